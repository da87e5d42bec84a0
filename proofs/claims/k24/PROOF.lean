import PyProof.Rows.All
import Wide.All
import OpenK.AllK
import Wide.FinOn
import PyProof.EqAt
import PyProof.EqKinds
import PyProof.NeKinds
import PyProof.TupleCall
import PyProof.StrWalks
import PyProof.ConsumeWalk
import PyProof.EnumMake
import PyProof.EnumFor
import PyProof.ListNew
import PyProof.ListRange
import PyProof.Rows.SortWalk
import PyProof.Rows.Range3
import PyProof.Rows.ChunkEnd
import PyProof.Rows.ChunkLeaf
import PyProof.Rows.StrInSeq
import Wide.Txt
import PyProof.DictIter
import PyProof.DictWalks
import PyProof.AttrMissHeap
import KE.KDictOf
import KE.KSortTup
import KE.KDictList
import KE.KRevIter
import PyProof.Rows.Own
import PyProof.ExcBaseAll.ValueError
import PyProof.RulesAs
import PyProof.NsDelKeeps
import PyProof.ExcClass3
import PyProof.ExcArgsOwn
import KE.KIsAll
import Lean
import PySem.Challenge.RW_laidfields_k24_whole_idle_bytes
set_option Elab.async false
set_option linter.all false
set_option maxRecDepth 100000
set_option maxHeartbeats 16000000
abbrev FG_:=PySem.W.Frag
abbrev MG_:=PySem.Str→Option PySem.Value
abbrev PN_:=List (PySem.Addr×PySem.Obj)
abbrev SV_:=PySem.Value→PySem.Shared→Prop
namespace L2
open PySem PySem.Spec PyProof.Rows
abbrev Key:=Sum Int Str
def keyIs:Key→Value→Bool
  | .inl k,v=>Value.isInt k v
  | .inr x,v=>Value.isStrOf x v
def keyH (w:World):Key→Int
  | .inl k=>hashInt k
  | .inr x=>hashStr w x
theorem bx_:∀ {k:Key} {v:Value},keyIs k v=true→(∃ i t,k=Sum.inl i∧v=Value.int i t)∨(∃ x t,k=Sum.inr x∧v=Value.str x t)
  | .inl i, v, h => by
    obtain ⟨t,e⟩:=Value.isInt_shape (k:=i) (v:=v) h
    exact .inl ⟨i,t,rfl,e⟩
  | .inr x, v, h => by
    obtain ⟨t,e⟩:=Value.isStrOf_shape (x:=x) (v:=v) h
    exact .inr ⟨x,t,rfl,e⟩
theorem keyIs_int (i:Int) (t:Tok):keyIs (.inl i) (.int i t)=true:=by simp [keyIs,Value.isInt]
theorem keyIs_str (x:Str) (t:Tok):keyIs (.inr x) (.str x t)=true:=by simp [keyIs,Value.isStrOf]
theorem key_ll (a b:Int):decide ((Sum.inl a:Key)=Sum.inl b)=(a == b):=by
  by_cases e:a=b
  · subst e; simp
  · have h : ¬ (Sum.inl a : Key) = Sum.inl b := fun q => e (Sum.inl.inj q)
    rw [decide_eq_false h]
    exact (beq_eq_false_iff_ne.mpr e).symm
theorem key_rr (a b:Str):decide ((Sum.inr a:Key)=Sum.inr b)=decide (a=b):=by
  by_cases e:a=b
  · subst e; simp
  · have h : ¬ (Sum.inr a : Key) = Sum.inr b := fun q => e (Sum.inr.inj q)
    rw [decide_eq_false h,decide_eq_false e]
theorem key_lr (a:Int) (b:Str):decide ((Sum.inl a:Key)=Sum.inr b)=false:=decide_eq_false (fun q=>nomatch q)
theorem key_rl (a:Str) (b:Int):decide ((Sum.inr a:Key)=Sum.inl b)=false:=decide_eq_false (fun q=>nomatch q)
def mixKind (prog:Program) (w:World):PySem.KeyKind prog w Key where
  is:=keyIs
  hash:=keyH w
  inj:=fun v a b ha hb=>by
    rcases bx_ ha with ⟨i,t,rfl,rfl⟩ | ⟨x,t,rfl,rfl⟩
    · rcases bx_ hb with ⟨j, u, rfl, e⟩ | ⟨y, u, rfl, e⟩
      · injection e with e1 _; rw [e1]
      · exact nomatch e
    · rcases bx_ hb with ⟨j, u, rfl, e⟩ | ⟨y, u, rfl, e⟩
      · exact nomatch e
      · injection e with e1 _; rw [e1]
  byValue:=fun k v h=>by
    rcases bx_ h with ⟨i,t,rfl,rfl⟩ | ⟨x,t,rfl,rfl⟩ <;> rfl
  pyHash:=fun hv h=>by
    rcases bx_ hv with ⟨i,t,rfl,rfl⟩ | ⟨x,t,rfl,rfl⟩
    · exact wpAny_pyHash_int h
    · exact wpAny_pyHash_str h
  eqBool:=fun hu hv h=>by
    rcases bx_ hu with ⟨i,t,rfl,rfl⟩ | ⟨x,t,rfl,rfl⟩
    · rcases bx_ hv with ⟨j, u, rfl, rfl⟩ | ⟨y, u, rfl, rfl⟩
      · rw [key_ll] at h; exact wpAny_eqBool_int h
      · rw [key_lr] at h; exact SeqAt.EqAt.int_str i t y u _ _ _ _ h
    · rcases bx_ hv with ⟨j, u, rfl, rfl⟩ | ⟨y, u, rfl, rfl⟩
      · rw [key_rl] at h; exact SeqAt.EqAt.str_int x t j u _ _ _ _ h
      · rw [key_rr] at h; exact wpAny_eqBool_str h
  «strs» := fun k x t v h=>by
    rcases bx_ h with ⟨i,u,rfl,e⟩ | ⟨y,u,rfl,e⟩
    · exact nomatch e
    · injection e with e1 _
      subst e1
      cases v <;> rfl
theorem mixKind_int (prog:Program) (w:World) (i:Int) (t:Tok):(mixKind prog w).is (.inl i) (.int i t)=true:=keyIs_int i t
theorem mixKind_str (prog:Program) (w:World) (x:Str) (t:Tok):(mixKind prog w).is (.inr x) (.str x t)=true:=keyIs_str x t
inductive V where
  | non | bl (b:Bool) | int (i:Int) | str (x:Str) | byt (b:Array UInt8) | flt (b:UInt64) | ref (a:Addr) | ty (n:String)
  deriving DecidableEq
def RelV:V→Value→Prop
  | .non,u=>u=Value.none
  | .bl b,u=>u=Value.bool b
  | .int i,u => ∃ t,u=Value.int i t
  | .str x,u => ∃ t,u=Value.str x t
  | .byt b,u => ∃ t,u=Value.bytes b t
  | .flt b,u => ∃ t,u=Value.float b t
  | .ref a,u=>u=Value.ref a
  | .ty n,u=>u=Value.type n
abbrev Vals:List V→List Value→Prop:=Paired RelV
theorem Vals.length {xs:List V} {us:List Value} (r:Vals xs us):xs.length=us.length:=Paired.length r
theorem Vals.get:∀ {xs:List V} {us:List Value} {i:Nat} {x:V},Vals xs us→xs[i]? = some x→∃ u,us[i]? = some u∧RelV x u
  | _,_,_,_,.nil,e=>by simp at e
  | _,_,0,_,.cons r _,e=>by simp at e; subst e; exact ⟨_,rfl,r⟩
  | _, _, i + 1, x, .cons _ t, e => by
    obtain ⟨u,h1,h2⟩:=Vals.get (i:=i) (x:=x) t (by simpa using e)
    exact ⟨u,by simpa using h1,h2⟩
theorem Vals.set {x:V} {u:Value} (r:RelV x u):∀ {xs:List V} {us:List Value} (i:Nat),Vals xs us→Vals (xs.set i x) (us.set i u)
  | _,_,_,.nil=>.nil
  | _,_,0,.cons _ t=>.cons r t
  | _,_,i + 1,.cons q t=>.cons q (Vals.set r i t)
theorem Vals.append:∀ {xs ys:List V} {us ws:List Value},Vals xs us→Vals ys ws→Vals (xs ++ ys) (us ++ ws)
  | _,_,_,_,.nil,s=>s
  | _,_,_,_,.cons r t,s=>.cons r (Vals.append t s)
theorem Vals.take:∀ {xs:List V} {us:List Value} (n:Nat),Vals xs us→Vals (xs.take n) (us.take n)
  | _,_,0,_=>.nil
  | _,_,_ + 1,.nil=>.nil
  | _,_,n + 1,.cons r t=>.cons r (Vals.take n t)
theorem Vals.drop:∀ {xs:List V} {us:List Value} (n:Nat),Vals xs us→Vals (xs.drop n) (us.drop n)
  | _,_,0,r=>r
  | _,_,_ + 1,.nil=>.nil
  | _,_,n + 1,.cons _ t=>Vals.drop n t
def RelO:Option V→Option Value→Prop
  | some v,some u=>RelV v u
  | none,none=>True
  | _,_=>False
def KV {κ:Type}:List (κ×V)→List (κ×Value)→Prop:=Paired fun (p:κ×V) (q:κ×Value)=>p.1=q.1∧RelV p.2 q.2
def kV:Key→V
  | .inl i=>.int i
  | .inr x=>.str x
inductive HO where
  /-- a list -/
  | lst (xs:List V)
  /-- a tuple (never changes) -/
  | tup (xs:List V)
  /-- a dict whose keys are ints and texts; one whose keys are tuples of ints and texts (the empty one is both) -/
  | dK (kvs:List (Key×V)) | dT (kvs:List (List Key×V))
  /-- a set of ints: its members,its size -/
  | set (S:Int→Bool) (n:Nat)
  /-- an instance of the class at C,its dict at dx,its attributes -/
  | ins (C dx:Addr) (fs:List (Str×V))
  /-- the dict of the instance at x -/
  | own (x:Addr)
  /-- the dict of an exception -/
  | xd (fs:List (Str×V))
  /-- a bound method,f of x -/
  | met (f x:Addr)
  /-- a range object lo,lo + 1,.. below hi -/
  | rng (lo hi:Int)
  /-- a thing that is known to the object (the script; a dict while a loop walks it): read,never written while it is so -/
  | frz (o:Obj) (u:HO)
  /-- a code object's table -/
  | tbl (ps:Array Value)
  /-- any other thing,by what is true of its one object (a def of one's own: SetO a S n:=HO.ext fun h=>..) -/
  | ext (φ:Heap→Prop)
abbrev Hp:=Addr→Option HO
def upd (H:Hp) (a:Addr) (o:HO):Hp:=fun b=>if b=a then some o else H b
theorem upd_same {H:Hp} {a:Addr} {o:HO}:upd H a o a=some o:=by unfold upd; rw [if_pos rfl]
theorem al_ {H:Hp} {a b:Addr} {o:HO} (h:b≠a):upd H a o b=H b:=by unfold upd; rw [if_neg h]
theorem ne_of {H:Hp} {a b:Addr} {o u:HO} (h:H a=some o) (h':H b=some u) (d:o≠u):a≠b:=by
  intro e; subst e; rw [h] at h'; exact d (Option.some.inj h')
theorem ax_ {H:Hp} {a b:Addr} {o:HO} (h:H a=some o) (h':H b=none):a≠b:=by
  intro e; subst e; rw [h] at h'; cases h'
section
variable (P:Program) (w:World)
def ObjOk (H:Hp) (h:Heap) (a:Addr):HO→Prop
  | .lst xs=>xs.length≤sizeLine∧∃ (its:List Value) (n:Nat),Vals xs its∧h.get? a=some { cls:=.type "list",data:=.seq its.toArray n }
  | .tup xs=>xs.length≤sizeLine∧∃ its:List Value,Vals xs its∧IsTup h a its.toArray
  | .dK kvs=>kvs.length≤sizeLine∧(a == sysModules)=false∧∃ vs,KV kvs vs∧h.DictOf (mixKind P w) a vs
  | .dT kvs=>kvs.length≤sizeLine∧(a == sysModules)=false∧∃ xs:List (List Key×Addr×Value),
      Paired (fun (p:List Key×V) (q:List Key×Addr×Value)=>p.1=q.1∧H q.2.1=some (.tup (p.1.map kV))∧RelV p.2 q.2.2) kvs xs ∧
      ∃ o es ep,h.get? a=some o∧o.ExactDict∧o.data=.dict es ep∧es.toList=xs.map (entryOfKey (tupleKind (mixKind P w)))∧(xs.map (·.1)).Nodup
  | .set S n=>h.SetOf (intKind P w) a S n
  | .ins C dx fs=>H dx=some (.own a)∧fs.length≤1000∧dx≠a∧h.get? a=some (PySem.W.instObj C dx) ∧
      ∃ mA,h.Ns1 dx mA∧(∀ f,RelO (fs.lookup f) (mA f))∧PySem.Within mA (fs.map (·.1))
  | .own _ => ∃ o,h.get? a=some o
  | .xd fs => ∃ mA,h.Ns1 a mA∧∀ f,RelO (fs.lookup f) (mA f)
  | .rng lo hi => ∃ t u v,h.get? a=some { cls:=.type "range",data:=.fields #[.int lo t,.int hi u,.int 1 v] }
  | .frz o u=>h.get? a=some o∧ObjOk H h a u
  | .tbl ps=>h.get? a=some { cls:=.none,data:=.fields ps }
  | .met f x=>h.get? a=some (PySem.W.methodObj (.ref f) (.ref x))
  | .ext φ=>φ h∧(∃ o,h.get? a=some o)∧∀ h1 h2:Heap,φ h1→(∀ o,h1.get? a=some o→h2.get? a=some o)→φ h2
def HOk (H:Hp) (h:Heap):Prop := ∀ a o,H a=some o→ObjOk P w H h a o
end
section
variable {P:Program} {w:World} {H H':Hp} {h h':Heap} {a:Addr} {o:HO}
theorem ObjOk.lt (x:ObjOk P w H h a o):a < h.objs.size:=by
  cases o with
  | lst xs=>obtain ⟨_,_,_,_,e⟩:=x; exact Heap.lt_size e
  | tup xs=>obtain ⟨_,_,_,p⟩:=x; exact p.lt
  | dK kvs=>obtain ⟨_,_,_,_,o,_,_,e,_⟩:=x; exact Heap.lt_size e
  | dT kvs=>obtain ⟨_,_,_,_,o,_,_,e,_⟩:=x; exact Heap.lt_size e
  | set S n=>obtain ⟨o,_,_,_,e,_⟩:=x; exact Heap.lt_size e
  | ins C dx fs=>obtain ⟨_,_,_,e,_⟩:=x; exact Heap.lt_size e
  | own y=>obtain ⟨_,e⟩:=x; exact Heap.lt_size e
  | xd fs=>obtain ⟨_,⟨_,_,_,e,_⟩,_⟩:=x; exact Heap.lt_size e
  | rng lo hi=>obtain ⟨_,_,_,e⟩:=x; exact Heap.lt_size e
  | frz ob u=>obtain ⟨e,_⟩:=x; exact Heap.lt_size e
  | tbl ps=>exact Heap.lt_size (show h.get? a=some _ from x)
  | met f y=>exact Heap.lt_size (show h.get? a=some _ from x)
  | ext φ=>obtain ⟨_,⟨_,e⟩,_⟩:=x; exact Heap.lt_size e
theorem Paired.mapP {α β:Type} {F G:α→β→Prop}:∀ {l₁:List α} {l₂:List β},Paired F l₁ l₂→(∀ a b,F a b→G a b)→Paired G l₁ l₂
  | _,_,.nil,_=>.nil
  | _,_,.cons r t,f=>.cons (f _ _ r) (Paired.mapP t f)
theorem ObjOk.stay (x:ObjOk P w H h a o) (k:∀ b u,(b=a∨H b=some (.own a))→h.get? b=some u→h'.get? b=some u)
    (ho:∀ b,H b=some (.own a)→H' b=some (.own a)) (ht:∀ b xs,H b=some (.tup xs)→H' b=some (.tup xs)):ObjOk P w H' h' a o:=by
  induction o with
  | lst xs=>obtain ⟨z,its,n,r,e⟩:=x; exact ⟨z,its,n,r,k _ _ (.inl rfl) e⟩
  | tup xs=>obtain ⟨z,its,r,ob,e,c⟩:=x; exact ⟨z,its,r,ob,k _ _ (.inl rfl) e,c⟩
  | dK kvs=>obtain ⟨z,y,vs,r,ob,es,ep,e,c⟩:=x; exact ⟨z,y,vs,r,ob,es,ep,k _ _ (.inl rfl) e,c⟩
  | dT kvs =>
    obtain ⟨z,y,xs,r,ob,es,ep,e,c⟩:=x
    exact ⟨z,y,xs,Paired.mapP r fun p q z=>⟨z.1,ht _ _ z.2.1,z.2.2⟩,ob,es,ep,k _ _ (.inl rfl) e,c⟩
  | set S n=>obtain ⟨ob,es,ep,t,e,c⟩:=x; exact ⟨ob,es,ep,t,k _ _ (.inl rfl) e,c⟩
  | ins C dx fs =>
    obtain ⟨d,z,ne,e,mA,⟨od,es,ep,e2,c⟩,r⟩:=x
    exact ⟨ho _ d,z,ne,k _ _ (.inl rfl) e,mA,⟨od,es,ep,k _ _ (.inr d) e2,c⟩,r⟩
  | own y=>obtain ⟨ob,e⟩:=x; exact ⟨ob,k _ _ (.inl rfl) e⟩
  | xd fs=>obtain ⟨mA,⟨od,es,ep,e,c⟩,r⟩:=x; exact ⟨mA,⟨od,es,ep,k _ _ (.inl rfl) e,c⟩,r⟩
  | rng lo hi=>obtain ⟨t,u,v,e⟩:=x; exact ⟨t,u,v,k _ _ (.inl rfl) e⟩
  | frz ob u ih=>obtain ⟨e,q⟩:=x; exact ⟨k _ _ (.inl rfl) e,ih q⟩
  | tbl ps =>
    have e:h.get? a=some { cls:=.none,data:=.fields ps }:=x
    show h'.get? a=some { cls:=.none,data:=.fields ps }
    exact k a _ (.inl rfl) e
  | met f y =>
    have e:h.get? a=some (PySem.W.methodObj (.ref f) (.ref y)):=x
    show h'.get? a=some (PySem.W.methodObj (.ref f) (.ref y))
    exact k a _ (.inl rfl) e
  | ext φ=>obtain ⟨p,⟨o,e⟩,st⟩:=x; exact ⟨st _ _ p fun o q=>k _ _ (.inl rfl) q,⟨o,k _ _ (.inl rfl) e⟩,st⟩
theorem HOk.lt (x:HOk P w H h) (e:H a=some o):a < h.objs.size:=(x a o e).lt
theorem HOk.fresh (x:HOk P w H h) (e:h.objs.size≤a):H a=none:=by
  cases q:H a with
  | none=>rfl
  | some u=>exact absurd (Nat.lt_of_lt_of_le (x.lt q) e) (Nat.lt_irrefl _)
theorem HOk.kept (x:HOk P w H h) (k:∀ b u,h.get? b=some u→h'.get? b=some u):HOk P w H h':=fun a o e =>
  (x a o e).stay (fun b u _ q=>k b u q) (fun _ q=>q) fun _ _ q=>q
theorem HOk.laid (x:HOk P w H h) (k:∀ b u,h.get? b=some u→h'.get? b=some u) (hp:h.objs.size≤a) (new:ObjOk P w (upd H a o) h' a o):HOk P w (upd H a o) h':=fun b u e=>by
  have hn:=x.fresh hp
  by_cases hb:b=a
  · subst hb; rw [upd_same] at e; cases e; exact new
  · rw [al_ hb] at e
    exact (x b u e).stay (fun c v _ q=>k c v q) (fun c q=>by rw [al_ (ax_ q hn)]; exact q) fun c xs q=>by rw [al_ (ax_ q hn)]; exact q
end
def Rd (H:Hp) (a:Addr) (u:HO):Prop:=H a=some u∨∃ o,H a=some (.frz o u)
theorem Rd.ok {P:Program} {w:World} {H:Hp} {h:Heap} {a:Addr} {u:HO} (r:Rd H a u) (x:HOk P w H h):ObjOk P w H h a u:=by
  rcases r with r | ⟨o,r⟩
  · exact x a u r
  · obtain ⟨_, q⟩ := x a _ r
    exact q
def Mut:Option HO→Prop
  | some (.lst _)=>True
  | some (.dK _)=>True
  | some (.dT _)=>True
  | some (.set _ _)=>True
  | some (.ins _ _ _)=>True
  | some (.ext _)=>True
  | _=>False
section
variable {P:Program} {w:World} {H:Hp} {h h':Heap} {x e:Addr} {o':HO}
theorem HOk.write (ok:HOk P w H h) (mu:Mut (H x)) (he:e=x∨H e=some (.own x)) (k:∀ b u,b≠e→h.get? b=some u→h'.get? b=some u) (heo:∃ u,h'.get? e=some u)
    (new:ObjOk P w (upd H x o') h' x o'):HOk P w (upd H x o') h':=fun b u q=>by
  have nown:∀ c y,H c=some (.own y)→c≠x:=fun c y r z=>by subst z; rw [r] at mu; exact mu
  have ntup:∀ c xs,H c=some (.tup xs)→c≠x:=fun c xs r z=>by subst z; rw [r] at mu; exact mu
  by_cases hb:b=x
  · subst hb; rw [upd_same] at q; cases q; exact new
  · rw [al_ hb] at q
    by_cases hbe:b=e
    · have q' : H b = some (.own x) := by
        rcases he with z | z
        · exact absurd (hbe.trans z) hb
        · rw [hbe]; exact z
      rw [q] at q'; cases q'
      obtain ⟨v,hv⟩:=heo
      exact ⟨v,by rw [hbe]; exact hv⟩
    · refine (ok b u q).stay (fun c v hc r => k c v ?_ r) (fun c r => by rw [al_ (nown c b r)]; exact r) fun c xs r => by rw [al_ (ntup c xs r)]; exact r
      rcases hc with rfl | hc
      · exact hbe
      · rintro rfl
        rcases he with z | z
        · exact nown c b hc z
        · rw [hc] at z; cases z; exact hb rfl
end
structure Un (fs ex:List Addr) (H H':Hp) (h h':Heap):Prop where
  keep:∀ b o,h.get? b=some o→H b=none→b∉fs→b∉ex→h'.get? b=some o
  slot:∀ b o,h.get? b=some o→H b=none→b∈fs→b∉ex→∃ sl,h'.get? b=some { o with slots:=sl }
  free:∀ b o,h.get? b=some o→H b=none→b∉ex→H' b=none
  there:∀ b o,h.get? b=some o→b∉ex→∃ o',h'.get? b=some o'
  tups:∀ b xs,H b=some (.tup xs)→H' b=some (.tup xs)
  frzs:∀ b o u,H b=some (.frz o u)→H' b=some (.frz o u)
  tbls:∀ b ps,H b=some (.tbl ps)→∃ more,H' b=some (.tbl (ps ++ more))
section
variable {fs fs' ex ex':List Addr} {H H1 H2:Hp} {h h1 h2 h':Heap} {a x e:Addr} {o:HO}
theorem Un.any (u:Un fs ex H H1 h h1) {b:Addr} {ob:Obj} (q:h.get? b=some ob) (n:H b=none) (hx:b∉ex):∃ sl,h1.get? b=some { ob with slots:=sl }:=by
  by_cases hb:b∈fs
  · exact u.slot b ob q n hb hx
  · exact ⟨ob.slots,u.keep b ob q n hb hx⟩
theorem Un.kept (k:∀ b u,h.get? b=some u→h'.get? b=some u):Un fs ex H H h h' :=
  ⟨fun b ob q _ _ _=>k b ob q,fun b ob q _ _ _=>⟨ob.slots,k b ob q⟩,fun _ _ _ n _=>n,fun b ob q _=>⟨ob,k b ob q⟩,fun _ _ q=>q,fun _ _ _ q=>q,fun _ ps q=>⟨#[],by rw [q]; simp⟩⟩
theorem Un.refl:Un fs ex H H h h:=Un.kept fun _ _ q=>q
theorem Un.laid (k:∀ b u,h.get? b=some u→h'.get? b=some u) (hp:h.objs.size≤a) (hn:H a=none):Un fs ex H (upd H a o) h h' where
  keep:=fun b u q _ _ _=>k b u q
  slot:=fun b u q _ _ _=>⟨u.slots,k b u q⟩
  free:=fun b u q n _=>by rw [al_ (Nat.ne_of_lt (Nat.lt_of_lt_of_le (Heap.lt_size q) hp))]; exact n
  there:=fun b u q _=>⟨u,k b u q⟩
  tups:=fun b xs q=>by rw [al_ (ax_ q hn)]; exact q
  frzs:=fun b u xs q=>by rw [al_ (ax_ q hn)]; exact q
  tbls:=fun b ps q=>⟨#[],by rw [al_ (ax_ q hn),q]; simp⟩
theorem Un.write (mu:Mut (H x)) (he:e=x∨H e=some (.own x)) (k:∀ b u,b≠e→h.get? b=some u→h'.get? b=some u) (heo:∃ u,h'.get? e=some u):Un fs ex H (upd H x o) h h':=by
  have hx:∀ b,H b=none→b≠x:=fun b n z=>by subst z; rw [n] at mu; exact mu
  have hb:∀ b,H b=none→b≠e:=fun b n z=>by
    subst z
    rcases he with r | r
    · exact hx b n r
    · rw [n] at r; cases r
  have hm:∀ b u,H b=some u→¬ Mut (some u)→b≠x:=fun b u q nm z=>by subst z; rw [q] at mu; exact nm mu
  refine ⟨fun b u q n _ _=>k b u (hb b n) q,fun b u q n _ _=>⟨u.slots,k b u (hb b n) q⟩,fun b u q n _=>by rw [al_ (hx b n)]; exact n,fun b u q _ => ?_,
    fun b xs q=>by rw [al_ (hm b _ q fun z=>z)]; exact q,fun b u xs q=>by rw [al_ (hm b _ q fun z=>z)]; exact q,fun b ps q=>⟨#[],by rw [al_ (hm b _ q fun z=>z),q]; simp⟩⟩
  by_cases hbe:b=e
  · subst hbe; exact heo
  · exact ⟨u,k b u hbe q⟩
end
def trk (h:Heap) (H:Hp):List Addr:=(List.range h.objs.size).filter fun a=>(H a).isSome
def hidT (h:Heap) (H:Hp):Heap:=PySem.W.hideAll h (trk h H)
theorem hidT_size (h:Heap) (H:Hp):(hidT h H).objs.size=h.objs.size:=PySem.W.hideAll_size _ _
theorem hidT_get {h:Heap} {H:Hp} {b:Addr} {o:Obj} (e:h.get? b=some o) (n:H b=none):(hidT h H).get? b=some o :=
  PySem.W.hideAll_get _ e fun hm=>by
    have q:(H b).isSome=true:=(List.mem_filter.mp hm).2
    rw [n] at q; simp at q
theorem of_hidT {h:Heap} {H:Hp} {b:Addr} {o:Obj} (e:(hidT h H).get? b=some o):h.get? b=some o∧H b=none:=by
  have e':h.get? b=some o:=PySem.W.of_hideAll (trk h H) e
  refine ⟨e',?_⟩
  cases q:H b with
  | none=>rfl
  | some x =>
    have hm:b∈trk h H:=List.mem_filter.mpr ⟨List.mem_range.mpr (Heap.lt_size e'),by simp [q]⟩
    have z:(hidT h H).get? b=none:=PySem.W.hideAll_none (trk h H) hm
    rw [z] at e; cases e
def allNews (g h:Heap) (L:Addr):List (Addr×Obj):=(List.range h.objs.size).filterMap fun a=>if a=L∨(g.get? a).isSome=true then none else (h.get? a).map fun o=>(a,o)
def rest (g h:Heap) (L d:Addr):List (Addr×Obj):=(allNews g h L).filter fun p=>decide (p.1≠d)
structure Mod (K:FG_) (mg:MG_) (base:Heap):Prop where
  kin:K.In base
  glob:base.Ns mainGlobals mg
  blt:∃ mb,base.Ns builtinsNs mb∧∀ x:Str,x ≠ "__name__" → mb x=bootBuiltins x
  nolimit:base.NoLimit
structure Cx where
  prog:Program
  w:World
  K:PySem.W.Frag
  mg:Str→Option Value
  base:Heap
  A:Around
  N:List Str
  s₀:Shared
  H₀:Hp
  env:Env
  outer:List Env
  stack:List Env
  ex:List Addr
  fn:Str→Bool
  calm:Bool
  pn:List (Addr×Obj)
  xe:Value→Shared→Prop
def frs (l:List Env):List Addr:=l.filterMap (·.frame)
abbrev Cx.fs (X:Cx):List Addr:=frs X.outer
def Vis (sc:Scope) (x:Str):Prop:=sc.names.lookup x=some .local∨sc.names.lookup x=some .cell∨sc.names.lookup x=some .free
def Loc (sc:Scope) (x:Str):Prop:=sc.names.lookup x=some .local∨sc.names.lookup x=some .cell
def Look (env:Env) (h:Heap) (m:MG_) (x:Str) (u:Value):Prop :=
  (env.kindOf x=some .local∧m x=some u)∨((env.kindOf x=some .cell∨env.kindOf x=some .free)∧∃ c,env.cells.lookup x=some c∧h.IsCell c (some u))
structure Cx.Ok (X:Cx):Prop where
  mod:Mod X.K X.mg X.base
  kind:X.env.scope.kind=.function
  glob:X.env.globals=mainGlobals
  blt:X.env.builtins=builtinsNs
  above:X.s₀.heap.objs.size≤X.env.locals
  inj:∀ x y c,X.env.cells.lookup x=some c→X.env.cells.lookup y=some c→x=y
  has:∀ x,(X.env.kindOf x=some .cell∨X.env.kindOf x=some .free)→∃ c,X.env.cells.lookup x=some c
  cab:∀ x c,X.fn x=true→X.env.cells.lookup x=some c→X.s₀.heap.objs.size≤c
  hd:X.calm=true→X.A.handled=none
  frames:X.A.frames=some X.stack
  stk:X.stack=X.outer∨(X.stack=X.env :: X.outer∧X.env.frame=some X.env.locals)
  exf:∀ b∈X.ex,b≠X.env.locals∧∀ x c,X.env.cells.lookup x=some c→c≠b
  bs:∀ b o,X.base.get? b=some o→X.s₀.heap.get? b=some o∧X.H₀ b=none
  bsz:X.base.objs.size≤X.s₀.heap.objs.size
  noex:∀ b o,X.base.get? b=some o→b∉X.ex
  exfs:∀ b∈X.ex,b∉X.fs
  funs:X.s₀.heap.FunFrames X.base X.outer
  frf:∀ b∈X.fs,X.H₀ b=none
structure Inv (X:Cx) (pins:PN_) (σ:List (Option V)) (H:Hp) (s:Shared):Prop where
  ok:X.Ok
  os:s.os=X.s₀.os
  bare:AllBare s.gens
  base:Un X.fs X.ex X.H₀ H X.s₀.heap s.heap
  loc:∃ m,s.heap.Ns X.env.locals m∧∀ (i:Nat) (x:Str) (v:V),X.N[i]? = some x→σ[i]? = some (some v)→Vis X.env.scope x→∃ u,RelV v u∧Look X.env s.heap m x u
  cell:∀ x c,X.env.cells.lookup x=some c→∃ v,s.heap.IsCell c v
  free:H X.env.locals=none
  freeC:∀ x c,X.env.cells.lookup x=some c→H c=none
  pin:∀ p∈X.pn ++ pins,s.heap.get? p.1=some p.2∧H p.1=none∧p.1≠X.env.locals∧p.1∉X.fs∧∀ v,p.2.data ≠ .cell v
  hok:HOk X.prog X.w H s.heap
  len:σ.length=X.N.length
section
variable {X:Cx} {pins:PN_} {σ:List (Option V)} {H H':Hp} {s:Shared} {h':Heap}
theorem Cx.Ok.nofr (ok:X.Ok) {b:Addr} {o:Obj} (e:X.base.get? b=some o):b∉X.fs:=fun hb=>by
  have:=(ok.funs.mem hb).1
  rw [e] at this; cases this
theorem Inv.bs (I:Inv X pins σ H s):∀ b o,X.base.get? b=some o→s.heap.get? b=some o∧H b=none:=fun b o e =>
  ⟨I.base.keep b o (I.ok.bs b o e).1 (I.ok.bs b o e).2 (I.ok.nofr e) (I.ok.noex b o e),I.base.free b o (I.ok.bs b o e).1 (I.ok.bs b o e).2 (I.ok.noex b o e)⟩
theorem Inv.bk (I:Inv X pins σ H s):∀ b o,X.base.get? b=some o→s.heap.get? b=some o:=fun b o e=>(I.bs b o e).1
theorem Inv.mod (I:Inv X pins σ H s):Mod X.K X.mg X.base:=I.ok.mod
theorem Inv.kIn (I:Inv X pins σ H s):X.K.In s.heap:=I.ok.mod.kin.keeps I.bk
theorem Inv.fr (I:Inv X pins σ H s):∃ m,Fr X.base X.env.locals s.heap m :=
  let ⟨m,hn,_⟩:=I.loc
  ⟨m,hn,I.bk,Nat.le_trans I.ok.bsz I.ok.above⟩
theorem Inv.lt (I:Inv X pins σ H s):X.env.locals < s.heap.objs.size:=let ⟨_,hn,_⟩:=I.loc; hn.lt
theorem Inv.sz (I:Inv X pins σ H s):X.s₀.heap.objs.size≤s.heap.objs.size:=Nat.le_trans I.ok.above (Nat.le_of_lt I.lt)
theorem Inv.nofs (I:Inv X pins σ H s) {a:Addr} (h:s.heap.objs.size≤a):a∉X.fs:=fun hb=>by
  obtain ⟨_,o,ho,_⟩:=I.ok.funs.mem hb
  exact absurd (Nat.lt_of_lt_of_le (Heap.lt_size ho) (Nat.le_trans I.sz h)) (Nat.lt_irrefl _)
theorem Inv.cne (I:Inv X pins σ H s):∀ x c,X.env.cells.lookup x=some c→c≠X.env.locals:=fun x c e z=>by
  obtain ⟨v,o,ho,hd⟩:=I.cell x c e
  obtain ⟨m,⟨o',es,ep,ho',hd',_⟩,_⟩:=I.loc
  rw [z,ho'] at ho; cases ho; rw [hd'] at hd; cases hd
theorem Inv.funs (I:Inv X pins σ H s):s.heap.FunFrames X.base X.outer:=by
  have all:∀ (l:List Env),(∀ b∈frs l,b∈X.fs)→X.s₀.heap.FunFrames X.base l→s.heap.FunFrames X.base l:=by
    intro l
    induction l with
    | nil=>intro _ _; trivial
    | cons env r ih =>
      intro hs hl
      obtain ⟨hk,⟨L,o,hf,hn,ho,hd⟩,hr⟩:=hl
      have hL:L∈X.fs:=hs L (by unfold frs; rw [List.filterMap_cons,hf]; exact List.mem_cons_self)
      obtain ⟨sl,e⟩:=I.base.slot L o ho (I.ok.frf L hL) hL fun z=>I.ok.exfs L z hL
      exact ⟨hk,⟨L,_,hf,hn,e,hd⟩,ih (fun b hb=>hs b (by unfold frs; rw [List.filterMap_cons,hf]; exact List.mem_cons_of_mem _ hb)) hr⟩
  exact all X.outer (fun _ hb=>hb) I.ok.funs
theorem Inv.stack (I:Inv X pins σ H s):s.heap.FunFrames X.base X.stack:=by
  rcases I.ok.stk with e | ⟨e,hf⟩
  · rw [e]; exact I.funs
  · rw [e]
    obtain ⟨m,hn,_⟩:=I.loc
    refine .cons (by rw [I.ok.kind]; decide) hf hn ?_ I.funs
    exact Heap.get?_none_of_le (Nat.le_trans I.ok.bsz I.ok.above)
theorem Inv.stkSub (I:Inv X pins σ H s):∀ b∈frs X.stack,b∈X.env.locals :: X.fs:=fun b hb=>by
  rcases I.ok.stk with e | ⟨e,hf⟩
  · rw [e] at hb; exact List.mem_cons_of_mem _ hb
  · rw [e] at hb
    unfold frs at hb
    rw [List.filterMap_cons,hf] at hb
    exact hb
theorem Inv.stkFree (I:Inv X pins σ H s):∀ b∈frs X.stack,H b=none:=fun b hb=>by
  rcases List.mem_cons.mp (I.stkSub b hb) with e | hb
  · rw [e]; exact I.free
  · obtain ⟨_, o, ho, _⟩ := I.ok.funs.mem hb
    exact I.base.free b o ho (I.ok.frf b hb) fun z=>I.ok.exfs b z hb
theorem Inv.step {g':Array GenState} {t':Nat} {d':Drawn} {ch:List Addr} (I:Inv X pins σ H s)
    (hch:∀ b∈ch,(b∈X.ex∨X.s₀.heap.objs.size≤b)∧b≠X.env.locals∧(∀ x c,X.env.cells.lookup x=some c→c≠b)∧∀ p∈X.pn ++ pins,p.1≠b)
    (keep:∀ b o,b≠X.env.locals→b∉X.fs→b∉ch→s.heap.get? b=some o→H b=none→h'.get? b=some o)
    (slot:∀ b o,b≠X.env.locals→b∈X.fs→b∉ch→s.heap.get? b=some o→H b=none→∃ sl,h'.get? b=some { o with slots:=sl }) (free:∀ b o,b∉ch→s.heap.get? b=some o→H b=none→H' b=none)
    (there:∀ b o,b∉ch→s.heap.get? b=some o→∃ o',h'.get? b=some o')
    (tups:∀ b xs,H b=some (.tup xs)→H' b=some (.tup xs)) (frzs:∀ b o u,H b=some (.frz o u)→H' b=some (.frz o u)) (tbls:∀ b ps,H b=some (.tbl ps)→∃ more,H' b=some (.tbl (ps ++ more)))
    (ns:∀ m,s.heap.Ns X.env.locals m→h'.Ns X.env.locals m) (hok:HOk X.prog X.w H' h') (hg:AllBare g') :
    Inv X pins σ H' { s with heap:=h',gens:=g',drawn:=d',toks:=t' }:=by
  have neL:∀ b o,X.s₀.heap.get? b=some o→b≠X.env.locals:=fun b o e=>Nat.ne_of_lt (Nat.lt_of_lt_of_le (Heap.lt_size e) I.ok.above)
  have neC:∀ b o,X.s₀.heap.get? b=some o→b∉X.ex→b∉ch:=fun b o e hx hb=>by
    rcases (hch b hb).1 with z | z
    · exact hx z
    · exact absurd (Nat.lt_of_lt_of_le (Heap.lt_size e) z) (Nat.lt_irrefl _)
  have cellK:∀ x c,X.env.cells.lookup x=some c→∀ v,s.heap.IsCell c v→h'.IsCell c v:=fun x c e v ⟨o,ho,hd⟩=>by
    have nch:c∉ch:=fun z=>(hch c z).2.2.1 x c e rfl
    by_cases hc:c∈X.fs
    · obtain ⟨sl, q⟩ := slot c o (I.cne x c e) hc nch ho (I.freeC x c e)
      exact ⟨_,q,hd⟩
    · exact ⟨o,keep c o (I.cne x c e) hc nch ho (I.freeC x c e),hd⟩
  refine ⟨I.ok,I.os,hg,⟨fun b o e n hb hx => ?_,fun b o e n hb hx => ?_,fun b o e n hx => ?_,fun b o e hx => ?_,fun b xs e=>tups b xs (I.base.tups b xs e),fun b o xs e=>frzs b o xs (I.base.frzs b o xs e),fun b ps e => ?_⟩,?_,fun x c e => ?_,?_,fun x c e => ?_,fun p hp => ?_,hok,I.len⟩
  · exact keep b o (neL b o e) hb (neC b o e hx) (I.base.keep b o e n hb hx) (I.base.free b o e n hx)
  · obtain ⟨sl, e1⟩ := I.base.slot b o e n hb hx
    obtain ⟨sl',e2⟩:=slot b _ (neL b o e) hb (neC b o e hx) e1 (I.base.free b o e n hx)
    exact ⟨sl',e2⟩
  · obtain ⟨o', e1⟩ := I.base.there b o e hx
    exact free b o' (neC b o e hx) e1 (I.base.free b o e n hx)
  · obtain ⟨o', e1⟩ := I.base.there b o e hx
    exact there b o' (neC b o e hx) e1
  · obtain ⟨m1, e1⟩ := I.base.tbls b ps e
    obtain ⟨m2,e2⟩:=tbls b _ e1
    exact ⟨m1 ++ m2,by rw [e2,Array.append_assoc]⟩
  · obtain ⟨m, hn, hl⟩ := I.loc
    refine ⟨m,ns m hn,fun i x v e1 e2 e3 => ?_⟩
    obtain ⟨u,r,l⟩:=hl i x v e1 e2 e3
    refine ⟨u,r,?_⟩
    rcases l with l | ⟨k,c,e,z⟩
    · exact .inl l
    · exact .inr ⟨k,c,e,cellK x c e _ z⟩
  · obtain ⟨v, z⟩ := I.cell x c e
    exact ⟨v,cellK x c e v z⟩
  · obtain ⟨m, ⟨o, _, _, ho, _⟩, _⟩ := I.loc
    exact free _ o (fun z=>(hch _ z).2.1 rfl) ho I.free
  · obtain ⟨v, o, ho, hd⟩ := I.cell x c e
    exact free c o (fun z=>(hch c z).2.2.1 x c e rfl) ho (I.freeC x c e)
  · obtain ⟨e, n, ne, nf, d⟩ := I.pin p hp
    have nch:p.1∉ch:=fun z=>(hch p.1 z).2.2.2 p hp rfl
    exact ⟨keep p.1 p.2 ne nf nch e n,free p.1 p.2 nch e n,ne,nf,d⟩
theorem Inv.un {t':Nat} (I:Inv X pins σ H s) (u:Un X.fs [] H H' s.heap h') (hok:HOk X.prog X.w H' h'):Inv X pins σ H' { s with heap:=h',toks:=t' }:=by
  obtain ⟨m,⟨o,es,ep,ho,r⟩,_⟩:=id I.loc
  obtain ⟨sl,hL⟩:=u.any ho I.free (by simp)
  exact I.step (g':=s.gens) (d':=s.drawn) (ch:=[]) (fun _ z=>nomatch z) (fun b o _ hb _ e n=>u.keep b o e n hb (by simp)) (fun b o _ hb _ e n=>u.slot b o e n hb (by simp)) (fun b o _ e n=>u.free b o e n (by simp)) (fun b o _ e=>u.there b o e (by simp)) u.tups u.frzs u.tbls (fun m' hm=>by
    obtain ⟨o',es',ep',ho',r'⟩:=hm
    rw [ho] at ho'; cases ho'
    exact ⟨_,es',ep',hL,r'⟩) hok I.bare
theorem Inv.call {g':Array GenState} {t':Nat} {d':Drawn} {ch:List Addr} (I:Inv X pins σ H s) (u:Un (frs X.stack) ch H H' s.heap h') (hok:HOk X.prog X.w H' h') (hg:AllBare g')
    (hch:∀ b∈ch,(b∈X.ex∨X.s₀.heap.objs.size≤b)∧b≠X.env.locals∧(∀ x c,X.env.cells.lookup x=some c→c≠b)∧∀ p∈X.pn ++ pins,p.1≠b) :
    Inv X pins σ H' { s with heap:=h',gens:=g',drawn:=d',toks:=t' }:=by
  obtain ⟨m,⟨o,es,ep,ho,r⟩,_⟩:=id I.loc
  obtain ⟨sl,hL⟩:=u.any ho I.free fun z=>(hch _ z).2.1 rfl
  exact I.step (ch:=ch) hch (fun b o hL hb hc e n=>u.keep b o e n (fun z=>(List.mem_cons.mp (I.stkSub b z)).elim hL hb) hc) (fun b o _ _ hc e n=>u.any e n hc) (fun b o hc e n=>u.free b o e n hc) (fun b o hc e=>u.there b o e hc) u.tups u.frzs u.tbls (fun m' hm=>by
    obtain ⟨o',es',ep',ho',r'⟩:=hm
    rw [ho] at ho'; cases ho'
    exact ⟨_,es',ep',hL,r'⟩) hok hg
theorem Inv.turned {t':Nat} {it:Addr} (I:Inv X pins σ H s) (k:∀ b o,b≠it→s.heap.get? b=some o→h'.get? b=some o) (hn:H it=none) (hL:it≠X.env.locals)
    (h1:it∈X.ex∨X.s₀.heap.objs.size≤it) (h2:∀ x c,X.env.cells.lookup x=some c→c≠it) (h3:∀ p∈X.pn ++ pins,p.1≠it):Inv X pins σ H { s with heap:=h',toks:=t' }:=by
  have nit:∀ b u,H b=some u→b≠it:=fun b u e z=>by rw [z,hn] at e; cases e
  refine I.step (g':=s.gens) (d':=s.drawn) (ch:=[it]) (fun b hb => ?_) (fun b o _ _ hc e _=>k b o (fun z=>hc (by simp [z])) e) (fun b o _ _ hc e _=>⟨o.slots,k b o (fun z=>hc (by simp [z])) e⟩) (fun _ _ _ _ n=>n)
    (fun b o hc e=>⟨o,k b o (fun z=>hc (by simp [z])) e⟩) (fun _ _ e=>e) (fun _ _ _ e=>e) (fun b ps e=>⟨#[],by rw [e]; simp⟩) (fun m hm => ?_) (fun b u e => ?_) I.bare
  · have e : b = it := by simpa using hb
    subst e
    exact ⟨h1,hL,h2,h3⟩
  · obtain ⟨o, es, ep, ho, r⟩ := hm
    exact ⟨o,es,ep,k _ o (Ne.symm hL) ho,r⟩
  · refine (I.hok b u e).stay (fun c v hc q => k c v ?_ q) (fun _ q => q) fun _ _ q => q
    rcases hc with z | z
    · rw [z]; exact nit b u e
    · exact nit c _ z
theorem Inv.tok (I:Inv X pins σ H s) (t:Nat):Inv X pins σ H { s with toks:=t }:=I.un (h':=s.heap) (t':=t) Un.refl I.hok
theorem Inv.kept {t':Nat} (I:Inv X pins σ H s) (k:∀ b u,s.heap.get? b=some u→h'.get? b=some u):Inv X pins σ H { s with heap:=h',toks:=t' }:=I.un (Un.kept k) (I.hok.kept k)
theorem Inv.laid {a:Addr} {o:HO} {t':Nat} (I:Inv X pins σ H s) (k:∀ b u,s.heap.get? b=some u→h'.get? b=some u) (hp:s.heap.objs.size≤a) (new:ObjOk X.prog X.w (upd H a o) h' a o) :
    Inv X pins σ (upd H a o) { s with heap:=h',toks:=t' }:=I.un (Un.laid k hp (I.hok.fresh hp)) (I.hok.laid k hp new)
theorem Inv.write {x e:Addr} {o:HO} {t':Nat} (I:Inv X pins σ H s) (mu:Mut (H x)) (he:e=x∨H e=some (.own x)) (k:∀ b u,b≠e→s.heap.get? b=some u→h'.get? b=some u) (heo:∃ u,h'.get? e=some u)
    (new:ObjOk X.prog X.w (upd H x o) h' x o):Inv X pins σ (upd H x o) { s with heap:=h',toks:=t' }:=I.un (Un.write mu he k heo) (I.hok.write mu he k heo new)
theorem Inv.weak {σ':List (Option V)} (I:Inv X pins σ H s) (hl:σ'.length=σ.length) (w:∀ (i:Nat) v,σ'[i]? = some (some v)→σ[i]? = some (some v)):Inv X pins σ' H s :=
  ⟨I.ok,I.os,I.bare,I.base,let ⟨m,hn,hl'⟩:=I.loc; ⟨m,hn,fun i x v e1 e2 e3=>hl' i x v e1 (w i v e2) e3⟩,I.cell,I.free,I.freeC,I.pin,I.hok,hl.trans I.len⟩
theorem Inv.pins_of {pins':PN_} (I:Inv X pins σ H s) (h:∀ p∈pins',s.heap.get? p.1=some p.2∧H p.1=none∧p.1≠X.env.locals∧p.1∉X.fs∧∀ v,p.2.data ≠ .cell v):Inv X pins' σ H s :=
  ⟨I.ok,I.os,I.bare,I.base,I.loc,I.cell,I.free,I.freeC,fun p hp=>(List.mem_append.mp hp).elim (fun z=>I.pin p (List.mem_append_left _ z)) (h p),I.hok,I.len⟩
theorem nodup_ix {N:List Str} (hN:N.Nodup) {i j:Nat} {x:Str} (a:N[i]? = some x) (b:N[j]? = some x):i=j:=by
  obtain ⟨h1,e1⟩:=List.getElem?_eq_some_iff.mp a
  obtain ⟨h2,e2⟩:=List.getElem?_eq_some_iff.mp b
  exact (List.getElem_inj hN).mp (e1.trans e2.symm)
theorem id_ {M:Model} {A:Around} {E:SV_} {i:Nat} {x:Str} {v:V} {u:Value} {Q:Unit→Shared→Prop} (I:Inv X pins σ H s) (hN:X.N.Nodup) (hi:X.N[i]? = some x) (hx:Loc X.env.scope x) (r:RelV v u)
    (h:∀ s',Inv X pins (σ.set i (some v)) H s'→(∃ a,Heap.SameBut a s.heap s'.heap∧(a=X.env.locals∨X.env.cells.lookup x=some a))→Q () s') (hf:X.fn x=true∨X.env.scope.names.lookup x=some .local:=by first | exact .inl rfl | exact .inr rfl | assumption):wpAny M A (storeName X.env x u) Q E s:=by
  obtain ⟨m,hn,hl⟩:=id I.loc
  have hcls:(X.env.scope.kind == .class || (X.env.scope.kind == .module && X.env.locals != X.env.globals))=false:=by rw [I.ok.kind]; rfl
  have hiσ:i < σ.length:=by rw [I.len]; exact (List.getElem?_eq_some_iff.mp hi).1
  have cne:=I.cne
  have tracked:∀ {a:Addr} {h':Heap},(∃ o,s.heap.get? a=some o∧H a=none)→Heap.SameBut a s.heap h'→HOk X.prog X.w H h':=fun {a h'} ha hs b ob e=>by
    obtain ⟨_,_,hfree⟩:=ha
    refine (I.hok b ob e).stay (fun c w' hc q=>(hs.2 c ?_).trans q) (fun _ q=>q) fun _ _ q=>q
    rintro rfl
    rcases hc with rfl | hc
    · rw [hfree] at e; cases e
    · rw [hfree] at hc; cases hc
  rcases hx with hk | hk
  · refine wpAny_storeName_local hk hn (fun h' hn' hs => ?_) hcls
    obtain ⟨oL,_,_,hoL,_⟩:=id hn
    refine h _ ⟨I.ok,I.os,I.bare,⟨fun b o e n hb hx => ?_,fun b o e n hb hx => ?_,I.base.free,fun b o e hx => ?_,I.base.tups,I.base.frzs,I.base.tbls⟩,⟨_,hn',fun j y v' e1 e2 e3 => ?_⟩,fun y c e => ?_,I.free,I.freeC,fun p hp => ?_,tracked ⟨oL,hoL,I.free⟩ hs,by simpa using I.len⟩ ⟨_,hs,.inl rfl⟩
    · exact (hs.2 b (Nat.ne_of_lt (Nat.lt_of_lt_of_le (Heap.lt_size e) I.ok.above))).trans (I.base.keep b o e n hb hx)
    · obtain ⟨sl, e1⟩ := I.base.slot b o e n hb hx
      exact ⟨sl,(hs.2 b (Nat.ne_of_lt (Nat.lt_of_lt_of_le (Heap.lt_size e) I.ok.above))).trans e1⟩
    · obtain ⟨o', e1⟩ := I.base.there b o e hx
      exact ⟨o',(hs.2 b (Nat.ne_of_lt (Nat.lt_of_lt_of_le (Heap.lt_size e) I.ok.above))).trans e1⟩
    · by_cases hj : j = i
      · subst hj
        rw [hi] at e1; cases e1
        rw [List.getElem?_set_self hiσ] at e2
        cases e2
        exact ⟨u,r,.inl ⟨hk,by simp⟩⟩
      · rw [List.getElem?_set_ne (Ne.symm hj)] at e2
        obtain ⟨u',r',q⟩:=hl j y v' e1 e2 e3
        refine ⟨u',r',?_⟩
        rcases q with ⟨k,e⟩ | ⟨k,c,e,z⟩
        · refine .inl ⟨k, ?_⟩
          have:y≠x:=fun e=>hj (nodup_ix hN e1 (e ▸ hi))
          simp [this,e]
        · exact .inr ⟨k,c,e,z.sameBut hs (cne y c e)⟩
    · obtain ⟨w', z⟩ := I.cell y c e
      exact ⟨w',z.sameBut hs (cne y c e)⟩
    · obtain ⟨e, n, ne, nf, d⟩ := I.pin p hp
      exact ⟨(hs.2 p.1 ne).trans e,n,ne,nf,d⟩
  · have hfn : X.fn x = true := by
      rcases hf with z | z
      · exact z
      · rw [z] at hk; cases hk
    obtain ⟨c,hc⟩:=I.ok.has x (.inl hk)
    obtain ⟨w',z⟩:=I.cell x c hc
    refine wpAny_storeName_cell I.ok.kind hk hc z (fun h' hc' hs => ?_)
    obtain ⟨oc,hoc,hocd⟩:=id z
    refine h { s with heap:=h' } ⟨I.ok,I.os,I.bare,⟨fun b o e n hb hx => ?_,fun b o e n hb hx => ?_,I.base.free,fun b o e hx => ?_,I.base.tups,I.base.frzs,I.base.tbls⟩,⟨m,hn.sameBut hs (Ne.symm (cne x c hc)),fun j y v' e1 e2 e3 => ?_⟩,fun y c' e => ?_,I.free,I.freeC,fun p hp => ?_,tracked ⟨oc,hoc,I.freeC x c hc⟩ hs,by simpa using I.len⟩ ⟨c,hs,.inr hc⟩
    · exact (hs.2 b (Nat.ne_of_lt (Nat.lt_of_lt_of_le (Heap.lt_size e) (I.ok.cab x c hfn hc)))).trans (I.base.keep b o e n hb hx)
    · obtain ⟨sl, e1⟩ := I.base.slot b o e n hb hx
      exact ⟨sl,(hs.2 b (Nat.ne_of_lt (Nat.lt_of_lt_of_le (Heap.lt_size e) (I.ok.cab x c hfn hc)))).trans e1⟩
    · obtain ⟨o', e1⟩ := I.base.there b o e hx
      exact ⟨o',(hs.2 b (Nat.ne_of_lt (Nat.lt_of_lt_of_le (Heap.lt_size e) (I.ok.cab x c hfn hc)))).trans e1⟩
    · by_cases hj : j = i
      · subst hj
        rw [hi] at e1; cases e1
        rw [List.getElem?_set_self hiσ] at e2
        cases e2
        exact ⟨u,r,.inr ⟨.inl hk,c,hc,hc'⟩⟩
      · rw [List.getElem?_set_ne (Ne.symm hj)] at e2
        obtain ⟨u',r',q⟩:=hl j y v' e1 e2 e3
        refine ⟨u',r',?_⟩
        rcases q with q | ⟨k,c',e,z'⟩
        · exact .inl q
        · refine .inr ⟨k, c', e, z'.sameBut hs ?_⟩
          rintro rfl
          exact hj (nodup_ix hN e1 (I.ok.inj _ _ _ e hc ▸ hi))
    · by_cases hcc : c' = c
      · subst hcc; exact ⟨_,hc'⟩
      · obtain ⟨w2, z2⟩ := I.cell y c' e
        exact ⟨w2,z2.sameBut hs hcc⟩
    · obtain ⟨e, n, ne, nf, d⟩ := I.pin p hp
      refine ⟨(hs.2 p.1 ?_).trans e,n,ne,nf,d⟩
      intro q
      rw [q,hoc] at e
      have q':oc=p.2:=Option.some.inj e
      exact d w' (by rw [← q']; exact hocd)
theorem store_ok {M:Model} {A:Around} {E:SV_} {i:Nat} {x:Str} {v:V} {u:Value} {Q:Unit→Shared→Prop} (I:Inv X pins σ H s) (hN:X.N.Nodup) (hi:X.N[i]? = some x) (hx:Loc X.env.scope x) (r:RelV v u)
    (h:∀ s',Inv X pins (σ.set i (some v)) H s'→Q () s') (hf:X.fn x=true∨X.env.scope.names.lookup x=some .local:=by first | exact .inl rfl | exact .inr rfl | assumption):wpAny M A (storeName X.env x u) Q E s :=
  id_ I hN hi hx r (fun s' I' _=>h s' I') hf
theorem Inv.call' {s':Shared} {ch:List Addr} (I:Inv X pins σ H s) (ho:s'.os=s.os) (u:Un (frs X.stack) ch H H' s.heap s'.heap) (hok:HOk X.prog X.w H' s'.heap) (hg:AllBare s'.gens)
    (hch:∀ b∈ch,(b∈X.ex∨X.s₀.heap.objs.size≤b)∧b≠X.env.locals∧(∀ x c,X.env.cells.lookup x=some c→c≠b)∧∀ p∈X.pn ++ pins,p.1≠b):Inv X pins σ H' s':=by
  obtain ⟨h',g',d',t',o'⟩:=s'
  have e:o'=s.os:=ho
  subst e
  exact I.call (g':=g') (t':=t') (d':=d') u hok hg hch
end
abbrev XK:=Value→Option Addr→Hp→Prop
abbrev St:=List (Option V)
abbrev VK:=V→Hp→Prop
abbrev TE:=St→Hp→VK→Prop
abbrev TT:=St→Hp→(Bool→Hp→Prop)→Prop
abbrev TA:=St→Hp→(List V→Hp→Prop)→Prop
structure Ends where
  nx:St→Hp→Prop
  rt:VK
  bk:St→Hp→Prop:=fun _ _=>False
  ct:St→Hp→Prop:=fun _ _=>False
abbrev TS:=Ends→St→Hp→Prop
def EP (X:Cx) (pins:PN_) (σ:St) (Q:VK) (u:Value) (s':Shared):Prop := ∃ v H',Inv X pins σ H' s'∧RelV v u∧Q v H'
def TP (X:Cx) (pins:PN_) (σ:St) (Q:Bool→Hp→Prop) (b:Bool) (s':Shared):Prop := ∃ H',Inv X pins σ H' s'∧Q b H'
def AP (X:Cx) (pins:PN_) (σ:St) (Q:List V→Hp→Prop) (us:List Value) (s':Shared):Prop := ∃ vs H',Inv X pins σ H' s'∧Vals vs us∧Q vs H'
def SP (X:Cx) (pins:PN_) (D:Ends) (f:Flow) (s':Shared):Prop :=
  match f with
  | .next => ∃ σ' H',Inv X pins σ' H' s'∧D.nx σ' H'
  | .brk => ∃ σ' H',Inv X pins σ' H' s'∧D.bk σ' H'
  | .cont => ∃ σ' H',Inv X pins σ' H' s'∧D.ct σ' H'
  | .ret u => ∃ v σ' H',Inv X pins σ' H' s'∧RelV v u∧D.rt v H'
def PE (X:Cx) (e:Expr) (t:TE):Prop :=
  ∀ (pins:PN_) (s:Shared) (σ:St) (H:Hp) (Q:VK),Inv X pins σ H s→t σ H Q→wpAny (model X.prog X.w) X.A (eval e X.env) (EP X pins σ Q) X.xe s
def PT (X:Cx) (e:Expr) (t:TT):Prop :=
  ∀ (pins:PN_) (s:Shared) (σ:St) (H:Hp) (Q:Bool→Hp→Prop),Inv X pins σ H s→t σ H Q→wpAny (model X.prog X.w) X.A (isTrue e X.env (eval e X.env)) (TP X pins σ Q) X.xe s
def PW (X:Cx) (e:Expr) (t:TT):Prop :=
  ∀ (whole:Sem Value) (pins:PN_) (s:Shared) (σ:St) (H:Hp) (Q:Bool→Hp→Prop),Inv X pins σ H s→t σ H Q→wpAny (model X.prog X.w) X.A (isTrue e X.env whole) (TP X pins σ Q) X.xe s
theorem PW.pt {X:Cx} {e:Expr} {t:TT} (h:PW X e t):PT X e t:=h _
def PA (X:Cx) (es:List Expr) (t:TA):Prop :=
  ∀ (pos:Pos) (pins:PN_) (s:Shared) (σ:St) (H:Hp) (Q:List V→Hp→Prop),Inv X pins σ H s→t σ H Q→wpAny (model X.prog X.w) X.A (spliced (backTo pos (starEach es X.env))) (AP X pins σ Q) X.xe s
def PS (X:Cx) (st:Stmt) (t:TS):Prop :=
  ∀ (pins:PN_) (s:Shared) (σ:St) (H:Hp) (D:Ends),Inv X pins σ H s→t D σ H→wpAny (model X.prog X.w) X.A (exec st X.env) (SP X pins D) X.xe s
def PSs (X:Cx) (st:List Stmt) (t:TS):Prop :=
  ∀ (pins:PN_) (s:Shared) (σ:St) (H:Hp) (D:Ends),Inv X pins σ H s→t D σ H→wpAny (model X.prog X.w) X.A (execs st X.env) (SP X pins D) X.xe s
theorem thn {α:Type} {t:Sem α} {Q Q':α→Shared→Prop} {M:Model} {A:Around} {E:SV_} {s:Shared} (h:wpAny M A t Q E s) (hQ:∀ a s,Q a s→Q' a s):wpAny M A t Q' E s:=wpAny_mono h hQ fun _ _ x=>x
section
variable {X:Cx}
theorem bin {a b:Expr} {ta tb:TE} (ha:PE X a ta) (hb:PE X b tb) {pins:PN_} {s:Shared} {σ:St} {H:Hp} {R:V→V→Hp→Prop} (I:Inv X pins σ H s) (h:ta σ H fun x H1=>tb σ H1 fun y H2=>R x y H2)
    {α:Type} {Q:α→Shared→Prop} {f:Value→Value→Sem α}
    (hf:∀ v u s2 x y H2,Inv X pins σ H2 s2→RelV x v→RelV y u→R x y H2→wpAny (model X.prog X.w) X.A (f v u) Q X.xe s2) :
    wpAny (model X.prog X.w) X.A (eval a X.env) (fun v s₁=>wpAny (model X.prog X.w) X.A (eval b X.env) (fun u s₂=>wpAny (model X.prog X.w) X.A (f v u) Q X.xe s₂) X.xe s₁) X.xe s:=by
  refine thn (ha pins s σ H _ I h) fun v s1 ⟨x,H1,I1,r1,q1⟩ => ?_
  refine thn (hb pins s1 σ H1 _ I1 q1) fun u s2 ⟨y,H2,I2,r2,q2⟩ => ?_
  exact hf v u s2 x y H2 I2 r1 r2 q2
def tVar (i:Nat):TE:=fun σ H Q => ∃ v,σ[i]? = some (some v)∧Q v H
def tC (v:V):TE:=fun _ H Q=>Q v H
theorem pe_var {i:Nat} {x:Str} {pos:Pos} (hN:X.N[i]? = some x) (hv:Vis X.env.scope x) (hd:(x == ("__debug__" : Str))=false:=by decide) (hcd:(x == ("__classdict__" : Str))=false:=by decide):PE X (.Name x pos) (tVar i):=by
  intro pins s σ H Q I h
  obtain ⟨v,e,h⟩:=h
  obtain ⟨m,hn,hl⟩:=I.loc
  obtain ⟨u,r,l⟩:=hl i x v hN e hv
  have fin:EP X pins σ Q u s:=⟨v,H,I,r,h⟩
  rcases l with ⟨hk,hm⟩ | ⟨hk,c,hc,hcell⟩
  · exact wpAny_Name (wpAny_loadName_local I.ok.kind hk hn hm fin) hd
  · rcases hk with hk | hk
    · exact wpAny_Name (wpAny_loadName_cell I.ok.kind hk hc hcell fin) hd
    · exact wpAny_Name (wpAny_loadName_free I.ok.kind hk hc hcell fin hcd) hd
theorem aw_ {i j pos}:PE X (.Constant (.int i) j pos) (tC (.int i)):=fun _ _ _ H _ I h=>wpAny_Constant_int ⟨.int i,H,I.tok _,⟨_,rfl⟩,h⟩
theorem pe_bl {b j pos}:PE X (.Constant (.bool b) j pos) (tC (.bl b)):=fun _ _ _ H _ I h=>Constant_bool ⟨.bl b,H,I,rfl,h⟩
theorem pe_non {j pos}:PE X (.Constant .none j pos) (tC .non):=fun _ _ _ H _ I h=>Constant_none ⟨.non,H,I,rfl,h⟩
theorem hg_ {x j pos}:PE X (.Constant (.str x) j pos) (tC (.str x)):=fun _ _ _ H _ I h=>Calls.Constant_str ⟨.str x,H,I.tok _,⟨_,rfl⟩,h⟩
def Gl (X:Cx) (x:Str):Prop:=X.env.kindOf x=some .globalImplicit
theorem io_ {E:SV_} {pins:PN_} {s:Shared} {σ:St} {H:Hp} {x:Str} {u:Value} {pos:Pos} {Q:SV_} (I:Inv X pins σ H s) (hg:Gl X x) (hm:X.mg x=some u) (h:Q u s)
    (hd:(x == ("__debug__" : Str))=false:=by decide):wpAny (model X.prog X.w) X.A (eval (.Name x pos) X.env) Q E s :=
  Calls.Name_function_global I.ok.kind hg (Calls.loadGlobal_global (by rw [I.ok.glob]; exact I.mod.glob.keeps I.bk) hm h) hd
theorem gm_ {E:SV_} {pins:PN_} {s:Shared} {σ:St} {H:Hp} {x:Str} {u:Value} {pos:Pos} {Q:SV_} (I:Inv X pins σ H s) (hg:Gl X x) (hm:X.mg x=none) (hv:bootBuiltins x=some u) (h:Q u s)
    (hn:x ≠ "__name__" := by decide) (hd:(x == ("__debug__" : Str))=false:=by decide):wpAny (model X.prog X.w) X.A (eval (.Name x pos) X.env) Q E s:=by
  obtain ⟨mb,h1,h2⟩:=I.mod.blt
  exact Calls.Name_function_global I.ok.kind hg (Calls.loadGlobal_builtin (by rw [I.ok.glob]; exact I.mod.glob.keeps I.bk) hm (by rw [I.ok.blt]; exact h1.keeps I.bk) ((h2 x hn).trans hv) h) hd
theorem pe_glob {x:Str} {v:V} {u:Value} {pos:Pos} (hg:Gl X x) (hm:X.mg x=some u) (r:RelV v u) (hd:(x == ("__debug__" : Str))=false:=by decide):PE X (.Name x pos) (tC v) :=
  fun _ _ _ H _ I h=>io_ I hg hm ⟨v,H,I,r,h⟩ hd
theorem ga_ {x:Str} {v:V} {u:Value} {pos:Pos} (hg:Gl X x) (hm:X.mg x=none) (hv:bootBuiltins x=some u) (r:RelV v u) (hn:x ≠ "__name__" := by decide) (hd:(x == ("__debug__" : Str))=false:=by decide):PE X (.Name x pos) (tC v) :=
  fun _ _ _ H _ I h=>gm_ I hg hm hv ⟨v,H,I,r,h⟩ hn hd
variable {a b:Expr} {ta tb:TE} {pos:Pos}
def PC (X:Cx) (op:CmpOp) (a b:Expr) (t:TE):Prop :=
  ∀ (pins : PN_) (s : Shared) (σ : St) (H : Hp) (Q : VK), Inv X pins σ H s → t σ H Q →
    wpAny (model X.prog X.w) X.A (eval a X.env) (fun v s₁=>wpAny (model X.prog X.w) X.A (eval b X.env) (fun u s₂=>wpAny (model X.prog X.w) X.A (compareOp op v u) (EP X pins σ Q) X.xe s₂) X.xe s₁) X.xe s
theorem nobehind (b:Expr) {op:CmpOp} (h:op ≠ .In) (h2:op ≠ .NotIn):behindInMarks op b=false:=by
  have e1:(op == CmpOp.In)=false:=by cases op <;> first | rfl | exact absurd rfl h
  have e2:(op == CmpOp.NotIn)=false:=by cases op <;> first | rfl | exact absurd rfl h2
  cases b <;> simp [behindInMarks,e1,e2]
def tB (t:TE):TT:=fun σ H Q=>t σ H fun x H1 => ∃ c,x=.bl c∧Q c H1
theorem pe_cmp {op:CmpOp} {t:TE} (h:PC X op a b t) (h1:behindInMarks op b=false:=by first | exact nobehind _ (by decide) (by decide) | rfl):PE X (.Compare a [op] [b] pos) t:=fun pins s σ H Q I hw=>wpAny_Compare1 (h pins s σ H Q I hw) h1
theorem pt_cmp {op:CmpOp} {t:TE} (h:PC X op a b t) (h1:behindInMarks op b=false:=by first | exact nobehind _ (by decide) (by decide) | rfl):PT X (.Compare a [op] [b] pos) (tB t):=by
  intro pins s σ H Q I hw
  refine wpAny_isTrue_Compare1 (thn (h pins s σ H _ I hw) fun v s1 h1=>thn h1 fun u s2 h2=>thn h2 fun c s3 ⟨x,H1,I1,r1,q1⟩ => ?_) h1
  obtain ⟨d,rfl,q⟩:=q1
  cases r1
  exact wpAny_truthy_bool ⟨H1,I1,q⟩
theorem pt_val {e:Expr} {t:TE} (h:PE X e t) (he:∀ whole,isTrue e X.env whole=(do let v ← whole; standAt e.pos; holding [v] (truthy v)):=by intro _; rfl):PT X e (tB t):=by
  intro pins s σ H Q I hw
  refine isTrue_plain (thn (h pins s σ H _ I hw) fun v s1 ⟨x,H1,I1,r1,q1⟩ => ?_) (he _)
  obtain ⟨d,rfl,q⟩:=q1
  cases r1
  exact wpAny_truthy_bool ⟨H1,I1,q⟩
variable {tA tB':TT} {rest:List Expr}
def tAnd (t u:TT):TT:=fun σ H Q=>t σ H fun c H1=>if c=true then u σ H1 Q else Q false H1
def tOr (t u:TT):TT:=fun σ H Q=>t σ H fun c H1=>if c=true then Q true H1 else u σ H1 Q
def tNot (t:TT):TT:=fun σ H Q=>t σ H fun c H1=>Q (!c) H1
theorem pw_and1 (ha:PT X a tA):PW X (.BoolOp .And [a] pos) tA:=by
  intro wh pins s σ H Q I h
  refine isTrue_and (thn (ha pins s σ H Q I h) fun c s1 e => ?_)
  cases c with
  | true=>exact isTrue_and_nil e
  | false=>exact e
theorem pw_or1 (ha:PT X a tA):PW X (.BoolOp .Or [a] pos) tA:=by
  intro wh pins s σ H Q I h
  refine isTrue_or (thn (ha pins s σ H Q I h) fun c s1 e => ?_)
  cases c with
  | false=>exact isTrue_or_nil e
  | true=>exact e
theorem pw_and (ha:PT X a tA) (hb:PW X (.BoolOp .And (b :: rest) pos) tB'):PW X (.BoolOp .And (a :: b :: rest) pos) (tAnd tA tB'):=by
  intro wh pins s σ H Q I h
  refine isTrue_and (thn (ha pins s σ H _ I h) fun c s1 ⟨H1,I1,q1⟩ => ?_)
  cases c with
  | true=>exact hb wh pins s1 σ H1 Q I1 q1
  | false=>exact ⟨H1,I1,q1⟩
theorem pw_or (ha:PT X a tA) (hb:PW X (.BoolOp .Or (b :: rest) pos) tB'):PW X (.BoolOp .Or (a :: b :: rest) pos) (tOr tA tB'):=by
  intro wh pins s σ H Q I h
  refine isTrue_or (thn (ha pins s σ H _ I h) fun c s1 ⟨H1,I1,q1⟩ => ?_)
  cases c with
  | true=>exact ⟨H1,I1,q1⟩
  | false=>exact hb wh pins s1 σ H1 Q I1 q1
theorem pt_not (ha:PT X a tA):PT X (.UnaryOp .Not a pos) (tNot tA):=by
  intro pins s σ H Q I h
  exact isTrue_not (ha pins s σ H (fun c H1=>Q (!c) H1) I h)
def tAndV (ta tb:TE):TE:=fun σ H Q=>ta σ H fun x H1 => ∃ c,x=.bl c∧if c=true then tb σ H1 Q else Q (.bl false) H1
def tNotV (ta:TE):TE:=fun σ H Q=>ta σ H fun x H1 => ∃ c,x=.bl c∧Q (.bl (!c)) H1
theorem pe_one {op} {t:TE} (h:PE X a t):PE X (.BoolOp op [a] pos) t:=fun pins s σ H Q I hw=>BoolOp_one (h pins s σ H Q I hw)
theorem pe_and (ha:PE X a ta) (hb:PE X (.BoolOp .And (b :: rest) pos) tb):PE X (.BoolOp .And (a :: b :: rest) pos) (tAndV ta tb):=by
  intro pins s σ H Q I h
  refine BoolOp_and (thn (ha pins s σ H _ I h) fun v s1 ⟨x,H1,I1,r1,q1⟩ => ?_)
  obtain ⟨c,rfl,q1⟩:=q1
  cases r1
  refine wpAny_truthy_bool ?_
  cases c with
  | true=>exact hb pins s1 σ H1 Q I1 q1
  | false=>exact ⟨.bl false,H1,I1,rfl,q1⟩
theorem pe_not (ha:PE X a ta):PE X (.UnaryOp .Not a pos) (tNotV ta):=by
  intro pins s σ H Q I h
  refine UnaryOp_ (thn (ha pins s σ H _ I h) fun v s1 ⟨x,H1,I1,r1,q1⟩ => ?_)
  obtain ⟨c,rfl,q1⟩:=q1
  cases r1
  exact not_of (wpAny_truthy_bool ⟨.bl (!c),H1,I1,rfl,q1⟩)
end
def SqL (K:FG_) (H:Hp) (a:Addr) (xs:List V):Prop :=
  Rd H a (.lst xs) ∨
    ∃ (o:Obj) (its:Array Value) (n:Nat),K.lookup a=some o∧o.cls=.type "list" ∧ o.dict=none∧o.data=.seq its n∧its.size≤sizeLine∧Vals xs its.toList
def SqT (K:FG_) (H:Hp) (a:Addr) (xs:List V):Prop :=
  Rd H a (.tup xs) ∨
    ∃ (o:Obj) (its:Array Value) (n:Nat),K.lookup a=some o∧o.cls=.type "tuple" ∧ o.data=.seq its n∧its.size≤sizeLine∧Vals xs its.toList
def absV:Value→Option V
  | .none=>some .non
  | .bool b=>some (.bl b)
  | .int i _=>some (.int i)
  | .str x _=>some (.str x)
  | .bytes b _=>some (.byt b)
  | .float b _=>some (.flt b)
  | .ref a=>some (.ref a)
  | .type n=>some (.ty n)
  | _=>none
theorem RelV.abs {x:V} {u:Value} (r:RelV x u):absV u=some x:=by
  cases x with
  | non=>cases r; rfl
  | bl _=>cases r; rfl
  | int _=>obtain ⟨t,rfl⟩:=r; rfl
  | str _=>obtain ⟨t,rfl⟩:=r; rfl
  | byt _=>obtain ⟨t,rfl⟩:=r; rfl
  | flt _=>obtain ⟨t,rfl⟩:=r; rfl
  | ref _=>cases r; rfl
  | ty _=>cases r; rfl
theorem RelV.inj {x y:V} {u:Value} (r:RelV x u) (q:RelV y u):x=y:=Option.some.inj (r.abs.symm.trans q.abs)
theorem Vals.inj:∀ {xs ys:List V} {us:List Value},Vals xs us→Vals ys us→xs=ys
  | _,_,_,.nil,.nil=>rfl
  | _,_,_,.cons r t,.cons r' t'=>by rw [r.inj r',Vals.inj t t']
section
variable {X:Cx} {pins:PN_} {σ:St} {H:Hp} {s:Shared} {a:Addr} {xs ys:List V}
theorem SqL.of {K:FG_} (h:H a=some (.lst xs)):SqL K H a xs:=.inl (.inl h)
theorem SqT.of {K:FG_} (h:H a=some (.tup xs)):SqT K H a xs:=.inl (.inl h)
theorem Inv.list (I:Inv X pins σ H s) (h:SqL X.K H a xs):∃ its:List Value,Vals xs its∧PlainL s.heap a its.toArray∧xs.length≤sizeLine:=by
  rcases h with h | ⟨o,its,n,hk,hc,hd,hs,hz,r⟩
  · obtain ⟨z, its, n, r, e⟩ := h.ok I.hok
    exact ⟨its,r,⟨_,n,e,rfl,rfl,rfl⟩,z⟩
  · refine ⟨its.toList, r, ⟨o, n, I.kIn a o hk, hc, hd, by simpa using hs⟩, ?_⟩
    have e:=r.length
    simp only [Array.length_toList] at e
    omega
theorem Inv.tuple (I:Inv X pins σ H s) (h:SqT X.K H a xs):∃ its:List Value,Vals xs its∧IsTup s.heap a its.toArray∧xs.length≤sizeLine:=by
  rcases h with h | ⟨o,its,n,hk,hc,hs,hz,r⟩
  · obtain ⟨z, its, r, p⟩ := h.ok I.hok
    exact ⟨its,r,p,z⟩
  · refine ⟨its.toList, r, ⟨o, I.kIn a o hk, hc, n, by simpa using hs⟩, ?_⟩
    have e:=r.length
    simp only [Array.length_toList] at e
    omega
theorem Inv.list_inj (I:Inv X pins σ H s) (h:SqL X.K H a xs) (h':SqL X.K H a ys):xs=ys:=by
  obtain ⟨its,r,⟨o,n,e,_,_,d⟩,_⟩:=I.list h
  obtain ⟨its',r',⟨o',n',e',_,_,d'⟩,_⟩:=I.list h'
  rw [e] at e'; cases e'
  rw [d] at d'
  injection d' with d1 _
  have:its=its':=by simpa using congrArg Array.toList d1
  subst this
  exact r.inj r'
theorem Inv.tuple_inj (I:Inv X pins σ H s) (h:SqT X.K H a xs) (h':SqT X.K H a ys):xs=ys:=by
  obtain ⟨its,r,⟨o,e,_,n,d⟩,_⟩:=I.tuple h
  obtain ⟨its',r',⟨o',e',_,n',d'⟩,_⟩:=I.tuple h'
  rw [e] at e'; cases e'
  rw [d] at d'
  injection d' with d1 _
  have:its=its':=by simpa using congrArg Array.toList d1
  subst this
  exact r.inj r'
end
abbrev Cx.wish (X:Cx) (E:SV_):Cx:={ X with xe:=E }
abbrev Cx.nox (X:Cx):Cx:=X.wish fun _ _=>False
theorem Cx.Ok.wish {X:Cx} (ok:X.Ok) (E:SV_):(X.wish E).Ok :=
  ⟨ok.mod,ok.kind,ok.glob,ok.blt,ok.above,ok.inj,ok.has,ok.cab,ok.hd,ok.frames,ok.stk,ok.exf,ok.bs,ok.bsz,ok.noex,ok.exfs,ok.funs,ok.frf⟩
theorem Cx.Ok.unwish {X:Cx} {E:SV_} (ok:(X.wish E).Ok):X.Ok :=
  ⟨ok.mod,ok.kind,ok.glob,ok.blt,ok.above,ok.inj,ok.has,ok.cab,ok.hd,ok.frames,ok.stk,ok.exf,ok.bs,ok.bsz,ok.noex,ok.exfs,ok.funs,ok.frf⟩
section
variable {X:Cx} {pins:PN_} {σ:St} {H:Hp} {s:Shared} {E:SV_}
theorem Inv.wish (I:Inv X pins σ H s) (E:SV_):Inv (X.wish E) pins σ H s:=⟨I.ok.wish E,I.os,I.bare,I.base,I.loc,I.cell,I.free,I.freeC,I.pin,I.hok,I.len⟩
theorem Inv.unwish (I:Inv (X.wish E) pins σ H s):Inv X pins σ H s:=⟨I.ok.unwish,I.os,I.bare,I.base,I.loc,I.cell,I.free,I.freeC,I.pin,I.hok,I.len⟩
theorem SP.unwish {D:Ends} {f:Flow} {s':Shared} (h:SP (X.wish E) pins D f s'):SP X pins D f s':=by
  cases f with
  | next=>obtain ⟨σ',H',I,q⟩:=h; exact ⟨σ',H',I.unwish,q⟩
  | brk=>obtain ⟨σ',H',I,q⟩:=h; exact ⟨σ',H',I.unwish,q⟩
  | cont=>obtain ⟨σ',H',I,q⟩:=h; exact ⟨σ',H',I.unwish,q⟩
  | ret u=>obtain ⟨v,σ',H',I,r,q⟩:=h; exact ⟨v,σ',H',I.unwish,r,q⟩
theorem PSs.nox {st:List Stmt} {t:TS} (h:PSs X.nox st t):PSs X st t:=fun pins s σ H D I hw =>
  wpAny_mono (h pins s σ H D (I.wish _) hw) (fun _ _ q=>q.unwish) fun _ _ z=>False.elim z
end
section
variable {X:Cx} {st:Stmt} {rest:List Stmt} {t u:TS} {e:Expr} {te:TE} {pos:Pos}
def tNext:TS:=fun D σ H=>D.nx σ H
def tSeq (t u:TS):TS:=fun D σ H=>t { D with nx:=u D } σ H
theorem pss_nil:PSs X [] tNext:=fun _ _ σ H _ I h=>wpAny_execs_nil ⟨σ,H,I,h⟩
theorem ba_ (h1:PS X st t) (h2:PSs X rest u):PSs X (st :: rest) (tSeq t u):=by
  intro pins s σ H D I h
  refine wpAny_execs_cons (thn (h1 pins s σ H { D with nx:=u D } I h) fun f s1 q => ?_)
  cases f with
  | next =>
    obtain ⟨σ',H',I',q⟩:=q
    exact h2 pins s1 σ' H' D I' q
  | ret v=>exact q
  | brk=>exact q
  | cont=>exact q
theorem ev_ (h1:PS X st t):PSs X [st] t:=by
  intro pins s σ H D I h
  refine wpAny_execs_cons (thn (h1 pins s σ H D I h) fun f s1 q => ?_)
  cases f with
  | next=>exact wpAny_execs_nil q
  | ret v=>exact q
  | brk=>exact q
  | cont=>exact q
theorem Inv.quiet {pins:PN_} {σ:St} {H:Hp} {s:Shared} (I:Inv X pins σ H s):interactive X.env=false:=by simp [interactive,I.ok.kind]
def tDrop (te:TE):TS:=fun D σ H=>te σ H fun _ H1=>D.nx σ H1
theorem fz_ (he:PE X e te) (hs:swapsWith e none pos.line X.env=pure false:=by rfl):PS X (.Expr e pos) (tDrop te):=by
  intro pins s σ H D I h
  exact wpAny_Expr_any (thn (he pins s σ H _ I h) fun v s1 ⟨x,H1,I1,r1,q1⟩=>⟨σ,H1,I1,q1⟩) I.quiet hs
def tRet (te:TE):TS:=fun D σ H=>te σ H D.rt
theorem ps_ret (he:PE X e te):PS X (.Return (some e) pos) (tRet te):=by
  intro pins s σ H D I h
  exact wpAny_Return_some (thn (he pins s σ H _ I h) fun v s1 ⟨x,H1,I1,r1,q1⟩=>⟨x,σ,H1,I1,r1,q1⟩)
def tIfS (c:TT) (t u:TS):TS:=fun D σ H=>c σ H fun b H1=>if b=true then t D σ H1 else u D σ H1
theorem ps_if {c:Expr} {a b:List Stmt} {tc:TT} (hc:PT X c tc) (ha:PSs X a t) (hb:PSs X b u):PS X (.If c a b pos) (tIfS tc t u):=by
  intro pins s σ H D I h
  refine wpAny_If (thn (hc pins s σ H _ I h) fun d s1 ⟨H1,I1,q1⟩ => ?_)
  cases d with
  | true=>exact ha pins s1 σ H1 D I1 q1
  | false=>exact hb pins s1 σ H1 D I1 q1
def tNever:TS:=fun _ _ _=>False
theorem ps_never:PS X st tNever:=fun _ _ _ _ _ _ h=>h.elim
end
abbrev TG:=V→St→Hp→(St→Hp→Prop)→Prop
abbrev TGs:=List V→St→Hp→(St→Hp→Prop)→Prop
def PG (X:Cx) (target:Expr) (t:TG):Prop :=
  ∀ (pins : PN_) (s : Shared) (σ : St) (H : Hp) (v : V) (u : Value) (Q : St → Hp → Prop), Inv X pins σ H s → RelV v u → t v σ H Q →
    wpAny (model X.prog X.w) X.A (assign target X.env u) (fun _ s' => ∃ σ' H',Inv X pins σ' H' s'∧Q σ' H') X.xe s
def PGs (X:Cx) (ts:List Expr) (t:TGs):Prop :=
  ∀ (pins : PN_) (s : Shared) (σ : St) (H : Hp) (vs : List V) (us : List Value) (Q : St → Hp → Prop), Inv X pins σ H s → Vals vs us → t vs σ H Q →
    wpAny (model X.prog X.w) X.A (assignInOrder ((assignEach ts X.env).map (·.2)) us) (fun _ s' => ∃ σ' H',Inv X pins σ' H' s'∧Q σ' H') X.xe s
abbrev TSet:=V→V→V→Hp→(Hp→Prop)→Prop
def PSet (X:Cx) (t:TSet):Prop :=
  ∀ (pins : PN_) (s : Shared) (σ : St) (H : Hp) (o i v : V) (ov iv u : Value) (Q : Hp → Prop), Inv X pins σ H s → RelV o ov → RelV i iv → RelV v u → t o i v H Q →
    wpAny (model X.prog X.w) X.A (setItem ov iv u) (fun _ s' => ∃ H',Inv X pins σ H' s'∧Q H') X.xe s
section
variable {X:Cx} {pos:Pos}
def gName (i:Nat):TG:=fun v σ H Q=>Q (σ.set i (some v)) H
theorem aj_ {i:Nat} {x:Str} (hN:X.N.Nodup) (hi:X.N[i]? = some x) (hx:Loc X.env.scope x) (hf:X.fn x=true∨X.env.scope.names.lookup x=some .local:=by first | exact .inl rfl | exact .inr rfl | assumption):PG X (.Name x pos) (gName i):=by
  intro pins s σ H v u Q I r h
  exact wpAny_assign_Name (store_ok I hN hi hx r (fun s' I'=>⟨_,H,I',h⟩) hf)
def gNil:TGs:=fun vs σ H Q=>vs=[]∧Q σ H
def gCons (t:TG) (u:TGs):TGs:=fun vs σ H Q => ∃ v r,vs=v :: r∧t v σ H fun σ' H'=>u r σ' H' Q
theorem bv_:PGs X [] gNil:=by
  intro pins s σ H vs us Q I r h
  obtain ⟨e,h⟩:=h
  subst e
  cases r
  exact assignInOrder_nil ⟨σ,H,I,h⟩
theorem aq_ {e:Expr} {es:List Expr} {t:TG} {u:TGs} (h1:PG X e t) (h2:PGs X es u)
    (hs:(assignEach (e :: es) X.env).map (·.2)=assign e X.env :: (assignEach es X.env).map (·.2):=by rfl):PGs X (e :: es) (gCons t u):=by
  intro pins s σ H vs us Q I r h
  obtain ⟨v,vr,e1,h⟩:=h
  subst e1
  cases r with
  | cons r rr =>
    rw [hs]
    refine assignInOrder_cons (thn (h1 pins s σ H _ _ _ I r h) fun _ s1 ⟨σ1,H1,I1,q1⟩ => ?_)
    exact h2 pins s1 σ1 H1 _ _ Q I1 rr q1
def gTup (K:FG_) (n:Nat) (t:TGs):TG:=fun v σ H Q => ∃ a xs,v=.ref a∧SqT K H a xs∧xs.length=n∧t xs σ H Q
theorem fg_ {es:List Expr} {k:Nat} {t:TGs} {n:Nat} (hc:X.calm=true) (h:PGs X es t)
    (hn:(assignEach es X.env).length=n:=by rfl) (hst:(assignEach es X.env).findIdx? (·.1)=none:=by rfl):PG X (.Tuple es k pos) (gTup X.K n t):=by
  intro pins s σ H v u Q I r hw
  obtain ⟨a,xs,e1,hq,hl,hw⟩:=hw
  subst e1
  cases r
  obtain ⟨its,rv,ht,hz⟩:=I.tuple hq
  refine assign_Tuple_tuple (I.ok.hd hc) ht (by simp [hn,← hl,rv.length]) hst fun h' hx => ?_
  have I1:Inv X pins σ H { s with heap:=h' }:=I.kept (t':=s.toks) fun b o e=>hx b o (Nat.ne_of_lt (Heap.lt_size e)) e
  exact h pins _ σ H xs _ Q I1 (by simpa using rv) hw
def gSub (to ti:TE) (t:TSet):TG:=fun v σ H Q=>to σ H fun o H1=>ti σ H1 fun i H2=>t o i v H2 fun H3=>Q σ H3
theorem gj_ {o i:Expr} {to ti:TE} {t:TSet} (ho:PE X o to) (hi:PE X i ti) (hs:PSet X t)
    (ha:∀ v,assign (.Subscript o i pos) X.env v=(do
      let ov ← holding [v] (eval o X.env)
      let iv ← holding [v,ov] (eval i X.env)
      standAt pos
      holding [v,ov,iv] (setItem ov iv v)
      release [v,ov,iv] []):=by intro _; rfl):PG X (.Subscript o i pos) (gSub to ti t):=by
  intro pins s σ H v u Q I r h
  rw [ha]
  refine wpAny_bind (wpAny_holding (thn (ho pins s σ H _ I h) fun ov s1 ⟨x,H1,I1,r1,q1⟩ => ?_))
  refine wpAny_bind (wpAny_holding (thn (hi pins s1 σ H1 _ I1 q1) fun iv s2 ⟨y,H2,I2,r2,q2⟩ => ?_))
  refine wpAny_bind (wpAny_standAt (wpAny_bind (wpAny_holding (thn (hs pins s2 σ H2 x y v ov iv u _ I2 r1 r2 r q2) fun _ s3 ⟨H3,I3,q3⟩ => ?_))))
  exact wpAny_release ⟨σ,H3,I3,q3⟩
def tAsg (te:TE) (g:TG):TS:=fun D σ H=>te σ H fun x H1=>g x σ H1 D.nx
theorem fw_ {tg e:Expr} {te:TE} {g:TG} (he:PE X e te) (hg:PG X tg g) (hs:swapsWithSole [tg] e pos.line X.env=pure false:=by rfl) (hw:swappedStores [tg] e X.env=pure none:=by rfl)
    (h1:(assignEach [tg] X.env).map (·.2)=[assign tg X.env]:=by rfl):PS X (.Assign [tg] e pos) (tAsg te g):=by
  intro pins s σ H D I h
  refine wpAny_Assign_stores (thn (he pins s σ H _ I h) fun v s1 ⟨x,H1,I1,r1,q1⟩ => ?_) hs hw
  rw [h1]
  exact thn (hg pins s1 σ H1 x v _ I1 r1 q1) fun _ s2 q=>q
theorem ak_ {i:Nat} {x:Str} {e:Expr} {te:TE} {pos':Pos} (hN:X.N.Nodup) (hi:X.N[i]? = some x) (hx:Loc X.env.scope x) (he:PE X e te) (hs:swapsWith e (some (.Name x pos')) pos.line X.env=pure false:=by rfl) (hf:X.fn x=true∨X.env.scope.names.lookup x=some .local:=by first | exact .inl rfl | exact .inr rfl | assumption) :
    PS X (.Assign [.Name x pos'] e pos) (tAsg te (gName i)):=by
  intro pins s σ H D I h
  refine wpAny_Assign_Name (thn (he pins s σ H _ I h) fun v s1 ⟨y,H1,I1,r1,q1⟩ => ?_) hs
  exact store_ok I1 hN hi hx r1 (fun s2 I2=>⟨_,H1,I2,q1⟩) hf
end
section
variable {X:Cx} {pos:Pos}
def tWhile (c:TT) (tb:TS):TS:=fun D σ H => ∃ W:Nat→St→Hp→Prop,(∃ m,W m σ H)∧∀ m σ H,W m σ H →
  c σ H fun b H1=>if b=true then ∃ N:St→Hp→Prop,(∀ σ' H',N σ' H'→∃ m',m' < m∧W m' σ' H')∧tb { D with nx:=N,ct:=N,bk:=D.nx } σ H1 else D.nx σ H1
theorem ps_while {c:Expr} {body:List Stmt} {tc:TT} {tb:TS} (hp:PassesOwn (model X.prog X.w) X.A X.env X.xe) (hc:PT X c tc) (hb:PSs X body tb):PS X (.While c body [] pos) (tWhile tc tb):=by
  intro pins s σ H D I h
  obtain ⟨W,⟨m0,w0⟩,turn⟩:=h
  refine wpAny_While (codeAny_whileLoop (fun n s' => ∃ σ' H',Inv X pins σ' H' s'∧W n σ' H') ?_ m0 ⟨σ,H,I,w0⟩)
  rintro n s1 ⟨σ1,H1,I1,w1⟩
  refine wpAny_passesOwn hp (thn (hc pins s1 σ1 H1 _ I1 (turn n σ1 H1 w1)) fun b s2 ⟨H2,I2,q2⟩ => ?_)
  cases b with
  | true =>
    obtain ⟨N,hN,q2⟩:=q2
    rw [if_pos rfl]
    refine wpAny_passesOwn hp (thn (hb pins s2 σ1 H2 _ I2 q2) fun f s3 q3 => ?_)
    cases f with
    | next =>
      obtain ⟨σ3,H3,I3,n3⟩:=q3
      obtain ⟨m',hm,w3⟩:=hN σ3 H3 n3
      exact ⟨m',hm,σ3,H3,I3,w3⟩
    | cont =>
      obtain ⟨σ3,H3,I3,n3⟩:=q3
      obtain ⟨m',hm,w3⟩:=hN σ3 H3 n3
      exact ⟨m',hm,σ3,H3,I3,w3⟩
    | brk=>exact q3
    | ret v=>exact q3
  | false =>
    rw [if_neg Bool.false_ne_true]
    exact wpAny_execs_nil ⟨σ1,H2,I2,q2⟩
end
structure It where
  go:Nat→Hp→Prop
  yld:Nat→Hp→V→Hp→Prop
  stop:Nat→Hp→Prop
def FpOk (X:Cx) (pins:PN_) (H:Hp) (b:Addr):Prop :=
  H b=none∧b≠X.env.locals∧b∉X.fs∧(b∈X.ex∨X.s₀.heap.objs.size≤b)∧(∀ x c,X.env.cells.lookup x=some c→c≠b)∧∀ p∈X.pn ++ pins,p.1≠b
theorem Inv.fpOk {X:Cx} {pins:PN_} {σ:St} {H H':Hp} {s:Shared} {b:Addr} (I:Inv X pins σ H s) (hb:s.heap.objs.size≤b) (hn:H' b=none):FpOk X pins H' b:=by
  refine ⟨hn,Nat.ne_of_gt (Nat.lt_of_lt_of_le I.lt hb),I.nofs hb,.inr (Nat.le_trans I.sz hb),fun x c e z => ?_,fun p hp z => ?_⟩
  · obtain ⟨v, q⟩ := I.cell x c e
    exact absurd (Nat.lt_of_lt_of_le q.lt (by rw [z]; exact hb)) (Nat.lt_irrefl _)
  · exact absurd (Nat.lt_of_lt_of_le (Heap.lt_size (I.pin p hp).1) (by rw [z]; exact hb)) (Nat.lt_irrefl _)
structure Turn (P:Program) (w:World) (K:FG_) (tg:Expr) (J:It) (fp:List Addr) (it:Addr) (tn:Nat→Heap→Prop):Prop where
  mem:it∈fp
  obj:∀ i h,tn i h→∀ b∈fp,∃ o,h.get? b=some o∧∀ v,o.data ≠ .cell v
  keep:∀ i h h',tn i h→(∀ b∈fp,∀ o,h.get? b=some o→h'.get? b=some o)→tn i h'
  item:∀ (X:Cx),X.prog=P→X.w=w→X.K=K→X.calm=true→∀ (i:Nat) (pins:PN_) (s:Shared) (σ:St) (H:Hp) (E:SV_),Inv X pins σ H s→(∀ b∈fp,FpOk X pins H b)→tn i s.heap→J.go i H →
    wpAny (model P w) X.A (pyNext (.ref it)) (fun r s1 => ∃ u,r=some u ∧
      wpAny (model P w) X.A (letOwnedTupleGo tg (.ref it) u) (fun _ s2 => ∃ x H',Inv X pins σ H' s2∧RelV x u∧J.yld i H x H'∧tn (i + 1) s2.heap∧∀ b∈fp,H' b=none) E s1) E s
  done:∀ (X:Cx),X.prog=P→X.w=w→X.K=K→X.calm=true→∀ (i:Nat) (pins:PN_) (s:Shared) (σ:St) (H:Hp) (E:SV_),Inv X pins σ H s→(∀ b∈fp,FpOk X pins H b)→tn i s.heap→J.stop i H →
    wpAny (model P w) X.A (pyNext (.ref it)) (fun r s1=>r=none∧Inv X pins σ H s1) E s
  self:∀ (A:Around) (i:Nat) (s:Shared) (Q:SV_) (E:SV_),tn i s.heap→Q (.ref it) s→wpAny (model P w) A (pyIter (.ref it)) Q E s
abbrev TI:=St→Hp→(It→Hp→Prop)→Prop
def PIE (X:Cx) (pins:PN_) (σ:St) (tg:Expr) (R:It→Hp→Prop) (itv:Value) (s2:Shared):Prop :=
  ∃ (it:Addr) (fp:List Addr) (tn:Nat→Heap→Prop) (J:It) (H':Hp),itv=.ref it∧Inv X pins σ H' s2∧Turn X.prog X.w X.K tg J fp it tn∧tn 0 s2.heap∧(∀ b∈fp,FpOk X pins H' b)∧R J H'
def PI (X:Cx) (tg iter:Expr) (wi:TI):Prop :=
  ∀ (pins : PN_) (s : Shared) (σ : St) (H : Hp) (R : It → Hp → Prop), Inv X pins σ H s → wi σ H R →
    wpAny (model X.prog X.w) X.A (eval iter X.env) (fun v s1=>wpAny (model X.prog X.w) X.A (pyIter v) (PIE X pins σ tg R) X.xe s1) X.xe s
theorem go_of {M:Model} {A:Around} {E:SV_} {s:Shared} {tg:Expr} {it:Addr} {u:Value} {o:Obj} {n:String} {vs:Array Value} {Q:Unit→Shared→Prop} (ho:s.heap.get? it=some o) (hc:o.cls=.type n) (hd:o.data=.fields vs)
    (hn:["enumerate", "zip", "dict_itemiterator", "dict_reverseitemiterator", "odict_iterator", "itertools.zip_longest", "itertools.pairwise"].contains n=false) (hQ:Q () s):wpAny M A (letOwnedTupleGo tg (.ref it) u) Q E s:=by
  unfold letOwnedTupleGo
  cases tg <;> first
    | exact wpAny_pure hQ
    | (cases u <;> first
        | exact wpAny_pure hQ
        | (refine wpAny_bind (wpAny_load ho ?_)
           rw [hc,hd]
           show wpAny M A (if (["enumerate", "zip", "dict_itemiterator", "dict_reverseitemiterator", "odict_iterator", "itertools.zip_longest", "itertools.pairwise"].contains n && vs[0]? == some (rawInt _))=true then _ else _) Q E s
           rw [if_neg (by intro h; rw [hn,Bool.false_and] at h; cases h)]
           exact wpAny_pure hQ))
def Itl (K:FG_) (a:Addr):It :=
  ⟨fun i H => ∃ xs x,SqL K H a xs∧xs[i]? = some x,fun i H x H'=>H'=H∧∀ xs,SqL K H a xs→xs[i]? = some x,fun i H => ∃ xs,SqL K H a xs∧xs.length≤i⟩
def Itr (lo:Int) (n:Nat):It:=⟨fun i _=>i < n,fun i H x H'=>H'=H∧x=.int (lo + i),fun i _=>n≤i⟩
theorem turn_list {P:Program} {w:World} {K:FG_} {tg:Expr} (a it:Addr):Turn P w K tg (Itl K a) [it] it (fun i h=>h.IsListIter it a i) where
  mem:=by simp
  obj:=fun i h st b hb=>by
    have e:b=it:=by simpa using hb
    subst e
    obtain ⟨o,e,c,d⟩:=st
    exact ⟨o,e,fun v z=>by rw [d] at z; cases z⟩
  keep:=fun i h h' st k=>st.at fun o e=>k it (by simp) o e
  item:=by
    intro X hP hw hK hc i pins s σ H E I hf st hg
    subst hP hw hK
    obtain ⟨xs,x,hq,hx⟩:=hg
    obtain ⟨its,rv,p,hz⟩:=I.list hq
    obtain ⟨u,hu,ru⟩:=rv.get hx
    obtain ⟨f0,f1,f2,f3,f4,f5⟩:=hf it (by simp)
    refine wpAny_pyNext_list_item st p.isList (x:=u) (by simpa using hu) fun h' st' sb => ?_
    have I1:Inv X pins σ H { s with heap:=h' }:=I.turned (t':=s.toks) (fun b o hb e=>(sb.2 b hb).trans e) f0 f1 f3 f4 f5
    obtain ⟨o,e,c,d⟩:=id st'
    exact ⟨u,rfl,go_of (s:={ s with heap:=h' }) e c d (by decide) ⟨x,H,I1,ru,⟨rfl,fun ys hy=>by rw [I.list_inj hy hq]; exact hx⟩,st',fun b hb=>(hf b hb).1⟩⟩
  done:=by
    intro X hP hw hK hc i pins s σ H E I hf st hg
    subst hP hw hK
    obtain ⟨xs,hq,hx⟩:=hg
    obtain ⟨its,rv,p,hz⟩:=I.list hq
    obtain ⟨f0,f1,f2,f3,f4,f5⟩:=hf it (by simp)
    have hl:=rv.length
    exact wpAny_pyNext_list_end (I.ok.hd hc) st p.isList (by simp; omega) fun h' eb=>⟨rfl,I.turned (t':=s.toks) (fun b o hb e=>eb b o hb e) f0 f1 f3 f4 f5⟩
  self:=fun _ _ _ _ _ st h=>wpAny_pyIter_listiter st h
theorem turn_range {P:Program} {w:World} {K:FG_} {tg:Expr} (it:Addr) (lo:Int) (n:Nat):Turn P w K tg (Itr lo n) [it] it (fun i h=>IsRangeIter h it (lo + (i:Nat) * 1) ((n:Int) - (i:Nat)) 1) where
  mem:=by simp
  obj:=fun i h st b hb=>by
    have e:b=it:=by simpa using hb
    subst e
    exact ⟨_,st,fun v z=>by
      have z':Data.fields _=Data.cell v:=z
      cases z'⟩
  keep:=fun i h h' st k=>k it (by simp) _ st
  item:=by
    intro X hP hw hK hc i pins s σ H E I hf st hg
    subst hP hw hK
    obtain ⟨f0,f1,f2,f3,f4,f5⟩:=hf it (by simp)
    have W:=Walks.range (prog:=X.prog) (w:=X.w) (I.ok.hd hc) it lo 1 n
    refine W.item i s _ _ hg st fun v h' tk hv st' kk => ?_
    obtain ⟨t,rfl⟩:=hv
    have I1:Inv X pins σ H { s with heap:=h',toks:=tk }:=I.turned (fun b o hb e=>kk b o (by simpa using hb) e) f0 f1 f3 f4 f5
    refine ⟨_,rfl,go_of (s:={ s with heap:=h',toks:=tk }) (n := "range_iterator") st' rfl rfl (by decide) ⟨.int (lo + i),H,I1,⟨t,?_⟩,⟨rfl,rfl⟩,st',fun b hb=>(hf b hb).1⟩⟩
    rw [Int.mul_one]
  done:=by
    intro X hP hw hK hc i pins s σ H E I hf st hg
    subst hP hw hK
    obtain ⟨f0,f1,f2,f3,f4,f5⟩:=hf it (by simp)
    exact wpAny_pyNext_range_end (I.ok.hd hc) st (by have:n≤i:=hg; omega) fun h' eb=>⟨rfl,I.turned (t':=s.toks) (fun b o hb e=>eb b o hb e) f0 f1 f3 f4 f5⟩
  self:=fun _ _ _ _ _ st h=>wpAny_pyIter_rangeiter st h
section
variable {X:Cx} {tg:Expr}
def iList (K:FG_) (tl:TE):TI:=fun σ H R=>tl σ H fun x H1 => ∃ a,x=.ref a∧(∃ xs,SqL K H1 a xs)∧R (Itl K a) H1
theorem pi_list {l:Expr} {tl:TE} (hl:PE X l tl):PI X tg l (iList X.K tl):=by
  intro pins s σ H R I h
  refine thn (hl pins s σ H _ I h) fun v s1 ⟨x,H1,I1,r1,q1⟩ => ?_
  obtain ⟨a,e,⟨xs,hq⟩,q⟩:=q1
  subst e
  cases r1
  obtain ⟨its,rv,p,hz⟩:=I1.list hq
  refine wpAny_pyIter_list p.isList ?_
  refine ⟨s1.heap.objs.size,[s1.heap.objs.size],_,_,H1,rfl,I1.kept (t':=s1.toks) fun b o e=>Heap.get?_push_of_some _ e,turn_list a _,⟨_,Heap.get?_push_size _ rfl,rfl,rfl⟩,fun b hb => ?_,q⟩
  have e:b=s1.heap.objs.size:=by simpa using hb
  subst e
  exact I1.fpOk (Nat.le_refl _) (I1.hok.fresh (Nat.le_refl _))
theorem range_it {pins:PN_} {σ:St} {H:Hp} {s:Shared} {R:It→Hp→Prop} {E:SV_} {lo hi:Int} {t u v:Tok} {tk:Nat} (I:Inv X pins σ H s) (h1 : -(2 ^ 62)≤lo) (h2:lo < 2 ^ 62) (h3 : -(2 ^ 62)≤hi) (h4:hi < 2 ^ 62)
    (q:R (Itr lo (hi - lo).toNat) H):wpAny (model X.prog X.w) X.A (pyIter (.ref s.heap.objs.size)) (PIE X pins σ tg R) E { s with heap:=s.heap.push { cls:=.type "range",data:=.fields #[.int lo t,.int hi u,.int 1 v] },toks:=tk }:=by
  refine wpAny_pyIter_range (IsRange.new ..) (small_one h1 h2 h3 h4) ?_
  have I1:Inv X pins σ H { s with heap:=s.heap.push { cls:=.type "range",data:=.fields #[.int lo t,.int hi u,.int 1 v] },toks:=tk }:=I.kept fun b o e=>Heap.get?_push_of_some _ e
  refine ⟨(s.heap.push { cls:=.type "range",data:=.fields #[.int lo t,.int hi u,.int 1 v] }).objs.size,[(s.heap.push { cls:=.type "range",data:=.fields #[.int lo t,.int hi u,.int 1 v] }).objs.size],_,_,H,rfl,
    I1.kept (t':=tk) fun b o e=>Heap.get?_push_of_some _ e,turn_range _ lo (hi - lo).toNat,?_,fun b hb => ?_,q⟩
  · have e1 : lo + ((0 : Nat) : Int) * 1 = lo := by simp
    have e2:(((hi - lo).toNat:Nat):Int) - ((0:Nat):Int)=Builtin.Range.rangeSize lo hi 1:=by rw [rangeSize_one]; split <;> omega
    show IsRangeIter _ _ (lo + ((0:Nat):Int) * 1) ((((hi - lo).toNat:Nat):Int) - ((0:Nat):Int)) 1
    rw [e1,e2]
    exact Heap.get?_push_size _ rfl
  · have e : b = (s.heap.push { cls := .type "range", data := .fields #[.int lo t, .int hi u, .int 1 v] }).objs.size := by simpa using hb
    subst e
    exact I1.fpOk (Nat.le_refl _) (I1.hok.fresh (Nat.le_refl _))
def iRng1 (ta:TA):TI:=fun σ H R=>ta σ H fun vs H1 => ∃ j:Int,vs=[.int j] ∧ -(2 ^ 62)≤j∧j < 2 ^ 62∧R (Itr 0 j.toNat) H1
def iRng2 (ta:TA):TI:=fun σ H R=>ta σ H fun vs H1 => ∃ i j:Int,vs=[.int i,.int j]∧(-(2 ^ 62)≤i∧i < 2 ^ 62 ∧ -(2 ^ 62)≤j∧j < 2 ^ 62)∧R (Itr i (j - i).toNat) H1
theorem ik_ {a:Expr} {ta:TA} {p pos:Pos} (hg:Gl X "range") (hm:X.mg "range" = none) (ha:PA X [a] ta) (hs:starEach [a] X.env=[(false,eval a X.env)]:=by rfl):PI X tg (.Call (.Name "range" p) [a] [] pos) (iRng1 ta):=by
  intro pins s σ H R I h
  refine Call_ (gm_ I hg hm boot_range (PyProof.Rows.callWith_type1 (thn (ha pos pins s σ H _ I h) fun us s1 ⟨vs,H1,I1,r1,q1⟩ => ?_) hs rfl))
  obtain ⟨j,e,q1,q2,q⟩:=q1
  subst e
  cases r1 with
  | cons r rr =>
    cases rr
    obtain ⟨t,rfl⟩:=r
    exact call_range_1 (range_it I1 (by omega) (by omega) q1 q2 (by simpa using q))
theorem pi_range2 {a b:Expr} {ta:TA} {p pos:Pos} (hg:Gl X "range") (hm:X.mg "range" = none) (ha:PA X [a,b] ta) (hs:starEach [a,b] X.env=[(false,eval a X.env),(false,eval b X.env)]:=by rfl) (hs2:starEach [b] X.env=[(false,eval b X.env)]:=by rfl) :
    PI X tg (.Call (.Name "range" p) [a,b] [] pos) (iRng2 ta):=by
  intro pins s σ H R I h
  refine Call_ (gm_ I hg hm boot_range (PyProof.Rows.callWith_type1 (thn (ha pos pins s σ H _ I h) fun us s1 ⟨vs,H1,I1,r1,q1⟩ => ?_) (by rw [hs,hs2]) (by rw [hs2]; rfl)))
  obtain ⟨i,j,e,⟨q1,q2,q3,q4⟩,q⟩:=q1
  subst e
  cases r1 with
  | cons r rr =>
    cases rr with
    | cons r' rr =>
      cases rr
      obtain ⟨t,rfl⟩:=r
      obtain ⟨t',rfl⟩:=r'
      exact call_range_2 (range_it I1 q1 q2 q3 q4 q)
def tFor (wi:TI) (g:TG) (tb:TS):TS:=fun D σ H=>wi σ H fun J H1 => ∃ W:Nat→Nat→St→Hp→Prop,(∃ m,W 0 m σ H1)∧∀ i m σ H,W i m σ H →
  (J.stop i H∧D.nx σ H)∨(J.go i H∧∃ N:St→Hp→Prop,(∀ σ' H',N σ' H'→∃ m',m' < m∧W (i + 1) m' σ' H')∧∀ x H',J.yld i H x H'→g x σ H' fun σ2 H2=>tb { D with nx:=N,ct:=N,bk:=D.nx } σ2 H2)
def pinsAt (fp:List Addr) (h:Heap):List (Addr×Obj):=fp.filterMap fun b=>(h.get? b).map fun o=>(b,o)
theorem fr_ {fp:List Addr} {h:Heap} {b:Addr} {o:Obj} (hb:b∈fp) (e:h.get? b=some o):(b,o)∈pinsAt fp h:=List.mem_filterMap.mpr ⟨b,hb,by rw [e]; rfl⟩
theorem of_pinsAt {fp:List Addr} {h:Heap} {p:Addr×Obj} (hp:p∈pinsAt fp h):p.1∈fp∧h.get? p.1=some p.2:=by
  obtain ⟨b,hb,e⟩:=List.mem_filterMap.mp hp
  cases q:h.get? b with
  | none=>rw [q] at e; cases e
  | some o =>
    rw [q] at e
    have e':(b,o)=p:=Option.some.inj e
    subst e'
    exact ⟨hb,q⟩
theorem Inv.pinned {pins:PN_} {σ:St} {H:Hp} {s:Shared} {fp:List Addr} (I:Inv X pins σ H s) (hf:∀ b∈fp,FpOk X pins H b) (ho:∀ b∈fp,∃ o,s.heap.get? b=some o∧∀ v,o.data ≠ .cell v):Inv X (pins ++ pinsAt fp s.heap) σ H s :=
  I.pins_of fun p hp=>(List.mem_append.mp hp).elim (fun z=>I.pin p (List.mem_append_right _ z)) fun z=>by
    obtain ⟨hb,e⟩:=of_pinsAt z
    obtain ⟨f0,f1,f2,_⟩:=hf p.1 hb
    obtain ⟨o,e',d⟩:=ho p.1 hb
    rw [e] at e'; cases e'
    exact ⟨e,f0,f1,f2,d⟩
theorem Inv.unpinned {pins pl:PN_} {σ:St} {H:Hp} {s:Shared} (I:Inv X (pins ++ pl) σ H s):Inv X pins σ H s:=I.pins_of fun p hp=>I.pin p (List.mem_append_right _ (List.mem_append_left _ hp))
theorem ps_for {iter:Expr} {body:List Stmt} {wi:TI} {g:TG} {tb:TS} {pos:Pos} (hp:PassesOwn (model X.prog X.w) X.A X.env X.xe) (hc:X.calm=true) (hi:PI X tg iter wi) (hg:PG X tg g) (hb:PSs X body tb)
    (hs:∀ x,foldedSetIterable iter X.env x=pure x:=by intro _; rfl):PS X (.For tg iter body [] pos) (tFor wi g tb):=by
  intro pins s σ H D I h
  refine wpAny_For (thn (hi pins s σ H _ I h) fun v s1 h1=>thn h1 fun itv s2 h2 => ?_) hs
  obtain ⟨it,fp,tn,J,H2,e,I2,T,st2,f2,W,⟨m0,w0⟩,turn⟩:=h2
  subst e
  have stat:∀ {H':Hp},(∀ b∈fp,H' b=none)→∀ b∈fp,FpOk X pins H' b:=fun hn b hb=>⟨hn b hb,(f2 b hb).2⟩
  refine codeAny_forLoop_any (fun n s' => ∃ i σ' H',Inv X pins σ' H' s'∧tn i s'.heap∧(∀ b∈fp,H' b=none)∧W i n σ' H') ?_ m0 ⟨0,σ,H2,I2,st2,fun b hb=>(f2 b hb).1,w0⟩
  rintro n s3 ⟨i,σ3,H3,I3,st3,fr3,w3⟩
  rcases turn i n σ3 H3 w3 with ⟨stop,qn⟩ | ⟨go,N,hN,step⟩
  · refine wpAny_passesOwn hp (thn (T.done X rfl rfl rfl hc i pins s3 σ3 H3 X.xe I3 (stat fr3) st3 stop) fun r s4 ⟨hr, I4⟩ => ?_)
    subst hr
    exact wpAny_execs_nil ⟨σ3,H3,I4,qn⟩
  · refine wpAny_passesOwn hp (thn (T.item X rfl rfl rfl hc i pins s3 σ3 H3 X.xe I3 (stat fr3) st3 go) fun r s4 ⟨u, hr, h4⟩ => ?_)
    subst hr
    refine wpAny_passesOwn hp (thn h4 fun _ s5 ⟨x,H5,I5,r5,y5,st5,fr5⟩ => ?_)
    have I5':=I5.pinned (stat fr5) (T.obj _ _ st5)
    refine wpAny_passesOwn hp (thn (hg _ s5 σ3 H5 x u _ I5' r5 (step x H5 y5)) fun _ s6 ⟨σ6,H6,I6,q6⟩ => ?_)
    refine wpAny_passesOwn hp (thn (hb _ s6 σ6 H6 _ I6 q6) fun f s7 q7 => ?_)
    have again:∀ {σ7:St} {H7:Hp},Inv X (pins ++ pinsAt fp s5.heap) σ7 H7 s7→N σ7 H7→∃ m,m < n∧∃ i σ' H',Inv X pins σ' H' s7∧tn i s7.heap∧(∀ b∈fp,H' b=none)∧W i m σ' H':=fun {σ7 H7} I7 n7=>by
      obtain ⟨m',hm,w7⟩:=hN σ7 H7 n7
      refine ⟨m',hm,i + 1,σ7,H7,I7.unpinned,T.keep _ _ _ st5 fun b hb o e=>(I7.pin (b,o) (List.mem_append_right _ (List.mem_append_right _ (fr_ hb e)))).1,fun b hb => ?_,w7⟩
      obtain ⟨o,e,d⟩:=T.obj _ _ st5 b hb
      exact (I7.pin (b,o) (List.mem_append_right _ (List.mem_append_right _ (fr_ hb e)))).2.1
    cases f with
    | next=>obtain ⟨σ7,H7,I7,n7⟩:=q7; exact again I7 n7
    | cont=>obtain ⟨σ7,H7,I7,n7⟩:=q7; exact again I7 n7
    | brk=>obtain ⟨σ7,H7,I7,q7⟩:=q7; exact ⟨σ7,H7,I7.unpinned,q7⟩
    | ret v=>obtain ⟨x7,σ7,H7,I7,r7,q7⟩:=q7; exact ⟨x7,σ7,H7,I7.unpinned,r7,q7⟩
end
theorem for_range {lo:Int} {n:Nat} {g:TG} {tb:TS} {D:Ends} {σ:St} {H:Hp} (Pv:Nat→St→Hp→Prop) (h0:Pv 0 σ H)
    (hs:∀ i σ H,i < n→Pv i σ H→g (.int (lo + i)) σ H fun σ2 H2=>tb { D with nx:=Pv (i + 1),ct:=Pv (i + 1),bk:=D.nx } σ2 H2) (hd:∀ σ H,Pv n σ H→D.nx σ H) :
    ∃ W : Nat → Nat → St → Hp → Prop, (∃ m, W 0 m σ H) ∧ ∀ i m σ H, W i m σ H →
      ((Itr lo n).stop i H∧D.nx σ H)∨((Itr lo n).go i H∧∃ N:St→Hp→Prop,(∀ σ' H',N σ' H'→∃ m',m' < m∧W (i + 1) m' σ' H')∧∀ x H',(Itr lo n).yld i H x H'→g x σ H' fun σ2 H2=>tb { D with nx:=N,ct:=N,bk:=D.nx } σ2 H2):=by
  refine ⟨fun i m σ H=>m=n - i∧i≤n∧Pv i σ H,⟨n,by simp,Nat.zero_le _,h0⟩,?_⟩
  rintro i m σ H ⟨rfl,hi,p⟩
  by_cases hlt:i < n
  · refine .inr ⟨hlt, Pv (i + 1), fun σ' H' p' => ⟨n - (i + 1), by omega, rfl, hlt, p'⟩, fun x H' y => ?_⟩
    obtain ⟨e,y⟩:=y
    subst e y
    exact hs i σ _ hlt p
  · have e : i = n := by omega
    subst e
    exact .inl ⟨Nat.le_refl _,hd σ H p⟩
abbrev R2:=V→V→Hp→VK→Prop
def OpR (X:Cx) (f:Value→Value→Sem Value) (r:R2):Prop :=
  ∀ (pins : PN_) (s : Shared) (σ : St) (H : Hp) (x y : V) (v u : Value) (Q : VK), Inv X pins σ H s → RelV x v → RelV y u → r x y H Q →
    wpAny (model X.prog X.w) X.A (f v u) (EP X pins σ Q) X.xe s
def UnR (X:Cx) (f:Value→Sem Value) (r:V→Hp→VK→Prop):Prop :=
  ∀ (pins : PN_) (s : Shared) (σ : St) (H : Hp) (x : V) (v : Value) (Q : VK), Inv X pins σ H s → RelV x v → r x H Q →
    wpAny (model X.prog X.w) X.A (f v) (EP X pins σ Q) X.xe s
def CallR (X:Cx) (f:Value) (r:List V→Hp→VK→Prop):Prop :=
  ∀ (pins : PN_) (s : Shared) (σ : St) (H : Hp) (xs : List V) (us : List Value) (Q : VK), Inv X pins σ H s → Vals xs us → r xs H Q →
    wpAny (model X.prog X.w) X.A (call f us) (EP X pins σ Q) X.xe s
def tOp (r:R2) (ta tb:TE):TE:=fun σ H Q=>ta σ H fun x H1=>tb σ H1 fun y H2=>r x y H2 Q
def tUn (r:V→Hp→VK→Prop) (ta:TE):TE:=fun σ H Q=>ta σ H fun x H1=>r x H1 Q
def rI (C:Int→Int→Prop) (g:Int→Int→V):R2:=fun x y H Q => ∃ i j,x=.int i∧y=.int j∧C i j∧Q (g i j) H
def rI0 (g:Int→Int→V):R2:=fun x y H Q => ∃ i j,x=.int i∧y=.int j∧Q (g i j) H
def rU (g:Int→V):V→Hp→VK→Prop:=fun x H Q => ∃ i,x=.int i∧Q (g i) H
section
variable {X:Cx} {a b c:Expr} {ta tb tc:TE} {pos:Pos}
theorem binT (ha:PE X a ta) (hb:PE X b tb) {pins:PN_} {s:Shared} {σ:St} {H:Hp} {R:V→V→Hp→Prop} (I:Inv X pins σ H s)
    (h:ta σ H fun x H1=>tb σ H1 fun y H2=>R x y H2) {Q:SV_} {f:Value→Value→Sem Value}
    (hf:∀ v u s2 x y H2,Inv X pins σ H2 s2→RelV x v→RelV y u→R x y H2→wpAny (model X.prog X.w) X.A (f v u) Q X.xe s2) :
    wpAny (model X.prog X.w) X.A (eval a X.env) (fun v s₁=>wpAny (model X.prog X.w) X.A (eval b X.env) (fun u s₂=>wpAny (model X.prog X.w) X.A (f v u) Q X.xe s₂) X.xe s₁) X.xe s:=by
  refine thn (ha pins s σ H _ I h) fun v s1 ⟨x,H1,I1,r1,q1⟩ => ?_
  refine thn (hb pins s1 σ H1 _ I1 q1) fun u s2 ⟨y,H2,I2,r2,q2⟩ => ?_
  exact hf v u s2 x y H2 I2 r1 r2 q2
theorem db_ {op:Operator} {r:R2} (ho:OpR X (binaryOp op) r) (ha:PE X a ta) (hb:PE X b tb):PE X (.BinOp a op b pos) (tOp r ta tb):=by
  intro pins s σ H Q I h
  exact wpAny_BinOp (binT ha hb I h fun v u s2 x y H2 I2 rx ry q=>ho pins s2 σ H2 x y v u Q I2 rx ry q)
theorem pe_un {op:UnaryOp} {r:V→Hp→VK→Prop} (ho:UnR X (unaryOp op) r) (ha:PE X a ta):PE X (.UnaryOp op a pos) (tUn r ta):=by
  intro pins s σ H Q I h
  exact UnaryOp_ (thn (ha pins s σ H _ I h) fun v s1 ⟨x,H1,I1,r1,q1⟩=>ho pins s1 σ H1 x v Q I1 r1 q1)
theorem opI {f:Value→Value→Sem Value} {C:Int→Int→Prop} {g:Int→Int→Int}
    (rule:∀ (i j:Int) (t u:Tok) (s:Shared) (Q:SV_) (E:SV_),C i j→Q (.int (g i j) s.toks) { s with toks:=s.toks + 1 }→wpAny (model X.prog X.w) X.A (f (.int i t) (.int j u)) Q E s) :
    OpR X f (rI C fun i j=>.int (g i j)):=by
  intro pins s σ H x y v u Q I rx ry h
  obtain ⟨i,j,rfl,rfl,hc,q⟩:=h
  obtain ⟨t,rfl⟩:=rx
  obtain ⟨t',rfl⟩:=ry
  exact rule i j t t' s _ _ hc ⟨.int (g i j),H,I.tok _,⟨_,rfl⟩,q⟩
theorem opI0 {f:Value→Value→Sem Value} {g:Int→Int→Int}
    (rule:∀ (i j:Int) (t u:Tok) (s:Shared) (Q:SV_) (E:SV_),Q (.int (g i j) s.toks) { s with toks:=s.toks + 1 }→wpAny (model X.prog X.w) X.A (f (.int i t) (.int j u)) Q E s) :
    OpR X f (rI0 fun i j=>.int (g i j)):=by
  intro pins s σ H x y v u Q I rx ry h
  obtain ⟨i,j,rfl,rfl,q⟩:=h
  obtain ⟨t,rfl⟩:=rx
  obtain ⟨t',rfl⟩:=ry
  exact rule i j t t' s _ _ ⟨.int (g i j),H,I.tok _,⟨_,rfl⟩,q⟩
theorem opB0 {f:Value→Value→Sem Value} {g:Int→Int→Bool}
    (rule:∀ (i j:Int) (t u:Tok) (s:Shared) (Q:SV_) (E:SV_),Q (.bool (g i j)) s→wpAny (model X.prog X.w) X.A (f (.int i t) (.int j u)) Q E s) :
    OpR X f (rI0 fun i j=>.bl (g i j)):=by
  intro pins s σ H x y v u Q I rx ry h
  obtain ⟨i,j,rfl,rfl,q⟩:=h
  obtain ⟨t,rfl⟩:=rx
  obtain ⟨t',rfl⟩:=ry
  exact rule i j t t' s _ _ ⟨.bl (g i j),H,I,rfl,q⟩
def CPow (i j:Int):Prop:=0≤j∧j≤1000000∧i.natAbs < 2 ^ 64
theorem op_add:OpR X (binaryOp .Add) (rI0 fun i j=>.int (i + j)):=opI0 fun _ _ _ _ _ _ _ q=>add_int q
theorem op_sub:OpR X (binaryOp .Sub) (rI0 fun i j=>.int (i - j)):=opI0 fun _ _ _ _ _ _ _ q=>sub_int q
theorem op_mod:OpR X (binaryOp .Mod) (rI (fun _ j=>0 < j) fun i j=>.int (i % j)):=opI fun i j _ _ _ _ _ hc q=>by
  have h1:(0:Int) < j:=hc
  exact mod_int' (by omega) (by rw [Int.fmod_eq_emod_of_nonneg i (by omega)]; exact q)
theorem op_pow:OpR X (binaryOp .Pow) (rI CPow fun i j=>.int (i ^ j.toNat)):=opI fun _ _ _ _ _ _ _ hc q=>pow_int_small hc.1 hc.2.1 hc.2.2 q
theorem unI {f:Value→Sem Value} {g:Int→Int}
    (rule:∀ (i:Int) (t:Tok) (s:Shared) (Q:SV_) (E:SV_),Q (.int (g i) s.toks) { s with toks:=s.toks + 1 }→wpAny (model X.prog X.w) X.A (f (.int i t)) Q E s) :
    UnR X f (rU fun i=>.int (g i)):=by
  intro pins s σ H x v Q I rx h
  obtain ⟨i,rfl,q⟩:=h
  obtain ⟨t,rfl⟩:=rx
  exact rule i t s _ _ ⟨.int (g i),H,I.tok _,⟨_,rfl⟩,q⟩
theorem un_neg:UnR X (unaryOp .USub) (rU fun i=>.int (-i)):=unI fun _ _ _ _ _ q=>neg_int q
end
def scal:V→V→Bool
  | .non,.non=>true | .non,.int _=>true | .int _,.non=>true | .non,.bl _=>true | .bl _,.non=>true | .non,.str _=>true | .str _,.non=>true
  | .int _,.int _=>true | .bl _,.bl _=>true | .str _,.str _=>true | .byt _,.byt _=>true
  | .int _,.str _=>true | .str _,.int _=>true | .bl _,.str _=>true | .str _,.bl _=>true
  | _,_=>false
def rEq:R2:=fun x y H Q=>scal x y=true∧Q (.bl (decide (x=y))) H
def rNe:R2:=fun x y H Q=>scal x y=true∧Q (.bl (!decide (x=y))) H
theorem dec_int {i j:Int}:decide (V.int i=V.int j)=(i == j):=by
  rw [Bool.eq_iff_iff]
  simp
theorem dec_bl {i j:Bool}:decide (V.bl i=V.bl j)=(i == j):=by
  rw [Bool.eq_iff_iff]
  simp
theorem dec_str {i j:Str}:decide (V.str i=V.str j)=(i == j):=by
  rw [Bool.eq_iff_iff]
  simp
theorem dec_byt {i j:Array UInt8}:decide (V.byt i=V.byt j)=(i.toList == j.toList):=by
  rw [Bool.eq_iff_iff]
  cases i
  cases j
  simp
section
variable {X:Cx} {a b c:Expr} {ta tb tc:TE} {pos:Pos}
theorem bb_ {pins:PN_} {σ:St} {H:Hp} {s:Shared} {Q:VK} {k k':Bool} (I:Inv X pins σ H s) (q:Q (.bl k) H) (e:k=k'):EP X pins σ Q (.bool k') s:=by
  subst e
  exact ⟨.bl k,H,I,rfl,q⟩
theorem op_eq:OpR X (compareOp .Eq) rEq:=by
  intro pins s σ H x y v u Q I rx ry h
  obtain ⟨hs,q⟩:=h
  cases x with
  | non =>
    cases rx
    cases y with
    | non=>cases ry; exact PySem.EqNone.eq_none_none (bb_ I q (by simp))
    | bl j=>cases ry; exact PySem.EqNone.eq_none_bool (bb_ I q (by simp))
    | int j=>obtain ⟨t',rfl⟩:=ry; exact PySem.EqNone.eq_none_int (bb_ I q (by simp))
    | str j=>obtain ⟨t',rfl⟩:=ry; exact PySem.EqNone.eq_none_str (bb_ I q (by simp))
    | _=>exact absurd (show false=true from hs) Bool.false_ne_true
  | bl i =>
    cases rx
    cases y with
    | non=>cases ry; exact PySem.EqNone.eq_bool_none (bb_ I q (by simp))
    | bl j=>cases ry; exact eq_bool (bb_ I q dec_bl)
    | str j=>obtain ⟨t',rfl⟩:=ry; exact PySem.EqMixed.eq_bool_str (bb_ I q (by simp))
    | _=>exact absurd (show false=true from hs) Bool.false_ne_true
  | int i =>
    obtain ⟨t,rfl⟩:=rx
    cases y with
    | non=>cases ry; exact PySem.EqNone.eq_int_none (bb_ I q (by simp))
    | int j=>obtain ⟨t',rfl⟩:=ry; exact eq_int (bb_ I q dec_int)
    | str j=>obtain ⟨t',rfl⟩:=ry; exact PySem.EqMixed.eq_int_str (bb_ I q (by simp))
    | _=>exact absurd (show false=true from hs) Bool.false_ne_true
  | str i =>
    obtain ⟨t,rfl⟩:=rx
    cases y with
    | non=>cases ry; exact PySem.EqNone.eq_str_none (bb_ I q (by simp))
    | bl j=>cases ry; exact PySem.EqMixed.eq_str_bool (bb_ I q (by simp))
    | int j=>obtain ⟨t',rfl⟩:=ry; exact PySem.EqMixed.eq_str_int (bb_ I q (by simp))
    | str j=>obtain ⟨t',rfl⟩:=ry; exact eq_str (bb_ I q dec_str)
    | _=>exact absurd (show false=true from hs) Bool.false_ne_true
  | byt i =>
    obtain ⟨t,rfl⟩:=rx
    cases y with
    | byt j=>obtain ⟨t',rfl⟩:=ry; exact PySem.W.eq_bytes (bb_ I q dec_byt)
    | _=>exact absurd (show false=true from hs) Bool.false_ne_true
  | _=>cases y <;> exact absurd (show false=true from hs) Bool.false_ne_true
theorem op_ne:OpR X (compareOp .NotEq) rNe:=by
  intro pins s σ H x y v u Q I rx ry h
  obtain ⟨hs,q⟩:=h
  cases x with
  | non =>
    cases rx
    cases y with
    | non=>cases ry; exact PySem.EqNone.ne_none_none (bb_ I q (by simp))
    | bl j=>cases ry; exact PySem.EqNone.ne_none_bool (bb_ I q (by simp))
    | int j=>obtain ⟨t',rfl⟩:=ry; exact PySem.EqNone.ne_none_int (bb_ I q (by simp))
    | str j=>obtain ⟨t',rfl⟩:=ry; exact PySem.EqNone.ne_none_str (bb_ I q (by simp))
    | _=>exact absurd (show false=true from hs) Bool.false_ne_true
  | bl i =>
    cases rx
    cases y with
    | non=>cases ry; exact PySem.EqNone.ne_bool_none (bb_ I q (by simp))
    | bl j=>cases ry; exact ne_bool (bb_ I q (congrArg not dec_bl))
    | str j=>obtain ⟨t',rfl⟩:=ry; exact PySem.EqMixed.ne_bool_str (bb_ I q (by simp))
    | _=>exact absurd (show false=true from hs) Bool.false_ne_true
  | int i =>
    obtain ⟨t,rfl⟩:=rx
    cases y with
    | non=>cases ry; exact PySem.EqNone.ne_int_none (bb_ I q (by simp))
    | int j=>obtain ⟨t',rfl⟩:=ry; exact ne_int (bb_ I q (congrArg not dec_int))
    | str j=>obtain ⟨t',rfl⟩:=ry; exact PySem.EqMixed.ne_int_str (bb_ I q (by simp))
    | _=>exact absurd (show false=true from hs) Bool.false_ne_true
  | str i =>
    obtain ⟨t,rfl⟩:=rx
    cases y with
    | non=>cases ry; exact PySem.EqNone.ne_str_none (bb_ I q (by simp))
    | bl j=>cases ry; exact PySem.EqMixed.ne_str_bool (bb_ I q (by simp))
    | int j=>obtain ⟨t',rfl⟩:=ry; exact PySem.EqMixed.ne_str_int (bb_ I q (by simp))
    | str j=>obtain ⟨t',rfl⟩:=ry; exact ne_str (bb_ I q (congrArg not dec_str))
    | _=>exact absurd (show false=true from hs) Bool.false_ne_true
  | byt i =>
    obtain ⟨t,rfl⟩:=rx
    cases y with
    | byt j=>obtain ⟨t',rfl⟩:=ry; exact PySem.W.ne_bytes (bb_ I q (congrArg not dec_byt))
    | _=>exact absurd (show false=true from hs) Bool.false_ne_true
  | _=>cases y <;> exact absurd (show false=true from hs) Bool.false_ne_true
theorem op_lt:OpR X (compareOp .Lt) (rI0 fun i j=>.bl (decide (i < j))):=opB0 fun _ _ _ _ _ _ _ q=>lt_int q
theorem op_le:OpR X (compareOp .LtE) (rI0 fun i j=>.bl (decide (i≤j))):=opB0 fun _ _ _ _ _ _ _ q=>le_int q
theorem op_gt:OpR X (compareOp .Gt) (rI0 fun i j=>.bl (decide (j < i))):=opB0 fun _ _ _ _ _ _ _ q=>gt_int q
theorem op_ge:OpR X (compareOp .GtE) (rI0 fun i j=>.bl (decide (j≤i))):=opB0 fun _ _ _ _ _ _ _ q=>ge_int q
theorem op_notN:OpR X (compareOp .IsNot) (fun x y H Q=>y=.non∧Q (.bl (!decide (x=.non))) H):=by
  intro pins s σ H x y v u Q I rx ry h
  obtain ⟨rfl,q⟩:=h
  cases ry
  refine isnot_none_gen (bb_ I q ?_)
  cases x <;> first
    | (cases rx; rfl)
    | (obtain ⟨t,rfl⟩:=rx; rfl)
theorem OpR.or {f:Value→Value→Sem Value} {r r':R2} (h:OpR X f r) (h':OpR X f r'):OpR X f (fun x y H Q=>r x y H Q∨r' x y H Q):=by
  intro pins s σ H x y v u Q I rx ry q
  rcases q with q | q
  · exact h pins s σ H x y v u Q I rx ry q
  · exact h' pins s σ H x y v u Q I rx ry q
theorem nomark (b:Expr) {op:CmpOp} (h:op ≠ .In:=by decide) (h2:op ≠ .NotIn:=by decide):behindInMarks op b=false:=by
  have e1:(op == CmpOp.In)=false:=by cases op <;> first | rfl | exact absurd rfl h
  have e2:(op == CmpOp.NotIn)=false:=by cases op <;> first | rfl | exact absurd rfl h2
  cases b <;> simp [behindInMarks,e1,e2]
theorem pe_cmpR {op:CmpOp} {r:R2} (ho:OpR X (compareOp op) r) (ha:PE X a ta) (hb:PE X b tb) (hm:behindInMarks op b=false):PE X (.Compare a [op] [b] pos) (tOp r ta tb):=by
  intro pins s σ H Q I h
  exact wpAny_Compare1 (binT ha hb I h fun v u s2 x y H2 I2 rx ry q=>ho pins s2 σ H2 x y v u Q I2 rx ry q) hm
def tTest (t:TE):TT:=fun σ H Q=>t σ H fun x H' => ∃ k,x=.bl k∧Q k H'
theorem gz_ {op:CmpOp} {r:R2} (ho:OpR X (compareOp op) r) (ha:PE X a ta) (hb:PE X b tb) (hm:behindInMarks op b=false):PT X (.Compare a [op] [b] pos) (tTest (tOp r ta tb)):=by
  intro pins s σ H Q I h
  refine wpAny_isTrue_Compare1 (thn (ha pins s σ H _ I h) fun v s1 ⟨x,H1,I1,r1,q1⟩=>thn (hb pins s1 σ H1 _ I1 q1) fun u s2 ⟨y,H2,I2,r2,q2⟩ =>
    thn (ho pins s2 σ H2 x y v u _ I2 r1 r2 q2) fun c s3 ⟨z,H3,I3,r3,k,e,q3⟩ => ?_) hm
  subst e
  cases r3
  exact wpAny_truthy_bool ⟨H3,I3,q3⟩
def tChain (r r':R2) (ta tb tc:TE):TE:=fun σ H Q=>ta σ H fun x H1=>tb σ H1 fun y H2=>r x y H2 fun z H3 => ∃ k,z=.bl k ∧
  (if k=true then tc σ H3 fun w' H4=>r' y w' H4 Q else Q (.bl false) H3)
theorem pe_chain {op op':CmpOp} {r r':R2} (ho:OpR X (compareOp op) r) (ho':OpR X (compareOp op') r') (ha:PE X a ta) (hb:PE X b tb) (hc:PE X c tc)
    (hm:lastMarks [op,op'] [b,c]=false:=by with_unfolding_all rfl):PE X (.Compare a [op,op'] [b,c] pos) (tChain r r' ta tb tc):=by
  intro pins s σ H Q I h
  refine Compare_chain (thn (ha pins s σ H _ I h) fun v s1 ⟨x,H1,I1,r1,q1⟩=>chain_link (thn (hb pins s1 σ H1 _ I1 q1) fun u s2 ⟨y,H2,I2,r2,q2⟩ =>
    thn (ho pins s2 σ H2 x y v u _ I2 r1 r2 q2) fun d s3 ⟨z,H3,I3,r3,k,e,q3⟩ => ?_)) hm
  subst e
  cases r3
  refine wpAny_truthy_bool ?_
  cases k with
  | false=>exact ite_ff ⟨.bl false,H3,I3,rfl,q3⟩
  | true=>exact ite_tt (chain_last (thn (hc pins s3 σ H3 _ I3 q3) fun w' s4 ⟨z',H4,I4,r4,q4⟩=>ho' pins s4 σ H4 y z' u w' Q I4 r2 r4 q4))
theorem pt_chain {op op':CmpOp} {r r':R2} (ho:OpR X (compareOp op) r) (ho':OpR X (compareOp op') r') (ha:PE X a ta) (hb:PE X b tb) (hc:PE X c tc)
    (hm:lastMarks [op,op'] [b,c]=false:=by with_unfolding_all rfl):PT X (.Compare a [op,op'] [b,c] pos) (tTest (tChain r r' ta tb tc)):=by
  intro pins s σ H Q I h
  refine isTrue_chain (thn (ha pins s σ H _ I h) fun v s1 ⟨x,H1,I1,r1,q1⟩=>test_link (thn (hb pins s1 σ H1 _ I1 q1) fun u s2 ⟨y,H2,I2,r2,q2⟩ =>
    thn (ho pins s2 σ H2 x y v u _ I2 r1 r2 q2) fun d s3 ⟨z,H3,I3,r3,k,e,q3⟩ => ?_)) hm
  subst e
  cases r3
  refine wpAny_truthy_bool ?_
  cases k with
  | false =>
    obtain ⟨k',e',q'⟩:=q3
    cases e'
    exact ite_ff ⟨H3,I3,q'⟩
  | true =>
    refine ite_tt (test_last (thn (hc pins s3 σ H3 _ I3 q3) fun w' s4 ⟨z',H4,I4,r4,q4⟩=>thn (ho' pins s4 σ H4 y z' u w' _ I4 r2 r4 q4) fun d' s5 ⟨z2,H5,I5,r5,k2,e2,q5⟩ => ?_))
    subst e2
    cases r5
    exact wpAny_truthy_bool ⟨H5,I5,q5⟩
theorem line63:(sizeLine:Nat) < 2 ^ 63:=by rw [sizeLine_eq]; decide
theorem op_add_str:OpR X (binaryOp .Add) (fun x y H Q => ∃ i j,x=.str i∧y=.str j∧i.length + j.length≤sizeLine∧Q (.str (i ++ j)) H):=by
  intro pins s σ H x y v u Q I rx ry h
  obtain ⟨i,j,rfl,rfl,hz,q⟩:=h
  obtain ⟨t,rfl⟩:=rx
  obtain ⟨t',rfl⟩:=ry
  exact add_str (fun t' tk=>⟨.str (i ++ j),H,I.tok _,⟨_,rfl⟩,q⟩) hz
theorem vals1 {x:V} {us:List Value} (r:Vals [x] us):∃ u,us=[u]∧RelV x u:=by
  cases r with
  | cons r1 r2=>cases r2; exact ⟨_,rfl,r1⟩
theorem vals2 {x y:V} {us:List Value} (r:Vals [x,y] us):∃ u w',us=[u,w']∧RelV x u∧RelV y w':=by
  cases r with
  | cons r1 r2 =>
    cases r2 with
    | cons r3 r4=>cases r4; exact ⟨_,_,rfl,r1,r3⟩
theorem call_max2 (hc:X.calm=true):CallR X (.builtin "max") (fun xs H Q => ∃ i j,xs=[.int i,.int j]∧Q (.int (if j > i then j else i)) H):=by
  intro pins s σ H xs us Q I r h
  obtain ⟨i,j,rfl,q⟩:=h
  obtain ⟨u,w',rfl,⟨t,rfl⟩,⟨t',rfl⟩⟩:=vals2 r
  refine max_two_ints (I.ok.hd hc) fun h' tk k=>⟨_,H,I.kept k,?_,q⟩
  by_cases hj:j > i
  · rw [if_pos hj,if_pos hj]; exact ⟨_,rfl⟩
  · rw [if_neg hj,if_neg hj]; exact ⟨_,rfl⟩
theorem call_min2 (hc:X.calm=true):CallR X (.builtin "min") (fun xs H Q => ∃ i j,xs=[.int i,.int j]∧Q (.int (if j < i then j else i)) H):=by
  intro pins s σ H xs us Q I r h
  obtain ⟨i,j,rfl,q⟩:=h
  obtain ⟨u,w',rfl,⟨t,rfl⟩,⟨t',rfl⟩⟩:=vals2 r
  refine min_two_ints (I.ok.hd hc) fun h' tk k=>⟨_,H,I.kept k,?_,q⟩
  by_cases hj:j < i
  · rw [if_pos hj,if_pos hj]; exact ⟨_,rfl⟩
  · rw [if_neg hj,if_neg hj]; exact ⟨_,rfl⟩
theorem call_int1:CallR X (.type "int") (fun xs H Q=>(∃ i,xs=[.int i]∧Q (.int i) H)∨∃ k,xs=[.bl k]∧Q (.int (if k then 1 else 0)) H):=by
  intro pins s σ H xs us Q I r h
  rcases h with ⟨i,rfl,q⟩ | ⟨k,rfl,q⟩
  · obtain ⟨u, rfl, t, rfl⟩ := vals1 r
    exact call_int_int ⟨.int i,H,I,⟨_,rfl⟩,q⟩
  · obtain ⟨u, rfl, r1⟩ := vals1 r
    cases r1
    exact call_int_bool ⟨.int (if k then 1 else 0),H,I.tok _,⟨_,rfl⟩,q⟩
end
structure ObjM (h:Heap) (x dx C:Addr) (mA:MG_):Prop where
  obj:h.get? x=some (PySem.W.instObj C dx)
  ns:h.Ns1 dx mA
  ne:dx≠x
theorem lookIn_ns {h:Heap} {dx:Addr} {mA:MG_} (n:h.Ns1 dx mA):∃ od,h.get? dx=some od∧∀ name,PySem.W.lookIn name od=some (mA name):=by
  obtain ⟨o,es,ep,ho,hd,hk,_,hm⟩:=n
  refine ⟨o,ho,fun name => ?_⟩
  have e:=hm name
  unfold nsFind findBy at e
  rw [← Array.find?_toList] at e
  unfold PySem.W.lookIn
  rw [hd]
  dsimp only
  split
  · rename_i y q
    rw [q] at e
    exact congrArg some e
  · rename_i q
    rw [q] at e
    have a:es.toList.any (·.refKey)=false:=by
      rw [List.any_eq_false]
      intro y hy
      obtain ⟨z,t,hkey⟩:=hk y (Array.mem_toList_iff.mp hy)
      simp [DictEntry.refKey,hkey]
    have a':¬ es.toList.any (·.refKey)=true:=by rw [a]; exact Bool.false_ne_true
    rw [if_neg a']
    exact congrArg some e
theorem ObjM.look {h:Heap} {x dx C:Addr} {mA:MG_} (I:ObjM h x dx C mA):∃ od,PySem.W.InstAt h x (PySem.W.instObj C dx) C (some od)∧∀ name,PySem.W.lookIn name od=some (mA name) :=
  let ⟨od,ho,hl⟩:=lookIn_ns I.ns
  ⟨od,⟨I.obj,rfl,rfl,ho⟩,hl⟩
theorem RelO.some_of {v:V} {o:Option Value} (r:RelO (some v) o):∃ u,o=some u∧RelV v u:=by
  cases o with
  | none=>exact (show False from r).elim
  | some u=>exact ⟨u,rfl,r⟩
section
variable {P:Program} {w:World} {H H':Hp} {h h':Heap} {a C dx:Addr} {fs fs':List (Str×V)}
theorem ins_get (hok:HOk P w H h) (e:H a=some (.ins C dx fs)):∃ mA,ObjM h a dx C mA∧(∀ f,RelO (fs.lookup f) (mA f))∧PySem.Within mA (fs.map (·.1))∧fs.length≤1000∧H dx=some (.own a):=by
  obtain ⟨d,z,ne,ob,mA,n,r,q⟩:=(show ObjOk P w H h a (.ins C dx fs) from hok a _ e)
  exact ⟨mA,⟨ob,n,ne⟩,r,q,z,d⟩
end
structure Cls (K:FG_) (C:Addr):Prop where
  pg:PySem.W.plainGet K C Str.empty=true
  hd:PySem.W.hasDictIn K C=true
  po:PySem.W.plainOver K C=true
  sa:PySem.W.findIn K (.ref C) "__setattr__" = some (some (.builtin "object.__setattr__"))
theorem Cls.get {K:FG_} {C:Addr} (c:Cls K C) (f:Str):PySem.W.plainGet K C f=true:=c.pg
section
variable {X:Cx} {pins:PN_} {σ:St} {H:Hp} {s:Shared} {A:Around} {E:SV_} {Q:SV_} {c:Value} {b:Bool}
inductive TyOf (K:FG_) (H:Hp):V→Value→Prop where
  | non:TyOf K H .non (.type "NoneType")
  | bl (x:Bool):TyOf K H (.bl x) (.type "bool")
  | int (i:Int):TyOf K H (.int i) (.type "int")
  | str (x:Str):TyOf K H (.str x) (.type "str")
  | flt (x:UInt64):TyOf K H (.flt x) (.type "float")
  | lst {a:Addr} {xs:List V} (e:H a=some (.lst xs)):TyOf K H (.ref a) (.type "list")
  | frz {a:Addr} {o:Obj} {xs:List V} (e:H a=some (.frz o (.lst xs))):TyOf K H (.ref a) (.type "list")
  | tup {a:Addr} {xs:List V} (e:H a=some (.tup xs)):TyOf K H (.ref a) (.type "tuple")
  | dK {a:Addr} {kvs:List (Key×V)} (e:H a=some (.dK kvs)):TyOf K H (.ref a) (.type "dict")
  | dT {a:Addr} {kvs:List (List Key×V)} (e:H a=some (.dT kvs)):TyOf K H (.ref a) (.type "dict")
  | ins {a C dx:Addr} {fs:List (Str×V)} (e:H a=some (.ins C dx fs)) (cl:Cls K C) (ha:PySem.W.findIn K (.ref C) "__class__" = some (some (.builtin "object.__class__")))
      (hn:PySem.W.specialIn K (.builtin "object.__class__") "__get__" = some (some (.builtin "getset_descriptor.__get__"))) (htk:PySem.W.takesIn K (.builtin "object.__class__")=some true)
      (hm:PySem.W.mroIn K C (.type "object")=some true):TyOf K H (.ref a) (.ref C)
theorem du_ {x:V} {u t:Value} (I:Inv X pins σ H s) (rx:RelV x u) (ty:TyOf X.K H x t) (e:PySem.W.kitOne X.K t c=some b) (h:∀ tk,Q (.bool b) { s with toks:=tk }) :
    wpAny (model X.prog X.w) A (call (.builtin "isinstance") [u,c]) Q E s:=by
  cases ty with
  | non=>cases (show u=Value.none from rx); exact PySem.W.kia_one PySem.W.kitx_none I.kIn True.intro e (fun z=>nomatch z) h
  | bl y=>cases (show u=Value.bool y from rx); exact PySem.W.kia_one PySem.W.kitx_bool I.kIn True.intro e (fun z=>nomatch z) h
  | int i=>obtain ⟨t,q⟩:=(show ∃ t,u=Value.int i t from rx); cases q; exact PySem.W.kia_one PySem.W.kitx_int I.kIn True.intro e (fun z=>nomatch z) h
  | str y=>obtain ⟨t,q⟩:=(show ∃ t,u=Value.str y t from rx); cases q; exact PySem.W.kia_one PySem.W.kitx_str I.kIn True.intro e (fun z=>nomatch z) h
  | flt y=>obtain ⟨t,q⟩:=(show ∃ t,u=Value.float y t from rx); cases q; exact PySem.W.kia_one PySem.W.kitx_float I.kIn True.intro e (fun z=>nomatch z) h
  | @lst a xs ea =>
    cases (show u=Value.ref a from rx)
    obtain ⟨_,_,n,_,h1⟩:=(show ObjOk X.prog X.w H s.heap a (.lst xs) from I.hok a _ ea)
    exact PySem.W.kia_one PySem.W.kitx_list I.kIn ⟨_,h1,rfl⟩ e (fun z=>nomatch z) h
  | @frz a ob xs ea =>
    cases (show u=Value.ref a from rx)
    obtain ⟨_,_,_,n,_,h1⟩:=(show ObjOk X.prog X.w H s.heap a (.frz ob (.lst xs)) from I.hok a _ ea)
    exact PySem.W.kia_one PySem.W.kitx_list I.kIn ⟨_,h1,rfl⟩ e (fun z=>nomatch z) h
  | @tup a xs ea =>
    cases (show u=Value.ref a from rx)
    obtain ⟨_,_,_,p⟩:=(show ObjOk X.prog X.w H s.heap a (.tup xs) from I.hok a _ ea)
    obtain ⟨o,h1,h2,_⟩:=p
    exact PySem.W.kia_one PySem.W.kitx_tuple I.kIn ⟨o,h1,h2⟩ e (fun z=>nomatch z) h
  | @dK a kvs ea =>
    cases (show u=Value.ref a from rx)
    obtain ⟨_,_,vs,_,p⟩:=(show ObjOk X.prog X.w H s.heap a (.dK kvs) from I.hok a _ ea)
    obtain ⟨o,es,ep,h1,h2,_⟩:=p
    exact PySem.W.kia_one PySem.W.kitx_dict I.kIn ⟨o,h1,h2.1⟩ e (fun z=>nomatch z) h
  | @dT a kvs ea =>
    cases (show u=Value.ref a from rx)
    obtain ⟨_,_,xs,_,o,es,ep,h1,h2,_⟩:=(show ObjOk X.prog X.w H s.heap a (.dT kvs) from I.hok a _ ea)
    exact PySem.W.kia_one PySem.W.kitx_dict I.kIn ⟨o,h1,h2.1⟩ e (fun z=>nomatch z) h
  | @ins a C dx fs ea cl ha hn htk hm =>
    cases (show u=Value.ref a from rx)
    obtain ⟨mA,O,_⟩:=ins_get I.hok ea
    obtain ⟨od,J,_⟩:=O.look
    exact PySem.W.kia_one (PySem.W.kitx_own (cl.get _) cl.hd ha hn htk hm) I.kIn J e (fun z=>nomatch z) h
end
structure Room (k:Nat) (A:Around):Prop where
  hd:A.handled=none
  dp:A.depth + 3 * k + 5 < recursionLimit
  un:A.units + 16 * k + 200 < cLine
theorem Room.mono {j k:Nat} {A:Around} (r:Room k A) (h:j≤k):Room j A:=⟨r.hd,by have:=r.dp; omega,by have:=r.un; omega⟩
theorem Room.deeper {k:Nat} {A:Around} (r:Room (k + 1) A) (env:Env):Room k (A.deeper env) :=
  ⟨r.hd,by have:=r.dp; show A.depth + 1 + 3 * k + 5 < _; omega,by have:=r.un; show A.units + 3 + 16 * k + 200 < _; omega⟩
theorem Room.depth {k:Nat} {A:Around} (r:Room k A):A.depth < recursionLimit:=by have:=r.dp; omega
theorem Room.units {k:Nat} {A:Around} (r:Room k A):A.units + 64 < cLine:=by have:=r.un; omega
theorem Room.units0 {k:Nat} {A:Around} (r:Room k A):A.units < cLine:=by have:=r.un; omega
def tNil:TA:=fun _ H Q=>Q [] H
def tCons (ta:TE) (tr:TA):TA:=fun σ H Q=>ta σ H fun x H1=>tr σ H1 fun xs H2=>Q (x :: xs) H2
section
variable {X:Cx} {e:Expr} {es:List Expr} {te:TE} {t:TA} {pos:Pos}
theorem cf_:PA X [] tNil:=fun _ _ _ _ H Q I h=>Calls.spliced_nil ⟨[],H,I,.nil,h⟩
theorem au_ (ha:PE X e te) (hr:PA X es t) (hs:starEach (e :: es) X.env=(false,eval e X.env) :: starEach es X.env:=by rfl):PA X (e :: es) (tCons te t):=by
  intro pos pins s σ H Q I h
  rw [hs]
  show wpAny _ _ (spliced ((false,eval e X.env) :: backTo pos (starEach es X.env))) _ _ s
  refine Calls.spliced_cons (thn (ha pins s σ H _ I h) fun u s1 ⟨x,H1,I1,r1,q1⟩ => ?_)
  exact thn (hr pos pins s1 σ H1 _ I1 q1) fun us s2 ⟨xs,H2,I2,r2,q2⟩=>⟨x :: xs,H2,I2,.cons r1 r2,q2⟩
def tTup (t:TA):TE:=fun σ H Q=>t σ H fun xs H1=>xs.length≤sizeLine∧∀ p,H1 p=none→Q (.ref p) (upd H1 p (.tup xs))
def tLst (t:TA):TE:=fun σ H Q=>t σ H fun xs H1=>xs.length≤sizeLine∧∀ p,H1 p=none→Q (.ref p) (upd H1 p (.lst xs))
theorem pe_tup {x1} (h:PA X es t):PE X (.Tuple es x1 pos) (tTup t):=by
  intro pins s σ H Q I hq
  refine wpAny_Tuple_spliced (thn (h pos pins s σ H _ I hq) fun us s1 ⟨xs,H1,I1,r,z,q⟩=>⟨by rw [← r.length]; exact z,?_⟩)
  have hf:H1 s1.heap.objs.size=none:=I1.hok.fresh (Nat.le_refl _)
  refine ⟨.ref s1.heap.objs.size,upd H1 s1.heap.objs.size (.tup xs),I1.laid (t':=s1.toks) (fun b u e=>Heap.get?_push_of_some _ e) (Nat.le_refl _) ?_,rfl,q _ hf⟩
  exact ⟨z,us,r,⟨_,Heap.get?_push_size _ rfl,rfl,_,rfl⟩⟩
theorem pe_lst (h:PA X es t):PE X (.List es pos) (tLst t):=by
  intro pins s σ H Q I hq
  refine wpAny_List_spliced (thn (h pos pins s σ H _ I hq) fun us s1 ⟨xs,H1,I1,r,z,q⟩=>⟨by rw [← r.length]; exact z,?_⟩)
  have hf:H1 s1.heap.objs.size=none:=I1.hok.fresh (Nat.le_refl _)
  refine ⟨.ref s1.heap.objs.size,upd H1 s1.heap.objs.size (.lst xs),I1.laid (t':=s1.toks) (fun b u e=>Heap.get?_push_of_some _ e) (Nat.le_refl _) ?_,rfl,q _ hf⟩
  exact ⟨z,us,0,r,Heap.get?_push_size _ rfl⟩
end
abbrev Sp:=List V→Hp→VK→XK→Prop
abbrev CXT:=List Env→Hp→Shared→XK→Value→Shared→Prop
structure Env0 (P:Program) (w:World) (K:FG_) (mg:MG_) (base:Heap) (A:Around) (outer:List Env) (s:Shared) (H:Hp):Prop where
  frames:A.frames=some outer
  mod:Mod K mg base
  bs:∀ b o,base.get? b=some o→s.heap.get? b=some o∧H b=none
  bsz:base.objs.size≤s.heap.objs.size
  funs:s.heap.FunFrames base outer
  frf:∀ b∈frs outer,H b=none
  hok:HOk P w H s.heap
  bare:AllBare s.gens
def CE (outer:List Env) (P:Program) (w:World) (H:Hp) (s:Shared) (Q:VK) (u:Value) (s':Shared):Prop :=
  ∃ v H',s'.os=s.os∧AllBare s'.gens∧Un (frs outer) [] H H' s.heap s'.heap∧HOk P w H' s'.heap∧RelV v u∧Q v H'
def CR (CX:CXT) (outer:List Env) (P:Program) (w:World) (H:Hp) (s:Shared) (Q:VK) (E:XK) (r:Result) (s':Shared):Prop :=
  match r with
  | .ok (.ret u)=>CE outer P w H s Q u s'
  | .ok _=>False
  | .error e=>CX outer H s E e s'
structure FnOk (P:Program) (w:World) (K:FG_) (mg:MG_) (base:Heap) (CX:CXT) (k:Nat) (f:Addr) (fd:FuncData) (ps:List Str) (sp:Sp):Prop where
  len:∀ vs H Q E,sp vs H Q E→vs.length=ps.length
  run:∀ (A:Around) (outer:List Env) (s:Shared) (H:Hp) (args:Args) (us:List Value) (vs:List V) (Q:VK) (E:XK),Room k A→Env0 P w K mg base A outer s H→BindsTo s fd args (ps.zip us)→Vals vs us→sp vs H Q E →
    codeAny (model P w) A (.call (.ref f) args) (CR CX outer P w H s Q E) s
theorem FnOk.mono {P:Program} {w:World} {K:FG_} {mg:MG_} {base:Heap} {CX:CXT} {j k:Nat} {f:Addr} {fd:FuncData} {ps:List Str} {sp:Sp} (F:FnOk P w K mg base CX j f fd ps sp) (h:j≤k) :
    FnOk P w K mg base CX k f fd ps sp:=⟨F.len,fun A outer s H args us vs Q E hr=>F.run A outer s H args us vs Q E (hr.mono h)⟩
theorem FnOk.imp {P:Program} {w:World} {K:FG_} {mg:MG_} {base:Heap} {CX:CXT} {k:Nat} {f:Addr} {fd:FuncData} {ps:List Str} {sp sp':Sp} (F:FnOk P w K mg base CX k f fd ps sp)
    (h:∀ vs H Q E,sp' vs H Q E→sp vs H Q E):FnOk P w K mg base CX k f fd ps sp' :=
  ⟨fun vs H Q E q=>F.len vs H Q E (h _ _ _ _ q),fun A outer s H args us vs Q E hr he hb hv hs=>F.run A outer s H args us vs Q E hr he hb hv (h _ _ _ _ hs)⟩
section
variable {X:Cx} {pins:PN_} {σ:St} {H:Hp} {s s':Shared}
theorem Inv.env0 (I:Inv X pins σ H s):Env0 X.prog X.w X.K X.mg X.base X.A X.stack s H :=
  ⟨I.ok.frames,I.ok.mod,I.bs,Nat.le_trans I.ok.bsz I.sz,I.stack,I.stkFree,I.hok,I.bare⟩
theorem Inv.after {Q:VK} {u:Value} (I:Inv X pins σ H s) (h:CE X.stack X.prog X.w H s Q u s'):EP X pins σ Q u s':=by
  obtain ⟨v,H',os,bare,un,hok,r,q⟩:=h
  obtain ⟨hh,g,d,t,os'⟩:=s'
  obtain rfl:os'=s.os:=os
  exact ⟨v,H',I.call (h':=hh) (g':=g) (d':=d) (t':=t) (ch:=[]) un hok bare (fun b z=>absurd z (by simp)),r,q⟩
end
def tCall (sp:Sp) (dvs:List V) (E:XK) (t:TA):TE:=fun σ H Q=>t σ H fun vs H1=>sp (vs ++ dvs) H1 Q E
def Binds (K:FG_) (fd:FuncData) (ps:List Str) (ds:List Value):Prop :=
  ∀ (s:Shared) (us:List Value),K.In s.heap→(us ++ ds).length=ps.length→BindsTo s fd ⟨us,[]⟩ (ps.zip (us ++ ds))
theorem Binds.all {K:FG_} {fd:FuncData} {ps:List Str} (h:∀ us:List Value,us.length=ps.length→bindArgs fd ⟨us,[]⟩=pure (ps.zip us)):Binds K fd ps []:=fun s us _ hl=>by
  rw [List.append_nil] at hl ⊢
  exact .of_eq (h us hl)
def Passes (CX:CXT) (X:Cx) (E:XK):Prop := ∀ (pins:PN_) (σ:St) (H:Hp) (s:Shared) (e:Value) (s':Shared),Inv X pins σ H s→CX X.stack H s E e s'→X.xe e s'
section
variable {X:Cx} {CX:CXT} {k:Nat} {f C:Addr} {fd:FuncData} {ps:List Str} {sp:Sp} {dvs:List V} {ds:List Value} {E:XK} {x m:Str} {p pos apos:Pos} {e o:Expr} {es:List Expr} {ta:TE} {t:TA}
theorem run_fn {pins:PN_} {σ:St} {H:Hp} {s:Shared} {Q:VK} {us:List Value} {vs:List V} (F:FnOk X.prog X.w X.K X.mg X.base CX k f fd ps sp) (hr:Room k X.A) (hb:Binds X.K fd ps ds) (hd:Vals dvs ds) (hx:Passes CX X E)
    (I:Inv X pins σ H s) (r:Vals vs us) (h:sp (vs ++ dvs) H Q E):wpAny (model X.prog X.w) X.A (call (.ref f) us) (EP X pins σ Q) X.xe s:=by
  have r2:Vals (vs ++ dvs) (us ++ ds):=r.append hd
  have hl:(us ++ ds).length=ps.length:=by rw [← r2.length]; exact F.len _ _ _ _ h
  refine wpAny_call (codeAny_mono (F.run X.A X.stack s H ⟨us,[]⟩ (us ++ ds) (vs ++ dvs) Q E hr I.env0 (hb s us I.kIn hl) r2 h) fun r s' hq => ?_)
  cases r with
  | error e=>exact hx pins σ H s e s' I hq
  | ok fl =>
    cases fl with
    | ret u=>exact I.after hq
    | next=>exact False.elim hq
    | brk=>exact False.elim hq
    | cont=>exact False.elim hq
theorem ex_ (F:FnOk X.prog X.w X.K X.mg X.base CX k f fd ps sp) (hr:Room k X.A) (hg:Gl X x) (hm:X.mg x=some (.ref f)) (hk:PySem.W.keepIn X.K (.ref f)=true) (hb:Binds X.K fd ps ds) (hd:Vals dvs ds) (hx:Passes CX X E)
    (ha:PA X (e :: es) t) (hdb:(x == ("__debug__" : Str))=false:=by decide) (he:starEach (e :: es) X.env=(false,eval e X.env) :: starEach es X.env:=by rfl) (hpl:(backTo pos (starEach es X.env)).any (·.1)=false:=by rfl) :
    PE X (.Call (.Name x p) (e :: es) [] pos) (tCall sp dvs E t):=by
  intro pins s σ H Q I h
  refine wpAny_Call_Name_kw (io_ I hg hm ?_ hdb)
  refine PySem.W.callWith_K (h₀:=X.base) I.ok.mod.kin hk (thn (ha pos pins s σ H _ I h) fun us s1 ⟨vs,H1,I1,r,q⟩=>⟨I1.kIn,?_⟩) he hpl
  exact run_fn F hr hb hd hx I1 r q
end
def PK (X:Cx) (kws:List Keyword) (t:TA):Prop :=
  ∀ (pos:Pos) (pins:PN_) (s:Shared) (σ:St) (H:Hp) (Q:List V→Hp→Prop),Inv X pins σ H s→t σ H Q→wpAny (model X.prog X.w) X.A (evalAll ((backToKw pos (keywordEach kws X.env)).map (·.2))) (AP X pins σ Q) X.xe s
section
variable {X:Cx} {CX:CXT} {k:Nat} {f C:Addr} {fd:FuncData} {ps ks:List Str} {sp:Sp} {E:XK} {x m:Str} {p pos apos kpos:Pos} {e o:Expr} {es:List Expr} {kws:List Keyword} {te ta:TE} {t tk:TA} {nm:Option Str}
theorem pk_nil:PK X [] tNil:=fun _ _ _ _ H Q I h=>wpAny_evalAll_nil ⟨[],H,I,.nil,h⟩
theorem pk_cons (ha:PE X e te) (hr:PK X kws t):PK X (⟨nm,e,kpos⟩ :: kws) (tCons te t):=by
  intro pos pins s σ H Q I h
  show wpAny _ _ (evalAll ((do let v ← eval e X.env; standAt pos; pure v) :: (backToKw pos (keywordEach kws X.env)).map (·.2))) _ _ s
  refine wpAny_evalAll_cons (wpAny_bind (thn (ha pins s σ H _ I h) fun u s1 ⟨x,H1,I1,r1,q1⟩=>wpAny_bind (wpAny_standAt (wpAny_pure ?_))))
  exact thn (hr pos pins s1 σ H1 _ I1 q1) fun us s2 ⟨xs,H2,I2,r2,q2⟩=>⟨x :: xs,H2,I2,.cons r1 r2,q2⟩
variable {g:List Value→List Value→List Value} {gV:List V→List V→List V}
end
structure FnScope (N P:List Str) (sc:Scope):Prop where
  kind:sc.kind=.function
  co:sc.isCoroutine=false
  gen:sc.isGenerator=false
  nd:N.Nodup
  pre:N.take P.length=P
  par:∀ x∈P,sc.names.lookup x=some .local∨sc.names.lookup x=some .cell
  nofree:∀ y∈sc.names,y.2 ≠ .free
theorem bindL_out {kindOf:Str→Option NameKind} {x:Str}:∀ {binds:List (Str×Value)} {m:MG_},(∀ v,(x,v)∉binds)→bindL kindOf binds m x=m x
  | [],_,_=>rfl
  | (n, v) :: r, m, h => by
    unfold bindL
    rw [bindL_out fun w hw=>h w (List.mem_cons_of_mem _ hw)]
    split
    · have : x ≠ n := by rintro rfl; exact h v List.mem_cons_self
      simp [this]
    · rfl
theorem bindC_out {kindOf:Str→Option NameKind} {x:Str}:∀ {binds:List (Str×Value)} {m:MG_},(∀ v,(x,v)∉binds)→bindC kindOf binds m x=m x
  | [],_,_=>rfl
  | (n, v) :: r, m, h => by
    unfold bindC
    rw [bindC_out fun w hw=>h w (List.mem_cons_of_mem _ hw)]
    split
    · rfl
    · have : x ≠ n := by rintro rfl; exact h v List.mem_cons_self
      simp [this]
theorem bindL_get {kindOf:Str→Option NameKind} {x:Str} {v:Value}:∀ {P:List Str} {vs:List Value} {i:Nat} {m:MG_},P.Nodup→P[i]? = some x→vs[i]? = some v→kindOf x=some .local →
    bindL kindOf (P.zip vs) m x=some v
  | [],_,_,_,_,h,_,_=>by simp at h
  | _ :: _,[],_,_,_,_,h,_=>by simp at h
  | p :: P, w :: vs, 0, m, nd, h1, h2, hk => by
    simp at h1 h2; subst h1; subst h2
    show bindL kindOf ((p,w) :: P.zip vs) m p=_
    unfold bindL
    rw [bindL_out fun v hv=>(List.nodup_cons.mp nd).1 (List.of_mem_zip hv).1,if_pos hk]
    simp
  | p :: P, w :: vs, i + 1, m, nd, h1, h2, hk => by
    show bindL kindOf ((p,w) :: P.zip vs) m x=_
    unfold bindL
    exact bindL_get (i:=i) (List.nodup_cons.mp nd).2 (by simpa using h1) (by simpa using h2) hk
theorem bindC_get {kindOf:Str→Option NameKind} {x:Str} {v:Value}:∀ {P:List Str} {vs:List Value} {i:Nat} {m:MG_},P.Nodup→P[i]? = some x→vs[i]? = some v→kindOf x≠some .local →
    bindC kindOf (P.zip vs) m x=some v
  | [],_,_,_,_,h,_,_=>by simp at h
  | _ :: _,[],_,_,_,_,h,_=>by simp at h
  | p :: P, w :: vs, 0, m, nd, h1, h2, hk => by
    simp at h1 h2; subst h1; subst h2
    show bindC kindOf ((p,w) :: P.zip vs) m p=_
    unfold bindC
    rw [bindC_out fun v hv=>(List.nodup_cons.mp nd).1 (List.of_mem_zip hv).1,if_neg hk]
    simp
  | p :: P, w :: vs, i + 1, m, nd, h1, h2, hk => by
    show bindC kindOf ((p,w) :: P.zip vs) m x=_
    unfold bindC
    exact bindC_get (i:=i) (List.nodup_cons.mp nd).2 (by simpa using h1) (by simpa using h2) hk
def start (N:List Str) (vs:List V):St:=vs.map some ++ List.replicate (N.length - vs.length) none
def cxOf (CX:CXT) (P:Program) (w:World) (K:FG_) (mg:MG_) (base:Heap) (N:List Str) (qual:Str) (scope:Scope) (f:Addr) (cd:Value) (A:Around) (outer:List Env) (s:Shared) (H:Hp) (E:XK):Cx where
  prog:=P
  w:=w
  K:=K
  mg:=mg
  base:=base
  A:=A.deeper (envOfC qual scope s.heap.objs.size f cd)
  N:=N
  s₀:=s
  H₀:=H
  env:=envOfC qual scope s.heap.objs.size f cd
  outer:=outer
  stack:=envOfC qual scope s.heap.objs.size f cd :: outer
  ex:=[]
  calm:=true
  fn:=fun _=>true
  pn:=[]
  xe:=fun e s'=>wpAny (model P w) (A.deeper (envOfC qual scope s.heap.objs.size f cd)) (leaving (envOfC qual scope s.heap.objs.size f cd) e) (fun _ s''=>CX outer H s E e s'') (fun e' s''=>CX outer H s E e' s'') s'
theorem cell_has {sc:Scope} {n:Nat} {x:Str} (h:sc.names.lookup x=some .cell):∃ c,(cellsFrom n sc.names []).lookup x=some c:=by
  have q:=PySem.W.cellsFrom_some sc.names n [] (.inl h)
  exact Option.isSome_iff_exists.mp q
theorem inv_start {CX:CXT} {P:Program} {w:World} {K:FG_} {mg:MG_} {base:Heap} {N ps:List Str} {qual:Str} {scope:Scope} {f:Addr} {cd:Value} {A:Around} {outer:List Env} {s s1:Shared} {H:Hp} {E:XK} {us:List Value} {vs:List V}
    (S:FnScope N ps scope) (hd:A.handled=none) (e0:Env0 P w K mg base A outer s H) (hl:vs.length=ps.length) (r:Vals vs us)
    (x:InCallC s s.heap.objs.size (bindL (envOfC qual scope s.heap.objs.size f cd).kindOf (ps.zip us) fun _=>none) (cellsFrom (s.heap.objs.size + 1) scope.names []) (bindC (envOfC qual scope s.heap.objs.size f cd).kindOf (ps.zip us) fun _=>none) s1) :
    Inv (cxOf CX P w K mg base N qual scope f cd A outer s H E) [] (start N vs) H s1:=by
  have hpl:ps.length≤N.length:=by have:=congrArg List.length S.pre; rw [List.length_take] at this; omega
  obtain ⟨h1,tk,rfl,hk⟩:=x.done
  have noA:∀ b:Addr,b∉(cxOf CX P w K mg base N qual scope f cd A outer s H E).ex:=fun b z=>absurd (show b∈([]:List Addr) from z) (by simp)
  refine ⟨⟨e0.mod,S.kind,rfl,rfl,Nat.le_refl _,fun y z c h1 h2 => ?_,fun y hy => ?_,fun y c _ h => ?_,fun _=>hd,Around.frames_deeper e0.frames,.inr ⟨rfl,rfl⟩,fun b z=>absurd z (noA b),e0.bs,e0.bsz,fun b _ _=>noA b,fun b z=>absurd z (noA b),e0.funs,e0.frf⟩,
    rfl,e0.bare,Un.kept hk,⟨_,x.toInCall.ns,fun i y v h1 h2 h3 => ?_⟩,fun y c h=>⟨_,x.cell y c h⟩,e0.hok.fresh (Nat.le_refl _),fun y c h => ?_,fun p hp=>absurd (show p∈([]:PN_) from hp) (by simp),e0.hok.kept hk,?_⟩
  · exact name_of_addr x.apart (PySem.mem_of_lookup h1) (PySem.mem_of_lookup h2)
  · have hy : scope.names.lookup y = some .cell ∨ scope.names.lookup y = some .free := hy
    rcases hy with hy | hy
    · exact cell_has hy
    · exact absurd rfl (S.nofree _ (PySem.mem_of_lookup hy))
  · exact Nat.le_of_lt (x.above y c (PySem.mem_of_lookup h))
  · have hi : i < vs.length := by
      unfold start at h2
      by_cases hi:i < vs.length
      · exact hi
      · rw [List.getElem?_append_right (by simpa using hi)] at h2
        rw [List.getElem?_replicate] at h2
        split at h2 <;> cases h2
    have ha:vs[i]? = some v:=by
      unfold start at h2
      rw [List.getElem?_append_left (by simpa using hi),List.getElem?_map] at h2
      cases e:vs[i]? with
      | none=>rw [e] at h2; cases h2
      | some a=>rw [e] at h2; cases h2; rfl
    obtain ⟨u,hu,rv⟩:=r.get ha
    have hp:ps[i]? = some y:=by
      rw [← S.pre,List.getElem?_take_of_lt (by omega)]; exact h1
    have ndP:ps.Nodup:=by rw [← S.pre]; exact S.nd.sublist (List.take_sublist _ _)
    refine ⟨u,rv,?_⟩
    rcases S.par y (List.mem_of_getElem? hp) with k | k
    · exact .inl ⟨k,bindL_get ndP hp hu k⟩
    · obtain ⟨c, e⟩ := cell_has (n := s.heap.objs.size + 1) k
      refine .inr ⟨.inl k,c,e,?_⟩
      have q:=x.cell y c e
      rw [bindC_get ndP hp hu (by show scope.names.lookup y≠_; rw [k]; decide)] at q
      exact q
  · exact e0.hok.fresh (Nat.le_of_lt (x.above y c (PySem.mem_of_lookup h)))
  · unfold start
    show _=N.length
    rw [List.length_append,List.length_map,List.length_replicate]
    omega
theorem fn_of {CX:CXT} {P:Program} {w:World} {K:FG_} {mg:MG_} {base:Heap} {k:Nat} {f:Addr} {name qual:Str} {params:Arguments} {body:List Stmt} {scope:Scope} {dV kV doc pm cdv ct oc:Value} {an od:Option Addr}
    {osl:Array (Option Value)} {N ps:List Str} {sp:Sp} (lk:K.lookup f=some ⟨oc,od,.func (PySem.W.fnOf name qual params body scope dV kV doc pm an cdv ct),osl⟩) (hcd:PySem.W.codeIn K cdv qual=true) (S:FnScope N ps scope)
    (len:∀ vs H Q E,sp vs H Q E→vs.length=ps.length)
    (hbody:∀ (A:Around) (outer:List Env) (s:Shared) (H:Hp) (vs:List V) (Q:VK) (E:XK),Room k (A.deeper (envOfC qual scope s.heap.objs.size f cdv))→sp vs H Q E →
      ∃ t,PSs (cxOf CX P w K mg base N qual scope f cdv A outer s H E) body t∧t { nx:=fun _ H'=>Q .non H',rt:=Q } (start N vs) H) :
    FnOk P w K mg base CX (k + 1) f (PySem.W.fnOf name qual params body scope dV kV doc pm an cdv ct) ps sp:=by
  refine ⟨len,fun A outer s H args us vs Q E hr e0 hb r hsp => ?_⟩
  have hl:=len _ _ _ _ hsp
  have KX:K.In s.heap:=e0.mod.kin.keeps fun b o e=>(e0.bs b o e).1
  have lim:s.heap.NoLimit:=e0.mod.nolimit.keeps fun b o e=>(e0.bs b o e).1
  have hkind:∀ y∈ps.zip us,scope.names.lookup y.1=some .local∨(scope.names.lookup y.1=some .cell∧((cellsFrom (s.heap.objs.size + 1) scope.names []).lookup y.1).isSome=true):=fun ⟨n,v⟩ hy=>by
    rcases S.par n (List.of_mem_zip hy).1 with q | q
    · exact .inl q
    · exact .inr ⟨q,PySem.W.cellsFrom_some _ _ _ (.inl q)⟩
  refine codeAny_call_function hr.depth (KX _ _ lk) rfl S.co S.gen rfl (PySem.W.codeRec_of KX hcd) (hb _ _ _ _ ?_)
  refine wpAny_newFunctionEnv_cells S.kind hkind fun env he s1 x => ?_
  subst he
  refine ⟨lim.keeps x.toInCall.keep,codeAny_func ?_⟩
  obtain ⟨t,ht,hq⟩:=hbody A outer s H vs Q E (hr.deeper _) hsp
  have I:Inv (cxOf CX P w K mg base N qual scope f cdv A outer s H E) [] (start N vs) H s1:=inv_start S hr.hd e0 hl r x
  refine wpAny_mono (ht [] s1 (start N vs) H _ I hq) (fun fl s' hs => ?_) fun e s' hs=>hs
  have fin:∀ {σ':St} {H':Hp} {v:V} {u:Value},Inv (cxOf CX P w K mg base N qual scope f cdv A outer s H E) [] σ' H' s'→RelV v u→Q v H'→CE outer P w H s Q u s' :=
    fun {σ' H' v u} J rv q=>⟨v,H',J.os,J.bare,J.base,J.hok,rv,q⟩
  cases fl with
  | ret u =>
    obtain ⟨v,σ',H',J,rv,q⟩:=hs
    exact fin J rv q
  | next =>
    obtain ⟨σ',H',J,q⟩:=hs
    exact fin (v:=V.non) (u:=Value.none) J rfl q
  | brk =>
    obtain ⟨_,_,_,q⟩:=hs
    exact False.elim q
  | cont =>
    obtain ⟨_,_,_,q⟩:=hs
    exact False.elim q
section
variable {X:Cx} {x:Str} {p pos:Pos} {e:Expr} {es:List Expr} {t:TA} {id T:String} {r:List V→Hp→VK→Prop}
def tCB (r:List V→Hp→VK→Prop) (t:TA):TE:=fun σ H Q=>t σ H fun vs H1=>r vs H1 Q
theorem pe_callB (hc:CallR X (.builtin id) r) (hg:Gl X x) (hm:X.mg x=none) (hv:bootBuiltins x=some (.builtin id)) (ha:PA X (e :: es) t) (hn:x ≠ "__name__" := by decide) (hdb:(x == ("__debug__" : Str))=false:=by decide)
    (he:starEach (e :: es) X.env=(false,eval e X.env) :: starEach es X.env:=by rfl) (hpl:(backTo pos (starEach es X.env)).any (·.1)=false:=by rfl):PE X (.Call (.Name x p) (e :: es) [] pos) (tCB r t):=by
  intro pins s σ H Q I h
  refine wpAny_Call_Name_kw (gm_ I hg hm hv ?_ hn hdb)
  exact PyProof.Rows.callWith_builtin1 (thn (ha pos pins s σ H _ I h) fun us s1 ⟨vs,H1,I1,r1,q1⟩=>hc pins s1 σ H1 vs us Q I1 r1 q1) he hpl
theorem pe_callTy (hc:CallR X (.type T) r) (hg:Gl X x) (hm:X.mg x=none) (hv:bootBuiltins x=some (.type T)) (ha:PA X (e :: es) t) (hn:x ≠ "__name__" := by decide) (hdb:(x == ("__debug__" : Str))=false:=by decide)
    (he:starEach (e :: es) X.env=(false,eval e X.env) :: starEach es X.env:=by rfl) (hpl:(backTo pos (starEach es X.env)).any (·.1)=false:=by rfl):PE X (.Call (.Name x p) (e :: es) [] pos) (tCB r t):=by
  intro pins s σ H Q I h
  refine wpAny_Call_Name_kw (gm_ I hg hm hv ?_ hn hdb)
  exact PyProof.Rows.callWith_type1 (thn (ha pos pins s σ H _ I h) fun us s1 ⟨vs,H1,I1,r1,q1⟩=>hc pins s1 σ H1 vs us Q I1 r1 q1) he hpl
end
end L2
namespace HT
open PySem PyProof.Rows
section
open PySem.SeqAt
open PySem.AutoSeq1 (wpAny_loadPart')
open PySem.MeetsSeq PySem.MeetsSeq2 PySem.MeetsSeq3
end
section
variable {prog:Program} {w:World} {A:Around} {E:SV_} {s:Shared}
def sIx (n d:Nat):Option Int→Nat
  | none=>d
  | some v=>if v < 0 then (v + (n:Int)).toNat else min v.toNat n
theorem sIx_none (n d:Nat):sIx n d none=d:=rfl
theorem sIx_nat (n d k:Nat):sIx n d (some (k:Int))=min k n:=by
  show (if (k:Int) < 0 then ((k:Int) + (n:Int)).toNat else min (k:Int).toNat n)=min k n
  rw [if_neg (by omega),Int.toNat_natCast]
end
end HT
namespace L2
open PySem PySem.Spec PyProof.Rows
abbrev TO:=St→Hp→(Option Int→Hp→Prop)→Prop
def PO (X:Cx) (e:Option Expr) (t:TO):Prop :=
  ∀ (pins : PN_) (s : Shared) (σ : St) (H : Hp) (Q : Option Int → Hp → Prop), Inv X pins σ H s → t σ H Q →
    wpAny (model X.prog X.w) X.A (evalPart e X.env) (fun u s' => ∃ o H',Inv X pins σ H' s'∧IsPart u o∧Q o H') X.xe s
def tNoPart:TO:=fun _ H Q=>Q none H
def tPart (t:TE):TO:=fun σ H Q=>t σ H fun x H1 => ∃ i,x=.int i∧Q (some i) H1
theorem intsAre_of {ns:List Int}:∀ {us:List Value},Vals (ns.map V.int) us→IntsAre us ns:=by
  induction ns with
  | nil=>intro us r; rw [List.map_nil] at r; cases r; exact .nil
  | cons n ns ih =>
    intro us r
    rw [List.map_cons] at r
    cases r with
    | cons r1 r2 =>
      obtain ⟨t,e⟩:=r1
      subst e
      exact .cons n t (ih r2)
section
variable {X:Cx} {e:Expr} {te:TE} {lo hi:Option Expr} {tl th:TO} {pos p2:Pos}
theorem po_none:PO X none tNoPart:=by
  intro pins s σ H Q I h
  rw [evalPart_none]
  exact wpAny_pure ⟨none,H,I,.none,h⟩
theorem po_some (h:PE X e te):PO X (some e) (tPart te):=by
  intro pins s σ H Q I hw
  rw [evalPart_some]
  refine thn (h pins s σ H _ I hw) fun u s1 ⟨x,H1,I1,r1,q1⟩ => ?_
  obtain ⟨i,rfl,q⟩:=q1
  obtain ⟨t,rfl⟩:=r1
  exact ⟨some i,H1,I1,.int i t,q⟩
def SlR (X:Cx) (r:V→Option Int→Option Int→Hp→VK→Prop):Prop :=
  ∀ (pins : PN_) (s : Shared) (σ : St) (H : Hp) (x : V) (v vl vu : Value) (lo hi : Option Int) (sl : Addr) (Q : VK), Inv X pins σ H s → RelV x v → s.heap.IsSliceOf sl vl vu .none → IsPart vl lo → IsPart vu hi → r x lo hi H Q →
    ∃ T id,typeLookup (.type T) "__getitem__" = pure (some (.builtin id))∧s.TypeIs v T∧wpAny (model X.prog X.w) X.A (getItem v (.ref sl)) (EP X pins σ Q) X.xe s
theorem SlR.or {r r':V→Option Int→Option Int→Hp→VK→Prop} (h:SlR X r) (h':SlR X r'):SlR X (fun x lo hi H Q=>r x lo hi H Q∨r' x lo hi H Q):=by
  intro pins s σ H x v vl vu lo hi sl Q I rx hs pl pu q
  rcases q with q | q
  · exact h pins s σ H x v vl vu lo hi sl Q I rx hs pl pu q
  · exact h' pins s σ H x v vl vu lo hi sl Q I rx hs pl pu q
def tSl (r:V→Option Int→Option Int→Hp→VK→Prop) (te:TE) (tl th:TO):TE:=fun σ H Q=>te σ H fun x H1=>tl σ H1 fun l H2=>th σ H2 fun u H3=>r x l u H3 Q
theorem hp_ {r:V→Option Int→Option Int→Hp→VK→Prop} (hr:SlR X r) (he:PE X e te) (hl:PO X lo tl) (hu:PO X hi th):PE X (.Subscript e (.Slice lo hi none p2) pos) (tSl r te tl th):=by
  intro pins s σ H Q I h
  refine Subscript_ (thn (he pins s σ H _ I h) fun v s1 ⟨x,H1,I1,r1,q1⟩ => ?_)
  refine wpAny_Slice (thn (hl pins s1 σ H1 _ I1 q1) fun vl s2 ⟨l,H2,I2,pl,q2⟩=>thn (hu pins s2 σ H2 _ I2 q2) fun vu s3 ⟨u,H3,I3,pu,q3⟩ => ?_)
  rw [evalPart_none]
  refine wpAny_pure ?_
  have I4:Inv X pins σ H3 { s3 with heap:=s3.heap.push { cls:=.type "slice",data:=.fields #[vl,vu,.none] } }:=I3.kept (t':=s3.toks) fun b ob q=>Heap.get?_push_of_some _ q
  obtain ⟨T,id,hT,ht,hg⟩:=hr pins { s3 with heap:=s3.heap.push { cls:=.type "slice",data:=.fields #[vl,vu,.none] } } σ H3 x v vl vu l u s3.heap.objs.size Q I4 r1 (Heap.IsSliceOf.new ..) pl pu q3
  show wpAny (model X.prog X.w) X.A (subscriptTail e (.Slice lo hi none p2) v (.ref s3.heap.objs.size)) (EP X pins σ Q) X.xe { s3 with heap:=s3.heap.push { cls:=.type "slice",data:=.fields #[vl,vu,.none] } }
  exact tail_any (ops:=[.ref s3.heap.objs.size,v]) ht hT hg (by with_unfolding_all rfl)
def cutV (xs:List V) (lo hi:Option Int):List V:=(xs.drop (HT.sIx xs.length 0 lo)).take (HT.sIx xs.length xs.length hi - HT.sIx xs.length 0 lo)
theorem cutV_length (xs:List V) (lo hi:Option Int):(cutV xs lo hi).length≤xs.length:=by
  unfold cutV
  rw [List.length_take,List.length_drop]
  omega
end
def ixN (n:Nat) (i:Int):Option Nat:=if 0≤i then (if i < n then some i.toNat else none) else if -(n:Int)≤i then some (i + n).toNat else none
def atI {α:Type} (xs:List α) (i:Int):Option α:=(ixN xs.length i).bind fun j=>xs[j]?
theorem ixN_seq {n:Nat} {i:Int} {j:Nat} (h:ixN n i=some j):seqIndex? i n=some j∧j < n ∧ -(n:Int)≤i∧i < n:=by
  unfold ixN at h
  by_cases h0:0≤i
  · rw [if_pos h0] at h
    by_cases h1:i < n
    · rw [if_pos h1] at h
      have e:i.toNat=j:=Option.some.inj h
      exact ⟨by rw [seqIndex_of h0 h1,e],by omega,by omega,h1⟩
    · rw [if_neg h1] at h; cases h
  · rw [if_neg h0] at h
    by_cases h1 : -(n:Int)≤i
    · rw [if_pos h1] at h
      have e:(i + n).toNat=j:=Option.some.inj h
      exact ⟨by rw [seqIndex_neg (by omega) h1,e],by omega,h1,by omega⟩
    · rw [if_neg h1] at h; cases h
theorem atI_get {α:Type} {xs:List α} {i:Int} {v:α} (h:atI xs i=some v):∃ j,seqIndex? i xs.length=some j∧xs[j]? = some v∧j < xs.length ∧ -(xs.length:Int)≤i∧i < xs.length:=by
  unfold atI at h
  cases e:ixN xs.length i with
  | none=>rw [e] at h; cases h
  | some j =>
    rw [e] at h
    obtain ⟨h1,h2,h3,h4⟩:=ixN_seq e
    exact ⟨j,h1,h,h2,h3,h4⟩
theorem gd_ {α:Type} {xs:List α} {j:Nat} {v:α} (h:xs[j]? = some v):atI xs (j:Int)=some v:=by
  have hj:j < xs.length:=(List.getElem?_eq_some_iff.mp h).1
  have e:ixN xs.length (j:Int)=some j:=by
    unfold ixN
    rw [if_pos (by omega),if_pos (by omega)]; simp
  unfold atI; rw [e]; exact h
theorem atI_last {α:Type} (xs:List α) (v:α):atI (xs ++ [v]) (-1)=some v:=by
  have hl:(xs ++ [v]).length=xs.length + 1:=by simp
  have e:ixN (xs ++ [v]).length (-1)=some xs.length:=by
    unfold ixN
    rw [hl,if_neg (by decide),if_pos (by omega)]
    congr 1
    omega
  unfold atI
  rw [e]
  show (xs ++ [v])[xs.length]? = some v
  simp
def PlainIx (b:Expr):Prop := ∀ o i,subscripted b false o i=operate [o,i] (getItem o i)
def IxR (X:Cx) (r:R2):Prop :=
  ∀ (value slice : Expr) (pins : PN_) (s : Shared) (σ : St) (H : Hp) (x y : V) (v u : Value) (Q : VK), Inv X pins σ H s → RelV x v → RelV y u → r x y H Q →
    subscripted slice false v u=operate [v,u] (getItem v u)→wpAny (model X.prog X.w) X.A (subscriptTail value slice v u) (EP X pins σ Q) X.xe s
def MtR (X:Cx) (id:String) (r:V→List V→Hp→VK→Prop):Prop :=
  ∀ (pins : PN_) (s : Shared) (σ : St) (H : Hp) (x : V) (xs : List V) (v : Value) (us : List Value) (Q : VK), Inv X pins σ H s → RelV x v → Vals xs us → r x xs H Q →
    wpAny (model X.prog X.w) X.A (call (.builtin id) (v :: us)) (EP X pins σ Q) X.xe s
section
variable {X:Cx} {a b:Expr} {ta tb:TE} {pos:Pos}
theorem IxR.or {r r':R2} (h:IxR X r) (h':IxR X r'):IxR X (fun x y H Q=>r x y H Q∨r' x y H Q):=by
  intro value slice pins s σ H x y v u Q I rx ry q hs
  rcases q with q | q
  · exact h value slice pins s σ H x y v u Q I rx ry q hs
  · exact h' value slice pins s σ H x y v u Q I rx ry q hs
theorem fh_ {r:R2} (hr:IxR X r) (ha:PE X a ta) (hb:PE X b tb) (hs:PlainIx b):PE X (.Subscript a b pos) (tOp r ta tb):=by
  intro pins s σ H Q I h
  exact Subscript_ (binT ha hb I h fun v u s2 x y H2 I2 rx ry q=>hr a b pins s2 σ H2 x y v u Q I2 rx ry q (hs _ _))
def rIxL (K:FG_):R2:=fun x y H Q => ∃ p xs i v,x=.ref p∧y=.int i∧SqL K H p xs∧atI xs i=some v∧Q v H
def rIxT (K:FG_):R2:=fun x y H Q => ∃ p xs i v,x=.ref p∧y=.int i∧SqT K H p xs∧atI xs i=some v∧Q v H
def rIxS:R2:=fun x y H Q => ∃ z i c,x=.str z∧y=.int i∧z.length≤sizeLine∧atI z.cps.toList i=some c∧Q (.str ⟨#[c]⟩) H
theorem dd_:IxR X (rIxL X.K):=by
  intro value slice pins s σ H x y v u Q I rx ry h hs
  obtain ⟨p,xs,i,z,rfl,rfl,hq,he,q⟩:=h
  cases rx
  obtain ⟨t,rfl⟩:=ry
  obtain ⟨its,r,pl,hz⟩:=I.list hq
  obtain ⟨j,h1,h2,h3,h4,h5⟩:=atI_get he
  obtain ⟨w,ew,rw'⟩:=r.get h2
  have hl:=r.length
  have hn:=line63
  have fin:EP X pins σ Q w s:=⟨z,H,I,rw',q⟩
  by_cases h0:0≤i
  · have hj : i.toNat = j := by
      rw [seqIndex_of h0 h5] at h1
      exact Option.some.inj h1
    exact item_listR pl.isList h0 (by omega) (by rw [hj]; simpa using ew) fin hs
  · have hj : (i + (its.toArray.size : Int)).toNat = j := by
      rw [seqIndex_neg (by omega) h4] at h1
      rw [List.size_toArray,← hl]
      exact Option.some.inj h1
    exact subscriptTail_builtinR (x:=w) pl.isList.typeIs slot_list_getitem.lookup
      (wpAny_getItem_list_neg (Q:=fun r s'=>r=w∧EP X pins σ Q r s') pl.isList (by omega) (by rw [List.size_toArray] <;> omega) (by omega) (by rw [hj]; simpa using ew) ⟨rfl,fin⟩) hs
theorem ix_tup:IxR X (rIxT X.K):=by
  intro value slice pins s σ H x y v u Q I rx ry h hs
  obtain ⟨p,xs,i,z,rfl,rfl,hq,he,q⟩:=h
  cases rx
  obtain ⟨t,rfl⟩:=ry
  obtain ⟨its,r,pl,hz⟩:=I.tuple hq
  obtain ⟨j,h1,h2,h3,h4,h5⟩:=atI_get he
  obtain ⟨w,ew,rw'⟩:=r.get h2
  have hl:=r.length
  have hn:=line63
  have fin:EP X pins σ Q w s:=⟨z,H,I,rw',q⟩
  exact subscriptTail_builtinR (x:=w) pl.typeIs slot_tuple_getitem.lookup
    (getItem_tuple (j:=j) (Q:=fun r s'=>r=w∧EP X pins σ Q r s') pl (by omega) (by omega) (by rw [List.size_toArray,← hl]; exact h1) (by simpa using ew) ⟨rfl,fin⟩) hs
theorem ix_str:IxR X rIxS:=by
  intro value slice pins s σ H x y v u Q I rx ry h hs
  obtain ⟨z,i,c,rfl,rfl,hz,he,q⟩:=h
  obtain ⟨t,rfl⟩:=rx
  obtain ⟨t',rfl⟩:=ry
  obtain ⟨j,h1,h2,h3,h4,h5⟩:=atI_get he
  have hl:z.cps.toList.length=z.length:=by simp [Str.length]
  rw [hl] at h1 h4 h5
  have hn:=line63
  exact tail_any (typeIs_str s z t) slot_str_getitem.lookup (getItem_str (c:=c) (by
    have e1:decide (i < -(2 ^ 63:Int))=false:=decide_eq_false (by omega)
    have e2:decide (i≥2 ^ 63)=false:=decide_eq_false (by omega)
    rw [e1,e2,Bool.or_false]) (by rw [h1]; simpa using h2) ⟨.str ⟨#[c]⟩,H,I.tok _,⟨_,rfl⟩,q⟩) hs
theorem mapSeq_set (its:List Value) (n j:Nat) (u:Value):Obj.mapSeq (·.setIfInBounds j u) { cls:=.type "list",data:=.seq its.toArray n }={ cls:=.type "list",data:=.seq (its.set j u).toArray n }:=by
  simp [Obj.mapSeq]
theorem Inv.lst {pins:PN_} {σ:St} {H:Hp} {s:Shared} {p:Addr} {xs:List V} (I:Inv X pins σ H s) (h:H p=some (.lst xs)) :
    ∃ (its:List Value) (n:Nat),Vals xs its∧s.heap.get? p=some { cls:=.type "list",data:=.seq its.toArray n }∧xs.length≤sizeLine:=by
  obtain ⟨z,its,n,r,e⟩:=I.hok p _ h
  exact ⟨its,n,r,e,z⟩
theorem Inv.lstUpd {pins:PN_} {σ:St} {H:Hp} {s:Shared} {p:Addr} {xs ys:List V} {its its':List Value} {n n':Nat} {f:Obj→Obj} (I:Inv X pins σ H s) (h:H p=some (.lst xs))
    (ho:s.heap.get? p=some { cls:=.type "list",data:=.seq its.toArray n }) (hf:f { cls:=.type "list",data:=.seq its.toArray n }={ cls:=.type "list",data:=.seq its'.toArray n' }) (r:Vals ys its') (hz:ys.length≤sizeLine) (t:Nat) :
    Inv X pins σ (upd H p (.lst ys)) { s with heap:=s.heap.update p f,toks:=t }:=by
  have e:(s.heap.update p f).get? p=some { cls:=.type "list",data:=.seq its'.toArray n' }:=by
    rw [Heap.get?_update_self f ho (by rw [hf] <;> rfl),hf]
  refine I.write (x:=p) (e:=p) (by rw [h]; trivial) (.inl rfl) (fun b u hb q=>(Heap.get?_update_other _ _ (Ne.symm hb)).trans q) ⟨_,e⟩ ?_
  exact ⟨hz,its',n',r,e⟩
def rSetL:V→V→V→Hp→(Hp→Prop)→Prop:=fun o i v H Q => ∃ p xs k j,o=.ref p∧i=.int k∧H p=some (.lst xs)∧ixN xs.length k=some j∧Q (upd H p (.lst (xs.set j v)))
theorem dg_:PSet X rSetL:=by
  intro pins s σ H o i v ov iv u Q I ro ri rv h
  obtain ⟨p,xs,k,j,rfl,rfl,hp,hj,q⟩:=h
  cases ro
  obtain ⟨t,rfl⟩:=ri
  obtain ⟨its,n,r,ho,hz⟩:=I.lst hp
  obtain ⟨h1,h2,h3,h4⟩:=ixN_seq hj
  have hl:=r.length
  have hn:=line63
  have I':Inv X pins σ (upd H p (.lst (xs.set j v))) { s with heap:=s.heap.update p (Obj.mapSeq (·.setIfInBounds j u)) } :=
    I.lstUpd hp ho (mapSeq_set its n j u) (r.set rv j) (by rw [List.length_set]; exact hz) s.toks
  by_cases h0:0≤k
  · have hk : k.toNat = j := by
      rw [seqIndex_of h0 h4] at h1
      exact Option.some.inj h1
    exact PySem.W.ki_setAt ho h0 (by omega) (by rw [List.size_toArray,← hl]; exact h4) (by rw [hk]; exact ⟨_,I',q⟩)
  · have hk : (k + (its.toArray.size : Int)).toNat = j := by
      rw [seqIndex_neg (by omega) h3] at h1
      rw [List.size_toArray,← hl]
      exact Option.some.inj h1
    exact PySem.W.ki_setBack ho (by omega) (by rw [List.size_toArray,← hl]; exact h3) (by omega) (by rw [hk]; exact ⟨_,I',q⟩)
theorem slice_bounds (lo hi:Option Int) (n:Nat):(sliceBounds lo hi none n).1=((HT.sIx n 0 lo:Nat):Int)∧(sliceBounds lo hi none n).2.1=((HT.sIx n n hi:Nat):Int)∧(sliceBounds lo hi none n).2.2=1:=by
  refine ⟨?_,?_,rfl⟩
  · cases lo with
    | none=>simp [sliceBounds,HT.sIx]
    | some i =>
      simp only [sliceBounds,HT.sIx,Option.getD_none,show (1:Int) > 0 by decide,if_true]
      by_cases h:i < 0
      · simp only [h,if_true] <;> omega
      · simp only [h,if_false] <;> omega
  · cases hi with
    | none=>simp [sliceBounds,HT.sIx]
    | some i =>
      simp only [sliceBounds,HT.sIx,Option.getD_none,show (1:Int) > 0 by decide,if_true]
      by_cases h:i < 0
      · simp only [h,if_true] <;> omega
      · simp only [h,if_false] <;> omega
theorem slicePick_cut (its:List Value) (lo hi:Option Int):slicePick its.toArray lo hi none=((its.drop (HT.sIx its.length 0 lo)).take (HT.sIx its.length its.length hi - HT.sIx its.length 0 lo)).toArray:=by
  obtain ⟨h1,h2,h3⟩:=slice_bounds lo hi its.toArray.size
  unfold slicePick
  rw [h1,h2,h3]
  simp only [sliceRange_one,pick_run,List.size_toArray] <;> rfl
def rSlL (K:FG_):V→Option Int→Option Int→Hp→VK→Prop:=fun x lo hi H Q => ∃ a xs,x=.ref a∧SqL K H a xs∧∀ p,H p=none→Q (.ref p) (upd H p (.lst (cutV xs lo hi)))
theorem sl_list:SlR X (rSlL X.K):=by
  intro pins s σ H x v vl vu lo hi sl Q I rx hs pl pu h
  obtain ⟨a,xs,rfl,hx,q⟩:=h
  cases rx
  obtain ⟨its,r,ht,hz⟩:=I.list hx
  have hlen:=r.length
  refine ⟨"list",_,slot_list_getitem.lookup,ht.isList.typeIs,?_⟩
  refine wpAny_getItem_list_slice ht.isList hs pl pu .none (by simp) ?_ (by rw [List.size_toArray] <;> omega)
  rw [slicePick_cut,← hlen]
  refine ⟨.ref s.heap.objs.size,_,I.laid (t':=s.toks) (o:=.lst (cutV xs lo hi)) (fun b ob q=>Heap.get?_push_of_some _ q) (Nat.le_refl _) ?_,rfl,q _ (I.hok.fresh (Nat.le_refl _))⟩
  exact ⟨Nat.le_trans (cutV_length xs lo hi) hz,_,0,(r.drop (HT.sIx xs.length 0 lo)).take (HT.sIx xs.length xs.length hi - HT.sIx xs.length 0 lo),Heap.get?_push_size _ rfl⟩
def flatV:V→Bool
  | .non=>true
  | .bl _=>true
  | .int _=>true
  | .str _=>true
  | _=>false
def eqV:V→V→Bool
  | .non,.non=>true
  | .bl a,.bl b=>a == b
  | .bl a,.int b=>(if a then 1 else 0) == b
  | .int a,.bl b=>a == (if b then 1 else 0)
  | .int a,.int b=>a == b
  | .str a,.str b=>a == b
  | _,_=>false
theorem eqAt_V {A:Around} {s:Shared} {y x:V} {u v:Value} (ry:RelV y u) (rx:RelV x v) (fy:flatV y=true) (fx:flatV x=true):SeqAt.EqAt A s u v (eqV y x):=by
  cases y with
  | non =>
    cases ry
    cases x with
    | non=>cases rx; exact SeqAt.EqAt.same _
    | bl b=>cases rx; exact SeqAt.EqAt.none_bool b
    | int b=>obtain ⟨t,rfl⟩:=rx; exact SeqAt.EqAt.none_int b t
    | str b=>obtain ⟨t,rfl⟩:=rx; exact SeqAt.EqAt.none_str b t
    | _=>exact absurd (show false=true from fx) Bool.false_ne_true
  | bl a =>
    cases ry
    cases x with
    | non=>cases rx; exact SeqAt.EqAt.bool_none a
    | bl b=>cases rx; exact SeqAt.EqAt.bool_bool a b
    | int b=>obtain ⟨t,rfl⟩:=rx; exact SeqAt.EqAt.bool_int a b t
    | str b=>obtain ⟨t,rfl⟩:=rx; exact SeqAt.EqAt.bool_str a b t
    | _=>exact absurd (show false=true from fx) Bool.false_ne_true
  | int a =>
    obtain ⟨t',rfl⟩:=ry
    cases x with
    | non=>cases rx; exact SeqAt.EqAt.int_none a t'
    | bl b=>cases rx; exact SeqAt.EqAt.int_bool a t' b
    | int b=>obtain ⟨t,rfl⟩:=rx; exact SeqAt.EqAt.int_int a t' b t
    | str b=>obtain ⟨t,rfl⟩:=rx; exact SeqAt.EqAt.int_str a t' b t
    | _=>exact absurd (show false=true from fx) Bool.false_ne_true
  | str a =>
    obtain ⟨t',rfl⟩:=ry
    cases x with
    | non=>cases rx; exact SeqAt.EqAt.str_none a t'
    | bl b=>cases rx; exact SeqAt.EqAt.str_bool a t' b
    | int b=>obtain ⟨t,rfl⟩:=rx; exact SeqAt.EqAt.str_int a t' b t
    | str b=>obtain ⟨t,rfl⟩:=rx; exact SeqAt.EqAt.str_str a t' b t
    | _=>exact absurd (show false=true from fx) Bool.false_ne_true
  | _=>exact absurd (show false=true from fy) Bool.false_ne_true
def eqU (x:V) (u:Value):Bool:=match u with
  | .none=>eqV .non x
  | .bool b=>eqV (.bl b) x
  | .int i _=>eqV (.int i) x
  | .str z _=>eqV (.str z) x
  | _=>false
theorem eqU_of {x y:V} {u:Value} (r:RelV y u) (f:flatV y=true):eqU x u=eqV y x:=by
  cases y with
  | non=>cases r; rfl
  | bl b=>cases r; rfl
  | int i=>obtain ⟨t,rfl⟩:=r; rfl
  | str z=>obtain ⟨t,rfl⟩:=r; rfl
  | _=>exact absurd (show false=true from f) Bool.false_ne_true
theorem any_eqU {x:V}:∀ {xs:List V} {us:List Value},Vals xs us→xs.all flatV=true→us.any (eqU x)=xs.any fun y=>eqV y x
  | _,_,.nil,_=>rfl
  | y :: xs, u :: us, .cons r t, f => by
    rw [List.all_cons,Bool.and_eq_true] at f
    rw [List.any_cons,List.any_cons,eqU_of r f.1,any_eqU t f.2]
theorem mem_eqAt {A:Around} {s:Shared} {x:V} {v:Value} (rx:RelV x v) (fx:flatV x=true):∀ {xs:List V} {us:List Value},Vals xs us→xs.all flatV=true→∀ u∈us,SeqAt.EqAt A s u v (eqU x u)
  | _,_,.nil,_=>fun u hu=>by cases hu
  | y :: xs, u :: us, .cons r t, f => fun u' hu => by
    rw [List.all_cons,Bool.and_eq_true] at f
    rcases List.mem_cons.mp hu with rfl | hu
    · rw [eqU_of r f.1]; exact eqAt_V r rx f.1 fx
    · exact mem_eqAt rx fx t f.2 u' hu
def inV (x:V) (xs:List V):Bool:=xs.any fun y=>eqV y x
def rIn (K:FG_) (neg:Bool):R2:=fun x y H Q => ∃ p xs,y=.ref p∧(SqL K H p xs∨SqT K H p xs)∧flatV x=true∧xs.all flatV=true∧Q (.bl (if neg then !inV x xs else inV x xs)) H
theorem op_in_seq:OpR X (compareOp .In) (rIn X.K false):=by
  intro pins s σ H x y v u Q I rx ry h
  obtain ⟨p,xs,rfl,hq,fx,fs,q⟩:=h
  cases ry
  rcases hq with hq | hq
  · obtain ⟨its, r, pl, hz⟩ := I.list hq
    refine SeqAt.in_listAt (eqU x) pl.isList (fun w hw=>mem_eqAt rx fx r fs w (by simpa using hw)) ⟨.bl _,H,I,rfl,?_⟩
    rw [show its.toArray.any (eqU x)=its.any (eqU x) by simp,any_eqU r fs]
    exact q
  · obtain ⟨its, r, pl, hz⟩ := I.tuple hq
    refine SeqAt.in_tupleAt (eqU x) pl (fun w hw=>mem_eqAt rx fx r fs w (by simpa using hw)) ⟨.bl _,H,I,rfl,?_⟩
    rw [show its.toArray.any (eqU x)=its.any (eqU x) by simp,any_eqU r fs]
    exact q
theorem call_len_seq:CallR X (.builtin "len") (fun xs H Q => ∃ p ys,xs=[.ref p]∧(SqL X.K H p ys∨SqT X.K H p ys)∧Q (.int ys.length) H):=by
  intro pins s σ H xs us Q I r h
  obtain ⟨p,ys,rfl,hq,q⟩:=h
  obtain ⟨u,rfl,rx⟩:=vals1 r
  cases rx
  have hn:=line63
  rcases hq with hq | hq
  · obtain ⟨its, r', pl, hz⟩ := I.list hq
    have hlen:=r'.length
    exact Calls.call_len_list pl.isList (by simp only [List.size_toArray] <;> omega) ⟨.int ys.length,H,I.tok _,⟨s.toks + 1,by rw [List.size_toArray,hlen]⟩,q⟩
  · obtain ⟨its, r', pl, hz⟩ := I.tuple hq
    have hlen:=r'.length
    exact len_tuple pl (by simp only [List.size_toArray] <;> omega) ⟨.int ys.length,H,I.tok _,⟨s.toks + 1,by rw [List.size_toArray,hlen]⟩,q⟩
theorem call_len_str:CallR X (.builtin "len") (fun xs H Q => ∃ z,xs=[.str z]∧z.length≤sizeLine∧Q (.int z.length) H):=by
  intro pins s σ H xs us Q I r h
  obtain ⟨z,rfl,hz,q⟩:=h
  obtain ⟨u,rfl,t,rfl⟩:=vals1 r
  have hn:=line63
  exact len_str (by omega) ⟨.int z.length,H,I.tok _,⟨_,rfl⟩,q⟩
theorem CallR.or {f:Value} {r r':List V→Hp→VK→Prop} (h:CallR X f r) (h':CallR X f r'):CallR X f (fun xs H Q=>r xs H Q∨r' xs H Q):=by
  intro pins s σ H xs us Q I rs q
  rcases q with q | q
  · exact h pins s σ H xs us Q I rs q
  · exact h' pins s σ H xs us Q I rs q
theorem call_list_of:CallR X (.type "list") (fun xs H Q => ∃ p ys,xs=[.ref p]∧(SqL X.K H p ys∨SqT X.K H p ys)∧∀ l,H l=none→Q (.ref l) (upd H l (.lst ys))):=by
  intro pins s σ H xs us Q I r h
  obtain ⟨p,ys,rfl,hq,q⟩:=h
  obtain ⟨u,rfl,rx⟩:=vals1 r
  cases rx
  have fin:∀ (its:List Value),Vals ys its→ys.length≤sizeLine→∀ (h':Heap) (c':Nat),(∀ b o',s.heap.get? b=some o'→h'.get? b=some o') →
      h'.get? s.heap.objs.size=some { cls:=.type "list",dict:=none,data:=.seq its.toArray c',slots := #[] }→EP X pins σ Q (.ref s.heap.objs.size) { s with heap:=h' }:=fun its r' hz h' c' kp e =>
    ⟨.ref s.heap.objs.size,_,I.laid (t':=s.toks) kp (Nat.le_refl _) (show ObjOk X.prog X.w _ h' _ (.lst ys) from ⟨hz,its,c',r',e⟩),rfl,q _ (I.hok.fresh (Nat.le_refl _))⟩
  rcases hq with hq | hq
  · obtain ⟨its, r', pl, hz⟩ := I.list hq
    have hlen:=r'.length
    obtain ⟨o,ho,hc,n,hd⟩:=pl.isList
    exact call_list_seq p (.inl rfl) ho hc hd (fun h' c' kp e=>fin its r' hz h' c' kp e) (by simp only [List.size_toArray] <;> omega)
  · obtain ⟨its, r', pl, hz⟩ := I.tuple hq
    have hlen:=r'.length
    obtain ⟨o,ho,hc,n,hd⟩:=pl
    exact call_list_seq p (.inr rfl) ho hc hd (fun h' c' kp e=>fin its r' hz h' c' kp e) (by simp only [List.size_toArray] <;> omega)
def tyV (K:FG_) (T:String) (x:V) (H:Hp):Prop:=match x with
  | .str _=>T = "str"
  | .int _=>T = "int"
  | .ref p=>(T = "list" ∧ ∃ xs,SqL K H p xs)∨(T = "tuple" ∧ ∃ o,K.lookup p=some o∧o.cls=.type "tuple" ∧ o.dict=none) ∨
      (T = "dict" ∧ ((∃ kvs,H p=some (.dK kvs))∨∃ kvs,H p=some (.dT kvs)))∨(T = "set" ∧ ∃ S n,H p=some (.set S n))
  | _=>False
theorem tyV_is {pins:PN_} {σ:St} {H:Hp} {s:Shared} {T:String} {x:V} {v:Value} (I:Inv X pins σ H s) (r:RelV x v) (ty:tyV X.K T x H) :
    s.TypeIs v T∧∀ a,v=.ref a→∃ ob,s.heap.get? a=some ob∧ob.dict=none:=by
  cases x with
  | str z =>
    obtain ⟨t,rfl⟩:=r
    cases (show T = "str" from ty)
    exact ⟨typeIs_str s z t,fun _ e=>nomatch e⟩
  | int i =>
    obtain ⟨t,rfl⟩:=r
    cases (show T = "int" from ty)
    exact ⟨typeIs_int s i t,fun _ e=>nomatch e⟩
  | ref p =>
    cases r
    rcases ty with ⟨rfl,xs,hq⟩ | ⟨rfl,o,hk,hc,hd⟩ | ⟨rfl,hk⟩ | ⟨rfl,S,n,hk⟩
    · obtain ⟨its, _, pl, _⟩ := I.list hq
      refine ⟨pl.isList.typeIs,fun a e => ?_⟩
      cases e
      obtain ⟨o,n,e,c,hd,_⟩:=pl
      exact ⟨o,e,hd⟩
    · refine ⟨⟨o, I.kIn p o hk, hc⟩, fun a e => ?_⟩
      cases e
      exact ⟨o,I.kIn _ o hk,hd⟩
    · have z : ∃ o, s.heap.get? p = some o ∧ o.ExactDict := by
        rcases hk with ⟨kvs,hk⟩ | ⟨kvs,hk⟩
        · obtain ⟨_, _, _, _, o, _, _, e, ex, _⟩ := I.hok p _ hk
          exact ⟨o,e,ex⟩
        · obtain ⟨_, _, _, _, o, _, _, e, ex, _⟩ := I.hok p _ hk
          exact ⟨o,e,ex⟩
      obtain ⟨o,e,ex⟩:=z
      refine ⟨⟨o,e,ex.1⟩,fun a e2 => ?_⟩
      cases e2
      exact ⟨o,e,ex.2.1⟩
    · obtain ⟨o, _, _, _, e, ex, _⟩ := I.hok p _ hk
      refine ⟨⟨o,e,ex.1⟩,fun a e2 => ?_⟩
      cases e2
      exact ⟨o,e,ex.2.1⟩
  | _=>exact False.elim ty
def tBM0 (K:FG_) (T:String) (r:V→List V→Hp→VK→Prop) (to:TE):TE:=fun σ H Q=>to σ H fun x H1=>tyV K T x H1∧r x [] H1 Q
def tBM (K:FG_) (T:String) (r:V→List V→Hp→VK→Prop) (to:TE) (t:TA):TE:=fun σ H Q=>to σ H fun x H1=>tyV K T x H1∧t σ H1 fun xs H2=>r x xs H2 Q
variable {o e:Expr} {es:List Expr} {to:TE} {t:TA} {name:Str} {apos cpos:Pos} {T id:String} {r:V→List V→Hp→VK→Prop}
theorem pe_bm0 (pa:PlainAttrs T) (slot:Slot T name id) (hty:typeOf (.builtin id)=pure (.type "method_descriptor")) (hm:MtR X id r) (ho:PE X o to)
    (hbase:attributeBase o name X.env (eval o X.env)=eval o X.env:=by rfl) (hline:(apos.endLine == cpos.line)=true:=by rfl):PE X (.Call (.Attribute o name apos) [] [] cpos) (tBM0 X.K T r to):=by
  intro pins s σ H Q I h
  refine wpAny_Call_method0_late hbase hline (thn (ho pins s σ H _ I h) fun v s1 ⟨x,H1,I1,r1,ty,q1⟩ => ?_)
  obtain ⟨h1,h2⟩:=tyV_is I1 r1 ty
  exact ⟨T,id,pa,slot,hty,h1,h2,Calls.callWith_builtin rfl (PySem.evalArgs_none (hm pins s1 σ H1 x [] v [] Q I1 r1 .nil q1))⟩
theorem pe_bm (pa:PlainAttrs T) (slot:Slot T name id) (hty:typeOf (.builtin id)=pure (.type "method_descriptor")) (hm:MtR X id r) (ho:PE X o to) (ha:PA X (e :: es) t)
    (hbase:attributeBase o name X.env (eval o X.env)=eval o X.env:=by rfl)
    (hfew:((backTo cpos (starEach (e :: es) X.env)).all (fun x => !x.1) && (backToKw cpos (keywordEach [] X.env)).all (fun x=>x.1.isSome)
      && decide ((e :: es).length + ([]:List Keyword).length + (if ([]:List Keyword).isEmpty then 0 else 1) < 30))=true:=by rfl)
    (hline:(apos.endLine == cpos.line)=true:=by rfl) (hs:starEach (e :: es) X.env=(false,eval e X.env) :: starEach es X.env:=by rfl) (hplain:(backTo cpos (starEach es X.env)).any (·.1)=false:=by rfl) :
    PE X (.Call (.Attribute o name apos) (e :: es) [] cpos) (tBM X.K T r to t):=by
  intro pins s σ H Q I h
  refine wpAny_Call_method_late hbase hfew hline rfl (thn (ho pins s σ H _ I h) fun v s1 ⟨x,H1,I1,r1,ty,q1⟩ => ?_)
  obtain ⟨h1,h2⟩:=tyV_is I1 r1 ty
  refine ⟨T,id,pa,slot,hty,h1,h2,?_⟩
  have hA:=ha cpos pins s1 σ H1 _ I1 q1
  rw [hs] at hA ⊢
  refine Calls.callWith_builtin (by show (false || (backTo cpos (starEach es X.env)).any (·.1))=false; rw [hplain] <;> rfl) (Calls.evalArgs_plain ?_)
  exact thn hA fun us s2 ⟨vs,H2,I2,r2,q2⟩=>hm pins s2 σ H2 x vs v us Q I2 r1 r2 q2
end
def MtM (X:Cx) (id:String) (r:V→List V→Hp→VK→Prop):Prop :=
  ∀ (pins : PN_) (s : Shared) (σ : St) (H : Hp) (x : V) (xs : List V) (v : Value) (us : List Value) (Q : VK), Inv X pins σ H s → RelV x v → Vals xs us → r x xs H Q →
    wpAny (model X.prog X.w) X.A (call (.builtin id) (v :: us)) (EP X pins σ Q) X.xe s
theorem Vals.one:∀ {x:V} {us:List Value},Vals [x] us→∃ u,us=[u]∧RelV x u
  | _,_,.cons r .nil=>⟨_,rfl,r⟩
theorem Vals.two:∀ {x y:V} {us:List Value},Vals [x,y] us→∃ u v,us=[u,v]∧RelV x u∧RelV y v
  | _,_,_,.cons r (.cons q .nil)=>⟨_,_,rfl,r,q⟩
theorem Vals.rep {xs:List V} {us:List Value} (h:Vals xs us):∀ k:Nat,Vals (List.replicate k xs).flatten (List.replicate k us).flatten
  | 0=>.nil
  | k + 1 => by
    rw [List.replicate_succ,List.replicate_succ,List.flatten_cons,List.flatten_cons]
    exact Vals.append h (Vals.rep h k)
theorem foldl_rep (its:List Value):∀ (k:Nat) (acc:List Value),
    List.foldl (fun x1 x2=>x1 ++ x2) acc.toArray (List.replicate k its.toArray)=(acc ++ (List.replicate k its).flatten).toArray
  | 0,acc=>by simp
  | k + 1, acc => by
    have e:acc.toArray ++ its.toArray=(acc ++ its).toArray:=by simp
    have e2:(acc ++ its) ++ (List.replicate k its).flatten=acc ++ (List.replicate (k + 1) its).flatten:=by
      rw [List.replicate_succ,List.flatten_cons,List.append_assoc]
    rw [← e2,← foldl_rep its k (acc ++ its),← e,List.replicate_succ,List.foldl_cons]
section
variable {X:Cx} {pins:PN_} {σ:St} {H:Hp} {s:Shared} {l b:Addr} {xs ys zs:List V}
theorem Inv.lset {its its':List Value} {n:Nat} {f:Array Value→Array Value} {t':Nat} (I:Inv X pins σ H s) (hH:H l=some (.lst xs))
    (e:s.heap.get? l=some { cls:=.type "list",data:=.seq its.toArray n }) (hf:f its.toArray=its'.toArray) (hv:Vals ys its') (hz:ys.length≤sizeLine) :
    Inv X pins σ (upd H l (.lst ys)) { s with heap:=s.heap.update l (Obj.mapSeq f),toks:=t' }:=by
  have q:=PySem.IsL.update e f
  rw [hf] at q
  refine I.write (x:=l) (e:=l) (by rw [hH]; exact trivial) (.inl rfl) (fun b' u hb hu=>(Heap.get?_update_other s.heap (Obj.mapSeq f) (Ne.symm hb)).trans hu) ⟨_,q⟩ ?_
  exact ⟨hz,its',_,hv,q⟩
theorem Inv.lnew {its:List Value} {t':Nat} (I:Inv X pins σ H s) (hv:Vals ys its) (hz:ys.length≤sizeLine) :
    Inv X pins σ (upd H s.heap.objs.size (.lst ys)) { s with heap:=s.heap.push { cls:=.type "list",data:=.seq its.toArray },toks:=t' } :=
  I.laid (fun _ _ q=>Heap.get?_push_of_some _ q) (Nat.le_refl _) ⟨hz,its,0,hv,Heap.get?_push_size _ rfl⟩
theorem Inv.fresh (I:Inv X pins σ H s):H s.heap.objs.size=none:=I.hok.fresh (Nat.le_refl _)
theorem Inv.lstM (I:Inv X pins σ H s) (hH:H l=some (.lst xs)):xs.length≤sizeLine∧∃ (its:List Value) (n:Nat),Vals xs its∧xs.length=its.length∧s.heap.get? l=some { cls:=.type "list",data:=.seq its.toArray n }:=by
  obtain ⟨z,its,n,r,e⟩:=I.hok l _ hH
  exact ⟨z,its,n,r,r.length,e⟩
theorem notLongL {n:Nat} (h:n≤sizeLine):Builtin.List.listTooLong n=false:=by
  unfold Builtin.List.listTooLong
  exact decide_eq_false (by omega)
end
section
variable {X:Cx}
def rAppend:V→List V→Hp→VK→Prop:=fun x vs H Q => ∃ l xs y,x=.ref l∧vs=[y]∧H l=some (.lst xs)∧xs.length < sizeLine∧Q .non (upd H l (.lst (xs ++ [y])))
theorem fj_:MtM X "list.append" rAppend:=by
  intro pins s σ H x vs v us Q I rx rv h
  obtain ⟨l,xs,y,rfl,rfl,hH,hz,q⟩:=h
  cases rx
  obtain ⟨u,rfl,ru⟩:=rv.one
  obtain ⟨z,its,n,r,hl,e⟩:=I.lstM hH
  refine call_meets F.slot_list_append ⟨_,e,rfl⟩ F.entry_list_append (F.args_list_append_2 _ _) (PySem.list_append l its.toArray n u (by rw [List.size_toArray]; omega)) ⟨e,?_⟩
  refine ⟨.non,_,I.lset (its':=its ++ [u]) hH e (by simp) (r.append (.cons ru .nil)) ?_,rfl,q⟩
  rw [List.length_append,List.length_singleton]
  omega
def rExtend:V→List V→Hp→VK→Prop:=fun x vs H Q => ∃ l b xs zs,x=.ref l∧vs=[.ref b]∧H l=some (.lst xs)∧H b=some (.lst zs)∧xs.length + zs.length≤sizeLine∧Q .non (upd H l (.lst (xs ++ zs)))
theorem mt_extend:MtM X "list.extend" rExtend:=by
  intro pins s σ H x vs v us Q I rx rv h
  obtain ⟨l,b,xs,zs,rfl,rfl,hH,hB,hz,q⟩:=h
  cases rx
  obtain ⟨u,rfl,ru⟩:=rv.one
  cases ru
  obtain ⟨z,its,n,r,hl,e⟩:=I.lstM hH
  obtain ⟨z2,its2,n2,r2,hl2,e2⟩:=I.lstM hB
  have hsz:its.toArray.size + its2.toArray.size≤sizeLine:=by rw [List.size_toArray,List.size_toArray]; omega
  have hlong:¬ (!its.toArray.isEmpty && Builtin.List.listTooLong (its.toArray.size + its2.toArray.size))=true:=by
    rw [notLongL hsz,Bool.and_false]
    exact Bool.false_ne_true
  refine call_meets F.slot_list_extend ⟨_,e,rfl⟩ F.entry_list_extend (F.args_list_extend_2 _ _)
    (AutoSeq1.list_extend_list_list_0 l its.toArray n b its2.toArray n2 hlong (by rw [List.size_toArray]; omega) (by omega)) ⟨e,e2,?_⟩
  refine ⟨.non,_,I.lset (its':=its ++ its2) hH e (by simp) (r.append r2) ?_,rfl,q⟩
  rw [List.length_append]
  omega
def rCat:R2:=fun x y H Q => ∃ l b xs zs,x=.ref l∧y=.ref b∧H l=some (.lst xs)∧H b=some (.lst zs)∧xs.length + zs.length≤sizeLine∧∀ p,H p=none→Q (.ref p) (upd H p (.lst (xs ++ zs)))
theorem op_cat:OpR X (binaryOp .Add) rCat:=by
  intro pins s σ H x y v u Q I rx ry h
  obtain ⟨l,b,xs,zs,rfl,rfl,hH,hB,hz,q⟩:=h
  cases rx
  cases ry
  obtain ⟨z,its,n,r,hl,e⟩:=I.lstM hH
  obtain ⟨z2,its2,n2,r2,hl2,e2⟩:=I.lstM hB
  refine PySem.P.add_list e e2 ?_ (by rw [List.size_toArray,List.size_toArray]; omega)
  have ea:its.toArray ++ its2.toArray=(its ++ its2).toArray:=by simp
  rw [ea]
  exact ⟨.ref _,_,I.lnew (t':=s.toks) (r.append r2) (by rw [List.length_append]; omega),rfl,q _ I.fresh⟩
def rRep:R2:=fun x y H Q => ∃ l k xs,x=.ref l∧y=.int k∧H l=some (.lst xs) ∧ -(2 ^ 63)≤k∧k < 2 ^ 63∧xs.length * k.toNat≤sizeLine ∧
  ∀ p,H p=none→Q (.ref p) (upd H p (.lst (List.replicate k.toNat xs).flatten))
theorem len_rep {α:Type} (xs:List α) (k:Nat):(List.replicate k xs).flatten.length=k * xs.length:=by
  induction k with
  | zero=>simp
  | succ k ih=>rw [List.replicate_succ,List.flatten_cons,List.length_append,ih,Nat.succ_mul,Nat.add_comm]
theorem op_rep:OpR X (binaryOp .Mult) rRep:=by
  intro pins s σ H x y v u Q I rx ry h
  obtain ⟨l,k,xs,rfl,rfl,hH,h1,h2,hz,q⟩:=h
  cases rx
  obtain ⟨t,rfl⟩:=ry
  obtain ⟨z,its,n,r,hl,e⟩:=I.lstM hH
  have hlen:its.toArray.size * k.toNat≤sizeLine:=by rw [List.size_toArray,← hl]; exact hz
  have hcap:¬ its.toArray.size * k.toNat > (2 ^ 63 - 1) / 8:=by
    have:(sizeLine:Nat)≤(2 ^ 63 - 1) / 8:=by decide
    omega
  have hfit:¬ (!Builtin.List.listFitsIndex k)=true:=by
    rw [fitsIndex_both h1 h2]
    exact Bool.false_ne_true
  have hlong:¬ Builtin.List.listTooLong (its.toArray.size * k.toNat)=true:=by
    rw [notLongL hlen]
    exact Bool.false_ne_true
  have hnew:List.foldl (fun x1 x2=>x1 ++ x2) #[] (List.replicate (if its.toArray.isEmpty=true then 0 else k.toNat) its.toArray)=(List.replicate k.toNat its).flatten.toArray:=by
    have f0:∀ m:Nat,List.foldl (fun x1 x2=>x1 ++ x2) #[] (List.replicate m its.toArray)=(List.replicate m its).flatten.toArray:=fun m=>by
      have:=foldl_rep its m []
      rw [List.nil_append] at this
      exact this
    rw [f0]
    cases its with
    | nil=>simp
    | cons a r'=>rw [if_neg (by simp)]
  refine wpAny_binaryOp_repeat_ref (T := "list") (U := "int") (by decide) ⟨_,e,rfl⟩ (fun s'=>typeIs_int s' k t) noFill_list_mul F.fills_int_mul F.slot_int_rmul repeat_list F.slot_int_index.lookup
    (call_meets F.slot_int_rmul (typeIs_int s k t) F.entry_int_rmul (F.args_int_rmul_2 _ _) (int___rmul___int_list k t l its.toArray n)
      ⟨e,rfl,⟨_,e,rfl⟩,call_meets F.slot_list_mul ⟨_,e,rfl⟩ F.entry_list_mul (F.args_list_mul_2 _ _) (AutoListH.list___mul___list_int_3 l its.toArray n k t hfit hcap hlong) ⟨e,?_⟩⟩)
  rw [hnew]
  exact ⟨.ref _,_,I.lnew (t':=s.toks) (r.rep k.toNat) (by rw [len_rep,Nat.mul_comm]; exact hz),rfl,q _ I.fresh⟩
end
end L2
namespace Att
open PySem PySem.W PySem.Calls PyProof.Rows
theorem it_ {P:Params} {h:Heap}:∀ (ns:List Int) (vs:List Value),WellAll P h vs (ns.map WData.int)→IntsAre vs ns:=by
  intro ns
  induction ns with
  | nil =>
    intro vs w
    rw [List.map_nil] at w
    cases w
    exact .nil
  | cons n ns ih =>
    intro vs w
    rw [List.map_cons] at w
    cases w with
    | cons a b =>
      cases a
      exact .cons _ _ (ih _ b)
theorem script_of {l:OpenLaw} {n:Nat} (hn:l.most=some n) {P:Params} {h:Heap} {args:List WData} {vals:List Value}
    (hpre:l.row.toRowW.claim.pre args=true) (hwl:WellAll P h vals args) :
    ∃ a vs ns,vals=[Value.ref a]∧args=[WData.list (ns.map WData.int)]∧h.get? a=some { cls:=.type "list",data:=.seq vs.toArray }∧IntsAre vs ns∧ns.length≤n:=by
  have hsh:WShape.hasAll [] args [.list .int]=true:=(pre_splitW hpre).1
  have hc:l.pre.holds [] { args:=args }=true:=(pre_splitW hpre).2
  obtain ⟨d,r,rfl,h1,h2⟩:=hasAllW_cons hsh
  obtain rfl:=hasAllW_nil h2
  obtain ⟨xs,rfl,h3⟩:=hasW_list h1
  obtain ⟨ns,rfl⟩:=items_int h3
  have hlen:ns.length≤n:=by
    unfold OpenLaw.pre at hc
    have h4:(WTm.not (.lt (.lit (.int (n:Int))) (.len (.arg 0)))).holds [] { args:=[.list (ns.map .int)] }=true:=by
      have h4:=(holds_andW hc).1
      rw [hn] at h4
      exact h4
    have h5:=condW_of h4 (w_not (w_lt w_lit (w_len_list (w_arg rfl))))
    rw [List.length_map] at h5
    refine Nat.le_of_not_lt fun q => ?_
    have q':(n:Int) < ((ns.length:Nat):Int):=by omega
    first
      | (rw [decide_eq_true q'] at h5; exact absurd h5 (by decide))
      | (simp at h5; omega)
  cases hwl with
  | cons w1 w2 =>
    cases w2
    cases w1 with
    | list ho hall=>exact ⟨_,_,ns,rfl,rfl,ho,it_ ns _ hall,hlen⟩
theorem post_true (l:OpenLaw) (args:List WData):l.row.toRowW.claim.post args (.bool true) args=true :=
  postW_of (r:=l.row.toRowW) (X:=(true == true))
    (show WShape.has [] (.bool true) .bool=true by first | rfl | decide | simp [WShape.has,WShape.arms,WShape.armsAll])
    (show (WTm.eq .res (.lit (.bool true))).value [] { args:=args,res:=some (.bool true),after:=args }=some (.bool (true == true)) from w_eq_bool (w_res rfl) w_lit) rfl
theorem attach_call {l:OpenLaw} {n:Nat} {q:Program} {loose:List Str} {XP:(Str→Option Value)→Heap→Prop} {YP:World→Heap→Prop} {d:DefRec}
    (hn:l.most=some n) (hdf:d.params.defaults=[])
    (call:∀ (w:World) (s₀ s₁:Shared) (mg mb:MG_) (fa:Addr) (o:Obj) (pm cd doc:Value) (a:Addr) (vs:List Value) (ns:List Int),
      Ground q loose [] XP w s₀ mg mb s₁.heap→YP w s₁.heap →
      s₁.heap.get? fa=some o→o.data=.func (docDef d.name d.params d.body d.scope pm cd doc)→s₁.heap.CodeRec cd d.name→mg d.name=some (.ref fa) →
      s₁.heap.get? a=some { cls:=.type "list",data:=.seq vs.toArray }→IntsAre vs ns→ns.length≤n→s₁.gens = #[] →
      codeAny (model l.prog w) callerA (.call (.ref fa) ⟨[.ref a],[]⟩) (fun r s'=>r=.ok (.ret (.bool true))∧OldK s₁.heap s'.heap∧s'.os=s₁.os∧AllBare s'.gens) s₁) :
    WalkO q loose XP YP l.row.toRowW d [] (fun f vs=>PySem.call f vs):=by
  intro w s₀ s₁ mg mb G Y fa o pm cd doc dV kV ho hd hcd hD hmg hg args vals as hpre hlay hrd hwl hlo
  obtain rfl:dV=.none:=Dflts.none hD hdf
  obtain rfl:kV=.none:=Dflts.noKw hD
  obtain ⟨a,vs,ns,rfl,rfl,hobj,hints,hlen⟩:=script_of hn hpre hwl
  refine enter_call (codeAny_mono (call w s₀ s₁ mg mb fa o pm cd doc a vs ns G Y ho (fd_plain hd) hcd hmg hobj hints hlen hg) fun r s' hq => ?_)
  obtain ⟨rfl,h2,h3,h4⟩:=hq
  exact ⟨.inl ⟨.bool true,.bool true,[],rfl,fun _=>rfl,.bool true,post_true l _,fun _=>⟨List.Pairwise.nil,fun _ hm=>(nomatch hm)⟩⟩,h2,h3,h4⟩
end Att
namespace L2
open PySem PySem.Spec PyProof.Rows
theorem vals_ints:∀ {vs:List Value} {ns:List Int},IntsAre vs ns→Vals (ns.map V.int) vs
  | _,_,.nil=>.nil
  | _,_,.cons n t h=>.cons ⟨t,rfl⟩ (vals_ints h)
def Only (H:Hp):Prop := ∀ b,H b=none∨∃ o xs,H b=some (.frz o (.lst xs))
theorem law_call {P:Program} {w:World} {K:FG_} {mg mb:MG_} {CX:CXT} {k:Nat} {fa a:Addr} {fd:FuncData} {x:Str} {sp:Sp} {s₁:Shared} {vs:List Value} {ns:List Int}
    (KX:K.In s₁.heap) (hns:s₁.heap.Ns mainGlobals mg) (hb:s₁.heap.Ns builtinsNs mb) (hbb:∀ x:Str,x ≠ "__name__" → mb x=bootBuiltins x) (hlim:s₁.heap.NoLimit) (hg:s₁.gens = #[])
    (ha:s₁.heap.get? a=some { cls:=.type "list",data:=.seq vs.toArray }) (hi:IntsAre vs ns) (hl:ns.length≤sizeLine) (hr:Room k callerA)
    (F:∀ base:Heap,K.In base→base.Ns mainGlobals mg→FnOk P w K mg base CX k fa fd [x] sp) (hbind:∀ (s:Shared) (u:Value),BindsTo s fd ⟨[u],[]⟩ [(x,u)])
    (hsp:∀ H:Hp,Only H→SqL K H a (ns.map V.int)→sp [.ref a] H (fun v _=>v=.bl true) fun _ _ _=>False)
    (hCX:∀ H e s',CX [] H s₁ (fun _ _ _=>False) e s'→False) :
    codeAny (model P w) callerA (.call (.ref fa) ⟨[.ref a],[]⟩) (fun r s'=>r=.ok (.ret (.bool true))∧OldK s₁.heap s'.heap∧s'.os=s₁.os∧AllBare s'.gens) s₁:=by
  have rv:=vals_ints hi
  have lenV:=hi.length
  have core:∀ H:Hp,Only H→SqL K H a (ns.map V.int)→HOk P w H s₁.heap→(∀ b,H b≠none→b=a)→(H a≠none→K.lookup a=none) →
      codeAny (model P w) callerA (.call (.ref fa) ⟨[.ref a],[]⟩) (fun r s'=>r=.ok (.ret (.bool true))∧OldK s₁.heap s'.heap∧s'.os=s₁.os∧AllBare s'.gens) s₁:=by
    intro H hO hS hok hA hK
    have base_of:∀ {b:Addr} {o:Obj},s₁.heap.get? b=some o→H b=none→(hidT s₁.heap H).get? b=some o:=fun e n=>hidT_get e n
    have noA:∀ {b:Addr} {o:Obj} {es:Array DictEntry} {ep:Nat},s₁.heap.get? b=some o→o.data=.dict es ep→H b=none:=fun {b o es ep} e d=>by
      cases q:H b with
      | none=>rfl
      | some u =>
        have e':b=a:=hA b (by rw [q]; simp)
        subst e'
        rw [ha] at e; cases e
        have d':Data.seq vs.toArray _=Data.dict es ep:=d
        cases d'
    have nsK:∀ {b:Addr} {m:MG_},s₁.heap.Ns b m→(hidT s₁.heap H).Ns b m:=fun {b m} ⟨o,es,ep,e,d,r⟩=>⟨o,es,ep,base_of e (noA e d),d,r⟩
    have hKb:K.In (hidT s₁.heap H):=fun b o e=>base_of (KX b o e) (by
      cases q:H b with
      | none=>rfl
      | some u =>
        have e':b=a:=hA b (by rw [q]; simp)
        subst e'
        rw [hK (by rw [q]; simp)] at e; cases e)
    have hM:Mod K mg (hidT s₁.heap H):=⟨hKb,nsK hns,⟨mb,nsK hb,hbb⟩,let ⟨mc,h1,h2⟩:=hlim; ⟨mc,nsK h1,h2⟩⟩
    have e0:Env0 P w K mg (hidT s₁.heap H) callerA [] s₁ H:=⟨rfl,hM,fun b o e=>of_hidT e,Nat.le_of_eq (hidT_size _ _),trivial,fun b hb=>absurd (show b∈([]:List Addr) from hb) (by simp),hok,.of_eq hg⟩
    refine codeAny_mono ((F _ hKb (nsK hns)).run callerA [] s₁ H ⟨[.ref a],[]⟩ [.ref a] [.ref a] _ _ hr e0 (hbind s₁ (.ref a)) (.cons rfl .nil) (hsp H hO hS)) fun r s' h => ?_
    cases r with
    | error e=>exact (hCX H e s' h).elim
    | ok fl =>
      cases fl with
      | next=>exact False.elim h
      | brk=>exact False.elim h
      | cont=>exact False.elim h
      | ret u =>
        obtain ⟨v,H',os,bare,un,hok',r',q⟩:=h
        have q':v=.bl true:=q
        subst q'
        obtain rfl:u=Value.bool true:=r'
        refine ⟨rfl,OldK.of_keep fun b o e => ?_,os,bare⟩
        cases q:H b with
        | none=>exact un.keep b o e q (by intro z; exact absurd (show b∈([]:List Addr) from z) (by simp)) (by simp)
        | some u =>
          rcases hO b with z | ⟨ob,xs,z⟩
          · rw [q] at z; cases z
          · have z2 := un.frzs b ob _ z
            obtain ⟨e1,_⟩:=hok b _ z
            obtain ⟨e2,_⟩:=hok' b _ z2
            rw [e] at e1; cases e1
            exact e2
  cases hk:K.lookup a with
  | some o =>
    have e:=KX a o hk
    rw [ha] at e
    cases e
    refine core (fun _=>none) (fun _=>.inl rfl) (.inr ⟨_,vs.toArray,_,hk,rfl,rfl,rfl,by rw [List.size_toArray,lenV]; exact hl,by simpa using rv⟩) (fun b u z=>by have z':(none:Option HO)=some u:=z; cases z') (fun b z=>absurd rfl z) fun z=>absurd rfl z
  | none =>
    refine core (fun b=>if b=a then some (.frz { cls:=.type "list",data:=.seq vs.toArray } (.lst (ns.map V.int))) else none) (fun b => ?_) (.inl (.inr ⟨{ cls:=.type "list",data:=.seq vs.toArray },if_pos rfl⟩)) (fun b u z => ?_) (fun b z => ?_) fun _=>hk
    · by_cases hb : b = a
      · exact .inr ⟨_,_,if_pos hb⟩
      · exact .inl (if_neg hb)
    · by_cases hb : b = a
      · have z' := (if_pos hb).symm.trans z
        cases z'
        subst hb
        exact ⟨ha,by rw [List.length_map]; exact hl,vs,_,rv,ha⟩
      · have z' := (if_neg hb).symm.trans z
        cases z'
    · by_cases hb : b = a
      · exact hb
      · exact absurd (if_neg hb) z
def defArgs (s:Stmt):Arguments:=match s with
  | .FunctionDef _ a _ _ _ _ _ _ _ _=>a
  | _=>{ posonlyargs:=[],args:=[],vararg:=none,kwonlyargs:=[],kw_defaults:=[],kwarg:=none,defaults:=[] }
def defBody (s:Stmt):List Stmt:=match s with
  | .FunctionDef _ _ b _ _ _ _ _ _ _=>b
  | _=>[]
def defScope (s:Stmt):Scope:=match s with
  | .FunctionDef _ _ _ _ _ _ sc _ _ _=>sc
  | _=>{ kind:=.function,names:=[],isGenerator:=false,isCoroutine:=false }
abbrev CX0:CXT:=fun _ _ _ _ _ _=>False
abbrev E0:XK:=fun _ _ _=>False
theorem pass0 {X:Cx}:Passes CX0 X E0:=fun _ _ _ _ _ _ _ h=>h.elim
structure Fun (K:FG_) (x qual:Str) (st:Stmt) (f:Addr) (fd:FuncData):Prop where
  ex:∃ (oc:Value) (od:Option Addr) (kV doc pm:Value) (an:Option Addr) (cdv ct:Value) (osl:Array (Option Value)),
    fd=PySem.W.fnOf x qual (defArgs st) (defBody st) (defScope st) .none kV doc pm an cdv ct∧K.lookup f=some ⟨oc,od,.func fd,osl⟩∧PySem.W.codeIn K cdv qual=true
  kp:PySem.W.keepIn K (.ref f)=true
section
variable {P:Program} {w:World} {K:FG_} {mg:MG_} {base:Heap}
theorem Fun.ok {x qual:Str} {st:Stmt} {f:Addr} {fd:FuncData} {N ps:List Str} {k:Nat} {sp:Sp} (F:Fun K x qual st f fd) (S:FnScope N ps (defScope st)) (len:∀ vs H Q E,sp vs H Q E→vs.length=ps.length)
    (hbody:∀ (cdv:Value) (A:Around) (outer:List Env) (s:Shared) (H:Hp) (vs:List V) (Q:VK) (E:XK),Room k (A.deeper (envOfC qual (defScope st) s.heap.objs.size f cdv))→sp vs H Q E →
      ∃ t,PSs (cxOf CX0 P w K mg base N qual (defScope st) f cdv A outer s H E).nox (defBody st) t∧t { nx:=fun _ H'=>Q .non H',rt:=Q } (start N vs) H):FnOk P w K mg base CX0 (k + 1) f fd ps sp:=by
  obtain ⟨oc,od,kV,doc,pm,an,cdv,ct,osl,rfl,lk,hcd⟩:=F.ex
  refine fn_of lk hcd S len fun A outer s H vs Q E hr hsp => ?_
  obtain ⟨t,h,q⟩:=hbody cdv A outer s H vs Q E hr hsp
  exact ⟨t,h.nox,q⟩
theorem Fun.binds {x qual:Str} {st:Stmt} {f:Addr} {fd:FuncData} {ps:List Str} (F:Fun K x qual st f fd)
    (h:∀ (kV doc pm:Value) (an:Option Addr) (cdv ct:Value) (us:List Value),us.length=ps.length→bindArgs (PySem.W.fnOf x qual (defArgs st) (defBody st) (defScope st) .none kV doc pm an cdv ct) ⟨us,[]⟩=pure (ps.zip us)):Binds K fd ps []:=by
  obtain ⟨oc,od,kV,doc,pm,an,cdv,ct,osl,rfl,lk,hcd⟩:=F.ex
  exact .all (h kV doc pm an cdv ct)
end
theorem dv_ {A:Around} {k:Nat} (hr:Room k A):A.units + 1 < cLine:=Nat.lt_of_le_of_lt (Nat.add_le_add_left (by decide:1≤64) _) hr.units
theorem small1000 {n:Nat} (h:n≤1000):n < sizeLine:=Nat.lt_of_le_of_lt h (by decide)
section
variable {X:Cx}
theorem pv (i:Nat) {x:Str} {pos:Pos} (hN:X.N[i]? = some x:=by rfl) (hv:Vis X.env.scope x:=by first | exact Or.inl rfl | exact Or.inr (Or.inl rfl) | exact Or.inr (Or.inr rfl)) (hd:(x == ("__debug__" : Str))=false:=by decide)
    (hcd:(x == ("__classdict__" : Str))=false:=by decide):PE X (.Name x pos) (tVar i):=pe_var hN hv hd hcd
end
theorem iteF {A B:Prop} (h:B):if false=true then A else B:=by
  rw [if_neg Bool.false_ne_true]
  exact h
theorem iteT {A B:Prop} (h:A):if true=true then A else B:=by
  rw [if_pos rfl]
  exact h
theorem ite2 {c A B:Prop} [Decidable c] (h1:c→A) (h2:¬ c→B):if c then A else B:=by
  by_cases h:c
  · rw [if_pos h]
    exact h1 h
  · rw [if_neg h]
    exact h2 h
def Same (H H':Hp):Prop := ∀ b o,H b=some o→H' b=some o
theorem Same.refl (H:Hp):Same H H:=fun _ _ h=>h
theorem Same.trans {H H1 H2:Hp} (a:Same H H1) (b:Same H1 H2):Same H H2:=fun c o h=>b c o (a c o h)
section
variable {X:Cx}
def CDivB (_ j:Int):Prop:=0 < j∧j < 2 ^ 250
theorem log2_big {j:Int} (h1:0 < j) (h2:j < 2 ^ 250):j.natAbs.log2 < 9000:=by
  have h0:j.natAbs≠0:=by omega
  have h3:j.natAbs < 2 ^ 250:=by omega
  exact Nat.lt_trans ((Nat.log2_lt h0).mpr h3) (by decide)
theorem op_fdivB:OpR X (binaryOp .FloorDiv) (rI CDivB fun i j=>.int (i / j)):=opI fun i j _ _ _ _ _ hc q=>by
  have h1:(0:Int) < j:=hc.1
  exact floordiv_int (by omega) (by rw [Int.fdiv_eq_ediv_of_nonneg i (by omega)]; exact q) (.inl (PyProof.noPylong_of_log2 (log2_big hc.1 hc.2)))
def CMulB (i j:Int):Prop:=i.natAbs < 2 ^ 250∧j.natAbs < 2 ^ 250
theorem CMulB.ok {i j:Int} (h:CMulB i j):IntMulOk i j:=by
  have a:Builtin.Int.intBits i≤250:=intBits_le h.1
  have b:Builtin.Int.intBits j≤250:=intBits_le h.2
  unfold IntMulOk Builtin.Int.intTooBig
  intro z
  rw [Bool.and_eq_true] at z
  have c:=of_decide_eq_true z.2
  rw [bitsLine_eq] at c
  omega
theorem op_mulB:OpR X (binaryOp .Mult) (rI CMulB fun i j=>.int (i * j)):=opI fun _ _ _ _ _ _ _ hc q=>mul_int q hc.ok
end
section
variable {K:FG_}
theorem kit_self (T:String):PySem.W.kitOne K (.type T) (.type T)=some true:=by
  unfold PySem.W.kitOne
  rw [if_pos (beq_self_eq_true _)]
theorem kit_of {T S:String} {b:Bool} (h1:(Value.type T == Value.type S)=false) (h2:PySem.W.kitMeta S=true) (h3:(fastBuiltinMro T).map (·.contains (Value.type S))=some b):PySem.W.kitOne K (.type T) (.type S)=some b:=by
  unfold PySem.W.kitOne
  rw [if_neg (by rw [h1]; exact Bool.false_ne_true)]
  show (if PySem.W.kitMeta S=true then PySem.W.subIn K (.type T) (.type S) else none)=some b
  rw [if_pos h2]
  exact h3
theorem bt_isinstance:bootBuiltins "isinstance" = some (.builtin "isinstance"):=by decide +kernel
theorem bt_max:bootBuiltins "max" = some (.builtin "max"):=by decide +kernel
theorem bt_min:bootBuiltins "min" = some (.builtin "min"):=by decide +kernel
theorem bt_int:bootBuiltins "int" = some (.type "int"):=by decide +kernel
theorem bt_bool:bootBuiltins "bool" = some (.type "bool"):=by decide +kernel
theorem bt_str:bootBuiltins "str" = some (.type "str"):=by decide +kernel
theorem bt_list:bootBuiltins "list" = some (.type "list"):=by decide +kernel
theorem bt_tuple:bootBuiltins "tuple" = some (.type "tuple"):=by decide +kernel
theorem bt_dict:bootBuiltins "dict" = some (.type "dict"):=by decide +kernel
end
theorem closure_of {scope:Scope} {env:Env} (h:∀ y∈scope.names,y.2=.free→∃ c,env.cells.lookup y.1=some c) :
    ∃ cl,closureFor scope env=pure cl∧(∀ x c,cl.lookup x=some c→env.cells.lookup x=some c)∧(∀ y∈scope.names,y.2=.free→∃ c,cl.lookup y.1=some c):=by
  have key:∀ (ns:List (Str×NameKind)) (cs:List (Str×Addr)),(∀ y∈ns,y.2=.free→∃ c,env.cells.lookup y.1=some c)→(∀ x c,cs.lookup x=some c→env.cells.lookup x=some c) →
      ∃ cl, (forIn ns cs fun (x : Str × NameKind) (cs : List (Str × Addr)) => (if x.2 == .free then do let c ← cellOf env x.1; pure (ForInStep.yield ((x.1, c) :: cs)) else pure (ForInStep.yield cs) : Sem _)) = pure cl ∧
        (∀ x c,cl.lookup x=some c→env.cells.lookup x=some c)∧(∀ x c,cs.lookup x=some c→∃ c,cl.lookup x=some c)∧(∀ y∈ns,y.2=.free→∃ c,cl.lookup y.1=some c):=by
    intro ns
    induction ns with
    | nil=>intro cs _ hc; exact ⟨cs,rfl,hc,fun x c e=>⟨c,e⟩,fun y hy=>nomatch hy⟩
    | cons y r ih =>
      intro cs hn hc
      obtain ⟨n,k⟩:=y
      by_cases hk:k=.free
      · subst hk
        obtain ⟨c,e⟩:=hn (n,.free) List.mem_cons_self rfl
        obtain ⟨cl,e1,e2,e3,e4⟩:=ih ((n,c) :: cs) (fun y hy=>hn y (List.mem_cons_of_mem _ hy)) (fun x c' q=>by
          rw [List.lookup_cons] at q
          cases hx:x == n with
          | true =>
            rw [hx] at q
            cases q
            have:x=n:=by simpa using hx
            rw [this]
            exact e
          | false =>
            rw [hx] at q
            exact hc x c' q)
        refine ⟨cl,?_,e2,fun x c' q => ?_,fun y hy hyk => ?_⟩
        · rw [List.forIn_cons]
          have e':env.cells.lookup n=some c:=e
          simp only [beq_self_eq_true,if_true,cellOf,e']
          exact e1
        · cases hx : x == n with
          | true=>exact e3 x c (by rw [List.lookup_cons,hx])
          | false=>exact e3 x c' (by rw [List.lookup_cons,hx]; exact q)
        · rcases List.mem_cons.mp hy with rfl | hy
          · exact e3 n c (by rw [List.lookup_cons]; simp)
          · exact e4 y hy hyk
      · obtain ⟨cl, e1, e2, e3, e4⟩ := ih cs (fun y hy => hn y (List.mem_cons_of_mem _ hy)) hc
        refine ⟨cl,?_,e2,e3,fun y hy hyk => ?_⟩
        · rw [List.forIn_cons]
          have hb:(k == NameKind.free)=false:=by simpa using hk
          simp only [hb,Bool.false_eq_true,if_false]
          exact e1
        · rcases List.mem_cons.mp hy with rfl | hy
          · exact absurd hyk hk
          · exact e4 y hy hyk
  obtain ⟨cl,e1,e2,_,e4⟩:=key scope.names [] h (fun x c e=>by simp at e)
  refine ⟨cl,?_,e2,e4⟩
  simp only [closureFor]
  rw [show (forIn scope.names ([]:List (Str×Addr)) fun (x:Str×NameKind) (cs:List (Str×Addr))=>(if x.2 == .free then do let c ← cellOf env x.1; pure (ForInStep.yield ((x.1,c) :: cs)) else pure (ForInStep.yield cs):Sem _))=pure cl from e1]
  rfl
theorem ij_ {scope:Scope} {env:Env} {x:Str} {k:NameKind} (h:(relabel scope env).names.lookup x=some k):∃ k0,scope.names.lookup x=some k0∧(k0=k∨(k0=.free∧k=.cell)):=by
  unfold relabel at h
  dsimp only at h
  revert h
  generalize scope.names=ns
  induction ns with
  | nil=>intro h; simp at h
  | cons y r ih =>
    obtain ⟨n,k'⟩:=y
    intro h
    rw [List.map_cons] at h
    cases hx:x == n with
    | true =>
      rw [List.lookup_cons,hx]
      refine ⟨k',rfl,?_⟩
      dsimp only at h
      split at h
      · rename_i hc
        rw [List.lookup_cons,hx] at h
        cases h
        rw [Bool.and_eq_true,Bool.and_eq_true] at hc
        exact .inr ⟨by simpa using hc.1.1,rfl⟩
      · rw [List.lookup_cons, hx] at h
        cases h
        exact .inl rfl
    | false =>
      rw [List.lookup_cons,hx]
      dsimp only at h
      apply ih
      split at h
      · rw [List.lookup_cons,hx] at h; exact h
      · rw [List.lookup_cons,hx] at h; exact h
theorem relabel_free {scope:Scope} {env:Env} {x:Str} (h:scope.names.lookup x=some .free) (hk:env.scope.kind=.function) (hc:env.kindOf x=some .cell):(relabel scope env).names.lookup x=some .cell:=by
  unfold relabel
  dsimp only
  revert h
  generalize scope.names=ns
  induction ns with
  | nil=>intro h; simp at h
  | cons y r ih =>
    obtain ⟨n,k'⟩:=y
    intro h
    rw [List.map_cons]
    cases hx:x == n with
    | true =>
      rw [List.lookup_cons,hx] at h
      cases h
      have:x=n:=by simpa using hx
      subst this
      dsimp only
      rw [if_pos (by rw [hk,hc]; rfl),List.lookup_cons,hx]
    | false =>
      rw [List.lookup_cons,hx] at h
      dsimp only
      split
      · rw [List.lookup_cons,hx]; exact ih h
      · rw [List.lookup_cons,hx]; exact ih h
section
variable {prog:Program} {w:World} {A:Around} {R:Result→Shared→Prop} {s:Shared}
theorem compLoop_any {elt target iter:Expr} {ifs:List Expr} {scope:Scope} {pos:Pos} {it acc:Value} {env:Env} (I:Nat→Shared→Prop)
    (turn:∀ n s,I n s→wpAny (model prog w) A (pyNext it) (fun r s₁=>match r with
      | none=>R (.ok .next) s₁
      | some v=>wpAny (model prog w) A (letOwnedTupleGo target it v) (fun _ s₀=>wpAny (model prog w) A (assign target env v) (fun _ s₂ =>
          wpAny (model prog w) A (forIn ifs true fun c r=>if r=true then do let ok ← isTrue c env (eval c env); pure (ForInStep.yield ok) else pure (ForInStep.yield r)) (fun ok s₃ =>
            if ok=true then wpAny (model prog w) A (eval elt env) (fun x s₄ =>
              wpAny (model prog w) A (call (.builtin "list.append") [acc,x]) (fun _ s₅ => ∃ m,m < n∧I m s₅) (fun _ _=>False) s₄) (fun _ _=>False) s₃
            else ∃ m,m < n∧I m s₃) (fun _ _=>False) s₂) (fun _ _=>False) s₀) (fun _ _=>False) s₁) (fun _ _=>False) s)
    (n:Nat) (h:I n s) :
    codeAny (model prog w) A (.compLoop (.ListComp elt [⟨target,iter,ifs,0⟩] scope pos) 0 it acc env) R s:=by
  refine codeAny_loop rfl I (fun n s hI => ?_) n h
  show wpAny _ A ((compTurn (.ListComp elt [⟨target,iter,ifs,0⟩] scope pos) 0 it acc env).onRaise (fun x=>do noteFrame x env; theTreesLotGoes x)) _ _ s
  refine wpAny_noted ?_
  rw [compTurn_list]
  refine wpAny_bind (wpAny_standAt (wpAny_bind (wpAny_mono (turn n s hI) (fun r s₁ h₁ => ?_) fun _ _ h'=>h'.elim)))
  cases r with
  | none=>exact wpAny_pure h₁
  | some v =>
    refine wpAny_bind (wpAny_mono h₁ (fun _ s₀ h₀ => ?_) fun _ _ h'=>h'.elim)
    refine wpAny_bind (wpAny_mono h₀ (fun _ s₂ h₂=>wpAny_bind (wpAny_mono h₂ (fun ok s₃ h₃ => ?_) fun _ _ h'=>h'.elim)) fun _ _ h'=>h'.elim)
    cases ok with
    | false=>exact wpAny_pure ⟨rfl,h₃⟩
    | true =>
      exact wpAny_bind (wpAny_bind (wpAny_mono h₃ (fun x s₄ h₄=>wpAny_bind (wpAny_mono h₄ (fun _ s₅ h₅=>wpAny_pure (wpAny_pure ⟨rfl,h₅⟩)) fun _ _ h'=>h'.elim)) fun _ _ h'=>h'.elim))
end
section
variable {X:Cx} {pins:PN_} {σ:St} {H:Hp} {s:Shared}
def PCs (X:Cx) (ifs:List Expr) (t:TT):Prop :=
  ∀ (pins : PN_) (s : Shared) (σ : St) (H : Hp) (Q : Bool → Hp → Prop), Inv X pins σ H s → t σ H Q →
    wpAny (model X.prog X.w) X.A (forIn ifs true fun c r=>if r=true then do let ok ← isTrue c X.env (eval c X.env); pure (ForInStep.yield ok) else pure (ForInStep.yield r)) (TP X pins σ Q) X.xe s
def tYes:TT:=fun _ H Q=>Q true H
theorem nameYes {i:Nat} {x:V} {σ:St} {H:Hp} {A B:St→Hp→Prop} (h:A (σ.set i (some x)) H):gName i x σ H (fun σ2 H2=>tYes σ2 H2 (fun b H3=>if b=true then A σ2 H3 else B σ2 H3)):=by
  show (if true=true then A (σ.set i (some x)) H else B (σ.set i (some x)) H)
  exact iteT h
theorem pcs_nil:PCs X [] tYes:=fun pins s σ H Q I h=>wpAny_tests_nil ⟨H,I,h⟩
theorem pcs_one {c:Expr} {t:TT} (h:PT X c t):PCs X [c] t:=fun pins s σ H Q I q=>wpAny_tests_one (h pins s σ H Q I q)
end
def pick (n:Nat) (outs:List Nat) (σ:St):St:=List.replicate n none ++ outs.map fun j=>(σ[j]?).join
theorem pick_len (n:Nat) (outs:List Nat) (σ:St):(pick n outs σ).length=n + outs.length:=by
  unfold pick
  rw [List.length_append,List.length_replicate,List.length_map]
def cxComp (X:Cx) (N':List Str) (scope:Scope) (cl:List (Str×Addr)) (C:Addr) (s:Shared) (H:Hp) (ex:List Addr):Cx where
  prog:=X.prog
  w:=X.w
  K:=X.K
  mg:=X.mg
  base:=X.base
  A:=X.A
  N:=N'
  s₀:=s
  H₀:=H
  env:=compEnvC scope cl C X.env
  outer:=X.stack
  stack:=X.stack
  ex:=ex
  fn:=fun _=>false
  calm:=X.calm
  pn:=[]
  xe:=fun _ _=>False
structure CompScope (dsc scope:Scope) (N tgs:List Str) (outs:List Nat) (N':List Str):Prop where
  kind:scope.kind=.function
  names:∀ x∈scope.names,x.2=.local→scope.names.lookup x.1=some .local
  nocell:∀ y∈scope.names,y.2 ≠ .cell
  free:∀ y∈scope.names,y.2=.free→dsc.names.lookup y.1=some .cell
  isN:N'=tgs ++ outs.map (fun j=>N.getD j "")
  lts:∀ j∈outs,j < N.length
  outF:∀ j∈outs,scope.names.lookup (N.getD j "")=some .free
  nd:N'.Nodup
def Tgt (n:Nat) (g:TG):Prop := ∀ x σ H Q,g x σ H Q→g x σ H (fun σ2 H2=>Q σ2 H2∧σ2.length=σ.length∧∀ i,n≤i→σ2[i]? = σ[i]?)
theorem bt_ {n i:Nat} (h:i < n):Tgt n (gName i):=fun x σ H Q q=>⟨q,by rw [List.length_set],fun j hj=>List.getElem?_set_ne (by omega)⟩
def Tgts (n:Nat) (g:TGs):Prop := ∀ xs σ H Q,g xs σ H Q→g xs σ H (fun σ2 H2=>Q σ2 H2∧σ2.length=σ.length∧∀ i,n≤i→σ2[i]? = σ[i]?)
theorem en_ {n:Nat}:Tgts n gNil:=fun xs σ H Q ⟨e,q⟩=>⟨e,q,rfl,fun _ _=>rfl⟩
def TMono (g:TGs):Prop := ∀ xs σ H Q Q',(∀ σ2 H2,Q σ2 H2→Q' σ2 H2)→g xs σ H Q→g xs σ H Q'
theorem bn_ {n i:Nat} {u:TGs} (h:i < n) (hu:Tgts n u) (mu:TMono u):Tgts n (gCons (gName i) u):=fun xs σ H Q ⟨v,r,e,q⟩=>by
  refine ⟨v,r,e,?_⟩
  have z:=hu r (σ.set i (some v)) H Q q
  refine mu r _ H _ _ (fun σ2 H2 ⟨a,b,c⟩=>⟨a,?_,fun j hj => ?_⟩) z
  · rw [b,List.length_set]
  · rw [c j hj,List.getElem?_set_ne (by omega)]
theorem bm_:TMono gNil:=fun xs σ H Q Q' h ⟨e,q⟩=>⟨e,h _ _ q⟩
theorem ct_ {i:Nat} {u:TGs} (mu:TMono u):TMono (gCons (gName i) u):=fun xs σ H Q Q' h ⟨v,r,e,q⟩=>⟨v,r,e,mu r _ H _ _ h q⟩
theorem tgt_tup {K:FG_} {n k:Nat} {t:TGs} (h:Tgts n t):Tgt n (gTup K k t):=fun x σ H Q ⟨a,xs,e,hq,hl,q⟩=>⟨a,xs,e,hq,hl,h xs σ H Q q⟩
def tComp (n:Nat) (outs:List Nat) (wi:TI) (g:TG) (tc:TT) (te:TE):TE:=fun σ H Q=>wi σ H fun J H1 =>
  ∃ W : Nat → Nat → List V → Hp → Prop, (∃ m, W 0 m [] H1) ∧ ∀ i m acc H, W i m acc H →
    (J.stop i H∧acc.length≤sizeLine∧∀ l,H l=none→Q (.ref l) (upd H l (.lst acc))) ∨
    (J.go i H∧acc.length < sizeLine∧∃ N:List V→Hp→Prop,(∀ acc' H',N acc' H'→∃ m',m' < m∧W (i + 1) m' acc' H')∧∀ x H',J.yld i H x H'→g x (pick n outs σ) H' fun σ2 H2=>tc σ2 H2 fun b H3 =>
      if b=true then te σ2 H3 fun y H4=>N (acc ++ [y]) H4 else N acc H3)
section
variable {X:Cx} {pins:PN_} {σ:St} {H2:Hp} {s2:Shared} {dsc scope:Scope} {tgs N':List Str} {outs:List Nat} {cl:List (Str×Addr)} {fp:List Addr} {C D:Addr} {h1:Heap} {tk:Nat} {mC:MG_}
theorem comp_start (S:CompScope dsc scope X.N tgs outs N') (hsc:X.env.scope=dsc) (I2:Inv X pins σ H2 s2) (f2:∀ b∈fp,FpOk X pins H2 b) (hfp:∀ b∈fp,b < s2.heap.objs.size)
    (hcl1:∀ x c,cl.lookup x=some c→X.env.cells.lookup x=some c) (hcl2:∀ y∈scope.names,y.2=.free→∃ c,cl.lookup y.1=some c)
    (hC:s2.heap.objs.size≤C) (kp:∀ b o,s2.heap.get? b=some o→h1.get? b=some o) (nC:h1.Ns C mC) :
    Inv (cxComp X N' scope cl C s2 H2 fp) [] (pick tgs.length outs σ) H2 { s2 with heap:=h1,toks:=tk }:=by
  have freeAt:∀ x,scope.names.lookup x=some .free→(relabel scope X.env).names.lookup x=some .cell:=fun x e =>
    relabel_free e I2.ok.kind (by show X.env.scope.names.lookup x=some .cell; rw [hsc]; exact S.free (x,.free) (PySem.mem_of_lookup e) rfl)
  refine ⟨⟨I2.ok.mod,?_,I2.ok.glob,I2.ok.blt,hC,fun x y c e1 e2=>I2.ok.inj x y c (hcl1 x c e1) (hcl1 y c e2),fun x hx => ?_,(fun x c h=>nomatch h),I2.ok.hd,I2.ok.frames,.inl rfl,fun b hb => ?_,I2.bs,Nat.le_trans I2.ok.bsz I2.sz,fun b o e hb => ?_,fun b hb => ?_,I2.stack,I2.stkFree⟩,
    rfl,I2.bare,Un.kept kp,⟨mC,nC,fun i x v e1 e2 e3 => ?_⟩,fun x c e => ?_,I2.hok.fresh hC,fun x c e=>I2.freeC x c (hcl1 x c e),fun p hp=>absurd (show p∈([]:PN_) from hp) (by simp),I2.hok.kept kp,?_⟩
  · exact S.kind
  · have hx' : (relabel scope X.env).names.lookup x = some .cell ∨ (relabel scope X.env).names.lookup x = some .free := hx
    have z:scope.names.lookup x=some .free:=by
      rcases hx' with hx' | hx'
      · obtain ⟨k0, e, h | ⟨h, _⟩⟩ := ij_ hx'
        · rw [h] at e
          exact absurd rfl (S.nocell _ (PySem.mem_of_lookup e))
        · rw [h] at e; exact e
      · obtain ⟨k0, e, h | ⟨h, _⟩⟩ := ij_ hx'
        · rw [h] at e; exact e
        · rw [h] at e; exact e
    exact hcl2 (x,.free) (PySem.mem_of_lookup z) rfl
  · refine ⟨fun z => ?_, fun x c e => (f2 b hb).2.2.2.2.1 x c (hcl1 x c e)⟩
    have z':b=C:=z
    exact absurd (Nat.lt_of_lt_of_le (hfp b hb) hC) (by rw [z']; exact Nat.lt_irrefl _)
  · rcases (f2 b hb).2.2.2.1 with z | z
    · exact I2.ok.noex b o e z
    · exact absurd (Nat.lt_of_lt_of_le (Heap.lt_size e) (Nat.le_trans I2.ok.bsz z)) (Nat.lt_irrefl _)
  · intro z
    rcases List.mem_cons.mp (I2.stkSub b z) with z | z
    · exact (f2 b hb).2.1 z
    · exact (f2 b hb).2.2.1 z
  · have e2' : (List.replicate tgs.length (none : Option V) ++ outs.map fun j => (σ[j]?).join)[i]? = some (some v) := e2
    have e1':N'[i]? = some x:=e1
    by_cases hi:i < tgs.length
    · rw [List.getElem?_append_left (by rw [List.length_replicate]; exact hi), List.getElem?_replicate, if_pos hi] at e2'
      cases e2'
    · rw [List.getElem?_append_right (by rw [List.length_replicate]; omega), List.length_replicate, List.getElem?_map] at e2'
      rw [S.isN,List.getElem?_append_right (by omega),List.getElem?_map] at e1'
      cases ej:outs[i - tgs.length]? with
      | none=>rw [ej] at e2'; cases e2'
      | some j =>
        rw [ej] at e1' e2'
        have hj:j∈outs:=List.mem_of_getElem? ej
        have ex:X.N.getD j "" = x:=Option.some.inj e1'
        have ev:(σ[j]?).join=some v:=Option.some.inj e2'
        have ev':σ[j]? = some (some v):=by
          cases q:σ[j]? with
          | none=>rw [q] at ev; cases ev
          | some o=>rw [q] at ev; exact congrArg some ev
        have eN:X.N[j]? = some x:=by
          have hl:=S.lts j hj
          rw [← ex,List.getD_eq_getElem?_getD,List.getElem?_eq_getElem hl]
          rfl
        have fx:scope.names.lookup x=some .free:=by rw [← ex]; exact S.outF j hj
        have cx:X.env.scope.names.lookup x=some .cell:=by rw [hsc]; exact S.free (x,.free) (PySem.mem_of_lookup fx) rfl
        obtain ⟨m,hn,hl⟩:=I2.loc
        obtain ⟨u,ru,lk⟩:=hl j x v eN ev' (.inr (.inl cx))
        refine ⟨u,ru,?_⟩
        rcases lk with ⟨k,_⟩ | ⟨k,c,ec,⟨oc,hoc,hdc⟩⟩
        · have k' : X.env.scope.names.lookup x = some .local := k
          rw [cx] at k'; cases k'
        · obtain ⟨c', ec'⟩ := hcl2 (x, .free) (PySem.mem_of_lookup fx) rfl
          have ecc:=hcl1 x c' ec'
          rw [ec] at ecc
          cases ecc
          exact .inr ⟨.inl (freeAt x fx),c,ec',oc,kp _ _ hoc,hdc⟩
  · obtain ⟨v, oc, hoc, hdc⟩ := I2.cell x c (hcl1 x c e)
    exact ⟨v,oc,kp _ _ hoc,hdc⟩
  · show (pick tgs.length outs σ).length = N'.length
    rw [pick_len,S.isN,List.length_append,List.length_map]
theorem comp_end {σ5:St} {H5:Hp} {s5:Shared} {acc:List V} {its:List Value} {n:Nat} (I2:Inv X pins σ H2 s2) (I5:Inv (cxComp X N' scope cl C s2 H2 fp) [] σ5 H5 s5) (f2:∀ b∈fp,FpOk X pins H2 b)
    (hD:s2.heap.objs.size≤D) (eD:s5.heap.get? D=some { cls:=.type "list",data:=.seq its.toArray n }) (r:Vals acc its) (hz:acc.length≤sizeLine) (hn:H5 D=none):Inv X pins σ (upd H5 D (.lst acc)) s5:=by
  have ne:∀ b o,s2.heap.get? b=some o→b≠D:=fun b o e z=>absurd (Nat.lt_of_lt_of_le (Heap.lt_size e) (by rw [z]; exact hD)) (Nat.lt_irrefl _)
  refine I2.call' (ch:=fp) I5.os ⟨fun b o e nn hb hx => ?_,fun b o e nn hb hx => ?_,fun b o e nn hx => ?_,fun b o e hx => ?_,fun b xs e => ?_,fun b o u e => ?_,fun b ps e => ?_⟩ (fun b u e => ?_) I5.bare fun b hb=>⟨(f2 b hb).2.2.2.1,(f2 b hb).2.1,(f2 b hb).2.2.2.2.1,(f2 b hb).2.2.2.2.2⟩
  · exact I5.base.keep b o e nn hb hx
  · exact I5.base.slot b o e nn hb hx
  · rw [al_ (ne b o e)]
    exact I5.base.free b o e nn hx
  · exact I5.base.there b o e hx
  · have q := I5.base.tups b xs e
    rw [al_ (ax_ q hn)]
    exact q
  · have q := I5.base.frzs b o u e
    rw [al_ (ax_ q hn)]
    exact q
  · obtain ⟨more, q⟩ := I5.base.tbls b ps e
    refine ⟨more,?_⟩
    rw [al_ (ax_ q hn)]
    exact q
  · by_cases hb : b = D
    · subst hb
      rw [upd_same] at e
      cases e
      exact ⟨hz,its,n,r,eD⟩
    · rw [al_ hb] at e
      exact (I5.hok b u e).stay (fun c v _ q=>q) (fun c q=>by rw [al_ (ax_ q hn)]; exact q) fun c xs q=>by rw [al_ (ax_ q hn)]; exact q
end
theorem pick_weak {n:Nat} {outs:List Nat} {σ σ6:St} (k6:∀ i,n≤i→σ6[i]? = (pick n outs σ)[i]?):∀ (i:Nat) v,(pick n outs σ)[i]? = some (some v)→σ6[i]? = some (some v):=fun i v e=>by
  by_cases hi:n≤i
  · rw [k6 i hi]; exact e
  · unfold pick at e
    rw [List.getElem?_append_left (by rw [List.length_replicate]; omega),List.getElem?_replicate,if_pos (by omega)] at e
    cases e
section
variable {X:Cx} {tg elt iter:Expr} {ifs:List Expr} {dsc scope:Scope} {tgs N':List Str} {outs:List Nat} {wi:TI} {g:TG} {tc:TT} {te:TE} {pos:Pos}
theorem comp_block {pins:PN_} {σ:St} {H2:Hp} {s2:Shared} {cl:List (Str×Addr)} {it:Addr} {fp:List Addr} {tn:Nat→Heap→Prop} {J:It} (S:CompScope dsc scope X.N tgs outs N') (hsc:X.env.scope=dsc) (hc:X.calm=true)
    (hg:∀ cl C s H ex,PG (cxComp X N' scope cl C s H ex) tg g) (hgt:Tgt tgs.length g) (hcs:∀ cl C s H ex,PCs (cxComp X N' scope cl C s H ex) ifs tc) (he:∀ cl C s H ex,PE (cxComp X N' scope cl C s H ex) elt te)
    (hcl1:∀ x c,cl.lookup x=some c→X.env.cells.lookup x=some c) (hcl2:∀ y∈scope.names,y.2=.free→∃ c,cl.lookup y.1=some c)
    (I2:Inv X pins σ H2 s2) (T:Turn X.prog X.w X.K tg J fp it tn) (st2:tn 0 s2.heap) (f2:∀ b∈fp,FpOk X pins H2 b)
    {W:Nat→Nat→List V→Hp→Prop} {m0:Nat} (w0:W 0 m0 [] H2) {Qf:List V→Hp→Prop}
    (turn:∀ i m acc H,W i m acc H→(J.stop i H∧acc.length≤sizeLine∧Qf acc H)∨(J.go i H∧acc.length < sizeLine∧∃ N:List V→Hp→Prop,(∀ acc' H',N acc' H'→∃ m',m' < m∧W (i + 1) m' acc' H')∧∀ x H',J.yld i H x H'→g x (pick tgs.length outs σ) H' fun σ2 H2=>tc σ2 H2 fun b H3 =>
      if b=true then te σ2 H3 fun y H4=>N (acc ++ [y]) H4 else N acc H3))
    {E:SV_} {RR:Value→Addr→Result→Shared→Prop}
    (fin:∀ D C s5 mC acc H5,Inv X pins σ (upd H5 D (.lst acc)) s5→H5 D=none→Qf acc H5→s5.heap.Ns C mC→FpOk X pins (upd H5 D (.lst acc)) C→RR (.ref D) C (.ok .next) s5) :
    wpAny (model X.prog X.w) X.A (newList []) (fun acc s₃=>wpAny (model X.prog X.w) X.A (newFunctionEnv scope X.env.globals cl [] X.env.qual none .none (some X.env)) (fun cenv s₄ =>
      codeAny (model X.prog X.w) X.A (.compStart (.ListComp elt [⟨tg,iter,ifs,0⟩] scope pos) 0 (.ref it) acc { cenv with scope:=relabel scope X.env }) (RR acc cenv.locals) s₄) E s₃) E s2:=by
  have hfp:∀ b∈fp,b < s2.heap.objs.size:=fun b hb=>let ⟨o,e,_⟩:=T.obj 0 _ st2 b hb; Heap.lt_size e
  refine wpAny_newObj_type (wpAny_newFunctionEnv S.nocell (by intro y hy; simp at hy) (fun h₁ hns₁ hsb₁ => ?_) S.kind)
  dsimp only at hns₁ hsb₁ ⊢
  generalize hHH:s2.heap.push { cls:=.type "list",dict:=none,data:=.seq ([]:List Value).toArray }=HH at hns₁ hsb₁ ⊢
  have hC:HH.objs.size=s2.heap.objs.size + 1:=by rw [← hHH,Heap.size_push]
  have hDC:s2.heap.objs.size≠HH.objs.size:=by rw [hC]; exact Nat.ne_of_lt (Nat.lt_succ_self _)
  have hCle:s2.heap.objs.size≤HH.objs.size:=by rw [hC]; exact Nat.le_succ _
  have old:∀ b o,s2.heap.get? b=some o→h₁.get? b=some o:=fun b o e=>hsb₁.extBut b o (by rw [hC]; exact Nat.ne_of_lt (Nat.lt_succ_of_lt (Heap.lt_size e))) (Heap.get?_push_of_some _ (hHH ▸ Heap.get?_push_of_some _ e))
  have hacc:h₁.get? s2.heap.objs.size=some { cls:=.type "list",data:=.seq ([]:List Value).toArray 0 }:=hsb₁.extBut _ _ hDC (Heap.get?_push_of_some _ (hHH ▸ Heap.get?_push_size _ rfl))
  have hDfp:∀ b∈fp,s2.heap.objs.size≠b:=fun b hb=>Nat.ne_of_gt (hfp b hb)
  have fresh2:H2 s2.heap.objs.size=none:=I2.hok.fresh (Nat.le_refl _)
  have I4:=comp_start (tk:=s2.toks + ([]:List (Str×Value)).length) S hsc I2 f2 hfp hcl1 hcl2 hCle old hns₁
  have st1:tn 0 h₁:=T.keep 0 _ _ st2 fun b hb o e=>old b o e
  generalize hCC:HH.objs.size=C at *
  generalize hDD:s2.heap.objs.size=D at *
  have nofs:D∉(cxComp X N' scope cl C s2 H2 fp).fs:=fun z=>by
    obtain ⟨_,o,ho,_⟩:=I2.stack.mem (show D∈frs X.stack from z)
    have:=Heap.lt_size ho
    rw [hDD] at this
    exact Nat.lt_irrefl _ this
  have pinD:∀ {σ':St} {H':Hp} {s':Shared} {its:List Value} {n:Nat},Inv (cxComp X N' scope cl C s2 H2 fp) [] σ' H' s'→s'.heap.get? D=some { cls:=.type "list",data:=.seq its.toArray n }→H' D=none →
      Inv (cxComp X N' scope cl C s2 H2 fp) [(D,{ cls:=.type "list",data:=.seq its.toArray n })] σ' H' s':=fun {σ' H' s' its n} J e hn=>J.pins_of fun p hp=>by
    have ep:p=(D,{ cls:=.type "list",data:=.seq its.toArray n }):=by simpa using hp
    subst ep
    exact ⟨e,hn,hDC,nofs,fun v z=>by cases z⟩
  have stat:∀ {H':Hp} {o:Obj},(∀ b∈fp,H' b=none)→∀ b∈fp,FpOk (cxComp X N' scope cl C s2 H2 fp) [(D,o)] H' b:=fun {H' o} hn b hb=>by
    refine ⟨hn b hb,(I4.ok.exf b hb).1,I4.ok.exfs b hb,.inl hb,(I4.ok.exf b hb).2,fun p hp => ?_⟩
    have hp':p∈([]:PN_) ++ [(D,o)]:=hp
    have ep:p=(D,o):=by simpa using hp'
    subst ep
    exact hDfp b hb
  have loop:∀ s₃:Shared,s₃={ s2 with heap:=h₁,toks:=s2.toks + ([]:List (Str×Value)).length } →
      codeAny (model X.prog X.w) X.A (.compLoop (.ListComp elt [⟨tg,iter,ifs,0⟩] scope pos) 0 (.ref it) (.ref D) (compEnvC scope cl C X.env)) (RR (.ref D) C) s₃:=by
    rintro s₃ rfl
    refine compLoop_any (fun m s' => ∃ i acc H its n,Inv (cxComp X N' scope cl C s2 H2 fp) [(D,{ cls:=.type "list",data:=.seq its.toArray n })] (pick tgs.length outs σ) H s'∧tn i s'.heap∧(∀ b∈fp,H b=none)∧Vals acc its∧W i m acc H) ?_ m0
      ⟨0,[],H2,[],0,pinD I4 hacc fresh2,st1,fun b hb=>(f2 b hb).1,.nil,w0⟩
    rintro m s' ⟨i,acc,H,its,n,I',st',fr',rD,w'⟩
    rcases turn i m acc H w' with ⟨stop,hz,q⟩ | ⟨go,hz,N,hN,step⟩
    · refine thn (T.done (cxComp X N' scope cl C s2 H2 fp) rfl rfl rfl hc i _ s' _ H _ I' (stat fr') st' stop) fun r s4 ⟨hr, J4⟩ => ?_
      subst hr
      obtain ⟨eD,nD,_⟩:=J4.pin (D,{ cls:=.type "list",data:=.seq its.toArray n }) (List.mem_append_right _ List.mem_cons_self)
      obtain ⟨mC,nsC,_⟩:=J4.loc
      have I5:Inv X pins σ (upd H D (.lst acc)) s4:=comp_end (D:=D) I2 (J4.pins_of (pins':=[]) (fun p hp=>nomatch hp)) f2 (by rw [hDD]; exact Nat.le_refl _) eD rD hz nD
      refine fin D C s4 mC acc H I5 nD q nsC (I2.fpOk (by rw [hDD]; exact hCle) ?_)
      rw [al_ (Ne.symm hDC)]
      exact J4.free
    · refine thn (T.item (cxComp X N' scope cl C s2 H2 fp) rfl rfl rfl hc i _ s' _ H _ I' (stat fr') st' go) fun r s4 ⟨u, hr, h4⟩ => ?_
      subst hr
      dsimp only
      refine thn h4 fun _ s5 ⟨x,H5,I5,r5,y5,st5,fr5⟩ => ?_
      have I5':=I5.pinned (stat fr5) (T.obj _ _ st5)
      refine thn (hg cl C s2 H2 fp _ s5 _ H5 x u _ I5' r5 (hgt x _ H5 _ (step x H5 y5))) fun _ s6 ⟨σ6,H6,I6,q6,l6,k6⟩ => ?_
      refine thn (hcs cl C s2 H2 fp _ s6 σ6 H6 _ I6 q6) fun b s7 ⟨H7,I7,q7⟩ => ?_
      have tail:∀ {H':Hp} {s':Shared},Inv (cxComp X N' scope cl C s2 H2 fp) ([(D,{ cls:=.type "list",data:=.seq its.toArray n })] ++ pinsAt fp s5.heap) σ6 H' s'→(∀ b∈fp,∀ o,s5.heap.get? b=some o→s'.heap.get? b=some o)∧∀ b∈fp,H' b=none:=fun {H' s'} J =>
        ⟨fun b hb o e=>(J.pin (b,o) (List.mem_append_right _ (List.mem_append_right _ (fr_ hb e)))).1,fun b hb=>by
          obtain ⟨o,e,d⟩:=T.obj _ _ st5 b hb
          exact (J.pin (b,o) (List.mem_append_right _ (List.mem_append_right _ (fr_ hb e)))).2.1⟩
      cases b with
      | false =>
        rw [if_neg Bool.false_ne_true] at q7 ⊢
        obtain ⟨m',hm,w7⟩:=hN _ _ q7
        obtain ⟨t1,t2⟩:=tail I7
        exact ⟨m',hm,i + 1,acc,H7,its,n,I7.unpinned.weak l6.symm (pick_weak k6),T.keep _ _ _ st5 t1,t2,rD,w7⟩
      | true =>
        rw [if_pos rfl] at q7 ⊢
        refine thn (he cl C s2 H2 fp _ s7 σ6 H7 _ I7 q7) fun v s8 ⟨y,H8,I8,r8,q8⟩ => ?_
        obtain ⟨m',hm,w8⟩:=hN _ _ q8
        obtain ⟨t1,t2⟩:=tail I8
        obtain ⟨eD,nD,_⟩:=I8.pin (D,{ cls:=.type "list",data:=.seq its.toArray n }) (List.mem_append_right _ (List.mem_append_left _ List.mem_cons_self))
        have hl:=rD.length
        refine call_meets F.slot_list_append ⟨_,eD,rfl⟩ F.entry_list_append (F.args_list_append_2 _ _) (PySem.list_append D its.toArray n v (by rw [List.size_toArray]; omega)) ⟨eD,?_⟩
        have q:=PySem.IsL.update eD (·.push v)
        have eA:its.toArray.push v=(its ++ [v]).toArray:=by simp
        rw [eA] at q
        refine ⟨m',hm,i + 1,acc ++ [y],H8,its ++ [v],_,pinD (Inv.weak (Inv.turned (it:=D) (I8.pins_of (pins':=[]) (fun p hp=>nomatch hp)) (fun b o hb e=>(Heap.get?_update_other _ _ (Ne.symm hb)).trans e) nD hDC (.inr (by show s2.heap.objs.size≤D; rw [hDD]; exact Nat.le_refl _)) (fun x c e z => ?_) (fun p hp=>nomatch hp)) l6.symm (pick_weak k6)) q nD,
          T.keep _ _ _ st5 (fun b hb o e=>(Heap.get?_update_other _ _ (hDfp b hb)).trans (t1 b hb o e)),t2,rD.append (.cons r8 .nil),w8⟩
        obtain ⟨v',oc,hoc,hdc⟩:=I8.cell x c e
        rw [z,eD] at hoc
        cases hoc
        cases hdc
  exact codeAny_compStart_list (loop _ rfl) (T.self X.A 0 _ _ _ st1 (loop _ rfl))
theorem pe_comp {N:List Str} (S:CompScope dsc scope N tgs outs N') (hi:PI X tg iter wi) (hg:∀ cl C s H ex,PG (cxComp X N' scope cl C s H ex) tg g) (hgt:Tgt tgs.length g) (hcs:∀ cl C s H ex,PCs (cxComp X N' scope cl C s H ex) ifs tc)
    (he:∀ cl C s H ex,PE (cxComp X N' scope cl C s H ex) elt te) (hN0:X.N=N:=by rfl) (hsc:X.env.scope=dsc:=by rfl) (hc:X.calm=true:=by rfl) (hs:∀ x,foldedSetIterable iter X.env x=pure x:=by intro _; rfl) :
    PE X (.ListComp elt [⟨tg,iter,ifs,0⟩] scope pos) (tComp tgs.length outs wi g tc te):=by
  subst hN0
  intro pins s σ H Q I h
  obtain ⟨cl,e1,e2,e3⟩:=closure_of (scope:=scope) (env:=X.env) (fun y hy hk=>I.ok.has y.1 (.inl (by show X.env.scope.names.lookup y.1=_; rw [hsc]; exact S.free y hy hk)))
  rw [eval_ListComp]
  refine wpAny_comprehension_free (use:=none) rfl hs e1 S.kind S.names (wpAny_mono (hi pins s σ H _ I h) (fun xv s1 h1=>wpAny_mono h1 (fun itv s2 h2 => ?_) fun _ _ e=>e) fun _ _ e=>e)
  obtain ⟨it,fp,tn,J,H2,rfl,I2,T,st2,f2,W,⟨m0,w0⟩,turn⟩:=h2
  refine comp_block (RR:=fun acc C=>compPost (model X.prog X.w) X.A X.xe none (EP X pins σ Q) acc C) S hsc hc hg hgt hcs he e2 e3 I2 T st2 f2 w0 (Qf:=fun acc H => ∀ l,H l=none→Q (.ref l) (upd H l (.lst acc))) turn ?_
  intro D C s5 mC acc H5 I5 nD q nsC hf
  refine ⟨mC,nsC,fun h' hs'=>⟨.ref D,_,?_,rfl,q D nD⟩⟩
  exact I5.turned (it:=C) (t':=s5.toks) (fun b o hb e=>(hs'.2 b hb).trans e) hf.1 hf.2.1 hf.2.2.2.1 hf.2.2.2.2.1 hf.2.2.2.2.2
theorem ps_setC {N:List Str} {i:Nat} {x:Str} {px spos:Pos} (hN:X.N.Nodup) (hx:X.N[i]? = some x) (hl:X.env.scope.names.lookup x=some .local) (S:CompScope dsc scope N tgs outs N') (hi:PI X tg iter wi) (hg:∀ cl C s H ex,PG (cxComp X N' scope cl C s H ex) tg g) (hgt:Tgt tgs.length g)
    (hcs:∀ cl C s H ex,PCs (cxComp X N' scope cl C s H ex) ifs tc) (he:∀ cl C s H ex,PE (cxComp X N' scope cl C s H ex) elt te)
    (hsw:swapsWith (.ListComp elt [⟨tg,iter,ifs,0⟩] scope pos) (some (.Name x px)) spos.line X.env=pure true:=by rfl)
    (hN0:X.N=N:=by rfl) (hsc:X.env.scope=dsc:=by rfl) (hc:X.calm=true:=by rfl) (hs:∀ x,foldedSetIterable iter X.env x=pure x:=by intro _; rfl) :
    PS X (.Assign [.Name x px] (.ListComp elt [⟨tg,iter,ifs,0⟩] scope pos) spos) (tAsg (tComp tgs.length outs wi g tc te) (gName i)):=by
  subst hN0
  intro pins s σ H Dn I h
  obtain ⟨cl,e1,e2,e3⟩:=closure_of (scope:=scope) (env:=X.env) (fun y hy hk=>I.ok.has y.1 (.inl (by show X.env.scope.names.lookup y.1=_; rw [hsc]; exact S.free y hy hk)))
  rw [exec_Assign_Name_used _ _ _ _ hsw]
  refine wpAny_bind (wpAny_standAt (wpAny_bind ?_))
  show wpAny _ X.A (do let _ ← comprehension (.ListComp elt [⟨tg,iter,ifs,0⟩] scope pos) scope X.env _ (newList []) false (eval iter X.env) (some (assign (.Name x px) X.env))) _ _ s
  refine wpAny_bind (wpAny_mono (wpAny_comprehension_free (use:=some (assign (.Name x px) X.env)) (Q:=fun _ s'=>SP X pins Dn .next s') rfl hs e1 S.kind S.names
    (wpAny_mono (hi pins s σ H _ I h) (fun xv s1 h1=>wpAny_mono h1 (fun itv s2 h2 => ?_) fun _ _ e=>e) fun _ _ e=>e)) (fun _ s' hq=>wpAny_pure (wpAny_pure hq)) fun _ _ e=>e)
  obtain ⟨it,fp,tn,J,H2,rfl,I2,T,st2,f2,W,⟨m0,w0⟩,turn⟩:=h2
  refine comp_block (RR:=fun acc C=>compPost (model X.prog X.w) X.A X.xe (some (assign (.Name x px) X.env)) (fun _ s'=>SP X pins Dn .next s') acc C) S hsc hc hg hgt hcs he e2 e3 I2 T st2 f2 w0
    (Qf:=fun acc H => ∀ l,H l=none→Dn.nx (σ.set i (some (.ref l))) (upd H l (.lst acc))) turn ?_
  intro D C s5 mC acc H5 I5 nD q nsC hf
  show wpAny _ X.A (assign (.Name x px) X.env (.ref D)) _ _ _
  refine wpAny_assign_Name (id_ I5 hN hx (.inl hl) (show RelV (.ref D) (.ref D) from rfl) (fun s' I' ⟨a,sb,ha⟩ => ?_) (.inr hl))
  have hCa:C≠a:=by
    rcases ha with ha | ha
    · rw [ha]; exact hf.2.1
    · exact Ne.symm (hf.2.2.2.2.1 x a ha)
  refine ⟨mC,nsC.sameBut sb hCa,fun h' hs'=>⟨_,_,I'.turned (it:=C) (t':=s'.toks) (fun b o hb e=>(hs'.2 b hb).trans e) hf.1 hf.2.1 hf.2.2.2.1 hf.2.2.2.2.1 hf.2.2.2.2.2,q D nD⟩⟩
end
theorem comp_range {lo:Int} {n:Nat} {g:TG} {tc:TT} {te:TE} {σ':St} {H1:Hp} {Fin:List V→Hp→Prop} (Pv:Nat→List V→Hp→Prop) (hz:n≤1000000) (h0:Pv 0 [] H1) (hl:∀ i acc H,i≤n→Pv i acc H→acc.length≤i)
    (hs:∀ i acc H,i < n→Pv i acc H→g (.int (lo + i)) σ' H fun σ2 H2=>tc σ2 H2 fun b H3=>if b=true then te σ2 H3 fun y H4=>Pv (i + 1) (acc ++ [y]) H4 else Pv (i + 1) acc H3) (hd:∀ acc H,Pv n acc H→Fin acc H) :
    ∃ W : Nat → Nat → List V → Hp → Prop, (∃ m, W 0 m [] H1) ∧ ∀ i m acc H, W i m acc H → ((Itr lo n).stop i H ∧ acc.length ≤ sizeLine ∧ Fin acc H) ∨
      ((Itr lo n).go i H∧acc.length < sizeLine∧∃ N:List V→Hp→Prop,(∀ acc' H',N acc' H'→∃ m',m' < m∧W (i + 1) m' acc' H')∧∀ x H',(Itr lo n).yld i H x H'→g x σ' H' fun σ2 H2=>tc σ2 H2 fun b H3=>if b=true then te σ2 H3 fun y H4=>N (acc ++ [y]) H4 else N acc H3):=by
  have zl:(1000000:Nat) < sizeLine:=by rw [sizeLine_eq]; decide
  refine ⟨fun i m acc H=>m=n - i∧i≤n∧Pv i acc H,⟨n,by simp,Nat.zero_le _,h0⟩,?_⟩
  rintro i m acc H ⟨rfl,hi,p⟩
  have al:=hl i acc H hi p
  by_cases hlt:i < n
  · refine .inr ⟨hlt, by omega, Pv (i + 1), fun acc' H' p' => ⟨n - (i + 1), by omega, rfl, hlt, p'⟩, fun x H' y => ?_⟩
    obtain ⟨e,y⟩:=y
    subst e y
    exact hs i acc _ hlt p
  · have e : i = n := by omega
    subst e
    exact .inl ⟨Nat.le_refl _,by omega,hd acc H p⟩
def SIter (t:Bool) (h:Heap) (it l:Addr) (k:Nat):Prop:=if t=true then h.IsTupleIter it l k else h.IsListIter it l k
def SSeq (t:Bool) (h:Heap) (l:Addr) (xs:Array Value):Prop:=if t=true then h.IsTuple l xs else h.IsList l xs
theorem SIter.obj {t:Bool} {h:Heap} {it l:Addr} {k:Nat} (x:SIter t h it l k):∃ o,h.get? it=some o∧∀ v,o.data ≠ .cell v:=by
  cases t
  · obtain ⟨o,e,_,d⟩:=(show h.IsListIter it l k from x); exact ⟨o,e,fun v z=>by rw [d] at z; cases z⟩
  · obtain ⟨o,e,_,d⟩:=(show h.IsTupleIter it l k from x); exact ⟨o,e,fun v z=>by rw [d] at z; cases z⟩
theorem SIter.to {t:Bool} {h h':Heap} {it l:Addr} {k:Nat} (x:SIter t h it l k) (e:∀ o,h.get? it=some o→h'.get? it=some o):SIter t h' it l k:=by
  cases t
  · obtain ⟨o,a,r⟩:=(show h.IsListIter it l k from x); exact ⟨o,e o a,r⟩
  · obtain ⟨o,a,r⟩:=(show h.IsTupleIter it l k from x); exact ⟨o,e o a,r⟩
theorem SSeq.to {t:Bool} {h h':Heap} {l:Addr} {xs:Array Value} (x:SSeq t h l xs) (e:∀ o,h.get? l=some o→h'.get? l=some o):SSeq t h' l xs:=by
  cases t
  · obtain ⟨o,a,r⟩:=(show h.IsList l xs from x); exact ⟨o,e o a,r⟩
  · obtain ⟨o,a,r⟩:=(show h.IsTuple l xs from x); exact ⟨o,e o a,r⟩
section
variable {prog:Program} {w:World} {A:Around} {E:SV_} {s:Shared}
theorem nextOf_tup {it l:Addr} {i:Nat} {items:Array Value} {x:Value} {Q:SV_} (hit:s.heap.IsTupleIter it l i) (hl:s.heap.IsTuple l items) (hx:items[i]? = some x)
    (hQ:∀ h',h'.IsTupleIter it l (i + 1)→Heap.SameBut it s.heap h'→Q x { s with heap:=h' }):wpAny (model prog w) A (Builtin.SmallTypes.nextOf (.ref it)) Q E s:=by
  obtain ⟨o,ho,hc,hd⟩:=id hit; obtain ⟨ol,hol,_,nl,hdl⟩:=hl
  unfold Builtin.SmallTypes.nextOf
  refine wpAny_bind (wpAny_callSpecial?_slot (name:=Str.ofString "__next__") hit.typeIs F.slot_tuple_iterator_next (wpAny_call_entry F.slot_tuple_iterator_next hit.typeIs F.entry_tuple_iterator_next ?_ (F.args_tuple_iterator_next_1 _)))
  show wpAny _ _ (field (.ref it) 0 >>= _) _ _ s; refine wpAny_bind (wpAny_field ho hd (x:=.ref l) rfl ?_)
  show wpAny _ _ (if (Value.ref l == Value.none)=true then _ else _) _ _ s; rw [if_neg (show ¬ ((Value.ref l == Value.none)=true) from Bool.false_ne_true)]
  show wpAny _ _ (field (.ref it) 1 >>= _) _ _ s; refine wpAny_bind (wpAny_field ho hd (x:=.int i 0) rfl ?_)
  show wpAny _ _ (seqItems? (.ref l) >>= _) _ _ s; refine wpAny_bind (wpAny_seqItems hol hdl ?_); simp only [Int.toNat_natCast,hx]
  exact wpAny_bind (wpAny_setField ho hd (by simp) (wpAny_pure ⟨x,rfl,wpAny_pure (hQ _ ⟨_,Heap.get?_update_self _ ho (Obj.isFreed_of_fields (Obj.data_mapFields hd _)),(Obj.cls_mapFields ..).trans hc,by rw [Obj.data_mapFields hd]; simp [rawInt]⟩ (Heap.SameBut.update ..))⟩))
theorem nextOf_tupE {it l:Addr} {i:Nat} {items:Array Value} {Q:SV_} (hh:A.handled=none) (hit:s.heap.IsTupleIter it l i) (hl:s.heap.IsTuple l items) (hx:items[i]? = none)
    (hE:∀ h' e,Heap.ExtBut it s.heap h'→(∃ o,h'.get? e=some o∧o.cls=.type "StopIteration")→E (.ref e) { s with heap:=h' }):wpAny (model prog w) A (Builtin.SmallTypes.nextOf (.ref it)) Q E s:=by
  obtain ⟨o,ho,hc,hd⟩:=id hit; obtain ⟨ol,hol,_,nl,hdl⟩:=hl
  unfold Builtin.SmallTypes.nextOf
  refine wpAny_bind (wpAny_callSpecial?_slot (name:=Str.ofString "__next__") hit.typeIs F.slot_tuple_iterator_next (wpAny_call_entry F.slot_tuple_iterator_next hit.typeIs F.entry_tuple_iterator_next ?_ (F.args_tuple_iterator_next_1 _)))
  show wpAny _ _ (field (.ref it) 0 >>= _) _ _ s; refine wpAny_bind (wpAny_field ho hd (x:=.ref l) rfl ?_)
  show wpAny _ _ (if (Value.ref l == Value.none)=true then _ else _) _ _ s; rw [if_neg (show ¬ ((Value.ref l == Value.none)=true) from Bool.false_ne_true)]
  show wpAny _ _ (field (.ref it) 1 >>= _) _ _ s; refine wpAny_bind (wpAny_field ho hd (x:=.int i 0) rfl ?_)
  show wpAny _ _ (seqItems? (.ref l) >>= _) _ _ s; refine wpAny_bind (wpAny_seqItems hol hdl ?_); simp only [Int.toNat_natCast,hx]
  refine wpAny_bind (wpAny_rule (wpAny_bind (wpAny_setField ho hd (by simp) ?_))); show wpAny _ _ (newExc (.type "StopIteration") [] >>= _) _ _ _
  refine wpAny_bind ?_; simp only [newExc,newTuple]; refine wpAny_bind (wpAny_newObj_type ?_ (by size_fits))
  refine wpAny_bind (m:=firstArgMember _ _) (wpAny_of_eq (a:=Value.none) (by first | rfl | (simp only [firstArgMember]; rfl)) ?_); refine wpAny_newObj_type ?_ (by size_fits); simp only [raiseNew]
  refine wpAny_bind (wpAny_handled ?_); first | rw [show A.in1.handled=none from hh] | rw [hh]
  refine wpAny_bind (wpAny_pure (wpAny_throw ?_)); exact hE _ _ (((Heap.SameBut.update ..).extBut.push _).push _) ⟨_,Heap.get?_push_size _ rfl,rfl⟩
theorem nextOf_s {t:Bool} {it l:Addr} {i:Nat} {items:Array Value} {x:Value} {Q:SV_} (hit:SIter t s.heap it l i) (hl:SSeq t s.heap l items) (hx:items[i]? = some x)
    (hQ:∀ h',SIter t h' it l (i + 1)→Heap.SameBut it s.heap h'→Q x { s with heap:=h' }):wpAny (model prog w) A (Builtin.SmallTypes.nextOf (.ref it)) Q E s:=by
  cases t
  · exact wpAny_nextOf_list_item hit hl hx hQ
  · exact nextOf_tup hit hl hx hQ
theorem nextOf_sE {t:Bool} {it l:Addr} {i:Nat} {items:Array Value} {Q:SV_} (hh:A.handled=none) (hit:SIter t s.heap it l i) (hl:SSeq t s.heap l items) (hx:items[i]? = none)
    (hE:∀ h' e,Heap.ExtBut it s.heap h'→(∃ o,h'.get? e=some o∧o.cls=.type "StopIteration")→E (.ref e) { s with heap:=h' }):wpAny (model prog w) A (Builtin.SmallTypes.nextOf (.ref it)) Q E s:=by
  cases t
  · exact wpAny_nextOf_list_end hh hit hl hx hE
  · exact nextOf_tupE hh hit hl hx hE
theorem zipS_item {t1 t2:Bool} {z TI TO i1 i2 l1 l2:Addr} {k1 k2:Nat} {xs ys:Array Value} {x y a b:Value} {Q:SV_} (D:ZipApart z TI TO i1 i2 l1 l2)
    (hz:IsZip s.heap z TI TO .none) (hTI:IsPair s.heap TI (.ref i1) (.ref i2)) (hTO:IsPair s.heap TO a b)
    (h1:SIter t1 s.heap i1 l1 k1) (h2:SIter t2 s.heap i2 l2 k2) (hl1:SSeq t1 s.heap l1 xs) (hl2:SSeq t2 s.heap l2 ys) (hx:xs[k1]? = some x) (hy:ys[k2]? = some y)
    (hQ:∀ h',IsZip h' z TI TO (rawInt s.heap.objs.size)→IsPair h' TO x y→SIter t1 h' i1 l1 (k1 + 1)→SIter t2 h' i2 l2 (k2 + 1)→IsPair h' s.heap.objs.size x y→h'.objs.size=s.heap.objs.size + 1 →
      (∀ c o,c≠z→c≠TO→c≠i1→c≠i2→s.heap.get? c=some o→h'.get? c=some o)→Q (.ref s.heap.objs.size) { s with heap:=h' }) :
    wpAny (model prog w) A (Builtin.«zip.__next__» ⟨[.ref z],[]⟩) (fun fin s' => ∃ v,fin=.done (.ret v)∧Q v s') E s:=by
  show wpAny _ _ (field (.ref z) 2 >>= _) _ _ _; refine wpAny_bind (wpAny_field hz rfl (x:=.bool false) rfl ?_)
  show wpAny _ _ (field (.ref z) 3 >>= _) _ _ _; refine wpAny_bind (wpAny_field hz rfl (x:=.ref TI) rfl ?_); refine wpAny_bind (wpAny_seqItems hTI rfl ?_)
  show wpAny _ _ (Builtin.SmallTypes.ownedTupleIsFree (.ref z) >>= _) _ _ _; refine wpAny_bind ?_; unfold Builtin.SmallTypes.ownedTupleIsFree
  refine wpAny_bind (wpAny_field hz rfl (x:=.none) rfl (wpAny_pure ?_)); simp only [if_true]; refine wpAny_bind (wpAny_rule ?_)
  refine wpAny_bind (wpAny_field hz rfl (x:=.ref TO) rfl ?_); refine wpAny_bind (wpAny_setField_rec hz (by simp) fun q1 hz₁ s1 => ?_); replace hz₁:IsZip q1 z TI TO .ellipsis:=hz₁
  refine wpAny_bind ?_; simp only [List.zipIdx_cons,List.zipIdx_nil,List.forIn_cons,List.forIn_nil]
  refine wpAny_bind (wpAny_bind (wpAny_onRaise ?_)); show wpAny _ _ (Builtin.SmallTypes.nextOf (.ref i1) >>= _) _ _ _
  refine wpAny_bind (nextOf_s (h1.to fun o e=>s1.extBut _ _ D.i1z e) (hl1.to fun o e=>s1.extBut _ _ D.l1z e) hx fun q2 a2 s2=>wpAny_pure ?_)
  have b2:IsPair q2 TO a b:=s2.extBut _ _ D.TOi1 (s1.extBut _ _ D.TOz hTO)
  refine wpAny_bind (wpAny_seqItems b2 rfl ?_); refine wpAny_bind (wpAny_updateSeq_pair b2 fun q3 b3 s3 => ?_); replace b3:IsPair q3 TO x b:=b3
  refine wpAny_bind (wpAny_letGo (wpAny_pure ?_)); refine wpAny_bind (wpAny_bind (wpAny_onRaise ?_)); show wpAny _ _ (Builtin.SmallTypes.nextOf (.ref i2) >>= _) _ _ _
  refine wpAny_bind (nextOf_s (h2.to fun o e=>s3.extBut _ _ D.TOi2.symm (s2.extBut _ _ D.i12.symm (s1.extBut _ _ D.i2z e))) (hl2.to fun o e=>s3.extBut _ _ D.l2TO (s2.extBut _ _ D.l2i1 (s1.extBut _ _ D.l2z e))) hy fun q4 a4 s4=>wpAny_pure ?_)
  have b4:IsPair q4 TO x b:=s4.extBut _ _ D.TOi2 b3
  refine wpAny_bind (wpAny_seqItems b4 rfl ?_); refine wpAny_bind (wpAny_updateSeq_pair b4 fun q5 b5 s5 => ?_); replace b5:IsPair q5 TO x y:=b5
  refine wpAny_bind (wpAny_letGo (wpAny_pure (wpAny_pure ?_))); refine wpAny_bind (wpAny_seqItems b5 rfl ?_); refine wpAny_bind (wpAny_newTuple ?_)
  have hsz:q5.objs.size=s.heap.objs.size:=by rw [s5.1,s4.1,s3.1,s2.1,s1.1]
  have z5:IsZip q5 z TI TO .ellipsis:=s5.extBut _ _ D.TOz.symm (s4.extBut _ _ D.i2z.symm (s3.extBut _ _ D.TOz.symm (s2.extBut _ _ D.i1z.symm hz₁)))
  have k5:∀ c o,c≠z→c≠TO→c≠i1→c≠i2→s.heap.get? c=some o→q5.get? c=some o:=fun c o c1 c2 c3 c4 e=>s5.extBut _ _ c2 (s4.extBut _ _ c4 (s3.extBut _ _ c2 (s2.extBut _ _ c3 (s1.extBut _ _ c1 e))))
  have d1:SIter t1 q5 i1 l1 (k1 + 1):=a2.to fun o e=>s5.extBut _ _ D.TOi1.symm (s4.extBut _ _ D.i12 (s3.extBut _ _ D.TOi1.symm e))
  have d2:SIter t2 q5 i2 l2 (k2 + 1):=a4.to fun o e=>s5.extBut _ _ D.TOi2.symm e
  have zlt:z < q5.objs.size:=Heap.lt_size z5
  show wpAny _ _ (Builtin.SmallTypes.ownedTupleHandOut (.ref z) (.ref q5.objs.size) >>= _) _ _ _; refine wpAny_bind ?_; unfold Builtin.SmallTypes.ownedTupleHandOut
  have z6:IsZip (q5.push { cls:=.type "tuple",data:=.seq #[x,y] }) z TI TO .ellipsis:=Heap.get?_push_of_some _ z5
  refine wpAny_bind (wpAny_setField_rec z6 (by simp) fun q7 z7 s7 => ?_); replace z7:IsZip q7 z TI TO (rawInt q5.objs.size):=z7
  refine wpAny_setField_rec z7 (by simp) fun q8 z8 s8 => ?_; replace z8:IsZip q8 z TI TO (rawInt q5.objs.size):=z8
  have up:∀ c o,c≠z→q5.get? c=some o→q8.get? c=some o:=fun c o c1 e=>s8.extBut _ _ c1 (s7.extBut _ _ c1 (Heap.get?_push_of_some _ e))
  have t8:IsPair q8 q5.objs.size x y:=s8.extBut _ _ (Nat.ne_of_gt zlt) (s7.extBut _ _ (Nat.ne_of_gt zlt) (Heap.get?_push_size _ rfl))
  have n8:q8.objs.size=q5.objs.size + 1:=by rw [s8.1,s7.1,Heap.size_push]
  rw [hsz] at z8 t8 n8; refine wpAny_pure ⟨_,rfl,?_⟩; show Q (.ref q5.objs.size) _; rw [hsz]
  exact hQ q8 z8 (up _ _ D.TOz b5) (d1.to fun o e=>up _ o D.i1z e) (d2.to fun o e=>up _ o D.i2z e) t8 n8 fun c o c1 c2 c3 c4 e=>up c o c1 (k5 c o c1 c2 c3 c4 e)
theorem zipS_end {t1 t2:Bool} {z TI TO i1 i2 l1 l2:Addr} {k1 k2:Nat} {xs ys:Array Value} {a b:Value} {Q:Fin→Shared→Prop} (hh:A.handled=none) (D:ZipApart z TI TO i1 i2 l1 l2)
    (hz:IsZip s.heap z TI TO .none) (hTI:IsPair s.heap TI (.ref i1) (.ref i2)) (hTO:IsPair s.heap TO a b)
    (h1:SIter t1 s.heap i1 l1 k1) (h2:SIter t2 s.heap i2 l2 k2) (hl1:SSeq t1 s.heap l1 xs) (hl2:SSeq t2 s.heap l2 ys) (hend:xs[k1]? = none∨ys[k2]? = none)
    (hE:∀ h' e,(∀ c o,c≠z→c≠TO→c≠i1→c≠i2→s.heap.get? c=some o→h'.get? c=some o)→(∃ o,h'.get? e=some o∧o.cls=.type "StopIteration")→E (.ref e) { s with heap:=h' }) :
    wpAny (model prog w) A (Builtin.«zip.__next__» ⟨[.ref z],[]⟩) Q E s:=by
  show wpAny _ _ (field (.ref z) 2 >>= _) _ _ _; refine wpAny_bind (wpAny_field hz rfl (x:=.bool false) rfl ?_)
  show wpAny _ _ (field (.ref z) 3 >>= _) _ _ _; refine wpAny_bind (wpAny_field hz rfl (x:=.ref TI) rfl ?_); refine wpAny_bind (wpAny_seqItems hTI rfl ?_)
  show wpAny _ _ (Builtin.SmallTypes.ownedTupleIsFree (.ref z) >>= _) _ _ _; refine wpAny_bind ?_; unfold Builtin.SmallTypes.ownedTupleIsFree
  refine wpAny_bind (wpAny_field hz rfl (x:=.none) rfl (wpAny_pure ?_)); simp only [if_true]; refine wpAny_bind (wpAny_rule ?_)
  refine wpAny_bind (wpAny_field hz rfl (x:=.ref TO) rfl ?_); refine wpAny_bind (wpAny_setField_rec hz (by simp) fun q1 hz₁ s1 => ?_); replace hz₁:IsZip q1 z TI TO .ellipsis:=hz₁
  refine wpAny_bind ?_; simp only [List.zipIdx_cons,List.zipIdx_nil,List.forIn_cons,List.forIn_nil]
  refine wpAny_bind (wpAny_bind (wpAny_onRaise ?_)); show wpAny _ _ (Builtin.SmallTypes.nextOf (.ref i1) >>= _) _ _ _
  cases hx:xs[k1]? with
  | none =>
    refine wpAny_bind (nextOf_sE hh (h1.to fun o e=>s1.extBut _ _ D.i1z e) (hl1.to fun o e=>s1.extBut _ _ D.l1z e) hx fun q2 e s2 he => ?_)
    obtain ⟨oe,hoe,hce⟩:=he
    have z2:IsZip q2 z TI TO .ellipsis:=s2 _ _ D.i1z.symm hz₁
    have ez:e≠z:=fun x=>by subst x; rw [z2] at hoe; cases hoe; simp at hce
    exact wpAny_setField_rec z2 (by simp) fun q3 _ s3=>hE q3 e (fun c o c1 _ c3 _ x=>s3.extBut _ _ c1 (s2 _ _ c3 (s1.extBut _ _ c1 x))) ⟨oe,s3.extBut _ _ ez hoe,hce⟩
  | some x =>
    have hy:ys[k2]? = none:=by rcases hend with h | h; rw [hx] at h; cases h; exact h
    refine wpAny_bind (nextOf_s (h1.to fun o e=>s1.extBut _ _ D.i1z e) (hl1.to fun o e=>s1.extBut _ _ D.l1z e) hx fun q2 a2 s2=>wpAny_pure ?_)
    have b2:IsPair q2 TO a b:=s2.extBut _ _ D.TOi1 (s1.extBut _ _ D.TOz hTO)
    refine wpAny_bind (wpAny_seqItems b2 rfl ?_); refine wpAny_bind (wpAny_updateSeq_pair b2 fun q3 b3 s3 => ?_)
    refine wpAny_bind (wpAny_letGo (wpAny_pure ?_)); refine wpAny_bind (wpAny_bind (wpAny_onRaise ?_)); show wpAny _ _ (Builtin.SmallTypes.nextOf (.ref i2) >>= _) _ _ _
    refine wpAny_bind (nextOf_sE hh (h2.to fun o e=>s3.extBut _ _ D.TOi2.symm (s2.extBut _ _ D.i12.symm (s1.extBut _ _ D.i2z e))) (hl2.to fun o e=>s3.extBut _ _ D.l2TO (s2.extBut _ _ D.l2i1 (s1.extBut _ _ D.l2z e))) hy fun q4 e s4 he => ?_)
    obtain ⟨oe,hoe,hce⟩:=he
    have z4:IsZip q4 z TI TO .ellipsis:=s4 _ _ D.i2z.symm (s3.extBut _ _ D.TOz.symm (s2.extBut _ _ D.i1z.symm hz₁))
    have ez:e≠z:=fun x=>by subst x; rw [z4] at hoe; cases hoe; simp at hce
    exact wpAny_setField_rec z4 (by simp) fun q5 _ s5=>hE q5 e (fun c o c1 c2 c3 c4 x=>s5.extBut _ _ c1 (s4 _ _ c4 (s3.extBut _ _ c2 (s2.extBut _ _ c3 (s1.extBut _ _ c1 x))))) ⟨oe,s5.extBut _ _ ez hoe,hce⟩
theorem pyNext_zipS {t1 t2:Bool} {z TI TO i1 i2 l1 l2:Addr} {k1 k2:Nat} {xs ys:Array Value} {x y a b:Value} {Q:Option Value→Shared→Prop} (D:ZipApart z TI TO i1 i2 l1 l2)
    (hz:IsZip s.heap z TI TO .none) (hTI:IsPair s.heap TI (.ref i1) (.ref i2)) (hTO:IsPair s.heap TO a b)
    (h1:SIter t1 s.heap i1 l1 k1) (h2:SIter t2 s.heap i2 l2 k2) (hl1:SSeq t1 s.heap l1 xs) (hl2:SSeq t2 s.heap l2 ys) (hx:xs[k1]? = some x) (hy:ys[k2]? = some y)
    (hQ:∀ h',IsZip h' z TI TO (rawInt s.heap.objs.size)→IsPair h' TO x y→SIter t1 h' i1 l1 (k1 + 1)→SIter t2 h' i2 l2 (k2 + 1)→IsPair h' s.heap.objs.size x y→h'.objs.size=s.heap.objs.size + 1 →
      (∀ c o,c≠z→c≠TO→c≠i1→c≠i2→s.heap.get? c=some o→h'.get? c=some o)→Q (some (.ref s.heap.objs.size)) { s with heap:=h' }) :
    wpAny (model prog w) A (pyNext (.ref z)) Q E s:=by
  have hT:s.TypeIs (.ref z) "zip" := ⟨_,hz,rfl⟩
  unfold pyNext
  exact wpAny_bind (wpAny_attempt (wpAny_callSpecial?_slot (name:=Str.ofString "__next__") hT F.slot_zip_next (wpAny_call_entry F.slot_zip_next hT F.entry_zip_next (zipS_item D hz hTI hTO h1 h2 hl1 hl2 hx hy fun h' a1 a2 a3 a4 a5 a6 a7=>wpAny_pure (hQ h' a1 a2 a3 a4 a5 a6 a7)) (F.args_zip_next_1 _))))
theorem pyNext_zipSE {t1 t2:Bool} {z TI TO i1 i2 l1 l2:Addr} {k1 k2:Nat} {xs ys:Array Value} {a b:Value} {Q:Option Value→Shared→Prop} (hh:A.handled=none) (D:ZipApart z TI TO i1 i2 l1 l2)
    (hz:IsZip s.heap z TI TO .none) (hTI:IsPair s.heap TI (.ref i1) (.ref i2)) (hTO:IsPair s.heap TO a b)
    (h1:SIter t1 s.heap i1 l1 k1) (h2:SIter t2 s.heap i2 l2 k2) (hl1:SSeq t1 s.heap l1 xs) (hl2:SSeq t2 s.heap l2 ys) (hend:xs[k1]? = none∨ys[k2]? = none)
    (hQ:∀ h',(∀ c o,c≠z→c≠TO→c≠i1→c≠i2→s.heap.get? c=some o→h'.get? c=some o)→Q none { s with heap:=h' }):wpAny (model prog w) A (pyNext (.ref z)) Q E s:=by
  have hT:s.TypeIs (.ref z) "zip" := ⟨_,hz,rfl⟩
  unfold pyNext
  refine wpAny_bind (wpAny_attempt (wpAny_callSpecial?_slot (name:=Str.ofString "__next__") hT F.slot_zip_next (wpAny_call_entry F.slot_zip_next hT F.entry_zip_next (zipS_end hh D hz hTI hTO h1 h2 hl1 hl2 hend fun h' e hk he => ?_) (F.args_zip_next_1 _))))
  obtain ⟨o,ho,hc⟩:=he
  exact wpAny_bind (wpAny_isInstance (T := "StopIteration") (b:=true) ⟨o,ho,hc⟩ isSubtype_stop (wpAny_pure (hQ _ hk)))
end
abbrev itName (t:Bool):String:=if t=true then "tuple_iterator" else "list_iterator"
abbrev zq1 (t1:Bool) (h:Heap) (l1:Addr):Heap:=h.push { cls:=.type (itName t1),data:=.fields #[.ref l1,.int 0 0] }
abbrev zq2 (t1 t2:Bool) (h:Heap) (l1 l2:Addr):Heap:=(zq1 t1 h l1).push { cls:=.type (itName t2),data:=.fields #[.ref l2,.int 0 0] }
abbrev zq3 (t1 t2:Bool) (h:Heap) (l1 l2:Addr):Heap:=(zq2 t1 t2 h l1 l2).push { cls:=.type "tuple",data:=.seq #[.ref h.objs.size,.ref (zq1 t1 h l1).objs.size] }
abbrev zq4 (t1 t2:Bool) (h:Heap) (l1 l2:Addr):Heap:=(zq3 t1 t2 h l1 l2).push { cls:=.type "tuple",data:=.seq #[.none,.none] }
abbrev zq5 (t1 t2:Bool) (h:Heap) (l1 l2:Addr):Heap:=(zq4 t1 t2 h l1 l2).push { cls:=.type "zip",data:=.fields #[.none,.bool false,.bool false,.ref (zq2 t1 t2 h l1 l2).objs.size,.ref (zq3 t1 t2 h l1 l2).objs.size] }
theorem pyIter_s {prog:Program} {w:World} {A:Around} {E:SV_} {s:Shared} {t:Bool} {l:Addr} {xs:Array Value} {Q:SV_} (hl:SSeq t s.heap l xs)
    (hQ:Q (.ref s.heap.objs.size) { s with heap:=zq1 t s.heap l }):wpAny (model prog w) A (pyIter (.ref l)) Q E s:=by
  cases t
  · exact wpAny_pyIter_list hl hQ
  · exact wpAny_pyIter_tuple hl hQ
theorem zipS_new (t1 t2:Bool) (l1 l2:Addr) (xs ys:Array Value) :
    Meets (Builtin.«zip.__new__» ⟨[.type "zip",.ref l1,.ref l2],[]⟩) (fun _ R s=>SSeq t1 s.heap l1 xs∧SSeq t2 s.heap l2 ys∧R (.ok (.ret (.ref (zq4 t1 t2 s.heap l1 l2).objs.size))) { s with heap:=zq5 t1 t2 s.heap l1 l2 }) :=
  .of_wp fun prog w A R s h=>by
    obtain ⟨hp,g,d,tk,os⟩:=s
    obtain ⟨hl1,hl2,h⟩:=h
    have hsub:=sub_zip
    have hL1:SSeq t1 (Shared.heap ⟨hp,g,d,tk,os⟩) l1 xs:=hl1
    have hL2:SSeq t2 (Shared.heap ⟨zq1 t1 hp l1,g,d,tk,os⟩) l2 ys:=hl2.to fun o e=>Heap.get?_push_of_some _ e
    wp_walk using pyIter_s hL1,pyIter_s hL2
    exact ⟨_,rfl,h⟩
theorem call_zipS {prog:Program} {w:World} {A:Around} {E:SV_} {s:Shared} {t1 t2:Bool} {l1 l2:Addr} {xs ys:Array Value} {Q:SV_} (hl1:SSeq t1 s.heap l1 xs) (hl2:SSeq t2 s.heap l2 ys)
    (h:∀ h',IsZip h' (s.heap.objs.size + 4) (s.heap.objs.size + 2) (s.heap.objs.size + 3) .none→IsPair h' (s.heap.objs.size + 2) (.ref s.heap.objs.size) (.ref (s.heap.objs.size + 1)) →
      IsPair h' (s.heap.objs.size + 3) .none .none→SIter t1 h' s.heap.objs.size l1 0→SIter t2 h' (s.heap.objs.size + 1) l2 0→(∀ c o,s.heap.get? c=some o→h'.get? c=some o)→Q (.ref (s.heap.objs.size + 4)) { s with heap:=h' }) :
    wpAny (model prog w) A (call (.type "zip") [.ref l1,.ref l2]) Q E s:=by
  refine callType_new F.called_zip (by decide) (F.typeCall_zip_2 _ _) (F.newCall_zip_2 _ _) (fun obj=>F.args_object_init_3 obj _ _) F.entry_zip_new (zipS_new t1 t2 l1 l2 xs ys) ⟨hl1,hl2,?_⟩
  have z1:(zq1 t1 s.heap l1).objs.size=s.heap.objs.size + 1:=Heap.size_push ..
  have z2:(zq2 t1 t2 s.heap l1 l2).objs.size=s.heap.objs.size + 2:=by rw [Heap.size_push,z1]
  have z3:(zq3 t1 t2 s.heap l1 l2).objs.size=s.heap.objs.size + 3:=by rw [Heap.size_push,z2]
  have z4:(zq4 t1 t2 s.heap l1 l2).objs.size=s.heap.objs.size + 4:=by rw [Heap.size_push,z3]
  have g5:(zq5 t1 t2 s.heap l1 l2).get? (zq4 t1 t2 s.heap l1 l2).objs.size=some _:=Heap.get?_push_size _ rfl
  have g4:(zq5 t1 t2 s.heap l1 l2).get? (zq3 t1 t2 s.heap l1 l2).objs.size=some _:=Heap.get?_push_of_some _ (Heap.get?_push_size _ rfl)
  have g3:(zq5 t1 t2 s.heap l1 l2).get? (zq2 t1 t2 s.heap l1 l2).objs.size=some _:=Heap.get?_push_of_some _ (Heap.get?_push_of_some _ (Heap.get?_push_size _ rfl))
  have g2:(zq5 t1 t2 s.heap l1 l2).get? (zq1 t1 s.heap l1).objs.size=some _:=Heap.get?_push_of_some _ (Heap.get?_push_of_some _ (Heap.get?_push_of_some _ (Heap.get?_push_size _ rfl)))
  have g1:(zq5 t1 t2 s.heap l1 l2).get? s.heap.objs.size=some _:=Heap.get?_push_of_some _ (Heap.get?_push_of_some _ (Heap.get?_push_of_some _ (Heap.get?_push_of_some _ (Heap.get?_push_size _ rfl))))
  show _∧_
  rw [z2,z3,z4] at g5; rw [z1,z2] at g3; rw [z3] at g4; rw [z1] at g2; rw [z4]
  refine ⟨⟨_,g5,rfl⟩,h _ g5 g3 g4 ?_ ?_ fun c o x=>Heap.get?_push_of_some _ (Heap.get?_push_of_some _ (Heap.get?_push_of_some _ (Heap.get?_push_of_some _ (Heap.get?_push_of_some _ x))))⟩
  · cases t1 <;> exact ⟨_,g1,rfl,rfl⟩
  · cases t2 <;> exact ⟨_,g2,rfl,rfl⟩
section
variable {prog:Program} {w:World} {A:Around} {R:Result→Shared→Prop} {I:Addr} {fp wr:List Addr} {n:Nat} {P:Nat→Value→Prop} {St:Nat→Heap→Prop}
theorem maxK_loop (kw:List (Str×Value)) (W:Walks prog w A.in1 I fp wr n P St) (bt:Nat→Nat→Bool) (hcmp:CmpOf prog w A.in1 .Gt P bt) (S:Addr) (hSf:S∉fp) :
    ∀ (k j:Nat) (s:Shared) (vb:Value) (c:Nat),n - (j + 1)=k→j + 1≤n→St (j + 1) s.heap→P (argBest bt j) vb→s.heap.get? S=some { cls:=.type "list",dict:=none,data:=.seq #[vb,vb] c,slots := #[] } →
    (∀ v h' tk,P (argBest bt (n - 1)) v→(∀ b o,b∉wr→b≠S→s.heap.get? b=some o→h'.get? b=some o)→R (.ok (.ret v)) { s with heap:=h',toks:=tk }) →
    codeAny (model prog w) A (.builtin "max.loop" ⟨[.ref I,.none,.ref S],kw⟩) R s:=by
  have hSw:S∉wr:=fun h=>hSf (W.sub _ h)
  have hname:(toString "max" ++ toString ".loop" : String) = "max.loop" := by decide
  intro k
  induction k with
  | zero =>
    intro j s vb c hk hj hst hPb hS hR
    have hin:j + 1=n:=by omega
    refine codeAny_builtin F.entry_max_loop ?_; rw [Around.under_plainId F.plain_max_loop _]
    show wpAny _ A.in1 (seqItems? (.ref S) >>= _) _ _ s; refine wpAny_bind (wpAny_seqItems hS rfl ?_)
    show wpAny _ A.in1 (tryCatch (pyNext (.ref I)) _ >>= _) _ _ s; refine wpAny_bind (wpAny_tryCatch (W.done s _ _ (hin ▸ hst) fun h' tk hk' => ?_))
    have hS':=hk' S _ hSw hS
    show wpAny _ A.in1 (updateSeq S (fun _ => #[]) >>= _) _ _ _; refine wpAny_bind ?_; refine wpAny_updateSeq hS' rfl (wpAny_bind (wpAny_letGo (wpAny_pure ?_)))
    exact hR vb _ tk (by rw [← hin]; exact hPb) fun b o hbw hbS e=>(Heap.get?_update_other _ _ (Ne.symm hbS)).trans (hk' b o hbw e)
  | succ k ih =>
    intro j s vb c hk hj hst hPb hS hR
    have hlt:j + 1 < n:=by omega
    refine codeAny_builtin F.entry_max_loop ?_; rw [Around.under_plainId F.plain_max_loop _]
    show wpAny _ A.in1 (seqItems? (.ref S) >>= _) _ _ s; refine wpAny_bind (wpAny_seqItems hS rfl ?_)
    show wpAny _ A.in1 (tryCatch (pyNext (.ref I)) _ >>= _) _ _ s; refine wpAny_bind (wpAny_tryCatch (W.item (j + 1) s _ _ hlt hst fun v h' tk hP hst' hk' => ?_))
    have hS':=hk' S _ hSw hS
    show wpAny _ A.in1 (tryCatch (holding [v,v] (richCompare .Gt v vb >>= _)) _ >>= _) _ _ _; refine wpAny_bind (wpAny_tryCatch (wpAny_holding (wpAny_bind (hcmp (j + 1) (argBest bt j) v vb _ _ _ hP hPb ?_))))
    refine wpAny_bind (wpAny_holding (wpAny_truthy_bool ?_)); refine wpAny_bind (wpAny_letGo (wpAny_pure ?_))
    cases hb:bt (j + 1) (argBest bt j) with
    | true =>
      simp only [if_true]; refine wpAny_bind ?_; refine wpAny_updateSeq hS' rfl (wpAny_bind (wpAny_letGo ?_)); rw [hname]
      refine wpAny_pure ⟨plainId_quiet F.plain_max_loop _,ih (j + 1) _ v _ (by omega) hlt (W.frame _ _ _ hst' fun b hbf o e => ?_) (by simp only [argBest,hb,if_true]; exact hP) (Heap.get?_update_self _ hS' rfl) fun v' h'' tk'' hP' hk'' => ?_⟩
      · exact (Heap.get?_update_other _ _ (fun h:S=b=>hSf (by rw [h]; exact hbf))).trans e
      · exact hR v' h'' tk'' hP' fun b o hbw hbS e=>hk'' b o hbw hbS ((Heap.get?_update_other _ _ (Ne.symm hbS)).trans (hk' b o hbw e))
    | false =>
      simp only [Bool.false_eq_true,if_false]; refine wpAny_bind (wpAny_letGo ?_); rw [hname]
      refine wpAny_pure ⟨plainId_quiet F.plain_max_loop _,ih (j + 1) _ vb c (by omega) hlt hst' (by simp only [argBest,hb,Bool.false_eq_true,if_false]; exact hPb) hS' fun v' h'' tk'' hP' hk'' => ?_⟩
      exact hR v' h'' tk'' hP' fun b o hbw hbS e=>hk'' b o hbw hbS (hk' b o hbw e)
theorem maxK_first (kw:List (Str×Value)) (W:Walks prog w A.in1 I fp wr n P St) (bt:Nat→Nat→Bool) (hcmp:CmpOf prog w A.in1 .Gt P bt) (S:Addr) (hSf:S∉fp) (hn:0 < n) {s:Shared} {c:Nat} (hst:St 0 s.heap)
    (hS:s.heap.get? S=some { cls:=.type "list",dict:=none,data:=.seq #[] c,slots := #[] })
    (hR:∀ v h' tk,P (argBest bt (n - 1)) v→(∀ b o,b∉wr→b≠S→s.heap.get? b=some o→h'.get? b=some o)→R (.ok (.ret v)) { s with heap:=h',toks:=tk }) :
    codeAny (model prog w) A (.builtin "max.loop" ⟨[.ref I,.none,.ref S],kw⟩) R s:=by
  have hSw:S∉wr:=fun h=>hSf (W.sub _ h)
  have hname:(toString "max" ++ toString ".loop" : String) = "max.loop" := by decide
  refine codeAny_builtin F.entry_max_loop ?_; rw [Around.under_plainId F.plain_max_loop _]
  show wpAny _ A.in1 (seqItems? (.ref S) >>= _) _ _ s; refine wpAny_bind (wpAny_seqItems hS rfl ?_)
  show wpAny _ A.in1 (tryCatch (pyNext (.ref I)) _ >>= _) _ _ s; refine wpAny_bind (wpAny_tryCatch (W.item 0 s _ _ hn hst fun v h' tk hP hst' hk' => ?_))
  have hS':=hk' S _ hSw hS
  show wpAny _ A.in1 (updateSeq S (fun _ => #[v,v]) >>= _) _ _ _; refine wpAny_bind ?_; refine wpAny_updateSeq hS' rfl ?_; rw [hname]
  refine wpAny_pure ⟨plainId_quiet F.plain_max_loop _,maxK_loop kw W bt hcmp S hSf _ 0 _ v _ rfl hn (W.frame _ _ _ hst' fun b hbf o e => ?_) hP (Heap.get?_update_self _ hS' rfl) fun v' h'' tk'' hP' hk'' => ?_⟩
  · exact (Heap.get?_update_other _ _ (fun h:S=b=>hSf (by rw [h]; exact hbf))).trans e
  · exact hR v' h'' tk'' hP' fun b o hbw hbS e=>hk'' b o hbw hbS ((Heap.get?_update_other _ _ (Ne.symm hbS)).trans (hk' b o hbw e))
theorem maxK_none {d:Value} {nm:Str} (W:Walks prog w A.in1 I fp wr 0 P St) (S:Addr) (hSf:S∉fp) {s:Shared} {c:Nat} (hst:St 0 s.heap)
    (hS:s.heap.get? S=some { cls:=.type "list",dict:=none,data:=.seq #[] c,slots := #[] })
    (hR:∀ h' tk,(∀ b o,b∉wr→s.heap.get? b=some o→h'.get? b=some o)→R (.ok (.ret d)) { s with heap:=h',toks:=tk }) :
    codeAny (model prog w) A (.builtin "max.loop" ⟨[.ref I,.none,.ref S],[(nm,d)]⟩) R s:=by
  have hSw:S∉wr:=fun h=>hSf (W.sub _ h)
  refine codeAny_builtin F.entry_max_loop ?_; rw [Around.under_plainId F.plain_max_loop _]
  show wpAny _ A.in1 (seqItems? (.ref S) >>= _) _ _ s; refine wpAny_bind (wpAny_seqItems hS rfl ?_)
  show wpAny _ A.in1 (tryCatch (pyNext (.ref I)) _ >>= _) _ _ s; refine wpAny_bind (wpAny_tryCatch (W.done s _ _ hst fun h' tk hk' => ?_))
  refine wpAny_bind (wpAny_rule (wpAny_pure ?_))
  exact hR h' tk hk'
end
theorem args_maxD (a d:Value):argsOk "max" ⟨[a],[(Str.ofString "default",d)]⟩:=by unfold argsOk; kernel_rfl
def Sq (t:Bool) (K:FG_) (H:Hp) (a:Addr) (xs:List V):Prop:=if t=true then SqT K H a xs else SqL K H a xs
theorem Inv.sseq {X:Cx} {pins:PN_} {σ:St} {H:Hp} {s:Shared} {t:Bool} {a:Addr} {xs:List V} (I:Inv X pins σ H s) (h:Sq t X.K H a xs):∃ its:List Value,Vals xs its∧SSeq t s.heap a its.toArray∧xs.length≤sizeLine:=by
  cases t
  · obtain ⟨its, r, p, z⟩ := I.list h
    exact ⟨its,r,p.isList,z⟩
  · obtain ⟨its, r, p, z⟩ := I.tuple h
    exact ⟨its,r,p,z⟩
theorem Inv.sseq_inj {X:Cx} {pins:PN_} {σ:St} {H:Hp} {s:Shared} {t:Bool} {a:Addr} {xs ys:List V} (I:Inv X pins σ H s) (h:Sq t X.K H a xs) (h':Sq t X.K H a ys):xs=ys:=by
  cases t
  · exact I.list_inj h h'
  · exact I.tuple_inj h h'
def Itz (t1 t2:Bool) (K:FG_) (a b:Addr):It :=
  ⟨fun i H => ∃ xs ys x y,Sq t1 K H a xs∧Sq t2 K H b ys∧xs[i]? = some x∧ys[i]? = some y,
   fun i H v H' => ∃ p x y,v=.ref p∧H p=none∧H'=upd H p (.tup [x,y])∧∀ xs ys,Sq t1 K H a xs→Sq t2 K H b ys→xs[i]? = some x∧ys[i]? = some y,
   fun i H => ∃ xs ys,Sq t1 K H a xs∧Sq t2 K H b ys∧(xs.length≤i∨ys.length≤i)⟩
section
variable {X:Cx} {pins:PN_} {σ:St} {H:Hp} {s:Shared}
theorem Inv.turnedL {ch:List Addr} {h':Heap} {t':Nat} (I:Inv X pins σ H s) (hf:∀ b∈ch,FpOk X pins H b) (k:∀ b o,b∉ch→s.heap.get? b=some o→h'.get? b=some o):Inv X pins σ H { s with heap:=h',toks:=t' }:=by
  have nch:∀ b u,H b=some u→b∉ch:=fun b u e z=>by rw [(hf b z).1] at e; cases e
  refine I.step (g':=s.gens) (d':=s.drawn) (ch:=ch) (fun b hb=>⟨(hf b hb).2.2.2.1,(hf b hb).2.1,(hf b hb).2.2.2.2.1,(hf b hb).2.2.2.2.2⟩) (fun b o _ _ hc e _=>k b o hc e) (fun b o _ _ hc e _=>⟨o.slots,k b o hc e⟩) (fun _ _ _ _ n=>n)
    (fun b o hc e=>⟨o,k b o hc e⟩) (fun _ _ e=>e) (fun _ _ _ e=>e) (fun b ps e=>⟨#[],by rw [e]; simp⟩) (fun m hm => ?_) (fun b u e => ?_) I.bare
  · obtain ⟨o, es, ep, ho, r⟩ := hm
    exact ⟨o,es,ep,k _ o (fun z=>(hf _ z).2.1 rfl) ho,r⟩
  · refine (I.hok b u e).stay (fun c v hc q => k c v ?_ q) (fun _ q => q) fun _ _ q => q
    rcases hc with z | z
    · rw [z]; exact nch b u e
    · exact nch c _ z
theorem Inv.turnedT {ch:List Addr} {h':Heap} {t':Nat} {T:Addr} {xs:List V} {its:List Value} (I:Inv X pins σ H s) (hf:∀ b∈ch,FpOk X pins H b) (k:∀ b o,b∉ch→s.heap.get? b=some o→h'.get? b=some o)
    (hT:s.heap.objs.size≤T) (r:Vals xs its) (hz:xs.length≤sizeLine) (e:IsTup h' T its.toArray):Inv X pins σ (upd H T (.tup xs)) { s with heap:=h',toks:=t' }:=by
  have nT:H T=none:=I.hok.fresh hT
  have nch:∀ b u,H b=some u→b∉ch:=fun b u e z=>by rw [(hf b z).1] at e; cases e
  have neT:∀ b o,s.heap.get? b=some o→b≠T:=fun b o e z=>absurd (Nat.lt_of_lt_of_le (Heap.lt_size e) (by rw [z]; exact hT)) (Nat.lt_irrefl _)
  refine I.step (g':=s.gens) (d':=s.drawn) (ch:=ch) (fun b hb=>⟨(hf b hb).2.2.2.1,(hf b hb).2.1,(hf b hb).2.2.2.2.1,(hf b hb).2.2.2.2.2⟩) (fun b o _ _ hc e _=>k b o hc e) (fun b o _ _ hc e _=>⟨o.slots,k b o hc e⟩)
    (fun b o _ e n=>by rw [al_ (neT b o e)]; exact n) (fun b o hc e=>⟨o,k b o hc e⟩) (fun b ys q=>by rw [al_ (ax_ q nT)]; exact q) (fun b o u q=>by rw [al_ (ax_ q nT)]; exact q)
    (fun b ps q=>⟨#[],by rw [al_ (ax_ q nT),q]; simp⟩) (fun m hm => ?_) (fun b u q => ?_) I.bare
  · obtain ⟨o, es, ep, ho, rr⟩ := hm
    exact ⟨o,es,ep,k _ o (fun z=>(hf _ z).2.1 rfl) ho,rr⟩
  · by_cases hb : b = T
    · subst hb
      rw [upd_same] at q
      cases q
      exact ⟨hz,its,r,e⟩
    · rw [al_ hb] at q
      refine (I.hok b u q).stay (fun c v hc z=>k c v ?_ z) (fun c z=>by rw [al_ (ax_ z nT)]; exact z) fun c ys z=>by rw [al_ (ax_ z nT)]; exact z
      rcases hc with z | z
      · rw [z]; exact nch b u q
      · exact nch c _ z
end
theorem turn_zip {P:Program} {w:World} {K:FG_} {es:List Expr} {kk:Nat} {tpos:Pos} {t1 t2:Bool} {a b z TI TO i1 i2:Addr} (D:ZipApart z TI TO i1 i2 a b) :
    Turn P w K (.Tuple es kk tpos) (Itz t1 t2 K a b) [z,TI,TO,i1,i2] z (fun i h=>IsZip h z TI TO .none∧IsPair h TI (.ref i1) (.ref i2)∧(∃ u v,IsPair h TO u v)∧SIter t1 h i1 a i∧SIter t2 h i2 b i) where
  mem:=by simp
  obj:=fun i h st c hb=>by
    obtain ⟨hz,hTI,⟨u,v,hTO⟩,h1,h2⟩:=st
    simp only [List.mem_cons,List.not_mem_nil,or_false] at hb
    rcases hb with rfl | rfl | rfl | rfl | rfl
    · exact ⟨_,hz,fun v e=>nomatch e⟩
    · exact ⟨_,hTI,fun v e=>nomatch e⟩
    · exact ⟨_,hTO,fun v e=>nomatch e⟩
    · exact h1.obj
    · exact h2.obj
  keep:=fun i h h' st k=>by
    obtain ⟨hz,hTI,⟨u,v,hTO⟩,h1,h2⟩:=st
    exact ⟨k z (by simp) _ hz,k TI (by simp) _ hTI,⟨u,v,k TO (by simp) _ hTO⟩,h1.to fun o e=>k i1 (by simp) o e,h2.to fun o e=>k i2 (by simp) o e⟩
  item:=by
    intro X hP hw hK hc i pins s σ H E I hf st hg
    subst hP hw hK
    obtain ⟨xs,ys,x,y,q1,q2,e1,e2⟩:=hg
    obtain ⟨its1,r1,p1,z1⟩:=I.sseq q1
    obtain ⟨its2,r2,p2,z2⟩:=I.sseq q2
    obtain ⟨u1,eu1,ru1⟩:=r1.get e1
    obtain ⟨u2,eu2,ru2⟩:=r2.get e2
    obtain ⟨hz,hTI,⟨u,v,hTO⟩,h1,h2⟩:=st
    have hf4:∀ c∈[z,TO,i1,i2],FpOk X pins H c:=fun c hc=>hf c (by simp only [List.mem_cons,List.not_mem_nil,or_false] at hc ⊢; rcases hc with rfl | rfl | rfl | rfl <;> simp)
    have lt:∀ {c o},s.heap.get? c=some o→s.heap.objs.size≠c:=fun e=>Nat.ne_of_gt (Heap.lt_size e)
    refine pyNext_zipS D hz hTI hTO h1 h2 p1 p2 (x:=u1) (y:=u2) (by simpa using eu1) (by simpa using eu2) fun h' a1 a2 a3 a4 a5 a6 hk => ?_
    refine ⟨_,rfl,wpAny_letOwnedTupleGo_zip a1 fun h'' b1 b2 => ?_⟩
    have b2':Heap.SameBut z h' h'':=b2
    have kk:∀ c o,c∉[z,TO,i1,i2]→s.heap.get? c=some o→h''.get? c=some o:=fun c o hc e=>by
      simp only [List.mem_cons,List.not_mem_nil,or_false,not_or] at hc
      exact b2'.extBut _ _ hc.1 (hk c o hc.1 hc.2.1 hc.2.2.1 hc.2.2.2 e)
    have tT:h''.get? s.heap.objs.size=some { cls:=.type "tuple",data:=.seq #[u1,u2] }:=b2'.extBut _ _ (lt hz) a5
    have nT:H s.heap.objs.size=none:=I.hok.fresh (Nat.le_refl _)
    have I':Inv X pins σ (upd H s.heap.objs.size (.tup [x,y])) { s with heap:=h'' }:=I.turnedT (t':=s.toks) (its:=[u1,u2]) hf4 kk (Nat.le_refl _) (.cons ru1 (.cons ru2 .nil)) (by show 2≤sizeLine; decide) ⟨_,tT,rfl,_,rfl⟩
    refine ⟨.ref s.heap.objs.size,upd H s.heap.objs.size (.tup [x,y]),I',rfl,
      ⟨_,x,y,rfl,nT,rfl,fun xs' ys' w1 w2=>⟨by rw [I.sseq_inj w1 q1]; exact e1,by rw [I.sseq_inj w2 q2]; exact e2⟩⟩,⟨b1,b2'.extBut _ _ D.TIz (hk _ _ D.TIz D.TITO D.TIi1 D.TIi2 hTI),⟨_,_,b2'.extBut _ _ D.TOz a2⟩,a3.to fun o e=>b2'.extBut _ _ D.i1z e,a4.to fun o e=>b2'.extBut _ _ D.i2z e⟩,fun c hc => ?_⟩
    obtain ⟨o,eo,_⟩ : ∃ o,s.heap.get? c=some o∧True:=by
      simp only [List.mem_cons,List.not_mem_nil,or_false] at hc
      rcases hc with rfl | rfl | rfl | rfl | rfl
      · exact ⟨_,hz,trivial⟩
      · exact ⟨_,hTI,trivial⟩
      · exact ⟨_,hTO,trivial⟩
      · obtain ⟨o,e,_⟩:=h1.obj; exact ⟨o,e,trivial⟩
      · obtain ⟨o,e,_⟩:=h2.obj; exact ⟨o,e,trivial⟩
    rw [al_ (Ne.symm (lt eo))]
    exact (hf c hc).1
  done:=by
    intro X hP hw hK hc i pins s σ H E I hf st hg
    subst hP hw hK
    obtain ⟨xs,ys,q1,q2,e⟩:=hg
    obtain ⟨its1,r1,p1,z1⟩:=I.sseq q1
    obtain ⟨its2,r2,p2,z2⟩:=I.sseq q2
    obtain ⟨hz,hTI,⟨u,v,hTO⟩,h1,h2⟩:=st
    have hf4:∀ c∈[z,TO,i1,i2],FpOk X pins H c:=fun c hc=>hf c (by simp only [List.mem_cons,List.not_mem_nil,or_false] at hc ⊢; rcases hc with rfl | rfl | rfl | rfl <;> simp)
    have l1:=r1.length
    have l2:=r2.length
    refine pyNext_zipSE (I.ok.hd hc) D hz hTI hTO h1 h2 p1 p2 ?_ fun h' hk=>⟨rfl,I.turnedL (t':=s.toks) hf4 fun c o hc e => ?_⟩
    · rcases e with e | e
      · exact .inl (by simp; omega)
      · exact .inr (by simp; omega)
    · simp only [List.mem_cons, List.not_mem_nil, or_false, not_or] at hc
      exact hk c o hc.1 hc.2.1 hc.2.2.1 hc.2.2.2 e
  self:=fun _ _ _ _ _ st h=>wpAny_pyIter_zip st.1 h
theorem bt_zip:bootBuiltins "zip" = some (.type "zip"):=by decide +kernel
def iZip (t1 t2:Bool) (K:FG_) (ta:TA):TI:=fun σ H R=>ta σ H fun vs H1 => ∃ a b,vs=[.ref a,.ref b]∧(∃ xs,Sq t1 K H1 a xs)∧(∃ ys,Sq t2 K H1 b ys)∧R (Itz t1 t2 K a b) H1
theorem pi_zip {X:Cx} {ea eb:Expr} {ta:TA} {p pos:Pos} {es:List Expr} {kk:Nat} {tpos:Pos} {t1 t2:Bool} (hg:Gl X "zip") (hm:X.mg "zip" = none) (ha:PA X [ea,eb] ta) (hs:starEach [ea,eb] X.env=[(false,eval ea X.env),(false,eval eb X.env)]:=by rfl) (hs2:starEach [eb] X.env=[(false,eval eb X.env)]:=by rfl) :
    PI X (.Tuple es kk tpos) (.Call (.Name "zip" p) [ea,eb] [] pos) (iZip t1 t2 X.K ta):=by
  intro pins s σ H R I h
  refine Call_ (gm_ I hg hm bt_zip (PyProof.Rows.callWith_type1 (thn (ha pos pins s σ H _ I h) fun us s1 ⟨vs,H1,I1,r1,q1⟩ => ?_) (by rw [hs,hs2]) (by rw [hs2]; rfl)))
  obtain ⟨a,b,e,⟨xs,w1⟩,⟨ys,w2⟩,q⟩:=q1
  subst e
  obtain ⟨u,v,rfl,ru,rv⟩:=r1.two
  cases ru
  cases rv
  obtain ⟨its1,r1,p1,z1⟩:=I1.sseq w1
  obtain ⟨its2,r2,p2,z2⟩:=I1.sseq w2
  have lt1:a < s1.heap.objs.size:=by cases t1 <;> (obtain ⟨_,e,_⟩:=p1; exact Heap.lt_size e)
  have lt2:b < s1.heap.objs.size:=by cases t2 <;> (obtain ⟨_,e,_⟩:=p2; exact Heap.lt_size e)
  refine call_zipS p1 p2 fun h' hz hTI hTO hi1 hi2 hk=>wpAny_pyIter_zip hz ?_
  refine ⟨_,_,_,_,H1,rfl,I1.kept (t':=s1.toks) hk,turn_zip (t1:=t1) (t2:=t2) (zipApart_new lt1 lt2),⟨hz,hTI,⟨_,_,hTO⟩,hi1,hi2⟩,fun c hc => ?_,q⟩
  have hle:s1.heap.objs.size≤c:=by
    simp only [List.mem_cons,List.not_mem_nil,or_false] at hc
    rcases hc with rfl | rfl | rfl | rfl | rfl <;> omega
  exact I1.fpOk hle (I1.hok.fresh hle)
section
variable {X:Cx}
theorem call_maxL (hc:X.calm=true):CallR X (.builtin "max") (fun xs H Q => ∃ p ns,xs=[.ref p]∧SqL X.K H p (ns.map V.int)∧ns≠[]∧∀ M,M∈ns→(∀ a∈ns,a≤M)→Q (.int M) H):=by
  intro pins s σ H xs us Q I r h
  obtain ⟨p,ns,rfl,hq,hne,q⟩:=h
  obtain ⟨u,rfl,rx⟩:=vals1 r
  cases rx
  obtain ⟨its,r',pl,hz⟩:=I.list hq
  have hi:=intsAre_of r'
  obtain ⟨zs,e⟩:=hi.allInts.items
  have hns:ns=zs.toList.map (·.1):=by rw [← hi.numsOf,← nums_intItems,← e]
  have hsz:0 < zs.size:=by
    have h3:=List.length_pos_iff.mpr hne
    rw [hns,List.length_map,Array.length_toList] at h3
    exact h3
  have pl':=pl.isList
  rw [e] at pl'
  refine max_intList (I.ok.hd hc) pl' hsz fun v h' tk hv hk => ?_
  obtain ⟨t,rfl⟩:=intItems_at hv
  obtain ⟨h1,h2⟩:=argBest_gt (numAt zs) (zs.size - 1)
  refine ⟨.int _,H,I.kept hk,⟨t,rfl⟩,q _ ?_ fun a ha => ?_⟩
  · rw [hns, numAt_eq]
    exact getD_mem (by rw [List.length_map,Array.length_toList]; omega)
  · rw [hns] at ha
    obtain ⟨j,hj,rfl⟩:=mem_getD ha
    rw [List.length_map,Array.length_toList] at hj
    rw [← numAt_eq]
    exact h2 j (by omega)
def CallKR (X:Cx) (f:Value) (ks:List Str) (r:List V→List V→Hp→VK→Prop):Prop :=
  ∀ (pins : PN_) (s : Shared) (σ : St) (H : Hp) (xs zs : List V) (us ws : List Value) (Q : VK), Inv X pins σ H s → Vals xs us → Vals zs ws → r xs zs H Q →
    wpAny (model X.prog X.w) X.A (call f us (ks.zip ws)) (EP X pins σ Q) X.xe s
def tCBK (r:List V→List V→Hp→VK→Prop) (t tk:TA):TE:=fun σ H Q=>t σ H fun vs H1=>tk σ H1 fun zs H2=>r vs zs H2 Q
theorem pe_callBK {x:Str} {p pos:Pos} {e:Expr} {es:List Expr} {kws:List Keyword} {t tk:TA} {id:String} {ks:List Str} {r:List V→List V→Hp→VK→Prop} (hc:CallKR X (.builtin id) ks r) (hg:Gl X x) (hm:X.mg x=none) (hv:bootBuiltins x=some (.builtin id))
    (ha:PA X (e :: es) t) (hkw:PK X kws tk) (hks:(backToKw pos (keywordEach kws X.env)).filterMap (·.1)=ks:=by rfl) (hn:x ≠ "__name__" := by decide) (hdb:(x == ("__debug__" : Str))=false:=by decide)
    (he:backTo pos (starEach (e :: es) X.env)=(false,eval e X.env) :: backTo pos (starEach es X.env):=by rfl) (hpl:(backTo pos (starEach (e :: es) X.env)).any (·.1)=false:=by rfl)
    (hall:(backToKw pos (keywordEach kws X.env)).all (·.1.isSome)=true:=by rfl) (hkn:(backToKw pos (keywordEach kws X.env)).any (·.1.isNone)=false:=by rfl):PE X (.Call (.Name x p) (e :: es) kws pos) (tCBK r t tk):=by
  intro pins s σ H Q I h
  refine wpAny_Call_Name_kw (gm_ I hg hm hv ?_ hn hdb)
  refine PyProof.Rows.callWith_kw (thn (ha pos pins s σ H _ I h) fun us s1 ⟨vs,H1,I1,r1,q1⟩=>thn (hkw pos pins s1 σ H1 _ I1 q1) fun ws s2 ⟨zs,H2,I2,r2,q2⟩ => ?_) he hpl hall hkn
  rw [hks]
  exact hc pins s2 σ H2 vs zs us ws Q I2 r1 r2 q2
theorem call_maxD (hc:X.calm=true):CallKR X (.builtin "max") ["default"] (fun xs zs H Q => ∃ p ns d,xs=[.ref p]∧zs=[.int d]∧SqL X.K H p (ns.map V.int)∧(ns=[]→Q (.int d) H)∧(∀ M,M∈ns→(∀ a∈ns,a≤M)→Q (.int M) H)):=by
  intro pins s σ H xs zs us ws Q I r rz h
  obtain ⟨p,ns,d,rfl,rfl,hq,q0,q⟩:=h
  obtain ⟨u,rfl,rx⟩:=vals1 r
  cases rx
  obtain ⟨v,rfl,td,rfl⟩:=vals1 rz
  obtain ⟨its,r',pl,hz⟩:=I.list hq
  have hi:=intsAre_of r'
  obtain ⟨ys,e⟩:=hi.allInts.items
  have hns:ns=ys.toList.map (·.1):=by rw [← hi.numsOf,← nums_intItems,← e]
  have pl':=pl.isList
  rw [e] at pl'
  have hname:(toString "max" ++ toString ".loop" : String) = "max.loop" := by decide
  have hh:X.A.handled=none:=I.ok.hd hc
  refine kmk_tree PySem.F.kind_max PySem.F.plain_max PySem.F.entry_max (args_maxD _ _) ?_
  show wpAny _ X.A.in1 (Builtin.Builtins.bindParams "max" ["key", "default"] 0 ⟨[],[(Str.ofString "default",.int d td)]⟩ >>= _) _ _ s
  refine wpAny_bind (wpAny_of_eq (show Builtin.Builtins.bindParams "max" ["key", "default"] 0 ⟨[],[(Str.ofString "default",.int d td)]⟩=pure [none,some (.int d td)] from rfl) ?_)
  refine wpAny_bind (wpAny_pure ?_)
  refine wpAny_bind (iter_intList pl' fun s2 e2 st hfp hlI => ?_)
  subst e2
  refine wpAny_bind (wpAny_newObj_type ?_)
  have W:=Walks.list (prog:=X.prog) (w:=X.w) (A:=X.A.in1) hh s.heap.objs.size p hlI (intItems ys)
  rw [hname]
  have old:∀ b o,s.heap.get? b=some o→b≠s.heap.objs.size:=fun b o e=>Nat.ne_of_lt (Heap.lt_size e)
  refine wpAny_pure ⟨plainId_quiet PySem.F.plain_max_loop _,?_⟩
  have hSf:(s.heap.push { cls:=.type "list_iterator",data:=.fields #[.ref p,.int 0 0] }).objs.size∉[s.heap.objs.size,p]:=fun hm=>Nat.lt_irrefl _ (hfp _ hm)
  have st':=W.frame 0 _ ((s.heap.push { cls:=.type "list_iterator",data:=.fields #[.ref p,.int 0 0] }).push { cls:=.type "list",dict:=none,data:=.seq ([]:List Value).toArray }) st fun b _ o e=>Heap.get?_push_of_some _ e
  by_cases hn:0 < ys.size
  · refine maxK_first _ W (fun i j => decide (numAt ys i > numAt ys j)) (CmpOf.ints_gt (numAt ys) (fun _ _ => intItems_at)) _ hSf (by simpa [intItems] using hn) st' (Heap.get?_push_size _ rfl) fun v h' tk hP hk => ?_
    have hv:(intItems ys)[argBest (fun i j=>decide (numAt ys i > numAt ys j)) (ys.size - 1)]? = some v:=by simpa [intItems] using hP
    obtain ⟨t,rfl⟩:=intItems_at hv
    obtain ⟨h1,h2⟩:=argBest_gt (numAt ys) (ys.size - 1)
    refine ⟨.int _,H,I.kept fun b o e=>hk b o (by simpa using old b o e) ?_ (Heap.get?_push_of_some _ (Heap.get?_push_of_some _ e)),⟨t,rfl⟩,q _ ?_ fun a ha => ?_⟩
    · have := Heap.lt_size e
      rw [Heap.size_push]
      exact Nat.ne_of_lt (Nat.lt_succ_of_lt this)
    · rw [hns, numAt_eq]
      exact getD_mem (by rw [List.length_map,Array.length_toList]; omega)
    · rw [hns] at ha
      obtain ⟨j,hj,rfl⟩:=mem_getD ha
      rw [List.length_map,Array.length_toList] at hj
      rw [← numAt_eq]
      exact h2 j (by omega)
  · have e0 : (intItems ys).size = 0 := by rw [intItems, Array.size_map]; omega
    rw [e0] at W
    refine maxK_none W _ hSf st' (Heap.get?_push_size _ rfl) fun h' tk hk => ?_
    refine ⟨.int d,H,I.kept fun b o e=>hk b o (by simpa using old b o e) (Heap.get?_push_of_some _ (Heap.get?_push_of_some _ e)),⟨td,rfl⟩,q0 ?_⟩
    rw [hns]
    have:ys.toList.length=0:=by rw [Array.length_toList]; omega
    rw [List.eq_nil_of_length_eq_zero this]
    rfl
theorem op_eqNil (hu:X.A.units < cLine):OpR X (compareOp .Eq) (fun x y H Q => ∃ p b xs,x=.ref p∧y=.ref b∧SqL X.K H p xs∧SqL X.K H b []∧Q (.bl xs.isEmpty) H):=by
  intro pins s σ H x y v u Q I rx ry h
  obtain ⟨p,b,xs,rfl,rfl,h1,h2,q⟩:=h
  cases rx
  cases ry
  obtain ⟨its,r1,p1,_⟩:=I.list h1
  obtain ⟨its2,r2,p2,_⟩:=I.list h2
  cases r2
  cases r1 with
  | nil=>exact PySem.SeqAt.eq_listAt (e:=fun _=>true) p1.isList p2.isList rfl hu (fun j a1=>absurd a1 (by simp)) ⟨.bl true,H,I,rfl,q⟩
  | cons ra rb=>exact PySem.SeqAt.eq_list_lengthsAt p1.isList p2.isList (by simp) hu ⟨.bl false,H,I,rfl,q⟩
theorem op_neNil (hu:X.A.units < cLine):OpR X (compareOp .NotEq) (fun x y H Q => ∃ p b xs,x=.ref p∧y=.ref b∧SqL X.K H p xs∧SqL X.K H b []∧Q (.bl (!xs.isEmpty)) H):=by
  intro pins s σ H x y v u Q I rx ry h
  obtain ⟨p,b,xs,rfl,rfl,h1,h2,q⟩:=h
  cases rx
  cases ry
  obtain ⟨its,r1,p1,_⟩:=I.list h1
  obtain ⟨its2,r2,p2,_⟩:=I.list h2
  cases r2
  cases r1 with
  | nil=>exact PySem.SeqAt.RcNeAt.lists (e:=fun _=>true) p1.isList p2.isList rfl hu (fun j a1=>absurd a1 (by simp)) _ _ _ _ ⟨.bl false,H,I,rfl,q⟩
  | cons ra rb=>exact PySem.SeqAt.RcNeAt.lists_lengths p1.isList p2.isList (by simp) hu _ _ _ _ ⟨.bl true,H,I,rfl,q⟩
theorem sl_str:SlR X (fun x lo hi H Q => ∃ z,x=.str z∧z.length≤sizeLine∧Q (.str (Txt.slice z lo hi)) H):=by
  intro pins s σ H x v vl vu lo hi sl Q I rx hs pl pu h
  obtain ⟨z,rfl,hz,q⟩:=h
  obtain ⟨t,rfl⟩:=rx
  refine ⟨"str",_,PySem.F.slot_str_getitem.lookup,typeIs_str _ _ _,?_⟩
  obtain ⟨o,h1,h2,h3⟩:=hs
  cases pl with
  | none =>
    cases pu with
    | none=>exact wpAny_getItem_str_slice (l:=none) (u:=none) (st:=none) ⟨o,h1,h2,h3⟩ rfl (post_val_or_str ⟨Nat.le_trans (Txt.slice_le z _ _) hz,fun t' k=>⟨.str _,H,I.tok _,⟨_,rfl⟩,q⟩⟩)
    | int j uj=>exact wpAny_getItem_str_slice (l:=none) (u:=some (j,uj)) (st:=none) ⟨o,h1,h2,h3⟩ rfl (post_val_or_str ⟨Nat.le_trans (Txt.slice_le z _ _) hz,fun t' k=>⟨.str _,H,I.tok _,⟨_,rfl⟩,q⟩⟩)
  | int i ui =>
    cases pu with
    | none=>exact wpAny_getItem_str_slice (l:=some (i,ui)) (u:=none) (st:=none) ⟨o,h1,h2,h3⟩ rfl (post_val_or_str ⟨Nat.le_trans (Txt.slice_le z _ _) hz,fun t' k=>⟨.str _,H,I.tok _,⟨_,rfl⟩,q⟩⟩)
    | int j uj=>exact wpAny_getItem_str_slice (l:=some (i,ui)) (u:=some (j,uj)) (st:=none) ⟨o,h1,h2,h3⟩ rfl (post_val_or_str ⟨Nat.le_trans (Txt.slice_le z _ _) hz,fun t' k=>⟨.str _,H,I.tok _,⟨_,rfl⟩,q⟩⟩)
theorem op_mul_str:OpR X (binaryOp .Mult) (fun x y H Q => ∃ z n,x=.str z∧y=.int n∧z.length≤1000∧0≤n∧n≤1000∧Q (.str (Txt.mul z n)) H):=by
  intro pins s σ H x y v u Q I rx ry h
  obtain ⟨z,n,rfl,rfl,hz,h0,h1,q⟩:=h
  obtain ⟨t,rfl⟩:=rx
  obtain ⟨t',rfl⟩:=ry
  exact SB.mul (mulOk_of 1000 1000 hz (by omega) (by omega) (by decide) (by decide)) fun t' k=>⟨.str _,H,I.tok _,⟨_,rfl⟩,q⟩
theorem strsAre_of {ys:List Str}:∀ {us:List Value},Vals (ys.map V.str) us→StrsAre us ys:=by
  induction ys with
  | nil=>intro us r; rw [List.map_nil] at r; cases r; exact .nil
  | cons n ns ih =>
    intro us r
    rw [List.map_cons] at r
    cases r with
    | cons r1 r2 =>
      obtain ⟨t,e⟩:=r1
      subst e
      exact .cons n t (ih r2)
theorem mt_join:MtR X "str.join" (fun x vs H Q => ∃ z p ys,x=.str z∧vs=[.ref p]∧SqL X.K H p (ys.map V.str)∧(ys.map (·.length)).sum + ys.length * z.length≤16777216∧Q (.str (Txt.join z ys)) H):=by
  intro pins s σ H x vs v us Q I rx rv h
  obtain ⟨z,p,ys,rfl,rfl,hq,hok,q⟩:=h
  obtain ⟨t,rfl⟩:=rx
  obtain ⟨u,rfl,ru⟩:=rv.one
  cases ru
  obtain ⟨its,r',pl,hz⟩:=I.list hq
  exact join_list pl.isList (by rw [List.toList_toArray]; exact strsAre_of r') hok fun t' k=>⟨.str _,H,I.tok _,⟨_,rfl⟩,q⟩
end
section
variable {prog:Program} {w:World} {A:Around} {E:SV_}
theorem draw_lst {it l:Addr} {items:Array Value} (hne:l≠it):∀ (n i:Nat) (s:Shared) (Q:List Value→Shared→Prop),s.heap.IsListIter it l i→s.heap.IsList l items→i + n≤items.size →
    (∀ h',h'.IsListIter it l (i + n)→Heap.SameBut it s.heap h'→Q ((items.toList.drop i).take n) { s with heap:=h' })→wpAny (model prog w) A (draw (.ref it) n) Q E s
  | 0, i, s, Q, hit, _, _, hQ => by
    show wpAny _ _ (pure []) Q E s; exact wpAny_pure (by simpa using hQ s.heap hit (Heap.SameBut.refl ..))
  | n + 1, i, s, Q, hit, ht, hle, hQ => by
    have hlt:i < items.size:=by omega
    show wpAny _ _ (pyNext (.ref it) >>= _) Q E s; refine wpAny_bind (wpAny_pyNext_list_item hit ht (x:=items[i]) (by simp [hlt]) fun h1 hit1 hs1 => ?_)
    refine wpAny_bind (wpAny_holding (draw_lst hne n (i + 1) _ _ hit1 (ht.extBut hs1.extBut hne) (by omega) fun h2 hit2 hs2=>wpAny_pure ?_))
    have hd:items.toList.drop i=items[i] :: items.toList.drop (i + 1):=by simp [List.drop_eq_getElem_cons,hlt]
    have z:=hQ h2 (by rw [show i + (n + 1)=i + 1 + n by omega]; exact hit2) (hs1.trans hs2)
    rw [hd,List.take_succ_cons] at z; exact z
theorem unpack_lst {s:Shared} {l:Addr} {items:Array Value} {Q:List Value→Shared→Prop} (hh:A.handled=none) (ht:s.heap.IsList l items)
    (hQ:∀ h',Heap.ExtBut s.heap.objs.size s.heap h'→Q items.toList { s with heap:=h' }):wpAny (model prog w) A (unpackItems (.ref l) items.size none) Q E s:=by
  have hlt:l≠s.heap.objs.size:=by obtain ⟨o,ho,_⟩:=ht; exact Nat.ne_of_lt (Heap.lt_size ho)
  unfold unpackItems; refine wpAny_bind ?_; unfold notIterableAtAll
  refine wpAny_bind (wpAny_specialOf ht.typeIs PySem.F.slot_list_iter.lookup ?_); refine wpAny_pure ?_; simp only [Bool.false_eq_true,if_false]
  refine wpAny_bind (wpAny_holding (wpAny_pyIter_list ht ?_))
  refine wpAny_bind (wpAny_holding (draw_lst hlt items.size 0 _ _ ⟨_,Heap.get?_push_size _ rfl,rfl,rfl⟩ (ht.push _) (by omega) fun h1 hit1 hs1 => ?_))
  have hall:List.take items.size (List.drop 0 items.toList)=items.toList:=by rw [List.drop_zero]; exact List.take_of_length_le (by simp)
  rw [hall,if_neg (by simp)]
  have ht1:h1.IsList l items:=(ht.push _).extBut hs1.extBut hlt
  refine wpAny_bind (wpAny_holding (wpAny_pyNext_list_end hh hit1 ht1 (by simp) fun h2 he2 => ?_)); simp only [Option.isSome_none,Bool.false_eq_true,if_false]
  exact wpAny_pure (hQ h2 fun b o hb e=>he2 b o hb (hs1.extBut b o hb (Heap.get?_push_of_some _ e)))
end
def gLst (K:FG_) (n:Nat) (t:TGs):TG:=fun v σ H Q => ∃ a xs,v=.ref a∧SqL K H a xs∧xs.length=n∧t xs σ H Q
theorem pg_lst {X:Cx} {pos:Pos} {es:List Expr} {k:Nat} {t:TGs} {n:Nat} (hc:X.calm=true) (h:PGs X es t) (hn:(assignEach es X.env).length=n:=by rfl) (hst:(assignEach es X.env).findIdx? (·.1)=none:=by rfl):PG X (.Tuple es k pos) (gLst X.K n t):=by
  intro pins s σ H v u Q I r hw
  obtain ⟨a,xs,e1,hq,hl,hw⟩:=hw
  subst e1
  cases r
  obtain ⟨its,rv,ht,hz⟩:=I.list hq
  rw [assign_Tuple]
  refine wpAny_bind (wpAny_standAt ?_)
  unfold unpack
  have hlen:(assignEach es X.env).length=its.toArray.size:=by rw [List.size_toArray,hn,← hl,rv.length]
  rw [hlen,hst]
  refine wpAny_bind (wpAny_holding (unpack_lst (I.ok.hd hc) ht.isList fun h' hx => ?_))
  have I1:Inv X pins σ H { s with heap:=h' }:=I.kept (t':=s.toks) fun b o e=>hx b o (Nat.ne_of_lt (Heap.lt_size e)) e
  exact h pins _ σ H xs _ Q I1 (by simpa using rv) hw
theorem tgt_lst {K:FG_} {n k:Nat} {t:TGs} (h:Tgts n t):Tgt n (gLst K k t):=fun x σ H Q ⟨a,xs,e,hq,hl,q⟩=>⟨a,xs,e,hq,hl,h xs σ H Q q⟩
section
variable {X:Cx} (K:FG_) (h:X.K=K:=by rfl)
include h
theorem ix_tupK:IxR X (rIxT K):=h ▸ ix_tup
theorem ix_listK:IxR X (rIxL K):=h ▸ dd_
theorem sl_listK:SlR X (rSlL K):=h ▸ sl_list
theorem pg_tupK {pos:Pos} {es:List Expr} {k:Nat} {t:TGs} {n:Nat} (hc:X.calm=true) (hh:PGs X es t) (hn:(assignEach es X.env).length=n:=by rfl) (hst:(assignEach es X.env).findIdx? (·.1)=none:=by rfl):PG X (.Tuple es k pos) (gTup K n t):=h ▸ fg_ hc hh hn hst
theorem pg_lstK {pos:Pos} {es:List Expr} {k:Nat} {t:TGs} {n:Nat} (hc:X.calm=true) (hh:PGs X es t) (hn:(assignEach es X.env).length=n:=by rfl) (hst:(assignEach es X.env).findIdx? (·.1)=none:=by rfl):PG X (.Tuple es k pos) (gLst K n t):=h ▸ pg_lst hc hh hn hst
end
def tMid (t:TS):TS:=fun D σ H => ∃ P:St→Hp→Prop,t { D with nx:=P } σ H∧∀ σ' H',P σ' H'→D.nx σ' H'
theorem ps_mid {X:Cx} {st:Stmt} {t:TS} (h:PS X st t):PS X st (tMid t):=by
  intro pins s σ H D I ⟨P,h1,h2⟩
  refine thn (h pins s σ H _ I h1) fun f s' q => ?_
  cases f with
  | next=>obtain ⟨σ',H',I',q'⟩:=q; exact ⟨σ',H',I',h2 _ _ q'⟩
  | brk=>exact q
  | cont=>exact q
  | ret u=>exact q
def rMaxL (K:FG_):List V→Hp→VK→Prop:=fun xs H Q => ∃ p ns,xs=[.ref p]∧SqL K H p (ns.map V.int)∧ns≠[]∧∀ M,M∈ns→(∀ a∈ns,a≤M)→Q (.int M) H
theorem call_maxR {X:Cx} (hc:X.calm=true):CallR X (.builtin "max") (rMaxL X.K):=call_maxL hc
end L2
namespace Lf
open PySem
inductive Kd where
  | num (w m:Int)
  | row (k:Kd) (n:Int)
  | rcd (fs:List (Str×Kd))
  | cho (ks:List Kd)
def up (n m:Int):Int:=(n + m - 1) / m * m
theorem up_eq {n m:Int} (hm:0 < m):up n m=n + m - 1 - (n + m - 1) % m:=by
  have:=Int.mul_ediv_add_emod (n + m - 1) m
  rw [Int.mul_comm] at this
  unfold up
  omega
theorem ao_ {n m:Int} (hm:0 < m):n≤up n m∧up n m < n + m:=by
  have a:=Int.emod_nonneg (n + m - 1) (Int.ne_of_gt hm)
  have b:=Int.emod_lt_of_pos (n + m - 1) hm
  rw [up_eq hm]
  omega
theorem up_mod {n m:Int}:up n m % m=0:=Int.mul_emod_left _ _
def upL (n m:Int):Int:=if n % m=0 then n else n + m - n % m
theorem mod_unique {a b m:Int} (hm:0 < m) (ha:a % m=0) (hb:b % m=0) (h1:a - b < m) (h2:b - a < m):a=b:=by
  have h:(a - b) % m=0:=by rw [Int.sub_emod,ha,hb]; simp
  obtain ⟨c,hc⟩:=Int.dvd_of_emod_eq_zero h
  by_cases c0:c=0
  · subst c0; omega
  · rcases Int.lt_or_gt_of_ne c0 with c1 | c1
    · have : m * c ≤ m * (-1) := Int.mul_le_mul_of_nonneg_left (by omega) (by omega)
      omega
    · have : m * 1 ≤ m * c := Int.mul_le_mul_of_nonneg_left (by omega) (by omega)
      omega
theorem upL_eq {n m:Int} (hm:0 < m):upL n m=up n m:=by
  have a:=Int.emod_nonneg n (Int.ne_of_gt hm)
  have b:=Int.emod_lt_of_pos n hm
  obtain ⟨c,d⟩:=ao_ (n:=n) hm
  refine mod_unique hm ?_ up_mod ?_ ?_
  · unfold upL
    split
    · assumption
    · have e : n + m - n % m = (n - n % m) + m := by omega
      rw [e,Int.add_emod_right,Int.sub_emod]
      simp
  · unfold upL; split <;> omega
  · unfold upL; split <;> omega
def maxL (d:Int) (l:List Int):Int:=l.foldr max d
theorem hb_ {d:Int}:∀ {l:List Int} {a:Int},a∈l→a≤maxL d l
  | b :: r, a, h => by
    show a≤max b (maxL d r)
    rcases List.mem_cons.mp h with rfl | h
    · exact Int.le_max_left _ _
    · exact Int.le_trans (hb_ h) (Int.le_max_right _ _)
theorem maxL_is {d M:Int} {l:List Int} (hm:M∈l) (hd:d≤M) (hM:∀ a∈l,a≤M):M=maxL d l:=by
  refine Int.le_antisymm (hb_ hm) ?_
  clear hm
  induction l with
  | nil=>exact hd
  | cons b r ih =>
    show max b (maxL d r)≤M
    exact Int.max_le.mpr ⟨hM b List.mem_cons_self,ih fun a ha=>hM a (List.mem_cons_of_mem _ ha)⟩
def ends (e:Int):List (Int×Int)→List Int
  | []=>[]
  | r :: rs=>(up e r.2 + r.1) :: ends (up e r.2 + r.1) rs
def lastEnd (e:Int):List (Int×Int)→Int
  | []=>e
  | r :: rs=>lastEnd (up e r.2 + r.1) rs
def plcs (e:Int):List (Int×Int)→List Int
  | []=>[]
  | r :: rs=>up e r.2 :: plcs (up e r.2 + r.1) rs
def Rms (rs:List (Int×Int)):Prop := ∀ r∈rs,0≤r.1∧0 < r.2
theorem fs_:∀ {rs:List (Int×Int)} {e:Int},Rms rs→e≤lastEnd e rs
  | [],e,_=>Int.le_refl e
  | r :: rs, e, h => by
    obtain ⟨a,b⟩:=h r List.mem_cons_self
    have:=fs_ (rs:=rs) (e:=up e r.2 + r.1) fun x hx=>h x (List.mem_cons_of_mem _ hx)
    have:=(ao_ (n:=e) b).1
    show e≤lastEnd (up e r.2 + r.1) rs
    omega
theorem ends_max:∀ {rs:List (Int×Int)} {e:Int},Rms rs→rs≠[]→lastEnd e rs∈ends e rs∧∀ a∈ends e rs,a≤lastEnd e rs
  | [],_,_,h=>absurd rfl h
  | [r], e, h, _ => by
    refine ⟨List.mem_cons_self,fun a ha => ?_⟩
    rcases List.mem_cons.mp ha with rfl | ha
    · exact Int.le_refl _
    · cases ha
  | r :: s :: rs, e, h, _ => by
    have ih:=ends_max (rs:=s :: rs) (e:=up e r.2 + r.1) (fun x hx=>h x (List.mem_cons_of_mem _ hx)) (by simp)
    refine ⟨List.mem_cons_of_mem _ ih.1,fun a ha => ?_⟩
    rcases List.mem_cons.mp ha with rfl | ha
    · exact fs_ (rs:=s :: rs) fun x hx=>h x (List.mem_cons_of_mem _ hx)
    · exact ih.2 a ha
theorem cu_:∀ (rs:List (Int×Int)) (e:Int),(plcs e rs).length=rs.length
  | [],_=>rfl
  | r :: rs,e=>by show (plcs _ rs).length + 1=_; rw [cu_ rs]; rfl
theorem plcs_snoc:∀ (rs:List (Int×Int)) (r:Int×Int) (e:Int),plcs e (rs ++ [r])=plcs e rs ++ [up (lastEnd e rs) r.2]
  | [],_,_=>rfl
  | s :: rs,r,e=>by show up e s.2 :: plcs _ (rs ++ [r])=up e s.2 :: (plcs _ rs ++ _); rw [plcs_snoc rs]; rfl
theorem fk_:∀ (rs:List (Int×Int)) (r:Int×Int) (e:Int),lastEnd e (rs ++ [r])=up (lastEnd e rs) r.2 + r.1
  | [],_,_=>rfl
  | s :: rs,r,e=>fk_ rs r _
theorem ends_zip:∀ (rs:List (Int×Int)) (e:Int),ends e rs=((plcs e rs).zip rs).map fun p=>p.1 + p.2.1
  | [],_=>rfl
  | r :: rs,e=>by show _ :: ends _ rs=_ :: _; rw [ends_zip rs]; rfl
def rcdRm (rs:List (Int×Int)):Int×Int:=(up (lastEnd 0 rs) (maxL 1 (rs.map (·.2))),maxL 1 (rs.map (·.2)))
def choRm (rs:List (Int×Int)):Int×Int:=(up (up 1 (maxL 1 (rs.map (·.2))) + maxL 0 (rs.map (·.1))) (maxL 1 (rs.map (·.2))),maxL 1 (rs.map (·.2)))
mutual
def Kd.rm:Kd→Int×Int
  | .num w m=>(w,m)
  | .row k n=>(n * up k.rm.1 k.rm.2,k.rm.2)
  | .rcd fs=>rcdRm (rmF fs)
  | .cho ks=>choRm (rmK ks)
def rmF:List (Str×Kd)→List (Int×Int)
  | []=>[]
  | f :: r=>f.2.rm :: rmF r
def rmK:List Kd→List (Int×Int)
  | []=>[]
  | k :: r=>k.rm :: rmK r
end
mutual
def Kd.deep:Kd→Nat
  | .num _ _=>1
  | .row k _=>k.deep + 1
  | .rcd fs=>deepF fs + 1
  | .cho ks=>deepK ks + 1
def deepF:List (Str×Kd)→Nat
  | []=>0
  | f :: r=>max f.2.deep (deepF r)
def deepK:List Kd→Nat
  | []=>0
  | k :: r=>max k.deep (deepK r)
end
mutual
def Kd.Ok:Kd→Prop
  | .num w m=>1≤w∧w≤8∧1≤m∧m≤8
  | .row k n=>k.Ok∧0≤n∧n≤100
  | .rcd fs=>okF fs∧fs.length≤10
  | .cho ks=>okK ks∧ks.length≤10
def okF:List (Str×Kd)→Prop
  | []=>True
  | f :: r=>f.2.Ok∧okF r
def okK:List Kd→Prop
  | []=>True
  | k :: r=>k.Ok∧okK r
end
theorem maxL_le {d M:Int}:∀ {l:List Int},d≤M→(∀ a∈l,a≤M)→maxL d l≤M
  | [],hd,_=>hd
  | b :: r,hd,h=>Int.max_le.mpr ⟨h b List.mem_cons_self,maxL_le hd fun a ha=>h a (List.mem_cons_of_mem _ ha)⟩
theorem ed_ {d:Int}:∀ (l:List Int),d≤maxL d l
  | []=>Int.le_refl _
  | b :: r=>Int.le_trans (ed_ r) (Int.le_max_right _ _)
def Bd (B:Int) (r:Int×Int):Prop:=0≤r.1∧r.1≤B∧1≤r.2∧r.2≤8
theorem dm_ {B:Int}:∀ {rs:List (Int×Int)} {e:Int},0≤e→(∀ r∈rs,Bd B r)→0≤lastEnd e rs∧lastEnd e rs≤e + (rs.length:Int) * (B + 8)
  | [],e,h0,_=>⟨h0,by simp [lastEnd]⟩
  | r :: rs, e, h0, h => by
    obtain ⟨a,b,c,d⟩:=h r List.mem_cons_self
    obtain ⟨u1,u2⟩:=ao_ (n:=e) (m:=r.2) (by omega)
    have ih:=dm_ (B:=B) (rs:=rs) (e:=up e r.2 + r.1) (by omega) fun x hx=>h x (List.mem_cons_of_mem _ hx)
    refine ⟨ih.1,?_⟩
    show lastEnd (up e r.2 + r.1) rs≤_
    have e1:((r :: rs).length:Int) * (B + 8)=(rs.length:Int) * (B + 8) + (B + 8):=by
      rw [List.length_cons]
      push_cast
      rw [Int.add_mul]
      omega
    rw [e1]
    omega
theorem mx_bd {B:Int} {rs:List (Int×Int)} (h:∀ r∈rs,Bd B r):1≤maxL 1 (rs.map (·.2))∧maxL 1 (rs.map (·.2))≤8 :=
  ⟨ed_ _,maxL_le (by decide) fun a ha=>by obtain ⟨r,hr,rfl⟩:=List.mem_map.mp ha; exact (h r hr).2.2.2⟩
theorem rcd_bd {B:Int} {rs:List (Int×Int)} (h:∀ r∈rs,Bd B r) (hl:rs.length≤10) (hB:0≤B):Bd (1000 * (B + 8)) (rcdRm rs):=by
  obtain ⟨a,b⟩:=mx_bd h
  obtain ⟨c,d⟩:=dm_ (e:=0) (by omega) h
  obtain ⟨u1,u2⟩:=ao_ (n:=lastEnd 0 rs) (m:=maxL 1 (rs.map (·.2))) (by omega)
  have:(rs.length:Int) * (B + 8)≤10 * (B + 8):=Int.mul_le_mul_of_nonneg_right (by omega) (by omega)
  exact ⟨by show 0≤up _ _; omega,by show up _ _≤_; omega,a,b⟩
theorem cho_bd {B:Int} {rs:List (Int×Int)} (h:∀ r∈rs,Bd B r) (hB:0≤B):Bd (1000 * (B + 8)) (choRm rs):=by
  obtain ⟨a,b⟩:=mx_bd h
  have c:0≤maxL 0 (rs.map (·.1)):=ed_ _
  have d:maxL 0 (rs.map (·.1))≤B:=maxL_le hB fun z hz=>by obtain ⟨r,hr,rfl⟩:=List.mem_map.mp hz; exact (h r hr).2.1
  obtain ⟨u1,u2⟩:=ao_ (n:=1) (m:=maxL 1 (rs.map (·.2))) (by omega)
  obtain ⟨v1,v2⟩:=ao_ (n:=up 1 (maxL 1 (rs.map (·.2))) + maxL 0 (rs.map (·.1))) (m:=maxL 1 (rs.map (·.2))) (by omega)
  exact ⟨by show 0≤up _ _; omega,by show up _ _≤_; omega,a,b⟩
def bnd:Nat→Int
  | 0=>0
  | n + 1=>1000 * (bnd n + 8)
theorem ft_:∀ n,0≤bnd n
  | 0=>Int.le_refl _
  | n + 1=>by have:=ft_ n; show 0≤1000 * (bnd n + 8); omega
theorem gs_ {n m:Nat} (h:n≤m):bnd n≤bnd m:=by
  induction m with
  | zero=>cases (Nat.le_zero.mp h); exact Int.le_refl _
  | succ m ih =>
    by_cases e:n=m + 1
    · subst e; exact Int.le_refl _
    · have := ih (by omega)
      have:=ft_ m
      show bnd n≤1000 * (bnd m + 8)
      omega
theorem Bd.mono {B C:Int} {r:Int×Int} (h:Bd B r) (hb:B≤C):Bd C r:=⟨h.1,Int.le_trans h.2.1 hb,h.2.2⟩
mutual
theorem Kd.bd:∀ (k:Kd),k.Ok→Bd (bnd k.deep) k.rm
  | .num w m, h => by
    obtain ⟨a,b,c,d⟩:=h
    refine ⟨by show 0≤w; omega,?_,c,d⟩
    show w≤1000 * (0 + 8)
    omega
  | .row k n, h => by
    obtain ⟨hk,h0,h1⟩:=h
    obtain ⟨a,b,c,d⟩:=Kd.bd k hk
    obtain ⟨u1,u2⟩:=ao_ (n:=k.rm.1) (m:=k.rm.2) (by omega)
    refine ⟨Int.mul_nonneg h0 (by omega),?_,c,d⟩
    have e1:n * up k.rm.1 k.rm.2≤100 * up k.rm.1 k.rm.2:=Int.mul_le_mul_of_nonneg_right h1 (by omega)
    show n * up k.rm.1 k.rm.2≤1000 * (bnd k.deep + 8)
    omega
  | .rcd fs, h => by
    refine rcd_bd (rs:=rmF fs) (bdF fs h.1) ?_ (ft_ _)
    have:(rmF fs).length=fs.length:=lenF fs
    rw [this]; exact h.2
  | .cho ks,h=>cho_bd (rs:=rmK ks) (bdK ks h.1) (ft_ _)
theorem bdF:∀ (fs:List (Str×Kd)),okF fs→∀ r∈rmF fs,Bd (bnd (deepF fs)) r
  | [],_,_,h=>nomatch h
  | f :: fs, h, r, hr => by
    have hr':r∈f.2.rm :: rmF fs:=hr
    rcases List.mem_cons.mp hr' with rfl | hr'
    · exact (Kd.bd f.2 h.1).mono (gs_ (Nat.le_max_left _ _))
    · exact (bdF fs h.2 r hr').mono (gs_ (Nat.le_max_right _ _))
theorem bdK:∀ (ks:List Kd),okK ks→∀ r∈rmK ks,Bd (bnd (deepK ks)) r
  | [],_,_,h=>nomatch h
  | k :: ks, h, r, hr => by
    have hr':r∈k.rm :: rmK ks:=hr
    rcases List.mem_cons.mp hr' with rfl | hr'
    · exact (Kd.bd k h.1).mono (gs_ (Nat.le_max_left _ _))
    · exact (bdK ks h.2 r hr').mono (gs_ (Nat.le_max_right _ _))
theorem lenF:∀ (fs:List (Str×Kd)),(rmF fs).length=fs.length
  | []=>rfl
  | f :: fs=>by show (rmF fs).length + 1=_; rw [lenF fs]; rfl
end
theorem lenK:∀ (ks:List Kd),(rmK ks).length=ks.length
  | []=>rfl
  | f :: fs=>by show (rmK fs).length + 1=_; rw [lenK fs]; rfl
inductive Dt where
  | int (i:Int)
  | str (x:Str)
  | bl (b:Bool)
  | tup (ds:List Dt)
  | lst (ds:List Dt)
mutual
def Kd.dt:Kd→Dt
  | .num w m=>.tup [.str "number",.int w,.int m]
  | .row k n=>.tup [.str "row",k.dt,.int n]
  | .rcd fs=>.tup [.str "record",.lst (dtF fs)]
  | .cho ks=>.tup [.str "choice",.lst (dtK ks)]
def dtF:List (Str×Kd)→List Dt
  | []=>[]
  | f :: r=>.tup [.str f.1,f.2.dt] :: dtF r
def dtK:List Kd→List Dt
  | []=>[]
  | k :: r=>k.dt :: dtK r
end
theorem Kd.deep_pos:∀ k:Kd,1≤k.deep
  | .num _ _=>Nat.le_refl _
  | .row k _=>Nat.le_add_left 1 k.deep
  | .rcd fs=>Nat.le_add_left 1 (deepF fs)
  | .cho ks=>Nat.le_add_left 1 (deepK ks)
end Lf
namespace Lf
open PySem L2
theorem ea_ {H:Hp} {p:Addr} (h:H p=none) (o:HO):Same H (upd H p o):=fun b u q=>by rw [al_ (ax_ q h)]; exact q
def hide (p:Addr) (H:Hp):Hp:=fun b=>if b=p then none else H b
theorem gc_ {p b:Addr} {H:Hp} (h:b≠p):hide p H b=H b:=if_neg h
theorem iv_ {p b:Addr} {H:Hp} {o:HO} (h:hide p H b=some o):b≠p∧H b=some o:=by
  by_cases e:b=p
  · subst e; rw [show hide b H b=none from if_pos rfl] at h; cases h
  · rw [gc_ e] at h; exact ⟨e,h⟩
theorem hide_same {p:Addr} {H H':Hp} (e:Same H H'):Same (hide p H) (hide p H'):=fun b o h=>by
  obtain ⟨n,q⟩:=iv_ h
  rw [gc_ n]
  exact e b o q
abbrev SameX (p:Addr) (H H':Hp):Prop:=Same (hide p H) (hide p H')
theorem SameX.upd (p:Addr) (H:Hp) (o:HO):SameX p H (L2.upd H p o):=fun b u h=>by
  obtain ⟨n,q⟩:=iv_ h
  rw [gc_ n,al_ n]
  exact q
theorem SameX.get {p b:Addr} {H H':Hp} {o:HO} (e:SameX p H H') (n:b≠p) (h:H b=some o):H' b=some o:=by
  have:=e b o (by rw [gc_ n]; exact h)
  rw [gc_ n] at this
  exact this
theorem SameX.of {p:Addr} {H H':Hp} (e:Same H H'):SameX p H H':=hide_same e
theorem atI_in {α:Type} {xs:List α} {i:Int} (h0:0≤i) (h1:i < (xs.length:Int)):∃ v,atI xs i=some v∧v∈xs:=by
  have hk:i.toNat < xs.length:=by omega
  have ek:((i.toNat:Nat):Int)=i:=by omega
  have q:atI xs ((i.toNat:Nat):Int)=some xs[i.toNat]:=gd_ (List.getElem?_eq_getElem hk)
  rw [ek] at q
  exact ⟨_,q,List.getElem_mem _⟩
theorem lists3 (n:Nat) (h:n≤1000):n≤sizeLine:=Nat.le_of_lt (small1000 h)
end Lf
namespace L2
open PySem PySem.Spec PyProof.Rows
section
variable {κ:Type} [DecidableEq κ]
def valV (kvs:List (κ×V)) (k:κ):Option V:=(kvs.find? fun kv=>decide (kv.1=k)).map (·.2)
def putK (kvs:List (κ×V)) (k:κ) (v:V):List (κ×V) :=
  if (kvs.any fun kv=>decide (kv.1=k))=true then kvs.map (fun kv=>if kv.1=k then (kv.1,v) else kv) else kvs ++ [(k,v)]
theorem hl_ {p:κ×V} {r:List (κ×V)} {k:κ} (e:p.1=k):valV (p :: r) k=some p.2:=by simp [valV,List.find?_cons,e]
theorem hm_ {p:κ×V} {r:List (κ×V)} {k:κ} (e:¬ p.1=k):valV (p :: r) k=valV r k:=by simp [valV,List.find?_cons,e]
theorem valV_any (k:κ):∀ kvs:List (κ×V),(kvs.any fun kv=>decide (kv.1=k))=(valV kvs k).isSome
  | []=>rfl
  | p :: r => by
    rw [List.any_cons]
    by_cases e:p.1=k
    · simp only [hl_ e,decide_eq_true e,Bool.true_or,Option.isSome_some]
    · rw [hm_ e,decide_eq_false e,Bool.false_or]; exact valV_any k r
theorem in_ (kvs:List (κ×V)) (k:κ) (v:V):(putK kvs k v).length≤kvs.length + 1:=by
  unfold putK
  split
  · rw [List.length_map]; omega
  · rw [List.length_append,List.length_cons,List.length_nil]; omega
theorem RelO.isSome_eq {o:Option V} {u:Option Value} (r:RelO o u):o.isSome=u.isSome:=by
  cases o with
  | none => cases u with
    | none=>rfl
    | some _=>exact (show False from r).elim
  | some _ => cases u with
    | none=>exact (show False from r).elim
    | some _=>rfl
theorem RelO.getD {o:Option V} {u:Option Value} {d:V} {d':Value} (r:RelO o u) (rd:RelV d d'):RelV (o.getD d) (u.getD d'):=by
  cases o with
  | none => cases u with
    | none=>exact rd
    | some _=>exact (show False from r).elim
  | some _ => cases u with
    | none=>exact (show False from r).elim
    | some _=>exact r
theorem KV.val {kvs:List (κ×V)} {vs:List (κ×Value)} (r:KV kvs vs) (k:κ):RelO (valV kvs k) (valueAt vs k):=by
  unfold KV at r
  induction r with
  | nil=>exact True.intro
  | @cons p q ps qs h t ih =>
    obtain ⟨h1,h2⟩:=h
    by_cases e:p.1=k
    · have e' : q.1 = k := h1.symm.trans e
      have b:valueAt (q :: qs) k=some q.2:=by simp [valueAt,List.find?_cons,e']
      rw [hl_ e,b]; exact h2
    · have e' : ¬ q.1 = k := fun z => e (h1.trans z)
      have b:valueAt (q :: qs) k=valueAt qs k:=by simp [valueAt,List.find?_cons,e']
      rw [hm_ e,b]; exact ih
theorem KV.any {kvs:List (κ×V)} {vs:List (κ×Value)} (r:KV kvs vs) (k:κ):(kvs.any fun kv=>decide (kv.1=k))=vs.any fun kv=>decide (kv.1=k):=by
  unfold KV at r
  induction r with
  | nil=>rfl
  | cons h t ih=>rw [List.any_cons,List.any_cons,ih,h.1]
theorem KV.repl {kvs:List (κ×V)} {vs:List (κ×Value)} (r:KV kvs vs) (k:κ) {y:V} {u:Value} (ry:RelV y u) :
    KV (kvs.map fun kv=>if kv.1=k then (kv.1,y) else kv) (vs.map fun kv=>if kv.1=k then (kv.1,u) else kv):=by
  unfold KV at r ⊢
  induction r with
  | nil=>exact .nil
  | @cons p q ps qs h t ih =>
    rw [List.map_cons,List.map_cons]
    refine .cons ?_ ih
    obtain ⟨h1,h2⟩:=h
    by_cases e:p.1=k
    · rw [if_pos e,if_pos (h1.symm.trans e)]; exact ⟨h1,ry⟩
    · rw [if_neg e,if_neg (fun z=>e (h1.trans z))]; exact ⟨h1,h2⟩
theorem KV.put {kvs:List (κ×V)} {vs:List (κ×Value)} (r:KV kvs vs) (k:κ) {y:V} {u:Value} (ry:RelV y u):KV (putK kvs k y) (stored vs k u):=by
  unfold putK stored
  rw [r.any k]
  by_cases e:(vs.any fun kv=>decide (kv.1=k))=true
  · rw [if_pos e,if_pos e]; exact r.repl k ry
  · rw [if_neg e,if_neg e]; exact Paired.snoc r ⟨rfl,ry⟩
theorem KV.length {kvs:List (κ×V)} {vs:List (κ×Value)} (r:KV kvs vs):kvs.length=vs.length:=Paired.length r
end
theorem kV_is {P:Program} {w:World} {k:Key} {u:Value} (r:RelV (kV k) u):(mixKind P w).is k u=true:=by
  cases k with
  | inl i=>obtain ⟨t,e⟩:=(show ∃ t,u=Value.int i t from r); subst e; exact mixKind_int P w i t
  | inr x=>obtain ⟨t,e⟩:=(show ∃ t,u=Value.str x t from r); subst e; exact mixKind_str P w x t
theorem items_are {P:Program} {w:World}:∀ {ks:List Key} {us:List Value},Vals (ks.map kV) us→ItemsAre (mixKind P w) ks us
  | [],_,r=>by rw [List.map_nil] at r; cases r; exact .nil
  | k :: ks, _, r => by
    rw [List.map_cons] at r
    cases r with
    | cons h t=>exact .cons (kV_is h) (items_are t)
abbrev KT (H:Hp):List (List Key×V)→List (List Key×Addr×Value)→Prop:=Paired fun p q=>p.1=q.1∧H q.2.1=some (.tup (p.1.map kV))∧RelV p.2 q.2.2
theorem KT.val {H:Hp} {kvs:List (List Key×V)} {xs:List (List Key×Addr×Value)} (r:KT H kvs xs) (k:List Key):RelO (valV kvs k) ((atKey xs k).map (·.2)):=by
  induction r with
  | nil=>exact True.intro
  | @cons p q ps qs h t ih =>
    obtain ⟨h1,_,h2⟩:=h
    by_cases e:p.1=k
    · have e' : q.1 = k := h1.symm.trans e
      have b:atKey (q :: qs) k=some q.2:=by simp [atKey,List.find?_cons,e']
      rw [hl_ e,b]; exact h2
    · have e' : ¬ q.1 = k := fun z => e (h1.trans z)
      have b:atKey (q :: qs) k=atKey qs k:=by simp [atKey,List.find?_cons,e']
      rw [hm_ e,b]; exact ih
theorem KT.repl {H:Hp} {kvs:List (List Key×V)} {xs:List (List Key×Addr×Value)} (r:KT H kvs xs) (k:List Key) {y:V} {u:Value} (ry:RelV y u) :
    KT H (kvs.map fun kv=>if kv.1=k then (kv.1,y) else kv) (xs.map (putAt k u)):=by
  induction r with
  | nil=>exact .nil
  | @cons p q ps qs h t ih =>
    rw [List.map_cons,List.map_cons]
    refine .cons ?_ ih
    obtain ⟨h1,h2,h3⟩:=h
    unfold putAt
    by_cases e:p.1=k
    · rw [if_pos e,if_pos (h1.symm.trans e)]; exact ⟨h1,h2,ry⟩
    · rw [if_neg e,if_neg (fun z=>e (h1.trans z))]; exact ⟨h1,h2,h3⟩
theorem KT.put {H:Hp} {kvs:List (List Key×V)} {xs:List (List Key×Addr×Value)} (r:KT H kvs xs) (k:List Key) {b:Addr} {y:V} {u:Value} (hb:H b=some (.tup (k.map kV))) (ry:RelV y u) :
    KT H (putK kvs k y) (storedH xs k b u):=by
  have e:(kvs.any fun kv=>decide (kv.1=k))=(atKey xs k).isSome:=by
    rw [valV_any,(r.val k).isSome_eq,Option.isSome_map]
  unfold putK storedH
  rw [e]
  by_cases q:(atKey xs k).isSome=true
  · rw [if_pos q,if_pos q]; exact r.repl k ry
  · rw [if_neg q,if_neg q]; exact Paired.snoc r ⟨rfl,hb,ry⟩
theorem KT.keeps {H H':Hp} {kvs:List (List Key×V)} {xs:List (List Key×Addr×Value)} (r:KT H kvs xs) (ht:∀ b ys,H b=some (.tup ys)→H' b=some (.tup ys)):KT H' kvs xs :=
  Paired.mapP r fun _ _ z=>⟨z.1,ht _ _ z.2.1,z.2.2⟩
section
variable {P:Program} {w:World} {H:Hp} {h:Heap} {a:Addr}
theorem rd_of {u:HO} (ok:HOk P w H h) (e:Rd H a u):ObjOk P w H h a u:=e.ok ok
theorem dk_rd {kvs:List (Key×V)} (ok:HOk P w H h) (e:Rd H a (.dK kvs)):kvs.length≤sizeLine∧(a == sysModules)=false∧∃ vs,KV kvs vs∧h.DictOf (mixKind P w) a vs :=
  show ObjOk P w H h a (.dK kvs) from rd_of ok e
theorem dk_of {kvs:List (Key×V)} (ok:HOk P w H h) (e:H a=some (.dK kvs)):kvs.length≤sizeLine∧(a == sysModules)=false∧∃ vs,KV kvs vs∧h.DictOf (mixKind P w) a vs:=dk_rd ok (.inl e)
theorem key_of {ks:List Key} (ok:HOk P w H h) (e:H a=some (.tup (ks.map kV))):(tupleKind (mixKind P w)).is h ks a:=by
  obtain ⟨_,its,r,o,h1,h2,n,h3⟩:=(show ObjOk P w H h a (.tup (ks.map kV)) from ok a _ e)
  exact ⟨o,its.toArray,n,h1,h2,h3,by simpa using items_are r⟩
theorem dt_rd {kvs:List (List Key×V)} (ok:HOk P w H h) (e:Rd H a (.dT kvs)):kvs.length≤sizeLine∧(a == sysModules)=false ∧
    ∃ xs,KT H kvs xs∧h.DictOfH (tupleKind (mixKind P w)) a xs:=by
  obtain ⟨z,y,xs,r,o,es,ep,h1,h2,h3,h4,h5⟩:=(show ObjOk P w H h a (.dT kvs) from rd_of ok e)
  refine ⟨z,y,xs,r,o,es,ep,h1,h2,h3,h4,fun x hx => ?_,h5⟩
  have all:∀ {l:List (List Key×V)} {m:List (List Key×Addr×Value)},KT H l m→∀ x∈m,(tupleKind (mixKind P w)).is h x.1 x.2.1:=by
    intro l m q
    induction q with
    | nil=>intro x hx; exact nomatch hx
    | @cons p q ps qs hq t ih =>
      intro x hx
      rcases List.mem_cons.mp hx with e | hx
      · subst e
        exact key_of ok (by rw [← hq.1]; exact hq.2.1)
      · exact ih x hx
  exact all r x hx
theorem dt_of {kvs:List (List Key×V)} (ok:HOk P w H h) (e:H a=some (.dT kvs)):kvs.length≤sizeLine∧(a == sysModules)=false ∧
    ∃ xs,KT H kvs xs∧h.DictOfH (tupleKind (mixKind P w)) a xs:=dt_rd ok (.inl e)
end
def DGet (H:Hp) (a:Addr) (y:V) (r:Option V):Prop :=
  (∃ kvs k,Rd H a (.dK kvs)∧y=kV k∧r=valV kvs k)∨∃ kvs k b,Rd H a (.dT kvs)∧y=.ref b∧H b=some (.tup (k.map kV))∧r=valV kvs k
def DPut (H:Hp) (a:Addr) (y v:V) (H':Hp):Prop :=
  (∃ kvs k,H a=some (.dK kvs)∧y=kV k∧kvs.length < sizeLine∧H'=upd H a (.dK (putK kvs k v))) ∨
  ∃ kvs k b,H a=some (.dT kvs)∧y=.ref b∧H b=some (.tup (k.map kV))∧kvs.length < sizeLine∧H'=upd H a (.dT (putK kvs k v))
theorem DGet.k {H:Hp} {a:Addr} {kvs:List (Key×V)} {k:Key} (e:H a=some (.dK kvs)):DGet H a (kV k) (valV kvs k):=.inl ⟨kvs,k,.inl e,rfl,rfl⟩
theorem DPut.k {H:Hp} {a:Addr} {kvs:List (Key×V)} {k:Key} {v:V} (e:H a=some (.dK kvs)) (hl:kvs.length < sizeLine):DPut H a (kV k) v (upd H a (.dK (putK kvs k v))):=.inl ⟨kvs,k,e,rfl,hl,rfl⟩
section
variable {X:Cx} {pins:PN_} {σ:St} {H:Hp} {s:Shared} {a:Addr} {y v:V} {u r:Value} {o:Option V} {A:Around} {E:SV_}
theorem Inv.big (I:Inv X pins σ H s):sysModules < s.heap.objs.size:=by
  have h:mainGlobals < s.heap.objs.size:=(I.mod.glob.keeps I.bk).lt
  exact Nat.lt_trans (by decide) h
theorem d_getItem {Q:SV_} (hu:A.units + 1 < cLine) (I:Inv X pins σ H s) (g:DGet H a y (some v)) (ry:RelV y u) (h:∀ w' s',Inv X pins σ H s'→RelV v w'→Q w' s') :
    wpAny (model X.prog X.w) A (getItem (.ref a) u) Q E s:=by
  rcases g with ⟨kvs,k,e,ey,l⟩ | ⟨kvs,k,b,e,ey,eb,l⟩
  · subst ey
    obtain ⟨z,hd,vs,rel,dd⟩:=dk_rd I.hok e
    obtain ⟨w',hw,rw'⟩:=RelO.some_of (v:=v) (o:=valueAt vs k) (by rw [l]; exact rel.val k)
    exact wpAny_getItem_of (kV_is ry) dd.mapOf hw (h w' _ (I.tok _) rw')
  · subst ey
    cases (show u=Value.ref b from ry)
    obtain ⟨z,hd,xs,rel,dd⟩:=dt_rd I.hok e
    obtain ⟨w',hw,rw'⟩:=RelO.some_of (v:=v) (o:=(atKey xs k).map (·.2)) (by rw [l]; exact rel.val k)
    obtain ⟨p,hp,hp2⟩:=Option.map_eq_some_iff.mp hw
    refine wpAny_getItem_heap (tupleKind_room_in1 hu) (key_of I.hok eb) dd hp ?_
    rw [hp2]
    exact h w' _ (I.tok _) rw'
theorem d_in {Q:SV_} (hu:A.units + 1 < cLine) (I:Inv X pins σ H s) (g:DGet H a y o) (ry:RelV y u) (h:∀ s',Inv X pins σ H s'→Q (.bool o.isSome) s') :
    wpAny (model X.prog X.w) A (compareOp .In u (.ref a)) Q E s:=by
  rcases g with ⟨kvs,k,e,ey,l⟩ | ⟨kvs,k,b,e,ey,eb,l⟩
  · subst ey
    obtain ⟨z,hd,vs,rel,dd⟩:=dk_rd I.hok e
    refine wpAny_in_of (kV_is ry) hd dd.mapOf ?_
    rw [← (rel.val k).isSome_eq,← l]
    exact h _ (I.tok _)
  · subst ey
    cases (show u=Value.ref b from ry)
    obtain ⟨z,hd,xs,rel,dd⟩:=dt_rd I.hok e
    refine wpAny_in_heap (tupleKind_room_in1 hu) (key_of I.hok eb) hd dd ?_
    have q:=(rel.val k).isSome_eq
    rw [Option.isSome_map] at q
    rw [← q,← l]
    exact h _ (I.tok _)
theorem d_write {h':Heap} {t':Nat} {ob:HO} (I:Inv X pins σ H s) (mu:Mut (H a)) (hs:Heap.SameBut a s.heap h') (he:∃ q,h'.get? a=some q) (new:ObjOk X.prog X.w (upd H a ob) h' a ob) :
    Inv X pins σ (upd H a ob) { s with heap:=h',toks:=t' } :=
  I.write (x:=a) (e:=a) mu (.inl rfl) (fun b q hb z=>(hs.2 b hb).trans z) he new
theorem dk_new {P:Program} {w:World} {H':Hp} {h':Heap} {kvs:List (Key×V)} {vs:List (Key×Value)} (z:kvs.length≤sizeLine) (hd:(a == sysModules)=false) (rel:KV kvs vs) (dd:h'.DictOf (mixKind P w) a vs) :
    ObjOk P w H' h' a (.dK kvs):=⟨z,hd,vs,rel,dd⟩
theorem d_setItem {H':Hp} {Q:Unit→Shared→Prop} (hu:A.units + 1 < cLine) (I:Inv X pins σ H s) (g:DPut H a y v H') (ry:RelV y u) (rv:RelV v r) (h:∀ s',Inv X pins σ H' s'→Q () s') :
    wpAny (model X.prog X.w) A (setItem (.ref a) u r) Q E s:=by
  rcases g with ⟨kvs,k,e,ey,l,eH⟩ | ⟨kvs,k,b,e,ey,eb,l,eH⟩
  · subst ey eH
    obtain ⟨z,hd,vs,rel,dd⟩:=dk_of I.hok e
    have hz:vs.length≤sizeLine:=by rw [← rel.length]; exact z
    have hl:(putK kvs k v).length≤sizeLine:=by have:=in_ kvs k v; omega
    refine wpAny_setItem_pairs (hsz:=hz) (kV_is ry) dd fun h' dd' hs=>h _ ?_
    have he:∃ q,h'.get? a=some q:=let ⟨q,_,_,hq,_⟩:=dd'; ⟨q,hq⟩
    exact d_write I (by rw [e]; exact True.intro) hs he (dk_new hl hd (rel.put k rv) dd')
  · subst ey eH
    cases (show u=Value.ref b from ry)
    obtain ⟨z,hd,xs,rel,dd⟩:=dt_of I.hok e
    have hz:xs.length≤sizeLine:=by rw [← Paired.length rel]; exact z
    have hl:(putK kvs k v).length≤sizeLine:=by have:=in_ kvs k v; omega
    refine wpAny_setItem_heap (hsz:=hz) (tupleKind_room_in1 hu) (key_of I.hok eb) dd fun h' dd' hs=>h _ ?_
    obtain ⟨q,es,ep,hq,h2,h3,h4,_,h5⟩:=dd'
    refine d_write I (by rw [e]; exact True.intro) hs ⟨q,hq⟩ ⟨hl,hd,_,(rel.put k eb rv).keeps fun c ys ec => ?_,q,es,ep,hq,h2,h3,h4,h5⟩
    rw [al_ (ne_of ec e (fun z=>nomatch z))]
    exact ec
end
section
variable {X:Cx} {pins:PN_} {σ:St} {H:Hp} {s:Shared} {a:Addr} {kvs:List (Key×V)} {k:Key} {u:Value} {A:Around} {E:SV_}
theorem d_len {Q:SV_} (I:Inv X pins σ H s) (e:Rd H a (.dK kvs)) (h:∀ t s',Inv X pins σ H s'→Q (.int kvs.length t) s'):wpAny (model X.prog X.w) A (call (.builtin "len") [.ref a]) Q E s:=by
  obtain ⟨z,hd,vs,rel,dd⟩:=dk_rd I.hok e
  refine call_len_dict hd dd (by rw [← rel.length]; rw [sizeLine_eq] at z; omega) ?_
  rw [← rel.length]
  exact h _ _ (I.tok _)
end
def NoSl (i:Expr):Prop := ∀ ov iv,subscripted i false ov iv=operate [ov,iv] (getItem ov iv)
theorem subD_of {prog:Program} {w:World} {A:Around} {E:SV_} {s:Shared} {env:Env} {value slice:Expr} {pos:Pos} {T id:String} {Q:SV_}
    (hl:typeLookup (.type T) "__getitem__" = pure (some (.builtin id))) (hs:NoSl slice)
    (h:wpAny (model prog w) A (eval value env) (fun o s₁=>wpAny (model prog w) A (eval slice env) (fun i s₂=>s₂.TypeIs o T∧wpAny (model prog w) A (getItem o i) Q E s₂) E s₁) E s) :
    wpAny (model prog w) A (eval (.Subscript value slice pos) env) Q E s:=by
  refine Subscript_ (wpAny_mono h (fun o s₁ h₁=>wpAny_mono h₁ (fun i s₂ h₂ => ?_) fun _ _ x=>x) fun _ _ x=>x)
  obtain ⟨hT,h₂⟩:=h₂
  unfold subscriptTail
  refine wpAny_bind ?_
  rw [getitemInPython_of_ne hT.not_modules]
  refine wpAny_bind (wpAny_specialOf hT hl ?_)
  have fin:wpAny (model prog w) A (subscripted slice false o i) (fun r s₃=>wpAny (model prog w) A (letTemporaryGo value o r >>= fun _=>pure r) Q E s₃) E s₂:=by
    rw [hs o i]
    exact wpAny_operating (wpAny_mono h₂ (fun r s₃ h₃=>wpAny_bind (wpAny_letTemporaryGo (wpAny_pure h₃))) fun _ _ x=>x)
  first
    | exact wpAny_pure (wpAny_bind fin)
    | exact wpAny_bind (wpAny_pure (wpAny_bind fin))
    | exact wpAny_bind fin
theorem dict_typeIs {X:Cx} {pins:PN_} {σ:St} {H:Hp} {s:Shared} {a:Addr} {y:V} {o:Option V} (I:Inv X pins σ H s) (g:DGet H a y o):s.TypeIs (.ref a) "dict" := by
  rcases g with ⟨kvs,k,e,_,_⟩ | ⟨kvs,k,b,e,_,_,_⟩
  · obtain ⟨_, _, vs, _, dd⟩ := dk_rd I.hok e
    exact dd.typeIs
  · obtain ⟨_, _, xs, _, dd⟩ := dt_rd I.hok e
    exact dd.typeIs
def tDGet (td ty:TE):TE:=fun σ H Q=>td σ H fun x H1=>ty σ H1 fun y H2 => ∃ a v,x=.ref a∧DGet H2 a y (some v)∧Q v H2
def tDIn (ty td:TE):TE:=fun σ H Q=>ty σ H fun y H1=>td σ H1 fun x H2 => ∃ a o,x=.ref a∧DGet H2 a y o∧Q (.bl o.isSome) H2
def sDPut (td ty tv:TE):TS:=fun D σ H=>tv σ H fun v H1=>td σ H1 fun x H2=>ty σ H2 fun y H3 => ∃ a H4,x=.ref a∧DPut H3 a y v H4∧D.nx σ H4
section
variable {X:Cx} {o i e value:Expr} {pos pos' tpos:Pos} {td ty tv:TE}
theorem pe_dget (hu:X.A.units + 1 < cLine) (ho:PE X o td) (hi:PE X i ty) (hs:NoSl i):PE X (.Subscript o i pos) (tDGet td ty):=by
  intro pins s σ H Q I h
  refine subD_of PySem.F.slot_dict_getitem.lookup hs (thn (ho pins s σ H _ I h) fun u s1 ⟨x,H1,I1,rx,q1⟩=>thn (hi pins s1 σ H1 _ I1 q1) fun iv s2 ⟨y,H2,I2,ry,a,v,ex,g,q2⟩ => ?_)
  subst ex
  obtain rfl:u=Value.ref a:=rx
  exact ⟨dict_typeIs I2 g,d_getItem hu I2 g ry fun w' s3 I3 rw'=>⟨v,H2,I3,rw',q2⟩⟩
theorem pc_din (hu:X.A.units + 1 < cLine) (hi:PE X i ty) (ho:PE X o td):PC X .In i o (tDIn ty td):=by
  intro pins s σ H Q I h
  refine thn (hi pins s σ H _ I h) fun iv s1 ⟨y,H1,I1,ry,q1⟩=>thn (ho pins s1 σ H1 _ I1 q1) fun u s2 ⟨x,H2,I2,rx,a,ov,ex,g,q2⟩ => ?_
  subst ex
  obtain rfl:u=Value.ref a:=rx
  exact d_in hu I2 g ry fun s3 I3=>⟨.bl ov.isSome,H2,I3,rfl,q2⟩
theorem ps_dput (hu:X.A.units + 1 < cLine) (ho:PE X o td) (hi:PE X i ty) (hv:PE X value tv) (hs:swapsWith value (some (.Subscript o i pos')) pos.line X.env=pure false) :
    PS X (.Assign [.Subscript o i pos'] value pos) (sDPut td ty tv):=by
  intro pins s σ H D I h
  refine wpAny_Assign_Subscript (thn (hv pins s σ H _ I h) fun r s1 ⟨v,H1,I1,rv,q1⟩=>thn (ho pins s1 σ H1 _ I1 q1) fun u s2 ⟨x,H2,I2,rx,q2⟩=>thn (hi pins s2 σ H2 _ I2 q2) fun iv s3 ⟨y,H3,I3,ry,a,H4,ex,g,q3⟩ => ?_) hs
  subst ex
  obtain rfl:u=Value.ref a:=rx
  exact d_setItem hu I3 g ry rv fun s4 I4=>⟨σ,H4,I4,q3⟩
end
theorem dk_empty {P:Program} {w:World} {H:Hp} (h:Heap) (hb:sysModules < h.objs.size):ObjOk P w H (h.push { cls:=.type "dict",data:=.dict #[] }) h.objs.size (.dK []) :=
  ⟨Nat.zero_le _,beq_eq_false_iff_ne.mpr (Ne.symm (Nat.ne_of_lt hb)),[],.nil,Heap.DictOf.new h⟩
def tDNewK:TE:=fun _ H Q => ∀ p,H p=none→Q (.ref p) (upd H p (.dK []))
section
variable {X:Cx} {pos:Pos}
theorem pe_dnewK:PE X (.Dict [] [] pos) tDNewK:=fun pins s σ H Q I h =>
  wpAny_Dict_empty ⟨.ref s.heap.objs.size,_,I.laid (a:=s.heap.objs.size) (o:=.dK []) (t':=s.toks) (fun _ _ q=>Heap.get?_push_of_some _ q) (Nat.le_refl _) (dk_empty s.heap I.big),rfl,h _ (I.hok.fresh (Nat.le_refl _))⟩
end
theorem bt_all:bootBuiltins "all" = some (.builtin "all"):=by decide +kernel
theorem vals_bl:∀ {bs:List Bool} {us:List Value},Vals (bs.map V.bl) us→us=bs.map Value.bool
  | [],_,h=>by cases h; rfl
  | b :: bs, _, h => by
    cases h with
    | cons ra rb =>
      cases ra
      rw [vals_bl rb]
      rfl
theorem range_all:∀ (bs:List Bool),(List.range bs.length).all (fun i=>bs[i]?.getD false)=bs.all id:=by
  intro bs
  rw [Bool.eq_iff_iff,List.all_eq_true,List.all_eq_true]
  constructor
  · intro h b hb
    obtain ⟨i,hi,rfl⟩:=List.getElem_of_mem hb
    have:=h i (List.mem_range.mpr hi)
    rw [List.getElem?_eq_getElem hi] at this
    exact this
  · intro h i hi
    have hi':=List.mem_range.mp hi
    rw [List.getElem?_eq_getElem hi']
    exact h _ (List.getElem_mem hi')
section
variable {X:Cx}
def rAllL (K:FG_):List V→Hp→VK→Prop:=fun xs H Q => ∃ (p:Addr) (bs:List Bool),xs=[.ref p]∧SqL K H p (bs.map V.bl)∧Q (.bl (bs.all id)) H
theorem call_allL (hc:X.calm=true):CallR X (.builtin "all") (rAllL X.K):=by
  intro pins s σ H xs us Q I r h
  obtain ⟨p,bs,rfl,hq,q⟩:=h
  obtain ⟨u,rfl,rx⟩:=vals1 r
  cases rx
  obtain ⟨its,r',pl,hz⟩:=I.list hq
  have hi:=vals_bl r'
  subst hi
  have hh:X.A.in1.handled=none:=I.ok.hd hc
  have lt:p < s.heap.objs.size:=by obtain ⟨_,e,_⟩:=pl.isList; exact Heap.lt_size e
  refine call_all_walk (wpAny_pyIter_list pl.isList ⟨_,_,_,_,_,_,fun i=>bs[i]?.getD false,rfl,Walks.list hh s.heap.objs.size p (Nat.ne_of_lt lt) (bs.map Value.bool).toArray,⟨⟨_,Heap.get?_push_size _ rfl,rfl,rfl⟩,?_⟩,?_,fun h' tk hk => ?_⟩)
  · obtain ⟨o, e, r⟩ := pl.isList
    exact ⟨o,Heap.get?_push_of_some _ e,r⟩
  · intro i v s' Q' E' hv hQ
    have hv':(bs.map Value.bool)[i]? = some v:=by simpa using hv
    rw [List.getElem?_map] at hv'
    cases hb:bs[i]? with
    | none=>rw [hb] at hv'; cases hv'
    | some b =>
      rw [hb] at hv'
      cases hv'
      have hQ':Q' (bs[i]?.getD false) s':=hQ
      rw [hb] at hQ'
      exact wpAny_truthy_bool hQ'
  · have hk' : ∀ b o, s.heap.get? b = some o → h'.get? b = some o := fun b o e => hk b o (by simp; exact Nat.ne_of_lt (Heap.lt_size e)) (Heap.get?_push_of_some _ e)
    refine ⟨.bl _,H,I.kept hk',?_,q⟩
    show Value.bool _=Value.bool _
    rw [List.size_toArray,List.length_map,range_all]
end
def Ite (K:FG_) (a:Addr):It :=
  ⟨fun i H => ∃ xs x,SqL K H a xs∧xs[i]? = some x,
   fun i H v H' => ∃ p x,v=.ref p∧H p=none∧H'=upd H p (.tup [.int (i:Int),x])∧∀ xs,SqL K H a xs→xs[i]? = some x,
   fun i H => ∃ xs,SqL K H a xs∧xs.length≤i⟩
theorem turn_enum {P:Program} {w:World} {K:FG_} {es:List Expr} {kk:Nat} {tpos:Pos} {a e it:Addr} (hne:e≠it) :
    Turn P w K (.Tuple es kk tpos) (Ite K a) [e,it] e (fun i h=>(∃ old,IsEnum h e it (i:Int) old)∧h.IsListIter it a i) where
  mem:=by simp
  obj:=fun i h st c hb=>by
    obtain ⟨⟨old,he⟩,h1⟩:=st
    simp only [List.mem_cons,List.not_mem_nil,or_false] at hb
    rcases hb with rfl | rfl
    · exact ⟨_,he,fun v e=>nomatch e⟩
    · obtain ⟨o,e,_,d⟩:=h1; exact ⟨o,e,fun v z=>by rw [d] at z; cases z⟩
  keep:=fun i h h' st k=>by
    obtain ⟨⟨old,he⟩,o,a,r⟩:=st
    exact ⟨⟨old,k e (by simp) _ he⟩,⟨o,k it (by simp) o a,r⟩⟩
  item:=by
    intro X hP hw hK hc i pins s σ H E I hf st hg
    subst hP hw hK
    obtain ⟨xs,x,q1,e1⟩:=hg
    obtain ⟨its1,r1,p1,z1⟩:=I.list q1
    obtain ⟨u1,eu1,ru1⟩:=r1.get e1
    obtain ⟨⟨old,he⟩,h1⟩:=st
    have lt:∀ {c o},s.heap.get? c=some o→s.heap.objs.size≠c:=fun e=>Nat.ne_of_gt (Heap.lt_size e)
    refine wpAny_pyNext_enum_item he h1 p1.isList (x:=u1) (by simpa using eu1) hne fun h' a1 a2 a3 a4 hk => ?_
    refine ⟨_,rfl,wpAny_letOwnedTupleGo_enum a1 fun h'' b1 b2 => ?_⟩
    have b2':Heap.SameBut e h' h'':=b2
    have kk:∀ c o,c∉[e,it]→s.heap.get? c=some o→h''.get? c=some o:=fun c o hc e=>by
      simp only [List.mem_cons,List.not_mem_nil,or_false,not_or] at hc
      exact b2'.extBut _ _ hc.1 (hk c o hc.1 hc.2 e)
    have tT:h''.get? s.heap.objs.size=some { cls:=.type "tuple",data:=.seq #[.int i s.toks,u1] }:=b2'.extBut _ _ (lt he) a3
    have nT:H s.heap.objs.size=none:=I.hok.fresh (Nat.le_refl _)
    have I':Inv X pins σ (upd H s.heap.objs.size (.tup [.int (i:Int),x])) { s with heap:=h'',toks:=s.toks + 1 }:=I.turnedT (t':=s.toks + 1) (its:=[.int i s.toks,u1]) hf kk (Nat.le_refl _) (.cons ⟨_,rfl⟩ (.cons ru1 .nil)) (by show 2≤sizeLine; decide) ⟨_,tT,rfl,_,rfl⟩
    obtain ⟨o2,ho2,r2⟩:=a2
    refine ⟨.ref s.heap.objs.size,upd H s.heap.objs.size (.tup [.int (i:Int),x]),I',rfl,⟨_,x,rfl,nT,rfl,fun xs' w1=>by rw [I.list_inj w1 q1]; exact e1⟩,⟨⟨_,b1⟩,⟨o2,b2'.extBut _ _ (Ne.symm hne) ho2,r2⟩⟩,fun c hc => ?_⟩
    obtain ⟨o,eo⟩ : ∃ o,s.heap.get? c=some o:=by
      simp only [List.mem_cons,List.not_mem_nil,or_false] at hc
      rcases hc with rfl | rfl
      · exact ⟨_,he⟩
      · obtain ⟨o,e,_⟩:=h1; exact ⟨o,e⟩
    rw [al_ (Ne.symm (lt eo))]
    exact (hf c hc).1
  done:=by
    intro X hP hw hK hc i pins s σ H E I hf st hg
    subst hP hw hK
    obtain ⟨xs,q1,e⟩:=hg
    obtain ⟨its1,r1,p1,z1⟩:=I.list q1
    obtain ⟨⟨old,he⟩,h1⟩:=st
    have l1:=r1.length
    refine wpAny_pyNext_enum_end (I.ok.hd hc) he h1 p1.isList (by simp; omega) fun h' hk=>⟨rfl,I.turnedL (t':=s.toks) hf fun c o hc e => ?_⟩
    simp only [List.mem_cons,List.not_mem_nil,or_false,not_or] at hc
    exact hk c o hc.2 e
  self:=fun _ _ _ _ _ st h=>by
    obtain ⟨⟨old,he⟩,_⟩:=st
    exact wpAny_pyIter_enum he h
theorem bt_enumerate:bootBuiltins "enumerate" = some (.type "enumerate"):=by decide +kernel
def iEnum (K:FG_) (ta:TA):TI:=fun σ H R=>ta σ H fun vs H1 => ∃ a,vs=[.ref a]∧(∃ xs,SqL K H1 a xs)∧R (Ite K a) H1
theorem pi_enum {X:Cx} {ea:Expr} {ta:TA} {p pos:Pos} {es:List Expr} {kk:Nat} {tpos:Pos} (hg:Gl X "enumerate") (hm:X.mg "enumerate" = none) (ha:PA X [ea] ta) (hs:starEach [ea] X.env=[(false,eval ea X.env)]:=by rfl) :
    PI X (.Tuple es kk tpos) (.Call (.Name "enumerate" p) [ea] [] pos) (iEnum X.K ta):=by
  intro pins s σ H R I h
  refine Call_ (gm_ I hg hm bt_enumerate (PyProof.Rows.callWith_type1 (thn (ha pos pins s σ H _ I h) fun us s1 ⟨vs,H1,I1,r1,q1⟩ => ?_) hs rfl))
  obtain ⟨a,e,⟨xs,w1⟩,q⟩:=q1
  subst e
  obtain ⟨u,rfl,ru⟩:=vals1 r1
  cases ru
  obtain ⟨its1,r2,p1,z1⟩:=I1.list w1
  refine call_enumerate_list p1.isList fun h' he hi hsz hk=>wpAny_pyIter_enum he ?_
  refine ⟨_,_,_,_,H1,rfl,I1.kept (t':=s1.toks) hk,turn_enum (a:=a) (e:=s1.heap.objs.size + 1) (it:=s1.heap.objs.size) (Nat.succ_ne_self _),⟨⟨_,he⟩,hi⟩,fun c hc => ?_,q⟩
  have hle:s1.heap.objs.size≤c:=by
    simp only [List.mem_cons,List.not_mem_nil,or_false] at hc
    rcases hc with rfl | rfl <;> omega
  exact I1.fpOk hle (I1.hok.fresh hle)
end L2
namespace Lf
open PySem L2
end Lf
namespace L2
open PySem PySem.Spec PyProof.Rows
end L2
namespace Lf
open PySem PySem.W PyProof.Rows
section
variable {lt:Nat→Nat→Bool}
abbrev gk (p:Array Nat) (k:Nat):Nat:=p.getD k 0
end
end Lf
namespace L2
open PySem PySem.Spec PyProof.Rows PySem.W
section
variable {prog:Program} {w:World} {A:Around} {E:SV_} {s:Shared}
abbrev TI2:=Addr×List Int
def t0:TI2:=(0,[])
end
end L2
namespace Lf
open PySem
theorem dz_ {m:Int} (h:1≤m):up 1 m=m:=by
  obtain ⟨a,b⟩:=ao_ (n:=1) (m:=m) (by omega)
  exact mod_unique (by omega) up_mod (Int.emod_self) (by omega) (by omega)
end Lf
namespace Lf
def hgo:Nat→Nat→List Bool→List (Nat×Nat)
  | p,b,[]=>if b < p then [(b,p)] else []
  | p,b,true :: r=>(if b < p then [(b,p)] else []) ++ hgo (p + 1) (p + 1) r
  | p,b,false :: r=>hgo (p + 1) b r
def holes (l:List Bool):List (Nat×Nat):=hgo 0 0 l
def idleFrom:Nat→List Bool→List Nat
  | _,[]=>[]
  | p,true :: r=>idleFrom (p + 1) r
  | p,false :: r=>p :: idleFrom (p + 1) r
theorem fl_:∀ (l:List Bool) (p:Nat),idleFrom p l=((List.range' p l.length).filter fun i => !(l[i - p]?.getD true))
  | [],p=>rfl
  | b :: r, p => by
    have ih:=fl_ r (p + 1)
    have e:((List.range' (p + 1) r.length).filter fun i => !((b :: r)[i - p]?.getD true))=(List.range' (p + 1) r.length).filter fun i => !(r[i - (p + 1)]?.getD true):=by
      refine List.filter_congr fun i hi => ?_
      have h1:=(List.mem_range'_1.mp hi).1
      have:i - p=(i - (p + 1)) + 1:=by omega
      rw [this]
      rfl
    rw [List.length_cons,List.range'_succ,List.filter_cons,e,← ih]
    cases b <;> simp [idleFrom]
def overlay (l:List Bool) (p:Nat) (bs:List Bool):List Bool:=l.mapIdx fun i b=>b || (decide (p≤i) && bs[i - p]?.getD false)
theorem bw_ (l:List Bool) (p:Nat) (bs:List Bool):(overlay l p bs).length=l.length:=by simp [overlay]
theorem overlay_nil (l:List Bool) (p:Nat):overlay l p []=l:=by
  refine List.ext_getElem? fun i => ?_
  simp [overlay,List.getElem?_mapIdx]
theorem il_ (l:List Bool) (p:Nat) (bs:List Bool) (i:Nat) (h:i < l.length):(overlay l p bs)[i]?.getD false=(l[i]?.getD false || (decide (p≤i) && bs[i - p]?.getD false)):=by
  rw [overlay,List.getElem?_mapIdx,List.getElem?_eq_getElem h]
  rfl
theorem ej_ (l:List Bool) (p:Nat) (bs:List Bool) (i:Nat):(overlay l p bs)[i]? = l[i]?.map fun b=>b || (decide (p≤i) && bs[i - p]?.getD false):=by
  rw [overlay,List.getElem?_mapIdx]
theorem overlay_snoc {l:List Bool} {p:Nat} {bs:List Bool} {b:Bool} (h:p + bs.length < l.length):overlay l p (bs ++ [b])=if b=true then (overlay l p bs).set (p + bs.length) true else overlay l p bs:=by
  have key:∀ i,i≠p + bs.length→(overlay l p (bs ++ [b]))[i]? = (overlay l p bs)[i]? := fun i hi=>by
    rw [ej_,ej_]
    cases l[i]? with
    | none=>rfl
    | some c =>
      by_cases hp:p≤i
      · have e : (bs ++ [b])[i - p]?.getD false = bs[i - p]?.getD false := by
          by_cases h1:i - p < bs.length
          · rw [List.getElem?_append_left h1]
          · rw [List.getElem?_eq_none (by rw [List.length_append,List.length_singleton]; omega),List.getElem?_eq_none (by omega)]
        show some (c || _)=some (c || _)
        rw [e]
      · show some (c || (decide (p ≤ i) && _)) = some (c || (decide (p ≤ i) && _))
        rw [decide_eq_false hp]
        rfl
  have self:(overlay l p (bs ++ [b]))[p + bs.length]? = some ((l[p + bs.length]'h) || b):=by
    rw [ej_,List.getElem?_eq_getElem h]
    have e:(bs ++ [b])[p + bs.length - p]?.getD false=b:=by
      rw [Nat.add_sub_cancel_left,List.getElem?_append_right (Nat.le_refl _),Nat.sub_self]
      rfl
    show some (_ || (decide (p≤p + bs.length) && _))=_
    rw [e,decide_eq_true (Nat.le_add_right _ _),Bool.true_and]
  have self0:(overlay l p bs)[p + bs.length]? = some (l[p + bs.length]'h):=by
    rw [ej_,List.getElem?_eq_getElem h]
    have e:bs[p + bs.length - p]?.getD false=false:=by
      rw [Nat.add_sub_cancel_left,List.getElem?_eq_none (Nat.le_refl _)]
      rfl
    show some (_ || (_ && _))=_
    rw [e,Bool.and_false,Bool.or_false]
  refine List.ext_getElem? fun i => ?_
  by_cases hi:i=p + bs.length
  · subst hi
    rw [self]
    cases b with
    | true =>
      rw [if_pos rfl,List.getElem?_set_self (by rw [bw_]; exact h),Bool.or_true]
    | false=>rw [if_neg Bool.false_ne_true,self0,Bool.or_false]
  · rw [key i hi]
    cases b with
    | true=>rw [if_pos rfl,List.getElem?_set_ne (fun e=>hi e.symm)]
    | false=>rw [if_neg Bool.false_ne_true]
mutual
def Kd.fil:Kd→List Bool
  | .num w _=>List.replicate w.toNat true
  | .row k n=>(List.replicate n.toNat (overlay (List.replicate (up k.rm.1 k.rm.2).toNat false) 0 k.fil)).flatten
  | .rcd fs=>filF (plcs 0 (rmF fs)) fs (List.replicate (rcdRm (rmF fs)).1.toNat false)
  | .cho ks=>filK (up 1 (choRm (rmK ks)).2).toNat ks ((List.replicate (choRm (rmK ks)).1.toNat false).set 0 true)
def filF:List Int→List (PySem.Str×Kd)→List Bool→List Bool
  | _,[],l=>l
  | [],_ :: _,l=>l
  | p :: ps,f :: r,l=>filF ps r (overlay l p.toNat f.2.fil)
def filK:Nat→List Kd→List Bool→List Bool
  | _,[],l=>l
  | p,k :: r,l=>filK p r (overlay l p k.fil)
end
theorem hs_:∀ (fs:List (PySem.Str×Kd)) (ps:List Int) (l:List Bool),(filF ps fs l).length=l.length
  | [],_,_=>by simp [filF]
  | _ :: _,[],_=>by simp [filF]
  | f :: r,p :: ps,l=>by show (filF ps r _).length=_; rw [hs_ r,bw_]
theorem hq_:∀ (ks:List Kd) (p:Nat) (l:List Bool),(filK p ks l).length=l.length
  | [],_,_=>by simp [filK]
  | k :: r,p,l=>by show (filK p r _).length=_; rw [hq_ r,bw_]
theorem Kd.fil_len:∀ {kd:Kd},kd.Ok→kd.fil.length=kd.rm.1.toNat
  | .num w m,_=>by show (List.replicate _ _).length=_; rw [List.length_replicate]; rfl
  | .row k n, h => by
    obtain ⟨hk,h0,h1⟩:=h
    obtain ⟨a,b,c,d⟩:=k.bd hk
    obtain ⟨u1,u2⟩:=ao_ (n:=k.rm.1) (m:=k.rm.2) (by omega)
    show (List.replicate n.toNat (overlay (List.replicate (up k.rm.1 k.rm.2).toNat false) 0 k.fil)).flatten.length=(n * up k.rm.1 k.rm.2).toNat
    rw [List.length_flatten,List.map_replicate,List.sum_replicate_nat,bw_,List.length_replicate,Int.toNat_mul h0 (by omega)]
  | .rcd fs,h=>by show (filF _ _ _).length=_; rw [hs_,List.length_replicate]; rfl
  | .cho ks,h=>by show (filK _ _ _).length=_; rw [hq_,List.length_set,List.length_replicate]; rfl
def Kd.bz (kd:Kd) (i:Nat):Bool:=kd.fil[i]?.getD false
def bzF:List Int→List (PySem.Str×Kd)→Nat→Bool
  | _,[],_=>false
  | [],_ :: _,_=>false
  | p :: ps,f :: r,i=>(decide (p.toNat≤i) && f.2.bz (i - p.toNat)) || bzF ps r i
def bzK:Nat→List Kd→Nat→Bool
  | _,[],_=>false
  | p,k :: r,i=>(decide (p≤i) && k.bz (i - p)) || bzK p r i
theorem ht_:∀ (fs:List (PySem.Str×Kd)) (ps:List Int) (l:List Bool) (i:Nat),i < l.length→(filF ps fs l)[i]?.getD false=(l[i]?.getD false || bzF ps fs i)
  | [],_,_,_,_=>by simp [filF,bzF]
  | _ :: _,[],_,_,_=>by simp [filF,bzF]
  | f :: r, p :: ps, l, i, h => by
    show (filF ps r _)[i]?.getD false=(_ || ((decide (p.toNat≤i) && f.2.fil[i - p.toNat]?.getD false) || bzF ps r i))
    rw [ht_ r ps _ i (by rw [bw_]; exact h),il_ _ _ _ _ h,Bool.or_assoc]
theorem hr_:∀ (ks:List Kd) (p:Nat) (l:List Bool) (i:Nat),i < l.length→(filK p ks l)[i]?.getD false=(l[i]?.getD false || bzK p ks i)
  | [],_,_,_,_=>by simp [filK,bzK]
  | k :: r, p, l, i, h => by
    show (filK p r _)[i]?.getD false=(_ || ((decide (p≤i) && k.fil[i - p]?.getD false) || bzK p r i))
    rw [hr_ r p _ i (by rw [bw_]; exact h),il_ _ _ _ _ h,Bool.or_assoc]
theorem Kd.bz_lt {kd:Kd} (h:kd.Ok) {i:Nat} (hb:kd.bz i=true):i < kd.rm.1.toNat:=by
  by_cases hi:i < kd.fil.length
  · rw [kd.fil_len h] at hi; exact hi
  · unfold Kd.bz at hb
    rw [List.getElem?_eq_none (by omega)] at hb
    cases hb
theorem hgo_idle:∀ (l:List Bool) (p b:Nat),b≤p→(hgo p b l).flatMap (fun h=>List.range' h.1 (h.2 - h.1))=List.range' b (p - b) ++ idleFrom p l
  | [], p, b, h => by
    show (if b < p then [(b,p)] else []).flatMap _=_ ++ []
    by_cases hb:b < p
    · rw [if_pos hb]; simp
    · rw [if_neg hb]
      have:p - b=0:=by omega
      rw [this]; rfl
  | true :: r, p, b, h => by
    show ((if b < p then [(b,p)] else []) ++ hgo (p + 1) (p + 1) r).flatMap _=_ ++ idleFrom (p + 1) r
    rw [List.flatMap_append,hgo_idle r (p + 1) (p + 1) (Nat.le_refl _),Nat.sub_self]
    by_cases hb:b < p
    · rw [if_pos hb]; simp
    · rw [if_neg hb]
      have:p - b=0:=by omega
      rw [this]; rfl
  | false :: r, p, b, h => by
    show (hgo (p + 1) b r).flatMap _=_ ++ (p :: idleFrom (p + 1) r)
    rw [hgo_idle r (p + 1) b (by omega)]
    have e:p + 1 - b=(p - b) + 1:=by omega
    rw [e,List.range'_concat,List.append_assoc]
    have:b + (p - b)=p:=by omega
    simp [this]
theorem holes_idle (l:List Bool):(holes l).flatMap (fun h=>List.range' h.1 (h.2 - h.1))=idleFrom 0 l:=by
  have:=hgo_idle l 0 0 (Nat.le_refl _)
  exact this
end Lf
namespace Lf
open PySem
theorem overlay_zero {n:Nat} {l:List Bool} (h:l.length≤n):overlay (List.replicate n false) 0 l=l ++ List.replicate (n - l.length) false:=by
  refine List.ext_getElem? fun i => ?_
  rw [ej_]
  by_cases hi:i < n
  · rw [List.getElem?_replicate, if_pos hi]
    show some (false || (decide (0≤i) && l[i - 0]?.getD false))=_
    rw [Nat.sub_zero,decide_eq_true (Nat.zero_le _),Bool.true_and,Bool.false_or]
    by_cases hl:i < l.length
    · rw [List.getElem?_append_left hl,List.getElem?_eq_getElem hl]; rfl
    · rw [List.getElem?_append_right (by omega),List.getElem?_replicate,if_pos (by omega),List.getElem?_eq_none (by omega)]; rfl
  · rw [List.getElem?_replicate, if_neg hi]
    rw [List.getElem?_append_right (by omega),List.getElem?_replicate,if_neg (by omega)]
    rfl
theorem iu_ (kd:Kd):idleFrom 0 kd.fil=(List.range kd.fil.length).filter fun i => !(kd.bz i):=by
  rw [fl_,List.range_eq_range']
  refine List.filter_congr fun i hi => ?_
  have h2:i < kd.fil.length:=by have:=(List.mem_range'_1.mp hi).2; omega
  unfold Kd.bz
  rw [Nat.sub_zero,List.getElem?_eq_getElem h2]
  rfl
theorem bzK_any:∀ {ks:List Kd} {p i:Nat},bzK p ks i=(decide (p≤i) && ks.any fun k=>k.bz (i - p))
  | [],p,i=>by simp [bzK]
  | k :: r, p, i => by
    show ((decide (p≤i) && k.bz (i - p)) || bzK p r i)=_
    rw [bzK_any,List.any_cons,← Bool.and_or_distrib_left]
theorem flat_get:∀ (n:Nat) (s:List Bool) (i:Nat),((List.replicate n s).flatten)[i]?.getD false=true↔∃ j,j < n∧j * s.length≤i∧s[i - j * s.length]?.getD false=true
  | 0, s, i => by
    constructor
    · intro h; simp at h
    · rintro ⟨j,hj,_⟩; omega
  | n + 1, s, i => by
    rw [List.replicate_succ,List.flatten_cons]
    by_cases hi:i < s.length
    · rw [List.getElem?_append_left hi]
      constructor
      · intro h; exact ⟨0,by omega,by omega,by simpa using h⟩
      · rintro ⟨j, hj, h1, h2⟩
        cases j with
        | zero=>simpa using h2
        | succ j =>
          exfalso
          rw [Nat.succ_mul] at h1
          omega
    · rw [List.getElem?_append_right (by omega), flat_get n s]
      constructor
      · rintro ⟨j, hj, h1, h2⟩
        refine ⟨j + 1,by omega,by rw [Nat.succ_mul]; omega,?_⟩
        rw [Nat.succ_mul]
        have:i - (j * s.length + s.length)=i - s.length - j * s.length:=by omega
        rw [this]; exact h2
      · rintro ⟨j, hj, h1, h2⟩
        cases j with
        | zero =>
          exfalso
          rw [Nat.zero_mul,Nat.sub_zero,List.getElem?_eq_none (by omega)] at h2
          cases h2
        | succ j =>
          rw [Nat.succ_mul] at h1 h2
          refine ⟨j,by omega,by omega,?_⟩
          have:i - s.length - j * s.length=i - (j * s.length + s.length):=by omega
          rw [this]; exact h2
theorem bz_row {kd:Kd} {n:Int} (h:kd.Ok) (i:Nat):(Kd.row kd n).bz i=true↔∃ j,j < n.toNat∧j * (up kd.rm.1 kd.rm.2).toNat≤i∧kd.bz (i - j * (up kd.rm.1 kd.rm.2).toNat)=true:=by
  obtain ⟨a,b,c,d⟩:=kd.bd h
  obtain ⟨u1,u2⟩:=ao_ (n:=kd.rm.1) (m:=kd.rm.2) (by omega)
  have hl:=kd.fil_len h
  show ((List.replicate n.toNat (overlay (List.replicate (up kd.rm.1 kd.rm.2).toNat false) 0 kd.fil)).flatten)[i]?.getD false=true↔_
  rw [flat_get,bw_,List.length_replicate,overlay_zero (by omega)]
  have key:∀ r,(kd.fil ++ List.replicate ((up kd.rm.1 kd.rm.2).toNat - kd.fil.length) false)[r]?.getD false=kd.bz r:=fun r=>by
    unfold Kd.bz
    by_cases hr:r < kd.fil.length
    · rw [List.getElem?_append_left hr]
    · rw [List.getElem?_append_right (by omega), List.getElem?_eq_none (l := kd.fil) (by omega), List.getElem?_replicate]
      split <;> rfl
  constructor
  · rintro ⟨j,h1,h2,h3⟩; rw [key] at h3; exact ⟨j,h1,h2,h3⟩
  · rintro ⟨j,h1,h2,h3⟩; exact ⟨j,h1,h2,by rw [key]; exact h3⟩
end Lf
namespace Lf
inductive Vd where
  | num (n:Int)
  | row (vs:List Vd)
  | rcd (vs:List Vd)
  | cho (k:Nat) (v:Vd)
def numB:Nat→Int→List Int
  | 0,_=>[]
  | w + 1,n=>n % 256 :: numB w (n / 256)
theorem ey_:∀ (w:Nat) (n:Int),(numB w n).length=w
  | 0,_=>rfl
  | w + 1,n=>by show (numB w _).length + 1=_; rw [ey_ w]
theorem ha_:∀ (w:Nat) (n:Int),∀ b∈numB w n,0≤b∧b < 256
  | 0,_,b,h=>(nomatch h)
  | w + 1, n, b, h => by
    rcases List.mem_cons.mp h with e | e
    · rw [e]; exact ⟨Int.emod_nonneg _ (by decide),Int.emod_lt_of_pos _ (by decide)⟩
    · exact ha_ w _ b e
theorem numB_succ:∀ (w:Nat) (n:Int),numB (w + 1) n=numB w n ++ [n / 256 ^ w % 256]
  | 0,n=>by show [n % 256]=[n / 1 % 256]; rw [Int.ediv_one]
  | w + 1, n => by
    show n % 256 :: numB (w + 1) (n / 256)=n % 256 :: numB w (n / 256) ++ _
    rw [numB_succ w (n / 256),Int.ediv_ediv_of_nonneg (by decide)]
    have e:(256:Int) * 256 ^ w=256 ^ (w + 1):=by rw [Int.pow_succ,Int.mul_comm]
    rw [e]
    rfl
def lay (l:List Int) (p:Nat) (some:List Int):List Int:=l.mapIdx fun i b=>if p≤i∧i < p + some.length then some.getD (i - p) 0 else b
theorem dt_ (l:List Int) (p:Nat) (some:List Int):(lay l p some).length=l.length:=by simp [lay]
theorem hh_ (l:List Int) (p:Nat) (s:List Int) (i:Nat):(lay l p s)[i]? = l[i]?.map fun b=>if p≤i∧i < p + s.length then s.getD (i - p) 0 else b:=by
  rw [lay,List.getElem?_mapIdx]
theorem lay_nil (l:List Int) (p:Nat):lay l p []=l:=by
  refine List.ext_getElem? fun i => ?_
  rw [hh_]
  cases l[i]? with
  | none=>rfl
  | some c =>
    show some (if p≤i∧i < p + 0 then _ else c)=some c
    rw [if_neg (by omega)]
theorem lay_snoc {l:List Int} {p:Nat} {s:List Int} {b:Int} (h:p + s.length < l.length):lay l p (s ++ [b])=(lay l p s).set (p + s.length) b:=by
  refine List.ext_getElem? fun i => ?_
  by_cases hi:i=p + s.length
  · subst hi
    rw [List.getElem?_set_self (by rw [dt_]; exact h),hh_,List.getElem?_eq_getElem h]
    show some (if p≤p + s.length∧p + s.length < p + (s ++ [b]).length then (s ++ [b]).getD (p + s.length - p) 0 else _)=some b
    rw [if_pos ⟨by omega,by rw [List.length_append]; show _ < p + (s.length + 1); omega⟩,Nat.add_sub_cancel_left,List.getD_eq_getElem?_getD,List.getElem?_append_right (Nat.le_refl _),Nat.sub_self]
    rfl
  · rw [List.getElem?_set_ne (fun e => hi e.symm), hh_, hh_]
    cases l[i]? with
    | none=>rfl
    | some c =>
      show some (if _ then _ else c)=some (if _ then _ else c)
      by_cases hp:p≤i∧i < p + s.length
      · rw [if_pos hp,if_pos ⟨hp.1,by rw [List.length_append]; show i < p + (s.length + 1); omega⟩,List.getD_eq_getElem?_getD,List.getD_eq_getElem?_getD,List.getElem?_append_left (by omega)]
      · rw [if_neg hp,if_neg (by rw [List.length_append]; show ¬ (p≤i∧i < p + (s.length + 1)); omega)]
def layRow (f:Vd→List Int) (step:Nat):Nat→List Vd→List Int→List Int
  | _,[],l=>l
  | j,v :: r,l=>layRow f step (j + 1) r (lay l (j * step) (f v))
mutual
def Kd.byt:Kd→Vd→List Int
  | .num w _,.num n=>numB w.toNat n
  | .row k n,.row vs=>layRow k.byt (up k.rm.1 k.rm.2).toNat 0 vs (List.replicate (n * up k.rm.1 k.rm.2).toNat 0)
  | .rcd fs,.rcd vs=>bytF (plcs 0 (rmF fs)) fs vs (List.replicate (rcdRm (rmF fs)).1.toNat 0)
  | .cho ks,.cho k v=>lay ((List.replicate (choRm (rmK ks)).1.toNat (0:Int)).set 0 (k:Int)) (up 1 (choRm (rmK ks)).2).toNat (bytK ks k v)
  | _,_=>[]
def bytF:List Int→List (PySem.Str×Kd)→List Vd→List Int→List Int
  | p :: ps,f :: r,v :: vs,l=>bytF ps r vs (lay l p.toNat (f.2.byt v))
  | _,_,_,l=>l
def bytK:List Kd→Nat→Vd→List Int
  | [],_,_=>[]
  | k :: _,0,v=>k.byt v
  | _ :: r,j + 1,v=>bytK r j v
end
mutual
def Kd.Val:Kd→Vd→Prop
  | .num w _,.num n=>0≤n∧n < 256 ^ w.toNat
  | .row k n,.row vs=>(vs.length:Int)=n∧∀ v∈vs,k.Val v
  | .rcd fs,.rcd vs=>valF fs vs
  | .cho ks,.cho k v=>valK ks k v
  | _,_=>False
def valF:List (PySem.Str×Kd)→List Vd→Prop
  | [],[]=>True
  | f :: r,v :: vs=>f.2.Val v∧valF r vs
  | _,_=>False
def valK:List Kd→Nat→Vd→Prop
  | [],_,_=>False
  | k :: _,0,v=>k.Val v
  | _ :: r,j + 1,v=>valK r j v
end
theorem ek_ (f:Vd→List Int) (step:Nat):∀ (vs:List Vd) (j:Nat) (l:List Int),(layRow f step j vs l).length=l.length
  | [],_,_=>rfl
  | v :: r,j,l=>by show (layRow f step (j + 1) r _).length=_; rw [ek_ f step r,dt_]
theorem gr_:∀ (fs:List (PySem.Str×Kd)) (ps:List Int) (vs:List Vd) (l:List Int),(bytF ps fs vs l).length=l.length
  | [],_,_,_=>by simp [bytF]
  | _ :: _,[],_,_=>by simp [bytF]
  | _ :: _,_ :: _,[],_=>by simp [bytF]
  | f :: r,p :: ps,v :: vs,l=>by simp only [bytF]; rw [gr_ r,dt_]
theorem Kd.byt_len:∀ {kd:Kd} {v:Vd},kd.Val v→(kd.byt v).length=kd.rm.1.toNat
  | .num w m,.num n,_=>by simp only [Kd.byt]; rw [ey_]; rfl
  | .row k n,.row vs,_=>by simp only [Kd.byt]; rw [ek_,List.length_replicate]; rfl
  | .rcd fs,.rcd vs,_=>by simp only [Kd.byt]; rw [gr_,List.length_replicate]; rfl
  | .cho ks,.cho k v,_=>by simp only [Kd.byt]; rw [dt_,List.length_set,List.length_replicate]; rfl
theorem getD_lt {l:List Int} {i:Nat} (h:l.getD i 0≠0):i < l.length:=by
  by_cases c:i < l.length
  · exact c
  · rw [List.getD_eq_getElem?_getD, List.getElem?_eq_none (by omega)] at h
    exact absurd rfl h
theorem hw_ (n i:Nat):(List.replicate n (0:Int)).getD i 0=0:=by
  rw [List.getD_eq_getElem?_getD,List.getElem?_replicate]
  split <;> rfl
theorem lay_nz {l s:List Int} {p i:Nat} (h:(lay l p s).getD i 0≠0):(p≤i∧s.getD (i - p) 0≠0)∨l.getD i 0≠0:=by
  have hi:=getD_lt h
  rw [dt_] at hi
  rw [List.getD_eq_getElem?_getD,hh_,List.getElem?_eq_getElem hi] at h
  have h':(if p≤i∧i < p + s.length then s.getD (i - p) 0 else l[i])≠0:=h
  by_cases c:p≤i∧i < p + s.length
  · rw [if_pos c] at h'
    exact .inl ⟨c.1,h'⟩
  · rw [if_neg c] at h'
    refine .inr ?_
    rw [List.getD_eq_getElem?_getD,List.getElem?_eq_getElem hi]
    exact h'
theorem layRow_nz (f:Vd→List Int) (step:Nat):∀ (vs:List Vd) (j:Nat) (l:List Int) (i:Nat),(layRow f step j vs l).getD i 0≠0→l.getD i 0≠0∨∃ t v,vs[t]? = some v∧(j + t) * step≤i∧(f v).getD (i - (j + t) * step) 0≠0
  | [],_,_,_,h=>.inl h
  | v :: r, j, l, i, h => by
    rcases layRow_nz f step r (j + 1) _ i h with a | ⟨t,u,a,b,c⟩
    · rcases lay_nz a with ⟨b, c⟩ | b
      · exact .inr ⟨0,v,rfl,b,c⟩
      · exact .inl b
    · have e : j + 1 + t = j + (t + 1) := by omega
      rw [e] at b c
      exact .inr ⟨t + 1,u,a,b,c⟩
mutual
theorem Kd.byt_nz:∀ (kd:Kd) (v:Vd) (i:Nat),kd.Ok→kd.Val v→(kd.byt v).getD i 0≠0→kd.bz i=true
  | .num w m, .num n, i, h, hv, hz => by
    have hi:=getD_lt hz
    rw [Kd.byt_len hv] at hi
    have hi:i < w.toNat:=hi
    unfold Kd.bz
    show (List.replicate w.toNat true)[i]?.getD false=true
    rw [List.getElem?_replicate,if_pos hi]
    rfl
  | .row k n, .row vs, i, h, hv, hz => by
    simp only [Kd.byt] at hz
    obtain ⟨v1,v2⟩:=(show (vs.length:Int)=n∧∀ v∈vs,k.Val v from by simpa only [Kd.Val] using hv)
    rcases layRow_nz _ _ _ _ _ _ hz with a | ⟨t,u,a,b,c⟩
    · exact absurd (hw_ _ _) a
    · rw [Nat.zero_add] at b c
      have ht:=(List.getElem?_eq_some_iff.mp a).1
      exact (bz_row h.1 i).mpr ⟨t,by omega,b,Kd.byt_nz k u _ h.1 (v2 u (List.mem_of_getElem? a)) c⟩
  | .rcd fs, .rcd vs, i, h, hv, hz => by
    have hi:=getD_lt hz
    rw [Kd.byt_len hv] at hi
    have hi:i < (rcdRm (rmF fs)).1.toNat:=hi
    have hv':valF fs vs:=by simpa only [Kd.Val] using hv
    simp only [Kd.byt] at hz
    unfold Kd.bz
    show (filF (plcs 0 (rmF fs)) fs (List.replicate (rcdRm (rmF fs)).1.toNat false))[i]?.getD false=true
    rw [ht_ _ _ _ _ (by rw [List.length_replicate]; exact hi)]
    rcases bytF_nz fs (plcs 0 (rmF fs)) vs _ i h.1 hv' hz with a | a
    · exact absurd (hw_ _ _) a
    · rw [a,Bool.or_true]
  | .cho ks, .cho k v, i, h, hv, hz => by
    have hi:=getD_lt hz
    rw [Kd.byt_len hv] at hi
    have hi:i < (choRm (rmK ks)).1.toNat:=hi
    have hv':valK ks k v:=by simpa only [Kd.Val] using hv
    simp only [Kd.byt] at hz
    unfold Kd.bz
    show (filK (up 1 (choRm (rmK ks)).2).toNat ks ((List.replicate (choRm (rmK ks)).1.toNat false).set 0 true))[i]?.getD false=true
    rw [hr_ _ _ _ _ (by rw [List.length_set,List.length_replicate]; exact hi)]
    rcases lay_nz hz with ⟨a,b⟩ | a
    · rw [bzK_any, decide_eq_true a, bytK_nz ks k v _ h.1 hv' b]
      exact Bool.or_true _
    · by_cases c : i = 0
      · subst c
        rw [List.getElem?_set_self (by rw [List.length_replicate]; exact hi)]
        rfl
      · rw [List.getD_eq_getElem?_getD, List.getElem?_set_ne (fun e => c e.symm), ← List.getD_eq_getElem?_getD] at a
        exact absurd (hw_ _ _) a
  | .num _ _,.row _,_,_,hv,_ | .num _ _,.rcd _,_,_,hv,_ | .num _ _,.cho _ _,_,_,hv,_=>by simp only [Kd.Val] at hv
  | .row _ _,.num _,_,_,hv,_ | .row _ _,.rcd _,_,_,hv,_ | .row _ _,.cho _ _,_,_,hv,_=>by simp only [Kd.Val] at hv
  | .rcd _,.num _,_,_,hv,_ | .rcd _,.row _,_,_,hv,_ | .rcd _,.cho _ _,_,_,hv,_=>by simp only [Kd.Val] at hv
  | .cho _,.num _,_,_,hv,_ | .cho _,.row _,_,_,hv,_ | .cho _,.rcd _,_,_,hv,_=>by simp only [Kd.Val] at hv
theorem bytF_nz:∀ (fs:List (PySem.Str×Kd)) (ps:List Int) (vs:List Vd) (l:List Int) (i:Nat),okF fs→valF fs vs→(bytF ps fs vs l).getD i 0≠0→l.getD i 0≠0∨bzF ps fs i=true
  | [],ps,vs,l,i,_,_,h=>by simp only [bytF] at h; exact .inl h
  | f :: r,[],vs,l,i,_,_,h=>by simp only [bytF] at h; exact .inl h
  | f :: r,p :: ps,[],l,i,_,hv,h=>by simp only [valF] at hv
  | f :: r, p :: ps, v :: vs, l, i, ho, hv, h => by
    simp only [bytF] at h
    simp only [valF] at hv
    rcases bytF_nz r ps vs _ i ho.2 hv.2 h with a | a
    · rcases lay_nz a with ⟨b, c⟩ | b
      · right
        show ((decide (p.toNat≤i) && f.2.bz (i - p.toNat)) || bzF ps r i)=true
        rw [decide_eq_true b,Kd.byt_nz f.2 v _ ho.1 hv.1 c]
        rfl
      · exact .inl b
    · right
      show ((decide (p.toNat≤i) && f.2.bz (i - p.toNat)) || bzF ps r i)=true
      rw [a,Bool.or_true]
theorem bytK_nz:∀ (ks:List Kd) (k:Nat) (v:Vd) (i:Nat),okK ks→valK ks k v→(bytK ks k v).getD i 0≠0→(ks.any fun k=>k.bz i)=true
  | [],k,v,i,_,hv,_=>by simp only [valK] at hv
  | a :: r, 0, v, i, ho, hv, h => by
    simp only [bytK] at h
    simp only [valK] at hv
    rw [List.any_cons,Kd.byt_nz a v i ho.1 hv h]
    rfl
  | a :: r, j + 1, v, i, ho, hv, h => by
    simp only [bytK] at h
    simp only [valK] at hv
    rw [List.any_cons,bytK_nz r j v i ho.2 hv h,Bool.or_true]
end
end Lf
namespace Lf
theorem lay_get {l s:List Int} {p i:Nat} (hi:i < l.length):(lay l p s).getD i 0=if p≤i∧i < p + s.length then s.getD (i - p) 0 else l.getD i 0:=by
  rw [List.getD_eq_getElem?_getD,hh_,List.getElem?_eq_getElem hi]
  show (if p≤i∧i < p + s.length then s.getD (i - p) 0 else l[i])=_
  split
  · rfl
  · rw [List.getD_eq_getElem?_getD, List.getElem?_eq_getElem hi]
    rfl
theorem iq_ (f:Vd→List Int) (step:Nat):∀ (vs:List Vd) (j:Nat) (l:List Int) (i:Nat),i < j * step→(layRow f step j vs l).getD i 0=l.getD i 0
  | [],_,_,_,_=>rfl
  | v :: r, j, l, i, h => by
    have h':i < (j + 1) * step:=Nat.lt_of_lt_of_le h (Nat.mul_le_mul_right _ (Nat.le_succ _))
    show (layRow f step (j + 1) r _).getD i 0=_
    rw [iq_ f step r (j + 1) _ i h']
    by_cases c:i < l.length
    · rw [lay_get c,if_neg (by omega)]
    · rw [List.getD_eq_getElem?_getD,List.getD_eq_getElem?_getD,List.getElem?_eq_none (by rw [dt_]; omega),List.getElem?_eq_none (by omega)]
theorem layRow_get (f:Vd→List Int) (step:Nat):∀ (vs:List Vd) (j:Nat) (l:List Int) (i t:Nat) (v:Vd),(∀ u∈vs,(f u).length≤step)→vs[t]? = some v→(j + t) * step≤i→i < (j + t) * step + (f v).length→i < l.length→(layRow f step j vs l).getD i 0=(f v).getD (i - (j + t) * step) 0
  | [],_,_,_,_,_,_,h,_,_,_=>by simp at h
  | u :: r, j, l, i, 0, v, hs, h, h1, h2, h3 => by
    have e:u=v:=by simpa using h
    subst e
    have hl:=hs u List.mem_cons_self
    rw [Nat.add_zero] at h1 h2 ⊢
    show (layRow f step (j + 1) r _).getD i 0=_
    rw [iq_ f step r (j + 1) _ i (by rw [Nat.add_mul,Nat.one_mul]; omega),lay_get h3,if_pos ⟨h1,h2⟩]
  | u :: r, j, l, i, t + 1, v, hs, h, h1, h2, h3 => by
    have e:j + (t + 1)=j + 1 + t:=by omega
    rw [e] at h1 h2 ⊢
    exact layRow_get f step r (j + 1) _ i t v (fun w hw=>hs w (List.mem_cons_of_mem _ hw)) (by simpa using h) h1 h2 (by rw [dt_]; exact h3)
end Lf
namespace Lf
theorem bytF_keep:∀ (fs:List (PySem.Str×Kd)) (ps:List Int) (vs:List Vd) (l:List Int) (i:Nat),(∀ p∈ps,i < p.toNat)→(bytF ps fs vs l).getD i 0=l.getD i 0
  | [],ps,vs,l,i,_=>by simp only [bytF]
  | f :: r,[],vs,l,i,_=>by simp only [bytF]
  | f :: r,p :: ps,[],l,i,_=>by simp only [bytF]
  | f :: r, p :: ps, v :: vs, l, i, h => by
    simp only [bytF]
    rw [bytF_keep r ps vs _ i fun q hq=>h q (List.mem_cons_of_mem _ hq)]
    have hp:=h p List.mem_cons_self
    by_cases c:i < l.length
    · rw [lay_get c,if_neg (by omega)]
    · rw [List.getD_eq_getElem?_getD,List.getD_eq_getElem?_getD,List.getElem?_eq_none (by rw [dt_]; omega),List.getElem?_eq_none (by omega)]
end Lf
namespace Lf
end Lf
namespace L2
open PySem PySem.Spec PyProof.Rows
section
variable {X:Cx} {pins:PN_} {σ:St} {H:Hp} {s:Shared} {a:Addr}
theorem Inv.other {u u':HO} (I:Inv X pins σ H s) (e:H a=some u) (n1:∀ y,u ≠ .own y) (n2:∀ xs,u ≠ .tup xs) (n3:∀ ps,u ≠ .tbl ps) (n4:∀ o v,X.H₀ a≠some (.frz o v)) (hok:ObjOk X.prog X.w (upd H a u') s.heap a u'):Inv X pins σ (upd H a u') s:=by
  have ne:∀ {b:Addr},H b=none→b≠a:=fun h z=>by rw [z,e] at h; cases h
  refine ⟨I.ok,I.os,I.bare,⟨I.base.keep,I.base.slot,fun b o h1 h2 h3 => ?_,I.base.there,fun b xs h => ?_,fun b o v h => ?_,fun b ps h => ?_⟩,I.loc,I.cell,?_,fun x c h => ?_,fun p hp => ?_,fun b v h => ?_,I.len⟩
  · have := I.base.free b o h1 h2 h3
    rw [al_ (ne this)]; exact this
  · have := I.base.tups b xs h
    rw [al_ (fun z=>by rw [z,e] at this; exact n2 _ (Option.some.inj this))]; exact this
  · have := I.base.frzs b o v h
    rw [al_ (fun z=>n4 o v (by rw [← z]; exact h))]; exact this
  · obtain ⟨m, q⟩ := I.base.tbls b ps h
    exact ⟨m,by rw [al_ (fun z=>by rw [z,e] at q; exact n3 _ (Option.some.inj q))]; exact q⟩
  · rw [al_ (ne I.free)]; exact I.free
  · rw [al_ (ne (I.freeC x c h))]; exact I.freeC x c h
  · obtain ⟨p1, p2, p3⟩ := I.pin p hp
    exact ⟨p1,by rw [al_ (ne p2)]; exact p2,p3⟩
  · by_cases hb : b = a
    · subst hb
      rw [upd_same] at h
      cases h
      exact hok
    · rw [al_ hb] at h
      refine (I.hok b v h).stay (fun _ _ _ q=>q) (fun c q => ?_) fun c xs q => ?_
      · rw [al_ (fun z=>by rw [z,e] at q; exact n1 _ (Option.some.inj q))]; exact q
      · rw [al_ (fun z=>by rw [z,e] at q; exact n2 _ (Option.some.inj q))]; exact q
theorem dk_upd {P:Program} {w:World} {H H':Hp} {h:Heap} {a:Addr} {kvs:List (Key×V)} (x:ObjOk P w H h a (.dK kvs)):ObjOk P w H' h a (.dK kvs):=x
theorem Inv.freeze {kvs:List (Key×V)} (I:Inv X pins σ H s) (e:H a=some (.dK kvs)):∃ o,Inv X pins σ (upd H a (.frz o (.dK kvs))) s:=by
  have x:=I.hok a _ e
  obtain ⟨_,_,vs,r,o,es,ep,h1,h2⟩:=id x
  refine ⟨o,I.other e (fun _ z=>by cases z) (fun _ z=>by cases z) (fun _ z=>by cases z) (fun o v z => ?_) ⟨h1,dk_upd x⟩⟩
  have:=I.base.frzs a o v z
  rw [e] at this; cases this
theorem Inv.thaw {o:Obj} {kvs:List (Key×V)} (I:Inv X pins σ H s) (e:H a=some (.frz o (.dK kvs))) (n:∀ o v,X.H₀ a≠some (.frz o v)):Inv X pins σ (upd H a (.dK kvs)) s :=
  I.other e (fun _ z=>by cases z) (fun _ z=>by cases z) (fun _ z=>by cases z) n (dk_upd (I.hok a _ e).2)
end
def tFrz (H0:Hp) (t:TE):TE:=fun σ H Q => ∃ a kvs,H a=some (.dK kvs)∧(∀ o v,H0 a≠some (.frz o v))∧∀ o,t σ (upd H a (.frz o (.dK kvs))) fun v H'=>H' a=some (.frz o (.dK kvs))∧Q v (upd H' a (.dK kvs))
theorem pe_frz {X:Cx} {e:Expr} {t:TE} (h:PE X e t):PE X e (tFrz X.H₀ t):=by
  intro pins s σ H Q I ⟨a,kvs,ha,hn,q⟩
  obtain ⟨o,I1⟩:=I.freeze ha
  refine thn (h pins s σ _ _ I1 (q o)) fun u s1 ⟨v,H1,I2,r,e1,q1⟩=>⟨v,_,I2.thaw e1 hn,r,q1⟩
def Itd (a:Addr) (o:Obj) (kvs:List (Key×V)):It :=
  ⟨fun i H=>H a=some (.frz o (.dK kvs))∧i < kvs.length,fun i H x H'=>H'=H∧∃ kv,kvs[i]? = some kv∧x=kV kv.1,fun i H=>H a=some (.frz o (.dK kvs))∧kvs.length≤i⟩
theorem is_kV {P:Program} {w:World} {k:Key} {u:Value} (h:(mixKind P w).is k u=true):RelV (kV k) u:=by
  cases k with
  | inl i=>exact Value.isInt_shape (k:=i) h
  | inr x=>exact Value.isStrOf_shape (x:=x) h
theorem KV.at' {kvs:List (Key×V)} {vs:List (Key×Value)} (r:KV kvs vs):∀ {i:Nat} {kv:Key×V},kvs[i]? = some kv→∃ u,vs[i]? = some (kv.1,u):=by
  induction r with
  | nil=>intro i kv h; simp at h
  | @cons p q ps qs hq t ih =>
    intro i kv h
    cases i with
    | zero=>simp at h; subst h; exact ⟨q.2,by simp [hq.1]⟩
    | succ i=>obtain ⟨u,e⟩:=ih (i:=i) (by simpa using h); exact ⟨u,by simpa using e⟩
theorem frz_dict {X:Cx} {pins:PN_} {σ:St} {H:Hp} {s:Shared} {a:Addr} {o:Obj} {kvs:List (Key×V)} {es:Array DictEntry} {ep:Nat} (I:Inv X pins σ H s) (e:H a=some (.frz o (.dK kvs))) (hd:o.data=.dict es ep) :
    (a == sysModules)=false∧∃ vs,KV kvs vs∧s.heap.DictAt (mixKind X.prog X.w) a vs ep:=by
  obtain ⟨h0,_,y,vs,r,o',es',ep',h1,h2,h3,h4⟩:=(show ObjOk X.prog X.w H s.heap a (.frz o (.dK kvs)) from I.hok a _ e)
  rw [h0] at h1
  cases h1
  rw [hd] at h3
  cases h3
  exact ⟨y,vs,r,o,es,h0,h2,hd,h4⟩
theorem turn_keys {P:Program} {w:World} {K:FG_} {tg:Expr} (a it:Addr) (hne:a≠it) (o:Obj) (kvs:List (Key×V)) (es:Array DictEntry) (ep:Nat) (hd:o.data=.dict es ep):Turn P w K tg (Itd a o kvs) [it] it (fun i h=>h.IsKeyIter it a i kvs.length ep) where
  mem:=by simp
  obj:=fun i h st b hb=>by
    have e:b=it:=by simpa using hb
    subst e
    obtain ⟨o,e,c,d⟩:=st
    exact ⟨o,e,fun v z=>by rw [d] at z; cases z⟩
  keep:=fun i h h' st k=>st.at fun o e=>k it (by simp) o e
  item:=by
    intro X hP hw hK hc i pins s σ H E I hf st hg
    subst hP hw hK
    obtain ⟨ha,hi⟩:=hg
    obtain ⟨y,vs,r,dd⟩:=frz_dict I ha hd
    obtain ⟨f0,f1,f2,f3,f4,f5⟩:=hf it (by simp)
    have hl:kvs.length=vs.length:=r.length
    obtain ⟨u,hu⟩:=r.at' (List.getElem?_eq_getElem hi)
    rw [hl] at st
    refine wpAny_pyNext_dict_item st dd hu fun key h' hk st' sb => ?_
    have I1:Inv X pins σ H { s with heap:=h' }:=I.turned (t':=s.toks) (fun b o hb e=>(sb.2 b hb).trans e) f0 f1 f3 f4 f5
    rw [← hl] at st'
    obtain ⟨o',e,c,d⟩:=id st'
    exact ⟨key,rfl,go_of (s:={ s with heap:=h' }) e c d (by decide) ⟨kV kvs[i].1,H,I1,is_kV hk,⟨rfl,_,List.getElem?_eq_getElem hi,rfl⟩,st',fun b hb=>(hf b hb).1⟩⟩
  done:=by
    intro X hP hw hK hc i pins s σ H E I hf st hg
    subst hP hw hK
    obtain ⟨ha,hi⟩:=hg
    obtain ⟨y,vs,r,dd⟩:=frz_dict I ha hd
    obtain ⟨f0,f1,f2,f3,f4,f5⟩:=hf it (by simp)
    have hl:kvs.length=vs.length:=r.length
    rw [hl] at st
    exact wpAny_pyNext_dict_end (I.ok.hd hc) st dd (by simp; omega) fun h' eb=>⟨rfl,I.turned (t':=s.toks) (fun b o hb e=>eb b o hb e) f0 f1 f3 f4 f5⟩
  self:=fun _ _ _ _ _ st h=>wpAny_pyIter_keyiter st h
def iKeys (tl:TE):TI:=fun σ H R=>tl σ H fun x H1 => ∃ a o kvs,x=.ref a∧H1 a=some (.frz o (.dK kvs))∧R (Itd a o kvs) H1
theorem pi_keys {X:Cx} {tg l:Expr} {tl:TE} (hl:PE X l tl):PI X tg l (iKeys tl):=by
  intro pins s σ H R I h
  refine thn (hl pins s σ H _ I h) fun v s1 ⟨x,H1,I1,r1,q1⟩ => ?_
  obtain ⟨a,o,kvs,e,ha,q⟩:=q1
  subst e
  cases r1
  obtain ⟨h0,_,y,vs,r,o',es,ep,h1,h2,h3,h4⟩:=(show ObjOk X.prog X.w H1 s1.heap a (.frz o (.dK kvs)) from I1.hok a _ ha)
  rw [h0] at h1
  cases h1
  have hl:kvs.length=vs.length:=r.length
  refine wpAny_pyIter_dict y (⟨o,es,h0,h2,h3,h4⟩ : s1.heap.DictAt (mixKind X.prog X.w) a vs ep) ?_
  refine ⟨s1.heap.objs.size,[s1.heap.objs.size],_,_,H1,rfl,I1.kept (t':=s1.toks) fun b o e=>Heap.get?_push_of_some _ e,turn_keys a _ (Nat.ne_of_lt (Heap.lt_size h0)) o kvs es ep h3,⟨_,Heap.get?_push_size _ rfl,rfl,by rw [hl]; rfl⟩,fun b hb => ?_,q⟩
  have e:b=s1.heap.objs.size:=by simpa using hb
  subst e
  exact I1.fpOk (Nat.le_refl _) (I1.hok.fresh (Nat.le_refl _))
section
variable {X:Cx}
theorem gn_ (a:Int) (t:Tok) {prog:Program} {w:World} {A:Around} {E:SV_} {s:Shared} {Q:SV_} (h:∀ t',Q (.int (Builtin.Int.intBits a) t') { s with toks:=s.toks + 1 }) :
    wpAny (model prog w) A (call (.builtin "int.bit_length") [.int a t]) Q E s:=by
  refine wpAny_call_entry F.slot_int_bit_length (typeIs_int s a t) F.entry_int_bit_length ?_ (F.args_int_bit_length_1 _)
  unfold Builtin.«int.bit_length»
  obtain ⟨hp,g,d,tk,os⟩:=s
  wp_walk
  exact ⟨_,rfl,h _⟩
def rBits:V→List V→Hp→VK→Prop:=fun x vs H Q => ∃ i:Int,x=.int i∧vs=[]∧Q (.int (Builtin.Int.intBits i)) H
theorem mt_bit_length:MtR X "int.bit_length" rBits:=by
  intro pins s σ H x vs v us Q I rx rv h
  obtain ⟨i,rfl,rfl,q⟩:=h
  obtain ⟨t,rfl⟩:=rx
  cases rv
  exact gn_ i t fun t'=>⟨.int _,H,I.tok _,⟨_,rfl⟩,q⟩
end
end L2
namespace L2
open PySem PySem.W PySem.Spec PyProof.Rows PySem.Calls
def allF (h:Heap):Frag:=(List.range h.objs.size).filterMap fun a=>(h.get? a).map fun o=>(a,o)
theorem lookup_mem {α β:Type} [BEq α] [LawfulBEq α] {a:α} {b:β}:∀ {l:List (α×β)},l.lookup a=some b→(a,b)∈l
  | [],h=>by simp at h
  | (c, d) :: r, h => by
    by_cases e:a=c
    · subst e; simp at h; subst h; exact List.mem_cons_self
    · rw [List.lookup_cons, beq_eq_false_iff_ne.mpr e] at h
      exact List.mem_cons_of_mem _ (lookup_mem h)
theorem allF_in (h:Heap):(allF h).In h:=fun a o e=>by
  obtain ⟨b,_,hb⟩:=List.mem_filterMap.mp (lookup_mem e)
  obtain ⟨o',h1,h2⟩:=Option.map_eq_some_iff.mp hb
  cases h2
  exact h1
def exHook {α:Type} (f:Frag→α) (v:α):Hook where
  α:=α
  obs:=fun s=>f (allF s.heap)
  val:=fun _=>v
  says:=fun _ h => ∃ K:Frag,K.In h∧f K=v
  of:=fun _ s e=>⟨allF s.heap,allF_in _,e⟩
  keeps:=fun _ _ _ e g=>by
    obtain ⟨K,k,e⟩:=e
    exact ⟨K,fun a o q=>g _ _ (k a o q),e⟩
theorem boot_size:∀ w:World,((boot_heap w.params).isNs mainGlobals && (Array.mk []:Array GenState).size == 0,(boot_heap w.params).objs.size,(boot_heap w.params).nsMap mainGlobals "__annotations__")=(true,11,some (.ref 6)):=fun w=>by kernel_rfl
noncomputable def onceSeen (tr:(String→Option Builtin)→Program→World→Nat→Option Value→Nat→Shared→Thread→Option Shared) (tb:String→Option Builtin) (im:List Stmt→List Str) {β:Type} (os:List Str→Shared→β) (p:Program) (N:Nat) {α:Type} (Yf:Frag→α) (w:World) (o:OsState):Option (Bool×β×α) :=
  (tr tb p w 11 (some (.ref 6)) N ⟨boot_heap w.params,Array.mk [],boot_drawn,boot_toks,o⟩ (topStub p)).map fun s₁ =>
    (staticsOk (im p.main.body) (boot_heap w.params) s₁.heap && namesBound p s₁.heap && gensDone s₁ && laidKept (boot_heap w.params) s₁.heap,os (im p.main.body) s₁,Yf (allF s₁.heap))
theorem left_once {p q:Program} {loose:List Str} {Xt:Shared→Bool} {α:Type} {Yf:Frag→α} {v:α} {N:Nat} {g0:Bool} (hN:Nat.ble 600 N=true) (e:opening p=plainProg p.main.scope.names) (f:∀ s,fenceModules? p s=some s)
    (all:∀ w:World,onceSeen topRun treeTable importedModules (fun m s=>openSeen q loose m Xt g0 s) p N Yf w=fun _=>some (true,openGood q loose,v)) :
    LeftO p q loose Xt (exHook Yf v).obs (exHook Yf v).val N g0:=fun w=>by
  obtain ⟨⟨h,gs,d,k,os⟩,e1,e'⟩:=Option.map_eq_some_iff.mp (boot_open e hN f w)
  obtain ⟨rfl,rfl,rfl,rfl⟩ : h=boot_heap w.params∧gs=Array.mk []∧d=boot_drawn∧k=boot_toks:=by simpa using e'
  obtain ⟨z1,z2,z3⟩ : _∧_∧_:=by simpa only [Prod.mk.injEq] using boot_size w
  obtain ⟨s₁,r,r2⟩:=Option.map_eq_some_iff.mp (congrFun (all w) os)
  obtain ⟨l1,l2,l3⟩ : _∧_∧_:=by simpa only [Prod.mk.injEq] using r2
  have t:topFrom treeTable p w N ⟨boot_heap w.params,Array.mk [],boot_drawn,boot_toks,os⟩=some s₁:=by
    unfold topFrom
    dsimp only
    rw [z1,z2,z3]
    show (topRun treeTable p w 11 (some (.ref 6)) N _ (topStub p)).bind _=_
    rw [r]
    show (match staticsOk (importedModules p.main.body) (boot_heap w.params) s₁.heap && namesBound p s₁.heap && gensDone s₁ && laidKept (boot_heap w.params) s₁.heap with | true=>_ | false=>_)=_
    rw [l1]
  unfold openEnds
  rw [e1]
  show (topFrom treeTable p w N _).map _=_
  rw [t]
  exact congrArg some (Prod.ext l2 l3)
theorem walk_ex {l:PySem.W.OpenLaw} {n k:Nat} {q:Program} {loose:List Str} {XP:(Str→Option Value)→Heap→Prop} {α:Type} {f:Frag→α} {v:α} {d:DefRec} {CX:CXT} {sp:PySem.W.Frag→Sp} {x:Str}
    (hn:l.most=some n) (hn2:n≤sizeLine) (hdf:d.params.defaults=[]) (hr:Room k callerA)
    (F:∀ (w:World) (K:Frag) (mg:MG_) (fa:Addr) (h:Heap),f K=v→K.In h→h.Ns mainGlobals mg→mg d.name=some (.ref fa) →
      ∃ fd : FuncData, (∀ (s : Shared) (u : Value), BindsTo s fd ⟨[u], []⟩ [(x, u)]) ∧
        ∀ base:Heap,K.In base→base.Ns mainGlobals mg→FnOk l.prog w K mg base CX k fa fd [x] (sp K))
    (hsp:∀ (K:FG_) (H:Hp) (a:Addr) (ns:List Int),ns.length≤n→Only H→SqL K H a (ns.map V.int)→sp K [.ref a] H (fun v _=>v=.bl true) fun _ _ _=>False)
    (hCX:∀ (H:Hp) (s:Shared) (e:Value) (s':Shared),CX [] H s (fun _ _ _=>False) e s'→False) :
    PySem.W.WalkO q loose XP (exHook f v).says l.row.toRowW d [] (fun f vs=>PySem.call f vs):=by
  refine Att.attach_call hn hdf fun w s₀ s₁ mg mb fa o pm cd doc a vs ns G Y ho hd hcd hmg hobj hints hlen hg => ?_
  obtain ⟨K,KX,hK⟩:=Y
  obtain ⟨fd,hb,hF⟩:=F w K mg fa _ hK KX G.T.g hmg
  exact law_call KX G.T.g G.T.b G.T.builtins G.T.nolimit hg hobj hints (Nat.le_trans hlen hn2) hr hF hb (fun H hO hS=>hsp K H a ns hlen hO hS) fun H e s'=>hCX H s₁ e s'
def topOf (p:Program) (i:Nat):Stmt:=p.main.body.getD i (.Pass ⟨0,0,0,0⟩)
def defName (s:Stmt):Str:=match s with
  | .FunctionDef n .. => n
  | .Assign [.Name n _] _ _=>n
  | _=>⟨#[]⟩
abbrev FO:=Option ((Str×Str×Arguments×FuncBody×Scope)×(Addr×List (Str×Addr)×Value×Addr)×Bool)
def obsDef (K:Frag) (n:Str):FO:=match nsIn K mainGlobals n with
  | some (some (.ref f)) => (match K.lookup f with
    | some ⟨_,_,.func fd,_⟩=>some ((fd.name,fd.qualname,fd.params,fd.body,fd.scope),(fd.globals,fd.closure,fd.defaults,fd.builtins),codeIn K fd.code n)
    | _=>none)
  | _=>none
def expDef (s:Stmt):FO:=some ((defName s,defName s,defArgs s,.stmts (defBody s),defScope s),(mainGlobals,[],.none,builtinsNs),true)
def obsNo (K:Frag) (n:Str):Bool:=match nsIn K mainGlobals n with
  | some none=>true
  | _=>false
def obsVal (K:Frag) (n:Str):Option V:=match nsIn K mainGlobals n with
  | some (some v)=>absV v
  | _=>none
def obsTup (K:Frag) (n:Str):Option (List (Option V)):=match nsIn K mainGlobals n with
  | some (some (.ref a)) => (match K.lookup a with
    | some ⟨.type "tuple",_,.seq xs _,_⟩=>some (xs.toList.map absV)
    | _=>none)
  | _=>none
theorem ah_ {K:Frag} {s:Stmt} (h:obsDef K (defName s)=expDef s):∃ f fd,nsIn K mainGlobals (defName s)=some (some (.ref f))∧Fun K (defName s) (defName s) s f fd:=by
  unfold obsDef at h
  cases e:nsIn K mainGlobals (defName s) with
  | none=>rw [e] at h; cases h
  | some o =>
    cases o with
    | none=>rw [e] at h; cases h
    | some v =>
      cases v with
      | ref f =>
        rw [e] at h
        dsimp only at h
        cases e2:K.lookup f with
        | none=>rw [e2] at h; cases h
        | some ob =>
          obtain ⟨oc,od,da,sl⟩:=ob
          rw [e2] at h
          cases da with
          | func fd =>
            obtain ⟨nm,qn,pa,bo,sc,gl,cl,df,kw,dc,pm,an,cd,ct,bl⟩:=fd
            simp only [expDef,Option.some.injEq,Prod.mk.injEq] at h
            obtain ⟨⟨rfl,rfl,rfl,rfl,rfl⟩,⟨rfl,rfl,rfl,rfl⟩,h3⟩:=h
            refine ⟨f,_,rfl,⟨oc,od,kw,dc,pm,an,cd,ct,sl,rfl,e2,h3⟩,?_⟩
            unfold keepIn
            dsimp only
            rw [e2]
          | _=>cases h
      | _=>rw [e] at h; cases h
theorem obsNo_ex {K:Frag} {n:Str} (h:obsNo K n=true):nsIn K mainGlobals n=some none:=by
  unfold obsNo at h
  split at h
  · assumption
  · cases h
theorem absV_rel:∀ {v:Value} {x:V},absV v=some x→RelV x v
  | .none,x,h=>by cases h; rfl
  | .bool b,x,h=>by cases h; rfl
  | .int i t,x,h=>by cases h; exact ⟨t,rfl⟩
  | .str i t,x,h=>by cases h; exact ⟨t,rfl⟩
  | .bytes i t,x,h=>by cases h; exact ⟨t,rfl⟩
  | .float i t,x,h=>by cases h; exact ⟨t,rfl⟩
  | .ref a,x,h=>by cases h; rfl
  | .type n,x,h=>by cases h; rfl
  | .builtin _,x,h=>by cases h
theorem obsVal_ex {K:Frag} {n:Str} {x:V} (h:obsVal K n=some x):∃ v,nsIn K mainGlobals n=some (some v)∧RelV x v:=by
  unfold obsVal at h
  split at h
  · exact ⟨_,by assumption,absV_rel h⟩
  · cases h
section
variable {K:Frag} {x qual:Str} {st:Stmt} {f:Addr} {fd:FuncData} {p1 p2 p3 p4 p5 p6:Str}
abbrev BA (x qual:Str) (st:Stmt) (us:List Value) (r:List (Str×Value)):Prop := ∀ (kV doc pm:Value) (an:Option Addr) (cdv ct:Value),bindArgs (PySem.W.fnOf x qual (defArgs st) (defBody st) (defScope st) .none kV doc pm an cdv ct) ⟨us,[]⟩=pure r
theorem binds1 (F:Fun K x qual st f fd) (h:∀ a,BA x qual st [a] [(p1,a)]):Binds K fd [p1] []:=F.binds fun _ _ _ _ _ _ us hl=>by
  match us,hl with
  | [a],_=>exact h a _ _ _ _ _ _
theorem binds2 (F:Fun K x qual st f fd) (h:∀ a b,BA x qual st [a,b] [(p1,a),(p2,b)]):Binds K fd [p1,p2] []:=F.binds fun _ _ _ _ _ _ us hl=>by
  match us,hl with
  | [a,b],_=>exact h a b _ _ _ _ _ _
theorem binds3 (F:Fun K x qual st f fd) (h:∀ a b c,BA x qual st [a,b,c] [(p1,a),(p2,b),(p3,c)]):Binds K fd [p1,p2,p3] []:=F.binds fun _ _ _ _ _ _ us hl=>by
  match us,hl with
  | [a,b,c],_=>exact h a b c _ _ _ _ _ _
end
def bltNs:List Str:=[⟨#[105,115,105,110,115,116,97,110,99,101]⟩,⟨#[105,110,116]⟩,⟨#[98,111,111,108]⟩,⟨#[108,105,115,116]⟩,⟨#[108,101,110]⟩,⟨#[115,116,114]⟩,⟨#[116,117,112,108,101]⟩,⟨#[97,108,108]⟩,⟨#[100,105,99,116]⟩,⟨#[109,97,120]⟩,⟨#[109,105,110]⟩,⟨#[114,97,110,103,101]⟩,⟨#[122,105,112]⟩,⟨#[101,110,117,109,101,114,97,116,101]⟩,⟨#[115,111,114,116,101,100]⟩,⟨#[115,117,109]⟩,⟨#[114,101,118,101,114,115,101,100]⟩]
theorem gb_ {K:Frag} (h:bltNs.map (obsNo K)=List.replicate 17 true) {n:Str} (i:Nat) (hi:i < 17) (e:bltNs[i]? = some n):nsIn K mainGlobals n=some none:=by
  refine obsNo_ex ?_
  have:=congrArg (fun l=>l[i]?) h
  simp only [List.getElem?_map,e,Option.map_some,List.getElem?_replicate,hi,if_true,Option.some.injEq] at this
  exact this
end L2
namespace Lf
open PySem L2
def All2 {α β:Type} (g:α→β→Prop):List α→List β→Prop
  | [],ys=>ys=[]
  | x :: xs,ys => ∃ y yr,ys=y :: yr∧g x y∧All2 g xs yr
section
variable {α β:Type} {g h:α→β→Prop}
theorem All2.nil:All2 g [] []:=rfl
theorem All2.imp (i:∀ v x,g v x→h v x):∀ {vs:List α} {xs:List β},All2 g vs xs→All2 h vs xs
  | [],_,e=>e
  | _ :: _,_,⟨x,xr,e,a,b⟩=>⟨x,xr,e,i _ _ a,All2.imp i b⟩
theorem All2.len:∀ {vs:List α} {xs:List β},All2 g vs xs→xs.length=vs.length
  | [],_,e=>by rw [show _=[] from e]; rfl
  | _ :: _,_,⟨x,xr,e,a,b⟩=>by rw [e,List.length_cons,List.length_cons,All2.len b]
theorem All2.get:∀ {vs:List α} {xs:List β} {i:Nat} {x:β},All2 g vs xs→xs[i]? = some x→∃ v,vs[i]? = some v∧g v x
  | [],_,_,_,e,h=>by rw [show _=[] from e] at h; simp at h
  | v :: vs,_,0,x,⟨y,yr,e,a,b⟩,h=>by rw [e] at h; cases (Option.some.inj h); exact ⟨v,rfl,a⟩
  | v :: vs, _, i + 1, x, ⟨y, yr, e, a, b⟩, h => by
    rw [e] at h
    obtain ⟨u,hu,hg⟩:=All2.get (i:=i) b (by simpa using h)
    exact ⟨u,by simpa using hu,hg⟩
theorem All2.at:∀ {vs:List α} {xs:List β} {i:Nat} {v:α},All2 g vs xs→vs[i]? = some v→∃ x,xs[i]? = some x∧g v x
  | [],_,_,_,e,h=>by simp at h
  | v :: vs,_,0,w,⟨y,yr,e,a,b⟩,h=>by rw [e]; cases (Option.some.inj h); exact ⟨y,rfl,a⟩
  | v :: vs, _, i + 1, w, ⟨y, yr, e, a, b⟩, h => by
    rw [e]
    obtain ⟨u,hu,hg⟩:=All2.at (i:=i) b (by simpa using h)
    exact ⟨u,by simpa using hu,hg⟩
theorem All2.app {us:List α} {ys:List β} (hu:All2 g us ys):∀ {vs:List α} {xs:List β},All2 g vs xs→All2 g (vs ++ us) (xs ++ ys)
  | [],_,e=>by rw [show _=[] from e]; exact hu
  | _ :: _,_,⟨y,yr,e,a,b⟩=>by rw [e]; exact ⟨y,yr ++ ys,rfl,a,All2.app hu b⟩
theorem All2.one {v:α} {x:β} (hg:g v x):All2 g [v] [x]:=⟨x,[],rfl,hg,rfl⟩
theorem All2.snoc {v:α} {x:β} (hg:g v x) {vs:List α} {xs:List β} (h:All2 g vs xs):All2 g (vs ++ [v]) (xs ++ [x]):=All2.app (All2.one hg) h
theorem All2.take:∀ (n:Nat) {vs:List α} {xs:List β},All2 g vs xs→All2 g (vs.take n) (xs.take n)
  | 0,_,_,_=>by simp only [List.take_zero]; rfl
  | n + 1,[],_,e=>by rw [show _=[] from e]; rfl
  | n + 1,_ :: _,_,⟨y,yr,e,a,b⟩=>by rw [e]; exact ⟨y,yr.take n,rfl,a,All2.take n b⟩
theorem All2.drop:∀ (n:Nat) {vs:List α} {xs:List β},All2 g vs xs→All2 g (vs.drop n) (xs.drop n)
  | 0,_,_,h=>h
  | n + 1,[],_,e=>by rw [show _=[] from e]; rfl
  | n + 1,_ :: _,_,⟨y,yr,e,a,b⟩=>by rw [e]; exact All2.drop n b
theorem All2.rev:∀ {vs:List α} {xs:List β},All2 g vs xs→All2 g vs.reverse xs.reverse
  | [],_,e=>by rw [show _=[] from e]; rfl
  | _ :: _,_,⟨y,yr,e,a,b⟩=>by rw [e,List.reverse_cons,List.reverse_cons]; exact All2.snoc a (All2.rev b)
theorem All2.set {v:α} {x:β} (hg:g v x):∀ (i:Nat) {vs:List α} {xs:List β},All2 g vs xs→All2 g (vs.set i v) (xs.set i x)
  | _,[],_,e=>by rw [show _=[] from e]; rfl
  | 0,_ :: _,_,⟨y,yr,e,a,b⟩=>by rw [e]; exact ⟨x,yr,rfl,hg,b⟩
  | i + 1,_ :: _,_,⟨y,yr,e,a,b⟩=>by rw [e]; exact ⟨y,yr.set i x,rfl,a,All2.set hg i b⟩
end
inductive Dx where
  | non | bl (b:Bool) | int (i:Int) | str (x:Str) | tup (l:List Dx) | lst (l:List Dx) | dic (l:List (Key×Dx)) | scr (K:FG_) (ns:List Int)
  | ins (C:Addr) (fs:List (Str×Dx)) | exc (c:Value)
def excP (a:Addr) (c:Value):Heap→Prop:=fun h => ∃ o vs,h.get? a=some o∧o.cls=c∧o.data=.fields vs∧o.dict=none
mutual
def IsX (H:Hp):Dx→V→Prop
  | .non,v=>v=.non
  | .bl b,v=>v=.bl b
  | .int i,v=>v=.int i
  | .str x,v=>v=.str x
  | .tup ds,v => ∃ a vs,v=.ref a∧H a=some (.tup vs)∧IsXs H ds vs
  | .lst ds,v => ∃ a vs,v=.ref a∧H a=some (.lst vs)∧IsXs H ds vs
  | .dic ks,v => ∃ a ws,v=.ref a∧Rd H a (.dK ws)∧IsXk H ks ws
  | .scr K ns,v => ∃ a,v=.ref a∧SqL K H a (ns.map V.int)
  | .ins C fs,v => ∃ a dx ws,v=.ref a∧H a=some (.ins C dx ws)∧IsXf H fs ws
  | .exc c,v => ∃ a,v=.ref a∧H a=some (.ext (excP a c))
def IsXs (H:Hp):List Dx→List V→Prop
  | [],vs=>vs=[]
  | d :: r,vs => ∃ v vr,vs=v :: vr∧IsX H d v∧IsXs H r vr
def IsXk (H:Hp):List (Key×Dx)→List (Key×V)→Prop
  | [],ws=>ws=[]
  | k :: r,ws => ∃ w wr,ws=w :: wr∧(k.1=w.1∧IsX H k.2 w.2)∧IsXk H r wr
def IsXf (H:Hp):List (Str×Dx)→List (Str×V)→Prop
  | [],ws=>ws=[]
  | k :: r,ws => ∃ w wr,ws=w :: wr∧(k.1=w.1∧IsX H k.2 w.2)∧IsXf H r wr
end
theorem IsXs.all {H:Hp}:∀ {ds:List Dx} {vs:List V},IsXs H ds vs↔All2 (IsX H) ds vs
  | [],vs=>by simp only [IsXs,All2]
  | d :: r, vs => by
    simp only [IsXs,All2]
    constructor
    · rintro ⟨v,vr,e,a,b⟩; exact ⟨v,vr,e,a,IsXs.all.mp b⟩
    · rintro ⟨v,vr,e,a,b⟩; exact ⟨v,vr,e,a,IsXs.all.mpr b⟩
abbrev KvX (H:Hp) (k:Key×Dx) (w:Key×V):Prop:=k.1=w.1∧IsX H k.2 w.2
theorem IsXk.all {H:Hp}:∀ {ds:List (Key×Dx)} {vs:List (Key×V)},IsXk H ds vs↔All2 (KvX H) ds vs
  | [],vs=>by simp only [IsXk,All2]
  | d :: r, vs => by
    simp only [IsXk,All2]
    constructor
    · rintro ⟨v,vr,e,a,b⟩; exact ⟨v,vr,e,a,IsXk.all.mp b⟩
    · rintro ⟨v,vr,e,a,b⟩; exact ⟨v,vr,e,a,IsXk.all.mpr b⟩
abbrev FvX (H:Hp) (k:Str×Dx) (w:Str×V):Prop:=k.1=w.1∧IsX H k.2 w.2
theorem IsXf.all {H:Hp}:∀ {ds:List (Str×Dx)} {vs:List (Str×V)},IsXf H ds vs↔All2 (FvX H) ds vs
  | [],vs=>by simp only [IsXf,All2]
  | d :: r, vs => by
    simp only [IsXf,All2]
    constructor
    · rintro ⟨v,vr,e,a,b⟩; exact ⟨v,vr,e,a,IsXf.all.mp b⟩
    · rintro ⟨v,vr,e,a,b⟩; exact ⟨v,vr,e,a,IsXf.all.mpr b⟩
def SameF (H H':Hp):Prop := ∀ b o,H b=some o→H' b=some o∨∃ ob ws,(o=.dK ws∧H' b=some (.frz ob (.dK ws)))∨(o=.frz ob (.dK ws)∧H' b=some (.dK ws))
theorem SameF.of {H H':Hp} (e:Same H H'):SameF H H':=fun b o h=>.inl (e _ _ h)
theorem SameF.tup {H H':Hp} (e:SameF H H') {a:Addr} {vs:List V} (h:H a=some (.tup vs)):H' a=some (.tup vs):=by
  rcases e _ _ h with q | ⟨ob,ws,q | q⟩
  · exact q
  · cases q.1
  · cases q.1
theorem SameF.lst {H H':Hp} (e:SameF H H') {a:Addr} {vs:List V} (h:H a=some (.lst vs)):H' a=some (.lst vs):=by
  rcases e _ _ h with q | ⟨ob,ws,q | q⟩
  · exact q
  · cases q.1
  · cases q.1
theorem SameF.dic {H H':Hp} (e:SameF H H') {a:Addr} {ws:List (Key×V)} (h:Rd H a (.dK ws)):Rd H' a (.dK ws):=by
  rcases h with h | ⟨o,h⟩
  · rcases e _ _ h with q | ⟨ob, ws, q | q⟩
    · exact .inl q
    · obtain ⟨q1,q2⟩:=q; cases q1; exact .inr ⟨_,q2⟩
    · cases q.1
  · rcases e _ _ h with q | ⟨ob, ws, q | q⟩
    · exact .inr ⟨_,q⟩
    · cases q.1
    · obtain ⟨q1,q2⟩:=q; cases q1; exact .inl q2
theorem SameF.ins {H H':Hp} (e:SameF H H') {a C dx:Addr} {ws:List (Str×V)} (h:H a=some (.ins C dx ws)):H' a=some (.ins C dx ws):=by
  rcases e _ _ h with q | ⟨ob,ws,q | q⟩
  · exact q
  · cases q.1
  · cases q.1
theorem SameF.ext {H H':Hp} (e:SameF H H') {a:Addr} {φ:Heap→Prop} (h:H a=some (.ext φ)):H' a=some (.ext φ):=by
  rcases e _ _ h with q | ⟨ob,ws,q | q⟩
  · exact q
  · cases q.1
  · cases q.1
theorem SameF.sq {H H':Hp} (e:SameF H H') {K:FG_} {a:Addr} {xs:List V} (h:SqL K H a xs):SqL K H' a xs:=by
  rcases h with (h | ⟨o,h⟩) | h
  · exact .inl (.inl (e.lst h))
  · rcases e _ _ h with q | ⟨ob, ws, q | q⟩
    · exact .inl (.inr ⟨o,q⟩)
    · cases q.1
    · cases q.1
  · exact .inr h
mutual
theorem IsX.sameF {H H':Hp} (e:SameF H H'):∀ (d:Dx) (v:V),IsX H d v→IsX H' d v
  | .non,v,h=>by simpa only [IsX] using h
  | .bl _,v,h=>by simpa only [IsX] using h
  | .int _,v,h=>by simpa only [IsX] using h
  | .str _,v,h=>by simpa only [IsX] using h
  | .tup ds, v, h => by
    simp only [IsX] at h ⊢
    obtain ⟨a,vs,h1,h2,h3⟩:=h
    exact ⟨a,vs,h1,e.tup h2,IsXs.sameF e ds vs h3⟩
  | .lst ds, v, h => by
    simp only [IsX] at h ⊢
    obtain ⟨a,vs,h1,h2,h3⟩:=h
    exact ⟨a,vs,h1,e.lst h2,IsXs.sameF e ds vs h3⟩
  | .dic ks, v, h => by
    simp only [IsX] at h ⊢
    obtain ⟨a,ws,h1,h2,h3⟩:=h
    exact ⟨a,ws,h1,e.dic h2,IsXk.sameF e ks ws h3⟩
  | .scr K ns, v, h => by
    simp only [IsX] at h ⊢
    obtain ⟨a,h1,h2⟩:=h
    exact ⟨a,h1,e.sq h2⟩
  | .ins C fs, v, h => by
    simp only [IsX] at h ⊢
    obtain ⟨a,dx,ws,h1,h2,h3⟩:=h
    exact ⟨a,dx,ws,h1,e.ins h2,IsXf.sameF e fs ws h3⟩
  | .exc c, v, h => by
    simp only [IsX] at h ⊢
    obtain ⟨a,h1,h2⟩:=h
    exact ⟨a,h1,e.ext h2⟩
theorem IsXs.sameF {H H':Hp} (e:SameF H H'):∀ (ds:List Dx) (vs:List V),IsXs H ds vs→IsXs H' ds vs
  | [],vs,h=>by simpa only [IsXs] using h
  | d :: r, vs, h => by
    simp only [IsXs] at h ⊢
    obtain ⟨v,vr,h1,h2,h3⟩:=h
    exact ⟨v,vr,h1,IsX.sameF e d v h2,IsXs.sameF e r vr h3⟩
theorem IsXk.sameF {H H':Hp} (e:SameF H H'):∀ (ds:List (Key×Dx)) (ws:List (Key×V)),IsXk H ds ws→IsXk H' ds ws
  | [],vs,h=>by simpa only [IsXk] using h
  | d :: r, vs, h => by
    simp only [IsXk] at h ⊢
    obtain ⟨v,vr,h1,h2,h3⟩:=h
    exact ⟨v,vr,h1,⟨h2.1,IsX.sameF e d.2 v.2 h2.2⟩,IsXk.sameF e r vr h3⟩
theorem IsXf.sameF {H H':Hp} (e:SameF H H'):∀ (ds:List (Str×Dx)) (ws:List (Str×V)),IsXf H ds ws→IsXf H' ds ws
  | [],vs,h=>by simpa only [IsXf] using h
  | d :: r, vs, h => by
    simp only [IsXf] at h ⊢
    obtain ⟨v,vr,h1,h2,h3⟩:=h
    exact ⟨v,vr,h1,⟨h2.1,IsX.sameF e d.2 v.2 h2.2⟩,IsXf.sameF e r vr h3⟩
end
theorem IsX.toF {H H':Hp} {d:Dx} {v:V} (h:IsX H d v) (e:SameF H H'):IsX H' d v:=IsX.sameF e d v h
theorem IsX.to {H H':Hp} {d:Dx} {v:V} (h:IsX H d v) (e:Same H H'):IsX H' d v:=IsX.sameF (.of e) d v h
theorem IsX.int_eq {H:Hp} {i:Int} {v:V} (h:IsX H (.int i) v):v=.int i:=by simpa only [IsX] using h
theorem IsX.bl_eq {H:Hp} {i:Bool} {v:V} (h:IsX H (.bl i) v):v=.bl i:=by simpa only [IsX] using h
theorem IsX.str_eq {H:Hp} {i:Str} {v:V} (h:IsX H (.str i) v):v=.str i:=by simpa only [IsX] using h
theorem IsX.non_eq {H:Hp} {v:V} (h:IsX H .non v):v=.non:=by simpa only [IsX] using h
theorem IsX.tup_eq {H:Hp} {l:List Dx} {v:V} (h:IsX H (.tup l) v):∃ a vs,v=.ref a∧H a=some (.tup vs)∧All2 (IsX H) l vs:=by
  simp only [IsX] at h
  obtain ⟨a,vs,h1,h2,h3⟩:=h
  exact ⟨a,vs,h1,h2,IsXs.all.mp h3⟩
theorem IsX.lst_eq {H:Hp} {l:List Dx} {v:V} (h:IsX H (.lst l) v):∃ a vs,v=.ref a∧H a=some (.lst vs)∧All2 (IsX H) l vs:=by
  simp only [IsX] at h
  obtain ⟨a,vs,h1,h2,h3⟩:=h
  exact ⟨a,vs,h1,h2,IsXs.all.mp h3⟩
theorem IsX.dic_eq {H:Hp} {l:List (Key×Dx)} {v:V} (h:IsX H (.dic l) v):∃ a ws,v=.ref a∧Rd H a (.dK ws)∧All2 (KvX H) l ws:=by
  simp only [IsX] at h
  obtain ⟨a,vs,h1,h2,h3⟩:=h
  exact ⟨a,vs,h1,h2,IsXk.all.mp h3⟩
theorem IsX.scr_eq {H:Hp} {K:FG_} {ns:List Int} {v:V} (h:IsX H (.scr K ns) v):∃ a,v=.ref a∧SqL K H a (ns.map V.int):=by simpa only [IsX] using h
theorem IsX.of_scr {H:Hp} {K:FG_} {ns:List Int} {a:Addr} (h:SqL K H a (ns.map V.int)):IsX H (.scr K ns) (.ref a):=by simp only [IsX]; exact ⟨a,rfl,h⟩
theorem IsX.ins_eq {H:Hp} {C:Addr} {fs:List (Str×Dx)} {v:V} (h:IsX H (.ins C fs) v):∃ a dx ws,v=.ref a∧H a=some (.ins C dx ws)∧All2 (FvX H) fs ws:=by
  simp only [IsX] at h
  obtain ⟨a,dx,ws,h1,h2,h3⟩:=h
  exact ⟨a,dx,ws,h1,h2,IsXf.all.mp h3⟩
theorem IsX.exc_eq {H:Hp} {c:Value} {v:V} (h:IsX H (.exc c) v):∃ a,v=.ref a∧H a=some (.ext (excP a c)):=by simpa only [IsX] using h
theorem IsX.of_ins {H:Hp} {C a dx:Addr} {fs:List (Str×Dx)} {ws:List (Str×V)} (h:H a=some (.ins C dx ws)) (h':All2 (FvX H) fs ws):IsX H (.ins C fs) (.ref a):=by simp only [IsX]; exact ⟨a,dx,ws,rfl,h,IsXf.all.mpr h'⟩
theorem IsX.of_exc {H:Hp} {c:Value} {a:Addr} (h:H a=some (.ext (excP a c))):IsX H (.exc c) (.ref a):=by simp only [IsX]; exact ⟨a,rfl,h⟩
theorem IsX.of_int {H:Hp} (i:Int):IsX H (.int i) (.int i):=by simp only [IsX]
theorem IsX.of_bl {H:Hp} (i:Bool):IsX H (.bl i) (.bl i):=by simp only [IsX]
theorem IsX.of_str {H:Hp} (i:Str):IsX H (.str i) (.str i):=by simp only [IsX]
theorem IsX.of_non {H:Hp}:IsX H .non .non:=by simp only [IsX]
theorem IsX.of_tup {H:Hp} {l:List Dx} {a:Addr} {vs:List V} (h:H a=some (.tup vs)) (h':All2 (IsX H) l vs):IsX H (.tup l) (.ref a):=by simp only [IsX]; exact ⟨a,vs,rfl,h,IsXs.all.mpr h'⟩
theorem IsX.of_lst {H:Hp} {l:List Dx} {a:Addr} {vs:List V} (h:H a=some (.lst vs)) (h':All2 (IsX H) l vs):IsX H (.lst l) (.ref a):=by simp only [IsX]; exact ⟨a,vs,rfl,h,IsXs.all.mpr h'⟩
theorem IsX.of_dic {H:Hp} {l:List (Key×Dx)} {a:Addr} {vs:List (Key×V)} (h:Rd H a (.dK vs)) (h':All2 (KvX H) l vs):IsX H (.dic l) (.ref a):=by simp only [IsX]; exact ⟨a,vs,rfl,h,IsXk.all.mpr h'⟩
inductive Ow where
  | tr (d:Dx) | ol (a:Addr) (l:List Ow) | od (a:Addr) (l:List (Key×Ow)) | oi (C a dx:Addr) (l:List (Str×Ow))
mutual
def Ow.d:Ow→Dx
  | .tr d=>d
  | .ol _ l=>.lst (owDs l)
  | .od _ l=>.dic (owDk l)
  | .oi C _ _ l=>.ins C (owDf l)
def owDs:List Ow→List Dx
  | []=>[]
  | o :: r=>o.d :: owDs r
def owDk:List (Key×Ow)→List (Key×Dx)
  | []=>[]
  | o :: r=>(o.1,o.2.d) :: owDk r
def owDf:List (Str×Ow)→List (Str×Dx)
  | []=>[]
  | o :: r=>(o.1,o.2.d) :: owDf r
end
mutual
def Ow.fp:Ow→List Addr
  | .tr _=>[]
  | .ol a l=>a :: owFs l
  | .od a l=>a :: owFk l
  | .oi _ a dx l=>a :: dx :: owFf l
def owFs:List Ow→List Addr
  | []=>[]
  | o :: r=>o.fp ++ owFs r
def owFk:List (Key×Ow)→List Addr
  | []=>[]
  | o :: r=>o.2.fp ++ owFk r
def owFf:List (Str×Ow)→List Addr
  | []=>[]
  | o :: r=>o.2.fp ++ owFf r
end
mutual
def OwOk (G H:Hp):Ow→V→Prop
  | .tr d,v=>IsX G d v
  | .ol a l,v=>v=.ref a∧∃ vs,H a=some (.lst vs)∧OwOks G H l vs
  | .od a l,v=>v=.ref a∧∃ ws,H a=some (.dK ws)∧OwOkk G H l ws
  | .oi C a dx l,v=>v=.ref a∧∃ ws,H a=some (.ins C dx ws)∧H dx=some (.own a)∧OwOkf G H l ws
def OwOks (G H:Hp):List Ow→List V→Prop
  | [],vs=>vs=[]
  | o :: r,vs => ∃ v vr,vs=v :: vr∧OwOk G H o v∧OwOks G H r vr
def OwOkk (G H:Hp):List (Key×Ow)→List (Key×V)→Prop
  | [],vs=>vs=[]
  | o :: r,vs => ∃ v vr,vs=v :: vr∧(o.1=v.1∧OwOk G H o.2 v.2)∧OwOkk G H r vr
def OwOkf (G H:Hp):List (Str×Ow)→List (Str×V)→Prop
  | [],vs=>vs=[]
  | o :: r,vs => ∃ v vr,vs=v :: vr∧(o.1=v.1∧OwOk G H o.2 v.2)∧OwOkf G H r vr
end
section
variable {G G' H H':Hp}
mutual
theorem OwOk.mono (e:SameF G G'):∀ (o:Ow) (v:V),(∀ b∈o.fp,H' b=H b)→OwOk G H o v→OwOk G' H' o v
  | .tr d,v,_,h=>by simp only [OwOk] at h ⊢; exact h.toF e
  | .ol a l, v, k, h => by
    simp only [OwOk,Ow.fp] at h k ⊢
    obtain ⟨h1,vs,h2,h3⟩:=h
    exact ⟨h1,vs,by rw [k a List.mem_cons_self]; exact h2,OwOks.mono e l vs (fun b hb=>k b (List.mem_cons_of_mem _ hb)) h3⟩
  | .od a l, v, k, h => by
    simp only [OwOk,Ow.fp] at h k ⊢
    obtain ⟨h1,vs,h2,h3⟩:=h
    exact ⟨h1,vs,by rw [k a List.mem_cons_self]; exact h2,OwOkk.mono e l vs (fun b hb=>k b (List.mem_cons_of_mem _ hb)) h3⟩
  | .oi C a dx l, v, k, h => by
    simp only [OwOk,Ow.fp] at h k ⊢
    obtain ⟨h1,vs,h2,h4,h3⟩:=h
    exact ⟨h1,vs,by rw [k a List.mem_cons_self]; exact h2,by rw [k dx (List.mem_cons_of_mem _ List.mem_cons_self)]; exact h4,OwOkf.mono e l vs (fun b hb=>k b (List.mem_cons_of_mem _ (List.mem_cons_of_mem _ hb))) h3⟩
theorem OwOks.mono (e:SameF G G'):∀ (l:List Ow) (vs:List V),(∀ b∈owFs l,H' b=H b)→OwOks G H l vs→OwOks G' H' l vs
  | [],vs,_,h=>by simpa only [OwOks] using h
  | o :: r, vs, k, h => by
    simp only [OwOks,owFs] at h k ⊢
    obtain ⟨v,vr,h1,h2,h3⟩:=h
    exact ⟨v,vr,h1,OwOk.mono e o v (fun b hb=>k b (List.mem_append_left _ hb)) h2,OwOks.mono e r vr (fun b hb=>k b (List.mem_append_right _ hb)) h3⟩
theorem OwOkk.mono (e:SameF G G'):∀ (l:List (Key×Ow)) (vs:List (Key×V)),(∀ b∈owFk l,H' b=H b)→OwOkk G H l vs→OwOkk G' H' l vs
  | [],vs,_,h=>by simpa only [OwOkk] using h
  | o :: r, vs, k, h => by
    simp only [OwOkk,owFk] at h k ⊢
    obtain ⟨v,vr,h1,h2,h3⟩:=h
    exact ⟨v,vr,h1,⟨h2.1,OwOk.mono e o.2 v.2 (fun b hb=>k b (List.mem_append_left _ hb)) h2.2⟩,OwOkk.mono e r vr (fun b hb=>k b (List.mem_append_right _ hb)) h3⟩
theorem OwOkf.mono (e:SameF G G'):∀ (l:List (Str×Ow)) (vs:List (Str×V)),(∀ b∈owFf l,H' b=H b)→OwOkf G H l vs→OwOkf G' H' l vs
  | [],vs,_,h=>by simpa only [OwOkf] using h
  | o :: r, vs, k, h => by
    simp only [OwOkf,owFf] at h k ⊢
    obtain ⟨v,vr,h1,h2,h3⟩:=h
    exact ⟨v,vr,h1,⟨h2.1,OwOk.mono e o.2 v.2 (fun b hb=>k b (List.mem_append_left _ hb)) h2.2⟩,OwOkf.mono e r vr (fun b hb=>k b (List.mem_append_right _ hb)) h3⟩
end
def Fine (H:Hp) (b:Addr):Prop := ∃ o,H b=some o∧∀ ob u,o ≠ .frz ob u
mutual
theorem OwOk.there:∀ (o:Ow) (v:V),OwOk G H o v→∀ b∈o.fp,Fine H b
  | .tr d,v,_,b,hb=>by simp only [Ow.fp] at hb; cases hb
  | .ol a l, v, h, b, hb => by
    simp only [OwOk,Ow.fp] at h hb
    obtain ⟨h1,vs,h2,h3⟩:=h
    rcases List.mem_cons.mp hb with rfl | hb
    · exact ⟨_,h2,fun _ _ z=>nomatch z⟩
    · exact OwOks.there l vs h3 b hb
  | .od a l, v, h, b, hb => by
    simp only [OwOk,Ow.fp] at h hb
    obtain ⟨h1,vs,h2,h3⟩:=h
    rcases List.mem_cons.mp hb with rfl | hb
    · exact ⟨_,h2,fun _ _ z=>nomatch z⟩
    · exact OwOkk.there l vs h3 b hb
  | .oi C a dx l, v, h, b, hb => by
    simp only [OwOk,Ow.fp] at h hb
    obtain ⟨h1,vs,h2,h4,h3⟩:=h
    rcases List.mem_cons.mp hb with rfl | hb
    · exact ⟨_,h2,fun _ _ z=>nomatch z⟩
    · rcases List.mem_cons.mp hb with rfl | hb
      · exact ⟨_,h4,fun _ _ z=>nomatch z⟩
      · exact OwOkf.there l vs h3 b hb
theorem OwOks.there:∀ (l:List Ow) (vs:List V),OwOks G H l vs→∀ b∈owFs l,Fine H b
  | [],vs,_,b,hb=>by simp only [owFs] at hb; cases hb
  | o :: r, vs, h, b, hb => by
    simp only [OwOks,owFs] at h hb
    obtain ⟨v,vr,h1,h2,h3⟩:=h
    rcases List.mem_append.mp hb with hb | hb
    · exact OwOk.there o v h2 b hb
    · exact OwOks.there r vr h3 b hb
theorem OwOkk.there:∀ (l:List (Key×Ow)) (vs:List (Key×V)),OwOkk G H l vs→∀ b∈owFk l,Fine H b
  | [],vs,_,b,hb=>by simp only [owFk] at hb; cases hb
  | o :: r, vs, h, b, hb => by
    simp only [OwOkk,owFk] at h hb
    obtain ⟨v,vr,h1,h2,h3⟩:=h
    rcases List.mem_append.mp hb with hb | hb
    · exact OwOk.there o.2 v.2 h2.2 b hb
    · exact OwOkk.there r vr h3 b hb
theorem OwOkf.there:∀ (l:List (Str×Ow)) (vs:List (Str×V)),OwOkf G H l vs→∀ b∈owFf l,Fine H b
  | [],vs,_,b,hb=>by simp only [owFf] at hb; cases hb
  | o :: r, vs, h, b, hb => by
    simp only [OwOkf,owFf] at h hb
    obtain ⟨v,vr,h1,h2,h3⟩:=h
    rcases List.mem_append.mp hb with hb | hb
    · exact OwOk.there o.2 v.2 h2.2 b hb
    · exact OwOkf.there r vr h3 b hb
end
mutual
theorem OwOk.tree (e:SameF G G'):∀ (o:Ow) (v:V),(∀ b∈o.fp,G' b=H b)→OwOk G H o v→IsX G' o.d v
  | .tr d,v,_,h=>by simp only [OwOk,Ow.d] at h ⊢; exact h.toF e
  | .ol a l, v, k, h => by
    simp only [OwOk,Ow.fp,Ow.d] at h k ⊢
    obtain ⟨h1,vs,h2,h3⟩:=h
    subst h1
    exact IsX.of_lst (by rw [k a List.mem_cons_self]; exact h2) (OwOks.tree e l vs (fun b hb=>k b (List.mem_cons_of_mem _ hb)) h3)
  | .od a l, v, k, h => by
    simp only [OwOk,Ow.fp,Ow.d] at h k ⊢
    obtain ⟨h1,vs,h2,h3⟩:=h
    subst h1
    exact IsX.of_dic (.inl (by rw [k a List.mem_cons_self]; exact h2)) (OwOkk.tree e l vs (fun b hb=>k b (List.mem_cons_of_mem _ hb)) h3)
  | .oi C a dx l, v, k, h => by
    simp only [OwOk,Ow.fp,Ow.d] at h k ⊢
    obtain ⟨h1,vs,h2,h4,h3⟩:=h
    subst h1
    exact IsX.of_ins (by rw [k a List.mem_cons_self]; exact h2) (OwOkf.tree e l vs (fun b hb=>k b (List.mem_cons_of_mem _ (List.mem_cons_of_mem _ hb))) h3)
theorem OwOks.tree (e:SameF G G'):∀ (l:List Ow) (vs:List V),(∀ b∈owFs l,G' b=H b)→OwOks G H l vs→All2 (IsX G') (owDs l) vs
  | [],vs,_,h=>by simpa only [OwOks,owDs,All2] using h
  | o :: r, vs, k, h => by
    simp only [OwOks,owFs,owDs] at h k ⊢
    obtain ⟨v,vr,h1,h2,h3⟩:=h
    exact ⟨v,vr,h1,OwOk.tree e o v (fun b hb=>k b (List.mem_append_left _ hb)) h2,OwOks.tree e r vr (fun b hb=>k b (List.mem_append_right _ hb)) h3⟩
theorem OwOkk.tree (e:SameF G G'):∀ (l:List (Key×Ow)) (vs:List (Key×V)),(∀ b∈owFk l,G' b=H b)→OwOkk G H l vs→All2 (KvX G') (owDk l) vs
  | [],vs,_,h=>by simpa only [OwOkk,owDk,All2] using h
  | o :: r, vs, k, h => by
    simp only [OwOkk,owFk,owDk] at h k ⊢
    obtain ⟨v,vr,h1,h2,h3⟩:=h
    exact ⟨v,vr,h1,⟨h2.1,OwOk.tree e o.2 v.2 (fun b hb=>k b (List.mem_append_left _ hb)) h2.2⟩,OwOkk.tree e r vr (fun b hb=>k b (List.mem_append_right _ hb)) h3⟩
theorem OwOkf.tree (e:SameF G G'):∀ (l:List (Str×Ow)) (vs:List (Str×V)),(∀ b∈owFf l,G' b=H b)→OwOkf G H l vs→All2 (FvX G') (owDf l) vs
  | [],vs,_,h=>by simpa only [OwOkf,owDf,All2] using h
  | o :: r, vs, k, h => by
    simp only [OwOkf,owFf,owDf] at h k ⊢
    obtain ⟨v,vr,h1,h2,h3⟩:=h
    exact ⟨v,vr,h1,⟨h2.1,OwOk.tree e o.2 v.2 (fun b hb=>k b (List.mem_append_left _ hb)) h2.2⟩,OwOkf.tree e r vr (fun b hb=>k b (List.mem_append_right _ hb)) h3⟩
end
end
inductive Sv where
  | tr (d:Dx) | ol (l:List Dx) | od (l:List (Key×Dx)) | ow (o:Ow)
def Sv.d:Sv→Dx
  | .tr d=>d
  | .ol l=>.lst l
  | .od l=>.dic l
  | .ow o=>o.d
inductive Sl where
  | un | v (s:Sv) | bw (l:List Dx) | bo (o:Ow) | pn (v:V)
abbrev Rw:=Sl×Option V
def ownA:Rw→List Addr
  | (.v (.ol _),some (.ref a))=>[a]
  | (.v (.od _),some (.ref a))=>[a]
  | (.bw _,some (.ref a))=>[a]
  | (.v (.ow o),_)=>o.fp
  | (.bo o,_)=>o.fp
  | _=>[]
def owns (P:List Rw):List Addr:=P.flatMap ownA
def hid (O:List Addr) (H:Hp):Hp:=fun b=>if b∈O then none else H b
theorem hid_some {O:List Addr} {H:Hp} {b:Addr} {o:HO}:hid O H b=some o↔b∉O∧H b=some o:=by
  unfold hid
  by_cases h:b∈O
  · rw [if_pos h]; simp [h]
  · rw [if_neg h]; simp [h]
theorem hid_same {O:List Addr} {H H':Hp} (e:Same H H'):Same (hid O H) (hid O H'):=fun b o h=>hid_some.mpr ⟨(hid_some.mp h).1,e _ _ (hid_some.mp h).2⟩
theorem ay_ {O O':List Addr} {H:Hp} (e:∀ a∈O',a∈O):Same (hid O H) (hid O' H):=fun b o h=>hid_some.mpr ⟨fun z=>(hid_some.mp h).1 (e _ z),(hid_some.mp h).2⟩
theorem hid_sub {O:List Addr} {H:Hp}:Same (hid O H) H:=fun b o h=>(hid_some.mp h).2
def nf:Option HO→Option HO
  | some (.frz _ _)=>none
  | o=>o
theorem nf_some {x:Option HO} {o:HO} (h:nf x=some o):x=some o:=by
  unfold nf at h
  split at h
  · cases h
  · exact h
theorem nf_mono {x y:Option HO} {o:HO} (h:nf x=some o) (e:∀ o,x=some o→y=some o):nf y=some o:=by
  have hx:=nf_some h
  rw [hx] at h
  rw [e o hx]
  exact h
def ext (Hs H0 H:Hp):Hp:=fun b=>match H0 b with | none=>nf (H b) | some _=>Hs b
theorem bj_ {Hs H0 H:Hp} {b:Addr} (h:H0 b=none):ext Hs H0 H b=nf (H b):=by unfold ext; rw [h]
theorem bl_ {Hs H0 H:Hp} {b:Addr} {o:HO} (h:H0 b=some o):ext Hs H0 H b=Hs b:=by unfold ext; rw [h]
theorem go_ {Hs H0 H H':Hp} (e:Same H H'):Same (ext Hs H0 H) (ext Hs H0 H'):=fun b o h=>by
  cases q:H0 b with
  | none=>rw [bj_ q] at h ⊢; exact nf_mono h (e b)
  | some u=>rw [bl_ q] at h ⊢; exact h
def RowOk (O:List Addr) (G H:Hp):Rw→Prop
  | (.un,_)=>True
  | (.pn w,v)=>v=some w
  | (.v (.tr d),v) => ∃ x,v=some x∧IsX (hid O G) d x
  | (.v (.ol l),v) => ∃ a vs,v=some (.ref a)∧H a=some (.lst vs)∧All2 (IsX (hid O G)) l vs
  | (.v (.od l),v) => ∃ a ws,v=some (.ref a)∧H a=some (.dK ws)∧All2 (KvX (hid O G)) l ws
  | (.bw l,v) => ∃ a vs,v=some (.ref a)∧H a=some (.lst vs)∧All2 (IsX (hid O G)) l vs
  | (.v (.ow o),v) => ∃ x,v=some x∧OwOk (hid O G) H o x
  | (.bo o,v) => ∃ x,v=some x∧OwOk (hid O G) H o x
theorem KvX.toF {H H':Hp} {k:Key×Dx} {w:Key×V} (h:KvX H k w) (e:SameF H H'):KvX H' k w:=⟨h.1,h.2.toF e⟩
theorem KvX.to {H H':Hp} {k:Key×Dx} {w:Key×V} (h:KvX H k w) (e:Same H H'):KvX H' k w:=⟨h.1,h.2.to e⟩
theorem RowOk.mono {O O':List Addr} {G G' H H':Hp} {r:Rw} (h:RowOk O G H r) (e:SameF (hid O G) (hid O' G')) (ho:∀ a∈ownA r,H' a=H a):RowOk O' G' H' r:=by
  match r,h,ho with
  | (.un,_),_,_=>trivial
  | (.pn w,v),h,_=>exact h
  | (.v (.tr d),v),⟨x,h1,h2⟩,_=>exact ⟨x,h1,h2.toF e⟩
  | (.v (.ol l), v), ⟨a, vs, h1, h2, h3⟩, ho =>
    subst h1
    exact ⟨a,vs,rfl,by rw [ho a (List.mem_singleton.mpr rfl)]; exact h2,h3.imp fun _ _ z=>z.toF e⟩
  | (.v (.od l), v), ⟨a, vs, h1, h2, h3⟩, ho =>
    subst h1
    exact ⟨a,vs,rfl,by rw [ho a (List.mem_singleton.mpr rfl)]; exact h2,h3.imp fun _ _ z=>z.toF e⟩
  | (.bw l, v), ⟨a, vs, h1, h2, h3⟩, ho =>
    subst h1
    exact ⟨a,vs,rfl,by rw [ho a (List.mem_singleton.mpr rfl)]; exact h2,h3.imp fun _ _ z=>z.toF e⟩
  | (.v (.ow o),v),⟨x,h1,h2⟩,ho=>exact ⟨x,h1,OwOk.mono e o x ho h2⟩
  | (.bo o,v),⟨x,h1,h2⟩,ho=>exact ⟨x,h1,OwOk.mono e o x ho h2⟩
structure Fm where
  H0:Hp
  Hs:Hp
  B:List Addr
  sub:Same Hs H0
  nb:∀ b∈B,Hs b=none
  ib:∀ b∈B,∃ o,H0 b=some o
abbrev Fm.vis (F:Fm) (H:Hp):Hp:=ext F.Hs F.H0 H
def FrOk (F:Fm) (r:Rw) (a:Addr):Prop:=match r.1 with
  | .bw _=>a∈F.B
  | .bo _=>a∈F.B∨F.H0 a=none
  | _=>F.H0 a=none
theorem FrOk.or {F:Fm} {r:Rw} {a:Addr} (h:FrOk F r a):a∈F.B∨F.H0 a=none:=by
  unfold FrOk at h
  split at h
  · exact .inl h
  · exact h
  · exact .inr h
structure Rep (F:Fm) (P:List Rw) (H:Hp):Prop where
  nd:(owns P).Nodup
  ok:∀ r∈P,RowOk (owns P) (F.vis H) H r
  fr:∀ r∈P,∀ a∈ownA r,FrOk F r a
  kp:∀ b o,F.H0 b=some o→b∉F.B→H b=some o
  lv:∀ b∈F.B,∃ o,H b=some o
section
variable {F:Fm} {P P':List Rw} {H H':Hp} {r r':Rw} {d:Dx} {v:V} {a p:Addr} {l l':List Dx} {vs vs':List V} {k k':List (Key×Dx)} {ws ws':List (Key×V)} {s:Sv} {x:Option V}
theorem cj_:owns (r :: P)=ownA r ++ owns P:=by
  unfold owns
  rw [List.flatMap_cons]
theorem as_ (h:ownA r=[a]):owns (r :: P)=a :: owns P:=by rw [cj_,h]; rfl
theorem fi_ (h:ownA r=[]):owns (r :: P)=owns P:=by rw [cj_,h]; rfl
theorem owns_perm (h:P.Perm P'):(owns P).Perm (owns P'):=h.flatMap_right _
theorem Rep.vis (R:Rep F P H):Same (F.vis H) H:=fun b o h=>by
  cases q:F.H0 b with
  | none=>exact nf_some ((bj_ q).symm.trans h)
  | some u =>
    have h:=(bl_ q).symm.trans h
    have:=F.sub _ _ h
    exact R.kp b o this fun z=>by rw [F.nb b z] at h; cases h
theorem Rep.hv (R:Rep F P H) {O:List Addr}:Same (hid O (F.vis H)) H:=fun b o h=>R.vis b o (hid_some.mp h).2
theorem Rep.fresh (R:Rep F P H) (hp:H p=none):F.H0 p=none:=by
  cases q:F.H0 p with
  | none=>rfl
  | some o =>
    by_cases hB:p∈F.B
    · obtain ⟨u,hu⟩:=R.lv p hB; rw [hp] at hu; cases hu
    · rw [R.kp p o q hB] at hp; cases hp
theorem Rep.perm (R:Rep F P H) (h:P.Perm P'):Rep F P' H:=by
  have hp:(owns P).Perm (owns P'):=owns_perm h
  exact ⟨hp.nodup_iff.mp R.nd,fun r hr=>(R.ok r (h.mem_iff.mpr hr)).mono (.of (ay_ fun a ha=>hp.mem_iff.mpr ha)) fun _ _=>rfl,fun r hr=>R.fr r (h.mem_iff.mpr hr),R.kp,R.lv⟩
theorem Rep.tail (R:Rep F (r :: P) H):Rep F P H:=by
  have hs:∀ a∈owns P,a∈owns (r :: P):=fun a ha=>by rw [cj_]; exact List.mem_append_right _ ha
  refine ⟨?_,fun x hx=>(R.ok x (List.mem_cons_of_mem _ hx)).mono (.of (ay_ hs)) fun _ _=>rfl,fun x hx=>R.fr x (List.mem_cons_of_mem _ hx),R.kp,R.lv⟩
  have:=R.nd
  rw [cj_] at this
  exact (List.nodup_append.mp this).2.1
theorem ds_ (h:r∈P) (e:a∈ownA r):a∈owns P:=List.mem_flatMap.mpr ⟨r,h,e⟩
theorem mem1 {α:Type} {x:α} {l:List α} (h:l=[x]):x∈l:=by rw [h]; exact List.mem_singleton.mpr rfl
theorem eq1 {α:Type} {x y:α} {l:List α} (h:l=[x]) (hy:y∈l):y=x:=by rw [h] at hy; exact List.mem_singleton.mp hy
theorem Rep.own_in (R:Rep F P H) (h:a∈owns P):∃ o,H a=some o:=by
  obtain ⟨r,hr,e⟩:=List.mem_flatMap.mp h
  have:=R.ok r hr
  match r,e,this with
  | (.v (.ol _),some (.ref b)),e,⟨c,vs,h1,h2,_⟩=>cases h1; rw [List.mem_singleton.mp e]; exact ⟨_,h2⟩
  | (.v (.od _),some (.ref b)),e,⟨c,vs,h1,h2,_⟩=>cases h1; rw [List.mem_singleton.mp e]; exact ⟨_,h2⟩
  | (.bw _,some (.ref b)),e,⟨c,vs,h1,h2,_⟩=>cases h1; rw [List.mem_singleton.mp e]; exact ⟨_,h2⟩
  | (.v (.ow o),_),e,⟨x,h1,h2⟩=>obtain ⟨u,hu,_⟩:=OwOk.there o x h2 a e; exact ⟨u,hu⟩
  | (.bo o,_),e,⟨x,h1,h2⟩=>obtain ⟨u,hu,_⟩:=OwOk.there o x h2 a e; exact ⟨u,hu⟩
theorem Rep.not_own (R:Rep F P H) (hp:H p=none):p∉owns P:=fun z=>by
  obtain ⟨o,ho⟩:=R.own_in z
  rw [hp] at ho
  cases ho
theorem Rep.grow (R:Rep F P H) (e:Same H H'):Rep F P H':=by
  refine ⟨R.nd,fun r hr=>(R.ok r hr).mono (.of (hid_same (go_ e))) fun a ha => ?_,R.fr,fun b o h1 h2=>e _ _ (R.kp b o h1 h2),fun b hb => ?_⟩
  · obtain ⟨o, ho⟩ := R.own_in (ds_ hr ha)
    rw [ho,e _ _ ho]
  · obtain ⟨o, ho⟩ := R.lv b hb
    exact ⟨o,e _ _ ho⟩
theorem Rep.cons0 (R:Rep F P H) (ho:ownA r=[]) (h:RowOk (owns P) (F.vis H) H r):Rep F (r :: P) H:=by
  refine ⟨by rw [fi_ ho]; exact R.nd,fun x hx => ?_,fun x hx a ha => ?_,R.kp,R.lv⟩
  · rw [fi_ ho]
    rcases List.mem_cons.mp hx with rfl | hx
    · exact h
    · exact R.ok x hx
  · rcases List.mem_cons.mp hx with rfl | hx
    · rw [ho] at ha; cases ha
    · exact R.fr x hx a ha
theorem Rep.add (R:Rep F P H) (h:IsX (hid (owns P) (F.vis H)) d v):Rep F ((.v (.tr d),some v) :: P) H:=R.cons0 rfl ⟨v,rfl,h⟩
theorem Rep.addU (R:Rep F P H):Rep F ((.un,x) :: P) H:=R.cons0 rfl trivial
theorem Rep.head (R:Rep F ((.v s,x) :: P) H):∃ v,x=some v∧IsX (hid (owns P) (F.vis H)) s.d v:=by
  have h:=R.ok _ List.mem_cons_self
  have hs:∀ a∈owns P,a∈owns ((.v s,x) :: P):=fun a ha=>by rw [cj_]; exact List.mem_append_right _ ha
  have hn:=R.nd
  have hf:=R.fr _ List.mem_cons_self
  match s,h with
  | .tr d,⟨v,h1,h2⟩=>exact ⟨v,h1,h2.to (ay_ hs)⟩
  | .ol l, ⟨a, vs, h1, h2, h3⟩ =>
    subst h1
    have q:F.H0 a=none:=hf a (List.mem_singleton.mpr rfl)
    rw [as_ (a:=a) rfl] at hn
    exact ⟨.ref a,rfl,IsX.of_lst (vs:=vs) (hid_some.mpr ⟨(List.nodup_cons.mp hn).1,(bj_ q).trans (by rw [h2]; rfl)⟩) (h3.imp fun _ _ z=>z.to (ay_ hs))⟩
  | .od l, ⟨a, vs, h1, h2, h3⟩ =>
    subst h1
    have q:F.H0 a=none:=hf a (List.mem_singleton.mpr rfl)
    rw [as_ (a:=a) rfl] at hn
    exact ⟨.ref a,rfl,IsX.of_dic (vs:=vs) (.inl (hid_some.mpr ⟨(List.nodup_cons.mp hn).1,(bj_ q).trans (by rw [h2]; rfl)⟩)) (h3.imp fun _ _ z=>z.to (ay_ hs))⟩
  | .ow o, ⟨v, h1, h2⟩ =>
    refine ⟨v,h1,OwOk.tree (.of (ay_ hs)) o v (fun b hb => ?_) h2⟩
    have q:F.H0 b=none:=hf b hb
    obtain ⟨u,hu,hn'⟩:=OwOk.there o v h2 b hb
    rw [cj_] at hn
    have hb2:b∉owns P:=fun z=>(List.nodup_append.mp hn).2.2 b hb b z rfl
    rw [hu]
    refine hid_some.mpr ⟨hb2,(bj_ q).trans ?_⟩
    rw [hu]
    unfold nf
    split
    · rename_i e; cases e; exact absurd rfl (hn' _ _)
    · rfl
theorem Rep.frz (R:Rep F ((.v s,x) :: P) H):Rep F ((.v (.tr s.d),x) :: P) H:=by
  obtain ⟨v,rfl,h⟩:=R.head
  exact R.tail.add h
theorem hid_new {O:List Addr} {Hs H0:Hp} (hp:H p=none) {o:HO} (hq:H0 p=none):Same (hid O (ext Hs H0 H)) (hid (p :: O) (ext Hs H0 (upd H p o))):=fun b u hb=>by
  have hb':=hid_some.mp hb
  have hbp:b≠p:=fun z=>by have:=nf_some ((bj_ hq).symm.trans (z ▸ hb'.2)); rw [hp] at this; cases this
  refine hid_some.mpr ⟨fun z=>(List.mem_cons.mp z).elim hbp hb'.1,?_⟩
  cases q:H0 b with
  | none=>exact (bj_ q).trans ((congrArg nf (al_ hbp)).trans ((bj_ q).symm.trans hb'.2))
  | some w=>exact (bl_ q).trans ((bl_ q).symm.trans hb'.2)
theorem Rep.new_own (R:Rep F P H) (hp:H p=none) {o:HO} (hA:ownA (.v s,some (.ref p))=[p]) (h:RowOk (p :: owns P) (F.vis (upd H p o)) (upd H p o) (.v s,some (.ref p))):Rep F ((.v s,some (.ref p)) :: P) (upd H p o):=by
  have hno:=R.not_own hp
  have hq:=R.fresh hp
  refine ⟨by rw [as_ hA]; exact List.nodup_cons.mpr ⟨hno,R.nd⟩,fun r hr => ?_,fun r hr a ha => ?_,fun b o h1 h2 => ?_,fun b hb => ?_⟩
  · rw [as_ hA]
    rcases List.mem_cons.mp hr with rfl | hr
    · exact h
    · exact (R.ok r hr).mono (.of (hid_new hp hq)) fun a ha=>al_ fun z=>hno (z ▸ ds_ hr ha)
  · rcases List.mem_cons.mp hr with rfl | hr
    · cases eq1 hA ha; exact hq
    · exact R.fr r hr a ha
  · have := R.kp b o h1 h2
    rw [al_ fun z=>by rw [z,hp] at this; cases this]
    exact this
  · obtain ⟨u, hu⟩ := R.lv b hb
    exact ⟨u,by rw [al_ fun z=>by rw [z,hp] at hu; cases hu]; exact hu⟩
theorem Rep.newL (R:Rep F P H) (hp:H p=none) (h:All2 (IsX (hid (owns P) (F.vis H))) l vs):Rep F ((.v (.ol l),some (.ref p)) :: P) (upd H p (.lst vs)) :=
  R.new_own hp rfl ⟨p,vs,rfl,upd_same,h.imp fun _ _ z=>z.to (hid_new hp (R.fresh hp))⟩
theorem Rep.newD (R:Rep F P H) (hp:H p=none) (h:All2 (KvX (hid (owns P) (F.vis H))) k ws):Rep F ((.v (.od k),some (.ref p)) :: P) (upd H p (.dK ws)) :=
  R.new_own hp rfl ⟨p,ws,rfl,upd_same,h.imp fun _ _ z=>z.to (hid_new hp (R.fresh hp))⟩
theorem Rep.newT (R:Rep F P H) (hp:H p=none) (h:All2 (IsX (hid (owns P) (F.vis H))) l vs):Rep F ((.v (.tr (.tup l)),some (.ref p)) :: P) (upd H p (.tup vs)):=by
  have e:Same H (upd H p (.tup vs)):=ea_ hp _
  exact (R.grow e).add (IsX.of_tup (vs:=vs) (hid_some.mpr ⟨R.not_own hp,(bj_ (R.fresh hp)).trans (by rw [upd_same]; rfl)⟩) (h.imp fun _ _ z=>z.to (hid_same (go_ e))))
theorem hid_put {O:List Addr} {o:HO} {Hs H0:Hp}:Same (hid (a :: O) (ext Hs H0 H)) (hid (a :: O) (ext Hs H0 (upd H a o))):=fun b u hb=>by
  have hb':=hid_some.mp hb
  have hba:b≠a:=fun z=>hb'.1 (by rw [z]; exact List.mem_cons_self)
  refine hid_some.mpr ⟨hb'.1,?_⟩
  cases q:H0 b with
  | none=>exact (bj_ q).trans ((congrArg nf (al_ hba)).trans ((bj_ q).symm.trans hb'.2))
  | some w=>exact (bl_ q).trans ((bl_ q).symm.trans hb'.2)
theorem Rep.put {o:HO} (R:Rep F (r :: P) H) (hA:ownA r=[a]) (hA':ownA r'=[a]) (hF:FrOk F r a→FrOk F r' a) (h:RowOk (a :: owns P) (F.vis (upd H a o)) (upd H a o) r'):Rep F (r' :: P) (upd H a o):=by
  have hn:=R.nd
  rw [as_ hA] at hn
  have hna:=(List.nodup_cons.mp hn).1
  have R1:=R.ok
  rw [as_ hA] at R1
  have hfr:=R.fr r List.mem_cons_self a (mem1 hA)
  refine ⟨by rw [as_ hA']; exact hn,fun x hx => ?_,fun x hx b hb => ?_,fun b u h1 h2 => ?_,fun b hb => ?_⟩
  · rw [as_ hA']
    rcases List.mem_cons.mp hx with rfl | hx
    · exact h
    · exact (R1 x (List.mem_cons_of_mem _ hx)).mono (.of hid_put) fun b hb=>al_ fun z=>hna (z ▸ ds_ hx hb)
  · rcases List.mem_cons.mp hx with rfl | hx
    · cases eq1 hA' hb; exact hF hfr
    · exact R.fr x (List.mem_cons_of_mem _ hx) b hb
  · have hb := R.kp b u h1 h2
    by_cases z:b=a
    · subst z
      rcases hfr.or with hfr | hfr
      · exact absurd hfr h2
      · rw [hfr] at h1; cases h1
    · rw [al_ z]; exact hb
  · by_cases z : b = a
    · subst z; exact ⟨o,upd_same⟩
    · rw [al_ z]; exact R.lv b hb
theorem Rep.putD (R:Rep F ((.v (.od k),some (.ref a)) :: P) H) (h:All2 (KvX (hid (a :: owns P) (F.vis H))) k' ws'):Rep F ((.v (.od k'),some (.ref a)) :: P) (upd H a (.dK ws')) :=
  R.put (a:=a) rfl rfl id ⟨a,ws',rfl,upd_same,h.imp fun _ _ z=>z.to hid_put⟩
theorem Rep.atL (R:Rep F ((.v (.ol l),x) :: P) H):∃ a vs,x=some (.ref a)∧H a=some (.lst vs)∧All2 (IsX (hid (a :: owns P) (F.vis H))) l vs:=by
  obtain ⟨a,vs,h1,h2,h3⟩:=R.ok _ List.mem_cons_self
  subst h1
  exact ⟨a,vs,rfl,h2,by rw [← as_ (a:=a) (r:=(.v (.ol l),some (.ref a))) rfl]; exact h3⟩
theorem Rep.atB (R:Rep F ((.bw l,x) :: P) H):∃ a vs,x=some (.ref a)∧H a=some (.lst vs)∧All2 (IsX (hid (a :: owns P) (F.vis H))) l vs:=by
  obtain ⟨a,vs,h1,h2,h3⟩:=R.ok _ List.mem_cons_self
  subst h1
  exact ⟨a,vs,rfl,h2,by rw [← as_ (a:=a) (r:=(.bw l,some (.ref a))) rfl]; exact h3⟩
theorem Rep.atD (R:Rep F ((.v (.od k),x) :: P) H):∃ a ws,x=some (.ref a)∧H a=some (.dK ws)∧All2 (KvX (hid (a :: owns P) (F.vis H))) k ws:=by
  obtain ⟨a,vs,h1,h2,h3⟩:=R.ok _ List.mem_cons_self
  subst h1
  exact ⟨a,vs,rfl,h2,by rw [← as_ (a:=a) (r:=(.v (.od k),some (.ref a))) rfl]; exact h3⟩
theorem Rep.atT (R:Rep F ((.v (.tr d),x) :: P) H):∃ v,x=some v∧IsX (hid (owns P) (F.vis H)) d v:=R.head
end
section
variable {ρ:List Sl} {σ:St} {i:Nat} {s s':Sl} {v v':Option V}
theorem zip_at (h1:ρ[i]? = some s) (h2:σ[i]? = some v):(ρ.zip σ)[i]? = some (s,v):=(List.getElem?_zip_eq_some (z:=(s,v))).mpr ⟨h1,h2⟩
theorem pullN {α:Type}:∀ (l:List α) (i:Nat) (h:i < l.length),l.Perm (l[i] :: l.eraseIdx i)
  | x :: l,0,_=>.refl _
  | x :: l,i + 1,h=>((pullN l i (by simpa using h)).cons x).trans (.swap _ _ _)
theorem pull {α:Type} {l:List α} {x:α} {i:Nat} (h:l[i]? = some x):l.Perm (x :: l.eraseIdx i):=by
  obtain ⟨hi,e⟩:=List.getElem?_eq_some_iff.mp h
  subst e
  exact pullN l i hi
theorem ge_ (h1:ρ[i]? = some s) (h2:σ[i]? = some v):(ρ.zip σ).Perm ((s,v) :: (ρ.zip σ).eraseIdx i):=pull (zip_at h1 h2)
theorem zip_set:∀ {ρ:List Sl} {σ:St} (i:Nat),(ρ.set i s).zip (σ.set i v)=(ρ.zip σ).set i (s,v)
  | [],_,_=>by simp
  | _ :: _,[],_=>by simp
  | a :: ρ,b :: σ,0=>rfl
  | a :: ρ,b :: σ,i + 1=>by simp only [List.set_cons_succ,List.zip_cons_cons]; rw [zip_set i]
theorem zip_put (hl:ρ.length=σ.length) (h:i < ρ.length):((ρ.set i s).zip (σ.set i v)).Perm ((s,v) :: (ρ.zip σ).eraseIdx i):=by
  rw [zip_set]
  have hi:i < (ρ.zip σ).length:=by rw [List.length_zip]; omega
  have:=pull (l:=(ρ.zip σ).set i (s,v)) (x:=(s,v)) (i:=i) (by rw [List.getElem?_set_self hi])
  rwa [List.eraseIdx_set_eq] at this
theorem set_same (h:σ[i]? = some v):σ.set i v=σ:=by
  obtain ⟨hi,e⟩:=List.getElem?_eq_some_iff.mp h
  subst e
  exact List.set_getElem_self hi
theorem dw_ (hl:ρ.length=σ.length) (h:i < ρ.length) (h2:σ[i]? = some v):((ρ.set i s).zip σ).Perm ((s,v) :: (ρ.zip σ).eraseIdx i):=by
  have:=zip_put (s:=s) (v:=v) hl h
  rwa [set_same h2] at this
end
end Lf
namespace L2
open PySem
theorem PE.weak {X:Cx} {e:Expr} {t u:TE} (h:PE X e t) (w:∀ σ H Q,u σ H Q→t σ H Q):PE X e u:=fun pins s σ H Q I q=>h pins s σ H Q I (w σ H Q q)
theorem PT.weak {X:Cx} {e:Expr} {t u:TT} (h:PT X e t) (w:∀ σ H Q,u σ H Q→t σ H Q):PT X e u:=fun pins s σ H Q I q=>h pins s σ H Q I (w σ H Q q)
theorem PW.weak {X:Cx} {e:Expr} {t u:TT} (h:PW X e t) (w:∀ σ H Q,u σ H Q→t σ H Q):PW X e u:=fun wh pins s σ H Q I q=>h wh pins s σ H Q I (w σ H Q q)
theorem PA.weak {X:Cx} {e:List Expr} {t u:TA} (h:PA X e t) (w:∀ σ H Q,u σ H Q→t σ H Q):PA X e u:=fun pos pins s σ H Q I q=>h pos pins s σ H Q I (w σ H Q q)
theorem PE.or {X:Cx} {e:Expr} {t u:TE} (h:PE X e t) (h':PE X e u):PE X e (fun σ H Q=>t σ H Q∨u σ H Q):=fun pins s σ H Q I q=>q.elim (h pins s σ H Q I) (h' pins s σ H Q I)
end L2
namespace Lf
open PySem L2
abbrev En:=List Sl
abbrev XT:=En→(Sv→En→Prop)→Prop
abbrev XC:=En→(Bool→En→Prop)→Prop
abbrev XA:=En→(List Sv→En→Prop)→Prop
structure EOk (F:Fm) (ρ:En) (σ:St) (fr:List Rw) (H:Hp):Prop where
  len:ρ.length=σ.length
  rep:Rep F (ρ.zip σ ++ fr) H
def tX (F:Fm) (t:XT):TE:=fun σ H Q => ∃ ρ fr Qx,EOk F ρ σ fr H∧t ρ Qx∧∀ v s H' ρ',EOk F ρ' σ ((.v s,some v) :: fr) H'→Qx s ρ'→Q v H'
def tXc (F:Fm) (t:XC):TT:=fun σ H Q => ∃ ρ fr Qx,EOk F ρ σ fr H∧t ρ Qx∧∀ b H' ρ',EOk F ρ' σ fr H'→Qx b ρ'→Q b H'
def tmps (ss:List Sv) (vs:List V):List Rw:=(ss.zip vs).map fun p=>(.v p.1,some p.2)
def tXa (F:Fm) (t:XA):TA:=fun σ H Q => ∃ ρ fr Qx,EOk F ρ σ fr H∧t ρ Qx∧∀ vs ss H' ρ',ss.length=vs.length→EOk F ρ' σ (tmps ss vs ++ fr) H'→Qx ss ρ'→Q vs H'
abbrev ExT:=Value→Prop
abbrev noEx:ExT:=fun _=>False
def Kept (F:Fm) (H:Hp):Prop := ∀ b o,F.H0 b=some o→b∉F.B→H b=some o
def Air (nw:Addr→Prop) (h':Heap) (H:Hp) (ea:Addr) (cls:Value):Prop:=nw ea∧H ea=none∧∃ oe vs,h'.get? ea=some oe∧oe.cls=cls∧oe.data=.fields vs∧oe.dict=none∧1 < vs.size ∧
  (vs[1]? = some .none∨∃ T oT ts,vs[1]? = some (.ref T)∧T≠ea∧nw T∧H T=none∧h'.get? T=some oT∧oT.data=.fields ts∧ts[3]? = some .none)
def CXe (P:Program) (w:World):CXT:=fun outer H s E e s' => ∃ (ea:Addr) (cls:Value) (H':Hp),e=.ref ea∧s'.os=s.os∧PyProof.Rows.AllBare s'.gens∧Un (frs outer) [] H H' s.heap s'.heap∧HOk P w H' s'.heap∧Air (fun b=>s.heap.get? b=none) s'.heap H' ea cls∧E cls none H'
class OkF (X:Cx) (Ex:ExT) (F:Fm):Prop where
  pass:∀ (pins:PN_) (σ:St) (H:Hp) (s:Shared) (e:Value) (s':Shared),Inv X pins σ H s→CXe X.prog X.w X.stack H s (fun c _ H'=>Ex c∧Kept F H') e s'→X.xe e s'
instance {X:Cx} {F:Fm}:OkF X noEx F:=⟨fun _ _ _ _ _ _ _ h=>(by obtain ⟨_,_,_,_,_,_,_,_,_,h,_⟩:=h; exact h.elim)⟩
def XE (X:Cx) (Ex:ExT) (e:Expr) (t:XT):Prop := ∀ F,[OkF X Ex F]→PE X e (tX F t)
def XTe (X:Cx) (Ex:ExT) (e:Expr) (t:XC):Prop := ∀ F,[OkF X Ex F]→PT X e (tXc F t)
def XW (X:Cx) (Ex:ExT) (e:Expr) (t:XC):Prop := ∀ F,[OkF X Ex F]→PW X e (tXc F t)
def XAs (X:Cx) (Ex:ExT) (es:List Expr) (t:XA):Prop := ∀ F,[OkF X Ex F]→PA X es (tXa F t)
section
variable {F:Fm} {ρ ρ':En} {σ:St} {fr P:List Rw} {H H':Hp} {s:Sv} {v x y:V} {a b:Dx}
theorem EOk.grow (E:EOk F ρ σ fr H) (e:Same H H'):EOk F ρ σ fr H':=⟨E.len,E.rep.grow e⟩
theorem mid {α:Type} {x:α} {A B:List α}:(A ++ x :: B).Perm (x :: (A ++ B)):=List.perm_middle
theorem EOk.front {r:Rw} (E:EOk F ρ σ (r :: fr) H):Rep F (r :: (ρ.zip σ ++ fr)) H:=E.rep.perm mid
theorem EOk.back {r:Rw} (hl:ρ.length=σ.length) (R:Rep F (r :: (ρ.zip σ ++ fr)) H):EOk F ρ σ (r :: fr) H:=⟨hl,R.perm mid.symm⟩
theorem EOk.drop {r:Rw} (E:EOk F ρ σ (r :: fr) H):EOk F ρ σ fr H:=⟨E.len,E.front.tail⟩
theorem EOk.one (E:EOk F ρ σ ((.v s,some v) :: fr) H):Rep F (ρ.zip σ ++ fr) H∧IsX (hid (owns (ρ.zip σ ++ fr)) (F.vis H)) s.d v:=by
  obtain ⟨v',e,h⟩:=E.front.head
  cases e
  exact ⟨E.front.tail,h⟩
theorem EOk.two {s1 s2:Sv} {v1 v2:V} (E:EOk F ρ σ ((.v s2,some v2) :: (.v s1,some v1) :: fr) H) :
    Rep F (ρ.zip σ ++ fr) H∧IsX (hid (owns (ρ.zip σ ++ fr)) (F.vis H)) s1.d v1∧IsX (hid (owns (ρ.zip σ ++ fr)) (F.vis H)) s2.d v2:=by
  obtain ⟨R1,h1⟩:=E.drop.one
  obtain ⟨R2,h2⟩:=E.one
  refine ⟨R1,h1,h2.to (ay_ fun c hc => ?_)⟩
  have:(owns ((.v s1,some v1) :: (ρ.zip σ ++ fr))).Perm (owns (ρ.zip σ ++ (.v s1,some v1) :: fr)):=mid.symm.flatMap_right _
  refine this.mem_iff.mp ?_
  rw [cj_]
  exact List.mem_append_right _ hc
end
def xVar (i:Nat):XT:=fun ρ Q=>match ρ[i]? with
  | some (.v s)=>Q (.tr s.d) (ρ.set i (.v (.tr s.d)))
  | _=>False
def xMove (i:Nat):XT:=fun ρ Q=>match ρ[i]? with
  | some (.v s)=>Q s (ρ.set i .un)
  | _=>False
theorem get_zip {ρ:En} {σ:St} {i:Nat} {s:Sl} (hl:ρ.length=σ.length) (h:ρ[i]? = some s):∃ v,σ[i]? = some v:=by
  have:=(List.getElem?_eq_some_iff.mp h).1
  exact ⟨_,List.getElem?_eq_getElem (by omega)⟩
section
variable {X:Cx} {Ex:ExT} {i:Nat} {x:Str} {pos:Pos}
theorem ef_ {F:Fm} {ρ:En} {σ:St} {fr:List Rw} {H:Hp} {s:Sl} (E:EOk F ρ σ fr H) (h:ρ[i]? = some s):∃ v,σ[i]? = some v∧i < ρ.length∧Rep F ((s,v) :: ((ρ.zip σ).eraseIdx i ++ fr)) H:=by
  obtain ⟨v,hv⟩:=get_zip E.len h
  exact ⟨v,hv,(List.getElem?_eq_some_iff.mp h).1,E.rep.perm ((ge_ h hv).append_right fr)⟩
theorem eok_put {F:Fm} {ρ:En} {σ:St} {fr:List Rw} {H:Hp} {s:Sl} {v:Option V} (hl:ρ.length=σ.length) (hi:i < ρ.length) (hv:σ[i]? = some v) (R:Rep F ((s,v) :: ((ρ.zip σ).eraseIdx i ++ fr)) H):EOk F (ρ.set i s) σ fr H :=
  ⟨by rw [List.length_set]; exact hl,R.perm ((dw_ hl hi hv).append_right fr).symm⟩
theorem ab_ (h:PE X (.Name x pos) (tVar i)):XE X Ex (.Name x pos) (xVar i):=fun F=>h.weak fun σ H Q=>by
  rintro ⟨ρ,fr,Qx,E,t,k⟩
  unfold xVar at t
  split at t
  · rename_i s hs
    obtain ⟨v,hv,hi,R⟩:=ef_ E hs
    obtain ⟨w,rfl,hx⟩:=R.head
    refine ⟨w,hv,k w _ H _ ?_ t⟩
    have R2:=R.frz
    have R3:Rep F ((.v (.tr s.d),some w) :: (.v (.tr s.d),some w) :: ((ρ.zip σ).eraseIdx i ++ fr)) H:=R2.add hx
    exact EOk.back (by rw [List.length_set]; exact E.len) (R3.perm (((dw_ E.len hi hv).append_right fr).symm.cons _))
  · exact t.elim
theorem cd_ (h:PE X (.Name x pos) (tVar i)):XE X Ex (.Name x pos) (xMove i):=fun F=>h.weak fun σ H Q=>by
  rintro ⟨ρ,fr,Qx,E,t,k⟩
  unfold xMove at t
  split at t
  · rename_i s hs
    obtain ⟨v,hv,hi,R⟩:=ef_ E hs
    obtain ⟨w,rfl,hx⟩:=R.head
    refine ⟨w,hv,k w _ H _ ?_ t⟩
    have R3:Rep F ((.v s,some w) :: (.un,some w) :: ((ρ.zip σ).eraseIdx i ++ fr)) H:=(R.addU (x:=some w)).perm (.swap _ _ _)
    exact EOk.back (by rw [List.length_set]; exact E.len) (R3.perm (((dw_ E.len hi hv).append_right fr).symm.cons _))
  · exact t.elim
end
def xC (d:Dx):XT:=fun ρ Q=>Q (.tr d) ρ
theorem xe_c {X:Cx} {Ex:ExT} {e:Expr} {v:V} (h:PE X e (tC v)) (d:Dx) (hd:∀ H,IsX H d v):XE X Ex e (xC d):=fun F=>h.weak fun σ H Q=>by
  rintro ⟨ρ,fr,Qx,E,t,k⟩
  exact k v _ H ρ (EOk.back E.len (E.rep.add (hd _))) t
section
variable {X:Cx} {Ex:ExT}
theorem ad_ {i j pos}:XE X Ex (.Constant (.int i) j pos) (xC (.int i)):=xe_c aw_ _ fun _=>IsX.of_int _
theorem fa_ {b j pos}:XE X Ex (.Constant (.bool b) j pos) (xC (.bl b)):=xe_c pe_bl _ fun _=>IsX.of_bl _
theorem xe_non {j pos}:XE X Ex (.Constant .none j pos) (xC .non):=xe_c pe_non _ fun _=>IsX.of_non
theorem br_ {x j pos}:XE X Ex (.Constant (.str x) j pos) (xC (.str x)):=xe_c hg_ _ fun _=>IsX.of_str _
end
abbrev G2:=Dx→Dx→(Sv→Prop)→Prop
def OpX (r:R2) (g:G2):Prop := ∀ (F:Fm) (P:List Rw) (H:Hp) (a b:Dx) (x y:V) (Q:VK) (Qx:Sv→Prop),Rep F P H→IsX (hid (owns P) (F.vis H)) a x→IsX (hid (owns P) (F.vis H)) b y→g a b Qx →
  (∀ v s H',Rep F ((.v s,some v) :: P) H'→Qx s→Q v H')→r x y H Q
def xOp (g:G2) (ta tb:XT):XT:=fun ρ Q=>ta ρ fun a ρ1=>tb ρ1 fun b ρ2=>g a.d b.d fun s=>Q s ρ2
theorem tOp_x {F:Fm} {r:R2} {g:G2} {ta tb:XT} (hx:OpX r g):∀ σ H Q,tX F (xOp g ta tb) σ H Q→tOp r (tX F ta) (tX F tb) σ H Q:=by
  rintro σ H Q ⟨ρ,fr,Qx,E,t,k⟩
  refine ⟨ρ,fr,_,E,t,fun v s H' ρ' E' t' => ?_⟩
  refine ⟨ρ',_,_,E',t',fun w s2 H2 ρ2 E2 t2 => ?_⟩
  obtain ⟨R,h1,h2⟩:=E2.two
  exact hx F _ H2 s.d s2.d v w Q (fun z=>Qx z ρ2) R h1 h2 t2 fun v' s' H' R' q=>k v' s' H' ρ2 (EOk.back E2.len R') q
def xB (t:XT):XC:=fun ρ Q=>t ρ fun s ρ'=>match s with
  | .tr (.bl b)=>Q b ρ'
  | _=>False
theorem tTest_x {F:Fm} {t:TE} {u:XT} (h:∀ σ H Q,tX F u σ H Q→t σ H Q):∀ σ H Q,tXc F (xB u) σ H Q→tTest t σ H Q:=by
  rintro σ H Q ⟨ρ,fr,Qx,E,t,k⟩
  refine h _ _ _ ⟨ρ,fr,_,E,t,fun v s H' ρ' E' q => ?_⟩
  split at q
  · rename_i b
    obtain ⟨_,hx⟩:=E'.one
    cases hx.bl_eq
    exact ⟨b,rfl,k b H' ρ' E'.drop q⟩
  · exact q.elim
section
variable {X:Cx} {Ex:ExT} {a b c e:Expr} {pos:Pos} {r r':R2} {g g':G2} {ta tb tc:XT}
theorem xe_op {op:Operator} (ho:OpR X (binaryOp op) r) (hx:OpX r g) (ha:XE X Ex a ta) (hb:XE X Ex b tb):XE X Ex (.BinOp a op b pos) (xOp g ta tb):=fun F=>(db_ ho (ha F) (hb F)).weak (tOp_x hx)
theorem ia_ {op:CmpOp} (ho:OpR X (compareOp op) r) (hx:OpX r g) (ha:XE X Ex a ta) (hb:XE X Ex b tb) (hm:behindInMarks op b=false):XE X Ex (.Compare a [op] [b] pos) (xOp g ta tb):=fun F=>(pe_cmpR ho (ha F) (hb F) hm).weak (tOp_x hx)
theorem av_ {op:CmpOp} (ho:OpR X (compareOp op) r) (hx:OpX r g) (ha:XE X Ex a ta) (hb:XE X Ex b tb) (hm:behindInMarks op b=false):XTe X Ex (.Compare a [op] [b] pos) (xB (xOp g ta tb)):=fun F=>(gz_ ho (ha F) (hb F) hm).weak (tTest_x (tOp_x hx))
theorem dn_ {t:XT} (h:XE X Ex e t) (he:∀ whole,isTrue e X.env whole=(do let v ← whole; standAt e.pos; holding [v] (truthy v)):=by intro _; rfl):XTe X Ex e (xB t):=fun F=>(pt_val (h F) he).weak (tTest_x fun _ _ _ z=>z)
def xAnd (t u:XC):XC:=fun ρ Q=>t ρ fun c ρ1=>if c=true then u ρ1 Q else Q false ρ1
def xOr (t u:XC):XC:=fun ρ Q=>t ρ fun c ρ1=>if c=true then Q true ρ1 else u ρ1 Q
def xNot (t:XC):XC:=fun ρ Q=>t ρ fun c ρ1=>Q (!c) ρ1
theorem xw_and1 {t:XC} (h:XTe X Ex a t):XW X Ex (.BoolOp .And [a] pos) t:=fun F=>pw_and1 (h F)
theorem xw_or1 {t:XC} (h:XTe X Ex a t):XW X Ex (.BoolOp .Or [a] pos) t:=fun F=>pw_or1 (h F)
theorem xw_and {t u:XC} {rest:List Expr} (h:XTe X Ex a t) (h':XW X Ex (.BoolOp .And (b :: rest) pos) u):XW X Ex (.BoolOp .And (a :: b :: rest) pos) (xAnd t u):=fun F=>(pw_and (h F) (h' F)).weak fun σ H Q=>by
  rintro ⟨ρ,fr,Qx,E,t,k⟩
  refine ⟨ρ,fr,_,E,t,fun c H' ρ' E' q => ?_⟩
  cases c with
  | true=>exact ⟨ρ',fr,Qx,E',q,k⟩
  | false=>exact k false H' ρ' E' q
theorem xw_or {t u:XC} {rest:List Expr} (h:XTe X Ex a t) (h':XW X Ex (.BoolOp .Or (b :: rest) pos) u):XW X Ex (.BoolOp .Or (a :: b :: rest) pos) (xOr t u):=fun F=>(pw_or (h F) (h' F)).weak fun σ H Q=>by
  rintro ⟨ρ,fr,Qx,E,t,k⟩
  refine ⟨ρ,fr,_,E,t,fun c H' ρ' E' q => ?_⟩
  cases c with
  | true=>exact k true H' ρ' E' q
  | false=>exact ⟨ρ',fr,Qx,E',q,k⟩
theorem eg_ {t:XC} (h:XTe X Ex a t):XTe X Ex (.UnaryOp .Not a pos) (xNot t):=fun F=>(pt_not (h F)).weak fun σ H Q=>by
  rintro ⟨ρ,fr,Qx,E,t,k⟩
  exact ⟨ρ,fr,_,E,t,fun c H' ρ' E' q=>k (!c) H' ρ' E' q⟩
theorem XW.pt {t:XC} (h:XW X Ex e t):XTe X Ex e t:=fun F=>(h F).pt
def xAndV (t u:XT):XT:=fun ρ Q=>xB t ρ fun c ρ1=>if c=true then u ρ1 Q else Q (.tr (.bl false)) ρ1
def xNotV (t:XT):XT:=fun ρ Q=>xB t ρ fun c ρ1=>Q (.tr (.bl (!c))) ρ1
theorem xe_one {op} {t:XT} (h:XE X Ex a t):XE X Ex (.BoolOp op [a] pos) t:=fun F=>pe_one (h F)
theorem xe_and {t u:XT} {rest:List Expr} (h:XE X Ex a t) (h':XE X Ex (.BoolOp .And (b :: rest) pos) u):XE X Ex (.BoolOp .And (a :: b :: rest) pos) (xAndV t u):=fun F=>(pe_and (h F) (h' F)).weak fun σ H Q=>by
  rintro ⟨ρ,fr,Qx,E,t,k⟩
  refine ⟨ρ,fr,_,E,t,fun v s H' ρ' E' q => ?_⟩
  split at q
  · rename_i c
    obtain ⟨_,hx⟩:=E'.one
    cases hx.bl_eq
    refine ⟨c,rfl,?_⟩
    cases c with
    | true=>exact ⟨ρ',fr,Qx,E'.drop,q,k⟩
    | false=>exact k _ _ H' ρ' (EOk.back E'.len (E'.drop.rep.add (IsX.of_bl _))) q
  · exact q.elim
theorem xe_not {t:XT} (h:XE X Ex a t):XE X Ex (.UnaryOp .Not a pos) (xNotV t):=fun F=>(pe_not (h F)).weak fun σ H Q=>by
  rintro ⟨ρ,fr,Qx,E,t,k⟩
  refine ⟨ρ,fr,_,E,t,fun v s H' ρ' E' q => ?_⟩
  split at q
  · rename_i c
    obtain ⟨_,hx⟩:=E'.one
    cases hx.bl_eq
    exact ⟨c,rfl,k _ _ H' ρ' (EOk.back E'.len (E'.drop.rep.add (IsX.of_bl _))) q⟩
  · exact q.elim
end
def xNil:XA:=fun ρ Q=>Q [] ρ
def xCons (t:XT) (u:XA):XA:=fun ρ Q=>t ρ fun s ρ1=>u ρ1 fun ss ρ2=>Q (s :: ss) ρ2
section
variable {X:Cx} {Ex:ExT} {e:Expr} {es:List Expr} {t:XT} {u:XA} {pos:Pos}
theorem ac_:XAs X Ex [] xNil:=fun F=>(cf_ (X:=X)).weak fun σ H Q=>by
  rintro ⟨ρ,fr,Qx,E,t,k⟩
  exact k [] [] H ρ rfl E t
theorem aa_ (h:XE X Ex e t) (h':XAs X Ex es u) (he:starEach (e :: es) X.env=(false,eval e X.env) :: starEach es X.env:=by rfl):XAs X Ex (e :: es) (xCons t u):=fun F=>(au_ (h F) (h' F) he).weak fun σ H Q=>by
  rintro ⟨ρ,fr,Qx,E,t,k⟩
  refine ⟨ρ,fr,_,E,t,fun v s H' ρ' E' q=>⟨ρ',_,_,E',q,fun vs ss H2 ρ2 hl E2 q2 => ?_⟩⟩
  refine k (v :: vs) (s :: ss) H2 ρ2 (by rw [List.length_cons,List.length_cons,hl]) ⟨E2.len,E2.rep.perm ?_⟩ q2
  exact List.Perm.append_left _ List.perm_middle
theorem EOk.many {F:Fm} {ρ:En} {σ:St} {fr:List Rw} {H:Hp}:∀ {ss:List Sv} {vs:List V},ss.length=vs.length→EOk F ρ σ (tmps ss vs ++ fr) H→Rep F (ρ.zip σ ++ fr) H∧All2 (IsX (hid (owns (ρ.zip σ ++ fr)) (F.vis H))) (ss.map Sv.d) vs
  | [],[],_,E=>⟨E.rep,rfl⟩
  | [],_ :: _,h,_=>by simp at h
  | _ :: _,[],h,_=>by simp at h
  | s :: ss, v :: vs, h, E => by
    have E':EOk F ρ σ ((.v s,some v) :: (tmps ss vs ++ fr)) H:=E
    obtain ⟨R,hs⟩:=EOk.many (ss:=ss) (vs:=vs) (by simpa using h) E'.drop
    obtain ⟨_,hx⟩:=E'.one
    refine ⟨R,v,vs,rfl,hx.to (ay_ fun c hc => ?_),hs⟩
    have:owns (ρ.zip σ ++ (tmps ss vs ++ fr))=owns (ρ.zip σ) ++ (owns (tmps ss vs) ++ owns fr):=by unfold owns; rw [List.flatMap_append,List.flatMap_append]
    rw [this]
    have h2:owns (ρ.zip σ ++ fr)=owns (ρ.zip σ) ++ owns fr:=by unfold owns; rw [List.flatMap_append]
    rw [h2] at hc
    rcases List.mem_append.mp hc with hc | hc
    · exact List.mem_append_left _ hc
    · exact List.mem_append_right _ (List.mem_append_right _ hc)
def xTup (u:XA):XT:=fun ρ Q=>u ρ fun ss ρ'=>ss.length≤1000000∧Q (.tr (.tup (ss.map Sv.d))) ρ'
def xLst (u:XA):XT:=fun ρ Q=>u ρ fun ss ρ'=>ss.length≤1000000∧Q (.ol (ss.map Sv.d)) ρ'
theorem line1:(1000000:Nat) < sizeLine:=by rw [sizeLine_eq]; decide
theorem dx_ {j:Nat} (h:XAs X Ex es u):XE X Ex (.Tuple es j pos) (xTup u):=fun F=>(pe_tup (h F)).weak fun σ H Q=>by
  rintro ⟨ρ,fr,Qx,E,t,k⟩
  refine ⟨ρ,fr,_,E,t,fun vs ss H2 ρ2 hl E2 q2=>⟨by have:=line1; omega,fun p hp => ?_⟩⟩
  obtain ⟨R,hs⟩:=E2.many hl
  exact k _ _ _ ρ2 (EOk.back E2.len (R.newT hp hs)) q2.2
theorem by_ (h:XAs X Ex es u):XE X Ex (.List es pos) (xLst u):=fun F=>(pe_lst (h F)).weak fun σ H Q=>by
  rintro ⟨ρ,fr,Qx,E,t,k⟩
  refine ⟨ρ,fr,_,E,t,fun vs ss H2 ρ2 hl E2 q2=>⟨by have:=line1; omega,fun p hp => ?_⟩⟩
  obtain ⟨R,hs⟩:=E2.many hl
  exact k _ _ _ ρ2 (EOk.back E2.len (R.newL hp hs)) q2.2
end
def gI (f:Int→Int→Dx):G2
  | .int i,.int j,Q=>Q (.tr (f i j))
  | _,_,_=>False
def gIC (C:Int→Int→Prop) (f:Int→Int→Dx):G2
  | .int i,.int j,Q=>C i j∧Q (.tr (f i j))
  | _,_,_=>False
theorem opx_i {f:Int→Int→V} {fd:Int→Int→Dx} (h:∀ H i j,IsX H (fd i j) (f i j)):OpX (rI0 f) (gI fd):=by
  intro F P H a b x y Q Qx R ha hb g k
  unfold gI at g
  split at g
  · cases ha.int_eq; cases hb.int_eq
    exact ⟨_,_,rfl,rfl,k _ _ H (R.add (h _ _ _)) g⟩
  · exact g.elim
theorem opx_ic {C:Int→Int→Prop} {f:Int→Int→V} {fd:Int→Int→Dx} (h:∀ H i j,IsX H (fd i j) (f i j)):OpX (rI C f) (gIC C fd):=by
  intro F P H a b x y Q Qx R ha hb g k
  unfold gIC at g
  split at g
  · cases ha.int_eq; cases hb.int_eq
    exact ⟨_,_,rfl,rfl,g.1,k _ _ H (R.add (h _ _ _)) g.2⟩
  · exact g.elim
abbrev subX:G2:=gI fun i j=>.int (i - j)
abbrev fdivX:G2:=gIC CDivB fun i j=>.int (i / j)
abbrev modX:G2:=gIC (fun _ j=>0 < j) fun i j=>.int (i % j)
abbrev powX:G2:=gIC CPow fun i j=>.int (i ^ j.toNat)
abbrev ltX:G2:=gI fun i j=>.bl (decide (i < j))
abbrev leX:G2:=gI fun i j=>.bl (decide (i≤j))
abbrev gtX:G2:=gI fun i j=>.bl (decide (j < i))
abbrev geX:G2:=gI fun i j=>.bl (decide (j≤i))
theorem oi {f:Int→Int→Int}:∀ H i j,IsX H (.int (f i j)) (.int (f i j)):=fun _ _ _=>IsX.of_int _
theorem ob {f:Int→Int→Bool}:∀ H i j,IsX H (.bl (f i j)) (.bl (f i j)):=fun _ _ _=>IsX.of_bl _
def addX:G2
  | .int i,.int j,Q=>Q (.tr (.int (i + j)))
  | .str i,.str j,Q=>i.length + j.length≤1000000∧Q (.tr (.str (i ++ j)))
  | .lst l,.lst m,Q=>l.length + m.length≤1000000∧Q (.ol (l ++ m))
  | _,_,_=>False
def mulX:G2
  | .int i,.int j,Q=>CMulB i j∧Q (.tr (.int (i * j)))
  | .lst l,.int j,Q=>(j≤1000000 ∧ -1000000≤j∧l.length * j.toNat≤1000000)∧Q (.ol (List.replicate j.toNat l).flatten)
  | .str z,.int j,Q=>(z.length≤1000∧0≤j∧j≤1000)∧Q (.tr (.str (Txt.mul z j)))
  | _,_,_=>False
section
variable {X:Cx} {Ex:ExT} {a b e:Expr} {pos:Pos} {ta tb:XT}
theorem bf_ (ha:XE X Ex a ta) (hb:XE X Ex b tb):XE X Ex (.BinOp a .Add b pos) (xOp addX ta tb):=xe_op (op_add.or (op_add_str.or op_cat)) (by
  intro F P H a b x y Q Qx R ha hb g k
  unfold addX at g
  split at g
  · cases ha.int_eq; cases hb.int_eq
    exact .inl ⟨_,_,rfl,rfl,k _ _ H (R.add (IsX.of_int _)) g⟩
  · cases ha.str_eq; cases hb.str_eq
    exact .inr (.inl ⟨_,_,rfl,rfl,by have:=line1; omega,k _ _ H (R.add (IsX.of_str _)) g.2⟩)
  · obtain ⟨p, vs, rfl, h1, h2⟩ := ha.lst_eq
    obtain ⟨q,ws,rfl,h3,h4⟩:=hb.lst_eq
    refine .inr (.inr ⟨p,q,vs,ws,rfl,rfl,R.hv _ _ h1,R.hv _ _ h3,by rw [h2.len,h4.len]; have:=line1; omega,fun l hl=>k _ _ _ (R.newL hl (All2.app h4 h2)) g.2⟩)
  · exact g.elim) ha hb
theorem all2_flat {α β:Type} {g:α→β→Prop} {l:List α} {m:List β} (h:All2 g l m):∀ n,All2 g (List.replicate n l).flatten (List.replicate n m).flatten
  | 0=>rfl
  | n + 1=>by rw [List.replicate_succ,List.replicate_succ,List.flatten_cons,List.flatten_cons]; exact All2.app (all2_flat h n) h
theorem ch_ (ha:XE X Ex a ta) (hb:XE X Ex b tb):XE X Ex (.BinOp a .Mult b pos) (xOp mulX ta tb):=xe_op (op_mulB.or (op_rep.or op_mul_str)) (by
  intro F P H a b x y Q Qx R ha hb g k
  unfold mulX at g
  split at g
  · cases ha.int_eq; cases hb.int_eq
    exact .inl ⟨_,_,rfl,rfl,g.1,k _ _ H (R.add (IsX.of_int _)) g.2⟩
  · obtain ⟨p, vs, rfl, h1, h2⟩ := ha.lst_eq
    cases hb.int_eq
    obtain ⟨⟨g1,g2,g3⟩,g4⟩:=g
    refine .inr (.inl ⟨p,_,vs,rfl,rfl,R.hv _ _ h1,by omega,by omega,by rw [h2.len]; have:=line1; omega,fun l hl=>k _ _ _ (R.newL hl (all2_flat h2 _)) g4⟩)
  · cases ha.str_eq; cases hb.int_eq
    exact .inr (.inr ⟨_,_,rfl,rfl,g.1.1,g.1.2.1,g.1.2.2,k _ _ H (R.add (IsX.of_str _)) g.2⟩)
  · exact g.elim) ha hb
theorem fv_ (ha:XE X Ex a ta) (hb:XE X Ex b tb):XE X Ex (.BinOp a .Sub b pos) (xOp subX ta tb):=xe_op op_sub (opx_i oi) ha hb
theorem xe_fdiv (ha:XE X Ex a ta) (hb:XE X Ex b tb):XE X Ex (.BinOp a .FloorDiv b pos) (xOp fdivX ta tb):=xe_op op_fdivB (opx_ic oi) ha hb
theorem hy_ (ha:XE X Ex a ta) (hb:XE X Ex b tb):XE X Ex (.BinOp a .Mod b pos) (xOp modX ta tb):=xe_op op_mod (opx_ic oi) ha hb
theorem xe_pow (ha:XE X Ex a ta) (hb:XE X Ex b tb):XE X Ex (.BinOp a .Pow b pos) (xOp powX ta tb):=xe_op op_pow (opx_ic oi) ha hb
end
theorem ox_lt:OpX (rI0 fun i j=>.bl (decide (i < j))) ltX:=opx_i ob
theorem ox_le:OpX (rI0 fun i j=>.bl (decide (i≤j))) leX:=opx_i ob
theorem ox_gt:OpX (rI0 fun i j=>.bl (decide (j < i))) gtX:=opx_i ob
theorem ox_ge:OpX (rI0 fun i j=>.bl (decide (j≤i))) geX:=opx_i ob
def eqS:Dx→Dx→Option Bool
  | .int i,.int j=>some (decide (i=j))
  | .str i,.str j=>some (decide (i=j))
  | .bl i,.bl j=>some (decide (i=j))
  | .non,.non=>some true
  | .non,.int _=>some false | .int _,.non=>some false | .non,.bl _=>some false | .bl _,.non=>some false | .non,.str _=>some false | .str _,.non=>some false
  | .int _,.str _=>some false | .str _,.int _=>some false | .bl _,.str _=>some false | .str _,.bl _=>some false
  | .lst l,.lst []=>some l.isEmpty
  | _,_=>none
def eqX:G2:=fun a b Q=>match eqS a b with
  | some c=>Q (.tr (.bl c))
  | none=>False
def neX:G2:=fun a b Q=>match eqS a b with
  | some c=>Q (.tr (.bl (!c)))
  | none=>False
def scV:Dx→Option V
  | .int i=>some (.int i)
  | .str i=>some (.str i)
  | .bl i=>some (.bl i)
  | .non=>some .non
  | _=>none
theorem scV_is {H:Hp} {d:Dx} {x v:V} (h:IsX H d x) (e:scV d=some v):x=v:=by
  cases d <;> simp only [scV,Option.some.injEq] at e <;> first | (subst e; first | exact h.int_eq | exact h.str_eq | exact h.bl_eq | exact h.non_eq) | cases e
theorem eqS_scal {a b:Dx} {c:Bool} (h:eqS a b=some c):(∃ l,a=.lst l∧b=.lst []∧c=l.isEmpty)∨∃ x y,scV a=some x∧scV b=some y∧scal x y=true∧decide (x=y)=c:=by
  unfold eqS at h
  split at h <;> (try simp only [Option.some.injEq] at h) <;> first
    | (subst h; exact .inr ⟨_,_,rfl,rfl,rfl,by simp⟩)
    | (subst h; exact .inl ⟨_,rfl,rfl,rfl⟩)
    | cases h
section
variable {K:FG_}
def rEqN (K:FG_) (n:Bool):R2:=fun x y H Q => ∃ p b xs,x=.ref p∧y=.ref b∧SqL K H p xs∧SqL K H b []∧Q (.bl (if n then !xs.isEmpty else xs.isEmpty)) H
theorem cs_:OpX (fun x y H Q=>rEq x y H Q∨rEqN K false x y H Q) eqX:=by
  intro F P H a b x y Q Qx R ha hb g k
  unfold eqX at g
  split at g
  · rename_i c hc
    rcases eqS_scal hc with ⟨l,rfl,rfl,rfl⟩ | ⟨u,w,h1,h2,h3,h4⟩
    · obtain ⟨p, vs, rfl, q1, q2⟩ := ha.lst_eq
      obtain ⟨p',vs',rfl,q3,q4⟩:=hb.lst_eq
      cases (show vs'=[] from q4)
      refine .inr ⟨p,p',vs,rfl,rfl,SqL.of (R.hv _ _ q1),SqL.of (R.hv _ _ q3),k _ (.tr (.bl l.isEmpty)) H (R.add ?_) g⟩
      have:vs.isEmpty=l.isEmpty:=by
        have:=q2.len
        cases vs <;> cases l <;> simp at this ⊢
      simp only [IsX,this]; rfl
    · cases scV_is ha h1; cases scV_is hb h2
      exact .inl ⟨h3,k _ _ H (R.add (by rw [h4]; exact IsX.of_bl _)) g⟩
  · exact g.elim
theorem ox_ne:OpX (fun x y H Q=>rNe x y H Q∨rEqN K true x y H Q) neX:=by
  intro F P H a b x y Q Qx R ha hb g k
  unfold neX at g
  split at g
  · rename_i c hc
    rcases eqS_scal hc with ⟨l,rfl,rfl,rfl⟩ | ⟨u,w,h1,h2,h3,h4⟩
    · obtain ⟨p, vs, rfl, q1, q2⟩ := ha.lst_eq
      obtain ⟨p',vs',rfl,q3,q4⟩:=hb.lst_eq
      cases (show vs'=[] from q4)
      refine .inr ⟨p,p',vs,rfl,rfl,SqL.of (R.hv _ _ q1),SqL.of (R.hv _ _ q3),k _ (.tr (.bl (!l.isEmpty))) H (R.add ?_) g⟩
      have:vs.isEmpty=l.isEmpty:=by
        have:=q2.len
        cases vs <;> cases l <;> simp at this ⊢
      simp only [IsX,this]; rfl
    · cases scV_is ha h1; cases scV_is hb h2
      exact .inl ⟨h3,k _ _ H (R.add (by rw [h4]; exact IsX.of_bl _)) g⟩
  · exact g.elim
end
section
variable {X:Cx} {Ex:ExT} (K:FG_) (h:X.K=K)
theorem bs_ (hu:X.A.units < cLine) (h:X.K=K:=by rfl):OpR X (compareOp .Eq) (fun x y H Q=>rEq x y H Q∨rEqN K false x y H Q):=by subst h; exact op_eq.or (op_eqNil hu)
theorem op_neA (hu:X.A.units < cLine) (h:X.K=K:=by rfl):OpR X (compareOp .NotEq) (fun x y H Q=>rNe x y H Q∨rEqN K true x y H Q):=by subst h; exact op_ne.or (op_neNil hu)
end
def isNX (neg:Bool):G2
  | .non,.non,Q=>Q (.tr (.bl !neg))
  | _,.non,Q=>Q (.tr (.bl neg))
  | _,_,_=>False
theorem isX_ne {H:Hp} {a:Dx} {x:V} (h:IsX H a x) (ha:a ≠ .non):¬ x=.non:=by
  intro z
  subst z
  cases a with
  | non=>exact ha rfl
  | bl _=>cases h.bl_eq
  | int _=>cases h.int_eq
  | str _=>cases h.str_eq
  | tup _=>obtain ⟨_,_,e,_⟩:=h.tup_eq; cases e
  | lst _=>obtain ⟨_,_,e,_⟩:=h.lst_eq; cases e
  | dic _=>obtain ⟨_,_,e,_⟩:=h.dic_eq; cases e
  | scr _ _=>obtain ⟨_,e,_⟩:=h.scr_eq; cases e
  | ins _ _=>obtain ⟨_,_,_,e,_⟩:=h.ins_eq; cases e
  | exc _=>obtain ⟨_,e,_⟩:=h.exc_eq; cases e
theorem ox_notN:OpX (fun x y H Q=>y=.non∧Q (.bl (!decide (x=.non))) H) (isNX true):=by
  intro F P H a b x y Q Qx R ha hb g k
  unfold isNX at g
  split at g
  · cases ha.non_eq; cases hb.non_eq
    exact ⟨rfl,k _ _ H (R.add (IsX.of_bl _)) g⟩
  · rename_i hna
    cases hb.non_eq
    exact ⟨rfl,k _ _ H (R.add (by rw [decide_eq_false (isX_ne ha fun z=>hna z)]; exact IsX.of_bl _)) g⟩
  · exact g.elim
def ixX:G2
  | .lst l,.int i,Q=>(match atI l i with | some d=>Q (.tr d) | none=>False)
  | .tup l,.int i,Q=>(match atI l i with | some d=>Q (.tr d) | none=>False)
  | .str z,.int i,Q=>z.length≤1000000∧(match atI z.cps.toList i with | some c=>Q (.tr (.str ⟨#[c]⟩)) | none=>False)
  | _,_,_=>False
theorem all2_atI {α β:Type} {g:α→β→Prop} {l:List α} {m:List β} {i:Int} {d:α} (h:All2 g l m) (e:atI l i=some d):∃ v,atI m i=some v∧g d v:=by
  unfold atI at e ⊢
  rw [h.len]
  obtain ⟨j,h1,h2⟩:=Option.bind_eq_some_iff.mp e
  obtain ⟨v,h3,h4⟩:=h.at h2
  exact ⟨v,Option.bind_eq_some_iff.mpr ⟨j,h1,h3⟩,h4⟩
theorem ox_ix {K:FG_}:OpX (fun x y H Q=>rIxL K x y H Q∨rIxT K x y H Q∨rIxS x y H Q) ixX:=by
  intro F P H a b x y Q Qx R ha hb g k
  unfold ixX at g
  split at g
  · obtain ⟨p, vs, rfl, h1, h2⟩ := ha.lst_eq
    cases hb.int_eq
    split at g
    · rename_i d hd
      obtain ⟨v,h3,h4⟩:=all2_atI h2 hd
      exact .inl ⟨p,vs,_,v,rfl,rfl,SqL.of (R.hv _ _ h1),h3,k _ _ H (R.add h4) g⟩
    · exact g.elim
  · obtain ⟨p, vs, rfl, h1, h2⟩ := ha.tup_eq
    cases hb.int_eq
    split at g
    · rename_i d hd
      obtain ⟨v,h3,h4⟩:=all2_atI h2 hd
      exact .inr (.inl ⟨p,vs,_,v,rfl,rfl,SqT.of (R.hv _ _ h1),h3,k _ _ H (R.add h4) g⟩)
    · exact g.elim
  · cases ha.str_eq; cases hb.int_eq
    obtain ⟨g0,g⟩:=g
    split at g
    · rename_i c hc
      exact .inr (.inr ⟨_,_,c,rfl,rfl,by have:=line1; omega,hc,k _ _ H (R.add (IsX.of_str _)) g⟩)
    · exact g.elim
  · exact g.elim
theorem IxR.or {X:Cx} {r r':R2} (h:IxR X r) (h':IxR X r'):IxR X (fun x y H Q=>r x y H Q∨r' x y H Q):=fun a b pins s σ H x y v u Q I rx ry q hs=>q.elim (fun q=>h a b pins s σ H x y v u Q I rx ry q hs) fun q=>h' a b pins s σ H x y v u Q I rx ry q hs
theorem am_ {X:Cx} {Ex:ExT} {a b:Expr} {pos:Pos} {ta tb:XT} (K:FG_) (ha:XE X Ex a ta) (hb:XE X Ex b tb) (hs:PlainIx b) (h:X.K=K:=by rfl):XE X Ex (.Subscript a b pos) (xOp ixX ta tb):=fun F =>
  (fh_ (IxR.or (ix_listK K h) (IxR.or (ix_tupK K h) ix_str)) (ha F) (hb F) hs).weak (tOp_x ox_ix)
def getK (l:List (Key×Dx)) (k:Key):Option Dx:=(l.find? fun p=>decide (p.1=k)).map (·.2)
theorem getK_val {G:Hp} {k:Key}:∀ {l:List (Key×Dx)} {ws:List (Key×V)},All2 (KvX G) l ws→(getK l k=none∧valV ws k=none)∨∃ d v,getK l k=some d∧valV ws k=some v∧IsX G d v
  | [],_,h=>by rw [show _=[] from h]; exact .inl ⟨rfl,rfl⟩
  | p :: l, _, ⟨w, wr, e, ⟨h1, h2⟩, h3⟩ => by
    rw [e]
    by_cases hk:p.1=k
    · refine .inr ⟨p.2, w.2, ?_, hl_ (h1 ▸ hk), h2⟩
      unfold getK
      rw [List.find?_cons,decide_eq_true hk]
      rfl
    · rw [hm_ (h1 ▸ hk)]
      have:getK (p :: l) k=getK l k:=by unfold getK; rw [List.find?_cons,decide_eq_false hk]
      rw [this]
      exact getK_val h3
def keyD:Dx→Option Key
  | .int i=>some (.inl i)
  | .str x=>some (.inr x)
  | _=>none
theorem keyD_is {H:Hp} {d:Dx} {x:V} {k:Key} (h:IsX H d x) (e:keyD d=some k):x=kV k:=by
  cases d <;> simp only [keyD,Option.some.injEq] at e <;> first | (subst e; first | exact h.int_eq | exact h.str_eq) | cases e
def dgX:G2:=fun a b Q=>match a,keyD b with
  | .dic l,some k=>(match getK l k with | some d=>Q (.tr d) | none=>False)
  | _,_=>False
def dinX (neg:Bool):G2:=fun a b Q=>match keyD a,b with
  | some k,.dic l=>Q (.tr (.bl (if neg then !(getK l k).isSome else (getK l k).isSome)))
  | _,_=>False
theorem DGet.rd {H:Hp} {a:Addr} {kvs:List (Key×V)} {k:Key} (e:Rd H a (.dK kvs)):DGet H a (kV k) (valV kvs k):=.inl ⟨kvs,k,e,rfl,rfl⟩
theorem rd_hv {F:Fm} {P:List Rw} {H:Hp} (R:Rep F P H) {O:List Addr} {a:Addr} {u:HO} (h:Rd (hid O (F.vis H)) a u):Rd H a u:=by
  rcases h with h | ⟨o,h⟩
  · exact .inl (R.hv _ _ h)
  · exact .inr ⟨o,R.hv _ _ h⟩
theorem ox_dget:OpX (fun x y H Q => ∃ a v,x=.ref a∧DGet H a y (some v)∧Q v H) dgX:=by
  intro F P H a b x y Q Qx R ha hb g k
  unfold dgX at g
  split at g
  · rename_i l kk hk
    obtain ⟨p,ws,rfl,h1,h2⟩:=ha.dic_eq
    cases keyD_is hb hk
    split at g
    · rename_i d hd
      rcases getK_val (k:=kk) h2 with ⟨z,_⟩ | ⟨d',v,z1,z2,z3⟩
      · rw [z] at hd; cases hd
      · rw [z1] at hd; cases hd
        exact ⟨p,v,rfl,by rw [← z2]; exact DGet.rd (rd_hv R h1),k _ _ H (R.add z3) g⟩
    · exact g.elim
  · exact g.elim
theorem ox_din (neg:Bool):OpX (fun y x H Q => ∃ a o,x=.ref a∧DGet H a y o∧Q (.bl (if neg then !o.isSome else o.isSome)) H) (dinX neg):=by
  intro F P H a b x y Q Qx R ha hb g k
  unfold dinX at g
  split at g
  · rename_i kk l hk
    obtain ⟨p,ws,rfl,h1,h2⟩:=hb.dic_eq
    cases keyD_is ha hk
    refine ⟨p,_,rfl,DGet.rd (k:=kk) (rd_hv R h1),k _ _ H (R.add ?_) g⟩
    rcases getK_val (k:=kk) h2 with ⟨z1,z2⟩ | ⟨d',v,z1,z2,z3⟩
    · rw [z1,z2]; simp only [IsX]; rfl
    · rw [z1,z2]; simp only [IsX]; rfl
  · exact g.elim
section
variable {X:Cx} {Ex:ExT} {a b o i:Expr} {pos:Pos} {ta tb:XT}
theorem xe_dget (hu:X.A.units + 1 < cLine) (ha:XE X Ex o ta) (hb:XE X Ex i tb) (hs:NoSl i):XE X Ex (.Subscript o i pos) (xOp dgX ta tb):=fun F=>(pe_dget hu (ha F) (hb F) hs).weak fun σ H Q h=>tOp_x ox_dget σ H Q h
theorem xe_din (hu:X.A.units + 1 < cLine) (ha:XE X Ex i ta) (hb:XE X Ex o tb) (hm:behindInMarks .In o=false):XE X Ex (.Compare i [.In] [o] pos) (xOp (dinX false) ta tb):=fun F=>(pe_cmp (pc_din hu (ha F) (hb F)) hm).weak fun σ H Q h=>tOp_x (ox_din false) σ H Q h
def xDNew:XT:=fun ρ Q=>Q (.od []) ρ
theorem xe_dnew:XE X Ex (.Dict [] [] pos) xDNew:=fun F=>(pe_dnewK (X:=X)).weak fun σ H Q=>by
  rintro ⟨ρ,fr,Qx,E,t,k⟩
  exact fun p hp=>k _ _ _ ρ (EOk.back E.len (E.rep.newD hp All2.nil)) t
end
abbrev GC:=List Dx→(Sv→Prop)→Prop
def CallX (r:List V→Hp→VK→Prop) (g:GC):Prop := ∀ (F:Fm) (P:List Rw) (H:Hp) (ds:List Dx) (xs:List V) (Q:VK) (Qx:Sv→Prop),Rep F P H→All2 (IsX (hid (owns P) (F.vis H))) ds xs→g ds Qx →
  (∀ v s H',Rep F ((.v s,some v) :: P) H'→Qx s→Q v H')→r xs H Q
def xCall (g:GC) (u:XA):XT:=fun ρ Q=>u ρ fun ss ρ'=>g (ss.map Sv.d) fun s=>Q s ρ'
theorem tCB_x {F:Fm} {r:List V→Hp→VK→Prop} {g:GC} {u:XA} (hx:CallX r g):∀ σ H Q,tX F (xCall g u) σ H Q→tCB r (tXa F u) σ H Q:=by
  rintro σ H Q ⟨ρ,fr,Qx,E,t,k⟩
  refine ⟨ρ,fr,_,E,t,fun vs ss H2 ρ2 hl E2 q2 => ?_⟩
  obtain ⟨R,hs⟩:=E2.many hl
  exact hx F _ H2 _ vs Q (fun s=>Qx s ρ2) R hs q2 fun v s H' R' q=>k v s H' ρ2 (EOk.back E2.len R') q
section
variable {X:Cx} {Ex:ExT} {e:Expr} {es:List Expr} {x:Str} {p pos:Pos} {r:List V→Hp→VK→Prop} {g:GC} {u:XA} {id T:String}
theorem az_ (hc:CallR X (.builtin id) r) (hx:CallX r g) (hg:Gl X x) (hm:X.mg x=none) (hv:bootBuiltins x=some (.builtin id)) (ha:XAs X Ex (e :: es) u) (hn:x ≠ "__name__" := by decide) (hdb:(x == ("__debug__" : Str))=false:=by decide)
    (he:starEach (e :: es) X.env=(false,eval e X.env) :: starEach es X.env:=by rfl) (hpl:(backTo pos (starEach es X.env)).any (·.1)=false:=by rfl):XE X Ex (.Call (.Name x p) (e :: es) [] pos) (xCall g u):=fun F=>(pe_callB hc hg hm hv (ha F) hn hdb he hpl).weak (tCB_x hx)
theorem ib_ (hc:CallR X (.type T) r) (hx:CallX r g) (hg:Gl X x) (hm:X.mg x=none) (hv:bootBuiltins x=some (.type T)) (ha:XAs X Ex (e :: es) u) (hn:x ≠ "__name__" := by decide) (hdb:(x == ("__debug__" : Str))=false:=by decide)
    (he:starEach (e :: es) X.env=(false,eval e X.env) :: starEach es X.env:=by rfl) (hpl:(backTo pos (starEach es X.env)).any (·.1)=false:=by rfl):XE X Ex (.Call (.Name x p) (e :: es) [] pos) (xCall g u):=fun F=>(pe_callTy hc hg hm hv (ha F) hn hdb he hpl).weak (tCB_x hx)
end
theorem dc_ {α β:Type} {g:α→β→Prop} {a:α} {xs:List β} (h:All2 g [a] xs):∃ x,xs=[x]∧g a x:=by
  obtain ⟨x,xr,rfl,h1,h2⟩:=h
  cases (show xr=[] from h2)
  exact ⟨x,rfl,h1⟩
theorem all2_2 {α β:Type} {g:α→β→Prop} {a b:α} {xs:List β} (h:All2 g [a,b] xs):∃ x y,xs=[x,y]∧g a x∧g b y:=by
  obtain ⟨x,xr,rfl,h1,h2⟩:=h
  obtain ⟨y,rfl,h3⟩:=dc_ h2
  exact ⟨x,y,rfl,h1,h3⟩
def lenX:GC
  | [.lst l],Q=>Q (.tr (.int l.length))
  | [.tup l],Q=>Q (.tr (.int l.length))
  | [.str z],Q=>z.length≤1000000∧Q (.tr (.int z.length))
  | [.dic l],Q=>Q (.tr (.int l.length))
  | _,_=>False
abbrev rLen (K:FG_):List V→Hp→VK→Prop:=fun xs H Q=>(∃ p ys,xs=[.ref p]∧(SqL K H p ys∨SqT K H p ys)∧Q (.int ys.length) H)∨(∃ z,xs=[.str z]∧z.length≤sizeLine∧Q (.int z.length) H)∨(∃ a kvs,xs=[V.ref a]∧Rd H a (.dK kvs)∧Q (.int kvs.length) H)
theorem cb_ {X:Cx} (K:FG_) (h:X.K=K:=by rfl):CallR X (.builtin "len") (rLen K):=by
  subst h
  refine call_len_seq.or (call_len_str.or ?_)
  intro pins s σ H xs us Q I r h
  obtain ⟨a,kvs,rfl,ha,q⟩:=h
  obtain ⟨u,rfl,ru⟩:=vals1 r
  cases ru
  exact d_len I ha fun t s' I'=>⟨.int kvs.length,H,I',⟨t,rfl⟩,q⟩
theorem fx_ {K:FG_}:CallX (rLen K) lenX:=by
  intro F P H ds xs Q Qx R hs g k
  unfold lenX at g
  split at g
  · obtain ⟨x, rfl, hx⟩ := dc_ hs
    obtain ⟨a,vs,rfl,h1,h2⟩:=hx.lst_eq
    exact .inl ⟨a,vs,rfl,.inl (SqL.of (R.hv _ _ h1)),k _ _ H (R.add (by rw [h2.len]; exact IsX.of_int _)) g⟩
  · obtain ⟨x, rfl, hx⟩ := dc_ hs
    obtain ⟨a,vs,rfl,h1,h2⟩:=hx.tup_eq
    exact .inl ⟨a,vs,rfl,.inr (SqT.of (R.hv _ _ h1)),k _ _ H (R.add (by rw [h2.len]; exact IsX.of_int _)) g⟩
  · obtain ⟨x, rfl, hx⟩ := dc_ hs
    cases hx.str_eq
    exact .inr (.inl ⟨_,rfl,by have:=line1; omega,k _ _ H (R.add (IsX.of_int _)) g.2⟩)
  · obtain ⟨x, rfl, hx⟩ := dc_ hs
    obtain ⟨a,vs,rfl,h1,h2⟩:=hx.dic_eq
    exact .inr (.inr ⟨a,vs,rfl,rd_hv R h1,k _ _ H (R.add (by rw [h2.len]; exact IsX.of_int _)) g⟩)
  · exact g.elim
def intX:GC
  | [.int i],Q=>Q (.tr (.int i))
  | [.bl b],Q=>Q (.tr (.int (if b then 1 else 0)))
  | _,_=>False
theorem cx_int:CallX (fun xs H Q=>(∃ i,xs=[.int i]∧Q (.int i) H)∨∃ k,xs=[.bl k]∧Q (.int (if k then 1 else 0)) H) intX:=by
  intro F P H ds xs Q Qx R hs g k
  unfold intX at g
  split at g
  · obtain ⟨x, rfl, hx⟩ := dc_ hs
    cases hx.int_eq
    exact .inl ⟨_,rfl,k _ _ H (R.add (IsX.of_int _)) g⟩
  · obtain ⟨x, rfl, hx⟩ := dc_ hs
    cases hx.bl_eq
    exact .inr ⟨_,rfl,k _ _ H (R.add (IsX.of_int _)) g⟩
  · exact g.elim
def listX:GC
  | [.lst l],Q=>Q (.ol l)
  | [.tup l],Q=>Q (.ol l)
  | _,_=>False
theorem call_listA {X:Cx} (K:FG_) (h:X.K=K:=by rfl):CallR X (.type "list") (fun xs H Q => ∃ p ys,xs=[.ref p]∧(SqL K H p ys∨SqT K H p ys)∧∀ l,H l=none→Q (.ref l) (upd H l (.lst ys))):=by subst h; exact call_list_of
theorem cx_list {K:FG_}:CallX (fun xs H Q => ∃ p ys,xs=[.ref p]∧(SqL K H p ys∨SqT K H p ys)∧∀ l,H l=none→Q (.ref l) (upd H l (.lst ys))) listX:=by
  intro F P H ds xs Q Qx R hs g k
  unfold listX at g
  split at g
  · obtain ⟨x, rfl, hx⟩ := dc_ hs
    obtain ⟨a,vs,rfl,h1,h2⟩:=hx.lst_eq
    exact ⟨a,vs,rfl,.inl (SqL.of (R.hv _ _ h1)),fun l hl=>k _ _ _ (R.newL hl h2) g⟩
  · obtain ⟨x, rfl, hx⟩ := dc_ hs
    obtain ⟨a,vs,rfl,h1,h2⟩:=hx.tup_eq
    exact ⟨a,vs,rfl,.inr (SqT.of (R.hv _ _ h1)),fun l hl=>k _ _ _ (R.newL hl h2) g⟩
  · exact g.elim
inductive Ty where
  | bool | int | str | tuple | list | dict
def Ty.nm:Ty→String
  | .bool => "bool" | .int => "int" | .str => "str" | .tuple => "tuple" | .list => "list" | .dict => "dict"
def tyN:Dx→String
  | .non => "NoneType" | .bl _ => "bool" | .int _ => "int" | .str _ => "str" | .tup _ => "tuple" | .lst _ => "list" | .dic _ => "dict" | .scr _ _ => "list" | .ins _ _ => "object" | .exc _ => "object"
def isT:Ty→Dx→Bool
  | .bool,.bl _=>true
  | .int,.int _=>true
  | .int,.bl _=>true
  | .str,.str _=>true
  | .tuple,.tup _=>true
  | .list,.lst _=>true
  | .dict,.dic _=>true
  | .list,.scr _ _=>true
  | _,_=>false
def noScr:Dx→Prop
  | .scr _ _=>False
  | .ins _ _=>False
  | .exc _=>False
  | _=>True
theorem kit_tab {K:FG_} {d:Dx} {n:Ty} (hd:noScr d):PySem.W.kitOne K (.type (tyN d)) (.type n.nm)=some (isT n d):=by
  have h:∀ T∈["NoneType", "bool", "int", "str", "tuple", "list", "dict"],∀ n:Ty,PySem.W.kitOne K (.type T) (.type n.nm)=some (T == n.nm || (n.nm == "int" && T == "bool")):=by
    intro T hT n
    simp only [List.mem_cons,List.not_mem_nil,or_false] at hT
    rcases hT with rfl | rfl | rfl | rfl | rfl | rfl | rfl <;> cases n <;> first
      | exact kit_self _
      | exact kit_of (by decide +kernel) (by decide +kernel) (by decide +kernel)
  rw [h _ (by cases d <;> first | exact hd.elim | simp [tyN]) n]
  cases d <;> cases n <;> first | rfl | exact hd.elim
theorem isinst_rd {X:Cx} {pins:PN_} {σ:St} {H:Hp} {s:Shared} {A:Around} {E:SV_} {Q:SV_} {b:Bool} {c:Value} {d:Dx} {x:V} {u:Value} (I:Inv X pins σ H s) (rx:RelV x u) (hx:IsX H d x) (hd:noScr d) (e:PySem.W.kitOne X.K (.type (tyN d)) c=some b) (h:∀ tk,Q (.bool b) { s with toks:=tk }) :
    wpAny (model X.prog X.w) A (call (.builtin "isinstance") [u,c]) Q E s:=by
  cases d with
  | non=>cases hx.non_eq; exact du_ I rx .non e h
  | bl _=>cases hx.bl_eq; exact du_ I rx (.bl _) e h
  | int _=>cases hx.int_eq; exact du_ I rx (.int _) e h
  | str _=>cases hx.str_eq; exact du_ I rx (.str _) e h
  | tup _=>obtain ⟨a,vs,rfl,h1,_⟩:=hx.tup_eq; exact du_ I rx (.tup h1) e h
  | lst _=>obtain ⟨a,vs,rfl,h1,_⟩:=hx.lst_eq; exact du_ I rx (.lst h1) e h
  | dic _ =>
    obtain ⟨a,vs,rfl,h1,_⟩:=hx.dic_eq
    rcases h1 with h1 | ⟨ob,h1⟩
    · exact du_ I rx (.dK h1) e h
    · cases (show u = Value.ref a from rx)
      obtain ⟨_,_,_,_,_,p⟩:=(show ObjOk X.prog X.w H s.heap a (.frz ob (.dK vs)) from I.hok a _ h1)
      obtain ⟨o,es,ep,h1,h2,_⟩:=p
      exact PySem.W.kia_one PySem.W.kitx_dict I.kIn ⟨o,h1,h2.1⟩ e (fun z=>nomatch z) h
  | scr _ _=>exact hd.elim
  | ins _ _=>exact hd.elim
  | exc _=>exact hd.elim
theorem call_isX {X:Cx} (n:Ty):CallR X (.builtin "isinstance") (fun xs H Q => ∃ x d,xs=[x,.ty n.nm]∧IsX H d x∧noScr d∧Q (.bl (isT n d)) H):=by
  intro pins s σ H xs us Q I r h
  obtain ⟨x,d,rfl,hx,hd,q⟩:=h
  obtain ⟨u,w',rfl,r1,r2⟩:=vals2 r
  cases (show w'=Value.type n.nm from r2)
  exact isinst_rd I r1 hx hd (kit_tab hd) (fun tk=>⟨.bl _,H,I.tok _,rfl,q⟩)
def xIs (n:Ty) (t:XT):XT:=fun ρ Q=>t ρ fun s ρ'=>match s.d with
  | .scr _ _=>False
  | .ins _ _=>False
  | .exc _=>False
  | d=>Q (.tr (.bl (isT n d))) ρ'
theorem dp_ {X:Cx} {Ex:ExT} {e:Expr} {t:XT} {nm:Str} {p q pos:Pos} (n:Ty) (hm:X.mg "isinstance" = none) (h:XE X Ex e t) (hT:PE X (.Name nm q) (tC (.ty n.nm))) (hg:Gl X "isinstance" := by rfl)
    (he:starEach [e,.Name nm q] X.env=(false,eval e X.env) :: starEach [.Name nm q] X.env:=by rfl) (he2:starEach [.Name nm q] X.env=(false,eval (.Name nm q) X.env) :: starEach [] X.env:=by rfl) (hpl:(backTo pos (starEach [.Name nm q] X.env)).any (·.1)=false:=by rfl):XE X Ex (.Call (.Name "isinstance" p) [e,.Name nm q] [] pos) (xIs n t):=fun F =>
  (pe_callB (call_isX n) hg hm bt_isinstance (au_ (h F) (au_ hT cf_ he2) he) (by decide) (by decide) he hpl).weak fun σ H Q=>by
    rintro ⟨ρ,fr,Qx,E,t,k⟩
    refine ⟨ρ,fr,_,E,t,fun v s H' ρ' E' q => ?_⟩
    obtain ⟨R,hx⟩:=E'.one
    generalize hd:s.d=d at q hx
    cases d with
    | scr _ _=>exact q.elim
    | ins _ _=>exact q.elim
    | exc _=>exact q.elim
    | _=>exact ⟨v,_,rfl,hx.to R.hv,trivial,k _ _ H' ρ' (EOk.back E'.len (R.add (IsX.of_bl _))) q⟩
def Cal (P:Program) (w:World) (K:FG_) (mg:MG_) (base:Heap) (j:Nat) (x:Str) (ps:List Str) (sp:Sp):Prop := ∃ f fd,FnOk P w K mg base CX0 j f fd ps sp∧Binds K fd ps []∧PySem.W.keepIn K (.ref f)=true∧mg x=some (.ref f)
theorem pe_cal {X:Cx} {j:Nat} {x:Str} {ps:List Str} {sp:Sp} {e:Expr} {es:List Expr} {t:TA} {p pos:Pos} (C:Cal X.prog X.w X.K X.mg X.base j x ps sp) (hr:Room j X.A) (ha:PA X (e :: es) t) (hg:Gl X x:=by rfl) (hdb:(x == ("__debug__" : Str))=false:=by decide)
    (he:starEach (e :: es) X.env=(false,eval e X.env) :: starEach es X.env:=by rfl) (hpl:(backTo pos (starEach es X.env)).any (·.1)=false:=by rfl):PE X (.Call (.Name x p) (e :: es) [] pos) (tCall sp [] E0 t):=by
  obtain ⟨f,fd,G,b,k,m⟩:=C
  exact ex_ G hr hg m k b .nil pass0 ha hdb he hpl
def ResOk (Hs H H':Hp):Sv→V→Prop
  | .tr d,v=>IsX (ext Hs H H') d v
  | .ol l,v => ∃ a vs,v=.ref a∧H a=none∧H' a=some (.lst vs)∧All2 (IsX (hid [a] (ext Hs H H'))) l vs
  | .od l,v => ∃ a ws,v=.ref a∧H a=none∧H' a=some (.dK ws)∧All2 (KvX (hid [a] (ext Hs H H'))) l ws
  | .ow o,v=>o.fp.Nodup∧(∀ a∈o.fp,H a=none)∧OwOk (hid o.fp (ext Hs H H')) H' o v
def spX (g:GC):Sp:=fun vs H Q _ => ∃ Hs ds Qx,Same Hs H∧All2 (IsX Hs) ds vs∧g ds Qx∧∀ s v H',Same H H'→ResOk Hs H H' s v→Qx s→Q v H'
section
variable {F:Fm} {P:List Rw} {H H':Hp} {a:Addr} {s:Sv} {v:V}
theorem ext_hid (R:Rep F P H) (e:Same H H'):Same (ext (hid (owns P) (F.vis H)) H H') (hid (owns P) (F.vis H')):=fun b o hb=>by
  cases q:H b with
  | none =>
    rw [bj_ q] at hb
    exact hid_some.mpr ⟨R.not_own q,(bj_ (R.fresh q)).trans hb⟩
  | some u =>
    rw [bl_ q] at hb
    exact hid_same (go_ e) _ _ hb
theorem Rep.adopt (R:Rep F P H) (e:Same H H') (ha:H a=none) (hA:ownA (.v s,some (.ref a))=[a]) (h:RowOk (a :: owns P) (F.vis H') H' (.v s,some (.ref a))):Rep F ((.v s,some (.ref a)) :: P) H':=by
  have hno:=R.not_own ha
  have hq:=R.fresh ha
  have R':=R.grow e
  refine ⟨by rw [as_ hA]; exact List.nodup_cons.mpr ⟨hno,R.nd⟩,fun r hr => ?_,fun r hr b hb => ?_,R'.kp,R'.lv⟩
  · rw [as_ hA]
    rcases List.mem_cons.mp hr with rfl | hr
    · exact h
    · refine (R.ok r hr).mono (.of fun b o hb => ?_) fun b hb => ?_
      · have hb' := hid_some.mp hb
        have hba:b≠a:=fun z=>by have:=R.vis _ _ hb'.2; rw [z,ha] at this; cases this
        exact hid_some.mpr ⟨fun z=>(List.mem_cons.mp z).elim hba hb'.1,go_ e _ _ hb'.2⟩
      · obtain ⟨o, ho⟩ := R.own_in (ds_ hr hb)
        rw [ho,e _ _ ho]
  · rcases List.mem_cons.mp hr with rfl | hr
    · cases eq1 hA hb; exact hq
    · exact R.fr r hr b hb
theorem Rep.adoptW {o:Ow} (R:Rep F P H) (e:Same H H') (hn:o.fp.Nodup) (ha:∀ a∈o.fp,H a=none) (h:OwOk (hid (o.fp ++ owns P) (F.vis H')) H' o v):Rep F ((.v (.ow o),some v) :: P) H':=by
  have R':=R.grow e
  have hO:owns ((.v (.ow o),some v) :: P)=o.fp ++ owns P:=cj_
  have hdis:∀ a∈o.fp,a∉owns P:=fun a h1=>R.not_own (ha a h1)
  refine ⟨?_,fun r hr => ?_,fun r hr b hb => ?_,R'.kp,R'.lv⟩
  · rw [hO]
    exact List.nodup_append.mpr ⟨hn,R.nd,fun a h1 b h2 z=>hdis a h1 (z ▸ h2)⟩
  · rw [hO]
    rcases List.mem_cons.mp hr with rfl | hr
    · exact ⟨v,rfl,h⟩
    · refine (R.ok r hr).mono (.of fun b u hb => ?_) fun b hb => ?_
      · have hb' := hid_some.mp hb
        refine hid_some.mpr ⟨fun z=>(List.mem_append.mp z).elim (fun z => ?_) hb'.1,go_ e _ _ hb'.2⟩
        have:=R.vis _ _ hb'.2; rw [ha b z] at this; cases this
      · obtain ⟨u, hu⟩ := R.own_in (ds_ hr hb)
        rw [hu,e _ _ hu]
  · rcases List.mem_cons.mp hr with rfl | hr
    · exact R.fresh (ha b hb)
    · exact R.fr r hr b hb
theorem ext_hid1 (R:Rep F P H) (e:Same H H') (ha:H a=none):Same (hid [a] (ext (hid (owns P) (F.vis H)) H H')) (hid (a :: owns P) (F.vis H')):=fun b o hb=>by
  have hb':=hid_some.mp hb
  have:=hid_some.mp (ext_hid R e _ _ hb'.2)
  exact hid_some.mpr ⟨fun z=>(List.mem_cons.mp z).elim (fun z=>hb'.1 (by rw [z]; exact List.mem_cons_self)) this.1,this.2⟩
theorem Rep.res (R:Rep F P H) (e:Same H H') (h:ResOk (hid (owns P) (F.vis H)) H H' s v):Rep F ((.v s,some v) :: P) H':=by
  match s,h with
  | .tr d,h=>exact (R.grow e).add (IsX.to h (ext_hid R e))
  | .ol l, ⟨a, vs, h1, h2, h3, h4⟩ =>
    subst h1
    exact R.adopt e h2 rfl ⟨a,vs,rfl,h3,h4.imp fun _ _ z=>z.to (ext_hid1 R e h2)⟩
  | .od l, ⟨a, vs, h1, h2, h3, h4⟩ =>
    subst h1
    exact R.adopt e h2 rfl ⟨a,vs,rfl,h3,h4.imp fun _ _ z=>z.to (ext_hid1 R e h2)⟩
  | .ow o, ⟨h1, h2, h3⟩ =>
    refine R.adoptW e h1 h2 (OwOk.mono (.of fun b u hb => ?_) o v (fun _ _=>rfl) h3)
    have hb':=hid_some.mp hb
    have:=hid_some.mp (ext_hid R e _ _ hb'.2)
    exact hid_some.mpr ⟨fun z=>(List.mem_append.mp z).elim hb'.1 this.1,this.2⟩
end
theorem ag_ {X:Cx} {Ex:ExT} {j:Nat} {x:Str} {ps:List Str} {g:GC} {e:Expr} {es:List Expr} {u:XA} {p pos:Pos} (C:Cal X.prog X.w X.K X.mg X.base j x ps (spX g)) (hr:Room j X.A) (ha:XAs X Ex (e :: es) u) (hg:Gl X x:=by rfl) (hdb:(x == ("__debug__" : Str))=false:=by decide)
    (he:starEach (e :: es) X.env=(false,eval e X.env) :: starEach es X.env:=by rfl) (hpl:(backTo pos (starEach es X.env)).any (·.1)=false:=by rfl):XE X Ex (.Call (.Name x p) (e :: es) [] pos) (xCall g u):=fun F=>(pe_cal C hr (ha F) hg hdb he hpl).weak fun σ H Q=>by
  rintro ⟨ρ,fr,Qx,E,t,k⟩
  refine ⟨ρ,fr,_,E,t,fun vs ss H2 ρ2 hl E2 q2 => ?_⟩
  obtain ⟨R,hs⟩:=E2.many hl
  rw [List.append_nil]
  exact ⟨_,_,_,R.hv,hs,q2,fun s v H' e hr q=>k v s H' ρ2 (EOk.back E2.len (R.res e hr)) q⟩
abbrev GB:=List Dx→List Dx→(Dx→List Dx→Prop)→Prop
def spB (g:GB):Sp:=fun vs H Q _ => ∃ p ws l vr Hs ds Qx,vs=.ref p :: vr∧H p=some (.lst ws)∧Same Hs H∧Hs p=none∧All2 (IsX Hs) l ws∧All2 (IsX Hs) ds vr∧g l ds Qx ∧
  ∀ d v l' ws' H',SameX p H H'→H' p=some (.lst ws')→All2 (IsX (hid [p] (ext Hs H H'))) l' ws'→IsX (ext Hs H H') d v→Qx d l'→Q v H'
def lent:Sl→Option (List Dx×(List Dx→Sl))
  | .bw l=>some (l,.bw)
  | .v (.ol l)=>some (l,fun l'=>.v (.ol l'))
  | _=>none
def xCallB (g:GB) (i:Nat) (u:XA):XT:=fun ρ Q=>((ρ[i]?).bind lent).isSome=true∧u ρ fun ss ρ'=>match (ρ'[i]?).bind lent with
  | some (l,f)=>g l (ss.map Sv.d) fun d l'=>Q (.tr d) (ρ'.set i (f l'))
  | none=>False
section
variable {F:Fm} {P:List Rw} {H H':Hp} {a p:Addr} {s:Sv} {v:V} {r r':Rw}
theorem Rep.called (R:Rep F (r :: P) H) (hA:ownA r=[p]) (hA':ownA r'=[p]) (hF:FrOk F r p→FrOk F r' p) (e:SameX p H H') (hp:∃ o,H' p=some o) (h:RowOk (p :: owns P) (F.vis H') H' r'):Rep F (r' :: P) H':=by
  have hn:=R.nd
  rw [as_ hA] at hn
  have hna:=(List.nodup_cons.mp hn).1
  have R1:=R.ok
  rw [as_ hA] at R1
  have hfr:=R.fr r List.mem_cons_self p (mem1 hA)
  have ev:Same (hid (p :: owns P) (F.vis H)) (hid (p :: owns P) (F.vis H')):=fun b o hb=>by
    have hb':=hid_some.mp hb
    have hbp:b≠p:=fun z=>hb'.1 (by rw [z]; exact List.mem_cons_self)
    refine hid_some.mpr ⟨hb'.1,?_⟩
    cases q:F.H0 b with
    | none=>exact (bj_ q).trans (nf_mono ((bj_ q).symm.trans hb'.2) fun o h=>e.get hbp h)
    | some u=>exact (bl_ q).trans ((bl_ q).symm.trans hb'.2)
  refine ⟨by rw [as_ hA']; exact hn,fun x hx => ?_,fun x hx b hb => ?_,fun b u h1 h2 => ?_,fun b hb => ?_⟩
  · rw [as_ hA']
    rcases List.mem_cons.mp hx with rfl | hx
    · exact h
    · refine (R1 x (List.mem_cons_of_mem _ hx)).mono (.of ev) fun b hb => ?_
      have hbp:b≠p:=fun z=>hna (z ▸ ds_ hx hb)
      obtain ⟨o,ho⟩:=R.own_in (ds_ (List.mem_cons_of_mem _ hx) hb)
      rw [ho,e.get hbp ho]
  · rcases List.mem_cons.mp hx with rfl | hx
    · cases eq1 hA' hb; exact hF hfr
    · exact R.fr x (List.mem_cons_of_mem _ hx) b hb
  · have hb := R.kp b u h1 h2
    by_cases z:b=p
    · subst z
      rcases hfr.or with hfr | hfr
      · exact absurd hfr h2
      · rw [hfr] at h1; cases h1
    · exact e.get z hb
  · by_cases z : b = p
    · subst z; exact hp
    · obtain ⟨o, ho⟩ := R.lv b hb
      exact ⟨o,e.get z ho⟩
theorem ext_called (R:Rep F (r :: P) H) (hA:ownA r=[p]) (e:SameX p H H'):Same (ext (hid (owns (r :: P)) (F.vis H)) H H') (hid (owns (r :: P)) (F.vis H')):=fun b o hb=>by
  have hpo:p∈owns (r :: P):=by rw [as_ hA]; exact List.mem_cons_self
  cases q:H b with
  | none =>
    rw [bj_ q] at hb
    exact hid_some.mpr ⟨R.not_own q,(bj_ (R.fresh q)).trans hb⟩
  | some u =>
    rw [bl_ q] at hb
    have hb':=hid_some.mp hb
    have hbp:b≠p:=fun z=>hb'.1 (by rw [z]; exact hpo)
    refine hid_some.mpr ⟨hb'.1,?_⟩
    cases q:F.H0 b with
    | none=>exact (bj_ q).trans (nf_mono ((bj_ q).symm.trans hb'.2) fun o h=>e.get hbp h)
    | some u=>exact (bl_ q).trans ((bl_ q).symm.trans hb'.2)
end
theorem lent_row {sl:Sl} {x:Option V} {l:List Dx} {f:List Dx→Sl} {F:Fm} {P:List Rw} {H:Hp} (h:lent sl=some (l,f)) (R:Rep F ((sl,x) :: P) H):∃ p ws,x=some (.ref p)∧H p=some (.lst ws)∧ownA (sl,some (.ref p))=[p]∧All2 (IsX (hid (p :: owns P) (F.vis H))) l ws ∧
    ∀ l',ownA (f l',some (.ref p))=[p]∧(FrOk F (sl,some (.ref p)) p→FrOk F (f l',some (.ref p)) p)∧∀ {O:List Addr} {G H':Hp} {ws':List V},H' p=some (.lst ws')→All2 (IsX (hid O G)) l' ws'→RowOk O G H' (f l',some (.ref p)):=by
  match sl,h with
  | .bw l, h =>
    cases h
    obtain ⟨p,ws,h1,h2,h3⟩:=R.atB
    exact ⟨p,ws,h1,h2,rfl,h3,fun l'=>⟨rfl,id,fun a b=>⟨p,_,rfl,a,b⟩⟩⟩
  | .v (.ol l), h =>
    cases h
    obtain ⟨p,ws,h1,h2,h3⟩:=R.atL
    exact ⟨p,ws,h1,h2,rfl,h3,fun l'=>⟨rfl,id,fun a b=>⟨p,_,rfl,a,b⟩⟩⟩
theorem ap_ {X:Cx} {Ex:ExT} {j i:Nat} {x:Str} {ps:List Str} {g:GB} {e:Expr} {es:List Expr} {u:XA} {p pos:Pos} (C:Cal X.prog X.w X.K X.mg X.base j x ps (spB g)) (hr:Room j X.A) (hv:PE X e (tVar i)) (ha:XAs X Ex es u) (hg:Gl X x:=by rfl) (hdb:(x == ("__debug__" : Str))=false:=by decide)
    (he:starEach (e :: es) X.env=(false,eval e X.env) :: starEach es X.env:=by rfl) (hpl:(backTo pos (starEach es X.env)).any (·.1)=false:=by rfl):XE X Ex (.Call (.Name x p) (e :: es) [] pos) (xCallB g i u):=fun F=>(pe_cal C hr (au_ hv (ha F) he) hg hdb he hpl).weak fun σ H Q=>by
  rintro ⟨ρ,fr,Qx,E,⟨t0,t⟩,k⟩
  obtain ⟨⟨l0,f0⟩,h0⟩:=Option.isSome_iff_exists.mp t0
  obtain ⟨sl0,h1,h2⟩:=Option.bind_eq_some_iff.mp h0
  obtain ⟨v,hv,hi,R0⟩:=ef_ E h1
  obtain ⟨p,_,rfl,_⟩:=lent_row h2 R0
  refine ⟨.ref p,hv,ρ,fr,_,E,t,fun vs ss H2 ρ2 hl E2 q2 => ?_⟩
  obtain ⟨R,hs⟩:=E2.many hl
  split at q2
  · rename_i l f hb
    obtain ⟨sl,h3,h4⟩:=Option.bind_eq_some_iff.mp hb
    have E3:EOk F ρ2 σ fr H2:=⟨E2.len,R⟩
    obtain ⟨v',hv',hi',R2⟩:=ef_ E3 h3
    rw [hv] at hv'
    cases hv'
    obtain ⟨p',ws,ep,h5,h6,h7,h8⟩:=lent_row h4 R2
    cases ep
    rw [List.append_nil]
    have hO:(owns (ρ2.zip σ ++ fr)).Perm (owns ((sl,some (V.ref p)) :: ((ρ2.zip σ).eraseIdx i ++ fr))):=((ge_ h3 hv).append_right fr).flatMap_right _
    have hOm:∀ a∈owns ((sl,some (V.ref p)) :: ((ρ2.zip σ).eraseIdx i ++ fr)),a∈owns (ρ2.zip σ ++ fr):=fun a ha=>hO.mem_iff.mpr ha
    refine ⟨p,ws,l,vs,hid (owns ((sl,some (V.ref p)) :: ((ρ2.zip σ).eraseIdx i ++ fr))) (F.vis H2),_,_,rfl,h5,R2.hv,?_,?_,hs.imp fun _ _ z=>z.to (ay_ hOm),q2,fun d w l' ws' H' e hp hl' hd q => ?_⟩
    · unfold hid
      rw [if_pos (by rw [as_ h6]; exact List.mem_cons_self)]
    · rw [as_ h6]
      exact h7
    · obtain ⟨k1, k2, k3⟩ := h8 l'
      have ev:=ext_called R2 h6 e
      have R3:=R2.called h6 k1 k2 e ⟨_,hp⟩ (k3 hp (hl'.imp fun _ _ z=>z.to fun b o hb=>by
        have hb':=hid_some.mp hb
        have:=ev _ _ hb'.2
        rw [as_ h6] at this
        exact this))
      refine k w (.tr d) H' _ (EOk.back (by rw [List.length_set]; exact E2.len) ?_) q
      have R4:=R3.add (d:=d) (v:=w) (hd.to fun b o hb=>by
        have:=ev _ _ hb
        rw [as_ h6] at this
        rw [as_ k1]
        exact this)
      exact R4.perm (((dw_ E2.len hi' hv).append_right fr).symm.cons _)
  · exact q2.elim
end Lf
namespace L2
open PySem
theorem PI.weak {X:Cx} {tg e:Expr} {t u:TI} (h:PI X tg e t) (w:∀ σ H Q,u σ H Q→t σ H Q):PI X tg e u:=fun pins s σ H Q I q=>h pins s σ H Q I (w σ H Q q)
theorem PCs.weak {X:Cx} {e:List Expr} {t u:TT} (h:PCs X e t) (w:∀ σ H Q,u σ H Q→t σ H Q):PCs X e u:=fun pins s σ H Q I q=>h pins s σ H Q I (w σ H Q q)
end L2
namespace Lf
open PySem L2
abbrev XI:=En→(List Dx→En→Prop)→Prop
structure ItX (F:Fm) (J:It) (row:List Rw) (ds:List Dx):Prop where
  go:∀ P H i d,Rep F (row ++ P) H→ds[i]? = some d→J.go i H
  stop:∀ P H i,Rep F (row ++ P) H→ds.length≤i→J.stop i H
  yld:∀ P H i d x H',Rep F (row ++ P) H→ds[i]? = some d→J.yld i H x H'→Rep F ((.v (.tr d),some x) :: (row ++ P)) H'
def tXi (F:Fm) (t:XI):TI:=fun σ H R => ∃ ρ fr Qx,EOk F ρ σ fr H∧t ρ Qx∧∀ J H' ρ' row ds,EOk F ρ' σ (row ++ fr) H'→ItX F J row ds→Qx ds ρ'→R J H'
def XIt (X:Cx) (Ex:ExT) (tg iter:Expr) (t:XI):Prop := ∀ F,[OkF X Ex F]→PI X tg iter (tXi F t)
def xiL (t:XT):XI:=fun ρ Q=>t ρ fun s ρ'=>match s.d with
  | .lst l=>Q l ρ'
  | _=>False
def xiT (t:XT):XI:=fun ρ Q=>t ρ fun s ρ'=>match s.d with
  | .tup l=>Q l ρ'
  | _=>False
theorem itx_list {F:Fm} {K:FG_} {a:Addr} {l:List Dx}:ItX F (Itl K a) [(.v (.tr (.lst l)),some (.ref a))] l where
  go:=fun P H i d R hd=>by
    obtain ⟨v,e,h⟩:=R.atT; cases e
    obtain ⟨_,vs,e,h1,h2⟩:=h.lst_eq; cases e
    obtain ⟨x,h3,_⟩:=h2.at hd
    exact ⟨vs,x,SqL.of (R.hv _ _ h1),h3⟩
  stop:=fun P H i R hi=>by
    obtain ⟨v,e,h⟩:=R.atT; cases e
    obtain ⟨_,vs,e,h1,h2⟩:=h.lst_eq; cases e
    exact ⟨vs,SqL.of (R.hv _ _ h1),by rw [h2.len]; exact hi⟩
  yld:=fun P H i d x H' R hd q=>by
    obtain ⟨rfl,q⟩:=q
    obtain ⟨v,e,h⟩:=R.atT; cases e
    obtain ⟨_,vs,e,h1,h2⟩:=h.lst_eq; cases e
    obtain ⟨y,h3,h4⟩:=h2.at hd
    rw [q vs (SqL.of (R.hv _ _ h1))] at h3
    cases h3
    exact R.add h4
section
variable {X:Cx} {Ex:ExT} {tg l a b:Expr} {t:XT} {u:XA} {p pos:Pos}
theorem bk_ (h:XE X Ex l t):XIt X Ex tg l (xiL t):=fun F=>(pi_list (h F)).weak fun σ H R=>by
  rintro ⟨ρ,fr,Qx,E,t,k⟩
  refine ⟨ρ,fr,_,E,t,fun v s H' ρ' E' q => ?_⟩
  split at q
  · rename_i m hm
    have R1:=E'.front.frz
    rw [hm] at R1
    obtain ⟨v',e,h⟩:=R1.atT; cases e
    obtain ⟨c,vs,rfl,h1,h2⟩:=h.lst_eq
    exact ⟨c,rfl,⟨vs,SqL.of (R1.hv _ _ h1)⟩,k _ H' ρ' [(.v (.tr (.lst m)),some (.ref c))] m (EOk.back E'.len R1) itx_list q⟩
  · exact q.elim
def rngX (lo:Int) (n:Nat):List Dx:=(List.range n).map fun k:Nat=>.int (lo + (k:Int))
theorem rngX_at {lo:Int} {n i:Nat} {d:Dx} (h:(rngX lo n)[i]? = some d):i < n∧d=.int (lo + i):=by
  unfold rngX at h
  rw [List.getElem?_map] at h
  obtain ⟨k,h1,h2⟩:=Option.map_eq_some_iff.mp h
  obtain ⟨h3,h4⟩:=List.getElem?_eq_some_iff.mp h1
  rw [List.getElem_range] at h4
  rw [List.length_range] at h3
  subst h4
  exact ⟨h3,h2.symm⟩
theorem itx_range {F:Fm} {lo:Int} {n:Nat}:ItX F (Itr lo n) [] (rngX lo n) where
  go:=fun P H i d R hd=>(rngX_at hd).1
  stop:=fun P H i R hi=>by unfold rngX at hi; rw [List.length_map,List.length_range] at hi; exact hi
  yld:=fun P H i d x H' R hd q=>by
    obtain ⟨rfl,rfl⟩:=q
    rw [(rngX_at hd).2]
    exact R.add (IsX.of_int _)
def xiR1 (u:XA):XI:=fun ρ Q=>u ρ fun ss ρ'=>match ss.map Sv.d with
  | [.int j]=>(-(2 ^ 62)≤j∧j < 2 ^ 62)∧Q (rngX 0 j.toNat) ρ'
  | _=>False
def xiR2 (u:XA):XI:=fun ρ Q=>u ρ fun ss ρ'=>match ss.map Sv.d with
  | [.int i,.int j]=>(-(2 ^ 62)≤i∧i < 2 ^ 62 ∧ -(2 ^ 62)≤j∧j < 2 ^ 62)∧Q (rngX i (j - i).toNat) ρ'
  | _=>False
theorem do_ (hm:X.mg "range" = none) (ha:XAs X Ex [a] u) (hg:Gl X "range" := by rfl) (hs:starEach [a] X.env=[(false,eval a X.env)]:=by rfl):XIt X Ex tg (.Call (.Name "range" p) [a] [] pos) (xiR1 u):=fun F=>(ik_ hg hm (ha F) hs).weak fun σ H R=>by
  rintro ⟨ρ,fr,Qx,E,t,k⟩
  refine ⟨ρ,fr,_,E,t,fun vs ss H2 ρ2 hl E2 q => ?_⟩
  obtain ⟨R,hs⟩:=E2.many hl
  split at q
  · rename_i j hj
    rw [hj] at hs
    obtain ⟨x,rfl,hx⟩:=dc_ hs
    cases hx.int_eq
    exact ⟨j,rfl,q.1.1,q.1.2,k _ H2 ρ2 [] _ ⟨E2.len,R⟩ itx_range q.2⟩
  · exact q.elim
theorem xi_range2 (hm:X.mg "range" = none) (ha:XAs X Ex [a,b] u) (hg:Gl X "range" := by rfl) (hs:starEach [a,b] X.env=[(false,eval a X.env),(false,eval b X.env)]:=by rfl) (hs2:starEach [b] X.env=[(false,eval b X.env)]:=by rfl):XIt X Ex tg (.Call (.Name "range" p) [a,b] [] pos) (xiR2 u):=fun F=>(pi_range2 hg hm (ha F) hs hs2).weak fun σ H R=>by
  rintro ⟨ρ,fr,Qx,E,t,k⟩
  refine ⟨ρ,fr,_,E,t,fun vs ss H2 ρ2 hl E2 q => ?_⟩
  obtain ⟨R,hs⟩:=E2.many hl
  split at q
  · rename_i i j hj
    rw [hj] at hs
    obtain ⟨x,y,rfl,hx,hy⟩:=all2_2 hs
    cases hx.int_eq; cases hy.int_eq
    exact ⟨i,j,rfl,q.1,k _ H2 ρ2 [] _ ⟨E2.len,R⟩ itx_range q.2⟩
  · exact q.elim
def zipX (l m:List Dx):List Dx:=List.zipWith (fun a b=>.tup [a,b]) l m
def xiZ (u:XA):XI:=fun ρ Q=>u ρ fun ss ρ'=>match ss.map Sv.d with
  | [.lst l,.lst m]=>Q (zipX l m) ρ'
  | _=>False
def enuX (l:List Dx):List Dx:=zipX (rngX 0 l.length) l
def xiE (u:XA):XI:=fun ρ Q=>u ρ fun ss ρ'=>match ss.map Sv.d with
  | [.lst l]=>Q (enuX l) ρ'
  | _=>False
theorem zipX_at {l m:List Dx} {i:Nat} {d:Dx} (h:(zipX l m)[i]? = some d):∃ a b,l[i]? = some a∧m[i]? = some b∧d=.tup [a,b]:=by
  unfold zipX at h
  rw [List.getElem?_zipWith] at h
  cases e1:l[i]? with
  | none=>rw [e1] at h; cases h
  | some a =>
    cases e2:m[i]? with
    | none=>rw [e1,e2] at h; cases h
    | some b=>rw [e1,e2] at h; exact ⟨a,b,rfl,rfl,(Option.some.inj h).symm⟩
theorem itx_zip {F:Fm} {K:FG_} {a b:Addr} {l m:List Dx}:ItX F (Itz false false K a b) [(.v (.tr (.lst l)),some (.ref a)),(.v (.tr (.lst m)),some (.ref b))] (zipX l m) where
  go:=fun P H i d R hd=>by
    obtain ⟨v,e,h⟩:=R.atT; cases e
    obtain ⟨_,vs,e,h1,h2⟩:=h.lst_eq; cases e
    obtain ⟨v,e,h'⟩:=R.tail.atT; cases e
    obtain ⟨_,ws,e,h3,h4⟩:=h'.lst_eq; cases e
    obtain ⟨c,c',e1,e2,_⟩:=zipX_at hd
    obtain ⟨x,h5,_⟩:=h2.at e1
    obtain ⟨y,h6,_⟩:=h4.at e2
    exact ⟨vs,ws,x,y,SqL.of (R.hv _ _ h1),SqL.of (R.hv _ _ h3),h5,h6⟩
  stop:=fun P H i R hi=>by
    obtain ⟨v,e,h⟩:=R.atT; cases e
    obtain ⟨_,vs,e,h1,h2⟩:=h.lst_eq; cases e
    obtain ⟨v,e,h'⟩:=R.tail.atT; cases e
    obtain ⟨_,ws,e,h3,h4⟩:=h'.lst_eq; cases e
    refine ⟨vs,ws,SqL.of (R.hv _ _ h1),SqL.of (R.hv _ _ h3),?_⟩
    unfold zipX at hi
    rw [List.length_zipWith] at hi
    rw [h2.len,h4.len]
    omega
  yld:=fun P H i d x H' R hd q=>by
    obtain ⟨p,x,y,rfl,hp,rfl,q⟩:=q
    obtain ⟨v,e,h⟩:=R.atT; cases e
    obtain ⟨_,vs,e,h1,h2⟩:=h.lst_eq; cases e
    obtain ⟨v,e,h'⟩:=R.tail.atT; cases e
    obtain ⟨_,ws,e,h3,h4⟩:=h'.lst_eq; cases e
    obtain ⟨c,c',e1,e2,rfl⟩:=zipX_at hd
    obtain ⟨x',h5,h7⟩:=h2.at e1
    obtain ⟨y',h6,h8⟩:=h4.at e2
    obtain ⟨q1,q2⟩:=q vs ws (SqL.of (R.hv _ _ h1)) (SqL.of (R.hv _ _ h3))
    rw [q1] at h5; cases h5
    rw [q2] at h6; cases h6
    exact R.newT hp ⟨_,_,rfl,h7,_,_,rfl,h8,rfl⟩
theorem itx_enum {F:Fm} {K:FG_} {a:Addr} {l:List Dx}:ItX F (Ite K a) [(.v (.tr (.lst l)),some (.ref a))] (enuX l) where
  go:=fun P H i d R hd=>by
    obtain ⟨v,e,h⟩:=R.atT; cases e
    obtain ⟨_,vs,e,h1,h2⟩:=h.lst_eq; cases e
    obtain ⟨c,c',e1,e2,_⟩:=zipX_at hd
    obtain ⟨y,h6,_⟩:=h2.at e2
    exact ⟨vs,y,SqL.of (R.hv _ _ h1),h6⟩
  stop:=fun P H i R hi=>by
    obtain ⟨v,e,h⟩:=R.atT; cases e
    obtain ⟨_,vs,e,h1,h2⟩:=h.lst_eq; cases e
    refine ⟨vs,SqL.of (R.hv _ _ h1),?_⟩
    unfold enuX zipX rngX at hi
    rw [List.length_zipWith,List.length_map,List.length_range] at hi
    rw [h2.len]
    omega
  yld:=fun P H i d x H' R hd q=>by
    obtain ⟨p,x,rfl,hp,rfl,q⟩:=q
    obtain ⟨v,e,h⟩:=R.atT; cases e
    obtain ⟨_,vs,e,h1,h2⟩:=h.lst_eq; cases e
    obtain ⟨c,c',e1,e2,rfl⟩:=zipX_at hd
    obtain ⟨y',h6,h8⟩:=h2.at e2
    rw [q vs (SqL.of (R.hv _ _ h1))] at h6; cases h6
    rw [(rngX_at e1).2]
    exact R.newT hp ⟨_,_,rfl,by rw [show (0:Int) + (i:Int)=i from Int.zero_add _]; exact IsX.of_int _,_,_,rfl,h8,rfl⟩
theorem xi_zip {es:List Expr} {kk:Nat} {tpos:Pos} (hm:X.mg "zip" = none) (ha:XAs X Ex [a,b] u) (hg:Gl X "zip" := by rfl) (hs:starEach [a,b] X.env=[(false,eval a X.env),(false,eval b X.env)]:=by rfl) (hs2:starEach [b] X.env=[(false,eval b X.env)]:=by rfl) :
    XIt X Ex (.Tuple es kk tpos) (.Call (.Name "zip" p) [a,b] [] pos) (xiZ u):=fun F=>(pi_zip (t1:=false) (t2:=false) hg hm (ha F) hs hs2).weak fun σ H R=>by
  rintro ⟨ρ,fr,Qx,E,t,k⟩
  refine ⟨ρ,fr,_,E,t,fun vs ss H2 ρ2 hl E2 q => ?_⟩
  obtain ⟨R,hs⟩:=E2.many hl
  split at q
  · rename_i l m hj
    rw [hj] at hs
    obtain ⟨x,y,rfl,hx,hy⟩:=all2_2 hs
    obtain ⟨c,cs,rfl,h1,_⟩:=hx.lst_eq
    obtain ⟨d,ds,rfl,h3,_⟩:=hy.lst_eq
    have R1:=(R.add hy).add (d:=.lst l) (v:=.ref c) hx
    exact ⟨c,d,rfl,⟨cs,SqL.of (R.hv _ _ h1)⟩,⟨ds,SqL.of (R.hv _ _ h3)⟩,k _ H2 ρ2 [(.v (.tr (.lst l)),some (.ref c)),(.v (.tr (.lst m)),some (.ref d))] _ ⟨E2.len,R1.perm ((mid.symm.cons _).trans mid.symm)⟩ itx_zip q⟩
  · exact q.elim
theorem xi_enum {es:List Expr} {kk:Nat} {tpos:Pos} (hm:X.mg "enumerate" = none) (ha:XAs X Ex [a] u) (hg:Gl X "enumerate" := by rfl) (hs:starEach [a] X.env=[(false,eval a X.env)]:=by rfl) :
    XIt X Ex (.Tuple es kk tpos) (.Call (.Name "enumerate" p) [a] [] pos) (xiE u):=fun F=>(pi_enum hg hm (ha F) hs).weak fun σ H R=>by
  rintro ⟨ρ,fr,Qx,E,t,k⟩
  refine ⟨ρ,fr,_,E,t,fun vs ss H2 ρ2 hl E2 q => ?_⟩
  obtain ⟨R,hs⟩:=E2.many hl
  split at q
  · rename_i l hj
    rw [hj] at hs
    obtain ⟨x,rfl,hx⟩:=dc_ hs
    obtain ⟨c,cs,rfl,h1,_⟩:=hx.lst_eq
    exact ⟨c,rfl,⟨cs,SqL.of (R.hv _ _ h1)⟩,k _ H2 ρ2 [(.v (.tr (.lst l)),some (.ref c))] _ (EOk.back E2.len (R.add hx)) itx_enum q⟩
  · exact q.elim
end
abbrev XG:=Dx→En→(En→Prop)→Prop
def GX (n:Nat) (g:TG) (gx:XG):Prop := ∀ (F:Fm) (ρ:En) (σ:St) (fr:List Rw) (H:Hp) (d:Dx) (x:V) (Q:St→Hp→Prop) (Qx:En→Prop),EOk F ρ σ ((.v (.tr d),some x) :: fr) H→gx d ρ Qx →
  (∀ σ' H' ρ',EOk F ρ' σ' fr H'→σ'.length=σ.length→(∀ i,n≤i→σ'[i]? = σ[i]?)→Qx ρ'→Q σ' H')→g x σ H Q
def gxN (i:Nat):XG:=fun d ρ Q=>Q (ρ.set i (.v (.tr d)))
theorem iw_ {F:Fm} {ρ:En} {σ:St} {fr:List Rw} {H:Hp} {s:Sv} {x:V} {i:Nat} (E:EOk F ρ σ ((.v s,some x) :: fr) H):EOk F (ρ.set i (.v s)) (σ.set i (some x)) fr H:=by
  by_cases hi:i < ρ.length
  · refine ⟨by rw [List.length_set, List.length_set]; exact E.len, ?_⟩
    have hz:=pull (l:=ρ.zip σ) (i:=i) (List.getElem?_eq_getElem (by rw [List.length_zip]; have:=E.len; omega))
    have R:=E.front.perm ((hz.append_right fr).cons _)
    exact (R.perm (.swap _ _ _)).tail.perm ((zip_put E.len hi).append_right fr).symm
  · rw [List.set_eq_of_length_le (by omega), List.set_eq_of_length_le (by have := E.len; omega)]
    exact E.drop
theorem bi_ {n i:Nat} (h:i < n):GX n (gName i) (gxN i):=fun F ρ σ fr H d x Q Qx E g k=>k _ H _ (iw_ E) (List.length_set) (fun j hj=>List.getElem?_set_ne (by omega)) g
@[reducible] def gsOf:List Nat→TGs
  | []=>gNil
  | i :: is=>gCons (gName i) (gsOf is)
def gxs:List Nat→List Dx→En→(En→Prop)→Prop
  | [],[],ρ,Q=>Q ρ
  | i :: is,d :: ds,ρ,Q=>gxs is ds (ρ.set i (.v (.tr d))) Q
  | _,_,_,_=>False
def gxT (is:List Nat):XG:=fun d ρ Q=>match d with
  | .tup ds=>gxs is ds ρ Q
  | _=>False
def gxL (is:List Nat):XG:=fun d ρ Q=>match d with
  | .lst ds=>gxs is ds ρ Q
  | _=>False
theorem gxs_ok {n:Nat} {F:Fm} {fr:List Rw} {H:Hp} {Q:St→Hp→Prop} {Qx:En→Prop}:∀ {is:List Nat} {ds:List Dx} {xs:List V} {ρ:En} {σ:St},(∀ i∈is,i < n)→EOk F ρ σ fr H→All2 (IsX (hid (owns (ρ.zip σ ++ fr)) (F.vis H))) ds xs→gxs is ds ρ Qx →
    (∀ σ' ρ',EOk F ρ' σ' fr H→σ'.length=σ.length→(∀ i,n≤i→σ'[i]? = σ[i]?)→Qx ρ'→Q σ' H)→gsOf is xs σ H Q
  | [],[],xs,ρ,σ,_,E,ha,g,k=>⟨ha,k σ ρ E rfl (fun _ _=>rfl) g⟩
  | i :: is, d :: ds, xs, ρ, σ, hi, E, ⟨x, xr, e, h1, h2⟩, g, k => by
    have E1:EOk F (ρ.set i (.v (.tr d))) (σ.set i (some x)) fr H:=iw_ (EOk.back E.len (E.rep.add h1))
    refine ⟨x,xr,e,gxs_ok (fun j hj=>hi j (List.mem_cons_of_mem _ hj)) E1 (h2.imp fun a b z=>z.to (ay_ fun c hc => ?_)) g fun σ' ρ' E' hl hs q=>k σ' ρ' E' (hl.trans List.length_set) (fun j hj=>(hs j hj).trans (List.getElem?_set_ne (by have:=hi i List.mem_cons_self; omega))) q⟩
    by_cases hlt:i < ρ.length
    · have hp := ((zip_put (s := .v (.tr d)) (v := some x) E.len hlt).append_right fr).flatMap_right ownA
      have hz:=((pull (l:=ρ.zip σ) (i:=i) (List.getElem?_eq_getElem (by rw [List.length_zip]; have:=E.len; omega))).append_right fr).flatMap_right ownA
      refine hz.mem_iff.mpr ?_
      have:=hp.mem_iff.mp hc
      rw [List.cons_append,List.flatMap_cons] at this
      rw [List.cons_append,List.flatMap_cons]
      rcases List.mem_append.mp this with z | z
      · cases z
      · exact List.mem_append_right _ z
    · rw [List.set_eq_of_length_le (by omega), List.set_eq_of_length_le (by have := E.len; omega)] at hc
      exact hc
  | [],_ :: _,_,_,_,_,_,_,g,_=>g.elim
  | _ :: _,[],_,_,_,_,_,_,g,_=>g.elim
theorem gxs_len {Q:En→Prop}:∀ {is:List Nat} {ds:List Dx} {ρ:En},gxs is ds ρ Q→ds.length=is.length
  | [],[],_,_=>rfl
  | i :: is,d :: ds,ρ,g=>congrArg (· + 1) (gxs_len (is:=is) (ds:=ds) (ρ:=ρ.set i (.v (.tr d))) g)
  | [],_ :: _,_,g=>g.elim
  | _ :: _,[],_,g=>g.elim
theorem ee_ {K:FG_} {n m:Nat} {is:List Nat} (hm:is.length=m) (h:∀ i∈is,i < n):GX n (gTup K m (gsOf is)) (gxT is):=fun F ρ σ fr H d x Q Qx E g k=>by
  unfold gxT at g
  split at g
  · obtain ⟨R, hx⟩ := E.one
    obtain ⟨a,vs,rfl,h1,h2⟩:=hx.tup_eq
    exact ⟨a,vs,rfl,SqT.of (R.hv _ _ h1),by rw [h2.len,gxs_len g,hm],gxs_ok h E.drop h2 g fun σ' ρ' E' hl hs q=>k σ' H ρ' E' hl hs q⟩
  · exact g.elim
theorem gx_lst {K:FG_} {n m:Nat} {is:List Nat} (hm:is.length=m) (h:∀ i∈is,i < n):GX n (gLst K m (gsOf is)) (gxL is):=fun F ρ σ fr H d x Q Qx E g k=>by
  unfold gxL at g
  split at g
  · obtain ⟨R, hx⟩ := E.one
    obtain ⟨a,vs,rfl,h1,h2⟩:=hx.lst_eq
    exact ⟨a,vs,rfl,SqL.of (R.hv _ _ h1),by rw [h2.len,gxs_len g,hm],gxs_ok h E.drop h2 g fun σ' ρ' E' hl hs q=>k σ' H ρ' E' hl hs q⟩
  · exact g.elim
def xYes:XC:=fun ρ Q=>Q true ρ
def XCs (X:Cx) (Ex:ExT) (ifs:List Expr) (t:XC):Prop := ∀ F,[OkF X Ex F]→PCs X ifs (tXc F t)
theorem bq_ {X:Cx} {Ex:ExT}:XCs X Ex [] xYes:=fun F=>(pcs_nil (X:=X)).weak fun σ H Q=>by
  rintro ⟨ρ,fr,Qx,E,t,k⟩
  exact k true H ρ E t
theorem xcs_one {X:Cx} {Ex:ExT} {c:Expr} {t:XC} (h:XTe X Ex c t):XCs X Ex [c] t:=fun F=>pcs_one (h F)
def compX (n:Nat) (gx:XG) (tc:XC) (te:XT) (Q:List Dx→List Sl→Prop):List Dx→List Sl→List Dx→Prop
  | [],cs,acc=>Q acc cs
  | d :: ds,cs,acc=>gx d (List.replicate n .un ++ cs) fun ρ1=>tc ρ1 fun b ρ2=>if b=true then te ρ2 fun s ρ3=>compX n gx tc te Q ds (ρ3.drop n) (acc ++ [s.d]) else compX n gx tc te Q ds (ρ2.drop n) acc
def cut:List Nat→En→En
  | [],ρ=>ρ
  | j :: js,ρ=>cut js (ρ.set j .un)
def caps (outs:List Nat) (ρ:En):List Sl:=outs.map fun j=>(ρ[j]?).getD .un
def back:List Nat→List Sl→En→En
  | j :: js,c :: cs,ρ=>back js cs (ρ.set j c)
  | _,_,ρ=>ρ
def xComp (n:Nat) (outs:List Nat) (ti:XI) (gx:XG) (tc:XC) (te:XT):XT:=fun ρ Q=>ti ρ fun ds ρ1=>ds.length≤1000000∧compX n gx tc te (fun acc cs=>Q (.ol acc) (back outs cs ρ1)) ds (caps outs ρ1) []
theorem sw {α:Type} {A B C:List α}:(A ++ (B ++ C)).Perm (B ++ (A ++ C)):=by
  rw [← List.append_assoc,← List.append_assoc]
  exact List.perm_append_comm.append_right C
section
variable {F:Fm} {H:Hp} {σ:St}
abbrev vals (σ:St) (outs:List Nat):St:=outs.map fun j=>(σ[j]?).join
theorem caps_set {js:List Nat} {j:Nat} {s:Sl} {ρ:En} (h:j∉js):caps js (ρ.set j s)=caps js ρ:=by
  unfold caps
  refine List.map_congr_left fun k hk => ?_
  rw [List.getElem?_set_ne (fun z=>h (by rw [z]; exact hk))]
theorem cut_len:∀ {js:List Nat} {ρ:En},(cut js ρ).length=ρ.length
  | [],_=>rfl
  | j :: js,ρ=>(cut_len (js:=js)).trans List.length_set
theorem cut_set:∀ {js:List Nat} {j:Nat} {s:Sl} {ρ:En},j∉js→cut js (ρ.set j s)=(cut js ρ).set j s
  | [],_,_,_,_=>rfl
  | k :: js, j, s, ρ, h => by
    show cut js ((ρ.set j s).set k .un)=(cut js (ρ.set k .un)).set j s
    rw [List.set_comm _ _ (fun z=>h (by rw [z]; exact List.mem_cons_self)),cut_set fun z=>h (List.mem_cons_of_mem _ z)]
theorem pullAll:∀ {outs:List Nat} {ρ:En} {T:List Rw},outs.Nodup→ρ.length=σ.length→Rep F (ρ.zip σ ++ T) H→Rep F ((caps outs ρ).zip (vals σ outs) ++ ((cut outs ρ).zip σ ++ T)) H
  | [],_,_,_,_,R=>R
  | j :: js, ρ, T, hn, hl, R => by
    have hn':=List.nodup_cons.mp hn
    have step:Rep F ((ρ.set j .un).zip σ ++ (((ρ[j]?).getD .un,(σ[j]?).join) :: T)) H:=by
      by_cases hj:j < ρ.length
      · have h1 : ρ[j]? = some ρ[j] := List.getElem?_eq_getElem hj
        have h2:σ[j]? = some (σ[j]'(by omega)):=List.getElem?_eq_getElem (by omega)
        have R1:=R.perm ((ge_ h1 h2).append_right T)
        have R2:=R1.addU (x:=σ[j]'(by omega))
        rw [h1,h2]
        refine R2.perm ?_
        refine (List.Perm.swap _ _ _).trans ?_
        exact (((dw_ hl hj h2).append_right T).symm.cons _).trans mid.symm
      · rw [List.set_eq_of_length_le (by omega), List.getElem?_eq_none (by omega), List.getElem?_eq_none (by omega)]
        exact (R.addU (x:=none)).perm mid.symm
    have:=pullAll (outs:=js) hn'.2 (by rw [List.length_set]; exact hl) step
    rw [caps_set hn'.1] at this
    show Rep F ((((ρ[j]?).getD .un,(σ[j]?).join) :: (caps js ρ).zip (vals σ js)) ++ ((cut js (ρ.set j .un)).zip σ ++ T)) H
    refine this.perm ?_
    refine List.Perm.trans ?_ (List.Perm.refl _)
    rw [← List.append_assoc]
    exact mid.trans (by rw [List.append_assoc]; exact .refl _)
theorem putAll:∀ {outs:List Nat} {cs:List Sl} {ρ:En} {T:List Rw},outs.Nodup→ρ.length=σ.length→cs.length=outs.length→Rep F (cs.zip (vals σ outs) ++ ((cut outs ρ).zip σ ++ T)) H→Rep F ((back outs cs ρ).zip σ ++ T) H
  | [],[],_,_,_,_,_,R=>R
  | [],_ :: _,_,_,_,_,h,_=>by simp at h
  | _ :: _,[],_,_,_,_,h,_=>by simp at h
  | j :: js, c :: cs, ρ, T, hn, hl, hc, R => by
    have hn':=List.nodup_cons.mp hn
    refine putAll (outs:=js) (cs:=cs) (ρ:=ρ.set j c) hn'.2 (by rw [List.length_set]; exact hl) (by simpa using hc) ?_
    have R1:Rep F ((c,(σ[j]?).join) :: (cs.zip (vals σ js) ++ ((cut js (ρ.set j .un)).zip σ ++ T))) H:=R
    rw [cut_set hn'.1] at R1 ⊢
    have hcl:(cut js ρ).length=σ.length:=cut_len.trans hl
    by_cases hj:j < ρ.length
    · have hjc : j < (cut js ρ).length := by rw [cut_len]; exact hj
      have h2:σ[j]? = some (σ[j]'(by omega)):=List.getElem?_eq_getElem (by omega)
      rw [h2] at R1
      have p1:=((dw_ (s:=.un) hcl hjc h2).append_right T)
      have p2:=((dw_ (s:=c) hcl hjc h2).append_right T)
      have R2:=R1.perm ((List.Perm.append_left _ p1).cons _)
      have R3:=R2.perm ((mid.cons _).trans (.swap _ _ _))
      exact R3.tail.perm (mid.symm.trans (List.Perm.append_left _ p2.symm))
    · have hz : (cut js ρ).length ≤ j := by rw [cut_len]; omega
      rw [List.set_eq_of_length_le hz] at R1 ⊢
      exact R1.tail
theorem Rep.drops:∀ {A P:List Rw},Rep F (A ++ P) H→Rep F P H
  | [],_,R=>R
  | _ :: _,_,R=>Rep.drops R.tail
theorem Rep.addUs {P:List Rw} (R:Rep F P H):∀ n,Rep F (List.replicate n (.un,none) ++ P) H
  | 0=>R
  | n + 1=>(Rep.addUs R n).addU
def accR (ds:List Dx) (xs:List V):List Rw:=(ds.zip xs).map fun p=>(.v (.tr p.1),some p.2)
theorem Rep.accs:∀ {ds:List Dx} {xs:List V} {P:List Rw},ds.length=xs.length→Rep F (accR ds xs ++ P) H→Rep F P H∧All2 (IsX (hid (owns P) (F.vis H))) ds xs
  | [],[],P,_,R=>⟨R,rfl⟩
  | [],_ :: _,_,h,_=>by simp at h
  | _ :: _,[],_,h,_=>by simp at h
  | d :: ds, x :: xs, P, h, R => by
    obtain ⟨v,e,hx⟩:=Rep.atT (show Rep F ((.v (.tr d),some x) :: (accR ds xs ++ P)) H from R)
    cases e
    obtain ⟨R1,h1⟩:=Rep.accs (ds:=ds) (xs:=xs) (by simpa using h) (Rep.tail (show Rep F ((.v (.tr d),some x) :: (accR ds xs ++ P)) H from R))
    refine ⟨R1,x,xs,rfl,hx.to (ay_ fun c hc => ?_),h1⟩
    unfold owns
    rw [List.flatMap_append]
    exact List.mem_append_right _ hc
end
section
variable {X:Cx} {Ex:ExT} {dsc scope:Scope} {tgs N':List Str} {outs:List Nat} {tg iter elt:Expr} {ifs:List Expr} {pos:Pos} {ti:XI} {g:TG} {gx:XG} {tc:XC} {te:XT}
theorem iy_ {F:Fm} {n:Nat} (hgx:GX n g gx) (hno:outs.Nodup) {tcT:TT} {teT:TE} (htc:∀ σ H Q,tXc F tc σ H Q→tcT σ H Q) (hte:∀ σ H Q,tX F te σ H Q→teT σ H Q) {σ:St} {H':Hp} {Q:VK} {Qx:Sv→En→Prop} {ρ':En} {fr row:List Rw} {ds:List Dx} {J:It}
    (k:∀ v s H' ρ',EOk F ρ' σ ((.v s,some v) :: fr) H'→Qx s ρ'→Q v H') (E':EOk F ρ' σ (row ++ fr) H') (hJ:ItX F J row ds) (q:ds.length≤1000000∧compX n gx tc te (fun acc cs=>Qx (.ol acc) (back outs cs ρ')) ds (caps outs ρ') []) :
    ∃ W:Nat→Nat→List V→Hp→Prop,(∃ m,W 0 m [] H')∧∀ i m acc H,W i m acc H →
    (J.stop i H∧acc.length≤sizeLine∧∀ l,H l=none→Q (.ref l) (upd H l (.lst acc))) ∨
    (J.go i H∧acc.length < sizeLine∧∃ N:List V→Hp→Prop,(∀ acc' H',N acc' H'→∃ m',m' < m∧W (i + 1) m' acc' H')∧∀ x H',J.yld i H x H'→g x (pick n outs σ) H' fun σ2 H2=>tcT σ2 H2 fun b H3 =>
      if b=true then teT σ2 H3 fun y H4=>N (acc ++ [y]) H4 else N acc H3):=by
  obtain ⟨hd,q⟩:=q
  have zl:=line1
  refine ⟨fun i m acc H=>m=ds.length - i∧i≤ds.length∧∃ cs accD,cs.length=outs.length∧accD.length=acc.length∧acc.length≤i∧Rep F (cs.zip (vals σ outs) ++ (accR accD acc ++ (row ++ ((cut outs ρ').zip σ ++ fr)))) H ∧
    compX n gx tc te (fun acc cs=>Qx (.ol acc) (back outs cs ρ')) (ds.drop i) cs accD,⟨ds.length,by simp,Nat.zero_le _,caps outs ρ',[],by simp [caps],rfl,Nat.le_refl _,?_,by simpa using q⟩,?_⟩
  · have R := pullAll (outs := outs) hno E'.len E'.rep
    refine R.perm (List.Perm.append_left _ ?_)
    exact sw
  rintro i m acc H3 ⟨rfl,hi,cs,accD,hcl,hal,hai,R,hq⟩
  have hrow:Rep F (row ++ (cs.zip (vals σ outs) ++ (accR accD acc ++ ((cut outs ρ').zip σ ++ fr)))) H3:=by
    exact R.perm ((List.Perm.append_left _ sw).trans sw)
  by_cases hlt:i < ds.length
  · right
    have hdi:ds[i]? = some ds[i]:=List.getElem?_eq_getElem hlt
    rw [List.drop_eq_getElem_cons hlt] at hq
    refine ⟨hJ.go _ _ i _ hrow hdi,by omega,fun acc' H4 => ∃ m',m' < ds.length - i∧(m'=ds.length - (i + 1)∧i + 1≤ds.length∧∃ cs accD,cs.length=outs.length∧accD.length=acc'.length∧acc'.length≤i + 1∧Rep F (cs.zip (vals σ outs) ++ (accR accD acc' ++ (row ++ ((cut outs ρ').zip σ ++ fr)))) H4 ∧
      compX n gx tc te (fun acc cs=>Qx (.ol acc) (back outs cs ρ')) (ds.drop (i + 1)) cs accD),fun acc' H4 h=>h,fun x H4 hy => ?_⟩
    have R4:=hJ.yld _ _ i _ x H4 hrow hdi hy
    have hzip:∀ (cs:List Sl),cs.length=outs.length→(List.replicate n Sl.un ++ cs).zip (pick n outs σ)=List.replicate n (Sl.un,none) ++ cs.zip (vals σ outs):=fun cs hcs=>by
      unfold pick
      rw [List.zip_append (by rw [List.length_replicate,List.length_replicate]),List.zip_replicate]
      simp
    have Ei:EOk F (List.replicate n .un ++ cs) (pick n outs σ) ((.v (.tr ds[i]),some x) :: (accR accD acc ++ (row ++ ((cut outs ρ').zip σ ++ fr)))) H4:=by
      refine ⟨by rw [pick_len,List.length_append,List.length_replicate,hcl],?_⟩
      rw [hzip cs hcl,List.append_assoc]
      refine Rep.addUs (R4.perm ?_) n
      exact ((sw.trans (List.Perm.append_left _ sw)).cons _).trans mid.symm
    have fin:∀ {ρ3:En} {σ2:St} {H5:Hp} {accD':List Dx} {acc':List V},σ2.length=(pick n outs σ).length→(∀ j,n≤j→σ2[j]? = (pick n outs σ)[j]?)→EOk F ρ3 σ2 (accR accD' acc' ++ (row ++ ((cut outs ρ').zip σ ++ fr))) H5→accD'.length=acc'.length→acc'.length≤i + 1 →
        compX n gx tc te (fun acc cs=>Qx (.ol acc) (back outs cs ρ')) (ds.drop (i + 1)) (ρ3.drop n) accD' →
        ∃ m', m' < ds.length - i ∧ (m' = ds.length - (i + 1) ∧ i + 1 ≤ ds.length ∧ ∃ cs accD, cs.length = outs.length ∧ accD.length = acc'.length ∧ acc'.length ≤ i + 1 ∧ Rep F (cs.zip (vals σ outs) ++ (accR accD acc' ++ (row ++ ((cut outs ρ').zip σ ++ fr)))) H5 ∧
          compX n gx tc te (fun acc cs=>Qx (.ol acc) (back outs cs ρ')) (ds.drop (i + 1)) cs accD):=fun {ρ3 σ2 H5 accD' acc'} hl2 hs2 E3 h1 h2 h3=>by
      have hl3:ρ3.length=n + outs.length:=by rw [E3.len,hl2,pick_len]
      refine ⟨ds.length - (i + 1),by omega,rfl,hlt,ρ3.drop n,accD',by rw [List.length_drop,hl3]; omega,h1,h2,?_,h3⟩
      have hv:σ2.drop n=vals σ outs:=by
        apply List.ext_getElem?
        intro j
        rw [List.getElem?_drop,hs2 _ (Nat.le_add_right n j)]
        unfold pick
        rw [List.getElem?_append_right (by rw [List.length_replicate]; omega),List.length_replicate,Nat.add_sub_cancel_left]
      have hz:ρ3.zip σ2=(ρ3.take n).zip (σ2.take n) ++ (ρ3.drop n).zip (σ2.drop n):=by
        rw [← List.zip_append (by rw [List.length_take,List.length_take,E3.len]),List.take_append_drop,List.take_append_drop]
      have R5:=E3.rep
      rw [hz,hv,List.append_assoc] at R5
      exact Rep.drops R5
    refine hgx F _ _ _ H4 _ x _ _ Ei hq fun σ2 H5 ρ1 E1 hl2 hs2 q1=>htc _ _ _ ⟨ρ1,_,_,E1,q1,fun b H6 ρ2 E2 q2 => ?_⟩
    cases b with
    | false=>exact fin hl2 hs2 E2 hal (by omega) q2
    | true =>
      refine hte _ _ _ ⟨ρ2,_,_,E2,q2,fun y s H7 ρ3 E3 q3 => ?_⟩
      refine fin (accD':=accD ++ [s.d]) (acc':=acc ++ [y]) hl2 hs2 ⟨E3.len,?_⟩ (by rw [List.length_append,List.length_append,hal]; rfl) (by rw [List.length_append]; show acc.length + 1≤_; omega) q3
      have R7:=(EOk.front E3).frz
      have he:accR (accD ++ [s.d]) (acc ++ [y])=accR accD acc ++ [(.v (.tr s.d),some y)]:=by
        unfold accR
        rw [List.zip_append hal,List.map_append]
        rfl
      rw [he,List.append_assoc]
      exact R7.perm (mid.symm.trans (List.Perm.append_left _ mid.symm))
  · left
    have hie:i=ds.length:=by omega
    subst hie
    rw [List.drop_length] at hq
    refine ⟨hJ.stop _ _ _ hrow (Nat.le_refl _),by omega,fun l hl => ?_⟩
    have R1:=R.perm (sw.trans (List.Perm.append_left _ sw))
    obtain ⟨R2,ha⟩:=R1.accs hal
    have R3:Rep F (row ++ ((.v (.ol accD),some (.ref l)) :: (cs.zip (vals σ outs) ++ ((cut outs ρ').zip σ ++ fr)))) (upd H3 l (.lst acc)):=(R2.newL hl ha).perm mid.symm
    have R4:Rep F (cs.zip (vals σ outs) ++ ((cut outs ρ').zip σ ++ ((.v (.ol accD),some (.ref l)) :: fr))) (upd H3 l (.lst acc)):=R3.drops.perm (mid.symm.trans (List.Perm.append_left _ mid.symm))
    have hbl:∀ {js:List Nat} {cs:List Sl} {ρ:En},(back js cs ρ).length=ρ.length:=by
      intro js
      induction js with
      | nil=>intro cs ρ; cases cs <;> rfl
      | cons j js ih => intro cs ρ; cases cs with
        | nil=>rfl
        | cons c cs=>exact (ih (cs:=cs) (ρ:=ρ.set j c)).trans List.length_set
    exact k _ (.ol accD) _ (back outs cs ρ') ⟨hbl.trans E'.len,putAll hno E'.len hcl R4⟩ hq
theorem tComp_x {F:Fm} {n:Nat} (hgx:GX n g gx) (hno:outs.Nodup):∀ σ H Q,tX F (xComp n outs ti gx tc te) σ H Q→tComp n outs (tXi F ti) g (tXc F tc) (tX F te) σ H Q:=by
  rintro σ H Q ⟨ρ,fr,Qx,E,t,k⟩
  exact ⟨ρ,fr,_,E,t,fun J H' ρ' row ds E' hJ q=>iy_ hgx hno (fun _ _ _ z=>z) (fun _ _ _ z=>z) k E' hJ q⟩
end
end Lf
namespace L2
open PySem
theorem PS.weak {X:Cx} {e:Stmt} {t u:TS} (h:PS X e t) (w:∀ D σ H,u D σ H→t D σ H):PS X e u:=fun pins s σ H D I q=>h pins s σ H D I (w D σ H q)
theorem PSs.weak {X:Cx} {e:List Stmt} {t u:TS} (h:PSs X e t) (w:∀ D σ H,u D σ H→t D σ H):PSs X e u:=fun pins s σ H D I q=>h pins s σ H D I (w D σ H q)
end L2
namespace Lf
open PySem L2
theorem ce_ {X:Cx} {Ex:ExT} {dsc scope:Scope} {tgs N' N:List Str} {outs:List Nat} {tg iter elt:Expr} {ifs:List Expr} {pos:Pos} {ti:XI} {g:TG} {gx:XG} {tc:XC} {te:XT} (S:CompScope dsc scope N tgs outs N') (hi:XIt X Ex tg iter ti) (hg:∀ cl C s H ex,PG (cxComp X N' scope cl C s H ex) tg g) (hgx:GX tgs.length g gx) (hgt:Tgt tgs.length g)
    (hcs:∀ cl C s H ex,XCs (cxComp X N' scope cl C s H ex) noEx ifs tc) (he:∀ cl C s H ex,XE (cxComp X N' scope cl C s H ex) noEx elt te) (hno:outs.Nodup:=by decide) (hN0:X.N=N:=by rfl) (hsc:X.env.scope=dsc:=by rfl) (hc:X.calm=true:=by rfl) (hs:∀ x,foldedSetIterable iter X.env x=pure x:=by intro _; rfl) :
    XE X Ex (.ListComp elt [⟨tg,iter,ifs,0⟩] scope pos) (xComp tgs.length outs ti gx tc te):=fun F =>
  (pe_comp S (hi F) hg hgt (fun a b c d e=>hcs a b c d e F) (fun a b c d e=>he a b c d e F) hN0 hsc hc hs).weak (tComp_x hgx hno)
structure XD where
  nx:En→Prop
  rt:Sv→En→Prop
  bk:En→Prop
  ct:En→Prop
abbrev XS:=En→XD→Prop
structure DOk (F:Fm) (n:Nat) (fr:List Rw) (D:Ends) (d:XD):Prop where
  nx:∀ σ' H' ρ',σ'.length=n→EOk F ρ' σ' fr H'→d.nx ρ'→D.nx σ' H'
  rt:∀ v s σ' H' ρ',σ'.length=n→EOk F ρ' σ' ((.v s,some v) :: fr) H'→d.rt s ρ'→D.rt v H'
  bk:∀ σ' H' ρ',σ'.length=n→EOk F ρ' σ' fr H'→d.bk ρ'→D.bk σ' H'
  ct:∀ σ' H' ρ',σ'.length=n→EOk F ρ' σ' fr H'→d.ct ρ'→D.ct σ' H'
def tXS (F:Fm) (G:XS):TS:=fun D σ H => ∃ ρ fr d,EOk F ρ σ fr H∧G ρ d∧DOk F σ.length fr D d
def XSt (X:Cx) (Ex:ExT) (st:Stmt) (G:XS):Prop := ∀ F,[OkF X Ex F]→PS X st (tXS F G)
def XSs (X:Cx) (Ex:ExT) (st:List Stmt) (G:XS):Prop := ∀ F,[OkF X Ex F]→PSs X st (tXS F G)
def xNext:XS:=fun ρ D=>D.nx ρ
def xSeq (G K:XS):XS:=fun ρ D=>G ρ { D with nx:=fun ρ'=>K ρ' D }
def xSet (i:Nat) (t:XT):XS:=fun ρ D=>t ρ fun s ρ'=>D.nx (ρ'.set i (.v s))
def xAsg (t:XT) (gx:XG):XS:=fun ρ D=>t ρ fun s ρ'=>gx s.d ρ' D.nx
def xExp (t:XT):XS:=fun ρ D=>t ρ fun _ ρ'=>D.nx ρ'
def xRet (t:XT):XS:=fun ρ D=>t ρ fun s ρ'=>D.rt s ρ'
def xIf (c:XC) (G K:XS):XS:=fun ρ D=>c ρ fun b ρ'=>if b=true then G ρ' D else K ρ' D
def forX (gx:XG) (G:XS) (D:XD):List Dx→En→Prop
  | [],ρ=>D.nx ρ
  | d :: ds,ρ=>gx d ρ fun ρ1=>G ρ1 { D with nx:=forX gx G D ds,ct:=forX gx G D ds,bk:=D.nx }
def xFor (ti:XI) (gx:XG) (G:XS):XS:=fun ρ D=>ti ρ fun ds ρ'=>forX gx G D ds ρ'
section
variable {X:Cx} {Ex:ExT} {st:Stmt} {rest:List Stmt} {G K:XS} {e c tg iter:Expr} {t:XT} {tc:XC} {pos:Pos} {i:Nat}
theorem ar_:XSs X Ex [] xNext:=fun F=>(pss_nil (X:=X)).weak fun D σ H=>by
  rintro ⟨ρ,fr,d,E,q,k⟩
  exact k.nx σ H ρ rfl E q
theorem ae_ (h:XSt X Ex st G) (h':XSs X Ex rest K):XSs X Ex (st :: rest) (xSeq G K):=fun F=>(ba_ (h F) (h' F)).weak fun D σ H=>by
  rintro ⟨ρ,fr,d,E,q,k⟩
  exact ⟨ρ,fr,_,E,q,⟨fun σ' H' ρ' hl E' q'=>⟨ρ',fr,d,E',q',by rw [hl]; exact k⟩,k.rt,k.bk,k.ct⟩⟩
theorem af_ (h:XSt X Ex st G):XSs X Ex [st] G:=fun F=>ev_ (h F)
theorem ai_ (h:∀ F,[OkF X Ex F]→PS X st (tAsg (tX F t) (gName i))):XSt X Ex st (xSet i t):=fun F=>(h F).weak fun D σ H=>by
  rintro ⟨ρ,fr,d,E,q,k⟩
  exact ⟨ρ,fr,_,E,q,fun v s H' ρ' E' q'=>k.nx _ H' _ List.length_set (iw_ E') q'⟩
theorem xs_asgP {n:Nat} {g:TG} {gx:XG} (hgx:GX n g gx) (h:∀ F,[OkF X Ex F]→PS X st (tAsg (tX F t) g)):XSt X Ex st (xAsg t gx):=fun F=>(h F).weak fun D σ H=>by
  rintro ⟨ρ,fr,d,E,q,k⟩
  exact ⟨ρ,fr,_,E,q,fun v s H' ρ' E' q'=>hgx F ρ' σ fr H' s.d v _ _ (EOk.back E'.len E'.front.frz) q' fun σ' H2 ρ2 E2 hl _ q2=>k.nx σ' H2 ρ2 hl E2 q2⟩
theorem gu_ (he:XE X Ex e t) (hs:swapsWith e none pos.line X.env=pure false:=by rfl):XSt X Ex (.Expr e pos) (xExp t):=fun F=>(fz_ (he F) hs).weak fun D σ H=>by
  rintro ⟨ρ,fr,d,E,q,k⟩
  exact ⟨ρ,fr,_,E,q,fun v s H' ρ' E' q'=>k.nx σ H' ρ' rfl E'.drop q'⟩
theorem an_ (he:XE X Ex e t):XSt X Ex (.Return (some e) pos) (xRet t):=fun F=>(ps_ret (he F)).weak fun D σ H=>by
  rintro ⟨ρ,fr,d,E,q,k⟩
  exact ⟨ρ,fr,_,E,q,fun v s H' ρ' E' q'=>k.rt v s σ H' ρ' rfl E' q'⟩
theorem bd_ {a b:List Stmt} (hc:XTe X Ex c tc) (ha:XSs X Ex a G) (hb:XSs X Ex b K):XSt X Ex (.If c a b pos) (xIf tc G K):=fun F=>(ps_if (hc F) (ha F) (hb F)).weak fun D σ H=>by
  rintro ⟨ρ,fr,d,E,q,k⟩
  refine ⟨ρ,fr,_,E,q,fun b H' ρ' E' q' => ?_⟩
  cases b with
  | true=>exact ⟨ρ',fr,d,E',q',k⟩
  | false=>exact ⟨ρ',fr,d,E',q',k⟩
def xNo:XS:=fun _ _=>False
theorem xs_no:XSt X Ex st xNo:=fun F=>(ps_never (X:=X)).weak fun D σ H=>by
  rintro ⟨ρ,fr,d,E,q,k⟩
  exact q
theorem for_core {F:Fm} {n:Nat} {g:TG} {gx:XG} (hgx:GX n g gx) {tb:TS} (htb:∀ D σ H,tXS F G D σ H→tb D σ H) {D:Ends} {d:XD} {σ:St} {H':Hp} {ρ':En} {fr row:List Rw} {ds:List Dx} {J:It} (k:DOk F σ.length fr D d) (E':EOk F ρ' σ (row ++ fr) H') (hJ:ItX F J row ds) (q':forX gx G d ds ρ') :
    ∃ W:Nat→Nat→St→Hp→Prop,(∃ m,W 0 m σ H')∧∀ i m σ H,W i m σ H →
    (J.stop i H∧D.nx σ H)∨(J.go i H∧∃ N:St→Hp→Prop,(∀ σ' H',N σ' H'→∃ m',m' < m∧W (i + 1) m' σ' H')∧∀ x H',J.yld i H x H'→g x σ H' fun σ2 H2=>tb { D with nx:=N,ct:=N,bk:=D.nx } σ2 H2):=by
  refine ⟨fun i m σ1 H1=>m=ds.length - i∧i≤ds.length∧σ1.length=σ.length∧∃ ρ1,EOk F ρ1 σ1 (row ++ fr) H1∧forX gx G d (ds.drop i) ρ1,⟨ds.length,by simp,Nat.zero_le _,rfl,ρ',E',by simpa using q'⟩,?_⟩
  rintro i m σ1 H1 ⟨rfl,hi,hl,ρ1,E1,q1⟩
  have hrow:Rep F (row ++ (ρ1.zip σ1 ++ fr)) H1:=E1.rep.perm sw
  by_cases hlt:i < ds.length
  · right
    have hdi:ds[i]? = some ds[i]:=List.getElem?_eq_getElem hlt
    rw [List.drop_eq_getElem_cons hlt] at q1
    refine ⟨hJ.go _ _ i _ hrow hdi,fun σ2 H2 => ∃ m',m' < ds.length - i∧(m'=ds.length - (i + 1)∧i + 1≤ds.length∧σ2.length=σ.length∧∃ ρ1,EOk F ρ1 σ2 (row ++ fr) H2∧forX gx G d (ds.drop (i + 1)) ρ1),fun _ _ h=>h,fun x H2 hy => ?_⟩
    have R2:=hJ.yld _ _ i _ x H2 hrow hdi hy
    have E2:EOk F ρ1 σ1 ((.v (.tr ds[i]),some x) :: (row ++ fr)) H2:=⟨E1.len,R2.perm ((sw.cons _).trans mid.symm)⟩
    refine hgx F ρ1 σ1 _ H2 _ x _ _ E2 q1 fun σ2 H3 ρ2 E3 hl2 _ q2 => ?_
    have nxt:∀ σ' H' ρ',σ'.length=σ2.length→EOk F ρ' σ' (row ++ fr) H'→forX gx G d (ds.drop (i + 1)) ρ'→∃ m',m' < ds.length - i∧(m'=ds.length - (i + 1)∧i + 1≤ds.length∧σ'.length=σ.length∧∃ ρ1,EOk F ρ1 σ' (row ++ fr) H'∧forX gx G d (ds.drop (i + 1)) ρ1):=fun σ' H' ρ' h1 h2 h3 =>
      ⟨ds.length - (i + 1),by omega,rfl,hlt,by rw [h1,hl2,hl],ρ',h2,h3⟩
    have ends:∀ {σ':St} {H':Hp} {ρ':En} {fr2:List Rw},EOk F ρ' σ' (row ++ fr2) H'→EOk F ρ' σ' fr2 H':=fun h=>⟨h.len,Rep.drops (A:=row) (h.rep.perm sw)⟩
    refine htb _ _ _ ⟨ρ2,row ++ fr,_,E3,q2,⟨nxt,fun v s σ' H' ρ' h1 h2 h3=>k.rt v s σ' H' ρ' (by rw [h1,hl2,hl]) ?_ h3,fun σ' H' ρ' h1 h2 h3=>k.nx σ' H' ρ' (by rw [h1,hl2,hl]) (ends h2) h3,nxt⟩⟩
    exact ends ⟨h2.len,h2.rep.perm (List.Perm.append_left _ mid.symm)⟩
  · left
    have hie:i=ds.length:=by omega
    subst hie
    rw [List.drop_length] at q1
    exact ⟨hJ.stop _ _ _ hrow (Nat.le_refl _),k.nx σ1 H1 ρ1 hl ⟨E1.len,Rep.drops (A:=row) hrow⟩ q1⟩
theorem tFor_x {F:Fm} {ti:XI} {n:Nat} {g:TG} {gx:XG} (hgx:GX n g gx):∀ D σ H,tXS F (xFor ti gx G) D σ H→tFor (tXi F ti) g (tXS F G) D σ H:=by
  rintro D σ H ⟨ρ,fr,d,E,q,k⟩
  exact ⟨ρ,fr,_,E,q,fun J H' ρ' row ds E' hJ q'=>for_core hgx (fun _ _ _ z=>z) k E' hJ q'⟩
theorem ck_ {body:List Stmt} {ti:XI} {n:Nat} {g:TG} {gx:XG} (hp:PassesOwn (model X.prog X.w) X.A X.env X.xe) (hc:X.calm=true) (hi:XIt X Ex tg iter ti) (hg:PG X tg g) (hgx:GX n g gx) (hb:XSs X Ex body G) (hs:∀ x,foldedSetIterable iter X.env x=pure x:=by intro _; rfl):XSt X Ex (.For tg iter body [] pos) (xFor ti gx G):=fun F =>
  (ps_for hp hc (hi F) hg (hb F) hs).weak (tFor_x hgx)
theorem fb_ (h:∀ F,[OkF X Ex F]→PS X st (tXS F G)):XSt X Ex st G:=h
end
section
variable {F:Fm} {ρ:En} {σ:St} {fr:List Rw} {H:Hp} {i:Nat}
theorem gl_ {l:List Dx} {f:List Dx→Sl} (E:EOk F ρ σ fr H) (h:(ρ[i]?).bind lent=some (l,f)):∃ p ws,σ[i]? = some (some (.ref p))∧H p=some (.lst ws)∧All2 (IsX (hid (owns (ρ.zip σ ++ fr)) (F.vis H))) l ws ∧
    ∀ l' ws',All2 (IsX (hid (owns (ρ.zip σ ++ fr)) (F.vis H))) l' ws'→EOk F (ρ.set i (f l')) σ fr (upd H p (.lst ws')):=by
  obtain ⟨sl,h3,h4⟩:=Option.bind_eq_some_iff.mp h
  obtain ⟨v,hv,hi,R⟩:=ef_ E h3
  obtain ⟨p,ws,rfl,h5,h6,h7,h8⟩:=lent_row h4 R
  have hO:(owns (ρ.zip σ ++ fr)).Perm (owns ((sl,some (V.ref p)) :: ((ρ.zip σ).eraseIdx i ++ fr))):=((ge_ h3 hv).append_right fr).flatMap_right _
  rw [as_ h6] at hO
  refine ⟨p,ws,hv,h5,h7.imp fun _ _ z=>z.to (ay_ fun a ha=>hO.mem_iff.mp ha),fun l' ws' hl' => ?_⟩
  obtain ⟨k1,k2,k3⟩:=h8 l'
  exact eok_put E.len hi hv (R.put h6 k1 k2 (k3 upd_same (hl'.imp fun _ _ z=>(z.to (ay_ fun a ha=>hO.mem_iff.mpr ha)).to hid_put)))
theorem dict_put {l:List (Key×Dx)} (E:EOk F ρ σ fr H) (h:ρ[i]? = some (.v (.od l))):∃ p ws,σ[i]? = some (some (.ref p))∧H p=some (.dK ws)∧All2 (KvX (hid (owns (ρ.zip σ ++ fr)) (F.vis H))) l ws ∧
    ∀ l' ws',All2 (KvX (hid (owns (ρ.zip σ ++ fr)) (F.vis H))) l' ws'→EOk F (ρ.set i (.v (.od l'))) σ fr (upd H p (.dK ws')):=by
  obtain ⟨v,hv,hi,R⟩:=ef_ E h
  obtain ⟨p,ws,rfl,h5,h7⟩:=R.atD
  have hO:(owns (ρ.zip σ ++ fr)).Perm (owns ((.v (.od l),some (V.ref p)) :: ((ρ.zip σ).eraseIdx i ++ fr))):=((ge_ h hv).append_right fr).flatMap_right _
  rw [as_ (a:=p) rfl] at hO
  refine ⟨p,ws,hv,h5,h7.imp fun _ _ z=>z.to (ay_ fun a ha=>hO.mem_iff.mp ha),fun l' ws' hl' => ?_⟩
  exact eok_put E.len hi hv (R.putD (hl'.imp fun _ _ z=>z.to (ay_ fun a ha=>hO.mem_iff.mpr ha)))
theorem lent_at {l:List Dx} {f:List Dx→Sl} (E:EOk F ρ σ fr H) (h:(ρ[i]?).bind lent=some (l,f)):∃ p ws,σ[i]? = some (some (.ref p))∧H p=some (.lst ws):=by
  obtain ⟨p,ws,h1,h2,_⟩:=gl_ E h
  exact ⟨p,ws,h1,h2⟩
end
def xApp (i:Nat) (t:XT):XS:=fun ρ D=>((ρ[i]?).bind lent).isSome=true∧t ρ fun s ρ'=>match (ρ'[i]?).bind lent with
  | some (l,f)=>l.length < 1000000∧D.nx (ρ'.set i (f (l ++ [s.d])))
  | none=>False
def xExt (i:Nat) (t:XT):XS:=fun ρ D=>((ρ[i]?).bind lent).isSome=true∧t ρ fun s ρ'=>match (ρ'[i]?).bind lent,s.d with
  | some (l,f),.lst m=>l.length + m.length≤1000000∧D.nx (ρ'.set i (f (l ++ m)))
  | _,_=>False
def xSetI (i:Nat) (ti te:XT):XS:=fun ρ D=>te ρ fun s ρ1=>((ρ1[i]?).bind lent).isSome=true∧ti ρ1 fun k ρ2=>match (ρ2[i]?).bind lent,k.d with
  | some (l,f),.int j=>(match ixN l.length j with | some n=>D.nx (ρ2.set i (f (l.set n s.d))) | none=>False)
  | _,_=>False
def putX (l:List (Key×Dx)) (k:Key) (d:Dx):List (Key×Dx):=if (l.any fun kv=>decide (kv.1=k))=true then l.map (fun kv=>if kv.1=k then (kv.1,d) else kv) else l ++ [(k,d)]
def xDPut (i:Nat) (tk tv:XT):XS:=fun ρ D=>tv ρ fun s ρ1=>(∃ l,ρ1[i]? = some (.v (.od l)))∧tk ρ1 fun k ρ2=>match ρ2[i]?,keyD k.d with
  | some (.v (.od l)),some key=>l.length < 1000000∧D.nx (ρ2.set i (.v (.od (putX l key s.d))))
  | _,_=>False
theorem putX_put {G:Hp} {l:List (Key×Dx)} {ws:List (Key×V)} {k:Key} {d:Dx} {v:V} (h:All2 (KvX G) l ws) (hd:IsX G d v):All2 (KvX G) (putX l k d) (putK ws k v):=by
  have any:∀ {l:List (Key×Dx)} {ws:List (Key×V)},All2 (KvX G) l ws→(l.any fun kv=>decide (kv.1=k))=(ws.any fun kv=>decide (kv.1=k)):=by
    intro l
    induction l with
    | nil=>intro ws h; rw [show ws=[] from h]; rfl
    | cons p l ih =>
      intro ws h
      obtain ⟨w,wr,rfl,⟨h1,_⟩,h3⟩:=h
      rw [List.any_cons,List.any_cons,ih h3,h1]
  have mp:∀ {l:List (Key×Dx)} {ws:List (Key×V)},All2 (KvX G) l ws→All2 (KvX G) (l.map fun kv=>if kv.1=k then (kv.1,d) else kv) (ws.map fun kv=>if kv.1=k then (kv.1,v) else kv):=by
    intro l
    induction l with
    | nil=>intro ws h; rw [show ws=[] from h]; rfl
    | cons p l ih =>
      intro ws h
      obtain ⟨w,wr,rfl,⟨h1,h2⟩,h3⟩:=h
      refine ⟨_,_,rfl,?_,ih h3⟩
      by_cases e:p.1=k
      · show KvX G (if p.1 = k then (p.1, d) else p) (if w.1 = k then (w.1, v) else w)
        rw [if_pos e,if_pos (h1 ▸ e)]; exact ⟨h1,hd⟩
      · show KvX G (if p.1 = k then (p.1, d) else p) (if w.1 = k then (w.1, v) else w)
        rw [if_neg e,if_neg (h1 ▸ e)]; exact ⟨h1,h2⟩
  unfold putX putK
  rw [any h]
  split
  · exact mp h
  · exact h.snoc ⟨rfl,hd⟩
section
variable {X:Cx} {Ex:ExT} {st:Stmt} {i:Nat} {t ti te tk tv:XT} {F:Fm} {K:FG_}
theorem tApp_x:∀ D σ H,tXS F (xApp i t) D σ H→tDrop (tBM K "list" rAppend (tVar i) (tCons (tX F t) tNil)) D σ H:=by
  rintro D σ H ⟨ρ,fr,d,E,⟨q0,q⟩,k⟩
  obtain ⟨⟨l0,f0⟩,h0⟩:=Option.isSome_iff_exists.mp q0
  obtain ⟨p,ws,hv,hp⟩:=lent_at E h0
  refine ⟨.ref p,hv,.inl ⟨rfl,ws,SqL.of hp⟩,ρ,fr,_,E,q,fun y s H' ρ' E' q' => ?_⟩
  split at q'
  · rename_i l f hb
    obtain ⟨R,hx⟩:=E'.one
    obtain ⟨p',ws',hv',hp',hl,hput⟩:=gl_ E'.drop hb
    rw [hv] at hv'
    cases hv'
    exact ⟨p,ws',y,rfl,rfl,hp',by rw [hl.len]; have:=line1; omega,k.nx σ _ _ rfl (hput _ _ (hl.snoc hx)) q'.2⟩
  · exact q'.elim
theorem fy_:∀ D σ H,tXS F (xSetI i ti te) D σ H→tAsg (tX F te) (gSub (tVar i) (tX F ti) rSetL) D σ H:=by
  rintro D σ H ⟨ρ,fr,d,E,q,k⟩
  refine ⟨ρ,fr,_,E,q,fun y s H' ρ' E' q' => ?_⟩
  obtain ⟨q0,q'⟩:=q'
  obtain ⟨⟨l0,f0⟩,h0⟩:=Option.isSome_iff_exists.mp q0
  obtain ⟨p,ws,hv,hp⟩:=lent_at E' h0
  refine ⟨.ref p,hv,ρ',_,_,E',q',fun z s2 H2 ρ2 E2 q2 => ?_⟩
  split at q2
  · rename_i l f j hb hj
    obtain ⟨R,hx1,hx2⟩:=E2.two
    rw [hj] at hx2
    cases hx2.int_eq
    obtain ⟨p',ws',hv',hp',hl,hput⟩:=gl_ (E2.drop.drop) hb
    rw [hv] at hv'
    cases hv'
    split at q2
    · rename_i n hn
      exact ⟨p,ws',j,n,rfl,rfl,hp',by rw [hl.len]; exact hn,k.nx σ _ _ rfl (hput _ _ (hl.set hx1 n)) q2⟩
    · exact q2.elim
  · exact q2.elim
theorem tDPut_x:∀ D σ H,tXS F (xDPut i tk tv) D σ H→sDPut (tVar i) (tX F tk) (tX F tv) D σ H:=by
  rintro D σ H ⟨ρ,fr,d,E,q,k⟩
  refine ⟨ρ,fr,_,E,q,fun y s H' ρ' E' q' => ?_⟩
  obtain ⟨⟨l0,h0⟩,q'⟩:=q'
  obtain ⟨p,ws,hv,hp,_⟩:=dict_put E' h0
  refine ⟨.ref p,hv,ρ',_,_,E',q',fun z s2 H2 ρ2 E2 q2 => ?_⟩
  split at q2
  · rename_i l key hb hk
    obtain ⟨R,hx1,hx2⟩:=E2.two
    obtain ⟨p',ws',hv',hp',hl,hput⟩:=dict_put (E2.drop.drop) hb
    rw [hv] at hv'
    cases hv'
    cases keyD_is hx2 hk
    exact ⟨p,_,rfl,DPut.k hp' (by rw [hl.len]; have:=line1; omega),k.nx σ _ _ rfl (hput _ _ (putX_put hl hx1)) q2.2⟩
  · exact q2.elim
end
def startX (N:List Str) (ds:List Dx):En:=ds.map (fun d=>.v (.tr d)) ++ List.replicate (N.length - ds.length) .un
abbrev retX (Q:Sv→Prop):XD:=⟨fun _=>Q (.tr .non),fun s _=>Q s,fun _=>False,fun _=>False⟩
theorem ho_ {F:Fm} {H:Hp} (R0:Rep F [] H) {m:Nat}:∀ {ds:List Dx} {vs:List V},All2 (IsX (F.vis H)) ds vs→Rep F ((ds.map (fun d=>Sl.v (.tr d)) ++ List.replicate m Sl.un).zip (vs.map some ++ List.replicate m none)) H
  | [], _, h => by
    rw [show _=[] from h]
    simp only [List.map_nil,List.nil_append]
    rw [List.zip_replicate,Nat.min_self]
    have:=R0.addUs m
    simpa using this
  | d :: ds, _, ⟨v, vr, e, h1, h2⟩ => by
    subst e
    have R:=ho_ (m:=m) R0 h2
    simp only [List.map_cons,List.cons_append,List.zip_cons_cons]
    refine R.add (h1.to fun b o hb=>hid_some.mpr ⟨fun z => ?_,hb⟩)
    obtain ⟨r,hr,hb⟩:=List.mem_flatMap.mp z
    have:∀ {ds:List Dx} {vs:List (Option V)} {r:Rw},r∈((ds.map (fun d=>Sl.v (.tr d)) ++ List.replicate m Sl.un).zip vs)→ownA r=[]:=by
      intro ds vs r hr
      obtain ⟨a,b⟩:=r
      have:=(List.of_mem_zip hr).1
      rcases List.mem_append.mp this with h | h
      · obtain ⟨d,_,rfl⟩:=List.mem_map.mp h; rfl
      · rw [(List.mem_replicate.mp h).2]; rfl
    rw [this hr] at hb
    cases hb
theorem res_ok {H Hs:Hp} {sub:Same Hs H} {nb:∀ b∈([]:List Addr),Hs b=none} {ib:∀ b∈([]:List Addr),∃ o,H b=some o} {P:List Rw} {H':Hp} {s:Sv} {v:V} (R:Rep ⟨H,Hs,[],sub,nb,ib⟩ ((.v s,some v) :: P) H'):Same H H'∧ResOk Hs H H' s v:=by
  refine ⟨fun b o h=>R.kp b o h (by simp),?_⟩
  match s with
  | .tr d =>
    obtain ⟨v',e,h⟩:=R.atT
    cases e
    exact h.to hid_sub
  | .ol l =>
    obtain ⟨a,vs,e,h1,h2⟩:=R.atL
    cases e
    exact ⟨a,vs,rfl,R.fr _ List.mem_cons_self a (List.mem_singleton.mpr rfl),h1,h2.imp fun _ _ z=>z.to (ay_ fun c hc=>by rw [List.mem_singleton.mp hc]; exact List.mem_cons_self)⟩
  | .od l =>
    obtain ⟨a,vs,e,h1,h2⟩:=R.atD
    cases e
    exact ⟨a,vs,rfl,R.fr _ List.mem_cons_self a (List.mem_singleton.mpr rfl),h1,h2.imp fun _ _ z=>z.to (ay_ fun c hc=>by rw [List.mem_singleton.mp hc]; exact List.mem_cons_self)⟩
  | .ow o =>
    have hn:=R.nd
    rw [cj_] at hn
    obtain ⟨x,e,h⟩:=R.ok _ List.mem_cons_self
    cases e
    refine ⟨(List.nodup_append.mp hn).1,fun a ha=>R.fr _ List.mem_cons_self a ha,OwOk.mono (.of (ay_ fun c hc => ?_)) o v (fun _ _=>rfl) h⟩
    rw [cj_]
    exact List.mem_append_left _ hc
theorem ez_ {P:Program} {w:World} {K:FG_} {mg:MG_} {base:Heap} {x:Str} {st:Stmt} {f:Addr} {fd:FuncData} {N ps:List Str} {k:Nat} {g:GC} (Fn:Fun K x x st f fd) (S:FnScope N ps (defScope st)) (hlen:∀ ds Q,g ds Q→ds.length=ps.length) (hN:ps.length≤N.length)
    (hbody:∀ (cdv:Value) (A:Around) (outer:List Env) (s:Shared) (H:Hp) (E:XK),Room k (A.deeper (PyProof.Rows.envOfC x (defScope st) s.heap.objs.size f cdv)) →
      ∃ G,XSs (cxOf CX0 P w K mg base N x (defScope st) f cdv A outer s H E).nox noEx (defBody st) G∧∀ ds Q,g ds Q→G (startX N ds) (retX Q)):FnOk P w K mg base CX0 (k + 1) f fd ps (spX g):=by
  refine Fn.ok S (fun vs H Q E h => ?_) (fun cdv A outer s H vs Q E hr h => ?_)
  · obtain ⟨Hs, ds, Qx, h1, h2, h3, _⟩ := h
    rw [h2.len]
    exact hlen ds Qx h3
  obtain ⟨Hs,ds,Qx,h1,h2,h3,h4⟩:=h
  obtain ⟨G,hG,hq⟩:=hbody cdv A outer s H E hr
  have hl:=hlen ds Qx h3
  refine ⟨_,hG ⟨H,Hs,[],h1,by simp,by simp⟩,startX N ds,[],retX Qx,⟨?_,?_⟩,hq ds Qx h3,⟨fun σ' H' ρ' _ E' q => ?_,fun v s σ' H' ρ' _ E' q => ?_,fun _ _ _ _ _ q=>q.elim,fun _ _ _ _ _ q=>q.elim⟩⟩
  · unfold startX L2.start
    simp only [List.length_append,List.length_map,List.length_replicate]
    rw [h2.len]
  · rw [List.append_nil]
    have hv:(Fm.vis ⟨H,Hs,[],h1,by simp,by simp⟩ H)=ext Hs H H:=rfl
    have R0:Rep ⟨H,Hs,[],h1,by simp,by simp⟩ [] H:=⟨List.nodup_nil,fun r hr=>by simp at hr,fun r hr=>by simp at hr,fun b o h _=>h,fun b hb=>by simp at hb⟩
    unfold startX L2.start
    rw [h2.len]
    refine ho_ R0 (h2.imp fun _ _ z=>z.to fun b o hb => ?_)
    cases q:H b with
    | none=>rw [h1 _ _ hb] at q; cases q
    | some u=>exact (bl_ q).trans hb
  · have R := E'.rep.add (d := .non) (v := .non) IsX.of_non
    obtain ⟨e1,e2⟩:=res_ok R
    exact h4 _ _ _ e1 e2 q
  · obtain ⟨e1, e2⟩ := res_ok E'.front
    exact h4 _ _ _ e1 e2 q
end Lf
namespace L2
open PySem
def tFrz' (t:TE):TE:=fun σ H Q => ∃ a kvs,H a=some (.dK kvs)∧∀ o,t σ (upd H a (.frz o (.dK kvs))) fun v H'=>H' a=some (.frz o (.dK kvs))∧Q v (upd H' a (.dK kvs))
theorem pe_frz' {X:Cx} {e:Expr} {t:TE} (h:PE X e t):PE X e (tFrz' t):=by
  intro pins s σ H Q I ⟨a,kvs,ha,q⟩
  exact pe_frz h pins s σ H Q I ⟨a,kvs,ha,fun o v z=>(by have:=I.base.frzs a o v z; rw [ha] at this; cases this),q⟩
end L2
namespace Lf
open PySem L2
section
variable {F:Fm} {P:List Rw} {H H':Hp} {a:Addr} {kvs:List (Key×V)} {o:Obj}
theorem nem {b a:Addr} {B:List Addr} (h:b∈B) (h':a∉B):b≠a:=fun z=>h' (by rw [← z]; exact h)
def Fm.fz (F:Fm) (a:Addr) (o:Obj) (kvs:List (Key×V)) (ha:a∉F.B):Fm where
  H0:=upd F.H0 a (.frz o (.dK kvs))
  Hs:=upd F.Hs a (.frz o (.dK kvs))
  B:=F.B
  sub:=fun b u h=>by
    by_cases e:b=a
    · subst e; rw [upd_same] at h ⊢; exact h
    · rw [al_ e] at h ⊢; exact F.sub _ _ h
  nb:=fun b hb=>by rw [al_ (nem hb ha)]; exact F.nb b hb
  ib:=fun b hb=>by rw [al_ (nem hb ha)]; exact F.ib b hb
theorem vis_B (h:F.vis H a=some (.dK kvs)):a∉F.B:=fun hB=>by
  obtain ⟨u,hu⟩:=F.ib a hB
  have:=(bl_ hu).symm.trans h
  rw [F.nb a hB] at this
  cases this
theorem vis_ne {F:Fm} {ha:a∉F.B} {b:Addr} {H H':Hp} (hb:b≠a) (e:H' b=H b):(F.fz a o kvs ha).vis H' b=F.vis H b:=by
  have e1:(F.fz a o kvs ha).H0 b=F.H0 b:=al_ hb
  have e2:(F.fz a o kvs ha).Hs b=F.Hs b:=al_ hb
  show ext _ _ _ b=ext _ _ _ b
  unfold ext
  rw [e1,e2,e]
theorem Rep.fzD (R:Rep F P H) (hv:F.vis H a=some (.dK kvs)) (hno:a∉owns P) (ha:a∉F.B):Rep (F.fz a o kvs ha) P (upd H a (.frz o (.dK kvs))):=by
  refine ⟨R.nd,fun r hr=>(R.ok r hr).mono (fun b u hb => ?_) fun b hb=>al_ fun z=>hno (z ▸ ds_ hr hb),fun r hr b hb => ?_,fun b u h1 h2 => ?_,fun b hb => ?_⟩
  · have hb' := hid_some.mp hb
    by_cases e:b=a
    · subst e
      rw [hv] at hb'
      cases hb'.2
      refine .inr ⟨o,kvs,.inl ⟨rfl,hid_some.mpr ⟨hb'.1,?_⟩⟩⟩
      exact (bl_ (show (F.fz b o kvs ha).H0 b=some (.frz o (.dK kvs)) from upd_same)).trans upd_same
    · exact .inl (hid_some.mpr ⟨hb'.1,by rw [vis_ne e (al_ e)]; exact hb'.2⟩)
  · have hba : b ≠ a := fun z => hno (z ▸ ds_ hr hb)
    have:=R.fr r hr b hb
    unfold FrOk at this ⊢
    split at this <;> simp_all [Fm.fz,al_]
  · by_cases e : b = a
    · subst e
      have:some (HO.frz o (.dK kvs))=some u:=upd_same.symm.trans h1
      rw [upd_same]; exact this
    · rw [al_ e]
      exact R.kp b u ((al_ e).symm.trans h1) h2
  · obtain ⟨u, hu⟩ := R.lv b hb
    exact ⟨u,by rw [al_ (nem hb ha)]; exact hu⟩
theorem Rep.thD {ha:a∉F.B} (R:Rep (F.fz a o kvs ha) P H) (hv:F.H0 a=none∨(F.H0 a=some (.dK kvs)∧F.Hs a=some (.dK kvs))):H a=some (.frz o (.dK kvs))∧Rep F P (upd H a (.dK kvs)):=by
  have hk:H a=some (.frz o (.dK kvs)):=R.kp a _ upd_same ha
  have hno:a∉owns P:=fun z=>by
    obtain ⟨r,hr,e⟩:=List.mem_flatMap.mp z
    have:=R.fr r hr a e
    rcases this.or with this | this
    · exact ha this
    · have h2 : some (HO.frz o (.dK kvs)) = none := upd_same.symm.trans this
      cases h2
  refine ⟨hk,R.nd,fun r hr=>(R.ok r hr).mono (fun b u hb => ?_) fun b hb=>al_ fun z=>hno (z ▸ ds_ hr hb),fun r hr b hb => ?_,fun b u h1 h2 => ?_,fun b hb => ?_⟩
  · have hb' := hid_some.mp hb
    by_cases e:b=a
    · subst e
      have hu:(F.fz b o kvs ha).vis H b=some (.frz o (.dK kvs)):=(bl_ (show (F.fz b o kvs ha).H0 b=some (.frz o (.dK kvs)) from upd_same)).trans upd_same
      rw [hu] at hb'
      cases hb'.2
      refine .inr ⟨o,kvs,.inr ⟨rfl,hid_some.mpr ⟨hb'.1,?_⟩⟩⟩
      rcases hv with q | ⟨q1,q2⟩
      · exact (bj_ q).trans (by rw [upd_same]; rfl)
      · exact (bl_ q1).trans q2
    · exact .inl (hid_some.mpr ⟨hb'.1,by rw [← vis_ne (F:=F) (o:=o) (kvs:=kvs) (ha:=ha) e (al_ (o:=.dK kvs) e).symm]; exact hb'.2⟩)
  · have hba : b ≠ a := fun z => hno (z ▸ ds_ hr hb)
    have:=R.fr r hr b hb
    unfold FrOk at this ⊢
    split at this <;> simp_all [Fm.fz,al_]
  · by_cases e : b = a
    · subst e
      rcases hv with q | ⟨q1,q2⟩
      · rw [q] at h1; cases h1
      · rw [q1] at h1; rw [upd_same]; exact h1
    · rw [al_ e]
      exact R.kp b u ((al_ e).trans h1) h2
  · obtain ⟨u, hu⟩ := R.lv b hb
    exact ⟨u,by rw [al_ (nem hb ha)]; exact hu⟩
end
def keyX:Key→Dx
  | .inl i=>.int i
  | .inr x=>.str x
theorem keyX_is {H:Hp} (k:Key):IsX H (keyX k) (kV k):=by cases k <;> simp only [keyX,kV,IsX]
def keysX (l:List (Key×Dx)):List Dx:=l.map fun p=>keyX p.1
theorem ir_ {l:List (Key×Dx)}:(keysX l).length=l.length:=List.length_map _
theorem itx_keys {F:Fm} {a:Addr} {o:Obj} {kvs:List (Key×V)} {l:List (Key×Dx)} {G:Hp} (h:∀ P H,Rep F P H→H a=some (.frz o (.dK kvs))) (hl:All2 (KvX G) l kvs):ItX F (Itd a o kvs) [] (keysX l) where
  go:=fun P H i d R hd=>⟨h _ _ R,by have:=(List.getElem?_eq_some_iff.mp hd).1; rw [ir_] at this; rw [hl.len]; exact this⟩
  stop:=fun P H i R hi=>⟨h _ _ R,by rw [ir_] at hi; rw [hl.len]; exact hi⟩
  yld:=fun P H i d x H' R hd q=>by
    obtain ⟨rfl,kv,q1,rfl⟩:=q
    obtain ⟨p,h1,h2⟩:=hl.get q1
    unfold keysX at hd
    rw [List.getElem?_map,h1] at hd
    cases hd
    show Rep F ((Sl.v (Sv.tr (keyX p.1)),some (kV kv.1)) :: ([] ++ P)) H'
    rw [h2.1]
    exact R.add (keyX_is _)
def tXe (t:XT):TE:=fun σ H Q => ∃ F,tX F t σ H Q
def tXce (t:XC):TT:=fun σ H Q => ∃ F,tXc F t σ H Q
theorem XE.ex {X:Cx} {e:Expr} {t:XT} (h:XE X noEx e t):PE X e (tXe t):=fun pins s σ H D I ⟨F,q⟩=>h F pins s σ H D I q
theorem XCs.ex {X:Cx} {e:List Expr} {t:XC} (h:XCs X noEx e t):PCs X e (tXce t):=fun pins s σ H D I ⟨F,q⟩=>h F pins s σ H D I q
def xForK (i:Nat) (gx:XG) (G:XS):XS:=fun ρ D=>match ρ[i]? with
  | some (.v s)=>(match s.d with | .dic l=>forX gx G D (keysX l) (ρ.set i (.v (.tr s.d))) | _=>False)
  | _=>False
def xCompK (i n:Nat) (outs:List Nat) (gx:XG) (tc:XC) (te:XT):XT:=fun ρ Q=>match ρ[i]? with
  | some (.v s)=>(match s.d with | .dic l=>l.length≤1000000∧compX n gx tc te (fun acc cs=>Q (.ol acc) (back outs cs (ρ.set i (.v (.tr s.d))))) (keysX l) (caps outs (ρ.set i (.v (.tr s.d)))) [] | _=>False)
  | _=>False
theorem slot_dict {F:Fm} {ρ:En} {σ:St} {fr:List Rw} {H:Hp} {i:Nat} {s:Sv} {l:List (Key×Dx)} (E:EOk F ρ σ fr H) (h:ρ[i]? = some (.v s)) (hs:s.d=.dic l) :
    ∃ a ws,σ[i]? = some (some (.ref a))∧EOk F (ρ.set i (.v (.tr s.d))) σ fr H∧Rd (hid (owns ((ρ.set i (.v (.tr s.d))).zip σ ++ fr)) (F.vis H)) a (.dK ws)∧All2 (KvX (hid (owns ((ρ.set i (.v (.tr s.d))).zip σ ++ fr)) (F.vis H))) l ws:=by
  obtain ⟨v,hv,hi,R⟩:=ef_ E h
  have R2:=R.frz
  have E2:=eok_put E.len hi hv R2
  obtain ⟨w,e,hx⟩:=R2.atT
  subst e
  rw [hs] at hx
  have hO:(owns ((ρ.set i (.v (.tr s.d))).zip σ ++ fr)).Perm (owns ((.v (.tr s.d),some w) :: ((ρ.zip σ).eraseIdx i ++ fr))):=((dw_ E.len hi hv).append_right fr).flatMap_right _
  rw [fi_ rfl] at hO
  have hx2:=hx.to (ay_ fun a ha=>hO.mem_iff.mp ha)
  obtain ⟨a,ws,rfl,h1,h2⟩:=hx2.dic_eq
  exact ⟨a,ws,hv,E2,h1,h2⟩
theorem vis_or {F:Fm} {P:List Rw} {H:Hp} {a:Addr} {kvs:List (Key×V)} (R:Rep F P H) (h:F.vis H a=some (.dK kvs)):F.H0 a=none∨(F.H0 a=some (.dK kvs)∧F.Hs a=some (.dK kvs)):=by
  cases q:F.H0 a with
  | none=>exact .inl rfl
  | some u =>
    have h1:F.Hs a=some (.dK kvs):=(bl_ q).symm.trans h
    have h2:=F.sub _ _ h1
    rw [q] at h2
    exact .inr ⟨h2,h1⟩
theorem frz_vis {F:Fm} {H:Hp} {a:Addr} {o:Obj} {kvs:List (Key×V)} (h:F.vis H a=some (.frz o (.dK kvs))):∀ P H,Rep F P H→H a=some (.frz o (.dK kvs)):=fun P H2 R=>by
  cases q:F.H0 a with
  | none =>
    have h1:=(bj_ q).symm.trans h
    rw [nf_some h1] at h1
    cases h1
  | some u =>
    have h1:F.Hs a=some (.frz o (.dK kvs)):=(bl_ q).symm.trans h
    exact R.kp a _ (F.sub _ _ h1) fun hB=>by rw [F.nb a hB] at h1; cases h1
section
variable {X:Cx} {Ex:ExT} {st:Stmt} {i n:Nat} {g:TG} {gx:XG} {G:XS} {outs:List Nat} {tc:XC} {te:XT}
theorem compK_x (hgx:GX n g gx) (hno:outs.Nodup) {F:Fm}:∀ σ H Q,tX F (xCompK i n outs gx tc te) σ H Q→tComp n outs (iKeys (tVar i)) g (tXce tc) (tXe te) σ H Q∨tFrz' (tComp n outs (iKeys (tVar i)) g (tXce tc) (tXe te)) σ H Q:=by
  rintro σ H Q ⟨ρ,fr,Qx,E,q,k⟩
  unfold xCompK at q
  split at q
  · rename_i s hs
    split at q
    · rename_i l hl
      obtain ⟨a,ws,hv,E2,hr,hk⟩:=slot_dict E hs hl
      rw [hl] at E2 hr hk
      rw [← hl] at E2
      have q':(keysX l).length≤1000000∧_:=⟨by rw [ir_]; exact q.1,q.2⟩
      rcases hr with hr | ⟨o,hr⟩
      · have hr' := hid_some.mp hr
        have hB:=vis_B hr'.2
        have hor:=vis_or E2.rep hr'.2
        refine .inr ⟨a,ws,E2.rep.vis _ _ hr'.2,fun o=>⟨.ref a,hv,a,o,ws,rfl,upd_same,?_⟩⟩
        have E3:EOk (F.fz a o ws hB) (ρ.set i (.v (.tr s.d))) σ ([] ++ fr) (upd H a (.frz o (.dK ws))):=⟨E2.len,E2.rep.fzD hr'.2 (by rw [hl]; exact hr'.1) hB⟩
        refine iy_ (F:=F.fz a o ws hB) (Q:=fun v H'=>H' a=some (.frz o (.dK ws))∧Q v (upd H' a (.dK ws))) (tcT:=tXce tc) (teT:=tXe te) hgx hno (fun _ _ _ z=>⟨_,z⟩) (fun _ _ _ z=>⟨_,z⟩) (fun v s H' ρ' h2 h3 => ?_) E3 (itx_keys (fun P H R=>R.kp a _ upd_same hB) hk) q'
        obtain ⟨e1,e2⟩:=h2.rep.thD hor
        exact ⟨e1,k v s _ ρ' ⟨h2.len,e2⟩ h3⟩
      · have hr' := hid_some.mp hr
        refine .inl ⟨.ref a,hv,a,o,ws,rfl,E2.rep.vis _ _ hr'.2,?_⟩
        exact iy_ (F:=F) (Q:=Q) (tcT:=tXce tc) (teT:=tXe te) hgx hno (fun _ _ _ z=>⟨_,z⟩) (fun _ _ _ z=>⟨_,z⟩) k (row:=[]) E2 (itx_keys (frz_vis hr'.2) hk) q'
    · exact q.elim
  · exact q.elim
theorem xe_compK {dsc scope:Scope} {tgs N' N:List Str} {x:Str} {px pos:Pos} {tg elt:Expr} {ifs:List Expr} (S:CompScope dsc scope N tgs outs N') (hv:PE X (.Name x px) (tVar i)) (hg:∀ cl C s H ex,PG (cxComp X N' scope cl C s H ex) tg g) (hgx:GX tgs.length g gx) (hgt:Tgt tgs.length g)
    (hcs:∀ cl C s H ex,XCs (cxComp X N' scope cl C s H ex) noEx ifs tc) (he:∀ cl C s H ex,XE (cxComp X N' scope cl C s H ex) noEx elt te) (hno:outs.Nodup:=by decide) (hN0:X.N=N:=by rfl) (hsc:X.env.scope=dsc:=by rfl) (hc:X.calm=true:=by rfl) (hs:∀ y,foldedSetIterable (.Name x px) X.env y=pure y:=by intro _; rfl) :
    XE X Ex (.ListComp elt [⟨tg,.Name x px,ifs,0⟩] scope pos) (xCompK i tgs.length outs gx tc te):=fun F =>
  (PE.or (pe_comp S (pi_keys hv) hg hgt (fun a b c d e=>(hcs a b c d e).ex) (fun a b c d e=>(he a b c d e).ex) hN0 hsc hc hs) (pe_frz' (pe_comp S (pi_keys hv) hg hgt (fun a b c d e=>(hcs a b c d e).ex) (fun a b c d e=>(he a b c d e).ex) hN0 hsc hc hs))).weak (compK_x hgx hno)
end
def xChain (g g':G2) (ta tb tc:XT):XT:=fun ρ Q=>ta ρ fun a ρ1=>tb ρ1 fun b ρ2=>g a.d b.d fun s=>match s with
  | .tr (.bl k)=>if k=true then tc ρ2 fun c ρ3=>g' b.d c.d fun s'=>Q s' ρ3 else Q (.tr (.bl false)) ρ2
  | _=>False
theorem tChain_x {F:Fm} {r r':R2} {g g':G2} {ta tb tc:XT} (hx:OpX r g) (hx':OpX r' g'):∀ σ H Q,tX F (xChain g g' ta tb tc) σ H Q→tChain r r' (tX F ta) (tX F tb) (tX F tc) σ H Q:=by
  rintro σ H Q ⟨ρ,fr,Qx,E,t,k⟩
  refine ⟨ρ,fr,_,E,t,fun v s H' ρ' E' t'=>⟨ρ',_,_,E',t',fun w s2 H2 ρ2 E2 t2 => ?_⟩⟩
  obtain ⟨R,h1,h2⟩:=E2.two
  have E2b:EOk F ρ2 σ ((.v s2,some w) :: fr) H2:=⟨E2.len,((E2.rep.perm (List.Perm.append_left _ (.swap _ _ _))).perm mid).tail.perm (.refl _)⟩
  have E2c:EOk F ρ2 σ ((.v (.tr s2.d),some w) :: fr) H2:=EOk.back E2.len (E2b.front.frz)
  obtain ⟨Rb,hb⟩:=E2c.one
  have h1b:IsX (hid (owns (ρ2.zip σ ++ (.v (.tr s2.d),some w) :: fr)) (F.vis H2)) s.d v:=h1.to (ay_ fun c hc=>by
    have:(owns ((.v (.tr s2.d),some w) :: (ρ2.zip σ ++ fr))).Perm (owns (ρ2.zip σ ++ (.v (.tr s2.d),some w) :: fr)):=mid.symm.flatMap_right _
    have:=this.mem_iff.mpr hc
    rw [fi_ rfl] at this
    exact this)
  have h2b:IsX (hid (owns (ρ2.zip σ ++ (.v (.tr s2.d),some w) :: fr)) (F.vis H2)) s2.d w:=hb.to (ay_ fun c hc=>by
    have:(owns ((.v (.tr s2.d),some w) :: (ρ2.zip σ ++ fr))).Perm (owns (ρ2.zip σ ++ (.v (.tr s2.d),some w) :: fr)):=mid.symm.flatMap_right _
    have:=this.mem_iff.mpr hc
    rw [fi_ rfl] at this
    exact this)
  refine hx F (ρ2.zip σ ++ (.v (.tr s2.d),some w) :: fr) H2 s.d s2.d v w _ _ E2c.rep h1b h2b t2 fun z s3 H3 R3 q => ?_
  split at q
  · rename_i kb
    obtain ⟨z',e,hz⟩:=R3.atT
    cases e
    cases hz.bl_eq
    refine ⟨kb,rfl,?_⟩
    have E3:EOk F ρ2 σ ((.v (.tr s2.d),some w) :: fr) H3:=⟨E2.len,R3.tail⟩
    cases kb with
    | true =>
      refine ⟨ρ2,_,_,E3,q,fun u s4 H4 ρ4 E4 q4 => ?_⟩
      obtain ⟨R5,h5,h6⟩:=E4.two
      exact hx' F _ H4 s2.d s4.d w u Q (fun z=>Qx z ρ4) R5 h5 h6 q4 fun v' s' H' R' q=>k v' s' H' ρ4 (EOk.back E4.len R') q
    | false=>exact k _ _ H3 ρ2 (EOk.back E2.len (E3.drop.rep.add (IsX.of_bl _))) q
  · exact q.elim
section
variable {X:Cx} {Ex:ExT} {a b c e:Expr} {pos:Pos} {r r':R2} {g g':G2} {ta tb tc te:XT} {op op':CmpOp}
theorem xe_chain (ho:OpR X (compareOp op) r) (hx:OpX r g) (ho':OpR X (compareOp op') r') (hx':OpX r' g') (ha:XE X Ex a ta) (hb:XE X Ex b tb) (hc:XE X Ex c tc) (hm:lastMarks [op,op'] [b,c]=false:=by with_unfolding_all rfl):XE X Ex (.Compare a [op,op'] [b,c] pos) (xChain g g' ta tb tc):=fun F=>(pe_chain ho ho' (ha F) (hb F) (hc F) hm).weak (tChain_x hx hx')
theorem xt_chain (ho:OpR X (compareOp op) r) (hx:OpX r g) (ho':OpR X (compareOp op') r') (hx':OpX r' g') (ha:XE X Ex a ta) (hb:XE X Ex b tb) (hc:XE X Ex c tc) (hm:lastMarks [op,op'] [b,c]=false:=by with_unfolding_all rfl):XTe X Ex (.Compare a [op,op'] [b,c] pos) (xB (xChain g g' ta tb tc)):=fun F=>(pt_chain ho ho' (ha F) (hb F) (hc F) hm).weak (tTest_x (tChain_x hx hx'))
end
abbrev XO:=En→(Option Int→En→Prop)→Prop
def tXo (F:Fm) (t:XO):TO:=fun σ H Q => ∃ ρ fr Qx,EOk F ρ σ fr H∧t ρ Qx∧∀ b H' ρ',EOk F ρ' σ fr H'→Qx b ρ'→Q b H'
def XOp (X:Cx) (Ex:ExT) (e:Option Expr) (t:XO):Prop := ∀ F,[OkF X Ex F]→PO X e (tXo F t)
def xoN:XO:=fun ρ Q=>Q none ρ
def xoS (t:XT):XO:=fun ρ Q=>t ρ fun s ρ'=>match s.d with
  | .int i=>Q (some i) ρ'
  | _=>False
theorem xo_none {X:Cx} {Ex:ExT}:XOp X Ex none xoN:=fun F _ pins s σ H Q I h=>by
  obtain ⟨ρ,fr,Qx,E,t,k⟩:=h
  exact po_none pins s σ H Q I (k none H ρ E t)
theorem fc_ {X:Cx} {Ex:ExT} {e:Expr} {t:XT} (h:XE X Ex e t):XOp X Ex (some e) (xoS t):=fun F _ pins s σ H Q I hq=>by
  refine po_some (h F) pins s σ H Q I ?_
  obtain ⟨ρ,fr,Qx,E,t,k⟩:=hq
  refine ⟨ρ,fr,_,E,t,fun v s H' ρ' E' q => ?_⟩
  split at q
  · rename_i i hi
    obtain ⟨R,hx⟩:=E'.one
    rw [hi] at hx
    cases hx.int_eq
    exact ⟨i,rfl,k (some i) H' ρ' E'.drop q⟩
  · exact q.elim
def cutX {α:Type} (xs:List α) (lo hi:Option Int):List α:=(xs.drop (HT.sIx xs.length 0 lo)).take (HT.sIx xs.length xs.length hi - HT.sIx xs.length 0 lo)
def slX (a:Dx) (lo hi:Option Int) (Q:Sv→Prop):Prop:=match a with
  | .lst l=>Q (.ol (cutX l lo hi))
  | .str z=>z.length≤1000000∧Q (.tr (.str (Txt.slice z lo hi)))
  | _=>False
def xSl (t:XT) (lo hi:XO):XT:=fun ρ Q=>t ρ fun a ρ1=>lo ρ1 fun l ρ2=>hi ρ2 fun h ρ3=>slX a.d l h fun s=>Q s ρ3
theorem fm_ {X:Cx} {Ex:ExT} {e:Expr} {lo hi:Option Expr} {p2 pos:Pos} {t:XT} {tl th:XO} (K:FG_) (he:XE X Ex e t) (hl:XOp X Ex lo tl) (hh:XOp X Ex hi th) (h:X.K=K:=by rfl):XE X Ex (.Subscript e (.Slice lo hi none p2) pos) (xSl t tl th):=fun F =>
  (hp_ (SlR.or (sl_listK K h) sl_str) (he F) (hl F) (hh F)).weak fun σ H Q=>by
    rintro ⟨ρ,fr,Qx,E,t,k⟩
    refine ⟨ρ,fr,_,E,t,fun v s H' ρ' E' q=>⟨ρ',_,_,E',q,fun l H2 ρ2 E2 q2=>⟨ρ2,_,_,E2,q2,fun u H3 ρ3 E3 q3 => ?_⟩⟩⟩
    obtain ⟨R,hx⟩:=E3.one
    unfold slX at q3
    split at q3
    · rename_i m hm
      rw [hm] at hx
      obtain ⟨a,vs,rfl,h1,h2⟩:=hx.lst_eq
      refine .inl ⟨a,vs,rfl,SqL.of (R.hv _ _ h1),fun p hp=>k _ _ _ ρ3 (EOk.back E3.len (R.newL hp ?_)) q3⟩
      unfold cutV cutX
      rw [h2.len]
      exact (h2.drop _).take _
    · rename_i z hz
      rw [hz] at hx
      cases hx.str_eq
      exact .inr ⟨z,rfl,by have:=line1; omega,k _ _ H3 ρ3 (EOk.back E3.len (R.add (IsX.of_str _))) q3.2⟩
    · exact q3.elim
def xRevL (t:XT):XT:=fun ρ Q=>t ρ fun s ρ'=>match s.d with
  | .lst l=>Q (.ol l.reverse) ρ'
  | _=>False
def allX:GC
  | [.lst l],Q=>(∃ bs:List Bool,l=bs.map Dx.bl∧Q (.tr (.bl (bs.all id))))
  | _,_=>False
theorem bls_are {G:Hp}:∀ {bs:List Bool} {vs:List V},All2 (IsX G) (bs.map Dx.bl) vs→vs=bs.map V.bl
  | [],_,h=>h
  | b :: bs,_,⟨v,vr,e,h1,h2⟩=>by rw [e,h1.bl_eq,bls_are h2]; rfl
theorem ints_are {G:Hp}:∀ {bs:List Int} {vs:List V},All2 (IsX G) (bs.map Dx.int) vs→vs=bs.map V.int
  | [],_,h=>h
  | b :: bs,_,⟨v,vr,e,h1,h2⟩=>by rw [e,h1.int_eq,ints_are h2]; rfl
theorem cx_all {K:FG_}:CallX (rAllL K) allX:=by
  intro F P H ds xs Q Qx R hs g k
  unfold allX at g
  split at g
  · obtain ⟨bs, rfl, g⟩ := g
    obtain ⟨x,rfl,hx⟩:=dc_ hs
    obtain ⟨a,vs,rfl,h1,h2⟩:=hx.lst_eq
    have:=bls_are h2
    subst this
    exact ⟨a,bs,rfl,SqL.of (R.hv _ _ h1),k _ _ H (R.add (IsX.of_bl _)) g⟩
  · exact g.elim
theorem gq_ {X:Cx} (K:FG_) (hc:X.calm=true) (h:X.K=K:=by rfl):CallR X (.builtin "all") (rAllL K):=by subst h; exact call_allL hc
def max2X:GC
  | [.int i,.int j],Q=>Q (.tr (.int (if j > i then j else i)))
  | _,_=>False
def min2X:GC
  | [.int i,.int j],Q=>Q (.tr (.int (if j < i then j else i)))
  | _,_=>False
theorem cx_max2:CallX (fun xs H Q => ∃ i j,xs=[.int i,.int j]∧Q (.int (if j > i then j else i)) H) max2X:=by
  intro F P H ds xs Q Qx R hs g k
  unfold max2X at g
  split at g
  · obtain ⟨x, y, rfl, hx, hy⟩ := all2_2 hs
    cases hx.int_eq; cases hy.int_eq
    exact ⟨_,_,rfl,k _ _ H (R.add (IsX.of_int _)) g⟩
  · exact g.elim
theorem cx_min2:CallX (fun xs H Q => ∃ i j,xs=[.int i,.int j]∧Q (.int (if j < i then j else i)) H) min2X:=by
  intro F P H ds xs Q Qx R hs g k
  unfold min2X at g
  split at g
  · obtain ⟨x, y, rfl, hx, hy⟩ := all2_2 hs
    cases hx.int_eq; cases hy.int_eq
    exact ⟨_,_,rfl,k _ _ H (R.add (IsX.of_int _)) g⟩
  · exact g.elim
def maxLX:GC
  | [.lst l],Q=>(∃ ns:List Int,l=ns.map Dx.int∧ns≠[]∧∀ M,M∈ns→(∀ a∈ns,a≤M)→Q (.tr (.int M)))
  | _,_=>False
theorem cx_maxL {K:FG_}:CallX (rMaxL K) maxLX:=by
  intro F P H ds xs Q Qx R hs g k
  unfold maxLX at g
  split at g
  · obtain ⟨bs, rfl, g1, g⟩ := g
    obtain ⟨x,rfl,hx⟩:=dc_ hs
    obtain ⟨a,vs,rfl,h1,h2⟩:=hx.lst_eq
    have:=ints_are h2
    subst this
    exact ⟨a,bs,rfl,SqL.of (R.hv _ _ h1),g1,fun M h3 h4=>k _ _ H (R.add (IsX.of_int _)) (g M h3 h4)⟩
  · exact g.elim
theorem ja_ {X:Cx} (K:FG_) (hc:X.calm=true) (h:X.K=K:=by rfl):CallR X (.builtin "max") (rMaxL K):=by subst h; exact call_maxR hc
theorem setC_x {F:Fm} {ti:XI} {n i:Nat} {g:TG} {gx:XG} {outs:List Nat} {tc:XC} {te:XT} (hgx:GX n g gx) (hno:outs.Nodup):∀ D σ H,tXS F (xSet i (xComp n outs ti gx tc te)) D σ H→tAsg (tComp n outs (tXi F ti) g (tXc F tc) (tX F te)) (gName i) D σ H:=by
  rintro D σ H ⟨ρ,fr,d,E,q,k⟩
  exact tComp_x hgx hno σ H _ ⟨ρ,fr,_,E,q,fun v s H' ρ' E' q'=>k.nx _ H' _ List.length_set (iw_ E') q'⟩
def startB (N:List Str) (l:List Dx) (ds:List Dx):En:=.bw l :: (ds.map (fun d=>.v (.tr d)) ++ List.replicate (N.length - (ds.length + 1)) .un)
def lentEnd (Q:Dx→List Dx→Prop) (d:Dx) (ρ:En):Prop:=match (ρ[0]? : Option Sl) with
  | some (Sl.bw l)=>Q d l
  | _=>False
abbrev retB (Q:Dx→List Dx→Prop):XD:=⟨fun ρ=>lentEnd Q .non ρ,fun s ρ=>lentEnd Q s.d ρ,fun _=>False,fun _=>False⟩
theorem fn_b {P:Program} {w:World} {K:FG_} {mg:MG_} {base:Heap} {x:Str} {st:Stmt} {f:Addr} {fd:FuncData} {N ps:List Str} {k:Nat} {g:GB} (Fn:Fun K x x st f fd) (S:FnScope N ps (defScope st)) (hlen:∀ l ds Q,g l ds Q→ds.length + 1=ps.length) (hN:ps.length≤N.length)
    (hbody:∀ (cdv:Value) (A:Around) (outer:List Env) (s:Shared) (H:Hp) (E:XK),Room k (A.deeper (PyProof.Rows.envOfC x (defScope st) s.heap.objs.size f cdv)) →
      ∃ G,XSs (cxOf CX0 P w K mg base N x (defScope st) f cdv A outer s H E).nox noEx (defBody st) G∧∀ l ds Q,g l ds Q→G (startB N l ds) (retB Q)):FnOk P w K mg base CX0 (k + 1) f fd ps (spB g):=by
  refine Fn.ok S (fun vs H Q E h => ?_) (fun cdv A outer s H vs Q E hr h => ?_)
  · obtain ⟨p, ws, l, vr, Hs, ds, Qx, rfl, _, _, _, _, h2, h3, _⟩ := h
    rw [List.length_cons,h2.len]
    exact hlen l ds Qx h3
  obtain ⟨p,ws,l,vr,Hs,ds,Qx,rfl,hp,h1,hsp,hl,h2,h3,h4⟩:=h
  obtain ⟨G,hG,hq⟩:=hbody cdv A outer s H E hr
  have hlen':=hlen l ds Qx h3
  have nb:∀ b∈[p],Hs b=none:=fun b hb=>by rw [List.mem_singleton.mp hb]; exact hsp
  have ib:∀ b∈[p],∃ o,H b=some o:=fun b hb=>by rw [List.mem_singleton.mp hb]; exact ⟨_,hp⟩
  have fin:∀ {d:Dx} {v:V} {σ':St} {H':Hp} {ρ':En},EOk ⟨H,Hs,[p],h1,nb,ib⟩ ρ' σ' ((.v (.tr d),some v) :: []) H'→lentEnd Qx d ρ'→Q v H':=fun {d v σ' H' ρ'} E' q=>by
    unfold lentEnd at q
    split at q
    · rename_i l' h0
      obtain ⟨R,hx⟩:=E'.one
      obtain ⟨y,hy,hi,R2⟩:=ef_ ⟨E'.len,R⟩ h0
      obtain ⟨a,ws',rfl,h5,h6⟩:=R2.atB
      have ha:a=p:=List.mem_singleton.mp (R2.fr _ List.mem_cons_self a (List.mem_singleton.mpr rfl))
      subst ha
      refine h4 d v l' ws' H' (fun b o hb => ?_) h5 (h6.imp fun _ _ z=>z.to (ay_ fun c hc=>by rw [List.mem_singleton.mp hc]; exact List.mem_cons_self)) (hx.to hid_sub) q
      have hb':b≠a:=fun z=>by rw [z] at hb; unfold hide at hb; rw [if_pos rfl] at hb; cases hb
      rw [gc_ hb'] at hb ⊢
      exact R.kp b o hb fun z=>hb' (List.mem_singleton.mp z)
    · exact q.elim
  refine ⟨_,hG ⟨H,Hs,[p],h1,nb,ib⟩,startB N l ds,[],retB Qx,⟨?_,?_⟩,hq l ds Qx h3,⟨fun σ' H' ρ' _ E' q=>fin (EOk.back E'.len (E'.rep.add (d:=.non) (v:=.non) IsX.of_non)) q,fun v s σ' H' ρ' _ E' q=>fin (EOk.back E'.len E'.front.frz) q,fun _ _ _ _ _ q=>q.elim,fun _ _ _ _ _ q=>q.elim⟩⟩
  · unfold startB L2.start
    simp only [List.length_append,List.length_map,List.length_replicate,List.length_cons]
    rw [h2.len]
    omega
  · have R0 : Rep ⟨H, Hs, [p], h1, nb, ib⟩ [] H := ⟨List.nodup_nil, fun r hr => by simp at hr, fun r hr => by simp at hr, fun b o h _ => h, ib⟩
    have hvis:Same Hs (Fm.vis ⟨H,Hs,[p],h1,nb,ib⟩ H):=fun b o hb=>(bl_ (h1 _ _ hb)).trans hb
    have R1:=ho_ (m:=N.length - (ds.length + 1)) R0 (h2.imp fun _ _ z=>z.to hvis)
    have hown:owns ((ds.map (fun d=>Sl.v (.tr d)) ++ List.replicate (N.length - (ds.length + 1)) Sl.un).zip (vr.map some ++ List.replicate (N.length - (ds.length + 1)) none))=[]:=by
      unfold owns
      refine List.flatMap_eq_nil_iff.mpr fun r hr => ?_
      obtain ⟨a,b⟩:=r
      rcases List.mem_append.mp (List.of_mem_zip hr).1 with h | h
      · obtain ⟨d,_,rfl⟩:=List.mem_map.mp h; rfl
      · rw [(List.mem_replicate.mp h).2]; rfl
    rw [List.append_nil]
    have e:(startB N l ds).zip (L2.start N (.ref p :: vr))=(.bw l,some (.ref p)) :: (ds.map (fun d=>Sl.v (.tr d)) ++ List.replicate (N.length - (ds.length + 1)) Sl.un).zip (vr.map some ++ List.replicate (N.length - (ds.length + 1)) none):=by
      unfold startB L2.start
      rw [List.map_cons,List.cons_append,List.zip_cons_cons,List.length_cons,h2.len]
    rw [e]
    refine ⟨by rw [as_ (a:=p) rfl,hown]; simp,fun r hr => ?_,fun r hr a ha => ?_,R1.kp,R1.lv⟩
    · rw [as_ (a := p) rfl, hown]
      rcases List.mem_cons.mp hr with rfl | hr
      · refine ⟨p, ws, rfl, hp, hl.imp fun _ _ z => z.to fun b o hb => hid_some.mpr ⟨fun z => ?_, hvis _ _ hb⟩⟩
        rw [List.mem_singleton.mp z,hsp] at hb; cases hb
      · refine (R1.ok r hr).mono (.of fun b o hb => ?_) fun _ _ => rfl
        have hb':=hid_some.mp hb
        refine hid_some.mpr ⟨fun z => ?_,hb'.2⟩
        have h9:Hs p=some o:=(bl_ hp).symm.trans (List.mem_singleton.mp z ▸ hb'.2)
        rw [hsp] at h9; cases h9
    · rcases List.mem_cons.mp hr with rfl | hr
      · exact ha
      · exact R1.fr r hr a ha
theorem Cal.mono {P:Program} {w:World} {K:FG_} {mg:MG_} {base:Heap} {i j:Nat} {x:Str} {ps:List Str} {sp:Sp} (C:Cal P w K mg base i x ps sp) (h:i≤j):Cal P w K mg base j x ps sp:=by
  obtain ⟨f,fd,G,b,k,m⟩:=C
  exact ⟨f,fd,G.mono h,b,k,m⟩
section
variable {α:Type} {a b c d:α}
theorem at10:atI [a] 0=some a:=rfl
theorem at20:atI [a,b] 0=some a:=rfl
theorem at21:atI [a,b] 1=some b:=rfl
theorem at30:atI [a,b,c] 0=some a:=rfl
theorem at31:atI [a,b,c] 1=some b:=rfl
theorem at32:atI [a,b,c] 2=some c:=rfl
theorem at40:atI [a,b,c,d] 0=some a:=rfl
theorem at41:atI [a,b,c,d] 1=some b:=rfl
theorem at42:atI [a,b,c,d] 2=some c:=rfl
theorem at43:atI [a,b,c,d] 3=some d:=rfl
theorem ix30:ixN 3 0=some 0:=rfl
theorem ix31:ixN 3 1=some 1:=rfl
theorem ix32:ixN 3 2=some 2:=rfl
end
theorem cw_ {l:List Dx}:lent (.bw l)=some (l,.bw):=rfl
theorem cv_ {l:List Dx}:lent (.v (.ol l))=some (l,fun l'=>.v (.ol l')):=rfl
theorem len3 {α:Type} {a b c:α}:[a,b,c].length=3:=rfl
theorem atI_of {α:Type} {l:List α} {i:Int} (h0:0≤i) (h1:i < l.length):∃ x,atI l i=some x∧l[i.toNat]? = some x:=by
  have hk:i.toNat < l.length:=by omega
  refine ⟨l[i.toNat],?_,List.getElem?_eq_getElem hk⟩
  unfold atI
  have:ixN l.length i=some i.toNat:=by
    unfold ixN
    simp only [h0]
    split <;> simp_all <;> omega
  rw [this]
  exact List.getElem?_eq_getElem hk
abbrev GP:=List Dx→Dx→(Dx→Prop)→Prop
def OpL (r:R2) (g:GP):Prop := ∀ (G:Hp) (H:Hp) (p:Addr) (ws:List V) (l:List Dx) (b:Dx) (y:V) (Q:VK) (Qx:Dx→Prop),Same G H→H p=some (.lst ws)→All2 (IsX G) l ws→IsX G b y→g l b Qx→(∀ v d,IsX G d v→Qx d→Q v H)→r (.ref p) y H Q
def xPkL (g:GP) (i:Nat) (t:XT):XT:=fun ρ Q=>((ρ[i]?).bind lent).isSome=true∧t ρ fun k ρ'=>match (ρ'[i]?).bind lent with
  | some (l,_)=>g l k.d fun d=>Q (.tr d) ρ'
  | none=>False
section
variable {X:Cx} {Ex:ExT} {F:Fm} {i:Nat} {t:XT} {r:R2} {g:GP} {x:Str} {a b e:Expr} {p pos:Pos}
theorem pkL_x (hx:OpL r g):∀ σ H Q,tX F (xPkL g i t) σ H Q→tOp r (tVar i) (tX F t) σ H Q:=by
  rintro σ H Q ⟨ρ,fr,Qx,E,⟨h0,q⟩,k⟩
  obtain ⟨⟨l,f⟩,h1⟩:=Option.isSome_iff_exists.mp h0
  obtain ⟨p,ws,hv,_⟩:=gl_ E h1
  refine ⟨.ref p,hv,ρ,fr,_,E,q,fun w s H' ρ' E' q' => ?_⟩
  split at q'
  · rename_i l' f' hb
    obtain ⟨R,hs⟩:=E'.one
    obtain ⟨p',ws',hv',hp,hl,_⟩:=gl_ E'.drop hb
    rw [hv] at hv'; cases hv'
    exact hx _ H' p ws' l' s.d w Q _ R.hv hp hl hs q' fun v d hd qd=>k v (.tr d) H' ρ' (EOk.back E'.len (R.add hd)) qd
  · exact q'.elim
def ixP:GP:=fun l k Q=>match k with
  | .int j=>(match atI l j with | some d=>Q d | none=>False)
  | _=>False
theorem ol_ix {K:FG_}:OpL (rIxL K) ixP:=by
  intro G H p ws l b y Q Qx hs hp hl hb g k
  unfold ixP at g
  split at g
  · cases hb.int_eq
    split at g
    · rename_i d hd
      obtain ⟨v,h1,h2⟩:=all2_atI hl hd
      exact ⟨_,_,_,_,rfl,rfl,SqL.of hp,h1,k v d h2 g⟩
    · exact g.elim
  · exact g.elim
theorem gv_ (K:FG_) (hv:PE X (.Name x p) (tVar i)) (hb:XE X Ex b t) (hs:PlainIx b) (h:X.K=K:=by rfl):XE X Ex (.Subscript (.Name x p) b pos) (xPkL ixP i t):=fun F=>by
  subst h
  exact (fh_ dd_ hv (hb F) hs).weak (pkL_x ol_ix)
end
theorem XE.at {X:Cx} {Ex:ExT} {e:Expr} {t:XT} (F:Fm) [OkF X Ex F] (h:XE X Ex e t):PE X e (tX F t):=h F
theorem XIt.at {X:Cx} {Ex:ExT} {tg e:Expr} {t:XI} (F:Fm) [OkF X Ex F] (h:XIt X Ex tg e t):PI X tg e (tXi F t):=h F
theorem XCs.at {X:Cx} {Ex:ExT} {e:List Expr} {t:XC} (F:Fm) [OkF X Ex F] (h:XCs X Ex e t):PCs X e (tXc F t):=h F
section
variable {α:Type} {n:Nat} {gx:XG} {tc:XC} {te:XT} {Q:List Dx→List Sl→Prop}
abbrev stepX (n:Nat) (gx:XG) (tc:XC) (te:XT) (P:List Dx→List Sl→Prop) (d:Dx) (cs:List Sl) (acc:List Dx):Prop:=gx d (List.replicate n .un ++ cs) fun ρ1=>tc ρ1 fun b ρ2=>if b=true then te ρ2 fun s ρ3=>P (acc ++ [s.d]) (ρ3.drop n) else P acc (ρ2.drop n)
theorem be_ {cs:List Sl} (φ ψ:α→Dx):∀ {as:List α} {acc:List Dx},(∀ a∈as,∀ (acc:List Dx) (P:List Dx→List Sl→Prop),P (acc ++ [ψ a]) cs→stepX n gx tc te P (φ a) cs acc) →
    Q (acc ++ as.map ψ) cs→compX n gx tc te Q (as.map φ) cs acc
  | [],acc,_,q=>by simpa [compX] using q
  | a :: as, acc, h, q => by
    show gx (φ a) _ _
    exact h a List.mem_cons_self acc (fun acc cs=>compX n gx tc te Q (as.map φ) cs acc) (be_ φ ψ (fun a' ha=>h a' (List.mem_cons_of_mem _ ha)) (by simpa [List.append_assoc] using q))
theorem el_ (φ:α→Dx) (I:List α→List Dx→List Sl→Prop) (hd:∀ acc cs,I [] acc cs→Q acc cs) (hs:∀ a as acc cs (P:List Dx→List Sl→Prop),I (a :: as) acc cs→(∀ acc' cs',I as acc' cs'→P acc' cs')→stepX n gx tc te P (φ a) cs acc) :
    ∀ {as:List α} {acc:List Dx} {cs:List Sl},I as acc cs→compX n gx tc te Q (as.map φ) cs acc
  | [],acc,cs,h=>hd acc cs h
  | a :: as, acc, cs, h => by
    show gx (φ a) _ _
    exact hs a as acc cs (fun acc cs=>compX n gx tc te Q (as.map φ) cs acc) h fun acc' cs' h'=>el_ φ I hd hs h'
theorem bc_ {gx:XG} {G:XS} {D:XD} (φ:α→Dx) (Pv:List α→En→Prop) (hd:∀ ρ,Pv [] ρ→D.nx ρ) (hs:∀ d ds ρ (K:En→Prop),Pv (d :: ds) ρ→(∀ ρ',Pv ds ρ'→K ρ')→gx (φ d) ρ fun ρ1=>G ρ1 { D with nx:=K,ct:=K,bk:=D.nx }) :
    ∀ {ds:List α} {ρ:En},Pv ds ρ→forX gx G D (ds.map φ) ρ
  | [],ρ,h=>hd ρ h
  | d :: ds,ρ,h=>hs d ds ρ (forX gx G D (ds.map φ)) h fun ρ' h'=>bc_ φ Pv hd hs h'
end
section
variable {X:Cx} {Ex:ExT} {F:Fm} {e:Expr} {kws:List Keyword} {x:Str} {p pos:Pos} {u:XA} {t:XT}
def xMaxD (dd:Int) (u:XA):XT:=fun ρ Q=>u ρ fun ss ρ'=>match ss.map Sv.d with
  | [.lst l] => ∃ ns:List Int,l=ns.map Dx.int∧(ns=[]→Q (.tr (.int dd)) ρ')∧∀ M,M∈ns→(∀ a∈ns,a≤M)→Q (.tr (.int M)) ρ'
  | _=>False
theorem xe_maxD {dd:Int} (hc:X.calm=true) (hg:Gl X "max") (hm:X.mg "max" = none) (ha:XAs X Ex [e] u) (hkw:PK X kws (tCons (tC (.int dd)) tNil)) (hks:(backToKw pos (keywordEach kws X.env)).filterMap (·.1)=(["default"]:List Str):=by rfl)
    (he:backTo pos (starEach [e] X.env)=(false,eval e X.env) :: backTo pos (starEach [] X.env):=by rfl) (hpl:(backTo pos (starEach [e] X.env)).any (·.1)=false:=by rfl)
    (hall:(backToKw pos (keywordEach kws X.env)).all (·.1.isSome)=true:=by rfl) (hkn:(backToKw pos (keywordEach kws X.env)).any (·.1.isNone)=false:=by rfl):XE X Ex (.Call (.Name "max" p) [e] kws pos) (xMaxD dd u):=fun F=>by
  refine (pe_callBK (call_maxD hc) hg hm bt_max (ha F) hkw hks (by decide) (by decide) he hpl hall hkn).weak fun σ H Q => ?_
  rintro ⟨ρ,fr,Qx,E,t,k⟩
  refine ⟨ρ,fr,_,E,t,fun vs ss H2 ρ2 hl E2 q2 => ?_⟩
  obtain ⟨R,hs⟩:=E2.many hl
  generalize hds:ss.map Sv.d=ds at q2 hs
  split at q2
  · obtain ⟨v, rfl, hv⟩ := dc_ hs
    obtain ⟨a,ws,rfl,h1,h2⟩:=hv.lst_eq
    obtain ⟨ns,rfl,q3,q4⟩:=q2
    have:=ints_are h2
    subst this
    exact ⟨a,ns,dd,rfl,rfl,SqL.of (R.hv _ _ h1),fun en=>k _ _ H2 ρ2 (EOk.back E2.len (R.add (IsX.of_int _))) (q3 en),fun M hM hle=>k _ _ H2 ρ2 (EOk.back E2.len (R.add (IsX.of_int _))) (q4 M hM hle)⟩
  · exact q2.elim
theorem hz_ {i:Int} (hg:Gl X x) (hm:∃ t,X.mg x=some (.int i t)) (hd:(x == ("__debug__" : Str))=false:=by decide):XE X Ex (.Name x pos) (xC (.int i)):=by
  obtain ⟨t,hm⟩:=hm
  exact xe_c (pe_glob (v:=.int i) hg hm ⟨t,rfl⟩ hd) _ fun _=>IsX.of_int _
def xBits (t:XT):XT:=fun ρ Q=>t ρ fun s ρ'=>match s.d with
  | .int i=>Q (.tr (.int (Builtin.Int.intBits i))) ρ'
  | _=>False
theorem bits_x {K:FG_}:∀ σ H Q,tX F (xBits t) σ H Q→tBM0 K "int" rBits (tX F t) σ H Q:=by
  rintro σ H Q ⟨ρ,fr,Qx,E,q,k⟩
  refine ⟨ρ,fr,_,E,q,fun v s H' ρ' E' q' => ?_⟩
  obtain ⟨R,hs⟩:=E'.one
  split at q'
  · rename_i i hi
    rw [hi] at hs
    cases hs.int_eq
    exact ⟨rfl,i,rfl,rfl,k _ _ H' ρ' (EOk.back E'.len (R.add (IsX.of_int _))) q'⟩
  · exact q'.elim
end
def neL:G2:=fun a b Q=>match a,b with
  | .lst l,.lst m => ∃ ns:List Int,l=ns.map Dx.int∧m=ns.map Dx.int∧Q (.tr (.bl false))
  | _,_=>False
section
variable {X:Cx} {Ex:ExT} {F:Fm} {a b e:Expr} {x:Str} {p pos:Pos} {ta tb t:XT} {tl th:XO} {u:XA} {K:FG_}
theorem atI_map {α β:Type} {f:α→β} {l:List α} {i:Int}:atI (l.map f) i=(atI l i).map f:=by
  unfold atI
  rw [List.length_map]
  cases ixN l.length i with
  | none=>rfl
  | some n=>exact List.getElem?_map
def ixZ (K:FG_):G2
  | .scr K' ns,.int i,Q=>K'=K∧(match atI ns i with | some n=>Q (.tr (.int n)) | none=>False)
  | _,_,_=>False
theorem ox_ixZ:OpX (rIxL K) (ixZ K):=by
  intro F P H a b x y Q Qx R ha hb g k
  unfold ixZ at g
  split at g
  · obtain ⟨rfl, g⟩ := g
    obtain ⟨p,rfl,h1⟩:=ha.scr_eq
    cases hb.int_eq
    split at g
    · rename_i n hn
      refine ⟨p,_,_,V.int n,rfl,rfl,SameF.sq (.of R.hv) h1,?_,k _ _ H (R.add (IsX.of_int _)) g⟩
      rw [atI_map,hn]; rfl
    · exact g.elim
  · exact g.elim
theorem xe_ixZ (K:FG_) (ha:XE X Ex a ta) (hb:XE X Ex b tb) (hs:PlainIx b) (h:X.K=K:=by rfl):XE X Ex (.Subscript a b pos) (xOp (ixZ K) ta tb):=fun F=>(fh_ (ix_listK K h) (ha F) (hb F) hs).weak (tOp_x ox_ixZ)
def lenZ (K:FG_):GC
  | [.scr K' ns],Q=>K'=K∧Q (.tr (.int ns.length))
  | _,_=>False
theorem cx_lenZ:CallX (rLen K) (lenZ K):=by
  intro F P H ds xs Q Qx R hs g k
  unfold lenZ at g
  split at g
  · obtain ⟨rfl, g⟩ := g
    obtain ⟨x,rfl,hx⟩:=dc_ hs
    obtain ⟨a,rfl,h1⟩:=hx.scr_eq
    exact .inl ⟨a,_,rfl,.inl (SameF.sq (.of R.hv) h1),k _ _ H (R.add (by rw [List.length_map]; exact IsX.of_int _)) g⟩
  · exact g.elim
end
def spLaw (K:FG_):Sp:=fun vs H Q _ => ∃ (a:Addr) (ns:List Int),vs=[.ref a]∧SqL K H a (ns.map V.int)∧ns.length≤63∧∀ H',Q (.bl true) H'
def gLaw (K:FG_):GC:=fun ds Q => ∃ ns:List Int,ds=[.scr K ns]∧ns.length≤63∧Q (.tr (.bl true))
theorem law_tree {P:Program} {w:World} {K:FG_} {mg:MG_} {base:Heap} {f:Addr} {fd:FuncData} {j:Nat} (h:FnOk P w K mg base CX0 j f fd ["script"] (spX (gLaw K))):FnOk P w K mg base CX0 j f fd ["script"] (spLaw K):=h.imp fun vs H Q E=>by
  rintro ⟨a,ns,rfl,hS,hl,q⟩
  refine ⟨H,[.scr K ns],fun s=>s=.tr (.bl true),Same.refl _,⟨_,_,rfl,IsX.of_scr hS,rfl⟩,⟨ns,rfl,hl,rfl⟩,fun s v H' _ hr e => ?_⟩
  subst e
  have hr':IsX (ext H H H') (.bl true) v:=hr
  cases hr'.bl_eq
  exact q H'
end Lf
namespace L2
open PySem
section
variable {M:Model} {A:Around} {E:SV_} {s:Shared}
def KeptX (fs S:List Addr) (h h':Heap):Prop := ∀ b o,h.get? b=some o→b∉S→(b∉fs→h'.get? b=some o)∧∃ sl,h'.get? b=some { o with slots:=sl }
theorem fd_ {base:Heap} {env:Env} {outer:List Env} {L e:Addr} {oe:Obj} {vs:Array Value} {head:Value} {hadNext:Bool} {Q:Unit→Shared→Prop}
    (hfr:A.frames=some (env :: outer)) (hl:s.heap.FunFrames base (env :: outer)) (hf:env.frame=some L)
    (he:s.heap.get? e=some oe) (hd:oe.data=.fields vs) (hsz:1 < vs.size)
    (h:∀ h' T oT ts,KeptX (frs (env :: outer)) [e] s.heap h'→s.heap.objs.size≤T→T≠e→h'.get? e=some (oe.mapFields (·.setIfInBounds 1 (.ref T)))→h'.get? T=some oT→oT.data=.fields ts→ts[3]? = some .none→Q () { s with heap:=h' }) :
    wpAny M A (do let a ← frameOf env; let pl ← entryPlaceOf L hadNext; let b ← EntryCells.newEntry head a .none (rawInt L) .none pl; setField (.ref e) 1 b) (fun _ s'=>wpAny M A (setFlight (.ref e) none) Q E s') E s:=by
  have hene:e∉(env :: outer).filterMap (·.frame):=fun hm=>by
    obtain ⟨_,o,ho,hnf⟩:=hl.mem hm
    rw [he] at ho; injection ho with ho; subst ho; exact hnf vs hd
  refine wpAny_bind (wpAny_frameOf_fun hfr hl hf fun h₁ hs₁ => ?_)
  refine wpAny_bind (wpAny_entryPlaceOf fun pl hpl => ?_)
  unfold EntryCells.newEntry newFields
  refine wpAny_bind (wpAny_newObj_type ?_ (hpl.sizeOk5 _ _ _ _ _))
  have he₁:h₁.get? e=some oe:=(hs₁.2.1 e hene).trans he
  have he₂:=Heap.get?_push_of_some (h:=h₁) { cls:=.type "traceback",dict:=none,data:=.fields ([head,.ref L,.none,rawInt L,.none] ++ (if pl.isEmpty then List.replicate 6 Value.none else pl)).toArray } he₁
  refine wpAny_setField he₂ hd hsz ?_
  have hTe:h₁.objs.size≠e:=Nat.ne_of_gt (Heap.lt_size he₁)
  have hd₃:=Obj.data_mapFields hd (·.setIfInBounds 1 (Value.ref h₁.objs.size))
  have he₃:=Heap.get?_update_self (Obj.mapFields (·.setIfInBounds 1 (Value.ref h₁.objs.size))) he₂ (Obj.isFreed_of_fields hd₃)
  have hT₃:=(Heap.get?_update_other (h₁.push { cls:=.type "traceback",dict:=none,data:=.fields ([head,.ref L,.none,rawInt L,.none] ++ (if pl.isEmpty then List.replicate 6 Value.none else pl)).toArray })
    (Obj.mapFields (·.setIfInBounds 1 (Value.ref h₁.objs.size))) (Ne.symm hTe)).trans (Heap.get?_push_size h₁ rfl)
  unfold setFlight
  refine wpAny_bind (wpAny_field he₃ hd₃ (x:=.ref h₁.objs.size) (by simp [hsz]) ?_)
  rw [if_pos (show (Value.ref h₁.objs.size != Value.none)=true from by simp)]
  refine wpAny_setField hT₃ rfl (by simp only [List.size_toArray,List.length_append,List.length_cons,List.length_nil] <;> omega) (h _ h₁.objs.size _ _ ?_ (Nat.le_of_eq hs₁.1.symm) hTe ?_ (Heap.get?_update_self _ hT₃ (Obj.isFreed_of_fields (Obj.data_mapFields rfl _))) (Obj.data_mapFields rfl _) (by first | (simp; done) | (rcases hpl with rfl | ⟨_,_,_,_,_,_,_,rfl⟩ <;> simp)))
  · have keep : ∀ b o, b ≠ e → h₁.get? b = some o →
        (((h₁.push { cls:=.type "traceback",dict:=none,data:=.fields ([head,.ref L,.none,rawInt L,.none] ++ (if pl.isEmpty then List.replicate 6 Value.none else pl)).toArray }).update e (Obj.mapFields (·.setIfInBounds 1 (Value.ref h₁.objs.size)))).update h₁.objs.size
          (Obj.mapFields (·.setIfInBounds 3 ((none:Option Addr).elim Value.none fun f=>rawInt f)))).get? b=some o:=fun b o hbe hb=>by
      have hbT:h₁.objs.size≠b:=Nat.ne_of_gt (Heap.lt_size hb)
      rw [Heap.get?_update_other _ _ hbT,Heap.get?_update_other _ _ (Ne.symm hbe)]
      exact Heap.get?_push_of_some _ hb
    intro b o hb hbe
    have hbe':b≠e:=fun z=>hbe (List.mem_singleton.mpr z)
    refine ⟨fun hbf=>keep b o hbe' ((hs₁.2.1 b hbf).trans hb),?_⟩
    obtain ⟨sl,hs⟩:=hs₁.2.2 b o hb
    exact ⟨sl,keep b _ hbe' hs⟩
  · rw [Heap.get?_update_other _ _ hTe]; exact he₃
end
end L2
namespace Lf
open PySem L2
section
variable {M:Model} {A:Around} {E:SV_} {s:Shared}
theorem note_air {base:Heap} {nw:Addr→Prop} {H:Hp} {env:Env} {outer:List Env} {L ea:Addr} {cls:Value} {Q:Unit→Shared→Prop}
    (hfr:A.frames=some (env :: outer)) (hl:s.heap.FunFrames base (env :: outer)) (hf:env.frame=some L) (hz:∀ T,s.heap.objs.size≤T→nw T) (hH:∀ a,s.heap.objs.size≤a→H a=none) (a:Air nw s.heap H ea cls)
    (h:∀ h' S,(∀ b∈S,nw b∧H b=none∧∃ o vs,s.heap.get? b=some o∧o.data=.fields vs)→KeptX (frs (env :: outer)) S s.heap h'→Air nw h' H ea cls→Q () { s with heap:=h' }):wpAny M A (noteFrame (.ref ea) env) (fun _ s₂=>wpAny M A (setFlight (.ref ea) none) Q E s₂) E s:=by
  obtain ⟨a1,a2,oe,vs,he,hc,hd,hdn,hsz,a3⟩:=a
  have fin:∀ (h':Heap) (T:Addr) (oT:Obj) (ts:Array Value),s.heap.objs.size≤T→T≠ea→h'.get? ea=some (oe.mapFields (·.setIfInBounds 1 (.ref T)))→h'.get? T=some oT→oT.data=.fields ts→ts[3]? = some .none→Air nw h' H ea cls:=fun h' T oT ts g1 g2 g3 g4 g5 g6=>by
    refine ⟨a1,a2,_,_,g3,(Obj.cls_mapFields _ _).trans hc,Obj.data_mapFields hd _,by obtain ⟨c,dct,dt,sl⟩:=oe; cases dt <;> exact hdn,by simpa using hsz,.inr ⟨T,oT,ts,by simp [hsz],g2,hz T g1,hH T g1,g4,g5,g6⟩⟩
  unfold noteFrame
  simp only [hf]
  rcases a3 with a3 | ⟨T,oT,ts,a3,aT,aN,aH,hT,hdT,h3⟩
  · refine wpAny_bind (wpAny_field he hd a3 ?_)
    rw [if_neg (by decide)]
    exact fd_ hfr hl hf he hd hsz fun h' T oT ts g0 g1 g2 g3 g4 g5 g6=>h h' [ea] (fun b hb=>by rw [List.mem_singleton.mp hb]; exact ⟨a1,a2,_,_,he,hd⟩) g0 (fin h' T oT ts g1 g2 g3 g4 g5 g6)
  · refine wpAny_bind (wpAny_field he hd a3 ?_)
    rw [if_pos (show (Value.ref T != Value.none)=true from by simp)]
    refine wpAny_bind (wpAny_field hT hdT h3 ?_)
    rw [if_neg (show ¬ ((Value.none == rawInt L)=true) from by simp [rawInt])]
    refine wpAny_bind (wpAny_setField hT hdT (Array.getElem?_eq_some_iff.mp h3).1 ?_)
    have other:∀ b,b≠T→(s.heap.update T (Obj.mapFields (·.setIfInBounds 3 Value.none))).get? b=s.heap.get? b:=fun b hb=>Heap.get?_update_other _ _ (Ne.symm hb)
    have noRecord:∀ b o,s.heap.get? b=some o→(∀ vs,o.data ≠ .fields vs)→b≠T:=fun b o hb hnf q=>by
      rw [q,hT] at hb; injection hb with hb; subst hb; exact hnf ts hdT
    have hsz2:(s.heap.update T (Obj.mapFields (·.setIfInBounds 3 Value.none))).objs.size=s.heap.objs.size:=Heap.size_after_update ..
    refine fd_ (s:={ s with heap:=_ }) hfr (hl.of_keeps fun b o hb hnf=>⟨o,(other b (noRecord b o hb hnf)).trans hb,rfl⟩) hf ((other ea (Ne.symm aT)).trans he) hd hsz
      fun h' T' oT' ts' g0 g1 g2 g3 g4 g5 g6=>h h' [ea,T] (fun b hb => ?_) (fun b o hb hbS => ?_) (fin h' T' oT' ts' (by rw [← hsz2]; exact g1) g2 g3 g4 g5 g6)
    · rcases List.mem_cons.mp hb with rfl | hb
      · exact ⟨a1,a2,_,_,he,hd⟩
      · rw [List.mem_singleton.mp hb]; exact ⟨aN,aH,_,_,hT,hdT⟩
    · have n1 : b ≠ ea := fun z => hbS (by rw [z]; exact List.mem_cons_self)
      have n2:b≠T:=fun z=>hbS (by rw [z]; exact List.mem_cons_of_mem _ List.mem_cons_self)
      exact g0 b o ((other b n2).trans hb) fun z=>n1 (List.mem_singleton.mp z)
end
theorem hok_keptX {P:Program} {w:World} {H:Hp} {h h':Heap} {fs S:List Addr} (x:HOk P w H h) (k:KeptX fs S h h') (hf:∀ b∈fs,H b=none) (hS:∀ b∈S,H b=none):HOk P w H h':=fun a o e =>
  ObjOk.stay (x a o e) (fun b u hb hu=>by
    have hb':∃ o,H b=some o:=by
      rcases hb with rfl | hb
      · exact ⟨_,e⟩
      · exact ⟨_,hb⟩
    obtain ⟨ob,hob⟩:=hb'
    exact (k b u hu fun z=>by rw [hS b z] at hob; cases hob).1 fun z=>by rw [hf b z] at hob; cases hob) (fun _ z=>z) (fun _ _ z=>z)
section
variable {X:Cx} {pins:PN_} {σ:St} {H H':Hp} {s s':Shared}
theorem Inv.thrown (I:Inv X pins σ H s) (os:s'.os=s.os) (bare:PyProof.Rows.AllBare s'.gens) (un:Un (frs X.stack) [] H H' s.heap s'.heap) (hok:HOk X.prog X.w H' s'.heap):Inv X pins σ H' s':=by
  obtain ⟨hh,g,d,t,os'⟩:=s'
  obtain rfl:os'=s.os:=os
  exact I.call (h':=hh) (g':=g) (d':=d) (t':=t) (ch:=[]) un hok bare (fun b z=>absurd z (by simp))
end
theorem Air.older {n0 n:Addr→Prop} {h':Heap} {H:Hp} {ea:Addr} {cls:Value} (a:Air n h' H ea cls) (k:∀ b,n b→n0 b):Air n0 h' H ea cls:=by
  obtain ⟨a1,a2,oe,vs,he,hc,hd,hdn,hsz,a3⟩:=a
  refine ⟨k _ a1,a2,oe,vs,he,hc,hd,hdn,hsz,?_⟩
  rcases a3 with a3 | ⟨T,oT,ts,a3,aT,aN,r⟩
  · exact .inl a3
  · exact .inr ⟨T,oT,ts,a3,aT,k _ aN,r⟩
section
variable {P:Program} {w:World} {K:FG_} {mg:MG_} {base:Heap} {N:List Str} {x:Str} {scope:Scope} {f:Addr} {cdv:Value} {A:Around} {outer:List Env} {s:Shared} {H:Hp} {E:XK} {Ex:ExT} {F:Fm}
theorem okf_def (hE:∀ c H',Ex c→Kept F H'→E c none H'):OkF (cxOf (CXe P w) P w K mg base N x scope f cdv A outer s H E) Ex F:=⟨fun pins σ H1 s1 e s' I h=>by
  obtain ⟨ea,cls,H',rfl,os,bare,un,hok,air,hx,hk⟩:=h
  have I':=Inv.thrown I os bare un hok
  have older:∀ b,s1.heap.get? b=none→s.heap.get? b=none:=fun b hb=>by
    cases q:s.heap.get? b with
    | none=>rfl
    | some o =>
      obtain ⟨o',e'⟩:=I.base.there b o q (by intro z; cases z)
      rw [hb] at e'; cases e'
  refine wpAny_bind (note_air (base:=base) (nw:=fun b=>s.heap.get? b=none) (H:=H') (L:=s.heap.objs.size) I'.ok.frames I'.stack rfl (fun T hT=>Heap.get?_none_of_le (Nat.le_trans I'.sz hT)) (fun a ha=>I'.hok.fresh ha) (air.older older) fun h' S hS kx air' => ?_)
  have nS:∀ b o,s.heap.get? b=some o→b∉S:=fun b o hb z=>by rw [(hS b z).1] at hb; cases hb
  have nL:∀ b o,s.heap.get? b=some o→b∈frs (PyProof.Rows.envOfC x scope s.heap.objs.size f cdv :: outer)→b∈frs outer:=fun b o hb z=>by
    rcases List.mem_cons.mp (show b∈s.heap.objs.size :: frs outer from z) with z | z
    · exact absurd (Heap.lt_size hb) (by rw [z]; exact Nat.lt_irrefl _)
    · exact z
  have B:=I'.base
  refine ⟨ea,cls,H',rfl,I'.os,I'.bare,⟨fun b o hb n hf he => ?_,fun b o hb n hf he => ?_,fun b o hb n he=>B.free b o hb n he,fun b o hb he => ?_,B.tups,B.frzs,B.tbls⟩,hok_keptX I'.hok kx I'.stkFree (fun b hb=>(hS b hb).2.1),air',hE cls H' hx hk⟩
  · exact (kx b o (B.keep b o hb n hf he) (nS b o hb)).1 fun z=>hf (nL b o hb z)
  · obtain ⟨sl, e1⟩ := B.slot b o hb n hf he
    obtain ⟨sl',e2⟩:=(kx b _ e1 (nS b o hb)).2
    exact ⟨sl',e2⟩
  · obtain ⟨o', e1⟩ := B.there b o hb he
    obtain ⟨sl',e2⟩:=(kx b _ e1 (nS b o hb)).2
    exact ⟨_,e2⟩⟩
end
abbrev topF {H Hs:Hp} (h:Same Hs H):Fm:=⟨H,Hs,[],h,fun b hb=>by simp at hb,fun b hb=>by simp at hb⟩
abbrev GE:=List Dx→(Sv→Prop)→ExT→Prop
def spE (g:GE):Sp:=fun vs H Q E => ∃ Hs ds Qx Ex,Same Hs H∧All2 (IsX Hs) ds vs∧g ds Qx Ex∧(∀ s v H',Same H H'→ResOk Hs H H' s v→Qx s→Q v H')∧∀ c H',Same H H'→Ex c→E c none H'
theorem fn_e {P:Program} {w:World} {K:FG_} {mg:MG_} {base:Heap} {x:Str} {st:Stmt} {f:Addr} {fd:FuncData} {N ps:List Str} {k:Nat} {g:GE} (Fn:Fun K x x st f fd) (S:FnScope N ps (defScope st)) (hlen:∀ ds Q Ex,g ds Q Ex→ds.length=ps.length) (hN:ps.length≤N.length)
    (hbody:∀ (cdv:Value) (A:Around) (outer:List Env) (s:Shared) (H:Hp) (E:XK) (Ex:ExT),Room k (A.deeper (PyProof.Rows.envOfC x (defScope st) s.heap.objs.size f cdv)) →
      ∃ G,XSs (cxOf (CXe P w) P w K mg base N x (defScope st) f cdv A outer s H E) Ex (defBody st) G∧∀ ds Q,g ds Q Ex→G (startX N ds) (retX Q)):FnOk P w K mg base (CXe P w) (k + 1) f fd ps (spE g):=by
  obtain ⟨oc,od,kV,doc,pm,an,cdv,ct,osl,rfl,lk,hcd⟩:=Fn.ex
  refine fn_of lk hcd S (fun vs H Q E h => ?_) fun A outer s H vs Q E hr h => ?_
  · obtain ⟨Hs, ds, Qx, Ex, h1, h2, h3, _⟩ := h
    rw [h2.len]
    exact hlen ds Qx Ex h3
  obtain ⟨Hs,ds,Qx,Ex,h1,h2,h3,h4,h5⟩:=h
  obtain ⟨G,hG,hq⟩:=hbody cdv A outer s H E Ex hr
  have hl:=hlen ds Qx Ex h3
  haveI:OkF (cxOf (CXe P w) P w K mg base N x (defScope st) f cdv A outer s H E) Ex (topF h1):=okf_def fun c H' e k=>h5 c H' (fun b o hb=>k b o hb (by simp)) e
  refine ⟨_,hG (topF h1),startX N ds,[],retX Qx,⟨?_,?_⟩,hq ds Qx h3,⟨fun σ' H' ρ' _ E' q => ?_,fun v s σ' H' ρ' _ E' q => ?_,fun _ _ _ _ _ q=>q.elim,fun _ _ _ _ _ q=>q.elim⟩⟩
  · unfold startX L2.start
    simp only [List.length_append,List.length_map,List.length_replicate]
    rw [h2.len]
  · rw [List.append_nil]
    have R0:Rep (topF h1) [] H:=⟨List.nodup_nil,fun r hr=>by simp at hr,fun r hr=>by simp at hr,fun b o h _=>h,fun b hb=>by simp at hb⟩
    unfold startX L2.start
    rw [h2.len]
    refine ho_ R0 (h2.imp fun _ _ z=>z.to fun b o hb => ?_)
    cases q:H b with
    | none=>rw [h1 _ _ hb] at q; cases q
    | some u=>exact (bl_ q).trans hb
  · have R := E'.rep.add (d := .non) (v := .non) IsX.of_non
    obtain ⟨e1,e2⟩:=res_ok R
    exact h4 _ _ _ e1 e2 q
  · obtain ⟨e1, e2⟩ := res_ok E'.front
    exact h4 _ _ _ e1 e2 q
def CalE (P:Program) (w:World) (K:FG_) (mg:MG_) (base:Heap) (j:Nat) (x:Str) (ps:List Str) (sp:Sp):Prop := ∃ f fd,FnOk P w K mg base (CXe P w) j f fd ps sp∧Binds K fd ps []∧PySem.W.keepIn K (.ref f)=true∧mg x=some (.ref f)
theorem objOk_obj {P:Program} {w:World} {H:Hp} {h:Heap} {a:Addr} {o:HO} (x:ObjOk P w H h a o):∃ ob,h.get? a=some ob:=by
  cases o with
  | lst xs=>obtain ⟨z,its,n,r,e⟩:=x; exact ⟨_,e⟩
  | tup xs=>obtain ⟨z,its,r,ob,e,c⟩:=x; exact ⟨_,e⟩
  | dK kvs=>obtain ⟨z,y,vs,r,ob,es,ep,e,c⟩:=x; exact ⟨_,e⟩
  | dT kvs=>obtain ⟨z,y,xs,r,ob,es,ep,e,c⟩:=x; exact ⟨_,e⟩
  | set S n=>obtain ⟨ob,es,ep,t,e,c⟩:=x; exact ⟨_,e⟩
  | ins C dx fs=>obtain ⟨d,z,ne,e,_⟩:=x; exact ⟨_,e⟩
  | own y=>exact x
  | xd fs=>obtain ⟨mA,⟨od,es,ep,e,c⟩,r⟩:=x; exact ⟨_,e⟩
  | rng lo hi=>obtain ⟨t,u,v,e⟩:=x; exact ⟨_,e⟩
  | frz ob u=>exact ⟨_,x.1⟩
  | tbl ps=>exact ⟨_,x⟩
  | met f y=>exact ⟨_,x⟩
  | ext φ=>exact x.2.1
theorem HOk.none {P:Program} {w:World} {H:Hp} {h:Heap} (x:HOk P w H h) {a:Addr} (n:h.get? a=.none):H a=.none:=by
  cases q:H a with
  | none=>rfl
  | some o =>
    obtain ⟨ob,e⟩:=objOk_obj (x a o q)
    rw [n] at e; cases e
abbrev veM:List Value:=[.type "ValueError",.type "Exception",.type "BaseException",.type "object"]
abbrev OwnX (X:Cx) (x:Str) (C:Addr):Prop:=PyProof.Rows.OwnCls x C veM "ValueError.__new__" X.mg X.base
def xRaise (Ex:ExT) (c:Value):XS:=fun _ _=>Ex c
theorem xs_raise {X:Cx} {Ex:ExT} {x z:Str} {C:Addr} {np cpos pos p:Pos} {j:Nat} (O:OwnX X x C) (hc:X.calm=true) (hg:Gl X x) (hd:(x == ("__debug__" : Str))=false:=by decide)
    (he:starEach [.Constant (.str z) j p] X.env=[(false,eval (.Constant (.str z) j p) X.env)]:=by rfl):XSt X Ex (.Raise (some (.Call (.Name x np) [.Constant (.str z) j p] [] cpos)) none pos) (xRaise Ex (.ref C)):=fun F _ pins s σ H D I h=>by
  obtain ⟨ρ,fr,d,E,q,k⟩:=h
  have pa:PA X [.Constant (.str z) j p] (tCons (tC (.str z)) tNil):=au_ hg_ cf_ he
  obtain ⟨tl,N,nm,qn,bs,hdct,sn,sub,ab,col,dd,k0,k1,k2,k3,k5,mN,hC,hN,hni,T⟩:=O.obj
  refine wpAny_Raise_call_subT (C:=C) (nm:=nm) (q:=qn) (N:=N) (bs:=bs) (bm:=tl) (hdct:=hdct) (sn:=sn) (sub:=sub) (ab:=ab) (col:=col) (dd:=dd) (k0:=k0) (k1:=k1) (k2:=k2) (k3:=k3) (k5:=k5)
    PySem.F.excBase_ValueError (mN:=mN) (T.hasType PySem.F.excBase_ValueError.hasBase) (I.ok.hd hc) (by rw [he]; rfl) hni (io_ I hg O.bound ⟨rfl,?_⟩ hd)
  refine Calls.evalArgs_plain ?_
  refine wpAny_mono (pa cpos pins s σ H (fun vs H1=>vs=[.str z]∧H1=H) I ⟨rfl,rfl⟩) (fun us s₂ h₂ => ?_) fun _ _ y=>y
  obtain ⟨vs,H1,I2,rv,rfl,rfl⟩:=h₂
  refine ⟨rfl,by rw [← rv.length]; show 1≤sizeLine; exact Nat.le_trans (by decide) (Nat.le_of_lt line1),I2.bk _ _ hC,hN.keeps I2.bk,T.keeps I2.bk,fun h' e hm => ?_⟩
  obtain ⟨t,ht,tn,_⟩:=hm.there
  refine OkF.pass (Ex:=Ex) (F:=F) pins σ H1 s₂ _ _ I2 ⟨e,.ref C,H1,rfl,rfl,I2.bare,Un.kept hm.keeps,I2.hok.kept hm.keeps,⟨hm.new,HOk.none I2.hok hm.new,_,_,ht,rfl,rfl,rfl,by show 1 < 6; decide,.inl rfl⟩,q,fun b o h1 h2=>E.rep.kp b o h1 h2⟩
section
variable {X:Cx} {pins:PN_} {σ:St} {H H':Hp} {s s':Shared} {h':Heap} {S:List Addr}
theorem Inv.noLoc (I:Inv X pins σ H s) {b:Addr} {o:Obj} {vs:Array Value} (h:s.heap.get? b=some o) (hd:o.data=.fields vs):b≠X.env.locals∧∀ x c,X.env.cells.lookup x=some c→c≠b:=by
  refine ⟨fun z => ?_,fun x c e z => ?_⟩
  · obtain ⟨m, ⟨oL, es, ep, hL, hLd, _⟩, _⟩ := I.loc
    rw [z,hL] at h; cases h; rw [hLd] at hd; cases hd
  · obtain ⟨v, o', ho, hv⟩ := I.cell x c e
    rw [z,h] at ho; cases ho; rw [hv] at hd; cases hd
theorem Inv.noted {t':Nat} (I:Inv X pins σ H s) (kx:KeptX (frs X.stack) S s.heap h') (hS:∀ b∈S,(X.s₀.heap.get? b=none∧∀ p∈X.pn ++ pins,p.1≠b)∧H b=none∧∃ o vs,s.heap.get? b=some o∧o.data=.fields vs):Inv X pins σ H { s with heap:=h',toks:=t' }:=by
  have neL:∀ b o,X.s₀.heap.get? b=some o→b≠X.env.locals:=fun b o e=>Nat.ne_of_lt (Nat.lt_of_lt_of_le (Heap.lt_size e) I.ok.above)
  have nS:∀ b o,X.s₀.heap.get? b=some o→b∉S:=fun b o e z=>by rw [(hS b z).1.1] at e; cases e
  have nst:∀ b,b≠X.env.locals→b∉X.fs→b∉frs X.stack:=fun b h1 h2 z=>(List.mem_cons.mp (I.stkSub b z)).elim h1 h2
  have lS:X.env.locals∉S:=fun z=>by obtain ⟨_,_,o,vs,h1,h2⟩:=hS _ z; exact (Inv.noLoc I h1 h2).1 rfl
  have cS:∀ x c,X.env.cells.lookup x=some c→c∉S:=fun x c e z=>by obtain ⟨_,_,o,vs,h1,h2⟩:=hS _ z; exact (Inv.noLoc I h1 h2).2 x c e rfl
  have cell:∀ x c,X.env.cells.lookup x=some c→∀ v,s.heap.IsCell c v→h'.IsCell c v:=fun x c e v ⟨o,ho,hd⟩=>by
    obtain ⟨sl,e2⟩:=(kx c o ho (cS x c e)).2
    exact ⟨_,e2,hd⟩
  have B:=I.base
  refine ⟨I.ok,I.os,I.bare,⟨fun b o e n hb hx => ?_,fun b o e n hb hx => ?_,B.free,fun b o e hx => ?_,B.tups,B.frzs,B.tbls⟩,?_,fun x c e => ?_,I.free,I.freeC,fun p hp => ?_,hok_keptX I.hok kx I.stkFree (fun b hb=>(hS b hb).2.1),I.len⟩
  · exact (kx b o (B.keep b o e n hb hx) (nS b o e)).1 (nst b (neL b o e) hb)
  · obtain ⟨sl, e1⟩ := B.slot b o e n hb hx
    obtain ⟨sl',e2⟩:=(kx b _ e1 (nS b o e)).2
    exact ⟨sl',e2⟩
  · obtain ⟨o', e1⟩ := B.there b o e hx
    obtain ⟨sl',e2⟩:=(kx b _ e1 (nS b o e)).2
    exact ⟨_,e2⟩
  · obtain ⟨m, ⟨oL, es, ep, hL, r⟩, hl⟩ := I.loc
    obtain ⟨sl,e2⟩:=(kx _ oL hL lS).2
    refine ⟨m,⟨_,es,ep,e2,r⟩,fun i x v e1 e2 e3 => ?_⟩
    obtain ⟨u,ru,lk⟩:=hl i x v e1 e2 e3
    refine ⟨u,ru,?_⟩
    rcases lk with lk | ⟨k,c,e,z⟩
    · exact .inl lk
    · exact .inr ⟨k,c,e,cell x c e _ z⟩
  · obtain ⟨v, z⟩ := I.cell x c e
    exact ⟨v,cell x c e v z⟩
  · obtain ⟨e, n, ne, nf, d⟩ := I.pin p hp
    exact ⟨(kx p.1 p.2 e fun z=>(hS p.1 z).1.2 p hp rfl).1 (nst p.1 ne nf),n,ne,nf,d⟩
theorem Inv.caught {ea:Addr} {cls:Value} {o:Obj} {vs:Array Value} (I:Inv X pins σ H s) (nw:X.s₀.heap.get? ea=none∧∀ p∈X.pn ++ pins,p.1≠ea) (hn:H ea=none) (he:s.heap.get? ea=some o) (hc:o.cls=cls) (hd:o.data=.fields vs) (hdn:o.dict=none) :
    Inv X pins σ (upd H ea (.ext (excP ea cls))) s:=by
  obtain ⟨nl,nc⟩:=Inv.noLoc I he hd
  have B:=I.base
  have ne:∀ b u,H b=some u→b≠ea:=fun b u e z=>by rw [z,hn] at e; cases e
  refine ⟨I.ok,I.os,I.bare,⟨B.keep,B.slot,fun b o e n hx => ?_,B.there,fun b xs e => ?_,fun b o xs e => ?_,fun b ps e => ?_⟩,I.loc,I.cell,?_,fun x c e => ?_,fun p hp => ?_,fun a u e => ?_,I.len⟩
  · rw [al_ fun z=>by rw [z,nw.1] at e; cases e]; exact B.free b o e n hx
  · have:=B.tups b xs e; rw [al_ (ne b _ this)]; exact this
  · have:=B.frzs b o xs e; rw [al_ (ne b _ this)]; exact this
  · obtain ⟨more,h1⟩:=B.tbls b ps e; exact ⟨more,by rw [al_ (ne b _ h1)]; exact h1⟩
  · rw [al_ (Ne.symm nl)]; exact I.free
  · rw [al_ (nc x c e)]; exact I.freeC x c e
  · obtain ⟨e1, e2, e3⟩ := I.pin p hp
    exact ⟨e1,by rw [al_ (nw.2 p hp)]; exact e2,e3⟩
  · by_cases z : a = ea
    · subst z
      rw [upd_same] at e
      cases e
      exact ⟨⟨o,vs,he,hc,hd,hdn⟩,⟨o,he⟩,fun h1 h2 ⟨o',vs',a1,a2⟩ k=>⟨o',vs',k o' a1,a2⟩⟩
    · rw [al_ z] at e
      exact ObjOk.stay (I.hok a u e) (fun b v _ hv=>hv) (fun b hb=>by rw [al_ (ne b _ hb)]; exact hb) (fun b xs hb=>by rw [al_ (ne b _ hb)]; exact hb)
theorem gk_ {M:Model} {A:Around} {E:SV_} {i:Nat} {n:Str} {pos:Pos} {Q:Unit→Shared→Prop} (I:Inv X pins σ H s) (hN:X.N.Nodup) (hi:X.N[i]? = some n) (hk:X.env.kindOf n=some .local)
    (h:∀ s',Inv X pins (σ.set i none) H s'→Q () s'):wpAny M A (do bindName X.env n .none; unbindBehindTheSuite X.env n pos) Q E s:=by
  obtain ⟨m,hn,hl⟩:=id I.loc
  obtain ⟨oL,_,_,hoL,_⟩:=id hn
  have hcls:(X.env.scope.kind == .class || (X.env.scope.kind == .module && X.env.locals != X.env.globals))=false:=by rw [I.ok.kind]; rfl
  have hiσ:i < σ.length:=by rw [I.len]; exact (List.getElem?_eq_some_iff.mp hi).1
  refine wpAny_nameGoes_keeps hk hn hcls fun h' v hn' hs=>h _ ?_
  have nl:∀ b o,X.s₀.heap.get? b=some o→b≠X.env.locals:=fun b o e=>Nat.ne_of_lt (Nat.lt_of_lt_of_le (Heap.lt_size e) I.ok.above)
  refine ⟨I.ok,I.os,I.bare,⟨fun b o e n hb hx => ?_,fun b o e n hb hx => ?_,I.base.free,fun b o e hx => ?_,I.base.tups,I.base.frzs,I.base.tbls⟩,⟨_,hn',fun j y v' e1 e2 e3 => ?_⟩,fun y c e => ?_,I.free,I.freeC,fun p hp => ?_,fun b ob e => ?_,by simpa using I.len⟩
  · exact (hs.2 b (nl b o e)).trans (I.base.keep b o e n hb hx)
  · obtain ⟨sl, e1⟩ := I.base.slot b o e n hb hx
    exact ⟨sl,(hs.2 b (nl b o e)).trans e1⟩
  · obtain ⟨o', e1⟩ := I.base.there b o e hx
    exact ⟨o',(hs.2 b (nl b o e)).trans e1⟩
  · by_cases hj : j = i
    · subst hj
      rw [List.getElem?_set_self hiσ] at e2
      cases e2
    · rw [List.getElem?_set_ne (Ne.symm hj)] at e2
      obtain ⟨u',r',q⟩:=hl j y v' e1 e2 e3
      refine ⟨u',r',?_⟩
      rcases q with ⟨k,e⟩ | ⟨k,c,e,z⟩
      · refine .inl ⟨k, ?_⟩
        have:y≠n:=fun e=>hj (nodup_ix hN e1 (e ▸ hi))
        simp [this,e]
      · exact .inr ⟨k,c,e,z.sameBut hs (I.cne y c e)⟩
  · obtain ⟨v', z⟩ := I.cell y c e
    exact ⟨v',z.sameBut hs (I.cne y c e)⟩
  · obtain ⟨e, n, ne, nf, d⟩ := I.pin p hp
    exact ⟨(hs.2 p.1 ne).trans e,n,ne,nf,d⟩
  · refine (I.hok b ob e).stay (fun c w' hc q => (hs.2 c ?_).trans q) (fun _ q => q) fun _ _ q => q
    rintro rfl
    rcases hc with rfl | hc
    · rw [I.free] at e; cases e
    · rw [I.free] at hc; cases hc
end
abbrev NwT (X:Cx) (pins:PN_):Addr→Prop:=fun b=>X.s₀.heap.get? b=none∧∀ p∈X.pn ++ pins,p.1≠b
abbrev tryX (X:Cx) (pins:PN_) (σ:St) (Qe:Value→Hp→Prop):Cx:={ X with pn:=X.pn ++ pins,xe:=fun e s' => ∃ ea cls H',e=.ref ea∧Inv X pins σ H' s'∧Air (NwT X pins) s'.heap H' ea cls∧Qe cls H' }
section
variable {X:Cx} {pins:PN_} {σ:St} {H:Hp} {s:Shared} {Qe:Value→Hp→Prop}
theorem Inv.inTry {σ0:St} (I:Inv X pins σ H s):Inv (tryX X pins σ0 Qe) [] σ H s :=
  ⟨⟨I.ok.mod,I.ok.kind,I.ok.glob,I.ok.blt,I.ok.above,I.ok.inj,I.ok.has,I.ok.cab,I.ok.hd,I.ok.frames,I.ok.stk,I.ok.exf,I.ok.bs,I.ok.bsz,I.ok.noex,I.ok.exfs,I.ok.funs,I.ok.frf⟩,I.os,I.bare,I.base,I.loc,I.cell,I.free,I.freeC,fun p hp=>I.pin p (by simpa using hp),I.hok,I.len⟩
theorem Inv.outTry {σ0:St} {pins':PN_} (I:Inv (tryX X pins σ0 Qe) pins' σ H s):Inv X pins σ H s :=
  ⟨⟨I.ok.mod,I.ok.kind,I.ok.glob,I.ok.blt,I.ok.above,I.ok.inj,I.ok.has,I.ok.cab,I.ok.hd,I.ok.frames,I.ok.stk,I.ok.exf,I.ok.bs,I.ok.bsz,I.ok.noex,I.ok.exfs,I.ok.funs,I.ok.frf⟩,I.os,I.bare,I.base,I.loc,I.cell,I.free,I.freeC,fun p hp=>I.pin p (List.mem_append_left _ hp),I.hok,I.len⟩
end
abbrev XQ:=En→(En→Prop)→(Value→En→Prop)→Prop
def tXQ (F:Fm) (σ0:St) (Qe:Value→Hp→Prop) (q:XQ):TS:=fun D σ H=>σ=σ0∧∃ ρ fr Qx Qe',EOk F ρ σ fr H∧q ρ Qx Qe'∧(∀ σ' H' ρ',σ'.length=σ.length→EOk F ρ' σ' fr H'→Qx ρ'→D.nx σ' H')∧∀ c H' ρ',EOk F ρ' σ fr H'→Qe' c ρ'→Qe c H'
def XQs (X:Cx) (sts:List Stmt) (q:XQ):Prop := ∀ pins σ0 Qe F,PSs (tryX X pins σ0 Qe) sts (tXQ F σ0 Qe q)
section
variable {X:Cx} {pins:PN_} {σ0:St} {Qe:Value→Hp→Prop} {F:Fm} {g:GE} {u:XA}
def tCallT (F:Fm) (σ0:St) (Qe:Value→Hp→Prop) (g:GE) (u:XA):TE:=fun σ H Q=>σ=σ0∧∃ (ρ:En) (fr:List Rw) (Qx:Sv→En→Prop) (Qe':Value→En→Prop),EOk F ρ σ fr H∧(u ρ fun ss ρ'=>g (ss.map Sv.d) (fun s=>Qx s ρ') (fun c=>Qe' c ρ'))∧(∀ v s H' ρ',EOk F ρ' σ ((.v s,some v) :: fr) H'→Qx s ρ'→Q v H')∧∀ c H' ρ',EOk F ρ' σ fr H'→Qe' c ρ'→Qe c H'
theorem pe_callT {j:Nat} {x:Str} {ps:List Str} {e:Expr} {es:List Expr} {p pos:Pos} (C:CalE X.prog X.w X.K X.mg X.base j x ps (spE g)) (hr:Room j X.A) (ha:XAs (tryX X pins σ0 Qe) noEx (e :: es) u) (hex:X.ex=[]:=by rfl) (hg:Gl X x:=by rfl) (hdb:(x == ("__debug__" : Str))=false:=by decide)
    (he:starEach (e :: es) X.env=(false,eval e X.env) :: starEach es X.env:=by rfl) (hpl:(backTo pos (starEach es X.env)).any (·.1)=false:=by rfl):PE (tryX X pins σ0 Qe) (.Call (.Name x p) (e :: es) [] pos) (tCallT F σ0 Qe g u):=by
  obtain ⟨f,fd,G,hb,hk,hm⟩:=C
  intro pins' s σ H Q I h
  obtain ⟨rfl,ρ,fr,Qx,Qe',E,q,k1,k2⟩:=h
  refine wpAny_Call_Name_kw (io_ I hg hm ?_ hdb)
  refine PySem.W.callWith_K (h₀:=X.base) I.ok.mod.kin hk (thn (ha F pos pins' s σ H (fun vs H1=>spE g vs H1 Q (fun c _ H'=>Qe c H')) I ⟨ρ,fr,_,E,q,fun vs ss H2 ρ2 hl E2 q2 => ?_⟩) fun us s1 ⟨vs,H1,I1,r,q⟩=>⟨I1.kIn,?_⟩) he hpl
  · obtain ⟨R, hs⟩ := E2.many hl
    exact ⟨_,_,_,fun c=>Qe' c ρ2,R.hv,hs,q2,fun s v H' e hr q=>k1 v s H' ρ2 (EOk.back E2.len (R.res e hr)) q,fun c H' e q=>k2 c H' ρ2 ⟨E2.len,R.grow e⟩ q⟩
  · have hl := G.len _ _ _ _ q
    have hl2:us.length=ps.length:=by rw [← r.length]; exact hl
    refine wpAny_call (codeAny_mono (G.run X.A X.stack s1 H1 ⟨us,[]⟩ us vs Q _ hr I1.env0 (by have:=hb s1 us I1.kIn (by rw [List.append_nil]; exact hl2); rwa [List.append_nil] at this) r q) fun r s' hq => ?_)
    cases r with
    | error e =>
      obtain ⟨ea,cls,H',rfl,os,bare,un,hok,air,hx⟩:=hq
      refine ⟨ea,cls,H',rfl,Inv.outTry (Inv.thrown I1 os bare un hok),air.older fun b hb=>⟨?_,fun p hp z => ?_⟩,hx⟩
      · cases qq : X.s₀.heap.get? b with
        | none=>rfl
        | some o =>
          obtain ⟨o',e'⟩:=I1.base.there b o qq (by show b∉X.ex; rw [hex]; simp)
          rw [hb] at e'; cases e'
      · obtain ⟨e1, _⟩ := I1.pin p (List.mem_append_left _ hp)
        rw [z,hb] at e1; cases e1
    | ok fl =>
      cases fl with
      | ret v=>exact I1.after hq
      | next=>exact False.elim hq
      | brk=>exact False.elim hq
      | cont=>exact False.elim hq
end
def xqExp (g:GE) (u:XA):XQ:=fun ρ N Qe=>u ρ fun ss ρ'=>g (ss.map Sv.d) (fun _=>N ρ') (fun c=>Qe c ρ')
section
variable {X:Cx} {st:Stmt} {i:Nat} {g:GE} {u:XA} {q r:XQ} {e c:Expr} {tc:XC} {pos:Pos}
theorem xq_exp (h:∀ pins σ0 Qe F,PE (tryX X pins σ0 Qe) e (tCallT F σ0 Qe g u)) (hs:swapsWith e none pos.line X.env=pure false:=by rfl):XQs X [.Expr e pos] (xqExp g u):=fun pins σ0 Qe F=>(ev_ (fz_ (h pins σ0 Qe F) hs)).weak fun D σ H=>by
  rintro ⟨rfl,ρ,fr,Qx,Qe',E,q,k1,k2⟩
  exact ⟨rfl,ρ,fr,fun _ ρ'=>Qx ρ',Qe',E,q,fun v s H' ρ' E' q'=>k1 σ H' ρ' rfl E'.drop q',k2⟩
end
def Under (base:Heap) (C D:Addr):Prop := ∃ nm q N bs bm hdct sn sub ab col dd k0 k1 k2 k3 k5 newId,base.get? C=some (excClassObj nm q C N bs bm hdct sn sub ab col dd k0 k1 k2 k3 k5 newId)∧(Value.ref C :: bm).contains (.ref D)=true
section
variable {M:Model} {A:Around} {E:SV_} {h:Heap} {g:Array GenState} {d:Drawn} {t:Nat} {os:OsState}
theorem excMatches_own {C D e:Addr} {oe:Obj} {Q:Bool→Shared→Prop} {nm q:Str} {N:Addr} {bs bm:List Value} {hdct:Bool} {sn:List Str} {sub:List Value} {ab:Bool} {col:Option Bool} {dd:Option Addr} {k0 k1 k2 k3 k5:Option Value} {newId:String}
    {nm' q':Str} {N':Addr} {bs' bm':List Value} {hdct':Bool} {sn':List Str} {sub':List Value} {ab':Bool} {col':Option Bool} {dd':Option Addr} {k0' k1' k2' k3' k5':Option Value} {newId':String}
    (hC:h.get? C=some (excClassObj nm q C N bs bm hdct sn sub ab col dd k0 k1 k2 k3 k5 newId)) (hD:h.get? D=some (excClassObj nm' q' D N' bs' bm' hdct' sn' sub' ab' col' dd' k0' k1' k2' k3' k5' newId')) (he:h.get? e=some oe) (hcls:oe.cls=.ref C)
    (hbase:bm'.contains (.type "BaseException")=true) (hsub:(Value.ref C :: bm).contains (.ref D)=true) (hq:Q true ⟨h,g,d,t,os⟩):wpAny M A (excMatches (.ref e) (.ref D)) Q E ⟨h,g,d,t,os⟩:=by
  have hcB:(Value.ref D :: bm').contains (.type "BaseException")=true:=by rw [List.contains_cons,hbase,Bool.or_true]
  have f:=tc_notTuple
  unfold excMatches
  repeat (first | (with_reducible refine wpAny_loadPart_at he ?_; rw [hcls]) | with_reducible refine wpAny_loadPart_at hD ?_ | (with_reducible refine wpAny_isSubtype_exc hD ?_; rw [hcB]) | (with_reducible refine wpAny_isSubtype_exc hC ?_; rw [hsub]) | wp_step)
  exact hq
end
abbrev excX (X:Cx) (ea:Addr):Cx:={ X with A:=X.A.mark (some (.ref ea)),calm:=false,xe:=fun _ _=>False }
section
variable {X:Cx} {pins:PN_} {σ:St} {H:Hp} {s:Shared} {ea:Addr}
theorem Inv.inExc (I:Inv X pins σ H s):Inv (excX X ea) pins σ H s :=
  ⟨⟨I.ok.mod,I.ok.kind,I.ok.glob,I.ok.blt,I.ok.above,I.ok.inj,I.ok.has,I.ok.cab,(fun z=>nomatch z),I.ok.frames,I.ok.stk,I.ok.exf,I.ok.bs,I.ok.bsz,I.ok.noex,I.ok.exfs,I.ok.funs,I.ok.frf⟩,I.os,I.bare,I.base,I.loc,I.cell,I.free,I.freeC,I.pin,I.hok,I.len⟩
theorem Inv.outExc (ok:X.Ok) (I:Inv (excX X ea) pins σ H s):Inv X pins σ H s:=⟨ok,I.os,I.bare,I.base,I.loc,I.cell,I.free,I.freeC,I.pin,I.hok,I.len⟩
end
def xTry (M:Value→Prop) (jn:Nat) (q:XQ) (K:XS):XS:=fun ρ D=>q ρ D.nx fun c ρ'=>M c∧K (ρ'.set jn (.v (.tr (.exc c)))) ⟨fun ρ2=>D.nx (ρ2.set jn .un),fun s ρ2=>D.rt s (ρ2.set jn .un),fun ρ2=>D.bk (ρ2.set jn .un),fun ρ2=>D.ct (ρ2.set jn .un)⟩
theorem hu_ {F:Fm} {ρ:En} {σ:St} {fr:List Rw} {H:Hp} {i:Nat} (E:EOk F ρ σ fr H):EOk F (ρ.set i .un) (σ.set i none) fr H:=by
  by_cases hi:i < ρ.length
  · refine ⟨by rw [List.length_set, List.length_set]; exact E.len, ?_⟩
    have hz:=pull (l:=ρ.zip σ) (i:=i) (List.getElem?_eq_getElem (by rw [List.length_zip]; have:=E.len; omega))
    have R:=E.rep.perm (hz.append_right fr)
    exact (R.tail.addU (x:=none)).perm ((zip_put E.len hi).append_right fr).symm
  · rw [List.set_eq_of_length_le (by omega), List.set_eq_of_length_le (by have := E.len; omega)]
    exact E
theorem xs_try {X:Cx} {Ex:ExT} {body suite:List Stmt} {b₀:Stmt} {cn n:Str} {jn:Nat} {Cc:Addr} {q:XQ} {K:XS} {cp hp pos:Pos} (hq:XQs X body q) (O:OwnX X cn Cc) (hst:X.stack=X.env :: X.outer) (hfr:X.env.frame=some X.env.locals) (hgc:Gl X cn) (hN:X.N.Nodup) (hi:X.N[jn]? = some n) (hk:X.env.kindOf n=some .local)
    (hh:∀ ea,XSs (excX X ea) noEx (b₀ :: suite) K) (hdb:(cn == ("__debug__" : Str))=false:=by decide) (hf:X.fn n=true∨X.env.scope.names.lookup n=some .local:=by first | exact .inl rfl | exact .inr rfl) :
    XSt X Ex (.Try body [.ExceptHandler (some (.Name cn cp)) (some n) (b₀ :: suite) hp] [] [] pos) (xTry (fun c => ∃ C,c=.ref C∧Under X.base C Cc) jn q K):=fun F _ pins s σ H D I h=>by
  obtain ⟨ρ,fr,d,E,t,k⟩:=h
  let Qe:Value→Hp→Prop:=fun c H' => ∃ ρ',EOk F ρ' σ fr H'∧(∃ C,c=.ref C∧Under X.base C Cc)∧K (ρ'.set jn (.v (.tr (.exc c)))) ⟨fun ρ2=>d.nx (ρ2.set jn .un),fun s ρ2=>d.rt s (ρ2.set jn .un),fun ρ2=>d.bk (ρ2.set jn .un),fun ρ2=>d.ct (ρ2.set jn .un)⟩
  refine wpAny_Try_except (wpAny_mono (hq pins σ Qe F [] s σ H ⟨D.nx,fun _ _=>False,fun _ _=>False,fun _ _=>False⟩ (Inv.inTry I) ⟨rfl,ρ,fr,d.nx,_,E,t,fun σ' H' ρ' hl E' q'=>k.nx σ' H' ρ' hl E' q',fun c H' ρ' E' q'=>⟨ρ',E',q'⟩⟩) (fun f s₁ h₁ => ?_) fun e s₁ h₁ => ?_)
  · cases f with
    | next =>
      obtain ⟨σ',H',I',q'⟩:=h₁
      exact wpAny_execs_nil ⟨σ',H',Inv.outTry I',q'⟩
    | brk=>obtain ⟨_,_,_,q'⟩:=h₁; exact q'.elim
    | cont=>obtain ⟨_,_,_,q'⟩:=h₁; exact q'.elim
    | ret u=>obtain ⟨_,_,_,_,_,q'⟩:=h₁; exact q'.elim
  · obtain ⟨ea, cls, H', rfl, I1, air, ρ', E1, ⟨C, rfl, hUn⟩, hK⟩ := h₁
    have fr1:X.A.frames=some (X.env :: X.outer):=by rw [← hst]; exact I1.ok.frames
    refine note_air (base:=X.base) (nw:=NwT X pins) (H:=H') (L:=X.env.locals) fr1 (by rw [← hst]; exact I1.stack) hfr (fun T hT=>⟨Heap.get?_none_of_le (Nat.le_trans I1.sz hT),fun p hp z => ?_⟩) (fun a ha=>I1.hok.fresh ha) air fun h2 S hS kx air2 => ?_
    · obtain ⟨e1, _⟩ := I1.pin p hp
      exact absurd (Heap.lt_size e1) (by rw [z]; exact Nat.not_lt.mpr hT)
    have I2:Inv X pins σ H' { s₁ with heap:=h2 }:=Inv.noted (t':=s₁.toks) I1 (by rw [hst]; exact kx) hS
    generalize hs2:({ s₁ with heap:=h2 }:Shared)=s₂ at I2 ⊢
    have air3:Air (NwT X pins) s₂.heap H' ea (.ref C):=by rw [← hs2]; exact air2
    clear air2 hs2 kx hS I1
    obtain ⟨nm,qn,N,bs,bm,hdct,sn,sub,ab,col,dd,k0,k1,k2,k3,k5,newId,hC,hsub⟩:=hUn
    obtain ⟨tl,N',nm',qn',bs',hdct',sn',sub',ab',col',dd',k0',k1',k2',k3',k5',mN',hD,hN',hni',T'⟩:=O.obj
    obtain ⟨nw,hnE,oe,vs,he,hc,hd,hdn,hsz,a3⟩:=air3
    refine wpAny_handleBy_cons (codeAny_handlers_test (io_ (X:=excX X ea) (Inv.inExc I2) hgc O.bound ?_ hdb)) (by intro z; cases z)
    obtain ⟨hp2,g2,d2,t2,os2⟩:=s₂
    refine excMatches_own (I2.bk _ _ hC) (I2.bk _ _ hD) he hc (T'.hasType PySem.F.excBase_ValueError.hasBase) hsub ?_
    rw [if_pos rfl]
    refine codeAny_handlers_suite_as ?_
    have fl:∀ {Q:Unit→Shared→Prop} {E':SV_},(∀ h3,Inv X pins σ H' ⟨h3,g2,d2,t2,os2⟩→(∃ o vs,h3.get? ea=some o∧o.cls=.ref C∧o.data=.fields vs∧o.dict=none)→Q () ⟨h3,g2,d2,t2,os2⟩)→wpAny (model X.prog X.w) (X.A.mark (some (.ref ea))) (setFlight (.ref ea) none) Q E' ⟨hp2,g2,d2,t2,os2⟩:=fun {Q E'} hQ=>by
      rcases a3 with a3 | ⟨T,oT,ts,a3,aT,aN,aH,hT,hdT,h3⟩
      · unfold setFlight
        refine wpAny_bind (wpAny_field he hd a3 ?_)
        rw [if_neg (by decide)]
        exact wpAny_pure (hQ hp2 I2 ⟨oe,vs,he,hc,hd,hdn⟩)
      · refine wpAny_setFlight_none he hd a3 hT hdT (Array.getElem?_eq_some_iff.mp h3).1 (hQ _ ?_ ⟨oe, vs, ?_, hc, hd, hdn⟩)
        · refine Inv.noted (s := ⟨hp2, g2, d2, t2, os2⟩) (S := [T]) (t' := t2) I2 (fun b o hb hbS => ?_) (fun b hb => by rw [List.mem_singleton.mp hb]; exact ⟨aN, aH, oT, ts, hT, hdT⟩)
          have n2:b≠T:=fun z=>hbS (List.mem_singleton.mpr z)
          have e2:=(Heap.get?_update_other hp2 (Obj.mapFields (·.setIfInBounds 3 Value.none)) (Ne.symm n2)).trans hb
          exact ⟨fun _=>e2,o.slots,e2⟩
        · exact (Heap.get?_update_other _ _ aT).trans he
    refine fl fun h3 I3 ⟨o3,vs3,he3,hc3,hd3,hdn3⟩ => ?_
    have I4:=Inv.caught I3 nw hnE he3 hc3 hd3 hdn3
    refine id_ (X:=excX X ea) (v:=.ref ea) (Inv.inExc I4) hN hi (.inl hk) rfl (fun s5 I5 _ => ?_) hf
    have e4:Same H' (upd H' ea (.ext (excP ea (.ref C)))):=ea_ hnE _
    have E4:=E1.grow e4
    have E5:EOk F (ρ'.set jn (.v (.tr (.exc (.ref C))))) (σ.set jn (some (.ref ea))) fr (upd H' ea (.ext (excP ea (.ref C)))):=by
      refine iw_ (EOk.back E4.len (E4.rep.add (IsX.of_exc (hid_some.mpr ⟨E1.rep.not_own hnE,(bj_ (E1.rep.fresh hnE)).trans ?_⟩))))
      rw [upd_same]; rfl
    have ends:DOk F (σ.set jn (some (.ref ea))).length fr ⟨fun σ' H2=>D.nx (σ'.set jn none) H2,fun v H2=>D.rt v H2,fun σ' H2=>D.bk (σ'.set jn none) H2,fun σ' H2=>D.ct (σ'.set jn none) H2⟩ ⟨fun ρ2=>d.nx (ρ2.set jn .un),fun s ρ2=>d.rt s (ρ2.set jn .un),fun ρ2=>d.bk (ρ2.set jn .un),fun ρ2=>d.ct (ρ2.set jn .un)⟩:=by
      have hl:(σ.set jn (some (.ref ea))).length=σ.length:=List.length_set
      refine ⟨fun σ' H2 ρ2 h1 h2 h3=>k.nx _ H2 _ (by rw [List.length_set,h1,hl]) (hu_ h2) h3,fun v s σ' H2 ρ2 h1 h2 h3=>k.rt v s (σ'.set jn none) H2 _ (by rw [List.length_set,h1,hl]) (hu_ h2) h3,fun σ' H2 ρ2 h1 h2 h3=>k.bk _ H2 _ (by rw [List.length_set,h1,hl]) (hu_ h2) h3,fun σ' H2 ρ2 h1 h2 h3=>k.ct _ H2 _ (by rw [List.length_set,h1,hl]) (hu_ h2) h3⟩
    refine wpAny_mono (hh ea F pins s5 _ _ _ I5 ⟨_,fr,_,E5,hK,ends⟩) (fun f s6 h6 => ?_) fun _ _ z=>False.elim z
    cases f with
    | next =>
      obtain ⟨σ',H2,I6,q6⟩:=h6
      exact gk_ (Inv.outExc I4.ok I6) hN hi hk fun s7 I7=>⟨_,H2,I7,q6⟩
    | brk =>
      obtain ⟨σ',H2,I6,q6⟩:=h6
      exact gk_ (Inv.outExc I4.ok I6) hN hi hk fun s7 I7=>⟨_,H2,I7,q6⟩
    | cont =>
      obtain ⟨σ',H2,I6,q6⟩:=h6
      exact gk_ (Inv.outExc I4.ok I6) hN hi hk fun s7 I7=>⟨_,H2,I7,q6⟩
    | ret u =>
      obtain ⟨v,σ',H2,I6,rv,q6⟩:=h6
      exact gk_ (Inv.outExc I4.ok I6) hN hi hk fun s7 I7=>⟨v,_,H2,I7,rv,q6⟩
end Lf
namespace PySem.W
open PySem PySem.Spec PySem.Calls PyProof.Rows
section
variable {prog:Program} {w:World} {A:Around} {E:SV_} {s:Shared} {K:Frag} {x C D:Addr} {ox:Obj} {od:Obj} {odo:Option Obj} {name:Str}
def excKit (K:Frag) (D:Addr):Bool:=(findIn K (.ref D) "__getattribute__" == some (some (.builtin "BaseException.__getattribute__"))) && (findIn K (.ref D) "__getattr__" == some none) && (mroIn K D (.type "BaseException") == some true) && (mroIn K D (.type "object") == some true) &&
  (findIn K (.ref D) "__class__" == some (some (.builtin "object.__class__"))) && (specialIn K (.builtin "object.__class__") "__get__" == some (some (.builtin "getset_descriptor.__get__"))) && (takesIn K (.builtin "object.__class__") == some true)
end
end PySem.W
namespace Lf
open PySem L2
open PySem.W (Frag nsIn)
def noName (K:Frag) (N:Addr) (n:Str):Bool:=match K.lookup N with
  | some ⟨_,_,.dict es _,_⟩=>es.toList.all (fun e=>match e.key with | .str _ _=>true | _=>false) && (es.toList.find? (·.key.isStr n)).isNone
  | _=>false
def tailOk (K:Frag):Nat→List Value→Bool
  | n + 1, .ref A :: r => (match K.lookup A with
    | some ⟨_,_,.cls cd,_⟩=>noName K cd.ns "__init__" && tailOk K n r
    | _=>false)
  | _,l=>l == veM
def clsOk (K:Frag) (C:Addr):Bool:=match K.lookup C with
  | some ⟨.type "type", _, .cls cd, sl⟩ => (match cd.mro with
    | .ref C' :: tl=>C' == C && cd.hasDel == false && sl.size == 6 && sl[4]? == some (some (.builtin "ValueError.__new__")) && noName K cd.ns "__init__" && tailOk K 4 tl
    | _=>false) && PySem.W.excKit K C
  | _=>false
def clsAt (K:Frag) (n:Str):Option Addr:=match nsIn K mainGlobals n with
  | some (some (.ref C))=>some C
  | _=>none
def undr (K:Frag) (C D:Addr):Bool:=match K.lookup C with
  | some ⟨_,_,.cls cd,_⟩=>cd.mro.contains (.ref D)
  | _=>false
def obsX (K:Frag) (ns:List Str):List (Bool×List (Option Bool×Bool)×Option Bool×Option Bool):=ns.map fun n=>match clsAt K n with
  | some C=>(clsOk K C,ns.map (fun m=>match clsAt K m with | some D=>(PySem.W.kitOne K (.ref C) (.ref D),undr K C D) | none=>(none,false)),PySem.W.kitOne K (.ref C) (.type "ValueError"),PySem.W.kitOne K (.type "NoneType") (.ref C))
  | none=>(false,[],none,none)
section
variable {K:Frag} {h:Heap}
theorem noName_ns {N:Addr} {n:Str} (e:noName K N n=true) (X:K.In h):∃ m,h.Ns N m∧m n=none:=by
  unfold noName at e
  split at e
  · rename_i c d es ep sl q
    obtain ⟨e1,e2⟩:=Bool.and_eq_true_iff.mp e
    refine ⟨nsFind es,⟨_,es,ep,X _ _ q,rfl,fun en hen => ?_,fun _=>rfl⟩,?_⟩
    · have := List.all_eq_true.mp e1 en (by simpa using hen)
      split at this
      · rename_i x t hk; exact ⟨x,t,hk⟩
      · cases this
    · unfold nsFind findBy
      rw [← Array.find?_toList]
      rw [Option.isNone_iff_eq_none] at e2
      rw [e2]
      rfl
  · cases e
theorem tailOk_own:∀ (k:Nat) (l:List Value),tailOk K k l=true→K.In h→OwnTail h veM l
  | 0, l, e, X => by
    have:l=veM:=by simpa [tailOk] using e
    rw [this]; exact .base
  | k + 1, [], e, X => by
    have:([]:List Value)=veM:=by simpa [tailOk] using e
    rw [this]; exact .base
  | k + 1, v :: r, e, X => by
    cases v with
    | ref A =>
      unfold tailOk at e
      split at e
      · rename_i c d cd sl q
        obtain ⟨e1,e2⟩:=Bool.and_eq_true_iff.mp e
        obtain ⟨m,hm,hn⟩:=noName_ns e1 X
        exact .own (X _ _ q) hm hn (tailOk_own k r e2 X)
      · cases e
    | none => have : Value.none :: r = veM := by simpa [tailOk] using e
              cases this
    | bool b => have : Value.bool b :: r = veM := by simpa [tailOk] using e
                cases this
    | int i t => have : Value.int i t :: r = veM := by simpa [tailOk] using e
                 cases this
    | str x t => have : Value.str x t :: r = veM := by simpa [tailOk] using e
                 cases this
    | bytes x t => have : Value.bytes x t :: r = veM := by simpa [tailOk] using e
                   cases this
    | float x t => have : Value.float x t :: r = veM := by simpa [tailOk] using e
                   cases this
    | builtin x => have : Value.builtin x :: r = veM := by simpa [tailOk] using e
                   cases this
    | type T => have : Value.type T :: r = veM := by simpa [tailOk] using e
                rw [this]; exact .base
    | _=>first | (simp [tailOk] at e; done) | (exfalso; revert e; simp [tailOk])
theorem clsOk_own {C:Addr} {x:Str} {mg:MG_} (e:clsOk K C=true) (hm:mg x=some (.ref C)) (X:K.In h):PyProof.Rows.OwnCls x C veM "ValueError.__new__" mg h:=by
  unfold clsOk at e
  split at e
  · rename_i dd cd sl q
    obtain ⟨e1,_⟩:=Bool.and_eq_true_iff.mp e
    split at e1
    · rename_i C' tl hmro
      simp only [Bool.and_eq_true,beq_iff_eq] at e1
      obtain ⟨⟨⟨⟨⟨rfl,h2⟩,h3⟩,h4⟩,h5⟩,h6⟩:=e1
      obtain ⟨m,hns,hni⟩:=noName_ns h5 X
      have hsl:sl = #[sl.getD 0 none,sl.getD 1 none,sl.getD 2 none,sl.getD 3 none,some (.builtin "ValueError.__new__"),sl.getD 5 none]:=by
        apply Array.ext_getElem?
        intro i
        match i with
        | 0=>simp [h3]
        | 1=>simp [h3]
        | 2=>simp [h3]
        | 3=>simp [h3]
        | 4=>simp [h4]
        | 5=>simp [h3]
        | i + 6=>rw [Array.getElem?_eq_none (by rw [h3]; omega),Array.getElem?_eq_none (by simp)]
      refine ⟨hm,tl,cd.ns,cd.name,cd.qualname,cd.bases,cd.hasDict,cd.slotNames,cd.subclasses,cd.abstract,cd.collection,dd,sl.getD 0 none,sl.getD 1 none,sl.getD 2 none,sl.getD 3 none,sl.getD 5 none,m,?_,hns,hni,tailOk_own 4 tl h6 X⟩
      have:=X _ _ q
      rw [this]
      obtain ⟨nm,bs,mro,ns,qn,hd,sn,sub,ab,col,hdel⟩:=cd
      dsimp only at hmro h2 ⊢
      subst hmro h2
      unfold excClassObj
      rw [← hsl]
    · cases e1
  · cases e
theorem clsOk_under {C D:Addr} (e:clsOk K C=true) (hu:undr K C D=true) (X:K.In h):Under h C D:=by
  obtain ⟨_,tl,N,nm,q,bs,hdct,sn,sub,ab,col,dd,k0,k1,k2,k3,k5,mN,hC,_⟩:=clsOk_own (x := "x") (mg:=fun _=>some (.ref C)) e rfl X
  refine ⟨nm,q,N,bs,tl,hdct,sn,sub,ab,col,dd,k0,k1,k2,k3,k5,_,hC,?_⟩
  unfold undr at hu
  split at hu
  · rename_i c d cd sl ql
    have:=X _ _ ql
    rw [hC] at this
    cases this
    exact hu
  · cases hu
end
end Lf
namespace L2
open PySem PySem.Spec PySem.SeqAt PySem.AutoSeq1 PySem.MeetsSeq PyProof.Rows
def Itv (K:FG_) (a:Addr) (n:Nat):It :=
  ⟨fun i H => ∃ xs x,SqL K H a xs∧xs.length=n∧xs.reverse[i]? = some x,fun i H x H'=>H'=H∧∀ xs,SqL K H a xs→xs.reverse[i]? = some x,fun i _=>n≤i⟩
theorem turn_rev {P:Program} {w:World} {K:FG_} {tg:Expr} (a it:Addr) (n:Nat):Turn P w K tg (Itv K a n) [it] it (fun i h=>i≤n∧h.IsRevIter it a ((n:Int) - 1 - i)) where
  mem:=by simp
  obj:=fun i h st b hb=>by
    have e:b=it:=by simpa using hb
    subst e
    obtain ⟨_,o,e,c,d⟩:=st
    exact ⟨o,e,fun v z=>by rw [d] at z; cases z⟩
  keep:=fun i h h' st k=>⟨st.1,st.2.at fun o e=>k it (by simp) o e⟩
  item:=by
    intro X hP hw hK hc i pins s σ H E I hf st hg
    subst hP hw hK
    replace st:=st.2
    obtain ⟨xs,x,hq,hn,hx⟩:=hg
    subst hn
    obtain ⟨its,rv,p,hz⟩:=I.list hq
    obtain ⟨f0,f1,f2,f3,f4,f5⟩:=hf it (by simp)
    have hi:i < xs.length:=by
      have:=(List.getElem?_eq_some_iff.mp hx).1
      rwa [List.length_reverse] at this
    have hx':xs[xs.length - 1 - i]? = some x:=by rw [List.getElem?_reverse hi] at hx; exact hx
    obtain ⟨u,hu,ru⟩:=rv.get hx'
    have e1:(xs.length:Int) - 1 - (i:Int)=((xs.length - 1 - i:Nat):Int):=by omega
    rw [e1] at st
    refine wpAny_pyNext_rev_item st p.isList (x:=u) (by simpa using hu) fun h' st' sb => ?_
    have e2:((xs.length - 1 - i:Nat):Int) - 1=(xs.length:Int) - 1 - ((i + 1:Nat):Int):=by omega
    rw [e2] at st'
    have I1:Inv X pins σ H { s with heap:=h' }:=I.turned (t':=s.toks) (fun b o hb e=>(sb.2 b hb).trans e) f0 f1 f3 f4 f5
    obtain ⟨o,e,c,d⟩:=id st'
    exact ⟨u,rfl,go_of (s:={ s with heap:=h' }) e c d (by decide) ⟨x,H,I1,ru,⟨rfl,fun ys hy=>by rw [I.list_inj hy hq]; exact hx⟩,⟨hi,st'⟩,fun b hb=>(hf b hb).1⟩⟩
  done:=by
    intro X hP hw hK hc i pins s σ H E I hf st hg
    subst hP hw hK
    have hx:i=n:=Nat.le_antisymm st.1 hg
    subst hx
    replace st:=st.2
    obtain ⟨f0,f1,f2,f3,f4,f5⟩:=hf it (by simp)
    have e1:(i:Int) - 1 - (i:Int) = -1:=by omega
    rw [e1] at st
    exact wpAny_pyNext_rev_end (I.ok.hd hc) st fun h' eb=>⟨rfl,I.turned (t':=s.toks) (fun b o hb e=>eb b o hb e) f0 f1 f3 f4 f5⟩
  self:=fun _ _ _ _ _ st h=>wpAny_pyIter_revIter st.2 h
theorem bt_reversed:bootBuiltins "reversed" = some (.type "reversed"):=by decide +kernel
def iRev (K:FG_) (ta:TA):TI:=fun σ H R=>ta σ H fun vs H1 => ∃ a xs,vs=[.ref a]∧SqL K H1 a xs∧R (Itv K a xs.length) H1
theorem pi_rev {X:Cx} {tg ea:Expr} {ta:TA} {p pos:Pos} (hg:Gl X "reversed") (hm:X.mg "reversed" = none) (ha:PA X [ea] ta) (hs:starEach [ea] X.env=[(false,eval ea X.env)]:=by rfl) :
    PI X tg (.Call (.Name "reversed" p) [ea] [] pos) (iRev X.K ta):=by
  intro pins s σ H R I h
  refine Call_ (gm_ I hg hm bt_reversed (PyProof.Rows.callWith_type1 (thn (ha pos pins s σ H _ I h) fun us s1 ⟨vs,H1,I1,r1,q1⟩ => ?_) hs rfl))
  obtain ⟨a,xs,e,w1,q⟩:=q1
  subst e
  obtain ⟨u,rfl,ru⟩:=vals1 r1
  cases ru
  obtain ⟨its1,r2,p1,z1⟩:=I1.list w1
  have hlen:=r2.length
  refine call_reversed_list p1.isList ?_
  have st:(s1.heap.push (revObj a ((its1.toArray.size:Int) - 1))).IsRevIter s1.heap.objs.size a ((xs.length:Int) - 1 - ((0:Nat):Int)):=by
    have e:((its1.toArray.size:Nat):Int) - 1=(xs.length:Int) - 1 - ((0:Nat):Int):=by simp [hlen]
    rw [e]
    exact ⟨_,Heap.get?_push_size _ rfl,rfl,rfl⟩
  refine wpAny_pyIter_revIter st ?_
  refine ⟨s1.heap.objs.size,[s1.heap.objs.size],_,_,H1,rfl,I1.kept (t':=s1.toks) fun b o e=>Heap.get?_push_of_some _ e,turn_rev a _ xs.length,⟨Nat.zero_le _,st⟩,fun b hb => ?_,q⟩
  have e:b=s1.heap.objs.size:=by simpa using hb
  subst e
  exact I1.fpOk (Nat.le_refl _) (I1.hok.fresh (Nat.le_refl _))
end L2
namespace L2
open PySem PySem.Spec PySem.SeqAt PyProof.Rows
section
variable {X:Cx}
def rEqZ (K:FG_) (neg:Bool):R2:=fun x y H Q => ∃ (p b:Addr) (xs ys:List Int),x=.ref p∧y=.ref b∧SqL K H p (xs.map V.int)∧SqL K H b (ys.map V.int)∧Q (.bl (if neg then !decide (xs=ys) else decide (xs=ys))) H
theorem em_:∀ {xs:List Int} {us:List Value},Vals (xs.map V.int) us→us.length=xs.length∧∀ j (h:j < us.length),∃ t,us[j]=Value.int (xs.getD j 0) t
  | [],_,h=>by cases h; exact ⟨rfl,fun j h=>absurd h (Nat.not_lt_zero _)⟩
  | x :: xs, _, h => by
    cases h with
    | cons ra rb =>
      obtain ⟨e,k⟩:=em_ rb
      obtain ⟨t,rfl⟩:=ra
      refine ⟨by simp [e],fun j h => ?_⟩
      cases j with
      | zero=>exact ⟨t,rfl⟩
      | succ j =>
        obtain ⟨t',e'⟩:=k j (by simpa using h)
        exact ⟨t',by simpa using e'⟩
theorem all_eq_dec:∀ {xs ys:List Int},xs.length=ys.length→(List.range xs.length).all (fun j=>xs.getD j 0 == ys.getD j 0)=decide (xs=ys):=by
  intro xs ys h
  by_cases e:xs=ys
  · subst e
    simp
  · rw [decide_eq_false e, List.all_eq_false]
    have:∃ j,j < xs.length∧xs.getD j 0≠ys.getD j 0:=by
      apply Classical.byContradiction
      intro hn
      apply e
      refine List.ext_getElem? fun j => ?_
      by_cases hj:j < xs.length
      · have : xs.getD j 0 = ys.getD j 0 := Classical.byContradiction fun z => hn ⟨j, hj, z⟩
        rw [List.getD_eq_getElem?_getD,List.getD_eq_getElem?_getD,List.getElem?_eq_getElem hj,List.getElem?_eq_getElem (by omega)] at this
        rw [List.getElem?_eq_getElem hj,List.getElem?_eq_getElem (by omega)]
        exact congrArg some this
      · rw [List.getElem?_eq_none (by omega),List.getElem?_eq_none (by omega)]
    obtain ⟨j,hj,hne⟩:=this
    exact ⟨j,List.mem_range.mpr hj,by simpa using hne⟩
theorem eqs_ints {A:Around} {s:Shared} {xs ys:List Int} {us ws:List Value} (r1:Vals (xs.map V.int) us) (r2:Vals (ys.map V.int) ws):∀ (j:Nat) (h1:j < us.toArray.size) (h2:j < ws.toArray.size),SeqAt.EqAt A s us.toArray[j] ws.toArray[j] (xs.getD j 0 == ys.getD j 0):=by
  intro j h1 h2
  obtain ⟨t,e1⟩:=(em_ r1).2 j (by simpa using h1)
  obtain ⟨u,e2⟩:=(em_ r2).2 j (by simpa using h2)
  rw [List.getElem_toArray,List.getElem_toArray,e1,e2]
  exact SeqAt.EqAt.int_int _ _ _ _
theorem op_eqZ (hu:X.A.units < cLine):OpR X (compareOp .Eq) (rEqZ X.K false):=by
  intro pins s σ H x y v u Q I rx ry h
  obtain ⟨p,b,xs,ys,rfl,rfl,h1,h2,q⟩:=h
  cases rx
  cases ry
  obtain ⟨its,r1,p1,_⟩:=I.list h1
  obtain ⟨its2,r2,p2,_⟩:=I.list h2
  have l1:=(em_ r1).1
  have l2:=(em_ r2).1
  by_cases hl:xs.length=ys.length
  · refine PySem.SeqAt.eq_listAt p1.isList p2.isList (by simp only [List.size_toArray]; omega) hu (eqs_ints r1 r2) ?_
    refine bb_ I q ?_
    rw [List.size_toArray,l1]
    exact (all_eq_dec hl).symm
  · refine PySem.SeqAt.eq_list_lengthsAt p1.isList p2.isList (by simp only [List.size_toArray]; simp; omega) hu (bb_ I q ?_)
    exact decide_eq_false fun e=>hl (by rw [e])
theorem op_neZ (hu:X.A.units < cLine):OpR X (compareOp .NotEq) (rEqZ X.K true):=by
  intro pins s σ H x y v u Q I rx ry h
  obtain ⟨p,b,xs,ys,rfl,rfl,h1,h2,q⟩:=h
  cases rx
  cases ry
  obtain ⟨its,r1,p1,_⟩:=I.list h1
  obtain ⟨its2,r2,p2,_⟩:=I.list h2
  have l1:=(em_ r1).1
  have l2:=(em_ r2).1
  by_cases hl:xs.length=ys.length
  · refine PySem.SeqAt.RcNeAt.lists p1.isList p2.isList (by simp only [List.size_toArray]; omega) hu (eqs_ints r1 r2) _ _ _ _ ?_
    refine bb_ I q ?_
    rw [List.size_toArray,l1,all_eq_dec hl]
    rfl
  · refine PySem.SeqAt.RcNeAt.lists_lengths p1.isList p2.isList (by simp only [List.size_toArray]; simp; omega) hu _ _ _ _ (bb_ I q ?_)
    rw [decide_eq_false fun e=>hl (by rw [e])]
    rfl
end
end L2
namespace Lf
open PySem L2
def eqI (neg:Bool):G2:=fun a b Q => ∃ xs ys:List Int,a=.lst (xs.map Dx.int)∧b=.lst (ys.map Dx.int)∧Q (.tr (.bl (if neg then !decide (xs=ys) else decide (xs=ys))))
theorem ints_of {G:Hp}:∀ {xs:List Int} {vs:List V},All2 (IsX G) (xs.map Dx.int) vs→vs=xs.map V.int
  | [],_,h=>h
  | x :: xs,_,⟨v,vr,e,h1,h2⟩=>by rw [e,ints_of h2,h1.int_eq]; rfl
theorem ox_eqI {K:FG_} {neg:Bool}:OpX (rEqZ K neg) (eqI neg):=by
  intro F P H a b x y Q Qx R ha hb g k
  obtain ⟨xs,ys,rfl,rfl,g⟩:=g
  obtain ⟨p,vs,rfl,q1,q2⟩:=ha.lst_eq
  obtain ⟨p',vs',rfl,q3,q4⟩:=hb.lst_eq
  cases ints_of q2
  cases ints_of q4
  exact ⟨p,p',xs,ys,rfl,rfl,SqL.of (R.hv _ _ q1),SqL.of (R.hv _ _ q3),k _ _ H (R.add (IsX.of_bl _)) g⟩
def xiV (u:XA):XI:=fun ρ Q=>u ρ fun ss ρ'=>match ss.map Sv.d with
  | [.lst l]=>Q l.reverse ρ'
  | _=>False
theorem itx_rev {F:Fm} {K:FG_} {a:Addr} {l:List Dx}:ItX F (Itv K a l.length) [(.v (.tr (.lst l)),some (.ref a))] l.reverse where
  go:=fun P H i d R hd=>by
    obtain ⟨v,e,h⟩:=R.atT; cases e
    obtain ⟨_,vs,e,h1,h2⟩:=h.lst_eq; cases e
    obtain ⟨x,h3,_⟩:=h2.rev.at hd
    exact ⟨vs,x,SqL.of (R.hv _ _ h1),h2.len,h3⟩
  stop:=fun P H i R hi=>by
    rw [List.length_reverse] at hi
    exact hi
  yld:=fun P H i d x H' R hd q=>by
    obtain ⟨rfl,q⟩:=q
    obtain ⟨v,e,h⟩:=R.atT; cases e
    obtain ⟨_,vs,e,h1,h2⟩:=h.lst_eq; cases e
    obtain ⟨y,h3,h4⟩:=h2.rev.at hd
    rw [q vs (SqL.of (R.hv _ _ h1))] at h3
    cases h3
    exact R.add h4
section
variable {X:Cx} {Ex:ExT} {tg a b c:Expr} {p pos:Pos} {u:XA}
theorem xi_rev (hm:X.mg "reversed" = none) (ha:XAs X Ex [a] u) (hg:Gl X "reversed" := by rfl) (hs:starEach [a] X.env=[(false,eval a X.env)]:=by rfl):XIt X Ex tg (.Call (.Name "reversed" p) [a] [] pos) (xiV u):=fun F=>(pi_rev hg hm (ha F) hs).weak fun σ H R=>by
  rintro ⟨ρ,fr,Qx,E,t,k⟩
  refine ⟨ρ,fr,_,E,t,fun vs ss H2 ρ2 hl E2 q => ?_⟩
  obtain ⟨R,hs⟩:=E2.many hl
  split at q
  · rename_i l hj
    rw [hj] at hs
    obtain ⟨x,rfl,hx⟩:=dc_ hs
    obtain ⟨c,cs,rfl,h1,h2⟩:=hx.lst_eq
    refine ⟨c,cs,rfl,SqL.of (R.hv _ _ h1),k _ H2 ρ2 [(.v (.tr (.lst l)),some (.ref c))] _ (EOk.back E2.len (R.add hx)) ?_ q⟩
    rw [h2.len]
    exact itx_rev
  · exact q.elim
end
open PySem.W (Frag nsIn)
abbrev OX:=Bool×List (Option Bool×Bool)×Option Bool×Option Bool
def obX1 (K:Frag) (ns:List Str) (n:Str):OX:=match clsAt K n with
  | some C=>(clsOk K C,ns.map (fun m=>match clsAt K m with | some D=>(PySem.W.kitOne K (.ref C) (.ref D),undr K C D) | none=>(none,false)),PySem.W.kitOne K (.ref C) (.type "ValueError"),PySem.W.kitOne K (.type "NoneType") (.ref C))
  | none=>(false,[],none,none)
theorem obsX_eq (K:Frag) (ns:List Str):obsX K ns=ns.map (obX1 K ns):=rfl
structure ClsX (K:Frag) (mg:MG_) (n:Str) (C:Addr):Prop where
  at':clsAt K n=some C
  m:mg n=some (.ref C)
  ok:clsOk K C=true
theorem cls_ex {K:Frag} {ns:List Str} {n:Str} {l:List (Option Bool×Bool)} {a b:Option Bool} {h:Heap} {mg:MG_} (e:obX1 K ns n=(true,l,a,b)) (X:K.In h) (G:h.Ns mainGlobals mg):∃ C,ClsX K mg n C∧l=ns.map (fun m=>match clsAt K m with | some D=>(PySem.W.kitOne K (.ref C) (.ref D),undr K C D) | none=>(none,false))∧PySem.W.kitOne K (.ref C) (.type "ValueError")=a∧PySem.W.kitOne K (.type "NoneType") (.ref C)=b:=by
  unfold obX1 at e
  cases hc:clsAt K n with
  | none=>rw [hc] at e; simp at e
  | some C =>
    rw [hc] at e
    simp only [Prod.mk.injEq] at e
    obtain ⟨e1,e2,e3,e4⟩:=e
    refine ⟨C,⟨hc,?_,e1⟩,e2.symm,e3,e4⟩
    unfold clsAt at hc
    split at hc
    · rename_i C' hn
      cases hc
      exact PySem.W.mg_of X G hn
    · cases hc
theorem ClsX.own {K:Frag} {mg:MG_} {n:Str} {C:Addr} {base:Heap} (x:ClsX K mg n C) (X:K.In base):PyProof.Rows.OwnCls n C veM "ValueError.__new__" mg base:=clsOk_own x.ok x.m X
theorem clsOk_self {K:Frag} {C:Addr} (e:clsOk K C=true):undr K C C=true:=by
  unfold clsOk at e
  split at e
  · rename_i dd cd sl q
    obtain ⟨e1,_⟩:=Bool.and_eq_true_iff.mp e
    split at e1
    · rename_i C' tl hmro
      simp only [Bool.and_eq_true,beq_iff_eq] at e1
      obtain ⟨⟨⟨⟨⟨rfl,_⟩,_⟩,_⟩,_⟩,_⟩:=e1
      unfold undr
      rw [q]
      simp only
      rw [hmro]
      simp
    · cases e1
  · cases e
theorem ClsX.und {K:Frag} {mg:MG_} {n:Str} {C:Addr} {base:Heap} (x:ClsX K mg n C) (X:K.In base):Under base C C:=clsOk_under x.ok (clsOk_self x.ok) X
def xNeg (t:XT):XT:=fun ρ Q=>t ρ fun s ρ'=>match s.d with
  | .int i=>Q (.tr (.int (-i))) ρ'
  | _=>False
theorem xe_neg {X:Cx} {Ex:ExT} {e:Expr} {t:XT} {pos:Pos} (h:XE X Ex e t):XE X Ex (.UnaryOp .USub e pos) (xNeg t):=fun F=>(pe_un un_neg (h F)).weak fun σ H Q=>by
  rintro ⟨ρ,fr,Qx,E,t,k⟩
  refine ⟨ρ,fr,_,E,t,fun v s H' ρ' E' q => ?_⟩
  split at q
  · rename_i i hi
    obtain ⟨R,hx⟩:=E'.one
    rw [hi] at hx
    cases hx.int_eq
    exact ⟨i,rfl,k _ _ H' ρ' (EOk.back E'.len (R.add (IsX.of_int _))) q⟩
  · exact q.elim
def top (i:Nat):Stmt:=PySem.Challenge.pw_laidfields_k24_whole_idle_bytes.main.body.getD i (.Pass ⟨0,0,0,0⟩)
abbrev fp_:Stmt:=top 5
abbrev eb_:Stmt:=top 6
abbrev fe_:Stmt:=top 7
abbrev ei_:Stmt:=top 8
abbrev bh_:Stmt:=top 9
abbrev gh_:Stmt:=top 10
abbrev dh_:Stmt:=top 11
abbrev bz_:Stmt:=top 12
abbrev cm_:Stmt:=top 13
abbrev ca_:Stmt:=top 14
abbrev er_:Stmt:=top 15
abbrev at_:Stmt:=top 17
abbrev gx_:Stmt:=top 18
abbrev cz_:Stmt:=top 19
abbrev di_:Stmt:=top 20
abbrev cq_:Stmt:=top 21
abbrev cr_:Stmt:=top 22
abbrev s_fill:Stmt:=top 23
abbrev fq_:Stmt:=top 27
abbrev ci_:Stmt:=top 28
abbrev bg_:Stmt:=top 29
abbrev cg_:Stmt:=top 30
abbrev gy_:Stmt:=top 31
abbrev ec_:Stmt:=top 32
abbrev cy_:Stmt:=top 33
abbrev s_lay:Stmt:=top 34
abbrev fo_:Stmt:=top 35
abbrev et_:Stmt:=top 36
abbrev ig_:Stmt:=top 37
abbrev eh_:Stmt:=top 38
abbrev ep_:Stmt:=top 39
abbrev eo_:Stmt:=top 40
abbrev es_:Stmt:=top 41
abbrev gw_:Stmt:=top 43
abbrev dk_:Stmt:=top 44
abbrev cn_:Stmt:=top 45
abbrev cc_:Stmt:=top 46
abbrev dr_:Stmt:=top 47
abbrev dl_:Stmt:=top 48
abbrev gi_:Stmt:=top 51
abbrev dq_:Stmt:=top 52
abbrev co_:Stmt:=top 53
abbrev eq_:Stmt:=top 54
abbrev cp_:Stmt:=top 55
abbrev s_law:Stmt:=top 56
theorem sc_is_whole:FnScope ["thing"] ["thing"] (defScope fp_):=⟨rfl,rfl,rfl,by decide +kernel,rfl,by decide +kernel,by decide +kernel⟩
theorem sc_rounded_up:FnScope ["number", "m"] ["number", "m"] (defScope eb_):=⟨rfl,rfl,rfl,by decide +kernel,rfl,by decide +kernel,by decide +kernel⟩
theorem sc_room_of:FnScope ["kind"] ["kind"] (defScope fe_):=⟨rfl,rfl,rfl,by decide +kernel,rfl,by decide +kernel,by decide +kernel⟩
theorem sc_rooms_of:FnScope ["kinds"] ["kinds"] (defScope ei_):=⟨rfl,rfl,rfl,by decide +kernel,rfl,by decide +kernel,by decide +kernel⟩
theorem fu_:FnScope ["rooms"] ["rooms"] (defScope bh_):=⟨rfl,rfl,rfl,by decide +kernel,rfl,by decide +kernel,by decide +kernel⟩
theorem sc_step_of:FnScope ["room"] ["room"] (defScope gh_):=⟨rfl,rfl,rfl,by decide +kernel,rfl,by decide +kernel,by decide +kernel⟩
theorem sc_room_of_row:FnScope ["kind", "n", "room"] ["kind", "n"] (defScope dh_):=⟨rfl,rfl,rfl,by decide +kernel,rfl,by decide +kernel,by decide +kernel⟩
theorem sc_room_of_record:FnScope ["kinds", "rooms", "multiple", "ends"] ["kinds"] (defScope bz_):=⟨rfl,rfl,rfl,by decide +kernel,rfl,by decide +kernel,by decide +kernel⟩
theorem sc_places_behind:FnScope ["rooms", "places", "end", "room", "place"] ["rooms"] (defScope cm_):=⟨rfl,rfl,rfl,by decide +kernel,rfl,by decide +kernel,by decide +kernel⟩
theorem sc_room_of_choice:FnScope ["kinds", "rooms", "multiple", "greatest"] ["kinds"] (defScope ca_):=⟨rfl,rfl,rfl,by decide +kernel,rfl,by decide +kernel,by decide +kernel⟩
theorem sc_chosen_at:FnScope ["multiple"] ["multiple"] (defScope er_):=⟨rfl,rfl,rfl,by decide +kernel,rfl,by decide +kernel,by decide +kernel⟩
theorem sc_places_in_order:FnScope ["fields", "places"] ["fields"] (defScope at_):=⟨rfl,rfl,rfl,by decide +kernel,rfl,by decide +kernel,by decide +kernel⟩
theorem sc_holes_of:FnScope ["kind", "filled", "holes", "begin", "place", "is_filled"] ["kind"] (defScope gx_):=⟨rfl,rfl,rfl,by decide +kernel,rfl,by decide +kernel,by decide +kernel⟩
theorem if_:FnScope ["kind"] ["kind"] (defScope cz_):=⟨rfl,rfl,rfl,by decide +kernel,rfl,by decide +kernel,by decide +kernel⟩
theorem sc_filled_step:FnScope ["kind", "filled"] ["kind"] (defScope di_):=⟨rfl,rfl,rfl,by decide +kernel,rfl,by decide +kernel,by decide +kernel⟩
theorem sc_filled_record:FnScope ["kind", "filled", "field", "placed"] ["kind"] (defScope cq_):=⟨rfl,rfl,rfl,by decide +kernel,rfl,by decide +kernel,by decide +kernel⟩
theorem sc_filled_choice:FnScope ["kind", "room", "filled", "inner"] ["kind"] (defScope cr_):=⟨rfl,rfl,rfl,by decide +kernel,rfl,by decide +kernel,by decide +kernel⟩
theorem sc_fill:FnScope ["filled", "place", "kind", "k", "is_filled"] ["filled", "place", "kind"] (defScope s_fill):=⟨rfl,rfl,rfl,by decide +kernel,rfl,by decide +kernel,by decide +kernel⟩
theorem sc_is_value:FnScope ["kind", "thing"] ["kind", "thing"] (defScope fq_):=⟨rfl,rfl,rfl,by decide +kernel,rfl,by decide +kernel,by decide +kernel⟩
theorem ie_:FnScope ["kind", "n", "thing"] ["kind", "n", "thing"] (defScope ci_):=⟨rfl,rfl,rfl,by decide +kernel,rfl,by decide +kernel,by decide +kernel⟩
theorem gf_:FnScope ["fields", "thing"] ["fields", "thing"] (defScope bg_):=⟨rfl,rfl,rfl,by decide +kernel,rfl,by decide +kernel,by decide +kernel⟩
theorem gg_:FnScope ["kinds", "thing"] ["kinds", "thing"] (defScope cg_):=⟨rfl,rfl,rfl,by decide +kernel,rfl,by decide +kernel,by decide +kernel⟩
theorem sc_bytes_of:FnScope ["kind", "thing"] ["kind", "thing"] (defScope gy_):=⟨rfl,rfl,rfl,by decide +kernel,rfl,by decide +kernel,by decide +kernel⟩
theorem sc_laid_bytes:FnScope ["kind", "value", "laid", "step", "k", "each", "field", "placed"] ["kind", "value"] (defScope ec_):=⟨rfl,rfl,rfl,by decide +kernel,rfl,by decide +kernel,by decide +kernel⟩
theorem sc_number_bytes:FnScope ["w", "value", "some", "rest", "k"] ["w", "value"] (defScope cy_):=⟨rfl,rfl,rfl,by decide +kernel,rfl,by decide +kernel,by decide +kernel⟩
theorem sc_lay:FnScope ["laid", "place", "some", "k", "byte"] ["laid", "place", "some"] (defScope s_lay):=⟨rfl,rfl,rfl,by decide +kernel,rfl,by decide +kernel,by decide +kernel⟩
theorem sc_value_of:FnScope ["kind", "thing", "value"] ["kind", "thing"] (defScope fo_):=⟨rfl,rfl,rfl,by decide +kernel,rfl,by decide +kernel,by decide +kernel⟩
theorem sc_are_bytes:FnScope ["thing", "how_many"] ["thing", "how_many"] (defScope et_):=⟨rfl,rfl,rfl,by decide +kernel,rfl,by decide +kernel,by decide +kernel⟩
theorem sc_is_byte:FnScope ["thing"] ["thing"] (defScope ig_):=⟨rfl,rfl,rfl,by decide +kernel,rfl,by decide +kernel,by decide +kernel⟩
theorem sc_value_at:FnScope ["kind", "some", "place", "step"] ["kind", "some", "place"] (defScope eh_):=⟨rfl,rfl,rfl,by decide +kernel,rfl,by decide +kernel,by decide +kernel⟩
theorem sc_number_at:FnScope ["w", "some", "place", "value", "byte"] ["w", "some", "place"] (defScope ep_):=⟨rfl,rfl,rfl,by decide +kernel,rfl,by decide +kernel,by decide +kernel⟩
theorem sc_record_at:FnScope ["fields", "some", "place", "value", "field", "placed"] ["fields", "some", "place"] (defScope eo_):=⟨rfl,rfl,rfl,by decide +kernel,rfl,by decide +kernel,by decide +kernel⟩
theorem sc_choice_at:FnScope ["kind", "some", "place", "mark"] ["kind", "some", "place"] (defScope es_):=⟨rfl,rfl,rfl,by decide +kernel,rfl,by decide +kernel,by decide +kernel⟩
theorem sc_law_pool:FnScope ["script", "k", "cell"] ["script", "k"] (defScope gw_):=⟨rfl,rfl,rfl,by decide +kernel,rfl,by decide +kernel,by decide +kernel⟩
theorem sc_law_take:FnScope ["pool", "many", "found", "step", "mark"] ["pool", "many"] (defScope dk_):=⟨rfl,rfl,rfl,by decide +kernel,rfl,by decide +kernel,by decide +kernel⟩
theorem sc_law_rounded:FnScope ["number", "m", "left"] ["number", "m"] (defScope cn_):=⟨rfl,rfl,rfl,by decide +kernel,rfl,by decide +kernel,by decide +kernel⟩
theorem sc_law_room:FnScope ["kind", "room", "most", "parts", "end", "multiple", "begin"] ["kind"] (defScope cc_):=⟨rfl,rfl,rfl,by decide +kernel,rfl,by decide +kernel,by decide +kernel⟩
theorem sc_law_names:FnScope ["pool", "many", "letters", "stem", "found", "k", "name", "way", "at", "turn"] ["pool", "many"] (defScope dr_):=⟨rfl,rfl,rfl,by decide +kernel,rfl,by decide +kernel,by decide +kernel⟩
theorem sc_law_kind:FnScope ["pool", "deep", "most", "way", "kind", "found", "many"] ["pool", "deep", "most"] (defScope dl_):=⟨rfl,rfl,rfl,by decide +kernel,rfl,by decide +kernel,by decide +kernel⟩
theorem sc_law_top:FnScope ["width", "found", "k"] ["width"] (defScope gi_):=⟨rfl,rfl,rfl,by decide +kernel,rfl,by decide +kernel,by decide +kernel⟩
theorem sc_law_value:FnScope ["pool", "kind", "top", "found", "name", "inner", "k"] ["pool", "kind"] (defScope dq_):=⟨rfl,rfl,rfl,by decide +kernel,rfl,by decide +kernel,by decide +kernel⟩
theorem sc_law_chooses:FnScope ["kind"] ["kind"] (defScope co_):=⟨rfl,rfl,rfl,by decide +kernel,rfl,by decide +kernel,by decide +kernel⟩
theorem sc_law_any_right:FnScope ["pool", "kind", "idle", "row", "begin", "end", "place", "value"] ["pool", "kind", "idle"] (defScope cp_):=⟨rfl,rfl,rfl,by decide +kernel,rfl,by decide +kernel,by decide +kernel⟩
theorem sc_law:FnScope ["script", "k", "pool", "most", "kind", "row", "idle", "begin", "end", "place", "byte"] ["script"] (defScope s_law):=⟨rfl,rfl,rfl,by decide +kernel,rfl,by decide +kernel,by decide +kernel⟩
theorem bnd12 {n:Nat} (h:n≤12):bnd n < 2 ^ 150:=Int.lt_of_le_of_lt (gs_ h) (by decide)
section
variable {P:Program} {w:World} {K:FG_} {mg:MG_} {base:Heap} {f g fRU fGM fPB fRS fRO fRR fRC fRH fSO fCA:Addr} {fd gd dRU dGM dPB dRS dRO dRR dRC dRH dSO dCA:FuncData} {n j:Nat}
theorem ok_at:∀ {ks:List Kd} {i:Nat} {k:Kd},okK ks→ks[i]? = some k→k.Ok∧k.deep≤deepK ks
  | [],_,_,_,e=>by simp at e
  | k' :: r,0,k,h,e=>by simp at e; subst e; exact ⟨h.1,Nat.le_max_left _ _⟩
  | k' :: r,i + 1,k,h,e=>by obtain ⟨a,b⟩:=ok_at (i:=i) h.2 (by simpa using e); exact ⟨a,Nat.le_trans b (Nat.le_max_right _ _)⟩
theorem rmK_at:∀ {ks:List Kd} {i:Nat} {k:Kd},ks[i]? = some k→(rmK ks)[i]? = some k.rm
  | [],_,_,e=>by simp at e
  | k' :: r,0,k,e=>by simp at e; subst e; rfl
  | k' :: r,i + 1,k,e=>by show (rmK r)[i]? = _; exact rmK_at (by simpa using e)
theorem bdK12 {ks:List Kd} (h:okK ks) (hd:deepK ks≤n) (hn:n≤12):∀ r∈rmK ks,Bd (2 ^ 150) r:=fun r hr=>(bdK ks h r hr).mono (Int.le_of_lt (bnd12 (Nat.le_trans hd hn)))
theorem bd12 {k:Kd} (h:k.Ok) (hd:k.deep≤n) (hn:n≤12):Bd (2 ^ 150) k.rm:=(Kd.bd k h).mono (Int.le_of_lt (bnd12 (Nat.le_trans hd hn)))
theorem dtF_len:∀ (fs:List (Str×Kd)),(dtF fs).length=fs.length
  | []=>rfl
  | k :: r=>by show (dtF r).length + 1=_; rw [dtF_len r]; rfl
theorem okF_map:∀ {fs:List (Str×Kd)},okF fs→okK (fs.map (·.2))
  | [],_=>trivial
  | f :: r,h=>⟨h.1,okF_map h.2⟩
theorem ix_:∀ (fs:List (Str×Kd)),deepK (fs.map (·.2))=deepF fs
  | []=>rfl
  | f :: r=>by show max f.2.deep (deepK (r.map (·.2)))=_; rw [ix_ r]; rfl
theorem rmF_map:∀ (fs:List (Str×Kd)),rmK (fs.map (·.2))=rmF fs
  | []=>rfl
  | f :: r=>by show f.2.rm :: rmK (r.map (·.2))=_; rw [rmF_map r]; rfl
end
def PoolAt (p:Addr) (md B:Int) (H:Hp):Prop := ∃ c st:Int,H p=some (.lst [.int c,.int md,.int st])∧0≤st∧st≤B
theorem PoolAt.mono {p:Addr} {md B C:Int} {H:Hp} (h:PoolAt p md B H) (hb:B≤C):PoolAt p md C H:=by
  obtain ⟨c,st,a,b,d⟩:=h
  exact ⟨c,st,a,b,by omega⟩
theorem PoolAt.same {p:Addr} {md B:Int} {H H':Hp} (h:PoolAt p md B H) (e:Same H H'):PoolAt p md B H':=by
  obtain ⟨c,st,a,b,d⟩:=h
  exact ⟨c,st,e _ _ a,b,d⟩
theorem PoolAt.ne {p l:Addr} {md B:Int} {H:Hp} (h:PoolAt p md B H) (hl:H l=none):l≠p:=by
  obtain ⟨c,st,a,b,d⟩:=h
  intro e
  rw [e,a] at hl
  cases hl
def spTake:Sp:=fun vs H Q _ => ∃ (p:Addr) (md B many:Int),vs=[.ref p,.int many]∧PoolAt p md B H∧B < 2 ^ 60∧0 < many∧many < 2 ^ 250 ∧
  ∀ (r:Int) (H':Hp),0≤r→r < many→SameX p H H'→PoolAt p md (B + 1) H'→Q (.int r) H'
section
variable {P:Program} {w:World} {K:FG_} {mg:MG_} {base:Heap} {f g:Addr} {fd gd:FuncData}
theorem ok_take (F:Fun K "_law_take" "_law_take" dk_ f fd):FnOk P w K mg base CX0 1 f fd ["pool", "many"] spTake:=by
  refine F.ok sc_law_take (fun vs H Q E h => ?_) (fun cdv A outer s H vs Q E hr h => ?_)
  · obtain ⟨p, md, B, many, rfl, _⟩ := h
    rfl
  obtain ⟨p,md,B,many,rfl,⟨c,st,hp,h0,h1⟩,hB,h2,h3,q⟩:=h
  refine ⟨_,ba_ (ps_if (gz_ op_eq (fh_ dd_ (pv 0) aw_ (fun _ _=>rfl)) aw_ (nomark _))
      (ba_ (ak_ (i:=2) sc_law_take.nd rfl (Or.inl rfl) (db_ op_mod (fh_ dd_ (pv 0) aw_ (fun _ _=>rfl)) (pv 1)))
      (ba_ (fw_ (db_ op_fdivB (fh_ dd_ (pv 0) aw_ (fun _ _=>rfl)) (pv 1)) (gj_ (pv 0) aw_ dg_))
      (ev_ (ps_ret (pv 2))))) pss_nil)
    (ba_ (fw_ (db_ op_add (fh_ dd_ (pv 0) aw_ (fun _ _=>rfl)) aw_) (gj_ (pv 0) aw_ dg_))
    (ba_ (ak_ (i:=3) sc_law_take.nd rfl (Or.inl rfl) (fh_ dd_ (pv 0) aw_ (fun _ _=>rfl)))
    (ba_ (ak_ (i:=4) sc_law_take.nd rfl (Or.inl rfl) (db_ op_mulB (db_ op_add (db_ op_mod (fh_ dd_ (pv 0) aw_ (fun _ _=>rfl)) aw_) aw_) (db_ op_add (db_ op_mulB aw_ (pv 3)) aw_)))
    (ba_ (ak_ (i:=4) sc_law_take.nd rfl (Or.inl rfl) (db_ op_add (pv 4) (db_ op_mulB (db_ op_mulB aw_ (pv 3)) (pv 3))))
    (ba_ (ak_ (i:=4) sc_law_take.nd rfl (Or.inl rfl) (db_ op_mod (db_ op_mulB (pv 4) (pv 4)) aw_))
    (ev_ (ps_ret (db_ op_mod (db_ op_fdivB (db_ op_mod (db_ op_mulB (pv 4) (db_ op_add (pv 4) aw_)) aw_) aw_) (pv 1))))))))),?_⟩
  refine ⟨_,rfl,p,_,_,_,rfl,rfl,SqL.of hp,rfl,rfl,_,rfl,?_⟩
  refine ite2 (fun e => ?_) (fun e => ?_)
  · refine ⟨_, rfl, p, _, _, _, rfl, rfl, SqL.of hp, rfl, _, rfl, _, _, rfl, rfl, h2, ?_⟩
    refine ⟨_,rfl,p,_,_,_,rfl,rfl,SqL.of hp,rfl,_,rfl,_,_,rfl,rfl,⟨h2,h3⟩,_,rfl,p,_,_,_,rfl,rfl,hp,rfl,?_⟩
    refine ⟨_,rfl,?_⟩
    exact q (c % many) _ (Int.emod_nonneg _ (by omega)) (Int.emod_lt_of_pos _ h2) (SameX.upd _ _ _) ⟨c / many,st,upd_same,h0,by omega⟩
  · refine ⟨_, rfl, p, _, _, _, rfl, rfl, SqL.of hp, rfl, _, _, rfl, rfl, _, rfl, p, _, _, _, rfl, rfl, hp, rfl, ?_⟩
    have a0:(0:Int)≤c % 9999999619:=Int.emod_nonneg _ (by decide)
    have a1:c % 9999999619 < 9999999619:=Int.emod_lt_of_pos _ (by decide)
    have hp1:(upd H p (HO.lst [V.int c,V.int md,V.int (st + 1)])) p=some (.lst [V.int c,V.int md,V.int (st + 1)]):=upd_same
    refine ⟨_,rfl,p,_,_,_,rfl,rfl,SqL.of hp1,rfl,?_⟩
    refine ⟨_,rfl,p,_,_,_,rfl,rfl,SqL.of hp1,rfl,_,_,rfl,rfl,(by show (0:Int) < 9999999619; decide),_,_,rfl,rfl,_,rfl,_,_,rfl,rfl,⟨by decide,by omega⟩,_,_,rfl,rfl,_,_,rfl,rfl,⟨by omega,by omega⟩,?_⟩
    have m1:0≤(c % 9999999619 + 983) * (23 * (st + 1) + 53):=Int.mul_nonneg (by omega) (by omega)
    have m2:(c % 9999999619 + 983) * (23 * (st + 1) + 53)≤10000000602 * (23 * (st + 1) + 53):=Int.mul_le_mul_of_nonneg_right (by omega) (by omega)
    have m3:0≤3491 * (st + 1) * (st + 1):=Int.mul_nonneg (by omega) (by omega)
    have m4:3491 * (st + 1) * (st + 1)≤3491 * (st + 1) * 2 ^ 61:=Int.mul_le_mul_of_nonneg_left (by omega) (by omega)
    refine ⟨_,rfl,_,rfl,_,_,rfl,rfl,⟨by decide,by omega⟩,_,rfl,_,_,rfl,rfl,⟨by omega,by omega⟩,_,_,rfl,rfl,?_⟩
    generalize (c % 9999999619 + 983) * (23 * (st + 1) + 53)=A1 at m1 m2 ⊢
    generalize 3491 * (st + 1) * (st + 1)=A2 at m3 m4 ⊢
    refine ⟨_,rfl,_,rfl,_,_,rfl,rfl,⟨by omega,by omega⟩,_,_,rfl,rfl,(by show (0:Int) < 99999999659; decide),?_⟩
    have b0:(0:Int)≤(A1 + A2) * (A1 + A2) % 99999999659:=Int.emod_nonneg _ (by decide)
    have b1:(A1 + A2) * (A1 + A2) % 99999999659 < 99999999659:=Int.emod_lt_of_pos _ (by decide)
    generalize (A1 + A2) * (A1 + A2) % 99999999659=B2 at b0 b1 ⊢
    refine ⟨_,rfl,_,rfl,_,_,rfl,rfl,_,_,rfl,rfl,⟨by omega,by omega⟩,_,_,rfl,rfl,(by show (0:Int) < 99999999929; decide),_,_,rfl,rfl,⟨by decide,by decide⟩,_,rfl,_,_,rfl,rfl,h2,?_⟩
    exact q _ _ (Int.emod_nonneg _ (by omega)) (Int.emod_lt_of_pos _ h2) (SameX.upd _ _ _) ⟨c,st + 1,upd_same,by omega,by omega⟩
end
def codes (x:Str):List Nat:=x.cps.toList
theorem bp_ (x:Str):x.length=(codes x).length:=by simp [codes,Str.length]
theorem gp_ (x y:Str):codes (x ++ y)=codes x ++ codes y:=by
  show (x.cps ++ y.cps).toList=_
  rw [Array.toList_append]
  rfl
theorem iz_ (c:Nat):codes ⟨#[c]⟩=[c]:=rfl
theorem codes_to {x:Str} {k:Int} (h0:0≤k) (h1:k≤(codes x).length):codes (Txt.slice x none (some k))=(codes x).take k.toNat:=by
  have e:=beq_iff_eq.mp (PyProof.Rows.slice_closes_toL (x:=x) h0 (by rw [bp_]; exact h1))
  rw [e]
  show (((x.cps.toList.drop 0).take (k - 0).toNat).toArray).toList=_
  simp [codes]
theorem codes_from {x:Str} {k:Int} (h0:0≤k) (h1:k≤(codes x).length):codes (Txt.slice x (some k) none)=(codes x).drop k.toNat:=by
  rw [PyProof.Rows.slice_from_eq (x:=x) (b:=x.length) h0 (by rw [bp_]; exact h1) rfl]
  show (((x.cps.toList.drop k.toNat).take ((x.length:Int) - k).toNat).toArray).toList=_
  rw [List.toList_toArray,List.take_of_length_le]
  · rfl
  · rw [List.length_drop, bp_]
    show x.cps.toList.length - k.toNat≤(((codes x).length:Int) - k).toNat
    show (codes x).length - k.toNat≤(((codes x).length:Int) - k).toNat
    omega
theorem glue_fold (g:Array Nat) (hg:g = #[]):∀ (r:List Str) (acc:Array Nat),(r.foldl (fun acc p=>acc ++ g ++ p.cps) acc).toList=acc.toList ++ (r.map codes).flatten
  | [],acc=>by simp
  | y :: r, acc => by
    rw [List.foldl_cons,glue_fold g hg r]
    subst hg
    simp [codes]
theorem codes_join (ys:List Str):codes (Txt.join (Str.ofString "") ys)=(ys.map codes).flatten:=by
  show ((ys.drop 1).foldl (fun acc p=>acc ++ (Str.ofString "").cps ++ p.cps) (ys.headD Str.empty).cps).toList=_
  rw [glue_fold _ (by decide)]
  cases ys with
  | nil=>rfl
  | cons y r=>rfl
def Low (l:List Nat):Prop := ∀ c∈l,97≤c∧c≤122
def Nm (x:Str):Prop:=1≤(codes x).length∧(codes x).length≤8∧Low (codes x)
abbrev lets:Str := "abcdefghijklmnopqrstuvwxyz"
theorem lets_codes:codes lets=(List.range 26).map (97 + ·):=by decide +kernel
theorem lets_at {r:Int} (h0:0≤r) (h1:r < 26):atI lets.cps.toList r=some (97 + r.toNat):=by
  have e:((r.toNat:Nat):Int)=r:=by omega
  have q:atI (codes lets) ((r.toNat:Nat):Int)=some (97 + r.toNat):=gd_ (by
    rw [lets_codes,List.getElem?_map,List.getElem?_range (by omega)]
    rfl)
  rw [e] at q
  exact q
def cand (t:Nat):Str:=Txt.mul ⟨#[97 + t]⟩ 8
theorem he_ (t:Nat):codes (cand t)=List.replicate 8 (97 + t):=PyProof.Rows.mul_one_list (97 + t) 8
theorem cand_inj {s t:Nat} (h:cand s=cand t):s=t:=by
  have e:=congrArg codes h
  rw [he_,he_] at e
  have e1:(97 + s) :: List.replicate 7 (97 + s)=(97 + t) :: List.replicate 7 (97 + t):=e
  have:=(List.cons.inj e1).1
  omega
theorem cand_nm {t:Nat} (h:t < 26):Nm (cand t):=by
  unfold Nm
  rw [he_]
  refine ⟨by simp,by simp,fun c hc => ?_⟩
  have:=(List.mem_replicate.mp hc).2
  omega
theorem pigeon {α:Type} [BEq α] [LawfulBEq α]:∀ (l xs:List α),l.Nodup→(∀ a∈l,a∈xs)→l.length≤xs.length
  | [],_,_,_=>Nat.zero_le _
  | a :: r, xs, hn, hs => by
    have ha:=hs a List.mem_cons_self
    obtain ⟨h1,h2⟩:=List.nodup_cons.mp hn
    have ih:=pigeon r (xs.erase a) h2 fun b hb=>(List.mem_erase_of_ne (fun e=>h1 (by rw [← e]; exact hb))).mpr (hs b (List.mem_cons_of_mem _ hb))
    rw [List.length_erase_of_mem ha] at ih
    have:=List.length_pos_of_mem ha
    rw [List.length_cons]
    omega
theorem cands_le {xs:List Str} {t:Nat} (h:∀ j < t,cand j∈xs):t≤xs.length:=by
  have q:=pigeon ((List.range t).map cand) xs ?_ ?_
  · rw [List.length_map, List.length_range] at q
    exact q
  · refine List.nodup_iff_pairwise_ne.mpr (List.pairwise_map.mpr ?_)
    exact List.Pairwise.imp (fun hab e=>hab (cand_inj e)) (List.nodup_iff_pairwise_ne.mp List.nodup_range)
  · intro a ha
    obtain ⟨j,hj,rfl⟩:=List.mem_map.mp ha
    exact h j (List.mem_range.mp hj)
theorem inV_strs {x:Str}:∀ {xs:List Str},inV (.str x) (xs.map V.str)=true↔x∈xs:=by
  intro xs
  unfold inV
  rw [List.any_map,List.any_eq_true]
  constructor
  · rintro ⟨y, hy, e⟩
    have e':(y == x)=true:=e
    have:y=x:=by simpa using e'
    rw [← this]
    exact hy
  · intro h
    exact ⟨x,h,(beq_self_eq_true x:(x == x)=true)⟩
theorem flat_strs {xs:List Str}:(xs.map V.str).all flatV=true:=by
  rw [List.all_map,List.all_eq_true]
  intro y _
  rfl
theorem Nm.sz {x:Str} (h:Nm x):x.length≤1000:=by
  have:=h.2.1
  rw [bp_]
  omega
theorem im_ (c:Nat):(⟨#[c]⟩ : Str).length=1:=rfl
theorem nm_free {st:Str} {r s:Int} (h7:(codes st).length=7) (hl:Low (codes st)) (h0:0≤r) (h1:r < 8) (h2:0≤s) (h3:s < 26) :
    Nm (Txt.slice st none (some r) ++ ⟨#[97 + s.toNat]⟩)∧(Txt.slice st none (some r)).length≤7:=by
  have e:=codes_to (x:=st) h0 (by omega)
  constructor
  · unfold Nm
    rw [gp_,e,iz_]
    refine ⟨by simp,by simp; omega,fun c hc => ?_⟩
    rcases List.mem_append.mp hc with hc | hc
    · exact hl c (List.mem_of_mem_take hc)
    · have := List.mem_singleton.mp hc
      omega
  · rw [bp_, e, List.length_take]
    omega
theorem nm_join {ys:List Str} (hl:∀ y∈ys,∃ j:Nat,j < 26∧y=⟨#[97 + j]⟩) (h1:1≤ys.length) (h8:ys.length≤8):Nm (Txt.join (Str.ofString "") ys):=by
  unfold Nm
  rw [codes_join]
  have key:∀ zs:List Str,(∀ y∈zs,∃ j:Nat,j < 26∧y=⟨#[97 + j]⟩)→((zs.map codes).flatten).length=zs.length∧Low (zs.map codes).flatten:=by
    intro zs
    induction zs with
    | nil=>intro _; exact ⟨rfl,fun c hc=>by simp at hc⟩
    | cons z r ih =>
      intro h
      obtain ⟨a,b⟩:=ih fun y hy=>h y (List.mem_cons_of_mem _ hy)
      obtain ⟨j,hj,rfl⟩:=h z List.mem_cons_self
      rw [List.map_cons,List.flatten_cons,iz_]
      refine ⟨by rw [List.length_append,a]; simp; omega,fun c hc => ?_⟩
      rcases List.mem_append.mp hc with hc | hc
      · have := List.mem_singleton.mp hc
        omega
      · exact b c hc
  obtain ⟨a,b⟩:=key ys hl
  exact ⟨by omega,by omega,b⟩
theorem nm_twin {x:Str} {r s:Int} (hx:Nm x) (h0:0≤r) (h1:r < x.length) (h2:0≤s) (h3:s < 26) :
    Nm (Txt.slice x none (some r) ++ ⟨#[97 + s.toNat]⟩ ++ Txt.slice x (some (r + 1)) none)∧(Txt.slice x none (some r)).length≤8∧(Txt.slice x (some (r + 1)) none).length≤8:=by
  obtain ⟨a,b,c⟩:=hx
  rw [bp_] at h1
  have e:=codes_to (x:=x) h0 (by omega)
  have e2:=codes_from (x:=x) (k:=r + 1) (by omega) (by omega)
  refine ⟨?_,?_,?_⟩
  · unfold Nm
    rw [gp_,gp_,e,e2,iz_]
    refine ⟨by simp; omega,by simp; omega,fun z hz => ?_⟩
    rcases List.mem_append.mp hz with hz | hz
    · rcases List.mem_append.mp hz with hz | hz
      · exact c z (List.mem_of_mem_take hz)
      · have := List.mem_singleton.mp hz
        omega
    · exact c z (List.mem_of_mem_drop hz)
  · rw [bp_, e, List.length_take]
    omega
  · rw [bp_, e2, List.length_drop]
    omega
def Stem (st:Str):Prop:=(codes st).length=7∧Low (codes st)
theorem stem_in {v:V} (h:v∈[V.str "abcdefg",V.str "placeof",V.str "zyxwvut",V.str "kjqrshn"]):∃ st:Str,v=.str st∧Stem st:=by
  have L:∀ st:Str,((codes st).length == 7 && (codes st).all fun c=>decide (97≤c) && decide (c≤122))=true→Stem st:=by
    intro st h
    rw [Bool.and_eq_true,List.all_eq_true] at h
    refine ⟨by simpa using h.1,fun c hc => ?_⟩
    have:=h.2 c hc
    simpa using this
  simp only [List.mem_cons,List.not_mem_nil,or_false] at h
  rcases h with rfl | rfl | rfl | rfl
  · exact ⟨_,rfl,L _ (by decide +kernel)⟩
  · exact ⟨_,rfl,L _ (by decide +kernel)⟩
  · exact ⟨_,rfl,L _ (by decide +kernel)⟩
  · exact ⟨_,rfl,L _ (by decide +kernel)⟩
def LnH (H0:Hp) (p l:Addr) (md:Int) (xs:List Str) (B:Int) (H:Hp):Prop:=H l=some (.lst (xs.map V.str))∧SameX p H0 H∧PoolAt p md B H
theorem LnH.take {H0:Hp} {p l:Addr} {md:Int} {xs:List Str} {B C:Int} {H H':Hp} (h:LnH H0 p l md xs B H) (n:l≠p) (e:SameX p H H') (q:PoolAt p md C H'):LnH H0 p l md xs C H' :=
  ⟨e.get n h.1,h.2.1.trans e,q⟩
theorem LnH.same {H0:Hp} {p l:Addr} {md:Int} {xs:List Str} {B:Int} {H H':Hp} (h:LnH H0 p l md xs B H) (e:Same H H'):LnH H0 p l md xs B H' :=
  ⟨e _ _ h.1,h.2.1.trans (SameX.of e),h.2.2.same e⟩
theorem LnH.mono {H0:Hp} {p l:Addr} {md:Int} {xs:List Str} {B C:Int} {H:Hp} (h:LnH H0 p l md xs B H) (hb:B≤C):LnH H0 p l md xs C H:=⟨h.1,h.2.1,h.2.2.mono hb⟩
theorem LnH.add {H0:Hp} {p l:Addr} {md:Int} {xs:List Str} {B:Int} {H:Hp} {x:Str} (h:LnH H0 p l md xs B H) (n:l≠p) (hl:H0 l=none):LnH H0 p l md (xs ++ [x]) B (upd H l (.lst (xs.map V.str ++ [.str x]))):=by
  obtain ⟨a,b,c,st,d,d1,d2⟩:=h
  refine ⟨?_,fun q o hq => ?_,c,st,?_,d1,d2⟩
  · rw [upd_same, List.map_append]
    rfl
  · obtain ⟨nq, eq⟩ := iv_ hq
    have:q≠l:=fun e=>by rw [e,hl] at eq; cases eq
    rw [gc_ nq,al_ this]
    exact b.get nq eq
  · rw [al_ (Ne.symm n)]
    exact d
abbrev lnS (p l:Addr) (many:Int) (stem:Str) (o5 o6 o7 o8 o9:Option V):St:=[some (.ref p),some (.int many),some (.str lets),some (.str stem),some (.ref l),o5,o6,o7,o8,o9]
theorem len_app (x y:Str):(x ++ y).length=x.length + y.length:=by rw [bp_,gp_,List.length_append,bp_ x,bp_ y]
theorem ones_sum:∀ {ys:List Str},(∀ y∈ys,∃ j:Nat,j < 26∧y=⟨#[97 + j]⟩)→(ys.map (·.length)).sum=ys.length
  | [],_=>rfl
  | y :: r, h => by
    obtain ⟨j,_,rfl⟩:=h y List.mem_cons_self
    rw [List.map_cons,List.sum_cons,ones_sum fun y hy=>h y (List.mem_cons_of_mem _ hy),List.length_cons,im_]
    omega
theorem last_str {xs:List Str} (h:xs≠[]):∃ y∈xs,atI (xs.map V.str) (-1)=some (.str y):=by
  refine ⟨xs.getLast h,List.getLast_mem h,?_⟩
  have e:xs.map V.str=(xs.dropLast).map V.str ++ [V.str (xs.getLast h)]:=by
    conv=>lhs; rw [← List.dropLast_concat_getLast h]
    rw [List.map_append]
    rfl
  rw [e]
  exact atI_last _ _
def spLN:Sp:=fun vs H Q _ => ∃ (p:Addr) (md B many:Int),vs=[.ref p,.int many]∧PoolAt p md B H∧0≤many∧many≤12∧B + 1000 < 2 ^ 60 ∧
  ∀ (l:Addr) (xs:List Str) (H':Hp),l≠p→H l=none→H' l=some (.lst (xs.map V.str))→xs.length=many.toNat→xs.Nodup→(∀ x∈xs,Nm x)→SameX p H H'→PoolAt p md (B + 200) H'→Q (.ref l) H'
section
variable {P:Program} {w:World} {K:FG_} {mg:MG_} {base:Heap} {f fT:Addr} {fd dT:FuncData} {n j:Nat}
theorem ok_ln (F:Fun K "_law_names" "_law_names" dr_ f fd) (GT:FnOk P w K mg base CX0 1 fT dT ["pool", "many"] spTake) (bT:Binds K dT ["pool", "many"] []) (kT:PySem.W.keepIn K (.ref fT)=true) (mT:mg "_law_take" = some (.ref fT))
    (m_range:mg "range" = none) (m_len:mg "len" = none):FnOk P w K mg base CX0 2 f fd ["pool", "many"] spLN:=by
  refine F.ok sc_law_names (fun vs H Q E h => ?_) (fun cdv A outer s H vs Q E hr h => ?_)
  · obtain ⟨p, md, B, many, rfl, _⟩ := h
    rfl
  obtain ⟨p,md,B,many,rfl,hp,hm0,hm1,hB,q⟩:=h
  have hu:=hr.units0
  refine ⟨_,(ba_ (ak_ (i:=2) sc_law_names.nd rfl (Or.inr rfl) hg_)
    (ba_ (ak_ (i:=3) sc_law_names.nd rfl (Or.inl rfl) (fh_ dd_ (pe_lst (au_ hg_ (au_ hg_ (au_ hg_ (au_ hg_ cf_))))) (ex_ GT hr rfl mT kT bT .nil pass0 (au_ (pv 0) (au_ aw_ cf_))) (fun _ _=>rfl)))
    (ba_ (ak_ (i:=4) sc_law_names.nd rfl (Or.inl rfl) (pe_lst cf_))
    (ba_ (ps_for PassesOwn.never rfl (ik_ rfl m_range (au_ (pv 1) cf_)) (aj_ (i:=5) sc_law_names.nd rfl (Or.inl rfl)) (ba_ (ak_ (i:=6) sc_law_names.nd rfl (Or.inl rfl) (db_ op_add_str (hp_ sl_str (pv 3) po_none (po_some (ex_ GT hr rfl mT kT bT .nil pass0 (au_ (pv 0) (au_ aw_ cf_))))) (fh_ ix_str (pv 2) (ex_ GT hr rfl mT kT bT .nil pass0 (au_ (pv 0) (au_ aw_ cf_))) (fun _ _=>rfl))))
    (ba_ (ak_ (i:=7) sc_law_names.nd rfl (Or.inl rfl) (ex_ GT hr rfl mT kT bT .nil pass0 (au_ (pv 0) (au_ aw_ cf_))))
    (ba_ (ps_mid (ps_if (gz_ op_eq (pv 7) aw_ (nomark _)) (ev_ (ak_ (i:=6) sc_law_names.nd rfl (Or.inl rfl) (pe_bm PySem.F.plainAttrs_str PySem.F.slot_str_join PySem.F.type_str_join mt_join hg_ (au_ (pe_comp (dsc:=defScope dr_) (N:=["pool", "many", "letters", "stem", "found", "k", "name", "way", "at", "turn"]) (tgs:=["turn"]) (outs:=[0,2]) (N':=["turn", "pool", "letters"]) ⟨rfl,by decide +kernel,by decide +kernel,by decide +kernel,rfl,by decide +kernel,by decide +kernel,by decide +kernel⟩ (ik_ rfl m_range (au_ (db_ op_add aw_ (ex_ GT hr rfl mT kT bT .nil pass0 (au_ (pv 0) (au_ aw_ cf_)))) cf_)) (fun _ _ _ _ _=>(aj_ (i:=0) (show (["turn", "pool", "letters"]:List Str).Nodup by decide +kernel) rfl (Or.inl rfl) (.inr rfl))) (bt_ (by decide)) (fun _ _ _ _ _=>pcs_nil) (fun _ _ _ _ _=>(fh_ ix_str (pv 2) (ex_ GT hr rfl mT kT bT .nil pass0 (au_ (pv 1) (au_ aw_ cf_))) (fun _ _=>rfl)))) cf_)))) pss_nil))
    (ba_ (ps_mid (ps_if (PW.pt (pw_and (gz_ op_eq (pv 7) aw_ (nomark _)) (pw_and1 (gz_ (op_neNil hu) (pv 4) (pe_lst cf_) (nomark _))))) (ba_ (ak_ (i:=8) sc_law_names.nd rfl (Or.inl rfl) (ex_ GT hr rfl mT kT bT .nil pass0 (au_ (pv 0) (au_ (pe_callB call_len_str rfl m_len PySem.boot_len (au_ (fh_ dd_ (pv 4) (pe_un un_neg aw_) (fun _ _=>rfl)) cf_)) cf_))))
    (ev_ (ak_ (i:=6) sc_law_names.nd rfl (Or.inl rfl) (db_ op_add_str (db_ op_add_str (hp_ sl_str (fh_ dd_ (pv 4) (pe_un un_neg aw_) (fun _ _=>rfl)) po_none (po_some (pv 8))) (fh_ ix_str (pv 2) (ex_ GT hr rfl mT kT bT .nil pass0 (au_ (pv 0) (au_ aw_ cf_))) (fun _ _=>rfl))) (hp_ sl_str (fh_ dd_ (pv 4) (pe_un un_neg aw_) (fun _ _=>rfl)) (po_some (db_ op_add (pv 8) aw_)) po_none))))) pss_nil))
    (ba_ (ak_ (i:=9) sc_law_names.nd rfl (Or.inl rfl) aw_)
    (ba_ (ps_while PassesOwn.never (gz_ op_in_seq (pv 6) (pv 4) (by with_unfolding_all rfl)) (ba_ (ak_ (i:=6) sc_law_names.nd rfl (Or.inl rfl) (db_ op_mul_str (fh_ ix_str (pv 2) (pv 9) (fun _ _=>rfl)) aw_))
    (ev_ (ak_ (i:=9) sc_law_names.nd rfl (Or.inl rfl) (db_ op_add (pv 9) aw_)))))
    (ev_ (fz_ (pe_bm PySem.F.plainAttrs_list PySem.F.slot_list_append PySem.F.type_list_append fj_ (pv 4) (au_ (pv 6) cf_)))))))))))
    (ev_ (ps_ret (pv 4))))))),?_⟩
  have ll:lets.length≤sizeLine:=by show 26≤sizeLine; exact lists3 26 (by decide)
  refine ⟨lists3 4 (by decide),fun s0 hs0=>⟨_,rfl,p,md,B,4,rfl,hp.same (ea_ hs0 _),by omega,by decide,by decide,fun r H1 r0 r1 e1 hP1 => ?_⟩⟩
  have e1':SameX p H H1:=(SameX.of (ea_ hs0 _)).trans e1
  obtain ⟨v,hv,hvm⟩:=atI_in (xs:=[V.str "abcdefg",V.str "placeof",V.str "zyxwvut",V.str "kjqrshn"]) r0 r1
  obtain ⟨st,rfl,hst7,hstL⟩:=stem_in hvm
  have hs0p:s0≠p:=hp.ne hs0
  refine ⟨s0,_,_,_,rfl,rfl,SqL.of (e1.get hs0p upd_same),hv,?_⟩
  refine ⟨lists3 0 (by decide),fun l hl => ?_⟩
  have hlp:l≠p:=hP1.ne hl
  have hl0:H l=none:=by
    cases z:H l with
    | none=>rfl
    | some o=>rw [e1'.get hlp z] at hl; cases hl
  have L0:LnH H p l md [] (B + 1) (upd H1 l (.lst [])):=⟨upd_same,e1'.trans (SameX.of (ea_ hl _)),hP1.same (ea_ hl _)⟩
  refine ⟨_,rfl,many,rfl,by omega,by omega,?_⟩
  refine for_range (n:=many.toNat) (fun i σ' H' => ∃ (xs:List Str) (o5 o6 o7 o8 o9:Option V),σ'=lnS p l many st o5 o6 o7 o8 o9∧xs.length=i∧xs.Nodup∧(∀ x∈xs,Nm x)∧LnH H p l md xs (B + 1 + 14 * (i:Int)) H') ?_ ?_ ?_
  · exact ⟨[],_,_,_,_,_,rfl,rfl,List.nodup_nil,(fun x hx=>nomatch hx),L0.mono (by omega)⟩
  · rintro i σ' H2 hi ⟨xs, o5, o6, o7, o8, o9, rfl, hxl, hnd, hnm, L2⟩
    have sl7:st.length≤sizeLine:=by rw [bp_,hst7]; exact lists3 7 (by decide)
    refine ⟨_,rfl,_,rfl,p,md,_,8,rfl,L2.2.2,by omega,by decide,by decide,fun r2 H3 r20 r21 e3 hP3=>⟨_,rfl,_,rfl,sl7,?_⟩⟩
    have L3:=L2.take hlp e3 hP3
    refine ⟨_,rfl,_,rfl,p,md,_,26,rfl,hP3,by omega,by decide,by decide,fun r3 H4 r30 r31 e4 hP4=>⟨_,_,_,rfl,rfl,ll,lets_at r30 r31,?_⟩⟩
    have L4:=L3.take hlp e4 hP4
    obtain ⟨nm0,sz0⟩:=nm_free hst7 hstL r20 r21 r30 r31
    refine ⟨_,_,rfl,rfl,lists3 _ (by rw [im_]; omega),?_⟩
    refine ⟨_,rfl,p,md,_,3,rfl,hP4,by omega,by decide,by decide,fun way H5 r40 r41 e5 hP5 => ?_⟩
    have L5:=L4.take hlp e5 hP5
    generalize hB5:B + 1 + 14 * (i:Int) + 1 + 1 + 1=B5 at L5 hP5
    clear L4 L3 hP4 hP3 e3 e4 e5
    generalize Txt.slice st none (some r2) ++ (⟨#[97 + r3.toNat]⟩ : Str)=nmA at nm0 ⊢
    refine ⟨fun σ' H' => ∃ (nm:Str),σ'=lnS p l many st (some (.int (0 + (i:Int)))) (some (.str nm)) (some (.int way)) o8 o9∧Nm nm∧LnH H p l md xs (B5 + 9) H',?_,?_⟩
    · refine ⟨_, rfl, rfl, _, rfl, ite2 (fun c => ?_) (fun c => ⟨nmA, rfl, nm0, L5.mono (by omega)⟩)⟩
      refine ⟨rfl,_,rfl,p,md,B5,8,rfl,hP5,by omega,by decide,by decide,fun r6 H6 r60 r61 e6 hP6=>⟨_,_,rfl,rfl,_,rfl,by omega,by omega,?_⟩⟩
      have L6:=L5.take hlp e6 hP6
      refine comp_range (n:=(1 + r6).toNat) (fun i acc H' => ∃ ys:List Str,acc=ys.map V.str∧ys.length=i∧(∀ y∈ys,∃ j:Nat,j < 26∧y=⟨#[97 + j]⟩)∧LnH H p l md xs (B5 + 1 + (i:Int)) H') (by omega) ⟨[],rfl,rfl,(fun y hy=>nomatch hy),L6.mono (by omega)⟩ (fun i acc H' hi ⟨ys,ea,el,_⟩=>by rw [ea,List.length_map]; omega) (fun i acc H' hi ⟨ys,ea,el,ey,eL⟩ => ?_) (fun acc H' ⟨ys,ea,el,ey,eL⟩ l2 hn => ?_)
      · refine nameYes ?_
        refine ⟨_,rfl,_,rfl,p,md,_,26,rfl,eL.2.2,by omega,by decide,by decide,fun r7 H7 r70 r71 e7 hP7=>⟨_,_,_,rfl,rfl,ll,lets_at r70 r71,ys ++ [⟨#[97 + r7.toNat]⟩],?_,?_,?_,?_⟩⟩
        · rw [ea, List.map_append]
          rfl
        · rw [List.length_append, el]
          rfl
        · intro y hy
          rcases List.mem_append.mp hy with hy | hy
          · exact ey y hy
          · exact ⟨r7.toNat,by omega,List.mem_singleton.mp hy⟩
        · exact (eL.take hlp e7 hP7).mono (by push_cast; omega)
      · subst ea
        have es:=ones_sum ey
        refine ⟨_,l2,ys,rfl,rfl,SqL.of upd_same,?_,?_⟩
        · rw [es]
          show ys.length + ys.length * 0≤16777216
          omega
        · exact ⟨_,rfl,nm_join ey (by omega) (by omega),(eL.same (ea_ hn _)).mono (by omega)⟩
    rintro σ6 H6 ⟨nmB,rfl,nmBok,L6⟩
    refine ⟨fun σ' H' => ∃ (nm:Str) (o:Option V),σ'=lnS p l many st (some (.int (0 + (i:Int)))) (some (.str nm)) (some (.int way)) o o9∧Nm nm∧LnH H p l md xs (B5 + 11) H',?_,?_⟩
    · refine ⟨_, rfl, rfl, _, rfl, ite2 (fun c => ?_) (fun c => iteF ⟨nmB, _, rfl, nmBok, L6.mono (by omega)⟩)⟩
      refine ⟨_,rfl,lists3 0 (by decide),fun l2 hn2 => ?_⟩
      have L7:=L6.same (ea_ hn2 (.lst []))
      refine ⟨l,l2,_,rfl,rfl,SqL.of L7.1,SqL.of upd_same,_,rfl,ite2 (fun c2 => ?_) (fun c2=>⟨nmB,_,rfl,nmBok,L7.mono (by omega)⟩)⟩
      have hne:xs≠[]:=fun z=>by subst z; cases c2
      obtain ⟨y,hy,hat⟩:=last_str hne
      have hny:=hnm y hy
      have hzy:y.length≤sizeLine:=lists3 _ hny.sz
      have hy1:1≤y.length:=by rw [bp_]; exact hny.1
      have hy2:y.length≤8:=by rw [bp_]; exact hny.2.1
      refine ⟨_,rfl,_,rfl,_,rfl,l,_,_,_,rfl,rfl,SqL.of L7.1,hat,y,rfl,hzy,p,md,_,_,rfl,L7.2.2,by omega,by omega,by omega,fun r8 H8 r80 r81 e8 hP8 => ?_⟩
      have L8:=L7.take hlp e8 hP8
      refine ⟨_,rfl,_,rfl,l,_,_,_,rfl,rfl,SqL.of L8.1,hat,_,rfl,_,rfl,y,rfl,hzy,?_⟩
      refine ⟨_,rfl,_,rfl,p,md,_,26,rfl,hP8,by omega,by decide,by decide,fun r9 H9 r90 r91 e9 hP9 => ?_⟩
      have L9:=L8.take hlp e9 hP9
      obtain ⟨t1,t2,t3⟩:=nm_twin hny r80 r81 r90 r91
      refine ⟨_,_,_,rfl,rfl,ll,lets_at r90 r91,_,_,rfl,rfl,lists3 _ (by rw [im_]; omega),?_⟩
      refine ⟨_,rfl,_,rfl,l,_,_,_,rfl,rfl,SqL.of L9.1,hat,_,rfl,_,_,rfl,rfl,_,rfl,y,rfl,hzy,_,_,rfl,rfl,?_,?_⟩
      · refine lists3 _ ?_
        rw [len_app,im_]
        omega
      · exact ⟨_,_,rfl,t1,L9.mono (by omega)⟩
    rintro σ7 H7 ⟨nmC,o8',rfl,nmCok,L7⟩
    have hi12:xs.length≤12:=by omega
    refine ⟨fun m σ' H' => ∃ (t:Nat) (nm:Str),m=30 - t∧t≤20∧σ'=lnS p l many st (some (.int (0 + (i:Int)))) (some (.str nm)) (some (.int way)) o8' (some (.int (t:Int)))∧Nm nm∧(∀ j,j + 1 < t→cand j∈xs)∧(0 < t→nm=cand (t - 1))∧H'=H7,⟨30,0,nmC,rfl,by omega,rfl,nmCok,(fun j hj=>by omega),(fun h0=>by omega),rfl⟩,?_⟩
    rintro m σ8 H8 ⟨t,nm,rfl,ht,rfl,hnmt,hc,hn,rfl⟩
    refine ⟨_,rfl,_,rfl,l,_,rfl,.inl (SqL.of L7.1),rfl,flat_strs,_,rfl,ite2 (fun c => ?_) (fun c => ?_)⟩
    · have hin : nm ∈ xs := inV_strs.mp c
      have hc':∀ j,j < t→cand j∈xs:=fun j hj=>by
        by_cases z:j + 1 < t
        · exact hc j z
        · have : j = t - 1 := by omega
          rw [this,← hn (by omega)]
          exact hin
      have ht':=cands_le hc'
      refine ⟨fun σ' H'=>σ'=lnS p l many st (some (.int (0 + (i:Int)))) (some (.str (cand t))) (some (.int way)) o8' (some (.int ((t:Int) + 1)))∧H'=H8,?_,?_⟩
      · rintro σ' H' ⟨rfl, rfl⟩
        exact ⟨30 - (t + 1),by omega,t + 1,cand t,rfl,by omega,rfl,cand_nm (by omega),(fun j hj=>hc' j (by omega)),(fun _=>rfl),rfl⟩
      · refine ⟨_, rfl, _, rfl, _, _, _, rfl, rfl, ll, lets_at (r := (t : Int)) (by omega) (by omega), _, _, rfl, rfl, by rw [im_]; decide, by decide, by decide, ?_⟩
        refine ⟨_,rfl,_,_,rfl,rfl,?_,rfl⟩
        show lnS _ _ _ _ _ (some (.str (Txt.mul ⟨#[97 + (t:Int).toNat]⟩ 8))) _ _ _=_
        rw [Int.toNat_natCast]
        rfl
    · have hout : nm ∉ xs := fun z => c (inV_strs.mpr z)
      refine ⟨_,rfl,.inl ⟨rfl,_,SqL.of L7.1⟩,_,rfl,l,_,_,rfl,rfl,L7.1,by rw [List.length_map]; exact small1000 (by omega),?_⟩
      refine ⟨xs ++ [nm],_,_,_,_,_,rfl,by rw [List.length_append,hxl]; rfl,?_,fun x hx => ?_,(L7.add hlp hl0).mono (by push_cast; omega)⟩
      · exact List.nodup_append.mpr ⟨hnd,by simp,fun a ha b hb=>by rw [List.mem_singleton.mp hb]; intro e; exact hout (by rw [← e]; exact ha)⟩
      · rcases List.mem_append.mp hx with hx | hx
        · exact hnm x hx
        · rw [List.mem_singleton.mp hx]
          exact hnmt
  · rintro σ' H2 ⟨xs, o5, o6, o7, o8, o9, rfl, hxl, hnd, hnm, L2⟩
    refine ⟨_,rfl,q l xs H2 hlp hl0 L2.1 hxl hnd hnm L2.2.1 (L2.2.2.mono (by omega))⟩
end
mutual
def Kd.Full:Kd→Prop
  | .num _ _=>True
  | .row k _=>k.Full
  | .rcd fs=>fs≠[]∧fullF fs
  | .cho ks=>ks≠[]∧fullK ks
def fullF:List (Str×Kd)→Prop
  | []=>True
  | f :: r=>f.2.Full∧fullF r
def fullK:List Kd→Prop
  | []=>True
  | k :: r=>k.Full∧fullK r
end
theorem fullF_at:∀ {fs:List (Str×Kd)} {i:Nat} {f:Str×Kd},fullF fs→fs[i]? = some f→f.2.Full
  | [],_,_,_,e=>by simp at e
  | k' :: r,0,k,h,e=>by simp at e; subst e; exact h.1
  | k' :: r,i + 1,k,h,e=>fullF_at (i:=i) h.2 (by simpa using e)
theorem fullK_at:∀ {ks:List Kd} {i:Nat} {k:Kd},fullK ks→ks[i]? = some k→k.Full
  | [],_,_,_,e=>by simp at e
  | k' :: r,0,k,h,e=>by simp at e; subst e; exact h.1
  | k' :: r,i + 1,k,h,e=>fullK_at (i:=i) h.2 (by simpa using e)
theorem okF_at:∀ {fs:List (Str×Kd)} {i:Nat} {f:Str×Kd},okF fs→fs[i]? = some f→f.2.Ok∧f.2.deep≤deepF fs
  | [],_,_,_,e=>by simp at e
  | k' :: r,0,k,h,e=>by simp at e; subst e; exact ⟨h.1,Nat.le_max_left _ _⟩
  | k' :: r,i + 1,k,h,e=>by obtain ⟨a,b⟩:=okF_at (i:=i) h.2 (by simpa using e); exact ⟨a,Nat.le_trans b (Nat.le_max_right _ _)⟩
theorem ff_:∀ {fs:List (Str×Kd)} {i:Nat} {f:Str×Kd},fs[i]? = some f→(rmF fs)[i]? = some f.2.rm
  | [],_,_,e=>by simp at e
  | k' :: r,0,k,e=>by simp at e; subst e; rfl
  | k' :: r,i + 1,k,e=>by show (rmF r)[i]? = _; exact ff_ (by simpa using e)
theorem bdF12 {fs:List (Str×Kd)} {n:Nat} (h:okF fs) (hd:deepF fs≤n) (hn:n≤12):∀ r∈rmF fs,Bd (2 ^ 150) r:=fun r hr=>(bdF fs h r hr).mono (Int.le_of_lt (bnd12 (Nat.le_trans hd hn)))
mutual
def Kd.Fit:Kd→Prop
  | .num w m=>1≤w∧w≤8∧(m=1∨m=2∨m=4∨m=8)
  | .row k n=>k.Fit∧1≤n∧n≤20
  | .rcd fs=>fitF fs∧1≤fs.length∧fs.length≤8∧(fs.map (·.1)).Nodup
  | .cho ks=>fitK ks∧1≤ks.length∧ks.length≤6
def fitF:List (Str×Kd)→Prop
  | []=>True
  | f :: r=>(Nm f.1∧f.2.Fit)∧fitF r
def fitK:List Kd→Prop
  | []=>True
  | k :: r=>k.Fit∧fitK r
end
mutual
theorem Kd.Fit.ok:∀ (k:Kd),k.Fit→k.Ok
  | .num w m, h => by
    obtain ⟨a,b,c⟩:=h
    exact ⟨a,b,by omega,by omega⟩
  | .row k n,h=>⟨Kd.Fit.ok k h.1,by have:=h.2.1; omega,by have:=h.2.2; omega⟩
  | .rcd fs,h=>⟨hd_ fs h.1,by have:=h.2.2.1; omega⟩
  | .cho ks,h=>⟨fitK_ok ks h.1,by have:=h.2.2; omega⟩
theorem hd_:∀ (fs:List (Str×Kd)),fitF fs→okF fs
  | [],_=>trivial
  | f :: r,h=>⟨Kd.Fit.ok f.2 h.1.2,hd_ r h.2⟩
theorem fitK_ok:∀ (ks:List Kd),fitK ks→okK ks
  | [],_=>trivial
  | k :: r,h=>⟨Kd.Fit.ok k h.1,fitK_ok r h.2⟩
end
mutual
theorem Kd.Fit.full:∀ (k:Kd),k.Fit→k.Full
  | .num w m,h=>trivial
  | .row k n,h=>Kd.Fit.full k h.1
  | .rcd fs,h=>⟨(by intro z; rw [z] at h; exact absurd h.2.1 (by decide)),fitF_full fs h.1⟩
  | .cho ks,h=>⟨(by intro z; rw [z] at h; exact absurd h.2.1 (by decide)),fitK_full ks h.1⟩
theorem fitF_full:∀ (fs:List (Str×Kd)),fitF fs→fullF fs
  | [],_=>trivial
  | f :: r,h=>⟨Kd.Fit.full f.2 h.1.2,fitF_full r h.2⟩
theorem fitK_full:∀ (ks:List Kd),fitK ks→fullK ks
  | [],_=>trivial
  | k :: r,h=>⟨Kd.Fit.full k h.1,fitK_full r h.2⟩
end
theorem fitF_snoc:∀ {fs:List (Str×Kd)} {f:Str×Kd},fitF fs→Nm f.1→f.2.Fit→fitF (fs ++ [f])
  | [],_,_,a,b=>⟨⟨a,b⟩,trivial⟩
  | g :: r,f,h,a,b=>⟨h.1,fitF_snoc h.2 a b⟩
theorem fitK_snoc:∀ {ks:List Kd} {k:Kd},fitK ks→k.Fit→fitK (ks ++ [k])
  | [],_,_,b=>⟨b,trivial⟩
  | g :: r,f,h,b=>⟨h.1,fitK_snoc h.2 b⟩
theorem deepF_snoc:∀ {fs:List (Str×Kd)} {f:Str×Kd} {n:Nat},deepF fs≤n→f.2.deep≤n→deepF (fs ++ [f])≤n
  | [],f,n,_,b=>by show max f.2.deep 0≤n; omega
  | g :: r, f, n, h, b => by
    have h':max g.2.deep (deepF r)≤n:=h
    have:=deepF_snoc (fs:=r) (f:=f) (n:=n) (by omega) b
    show max g.2.deep (deepF (r ++ [f]))≤n
    omega
theorem deepK_snoc:∀ {ks:List Kd} {k:Kd} {n:Nat},deepK ks≤n→k.deep≤n→deepK (ks ++ [k])≤n
  | [],f,n,_,b=>by show max f.deep 0≤n; omega
  | g :: r, f, n, h, b => by
    have h':max g.deep (deepK r)≤n:=h
    have:=deepK_snoc (ks:=r) (k:=f) (n:=n) (by omega) b
    show max g.deep (deepK (r ++ [f]))≤n
    omega
def tk:Nat→Int
  | 0=>0
  | n + 1=>3000 + 12 * tk n
theorem tk_nonneg:∀ n,0≤tk n
  | 0=>Int.le_refl _
  | n + 1=>by have:=tk_nonneg n; show 0≤3000 + 12 * tk n; omega
mutual
def Kd.x:Kd→Dx
  | .num w m=>.tup [.str "number",.int w,.int m]
  | .row k n=>.tup [.str "row",k.x,.int n]
  | .rcd fs=>.tup [.str "record",.lst (xF fs)]
  | .cho ks=>.tup [.str "choice",.lst (xK ks)]
def xF:List (Str×Kd)→List Dx
  | []=>[]
  | f :: r=>.tup [.str f.1,f.2.x] :: xF r
def xK:List Kd→List Dx
  | []=>[]
  | k :: r=>k.x :: xK r
end
theorem de_:∀ fs:List (Str×Kd),xF fs=fs.map fun f=>.tup [.str f.1,f.2.x]
  | []=>rfl
  | f :: r=>by rw [xF,de_ r]; rfl
theorem da_:∀ ks:List Kd,xK ks=ks.map Kd.x
  | []=>rfl
  | f :: r=>by rw [xK,da_ r]; rfl
def Dx.own:Dx→Sv
  | .lst l=>.ol l
  | .dic l=>.od l
  | d=>.tr d
theorem own_d (d:Dx):d.own.d=d:=by cases d <;> rfl
theorem putX_new {l:List (Key×Dx)} {k:Key} {d:Dx} (h:k∉l.map (·.1)):putX l k d=l ++ [(k,d)]:=by
  unfold putX
  have:(l.any fun kv=>decide (kv.1=k))=false:=by
    rw [List.any_eq_false]
    intro kv hkv z
    exact h (by rw [← of_decide_eq_true z]; exact List.mem_map_of_mem (f:=fun x:Key×Dx=>x.1) hkv)
  rw [this,if_neg Bool.false_ne_true]
theorem getK_at:∀ {l:List (Key×Dx)} {p:Key×Dx},(l.map (·.1)).Nodup→p∈l→getK l p.1=some p.2
  | q :: l, p, hn, h => by
    unfold getK
    rw [List.find?_cons]
    have hn':=List.nodup_cons.mp hn
    rcases List.mem_cons.mp h with rfl | h
    · rw [decide_eq_true rfl]; rfl
    · have hne : ¬ q.1 = p.1 := fun z => hn'.1 (by show q.1 ∈ _; rw [z]; exact List.mem_map_of_mem (f := fun x : Key × Dx => x.1) h)
      rw [decide_eq_false hne]
      exact getK_at hn'.2 h
def PoolX (B:Int) (l:List Dx):Prop := ∃ c md st:Int,l=[.int c,.int md,.int st]∧0≤st∧st≤B
theorem PoolX.mono {B C:Int} {l:List Dx} (h:PoolX B l) (hb:B≤C):PoolX C l:=by
  obtain ⟨c,md,st,e,h0,h1⟩:=h
  exact ⟨c,md,st,e,h0,by omega⟩
def gTK:GB:=fun l ds Q => ∃ B many:Int,ds=[.int many]∧PoolX B l∧B < 2 ^ 60∧0 < many∧many < 2 ^ 250∧∀ (r:Int) (l':List Dx),0≤r→r < many→PoolX (B + 1) l'→Q (.int r) l'
def gLR:GC:=fun ds Q => ∃ n m:Int,ds=[.int n,.int m]∧0≤n∧0 < m∧Q (.tr (.int (up n m)))
section
variable {P:Program} {w:World} {K:FG_} {mg:MG_} {base:Heap} {f:Addr} {fd:FuncData} {n j:Nat}
theorem okx_take (F:Fun K "_law_take" "_law_take" dk_ f fd):FnOk P w K mg base CX0 1 f fd ["pool", "many"] (spB gTK):=by
  refine fn_b F sc_law_take (fun l ds Q h=>by obtain ⟨B,m,rfl,_⟩:=h; rfl) (by decide) fun cdv A outer s H E hr => ?_
  have hu0:=Nat.lt_of_succ_lt (dv_ hr)
  refine ⟨_,(ae_ (bd_ (av_ (bs_ K hu0) cs_ (gv_ K (pv 0) ad_ (fun _ _=>rfl)) ad_ (nomark _)) (ae_ (ai_ fun F=>ak_ (i:=2) sc_law_take.nd rfl (Or.inl rfl) (XE.at (Ex:=noEx) F (hy_ (gv_ K (pv 0) ad_ (fun _ _=>rfl)) (ab_ (pv 1)))))
    (ae_ (fb_ fun F=>PS.weak (fw_ (XE.at (Ex:=noEx) F (xe_fdiv (gv_ K (pv 0) ad_ (fun _ _=>rfl)) (ab_ (pv 1)))) (gj_ (pv 0) (XE.at (Ex:=noEx) F ad_) dg_)) fy_)
    (af_ (an_ (cd_ (pv 2)))))) ar_)
    (ae_ (fb_ fun F=>PS.weak (fw_ (XE.at (Ex:=noEx) F (bf_ (gv_ K (pv 0) ad_ (fun _ _=>rfl)) ad_)) (gj_ (pv 0) (XE.at (Ex:=noEx) F ad_) dg_)) fy_)
    (ae_ (ai_ fun F=>ak_ (i:=3) sc_law_take.nd rfl (Or.inl rfl) (XE.at (Ex:=noEx) F (gv_ K (pv 0) ad_ (fun _ _=>rfl))))
    (ae_ (ai_ fun F=>ak_ (i:=4) sc_law_take.nd rfl (Or.inl rfl) (XE.at (Ex:=noEx) F (ch_ (bf_ (hy_ (gv_ K (pv 0) ad_ (fun _ _=>rfl)) ad_) ad_) (bf_ (ch_ ad_ (ab_ (pv 3))) ad_))))
    (ae_ (ai_ fun F=>ak_ (i:=4) sc_law_take.nd rfl (Or.inl rfl) (XE.at (Ex:=noEx) F (bf_ (ab_ (pv 4)) (ch_ (ch_ ad_ (ab_ (pv 3))) (ab_ (pv 3))))))
    (ae_ (ai_ fun F=>ak_ (i:=4) sc_law_take.nd rfl (Or.inl rfl) (XE.at (Ex:=noEx) F (hy_ (ch_ (ab_ (pv 4)) (ab_ (pv 4))) ad_)))
    (af_ (an_ (hy_ (xe_fdiv (hy_ (ch_ (ab_ (pv 4)) (bf_ (ab_ (pv 4)) ad_)) ad_) ad_) (ab_ (pv 1))))))))))),fun l ds Q h => ?_⟩
  obtain ⟨B,many,rfl,⟨c,md,st,rfl,h0,h1⟩,hB,h2,h3,q⟩:=h
  simp only [xSeq,xNext,xIf,xB,xOp,xVar,xMove,xC,xSet,xRet,xSetI,xPkL,ixP,addX,mulX,gIC,eqX,eqS,retB,lentEnd,startX,startB,cw_,cv_,len3,at10,at20,at21,at30,at31,at32,at40,at41,at42,at43,ix30,ix31,ix32,List.getElem?_cons_zero,List.getElem?_cons_succ,List.set_cons_zero,List.set_cons_succ,Sv.d,List.map_cons,List.map_nil,Option.bind_some,Option.isSome_some,List.cons_append,List.nil_append,List.length_cons,List.length_nil,List.replicate_succ,List.replicate_zero,Nat.reduceAdd,Nat.reduceSub,Nat.reduceLeDiff,true_and,decide_eq_true_eq,cut,caps,back,Option.getD_some,if_true,↓reduceIte,List.drop_succ_cons,List.drop_zero]
  by_cases e:md=1
  · rw [if_pos e]
    exact ⟨h2,⟨h2,h3⟩,q _ _ (Int.emod_nonneg _ (by omega)) (Int.emod_lt_of_pos _ h2) ⟨_,_,_,rfl,h0,by omega⟩⟩
  · rw [if_neg e]
    have a0:(0:Int)≤c % 9999999619:=Int.emod_nonneg _ (by decide)
    have a1:c % 9999999619 < 9999999619:=Int.emod_lt_of_pos _ (by decide)
    refine ⟨by decide,⟨by decide,by omega⟩,⟨by omega,by omega⟩,⟨by decide,by omega⟩,⟨by omega,by omega⟩,?_⟩
    have m1:0≤(c % 9999999619 + 983) * (23 * (st + 1) + 53):=Int.mul_nonneg (by omega) (by omega)
    have m2:(c % 9999999619 + 983) * (23 * (st + 1) + 53)≤10000000602 * (23 * (st + 1) + 53):=Int.mul_le_mul_of_nonneg_right (by omega) (by omega)
    have m3:0≤3491 * (st + 1) * (st + 1):=Int.mul_nonneg (by omega) (by omega)
    have m4:3491 * (st + 1) * (st + 1)≤3491 * (st + 1) * 2 ^ 61:=Int.mul_le_mul_of_nonneg_left (by omega) (by omega)
    generalize (c % 9999999619 + 983) * (23 * (st + 1) + 53)=A1 at m1 m2 ⊢
    generalize 3491 * (st + 1) * (st + 1)=A2 at m3 m4 ⊢
    refine ⟨⟨by omega,by omega⟩,by decide,?_⟩
    have b0:(0:Int)≤(A1 + A2) * (A1 + A2) % 99999999659:=Int.emod_nonneg _ (by decide)
    have b1:(A1 + A2) * (A1 + A2) % 99999999659 < 99999999659:=Int.emod_lt_of_pos _ (by decide)
    generalize (A1 + A2) * (A1 + A2) % 99999999659=B2 at b0 b1 ⊢
    exact ⟨⟨by omega,by omega⟩,by decide,⟨by decide,by decide⟩,h2,q _ _ (Int.emod_nonneg _ (by omega)) (Int.emod_lt_of_pos _ h2) ⟨_,_,_,rfl,by omega,by omega⟩⟩
theorem okx_lr (F:Fun K "_law_rounded" "_law_rounded" cn_ f fd):FnOk P w K mg base CX0 1 f fd ["number", "m"] (spX gLR):=by
  refine ez_ F sc_law_rounded (fun ds Q h=>by obtain ⟨B,m,rfl,_⟩:=h; rfl) (by decide) fun cdv A outer s H E hr => ?_
  have hu0:=Nat.lt_of_succ_lt (dv_ hr)
  refine ⟨_,(ae_ (ai_ fun F=>ak_ (i:=2) sc_law_rounded.nd rfl (Or.inl rfl) (XE.at (Ex:=noEx) F (hy_ (ab_ (pv 0)) (ab_ (pv 1)))))
    (ae_ (bd_ (av_ (bs_ K hu0) cs_ (ab_ (pv 2)) ad_ (nomark _)) (af_ (an_ (cd_ (pv 0)))) ar_)
    (af_ (an_ (fv_ (bf_ (ab_ (pv 0)) (ab_ (pv 1))) (ab_ (pv 2))))))),fun ds Q h => ?_⟩
  obtain ⟨n,m,rfl,h0,h1,q⟩:=h
  simp only [xSeq,xNext,xIf,xB,xOp,xVar,xMove,xC,xSet,xRet,addX,gI,gIC,eqX,eqS,retB,lentEnd,startX,startB,cw_,cv_,len3,at10,at20,at21,at30,at31,at32,at40,at41,at42,at43,ix30,ix31,ix32,List.getElem?_cons_zero,List.getElem?_cons_succ,List.set_cons_zero,List.set_cons_succ,Sv.d,List.map_cons,List.map_nil,Option.bind_some,Option.isSome_some,List.cons_append,List.nil_append,List.length_cons,List.length_nil,List.replicate_succ,List.replicate_zero,Nat.reduceAdd,Nat.reduceSub,Nat.reduceLeDiff,true_and,decide_eq_true_eq,cut,caps,back,Option.getD_some,if_true,↓reduceIte,List.drop_succ_cons,List.drop_zero]
  refine ⟨h1,?_⟩
  rw [← upL_eq h1] at q
  unfold upL at q
  by_cases e:n % m=0
  · rw [if_pos e] at q ⊢
    exact q
  · rw [if_neg e] at q ⊢
    exact q
end
def prD (r:Int×Int):Dx:=.lst [.int r.1,.int r.2]
def gLM (n:Nat):GC:=fun ds Q => ∃ kd:Kd,ds=[kd.x]∧kd.Ok∧kd.Full∧kd.deep≤n∧n≤12∧Q (.ol [.int kd.rm.1,.int kd.rm.2])
theorem max_sel {rs:List (Int×Int)} {sel:Int×Int→Int} {d:Int} {Q:Sv→Prop} (hne:rs≠[]) (hdd:∀ r∈rs,d≤sel r) (q:Q (.tr (.int (maxL d (rs.map sel))))):maxLX [.lst (rs.map fun r=>.int (sel r))] Q:=by
  refine ⟨rs.map sel,by rw [List.map_map]; rfl,fun z=>hne (List.map_eq_nil_iff.mp z),fun M hM hle => ?_⟩
  obtain ⟨r,hr',rfl⟩:=List.mem_map.mp hM
  rw [maxL_is (d:=d) hM (hdd r hr') hle] at *
  exact q
theorem rmF_pr:∀ fs:List (Str×Kd),(fs.map fun f=>prD f.2.rm)=(rmF fs).map prD
  | []=>rfl
  | f :: r=>by rw [List.map_cons,rmF_pr r]; rfl
theorem rmK_pr:∀ ks:List Kd,(ks.map fun k=>prD k.rm)=(rmK ks).map prD
  | []=>rfl
  | f :: r=>by rw [List.map_cons,rmK_pr r]; rfl
theorem hn_ {rs:List (Int×Int)} {sel:Int×Int→Int} {d:Int} {i:Nat} {ρ:En} {Q:Sv→En→Prop} (hl:rs.length≤10) (hne:rs≠[]) (hdd:∀ r∈rs,d≤sel r) (hj:∀ r,([Dx.int r.1,Dx.int r.2]:List Dx)[i]? = some (.int (sel r)))
    {s:Sv} (h3:ρ[3]? = some (.v s)) (hs:s.d=.lst (rs.map prD)) (q:Q (.tr (.int (maxL d (rs.map sel)))) (ρ.set 3 (.v (.tr (.lst (rs.map prD)))))):xCall maxLX (xCons (xComp 2 [] (xiL (xVar 3)) (gxL [0,1]) xYes (xVar i)) xNil) ρ Q:=by
  simp only [xCall,xCons,xNil,xComp,xiL,xVar,h3,hs]
  show _∧_
  refine ⟨by rw [List.length_map]; omega,?_⟩
  refine be_ prD (fun r=>.int (sel r)) (fun r hr acc P p => ?_) ?_
  · have hi := hj r
    show (match (([.v (.tr (.int r.1)),.v (.tr (.int r.2))]:En)[i]?) with | some (.v s)=>_ | _=>_)
    match i,hi with
    | 0,hi=>simp only [List.getElem?_cons_zero,Option.some.injEq] at hi; rw [← hi] at p; exact p
    | 1,hi=>simp only [List.getElem?_cons_zero,List.getElem?_cons_succ,Option.some.injEq] at hi; rw [← hi] at p; exact p
    | i + 2,hi=>simp at hi
  · exact max_sel hne hdd q
theorem fn_no {P:Program} {w:World} {K:FG_} {mg:MG_} {base:Heap} {j:Nat} {f:Addr} {fd:FuncData} {ps:List Str} {g:GC} (no:∀ ds Q,¬ g ds Q):FnOk P w K mg base CX0 j f fd ps (spX g) :=
  ⟨fun vs H Q E h=>by obtain ⟨_,ds,Qx,_,_,h,_⟩:=h; exact absurd h (no _ _),fun A outer s H args us vs Q E _ _ _ _ h=>by obtain ⟨_,ds,Qx,_,_,h,_⟩:=h; exact absurd h (no _ _)⟩
theorem xcall_c {g:GC} {d:Dx} {t:XT} {ρ:En} {Q:Sv→En→Prop} (h:t ρ fun s ρ'=>g [d,s.d] fun r=>Q r ρ'):xCall g (xCons (xC d) (xCons t xNil)) ρ Q:=h
theorem len2 {α:Type} {a b:α}:[a,b].length≤1000000:=by show 2≤1000000; decide
section
variable {P:Program} {w:World} {K:FG_} {mg:MG_} {base:Heap} {f:Addr} {fd:FuncData} {n j:Nat}
theorem okx_lm (F:Fun K "_law_room" "_law_room" cc_ f fd) (CLM:Cal P w K mg base j "_law_room" ["kind"] (spX (gLM n))) (CLR:Cal P w K mg base 1 "_law_rounded" ["number", "m"] (spX gLR)) (m_max:mg "max" = none) (hj:1≤j) :
    FnOk P w K mg base CX0 (j + 1) f fd ["kind"] (spX (gLM (n + 1))):=by
  refine ez_ F sc_law_room (fun ds Q h=>by obtain ⟨d,rfl,_⟩:=h; rfl) (by decide) fun cdv A outer s H E hr => ?_
  have hu0:=Nat.lt_of_succ_lt (dv_ hr)
  refine ⟨_,(ae_ (bd_ (av_ (bs_ K hu0) cs_ (am_ K (ab_ (pv 0)) ad_ (fun _ _=>rfl)) br_ (nomark _)) (af_ (an_ (by_ (aa_ (am_ K (ab_ (pv 0)) ad_ (fun _ _=>rfl)) (aa_ (am_ K (ab_ (pv 0)) ad_ (fun _ _=>rfl)) ac_))))) ar_)
    (ae_ (bd_ (av_ (bs_ K hu0) cs_ (am_ K (ab_ (pv 0)) ad_ (fun _ _=>rfl)) br_ (nomark _)) (ae_ (xs_asgP (gx_lst (n:=99) (is:=[1,2]) rfl (by decide)) fun F=>fw_ (XE.at (Ex:=noEx) F (ag_ CLM (hr.mono (by omega)) (aa_ (am_ K (ab_ (pv 0)) ad_ (fun _ _=>rfl)) ac_))) (pg_lst rfl (aq_ (aj_ (i:=1) sc_law_room.nd rfl (Or.inl rfl)) (aq_ (aj_ (i:=2) sc_law_room.nd rfl (Or.inl rfl)) bv_))))
    (af_ (an_ (by_ (aa_ (ch_ (am_ K (ab_ (pv 0)) ad_ (fun _ _=>rfl)) (ag_ CLR (hr.mono (by omega)) (aa_ (ab_ (pv 1)) (aa_ (ab_ (pv 2)) ac_)))) (aa_ (ab_ (pv 2)) ac_)))))) ar_)
    (ae_ (bd_ (av_ (bs_ K hu0) cs_ (am_ K (ab_ (pv 0)) ad_ (fun _ _=>rfl)) br_ (nomark _)) (ae_ (fb_ fun F=>PS.weak (ps_setC (i:=3) sc_law_room.nd rfl rfl (dsc:=defScope cc_) (N:=["kind", "room", "most", "parts", "end", "multiple", "begin"]) (tgs:=["name", "inner"]) (outs:=[]) (N':=["name", "inner"]) (by refine ⟨rfl,?_,?_,?_,rfl,?_,?_,?_⟩ <;> decide +kernel) (XIt.at (Ex:=noEx) F (bk_ (am_ K (ab_ (pv 0)) ad_ (fun _ _=>rfl)))) (fun _ _ _ _ _=>(pg_tupK K (n:=2) rfl rfl (aq_ (aj_ (i:=0) (show (["name", "inner"]:List Str).Nodup by decide +kernel) rfl (Or.inl rfl) (.inr rfl)) (aq_ (aj_ (i:=1) (show (["name", "inner"]:List Str).Nodup by decide +kernel) rfl (Or.inl rfl) (.inr rfl)) bv_)))) (tgt_tup (bn_ (by decide) (bn_ (by decide) en_ bm_) (ct_ bm_))) (fun a b c d e=>XCs.at (Ex:=noEx) F bq_) (fun a b c d e=>XE.at (Ex:=noEx) F (ag_ CLM (hr.mono (by omega)) (aa_ (ab_ (pv 1)) ac_)))) (setC_x (ee_ (n:=2) (is:=[0,1]) rfl (by decide)) (by decide)))
    (ae_ (ai_ fun F=>ak_ (i:=4) sc_law_room.nd rfl (Or.inl rfl) (XE.at (Ex:=noEx) F ad_))
    (af_ (ck_ PassesOwn.never rfl (bk_ (ab_ (pv 3))) (pg_lst rfl (aq_ (aj_ (i:=1) sc_law_room.nd rfl (Or.inl rfl)) (aq_ (aj_ (i:=5) sc_law_room.nd rfl (Or.inl rfl)) bv_))) (gx_lst (n:=99) (is:=[1,5]) rfl (by decide)) (af_ (ai_ fun F=>ak_ (i:=4) sc_law_room.nd rfl (Or.inl rfl) (XE.at (Ex:=noEx) F (bf_ (ag_ CLR (hr.mono (by omega)) (aa_ (ab_ (pv 4)) (aa_ (ab_ (pv 5)) ac_))) (ab_ (pv 1)))))))))) (ae_ (fb_ fun F=>PS.weak (ps_setC (i:=3) sc_law_room.nd rfl rfl (dsc:=defScope cc_) (N:=["kind", "room", "most", "parts", "end", "multiple", "begin"]) (tgs:=["inner"]) (outs:=[]) (N':=["inner"]) (by refine ⟨rfl,?_,?_,?_,rfl,?_,?_,?_⟩ <;> decide +kernel) (XIt.at (Ex:=noEx) F (bk_ (am_ K (ab_ (pv 0)) ad_ (fun _ _=>rfl)))) (fun _ _ _ _ _=>(aj_ (i:=0) (show (["inner"]:List Str).Nodup by decide +kernel) rfl (Or.inl rfl) (.inr rfl))) (bt_ (by decide)) (fun a b c d e=>XCs.at (Ex:=noEx) F bq_) (fun a b c d e=>XE.at (Ex:=noEx) F (ag_ CLM (hr.mono (by omega)) (aa_ (ab_ (pv 0)) ac_)))) (setC_x (bi_ (n:=1) (i:=0) (by decide)) (by decide)))
    (ae_ (ai_ fun F=>ak_ (i:=6) sc_law_room.nd rfl (Or.inl rfl) (XE.at (Ex:=noEx) F (ag_ CLR (hr.mono (by omega)) (aa_ ad_ (aa_ (az_ (ja_ K (by rfl)) cx_maxL (by rfl) m_max bt_max (aa_ (ce_ (dsc:=defScope cc_) (N:=["kind", "room", "most", "parts", "end", "multiple", "begin"]) (tgs:=["room", "multiple"]) (outs:=[]) (N':=["room", "multiple"]) (by refine ⟨rfl,?_,?_,?_,rfl,?_,?_,?_⟩ <;> decide +kernel) (bk_ (ab_ (pv 3))) (fun _ _ _ _ _=>(pg_lstK K (n:=2) rfl rfl (aq_ (aj_ (i:=0) (show (["room", "multiple"]:List Str).Nodup by decide +kernel) rfl (Or.inl rfl) (.inr rfl)) (aq_ (aj_ (i:=1) (show (["room", "multiple"]:List Str).Nodup by decide +kernel) rfl (Or.inl rfl) (.inr rfl)) bv_)))) (gx_lst (n:=2) (is:=[0,1]) rfl (by decide)) (tgt_lst (bn_ (by decide) (bn_ (by decide) en_ bm_) (ct_ bm_))) (fun _ _ _ _ _=>bq_) (fun _ _ _ _ _=>(ab_ (pv 1)))) ac_)) ac_)))))
    (af_ (ai_ fun F=>ak_ (i:=4) sc_law_room.nd rfl (Or.inl rfl) (XE.at (Ex:=noEx) F (bf_ (ab_ (pv 6)) (az_ (ja_ K (by rfl)) cx_maxL (by rfl) m_max bt_max (aa_ (ce_ (dsc:=defScope cc_) (N:=["kind", "room", "most", "parts", "end", "multiple", "begin"]) (tgs:=["room", "multiple"]) (outs:=[]) (N':=["room", "multiple"]) (by refine ⟨rfl,?_,?_,?_,rfl,?_,?_,?_⟩ <;> decide +kernel) (bk_ (ab_ (pv 3))) (fun _ _ _ _ _=>(pg_lstK K (n:=2) rfl rfl (aq_ (aj_ (i:=0) (show (["room", "multiple"]:List Str).Nodup by decide +kernel) rfl (Or.inl rfl) (.inr rfl)) (aq_ (aj_ (i:=1) (show (["room", "multiple"]:List Str).Nodup by decide +kernel) rfl (Or.inl rfl) (.inr rfl)) bv_)))) (gx_lst (n:=2) (is:=[0,1]) rfl (by decide)) (tgt_lst (bn_ (by decide) (bn_ (by decide) en_ bm_) (ct_ bm_))) (fun _ _ _ _ _=>bq_) (fun _ _ _ _ _=>(ab_ (pv 0)))) ac_)))))))))
    (ae_ (ai_ fun F=>ak_ (i:=2) sc_law_room.nd rfl (Or.inl rfl) (XE.at (Ex:=noEx) F (az_ (ja_ K (by rfl)) cx_maxL (by rfl) m_max bt_max (aa_ (ce_ (dsc:=defScope cc_) (N:=["kind", "room", "most", "parts", "end", "multiple", "begin"]) (tgs:=["room", "multiple"]) (outs:=[]) (N':=["room", "multiple"]) (by refine ⟨rfl,?_,?_,?_,rfl,?_,?_,?_⟩ <;> decide +kernel) (bk_ (ab_ (pv 3))) (fun _ _ _ _ _=>(pg_lstK K (n:=2) rfl rfl (aq_ (aj_ (i:=0) (show (["room", "multiple"]:List Str).Nodup by decide +kernel) rfl (Or.inl rfl) (.inr rfl)) (aq_ (aj_ (i:=1) (show (["room", "multiple"]:List Str).Nodup by decide +kernel) rfl (Or.inl rfl) (.inr rfl)) bv_)))) (gx_lst (n:=2) (is:=[0,1]) rfl (by decide)) (tgt_lst (bn_ (by decide) (bn_ (by decide) en_ bm_) (ct_ bm_))) (fun _ _ _ _ _=>bq_) (fun _ _ _ _ _=>(ab_ (pv 1)))) ac_))))
    (af_ (an_ (by_ (aa_ (ag_ CLR (hr.mono (by omega)) (aa_ (ab_ (pv 4)) (aa_ (ab_ (pv 2)) ac_))) (aa_ (ab_ (pv 2)) ac_))))))))),fun ds Q h => ?_⟩
  obtain ⟨kd,rfl,hk,hf,hdp,hn,q⟩:=h
  cases kd with
  | num wd m=>exact ⟨len2,q⟩
  | row k m =>
    have hdp':k.deep + 1≤n + 1:=hdp
    obtain ⟨b0,b1,b2,b3⟩:=bd12 (n:=n) hk.1 (by omega) (by omega)
    obtain ⟨u1,u2⟩:=ao_ (n:=k.rm.1) (m:=k.rm.2) (by omega)
    have hm:=hk.2
    refine ⟨k,rfl,hk.1,hf,by omega,by omega,?_⟩
    exact ⟨_,_,rfl,b0,by omega,⟨by omega,by omega⟩,len2,q⟩
  | rcd fs =>
    have hdp':deepF fs + 1≤n + 1:=hdp
    have hlf:=hk.2
    have hb:=bdF12 (n:=n) hk.1 (by omega) (by omega)
    have hlr:(rmF fs).length=fs.length:=lenF fs
    have hne:rmF fs≠[]:=fun z=>hf.1 (List.eq_nil_of_length_eq_zero (by rw [← hlr,z]; rfl))
    obtain ⟨x0,x1⟩:=mx_bd hb
    obtain ⟨c0,c1⟩:=dm_ (e:=0) (by omega) hb
    refine ⟨show (xF fs).length≤1000000 by rw [de_,List.length_map]; omega,show compX _ _ _ _ _ (xF fs) _ _ from ?_⟩
    rw [de_]
    refine be_ _ (fun f=>prD f.2.rm) (fun f hf' acc P p => ?_) ?_
    · obtain ⟨i, hi⟩ := List.mem_iff_getElem?.mp hf'
      obtain ⟨ok,dk⟩:=okF_at hk.1 hi
      exact ⟨f.2,rfl,ok,fullF_at hf.2 hi,by omega,by omega,p⟩
    · rw [List.nil_append, rmF_pr]
      refine bc_ prD (fun rest ρ => ∃ done y1 y2 y5,rmF fs=done ++ rest∧ρ=[.v (.tr (Kd.rcd fs).x),y1,y2,.v (.tr (.lst ((rmF fs).map prD))),.v (.tr (.int (lastEnd 0 done))),y5,.un]) (fun ρ h => ?_) (fun r rest ρ Kn h hk' => ?_) ⟨[],.un,.un,.un,rfl,rfl⟩
      · obtain ⟨done, y1, y2, y5, e1, rfl⟩ := h
        rw [List.append_nil] at e1
        rw [← e1]
        simp only [xSeq,xNext,xSet,xOp,xVar,back,caps,startX,startB,List.map_nil,List.map_cons,List.cons_append,List.nil_append,List.length_cons,List.length_nil,List.replicate_succ,List.replicate_zero,Nat.reduceAdd,Nat.reduceSub,List.getElem?_cons_zero,List.getElem?_cons_succ,List.set_cons_zero,List.set_cons_succ,Sv.d]
        refine hn_ (i:=1) (sel:=fun r=>r.2) (d:=1) (by omega) hne (fun r hr=>(hb r hr).2.2.1) (fun _=>rfl) (by rfl) (by rfl) ?_
        exact ⟨_,_,rfl,c0,by omega,len2,q⟩
      · obtain ⟨done, y1, y2, y5, e1, rfl⟩ := h
        have hr':r∈rmF fs:=by rw [e1]; exact List.mem_append_right _ List.mem_cons_self
        obtain ⟨b0,b1,b2,b3⟩:=hb r hr'
        obtain ⟨d0,d1⟩:=dm_ (e:=0) (rs:=done) (by omega) (fun z hz=>hb z (by rw [e1]; exact List.mem_append_left _ hz))
        refine ⟨_,_,rfl,d0,by omega,hk' _ ⟨done ++ [r],.v (.tr (.int r.1)),y2,.v (.tr (.int r.2)),by rw [e1,List.append_assoc]; rfl,by rw [fk_]; rfl⟩⟩
  | cho ks =>
    have hdp':deepK ks + 1≤n + 1:=hdp
    have hlf:=hk.2
    have hb:=bdK12 (n:=n) hk.1 (by omega) (by omega)
    have hlr:(rmK ks).length=ks.length:=lenK ks
    have hne:rmK ks≠[]:=fun z=>hf.1 (List.eq_nil_of_length_eq_zero (by rw [← hlr,z]; rfl))
    obtain ⟨x0,x1⟩:=mx_bd hb
    obtain ⟨u1,u2⟩:=ao_ (n:=1) (m:=maxL 1 ((rmK ks).map (·.2))) (by omega)
    have y0:0≤maxL 0 ((rmK ks).map (·.1)):=ed_ _
    refine ⟨show (xK ks).length≤1000000 by rw [da_,List.length_map]; omega,show compX _ _ _ _ _ (xK ks) _ _ from ?_⟩
    rw [da_]
    refine be_ _ (fun k=>prD k.rm) (fun k hf' acc P p => ?_) ?_
    · obtain ⟨i, hi⟩ := List.mem_iff_getElem?.mp hf'
      obtain ⟨ok,dk⟩:=ok_at hk.1 hi
      exact ⟨k,rfl,ok,fullK_at hf.2 hi,by omega,by omega,p⟩
    · rw [List.nil_append, rmK_pr]
      simp only [xSeq,xNext,xSet,xOp,xVar,back,caps,startX,startB,List.map_nil,List.map_cons,List.cons_append,List.nil_append,List.length_cons,List.length_nil,List.replicate_succ,List.replicate_zero,Nat.reduceAdd,Nat.reduceSub,List.getElem?_cons_zero,List.getElem?_cons_succ,List.set_cons_zero,List.set_cons_succ,Sv.d]
      refine xcall_c ?_
      refine hn_ (i:=1) (sel:=fun r=>r.2) (d:=1) (by omega) hne (fun r hr=>(hb r hr).2.2.1) (fun _=>rfl) (by rfl) (by rfl) ?_
      refine ⟨_,_,rfl,by decide,by omega,?_⟩
      simp only [xSeq,xNext,xSet,xOp,xVar,back,caps,startX,startB,List.map_nil,List.map_cons,List.cons_append,List.nil_append,List.length_cons,List.length_nil,List.replicate_succ,List.replicate_zero,Nat.reduceAdd,Nat.reduceSub,List.getElem?_cons_zero,List.getElem?_cons_succ,List.set_cons_zero,List.set_cons_succ,Sv.d]
      refine hn_ (i:=0) (sel:=fun r=>r.1) (d:=0) (by omega) hne (fun r hr=>(hb r hr).1) (fun _=>rfl) (by rfl) (by rfl) ?_
      simp only [xSeq,xNext,xSet,xOp,xVar,back,caps,startX,startB,List.map_nil,List.map_cons,List.cons_append,List.nil_append,List.length_cons,List.length_nil,List.replicate_succ,List.replicate_zero,Nat.reduceAdd,Nat.reduceSub,List.getElem?_cons_zero,List.getElem?_cons_succ,List.set_cons_zero,List.set_cons_succ,Sv.d]
      refine hn_ (i:=1) (sel:=fun r=>r.2) (d:=1) (by omega) hne (fun r hr=>(hb r hr).2.2.1) (fun _=>rfl) (by rfl) (by rfl) ?_
      exact ⟨_,_,rfl,by omega,by omega,len2,q⟩
theorem lmx_none:FnOk P w K mg base CX0 j f fd ["kind"] (spX (gLM 0)):=fn_no fun ds Q h=>by
  obtain ⟨kd,_,_,_,hd,_⟩:=h
  have:=Kd.deep_pos kd
  omega
end
def prT (r:Int×Int):Dx:=.tup [.int r.1,.int r.2]
def gRU:GC:=fun ds Q => ∃ n m:Int,ds=[.int n,.int m]∧0≤n∧n < 2 ^ 200∧0 < m∧m < 2 ^ 200∧Q (.tr (.int (up n m)))
def gSO:GC:=fun ds Q => ∃ r:Int×Int,ds=[prT r]∧0≤r.1∧r.1 < 2 ^ 200∧0 < r.2∧r.2 < 2 ^ 200∧Q (.tr (.int (up r.1 r.2)))
def gCA:GC:=fun ds Q => ∃ m:Int,ds=[.int m]∧0 < m∧m < 2 ^ 200∧Q (.tr (.int (up 1 m)))
def gGM:GC:=fun ds Q => ∃ rs:List (Int×Int),ds=[.lst (rs.map prT)]∧rs.length≤10∧(∀ r∈rs,1≤r.2)∧Q (.tr (.int (maxL 1 (rs.map (·.2)))))
def gPB:GC:=fun ds Q => ∃ rs:List (Int×Int),ds=[.lst (rs.map prT)]∧rs.length≤10∧(∀ r∈rs,Bd (2 ^ 150) r)∧Q (.ol ((plcs 0 rs).map Dx.int))
def gRO (n:Nat):GC:=fun ds Q => ∃ kd:Kd,ds=[kd.x]∧kd.Ok∧kd.deep≤n∧n≤12∧Q (.tr (prT kd.rm))
def gRS (n:Nat):GC:=fun ds Q => ∃ ks:List Kd,ds=[.lst (xK ks)]∧okK ks∧deepK ks≤n∧ks.length≤10∧n≤12∧Q (.ol ((rmK ks).map prT))
def gRR (n:Nat):GC:=fun ds Q => ∃ (kd:Kd) (m:Int),ds=[kd.x,.int m]∧kd.Ok∧kd.deep≤n∧n≤12∧0≤m∧m≤100∧Q (.tr (prT (m * up kd.rm.1 kd.rm.2,kd.rm.2)))
def gRL (f:List (Int×Int)→Int×Int) (n:Nat):GC:=fun ds Q => ∃ ks:List Kd,ds=[.lst (xK ks)]∧okK ks∧deepK ks≤n∧ks.length≤10∧n≤12∧Q (.tr (prT (f (rmK ks))))
def gPO (n:Nat):GC:=fun ds Q => ∃ fs:List (Str×Kd),ds=[.lst (xF fs)]∧okF fs∧deepF fs≤n∧fs.length≤10∧n≤12∧Q (.ol ((fs.zip (plcs 0 (rmF fs))).map fun x=>.tup [.str x.1.1,.int x.2]))
theorem rmK_T:∀ ks:List Kd,(ks.map fun k=>prT k.rm)=(rmK ks).map prT
  | []=>rfl
  | f :: r=>by rw [List.map_cons,rmK_T r]; rfl
theorem df_ {α β:Type} (f:α→Dx) (g:β→Dx):∀ (l:List α) (m:List β),zipX (l.map f) (m.map g)=(l.zip m).map fun p=>.tup [f p.1,g p.2]
  | [],_=>rfl
  | _ :: _,[]=>rfl
  | a :: l,b :: m=>by show _ :: zipX (l.map f) (m.map g)=_; rw [df_ f g l m]; rfl
section
variable {P:Program} {w:World} {K:FG_} {mg:MG_} {base:Heap} {f:Addr} {fd:FuncData} {n j:Nat}
theorem okx_ru (F:Fun K "rounded_up" "rounded_up" eb_ f fd):FnOk P w K mg base CX0 1 f fd ["number", "m"] (spX gRU):=by
  refine ez_ F sc_rounded_up (fun ds Q h=>by obtain ⟨_,_,rfl,_⟩:=h; rfl) (by decide) fun cdv A outer s H E hr => ?_
  refine ⟨_,(af_ (an_ (ch_ (xe_fdiv (fv_ (bf_ (ab_ (pv 0)) (ab_ (pv 1))) ad_) (ab_ (pv 1))) (ab_ (pv 1))))),fun ds Q h => ?_⟩
  obtain ⟨n,m,rfl,h0,h1,h2,h3,q⟩:=h
  have d0:0≤(n + m - 1) / m:=Int.ediv_nonneg (by omega) (by omega)
  have d1:(n + m - 1) / m≤n + m - 1:=Int.ediv_le_self m (by omega)
  refine ⟨⟨h2,by omega⟩,⟨?_,by omega⟩,q⟩
  generalize (n + m - 1) / m=z at d0 d1
  omega
theorem okx_so (F:Fun K "step_of" "step_of" gh_ f fd) (CRU:Cal P w K mg base 1 "rounded_up" ["number", "m"] (spX gRU)):FnOk P w K mg base CX0 2 f fd ["room"] (spX gSO):=by
  refine ez_ F sc_step_of (fun ds Q h=>by obtain ⟨_,rfl,_⟩:=h; rfl) (by decide) fun cdv A outer s H E hr => ?_
  refine ⟨_,(af_ (an_ (ag_ CRU (hr.mono (by omega)) (aa_ (am_ K (ab_ (pv 0)) ad_ (fun _ _=>rfl)) (aa_ (am_ K (ab_ (pv 0)) ad_ (fun _ _=>rfl)) ac_))))),fun ds Q h => ?_⟩
  obtain ⟨r,rfl,h0,h1,h2,h3,q⟩:=h
  exact ⟨_,_,rfl,h0,h1,h2,h3,q⟩
theorem okx_ca (F:Fun K "chosen_at" "chosen_at" er_ f fd) (CRU:Cal P w K mg base 1 "rounded_up" ["number", "m"] (spX gRU)):FnOk P w K mg base CX0 2 f fd ["multiple"] (spX gCA):=by
  refine ez_ F sc_chosen_at (fun ds Q h=>by obtain ⟨_,rfl,_⟩:=h; rfl) (by decide) fun cdv A outer s H E hr => ?_
  refine ⟨_,(af_ (an_ (ag_ CRU (hr.mono (by omega)) (aa_ ad_ (aa_ (ab_ (pv 0)) ac_))))),fun ds Q h => ?_⟩
  obtain ⟨m,rfl,h2,h3,q⟩:=h
  exact ⟨_,_,rfl,by decide,by decide,h2,h3,q⟩
theorem okx_gm (F:Fun K "greatest_multiple" "greatest_multiple" bh_ f fd) (m_max:mg "max" = none):FnOk P w K mg base CX0 1 f fd ["rooms"] (spX gGM):=by
  refine ez_ F fu_ (fun ds Q h=>by obtain ⟨_,rfl,_⟩:=h; rfl) (by decide) fun cdv A outer s H E hr => ?_
  refine ⟨_,(af_ (an_ (xe_maxD (by rfl) (by rfl) m_max (aa_ (ce_ (dsc:=defScope bh_) (N:=["rooms"]) (tgs:=["room"]) (outs:=[]) (N':=["room"]) (by refine ⟨rfl,?_,?_,?_,rfl,?_,?_,?_⟩ <;> decide +kernel) (bk_ (ab_ (pv 0))) (fun _ _ _ _ _=>(aj_ (i:=0) (show (["room"]:List Str).Nodup by decide +kernel) rfl (Or.inl rfl) (.inr rfl))) (bi_ (n:=1) (i:=0) (by decide)) (bt_ (by decide)) (fun _ _ _ _ _=>bq_) (fun _ _ _ _ _=>(am_ K (ab_ (pv 0)) ad_ (fun _ _=>rfl)))) ac_) (pk_cons aw_ pk_nil)))),fun ds Q h => ?_⟩
  obtain ⟨rs,rfl,hl,h1,q⟩:=h
  refine ⟨show (rs.map prT).length≤_ by rw [List.length_map]; omega,show compX _ _ _ _ _ (rs.map prT) _ _ from ?_⟩
  refine be_ prT (fun r=>.int r.2) (fun r hr acc P p=>p) ?_
  refine ⟨rs.map (·.2),by rw [List.map_map]; rfl,fun en => ?_,fun M hM hle => ?_⟩
  · rw [en] at q; exact q
  · obtain ⟨r, hr', rfl⟩ := List.mem_map.mp hM
    rw [← maxL_is (d:=1) hM (h1 r hr') hle] at q
    exact q
theorem okx_pb (F:Fun K "places_behind" "places_behind" cm_ f fd) (CRU:Cal P w K mg base 1 "rounded_up" ["number", "m"] (spX gRU)):FnOk P w K mg base CX0 2 f fd ["rooms"] (spX gPB):=by
  refine ez_ F sc_places_behind (fun ds Q h=>by obtain ⟨_,rfl,_⟩:=h; rfl) (by decide) fun cdv A outer s H E hr => ?_
  refine ⟨_,(ae_ (ai_ fun F=>ak_ (i:=1) sc_places_behind.nd rfl (Or.inl rfl) (XE.at (Ex:=noEx) F (by_ ac_)))
    (ae_ (ai_ fun F=>ak_ (i:=2) sc_places_behind.nd rfl (Or.inl rfl) (XE.at (Ex:=noEx) F ad_))
    (ae_ (ck_ PassesOwn.never rfl (bk_ (ab_ (pv 0))) (aj_ (i:=3) sc_places_behind.nd rfl (Or.inl rfl)) (bi_ (n:=99) (i:=3) (by decide)) (ae_ (ai_ fun F=>ak_ (i:=4) sc_places_behind.nd rfl (Or.inl rfl) (XE.at (Ex:=noEx) F (ag_ CRU (hr.mono (by omega)) (aa_ (ab_ (pv 2)) (aa_ (am_ K (ab_ (pv 3)) ad_ (fun _ _=>rfl)) ac_)))))
    (ae_ (fb_ fun F=>PS.weak (fz_ (pe_bm PySem.F.plainAttrs_list PySem.F.slot_list_append PySem.F.type_list_append fj_ (pv 1) (au_ (XE.at (Ex:=noEx) F (ab_ (pv 4))) cf_))) tApp_x)
    (af_ (ai_ fun F=>ak_ (i:=2) sc_places_behind.nd rfl (Or.inl rfl) (XE.at (Ex:=noEx) F (bf_ (ab_ (pv 4)) (am_ K (ab_ (pv 3)) ad_ (fun _ _=>rfl)))))))))
    (af_ (an_ (cd_ (pv 1))))))),fun ds Q h => ?_⟩
  obtain ⟨rs,rfl,hl,h1,q⟩:=h
  refine ⟨Nat.zero_le _,?_⟩
  refine bc_ prT (fun rest ρ => ∃ done y3 y4,rs=done ++ rest∧ρ=[.v (.tr (.lst (rs.map prT))),.v (.ol ((plcs 0 done).map Dx.int)),.v (.tr (.int (lastEnd 0 done))),y3,y4]) (fun ρ h => ?_) (fun r rest ρ Kn h hk => ?_) ⟨[],.un,.un,rfl,rfl⟩
  · obtain ⟨done, y3, y4, e1, rfl⟩ := h
    rw [List.append_nil] at e1
    subst e1
    exact q
  · obtain ⟨done, y3, y4, e1, rfl⟩ := h
    obtain ⟨b0,b1,b2,b3⟩:=h1 r (by rw [e1]; exact List.mem_append_right _ List.mem_cons_self)
    have hlen:done.length + (rest.length + 1)=rs.length:=by rw [e1,List.length_append,List.length_cons]
    obtain ⟨c0,c1⟩:=dm_ (e:=0) (rs:=done) (by omega) (fun z hz=>h1 z (by rw [e1]; exact List.mem_append_left _ hz))
    have c2:(done.length:Int) * (2 ^ 150 + 8)≤10 * (2 ^ 150 + 8):=Int.mul_le_mul_of_nonneg_right (by omega) (by decide)
    refine ⟨_,_,rfl,c0,by omega,by omega,by omega,rfl,by rw [List.length_map,cu_]; omega,hk _ ⟨done ++ [r],.v (.tr (prT r)),.v (.tr (.int (up (lastEnd 0 done) r.2))),by rw [e1,List.append_assoc]; rfl,?_⟩⟩
    rw [fk_,plcs_snoc,List.map_append]
    rfl
theorem okx_rs (F:Fun K "rooms_of" "rooms_of" ei_ f fd) (CRO:Cal P w K mg base j "room_of" ["kind"] (spX (gRO n))):FnOk P w K mg base CX0 (j + 1) f fd ["kinds"] (spX (gRS n)):=by
  refine ez_ F sc_rooms_of (fun ds Q h=>by obtain ⟨_,rfl,_⟩:=h; rfl) (by decide) fun cdv A outer s H E hr => ?_
  refine ⟨_,(af_ (an_ (ce_ (dsc:=defScope ei_) (N:=["kinds"]) (tgs:=["kind"]) (outs:=[]) (N':=["kind"]) (by refine ⟨rfl,?_,?_,?_,rfl,?_,?_,?_⟩ <;> decide +kernel) (bk_ (ab_ (pv 0))) (fun _ _ _ _ _=>(aj_ (i:=0) (show (["kind"]:List Str).Nodup by decide +kernel) rfl (Or.inl rfl) (.inr rfl))) (bi_ (n:=1) (i:=0) (by decide)) (bt_ (by decide)) (fun _ _ _ _ _=>bq_) (fun _ _ _ _ _=>(ag_ CRO (hr.mono (by omega)) (aa_ (ab_ (pv 0)) ac_)))))),fun ds Q h => ?_⟩
  obtain ⟨ks,rfl,hk,hd,hl,hn,q⟩:=h
  refine ⟨show (xK ks).length≤_ by rw [da_,List.length_map]; omega,show compX _ _ _ _ _ (xK ks) _ _ from ?_⟩
  rw [da_]
  refine be_ Kd.x (fun k=>prT k.rm) (fun k hm acc P p => ?_) ?_
  · obtain ⟨i, hi⟩ := List.mem_iff_getElem?.mp hm
    obtain ⟨ok,dk⟩:=ok_at hk hi
    exact ⟨k,rfl,ok,by omega,hn,p⟩
  · rw [List.nil_append, rmK_T]
    exact q
theorem okx_rr (F:Fun K "room_of_row" "room_of_row" dh_ f fd) (CRO:Cal P w K mg base j "room_of" ["kind"] (spX (gRO n))) (CSO:Cal P w K mg base 2 "step_of" ["room"] (spX gSO)) (hj:2≤j):FnOk P w K mg base CX0 (j + 1) f fd ["kind", "n"] (spX (gRR n)):=by
  refine ez_ F sc_room_of_row (fun ds Q h=>by obtain ⟨_,_,rfl,_⟩:=h; rfl) (by decide) fun cdv A outer s H E hr => ?_
  refine ⟨_,(ae_ (ai_ fun F=>ak_ (i:=2) sc_room_of_row.nd rfl (Or.inl rfl) (XE.at (Ex:=noEx) F (ag_ CRO (hr.mono (by omega)) (aa_ (ab_ (pv 0)) ac_))))
    (af_ (an_ (dx_ (aa_ (ch_ (ab_ (pv 1)) (ag_ CSO (hr.mono (by omega)) (aa_ (ab_ (pv 2)) ac_))) (aa_ (am_ K (ab_ (pv 2)) ad_ (fun _ _=>rfl)) ac_)))))),fun ds Q h => ?_⟩
  obtain ⟨kd,m,rfl,hk,hd,hn,m0,m1,q⟩:=h
  obtain ⟨b0,b1,b2,b3⟩:=bd12 (n:=n) hk hd hn
  obtain ⟨u1,u2⟩:=ao_ (n:=kd.rm.1) (m:=kd.rm.2) (by omega)
  exact ⟨kd,rfl,hk,hd,hn,kd.rm,rfl,b0,by omega,by omega,by omega,⟨by omega,by omega⟩,len2,q⟩
theorem okx_rc (F:Fun K "room_of_record" "room_of_record" bz_ f fd) (CRS:Cal P w K mg base j "rooms_of" ["kinds"] (spX (gRS n))) (CGM:Cal P w K mg base 1 "greatest_multiple" ["rooms"] (spX gGM)) (CPB:Cal P w K mg base 2 "places_behind" ["rooms"] (spX gPB)) (CRU:Cal P w K mg base 1 "rounded_up" ["number", "m"] (spX gRU)) (m_max:mg "max" = none) (m_zip:mg "zip" = none) (hj:2≤j) :
    FnOk P w K mg base CX0 (j + 1) f fd ["kinds"] (spX (gRL rcdRm n)):=by
  refine ez_ F sc_room_of_record (fun ds Q h=>by obtain ⟨_,rfl,_⟩:=h; rfl) (by decide) fun cdv A outer s H E hr => ?_
  refine ⟨_,(ae_ (ai_ fun F=>ak_ (i:=1) sc_room_of_record.nd rfl (Or.inl rfl) (XE.at (Ex:=noEx) F (ag_ CRS (hr.mono (by omega)) (aa_ (ab_ (pv 0)) ac_))))
    (ae_ (ai_ fun F=>ak_ (i:=2) sc_room_of_record.nd rfl (Or.inl rfl) (XE.at (Ex:=noEx) F (ag_ CGM (hr.mono (by omega)) (aa_ (ab_ (pv 1)) ac_))))
    (ae_ (fb_ fun F=>PS.weak (ps_setC (i:=3) sc_room_of_record.nd rfl rfl (dsc:=defScope bz_) (N:=["kinds", "rooms", "multiple", "ends"]) (tgs:=["place", "room"]) (outs:=[]) (N':=["place", "room"]) (by refine ⟨rfl,?_,?_,?_,rfl,?_,?_,?_⟩ <;> decide +kernel) (XIt.at (Ex:=noEx) F (xi_zip m_zip (aa_ (ag_ CPB (hr.mono (by omega)) (aa_ (ab_ (pv 1)) ac_)) (aa_ (ab_ (pv 1)) ac_)))) (fun _ _ _ _ _=>(pg_tupK K (n:=2) rfl rfl (aq_ (aj_ (i:=0) (show (["place", "room"]:List Str).Nodup by decide +kernel) rfl (Or.inl rfl) (.inr rfl)) (aq_ (aj_ (i:=1) (show (["place", "room"]:List Str).Nodup by decide +kernel) rfl (Or.inl rfl) (.inr rfl)) bv_)))) (tgt_tup (bn_ (by decide) (bn_ (by decide) en_ bm_) (ct_ bm_))) (fun a b c d e=>XCs.at (Ex:=noEx) F bq_) (fun a b c d e=>XE.at (Ex:=noEx) F (bf_ (ab_ (pv 0)) (am_ K (ab_ (pv 1)) ad_ (fun _ _=>rfl))))) (setC_x (ee_ (n:=2) (is:=[0,1]) rfl (by decide)) (by decide)))
    (af_ (an_ (dx_ (aa_ (ag_ CRU (hr.mono (by omega)) (aa_ (xe_maxD (by rfl) (by rfl) m_max (aa_ (ab_ (pv 3)) ac_) (pk_cons aw_ pk_nil)) (aa_ (ab_ (pv 2)) ac_))) (aa_ (ab_ (pv 2)) ac_)))))))),fun ds Q h => ?_⟩
  obtain ⟨ks,rfl,hk,hd,hl,hn,q⟩:=h
  have hb:=bdK12 hk hd hn
  refine ⟨ks,rfl,hk,hd,hl,hn,?_⟩
  generalize hrs:rmK ks=rs at hb q
  have hlr:rs.length≤10:=by rw [← hrs,lenK]; exact hl
  obtain ⟨c0,c1⟩:=dm_ (e:=0) (by omega) hb
  have c2:(rs.length:Int) * (2 ^ 150 + 8)≤10 * (2 ^ 150 + 8):=Int.mul_le_mul_of_nonneg_right (by omega) (by decide)
  obtain ⟨x0,x1⟩:=mx_bd hb
  refine ⟨rs,rfl,hlr,fun r hr=>(hb r hr).2.2.1,?_⟩
  refine ⟨rs,rfl,hlr,hb,?_⟩
  have hzl:(zipX ((plcs 0 rs).map Dx.int) (rs.map prT)).length≤1000000:=by rw [df_,List.length_map,List.length_zip]; omega
  refine ⟨hzl,show compX _ _ _ _ _ (zipX ((plcs 0 rs).map Dx.int) (rs.map prT)) _ _ from ?_⟩
  rw [df_]
  refine be_ _ (fun p:Int×(Int×Int)=>Dx.int (p.1 + p.2.1)) (fun p hp acc P pp=>pp) ?_
  rw [List.nil_append]
  have ez:(((plcs 0 rs).zip rs).map fun p=>Dx.int (p.1 + p.2.1))=(ends 0 rs).map Dx.int:=by rw [ends_zip,List.map_map]; rfl
  rw [ez]
  refine ⟨ends 0 rs,rfl,fun en => ?_,fun M hM hle => ?_⟩
  · have : rs = [] := by
      cases rs with
      | nil=>rfl
      | cons r t=>cases en
    subst this
    exact ⟨_,_,rfl,by decide,by decide,by decide,by decide,len2,q⟩
  · have hne : rs ≠ [] := fun z => by rw [z] at hM; cases hM
    obtain ⟨t1,t2⟩:=ends_max (e:=0) (fun r hr=>⟨(hb r hr).1,by have:=(hb r hr).2.2.1; omega⟩) hne
    have:M=lastEnd 0 rs:=Int.le_antisymm (t2 M hM) (hle _ t1)
    subst this
    exact ⟨_,_,rfl,c0,by omega,by omega,by omega,len2,q⟩
theorem okx_rh (F:Fun K "room_of_choice" "room_of_choice" ca_ f fd) (CRS:Cal P w K mg base j "rooms_of" ["kinds"] (spX (gRS n))) (CGM:Cal P w K mg base 1 "greatest_multiple" ["rooms"] (spX gGM)) (CCA:Cal P w K mg base 2 "chosen_at" ["multiple"] (spX gCA)) (CRU:Cal P w K mg base 1 "rounded_up" ["number", "m"] (spX gRU)) (m_max:mg "max" = none) (hj:2≤j) :
    FnOk P w K mg base CX0 (j + 1) f fd ["kinds"] (spX (gRL choRm n)):=by
  refine ez_ F sc_room_of_choice (fun ds Q h=>by obtain ⟨_,rfl,_⟩:=h; rfl) (by decide) fun cdv A outer s H E hr => ?_
  refine ⟨_,(ae_ (ai_ fun F=>ak_ (i:=1) sc_room_of_choice.nd rfl (Or.inl rfl) (XE.at (Ex:=noEx) F (ag_ CRS (hr.mono (by omega)) (aa_ (ab_ (pv 0)) ac_))))
    (ae_ (ai_ fun F=>ak_ (i:=2) sc_room_of_choice.nd rfl (Or.inl rfl) (XE.at (Ex:=noEx) F (ag_ CGM (hr.mono (by omega)) (aa_ (ab_ (pv 1)) ac_))))
    (ae_ (ai_ fun F=>ak_ (i:=3) sc_room_of_choice.nd rfl (Or.inl rfl) (XE.at (Ex:=noEx) F (xe_maxD (by rfl) (by rfl) m_max (aa_ (ce_ (dsc:=defScope ca_) (N:=["kinds", "rooms", "multiple", "greatest"]) (tgs:=["room"]) (outs:=[]) (N':=["room"]) (by refine ⟨rfl,?_,?_,?_,rfl,?_,?_,?_⟩ <;> decide +kernel) (bk_ (ab_ (pv 1))) (fun _ _ _ _ _=>(aj_ (i:=0) (show (["room"]:List Str).Nodup by decide +kernel) rfl (Or.inl rfl) (.inr rfl))) (bi_ (n:=1) (i:=0) (by decide)) (bt_ (by decide)) (fun _ _ _ _ _=>bq_) (fun _ _ _ _ _=>(am_ K (ab_ (pv 0)) ad_ (fun _ _=>rfl)))) ac_) (pk_cons aw_ pk_nil))))
    (af_ (an_ (dx_ (aa_ (ag_ CRU (hr.mono (by omega)) (aa_ (bf_ (ag_ CCA (hr.mono (by omega)) (aa_ (ab_ (pv 2)) ac_)) (ab_ (pv 3))) (aa_ (ab_ (pv 2)) ac_))) (aa_ (ab_ (pv 2)) ac_)))))))),fun ds Q h => ?_⟩
  obtain ⟨ks,rfl,hk,hd,hl,hn,q⟩:=h
  have hb:=bdK12 hk hd hn
  refine ⟨ks,rfl,hk,hd,hl,hn,?_⟩
  generalize hrs:rmK ks=rs at hb q
  have hlr:rs.length≤10:=by rw [← hrs,lenK]; exact hl
  obtain ⟨x0,x1⟩:=mx_bd hb
  obtain ⟨u1,u2⟩:=ao_ (n:=1) (m:=maxL 1 (rs.map (·.2))) (by omega)
  have y0:0≤maxL 0 (rs.map (·.1)):=ed_ _
  have y1:maxL 0 (rs.map (·.1))≤2 ^ 150:=maxL_le (by decide) fun z hz=>by obtain ⟨r,hr,rfl⟩:=List.mem_map.mp hz; exact (hb r hr).2.1
  refine ⟨rs,rfl,hlr,fun r hr=>(hb r hr).2.2.1,?_⟩
  refine ⟨show (rs.map prT).length≤_ by rw [List.length_map]; omega,show compX _ _ _ _ _ (rs.map prT) _ _ from ?_⟩
  refine be_ prT (fun r=>.int r.1) (fun r hr acc P p=>p) ?_
  refine ⟨rs.map (·.1),by rw [List.map_map]; rfl,fun en => ?_,fun M hM hle => ?_⟩
  · have : rs = [] := List.map_eq_nil_iff.mp en
    subst this
    exact ⟨_,rfl,by decide,by decide,_,_,rfl,by decide,by decide,by decide,by decide,len2,q⟩
  · obtain ⟨r, hr', rfl⟩ := List.mem_map.mp hM
    have e:r.1=maxL 0 (rs.map (·.1)):=(maxL_is (d:=0) hM (hb r hr').1 hle)
    rw [e]
    exact ⟨_,rfl,by omega,by omega,_,_,rfl,by omega,by omega,by omega,by omega,len2,q⟩
theorem okx_ro (F:Fun K "room_of" "room_of" fe_ f fd) (CRR:Cal P w K mg base j "room_of_row" ["kind", "n"] (spX (gRR n))) (CRC:Cal P w K mg base j "room_of_record" ["kinds"] (spX (gRL rcdRm n))) (CRH:Cal P w K mg base j "room_of_choice" ["kinds"] (spX (gRL choRm n))) :
    FnOk P w K mg base CX0 (j + 1) f fd ["kind"] (spX (gRO (n + 1))):=by
  refine ez_ F sc_room_of (fun ds Q h=>by obtain ⟨_,rfl,_⟩:=h; rfl) (by decide) fun cdv A outer s H E hr => ?_
  have hu0:=Nat.lt_of_succ_lt (dv_ hr)
  refine ⟨_,(ae_ (bd_ (av_ (bs_ K hu0) cs_ (am_ K (ab_ (pv 0)) ad_ (fun _ _=>rfl)) br_ (nomark _)) (af_ (an_ (dx_ (aa_ (am_ K (ab_ (pv 0)) ad_ (fun _ _=>rfl)) (aa_ (am_ K (ab_ (pv 0)) ad_ (fun _ _=>rfl)) ac_))))) ar_)
    (ae_ (bd_ (av_ (bs_ K hu0) cs_ (am_ K (ab_ (pv 0)) ad_ (fun _ _=>rfl)) br_ (nomark _)) (af_ (an_ (ag_ CRR (hr.mono (by omega)) (aa_ (am_ K (ab_ (pv 0)) ad_ (fun _ _=>rfl)) (aa_ (am_ K (ab_ (pv 0)) ad_ (fun _ _=>rfl)) ac_))))) ar_)
    (ae_ (bd_ (av_ (bs_ K hu0) cs_ (am_ K (ab_ (pv 0)) ad_ (fun _ _=>rfl)) br_ (nomark _)) (af_ (an_ (ag_ CRC (hr.mono (by omega)) (aa_ (ce_ (dsc:=defScope fe_) (N:=["kind"]) (tgs:=["field"]) (outs:=[]) (N':=["field"]) (by refine ⟨rfl,?_,?_,?_,rfl,?_,?_,?_⟩ <;> decide +kernel) (bk_ (am_ K (ab_ (pv 0)) ad_ (fun _ _=>rfl))) (fun _ _ _ _ _=>(aj_ (i:=0) (show (["field"]:List Str).Nodup by decide +kernel) rfl (Or.inl rfl) (.inr rfl))) (bi_ (n:=1) (i:=0) (by decide)) (bt_ (by decide)) (fun _ _ _ _ _=>bq_) (fun _ _ _ _ _=>(am_ K (ab_ (pv 0)) ad_ (fun _ _=>rfl)))) ac_)))) ar_)
    (af_ (an_ (ag_ CRH (hr.mono (by omega)) (aa_ (am_ K (ab_ (pv 0)) ad_ (fun _ _=>rfl)) ac_))))))),fun ds Q h => ?_⟩
  obtain ⟨kd,rfl,hk,hd,hn,q⟩:=h
  cases kd with
  | num wd m=>exact ⟨len2,q⟩
  | row k m =>
    have hd':k.deep + 1≤n + 1:=hd
    exact ⟨k,m,rfl,hk.1,by omega,by omega,hk.2.1,hk.2.2,q⟩
  | rcd fs =>
    have hd':deepF fs + 1≤n + 1:=hd
    have hl:=hk.2
    refine ⟨show (xF fs).length≤_ by rw [de_,List.length_map]; omega,show compX _ _ _ _ _ (xF fs) _ _ from ?_⟩
    rw [de_]
    refine be_ _ (fun f:Str×Kd=>f.2.x) (fun f hm acc P p=>p) ?_
    refine ⟨fs.map (·.2),by rw [List.nil_append,da_,List.map_map]; rfl,okF_map hk.1,by rw [ix_]; omega,by rw [List.length_map]; exact hl,by omega,?_⟩
    rw [rmF_map]
    exact q
  | cho ks =>
    have hd':deepK ks + 1≤n + 1:=hd
    exact ⟨ks,rfl,hk.1,by omega,hk.2,by omega,q⟩
theorem okx_po (F:Fun K "places_in_order" "places_in_order" at_ f fd) (CPB:Cal P w K mg base 2 "places_behind" ["rooms"] (spX gPB)) (CRS:Cal P w K mg base j "rooms_of" ["kinds"] (spX (gRS n))) (m_zip:mg "zip" = none) (hj:2≤j) :
    FnOk P w K mg base CX0 (j + 1) f fd ["fields"] (spX (gPO n)):=by
  refine ez_ F sc_places_in_order (fun ds Q h=>by obtain ⟨_,rfl,_⟩:=h; rfl) (by decide) fun cdv A outer s H E hr => ?_
  refine ⟨_,(ae_ (ai_ fun F=>ak_ (i:=1) sc_places_in_order.nd rfl (Or.inl rfl) (XE.at (Ex:=noEx) F (ag_ CPB (hr.mono (by omega)) (aa_ (ag_ CRS (hr.mono (by omega)) (aa_ (ce_ (dsc:=defScope at_) (N:=["fields", "places"]) (tgs:=["field"]) (outs:=[]) (N':=["field"]) (by refine ⟨rfl,?_,?_,?_,rfl,?_,?_,?_⟩ <;> decide +kernel) (bk_ (ab_ (pv 0))) (fun _ _ _ _ _=>(aj_ (i:=0) (show (["field"]:List Str).Nodup by decide +kernel) rfl (Or.inl rfl) (.inr rfl))) (bi_ (n:=1) (i:=0) (by decide)) (bt_ (by decide)) (fun _ _ _ _ _=>bq_) (fun _ _ _ _ _=>(am_ K (ab_ (pv 0)) ad_ (fun _ _=>rfl)))) ac_)) ac_))))
    (af_ (an_ (ce_ (dsc:=defScope at_) (N:=["fields", "places"]) (tgs:=["field", "place"]) (outs:=[]) (N':=["field", "place"]) (by refine ⟨rfl,?_,?_,?_,rfl,?_,?_,?_⟩ <;> decide +kernel) (xi_zip m_zip (aa_ (ab_ (pv 0)) (aa_ (ab_ (pv 1)) ac_))) (fun _ _ _ _ _=>(pg_tupK K (n:=2) rfl rfl (aq_ (aj_ (i:=0) (show (["field", "place"]:List Str).Nodup by decide +kernel) rfl (Or.inl rfl) (.inr rfl)) (aq_ (aj_ (i:=1) (show (["field", "place"]:List Str).Nodup by decide +kernel) rfl (Or.inl rfl) (.inr rfl)) bv_)))) (ee_ (n:=2) (is:=[0,1]) rfl (by decide)) (tgt_tup (bn_ (by decide) (bn_ (by decide) en_ bm_) (ct_ bm_))) (fun _ _ _ _ _=>bq_) (fun _ _ _ _ _=>(dx_ (aa_ (am_ K (ab_ (pv 0)) ad_ (fun _ _=>rfl)) (aa_ (ab_ (pv 1)) ac_)))))))),fun ds Q h => ?_⟩
  obtain ⟨fs,rfl,hk,hd,hl,hn,q⟩:=h
  have hb:=bdF12 hk hd hn
  have hlr:(rmF fs).length=fs.length:=lenF fs
  refine ⟨show (xF fs).length≤_ by rw [de_,List.length_map]; omega,show compX _ _ _ _ _ (xF fs) _ _ from ?_⟩
  rw [de_]
  refine be_ _ (fun f:Str×Kd=>f.2.x) (fun f hm acc P p=>p) ?_
  refine ⟨fs.map (·.2),by rw [List.nil_append,da_,List.map_map]; rfl,okF_map hk,by rw [ix_]; omega,by rw [List.length_map]; exact hl,hn,?_⟩
  rw [rmF_map]
  refine ⟨rmF fs,rfl,by omega,hb,?_⟩
  have hzl:(zipX (fs.map fun f=>.tup [.str f.1,f.2.x]) ((plcs 0 (rmF fs)).map Dx.int)).length≤1000000:=by rw [df_,List.length_map,List.length_zip]; omega
  refine ⟨hzl,show compX _ _ _ _ _ (zipX (fs.map fun f=>.tup [.str f.1,f.2.x]) ((plcs 0 (rmF fs)).map Dx.int)) _ _ from ?_⟩
  rw [df_]
  exact be_ _ (fun p:(Str×Kd)×Int=>Dx.tup [.str p.1.1,.int p.2]) (fun p hp acc P pp=>⟨len2,pp⟩) q
theorem rox_none:FnOk P w K mg base CX0 j f fd ["kind"] (spX (gRO 0)):=fn_no fun ds Q h=>by
  obtain ⟨kd,_,_,hd,_⟩:=h
  have:=Kd.deep_pos kd
  omega
end
def gLN:GB:=fun l ds Q => ∃ B many:Int,ds=[.int many]∧PoolX B l∧0≤many∧many≤12∧B + 1000 < 2 ^ 60∧∀ (xs:List Str) (l':List Dx),xs.length=many.toNat→xs.Nodup→(∀ x∈xs,Nm x)→PoolX (B + 200) l'→Q (.lst (xs.map Dx.str)) l'
theorem all_strs {G:Hp}:∀ xs:List Str,All2 (IsX G) (xs.map Dx.str) (xs.map V.str)
  | []=>rfl
  | x :: xs=>⟨_,_,rfl,IsX.of_str x,all_strs xs⟩
theorem all_ints {G:Hp}:∀ xs:List Int,All2 (IsX G) (xs.map Dx.int) (xs.map V.int)
  | []=>rfl
  | x :: xs=>⟨_,_,rfl,IsX.of_int x,all_ints xs⟩
theorem pool_is {G H:Hp} {p:Addr} {ws:List V} {l:List Dx} {B:Int} (hp:H p=some (.lst ws)) (hl:All2 (IsX G) l ws) (h:PoolX B l):∃ md,PoolAt p md B H:=by
  obtain ⟨c,md,st,rfl,h0,h1⟩:=h
  obtain ⟨_,_,rfl,e1,_,_,rfl,e2,_,_,rfl,e3,rfl⟩:=hl
  cases e1.int_eq; cases e2.int_eq; cases e3.int_eq
  exact ⟨md,c,st,hp,h0,h1⟩
theorem pool_to {G H:Hp} {p:Addr} {md B:Int} (h:PoolAt p md B H):∃ l ws,H p=some (.lst ws)∧All2 (IsX G) l ws∧PoolX B l:=by
  obtain ⟨c,st,hp,h0,h1⟩:=h
  exact ⟨_,_,hp,all_ints [c,md,st],c,md,st,rfl,h0,h1⟩
theorem names_b {P:Program} {w:World} {K:FG_} {mg:MG_} {base:Heap} {f:Addr} {fd:FuncData} {j:Nat} (h:FnOk P w K mg base CX0 j f fd ["pool", "many"] spLN):FnOk P w K mg base CX0 j f fd ["pool", "many"] (spB gLN):=h.imp fun vs H Q E=>by
  rintro ⟨p,ws,l,vr,Hs,ds,Qx,rfl,hp,h1,hsp,hl,h2,⟨B,many,rfl,hP,m0,m1,hB,q⟩,k⟩
  obtain ⟨v,rfl,hv⟩:=dc_ h2
  cases hv.int_eq
  obtain ⟨md,hA⟩:=pool_is hp hl hP
  refine ⟨p,md,B,many,rfl,hA,m0,m1,hB,fun a xs H' na ha ha' hxl hnd hnm e hP' => ?_⟩
  obtain ⟨l',ws',hp',hl',hP''⟩:=pool_to (G:=hid [p] (ext Hs H H')) hP'
  exact k (.lst (xs.map Dx.str)) (.ref a) l' ws' H' e hp' hl' (IsX.of_lst (vs:=xs.map V.str) (by rw [bj_ ha,ha']; rfl) (all_strs xs)) (q xs l' hxl hnd hnm hP'')
theorem dy_ {G K:XS} {ρ:En} {D:XD} (M:En→Prop) (h1:∀ ρ',M ρ'→K ρ' D) (h2:∀ D':XD,(∀ ρ',M ρ'→D'.nx ρ')→G ρ D'):xSeq G K ρ D:=h2 { D with nx:=fun ρ'=>K ρ' D } h1
theorem go_set {i:Nat} {t:XT} {K:XS} {ρ:En} {D:XD} (h:t ρ fun s ρ'=>K (ρ'.set i (.v s)) D):xSeq (xSet i t) K ρ D:=h
theorem go_var {i:Nat} {s:Sv} {ρ:En} {Q:Sv→En→Prop} (hi:ρ[i]? = some (.v s)) (h:Q (.tr s.d) (ρ.set i (.v (.tr s.d)))):xVar i ρ Q:=by
  unfold xVar
  rw [hi]
  exact h
theorem xF_snoc (fs:List (Str×Kd)) (f:Str×Kd):xF (fs ++ [f])=xF fs ++ [.tup [.str f.1,f.2.x]]:=by rw [de_,de_,List.map_append]; rfl
theorem xK_snoc (ks:List Kd) (k:Kd):xK (ks ++ [k])=xK ks ++ [k.x]:=by rw [da_,da_,List.map_append]; rfl
theorem two_inX {v:Dx} {a b B:Int} (h:v∈[Dx.int a,Dx.int b]) (a0:0≤a) (a1:a < B) (b0:0≤b) (b1:b < B):∃ z,v=.int z∧0≤z∧z < B:=by
  simp only [List.mem_cons,List.not_mem_nil,or_false] at h
  rcases h with rfl | rfl
  · exact ⟨_,rfl,a0,a1⟩
  · exact ⟨_,rfl,b0,b1⟩
theorem four_inX {v:Dx} (h:v∈[Dx.int 1,Dx.int 2,Dx.int 4,Dx.int 8]):∃ z,v=.int z∧(z=1∨z=2∨z=4∨z=8):=by
  simp only [List.mem_cons,List.not_mem_nil,or_false] at h
  rcases h with rfl | rfl | rfl | rfl
  · exact ⟨_,rfl,by omega⟩
  · exact ⟨_,rfl,by omega⟩
  · exact ⟨_,rfl,by omega⟩
  · exact ⟨_,rfl,by omega⟩
theorem hi_ {l:List Dx} {r:Int} {Q:Sv→Prop} (h0:0≤r) (h1:r < l.length) (q:∀ d∈l,Q (.tr d)):ixX (.lst l) (.int r) Q:=by
  obtain ⟨v,hv,hm⟩:=atI_in h0 h1
  show (match atI l r with | some d=>Q (.tr d) | none=>False)
  rw [hv]
  exact q v hm
theorem lenA {n:Nat} (h:n≤1000000):n≤1000000:=h
def gLK (n:Nat):GB:=fun l ds Q => ∃ B d mo:Int,ds=[.int d,.int mo]∧PoolX B l∧8≤mo∧1≤d∧d≤n∧n≤5∧B + tk n < 2 ^ 60 ∧
  ∀ (kd:Kd) (l':List Dx),kd.Fit→(kd.deep:Int)≤d→kd.rm.1≤mo→PoolX (B + tk n) l'→Q kd.x l'
section
variable {P:Program} {w:World} {K:FG_} {mg:MG_} {base:Heap} {f:Addr} {fd:FuncData} {n j jM:Nat}
theorem okx_lk (F:Fun K "_law_kind" "_law_kind" dl_ f fd) (CTK:Cal P w K mg base 1 "_law_take" ["pool", "many"] (spB gTK)) (CLN:Cal P w K mg base 2 "_law_names" ["pool", "many"] (spB gLN)) (CLM:Cal P w K mg base jM "_law_room" ["kind"] (spX (gLM 5))) (hjM:jM≤j) (hj2:2≤j)
    (CLK:Cal P w K mg base j "_law_kind" ["pool", "deep", "most"] (spB (gLK n))) (m_range:mg "range" = none) (m_int:mg "int" = none):FnOk P w K mg base CX0 (j + 1) f fd ["pool", "deep", "most"] (spB (gLK (n + 1))):=by
  refine fn_b F sc_law_kind (fun l ds Q h=>by obtain ⟨B,d,mo,rfl,_⟩:=h; rfl) (by decide) fun cdv A outer s H E hr => ?_
  have hu0:=Nat.lt_of_succ_lt (dv_ hr)
  refine ⟨_,(ae_ (ai_ fun F=>ak_ (i:=3) sc_law_kind.nd rfl (Or.inl rfl) (XE.at (Ex:=noEx) F (ap_ (i:=0) CTK (hr.mono (by omega)) (pv 0) (aa_ ad_ ac_))))
    (ae_ (ai_ fun F=>ak_ (i:=4) sc_law_kind.nd rfl (Or.inl rfl) (XE.at (Ex:=noEx) F (dx_ (aa_ br_ (aa_ (bf_ ad_ (ap_ (i:=0) CTK (hr.mono (by omega)) (pv 0) (aa_ ad_ ac_))) (aa_ (am_ K (by_ (aa_ ad_ (aa_ ad_ (aa_ ad_ (aa_ ad_ ac_))))) (ap_ (i:=0) CTK (hr.mono (by omega)) (pv 0) (aa_ ad_ ac_)) (fun _ _=>rfl)) ac_))))))
    (ae_ (bd_ (XW.pt (xw_or (av_ (bs_ K hu0) cs_ (ab_ (pv 1)) ad_ (nomark _)) (xw_or1 (av_ op_lt ox_lt (ab_ (pv 3)) ad_ (nomark _))))) (af_ (an_ (cd_ (pv 4)))) ar_)
    (ae_ (ai_ fun F=>ak_ (i:=5) sc_law_kind.nd rfl (Or.inl rfl) (XE.at (Ex:=noEx) F (ab_ (pv 4))))
    (ae_ (bd_ (av_ op_lt ox_lt (ab_ (pv 3)) ad_ (nomark _)) (ae_ (ai_ fun F=>ak_ (i:=6) sc_law_kind.nd rfl (Or.inl rfl) (XE.at (Ex:=noEx) F (bf_ ad_ (am_ K (by_ (aa_ (ap_ (i:=0) CTK (hr.mono (by omega)) (pv 0) (aa_ ad_ ac_)) (aa_ (ap_ (i:=0) CTK (hr.mono (by omega)) (pv 0) (aa_ ad_ ac_)) ac_))) (ap_ (i:=0) CTK (hr.mono (by omega)) (pv 0) (aa_ ad_ ac_)) (fun _ _=>rfl)))))
    (af_ (ai_ fun F=>ak_ (i:=5) sc_law_kind.nd rfl (Or.inl rfl) (XE.at (Ex:=noEx) F (dx_ (aa_ br_ (aa_ (ap_ (i:=0) CLK (hr.mono (by omega)) (pv 0) (aa_ (fv_ (ab_ (pv 1)) ad_) (aa_ (ab_ (pv 2)) ac_))) (aa_ (ab_ (pv 6)) ac_)))))))) (af_ (bd_ (av_ op_lt ox_lt (ab_ (pv 3)) ad_ (nomark _)) (ae_ (ai_ fun F=>ak_ (i:=6) sc_law_kind.nd rfl (Or.inl rfl) (XE.at (Ex:=noEx) F (bf_ ad_ (am_ K (by_ (aa_ (ap_ (i:=0) CTK (hr.mono (by omega)) (pv 0) (aa_ ad_ ac_)) (aa_ (ap_ (i:=0) CTK (hr.mono (by omega)) (pv 0) (aa_ ad_ ac_)) ac_))) (ib_ call_int1 cx_int (by rfl) m_int bt_int (aa_ (ia_ (bs_ K hu0) cs_ (ap_ (i:=0) CTK (hr.mono (by omega)) (pv 0) (aa_ ad_ ac_)) ad_ (nomark _)) ac_)) (fun _ _=>rfl)))))
    (af_ (ai_ fun F=>ak_ (i:=5) sc_law_kind.nd rfl (Or.inl rfl) (XE.at (Ex:=noEx) F (dx_ (aa_ br_ (aa_ (ce_ (dsc:=defScope dl_) (N:=["pool", "deep", "most", "way", "kind", "found", "many"]) (tgs:=["name"]) (outs:=[0,1,2]) (N':=["name", "pool", "deep", "most"]) (by refine ⟨rfl,?_,?_,?_,rfl,?_,?_,?_⟩ <;> decide +kernel) (bk_ (ap_ (i:=0) CLN (hr.mono (by omega)) (pv 0) (aa_ (ab_ (pv 6)) ac_))) (fun _ _ _ _ _=>(aj_ (i:=0) (show (["name", "pool", "deep", "most"]:List Str).Nodup by decide +kernel) rfl (Or.inl rfl) (.inr rfl))) (bi_ (n:=1) (i:=0) (by decide)) (bt_ (by decide)) (fun _ _ _ _ _=>bq_) (fun _ _ _ _ _=>(dx_ (aa_ (ab_ (pv 0)) (aa_ (ap_ (i:=1) CLK (hr.mono (by omega)) (pv 1) (aa_ (fv_ (ab_ (pv 2)) ad_) (aa_ (ab_ (pv 3)) ac_))) ac_))))) ac_))))))) (ae_ (ai_ fun F=>ak_ (i:=6) sc_law_kind.nd rfl (Or.inl rfl) (XE.at (Ex:=noEx) F (bf_ ad_ (am_ K (by_ (aa_ (ap_ (i:=0) CTK (hr.mono (by omega)) (pv 0) (aa_ ad_ ac_)) (aa_ (ap_ (i:=0) CTK (hr.mono (by omega)) (pv 0) (aa_ ad_ ac_)) ac_))) (ap_ (i:=0) CTK (hr.mono (by omega)) (pv 0) (aa_ ad_ ac_)) (fun _ _=>rfl)))))
    (af_ (ai_ fun F=>ak_ (i:=5) sc_law_kind.nd rfl (Or.inl rfl) (XE.at (Ex:=noEx) F (dx_ (aa_ br_ (aa_ (ce_ (dsc:=defScope dl_) (N:=["pool", "deep", "most", "way", "kind", "found", "many"]) (tgs:=["k"]) (outs:=[0,1,2]) (N':=["k", "pool", "deep", "most"]) (by refine ⟨rfl,?_,?_,?_,rfl,?_,?_,?_⟩ <;> decide +kernel) (do_ m_range (aa_ (ab_ (pv 6)) ac_)) (fun _ _ _ _ _=>(aj_ (i:=0) (show (["k", "pool", "deep", "most"]:List Str).Nodup by decide +kernel) rfl (Or.inl rfl) (.inr rfl))) (bi_ (n:=1) (i:=0) (by decide)) (bt_ (by decide)) (fun _ _ _ _ _=>bq_) (fun _ _ _ _ _=>(ap_ (i:=1) CLK (hr.mono (by omega)) (pv 1) (aa_ (fv_ (ab_ (pv 2)) ad_) (aa_ (ab_ (pv 3)) ac_))))) ac_))))))))))
    (ae_ (bd_ (av_ op_gt ox_gt (am_ K (ag_ CLM (hr.mono (by omega)) (aa_ (ab_ (pv 5)) ac_)) ad_ (fun _ _=>rfl)) (ab_ (pv 2)) (nomark _)) (af_ (an_ (cd_ (pv 4)))) ar_)
    (af_ (an_ (cd_ (pv 5)))))))))),fun l ds Q h => ?_⟩
  obtain ⟨B,d,mo,rfl,hp,hmo,hd1,hdn,hn5,hB,q⟩:=h
  have hT0:=tk_nonneg n
  have eT:tk (n + 1)=3000 + 12 * tk n:=rfl
  rw [eT] at hB q
  refine ⟨rfl,B,7,rfl,hp,by omega,by decide,by decide,fun way l1 w0 w1 hP1 => ?_⟩
  refine ⟨rfl,_,8,rfl,hP1,by omega,by decide,by decide,fun r2 l2 r20 r21 hP2 => ?_⟩
  refine ⟨lenA (by decide),rfl,_,4,rfl,hP2,by omega,by decide,by decide,fun r3 l3 r30 r31 hP3 => ?_⟩
  refine hi_ r30 r31 fun v hv => ?_
  obtain ⟨m,rfl,hm⟩:=four_inX hv
  refine ⟨lenA (by show 3≤1000000; decide),?_⟩
  dsimp only
  change xSeq _ _ [.bw l3,.v (.tr (.int d)),.v (.tr (.int mo)),.v (.tr (.int way)),.v (.tr (Kd.num (1 + r2) m).x),.un,.un] _
  have fN:(Kd.num (1 + r2) m).Fit:=⟨by omega,by omega,hm⟩
  have rN:(Kd.num (1 + r2) m).rm.1≤mo:=by show 1 + r2≤mo; omega
  have dN:((Kd.num (1 + r2) m).deep:Int)≤d:=by show ((1:Nat):Int)≤d; omega
  have done:∀ {l':List Dx},PoolX (B + (3000 + 12 * tk n)) l'→Q (Kd.num (1 + r2) m).x l':=fun {l'} hP=>q _ _ fN dN rN hP
  have hP4:PoolX (B + 3) l3:=hP3.mono (by omega)
  clear hP3 hP2 hP1 hv
  generalize Kd.num (1 + r2) m=kN at *
  refine ite2 (fun c=>done (hP4.mono (by omega))) (fun c => ?_)
  have c':¬ d=1:=fun z=>c (by rw [z]; exact decide_eq_true rfl)
  refine ite2 (fun c=>done (hP4.mono (by omega))) (fun c2 => ?_)
  unfold xNext
  dsimp only
  refine go_set (go_var rfl ?_)
  change xSeq _ _ [.bw l3,.v (.tr (.int d)),.v (.tr (.int mo)),.v (.tr (.int way)),.v (.tr kN.x),.v (.tr kN.x),.un] _
  refine dy_ (fun ρ => ∃ (kd:Kd) (o:Sl) (l':List Dx),ρ=[.bw l',.v (.tr (.int d)),.v (.tr (.int mo)),.v (.tr (.int way)),.v (.tr kN.x),.v (.tr kd.x),o]∧kd.Fit∧(kd.deep:Int)≤d∧PoolX (B + (3000 + 12 * tk n)) l') ?_ (fun D' hD => ?_)
  · rintro ρ' ⟨kd, o, l', rfl, hF, hdp, hP5⟩
    refine ⟨kd,rfl,hF.ok,hF.full,by omega,by decide,?_⟩
    refine ite2 (fun c3=>done hP5) (fun c3 => ?_)
    have:¬ kd.rm.1 > mo:=fun z=>c3 (decide_eq_true z)
    exact q kd l' hF hdp (by omega) hP5
  · have hdd : d - 1 = ((d - 1).toNat : Int) := by omega
    have T8:∀ i:Nat,i≤8→(i:Int) * tk n≤8 * tk n:=fun i hi=>Int.mul_le_mul_of_nonneg_right (by omega) hT0
    have Tn:∀ i:Nat,0≤(i:Int) * tk n:=fun i=>Int.mul_nonneg (by omega) hT0
    have Ts:∀ i:Nat,((i + 1:Nat):Int) * tk n=(i:Int) * tk n + tk n:=fun i=>by push_cast; rw [Int.add_mul,Int.one_mul]
    refine ite2 (fun c3 => ?_) (fun c3=>ite2 (fun c4 => ?_) (fun c4 => ?_))
    · -- a row
      refine ⟨rfl,_,3,rfl,hP4,by omega,by decide,by decide,fun a la a0 a1 hPa => ?_⟩
      refine ⟨rfl,_,20,rfl,hPa,by omega,by decide,by decide,fun b lb b0 b1 hPb => ?_⟩
      refine ⟨len2,rfl,_,2,rfl,hPb,by omega,by decide,by decide,fun r lr r0 r1 hPr=>hi_ r0 r1 fun v hvm => ?_⟩
      obtain ⟨z,rfl,z0,z1⟩:=two_inX (B:=20) hvm a0 (by omega) b0 b1
      refine ⟨rfl,_,d - 1,mo,rfl,hPr,hmo,by omega,by omega,by omega,by omega,fun kd l5 hF hdp hrm hP5 => ?_⟩
      refine ⟨lenA (by show 3≤1000000; decide),hD _ ⟨.row kd (1 + z),.v (.tr (.int (1 + z))),l5,rfl,⟨hF,by omega,by omega⟩,?_,hP5.mono (by omega)⟩⟩
      show ((kd.deep + 1:Nat):Int)≤d
      omega
    · -- a record
      refine ⟨rfl,_,4,rfl,hP4,by omega,by decide,by decide,fun a la a0 a1 hPa => ?_⟩
      refine ⟨rfl,_,8,rfl,hPa,by omega,by decide,by decide,fun b lb b0 b1 hPb => ?_⟩
      refine ⟨len2,rfl,_,4,rfl,hPb,by omega,by decide,by decide,fun r lr r0 r1 hPr => ?_⟩
      simp only [xC,eqX,eqS,xNil,Sv.d,List.map_cons,List.map_nil,intX]
      refine hi_ (by split <;> decide) (by show _ < (2:Int); split <;> decide) fun v hvm => ?_
      obtain ⟨z,rfl,z0,z1⟩:=two_inX (B:=8) hvm a0 (by omega) b0 b1
      refine ⟨rfl,_,1 + z,rfl,hPr,by omega,by omega,by omega,fun xs l5 hxl hnd hnm hP5 => ?_⟩
      have hx8:xs.length≤8:=by omega
      refine ⟨by rw [List.length_map]; omega,?_⟩
      refine el_ Dx.str (fun rest acc cs => ∃ (fs:List (Str×Kd)) (l':List Dx),xs=fs.map (·.1) ++ rest∧acc=xF fs∧cs=[.bw l',.v (.tr (.int d)),.v (.tr (.int mo))]∧fitF fs∧deepF fs≤(d - 1).toNat∧PoolX (B + 300 + (fs.length:Int) * tk n) l') (fun acc cs h => ?_) (fun nm rest acc cs Pn h hk => ?_) ⟨[],l5,rfl,rfl,rfl,trivial,Nat.zero_le _,hP5.mono (by simp; omega)⟩
      · obtain ⟨fs, l', e1, rfl, rfl, hF, hdp, hP6⟩ := h
        rw [List.append_nil] at e1
        have hfl:fs.length=xs.length:=by rw [e1,List.length_map]
        have t8:=T8 fs.length (by omega)
        refine ⟨len2,hD _ ⟨.rcd fs,.v (.tr (.int (1 + z))),l',rfl,⟨hF,by omega,by omega,by rw [← e1]; exact hnd⟩,?_,hP6.mono (by omega)⟩⟩
        show ((deepF fs + 1:Nat):Int)≤d
        omega
      · obtain ⟨fs, l', e1, rfl, rfl, hF, hdp, hP6⟩ := h
        have hfl:fs.length + (rest.length + 1)=xs.length:=by rw [e1,List.length_append,List.length_map,List.length_cons]
        have t8:=T8 fs.length (by omega)
        have ts:=Ts fs.length
        have hnm':nm∈xs:=by rw [e1]; exact List.mem_append_right _ List.mem_cons_self
        refine ⟨rfl,_,d - 1,mo,rfl,hP6,hmo,by omega,by omega,by omega,by omega,fun kd l6 hF6 hdp6 hrm hP7=>⟨len2,hk _ _ ⟨fs ++ [(nm,kd)],l6,?_,?_,rfl,fitF_snoc hF (hnm nm hnm') hF6,deepF_snoc hdp (by show kd.deep≤_; omega),hP7.mono (by rw [List.length_append]; show _≤B + 300 + ((fs.length + 1:Nat):Int) * tk n; omega)⟩⟩⟩
        · rw [e1,List.map_append,List.append_assoc]; rfl
        · rw [xF_snoc]; rfl
    · -- a choice
      refine ⟨rfl,_,3,rfl,hP4,by omega,by decide,by decide,fun a la a0 a1 hPa => ?_⟩
      refine ⟨rfl,_,6,rfl,hPa,by omega,by decide,by decide,fun b lb b0 b1 hPb => ?_⟩
      refine ⟨len2,rfl,_,2,rfl,hPb,by omega,by decide,by decide,fun r lr r0 r1 hPr=>hi_ r0 r1 fun v hvm => ?_⟩
      obtain ⟨z,rfl,z0,z1⟩:=two_inX (B:=6) hvm a0 (by omega) b0 b1
      refine ⟨⟨by omega,by omega⟩,by show ((List.range _).map _).length≤_; rw [List.length_map,List.length_range]; omega,?_⟩
      refine el_ (fun k:Nat=>Dx.int (0 + (k:Int))) (fun rest acc cs => ∃ (ks:List Kd) (l':List Dx),ks.length + rest.length=(1 + z).toNat∧acc=xK ks∧cs=[.bw l',.v (.tr (.int d)),.v (.tr (.int mo))]∧fitK ks∧deepK ks≤(d - 1).toNat∧PoolX (B + 300 + (ks.length:Int) * tk n) l') (fun acc cs h => ?_) (fun nm rest acc cs Pn h hk => ?_) ⟨[],lr,by rw [List.length_range]; simp,rfl,rfl,trivial,Nat.zero_le _,hPr.mono (by simp; omega)⟩
      · obtain ⟨ks, l', e1, rfl, rfl, hF, hdp, hP6⟩ := h
        rw [List.length_nil] at e1
        have t8:=T8 ks.length (by omega)
        refine ⟨len2,hD _ ⟨.cho ks,.v (.tr (.int (1 + z))),l',rfl,⟨hF,by omega,by omega⟩,?_,hP6.mono (by omega)⟩⟩
        show ((deepK ks + 1:Nat):Int)≤d
        omega
      · obtain ⟨ks, l', e1, rfl, rfl, hF, hdp, hP6⟩ := h
        rw [List.length_cons] at e1
        have t8:=T8 ks.length (by omega)
        have ts:=Ts ks.length
        refine ⟨rfl,_,d - 1,mo,rfl,hP6,hmo,by omega,by omega,by omega,by omega,fun kd l6 hF6 hdp6 hrm hP7=>hk _ _ ⟨ks ++ [kd],l6,by rw [List.length_append,List.length_singleton]; omega,?_,rfl,fitK_snoc hF hF6,deepK_snoc hdp (by show kd.deep≤_; omega),hP7.mono (by rw [List.length_append]; show _≤B + 300 + ((ks.length + 1:Nat):Int) * tk n; omega)⟩⟩
        rw [xK_snoc]; rfl
end
mutual
def Kd.vx:Kd→Vd→Dx
  | .num _ _,.num n=>.int n
  | .row k _,.row vs=>.lst (vs.map k.vx)
  | .rcd fs,.rcd vs=>.dic (vxF fs vs)
  | .cho ks,.cho j v=>.tup [.int (j:Int),vxK ks j v]
  | _,_=>.non
def vxF:List (Str×Kd)→List Vd→List (Key×Dx)
  | f :: r,v :: vs=>(Sum.inr f.1,f.2.vx v) :: vxF r vs
  | _,_=>[]
def vxK:List Kd→Nat→Vd→Dx
  | [],_,_=>.non
  | k :: _,0,v=>k.vx v
  | _ :: r,j + 1,v=>vxK r j v
end
theorem vxF_snoc:∀ {fs:List (Str×Kd)} {vs:List Vd} {f:Str×Kd} {v:Vd},vs.length=fs.length→vxF (fs ++ [f]) (vs ++ [v])=vxF fs vs ++ [(Sum.inr f.1,f.2.vx v)]
  | [],[],f,v,_=>by simp [vxF]
  | [],_ :: _,_,_,h=>by simp at h
  | _ :: _,[],_,_,h=>by simp at h
  | g :: r,u :: vs,f,v,h=>by simp only [List.cons_append,vxF]; rw [vxF_snoc (by simpa using h)]
theorem hk_:∀ {fs:List (Str×Kd)} {vs:List Vd},vs.length=fs.length→(vxF fs vs).map (·.1)=fs.map fun f=>(Sum.inr f.1:Key)
  | [],[],_=>by simp [vxF]
  | [],_ :: _,h=>by simp at h
  | _ :: _,[],h=>by simp at h
  | g :: r,u :: vs,h=>by simp only [vxF,List.map_cons]; rw [hk_ (by simpa using h)]
theorem vxK_at {v:Vd}:∀ {ks:List Kd} {j:Nat} {k:Kd},ks[j]? = some k→vxK ks j v=k.vx v
  | [],_,_,e=>by simp at e
  | k' :: r,0,k,e=>by simp at e; subst e; simp only [vxK]
  | k' :: r,j + 1,k,e=>by simp only [vxK]; exact vxK_at (j:=j) (by simpa using e)
theorem cl_:∀ {fs:List (Str×Kd)} {vs:List Vd},valF fs vs→vs.length=fs.length
  | [],[],_=>rfl
  | [],_ :: _,h=>by simp [valF] at h
  | _ :: _,[],h=>by simp [valF] at h
  | f :: r,v :: vs,h=>by simp only [valF] at h; simp [cl_ h.2]
theorem valF_snoc:∀ {fs:List (Str×Kd)} {vs:List Vd} {f:Str×Kd} {v:Vd},valF fs vs→f.2.Val v→valF (fs ++ [f]) (vs ++ [v])
  | [],[],f,v,_,h=>by simp only [List.nil_append,valF]; exact ⟨h,trivial⟩
  | [],_ :: _,_,_,h,_=>by simp [valF] at h
  | _ :: _,[],_,_,h,_=>by simp [valF] at h
  | g :: r,u :: vs,f,v,h,h'=>by simp only [List.cons_append,valF] at h ⊢; exact ⟨h.1,valF_snoc h.2 h'⟩
theorem valK_mk:∀ {ks:List Kd} {j:Nat} {k:Kd} {v:Vd},ks[j]? = some k→k.Val v→valK ks j v
  | [],_,_,_,e,_=>by simp at e
  | k' :: r,0,k,v,e,h=>by simp at e; subst e; simp only [valK]; exact h
  | k' :: r,j + 1,k,v,e,h=>by simp only [valK]; exact valK_mk (j:=j) (by simpa using e) h
theorem fitFx:∀ {fs:List (Str×Kd)} {f:Str×Kd},fitF fs→f∈fs→f.2.Fit∧f.2.deep≤deepF fs
  | g :: r, f, h, hm => by
    rcases List.mem_cons.mp hm with rfl | hm
    · exact ⟨h.1.2,Nat.le_max_left _ _⟩
    · exact ⟨(fitFx h.2 hm).1,Nat.le_trans (fitFx h.2 hm).2 (Nat.le_max_right _ _)⟩
theorem fitKx:∀ {ks:List Kd} {k:Kd},fitK ks→k∈ks→k.Fit∧k.deep≤deepK ks
  | g :: r, f, h, hm => by
    rcases List.mem_cons.mp hm with rfl | hm
    · exact ⟨h.1,Nat.le_max_left _ _⟩
    · exact ⟨(fitKx h.2 hm).1,Nat.le_trans (fitKx h.2 hm).2 (Nat.le_max_right _ _)⟩
theorem pow256 {i:Nat} (h:i≤8):(256:Int) ^ i≤256 ^ 8:=by
  have:i=0∨i=1∨i=2∨i=3∨i=4∨i=5∨i=6∨i=7∨i=8:=by omega
  rcases this with rfl | rfl | rfl | rfl | rfl | rfl | rfl | rfl | rfl <;> decide
theorem pow256' {i:Nat} (h:1≤i):(256:Int)≤256 ^ i:=by
  obtain ⟨k,rfl⟩ : ∃ k,i=k + 1:=⟨i - 1,by omega⟩
  rw [Int.pow_succ]
  have:(1:Int)≤256 ^ k:=Int.pow_pos (by decide)
  omega
theorem four_valX {v:Dx} {t a b:Int} (h:v∈[Dx.int 0,Dx.int t,Dx.int a,Dx.int b]) (ht:0≤t) (a0:0≤a) (a1:a≤t) (b0:0≤b) (b1:b≤t):∃ z,v=.int z∧0≤z∧z≤t:=by
  simp only [List.mem_cons,List.not_mem_nil,or_false] at h
  rcases h with rfl | rfl | rfl | rfl
  · exact ⟨_,rfl,by omega,ht⟩
  · exact ⟨_,rfl,ht,by omega⟩
  · exact ⟨_,rfl,a0,a1⟩
  · exact ⟨_,rfl,b0,b1⟩
def tv:Nat→Int
  | 0=>0
  | n + 1=>10 + 21 * tv n
theorem tv_nonneg:∀ n,0≤tv n
  | 0=>Int.le_refl _
  | n + 1=>by have:=tv_nonneg n; show 0≤10 + 21 * tv n; omega
def gTP:GC:=fun ds Q => ∃ w:Int,ds=[.int w]∧0≤w∧w≤8∧Q (.tr (.int (256 ^ w.toNat - 1)))
def gVA (n:Nat):GB:=fun l ds Q => ∃ (B:Int) (kd:Kd),ds=[kd.x]∧PoolX B l∧kd.Fit∧kd.deep≤n∧n≤5∧B + tv n < 2 ^ 60∧∀ (vd:Vd) (l':List Dx),kd.Val vd→PoolX (B + tv n) l'→Q (kd.vx vd) l'
section
variable {P:Program} {w:World} {K:FG_} {mg:MG_} {base:Heap} {f:Addr} {fd:FuncData} {n j:Nat}
theorem okx_tp (F:Fun K "_law_top" "_law_top" gi_ f fd) (m_range:mg "range" = none):FnOk P w K mg base CX0 1 f fd ["width"] (spX gTP):=by
  refine ez_ F sc_law_top (fun ds Q h=>by obtain ⟨w,rfl,_⟩:=h; rfl) (by decide) fun cdv A outer s H E hr => ?_
  refine ⟨_,(ae_ (ai_ fun F=>ak_ (i:=1) sc_law_top.nd rfl (Or.inl rfl) (XE.at (Ex:=noEx) F ad_))
    (ae_ (ck_ PassesOwn.never rfl (do_ m_range (aa_ (ab_ (pv 0)) ac_)) (aj_ (i:=2) sc_law_top.nd rfl (Or.inl rfl)) (bi_ (n:=99) (i:=2) (by decide)) (af_ (ai_ fun F=>ak_ (i:=1) sc_law_top.nd rfl (Or.inl rfl) (XE.at (Ex:=noEx) F (ch_ ad_ (ab_ (pv 1)))))))
    (af_ (an_ (fv_ (ab_ (pv 1)) ad_))))),fun ds Q h => ?_⟩
  obtain ⟨w,rfl,h0,h8,q⟩:=h
  refine ⟨⟨by omega,by omega⟩,?_⟩
  refine bc_ (fun k:Nat=>Dx.int (0 + (k:Int))) (fun rest ρ => ∃ (i:Nat) (y:Sl),i + rest.length=w.toNat∧ρ=[.v (.tr (.int w)),.v (.tr (.int (256 ^ i))),y]) (fun ρ h => ?_) (fun k rest ρ Kn h hk => ?_) ⟨0,.un,by rw [List.length_range]; simp,rfl⟩
  · obtain ⟨i, y, e, rfl⟩ := h
    rw [List.length_nil,Nat.add_zero] at e
    subst e
    exact q
  · obtain ⟨i, y, e, rfl⟩ := h
    rw [List.length_cons] at e
    have hp1:=pow256 (show i≤8 by omega)
    have hp0:(0:Int)≤256 ^ i:=Int.pow_nonneg (by decide)
    exact ⟨⟨by decide,by omega⟩,hk _ ⟨i + 1,.v (.tr (.int (0 + (k:Int)))),by omega,by rw [Int.pow_succ,Int.mul_comm]; rfl⟩⟩
theorem okx_va (F:Fun K "_law_value" "_law_value" dq_ f fd) (CTK:Cal P w K mg base 1 "_law_take" ["pool", "many"] (spB gTK)) (CTP:Cal P w K mg base 1 "_law_top" ["width"] (spX gTP)) (CVA:Cal P w K mg base j "_law_value" ["pool", "kind"] (spB (gVA n))) (m_range:mg "range" = none) (m_len:mg "len" = none) (h1:1≤j) :
    FnOk P w K mg base CX0 (j + 1) f fd ["pool", "kind"] (spB (gVA (n + 1))):=by
  refine fn_b F sc_law_value (fun l ds Q h=>by obtain ⟨B,kd,rfl,_⟩:=h; rfl) (by decide) fun cdv A outer s H E hr => ?_
  have hu1:=dv_ hr
  have hu0:=Nat.lt_of_succ_lt hu1
  refine ⟨_,(ae_ (bd_ (av_ (bs_ K hu0) cs_ (am_ K (ab_ (pv 1)) ad_ (fun _ _=>rfl)) br_ (nomark _)) (ae_ (ai_ fun F=>ak_ (i:=2) sc_law_value.nd rfl (Or.inl rfl) (XE.at (Ex:=noEx) F (ag_ CTP (hr.mono (by omega)) (aa_ (am_ K (ab_ (pv 1)) ad_ (fun _ _=>rfl)) ac_))))
    (af_ (an_ (am_ K (by_ (aa_ ad_ (aa_ (ab_ (pv 2)) (aa_ (ap_ (i:=0) CTK (hr.mono (by omega)) (pv 0) (aa_ ad_ ac_)) (aa_ (ap_ (i:=0) CTK (hr.mono (by omega)) (pv 0) (aa_ (bf_ (ab_ (pv 2)) ad_) ac_)) ac_))))) (ap_ (i:=0) CTK (hr.mono (by omega)) (pv 0) (aa_ ad_ ac_)) (fun _ _=>rfl))))) ar_)
    (ae_ (bd_ (av_ (bs_ K hu0) cs_ (am_ K (ab_ (pv 1)) ad_ (fun _ _=>rfl)) br_ (nomark _)) (af_ (an_ (ce_ (dsc:=defScope dq_) (N:=["pool", "kind", "top", "found", "name", "inner", "k"]) (tgs:=["k"]) (outs:=[0,1]) (N':=["k", "pool", "kind"]) (by refine ⟨rfl,?_,?_,?_,rfl,?_,?_,?_⟩ <;> decide +kernel) (do_ m_range (aa_ (am_ K (ab_ (pv 1)) ad_ (fun _ _=>rfl)) ac_)) (fun _ _ _ _ _=>(aj_ (i:=0) (show (["k", "pool", "kind"]:List Str).Nodup by decide +kernel) rfl (Or.inl rfl) (.inr rfl))) (bi_ (n:=1) (i:=0) (by decide)) (bt_ (by decide)) (fun _ _ _ _ _=>bq_) (fun _ _ _ _ _=>(ap_ (i:=1) CVA (hr.mono (by omega)) (pv 1) (aa_ (am_ K (ab_ (pv 2)) ad_ (fun _ _=>rfl)) ac_)))))) ar_)
    (ae_ (bd_ (av_ (bs_ K hu0) cs_ (am_ K (ab_ (pv 1)) ad_ (fun _ _=>rfl)) br_ (nomark _)) (ae_ (ai_ fun F=>ak_ (i:=3) sc_law_value.nd rfl (Or.inl rfl) (XE.at (Ex:=noEx) F xe_dnew))
    (ae_ (ck_ PassesOwn.never rfl (bk_ (am_ K (ab_ (pv 1)) ad_ (fun _ _=>rfl))) (fg_ rfl (aq_ (aj_ (i:=4) sc_law_value.nd rfl (Or.inl rfl)) (aq_ (aj_ (i:=5) sc_law_value.nd rfl (Or.inl rfl)) bv_))) (ee_ (n:=99) (is:=[4,5]) rfl (by decide)) (af_ (fb_ fun F=>PS.weak (ps_dput hu1 (pv 3) (XE.at (Ex:=noEx) F (ab_ (pv 4))) (XE.at (Ex:=noEx) F (ap_ (i:=0) CVA (hr.mono (by omega)) (pv 0) (aa_ (ab_ (pv 5)) ac_))) rfl) tDPut_x)))
    (af_ (an_ (cd_ (pv 3)))))) ar_)
    (ae_ (ai_ fun F=>ak_ (i:=6) sc_law_value.nd rfl (Or.inl rfl) (XE.at (Ex:=noEx) F (ap_ (i:=0) CTK (hr.mono (by omega)) (pv 0) (aa_ (az_ (cb_ K) fx_ (by rfl) m_len PySem.boot_len (aa_ (am_ K (ab_ (pv 1)) ad_ (fun _ _=>rfl)) ac_)) ac_))))
    (af_ (an_ (dx_ (aa_ (ab_ (pv 6)) (aa_ (ap_ (i:=0) CVA (hr.mono (by omega)) (pv 0) (aa_ (am_ K (am_ K (ab_ (pv 1)) ad_ (fun _ _=>rfl)) (ab_ (pv 6)) (fun _ _=>rfl)) ac_)) ac_))))))))),fun l ds Q h => ?_⟩
  obtain ⟨B,kd,rfl,hP,hfit,hdp,hn,hB,q⟩:=h
  have ht0:=tv_nonneg n
  have eT:tv (n + 1)=10 + 21 * tv n:=rfl
  rw [eT] at hB q
  have Tm:∀ i:Nat,i≤20→(i:Int) * tv n≤20 * tv n:=fun i hi=>Int.mul_le_mul_of_nonneg_right (by omega) ht0
  have Ts:∀ i:Nat,((i + 1:Nat):Int) * tv n=(i:Int) * tv n + tv n:=fun i=>by push_cast; rw [Int.add_mul,Int.one_mul]
  cases kd with
  | num wd m =>
    obtain ⟨a1,a2,_⟩:=hfit
    have g1:=pow256 (show wd.toNat≤8 by omega)
    have g2:=pow256' (show 1≤wd.toNat by omega)
    refine ⟨wd,rfl,by omega,by omega,?_⟩
    refine ⟨rfl,B,256,rfl,hP,by omega,by decide,by decide,fun x1 l1 x10 x11 hP1 => ?_⟩
    refine ⟨rfl,_,256 ^ wd.toNat - 1 + 1,rfl,hP1,by omega,by omega,by omega,fun x2 l2 x20 x21 hP2 => ?_⟩
    refine ⟨lenA (by show 4≤1000000; decide),rfl,_,4,rfl,hP2,by omega,by decide,by decide,fun x3 l3 x30 x31 hP3=>hi_ x30 x31 fun v hv => ?_⟩
    obtain ⟨z,rfl,z0,z1⟩:=four_valX hv (by omega) x10 (by omega) x20 (by omega)
    exact q (.num z) l3 (by simp only [Kd.Val]; exact ⟨z0,by omega⟩) (hP3.mono (by omega))
  | row k m =>
    obtain ⟨f1,m1,m2⟩:=hfit
    have hdp':k.deep + 1≤n + 1:=hdp
    refine ⟨⟨by omega,by omega⟩,by show ((List.range _).map _).length≤_; rw [List.length_map,List.length_range]; omega,?_⟩
    refine el_ (fun k:Nat=>Dx.int (0 + (k:Int))) (fun rest acc cs => ∃ (vs:List Vd) (l':List Dx),vs.length + rest.length=m.toNat∧acc=vs.map k.vx∧cs=[.bw l',.v (.tr (Kd.row k m).x)]∧(∀ v∈vs,k.Val v)∧PoolX (B + (vs.length:Int) * tv n) l') (fun acc cs h => ?_) (fun nm rest acc cs Pn h hk => ?_) ⟨[],l,by rw [List.length_range]; simp,rfl,rfl,(fun v hv=>nomatch hv),hP.mono (by simp)⟩
    · obtain ⟨vs, l', e1, rfl, rfl, hv, hP6⟩ := h
      rw [List.length_nil] at e1
      have t8:=Tm vs.length (by omega)
      have:=q (.row vs) l' (by simp only [Kd.Val]; exact ⟨by omega,hv⟩) (hP6.mono (by omega))
      simp only [Kd.vx] at this
      exact this
    · obtain ⟨vs, l', e1, rfl, rfl, hv, hP6⟩ := h
      rw [List.length_cons] at e1
      have t8:=Tm vs.length (by omega)
      have ts:=Ts vs.length
      refine ⟨rfl,_,k,rfl,hP6,f1,by omega,by omega,by omega,fun vd l6 hv6 hP7=>hk _ _ ⟨vs ++ [vd],l6,by rw [List.length_append,List.length_singleton]; omega,by rw [List.map_append]; rfl,rfl,fun v hm => ?_,hP7.mono (by rw [List.length_append]; show _≤B + ((vs.length + 1:Nat):Int) * tv n; omega)⟩⟩
      rcases List.mem_append.mp hm with hm | hm
      · exact hv v hm
      · rw [List.mem_singleton.mp hm]; exact hv6
  | rcd fs =>
    obtain ⟨f1,m1,m2,hnd⟩:=hfit
    have hdp':deepF fs + 1≤n + 1:=hdp
    show forX _ _ _ (xF fs) _
    rw [de_]
    refine bc_ _ (fun rest ρ => ∃ (done:List (Str×Kd)) (vs:List Vd) (l':List Dx) (y4 y5:Sl),fs=done ++ rest∧ρ=[.bw l',.v (.tr (Kd.rcd fs).x),.un,.v (.od (vxF done vs)),y4,y5,.un]∧valF done vs∧PoolX (B + (done.length:Int) * tv n) l') (fun ρ h => ?_) (fun f rest ρ Kn h hk => ?_) ⟨[],[],l,.un,.un,rfl,by simp only [vxF]; rfl,by simp only [valF],hP.mono (by simp)⟩
    · obtain ⟨done, vs, l', y4, y5, e1, rfl, hv, hP6⟩ := h
      rw [List.append_nil] at e1
      subst e1
      have t8:=Tm fs.length (by omega)
      have:=q (.rcd vs) l' (by simp only [Kd.Val]; exact hv) (hP6.mono (by omega))
      simp only [Kd.vx] at this
      exact this
    · obtain ⟨done, vs, l', y4, y5, e1, rfl, hv, hP6⟩ := h
      have hm:f∈fs:=by rw [e1]; exact List.mem_append_right _ List.mem_cons_self
      have hlen:done.length + (rest.length + 1)=fs.length:=by rw [e1,List.length_append,List.length_cons]
      obtain ⟨ff,fd'⟩:=fitFx f1 hm
      have t8:=Tm done.length (by omega)
      have ts:=Ts done.length
      have hvl:=cl_ hv
      have hnew:(Sum.inr f.1:Key)∉(vxF done vs).map (·.1):=by
        rw [hk_ hvl]
        intro z
        obtain ⟨g,hg,e⟩:=List.mem_map.mp z
        rw [e1,List.map_append,List.nodup_append] at hnd
        exact hnd.2.2 g.1 (List.mem_map_of_mem (f:=fun x:Str×Kd=>x.1) hg) f.1 (List.mem_map_of_mem (f:=fun x:Str×Kd=>x.1) List.mem_cons_self) (Sum.inr.inj e)
      have hvx:(vxF done vs).length=done.length:=by have:=congrArg List.length (hk_ hvl); simpa using this
      refine ⟨rfl,_,f.2,rfl,hP6,ff,by omega,by omega,by omega,fun vd l6 hv6 hP7=>⟨⟨_,rfl⟩,?_⟩⟩
      refine ⟨show (vxF done vs).length < 1000000 by omega,hk _ ⟨done ++ [f],vs ++ [vd],l6,.v (.tr (.str f.1)),.v (.tr f.2.x),by rw [e1,List.append_assoc]; rfl,?_,valF_snoc hv hv6,hP7.mono (by rw [List.length_append]; show _≤B + ((done.length + 1:Nat):Int) * tv n; omega)⟩⟩
      rw [vxF_snoc hvl,← putX_new hnew]
      rfl
  | cho ks =>
    obtain ⟨f1,m1,m2⟩:=hfit
    have hdp':deepK ks + 1≤n + 1:=hdp
    have hlk:(xK ks).length=ks.length:=by rw [da_,List.length_map]
    refine ⟨rfl,B,((xK ks).length:Int),rfl,hP,by omega,by omega,by omega,fun r l1 r0 r1 hP1 => ?_⟩
    have hr':r.toNat < ks.length:=by omega
    have hk':=List.getElem?_eq_getElem hr'
    generalize ks[r.toNat]=kc at hk'
    obtain ⟨kf,kdp⟩:=fitKx f1 (List.mem_of_getElem? hk')
    have hxk:(xK ks)[r.toNat]? = some kc.x:=by rw [da_,List.getElem?_map,hk']; rfl
    refine ⟨rfl,?_⟩
    have hat:=gd_ hxk
    rw [Int.toNat_of_nonneg r0] at hat
    simp only [xSeq,xNext,xIf,xB,xOp,xVar,xMove,xC,xSet,xRet,xCall,xCallB,xCons,xNil,xTup,xLst,xFor,xComp,xiL,xiR1,xDPut,ixX,addX,eqX,eqS,lenX,gxN,gxT,gxs,retB,lentEnd,startX,startB,cw_,cv_,len3,at10,at20,at21,at30,at31,at32,at40,at41,at42,at43,ix30,ix31,ix32,List.getElem?_cons_zero,List.getElem?_cons_succ,List.set_cons_zero,List.set_cons_succ,Sv.d,List.map_cons,List.map_nil,Option.bind_some,Option.isSome_some,List.cons_append,List.nil_append,List.length_cons,List.length_nil,List.replicate_succ,List.replicate_zero,Nat.reduceAdd,Nat.reduceSub,Nat.reduceLeDiff,true_and,decide_eq_true_eq,cut,caps,back,xYes,Option.getD_some,if_true,↓reduceIte,List.drop_succ_cons,List.drop_zero,Kd.x,hat]
    refine ⟨_,kc,rfl,hP1,kf,by omega,by omega,by omega,fun vd l6 hv6 hP7 => ?_⟩
    have:=q (.cho r.toNat vd) l6 (by simp only [Kd.Val]; exact valK_mk hk' hv6) (hP7.mono (by omega))
    simp only [Kd.vx] at this
    rw [vxK_at hk',Int.toNat_of_nonneg r0] at this
    exact this
end
theorem bytK_at' {v:Vd}:∀ {ks:List Kd} {j:Nat} {k:Kd},ks[j]? = some k→bytK ks j v=k.byt v
  | [],_,_,e=>by simp at e
  | k' :: r,0,k,e=>by simp at e; subst e; simp only [bytK]
  | k' :: r,j + 1,k,e=>by simp only [bytK]; exact bytK_at' (j:=j) (by simpa using e)
theorem fn_:∀ {ks:List Kd} {j:Nat} {v:Vd},valK ks j v→∃ k,ks[j]? = some k∧k.Val v
  | [],_,_,h=>by simp [valK] at h
  | k :: _,0,v,h=>by simp only [valK] at h; exact ⟨k,rfl,h⟩
  | _ :: r,j + 1,v,h=>by simp only [valK] at h; obtain ⟨k,e,hk⟩:=fn_ h; exact ⟨k,by simpa using e,hk⟩
theorem hc_ {c:XC} {G K:XS} {ρ ρ':En} {D:XD} (hc:∀ Q:Bool→En→Prop,Q false ρ'→c ρ Q) (h:K ρ' D):xSeq (xIf c G xNext) K ρ D:=hc _ h
theorem len1 {α:Type} {a:α}:[a].length≤1000000:=by show 1≤1000000; decide
theorem ii_ {α:Type} (v:α):∀ n,(List.replicate n [v]).flatten=List.replicate n v
  | 0=>rfl
  | n + 1=>by rw [List.replicate_succ,List.flatten_cons,ii_ v n]; rfl
theorem zerosX (q:Nat):(List.replicate q (List.map Sv.d [Sv.tr (Dx.int 0)])).flatten=(List.replicate q (0:Int)).map Dx.int:=by show (List.replicate q [Dx.int 0]).flatten=_; rw [ii_,List.map_replicate]
mutual
def Kd.isv:Kd→Vd→Dx→Prop
  | .num _ _,.num n,d=>d=.int n
  | .row k _,.row vs,d => ∃ ds,d=.lst ds∧All2 k.isv vs ds
  | .rcd fs,.rcd vs,d => ∃ kvs,d=.dic kvs∧kvs.length=fs.length∧(∀ kv∈kvs,∃ x,kv.1=Sum.inr x)∧isvF fs vs kvs
  | .cho ks,.cho j x,d => ∃ u,d=.tup [.int (j:Int),u]∧isvK ks j x u
  | _,_,_=>False
def isvF:List (Str×Kd)→List Vd→List (Key×Dx)→Prop
  | [],[],_=>True
  | f :: r,v :: vs,kvs=>(∃ x,getK kvs (Sum.inr f.1)=some x∧f.2.isv v x)∧isvF r vs kvs
  | _,_,_=>False
def isvK:List Kd→Nat→Vd→Dx→Prop
  | [],_,_,_=>False
  | k :: _,0,v,u=>k.isv v u
  | _ :: r,j + 1,v,u=>isvK r j v u
end
theorem isvF_mem:∀ {fs:List (Str×Kd)} {vs:List Vd} {kvs:List (Key×Dx)} {p:(Str×Kd)×Vd},isvF fs vs kvs→p∈fs.zip vs→∃ x,getK kvs (Sum.inr p.1.1)=some x∧p.1.2.isv p.2 x
  | [],_,_,_,_,h=>by simp at h
  | _ :: _,[],_,_,h,_=>by simp [isvF] at h
  | f :: r, v :: vs, kvs, p, h, hm => by
    simp only [isvF] at h
    rw [List.zip_cons_cons] at hm
    rcases List.mem_cons.mp hm with rfl | hm
    · exact h.1
    · exact isvF_mem h.2 hm
theorem isvK_at:∀ {ks:List Kd} {j:Nat} {v:Vd} {u:Dx},isvK ks j v u→∃ k,ks[j]? = some k∧k.isv v u
  | [],_,_,_,h=>by simp [isvK] at h
  | k :: _,0,v,u,h=>by simp only [isvK] at h; exact ⟨k,rfl,h⟩
  | _ :: r,j + 1,v,u,h=>by simp only [isvK] at h; obtain ⟨k,e,hk⟩:=isvK_at h; exact ⟨k,by simpa using e,hk⟩
theorem valF_mem:∀ {fs:List (Str×Kd)} {vs:List Vd} {p:(Str×Kd)×Vd},okF fs→valF fs vs→p∈fs.zip vs→p.1.2.Ok∧p.1.2.Val p.2∧p.1.2.deep≤deepF fs
  | [],_,_,_,_,h=>by simp at h
  | _ :: _,[],_,_,h,_=>by simp [valF] at h
  | f :: r, v :: vs, p, ho, h, hm => by
    simp only [valF] at h
    rw [List.zip_cons_cons] at hm
    rcases List.mem_cons.mp hm with rfl | hm
    · exact ⟨ho.1,h.1,Nat.le_max_left _ _⟩
    · obtain ⟨a, b, c⟩ := valF_mem ho.2 h.2 hm
      exact ⟨a,b,Nat.le_trans c (Nat.le_max_right _ _)⟩
theorem valK_mem {ks:List Kd} {j:Nat} {v:Vd} {k:Kd} (h:valK ks j v) (e:ks[j]? = some k):k.Val v:=by
  obtain ⟨k',e',h'⟩:=fn_ h
  rw [e] at e'
  cases e'
  exact h'
theorem all2_zip {α β:Type} {g:α→β→Prop}:∀ {l:List α} {m:List β},All2 g l m→∀ p∈l.zip m,g p.1 p.2
  | [],_,_,p,h=>by simp at h
  | a :: l, _, ⟨b, r, e, h1, h2⟩, p, h => by
    subst e
    rw [List.zip_cons_cons] at h
    rcases List.mem_cons.mp h with rfl | h
    · exact h1
    · exact all2_zip h2 p h
theorem bits_leX {i w:Int} (h0:0≤i) (hw:0≤w) (h:i < 256 ^ w.toNat):((Builtin.Int.intBits i:Nat):Int)≤8 * w:=by
  have e:(256:Int) ^ w.toNat=((2 ^ (8 * w.toNat):Nat):Int):=by
    rw [Nat.pow_mul]
    simp
  rw [e] at h
  have:Builtin.Int.intBits i≤8 * w.toNat:=intBits_le_iff.mpr (by omega)
  omega
theorem gt_ {n:Nat} {Q:Sv→Prop} (q:Q (.tr (.bl true))):allX [.lst (List.replicate n (.bl true))] Q:=⟨List.replicate n true,by rw [List.map_replicate],by
  have:(List.replicate n true).all id=true:=by rw [List.all_eq_true]; intro x hx; rw [(List.mem_replicate.mp hx).2]; rfl
  rw [this]
  exact q⟩
theorem dj_ {α:Type} {d:Dx} (l:List α):(l.map fun _=>d)=List.replicate l.length d:=List.map_const'
def gIW:GC:=fun ds Q => ∃ i:Int,ds=[.int i]∧Q (.tr (.bl true))
def gIV (n:Nat):GC:=fun ds Q => ∃ (kd:Kd) (vd:Vd) (d:Dx),ds=[kd.x,d]∧kd.isv vd d∧kd.Ok∧kd.Val vd∧kd.deep≤n∧n≤12∧Q (.tr (.bl true))
def gIRV (n:Nat):GC:=fun ds Q => ∃ (k:Kd) (m:Int) (vs:List Vd) (d:Dx),ds=[k.x,.int m,d]∧(Kd.row k m).isv (.row vs) d∧(Kd.row k m).Ok∧(Kd.row k m).Val (.row vs)∧k.deep≤n∧n≤12∧Q (.tr (.bl true))
def gIDV (n:Nat):GC:=fun ds Q => ∃ (fs:List (Str×Kd)) (vs:List Vd) (d:Dx),ds=[.lst (xF fs),d]∧(Kd.rcd fs).isv (.rcd vs) d∧(Kd.rcd fs).Ok∧(Kd.rcd fs).Val (.rcd vs)∧deepF fs≤n∧n≤12∧Q (.tr (.bl true))
def gICV (n:Nat):GC:=fun ds Q => ∃ (ks:List Kd) (jj:Nat) (v:Vd) (d:Dx),ds=[.lst (xK ks),d]∧(Kd.cho ks).isv (.cho jj v) d∧(Kd.cho ks).Ok∧(Kd.cho ks).Val (.cho jj v)∧deepK ks≤n∧n≤12∧Q (.tr (.bl true))
section
variable {P:Program} {w:World} {K:FG_} {mg:MG_} {base:Heap} {f:Addr} {fd:FuncData} {n j:Nat}
theorem okx_iw (F:Fun K "is_whole" "is_whole" fp_ f fd) (m_isinstance:mg "isinstance" = none) (m_int:mg "int" = none) (m_bool:mg "bool" = none):FnOk P w K mg base CX0 1 f fd ["thing"] (spX gIW):=by
  refine ez_ F sc_is_whole (fun ds Q h=>by obtain ⟨_,rfl,_⟩:=h; rfl) (by decide) fun cdv A outer s H E hr => ?_
  refine ⟨_,(af_ (an_ (xe_and (dp_ .int m_isinstance (ab_ (pv 0)) (ga_ (v:=.ty "int") rfl m_int bt_int rfl)) (xe_one (xe_not (dp_ .bool m_isinstance (ab_ (pv 0)) (ga_ (v:=.ty "bool") rfl m_bool bt_bool rfl))))))),fun ds Q h => ?_⟩
  obtain ⟨i,rfl,q⟩:=h
  exact q
theorem okx_irv (F:Fun K "is_row_value" "is_row_value" ci_ f fd) (CIV:Cal P w K mg base j "is_value" ["kind", "thing"] (spX (gIV n))) (m_isinstance:mg "isinstance" = none) (m_list:mg "list" = none) (m_len:mg "len" = none) (m_all:mg "all" = none):FnOk P w K mg base CX0 (j + 1) f fd ["kind", "n", "thing"] (spX (gIRV n)):=by
  refine ez_ F ie_ (fun ds Q h=>by obtain ⟨_,_,_,_,rfl,_⟩:=h; rfl) (by decide) fun cdv A outer s H E hr => ?_
  have hu1:=dv_ hr
  have hu0:=Nat.lt_of_succ_lt hu1
  refine ⟨_,(ae_ (bd_ (XW.pt (xw_or (eg_ (dn_ (dp_ .list m_isinstance (ab_ (pv 2)) (ga_ (v:=.ty "list") rfl m_list bt_list rfl)))) (xw_or1 (av_ (op_neA K hu0) ox_ne (az_ (cb_ K) fx_ (by rfl) m_len PySem.boot_len (aa_ (ab_ (pv 2)) ac_)) (ab_ (pv 1)) (nomark _))))) (af_ (an_ fa_)) ar_)
    (af_ (an_ (az_ (gq_ K (by rfl)) cx_all (by rfl) m_all bt_all (aa_ (ce_ (dsc:=defScope ci_) (N:=["kind", "n", "thing"]) (tgs:=["each"]) (outs:=[0]) (N':=["each", "kind"]) (by refine ⟨rfl,?_,?_,?_,rfl,?_,?_,?_⟩ <;> decide +kernel) (bk_ (ab_ (pv 2))) (fun _ _ _ _ _=>(aj_ (i:=0) (show (["each", "kind"]:List Str).Nodup by decide +kernel) rfl (Or.inl rfl) (.inr rfl))) (bi_ (n:=1) (i:=0) (by decide)) (bt_ (by decide)) (fun _ _ _ _ _=>bq_) (fun _ _ _ _ _=>(ag_ CIV (hr.mono (by omega)) (aa_ (ab_ (pv 1)) (aa_ (ab_ (pv 0)) ac_))))) ac_))))),fun ds Q h => ?_⟩
  obtain ⟨k,m,vs,d,rfl,hi,hok,hval,hd,hn,q⟩:=h
  simp only [Kd.isv] at hi
  obtain ⟨ds,rfl,ha⟩:=hi
  simp only [Kd.Val] at hval
  have hlen:ds.length=vs.length:=ha.len
  have hm:=hok.2
  have e:decide ((ds.length:Int)=m)=true:=decide_eq_true (by omega)
  show if (!decide ((ds.length:Int)=m))=true then _ else _
  rw [e]
  refine ⟨show ds.length≤_ by omega,show compX _ _ _ _ _ ds _ _ from ?_⟩
  have ez:ds=(vs.zip ds).map (·.2):=by rw [List.map_snd_zip (by omega)]
  rw [ez]
  refine be_ _ (fun _:Vd×Dx=>.bl true) (fun p hp acc P pp => ?_) ?_
  · exact ⟨k,p.1,p.2,rfl,all2_zip ha p hp,hok.1,hval.2 p.1 (List.of_mem_zip hp).1,hd,hn,pp⟩
  · rw [List.nil_append, dj_]
    exact gt_ q
theorem okx_idv (F:Fun K "is_record_value" "is_record_value" bg_ f fd) (CIV:Cal P w K mg base j "is_value" ["kind", "thing"] (spX (gIV n))) (m_isinstance:mg "isinstance" = none) (m_dict:mg "dict" = none) (m_str:mg "str" = none) (m_len:mg "len" = none) (m_all:mg "all" = none):FnOk P w K mg base CX0 (j + 1) f fd ["fields", "thing"] (spX (gIDV n)):=by
  refine ez_ F gf_ (fun ds Q h=>by obtain ⟨_,_,_,rfl,_⟩:=h; rfl) (by decide) fun cdv A outer s H E hr => ?_
  have hu1:=dv_ hr
  have hu0:=Nat.lt_of_succ_lt hu1
  refine ⟨_,(ae_ (bd_ (XW.pt (xw_or (eg_ (dn_ (dp_ .dict m_isinstance (ab_ (pv 1)) (ga_ (v:=.ty "dict") rfl m_dict bt_dict rfl)))) (xw_or1 (av_ (op_neA K hu0) ox_ne (az_ (cb_ K) fx_ (by rfl) m_len PySem.boot_len (aa_ (ab_ (pv 1)) ac_)) (az_ (cb_ K) fx_ (by rfl) m_len PySem.boot_len (aa_ (ab_ (pv 0)) ac_)) (nomark _))))) (af_ (an_ fa_)) ar_)
    (ae_ (bd_ (eg_ (dn_ (az_ (gq_ K (by rfl)) cx_all (by rfl) m_all bt_all (aa_ (xe_compK (dsc:=defScope bg_) (N:=["fields", "thing"]) (tgs:=["key"]) (outs:=[]) (N':=["key"]) (by refine ⟨rfl,?_,?_,?_,rfl,?_,?_,?_⟩ <;> decide +kernel) (pv 1) (fun _ _ _ _ _=>(aj_ (i:=0) (show (["key"]:List Str).Nodup by decide +kernel) rfl (Or.inl rfl) (.inr rfl))) (bi_ (n:=1) (i:=0) (by decide)) (bt_ (by decide)) (fun _ _ _ _ _=>bq_) (fun _ _ _ _ _=>(dp_ .str m_isinstance (ab_ (pv 0)) (ga_ (v:=.ty "str") rfl m_str bt_str rfl)))) ac_)))) (af_ (an_ fa_)) ar_)
    (af_ (an_ (az_ (gq_ K (by rfl)) cx_all (by rfl) m_all bt_all (aa_ (ce_ (dsc:=defScope bg_) (N:=["fields", "thing"]) (tgs:=["field"]) (outs:=[1]) (N':=["field", "thing"]) (by refine ⟨rfl,?_,?_,?_,rfl,?_,?_,?_⟩ <;> decide +kernel) (bk_ (ab_ (pv 0))) (fun _ _ _ _ _=>(aj_ (i:=0) (show (["field", "thing"]:List Str).Nodup by decide +kernel) rfl (Or.inl rfl) (.inr rfl))) (bi_ (n:=1) (i:=0) (by decide)) (bt_ (by decide)) (fun _ _ _ _ _=>bq_) (fun _ _ _ _ _=>(xe_and (xe_din hu1 (am_ K (ab_ (pv 0)) ad_ (fun _ _=>rfl)) (ab_ (pv 1)) (by with_unfolding_all rfl)) (xe_one (ag_ CIV (hr.mono (by omega)) (aa_ (am_ K (ab_ (pv 0)) ad_ (fun _ _=>rfl)) (aa_ (xe_dget hu1 (ab_ (pv 1)) (am_ K (ab_ (pv 0)) ad_ (fun _ _=>rfl)) (fun _ _=>rfl)) ac_))))))) ac_)))))),fun ds Q h => ?_⟩
  obtain ⟨fs,vs,d,rfl,hi,hok,hval,hd,hn,q⟩:=h
  simp only [Kd.isv] at hi
  obtain ⟨kvs,rfl,hl,hk,ha⟩:=hi
  simp only [Kd.Val] at hval
  have hvl:=cl_ hval
  have hm:=hok.2
  have hxl:(xF fs).length=fs.length:=by rw [de_,List.length_map]
  have e:decide ((kvs.length:Int)=((xF fs).length:Int))=true:=decide_eq_true (by omega)
  show if (!decide ((kvs.length:Int)=((xF fs).length:Int)))=true then _ else _
  rw [e]
  refine ⟨show kvs.length≤_ by omega,show compX _ _ _ _ _ (keysX kvs) _ _ from ?_⟩
  refine be_ (fun p:Key×Dx=>keyX p.1) (fun _=>.bl true) (fun p hp acc P pp => ?_) ?_
  · obtain ⟨x, hx⟩ := hk p hp
    rw [hx]
    exact pp
  rw [List.nil_append,dj_]
  simp only [xNil,List.map_cons,List.map_nil,Sv.d]
  refine gt_ ?_
  refine ⟨show (xF fs).length≤_ by omega,show compX _ _ _ _ _ (xF fs) _ _ from ?_⟩
  have exf:xF fs=(fs.zip vs).map fun p=>.tup [.str p.1.1,p.1.2.x]:=by
    rw [de_]
    have:fs=(fs.zip vs).map (·.1):=by rw [List.map_fst_zip (by omega)]
    conv=>lhs; rw [this]
    rw [List.map_map]
    rfl
  rw [exf]
  refine be_ _ (fun _:(Str×Kd)×Vd=>.bl true) (fun p hp acc P pp => ?_) ?_
  · obtain ⟨x, hx, hix⟩ := isvF_mem ha hp
    obtain ⟨o1,o2,o3⟩:=valF_mem hok.1 hval hp
    simp only [stepX,xSeq,xNext,xIf,xB,xOp,xVar,xC,xRet,xCall,xCons,xNil,xComp,xiL,xOr,xNot,xAndV,xIs,ixX,dgX,neX,eqS,lenX,gxN,retB,lentEnd,startX,startB,cw_,cv_,len3,at10,at20,at21,at30,at31,at32,at40,at41,at42,at43,ix30,ix31,ix32,List.getElem?_cons_zero,List.getElem?_cons_succ,List.set_cons_zero,List.set_cons_succ,Sv.d,List.map_cons,List.map_nil,Option.bind_some,Option.isSome_some,List.cons_append,List.nil_append,List.length_cons,List.length_nil,List.replicate_succ,List.replicate_zero,Nat.reduceAdd,Nat.reduceSub,Nat.reduceLeDiff,true_and,decide_eq_true_eq,cut,caps,back,xYes,Option.getD_some,if_true,↓reduceIte,List.drop_succ_cons,List.drop_zero,dinX,keyD,hx]
    exact ⟨p.1.2,p.2,x,rfl,hix,o1,o2,by omega,hn,pp⟩
  · rw [List.nil_append, dj_]
    exact gt_ q
theorem okx_icv (F:Fun K "is_choice_value" "is_choice_value" cg_ f fd) (CIV:Cal P w K mg base j "is_value" ["kind", "thing"] (spX (gIV n))) (CIW:Cal P w K mg base 1 "is_whole" ["thing"] (spX gIW)) (m_isinstance:mg "isinstance" = none) (m_tuple:mg "tuple" = none) (m_len:mg "len" = none) (hj:1≤j):FnOk P w K mg base CX0 (j + 1) f fd ["kinds", "thing"] (spX (gICV n)):=by
  refine ez_ F gg_ (fun ds Q h=>by obtain ⟨_,_,_,_,rfl,_⟩:=h; rfl) (by decide) fun cdv A outer s H E hr => ?_
  have hu1:=dv_ hr
  have hu0:=Nat.lt_of_succ_lt hu1
  refine ⟨_,(ae_ (bd_ (XW.pt (xw_or (eg_ (dn_ (dp_ .tuple m_isinstance (ab_ (pv 1)) (ga_ (v:=.ty "tuple") rfl m_tuple bt_tuple rfl)))) (xw_or1 (av_ (op_neA K hu0) ox_ne (az_ (cb_ K) fx_ (by rfl) m_len PySem.boot_len (aa_ (ab_ (pv 1)) ac_)) ad_ (nomark _))))) (af_ (an_ fa_)) ar_)
    (ae_ (bd_ (XW.pt (xw_or (eg_ (dn_ (ag_ CIW (hr.mono (by omega)) (aa_ (am_ K (ab_ (pv 1)) ad_ (fun _ _=>rfl)) ac_)))) (xw_or1 (eg_ (xt_chain op_le ox_le op_lt ox_lt ad_ (am_ K (ab_ (pv 1)) ad_ (fun _ _=>rfl)) (az_ (cb_ K) fx_ (by rfl) m_len PySem.boot_len (aa_ (ab_ (pv 0)) ac_))))))) (af_ (an_ fa_)) ar_)
    (af_ (an_ (ag_ CIV (hr.mono (by omega)) (aa_ (am_ K (ab_ (pv 0)) (am_ K (ab_ (pv 1)) ad_ (fun _ _=>rfl)) (fun _ _=>rfl)) (aa_ (am_ K (ab_ (pv 1)) ad_ (fun _ _=>rfl)) ac_))))))),fun ds Q h => ?_⟩
  obtain ⟨ks,jj,v,d,rfl,hi,hok,hval,hd,hn,q⟩:=h
  simp only [Kd.isv] at hi
  obtain ⟨u,rfl,ha⟩:=hi
  simp only [Kd.Val] at hval
  obtain ⟨k,hk,hik⟩:=isvK_at ha
  obtain ⟨o1,o2⟩:=ok_at hok.1 hk
  have hjl:jj < ks.length:=(List.getElem?_eq_some_iff.mp hk).1
  have hxl:(xK ks).length=ks.length:=by rw [da_,List.length_map]
  have hxk:(xK ks)[jj]? = some k.x:=by rw [da_,List.getElem?_map,hk]; rfl
  have hat:=gd_ hxk
  have e1:((0:Int)≤(jj:Int))=True:=eq_true (by omega)
  have e2:((jj:Int) < ((xK ks).length:Int))=True:=eq_true (by omega)
  simp only [xSeq,xNext,xIf,xB,xOp,xVar,xC,xRet,xCall,xCons,xNil,xOr,xNot,xIs,ixX,gI,neX,eqS,lenX,retB,lentEnd,startX,startB,cw_,cv_,len3,at10,at20,at21,at30,at31,at32,at40,at41,at42,at43,ix30,ix31,ix32,List.getElem?_cons_zero,List.getElem?_cons_succ,List.set_cons_zero,List.set_cons_succ,Sv.d,List.map_cons,List.map_nil,Option.bind_some,Option.isSome_some,List.cons_append,List.nil_append,List.length_cons,List.length_nil,List.replicate_succ,List.replicate_zero,Nat.reduceAdd,Nat.reduceSub,Nat.reduceLeDiff,true_and,decide_eq_true_eq,cut,caps,back,Option.getD_some,if_true,↓reduceIte,List.drop_succ_cons,List.drop_zero,isT,xChain,e1,e2,hat,Bool.not_true,Bool.not_false,decide_true,Bool.false_eq_true]
  exact ⟨_,rfl,k,v,u,rfl,hik,o1,valK_mem hval hk,by omega,hn,q⟩
theorem okx_iv (F:Fun K "is_value" "is_value" fq_ f fd) (CIW:Cal P w K mg base 1 "is_whole" ["thing"] (spX gIW)) (CIRV:Cal P w K mg base j "is_row_value" ["kind", "n", "thing"] (spX (gIRV n))) (CIDV:Cal P w K mg base j "is_record_value" ["fields", "thing"] (spX (gIDV n))) (CICV:Cal P w K mg base j "is_choice_value" ["kinds", "thing"] (spX (gICV n))) (c_BITS_OF_A_BYTE:∃ t,mg "BITS_OF_A_BYTE" = some (.int 8 t)) (hj:1≤j) :
    FnOk P w K mg base CX0 (j + 1) f fd ["kind", "thing"] (spX (gIV (n + 1))):=by
  refine ez_ F sc_is_value (fun ds Q h=>by obtain ⟨_,_,_,rfl,_⟩:=h; rfl) (by decide) fun cdv A outer s H E hr => ?_
  have hu1:=dv_ hr
  have hu0:=Nat.lt_of_succ_lt hu1
  refine ⟨_,(ae_ (bd_ (av_ (bs_ K hu0) cs_ (am_ K (ab_ (pv 0)) ad_ (fun _ _=>rfl)) br_ (nomark _)) (af_ (an_ (xe_and (ag_ CIW (hr.mono (by omega)) (aa_ (ab_ (pv 1)) ac_)) (xe_and (ia_ op_ge ox_ge (ab_ (pv 1)) ad_ (nomark _)) (xe_one (ia_ op_le ox_le (fun F=>PE.weak (pe_bm0 PySem.F.plainAttrs_int PySem.F.slot_int_bit_length PySem.F.type_int_bit_length mt_bit_length (XE.at (Ex:=noEx) F (ab_ (pv 1)))) bits_x) (ch_ (hz_ (by rfl) c_BITS_OF_A_BYTE) (am_ K (ab_ (pv 0)) ad_ (fun _ _=>rfl))) (nomark _))))))) ar_)
    (ae_ (bd_ (av_ (bs_ K hu0) cs_ (am_ K (ab_ (pv 0)) ad_ (fun _ _=>rfl)) br_ (nomark _)) (af_ (an_ (ag_ CIRV (hr.mono (by omega)) (aa_ (am_ K (ab_ (pv 0)) ad_ (fun _ _=>rfl)) (aa_ (am_ K (ab_ (pv 0)) ad_ (fun _ _=>rfl)) (aa_ (ab_ (pv 1)) ac_)))))) ar_)
    (ae_ (bd_ (av_ (bs_ K hu0) cs_ (am_ K (ab_ (pv 0)) ad_ (fun _ _=>rfl)) br_ (nomark _)) (af_ (an_ (ag_ CIDV (hr.mono (by omega)) (aa_ (am_ K (ab_ (pv 0)) ad_ (fun _ _=>rfl)) (aa_ (ab_ (pv 1)) ac_))))) ar_)
    (af_ (an_ (ag_ CICV (hr.mono (by omega)) (aa_ (am_ K (ab_ (pv 0)) ad_ (fun _ _=>rfl)) (aa_ (ab_ (pv 1)) ac_)))))))),fun ds Q h => ?_⟩
  obtain ⟨kd,vd,d,rfl,hi,hok,hval,hd,hn,q⟩:=h
  cases kd with
  | num wd m =>
    cases vd with
    | num i =>
      simp only [Kd.isv] at hi
      subst hi
      simp only [Kd.Val] at hval
      obtain ⟨a1,a2,a3,a4⟩:=hok
      have hb:=bits_leX hval.1 (by omega) hval.2
      refine ⟨i,rfl,?_⟩
      show if decide ((0:Int)≤i)=true then _ else _
      rw [if_pos (decide_eq_true hval.1)]
      refine ⟨⟨by decide,by omega⟩,?_⟩
      show Q (.tr (.bl (decide (_≤_))))
      rw [decide_eq_true hb]
      exact q
    | _=>simp [Kd.Val] at hval
  | row k m =>
    have hd':k.deep + 1≤n + 1:=hd
    cases vd with
    | row vs=>exact ⟨k,m,vs,d,rfl,hi,hok,hval,by omega,by omega,q⟩
    | _=>simp [Kd.Val] at hval
  | rcd fs =>
    have hd':deepF fs + 1≤n + 1:=hd
    cases vd with
    | rcd vs=>exact ⟨fs,vs,d,rfl,hi,hok,hval,by omega,by omega,q⟩
    | _=>simp [Kd.Val] at hval
  | cho ks =>
    have hd':deepK ks + 1≤n + 1:=hd
    cases vd with
    | cho jj v=>exact ⟨ks,jj,v,d,rfl,hi,hok,hval,by omega,by omega,q⟩
    | _=>simp [Kd.Val] at hval
theorem ivx_none:FnOk P w K mg base CX0 j f fd ["kind", "thing"] (spX (gIV 0)):=fn_no fun ds Q h=>by
  obtain ⟨kd,_,_,_,_,_,_,hd,_⟩:=h
  have:=Kd.deep_pos kd
  omega
end
theorem vxF_zip:∀ {fs:List (Str×Kd)} {vs:List Vd},vxF fs vs=(fs.zip vs).map fun p=>(Sum.inr p.1.1,p.1.2.vx p.2)
  | [],_=>by simp [vxF]
  | _ :: _,[]=>by simp [vxF]
  | g :: r,u :: vs=>by simp only [vxF,List.zip_cons_cons,List.map_cons]; rw [vxF_zip]
theorem isvF_of:∀ {fs:List (Str×Kd)} {vs:List Vd} {kvs:List (Key×Dx)},vs.length=fs.length→(∀ p∈fs.zip vs,∃ x,getK kvs (Sum.inr p.1.1)=some x∧p.1.2.isv p.2 x)→isvF fs vs kvs
  | [],[],_,_,_=>by simp only [isvF]
  | [],_ :: _,_,h,_=>by simp at h
  | _ :: _,[],_,h,_=>by simp at h
  | f :: r, v :: vs, kvs, hl, h => by
    simp only [isvF]
    exact ⟨h (f,v) (by rw [List.zip_cons_cons]; exact List.mem_cons_self),isvF_of (by simpa using hl) fun p hp=>h p (by rw [List.zip_cons_cons]; exact List.mem_cons_of_mem _ hp)⟩
theorem isvK_of {v:Vd} {u:Dx}:∀ {ks:List Kd} {j:Nat} {k:Kd},ks[j]? = some k→k.isv v u→isvK ks j v u
  | [],_,_,e,_=>by simp at e
  | k' :: r,0,k,e,h=>by simp at e; subst e; simp only [isvK]; exact h
  | k' :: r,j + 1,k,e,h=>by simp only [isvK]; exact isvK_of (j:=j) (by simpa using e) h
theorem all2_map {α:Type} {g:α→Dx→Prop} {φ:α→Dx}:∀ {l:List α},(∀ a∈l,g a (φ a))→All2 g l (l.map φ)
  | [],_=>rfl
  | a :: l,h=>⟨_,_,rfl,h a List.mem_cons_self,all2_map fun b hb=>h b (List.mem_cons_of_mem _ hb)⟩
theorem zip_names {fs:List (Str×Kd)} {vs:List Vd} (hvl:vs.length=fs.length) (hnd:(fs.map (·.1)).Nodup):((fs.zip vs).map fun p=>p.1.1).Nodup:=by
  have:((fs.zip vs).map fun p=>p.1.1)=fs.map (·.1):=by
    have e:fs.map (·.1)=((fs.zip vs).map (·.1)).map (·.1):=by rw [List.map_fst_zip (by omega)]
    rw [e,List.map_map]
    rfl
  rw [this]
  exact hnd
theorem getK_zip {L:List ((Str×Kd)×Vd)} {φ:(Str×Kd)×Vd→Dx} (hn:(L.map fun p=>p.1.1).Nodup) {p:(Str×Kd)×Vd} (hp:p∈L):getK (L.map fun p=>((Sum.inr p.1.1,φ p):Key×Dx)) (Sum.inr p.1.1)=some (φ p):=by
  refine getK_at (p:=(Sum.inr p.1.1,φ p)) ?_ (List.mem_map_of_mem (f:=fun p=>((Sum.inr p.1.1,φ p):Key×Dx)) hp)
  rw [List.map_map]
  have:(L.map ((fun x:Key×Dx=>x.1) ∘ fun p=>((Sum.inr p.1.1,φ p):Key×Dx)))=(L.map fun p=>p.1.1).map (fun x:Str=>(Sum.inr x:Key)):=by rw [List.map_map]; rfl
  rw [this]
  exact List.Pairwise.map _ (fun a b h e=>h (Sum.inr.inj e)) hn
mutual
theorem hj_:∀ (kd:Kd) (vd:Vd),kd.Fit→kd.Val vd→kd.isv vd (kd.vx vd)
  | .num w m, vd, hf, hv => by
    cases vd with
    | num i=>simp only [Kd.isv,Kd.vx]
    | _=>simp [Kd.Val] at hv
  | .row k m, vd, hf, hv => by
    cases vd with
    | row vs =>
      simp only [Kd.Val] at hv
      simp only [Kd.isv,Kd.vx]
      exact ⟨_,rfl,all2_map fun v h=>hj_ k v hf.1 (hv.2 v h)⟩
    | _=>simp [Kd.Val] at hv
  | .rcd fs, vd, hf, hv => by
    cases vd with
    | rcd vs =>
      simp only [Kd.Val] at hv
      obtain ⟨f1,f2,f3,hnd⟩:=hf
      have hvl:=cl_ hv
      have hz:=isv_vxF fs vs f1 hv
      simp only [Kd.isv,Kd.vx]
      rw [vxF_zip]
      refine ⟨_,rfl,by rw [List.length_map,List.length_zip]; omega,fun kv h => ?_,isvF_of hvl fun p hp=>⟨_,getK_zip (φ:=fun p=>p.1.2.vx p.2) (zip_names hvl hnd) hp,hz p hp⟩⟩
      obtain ⟨p,_,rfl⟩:=List.mem_map.mp h
      exact ⟨_,rfl⟩
    | _=>simp [Kd.Val] at hv
  | .cho ks, vd, hf, hv => by
    cases vd with
    | cho jj v =>
      simp only [Kd.Val] at hv
      obtain ⟨k,hk,hvk⟩:=fn_ hv
      simp only [Kd.isv,Kd.vx]
      exact ⟨_,rfl,isvK_of hk (by rw [vxK_at hk]; exact isv_vxK ks hf.1 k (List.mem_of_getElem? hk) v hvk)⟩
    | _=>simp [Kd.Val] at hv
theorem isv_vxF:∀ (fs:List (Str×Kd)) (vs:List Vd),fitF fs→valF fs vs→∀ p∈fs.zip vs,p.1.2.isv p.2 (p.1.2.vx p.2)
  | [],_,_,_,p,h=>by simp at h
  | _ :: _,[],_,h,_,_=>by simp [valF] at h
  | f :: r, v :: vs, hf, hv, p, h => by
    simp only [valF] at hv
    rw [List.zip_cons_cons] at h
    rcases List.mem_cons.mp h with rfl | h
    · exact hj_ f.2 v hf.1.2 hv.1
    · exact isv_vxF r vs hf.2 hv.2 p h
theorem isv_vxK:∀ (ks:List Kd),fitK ks→∀ k∈ks,∀ v,k.Val v→k.isv v (k.vx v)
  | [],_,k,h,_,_=>by simp at h
  | k' :: r, hf, k, h, v, hv => by
    by_cases e:k=k'
    · rw [e] at hv ⊢; exact hj_ k' v hf.1 hv
    · exact isv_vxK r hf.2 k ((List.mem_cons.mp h).resolve_left e) v hv
end
theorem cx_:∀ {rs:List (Int×Int)} {e:Int} {i:Nat} {r:Int×Int} {p:Int},Rms rs→rs[i]? = some r→(plcs e rs)[i]? = some p→p + r.1≤lastEnd e rs∧e≤p
  | [],_,_,_,_,_,h,_=>by simp at h
  | s :: rs, e, 0, r, p, hR, h, hp => by
    simp at h
    subst h
    have hp':up e s.2=p:=by have:(up e s.2 :: plcs (up e s.2 + s.1) rs)[0]? = some p:=hp; simpa using this
    obtain ⟨a,b⟩:=hR s List.mem_cons_self
    have g:=fs_ (rs:=rs) (e:=up e s.2 + s.1) fun x hx=>hR x (List.mem_cons_of_mem _ hx)
    have u:=(ao_ (n:=e) b).1
    show p + s.1≤lastEnd (up e s.2 + s.1) rs∧_
    omega
  | s :: rs, e, i + 1, r, p, hR, h, hp => by
    obtain ⟨a,b⟩:=hR s List.mem_cons_self
    have hp':(plcs (up e s.2 + s.1) rs)[i]? = some p:=by have:(up e s.2 :: plcs (up e s.2 + s.1) rs)[i + 1]? = some p:=hp; simpa using this
    obtain ⟨x,y⟩:=cx_ (rs:=rs) (i:=i) (fun x hx=>hR x (List.mem_cons_of_mem _ hx)) (by simpa using h) hp'
    have u:=(ao_ (n:=e) b).1
    exact ⟨x,by omega⟩
theorem ip_ (g:Vd→List Int) (step:Nat):∀ (vs:List Vd) (v:Vd) (j:Nat) (l:List Int),layRow g step j (vs ++ [v]) l=lay (layRow g step j vs l) ((j + vs.length) * step) (g v)
  | [],v,j,l=>by simp [layRow]
  | u :: vs, v, j, l => by
    show layRow g step (j + 1) (vs ++ [v]) _=lay (layRow g step (j + 1) vs _) _ _
    rw [ip_ g step vs v (j + 1),List.length_cons,show j + 1 + vs.length=j + (vs.length + 1) by omega]
theorem bytF_snoc:∀ {ps:List Int} {fs:List (Str×Kd)} {vs:List Vd} {p:Int} {f:Str×Kd} {v:Vd} {l:List Int},ps.length=fs.length→vs.length=fs.length→bytF (ps ++ [p]) (fs ++ [f]) (vs ++ [v]) l=lay (bytF ps fs vs l) p.toNat (f.2.byt v)
  | [],[],[],_,_,_,_,_,_=>by simp [bytF]
  | q :: ps, g :: fs, u :: vs, p, f, v, l, h, h' => by
    show bytF (ps ++ [p]) (fs ++ [f]) (vs ++ [v]) _=lay (bytF ps fs vs _) _ _
    exact bytF_snoc (by simpa using h) (by simpa using h')
  | [],_ :: _,_,_,_,_,_,h,_=>by simp at h
  | _ :: _,[],_,_,_,_,_,h,_=>by simp at h
  | _,[],_ :: _,_,_,_,_,_,h=>by simp at h
  | _,_ :: _,[],_,_,_,_,_,h=>by simp at h
theorem is_ {n:Nat} {k:Int} (h0:0≤k) (h1:k < n):ixN n k=some k.toNat:=by
  unfold ixN
  rw [if_pos h0,if_pos h1]
theorem bo_ {α:Type} {l:List α} {i:Nat} {a:α} {as:List α} (h:a :: as=l.drop i):l[i]? = some a∧as=l.drop (i + 1):=by
  have h1:(l.drop i)[0]? = some a:=by rw [← h]; rfl
  rw [List.getElem?_drop,Nat.add_zero] at h1
  refine ⟨h1,?_⟩
  have h2:(l.drop i).tail=as:=by rw [← h]; rfl
  rw [List.tail_drop] at h2
  exact h2.symm
theorem hv_ {α:Type} (f:α→Dx) (l:List α):enuX (l.map f)=((List.range l.length).zip l).map fun p=>.tup [.int (0 + (p.1:Int)),f p.2]:=by
  unfold enuX rngX
  rw [List.length_map,df_]
theorem ih_ {α:Type} {l:List α} {i:Nat} {p:Nat×α} (h:((List.range l.length).zip l)[i]? = some p):p.1=i∧l[i]? = some p.2:=by
  obtain ⟨h1,h2⟩:=List.getElem?_zip_eq_some.mp h
  have hi:=(List.getElem?_eq_some_iff.mp h2).1
  rw [List.getElem?_range hi] at h1
  exact ⟨by simpa using h1.symm,h2⟩
theorem bu_ {α:Type} {l:List α} {i:Nat} {x:α} (h:l[i]? = some x):l.take (i + 1)=l.take i ++ [x]:=by
  rw [List.take_succ,h]; rfl
def gNB:GC:=fun ds Q => ∃ w n:Int,ds=[.int w,.int n]∧0≤w∧w≤100∧Q (.ol ((numB w.toNat n).map Dx.int))
def gLAY:GB:=fun l ds Q => ∃ (xs ys:List Int) (p:Int),l=xs.map Dx.int∧ds=[.int p,.lst (ys.map Dx.int)]∧0≤p∧p + (ys.length:Int)≤(xs.length:Int)∧xs.length≤100000∧Q .non ((lay xs p.toNat ys).map Dx.int)
def gLB (n:Nat):GC:=fun ds Q => ∃ (kd:Kd) (vd:Vd) (d:Dx),ds=[kd.x,d]∧kd.isv vd d∧kd.Fit∧kd.Val vd∧kd.deep≤n∧n≤12∧kd.rm.1≤100000∧Q (.ol ((kd.byt vd).map Dx.int))
section
variable {P:Program} {w:World} {K:FG_} {mg:MG_} {base:Heap} {f:Addr} {fd:FuncData} {n j jR jP:Nat}
theorem okx_nb (F:Fun K "number_bytes" "number_bytes" cy_ f fd) (c_HOW_MANY_BYTES:∃ t,mg "HOW_MANY_BYTES" = some (.int 256 t)) (m_range:mg "range" = none):FnOk P w K mg base CX0 1 f fd ["w", "value"] (spX gNB):=by
  refine ez_ F sc_number_bytes (fun ds Q h=>by obtain ⟨_,_,rfl,_⟩:=h; rfl) (by decide) fun cdv A outer s H E hr => ?_
  refine ⟨_,(ae_ (ai_ fun F=>ak_ (i:=2) sc_number_bytes.nd rfl (Or.inl rfl) (XE.at (Ex:=noEx) F (by_ ac_)))
    (ae_ (ai_ fun F=>ak_ (i:=3) sc_number_bytes.nd rfl (Or.inl rfl) (XE.at (Ex:=noEx) F (ab_ (pv 1))))
    (ae_ (ck_ PassesOwn.never rfl (do_ m_range (aa_ (ab_ (pv 0)) ac_)) (aj_ (i:=4) sc_number_bytes.nd rfl (Or.inl rfl)) (bi_ (n:=99) (i:=4) (by decide)) (ae_ (fb_ fun F=>PS.weak (fz_ (pe_bm PySem.F.plainAttrs_list PySem.F.slot_list_append PySem.F.type_list_append fj_ (pv 2) (au_ (XE.at (Ex:=noEx) F (hy_ (ab_ (pv 3)) (hz_ (by rfl) c_HOW_MANY_BYTES))) cf_))) tApp_x)
    (af_ (ai_ fun F=>ak_ (i:=3) sc_number_bytes.nd rfl (Or.inl rfl) (XE.at (Ex:=noEx) F (xe_fdiv (ab_ (pv 3)) (hz_ (by rfl) c_HOW_MANY_BYTES)))))))
    (af_ (an_ (cd_ (pv 2))))))),fun ds Q h => ?_⟩
  obtain ⟨w,i,rfl,h0,h1,q⟩:=h
  refine ⟨Nat.zero_le _,⟨by omega,by omega⟩,?_⟩
  refine bc_ (fun k:Nat=>Dx.int (0 + (k:Int))) (fun rest ρ => ∃ (c:Nat) (y:Sl),c + rest.length=w.toNat∧ρ=[.v (.tr (.int w)),.v (.tr (.int i)),.v (.ol ((numB c i).map Dx.int)),.v (.tr (.int (i / 256 ^ c))),y]) (fun ρ h => ?_) (fun k rest ρ Kn h hk => ?_) ⟨0,.un,by rw [List.length_range]; simp,by simp only [numB,Int.pow_zero,Int.ediv_one]; rfl⟩
  · obtain ⟨c, y, e, rfl⟩ := h
    rw [List.length_nil,Nat.add_zero] at e
    subst e
    exact q
  · obtain ⟨c, y, e, rfl⟩ := h
    rw [List.length_cons] at e
    refine ⟨rfl,show (0:Int) < 256 by decide,⟨by rw [List.length_map,ey_]; omega,⟨by decide,by decide⟩,hk _ ⟨c + 1,.v (.tr (.int (0 + (k:Int)))),by omega,?_⟩⟩⟩
    rw [numB_succ,List.map_append,Int.pow_succ,← Int.ediv_ediv_of_nonneg (Int.pow_nonneg (by decide))]
    rfl
theorem okx_lay (F:Fun K "lay" "lay" s_lay f fd) (m_enumerate:mg "enumerate" = none):FnOk P w K mg base CX0 1 f fd ["laid", "place", "some"] (spB gLAY):=by
  refine fn_b F sc_lay (fun l ds Q h=>by obtain ⟨_,_,_,_,rfl,_⟩:=h; rfl) (by decide) fun cdv A outer s H E hr => ?_
  refine ⟨_,(af_ (ck_ PassesOwn.never rfl (xi_enum m_enumerate (aa_ (ab_ (pv 2)) ac_)) (fg_ rfl (aq_ (aj_ (i:=3) sc_lay.nd rfl (Or.inl rfl)) (aq_ (aj_ (i:=4) sc_lay.nd rfl (Or.inl rfl)) bv_))) (ee_ (n:=99) (is:=[3,4]) rfl (by decide)) (af_ (fb_ fun F=>PS.weak (fw_ (XE.at (Ex:=noEx) F (ab_ (pv 4))) (gj_ (pv 0) (XE.at (Ex:=noEx) F (bf_ (ab_ (pv 1)) (ab_ (pv 3)))) dg_)) fy_)))),fun l ds Q h => ?_⟩
  obtain ⟨xs,ys,p,rfl,rfl,h0,h1,h2,q⟩:=h
  show forX _ _ _ (enuX (ys.map Dx.int)) _
  rw [hv_]
  refine bc_ _ (fun rest ρ => ∃ (i:Nat) (y3 y4:Sl),rest=((List.range ys.length).zip ys).drop i∧i≤ys.length∧ρ=[.bw ((lay xs p.toNat (ys.take i)).map Dx.int),.v (.tr (.int p)),.v (.tr (.lst (ys.map Dx.int))),y3,y4]) (fun ρ h => ?_) (fun a rest ρ Kn h hk => ?_) ⟨0,.un,.un,rfl,Nat.zero_le _,by rw [List.take_zero,lay_nil]; rfl⟩
  · obtain ⟨i, y3, y4, e, hi, rfl⟩ := h
    have hz:((List.range ys.length).zip ys).length=ys.length:=by rw [List.length_zip,List.length_range]; omega
    have hge:=List.drop_eq_nil_iff.mp e.symm
    rw [hz] at hge
    have:i=ys.length:=by omega
    subst this
    rw [List.take_length]
    exact q
  · obtain ⟨i, y3, y4, e, hi, rfl⟩ := h
    obtain ⟨e1,e2⟩:=bo_ e
    obtain ⟨e3,e4⟩:=ih_ e1
    have hil:=(List.getElem?_eq_some_iff.mp e4).1
    have hlen:((lay xs p.toNat (ys.take i)).map Dx.int).length=xs.length:=by rw [List.length_map,dt_]
    have htl:(ys.take i).length=i:=by rw [List.length_take]; omega
    have hix:ixN ((lay xs p.toNat (ys.take i)).map Dx.int).length (p + (0 + (a.1:Int)))=some (p.toNat + i):=by
      rw [is_ (by omega) (by rw [hlen]; omega)]
      congr 1
      omega
    have hk':=hk [.bw ((lay xs p.toNat (ys.take (i + 1))).map Dx.int),.v (.tr (.int p)),.v (.tr (.lst (ys.map Dx.int))),.v (.tr (.int (0 + (a.1:Int)))),.v (.tr (.int a.2))] ⟨i + 1,_,_,e2,hil,rfl⟩
    rw [bu_ e4,lay_snoc (by rw [htl]; omega),htl,List.map_set] at hk'
    simp only [xSeq,xNext,xOp,xVar,xRet,xCons,xNil,xFor,xSetI,addX,gxT,gxs,retB,lentEnd,startX,startB,cw_,cv_,len3,at10,at20,at21,at30,at31,at32,at40,at41,at42,at43,ix30,ix31,ix32,List.getElem?_cons_zero,List.getElem?_cons_succ,List.set_cons_zero,List.set_cons_succ,Sv.d,List.map_cons,List.map_nil,Option.bind_some,Option.isSome_some,List.cons_append,List.nil_append,List.length_cons,List.length_nil,List.replicate_succ,List.replicate_zero,Nat.reduceAdd,Nat.reduceSub,Nat.reduceLeDiff,true_and,decide_eq_true_eq,cut,caps,back,Option.getD_some,if_true,↓reduceIte,List.drop_succ_cons,List.drop_zero,hix]
    exact hk'
end
section
variable {P:Program} {w:World} {K:FG_} {mg:MG_} {base:Heap} {f:Addr} {fd:FuncData} {n j jR jP jI:Nat}
theorem okx_lb (F:Fun K "laid_bytes" "laid_bytes" ec_ f fd) (CNB:Cal P w K mg base 1 "number_bytes" ["w", "value"] (spX gNB)) (CRO:Cal P w K mg base jR "room_of" ["kind"] (spX (gRO (n + 1)))) (CSO:Cal P w K mg base 2 "step_of" ["room"] (spX gSO)) (CPO:Cal P w K mg base jP "places_in_order" ["fields"] (spX (gPO n))) (CCA:Cal P w K mg base 2 "chosen_at" ["multiple"] (spX gCA)) (CLAY:Cal P w K mg base 1 "lay" ["laid", "place", "some"] (spB gLAY)) (CLB:Cal P w K mg base j "laid_bytes" ["kind", "value"] (spX (gLB n))) (m_zip:mg "zip" = none) (m_enumerate:mg "enumerate" = none) (hR:jR≤j) (hP:jP≤j) (h2j:2≤j) :
    FnOk P w K mg base CX0 (j + 1) f fd ["kind", "value"] (spX (gLB (n + 1))):=by
  refine ez_ F sc_laid_bytes (fun ds Q h=>by obtain ⟨_,_,_,rfl,_⟩:=h; rfl) (by decide) fun cdv A outer s H E hr => ?_
  have hu1:=dv_ hr
  have hu0:=Nat.lt_of_succ_lt hu1
  refine ⟨_,(ae_ (bd_ (av_ (bs_ K hu0) cs_ (am_ K (ab_ (pv 0)) ad_ (fun _ _=>rfl)) br_ (nomark _)) (af_ (an_ (ag_ CNB (hr.mono (by omega)) (aa_ (am_ K (ab_ (pv 0)) ad_ (fun _ _=>rfl)) (aa_ (ab_ (pv 1)) ac_))))) ar_)
    (ae_ (ai_ fun F=>ak_ (i:=2) sc_laid_bytes.nd rfl (Or.inl rfl) (XE.at (Ex:=noEx) F (ch_ (by_ (aa_ ad_ ac_)) (am_ K (ag_ CRO (hr.mono (by omega)) (aa_ (ab_ (pv 0)) ac_)) ad_ (fun _ _=>rfl)))))
    (ae_ (bd_ (av_ (bs_ K hu0) cs_ (am_ K (ab_ (pv 0)) ad_ (fun _ _=>rfl)) br_ (nomark _)) (ae_ (ai_ fun F=>ak_ (i:=3) sc_laid_bytes.nd rfl (Or.inl rfl) (XE.at (Ex:=noEx) F (ag_ CSO (hr.mono (by omega)) (aa_ (ag_ CRO (hr.mono (by omega)) (aa_ (am_ K (ab_ (pv 0)) ad_ (fun _ _=>rfl)) ac_)) ac_))))
    (af_ (ck_ PassesOwn.never rfl (xi_enum m_enumerate (aa_ (ab_ (pv 1)) ac_)) (fg_ rfl (aq_ (aj_ (i:=4) sc_laid_bytes.nd rfl (Or.inl rfl)) (aq_ (aj_ (i:=5) sc_laid_bytes.nd rfl (Or.inl rfl)) bv_))) (ee_ (n:=99) (is:=[4,5]) rfl (by decide)) (af_ (gu_ (ap_ (i:=2) CLAY (hr.mono (by omega)) (pv 2) (aa_ (ch_ (ab_ (pv 4)) (ab_ (pv 3))) (aa_ (ag_ CLB (hr.mono (by omega)) (aa_ (am_ K (ab_ (pv 0)) ad_ (fun _ _=>rfl)) (aa_ (ab_ (pv 5)) ac_))) ac_)))))))) (af_ (bd_ (av_ (bs_ K hu0) cs_ (am_ K (ab_ (pv 0)) ad_ (fun _ _=>rfl)) br_ (nomark _)) (af_ (ck_ PassesOwn.never rfl (xi_zip m_zip (aa_ (am_ K (ab_ (pv 0)) ad_ (fun _ _=>rfl)) (aa_ (ag_ CPO (hr.mono (by omega)) (aa_ (am_ K (ab_ (pv 0)) ad_ (fun _ _=>rfl)) ac_)) ac_))) (fg_ rfl (aq_ (aj_ (i:=6) sc_laid_bytes.nd rfl (Or.inl rfl)) (aq_ (aj_ (i:=7) sc_laid_bytes.nd rfl (Or.inl rfl)) bv_))) (ee_ (n:=99) (is:=[6,7]) rfl (by decide)) (af_ (gu_ (ap_ (i:=2) CLAY (hr.mono (by omega)) (pv 2) (aa_ (am_ K (ab_ (pv 7)) ad_ (fun _ _=>rfl)) (aa_ (ag_ CLB (hr.mono (by omega)) (aa_ (am_ K (ab_ (pv 6)) ad_ (fun _ _=>rfl)) (aa_ (xe_dget hu1 (ab_ (pv 1)) (am_ K (ab_ (pv 6)) ad_ (fun _ _=>rfl)) (fun _ _=>rfl)) ac_))) ac_))))))) (ae_ (fb_ fun F=>PS.weak (fw_ (XE.at (Ex:=noEx) F (am_ K (ab_ (pv 1)) ad_ (fun _ _=>rfl))) (gj_ (pv 2) (XE.at (Ex:=noEx) F ad_) dg_)) fy_)
    (af_ (gu_ (ap_ (i:=2) CLAY (hr.mono (by omega)) (pv 2) (aa_ (ag_ CCA (hr.mono (by omega)) (aa_ (am_ K (ag_ CRO (hr.mono (by omega)) (aa_ (ab_ (pv 0)) ac_)) ad_ (fun _ _=>rfl)) ac_)) (aa_ (ag_ CLB (hr.mono (by omega)) (aa_ (am_ K (am_ K (ab_ (pv 0)) ad_ (fun _ _=>rfl)) (am_ K (ab_ (pv 1)) ad_ (fun _ _=>rfl)) (fun _ _=>rfl)) (aa_ (am_ K (ab_ (pv 1)) ad_ (fun _ _=>rfl)) ac_))) ac_)))))))))
    (af_ (an_ (cd_ (pv 2))))))),fun ds Q h => ?_⟩
  obtain ⟨kd,vd,d,rfl,hi,hfit,hval,hdp,hn,hrm,q⟩:=h
  change xSeq _ _ [.v (.tr kd.x),.v (.tr d),.un,.un,.un,.un,.un,.un] _
  by_cases isnum:∃ wd m,kd=.num wd m
  · obtain ⟨wd, m, rfl⟩ := isnum
    cases vd with
    | num i =>
      obtain ⟨a1,a2,_⟩:=hfit
      simp only [Kd.isv] at hi
      subst hi
      simp only [Kd.byt] at q
      exact ⟨wd,i,rfl,by omega,by omega,q⟩
    | _=>simp [Kd.Val] at hval
  · have hnum : ∀ Q : Bool → En → Prop, Q false [.v (.tr kd.x), .v (.tr d), .un, .un, .un, .un, .un, .un] → (xB (xOp eqX (xOp ixX (xVar 0) (xC (.int 0))) (xC (.str "number")))) [.v (.tr kd.x), .v (.tr d), .un, .un, .un, .un, .un, .un] Q := by
      cases kd with
      | num wd m=>exact absurd ⟨wd,m,rfl⟩ isnum
      | row k m=>exact fun Q q=>q
      | rcd fs=>exact fun Q q=>q
      | cho ks=>exact fun Q q=>q
    refine hc_ hnum ?_
    obtain ⟨b0,b1,b2,b3⟩:=kd.bd hfit.ok
    refine ⟨len1,kd,rfl,hfit.ok,hdp,hn,⟨by omega,by omega,by show 1 * _≤_; omega⟩,?_⟩
    rw [zerosX]
    dsimp only
    change xSeq _ _ [.v (.tr kd.x),.v (.tr d),.v (.ol ((List.replicate kd.rm.1.toNat (0:Int)).map Dx.int)),.un,.un,.un,.un,.un] _
    refine dy_ (fun ρ => ∃ y3 y4 y5 y6 y7,ρ=[.v (.tr kd.x),.v (.tr d),.v (.ol ((kd.byt vd).map Dx.int)),y3,y4,y5,y6,y7]) ?_ (fun D' hD => ?_)
    · rintro ρ ⟨y3, y4, y5, y6, y7, rfl⟩
      exact q
    · cases kd with
      | num wd m=>exact absurd ⟨wd,m,rfl⟩ isnum
      | row k m =>
        cases vd with
        | row vs =>
          have hdp':k.deep + 1≤n + 1:=hdp
          obtain ⟨f1,f2,f3⟩:=hfit
          simp only [Kd.Val] at hval
          simp only [Kd.isv] at hi
          obtain ⟨ds,rfl,ha⟩:=hi
          have hl:ds.length=vs.length:=ha.len
          obtain ⟨c0,c1,c2,c3⟩:=bd12 (n:=n) f1.ok (by omega) (by omega)
          obtain ⟨u1,u2⟩:=ao_ (n:=k.rm.1) (m:=k.rm.2) (by omega)
          have hst:((up k.rm.1 k.rm.2).toNat:Int)=up k.rm.1 k.rm.2:=Int.toNat_of_nonneg (by omega)
          have hR':(Kd.row k m).rm.1=m * up k.rm.1 k.rm.2:=rfl
          have hRn:(m * up k.rm.1 k.rm.2).toNat=vs.length * (up k.rm.1 k.rm.2).toNat:=by
            have:m * up k.rm.1 k.rm.2=((vs.length * (up k.rm.1 k.rm.2).toNat:Nat):Int):=by rw [← hval.1]; push_cast; rw [hst]
            rw [this,Int.toNat_natCast]
          have hup:up k.rm.1 k.rm.2≤100000:=by
            have:1 * up k.rm.1 k.rm.2≤m * up k.rm.1 k.rm.2:=Int.mul_le_mul_of_nonneg_right (by omega) (by omega)
            rw [hR'] at hrm
            omega
          have hRle:vs.length * (up k.rm.1 k.rm.2).toNat≤100000:=by rw [← hRn]; rw [hR'] at hrm; omega
          rw [hR',hRn]
          refine ⟨k,rfl,f1.ok,by omega,by omega,k.rm,rfl,c0,by omega,by omega,by omega,?_⟩
          generalize hS:(up k.rm.1 k.rm.2).toNat=S at *
          have ez:ds=(vs.zip ds).map (·.2):=by rw [List.map_snd_zip (by omega)]
          have een:enuX ds=((List.range (vs.zip ds).length).zip (vs.zip ds)).map fun p=>.tup [.int (0 + (p.1:Int)),p.2.2]:=by
            conv=>lhs; rw [ez]
            rw [hv_]
          have hzl:(vs.zip ds).length=vs.length:=by rw [List.length_zip]; omega
          show forX _ _ _ (enuX ds) _
          rw [een]
          refine bc_ _ (fun rest ρ => ∃ (i:Nat) (y4 y5:Sl),rest=((List.range (vs.zip ds).length).zip (vs.zip ds)).drop i∧i≤vs.length∧ρ=[.v (.tr (Kd.row k m).x),.v (.tr (.lst ds)),.v (.ol ((layRow k.byt S 0 (vs.take i) (List.replicate (vs.length * S) 0)).map Dx.int)),.v (.tr (.int (up k.rm.1 k.rm.2))),y4,y5,.un,.un]) (fun ρ h => ?_) (fun a rest ρ Kn h hk => ?_) ⟨0,.un,.un,rfl,Nat.zero_le _,rfl⟩
          · obtain ⟨i, y4, y5, e, hi, rfl⟩ := h
            have hge:=List.drop_eq_nil_iff.mp e.symm
            rw [List.length_zip,List.length_range,hzl] at hge
            have:i=vs.length:=by omega
            subst this
            refine hD _ ⟨.v (.tr (.int (up k.rm.1 k.rm.2))),y4,y5,.un,.un,?_⟩
            simp only [Kd.byt]
            rw [List.take_length,hRn,hS]
          · obtain ⟨i, y4, y5, e, hi, rfl⟩ := h
            obtain ⟨e1,e2⟩:=bo_ e
            obtain ⟨e3,e4⟩:=ih_ e1
            obtain ⟨e5,e6⟩:=List.getElem?_zip_eq_some.mp e4
            have hil:=(List.getElem?_eq_some_iff.mp e5).1
            have hva:=hval.2 a.2.1 (List.mem_of_getElem? e5)
            have hia:=all2_zip ha a.2 (List.mem_of_getElem? e4)
            have bl:(k.byt a.2.1).length=k.rm.1.toNat:=Kd.byt_len hva
            have hmul:(i + 1) * S≤vs.length * S:=Nat.mul_le_mul_right _ hil
            rw [Nat.add_mul,Nat.one_mul] at hmul
            have hcast:(0 + (a.1:Int)) * up k.rm.1 k.rm.2=((i * S:Nat):Int):=by rw [e3,Int.zero_add,← hst]; push_cast; rfl
            have htl:(vs.take i).length=i:=by rw [List.length_take]; omega
            refine ⟨rfl,⟨by omega,by omega⟩,k,a.2.1,a.2.2,rfl,hia,f1,hva,by omega,by omega,by omega,layRow k.byt S 0 (vs.take i) (List.replicate (vs.length * S) 0),k.byt a.2.1,(0 + (a.1:Int)) * up k.rm.1 k.rm.2,rfl,rfl,by rw [hcast]; omega,by rw [hcast,ek_,List.length_replicate,bl]; omega,by rw [ek_,List.length_replicate]; exact hRle,hk _ ⟨i + 1,.v (.tr (.int (0 + (a.1:Int)))),.v (.tr a.2.2),e2,hil,?_⟩⟩
            rw [hcast,Int.toNat_natCast,bu_ e5,ip_,htl,Nat.zero_add]
            rfl
        | _=>simp [Kd.Val] at hval
      | rcd fs =>
        cases vd with
        | rcd vs =>
          have hdp':deepF fs + 1≤n + 1:=hdp
          obtain ⟨f1,f2,f3,hnd⟩:=hfit
          simp only [Kd.Val] at hval
          simp only [Kd.isv] at hi
          obtain ⟨kvs,rfl,hl,hks,ha⟩:=hi
          have hvl:=cl_ hval
          have hok:=hd_ fs f1
          have hb:=bdF12 (n:=n) hok (by omega) (by omega)
          have hRms:Rms (rmF fs):=fun r hr=>⟨(hb r hr).1,by have:=(hb r hr).2.2.1; omega⟩
          obtain ⟨x0,x1⟩:=mx_bd hb
          obtain ⟨u1,u2⟩:=ao_ (n:=lastEnd 0 (rmF fs)) (m:=maxL 1 ((rmF fs).map (·.2))) (by omega)
          have hR':(Kd.rcd fs).rm.1=up (lastEnd 0 (rmF fs)) (maxL 1 ((rmF fs).map (·.2))):=rfl
          have hlr:(rmF fs).length=fs.length:=lenF fs
          have hpl:(plcs 0 (rmF fs)).length=fs.length:=by rw [cu_,hlr]
          refine ⟨fs,rfl,hok,by omega,by omega,by omega,?_⟩
          have exf:xF fs=(fs.zip vs).map fun p=>.tup [.str p.1.1,p.1.2.x]:=by
            rw [de_]
            have:fs=(fs.zip vs).map (·.1):=by rw [List.map_fst_zip (by omega)]
            conv=>lhs; rw [this]
            rw [List.map_map]
            rfl
          show forX _ _ _ (zipX (xF fs) ((fs.zip (plcs 0 (rmF fs))).map fun x=>.tup [.str x.1.1,.int x.2])) _
          rw [exf,df_]
          have hzl:((fs.zip vs).zip (fs.zip (plcs 0 (rmF fs)))).length=fs.length:=by rw [List.length_zip,List.length_zip,List.length_zip]; omega
          refine bc_ _ (fun rest ρ => ∃ (i:Nat) (y6 y7:Sl),rest=((fs.zip vs).zip (fs.zip (plcs 0 (rmF fs)))).drop i∧i≤fs.length∧ρ=[.v (.tr (Kd.rcd fs).x),.v (.tr (.dic kvs)),.v (.ol ((bytF ((plcs 0 (rmF fs)).take i) (fs.take i) (vs.take i) (List.replicate (Kd.rcd fs).rm.1.toNat 0)).map Dx.int)),.un,.un,.un,y6,y7]) (fun ρ h => ?_) (fun a rest ρ Kn h hk => ?_) ⟨0,.un,.un,rfl,Nat.zero_le _,by simp only [List.take_zero,bytF]; rfl⟩
          · obtain ⟨i, y6, y7, e, hi, rfl⟩ := h
            have hge:=List.drop_eq_nil_iff.mp e.symm
            rw [hzl] at hge
            have:i=fs.length:=by omega
            subst this
            refine hD _ ⟨.un,.un,.un,y6,y7,?_⟩
            simp only [Kd.byt]
            have t1:(plcs 0 (rmF fs)).take fs.length=plcs 0 (rmF fs):=List.take_of_length_le (by omega)
            have t2:vs.take fs.length=vs:=List.take_of_length_le (by omega)
            rw [t1,t2,List.take_length]
            rfl
          · obtain ⟨i, y6, y7, e, hi, rfl⟩ := h
            obtain ⟨e1,e2⟩:=bo_ e
            obtain ⟨e3,e4⟩:=List.getElem?_zip_eq_some.mp e1
            obtain ⟨e5,e6⟩:=List.getElem?_zip_eq_some.mp e3
            obtain ⟨e7,e8⟩:=List.getElem?_zip_eq_some.mp e4
            have hil:=(List.getElem?_eq_some_iff.mp e5).1
            obtain ⟨x,hx,hix⟩:=isvF_mem ha (List.mem_of_getElem? e3)
            obtain ⟨o1,o2,o3⟩:=valF_mem hok hval (List.mem_of_getElem? e3)
            have ff:=(fitFx f1 (List.mem_of_getElem? e5)).1
            obtain ⟨l1,l2⟩:=cx_ (e:=0) hRms (ff_ e5) e8
            have bl:(a.1.1.2.byt a.1.2).length=a.1.1.2.rm.1.toNat:=Kd.byt_len o2
            have hb0:=(hb _ (List.mem_of_getElem? (ff_ e5))).1
            have hk':=hk [.v (.tr (Kd.rcd fs).x),.v (.tr (.dic kvs)),.v (.ol ((bytF ((plcs 0 (rmF fs)).take (i + 1)) (fs.take (i + 1)) (vs.take (i + 1)) (List.replicate (Kd.rcd fs).rm.1.toNat 0)).map Dx.int)),.un,.un,.un,.v (.tr (.tup [.str a.1.1.1,a.1.1.2.x])),.v (.tr (.tup [.str a.2.1.1,.int a.2.2]))] ⟨i + 1,_,_,e2,hil,rfl⟩
            rw [bu_ e5,bu_ e6,bu_ e8,bytF_snoc (by rw [List.length_take,List.length_take]; omega) (by rw [List.length_take,List.length_take]; omega)] at hk'
            simp only [xSeq,xNext,xIf,xB,xOp,xVar,xMove,xC,xSet,xRet,xExp,xCall,xCallB,xCons,xNil,xLst,xFor,xSetI,ixX,dgX,mulX,eqX,eqS,gxT,gxs,retB,lentEnd,startX,startB,cw_,cv_,len3,at10,at20,at21,at30,at31,at32,at40,at41,at42,at43,ix30,ix31,ix32,List.getElem?_cons_zero,List.getElem?_cons_succ,List.set_cons_zero,List.set_cons_succ,Sv.d,List.map_cons,List.map_nil,Option.bind_some,Option.isSome_some,List.cons_append,List.nil_append,List.length_cons,List.length_nil,List.replicate_succ,List.replicate_zero,Nat.reduceAdd,Nat.reduceSub,Nat.reduceLeDiff,true_and,decide_eq_true_eq,cut,caps,back,Option.getD_some,if_true,↓reduceIte,List.drop_succ_cons,List.drop_zero,keyD,hx,Kd.x]
            exact ⟨a.1.1.2,a.1.2,x,rfl,hix,ff,o2,by omega,by omega,by omega,_,_,a.2.2,rfl,rfl,l2,by rw [gr_,List.length_replicate,bl]; omega,by rw [gr_,List.length_replicate]; omega,hk'⟩
        | _=>simp [Kd.Val] at hval
      | cho ks =>
        cases vd with
        | cho jj v =>
          have hdp':deepK ks + 1≤n + 1:=hdp
          have hf':=hfit
          obtain ⟨f1,f2,f3⟩:=hfit
          have hval':=hval
          simp only [Kd.Val] at hval
          simp only [Kd.isv] at hi
          obtain ⟨u,rfl,ha⟩:=hi
          obtain ⟨k,hk,hik⟩:=isvK_at ha
          obtain ⟨kf,kdp⟩:=fitKx f1 (List.mem_of_getElem? hk)
          have hvk:=valK_mem hval hk
          have hok:=fitK_ok ks f1
          have hb:=bdK12 (n:=n) hok (by omega) (by omega)
          obtain ⟨x0,x1⟩:=mx_bd hb
          have hrk:k.rm∈rmK ks:=List.mem_of_getElem? (rmK_at hk)
          have hl1:k.rm.1≤maxL 0 ((rmK ks).map (·.1)):=hb_ (List.mem_map_of_mem hrk)
          obtain ⟨u1,u2⟩:=ao_ (n:=up 1 (maxL 1 ((rmK ks).map (·.2))) + maxL 0 ((rmK ks).map (·.1))) (m:=maxL 1 ((rmK ks).map (·.2))) (by omega)
          rw [dz_ x0] at u1 u2
          have hk0:=(hb _ hrk).1
          have bl:(k.byt v).length=k.rm.1.toNat:=Kd.byt_len hvk
          have eR:(Kd.cho ks).rm.1=up (maxL 1 ((rmK ks).map (·.2)) + maxL 0 ((rmK ks).map (·.1))) (maxL 1 ((rmK ks).map (·.2))):=by show up (up 1 _ + _) _=_; rw [dz_ x0]
          have eM:(Kd.cho ks).rm.2=maxL 1 ((rmK ks).map (·.2)):=rfl
          have eu:up 1 (Kd.cho ks).rm.2=(Kd.cho ks).rm.2:=by rw [eM]; exact dz_ x0
          have hxk:(xK ks)[jj]? = some k.x:=by rw [da_,List.getElem?_map,hk]; rfl
          have hat:=gd_ hxk
          have hlen:((List.replicate (Kd.cho ks).rm.1.toNat (0:Int)).map Dx.int).length=(Kd.cho ks).rm.1.toNat:=by rw [List.length_map,List.length_replicate]
          have hix:ixN ((List.replicate (Kd.cho ks).rm.1.toNat (0:Int)).map Dx.int).length 0=some 0:=by rw [is_ (by decide) (by rw [hlen]; omega)]; rfl
          refine ⟨rfl,?_⟩
          simp only [xSeq,xNext,xIf,xB,xOp,xVar,xMove,xC,xSet,xRet,xExp,xCall,xCallB,xCons,xNil,xLst,xFor,xSetI,ixX,dgX,mulX,eqX,eqS,gxT,gxs,retB,lentEnd,startX,startB,cw_,cv_,len3,at10,at20,at21,at30,at31,at32,at40,at41,at42,at43,ix30,ix31,ix32,List.getElem?_cons_zero,List.getElem?_cons_succ,List.set_cons_zero,List.set_cons_succ,Sv.d,List.map_cons,List.map_nil,Option.bind_some,Option.isSome_some,List.cons_append,List.nil_append,List.length_cons,List.length_nil,List.replicate_succ,List.replicate_zero,Nat.reduceAdd,Nat.reduceSub,Nat.reduceLeDiff,true_and,decide_eq_true_eq,cut,caps,back,Option.getD_some,if_true,↓reduceIte,List.drop_succ_cons,List.drop_zero,hix,hat,Kd.x]
          refine ⟨.cho ks,rfl,hf'.ok,hdp,hn,(Kd.cho ks).rm.2,rfl,by rw [eM]; omega,by rw [eM]; omega,k,v,u,rfl,hik,kf,hvk,by omega,by omega,by omega,(List.replicate (Kd.cho ks).rm.1.toNat (0:Int)).set 0 (jj:Int),k.byt v,up 1 (Kd.cho ks).rm.2,by rw [List.map_set],rfl,by rw [eu,eM]; omega,by rw [eu,eM,bl,List.length_set,List.length_replicate]; omega,by rw [List.length_set,List.length_replicate]; omega,hD _ ⟨.un,.un,.un,.un,.un,?_⟩⟩
          simp only [Kd.byt]
          rw [bytK_at' hk]
          rfl
        | _=>simp [Kd.Val] at hval
theorem okx_by (F:Fun K "bytes_of" "bytes_of" gy_ f fd) (CIV:Cal P w K mg base jI "is_value" ["kind", "thing"] (spX (gIV n))) (CLB:Cal P w K mg base j "laid_bytes" ["kind", "value"] (spX (gLB n))) (hj:jI≤j):FnOk P w K mg base CX0 (j + 1) f fd ["kind", "thing"] (spX (gLB n)):=by
  refine ez_ F sc_bytes_of (fun ds Q h=>by obtain ⟨_,_,_,rfl,_⟩:=h; rfl) (by decide) fun cdv A outer s H E hr => ?_
  refine ⟨_,(ae_ (bd_ (eg_ (dn_ (ag_ CIV (hr.mono (by omega)) (aa_ (ab_ (pv 0)) (aa_ (ab_ (pv 1)) ac_))))) (af_ xs_no) ar_)
    (af_ (an_ (ag_ CLB (hr.mono (by omega)) (aa_ (ab_ (pv 0)) (aa_ (ab_ (pv 1)) ac_)))))),fun ds Q h => ?_⟩
  obtain ⟨kd,vd,d,rfl,hi,hfit,hval,hdp,hn,hrm,q⟩:=h
  exact ⟨kd,vd,d,rfl,hi,hfit.ok,hval,hdp,hn,kd,vd,d,rfl,hi,hfit,hval,hdp,hn,hrm,q⟩
end
def gPL (K:FG_):GC:=fun ds Q => ∃ (ns:List Int) (k:Int),ds=[.scr K ns,.int k]∧0≤k∧k < 2 ^ 20∧∀ l,PoolX (31 * k) l→Q (.ol l)
section
variable {P:Program} {w:World} {K:FG_} {mg:MG_} {base:Heap} {f:Addr} {fd:FuncData}
theorem okx_pl (F:Fun K "_law_pool" "_law_pool" gw_ f fd) (m_len:mg "len" = none):FnOk P w K mg base CX0 1 f fd ["script", "k"] (spX (gPL K)):=by
  refine ez_ F sc_law_pool (fun ds Q h=>by obtain ⟨ns,k,rfl,_⟩:=h; rfl) (by decide) fun cdv A outer s H E hr => ?_
  have hu1:=dv_ hr
  have hu0:=Nat.lt_of_succ_lt hu1
  refine ⟨_,(ae_ (ai_ fun F=>ak_ (i:=2) sc_law_pool.nd rfl (Or.inl rfl) (XE.at (Ex:=noEx) F ad_))
    (ae_ (bd_ (av_ op_lt ox_lt (ab_ (pv 1)) (az_ (cb_ K) cx_lenZ (by rfl) m_len PySem.boot_len (aa_ (ab_ (pv 0)) ac_)) (nomark _)) (af_ (ai_ fun F=>ak_ (i:=2) sc_law_pool.nd rfl (Or.inl rfl) (XE.at (Ex:=noEx) F (xe_ixZ K (ab_ (pv 0)) (ab_ (pv 1)) (fun _ _=>rfl))))) ar_)
    (ae_ (bd_ (av_ op_ge ox_ge (ab_ (pv 2)) (xe_pow ad_ ad_) (nomark _)) (af_ (an_ (by_ (aa_ (fv_ (ab_ (pv 2)) (xe_pow ad_ ad_)) (aa_ ad_ (aa_ ad_ ac_)))))) ar_)
    (af_ (an_ (by_ (aa_ (ab_ (pv 2)) (aa_ ad_ (aa_ (ch_ ad_ (ab_ (pv 1))) ac_))))))))),fun ds Q h => ?_⟩
  obtain ⟨ns,k,rfl,h0,h1,q⟩:=h
  have cp:CPow 10 18:=⟨by decide,by decide,by decide⟩
  refine go_set ?_
  change xSeq _ _ [.v (.tr (.scr K ns)),.v (.tr (.int k)),.v (.tr (.int 0))] _
  refine dy_ (fun ρ => ∃ c:Int,ρ=[.v (.tr (.scr K ns)),.v (.tr (.int k)),.v (.tr (.int c))]) ?_ (fun D' hD => ?_)
  · rintro ρ' ⟨c, rfl⟩
    refine ⟨cp,?_⟩
    refine ite2 (fun c2 => ?_) (fun c2 => ?_)
    · exact ⟨cp,lenA (by show 3≤1000000; decide),q _ ⟨_,_,_,rfl,by omega,by omega⟩⟩
    · exact ⟨⟨by decide,by omega⟩,lenA (by show 3≤1000000; decide),q _ ⟨_,_,_,rfl,by omega,by omega⟩⟩
  · refine ⟨rfl, ?_⟩
    refine ite2 (fun c => ?_) (fun c=>hD _ ⟨0,rfl⟩)
    have c':=of_decide_eq_true c
    obtain ⟨v,hv,_⟩:=atI_of (l:=ns) h0 c'
    refine ⟨rfl,?_⟩
    rw [hv]
    exact hD _ ⟨v,rfl⟩
end
def AtP (xs:List Int) (p:Nat) (ys:List Int):Prop:=p + ys.length≤xs.length∧∀ i,i < ys.length→xs.getD (p + i) 0=ys.getD i 0
theorem AtP.trans {xs ys zs:List Int} {p q:Nat} (h:AtP xs p ys) (h':AtP ys q zs):AtP xs (p + q) zs:=⟨by have:=h.1; have:=h'.1; omega,fun i hi=>by rw [Nat.add_assoc,h.2 (q + i) (by have:=h'.1; omega),h'.2 i hi]⟩
theorem AtP.self (xs:List Int):AtP xs 0 xs:=⟨by omega,fun i _=>by rw [Nat.zero_add]⟩
theorem AtP.cut {xs ys:List Int} {p:Nat} (h:AtP xs p ys):(xs.drop p).take ys.length=ys:=by
  have h1:=h.1
  refine List.ext_getElem? fun i => ?_
  by_cases hi:i < ys.length
  · have := h.2 i hi
    rw [List.getElem?_take_of_lt hi,List.getElem?_drop,List.getElem?_eq_getElem (by omega),List.getElem?_eq_getElem hi]
    rw [List.getD_eq_getElem?_getD,List.getD_eq_getElem?_getD,List.getElem?_eq_getElem (by omega),List.getElem?_eq_getElem hi] at this
    exact congrArg some this
  · rw [List.getElem?_eq_none (by rw [List.length_take]; omega),List.getElem?_eq_none (by omega)]
theorem lay_atP {l s:List Int} {p:Nat} (h:p + s.length≤l.length):AtP (lay l p s) p s:=⟨by rw [dt_]; exact h,fun i hi=>by rw [lay_get (by omega),if_pos (by omega),Nat.add_sub_cancel_left]⟩
theorem at_row {k:Kd} {m:Int} {vs:List Vd} {t:Nat} {v:Vd} (hf:(Kd.row k m).Fit) (hv:(Kd.row k m).Val (.row vs)) (h:vs[t]? = some v):AtP ((Kd.row k m).byt (.row vs)) (t * (up k.rm.1 k.rm.2).toNat) (k.byt v):=by
  obtain ⟨f1,f2,f3⟩:=hf
  simp only [Kd.Val] at hv
  obtain ⟨c0,c1,c2,c3⟩:=k.bd f1.ok
  obtain ⟨u1,u2⟩:=ao_ (n:=k.rm.1) (m:=k.rm.2) (by omega)
  have hst:((up k.rm.1 k.rm.2).toNat:Int)=up k.rm.1 k.rm.2:=Int.toNat_of_nonneg (by omega)
  have hRn:(m * up k.rm.1 k.rm.2).toNat=vs.length * (up k.rm.1 k.rm.2).toNat:=by
    have:m * up k.rm.1 k.rm.2=((vs.length * (up k.rm.1 k.rm.2).toNat:Nat):Int):=by rw [← hv.1]; push_cast; rw [hst]
    rw [this,Int.toNat_natCast]
  have htl:=(List.getElem?_eq_some_iff.mp h).1
  have hva:=hv.2 v (List.mem_of_getElem? h)
  have bl:∀ u∈vs,(k.byt u).length≤(up k.rm.1 k.rm.2).toNat:=fun u hu=>by rw [Kd.byt_len (hv.2 u hu)]; omega
  have hmul:(t + 1) * (up k.rm.1 k.rm.2).toNat≤vs.length * (up k.rm.1 k.rm.2).toNat:=Nat.mul_le_mul_right _ htl
  rw [Nat.add_mul,Nat.one_mul] at hmul
  have b2:=bl v (List.mem_of_getElem? h)
  simp only [Kd.byt]
  rw [hRn]
  refine ⟨by rw [ek_,List.length_replicate]; omega,fun i hi => ?_⟩
  have:=layRow_get k.byt (up k.rm.1 k.rm.2).toNat vs 0 (List.replicate (vs.length * (up k.rm.1 k.rm.2).toNat) 0) (t * (up k.rm.1 k.rm.2).toNat + i) t v bl h (by rw [Nat.zero_add]; omega) (by rw [Nat.zero_add]; omega) (by rw [List.length_replicate]; omega)
  rw [this,Nat.zero_add,Nat.add_sub_cancel_left]
theorem bytF_get:∀ {fs:List (Str×Kd)} {vs:List Vd} {e:Int} {l:List Int} {t:Nat} {f:Str×Kd} {v:Vd} {p:Int},Rms (rmF fs)→0≤e→valF fs vs→fs[t]? = some f→vs[t]? = some v→(plcs e (rmF fs))[t]? = some p→lastEnd e (rmF fs)≤(l.length:Int)→AtP (bytF (plcs e (rmF fs)) fs vs l) p.toNat (f.2.byt v)
  | [],_,_,_,_,_,_,_,_,_,_,h,_,_,_=>by simp at h
  | g :: r,[],_,_,_,_,_,_,_,_,h,_,_,_,_=>by simp [valF] at h
  | g :: r, u :: vs, e, l, t, f, v, p, hR, he, hv, h1, h2, h3, hl => by
    simp only [valF] at hv
    have e0:rmF (g :: r)=g.2.rm :: rmF r:=rfl
    rw [e0] at hR h3 hl ⊢
    have hR':Rms (rmF r):=fun x hx=>hR x (List.mem_cons_of_mem _ hx)
    obtain ⟨c0,c1⟩:=hR _ List.mem_cons_self
    obtain ⟨u1,u2⟩:=ao_ (n:=e) (m:=g.2.rm.2) c1
    have hge:=fs_ (rs:=rmF r) (e:=up e g.2.rm.2 + g.2.rm.1) hR'
    have hl':lastEnd (up e g.2.rm.2 + g.2.rm.1) (rmF r)≤(l.length:Int):=hl
    have bl:(g.2.byt u).length=g.2.rm.1.toNat:=Kd.byt_len hv.1
    show AtP (bytF (up e g.2.rm.2 :: plcs (up e g.2.rm.2 + g.2.rm.1) (rmF r)) (g :: r) (u :: vs) l) p.toNat (f.2.byt v)
    simp only [bytF]
    cases t with
    | zero =>
      simp at h1 h2
      subst h1 h2
      have h3':some (up e g.2.rm.2)=some p:=h3
      cases h3'
      have hlay:AtP (lay l (up e g.2.rm.2).toNat (g.2.byt u)) (up e g.2.rm.2).toNat (g.2.byt u):=lay_atP (by omega)
      refine ⟨by rw [gr_]; exact hlay.1,fun i hi => ?_⟩
      rw [bytF_keep r _ vs _ _ fun q hq => ?_]
      · exact hlay.2 i hi
      · obtain ⟨n, hn⟩ := List.getElem?_of_mem hq
        have hn':n < (rmF r).length:=by
          have:=(List.getElem?_eq_some_iff.mp hn).1
          rwa [cu_] at this
        have:=(cx_ (e:=up e g.2.rm.2 + g.2.rm.1) hR' (List.getElem?_eq_getElem hn') hn).2
        omega
    | succ t =>
      exact bytF_get (e:=up e g.2.rm.2 + g.2.rm.1) (l:=lay l (up e g.2.rm.2).toNat (g.2.byt u)) hR' (by omega) hv.2 (by simpa using h1) (by simpa using h2) (by simpa [plcs] using h3) (by rw [dt_]; exact hl')
theorem at_rcd {fs:List (Str×Kd)} {vs:List Vd} {t:Nat} {f:Str×Kd} {v:Vd} {p:Int} (hf:(Kd.rcd fs).Fit) (hv:(Kd.rcd fs).Val (.rcd vs)) (h1:fs[t]? = some f) (h2:vs[t]? = some v) (h3:(plcs 0 (rmF fs))[t]? = some p):AtP ((Kd.rcd fs).byt (.rcd vs)) p.toNat (f.2.byt v):=by
  obtain ⟨f1,f2,f3,hnd⟩:=hf
  simp only [Kd.Val] at hv
  have hok:=hd_ fs f1
  have hb:∀ r∈rmF fs,0≤r.1∧1≤r.2:=fun r hr=>by
    obtain ⟨i,hi⟩:=List.getElem?_of_mem hr
    have hil:i < fs.length:=by have:=(List.getElem?_eq_some_iff.mp hi).1; rwa [lenF fs] at this
    have:=ff_ (List.getElem?_eq_getElem hil)
    rw [this] at hi
    cases hi
    obtain ⟨c0,c1,c2,c3⟩:=(fs[i]).2.bd (fitFx f1 (List.getElem_mem hil)).1.ok
    exact ⟨by omega,by omega⟩
  have hRms:Rms (rmF fs):=fun r hr=>⟨(hb r hr).1,by have:=(hb r hr).2; omega⟩
  have x0:1≤maxL 1 ((rmF fs).map (·.2)):=ed_ _
  obtain ⟨u1,u2⟩:=ao_ (n:=lastEnd 0 (rmF fs)) (m:=maxL 1 ((rmF fs).map (·.2))) (by omega)
  simp only [Kd.byt]
  have hR':(rcdRm (rmF fs)).1=up (lastEnd 0 (rmF fs)) (maxL 1 ((rmF fs).map (·.2))):=rfl
  exact bytF_get hRms (by decide) hv h1 h2 h3 (by rw [List.length_replicate,hR']; omega)
theorem at_cho {ks:List Kd} {j:Nat} {k:Kd} {v:Vd} (hf:(Kd.cho ks).Fit) (hk:ks[j]? = some k) (hv:k.Val v):AtP ((Kd.cho ks).byt (.cho j v)) (up 1 (Kd.cho ks).rm.2).toNat (k.byt v)∧((Kd.cho ks).byt (.cho j v))[0]? = some (j:Int):=by
  obtain ⟨f1,f2,f3⟩:=hf
  obtain ⟨kf,kdp⟩:=fitKx f1 (List.mem_of_getElem? hk)
  have x0:1≤maxL 1 ((rmK ks).map (·.2)):=ed_ _
  have hrk:k.rm∈rmK ks:=List.mem_of_getElem? (rmK_at hk)
  have hl1:k.rm.1≤maxL 0 ((rmK ks).map (·.1)):=hb_ (List.mem_map_of_mem hrk)
  obtain ⟨u1,u2⟩:=ao_ (n:=up 1 (maxL 1 ((rmK ks).map (·.2))) + maxL 0 ((rmK ks).map (·.1))) (m:=maxL 1 ((rmK ks).map (·.2))) (by omega)
  rw [dz_ x0] at u1 u2
  obtain ⟨c0,c1,c2,c3⟩:=k.bd kf.ok
  have bl:(k.byt v).length=k.rm.1.toNat:=Kd.byt_len hv
  have eR:(choRm (rmK ks)).1=up (maxL 1 ((rmK ks).map (·.2)) + maxL 0 ((rmK ks).map (·.1))) (maxL 1 ((rmK ks).map (·.2))):=by show up (up 1 _ + _) _=_; rw [dz_ x0]
  have eM:(choRm (rmK ks)).2=maxL 1 ((rmK ks).map (·.2)):=rfl
  have eu:up 1 (choRm (rmK ks)).2=maxL 1 ((rmK ks).map (·.2)):=by rw [eM]; exact dz_ x0
  simp only [Kd.byt]
  rw [bytK_at' hk]
  show AtP (lay _ (up 1 (choRm (rmK ks)).2).toNat _) (up 1 (choRm (rmK ks)).2).toNat (k.byt v)∧_
  refine ⟨lay_atP (by rw [eu,bl,List.length_set,List.length_replicate,eR]; omega),?_⟩
  rw [hh_,List.getElem?_set_self (by rw [List.length_replicate,eR]; omega),Option.map_some,if_neg (by rw [eu]; omega)]
theorem lay_all {Pp:Int→Prop} {l s:List Int} {p:Nat} (hl:∀ b∈l,Pp b) (hs:∀ b∈s,Pp b):∀ b∈lay l p s,Pp b:=fun b hb=>by
  obtain ⟨i,hi⟩:=List.getElem?_of_mem hb
  rw [hh_] at hi
  obtain ⟨c,h1,h2⟩:=Option.map_eq_some_iff.mp hi
  by_cases hc:p≤i∧i < p + s.length
  · rw [if_pos hc, List.getD_eq_getElem?_getD, List.getElem?_eq_getElem (by omega)] at h2
    rw [← h2]
    exact hs _ (List.getElem_mem _)
  · rw [if_neg hc] at h2
    rw [← h2]
    exact hl _ (List.mem_of_getElem? h1)
theorem layRow_all {Pp:Int→Prop} (f:Vd→List Int) (st:Nat):∀ (vs:List Vd) (j:Nat) (l:List Int),(∀ b∈l,Pp b)→(∀ v∈vs,∀ b∈f v,Pp b)→∀ b∈layRow f st j vs l,Pp b
  | [],_,_,hl,_=>hl
  | v :: r,j,l,hl,hv=>layRow_all f st r (j + 1) _ (lay_all hl (hv v List.mem_cons_self)) fun u hu=>hv u (List.mem_cons_of_mem _ hu)
theorem hx_ {n:Nat}:∀ b∈List.replicate n (0:Int),0≤b∧b < 256:=fun b hb=>by rw [(List.mem_replicate.mp hb).2]; decide
mutual
theorem jb_:∀ (kd:Kd) (v:Vd),kd.Fit→kd.Val v→∀ b∈kd.byt v,0≤b∧b < 256
  | .num w m,.num n,_,_=>by simp only [Kd.byt]; exact ha_ _ _
  | .row k m, .row vs, hf, hv => by
    simp only [Kd.byt]
    simp only [Kd.Val] at hv
    exact layRow_all _ _ _ _ _ hx_ fun v hm=>jb_ k v hf.1 (hv.2 v hm)
  | .rcd fs, .rcd vs, hf, hv => by
    simp only [Kd.byt]
    simp only [Kd.Val] at hv
    exact bytF_rng fs vs hf.1 hv _ _ hx_
  | .cho ks, .cho j v, hf, hv => by
    simp only [Kd.byt]
    simp only [Kd.Val] at hv
    obtain ⟨k,hk,_⟩:=fn_ hv
    have hj:=(List.getElem?_eq_some_iff.mp hk).1
    have h6:=hf.2.2
    refine lay_all (fun b hb => ?_) (bytK_rng ks j v hf.1 hv)
    rcases List.mem_or_eq_of_mem_set hb with h | h
    · exact hx_ b h
    · rw [h]; omega
  | .num _ _,.row _,_,hv=>by simp [Kd.Val] at hv
  | .num _ _,.rcd _,_,hv=>by simp [Kd.Val] at hv
  | .num _ _,.cho _ _,_,hv=>by simp [Kd.Val] at hv
  | .row _ _,.num _,_,hv=>by simp [Kd.Val] at hv
  | .row _ _,.rcd _,_,hv=>by simp [Kd.Val] at hv
  | .row _ _,.cho _ _,_,hv=>by simp [Kd.Val] at hv
  | .rcd _,.num _,_,hv=>by simp [Kd.Val] at hv
  | .rcd _,.row _,_,hv=>by simp [Kd.Val] at hv
  | .rcd _,.cho _ _,_,hv=>by simp [Kd.Val] at hv
  | .cho _,.num _,_,hv=>by simp [Kd.Val] at hv
  | .cho _,.row _,_,hv=>by simp [Kd.Val] at hv
  | .cho _,.rcd _,_,hv=>by simp [Kd.Val] at hv
theorem bytF_rng:∀ (fs:List (Str×Kd)) (vs:List Vd),fitF fs→valF fs vs→∀ (ps l:List Int),(∀ b∈l,0≤b∧b < 256)→∀ b∈bytF ps fs vs l,0≤b∧b < 256
  | [],vs,_,_,ps,l,hl=>by simp only [bytF]; exact hl
  | f :: r,[],_,_,ps,l,hl=>by simp only [bytF]; exact hl
  | f :: r,v :: vs,_,_,[],l,hl=>by simp only [bytF]; exact hl
  | f :: r, v :: vs, hf, hv, p :: ps, l, hl => by
    simp only [bytF]
    simp only [valF] at hv
    exact bytF_rng r vs hf.2 hv.2 ps _ (lay_all hl (jb_ f.2 v hf.1.2 hv.1))
theorem bytK_rng:∀ (ks:List Kd) (j:Nat) (v:Vd),fitK ks→valK ks j v→∀ b∈bytK ks j v,0≤b∧b < 256
  | [],_,_,_,h=>by simp [valK] at h
  | k :: r,0,v,hf,hv=>by simp only [bytK]; simp only [valK] at hv; exact jb_ k v hf.1 hv
  | k :: r,j + 1,v,hf,hv=>by simp only [bytK]; simp only [valK] at hv; exact bytK_rng r j v hf.2 hv
end
def numV:List Int→Int
  | []=>0
  | b :: r=>b + 256 * numV r
theorem numV_numB:∀ (w:Nat) (n:Int),0≤n→n < 256 ^ w→numV (numB w n)=n
  | 0,n,h0,h1=>by simp at h1; show (0:Int)=n; omega
  | w + 1, n, h0, h1 => by
    show n % 256 + 256 * numV (numB w (n / 256))=n
    rw [numV_numB w (n / 256) (Int.ediv_nonneg h0 (by decide)) (Int.ediv_lt_of_lt_mul (by decide) (by rw [Int.pow_succ] at h1; exact h1))]
    omega
theorem ic_:∀ {fs:List (Str×Kd)} {vs:List Vd} {i:Nat} {f:Str×Kd} {v:Vd},valF fs vs→fs[i]? = some f→vs[i]? = some v→f.2.Val v
  | [],_,_,_,_,_,h,_=>by simp at h
  | g :: r,[],_,_,_,h,_,_=>by simp [valF] at h
  | g :: r,u :: vs,0,f,v,h,h1,h2=>by simp only [valF] at h; simp at h1 h2; subst h1 h2; exact h.1
  | g :: r,u :: vs,i + 1,f,v,h,h1,h2=>by simp only [valF] at h; exact ic_ h.2 (by simpa using h1) (by simpa using h2)
theorem vxF_length {fs:List (Str×Kd)} {vs:List Vd} (hl:vs.length=fs.length):(vxF fs vs).length=fs.length:=by rw [vxF_zip,List.length_map,List.length_zip]; omega
theorem val_num {w m:Int} {v:Vd} (h:(Kd.num w m).Val v):∃ i,v=.num i∧0≤i∧i < 256 ^ w.toNat:=by
  cases v with
  | num i=>simp only [Kd.Val] at h; exact ⟨i,rfl,h⟩
  | _=>simp [Kd.Val] at h
theorem val_row {k:Kd} {m:Int} {v:Vd} (h:(Kd.row k m).Val v):∃ vs,v=.row vs∧(vs.length:Int)=m∧∀ u∈vs,k.Val u:=by
  cases v with
  | row vs=>simp only [Kd.Val] at h; exact ⟨vs,rfl,h⟩
  | _=>simp [Kd.Val] at h
theorem val_rcd {fs:List (Str×Kd)} {v:Vd} (h:(Kd.rcd fs).Val v):∃ vs,v=.rcd vs∧valF fs vs:=by
  cases v with
  | rcd vs=>simp only [Kd.Val] at h; exact ⟨vs,rfl,h⟩
  | _=>simp [Kd.Val] at h
theorem val_cho {ks:List Kd} {v:Vd} (h:(Kd.cho ks).Val v):∃ j u k,v=.cho j u∧ks[j]? = some k∧k.Val u:=by
  cases v with
  | cho j u=>simp only [Kd.Val] at h; obtain ⟨k,h1,h2⟩:=fn_ h; exact ⟨j,u,k,rfl,h1,h2⟩
  | _=>simp [Kd.Val] at h
theorem AtP.get {xs ys:List Int} {p i:Nat} (h:AtP xs p ys) (hi:i < ys.length):xs[p + i]? = ys[i]? := by
  have h1:=h.1
  have h2:=h.2 i hi
  rw [List.getD_eq_getElem?_getD,List.getD_eq_getElem?_getD,List.getElem?_eq_getElem (by omega),List.getElem?_eq_getElem hi] at h2
  rw [List.getElem?_eq_getElem (by omega),List.getElem?_eq_getElem hi]
  exact congrArg some h2
theorem AtP.of_get {xs ys:List Int} {p:Nat} (hne:0 < ys.length) (h:∀ i,i < ys.length→xs[p + i]? = ys[i]?):AtP xs p ys:=by
  refine ⟨?_,fun i hi => ?_⟩
  · have := h (ys.length - 1) (by omega)
    rw [List.getElem?_eq_getElem (l:=ys) (by omega)] at this
    have:=(List.getElem?_eq_some_iff.mp this).1
    omega
  · rw [List.getD_eq_getElem?_getD,List.getD_eq_getElem?_getD,h i hi]
mutual
def Kd.Ag (xs:List Int):Kd→Nat→Vd→Prop
  | .num w _,p,.num n=>AtP xs p (numB w.toNat n)
  | .row k _,p,.row vs => ∀ t v,vs[t]? = some v→k.Ag xs (p + t * (up k.rm.1 k.rm.2).toNat) v
  | .rcd fs,p,.rcd vs=>agF xs fs (plcs 0 (rmF fs)) p vs
  | .cho ks,p,.cho j v=>xs[p]? = some (j:Int)∧agK xs ks j (p + (up 1 (choRm (rmK ks)).2).toNat) v
  | _,_,_=>False
def agF (xs:List Int):List (Str×Kd)→List Int→Nat→List Vd→Prop
  | f :: r,q :: ps,p,v :: vs=>f.2.Ag xs (p + q.toNat) v∧agF xs r ps p vs
  | [],_,_,_=>True
  | _,_,_,_=>False
def agK (xs:List Int):List Kd→Nat→Nat→Vd→Prop
  | [],_,_,_=>False
  | k :: _,0,p,v=>k.Ag xs p v
  | _ :: r,j + 1,p,v=>agK xs r j p v
end
theorem agF_at {xs:List Int} {p:Nat}:∀ {fs:List (Str×Kd)} {ps:List Int} {vs:List Vd} {t:Nat} {f:Str×Kd} {q:Int} {v:Vd},agF xs fs ps p vs→fs[t]? = some f→ps[t]? = some q→vs[t]? = some v→f.2.Ag xs (p + q.toNat) v
  | [],_,_,_,_,_,_,_,h,_,_=>by simp at h
  | g :: r,[],_,_,_,_,_,_,_,h,_=>by simp at h
  | g :: r,_ :: _,[],_,_,_,_,_,_,_,h=>by simp at h
  | g :: r, q0 :: ps, u :: vs, 0, f, q, v, h, h1, h2, h3 => by
    simp at h1 h2 h3
    subst h1 h2 h3
    simp only [agF] at h
    exact h.1
  | g :: r, q0 :: ps, u :: vs, t + 1, f, q, v, h, h1, h2, h3 => by
    simp only [agF] at h
    exact agF_at h.2 (by simpa using h1) (by simpa using h2) (by simpa using h3)
theorem agF_of {xs:List Int} {p:Nat}:∀ {fs:List (Str×Kd)} {ps:List Int} {vs:List Vd},ps.length=fs.length→vs.length=fs.length→(∀ (t:Nat) (f:Str×Kd) (q:Int) (v:Vd),fs[t]? = some f→ps[t]? = some q→vs[t]? = some v→f.2.Ag xs (p + q.toNat) v)→agF xs fs ps p vs
  | [],_,_,_,_,_=>by simp only [agF]
  | g :: r,[],_,h,_,_=>by simp at h
  | g :: r,_ :: _,[],_,h,_=>by simp at h
  | g :: r, q0 :: ps, u :: vs, h1, h2, h => by
    simp only [agF]
    exact ⟨h 0 g q0 u rfl rfl rfl,agF_of (by simpa using h1) (by simpa using h2) fun t f q v e1 e2 e3=>h (t + 1) f q v (by simpa using e1) (by simpa using e2) (by simpa using e3)⟩
theorem agK_at {xs:List Int}:∀ {ks:List Kd} {j p:Nat} {k:Kd} {v:Vd},ks[j]? = some k→(agK xs ks j p v↔k.Ag xs p v)
  | [],_,_,_,_,h=>by simp at h
  | k' :: r,0,p,k,v,h=>by simp at h; subst h; simp only [agK]
  | k' :: r,j + 1,p,k,v,h=>by simp only [agK]; exact agK_at (by simpa using h)
theorem ew_ {fs:List (Str×Kd)}:(plcs 0 (rmF fs)).length=fs.length:=by rw [cu_,lenF fs]
theorem ag_at {xs:List Int}:∀ (n:Nat) (kd:Kd) (v:Vd) (p:Nat),kd.deep≤n→kd.Fit→kd.Val v→AtP xs p (kd.byt v)→kd.Ag xs p v
  | 0,kd,_,_,hd,_,_,_=>by have:=Kd.deep_pos kd; omega
  | n + 1, .num w m, v, p, hd, hf, hv, h => by
    obtain ⟨i,rfl,_⟩:=val_num hv
    simp only [Kd.byt] at h
    simp only [Kd.Ag]
    exact h
  | n + 1, .row k m, v, p, hd, hf, hv, h => by
    obtain ⟨vs,rfl,h1,h2⟩:=val_row hv
    have hd':k.deep + 1≤n + 1:=hd
    simp only [Kd.Ag]
    exact fun t u hu=>ag_at n k u _ (by omega) hf.1 (h2 u (List.mem_of_getElem? hu)) (h.trans (at_row hf hv hu))
  | n + 1, .rcd fs, v, p, hd, hf, hv, h => by
    obtain ⟨vs,rfl,h2⟩:=val_rcd hv
    have hd':deepF fs + 1≤n + 1:=hd
    simp only [Kd.Ag]
    refine agF_of ew_ (cl_ h2) fun t f q u e1 e2 e3 => ?_
    obtain ⟨ff,fd⟩:=fitFx hf.1 (List.mem_of_getElem? e1)
    exact ag_at n f.2 u _ (by omega) ff (ic_ h2 e1 e3) (h.trans (at_rcd hf hv e1 e3 e2))
  | n + 1, .cho ks, v, p, hd, hf, hv, h => by
    obtain ⟨j,u,k,rfl,hk,hu⟩:=val_cho hv
    have hd':deepK ks + 1≤n + 1:=hd
    obtain ⟨kf,kdp⟩:=fitKx hf.1 (List.mem_of_getElem? hk)
    obtain ⟨a1,a2⟩:=at_cho hf hk hu
    have h0:0 < ((Kd.cho ks).byt (.cho j u)).length:=(List.getElem?_eq_some_iff.mp a2).1
    simp only [Kd.Ag]
    exact ⟨by rw [← a2,← h.get h0,Nat.add_zero],(agK_at hk).mpr (ag_at n k u _ (by omega) kf hu (h.trans a1))⟩
theorem bz_num {w m:Int} {i:Nat}:(Kd.num w m).bz i=decide (i < w.toNat):=by
  unfold Kd.bz
  simp only [Kd.fil]
  rw [List.getElem?_replicate]
  split <;> simp_all
theorem bzF_of:∀ {fs:List (Str×Kd)} {ps:List Int} {t i:Nat} {f:Str×Kd} {q:Int},fs[t]? = some f→ps[t]? = some q→f.2.bz i=true→bzF ps fs (q.toNat + i)=true
  | [],_,_,_,_,_,h,_,_=>by simp at h
  | g :: r,[],_,_,_,_,_,h,_=>by simp at h
  | g :: r, q0 :: ps, 0, i, f, q, h1, h2, hb => by
    simp at h1 h2
    subst h1 h2
    unfold bzF
    rw [decide_eq_true (by omega),Nat.add_sub_cancel_left,hb]
    rfl
  | g :: r, q0 :: ps, t + 1, i, f, q, h1, h2, hb => by
    unfold bzF
    rw [bzF_of (by simpa using h1) (by simpa using h2) hb,Bool.or_true]
theorem bz_rcd {fs:List (Str×Kd)} {t i:Nat} {f:Str×Kd} {q:Int} (hf:(Kd.rcd fs).Fit) (h1:fs[t]? = some f) (h2:(plcs 0 (rmF fs))[t]? = some q) (hb:f.2.bz i=true):(Kd.rcd fs).bz (q.toNat + i)=true:=by
  have hok:=hf.ok
  have hz:=bzF_of h1 h2 hb
  have ff:=(fitFx hf.1 (List.mem_of_getElem? h1)).1
  have hi:=Kd.bz_lt ff.ok hb
  have hRms:Rms (rmF fs):=fun r hr=>by
    obtain ⟨m,hm⟩:=List.getElem?_of_mem hr
    have hml:m < fs.length:=by have:=(List.getElem?_eq_some_iff.mp hm).1; rwa [lenF fs] at this
    have:=ff_ (List.getElem?_eq_getElem hml)
    rw [this] at hm
    cases hm
    obtain ⟨c0,c1,c2,c3⟩:=(fs[m]).2.bd (fitFx hf.1 (List.getElem_mem hml)).1.ok
    exact ⟨by omega,by omega⟩
  obtain ⟨l1,l2⟩:=cx_ (e:=0) hRms (ff_ h1) h2
  have x0:1≤maxL 1 ((rmF fs).map (·.2)):=ed_ _
  obtain ⟨u1,u2⟩:=ao_ (n:=lastEnd 0 (rmF fs)) (m:=maxL 1 ((rmF fs).map (·.2))) (by omega)
  have hR':(rcdRm (rmF fs)).1=up (lastEnd 0 (rmF fs)) (maxL 1 ((rmF fs).map (·.2))):=rfl
  unfold Kd.bz
  simp only [Kd.fil]
  rw [ht_ _ _ _ _ (by rw [List.length_replicate,hR']; omega),hz,Bool.or_true]
theorem bz_cho {ks:List Kd} {j i:Nat} {k:Kd} (hf:(Kd.cho ks).Fit) (hk:ks[j]? = some k) (hb:k.bz i=true):(Kd.cho ks).bz ((up 1 (choRm (rmK ks)).2).toNat + i)=true:=by
  obtain ⟨kf,kdp⟩:=fitKx hf.1 (List.mem_of_getElem? hk)
  have hi:=Kd.bz_lt kf.ok hb
  have x0:1≤maxL 1 ((rmK ks).map (·.2)):=ed_ _
  have hrk:k.rm∈rmK ks:=List.mem_of_getElem? (rmK_at hk)
  have hl1:k.rm.1≤maxL 0 ((rmK ks).map (·.1)):=hb_ (List.mem_map_of_mem hrk)
  obtain ⟨u1,u2⟩:=ao_ (n:=up 1 (maxL 1 ((rmK ks).map (·.2))) + maxL 0 ((rmK ks).map (·.1))) (m:=maxL 1 ((rmK ks).map (·.2))) (by omega)
  rw [dz_ x0] at u1 u2
  have eR:(choRm (rmK ks)).1=up (maxL 1 ((rmK ks).map (·.2)) + maxL 0 ((rmK ks).map (·.1))) (maxL 1 ((rmK ks).map (·.2))):=by show up (up 1 _ + _) _=_; rw [dz_ x0]
  have eu:up 1 (choRm (rmK ks)).2=maxL 1 ((rmK ks).map (·.2)):=by show up 1 (maxL 1 ((rmK ks).map (·.2)))=_; exact dz_ x0
  unfold Kd.bz
  simp only [Kd.fil]
  rw [hr_ _ _ _ _ (by rw [List.length_set,List.length_replicate,eR,eu]; omega),bzK_any]
  rw [decide_eq_true (by omega),Nat.add_sub_cancel_left,List.any_eq_true.mpr ⟨k,List.mem_of_getElem? hk,hb⟩,Bool.and_self,Bool.or_true]
theorem bz_cho0 {ks:List Kd} (hf:(Kd.cho ks).Fit):(Kd.cho ks).bz 0=true:=by
  have x0:1≤maxL 1 ((rmK ks).map (·.2)):=ed_ _
  have y0:0≤maxL 0 ((rmK ks).map (·.1)):=ed_ _
  obtain ⟨u1,u2⟩:=ao_ (n:=up 1 (maxL 1 ((rmK ks).map (·.2))) + maxL 0 ((rmK ks).map (·.1))) (m:=maxL 1 ((rmK ks).map (·.2))) (by omega)
  rw [dz_ x0] at u1 u2
  have eR:(choRm (rmK ks)).1=up (maxL 1 ((rmK ks).map (·.2)) + maxL 0 ((rmK ks).map (·.1))) (maxL 1 ((rmK ks).map (·.2))):=by show up (up 1 _ + _) _=_; rw [dz_ x0]
  have hl:0 < (choRm (rmK ks)).1.toNat:=by rw [eR]; omega
  unfold Kd.bz
  simp only [Kd.fil]
  rw [hr_ _ _ _ _ (by rw [List.length_set,List.length_replicate]; exact hl),List.getElem?_set_self (by rw [List.length_replicate]; exact hl)]
  rfl
theorem ag_keep {xs ys:List Int}:∀ (n:Nat) (kd:Kd) (v:Vd) (p:Nat),kd.deep≤n→kd.Fit→kd.Val v→kd.Ag xs p v→(∀ i,kd.bz i=true→ys[p + i]? = xs[p + i]?)→kd.Ag ys p v
  | 0,kd,_,_,hd,_,_,_,_=>by have:=Kd.deep_pos kd; omega
  | n + 1, .num w m, v, p, hd, hf, hv, h, he => by
    obtain ⟨i,rfl,_⟩:=val_num hv
    simp only [Kd.Ag] at h ⊢
    have hw:=hf.1
    refine AtP.of_get (by rw [ey_]; omega) fun j hj => ?_
    rw [he j (by rw [bz_num]; rw [ey_] at hj; exact decide_eq_true hj),h.get hj]
  | n + 1, .row k m, v, p, hd, hf, hv, h, he => by
    obtain ⟨vs,rfl,h1,h2⟩:=val_row hv
    have hd':k.deep + 1≤n + 1:=hd
    simp only [Kd.Ag] at h ⊢
    intro t u hu
    have htl:=(List.getElem?_eq_some_iff.mp hu).1
    refine ag_keep n k u _ (by omega) hf.1 (h2 u (List.mem_of_getElem? hu)) (h t u hu) fun i hi => ?_
    have:=he (t * (up k.rm.1 k.rm.2).toNat + i) ((bz_row hf.1.ok _).mpr ⟨t,by omega,by omega,by rw [Nat.add_sub_cancel_left]; exact hi⟩)
    rw [Nat.add_assoc]
    exact this
  | n + 1, .rcd fs, v, p, hd, hf, hv, h, he => by
    obtain ⟨vs,rfl,h2⟩:=val_rcd hv
    have hd':deepF fs + 1≤n + 1:=hd
    simp only [Kd.Ag] at h ⊢
    refine agF_of ew_ (cl_ h2) fun t f q u e1 e2 e3 => ?_
    obtain ⟨ff,fd⟩:=fitFx hf.1 (List.mem_of_getElem? e1)
    refine ag_keep n f.2 u _ (by omega) ff (ic_ h2 e1 e3) (agF_at h e1 e2 e3) fun i hi => ?_
    rw [Nat.add_assoc]
    exact he _ (bz_rcd hf e1 e2 hi)
  | n + 1, .cho ks, v, p, hd, hf, hv, h, he => by
    obtain ⟨j,u,k,rfl,hk,hu⟩:=val_cho hv
    have hd':deepK ks + 1≤n + 1:=hd
    obtain ⟨kf,kdp⟩:=fitKx hf.1 (List.mem_of_getElem? hk)
    simp only [Kd.Ag] at h ⊢
    refine ⟨?_,(agK_at hk).mpr (ag_keep n k u _ (by omega) kf hu ((agK_at hk).mp h.2) fun i hi => ?_)⟩
    · have := he 0 (bz_cho0 hf)
      rw [Nat.add_zero] at this
      rw [this]
      exact h.1
    · rw [Nat.add_assoc]
      exact he _ (bz_cho hf hk hi)
theorem xint_gt {i:Nat} {x c:Int} {ρ:En} {Q:Sv→En→Prop} (h:ρ[i]? = some (.v (.tr (.int x)))) (q:Q (.tr (.int (if decide (c < x)=true then 1 else 0))) (ρ.set i (.v (.tr (.int x))))):xCall intX (xCons (xOp gtX (xVar i) (xC (.int c))) xNil) ρ Q:=by
  unfold xCall xCons xOp xVar
  dsimp only
  rw [h]
  exact q
theorem go_op {g:G2} {ta tb:XT} {ρ:En} {Q:Sv→En→Prop} (h:ta ρ fun a ρ1=>tb ρ1 fun b ρ2=>g a.d b.d fun s=>Q s ρ2):xOp g ta tb ρ Q:=h
theorem to_tr {i:Nat} {s:Sv} {ρ:En} {Q:Sv→En→Prop} {d:Dx} (hi:ρ[i]? = some (.v s)) (hs:s.d=d) (h:Q (.tr d) (ρ.set i (.v (.tr d)))):xVar i ρ Q:=by
  subst hs
  exact go_var hi h
def gIB:GC:=fun ds Q => ∃ b:Int,ds=[.int b]∧0≤b∧b < 256∧Q (.tr (.bl true))
def gAB:GC:=fun ds Q => ∃ xs:List Int,ds=[.lst (xs.map Dx.int),.int (xs.length:Int)]∧(∀ b∈xs,0≤b∧b < 256)∧xs.length≤100000∧Q (.tr (.bl true))
def gNA:GC:=fun ds Q => ∃ (w p i:Int) (xs:List Int),ds=[.int w,.lst (xs.map Dx.int),.int p]∧0≤w∧w≤8∧0≤p∧0≤i∧i < 256 ^ w.toNat∧AtP xs p.toNat (numB w.toNat i)∧Q (.tr (.int i))
def gVT (n:Nat):GC:=fun ds Q => ∃ (kd:Kd) (vd:Vd) (xs:List Int) (p:Int),ds=[kd.x,.lst (xs.map Dx.int),.int p]∧kd.Fit∧kd.Val vd∧kd.deep≤n∧n≤12∧0≤p∧xs.length≤100000∧kd.Ag xs p.toNat vd∧Q (kd.vx vd).own
def gRD (n:Nat):GC:=fun ds Q => ∃ (fs:List (Str×Kd)) (vs:List Vd) (xs:List Int) (p:Int),ds=[.lst (xF fs),.lst (xs.map Dx.int),.int p]∧(Kd.rcd fs).Fit∧(Kd.rcd fs).Val (.rcd vs)∧deepF fs≤n∧n≤12∧0≤p∧xs.length≤100000∧(Kd.rcd fs).Ag xs p.toNat (.rcd vs)∧Q (.od (vxF fs vs))
def gCH (n:Nat):GC:=fun ds Q => ∃ (ks:List Kd) (jj:Nat) (v:Vd) (xs:List Int) (p:Int),ds=[(Kd.cho ks).x,.lst (xs.map Dx.int),.int p]∧(Kd.cho ks).Fit∧(Kd.cho ks).Val (.cho jj v)∧deepK ks≤n∧n≤11∧0≤p∧xs.length≤100000∧(Kd.cho ks).Ag xs p.toNat (.cho jj v)∧Q (.tr ((Kd.cho ks).vx (.cho jj v)))
theorem numV_bd:∀ {l:List Int},(∀ b∈l,0≤b∧b < 256)→0≤numV l∧numV l < 256 ^ l.length
  | [],_=>by decide
  | b :: r, h => by
    obtain ⟨h1,h2⟩:=h b List.mem_cons_self
    obtain ⟨h3,h4⟩:=numV_bd (l:=r) fun x hx=>h x (List.mem_cons_of_mem _ hx)
    show 0≤b + 256 * numV r∧b + 256 * numV r < 256 ^ (r.length + 1)
    rw [Int.pow_succ]
    omega
theorem cut_at {xs ys:List Int} {p w:Int} (h:AtP xs p.toNat ys) (hp:0≤p) (hw:w.toNat=ys.length) (hw0:0≤w):cutX (xs.map Dx.int) (some p) (some (p + w))=ys.map Dx.int:=by
  have h1:=h.1
  unfold cutX
  have e1:p=((p.toNat:Nat):Int):=by omega
  have e2:p + w=((p.toNat + ys.length:Nat):Int):=by omega
  rw [e2,e1,HT.sIx_nat,HT.sIx_nat,List.length_map,Nat.min_eq_left (by omega),Nat.min_eq_left (by omega),← List.map_drop,← List.map_take,Int.toNat_natCast,Nat.add_sub_cancel_left,h.cut]
section
variable {P:Program} {w:World} {K:FG_} {mg:MG_} {base:Heap} {f:Addr} {fd:FuncData} {n j jR jP:Nat}
theorem okx_ib (F:Fun K "is_byte" "is_byte" ig_ f fd) (CIW:Cal P w K mg base 1 "is_whole" ["thing"] (spX gIW)) (c_HOW_MANY_BYTES:∃ t,mg "HOW_MANY_BYTES" = some (.int 256 t)):FnOk P w K mg base CX0 2 f fd ["thing"] (spX gIB):=by
  refine ez_ F sc_is_byte (fun ds Q h=>by obtain ⟨_,rfl,_⟩:=h; rfl) (by decide) fun cdv A outer s H E hr => ?_
  refine ⟨_,(af_ (an_ (xe_and (ag_ CIW (hr.mono (by omega)) (aa_ (ab_ (pv 0)) ac_)) (xe_one (xe_chain op_le ox_le op_lt ox_lt ad_ (ab_ (pv 0)) (hz_ (by rfl) c_HOW_MANY_BYTES)))))),fun ds Q h => ?_⟩
  obtain ⟨b,rfl,h0,h1,q⟩:=h
  refine ⟨b,rfl,?_⟩
  show if true=true then _ else _
  rw [if_pos rfl]
  show if decide (0≤b)=true then _ else _
  rw [if_pos (decide_eq_true h0)]
  show Q (.tr (.bl (decide (b < 256))))
  rw [decide_eq_true h1]
  exact q
theorem okx_ab (F:Fun K "are_bytes" "are_bytes" et_ f fd) (CIB:Cal P w K mg base 2 "is_byte" ["thing"] (spX gIB)) (m_isinstance:mg "isinstance" = none) (m_list:mg "list" = none) (m_len:mg "len" = none) (m_all:mg "all" = none):FnOk P w K mg base CX0 3 f fd ["thing", "how_many"] (spX gAB):=by
  refine ez_ F sc_are_bytes (fun ds Q h=>by obtain ⟨_,rfl,_⟩:=h; rfl) (by decide) fun cdv A outer s H E hr => ?_
  have hu1:=dv_ hr
  have hu0:=Nat.lt_of_succ_lt hu1
  refine ⟨_,(ae_ (bd_ (XW.pt (xw_or (eg_ (dn_ (dp_ .list m_isinstance (ab_ (pv 0)) (ga_ (v:=.ty "list") rfl m_list bt_list rfl)))) (xw_or1 (av_ (op_neA K hu0) ox_ne (az_ (cb_ K) fx_ (by rfl) m_len PySem.boot_len (aa_ (ab_ (pv 0)) ac_)) (ab_ (pv 1)) (nomark _))))) (af_ (an_ fa_)) ar_)
    (af_ (an_ (az_ (gq_ K (by rfl)) cx_all (by rfl) m_all bt_all (aa_ (ce_ (dsc:=defScope et_) (N:=["thing", "how_many"]) (tgs:=["each"]) (outs:=[]) (N':=["each"]) (by refine ⟨rfl,?_,?_,?_,rfl,?_,?_,?_⟩ <;> decide +kernel) (bk_ (ab_ (pv 0))) (fun _ _ _ _ _=>(aj_ (i:=0) (show (["each"]:List Str).Nodup by decide +kernel) rfl (Or.inl rfl) (.inr rfl))) (bi_ (n:=1) (i:=0) (by decide)) (bt_ (by decide)) (fun _ _ _ _ _=>bq_) (fun _ _ _ _ _=>(ag_ CIB (hr.mono (by omega)) (aa_ (ab_ (pv 0)) ac_)))) ac_))))),fun ds Q h => ?_⟩
  obtain ⟨xs,rfl,h0,h1,q⟩:=h
  have e:decide ((((xs.map Dx.int).length:Nat):Int)=(xs.length:Int))=true:=decide_eq_true (by rw [List.length_map])
  show if (!decide ((((xs.map Dx.int).length:Nat):Int)=(xs.length:Int)))=true then _ else _
  rw [e]
  refine ⟨show (xs.map Dx.int).length≤_ by rw [List.length_map]; omega,show compX _ _ _ _ _ (xs.map Dx.int) _ _ from ?_⟩
  refine be_ _ (fun _:Int=>.bl true) (fun b hb acc P pp => ?_) ?_
  · exact ⟨b,rfl,(h0 b hb).1,(h0 b hb).2,pp⟩
  · rw [List.nil_append, dj_]
    exact gt_ q
theorem okx_na (F:Fun K "number_at" "number_at" ep_ f fd) (c_HOW_MANY_BYTES:∃ t,mg "HOW_MANY_BYTES" = some (.int 256 t)) (m_reversed:mg "reversed" = none):FnOk P w K mg base CX0 1 f fd ["w", "some", "place"] (spX gNA):=by
  refine ez_ F sc_number_at (fun ds Q h=>by obtain ⟨_,_,_,_,rfl,_⟩:=h; rfl) (by decide) fun cdv A outer s H E hr => ?_
  refine ⟨_,(ae_ (ai_ fun F=>ak_ (i:=3) sc_number_at.nd rfl (Or.inl rfl) (XE.at (Ex:=noEx) F ad_))
    (ae_ (ck_ PassesOwn.never rfl (xi_rev m_reversed (aa_ (fm_ K (ab_ (pv 1)) (fc_ (ab_ (pv 2))) (fc_ (bf_ (ab_ (pv 2)) (ab_ (pv 0))))) ac_)) (aj_ (i:=4) sc_number_at.nd rfl (Or.inl rfl)) (bi_ (n:=99) (i:=4) (by decide)) (af_ (ai_ fun F=>ak_ (i:=3) sc_number_at.nd rfl (Or.inl rfl) (XE.at (Ex:=noEx) F (bf_ (ch_ (ab_ (pv 3)) (hz_ (by rfl) c_HOW_MANY_BYTES)) (ab_ (pv 4)))))))
    (af_ (an_ (cd_ (pv 3)))))),fun ds Q h => ?_⟩
  obtain ⟨w,p,i,xs,rfl,w0,w1,p0,i0,i1,ha,q⟩:=h
  have hl:=ey_ w.toNat i
  have hr:=ha_ w.toNat i
  have hv:=numV_numB w.toNat i i0 i1
  generalize numB w.toNat i=ys at *
  have hc:=cut_at ha p0 hl.symm w0
  show forX _ _ _ (cutX (xs.map Dx.int) (some p) (some (p + w))).reverse _
  rw [hc,← List.map_reverse]
  refine bc_ _ (fun rest ρ => ∃ (done:List Int) (y:Sl),ys=rest.reverse ++ done∧ρ=[.v (.tr (.int w)),.v (.tr (.lst (xs.map Dx.int))),.v (.tr (.int p)),.v (.tr (.int (numV done))),y]) (fun ρ h => ?_) (fun b rest ρ Kn h hk => ?_) ⟨[],.un,by rw [List.reverse_reverse,List.append_nil],rfl⟩
  · obtain ⟨done, y, e, rfl⟩ := h
    rw [List.reverse_nil,List.nil_append] at e
    rw [e] at hv
    rw [← hv] at q
    exact q
  · obtain ⟨done, y, e, rfl⟩ := h
    rw [List.reverse_cons,List.append_assoc] at e
    have hd:∀ c∈done,0≤c∧c < 256:=fun c hc=>hr c (by rw [e]; exact List.mem_append_right _ (List.mem_append_right _ hc))
    obtain ⟨n0,n1⟩:=numV_bd hd
    have hdl:done.length≤8:=by
      have:=congrArg List.length e
      rw [List.length_append,List.length_append] at this
      have:ys.length≤8:=by omega
      omega
    have n2:numV done < 256 ^ 8:=Int.lt_of_lt_of_le n1 (pow256 hdl)
    have k':=hk [.v (.tr (.int w)),.v (.tr (.lst (xs.map Dx.int))),.v (.tr (.int p)),.v (.tr (.int (numV (b :: done)))),.v (.tr (.int b))] ⟨b :: done,_,e,rfl⟩
    have e3:numV (b :: done)=numV done * 256 + b:=by show b + 256 * numV done=_; omega
    rw [e3] at k'
    exact ⟨⟨by omega,by decide⟩,k'⟩
theorem okx_rd (F:Fun K "record_at" "record_at" eo_ f fd) (CVT:Cal P w K mg base j "value_at" ["kind", "some", "place"] (spX (gVT n))) (CPO:Cal P w K mg base jP "places_in_order" ["fields"] (spX (gPO n))) (m_zip:mg "zip" = none) (hj:jP≤j):FnOk P w K mg base CX0 (j + 1) f fd ["fields", "some", "place"] (spX (gRD n)):=by
  refine ez_ F sc_record_at (fun ds Q h=>by obtain ⟨_,_,_,_,rfl,_⟩:=h; rfl) (by decide) fun cdv A outer s H E hr => ?_
  have hu1:=dv_ hr
  refine ⟨_,(ae_ (ai_ fun F=>ak_ (i:=3) sc_record_at.nd rfl (Or.inl rfl) (XE.at (Ex:=noEx) F xe_dnew))
    (ae_ (ck_ PassesOwn.never rfl (xi_zip m_zip (aa_ (ab_ (pv 0)) (aa_ (ag_ CPO (hr.mono (by omega)) (aa_ (ab_ (pv 0)) ac_)) ac_))) (fg_ rfl (aq_ (aj_ (i:=4) sc_record_at.nd rfl (Or.inl rfl)) (aq_ (aj_ (i:=5) sc_record_at.nd rfl (Or.inl rfl)) bv_))) (ee_ (n:=99) (is:=[4,5]) rfl (by decide)) (af_ (fb_ fun F=>PS.weak (ps_dput hu1 (pv 3) (XE.at (Ex:=noEx) F (am_ K (ab_ (pv 4)) ad_ (fun _ _=>rfl))) (XE.at (Ex:=noEx) F (ag_ CVT (hr.mono (by omega)) (aa_ (am_ K (ab_ (pv 4)) ad_ (fun _ _=>rfl)) (aa_ (ab_ (pv 1)) (aa_ (bf_ (ab_ (pv 2)) (am_ K (ab_ (pv 5)) ad_ (fun _ _=>rfl))) ac_))))) rfl) tDPut_x)))
    (af_ (an_ (cd_ (pv 3)))))),fun ds Q h => ?_⟩
  obtain ⟨fs,vs,xs,p,rfl,hfit,hval,hd,hn,p0,hx,ha,q⟩:=h
  have hf':=hfit
  obtain ⟨f1,f2,f3,hnd⟩:=hfit
  have hval':=hval
  simp only [Kd.Val] at hval
  simp only [Kd.Ag] at ha
  have hvl:=cl_ hval
  have hok:=hd_ fs f1
  have hpl:(plcs 0 (rmF fs)).length=fs.length:=by rw [cu_,lenF fs]
  refine ⟨fs,rfl,hok,by omega,by omega,by omega,?_⟩
  have exf:xF fs=(fs.zip vs).map fun p=>.tup [.str p.1.1,p.1.2.x]:=by
    rw [de_]
    have:fs=(fs.zip vs).map (·.1):=by rw [List.map_fst_zip (by omega)]
    conv=>lhs; rw [this]
    rw [List.map_map]
    rfl
  show forX _ _ _ (zipX (xF fs) ((fs.zip (plcs 0 (rmF fs))).map fun x=>.tup [.str x.1.1,.int x.2])) _
  have ezz:zipX (xF fs) ((fs.zip (plcs 0 (rmF fs))).map fun x=>.tup [.str x.1.1,.int x.2])=((fs.zip vs).zip (fs.zip (plcs 0 (rmF fs)))).map fun q=>.tup [.tup [.str q.1.1.1,q.1.1.2.x],.tup [.str q.2.1.1,.int q.2.2]]:=by rw [exf,df_]
  rw [ezz]
  have hzl:((fs.zip vs).zip (fs.zip (plcs 0 (rmF fs)))).length=fs.length:=by rw [List.length_zip,List.length_zip,List.length_zip]; omega
  refine bc_ _ (fun rest ρ => ∃ (i:Nat) (y4 y5:Sl),rest=((fs.zip vs).zip (fs.zip (plcs 0 (rmF fs)))).drop i∧i≤fs.length∧ρ=[.v (.tr (.lst (xF fs))),.v (.tr (.lst (xs.map Dx.int))),.v (.tr (.int p)),.v (.od (vxF (fs.take i) (vs.take i))),y4,y5]) (fun ρ h => ?_) (fun a rest ρ Kn h hk => ?_) ⟨0,.un,.un,rfl,Nat.zero_le _,by simp only [List.take_zero,vxF]; rfl⟩
  · obtain ⟨i, y4, y5, e, hi, rfl⟩ := h
    have hge:=List.drop_eq_nil_iff.mp e.symm
    rw [hzl] at hge
    have:i=fs.length:=by omega
    subst this
    have t2:vs.take fs.length=vs:=List.take_of_length_le (by omega)
    rw [t2,List.take_length]
    exact q
  · obtain ⟨i, y4, y5, e, hi, rfl⟩ := h
    obtain ⟨e1,e2⟩:=bo_ e
    obtain ⟨e3,e4⟩:=List.getElem?_zip_eq_some.mp e1
    obtain ⟨e5,e6⟩:=List.getElem?_zip_eq_some.mp e3
    obtain ⟨e7,e8⟩:=List.getElem?_zip_eq_some.mp e4
    have hil:=(List.getElem?_eq_some_iff.mp e5).1
    obtain ⟨ff,fdp⟩:=fitFx f1 (List.mem_of_getElem? e5)
    have hat:=agF_at ha e5 e8 e6
    have hRms:Rms (rmF fs):=fun r hr=>by
      obtain ⟨m,hm⟩:=List.getElem?_of_mem hr
      have hml:m < fs.length:=by have:=(List.getElem?_eq_some_iff.mp hm).1; rwa [lenF fs] at this
      have:=ff_ (List.getElem?_eq_getElem hml)
      rw [this] at hm
      cases hm
      obtain ⟨c0,c1,c2,c3⟩:=(fs[m]).2.bd (fitFx f1 (List.getElem_mem hml)).1.ok
      exact ⟨by omega,by omega⟩
    have l2:=(cx_ (e:=0) hRms (ff_ e5) e8).2
    have hlt:(vs.take i).length=(fs.take i).length:=by rw [List.length_take,List.length_take]; omega
    have hnew:(Sum.inr a.1.1.1:Key)∉(vxF (fs.take i) (vs.take i)).map (·.1):=by
      rw [hk_ hlt]
      intro hm
      obtain ⟨g,hg,eg⟩:=List.mem_map.mp hm
      have eg':g.1=a.1.1.1:=Sum.inr.inj eg
      obtain ⟨m,hm2⟩:=List.getElem?_of_mem hg
      have hml:m < i:=by have:=(List.getElem?_eq_some_iff.mp hm2).1; rw [List.length_take] at this; omega
      rw [List.getElem?_take_of_lt hml] at hm2
      have n1:(fs.map (·.1))[m]? = some a.1.1.1:=by rw [List.getElem?_map,hm2,← eg']; rfl
      have n2:(fs.map (·.1))[i]? = some a.1.1.1:=by rw [List.getElem?_map,e5]; rfl
      have:=(List.getElem?_inj (by rw [List.length_map]; omega) hnd).mp (n1.trans n2.symm)
      omega
    have hk':=hk [.v (.tr (.lst (xF fs))),.v (.tr (.lst (xs.map Dx.int))),.v (.tr (.int p)),.v (.od (vxF (fs.take (i + 1)) (vs.take (i + 1)))),.v (.tr (.tup [.str a.1.1.1,a.1.1.2.x])),.v (.tr (.tup [.str a.2.1.1,.int a.2.2]))] ⟨i + 1,_,_,e2,hil,rfl⟩
    rw [bu_ e5,bu_ e6,vxF_snoc hlt,← putX_new hnew] at hk'
    have hk2:Kn [.v (.tr (.lst (xF fs))),.v (.tr (.lst (xs.map Dx.int))),.v (.tr (.int p)),.v (.od (putX (vxF (fs.take i) (vs.take i)) (Sum.inr a.1.1.1) (a.1.1.2.vx a.1.2).own.d)),.v (.tr (.tup [.str a.1.1.1,a.1.1.2.x])),.v (.tr (.tup [.str a.2.1.1,.int a.2.2]))]:=by rw [own_d]; exact hk'
    refine ⟨a.1.1.2,a.1.2,xs,p + a.2.2,rfl,ff,ic_ hval e5 e6,by omega,by omega,by omega,hx,by rw [show (p + a.2.2).toNat=p.toNat + a.2.2.toNat from by omega]; exact hat,?_⟩
    have hvlen:(vxF (fs.take i) (vs.take i)).length≤100000:=by rw [vxF_length hlt,List.length_take]; omega
    exact ⟨⟨_,rfl⟩,by omega,hk2⟩
theorem okx_ch (F:Fun K "choice_at" "choice_at" es_ f fd) (CVT:Cal P w K mg base j "value_at" ["kind", "some", "place"] (spX (gVT n))) (CRO:Cal P w K mg base jR "room_of" ["kind"] (spX (gRO (n + 1)))) (CCA:Cal P w K mg base 2 "chosen_at" ["multiple"] (spX gCA)) (m_len:mg "len" = none) (hj:jR≤j) (hj2:2≤j):FnOk P w K mg base CX0 (j + 1) f fd ["kind", "some", "place"] (spX (gCH n)):=by
  refine ez_ F sc_choice_at (fun ds Q h=>by obtain ⟨_,_,_,_,_,rfl,_⟩:=h; rfl) (by decide) fun cdv A outer s H E hr => ?_
  have hu1:=dv_ hr
  refine ⟨_,(ae_ (ai_ fun F=>ak_ (i:=3) sc_choice_at.nd rfl (Or.inl rfl) (XE.at (Ex:=noEx) F (am_ K (ab_ (pv 1)) (ab_ (pv 2)) (fun _ _=>rfl))))
    (ae_ (bd_ (av_ op_ge ox_ge (ab_ (pv 3)) (az_ (cb_ K) fx_ (by rfl) m_len PySem.boot_len (aa_ (am_ K (ab_ (pv 0)) ad_ (fun _ _=>rfl)) ac_)) (nomark _)) (af_ xs_no) ar_)
    (af_ (an_ (dx_ (aa_ (ab_ (pv 3)) (aa_ (ag_ CVT (hr.mono (by omega)) (aa_ (am_ K (am_ K (ab_ (pv 0)) ad_ (fun _ _=>rfl)) (ab_ (pv 3)) (fun _ _=>rfl)) (aa_ (ab_ (pv 1)) (aa_ (bf_ (ab_ (pv 2)) (ag_ CCA (hr.mono (by omega)) (aa_ (am_ K (ag_ CRO (hr.mono (by omega)) (aa_ (ab_ (pv 0)) ac_)) ad_ (fun _ _=>rfl)) ac_))) ac_)))) ac_))))))),fun ds Q h => ?_⟩
  obtain ⟨ks,jj,v,xs,p,rfl,hfit,hval,hd,hn,p0,hx,ha,q⟩:=h
  have hf':=hfit
  obtain ⟨f1,f2,f3⟩:=hfit
  simp only [Kd.Val] at hval
  obtain ⟨k,hk,hvk⟩:=fn_ hval
  obtain ⟨kf,kdp⟩:=fitKx f1 (List.mem_of_getElem? hk)
  have hjl:=(List.getElem?_eq_some_iff.mp hk).1
  simp only [Kd.Ag] at ha
  have hat:k.Ag xs (p.toNat + (up 1 (Kd.cho ks).rm.2).toNat) v:=(agK_at hk).mp ha.2
  obtain ⟨b0,b1,b2,b3⟩:=(Kd.cho ks).bd hf'.ok
  have hxp:xs[p.toNat]? = some (jj:Int):=ha.1
  have hix:ixX (.lst (xs.map Dx.int)) (.int p)=fun Q=>Q (.tr (.int (jj:Int))):=by
    have hm:(xs.map Dx.int)[p.toNat]? = some (.int (jj:Int)):=by rw [List.getElem?_map,hxp]; rfl
    have:=gd_ hm
    rw [show ((p.toNat:Nat):Int)=p from by omega] at this
    funext Q
    simp only [ixX,this]
  have hxk:(xK ks)[jj]? = some k.x:=by rw [da_,List.getElem?_map,hk]; rfl
  have hat':=gd_ hxk
  have hkl:(xK ks).length=ks.length:=by rw [da_,List.length_map]
  refine go_set ?_
  refine go_op (go_var rfl (go_var rfl ?_))
  show ixX (.lst (xs.map Dx.int)) (.int p) _
  rw [hix]
  dsimp only
  change xSeq _ _ [.v (.tr (Kd.cho ks).x),.v (.tr (.lst (xs.map Dx.int))),.v (.tr (.int p)),.v (.tr (.int (jj:Int)))] _
  refine hc_ (ρ':=[.v (.tr (Kd.cho ks).x),.v (.tr (.lst (xs.map Dx.int))),.v (.tr (.int p)),.v (.tr (.int (jj:Int)))]) (fun Q q => ?_) ?_
  · show Q (decide (((xK ks).length : Int) ≤ (jj : Int))) _
    rw [decide_eq_false (by omega)]
    exact q
  · simp only [xSeq, xNext, xIf, xB, xOp, xVar, xC, xSet, xRet, xCall, xCons, xNil, xTup, ixX, addX, gI, lenX, retB, lentEnd, startX, startB, cw_, cv_, len3, at10, at20, at21, at30, at31, at32, at40, at41, at42, at43, ix30, ix31, ix32, List.getElem?_cons_zero, List.getElem?_cons_succ, List.set_cons_zero, List.set_cons_succ, Sv.d, List.map_cons, List.map_nil, Option.bind_some, Option.isSome_some, List.cons_append, List.nil_append, List.length_cons, List.length_nil, List.replicate_succ, List.replicate_zero, Nat.reduceAdd, Nat.reduceSub, Nat.reduceLeDiff, true_and, decide_eq_true_eq, cut, caps, back, Option.getD_some, if_true, ↓reduceIte, List.drop_succ_cons, List.drop_zero, hat', Kd.x]
    refine ⟨.cho ks,rfl,hf'.ok,by show deepK ks + 1≤n + 1; omega,by omega,(Kd.cho ks).rm.2,rfl,by omega,by omega,k,v,xs,p + up 1 (Kd.cho ks).rm.2,rfl,kf,hvk,by omega,by omega,?_⟩
    obtain ⟨u1,u2⟩:=ao_ (n:=1) (m:=(Kd.cho ks).rm.2) (by omega)
    refine ⟨by omega,hx,by rw [show (p + up 1 (Kd.cho ks).rm.2).toNat=p.toNat + (up 1 (Kd.cho ks).rm.2).toNat from by omega]; exact hat,?_⟩
    simp only [Kd.vx] at q
    rw [vxK_at hk] at q
    show Q (.tr (.tup [.int (jj:Int),(k.vx v).own.d]))
    rw [own_d]
    exact q
theorem okx_vt (F:Fun K "value_at" "value_at" eh_ f fd) (CNA:Cal P w K mg base 1 "number_at" ["w", "some", "place"] (spX gNA)) (CVT:Cal P w K mg base j "value_at" ["kind", "some", "place"] (spX (gVT n))) (CRO:Cal P w K mg base jR "room_of" ["kind"] (spX (gRO n))) (CSO:Cal P w K mg base 2 "step_of" ["room"] (spX gSO)) (CRD:Cal P w K mg base (j + 1) "record_at" ["fields", "some", "place"] (spX (gRD n))) (CCH:Cal P w K mg base (j + 1) "choice_at" ["kind", "some", "place"] (spX (gCH n))) (m_range:mg "range" = none) (hj:jR≤j) (hj2:2≤j):FnOk P w K mg base CX0 (j + 2) f fd ["kind", "some", "place"] (spX (gVT (n + 1))):=by
  refine ez_ F sc_value_at (fun ds Q h=>by obtain ⟨_,_,_,_,rfl,_⟩:=h; rfl) (by decide) fun cdv A outer s H E hr => ?_
  have hu1:=dv_ hr
  have hu0:=Nat.lt_of_succ_lt hu1
  refine ⟨_,(ae_ (bd_ (av_ (bs_ K hu0) cs_ (am_ K (ab_ (pv 0)) ad_ (fun _ _=>rfl)) br_ (nomark _)) (af_ (an_ (ag_ CNA (hr.mono (by omega)) (aa_ (am_ K (ab_ (pv 0)) ad_ (fun _ _=>rfl)) (aa_ (ab_ (pv 1)) (aa_ (ab_ (pv 2)) ac_)))))) ar_)
    (ae_ (bd_ (av_ (bs_ K hu0) cs_ (am_ K (ab_ (pv 0)) ad_ (fun _ _=>rfl)) br_ (nomark _)) (ae_ (ai_ fun F=>ak_ (i:=3) sc_value_at.nd rfl (Or.inr rfl) (XE.at (Ex:=noEx) F (ag_ CSO (hr.mono (by omega)) (aa_ (ag_ CRO (hr.mono (by omega)) (aa_ (am_ K (ab_ (pv 0)) ad_ (fun _ _=>rfl)) ac_)) ac_))))
    (af_ (an_ (ce_ (dsc:=defScope eh_) (N:=["kind", "some", "place", "step"]) (tgs:=["k"]) (outs:=[0,1,2,3]) (N':=["k", "kind", "some", "place", "step"]) (by refine ⟨rfl,?_,?_,?_,rfl,?_,?_,?_⟩ <;> decide +kernel) (do_ m_range (aa_ (am_ K (ab_ (pv 0)) ad_ (fun _ _=>rfl)) ac_)) (fun _ _ _ _ _=>(aj_ (i:=0) (show (["k", "kind", "some", "place", "step"]:List Str).Nodup by decide +kernel) rfl (Or.inl rfl) (.inr rfl))) (bi_ (n:=1) (i:=0) (by decide)) (bt_ (by decide)) (fun _ _ _ _ _=>bq_) (fun _ _ _ _ _=>(ag_ CVT (hr.mono (by omega)) (aa_ (am_ K (ab_ (pv 1)) ad_ (fun _ _=>rfl)) (aa_ (ab_ (pv 2)) (aa_ (bf_ (ab_ (pv 3)) (ch_ (ab_ (pv 0)) (ab_ (pv 4)))) ac_))))))))) ar_)
    (ae_ (bd_ (av_ (bs_ K hu0) cs_ (am_ K (ab_ (pv 0)) ad_ (fun _ _=>rfl)) br_ (nomark _)) (af_ (an_ (ag_ CRD (hr.mono (by omega)) (aa_ (am_ K (ab_ (pv 0)) ad_ (fun _ _=>rfl)) (aa_ (ab_ (pv 1)) (aa_ (ab_ (pv 2)) ac_)))))) ar_)
    (af_ (an_ (ag_ CCH (hr.mono (by omega)) (aa_ (ab_ (pv 0)) (aa_ (ab_ (pv 1)) (aa_ (ab_ (pv 2)) ac_))))))))),fun ds Q h => ?_⟩
  obtain ⟨kd,vd,xs,p,rfl,hfit,hval,hd,hn,p0,hx,ha,q⟩:=h
  cases kd with
  | num wd m =>
    obtain ⟨i,rfl,i0,i1⟩:=val_num hval
    simp only [Kd.Ag] at ha
    exact ⟨wd,p,i,xs,rfl,by have:=hfit.1; omega,hfit.2.1,p0,i0,i1,ha,q⟩
  | row k m =>
    obtain ⟨vs,rfl,hl,hvs⟩:=val_row hval
    have hd':k.deep + 1≤n + 1:=hd
    have hf':=hfit
    obtain ⟨f1,f2,f3⟩:=hfit
    obtain ⟨c0,c1,c2,c3⟩:=bd12 (n:=n) f1.ok (by omega) (by omega)
    obtain ⟨u1,u2⟩:=ao_ (n:=k.rm.1) (m:=k.rm.2) (by omega)
    have hst:((up k.rm.1 k.rm.2).toNat:Int)=up k.rm.1 k.rm.2:=Int.toNat_of_nonneg (by omega)
    simp only [Kd.Ag] at ha
    refine ⟨k,rfl,f1.ok,by omega,by omega,k.rm,rfl,c0,by omega,by omega,by omega,?_⟩
    have er:rngX 0 m.toNat=((List.range vs.length).zip vs).map fun a:Nat×Vd=>.int (0 + (a.1:Int)):=by
      have:m.toNat=vs.length:=by omega
      rw [this]
      unfold rngX
      have e2:List.range vs.length=((List.range vs.length).zip vs).map (·.1):=by rw [List.map_fst_zip (by rw [List.length_range]; omega)]
      conv=>lhs; rw [e2]
      rw [List.map_map]
      rfl
    refine ⟨⟨by omega,by omega⟩,?_⟩
    have hlen:(rngX 0 m.toNat).length≤1000000:=by unfold rngX; rw [List.length_map,List.length_range]; omega
    refine ⟨hlen,?_⟩
    show compX _ _ _ _ _ (rngX 0 m.toNat) _ _
    rw [er]
    refine be_ _ (fun a:Nat×Vd=>k.vx a.2) (fun a hm acc Pp pp => ?_) ?_
    · obtain ⟨i, hi⟩ := List.getElem?_of_mem hm
      obtain ⟨e3,e4⟩:=ih_ hi
      have hil:=(List.getElem?_eq_some_iff.mp e4).1
      have hva:=hvs a.2 (List.mem_of_getElem? e4)
      have hat:=ha i a.2 e4
      have hcast:(0 + (a.1:Int)) * up k.rm.1 k.rm.2=((i * (up k.rm.1 k.rm.2).toNat:Nat):Int):=by rw [e3,Int.zero_add,← hst]; push_cast; rfl
      refine ⟨⟨by rw [e3]; omega,by omega⟩,k,a.2,xs,p + (0 + (a.1:Int)) * up k.rm.1 k.rm.2,rfl,f1,hva,by omega,by omega,by rw [hcast]; omega,hx,?_,?_⟩
      · rw [hcast, show (p + ((i * (up k.rm.1 k.rm.2).toNat : Nat) : Int)).toNat = p.toNat + i * (up k.rm.1 k.rm.2).toNat from by omega]
        exact hat
      · show Pp (acc ++ [(k.vx a.2).own.d]) _
        rw [own_d]
        exact pp
    · have e5 : (((List.range vs.length).zip vs).map fun a : Nat × Vd => k.vx a.2) = vs.map k.vx := by
        have:vs=((List.range vs.length).zip vs).map (·.2):=by rw [List.map_snd_zip (by rw [List.length_range]; omega)]
        conv=>rhs; rw [this]
        rw [List.map_map]
        rfl
      rw [List.nil_append,e5]
      simp only [Kd.vx] at q
      exact q
  | rcd fs =>
    obtain ⟨vs,rfl,hvs⟩:=val_rcd hval
    have hd':deepF fs + 1≤n + 1:=hd
    simp only [Kd.vx] at q
    exact ⟨fs,vs,xs,p,rfl,hfit,hval,by omega,by omega,p0,hx,ha,q⟩
  | cho ks =>
    obtain ⟨jj,v,k,rfl,hk,hvk⟩:=val_cho hval
    have hd':deepK ks + 1≤n + 1:=hd
    have q':Q (.tr ((Kd.cho ks).vx (.cho jj v))):=by simp only [Kd.vx] at q ⊢; exact q
    exact ⟨ks,jj,v,xs,p,rfl,hfit,hval,by omega,by omega,p0,hx,ha,q'⟩
theorem vtx_none:FnOk P w K mg base CX0 j f fd ["kind", "some", "place"] (spX (gVT 0)):=fn_no fun ds Q h=>by
  obtain ⟨kd,_,_,_,_,_,_,hd,_⟩:=h
  have:=Kd.deep_pos kd
  omega
end
def gVO (n:Nat):GC:=fun ds Q => ∃ (kd:Kd) (vd:Vd),ds=[kd.x,.lst ((kd.byt vd).map Dx.int)]∧kd.Fit∧kd.Val vd∧kd.deep≤n∧n≤12∧kd.rm.1≤100000∧Q (.tr (kd.vx vd))
section
variable {P:Program} {w:World} {K:FG_} {mg:MG_} {base:Heap} {f:Addr} {fd:FuncData} {n j jR jB:Nat}
theorem okx_vo (F:Fun K "value_of" "value_of" fo_ f fd) (CAB:Cal P w K mg base 3 "are_bytes" ["thing", "how_many"] (spX gAB)) (CRO:Cal P w K mg base jR "room_of" ["kind"] (spX (gRO n))) (CVT:Cal P w K mg base j "value_at" ["kind", "some", "place"] (spX (gVT n))) (CLB:Cal P w K mg base jB "laid_bytes" ["kind", "value"] (spX (gLB n))) (hj:jR≤j) (hjB:jB≤j) (hj3:3≤j):FnOk P w K mg base CX0 (j + 1) f fd ["kind", "thing"] (spX (gVO n)):=by
  refine ez_ F sc_value_of (fun ds Q h=>by obtain ⟨_,_,rfl,_⟩:=h; rfl) (by decide) fun cdv A outer s H E hr => ?_
  have hu1:=dv_ hr
  have hu0:=Nat.lt_of_succ_lt hu1
  refine ⟨_,(ae_ (bd_ (eg_ (dn_ (ag_ CAB (hr.mono (by omega)) (aa_ (ab_ (pv 1)) (aa_ (am_ K (ag_ CRO (hr.mono (by omega)) (aa_ (ab_ (pv 0)) ac_)) ad_ (fun _ _=>rfl)) ac_))))) (af_ xs_no) ar_)
    (ae_ (ai_ fun F=>ak_ (i:=2) sc_value_of.nd rfl (Or.inl rfl) (XE.at (Ex:=noEx) F (ag_ CVT (hr.mono (by omega)) (aa_ (ab_ (pv 0)) (aa_ (ab_ (pv 1)) (aa_ ad_ ac_))))))
    (ae_ (bd_ (av_ (op_neZ hu0) ox_eqI (ag_ CLB (hr.mono (by omega)) (aa_ (ab_ (pv 0)) (aa_ (ab_ (pv 2)) ac_))) (ab_ (pv 1)) (nomark _)) (af_ xs_no) ar_)
    (af_ (an_ (cd_ (pv 2))))))),fun ds Q h => ?_⟩
  obtain ⟨kd,vd,rfl,hfit,hval,hd,hn,hrm,q⟩:=h
  have hbl:=Kd.byt_len hval
  obtain ⟨b0,b1,b2,b3⟩:=kd.bd hfit.ok
  have hrl:kd.rm.1=((kd.byt vd).length:Int):=by rw [hbl]; omega
  refine hc_ (ρ':=[.v (.tr kd.x),.v (.tr (.lst ((kd.byt vd).map Dx.int))),.un]) (fun Q q => ?_) ?_
  · refine ⟨kd, rfl, hfit.ok, hd, hn, ?_⟩
    exact ⟨kd.byt vd,by rw [← hrl]; rfl,jb_ kd vd hfit hval,by omega,q⟩
  · refine ⟨kd, vd, kd.byt vd, 0, rfl, hfit, hval, hd, hn, by decide, by omega, ag_at _ kd vd 0 (Nat.le_refl _) hfit hval (AtP.self _), ?_⟩
    dsimp only
    refine hc_ (ρ':=[.v (.tr kd.x),.v (.tr (.lst ((kd.byt vd).map Dx.int))),.v (.tr (kd.vx vd).own.d)]) (fun Q q => ?_) ?_
    · refine ⟨kd, vd, (kd.vx vd).own.d, rfl, by rw [own_d]; exact hj_ kd vd hfit hval, hfit, hval, hd, hn, hrm, ?_⟩
      refine ⟨kd.byt vd,kd.byt vd,rfl,rfl,?_⟩
      show Q (!decide (kd.byt vd=kd.byt vd)) _
      rw [decide_eq_true rfl]
      exact q
    · rw [own_d]
      exact q
end
def gVE (C:Addr) (n:Nat):GE:=fun ds Q Ex => ∃ (kd:Kd) (vd:Vd) (xs:List Int),ds=[kd.x,.lst (xs.map Dx.int)]∧kd.Fit∧kd.Val vd∧kd.deep≤n∧n≤12∧kd.rm.1≤100000∧xs.length=kd.rm.1.toNat∧(∀ b∈xs,0≤b∧b < 256)∧kd.Ag xs 0 vd∧(xs=kd.byt vd→Q (.tr (kd.vx vd)))∧(xs≠kd.byt vd→Ex (.ref C))
section
variable {P:Program} {w:World} {K:FG_} {mg:MG_} {base:Heap} {f:Addr} {fd:FuncData} {n j jR jB:Nat}
theorem okx_ve (F:Fun K "value_of" "value_of" fo_ f fd) (CAB:Cal P w K mg base 3 "are_bytes" ["thing", "how_many"] (spX gAB)) (CRO:Cal P w K mg base jR "room_of" ["kind"] (spX (gRO n))) (CVT:Cal P w K mg base j "value_at" ["kind", "some", "place"] (spX (gVT n))) (CLB:Cal P w K mg base jB "laid_bytes" ["kind", "value"] (spX (gLB n))) (hj:jR≤j) (hjB:jB≤j) (hj3:3≤j) {C_NoBytes:Addr} (O_NoBytes:PyProof.Rows.OwnCls "NoBytes" C_NoBytes veM "ValueError.__new__" mg base):FnOk P w K mg base (CXe P w) (j + 1) f fd ["kind", "thing"] (spE (gVE C_NoBytes n)):=by
  refine fn_e F sc_value_of (fun ds Q Ex h=>by obtain ⟨_,_,_,rfl,_⟩:=h; rfl) (by decide) fun cdv A outer s H E Ex hr => ?_
  have hu1:=dv_ hr
  have hu0:=Nat.lt_of_succ_lt hu1
  refine ⟨_,(ae_ (bd_ (eg_ (dn_ (ag_ CAB (hr.mono (by omega)) (aa_ (ab_ (pv 1)) (aa_ (am_ K (ag_ CRO (hr.mono (by omega)) (aa_ (ab_ (pv 0)) ac_)) ad_ (fun _ _=>rfl)) ac_))))) (af_ (xs_raise O_NoBytes rfl (by rfl))) ar_)
    (ae_ (ai_ fun F=>ak_ (i:=2) sc_value_of.nd rfl (Or.inl rfl) (XE.at (Ex:=noEx) F (ag_ CVT (hr.mono (by omega)) (aa_ (ab_ (pv 0)) (aa_ (ab_ (pv 1)) (aa_ ad_ ac_))))))
    (ae_ (bd_ (av_ (op_neZ hu0) ox_eqI (ag_ CLB (hr.mono (by omega)) (aa_ (ab_ (pv 0)) (aa_ (ab_ (pv 2)) ac_))) (ab_ (pv 1)) (nomark _)) (af_ (xs_raise O_NoBytes rfl (by rfl))) ar_)
    (af_ (an_ (cd_ (pv 2))))))),fun ds Q h => ?_⟩
  obtain ⟨kd,vd,xs,rfl,hfit,hval,hd,hn,hrm,hxl,hxb,hag,qy,qn⟩:=h
  obtain ⟨b0,b1,b2,b3⟩:=kd.bd hfit.ok
  have hrl:kd.rm.1=(xs.length:Int):=by rw [hxl]; omega
  refine hc_ (ρ':=[.v (.tr kd.x),.v (.tr (.lst (xs.map Dx.int))),.un]) (fun Q q => ?_) ?_
  · refine ⟨kd, rfl, hfit.ok, hd, hn, ?_⟩
    exact ⟨xs,by rw [← hrl]; rfl,hxb,by omega,q⟩
  · refine ⟨kd, vd, xs, 0, rfl, hfit, hval, hd, hn, by decide, by omega, hag, ?_⟩
    dsimp only
    refine ⟨kd,vd,(kd.vx vd).own.d,rfl,by rw [own_d]; exact hj_ kd vd hfit hval,hfit,hval,hd,hn,hrm,?_⟩
    refine ⟨kd.byt vd,xs,rfl,rfl,?_⟩
    by_cases e:xs=kd.byt vd
    · show if (!decide (kd.byt vd = xs)) = true then _ else _
      rw [decide_eq_true e.symm]
      show Q (.tr (kd.vx vd).own.d)
      rw [own_d]
      exact qy e
    · show if (!decide (kd.byt vd = xs)) = true then _ else _
      rw [decide_eq_false fun z=>e z.symm]
      exact qn e
end
def gFB (n:Nat):GC:=fun ds Q => ∃ kd:Kd,ds=[kd.x]∧kd.Fit∧kd.deep≤n∧n≤11∧kd.rm.1≤100000∧Q (.ol (kd.fil.map Dx.bl))
def gFS (n:Nat):GC:=fun ds Q => ∃ kd:Kd,ds=[kd.x]∧kd.Fit∧kd.deep≤n∧n≤11∧up kd.rm.1 kd.rm.2≤100000∧Q (.ol ((overlay (List.replicate (up kd.rm.1 kd.rm.2).toNat false) 0 kd.fil).map Dx.bl))
def gFR (n:Nat):GC:=fun ds Q => ∃ fs:List (Str×Kd),ds=[(Kd.rcd fs).x]∧(Kd.rcd fs).Fit∧deepF fs≤n∧n≤11∧(Kd.rcd fs).rm.1≤100000∧Q (.ol ((Kd.rcd fs).fil.map Dx.bl))
def gFC (n:Nat):GC:=fun ds Q => ∃ ks:List Kd,ds=[(Kd.cho ks).x]∧(Kd.cho ks).Fit∧deepK ks≤n∧n≤11∧(Kd.cho ks).rm.1≤100000∧Q (.ol ((Kd.cho ks).fil.map Dx.bl))
def gFI (n:Nat):GB:=fun l ds Q => ∃ (bs:List Bool) (p:Int) (kd:Kd),l=bs.map Dx.bl∧ds=[.int p,kd.x]∧kd.Fit∧kd.deep≤n∧n≤11∧0≤p∧p + kd.rm.1≤(bs.length:Int)∧bs.length≤100000∧Q .non ((overlay bs p.toNat kd.fil).map Dx.bl)
def hoX (hs:List (Nat×Nat)):List Dx:=hs.map fun h=>.tup [.int (h.1:Int),.int (h.2:Int)]
def gHO (n:Nat):GC:=fun ds Q => ∃ kd:Kd,ds=[kd.x]∧kd.Fit∧kd.deep≤n∧n≤11∧kd.rm.1≤100000∧Q (.ol (hoX (holes kd.fil)))
theorem hoX_snoc (hs:List (Nat×Nat)) (h:Nat×Nat):hoX (hs ++ [h])=hoX hs ++ [.tup [.int (h.1:Int),.int (h.2:Int)]]:=by unfold hoX; rw [List.map_append]; rfl
theorem bl_rep (n:Nat) (b:Bool):(List.replicate n (List.map Sv.d [Sv.tr (Dx.bl b)])).flatten=(List.replicate n b).map Dx.bl:=by show (List.replicate n [Dx.bl b]).flatten=_; rw [ii_,List.map_replicate]
theorem hgo_len:∀ (l:List Bool) (p b:Nat),(hgo p b l).length≤l.length + 1
  | [],p,b=>by unfold hgo; split <;> simp
  | true :: r,p,b=>by unfold hgo; rw [List.length_append]; have:=hgo_len r (p + 1) (p + 1); rw [List.length_cons]; split <;> simp <;> omega
  | false :: r,p,b=>by unfold hgo; have:=hgo_len r (p + 1) b; rw [List.length_cons]; omega
theorem filF_snoc:∀ {ps:List Int} {fs:List (Str×Kd)} {p:Int} {f:Str×Kd} {l:List Bool},ps.length=fs.length→filF (ps ++ [p]) (fs ++ [f]) l=overlay (filF ps fs l) p.toNat f.2.fil
  | [],[],_,_,_,_=>by simp [filF]
  | q :: ps, g :: fs, p, f, l, h => by
    show filF (ps ++ [p]) (fs ++ [f]) _=overlay (filF ps fs _) _ _
    exact filF_snoc (by simpa using h)
  | [],_ :: _,_,_,_,h=>by simp at h
  | _ :: _,[],_,_,_,h=>by simp at h
theorem filK_snoc:∀ {ks:List Kd} {k:Kd} {p:Nat} {l:List Bool},filK p (ks ++ [k]) l=overlay (filK p ks l) p k.fil
  | [],_,_,_=>by simp [filK]
  | g :: ks, k, p, l => by
    show filK p (ks ++ [k]) _=overlay (filK p ks _) _ _
    exact filK_snoc
section
variable {P:Program} {w:World} {K:FG_} {mg:MG_} {base:Heap} {f:Addr} {fd:FuncData} {n j jR jP:Nat}
theorem okx_fi (F:Fun K "fill" "fill" s_fill f fd) (CFB:Cal P w K mg base j "filled_bytes" ["kind"] (spX (gFB n))) (m_enumerate:mg "enumerate" = none):FnOk P w K mg base CX0 (j + 1) f fd ["filled", "place", "kind"] (spB (gFI n)):=by
  refine fn_b F sc_fill (fun l ds Q h=>by obtain ⟨_,_,_,_,rfl,_⟩:=h; rfl) (by decide) fun cdv A outer s H E hr => ?_
  refine ⟨_,(af_ (ck_ PassesOwn.never rfl (xi_enum m_enumerate (aa_ (ag_ CFB (hr.mono (by omega)) (aa_ (ab_ (pv 2)) ac_)) ac_)) (fg_ rfl (aq_ (aj_ (i:=3) sc_fill.nd rfl (Or.inl rfl)) (aq_ (aj_ (i:=4) sc_fill.nd rfl (Or.inl rfl)) bv_))) (ee_ (n:=99) (is:=[3,4]) rfl (by decide)) (af_ (bd_ (dn_ (ab_ (pv 4))) (af_ (fb_ fun F=>PS.weak (fw_ (XE.at (Ex:=noEx) F fa_) (gj_ (pv 0) (XE.at (Ex:=noEx) F (bf_ (ab_ (pv 1)) (ab_ (pv 3)))) dg_)) fy_)) ar_)))),fun l ds Q h => ?_⟩
  obtain ⟨xs,p,kd,rfl,rfl,hF,hd,hn,h0,h1,h2,q⟩:=h
  obtain ⟨b0,b1,b2,b3⟩:=kd.bd hF.ok
  have hfl:=Kd.fil_len hF.ok
  refine ⟨kd,rfl,hF,hd,hn,by omega,?_⟩
  generalize kd.fil=ys at *
  show forX _ _ _ (enuX (ys.map Dx.bl)) _
  rw [hv_]
  refine bc_ _ (fun rest ρ => ∃ (i:Nat) (y3 y4:Sl),rest=((List.range ys.length).zip ys).drop i∧i≤ys.length∧ρ=[.bw ((overlay xs p.toNat (ys.take i)).map Dx.bl),.v (.tr (.int p)),.v (.tr kd.x),y3,y4]) (fun ρ h => ?_) (fun a rest ρ Kn h hk => ?_) ⟨0,.un,.un,rfl,Nat.zero_le _,by rw [List.take_zero,overlay_nil]; rfl⟩
  · obtain ⟨i, y3, y4, e, hi, rfl⟩ := h
    have hz:((List.range ys.length).zip ys).length=ys.length:=by rw [List.length_zip,List.length_range]; omega
    have hge:=List.drop_eq_nil_iff.mp e.symm
    rw [hz] at hge
    have:i=ys.length:=by omega
    subst this
    rw [List.take_length]
    exact q
  · obtain ⟨i, y3, y4, e, hi, rfl⟩ := h
    obtain ⟨e1,e2⟩:=bo_ e
    obtain ⟨e3,e4⟩:=ih_ e1
    have hil:=(List.getElem?_eq_some_iff.mp e4).1
    have hlen:((overlay xs p.toNat (ys.take i)).map Dx.bl).length=xs.length:=by rw [List.length_map,bw_]
    have htl:(ys.take i).length=i:=by rw [List.length_take]; omega
    have hix:ixN ((overlay xs p.toNat (ys.take i)).map Dx.bl).length (p + (0 + (a.1:Int)))=some (p.toNat + i):=by
      rw [is_ (by omega) (by rw [hlen]; omega)]
      congr 1
      omega
    have hk':=hk [.bw ((overlay xs p.toNat (ys.take (i + 1))).map Dx.bl),.v (.tr (.int p)),.v (.tr kd.x),.v (.tr (.int (0 + (a.1:Int)))),.v (.tr (.bl a.2))] ⟨i + 1,_,_,e2,hil,rfl⟩
    rw [bu_ e4,overlay_snoc (by rw [htl]; omega),htl] at hk'
    cases hb:a.2 with
    | true =>
      rw [hb,if_pos rfl,List.map_set] at hk'
      simp only [xSeq,xNext,xIf,xB,xOp,xVar,xC,xRet,xCall,xCons,xNil,xFor,xSetI,addX,gxT,gxs,retB,lentEnd,startX,startB,cw_,cv_,len3,at10,at20,at21,at30,at31,at32,at40,at41,at42,at43,ix30,ix31,ix32,List.getElem?_cons_zero,List.getElem?_cons_succ,List.set_cons_zero,List.set_cons_succ,Sv.d,List.map_cons,List.map_nil,Option.bind_some,Option.isSome_some,List.cons_append,List.nil_append,List.length_cons,List.length_nil,List.replicate_succ,List.replicate_zero,Nat.reduceAdd,Nat.reduceSub,Nat.reduceLeDiff,true_and,decide_eq_true_eq,cut,caps,back,Option.getD_some,if_true,↓reduceIte,List.drop_succ_cons,List.drop_zero,hix,hb]
      exact hk'
    | false =>
      rw [hb,if_neg Bool.false_ne_true] at hk'
      simp only [xSeq,xNext,xIf,xB,xOp,xVar,xC,xRet,xCall,xCons,xNil,xFor,xSetI,addX,gxT,gxs,retB,lentEnd,startX,startB,cw_,cv_,len3,at10,at20,at21,at30,at31,at32,at40,at41,at42,at43,ix30,ix31,ix32,List.getElem?_cons_zero,List.getElem?_cons_succ,List.set_cons_zero,List.set_cons_succ,Sv.d,List.map_cons,List.map_nil,Option.bind_some,Option.isSome_some,List.cons_append,List.nil_append,List.length_cons,List.length_nil,List.replicate_succ,List.replicate_zero,Nat.reduceAdd,Nat.reduceSub,Nat.reduceLeDiff,true_and,decide_eq_true_eq,cut,caps,back,Option.getD_some,if_true,↓reduceIte,List.drop_succ_cons,List.drop_zero,hb]
      exact hk'
theorem okx_fs (F:Fun K "filled_step" "filled_step" di_ f fd) (CRO:Cal P w K mg base jR "room_of" ["kind"] (spX (gRO n))) (CSO:Cal P w K mg base 2 "step_of" ["room"] (spX gSO)) (CFI:Cal P w K mg base j "fill" ["filled", "place", "kind"] (spB (gFI n))) (hj:jR≤j) (hj2:2≤j):FnOk P w K mg base CX0 (j + 1) f fd ["kind"] (spX (gFS n)):=by
  refine ez_ F sc_filled_step (fun ds Q h=>by obtain ⟨_,rfl,_⟩:=h; rfl) (by decide) fun cdv A outer s H E hr => ?_
  refine ⟨_,(ae_ (ai_ fun F=>ak_ (i:=1) sc_filled_step.nd rfl (Or.inl rfl) (XE.at (Ex:=noEx) F (ch_ (by_ (aa_ fa_ ac_)) (ag_ CSO (hr.mono (by omega)) (aa_ (ag_ CRO (hr.mono (by omega)) (aa_ (ab_ (pv 0)) ac_)) ac_)))))
    (ae_ (gu_ (ap_ (i:=1) CFI (hr.mono (by omega)) (pv 1) (aa_ ad_ (aa_ (ab_ (pv 0)) ac_))))
    (af_ (an_ (cd_ (pv 1)))))),fun ds Q h => ?_⟩
  obtain ⟨kd,rfl,hF,hd,hn,hu,q⟩:=h
  obtain ⟨c0,c1,c2,c3⟩:=bd12 (n:=n) hF.ok (by omega) (by omega)
  obtain ⟨u1,u2⟩:=ao_ (n:=kd.rm.1) (m:=kd.rm.2) (by omega)
  refine ⟨len1,kd,rfl,hF.ok,by omega,by omega,kd.rm,rfl,c0,by omega,by omega,by omega,⟨by omega,by omega,by show 1 * _≤_; omega⟩,?_⟩
  rw [bl_rep]
  refine ⟨rfl,List.replicate (up kd.rm.1 kd.rm.2).toNat false,0,kd,rfl,rfl,hF,hd,hn,by decide,by rw [List.length_replicate]; omega,by rw [List.length_replicate]; omega,?_⟩
  exact q
theorem okx_fr (F:Fun K "filled_record" "filled_record" cq_ f fd) (CRO:Cal P w K mg base jR "room_of" ["kind"] (spX (gRO (n + 1)))) (CPO:Cal P w K mg base jP "places_in_order" ["fields"] (spX (gPO n))) (CFI:Cal P w K mg base j "fill" ["filled", "place", "kind"] (spB (gFI n))) (m_zip:mg "zip" = none) (hj:jR≤j) (hjP:jP≤j):FnOk P w K mg base CX0 (j + 1) f fd ["kind"] (spX (gFR n)):=by
  refine ez_ F sc_filled_record (fun ds Q h=>by obtain ⟨_,rfl,_⟩:=h; rfl) (by decide) fun cdv A outer s H E hr => ?_
  refine ⟨_,(ae_ (ai_ fun F=>ak_ (i:=1) sc_filled_record.nd rfl (Or.inl rfl) (XE.at (Ex:=noEx) F (ch_ (by_ (aa_ fa_ ac_)) (am_ K (ag_ CRO (hr.mono (by omega)) (aa_ (ab_ (pv 0)) ac_)) ad_ (fun _ _=>rfl)))))
    (ae_ (ck_ PassesOwn.never rfl (xi_zip m_zip (aa_ (am_ K (ab_ (pv 0)) ad_ (fun _ _=>rfl)) (aa_ (ag_ CPO (hr.mono (by omega)) (aa_ (am_ K (ab_ (pv 0)) ad_ (fun _ _=>rfl)) ac_)) ac_))) (fg_ rfl (aq_ (aj_ (i:=2) sc_filled_record.nd rfl (Or.inl rfl)) (aq_ (aj_ (i:=3) sc_filled_record.nd rfl (Or.inl rfl)) bv_))) (ee_ (n:=99) (is:=[2,3]) rfl (by decide)) (af_ (gu_ (ap_ (i:=1) CFI (hr.mono (by omega)) (pv 1) (aa_ (am_ K (ab_ (pv 3)) ad_ (fun _ _=>rfl)) (aa_ (am_ K (ab_ (pv 2)) ad_ (fun _ _=>rfl)) ac_))))))
    (af_ (an_ (cd_ (pv 1)))))),fun ds Q h => ?_⟩
  obtain ⟨fs,rfl,hF,hd,hn,hrm,q⟩:=h
  have hF':=hF
  obtain ⟨f1,f2,f3,hnd⟩:=hF
  have hok:=hd_ fs f1
  obtain ⟨b0,b1,b2,b3⟩:=(Kd.rcd fs).bd hF'.ok
  have hb:=bdF12 (n:=n) hok (by omega) (by omega)
  have hRms:Rms (rmF fs):=fun r hr=>⟨(hb r hr).1,by have:=(hb r hr).2.2.1; omega⟩
  obtain ⟨x0,x1⟩:=mx_bd hb
  obtain ⟨u1,u2⟩:=ao_ (n:=lastEnd 0 (rmF fs)) (m:=maxL 1 ((rmF fs).map (·.2))) (by omega)
  have hR':(Kd.rcd fs).rm.1=up (lastEnd 0 (rmF fs)) (maxL 1 ((rmF fs).map (·.2))):=rfl
  have hpl:=ew_ (fs:=fs)
  refine ⟨len1,.rcd fs,rfl,hF'.ok,by show deepF fs + 1≤n + 1; omega,by omega,⟨by omega,by omega,by show 1 * _≤_; omega⟩,?_⟩
  rw [bl_rep]
  dsimp only
  change xSeq _ _ [.v (.tr (Kd.rcd fs).x),.v (.ol ((List.replicate (Kd.rcd fs).rm.1.toNat false).map Dx.bl)),.un,.un] _
  refine ⟨fs,rfl,hok,by omega,by omega,by omega,?_⟩
  have ezz:zipX (xF fs) ((fs.zip (plcs 0 (rmF fs))).map fun x=>.tup [.str x.1.1,.int x.2])=(fs.zip (fs.zip (plcs 0 (rmF fs)))).map fun q=>.tup [.tup [.str q.1.1,q.1.2.x],.tup [.str q.2.1.1,.int q.2.2]]:=by rw [de_,df_]
  show forX _ _ _ (zipX (xF fs) ((fs.zip (plcs 0 (rmF fs))).map fun x=>.tup [.str x.1.1,.int x.2])) _
  rw [ezz]
  have hzl:(fs.zip (fs.zip (plcs 0 (rmF fs)))).length=fs.length:=by rw [List.length_zip,List.length_zip]; omega
  refine bc_ _ (fun rest ρ => ∃ (i:Nat) (y2 y3:Sl),rest=(fs.zip (fs.zip (plcs 0 (rmF fs)))).drop i∧i≤fs.length∧ρ=[.v (.tr (Kd.rcd fs).x),.v (.ol ((filF ((plcs 0 (rmF fs)).take i) (fs.take i) (List.replicate (Kd.rcd fs).rm.1.toNat false)).map Dx.bl)),y2,y3]) (fun ρ h => ?_) (fun a rest ρ Kn h hk => ?_) ⟨0,.un,.un,rfl,Nat.zero_le _,by simp only [List.take_zero,filF]; rfl⟩
  · obtain ⟨i, y2, y3, e, hi, rfl⟩ := h
    have hge:=List.drop_eq_nil_iff.mp e.symm
    rw [hzl] at hge
    have:i=fs.length:=by omega
    subst this
    have t1:(plcs 0 (rmF fs)).take fs.length=plcs 0 (rmF fs):=List.take_of_length_le (by omega)
    rw [t1,List.take_length]
    simp only [Kd.fil] at q
    exact q
  · obtain ⟨i, y2, y3, e, hi, rfl⟩ := h
    obtain ⟨e1,e2⟩:=bo_ e
    obtain ⟨e5,e4⟩:=List.getElem?_zip_eq_some.mp e1
    obtain ⟨e7,e8⟩:=List.getElem?_zip_eq_some.mp e4
    have hil:=(List.getElem?_eq_some_iff.mp e5).1
    obtain ⟨ff,fdp⟩:=fitFx f1 (List.mem_of_getElem? e5)
    obtain ⟨l1,l2⟩:=cx_ (e:=0) hRms (ff_ e5) e8
    have hk':=hk [.v (.tr (Kd.rcd fs).x),.v (.ol ((filF ((plcs 0 (rmF fs)).take (i + 1)) (fs.take (i + 1)) (List.replicate (Kd.rcd fs).rm.1.toNat false)).map Dx.bl)),.v (.tr (.tup [.str a.1.1,a.1.2.x])),.v (.tr (.tup [.str a.2.1.1,.int a.2.2]))] ⟨i + 1,_,_,e2,hil,rfl⟩
    rw [bu_ e5,bu_ e8,filF_snoc (by rw [List.length_take,List.length_take]; omega)] at hk'
    exact ⟨rfl,_,a.2.2,a.1.2,rfl,rfl,ff,by omega,by omega,l2,by rw [hs_,List.length_replicate]; omega,by rw [hs_,List.length_replicate]; omega,hk'⟩
theorem okx_fc (F:Fun K "filled_choice" "filled_choice" cr_ f fd) (CRO:Cal P w K mg base jR "room_of" ["kind"] (spX (gRO (n + 1)))) (CCA:Cal P w K mg base 2 "chosen_at" ["multiple"] (spX gCA)) (CFI:Cal P w K mg base j "fill" ["filled", "place", "kind"] (spB (gFI n))) (hj:jR≤j) (hj2:2≤j):FnOk P w K mg base CX0 (j + 1) f fd ["kind"] (spX (gFC n)):=by
  refine ez_ F sc_filled_choice (fun ds Q h=>by obtain ⟨_,rfl,_⟩:=h; rfl) (by decide) fun cdv A outer s H E hr => ?_
  refine ⟨_,(ae_ (ai_ fun F=>ak_ (i:=1) sc_filled_choice.nd rfl (Or.inl rfl) (XE.at (Ex:=noEx) F (ag_ CRO (hr.mono (by omega)) (aa_ (ab_ (pv 0)) ac_))))
    (ae_ (ai_ fun F=>ak_ (i:=2) sc_filled_choice.nd rfl (Or.inl rfl) (XE.at (Ex:=noEx) F (ch_ (by_ (aa_ fa_ ac_)) (am_ K (ab_ (pv 1)) ad_ (fun _ _=>rfl)))))
    (ae_ (fb_ fun F=>PS.weak (fw_ (XE.at (Ex:=noEx) F fa_) (gj_ (pv 2) (XE.at (Ex:=noEx) F ad_) dg_)) fy_)
    (ae_ (ck_ PassesOwn.never rfl (bk_ (am_ K (ab_ (pv 0)) ad_ (fun _ _=>rfl))) (aj_ (i:=3) sc_filled_choice.nd rfl (Or.inl rfl)) (bi_ (n:=99) (i:=3) (by decide)) (af_ (gu_ (ap_ (i:=2) CFI (hr.mono (by omega)) (pv 2) (aa_ (ag_ CCA (hr.mono (by omega)) (aa_ (am_ K (ab_ (pv 1)) ad_ (fun _ _=>rfl)) ac_)) (aa_ (ab_ (pv 3)) ac_))))))
    (af_ (an_ (cd_ (pv 2)))))))),fun ds Q h => ?_⟩
  obtain ⟨ks,rfl,hF,hd,hn,hrm,q⟩:=h
  have hF':=hF
  obtain ⟨f1,f2,f3⟩:=hF
  obtain ⟨b0,b1,b2,b3⟩:=(Kd.cho ks).bd hF'.ok
  have x0:1≤maxL 1 ((rmK ks).map (·.2)):=ed_ _
  obtain ⟨u1,u2⟩:=ao_ (n:=up 1 (maxL 1 ((rmK ks).map (·.2))) + maxL 0 ((rmK ks).map (·.1))) (m:=maxL 1 ((rmK ks).map (·.2))) (by omega)
  rw [dz_ x0] at u1 u2
  have y0:0≤maxL 0 ((rmK ks).map (·.1)):=ed_ _
  have eR:(Kd.cho ks).rm.1=up (maxL 1 ((rmK ks).map (·.2)) + maxL 0 ((rmK ks).map (·.1))) (maxL 1 ((rmK ks).map (·.2))):=by show up (up 1 _ + _) _=_; rw [dz_ x0]
  have eM:(Kd.cho ks).rm.2=maxL 1 ((rmK ks).map (·.2)):=rfl
  have eu:up 1 (Kd.cho ks).rm.2=(Kd.cho ks).rm.2:=by rw [eM]; exact dz_ x0
  refine ⟨.cho ks,rfl,hF'.ok,by show deepK ks + 1≤n + 1; omega,by omega,?_⟩
  refine ⟨len1,⟨by omega,by omega,by show 1 * _≤_; omega⟩,?_⟩
  rw [bl_rep]
  have hlen:((List.replicate (Kd.cho ks).rm.1.toNat false).map Dx.bl).length=(Kd.cho ks).rm.1.toNat:=by rw [List.length_map,List.length_replicate]
  have hix:ixN ((List.replicate (Kd.cho ks).rm.1.toNat false).map Dx.bl).length 0=some 0:=by rw [is_ (by decide) (by rw [hlen]; omega)]; rfl
  dsimp only
  change xSeq _ _ [.v (.tr (Kd.cho ks).x),.v (.tr (prT (Kd.cho ks).rm)),.v (.ol ((List.replicate (Kd.cho ks).rm.1.toNat false).map Dx.bl)),.un] _
  refine dy_ (fun ρ=>ρ=[.v (.tr (Kd.cho ks).x),.v (.tr (prT (Kd.cho ks).rm)),.v (.ol (((List.replicate (Kd.cho ks).rm.1.toNat false).set 0 true).map Dx.bl)),.un]) ?_ (fun D2 hD2 => ?_)
  · rintro ρ rfl
    show forX _ _ _ (xK ks) _
    rw [da_]
    refine bc_ _ (fun rest ρ => ∃ (i:Nat) (y3:Sl),rest=ks.drop i∧i≤ks.length∧ρ=[.v (.tr (Kd.cho ks).x),.v (.tr (prT (Kd.cho ks).rm)),.v (.ol ((filK (up 1 (Kd.cho ks).rm.2).toNat (ks.take i) ((List.replicate (Kd.cho ks).rm.1.toNat false).set 0 true)).map Dx.bl)),y3]) (fun ρ h => ?_) (fun k rest ρ Kn h hk => ?_) ⟨0,.un,rfl,Nat.zero_le _,by simp only [List.take_zero,filK]; rfl⟩
    · obtain ⟨i, y3, e, hi, rfl⟩ := h
      have hge:=List.drop_eq_nil_iff.mp e.symm
      have:i=ks.length:=by omega
      subst this
      rw [List.take_length]
      simp only [Kd.fil] at q
      exact q
    · obtain ⟨i, y3, e, hi, rfl⟩ := h
      obtain ⟨e5,e2⟩:=bo_ e
      have hil:=(List.getElem?_eq_some_iff.mp e5).1
      obtain ⟨kf,kdp⟩:=fitKx f1 (List.mem_of_getElem? e5)
      have hrk:k.rm∈rmK ks:=List.mem_of_getElem? (rmK_at e5)
      have hl1:k.rm.1≤maxL 0 ((rmK ks).map (·.1)):=hb_ (List.mem_map_of_mem hrk)
      have hk':=hk [.v (.tr (Kd.cho ks).x),.v (.tr (prT (Kd.cho ks).rm)),.v (.ol ((filK (up 1 (Kd.cho ks).rm.2).toNat (ks.take (i + 1)) ((List.replicate (Kd.cho ks).rm.1.toNat false).set 0 true)).map Dx.bl)),.v (.tr k.x)] ⟨i + 1,_,e2,hil,rfl⟩
      rw [bu_ e5,filK_snoc] at hk'
      refine ⟨rfl,(Kd.cho ks).rm.2,rfl,by omega,by omega,?_⟩
      exact ⟨_,up 1 (Kd.cho ks).rm.2,k,rfl,rfl,kf,by omega,by omega,by rw [eu]; omega,by rw [hq_,List.length_set,List.length_replicate,eu,eM]; omega,by rw [hq_,List.length_set,List.length_replicate]; omega,hk'⟩
  · have := hD2 _ rfl
    rw [List.map_set] at this
    simp only [xSeq,xNext,xOp,xVar,xMove,xC,xSet,xRet,xExp,xCall,xCallB,xCons,xNil,xLst,xFor,xiL,xSetI,ixX,mulX,gxN,retB,lentEnd,startX,startB,cw_,cv_,len3,at10,at20,at21,at30,at31,at32,at40,at41,at42,at43,ix30,ix31,ix32,List.getElem?_cons_zero,List.getElem?_cons_succ,List.set_cons_zero,List.set_cons_succ,Sv.d,List.map_cons,List.map_nil,Option.bind_some,Option.isSome_some,List.cons_append,List.nil_append,List.length_cons,List.length_nil,List.replicate_succ,List.replicate_zero,Nat.reduceAdd,Nat.reduceSub,Nat.reduceLeDiff,true_and,decide_eq_true_eq,cut,caps,back,Option.getD_some,if_true,↓reduceIte,List.drop_succ_cons,List.drop_zero,hix]
    exact this
theorem okx_fb (F:Fun K "filled_bytes" "filled_bytes" cz_ f fd) (CFS:Cal P w K mg base j "filled_step" ["kind"] (spX (gFS n))) (CFR:Cal P w K mg base j "filled_record" ["kind"] (spX (gFR n))) (CFC:Cal P w K mg base j "filled_choice" ["kind"] (spX (gFC n))):FnOk P w K mg base CX0 (j + 1) f fd ["kind"] (spX (gFB (n + 1))):=by
  refine ez_ F if_ (fun ds Q h=>by obtain ⟨_,rfl,_⟩:=h; rfl) (by decide) fun cdv A outer s H E hr => ?_
  have hu1:=dv_ hr
  have hu0:=Nat.lt_of_succ_lt hu1
  refine ⟨_,(ae_ (bd_ (av_ (bs_ K hu0) cs_ (am_ K (ab_ (pv 0)) ad_ (fun _ _=>rfl)) br_ (nomark _)) (af_ (an_ (ch_ (by_ (aa_ fa_ ac_)) (am_ K (ab_ (pv 0)) ad_ (fun _ _=>rfl))))) ar_)
    (ae_ (bd_ (av_ (bs_ K hu0) cs_ (am_ K (ab_ (pv 0)) ad_ (fun _ _=>rfl)) br_ (nomark _)) (af_ (an_ (ch_ (ag_ CFS (hr.mono (by omega)) (aa_ (am_ K (ab_ (pv 0)) ad_ (fun _ _=>rfl)) ac_)) (am_ K (ab_ (pv 0)) ad_ (fun _ _=>rfl))))) ar_)
    (ae_ (bd_ (av_ (bs_ K hu0) cs_ (am_ K (ab_ (pv 0)) ad_ (fun _ _=>rfl)) br_ (nomark _)) (af_ (an_ (ag_ CFR (hr.mono (by omega)) (aa_ (ab_ (pv 0)) ac_)))) ar_)
    (af_ (an_ (ag_ CFC (hr.mono (by omega)) (aa_ (ab_ (pv 0)) ac_))))))),fun ds Q h => ?_⟩
  obtain ⟨kd,rfl,hF,hd,hn,hrm,q⟩:=h
  cases kd with
  | num wd m =>
    have h1:=hF.1
    have h2:=hF.2.1
    refine ⟨len1,⟨by omega,by omega,by show 1 * _≤_; omega⟩,?_⟩
    rw [bl_rep]
    simp only [Kd.fil] at q
    exact q
  | row k m =>
    have hd':k.deep + 1≤n + 1:=hd
    obtain ⟨f1,f2,f3⟩:=hF
    obtain ⟨c0,c1,c2,c3⟩:=k.bd f1.ok
    obtain ⟨u1,u2⟩:=ao_ (n:=k.rm.1) (m:=k.rm.2) (by omega)
    have hR':(Kd.row k m).rm.1=m * up k.rm.1 k.rm.2:=rfl
    rw [hR'] at hrm
    have hup:1 * up k.rm.1 k.rm.2≤m * up k.rm.1 k.rm.2:=Int.mul_le_mul_of_nonneg_right (by omega) (by omega)
    have hprod:(up k.rm.1 k.rm.2).toNat * m.toNat≤100000:=by
      have:(((up k.rm.1 k.rm.2).toNat * m.toNat:Nat):Int)=m * up k.rm.1 k.rm.2:=by push_cast; rw [Int.toNat_of_nonneg (by omega),Int.toNat_of_nonneg (by omega),Int.mul_comm]
      omega
    refine ⟨k,rfl,f1,by omega,by omega,by omega,⟨by omega,by omega,?_⟩,?_⟩
    · rw [List.length_map,bw_,List.length_replicate]; omega
    · simp only [Kd.fil] at q
      rw [List.map_flatten,List.map_replicate] at q
      exact q
  | rcd fs =>
    have hd':deepF fs + 1≤n + 1:=hd
    exact ⟨fs,rfl,hF,by omega,by omega,hrm,q⟩
  | cho ks =>
    have hd':deepK ks + 1≤n + 1:=hd
    exact ⟨ks,rfl,hF,by omega,by omega,hrm,q⟩
theorem fbx_none:FnOk P w K mg base CX0 j f fd ["kind"] (spX (gFB 0)):=fn_no fun ds Q h=>by
  obtain ⟨kd,_,_,hd,_⟩:=h
  have:=Kd.deep_pos kd
  omega
theorem okx_ho (F:Fun K "holes_of" "holes_of" gx_ f fd) (CFB:Cal P w K mg base j "filled_bytes" ["kind"] (spX (gFB n))) (m_enumerate:mg "enumerate" = none) (m_len:mg "len" = none):FnOk P w K mg base CX0 (j + 1) f fd ["kind"] (spX (gHO n)):=by
  refine ez_ F sc_holes_of (fun ds Q h=>by obtain ⟨_,rfl,_⟩:=h; rfl) (by decide) fun cdv A outer s H E hr => ?_
  refine ⟨_,(ae_ (ai_ fun F=>ak_ (i:=1) sc_holes_of.nd rfl (Or.inl rfl) (XE.at (Ex:=noEx) F (ag_ CFB (hr.mono (by omega)) (aa_ (ab_ (pv 0)) ac_))))
    (ae_ (ai_ fun F=>ak_ (i:=2) sc_holes_of.nd rfl (Or.inl rfl) (XE.at (Ex:=noEx) F (by_ ac_)))
    (ae_ (ai_ fun F=>ak_ (i:=3) sc_holes_of.nd rfl (Or.inl rfl) (XE.at (Ex:=noEx) F ad_))
    (ae_ (ck_ PassesOwn.never rfl (xi_enum m_enumerate (aa_ (ab_ (pv 1)) ac_)) (fg_ rfl (aq_ (aj_ (i:=4) sc_holes_of.nd rfl (Or.inl rfl)) (aq_ (aj_ (i:=5) sc_holes_of.nd rfl (Or.inl rfl)) bv_))) (ee_ (n:=99) (is:=[4,5]) rfl (by decide)) (af_ (bd_ (dn_ (ab_ (pv 5))) (ae_ (bd_ (av_ op_lt ox_lt (ab_ (pv 3)) (ab_ (pv 4)) (nomark _)) (af_ (fb_ fun F=>PS.weak (fz_ (pe_bm PySem.F.plainAttrs_list PySem.F.slot_list_append PySem.F.type_list_append fj_ (pv 2) (au_ (XE.at (Ex:=noEx) F (dx_ (aa_ (ab_ (pv 3)) (aa_ (ab_ (pv 4)) ac_)))) cf_))) tApp_x)) ar_)
    (af_ (ai_ fun F=>ak_ (i:=3) sc_holes_of.nd rfl (Or.inl rfl) (XE.at (Ex:=noEx) F (bf_ (ab_ (pv 4)) ad_))))) ar_)))
    (ae_ (bd_ (av_ op_lt ox_lt (ab_ (pv 3)) (az_ (cb_ K) fx_ (by rfl) m_len PySem.boot_len (aa_ (ab_ (pv 1)) ac_)) (nomark _)) (af_ (fb_ fun F=>PS.weak (fz_ (pe_bm PySem.F.plainAttrs_list PySem.F.slot_list_append PySem.F.type_list_append fj_ (pv 2) (au_ (XE.at (Ex:=noEx) F (dx_ (aa_ (ab_ (pv 3)) (aa_ (az_ (cb_ K) fx_ (by rfl) m_len PySem.boot_len (aa_ (ab_ (pv 1)) ac_)) ac_)))) cf_))) tApp_x)) ar_)
    (af_ (an_ (cd_ (pv 2))))))))),fun ds Q h => ?_⟩
  obtain ⟨kd,rfl,hF,hd,hn,hrm,q⟩:=h
  obtain ⟨b0,b1,b2,b3⟩:=kd.bd hF.ok
  have hfl:=Kd.fil_len hF.ok
  refine ⟨kd,rfl,hF,hd,hn,hrm,?_⟩
  generalize kd.fil=ys at *
  refine ⟨Nat.zero_le _,?_⟩
  dsimp only
  refine go_set ?_
  change xSeq _ _ [.v (.tr kd.x),.v (.ol (ys.map Dx.bl)),.v (.ol []),.v (.tr (.int 0)),.un,.un] _
  refine dy_ (fun ρ => ∃ (acc:List (Nat×Nat)) (b:Nat) (y4 y5:Sl),ρ=[.v (.tr kd.x),.v (.tr (.lst (ys.map Dx.bl))),.v (.ol (hoX acc)),.v (.tr (.int (b:Int))),y4,y5]∧holes ys=acc ++ hgo ys.length b []∧acc.length≤ys.length) ?_ (fun D2 hD2 => ?_)
  · rintro ρ ⟨acc, b, y4, y5, rfl, he, hal⟩
    have hll:(((ys.map Dx.bl).length:Nat):Int)=(ys.length:Int):=by rw [List.length_map]
    show if decide ((b:Int) < (((ys.map Dx.bl).length:Nat):Int))=true then _ else _
    rw [hll]
    unfold hgo at he
    by_cases hb:b < ys.length
    · rw [if_pos (decide_eq_true (by omega))]
      rw [if_pos hb] at he
      refine ⟨rfl,by show 2≤1000000; decide,by unfold hoX; rw [List.length_map]; omega,?_⟩
      rw [he,hoX_snoc] at q
      show Q (.ol (hoX acc ++ [.tup [.int (b:Int),.int (((ys.map Dx.bl).length:Nat):Int)]]))
      rw [hll]
      exact q
    · rw [if_neg (by simpa using (by omega : ¬ (b : Int) < (ys.length : Int)))]
      rw [if_neg hb,List.append_nil] at he
      rw [he] at q
      exact q
  · show forX _ _ _ (enuX (ys.map Dx.bl)) _
    rw [hv_]
    refine bc_ _ (fun rest ρ => ∃ (i b:Nat) (acc:List (Nat×Nat)) (y4 y5:Sl),rest=((List.range ys.length).zip ys).drop i∧i≤ys.length∧b≤i∧holes ys=acc ++ hgo i b (ys.drop i)∧acc.length≤i∧ρ=[.v (.tr kd.x),.v (.tr (.lst (ys.map Dx.bl))),.v (.ol (hoX acc)),.v (.tr (.int (b:Int))),y4,y5]) (fun ρ h => ?_) (fun a rest ρ Kn h hk => ?_) ⟨0,0,[],.un,.un,rfl,Nat.zero_le _,Nat.zero_le _,rfl,Nat.zero_le _,rfl⟩
    · obtain ⟨i, b, acc, y4, y5, e, hi, hbi, he, hal, rfl⟩ := h
      have hz:((List.range ys.length).zip ys).length=ys.length:=by rw [List.length_zip,List.length_range]; omega
      have hge:=List.drop_eq_nil_iff.mp e.symm
      rw [hz] at hge
      have:i=ys.length:=by omega
      subst this
      rw [List.drop_length] at he
      exact hD2 _ ⟨acc,b,y4,y5,rfl,he,hal⟩
    · obtain ⟨i, b, acc, y4, y5, e, hi, hbi, he, hal, rfl⟩ := h
      obtain ⟨e1,e2⟩:=bo_ e
      obtain ⟨e3,e4⟩:=ih_ e1
      have hil:=(List.getElem?_eq_some_iff.mp e4).1
      have hdr:ys.drop i=a.2 :: ys.drop (i + 1):=by
        rw [List.drop_eq_getElem_cons hil]
        congr 1
        exact Option.some.inj ((List.getElem?_eq_getElem hil).symm.trans e4)
      rw [hdr] at he
      have ea:(0:Int) + (a.1:Int)=(i:Int):=by rw [e3]; omega
      cases hb:a.2 with
      | false =>
        rw [hb] at he
        simp only [hgo] at he
        have hk':=hk [.v (.tr kd.x),.v (.tr (.lst (ys.map Dx.bl))),.v (.ol (hoX acc)),.v (.tr (.int (b:Int))),.v (.tr (.int (0 + (a.1:Int)))),.v (.tr (.bl false))] ⟨i + 1,b,acc,_,_,e2,hil,by omega,he,by omega,rfl⟩
        exact hk'
      | true =>
        rw [hb] at he
        simp only [hgo] at he
        by_cases hlt:b < i
        · rw [if_pos hlt, ← List.append_assoc] at he
          have hk':=hk [.v (.tr kd.x),.v (.tr (.lst (ys.map Dx.bl))),.v (.ol (hoX (acc ++ [(b,i)]))),.v (.tr (.int ((i + 1:Nat):Int))),.v (.tr (.int (i:Int))),.v (.tr (.bl true))] ⟨i + 1,i + 1,acc ++ [(b,i)],_,_,e2,hil,Nat.le_refl _,he,by rw [List.length_append]; show acc.length + 1≤_; omega,rfl⟩
          rw [hoX_snoc] at hk'
          rw [ea]
          show if decide ((b:Int) < (i:Int))=true then _ else _
          rw [if_pos (decide_eq_true (by omega))]
          exact ⟨rfl,by show 2≤1000000; decide,by unfold hoX; rw [List.length_map]; omega,hk'⟩
        · rw [if_neg hlt, List.nil_append] at he
          have hk':=hk [.v (.tr kd.x),.v (.tr (.lst (ys.map Dx.bl))),.v (.ol (hoX acc)),.v (.tr (.int ((i + 1:Nat):Int))),.v (.tr (.int (i:Int))),.v (.tr (.bl true))] ⟨i + 1,i + 1,acc,_,_,e2,hil,Nat.le_refl _,he,by omega,rfl⟩
          rw [ea]
          show if decide ((b:Int) < (i:Int))=true then _ else _
          rw [if_neg (by simpa using (by omega:¬ (b:Int) < (i:Int)))]
          exact hk'
end
theorem sc_law_refusedE:FnScope ["kind", "row", "caught", "e"] ["kind", "row"] (defScope eq_):=⟨rfl,rfl,rfl,by decide +kernel,rfl,by decide +kernel,by decide +kernel⟩
def gRF (n:Nat):GC:=fun ds Q => ∃ (kd:Kd) (vd:Vd) (xs:List Int),ds=[kd.x,.lst (xs.map Dx.int)]∧kd.Fit∧kd.Val vd∧kd.deep≤n∧n≤12∧kd.rm.1≤100000∧xs.length=kd.rm.1.toNat∧(∀ b∈xs,0≤b∧b < 256)∧kd.Ag xs 0 vd∧xs≠kd.byt vd∧Q (.tr (.bl true))
mutual
def Kd.cz:Kd→Bool
  | .num _ _=>false
  | .row k _=>k.cz
  | .rcd fs=>czF fs
  | .cho _=>true
def czF:List (Str×Kd)→Bool
  | []=>false
  | f :: r=>f.2.cz || czF r
end
theorem czF_any:∀ fs:List (Str×Kd),czF fs=fs.any fun f=>f.2.cz
  | []=>by simp [czF]
  | f :: r=>by simp only [czF,List.any_cons]; rw [czF_any r]
def gLC (n:Nat):GC:=fun ds Q => ∃ kd:Kd,ds=[kd.x]∧kd.Fit∧kd.deep≤n∧Q (.tr (.bl kd.cz))
section
variable {P:Program} {w:World} {K:FG_} {mg:MG_} {base:Heap} {f:Addr} {fd:FuncData} {n j jR jB:Nat}
theorem okx_rf (F:Fun K "_law_refused" "_law_refused" eq_ f fd) {C_NoBytes:Addr} (O_NoBytes:PyProof.Rows.OwnCls "NoBytes" C_NoBytes veM "ValueError.__new__" mg base) (hun:Under base C_NoBytes C_NoBytes) (CVE:CalE P w K mg base j "value_of" ["kind", "thing"] (spE (gVE C_NoBytes n))):FnOk P w K mg base CX0 (j + 1) f fd ["kind", "row"] (spX (gRF n)):=by
  refine ez_ F sc_law_refusedE (fun ds Q h=>by obtain ⟨_,_,_,rfl,_⟩:=h; rfl) (by decide) fun cdv A outer s H E hr => ?_
  have hu1:=dv_ hr
  have hu0:=Nat.lt_of_succ_lt hu1
  refine ⟨_,(ae_ (ai_ fun F=>ak_ (i:=2) sc_law_refusedE.nd rfl (Or.inl rfl) (XE.at (Ex:=noEx) F xe_non))
    (ae_ (xs_try (jn:=3) (xq_exp fun _ _ _ _=>pe_callT CVE (hr.mono (by omega)) (aa_ (ab_ (pv 0)) (aa_ (ab_ (pv 1)) ac_))) O_NoBytes rfl rfl (by rfl) sc_law_refusedE.nd rfl (by rfl) (fun _=>(af_ (ai_ fun F=>ak_ (i:=2) sc_law_refusedE.nd rfl (Or.inl rfl) (XE.at (Ex:=noEx) F (ab_ (pv 3)))))))
    (af_ (an_ (ia_ op_notN ox_notN (ab_ (pv 2)) xe_non (nomark _)))))),fun ds Q h => ?_⟩
  obtain ⟨kd,vd,xs,rfl,hfit,hval,hd,hn,hrm,hxl,hxb,hag,hne,q⟩:=h
  refine ⟨kd,vd,xs,rfl,hfit,hval,hd,hn,hrm,hxl,hxb,hag,fun e=>absurd e hne,fun _ => ?_⟩
  exact ⟨⟨C_NoBytes,rfl,hun⟩,q⟩
theorem okx_lc (F:Fun K "_law_chooses" "_law_chooses" co_ f fd) (CLC:Cal P w K mg base j "_law_chooses" ["kind"] (spX (gLC n))):FnOk P w K mg base CX0 (j + 1) f fd ["kind"] (spX (gLC (n + 1))):=by
  refine ez_ F sc_law_chooses (fun ds Q h=>by obtain ⟨_,rfl,_⟩:=h; rfl) (by decide) fun cdv A outer s H E hr => ?_
  have hu1:=dv_ hr
  have hu0:=Nat.lt_of_succ_lt hu1
  refine ⟨_,(ae_ (bd_ (av_ (bs_ K hu0) cs_ (am_ K (ab_ (pv 0)) ad_ (fun _ _=>rfl)) br_ (nomark _)) (af_ (an_ fa_)) ar_)
    (ae_ (bd_ (av_ (bs_ K hu0) cs_ (am_ K (ab_ (pv 0)) ad_ (fun _ _=>rfl)) br_ (nomark _)) (af_ (an_ (ag_ CLC (hr.mono (by omega)) (aa_ (am_ K (ab_ (pv 0)) ad_ (fun _ _=>rfl)) ac_)))) ar_)
    (ae_ (bd_ (av_ (bs_ K hu0) cs_ (am_ K (ab_ (pv 0)) ad_ (fun _ _=>rfl)) br_ (nomark _)) (af_ (an_ fa_)) ar_)
    (af_ (an_ (ia_ (op_neA K hu0) ox_ne (ce_ (dsc:=defScope co_) (N:=["kind"]) (tgs:=["name", "inner"]) (outs:=[]) (N':=["name", "inner"]) (by refine ⟨rfl,?_,?_,?_,rfl,?_,?_,?_⟩ <;> decide +kernel) (bk_ (am_ K (ab_ (pv 0)) ad_ (fun _ _=>rfl))) (fun _ _ _ _ _=>(pg_tupK K (n:=2) rfl rfl (aq_ (aj_ (i:=0) (show (["name", "inner"]:List Str).Nodup by decide +kernel) rfl (Or.inl rfl) (.inr rfl)) (aq_ (aj_ (i:=1) (show (["name", "inner"]:List Str).Nodup by decide +kernel) rfl (Or.inl rfl) (.inr rfl)) bv_)))) (ee_ (n:=2) (is:=[0,1]) rfl (by decide)) (tgt_tup (bn_ (by decide) (bn_ (by decide) en_ bm_) (ct_ bm_))) (fun _ _ _ _ _=>(xcs_one (dn_ (ag_ CLC (hr.mono (by omega)) (aa_ (ab_ (pv 1)) ac_))))) (fun _ _ _ _ _=>ad_)) (by_ ac_) (nomark _))))))),fun ds Q h => ?_⟩
  obtain ⟨kd,rfl,hF,hd,q⟩:=h
  cases kd with
  | num wd m=>simp only [Kd.cz] at q; exact q
  | row k m =>
    have hd':k.deep + 1≤n + 1:=hd
    simp only [Kd.cz] at q
    exact ⟨k,rfl,hF.1,by omega,q⟩
  | rcd fs =>
    have hd':deepF fs + 1≤n + 1:=hd
    simp only [Kd.cz,czF_any] at q
    show (xF fs).length≤1000000∧compX _ _ _ _ _ (xF fs) _ _
    rw [de_]
    have f3:=hF.2.2.1
    refine ⟨by rw [List.length_map]; omega,el_ _ (fun rest acc cs=>cs=[]∧(!acc.isEmpty || rest.any fun f=>f.2.cz)=(fs.any fun f=>f.2.cz)∧∀ f∈rest,f∈fs) (fun acc cs h => ?_) (fun a rest acc cs Pn h hk => ?_) ⟨rfl,rfl,fun a h=>h⟩⟩
    · obtain ⟨rfl, h1, _⟩ := h
      rw [List.any_nil,Bool.or_false] at h1
      refine ⟨by decide,?_⟩
      show Q (.tr (.bl (!acc.isEmpty)))
      rw [h1]
      exact q
    · obtain ⟨rfl, h1, h2⟩ := h
      obtain ⟨ff,fd⟩:=fitFx hF.1 (h2 a List.mem_cons_self)
      rw [List.any_cons] at h1
      refine ⟨a.2,rfl,ff,by omega,?_⟩
      cases hc:a.2.cz with
      | true =>
        rw [hc,Bool.true_or,Bool.or_true] at h1
        refine hk _ _ ⟨rfl,?_,fun r hr=>h2 r (List.mem_cons_of_mem _ hr)⟩
        rw [← h1]
        have:(acc ++ [Dx.int 1]).isEmpty=false:=by cases acc <;> rfl
        show (!(acc ++ [Dx.int 1]).isEmpty || _)=true
        rw [this]
        rfl
      | false =>
        rw [hc,Bool.false_or] at h1
        exact hk _ _ ⟨rfl,h1,fun r hr=>h2 r (List.mem_cons_of_mem _ hr)⟩
  | cho ks=>simp only [Kd.cz] at q; exact q
end
theorem numB_numV:∀ (l:List Int),(∀ b∈l,0≤b∧b < 256)→numB l.length (numV l)=l
  | [],_=>rfl
  | b :: r, h => by
    obtain ⟨h1,h2⟩:=h b List.mem_cons_self
    show (b + 256 * numV r) % 256 :: numB r.length ((b + 256 * numV r) / 256)=b :: r
    rw [show (b + 256 * numV r) % 256=b from by omega,show (b + 256 * numV r) / 256=numV r from by omega,numB_numV r fun x hx=>h x (List.mem_cons_of_mem _ hx)]
theorem ex_list {Pp:Nat→Vd→Prop}:∀ (m:Nat),(∀ t,t < m→∃ v,Pp t v)→∃ vs:List Vd,vs.length=m∧∀ t v,vs[t]? = some v→Pp t v
  | 0,_=>⟨[],rfl,fun t v h=>by simp at h⟩
  | m + 1, h => by
    obtain ⟨vs,h1,h2⟩:=ex_list m fun t ht=>h t (by omega)
    obtain ⟨u,hu⟩:=h m (by omega)
    refine ⟨vs ++ [u],by rw [List.length_append,h1]; rfl,fun t v hv => ?_⟩
    by_cases ht:t < m
    · rw [List.getElem?_append_left (by omega)] at hv
      exact h2 t v hv
    · have htl := (List.getElem?_eq_some_iff.mp hv).1
      rw [List.length_append,h1] at htl
      have e:t=m:=by have:t < m + 1:=htl; omega
      subst e
      rw [List.getElem?_append_right (by omega),h1,Nat.sub_self] at hv
      cases hv
      exact hu
theorem valF_of:∀ {fs:List (Str×Kd)} {vs:List Vd},vs.length=fs.length→(∀ (t:Nat) (f:Str×Kd) (v:Vd),fs[t]? = some f→vs[t]? = some v→f.2.Val v)→valF fs vs
  | [],[],_,_=>by simp only [valF]
  | [],_ :: _,h,_=>by simp at h
  | _ :: _,[],h,_=>by simp at h
  | f :: r, v :: vs, h, k => by
    simp only [valF]
    exact ⟨k 0 f v rfl rfl,valF_of (by simpa using h) fun t g u e1 e2=>k (t + 1) g u (by simpa using e1) (by simpa using e2)⟩
theorem czF_at {fs:List (Str×Kd)} {f:Str×Kd} (h:czF fs=false) (hm:f∈fs):f.2.cz=false:=by
  rw [czF_any] at h
  cases hc:f.2.cz with
  | false=>rfl
  | true=>rw [List.any_eq_true.mpr ⟨f,hm,hc⟩] at h; cases h
theorem rms_fit {fs:List (Str×Kd)} (h:fitF fs):Rms (rmF fs):=fun r hr=>by
  obtain ⟨m,hm⟩:=List.getElem?_of_mem hr
  have hml:m < fs.length:=by have:=(List.getElem?_eq_some_iff.mp hm).1; rwa [lenF fs] at this
  have:=ff_ (List.getElem?_eq_getElem hml)
  rw [this] at hm
  cases hm
  obtain ⟨c0,c1,c2,c3⟩:=(fs[m]).2.bd (fitFx h (List.getElem_mem hml)).1.ok
  exact ⟨by omega,by omega⟩
theorem ag_surj {xs:List Int} (hb:∀ b∈xs,0≤b∧b < 256):∀ (n:Nat) (kd:Kd) (p:Nat),kd.deep≤n→kd.Fit→kd.cz=false→p + kd.rm.1.toNat≤xs.length→∃ v,kd.Val v∧kd.Ag xs p v
  | 0,kd,_,hd,_,_,_=>by have:=Kd.deep_pos kd; omega
  | n + 1, .num w m, p, hd, hf, hc, hl => by
    have hl':p + w.toNat≤xs.length:=hl
    have hlen:((xs.drop p).take w.toNat).length=w.toNat:=by rw [List.length_take,List.length_drop]; omega
    have hbs:∀ b∈(xs.drop p).take w.toNat,0≤b∧b < 256:=fun b h=>hb b (List.mem_of_mem_drop (List.mem_of_mem_take h))
    obtain ⟨n0,n1⟩:=numV_bd hbs
    have hw:=hf.1
    rw [hlen] at n1
    refine ⟨.num (numV ((xs.drop p).take w.toNat)),by simp only [Kd.Val]; exact ⟨n0,n1⟩,?_⟩
    simp only [Kd.Ag]
    have e:=numB_numV _ hbs
    rw [hlen] at e
    rw [e]
    refine AtP.of_get (by omega) fun i hi => ?_
    rw [List.getElem?_take_of_lt (by omega),List.getElem?_drop]
  | n + 1, .row k m, p, hd, hf, hc, hl => by
    have hd':k.deep + 1≤n + 1:=hd
    obtain ⟨f1,f2,f3⟩:=hf
    obtain ⟨c0,c1,c2,c3⟩:=k.bd f1.ok
    obtain ⟨u1,u2⟩:=ao_ (n:=k.rm.1) (m:=k.rm.2) (by omega)
    have hR:(Kd.row k m).rm.1.toNat=m.toNat * (up k.rm.1 k.rm.2).toNat:=by
      have:(Kd.row k m).rm.1=((m.toNat * (up k.rm.1 k.rm.2).toNat:Nat):Int):=by show m * up k.rm.1 k.rm.2=_; push_cast; rw [Int.toNat_of_nonneg (by omega),Int.toNat_of_nonneg (by omega)]
      rw [this,Int.toNat_natCast]
    rw [hR] at hl
    simp only [Kd.cz] at hc
    obtain ⟨vs,h1,h2⟩:=ex_list (Pp:=fun t v=>k.Val v∧k.Ag xs (p + t * (up k.rm.1 k.rm.2).toNat) v) m.toNat fun t ht=>by
      have hmul:(t + 1) * (up k.rm.1 k.rm.2).toNat≤m.toNat * (up k.rm.1 k.rm.2).toNat:=Nat.mul_le_mul_right _ ht
      rw [Nat.add_mul,Nat.one_mul] at hmul
      exact ag_surj hb n k _ (by omega) f1 hc (by omega)
    refine ⟨.row vs,?_,?_⟩
    · simp only [Kd.Val]
      refine ⟨by omega,fun v hv => ?_⟩
      obtain ⟨t,ht⟩:=List.getElem?_of_mem hv
      exact (h2 t v ht).1
    · simp only [Kd.Ag]
      exact fun t v ht=>(h2 t v ht).2
  | n + 1, .rcd fs, p, hd, hf, hc, hl => by
    have hd':deepF fs + 1≤n + 1:=hd
    have hf':=hf
    obtain ⟨f1,f2,f3,hnd⟩:=hf
    simp only [Kd.cz] at hc
    have hRms:=rms_fit f1
    have x0:1≤maxL 1 ((rmF fs).map (·.2)):=ed_ _
    obtain ⟨u1,u2⟩:=ao_ (n:=lastEnd 0 (rmF fs)) (m:=maxL 1 ((rmF fs).map (·.2))) (by omega)
    have hR':(Kd.rcd fs).rm.1=up (lastEnd 0 (rmF fs)) (maxL 1 ((rmF fs).map (·.2))):=rfl
    rw [hR'] at hl
    obtain ⟨vs,h1,h2⟩:=ex_list (Pp:=fun t v => ∀ (f:Str×Kd) (q:Int),fs[t]? = some f→(plcs 0 (rmF fs))[t]? = some q→f.2.Val v∧f.2.Ag xs (p + q.toNat) v) fs.length fun t ht=>by
      have e1:=List.getElem?_eq_getElem ht
      have e2:=List.getElem?_eq_getElem (l:=plcs 0 (rmF fs)) (i:=t) (by rw [ew_]; exact ht)
      obtain ⟨ff,fdp⟩:=fitFx f1 (List.mem_of_getElem? e1)
      obtain ⟨l1,l2⟩:=cx_ (e:=0) hRms (ff_ e1) e2
      obtain ⟨c0,c1,c2,c3⟩:=(fs[t]).2.bd ff.ok
      obtain ⟨v,hv⟩:=ag_surj hb n (fs[t]).2 (p + ((plcs 0 (rmF fs))[t]'(by rw [ew_]; exact ht)).toNat) (by omega) ff (czF_at hc (List.mem_of_getElem? e1)) (by omega)
      refine ⟨v,fun f q a1 a2 => ?_⟩
      rw [e1] at a1
      rw [e2] at a2
      cases a1
      cases a2
      exact hv
    have hq:∀ t,t < fs.length→∃ q,(plcs 0 (rmF fs))[t]? = some q:=fun t ht=>⟨_,List.getElem?_eq_getElem (by rw [ew_]; exact ht)⟩
    refine ⟨.rcd vs,?_,?_⟩
    · simp only [Kd.Val]
      refine valF_of h1 fun t f v e1 e2 => ?_
      obtain ⟨q,hq⟩:=hq t (List.getElem?_eq_some_iff.mp e1).1
      exact (h2 t v e2 f q e1 hq).1
    · simp only [Kd.Ag]
      exact agF_of ew_ h1 fun t f q v e1 e2 e3=>(h2 t v e3 f q e1 e2).2
  | n + 1,.cho ks,p,hd,hf,hc,hl=>by simp [Kd.cz] at hc
theorem bzF_ex:∀ {fs:List (Str×Kd)} {ps:List Int} {i:Nat},bzF ps fs i=true→∃ (t:Nat) (f:Str×Kd) (q:Int),fs[t]? = some f∧ps[t]? = some q∧q.toNat≤i∧f.2.bz (i - q.toNat)=true
  | [],_,_,h=>by simp [bzF] at h
  | _ :: _,[],_,h=>by simp [bzF] at h
  | f :: r, q :: ps, i, h => by
    unfold bzF at h
    rcases Bool.or_eq_true_iff.mp h with h | h
    · obtain ⟨a, b⟩ := Bool.and_eq_true_iff.mp h
      exact ⟨0,f,q,rfl,rfl,of_decide_eq_true a,b⟩
    · obtain ⟨t, g, q', a, b, c, d⟩ := bzF_ex h
      exact ⟨t + 1,g,q',by simpa using a,by simpa using b,c,d⟩
theorem ag_byt {xs:List Int}:∀ (n:Nat) (kd:Kd) (v:Vd) (p i:Nat),kd.deep≤n→kd.Fit→kd.cz=false→kd.Val v→kd.Ag xs p v→kd.bz i=true→(kd.byt v)[i]? = xs[p + i]?
  | 0,kd,_,_,_,hd,_,_,_,_,_=>by have:=Kd.deep_pos kd; omega
  | n + 1, .num w m, v, p, i, hd, hf, hc, hv, h, hz => by
    obtain ⟨x,rfl,_⟩:=val_num hv
    simp only [Kd.Ag] at h
    simp only [Kd.byt]
    rw [bz_num] at hz
    exact (h.get (by rw [ey_]; exact of_decide_eq_true hz)).symm
  | n + 1, .row k m, v, p, i, hd, hf, hc, hv, h, hz => by
    obtain ⟨vs,rfl,h1,h2⟩:=val_row hv
    have hd':k.deep + 1≤n + 1:=hd
    simp only [Kd.Ag] at h
    simp only [Kd.cz] at hc
    obtain ⟨j,j1,j2,j3⟩:=(bz_row hf.1.ok i).mp hz
    have e:=List.getElem?_eq_getElem (l:=vs) (i:=j) (by omega)
    have hu:=h2 _ (List.mem_of_getElem? e)
    have hlt:=Kd.bz_lt hf.1.ok j3
    have a:=(at_row hf hv e).get (i:=i - j * (up k.rm.1 k.rm.2).toNat) (by rw [Kd.byt_len hu]; exact hlt)
    rw [show j * (up k.rm.1 k.rm.2).toNat + (i - j * (up k.rm.1 k.rm.2).toNat)=i from by omega] at a
    rw [a,ag_byt n k _ _ _ (by omega) hf.1 hc hu (h j _ e) j3]
    congr 1
    omega
  | n + 1, .rcd fs, v, p, i, hd, hf, hc, hv, h, hz => by
    obtain ⟨vs,rfl,h2⟩:=val_rcd hv
    have hd':deepF fs + 1≤n + 1:=hd
    simp only [Kd.Ag] at h
    simp only [Kd.cz] at hc
    have hilt:=Kd.bz_lt hf.ok hz
    unfold Kd.bz at hz
    simp only [Kd.fil] at hz
    rw [ht_ _ _ _ _ (by rw [List.length_replicate]; exact hilt),List.getElem?_replicate] at hz
    have hz':bzF (plcs 0 (rmF fs)) fs i=true:=by
      rcases Bool.or_eq_true_iff.mp hz with z | z
      · split at z <;> simp at z
      · exact z
    obtain ⟨t,f,q,a1,a2,a3,a4⟩:=bzF_ex hz'
    have ht:=(List.getElem?_eq_some_iff.mp a1).1
    have hvl:=cl_ h2
    have e:=List.getElem?_eq_getElem (l:=vs) (i:=t) (by omega)
    obtain ⟨ff,fdp⟩:=fitFx hf.1 (List.mem_of_getElem? a1)
    have hu:=ic_ h2 a1 e
    have hlt:=Kd.bz_lt ff.ok a4
    have b:=(at_rcd hf hv a1 e a2).get (i:=i - q.toNat) (by rw [Kd.byt_len hu]; exact hlt)
    rw [show q.toNat + (i - q.toNat)=i from by omega] at b
    rw [b,ag_byt n f.2 _ _ _ (by omega) ff (czF_at hc (List.mem_of_getElem? a1)) hu (agF_at h a1 a2 e) a4]
    congr 1
    omega
  | n + 1,.cho ks,v,p,i,hd,hf,hc,hv,h,hz=>by simp [Kd.cz] at hc
theorem hf_ {kd:Kd} {v:Vd} {i:Nat} (hf:kd.Fit) (hv:kd.Val v) (hi:i < kd.rm.1.toNat) (hz:kd.bz i=false):(kd.byt v)[i]? = some 0:=by
  have hl:=Kd.byt_len hv
  have:(kd.byt v).getD i 0=0:=Classical.byContradiction fun h=>by rw [Kd.byt_nz kd v i hf.ok hv h] at hz; cases hz
  rw [List.getD_eq_getElem?_getD,List.getElem?_eq_getElem (by omega)] at this
  rw [List.getElem?_eq_getElem (by omega)]
  exact congrArg some this
theorem byt_is {xs:List Int} {kd:Kd} {v:Vd} (hf:kd.Fit) (hc:kd.cz=false) (hv:kd.Val v) (ha:kd.Ag xs 0 v) (hl:xs.length=kd.rm.1.toNat) (hz:∀ i,i < xs.length→kd.bz i=false→xs[i]? = some 0):kd.byt v=xs:=by
  refine List.ext_getElem? fun i => ?_
  by_cases hi:i < xs.length
  · cases hb : kd.bz i with
    | true=>rw [ag_byt _ kd v 0 i (Nat.le_refl _) hf hc hv ha hb,Nat.zero_add]
    | false=>rw [hf_ hf hv (by omega) hb,hz i hi hb]
  · rw [List.getElem?_eq_none (by rw [Kd.byt_len hv]; omega),List.getElem?_eq_none (by omega)]
theorem hole_mem {kd:Kd} {h:Nat×Nat} {i:Nat} (hF:kd.Fit) (hm:h∈holes kd.fil) (h1:h.1≤i) (h2:i < h.2):i < kd.rm.1.toNat∧kd.bz i=false:=by
  have:i∈idleFrom 0 kd.fil:=by rw [← holes_idle]; exact List.mem_flatMap.mpr ⟨h,hm,List.mem_range'_1.mpr ⟨h1,by omega⟩⟩
  rw [iu_] at this
  obtain ⟨a,b⟩:=List.mem_filter.mp this
  rw [List.mem_range,Kd.fil_len hF.ok] at a
  exact ⟨a,by simpa using b⟩
theorem idle_hole {kd:Kd} {i:Nat} (hF:kd.Fit) (hi:i < kd.rm.1.toNat) (hb:kd.bz i=false):∃ h∈holes kd.fil,h.1≤i∧i < h.2:=by
  have:i∈idleFrom 0 kd.fil:=by
    rw [iu_]
    exact List.mem_filter.mpr ⟨by rw [List.mem_range,Kd.fil_len hF.ok]; exact hi,by rw [hb]; rfl⟩
  rw [← holes_idle] at this
  obtain ⟨h,hm,hr⟩:=List.mem_flatMap.mp this
  obtain ⟨a,b⟩:=List.mem_range'_1.mp hr
  exact ⟨h,hm,a,by omega⟩
theorem hgo_lt:∀ (l:List Bool) (p b:Nat),∀ h∈hgo p b l,h.1 < h.2
  | [], p, b, h, hm => by
    unfold hgo at hm
    split at hm
    · rw [List.mem_singleton.mp hm]; assumption
    · simp at hm
  | true :: r, p, b, h, hm => by
    unfold hgo at hm
    rcases List.mem_append.mp hm with hm | hm
    · split at hm
      · rw [List.mem_singleton.mp hm]; assumption
      · simp at hm
    · exact hgo_lt r _ _ h hm
  | false :: r,p,b,h,hm=>by unfold hgo at hm; exact hgo_lt r _ _ h hm
def gAR:GB:=fun l ds Q => ∃ (B:Int) (kd:Kd),ds=[kd.x,.lst (hoX (holes kd.fil))]∧PoolX B l∧kd.Fit∧kd.deep≤5∧kd.cz=false∧kd.rm.1≤100000∧B + 100000 < 2 ^ 60∧∀ l',PoolX (B + 100000) l'→Q (.bl true) l'
def Byts (xs:List Int):Prop := ∀ b∈xs,0≤b∧b < 256
theorem Byts.set {xs:List Int} (h:Byts xs) {i:Nat} {b:Int} (hb:0≤b∧b < 256):Byts (xs.set i b):=fun c hc=>by
  rcases List.mem_or_eq_of_mem_set hc with z | z
  · exact h c z
  · rw [z]; exact hb
section
variable {P:Program} {w:World} {K:FG_} {mg:MG_} {base:Heap} {f:Addr} {fd:FuncData} {L:Nat}
theorem okx_ar (F:Fun K "_law_any_right" "_law_any_right" cp_ f fd) (CTK:Cal P w K mg base 1 "_law_take" ["pool", "many"] (spB gTK)) (CLM:Cal P w K mg base L "_law_room" ["kind"] (spX (gLM 5))) (CVO:Cal P w K mg base L "value_of" ["kind", "thing"] (spX (gVO 5))) (CIV:Cal P w K mg base L "is_value" ["kind", "thing"] (spX (gIV 5))) (CBY:Cal P w K mg base L "bytes_of" ["kind", "thing"] (spX (gLB 5))) (m_range:mg "range" = none) (m_list:mg "list" = none) (hL:1≤L):FnOk P w K mg base CX0 (L + 1) f fd ["pool", "kind", "idle"] (spB gAR):=by
  refine fn_b F sc_law_any_right (fun l ds Q h=>by obtain ⟨_,_,rfl,_⟩:=h; rfl) (by decide) fun cdv A outer s H E hr => ?_
  have hu1:=dv_ hr
  have hu0:=Nat.lt_of_succ_lt hu1
  refine ⟨_,(ae_ (fb_ fun F=>PS.weak (ps_setC (i:=3) sc_law_any_right.nd rfl rfl (dsc:=defScope cp_) (N:=["pool", "kind", "idle", "row", "begin", "end", "place", "value"]) (tgs:=["k"]) (outs:=[0]) (N':=["k", "pool"]) (by refine ⟨rfl,?_,?_,?_,rfl,?_,?_,?_⟩ <;> decide +kernel) (XIt.at (Ex:=noEx) F (do_ m_range (aa_ (am_ K (ag_ CLM (hr.mono (by omega)) (aa_ (ab_ (pv 1)) ac_)) ad_ (fun _ _=>rfl)) ac_))) (fun _ _ _ _ _=>(aj_ (i:=0) (show (["k", "pool"]:List Str).Nodup by decide +kernel) rfl (Or.inl rfl) (.inr rfl))) (bt_ (by decide)) (fun a b c d e=>XCs.at (Ex:=noEx) F bq_) (fun a b c d e=>XE.at (Ex:=noEx) F (ap_ (i:=1) CTK (hr.mono (by omega)) (pv 1) (aa_ ad_ ac_)))) (setC_x (bi_ (n:=1) (i:=0) (by decide)) (by decide)))
    (ae_ (ck_ PassesOwn.never rfl (bk_ (ab_ (pv 2))) (fg_ rfl (aq_ (aj_ (i:=4) sc_law_any_right.nd rfl (Or.inl rfl)) (aq_ (aj_ (i:=5) sc_law_any_right.nd rfl (Or.inl rfl)) bv_))) (ee_ (n:=99) (is:=[4,5]) rfl (by decide)) (af_ (ck_ PassesOwn.never rfl (xi_range2 m_range (aa_ (ab_ (pv 4)) (aa_ (ab_ (pv 5)) ac_))) (aj_ (i:=6) sc_law_any_right.nd rfl (Or.inl rfl)) (bi_ (n:=99) (i:=6) (by decide)) (af_ (fb_ fun F=>PS.weak (fw_ (XE.at (Ex:=noEx) F ad_) (gj_ (pv 3) (XE.at (Ex:=noEx) F (ab_ (pv 6))) dg_)) fy_)))))
    (ae_ (ai_ fun F=>ak_ (i:=7) sc_law_any_right.nd rfl (Or.inl rfl) (XE.at (Ex:=noEx) F (ag_ CVO (hr.mono (by omega)) (aa_ (ab_ (pv 1)) (aa_ (ib_ (call_listA K) cx_list (by rfl) m_list bt_list (aa_ (ab_ (pv 3)) ac_)) ac_)))))
    (af_ (an_ (xe_and (ag_ CIV (hr.mono (by omega)) (aa_ (ab_ (pv 1)) (aa_ (ab_ (pv 7)) ac_))) (xe_one (ia_ (op_eqZ hu0) ox_eqI (ag_ CBY (hr.mono (by omega)) (aa_ (ab_ (pv 1)) (aa_ (ab_ (pv 7)) ac_))) (ab_ (pv 3)) (nomark _))))))))),fun l ds Q h => ?_⟩
  obtain ⟨B,kd,rfl,hP,hF,hd,hc,hrm,hB,q⟩:=h
  obtain ⟨b0,b1,b2,b3⟩:=kd.bd hF.ok
  refine ⟨kd,rfl,hF.ok,hF.full,hd,by decide,⟨by omega,by omega⟩,by show ((List.range _).map _).length≤_; rw [List.length_map,List.length_range]; omega,?_⟩
  refine el_ (fun k:Nat=>Dx.int (0 + (k:Int))) (fun rest acc cs => ∃ (xs:List Int) (l':List Dx),xs.length + rest.length=kd.rm.1.toNat∧acc=xs.map Dx.int∧cs=[.bw l']∧Byts xs∧PoolX (B + (xs.length:Int)) l') (fun acc cs h => ?_) (fun k rest acc cs Pn h hk => ?_) ⟨[],l,by rw [List.length_range]; simp,rfl,rfl,(fun v hv=>nomatch hv),hP.mono (by simp)⟩
  · obtain ⟨xs, l', e1, rfl, rfl, hx, hP1⟩ := h
    rw [List.length_nil,Nat.add_zero] at e1
    have hP2:PoolX (B + 100000) l':=hP1.mono (by omega)
    dsimp only
    change xSeq _ _ [.bw l',.v (.tr kd.x),.v (.tr (.lst (hoX (holes kd.fil)))),.v (.ol (xs.map Dx.int)),.un,.un,.un,.un] _
    refine dy_ (fun ρ => ∃ (ys:List Int) (y4 y5 y6:Sl),ρ=[.bw l',.v (.tr kd.x),.v (.tr (.lst (hoX (holes kd.fil)))),.v (.ol (ys.map Dx.int)),y4,y5,y6,.un]∧ys.length=kd.rm.1.toNat∧Byts ys∧∀ h∈holes kd.fil,∀ i,h.1≤i→i < h.2→ys[i]? = some 0) ?_ (fun D2 hD2 => ?_)
    · rintro ρ ⟨ys, y4, y5, y6, rfl, hl, hb, hz⟩
      obtain ⟨vd,hV,hA⟩:=ag_surj hb 5 kd 0 hd hF hc (by omega)
      have hbyt:kd.byt vd=ys:=byt_is hF hc hV hA hl fun i hi hbz=>by
        obtain ⟨h,hm,a1,a2⟩:=idle_hole hF (by omega) hbz
        exact hz h hm i a1 a2
      refine ⟨kd,vd,by rw [hbyt]; rfl,hF,hV,hd,by decide,hrm,?_⟩
      refine ⟨kd,vd,kd.vx vd,rfl,hj_ kd vd hF hV,hF.ok,hV,hd,by decide,?_⟩
      refine ⟨kd,vd,kd.vx vd,rfl,hj_ kd vd hF hV,hF,hV,hd,by decide,hrm,?_⟩
      refine ⟨kd.byt vd,ys,rfl,rfl,?_⟩
      have ed:(if (false:Bool)=true then !decide (kd.byt vd=ys) else decide (kd.byt vd=ys))=true:=decide_eq_true hbyt
      rw [ed]
      exact q l' hP2
    · refine bc_ (fun h : Nat × Nat => Dx.tup [.int (h.1 : Int), .int (h.2 : Int)]) (fun rest ρ => ∃ (done : List (Nat × Nat)) (ys : List Int) (y4 y5 y6 : Sl), holes kd.fil = done ++ rest ∧ ρ = [.bw l', .v (.tr kd.x), .v (.tr (.lst (hoX (holes kd.fil)))), .v (.ol (ys.map Dx.int)), y4, y5, y6, .un] ∧ ys.length = kd.rm.1.toNat ∧ Byts ys ∧ ∀ h ∈ done, ∀ i, h.1 ≤ i → i < h.2 → ys[i]? = some 0) (fun ρ h => ?_) (fun h rest ρ K1 hh hk => ?_) ⟨[], xs, .un, .un, .un, rfl, rfl, e1, hx, fun h hm => nomatch hm⟩
      · obtain ⟨done, ys, y4, y5, y6, e, rfl, hl, hb, hz⟩ := h
        rw [List.append_nil] at e
        exact hD2 _ ⟨ys,y4,y5,y6,rfl,hl,hb,by rw [e]; exact hz⟩
      · obtain ⟨done, ys, y4, y5, y6, e, rfl, hl, hb, hz⟩ := hh
        have hm:h∈holes kd.fil:=by rw [e]; exact List.mem_append_right _ List.mem_cons_self
        have hlt:=hgo_lt _ _ _ h hm
        have hin:∀ i,h.1≤i→i < h.2→i < kd.rm.1.toNat:=fun i a b=>(hole_mem hF hm a b).1
        have hend:=hin (h.2 - 1) (by omega) (by omega)
        refine ⟨⟨by omega,by omega,by omega,by omega⟩,?_⟩
        show forX _ _ _ (rngX (h.1:Int) ((h.2:Int) - (h.1:Int)).toNat) _
        refine bc_ (fun k:Nat=>Dx.int ((h.1:Int) + (k:Int))) (fun rest2 ρ => ∃ (c:Nat) (zs:List Int) (y6:Sl),(∃ m,rest2=(List.range m).drop c∧c≤m∧m=((h.2:Int) - (h.1:Int)).toNat)∧ρ=[.bw l',.v (.tr kd.x),.v (.tr (.lst (hoX (holes kd.fil)))),.v (.ol (zs.map Dx.int)),.v (.tr (.int (h.1:Int))),.v (.tr (.int (h.2:Int))),y6,.un]∧zs.length=kd.rm.1.toNat∧Byts zs∧(∀ g∈done,∀ i,g.1≤i→i < g.2→zs[i]? = some 0)∧∀ i,h.1≤i→i < h.1 + c→zs[i]? = some 0) (fun ρ h' => ?_) (fun k rest2 ρ K2 h' hk2 => ?_) ⟨0,ys,y6,⟨_,rfl,Nat.zero_le _,rfl⟩,rfl,hl,hb,hz,fun i a b=>by omega⟩
        · obtain ⟨c, zs, y6, ⟨m, e2, hcm, hm2⟩, rfl, hl2, hb2, hz2, hc2⟩ := h'
          have hge:=List.drop_eq_nil_iff.mp e2.symm
          rw [List.length_range] at hge
          refine hk _ ⟨done ++ [h],zs,_,_,_,by rw [e,List.append_assoc]; rfl,rfl,hl2,hb2,fun g hg i a b => ?_⟩
          rcases List.mem_append.mp hg with hg | hg
          · exact hz2 g hg i a b
          · rw [List.mem_singleton.mp hg] at a b
            exact hc2 i a (by omega)
        · obtain ⟨c, zs, y6, ⟨m, e2, hcm, hm2⟩, rfl, hl2, hb2, hz2, hc2⟩ := h'
          obtain ⟨e3,e4⟩:=bo_ e2
          obtain ⟨e5,e6⟩:=List.getElem?_eq_some_iff.mp e3
          rw [List.length_range] at e5
          rw [List.getElem_range] at e6
          have hlt2:=hin (h.1 + c) (by omega) (by omega)
          have hix:ixN (zs.map Dx.int).length ((h.1:Int) + (k:Int))=some (h.1 + c):=by
            rw [is_ (by omega) (by rw [List.length_map]; omega)]
            congr 1
            omega
          have hk':=hk2 [.bw l',.v (.tr kd.x),.v (.tr (.lst (hoX (holes kd.fil)))),.v (.ol ((zs.set (h.1 + c) 0).map Dx.int)),.v (.tr (.int (h.1:Int))),.v (.tr (.int (h.2:Int))),.v (.tr (.int ((h.1:Int) + (k:Int)))),.un] ⟨c + 1,zs.set (h.1 + c) 0,_,⟨m,e4,e5,hm2⟩,rfl,by rw [List.length_set]; exact hl2,hb2.set (by decide),fun g hg i a b => ?_,fun i a b => ?_⟩
          · rw [List.map_set] at hk'
            simp only [xSeq,xNext,xOp,xVar,xC,xSet,xRet,xCall,xCallB,xCons,xNil,xFor,xComp,xiL,xiR1,xiR2,xAndV,xSetI,ixX,gxN,gxT,gxs,retB,lentEnd,startX,startB,cw_,cv_,len3,at10,at20,at21,at30,at31,at32,at40,at41,at42,at43,ix30,ix31,ix32,List.getElem?_cons_zero,List.getElem?_cons_succ,List.set_cons_zero,List.set_cons_succ,Sv.d,List.map_cons,List.map_nil,Option.bind_some,Option.isSome_some,List.cons_append,List.nil_append,List.length_cons,List.length_nil,List.replicate_succ,List.replicate_zero,Nat.reduceAdd,Nat.reduceSub,Nat.reduceLeDiff,true_and,decide_eq_true_eq,cut,caps,back,xYes,Option.getD_some,if_true,↓reduceIte,List.drop_succ_cons,List.drop_zero,hix]
            exact hk'
          · by_cases hi : i = h.1 + c
            · rw [hi,List.getElem?_set_self (by omega)]
            · rw [List.getElem?_set_ne (fun z=>hi z.symm)]; exact hz2 g hg i a b
          · by_cases hi : i = h.1 + c
            · rw [hi,List.getElem?_set_self (by omega)]
            · rw [List.getElem?_set_ne (fun z=>hi z.symm)]; exact hc2 i a (by omega)
  · obtain ⟨xs, l', e1, rfl, rfl, hx, hP1⟩ := h
    rw [List.length_cons] at e1
    refine ⟨rfl,_,256,rfl,hP1,by omega,by decide,by decide,fun r l2 r0 r1 hP2=>hk _ _ ⟨xs ++ [r],l2,by rw [List.length_append,List.length_singleton]; omega,by rw [List.map_append]; rfl,rfl,fun b hb => ?_,hP2.mono (by rw [List.length_append]; show _≤B + ((xs.length + 1:Nat):Int); omega)⟩⟩
    rcases List.mem_append.mp hb with hb | hb
    · exact hx b hb
    · rw [List.mem_singleton.mp hb]; exact ⟨r0,r1⟩
end
def rd_law (K : FG_) : XS := (xSeq (xFor (xiR1 (xCons (xCall max2X (xCons (xC (.int 1)) (xCons (xCall min2X (xCons (xC (.int 4)) (xCons (xCall (lenZ K) (xCons (xVar 0) xNil)) xNil))) xNil))) xNil)) (gxN 1) (xSeq (xSet 2 (xCall (gPL K) (xCons (xVar 0) (xCons (xVar 1) xNil))))
    (xSeq (xSet 3 (xOp ixX (xLst (xCons (xC (.int 60)) (xCons (xC (.int 200)) (xCons (xC (.int 200)) (xCons (xOp ixX (xLst (xCons (xC (.int 2000)) (xCons (xC (.int 200)) xNil))) (xCall intX (xCons (xOp gtX (xVar 1) (xC (.int 0))) xNil))) xNil))))) (xCallB gTK 2 (xCons (xC (.int 4)) xNil))))
    (xSeq (xSet 4 (xCallB (gLK 5) 2 (xCons (xOp addX (xC (.int 1)) (xCallB gTK 2 (xCons (xC (.int 5)) xNil))) (xCons (xVar 3) xNil))))
    (xSeq (xSet 5 (xCall (gLB 5) (xCons (xVar 4) (xCons (xCallB (gVA 5) 2 (xCons (xVar 4) xNil)) xNil))))
    (xSeq (xSet 6 (xCall (gHO 5) (xCons (xVar 4) xNil)))
    (xSeq (xFor (xiL (xOp addX (xSl (xVar 6) xoN (xoS (xC (.int 8)))) (xSl (xVar 6) (xoS (xNeg (xC (.int 8)))) xoN))) (gxT [7,8]) (xSeq (xIf (xB (xOp (eqI true) (xSl (xVar 5) (xoS (xVar 7)) (xoS (xVar 8))) (xOp mulX (xLst (xCons (xC (.int 0)) xNil)) (xOp subX (xVar 8) (xVar 7))))) (xRet (xC (.bl false))) xNext)
    (xFor (xiL (xLst (xCons (xVar 7) (xCons (xOp subX (xVar 8) (xC (.int 1))) (xCons (xOp addX (xVar 7) (xCallB gTK 2 (xCons (xOp subX (xVar 8) (xVar 7)) xNil))) xNil))))) (gxN 9) (xSeq (xSet 10 (xOp ixX (xLst (xCons (xC (.int 1)) (xCons (xC (.int 255)) (xCons (xOp addX (xC (.int 1)) (xCallB gTK 2 (xCons (xC (.int 255)) xNil))) xNil)))) (xCallB gTK 2 (xCons (xC (.int 3)) xNil))))
    (xIf (xNot (xB (xCall (gRF 5) (xCons (xVar 4) (xCons (xOp addX (xOp addX (xSl (xVar 5) xoN (xoS (xVar 9))) (xLst (xCons (xVar 10) xNil))) (xSl (xVar 5) (xoS (xOp addX (xVar 9) (xC (.int 1)))) xoN)) xNil))))) (xRet (xC (.bl false))) xNext)))))
    (xIf (xAnd (xNot (xB (xCall (gLC 5) (xCons (xVar 4) xNil)))) (xNot (xB (xCallB gAR 2 (xCons (xVar 4) (xCons (xVar 6) xNil)))))) (xRet (xC (.bl false))) xNext))))))))
    (xRet (xC (.bl true))))
section
variable {P:Program} {w:World} {K:FG_} {mg:MG_} {base:Heap} {f:Addr} {fd:FuncData} {L:Nat}
theorem der_law (CPL:Cal P w K mg base 1 "_law_pool" ["script", "k"] (spX (gPL K)))
    (CTK:Cal P w K mg base 1 "_law_take" ["pool", "many"] (spB gTK)) (CLK:Cal P w K mg base L "_law_kind" ["pool", "deep", "most"] (spB (gLK 5))) (CVA:Cal P w K mg base L "_law_value" ["pool", "kind"] (spB (gVA 5))) (CBY:Cal P w K mg base L "bytes_of" ["kind", "thing"] (spX (gLB 5))) (CHO:Cal P w K mg base L "holes_of" ["kind"] (spX (gHO 5))) (CRF:Cal P w K mg base L "_law_refused" ["kind", "row"] (spX (gRF 5))) (CLC:Cal P w K mg base L "_law_chooses" ["kind"] (spX (gLC 5))) (CAR:Cal P w K mg base L "_law_any_right" ["pool", "kind", "idle"] (spB gAR))
    (m_max:mg "max" = none) (m_min:mg "min" = none) (m_range:mg "range" = none) (m_len:mg "len" = none) (m_int:mg "int" = none) (hL:1≤L)
    {cdv:Value} {A:Around} {outer:List Env} {s:Shared} {H:Hp} {E:XK} (hr:Room L (A.deeper (PyProof.Rows.envOfC "law" (defScope s_law) s.heap.objs.size f cdv))) :
    XSs (cxOf CX0 P w K mg base (["script", "k", "pool", "most", "kind", "row", "idle", "begin", "end", "place", "byte"]:List Str) "law" (defScope s_law) f cdv A outer s H E).nox noEx (defBody s_law) (rd_law K):=by
  have hu1:=dv_ hr
  have hu0:=Nat.lt_of_succ_lt hu1
  exact (ae_ (ck_ PassesOwn.never rfl (do_ m_range (aa_ (az_ (call_max2 (by rfl)) cx_max2 (by rfl) m_max bt_max (aa_ ad_ (aa_ (az_ (call_min2 (by rfl)) cx_min2 (by rfl) m_min bt_min (aa_ ad_ (aa_ (az_ (cb_ K) cx_lenZ (by rfl) m_len PySem.boot_len (aa_ (ab_ (pv 0)) ac_)) ac_))) ac_))) ac_)) (aj_ (i:=1) sc_law.nd rfl (Or.inl rfl)) (bi_ (n:=99) (i:=1) (by decide)) (ae_ (ai_ fun F=>ak_ (i:=2) sc_law.nd rfl (Or.inl rfl) (XE.at (Ex:=noEx) F (ag_ CPL (hr.mono (by omega)) (aa_ (ab_ (pv 0)) (aa_ (ab_ (pv 1)) ac_)))))
    (ae_ (ai_ fun F=>ak_ (i:=3) sc_law.nd rfl (Or.inl rfl) (XE.at (Ex:=noEx) F (am_ K (by_ (aa_ ad_ (aa_ ad_ (aa_ ad_ (aa_ (am_ K (by_ (aa_ ad_ (aa_ ad_ ac_))) (ib_ call_int1 cx_int (by rfl) m_int bt_int (aa_ (ia_ op_gt ox_gt (ab_ (pv 1)) ad_ (nomark _)) ac_)) (fun _ _=>rfl)) ac_))))) (ap_ (i:=2) CTK (hr.mono (by omega)) (pv 2) (aa_ ad_ ac_)) (fun _ _=>rfl))))
    (ae_ (ai_ fun F=>ak_ (i:=4) sc_law.nd rfl (Or.inl rfl) (XE.at (Ex:=noEx) F (ap_ (i:=2) CLK (hr.mono (by omega)) (pv 2) (aa_ (bf_ ad_ (ap_ (i:=2) CTK (hr.mono (by omega)) (pv 2) (aa_ ad_ ac_))) (aa_ (ab_ (pv 3)) ac_)))))
    (ae_ (ai_ fun F=>ak_ (i:=5) sc_law.nd rfl (Or.inl rfl) (XE.at (Ex:=noEx) F (ag_ CBY (hr.mono (by omega)) (aa_ (ab_ (pv 4)) (aa_ (ap_ (i:=2) CVA (hr.mono (by omega)) (pv 2) (aa_ (ab_ (pv 4)) ac_)) ac_)))))
    (ae_ (ai_ fun F=>ak_ (i:=6) sc_law.nd rfl (Or.inl rfl) (XE.at (Ex:=noEx) F (ag_ CHO (hr.mono (by omega)) (aa_ (ab_ (pv 4)) ac_))))
    (ae_ (ck_ PassesOwn.never rfl (bk_ (bf_ (fm_ K (ab_ (pv 6)) xo_none (fc_ ad_)) (fm_ K (ab_ (pv 6)) (fc_ (xe_neg ad_)) xo_none))) (fg_ rfl (aq_ (aj_ (i:=7) sc_law.nd rfl (Or.inl rfl)) (aq_ (aj_ (i:=8) sc_law.nd rfl (Or.inl rfl)) bv_))) (ee_ (n:=99) (is:=[7,8]) rfl (by decide)) (ae_ (bd_ (av_ (op_neZ hu0) ox_eqI (fm_ K (ab_ (pv 5)) (fc_ (ab_ (pv 7))) (fc_ (ab_ (pv 8)))) (ch_ (by_ (aa_ ad_ ac_)) (fv_ (ab_ (pv 8)) (ab_ (pv 7)))) (nomark _)) (af_ (an_ fa_)) ar_)
    (af_ (ck_ PassesOwn.never rfl (bk_ (by_ (aa_ (ab_ (pv 7)) (aa_ (fv_ (ab_ (pv 8)) ad_) (aa_ (bf_ (ab_ (pv 7)) (ap_ (i:=2) CTK (hr.mono (by omega)) (pv 2) (aa_ (fv_ (ab_ (pv 8)) (ab_ (pv 7))) ac_))) ac_))))) (aj_ (i:=9) sc_law.nd rfl (Or.inl rfl)) (bi_ (n:=99) (i:=9) (by decide)) (ae_ (ai_ fun F=>ak_ (i:=10) sc_law.nd rfl (Or.inl rfl) (XE.at (Ex:=noEx) F (am_ K (by_ (aa_ ad_ (aa_ ad_ (aa_ (bf_ ad_ (ap_ (i:=2) CTK (hr.mono (by omega)) (pv 2) (aa_ ad_ ac_))) ac_)))) (ap_ (i:=2) CTK (hr.mono (by omega)) (pv 2) (aa_ ad_ ac_)) (fun _ _=>rfl))))
    (af_ (bd_ (eg_ (dn_ (ag_ CRF (hr.mono (by omega)) (aa_ (ab_ (pv 4)) (aa_ (bf_ (bf_ (fm_ K (ab_ (pv 5)) xo_none (fc_ (ab_ (pv 9)))) (by_ (aa_ (ab_ (pv 10)) ac_))) (fm_ K (ab_ (pv 5)) (fc_ (bf_ (ab_ (pv 9)) ad_)) xo_none)) ac_))))) (af_ (an_ fa_)) ar_)))))))
    (af_ (bd_ (XW.pt (xw_and (eg_ (dn_ (ag_ CLC (hr.mono (by omega)) (aa_ (ab_ (pv 4)) ac_)))) (xw_and1 (eg_ (dn_ (ap_ (i:=2) CAR (hr.mono (by omega)) (pv 2) (aa_ (ab_ (pv 4)) (aa_ (ab_ (pv 6)) ac_)))))))) (af_ (an_ fa_)) ar_)))))))))
    (af_ (an_ fa_)))
end
theorem most_in {v:Dx} {z:Int} (h:v∈[Dx.int 60,Dx.int 200,Dx.int 200,Dx.int z]) (hz:z=2000∨z=200):∃ mo,v=.int mo∧8≤mo∧mo≤2000:=by
  simp only [List.mem_cons,List.not_mem_nil,or_false] at h
  rcases h with rfl | rfl | rfl | rfl
  · exact ⟨_,rfl,by omega,by omega⟩
  · exact ⟨_,rfl,by omega,by omega⟩
  · exact ⟨_,rfl,by omega,by omega⟩
  · exact ⟨_,rfl,by omega,by omega⟩
theorem two_zz {v:Dx} {a b:Int} (h:v∈[Dx.int a,Dx.int b]):∃ z,v=.int z∧(z=a∨z=b):=by
  simp only [List.mem_cons,List.not_mem_nil,or_false] at h
  rcases h with rfl | rfl
  · exact ⟨_,rfl,.inl rfl⟩
  · exact ⟨_,rfl,.inr rfl⟩
theorem three_zz {v:Dx} {a b c:Int} (h:v∈[Dx.int a,Dx.int b,Dx.int c]):∃ z,v=.int z∧(z=a∨z=b∨z=c):=by
  simp only [List.mem_cons,List.not_mem_nil,or_false] at h
  rcases h with rfl | rfl | rfl
  · exact ⟨_,rfl,.inl rfl⟩
  · exact ⟨_,rfl,.inr (.inl rfl)⟩
  · exact ⟨_,rfl,.inr (.inr rfl)⟩
theorem cut_sub {α:Type} {xs:List α} {lo hi:Option Int} {a:α} (h:a∈cutX xs lo hi):a∈xs:=by
  unfold cutX at h
  exact List.mem_of_mem_drop (List.mem_of_mem_take h)
theorem hoX_part:∀ {l:List Dx} {hs:List (Nat×Nat)},(∀ d∈l,d∈hoX hs)→∃ gs:List (Nat×Nat),l=hoX gs∧∀ g∈gs,g∈hs
  | [],hs,_=>⟨[],rfl,fun g h=>nomatch h⟩
  | d :: l, hs, h => by
    obtain ⟨gs,e,k⟩:=hoX_part (l:=l) (hs:=hs) fun d hd=>h d (List.mem_cons_of_mem _ hd)
    obtain ⟨g,hg,rfl⟩:=List.mem_map.mp (h d List.mem_cons_self)
    refine ⟨g :: gs,by rw [e]; rfl,fun x hx => ?_⟩
    rcases List.mem_cons.mp hx with rfl | hx
    · exact hg
    · exact k x hx
theorem row_cut {xs:List Int} {a b:Nat} (hab:a≤b) (hb:b≤xs.length):cutX (xs.map Dx.int) (some (a:Int)) (some (b:Int))=((xs.drop a).take (b - a)).map Dx.int:=by
  unfold cutX
  rw [HT.sIx_nat,HT.sIx_nat,List.length_map,Nat.min_eq_left (by omega),Nat.min_eq_left (by omega),← List.map_drop,← List.map_take]
theorem row_front {xs:List Int} {a:Nat} (ha:a≤xs.length):cutX (xs.map Dx.int) none (some (a:Int))=(xs.take a).map Dx.int:=by
  unfold cutX
  rw [HT.sIx_none,HT.sIx_nat,List.length_map,Nat.min_eq_left ha,List.drop_zero,Nat.sub_zero,← List.map_take]
theorem row_back {xs:List Int} {a:Nat} (ha:a≤xs.length):cutX (xs.map Dx.int) (some (a:Int)) none=(xs.drop a).map Dx.int:=by
  unfold cutX
  rw [HT.sIx_none,HT.sIx_nat,List.length_map,Nat.min_eq_left ha,← List.map_drop,List.take_of_length_le (by rw [List.length_map,List.length_drop]; omega)]
theorem set_parts {xs:List Int} {i:Nat} {b:Int} (h:i < xs.length):(xs.take i).map Dx.int ++ [Dx.int b] ++ (xs.drop (i + 1)).map Dx.int=(xs.set i b).map Dx.int:=by
  rw [List.set_eq_take_append_cons_drop,if_pos h,List.map_append,List.map_cons,List.append_assoc]
  rfl
theorem nought_part {xs:List Int} {a b:Nat} (hab:a≤b) (hb:b≤xs.length) (hz:∀ i,a≤i→i < b→xs[i]? = some 0):(xs.drop a).take (b - a)=List.replicate (b - a) 0:=by
  refine List.ext_getElem? fun i => ?_
  by_cases hi:i < b - a
  · rw [List.getElem?_take_of_lt hi,List.getElem?_drop,hz (a + i) (by omega) (by omega),List.getElem?_replicate,if_pos hi]
  · rw [List.getElem?_eq_none (by rw [List.length_take]; omega),List.getElem?_eq_none (by rw [List.length_replicate]; omega)]
theorem turned_at {kd:Kd} {vd:Vd} {i:Nat} {b:Int} (hF:kd.Fit) (hV:kd.Val vd) (hi:i < kd.rm.1.toNat) (hz:kd.bz i=false) (hb:1≤b∧b < 256):((kd.byt vd).set i b).length=kd.rm.1.toNat∧(∀ c∈(kd.byt vd).set i b,0≤c∧c < 256)∧kd.Ag ((kd.byt vd).set i b) 0 vd∧(kd.byt vd).set i b≠kd.byt vd:=by
  have hl:=Kd.byt_len hV
  refine ⟨by rw [List.length_set]; exact hl,fun c hc => ?_,?_,fun e => ?_⟩
  · rcases List.mem_or_eq_of_mem_set hc with z | z
    · exact jb_ kd vd hF hV c z
    · rw [z]; omega
  · refine ag_keep _ kd vd 0 (Nat.le_refl _) hF hV (ag_at _ kd vd 0 (Nat.le_refl _) hF hV (AtP.self _)) fun j hj => ?_
    rw [List.getElem?_set_ne]
    intro e
    rw [Nat.zero_add] at e
    rw [e,hj] at hz
    cases hz
  · have h1 := hf_ hF hV hi hz
    rw [← e,List.getElem?_set_self (by omega)] at h1
    have:=Option.some.inj h1
    omega
theorem go_cut2 {i j k:Nat} {s:Sv} {l:List Dx} {x y:Int} {ρ:En} {Q:Sv→En→Prop} (hi:ρ[i]? = some (.v s)) (hs:s.d=.lst l) (hj:ρ[j]? = some (.v (.tr (.int x)))) (hk:ρ[k]? = some (.v (.tr (.int y)))) (hij:i≠j) (hik:i≠k) (h:Q (.ol (cutX l (some x) (some y))) (ρ.set i (.v (.tr (.lst l))))):xSl (xVar i) (xoS (xVar j)) (xoS (xVar k)) ρ Q:=by
  have gj:(ρ.set i (.v (.tr (.lst l))))[j]? = some (.v (.tr (.int x))):=by rw [List.getElem?_set_ne hij]; exact hj
  have gk:(ρ.set i (.v (.tr (.lst l))))[k]? = some (.v (.tr (.int y))):=by rw [List.getElem?_set_ne hik]; exact hk
  have e1:∀ {α:Type} {l:List α} {i:Nat} {a:α},l[i]? = some a→l.set i a=l:=fun h=>by
    obtain ⟨h1,h2⟩:=List.getElem?_eq_some_iff.mp h
    rw [← h2,List.set_getElem_self]
  unfold xSl
  refine to_tr hi hs ?_
  simp only [xVar,xoS,Sv.d,gj,gk,e1 gj,e1 gk,slX]
  exact h
theorem go_last {c:XC} {G:XS} {ρ ρ':En} {D:XD} (hc:∀ Q:Bool→En→Prop,Q false ρ'→c ρ Q) (h:D.nx ρ'):xIf c G xNext ρ D:=hc _ h
section
variable {P:Program} {w:World} {K:FG_} {mg:MG_} {base:Heap} {f:Addr} {fd:FuncData} {L:Nat}
theorem okx_law (F:Fun K "law" "law" s_law f fd) (CPL:Cal P w K mg base 1 "_law_pool" ["script", "k"] (spX (gPL K)))
    (CTK:Cal P w K mg base 1 "_law_take" ["pool", "many"] (spB gTK)) (CLK:Cal P w K mg base L "_law_kind" ["pool", "deep", "most"] (spB (gLK 5))) (CVA:Cal P w K mg base L "_law_value" ["pool", "kind"] (spB (gVA 5))) (CBY:Cal P w K mg base L "bytes_of" ["kind", "thing"] (spX (gLB 5))) (CHO:Cal P w K mg base L "holes_of" ["kind"] (spX (gHO 5))) (CRF:Cal P w K mg base L "_law_refused" ["kind", "row"] (spX (gRF 5))) (CLC:Cal P w K mg base L "_law_chooses" ["kind"] (spX (gLC 5))) (CAR:Cal P w K mg base L "_law_any_right" ["pool", "kind", "idle"] (spB gAR))
    (m_max:mg "max" = none) (m_min:mg "min" = none) (m_range:mg "range" = none) (m_len:mg "len" = none) (m_int:mg "int" = none) (hL:1≤L) :
    FnOk P w K mg base CX0 (L + 1) f fd ["script"] (spX (gLaw K)):=by
  refine ez_ F sc_law (fun ds Q h=>by obtain ⟨ns,rfl,_⟩:=h; rfl) (by decide) fun cdv A outer s H E hr => ?_
  refine ⟨_,der_law CPL CTK CLK CVA CBY CHO CRF CLC CAR m_max m_min m_range m_len m_int hL hr,fun ds Q h => ?_⟩
  obtain ⟨ns,rfl,h63,q⟩:=h
  have t5:tk 5=67863000:=by decide
  have v5:tv 5=2042050:=by decide
  unfold rd_law
  refine dy_ (fun ρ=>True) (fun ρ _=>q) (fun D' hD => ?_)
  refine ⟨rfl,?_⟩
  refine ⟨⟨by split <;> (try split) <;> omega,by split <;> (try split) <;> omega⟩,?_⟩
  refine bc_ (fun k:Nat=>Dx.int (0 + (k:Int))) (fun rest ρ=>(∀ k∈rest,k < 63)∧∃ y1 y2 y3 y4 y5 y6 y7 y8 y9 y10,ρ=[.v (.tr (.scr K ns)),y1,y2,y3,y4,y5,y6,y7,y8,y9,y10]) (fun ρ h=>hD ρ trivial) (fun k rest ρ Kn h hk => ?_) ⟨fun k hk=>by
      have:=List.mem_range.mp hk
      revert this
      split <;> (try split) <;> omega,.un,.un,.un,.un,.un,.un,.un,.un,.un,.un,rfl⟩
  obtain ⟨hlt,y1,y2,y3,y4,y5,y6,y7,y8,y9,y10,rfl⟩:=h
  have hk4:=hlt k List.mem_cons_self
  have hknext:∀ a1 a2 a3 a4 a5 a6 a7 a8 a9 a10,Kn [.v (.tr (.scr K ns)),a1,a2,a3,a4,a5,a6,a7,a8,a9,a10]:=fun a1 a2 a3 a4 a5 a6 a7 a8 a9 a10=>hk _ ⟨fun k' hk'=>hlt k' (List.mem_cons_of_mem _ hk'),_,_,_,_,_,_,_,_,_,_,rfl⟩
  refine ⟨ns,0 + (k:Int),rfl,by omega,by omega,fun l hP => ?_⟩
  dsimp only
  refine ⟨len2,?_⟩
  refine xint_gt rfl ?_
  refine hi_ ?_ ?_ fun v hv => ?_
  · split <;> decide
  · show _ < (2:Int); split <;> decide
  obtain ⟨z,rfl,hz⟩:=two_zz hv
  refine ⟨lenA (by show 4≤1000000; decide),rfl,_,4,rfl,hP,by omega,by decide,by decide,fun r1 l1 r10 r11 hP1 => ?_⟩
  refine hi_ r10 r11 fun v hv => ?_
  obtain ⟨mo,rfl,mo1,mo2⟩:=most_in hv hz
  refine ⟨rfl,rfl,_,5,rfl,hP1,by omega,by decide,by decide,fun r2 l2 r20 r21 hP2 => ?_⟩
  refine ⟨_,1 + r2,mo,rfl,hP2,by omega,by omega,by omega,by decide,by rw [t5]; omega,fun kd l3 hF hdp hrm hP3 => ?_⟩
  rw [t5] at hP3
  have hd5:kd.deep≤5:=by omega
  refine ⟨rfl,_,kd,rfl,hP3,hF,hd5,by decide,by rw [v5]; omega,fun vd l4 hV hP4 => ?_⟩
  rw [v5] at hP4
  refine ⟨kd,vd,kd.vx vd,rfl,hj_ kd vd hF hV,hF,hV,hd5,by decide,by omega,?_⟩
  refine ⟨kd,rfl,hF,hd5,by decide,by omega,?_⟩
  have hbl:=Kd.byt_len hV
  dsimp only
  change xSeq _ _ [.v (.tr (.scr K ns)),.v (.tr (.int (0 + (k:Int)))),.v (.ol l4),.v (.tr (.int mo)),.v (.tr kd.x),.v (.ol ((kd.byt vd).map Dx.int)),.v (.ol (hoX (holes kd.fil))),y7,y8,y9,y10] _
  obtain ⟨PB,hPB,hPBb⟩ : ∃ PB:Int,PoolX PB l4∧PB + 1000000 < 2 ^ 60:=⟨_,hP4,by omega⟩
  clear hP4 hP3 hP2 hP1 hP
  have hfl:=Kd.fil_len hF.ok
  have hhl:(hoX (holes kd.fil)).length≤2001:=by
    unfold hoX
    rw [List.length_map]
    have:=hgo_len kd.fil 0 0
    show (hgo 0 0 kd.fil).length≤2001
    omega
  have hc1:∀ lo hi,(cutX (hoX (holes kd.fil)) lo hi).length≤2001:=fun lo hi=>by
    unfold cutX
    rw [List.length_take,List.length_drop]
    omega
  refine dy_ (fun ρ => ∃ (s5:Sv) (l':List Dx) (y7 y8 y9 y10:Sl),ρ=[.v (.tr (.scr K ns)),.v (.tr (.int (0 + (k:Int)))),.v (.ol l'),.v (.tr (.int mo)),.v (.tr kd.x),.v s5,.v (.tr (.lst (hoX (holes kd.fil)))),y7,y8,y9,y10]∧PoolX (PB + 50000) l') ?_ (fun D2 hD2 => ?_)
  · rintro ρ ⟨s5, l', y7, y8, y9, y10, rfl, hP⟩
    refine ⟨kd,rfl,hF,hd5,?_⟩
    cases hcz:kd.cz with
    | true=>exact hknext _ _ _ _ _ _ _ _ _ _
    | false =>
      refine ⟨rfl,_,kd,rfl,hP,hF,hd5,hcz,by omega,by omega,fun l2 hP2 => ?_⟩
      exact hknext _ _ _ _ _ _ _ _ _ _
  · refine ⟨by have := hc1 none (some 8); have := hc1 (some (-8)) none; omega, ?_⟩
    obtain ⟨gs,eL,hgs⟩:=hoX_part (l:=cutX (hoX (holes kd.fil)) none (some 8) ++ cutX (hoX (holes kd.fil)) (some (-8)) none) (hs:=holes kd.fil) fun d hd=>by
      rcases List.mem_append.mp hd with hd | hd <;> exact cut_sub hd
    have hgl:gs.length≤4002:=by
      have e:=congrArg List.length eL
      rw [List.length_append] at e
      unfold hoX at e
      rw [List.length_map] at e
      have:=hc1 none (some 8)
      have:=hc1 (some (-8)) none
      unfold hoX at *
      omega
    show forX _ _ _ (cutX (hoX (holes kd.fil)) none (some 8) ++ cutX (hoX (holes kd.fil)) (some (-8)) none) _
    rw [eL]
    refine bc_ (fun h:Nat×Nat=>Dx.tup [.int (h.1:Int),.int (h.2:Int)]) (fun rest ρ=>(∀ g∈rest,g∈holes kd.fil)∧∃ (c:Nat) (s5:Sv) (l':List Dx) (y7 y8 y9 y10:Sl),c + rest.length=gs.length∧ρ=[.v (.tr (.scr K ns)),.v (.tr (.int (0 + (k:Int)))),.v (.ol l'),.v (.tr (.int mo)),.v (.tr kd.x),.v s5,.v (.tr (.lst (hoX (holes kd.fil)))),y7,y8,y9,y10]∧s5.d=.lst ((kd.byt vd).map Dx.int)∧PoolX (PB + (c:Int) * 7) l') (fun ρ h => ?_) (fun h rest ρ K1 hh hk1 => ?_) ⟨hgs,0,.ol ((kd.byt vd).map Dx.int),l4,y7,y8,y9,y10,by rw [Nat.zero_add],rfl,rfl,hPB.mono (by omega)⟩
    · obtain ⟨_, c, s5, l', y7, y8, y9, y10, e, rfl, h5, hP⟩ := h
      rw [List.length_nil] at e
      exact hD2 _ ⟨s5,l',_,_,_,_,rfl,hP.mono (by omega)⟩
    · obtain ⟨hin, c, s5, l', y7, y8, y9, y10, e, rfl, h5, hP⟩ := hh
      rw [List.length_cons] at e
      have hm:=hin h List.mem_cons_self
      have hlt2:=hgo_lt _ _ _ h hm
      have hin2:∀ i,h.1≤i→i < h.2→i < kd.rm.1.toNat∧kd.bz i=false:=fun i a b=>hole_mem hF hm a b
      have hend:=(hin2 (h.2 - 1) (by omega) (by omega)).1
      have hb2:h.2≤(kd.byt vd).length:=by omega
      have hz0:∀ i,h.1≤i→i < h.2→(kd.byt vd)[i]? = some 0:=fun i a b=>hf_ hF hV (hin2 i a b).1 (hin2 i a b).2
      refine hc_ (ρ':=[.v (.tr (.scr K ns)),.v (.tr (.int (0 + (k:Int)))),.v (.ol l'),.v (.tr (.int mo)),.v (.tr kd.x),.v (.tr (.lst ((kd.byt vd).map Dx.int))),.v (.tr (.lst (hoX (holes kd.fil)))),.v (.tr (.int (h.1:Int))),.v (.tr (.int (h.2:Int))),y9,y10]) (fun Q q => ?_) ?_
      · refine go_op (go_cut2 rfl h5 rfl rfl (by decide) (by decide) ?_)
        refine ⟨len1,⟨by omega,by omega,by show 1 * _≤_; omega⟩,?_⟩
        refine ⟨((kd.byt vd).drop h.1).take (h.2 - h.1),List.replicate (h.2 - h.1) 0,?_,?_,?_⟩
        · show Dx.lst (cutX _ _ _) = _
          rw [row_cut (by omega) hb2]
        · show Dx.lst _ = _
          rw [zerosX,show ((h.2:Int) - (h.1:Int)).toNat=h.2 - h.1 from by omega]
        · show Q (!decide (((kd.byt vd).drop h.1).take (h.2 - h.1) = List.replicate (h.2 - h.1) 0)) _
          rw [decide_eq_true (nought_part (by omega) hb2 hz0)]
          exact q
      · refine ⟨rfl, _, (h.2 : Int) - (h.1 : Int), rfl, hP, by omega, by omega, by omega, fun r l2 r0 r1 hP2 => ⟨by show 3 ≤ 1000000; decide, ?_⟩⟩
        obtain ⟨ps,eP,hpl,hps⟩ : ∃ ps:List Nat,[Dx.int (h.1:Int),Dx.int ((h.2:Int) - 1),Dx.int ((h.1:Int) + r)]=ps.map (fun i:Nat=>Dx.int (i:Int))∧ps.length=3∧∀ i∈ps,h.1≤i∧i < h.2:=by
          refine ⟨[h.1,h.2 - 1,h.1 + r.toNat],?_,rfl,fun i hi => ?_⟩
          · simp only [List.map_cons, List.map_nil]
            rw [show (((h.2 - 1:Nat)):Int)=(h.2:Int) - 1 from by omega,show ((h.1 + r.toNat:Nat):Int)=(h.1:Int) + r from by omega]
          · simp only [List.mem_cons, List.not_mem_nil, or_false] at hi
            rcases hi with rfl | rfl | rfl <;> omega
        show forX _ _ _ [Dx.int (h.1:Int),Dx.int ((h.2:Int) - 1),Dx.int ((h.1:Int) + r)] _
        rw [eP]
        refine bc_ (fun i:Nat=>Dx.int (i:Int)) (fun rest2 ρ=>(∀ i∈rest2,h.1≤i∧i < h.2)∧∃ (c2:Nat) (l3:List Dx) (y9 y10:Sl),c2 + rest2.length=3∧ρ=[.v (.tr (.scr K ns)),.v (.tr (.int (0 + (k:Int)))),.v (.ol l3),.v (.tr (.int mo)),.v (.tr kd.x),.v (.tr (.lst ((kd.byt vd).map Dx.int))),.v (.tr (.lst (hoX (holes kd.fil)))),.v (.tr (.int (h.1:Int))),.v (.tr (.int (h.2:Int))),y9,y10]∧PoolX (PB + (c:Int) * 7 + 1 + (c2:Int) * 2) l3) (fun ρ h' => ?_) (fun i rest2 ρ K2 h' hk2 => ?_) ⟨hps,0,l2,y9,y10,by rw [hpl],rfl,hP2.mono (by omega)⟩
        · obtain ⟨_, c2, l3, y9, y10, e2, rfl, hP3⟩ := h'
          rw [List.length_nil] at e2
          exact hk1 _ ⟨fun g hg=>hin g (List.mem_cons_of_mem _ hg),c + 1,_,l3,_,_,_,_,by omega,rfl,rfl,hP3.mono (by push_cast; omega)⟩
        · obtain ⟨hin3, c2, l3, y9, y10, e2, rfl, hP3⟩ := h'
          rw [List.length_cons] at e2
          obtain ⟨hi1,hi2⟩:=hin3 i List.mem_cons_self
          obtain ⟨hir,hibz⟩:=hin2 i hi1 hi2
          refine ⟨rfl,_,255,rfl,hP3,by omega,by decide,by decide,fun r3 l5 r30 r31 hP5=>⟨by show 3≤1000000; decide,?_⟩⟩
          refine ⟨rfl,_,3,rfl,hP5,by omega,by decide,by decide,fun r4 l6 r40 r41 hP6 => ?_⟩
          refine hi_ r40 r41 fun v hv => ?_
          obtain ⟨zb,rfl,hzb⟩:=three_zz hv
          have hzr:1≤zb∧zb < 256:=by omega
          obtain ⟨t1,t2,t3,t4⟩:=turned_at hF hV hir hibz hzr
          dsimp only
          refine go_last (ρ':=[.v (.tr (.scr K ns)),.v (.tr (.int (0 + (k:Int)))),.v (.ol l6),.v (.tr (.int mo)),.v (.tr kd.x),.v (.tr (.lst ((kd.byt vd).map Dx.int))),.v (.tr (.lst (hoX (holes kd.fil)))),.v (.tr (.int (h.1:Int))),.v (.tr (.int (h.2:Int))),.v (.tr (.int (i:Int))),.v (.tr (.int zb))]) (fun Q q => ?_) ?_
          · have e1 := row_front (xs := kd.byt vd) (a := i) (by omega)
            have e3:=row_back (xs:=kd.byt vd) (a:=i + 1) (by omega)
            have hca:∀ lo hi,(cutX ((kd.byt vd).map Dx.int) lo hi).length≤2001:=fun lo hi=>by
              unfold cutX
              rw [List.length_take,List.length_drop,List.length_map]
              omega
            refine ⟨len1,by have:=hca none (some (i:Int)); show _ + 1≤_; omega,?_,kd,vd,(kd.byt vd).set i zb,?_,hF,hV,hd5,by decide,by omega,t1,t2,t3,t4,q⟩
            · have := hca none (some (i : Int))
              have:=hca (some ((i:Int) + 1)) none
              rw [List.length_append]
              show _ + 1 + _≤_
              omega
            · show [kd.x, Dx.lst (cutX ((kd.byt vd).map Dx.int) none (some (i : Int)) ++ [Dx.int zb] ++ cutX ((kd.byt vd).map Dx.int) (some ((i : Int) + 1)) none)] = _
              rw [show ((i:Int) + 1)=((i + 1:Nat):Int) from by omega,e1,e3,set_parts (by omega)]
          · exact hk2 _ ⟨fun j hj=>hin3 j (List.mem_cons_of_mem _ hj),c2 + 1,l6,_,_,by omega,rfl,hP6.mono (by push_cast; omega)⟩
end
structure Fx (K:FG_) (mg:MG_) (nm:Str) (st:Stmt) (ps:List Str) (f:Addr) (fd:FuncData):Prop where
  F:Fun K nm nm st f fd
  b:Binds K fd ps []
  k:PySem.W.keepIn K (.ref f)=true
  m:mg nm=some (.ref f)
theorem Fx.cal {P:Program} {w:World} {K:FG_} {mg:MG_} {base:Heap} {nm:Str} {st:Stmt} {ps:List Str} {f:Addr} {fd:FuncData} {j:Nat} {sp:Sp} (x:Fx K mg nm st ps f fd) (h:FnOk P w K mg base CX0 j f fd ps sp):Cal P w K mg base j nm ps sp:=⟨f,fd,h,x.b,x.k,x.m⟩
theorem fn_noB {P:Program} {w:World} {K:FG_} {mg:MG_} {base:Heap} {j:Nat} {f:Addr} {fd:FuncData} {ps:List Str} {g:GB} (no:∀ l ds Q,¬ g l ds Q):FnOk P w K mg base CX0 j f fd ps (spB g) :=
  ⟨fun vs H Q E h=>by obtain ⟨_,_,_,_,_,_,_,_,_,_,_,_,_,h3,_⟩:=h; exact (no _ _ _ h3).elim,fun A outer s H args us vs Q E hr he hb hv h=>by obtain ⟨_,_,_,_,_,_,_,_,_,_,_,_,_,h3,_⟩:=h; exact (no _ _ _ h3).elim⟩
section
variable {P:Program} {w:World} {K:FG_} {mg:MG_} {base:Heap} {fRU fRO fRS fGM fSO fRR fRC fPB fRH fCA fPO fT fLR fLM fLN fLK fVA fTP fLY fCP fSA fTU fIV fIW fIRV fIDV fICV fNB fLAY fLB fBY f:Addr} {dRU dRO dRS dGM dSO dRR dRC dPB dRH dCA dPO dT dLR dLM dLN dLK dVA dTP dLY dCP dSA dTU dIV dIW dIRV dIDV dICV dNB dLAY dLB dBY fd:FuncData}
structure RoomX (K:FG_) (mg:MG_) (fRU fRO fRS fGM fSO fRR fRC fPB fRH fCA:Addr) (dRU dRO dRS dGM dSO dRR dRC dPB dRH dCA:FuncData):Prop where
  RU:Fx K mg "rounded_up" eb_ ["number", "m"] fRU dRU
  RO:Fx K mg "room_of" fe_ ["kind"] fRO dRO
  RS:Fx K mg "rooms_of" ei_ ["kinds"] fRS dRS
  GM:Fx K mg "greatest_multiple" bh_ ["rooms"] fGM dGM
  SO:Fx K mg "step_of" gh_ ["room"] fSO dSO
  RR:Fx K mg "room_of_row" dh_ ["kind", "n"] fRR dRR
  RC:Fx K mg "room_of_record" bz_ ["kinds"] fRC dRC
  PB:Fx K mg "places_behind" cm_ ["rooms"] fPB dPB
  RH:Fx K mg "room_of_choice" ca_ ["kinds"] fRH dRH
  CA:Fx K mg "chosen_at" er_ ["multiple"] fCA dCA
  m_max:mg "max" = none
  m_zip:mg "zip" = none
theorem eu_ (X:RoomX K mg fRU fRO fRS fGM fSO fRR fRC fPB fRH fCA dRU dRO dRS dGM dSO dRR dRC dPB dRH dCA):∀ n,FnOk P w K mg base CX0 (2 + 3 * n) fRO dRO ["kind"] (spX (gRO n))
  | 0=>rox_none
  | n + 1 => by
    have ih:=eu_ X n
    have GRU:=X.RU.cal (P:=P) (w:=w) (base:=base) (okx_ru X.RU.F)
    have GSO:=X.SO.cal (okx_so X.SO.F GRU)
    have GCA:=X.CA.cal (okx_ca X.CA.F GRU)
    have GGM:=X.GM.cal (P:=P) (w:=w) (base:=base) (okx_gm X.GM.F X.m_max)
    have GPB:=X.PB.cal (okx_pb X.PB.F GRU)
    have GRS:=X.RS.cal (okx_rs X.RS.F (X.RO.cal ih))
    have GRR:=X.RR.cal (okx_rr X.RR.F (X.RO.cal (ih.mono (Nat.le_succ _))) GSO (by omega))
    have GRC:=X.RC.cal (okx_rc X.RC.F GRS GGM GPB GRU X.m_max X.m_zip (by omega))
    have GRH:=X.RH.cal (okx_rh X.RH.F GRS GGM GCA GRU X.m_max (by omega))
    exact (okx_ro X.RO.F GRR GRC GRH).mono (by omega)
theorem pox_all (X:RoomX K mg fRU fRO fRS fGM fSO fRR fRC fPB fRH fCA dRU dRO dRS dGM dSO dRR dRC dPB dRH dCA) (PO:Fx K mg "places_in_order" at_ ["fields"] fPO dPO) (n:Nat):FnOk P w K mg base CX0 (4 + 3 * n) fPO dPO ["fields"] (spX (gPO n)) :=
  (okx_po PO.F (X.PB.cal (okx_pb X.PB.F (X.RU.cal (okx_ru X.RU.F)))) (X.RS.cal (okx_rs X.RS.F (X.RO.cal (eu_ X n)))) X.m_zip (by omega)).mono (by omega)
theorem lmx_all (LM:Fx K mg "_law_room" cc_ ["kind"] fLM dLM) (LR:Fx K mg "_law_rounded" cn_ ["number", "m"] fLR dLR) (m_max:mg "max" = none):∀ n,FnOk P w K mg base CX0 (1 + n) fLM dLM ["kind"] (spX (gLM n))
  | 0=>lmx_none
  | n + 1=>(okx_lm LM.F (LM.cal (lmx_all LM LR m_max n)) (LR.cal (okx_lr LR.F)) m_max (by omega)).mono (by omega)
theorem lkx_all (LK:Fx K mg "_law_kind" dl_ ["pool", "deep", "most"] fLK dLK) (T:Fx K mg "_law_take" dk_ ["pool", "many"] fT dT) (LN:Fx K mg "_law_names" dr_ ["pool", "many"] fLN dLN) (LM:Fx K mg "_law_room" cc_ ["kind"] fLM dLM) (LR:Fx K mg "_law_rounded" cn_ ["number", "m"] fLR dLR)
    (m_max:mg "max" = none) (m_range:mg "range" = none) (m_len:mg "len" = none) (m_int:mg "int" = none):∀ n,FnOk P w K mg base CX0 (6 + n) fLK dLK ["pool", "deep", "most"] (spB (gLK n))
  | 0=>fn_noB fun l ds Q h=>by obtain ⟨_,_,_,_,_,_,_,_,_⟩:=h; omega
  | n + 1=>(okx_lk LK.F (T.cal (okx_take T.F)) (LN.cal (names_b (ok_ln LN.F (ok_take T.F) T.b T.k T.m m_range m_len))) (LM.cal (lmx_all LM LR m_max 5)) (by omega) (by omega) (LK.cal (lkx_all LK T LN LM LR m_max m_range m_len m_int n)) m_range m_int).mono (by omega)
theorem vax_all (VA:Fx K mg "_law_value" dq_ ["pool", "kind"] fVA dVA) (T:Fx K mg "_law_take" dk_ ["pool", "many"] fT dT) (TP:Fx K mg "_law_top" gi_ ["width"] fTP dTP) (m_range:mg "range" = none) (m_len:mg "len" = none):∀ n,FnOk P w K mg base CX0 (1 + n) fVA dVA ["pool", "kind"] (spB (gVA n))
  | 0=>fn_noB fun l ds Q h=>by obtain ⟨_,kd,_,_,_,hd,_⟩:=h; have:=Kd.deep_pos kd; omega
  | n + 1=>(okx_va VA.F (T.cal (okx_take T.F)) (TP.cal (okx_tp TP.F m_range)) (VA.cal (vax_all VA T TP m_range m_len n)) m_range m_len (by omega)).mono (by omega)
structure IvX (K:FG_) (mg:MG_) (fIV fIW fIRV fIDV fICV:Addr) (dIV dIW dIRV dIDV dICV:FuncData):Prop where
  IV:Fx K mg "is_value" fq_ ["kind", "thing"] fIV dIV
  IW:Fx K mg "is_whole" fp_ ["thing"] fIW dIW
  IRV:Fx K mg "is_row_value" ci_ ["kind", "n", "thing"] fIRV dIRV
  IDV:Fx K mg "is_record_value" bg_ ["fields", "thing"] fIDV dIDV
  ICV:Fx K mg "is_choice_value" cg_ ["kinds", "thing"] fICV dICV
  m_isinstance:mg "isinstance" = none
  m_int:mg "int" = none
  m_bool:mg "bool" = none
  m_list:mg "list" = none
  m_tuple:mg "tuple" = none
  m_dict:mg "dict" = none
  m_str:mg "str" = none
  m_len:mg "len" = none
  m_all:mg "all" = none
  c_BITS:∃ t,mg "BITS_OF_A_BYTE" = some (.int 8 t)
theorem ivx_all (X:IvX K mg fIV fIW fIRV fIDV fICV dIV dIW dIRV dIDV dICV):∀ n,FnOk P w K mg base CX0 (1 + 2 * n) fIV dIV ["kind", "thing"] (spX (gIV n))
  | 0=>ivx_none
  | n + 1 => by
    have ih:=X.IV.cal (ivx_all X n)
    have GIW:=X.IW.cal (P:=P) (w:=w) (base:=base) (okx_iw X.IW.F X.m_isinstance X.m_int X.m_bool)
    exact (okx_iv X.IV.F GIW (X.IRV.cal (okx_irv X.IRV.F ih X.m_isinstance X.m_list X.m_len X.m_all)) (X.IDV.cal (okx_idv X.IDV.F ih X.m_isinstance X.m_dict X.m_str X.m_len X.m_all)) (X.ICV.cal (okx_icv X.ICV.F ih GIW X.m_isinstance X.m_tuple X.m_len (by omega))) X.c_BITS (by omega)).mono (by omega)
theorem lbx_all (X:RoomX K mg fRU fRO fRS fGM fSO fRR fRC fPB fRH fCA dRU dRO dRS dGM dSO dRR dRC dPB dRH dCA) (PO:Fx K mg "places_in_order" at_ ["fields"] fPO dPO) (NB:Fx K mg "number_bytes" cy_ ["w", "value"] fNB dNB) (LAY:Fx K mg "lay" s_lay ["laid", "place", "some"] fLAY dLAY) (LB:Fx K mg "laid_bytes" ec_ ["kind", "value"] fLB dLB)
    (c_HOW:∃ t,mg "HOW_MANY_BYTES" = some (.int 256 t)) (m_range:mg "range" = none) (m_enumerate:mg "enumerate" = none):∀ n,FnOk P w K mg base CX0 (5 + 3 * n) fLB dLB ["kind", "value"] (spX (gLB n))
  | 0=>fn_no fun ds Q h=>by obtain ⟨kd,_,_,_,_,_,_,hd,_⟩:=h; have:=Kd.deep_pos kd; omega
  | n + 1 => by
    have ih:=LB.cal (lbx_all X PO NB LAY LB c_HOW m_range m_enumerate n)
    have GRU:=X.RU.cal (P:=P) (w:=w) (base:=base) (okx_ru X.RU.F)
    exact (okx_lb LB.F (NB.cal (okx_nb NB.F c_HOW m_range)) (X.RO.cal (eu_ X (n + 1))) (X.SO.cal (okx_so X.SO.F GRU)) (PO.cal (pox_all X PO n)) (X.CA.cal (okx_ca X.CA.F GRU)) (LAY.cal (okx_lay LAY.F m_enumerate)) ih X.m_zip m_enumerate (by omega) (by omega) (by omega)).mono (by omega)
theorem vtx_all {fVT fNA fRD fCH:Addr} {dVT dNA dRD dCH:FuncData} (X:RoomX K mg fRU fRO fRS fGM fSO fRR fRC fPB fRH fCA dRU dRO dRS dGM dSO dRR dRC dPB dRH dCA) (PO:Fx K mg "places_in_order" at_ ["fields"] fPO dPO) (VT:Fx K mg "value_at" eh_ ["kind", "some", "place"] fVT dVT) (NA:Fx K mg "number_at" ep_ ["w", "some", "place"] fNA dNA) (RD:Fx K mg "record_at" eo_ ["fields", "some", "place"] fRD dRD) (CH:Fx K mg "choice_at" es_ ["kind", "some", "place"] fCH dCH)
    (c_HOW:∃ t,mg "HOW_MANY_BYTES" = some (.int 256 t)) (m_range:mg "range" = none) (m_reversed:mg "reversed" = none) (m_len:mg "len" = none):∀ n,FnOk P w K mg base CX0 (5 + 3 * n) fVT dVT ["kind", "some", "place"] (spX (gVT n))
  | 0=>vtx_none
  | n + 1 => by
    have ih:=VT.cal (vtx_all X PO VT NA RD CH c_HOW m_range m_reversed m_len n)
    have GRU:=X.RU.cal (P:=P) (w:=w) (base:=base) (okx_ru X.RU.F)
    exact (okx_vt VT.F (NA.cal (okx_na NA.F c_HOW m_reversed)) ih (X.RO.cal (eu_ X n)) (X.SO.cal (okx_so X.SO.F GRU)) (RD.cal (okx_rd RD.F ih (PO.cal (pox_all X PO n)) X.m_zip (by omega))) (CH.cal (okx_ch CH.F ih (X.RO.cal (eu_ X (n + 1))) (X.CA.cal (okx_ca X.CA.F GRU)) m_len (by omega) (by omega))) m_range (by omega) (by omega)).mono (by omega)
theorem Fx.calE {nm:Str} {st:Stmt} {ps:List Str} {j:Nat} {sp:Sp} (x:Fx K mg nm st ps f fd) (h:FnOk P w K mg base (CXe P w) j f fd ps sp):CalE P w K mg base j nm ps sp:=⟨f,fd,h,x.b,x.k,x.m⟩
theorem fbx_all {fFB fFS fFR fFC fFI:Addr} {dFB dFS dFR dFC dFI:FuncData} (X:RoomX K mg fRU fRO fRS fGM fSO fRR fRC fPB fRH fCA dRU dRO dRS dGM dSO dRR dRC dPB dRH dCA) (PO:Fx K mg "places_in_order" at_ ["fields"] fPO dPO) (FB:Fx K mg "filled_bytes" cz_ ["kind"] fFB dFB) (FS:Fx K mg "filled_step" di_ ["kind"] fFS dFS) (FR:Fx K mg "filled_record" cq_ ["kind"] fFR dFR) (FC:Fx K mg "filled_choice" cr_ ["kind"] fFC dFC) (FI:Fx K mg "fill" s_fill ["filled", "place", "kind"] fFI dFI) (m_enumerate:mg "enumerate" = none):∀ n,FnOk P w K mg base CX0 (5 + 3 * n) fFB dFB ["kind"] (spX (gFB n))
  | 0=>fbx_none
  | n + 1 => by
    have ih:=FB.cal (fbx_all X PO FB FS FR FC FI m_enumerate n)
    have GRU:=X.RU.cal (P:=P) (w:=w) (base:=base) (okx_ru X.RU.F)
    have GFI:=FI.cal (okx_fi FI.F ih m_enumerate)
    exact (okx_fb FB.F (FS.cal (okx_fs FS.F (X.RO.cal (eu_ X n)) (X.SO.cal (okx_so X.SO.F GRU)) GFI (by omega) (by omega))) (FR.cal (okx_fr FR.F (X.RO.cal (eu_ X (n + 1))) (PO.cal (pox_all X PO n)) GFI X.m_zip (by omega) (by omega))) (FC.cal (okx_fc FC.F (X.RO.cal (eu_ X (n + 1))) (X.CA.cal (okx_ca X.CA.F GRU)) GFI (by omega) (by omega)))).mono (by omega)
theorem lcx_all {fLC:Addr} {dLC:FuncData} (LC:Fx K mg "_law_chooses" co_ ["kind"] fLC dLC):∀ n,FnOk P w K mg base CX0 n fLC dLC ["kind"] (spX (gLC n))
  | 0=>fn_no fun ds Q h=>by obtain ⟨kd,_,_,hd,_⟩:=h; have:=Kd.deep_pos kd; omega
  | n + 1=>okx_lc LC.F (LC.cal (lcx_all LC n))
end
structure VConsts (mg:MG_):Prop where
  many:∃ t,mg "HOW_MANY_BYTES" = some (.int 256 t)
  bits:∃ t,mg "BITS_OF_A_BYTE" = some (.int 8 t)
theorem mkTw:Nat.ble 1 PySem.Challenge.pw_laidfields_k24_whole_idle_bytes.main.body.length=true:=by k_qdec
def asgV (s:Stmt):Option V:=match s with
  | .Assign _ (.Constant (.int i) _ _) _=>some (.int i)
  | .Assign _ (.Constant (.str x) _ _) _=>some (.str x)
  | _=>none
def litV (e:Expr):Option V:=match e with
  | .Constant (.int i) _ _=>some (.int i)
  | _=>none
def asgT (s:Stmt):Option (List (Option V)):=match s with
  | .Assign _ (.Tuple es _ _) _=>some (es.map litV)
  | _=>none
def seenF (p:Program) (K:FG_):List FO×List Bool×List (Option V)×List (Option (List (Option V)))×List OX:=([5,6,7,8,9,10,11,12,13,14,15,17,18,19,20,21,22,23,27,28,29,30,31,32,33,34,35,36,37,38,39,40,41,43,44,45,46,47,48,51,52,53,54,55,56].map fun i=>obsDef K (defName (topOf p i)),bltNs.map (obsNo K),[25,26].map fun i=>obsVal K (defName (topOf p i)),[].map fun i=>obsTup K (defName (topOf p i)),obsX K ["NoBytes"])
def seenV (p:Program):List FO×List Bool×List (Option V)×List (Option (List (Option V)))×List OX:=([5,6,7,8,9,10,11,12,13,14,15,17,18,19,20,21,22,23,27,28,29,30,31,32,33,34,35,36,37,38,39,40,41,43,44,45,46,47,48,51,52,53,54,55,56].map fun i=>expDef (topOf p i),List.replicate 17 true,[25,26].map fun i=>asgV (topOf p i),[].map fun i=>asgT (topOf p i),[(true,[(some true,true)],some true,some false)])
theorem once_top:∀ w:World,onceSeen PySem.W.topRun treeTable importedModules (fun m s=>PySem.W.openSeen (PySem.W.view PySem.Challenge.pw_laidfields_k24_whole_idle_bytes [1,2,3,5,6,7,8,9,10,11,12,13,14,15,17,18,19,20,21,22,23,25,26,27,28,29,30,31,32,33,34,35,36,37,38,39,40,41,43,44,45,46,47,48,49,50,51,52,53,54,55,56]) [] m (fun s=>PySem.W.xlAt (PySem.W.view PySem.Challenge.pw_laidfields_k24_whole_idle_bytes [1,2,3,5,6,7,8,9,10,11,12,13,14,15,17,18,19,20,21,22,23,25,26,27,28,29,30,31,32,33,34,35,36,37,38,39,40,41,43,44,45,46,47,48,49,50,51,52,53,54,55,56]) [] s && PySem.W.recOk [] s) true s) PySem.Challenge.pw_laidfields_k24_whole_idle_bytes 4250 (seenF PySem.Challenge.pw_laidfields_k24_whole_idle_bytes) w=fun _=>some (true,PySem.W.openGood (PySem.W.view PySem.Challenge.pw_laidfields_k24_whole_idle_bytes [1,2,3,5,6,7,8,9,10,11,12,13,14,15,17,18,19,20,21,22,23,25,26,27,28,29,30,31,32,33,34,35,36,37,38,39,40,41,43,44,45,46,47,48,49,50,51,52,53,54,55,56]) [],seenV PySem.Challenge.pw_laidfields_k24_whole_idle_bytes):=by
  have _:=mkTw
  rw [PySem.W.Fast.te1408192892382122968,PySem.W.Fast.te14082659384304107361,PySem.W.Fast.te14364793385576792824,PySem.W.Fast.te5923862056798008813,PySem.W.Fast.te4187177175401517315]
  exact fun w=>by kernel_rfl
theorem left_top:PySem.W.LeftO PySem.Challenge.pw_laidfields_k24_whole_idle_bytes (PySem.W.view PySem.Challenge.pw_laidfields_k24_whole_idle_bytes [1,2,3,5,6,7,8,9,10,11,12,13,14,15,17,18,19,20,21,22,23,25,26,27,28,29,30,31,32,33,34,35,36,37,38,39,40,41,43,44,45,46,47,48,49,50,51,52,53,54,55,56]) [] (fun s=>PySem.W.xlAt (PySem.W.view PySem.Challenge.pw_laidfields_k24_whole_idle_bytes [1,2,3,5,6,7,8,9,10,11,12,13,14,15,17,18,19,20,21,22,23,25,26,27,28,29,30,31,32,33,34,35,36,37,38,39,40,41,43,44,45,46,47,48,49,50,51,52,53,54,55,56]) [] s && PySem.W.recOk [] s) (exHook (seenF PySem.Challenge.pw_laidfields_k24_whole_idle_bytes) (seenV PySem.Challenge.pw_laidfields_k24_whole_idle_bytes)).obs (exHook (seenF PySem.Challenge.pw_laidfields_k24_whole_idle_bytes) (seenV PySem.Challenge.pw_laidfields_k24_whole_idle_bytes)).val 4250 true:=left_once (by decide) (by kernel_rfl) (fun s=>by kernel_rfl) once_top
theorem mem_map_eq {α:Type} {f g:Nat→α}:∀ {l:List Nat},l.map f=l.map g→∀ i,i∈l→f i=g i:=fun h i hi=>List.map_inj_left.mp h i hi
theorem binds_law {K:FG_} {f:Addr} {fd:FuncData} (F:Fun K "law" "law" s_law f fd) (s:Shared) (v:Value):BindsTo s fd ⟨[v],[]⟩ [("script",v)]:=by
  obtain ⟨oc,od,kV,doc,pm,an,cdv,ct,osl,rfl,_⟩:=F.ex
  exact .of_eq rfl
theorem all_mk {l:PySem.W.OpenLaw} {w:World} {K:FG_} {mg:MG_} {fa:Addr} {h:Heap} (hK:seenF PySem.Challenge.pw_laidfields_k24_whole_idle_bytes K=seenV PySem.Challenge.pw_laidfields_k24_whole_idle_bytes) (X:K.In h) (G:h.Ns mainGlobals mg) (hfa:mg "law" = some (.ref fa)) :
    ∃ fd:FuncData,(∀ (s:Shared) (v:Value),BindsTo s fd ⟨[v],[]⟩ [("script",v)])∧∀ base:Heap,K.In base→base.Ns mainGlobals mg→FnOk l.prog w K mg base CX0 30 fa fd ["script"] (spLaw K):=by
  have hd:=mem_map_eq (f:=fun i=>obsDef K (defName (topOf PySem.Challenge.pw_laidfields_k24_whole_idle_bytes i))) (g:=fun i=>expDef (topOf PySem.Challenge.pw_laidfields_k24_whole_idle_bytes i)) (l:=[5,6,7,8,9,10,11,12,13,14,15,17,18,19,20,21,22,23,27,28,29,30,31,32,33,34,35,36,37,38,39,40,41,43,44,45,46,47,48,51,52,53,54,55,56]) (congrArg (fun x=>x.1) hK)
  have hn:bltNs.map (obsNo K)=List.replicate 17 true:=congrArg (fun x=>x.2.1) hK
  have hc:=mem_map_eq (f:=fun i=>obsVal K (defName (topOf PySem.Challenge.pw_laidfields_k24_whole_idle_bytes i))) (g:=fun i=>asgV (topOf PySem.Challenge.pw_laidfields_k24_whole_idle_bytes i)) (l:=[25,26]) (congrArg (fun x=>x.2.2.1) hK)
  obtain ⟨f5,d5,a5,F5⟩:=ah_ (hd 5 (by decide))
  have x_is_whole:Fx K mg "is_whole" fp_ ["thing"] f5 d5:=⟨F5,binds1 F5 (fun _ _ _ _ _ _ _=>rfl),F5.kp,PySem.W.mg_of X G a5⟩
  obtain ⟨f6,d6,a6,F6⟩:=ah_ (hd 6 (by decide))
  have x_rounded_up:Fx K mg "rounded_up" eb_ ["number", "m"] f6 d6:=⟨F6,binds2 F6 (fun _ _ _ _ _ _ _ _=>rfl),F6.kp,PySem.W.mg_of X G a6⟩
  obtain ⟨f7,d7,a7,F7⟩:=ah_ (hd 7 (by decide))
  have x_room_of:Fx K mg "room_of" fe_ ["kind"] f7 d7:=⟨F7,binds1 F7 (fun _ _ _ _ _ _ _=>rfl),F7.kp,PySem.W.mg_of X G a7⟩
  obtain ⟨f8,d8,a8,F8⟩:=ah_ (hd 8 (by decide))
  have x_rooms_of:Fx K mg "rooms_of" ei_ ["kinds"] f8 d8:=⟨F8,binds1 F8 (fun _ _ _ _ _ _ _=>rfl),F8.kp,PySem.W.mg_of X G a8⟩
  obtain ⟨f9,d9,a9,F9⟩:=ah_ (hd 9 (by decide))
  have x_greatest_multiple:Fx K mg "greatest_multiple" bh_ ["rooms"] f9 d9:=⟨F9,binds1 F9 (fun _ _ _ _ _ _ _=>rfl),F9.kp,PySem.W.mg_of X G a9⟩
  obtain ⟨f10,d10,a10,F10⟩:=ah_ (hd 10 (by decide))
  have x_step_of:Fx K mg "step_of" gh_ ["room"] f10 d10:=⟨F10,binds1 F10 (fun _ _ _ _ _ _ _=>rfl),F10.kp,PySem.W.mg_of X G a10⟩
  obtain ⟨f11,d11,a11,F11⟩:=ah_ (hd 11 (by decide))
  have x_room_of_row:Fx K mg "room_of_row" dh_ ["kind", "n"] f11 d11:=⟨F11,binds2 F11 (fun _ _ _ _ _ _ _ _=>rfl),F11.kp,PySem.W.mg_of X G a11⟩
  obtain ⟨f12,d12,a12,F12⟩:=ah_ (hd 12 (by decide))
  have x_room_of_record:Fx K mg "room_of_record" bz_ ["kinds"] f12 d12:=⟨F12,binds1 F12 (fun _ _ _ _ _ _ _=>rfl),F12.kp,PySem.W.mg_of X G a12⟩
  obtain ⟨f13,d13,a13,F13⟩:=ah_ (hd 13 (by decide))
  have x_places_behind:Fx K mg "places_behind" cm_ ["rooms"] f13 d13:=⟨F13,binds1 F13 (fun _ _ _ _ _ _ _=>rfl),F13.kp,PySem.W.mg_of X G a13⟩
  obtain ⟨f14,d14,a14,F14⟩:=ah_ (hd 14 (by decide))
  have x_room_of_choice:Fx K mg "room_of_choice" ca_ ["kinds"] f14 d14:=⟨F14,binds1 F14 (fun _ _ _ _ _ _ _=>rfl),F14.kp,PySem.W.mg_of X G a14⟩
  obtain ⟨f15,d15,a15,F15⟩:=ah_ (hd 15 (by decide))
  have x_chosen_at:Fx K mg "chosen_at" er_ ["multiple"] f15 d15:=⟨F15,binds1 F15 (fun _ _ _ _ _ _ _=>rfl),F15.kp,PySem.W.mg_of X G a15⟩
  obtain ⟨f17,d17,a17,F17⟩:=ah_ (hd 17 (by decide))
  have x_places_in_order:Fx K mg "places_in_order" at_ ["fields"] f17 d17:=⟨F17,binds1 F17 (fun _ _ _ _ _ _ _=>rfl),F17.kp,PySem.W.mg_of X G a17⟩
  obtain ⟨f18,d18,a18,F18⟩:=ah_ (hd 18 (by decide))
  have x_holes_of:Fx K mg "holes_of" gx_ ["kind"] f18 d18:=⟨F18,binds1 F18 (fun _ _ _ _ _ _ _=>rfl),F18.kp,PySem.W.mg_of X G a18⟩
  obtain ⟨f19,d19,a19,F19⟩:=ah_ (hd 19 (by decide))
  have x_filled_bytes:Fx K mg "filled_bytes" cz_ ["kind"] f19 d19:=⟨F19,binds1 F19 (fun _ _ _ _ _ _ _=>rfl),F19.kp,PySem.W.mg_of X G a19⟩
  obtain ⟨f20,d20,a20,F20⟩:=ah_ (hd 20 (by decide))
  have x_filled_step:Fx K mg "filled_step" di_ ["kind"] f20 d20:=⟨F20,binds1 F20 (fun _ _ _ _ _ _ _=>rfl),F20.kp,PySem.W.mg_of X G a20⟩
  obtain ⟨f21,d21,a21,F21⟩:=ah_ (hd 21 (by decide))
  have x_filled_record:Fx K mg "filled_record" cq_ ["kind"] f21 d21:=⟨F21,binds1 F21 (fun _ _ _ _ _ _ _=>rfl),F21.kp,PySem.W.mg_of X G a21⟩
  obtain ⟨f22,d22,a22,F22⟩:=ah_ (hd 22 (by decide))
  have x_filled_choice:Fx K mg "filled_choice" cr_ ["kind"] f22 d22:=⟨F22,binds1 F22 (fun _ _ _ _ _ _ _=>rfl),F22.kp,PySem.W.mg_of X G a22⟩
  obtain ⟨f23,d23,a23,F23⟩:=ah_ (hd 23 (by decide))
  have x_fill:Fx K mg "fill" s_fill ["filled", "place", "kind"] f23 d23:=⟨F23,binds3 F23 (fun _ _ _ _ _ _ _ _ _=>rfl),F23.kp,PySem.W.mg_of X G a23⟩
  obtain ⟨f27,d27,a27,F27⟩:=ah_ (hd 27 (by decide))
  have x_is_value:Fx K mg "is_value" fq_ ["kind", "thing"] f27 d27:=⟨F27,binds2 F27 (fun _ _ _ _ _ _ _ _=>rfl),F27.kp,PySem.W.mg_of X G a27⟩
  obtain ⟨f28,d28,a28,F28⟩:=ah_ (hd 28 (by decide))
  have x_is_row_value:Fx K mg "is_row_value" ci_ ["kind", "n", "thing"] f28 d28:=⟨F28,binds3 F28 (fun _ _ _ _ _ _ _ _ _=>rfl),F28.kp,PySem.W.mg_of X G a28⟩
  obtain ⟨f29,d29,a29,F29⟩:=ah_ (hd 29 (by decide))
  have x_is_record_value:Fx K mg "is_record_value" bg_ ["fields", "thing"] f29 d29:=⟨F29,binds2 F29 (fun _ _ _ _ _ _ _ _=>rfl),F29.kp,PySem.W.mg_of X G a29⟩
  obtain ⟨f30,d30,a30,F30⟩:=ah_ (hd 30 (by decide))
  have x_is_choice_value:Fx K mg "is_choice_value" cg_ ["kinds", "thing"] f30 d30:=⟨F30,binds2 F30 (fun _ _ _ _ _ _ _ _=>rfl),F30.kp,PySem.W.mg_of X G a30⟩
  obtain ⟨f31,d31,a31,F31⟩:=ah_ (hd 31 (by decide))
  have x_bytes_of:Fx K mg "bytes_of" gy_ ["kind", "thing"] f31 d31:=⟨F31,binds2 F31 (fun _ _ _ _ _ _ _ _=>rfl),F31.kp,PySem.W.mg_of X G a31⟩
  obtain ⟨f32,d32,a32,F32⟩:=ah_ (hd 32 (by decide))
  have x_laid_bytes:Fx K mg "laid_bytes" ec_ ["kind", "value"] f32 d32:=⟨F32,binds2 F32 (fun _ _ _ _ _ _ _ _=>rfl),F32.kp,PySem.W.mg_of X G a32⟩
  obtain ⟨f33,d33,a33,F33⟩:=ah_ (hd 33 (by decide))
  have x_number_bytes:Fx K mg "number_bytes" cy_ ["w", "value"] f33 d33:=⟨F33,binds2 F33 (fun _ _ _ _ _ _ _ _=>rfl),F33.kp,PySem.W.mg_of X G a33⟩
  obtain ⟨f34,d34,a34,F34⟩:=ah_ (hd 34 (by decide))
  have x_lay:Fx K mg "lay" s_lay ["laid", "place", "some"] f34 d34:=⟨F34,binds3 F34 (fun _ _ _ _ _ _ _ _ _=>rfl),F34.kp,PySem.W.mg_of X G a34⟩
  obtain ⟨f35,d35,a35,F35⟩:=ah_ (hd 35 (by decide))
  have x_value_of:Fx K mg "value_of" fo_ ["kind", "thing"] f35 d35:=⟨F35,binds2 F35 (fun _ _ _ _ _ _ _ _=>rfl),F35.kp,PySem.W.mg_of X G a35⟩
  obtain ⟨f36,d36,a36,F36⟩:=ah_ (hd 36 (by decide))
  have x_are_bytes:Fx K mg "are_bytes" et_ ["thing", "how_many"] f36 d36:=⟨F36,binds2 F36 (fun _ _ _ _ _ _ _ _=>rfl),F36.kp,PySem.W.mg_of X G a36⟩
  obtain ⟨f37,d37,a37,F37⟩:=ah_ (hd 37 (by decide))
  have x_is_byte:Fx K mg "is_byte" ig_ ["thing"] f37 d37:=⟨F37,binds1 F37 (fun _ _ _ _ _ _ _=>rfl),F37.kp,PySem.W.mg_of X G a37⟩
  obtain ⟨f38,d38,a38,F38⟩:=ah_ (hd 38 (by decide))
  have x_value_at:Fx K mg "value_at" eh_ ["kind", "some", "place"] f38 d38:=⟨F38,binds3 F38 (fun _ _ _ _ _ _ _ _ _=>rfl),F38.kp,PySem.W.mg_of X G a38⟩
  obtain ⟨f39,d39,a39,F39⟩:=ah_ (hd 39 (by decide))
  have x_number_at:Fx K mg "number_at" ep_ ["w", "some", "place"] f39 d39:=⟨F39,binds3 F39 (fun _ _ _ _ _ _ _ _ _=>rfl),F39.kp,PySem.W.mg_of X G a39⟩
  obtain ⟨f40,d40,a40,F40⟩:=ah_ (hd 40 (by decide))
  have x_record_at:Fx K mg "record_at" eo_ ["fields", "some", "place"] f40 d40:=⟨F40,binds3 F40 (fun _ _ _ _ _ _ _ _ _=>rfl),F40.kp,PySem.W.mg_of X G a40⟩
  obtain ⟨f41,d41,a41,F41⟩:=ah_ (hd 41 (by decide))
  have x_choice_at:Fx K mg "choice_at" es_ ["kind", "some", "place"] f41 d41:=⟨F41,binds3 F41 (fun _ _ _ _ _ _ _ _ _=>rfl),F41.kp,PySem.W.mg_of X G a41⟩
  obtain ⟨f43,d43,a43,F43⟩:=ah_ (hd 43 (by decide))
  have x__law_pool:Fx K mg "_law_pool" gw_ ["script", "k"] f43 d43:=⟨F43,binds2 F43 (fun _ _ _ _ _ _ _ _=>rfl),F43.kp,PySem.W.mg_of X G a43⟩
  obtain ⟨f44,d44,a44,F44⟩:=ah_ (hd 44 (by decide))
  have x__law_take:Fx K mg "_law_take" dk_ ["pool", "many"] f44 d44:=⟨F44,binds2 F44 (fun _ _ _ _ _ _ _ _=>rfl),F44.kp,PySem.W.mg_of X G a44⟩
  obtain ⟨f45,d45,a45,F45⟩:=ah_ (hd 45 (by decide))
  have x__law_rounded:Fx K mg "_law_rounded" cn_ ["number", "m"] f45 d45:=⟨F45,binds2 F45 (fun _ _ _ _ _ _ _ _=>rfl),F45.kp,PySem.W.mg_of X G a45⟩
  obtain ⟨f46,d46,a46,F46⟩:=ah_ (hd 46 (by decide))
  have x__law_room:Fx K mg "_law_room" cc_ ["kind"] f46 d46:=⟨F46,binds1 F46 (fun _ _ _ _ _ _ _=>rfl),F46.kp,PySem.W.mg_of X G a46⟩
  obtain ⟨f47,d47,a47,F47⟩:=ah_ (hd 47 (by decide))
  have x__law_names:Fx K mg "_law_names" dr_ ["pool", "many"] f47 d47:=⟨F47,binds2 F47 (fun _ _ _ _ _ _ _ _=>rfl),F47.kp,PySem.W.mg_of X G a47⟩
  obtain ⟨f48,d48,a48,F48⟩:=ah_ (hd 48 (by decide))
  have x__law_kind:Fx K mg "_law_kind" dl_ ["pool", "deep", "most"] f48 d48:=⟨F48,binds3 F48 (fun _ _ _ _ _ _ _ _ _=>rfl),F48.kp,PySem.W.mg_of X G a48⟩
  obtain ⟨f51,d51,a51,F51⟩:=ah_ (hd 51 (by decide))
  have x__law_top:Fx K mg "_law_top" gi_ ["width"] f51 d51:=⟨F51,binds1 F51 (fun _ _ _ _ _ _ _=>rfl),F51.kp,PySem.W.mg_of X G a51⟩
  obtain ⟨f52,d52,a52,F52⟩:=ah_ (hd 52 (by decide))
  have x__law_value:Fx K mg "_law_value" dq_ ["pool", "kind"] f52 d52:=⟨F52,binds2 F52 (fun _ _ _ _ _ _ _ _=>rfl),F52.kp,PySem.W.mg_of X G a52⟩
  obtain ⟨f53,d53,a53,F53⟩:=ah_ (hd 53 (by decide))
  have x__law_chooses:Fx K mg "_law_chooses" co_ ["kind"] f53 d53:=⟨F53,binds1 F53 (fun _ _ _ _ _ _ _=>rfl),F53.kp,PySem.W.mg_of X G a53⟩
  obtain ⟨f54,d54,a54,F54⟩:=ah_ (hd 54 (by decide))
  have x__law_refused:Fx K mg "_law_refused" eq_ ["kind", "row"] f54 d54:=⟨F54,binds2 F54 (fun _ _ _ _ _ _ _ _=>rfl),F54.kp,PySem.W.mg_of X G a54⟩
  obtain ⟨f55,d55,a55,F55⟩:=ah_ (hd 55 (by decide))
  have x__law_any_right:Fx K mg "_law_any_right" cp_ ["pool", "kind", "idle"] f55 d55:=⟨F55,binds3 F55 (fun _ _ _ _ _ _ _ _ _=>rfl),F55.kp,PySem.W.mg_of X G a55⟩
  obtain ⟨f56,d56,a56,F56⟩:=ah_ (hd 56 (by decide))
  have x_law:Fx K mg "law" s_law ["script"] f56 d56:=⟨F56,binds1 F56 (fun _ _ _ _ _ _ _=>rfl),F56.kp,PySem.W.mg_of X G a56⟩
  have m_isinstance:mg "isinstance" = none:=PySem.W.mg_none_of X G (gb_ hn 0 (by decide) (by rfl))
  have m_int:mg "int" = none:=PySem.W.mg_none_of X G (gb_ hn 1 (by decide) (by rfl))
  have m_bool:mg "bool" = none:=PySem.W.mg_none_of X G (gb_ hn 2 (by decide) (by rfl))
  have m_list:mg "list" = none:=PySem.W.mg_none_of X G (gb_ hn 3 (by decide) (by rfl))
  have m_len:mg "len" = none:=PySem.W.mg_none_of X G (gb_ hn 4 (by decide) (by rfl))
  have m_str:mg "str" = none:=PySem.W.mg_none_of X G (gb_ hn 5 (by decide) (by rfl))
  have m_tuple:mg "tuple" = none:=PySem.W.mg_none_of X G (gb_ hn 6 (by decide) (by rfl))
  have m_all:mg "all" = none:=PySem.W.mg_none_of X G (gb_ hn 7 (by decide) (by rfl))
  have m_dict:mg "dict" = none:=PySem.W.mg_none_of X G (gb_ hn 8 (by decide) (by rfl))
  have m_max:mg "max" = none:=PySem.W.mg_none_of X G (gb_ hn 9 (by decide) (by rfl))
  have m_min:mg "min" = none:=PySem.W.mg_none_of X G (gb_ hn 10 (by decide) (by rfl))
  have m_range:mg "range" = none:=PySem.W.mg_none_of X G (gb_ hn 11 (by decide) (by rfl))
  have m_zip:mg "zip" = none:=PySem.W.mg_none_of X G (gb_ hn 12 (by decide) (by rfl))
  have m_enumerate:mg "enumerate" = none:=PySem.W.mg_none_of X G (gb_ hn 13 (by decide) (by rfl))
  have m_reversed:mg "reversed" = none:=PySem.W.mg_none_of X G (gb_ hn 16 (by decide) (by rfl))
  obtain ⟨_,c_HOW_MANY_BYTES,r_HOW_MANY_BYTES⟩:=obsVal_ex (x:=.int 256) (hc 25 (by decide))
  obtain ⟨_,rfl⟩:=r_HOW_MANY_BYTES
  obtain ⟨_,c_BITS_OF_A_BYTE,r_BITS_OF_A_BYTE⟩:=obsVal_ex (x:=.int 8) (hc 26 (by decide))
  obtain ⟨_,rfl⟩:=r_BITS_OF_A_BYTE
  have hx:obsX K ["NoBytes"]=[(true,[(some true,true)],some true,some false)]:=congrArg (fun x=>x.2.2.2.2) hK
  rw [obsX_eq] at hx
  simp only [List.map_cons,List.map_nil,List.cons.injEq,and_true] at hx
  have hx_NoBytes:=hx
  obtain ⟨C_NoBytes,cls_NoBytes,l_NoBytes,v_NoBytes,n_NoBytes⟩:=cls_ex hx_NoBytes X G
  have x_vconsts:VConsts mg:=⟨⟨_,PySem.W.mg_of X G c_HOW_MANY_BYTES⟩,⟨_,PySem.W.mg_of X G c_BITS_OF_A_BYTE⟩⟩
  have e:=hfa.symm.trans x_law.m
  cases e
  refine ⟨d56,fun s v=>binds_law x_law.F s v,fun base hbK _ => ?_⟩
  exact have RX:=(⟨x_rounded_up,x_room_of,x_rooms_of,x_greatest_multiple,x_step_of,x_room_of_row,x_room_of_record,x_places_behind,x_room_of_choice,x_chosen_at,m_max,m_zip⟩ : RoomX K mg _ _ _ _ _ _ _ _ _ _ _ _ _ _ _ _ _ _ _ _)
    have IX:=(⟨x_is_value,x_is_whole,x_is_row_value,x_is_record_value,x_is_choice_value,m_isinstance,m_int,m_bool,m_list,m_tuple,m_dict,m_str,m_len,m_all,x_vconsts.bits⟩ : IvX K mg _ _ _ _ _ _ _ _ _ _)
    have GLB:=x_laid_bytes.cal (P:=l.prog) (w:=w) (base:=base) (lbx_all RX x_places_in_order x_number_bytes x_lay x_laid_bytes x_vconsts.many m_range m_enumerate 5)
    have GIV:=x_is_value.cal (P:=l.prog) (w:=w) (base:=base) (ivx_all IX 5)
    have GBY:=x_bytes_of.cal (okx_by x_bytes_of.F GIV GLB (by decide))
    have GIW:=x_is_whole.cal (P:=l.prog) (w:=w) (base:=base) (okx_iw x_is_whole.F m_isinstance m_int m_bool)
    have GAB:=x_are_bytes.cal (okx_ab x_are_bytes.F (x_is_byte.cal (okx_ib x_is_byte.F GIW x_vconsts.many)) m_isinstance m_list m_len m_all)
    have GRO:=x_room_of.cal (P:=l.prog) (w:=w) (base:=base) (eu_ RX 5)
    have GVT:=x_value_at.cal (P:=l.prog) (w:=w) (base:=base) (vtx_all RX x_places_in_order x_value_at x_number_at x_record_at x_choice_at x_vconsts.many m_range m_reversed m_len 5)
    have GVO:=x_value_of.cal (okx_vo x_value_of.F GAB GRO GVT GLB (by decide) (by decide) (by decide))
    have GVE:=x_value_of.calE (okx_ve x_value_of.F GAB GRO GVT GLB (by decide) (by decide) (by decide) (cls_NoBytes.own hbK))
    have GRF:=x__law_refused.cal (okx_rf x__law_refused.F (cls_NoBytes.own hbK) (cls_NoBytes.und hbK) GVE)
    have GHO:=x_holes_of.cal (P:=l.prog) (w:=w) (base:=base) (okx_ho x_holes_of.F (x_filled_bytes.cal (fbx_all RX x_places_in_order x_filled_bytes x_filled_step x_filled_record x_filled_choice x_fill m_enumerate 5)) m_enumerate m_len)
    have GLC:=x__law_chooses.cal (P:=l.prog) (w:=w) (base:=base) (lcx_all x__law_chooses 5)
    have GTK:=x__law_take.cal (P:=l.prog) (w:=w) (base:=base) (okx_take x__law_take.F)
    have GLM:=x__law_room.cal (P:=l.prog) (w:=w) (base:=base) (lmx_all x__law_room x__law_rounded m_max 5)
    have GAR:=x__law_any_right.cal (okx_ar (L:=28) x__law_any_right.F GTK (GLM.mono (by decide)) (GVO.mono (by decide)) (GIV.mono (by decide)) (GBY.mono (by decide)) m_range m_list (by decide))
    law_tree ((okx_law (L:=29) x_law.F (x__law_pool.cal (okx_pl x__law_pool.F m_len)) GTK ((x__law_kind.cal (lkx_all x__law_kind x__law_take x__law_names x__law_room x__law_rounded m_max m_range m_len m_int 5)).mono (by decide)) ((x__law_value.cal (vax_all x__law_value x__law_take x__law_top m_range m_len 5)).mono (by decide)) (GBY.mono (by decide)) (GHO.mono (by decide)) (GRF.mono (by decide)) (GLC.mono (by decide)) GAR m_max m_min m_range m_len m_int (by decide)))
def lawRec:DefRec:=match s_law with
  | .FunctionDef n a b _ _ _ sc _ _ pos=>⟨n,a,b,sc,pos⟩
  | _=>⟨⟨#[]⟩,⟨[],[],none,[],[],none,[]⟩,[],defScope s_law,⟨0,0,0,0⟩⟩
end Lf
open PySem PySem.W PyProof.Rows
set_option maxHeartbeats 0 in
theorem PySem.Challenge.cw_laidfields_k24_whole_idle_bytes_holds : PySem.Challenge.rw_laidfields_k24_whole_idle_bytes.Holds := by
  w_on; o_law
  refine holds_open (d := Lf.lawRec) (kwd := []) (XP := XL (PySem.W.view PySem.Challenge.pw_laidfields_k24_whole_idle_bytes [1, 2, 3, 5, 6, 7, 8, 9, 10, 11, 12, 13, 14, 15, 17, 18, 19, 20, 21, 22, 23, 25, 26, 27, 28, 29, 30, 31, 32, 33, 34, 35, 36, 37, 38, 39, 40, 41, 43, 44, 45, 46, 47, 48, 49, 50, 51, 52, 53, 54, 55, 56]) []) Lf.left_top (Hook.of (L2.exHook (Lf.seenF PySem.Challenge.pw_laidfields_k24_whole_idle_bytes) (Lf.seenV PySem.Challenge.pw_laidfields_k24_whole_idle_bytes))) (Hook.keeps (L2.exHook (Lf.seenF PySem.Challenge.pw_laidfields_k24_whole_idle_bytes) (Lf.seenV PySem.Challenge.pw_laidfields_k24_whole_idle_bytes))) (fun s e => xl_of s (Bool.and_eq_true_iff.mp e).1) XL.keeps (by kernel_rfl) (by kernel_rfl) (by kernel_rfl) (fun s e => recFacts_of (Bool.and_eq_true_iff.mp e).2) (by rfl) (by assumption) (by decide +kernel) ⟨rfl, rfl, rfl, rfl, rfl, by decide +kernel⟩ ?hw ?hc
  case hw=>w_witness2
  case hc=>exact L2.walk_ex (l:=PySem.Challenge.rw_laidfields_k24_whole_idle_bytes) (n:=63) (k:=30) (x := "script") (CX:=L2.CX0) (sp:=Lf.spLaw) rfl (by decide) (by rfl) ⟨rfl,by decide,by decide⟩ (fun w K mg fa h hK X G hfa=>Lf.all_mk hK X G hfa) (fun K H a ns hl _ hS=>⟨a,ns,rfl,hS,hl,fun _=>rfl⟩) (fun _ _ _ _ z=>z)
#print axioms PySem.Challenge.cw_laidfields_k24_whole_idle_bytes_holds

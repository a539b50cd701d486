import PyProof.Rows.All
import Wide.All
import OpenK.AllK
import Wide.FinOn
import Lean
import PyProof.EqAt
import PyProof.EqKinds
import PyProof.TupleCall
import PyProof.NeKinds
import KE.KTryOn
import KE.KTryMore
import OpenK.KOwn
import PyProof.NsDelKeeps
import OpenK.KMake
import PyProof.CompFree
import PyProof.CompMap
import PyProof.CompUse
import PyProof.WalkInts
import PyProof.Rows.SumAny
import PyProof.Rows.DictTally
import PyProof.IsRules
import KE.KRevIter
import PyProof.ListStr
import KE.KListMore
import PyProof.ZipIter
import PyProof.Rows.ZipGen
import PySem.Challenge.RW_floatforge_k47_dots
set_option Elab.async false
set_option linter.all false
set_option maxRecDepth 100000
namespace L2
open PySem PySem.Spec PyProof.Rows
abbrev Key:=Sum Int Str
noncomputable def keyIs:Key→Value→Bool
  | .inl k,v=>Value.isInt k v
  | .inr x,v=>Value.isStrOf x v
noncomputable def keyH (w:World):Key→Int
  | .inl k=>hashInt k
  | .inr x=>hashStr w x
theorem keyIs_shape:∀ {k:Key}{v:Value},keyIs k v=true→(∃ i t,k=Sum.inl i∧v=Value.int i t)∨(∃ x t,k=Sum.inr x∧v=Value.str x t)
  | .inl i,v,h=>by
    obtain ⟨t,e⟩:=Value.isInt_shape (k:=i) (v:=v) h
    exact .inl ⟨i,t,rfl,e⟩
  | .inr x,v,h=>by
    obtain ⟨t,e⟩:=Value.isStrOf_shape (x:=x) (v:=v) h
    exact .inr ⟨x,t,rfl,e⟩
theorem key_ll (a b:Int):decide ((Sum.inl a:Key)=Sum.inl b)=(a == b):=by
  by_cases e:a=b
  · subst e;simp
  · have h:¬ (Sum.inl a:Key)=Sum.inl b:=fun q=>e (Sum.inl.inj q)
    rw [decide_eq_false h]
    exact (beq_eq_false_iff_ne.mpr e).symm
theorem key_rr (a b:Str):decide ((Sum.inr a:Key)=Sum.inr b)=decide (a=b):=by
  by_cases e:a=b
  · subst e;simp
  · have h:¬ (Sum.inr a:Key)=Sum.inr b:=fun q=>e (Sum.inr.inj q)
    rw [decide_eq_false h,decide_eq_false e]
theorem key_lr (a:Int) (b:Str):decide ((Sum.inl a:Key)=Sum.inr b)=false:=decide_eq_false (fun q=>nomatch q)
theorem key_rl (a:Str) (b:Int):decide ((Sum.inr a:Key)=Sum.inl b)=false:=decide_eq_false (fun q=>nomatch q)
noncomputable def mixKind (prog:Program) (w:World):PySem.KeyKind prog w Key where
  is:=keyIs
  hash:=keyH w
  inj:=fun v a b ha hb=>by
    rcases keyIs_shape ha with ⟨i,t,rfl,rfl⟩ | ⟨x,t,rfl,rfl⟩
    · rcases keyIs_shape hb with ⟨j,u,rfl,e⟩ | ⟨y,u,rfl,e⟩
      · injection e with e1 _;rw [e1]
      · exact nomatch e
    · rcases keyIs_shape hb with ⟨j,u,rfl,e⟩ | ⟨y,u,rfl,e⟩
      · exact nomatch e
      · injection e with e1 _;rw [e1]
  byValue:=fun k v h=>by
    rcases keyIs_shape h with ⟨i,t,rfl,rfl⟩ | ⟨x,t,rfl,rfl⟩<;>rfl
  pyHash:=fun hv h=>by
    rcases keyIs_shape hv with ⟨i,t,rfl,rfl⟩ | ⟨x,t,rfl,rfl⟩
    · exact wpAny_pyHash_int h
    · exact wpAny_pyHash_str h
  eqBool:=fun hu hv h=>by
    rcases keyIs_shape hu with ⟨i,t,rfl,rfl⟩ | ⟨x,t,rfl,rfl⟩
    · rcases keyIs_shape hv with ⟨j,u,rfl,rfl⟩ | ⟨y,u,rfl,rfl⟩
      · rw [key_ll] at h;exact wpAny_eqBool_int h
      · rw [key_lr] at h;exact SeqAt.EqAt.int_str i t y u _ _ _ _ h
    · rcases keyIs_shape hv with ⟨j,u,rfl,rfl⟩ | ⟨y,u,rfl,rfl⟩
      · rw [key_rl] at h;exact SeqAt.EqAt.str_int x t j u _ _ _ _ h
      · rw [key_rr] at h;exact wpAny_eqBool_str h
  «strs»:=fun k x t v h=>by
    rcases keyIs_shape h with ⟨i,u,rfl,e⟩ | ⟨y,u,rfl,e⟩
    · exact nomatch e
    · injection e with e1 _
      subst e1
      cases v<;>rfl
inductive V where
  | non | bl (b:Bool) | int (i:Int) | str (x:Str) | byt (b:Array UInt8) | flt (b:UInt64) | ref (a:Addr) | ty (n:String)
  deriving DecidableEq
def RelV:V→Value→Prop
  | .non,u=>u=Value.none
  | .bl b,u=>u=Value.bool b
  | .int i,u=>∃ t,u=Value.int i t
  | .str x,u=>∃ t,u=Value.str x t
  | .byt b,u=>∃ t,u=Value.bytes b t
  | .flt b,u=>∃ t,u=Value.float b t
  | .ref a,u=>u=Value.ref a
  | .ty n,u=>u=Value.type n
abbrev Vals:List V→List Value→Prop:=Paired RelV
theorem Vals.length {xs:List V}{us:List Value} (r:Vals xs us):xs.length=us.length:=Paired.length r
theorem Vals.get:∀ {xs:List V}{us:List Value}{i:Nat}{x:V},Vals xs us→xs[i]?=some x→∃ u,us[i]?=some u∧RelV x u
  | _,_,_,_,.nil,e=>by simp at e
  | _,_,0,_,.cons r _,e=>by simp at e;subst e;exact ⟨_,rfl,r⟩
  | _,_,i+1,x,.cons _ t,e=>by
    obtain ⟨u,h1,h2⟩:=Vals.get (i:=i) (x:=x) t (by simpa using e)
    exact ⟨u,by simpa using h1,h2⟩
theorem Vals.append:∀ {xs ys:List V}{us ws:List Value},Vals xs us→Vals ys ws→Vals (xs ++ ys) (us ++ ws)
  | _,_,_,_,.nil,s=>s
  | _,_,_,_,.cons r t,s=>.cons r (Vals.append t s)
theorem Vals.take:∀ {xs:List V}{us:List Value} (n:Nat),Vals xs us→Vals (xs.take n) (us.take n)
  | _,_,0,_=>.nil
  | _,_,_+1,.nil=>.nil
  | _,_,n+1,.cons r t=>.cons r (Vals.take n t)
theorem Vals.drop:∀ {xs:List V}{us:List Value} (n:Nat),Vals xs us→Vals (xs.drop n) (us.drop n)
  | _,_,0,r=>r
  | _,_,_+1,.nil=>.nil
  | _,_,n+1,.cons _ t=>Vals.drop n t
def RelO:Option V→Option Value→Prop
  | some v,some u=>RelV v u
  | none,none=>True
  | _,_=>False
def KV {κ:Type}:List (κ×V)→List (κ×Value)→Prop:=Paired fun (p:κ×V) (q:κ×Value)=>p.1=q.1∧RelV p.2 q.2
noncomputable def kV:Key→V
  | .inl i=>.int i
  | .inr x=>.str x
inductive HO where
  | lst (xs:List V)
  | tup (xs:List V)
  | dK (kvs:List (Key×V)) | dT (kvs:List (List Key×V))
  | set (S:Int→Bool) (n:Nat)
  | ins (C dx:Addr) (fs:List (Str×V))
  | own (x:Addr)
  | xd (fs:List (Str×V))
  | met (f x:Addr)
  | rng (lo hi:Int)
  | frz (o:Obj) (u:HO)
  | tbl (ps:Array Value)
  | ext (φ:Heap→Prop)
abbrev Hp:=Addr→Option HO
noncomputable def upd (H:Hp) (a:Addr) (o:HO):Hp:=fun b=>if b=a then some o else H b
theorem upd_same {H:Hp}{a:Addr}{o:HO}:upd H a o a=some o:=by unfold upd;rw [if_pos rfl]
theorem upd_ne {H:Hp}{a b:Addr}{o:HO} (h:b≠a):upd H a o b=H b:=by unfold upd;rw [if_neg h]
theorem ne_of_none {H:Hp}{a b:Addr}{o:HO} (h:H a=some o) (h':H b=none):a≠b:=by
  intro e;subst e;rw [h] at h';cases h'
section
variable (P:Program) (w:World)
def ObjOk (H:Hp) (h:Heap) (a:Addr):HO→Prop
  | .lst xs=>xs.length≤sizeLine∧∃ (its:List Value) (n:Nat),Vals xs its∧h.get? a=some { cls:=.type "list",data:=.seq its.toArray n }
  | .tup xs=>xs.length≤sizeLine∧∃ its:List Value,Vals xs its∧IsTup h a its.toArray
  | .dK kvs=>kvs.length≤sizeLine∧(a == sysModules)=false∧∃ vs,KV kvs vs∧h.DictOf (mixKind P w) a vs
  | .dT kvs=>kvs.length≤sizeLine∧(a == sysModules)=false∧∃ xs:List (List Key×Addr×Value),
      Paired (fun (p:List Key×V) (q:List Key×Addr×Value)=>p.1=q.1∧H q.2.1=some (.tup (p.1.map kV))∧RelV p.2 q.2.2) kvs xs ∧
      ∃ o es ep,h.get? a=some o∧o.ExactDict∧o.data = .dict es ep∧es.toList=xs.map (entryOfKey (tupleKind (mixKind P w)))∧(xs.map (·.1)).Nodup
  | .set S n=>h.SetOf (intKind P w) a S n
  | .ins C dx fs=>H dx=some (.own a)∧fs.length≤1000∧dx≠a∧h.get? a=some (PySem.W.instObj C dx) ∧
      ∃ mA,h.Ns1 dx mA∧(∀ f,RelO (fs.lookup f) (mA f))∧PySem.Within mA (fs.map (·.1))
  | .own _=>∃ o,h.get? a=some o
  | .xd fs=>∃ mA,h.Ns1 a mA∧∀ f,RelO (fs.lookup f) (mA f)
  | .rng lo hi=>∃ t u v,h.get? a=some { cls:=.type "range",data:=.fields #[.int lo t,.int hi u,.int 1 v] }
  | .frz o u=>h.get? a=some o∧ObjOk H h a u
  | .tbl ps=>h.get? a=some { cls:=.none,data:=.fields ps }
  | .met f x=>h.get? a=some (PySem.W.methodObj (.ref f) (.ref x))
  | .ext φ=>φ h∧(∃ o,h.get? a=some o)∧∀ h1 h2:Heap,φ h1→(∀ o,h1.get? a=some o→h2.get? a=some o)→φ h2
def HOk (H:Hp) (h:Heap):Prop:=∀ a o,H a=some o→ObjOk P w H h a o
end
section
variable {P:Program}{w:World}{H H':Hp}{h h':Heap}{a:Addr}{o:HO}
theorem ObjOk.lt (x:ObjOk P w H h a o):a<h.objs.size:=by
  cases o with
  | lst xs=>obtain ⟨_,_,_,_,e⟩:=x;exact Heap.lt_size e
  | tup xs=>obtain ⟨_,_,_,p⟩:=x;exact p.lt
  | dK kvs=>obtain ⟨_,_,_,_,o,_,_,e,_⟩:=x;exact Heap.lt_size e
  | dT kvs=>obtain ⟨_,_,_,_,o,_,_,e,_⟩:=x;exact Heap.lt_size e
  | set S n=>obtain ⟨o,_,_,_,e,_⟩:=x;exact Heap.lt_size e
  | ins C dx fs=>obtain ⟨_,_,_,e,_⟩:=x;exact Heap.lt_size e
  | own y=>obtain ⟨_,e⟩:=x;exact Heap.lt_size e
  | xd fs=>obtain ⟨_,⟨_,_,_,e,_⟩,_⟩:=x;exact Heap.lt_size e
  | rng lo hi=>obtain ⟨_,_,_,e⟩:=x;exact Heap.lt_size e
  | frz ob u=>obtain ⟨e,_⟩:=x;exact Heap.lt_size e
  | tbl ps=>exact Heap.lt_size (show h.get? a=some _ from x)
  | met f y=>exact Heap.lt_size (show h.get? a=some _ from x)
  | ext φ=>obtain ⟨_,⟨_,e⟩,_⟩:=x;exact Heap.lt_size e
theorem Paired.mapP {α β:Type}{F G:α→β→Prop}:∀ {l₁:List α}{l₂:List β},Paired F l₁ l₂→(∀ a b,F a b→G a b)→Paired G l₁ l₂
  | _,_,.nil,_=>.nil
  | _,_,.cons r t,f=>.cons (f _ _ r) (Paired.mapP t f)
theorem ObjOk.stay (x:ObjOk P w H h a o) (k:∀ b u,(b=a∨H b=some (.own a))→h.get? b=some u→h'.get? b=some u)
    (ho:∀ b,H b=some (.own a)→H' b=some (.own a)) (ht:∀ b xs,H b=some (.tup xs)→H' b=some (.tup xs)):ObjOk P w H' h' a o:=by
  induction o with
  | lst xs=>obtain ⟨z,its,n,r,e⟩:=x;exact ⟨z,its,n,r,k _ _ (.inl rfl) e⟩
  | tup xs=>obtain ⟨z,its,r,ob,e,c⟩:=x;exact ⟨z,its,r,ob,k _ _ (.inl rfl) e,c⟩
  | dK kvs=>obtain ⟨z,y,vs,r,ob,es,ep,e,c⟩:=x;exact ⟨z,y,vs,r,ob,es,ep,k _ _ (.inl rfl) e,c⟩
  | dT kvs =>
    obtain ⟨z,y,xs,r,ob,es,ep,e,c⟩:=x
    exact ⟨z,y,xs,Paired.mapP r fun p q z=>⟨z.1,ht _ _ z.2.1,z.2.2⟩,ob,es,ep,k _ _ (.inl rfl) e,c⟩
  | set S n=>obtain ⟨ob,es,ep,t,e,c⟩:=x;exact ⟨ob,es,ep,t,k _ _ (.inl rfl) e,c⟩
  | ins C dx fs =>
    obtain ⟨d,z,ne,e,mA,⟨od,es,ep,e2,c⟩,r⟩:=x
    exact ⟨ho _ d,z,ne,k _ _ (.inl rfl) e,mA,⟨od,es,ep,k _ _ (.inr d) e2,c⟩,r⟩
  | own y=>obtain ⟨ob,e⟩:=x;exact ⟨ob,k _ _ (.inl rfl) e⟩
  | xd fs=>obtain ⟨mA,⟨od,es,ep,e,c⟩,r⟩:=x;exact ⟨mA,⟨od,es,ep,k _ _ (.inl rfl) e,c⟩,r⟩
  | rng lo hi=>obtain ⟨t,u,v,e⟩:=x;exact ⟨t,u,v,k _ _ (.inl rfl) e⟩
  | frz ob u ih=>obtain ⟨e,q⟩:=x;exact ⟨k _ _ (.inl rfl) e,ih q⟩
  | tbl ps =>
    have e:h.get? a=some { cls:=.none,data:=.fields ps }:=x
    show h'.get? a=some { cls:=.none,data:=.fields ps }
    exact k a _ (.inl rfl) e
  | met f y =>
    have e:h.get? a=some (PySem.W.methodObj (.ref f) (.ref y)):=x
    show h'.get? a=some (PySem.W.methodObj (.ref f) (.ref y))
    exact k a _ (.inl rfl) e
  | ext φ=>obtain ⟨p,⟨o,e⟩,st⟩:=x;exact ⟨st _ _ p fun o q=>k _ _ (.inl rfl) q,⟨o,k _ _ (.inl rfl) e⟩,st⟩
theorem HOk.lt (x:HOk P w H h) (e:H a=some o):a<h.objs.size:=(x a o e).lt
theorem HOk.fresh (x:HOk P w H h) (e:h.objs.size≤a):H a=none:=by
  cases q:H a with
  | none=>rfl
  | some u=>exact absurd (Nat.lt_of_lt_of_le (x.lt q) e) (Nat.lt_irrefl _)
theorem HOk.kept (x:HOk P w H h) (k:∀ b u,h.get? b=some u→h'.get? b=some u):HOk P w H h':=fun a o e =>
  (x a o e).stay (fun b u _ q=>k b u q) (fun _ q=>q) fun _ _ q=>q
theorem HOk.laid (x:HOk P w H h) (k:∀ b u,h.get? b=some u→h'.get? b=some u) (hp:h.objs.size≤a) (new:ObjOk P w (upd H a o) h' a o):HOk P w (upd H a o) h':=fun b u e=>by
  have hn:=x.fresh hp
  by_cases hb:b=a
  · subst hb;rw [upd_same] at e;cases e;exact new
  · rw [upd_ne hb] at e
    exact (x b u e).stay (fun c v _ q=>k c v q) (fun c q=>by rw [upd_ne (ne_of_none q hn)];exact q) fun c xs q=>by rw [upd_ne (ne_of_none q hn)];exact q
end
def Rd (H:Hp) (a:Addr) (u:HO):Prop:=H a=some u∨∃ o,H a=some (.frz o u)
theorem Rd.ok {P:Program}{w:World}{H:Hp}{h:Heap}{a:Addr}{u:HO} (r:Rd H a u) (x:HOk P w H h):ObjOk P w H h a u:=by
  rcases r with r | ⟨o,r⟩
  · exact x a u r
  · obtain ⟨_,q⟩:=x a _ r
    exact q
def Mut:Option HO→Prop
  | some (.lst _)=>True
  | some (.dK _)=>True
  | some (.dT _)=>True
  | some (.set _ _)=>True
  | some (.ins _ _ _)=>True
  | some (.ext _)=>True
  | _=>False
section
variable {P:Program}{w:World}{H:Hp}{h h':Heap}{x e:Addr}{o':HO}
theorem HOk.write (ok:HOk P w H h) (mu:Mut (H x)) (he:e=x∨H e=some (.own x)) (k:∀ b u,b≠e→h.get? b=some u→h'.get? b=some u) (heo:∃ u,h'.get? e=some u)
    (new:ObjOk P w (upd H x o') h' x o'):HOk P w (upd H x o') h':=fun b u q=>by
  have nown:∀ c y,H c=some (.own y)→c≠x:=fun c y r z=>by subst z;rw [r] at mu;exact mu
  have ntup:∀ c xs,H c=some (.tup xs)→c≠x:=fun c xs r z=>by subst z;rw [r] at mu;exact mu
  by_cases hb:b=x
  · subst hb;rw [upd_same] at q;cases q;exact new
  · rw [upd_ne hb] at q
    by_cases hbe:b=e
    · have q':H b=some (.own x):=by
        rcases he with z | z
        · exact absurd (hbe.trans z) hb
        · rw [hbe];exact z
      rw [q] at q';cases q'
      obtain ⟨v,hv⟩:=heo
      exact ⟨v,by rw [hbe];exact hv⟩
    · refine (ok b u q).stay (fun c v hc r=>k c v ?_ r) (fun c r=>by rw [upd_ne (nown c b r)];exact r) fun c xs r=>by rw [upd_ne (ntup c xs r)];exact r
      rcases hc with rfl | hc
      · exact hbe
      · rintro rfl
        rcases he with z | z
        · exact nown c b hc z
        · rw [hc] at z;cases z;exact hb rfl
end
structure Un (fs ex:List Addr) (H H':Hp) (h h':Heap):Prop where
  keep:∀ b o,h.get? b=some o→H b=none→b ∉ fs→b ∉ ex→h'.get? b=some o
  slot:∀ b o,h.get? b=some o→H b=none→b∈fs→b ∉ ex→∃ sl,h'.get? b=some { o with slots:=sl }
  free:∀ b o,h.get? b=some o→H b=none→b ∉ ex→H' b=none
  there:∀ b o,h.get? b=some o→b ∉ ex→∃ o',h'.get? b=some o'
  tups:∀ b xs,H b=some (.tup xs)→H' b=some (.tup xs)
  frzs:∀ b o u,H b=some (.frz o u)→H' b=some (.frz o u)
  tbls:∀ b ps,H b=some (.tbl ps)→∃ more,H' b=some (.tbl (ps ++ more))
section
variable {fs fs' ex ex':List Addr}{H H1 H2:Hp}{h h1 h2 h':Heap}{a x e:Addr}{o:HO}
theorem Un.any (u:Un fs ex H H1 h h1) {b:Addr}{ob:Obj} (q:h.get? b=some ob) (n:H b=none) (hx:b ∉ ex):∃ sl,h1.get? b=some { ob with slots:=sl }:=by
  by_cases hb:b∈fs
  · exact u.slot b ob q n hb hx
  · exact ⟨ob.slots,u.keep b ob q n hb hx⟩
theorem Un.kept (k:∀ b u,h.get? b=some u→h'.get? b=some u):Un fs ex H H h h' :=
  ⟨fun b ob q _ _ _=>k b ob q,fun b ob q _ _ _=>⟨ob.slots,k b ob q⟩,fun _ _ _ n _=>n,fun b ob q _=>⟨ob,k b ob q⟩,fun _ _ q=>q,fun _ _ _ q=>q,fun _ ps q=>⟨#[],by rw [q];simp⟩⟩
theorem Un.refl:Un fs ex H H h h:=Un.kept fun _ _ q=>q
theorem Un.laid (k:∀ b u,h.get? b=some u→h'.get? b=some u) (hp:h.objs.size≤a) (hn:H a=none):Un fs ex H (upd H a o) h h' where
  keep:=fun b u q _ _ _=>k b u q
  slot:=fun b u q _ _ _=>⟨u.slots,k b u q⟩
  free:=fun b u q n _=>by rw [upd_ne (Nat.ne_of_lt (Nat.lt_of_lt_of_le (Heap.lt_size q) hp))];exact n
  there:=fun b u q _=>⟨u,k b u q⟩
  tups:=fun b xs q=>by rw [upd_ne (ne_of_none q hn)];exact q
  frzs:=fun b u xs q=>by rw [upd_ne (ne_of_none q hn)];exact q
  tbls:=fun b ps q=>⟨#[],by rw [upd_ne (ne_of_none q hn),q];simp⟩
theorem Un.write (mu:Mut (H x)) (he:e=x∨H e=some (.own x)) (k:∀ b u,b≠e→h.get? b=some u→h'.get? b=some u) (heo:∃ u,h'.get? e=some u):Un fs ex H (upd H x o) h h':=by
  have hx:∀ b,H b=none→b≠x:=fun b n z=>by subst z;rw [n] at mu;exact mu
  have hb:∀ b,H b=none→b≠e:=fun b n z=>by
    subst z
    rcases he with r | r
    · exact hx b n r
    · rw [n] at r;cases r
  have hm:∀ b u,H b=some u→¬ Mut (some u)→b≠x:=fun b u q nm z=>by subst z;rw [q] at mu;exact nm mu
  refine ⟨fun b u q n _ _=>k b u (hb b n) q,fun b u q n _ _=>⟨u.slots,k b u (hb b n) q⟩,fun b u q n _=>by rw [upd_ne (hx b n)];exact n,fun b u q _=>?_,
    fun b xs q=>by rw [upd_ne (hm b _ q fun z=>z)];exact q,fun b u xs q=>by rw [upd_ne (hm b _ q fun z=>z)];exact q,fun b ps q=>⟨#[],by rw [upd_ne (hm b _ q fun z=>z),q];simp⟩⟩
  by_cases hbe:b=e
  · subst hbe;exact heo
  · exact ⟨u,k b u hbe q⟩
end
noncomputable def trk (h:Heap) (H:Hp):List Addr:=(List.range h.objs.size).filter fun a=>(H a).isSome
noncomputable def hidT (h:Heap) (H:Hp):Heap:=PySem.W.hideAll h (trk h H)
theorem hidT_size (h:Heap) (H:Hp):(hidT h H).objs.size=h.objs.size:=PySem.W.hideAll_size _ _
theorem hidT_get {h:Heap}{H:Hp}{b:Addr}{o:Obj} (e:h.get? b=some o) (n:H b=none):(hidT h H).get? b=some o :=
  PySem.W.hideAll_get _ e fun hm=>by
    have q:(H b).isSome=true:=(List.mem_filter.mp hm).2
    rw [n] at q;simp at q
theorem of_hidT {h:Heap}{H:Hp}{b:Addr}{o:Obj} (e:(hidT h H).get? b=some o):h.get? b=some o∧H b=none:=by
  have e':h.get? b=some o:=PySem.W.of_hideAll (trk h H) e
  refine ⟨e',?_⟩
  cases q:H b with
  | none=>rfl
  | some x =>
    have hm:b∈trk h H:=List.mem_filter.mpr ⟨List.mem_range.mpr (Heap.lt_size e'),by simp [q]⟩
    have z:(hidT h H).get? b=none:=PySem.W.hideAll_none (trk h H) hm
    rw [z] at e;cases e
noncomputable def allNews (g h:Heap) (L:Addr):List (Addr×Obj):=(List.range h.objs.size).filterMap fun a=>if a=L∨(g.get? a).isSome=true then none else (h.get? a).map fun o=>(a,o)
noncomputable def rest (g h:Heap) (L d:Addr):List (Addr×Obj):=(allNews g h L).filter fun p=>decide (p.1≠d)
structure Mod (K:PySem.W.Frag) (mg:Str→Option Value) (base:Heap):Prop where
  kin:K.In base
  glob:base.Ns mainGlobals mg
  blt:∃ mb,base.Ns builtinsNs mb∧∀ x:Str,x≠"__name__"→mb x=bootBuiltins x
  nolimit:base.NoLimit
structure Cx where
  prog:Program
  w:World
  K:PySem.W.Frag
  mg:Str→Option Value
  base:Heap
  A:Around
  N:List Str
  s₀:Shared
  H₀:Hp
  env:Env
  outer:List Env
  stack:List Env
  ex:List Addr
  fn:Str→Bool
  calm:Bool
  pn:List (Addr×Obj)
  xe:Value→Shared→Prop
noncomputable def frs (l:List Env):List Addr:=l.filterMap (·.frame)
noncomputable abbrev Cx.fs (X:Cx):List Addr:=frs X.outer
def Vis (sc:Scope) (x:Str):Prop:=sc.names.lookup x=some .local∨sc.names.lookup x=some .cell∨sc.names.lookup x=some .free
def Loc (sc:Scope) (x:Str):Prop:=sc.names.lookup x=some .local∨sc.names.lookup x=some .cell
def Look (env:Env) (h:Heap) (m:Str→Option Value) (x:Str) (u:Value):Prop :=
  (env.kindOf x=some .local∧m x=some u)∨((env.kindOf x=some .cell∨env.kindOf x=some .free)∧∃ c,env.cells.lookup x=some c∧h.IsCell c (some u))
structure Cx.Ok (X:Cx):Prop where
  mod:Mod X.K X.mg X.base
  kind:X.env.scope.kind = .function
  glob:X.env.globals=mainGlobals
  blt:X.env.builtins=builtinsNs
  above:X.s₀.heap.objs.size≤X.env.locals
  inj:∀ x y c,X.env.cells.lookup x=some c→X.env.cells.lookup y=some c→x=y
  has:∀ x,(X.env.kindOf x=some .cell∨X.env.kindOf x=some .free)→∃ c,X.env.cells.lookup x=some c
  cab:∀ x c,X.fn x=true→X.env.cells.lookup x=some c→X.s₀.heap.objs.size≤c
  hd:X.calm=true→X.A.handled=none
  frames:X.A.frames=some X.stack
  stk:X.stack=X.outer∨(X.stack=X.env::X.outer∧X.env.frame=some X.env.locals)
  exf:∀ b∈X.ex,b≠X.env.locals∧∀ x c,X.env.cells.lookup x=some c→c≠b
  bs:∀ b o,X.base.get? b=some o→X.s₀.heap.get? b=some o∧X.H₀ b=none
  bsz:X.base.objs.size≤X.s₀.heap.objs.size
  noex:∀ b o,X.base.get? b=some o→b ∉ X.ex
  exfs:∀ b∈X.ex,b ∉ X.fs
  funs:X.s₀.heap.FunFrames X.base X.outer
  frf:∀ b∈X.fs,X.H₀ b=none
structure Inv (X:Cx) (pins:List (Addr×Obj)) (σ:List (Option V)) (H:Hp) (s:Shared):Prop where
  ok:X.Ok
  os:s.os=X.s₀.os
  bare:AllBare s.gens
  base:Un X.fs X.ex X.H₀ H X.s₀.heap s.heap
  loc:∃ m,s.heap.Ns X.env.locals m∧∀ (i:Nat) (x:Str) (v:V),X.N[i]?=some x→σ[i]?=some (some v)→Vis X.env.scope x→∃ u,RelV v u∧Look X.env s.heap m x u
  cell:∀ x c,X.env.cells.lookup x=some c→∃ v,s.heap.IsCell c v
  free:H X.env.locals=none
  freeC:∀ x c,X.env.cells.lookup x=some c→H c=none
  pin:∀ p∈X.pn ++ pins,s.heap.get? p.1=some p.2∧H p.1=none∧p.1≠X.env.locals∧p.1 ∉ X.fs∧∀ v,p.2.data≠.cell v
  hok:HOk X.prog X.w H s.heap
  len:σ.length=X.N.length
section
variable {X:Cx}{pins:List (Addr×Obj)}{σ:List (Option V)}{H H':Hp}{s:Shared}{h':Heap}
theorem Cx.Ok.nofr (ok:X.Ok) {b:Addr}{o:Obj} (e:X.base.get? b=some o):b ∉ X.fs:=fun hb=>by
  have:=(ok.funs.mem hb).1
  rw [e] at this;cases this
theorem Inv.bs (I:Inv X pins σ H s):∀ b o,X.base.get? b=some o→s.heap.get? b=some o∧H b=none:=fun b o e =>
  ⟨I.base.keep b o (I.ok.bs b o e).1 (I.ok.bs b o e).2 (I.ok.nofr e) (I.ok.noex b o e),I.base.free b o (I.ok.bs b o e).1 (I.ok.bs b o e).2 (I.ok.noex b o e)⟩
theorem Inv.bk (I:Inv X pins σ H s):∀ b o,X.base.get? b=some o→s.heap.get? b=some o:=fun b o e=>(I.bs b o e).1
theorem Inv.mod (I:Inv X pins σ H s):Mod X.K X.mg X.base:=I.ok.mod
theorem Inv.kIn (I:Inv X pins σ H s):X.K.In s.heap:=I.ok.mod.kin.keeps I.bk
theorem Inv.nolimit (I:Inv X pins σ H s):s.heap.NoLimit:=I.ok.mod.nolimit.keeps I.bk
theorem Inv.fr (I:Inv X pins σ H s):∃ m,Fr X.base X.env.locals s.heap m :=
  let ⟨m,hn,_⟩:=I.loc
  ⟨m,hn,I.bk,Nat.le_trans I.ok.bsz I.ok.above⟩
theorem Inv.lt (I:Inv X pins σ H s):X.env.locals<s.heap.objs.size:=let ⟨_,hn,_⟩:=I.loc;hn.lt
theorem Inv.sz (I:Inv X pins σ H s):X.s₀.heap.objs.size≤s.heap.objs.size:=Nat.le_trans I.ok.above (Nat.le_of_lt I.lt)
theorem Inv.nofs (I:Inv X pins σ H s) {a:Addr} (h:s.heap.objs.size≤a):a ∉ X.fs:=fun hb=>by
  obtain ⟨_,o,ho,_⟩:=I.ok.funs.mem hb
  exact absurd (Nat.lt_of_lt_of_le (Heap.lt_size ho) (Nat.le_trans I.sz h)) (Nat.lt_irrefl _)
theorem Inv.cne (I:Inv X pins σ H s):∀ x c,X.env.cells.lookup x=some c→c≠X.env.locals:=fun x c e z=>by
  obtain ⟨v,o,ho,hd⟩:=I.cell x c e
  obtain ⟨m,⟨o',es,ep,ho',hd',_⟩,_⟩:=I.loc
  rw [z,ho'] at ho;cases ho;rw [hd'] at hd;cases hd
theorem Inv.funs (I:Inv X pins σ H s):s.heap.FunFrames X.base X.outer:=by
  have all:∀ (l:List Env),(∀ b∈frs l,b∈X.fs)→X.s₀.heap.FunFrames X.base l→s.heap.FunFrames X.base l:=by
    intro l
    induction l with
    | nil=>intro _ _;trivial
    | cons env r ih =>
      intro hs hl
      obtain ⟨hk,⟨L,o,hf,hn,ho,hd⟩,hr⟩:=hl
      have hL:L∈X.fs:=hs L (by unfold frs;rw [List.filterMap_cons,hf];exact List.mem_cons_self)
      obtain ⟨sl,e⟩:=I.base.slot L o ho (I.ok.frf L hL) hL fun z=>I.ok.exfs L z hL
      exact ⟨hk,⟨L,_,hf,hn,e,hd⟩,ih (fun b hb=>hs b (by unfold frs;rw [List.filterMap_cons,hf];exact List.mem_cons_of_mem _ hb)) hr⟩
  exact all X.outer (fun _ hb=>hb) I.ok.funs
theorem Inv.stack (I:Inv X pins σ H s):s.heap.FunFrames X.base X.stack:=by
  rcases I.ok.stk with e | ⟨e,hf⟩
  · rw [e];exact I.funs
  · rw [e]
    obtain ⟨m,hn,_⟩:=I.loc
    refine .cons (by rw [I.ok.kind];decide) hf hn ?_ I.funs
    exact Heap.get?_none_of_le (Nat.le_trans I.ok.bsz I.ok.above)
theorem Inv.stkSub (I:Inv X pins σ H s):∀ b∈frs X.stack,b∈X.env.locals::X.fs:=fun b hb=>by
  rcases I.ok.stk with e | ⟨e,hf⟩
  · rw [e] at hb;exact List.mem_cons_of_mem _ hb
  · rw [e] at hb
    unfold frs at hb
    rw [List.filterMap_cons,hf] at hb
    exact hb
theorem Inv.stkFree (I:Inv X pins σ H s):∀ b∈frs X.stack,H b=none:=fun b hb=>by
  rcases List.mem_cons.mp (I.stkSub b hb) with e | hb
  · rw [e];exact I.free
  · obtain ⟨_,o,ho,_⟩:=I.ok.funs.mem hb
    exact I.base.free b o ho (I.ok.frf b hb) fun z=>I.ok.exfs b z hb
theorem Inv.step {g':Array GenState}{t':Nat}{d':Drawn}{ch:List Addr} (I:Inv X pins σ H s)
    (hch:∀ b∈ch,(b∈X.ex∨X.s₀.heap.objs.size≤b)∧b≠X.env.locals∧(∀ x c,X.env.cells.lookup x=some c→c≠b)∧∀ p∈X.pn ++ pins,p.1≠b)
    (keep:∀ b o,b≠X.env.locals→b ∉ X.fs→b ∉ ch→s.heap.get? b=some o→H b=none→h'.get? b=some o)
    (slot:∀ b o,b≠X.env.locals→b∈X.fs→b ∉ ch→s.heap.get? b=some o→H b=none→∃ sl,h'.get? b=some { o with slots:=sl }) (free:∀ b o,b ∉ ch→s.heap.get? b=some o→H b=none→H' b=none)
    (there:∀ b o,b ∉ ch→s.heap.get? b=some o→∃ o',h'.get? b=some o')
    (tups:∀ b xs,H b=some (.tup xs)→H' b=some (.tup xs)) (frzs:∀ b o u,H b=some (.frz o u)→H' b=some (.frz o u)) (tbls:∀ b ps,H b=some (.tbl ps)→∃ more,H' b=some (.tbl (ps ++ more)))
    (ns:∀ m,s.heap.Ns X.env.locals m→h'.Ns X.env.locals m) (hok:HOk X.prog X.w H' h') (hg:AllBare g') :
    Inv X pins σ H' { s with heap:=h',gens:=g',drawn:=d',toks:=t' }:=by
  have neL:∀ b o,X.s₀.heap.get? b=some o→b≠X.env.locals:=fun b o e=>Nat.ne_of_lt (Nat.lt_of_lt_of_le (Heap.lt_size e) I.ok.above)
  have neC:∀ b o,X.s₀.heap.get? b=some o→b ∉ X.ex→b ∉ ch:=fun b o e hx hb=>by
    rcases (hch b hb).1 with z | z
    · exact hx z
    · exact absurd (Nat.lt_of_lt_of_le (Heap.lt_size e) z) (Nat.lt_irrefl _)
  have cellK:∀ x c,X.env.cells.lookup x=some c→∀ v,s.heap.IsCell c v→h'.IsCell c v:=fun x c e v ⟨o,ho,hd⟩=>by
    have nch:c ∉ ch:=fun z=>(hch c z).2.2.1 x c e rfl
    by_cases hc:c∈X.fs
    · obtain ⟨sl,q⟩:=slot c o (I.cne x c e) hc nch ho (I.freeC x c e)
      exact ⟨_,q,hd⟩
    · exact ⟨o,keep c o (I.cne x c e) hc nch ho (I.freeC x c e),hd⟩
  refine ⟨I.ok,I.os,hg,⟨fun b o e n hb hx=>?_,fun b o e n hb hx=>?_,fun b o e n hx=>?_,fun b o e hx=>?_,fun b xs e=>tups b xs (I.base.tups b xs e),fun b o xs e=>frzs b o xs (I.base.frzs b o xs e),fun b ps e=>?_⟩,?_,fun x c e=>?_,?_,fun x c e=>?_,fun p hp=>?_,hok,I.len⟩
  · exact keep b o (neL b o e) hb (neC b o e hx) (I.base.keep b o e n hb hx) (I.base.free b o e n hx)
  · obtain ⟨sl,e1⟩:=I.base.slot b o e n hb hx
    obtain ⟨sl',e2⟩:=slot b _ (neL b o e) hb (neC b o e hx) e1 (I.base.free b o e n hx)
    exact ⟨sl',e2⟩
  · obtain ⟨o',e1⟩:=I.base.there b o e hx
    exact free b o' (neC b o e hx) e1 (I.base.free b o e n hx)
  · obtain ⟨o',e1⟩:=I.base.there b o e hx
    exact there b o' (neC b o e hx) e1
  · obtain ⟨m1,e1⟩:=I.base.tbls b ps e
    obtain ⟨m2,e2⟩:=tbls b _ e1
    exact ⟨m1 ++ m2,by rw [e2,Array.append_assoc]⟩
  · obtain ⟨m,hn,hl⟩:=I.loc
    refine ⟨m,ns m hn,fun i x v e1 e2 e3=>?_⟩
    obtain ⟨u,r,l⟩:=hl i x v e1 e2 e3
    refine ⟨u,r,?_⟩
    rcases l with l | ⟨k,c,e,z⟩
    · exact .inl l
    · exact .inr ⟨k,c,e,cellK x c e _ z⟩
  · obtain ⟨v,z⟩:=I.cell x c e
    exact ⟨v,cellK x c e v z⟩
  · obtain ⟨m,⟨o,_,_,ho,_⟩,_⟩:=I.loc
    exact free _ o (fun z=>(hch _ z).2.1 rfl) ho I.free
  · obtain ⟨v,o,ho,hd⟩:=I.cell x c e
    exact free c o (fun z=>(hch c z).2.2.1 x c e rfl) ho (I.freeC x c e)
  · obtain ⟨e,n,ne,nf,d⟩:=I.pin p hp
    have nch:p.1 ∉ ch:=fun z=>(hch p.1 z).2.2.2 p hp rfl
    exact ⟨keep p.1 p.2 ne nf nch e n,free p.1 p.2 nch e n,ne,nf,d⟩
theorem Inv.un {t':Nat} (I:Inv X pins σ H s) (u:Un X.fs [] H H' s.heap h') (hok:HOk X.prog X.w H' h'):Inv X pins σ H' { s with heap:=h',toks:=t' }:=by
  obtain ⟨m,⟨o,es,ep,ho,r⟩,_⟩:=id I.loc
  obtain ⟨sl,hL⟩:=u.any ho I.free (by simp)
  exact I.step (g':=s.gens) (d':=s.drawn) (ch:=[]) (fun _ z=>nomatch z) (fun b o _ hb _ e n=>u.keep b o e n hb (by simp)) (fun b o _ hb _ e n=>u.slot b o e n hb (by simp)) (fun b o _ e n=>u.free b o e n (by simp)) (fun b o _ e=>u.there b o e (by simp)) u.tups u.frzs u.tbls (fun m' hm=>by
    obtain ⟨o',es',ep',ho',r'⟩:=hm
    rw [ho] at ho';cases ho'
    exact ⟨_,es',ep',hL,r'⟩) hok I.bare
theorem Inv.call {g':Array GenState}{t':Nat}{d':Drawn}{ch:List Addr} (I:Inv X pins σ H s) (u:Un (frs X.stack) ch H H' s.heap h') (hok:HOk X.prog X.w H' h') (hg:AllBare g')
    (hch:∀ b∈ch,(b∈X.ex∨X.s₀.heap.objs.size≤b)∧b≠X.env.locals∧(∀ x c,X.env.cells.lookup x=some c→c≠b)∧∀ p∈X.pn ++ pins,p.1≠b) :
    Inv X pins σ H' { s with heap:=h',gens:=g',drawn:=d',toks:=t' }:=by
  obtain ⟨m,⟨o,es,ep,ho,r⟩,_⟩:=id I.loc
  obtain ⟨sl,hL⟩:=u.any ho I.free fun z=>(hch _ z).2.1 rfl
  exact I.step (ch:=ch) hch (fun b o hL hb hc e n=>u.keep b o e n (fun z=>(List.mem_cons.mp (I.stkSub b z)).elim hL hb) hc) (fun b o _ _ hc e n=>u.any e n hc) (fun b o hc e n=>u.free b o e n hc) (fun b o hc e=>u.there b o e hc) u.tups u.frzs u.tbls (fun m' hm=>by
    obtain ⟨o',es',ep',ho',r'⟩:=hm
    rw [ho] at ho';cases ho'
    exact ⟨_,es',ep',hL,r'⟩) hok hg
theorem Inv.turned {t':Nat}{it:Addr} (I:Inv X pins σ H s) (k:∀ b o,b≠it→s.heap.get? b=some o→h'.get? b=some o) (hn:H it=none) (hL:it≠X.env.locals)
    (h1:it∈X.ex∨X.s₀.heap.objs.size≤it) (h2:∀ x c,X.env.cells.lookup x=some c→c≠it) (h3:∀ p∈X.pn ++ pins,p.1≠it):Inv X pins σ H { s with heap:=h',toks:=t' }:=by
  have nit:∀ b u,H b=some u→b≠it:=fun b u e z=>by rw [z,hn] at e;cases e
  refine I.step (g':=s.gens) (d':=s.drawn) (ch:=[it]) (fun b hb=>?_) (fun b o _ _ hc e _=>k b o (fun z=>hc (by simp [z])) e) (fun b o _ _ hc e _=>⟨o.slots,k b o (fun z=>hc (by simp [z])) e⟩) (fun _ _ _ _ n=>n)
    (fun b o hc e=>⟨o,k b o (fun z=>hc (by simp [z])) e⟩) (fun _ _ e=>e) (fun _ _ _ e=>e) (fun b ps e=>⟨#[],by rw [e];simp⟩) (fun m hm=>?_) (fun b u e=>?_) I.bare
  · have e:b=it:=by simpa using hb
    subst e
    exact ⟨h1,hL,h2,h3⟩
  · obtain ⟨o,es,ep,ho,r⟩:=hm
    exact ⟨o,es,ep,k _ o (Ne.symm hL) ho,r⟩
  · refine (I.hok b u e).stay (fun c v hc q=>k c v ?_ q) (fun _ q=>q) fun _ _ q=>q
    rcases hc with z | z
    · rw [z];exact nit b u e
    · exact nit c _ z
theorem Inv.tok (I:Inv X pins σ H s) (t:Nat):Inv X pins σ H { s with toks:=t }:=I.un (h':=s.heap) (t':=t) Un.refl I.hok
theorem Inv.kept {t':Nat} (I:Inv X pins σ H s) (k:∀ b u,s.heap.get? b=some u→h'.get? b=some u):Inv X pins σ H { s with heap:=h',toks:=t' }:=I.un (Un.kept k) (I.hok.kept k)
theorem Inv.laid {a:Addr}{o:HO}{t':Nat} (I:Inv X pins σ H s) (k:∀ b u,s.heap.get? b=some u→h'.get? b=some u) (hp:s.heap.objs.size≤a) (new:ObjOk X.prog X.w (upd H a o) h' a o) :
    Inv X pins σ (upd H a o) { s with heap:=h',toks:=t' }:=I.un (Un.laid k hp (I.hok.fresh hp)) (I.hok.laid k hp new)
theorem Inv.write {x e:Addr}{o:HO}{t':Nat} (I:Inv X pins σ H s) (mu:Mut (H x)) (he:e=x∨H e=some (.own x)) (k:∀ b u,b≠e→s.heap.get? b=some u→h'.get? b=some u) (heo:∃ u,h'.get? e=some u)
    (new:ObjOk X.prog X.w (upd H x o) h' x o):Inv X pins σ (upd H x o) { s with heap:=h',toks:=t' }:=I.un (Un.write mu he k heo) (I.hok.write mu he k heo new)
theorem Inv.pins_of {pins':List (Addr×Obj)} (I:Inv X pins σ H s) (h:∀ p∈pins',s.heap.get? p.1=some p.2∧H p.1=none∧p.1≠X.env.locals∧p.1 ∉ X.fs∧∀ v,p.2.data≠.cell v):Inv X pins' σ H s :=
  ⟨I.ok,I.os,I.bare,I.base,I.loc,I.cell,I.free,I.freeC,fun p hp=>(List.mem_append.mp hp).elim (fun z=>I.pin p (List.mem_append_left _ z)) (h p),I.hok,I.len⟩
theorem nodup_ix {N:List Str} (hN:N.Nodup) {i j:Nat}{x:Str} (a:N[i]?=some x) (b:N[j]?=some x):i=j:=by
  obtain ⟨h1,e1⟩:=List.getElem?_eq_some_iff.mp a
  obtain ⟨h2,e2⟩:=List.getElem?_eq_some_iff.mp b
  exact (List.getElem_inj hN).mp (e1.trans e2.symm)
theorem store_ok2 {M:Model}{A:Around}{E:Value→Shared→Prop}{i:Nat}{x:Str}{v:V}{u:Value}{Q:Unit→Shared→Prop} (I:Inv X pins σ H s) (hN:X.N.Nodup) (hi:X.N[i]?=some x) (hx:Loc X.env.scope x) (r:RelV v u)
    (h:∀ s',Inv X pins (σ.set i (some v)) H s'→(∃ a,Heap.SameBut a s.heap s'.heap∧(a=X.env.locals∨X.env.cells.lookup x=some a))→Q () s') (hf:X.fn x=true∨X.env.scope.names.lookup x=some .local:=by first | exact .inl rfl | exact .inr rfl | assumption):wpAny M A (storeName X.env x u) Q E s:=by
  obtain ⟨m,hn,hl⟩:=id I.loc
  have hcls:(X.env.scope.kind == .class || (X.env.scope.kind == .module && X.env.locals != X.env.globals))=false:=by rw [I.ok.kind];rfl
  have hiσ:i<σ.length:=by rw [I.len];exact (List.getElem?_eq_some_iff.mp hi).1
  have cne:=I.cne
  have tracked:∀ {a:Addr}{h':Heap},(∃ o,s.heap.get? a=some o∧H a=none)→Heap.SameBut a s.heap h'→HOk X.prog X.w H h':=fun {a h'} ha hs b ob e=>by
    obtain ⟨_,_,hfree⟩:=ha
    refine (I.hok b ob e).stay (fun c w' hc q=>(hs.2 c ?_).trans q) (fun _ q=>q) fun _ _ q=>q
    rintro rfl
    rcases hc with rfl | hc
    · rw [hfree] at e;cases e
    · rw [hfree] at hc;cases hc
  rcases hx with hk | hk
  · refine wpAny_storeName_local hk hn (fun h' hn' hs=>?_) hcls
    obtain ⟨oL,_,_,hoL,_⟩:=id hn
    refine h _ ⟨I.ok,I.os,I.bare,⟨fun b o e n hb hx=>?_,fun b o e n hb hx=>?_,I.base.free,fun b o e hx=>?_,I.base.tups,I.base.frzs,I.base.tbls⟩,⟨_,hn',fun j y v' e1 e2 e3=>?_⟩,fun y c e=>?_,I.free,I.freeC,fun p hp=>?_,tracked ⟨oL,hoL,I.free⟩ hs,by simpa using I.len⟩ ⟨_,hs,.inl rfl⟩
    · exact (hs.2 b (Nat.ne_of_lt (Nat.lt_of_lt_of_le (Heap.lt_size e) I.ok.above))).trans (I.base.keep b o e n hb hx)
    · obtain ⟨sl,e1⟩:=I.base.slot b o e n hb hx
      exact ⟨sl,(hs.2 b (Nat.ne_of_lt (Nat.lt_of_lt_of_le (Heap.lt_size e) I.ok.above))).trans e1⟩
    · obtain ⟨o',e1⟩:=I.base.there b o e hx
      exact ⟨o',(hs.2 b (Nat.ne_of_lt (Nat.lt_of_lt_of_le (Heap.lt_size e) I.ok.above))).trans e1⟩
    · by_cases hj:j=i
      · subst hj
        rw [hi] at e1;cases e1
        rw [List.getElem?_set_self hiσ] at e2
        cases e2
        exact ⟨u,r,.inl ⟨hk,by simp⟩⟩
      · rw [List.getElem?_set_ne (Ne.symm hj)] at e2
        obtain ⟨u',r',q⟩:=hl j y v' e1 e2 e3
        refine ⟨u',r',?_⟩
        rcases q with ⟨k,e⟩ | ⟨k,c,e,z⟩
        · refine .inl ⟨k,?_⟩
          have:y≠x:=fun e=>hj (nodup_ix hN e1 (e ▸ hi))
          simp [this,e]
        · exact .inr ⟨k,c,e,z.sameBut hs (cne y c e)⟩
    · obtain ⟨w',z⟩:=I.cell y c e
      exact ⟨w',z.sameBut hs (cne y c e)⟩
    · obtain ⟨e,n,ne,nf,d⟩:=I.pin p hp
      exact ⟨(hs.2 p.1 ne).trans e,n,ne,nf,d⟩
  · have hfn:X.fn x=true:=by
      rcases hf with z | z
      · exact z
      · rw [z] at hk;cases hk
    obtain ⟨c,hc⟩:=I.ok.has x (.inl hk)
    obtain ⟨w',z⟩:=I.cell x c hc
    refine wpAny_storeName_cell I.ok.kind hk hc z (fun h' hc' hs=>?_)
    obtain ⟨oc,hoc,hocd⟩:=id z
    refine h { s with heap:=h' } ⟨I.ok,I.os,I.bare,⟨fun b o e n hb hx=>?_,fun b o e n hb hx=>?_,I.base.free,fun b o e hx=>?_,I.base.tups,I.base.frzs,I.base.tbls⟩,⟨m,hn.sameBut hs (Ne.symm (cne x c hc)),fun j y v' e1 e2 e3=>?_⟩,fun y c' e=>?_,I.free,I.freeC,fun p hp=>?_,tracked ⟨oc,hoc,I.freeC x c hc⟩ hs,by simpa using I.len⟩ ⟨c,hs,.inr hc⟩
    · exact (hs.2 b (Nat.ne_of_lt (Nat.lt_of_lt_of_le (Heap.lt_size e) (I.ok.cab x c hfn hc)))).trans (I.base.keep b o e n hb hx)
    · obtain ⟨sl,e1⟩:=I.base.slot b o e n hb hx
      exact ⟨sl,(hs.2 b (Nat.ne_of_lt (Nat.lt_of_lt_of_le (Heap.lt_size e) (I.ok.cab x c hfn hc)))).trans e1⟩
    · obtain ⟨o',e1⟩:=I.base.there b o e hx
      exact ⟨o',(hs.2 b (Nat.ne_of_lt (Nat.lt_of_lt_of_le (Heap.lt_size e) (I.ok.cab x c hfn hc)))).trans e1⟩
    · by_cases hj:j=i
      · subst hj
        rw [hi] at e1;cases e1
        rw [List.getElem?_set_self hiσ] at e2
        cases e2
        exact ⟨u,r,.inr ⟨.inl hk,c,hc,hc'⟩⟩
      · rw [List.getElem?_set_ne (Ne.symm hj)] at e2
        obtain ⟨u',r',q⟩:=hl j y v' e1 e2 e3
        refine ⟨u',r',?_⟩
        rcases q with q | ⟨k,c',e,z'⟩
        · exact .inl q
        · refine .inr ⟨k,c',e,z'.sameBut hs ?_⟩
          rintro rfl
          exact hj (nodup_ix hN e1 (I.ok.inj _ _ _ e hc ▸ hi))
    · by_cases hcc:c'=c
      · subst hcc;exact ⟨_,hc'⟩
      · obtain ⟨w2,z2⟩:=I.cell y c' e
        exact ⟨w2,z2.sameBut hs hcc⟩
    · obtain ⟨e,n,ne,nf,d⟩:=I.pin p hp
      refine ⟨(hs.2 p.1 ?_).trans e,n,ne,nf,d⟩
      intro q
      rw [q,hoc] at e
      have q':oc=p.2:=Option.some.inj e
      exact d w' (by rw [← q'];exact hocd)
theorem store_ok {M:Model}{A:Around}{E:Value→Shared→Prop}{i:Nat}{x:Str}{v:V}{u:Value}{Q:Unit→Shared→Prop} (I:Inv X pins σ H s) (hN:X.N.Nodup) (hi:X.N[i]?=some x) (hx:Loc X.env.scope x) (r:RelV v u)
    (h:∀ s',Inv X pins (σ.set i (some v)) H s'→Q () s') (hf:X.fn x=true∨X.env.scope.names.lookup x=some .local:=by first | exact .inl rfl | exact .inr rfl | assumption):wpAny M A (storeName X.env x u) Q E s :=
  store_ok2 I hN hi hx r (fun s' I' _=>h s' I') hf
theorem Inv.call' {s':Shared}{ch:List Addr} (I:Inv X pins σ H s) (ho:s'.os=s.os) (u:Un (frs X.stack) ch H H' s.heap s'.heap) (hok:HOk X.prog X.w H' s'.heap) (hg:AllBare s'.gens)
    (hch:∀ b∈ch,(b∈X.ex∨X.s₀.heap.objs.size≤b)∧b≠X.env.locals∧(∀ x c,X.env.cells.lookup x=some c→c≠b)∧∀ p∈X.pn ++ pins,p.1≠b):Inv X pins σ H' s':=by
  obtain ⟨h',g',d',t',o'⟩:=s'
  have e:o'=s.os:=ho
  subst e
  exact I.call (g':=g') (t':=t') (d':=d') u hok hg hch
end
abbrev XK:=Value→Option Addr→Hp→Prop
abbrev St:=List (Option V)
abbrev VK:=V→Hp→Prop
abbrev TE:=St→Hp→VK→Prop
abbrev TT:=St→Hp→(Bool→Hp→Prop)→Prop
abbrev TA:=St→Hp→(List V→Hp→Prop)→Prop
structure Ends where
  nx:St→Hp→Prop
  rt:VK
  bk:St→Hp→Prop:=fun _ _=>False
  ct:St→Hp→Prop:=fun _ _=>False
abbrev TS:=Ends→St→Hp→Prop
def EP (X:Cx) (pins:List (Addr×Obj)) (σ:St) (Q:VK) (u:Value) (s':Shared):Prop:=∃ v H',Inv X pins σ H' s'∧RelV v u∧Q v H'
def SP (X:Cx) (pins:List (Addr×Obj)) (D:Ends) (f:Flow) (s':Shared):Prop :=
  match f with
  | .next=>∃ σ' H',Inv X pins σ' H' s'∧D.nx σ' H'
  | .brk=>∃ σ' H',Inv X pins σ' H' s'∧D.bk σ' H'
  | .cont=>∃ σ' H',Inv X pins σ' H' s'∧D.ct σ' H'
  | .ret u=>∃ v σ' H',Inv X pins σ' H' s'∧RelV v u∧D.rt v H'
def PE (X:Cx) (e:Expr) (t:TE):Prop :=
  ∀ (pins:List (Addr×Obj)) (s:Shared) (σ:St) (H:Hp) (Q:VK),Inv X pins σ H s→t σ H Q→wpAny (model X.prog X.w) X.A (eval e X.env) (EP X pins σ Q) X.xe s
def PSs (X:Cx) (st:List Stmt) (t:TS):Prop :=
  ∀ (pins:List (Addr×Obj)) (s:Shared) (σ:St) (H:Hp) (D:Ends),Inv X pins σ H s→t D σ H→wpAny (model X.prog X.w) X.A (execs st X.env) (SP X pins D) X.xe s
theorem thn {α:Type}{t:Sem α}{Q Q':α→Shared→Prop}{M:Model}{A:Around}{E:Value→Shared→Prop}{s:Shared} (h:wpAny M A t Q E s) (hQ:∀ a s,Q a s→Q' a s):wpAny M A t Q' E s:=wpAny_mono h hQ fun _ _ x=>x
section
variable {X:Cx}
def tVar (i:Nat):TE:=fun σ H Q=>∃ v,σ[i]?=some (some v)∧Q v H
def tC (v:V):TE:=fun _ H Q=>Q v H
theorem pe_var {i:Nat}{x:Str}{pos:Pos} (hN:X.N[i]?=some x) (hv:Vis X.env.scope x) (hd:(x == ("__debug__" : Str))=false:=by decide) (hcd:(x == ("__classdict__" : Str))=false:=by decide):PE X (.Name x pos) (tVar i):=by
  intro pins s σ H Q I h
  obtain ⟨v,e,h⟩:=h
  obtain ⟨m,hn,hl⟩:=I.loc
  obtain ⟨u,r,l⟩:=hl i x v hN e hv
  have fin:EP X pins σ Q u s:=⟨v,H,I,r,h⟩
  rcases l with ⟨hk,hm⟩ | ⟨hk,c,hc,hcell⟩
  · exact wpAny_Name (wpAny_loadName_local I.ok.kind hk hn hm fin) hd
  · rcases hk with hk | hk
    · exact wpAny_Name (wpAny_loadName_cell I.ok.kind hk hc hcell fin) hd
    · exact wpAny_Name (wpAny_loadName_free I.ok.kind hk hc hcell fin hcd) hd
theorem pe_int {i j pos}:PE X (.Constant (.int i) j pos) (tC (.int i)):=fun _ _ _ H _ I h=>wpAny_Constant_int ⟨.int i,H,I.tok _,⟨_,rfl⟩,h⟩
theorem pe_bl {b j pos}:PE X (.Constant (.bool b) j pos) (tC (.bl b)):=fun _ _ _ H _ I h=>Constant_bool ⟨.bl b,H,I,rfl,h⟩
theorem pe_non {j pos}:PE X (.Constant .none j pos) (tC .non):=fun _ _ _ H _ I h=>Constant_none ⟨.non,H,I,rfl,h⟩
theorem pe_str {x j pos}:PE X (.Constant (.str x) j pos) (tC (.str x)):=fun _ _ _ H _ I h=>Calls.Constant_str ⟨.str x,H,I.tok _,⟨_,rfl⟩,h⟩
def Gl (X:Cx) (x:Str):Prop:=X.env.kindOf x=some .globalImplicit
theorem ld_glob {E:Value→Shared→Prop}{pins:List (Addr×Obj)}{s:Shared}{σ:St}{H:Hp}{x:Str}{u:Value}{pos:Pos}{Q:Value→Shared→Prop} (I:Inv X pins σ H s) (hg:Gl X x) (hm:X.mg x=some u) (h:Q u s)
    (hd:(x == ("__debug__" : Str))=false:=by decide):wpAny (model X.prog X.w) X.A (eval (.Name x pos) X.env) Q E s :=
  Calls.Name_function_global I.ok.kind hg (Calls.loadGlobal_global (by rw [I.ok.glob];exact I.mod.glob.keeps I.bk) hm h) hd
theorem ld_blt {E:Value→Shared→Prop}{pins:List (Addr×Obj)}{s:Shared}{σ:St}{H:Hp}{x:Str}{u:Value}{pos:Pos}{Q:Value→Shared→Prop} (I:Inv X pins σ H s) (hg:Gl X x) (hm:X.mg x=none) (hv:bootBuiltins x=some u) (h:Q u s)
    (hn:x≠"__name__":=by decide) (hd:(x == ("__debug__" : Str))=false:=by decide):wpAny (model X.prog X.w) X.A (eval (.Name x pos) X.env) Q E s:=by
  obtain ⟨mb,h1,h2⟩:=I.mod.blt
  exact Calls.Name_function_global I.ok.kind hg (Calls.loadGlobal_builtin (by rw [I.ok.glob];exact I.mod.glob.keeps I.bk) hm (by rw [I.ok.blt];exact h1.keeps I.bk) ((h2 x hn).trans hv) h) hd
theorem pe_glob {x:Str}{v:V}{u:Value}{pos:Pos} (hg:Gl X x) (hm:X.mg x=some u) (r:RelV v u) (hd:(x == ("__debug__" : Str))=false:=by decide):PE X (.Name x pos) (tC v) :=
  fun _ _ _ H _ I h=>ld_glob I hg hm ⟨v,H,I,r,h⟩ hd
variable {a b:Expr}{ta tb:TE}{pos:Pos}
theorem nobehind (b:Expr) {op:CmpOp} (h:op≠.In) (h2:op≠.NotIn):behindInMarks op b=false:=by
  have e1:(op == CmpOp.In)=false:=by cases op<;>first | rfl | exact absurd rfl h
  have e2:(op == CmpOp.NotIn)=false:=by cases op<;>first | rfl | exact absurd rfl h2
  cases b<;>simp [behindInMarks,e1,e2]
theorem RelV.none_iff {x:V}{v:Value} (r:RelV x v):(v == Value.none)=decide (x = .non):=by
  cases x with
  | non=>cases r;rfl
  | bl _=>cases r;rfl
  | int _=>obtain ⟨t,rfl⟩:=r;rfl
  | str _=>obtain ⟨t,rfl⟩:=r;rfl
  | byt _=>obtain ⟨t,rfl⟩:=r;rfl
  | flt _=>obtain ⟨t,rfl⟩:=r;rfl
  | ref _=>cases r;rfl
  | ty _=>cases r;rfl
variable {tA tB':TT}{rest:List Expr}
end
def SqL (K:PySem.W.Frag) (H:Hp) (a:Addr) (xs:List V):Prop :=
  Rd H a (.lst xs) ∨
    ∃ (o:Obj) (its:Array Value) (n:Nat),K.lookup a=some o∧o.cls = .type "list"∧o.dict=none∧o.data = .seq its n∧its.size≤sizeLine∧Vals xs its.toList
def SqT (K:PySem.W.Frag) (H:Hp) (a:Addr) (xs:List V):Prop :=
  Rd H a (.tup xs) ∨
    ∃ (o:Obj) (its:Array Value) (n:Nat),K.lookup a=some o∧o.cls = .type "tuple"∧o.data = .seq its n∧its.size≤sizeLine∧Vals xs its.toList
noncomputable def absV:Value→Option V
  | .none=>some .non
  | .bool b=>some (.bl b)
  | .int i _=>some (.int i)
  | .str x _=>some (.str x)
  | .bytes b _=>some (.byt b)
  | .float b _=>some (.flt b)
  | .ref a=>some (.ref a)
  | .type n=>some (.ty n)
  | _=>none
theorem RelV.abs {x:V}{u:Value} (r:RelV x u):absV u=some x:=by
  cases x with
  | non=>cases r;rfl
  | bl _=>cases r;rfl
  | int _=>obtain ⟨t,rfl⟩:=r;rfl
  | str _=>obtain ⟨t,rfl⟩:=r;rfl
  | byt _=>obtain ⟨t,rfl⟩:=r;rfl
  | flt _=>obtain ⟨t,rfl⟩:=r;rfl
  | ref _=>cases r;rfl
  | ty _=>cases r;rfl
theorem RelV.inj {x y:V}{u:Value} (r:RelV x u) (q:RelV y u):x=y:=Option.some.inj (r.abs.symm.trans q.abs)
theorem Vals.inj:∀ {xs ys:List V}{us:List Value},Vals xs us→Vals ys us→xs=ys
  | _,_,_,.nil,.nil=>rfl
  | _,_,_,.cons r t,.cons r' t'=>by rw [r.inj r',Vals.inj t t']
section
variable {X:Cx}{pins:List (Addr×Obj)}{σ:St}{H:Hp}{s:Shared}{a:Addr}{xs ys:List V}
theorem SqL.of {K:PySem.W.Frag} (h:H a=some (.lst xs)):SqL K H a xs:=.inl (.inl h)
theorem SqT.of {K:PySem.W.Frag} (h:H a=some (.tup xs)):SqT K H a xs:=.inl (.inl h)
theorem Inv.list (I:Inv X pins σ H s) (h:SqL X.K H a xs):∃ its:List Value,Vals xs its∧PlainL s.heap a its.toArray∧xs.length≤sizeLine:=by
  rcases h with h | ⟨o,its,n,hk,hc,hd,hs,hz,r⟩
  · obtain ⟨z,its,n,r,e⟩:=h.ok I.hok
    exact ⟨its,r,⟨_,n,e,rfl,rfl,rfl⟩,z⟩
  · refine ⟨its.toList,r,⟨o,n,I.kIn a o hk,hc,hd,by simpa using hs⟩,?_⟩
    have e:=r.length
    simp only [Array.length_toList] at e
    omega
theorem Inv.tuple (I:Inv X pins σ H s) (h:SqT X.K H a xs):∃ its:List Value,Vals xs its∧IsTup s.heap a its.toArray∧xs.length≤sizeLine:=by
  rcases h with h | ⟨o,its,n,hk,hc,hs,hz,r⟩
  · obtain ⟨z,its,r,p⟩:=h.ok I.hok
    exact ⟨its,r,p,z⟩
  · refine ⟨its.toList,r,⟨o,I.kIn a o hk,hc,n,by simpa using hs⟩,?_⟩
    have e:=r.length
    simp only [Array.length_toList] at e
    omega
theorem Inv.list_inj (I:Inv X pins σ H s) (h:SqL X.K H a xs) (h':SqL X.K H a ys):xs=ys:=by
  obtain ⟨its,r,⟨o,n,e,_,_,d⟩,_⟩:=I.list h
  obtain ⟨its',r',⟨o',n',e',_,_,d'⟩,_⟩:=I.list h'
  rw [e] at e';cases e'
  rw [d] at d'
  injection d' with d1 _
  have:its=its':=by simpa using congrArg Array.toList d1
  subst this
  exact r.inj r'
theorem Inv.tuple_inj (I:Inv X pins σ H s) (h:SqT X.K H a xs) (h':SqT X.K H a ys):xs=ys:=by
  obtain ⟨its,r,⟨o,e,_,n,d⟩,_⟩:=I.tuple h
  obtain ⟨its',r',⟨o',e',_,n',d'⟩,_⟩:=I.tuple h'
  rw [e] at e';cases e'
  rw [d] at d'
  injection d' with d1 _
  have:its=its':=by simpa using congrArg Array.toList d1
  subst this
  exact r.inj r'
end
noncomputable abbrev Cx.wish (X:Cx) (E:Value→Shared→Prop):Cx:={ X with xe:=E }
theorem Cx.Ok.wish {X:Cx} (ok:X.Ok) (E:Value→Shared→Prop):(X.wish E).Ok :=
  ⟨ok.mod,ok.kind,ok.glob,ok.blt,ok.above,ok.inj,ok.has,ok.cab,ok.hd,ok.frames,ok.stk,ok.exf,ok.bs,ok.bsz,ok.noex,ok.exfs,ok.funs,ok.frf⟩
theorem Cx.Ok.unwish {X:Cx}{E:Value→Shared→Prop} (ok:(X.wish E).Ok):X.Ok :=
  ⟨ok.mod,ok.kind,ok.glob,ok.blt,ok.above,ok.inj,ok.has,ok.cab,ok.hd,ok.frames,ok.stk,ok.exf,ok.bs,ok.bsz,ok.noex,ok.exfs,ok.funs,ok.frf⟩
section
variable {X:Cx}{pins:List (Addr×Obj)}{σ:St}{H:Hp}{s:Shared}{E:Value→Shared→Prop}
theorem Inv.wish (I:Inv X pins σ H s) (E:Value→Shared→Prop):Inv (X.wish E) pins σ H s:=⟨I.ok.wish E,I.os,I.bare,I.base,I.loc,I.cell,I.free,I.freeC,I.pin,I.hok,I.len⟩
theorem Inv.unwish (I:Inv (X.wish E) pins σ H s):Inv X pins σ H s:=⟨I.ok.unwish,I.os,I.bare,I.base,I.loc,I.cell,I.free,I.freeC,I.pin,I.hok,I.len⟩
end
section
variable {X:Cx}{st:Stmt}{rest:List Stmt}{t u:TS}{e:Expr}{te:TE}{pos:Pos}
theorem Inv.quiet {pins:List (Addr×Obj)}{σ:St}{H:Hp}{s:Shared} (I:Inv X pins σ H s):interactive X.env=false:=by simp [interactive,I.ok.kind]
end
structure It where
  go:Nat→Hp→Prop
  yld:Nat→Hp→V→Hp→Prop
  stop:Nat→Hp→Prop
def FpOk (X:Cx) (pins:List (Addr×Obj)) (H:Hp) (b:Addr):Prop :=
  H b=none∧b≠X.env.locals∧b ∉ X.fs∧(b∈X.ex∨X.s₀.heap.objs.size≤b)∧(∀ x c,X.env.cells.lookup x=some c→c≠b)∧∀ p∈X.pn ++ pins,p.1≠b
theorem Inv.fpOk {X:Cx}{pins:List (Addr×Obj)}{σ:St}{H H':Hp}{s:Shared}{b:Addr} (I:Inv X pins σ H s) (hb:s.heap.objs.size≤b) (hn:H' b=none):FpOk X pins H' b:=by
  refine ⟨hn,Nat.ne_of_gt (Nat.lt_of_lt_of_le I.lt hb),I.nofs hb,.inr (Nat.le_trans I.sz hb),fun x c e z=>?_,fun p hp z=>?_⟩
  · obtain ⟨v,q⟩:=I.cell x c e
    exact absurd (Nat.lt_of_lt_of_le q.lt (by rw [z];exact hb)) (Nat.lt_irrefl _)
  · exact absurd (Nat.lt_of_lt_of_le (Heap.lt_size (I.pin p hp).1) (by rw [z];exact hb)) (Nat.lt_irrefl _)
structure Turn (P:Program) (w:World) (K:PySem.W.Frag) (tg:Expr) (J:It) (fp:List Addr) (it:Addr) (tn:Nat→Heap→Prop):Prop where
  mem:it∈fp
  obj:∀ i h,tn i h→∀ b∈fp,∃ o,h.get? b=some o∧∀ v,o.data≠.cell v
  keep:∀ i h h',tn i h→(∀ b∈fp,∀ o,h.get? b=some o→h'.get? b=some o)→tn i h'
  item:∀ (X:Cx),X.prog=P→X.w=w→X.K=K→X.calm=true→∀ (i:Nat) (pins:List (Addr×Obj)) (s:Shared) (σ:St) (H:Hp) (E:Value→Shared→Prop),Inv X pins σ H s→(∀ b∈fp,FpOk X pins H b)→tn i s.heap→J.go i H →
    wpAny (model P w) X.A (pyNext (.ref it)) (fun r s1=>∃ u,r=some u ∧
      wpAny (model P w) X.A (letOwnedTupleGo tg (.ref it) u) (fun _ s2=>∃ x H',Inv X pins σ H' s2∧RelV x u∧J.yld i H x H'∧tn (i+1) s2.heap∧∀ b∈fp,H' b=none) E s1) E s
  done:∀ (X:Cx),X.prog=P→X.w=w→X.K=K→X.calm=true→∀ (i:Nat) (pins:List (Addr×Obj)) (s:Shared) (σ:St) (H:Hp) (E:Value→Shared→Prop),Inv X pins σ H s→(∀ b∈fp,FpOk X pins H b)→tn i s.heap→J.stop i H →
    wpAny (model P w) X.A (pyNext (.ref it)) (fun r s1=>r=none∧Inv X pins σ H s1) E s
  self:∀ (A:Around) (i:Nat) (s:Shared) (Q:Value→Shared→Prop) (E:Value→Shared→Prop),tn i s.heap→Q (.ref it) s→wpAny (model P w) A (pyIter (.ref it)) Q E s
abbrev TI:=St→Hp→(It→Hp→Prop)→Prop
def PIE (X:Cx) (pins:List (Addr×Obj)) (σ:St) (tg:Expr) (R:It→Hp→Prop) (itv:Value) (s2:Shared):Prop :=
  ∃ (it:Addr) (fp:List Addr) (tn:Nat→Heap→Prop) (J:It) (H':Hp),itv = .ref it∧Inv X pins σ H' s2∧Turn X.prog X.w X.K tg J fp it tn∧tn 0 s2.heap∧(∀ b∈fp,FpOk X pins H' b)∧R J H'
theorem go_of {M:Model}{A:Around}{E:Value→Shared→Prop}{s:Shared}{tg:Expr}{it:Addr}{u:Value}{o:Obj}{n:String}{vs:Array Value}{Q:Unit→Shared→Prop} (ho:s.heap.get? it=some o) (hc:o.cls = .type n) (hd:o.data = .fields vs)
    (hn:["enumerate","zip","dict_itemiterator","dict_reverseitemiterator","odict_iterator","itertools.zip_longest","itertools.pairwise"].contains n=false) (hQ:Q () s):wpAny M A (letOwnedTupleGo tg (.ref it) u) Q E s:=by
  unfold letOwnedTupleGo
  cases tg<;>first
    | exact wpAny_pure hQ
    | (cases u<;>first
        | exact wpAny_pure hQ
        | (refine wpAny_bind (wpAny_load ho ?_)
           rw [hc,hd]
           show wpAny M A (if (["enumerate","zip","dict_itemiterator","dict_reverseitemiterator","odict_iterator","itertools.zip_longest","itertools.pairwise"].contains n && vs[0]? == some (rawInt _))=true then _ else _) Q E s
           rw [if_neg (by intro h;rw [hn,Bool.false_and] at h;cases h)]
           exact wpAny_pure hQ))
noncomputable def Itl (K:PySem.W.Frag) (a:Addr):It :=
  ⟨fun i H=>∃ xs x,SqL K H a xs∧xs[i]?=some x,fun i H x H'=>H'=H∧∀ xs,SqL K H a xs→xs[i]?=some x,fun i H=>∃ xs,SqL K H a xs∧xs.length≤i⟩
noncomputable def Itt (K:PySem.W.Frag) (a:Addr):It :=
  ⟨fun i H=>∃ xs x,SqT K H a xs∧xs[i]?=some x,fun i H x H'=>H'=H∧∀ xs,SqT K H a xs→xs[i]?=some x,fun i H=>∃ xs,SqT K H a xs∧xs.length≤i⟩
theorem turn_list {P:Program}{w:World}{K:PySem.W.Frag}{tg:Expr} (a it:Addr):Turn P w K tg (Itl K a) [it] it (fun i h=>h.IsListIter it a i) where
  mem:=by simp
  obj:=fun i h st b hb=>by
    have e:b=it:=by simpa using hb
    subst e
    obtain ⟨o,e,c,d⟩:=st
    exact ⟨o,e,fun v z=>by rw [d] at z;cases z⟩
  keep:=fun i h h' st k=>st.at fun o e=>k it (by simp) o e
  item:=by
    intro X hP hw hK hc i pins s σ H E I hf st hg
    subst hP hw hK
    obtain ⟨xs,x,hq,hx⟩:=hg
    obtain ⟨its,rv,p,hz⟩:=I.list hq
    obtain ⟨u,hu,ru⟩:=rv.get hx
    obtain ⟨f0,f1,f2,f3,f4,f5⟩:=hf it (by simp)
    refine wpAny_pyNext_list_item st p.isList (x:=u) (by simpa using hu) fun h' st' sb=>?_
    have I1:Inv X pins σ H { s with heap:=h' }:=I.turned (t':=s.toks) (fun b o hb e=>(sb.2 b hb).trans e) f0 f1 f3 f4 f5
    obtain ⟨o,e,c,d⟩:=id st'
    exact ⟨u,rfl,go_of (s:={ s with heap:=h' }) e c d (by decide) ⟨x,H,I1,ru,⟨rfl,fun ys hy=>by rw [I.list_inj hy hq];exact hx⟩,st',fun b hb=>(hf b hb).1⟩⟩
  done:=by
    intro X hP hw hK hc i pins s σ H E I hf st hg
    subst hP hw hK
    obtain ⟨xs,hq,hx⟩:=hg
    obtain ⟨its,rv,p,hz⟩:=I.list hq
    obtain ⟨f0,f1,f2,f3,f4,f5⟩:=hf it (by simp)
    have hl:=rv.length
    exact wpAny_pyNext_list_end (I.ok.hd hc) st p.isList (by simp;omega) fun h' eb=>⟨rfl,I.turned (t':=s.toks) (fun b o hb e=>eb b o hb e) f0 f1 f3 f4 f5⟩
  self:=fun _ _ _ _ _ st h=>wpAny_pyIter_listiter st h
theorem turn_tuple {P:Program}{w:World}{K:PySem.W.Frag}{tg:Expr} (a it:Addr):Turn P w K tg (Itt K a) [it] it (fun i h=>h.IsTupleIter it a i) where
  mem:=by simp
  obj:=fun i h st b hb=>by
    have e:b=it:=by simpa using hb
    subst e
    obtain ⟨o,e,c,d⟩:=st
    exact ⟨o,e,fun v z=>by rw [d] at z;cases z⟩
  keep:=fun i h h' st k=>st.at fun o e=>k it (by simp) o e
  item:=by
    intro X hP hw hK hc i pins s σ H E I hf st hg
    subst hP hw hK
    obtain ⟨xs,x,hq,hx⟩:=hg
    obtain ⟨its,rv,p,hz⟩:=I.tuple hq
    obtain ⟨u,hu,ru⟩:=rv.get hx
    obtain ⟨f0,f1,f2,f3,f4,f5⟩:=hf it (by simp)
    refine wpAny_pyNext_tuple_item st (show s.heap.IsTuple a its.toArray from p) (x:=u) (by simpa using hu) fun h' st' sb=>?_
    have I1:Inv X pins σ H { s with heap:=h' }:=I.turned (t':=s.toks) (fun b o hb e=>(sb.2 b hb).trans e) f0 f1 f3 f4 f5
    obtain ⟨o,e,c,d⟩:=id st'
    exact ⟨u,rfl,go_of (s:={ s with heap:=h' }) e c d (by decide) ⟨x,H,I1,ru,⟨rfl,fun ys hy=>by rw [I.tuple_inj hy hq];exact hx⟩,st',fun b hb=>(hf b hb).1⟩⟩
  done:=by
    intro X hP hw hK hc i pins s σ H E I hf st hg
    subst hP hw hK
    obtain ⟨xs,hq,hx⟩:=hg
    obtain ⟨its,rv,p,hz⟩:=I.tuple hq
    obtain ⟨f0,f1,f2,f3,f4,f5⟩:=hf it (by simp)
    have hl:=rv.length
    exact wpAny_pyNext_tuple_end (I.ok.hd hc) st (show s.heap.IsTuple a its.toArray from p) (by simp;omega) fun h' eb=>⟨rfl,I.turned (t':=s.toks) (fun b o hb e=>eb b o hb e) f0 f1 f3 f4 f5⟩
  self:=fun _ _ _ _ _ st h=>wpAny_pyIter_tupleiter st h
section
variable {X:Cx}{tg:Expr}
noncomputable def pinsAt (fp:List Addr) (h:Heap):List (Addr×Obj):=fp.filterMap fun b=>(h.get? b).map fun o=>(b,o)
theorem mem_pinsAt {fp:List Addr}{h:Heap}{b:Addr}{o:Obj} (hb:b∈fp) (e:h.get? b=some o):(b,o)∈pinsAt fp h:=List.mem_filterMap.mpr ⟨b,hb,by rw [e];rfl⟩
theorem of_pinsAt {fp:List Addr}{h:Heap}{p:Addr×Obj} (hp:p∈pinsAt fp h):p.1∈fp∧h.get? p.1=some p.2:=by
  obtain ⟨b,hb,e⟩:=List.mem_filterMap.mp hp
  cases q:h.get? b with
  | none=>rw [q] at e;cases e
  | some o =>
    rw [q] at e
    have e':(b,o)=p:=Option.some.inj e
    subst e'
    exact ⟨hb,q⟩
theorem Inv.pinned {pins:List (Addr×Obj)}{σ:St}{H:Hp}{s:Shared}{fp:List Addr} (I:Inv X pins σ H s) (hf:∀ b∈fp,FpOk X pins H b) (ho:∀ b∈fp,∃ o,s.heap.get? b=some o∧∀ v,o.data≠.cell v):Inv X (pins ++ pinsAt fp s.heap) σ H s :=
  I.pins_of fun p hp=>(List.mem_append.mp hp).elim (fun z=>I.pin p (List.mem_append_right _ z)) fun z=>by
    obtain ⟨hb,e⟩:=of_pinsAt z
    obtain ⟨f0,f1,f2,_⟩:=hf p.1 hb
    obtain ⟨o,e',d⟩:=ho p.1 hb
    rw [e] at e';cases e'
    exact ⟨e,f0,f1,f2,d⟩
theorem Inv.unpinned {pins pl:List (Addr×Obj)}{σ:St}{H:Hp}{s:Shared} (I:Inv X (pins ++ pl) σ H s):Inv X pins σ H s:=I.pins_of fun p hp=>I.pin p (List.mem_append_right _ (List.mem_append_left _ hp))
end
abbrev R2:=V→V→Hp→VK→Prop
def OpR (X:Cx) (f:Value→Value→Sem Value) (r:R2):Prop :=
  ∀ (pins:List (Addr×Obj)) (s:Shared) (σ:St) (H:Hp) (x y:V) (v u:Value) (Q:VK),Inv X pins σ H s→RelV x v→RelV y u→r x y H Q →
    wpAny (model X.prog X.w) X.A (f v u) (EP X pins σ Q) X.xe s
def CallR (X:Cx) (f:Value) (r:List V→Hp→VK→Prop):Prop :=
  ∀ (pins:List (Addr×Obj)) (s:Shared) (σ:St) (H:Hp) (xs:List V) (us:List Value) (Q:VK),Inv X pins σ H s→Vals xs us→r xs H Q →
    wpAny (model X.prog X.w) X.A (call f us) (EP X pins σ Q) X.xe s
section
variable {X:Cx}{a b c:Expr}{ta tb tc:TE}{pos:Pos}
theorem fin_bl {pins:List (Addr×Obj)}{σ:St}{H:Hp}{s:Shared}{Q:VK}{k k':Bool} (I:Inv X pins σ H s) (q:Q (.bl k) H) (e:k=k'):EP X pins σ Q (.bool k') s:=by
  subst e
  exact ⟨.bl k,H,I,rfl,q⟩
theorem op_in_str:OpR X (compareOp .In) (fun x y H Q=>∃ i j,x = .str i∧y = .str j∧Q (.bl (!(Builtin.Str.occurrences j i 0 j.length 1).isEmpty)) H):=by
  intro pins s σ H x y v u Q I rx ry h
  obtain ⟨i,j,rfl,rfl,q⟩:=h
  obtain ⟨t,rfl⟩:=rx
  obtain ⟨t',rfl⟩:=ry
  exact in_str (fin_bl I q rfl)
theorem nomark (b:Expr) {op:CmpOp} (h:op≠.In:=by decide) (h2:op≠.NotIn:=by decide):behindInMarks op b=false:=by
  have e1:(op == CmpOp.In)=false:=by cases op<;>first | rfl | exact absurd rfl h
  have e2:(op == CmpOp.NotIn)=false:=by cases op<;>first | rfl | exact absurd rfl h2
  cases b<;>simp [behindInMarks,e1,e2]
theorem line63:(sizeLine:Nat)<2 ^ 63:=by rw [sizeLine_eq];decide
theorem op_add_str:OpR X (binaryOp .Add) (fun x y H Q=>∃ i j,x = .str i∧y = .str j∧i.length+j.length≤sizeLine∧Q (.str (i ++ j)) H):=by
  intro pins s σ H x y v u Q I rx ry h
  obtain ⟨i,j,rfl,rfl,hz,q⟩:=h
  obtain ⟨t,rfl⟩:=rx
  obtain ⟨t',rfl⟩:=ry
  exact add_str (fun t' tk=>⟨.str (i ++ j),H,I.tok _,⟨_,rfl⟩,q⟩) hz
theorem vals1 {x:V}{us:List Value} (r:Vals [x] us):∃ u,us=[u]∧RelV x u:=by
  cases r with
  | cons r1 r2=>cases r2;exact ⟨_,rfl,r1⟩
theorem vals2 {x y:V}{us:List Value} (r:Vals [x,y] us):∃ u w',us=[u,w']∧RelV x u∧RelV y w':=by
  cases r with
  | cons r1 r2 =>
    cases r2 with
    | cons r3 r4=>cases r4;exact ⟨_,_,rfl,r1,r3⟩
theorem call_abs:CallR X (.builtin "abs") (fun xs H Q=>∃ i,xs=[.int i]∧Q (.int (if i<0 then -i else i)) H):=by
  intro pins s σ H xs us Q I r h
  obtain ⟨i,rfl,q⟩:=h
  obtain ⟨u,rfl,t,rfl⟩:=vals1 r
  exact call_abs_int fun u tk=>⟨.int (if i<0 then -i else i),H,I.tok _,⟨_,rfl⟩,q⟩
theorem call_max2 (hc:X.calm=true):CallR X (.builtin "max") (fun xs H Q=>∃ i j,xs=[.int i,.int j]∧Q (.int (if j > i then j else i)) H):=by
  intro pins s σ H xs us Q I r h
  obtain ⟨i,j,rfl,q⟩:=h
  obtain ⟨u,w',rfl,⟨t,rfl⟩,⟨t',rfl⟩⟩:=vals2 r
  refine max_two_ints (I.ok.hd hc) fun h' tk k=>⟨_,H,I.kept k,?_,q⟩
  by_cases hj:j > i
  · rw [if_pos hj,if_pos hj];exact ⟨_,rfl⟩
  · rw [if_neg hj,if_neg hj];exact ⟨_,rfl⟩
theorem call_min2 (hc:X.calm=true):CallR X (.builtin "min") (fun xs H Q=>∃ i j,xs=[.int i,.int j]∧Q (.int (if j<i then j else i)) H):=by
  intro pins s σ H xs us Q I r h
  obtain ⟨i,j,rfl,q⟩:=h
  obtain ⟨u,w',rfl,⟨t,rfl⟩,⟨t',rfl⟩⟩:=vals2 r
  refine min_two_ints (I.ok.hd hc) fun h' tk k=>⟨_,H,I.kept k,?_,q⟩
  by_cases hj:j<i
  · rw [if_pos hj,if_pos hj];exact ⟨_,rfl⟩
  · rw [if_neg hj,if_neg hj];exact ⟨_,rfl⟩
theorem call_int1:CallR X (.type "int") (fun xs H Q=>(∃ i,xs=[.int i]∧Q (.int i) H)∨∃ k,xs=[.bl k]∧Q (.int (if k then 1 else 0)) H):=by
  intro pins s σ H xs us Q I r h
  rcases h with ⟨i,rfl,q⟩ | ⟨k,rfl,q⟩
  · obtain ⟨u,rfl,t,rfl⟩:=vals1 r
    exact call_int_int ⟨.int i,H,I,⟨_,rfl⟩,q⟩
  · obtain ⟨u,rfl,r1⟩:=vals1 r
    cases r1
    exact call_int_bool ⟨.int (if k then 1 else 0),H,I.tok _,⟨_,rfl⟩,q⟩
end
structure ObjM (h:Heap) (x dx C:Addr) (mA:Str→Option Value):Prop where
  obj:h.get? x=some (PySem.W.instObj C dx)
  ns:h.Ns1 dx mA
  ne:dx≠x
theorem lookIn_ns {h:Heap}{dx:Addr}{mA:Str→Option Value} (n:h.Ns1 dx mA):∃ od,h.get? dx=some od∧∀ name,PySem.W.lookIn name od=some (mA name):=by
  obtain ⟨o,es,ep,ho,hd,hk,_,hm⟩:=n
  refine ⟨o,ho,fun name=>?_⟩
  have e:=hm name
  unfold nsFind findBy at e
  rw [← Array.find?_toList] at e
  unfold PySem.W.lookIn
  rw [hd]
  dsimp only
  split
  · rename_i y q
    rw [q] at e
    exact congrArg some e
  · rename_i q
    rw [q] at e
    have a:es.toList.any (·.refKey)=false:=by
      rw [List.any_eq_false]
      intro y hy
      obtain ⟨z,t,hkey⟩:=hk y (Array.mem_toList_iff.mp hy)
      simp [DictEntry.refKey,hkey]
    have a':¬ es.toList.any (·.refKey)=true:=by rw [a];exact Bool.false_ne_true
    rw [if_neg a']
    exact congrArg some e
theorem ObjM.look {h:Heap}{x dx C:Addr}{mA:Str→Option Value} (I:ObjM h x dx C mA):∃ od,PySem.W.InstAt h x (PySem.W.instObj C dx) C (some od)∧∀ name,PySem.W.lookIn name od=some (mA name) :=
  let ⟨od,ho,hl⟩:=lookIn_ns I.ns
  ⟨od,⟨I.obj,rfl,rfl,ho⟩,hl⟩
section
variable {prog:Program}{w:World}{A:Around}{E:Value→Shared→Prop}{s:Shared}{K:PySem.W.Frag}{x dx C f:Addr}{mA:Str→Option Value}{name:Str}{v:Value}
theorem get_meth {pl:Sem Bool}{Q:Value×List Value→Shared→Prop} (X:K.In s.heap) (I:ObjM s.heap x dx C mA) (hg:PySem.W.plainGet K C name=true)
    (hf:PySem.W.findIn K (.ref C) name=some (some (.ref f))) (ht:PySem.W.isFn K (.ref f)=true) (hv:mA name=none) (h:Q (.ref f,[.ref x]) s) :
    wpAny (model prog w) A (getMethod (.ref x) name pl) Q E s:=by
  obtain ⟨od,J,hl⟩:=I.look
  exact PySem.W.method_fn X J (PySem.W.plainGet_of hg).1 (PySem.W.plainGet_of hg).2 hf (beq_iff_eq.mp ht) (by show (PySem.W.lookIn name od).map (·.isSome)=some false;rw [hl,hv];rfl) h
theorem make_map0 {R:Result→Shared→Prop} (X:K.In s.heap) (hm:PySem.W.makesIn K C=true)
    (hi:PySem.W.findIn K (.ref C) "__init__"=some (some (.builtin "object.__init__")))
    (hb:∀ self,PySem.W.Looks (model prog w) s.heap (bindSpecial (.builtin "object.__init__") self) (.builtin "object.__init__",[self]))
    (h:codeAny (model prog w) (A.under (.builtin "type.__call__" ⟨[.ref C],[]⟩)) (.call (.builtin "object.__init__") ⟨[.ref (s.heap.objs.size+1)],[]⟩) (PySem.W.InitBack (s.heap.objs.size+1) R)
      { s with heap:=(s.heap.push PySem.W.emptyDict).push (PySem.W.instObj C s.heap.objs.size) }) :
    codeAny (model prog w) A (.call (.ref C) ⟨[],[]⟩) R s:=by
  obtain ⟨hh,g,d,t,os⟩:=s
  exact PySem.W.make_core (PySem.W.makes_of X hm) (PySem.W.looks_findIn X hi) hb (.inr ⟨rfl,rfl⟩) h
end
theorem RelO.none_of {o:Option Value} (r:RelO none o):o=none:=by
  cases o with
  | none=>rfl
  | some u=>exact (show False from r).elim
section
variable {P:Program}{w:World}{H H':Hp}{h h':Heap}{a C dx:Addr}{fs fs':List (Str×V)}
theorem ins_get (hok:HOk P w H h) (e:H a=some (.ins C dx fs)):∃ mA,ObjM h a dx C mA∧(∀ f,RelO (fs.lookup f) (mA f))∧PySem.Within mA (fs.map (·.1))∧fs.length≤1000∧H dx=some (.own a):=by
  obtain ⟨d,z,ne,ob,mA,n,r,q⟩:=(show ObjOk P w H h a (.ins C dx fs) from hok a _ e)
  exact ⟨mA,⟨ob,n,ne⟩,r,q,z,d⟩
end
structure Cls (K:PySem.W.Frag) (C:Addr):Prop where
  pg:PySem.W.plainGet K C Str.empty=true
  hd:PySem.W.hasDictIn K C=true
  po:PySem.W.plainOver K C=true
  sa:PySem.W.findIn K (.ref C) "__setattr__"=some (some (.builtin "object.__setattr__"))
theorem Cls.get {K:PySem.W.Frag}{C:Addr} (c:Cls K C) (f:Str):PySem.W.plainGet K C f=true:=c.pg
structure Meth (K:PySem.W.Frag) (C:Addr) (m:Str) (f:Addr):Prop where
  at_:PySem.W.findIn K (.ref C) m=some (some (.ref f))
  fn:PySem.W.isFn K (.ref f)=true
  kp:PySem.W.keepIn K (.ref f)=true
section
variable {X:Cx}{pins:List (Addr×Obj)}{σ:St}{H:Hp}{s:Shared}{a C dx:Addr}{fs:List (Str×V)}{f:Str}{v:V}{A:Around}{E:Value→Shared→Prop}
theorem getmeth_ok {m:Str}{g:Addr}{pl:Sem Bool}{Q:Value×List Value→Shared→Prop} (I:Inv X pins σ H s) (e:H a=some (.ins C dx fs)) (c:Cls X.K C) (k:Meth X.K C m g) (l:fs.lookup m=none)
    (h:Q (.ref g,[.ref a]) s):wpAny (model X.prog X.w) A (getMethod (.ref a) m pl) Q E s:=by
  obtain ⟨mA,O,r,_,_,_⟩:=ins_get I.hok e
  have hn:mA m=none:=RelO.none_of (by rw [← l];exact r m)
  exact get_meth I.kIn O (c.get m) k.at_ k.fn hn h
theorem Inv.made (I:Inv X pins σ H s):Inv X pins σ (upd (upd H s.heap.objs.size (.own (s.heap.objs.size+1))) (s.heap.objs.size+1) (.ins C s.heap.objs.size []))
    { s with heap:=(s.heap.push PySem.W.emptyDict).push (PySem.W.instObj C s.heap.objs.size) }:=by
  have e1:(s.heap.push PySem.W.emptyDict).get? s.heap.objs.size=some PySem.W.emptyDict:=Heap.get?_push_size s.heap rfl
  have e2:((s.heap.push PySem.W.emptyDict).push (PySem.W.instObj C s.heap.objs.size)).get? (s.heap.objs.size+1)=some (PySem.W.instObj C s.heap.objs.size):=by
    have:=Heap.get?_push_size (s.heap.push PySem.W.emptyDict) (o:=PySem.W.instObj C s.heap.objs.size) rfl
    rwa [Heap.size_push] at this
  have e3:(s.heap.push PySem.W.emptyDict).Ns s.heap.objs.size (fun _=>none):=⟨PySem.W.emptyDict,#[],_,e1,rfl,(fun e he=>absurd he (by simp)),fun _=>rfl⟩
  have I1:=I.laid (a:=s.heap.objs.size) (o:=.own (s.heap.objs.size+1)) (h':=s.heap.push PySem.W.emptyDict) (t':=s.toks) (fun b u q=>Heap.get?_push_of_some _ q) (Nat.le_refl _) ⟨_,e1⟩
  refine I1.laid (a:=s.heap.objs.size+1) (o:=.ins C s.heap.objs.size []) (t':=s.toks) (fun b u q=>Heap.get?_push_of_some _ q) (Nat.le_of_eq (Heap.size_push _ _)) ?_
  have ne:s.heap.objs.size≠s.heap.objs.size+1:=Nat.ne_of_lt (Nat.lt_succ_self _)
  refine ⟨by rw [upd_ne ne,upd_same],Nat.zero_le _,ne,e2,fun _=>none,(Heap.Ns1.of_empty e3).at fun o q=>Heap.get?_push_of_some _ q,fun _=>True.intro,fun y hy=>absurd rfl hy⟩
end
structure Room (k:Nat) (A:Around):Prop where
  hd:A.handled=none
  dp:A.depth+3*k+5<recursionLimit
  un:A.units+16*k+200<cLine
theorem Room.mono {j k:Nat}{A:Around} (r:Room k A) (h:j≤k):Room j A:=⟨r.hd,by have:=r.dp;omega,by have:=r.un;omega⟩
theorem Room.deeper {k:Nat}{A:Around} (r:Room (k+1) A) (env:Env):Room k (A.deeper env) :=
  ⟨r.hd,by have:=r.dp;show A.depth+1+3*k+5<_;omega,by have:=r.un;show A.units+3+16*k+200<_;omega⟩
theorem Room.in1 {k:Nat}{A:Around} (r:Room (k+1) A):Room k A.in1 :=
  ⟨r.hd,by have:=r.dp;show A.depth+3*k+5<_;omega,by have:=r.un;show A.units+1+16*k+200<_;omega⟩
theorem Room.depth {k:Nat}{A:Around} (r:Room k A):A.depth<recursionLimit:=by have:=r.dp;omega
theorem Room.units {k:Nat}{A:Around} (r:Room k A):A.units+64<cLine:=by have:=r.un;omega
abbrev Sp:=List V→Hp→VK→XK→Prop
abbrev CXT:=List Env→Hp→Shared→XK→Value→Shared→Prop
structure Env0 (P:Program) (w:World) (K:PySem.W.Frag) (mg:Str→Option Value) (base:Heap) (A:Around) (outer:List Env) (s:Shared) (H:Hp):Prop where
  frames:A.frames=some outer
  mod:Mod K mg base
  bs:∀ b o,base.get? b=some o→s.heap.get? b=some o∧H b=none
  bsz:base.objs.size≤s.heap.objs.size
  funs:s.heap.FunFrames base outer
  frf:∀ b∈frs outer,H b=none
  hok:HOk P w H s.heap
  bare:AllBare s.gens
def CE (outer:List Env) (P:Program) (w:World) (H:Hp) (s:Shared) (Q:VK) (u:Value) (s':Shared):Prop :=
  ∃ v H',s'.os=s.os∧AllBare s'.gens∧Un (frs outer) [] H H' s.heap s'.heap∧HOk P w H' s'.heap∧RelV v u∧Q v H'
def CR (CX:CXT) (outer:List Env) (P:Program) (w:World) (H:Hp) (s:Shared) (Q:VK) (E:XK) (r:Result) (s':Shared):Prop :=
  match r with
  | .ok (.ret u)=>CE outer P w H s Q u s'
  | .ok _=>False
  | .error e=>CX outer H s E e s'
structure FnOk (P:Program) (w:World) (K:PySem.W.Frag) (mg:Str→Option Value) (base:Heap) (CX:CXT) (k:Nat) (f:Addr) (fd:FuncData) (ps:List Str) (sp:Sp):Prop where
  len:∀ vs H Q E,sp vs H Q E→vs.length=ps.length
  run:∀ (A:Around) (outer:List Env) (s:Shared) (H:Hp) (args:Args) (us:List Value) (vs:List V) (Q:VK) (E:XK),Room k A→Env0 P w K mg base A outer s H→BindsTo s fd args (ps.zip us)→Vals vs us→sp vs H Q E →
    codeAny (model P w) A (.call (.ref f) args) (CR CX outer P w H s Q E) s
theorem FnOk.mono {P:Program}{w:World}{K:PySem.W.Frag}{mg:Str→Option Value}{base:Heap}{CX:CXT}{j k:Nat}{f:Addr}{fd:FuncData}{ps:List Str}{sp:Sp} (F:FnOk P w K mg base CX j f fd ps sp) (h:j≤k) :
    FnOk P w K mg base CX k f fd ps sp:=⟨F.len,fun A outer s H args us vs Q E hr=>F.run A outer s H args us vs Q E (hr.mono h)⟩
theorem Env0.in1 {P:Program}{w:World}{K:PySem.W.Frag}{mg:Str→Option Value}{base:Heap}{A:Around}{outer:List Env}{s:Shared}{H:Hp} (e:Env0 P w K mg base A outer s H) :
    Env0 P w K mg base A.in1 outer s H:=⟨e.frames,e.mod,e.bs,e.bsz,e.funs,e.frf,e.hok,e.bare⟩
section
variable {X:Cx}{pins:List (Addr×Obj)}{σ:St}{H:Hp}{s s':Shared}
theorem Inv.env0 (I:Inv X pins σ H s):Env0 X.prog X.w X.K X.mg X.base X.A X.stack s H :=
  ⟨I.ok.frames,I.ok.mod,I.bs,Nat.le_trans I.ok.bsz I.sz,I.stack,I.stkFree,I.hok,I.bare⟩
theorem Inv.after {Q:VK}{u:Value} (I:Inv X pins σ H s) (h:CE X.stack X.prog X.w H s Q u s'):EP X pins σ Q u s':=by
  obtain ⟨v,H',os,bare,un,hok,r,q⟩:=h
  obtain ⟨hh,g,d,t,os'⟩:=s'
  obtain rfl:os'=s.os:=os
  exact ⟨v,H',I.call (h':=hh) (g':=g) (d':=d) (t':=t) (ch:=[]) un hok bare (fun b z=>absurd z (by simp)),r,q⟩
end
def Binds (K:PySem.W.Frag) (fd:FuncData) (ps:List Str) (ds:List Value):Prop :=
  ∀ (s:Shared) (us:List Value),K.In s.heap→(us ++ ds).length=ps.length→BindsTo s fd ⟨us,[]⟩ (ps.zip (us ++ ds))
theorem Binds.all {K:PySem.W.Frag}{fd:FuncData}{ps:List Str} (h:∀ us:List Value,us.length=ps.length→bindArgs fd ⟨us,[]⟩=pure (ps.zip us)):Binds K fd ps []:=fun s us _ hl=>by
  rw [List.append_nil] at hl ⊢
  exact .of_eq (h us hl)
structure FnScope (N P:List Str) (sc:Scope):Prop where
  kind:sc.kind = .function
  co:sc.isCoroutine=false
  gen:sc.isGenerator=false
  nd:N.Nodup
  pre:N.take P.length=P
  par:∀ x∈P,sc.names.lookup x=some .local∨sc.names.lookup x=some .cell
  nofree:∀ y∈sc.names,y.2≠.free
theorem bindL_out {kindOf:Str→Option NameKind}{x:Str}:∀ {binds:List (Str×Value)}{m:Str→Option Value},(∀ v,(x,v) ∉ binds)→bindL kindOf binds m x=m x
  | [],_,_=>rfl
  | (n,v)::r,m,h=>by
    unfold bindL
    rw [bindL_out fun w hw=>h w (List.mem_cons_of_mem _ hw)]
    split
    · have:x≠n:=by rintro rfl;exact h v List.mem_cons_self
      simp [this]
    · rfl
theorem bindC_out {kindOf:Str→Option NameKind}{x:Str}:∀ {binds:List (Str×Value)}{m:Str→Option Value},(∀ v,(x,v) ∉ binds)→bindC kindOf binds m x=m x
  | [],_,_=>rfl
  | (n,v)::r,m,h=>by
    unfold bindC
    rw [bindC_out fun w hw=>h w (List.mem_cons_of_mem _ hw)]
    split
    · rfl
    · have:x≠n:=by rintro rfl;exact h v List.mem_cons_self
      simp [this]
theorem bindL_get {kindOf:Str→Option NameKind}{x:Str}{v:Value}:∀ {P:List Str}{vs:List Value}{i:Nat}{m:Str→Option Value},P.Nodup→P[i]?=some x→vs[i]?=some v→kindOf x=some .local →
    bindL kindOf (P.zip vs) m x=some v
  | [],_,_,_,_,h,_,_=>by simp at h
  | _::_,[],_,_,_,_,h,_=>by simp at h
  | p::P,w::vs,0,m,nd,h1,h2,hk=>by
    simp at h1 h2;subst h1;subst h2
    show bindL kindOf ((p,w)::P.zip vs) m p=_
    unfold bindL
    rw [bindL_out fun v hv=>(List.nodup_cons.mp nd).1 (List.of_mem_zip hv).1,if_pos hk]
    simp
  | p::P,w::vs,i+1,m,nd,h1,h2,hk=>by
    show bindL kindOf ((p,w)::P.zip vs) m x=_
    unfold bindL
    exact bindL_get (i:=i) (List.nodup_cons.mp nd).2 (by simpa using h1) (by simpa using h2) hk
theorem bindC_get {kindOf:Str→Option NameKind}{x:Str}{v:Value}:∀ {P:List Str}{vs:List Value}{i:Nat}{m:Str→Option Value},P.Nodup→P[i]?=some x→vs[i]?=some v→kindOf x≠some .local →
    bindC kindOf (P.zip vs) m x=some v
  | [],_,_,_,_,h,_,_=>by simp at h
  | _::_,[],_,_,_,_,h,_=>by simp at h
  | p::P,w::vs,0,m,nd,h1,h2,hk=>by
    simp at h1 h2;subst h1;subst h2
    show bindC kindOf ((p,w)::P.zip vs) m p=_
    unfold bindC
    rw [bindC_out fun v hv=>(List.nodup_cons.mp nd).1 (List.of_mem_zip hv).1,if_neg hk]
    simp
  | p::P,w::vs,i+1,m,nd,h1,h2,hk=>by
    show bindC kindOf ((p,w)::P.zip vs) m x=_
    unfold bindC
    exact bindC_get (i:=i) (List.nodup_cons.mp nd).2 (by simpa using h1) (by simpa using h2) hk
noncomputable def start (N:List Str) (vs:List V):St:=vs.map some ++ List.replicate (N.length - vs.length) none
noncomputable def cxOf (CX:CXT) (P:Program) (w:World) (K:PySem.W.Frag) (mg:Str→Option Value) (base:Heap) (N:List Str) (qual:Str) (scope:Scope) (f:Addr) (cd:Value) (A:Around) (outer:List Env) (s:Shared) (H:Hp) (E:XK):Cx where
  prog:=P
  w:=w
  K:=K
  mg:=mg
  base:=base
  A:=A.deeper (envOfC qual scope s.heap.objs.size f cd)
  N:=N
  s₀:=s
  H₀:=H
  env:=envOfC qual scope s.heap.objs.size f cd
  outer:=outer
  stack:=envOfC qual scope s.heap.objs.size f cd::outer
  ex:=[]
  calm:=true
  fn:=fun _=>true
  pn:=[]
  xe:=fun e s'=>wpAny (model P w) (A.deeper (envOfC qual scope s.heap.objs.size f cd)) (leaving (envOfC qual scope s.heap.objs.size f cd) e) (fun _ s''=>CX outer H s E e s'') (fun e' s''=>CX outer H s E e' s'') s'
theorem cell_has {sc:Scope}{n:Nat}{x:Str} (h:sc.names.lookup x=some .cell):∃ c,(cellsFrom n sc.names []).lookup x=some c:=by
  have q:=PySem.W.cellsFrom_some sc.names n [] (.inl h)
  exact Option.isSome_iff_exists.mp q
theorem inv_start {CX:CXT}{P:Program}{w:World}{K:PySem.W.Frag}{mg:Str→Option Value}{base:Heap}{N ps:List Str}{qual:Str}{scope:Scope}{f:Addr}{cd:Value}{A:Around}{outer:List Env}{s s1:Shared}{H:Hp}{E:XK}{us:List Value}{vs:List V}
    (S:FnScope N ps scope) (hd:A.handled=none) (e0:Env0 P w K mg base A outer s H) (hl:vs.length=ps.length) (r:Vals vs us)
    (x:InCallC s s.heap.objs.size (bindL (envOfC qual scope s.heap.objs.size f cd).kindOf (ps.zip us) fun _=>none) (cellsFrom (s.heap.objs.size+1) scope.names []) (bindC (envOfC qual scope s.heap.objs.size f cd).kindOf (ps.zip us) fun _=>none) s1) :
    Inv (cxOf CX P w K mg base N qual scope f cd A outer s H E) [] (start N vs) H s1:=by
  have hpl:ps.length≤N.length:=by have:=congrArg List.length S.pre;rw [List.length_take] at this;omega
  obtain ⟨h1,tk,rfl,hk⟩:=x.done
  have noA:∀ b:Addr,b ∉ (cxOf CX P w K mg base N qual scope f cd A outer s H E).ex:=fun b z=>absurd (show b∈([]:List Addr) from z) (by simp)
  refine ⟨⟨e0.mod,S.kind,rfl,rfl,Nat.le_refl _,fun y z c h1 h2=>?_,fun y hy=>?_,fun y c _ h=>?_,fun _=>hd,Around.frames_deeper e0.frames,.inr ⟨rfl,rfl⟩,fun b z=>absurd z (noA b),e0.bs,e0.bsz,fun b _ _=>noA b,fun b z=>absurd z (noA b),e0.funs,e0.frf⟩,
    rfl,e0.bare,Un.kept hk,⟨_,x.toInCall.ns,fun i y v h1 h2 h3=>?_⟩,fun y c h=>⟨_,x.cell y c h⟩,e0.hok.fresh (Nat.le_refl _),fun y c h=>?_,fun p hp=>absurd (show p∈([]:List (Addr×Obj)) from hp) (by simp),e0.hok.kept hk,?_⟩
  · exact name_of_addr x.apart (PySem.mem_of_lookup h1) (PySem.mem_of_lookup h2)
  · have hy:scope.names.lookup y=some .cell∨scope.names.lookup y=some .free:=hy
    rcases hy with hy | hy
    · exact cell_has hy
    · exact absurd rfl (S.nofree _ (PySem.mem_of_lookup hy))
  · exact Nat.le_of_lt (x.above y c (PySem.mem_of_lookup h))
  · have hi:i<vs.length:=by
      unfold start at h2
      by_cases hi:i<vs.length
      · exact hi
      · rw [List.getElem?_append_right (by simpa using hi)] at h2
        rw [List.getElem?_replicate] at h2
        split at h2<;>cases h2
    have ha:vs[i]?=some v:=by
      unfold start at h2
      rw [List.getElem?_append_left (by simpa using hi),List.getElem?_map] at h2
      cases e:vs[i]? with
      | none=>rw [e] at h2;cases h2
      | some a=>rw [e] at h2;cases h2;rfl
    obtain ⟨u,hu,rv⟩:=r.get ha
    have hp:ps[i]?=some y:=by
      rw [← S.pre,List.getElem?_take_of_lt (by omega)];exact h1
    have ndP:ps.Nodup:=by rw [← S.pre];exact S.nd.sublist (List.take_sublist _ _)
    refine ⟨u,rv,?_⟩
    rcases S.par y (List.mem_of_getElem? hp) with k | k
    · exact .inl ⟨k,bindL_get ndP hp hu k⟩
    · obtain ⟨c,e⟩:=cell_has (n:=s.heap.objs.size+1) k
      refine .inr ⟨.inl k,c,e,?_⟩
      have q:=x.cell y c e
      rw [bindC_get ndP hp hu (by show scope.names.lookup y≠_;rw [k];decide)] at q
      exact q
  · exact e0.hok.fresh (Nat.le_of_lt (x.above y c (PySem.mem_of_lookup h)))
  · unfold start
    show _=N.length
    rw [List.length_append,List.length_map,List.length_replicate]
    omega
theorem fn_of {CX:CXT}{P:Program}{w:World}{K:PySem.W.Frag}{mg:Str→Option Value}{base:Heap}{k:Nat}{f:Addr}{name qual:Str}{params:Arguments}{body:List Stmt}{scope:Scope}{dV kV doc pm cdv ct oc:Value}{an od:Option Addr}
    {osl:Array (Option Value)}{N ps:List Str}{sp:Sp} (lk:K.lookup f=some ⟨oc,od,.func (PySem.W.fnOf name qual params body scope dV kV doc pm an cdv ct),osl⟩) (hcd:PySem.W.codeIn K cdv qual=true) (S:FnScope N ps scope)
    (len:∀ vs H Q E,sp vs H Q E→vs.length=ps.length)
    (hbody:∀ (A:Around) (outer:List Env) (s:Shared) (H:Hp) (vs:List V) (Q:VK) (E:XK),Room k (A.deeper (envOfC qual scope s.heap.objs.size f cdv))→sp vs H Q E →
      ∃ t,PSs (cxOf CX P w K mg base N qual scope f cdv A outer s H E) body t∧t { nx:=fun _ H'=>Q .non H',rt:=Q } (start N vs) H) :
    FnOk P w K mg base CX (k+1) f (PySem.W.fnOf name qual params body scope dV kV doc pm an cdv ct) ps sp:=by
  refine ⟨len,fun A outer s H args us vs Q E hr e0 hb r hsp=>?_⟩
  have hl:=len _ _ _ _ hsp
  have KX:K.In s.heap:=e0.mod.kin.keeps fun b o e=>(e0.bs b o e).1
  have lim:s.heap.NoLimit:=e0.mod.nolimit.keeps fun b o e=>(e0.bs b o e).1
  have hkind:∀ y∈ps.zip us,scope.names.lookup y.1=some .local∨(scope.names.lookup y.1=some .cell∧((cellsFrom (s.heap.objs.size+1) scope.names []).lookup y.1).isSome=true):=fun ⟨n,v⟩ hy=>by
    rcases S.par n (List.of_mem_zip hy).1 with q | q
    · exact .inl q
    · exact .inr ⟨q,PySem.W.cellsFrom_some _ _ _ (.inl q)⟩
  refine codeAny_call_function hr.depth (KX _ _ lk) rfl S.co S.gen rfl (PySem.W.codeRec_of KX hcd) (hb _ _ _ _ ?_)
  refine wpAny_newFunctionEnv_cells S.kind hkind fun env he s1 x=>?_
  subst he
  refine ⟨lim.keeps x.toInCall.keep,codeAny_func ?_⟩
  obtain ⟨t,ht,hq⟩:=hbody A outer s H vs Q E (hr.deeper _) hsp
  have I:Inv (cxOf CX P w K mg base N qual scope f cdv A outer s H E) [] (start N vs) H s1:=inv_start S hr.hd e0 hl r x
  refine wpAny_mono (ht [] s1 (start N vs) H _ I hq) (fun fl s' hs=>?_) fun e s' hs=>hs
  have fin:∀ {σ':St}{H':Hp}{v:V}{u:Value},Inv (cxOf CX P w K mg base N qual scope f cdv A outer s H E) [] σ' H' s'→RelV v u→Q v H'→CE outer P w H s Q u s' :=
    fun {σ' H' v u} J rv q=>⟨v,H',J.os,J.bare,J.base,J.hok,rv,q⟩
  cases fl with
  | ret u =>
    obtain ⟨v,σ',H',J,rv,q⟩:=hs
    exact fin J rv q
  | next =>
    obtain ⟨σ',H',J,q⟩:=hs
    exact fin (v:=V.non) (u:=Value.none) J rfl q
  | brk =>
    obtain ⟨_,_,_,q⟩:=hs
    exact False.elim q
  | cont =>
    obtain ⟨_,_,_,q⟩:=hs
    exact False.elim q
end L2
namespace HT
open PySem PyProof.Rows
section
variable {prog:Program}{w:World}{A:Around}{E:Value→Shared→Prop}{s:Shared}
theorem cat_tup {t b:Addr}{vs ws:List Value}{Q:Value→Shared→Prop} (ht:IsTup s.heap t vs.toArray) (hb:IsTup s.heap b ws.toArray) (hv:vs≠[])
    (h1:ws=[]→Q (.ref t) s) (h2:ws≠[]→Q (.ref s.heap.objs.size) { s with heap:=s.heap.push { cls:=.type "tuple",data:=.seq (vs ++ ws).toArray } })
    (hsz:vs.length+ws.length≤sizeLine):wpAny (model prog w) A (binaryOp .Add (.ref t) (.ref b)) Q E s:=by
  obtain ⟨⟨cls,dd,data,sl⟩,ho,hc,n,hd⟩:=id ht
  obtain ⟨⟨cls2,dd2,data2,sl2⟩,ho2,hc2,n2,hd2⟩:=id hb
  simp only at hc hd hc2 hd2
  subst hc hd hc2 hd2
  have e:vs.toArray ++ ws.toArray=(vs ++ ws).toArray:=by simp
  by_cases hw:ws=[]
  · exact concat_meets ⟨_,ho,rfl⟩ ⟨_,ho2,rfl⟩ noFill_tuple_add seq_tuple_add PySem.F.slot_tuple_add PySem.F.entry_tuple_add (PySem.F.args_tuple_add_2 _ _)
      (tuple_addW1 t b vs.toArray ws.toArray n n2 dd dd2 sl sl2 (by simpa using hv) (by simp [hw])) ⟨ho,ho2,h1 hw⟩
  · refine concat_meets ⟨_,ho,rfl⟩ ⟨_,ho2,rfl⟩ noFill_tuple_add seq_tuple_add PySem.F.slot_tuple_add PySem.F.entry_tuple_add (PySem.F.args_tuple_add_2 _ _)
      (tuple_addW2 t b vs.toArray ws.toArray n n2 dd dd2 sl sl2 (by simpa using hv) (by simpa using hw) (by rw [List.size_toArray,List.size_toArray];exact hsz)) ⟨ho,ho2,?_⟩
    rw [e]
    exact h2 hw
noncomputable def sIx (n d:Nat):Option Int→Nat
  | none=>d
  | some v=>if v<0 then (v+(n:Int)).toNat else min v.toNat n
end
end HT
namespace L2
open PySem PySem.Spec PyProof.Rows
abbrev TO:=St→Hp→(Option Int→Hp→Prop)→Prop
section
variable {X:Cx}{e:Expr}{te:TE}{lo hi:Option Expr}{tl th:TO}{pos p2:Pos}
def SlR (X:Cx) (r:V→Option Int→Option Int→Hp→VK→Prop):Prop :=
  ∀ (pins:List (Addr×Obj)) (s:Shared) (σ:St) (H:Hp) (x:V) (v vl vu:Value) (lo hi:Option Int) (sl:Addr) (Q:VK),Inv X pins σ H s→RelV x v→s.heap.IsSliceOf sl vl vu .none→IsPart vl lo→IsPart vu hi→r x lo hi H Q →
    ∃ T id,typeLookup (.type T) "__getitem__"=pure (some (.builtin id))∧s.TypeIs v T∧wpAny (model X.prog X.w) X.A (getItem v (.ref sl)) (EP X pins σ Q) X.xe s
noncomputable def cutV (xs:List V) (lo hi:Option Int):List V:=(xs.drop (HT.sIx xs.length 0 lo)).take (HT.sIx xs.length xs.length hi - HT.sIx xs.length 0 lo)
theorem cutV_length (xs:List V) (lo hi:Option Int):(cutV xs lo hi).length≤xs.length:=by
  unfold cutV
  rw [List.length_take,List.length_drop]
  omega
end
noncomputable def ixN (n:Nat) (i:Int):Option Nat:=if 0≤i then (if i<n then some i.toNat else none) else if -(n:Int)≤i then some (i+n).toNat else none
noncomputable def atI {α:Type} (xs:List α) (i:Int):Option α:=(ixN xs.length i).bind fun j=>xs[j]?
theorem ixN_seq {n:Nat}{i:Int}{j:Nat} (h:ixN n i=some j):seqIndex? i n=some j∧j<n∧-(n:Int)≤i∧i<n:=by
  unfold ixN at h
  by_cases h0:0≤i
  · rw [if_pos h0] at h
    by_cases h1:i<n
    · rw [if_pos h1] at h
      have e:i.toNat=j:=Option.some.inj h
      exact ⟨by rw [seqIndex_of h0 h1,e],by omega,by omega,h1⟩
    · rw [if_neg h1] at h;cases h
  · rw [if_neg h0] at h
    by_cases h1 : -(n:Int)≤i
    · rw [if_pos h1] at h
      have e:(i+n).toNat=j:=Option.some.inj h
      exact ⟨by rw [seqIndex_neg (by omega) h1,e],by omega,h1,by omega⟩
    · rw [if_neg h1] at h;cases h
theorem atI_get {α:Type}{xs:List α}{i:Int}{v:α} (h:atI xs i=some v):∃ j,seqIndex? i xs.length=some j∧xs[j]?=some v∧j<xs.length∧-(xs.length:Int)≤i∧i<xs.length:=by
  unfold atI at h
  cases e:ixN xs.length i with
  | none=>rw [e] at h;cases h
  | some j =>
    rw [e] at h
    obtain ⟨h1,h2,h3,h4⟩:=ixN_seq e
    exact ⟨j,h1,h,h2,h3,h4⟩
def PlainIx (b:Expr):Prop:=∀ o i,subscripted b false o i=operate [o,i] (getItem o i)
def IxR (X:Cx) (r:R2):Prop :=
  ∀ (value slice:Expr) (pins:List (Addr×Obj)) (s:Shared) (σ:St) (H:Hp) (x y:V) (v u:Value) (Q:VK),Inv X pins σ H s→RelV x v→RelV y u→r x y H Q →
    subscripted slice false v u=operate [v,u] (getItem v u)→wpAny (model X.prog X.w) X.A (subscriptTail value slice v u) (EP X pins σ Q) X.xe s
section
variable {X:Cx}{a b:Expr}{ta tb:TE}{pos:Pos}
def rIxL (K:PySem.W.Frag):R2:=fun x y H Q=>∃ p xs i v,x = .ref p∧y = .int i∧SqL K H p xs∧atI xs i=some v∧Q v H
def rIxT (K:PySem.W.Frag):R2:=fun x y H Q=>∃ p xs i v,x = .ref p∧y = .int i∧SqT K H p xs∧atI xs i=some v∧Q v H
def rIxS:R2:=fun x y H Q=>∃ z i c,x = .str z∧y = .int i∧z.length≤sizeLine∧atI z.cps.toList i=some c∧Q (.str ⟨#[c]⟩) H
theorem ix_list:IxR X (rIxL X.K):=by
  intro value slice pins s σ H x y v u Q I rx ry h hs
  obtain ⟨p,xs,i,z,rfl,rfl,hq,he,q⟩:=h
  cases rx
  obtain ⟨t,rfl⟩:=ry
  obtain ⟨its,r,pl,hz⟩:=I.list hq
  obtain ⟨j,h1,h2,h3,h4,h5⟩:=atI_get he
  obtain ⟨w,ew,rw'⟩:=r.get h2
  have hl:=r.length
  have hn:=line63
  have fin:EP X pins σ Q w s:=⟨z,H,I,rw',q⟩
  by_cases h0:0≤i
  · have hj:i.toNat=j:=by
      rw [seqIndex_of h0 h5] at h1
      exact Option.some.inj h1
    exact item_listR pl.isList h0 (by omega) (by rw [hj];simpa using ew) fin hs
  · have hj:(i+(its.toArray.size:Int)).toNat=j:=by
      rw [seqIndex_neg (by omega) h4] at h1
      rw [List.size_toArray,← hl]
      exact Option.some.inj h1
    exact subscriptTail_builtinR (x:=w) pl.isList.typeIs slot_list_getitem.lookup
      (wpAny_getItem_list_neg (Q:=fun r s'=>r=w∧EP X pins σ Q r s') pl.isList (by omega) (by rw [List.size_toArray]<;>omega) (by omega) (by rw [hj];simpa using ew) ⟨rfl,fin⟩) hs
theorem ix_tup:IxR X (rIxT X.K):=by
  intro value slice pins s σ H x y v u Q I rx ry h hs
  obtain ⟨p,xs,i,z,rfl,rfl,hq,he,q⟩:=h
  cases rx
  obtain ⟨t,rfl⟩:=ry
  obtain ⟨its,r,pl,hz⟩:=I.tuple hq
  obtain ⟨j,h1,h2,h3,h4,h5⟩:=atI_get he
  obtain ⟨w,ew,rw'⟩:=r.get h2
  have hl:=r.length
  have hn:=line63
  have fin:EP X pins σ Q w s:=⟨z,H,I,rw',q⟩
  exact subscriptTail_builtinR (x:=w) pl.typeIs slot_tuple_getitem.lookup
    (getItem_tuple (j:=j) (Q:=fun r s'=>r=w∧EP X pins σ Q r s') pl (by omega) (by omega) (by rw [List.size_toArray,← hl];exact h1) (by simpa using ew) ⟨rfl,fin⟩) hs
theorem ix_str:IxR X rIxS:=by
  intro value slice pins s σ H x y v u Q I rx ry h hs
  obtain ⟨z,i,c,rfl,rfl,hz,he,q⟩:=h
  obtain ⟨t,rfl⟩:=rx
  obtain ⟨t',rfl⟩:=ry
  obtain ⟨j,h1,h2,h3,h4,h5⟩:=atI_get he
  have hl:z.cps.toList.length=z.length:=by simp [Str.length]
  rw [hl] at h1 h4 h5
  have hn:=line63
  exact tail_any (typeIs_str s z t) slot_str_getitem.lookup (getItem_str (c:=c) (by
    have e1:decide (i < -(2 ^ 63:Int))=false:=decide_eq_false (by omega)
    have e2:decide (i ≥ 2 ^ 63)=false:=decide_eq_false (by omega)
    rw [e1,e2,Bool.or_false]) (by rw [h1];simpa using h2) ⟨.str ⟨#[c]⟩,H,I.tok _,⟨_,rfl⟩,q⟩) hs
theorem Inv.lst {pins:List (Addr×Obj)}{σ:St}{H:Hp}{s:Shared}{p:Addr}{xs:List V} (I:Inv X pins σ H s) (h:H p=some (.lst xs)) :
    ∃ (its:List Value) (n:Nat),Vals xs its∧s.heap.get? p=some { cls:=.type "list",data:=.seq its.toArray n }∧xs.length≤sizeLine:=by
  obtain ⟨z,its,n,r,e⟩:=I.hok p _ h
  exact ⟨its,n,r,e,z⟩
theorem slice_bounds (lo hi:Option Int) (n:Nat):(sliceBounds lo hi none n).1=((HT.sIx n 0 lo:Nat):Int)∧(sliceBounds lo hi none n).2.1=((HT.sIx n n hi:Nat):Int)∧(sliceBounds lo hi none n).2.2=1:=by
  refine ⟨?_,?_,rfl⟩
  · cases lo with
    | none=>simp [sliceBounds,HT.sIx]
    | some i =>
      simp only [sliceBounds,HT.sIx,Option.getD_none,show (1:Int) > 0 by decide,if_true]
      by_cases h:i<0
      · simp only [h,if_true]<;>omega
      · simp only [h,if_false]<;>omega
  · cases hi with
    | none=>simp [sliceBounds,HT.sIx]
    | some i =>
      simp only [sliceBounds,HT.sIx,Option.getD_none,show (1:Int) > 0 by decide,if_true]
      by_cases h:i<0
      · simp only [h,if_true]<;>omega
      · simp only [h,if_false]<;>omega
theorem slicePick_cut (its:List Value) (lo hi:Option Int):slicePick its.toArray lo hi none=((its.drop (HT.sIx its.length 0 lo)).take (HT.sIx its.length its.length hi - HT.sIx its.length 0 lo)).toArray:=by
  obtain ⟨h1,h2,h3⟩:=slice_bounds lo hi its.toArray.size
  unfold slicePick
  rw [h1,h2,h3]
  simp only [sliceRange_one,pick_run,List.size_toArray]<;>rfl
def rSlL (K:PySem.W.Frag):V→Option Int→Option Int→Hp→VK→Prop:=fun x lo hi H Q=>∃ a xs,x = .ref a∧SqL K H a xs∧∀ p,H p=none→Q (.ref p) (upd H p (.lst (cutV xs lo hi)))
theorem sl_list:SlR X (rSlL X.K):=by
  intro pins s σ H x v vl vu lo hi sl Q I rx hs pl pu h
  obtain ⟨a,xs,rfl,hx,q⟩:=h
  cases rx
  obtain ⟨its,r,ht,hz⟩:=I.list hx
  have hlen:=r.length
  refine ⟨"list",_,slot_list_getitem.lookup,ht.isList.typeIs,?_⟩
  refine wpAny_getItem_list_slice ht.isList hs pl pu .none (by simp) ?_ (by rw [List.size_toArray]<;>omega)
  rw [slicePick_cut,← hlen]
  refine ⟨.ref s.heap.objs.size,_,I.laid (t':=s.toks) (o:=.lst (cutV xs lo hi)) (fun b ob q=>Heap.get?_push_of_some _ q) (Nat.le_refl _) ?_,rfl,q _ (I.hok.fresh (Nat.le_refl _))⟩
  exact ⟨Nat.le_trans (cutV_length xs lo hi) hz,_,0,(r.drop (HT.sIx xs.length 0 lo)).take (HT.sIx xs.length xs.length hi - HT.sIx xs.length 0 lo),Heap.get?_push_size _ rfl⟩
noncomputable def flatV:V→Bool
  | .non=>true
  | .bl _=>true
  | .int _=>true
  | .str _=>true
  | _=>false
noncomputable def eqV:V→V→Bool
  | .non,.non=>true
  | .bl a,.bl b=>a == b
  | .bl a,.int b=>(if a then 1 else 0) == b
  | .int a,.bl b=>a == (if b then 1 else 0)
  | .int a,.int b=>a == b
  | .str a,.str b=>a == b
  | _,_=>false
theorem eqAt_V {A:Around}{s:Shared}{y x:V}{u v:Value} (ry:RelV y u) (rx:RelV x v) (fy:flatV y=true) (fx:flatV x=true):SeqAt.EqAt A s u v (eqV y x):=by
  cases y with
  | non =>
    cases ry
    cases x with
    | non=>cases rx;exact SeqAt.EqAt.same _
    | bl b=>cases rx;exact SeqAt.EqAt.none_bool b
    | int b=>obtain ⟨t,rfl⟩:=rx;exact SeqAt.EqAt.none_int b t
    | str b=>obtain ⟨t,rfl⟩:=rx;exact SeqAt.EqAt.none_str b t
    | _=>exact absurd (show false=true from fx) Bool.false_ne_true
  | bl a =>
    cases ry
    cases x with
    | non=>cases rx;exact SeqAt.EqAt.bool_none a
    | bl b=>cases rx;exact SeqAt.EqAt.bool_bool a b
    | int b=>obtain ⟨t,rfl⟩:=rx;exact SeqAt.EqAt.bool_int a b t
    | str b=>obtain ⟨t,rfl⟩:=rx;exact SeqAt.EqAt.bool_str a b t
    | _=>exact absurd (show false=true from fx) Bool.false_ne_true
  | int a =>
    obtain ⟨t',rfl⟩:=ry
    cases x with
    | non=>cases rx;exact SeqAt.EqAt.int_none a t'
    | bl b=>cases rx;exact SeqAt.EqAt.int_bool a t' b
    | int b=>obtain ⟨t,rfl⟩:=rx;exact SeqAt.EqAt.int_int a t' b t
    | str b=>obtain ⟨t,rfl⟩:=rx;exact SeqAt.EqAt.int_str a t' b t
    | _=>exact absurd (show false=true from fx) Bool.false_ne_true
  | str a =>
    obtain ⟨t',rfl⟩:=ry
    cases x with
    | non=>cases rx;exact SeqAt.EqAt.str_none a t'
    | bl b=>cases rx;exact SeqAt.EqAt.str_bool a t' b
    | int b=>obtain ⟨t,rfl⟩:=rx;exact SeqAt.EqAt.str_int a t' b t
    | str b=>obtain ⟨t,rfl⟩:=rx;exact SeqAt.EqAt.str_str a t' b t
    | _=>exact absurd (show false=true from fx) Bool.false_ne_true
  | _=>exact absurd (show false=true from fy) Bool.false_ne_true
noncomputable def eqU (x:V) (u:Value):Bool:=match u with
  | .none=>eqV .non x
  | .bool b=>eqV (.bl b) x
  | .int i _=>eqV (.int i) x
  | .str z _=>eqV (.str z) x
  | _=>false
theorem eqU_of {x y:V}{u:Value} (r:RelV y u) (f:flatV y=true):eqU x u=eqV y x:=by
  cases y with
  | non=>cases r;rfl
  | bl b=>cases r;rfl
  | int i=>obtain ⟨t,rfl⟩:=r;rfl
  | str z=>obtain ⟨t,rfl⟩:=r;rfl
  | _=>exact absurd (show false=true from f) Bool.false_ne_true
theorem any_eqU {x:V}:∀ {xs:List V}{us:List Value},Vals xs us→xs.all flatV=true→us.any (eqU x)=xs.any fun y=>eqV y x
  | _,_,.nil,_=>rfl
  | y::xs,u::us,.cons r t,f=>by
    rw [List.all_cons,Bool.and_eq_true] at f
    rw [List.any_cons,List.any_cons,eqU_of r f.1,any_eqU t f.2]
theorem mem_eqAt {A:Around}{s:Shared}{x:V}{v:Value} (rx:RelV x v) (fx:flatV x=true):∀ {xs:List V}{us:List Value},Vals xs us→xs.all flatV=true→∀ u∈us,SeqAt.EqAt A s u v (eqU x u)
  | _,_,.nil,_=>fun u hu=>by cases hu
  | y::xs,u::us,.cons r t,f=>fun u' hu=>by
    rw [List.all_cons,Bool.and_eq_true] at f
    rcases List.mem_cons.mp hu with rfl | hu
    · rw [eqU_of r f.1];exact eqAt_V r rx f.1 fx
    · exact mem_eqAt rx fx t f.2 u' hu
noncomputable def inV (x:V) (xs:List V):Bool:=xs.any fun y=>eqV y x
def rIn (K:PySem.W.Frag) (neg:Bool):R2:=fun x y H Q=>∃ p xs,y = .ref p∧(SqL K H p xs∨SqT K H p xs)∧flatV x=true∧xs.all flatV=true∧Q (.bl (if neg then !inV x xs else inV x xs)) H
theorem op_in_seq:OpR X (compareOp .In) (rIn X.K false):=by
  intro pins s σ H x y v u Q I rx ry h
  obtain ⟨p,xs,rfl,hq,fx,fs,q⟩:=h
  cases ry
  rcases hq with hq | hq
  · obtain ⟨its,r,pl,hz⟩:=I.list hq
    refine SeqAt.in_listAt (eqU x) pl.isList (fun w hw=>mem_eqAt rx fx r fs w (by simpa using hw)) ⟨.bl _,H,I,rfl,?_⟩
    rw [show its.toArray.any (eqU x)=its.any (eqU x) by simp,any_eqU r fs]
    exact q
  · obtain ⟨its,r,pl,hz⟩:=I.tuple hq
    refine SeqAt.in_tupleAt (eqU x) pl (fun w hw=>mem_eqAt rx fx r fs w (by simpa using hw)) ⟨.bl _,H,I,rfl,?_⟩
    rw [show its.toArray.any (eqU x)=its.any (eqU x) by simp,any_eqU r fs]
    exact q
theorem op_notIn_seq:OpR X (compareOp .NotIn) (rIn X.K true):=by
  intro pins s σ H x y v u Q I rx ry h
  obtain ⟨p,xs,rfl,hq,fx,fs,q⟩:=h
  cases ry
  rcases hq with hq | hq
  · obtain ⟨its,r,pl,hz⟩:=I.list hq
    refine SeqAt.notIn_listAt (eqU x) pl.isList (fun w hw=>mem_eqAt rx fx r fs w (by simpa using hw)) ⟨.bl _,H,I,rfl,?_⟩
    rw [show its.toArray.any (eqU x)=its.any (eqU x) by simp,any_eqU r fs]
    exact q
  · obtain ⟨its,r,pl,hz⟩:=I.tuple hq
    refine SeqAt.notIn_tupleAt (eqU x) pl (fun w hw=>mem_eqAt rx fx r fs w (by simpa using hw)) ⟨.bl _,H,I,rfl,?_⟩
    rw [show its.toArray.any (eqU x)=its.any (eqU x) by simp,any_eqU r fs]
    exact q
theorem op_notIn_str:OpR X (compareOp .NotIn) (fun x y H Q=>∃ i j,x = .str i∧y = .str j∧Q (.bl (!(!(Builtin.Str.occurrences j i 0 j.length 1).isEmpty))) H):=by
  intro pins s σ H x y v u Q I rx ry h
  obtain ⟨i,j,rfl,rfl,q⟩:=h
  obtain ⟨t,rfl⟩:=rx
  obtain ⟨t',rfl⟩:=ry
  exact notIn_str ⟨.bl _,H,I,rfl,q⟩
theorem call_len_seq:CallR X (.builtin "len") (fun xs H Q=>∃ p ys,xs=[.ref p]∧(SqL X.K H p ys∨SqT X.K H p ys)∧Q (.int ys.length) H):=by
  intro pins s σ H xs us Q I r h
  obtain ⟨p,ys,rfl,hq,q⟩:=h
  obtain ⟨u,rfl,rx⟩:=vals1 r
  cases rx
  have hn:=line63
  rcases hq with hq | hq
  · obtain ⟨its,r',pl,hz⟩:=I.list hq
    have hlen:=r'.length
    exact Calls.call_len_list pl.isList (by simp only [List.size_toArray]<;>omega) ⟨.int ys.length,H,I.tok _,⟨s.toks+1,by rw [List.size_toArray,hlen]⟩,q⟩
  · obtain ⟨its,r',pl,hz⟩:=I.tuple hq
    have hlen:=r'.length
    exact len_tuple pl (by simp only [List.size_toArray]<;>omega) ⟨.int ys.length,H,I.tok _,⟨s.toks+1,by rw [List.size_toArray,hlen]⟩,q⟩
theorem call_len_str:CallR X (.builtin "len") (fun xs H Q=>∃ z,xs=[.str z]∧z.length≤sizeLine∧Q (.int z.length) H):=by
  intro pins s σ H xs us Q I r h
  obtain ⟨z,rfl,hz,q⟩:=h
  obtain ⟨u,rfl,t,rfl⟩:=vals1 r
  have hn:=line63
  exact len_str (by omega) ⟨.int z.length,H,I.tok _,⟨_,rfl⟩,q⟩
theorem call_list_of:CallR X (.type "list") (fun xs H Q=>∃ p ys,xs=[.ref p]∧(SqL X.K H p ys∨SqT X.K H p ys)∧∀ l,H l=none→Q (.ref l) (upd H l (.lst ys))):=by
  intro pins s σ H xs us Q I r h
  obtain ⟨p,ys,rfl,hq,q⟩:=h
  obtain ⟨u,rfl,rx⟩:=vals1 r
  cases rx
  have fin:∀ (its:List Value),Vals ys its→ys.length≤sizeLine→∀ (h':Heap) (c':Nat),(∀ b o',s.heap.get? b=some o'→h'.get? b=some o') →
      h'.get? s.heap.objs.size=some { cls:=.type "list",dict:=none,data:=.seq its.toArray c',slots:=#[] }→EP X pins σ Q (.ref s.heap.objs.size) { s with heap:=h' }:=fun its r' hz h' c' kp e =>
    ⟨.ref s.heap.objs.size,_,I.laid (t':=s.toks) kp (Nat.le_refl _) (show ObjOk X.prog X.w _ h' _ (.lst ys) from ⟨hz,its,c',r',e⟩),rfl,q _ (I.hok.fresh (Nat.le_refl _))⟩
  rcases hq with hq | hq
  · obtain ⟨its,r',pl,hz⟩:=I.list hq
    have hlen:=r'.length
    obtain ⟨o,ho,hc,n,hd⟩:=pl.isList
    exact call_list_seq p (.inl rfl) ho hc hd (fun h' c' kp e=>fin its r' hz h' c' kp e) (by simp only [List.size_toArray]<;>omega)
  · obtain ⟨its,r',pl,hz⟩:=I.tuple hq
    have hlen:=r'.length
    obtain ⟨o,ho,hc,n,hd⟩:=pl
    exact call_list_seq p (.inr rfl) ho hc hd (fun h' c' kp e=>fin its r' hz h' c' kp e) (by simp only [List.size_toArray]<;>omega)
variable {o e:Expr}{es:List Expr}{to:TE}{t:TA}{name:Str}{apos cpos:Pos}{T id:String}{r:V→List V→Hp→VK→Prop}
end
def MtM (X:Cx) (id:String) (r:V→List V→Hp→VK→Prop):Prop :=
  ∀ (pins:List (Addr×Obj)) (s:Shared) (σ:St) (H:Hp) (x:V) (xs:List V) (v:Value) (us:List Value) (Q:VK),Inv X pins σ H s→RelV x v→Vals xs us→r x xs H Q →
    wpAny (model X.prog X.w) X.A (call (.builtin id) (v::us)) (EP X pins σ Q) X.xe s
theorem Vals.one:∀ {x:V}{us:List Value},Vals [x] us→∃ u,us=[u]∧RelV x u
  | _,_,.cons r .nil=>⟨_,rfl,r⟩
theorem Vals.zero:∀ {us:List Value},Vals [] us→us=[]
  | _,.nil=>rfl
theorem Vals.reverse {xs:List V}{us:List Value} (h:Vals xs us):Vals xs.reverse us.reverse:=by
  induction h with
  | nil=>exact .nil
  | cons r t ih=>rw [List.reverse_cons,List.reverse_cons];exact Vals.append ih (.cons r .nil)
theorem Vals.rep {xs:List V}{us:List Value} (h:Vals xs us):∀ k:Nat,Vals (List.replicate k xs).flatten (List.replicate k us).flatten
  | 0=>.nil
  | k+1=>by
    rw [List.replicate_succ,List.replicate_succ,List.flatten_cons,List.flatten_cons]
    exact Vals.append h (Vals.rep h k)
theorem foldl_rep (its:List Value):∀ (k:Nat) (acc:List Value),
    List.foldl (fun x1 x2=>x1 ++ x2) acc.toArray (List.replicate k its.toArray)=(acc ++ (List.replicate k its).flatten).toArray
  | 0,acc=>by simp
  | k+1,acc=>by
    have e:acc.toArray ++ its.toArray=(acc ++ its).toArray:=by simp
    have e2:(acc ++ its) ++ (List.replicate k its).flatten=acc ++ (List.replicate (k+1) its).flatten:=by
      rw [List.replicate_succ,List.flatten_cons,List.append_assoc]
    rw [← e2,← foldl_rep its k (acc ++ its),← e,List.replicate_succ,List.foldl_cons]
section
variable {X:Cx}{pins:List (Addr×Obj)}{σ:St}{H:Hp}{s:Shared}{l b:Addr}{xs ys zs:List V}
theorem Inv.lset {its its':List Value}{n:Nat}{f:Array Value→Array Value}{t':Nat} (I:Inv X pins σ H s) (hH:H l=some (.lst xs))
    (e:s.heap.get? l=some { cls:=.type "list",data:=.seq its.toArray n }) (hf:f its.toArray=its'.toArray) (hv:Vals ys its') (hz:ys.length≤sizeLine) :
    Inv X pins σ (upd H l (.lst ys)) { s with heap:=s.heap.update l (Obj.mapSeq f),toks:=t' }:=by
  have q:=PySem.IsL.update e f
  rw [hf] at q
  refine I.write (x:=l) (e:=l) (by rw [hH];exact trivial) (.inl rfl) (fun b' u hb hu=>(Heap.get?_update_other s.heap (Obj.mapSeq f) (Ne.symm hb)).trans hu) ⟨_,q⟩ ?_
  exact ⟨hz,its',_,hv,q⟩
theorem Inv.lnew {its:List Value}{t':Nat} (I:Inv X pins σ H s) (hv:Vals ys its) (hz:ys.length≤sizeLine) :
    Inv X pins σ (upd H s.heap.objs.size (.lst ys)) { s with heap:=s.heap.push { cls:=.type "list",data:=.seq its.toArray },toks:=t' } :=
  I.laid (fun _ _ q=>Heap.get?_push_of_some _ q) (Nat.le_refl _) ⟨hz,its,0,hv,Heap.get?_push_size _ rfl⟩
theorem Inv.fresh (I:Inv X pins σ H s):H s.heap.objs.size=none:=I.hok.fresh (Nat.le_refl _)
theorem Inv.lstM (I:Inv X pins σ H s) (hH:H l=some (.lst xs)):xs.length≤sizeLine∧∃ (its:List Value) (n:Nat),Vals xs its∧xs.length=its.length∧s.heap.get? l=some { cls:=.type "list",data:=.seq its.toArray n }:=by
  obtain ⟨z,its,n,r,e⟩:=I.hok l _ hH
  exact ⟨z,its,n,r,r.length,e⟩
theorem notLongL {n:Nat} (h:n≤sizeLine):Builtin.List.listTooLong n=false:=by
  unfold Builtin.List.listTooLong
  exact decide_eq_false (by omega)
end
section
variable {X:Cx}
def rAppend:V→List V→Hp→VK→Prop:=fun x vs H Q=>∃ l xs y,x = .ref l∧vs=[y]∧H l=some (.lst xs)∧xs.length<sizeLine∧Q .non (upd H l (.lst (xs ++ [y])))
theorem mt_append:MtM X "list.append" rAppend:=by
  intro pins s σ H x vs v us Q I rx rv h
  obtain ⟨l,xs,y,rfl,rfl,hH,hz,q⟩:=h
  cases rx
  obtain ⟨u,rfl,ru⟩:=rv.one
  obtain ⟨z,its,n,r,hl,e⟩:=I.lstM hH
  refine call_meets F.slot_list_append ⟨_,e,rfl⟩ F.entry_list_append (F.args_list_append_2 _ _) (PySem.list_append l its.toArray n u (by rw [List.size_toArray];omega)) ⟨e,?_⟩
  refine ⟨.non,_,I.lset (its':=its ++ [u]) hH e (by simp) (r.append (.cons ru .nil)) ?_,rfl,q⟩
  rw [List.length_append,List.length_singleton]
  omega
def rRep:R2:=fun x y H Q=>∃ l k xs,x = .ref l∧y = .int k∧H l=some (.lst xs)∧-(2 ^ 63)≤k∧k<2 ^ 63∧xs.length*k.toNat≤sizeLine ∧
  ∀ p,H p=none→Q (.ref p) (upd H p (.lst (List.replicate k.toNat xs).flatten))
theorem len_rep {α:Type} (xs:List α) (k:Nat):(List.replicate k xs).flatten.length=k*xs.length:=by
  induction k with
  | zero=>simp
  | succ k ih=>rw [List.replicate_succ,List.flatten_cons,List.length_append,ih,Nat.succ_mul,Nat.add_comm]
theorem op_rep:OpR X (binaryOp .Mult) rRep:=by
  intro pins s σ H x y v u Q I rx ry h
  obtain ⟨l,k,xs,rfl,rfl,hH,h1,h2,hz,q⟩:=h
  cases rx
  obtain ⟨t,rfl⟩:=ry
  obtain ⟨z,its,n,r,hl,e⟩:=I.lstM hH
  have hlen:its.toArray.size*k.toNat≤sizeLine:=by rw [List.size_toArray,← hl];exact hz
  have hcap:¬ its.toArray.size*k.toNat > (2 ^ 63 - 1) / 8:=by
    have:(sizeLine:Nat)≤(2 ^ 63 - 1) / 8:=by decide
    omega
  have hfit:¬ (!Builtin.List.listFitsIndex k)=true:=by
    rw [fitsIndex_both h1 h2]
    exact Bool.false_ne_true
  have hlong:¬ Builtin.List.listTooLong (its.toArray.size*k.toNat)=true:=by
    rw [notLongL hlen]
    exact Bool.false_ne_true
  have hnew:List.foldl (fun x1 x2=>x1 ++ x2) #[] (List.replicate (if its.toArray.isEmpty=true then 0 else k.toNat) its.toArray)=(List.replicate k.toNat its).flatten.toArray:=by
    have f0:∀ m:Nat,List.foldl (fun x1 x2=>x1 ++ x2) #[] (List.replicate m its.toArray)=(List.replicate m its).flatten.toArray:=fun m=>by
      have:=foldl_rep its m []
      rw [List.nil_append] at this
      exact this
    rw [f0]
    cases its with
    | nil=>simp
    | cons a r'=>rw [if_neg (by simp)]
  refine wpAny_binaryOp_repeat_ref (T:="list") (U:="int") (by decide) ⟨_,e,rfl⟩ (fun s'=>typeIs_int s' k t) noFill_list_mul F.fills_int_mul F.slot_int_rmul repeat_list F.slot_int_index.lookup
    (call_meets F.slot_int_rmul (typeIs_int s k t) F.entry_int_rmul (F.args_int_rmul_2 _ _) (int___rmul___int_list k t l its.toArray n)
      ⟨e,rfl,⟨_,e,rfl⟩,call_meets F.slot_list_mul ⟨_,e,rfl⟩ F.entry_list_mul (F.args_list_mul_2 _ _) (AutoListH.list___mul___list_int_3 l its.toArray n k t hfit hcap hlong) ⟨e,?_⟩⟩)
  rw [hnew]
  exact ⟨.ref _,_,I.lnew (t':=s.toks) (r.rep k.toNat) (by rw [len_rep,Nat.mul_comm];exact hz),rfl,q _ I.fresh⟩
end
end L2
namespace Att
open PySem PySem.W PySem.Calls PyProof.Rows
theorem ints_of_wellAll {P:Params}{h:Heap}:∀ (ns:List Int) (vs:List Value),WellAll P h vs (ns.map WData.int)→IntsAre vs ns:=by
  intro ns
  induction ns with
  | nil =>
    intro vs w
    rw [List.map_nil] at w
    cases w
    exact .nil
  | cons n ns ih =>
    intro vs w
    rw [List.map_cons] at w
    cases w with
    | cons a b =>
      cases a
      exact .cons _ _ (ih _ b)
theorem script_of {l:OpenLaw}{n:Nat} (hn:l.most=some n) {P:Params}{h:Heap}{args:List WData}{vals:List Value}
    (hpre:l.row.toRowW.claim.pre args=true) (hwl:WellAll P h vals args) :
    ∃ a vs ns,vals=[Value.ref a]∧args=[WData.list (ns.map WData.int)]∧h.get? a=some { cls:=.type "list",data:=.seq vs.toArray }∧IntsAre vs ns∧ns.length≤n:=by
  have hsh:WShape.hasAll [] args [.list .int]=true:=(pre_splitW hpre).1
  have hc:l.pre.holds [] { args:=args }=true:=(pre_splitW hpre).2
  obtain ⟨d,r,rfl,h1,h2⟩:=hasAllW_cons hsh
  obtain rfl:=hasAllW_nil h2
  obtain ⟨xs,rfl,h3⟩:=hasW_list h1
  obtain ⟨ns,rfl⟩:=items_int h3
  have hlen:ns.length≤n:=by
    unfold OpenLaw.pre at hc
    have h4:(WTm.not (.lt (.lit (.int (n:Int))) (.len (.arg 0)))).holds [] { args:=[.list (ns.map .int)] }=true:=by
      have h4:=(holds_andW hc).1
      rw [hn] at h4
      exact h4
    have h5:=condW_of h4 (w_not (w_lt w_lit (w_len_list (w_arg rfl))))
    rw [List.length_map] at h5
    refine Nat.le_of_not_lt fun q=>?_
    have q':(n:Int)<((ns.length:Nat):Int):=by omega
    first
      | (rw [decide_eq_true q'] at h5;exact absurd h5 (by decide))
      | (simp at h5;omega)
  cases hwl with
  | cons w1 w2 =>
    cases w2
    cases w1 with
    | list ho hall=>exact ⟨_,_,ns,rfl,rfl,ho,ints_of_wellAll ns _ hall,hlen⟩
theorem post_true (l:OpenLaw) (args:List WData):l.row.toRowW.claim.post args (.bool true) args=true :=
  postW_of (r:=l.row.toRowW) (X:=(true == true))
    (show WShape.has [] (.bool true) .bool=true by first | rfl | decide | simp [WShape.has,WShape.arms,WShape.armsAll])
    (show (WTm.eq .res (.lit (.bool true))).value [] { args:=args,res:=some (.bool true),after:=args }=some (.bool (true == true)) from w_eq_bool (w_res rfl) w_lit) rfl
end Att
namespace L2
open PySem PySem.Spec PyProof.Rows
theorem vals_ints:∀ {vs:List Value}{ns:List Int},IntsAre vs ns→Vals (ns.map V.int) vs
  | _,_,.nil=>.nil
  | _,_,.cons n t h=>.cons ⟨t,rfl⟩ (vals_ints h)
def Only (H:Hp):Prop:=∀ b,H b=none∨∃ o xs,H b=some (.frz o (.lst xs))
theorem law_call {P:Program}{w:World}{K:PySem.W.Frag}{mg mb:Str→Option Value}{CX:CXT}{k:Nat}{fa a:Addr}{fd:FuncData}{x:Str}{sp:Sp}{s₁:Shared}{vs:List Value}{ns:List Int}
    (KX:K.In s₁.heap) (hns:s₁.heap.Ns mainGlobals mg) (hb:s₁.heap.Ns builtinsNs mb) (hbb:∀ x:Str,x≠"__name__"→mb x=bootBuiltins x) (hlim:s₁.heap.NoLimit) (hg:s₁.gens=#[])
    (ha:s₁.heap.get? a=some { cls:=.type "list",data:=.seq vs.toArray }) (hi:IntsAre vs ns) (hl:ns.length≤sizeLine) (hr:Room k callerA)
    (F:∀ base:Heap,K.In base→base.Ns mainGlobals mg→FnOk P w K mg base CX k fa fd [x] sp) (hbind:∀ (s:Shared) (u:Value),BindsTo s fd ⟨[u],[]⟩ [(x,u)])
    (hsp:∀ H:Hp,Only H→SqL K H a (ns.map V.int)→sp [.ref a] H (fun v _=>v = .bl true) fun _ _ _=>False)
    (hCX:∀ H e s',CX [] H s₁ (fun _ _ _=>False) e s'→False) :
    codeAny (model P w) callerA (.call (.ref fa) ⟨[.ref a],[]⟩) (fun r s'=>r = .ok (.ret (.bool true))∧OldK s₁.heap s'.heap∧s'.os=s₁.os∧AllBare s'.gens) s₁:=by
  have rv:=vals_ints hi
  have lenV:=hi.length
  have core:∀ H:Hp,Only H→SqL K H a (ns.map V.int)→HOk P w H s₁.heap→(∀ b,H b≠none→b=a)→(H a≠none→K.lookup a=none) →
      codeAny (model P w) callerA (.call (.ref fa) ⟨[.ref a],[]⟩) (fun r s'=>r = .ok (.ret (.bool true))∧OldK s₁.heap s'.heap∧s'.os=s₁.os∧AllBare s'.gens) s₁:=by
    intro H hO hS hok hA hK
    have base_of:∀ {b:Addr}{o:Obj},s₁.heap.get? b=some o→H b=none→(hidT s₁.heap H).get? b=some o:=fun e n=>hidT_get e n
    have noA:∀ {b:Addr}{o:Obj}{es:Array DictEntry}{ep:Nat},s₁.heap.get? b=some o→o.data = .dict es ep→H b=none:=fun {b o es ep} e d=>by
      cases q:H b with
      | none=>rfl
      | some u =>
        have e':b=a:=hA b (by rw [q];simp)
        subst e'
        rw [ha] at e;cases e
        have d':Data.seq vs.toArray _=Data.dict es ep:=d
        cases d'
    have nsK:∀ {b:Addr}{m:Str→Option Value},s₁.heap.Ns b m→(hidT s₁.heap H).Ns b m:=fun {b m} ⟨o,es,ep,e,d,r⟩=>⟨o,es,ep,base_of e (noA e d),d,r⟩
    have hKb:K.In (hidT s₁.heap H):=fun b o e=>base_of (KX b o e) (by
      cases q:H b with
      | none=>rfl
      | some u =>
        have e':b=a:=hA b (by rw [q];simp)
        subst e'
        rw [hK (by rw [q];simp)] at e;cases e)
    have hM:Mod K mg (hidT s₁.heap H):=⟨hKb,nsK hns,⟨mb,nsK hb,hbb⟩,let ⟨mc,h1,h2⟩:=hlim;⟨mc,nsK h1,h2⟩⟩
    have e0:Env0 P w K mg (hidT s₁.heap H) callerA [] s₁ H:=⟨rfl,hM,fun b o e=>of_hidT e,Nat.le_of_eq (hidT_size _ _),trivial,fun b hb=>absurd (show b∈([]:List Addr) from hb) (by simp),hok,.of_eq hg⟩
    refine codeAny_mono ((F _ hKb (nsK hns)).run callerA [] s₁ H ⟨[.ref a],[]⟩ [.ref a] [.ref a] _ _ hr e0 (hbind s₁ (.ref a)) (.cons rfl .nil) (hsp H hO hS)) fun r s' h=>?_
    cases r with
    | error e=>exact (hCX H e s' h).elim
    | ok fl =>
      cases fl with
      | next=>exact False.elim h
      | brk=>exact False.elim h
      | cont=>exact False.elim h
      | ret u =>
        obtain ⟨v,H',os,bare,un,hok',r',q⟩:=h
        have q':v = .bl true:=q
        subst q'
        obtain rfl:u=Value.bool true:=r'
        refine ⟨rfl,OldK.of_keep fun b o e=>?_,os,bare⟩
        cases q:H b with
        | none=>exact un.keep b o e q (by intro z;exact absurd (show b∈([]:List Addr) from z) (by simp)) (by simp)
        | some u =>
          rcases hO b with z | ⟨ob,xs,z⟩
          · rw [q] at z;cases z
          · have z2:=un.frzs b ob _ z
            obtain ⟨e1,_⟩:=hok b _ z
            obtain ⟨e2,_⟩:=hok' b _ z2
            rw [e] at e1;cases e1
            exact e2
  cases hk:K.lookup a with
  | some o =>
    have e:=KX a o hk
    rw [ha] at e
    cases e
    refine core (fun _=>none) (fun _=>.inl rfl) (.inr ⟨_,vs.toArray,_,hk,rfl,rfl,rfl,by rw [List.size_toArray,lenV];exact hl,by simpa using rv⟩) (fun b u z=>by have z':(none:Option HO)=some u:=z;cases z') (fun b z=>absurd rfl z) fun z=>absurd rfl z
  | none =>
    refine core (fun b=>if b=a then some (.frz { cls:=.type "list",data:=.seq vs.toArray } (.lst (ns.map V.int))) else none) (fun b=>?_) (.inl (.inr ⟨{ cls:=.type "list",data:=.seq vs.toArray },if_pos rfl⟩)) (fun b u z=>?_) (fun b z=>?_) fun _=>hk
    · by_cases hb:b=a
      · exact .inr ⟨_,_,if_pos hb⟩
      · exact .inl (if_neg hb)
    · by_cases hb:b=a
      · have z':=(if_pos hb).symm.trans z
        cases z'
        subst hb
        exact ⟨ha,by rw [List.length_map];exact hl,vs,_,rv,ha⟩
      · have z':=(if_neg hb).symm.trans z
        cases z'
    · by_cases hb:b=a
      · exact hb
      · exact absurd (if_neg hb) z
noncomputable def inClass (s:Stmt) (j:Nat):Stmt:=match s with
  | .ClassDef _ _ _ body _ _ _ _ _ _ _=>body.getD j (.Pass ⟨0,0,0,0⟩)
  | _=>.Pass ⟨0,0,0,0⟩
noncomputable def defArgs (s:Stmt):Arguments:=match s with
  | .FunctionDef _ a _ _ _ _ _ _ _ _=>a
  | _=>{ posonlyargs:=[],args:=[],vararg:=none,kwonlyargs:=[],kw_defaults:=[],kwarg:=none,defaults:=[] }
noncomputable def defBody (s:Stmt):List Stmt:=match s with
  | .FunctionDef _ _ b _ _ _ _ _ _ _=>b
  | _=>[]
noncomputable def defScope (s:Stmt):Scope:=match s with
  | .FunctionDef _ _ _ _ _ _ sc _ _ _=>sc
  | _=>{ kind:=.function,names:=[],isGenerator:=false,isCoroutine:=false }
structure Fun (K:PySem.W.Frag) (x qual:Str) (st:Stmt) (f:Addr) (fd:FuncData):Prop where
  ex:∃ (oc:Value) (od:Option Addr) (kV doc pm:Value) (an:Option Addr) (cdv ct:Value) (osl:Array (Option Value)),
    fd=PySem.W.fnOf x qual (defArgs st) (defBody st) (defScope st) .none kV doc pm an cdv ct∧K.lookup f=some ⟨oc,od,.func fd,osl⟩∧PySem.W.codeIn K cdv qual=true
  kp:PySem.W.keepIn K (.ref f)=true
section
variable {P:Program}{w:World}{K:PySem.W.Frag}{mg:Str→Option Value}{base:Heap}
theorem Fun.binds {x qual:Str}{st:Stmt}{f:Addr}{fd:FuncData}{ps:List Str} (F:Fun K x qual st f fd)
    (h:∀ (kV doc pm:Value) (an:Option Addr) (cdv ct:Value) (us:List Value),us.length=ps.length→bindArgs (PySem.W.fnOf x qual (defArgs st) (defBody st) (defScope st) .none kV doc pm an cdv ct) ⟨us,[]⟩=pure (ps.zip us)):Binds K fd ps []:=by
  obtain ⟨oc,od,kV,doc,pm,an,cdv,ct,osl,rfl,lk,hcd⟩:=F.ex
  exact .all (h kV doc pm an cdv ct)
theorem fun_mk {x qual:Str}{st:Stmt}{f:Addr}{oc:Value}{od an:Option Addr}{osl:Array (Option Value)}{kV doc pm cdv ct:Value} (l:K.lookup f=some ⟨oc,od,.func (PySem.W.fnOf x qual (defArgs st) (defBody st) (defScope st) .none kV doc pm an cdv ct),osl⟩)
    (c:PySem.W.codeIn K cdv qual=true) (k:PySem.W.keepIn K (.ref f)=true):Fun K x qual st f (PySem.W.fnOf x qual (defArgs st) (defBody st) (defScope st) .none kV doc pm an cdv ct):=⟨⟨oc,od,kV,doc,pm,an,cdv,ct,osl,rfl,l,c⟩,k⟩
end
section
variable {X:Cx}
end
def Same (H H':Hp):Prop:=∀ b o,H b=some o→H' b=some o
theorem Same.refl (H:Hp):Same H H:=fun _ _ h=>h
theorem Same.trans {H H1 H2:Hp} (a:Same H H1) (b:Same H1 H2):Same H H2:=fun c o h=>b c o (a c o h)
theorem Same.free {H H':Hp} (e:Same H H') {l:Addr} (h:H' l=Option.none):H l=Option.none:=by
  cases q:H l with
  | none=>rfl
  | some o =>
    rw [e l o q] at h
    cases h
theorem Same.seq {K:PySem.W.Frag}{H H':Hp}{a:Addr}{xs:List V} (e:Same H H') (h:SqL K H a xs):SqL K H' a xs:=by
  rcases h with (h | ⟨o,h⟩) | h
  · exact .inl (.inl (e _ _ h))
  · exact .inl (.inr ⟨o,e _ _ h⟩)
  · exact .inr h
end L2
set_option maxHeartbeats 4000000
namespace Mi
open PySem
inductive PV where
  | non | bl (b:Bool) | int (i:Int) | str (x:Str) | tup (l:List PV) | lst (l:List PV)
  | exc (c:Nat)            -- an exception that was caught,by its class
  | dic0                     -- an empty dict
  | ins (c:Nat)            -- an instance without attributes,by its class
  | own (l:List PV)        -- a list that one name alone holds (a slot's value,never an expression's)
inductive R (α:Type) where
  | ok (a:α) | exc (c:Nat) | stuck
noncomputable def R.bind {α β:Type} (r:R α) (f:α→R β):R β:=match r with
  | .ok a=>f a
  | .exc c=>.exc c
  | .stuck=>.stuck
@[simp] theorem R.bind_ok {α β:Type} (a:α) (f:α→R β):(R.ok a).bind f=f a:=rfl
abbrev MEnv:=List (Option PV)
abbrev FE:=MEnv→R PV
abbrev FA:=MEnv→R (List PV)
abbrev FT:=MEnv→R Bool
inductive SR where
  | next (ρ:MEnv) | ret (v:PV) | brk (ρ:MEnv) | cont (ρ:MEnv) | exc (c:Nat) (ρ:MEnv) | stuck
abbrev FS:=MEnv→SR
noncomputable def asVal:Option PV→R PV
  | some (.own _)=>.stuck
  | some v=>.ok v
  | none=>.stuck
noncomputable def getV:MEnv→Nat→R PV
  | [],_=>.stuck
  | o::_,0=>asVal o
  | _::r,n+1=>getV r n
noncomputable abbrev nb (i:Int):Nat:=Builtin.Int.intBits i
mutual
noncomputable def eqPV:PV→PV→Bool
  | .non,.non=>true
  | .bl a,.bl b=>a == b
  | .bl a,.int b=>(if a then 1 else 0) == b
  | .int a,.bl b=>a == (if b then 1 else 0)
  | .int a,.int b=>a == b
  | .str a,.str b=>a == b
  | .tup a,.tup b=>eqPVs a b
  | .lst a,.lst b=>eqPVs a b
  | _,_=>false
noncomputable def eqPVs:List PV→List PV→Bool
  | [],[]=>true
  | x::xs,y::ys=>eqPV x y && eqPVs xs ys
  | _,_=>false
end
noncomputable def cmpOkN:Nat→PV→Bool
  | _,.non=>true
  | _,.bl _=>true
  | _,.int _=>true
  | _,.str _=>true
  | n+1,.tup l=>l.all (cmpOkN n)
  | n+1,.lst l=>l.all (cmpOkN n)
  | _,_=>false
noncomputable abbrev cmpOk (p:PV):Bool:=cmpOkN 6 p
noncomputable def truthP:PV→R Bool
  | .bl b=>.ok b
  | .int i=>.ok (i != 0)
  | .non=>.ok false
  | .lst l=>.ok (!l.isEmpty)
  | .str z=>if z.length≤sizeLine then .ok ((z.length:Int) != 0) else .stuck
  | _=>.stuck
noncomputable abbrev bitsMax:Nat:=134217728
noncomputable def oAdd:PV→PV→R PV
  | .int a,.int b=>.ok (.int (a+b))
  | .str a,.str b=>if a.length+b.length≤sizeLine then .ok (.str (a ++ b)) else .stuck
  | .lst a,.lst b=>if a.length+b.length≤sizeLine then .ok (.lst (a ++ b)) else .stuck
  | .tup a,.tup b=>if (a.length≠0∧b.length≠0)∧a.length+b.length≤sizeLine then .ok (.tup (a ++ b)) else .stuck
  | _,_=>.stuck
noncomputable def oSub:PV→PV→R PV
  | .int a,.int b=>.ok (.int (a - b))
  | _,_=>.stuck
noncomputable def oMul:PV→PV→R PV
  | .int a,.int b=>if nb a≤64∨nb b≤64∨nb a+nb b≤bitsMax then .ok (.int (a*b)) else .stuck
  | _,_=>.stuck
noncomputable def oDiv:PV→PV→R PV
  | .int a,.int b=>if 0<b∧nb b≤9000 then .ok (.int (a / b)) else .stuck
  | _,_=>.stuck
noncomputable def oMod:PV→PV→R PV
  | .int a,.int b=>if 0<b then .ok (.int (a % b)) else .stuck
  | _,_=>.stuck
noncomputable def oPow:PV→PV→R PV
  | .int a,.int b=>if 0≤b∧b≤1000000∧nb a≤64 then .ok (.int (a ^ b.toNat)) else .stuck
  | _,_=>.stuck
noncomputable def oShl:PV→PV→R PV
  | .int a,.int b=>if 0≤b∧nb a+b≤134217728 then .ok (.int (a*2 ^ b.toNat)) else .stuck
  | _,_=>.stuck
noncomputable def oShr:PV→PV→R PV
  | .int a,.int b=>if 0≤b then .ok (.int (a / 2 ^ b.toNat)) else .stuck
  | _,_=>.stuck
noncomputable def oAnd:PV→PV→R PV
  | .int a,.int b=>.ok (.int (Builtin.bitAnd a b))
  | _,_=>.stuck
noncomputable def oOr:PV→PV→R PV
  | .int a,.int b=>.ok (.int (Builtin.bitOr a b))
  | _,_=>.stuck
noncomputable def oXor:PV→PV→R PV
  | .int a,.int b=>.ok (.int (Builtin.bitXor a b))
  | _,_=>.stuck
noncomputable def oNeg:PV→R PV
  | .int a=>.ok (.int (-a))
  | _=>.stuck
noncomputable def cLt:PV→PV→R PV
  | .int a,.int b=>.ok (.bl (decide (a<b)))
  | _,_=>.stuck
noncomputable def cLe:PV→PV→R PV
  | .int a,.int b=>.ok (.bl (decide (a≤b)))
  | _,_=>.stuck
noncomputable def cGt:PV→PV→R PV
  | .int a,.int b=>.ok (.bl (decide (b<a)))
  | _,_=>.stuck
noncomputable def cGe:PV→PV→R PV
  | .int a,.int b=>.ok (.bl (decide (b≤a)))
  | _,_=>.stuck
noncomputable def dicStr:PV→PV→Bool
  | .dic0,.str _=>true
  | _,_=>false
noncomputable def cEq (a b:PV):R PV:=if cmpOk a && cmpOk b then .ok (.bl (eqPV a b)) else if dicStr a b then .ok (.bl false) else .stuck
noncomputable def cNe (a b:PV):R PV:=if cmpOk a && cmpOk b then .ok (.bl (!eqPV a b)) else .stuck
noncomputable def isNone:PV→Bool
  | .non=>true
  | _=>false
noncomputable def cNotN (a:PV):R PV:=.ok (.bl (!isNone a))
mutual
noncomputable def flatP:PV→Bool
  | .non=>true
  | .bl _=>true
  | .int _=>true
  | .str _=>true
  | _=>false
end
noncomputable def cIn (x y:PV):R PV:=match y with
  | .tup l=>if flatP x && l.all flatP then .ok (.bl (l.any fun z=>eqPV z x)) else .stuck
  | .lst l=>if flatP x && l.all flatP then .ok (.bl (l.any fun z=>eqPV z x)) else .stuck
  | .str z=>(match x with
    | .str y=>.ok (.bl (!(Builtin.Str.occurrences z y 0 z.length 1).isEmpty))
    | _=>.stuck)
  | _=>.stuck
noncomputable def strP:PV→Bool
  | .str _=>true
  | _=>false
noncomputable def heapP:PV→Bool
  | .lst _=>true
  | .tup _=>true
  | .dic0=>true
  | _=>false
noncomputable def cNotIn (x y:PV):R PV:=match y with
  | .tup l=>if flatP x && l.all flatP then .ok (.bl (!l.any fun z=>eqPV z x)) else .stuck
  | .lst l=>if flatP x && l.all flatP then .ok (.bl (!l.any fun z=>eqPV z x)) else if heapP x && l.all strP then .ok (.bl true) else .stuck
  | .str z=>(match x with
    | .str y=>.ok (.bl (!(!(Builtin.Str.occurrences z y 0 z.length 1).isEmpty)))
    | _=>.stuck)
  | _=>.stuck
noncomputable def ixP (n:Nat) (i:Int):Option Nat:=if 0≤i then (if i<n then some i.toNat else none) else if -(n:Int)≤i then some (i+n).toNat else none
noncomputable def itemP (l:List PV) (i:Int):R PV:=match ixP l.length i with
  | some j=>(match l[j]? with | some v=>.ok v | none=>.stuck)
  | none=>.stuck
noncomputable def oItem:PV→PV→R PV
  | .tup l,.int i=>itemP l i
  | .lst l,.int i=>itemP l i
  | .str z,.int i=>(match ixP z.cps.toList.length i with
    | some j=>(match z.cps.toList[j]? with | some c=>if z.length≤sizeLine then .ok (.str ⟨#[c]⟩) else .stuck | none=>.stuck)
    | none=>.stuck)
  | _,_=>.stuck
noncomputable def bLen:List PV→R PV
  | [.tup l]=>.ok (.int l.length)
  | [.lst l]=>.ok (.int l.length)
  | [.str z]=>if z.length≤sizeLine then .ok (.int z.length) else .stuck
  | _=>.stuck
noncomputable def bAbs:List PV→R PV
  | [.int i]=>.ok (.int (if i<0 then -i else i))
  | _=>.stuck
noncomputable def bMin:List PV→R PV
  | [.int i,.int j]=>.ok (.int (if j<i then j else i))
  | _=>.stuck
noncomputable def bMax:List PV→R PV
  | [.int i,.int j]=>.ok (.int (if j > i then j else i))
  | _=>.stuck
noncomputable def bInt:List PV→R PV
  | [.int i]=>.ok (.int i)
  | [.bl k]=>.ok (.int (if k then 1 else 0))
  | _=>.stuck
noncomputable def bBitLength:PV→R PV
  | .int i=>.ok (.int (nb i))
  | _=>.stuck
noncomputable def bList:List PV→R PV
  | [.tup l]=>.ok (.lst l)
  | [.lst l]=>.ok (.lst l)
  | _=>.stuck
noncomputable def bTuple:List PV→R PV
  | [.tup l]=>.ok (.tup l)
  | [.lst l]=>.ok (.tup l)
  | _=>.stuck
inductive Ty where | int | bool | str | tuple | list | dict
noncomputable def isTy:PV→Ty→Option Bool
  | .non,_=>some false
  | .bl _,.int=>some true
  | .bl _,.bool=>some true
  | .bl _,_=>some false
  | .int _,.int=>some true
  | .int _,_=>some false
  | .str _,.str=>some true
  | .str _,_=>some false
  | .tup _,.tuple=>some true
  | .tup _,_=>some false
  | .lst _,.list=>some true
  | .lst _,_=>some false
  | .dic0,.dict=>some true
  | .dic0,_=>some false
  | _,_=>none
noncomputable def fVar (i:Nat):FE:=fun ρ=>getV ρ i
noncomputable def fC (v:PV):FE:=fun _=>.ok v
noncomputable def fBin (o:PV→PV→R PV) (a b:FE):FE:=fun ρ=>(a ρ).bind fun x=>(b ρ).bind fun y=>o x y
noncomputable def fUn (o:PV→R PV) (a:FE):FE:=fun ρ=>(a ρ).bind o
noncomputable def oBool:PV→R Bool
  | .bl b=>.ok b
  | _=>.stuck
noncomputable def fAnd (a b:FE):FE:=fun ρ=>(a ρ).bind fun x=>(oBool x).bind fun c=>if c then b ρ else .ok (.bl false)
noncomputable def fOr (a b:FE):FE:=fun ρ=>(a ρ).bind fun x=>(oBool x).bind fun c=>if c then .ok (.bl true) else b ρ
noncomputable def fNot (a:FE):FE:=fun ρ=>(a ρ).bind fun x=>(oBool x).bind fun c=>.ok (.bl (!c))
noncomputable def fChain (o o':PV→PV→R PV) (a b c:FE):FE:=fun ρ=>(a ρ).bind fun x=>(b ρ).bind fun y=>(o x y).bind fun r=>(oBool r).bind fun k =>
  if k then (c ρ).bind fun z=>o' y z else .ok (.bl false)
noncomputable def fIf (t:FT) (a b:FE):FE:=fun ρ=>(t ρ).bind fun c=>if c then a ρ else b ρ
noncomputable def aNil:FA:=fun _=>.ok []
noncomputable def aCons (a:FE) (r:FA):FA:=fun ρ=>(a ρ).bind fun x=>(r ρ).bind fun xs=>.ok (x::xs)
noncomputable def fTup (a:FA):FE:=fun ρ=>(a ρ).bind fun xs=>if xs.length≤sizeLine then .ok (.tup xs) else .stuck
noncomputable def fLst (a:FA):FE:=fun ρ=>(a ρ).bind fun xs=>if xs.length≤sizeLine then .ok (.lst xs) else .stuck
noncomputable def fCall (F:List PV→R PV) (a:FA):FE:=fun ρ=>(a ρ).bind F
noncomputable def fIsinst (t:Ty) (a:FE):FE:=fun ρ=>(a ρ).bind fun x=>match isTy x t with | some b=>.ok (.bl b) | none=>.stuck
noncomputable def under (c d:Nat):Bool:=c == d || d == 0
noncomputable def fIsExc (ks:List Nat) (d:Nat) (a:FE):FE:=fun ρ=>(a ρ).bind fun x=>match x with
  | .exc c=>if ks.contains c then .ok (.bl (under c d)) else .stuck
  | .non=>.ok (.bl false)
  | _=>.stuck
noncomputable def fIsVal (ks:List Nat) (a:FE):FE:=fun ρ=>(a ρ).bind fun x=>match x with
  | .exc c=>if ks.contains c then .ok (.bl true) else .stuck
  | .non=>.ok (.bl false)
  | _=>.stuck
noncomputable def tVal (a:FE):FT:=fun ρ=>(a ρ).bind truthP
noncomputable def tAnd (a b:FT):FT:=fun ρ=>(a ρ).bind fun c=>if c then b ρ else .ok false
noncomputable def tOr (a b:FT):FT:=fun ρ=>(a ρ).bind fun c=>if c then .ok true else b ρ
noncomputable def tNot (a:FT):FT:=fun ρ=>(a ρ).bind fun c=>.ok (!c)
noncomputable def slP (n d:Nat):Option Int→Nat
  | none=>d
  | some v=>if v<0 then (v+(n:Int)).toNat else min v.toNat n
noncomputable def cutP (l:List PV) (lo hi:Option Int):List PV:=(l.drop (slP l.length 0 lo)).take (slP l.length l.length hi - slP l.length 0 lo)
abbrev FO:=MEnv→R (Option Int)
noncomputable def oNone:FO:=fun _=>.ok none
noncomputable def oSome (a:FE):FO:=fun ρ=>(a ρ).bind fun x=>match x with | .int i=>.ok (some i) | _=>.stuck
noncomputable def sCut (z:Str) (lo hi:Option Int):Str:=⟨((z.cps.toList.drop (slP z.cps.toList.length 0 lo)).take (slP z.cps.toList.length z.cps.toList.length hi - slP z.cps.toList.length 0 lo)).toArray⟩
noncomputable def oCut (x:PV) (lo hi:Option Int):R PV:=match x with
  | .str z=>if z.length≤sizeLine then .ok (.str (sCut z lo hi)) else .stuck
  | .lst l=>.ok (.lst (cutP l lo hi))
  | _=>.stuck
noncomputable def fCut (a:FE) (l h:FO):FE:=fun ρ=>(a ρ).bind fun x=>(l ρ).bind fun lo=>(h ρ).bind fun hi=>oCut x lo hi
noncomputable def sNext:FS:=fun ρ=>.next ρ
noncomputable def sSeq (f g:FS):FS:=fun ρ=>match f ρ with
  | .next ρ'=>g ρ'
  | o=>o
noncomputable def sBreak:FS:=fun ρ=>.brk ρ
noncomputable def sCont:FS:=fun ρ=>.cont ρ
noncomputable def ofR (r:R PV) (ρ:MEnv) (k:PV→SR):SR:=match r with
  | .ok v=>k v
  | .exc c=>.exc c ρ
  | .stuck=>.stuck
noncomputable def sRet (a:FE):FS:=fun ρ=>ofR (a ρ) ρ fun v=>.ret v
noncomputable def sRetN:FS:=fun _=>.ret .non
noncomputable def sExpr (a:FE):FS:=fun ρ=>ofR (a ρ) ρ fun _=>.next ρ
noncomputable def sSet (i:Nat) (a:FE):FS:=fun ρ=>ofR (a ρ) ρ fun v=>.next (ρ.set i (some v))
noncomputable def setAll:List Nat→List PV→MEnv→Option MEnv
  | [],[],ρ=>some ρ
  | i::r,v::vs,ρ=>setAll r vs (ρ.set i (some v))
  | _,_,_=>none
noncomputable def sUnpack (is:List Nat) (a:FE):FS:=fun ρ=>ofR (a ρ) ρ fun v=>match v with
  | .tup l=>(match setAll is l ρ with | some ρ'=>.next ρ' | none=>.stuck)
  | _=>.stuck
noncomputable def sIf (t:FT) (f g:FS):FS:=fun ρ=>match t ρ with
  | .ok c=>if c then f ρ else g ρ
  | .exc c=>.exc c ρ
  | .stuck=>.stuck
noncomputable def sRaise (c:Nat):FS:=fun ρ=>.exc c ρ
noncomputable def isSmallI:R PV→Bool
  | .ok (.int i)=>decide (i.natAbs<18446744073709551616)
  | _=>false
noncomputable def sRaiseT (k:MEnv→Bool) (c:Nat):FS:=fun ρ=>if k ρ then .exc c ρ else .stuck
noncomputable def forL (i:Nat) (body:FS):List PV→FS
  | [],ρ=>.next ρ
  | x::r,ρ=>match body (ρ.set i (some x)) with
    | .next ρ'=>forL i body r ρ'
    | .cont ρ'=>forL i body r ρ'
    | .brk ρ'=>.next ρ'
    | o=>o
noncomputable def sFor (i:Nat) (it:FA) (body:FS):FS:=fun ρ=>match it ρ with
  | .ok l=>forL i body l ρ
  | .exc c=>.exc c ρ
  | .stuck=>.stuck
noncomputable def iSeq (a:FE):FA:=fun ρ=>(a ρ).bind fun x=>match x with
  | .lst l=>.ok l
  | .tup l=>.ok l
  | _=>.stuck
noncomputable def rangeN (lo hi st:Int):Nat:=(if st > 0 then (if lo<hi then (hi - lo - 1) / st+1 else 0) else (if lo > hi then (lo - hi - 1) / (-st)+1 else 0)).toNat
noncomputable def rangeP (lo hi st:Int):List PV:=(List.range (rangeN lo hi st)).map fun (k:Nat)=>.int (lo+(k:Int)*st)
def smallI (i:Int):Prop:=-(2 ^ 60)≤i∧i<2 ^ 60
instance (i:Int):Decidable (smallI i):=inferInstanceAs (Decidable (_∧_))
noncomputable def iRange (a:FA):FA:=fun ρ=>(a ρ).bind fun xs=>match xs with
  | [.int hi]=>if smallI hi then .ok (rangeP 0 hi 1) else .stuck
  | [.int lo,.int hi]=>if smallI lo∧smallI hi then .ok (rangeP lo hi 1) else .stuck
  | [.int lo,.int hi,.int st]=>if smallI lo∧smallI hi∧smallI st∧st≠0 then .ok (rangeP lo hi st) else .stuck
  | _=>.stuck
noncomputable def sTryAs (body:FS) (ks:List Nat) (d n x:Nat):FS:=fun ρ=>match body ρ with
  | .exc c ρ'=>if ks.contains c && under c d then .next (((ρ'.set n (some (.exc c))).set x (some (.exc c))).set n none) else .stuck
  | o=>o
noncomputable def start (n:Nat) (vs:List PV):MEnv:=vs.map some ++ List.replicate (n - vs.length) none
noncomputable def runF (n:Nat) (b:FS) (vs:List PV):R PV:=match b (start n vs) with
  | .next _=>.ok .non
  | .ret v=>.ok v
  | .exc c _=>.exc c
  | _=>.stuck
end Mi
set_option autoImplicit false
namespace Mi
open PySem
noncomputable def sFreeze (i:Nat) (g:FS):FS:=fun ρ=>match ρ[i]? with
  | some (some (.own l))=>g (ρ.set i (some (.lst l)))
  | _=>g ρ
noncomputable def sOwn (i:Nat) (a:FE):FS:=fun ρ=>ofR (a ρ) ρ fun v=>match v with
  | .lst l=>.next (ρ.set i (some (.own l)))
  | _=>.stuck
noncomputable def sAppend (i:Nat) (g:FA):FS:=fun ρ=>match ρ[i]? with
  | some (some (.own l))=>(match g ρ with
    | .ok [v]=>if l.length<sizeLine then .next (ρ.set i (some (.own (l ++ [v])))) else .stuck
    | .ok _=>.stuck
    | .exc c=>.exc c ρ
    | .stuck=>.stuck)
  | _=>.stuck
def Fine (f:Obj→Obj):Prop:=∀ o,(f o).cls=o.cls∧(f o).dict=o.dict∧(f o).isFreed=o.isFreed
def Kd (e:Addr) (h h':Heap):Prop:=∀ o,h.get? e=some o→∃ o',h'.get? e=some o'∧o'.cls=o.cls∧o'.dict=o.dict
theorem Kd.refl (e:Addr) (h:Heap):Kd e h h:=fun o q=>⟨o,q,rfl,rfl⟩
theorem Kd.trans {e:Addr}{h h1 h2:Heap} (a:Kd e h h1) (b:Kd e h1 h2):Kd e h h2:=fun o q=>by
  obtain ⟨o1,q1,c1,d1⟩:=a o q
  obtain ⟨o2,q2,c2,d2⟩:=b o1 q1
  exact ⟨o2,q2,c2.trans c1,d2.trans d1⟩
inductive Tame:{α:Type}→Sem α→Prop where
  | pure {α:Type} (a:α):Tame (.pure a)
  | raise {α:Type} (e:Value):Tame (.raise e:Sem α)
  | unsupported {α:Type} (w:String):Tame (.unsupported w:Sem α)
  | rule {α:Type}{t:String}{k:Unit→Sem α} (h:Tame (k ())):Tame (.rule t k)
  | load {α:Type}{a:Addr}{p:Option Value}{k:Obj→Sem α} (h:∀ o,Tame (k o)):Tame (.load a p k)
  | update {α:Type}{a:Addr}{p:Option Value}{f:Obj→Obj}{k:Unit→Sem α} (hf:Fine f) (h:Tame (k ())):Tame (.update a p f k)
  | alloc {α:Type}{o:Obj}{k:Addr→Sem α} (h:∀ a,Tame (k a)):Tame (.alloc o k)
  | register {α:Type}{a:Addr}{k:Unit→Sem α}:Tame (.register a k)
  | stack {α:Type}{k:List (Code×Pos)→Sem α} (h:∀ a,Tame (k a)):Tame (.stack k)
theorem Tame.bind {α β:Type}{t:Sem α}{f:α→Sem β} (h:Tame t) (g:∀ a,Tame (f a)):Tame (t >>= f):=by
  show Tame (t.bind f)
  induction h with
  | pure a=>exact g a
  | raise e=>exact .raise e
  | unsupported w=>exact .unsupported w
  | rule _ ih=>exact .rule ih
  | load _ ih=>exact .load fun o=>ih o
  | update hf _ ih=>exact .update hf ih
  | alloc _ ih=>exact .alloc fun a=>ih a
  | register=>exact .register
  | stack _ ih=>exact .stack fun a=>ih a
theorem kd_update {e a:Addr}{h:Heap}{f:Obj→Obj} (hf:Fine f):Kd e h (h.update a f):=fun o q=>by
  by_cases ha:a=e
  · subst ha
    have nf:o.isFreed=false:=(Heap.get?_some_iff.mp q).2
    exact ⟨f o,Heap.get?_update_self f q (by rw [(hf o).2.2];exact nf),(hf o).1,(hf o).2.1⟩
  · exact ⟨o,(Heap.get?_update_other _ _ ha).trans q,rfl,rfl⟩
theorem Tame.keep {α:Type}{M:Model}{Γ:Ctx}{t:Sem α} (h:Tame t) (e:Addr):∀ {Q:α→Pos→Shared→Prop}{E:Value→Pos→Shared→Prop}{p:Pos}{s:Shared},Sem.wp M Γ t Q E p s →
    Sem.wp M Γ t (fun a p s'=>Q a p s'∧Kd e s.heap s'.heap) (fun x p s'=>E x p s'∧Kd e s.heap s'.heap) p s:=by
  induction h with
  | pure a=>intro Q E p s w;exact ⟨w,Kd.refl _ _⟩
  | raise x=>intro Q E p s w;exact ⟨w,Kd.refl _ _⟩
  | unsupported x=>intro Q E p s w;exact w.elim
  | rule _ ih=>intro Q E p s w;exact ih w
  | load _ ih=>intro Q E p s w;obtain ⟨o,h1,h2⟩:=w;exact ⟨o,h1,ih o h2⟩
  | update hf _ ih =>
    intro Q E p s w
    obtain ⟨h1,h2⟩:=w
    exact ⟨h1,Sem.wp_mono M Γ _ (fun a p s' ⟨q,k⟩=>⟨q,(kd_update hf).trans k⟩) (fun x p s' ⟨q,k⟩=>⟨q,(kd_update hf).trans k⟩) _ _ (ih h2)⟩
  | alloc _ ih =>
    intro Q E p s w
    have k0:∀ (o:Obj),Kd e s.heap (s.heap.push o):=fun o o' q=>⟨o',Heap.get?_push_of_some _ q,rfl,rfl⟩
    exact Sem.wp_mono M Γ _ (fun a p s' ⟨q,k⟩=>⟨q,(k0 _).trans k⟩) (fun x p s' ⟨q,k⟩=>⟨q,(k0 _).trans k⟩) _ _ (ih _ w)
  | register=>intro Q E p s w;exact w.elim
  | stack _ ih=>intro Q E p s w;exact ih _ w
theorem Tame.any {α:Type}{M:Model}{A:Around}{t:Sem α} (h:Tame t) (e:Addr) {Q:α→Shared→Prop}{E:Value→Shared→Prop}{s:Shared} (w:wpAny M A t Q E s) :
    wpAny M A t (fun a s'=>Q a s'∧Kd e s.heap s'.heap) (fun x s'=>E x s'∧Kd e s.heap s'.heap) s:=fun Γ p hΓ=>h.keep e (w Γ p hΓ)
theorem fine_fields (g:Array Value→Array Value):Fine (Obj.mapFields g):=fun o=>by
  obtain ⟨c,d,dt,sl⟩:=o
  cases dt<;>exact ⟨rfl,rfl,rfl⟩
theorem fine_slots (g:Obj→Array (Option Value)):Fine (fun o=>{ o with slots:=g o }):=fun o=>by
  obtain ⟨c,d,dt,sl⟩:=o
  cases dt<;>exact ⟨rfl,rfl,rfl⟩
theorem tame_load (a:Addr):Tame (PySem.load a):=.load fun o=>.pure o
theorem tame_update (a:Addr) {f:Obj→Obj} (h:Fine f):Tame (PySem.update a f):=.update h (.pure ())
theorem tame_fieldsOf (v:Value):Tame (fieldsOf v):=by
  unfold fieldsOf
  cases v<;>first | exact .unsupported _ | skip
  refine Tame.bind (tame_load _) fun o=>?_
  cases o.data<;>first | exact .unsupported _ | exact .pure _
theorem tame_field (v:Value) (i:Nat):Tame (field v i):=by
  unfold field
  refine Tame.bind (tame_fieldsOf v) fun vs=>?_
  split
  · exact .pure _
  · exact .unsupported _
theorem tame_setField (v:Value) (i:Nat) (x:Value):Tame (setField v i x):=by
  unfold setField
  cases v<;>first | exact .unsupported _ | skip
  unfold updateField
  refine Tame.bind (tame_load _) fun o=>?_
  cases o.data<;>first | exact .unsupported _ | skip
  dsimp only
  split
  · exact tame_update _ (fine_fields _)
  · exact .unsupported _
theorem tame_setFlight (e:Value) (f:Option Addr):Tame (setFlight e f):=by
  unfold setFlight
  refine Tame.bind (tame_field _ _) fun tb=>?_
  split
  · exact tame_setField _ _ _
  · exact .pure _
theorem tame_stack:Tame PySem.stack:=.stack fun a=>.pure a
theorem tame_behind (env:Env) (outer:List Env):Tame (behindIsImport env outer):=by
  unfold behindIsImport
  split
  · exact .pure _
  · split
    · exact .pure _
    · exact Tame.bind (tame_field _ _) fun _=>.pure _
theorem tame_kept (env:Env) (b:Bool):∀ l,Tame (keptBack env b l)
  | []=>by
    show Tame (if (env.scope.isGenerator || env.scope.isCoroutine)=true then Pure.pure Value.none else _)
    split
    · exact .pure _
    · refine Tame.bind ?_ fun x=>?_
      · unfold underTheClaimsCaller
        exact Tame.bind tame_stack fun _=>.pure _
      · exact .pure _
  | c::r=>.pure _
theorem tame_ready:∀ l,Tame (readyFrames l)
  | []=>.pure _
  | env::outer=>by
    unfold readyFrames
    split
    · refine Tame.bind (tame_load _) fun o=>?_
      split
      · exact .pure _
      · refine Tame.bind (tame_behind _ _) fun _=>Tame.bind (tame_kept _ _ _) fun _=>Tame.bind (tame_update _ (fine_slots _)) fun _=>tame_ready outer
    · exact .unsupported _
theorem tame_frameObject:∀ l,Tame (frameObject l)
  | []=>.pure _
  | env::outer=>by unfold frameObject;exact Tame.bind (tame_ready _) fun _=>.pure _
theorem tame_frameOf (env:Env):Tame (frameOf env):=by
  unfold frameOf
  refine Tame.bind (Tame.bind tame_stack fun _=>.pure _) fun l=>Tame.bind (tame_frameObject _) fun x=>?_
  split
  · exact .pure _
  · exact .unsupported _
theorem tame_place (f:Addr) (b:Bool):Tame (entryPlaceOf f b):=by
  unfold entryPlaceOf
  refine Tame.bind tame_stack fun a=>?_
  split<;>exact .pure _
theorem tame_entry (a b c d e:Value) (l:List Value):Tame (EntryCells.newEntry a b c d e l):=by
  have al:∀ o:Obj,Tame (do let a ← PySem.alloc o;Pure.pure (Value.ref a)):=fun o=>Tame.bind (.alloc fun a=>.pure a) fun a=>.pure _
  unfold EntryCells.newEntry newFields newObj newObjAsIs
  dsimp only
  generalize (if l.isEmpty=true then List.replicate 6 Value.none else l)=l'
  split
  · exact Tame.bind (.unsupported _) fun _=>al _
  · exact al _
theorem tame_note (e:Value) (env:Env):Tame (noteFrame e env):=by
  unfold noteFrame
  split
  · refine Tame.bind (tame_field _ _) fun head=>?_
    split
    · refine Tame.bind (tame_field _ _) fun x=>?_
      split
      · exact .pure _
      · refine Tame.bind (tame_setField _ _ _) fun _=>Tame.bind (tame_frameOf _) fun _=>Tame.bind (tame_place _ _) fun _=>Tame.bind (tame_entry ..) fun _=>tame_setField _ _ _
    · refine Tame.bind (tame_frameOf _) fun _=>Tame.bind (tame_place _ _) fun _=>Tame.bind (tame_entry ..) fun _=>tame_setField _ _ _
  · exact .unsupported _
open PySem.Spec PyProof.Rows L2
abbrev SV:=L2.St
noncomputable def ExcO (a C:Addr):HO:=.ext fun h=>∃ o vs,h.get? a=some o∧o.cls = .ref C∧o.dict=none∧o.data = .fields vs
mutual
inductive Rp (K:PySem.W.Frag) (cl:Nat→Addr) (Hf:Hp):V→PV→Prop where
  | non:Rp K cl Hf .non .non
  | bl (b:Bool):Rp K cl Hf (.bl b) (.bl b)
  | int (i:Int):Rp K cl Hf (.int i) (.int i)
  | str (x:Str):Rp K cl Hf (.str x) (.str x)
  | tup {a:Addr}{xs:List V}{ps:List PV} (h:SqT K Hf a xs) (r:Rps K cl Hf xs ps):Rp K cl Hf (.ref a) (.tup ps)
  | lst {a:Addr}{xs:List V}{ps:List PV} (h:SqL K Hf a xs) (r:Rps K cl Hf xs ps):Rp K cl Hf (.ref a) (.lst ps)
  | exc {a:Addr}{c:Nat} (h:Hf a=some (ExcO a (cl c))):Rp K cl Hf (.ref a) (.exc c)
  | dic0 {a:Addr} (h:Hf a=some (.dK [])):Rp K cl Hf (.ref a) .dic0
  | ins {a dx:Addr}{c:Nat} (h:Hf a=some (.ins (cl c) dx [])):Rp K cl Hf (.ref a) (.ins c)
inductive Rps (K:PySem.W.Frag) (cl:Nat→Addr) (Hf:Hp):List V→List PV→Prop where
  | nil:Rps K cl Hf [] []
  | cons {v:V}{p:PV}{vs:List V}{ps:List PV} (r:Rp K cl Hf v p) (t:Rps K cl Hf vs ps):Rps K cl Hf (v::vs) (p::ps)
end
section
variable {K:PySem.W.Frag}{cl:Nat→Addr}{Hf Hf':Hp}
theorem Same.seqT {H H':Hp}{a:Addr}{xs:List V} (e:Same H H') (h:SqT K H a xs):SqT K H' a xs:=by
  rcases h with (h | ⟨o,h⟩) | h
  · exact .inl (.inl (e _ _ h))
  · exact .inl (.inr ⟨o,e _ _ h⟩)
  · exact .inr h
mutual
theorem Rp.keep (s:Same Hf Hf'):∀ {v:V}{p:PV},Rp K cl Hf v p→Rp K cl Hf' v p
  | _,_,.non=>.non
  | _,_,.bl b=>.bl b
  | _,_,.int i=>.int i
  | _,_,.str x=>.str x
  | _,_,.tup h r=>.tup (Same.seqT s h) (Rps.keep s r)
  | _,_,.lst h r=>.lst (s.seq h) (Rps.keep s r)
  | _,_,.exc h=>.exc (s _ _ h)
  | _,_,.dic0 h=>.dic0 (s _ _ h)
  | _,_,.ins h=>.ins (s _ _ h)
theorem Rps.keep (s:Same Hf Hf'):∀ {vs:List V}{ps:List PV},Rps K cl Hf vs ps→Rps K cl Hf' vs ps
  | _,_,.nil=>.nil
  | _,_,.cons r t=>.cons (Rp.keep s r) (Rps.keep s t)
end
theorem Rps.length:∀ {vs:List V}{ps:List PV},Rps K cl Hf vs ps→vs.length=ps.length
  | _,_,.nil=>rfl
  | _,_,.cons _ t=>congrArg (·+1) (Rps.length t)
theorem Rps.get:∀ {vs:List V}{ps:List PV}{i:Nat}{p:PV},Rps K cl Hf vs ps→ps[i]?=some p→∃ v,vs[i]?=some v∧Rp K cl Hf v p
  | _,_,_,_,.nil,e=>by simp at e
  | _,_,0,_,.cons r _,e=>by simp at e;subst e;exact ⟨_,rfl,r⟩
  | _,_,i+1,p,.cons _ t,e=>by
    obtain ⟨v,h1,h2⟩:=Rps.get (i:=i) (p:=p) t (by simpa using e)
    exact ⟨v,by simpa using h1,h2⟩
theorem Rps.get':∀ {vs:List V}{ps:List PV}{i:Nat}{v:V},Rps K cl Hf vs ps→vs[i]?=some v→∃ p,ps[i]?=some p∧Rp K cl Hf v p
  | _,_,_,_,.nil,e=>by simp at e
  | _,_,0,_,.cons r _,e=>by simp at e;subst e;exact ⟨_,rfl,r⟩
  | _,_,i+1,v,.cons _ t,e=>by
    obtain ⟨p,h1,h2⟩:=Rps.get' (i:=i) (v:=v) t (by simpa using e)
    exact ⟨p,by simpa using h1,h2⟩
theorem Rps.append:∀ {vs ws:List V}{ps qs:List PV},Rps K cl Hf vs ps→Rps K cl Hf ws qs→Rps K cl Hf (vs ++ ws) (ps ++ qs)
  | _,_,_,_,.nil,s=>s
  | _,_,_,_,.cons r t,s=>.cons r (Rps.append t s)
theorem Rps.take:∀ {vs:List V}{ps:List PV} (n:Nat),Rps K cl Hf vs ps→Rps K cl Hf (vs.take n) (ps.take n)
  | _,_,0,_=>.nil
  | _,_,_+1,.nil=>.nil
  | _,_,n+1,.cons r t=>.cons r (Rps.take n t)
theorem Rps.drop:∀ {vs:List V}{ps:List PV} (n:Nat),Rps K cl Hf vs ps→Rps K cl Hf (vs.drop n) (ps.drop n)
  | _,_,0,r=>r
  | _,_,_+1,.nil=>.nil
  | _,_,n+1,.cons _ t=>Rps.drop n t
theorem Rps.ints:∀ (ns:List Int),Rps K cl Hf (ns.map V.int) (ns.map PV.int)
  | []=>.nil
  | n::r=>.cons (.int n) (Rps.ints r)
end
structure Ext (Hf H Hf' H':Hp):Prop where
  all:Same H H'
  frz:Same Hf Hf'
  sub:Same Hf' H'
  old:∀ b,H b≠none→Hf' b=Hf b
theorem Ext.refl {Hf H:Hp} (s:Same Hf H):Ext Hf H Hf H:=⟨Same.refl _,Same.refl _,s,fun _ _=>rfl⟩
theorem Ext.trans {Hf H Hf1 H1 Hf2 H2:Hp} (a:Ext Hf H Hf1 H1) (b:Ext Hf1 H1 Hf2 H2):Ext Hf H Hf2 H2 :=
  ⟨a.all.trans b.all,a.frz.trans b.frz,b.sub,fun c n=>by
    have n1:H1 c≠none:=by
      cases e:H c with
      | none=>exact absurd e n
      | some o=>rw [a.all c o e];intro z;cases z
    rw [b.old c n1,a.old c n]⟩
theorem same_upd {H:Hp}{p:Addr} (h:H p=none) (o:HO):Same H (upd H p o):=fun b u q=>by rw [upd_ne (ne_of_none q h)];exact q
theorem Ext.new {Hf H:Hp} (s:Same Hf H) {p:Addr} (h:H p=none) (o:HO):Ext Hf H (upd Hf p o) (upd H p o):=by
  have hf:Hf p=none:=s.free h
  refine ⟨same_upd h o,same_upd hf o,fun b u q=>?_,fun b n=>?_⟩
  · by_cases e:b=p
    · subst e;rw [upd_same] at q ⊢;exact q
    · rw [upd_ne e] at q ⊢;exact s b u q
  · rw [upd_ne (fun e=>n (by rw [e];exact h))]
theorem Ext.newH {Hf H:Hp} (s:Same Hf H) {p:Addr} (h:H p=none) (o:HO):Ext Hf H Hf (upd H p o) :=
  ⟨same_upd h o,Same.refl _,fun b u q=>same_upd h o b u (s b u q),fun _ _=>rfl⟩
def Slot (K:PySem.W.Frag) (cl:Nat→Addr) (H0 Hf H:Hp) (v:V):PV→Prop
  | .own ps=>∃ a xs,v = .ref a∧H a=some (.lst xs)∧Hf a=none∧H0 a=none∧Rps K cl Hf xs ps
  | p=>Rp K cl Hf v p
structure Rep (K:PySem.W.Frag) (cl:Nat→Addr) (Hf0 H0 Hf H:Hp) (σ:SV) (ρ:MEnv):Prop where
  ext:Ext Hf0 H0 Hf H
  slot:∀ (i:Nat) (p:PV),ρ[i]?=some (some p)→∃ v,σ[i]?=some (some v)∧Slot K cl H0 Hf H v p
  dist:∀ (i j:Nat) (ps qs:List PV) (a:Addr),ρ[i]?=some (some (.own ps))→ρ[j]?=some (some (.own qs))→σ[i]?=some (some (.ref a))→σ[j]?=some (some (.ref a))→i=j
section
variable {K:PySem.W.Frag}{cl:Nat→Addr}{Hf0 H0 Hf H Hf' H':Hp}{σ:SV}{ρ:MEnv}
theorem Rep.sub (r:Rep K cl Hf0 H0 Hf H σ ρ):Same Hf H:=r.ext.sub
theorem Slot.keep {v:V}{p:PV} (e:Ext Hf H Hf' H') (h:Slot K cl H0 Hf H v p):Slot K cl H0 Hf' H' v p:=by
  cases p with
  | own ps =>
    obtain ⟨a,xs,e1,e2,e3,e4,e5⟩:=h
    exact ⟨a,xs,e1,e.all _ _ e2,by rw [e.old a (by rw [e2];intro z;cases z)];exact e3,e4,e5.keep e.frz⟩
  | _=>exact Rp.keep e.frz h
theorem Rep.keep (r:Rep K cl Hf0 H0 Hf H σ ρ) (e:Ext Hf H Hf' H'):Rep K cl Hf0 H0 Hf' H' σ ρ :=
  ⟨r.ext.trans e,fun i p h=>by
    obtain ⟨v,h1,h2⟩:=r.slot i p h
    exact ⟨v,h1,h2.keep e⟩,r.dist⟩
theorem getV_some:∀ {ρ:MEnv}{i:Nat}{p:PV},getV ρ i = .ok p→ρ[i]?=some (some p)∧∀ l,p≠.own l
  | [],_,_,h=>by simp [getV] at h
  | o::r,0,p,h=>by
    have h':asVal o = .ok p:=h
    cases o with
    | none=>simp [asVal] at h'
    | some q =>
      cases q<;>first
        | (simp [asVal] at h';done)
        | (simp only [asVal] at h';cases h';exact ⟨rfl,fun l z=>by cases z⟩)
  | o::r,i+1,p,h=>by
    obtain ⟨a,b⟩:=getV_some (ρ:=r) (i:=i) (p:=p) h
    exact ⟨by simpa using a,b⟩
theorem getV_noexc:∀ {ρ:MEnv}{i:Nat}{c:Nat},getV ρ i≠.exc c
  | [],_,_,h=>by simp [getV] at h
  | o::r,0,c,h=>by
    have h':asVal o = .exc c:=h
    cases o with
    | none=>simp [asVal] at h'
    | some q=>cases q<;>simp [asVal] at h'
  | o::r,i+1,c,h=>getV_noexc (ρ:=r) (i:=i) (c:=c) h
theorem Rep.var (r:Rep K cl Hf0 H0 Hf H σ ρ) {i:Nat}{p:PV} (h:getV ρ i = .ok p):∃ v,σ[i]?=some (some v)∧Rp K cl Hf v p:=by
  obtain ⟨e,n⟩:=getV_some h
  obtain ⟨v,h1,h2⟩:=r.slot i p e
  refine ⟨v,h1,?_⟩
  cases p with
  | own l=>exact absurd rfl (n l)
  | _=>exact h2
theorem Rep.set (r:Rep K cl Hf0 H0 Hf H σ ρ) (i:Nat) {v:V}{p:PV} (h:Rp K cl Hf v p) (hl:i<σ.length):Rep K cl Hf0 H0 Hf H (σ.set i (some v)) (ρ.set i (some p)):=by
  have np:∀ l,p≠.own l:=fun l z=>by subst z;cases h
  refine ⟨r.ext,fun j q hq=>?_,fun j k ps qs a h1 h2 h3 h4=>?_⟩
  · by_cases e:i=j
    · subst e
      have hi:i<ρ.length:=by
        rw [List.getElem?_set] at hq
        by_cases hh:i<ρ.length
        · exact hh
        · simp [hh] at hq
      rw [List.getElem?_set_self hi] at hq
      cases hq
      refine ⟨v,by rw [List.getElem?_set_self hl],?_⟩
      cases p with
      | own l=>exact absurd rfl (np l)
      | _=>exact h
    · rw [List.getElem?_set_ne e] at hq
      obtain ⟨w,a,b⟩:=r.slot j q hq
      exact ⟨w,by rw [List.getElem?_set_ne e];exact a,b⟩
  · have ne:∀ {m:Nat}{l:List PV},(ρ.set i (some p))[m]?=some (some (.own l))→i≠m:=fun {m l} hm z=>by
      subst z
      have hi:i<ρ.length:=by
        rw [List.getElem?_set] at hm
        by_cases hh:i<ρ.length
        · exact hh
        · simp [hh] at hm
      rw [List.getElem?_set_self hi] at hm
      cases hm
      exact np l rfl
    have n1:=ne h1
    have n2:=ne h2
    rw [List.getElem?_set_ne n1] at h1 h3
    rw [List.getElem?_set_ne n2] at h2 h4
    exact r.dist j k ps qs a h1 h2 h3 h4
theorem Rep.forget (r:Rep K cl Hf0 H0 Hf H σ ρ) (i:Nat) (w:Option V):Rep K cl Hf0 H0 Hf H (σ.set i w) (ρ.set i none):=by
  have ne:∀ {m:Nat}{l:PV},(ρ.set i none)[m]?=some (some l)→i≠m:=fun {m l} hm z=>by
    subst z
    rw [List.getElem?_set] at hm
    by_cases hh:i<ρ.length<;>simp [hh] at hm
  refine ⟨r.ext,fun j q hq=>?_,fun j k ps qs a h1 h2 h3 h4=>?_⟩
  · have e:=ne hq
    rw [List.getElem?_set_ne e] at hq
    obtain ⟨v,a,b⟩:=r.slot j q hq
    exact ⟨v,by rw [List.getElem?_set_ne e];exact a,b⟩
  · have n1:=ne h1
    have n2:=ne h2
    rw [List.getElem?_set_ne n1] at h1 h3
    rw [List.getElem?_set_ne n2] at h2 h4
    exact r.dist j k ps qs a h1 h2 h3 h4
end
def Stands (X:Cx) (pins:List (Addr×Obj)) (H:Hp) (b:Addr):Prop :=
  H b≠none∨(∃ p∈X.pn ++ pins,p.1=b)∨(∃ o,X.s₀.heap.get? b=some o)∨∃ x,X.env.cells.lookup x=some b
def Cov (X:Cx) (pins:List (Addr×Obj)) (H:Hp) (B h:Heap):Prop:=∀ b o,h.get? b=some o→Stands X pins H b→b ∉ frs X.stack→B.get? b=some o
def FreshW (B:Heap) (l:List Env) (e:Addr) (cls a0:Value) (h:Heap):Prop :=
  B.StaysIn h∧B.get? e=none∧h.FunFrames B l∧∃ oe vs,h.get? e=some oe∧oe.cls=cls∧oe.dict=none∧oe.data = .fields vs∧vs[0]?=some a0∧vs[1]?=some .none
def NoD (e:Addr) (h:Heap):Prop:=∃ o,h.get? e=some o∧o.dict=none
def XSt (X:Cx) (pins:List (Addr×Obj)) (H:Hp) (e C:Addr) (h:Heap):Prop :=
  ∃ B a0,Cov X pins H B h∧NoD e h∧(FreshW B X.stack e (.ref C) a0 h∨Heap.HeldW B X.stack e (.ref C) a0 X.env.locals h∨Heap.FlyingW B X.stack e (.ref C) a0 h)
def XAt (X:Cx) (cl:Nat→Addr) (pins:List (Addr×Obj)) (σ:SV) (Hf H:Hp) (c:Nat) (u:Value) (s:Shared):Prop :=
  ∃ e Hf' H',u = .ref e∧Inv X pins σ H' s∧Ext Hf H Hf' H'∧XSt X pins H' e (cl c) s.heap
theorem XAt.from {X:Cx}{cl:Nat→Addr}{pins:List (Addr×Obj)}{σ:SV}{Hf H Hf1 H1:Hp}{c:Nat}{u:Value}{s:Shared} (e:Ext Hf H Hf1 H1) (x:XAt X cl pins σ Hf1 H1 c u s):XAt X cl pins σ Hf H c u s:=by
  obtain ⟨a,Hf',H',h1,h2,h3,h4⟩:=x
  exact ⟨a,Hf',H',h1,h2,e.trans h3,h4⟩
section
variable (X:Cx) (cl:Nat→Addr)
def OkP (pins:List (Addr×Obj)) (σ:SV) (Hf H:Hp) (r:R PV) (u:Value) (s:Shared):Prop :=
  ∃ p v Hf' H',r = .ok p∧Inv X pins σ H' s∧RelV v u∧Ext Hf H Hf' H'∧Rp X.K cl Hf' v p
def ExP {α:Type} (pins:List (Addr×Obj)) (σ:SV) (Hf H:Hp) (r:R α) (u:Value) (s:Shared):Prop :=
  ∃ c,r = .exc c∧XAt X cl pins σ Hf H c u s
def OkT (pins:List (Addr×Obj)) (σ:SV) (Hf H:Hp) (r:R Bool) (b:Bool) (s:Shared):Prop :=
  ∃ Hf' H',r = .ok b∧Inv X pins σ H' s∧Ext Hf H Hf' H'
def OkA (pins:List (Addr×Obj)) (σ:SV) (Hf H:Hp) (r:R (List PV)) (us:List Value) (s:Shared):Prop :=
  ∃ ps vs Hf' H',r = .ok ps∧Inv X pins σ H' s∧Vals vs us∧Ext Hf H Hf' H'∧Rps X.K cl Hf' vs ps
structure ME (e:Expr) (f:FE):Prop where
  run':∀ (pins:List (Addr×Obj)) (s:Shared) (σ:SV) (Hf0 H0 Hf H:Hp) (ρ:MEnv),Inv X pins σ H s→Rep X.K cl Hf0 H0 Hf H σ ρ→f ρ≠.stuck →
    wpAny (model X.prog X.w) X.A (eval e X.env) (OkP X cl pins σ Hf H (f ρ)) (ExP X cl pins σ Hf H (f ρ)) s
instance {e:Expr}{f:FE}:CoeFun (ME X cl e f) fun _=>∀ (pins:List (Addr×Obj)) (s:Shared) (σ:SV) (Hf0 H0 Hf H:Hp) (ρ:MEnv),Inv X pins σ H s→Rep X.K cl Hf0 H0 Hf H σ ρ→f ρ≠.stuck →
    wpAny (model X.prog X.w) X.A (eval e X.env) (OkP X cl pins σ Hf H (f ρ)) (ExP X cl pins σ Hf H (f ρ)) s:=⟨ME.run'⟩
structure MT (e:Expr) (f:FT):Prop where
  run':∀ (pins:List (Addr×Obj)) (s:Shared) (σ:SV) (Hf0 H0 Hf H:Hp) (ρ:MEnv),Inv X pins σ H s→Rep X.K cl Hf0 H0 Hf H σ ρ→f ρ≠.stuck →
    wpAny (model X.prog X.w) X.A (isTrue e X.env (eval e X.env)) (OkT X pins σ Hf H (f ρ)) (ExP X cl pins σ Hf H (f ρ)) s
instance {e:Expr}{f:FT}:CoeFun (MT X cl e f) fun _=>∀ (pins:List (Addr×Obj)) (s:Shared) (σ:SV) (Hf0 H0 Hf H:Hp) (ρ:MEnv),Inv X pins σ H s→Rep X.K cl Hf0 H0 Hf H σ ρ→f ρ≠.stuck →
    wpAny (model X.prog X.w) X.A (isTrue e X.env (eval e X.env)) (OkT X pins σ Hf H (f ρ)) (ExP X cl pins σ Hf H (f ρ)) s:=⟨MT.run'⟩
end
section
variable {X:Cx}{cl:Nat→Addr}{pins:List (Addr×Obj)}{s:Shared}{σ:SV}{Hf0 H0 Hf H Hf1 H1:Hp}{ρ:MEnv}{α:Type}
theorem ME.run {e:Expr}{f:FE} (h:ME X cl e f) (I:Inv X pins σ H1 s) (r:Rep X.K cl Hf0 H0 Hf1 H1 σ ρ) (e0:Ext Hf H Hf1 H1) {k:PV→R α} (hs:(f ρ).bind k≠.stuck) {Q:Value→Shared→Prop}
    (ok:∀ p v u s' Hf' H',(f ρ).bind k=k p→Inv X pins σ H' s'→RelV v u→Ext Hf1 H1 Hf' H'→Rp X.K cl Hf' v p→Q u s') :
    wpAny (model X.prog X.w) X.A (eval e X.env) Q (ExP X cl pins σ Hf H ((f ρ).bind k)) s:=by
  have hf:f ρ≠.stuck:=fun z=>hs (by rw [z];rfl)
  refine wpAny_mono (h pins s σ Hf0 H0 Hf1 H1 ρ I r hf) (fun u s' q=>?_) fun u s' q=>?_
  · obtain ⟨p,v,Hf',H',e1,I',rv,ex,rp⟩:=q
    exact ok p v u s' Hf' H' (by rw [e1];rfl) I' rv ex rp
  · obtain ⟨c,e1,x⟩:=q
    exact ⟨c,by rw [e1];rfl,x.from e0⟩
theorem okp {t:Sem Value}{p:PV}{E:Value→Shared→Prop}
    (h:wpAny (model X.prog X.w) X.A t (EP (X.wish E) pins σ fun v H'=>∃ Hf',Ext Hf H Hf' H'∧Rp X.K cl Hf' v p) E s):wpAny (model X.prog X.w) X.A t (OkP X cl pins σ Hf H (.ok p)) E s :=
  thn h fun u s' ⟨v,H',I',rv,Hf',ex,rp⟩=>⟨p,v,Hf',H',rfl,I'.unwish,rv,ex,rp⟩
theorem OkP.from {e0:Ext Hf H Hf1 H1}{r:R PV}{u:Value}{s':Shared} (h:OkP X cl pins σ Hf1 H1 r u s'):OkP X cl pins σ Hf H r u s':=by
  obtain ⟨p,v,Hf',H',e1,I',rv,ex,rp⟩:=h
  exact ⟨p,v,Hf',H',e1,I',rv,e0.trans ex,rp⟩
theorem ExP.from {e0:Ext Hf H Hf1 H1}{r:R α}{u:Value}{s':Shared} (h:ExP X cl pins σ Hf1 H1 r u s'):ExP X cl pins σ Hf H r u s':=by
  obtain ⟨c,e1,x⟩:=h
  exact ⟨c,e1,x.from e0⟩
theorem me_var {i:Nat}{x:Str}{pos:Pos} (hN:X.N[i]?=some x) (hv:Vis X.env.scope x) (hd:(x == ("__debug__" : Str))=false:=by decide) (hcd:(x == ("__classdict__" : Str))=false:=by decide) :
    ME X cl (.Name x pos) (fVar i):=by
  refine ⟨?_⟩
  intro pins s σ Hf0 H0 Hf H ρ I r hs
  unfold fVar at hs ⊢
  cases e:getV ρ i with
  | stuck=>exact absurd e hs
  | exc c=>exact absurd e getV_noexc
  | ok p =>
    obtain ⟨v,h1,h2⟩:=r.var e
    generalize ExP X cl pins σ Hf H (R.ok p)=E
    refine okp ?_
    refine (pe_var (X:=X.wish E) hN hv hd hcd) pins s σ H _ (I.wish E) ?_
    exact ⟨v,h1,Hf,Ext.refl r.sub,h2⟩
theorem me_const {e:Expr}{v:V}{p:PV} (h:∀ E,PE (X.wish E) e (tC v)) (r:∀ Hf,Rp X.K cl Hf v p):ME X cl e (fC p):=by
  refine ⟨?_⟩
  intro pins s σ Hf0 H0 Hf H ρ I rr hs
  generalize ExP X cl pins σ Hf H (fC p ρ)=E
  refine okp ?_
  refine h E pins s σ H _ (I.wish E) ?_
  exact ⟨Hf,Ext.refl rr.sub,r Hf⟩
theorem me_int {i:Int}{j:Nat}{pos:Pos}:ME X cl (.Constant (.int i) j pos) (fC (.int i)):=me_const (fun _=>pe_int) fun _=>.int i
theorem me_bl {b:Bool}{j:Nat}{pos:Pos}:ME X cl (.Constant (.bool b) j pos) (fC (.bl b)):=me_const (fun _=>pe_bl) fun _=>.bl b
theorem me_non {j:Nat}{pos:Pos}:ME X cl (.Constant .none j pos) (fC .non):=me_const (fun _=>pe_non) fun _=>.non
theorem me_str {x:Str}{j:Nat}{pos:Pos}:ME X cl (.Constant (.str x) j pos) (fC (.str x)):=me_const (fun _=>pe_str) fun _=>.str x
theorem me_glob {x:Str}{v:V}{p:PV}{u:Value}{pos:Pos} (hg:Gl X x) (hm:X.mg x=some u) (rv:RelV v u) (r:∀ Hf,Rp X.K cl Hf v p) (hd:(x == ("__debug__" : Str))=false:=by decide):ME X cl (.Name x pos) (fC p) :=
  me_const (fun _=>pe_glob hg hm rv hd) r
def BinR (X:Cx) (cl:Nat→Addr) (f:Value→Value→Sem Value) (o:PV→PV→R PV):Prop :=
  ∀ (pins:List (Addr×Obj)) (s:Shared) (σ:SV) (Hf H:Hp) (x y:V) (v u:Value) (p q:PV),Inv X pins σ H s→Same Hf H→RelV x v→RelV y u→Rp X.K cl Hf x p→Rp X.K cl Hf y q→o p q≠.stuck →
    wpAny (model X.prog X.w) X.A (f v u) (OkP X cl pins σ Hf H (o p q)) (ExP X cl pins σ Hf H (o p q)) s
theorem two {a b:Expr}{fa fb:FE}{f:Value→Value→Sem Value}{o:PV→PV→R PV} (ha:ME X cl a fa) (hb:ME X cl b fb) (rule:BinR X cl f o) (I:Inv X pins σ H s) (r:Rep X.K cl Hf0 H0 Hf H σ ρ) (hs:fBin o fa fb ρ≠.stuck) :
    wpAny (model X.prog X.w) X.A (eval a X.env) (fun v s₁=>wpAny (model X.prog X.w) X.A (eval b X.env) (fun u s₂=>wpAny (model X.prog X.w) X.A (f v u)
      (OkP X cl pins σ Hf H (fBin o fa fb ρ)) (ExP X cl pins σ Hf H (fBin o fa fb ρ)) s₂) (ExP X cl pins σ Hf H (fBin o fa fb ρ)) s₁) (ExP X cl pins σ Hf H (fBin o fa fb ρ)) s:=by
  unfold fBin at hs ⊢
  refine ha.run I r (Ext.refl r.sub) hs fun p v u s1 Hf1 H1 e1 I1 rv x1 rp=>?_
  rw [e1] at hs ⊢
  refine hb.run I1 (r.keep x1) x1 hs fun q v' u' s2 Hf2 H2 e2 I2 rv' x2 rq=>?_
  rw [e2] at hs ⊢
  exact wpAny_mono (rule pins s2 σ Hf2 H2 v v' u u' p q I2 x2.sub rv rv' (rp.keep x2.frz) rq hs) (fun _ _ h=>h.from (e0:=x1.trans x2)) fun _ _ h=>h.from (e0:=x1.trans x2)
theorem me_bin {a b:Expr}{fa fb:FE}{op:Operator}{o:PV→PV→R PV}{pos:Pos} (rule:BinR X cl (binaryOp op) o) (ha:ME X cl a fa) (hb:ME X cl b fb):ME X cl (.BinOp a op b pos) (fBin o fa fb):=by
  refine ⟨?_⟩
  intro pins s σ Hf0 H0 Hf H ρ I r hs
  exact wpAny_BinOp (two ha hb rule I r hs)
theorem me_cmp {a b:Expr}{fa fb:FE}{op:CmpOp}{o:PV→PV→R PV}{pos:Pos} (rule:BinR X cl (compareOp op) o) (ha:ME X cl a fa) (hb:ME X cl b fb) (hm:behindInMarks op b=false):ME X cl (.Compare a [op] [b] pos) (fBin o fa fb):=by
  refine ⟨?_⟩
  intro pins s σ Hf0 H0 Hf H ρ I r hs
  exact wpAny_Compare1 (two ha hb rule I r hs) hm
def UnaR (X:Cx) (cl:Nat→Addr) (f:Value→Sem Value) (o:PV→R PV):Prop :=
  ∀ (pins:List (Addr×Obj)) (s:Shared) (σ:SV) (Hf H:Hp) (x:V) (v:Value) (p:PV),Inv X pins σ H s→Same Hf H→RelV x v→Rp X.K cl Hf x p→o p≠.stuck →
    wpAny (model X.prog X.w) X.A (f v) (OkP X cl pins σ Hf H (o p)) (ExP X cl pins σ Hf H (o p)) s
theorem me_una {a:Expr}{fa:FE}{op:UnaryOp}{o:PV→R PV}{pos:Pos} (rule:UnaR X cl (unaryOp op) o) (ha:ME X cl a fa):ME X cl (.UnaryOp op a pos) (fUn o fa):=by
  refine ⟨?_⟩
  intro pins s σ Hf0 H0 Hf H ρ I r hs
  unfold fUn at hs ⊢
  refine UnaryOp_ (ha.run I r (Ext.refl r.sub) hs fun p v u s1 Hf1 H1 e1 I1 rv x1 rp=>?_)
  rw [e1] at hs ⊢
  exact wpAny_mono (rule pins s1 σ Hf1 H1 v u p I1 x1.sub rv rp hs) (fun _ _ h=>h.from (e0:=x1)) fun _ _ h=>h.from (e0:=x1)
theorem intR {f:Value→Value→Sem Value}{o:PV→PV→R PV} (C:Int→Int→Prop) (g:Int→Int→Int) (ho:∀ p q,o p q≠.stuck→∃ i j,p = .int i∧q = .int j∧C i j∧o p q = .ok (.int (g i j)))
    (rule:∀ (i j:Int) (t u:Tok) (s:Shared) (Q:Value→Shared→Prop) (E:Value→Shared→Prop),C i j→Q (.int (g i j) s.toks) { s with toks:=s.toks+1 }→wpAny (model X.prog X.w) X.A (f (.int i t) (.int j u)) Q E s):BinR X cl f o:=by
  intro pins s σ Hf H x y v u p q I sm rv ru rp rq hs
  obtain ⟨i,j,rfl,rfl,hc,e⟩:=ho p q hs
  rw [e]
  cases rp;cases rq
  obtain ⟨t,rfl⟩:=rv
  obtain ⟨t',rfl⟩:=ru
  exact rule i j t t' s _ _ hc ⟨_,.int (g i j),Hf,H,rfl,I.tok _,⟨_,rfl⟩,Ext.refl sm,.int _⟩
theorem intB {f:Value→Value→Sem Value}{o:PV→PV→R PV} (g:Int→Int→Bool) (ho:∀ p q,o p q≠.stuck→∃ i j,p = .int i∧q = .int j∧o p q = .ok (.bl (g i j)))
    (rule:∀ (i j:Int) (t u:Tok) (s:Shared) (Q:Value→Shared→Prop) (E:Value→Shared→Prop),Q (.bool (g i j)) s→wpAny (model X.prog X.w) X.A (f (.int i t) (.int j u)) Q E s):BinR X cl f o:=by
  intro pins s σ Hf H x y v u p q I sm rv ru rp rq hs
  obtain ⟨i,j,rfl,rfl,e⟩:=ho p q hs
  rw [e]
  cases rp;cases rq
  obtain ⟨t,rfl⟩:=rv
  obtain ⟨t',rfl⟩:=ru
  exact rule i j t t' s _ _ ⟨_,.bl (g i j),Hf,H,rfl,I,rfl,Ext.refl sm,.bl _⟩
end
theorem two_pow_pos' (k:Nat):(0:Int)<2 ^ k:=Int.pow_pos (by decide)
section
variable {X:Cx}{cl:Nat→Addr}
theorem r_sub:BinR X cl (binaryOp .Sub) oSub:=intR (fun _ _=>True) (fun i j=>i - j)
  (fun p q h=>by cases p<;>cases q<;>first | exact ⟨_,_,rfl,rfl,trivial,rfl⟩ | exact absurd rfl h) fun _ _ _ _ _ _ _ _ q=>sub_int q
theorem ifOk {c:Prop} [Decidable c] {a:PV} (h:(if c then R.ok a else R.stuck)≠.stuck):c∧(if c then R.ok a else R.stuck) = .ok a:=by
  by_cases hc:c
  · exact ⟨hc,if_pos hc⟩
  · rw [if_neg hc] at h;exact absurd rfl h
theorem r_mul:BinR X cl (binaryOp .Mult) oMul:=intR (fun i j=>nb i≤64∨nb j≤64∨nb i+nb j≤bitsMax) (fun i j=>i*j)
  (fun p q h=>by
    cases p<;>cases q<;>first
      | exact absurd rfl h
      | exact ⟨_,_,rfl,rfl,(ifOk h).1,(ifOk h).2⟩) fun i j _ _ _ _ _ hc q=>mul_int q (by
    rcases hc with hc | hc | hc
    · exact .of_left hc
    · exact .of_right hc
    · exact .of_le (Nat.le_refl _) (Nat.le_refl _) hc)
theorem r_mod:BinR X cl (binaryOp .Mod) oMod:=intR (fun _ j=>0<j) (fun i j=>i % j)
  (fun p q h=>by
    cases p<;>cases q<;>first
      | exact absurd rfl h
      | exact ⟨_,_,rfl,rfl,(ifOk h).1,(ifOk h).2⟩) fun i j _ _ _ _ _ hc q=>mod_int' (by omega) (by rw [Int.fmod_eq_emod_of_nonneg i (by omega)];exact q)
theorem log2_of_nb {j:Int}{k:Nat} (h0:j≠0) (h:nb j≤k):j.natAbs.log2<k:=by
  have e:nb j=j.natAbs.log2+1:=by
    show (if j == 0 then 0 else j.natAbs.log2+1)=_
    rw [if_neg (by simpa using h0)]
  omega
theorem r_div:BinR X cl (binaryOp .FloorDiv) oDiv:=intR (fun _ j=>0<j∧nb j≤9000) (fun i j=>i / j)
  (fun p q h=>by
    cases p<;>cases q<;>first
      | exact absurd rfl h
      | exact ⟨_,_,rfl,rfl,(ifOk h).1,(ifOk h).2⟩) fun i j _ _ _ _ _ hc q=>floordiv_int (by omega) (by rw [Int.fdiv_eq_ediv_of_nonneg i (by omega)];exact q)
        (.inl (PyProof.noPylong_of_log2 (log2_of_nb (by omega) hc.2)))
theorem natAbs_of_nb {j:Int}{k:Nat} (h:nb j≤k):j.natAbs<2 ^ k:=PySem.intBits_le_iff.mp h
theorem r_pow:BinR X cl (binaryOp .Pow) oPow:=intR (fun i j=>0≤j∧j≤1000000∧nb i≤64) (fun i j=>i ^ j.toNat)
  (fun p q h=>by
    cases p<;>cases q<;>first
      | exact absurd rfl h
      | exact ⟨_,_,rfl,rfl,(ifOk h).1,(ifOk h).2⟩) fun i j _ _ _ _ _ hc q=>pow_int_small hc.1 hc.2.1 (natAbs_of_nb hc.2.2) q
theorem r_shl:BinR X cl (binaryOp .LShift) oShl:=intR (fun i j=>0≤j∧nb i+j≤134217728) (fun i j=>i*2 ^ j.toNat)
  (fun p q h=>by
    cases p<;>cases q<;>first
      | exact absurd rfl h
      | exact ⟨_,_,rfl,rfl,(ifOk h).1,(ifOk h).2⟩) fun i j _ _ _ _ _ hc q=>lshift_int hc.1 hc.2 q
theorem r_shr:BinR X cl (binaryOp .RShift) oShr:=intR (fun _ j=>0≤j) (fun i j=>i / 2 ^ j.toNat)
  (fun p q h=>by
    cases p<;>cases q<;>first
      | exact absurd rfl h
      | exact ⟨_,_,rfl,rfl,(ifOk h).1,(ifOk h).2⟩) fun i j _ _ _ _ _ hc q=>rshift_int hc (by rw [Int.fdiv_eq_ediv_of_nonneg i (Int.le_of_lt (two_pow_pos' _))];exact q)
theorem r_and:BinR X cl (binaryOp .BitAnd) oAnd:=intR (fun _ _=>True) (fun i j=>Builtin.bitAnd i j)
  (fun p q h=>by cases p<;>cases q<;>first | exact ⟨_,_,rfl,rfl,trivial,rfl⟩ | exact absurd rfl h) fun _ _ _ _ _ _ _ _ q=>and_int q
theorem r_xor:BinR X cl (binaryOp .BitXor) oXor:=intR (fun _ _=>True) (fun i j=>Builtin.bitXor i j)
  (fun p q h=>by cases p<;>cases q<;>first | exact ⟨_,_,rfl,rfl,trivial,rfl⟩ | exact absurd rfl h) fun _ _ _ _ _ _ _ _ q=>xor_int q
theorem r_lt:BinR X cl (compareOp .Lt) cLt:=intB (fun i j=>decide (i<j))
  (fun p q h=>by cases p<;>cases q<;>first | exact ⟨_,_,rfl,rfl,rfl⟩ | exact absurd rfl h) fun _ _ _ _ _ _ _ q=>lt_int q
theorem r_le:BinR X cl (compareOp .LtE) cLe:=intB (fun i j=>decide (i≤j))
  (fun p q h=>by cases p<;>cases q<;>first | exact ⟨_,_,rfl,rfl,rfl⟩ | exact absurd rfl h) fun _ _ _ _ _ _ _ q=>le_int q
theorem r_gt:BinR X cl (compareOp .Gt) cGt:=intB (fun i j=>decide (j<i))
  (fun p q h=>by cases p<;>cases q<;>first | exact ⟨_,_,rfl,rfl,rfl⟩ | exact absurd rfl h) fun _ _ _ _ _ _ _ q=>gt_int q
theorem r_ge:BinR X cl (compareOp .GtE) cGe:=intB (fun i j=>decide (j≤i))
  (fun p q h=>by cases p<;>cases q<;>first | exact ⟨_,_,rfl,rfl,rfl⟩ | exact absurd rfl h) fun _ _ _ _ _ _ _ q=>ge_int q
theorem r_neg:UnaR X cl (unaryOp .USub) oNeg:=by
  intro pins s σ Hf H x v p I sm rv rp hs
  cases p with
  | int i =>
    cases rp
    obtain ⟨t,rfl⟩:=rv
    exact neg_int ⟨_,.int (-i),Hf,H,rfl,I.tok _,⟨_,rfl⟩,Ext.refl sm,.int _⟩
  | _=>exact absurd rfl hs
end
section
variable {X:Cx}{cl:Nat→Addr}{pins:List (Addr×Obj)}{s:Shared}{σ:SV}{Hf0 H0 Hf H Hf1 H1:Hp}{ρ:MEnv}{α:Type}
structure MW (X:Cx) (cl:Nat→Addr) (e:Expr) (f:FT):Prop where
  run':∀ (whole:Sem Value) (pins:List (Addr×Obj)) (s:Shared) (σ:SV) (Hf0 H0 Hf H:Hp) (ρ:MEnv),Inv X pins σ H s→Rep X.K cl Hf0 H0 Hf H σ ρ→f ρ≠.stuck →
    wpAny (model X.prog X.w) X.A (isTrue e X.env whole) (OkT X pins σ Hf H (f ρ)) (ExP X cl pins σ Hf H (f ρ)) s
instance {X:Cx}{cl:Nat→Addr}{e:Expr}{f:FT}:CoeFun (MW X cl e f) fun _=>∀ (whole:Sem Value) (pins:List (Addr×Obj)) (s:Shared) (σ:SV) (Hf0 H0 Hf H:Hp) (ρ:MEnv),Inv X pins σ H s→Rep X.K cl Hf0 H0 Hf H σ ρ→f ρ≠.stuck →
    wpAny (model X.prog X.w) X.A (isTrue e X.env whole) (OkT X pins σ Hf H (f ρ)) (ExP X cl pins σ Hf H (f ρ)) s:=⟨MW.run'⟩
theorem MW.mt {e:Expr}{f:FT} (h:MW X cl e f):MT X cl e f:=⟨h.run' _⟩
theorem MT.run {e:Expr}{f:FT} (h:MT X cl e f) (I:Inv X pins σ H1 s) (r:Rep X.K cl Hf0 H0 Hf1 H1 σ ρ) (e0:Ext Hf H Hf1 H1) {k:Bool→R α} (hs:(f ρ).bind k≠.stuck) {Q:Bool→Shared→Prop}
    (ok:∀ c s' Hf' H',(f ρ).bind k=k c→Inv X pins σ H' s'→Ext Hf1 H1 Hf' H'→Q c s') :
    wpAny (model X.prog X.w) X.A (isTrue e X.env (eval e X.env)) Q (ExP X cl pins σ Hf H ((f ρ).bind k)) s:=by
  have hf:f ρ≠.stuck:=fun z=>hs (by rw [z];rfl)
  refine wpAny_mono (h pins s σ Hf0 H0 Hf1 H1 ρ I r hf) (fun c s' q=>?_) fun u s' q=>?_
  · obtain ⟨Hf',H',e1,I',ex⟩:=q
    exact ok c s' Hf' H' (by rw [e1];rfl) I' ex
  · obtain ⟨c,e1,x⟩:=q
    exact ⟨c,by rw [e1];rfl,x.from e0⟩
theorem OkT.from {e0:Ext Hf H Hf1 H1}{r:R Bool}{b:Bool}{s':Shared} (h:OkT X pins σ Hf1 H1 r b s'):OkT X pins σ Hf H r b s':=by
  obtain ⟨Hf',H',e1,I',ex⟩:=h
  exact ⟨Hf',H',e1,I',e0.trans ex⟩
theorem truth_ok {p:PV}{v:V}{u:Value}{E:Value→Shared→Prop} (I:Inv X pins σ H s) (sm:Same Hf H) (rv:RelV v u) (rp:Rp X.K cl Hf v p) (hs:truthP p≠.stuck) :
    wpAny (model X.prog X.w) X.A (truthy u) (OkT X pins σ Hf H (truthP p)) E s:=by
  cases p with
  | non=>cases rp;cases rv;exact truthy_none ⟨Hf,H,rfl,I,Ext.refl sm⟩
  | bl b=>cases rp;cases rv;exact wpAny_truthy_bool ⟨Hf,H,rfl,I,Ext.refl sm⟩
  | int i=>cases rp;obtain ⟨t,rfl⟩:=rv;exact PySem.P.truthy_int ⟨Hf,H,rfl,I,Ext.refl sm⟩
  | lst l =>
    cases rp with
    | lst h r =>
      cases rv
      obtain ⟨its,w,pl,z⟩:=I.list (sm.seq h)
      have hl:its.length=l.length:=by rw [← w.length,r.length]
      have hz:l.length≤sizeLine:=by rw [← r.length];exact z
      refine wpAny_truthy_list pl.isList (by rw [List.size_toArray,hl];have:sizeLine<2 ^ 63:=by decide
                                             omega) ⟨Hf,H,?_,I.tok _,Ext.refl sm⟩
      show R.ok (!l.isEmpty)=R.ok _
      congr 1
      cases its with
      | nil=>cases l with
        | nil=>rfl
        | cons=>simp at hl
      | cons=>cases l with
        | nil=>simp at hl
        | cons=>simp
  | str z =>
    cases rp;obtain ⟨t,rfl⟩:=rv
    have hs':(if z.length≤sizeLine then R.ok ((z.length:Int) != 0) else R.stuck)≠.stuck:=hs
    have hz:z.length≤sizeLine:=Decidable.byContradiction fun c=>hs' (by rw [if_neg c])
    refine PySem.P.truthy_str (by have:sizeLine<2 ^ 63:=by decide
                                  omega) ⟨Hf,H,?_,I.tok _,Ext.refl sm⟩
    show (if z.length≤sizeLine then R.ok ((z.length:Int) != 0) else R.stuck)=_
    rw [if_pos hz]
  | _=>exact absurd rfl hs
theorem mt_val {e:Expr}{f:FE} (h:ME X cl e f) (he:∀ whole,isTrue e X.env whole=(do let v ← whole;standAt e.pos;holding [v] (truthy v)):=by intro _;rfl):MT X cl e (tVal f):=by
  refine ⟨?_⟩
  intro pins s σ Hf0 H0 Hf H ρ I r hs
  unfold tVal at hs ⊢
  refine isTrue_plain (h.run I r (Ext.refl r.sub) hs fun p v u s1 Hf1 H1 e1 I1 rv x1 rp=>?_) (he _)
  rw [e1] at hs ⊢
  exact thn (truth_ok I1 x1.sub rv rp hs) fun _ _ q=>q.from (e0:=x1)
theorem two_t {a b:Expr}{fa fb:FE}{f:Value→Value→Sem Value}{o:PV→PV→R PV} (ha:ME X cl a fa) (hb:ME X cl b fb) (rule:BinR X cl f o) (I:Inv X pins σ H s) (r:Rep X.K cl Hf0 H0 Hf H σ ρ) (hs:tVal (fBin o fa fb) ρ≠.stuck) :
    wpAny (model X.prog X.w) X.A (eval a X.env) (fun v s₁=>wpAny (model X.prog X.w) X.A (eval b X.env) (fun u s₂=>wpAny (model X.prog X.w) X.A (f v u)
      (fun c s₃=>wpAny (model X.prog X.w) X.A (truthy c) (OkT X pins σ Hf H (tVal (fBin o fa fb) ρ)) (ExP X cl pins σ Hf H (tVal (fBin o fa fb) ρ)) s₃)
      (ExP X cl pins σ Hf H (tVal (fBin o fa fb) ρ)) s₂) (ExP X cl pins σ Hf H (tVal (fBin o fa fb) ρ)) s₁) (ExP X cl pins σ Hf H (tVal (fBin o fa fb) ρ)) s:=by
  unfold tVal at hs ⊢
  have hs':fBin o fa fb ρ≠.stuck:=fun z=>hs (by rw [z];rfl)
  refine wpAny_mono (two ha hb rule I r hs') (fun v s1 h1=>wpAny_mono h1 (fun u s2 h2=>wpAny_mono h2 (fun c s3 h3=>?_) ?_) ?_) ?_
  · obtain ⟨p,v',Hf',H',e1,I',rv,ex,rp⟩:=h3
    rw [e1] at hs ⊢
    exact thn (truth_ok I' ex.sub rv rp hs) fun _ _ q=>q.from (e0:=ex)
  all_goals
    intro u s' q
    obtain ⟨c,e1,x⟩:=q
    exact ⟨c,by rw [e1];rfl,x⟩
theorem mt_cmp {a b:Expr}{fa fb:FE}{op:CmpOp}{o:PV→PV→R PV}{pos:Pos} (rule:BinR X cl (compareOp op) o) (ha:ME X cl a fa) (hb:ME X cl b fb) (hm:behindInMarks op b=false):MT X cl (.Compare a [op] [b] pos) (tVal (fBin o fa fb)):=by
  refine ⟨?_⟩
  intro pins s σ Hf0 H0 Hf H ρ I r hs
  exact wpAny_isTrue_Compare1 (two_t ha hb rule I r hs) hm
theorem mt_not {a:Expr}{f:FT}{pos:Pos} (h:MT X cl a f):MT X cl (.UnaryOp .Not a pos) (tNot f):=by
  refine ⟨?_⟩
  intro pins s σ Hf0 H0 Hf H ρ I r hs
  unfold tNot at hs ⊢
  refine isTrue_not (h.run I r (Ext.refl r.sub) hs fun c s1 Hf1 H1 e1 I1 x1=>?_)
  rw [e1]
  exact ⟨Hf1,H1,rfl,I1,x1⟩
theorem mw_and1 {a:Expr}{f:FT}{pos:Pos} (h:MT X cl a f):MW X cl (.BoolOp .And [a] pos) f:=by
  refine ⟨?_⟩
  intro wh pins s σ Hf0 H0 Hf H ρ I r hs
  refine isTrue_and (thn (h pins s σ Hf0 H0 Hf H ρ I r hs) fun c s1 q=>?_)
  cases c with
  | true=>exact isTrue_and_nil q
  | false=>exact q
theorem mw_or1 {a:Expr}{f:FT}{pos:Pos} (h:MT X cl a f):MW X cl (.BoolOp .Or [a] pos) f:=by
  refine ⟨?_⟩
  intro wh pins s σ Hf0 H0 Hf H ρ I r hs
  refine isTrue_or (thn (h pins s σ Hf0 H0 Hf H ρ I r hs) fun c s1 q=>?_)
  cases c with
  | false=>exact isTrue_or_nil q
  | true=>exact q
theorem mw_and {a b:Expr}{rest:List Expr}{f g:FT}{pos:Pos} (h:MT X cl a f) (hb:MW X cl (.BoolOp .And (b::rest) pos) g):MW X cl (.BoolOp .And (a::b::rest) pos) (tAnd f g):=by
  refine ⟨?_⟩
  intro wh pins s σ Hf0 H0 Hf H ρ I r hs
  unfold tAnd at hs ⊢
  refine isTrue_and (h.run I r (Ext.refl r.sub) hs fun c s1 Hf1 H1 e1 I1 x1=>?_)
  rw [e1] at hs ⊢
  cases c with
  | true=>exact wpAny_mono (hb wh pins s1 σ Hf0 H0 Hf1 H1 ρ I1 (r.keep x1) hs) (fun _ _ q=>q.from (e0:=x1)) fun _ _ q=>q.from (e0:=x1)
  | false=>exact ⟨Hf1,H1,rfl,I1,x1⟩
theorem mw_or {a b:Expr}{rest:List Expr}{f g:FT}{pos:Pos} (h:MT X cl a f) (hb:MW X cl (.BoolOp .Or (b::rest) pos) g):MW X cl (.BoolOp .Or (a::b::rest) pos) (tOr f g):=by
  refine ⟨?_⟩
  intro wh pins s σ Hf0 H0 Hf H ρ I r hs
  unfold tOr at hs ⊢
  refine isTrue_or (h.run I r (Ext.refl r.sub) hs fun c s1 Hf1 H1 e1 I1 x1=>?_)
  rw [e1] at hs ⊢
  cases c with
  | false=>exact wpAny_mono (hb wh pins s1 σ Hf0 H0 Hf1 H1 ρ I1 (r.keep x1) hs) (fun _ _ q=>q.from (e0:=x1)) fun _ _ q=>q.from (e0:=x1)
  | true=>exact ⟨Hf1,H1,rfl,I1,x1⟩
theorem oBool_some {p:PV} (h:oBool p≠.stuck):∃ b,p = .bl b∧oBool p = .ok b:=by
  cases p with
  | bl b=>exact ⟨b,rfl,rfl⟩
  | _=>exact absurd rfl h
theorem me_one {a:Expr}{f:FE}{op:BoolOp}{pos:Pos} (h:ME X cl a f):ME X cl (.BoolOp op [a] pos) f:=⟨fun pins s σ Hf0 H0 Hf H ρ I r hs=>BoolOp_one (h pins s σ Hf0 H0 Hf H ρ I r hs)⟩
theorem me_and {a b:Expr}{rest:List Expr}{f g:FE}{pos:Pos} (h:ME X cl a f) (hb:ME X cl (.BoolOp .And (b::rest) pos) g):ME X cl (.BoolOp .And (a::b::rest) pos) (fAnd f g):=by
  refine ⟨?_⟩
  intro pins s σ Hf0 H0 Hf H ρ I r hs
  unfold fAnd at hs ⊢
  refine BoolOp_and (h.run I r (Ext.refl r.sub) hs fun p v u s1 Hf1 H1 e1 I1 rv x1 rp=>?_)
  rw [e1] at hs ⊢
  obtain ⟨c,rfl,e2⟩:=oBool_some (p:=p) fun z=>hs (by rw [z];rfl)
  rw [e2] at hs ⊢
  cases rp;cases rv
  refine wpAny_truthy_bool ?_
  cases c with
  | true=>exact wpAny_mono (hb pins s1 σ Hf0 H0 Hf1 H1 ρ I1 (r.keep x1) hs) (fun _ _ q=>q.from (e0:=x1)) fun _ _ q=>q.from (e0:=x1)
  | false=>exact ⟨_,.bl false,Hf1,H1,rfl,I1,rfl,x1,.bl false⟩
theorem me_or {a b:Expr}{rest:List Expr}{f g:FE}{pos:Pos} (h:ME X cl a f) (hb:ME X cl (.BoolOp .Or (b::rest) pos) g):ME X cl (.BoolOp .Or (a::b::rest) pos) (fOr f g):=by
  refine ⟨?_⟩
  intro pins s σ Hf0 H0 Hf H ρ I r hs
  unfold fOr at hs ⊢
  refine BoolOp_or (h.run I r (Ext.refl r.sub) hs fun p v u s1 Hf1 H1 e1 I1 rv x1 rp=>?_)
  rw [e1] at hs ⊢
  obtain ⟨c,rfl,e2⟩:=oBool_some (p:=p) fun z=>hs (by rw [z];rfl)
  rw [e2] at hs ⊢
  cases rp;cases rv
  refine wpAny_truthy_bool ?_
  cases c with
  | false=>exact wpAny_mono (hb pins s1 σ Hf0 H0 Hf1 H1 ρ I1 (r.keep x1) hs) (fun _ _ q=>q.from (e0:=x1)) fun _ _ q=>q.from (e0:=x1)
  | true=>exact ⟨_,.bl true,Hf1,H1,rfl,I1,rfl,x1,.bl true⟩
theorem me_not {a:Expr}{f:FE}{pos:Pos} (h:ME X cl a f):ME X cl (.UnaryOp .Not a pos) (fNot f):=by
  refine ⟨?_⟩
  intro pins s σ Hf0 H0 Hf H ρ I r hs
  unfold fNot at hs ⊢
  refine UnaryOp_ (h.run I r (Ext.refl r.sub) hs fun p v u s1 Hf1 H1 e1 I1 rv x1 rp=>?_)
  rw [e1] at hs ⊢
  obtain ⟨c,rfl,e2⟩:=oBool_some (p:=p) fun z=>hs (by rw [z];rfl)
  rw [e2]
  cases rp;cases rv
  exact not_of (wpAny_truthy_bool ⟨_,.bl (!c),Hf1,H1,rfl,I1,rfl,x1,.bl _⟩)
theorem me_if {c a b:Expr}{t:FT}{f g:FE}{pos:Pos} (hc:MT X cl c t) (ha:ME X cl a f) (hb:ME X cl b g):ME X cl (.IfExp c a b pos) (fIf t f g):=by
  refine ⟨?_⟩
  intro pins s σ Hf0 H0 Hf H ρ I r hs
  unfold fIf at hs ⊢
  refine wpAny_IfExp (hc.run I r (Ext.refl r.sub) hs fun d s1 Hf1 H1 e1 I1 x1=>?_)
  rw [e1] at hs ⊢
  cases d with
  | true=>exact wpAny_mono (ha pins s1 σ Hf0 H0 Hf1 H1 ρ I1 (r.keep x1) hs) (fun _ _ q=>q.from (e0:=x1)) fun _ _ q=>q.from (e0:=x1)
  | false=>exact wpAny_mono (hb pins s1 σ Hf0 H0 Hf1 H1 ρ I1 (r.keep x1) hs) (fun _ _ q=>q.from (e0:=x1)) fun _ _ q=>q.from (e0:=x1)
theorem me_chain {a b c:Expr}{fa fb fc:FE}{op op':CmpOp}{o o':PV→PV→R PV}{pos:Pos} (h1:BinR X cl (compareOp op) o) (h2:BinR X cl (compareOp op') o') (ha:ME X cl a fa) (hb:ME X cl b fb) (hc:ME X cl c fc)
    (hm:lastMarks [op,op'] [b,c]=false:=by with_unfolding_all rfl):ME X cl (.Compare a [op,op'] [b,c] pos) (fChain o o' fa fb fc):=by
  refine ⟨?_⟩
  intro pins s σ Hf0 H0 Hf H ρ I r hs
  unfold fChain at hs ⊢
  refine Compare_chain (ha.run I r (Ext.refl r.sub) hs fun p v u s1 Hf1 H1 e1 I1 rv x1 rp=>chain_link ?_) hm
  rw [e1] at hs ⊢
  refine hb.run I1 (r.keep x1) x1 hs fun q v' u' s2 Hf2 H2 e2 I2 rv' x2 rq=>?_
  rw [e2] at hs ⊢
  have x12:=x1.trans x2
  have ho:o p q≠.stuck:=fun z=>hs (by rw [z];rfl)
  refine wpAny_mono (h1 pins s2 σ Hf2 H2 v v' u u' p q I2 x2.sub rv rv' (rp.keep x2.frz) rq ho) (fun d s3 h3=>?_) fun d s3 h3=>?_
  · obtain ⟨z,v3,Hf3,H3,e3,I3,rv3,x3,rp3⟩:=h3
    rw [e3] at hs ⊢
    have hs0:(oBool z).bind (fun k=>if k=true then (fc ρ).bind fun w=>o' q w else R.ok (PV.bl false))≠.stuck:=hs
    obtain ⟨k,rfl,e4⟩:=oBool_some (p:=z) fun y=>hs0 (by rw [y];rfl)
    cases rp3;cases rv3
    refine wpAny_truthy_bool ?_
    have x13:=x12.trans x3
    cases k with
    | false=>exact ite_ff ⟨_,.bl false,Hf3,H3,rfl,I3,rfl,x13,.bl false⟩
    | true =>
      have hs1:(fc ρ).bind (fun w=>o' q w)≠.stuck:=hs
      refine ite_tt (chain_last ?_)
      show wpAny _ _ _ (fun b s₁=>wpAny _ _ _ (OkP X cl pins σ Hf H ((fc ρ).bind fun w=>o' q w)) (ExP X cl pins σ Hf H ((fc ρ).bind fun w=>o' q w)) s₁) (ExP X cl pins σ Hf H ((fc ρ).bind fun w=>o' q w)) s3
      refine hc.run I3 (r.keep x13) x13 hs1 fun w v5 u5 s5 Hf5 H5 e5 I5 rv5 x5 rw'=>?_
      rw [e5] at hs1 ⊢
      exact wpAny_mono (h2 pins s5 σ Hf5 H5 v' v5 u' u5 q w I5 x5.sub rv' rv5 (rq.keep (x3.trans x5).frz) rw' hs1) (fun _ _ q=>q.from (e0:=x13.trans x5)) fun _ _ q=>q.from (e0:=x13.trans x5)
  · obtain ⟨c,e3,y⟩:=h3
    exact ⟨c,by rw [e3];rfl,y.from x12⟩
structure MA (X:Cx) (cl:Nat→Addr) (es:List Expr) (f:FA):Prop where
  len:∀ ρ ps,f ρ = .ok ps→ps.length=es.length
  run':∀ (pos:Pos) (pins:List (Addr×Obj)) (s:Shared) (σ:SV) (Hf0 H0 Hf H:Hp) (ρ:MEnv),Inv X pins σ H s→Rep X.K cl Hf0 H0 Hf H σ ρ→f ρ≠.stuck →
    wpAny (model X.prog X.w) X.A (spliced (backTo pos (starEach es X.env))) (OkA X cl pins σ Hf H (f ρ)) (ExP X cl pins σ Hf H (f ρ)) s
theorem ma_nil:MA X cl [] aNil:=⟨fun _ ps h=>by cases h;rfl,fun pos pins s σ Hf0 H0 Hf H ρ I r _=>Calls.spliced_nil ⟨[],[],Hf,H,rfl,I,.nil,Ext.refl r.sub,.nil⟩⟩
theorem ma_cons {e:Expr}{es:List Expr}{f:FE}{g:FA} (h:ME X cl e f) (hr:MA X cl es g) (hst:starEach (e::es) X.env=(false,eval e X.env)::starEach es X.env:=by rfl):MA X cl (e::es) (aCons f g):=by
  refine ⟨fun ρ ps q=>?_,?_⟩
  · unfold aCons at q
    cases e1:f ρ with
    | stuck=>rw [e1] at q;cases q
    | exc c=>rw [e1] at q;cases q
    | ok p =>
      rw [e1] at q
      cases e2:g ρ with
      | stuck=>rw [R.bind_ok,e2] at q;cases q
      | exc c=>rw [R.bind_ok,e2] at q;cases q
      | ok qs =>
        rw [R.bind_ok,e2] at q
        cases q
        have:=hr.1 ρ qs e2
        rw [List.length_cons,List.length_cons,this]
  intro pos pins s σ Hf0 H0 Hf H ρ I r hs
  unfold aCons at hs ⊢
  rw [hst]
  show wpAny _ _ (spliced ((false,eval e X.env)::backTo pos (starEach es X.env))) _ _ s
  refine Calls.spliced_cons (h.run I r (Ext.refl r.sub) hs fun p v u s1 Hf1 H1 e1 I1 rv x1 rp=>?_)
  rw [e1] at hs ⊢
  have hg:g ρ≠.stuck:=fun z=>hs (by rw [z];rfl)
  refine wpAny_mono (hr.2 pos pins s1 σ Hf0 H0 Hf1 H1 ρ I1 (r.keep x1) hg) (fun us s2 h2=>?_) fun u2 s2 h2=>?_
  · obtain ⟨ps,vs,Hf2,H2,e2,I2,rvs,x2,rps⟩:=h2
    exact ⟨p::ps,v::vs,Hf2,H2,by rw [e2];rfl,I2,.cons rv rvs,x1.trans x2,.cons (rp.keep x2.frz) rps⟩
  · obtain ⟨c,e2,y⟩:=h2
    exact ⟨c,by rw [e2];rfl,y.from x1⟩
theorem MA.run {es:List Expr}{f:FA} (h:MA X cl es f) (pos:Pos) (I:Inv X pins σ H1 s) (r:Rep X.K cl Hf0 H0 Hf1 H1 σ ρ) (e0:Ext Hf H Hf1 H1) {k:List PV→R α} (hs:(f ρ).bind k≠.stuck) {Q:List Value→Shared→Prop}
    (ok:∀ ps vs us s' Hf' H',ps.length=es.length→(f ρ).bind k=k ps→Inv X pins σ H' s'→Vals vs us→Ext Hf1 H1 Hf' H'→Rps X.K cl Hf' vs ps→Q us s') :
    wpAny (model X.prog X.w) X.A (spliced (backTo pos (starEach es X.env))) Q (ExP X cl pins σ Hf H ((f ρ).bind k)) s:=by
  have hf:f ρ≠.stuck:=fun z=>hs (by rw [z];rfl)
  refine wpAny_mono (h.2 pos pins s σ Hf0 H0 Hf1 H1 ρ I r hf) (fun u s' q=>?_) fun u s' q=>?_
  · obtain ⟨ps,vs,Hf',H',e1,I',rv,ex,rp⟩:=q
    exact ok ps vs u s' Hf' H' (h.1 ρ ps e1) (by rw [e1];rfl) I' rv ex rp
  · obtain ⟨c,e1,x⟩:=q
    exact ⟨c,by rw [e1];rfl,x.from e0⟩
theorem laid_seq {o:HO}{p:PV} (hn:H s.heap.objs.size=none) (sm:Same Hf H) {h':Heap}{tk:Nat} (I:Inv X pins σ (upd H s.heap.objs.size o) { s with heap:=h',toks:=tk })
    (rp:Rp X.K cl (upd Hf s.heap.objs.size o) (.ref s.heap.objs.size) p):OkP X cl pins σ Hf H (.ok p) (.ref s.heap.objs.size) { s with heap:=h',toks:=tk } :=
  ⟨p,.ref s.heap.objs.size,_,_,rfl,I,rfl,Ext.new sm hn o,rp⟩
theorem me_tup {es:List Expr}{f:FA}{k:Nat}{pos:Pos} (h:MA X cl es f):ME X cl (.Tuple es k pos) (fTup f):=by
  refine ⟨?_⟩
  intro pins s σ Hf0 H0 Hf H ρ I r hs
  unfold fTup at hs ⊢
  refine wpAny_Tuple_spliced (h.run pos I r (Ext.refl r.sub) hs fun ps vs us s1 Hf1 H1 _ e1 I1 rv x1 rps=>?_)
  rw [e1] at hs ⊢
  obtain ⟨hz,e2⟩:=ifOk hs
  rw [e2]
  have z:vs.length≤sizeLine:=by rw [rps.length];exact hz
  refine ⟨by rw [← rv.length];exact z,?_⟩
  have hf:H1 s1.heap.objs.size=none:=I1.hok.fresh (Nat.le_refl _)
  refine OkP.from (e0:=x1) (laid_seq (tk:=s1.toks) hf x1.sub (I1.laid (t':=s1.toks) (o:=.tup vs) (fun b u e=>Heap.get?_push_of_some _ e) (Nat.le_refl _) ?_) (.tup (SqT.of upd_same) (rps.keep (same_upd (x1.sub.free hf) _))))
  exact ⟨z,us,rv,⟨_,Heap.get?_push_size _ rfl,rfl,_,rfl⟩⟩
theorem me_lst {es:List Expr}{f:FA}{pos:Pos} (h:MA X cl es f):ME X cl (.List es pos) (fLst f):=by
  refine ⟨?_⟩
  intro pins s σ Hf0 H0 Hf H ρ I r hs
  unfold fLst at hs ⊢
  refine wpAny_List_spliced (h.run pos I r (Ext.refl r.sub) hs fun ps vs us s1 Hf1 H1 _ e1 I1 rv x1 rps=>?_)
  rw [e1] at hs ⊢
  obtain ⟨hz,e2⟩:=ifOk hs
  rw [e2]
  have z:vs.length≤sizeLine:=by rw [rps.length];exact hz
  refine ⟨by rw [← rv.length];exact z,?_⟩
  have hf:H1 s1.heap.objs.size=none:=I1.hok.fresh (Nat.le_refl _)
  refine OkP.from (e0:=x1) (laid_seq (tk:=s1.toks) hf x1.sub (I1.laid (t':=s1.toks) (o:=.lst vs) (fun b u e=>Heap.get?_push_of_some _ e) (Nat.le_refl _) ?_) (.lst (SqL.of upd_same) (rps.keep (same_upd (x1.sub.free hf) _))))
  exact ⟨z,us,0,rv,Heap.get?_push_size _ rfl⟩
def CXm (cl:Nat→Addr) (P:Program) (w:World):CXT:=fun outer H s E e s' =>
  ∃ (a:Addr) (c:Nat) (H':Hp) (B:Heap) (a0:Value),e = .ref a∧s'.os=s.os∧AllBare s'.gens∧Un (frs outer) [] H H' s.heap s'.heap∧HOk P w H' s'.heap∧Heap.FlyingW B outer a (.ref (cl c)) a0 s'.heap ∧
    (∀ b o,s'.heap.get? b=some o→(H' b≠none∨∃ o₀,s.heap.get? b=some o₀)→b ∉ frs outer→B.get? b=some o)∧NoD a s'.heap∧E (.ref (cl c)) none H'
def spF (K:PySem.W.Frag) (cl:Nat→Addr) (n:Nat) (F:List PV→R PV):Sp:=fun vs H Q E=>vs.length=n∧∃ Hf ps,Same Hf H∧Rps K cl Hf vs ps∧F ps≠.stuck ∧
  (∀ p v Hf' H',F ps = .ok p→Ext Hf H Hf' H'→Rp K cl Hf' v p→Q v H')∧∀ c Hf' H',F ps = .exc c→Ext Hf H Hf' H'→E (.ref (cl c)) none H'
structure Fn (X:Cx) (cl:Nat→Addr) (k:Nat) (x:Str) (n:Nat) (F:List PV→R PV):Prop where
  ex:∃ (f:Addr) (fd:FuncData) (ps:List Str),X.mg x=some (.ref f)∧PySem.W.keepIn X.K (.ref f)=true∧ps.length=n∧FnOk X.prog X.w X.K X.mg X.base (CXm cl X.prog X.w) k f fd ps (spF X.K cl n F)∧Binds X.K fd ps []
theorem xat_of {e:Value}{s':Shared}{ps:List PV}{F:List PV→R PV} (I:Inv X pins σ H s) (sm:Same Hf H) (hst:X.stack=X.env::X.outer)
    (h:CXm cl X.prog X.w X.stack H s (fun u o H'=>∃ c Hf',F ps = .exc c∧Ext Hf H Hf' H'∧u = .ref (cl c)) e s') (inj:∀ c d,cl c=cl d→c=d) (hex:∀ b,b ∉ X.ex):ExP X cl pins σ Hf H (F ps) e s':=by
  obtain ⟨a,c,H',B,a0,rfl,ho,hg,un,hok,fl,cov,nd,c',Hf',e1,ex,e2⟩:=h
  have ec:c'=c:=inj _ _ (by injection e2 with e2;exact e2.symm)
  subst ec
  refine ⟨c',e1,a,Hf',H',rfl,I.call' ho un hok hg (fun b z=>absurd z (by simp)),ex,B,a0,?_,nd,.inr (.inr fl)⟩
  intro b o hb hc hn
  refine cov b o hb ?_ hn
  rcases hc with hc | ⟨p,hp,e⟩ | ⟨o₀,hc⟩ | ⟨x,hc⟩
  · exact .inl hc
  · right
    rw [← e]
    exact ⟨_,(I.pin p hp).1⟩
  · right
    by_cases hx:b∈X.ex
    · exact absurd hx (hex b)
    · exact I.base.there b o₀ hc hx
  · right
    obtain ⟨v,o',q,_⟩:=I.cell x b hc
    exact ⟨o',q⟩
theorem me_call {e:Expr}{es:List Expr}{g:FA}{x:Str}{p pos:Pos}{k n:Nat}{F:List PV→R PV} (hF:Fn X cl k x n F) (hr:Room k X.A) (hg:Gl X x) (hst:X.stack=X.env::X.outer) (inj:∀ c d,cl c=cl d→c=d) (hex:∀ b,b ∉ X.ex)
    (ha:MA X cl (e::es) g) (hl:(e::es).length=n) (hdb:(x == ("__debug__" : Str))=false:=by decide) (he:starEach (e::es) X.env=(false,eval e X.env)::starEach es X.env:=by rfl) (hpl:(backTo pos (starEach es X.env)).any (·.1)=false:=by rfl) :
    ME X cl (.Call (.Name x p) (e::es) [] pos) (fCall F g):=by
  obtain ⟨f,fd,ps,hm,hk,hn,hf,hb⟩:=hF.ex
  refine ⟨?_⟩
  intro pins s σ Hf0 H0 Hf H ρ I r hs
  unfold fCall at hs ⊢
  refine wpAny_Call_Name_kw (ld_glob I hg hm ?_ hdb)
  refine PySem.W.callWith_K (h₀:=X.base) I.ok.mod.kin hk (ha.run pos I r (Ext.refl r.sub) hs fun qs vs us s1 Hf1 H1 hq e1 I1 rv x1 rps=>⟨I1.kIn,?_⟩) he hpl
  rw [e1] at hs ⊢
  have hv:vs.length=n:=by rw [rps.length,hq,hl]
  have hsp:spF X.K cl n F vs H1 (fun v H'=>∃ p Hf',F qs = .ok p∧Ext Hf1 H1 Hf' H'∧Rp X.K cl Hf' v p) (fun u o H'=>∃ c Hf',F qs = .exc c∧Ext Hf1 H1 Hf' H'∧u = .ref (cl c)) :=
    ⟨hv,Hf1,qs,x1.sub,rps,hs,fun p v Hf' H' a b c=>⟨p,Hf',a,b,c⟩,fun c Hf' H' a b=>⟨c,Hf',a,b,rfl⟩⟩
  have hlu:(us ++ []).length=ps.length:=by rw [List.append_nil,← rv.length,hv,hn]
  have hbb:=hb s1 us I1.kIn hlu
  rw [List.append_nil] at hbb
  refine wpAny_call (codeAny_mono (hf.run X.A X.stack s1 H1 ⟨us,[]⟩ us vs _ _ hr I1.env0 hbb rv hsp) fun r s' hq'=>?_)
  cases r with
  | error e=>exact ExP.from (e0:=x1) (xat_of I1 x1.sub hst hq' inj hex)
  | ok fl =>
    cases fl with
    | ret u =>
      obtain ⟨v,H',I',rv',p,Hf',e2,ex,rp⟩:=I1.after hq'
      exact ⟨p,v,Hf',H',e2,I',rv',x1.trans ex,rp⟩
    | next=>exact False.elim hq'
    | brk=>exact False.elim hq'
    | cont=>exact False.elim hq'
def CalR (X:Cx) (cl:Nat→Addr) (f:Value) (F:List PV→R PV):Prop :=
  ∀ (pins:List (Addr×Obj)) (s:Shared) (σ:SV) (Hf H:Hp) (xs:List V) (us:List Value) (ps:List PV),Inv X pins σ H s→Same Hf H→Vals xs us→Rps X.K cl Hf xs ps→F ps≠.stuck →
    wpAny (model X.prog X.w) X.A (call f us) (OkP X cl pins σ Hf H (F ps)) (ExP X cl pins σ Hf H (F ps)) s
theorem me_callB {x:Str}{id:String}{e:Expr}{es:List Expr}{g:FA}{p pos:Pos}{F:List PV→R PV} (hc:CalR X cl (.builtin id) F) (hg:Gl X x) (hm:X.mg x=none) (hv:bootBuiltins x=some (.builtin id)) (ha:MA X cl (e::es) g)
    (hn:x≠"__name__":=by decide) (hdb:(x == ("__debug__" : Str))=false:=by decide) (he:starEach (e::es) X.env=(false,eval e X.env)::starEach es X.env:=by rfl) (hpl:(backTo pos (starEach es X.env)).any (·.1)=false:=by rfl) :
    ME X cl (.Call (.Name x p) (e::es) [] pos) (fCall F g):=by
  refine ⟨?_⟩
  intro pins s σ Hf0 H0 Hf H ρ I r hs
  unfold fCall at hs ⊢
  refine wpAny_Call_Name_kw (ld_blt I hg hm hv ?_ hn hdb)
  refine PyProof.Rows.callWith_builtin1 (ha.run pos I r (Ext.refl r.sub) hs fun qs vs us s1 Hf1 H1 _ e1 I1 rv x1 rps=>?_) he hpl
  rw [e1] at hs ⊢
  exact wpAny_mono (hc pins s1 σ Hf1 H1 vs us qs I1 x1.sub rv rps hs) (fun _ _ q=>q.from (e0:=x1)) fun _ _ q=>q.from (e0:=x1)
theorem me_callTy {x:Str}{T:String}{e:Expr}{es:List Expr}{g:FA}{p pos:Pos}{F:List PV→R PV} (hc:CalR X cl (.type T) F) (hg:Gl X x) (hm:X.mg x=none) (hv:bootBuiltins x=some (.type T)) (ha:MA X cl (e::es) g)
    (hn:x≠"__name__":=by decide) (hdb:(x == ("__debug__" : Str))=false:=by decide) (he:starEach (e::es) X.env=(false,eval e X.env)::starEach es X.env:=by rfl) (hpl:(backTo pos (starEach es X.env)).any (·.1)=false:=by rfl) :
    ME X cl (.Call (.Name x p) (e::es) [] pos) (fCall F g):=by
  refine ⟨?_⟩
  intro pins s σ Hf0 H0 Hf H ρ I r hs
  unfold fCall at hs ⊢
  refine wpAny_Call_Name_kw (ld_blt I hg hm hv ?_ hn hdb)
  refine PyProof.Rows.callWith_type1 (ha.run pos I r (Ext.refl r.sub) hs fun qs vs us s1 Hf1 H1 _ e1 I1 rv x1 rps=>?_) he hpl
  rw [e1] at hs ⊢
  exact wpAny_mono (hc pins s1 σ Hf1 H1 vs us qs I1 x1.sub rv rps hs) (fun _ _ q=>q.from (e0:=x1)) fun _ _ q=>q.from (e0:=x1)
theorem okp' {t:Sem Value}{p:PV}{E:Value→Shared→Prop}{rr:R PV} (hr:rr = .ok p)
    (h:∀ E,wpAny (model X.prog X.w) X.A t (EP (X.wish E) pins σ fun v H'=>∃ Hf',Ext Hf H Hf' H'∧Rp X.K cl Hf' v p) E s):wpAny (model X.prog X.w) X.A t (OkP X cl pins σ Hf H rr) E s:=by
  rw [hr];exact okp (h E)
theorem rps1' {p:PV}{vs:List V}{K:PySem.W.Frag} (h:Rps K cl Hf vs [p]):∃ v,vs=[v]∧Rp K cl Hf v p:=by
  cases h with
  | cons r t=>cases t;exact ⟨_,rfl,r⟩
theorem rps2' {p q:PV}{vs:List V}{K:PySem.W.Frag} (h:Rps K cl Hf vs [p,q]):∃ v w,vs=[v,w]∧Rp K cl Hf v p∧Rp K cl Hf w q:=by
  cases h with
  | cons r t =>
    cases t with
    | cons r' t'=>cases t';exact ⟨_,_,rfl,r,r'⟩
theorem c_len:CalR X cl (.builtin "len") bLen:=by
  intro pins s σ Hf H xs us ps I sm rv rps hs
  match ps,rps,hs with
  | [.tup l],rps,hs =>
    obtain ⟨v,rfl,rp⟩:=rps1' rps
    cases rp with
    | tup h r =>
      refine okp' (p:=.int l.length) rfl fun E=>(call_len_seq (X:=X.wish E)) pins s σ H _ us _ (I.wish E) rv ?_
      exact ⟨_,_,rfl,.inr (Same.seqT sm h),Hf,Ext.refl sm,by rw [r.length];exact .int _⟩
  | [.lst l],rps,hs =>
    obtain ⟨v,rfl,rp⟩:=rps1' rps
    cases rp with
    | lst h r =>
      refine okp' (p:=.int l.length) rfl fun E=>(call_len_seq (X:=X.wish E)) pins s σ H _ us _ (I.wish E) rv ?_
      exact ⟨_,_,rfl,.inl (sm.seq h),Hf,Ext.refl sm,by rw [r.length];exact .int _⟩
  | [.str z],rps,hs =>
    obtain ⟨v,rfl,rp⟩:=rps1' rps
    cases rp
    obtain ⟨hz,e⟩:=ifOk hs
    refine okp' (p:=.int z.length) e fun E=>(call_len_str (X:=X.wish E)) pins s σ H _ us _ (I.wish E) rv ?_
    exact ⟨_,rfl,hz,Hf,Ext.refl sm,.int _⟩
  | [],_,hs=>exact absurd rfl hs
  | [.non],_,hs=>exact absurd rfl hs
  | [.bl _],_,hs=>exact absurd rfl hs
  | [.int _],_,hs=>exact absurd rfl hs
  | [.exc _],_,hs=>exact absurd rfl hs
  | [.dic0],_,hs=>exact absurd rfl hs
  | [.own _],_,hs=>exact absurd rfl hs
  | _::_::_,_,hs=>exact absurd (by unfold bLen;split<;>first | rfl | (rename_i h;cases h)) hs
theorem c_abs:CalR X cl (.builtin "abs") bAbs:=by
  intro pins s σ Hf H xs us ps I sm rv rps hs
  have:∃ i,ps=[.int i]:=by
    unfold bAbs at hs
    split at hs
    · exact ⟨_,rfl⟩
    · exact absurd rfl hs
  obtain ⟨i,rfl⟩:=this
  obtain ⟨v,rfl,rp⟩:=rps1' rps
  cases rp
  refine okp' rfl fun E=>(call_abs (X:=X.wish E)) pins s σ H _ us _ (I.wish E) rv ?_
  exact ⟨i,rfl,Hf,Ext.refl sm,.int _⟩
theorem c_min (hc:X.calm=true):CalR X cl (.builtin "min") bMin:=by
  intro pins s σ Hf H xs us ps I sm rv rps hs
  have:∃ i j,ps=[.int i,.int j]:=by
    unfold bMin at hs
    split at hs
    · exact ⟨_,_,rfl⟩
    · exact absurd rfl hs
  obtain ⟨i,j,rfl⟩:=this
  obtain ⟨v,w,rfl,rp,rq⟩:=rps2' rps
  cases rp;cases rq
  refine okp' rfl fun E=>(call_min2 (X:=X.wish E) hc) pins s σ H _ us _ (I.wish E) rv ?_
  exact ⟨i,j,rfl,Hf,Ext.refl sm,.int _⟩
theorem c_max (hc:X.calm=true):CalR X cl (.builtin "max") bMax:=by
  intro pins s σ Hf H xs us ps I sm rv rps hs
  have:∃ i j,ps=[.int i,.int j]:=by
    unfold bMax at hs
    split at hs
    · exact ⟨_,_,rfl⟩
    · exact absurd rfl hs
  obtain ⟨i,j,rfl⟩:=this
  obtain ⟨v,w,rfl,rp,rq⟩:=rps2' rps
  cases rp;cases rq
  refine okp' rfl fun E=>(call_max2 (X:=X.wish E) hc) pins s σ H _ us _ (I.wish E) rv ?_
  exact ⟨i,j,rfl,Hf,Ext.refl sm,.int _⟩
theorem c_int:CalR X cl (.type "int") bInt:=by
  intro pins s σ Hf H xs us ps I sm rv rps hs
  have:(∃ i,ps=[.int i])∨∃ k,ps=[.bl k]:=by
    unfold bInt at hs
    split at hs
    · exact .inl ⟨_,rfl⟩
    · exact .inr ⟨_,rfl⟩
    · exact absurd rfl hs
  rcases this with ⟨i,rfl⟩ | ⟨k,rfl⟩
  · obtain ⟨v,rfl,rp⟩:=rps1' rps
    cases rp
    refine okp' rfl fun E=>(call_int1 (X:=X.wish E)) pins s σ H _ us _ (I.wish E) rv ?_
    exact .inl ⟨i,rfl,Hf,Ext.refl sm,.int _⟩
  · obtain ⟨v,rfl,rp⟩:=rps1' rps
    cases rp
    refine okp' rfl fun E=>(call_int1 (X:=X.wish E)) pins s σ H _ us _ (I.wish E) rv ?_
    exact .inr ⟨k,rfl,Hf,Ext.refl sm,.int _⟩
theorem c_list:CalR X cl (.type "list") bList:=by
  intro pins s σ Hf H xs us ps I sm rv rps hs
  have:(∃ l,ps=[.tup l])∨∃ l,ps=[.lst l]:=by
    unfold bList at hs
    split at hs
    · exact .inl ⟨_,rfl⟩
    · exact .inr ⟨_,rfl⟩
    · exact absurd rfl hs
  rcases this with ⟨l,rfl⟩ | ⟨l,rfl⟩
  · obtain ⟨v,rfl,rp⟩:=rps1' rps
    cases rp with
    | tup h r =>
      refine okp' rfl fun E=>(call_list_of (X:=X.wish E)) pins s σ H _ us _ (I.wish E) rv ?_
      exact ⟨_,_,rfl,.inr (Same.seqT sm h),fun q hq=>⟨_,Ext.new sm hq _,.lst (SqL.of upd_same) (r.keep (same_upd (sm.free hq) _))⟩⟩
  · obtain ⟨v,rfl,rp⟩:=rps1' rps
    cases rp with
    | lst h r =>
      refine okp' rfl fun E=>(call_list_of (X:=X.wish E)) pins s σ H _ us _ (I.wish E) rv ?_
      exact ⟨_,_,rfl,.inl (sm.seq h),fun q hq=>⟨_,Ext.new sm hq _,.lst (SqL.of upd_same) (r.keep (same_upd (sm.free hq) _))⟩⟩
theorem r_add:BinR X cl (binaryOp .Add) oAdd:=by
  intro pins s σ Hf H x y v u p q I sm rv ru rp rq hs
  cases p<;>cases q<;>first
    | exact absurd rfl hs
    | skip
  · rename_i i j
    cases rp;cases rq
    obtain ⟨t,rfl⟩:=rv
    obtain ⟨t',rfl⟩:=ru
    exact add_int ⟨_,.int (i+j),Hf,H,rfl,I.tok _,⟨_,rfl⟩,Ext.refl sm,.int _⟩
  · rename_i i j
    obtain ⟨hz,e⟩:=ifOk hs
    cases rp;cases rq
    refine okp' e fun E=>(op_add_str (X:=X.wish E)) pins s σ H _ _ v u _ (I.wish E) rv ru ?_
    exact ⟨i,j,rfl,rfl,hz,Hf,Ext.refl sm,.str _⟩
  · rename_i i j
    obtain ⟨⟨⟨hz1,hz2⟩,hz⟩,e⟩:=ifOk hs
    cases rp with
    | tup h1 r1 =>
      cases rq with
      | tup h2 r2 =>
        cases rv;cases ru
        obtain ⟨its,w1,p1,z1⟩:=I.tuple (Same.seqT sm h1)
        obtain ⟨its2,w2,p2,z2⟩:=I.tuple (Same.seqT sm h2)
        have l1:=w1.length
        have l2:=w2.length
        have l3:=r1.length
        have l4:=r2.length
        rw [show oAdd (.tup i) (.tup j)=_ from e]
        refine HT.cat_tup p1 p2 (fun q=>by rw [q] at l1;simp only [List.length_nil] at l1;omega) (fun q=>by rw [q] at l2;simp only [List.length_nil] at l2;omega) (fun _=>?_) (by omega)
        exact laid_seq (tk:=s.toks) I.fresh sm (I.laid (t':=s.toks) (o:=.tup _) (fun b u e=>Heap.get?_push_of_some _ e) (Nat.le_refl _) ⟨by rw [List.length_append];omega,its ++ its2,w1.append w2,⟨_,Heap.get?_push_size _ rfl,rfl,0,rfl⟩⟩) (.tup (SqT.of upd_same) ((r1.append r2).keep (same_upd (sm.free I.fresh) _)))
  · rename_i i j
    obtain ⟨hz,e⟩:=ifOk hs
    cases rp with
    | lst h1 r1 =>
      cases rq with
      | lst h2 r2 =>
        cases rv;cases ru
        obtain ⟨its,w1,p1,z1⟩:=I.list (sm.seq h1)
        obtain ⟨its2,w2,p2,z2⟩:=I.list (sm.seq h2)
        have l1:=w1.length
        have l2:=w2.length
        have l3:=r1.length
        have l4:=r2.length
        have e0:its.toArray ++ its2.toArray=(its ++ its2).toArray:=by simp
        obtain ⟨⟨cls,dd,data,sl⟩,ho,hc,n,hd⟩:=id p1.isList
        obtain ⟨⟨cls2,dd2,data2,sl2⟩,ho2,hc2,n2,hd2⟩:=id p2.isList
        simp only at hc hd hc2 hd2
        subst hc hd hc2 hd2
        rw [show oAdd (.lst i) (.lst j)=_ from e]
        refine concat_meets ⟨_,ho,rfl⟩ ⟨_,ho2,rfl⟩ noFill_list_add seq_list_add PySem.F.slot_list_add PySem.F.entry_list_add (PySem.F.args_list_add_2 _ _) (list_addW _ _ its.toArray its2.toArray n n2 dd dd2 sl sl2 (by simp only [List.size_toArray];omega)) ⟨ho,ho2,?_⟩
        rw [e0]
        exact laid_seq (tk:=s.toks) I.fresh sm (I.lnew (t':=s.toks) (w1.append w2) (by rw [List.length_append];omega)) (.lst (SqL.of upd_same) ((r1.append r2).keep (same_upd (sm.free I.fresh) _)))
theorem z8h {a:Expr}{fa:FE}{j:Nat}{pos pos':Pos} (ha:ME X cl a fa):MT X cl (.Compare a [.IsNot] [.Constant .none j pos'] pos) (tVal (fUn cNotN fa)):=by
  refine ⟨?_⟩
  intro pins s σ Hf0 H0 Hf H ρ I r hs
  have assoc:∀ {β γ δ:Type} (x:R β) (f:β→R γ) (g:γ→R δ),(x.bind f).bind g=x.bind fun y=>(f y).bind g:=fun x f g=>by cases x<;>rfl
  unfold tVal fUn at hs ⊢
  rw [assoc] at hs ⊢
  refine wpAny_isTrue_Compare1 (ha.run I r (Ext.refl r.sub) hs fun p v u s1 Hf1 H1 e1 I1 rv x1 rp=>?_) (nobehind _ (by decide) (by decide))
  rw [e1]
  refine Constant_none (isnot_none_gen (wpAny_truthy_bool ⟨Hf1,H1,?_,I1,x1⟩))
  rw [rv.none_iff]
  cases rp<;>rfl
theorem flat_of {K:PySem.W.Frag}{v:V}{p:PV} (h:Rp K cl Hf v p) (f:flatP p=true):flatV v=true:=by
  cases h<;>first | rfl | (simp [flatP] at f)
theorem eqV_of {K:PySem.W.Frag}{v w:V}{p q:PV} (h:Rp K cl Hf v p) (h':Rp K cl Hf w q) (f:flatP p=true) (g:flatP q=true):eqV v w=eqPV p q:=by
  cases h<;>cases h'<;>first | rfl | (simp [flatP] at f;done) | (simp [flatP] at g;done)
theorem any_of {K:PySem.W.Frag}{w:V}{q:PV} (h':Rp K cl Hf w q) (g:flatP q=true):∀ {vs:List V}{ps:List PV},Rps K cl Hf vs ps→ps.all flatP=true→vs.all flatV=true∧(vs.any fun y=>eqV y w)=ps.any fun z=>eqPV z q
  | _,_,.nil,_=>⟨rfl,rfl⟩
  | _,_,.cons r t,f=>by
    rw [List.all_cons,Bool.and_eq_true] at f
    obtain ⟨a,b⟩:=any_of h' g t f.2
    exact ⟨by rw [List.all_cons,flat_of r f.1,a];rfl,by rw [List.any_cons,List.any_cons,eqV_of r h' f.1 g,b]⟩
theorem str_no_dict (b:Str) (u:Tok) (l:Addr) (o:Obj) {es:Array DictEntry}{ep:Nat} (hc:o.cls = .type "dict") (hd:o.data = .dict es ep):Meets (Builtin.«str.__eq__» ⟨[.str b u,.ref l],[]⟩) (fun _ R s=>s.heap.get? l=some o∧R (.ok (.ret .notImplemented)) s):=by
  refine .of_wp fun prog w A R s h=>?_
  obtain ⟨hp,g,d,tk,os⟩:=s
  obtain ⟨hl,h⟩:=h
  obtain ⟨c,dd,dt,sl⟩:=o
  cases hc
  cases hd
  have f1:=F.sub_dict_str
  wp_walk using wpAny_loadPart' hl,wpAny_load hl
  exact ⟨_,rfl,h⟩
theorem dict_no_str (b:Str) (u:Tok) (l:Addr) (o:Obj) (hc:o.cls = .type "dict"):Meets (Builtin.«dict.__eq__» ⟨[.ref l,.str b u],[]⟩) (fun _ R s=>s.heap.get? l=some o∧R (.ok (.ret .notImplemented)) s):=by
  refine .of_wp fun prog w A R s h=>?_
  obtain ⟨hp,g,d,tk,os⟩:=s
  obtain ⟨hl,h⟩:=h
  obtain ⟨c,dd,dt,sl⟩:=o
  cases hc
  have f1:=F.sub_str_dict
  wp_walk using wpAny_loadPart' hl,wpAny_load hl
  exact ⟨_,rfl,h⟩
theorem str_dict_at {A:Around}{b:Str}{u:Tok}{l:Addr}{o:Obj}{es:Array DictEntry}{ep:Nat} (hl:s.heap.get? l=some o) (hc:o.cls = .type "dict") (hd:o.data = .dict es ep) (hu:A.units<cLine):SeqAt.RcAt A s (.str b u) (.ref l) false:=fun prog w E Q h=>by
  have ty:s.TypeIs (.ref l) "dict":=⟨o,hl,hc⟩
  refine SeqAt.rc_eq_decline_or (k:=false) (typeIs_str s b u) ty (by decide) F.sub_dict_str F.slot_str_eq F.slot_dict_eq_refl (fun _ q=>?_) (fun _ q=>?_) (fun _ q=>?_) (.inr hu) h
  · exact call_meets F.slot_str_eq (typeIs_str s b u) F.entry_str_eq (F.args_str_eq_2 _ _) (str_no_dict b u l o hc hd) ⟨hl,q⟩
  · exact call_meets F.slot_dict_eq_refl ty F.entry_dict_eq (F.args_dict_eq_2 _ _) (dict_no_str b u l o hc) ⟨hl,q⟩
  · exact wpAny_of_eq (rfl:isSame (.str b u) (.ref l)=pure false) q
theorem dict_str_at {A:Around}{b:Str}{u:Tok}{l:Addr}{o:Obj}{es:Array DictEntry}{ep:Nat} (hl:s.heap.get? l=some o) (hc:o.cls = .type "dict") (hd:o.data = .dict es ep) (hu:A.units<cLine):SeqAt.RcAt A s (.ref l) (.str b u) false:=fun prog w E Q h=>by
  have ty:s.TypeIs (.ref l) "dict":=⟨o,hl,hc⟩
  refine SeqAt.rc_eq_decline_or (k:=false) ty (typeIs_str s b u) (by decide) F.sub_str_dict F.slot_dict_eq F.slot_str_eq_refl (fun _ q=>?_) (fun _ q=>?_) (fun _ q=>?_) (.inr hu) h
  · exact call_meets F.slot_dict_eq ty F.entry_dict_eq (F.args_dict_eq_2 _ _) (dict_no_str b u l o hc) ⟨hl,q⟩
  · exact call_meets F.slot_str_eq_refl (typeIs_str s b u) F.entry_str_eq (F.args_str_eq_2 _ _) (str_no_dict b u l o hc hd) ⟨hl,q⟩
  · exact wpAny_of_eq (rfl:isSame (.ref l) (.str b u)=pure false) q
theorem dic_at {l:Addr} (I:Inv X pins σ H s) (sm:Same Hf H) (h:Hf l=some (.dK [])):∃ o es ep,s.heap.get? l=some o∧o.cls = .type "dict"∧o.data = .dict es ep:=by
  obtain ⟨_,_,vs,_,p⟩:=(show ObjOk X.prog X.w H s.heap l (.dK []) from I.hok l _ (sm _ _ h))
  obtain ⟨o,es,ep,h1,h2,h3,_⟩:=p
  exact ⟨o,es,ep,h1,h2.1,h3⟩
theorem str_heap {A:Around}{b:Str}{t:Tok}{x:V}{v:Value}{p:PV} (I:Inv X pins σ H s) (sm:Same Hf H) (rv:RelV x v) (rp:Rp X.K cl Hf x p) (hp:heapP p=true) (hu:A.units<cLine):SeqAt.EqAt A s (.str b t) v false:=by
  cases p<;>first
    | (simp [heapP] at hp;done)
    | skip
  · cases rp with
    | tup h r=>cases rv;obtain ⟨its,w,pl,z⟩:=I.tuple (Same.seqT sm h);exact SeqAt.EqAt.str_tuple _ _ pl hu
  · cases rp with
    | lst h r=>cases rv;obtain ⟨its,w,pl,z⟩:=I.list (sm.seq h);exact SeqAt.EqAt.str_list _ _ pl.isList hu
  · cases rp with
    | dic0 h =>
      cases rv
      obtain ⟨o,es,ep,h1,h2,h3⟩:=dic_at I sm h
      intro prog w E Q hq
      unfold eqBool
      refine wpAny_holding (wpAny_ite_split (fun hab=>absurd (eq_of_beq hab) nofun) fun _=>?_)
      exact wpAny_bind (str_dict_at h1 h2 h3 hu prog w E _ (wpAny_truthy_bool hq))
theorem strs_of:∀ {l:List PV}{vs:List V}{us:List Value},Rps X.K cl Hf vs l→Vals vs us→l.all strP=true→∀ y∈us,∃ b t,y=Value.str b t
  | [],_,_,r,w,_,y,hy=>by cases r;cases w;cases hy
  | p::l,_,_,r,w,h,y,hy=>by
    cases r with
    | cons r1 r2 =>
      cases w with
      | cons w1 w2 =>
        rw [List.all_cons,Bool.and_eq_true] at h
        rcases List.mem_cons.mp hy with rfl | hy
        · cases p<;>first | (simp [strP] at h;done) | skip
          cases r1
          obtain ⟨t,rfl⟩:=w1
          exact ⟨_,_,rfl⟩
        · exact strs_of r2 w2 h.2 y hy
theorem r_in:BinR X cl (compareOp .In) cIn:=by
  intro pins s σ Hf H x y v u p q I sm rv ru rp rq hs
  cases q<;>first
    | exact absurd rfl hs
    | skip
  · rename_i z
    cases p<;>first
      | exact absurd rfl hs
      | skip
    cases rp;cases rq
    refine okp' rfl fun E=>(op_in_str (X:=X.wish E)) pins s σ H _ _ v u _ (I.wish E) rv ru ?_
    exact ⟨_,_,rfl,rfl,Hf,Ext.refl sm,.bl _⟩
  · rename_i l
    obtain ⟨hc,e⟩:=ifOk hs
    rw [Bool.and_eq_true] at hc
    cases rq with
    | tup h r =>
      obtain ⟨f1,f2⟩:=any_of rp hc.1 r hc.2
      refine okp' e fun E=>(op_in_seq (X:=X.wish E)) pins s σ H _ _ v u _ (I.wish E) rv ru ?_
      exact ⟨_,_,rfl,.inr (Same.seqT sm h),flat_of rp hc.1,f1,Hf,Ext.refl sm,by show Rp _ _ _ (.bl (inV x _)) _;unfold inV;rw [f2];exact .bl _⟩
  · rename_i l
    obtain ⟨hc,e⟩:=ifOk hs
    rw [Bool.and_eq_true] at hc
    cases rq with
    | lst h r =>
      obtain ⟨f1,f2⟩:=any_of rp hc.1 r hc.2
      refine okp' e fun E=>(op_in_seq (X:=X.wish E)) pins s σ H _ _ v u _ (I.wish E) rv ru ?_
      exact ⟨_,_,rfl,.inl (sm.seq h),flat_of rp hc.1,f1,Hf,Ext.refl sm,by show Rp _ _ _ (.bl (inV x _)) _;unfold inV;rw [f2];exact .bl _⟩
theorem r_notIn (hu:X.A.units+64<cLine):BinR X cl (compareOp .NotIn) cNotIn:=by
  intro pins s σ Hf H x y v u p q I sm rv ru rp rq hs
  cases q<;>first
    | exact absurd rfl hs
    | skip
  · rename_i z
    cases p<;>first
      | exact absurd rfl hs
      | skip
    cases rp;cases rq
    refine okp' rfl fun E=>(op_notIn_str (X:=X.wish E)) pins s σ H _ _ v u _ (I.wish E) rv ru ?_
    exact ⟨_,_,rfl,rfl,Hf,Ext.refl sm,.bl _⟩
  · rename_i l
    obtain ⟨hc,e⟩:=ifOk hs
    rw [Bool.and_eq_true] at hc
    cases rq with
    | tup h r =>
      obtain ⟨f1,f2⟩:=any_of rp hc.1 r hc.2
      refine okp' e fun E=>(op_notIn_seq (X:=X.wish E)) pins s σ H _ _ v u _ (I.wish E) rv ru ?_
      exact ⟨_,_,rfl,.inr (Same.seqT sm h),flat_of rp hc.1,f1,Hf,Ext.refl sm,by show Rp _ _ _ (.bl (!inV x _)) _;unfold inV;rw [f2];exact .bl _⟩
  · rename_i l
    by_cases hc0:(flatP p && l.all flatP)=true
    rotate_left
    · have hs2:(if (flatP p && l.all flatP)=true then R.ok (PV.bl (!l.any fun z=>eqPV z p)) else if (heapP p && l.all strP)=true then R.ok (PV.bl true) else R.stuck)≠.stuck:=hs
      rw [if_neg hc0] at hs2
      obtain ⟨hc,e⟩:=ifOk hs2
      rw [Bool.and_eq_true] at hc
      have e':cNotIn p (.lst l) = .ok (.bl true):=by
        show (if (flatP p && l.all flatP)=true then R.ok (PV.bl (!l.any fun z=>eqPV z p)) else if (heapP p && l.all strP)=true then R.ok (PV.bl true) else R.stuck)=_
        rw [if_neg hc0];exact e
      rw [e']
      cases rq with
      | lst h r =>
        cases ru
        obtain ⟨its,w,pl,z⟩:=I.list (sm.seq h)
        refine SeqAt.notIn_listAt (fun _=>false) pl.isList (fun y hy=>?_) ⟨_,.bl true,Hf,H,rfl,I,?_,Ext.refl sm,.bl _⟩
        · obtain ⟨b,t,rfl⟩:=strs_of r w hc.2 y (by simpa using hy)
          exact str_heap I sm rv rp hc.1 (by show X.A.units+1<cLine;omega)
        · show (_:Value)=_
          simp
    have hs1:(if (flatP p && l.all flatP)=true then R.ok (PV.bl (!l.any fun z=>eqPV z p)) else if (heapP p && l.all strP)=true then R.ok (PV.bl true) else R.stuck)≠.stuck:=hs
    have hc:=hc0
    have e:cNotIn p (.lst l) = .ok (.bl (!l.any fun z=>eqPV z p)):=if_pos hc0
    rw [Bool.and_eq_true] at hc
    cases rq with
    | lst h r =>
      obtain ⟨f1,f2⟩:=any_of rp hc.1 r hc.2
      refine okp' e fun E=>(op_notIn_seq (X:=X.wish E)) pins s σ H _ _ v u _ (I.wish E) rv ru ?_
      exact ⟨_,_,rfl,.inl (sm.seq h),flat_of rp hc.1,f1,Hf,Ext.refl sm,by show Rp _ _ _ (.bl (!inV x _)) _;unfold inV;rw [f2];exact .bl _⟩
theorem itemP_of {K:PySem.W.Frag}{l:List PV}{i:Int}{vs:List V} (h:itemP l i≠.stuck) (r:Rps K cl Hf vs l):∃ v p,itemP l i = .ok p∧atI vs i=some v∧Rp K cl Hf v p:=by
  unfold itemP at h ⊢
  unfold atI
  have e:ixN vs.length i=ixP l.length i:=by rw [r.length];rfl
  rw [e]
  cases q:ixP l.length i with
  | none=>rw [q] at h;exact absurd rfl h
  | some j =>
    rw [q] at h
    dsimp only at h ⊢
    cases w:l[j]? with
    | none=>rw [w] at h;exact absurd rfl h
    | some p =>
      obtain ⟨v,h1,h2⟩:=r.get w
      exact ⟨v,p,rfl,h1,h2⟩
theorem me_item {a b:Expr}{fa fb:FE}{pos:Pos} (ha:ME X cl a fa) (hb:ME X cl b fb) (hx:PlainIx b:=by intro _ _;rfl):ME X cl (.Subscript a b pos) (fBin oItem fa fb):=by
  refine ⟨?_⟩
  intro pins s σ Hf0 H0 Hf H ρ I r hs
  refine Subscript_ ?_
  have rule:BinR X cl (fun v u=>subscriptTail a b v u) oItem:=by
    intro pins s σ Hf H x y v u p q I sm rv ru rp rq hs
    cases q<;>first
      | (cases p<;>exact absurd rfl hs)
      | skip
    rename_i i
    cases rq
    cases p<;>first
      | exact absurd rfl hs
      | skip
    · rename_i z
      cases rp
      have hs':oItem (.str z) (.int i)≠.stuck:=hs
      unfold oItem at hs' ⊢
      dsimp only at hs' ⊢
      cases w:ixP z.cps.toList.length i with
      | none=>rw [w] at hs';exact absurd rfl hs'
      | some j =>
        rw [w] at hs'
        dsimp only at hs' ⊢
        cases w2:z.cps.toList[j]? with
        | none=>rw [w2] at hs';exact absurd rfl hs'
        | some c =>
          rw [w2] at hs'
          dsimp only at hs' ⊢
          obtain ⟨hz,e⟩:=ifOk hs'
          refine okp' e fun E=>(ix_str (X:=X.wish E)) a b pins s σ H _ _ v u _ (I.wish E) rv ru ?_ (hx _ _)
          refine ⟨z,i,c,rfl,rfl,hz,?_,Hf,Ext.refl sm,.str _⟩
          unfold atI
          have e2:ixN z.cps.toList.length i=some j:=w
          rw [e2]
          exact w2
    · rename_i l
      cases rp with
      | tup h r =>
        obtain ⟨v',p',e1,e2,e3⟩:=itemP_of (show itemP l i≠.stuck from hs) r
        refine okp' (show oItem (.tup l) (.int i) = .ok p' from e1) fun E=>(ix_tup (X:=X.wish E)) a b pins s σ H _ _ v u _ (I.wish E) rv ru ?_ (hx _ _)
        exact ⟨_,_,i,v',rfl,rfl,Same.seqT sm h,e2,Hf,Ext.refl sm,e3⟩
    · rename_i l
      cases rp with
      | lst h r =>
        obtain ⟨v',p',e1,e2,e3⟩:=itemP_of (show itemP l i≠.stuck from hs) r
        refine okp' (show oItem (.lst l) (.int i) = .ok p' from e1) fun E=>(ix_list (X:=X.wish E)) a b pins s σ H _ _ v u _ (I.wish E) rv ru ?_ (hx _ _)
        exact ⟨_,_,i,v',rfl,rfl,sm.seq h,e2,Hf,Ext.refl sm,e3⟩
  exact two ha hb rule I r hs
structure MO (X:Cx) (cl:Nat→Addr) (e:Option Expr) (f:FO):Prop where
  run':∀ (pins:List (Addr×Obj)) (s:Shared) (σ:SV) (Hf0 H0 Hf H:Hp) (ρ:MEnv),Inv X pins σ H s→Rep X.K cl Hf0 H0 Hf H σ ρ→f ρ≠.stuck →
    wpAny (model X.prog X.w) X.A (evalPart e X.env) (fun u s'=>∃ o Hf' H',f ρ = .ok o∧Inv X pins σ H' s'∧IsPart u o∧Ext Hf H Hf' H') (ExP X cl pins σ Hf H (f ρ)) s
instance {X:Cx}{cl:Nat→Addr}{e:Option Expr}{f:FO}:CoeFun (MO X cl e f) fun _=>∀ (pins:List (Addr×Obj)) (s:Shared) (σ:SV) (Hf0 H0 Hf H:Hp) (ρ:MEnv),Inv X pins σ H s→Rep X.K cl Hf0 H0 Hf H σ ρ→f ρ≠.stuck →
    wpAny (model X.prog X.w) X.A (evalPart e X.env) (fun u s'=>∃ o Hf' H',f ρ = .ok o∧Inv X pins σ H' s'∧IsPart u o∧Ext Hf H Hf' H') (ExP X cl pins σ Hf H (f ρ)) s:=⟨MO.run'⟩
theorem mo_none:MO X cl none oNone:=by
  refine ⟨?_⟩
  intro pins s σ Hf0 H0 Hf H ρ I r hs
  rw [evalPart_none]
  exact wpAny_pure ⟨none,Hf,H,rfl,I,.none,Ext.refl r.sub⟩
theorem mo_some {e:Expr}{f:FE} (h:ME X cl e f):MO X cl (some e) (oSome f):=by
  refine ⟨?_⟩
  intro pins s σ Hf0 H0 Hf H ρ I r hs
  rw [evalPart_some]
  unfold oSome at hs ⊢
  refine h.run I r (Ext.refl r.sub) hs fun p v u s1 Hf1 H1 e1 I1 rv x1 rp=>?_
  rw [e1] at hs ⊢
  cases p<;>first
    | exact absurd rfl hs
    | skip
  rename_i i
  cases rp
  obtain ⟨t,rfl⟩:=rv
  exact ⟨some i,Hf1,H1,rfl,I1,.int i t,x1⟩
theorem MO.run {e:Option Expr}{f:FO} (h:MO X cl e f) (I:Inv X pins σ H1 s) (r:Rep X.K cl Hf0 H0 Hf1 H1 σ ρ) (e0:Ext Hf H Hf1 H1) {k:Option Int→R α} (hs:(f ρ).bind k≠.stuck) {Q:Value→Shared→Prop}
    (ok:∀ o u s' Hf' H',(f ρ).bind k=k o→Inv X pins σ H' s'→IsPart u o→Ext Hf1 H1 Hf' H'→Q u s') :
    wpAny (model X.prog X.w) X.A (evalPart e X.env) Q (ExP X cl pins σ Hf H ((f ρ).bind k)) s:=by
  have hf:f ρ≠.stuck:=fun z=>hs (by rw [z];rfl)
  refine wpAny_mono (h pins s σ Hf0 H0 Hf1 H1 ρ I r hf) (fun u s' q=>?_) fun u s' q=>?_
  · obtain ⟨o,Hf',H',e1,I',hp,ex⟩:=q
    exact ok o u s' Hf' H' (by rw [e1];rfl) I' hp ex
  · obtain ⟨c,e1,x⟩:=q
    exact ⟨c,by rw [e1];rfl,x.from e0⟩
theorem slP_le (n d:Nat) (hd:d≤n) (o:Option Int):slP n d o≤n:=by
  cases o with
  | none=>exact hd
  | some v=>unfold slP;simp only;split<;>omega
theorem indices_eq (n:Nat) (lo hi:Option Int):Builtin.Str.strSliceIndices lo hi 1 n=(List.range (slP n n hi - slP n 0 lo)).map (slP n 0 lo+·):=by
  have clip:∀ (o:Option Int) (d:Nat),d≤n→(match o with
      | none=>(d:Int)
      | some i=>if (1:Int) > 0 then max 0 (min (if i<0 then i+(n:Int) else i) (n:Int)) else max (-1) (min (if i<0 then i+(n:Int) else i) ((n:Int) - 1)))=(slP n d o:Int):=by
    intro o d hd
    cases o with
    | none=>rfl
    | some i =>
      simp only [slP]
      rw [if_pos (by decide)]
      by_cases h:i<0
      · rw [if_pos h,if_pos h];omega
      · rw [if_neg h,if_neg h];omega
  have c1:=clip lo 0 (Nat.zero_le n)
  have c2:=clip hi n (Nat.le_refl n)
  refine (congr (congrArg (fun p q=>sliceRange p q 1) c1) c2:Builtin.Str.strSliceIndices lo hi 1 n=sliceRange (slP n 0 lo:Int) (slP n n hi:Int) 1).trans ?_
  generalize slP n 0 lo=a
  generalize slP n n hi=b
  unfold sliceRange
  simp only [show (1:Int) > 0 from by decide,if_true]
  have hc:(if (a:Int)<(b:Int) then ((b:Int) - (a:Int)+1 - 1) / 1 else 0).toNat=b - a:=by
    by_cases h:(a:Int)<(b:Int)
    · rw [if_pos h,Int.ediv_one];omega
    · rw [if_neg h];omega
  rw [hc]
  refine List.map_congr_left fun k _=>?_
  omega
theorem sCut_eq (z:Str) (lo hi:Option Int):Txt.slice z lo hi=sCut z lo hi:=by
  have hn:z.length=z.cps.toList.length:=by show z.cps.size=_;simp
  have hlo:=slP_le z.cps.toList.length 0 (Nat.zero_le _) lo
  have hhi:=slP_le z.cps.toList.length z.cps.toList.length (Nat.le_refl _) hi
  unfold Txt.slice sCut
  rw [hn,indices_eq]
  generalize slP z.cps.toList.length 0 lo=a at hlo ⊢
  generalize slP z.cps.toList.length z.cps.toList.length hi=b at hhi ⊢
  split
  · rename_i h
    simp only [List.length_map,List.length_range,beq_self_eq_true,Bool.true_and,beq_iff_eq] at h
    by_cases hz:z.cps.toList.length=0
    · have e:z.cps.toList=[]:=List.length_eq_zero_iff.mp hz
      rw [e];simp only [List.drop_nil,List.take_nil]
      cases z with | mk c=>simp at e ⊢;exact e
    · have ha:a=0:=by omega
      have hb:b=z.cps.toList.length:=by omega
      subst ha;subst hb
      rw [List.drop_zero,Nat.sub_zero,List.take_length]
  · congr 1
    congr 1
    by_cases hab:a≤b
    · have:=StrLaws.sliced_plain z (a:=a) (b:=b) hab (by rw [hn];exact hhi)
      rw [StrLaws.strSliceIndices_plain hab (by rw [hn];exact hhi)] at this
      exact this
    · rw [show b - a=0 by omega];simp
theorem me_cut {e:Expr}{lo hi:Option Expr}{f:FE}{l h:FO}{p2 pos:Pos} (he:ME X cl e f) (hl:MO X cl lo l) (hh:MO X cl hi h):ME X cl (.Subscript e (.Slice lo hi none p2) pos) (fCut f l h):=by
  refine ⟨?_⟩
  intro pins s σ Hf0 H0 Hf H ρ I r hs
  unfold fCut at hs ⊢
  refine Subscript_ (he.run I r (Ext.refl r.sub) hs fun p v u s1 Hf1 H1 e1 I1 rv x1 rp=>?_)
  rw [e1] at hs ⊢
  refine wpAny_Slice (hl.run I1 (r.keep x1) x1 hs fun o vl s2 Hf2 H2 e2 I2 hp2 x2=>?_)
  rw [e2] at hs ⊢
  have x12:=x1.trans x2
  refine hh.run I2 (r.keep x12) x12 hs fun o' vu s3 Hf3 H3 e3 I3 hp3 x3=>?_
  rw [e3] at hs ⊢
  have x13:=x12.trans x3
  rw [evalPart_none]
  refine wpAny_pure ?_
  have I4:Inv X pins σ H3 { s3 with heap:=s3.heap.push { cls:=.type "slice",data:=.fields #[vl,vu,.none] } }:=I3.kept (t':=s3.toks) fun b ob q=>Heap.get?_push_of_some _ q
  cases p<;>first
    | exact absurd rfl hs
    | skip
  · rename_i z
    obtain ⟨hz,e⟩:=ifOk hs
    rw [show oCut (.str z) o o' = .ok (.str (sCut z o o')) from e]
    cases rp
    obtain ⟨t,rfl⟩:=rv
    generalize ExP X cl pins σ Hf H _=E
    have fin:∀ (l u:Option (Int×Tok)),l.map (·.1)=o→u.map (·.1)=o'→∀ {E:Value→Shared→Prop},vl=partValue l→vu=partValue u→wpAny (model X.prog X.w) X.A (getItem (.str z t) (.ref s3.heap.objs.size)) (OkP X cl pins σ Hf H (.ok (.str (sCut z o o')))) E { s3 with heap:=s3.heap.push { cls:=.type "slice",data:=.fields #[vl,vu,.none] } }:=by
      intro l u hl hu E el eu
      subst el eu
      refine wpAny_getItem_str_slice (l:=l) (u:=u) (st:=none) ⟨_,Heap.get?_push_size _ rfl,rfl,rfl⟩ rfl ?_
      have e2:Txt.slice z (l.map (·.1)) (u.map (·.1))=sCut z o o':=by rw [hl,hu];exact sCut_eq z o o'
      refine post_val_or_str ⟨Nat.le_trans (Txt.slice_le z (l.map (·.1)) (u.map (·.1))) hz,fun t' k=>?_⟩
      refine ⟨_,.str (sCut z o o'),Hf3,H3,rfl,I4.tok _,⟨t',?_⟩,x13,.str _⟩
      rw [← e2]
      rfl
    refine tail_any (ops:=[.ref s3.heap.objs.size,.str z t]) (typeIs_str _ _ _) F.slot_str_getitem.lookup ?_ (by with_unfolding_all rfl)
    cases hp2 with
    | none=>cases hp3 with
      | none=>exact fin none none rfl rfl rfl rfl
      | int j tj=>exact fin none (some (j,tj)) rfl rfl rfl rfl
    | int i ti=>cases hp3 with
      | none=>exact fin (some (i,ti)) none rfl rfl rfl rfl
      | int j tj=>exact fin (some (i,ti)) (some (j,tj)) rfl rfl rfl rfl
  rename_i l'
  have rp3:=rp.keep (x2.trans x3).frz
  cases rp3 with
  | lst hq rr =>
    have ecut:∀ xs:List V,Rps X.K cl Hf3 xs l'→Rps X.K cl Hf3 (cutV xs o o') (cutP l' o o'):=fun xs rx=>by
      unfold cutV cutP
      have hl:=rx.length
      rw [hl]
      exact (rx.drop _).take _
    generalize ExP X cl pins σ Hf H (oCut (.lst l') o o')=E
    obtain ⟨T,id,hT,ht,hg⟩:=(sl_list (X:=X.wish E)) pins { s3 with heap:=s3.heap.push { cls:=.type "slice",data:=.fields #[vl,vu,.none] } } σ H3 _ u vl vu o o' s3.heap.objs.size
      (fun w H'=>∃ Hf',Ext Hf3 H3 Hf' H'∧Rp X.K cl Hf' w (.lst (cutP l' o o'))) (I4.wish E) rv (Heap.IsSliceOf.new ..) hp2 hp3
      ⟨_,_,rfl,x3.sub.seq hq,fun a ha=>⟨_,Ext.new x3.sub ha _,.lst (SqL.of upd_same) ((ecut _ rr).keep (same_upd (x3.sub.free ha) _))⟩⟩
    refine tail_any (ops:=[.ref s3.heap.objs.size,u]) ht hT ?_ (by with_unfolding_all rfl)
    refine thn (okp hg) fun _ _ q=>OkP.from (e0:=x13) q
noncomputable def eAt (ps qs:List PV) (j:Nat):Bool:=match ps[j]?,qs[j]? with
  | some a,some b=>eqPV a b
  | _,_=>false
theorem eAt_succ (a b:PV) (ps qs:List PV) (j:Nat):eAt (a::ps) (b::qs) (j+1)=eAt ps qs j:=by simp [eAt]
theorem all_range_succ (n:Nat) (e:Nat→Bool):(List.range (n+1)).all e=(e 0 && (List.range n).all fun j=>e (j+1)):=by
  rw [List.range_succ_eq_map,List.all_cons,List.all_map]
  rfl
theorem eqPVs_eq:∀ (ps qs:List PV),eqPVs ps qs=((List.range (min ps.length qs.length)).all (eAt ps qs) && ps.length == qs.length)
  | [],[]=>by simp [eqPVs]
  | [],_::_=>by simp [eqPVs]
  | _::_,[]=>by simp [eqPVs]
  | a::ps,b::qs=>by
    have ih:=eqPVs_eq ps qs
    show (eqPV a b && eqPVs ps qs)=_
    have h1:min (a::ps).length (b::qs).length=min ps.length qs.length+1:=by simp only [List.length_cons];omega
    rw [h1,all_range_succ,ih]
    have h2:eAt (a::ps) (b::qs) 0=eqPV a b:=rfl
    have h3:(fun j=>eAt (a::ps) (b::qs) (j+1))=eAt ps qs:=by funext j;exact eAt_succ a b ps qs j
    rw [h2,h3]
    have h4:((a::ps).length == (b::qs).length)=(ps.length == qs.length):=by simp
    rw [h4,Bool.and_assoc]
theorem eqPVs_len {ps qs:List PV} (h:ps.length=qs.length):eqPVs ps qs=(List.range ps.length).all (eAt ps qs):=by
  rw [eqPVs_eq,← h]
  simp
theorem eqPVs_ne {ps qs:List PV} (h:ps.length≠qs.length):eqPVs ps qs=false:=by
  rw [eqPVs_eq]
  have:(ps.length == qs.length)=false:=by simpa using h
  rw [this,Bool.and_false]
theorem cmpOk_get {n:Nat}{ps:List PV}{j:Nat}{p:PV} (h:ps.all (cmpOkN n)=true) (e:ps[j]?=some p):cmpOkN n p=true:=by
  rw [List.all_eq_true] at h
  exact h p (List.mem_of_getElem? e)
theorem eq_same (I:Inv X pins σ H s) (sm:Same Hf H):∀ (n:Nat) {v:V}{p q:PV},Rp X.K cl Hf v p→Rp X.K cl Hf v q→cmpOkN n p=true→cmpOkN n q=true→eqPV p q=true:=by
  intro n
  induction n with
  | zero =>
    intro v p q hp hq cp cq
    cases hp<;>cases hq<;>first | (simp [eqPV];done) | (simp [cmpOkN] at cp;done)
  | succ n ih =>
    have all:∀ {vs:List V}{ps qs:List PV},Rps X.K cl Hf vs ps→Rps X.K cl Hf vs qs→ps.all (cmpOkN n)=true→qs.all (cmpOkN n)=true→eqPVs ps qs=true:=by
      intro vs
      induction vs with
      | nil=>intro ps qs r1 r2 _ _;cases r1;cases r2;rfl
      | cons v vs ihv =>
        intro ps qs r1 r2 c1 c2
        cases r1 with
        | cons a1 t1 =>
          cases r2 with
          | cons a2 t2 =>
            rw [List.all_cons,Bool.and_eq_true] at c1 c2
            show (eqPV _ _ && eqPVs _ _)=true
            rw [ih a1 a2 c1.1 c2.1,ihv t1 t2 c1.2 c2.2]
            rfl
    intro v p q hp hq cp cq
    have noLT:∀ {a:Addr}{xs ys:List V},SqL X.K Hf a xs→SqT X.K Hf a ys→False:=fun {a xs ys} h1 h2=>by
      obtain ⟨its,_,⟨o,n1,e1,c1,_⟩,_⟩:=I.list (sm.seq h1)
      obtain ⟨its2,_,⟨o2,e2,c2,_⟩,_⟩:=I.tuple (Same.seqT sm h2)
      rw [e1] at e2;cases e2;rw [c1] at c2;injection c2 with c3;exact absurd c3 (by decide)
    cases hp with
    | tup h1 r1 =>
      cases hq with
      | tup h2 r2 =>
        have e:=I.tuple_inj (Same.seqT sm h1) (Same.seqT sm h2)
        subst e
        exact all r1 r2 cp cq
      | lst h2 r2=>exact (noLT h2 h1).elim
      | _=>simp [cmpOkN] at cq
    | lst h1 r1 =>
      cases hq with
      | tup h2 r2=>exact (noLT h1 h2).elim
      | lst h2 r2 =>
        have e:=I.list_inj (sm.seq h1) (sm.seq h2)
        subst e
        exact all r1 r2 cp cq
      | _=>simp [cmpOkN] at cq
    | _=>cases hq<;>first | (simp [eqPV];done) | (simp [cmpOkN] at cp;done)
theorem eq_deep (I:Inv X pins σ H s) (sm:Same Hf H):∀ (n:Nat) {A:Around}{x y:V}{v u:Value}{p q:PV},A.units+n<cLine→RelV x v→RelV y u→Rp X.K cl Hf x p→Rp X.K cl Hf y q→cmpOkN n p=true→cmpOkN n q=true →
    SeqAt.RcAt A s v u (eqPV p q)∧SeqAt.EqAt A s v u (eqPV p q)∧SeqAt.RcNeAt A s v u (!eqPV p q):=by
  intro n
  induction n with
  | zero =>
    intro A x y v u p q hu rv ru rp rq cp cq
    cases rp<;>first | (simp [cmpOkN] at cp;done) | skip
    all_goals (cases rq<;>first | (simp [cmpOkN] at cq;done) | skip)
    · cases rv;cases ru;exact ⟨SeqAt.RcAt.none_none,SeqAt.EqAt.same _,SeqAt.RcNeAt.none_none⟩
    · cases rv;cases ru;exact ⟨SeqAt.RcAt.none_bool _,SeqAt.EqAt.none_bool _,SeqAt.RcNeAt.none_bool _⟩
    · cases rv;obtain ⟨t,rfl⟩:=ru;exact ⟨SeqAt.RcAt.none_int _ _,SeqAt.EqAt.none_int _ _,SeqAt.RcNeAt.none_int _ _⟩
    · cases rv;obtain ⟨t,rfl⟩:=ru;exact ⟨SeqAt.RcAt.none_str _ _,SeqAt.EqAt.none_str _ _,SeqAt.RcNeAt.none_str _ _⟩
    · cases rv;cases ru;exact ⟨SeqAt.RcAt.bool_none _,SeqAt.EqAt.bool_none _,SeqAt.RcNeAt.bool_none _⟩
    · cases rv;cases ru;exact ⟨SeqAt.RcAt.bool_bool _ _,SeqAt.EqAt.bool_bool _ _,SeqAt.RcNeAt.bool_bool _ _⟩
    · cases rv;obtain ⟨t,rfl⟩:=ru;exact ⟨SeqAt.RcAt.bool_int _ _ _,SeqAt.EqAt.bool_int _ _ _,SeqAt.RcNeAt.bool_int _ _ _⟩
    · cases rv;obtain ⟨t,rfl⟩:=ru;exact ⟨SeqAt.RcAt.bool_str _ _ _,SeqAt.EqAt.bool_str _ _ _,SeqAt.RcNeAt.bool_str _ _ _⟩
    · obtain ⟨t,rfl⟩:=rv;cases ru;exact ⟨SeqAt.RcAt.int_none _ _,SeqAt.EqAt.int_none _ _,SeqAt.RcNeAt.int_none _ _⟩
    · obtain ⟨t,rfl⟩:=rv;cases ru;exact ⟨SeqAt.RcAt.int_bool _ _ _,SeqAt.EqAt.int_bool _ _ _,SeqAt.RcNeAt.int_bool _ _ _⟩
    · obtain ⟨t,rfl⟩:=rv;obtain ⟨t',rfl⟩:=ru;exact ⟨SeqAt.RcAt.int_int _ _ _ _,SeqAt.EqAt.int_int _ _ _ _,SeqAt.RcNeAt.int_int _ _ _ _⟩
    · obtain ⟨t,rfl⟩:=rv;obtain ⟨t',rfl⟩:=ru;exact ⟨SeqAt.RcAt.int_str _ _ _ _,SeqAt.EqAt.int_str _ _ _ _,SeqAt.RcNeAt.int_str _ _ _ _⟩
    · obtain ⟨t,rfl⟩:=rv;cases ru;exact ⟨SeqAt.RcAt.str_none _ _,SeqAt.EqAt.str_none _ _,SeqAt.RcNeAt.str_none _ _⟩
    · obtain ⟨t,rfl⟩:=rv;cases ru;exact ⟨SeqAt.RcAt.str_bool _ _ _,SeqAt.EqAt.str_bool _ _ _,SeqAt.RcNeAt.str_bool _ _ _⟩
    · obtain ⟨t,rfl⟩:=rv;obtain ⟨t',rfl⟩:=ru;exact ⟨SeqAt.RcAt.str_int _ _ _ _,SeqAt.EqAt.str_int _ _ _ _,SeqAt.RcNeAt.str_int _ _ _ _⟩
    · obtain ⟨t,rfl⟩:=rv;obtain ⟨t',rfl⟩:=ru;exact ⟨SeqAt.RcAt.str_str _ _ _ _,SeqAt.EqAt.str_str _ _ _ _,SeqAt.RcNeAt.str_str _ _ _ _⟩
  | succ n ih =>
    intro A x y v u p q hu rv ru rp rq cp cq
    have hu0:A.units<cLine:=by omega
    have hu1:A.in1.units+n<cLine:=by show A.units+1+n<cLine;omega
    have items:∀ {xs ys:List V}{its its2:List Value}{ps qs:List PV},Rps X.K cl Hf xs ps→Rps X.K cl Hf ys qs→Vals xs its→Vals ys its2→ps.all (cmpOkN n)=true→qs.all (cmpOkN n)=true →
        ∀ j (h1:j<its.toArray.size) (h2:j<its2.toArray.size),SeqAt.EqAt A.in1 s its.toArray[j] its2.toArray[j] (eAt ps qs j):=by
      intro xs ys its its2 ps qs r1 r2 w1 w2 c1 c2 j h1 h2
      have g1:j<ps.length:=by rw [← r1.length,w1.length];simpa using h1
      have g2:j<qs.length:=by rw [← r2.length,w2.length];simpa using h2
      obtain ⟨a,ea,ra⟩:=r1.get (List.getElem?_eq_getElem g1)
      obtain ⟨b,eb,rb⟩:=r2.get (List.getElem?_eq_getElem g2)
      obtain ⟨ua,eua,rua⟩:=w1.get ea
      obtain ⟨ub,eub,rub⟩:=w2.get eb
      have f1:its.toArray[j]=ua:=by
        have:its[j]?=some its.toArray[j]:=by simp
        rw [this] at eua;exact Option.some.inj eua
      have f2:its2.toArray[j]=ub:=by
        have:its2[j]?=some its2.toArray[j]:=by simp
        rw [this] at eub;exact Option.some.inj eub
      rw [f1,f2]
      have e:eAt ps qs j=eqPV ps[j] qs[j]:=by
        unfold eAt
        rw [List.getElem?_eq_getElem g1,List.getElem?_eq_getElem g2]
      rw [e]
      exact (ih hu1 rua rub ra rb (cmpOk_get c1 (List.getElem?_eq_getElem g1)) (cmpOk_get c2 (List.getElem?_eq_getElem g2))).2.1
    cases rp<;>first | (simp [cmpOkN] at cp;done) | skip
    all_goals (cases rq<;>first | (simp [cmpOkN] at cq;done) | skip)
    · cases rv;cases ru;exact ⟨SeqAt.RcAt.none_none,SeqAt.EqAt.same _,SeqAt.RcNeAt.none_none⟩
    · cases rv;cases ru;exact ⟨SeqAt.RcAt.none_bool _,SeqAt.EqAt.none_bool _,SeqAt.RcNeAt.none_bool _⟩
    · cases rv;obtain ⟨t,rfl⟩:=ru;exact ⟨SeqAt.RcAt.none_int _ _,SeqAt.EqAt.none_int _ _,SeqAt.RcNeAt.none_int _ _⟩
    · cases rv;obtain ⟨t,rfl⟩:=ru;exact ⟨SeqAt.RcAt.none_str _ _,SeqAt.EqAt.none_str _ _,SeqAt.RcNeAt.none_str _ _⟩
    · rename_i h r;cases rv;cases ru;obtain ⟨its,w,pl,z⟩:=I.tuple (Same.seqT sm h);exact ⟨SeqAt.RcAt.none_tuple pl hu0,SeqAt.EqAt.none_tuple pl hu0,SeqAt.RcNeAt.none_tuple pl hu0⟩
    · rename_i h r;cases rv;cases ru;obtain ⟨its,w,pl,z⟩:=I.list (sm.seq h);exact ⟨SeqAt.RcAt.none_list pl.isList hu0,SeqAt.EqAt.none_list pl.isList hu0,SeqAt.RcNeAt.none_list pl.isList hu0⟩
    · cases rv;cases ru;exact ⟨SeqAt.RcAt.bool_none _,SeqAt.EqAt.bool_none _,SeqAt.RcNeAt.bool_none _⟩
    · cases rv;cases ru;exact ⟨SeqAt.RcAt.bool_bool _ _,SeqAt.EqAt.bool_bool _ _,SeqAt.RcNeAt.bool_bool _ _⟩
    · cases rv;obtain ⟨t,rfl⟩:=ru;exact ⟨SeqAt.RcAt.bool_int _ _ _,SeqAt.EqAt.bool_int _ _ _,SeqAt.RcNeAt.bool_int _ _ _⟩
    · cases rv;obtain ⟨t,rfl⟩:=ru;exact ⟨SeqAt.RcAt.bool_str _ _ _,SeqAt.EqAt.bool_str _ _ _,SeqAt.RcNeAt.bool_str _ _ _⟩
    · rename_i h r;cases rv;cases ru;obtain ⟨its,w,pl,z⟩:=I.tuple (Same.seqT sm h);exact ⟨SeqAt.RcAt.bool_tuple _ pl hu0,SeqAt.EqAt.bool_tuple _ pl hu0,SeqAt.RcNeAt.bool_tuple _ pl hu0⟩
    · rename_i h r;cases rv;cases ru;obtain ⟨its,w,pl,z⟩:=I.list (sm.seq h);exact ⟨SeqAt.RcAt.bool_list _ pl.isList hu0,SeqAt.EqAt.bool_list _ pl.isList hu0,SeqAt.RcNeAt.bool_list _ pl.isList hu0⟩
    · obtain ⟨t,rfl⟩:=rv;cases ru;exact ⟨SeqAt.RcAt.int_none _ _,SeqAt.EqAt.int_none _ _,SeqAt.RcNeAt.int_none _ _⟩
    · obtain ⟨t,rfl⟩:=rv;cases ru;exact ⟨SeqAt.RcAt.int_bool _ _ _,SeqAt.EqAt.int_bool _ _ _,SeqAt.RcNeAt.int_bool _ _ _⟩
    · obtain ⟨t,rfl⟩:=rv;obtain ⟨t',rfl⟩:=ru;exact ⟨SeqAt.RcAt.int_int _ _ _ _,SeqAt.EqAt.int_int _ _ _ _,SeqAt.RcNeAt.int_int _ _ _ _⟩
    · obtain ⟨t,rfl⟩:=rv;obtain ⟨t',rfl⟩:=ru;exact ⟨SeqAt.RcAt.int_str _ _ _ _,SeqAt.EqAt.int_str _ _ _ _,SeqAt.RcNeAt.int_str _ _ _ _⟩
    · rename_i h r;obtain ⟨t,rfl⟩:=rv;cases ru;obtain ⟨its,w,pl,z⟩:=I.tuple (Same.seqT sm h);exact ⟨SeqAt.RcAt.int_tuple _ _ pl hu0,SeqAt.EqAt.int_tuple _ _ pl hu0,SeqAt.RcNeAt.int_tuple _ _ pl hu0⟩
    · rename_i h r;obtain ⟨t,rfl⟩:=rv;cases ru;obtain ⟨its,w,pl,z⟩:=I.list (sm.seq h);exact ⟨SeqAt.RcAt.int_list _ _ pl.isList hu0,SeqAt.EqAt.int_list _ _ pl.isList hu0,SeqAt.RcNeAt.int_list _ _ pl.isList hu0⟩
    · obtain ⟨t,rfl⟩:=rv;cases ru;exact ⟨SeqAt.RcAt.str_none _ _,SeqAt.EqAt.str_none _ _,SeqAt.RcNeAt.str_none _ _⟩
    · obtain ⟨t,rfl⟩:=rv;cases ru;exact ⟨SeqAt.RcAt.str_bool _ _ _,SeqAt.EqAt.str_bool _ _ _,SeqAt.RcNeAt.str_bool _ _ _⟩
    · obtain ⟨t,rfl⟩:=rv;obtain ⟨t',rfl⟩:=ru;exact ⟨SeqAt.RcAt.str_int _ _ _ _,SeqAt.EqAt.str_int _ _ _ _,SeqAt.RcNeAt.str_int _ _ _ _⟩
    · obtain ⟨t,rfl⟩:=rv;obtain ⟨t',rfl⟩:=ru;exact ⟨SeqAt.RcAt.str_str _ _ _ _,SeqAt.EqAt.str_str _ _ _ _,SeqAt.RcNeAt.str_str _ _ _ _⟩
    · rename_i h r;obtain ⟨t,rfl⟩:=rv;cases ru;obtain ⟨its,w,pl,z⟩:=I.tuple (Same.seqT sm h);exact ⟨SeqAt.RcAt.str_tuple _ _ pl hu0,SeqAt.EqAt.str_tuple _ _ pl hu0,SeqAt.RcNeAt.str_tuple _ _ pl hu0⟩
    · rename_i h r;obtain ⟨t,rfl⟩:=rv;cases ru;obtain ⟨its,w,pl,z⟩:=I.list (sm.seq h);exact ⟨SeqAt.RcAt.str_list _ _ pl.isList hu0,SeqAt.EqAt.str_list _ _ pl.isList hu0,SeqAt.RcNeAt.str_list _ _ pl.isList hu0⟩
    · rename_i h r;cases rv;cases ru;obtain ⟨its,w,pl,z⟩:=I.tuple (Same.seqT sm h);exact ⟨SeqAt.RcAt.tuple_none pl hu0,SeqAt.EqAt.tuple_none pl hu0,SeqAt.RcNeAt.tuple_none pl hu0⟩
    · rename_i h r _;cases rv;cases ru;obtain ⟨its,w,pl,z⟩:=I.tuple (Same.seqT sm h);exact ⟨SeqAt.RcAt.tuple_bool _ pl hu0,SeqAt.EqAt.tuple_bool _ pl hu0,SeqAt.RcNeAt.tuple_bool _ pl hu0⟩
    · rename_i h r _;cases rv;obtain ⟨t',rfl⟩:=ru;obtain ⟨its,w,pl,z⟩:=I.tuple (Same.seqT sm h);exact ⟨SeqAt.RcAt.tuple_int _ _ pl hu0,SeqAt.EqAt.tuple_int _ _ pl hu0,SeqAt.RcNeAt.tuple_int _ _ pl hu0⟩
    · rename_i h r _;cases rv;obtain ⟨t',rfl⟩:=ru;obtain ⟨its,w,pl,z⟩:=I.tuple (Same.seqT sm h);exact ⟨SeqAt.RcAt.tuple_str _ _ pl hu0,SeqAt.EqAt.tuple_str _ _ pl hu0,SeqAt.RcNeAt.tuple_str _ _ pl hu0⟩
    · rename_i a xs ps h r b ys qs h' r'
      cases rv;cases ru
      obtain ⟨its,w,pl,z⟩:=I.tuple (Same.seqT sm h)
      obtain ⟨its2,w2,pl2,z2⟩:=I.tuple (Same.seqT sm h')
      have it:=items r r' w w2 cp cq
      have e:((List.range (min its.toArray.size its2.toArray.size)).all (eAt ps qs) && its.toArray.size == its2.toArray.size)=eqPV (.tup ps) (.tup qs):=by
        show _=eqPVs ps qs
        rw [eqPVs_eq,List.size_toArray,List.size_toArray,← w.length,← w2.length,r.length,r'.length]
      have c1:=SeqAt.RcAt.tuples (A:=A) pl pl2 hu0 it
      have c2:=SeqAt.RcNeAt.tuples (A:=A) pl pl2 hu0 it
      rw [e] at c1 c2
      refine ⟨c1,?_,c2⟩
      by_cases hab:a=b
      · subst hab
        rw [eq_same I sm (n+1) (Rp.tup h r) (Rp.tup h' r') cp cq]
        exact SeqAt.EqAt.same _
      · exact .of_refs hab c1
    · rename_i a xs ps h r b ys qs h' r'
      cases rv;cases ru
      obtain ⟨its,w,pl,z⟩:=I.tuple (Same.seqT sm h)
      obtain ⟨its2,w2,pl2,z2⟩:=I.list (sm.seq h')
      exact ⟨SeqAt.RcAt.tuple_list pl pl2.isList hu0,SeqAt.EqAt.tuple_list pl pl2.isList hu0,SeqAt.RcNeAt.tuple_list pl pl2.isList hu0⟩
    · rename_i h r;cases rv;cases ru;obtain ⟨its,w,pl,z⟩:=I.list (sm.seq h);exact ⟨SeqAt.RcAt.list_none pl.isList hu0,SeqAt.EqAt.list_none pl.isList hu0,SeqAt.RcNeAt.list_none pl.isList hu0⟩
    · rename_i h r _;cases rv;cases ru;obtain ⟨its,w,pl,z⟩:=I.list (sm.seq h);exact ⟨SeqAt.RcAt.list_bool _ pl.isList hu0,SeqAt.EqAt.list_bool _ pl.isList hu0,SeqAt.RcNeAt.list_bool _ pl.isList hu0⟩
    · rename_i h r _;cases rv;obtain ⟨t',rfl⟩:=ru;obtain ⟨its,w,pl,z⟩:=I.list (sm.seq h);exact ⟨SeqAt.RcAt.list_int _ _ pl.isList hu0,SeqAt.EqAt.list_int _ _ pl.isList hu0,SeqAt.RcNeAt.list_int _ _ pl.isList hu0⟩
    · rename_i h r _;cases rv;obtain ⟨t',rfl⟩:=ru;obtain ⟨its,w,pl,z⟩:=I.list (sm.seq h);exact ⟨SeqAt.RcAt.list_str _ _ pl.isList hu0,SeqAt.EqAt.list_str _ _ pl.isList hu0,SeqAt.RcNeAt.list_str _ _ pl.isList hu0⟩
    · rename_i a xs ps h r b ys qs h' r'
      cases rv;cases ru
      obtain ⟨its,w,pl,z⟩:=I.list (sm.seq h)
      obtain ⟨its2,w2,pl2,z2⟩:=I.tuple (Same.seqT sm h')
      exact ⟨SeqAt.RcAt.list_tuple pl.isList pl2 hu0,SeqAt.EqAt.list_tuple pl.isList pl2 hu0,SeqAt.RcNeAt.list_tuple pl.isList pl2 hu0⟩
    · rename_i a xs ps h r b ys qs h' r'
      cases rv;cases ru
      obtain ⟨its,w,pl,z⟩:=I.list (sm.seq h)
      obtain ⟨its2,w2,pl2,z2⟩:=I.list (sm.seq h')
      have it:=items r r' w w2 cp cq
      have l1:its.toArray.size=ps.length:=by rw [List.size_toArray,← w.length,r.length]
      have l2:its2.toArray.size=qs.length:=by rw [List.size_toArray,← w2.length,r'.length]
      have both:SeqAt.RcAt A s (.ref a) (.ref b) (eqPVs ps qs)∧SeqAt.RcNeAt A s (.ref a) (.ref b) (!eqPVs ps qs):=by
        by_cases hl:ps.length=qs.length
        · have c1:=SeqAt.RcAt.lists (A:=A) pl.isList pl2.isList (by rw [l1,l2,hl]) hu0 it
          have c2:=SeqAt.RcNeAt.lists (A:=A) pl.isList pl2.isList (by rw [l1,l2,hl]) hu0 it
          rw [l1,← eqPVs_len hl] at c1 c2
          exact ⟨c1,c2⟩
        · rw [eqPVs_ne hl]
          have hne:(its.toArray.size != its2.toArray.size)=true:=by rw [l1,l2];simpa using hl
          exact ⟨SeqAt.RcAt.lists_lengths pl.isList pl2.isList hne hu0,SeqAt.RcNeAt.lists_lengths pl.isList pl2.isList hne hu0⟩
      refine ⟨both.1,?_,both.2⟩
      by_cases hab:a=b
      · subst hab
        rw [eq_same I sm (n+1) (Rp.lst h r) (Rp.lst h' r') cp cq]
        exact SeqAt.EqAt.same _
      · exact .of_refs hab both.1
theorem r_eq (hu:X.A.units+64<cLine):BinR X cl (compareOp .Eq) cEq:=by
  intro pins s σ Hf H x y v u p q I sm rv ru rp rq hs
  unfold cEq at hs ⊢
  by_cases hc0:(cmpOk p && cmpOk q)=true
  rotate_left
  · rw [if_neg hc0] at hs ⊢
    obtain ⟨hd,e⟩:=ifOk hs
    rw [e]
    cases p<;>cases q<;>first
      | (simp [dicStr] at hd;done)
      | skip
    cases rp with
    | dic0 h =>
      cases rq
      cases rv
      obtain ⟨t,rfl⟩:=ru
      obtain ⟨o,es,ep,h1,h2,h3⟩:=dic_at I sm h
      exact dict_str_at h1 h2 h3 (by omega) _ _ _ _ ⟨_,.bl false,Hf,H,rfl,I,rfl,Ext.refl sm,.bl _⟩
  rw [if_pos hc0] at hs ⊢
  have e:(R.ok (PV.bl (eqPV p q)):R PV) = .ok (.bl (eqPV p q)):=rfl
  have hc:=hc0
  rw [e]
  rw [Bool.and_eq_true] at hc
  exact (eq_deep I sm 6 (by omega) rv ru rp rq hc.1 hc.2).1 _ _ _ _ ⟨_,.bl _,Hf,H,rfl,I,rfl,Ext.refl sm,.bl _⟩
theorem r_ne (hu:X.A.units+64<cLine):BinR X cl (compareOp .NotEq) cNe:=by
  intro pins s σ Hf H x y v u p q I sm rv ru rp rq hs
  unfold cNe at hs ⊢
  obtain ⟨hc,e⟩:=ifOk hs
  rw [e]
  rw [Bool.and_eq_true] at hc
  exact (eq_deep I sm 6 (by omega) rv ru rp rq hc.1 hc.2).2.2 _ _ _ _ ⟨_,.bl _,Hf,H,rfl,I,rfl,Ext.refl sm,.bl _⟩
end
theorem objOk_there {P:Program}{w:World}{H:Hp}{h:Heap}{a:Addr}{o:HO} (x:ObjOk P w H h a o):∃ ob,h.get? a=some ob:=by
  cases o with
  | lst xs=>obtain ⟨_,_,_,_,e⟩:=x;exact ⟨_,e⟩
  | tup xs=>obtain ⟨_,_,_,ob,e,_⟩:=x;exact ⟨_,e⟩
  | dK kvs=>obtain ⟨_,_,_,_,o,_,_,e,_⟩:=x;exact ⟨_,e⟩
  | dT kvs=>obtain ⟨_,_,_,_,o,_,_,e,_⟩:=x;exact ⟨_,e⟩
  | set S n=>obtain ⟨o,_,_,_,e,_⟩:=x;exact ⟨_,e⟩
  | ins C dx fs=>obtain ⟨_,_,_,e,_⟩:=x;exact ⟨_,e⟩
  | own y=>exact x
  | xd fs=>obtain ⟨_,⟨_,_,_,e,_⟩,_⟩:=x;exact ⟨_,e⟩
  | rng lo hi=>obtain ⟨_,_,_,e⟩:=x;exact ⟨_,e⟩
  | frz ob u=>exact ⟨_,x.1⟩
  | tbl ps=>exact ⟨_,(show h.get? a=some _ from x)⟩
  | met f y=>exact ⟨_,(show h.get? a=some _ from x)⟩
  | ext φ=>exact x.2.1
section
variable {X:Cx}{cl:Nat→Addr}{pins:List (Addr×Obj)}{s:Shared}{σ:SV}{Hf0 H0 Hf H Hf1 H1:Hp}{ρ:MEnv}{α:Type}{B h':Heap}
structure Own (X:Cx):Prop where
  stk:X.stack=X.env::X.outer
  fr:X.env.frame=some X.env.locals
  ex:∀ b,b ∉ X.ex
  fn:∀ x,X.fn x=true
theorem stands_there (W:Own X) (I:Inv X pins σ H s) {b:Addr} (h:Stands X pins H b):∃ o,s.heap.get? b=some o:=by
  rcases h with h | ⟨p,hp,e⟩ | ⟨o,h⟩ | ⟨x,h⟩
  · cases e:H b with
    | none=>exact absurd e h
    | some u=>exact objOk_there (I.hok b u e)
  · rw [← e];exact ⟨_,(I.pin p hp).1⟩
  · exact I.base.there b o h (W.ex b)
  · obtain ⟨v,o',q,_⟩:=I.cell x b h
    exact ⟨o',q⟩
theorem frs_stk (W:Own X) {b:Addr}:b∈frs X.stack↔b=X.env.locals∨b∈X.fs:=by
  rw [W.stk]
  unfold frs
  rw [List.filterMap_cons,W.fr]
  exact List.mem_cons
theorem Cov.upto (W:Own X) (I:Inv X pins σ H s) (c:Cov X pins H B s.heap) (st:B.StaysIn h'):Cov X pins H B h':=by
  intro b o e hs hn
  obtain ⟨o',e'⟩:=stands_there W I hs
  have q:=c b o' e' hs hn
  have:=st b o' q
  rw [e] at this;cases this
  exact q
theorem Inv.upto (W:Own X) (I:Inv X pins σ H s) (c:Cov X pins H B s.heap) (st:B.StaysIn h') (u:s.heap.UpToSlots h') {tk:Nat}:Inv X pins σ H { s with heap:=h',toks:=tk }:=by
  have keep:∀ b o,s.heap.get? b=some o→Stands X pins H b→b ∉ frs X.stack→h'.get? b=some o:=fun b o e hs hn=>st b o (c b o e hs hn)
  have fr:∀ b∈frs X.stack,∃ o,s.heap.get? b=some o∧∀ vs,o.data≠.fields vs:=fun b hb=>((I.stack).mem hb).2
  have lnl:X.env.locals∈frs X.stack:=(frs_stk W).mpr (.inl rfl)
  have hokx:HOk X.prog X.w H h':=fun a o e=>by
    have na:a ∉ frs X.stack:=fun z=>by rw [I.stkFree a z] at e;cases e
    refine (I.hok a o e).stay (fun b v hb q=>?_) (fun _ q=>q) fun _ _ q=>q
    rcases hb with rfl | hb
    · exact keep _ v q (.inl (by rw [e];intro z;cases z)) na
    · have nb:b ∉ frs X.stack:=fun z=>by rw [I.stkFree b z] at hb;cases hb
      exact keep b v q (.inl (by rw [hb];intro z;cases z)) nb
  obtain ⟨m,hn,hl⟩:=I.loc
  have old:∀ b o,X.s₀.heap.get? b=some o→b≠X.env.locals:=fun b o e z=>by
    have:=Heap.lt_size e
    rw [z] at this
    exact absurd (Nat.lt_of_lt_of_le this I.ok.above) (Nat.lt_irrefl _)
  have cells:∀ x cc v,X.env.cells.lookup x=some cc→s.heap.IsCell cc v→h'.IsCell cc v:=fun x cc v e q=>by
    obtain ⟨o,ho,hd⟩:=q
    have nf:cc ∉ frs X.stack:=fun z=>by
      rcases (frs_stk W).mp z with z | z
      · exact I.cne x cc e z
      · obtain ⟨_,o',ho',_⟩:=I.ok.funs.mem z
        exact absurd (Nat.lt_of_lt_of_le (Heap.lt_size ho') (I.ok.cab x cc (W.fn x) e)) (Nat.lt_irrefl _)
    exact ⟨o,keep cc o ho (.inr (.inr (.inr ⟨x,e⟩))) nf,hd⟩
  refine ⟨I.ok,I.os,I.bare,⟨fun b o e n hb hx=>?_,fun b o e n hb hx=>?_,I.base.free,fun b o e hx=>?_,I.base.tups,I.base.frzs,I.base.tbls⟩,⟨m,u.ns hn,fun i x v e1 e2 e3=>?_⟩,fun x cc e=>?_,I.free,I.freeC,fun p hp=>?_,hokx,I.len⟩
  · exact keep b o (I.base.keep b o e n hb hx) (.inr (.inr (.inl ⟨o,e⟩))) fun z=>((frs_stk W).mp z).elim (old b o e) hb
  · obtain ⟨sl,q⟩:=I.base.slot b o e n hb hx
    obtain ⟨o',ho',hnf⟩:=fr b ((frs_stk W).mpr (.inr hb))
    rw [q] at ho';cases ho'
    obtain ⟨sl',q'⟩:=u b _ q hnf
    exact ⟨sl',q'⟩
  · obtain ⟨o',q⟩:=I.base.there b o e hx
    by_cases hb:b∈frs X.stack
    · obtain ⟨o2,ho2,hnf⟩:=fr b hb
      obtain ⟨sl',q'⟩:=u b _ ho2 hnf
      exact ⟨_,q'⟩
    · exact ⟨o',keep b o' q (.inr (.inr (.inl ⟨o,e⟩))) hb⟩
  · obtain ⟨uu,r,l⟩:=hl i x v e1 e2 e3
    refine ⟨uu,r,?_⟩
    rcases l with l | ⟨hk,cc,hc,hcell⟩
    · exact .inl l
    · exact .inr ⟨hk,cc,hc,cells x cc _ hc hcell⟩
  · obtain ⟨v,q⟩:=I.cell x cc e
    exact ⟨v,cells x cc v e q⟩
  · obtain ⟨p1,p2,p3,p4,p5⟩:=I.pin p hp
    exact ⟨keep p.1 p.2 p1 (.inr (.inl ⟨p,hp,rfl⟩)) fun z=>((frs_stk W).mp z).elim p3 p4,p2,p3,p4,p5⟩
theorem Cov.fewer {pl:List (Addr×Obj)} (c:Cov X (pins ++ pl) H B h'):Cov X pins H B h':=fun b o e hs hn=>c b o e (by
  rcases hs with h | ⟨p,hp,q⟩ | h | h
  · exact .inl h
  · refine .inr (.inl ⟨p,?_,q⟩)
    rcases List.mem_append.mp hp with z | z
    · exact List.mem_append_left _ z
    · exact List.mem_append_right _ (List.mem_append_left _ z)
  · exact .inr (.inr (.inl h))
  · exact .inr (.inr (.inr h))) hn
theorem XSt.fewer {pl:List (Addr×Obj)}{e C:Addr} (x:XSt X (pins ++ pl) H e C h'):XSt X pins H e C h':=by
  obtain ⟨B,a0,c,d,r⟩:=x
  exact ⟨B,a0,c.fewer,d,r⟩
theorem NoD.keep {e:Addr}{h h':Heap} (d:NoD e h) (k:Kd e h h'):NoD e h':=by
  obtain ⟨o,h1,h2⟩:=d
  obtain ⟨o',h3,_,h4⟩:=k o h1
  exact ⟨o',h3,h4.trans h2⟩
theorem note_ok0 {M:Model}{A:Around}{E:Value→Shared→Prop}{e C:Addr}{a0:Value}{Q:Unit→Shared→Prop} (W:Own X) (hfr:A.frames=some X.stack)
    (x:FreshW B X.stack e (.ref C) a0 s.heap∨Heap.HeldW B X.stack e (.ref C) a0 X.env.locals s.heap∨Heap.FlyingW B X.stack e (.ref C) a0 s.heap)
    (h:∀ h',Heap.HeldW B X.stack e (.ref C) a0 X.env.locals h'→s.heap.UpToSlots h'→Q () { s with heap:=h' }):wpAny M A (noteFrame (.ref e) X.env) Q E s:=by
  rw [W.stk] at x h hfr
  rcases x with ⟨f1,f2,f3,oe,vs,he,hc,hdi,hd,h0,h1⟩ | x | x
  · unfold noteFrame
    simp only [W.fr]
    refine wpAny_bind (wpAny_field he hd h1 ?_)
    rw [if_neg (by decide)]
    refine wpAny_entryW hfr f3 W.fr he f1 f2 hd (Array.getElem?_eq_some_iff.mp h1).1 h0 fun h' hN=>?_
    obtain ⟨k1,k2,k3,k4⟩:=hN
    rw [hc] at k3
    exact h h' ⟨k1,f2,k2,k3⟩ k4
  · exact wpAny_noteFrame_againW W.fr x.2.2.2 (h s.heap x (Heap.UpToSlots.refl _))
  · exact wpAny_looks_onW hfr W.fr x h
theorem note_ok {M:Model}{A:Around}{E:Value→Shared→Prop}{e C:Addr}{a0:Value}{Q:Unit→Shared→Prop} (W:Own X) (hfr:A.frames=some X.stack) (nd:NoD e s.heap)
    (x:FreshW B X.stack e (.ref C) a0 s.heap∨Heap.HeldW B X.stack e (.ref C) a0 X.env.locals s.heap∨Heap.FlyingW B X.stack e (.ref C) a0 s.heap)
    (h:∀ h',Heap.HeldW B X.stack e (.ref C) a0 X.env.locals h'→s.heap.UpToSlots h'→NoD e h'→Q () { s with heap:=h' }):wpAny M A (noteFrame (.ref e) X.env) Q E s :=
  wpAny_mono ((tame_note (.ref e) X.env).any e (note_ok0 (E:=fun _ _=>False) (Q:=fun _ s'=>∃ h',s'={ s with heap:=h' }∧Heap.HeldW B X.stack e (.ref C) a0 X.env.locals h'∧s.heap.UpToSlots h') W hfr x fun h' a b=>⟨h',rfl,a,b⟩))
    (fun _ s' ⟨⟨h',e1,a,b⟩,k⟩=>by subst e1;exact h h' a b (nd.keep k)) fun _ _ ⟨z,_⟩=>z.elim
theorem lands_ok {M:Model}{A:Around}{E:Value→Shared→Prop}{e C:Addr}{a0:Value}{Q:Unit→Shared→Prop}{l:List Env}{L:Addr} (nd:NoD e s.heap) (R:Heap.HeldW B l e (.ref C) a0 L s.heap)
    (h:∀ h',Heap.FlyingW B l e (.ref C) a0 h'→s.heap.UpToSlots h'→NoD e h'→Q () { s with heap:=h' }):wpAny M A (setFlight (.ref e) none) Q E s :=
  wpAny_mono ((tame_setFlight (.ref e) none).any e (wpAny_landsW (E:=fun _ _=>False) (Q:=fun _ s'=>∃ h',s'={ s with heap:=h' }∧Heap.FlyingW B l e (.ref C) a0 h'∧s.heap.UpToSlots h') R fun h' a b=>⟨h',rfl,a,b⟩))
    (fun _ s' ⟨⟨h',e1,a,b⟩,k⟩=>by subst e1;exact h h' a b (nd.keep k)) fun _ _ ⟨z,_⟩=>z.elim
theorem again_ok {M:Model}{A:Around}{E:Value→Shared→Prop}{e C:Addr}{a0:Value}{Q:Unit→Shared→Prop}{l:List Env} (nd:NoD e s.heap) (R:Heap.FlyingW B l e (.ref C) a0 s.heap)
    (h:∀ h',Heap.FlyingW B l e (.ref C) a0 h'→s.heap.UpToSlots h'→NoD e h'→Q () { s with heap:=h' }):wpAny M A (setFlight (.ref e) none) Q E s :=
  wpAny_mono ((tame_setFlight (.ref e) none).any e (lands_againW (E:=fun _ _=>False) (Q:=fun _ s'=>∃ h',s'={ s with heap:=h' }∧Heap.FlyingW B l e (.ref C) a0 h'∧s.heap.UpToSlots h') R fun h' a b=>⟨h',rfl,a,b⟩))
    (fun _ s' ⟨⟨h',e1,a,b⟩,k⟩=>by subst e1;exact h h' a b (nd.keep k)) fun _ _ ⟨z,_⟩=>z.elim
theorem flight_ok0 {M:Model}{A:Around}{E:Value→Shared→Prop}{e C:Addr}{a0:Value}{Q:Unit→Shared→Prop}{l:List Env}{L:Addr} (R:Heap.HeldW B l e (.ref C) a0 L s.heap)
    (h:∀ h',Heap.HeldW B l e (.ref C) a0 L h'→s.heap.UpToSlots h'→Q () { s with heap:=h' }):wpAny M A (setFlight (.ref e) (some L)) Q E s:=by
  obtain ⟨hkb,hen,hl,oe,vs,T,oT,ts,he,hcls,hd,h1,hnT,hTe,hT,hdT,h3⟩:=R
  have hsz3:3<ts.size:=(Array.getElem?_eq_some_iff.mp h3).1
  have other:∀ b,b≠T→(s.heap.update T (Obj.mapFields (·.setIfInBounds 3 ((some L).elim Value.none fun f=>rawInt f)))).get? b=s.heap.get? b :=
    fun b hb=>Heap.get?_update_other _ _ (Ne.symm hb)
  have noRecord:∀ b o,s.heap.get? b=some o→(∀ vs,o.data≠.fields vs)→b≠T:=fun b o hb hnf q=>by
    rw [q,hT] at hb;injection hb with hb;subst hb;exact hnf ts hdT
  unfold setFlight
  refine wpAny_bind (wpAny_field he hd h1 ?_)
  rw [if_pos (show (Value.ref T != Value.none)=true from by simp)]
  refine wpAny_setField hT hdT hsz3 (h _ ⟨fun b o hbo=>(other b fun q=>by rw [q,hnT] at hbo;cases hbo).trans (hkb b o hbo),hen,
    hl.of_keeps fun b o hb hnf=>⟨o,(other b (noRecord b o hb hnf)).trans hb,rfl⟩,?_⟩ fun b o hb hnf=>⟨o.slots,(other b (noRecord b o hb hnf)).trans hb⟩)
  exact ⟨oe,vs,T,_,_,(other e (Ne.symm hTe)).trans he,hcls,hd,h1,hnT,hTe,Heap.get?_update_self _ hT (Obj.isFreed_of_fields (Obj.data_mapFields hdT _)),Obj.data_mapFields hdT _,by simp [hsz3]⟩
theorem flight_ok {M:Model}{A:Around}{E:Value→Shared→Prop}{e C:Addr}{a0:Value}{Q:Unit→Shared→Prop}{l:List Env}{L:Addr} (nd:NoD e s.heap) (R:Heap.HeldW B l e (.ref C) a0 L s.heap)
    (h:∀ h',Heap.HeldW B l e (.ref C) a0 L h'→s.heap.UpToSlots h'→NoD e h'→Q () { s with heap:=h' }):wpAny M A (setFlight (.ref e) (some L)) Q E s :=
  wpAny_mono ((tame_setFlight (.ref e) (some L)).any e (flight_ok0 (E:=fun _ _=>False) (Q:=fun _ s'=>∃ h',s'={ s with heap:=h' }∧Heap.HeldW B l e (.ref C) a0 L h'∧s.heap.UpToSlots h') R fun h' a b=>⟨h',rfl,a,b⟩))
    (fun _ s' ⟨⟨h',e1,a,b⟩,k⟩=>by subst e1;exact h h' a b (nd.keep k)) fun _ _ ⟨z,_⟩=>z.elim
theorem passes_of (W:Own X) {E:Value→Shared→Prop} (hE:∀ u s,E u s→∃ pins σ H e C,u = .ref e∧Inv X pins σ H s∧XSt X pins H e C s.heap∧∀ h',Inv X pins σ H { s with heap:=h' }→XSt X pins H e C h'→E u { s with heap:=h' }) :
    PassesOwn (model X.prog X.w) X.A X.env E:=by
  intro u s hu
  obtain ⟨pins,σ,H,e,C,rfl,I,⟨B,a0,c,nd,x⟩,k⟩:=hE u s hu
  refine note_ok W I.ok.frames nd x fun h1 hh u1 nd1=>?_
  have I1:=Inv.upto W I c hh.1 u1 (tk:=s.toks)
  have c1:=c.upto W I hh.1
  show wpAny _ _ _ _ _ _
  have hh':=hh
  obtain ⟨k1,k2,k3,oe,vs,T,oT,ts,he,hcls,hd,h1',_⟩:=hh'
  refine wpAny_bind (wpAny_field he hd h1' ?_)
  rw [if_neg (show ¬ ((Value.ref T == Value.none)=true) from by simp)]
  rw [W.fr]
  first
    | refine wpAny_bind (wpAny_pure ?_)
    | skip
  refine flight_ok (s:={ s with heap:=h1 }) nd1 hh fun h2 hh2 u2 nd2=>?_
  have I2:=Inv.upto W I1 c1 hh2.1 u2 (tk:=s.toks)
  exact k h2 I2 ⟨B,a0,c1.upto W I1 hh2.1,nd2,.inr (.inl hh2)⟩
end
section
variable (X:Cx) (cl:Nat→Addr)
def OkS (pins:List (Addr×Obj)) (Hf0 H0 Hg:Hp) (r:SR) (f:Flow) (s:Shared):Prop:=match f with
  | .next=>∃ ρ σ Hf H,r = .next ρ∧Inv X pins σ H s∧Rep X.K cl Hf0 H0 Hf H σ ρ∧Same Hg Hf
  | .brk=>∃ ρ σ Hf H,r = .brk ρ∧Inv X pins σ H s∧Rep X.K cl Hf0 H0 Hf H σ ρ∧Same Hg Hf
  | .cont=>∃ ρ σ Hf H,r = .cont ρ∧Inv X pins σ H s∧Rep X.K cl Hf0 H0 Hf H σ ρ∧Same Hg Hf
  | .ret u=>∃ p v σ Hf H,r = .ret p∧Inv X pins σ H s∧Ext Hf0 H0 Hf H∧RelV v u∧Rp X.K cl Hf v p
def ExS (pins:List (Addr×Obj)) (Hf0 H0 Hg:Hp) (r:SR) (u:Value) (s:Shared):Prop :=
  ∃ c ρ σ Hf H e,r = .exc c ρ∧u = .ref e∧Inv X pins σ H s∧Rep X.K cl Hf0 H0 Hf H σ ρ∧Same Hg Hf∧XSt X pins H e (cl c) s.heap
structure MS (st:Stmt) (f:FS):Prop where
  run':∀ (pins:List (Addr×Obj)) (s:Shared) (σ:SV) (Hf0 H0 Hf H:Hp) (ρ:MEnv),Inv X pins σ H s→Rep X.K cl Hf0 H0 Hf H σ ρ→f ρ≠.stuck →
    wpAny (model X.prog X.w) X.A (exec st X.env) (OkS X cl pins Hf0 H0 Hf (f ρ)) (ExS X cl pins Hf0 H0 Hf (f ρ)) s
instance {st:Stmt}{f:FS}:CoeFun (MS X cl st f) fun _=>∀ (pins:List (Addr×Obj)) (s:Shared) (σ:SV) (Hf0 H0 Hf H:Hp) (ρ:MEnv),Inv X pins σ H s→Rep X.K cl Hf0 H0 Hf H σ ρ→f ρ≠.stuck →
    wpAny (model X.prog X.w) X.A (exec st X.env) (OkS X cl pins Hf0 H0 Hf (f ρ)) (ExS X cl pins Hf0 H0 Hf (f ρ)) s:=⟨MS.run'⟩
structure MSs (st:List Stmt) (f:FS):Prop where
  run':∀ (pins:List (Addr×Obj)) (s:Shared) (σ:SV) (Hf0 H0 Hf H:Hp) (ρ:MEnv),Inv X pins σ H s→Rep X.K cl Hf0 H0 Hf H σ ρ→f ρ≠.stuck →
    wpAny (model X.prog X.w) X.A (execs st X.env) (OkS X cl pins Hf0 H0 Hf (f ρ)) (ExS X cl pins Hf0 H0 Hf (f ρ)) s
instance {st:List Stmt}{f:FS}:CoeFun (MSs X cl st f) fun _=>∀ (pins:List (Addr×Obj)) (s:Shared) (σ:SV) (Hf0 H0 Hf H:Hp) (ρ:MEnv),Inv X pins σ H s→Rep X.K cl Hf0 H0 Hf H σ ρ→f ρ≠.stuck →
    wpAny (model X.prog X.w) X.A (execs st X.env) (OkS X cl pins Hf0 H0 Hf (f ρ)) (ExS X cl pins Hf0 H0 Hf (f ρ)) s:=⟨MSs.run'⟩
end
section
variable {X:Cx}{cl:Nat→Addr}{pins:List (Addr×Obj)}{s:Shared}{σ:SV}{Hf0 H0 Hf H Hf1 H1:Hp}{ρ:MEnv}{α:Type}
theorem exs_of {c:Nat}{u:Value}{s':Shared} (r:Rep X.K cl Hf0 H0 Hf H σ ρ) (x:XAt X cl pins σ Hf H c u s'):ExS X cl pins Hf0 H0 Hf (.exc c ρ) u s':=by
  obtain ⟨e,Hf',H',rfl,I,ex,st⟩:=x
  exact ⟨c,ρ,σ,Hf',H',e,rfl,rfl,I,r.keep ex,ex.frz,st⟩
theorem OkS.from {Hg Hg':Hp}{r:SR}{fl:Flow}{s':Shared} (g:Same Hg Hg') (h:OkS X cl pins Hf0 H0 Hg' r fl s'):OkS X cl pins Hf0 H0 Hg r fl s':=by
  cases fl with
  | next=>obtain ⟨ρ,σ,Hf,H,a,b,c,d⟩:=h;exact ⟨ρ,σ,Hf,H,a,b,c,g.trans d⟩
  | brk=>obtain ⟨ρ,σ,Hf,H,a,b,c,d⟩:=h;exact ⟨ρ,σ,Hf,H,a,b,c,g.trans d⟩
  | cont=>obtain ⟨ρ,σ,Hf,H,a,b,c,d⟩:=h;exact ⟨ρ,σ,Hf,H,a,b,c,g.trans d⟩
  | ret u=>exact h
theorem ExS.from {Hg Hg':Hp}{r:SR}{u:Value}{s':Shared} (g:Same Hg Hg') (h:ExS X cl pins Hf0 H0 Hg' r u s'):ExS X cl pins Hf0 H0 Hg r u s':=by
  obtain ⟨c,ρ,σ,Hf,H,e,a,b,d,f,k,l⟩:=h
  exact ⟨c,ρ,σ,Hf,H,e,a,b,d,f,g.trans k,l⟩
theorem ME.stm {e:Expr}{f:FE} (h:ME X cl e f) (I:Inv X pins σ H s) (r:Rep X.K cl Hf0 H0 Hf H σ ρ) {k:PV→SR} (hs:ofR (f ρ) ρ k≠.stuck) {Q:Value→Shared→Prop}
    (ok:∀ p v u s' Hf' H',ofR (f ρ) ρ k=k p→Inv X pins σ H' s'→RelV v u→Ext Hf H Hf' H'→Rp X.K cl Hf' v p→Q u s') :
    wpAny (model X.prog X.w) X.A (eval e X.env) Q (ExS X cl pins Hf0 H0 Hf (ofR (f ρ) ρ k)) s:=by
  have hf:f ρ≠.stuck:=fun z=>hs (by rw [z];rfl)
  refine wpAny_mono (h pins s σ Hf0 H0 Hf H ρ I r hf) (fun u s' q=>?_) fun u s' q=>?_
  · obtain ⟨p,v,Hf',H',e1,I',rv,ex,rp⟩:=q
    exact ok p v u s' Hf' H' (by rw [e1];rfl) I' rv ex rp
  · obtain ⟨c,e1,x⟩:=q
    rw [e1]
    exact exs_of r x
theorem mss_nil:MSs X cl [] sNext:=⟨fun pins s σ Hf0 H0 Hf H ρ I r _=>wpAny_execs_nil ⟨ρ,σ,Hf,H,rfl,I,r,Same.refl _⟩⟩
theorem mss_cons {st:Stmt}{rest:List Stmt}{f g:FS} (h1:MS X cl st f) (h2:MSs X cl rest g):MSs X cl (st::rest) (sSeq f g):=by
  refine ⟨?_⟩
  intro pins s σ Hf0 H0 Hf H ρ I r hs
  have hf:f ρ≠.stuck:=fun z=>hs (by unfold sSeq;rw [z])
  refine wpAny_execs_cons (wpAny_mono (h1 pins s σ Hf0 H0 Hf H ρ I r hf) (fun fl s1 q=>?_) fun u s1 q=>?_)
  · cases fl with
    | next =>
      obtain ⟨ρ',σ',Hf',H',e1,I',r',sm⟩:=q
      have e2:sSeq f g ρ=g ρ':=by unfold sSeq;rw [e1]
      rw [e2] at hs ⊢
      exact wpAny_mono (h2 pins s1 σ' Hf0 H0 Hf' H' ρ' I' r' hs) (fun _ _ q=>q.from sm) fun _ _ q=>q.from sm
    | brk =>
      obtain ⟨ρ',σ',Hf',H',e1,I',r',sm⟩:=q
      have e2:sSeq f g ρ = .brk ρ':=by unfold sSeq;rw [e1]
      rw [e2];exact ⟨ρ',σ',Hf',H',rfl,I',r',sm⟩
    | cont =>
      obtain ⟨ρ',σ',Hf',H',e1,I',r',sm⟩:=q
      have e2:sSeq f g ρ = .cont ρ':=by unfold sSeq;rw [e1]
      rw [e2];exact ⟨ρ',σ',Hf',H',rfl,I',r',sm⟩
    | ret u =>
      obtain ⟨p,v,σ',Hf',H',e1,I',ex,rv,rp⟩:=q
      have e2:sSeq f g ρ = .ret p:=by unfold sSeq;rw [e1]
      rw [e2];exact ⟨p,v,σ',Hf',H',rfl,I',ex,rv,rp⟩
  · obtain ⟨c,ρ',σ',Hf',H',e,e1,eu,I',r',sm,x⟩:=q
    have e2:sSeq f g ρ = .exc c ρ':=by unfold sSeq;rw [e1]
    rw [e2];exact ⟨c,ρ',σ',Hf',H',e,rfl,eu,I',r',sm,x⟩
theorem mss_one {st:Stmt}{f:FS} (h1:MS X cl st f):MSs X cl [st] f:=by
  refine ⟨?_⟩
  intro pins s σ Hf0 H0 Hf H ρ I r hs
  refine wpAny_execs_cons (thn (h1 pins s σ Hf0 H0 Hf H ρ I r hs) fun fl s1 q=>?_)
  cases fl with
  | next=>exact wpAny_execs_nil q
  | ret v=>exact q
  | brk=>exact q
  | cont=>exact q
theorem ms_expr {e:Expr}{f:FE}{pos:Pos} (h:ME X cl e f) (hsw:swapsWith e none pos.line X.env=pure false:=by rfl):MS X cl (.Expr e pos) (sExpr f):=by
  refine ⟨?_⟩
  intro pins s σ Hf0 H0 Hf H ρ I r hs
  unfold sExpr at hs ⊢
  refine wpAny_Expr_any (h.stm I r hs fun p v u s1 Hf1 H1 e1 I1 rv x1 rp=>?_) I.quiet hsw
  rw [e1]
  exact ⟨ρ,σ,Hf1,H1,rfl,I1,r.keep x1,x1.frz⟩
theorem ms_ret {e:Expr}{f:FE}{pos:Pos} (h:ME X cl e f):MS X cl (.Return (some e) pos) (sRet f):=by
  refine ⟨?_⟩
  intro pins s σ Hf0 H0 Hf H ρ I r hs
  unfold sRet at hs ⊢
  refine wpAny_Return_some (h.stm I r hs fun p v u s1 Hf1 H1 e1 I1 rv x1 rp=>?_)
  rw [e1]
  exact ⟨p,v,σ,Hf1,H1,rfl,I1,r.ext.trans x1,rv,rp⟩
theorem ms_set {i:Nat}{x:Str}{e:Expr}{f:FE}{pos pos':Pos} (hN:X.N.Nodup) (hi:X.N[i]?=some x) (hx:Loc X.env.scope x) (he:ME X cl e f) (hsw:swapsWith e (some (.Name x pos')) pos.line X.env=pure false:=by rfl)
    (hf:X.fn x=true∨X.env.scope.names.lookup x=some .local:=by first | exact .inl rfl | exact .inr rfl | assumption):MS X cl (.Assign [.Name x pos'] e pos) (sSet i f):=by
  refine ⟨?_⟩
  intro pins s σ Hf0 H0 Hf H ρ I r hs
  unfold sSet at hs ⊢
  refine wpAny_Assign_Name (he.stm I r hs fun p v u s1 Hf1 H1 e1 I1 rv x1 rp=>?_) hsw
  rw [e1]
  have hl:i<σ.length:=by rw [I.len];exact (List.getElem?_eq_some_iff.mp hi).1
  exact store_ok I1 hN hi hx rv (fun s2 I2=>⟨_,_,Hf1,H1,rfl,I2,(r.keep x1).set i rp hl,x1.frz⟩) hf
theorem ms_if {c:Expr}{a b:List Stmt}{t:FT}{f g:FS}{pos:Pos} (hc:MT X cl c t) (ha:MSs X cl a f) (hb:MSs X cl b g):MS X cl (.If c a b pos) (sIf t f g):=by
  refine ⟨?_⟩
  intro pins s σ Hf0 H0 Hf H ρ I r hs
  have ht:t ρ≠.stuck:=fun z=>hs (by unfold sIf;rw [z])
  refine wpAny_If (wpAny_mono (hc pins s σ Hf0 H0 Hf H ρ I r ht) (fun d s1 q=>?_) fun u s1 q=>?_)
  · obtain ⟨Hf1,H1,e1,I1,x1⟩:=q
    cases d with
    | true =>
      have e2:sIf t f g ρ=f ρ:=by unfold sIf;rw [e1];rfl
      rw [e2] at hs ⊢
      exact wpAny_mono (ha pins s1 σ Hf0 H0 Hf1 H1 ρ I1 (r.keep x1) hs) (fun _ _ q=>q.from x1.frz) fun _ _ q=>q.from x1.frz
    | false =>
      have e2:sIf t f g ρ=g ρ:=by unfold sIf;rw [e1];rfl
      rw [e2] at hs ⊢
      exact wpAny_mono (hb pins s1 σ Hf0 H0 Hf1 H1 ρ I1 (r.keep x1) hs) (fun _ _ q=>q.from x1.frz) fun _ _ q=>q.from x1.frz
  · obtain ⟨c,e1,x⟩:=q
    have e2:sIf t f g ρ = .exc c ρ:=by unfold sIf;rw [e1]
    rw [e2]
    exact exs_of r x
def Over (J:It) (Hg:Hp) (vs:List V):Prop:=∀ H i,Same Hg H→(i<vs.length→J.go i H∧∀ x H',J.yld i H x H'→H'=H∧vs[i]?=some x)∧(vs.length≤i→J.stop i H)
def OkI (X:Cx) (cl:Nat→Addr) (tg:Expr) (pins:List (Addr×Obj)) (σ:SV) (Hf H:Hp) (r:R (List PV)) (itv:Value) (s2:Shared):Prop :=
  ∃ (ps:List PV) (vs:List V) (Hf':Hp),r = .ok ps∧PIE X pins σ tg (fun J H'=>Ext Hf H Hf' H'∧Over J Hf' vs∧Rps X.K cl Hf' vs ps) itv s2
structure MI (X:Cx) (cl:Nat→Addr) (tg iter:Expr) (f:FA):Prop where
  run':∀ (pins:List (Addr×Obj)) (s:Shared) (σ:SV) (Hf0 H0 Hf H:Hp) (ρ:MEnv),Inv X pins σ H s→Rep X.K cl Hf0 H0 Hf H σ ρ→f ρ≠.stuck →
    wpAny (model X.prog X.w) X.A (eval iter X.env) (fun v s1=>wpAny (model X.prog X.w) X.A (pyIter v) (OkI X cl tg pins σ Hf H (f ρ)) (ExP X cl pins σ Hf H (f ρ)) s1) (ExP X cl pins σ Hf H (f ρ)) s
instance {X:Cx}{cl:Nat→Addr}{tg iter:Expr}{f:FA}:CoeFun (MI X cl tg iter f) fun _=>∀ (pins:List (Addr×Obj)) (s:Shared) (σ:SV) (Hf0 H0 Hf H:Hp) (ρ:MEnv),Inv X pins σ H s→Rep X.K cl Hf0 H0 Hf H σ ρ→f ρ≠.stuck →
    wpAny (model X.prog X.w) X.A (eval iter X.env) (fun v s1=>wpAny (model X.prog X.w) X.A (pyIter v) (OkI X cl tg pins σ Hf H (f ρ)) (ExP X cl pins σ Hf H (f ρ)) s1) (ExP X cl pins σ Hf H (f ρ)) s:=⟨MI.run'⟩
theorem over_tup {K:PySem.W.Frag}{a:Addr}{xs:List V}{Hg:Hp} (h:SqT K Hg a xs):Over (Itt K a) Hg xs:=fun H i sm =>
  ⟨fun hi=>⟨⟨xs,xs[i],Same.seqT sm h,by simp [hi]⟩,fun x H' ⟨e,y⟩=>⟨e,y xs (Same.seqT sm h)⟩⟩,fun hi=>⟨xs,Same.seqT sm h,hi⟩⟩
theorem over_list' {K:PySem.W.Frag}{a:Addr}{xs:List V}{Hg:Hp} (h:SqL K Hg a xs):Over (Itl K a) Hg xs:=fun H i sm =>
  ⟨fun hi=>⟨⟨xs,xs[i],sm.seq h,by simp [hi]⟩,fun x H' ⟨e,y⟩=>⟨e,y xs (sm.seq h)⟩⟩,fun hi=>⟨xs,sm.seq h,hi⟩⟩
theorem mi_seq {tg iter:Expr}{f:FE} (h:ME X cl iter f):MI X cl tg iter (iSeq f):=by
  refine ⟨?_⟩
  intro pins s σ Hf0 H0 Hf H ρ I r hs
  unfold iSeq at hs ⊢
  refine h.run I r (Ext.refl r.sub) hs fun p v u s1 Hf1 H1 e1 I1 rv x1 rp=>?_
  rw [e1] at hs ⊢
  cases p<;>first
    | exact absurd rfl hs
    | skip
  · rename_i l
    cases rp with
    | tup hq rr =>
      cases rv
      obtain ⟨its,w,pl,hz⟩:=I1.tuple (Same.seqT x1.sub hq)
      refine wpAny_pyIter_tuple (show s1.heap.IsTuple _ its.toArray from pl) ?_
      refine ⟨l,_,Hf1,rfl,s1.heap.objs.size,[s1.heap.objs.size],_,_,H1,rfl,I1.kept (t':=s1.toks) fun b o e=>Heap.get?_push_of_some _ e,turn_tuple _ _,⟨_,Heap.get?_push_size _ rfl,rfl,rfl⟩,fun b hb=>?_,x1,over_tup hq,rr⟩
      have e:b=s1.heap.objs.size:=by simpa using hb
      subst e
      exact I1.fpOk (Nat.le_refl _) (I1.hok.fresh (Nat.le_refl _))
  · rename_i l
    cases rp with
    | lst hq rr =>
      cases rv
      obtain ⟨its,w,pl,hz⟩:=I1.list (x1.sub.seq hq)
      refine wpAny_pyIter_list pl.isList ?_
      refine ⟨l,_,Hf1,rfl,s1.heap.objs.size,[s1.heap.objs.size],_,_,H1,rfl,I1.kept (t':=s1.toks) fun b o e=>Heap.get?_push_of_some _ e,turn_list _ _,⟨_,Heap.get?_push_size _ rfl,rfl,rfl⟩,fun b hb=>?_,x1,over_list' hq,rr⟩
      have e:b=s1.heap.objs.size:=by simpa using hb
      subst e
      exact I1.fpOk (Nat.le_refl _) (I1.hok.fresh (Nat.le_refl _))
theorem passes_exs (W:Own X) {r:SR}{Hg:Hp}:PassesOwn (model X.prog X.w) X.A X.env (ExS X cl pins Hf0 H0 Hg r):=passes_of W fun u s ⟨c,ρ,σ,Hf,H,e,e1,eu,I,rr,sm,x⟩ =>
  ⟨pins,σ,H,e,cl c,eu,I,x,fun h' I' x'=>⟨c,ρ,σ,Hf,H,e,e1,eu,I',rr,sm,x'⟩⟩
theorem ms_for {i:Nat}{x:Str}{iter:Expr}{body:List Stmt}{f:FA}{g:FS}{pos pos':Pos} (W:Own X) (hc:X.calm=true) (hN:X.N.Nodup) (hi:X.N[i]?=some x) (hx:Loc X.env.scope x) (h:MI X cl (.Name x pos') iter f) (hb:MSs X cl body g)
    (hf:X.fn x=true∨X.env.scope.names.lookup x=some .local:=by first | exact .inl rfl | exact .inr rfl | assumption) (hfs:∀ y,foldedSetIterable iter X.env y=pure y:=by intro _;rfl) :
    MS X cl (.For (.Name x pos') iter body [] pos) (sFor i f g):=by
  refine ⟨?_⟩
  intro pins s σ Hf0 H0 Hf H ρ I r hs
  have hfr:f ρ≠.stuck:=fun z=>hs (by unfold sFor;rw [z])
  have hE:∀ u s',ExP X cl pins σ Hf H (f ρ) u s'→ExS X cl pins Hf0 H0 Hf (sFor i f g ρ) u s':=fun u s' ⟨c,e1,y⟩=>by
    have e2:sFor i f g ρ = .exc c ρ:=by unfold sFor;rw [e1]
    rw [e2];exact exs_of r y
  refine wpAny_For (wpAny_mono (h pins s σ Hf0 H0 Hf H ρ I r hfr) (fun v s1 h1=>wpAny_mono h1 (fun itv s2 h2=>?_) hE) hE) hfs
  obtain ⟨ps,vs,Hf2,e1,it,fp,tn,J,H2,e,I2,T,st2,f2,x2,ov,rps⟩:=h2
  subst e
  have e2:sFor i f g ρ=forL i g ps ρ:=by unfold sFor;rw [e1]
  rw [e2] at hs ⊢
  have hp:PassesOwn (model X.prog X.w) X.A X.env (ExS X cl pins Hf0 H0 Hf (forL i g ps ρ)):=passes_exs W
  have stat:∀ {H':Hp},(∀ b∈fp,H' b=none)→∀ b∈fp,FpOk X pins H' b:=fun hn b hb=>⟨hn b hb,(f2 b hb).2⟩
  have hil:∀ {σ':SV}{H':Hp}{s':Shared},Inv X pins σ' H' s'→i<σ'.length:=fun I'=>by rw [I'.len];exact (List.getElem?_eq_some_iff.mp hi).1
  refine codeAny_forLoop_any (fun n s'=>∃ k ρ' σ' Hf' H',Inv X pins σ' H' s'∧tn k s'.heap∧(∀ b∈fp,H' b=none)∧Rep X.K cl Hf0 H0 Hf' H' σ' ρ'∧Same Hf2 Hf'∧n=ps.length - k∧k≤ps.length∧forL i g (ps.drop k) ρ'=forL i g ps ρ) ?_ ps.length
    ⟨0,ρ,σ,Hf2,H2,I2,st2,fun b hb=>(f2 b hb).1,r.keep x2,Same.refl _,rfl,Nat.zero_le _,rfl⟩
  rintro n s3 ⟨k,ρ3,σ3,Hf3,H3,I3,st3,fr3,r3,sm3,rfl,hk,e3⟩
  have hvp:=rps.length
  have smH:Same Hf2 H3:=sm3.trans r3.sub
  by_cases hlt:k<ps.length
  · obtain ⟨go,yl⟩:=(ov H3 k smH).1 (by rw [hvp];exact hlt)
    refine wpAny_passesOwn hp (wpAny_mono (T.item X rfl rfl rfl hc k pins s3 σ3 H3 (ExS X cl pins Hf0 H0 Hf (forL i g ps ρ)) I3 (stat fr3) st3 go) (fun rr s4 ⟨u,hr,h4⟩=>?_) fun _ _ z=>z)
    subst hr
    refine wpAny_passesOwn hp (thn h4 fun _ s5 ⟨x5,H5,I5,r5,y5,st5,fr5⟩=>?_)
    obtain ⟨eH,ex5⟩:=yl x5 H5 y5
    subst eH
    obtain ⟨p5,ep5,rp5⟩:=rps.get' ex5
    have rp5':=rp5.keep sm3
    have hdrop:ps.drop k=p5::ps.drop (k+1):=by
      rw [List.drop_eq_getElem_cons hlt]
      rw [List.getElem?_eq_getElem hlt] at ep5
      rw [Option.some.inj ep5]
    have I5':=I5.pinned (stat fr5) (T.obj _ _ st5)
    refine wpAny_passesOwn hp (wpAny_assign_Name (store_ok I5' hN hi hx r5 (fun s6 I6=>?_) hf))
    have r6:=r3.set i rp5' (hil I3)
    rw [hdrop] at e3
    have step:forL i g (p5::ps.drop (k+1)) ρ3=(match g (ρ3.set i (some p5)) with | .next ρ'=>forL i g (ps.drop (k+1)) ρ' | .cont ρ'=>forL i g (ps.drop (k+1)) ρ' | .brk ρ'=>.next ρ' | o=>o):=rfl
    rw [step] at e3
    have hg:g (ρ3.set i (some p5))≠.stuck:=fun z=>hs (by rw [← e3,z])
    have smHf:Same Hf Hf3:=x2.frz.trans sm3
    refine wpAny_passesOwn hp (wpAny_mono (hb _ s6 _ Hf0 H0 Hf3 H5 _ I6 r6 hg) (fun fl s7 q7=>?_) fun u s7 q7=>?_)
    · have again:∀ {ρ7:MEnv}{σ7:SV}{Hf7 H7:Hp},Inv X (pins ++ pinsAt fp s5.heap) σ7 H7 s7→Rep X.K cl Hf0 H0 Hf7 H7 σ7 ρ7→Same Hf2 Hf7→forL i g (ps.drop (k+1)) ρ7=forL i g ps ρ →
          ∃ m,m<ps.length - k∧∃ k ρ' σ' Hf' H',Inv X pins σ' H' s7∧tn k s7.heap∧(∀ b∈fp,H' b=none)∧Rep X.K cl Hf0 H0 Hf' H' σ' ρ'∧Same Hf2 Hf'∧m=ps.length - k∧k≤ps.length∧forL i g (ps.drop k) ρ'=forL i g ps ρ:=fun {ρ7 σ7 Hf7 H7} I7 r7 sm7 e7=>by
        refine ⟨ps.length - (k+1),by omega,k+1,ρ7,σ7,Hf7,H7,I7.unpinned,T.keep _ _ _ st5 fun b hb o e=>(I7.pin (b,o) (List.mem_append_right _ (List.mem_append_right _ (mem_pinsAt hb e)))).1,fun b hb=>?_,r7,sm7,rfl,hlt,e7⟩
        obtain ⟨o,e,d⟩:=T.obj _ _ st5 b hb
        exact (I7.pin (b,o) (List.mem_append_right _ (List.mem_append_right _ (mem_pinsAt hb e)))).2.1
      cases fl with
      | next =>
        obtain ⟨ρ7,σ7,Hf7,H7,e7,I7,r7,sm7⟩:=q7
        rw [e7] at e3
        exact again I7 r7 (sm3.trans sm7) e3
      | cont =>
        obtain ⟨ρ7,σ7,Hf7,H7,e7,I7,r7,sm7⟩:=q7
        rw [e7] at e3
        exact again I7 r7 (sm3.trans sm7) e3
      | brk =>
        obtain ⟨ρ7,σ7,Hf7,H7,e7,I7,r7,sm7⟩:=q7
        rw [e7] at e3
        rw [← e3]
        exact ⟨ρ7,σ7,Hf7,H7,rfl,I7.unpinned,r7,smHf.trans sm7⟩
      | ret u =>
        obtain ⟨p7,v7,σ7,Hf7,H7,e7,I7,ex7,rv7,rp7⟩:=q7
        rw [e7] at e3
        rw [← e3]
        exact ⟨p7,v7,σ7,Hf7,H7,rfl,I7.unpinned,ex7,rv7,rp7⟩
    · obtain ⟨c7,ρ7,σ7,Hf7,H7,ee7,e7,eu7,I7,r7,sm7,x7⟩:=q7
      rw [e7] at e3
      rw [← e3]
      exact ⟨c7,ρ7,σ7,Hf7,H7,ee7,rfl,eu7,I7.unpinned,r7,smHf.trans sm7,x7.fewer⟩
  · have hke:k=ps.length:=by omega
    subst hke
    refine wpAny_passesOwn hp (thn (T.done X rfl rfl rfl hc ps.length pins s3 σ3 H3 _ I3 (stat fr3) st3 ((ov H3 ps.length smH).2 (by rw [hvp];exact Nat.le_refl _))) fun rr s4 ⟨hr,I4⟩=>?_)
    subst hr
    rw [List.drop_length] at e3
    rw [← e3]
    exact wpAny_execs_nil ⟨ρ3,σ3,Hf3,H3,rfl,I4,r3,x2.frz.trans sm3⟩
end
section
variable {K:PySem.W.Frag}{cl:Nat→Addr}{Hf H:Hp}
theorem rep_start {n:Nat}{N:List Str}{vs:List V}{ps:List PV} (hn:N.length=n) (sm:Same Hf H) (r:Rps K cl Hf vs ps):Rep K cl Hf H Hf H (L2.start N vs) (Mi.start n ps):=by
  have hl:=r.length
  have get:∀ {i:Nat}{p:PV},(Mi.start n ps)[i]?=some (some p)→ps[i]?=some p:=fun {i p} h=>by
    unfold Mi.start at h
    by_cases hi:i<ps.length
    · rw [List.getElem?_append_left (by simpa using hi),List.getElem?_map] at h
      cases e:ps[i]? with
      | none=>rw [e] at h;cases h
      | some q=>rw [e] at h;cases h;rfl
    · rw [List.getElem?_append_right (by simpa using hi),List.getElem?_replicate] at h
      split at h<;>cases h
  have noown:∀ {i:Nat}{l:List PV},ps[i]?≠some (.own l):=fun {i l} e=>by
    obtain ⟨v,_,h⟩:=r.get e
    cases h
  refine ⟨Ext.refl sm,fun i p h=>?_,fun i j a b _ h _ _ _=>absurd (get h) noown⟩
  have e:=get h
  obtain ⟨v,h1,h2⟩:=r.get e
  refine ⟨v,?_,?_⟩
  · unfold L2.start
    have hi:i<vs.length:=(List.getElem?_eq_some_iff.mp h1).1
    rw [List.getElem?_append_left (by simpa using hi),List.getElem?_map,h1]
    rfl
  · cases p with
    | own l=>exact absurd e noown
    | _=>exact h2
end
section
variable {P:Program}{w:World}{K:PySem.W.Frag}{mg:Str→Option Value}{base:Heap}{cl:Nat→Addr}
noncomputable abbrev cxM (P:Program) (w:World) (K:PySem.W.Frag) (mg:Str→Option Value) (base:Heap) (cl:Nat→Addr) (N:List Str) (qual:Str) (scope:Scope) (f:Addr) (cd:Value) (A:Around) (outer:List Env) (s:Shared) (H:Hp) (E:XK):Cx :=
  cxOf (CXm cl P w) P w K mg base N qual scope f cd A outer s H E
theorem own_cx {N:List Str}{qual:Str}{scope:Scope}{f:Addr}{cd:Value}{A:Around}{outer:List Env}{s:Shared}{H:Hp}{E:XK}:Own (cxM P w K mg base cl N qual scope f cd A outer s H E) :=
  ⟨rfl,rfl,fun b z=>absurd (show b∈([]:List Addr) from z) (by simp),fun _=>rfl⟩
theorem leaves_ok {N:List Str}{qual:Str}{scope:Scope}{f:Addr}{cd:Value}{A:Around}{outer:List Env}{s s':Shared}{H H':Hp}{E:XK}{pins:List (Addr×Obj)}{σ:SV}{e:Addr}{c:Nat}
    (I:Inv (cxM P w K mg base cl N qual scope f cd A outer s H E) pins σ H' s') (x:XSt (cxM P w K mg base cl N qual scope f cd A outer s H E) pins H' e (cl c) s'.heap) (hE:E (.ref (cl c)) none H') :
    (cxM P w K mg base cl N qual scope f cd A outer s H E).xe (.ref e) s':=by
  have W:=own_cx (P:=P) (w:=w) (K:=K) (mg:=mg) (base:=base) (cl:=cl) (N:=N) (qual:=qual) (scope:=scope) (f:=f) (cd:=cd) (A:=A) (outer:=outer) (s:=s) (H:=H) (E:=E)
  obtain ⟨B,a0,cov,nd,st⟩:=x
  show wpAny _ _ (leaving _ _) _ _ s'
  unfold leaving
  refine wpAny_bind (note_ok W I.ok.frames nd st fun h1 hh u1 nd1=>?_)
  have I1:=Inv.upto W I cov hh.1 u1 (tk:=s'.toks)
  have c1:=cov.upto W I hh.1
  refine lands_ok (s:={ s' with heap:=h1 }) nd1 hh fun h2 hf u2 nd2=>?_
  have I2:=Inv.upto W I1 c1 hf.1 u2 (tk:=s'.toks)
  have c2:=c1.upto W I1 hf.1
  refine ⟨e,c,H',B,a0,rfl,I2.os,I2.bare,I2.base,I2.hok,?_,fun b o hb hc hn=>?_,nd2,hE⟩
  · have hf':Heap.FlyingW B ((cxM P w K mg base cl N qual scope f cd A outer s H E).env::outer) e (.ref (cl c)) a0 h2:=hf
    obtain ⟨k1,k2,⟨_,_,k3⟩,k4⟩:=hf'
    exact ⟨k1,k2,k3,k4⟩
  · refine c2 b o hb ?_ fun z=>?_
    · rcases hc with hc | hc
      · exact .inl hc
      · exact .inr (.inr (.inl hc))
    · rcases (frs_stk W).mp z with z | z
      · rcases hc with hc | ⟨o₀,hc⟩
        · exact hc (by rw [z];exact I2.free)
        · have h1:=Heap.lt_size hc
          rw [z] at h1
          exact absurd (Nat.lt_of_lt_of_le h1 I2.ok.above) (Nat.lt_irrefl _)
      · exact hn z
theorem fn_mirror {x qual:Str}{st:Stmt}{f:Addr}{fd:FuncData}{N ps:List Str}{k n:Nat}{b:FS} (F:Fun K x qual st f fd) (S:FnScope N ps (defScope st)) (hn:ps.length=n)
    (hbody:∀ (cdv:Value) (A:Around) (outer:List Env) (s:Shared) (H:Hp) (E:XK),Room k (A.deeper (envOfC qual (defScope st) s.heap.objs.size f cdv)) →
      MSs (cxM P w K mg base cl N qual (defScope st) f cdv A outer s H E) cl (defBody st) b):FnOk P w K mg base (CXm cl P w) (k+1) f fd ps (spF K cl n (runF N.length b)):=by
  obtain ⟨oc,od,kV,doc,pm,an,cdv,ct,osl,rfl,lk,hcd⟩:=F.ex
  refine fn_of lk hcd S (fun vs H Q E h=>by rw [h.1,hn]) fun A outer s H vs Q E hr hsp=>?_
  obtain ⟨hl,Hf,qs,sm,rps,hs,hok,hex⟩:=hsp
  have hb:=hbody cdv A outer s H E hr
  have hs':b (Mi.start N.length qs)≠.stuck:=fun z=>hs (by unfold runF;rw [z])
  refine ⟨fun D σ H1=>σ=L2.start N vs∧H1=H∧D={ nx:=fun _ H'=>Q .non H',rt:=Q },fun pins s1 σ H1 D I h=>?_,rfl,rfl,rfl⟩
  obtain ⟨rfl,rfl,rfl⟩:=h
  refine wpAny_mono (hb pins s1 _ Hf H1 Hf H1 _ I (rep_start rfl sm rps) hs') (fun fl s2 q=>?_) fun u s2 q=>?_
  · cases fl with
    | next =>
      obtain ⟨ρ',σ',Hf',H',e1,I',r',_⟩:=q
      exact ⟨σ',H',I',hok .non .non Hf' H' (by unfold runF;rw [e1]) r'.ext .non⟩
    | ret u =>
      obtain ⟨p,v,σ',Hf',H',e1,I',ex,rv,rp⟩:=q
      exact ⟨v,σ',H',I',rv,hok p v Hf' H' (by unfold runF;rw [e1]) ex rp⟩
    | brk =>
      obtain ⟨ρ',σ',Hf',H',e1,I',r',_⟩:=q
      exact absurd (by unfold runF;rw [e1]) hs
    | cont =>
      obtain ⟨ρ',σ',Hf',H',e1,I',r',_⟩:=q
      exact absurd (by unfold runF;rw [e1]) hs
  · obtain ⟨c,ρ',σ',Hf',H',e,e1,rfl,I',r',_,x⟩:=q
    exact leaves_ok I' x (hex c Hf' H' (by unfold runF;rw [e1]) r'.ext)
end
noncomputable def tyS:Ty→String
  | .int=>"int" | .bool=>"bool" | .str=>"str" | .tuple=>"tuple" | .list=>"list" | .dict=>"dict"
noncomputable def tyN:Ty→Str
  | .int=>"int" | .bool=>"bool" | .str=>"str" | .tuple=>"tuple" | .list=>"list" | .dict=>"dict"
theorem tyN_boot (t:Ty):bootBuiltins (tyN t)=some (.type (tyS t)):=by
  cases t
  · exact boot_int
  · exact boot_bool
  · exact boot_str
  · exact boot_tuple
  · exact boot_list
  · exact boot_dict
section
variable {K:PySem.W.Frag}
theorem kit_none (t:Ty):PySem.W.kitOne K (.type "NoneType") (.type (tyS t))=some false:=by cases t<;>rfl
theorem kit_bool (t:Ty):PySem.W.kitOne K (.type "bool") (.type (tyS t))=some (match t with | .int=>true | .bool=>true | _=>false):=by cases t<;>rfl
theorem kit_int (t:Ty):PySem.W.kitOne K (.type "int") (.type (tyS t))=some (match t with | .int=>true | _=>false):=by cases t<;>rfl
theorem kit_str (t:Ty):PySem.W.kitOne K (.type "str") (.type (tyS t))=some (match t with | .str=>true | _=>false):=by cases t<;>rfl
theorem kit_tuple (t:Ty):PySem.W.kitOne K (.type "tuple") (.type (tyS t))=some (match t with | .tuple=>true | _=>false):=by cases t<;>rfl
theorem kit_list (t:Ty):PySem.W.kitOne K (.type "list") (.type (tyS t))=some (match t with | .list=>true | _=>false):=by cases t<;>rfl
theorem kit_dict (t:Ty):PySem.W.kitOne K (.type "dict") (.type (tyS t))=some (match t with | .dict=>true | _=>false):=by cases t<;>rfl
end
section
variable {X:Cx}{cl:Nat→Addr}{pins:List (Addr×Obj)}{s:Shared}{σ:SV}{Hf0 H0 Hf H Hf1 H1:Hp}{ρ:MEnv}{α:Type}
theorem isinst_run {p:PV}{v:V}{u:Value}{t:Ty}{b:Bool}{E:Value→Shared→Prop} (I:Inv X pins σ H s) (sm:Same Hf H) (rv:RelV v u) (rp:Rp X.K cl Hf v p) (h:isTy p t=some b) :
    wpAny (model X.prog X.w) X.A (call (.builtin "isinstance") [u,.type (tyS t)]) (OkP X cl pins σ Hf H (.ok (.bl b))) E s:=by
  have fin:∀ tk,OkP X cl pins σ Hf H (.ok (.bl b)) (.bool b) { s with toks:=tk }:=fun tk=>⟨.bl b,.bl b,Hf,H,rfl,I.tok _,rfl,Ext.refl sm,.bl b⟩
  cases rp with
  | non=>cases rv;exact PySem.W.kia_one PySem.W.kitx_none I.kIn True.intro (by rw [kit_none];cases t<;>exact h) (fun z=>nomatch z) fin
  | bl c=>cases rv;exact PySem.W.kia_one PySem.W.kitx_bool I.kIn True.intro (by rw [kit_bool];cases t<;>exact h) (fun z=>nomatch z) fin
  | int c=>obtain ⟨tk,rfl⟩:=rv;exact PySem.W.kia_one PySem.W.kitx_int I.kIn True.intro (by rw [kit_int];cases t<;>exact h) (fun z=>nomatch z) fin
  | str c=>obtain ⟨tk,rfl⟩:=rv;exact PySem.W.kia_one PySem.W.kitx_str I.kIn True.intro (by rw [kit_str];cases t<;>exact h) (fun z=>nomatch z) fin
  | tup hq r =>
    cases rv
    obtain ⟨its,w,⟨o,h1,h2,_⟩,_⟩:=I.tuple (Same.seqT sm hq)
    exact PySem.W.kia_one PySem.W.kitx_tuple I.kIn ⟨o,h1,h2⟩ (by rw [kit_tuple];cases t<;>exact h) (fun z=>nomatch z) fin
  | lst hq r =>
    cases rv
    obtain ⟨its,w,⟨o,n,h1,h2,_⟩,_⟩:=I.list (sm.seq hq)
    exact PySem.W.kia_one PySem.W.kitx_list I.kIn ⟨o,h1,h2⟩ (by rw [kit_list];cases t<;>exact h) (fun z=>nomatch z) fin
  | exc hq=>cases t<;>cases h
  | ins hq=>cases t<;>cases h
  | dic0 hq =>
    cases rv
    obtain ⟨_,_,vs,_,o,es,ep,h1,h2,_⟩:=I.hok _ _ (sm _ _ hq)
    exact PySem.W.kia_one PySem.W.kitx_dict I.kIn ⟨o,h1,h2.1⟩ (by rw [kit_dict];cases t<;>exact h) (fun z=>nomatch z) fin
theorem me_isinst {e:Expr}{f:FE} (t:Ty) {p p2 pos:Pos} (he:ME X cl e f) (hg:Gl X "isinstance") (hm:X.mg "isinstance"=none) (hg2:Gl X (tyN t)) (hm2:X.mg (tyN t)=none)
    (hst:starEach [e,.Name (tyN t) p2] X.env=[(false,eval e X.env),(false,eval (.Name (tyN t) p2) X.env)]:=by rfl) (hst2:starEach [.Name (tyN t) p2] X.env=[(false,eval (.Name (tyN t) p2) X.env)]:=by rfl) :
    ME X cl (.Call (.Name "isinstance" p) [e,.Name (tyN t) p2] [] pos) (fIsinst t f):=by
  refine ⟨?_⟩
  intro pins s σ Hf0 H0 Hf H ρ I r hs
  unfold fIsinst at hs ⊢
  refine wpAny_Call_Name_kw (ld_blt I hg hm boot_isinstance ?_)
  refine PyProof.Rows.callWith_builtin1 ?_ (by rw [hst,hst2]) (by rw [hst2];rfl)
  rw [hst]
  show wpAny _ _ (spliced ((false,eval e X.env)::backTo pos [(false,eval (.Name (tyN t) p2) X.env)])) _ _ s
  refine Calls.spliced_cons (he.run I r (Ext.refl r.sub) hs fun q v u s1 Hf1 H1 e1 I1 rv x1 rp=>?_)
  rw [e1] at hs ⊢
  cases hb:isTy q t with
  | none=>rw [hb] at hs;exact absurd rfl hs
  | some b =>
    have hn:tyN t≠"__name__":=by cases t<;>decide
    have hd:(tyN t == ("__debug__" : Str))=false:=by cases t<;>decide
    show wpAny _ _ (spliced ((false,eval (.Name (tyN t) p2) X.env)::[])) _ _ s1
    refine Calls.spliced_cons (ld_blt I1 hg2 hm2 (tyN_boot t) (Calls.spliced_nil ?_) hn hd)
    show wpAny _ _ (call (.builtin "isinstance") [u,.type (tyS t)]) (OkP X cl pins σ Hf H (.ok (.bl b))) _ s1
    exact thn (isinst_run I1 x1.sub rv rp hb) fun _ _ q=>q.from (e0:=x1)
theorem me_bitlen {e:Expr}{f:FE}{apos pos:Pos}{pl:Sem Bool} (he:ME X cl e f)
    (ht:eval (.Call (.Attribute e "bit_length" apos) [] [] pos) X.env=(do
      let ov ← eval e X.env
      standAt apos.atName
      let (f,first) ← holding [ov] (getMethod ov "bit_length" pl)
      callWith pos f first (backTo pos (starEach [] X.env)) (backToKw pos (keywordEach [] X.env))):=by rfl):ME X cl (.Call (.Attribute e "bit_length" apos) [] [] pos) (fUn bBitLength f):=by
  refine ⟨?_⟩
  intro pins s σ Hf0 H0 Hf H ρ I r hs
  unfold fUn at hs ⊢
  refine PySem.W.methodCall_KW (pl:=pl) (he.run I r (Ext.refl r.sub) hs fun q v u s1 Hf1 H1 e1 I1 rv x1 rp=>?_) ht
  rw [e1] at hs ⊢
  cases q<;>first
    | exact absurd rfl hs
    | skip
  rename_i i
  cases rp
  obtain ⟨t,rfl⟩:=rv
  refine getMethod_int_bit_length ?_
  exact Calls.callWith_builtin rfl (PySem.evalArgs_none (call_int_bit_length ⟨_,.int (nb i),Hf1,H1,rfl,I1.tok _,⟨_,rfl⟩,x1,.int _⟩))
theorem small_any {a b c:Int} (ha:smallI a) (hb:smallI b) (hc:smallI c) (h0:c≠0):Builtin.Range.small a b c=true:=by
  obtain ⟨a1,a2⟩:=ha
  obtain ⟨b1,b2⟩:=hb
  obtain ⟨c1,c2⟩:=hc
  have key : -(2 ^ 63)≤Builtin.Range.rangeSize a b c∧Builtin.Range.rangeSize a b c<2 ^ 63:=by
    unfold Builtin.Range.rangeSize
    by_cases hp:c > 0
    · rw [if_pos hp]
      by_cases hl:a<b
      · rw [if_pos hl]
        have h1:0≤(b - a - 1) / c:=Int.ediv_nonneg (by omega) (by omega)
        have h2:(b - a - 1) / c≤b - a - 1:=Int.ediv_le_self _ (by omega)
        omega
      · rw [if_neg hl];omega
    · rw [if_neg hp]
      by_cases hl:a > b
      · rw [if_pos hl]
        have h1:0≤(a - b - 1) / (-c):=Int.ediv_nonneg (by omega) (by omega)
        have h2:(a - b - 1) / (-c)≤a - b - 1:=Int.ediv_le_self _ (by omega)
        omega
      · rw [if_neg hl];omega
  have fit:∀ i:Int,-(2 ^ 63)≤i→i<2 ^ 63→Builtin.Range.rangeFitsLong i=true:=fun i h1 h2=>by
    unfold Builtin.Range.rangeFitsLong
    rw [decide_eq_true h1,decide_eq_true h2];rfl
  unfold Builtin.Range.small
  rw [fit a (by omega) (by omega),fit b (by omega) (by omega),fit c (by omega) (by omega),fit _ key.1 key.2]
  have last:(if c > 0 then Builtin.Range.rangeFitsLong (b+(c - 1)) else Builtin.Range.rangeFitsLong (b+(c+1)))=true:=by
    by_cases hp:c > 0
    · rw [if_pos hp];exact fit _ (by omega) (by omega)
    · rw [if_neg hp];exact fit _ (by omega) (by omega)
  rw [last,Bool.or_true];rfl
noncomputable def Itr3 (lo:Int) (st:Int) (n:Nat):It:=⟨fun i _=>i<n,fun i H x H'=>H'=H∧x = .int (lo+i*st),fun i _=>n≤i⟩
theorem turn_range3 {P:Program}{w:World}{K:PySem.W.Frag}{tg:Expr} (it:Addr) (lo st:Int) (n:Nat):Turn P w K tg (Itr3 lo st n) [it] it (fun i h=>IsRangeIter h it (lo+(i:Nat)*st) ((n:Int) - (i:Nat)) st) where
  mem:=by simp
  obj:=fun i h st b hb=>by
    have e:b=it:=by simpa using hb
    subst e
    exact ⟨_,st,fun v z=>by
      have z':Data.fields _=Data.cell v:=z
      cases z'⟩
  keep:=fun i h h' st k=>k it (by simp) _ st
  item:=by
    intro X hP hw hK hc i pins s σ H E I hf st0 hg
    subst hP hw hK
    obtain ⟨f0,f1,f2,f3,f4,f5⟩:=hf it (by simp)
    have W:=Walks.range (prog:=X.prog) (w:=X.w) (I.ok.hd hc) it lo st n
    refine W.item i s _ _ hg st0 fun v h' tk hv st' kk=>?_
    obtain ⟨t,rfl⟩:=hv
    have I1:Inv X pins σ H { s with heap:=h',toks:=tk }:=I.turned (fun b o hb e=>kk b o (by simpa using hb) e) f0 f1 f3 f4 f5
    exact ⟨_,rfl,go_of (s:={ s with heap:=h',toks:=tk }) (n:="range_iterator") st' rfl rfl (by decide) ⟨.int (lo+i*st),H,I1,⟨t,rfl⟩,⟨rfl,rfl⟩,st',fun b hb=>(hf b hb).1⟩⟩
  done:=by
    intro X hP hw hK hc i pins s σ H E I hf st0 hg
    subst hP hw hK
    obtain ⟨f0,f1,f2,f3,f4,f5⟩:=hf it (by simp)
    exact wpAny_pyNext_range_end (I.ok.hd hc) st0 (by have:n≤i:=hg;omega) fun h' eb=>⟨rfl,I.turned (t':=s.toks) (fun b o hb e=>eb b o hb e) f0 f1 f3 f4 f5⟩
  self:=fun _ _ _ _ _ st h=>wpAny_pyIter_rangeiter st h
noncomputable def rngV (lo hi st:Int):List V:=(List.range (rangeN lo hi st)).map fun (k:Nat)=>.int (lo+(k:Int)*st)
theorem rngV_len (lo hi st:Int):(rngV lo hi st).length=rangeN lo hi st:=by unfold rngV;rw [List.length_map,List.length_range]
theorem over_range {lo hi st:Int}{Hg:Hp}:Over (Itr3 lo st (rangeN lo hi st)) Hg (rngV lo hi st):=fun H i sm =>
  ⟨fun h=>⟨by rw [rngV_len] at h;exact h,fun x H' ⟨e1,e2⟩=>⟨e1,by
    rw [rngV_len] at h
    subst e2
    unfold rngV
    rw [List.getElem?_map,List.getElem?_range h]
    rfl⟩⟩,fun h=>by rw [rngV_len] at h;exact h⟩
theorem rps_map {K:PySem.W.Frag} (g:Nat→V) (h:Nat→PV) (e:∀ i,Rp K cl Hf (g i) (h i)):∀ l:List Nat,Rps K cl Hf (l.map g) (l.map h)
  | []=>.nil
  | a::r=>.cons (e a) (rps_map g h e r)
theorem range_it3 {tg:Expr}{E:Value→Shared→Prop}{lo hi st:Int}{t u v:Tok}{tk:Nat} (I:Inv X pins σ H s) (sm:Same Hf H) (h1:smallI lo) (h2:smallI hi) (h3:smallI st) (h0:st≠0) :
    wpAny (model X.prog X.w) X.A (pyIter (.ref s.heap.objs.size)) (OkI X cl tg pins σ Hf H (.ok (rangeP lo hi st))) E { s with heap:=s.heap.push { cls:=.type "range",data:=.fields #[.int lo t,.int hi u,.int st v] },toks:=tk }:=by
  refine wpAny_pyIter_range (IsRange.new ..) (small_any h1 h2 h3 h0) ?_
  have I1:Inv X pins σ H { s with heap:=s.heap.push { cls:=.type "range",data:=.fields #[.int lo t,.int hi u,.int st v] },toks:=tk }:=I.kept fun b o e=>Heap.get?_push_of_some _ e
  refine ⟨_,rngV lo hi st,Hf,rfl,(s.heap.push { cls:=.type "range",data:=.fields #[.int lo t,.int hi u,.int st v] }).objs.size,[(s.heap.push { cls:=.type "range",data:=.fields #[.int lo t,.int hi u,.int st v] }).objs.size],_,_,H,rfl,
    I1.kept (t':=tk) fun b o e=>Heap.get?_push_of_some _ e,turn_range3 _ lo st (rangeN lo hi st),?_,fun b hb=>?_,Ext.refl sm,over_range,rps_map _ _ (fun i=>.int _) _⟩
  · have e1:lo+((0:Nat):Int)*st=lo:=by simp
    have nn:0≤Builtin.Range.rangeSize lo hi st:=by
      unfold Builtin.Range.rangeSize
      by_cases hp:st > 0
      · rw [if_pos hp]
        by_cases hl:lo<hi
        · rw [if_pos hl]
          have:0≤(hi - lo - 1) / st:=Int.ediv_nonneg (by omega) (by omega)
          omega
        · rw [if_neg hl];omega
      · rw [if_neg hp]
        by_cases hl:lo > hi
        · rw [if_pos hl]
          have:0≤(lo - hi - 1) / (-st):=Int.ediv_nonneg (by omega) (by omega)
          omega
        · rw [if_neg hl];omega
    have e2:((rangeN lo hi st:Nat):Int) - ((0:Nat):Int)=Builtin.Range.rangeSize lo hi st:=by
      show (((Builtin.Range.rangeSize lo hi st).toNat:Nat):Int) - _=_
      omega
    show IsRangeIter _ _ (lo+((0:Nat):Int)*st) (((rangeN lo hi st:Nat):Int) - ((0:Nat):Int)) st
    rw [e1,e2]
    exact Heap.get?_push_size _ rfl
  · have e:b=(s.heap.push { cls:=.type "range",data:=.fields #[.int lo t,.int hi u,.int st v] }).objs.size:=by simpa using hb
    subst e
    exact I1.fpOk (Nat.le_refl _) (I1.hok.fresh (Nat.le_refl _))
theorem small_log {st:Int} (h:smallI st) (h0:st≠0):st.natAbs.log2<9000:=by
  obtain ⟨h1,h2⟩:=h
  have:st.natAbs<2 ^ 61:=by omega
  have:=(Nat.log2_lt (by omega:st.natAbs≠0)).mpr this
  omega
theorem mi_range {tg:Expr}{e:Expr}{es:List Expr}{g:FA}{p pos:Pos} (hg:Gl X "range") (hm:X.mg "range"=none) (ha:MA X cl (e::es) g)
    (he:starEach (e::es) X.env=(false,eval e X.env)::starEach es X.env:=by rfl) (hpl:(backTo pos (starEach es X.env)).any (·.1)=false:=by rfl):MI X cl tg (.Call (.Name "range" p) (e::es) [] pos) (iRange g):=by
  refine ⟨?_⟩
  intro pins s σ Hf0 H0 Hf H ρ I r hs
  unfold iRange at hs ⊢
  refine Call_ (ld_blt I hg hm boot_range (PyProof.Rows.callWith_type1 (ha.run pos I r (Ext.refl r.sub) hs fun qs vs us s1 Hf1 H1 _ e1 I1 rv x1 rps=>?_) he hpl))
  rw [e1] at hs ⊢
  have fin:∀ {lo hi st:Int}{t u v:Tok}{tk:Nat}{rr:R (List PV)}{E:Value→Shared→Prop},smallI lo→smallI hi→smallI st→st≠0→rr = .ok (rangeP lo hi st) →
      wpAny (model X.prog X.w) X.A (pyIter (.ref s1.heap.objs.size)) (OkI X cl tg pins σ Hf H rr) E { s1 with heap:=s1.heap.push { cls:=.type "range",data:=.fields #[.int lo t,.int hi u,.int st v] },toks:=tk }:=fun h1 h2 h3 h0 er=>by
    rw [er]
    refine thn (range_it3 (cl:=cl) (tg:=tg) I1 x1.sub h1 h2 h3 h0) fun itv s2 q=>?_
    obtain ⟨ps,ws,Hf',a1,it,fp,tn,J,H',b1,b2,b3,b4,b5,b6,b7,b8⟩:=q
    exact ⟨ps,ws,Hf',a1,it,fp,tn,J,H',b1,b2,b3,b4,b5,x1.trans b6,b7,b8⟩
  have one:smallI 1:=by decide
  have zero:smallI 0:=by decide
  have ifK:∀ {c:Prop} [Decidable c] {a:List PV},(if c then R.ok a else R.stuck)≠.stuck→c∧(if c then R.ok a else R.stuck) = .ok a:=fun {c _ a} h=>by
    by_cases hc:c
    · exact ⟨hc,if_pos hc⟩
    · rw [if_neg hc] at h;exact absurd rfl h
  split at hs
  · obtain ⟨hc,er⟩:=ifK hs
    obtain ⟨v,rfl,rp⟩:=rps1' rps
    cases rp
    obtain ⟨u,rfl,t,rfl⟩:=vals1 rv
    exact call_range_1 (fin zero hc one (by decide) er)
  · obtain ⟨hc,er⟩:=ifK hs
    obtain ⟨v,w,rfl,rp,rq⟩:=rps2' rps
    cases rp;cases rq
    obtain ⟨u,w',rfl,⟨t,rfl⟩,⟨t',rfl⟩⟩:=vals2 rv
    exact call_range_2 (fin hc.1 hc.2 one (by decide) er)
  · obtain ⟨hc,er⟩:=ifK hs
    cases rps with
    | cons r1 q1 =>
      cases q1 with
      | cons r2 q2 =>
        cases q2 with
        | cons r3 q3 =>
          cases q3
          cases r1;cases r2;cases r3
          cases rv with
          | cons w1 m1 =>
            cases m1 with
            | cons w2 m2 =>
              cases m2 with
              | cons w3 m3 =>
                cases m3
                obtain ⟨t1,rfl⟩:=w1
                obtain ⟨t2,rfl⟩:=w2
                obtain ⟨t3,rfl⟩:=w3
                exact call_range_3 hc.2.2.2 (fin hc.1 hc.2.1 hc.2.2.1 hc.2.2.2 er) (.inl (PyProof.noPylong_of_log2 (small_log hc.2.2.1 hc.2.2.2)))
  · exact absurd rfl hs
structure MGs (X:Cx) (ts:List Expr) (is:List Nat):Prop where
  run':∀ (pins:List (Addr×Obj)) (s:Shared) (σ:SV) (H:Hp) (vs:List V) (us:List Value) (E:Value→Shared→Prop),Inv X pins σ H s→Vals vs us→vs.length=is.length →
    wpAny (model X.prog X.w) X.A (assignInOrder ((assignEach ts X.env).map (·.2)) us) (fun _ s'=>Inv X pins ((is.zip vs).foldl (fun σ q=>σ.set q.1 (some q.2)) σ) H s') E s
instance {X:Cx}{ts:List Expr}{is:List Nat}:CoeFun (MGs X ts is) fun _=>∀ (pins:List (Addr×Obj)) (s:Shared) (σ:SV) (H:Hp) (vs:List V) (us:List Value) (E:Value→Shared→Prop),Inv X pins σ H s→Vals vs us→vs.length=is.length →
    wpAny (model X.prog X.w) X.A (assignInOrder ((assignEach ts X.env).map (·.2)) us) (fun _ s'=>Inv X pins ((is.zip vs).foldl (fun σ q=>σ.set q.1 (some q.2)) σ) H s') E s:=⟨MGs.run'⟩
theorem mgs_nil:MGs X [] []:=by
  refine ⟨?_⟩
  intro pins s σ H vs us E I r hl
  cases r with
  | nil=>exact assignInOrder_nil I
  | cons _ _=>simp at hl
theorem mgs_cons {x:Str}{pos:Pos}{es:List Expr}{i:Nat}{is:List Nat} (hN:X.N.Nodup) (hi:X.N[i]?=some x) (hx:Loc X.env.scope x) (h2:MGs X es is)
    (hf:X.fn x=true∨X.env.scope.names.lookup x=some .local:=by first | exact .inl rfl | exact .inr rfl | assumption)
    (hs:(assignEach (.Name x pos::es) X.env).map (·.2)=assign (.Name x pos) X.env::(assignEach es X.env).map (·.2):=by rfl):MGs X (.Name x pos::es) (i::is):=by
  refine ⟨?_⟩
  intro pins s σ H vs us E I r hl
  cases r with
  | nil=>simp at hl
  | cons r rr =>
    rw [hs]
    refine assignInOrder_cons (wpAny_assign_Name (store_ok I hN hi hx r (fun s1 I1=>?_) hf))
    exact h2 pins s1 _ H _ _ E I1 rr (by simpa using hl)
theorem rep_sets:∀ {is:List Nat}{vs:List V}{ps:List PV}{σ:SV}{ρ ρ':MEnv},Rep X.K cl Hf0 H0 Hf H σ ρ→Rps X.K cl Hf vs ps→setAll is ps ρ=some ρ'→(∀ i∈is,i<σ.length) →
    Rep X.K cl Hf0 H0 Hf H ((is.zip vs).foldl (fun σ q=>σ.set q.1 (some q.2)) σ) ρ'
  | [],vs,ps,σ,ρ,ρ',r,rp,e,_=>by
    cases rp with
    | nil=>cases e;exact r
    | cons _ _=>cases e
  | i::is,vs,ps,σ,ρ,ρ',r,rp,e,hl=>by
    cases rp with
    | nil=>cases e
    | cons r1 t1 =>
      have q:=rep_sets (is:=is) (r.set i r1 (hl i (List.mem_cons_self))) t1 (show setAll is _ _=some ρ' from e) fun j hj=>by rw [List.length_set];exact hl j (List.mem_cons_of_mem _ hj)
      exact q
theorem setAll_len:∀ {is:List Nat}{ps:List PV}{ρ ρ':MEnv},setAll is ps ρ=some ρ'→is.length=ps.length
  | [],[],_,_,_=>rfl
  | [],_::_,_,_,h=>by cases h
  | _::_,[],_,_,h=>by cases h
  | _::is,_::ps,_,_,h=>by rw [List.length_cons,List.length_cons,setAll_len (is:=is) (ps:=ps) h]
theorem ms_unpack {ts:List Expr}{is:List Nat}{e:Expr}{f:FE}{k:Nat}{pos pos':Pos} (hc:X.calm=true) (he:ME X cl e f) (hg:MGs X ts is) (hil:∀ i∈is,i<X.N.length) (hn:(assignEach ts X.env).length=is.length:=by rfl)
    (hst:(assignEach ts X.env).findIdx? (·.1)=none:=by rfl) (hs1:swapsWithSole [.Tuple ts k pos'] e pos.line X.env=pure false:=by rfl) (hw:swappedStores [.Tuple ts k pos'] e X.env=pure none:=by rfl)
    (h1:(assignEach [.Tuple ts k pos'] X.env).map (·.2)=[assign (.Tuple ts k pos') X.env]:=by rfl):MS X cl (.Assign [.Tuple ts k pos'] e pos) (sUnpack is f):=by
  refine ⟨?_⟩
  intro pins s σ Hf0 H0 Hf H ρ I r hs
  unfold sUnpack at hs ⊢
  refine wpAny_Assign_stores (he.stm I r hs fun p v u s1 Hf1 H1 e1 I1 rv x1 rp=>?_) hs1 hw
  rw [e1] at hs ⊢
  rw [h1]
  cases p<;>first
    | exact absurd rfl hs
    | skip
  rename_i l
  cases rp with
  | tup hq rr =>
    cases rv
    obtain ⟨its,w,pl,z⟩:=I1.tuple (Same.seqT x1.sub hq)
    have hs':(match setAll is l ρ with | some ρ'=>SR.next ρ' | none=>.stuck)≠.stuck:=hs
    cases hsa:setAll is l ρ with
    | none=>rw [hsa] at hs';exact absurd rfl hs'
    | some ρ' =>
      have hlen:=setAll_len hsa
      refine assign_Tuple_tuple (I1.ok.hd hc) pl (by rw [hn,hlen,List.size_toArray,← w.length,rr.length]) hst fun h' hx=>?_
      have I2:Inv X pins σ H1 { s1 with heap:=h' }:=I1.kept (t':=s1.toks) fun b o e=>hx b o (Nat.ne_of_lt (Heap.lt_size e)) e
      refine thn (hg pins _ σ H1 _ _ _ I2 (by simpa using w) (by rw [rr.length,hlen])) fun _ s3 I3=>?_
      show OkS X cl pins Hf0 H0 Hf (match setAll is l ρ with | some ρ'=>SR.next ρ' | none=>.stuck) .next s3
      rw [hsa]
      exact ⟨ρ',_,Hf1,H1,rfl,I3,rep_sets (r.keep x1) rr hsa (fun i hi=>by rw [I1.len];exact hil i hi),x1.frz⟩
end
section
variable {X:Cx}{cl:Nat→Addr}
theorem mv (i:Nat) {x:Str}{pos:Pos} (hN:X.N[i]?=some x:=by rfl) (hv:Vis X.env.scope x:=by first | exact Or.inl rfl | exact Or.inr (Or.inl rfl) | exact Or.inr (Or.inr rfl)) (hd:(x == ("__debug__" : Str))=false:=by decide)
    (hcd:(x == ("__classdict__" : Str))=false:=by decide):ME X cl (.Name x pos) (fVar i):=me_var hN hv hd hcd
end
theorem hu64 {A:Around}{k:Nat} (hr:Room k A):A.units+64<cLine:=by have:=hr.un;omega
section
variable {P:Program}{w:World}{K:PySem.W.Frag}{mg:Str→Option Value}{base:Heap}{cl:Nat→Addr}
structure FG (P:Program) (w:World) (K:PySem.W.Frag) (mg:Str→Option Value) (base:Heap) (cl:Nat→Addr) (k:Nat) (x:Str) (n:Nat) (F:List PV→R PV):Prop where
  ex:∃ (f:Addr) (fd:FuncData) (ps:List Str),mg x=some (.ref f)∧PySem.W.keepIn K (.ref f)=true∧ps.length=n∧FnOk P w K mg base (CXm cl P w) k f fd ps (spF K cl n F)∧Binds K fd ps []
theorem FG.fn {N:List Str}{qual:Str}{scope:Scope}{f:Addr}{cd:Value}{A:Around}{outer:List Env}{s:Shared}{H:Hp}{E:XK}{k n:Nat}{x:Str}{F:List PV→R PV} (h:FG P w K mg base cl k x n F) :
    Fn (cxM P w K mg base cl N qual scope f cd A outer s H E) cl k x n F:=⟨h.ex⟩
theorem mc {N:List Str}{qual:Str}{scope:Scope}{f:Addr}{cd:Value}{A:Around}{outer:List Env}{s:Shared}{H:Hp}{E:XK}{k k' n:Nat}{x:Str}{F:List PV→R PV}{e:Expr}{es:List Expr}{g:FA}{p pos:Pos}
    (h:FG P w K mg base cl k x n F) (hr:Room k' (A.deeper (envOfC qual scope s.heap.objs.size f cd))) (inj:∀ c d,cl c=cl d→c=d) (ha:MA (cxM P w K mg base cl N qual scope f cd A outer s H E) cl (e::es) g) (hk:k≤k':=by decide)
    (hl:(e::es).length=n:=by rfl) (hg:Gl (cxM P w K mg base cl N qual scope f cd A outer s H E) x:=by rfl) (hdb:(x == ("__debug__" : Str))=false:=by decide)
    (he:starEach (e::es) (cxM P w K mg base cl N qual scope f cd A outer s H E).env=(false,eval e (cxM P w K mg base cl N qual scope f cd A outer s H E).env)::starEach es (cxM P w K mg base cl N qual scope f cd A outer s H E).env:=by rfl)
    (hpl:(backTo pos (starEach es (cxM P w K mg base cl N qual scope f cd A outer s H E).env)).any (·.1)=false:=by rfl) :
    ME (cxM P w K mg base cl N qual scope f cd A outer s H E) cl (.Call (.Name x p) (e::es) [] pos) (fCall F g) :=
  me_call h.fn (hr.mono hk) hg rfl inj (fun b z=>absurd (show b∈([]:List Addr) from z) (by simp)) ha hl hdb he hpl
structure DefAt (K:PySem.W.Frag) (mg:Str→Option Value) (x:Str) (st:Stmt) (f:Addr) (fd:FuncData):Prop where
  fn:Fun K x x st f fd
  mg:mg x=some (.ref f)
theorem def_mk {h:Heap}{x:Str}{st:Stmt}{f:Addr}{oc:Value}{od an:Option Addr}{osl:Array (Option Value)}{kV doc pm cdv ct:Value} (X:K.In h) (G:h.Ns mainGlobals mg) (a:PySem.W.nsIn K mainGlobals x=some (some (.ref f)))
    (l:K.lookup f=some ⟨oc,od,.func (PySem.W.fnOf x x (defArgs st) (defBody st) (defScope st) .none kV doc pm an cdv ct),osl⟩) (c:PySem.W.codeIn K cdv x=true) (k:PySem.W.keepIn K (.ref f)=true) :
    ∃ f fd,DefAt K mg x st f fd:=⟨f,_,fun_mk l c k,PySem.W.mg_of X G a⟩
theorem DefAt.fg {x:Str}{st:Stmt}{f:Addr}{fd:FuncData}{N ps:List Str}{k n:Nat}{b:FS} (D:DefAt K mg x st f fd) (S:FnScope N ps (defScope st)) (hn:ps.length=n)
    (hb:∀ (kV doc pm:Value) (an:Option Addr) (cdv ct:Value) (us:List Value),us.length=ps.length→bindArgs (PySem.W.fnOf x x (defArgs st) (defBody st) (defScope st) .none kV doc pm an cdv ct) ⟨us,[]⟩=pure (ps.zip us))
    (hbody:∀ (cdv:Value) (A:Around) (outer:List Env) (s:Shared) (H:Hp) (E:XK),Room k (A.deeper (envOfC x (defScope st) s.heap.objs.size f cdv)) →
      MSs (cxM P w K mg base cl N x (defScope st) f cdv A outer s H E) cl (defBody st) b):FG P w K mg base cl (k+1) x n (runF N.length b) :=
  ⟨⟨f,fd,ps,D.mg,D.fn.kp,hn,fn_mirror D.fn S hn hbody,D.fn.binds hb⟩⟩
noncomputable def adOf (K:PySem.W.Frag) (x:Str):Addr:=match PySem.W.nsIn K mainGlobals x with
  | some (some (.ref a))=>a
  | _=>0
noncomputable def sumOf (K:PySem.W.Frag):List (Nat×Str)→Nat
  | []=>0
  | x::r=>adOf K x.2+sumOf K r
noncomputable def clOf (K:PySem.W.Frag) (names:List (Nat×Str)) (c:Nat):Addr:=match names.lookup c with
  | some x=>adOf K x
  | none=>sumOf K names+1+c
theorem lookup_mem:∀ {names:List (Nat×Str)}{c:Nat}{x:Str},names.lookup c=some x→(c,x)∈names
  | [],_,_,h=>by cases h
  | (d,y)::r,c,x,h=>by
    rw [List.lookup_cons] at h
    by_cases e:c=d
    · subst e;simp at h;subst h;exact List.mem_cons_self
    · have:(c == d)=false:=by simpa using e
      rw [this] at h
      exact List.mem_cons_of_mem _ (lookup_mem h)
theorem mem_lookup:∀ {names:List (Nat×Str)}{c:Nat}{x:Str},(names.map (·.1)).Nodup→(c,x)∈names→names.lookup c=some x
  | (d,y)::r,c,x,hn,h=>by
    rw [List.map_cons,List.nodup_cons] at hn
    rw [List.lookup_cons]
    rcases List.mem_cons.mp h with e | h2
    · cases e;simp
    · have:(c == d)=false:=by
        by_cases e:c=d
        · subst e;exact absurd (List.mem_map.mpr ⟨(c,x),h2,rfl⟩) hn.1
        · simpa using e
      rw [this]
      exact mem_lookup hn.2 h2
theorem sumOf_le {K:PySem.W.Frag}:∀ {names:List (Nat×Str)}{c:Nat}{x:Str},(c,x)∈names→adOf K x≤sumOf K names
  | y::r,c,x,h=>by
    rcases List.mem_cons.mp h with e | h
    · subst e;exact Nat.le_add_right _ _
    · exact Nat.le_trans (sumOf_le h) (Nat.le_add_left _ _)
theorem inj_map {α β:Type}{f:α→β}:∀ {l:List α},(l.map f).Nodup→∀ a∈l,∀ b∈l,f a=f b→a=b
  | y::r,hn,a,ha,b,hb,e=>by
    rw [List.map_cons,List.nodup_cons] at hn
    rcases List.mem_cons.mp ha with rfl | ha2
    · rcases List.mem_cons.mp hb with rfl | hb2
      · rfl
      · exact absurd (List.mem_map.mpr ⟨b,hb2,e.symm⟩) hn.1
    · rcases List.mem_cons.mp hb with rfl | hb2
      · exact absurd (List.mem_map.mpr ⟨a,ha2,e⟩) hn.1
      · exact inj_map hn.2 a ha2 b hb2 e
theorem clOf_inj {K:PySem.W.Frag}{names:List (Nat×Str)} (h:(names.map fun p=>adOf K p.2).Nodup):∀ c d,clOf K names c=clOf K names d→c=d:=by
  intro c d e
  unfold clOf at e
  cases ec:names.lookup c with
  | none =>
    rw [ec] at e
    cases ed:names.lookup d with
    | none=>rw [ed] at e;have e':sumOf K names+1+c=sumOf K names+1+d:=e;omega
    | some y=>rw [ed] at e;have e':sumOf K names+1+c=adOf K y:=e;have:adOf K y≤sumOf K names:=sumOf_le (K:=K) (lookup_mem ed);rw [← e'] at this;exact absurd (Nat.le_trans (Nat.le_add_right _ _) this) (Nat.not_succ_le_self _)
  | some x =>
    rw [ec] at e
    cases ed:names.lookup d with
    | none=>rw [ed] at e;have e':sumOf K names+1+d=adOf K x:=e.symm;have:adOf K x≤sumOf K names:=sumOf_le (K:=K) (lookup_mem ec);rw [← e'] at this;exact absurd (Nat.le_trans (Nat.le_add_right _ _) this) (Nat.not_succ_le_self _)
    | some y =>
      rw [ed] at e
      have:=inj_map h (c,x) (lookup_mem ec) (d,y) (lookup_mem ed) e
      cases this;rfl
theorem weight_le:∀ {ns:List Int}{x:Int},x∈ns→nb x≤PySem.W.WData.weightAll (ns.map PySem.W.WData.int)
  | y::r,x,h=>by
    have e:PySem.W.WData.weightAll ((y::r).map PySem.W.WData.int)=nb y+1+PySem.W.WData.weightAll (r.map PySem.W.WData.int):=by
      rw [List.map_cons]
      simp only [PySem.W.WData.weightAll,PySem.W.WData.weight,Builtin.Int.intBits]
    rw [e]
    rcases List.mem_cons.mp h with rfl | h
    · omega
    · have:=weight_le h;omega
theorem bits_of_lay {ns:List Int} (h:PySem.W.WData.layableAll [PySem.W.WData.list (ns.map PySem.W.WData.int)]=true):∀ x∈ns,nb x≤1048576:=by
  intro x hx
  have h1:PySem.W.WData.layable (PySem.W.WData.list (ns.map PySem.W.WData.int))=true:=by
    simpa [PySem.W.WData.layableAll] using h
  have h2:PySem.W.WData.weight (PySem.W.WData.list (ns.map PySem.W.WData.int))≤2 ^ 20:=of_decide_eq_true (Bool.and_eq_true_iff.mp h1).2
  have e:PySem.W.WData.weight (PySem.W.WData.list (ns.map PySem.W.WData.int))=PySem.W.WData.weightAll (ns.map PySem.W.WData.int):=by simp only [PySem.W.WData.weight]
  rw [e] at h2
  have:=weight_le hx
  omega
theorem law_of {l:PySem.W.OpenLaw}{k:Nat}{q:Program}{loose:List Str}{XP:(Str→Option Value)→Heap→Prop}{YP:World→Heap→Prop}{d:DefRec}{K:Params→PySem.W.Frag}{x:Str}{F:List PV→R PV}{names:List (Nat×Str)}
    (hn:l.most=some 63) (hdf:d.params.defaults=[]) (hr:Room k callerA)
    (hY:∀ (w:World) (h:Heap),YP w h→(K w.params).In h)
    (hF:∀ (w:World) (mg:Str→Option Value) (fa:Addr) (h:Heap),(K w.params).In h→h.Ns mainGlobals mg→mg d.name=some (.ref fa) →
      ∃ fd:FuncData,(∀ (s:Shared) (u:Value),BindsTo s fd ⟨[u],[]⟩ [(x,u)]) ∧
        ∀ base:Heap,(K w.params).In base→base.Ns mainGlobals mg→FnOk l.prog w (K w.params) mg base (CXm (clOf (K w.params) names) l.prog w) k fa fd [x] (spF (K w.params) (clOf (K w.params) names) 1 F))
    (hlaw:∀ ns:List Int,ns.length≤63→(∀ x∈ns,nb x≤1048576)→F [.lst (ns.map PV.int)] = .ok (.bl true)) :
    PySem.W.WalkO q loose XP YP l.row.toRowW d [] (fun f vs=>PySem.call f vs):=by
  intro w s₀ s₁ mg mb G Y fa o pm cd doc dV kV ho hd hcd hD hmg hg args vals as hpre hlay hrd hwl hlo
  obtain rfl:dV = .none:=PySem.W.Dflts.none hD hdf
  obtain rfl:kV = .none:=PySem.W.Dflts.noKw hD
  obtain ⟨a,vs,ns,rfl,rfl,hobj,hints,hlen⟩:=Att.script_of hn hpre hwl
  have KX:=hY w _ Y
  obtain ⟨fd,hb,hF'⟩:=hF w mg fa _ KX G.T.g hmg
  have e:=hlaw ns hlen (bits_of_lay hlay)
  refine PySem.W.enter_call (codeAny_mono (law_call KX G.T.g G.T.b G.T.builtins G.T.nolimit hg hobj hints (Nat.le_trans hlen (by decide)) hr hF' hb (fun H hO hS=>?_) fun H e s' h=>?_) fun r s' hq=>?_)
  · refine ⟨rfl,H,[.lst (ns.map PV.int)],Same.refl _,.cons (.lst hS (Rps.ints ns)) .nil,(by rw [e];intro z;cases z),fun p v Hf' H' h _ rp=>?_,fun c Hf' H' h _=>?_⟩
    · rw [e] at h;cases h;cases rp;rfl
    · rw [e] at h;cases h
  · obtain ⟨a,c,H',B,a0,_,_,_,_,_,_,_,_,z⟩:=h
    exact z
  · obtain ⟨rfl,h2,h3,h4⟩:=hq
    exact ⟨.inl ⟨.bool true,.bool true,[],rfl,fun _=>rfl,.bool true,Att.post_true l _,fun _=>⟨List.Pairwise.nil,fun _ hm=>(nomatch hm)⟩⟩,h2,h3,h4⟩
end
noncomputable abbrev bmV:List Value:=[.type "ValueError",.type "Exception",.type "BaseException",.type "object"]
noncomputable def attrOk (K:PySem.W.Frag) (D:Addr):Bool:=(PySem.W.findIn K (.ref D) "__getattribute__" == some (some (.builtin "BaseException.__getattribute__"))) && (PySem.W.findIn K (.ref D) "__getattr__" == some none) && (PySem.W.subIn K (.ref D) (.type "BaseException") == some true) && (PySem.W.clsIn K D).isSome && (PySem.W.findIn K (.ref D) "__class__" == some (some (.builtin "object.__class__"))) &&
  (PySem.W.specialIn K (.builtin "object.__class__") "__get__" == some (some (.builtin "getset_descriptor.__get__"))) && (PySem.W.takesIn K (.builtin "object.__class__") == some true) && (PySem.W.mroIn K D (.type "object") == some true)
structure ClF (K:PySem.W.Frag) (mg:Str→Option Value) (cl:Nat→Addr) (c:Nat) (x:Str):Prop where
  mg:mg x=some (.ref (cl c))
  ex:PySem.W.excIn K (cl c) bmV "ValueError.__new__"=true
  at_:attrOk K (cl c)=true
theorem excObj_of {K:PySem.W.Frag}{h:Heap}{C:Addr}{bmB:List Value}{newId:String} (X:K.In h) (q:PySem.W.excIn K C bmB newId=true) :
    ∃ bm N nm q bs hdct sn sub ab col dd k0 k1 k2 k3 k5 mN,h.get? C=some (excClassObj nm q C N bs bm hdct sn sub ab col dd k0 k1 k2 k3 k5 newId)∧h.Ns N mN∧mN "__init__"=none∧OwnTail h bmB bm:=by
  unfold PySem.W.excIn at q
  split at q
  · rename_i dd cd sl ho
    split at q
    · rename_i C' bm k0 k1 k2 k3 n k5 hm hs
      simp only [Bool.and_eq_true,beq_iff_eq,Bool.not_eq_true'] at q
      obtain ⟨⟨⟨⟨⟨rfl,rfl⟩,hdel⟩,ht⟩,hok⟩,hni⟩:=q
      obtain ⟨nm,bs,mro,ns,qn,hd,sn,sub,ab,col,del⟩:=cd
      dsimp only at hm hdel hok hni
      subst hm hdel
      have es:sl=#[k0,k1,k2,k3,some (.builtin n),k5]:=by
        cases sl with | mk l=>simp only at hs;rw [hs]
      subst es
      exact ⟨bm,ns,nm,qn,bs,hd,sn,sub,ab,col,dd,k0,k1,k2,k3,k5,_,X _ _ ho,.of_isNs (PySem.W.isNs_of_in X hok),PySem.W.nsMap_none_of_in X hok hni,PySem.W.tail_of_in X ht⟩
    · cases q
  · cases q
theorem isSmallI_ok {r:R PV} (h:isSmallI r=true):∃ i:Int,r = .ok (.int i)∧i.natAbs<18446744073709551616:=by
  cases r with
  | ok p=>cases p<;>first | (cases h;done) | (rename_i i;exact ⟨i,rfl,of_decide_eq_true h⟩)
  | exc c=>cases h
  | stuck=>cases h
theorem digits_le (a:Int) (h:a.natAbs<18446744073709551616):(Str.ofString (toString a)).length≤21:=by
  have h1:a.natAbs<10 ^ 20:=Nat.lt_trans h (by decide)
  have:=int_text_length_le10 (k:=20) (by decide) h1
  rw [PySem.ofString_length];omega
section
variable {X:Cx}{cl:Nat→Addr}{pins:List (Addr×Obj)}{s:Shared}{σ:SV}{Hf0 H0 Hf H Hf1 H1:Hp}{ρ:MEnv}{α:Type}
structure MV (X:Cx) (cl:Nat→Addr) (e:Expr) (n:Nat) (c:MEnv→Bool):Prop where
  run':∀ (pins:List (Addr×Obj)) (s:Shared) (σ:SV) (Hf0 H0 Hf H:Hp) (ρ:MEnv) (E:Value→Shared→Prop),Inv X pins σ H s→Rep X.K cl Hf0 H0 Hf H σ ρ→c ρ=true →
    wpAny (model X.prog X.w) X.A (eval e X.env) (fun u s'=>∃ x t Hf' H',u = .str x t∧x.length≤n∧Inv X pins σ H' s'∧Ext Hf H Hf' H') E s
instance {X:Cx}{cl:Nat→Addr}{e:Expr}{n:Nat}{c:MEnv→Bool}:CoeFun (MV X cl e n c) fun _=>∀ (pins:List (Addr×Obj)) (s:Shared) (σ:SV) (Hf0 H0 Hf H:Hp) (ρ:MEnv) (E:Value→Shared→Prop),Inv X pins σ H s→Rep X.K cl Hf0 H0 Hf H σ ρ→c ρ=true →
    wpAny (model X.prog X.w) X.A (eval e X.env) (fun u s'=>∃ x t Hf' H',u = .str x t∧x.length≤n∧Inv X pins σ H' s'∧Ext Hf H Hf' H') E s:=⟨MV.run'⟩
theorem mv_str {x:Str}{j:Nat}{pos:Pos} (n:Nat) (h:x.length≤n:=by decide +kernel):MV X cl (.Constant (.str x) j pos) n (fun _=>true):=⟨fun pins s σ Hf0 H0 Hf H ρ E I r _ =>
  Calls.Constant_str ⟨x,_,Hf,H,rfl,h,I.tok _,Ext.refl r.sub⟩⟩
theorem mv_fmt {e:Expr}{f:FE}{pos:Pos} (he:ME X cl e f):MV X cl (.FormattedValue e (-1) none pos) 21 (fun ρ=>isSmallI (f ρ)):=by
  refine ⟨?_⟩
  intro pins s σ Hf0 H0 Hf H ρ E I r hc
  obtain ⟨i,ei,hi⟩:=isSmallI_ok hc
  refine FormattedValue_plain (wpAny_mono (he pins s σ Hf0 H0 Hf H ρ I r (by rw [ei];intro z;cases z)) (fun u s1 q=>?_) fun u s1 q=>?_)
  · obtain ⟨p,v,Hf1,H1,e1,I1,rv,x1,rp⟩:=q
    rw [ei] at e1;cases e1
    cases rp
    obtain ⟨t,rfl⟩:=rv
    have hl:i.natAbs.log2<1920:=by
      by_cases h0:i.natAbs=0
      · rw [h0];decide
      · have:=(Nat.log2_lt h0).mpr (show i.natAbs<2 ^ 64 from hi)
        omega
    exact formatField_int_small hl ⟨_,_,Hf1,H1,rfl,digits_le i hi,I1.tok _,x1⟩
  · obtain ⟨c,e1,_⟩:=q
    rw [ei] at e1;cases e1
structure MVs (X:Cx) (cl:Nat→Addr) (es:List Expr) (n:Nat) (c:MEnv→Bool):Prop where
  run':∀ (pins:List (Addr×Obj)) (s:Shared) (σ:SV) (Hf0 H0 Hf H:Hp) (ρ:MEnv) (E:Value→Shared→Prop) (acc:Str) (Q:Str→Shared→Prop),Inv X pins σ H s→Rep X.K cl Hf0 H0 Hf H σ ρ→c ρ=true→acc.length+n≤sizeLine →
    (∀ out s' Hf' H',out.length≤acc.length+n→Inv X pins σ H' s'→Ext Hf H Hf' H'→Q out s')→Joins (model X.prog X.w) X.A E (evalEach es X.env) acc Q s
instance {X:Cx}{cl:Nat→Addr}{es:List Expr}{n:Nat}{c:MEnv→Bool}:CoeFun (MVs X cl es n c) fun _=>∀ (pins:List (Addr×Obj)) (s:Shared) (σ:SV) (Hf0 H0 Hf H:Hp) (ρ:MEnv) (E:Value→Shared→Prop) (acc:Str) (Q:Str→Shared→Prop),Inv X pins σ H s→Rep X.K cl Hf0 H0 Hf H σ ρ→c ρ=true→acc.length+n≤sizeLine →
    (∀ out s' Hf' H',out.length≤acc.length+n→Inv X pins σ H' s'→Ext Hf H Hf' H'→Q out s')→Joins (model X.prog X.w) X.A E (evalEach es X.env) acc Q s:=⟨MVs.run'⟩
theorem mvs_nil:MVs X cl [] 0 (fun _=>true):=⟨fun pins s σ Hf0 H0 Hf H ρ E acc Q I r _ _ k=>k acc s Hf H (Nat.le_refl _) I (Ext.refl r.sub)⟩
theorem mvs_cons {e:Expr}{es:List Expr}{n m:Nat}{c d:MEnv→Bool} (h:MV X cl e n c) (ht:MVs X cl es m d) (he:evalEach (e::es) X.env=eval e X.env::evalEach es X.env:=by rfl):MVs X cl (e::es) (n+m) (fun ρ=>c ρ && d ρ):=by
  refine ⟨?_⟩
  intro pins s σ Hf0 H0 Hf H ρ E acc Q I r hc hz k
  rw [Bool.and_eq_true] at hc
  rw [he]
  refine wpAny_mono (h pins s σ Hf0 H0 Hf H ρ E I r hc.1) (fun u s1 q=>?_) fun _ _ z=>z
  obtain ⟨x,t,Hf1,H1,rfl,hl,I1,x1⟩:=q
  have e1:(acc ++ x).length=acc.length+x.length:=strLen_append ..
  refine ⟨x,t,rfl,by rw [e1];omega,ht pins s1 σ Hf0 H0 Hf1 H1 ρ E (acc ++ x) Q I1 (r.keep x1) hc.2 (by rw [e1];omega) fun out s' Hf' H' hl' I' x'=>k out s' Hf' H' (by rw [e1] at hl';omega) I' (x1.trans x')⟩
theorem mv_join {a b:Expr}{es:List Expr}{n:Nat}{c:MEnv→Bool}{pos:Pos} (h:MVs X cl (a::b::es) n c) (hn:n≤1000:=by decide):MV X cl (.JoinedStr (a::b::es) pos) n c:=by
  refine ⟨?_⟩
  intro pins s σ Hf0 H0 Hf H ρ E I r hc
  have h0:(Str.empty).length=0:=rfl
  have hs:n≤sizeLine:=Nat.le_trans hn (by decide)
  refine wpAny_JoinedStr (h pins s σ Hf0 H0 Hf H ρ E _ _ I r hc (by rw [h0];omega) fun out s' Hf' H' hl I' x'=>?_)
  rw [h0] at hl
  exact ⟨by omega,out,_,Hf',H',rfl,by omega,I'.tok _,x'⟩
theorem stands_of (W:Own X) (I:Inv X pins σ H s) {h':Heap} (k:∀ b o,s.heap.get? b=some o→h'.get? b=some o):Cov X pins H (PySem.W.hideAll s.heap (frs X.stack)) h':=by
  intro b o e hs hn
  obtain ⟨o',q⟩:=stands_there W I hs
  have:=k b o' q
  rw [e] at this;cases this
  exact PySem.W.hideAll_get _ q hn
theorem xst_made (W:Own X) (I:Inv X pins σ H s) {h':Heap}{e C:Addr}{vs:List Value} (hm:Heap.MadeExcOf s.heap h' e (.ref C) vs):XSt X pins H e C h':=by
  obtain ⟨t,he,_,_⟩:=hm.there
  refine ⟨PySem.W.hideAll s.heap (frs X.stack),.ref t,stands_of W I hm.keeps,⟨_,he,rfl⟩,.inl ⟨fun b o q=>hm.keeps b o (PySem.W.of_hideAll _ q),?_,?_,_,_,he,rfl,rfl,rfl,rfl,rfl⟩⟩
  · cases q:(PySem.W.hideAll s.heap (frs X.stack)).get? e with
    | none=>rfl
    | some o=>have:=PySem.W.of_hideAll _ q;rw [hm.new] at this;cases this
  · refine Heap.FunFrames.of_keeps (fun b o q _=>⟨o,hm.keeps b o q,rfl⟩) (PySem.W.funFrames_hide I.stack fun env he a ha=>?_)
    exact List.mem_filterMap.mpr ⟨env,he,ha⟩
theorem ms_raise {x:Str}{c:Nat}{e:Expr}{n:Nat}{k:MEnv→Bool}{np cpos pos:Pos} (hc:ClF X.K X.mg cl c x) (W:Own X) (hg:Gl X x) (hh:X.A.handled=none) (he:MV X cl e n k)
    (hst:starEach [e] X.env=[(false,eval e X.env)]:=by rfl) (hdb:(x == ("__debug__" : Str))=false:=by decide) :
    MS X cl (.Raise (some (.Call (.Name x np) [e] [] cpos)) none pos) (sRaiseT k c):=by
  refine ⟨?_⟩
  intro pins s σ Hf0 H0 Hf H ρ I r hs
  have hk:k ρ=true:=by
    cases q:k ρ with
    | true=>rfl
    | false=>exact absurd (by unfold sRaiseT;rw [q];rfl) hs
  have e0:sRaiseT k c ρ = .exc c ρ:=by unfold sRaiseT;rw [hk];rfl
  rw [e0]
  obtain ⟨bm,N,nm,q,bs,hdct,sn,sub,ab,col,dd,k0,k1,k2,k3,k5,mN,hC,hN,hni,T⟩:=excObj_of I.ok.mod.kin hc.ex
  refine wpAny_Raise_call_subT (C:=cl c) (nm:=nm) (q:=q) (N:=N) (bs:=bs) (bm:=bm) (hdct:=hdct) (sn:=sn) (sub:=sub) (ab:=ab) (col:=col) (dd:=dd) (k0:=k0) (k1:=k1) (k2:=k2) (k3:=k3) (k5:=k5)
    PySem.F.excBase_ValueError (mN:=mN) (T.hasType PySem.F.excBase_ValueError.hasBase) hh (by rw [hst];rfl) hni (ld_glob I hg hc.mg ⟨rfl,?_⟩ hdb)
  rw [hst]
  refine Calls.evalArgs_plain ?_
  show wpAny _ _ (spliced ((false,eval e X.env)::backTo cpos [])) _ _ s
  refine Calls.spliced_cons (wpAny_mono (he pins s σ Hf0 H0 Hf H ρ _ I r hk) (fun u s1 q1=>Calls.spliced_nil ?_) fun _ _ z=>z)
  obtain ⟨y,t,Hf1,H1,rfl,hl,I1,x1⟩:=q1
  refine ⟨rfl,by show 1≤sizeLine;decide,I1.bk _ _ hC,hN.keeps I1.bk,T.keeps I1.bk,fun h' ee hm=>?_⟩
  exact ⟨c,ρ,σ,Hf1,H1,ee,rfl,rfl,I1.kept (t':=s1.toks) hm.keeps,r.keep x1,x1.frz,xst_made W I1 hm⟩
end
structure Cls (K:PySem.W.Frag) (mg:Str→Option Value) (cl:Nat→Addr) (names:List (Nat×Str)):Prop where
  cls:∀ c x,(c,x)∈names→ClF K mg cl c x
  kit:∀ c x d y,(c,x)∈names→(d,y)∈names→PySem.W.kitOne K (.ref (cl c)) (.ref (cl d))=some (under c d)
  exm:∀ c x d y,(c,x)∈names→(d,y)∈names→PySem.W.exmOne K (.ref (cl c)) (.ref (cl d))=some (under c d)
  non:∀ d y,(d,y)∈names→PySem.W.kitOne K (.type "NoneType") (.ref (cl d))=some false
  val:∀ c x,(c,x)∈names→PySem.W.kitOne K (.ref (cl c)) (.type "ValueError")=some true
theorem mem_ks {names:List (Nat×Str)}{c:Nat} (h:(names.map (·.1)).contains c=true):∃ x,(c,x)∈names:=by
  rw [List.contains_iff_mem,List.mem_map] at h
  obtain ⟨⟨a,b⟩,h1,h2⟩:=h
  cases h2
  exact ⟨b,h1⟩
section
variable {prog:Program}{w:World}{A:Around}{E:Value→Shared→Prop}{s:Shared}{K:PySem.W.Frag}{x D:Addr}{ox:Obj}
theorem exc_class {Q:Option Value→Shared→Prop} (X:K.In s.heap) (I:PySem.W.InstAt s.heap x ox D none) (hga:PySem.W.findIn K (.ref D) "__getattribute__"=some (some (.builtin "BaseException.__getattribute__")))
    (hgt:PySem.W.findIn K (.ref D) "__getattr__"=some none) (hsb:PySem.W.subIn K (.ref D) (.type "BaseException")=some true)
    (hf:PySem.W.findObj K D none "__class__"=some (.bind (.builtin "getset_descriptor.__get__") (.builtin "object.__class__"))) (hm:PySem.W.mroIn K D (.type "object")=some true)
    (h:Q (some (.ref D)) { s with toks:=s.toks+1 }):wpAny (model prog w) A (getAttr? (.ref x) "__class__") Q E s:=by
  obtain ⟨hh,g,d,t,os⟩:=s
  have L0:=I.type (M:=model prog w)
  have L1:=PySem.W.looks_findIn (M:=model prog w) X hga
  have L2:=PySem.W.looks_findIn (M:=model prog w) X hgt
  have L3:=PySem.W.looks_subIn (M:=model prog w) X hsb
  have L4:=PySem.W.looks_find (M:=model prog w) X I hf
  have slot:=PySem.F.attr_ValueError.ga
  unfold getAttr? getAttrBy? getAttrBy
  refine wpAny_bind (wpAny_mkText (wpAny_bind (wpAny_attempt (wpAny_holding (wpAny_bind (L0.at (wpAny_bind (L1.at ?_))))))))
  have hx1:(onTheHeap (Value.ref D) && Value.builtin "BaseException.__getattribute__" == Value.builtin "object.__getattribute__")=false:=by
    have:(Value.builtin "BaseException.__getattribute__" == Value.builtin "object.__getattribute__")=false:=by decide +kernel
    rw [this];rfl
  show wpAny _ _ (if (onTheHeap (Value.ref D) && Value.builtin "BaseException.__getattribute__" == Value.builtin "object.__getattribute__")=true then _ else getAttrByItsOwn _ _ _ _ _ _) _ _ _
  rw [hx1,if_neg Bool.false_ne_true]
  unfold getAttrByItsOwn
  refine wpAny_bind ?_
  show wpAny _ _ (typeLookup (.ref D) "__getattr__") _ _ _
  refine L2.at ?_
  refine wpAny_bind (wpAny_attempt (wpAny_holding ?_))
  show wpAny _ _ (boundAndCalled _ _ _) _ _ _
  unfold boundAndCalled
  rw [slot.bind]
  refine wpAny_bind (wpAny_pure ?_)
  show wpAny _ _ (call (.builtin "BaseException.__getattribute__") [.ref x,.str "__class__" t]) _ _ _
  refine wpAny_call (codeAny_call_builtin slot.plain PySem.F.entry_bexc_ga ?_)
  have hk:builtinKind "BaseException.__getattribute__"=some .slot:=by decide +kernel
  have hsplit:splitId "BaseException.__getattribute__"=some ("BaseException","__getattribute__"):=by decide +kernel
  have hai:=PySem.F.args_bexc_ga (.ref x) (.str "__class__" t)
  simp only [checkBuiltinCall,hk,hsplit]
  unfold isInstance
  refine wpAny_bind ?_
  refine wpAny_bind (L0.at ?_)
  refine L3.at ?_
  simp only [Bool.not_true,Bool.false_eq_true,if_false]
  unfold argsOk at hai
  first
    | rw [hai]
    | skip
  refine wpAny_pure ?_
  refine wpAny_bind (wpAny_pure (wpAny_bind (wpAny_pure (wpAny_bind (L0.at (wpAny_bind (L4.at ?_)))))))
  show wpAny _ _ (holding _ (call (.builtin "getset_descriptor.__get__") [.builtin "object.__class__",.ref x,.ref D]) >>= _) _ _ _
  refine wpAny_bind (wpAny_holding (wpAny_call (PySem.W.class_get (ox:=ox) (od:=none) X I hm ?_)))
  exact wpAny_pure (PySem.W.handed_on rfl (wpAny_pure h))
end
section
variable {K:PySem.W.Frag}{D x:Addr}
theorem kitx_exc (hD:attrOk K D=true):PySem.W.KitX K (.ref x) (.ref D) (fun h=>∃ ox,PySem.W.InstAt h x ox D none):=by
  unfold attrOk at hD
  simp only [Bool.and_eq_true,beq_iff_eq] at hD
  obtain ⟨⟨⟨⟨⟨⟨⟨hga,hgt⟩,hsb⟩,hc⟩,ha⟩,hn⟩,htk⟩,hm⟩:=hD
  obtain ⟨cd,hcd⟩:=Option.isSome_iff_exists.mp hc
  have obj:∃ c' d' sl',K.lookup D=some ⟨c',d',.cls cd,sl'⟩:=by
    unfold PySem.W.clsIn at hcd
    split at hcd
    · rename_i c' d' cd' sl' ho
      cases hcd
      exact ⟨c',d',sl',ho⟩
    · cases hcd
  obtain ⟨c',d',sl',ho⟩:=obj
  have hf:PySem.W.findObj K D none "__class__"=some (.bind (.builtin "getset_descriptor.__get__") (.builtin "object.__class__")):=by
    unfold PySem.W.findObj
    rw [hcd,Option.bind_some,ha,Option.bind_some]
    simp [hn,htk]
  refine ⟨fun M h _ ⟨ox,I⟩=>I.type,fun M h X _ A Q E s k q=>?_,fun h tp dd its n sl X htp=>?_,fun {prog w A E Q s} X ⟨ox,I⟩ k=>?_⟩
  · unfold isType loadHead
    exact wpAny_bind (wpAny_loadPart (k _ _ (X _ _ ho)) (wpAny_pure q))
  · refine Bool.eq_false_iff.mpr fun q=>?_
    have e:D=tp:=Value.ref.inj (beq_iff_eq.mp q)
    subst e
    have z:=(X _ _ ho).symm.trans htp
    cases z
  · exact exc_class X I hga hgt hsb hf hm k
end
section
variable {X:Cx}{cl:Nat→Addr}{pins:List (Addr×Obj)}{s:Shared}{σ:SV}{Hf0 H0 Hf H Hf1 H1:Hp}{ρ:MEnv}{α:Type}
theorem inst_of (I:Inv X pins σ H s) (sm:Same Hf H) {a:Addr}{c:Nat} (h:Hf a=some (ExcO a (cl c))):∃ ox,PySem.W.InstAt s.heap a ox (cl c) none:=by
  obtain ⟨⟨o,vs,h1,h2,h3,h4⟩,_,_⟩:=I.hok a _ (sm _ _ h)
  refine ⟨o,h1,h2,?_,?_⟩
  · unfold PySem.W.notCls;rw [h4]
  · rw [h3];trivial
theorem isexc_run {p:PV}{v:V}{u cv:Value}{b:Bool}{E:Value→Shared→Prop} (I:Inv X pins σ H s) (sm:Same Hf H) (rv:RelV v u) (rp:Rp X.K cl Hf v p)
    (hb:(∃ c,p = .exc c∧attrOk X.K (cl c)=true∧PySem.W.kitOne X.K (.ref (cl c)) cv=some b)∨(p = .non∧PySem.W.kitOne X.K (.type "NoneType") cv=some b)) :
    wpAny (model X.prog X.w) X.A (call (.builtin "isinstance") [u,cv]) (OkP X cl pins σ Hf H (.ok (.bl b))) E s:=by
  have fin:∀ tk,OkP X cl pins σ Hf H (.ok (.bl b)) (.bool b) { s with toks:=tk }:=fun tk=>⟨.bl b,.bl b,Hf,H,rfl,I.tok _,rfl,Ext.refl sm,.bl b⟩
  rcases hb with ⟨c,rfl,ha,hk⟩ | ⟨rfl,hk⟩
  · cases rp with
    | exc hq =>
      cases rv
      exact PySem.W.kia_one (kitx_exc ha) I.kIn (inst_of I sm hq) hk (fun z=>nomatch z) fin
  · cases rp
    cases rv
    exact PySem.W.kia_one PySem.W.kitx_none I.kIn True.intro hk (fun z=>nomatch z) fin
theorem me_isexc {e:Expr}{f:FE}{names:List (Nat×Str)} (C:Cls X.K X.mg cl names) {d:Nat}{y:Str}{p p2 pos:Pos} (hy:(d,y)∈names) (he:ME X cl e f) (hg:Gl X "isinstance") (hm:X.mg "isinstance"=none) (hg2:Gl X y)
    (hdb:(y == ("__debug__" : Str))=false:=by decide)
    (hst:starEach [e,.Name y p2] X.env=[(false,eval e X.env),(false,eval (.Name y p2) X.env)]:=by rfl) (hst2:starEach [.Name y p2] X.env=[(false,eval (.Name y p2) X.env)]:=by rfl) :
    ME X cl (.Call (.Name "isinstance" p) [e,.Name y p2] [] pos) (fIsExc (names.map (·.1)) d f):=by
  refine ⟨?_⟩
  intro pins s σ Hf0 H0 Hf H ρ I r hs
  unfold fIsExc at hs ⊢
  refine wpAny_Call_Name_kw (ld_blt I hg hm boot_isinstance ?_)
  refine PyProof.Rows.callWith_builtin1 ?_ (by rw [hst,hst2]) (by rw [hst2];rfl)
  rw [hst]
  show wpAny _ _ (spliced ((false,eval e X.env)::backTo pos [(false,eval (.Name y p2) X.env)])) _ _ s
  refine Calls.spliced_cons (he.run I r (Ext.refl r.sub) hs fun q v u s1 Hf1 H1 e1 I1 rv x1 rp=>?_)
  rw [e1] at hs ⊢
  show wpAny _ _ (spliced ((false,eval (.Name y p2) X.env)::[])) _ _ s1
  refine Calls.spliced_cons (ld_glob I1 hg2 (C.cls d y hy).mg (Calls.spliced_nil ?_) hdb)
  cases q<;>first
    | exact absurd rfl hs
    | skip
  · exact thn (isexc_run I1 x1.sub rv rp (.inr ⟨rfl,C.non d y hy⟩)) fun _ _ q=>q.from (e0:=x1)
  · rename_i c
    have hs':(if (names.map (·.1)).contains c=true then R.ok (PV.bl (under c d)) else R.stuck)≠.stuck:=hs
    obtain ⟨hc,e2⟩:=ifOk hs'
    obtain ⟨x,hx⟩:=mem_ks hc
    show wpAny _ _ _ (OkP X cl pins σ Hf H (if (names.map (·.1)).contains c=true then R.ok (PV.bl (under c d)) else R.stuck)) _ s1
    rw [e2]
    exact thn (isexc_run I1 x1.sub rv rp (.inl ⟨c,rfl,(C.cls c x hx).at_,C.kit c x d y hx hy⟩)) fun _ _ q=>q.from (e0:=x1)
theorem kit_non_val:PySem.W.kitOne X.K (.type "NoneType") (.type "ValueError")=some false:=by rfl
theorem me_isval {e:Expr}{f:FE}{names:List (Nat×Str)} (C:Cls X.K X.mg cl names) {p p2 pos:Pos} (he:ME X cl e f) (hg:Gl X "isinstance") (hm:X.mg "isinstance"=none) (hg2:Gl X "ValueError") (hm2:X.mg "ValueError"=none)
    (hst:starEach [e,.Name "ValueError" p2] X.env=[(false,eval e X.env),(false,eval (.Name "ValueError" p2) X.env)]:=by rfl) (hst2:starEach [.Name "ValueError" p2] X.env=[(false,eval (.Name "ValueError" p2) X.env)]:=by rfl) :
    ME X cl (.Call (.Name "isinstance" p) [e,.Name "ValueError" p2] [] pos) (fIsVal (names.map (·.1)) f):=by
  refine ⟨?_⟩
  intro pins s σ Hf0 H0 Hf H ρ I r hs
  unfold fIsVal at hs ⊢
  refine wpAny_Call_Name_kw (ld_blt I hg hm boot_isinstance ?_)
  refine PyProof.Rows.callWith_builtin1 ?_ (by rw [hst,hst2]) (by rw [hst2];rfl)
  rw [hst]
  show wpAny _ _ (spliced ((false,eval e X.env)::backTo pos [(false,eval (.Name "ValueError" p2) X.env)])) _ _ s
  refine Calls.spliced_cons (he.run I r (Ext.refl r.sub) hs fun q v u s1 Hf1 H1 e1 I1 rv x1 rp=>?_)
  rw [e1] at hs ⊢
  show wpAny _ _ (spliced ((false,eval (.Name "ValueError" p2) X.env)::[])) _ _ s1
  refine Calls.spliced_cons (ld_blt I1 hg2 hm2 PyProof.Rows.Boot.«ValueError» (Calls.spliced_nil ?_))
  cases q<;>first
    | exact absurd rfl hs
    | skip
  · exact thn (isexc_run I1 x1.sub rv rp (.inr ⟨rfl,kit_non_val⟩)) fun _ _ q=>q.from (e0:=x1)
  · rename_i c
    have hs':(if (names.map (·.1)).contains c=true then R.ok (PV.bl true) else R.stuck)≠.stuck:=hs
    obtain ⟨hc,e2⟩:=ifOk hs'
    obtain ⟨x,hx⟩:=mem_ks hc
    show wpAny _ _ _ (OkP X cl pins σ Hf H (if (names.map (·.1)).contains c=true then R.ok (PV.bl true) else R.stuck)) _ s1
    rw [e2]
    exact thn (isexc_run I1 x1.sub rv rp (.inl ⟨c,rfl,(C.cls c x hx).at_,C.val c x hx⟩)) fun _ _ q=>q.from (e0:=x1)
theorem var_any {M:Model}{A:Around}{E:Value→Shared→Prop}{i:Nat}{x:Str}{pos:Pos}{v:V}{Q:Value→Shared→Prop} (I:Inv X pins σ H s) (hN:X.N[i]?=some x) (hv:Vis X.env.scope x) (e:σ[i]?=some (some v)) (h:∀ u,RelV v u→Q u s)
    (hd:(x == ("__debug__" : Str))=false:=by decide) (hcd:(x == ("__classdict__" : Str))=false:=by decide):wpAny M A (eval (.Name x pos) X.env) Q E s:=by
  obtain ⟨m,hn,hl⟩:=I.loc
  obtain ⟨u,r,l⟩:=hl i x v hN e hv
  rcases l with ⟨hk,hm⟩ | ⟨hk,c,hc,hcell⟩
  · exact wpAny_Name (wpAny_loadName_local I.ok.kind hk hn hm (h u r)) hd
  · rcases hk with hk | hk
    · exact wpAny_Name (wpAny_loadName_cell I.ok.kind hk hc hcell (h u r)) hd
    · exact wpAny_Name (wpAny_loadName_free I.ok.kind hk hc hcell (h u r) hcd) hd
theorem goes_any {M:Model}{A:Around}{E:Value→Shared→Prop}{i:Nat}{x:Str}{pos:Pos}{Q:Unit→Shared→Prop} (I:Inv X pins σ H s) (hN:X.N.Nodup) (hi:X.N[i]?=some x) (hk:X.env.scope.names.lookup x=some .local)
    (h:∀ s',Inv X pins (σ.set i none) H s'→Q () s'):wpAny M A (do bindName X.env x .none;unbindBehindTheSuite X.env x pos) Q E s:=by
  obtain ⟨m,hn,hl⟩:=id I.loc
  have hcls:(X.env.scope.kind == .class || (X.env.scope.kind == .module && X.env.locals != X.env.globals))=false:=by rw [I.ok.kind];rfl
  refine wpAny_nameGoes_keeps hk hn hcls fun h' v hn' hs=>?_
  obtain ⟨oL,_,_,hoL,_⟩:=id hn
  have old:∀ b o,X.s₀.heap.get? b=some o→h'.get? b=s.heap.get? b:=fun b o e=>hs.2 b (Nat.ne_of_lt (Nat.lt_of_lt_of_le (Heap.lt_size e) I.ok.above))
  have hokx:HOk X.prog X.w H h':=fun b ob e=>by
    have nl:∀ c,(c=b∨H c=some (.own b))→c≠X.env.locals:=fun c hc z=>by
      subst z
      rcases hc with rfl | hc
      · rw [I.free] at e;cases e
      · rw [I.free] at hc;cases hc
    exact (I.hok b ob e).stay (fun c w' hc q=>by rw [hs.2 c (nl c hc)];exact q) (fun _ q=>q) fun _ _ q=>q
  refine h _ ⟨I.ok,I.os,I.bare,⟨fun b o e n hb hx=>?_,fun b o e n hb hx=>?_,I.base.free,fun b o e hx=>?_,I.base.tups,I.base.frzs,I.base.tbls⟩,⟨_,hn',fun j y v' e1 e2 e3=>?_⟩,fun y c e=>?_,I.free,I.freeC,fun p hp=>?_,hokx,by simpa using I.len⟩
  · show h'.get? b=_;rw [old b o e];exact I.base.keep b o e n hb hx
  · obtain ⟨sl,q⟩:=I.base.slot b o e n hb hx
    exact ⟨sl,by show h'.get? b=_;rw [old b o e];exact q⟩
  · obtain ⟨o',q⟩:=I.base.there b o e hx
    exact ⟨o',by show h'.get? b=_;rw [old b o e];exact q⟩
  · by_cases hj:j=i
    · subst hj
      rw [List.getElem?_set] at e2
      by_cases hh:j<σ.length<;>simp [hh] at e2
    · rw [List.getElem?_set_ne (Ne.symm hj)] at e2
      obtain ⟨u',r',q⟩:=hl j y v' e1 e2 e3
      have ny:y≠x:=fun e=>hj (nodup_ix hN e1 (e ▸ hi))
      refine ⟨u',r',?_⟩
      rcases q with ⟨k,e⟩ | ⟨k,c,e,z⟩
      · exact .inl ⟨k,by simp [ny,e]⟩
      · exact .inr ⟨k,c,e,z.sameBut hs (I.cne y c e)⟩
  · obtain ⟨w',z⟩:=I.cell y c e
    exact ⟨w',z.sameBut hs (I.cne y c e)⟩
  · obtain ⟨p1,p2,p3,p4,p5⟩:=I.pin p hp
    exact ⟨by show h'.get? p.1=_;rw [hs.2 p.1 p3];exact p1,p2,p3,p4,p5⟩
theorem Inv.adopt {e:Addr}{o:HO} (I:Inv X pins σ H s) (hH:H e=none) (h0:X.s₀.heap.get? e=none) (hL:e≠X.env.locals) (hC:∀ x c,X.env.cells.lookup x=some c→c≠e) (hP:∀ p∈X.pn ++ pins,p.1≠e)
    (new:ObjOk X.prog X.w (upd H e o) s.heap e o):Inv X pins σ (upd H e o) s:=by
  have up:∀ {b:Addr}{u:HO},H b=some u→(upd H e o) b=some u:=fun {b u} q=>by rw [upd_ne (ne_of_none q hH)];exact q
  refine ⟨I.ok,I.os,I.bare,⟨I.base.keep,I.base.slot,fun b ob q n hx=>?_,I.base.there,fun b xs q=>up (I.base.tups b xs q),fun b ob u q=>up (I.base.frzs b ob u q),fun b ps q=>?_⟩,I.loc,I.cell,?_,fun x c q=>?_,fun p hp=>?_,fun b u q=>?_,I.len⟩
  · rw [upd_ne (fun z=>by rw [z,h0] at q;cases q)];exact I.base.free b ob q n hx
  · obtain ⟨more,q'⟩:=I.base.tbls b ps q
    exact ⟨more,up q'⟩
  · rw [upd_ne (Ne.symm hL)];exact I.free
  · rw [upd_ne (hC x c q)];exact I.freeC x c q
  · obtain ⟨p1,p2,p3⟩:=I.pin p hp
    exact ⟨p1,by rw [upd_ne (hP p hp)];exact p2,p3⟩
  · by_cases hb:b=e
    · subst hb;rw [upd_same] at q;cases q;exact new
    · rw [upd_ne hb] at q
      exact (I.hok b u q).stay (fun c v _ q=>q) (fun c q=>up q) fun c xs q=>up q
theorem caught_in {B:Heap}{e:Addr}{c:Nat}{a0:Value} (W:Own X) (I:Inv X pins σ H s) (cov:Cov X pins H B s.heap) (nd:NoD e s.heap) (fl:Heap.FlyingW B X.stack e (.ref (cl c)) a0 s.heap) :
    H e=none∧Inv X pins σ (upd H e (ExcO e (cl c))) s:=by
  obtain ⟨f1,f2,f3,f4⟩:=fl
  obtain ⟨oe,vs,T,oT,ts,he,hc,hd,_⟩:=f4
  obtain ⟨o',q1,q2⟩:=nd
  rw [he] at q1;cases q1
  have nfr:e ∉ frs X.stack:=fun z=>by
    obtain ⟨_,o,ho,hnf⟩:=I.stack.mem z
    rw [he] at ho;cases ho
    exact hnf vs hd
  have ns:¬ Stands X pins H e:=fun z=>by
    have:=cov e oe he z nfr
    rw [f2] at this;cases this
  have nH:H e=none:=by
    cases q:H e with
    | none=>rfl
    | some u=>exact absurd (.inl (by rw [q];intro z;cases z)) ns
  refine ⟨nH,Mi.Inv.adopt I nH ?_ (fun z=>nfr ((frs_stk W).mpr (.inl z))) (fun x c' q z=>ns (.inr (.inr (.inr ⟨x,z ▸ q⟩)))) (fun p hp z=>ns (.inr (.inl ⟨p,hp,z⟩))) ⟨⟨oe,vs,he,hc.1,q2,hd⟩,⟨oe,he⟩,?_⟩⟩
  · cases q:X.s₀.heap.get? e with
    | none=>rfl
    | some u=>exact absurd (.inr (.inr (.inl ⟨u,q⟩))) ns
  · rintro h1 h2 ⟨o,ws,a1,a2,a3,a4⟩ k
    exact ⟨o,ws,k o a1,a2,a3,a4⟩
theorem ms_try {names:List (Nat×Str)} (C:Cls X.K X.mg cl names) {body:List Stmt}{f:FS}{d:Nat}{y:Str}{n x:Nat}{en ex:Str}{np p1 p2 p3 hpos pos:Pos} (W:Own X) (hy:(d,y)∈names) (hb:MSs X cl body f) (hN:X.N.Nodup)
    (hn:X.N[n]?=some en) (hx:X.N[x]?=some ex) (hln:X.env.scope.names.lookup en=some .local) (hlx:Loc X.env.scope ex) (hg:Gl X y) (hne:n≠x) (hdb:(y == ("__debug__" : Str))=false:=by decide)
    (hsw:swapsWith (.Name en p2) (some (.Name ex p1)) p3.line X.env=pure false:=by rfl) (hde:(en == ("__debug__" : Str))=false:=by decide) (hce:(en == ("__classdict__" : Str))=false:=by decide) :
    MS X cl (.Try body [.ExceptHandler (some (.Name y np)) (some en) [.Assign [.Name ex p1] (.Name en p2) p3] hpos] [] [] pos) (sTryAs f (names.map (·.1)) d n x):=by
  refine ⟨?_⟩
  intro pins s σ Hf0 H0 Hf H ρ I r hs
  have hf:f ρ≠.stuck:=fun z=>hs (by unfold sTryAs;rw [z])
  refine wpAny_Try_except (wpAny_mono (hb pins s σ Hf0 H0 Hf H ρ I r hf) (fun fl s1 q=>?_) fun u s1 q=>?_)
  · cases fl with
    | next =>
      obtain ⟨ρ',σ',Hf',H',e1,I',r',sm⟩:=q
      have e2:sTryAs f (names.map (·.1)) d n x ρ = .next ρ':=by unfold sTryAs;rw [e1]
      rw [e2]
      exact wpAny_execs_nil ⟨ρ',σ',Hf',H',rfl,I',r',sm⟩
    | brk =>
      obtain ⟨ρ',σ',Hf',H',e1,I',r',sm⟩:=q
      have e2:sTryAs f (names.map (·.1)) d n x ρ = .brk ρ':=by unfold sTryAs;rw [e1]
      rw [e2];exact ⟨ρ',σ',Hf',H',rfl,I',r',sm⟩
    | cont =>
      obtain ⟨ρ',σ',Hf',H',e1,I',r',sm⟩:=q
      have e2:sTryAs f (names.map (·.1)) d n x ρ = .cont ρ':=by unfold sTryAs;rw [e1]
      rw [e2];exact ⟨ρ',σ',Hf',H',rfl,I',r',sm⟩
    | ret u =>
      obtain ⟨p,v,σ',Hf',H',e1,I',ex',rv,rp⟩:=q
      have e2:sTryAs f (names.map (·.1)) d n x ρ = .ret p:=by unfold sTryAs;rw [e1]
      rw [e2];exact ⟨p,v,σ',Hf',H',rfl,I',ex',rv,rp⟩
  · obtain ⟨c,ρ',σ',Hf',H',e,e1,rfl,I',r',sm,B,a0,cov,nd,st⟩:=q
    have e2:sTryAs f (names.map (·.1)) d n x ρ=if (names.map (·.1)).contains c && under c d then .next (((ρ'.set n (some (.exc c))).set x (some (.exc c))).set n none) else .stuck:=by unfold sTryAs;rw [e1]
    rw [e2] at hs ⊢
    have hc:((names.map (·.1)).contains c && under c d)=true:=by
      cases q:((names.map (·.1)).contains c && under c d) with
      | true=>rfl
      | false=>rw [q] at hs;exact absurd rfl hs
    rw [if_pos hc]
    rw [Bool.and_eq_true] at hc
    obtain ⟨cx,hcx⟩:=mem_ks hc.1
    refine note_ok W I'.ok.frames nd st fun h1 hh u1 nd1=>?_
    have I1:=Inv.upto W I' cov hh.1 u1 (tk:=s1.toks)
    have c1:=cov.upto W I' hh.1
    refine lands_ok (s:={ s1 with heap:=h1 }) nd1 hh fun h2 hf2 u2 nd2=>?_
    have I2:=Inv.upto W I1 c1 hf2.1 u2 (tk:=s1.toks)
    have c2:=c1.upto W I1 hf2.1
    refine wpAny_handleBy_cons (codeAny_handlers_test (Calls.Name_function_global I2.ok.kind hg (Calls.loadGlobal_global (by rw [I2.ok.glob];exact I2.mod.glob.keeps I2.bk) (C.cls d y hy).mg ?_) hdb)) (by intro z;cases z)
    have LT:PySem.W.Looks (model X.prog X.w) h2 (typeOf (.ref e)) (.ref (cl c)):=by
      obtain ⟨ob,q1,q2⟩:=hf2.there
      exact q2 ▸ (PySem.W.Looks.ld q1).andThen .now
    refine (PySem.W.exm_one (M:=model X.prog X.w) (h:=h2) I2.kIn LT (C.exm c cx d y hcx hy)).here ?_
    rw [hc.2]
    refine codeAny_handlers_suite_as ?_
    refine again_ok (s:={ s1 with heap:=h2 }) nd2 hf2 fun h3 hf3 u3 nd3=>?_
    have I3:=Inv.upto W I2 c2 hf3.1 u3 (tk:=s1.toks)
    have c3:=c2.upto W I2 hf3.1
    obtain ⟨nH,I4⟩:=caught_in W I3 c3 nd3 hf3
    have x4:=Ext.new r'.sub nH (ExcO e (cl c))
    have rp4:Rp X.K cl (upd Hf' e (ExcO e (cl c))) (.ref e) (.exc c):=.exc upd_same
    have hnl:n<σ'.length:=by rw [I'.len];exact (List.getElem?_eq_some_iff.mp hn).1
    have hxl:x<(σ'.set n (some (.ref e))).length:=by rw [List.length_set,I'.len];exact (List.getElem?_eq_some_iff.mp hx).1
    refine store_ok I4 hN hn (.inl hln) (v:=.ref e) rfl (fun s5 I5=>?_) (.inl (W.fn en))
    refine wpAny_execs_cons (wpAny_Assign_Name (var_any I5 hn (.inl hln) (List.getElem?_set_self hnl) (fun u ru=>?_) hde hce) hsw)
    refine store_ok I5 hN hx hlx ru (fun s6 I6=>?_) (.inl (W.fn ex))
    refine wpAny_execs_nil ?_
    refine goes_any I6 hN hn hln fun s7 I7=>?_
    exact ⟨_,_,_,_,rfl,I7,((((r'.keep x4).set n rp4 hnl).set x rp4 hxl).forget n none),sm.trans x4.frz⟩
end
noncomputable def refIn (K:PySem.W.Frag) (x:Str):Bool:=match PySem.W.nsIn K mainGlobals x with
  | some (some (.ref _))=>true
  | _=>false
theorem refIn_of {K:PySem.W.Frag}{x:Str} (h:refIn K x=true):PySem.W.nsIn K mainGlobals x=some (some (.ref (adOf K x))):=by
  unfold refIn at h
  unfold adOf
  split at h
  · rename_i a e;rw [e]
  · cases h
noncomputable def pairOk (K:PySem.W.Frag) (p q:Nat×Str):Bool:=PySem.W.kitOne K (.ref (adOf K p.2)) (.ref (adOf K q.2)) == some (under p.1 q.1) && PySem.W.exmOne K (.ref (adOf K p.2)) (.ref (adOf K q.2)) == some (under p.1 q.1)
noncomputable def oneOk (K:PySem.W.Frag) (p:Nat×Str):Bool:=refIn K p.2 && PySem.W.excIn K (adOf K p.2) bmV "ValueError.__new__" && attrOk K (adOf K p.2) && PySem.W.kitOne K (.ref (adOf K p.2)) (.type "ValueError") == some true &&
  PySem.W.kitOne K (.type "NoneType") (.ref (adOf K p.2)) == some false
noncomputable def ndOk:List Nat→Bool
  | []=>true
  | a::r=>!r.contains a && ndOk r
theorem nd_of:∀ {l:List Nat},ndOk l=true→l.Nodup
  | [],_=>List.nodup_nil
  | a::r,h=>by
    unfold ndOk at h
    rw [Bool.and_eq_true] at h
    refine List.nodup_cons.mpr ⟨fun z=>?_,nd_of h.2⟩
    have:=List.contains_iff_mem.mpr z
    rw [this] at h;exact absurd h.1 (by decide)
section
variable {K:PySem.W.Frag}{mg:Str→Option Value}{names:List (Nat×Str)}{h:Heap}
theorem clOf_at {c:Nat}{x:Str} (hn:(names.map (·.1)).Nodup) (hx:(c,x)∈names):clOf K names c=adOf K x:=by
  unfold clOf;rw [mem_lookup hn hx]
end
section
variable {X:Cx}{cl:Nat→Addr}
theorem me_globI {x:Str}{i:Int}{pos:Pos} (hg:Gl X x) (hm:∃ t,X.mg x=some (.int i t)) (hd:(x == ("__debug__" : Str))=false:=by decide):ME X cl (.Name x pos) (fC (.int i)):=by
  obtain ⟨t,hm⟩:=hm
  exact me_glob (v:=.int i) hg hm ⟨t,rfl⟩ (fun _=>.int i) hd
theorem at_mem {names:List (Nat×Str)} (i:Nat) {p:Nat×Str} (h:names[i]?=some p):p∈names:=List.mem_of_getElem? h
end
section
variable {K:PySem.W.Frag}{cl:Nat→Addr}{Hf0 H0 Hf H Hf' H':Hp}{σ:SV}{ρ:MEnv}
theorem Rep.freeze (r:Rep K cl Hf0 H0 Hf H σ ρ) {i:Nat}{l:List PV} (h:ρ[i]?=some (some (.own l))):∃ Hf',Rep K cl Hf0 H0 Hf' H σ (ρ.set i (some (.lst l)))∧Same Hf Hf':=by
  obtain ⟨v,hv,a,xs,rfl,ha,hfa,h0a,rps⟩:=r.slot i _ h
  have sm:=same_upd hfa (.lst xs)
  have hi:i<ρ.length:=(List.getElem?_eq_some_iff.mp h).1
  refine ⟨upd Hf a (.lst xs),⟨⟨r.ext.all,r.ext.frz.trans sm,fun b u q=>?_,fun b n=>?_⟩,fun j p hp=>?_,fun j k ps qs b h1 h2 h3 h4=>?_⟩,sm⟩
  · by_cases e:b=a
    · subst e;rw [upd_same] at q;cases q;exact ha
    · rw [upd_ne e] at q;exact r.ext.sub b u q
  · rw [upd_ne (fun e=>n (by rw [e];exact h0a)),r.ext.old b n]
  · by_cases e:i=j
    · subst e
      rw [List.getElem?_set_self hi] at hp
      cases hp
      exact ⟨_,hv,.lst (SqL.of upd_same) (rps.keep sm)⟩
    · rw [List.getElem?_set_ne e] at hp
      obtain ⟨w,hw,sl⟩:=r.slot j p hp
      refine ⟨w,hw,?_⟩
      cases p with
      | own qs =>
        obtain ⟨b,ys,rfl,h1,h2,h3,h4⟩:=sl
        have nb:b≠a:=fun z=>by subst z;exact e (r.dist i j _ _ _ h hp hv hw)
        exact ⟨b,ys,rfl,h1,by rw [upd_ne nb];exact h2,h3,h4.keep sm⟩
      | _=>exact Rp.keep sm sl
  · have back:∀ {m:Nat}{l':List PV},(ρ.set i (some (.lst l)))[m]?=some (some (.own l'))→ρ[m]?=some (some (.own l')):=fun {m l'} hm=>by
      by_cases e:i=m
      · subst e;rw [List.getElem?_set_self hi] at hm;cases hm
      · rw [List.getElem?_set_ne e] at hm;exact hm
    exact r.dist j k ps qs b (back h1) (back h2) h3 h4
theorem Rep.store (r:Rep K cl Hf0 H0 Hf H σ ρ) {i:Nat}{l l':List PV}{a:Addr}{ys:List V} (h:ρ[i]?=some (some (.own l))) (hv:σ[i]?=some (some (.ref a))) (hfa:Hf a=none) (h0a:H0 a=none) (ry:Rps K cl Hf ys l') :
    Rep K cl Hf0 H0 Hf (upd H a (.lst ys)) σ (ρ.set i (some (.own l'))):=by
  have hi:i<ρ.length:=(List.getElem?_eq_some_iff.mp h).1
  have same:∀ {G:Hp},G a=none→Same G H→Same G (upd H a (.lst ys)):=fun {G} g s b u q=>by
    rw [upd_ne (fun e=>by rw [e,g] at q;cases q)];exact s b u q
  refine ⟨⟨same h0a r.ext.all,r.ext.frz,same hfa r.ext.sub,r.ext.old⟩,fun j p hp=>?_,fun j k ps qs b h1 h2 h3 h4=>?_⟩
  · by_cases e:i=j
    · subst e
      rw [List.getElem?_set_self hi] at hp
      cases hp
      exact ⟨_,hv,a,ys,rfl,upd_same,hfa,h0a,ry⟩
    · rw [List.getElem?_set_ne e] at hp
      obtain ⟨w,hw,sl⟩:=r.slot j p hp
      refine ⟨w,hw,?_⟩
      cases p with
      | own qs =>
        obtain ⟨b,zs,rfl,h1,h2,h3,h4⟩:=sl
        have nb:b≠a:=fun z=>by subst z;exact e (r.dist i j _ _ _ h hp hv hw)
        exact ⟨b,zs,rfl,by rw [upd_ne nb];exact h1,h2,h3,h4⟩
      | _=>exact sl
  · have back:∀ {m:Nat}{l'':List PV},(ρ.set i (some (.own l')))[m]?=some (some (.own l''))→∃ l3,ρ[m]?=some (some (.own l3)):=fun {m l''} hm=>by
      by_cases e:i=m
      · subst e;exact ⟨_,h⟩
      · rw [List.getElem?_set_ne e] at hm;exact ⟨_,hm⟩
    obtain ⟨_,g1⟩:=back h1
    obtain ⟨_,g2⟩:=back h2
    exact r.dist j k _ _ b g1 g2 h3 h4
theorem Rep.own (r:Rep K cl Hf0 H0 Hf H σ ρ) (i:Nat) {l:List PV}{a:Addr}{xs:List V} (ha:H a=some (.lst xs)) (hfa:Hf a=none) (h0a:H0 a=none) (rps:Rps K cl Hf xs l) (hl:i<σ.length)
    (nw:∀ (j:Nat) (qs:List PV),ρ[j]?=some (some (.own qs))→σ[j]?≠some (some (.ref a))):Rep K cl Hf0 H0 Hf H (σ.set i (some (.ref a))) (ρ.set i (some (.own l))):=by
  refine ⟨r.ext,fun j p hp=>?_,fun j k ps qs b h1 h2 h3 h4=>?_⟩
  · by_cases e:i=j
    · subst e
      have hi:i<ρ.length:=by
        rw [List.getElem?_set] at hp
        by_cases hh:i<ρ.length
        · exact hh
        · simp [hh] at hp
      rw [List.getElem?_set_self hi] at hp
      cases hp
      exact ⟨_,List.getElem?_set_self hl,a,xs,rfl,ha,hfa,h0a,rps⟩
    · rw [List.getElem?_set_ne e] at hp
      obtain ⟨w,hw,sl⟩:=r.slot j p hp
      exact ⟨w,by rw [List.getElem?_set_ne e];exact hw,sl⟩
  · by_cases e:i=j
    · by_cases e':i=k
      · exact e.symm.trans e'
      · subst e
        rw [List.getElem?_set_self hl] at h3
        cases h3
        rw [List.getElem?_set_ne e'] at h2 h4
        exact absurd h4 (nw k _ h2)
    · by_cases e':i=k
      · subst e'
        rw [List.getElem?_set_self hl] at h4
        cases h4
        rw [List.getElem?_set_ne e] at h1 h3
        exact absurd h3 (nw j _ h1)
      · rw [List.getElem?_set_ne e] at h1 h3
        rw [List.getElem?_set_ne e'] at h2 h4
        exact r.dist j k _ _ b h1 h2 h3 h4
end
section
variable {X:Cx}{cl:Nat→Addr}
theorem mss_freeze {st:List Stmt}{g:FS} (i:Nat) (h:MSs X cl st g):MSs X cl st (sFreeze i g):=by
  refine ⟨?_⟩
  intro pins s σ Hf0 H0 Hf H ρ I r hs
  unfold sFreeze at hs ⊢
  split at hs
  · next l e =>
    obtain ⟨Hf',r',sm⟩:=r.freeze e
    exact wpAny_mono (h pins s σ Hf0 H0 Hf' H _ I r' hs) (fun _ _ q=>OkS.from sm q) fun _ _ q=>ExS.from sm q
  · next hn =>
    exact h pins s σ Hf0 H0 Hf H _ I r hs
end
def OkF (X:Cx) (cl:Nat→Addr) (pins:List (Addr×Obj)) (σ:SV) (Hf H:Hp) (r:R PV) (u:Value) (s:Shared):Prop :=
  ∃ ps a xs Hf' H',r = .ok (.lst ps)∧Inv X pins σ H' s∧u = .ref a∧Ext Hf H Hf' H'∧H' a=some (.lst xs)∧Hf' a=none∧H a=none∧Rps X.K cl Hf' xs ps
structure MF (X:Cx) (cl:Nat→Addr) (e:Expr) (f:FE):Prop where
  run':∀ (pins:List (Addr×Obj)) (s:Shared) (σ:SV) (Hf0 H0 Hf H:Hp) (ρ:MEnv),Inv X pins σ H s→Rep X.K cl Hf0 H0 Hf H σ ρ→f ρ≠.stuck →
    wpAny (model X.prog X.w) X.A (eval e X.env) (OkF X cl pins σ Hf H (f ρ)) (ExP X cl pins σ Hf H (f ρ)) s
section
variable {X:Cx}{cl:Nat→Addr}
theorem ext_none {Hf H Hf1 H1:Hp} (e:Ext Hf H Hf1 H1) {a:Addr} (h:H1 a=none):H a=none:=by
  cases q:H a with
  | none=>rfl
  | some o=>rw [e.all a o q] at h;cases h
theorem OkF.from {pins:List (Addr×Obj)}{σ:SV}{Hf H Hf1 H1:Hp}{e0:Ext Hf H Hf1 H1}{r:R PV}{u:Value}{s':Shared} (h:OkF X cl pins σ Hf1 H1 r u s'):OkF X cl pins σ Hf H r u s':=by
  obtain ⟨ps,a,xs,Hf',H',e1,I',e2,ex,g1,g2,g3,rps⟩:=h
  exact ⟨ps,a,xs,Hf',H',e1,I',e2,e0.trans ex,g1,g2,ext_none e0 g3,rps⟩
theorem mf_lst {es:List Expr}{f:FA}{pos:Pos} (h:MA X cl es f):MF X cl (.List es pos) (fLst f):=by
  refine ⟨?_⟩
  intro pins s σ Hf0 H0 Hf H ρ I r hs
  unfold fLst at hs ⊢
  refine wpAny_List_spliced (h.run pos I r (Ext.refl r.sub) hs fun ps vs us s1 Hf1 H1 _ e1 I1 rv x1 rps=>?_)
  rw [e1] at hs ⊢
  obtain ⟨hz,e2⟩:=ifOk hs
  rw [e2]
  have z:vs.length≤sizeLine:=by rw [rps.length];exact hz
  refine ⟨by rw [← rv.length];exact z,?_⟩
  have hf:H1 s1.heap.objs.size=none:=I1.hok.fresh (Nat.le_refl _)
  refine OkF.from (e0:=x1) ⟨_,_,vs,Hf1,_,rfl,I1.laid (t':=s1.toks) (o:=.lst vs) (fun b u e=>Heap.get?_push_of_some _ e) (Nat.le_refl _) ?_,rfl,Ext.newH x1.sub hf _,upd_same,x1.sub.free hf,hf,rps⟩
  exact ⟨z,us,0,rv,Heap.get?_push_size _ rfl⟩
theorem ms_own {i:Nat}{x:Str}{e:Expr}{f:FE}{pos pos':Pos} (hN:X.N.Nodup) (hi:X.N[i]?=some x) (hx:Loc X.env.scope x) (he:MF X cl e f) (hsw:swapsWith e (some (.Name x pos')) pos.line X.env=pure false:=by rfl)
    (hf:X.fn x=true∨X.env.scope.names.lookup x=some .local:=by first | exact .inl rfl | exact .inr rfl | assumption):MS X cl (.Assign [.Name x pos'] e pos) (sOwn i f):=by
  refine ⟨?_⟩
  intro pins s σ Hf0 H0 Hf H ρ I r hs
  unfold sOwn at hs ⊢
  have hff:f ρ≠.stuck:=fun z=>hs (by rw [z];rfl)
  refine wpAny_Assign_Name (wpAny_mono (he.run' pins s σ Hf0 H0 Hf H ρ I r hff) (fun u s1 q=>?_) fun u s1 q=>?_) hsw
  · obtain ⟨ps,a,xs,Hf1,H1,e1,I1,rfl,x1,g1,g2,g3,rps⟩:=q
    rw [e1]
    have hl:i<σ.length:=by rw [I.len];exact (List.getElem?_eq_some_iff.mp hi).1
    have h0:H0 a=none:=ext_none r.ext g3
    refine store_ok (v:=.ref a) I1 hN hi hx rfl (fun s2 I2=>⟨_,_,Hf1,H1,rfl,I2,(r.keep x1).own i g1 g2 h0 rps hl ?_,x1.frz⟩) hf
    intro j qs hj hσ
    obtain ⟨w,hw,b,ys,rfl,hb,_⟩:=r.slot j _ hj
    rw [hσ] at hw
    cases hw
    rw [g3] at hb
    cases hb
  · obtain ⟨c,e1,x⟩:=q
    rw [e1]
    exact exs_of r x
theorem ms_append {i:Nat}{x:Str}{e:Expr}{g:FA}{p apos pos pos':Pos}{pl:Sem Bool} (hN:X.N[i]?=some x) (hv:Vis X.env.scope x) (ha:MA X cl [e] g) (hd:(x == ("__debug__" : Str))=false:=by decide) (hcd:(x == ("__classdict__" : Str))=false:=by decide)
    (hsw:swapsWith (.Call (.Attribute (.Name x p) "append" apos) [e] [] pos) none pos'.line X.env=pure false:=by rfl)
    (he:starEach [e] X.env=(false,eval e X.env)::starEach [] X.env:=by rfl) (hpl:(backTo pos (starEach [e] X.env)).any (·.1)=false:=by rfl)
    (ht:eval (.Call (.Attribute (.Name x p) "append" apos) [e] [] pos) X.env=(do
      let ov ← eval (.Name x p) X.env
      standAt apos.atName
      let (f,first) ← holding [ov] (getMethod ov "append" pl)
      callWith pos f first (backTo pos (starEach [e] X.env)) (backToKw pos (keywordEach [] X.env))):=by rfl):MS X cl (.Expr (.Call (.Attribute (.Name x p) "append" apos) [e] [] pos) pos') (sAppend i g):=by
  refine ⟨?_⟩
  intro pins s σ Hf0 H0 Hf H ρ I r hs
  unfold sAppend at hs ⊢
  split at hs
  · next l el =>
    obtain ⟨v0,hv0,a,xs,rfl,hHa,hfa,h0a,rps⟩:=r.slot i _ el
    have hg:g ρ≠.stuck:=fun z=>hs (by rw [z])
    refine wpAny_Expr_any ?_ I.quiet hsw
    generalize hE:ExS X cl pins Hf0 H0 Hf _=E
    refine PySem.W.methodCall_KW (pl:=pl) (thn (pe_var (X:=X.wish E) hN hv hd hcd pins s σ H (fun v H'=>v = .ref a∧H'=H) (I.wish E) ⟨_,hv0,rfl,rfl⟩) fun ov s1 ⟨x',H1,I1,ro,q1⟩=>?_) ht
    obtain ⟨rfl,rfl⟩:=q1
    cases ro
    obtain ⟨z,its,n,rv,hl,ho⟩:=I1.lstM hHa
    refine Calls.getMethod_list_append ho rfl rfl ?_
    refine Calls.callWith_builtin hpl ?_
    rw [he]
    refine Calls.evalArgs_plain ?_
    have run:=ha.run' pos pins s1 σ Hf0 H0 Hf H1 ρ I1.unwish r hg
    rw [he] at run
    refine wpAny_mono run (fun us s2 q=>?_) fun u s2 q=>?_
    · obtain ⟨ps,vs,Hf2,H2,e1,I2,rv2,x2,rp2⟩:=q
      have hlen:=ha.len ρ ps e1
      match ps,hlen with
      | [pv],_ =>
        obtain ⟨v,rfl,rp⟩:=rps1' rp2
        obtain ⟨u,rfl,ru⟩:=rv2.one
        rw [e1] at hs hE ⊢
        have hs':(if l.length<sizeLine then SR.next (ρ.set i (some (.own (l ++ [pv])))) else .stuck)≠.stuck:=hs
        have hz:l.length<sizeLine:=Decidable.byContradiction fun c=>hs' (by rw [if_neg c])
        have g1:H2 a=some (.lst xs):=x2.all _ _ hHa
        have g2:Hf2 a=none:=by rw [x2.old a (by rw [hHa];intro z;cases z)];exact hfa
        have g3:=rps.keep x2.frz
        refine thn (mt_append (X:=X.wish E) pins s2 σ H2 (.ref a) [v] (.ref a) [u] (fun w H'=>H'=upd H2 a (.lst (xs ++ [v]))) (I2.wish E) rfl (.cons ru .nil) ⟨a,xs,v,rfl,rfl,g1,by rw [rps.length];exact hz,rfl⟩) fun w s3 ⟨w',H3,I3,_,q3⟩=>?_
        subst q3
        have rr:=(r.keep x2).store (l':=l ++ [pv]) (ys:=xs ++ [v]) el hv0 g2 h0a (Rps.append g3 (.cons rp .nil))
        show OkS X cl pins Hf0 H0 Hf (if l.length<sizeLine then SR.next (ρ.set i (some (.own (l ++ [pv])))) else .stuck) Flow.next _
        rw [if_pos hz]
        exact ⟨_,σ,Hf2,_,rfl,I3.unwish,rr,x2.frz⟩
    · obtain ⟨c,e1,xa⟩:=q
      rw [e1] at hE
      rw [← hE]
      exact exs_of r xa
  · next hn=>exact absurd rfl hs
end
mutual
inductive KRep (K:PySem.W.Frag):Value→PV→Prop where
  | non:KRep K .none .non
  | bl (b:Bool):KRep K (.bool b) (.bl b)
  | int (i:Int) (t:Tok):KRep K (.int i t) (.int i)
  | str (x:Str) (t:Tok):KRep K (.str x t) (.str x)
  | tup {a:Addr}{o:Obj}{its:Array Value}{n:Nat}{ps:List PV} (h:K.lookup a=some o) (c:o.cls = .type "tuple") (d:o.data = .seq its n) (z:its.size≤sizeLine) (r:KReps K its.toList ps):KRep K (.ref a) (.tup ps)
inductive KReps (K:PySem.W.Frag):List Value→List PV→Prop where
  | nil:KReps K [] []
  | cons {u:Value}{p:PV}{us:List Value}{ps:List PV} (r:KRep K u p) (t:KReps K us ps):KReps K (u::us) (p::ps)
end
section
variable {K:PySem.W.Frag}{cl:Nat→Addr}
mutual
theorem KRep.rp (Hf:Hp):∀ {u:Value}{p:PV},KRep K u p→∃ v,RelV v u∧Rp K cl Hf v p
  | _,_,.non=>⟨.non,rfl,.non⟩
  | _,_,.bl b=>⟨.bl b,rfl,.bl b⟩
  | _,_,.int i t=>⟨.int i,⟨t,rfl⟩,.int i⟩
  | _,_,.str x t=>⟨.str x,⟨t,rfl⟩,.str x⟩
  | _,_,.tup (a:=a) (o:=o) (its:=its) (n:=n) h c d z r=>by
    obtain ⟨vs,h1,h2⟩:=KReps.rps Hf r
    exact ⟨.ref a,rfl,.tup (.inr ⟨o,its,n,h,c,d,z,h1⟩) h2⟩
theorem KReps.rps (Hf:Hp):∀ {us:List Value}{ps:List PV},KReps K us ps→∃ vs,Vals vs us∧Rps K cl Hf vs ps
  | _,_,.nil=>⟨[],.nil,.nil⟩
  | _,_,.cons r t=>by
    obtain ⟨v,a,b⟩:=KRep.rp Hf r
    obtain ⟨vs,c,d⟩:=KReps.rps Hf t
    exact ⟨v::vs,.cons a c,.cons b d⟩
end
noncomputable def kRepB (K:PySem.W.Frag):Nat→Value→PV→Bool
  | _,.none,.non=>true
  | _,.bool a,.bl b=>a == b
  | _,.int a _,.int b=>a == b
  | _,.str a _,.str b=>a == b
  | n+1,.ref a,.tup ps=>(match K.lookup a with
    | some o=>o.cls == .type "tuple" && (match o.data with
      | .seq its _=>decide (its.size≤sizeLine) && decide (its.toList.length=ps.length) && (its.toList.zip ps).all fun q=>kRepB K n q.1 q.2
      | _=>false)
    | none=>false)
  | _,_,_=>false
theorem kReps_of {K:PySem.W.Frag}{f:Value→PV→Bool} (hf:∀ u p,f u p=true→KRep K u p):∀ {us:List Value}{ps:List PV},us.length=ps.length→((us.zip ps).all fun q=>f q.1 q.2)=true→KReps K us ps
  | [],[],_,_=>.nil
  | [],_::_,h,_=>by cases h
  | _::_,[],h,_=>by cases h
  | u::us,p::ps,h,e=>by
    simp only [List.zip_cons_cons,List.all_cons,Bool.and_eq_true] at e
    exact .cons (hf u p e.1) (kReps_of hf (by simpa using h) e.2)
theorem kRep_of:∀ {n:Nat}{u:Value}{p:PV},kRepB K n u p=true→KRep K u p:=by
  intro n
  induction n with
  | zero =>
    intro u p h
    unfold kRepB at h
    split at h
    · exact .non
    · cases beq_iff_eq.mp h;exact .bl _
    · cases beq_iff_eq.mp h;exact .int _ _
    · cases beq_iff_eq.mp h;exact .str _ _
    · rename_i n' a ps hn
      cases hn
    · cases h
  | succ n ih =>
    intro u p h
    unfold kRepB at h
    split at h
    · exact .non
    · cases beq_iff_eq.mp h;exact .bl _
    · cases beq_iff_eq.mp h;exact .int _ _
    · cases beq_iff_eq.mp h;exact .str _ _
    · rename_i n' a ps hn
      cases hn
      split at h
      · rename_i o ho
        rw [Bool.and_eq_true] at h
        obtain ⟨h1,h2⟩:=h
        split at h2
        · rename_i its m hd
          simp only [Bool.and_eq_true,decide_eq_true_eq] at h2
          exact .tup ho (beq_iff_eq.mp h1) hd h2.1.1 (kReps_of (fun u p e=>ih e) h2.1.2 h2.2)
        · cases h2
      · cases h
    · cases h
end
section
variable {X:Cx}{cl:Nat→Addr}
theorem me_globK {x:Str}{q:PV}{pos:Pos} (hg:Gl X x) (hm:∃ u,X.mg x=some u∧KRep X.K u q) (hd:(x == ("__debug__" : Str))=false:=by decide):ME X cl (.Name x pos) (fC q):=by
  obtain ⟨u,hm,k⟩:=hm
  obtain ⟨v,rv,_⟩:=k.rp (cl:=cl) (fun _=>none)
  refine ⟨?_⟩
  intro pins s σ Hf0 H0 Hf H ρ I r hs
  obtain ⟨v,rv,rp⟩:=k.rp (cl:=cl) Hf
  exact ld_glob I hg hm ⟨q,v,Hf,H,rfl,I,rv,Ext.refl r.sub,rp⟩ hd
end
structure FunD (K:PySem.W.Frag) (x qual:Str) (st:Stmt) (f:Addr) (fd:FuncData) (y:Str):Prop where
  ex:∃ (oc:Value) (od:Option Addr) (kV doc pm:Value) (an:Option Addr) (cdv ct:Value) (osl:Array (Option Value)) (T:Addr) (o:Obj) (n:Nat) (t:Tok),
    fd=PySem.W.fnOf x qual (defArgs st) (defBody st) (defScope st) (.ref T) kV doc pm an cdv ct∧K.lookup f=some ⟨oc,od,.func fd,osl⟩∧PySem.W.codeIn K cdv qual=true∧K.lookup T=some o∧o.data = .seq #[.str y t] n
  kp:PySem.W.keepIn K (.ref f)=true
section
variable {P:Program}{w:World}{K:PySem.W.Frag}{mg:Str→Option Value}{base:Heap}{cl:Nat→Addr}
theorem fn_mirror' {x qual:Str}{st:Stmt}{f:Addr}{N ps:List Str}{k n:Nat}{b:FS}{dV kV doc pm cdv ct oc:Value}{an od:Option Addr}{osl:Array (Option Value)}
    (lk:K.lookup f=some ⟨oc,od,.func (PySem.W.fnOf x qual (defArgs st) (defBody st) (defScope st) dV kV doc pm an cdv ct),osl⟩) (hcd:PySem.W.codeIn K cdv qual=true) (S:FnScope N ps (defScope st)) (hn:ps.length=n)
    (hbody:∀ (cdv:Value) (A:Around) (outer:List Env) (s:Shared) (H:Hp) (E:XK),Room k (A.deeper (envOfC qual (defScope st) s.heap.objs.size f cdv)) →
      MSs (cxM P w K mg base cl N qual (defScope st) f cdv A outer s H E) cl (defBody st) b):FnOk P w K mg base (CXm cl P w) (k+1) f (PySem.W.fnOf x qual (defArgs st) (defBody st) (defScope st) dV kV doc pm an cdv ct) ps (spF K cl n (runF N.length b)):=by
  refine fn_of lk hcd S (fun vs H Q E h=>by rw [h.1,hn]) fun A outer s H vs Q E hr hsp=>?_
  obtain ⟨hl,Hf,qs,sm,rps,hs,hok,hex⟩:=hsp
  have hb:=hbody cdv A outer s H E hr
  have hs':b (Mi.start N.length qs)≠.stuck:=fun z=>hs (by unfold runF;rw [z])
  refine ⟨fun D σ H1=>σ=L2.start N vs∧H1=H∧D={ nx:=fun _ H'=>Q .non H',rt:=Q },fun pins s1 σ H1 D I h=>?_,rfl,rfl,rfl⟩
  obtain ⟨rfl,rfl,rfl⟩:=h
  refine wpAny_mono (hb pins s1 _ Hf H1 Hf H1 _ I (rep_start rfl sm rps) hs') (fun fl s2 q=>?_) fun u s2 q=>?_
  · cases fl with
    | next =>
      obtain ⟨ρ',σ',Hf',H',e1,I',r',_⟩:=q
      exact ⟨σ',H',I',hok .non .non Hf' H' (by unfold runF;rw [e1]) r'.ext .non⟩
    | ret u =>
      obtain ⟨p,v,σ',Hf',H',e1,I',ex,rv,rp⟩:=q
      exact ⟨v,σ',H',I',rv,hok p v Hf' H' (by unfold runF;rw [e1]) ex rp⟩
    | brk =>
      obtain ⟨ρ',σ',Hf',H',e1,I',r',_⟩:=q
      exact absurd (by unfold runF;rw [e1]) hs
    | cont =>
      obtain ⟨ρ',σ',Hf',H',e1,I',r',_⟩:=q
      exact absurd (by unfold runF;rw [e1]) hs
  · obtain ⟨c,ρ',σ',Hf',H',e,e1,rfl,I',r',_,x⟩:=q
    exact leaves_ok I' x (hex c Hf' H' (by unfold runF;rw [e1]) r'.ext)
structure DefAtD (K:PySem.W.Frag) (mg:Str→Option Value) (x:Str) (st:Stmt) (f:Addr) (fd:FuncData) (y:Str):Prop where
  fn:FunD K x x st f fd y
  mg:mg x=some (.ref f)
theorem def_mkD {h:Heap}{x:Str}{st:Stmt}{f:Addr}{oc:Value}{od an:Option Addr}{osl:Array (Option Value)}{kV doc pm cdv ct:Value}{T:Addr}{oc':Value}{od':Option Addr}{osl':Array (Option Value)}{n:Nat}{t:Tok}{y:Str} (X:K.In h) (G:h.Ns mainGlobals mg) (a:PySem.W.nsIn K mainGlobals x=some (some (.ref f)))
    (l:K.lookup f=some ⟨oc,od,.func (PySem.W.fnOf x x (defArgs st) (defBody st) (defScope st) (.ref T) kV doc pm an cdv ct),osl⟩) (c:PySem.W.codeIn K cdv x=true) (k:PySem.W.keepIn K (.ref f)=true) (d:K.lookup T=some ⟨oc',od',.seq #[.str y t] n,osl'⟩) :
    ∃ f fd,DefAtD K mg x st f fd y:=⟨f,_,⟨⟨oc,od,kV,doc,pm,an,cdv,ct,osl,T,_,n,t,rfl,l,c,d,rfl⟩,k⟩,PySem.W.mg_of X G a⟩
structure FGD (P:Program) (w:World) (K:PySem.W.Frag) (mg:Str→Option Value) (base:Heap) (cl:Nat→Addr) (k:Nat) (x:Str) (n:Nat) (F:List PV→R PV) (y:Str):Prop where
  ex:∃ (f:Addr) (fd:FuncData) (ps:List Str) (d:Value),mg x=some (.ref f)∧PySem.W.keepIn K (.ref f)=true∧ps.length=n∧FnOk P w K mg base (CXm cl P w) k f fd ps (spF K cl n F)∧Binds K fd ps []∧Binds K fd ps [d]∧RelV (.str y) d
theorem FGD.fg {k:Nat}{x:Str}{n:Nat}{F:List PV→R PV}{y:Str} (h:FGD P w K mg base cl k x n F y):FG P w K mg base cl k x n F:=by
  obtain ⟨f,fd,ps,d,a,b,c,e,g,_⟩:=h.ex
  exact ⟨⟨f,fd,ps,a,b,c,e,g⟩⟩
theorem DefAtD.fg {x:Str}{st:Stmt}{f:Addr}{fd:FuncData}{y:Str}{N ps:List Str}{k n:Nat}{b:FS} (D:DefAtD K mg x st f fd y) (S:FnScope N ps (defScope st)) (hn:ps.length=n)
    (hb:∀ (T:Addr) (t:Tok) (kV doc pm:Value) (an:Option Addr) (cdv ct:Value) (us:List Value),us.length=ps.length→∃ k,bindArgs (PySem.W.fnOf x x (defArgs st) (defBody st) (defScope st) (.ref T) kV doc pm an cdv ct) ⟨us,[]⟩=seqItems? (.ref T) >>= k∧k (some #[.str y t])=pure (ps.zip us))
    (hb1:∀ (T:Addr) (t:Tok) (kV doc pm:Value) (an:Option Addr) (cdv ct:Value) (us:List Value),us.length+1=ps.length→∃ k,bindArgs (PySem.W.fnOf x x (defArgs st) (defBody st) (defScope st) (.ref T) kV doc pm an cdv ct) ⟨us,[]⟩=seqItems? (.ref T) >>= k∧k (some #[.str y t])=pure (ps.zip (us ++ [.str y t])))
    (hbody:∀ (cdv:Value) (A:Around) (outer:List Env) (s:Shared) (H:Hp) (E:XK),Room k (A.deeper (envOfC x (defScope st) s.heap.objs.size f cdv)) →
      MSs (cxM P w K mg base cl N x (defScope st) f cdv A outer s H E) cl (defBody st) b):FGD P w K mg base cl (k+1) x n (runF N.length b) y:=by
  obtain ⟨oc,od,kV,doc,pm,an,cdv,ct,osl,T,o,m,t,rfl,lk,hcd,lt,dt⟩:=D.fn.ex
  refine ⟨⟨f,_,ps,.str y t,D.mg,D.fn.kp,hn,fn_mirror' lk hcd S hn hbody,fun s us X hl=>?_,fun s us X hl=>?_,⟨t,rfl⟩⟩⟩
  · rw [List.append_nil] at hl ⊢
    obtain ⟨k,e1,e2⟩:=hb T t kV doc pm an cdv ct us hl
    exact PySem.W.binds_K X rfl lt dt e1 e2
  · obtain ⟨k,e1,e2⟩:=hb1 T t kV doc pm an cdv ct us (by simpa using hl)
    exact PySem.W.binds_K X rfl lt dt e1 e2
end
noncomputable def dflt (F:List PV→R PV) (ds:List PV):List PV→R PV:=fun vs=>F (vs ++ ds)
section
variable {X:Cx}{cl:Nat→Addr}
theorem Rps.snoc {K:PySem.W.Frag}{Hf:Hp}{vs:List V}{ps:List PV}{v:V}{p:PV} (a:Rps K cl Hf vs ps) (b:Rp K cl Hf v p):Rps K cl Hf (vs ++ [v]) (ps ++ [p]):=a.append (.cons b .nil)
theorem me_callD {e:Expr}{es:List Expr}{g:FA}{x:Str}{p pos:Pos}{k n:Nat}{F:List PV→R PV}{y:Str} (hF:FGD X.prog X.w X.K X.mg X.base cl k x n F y) (hr:Room k X.A) (hg:Gl X x) (hst:X.stack=X.env::X.outer) (inj:∀ c d,cl c=cl d→c=d) (hex:∀ b,b ∉ X.ex)
    (ha:MA X cl (e::es) g) (hl:(e::es).length+1=n) (hdb:(x == ("__debug__" : Str))=false:=by decide) (he:starEach (e::es) X.env=(false,eval e X.env)::starEach es X.env:=by rfl) (hpl:(backTo pos (starEach es X.env)).any (·.1)=false:=by rfl) :
    ME X cl (.Call (.Name x p) (e::es) [] pos) (fCall (dflt F [.str y]) g):=by
  obtain ⟨f,fd,ps,d,hm,hk,hn,hf,_,hb,rd⟩:=hF.ex
  refine ⟨?_⟩
  intro pins s σ Hf0 H0 Hf H ρ I r hs
  unfold fCall at hs ⊢
  refine wpAny_Call_Name_kw (ld_glob I hg hm ?_ hdb)
  refine PySem.W.callWith_K (h₀:=X.base) I.ok.mod.kin hk (ha.run pos I r (Ext.refl r.sub) hs fun qs vs us s1 Hf1 H1 hq e1 I1 rv x1 rps=>⟨I1.kIn,?_⟩) he hpl
  rw [e1] at hs ⊢
  have hv:(vs ++ [V.str y]).length=n:=by rw [List.length_append,rps.length,hq,← hl];rfl
  have rps':Rps X.K cl Hf1 (vs ++ [.str y]) (qs ++ [.str y]):=rps.snoc (.str y)
  have rv':Vals (vs ++ [.str y]) (us ++ [d]):=rv.append (.cons rd .nil)
  have hsp:spF X.K cl n F (vs ++ [.str y]) H1 (fun v H'=>∃ p Hf',dflt F [.str y] qs = .ok p∧Ext Hf1 H1 Hf' H'∧Rp X.K cl Hf' v p) (fun u o H'=>∃ c Hf',dflt F [.str y] qs = .exc c∧Ext Hf1 H1 Hf' H'∧u = .ref (cl c)) :=
    ⟨hv,Hf1,qs ++ [PV.str y],x1.sub,rps',hs,fun p v Hf' H' a b c=>⟨p,Hf',a,b,c⟩,fun c Hf' H' a b=>⟨c,Hf',a,b,rfl⟩⟩
  have hlu:(us ++ [d]).length=ps.length:=by rw [← rv'.length,hv,hn]
  have hbb:=hb s1 us I1.kIn hlu
  refine wpAny_call (codeAny_mono (hf.run X.A X.stack s1 H1 ⟨us,[]⟩ (us ++ [d]) (vs ++ [.str y]) _ _ hr I1.env0 hbb rv' hsp) fun r s' hq'=>?_)
  cases r with
  | error e=>exact ExP.from (e0:=x1) (xat_of I1 x1.sub hst hq' inj hex)
  | ok fl =>
    cases fl with
    | ret u =>
      obtain ⟨v,H',I',rv',p,Hf',e2,ex,rp⟩:=I1.after hq'
      exact ⟨p,v,Hf',H',e2,I',rv',x1.trans ex,rp⟩
    | next=>exact False.elim hq'
    | brk=>exact False.elim hq'
    | cont=>exact False.elim hq'
end
section
variable {P:Program}{w:World}{K:PySem.W.Frag}{mg:Str→Option Value}{base:Heap}{cl:Nat→Addr}
theorem mcD {N:List Str}{qual:Str}{scope:Scope}{f:Addr}{cd:Value}{A:Around}{outer:List Env}{s:Shared}{H:Hp}{E:XK}{k k' n:Nat}{x:Str}{F:List PV→R PV}{y:Str}{e:Expr}{es:List Expr}{g:FA}{p pos:Pos}
    (h:FGD P w K mg base cl k x n F y) (hr:Room k' (A.deeper (envOfC qual scope s.heap.objs.size f cd))) (inj:∀ c d,cl c=cl d→c=d) (ha:MA (cxM P w K mg base cl N qual scope f cd A outer s H E) cl (e::es) g) (hk:k≤k':=by decide)
    (hl:(e::es).length+1=n:=by rfl) (hg:Gl (cxM P w K mg base cl N qual scope f cd A outer s H E) x:=by rfl) (hdb:(x == ("__debug__" : Str))=false:=by decide)
    (he:starEach (e::es) (cxM P w K mg base cl N qual scope f cd A outer s H E).env=(false,eval e (cxM P w K mg base cl N qual scope f cd A outer s H E).env)::starEach es (cxM P w K mg base cl N qual scope f cd A outer s H E).env:=by rfl)
    (hpl:(backTo pos (starEach es (cxM P w K mg base cl N qual scope f cd A outer s H E).env)).any (·.1)=false:=by rfl) :
    ME (cxM P w K mg base cl N qual scope f cd A outer s H E) cl (.Call (.Name x p) (e::es) [] pos) (fCall (dflt F [.str y]) g) :=
  me_callD h (hr.mono hk) hg rfl inj (fun b z=>absurd (show b∈([]:List Addr) from z) (by simp)) ha hl hdb he hpl
end
structure WayC (K:PySem.W.Frag) (mg:Str→Option Value) (cl:Nat→Addr) (c:Nat) (x:Str):Prop where
  mg:mg x=some (.ref (cl c))
  makes:PySem.W.makesIn K (cl c)=true
  init:PySem.W.findIn K (.ref (cl c)) "__init__"=some (some (.builtin "object.__init__"))
  kp:PySem.W.keepIn K (.ref (cl c))=true
  cls:L2.Cls K (cl c)
  hc:PySem.W.findIn K (.ref (cl c)) "__class__"=some (some (.builtin "object.__class__"))
  hn:PySem.W.specialIn K (.builtin "object.__class__") "__get__"=some (some (.builtin "getset_descriptor.__get__"))
  ht:PySem.W.takesIn K (.builtin "object.__class__")=some true
  hm:PySem.W.mroIn K (cl c) (.type "object")=some true
noncomputable def fMake (c:Nat):FE:=fun _=>.ok (.ins c)
section
variable {X:Cx}{cl:Nat→Addr}
theorem me_make {c:Nat}{x:Str}{p pos:Pos} (M:WayC X.K X.mg cl c x) (hg:Gl X x) (hdb:(x == ("__debug__" : Str))=false:=by decide):ME X cl (.Call (.Name x p) [] [] pos) (fMake c):=by
  refine ⟨?_⟩
  intro pins s σ Hf0 H0 Hf H ρ I r hs
  refine wpAny_Call_Name_kw (ld_glob I hg M.mg ?_ hdb)
  refine PySem.W.callWith_K0 I.kIn M.kp (wpAny_call (make_map0 I.kIn M.makes M.init (fun self=>PySem.W.Looks.of_pure (PySem.W.oi_bind self)) ?_))
  have I2:=Inv.made (C:=cl c) I
  have n1:H s.heap.objs.size=none:=I.hok.fresh (Nat.le_refl _)
  have n2:H (s.heap.objs.size+1)=none:=I.hok.fresh (Nat.le_succ _)
  have e1:=Ext.newH r.sub n1 (.own (s.heap.objs.size+1))
  have n3:upd H s.heap.objs.size (.own (s.heap.objs.size+1)) (s.heap.objs.size+1)=none:=by rw [upd_ne (Nat.ne_of_gt (Nat.lt_succ_self _))];exact n2
  have e2:=Ext.new e1.sub n3 (.ins (cl c) s.heap.objs.size [])
  obtain ⟨hh,g,d,t,os⟩:=s
  have Y:=PySem.W.makes_of (M:=model X.prog X.w) I.kIn M.makes
  have hx:((hh.push PySem.W.emptyDict).push (PySem.W.instObj (cl c) hh.objs.size)).get? (hh.objs.size+1)=some (PySem.W.instObj (cl c) hh.objs.size):=by
    have:=Heap.get?_push_size (hh.push PySem.W.emptyDict) (o:=PySem.W.instObj (cl c) hh.objs.size) rfl
    rwa [Heap.size_push] at this
  have t1:PySem.W.Looks (model X.prog X.w) ((hh.push PySem.W.emptyDict).push (PySem.W.instObj (cl c) hh.objs.size)) (typeOf (.ref (hh.objs.size+1))) (.ref (cl c)):=(PySem.W.Looks.ld hx).andThen .now
  have t2:PySem.W.Looks (model X.prog X.w) ((hh.push PySem.W.emptyDict).push (PySem.W.instObj (cl c) hh.objs.size)) (isInstance (.ref (hh.objs.size+1)) (.type "object")) true:=t1.andThen (Y.top.keeps fun b o e=>Heap.get?_push_of_some _ (Heap.get?_push_of_some _ e))
  refine codeAny_call_builtin PySem.W.oi_plain PySem.W.entry_oi (@PySem.W.check_slot (model X.prog X.w) _ _ _ "object.__init__" "object" "__init__" (.ref (hh.objs.size+1)) [] [] _ PySem.W.oi_kind PySem.W.oi_split t2 (PySem.W.oi_args (.ref (hh.objs.size+1))) ?_)
  rw [PySem.W.oi_run]
  exact wpAny_pure (And.intro rfl ⟨.ins c,.ref (hh.objs.size+1),_,_,rfl,I2,rfl,e1.trans e2,.ins upd_same⟩)
end
noncomputable def mtLook (c:Nat):List (Nat×(List PV→R PV))→Option (List PV→R PV)
  | []=>none
  | (d,F)::r=>if c=d then some F else mtLook c r
noncomputable def mtK (tbl:List (Nat×(List PV→R PV))) (gv:R (List PV)):PV→R PV
  | .ins c=>(match mtLook c tbl with
    | some F=>gv.bind fun vs=>F (.ins c::vs)
    | none=>.stuck)
  | _=>.stuck
theorem mtK_ins (tbl:List (Nat×(List PV→R PV))) (gv:R (List PV)) (c:Nat):mtK tbl gv (.ins c)=match mtLook c tbl with
    | some F=>gv.bind fun vs=>F (.ins c::vs)
    | none=>.stuck:=rfl
theorem mtK_ns {tbl:List (Nat×(List PV→R PV))}{gv:R (List PV)}{q:PV} (h:mtK tbl gv q≠.stuck):∃ c F,q = .ins c∧mtLook c tbl=some F∧mtK tbl gv q=gv.bind fun vs=>F (.ins c::vs):=by
  cases q with
  | ins c =>
    cases em:mtLook c tbl with
    | none=>exact absurd (by rw [mtK_ins,em]) h
    | some F=>exact ⟨c,F,rfl,em,by rw [mtK_ins,em]⟩
  | _=>exact absurd rfl h
noncomputable def fMeth (tbl:List (Nat×(List PV→R PV))) (o:FE) (g:FA):FE:=fun ρ=>(o ρ).bind (mtK tbl (g ρ))
structure FM (P:Program) (w:World) (K:PySem.W.Frag) (mg:Str→Option Value) (base:Heap) (cl:Nat→Addr) (k:Nat) (m:Str) (n:Nat) (tbl:List (Nat×(List PV→R PV))):Prop where
  ex:∀ c F,mtLook c tbl=some F→∃ (f:Addr) (fd:FuncData) (ps:List Str),L2.Cls K (cl c)∧Meth K (cl c) m f∧ps.length=n+1∧FnOk P w K mg base (CXm cl P w) k f fd ps (spF K cl (n+1) F)∧Binds K fd ps []
section
variable {X:Cx}{cl:Nat→Addr}
theorem me_meth {o:Expr}{fo:FE}{e:Expr}{es:List Expr}{g:FA}{m:Str}{apos pos:Pos}{k n:Nat}{tbl:List (Nat×(List PV→R PV))}{pl:Sem Bool} (hF:FM X.prog X.w X.K X.mg X.base cl k m n tbl) (hr:Room k X.A) (hst':X.stack=X.env::X.outer) (inj:∀ c d,cl c=cl d→c=d) (hex:∀ b,b ∉ X.ex)
    (ho:ME X cl o fo) (ha:MA X cl (e::es) g) (hl:(e::es).length=n)
    (hst:starEach (e::es) X.env=(false,eval e X.env)::starEach es X.env:=by rfl) (hpl:(backTo pos (starEach es X.env)).any (·.1)=false:=by rfl)
    (ht:eval (.Call (.Attribute o m apos) (e::es) [] pos) X.env=(do
      let ov ← eval o X.env
      standAt apos.atName
      let (f,first) ← holding [ov] (getMethod ov m pl)
      callWith pos f first (backTo pos (starEach (e::es) X.env)) (backToKw pos (keywordEach [] X.env))):=by rfl) :
    ME X cl (.Call (.Attribute o m apos) (e::es) [] pos) (fMeth tbl fo g):=by
  refine ⟨?_⟩
  intro pins s σ Hf0 H0 Hf H ρ I r hs
  unfold fMeth at hs ⊢
  refine PySem.W.methodCall_KW (pl:=pl) (ho.run I r (Ext.refl r.sub) hs fun q v u s1 Hf1 H1 e1 I1 rv x1 rp=>?_) ht
  rw [e1] at hs ⊢
  obtain ⟨c,F,rfl,em,red⟩:=mtK_ns hs
  rw [red] at hs ⊢
  obtain ⟨f,fd,ps,hc,hm,hn,hf,hb⟩:=hF.ex c F em
  cases rp with
  | ins hq =>
    rename_i a dx
    obtain rfl:u=Value.ref a:=rv
    refine getmeth_ok I1 (x1.sub _ _ hq) hc hm rfl ?_
    refine PySem.W.callWith_K (first:=[.ref a]) (h₀:=X.base) I.ok.mod.kin hm.kp (ha.run pos I1 (r.keep x1) x1 hs fun qs vs us s2 Hf2 H2 hq2 e2 I2 rv2 x2 rps=>⟨I2.kIn,?_⟩) hst hpl
    rw [e2] at hs ⊢
    have x12:Same Hf1 Hf2:=x2.frz
    have rps':Rps X.K cl Hf2 (.ref a::vs) (.ins c::qs):=.cons (.ins (x12 _ _ hq)) rps
    have hv:(V.ref a::vs).length=n+1:=by rw [List.length_cons,rps.length,hq2,hl]
    have rv':Vals (.ref a::vs) (.ref a::us):=.cons rfl rv2
    have hsp:spF X.K cl (n+1) F (.ref a::vs) H2 (fun v H'=>∃ p Hf',F (.ins c::qs) = .ok p∧Ext Hf2 H2 Hf' H'∧Rp X.K cl Hf' v p) (fun u o H'=>∃ d Hf',F (.ins c::qs) = .exc d∧Ext Hf2 H2 Hf' H'∧u = .ref (cl d)) :=
      ⟨hv,Hf2,.ins c::qs,x2.sub,rps',hs,fun p v Hf' H' a b c=>⟨p,Hf',a,b,c⟩,fun c Hf' H' a b=>⟨c,Hf',a,b,rfl⟩⟩
    have hlu:(Value.ref a::us ++ []).length=ps.length:=by rw [List.append_nil,← rv'.length,hv,hn]
    have hbb:=hb s2 (.ref a::us) I2.kIn hlu
    rw [List.append_nil] at hbb
    refine wpAny_call (codeAny_mono (hf.run X.A X.stack s2 H2 ⟨.ref a::us,[]⟩ (.ref a::us) (.ref a::vs) _ _ hr I2.env0 hbb rv' hsp) fun r s' hq'=>?_)
    cases r with
    | error e=>exact ExP.from (e0:=x1.trans x2) (xat_of (F:=fun _=>F (.ins c::qs)) (ps:=[]) I2 x2.sub hst' hq' inj hex)
    | ok fl =>
      cases fl with
      | ret u =>
        obtain ⟨v,H',I',rv',p,Hf',e2,ex,rp⟩:=I2.after hq'
        exact ⟨p,v,Hf',H',e2,I',rv',(x1.trans x2).trans ex,rp⟩
      | next=>exact False.elim hq'
      | brk=>exact False.elim hq'
      | cont=>exact False.elim hq'
end
noncomputable def wunder (c d:Nat):Bool:=c == d || d == 20
structure Ways (K:PySem.W.Frag) (mg:Str→Option Value) (cl:Nat→Addr) (wn:List (Nat×Str)):Prop where
  cls:∀ c x,(c,x)∈wn→WayC K mg cl c x
  kit:∀ c x d y,(c,x)∈wn→(d,y)∈wn→PySem.W.kitOne K (.ref (cl c)) (.ref (cl d))=some (wunder c d)
section
variable {P:Program}{w:World}{K:PySem.W.Frag}{mg:Str→Option Value}{base:Heap}{cl:Nat→Addr}
theorem mk0 {N:List Str}{qual:Str}{scope:Scope}{f:Addr}{cd:Value}{A:Around}{outer:List Env}{s:Shared}{H:Hp}{E:XK}{c:Nat}{x:Str}{p pos:Pos}{wn:List (Nat×Str)}
    (C:Ways K mg cl wn) (hx:(c,x)∈wn) (hg:Gl (cxM P w K mg base cl N qual scope f cd A outer s H E) x:=by rfl) (hdb:(x == ("__debug__" : Str))=false:=by decide) :
    ME (cxM P w K mg base cl N qual scope f cd A outer s H E) cl (.Call (.Name x p) [] [] pos) (fMake c):=me_make (C.cls c x hx) hg hdb
theorem mm {N:List Str}{qual:Str}{scope:Scope}{f:Addr}{cd:Value}{A:Around}{outer:List Env}{s:Shared}{H:Hp}{E:XK}{k k' n:Nat}{m:Str}{tbl:List (Nat×(List PV→R PV))}{o e:Expr}{es:List Expr}{fo:FE}{g:FA}{apos pos:Pos}{pl:Sem Bool}
    (h:FM P w K mg base cl k m n tbl) (hr:Room k' (A.deeper (envOfC qual scope s.heap.objs.size f cd))) (inj:∀ c d,cl c=cl d→c=d) (ho:ME (cxM P w K mg base cl N qual scope f cd A outer s H E) cl o fo) (ha:MA (cxM P w K mg base cl N qual scope f cd A outer s H E) cl (e::es) g) (hk:k≤k':=by decide)
    (hl:(e::es).length=n:=by rfl)
    (he:starEach (e::es) (cxM P w K mg base cl N qual scope f cd A outer s H E).env=(false,eval e (cxM P w K mg base cl N qual scope f cd A outer s H E).env)::starEach es (cxM P w K mg base cl N qual scope f cd A outer s H E).env:=by rfl)
    (hpl:(backTo pos (starEach es (cxM P w K mg base cl N qual scope f cd A outer s H E).env)).any (·.1)=false:=by rfl)
    (ht:eval (.Call (.Attribute o m apos) (e::es) [] pos) (cxM P w K mg base cl N qual scope f cd A outer s H E).env=(do
      let ov ← eval o (cxM P w K mg base cl N qual scope f cd A outer s H E).env
      standAt apos.atName
      let (f',first) ← holding [ov] (getMethod ov m pl)
      callWith pos f' first (backTo pos (starEach (e::es) (cxM P w K mg base cl N qual scope f cd A outer s H E).env)) (backToKw pos (keywordEach [] (cxM P w K mg base cl N qual scope f cd A outer s H E).env))):=by rfl) :
    ME (cxM P w K mg base cl N qual scope f cd A outer s H E) cl (.Call (.Attribute o m apos) (e::es) [] pos) (fMeth tbl fo g) :=
  me_meth h (hr.mono hk) rfl inj (fun b z=>absurd (show b∈([]:List Addr) from z) (by simp)) ho ha hl he hpl ht
structure MethAt (K:PySem.W.Frag) (cl:Nat→Addr) (c:Nat) (m qual:Str) (st:Stmt) (f:Addr) (fd:FuncData):Prop where
  fn:Fun K m qual st f fd
  at_:Meth K (cl c) m f
structure MG (P:Program) (w:World) (K:PySem.W.Frag) (mg:Str→Option Value) (base:Heap) (cl:Nat→Addr) (k:Nat) (c:Nat) (m:Str) (n:Nat) (F:List PV→R PV):Prop where
  ex:∃ (f:Addr) (fd:FuncData) (ps:List Str),L2.Cls K (cl c)∧Meth K (cl c) m f∧ps.length=n+1∧FnOk P w K mg base (CXm cl P w) k f fd ps (spF K cl (n+1) F)∧Binds K fd ps []
theorem MethAt.mgp {c:Nat}{m qual:Str}{st:Stmt}{f:Addr}{fd:FuncData}{N ps:List Str}{k n:Nat}{b:FS} (D:MethAt K cl c m qual st f fd) (hc:L2.Cls K (cl c)) (S:FnScope N ps (defScope st)) (hn:ps.length=n+1)
    (hb:∀ (kV doc pm:Value) (an:Option Addr) (cdv ct:Value) (us:List Value),us.length=ps.length→bindArgs (PySem.W.fnOf m qual (defArgs st) (defBody st) (defScope st) .none kV doc pm an cdv ct) ⟨us,[]⟩=pure (ps.zip us))
    (hbody:∀ (cdv:Value) (A:Around) (outer:List Env) (s:Shared) (H:Hp) (E:XK),Room k (A.deeper (envOfC qual (defScope st) s.heap.objs.size f cdv)) →
      MSs (cxM P w K mg base cl N qual (defScope st) f cdv A outer s H E) cl (defBody st) b):MG P w K mg base cl (k+1) c m n (runF N.length b) :=
  ⟨⟨f,fd,ps,hc,D.at_,hn,fn_mirror D.fn S hn hbody,D.fn.binds hb⟩⟩
theorem fm_nil {k n:Nat}{m:Str}:FM P w K mg base cl k m n []:=⟨fun c F h=>by cases h⟩
theorem fm_cons {j k n:Nat}{c:Nat}{m:Str}{F:List PV→R PV}{tbl:List (Nat×(List PV→R PV))} (h:MG P w K mg base cl j c m n F) (t:FM P w K mg base cl k m n tbl) (hk:j≤k:=by decide):FM P w K mg base cl k m n ((c,F)::tbl):=by
  refine ⟨fun d G e=>?_⟩
  unfold mtLook at e
  by_cases z:d=c
  · subst z
    rw [if_pos rfl] at e
    cases e
    obtain ⟨f,fd,ps,a,b,c,g,i⟩:=h.ex
    exact ⟨f,fd,ps,a,b,c,g.mono hk,i⟩
  · rw [if_neg z] at e
    exact t.ex d G e
noncomputable def wayOk (K:PySem.W.Frag) (x:Str):Bool :=
  refIn K x && PySem.W.makesIn K (adOf K x) && PySem.W.findIn K (.ref (adOf K x)) "__init__" == some (some (.builtin "object.__init__")) && PySem.W.keepIn K (.ref (adOf K x)) &&
  PySem.W.plainGet K (adOf K x) Str.empty && PySem.W.hasDictIn K (adOf K x) && PySem.W.plainOver K (adOf K x) && PySem.W.findIn K (.ref (adOf K x)) "__setattr__" == some (some (.builtin "object.__setattr__")) &&
  PySem.W.findIn K (.ref (adOf K x)) "__class__" == some (some (.builtin "object.__class__")) && PySem.W.specialIn K (.builtin "object.__class__") "__get__" == some (some (.builtin "getset_descriptor.__get__")) &&
  PySem.W.takesIn K (.builtin "object.__class__") == some true && PySem.W.mroIn K (adOf K x) (.type "object") == some true
noncomputable def waysOk (K:PySem.W.Frag) (wn:List (Nat×Str)):Bool:=wn.all fun p=>wayOk K p.2 && wn.all fun q=>PySem.W.kitOne K (.ref (adOf K p.2)) (.ref (adOf K q.2)) == some (wunder p.1 q.1)
noncomputable def clsOk2 (K:PySem.W.Frag) (all names:List (Nat×Str)):Bool:=ndOk (all.map fun p=>adOf K p.2) && names.all fun p=>oneOk K p && names.all fun q=>pairOk K p q
theorem cls_inj2 {all names:List (Nat×Str)} (e:clsOk2 K all names=true):∀ c d,clOf K all c=clOf K all d→c=d:=clOf_inj (nd_of (Bool.and_eq_true_iff.mp e).1)
theorem cls_of2 {h:Heap}{all names:List (Nat×Str)} (X:K.In h) (G:h.Ns mainGlobals mg) (hn:(all.map (·.1)).Nodup) (hs:∀ p∈names,p∈all) (e:clsOk2 K all names=true):Cls K mg (clOf K all) names:=by
  have a:=(Bool.and_eq_true_iff.mp e).2
  have one:∀ c x,(c,x)∈names→oneOk K (c,x)=true∧∀ d y,(d,y)∈names→pairOk K (c,x) (d,y)=true:=fun c x hx=>by
    have:=List.all_eq_true.mp a (c,x) hx
    rw [Bool.and_eq_true] at this
    exact ⟨this.1,fun d y hy=>List.all_eq_true.mp this.2 (d,y) hy⟩
  refine ⟨fun c x hx=>?_,fun c x d y hx hy=>?_,fun c x d y hx hy=>?_,fun d y hy=>?_,fun c x hx=>?_⟩
  · obtain ⟨o,_⟩:=one c x hx
    unfold oneOk at o
    simp only [Bool.and_eq_true,beq_iff_eq] at o
    exact ⟨by rw [clOf_at hn (hs _ hx)];exact PySem.W.mg_of X G (refIn_of o.1.1.1.1),by rw [clOf_at hn (hs _ hx)];exact o.1.1.1.2,by rw [clOf_at hn (hs _ hx)];exact o.1.1.2⟩
  · have o:=(one c x hx).2 d y hy
    unfold pairOk at o
    simp only [Bool.and_eq_true,beq_iff_eq] at o
    rw [clOf_at hn (hs _ hx),clOf_at hn (hs _ hy)];exact o.1
  · have o:=(one c x hx).2 d y hy
    unfold pairOk at o
    simp only [Bool.and_eq_true,beq_iff_eq] at o
    rw [clOf_at hn (hs _ hx),clOf_at hn (hs _ hy)];exact o.2
  · obtain ⟨o,_⟩:=one d y hy
    unfold oneOk at o
    simp only [Bool.and_eq_true,beq_iff_eq] at o
    rw [clOf_at hn (hs _ hy)];exact o.2
  · obtain ⟨o,_⟩:=one c x hx
    unfold oneOk at o
    simp only [Bool.and_eq_true,beq_iff_eq] at o
    rw [clOf_at hn (hs _ hx)];exact o.1.2
theorem ways_of {h:Heap}{all wn:List (Nat×Str)} (X:K.In h) (G:h.Ns mainGlobals mg) (hn:(all.map (·.1)).Nodup) (hs:∀ p∈wn,p∈all) (e:waysOk K wn=true):Ways K mg (clOf K all) wn:=by
  have one:∀ c x,(c,x)∈wn→wayOk K x=true∧∀ d y,(d,y)∈wn→PySem.W.kitOne K (.ref (adOf K x)) (.ref (adOf K y))=some (wunder c d):=fun c x hx=>by
    have:=List.all_eq_true.mp e (c,x) hx
    rw [Bool.and_eq_true] at this
    exact ⟨this.1,fun d y hy=>beq_iff_eq.mp (List.all_eq_true.mp this.2 (d,y) hy)⟩
  refine ⟨fun c x hx=>?_,fun c x d y hx hy=>?_⟩
  · obtain ⟨o,_⟩:=one c x hx
    have ec:=clOf_at (K:=K) hn (hs _ hx)
    unfold wayOk at o
    simp only [Bool.and_eq_true,beq_iff_eq] at o
    obtain ⟨⟨⟨⟨⟨⟨⟨⟨⟨⟨⟨o1,o2⟩,o3⟩,o4⟩,o5⟩,o6⟩,o7⟩,o8⟩,o9⟩,o10⟩,o11⟩,o12⟩:=o
    exact ⟨by rw [ec];exact PySem.W.mg_of X G (refIn_of o1),by rw [ec];exact o2,by rw [ec];exact o3,by rw [ec];exact o4,by rw [ec];exact ⟨o5,o6,o7,o8⟩,by rw [ec];exact o9,o10,o11,by rw [ec];exact o12⟩
  · rw [clOf_at hn (hs _ hx),clOf_at hn (hs _ hy)];exact (one c x hx).2 d y hy
theorem adOf_of {x:Str}{C:Addr} (a:PySem.W.nsIn K mainGlobals x=some (some (.ref C))):adOf K x=C:=by unfold adOf;rw [a]
theorem meth_mk {all:List (Nat×Str)}{c:Nat}{x m qual:Str}{st:Stmt}{C f:Addr}{oc:Value}{od an:Option Addr}{osl:Array (Option Value)}{kV doc pm cdv ct:Value} (hn:(all.map (·.1)).Nodup) (hx:(c,x)∈all) (a:PySem.W.nsIn K mainGlobals x=some (some (.ref C)))
    (b:PySem.W.findIn K (.ref C) m=some (some (.ref f))) (i:PySem.W.isFn K (.ref f)=true) (l:K.lookup f=some ⟨oc,od,.func (PySem.W.fnOf m qual (defArgs st) (defBody st) (defScope st) .none kV doc pm an cdv ct),osl⟩) (d:PySem.W.codeIn K cdv qual=true) (k:PySem.W.keepIn K (.ref f)=true) :
    ∃ f fd,MethAt K (clOf K all) c m qual st f fd:=⟨f,_,fun_mk l d k,by rw [clOf_at hn hx,adOf_of a];exact ⟨b,i,k⟩⟩
end
noncomputable def padTo:Nat→MEnv→MEnv
  | 0,_=>[]
  | n+1,[]=>none::padTo n []
  | n+1,o::r=>o::padTo n r
noncomputable def compL (n:Nat) (t:FT) (f:FE) (ρ:MEnv):List PV→R (List PV)
  | []=>.ok []
  | p::r=>match t (padTo n ρ ++ [some p]) with
    | .ok true=>(match f (padTo n ρ ++ [some p]) with
      | .ok v=>(match compL n t f ρ r with
        | .ok vs=>.ok (v::vs)
        | _=>.stuck)
      | _=>.stuck)
    | .ok false=>compL n t f ρ r
    | _=>.stuck
noncomputable def tTrue:FT:=fun _=>.ok true
noncomputable def compK (n:Nat) (t:FT) (f:FE) (ρ:MEnv) (l:List PV):R PV:=if l.length≤1000000 then (match compL n t f ρ l with
  | .ok vs=>.ok (.lst vs)
  | _=>.stuck) else .stuck
noncomputable def fComp (n:Nat) (it:FA) (t:FT) (f:FE):FE:=fun ρ=>(it ρ).bind (compK n t f ρ)
theorem padTo_len:∀ (n:Nat) (ρ:MEnv),(padTo n ρ).length=n
  | 0,_=>rfl
  | n+1,[]=>congrArg (·+1) (padTo_len n [])
  | n+1,_::r=>congrArg (·+1) (padTo_len n r)
theorem padTo_get:∀ {n:Nat}{ρ:MEnv}{i:Nat}{p:PV},(padTo n ρ)[i]?=some (some p)→ρ[i]?=some (some p)
  | 0,_,_,_,h=>by simp [padTo] at h
  | n+1,[],0,_,h=>by simp [padTo] at h
  | n+1,[],i+1,p,h=>by
    have:(padTo n [])[i]?=some (some p):=by simpa [padTo] using h
    have:=padTo_get this
    simp at this
  | n+1,o::r,0,p,h=>by simpa [padTo] using h
  | n+1,o::r,i+1,p,h=>by
    have:(padTo n r)[i]?=some (some p):=by simpa [padTo] using h
    simpa using padTo_get this
theorem Rep.snoc {K:PySem.W.Frag}{cl:Nat→Addr}{Hf0 H0 Hf H:Hp}{σ:SV}{ρ:MEnv} (r:Rep K cl Hf0 H0 Hf H σ ρ) {v:V}{p:PV} (hr:Rp K cl Hf v p):Rep K cl Hf0 H0 Hf H (σ ++ [some v]) (padTo σ.length ρ ++ [some p]):=by
  have np:∀ l,p≠.own l:=fun l z=>by subst z;cases hr
  have at_:∀ {i:Nat}{q:PV},(padTo σ.length ρ ++ [some p])[i]?=some (some q)→(i<σ.length∧ρ[i]?=some (some q))∨(i=σ.length∧q=p):=fun {i q} h=>by
    by_cases hi:i<σ.length
    · rw [List.getElem?_append_left (by rw [padTo_len];exact hi)] at h
      exact .inl ⟨hi,padTo_get h⟩
    · rw [List.getElem?_append_right (by rw [padTo_len];omega),padTo_len] at h
      by_cases z:i=σ.length
      · subst z;simp at h;exact .inr ⟨rfl,h.symm⟩
      · rw [List.getElem?_eq_none (by simp;omega)] at h;cases h
  refine ⟨r.ext,fun i q h=>?_,fun i j ps qs a h1 h2 h3 h4=>?_⟩
  · rcases at_ h with ⟨hi,h'⟩ | ⟨rfl,rfl⟩
    · obtain ⟨w,h1,h2⟩:=r.slot i q h'
      exact ⟨w,by rw [List.getElem?_append_left hi];exact h1,h2⟩
    · refine ⟨v,by simp,?_⟩
      cases q with
      | own l=>exact absurd rfl (np l)
      | _=>exact hr
  · rcases at_ h1 with ⟨hi,h1'⟩ | ⟨rfl,e⟩
    · rcases at_ h2 with ⟨hj,h2'⟩ | ⟨rfl,e⟩
      · rw [List.getElem?_append_left hi] at h3
        rw [List.getElem?_append_left hj] at h4
        exact r.dist i j ps qs a h1' h2' h3 h4
      · exact absurd e.symm (np qs)
    · exact absurd e.symm (np ps)
noncomputable def cxB (X:Cx) (Ns:List Str) (x:Str) (sc:Scope) (cs:List (Str×Addr)) (C:Addr) (s:Shared) (H:Hp) (fp:List Addr):Cx :=
  { X with N:=Ns ++ [x],s₀:=s,H₀:=H,env:=compEnvC sc cs C X.env,outer:=X.stack,stack:=X.stack,ex:=fp,fn:=fun _=>false,pn:=[],xe:=fun _ _=>False }
structure Cap (X:Cx) (Ns:List Str) (x:Str) (sc:Scope) (cs:List (Str×Addr)):Prop where
  clos:closureFor sc X.env=pure cs
  kind:sc.kind = .function
  nocell:∀ y∈sc.names,y.2≠.cell
  names:∀ y∈sc.names,y.2 = .local→sc.names.lookup y.1=some .local
  here:sc.names.lookup x=some .local
  sub:∀ y c,cs.lookup y=some c→X.env.cells.lookup y=some c
  has:∀ y,((relabel sc X.env).names.lookup y=some .cell∨(relabel sc X.env).names.lookup y=some .free)→∃ c,cs.lookup y=some c
  vis:∀ y∈Ns,Vis (relabel sc X.env) y→((relabel sc X.env).names.lookup y=some .cell∨(relabel sc X.env).names.lookup y=some .free)∧(X.env.kindOf y=some .cell∨X.env.kindOf y=some .free)
  new:x ∉ Ns
  len:Ns.length=X.N.length
  same:∀ (i:Nat) (y:Str),Ns[i]?=some y→Vis (relabel sc X.env) y→X.N[i]?=some y
section
variable {X:Cx}{cl:Nat→Addr}{pins:List (Addr×Obj)}{σ:SV}{H:Hp}{s:Shared}{Ns:List Str}{x:Str}{sc:Scope}{cs:List (Str×Addr)}{fp:List Addr}
theorem cxB_ok (I:Inv X pins σ H s) (c:Cap X Ns x sc cs) (hf:∀ b∈fp,FpOk X pins H b) (hl:∀ b∈fp,b<s.heap.objs.size):(cxB X Ns x sc cs s.heap.objs.size s H fp).Ok where
  mod:=I.ok.mod
  kind:=c.kind
  glob:=I.ok.glob
  blt:=I.ok.blt
  above:=Nat.le_refl _
  inj:=fun y z d e1 e2=>I.ok.inj y z d (c.sub y d e1) (c.sub z d e2)
  has:=fun y h=>c.has y h
  cab:=fun y d h=>by cases h
  hd:=I.ok.hd
  frames:=I.ok.frames
  stk:=.inl rfl
  exf:=fun b hb=>⟨Nat.ne_of_lt (hl b hb),fun y d e=>(hf b hb).2.2.2.2.1 y d (c.sub y d e)⟩
  bs:=I.bs
  bsz:=Nat.le_trans I.ok.bsz I.sz
  noex:=fun b o e hb=>by
    rcases (hf b hb).2.2.2.1 with z | z
    · exact I.ok.noex b o e z
    · exact absurd (Nat.lt_of_lt_of_le (Heap.lt_size e) (Nat.le_trans I.ok.bsz z)) (Nat.lt_irrefl _)
  exfs:=fun b hb z=>by
    rcases List.mem_cons.mp (I.stkSub b z) with e | e
    · exact (hf b hb).2.1 e
    · exact (hf b hb).2.2.1 e
  funs:=I.stack
  frf:=I.stkFree
theorem cxB_inv {h1:Heap}{tk:Nat} (I:Inv X pins σ H s) (c:Cap X Ns x sc cs) (hf:∀ b∈fp,FpOk X pins H b) (hl:∀ b∈fp,b<s.heap.objs.size) (hn:h1.Ns s.heap.objs.size (fun _=>none)) (k:∀ b o,s.heap.get? b=some o→h1.get? b=some o) :
    Inv (cxB X Ns x sc cs s.heap.objs.size s H fp) [] (σ ++ [none]) H { s with heap:=h1,toks:=tk } where
  ok:=cxB_ok I c hf hl
  os:=rfl
  bare:=I.bare
  base:=Un.kept k
  loc:=by
    refine ⟨_,hn,fun i y v e1 e2 e3=>?_⟩
    obtain ⟨m,_,lk⟩:=I.loc
    have hi:i<σ.length:=by
      by_cases z:i<σ.length
      · exact z
      · rw [List.getElem?_append_right (by omega)] at e2
        by_cases z2:i=σ.length
        · subst z2;simp at e2
        · rw [List.getElem?_eq_none (by simp;omega)] at e2;cases e2
    rw [List.getElem?_append_left hi] at e2
    have e1'':Ns[i]?=some y:=by
      have:(Ns ++ [x])[i]?=some y:=e1
      rw [List.getElem?_append_left (by rw [c.len,← I.len];exact hi)] at this;exact this
    have e1':=c.same i y e1'' e3
    obtain ⟨k1,k2⟩:=c.vis y (List.mem_of_getElem? e1'') e3
    have v':Vis X.env.scope y:=.inr k2
    obtain ⟨u,ru,l⟩:=lk i y v e1' e2 v'
    refine ⟨u,ru,.inr ⟨k1,?_⟩⟩
    rcases l with ⟨kl,_⟩ | ⟨_,d,ed,z⟩
    · rcases k2 with k2 | k2<;>(rw [k2] at kl;cases kl)
    · obtain ⟨d',ed'⟩:=c.has y k1
      have:=c.sub y d' ed'
      rw [ed] at this
      cases this
      obtain ⟨o,ho,hd⟩:=z
      exact ⟨d,ed',o,k _ _ ho,hd⟩
  cell:=fun y d e=>by
    obtain ⟨v,o,ho,hd⟩:=I.cell y d (c.sub y d e)
    exact ⟨v,o,k _ _ ho,hd⟩
  free:=I.hok.fresh (Nat.le_refl _)
  freeC:=fun y d e=>I.freeC y d (c.sub y d e)
  pin:=fun p hp=>by cases hp
  hok:=I.hok.kept k
  len:=by show (σ ++ [none]).length=(Ns ++ [x]).length;rw [List.length_append,List.length_append,I.len,c.len];rfl
theorem cxB_fp (c:Cap X Ns x sc cs) (I:Inv X pins σ H s) {H':Hp}{C:Addr}{s0:Shared}{H0:Hp} (hC:∀ b∈fp,b≠C) (hf:∀ b∈fp,FpOk X pins H b) (hn:∀ b∈fp,H' b=none):∀ b∈fp,FpOk (cxB X Ns x sc cs C s0 H0 fp) [] H' b:=fun b hb =>
  ⟨hn b hb,hC b hb,fun z=>(List.mem_cons.mp (I.stkSub b z)).elim (hf b hb).2.1 (hf b hb).2.2.1,.inl hb,fun y d e=>(hf b hb).2.2.2.2.1 y d (c.sub y d e),fun p hp=>by cases hp⟩
end
section
variable {prog:Program}{w:World}{A:Around}{R:Result→Shared→Prop}{s:Shared}
theorem compLoop_let {elt target iter:Expr}{ifs:List Expr}{scope:Scope}{pos:Pos}{it acc:Value}{env:Env} (I:Nat→Shared→Prop)
    (turn:∀ n s,I n s→wpAny (model prog w) A (pyNext it) (fun r s₁=>match r with
      | none=>R (.ok .next) s₁
      | some v=>wpAny (model prog w) A (letOwnedTupleGo target it v) (fun _ s₁'=>wpAny (model prog w) A (assign target env v) (fun _ s₂ =>
          wpAny (model prog w) A (forIn ifs true fun c r=>if r=true then do let ok ← isTrue c env (eval c env);pure (ForInStep.yield ok) else pure (ForInStep.yield r)) (fun ok s₃ =>
            if ok=true then wpAny (model prog w) A (eval elt env) (fun x s₄ =>
              wpAny (model prog w) A (call (.builtin "list.append") [acc,x]) (fun _ s₅=>∃ m,m<n∧I m s₅) (fun _ _=>False) s₄) (fun _ _=>False) s₃
            else ∃ m,m<n∧I m s₃) (fun _ _=>False) s₂) (fun _ _=>False) s₁') (fun _ _=>False) s₁) (fun _ _=>False) s)
    (n:Nat) (h:I n s) :
    codeAny (model prog w) A (.compLoop (.ListComp elt [⟨target,iter,ifs,0⟩] scope pos) 0 it acc env) R s:=by
  refine codeAny_loop rfl I (fun n s hI=>?_) n h
  show wpAny _ A ((compTurn (.ListComp elt [⟨target,iter,ifs,0⟩] scope pos) 0 it acc env).onRaise (fun x=>do noteFrame x env;theTreesLotGoes x)) _ _ s
  refine wpAny_noted ?_
  rw [compTurn_list]
  refine wpAny_bind (wpAny_standAt (wpAny_bind (wpAny_mono (turn n s hI) (fun r s₁ h₁=>?_) fun _ _ h'=>h'.elim)))
  cases r with
  | none=>exact wpAny_pure h₁
  | some v =>
    refine wpAny_bind (wpAny_mono h₁ (fun _ s₁' h₁'=>?_) fun _ _ h'=>h'.elim)
    refine wpAny_bind (wpAny_mono h₁' (fun _ s₂ h₂=>wpAny_bind (wpAny_mono h₂ (fun ok s₃ h₃=>?_) fun _ _ h'=>h'.elim)) fun _ _ h'=>h'.elim)
    cases ok with
    | false=>exact wpAny_pure ⟨rfl,h₃⟩
    | true =>
      exact wpAny_bind (wpAny_bind (wpAny_mono h₃ (fun x s₄ h₄=>wpAny_bind (wpAny_mono h₄ (fun _ s₅ h₅=>wpAny_pure (wpAny_pure ⟨rfl,h₅⟩)) fun _ _ h'=>h'.elim)) fun _ _ h'=>h'.elim))
end
inductive MC (X:Cx) (cl:Nat→Addr):List Expr→FT→Prop where
  | nil:MC X cl [] tTrue
  | one {c:Expr}{t:FT} (h:MT X cl c t):MC X cl [c] t
theorem compL_cons {n:Nat}{t:FT}{f:FE}{ρ:MEnv}{p:PV}{r rs:List PV} (h:compL n t f ρ (p::r) = .ok rs) :
    (t (padTo n ρ ++ [some p]) = .ok false∧compL n t f ρ r = .ok rs)∨(t (padTo n ρ ++ [some p]) = .ok true∧∃ v vs,f (padTo n ρ ++ [some p]) = .ok v∧compL n t f ρ r = .ok vs∧rs=v::vs):=by
  unfold compL at h
  split at h
  · rename_i e1
    split at h
    · rename_i v e2
      split at h
      · rename_i vs e3
        cases h
        exact .inr ⟨e1,v,vs,e2,e3,rfl⟩
      · cases h
    · cases h
  · rename_i e1;exact .inl ⟨e1,h⟩
  · cases h
section
variable {X:Cx}{cl:Nat→Addr}
theorem mc_run {ifs:List Expr}{t:FT} (h:MC X cl ifs t) {pins:List (Addr×Obj)}{s:Shared}{σ:SV}{Hf0 H0 Hf H:Hp}{ρ:MEnv}{b:Bool} (I:Inv X pins σ H s) (r:Rep X.K cl Hf0 H0 Hf H σ ρ) (e:t ρ = .ok b) {Q:Bool→Shared→Prop}
    (ok:∀ s' Hf' H',Inv X pins σ H' s'→Ext Hf H Hf' H'→Q b s') :
    wpAny (model X.prog X.w) X.A (forIn ifs true fun c r=>if r=true then do let ok ← isTrue c X.env (eval c X.env);pure (ForInStep.yield ok) else pure (ForInStep.yield r)) Q (fun _ _=>False) s:=by
  cases h with
  | nil =>
    cases e
    exact wpAny_tests_nil (ok s Hf H I (Ext.refl r.sub))
  | one h =>
    refine wpAny_tests_one (wpAny_mono (h pins s σ Hf0 H0 Hf H ρ I r (by rw [e];intro z;cases z)) (fun b' s' q=>?_) fun u s' q=>?_)
    · obtain ⟨Hf',H',e1,I',x⟩:=q
      rw [e] at e1;cases e1
      exact ok s' Hf' H' I' x
    · obtain ⟨c,e1,_⟩:=q
      rw [e] at e1;cases e1
theorem Ext.freeze {Hf H Hf1 H1:Hp} (x:Ext Hf H Hf1 H1) {l:Addr}{o:HO} (h1:H1 l=some o) (h2:Hf1 l=none) (h3:H l=none):Ext Hf H (upd Hf1 l o) H1:=by
  refine ⟨x.all,fun b u q=>?_,fun b u q=>?_,fun b n=>?_⟩
  · have:=x.frz b u q
    by_cases e:b=l
    · subst e;rw [h2] at this;cases this
    · rw [upd_ne e];exact this
  · by_cases e:b=l
    · subst e;rw [upd_same] at q;cases q;exact h1
    · rw [upd_ne e] at q;exact x.sub b u q
  · have e:b≠l:=fun z=>n (by rw [z];exact h3)
    rw [upd_ne e];exact x.old b n
theorem comp_run {elt iter:Expr}{Ns:List Str}{x:Str}{px pos pos':Pos}{sc:Scope}{cs:List (Str×Addr)}{ifs:List Expr}{fa:FA}{t:FT}{f:FE}{n:Nat}{use:Option (Value→Sem Unit)}{Q:Value→Shared→Prop}{E:Value→Shared→Prop}
    {pins:List (Addr×Obj)}{s:Shared}{σ:SV}{Hf0 H0 Hf H:Hp}{ρ:MEnv} (hc:X.calm=true) (c0:X.Ok→Cap X Ns x sc cs) (hn:X.N.length=n) (hnd:(Ns ++ [x]).Nodup) (hi:MI X cl (.Name x px) iter fa)
    (ht:∀ C s H fp,MC (cxB X Ns x sc cs C s H fp) cl ifs t) (hb:∀ C s H fp,ME (cxB X Ns x sc cs C s H fp) cl elt f) (hfs:∀ y,foldedSetIterable iter X.env y=pure y)
    (I:Inv X pins σ H s) (r:Rep X.K cl Hf0 H0 Hf H σ ρ) (hs:fComp n fa t f ρ≠.stuck) (hE:∀ u s',ExP X cl pins σ Hf H (fa ρ) u s'→E u s')
    (hQ:∀ (rs:List PV) (s5:Shared) (Hf5 H5:Hp) (l C:Addr),fComp n fa t f ρ = .ok (.lst rs)→Inv X pins σ H5 s5→Ext Hf H Hf5 H5→Rp X.K cl Hf5 (.ref l) (.lst rs)→FpOk X pins H5 C→(∃ m,s5.heap.Ns C m)→compPost (model X.prog X.w) X.A E use Q (.ref l) C (.ok .next) s5) :
    wpAny (model X.prog X.w) X.A (comprehension (.ListComp elt [⟨.Name x px,iter,ifs,0⟩] sc pos) sc X.env pos' (newList []) false (eval iter X.env) use) Q E s:=by
  have c:=c0 I.ok
  have hfr:fa ρ≠.stuck:=fun z=>hs (by unfold fComp;rw [z];rfl)
  refine wpAny_comprehension_free (use:=use) rfl hfs c.clos c.kind c.names (wpAny_mono (hi pins s σ Hf0 H0 Hf H ρ I r hfr) (fun xv s1 h1=>wpAny_mono h1 (fun itv s2 h2=>?_) hE) hE)
  obtain ⟨ps,vs,Hf2,e1,it,fp,tn,J,H2,e,I2,T,st2,f2,x2,ov,rps⟩:=h2
  subst e
  have ef:fComp n fa t f ρ=compK n t f ρ ps:=by unfold fComp;rw [e1];rfl
  have hs':compK n t f ρ ps≠.stuck:=by rw [← ef];exact hs
  obtain ⟨hz,rs,ec,ek⟩:ps.length≤1000000∧∃ rs,compL n t f ρ ps = .ok rs∧compK n t f ρ ps = .ok (.lst rs):=by
    unfold compK at hs' ⊢
    by_cases hz:ps.length≤1000000
    · rw [if_pos hz] at hs' ⊢
      cases ec:compL n t f ρ ps with
      | ok rs=>exact ⟨hz,rs,rfl,rfl⟩
      | exc d=>rw [ec] at hs';exact absurd rfl hs'
      | stuck=>rw [ec] at hs';exact absurd rfl hs'
    · rw [if_neg hz] at hs';exact absurd rfl hs'
  have ek':fComp n fa t f ρ = .ok (.lst rs):=ef.trans ek
  have nsm:H2 s2.heap.objs.size=none:=I2.hok.fresh (Nat.le_refl _)
  have fpl:∀ b∈fp,b<s2.heap.objs.size:=fun b hb=>by
    obtain ⟨o,ho,_⟩:=T.obj _ _ st2 b hb
    exact Heap.lt_size ho
  refine wpAny_newList ?_
  have k3:∀ b u,s2.heap.get? b=some u→(s2.heap.push { cls:=.type "list",data:=.seq ([]:List Value).toArray }).get? b=some u:=fun b u q=>Heap.get?_push_of_some _ q
  have I3:Inv X pins σ (upd H2 s2.heap.objs.size (.lst [])) { s2 with heap:=s2.heap.push { cls:=.type "list",data:=.seq ([]:List Value).toArray } } :=
    I2.laid (a:=s2.heap.objs.size) (o:=.lst []) (t':=s2.toks) k3 (Nat.le_refl _) ⟨Nat.zero_le _,[],0,.nil,Heap.get?_push_size _ rfl⟩
  generalize hl:s2.heap.objs.size=l at *
  have hf3:∀ b∈fp,FpOk X pins (upd H2 l (.lst [])) b:=fun b hb=>⟨by rw [upd_ne (Nat.ne_of_lt (fpl b hb))];exact (f2 b hb).1,(f2 b hb).2⟩
  generalize hs3:({ s2 with heap:=s2.heap.push { cls:=.type "list",data:=.seq ([]:List Value).toArray } }:Shared)=s3 at I3 ⊢
  have hl3:∀ b∈fp,b<s3.heap.objs.size:=fun b hb=>by
    rw [← hs3]
    show b<(s2.heap.push _).objs.size
    rw [Heap.size_push,hl];exact Nat.lt_succ_of_lt (fpl b hb)
  have st3:tn 0 s3.heap:=T.keep _ _ _ st2 fun b _ o e=>by rw [← hs3];exact k3 b o e
  refine wpAny_newFunctionEnv c.nocell (by intro y hy;simp at hy) (fun h1 hn1 hsb=>?_) c.kind
  have kC:∀ b o,s3.heap.get? b=some o→h1.get? b=some o:=fun b o e=>hsb.extBut b o (Nat.ne_of_lt (Heap.lt_size e)) (Heap.get?_push_of_some _ e)
  have IB:=cxB_inv (tk:=s3.toks+([]:List (Str×Value)).length) I3 c hf3 hl3 hn1 kC
  have x3:Ext Hf2 H2 Hf2 (upd H2 l (.lst [])):=Ext.newH x2.sub nsm (.lst [])
  have hf2l:Hf2 l=none:=x2.sub.free nsm
  have stB:tn 0 h1:=T.keep _ _ _ st3 fun b _ o e=>kC b o e
  have rk:=r.keep x2
  have hsl:σ.length=n:=by rw [I.len,hn]
  have hvp:=rps.length
  have hNn:Ns.length=n:=c.len.trans hn
  have hNi:(Ns ++ [x])[n]?=some x:=by rw [List.getElem?_append_right (by omega),hNn];simp
  have hLx:(relabel sc X.env).names.lookup x=some .local:=lookup_relabel_local c.here
  have hCf:∀ b∈fp,b≠s3.heap.objs.size:=fun b hb=>Nat.ne_of_lt (hl3 b hb)
  have stat:∀ {H':Hp},(∀ b∈fp,H' b=none)→∀ b∈fp,FpOk (cxB X Ns x sc cs s3.heap.objs.size s3 (upd H2 l (.lst [])) fp) [] H' b:=fun hn'=>cxB_fp c I3 hCf hf3 hn'
  have hbb:=hb s3.heap.objs.size s3 (upd H2 l (.lst [])) fp
  have htt:=ht s3.heap.objs.size s3 (upd H2 l (.lst [])) fp
  have loop:codeAny (model X.prog X.w) X.A (.compLoop (.ListComp elt [⟨.Name x px,iter,ifs,0⟩] sc pos) 0 (.ref it) (.ref l) (compEnvC sc cs s3.heap.objs.size X.env))
      (compPost (model X.prog X.w) X.A E use Q (.ref l) s3.heap.objs.size) { s3 with heap:=h1,toks:=s3.toks+([]:List (Str×Value)).length }:=by
    refine compLoop_let (fun m s'=>∃ (k:Nat) (ys:List V) (qs rest:List PV) (Hf' H':Hp) (v:Option V),Inv (cxB X Ns x sc cs s3.heap.objs.size s3 (upd H2 l (.lst [])) fp) [] (σ ++ [v]) H' s'∧tn k s'.heap∧(∀ b∈fp,H' b=none)∧Ext Hf2 H2 Hf' H'∧H' l=some (.lst ys)∧Hf' l=none ∧
      Rps X.K cl Hf' ys qs∧m=ps.length - k∧k≤ps.length∧qs.length≤k∧compL n t f ρ (ps.drop k) = .ok rest∧qs ++ rest=rs) ?_ ps.length
      ⟨0,[],[],rs,Hf2,upd H2 l (.lst []),none,IB,stB,fun b hb=>(hf3 b hb).1,x3,upd_same,hf2l,.nil,by omega,Nat.zero_le _,Nat.zero_le _,ec,rfl⟩
    rintro m s4 ⟨k,ys,qs,rest,Hf4,H4,v4,I4,st4,fr4,x4,hl4,hfl4,rq,rfl,hk,hqk,e4,eq4⟩
    have smH:Same Hf2 H4:=x4.frz.trans x4.sub
    by_cases hlt:k<ps.length
    · obtain ⟨go,yl⟩:=(ov H4 k smH).1 (by rw [hvp];exact hlt)
      refine wpAny_mono (T.item (cxB X Ns x sc cs s3.heap.objs.size s3 (upd H2 l (.lst [])) fp) rfl rfl rfl hc k [] s4 (σ ++ [v4]) H4 (fun _ _=>False) I4 (stat fr4) st4 go) (fun rr s5 ⟨u,hr,h5⟩=>?_) fun _ _ z=>z
      subst hr
      refine thn h5 fun _ s6 ⟨x6,H6,I6,r6,y6,st6,fr6⟩=>?_
      obtain ⟨eH,ex6⟩:=yl x6 H6 y6
      subst eH
      obtain ⟨p6,ep6,rp6⟩:=rps.get' ex6
      have rp6':=rp6.keep x4.frz
      have hdrop:ps.drop k=p6::ps.drop (k+1):=by
        rw [List.drop_eq_getElem_cons hlt]
        rw [List.getElem?_eq_getElem hlt] at ep6
        rw [Option.some.inj ep6]
      rw [hdrop] at e4
      have I6':=I6.pinned (stat fr6) (T.obj _ _ st6)
      refine wpAny_assign_Name (store_ok (X:=cxB X Ns x sc cs s3.heap.objs.size s3 (upd H2 l (.lst [])) fp) I6' hnd hNi (.inl hLx) r6 (fun s7 I7=>?_) (.inr hLx))
      have eσ:(σ ++ [v4]).set n (some x6)=σ ++ [some x6]:=by rw [← hsl,List.set_append_right _ _ (Nat.le_refl _)];simp
      rw [eσ] at I7
      have r7:=(rk.keep x4).snoc rp6'
      rw [hsl] at r7
      have again:∀ {s9:Shared}{Hf9 H9:Hp}{ys9:List V}{qs9 rest9:List PV},Inv (cxB X Ns x sc cs s3.heap.objs.size s3 (upd H2 l (.lst [])) fp) ([] ++ pinsAt fp s6.heap) (σ ++ [some x6]) H9 s9→Ext Hf2 H2 Hf9 H9→H9 l=some (.lst ys9)→Hf9 l=none→Rps X.K cl Hf9 ys9 qs9→qs9.length≤k+1 →
          compL n t f ρ (ps.drop (k+1)) = .ok rest9→qs9 ++ rest9=rs →
          ∃ m,m<ps.length - k∧∃ (k:Nat) (ys:List V) (qs rest:List PV) (Hf' H':Hp) (v:Option V),Inv (cxB X Ns x sc cs s3.heap.objs.size s3 (upd H2 l (.lst [])) fp) [] (σ ++ [v]) H' s9∧tn k s9.heap∧(∀ b∈fp,H' b=none)∧Ext Hf2 H2 Hf' H'∧H' l=some (.lst ys)∧Hf' l=none ∧
            Rps X.K cl Hf' ys qs∧m=ps.length - k∧k≤ps.length∧qs.length≤k∧compL n t f ρ (ps.drop k) = .ok rest∧qs ++ rest=rs:=fun {s9 Hf9 H9 ys9 qs9 rest9} I9 x9 hl9 hfl9 rq9 hq9 ec9 eq9=>by
        refine ⟨ps.length - (k+1),by omega,k+1,ys9,qs9,rest9,Hf9,H9,some x6,I9.unpinned,T.keep _ _ _ st6 fun b hb o e=>(I9.pin (b,o) (List.mem_append_right _ (List.mem_append_right _ (mem_pinsAt hb e)))).1,fun b hb=>?_,x9,hl9,hfl9,rq9,rfl,hlt,hq9,ec9,eq9⟩
        obtain ⟨o,e,d⟩:=T.obj _ _ st6 b hb
        exact (I9.pin (b,o) (List.mem_append_right _ (List.mem_append_right _ (mem_pinsAt hb e)))).2.1
      have nl4:H6 l≠none:=by rw [hl4];intro z;cases z
      rcases compL_cons e4 with ⟨et,e5⟩ | ⟨et,v,vs',ef,e5,er⟩
      · refine mc_run htt I7 r7 et fun s8 Hf8 H8 I8 x8=>?_
        rw [if_neg (by decide)]
        exact again I8 (x4.trans x8) (x8.all _ _ hl4) (by rw [x8.old l nl4];exact hfl4) (rq.keep x8.frz) (by omega) e5 eq4
      · refine mc_run htt I7 r7 et fun s8 Hf8 H8 I8 x8=>?_
        rw [if_pos rfl]
        have r8:=r7.keep x8
        refine wpAny_mono (hbb _ s8 _ Hf0 H0 Hf8 H8 _ I8 r8 (by rw [ef];intro z;cases z)) (fun u s9 q9=>?_) fun u s9 q9=>?_
        · obtain ⟨p9,v9,Hf9,H9,e9,I9,rv9,x9,rp9⟩:=q9
          rw [ef] at e9;cases e9
          have hl8:H8 l=some (.lst ys):=x8.all _ _ hl4
          have hl9:H9 l=some (.lst ys):=x9.all _ _ hl8
          have hfl9:Hf9 l=none:=by rw [x9.old l (by rw [hl8];intro z;cases z),x8.old l nl4];exact hfl4
          refine thn (mt_append (X:=cxB X Ns x sc cs s3.heap.objs.size s3 (upd H2 l (.lst [])) fp) _ s9 _ H9 (.ref l) [v9] (.ref l) [u] (fun w H'=>H'=upd H9 l (.lst (ys ++ [v9]))) I9 rfl (.cons rv9 .nil) ⟨l,ys,v9,rfl,rfl,hl9,by rw [rq.length];exact Nat.lt_of_le_of_lt (show qs.length≤1000000 by omega) (by decide),rfl⟩) fun w s10 ⟨w',H10,I10,_,q10⟩=>?_
          subst q10
          have x49:=(x4.trans x8).trans x9
          have x10:Ext Hf2 H2 Hf9 (upd H9 l (.lst (ys ++ [v9]))):=by
            refine ⟨fun b o q=>?_,x49.frz,fun b o q=>?_,x49.old⟩
            · have e:b≠l:=fun z=>by rw [z,nsm] at q;cases q
              rw [upd_ne e];exact x49.all b o q
            · have e:b≠l:=fun z=>by rw [z,hfl9] at q;cases q
              rw [upd_ne e];exact x49.sub b o q
          exact again I10 x10 upd_same hfl9 (((rq.keep x8.frz).keep x9.frz).append (.cons rp9 .nil)) (by rw [List.length_append];simp;omega) e5 (by rw [List.append_assoc,← eq4,er];rfl)
        · obtain ⟨d,e9,_⟩:=q9
          rw [ef] at e9;cases e9
    · have hke:k=ps.length:=by omega
      subst hke
      refine wpAny_mono (T.done (cxB X Ns x sc cs s3.heap.objs.size s3 (upd H2 l (.lst [])) fp) rfl rfl rfl hc ps.length [] s4 (σ ++ [v4]) H4 (fun _ _=>False) I4 (stat fr4) st4 ((ov H4 ps.length smH).2 (by rw [hvp];exact Nat.le_refl _))) (fun rr s5 ⟨hr,I5⟩=>?_) fun _ _ z=>z
      subst hr
      rw [List.drop_length] at e4
      cases e4
      rw [List.append_nil] at eq4
      subst eq4
      obtain ⟨m5,hn5,_⟩:=I5.loc
      have xx:=x2.trans x4
      have hHl:H l=none:=by
        cases q:H l with
        | none=>rfl
        | some o=>have:=x2.all l o q;rw [nsm] at this;cases this
      have IX:Inv X pins σ H4 s5:=I3.call' I5.os I5.base I5.hok I5.bare fun b hb=>⟨(hf3 b hb).2.2.2.1,(hf3 b hb).2.1,(hf3 b hb).2.2.2.2.1,(hf3 b hb).2.2.2.2.2⟩
      exact hQ qs s5 (upd Hf4 l (.lst ys)) H4 l s3.heap.objs.size ek' IX (xx.freeze hl4 hfl4 hHl) (.lst (SqL.of upd_same) (rq.keep (same_upd hfl4 _))) (I3.fpOk (Nat.le_refl _) I5.free) ⟨m5,hn5⟩
  exact codeAny_compStart_list loop (T.self _ 0 _ _ _ stB loop)
theorem inv_letgo {pins:List (Addr×Obj)}{s:Shared}{σ:SV}{H:Hp}{C:Addr}{h':Heap} (I:Inv X pins σ H s) (hf:FpOk X pins H C) (hs:Heap.SameBut C s.heap h'):Inv X pins σ H { s with heap:=h' } :=
  I.turned (t':=s.toks) (fun b o hb e=>(hs.2 b hb).trans e) hf.1 hf.2.1 hf.2.2.2.1 hf.2.2.2.2.1 hf.2.2.2.2.2
theorem me_comp {elt iter:Expr}{Ns:List Str}{x:Str}{px pos:Pos}{sc:Scope}{cs:List (Str×Addr)}{ifs:List Expr}{fa:FA}{t:FT}{f:FE}{n:Nat} (hc:X.calm=true) (c0:X.Ok→Cap X Ns x sc cs) (hn:X.N.length=n) (hnd:(Ns ++ [x]).Nodup) (hi:MI X cl (.Name x px) iter fa)
    (ht:∀ C s H fp,MC (cxB X Ns x sc cs C s H fp) cl ifs t) (hb:∀ C s H fp,ME (cxB X Ns x sc cs C s H fp) cl elt f) (hfs:∀ y,foldedSetIterable iter X.env y=pure y:=by intro _;rfl) :
    ME X cl (.ListComp elt [⟨.Name x px,iter,ifs,0⟩] sc pos) (fComp n fa t f):=by
  refine ⟨?_⟩
  intro pins s σ Hf0 H0 Hf H ρ I r hs
  rw [eval_ListComp]
  refine comp_run hc c0 hn hnd hi ht hb hfs I r hs (fun u s' ⟨d,e1,y⟩=>⟨d,by unfold fComp;rw [e1];rfl,y⟩) fun rs s5 Hf5 H5 l C ek I5 x5 rp hf ⟨m,hm⟩=>?_
  exact ⟨m,hm,fun h' hsC=>⟨.lst rs,.ref l,Hf5,H5,ek,inv_letgo I5 hf hsC,rfl,x5,rp⟩⟩
theorem ms_setC {i:Nat}{y:Str}{py spos:Pos}{elt iter:Expr}{Ns:List Str}{x:Str}{px pos:Pos}{sc:Scope}{cs:List (Str×Addr)}{ifs:List Expr}{fa:FA}{t:FT}{f:FE}{n:Nat} (hN:X.N.Nodup) (hy:X.N[i]?=some y) (hl:Loc X.env.scope y) (hc:X.calm=true) (c0:X.Ok→Cap X Ns x sc cs) (hn:X.N.length=n) (hnd:(Ns ++ [x]).Nodup) (hi:MI X cl (.Name x px) iter fa)
    (ht:∀ C s H fp,MC (cxB X Ns x sc cs C s H fp) cl ifs t) (hb:∀ C s H fp,ME (cxB X Ns x sc cs C s H fp) cl elt f) (hfs:∀ y,foldedSetIterable iter X.env y=pure y:=by intro _;rfl)
    (hsw:swapsWith (.ListComp elt [⟨.Name x px,iter,ifs,0⟩] sc pos) (some (.Name y py)) spos.line X.env=pure true:=by rfl)
    (hf:X.fn y=true∨X.env.scope.names.lookup y=some .local:=by first | exact .inl rfl | exact .inr rfl | assumption) :
    MS X cl (.Assign [.Name y py] (.ListComp elt [⟨.Name x px,iter,ifs,0⟩] sc pos) spos) (sSet i (fComp n fa t f)):=by
  refine ⟨?_⟩
  intro pins s σ Hf0 H0 Hf H ρ I r hs
  unfold sSet at hs ⊢
  have hs':fComp n fa t f ρ≠.stuck:=fun z=>hs (by rw [z];rfl)
  rw [exec_Assign_Name_used _ _ _ _ hsw]
  refine wpAny_bind (wpAny_standAt (wpAny_bind ?_))
  show wpAny _ X.A (do let _ ← comprehension (.ListComp elt [⟨.Name x px,iter,ifs,0⟩] sc pos) sc X.env _ (newList []) false (eval iter X.env) (some (assign (.Name y py) X.env))) _ _ s
  have hE:∀ u s',ExP X cl pins σ Hf H (fa ρ) u s'→ExS X cl pins Hf0 H0 Hf (ofR (fComp n fa t f ρ) ρ fun v=>.next (ρ.set i (some v))) u s':=fun u s' ⟨d,e1,z⟩=>by
    have e2:fComp n fa t f ρ = .exc d:=by unfold fComp;rw [e1];rfl
    rw [e2]
    exact exs_of r z
  refine wpAny_bind (wpAny_mono (comp_run (use:=some (assign (.Name y py) X.env)) (Q:=fun _ s'=>OkS X cl pins Hf0 H0 Hf (ofR (fComp n fa t f ρ) ρ fun v=>.next (ρ.set i (some v))) .next s') hc c0 hn hnd hi ht hb hfs I r hs' hE ?_) (fun _ s' hq=>wpAny_pure (wpAny_pure hq)) fun _ _ e=>e)
  intro rs s5 Hf5 H5 l C ek I5 x5 rp hfC hmm
  obtain ⟨m,hm⟩:=hmm
  show wpAny _ X.A (assign (.Name y py) X.env (.ref l)) _ _ s5
  have hil:i<σ.length:=by rw [I.len];exact (List.getElem?_eq_some_iff.mp hy).1
  refine wpAny_assign_Name (store_ok2 I5 hN hy hl (v:=.ref l) rfl (fun s6 I6 h6=>?_) hf)
  obtain ⟨a,hs6,ha⟩:=h6
  have neC:C≠a:=by
    rcases ha with rfl | ha
    · exact hfC.2.1
    · exact fun z=>hfC.2.2.2.2.1 y a ha z.symm
  refine ⟨m,hm.sameBut hs6 neC,fun h' hsC=>?_⟩
  rw [ek]
  exact ⟨_,_,Hf5,H5,rfl,inv_letgo I6 hfC hsC,(r.keep x5).set i rp hil,x5.frz⟩
end
noncomputable def csOf (sc:Scope) (env:Env):List (Str×Addr):=sc.names.foldl (fun cs y=>if y.2 == .free then (y.1,(env.cells.lookup y.1).getD 0)::cs else cs) []
theorem clos_of {sc:Scope}{env:Env} (h:∀ y∈sc.names,y.2 = .free→∃ c,env.cells.lookup y.1=some c):closureFor sc env=pure (csOf sc env):=by
  unfold closureFor csOf
  generalize sc.names=l at h
  have go:∀ (l:List (Str×NameKind)) (cs:List (Str×Addr)),(∀ y∈l,y.2 = .free→∃ c,env.cells.lookup y.1=some c) →
      (forIn l cs (fun (x:Str×NameKind) (r:List (Str×Addr))=>match x with
        | (name,kind)=>if (kind == NameKind.free)=true then do
            let a ← cellOf env name
            pure (ForInStep.yield ((name,a)::r)) else pure (ForInStep.yield r)):Sem (List (Str×Addr)))=pure (l.foldl (fun cs y=>if y.2 == .free then (y.1,(env.cells.lookup y.1).getD 0)::cs else cs) cs):=by
    intro l
    induction l with
    | nil=>intro cs _;rfl
    | cons y r ih =>
      intro cs hl
      obtain ⟨n,k⟩:=y
      rw [List.forIn_cons,List.foldl_cons]
      by_cases hk:(k == NameKind.free)=true
      · obtain ⟨d,hd⟩:=hl (n,k) List.mem_cons_self (by simpa using hk)
        have e:cellOf env n=pure d:=by
          have hd':env.cells.lookup n=some d:=hd
          unfold cellOf;rw [hd']
        have hd':env.cells.lookup n=some d:=hd
        dsimp only
        rw [if_pos hk,if_pos hk,e,hd']
        exact ih _ fun z hz=>hl z (List.mem_cons_of_mem _ hz)
      · dsimp only
        rw [if_neg hk,if_neg hk]
        exact ih _ fun z hz=>hl z (List.mem_cons_of_mem _ hz)
  exact (congrArg (fun (m:Sem (List (Str×Addr)))=>m >>= fun cs=>pure cs) (go l [] h)).trans rfl
theorem csOf_go {env:Env}:∀ (l:List (Str×NameKind)) (cs:List (Str×Addr)) (y:Str) (c:Addr),(∀ z∈l,z.2 = .free→∃ c,env.cells.lookup z.1=some c) →
    (l.foldl (fun cs y=>if y.2 == .free then (y.1,(env.cells.lookup y.1).getD 0)::cs else cs) cs).lookup y=some c→cs.lookup y=some c∨env.cells.lookup y=some c
  | [],_,_,_,_,h=>.inl h
  | (n,k)::r,cs,y,c,hl,h=>by
    rw [List.foldl_cons] at h
    rcases csOf_go r _ y c (fun z hz=>hl z (List.mem_cons_of_mem _ hz)) h with q | q
    · by_cases hk:(k == NameKind.free)=true
      · rw [if_pos hk] at q
        obtain ⟨d,hd⟩:=hl (n,k) List.mem_cons_self (by simpa using hk)
        have hd':env.cells.lookup n=some d:=hd
        rw [hd',List.lookup_cons] at q
        by_cases e:y == n
        · rw [e] at q
          have e':=beq_iff_eq.mp e
          subst e'
          exact .inr (by rw [hd'];exact q)
        · have e2:(y == n)=false:=by simpa using e
          rw [e2] at q;exact .inl q
      · rw [if_neg hk] at q;exact .inl q
    · exact .inr q
theorem csOf_has {env:Env}:∀ (l:List (Str×NameKind)) (cs:List (Str×Addr)) (y:Str),((∃ c,cs.lookup y=some c)∨(y,NameKind.free)∈l) →
    ∃ c,(l.foldl (fun cs y=>if y.2 == .free then (y.1,(env.cells.lookup y.1).getD 0)::cs else cs) cs).lookup y=some c
  | [],cs,y,h=>by
    rcases h with h | h
    · exact h
    · cases h
  | (n,k)::r,cs,y,h=>by
    rw [List.foldl_cons]
    refine csOf_has r _ y ?_
    rcases h with ⟨c,h⟩ | h
    · left
      by_cases hk:(k == NameKind.free)=true
      · rw [if_pos hk,List.lookup_cons]
        by_cases e:(y == n)=true
        · rw [e];exact ⟨_,rfl⟩
        · have e2:(y == n)=false:=by simpa using e
          rw [e2];exact ⟨c,h⟩
      · rw [if_neg hk];exact ⟨c,h⟩
    · rcases List.mem_cons.mp h with e | e
      · left
        have e1:y=n:=congrArg Prod.fst e
        have e2:NameKind.free=k:=congrArg Prod.snd e
        subst e1 e2
        rw [if_pos (by rfl),List.lookup_cons]
        have:(y == y)=true:=beq_self_eq_true y
        rw [this];exact ⟨_,rfl⟩
      · exact .inr e
noncomputable def capB (N:List Str) (x:Str) (sc es:Scope):Bool :=
  sc.kind == .function && es.kind == .function && (sc.names.all fun y=>y.2 != .cell) && (sc.names.all fun y=>y.2 != .local || sc.names.lookup y.1 == some .local) && (sc.names.lookup x == some .local) &&
  (sc.names.all fun y=>y.2 != .free || es.names.lookup y.1 == some .cell || es.names.lookup y.1 == some .free) && (N.all fun y=>sc.names.lookup y != some .local) && !N.contains x
theorem lookup_mem' {α:Type}:∀ {l:List (Str×α)}{y:Str}{k:α},l.lookup y=some k→(y,k)∈l
  | [],_,_,h=>by cases h
  | (n,j)::r,y,k,h=>by
    rw [List.lookup_cons] at h
    by_cases e:(y == n)=true
    · rw [e] at h;cases h
      rw [beq_iff_eq.mp e];exact List.mem_cons_self
    · have e2:(y == n)=false:=by simpa using e
      rw [e2] at h
      exact List.mem_cons_of_mem _ (lookup_mem' h)
theorem relabel_go (cond:Str→NameKind→Bool) (hcond:∀ n k,cond n k=true→k = .free):∀ {l:List (Str×NameKind)}{y:Str}{k:NameKind},
    (l.map fun z=>if cond z.1 z.2 then (z.1,NameKind.cell) else (z.1,z.2)).lookup y=some k→(l.lookup y=some k)∨(k = .cell∧l.lookup y=some .free)
  | [],_,_,h=>by cases h
  | (n,j)::r,y,k,h=>by
    rw [List.map_cons] at h
    dsimp only at h
    by_cases hc:cond n j=true
    · rw [if_pos hc,List.lookup_cons] at h
      rw [List.lookup_cons]
      by_cases e:(y == n)=true
      · rw [e] at h ⊢
        cases h
        right;exact ⟨rfl,by rw [hcond n j hc]⟩
      · have e2:(y == n)=false:=by simpa using e
        rw [e2] at h ⊢
        exact relabel_go cond hcond h
    · rw [if_neg hc,List.lookup_cons] at h
      rw [List.lookup_cons]
      by_cases e:(y == n)=true
      · rw [e] at h ⊢;exact .inl h
      · have e2:(y == n)=false:=by simpa using e
        rw [e2] at h ⊢
        exact relabel_go cond hcond h
theorem relabel_kind {sc:Scope}{env:Env}{y:Str}{k:NameKind} (h:(relabel sc env).names.lookup y=some k):(sc.names.lookup y=some k)∨(k = .cell∧sc.names.lookup y=some .free) :=
  relabel_go (fun n k=>k == NameKind.free && env.scope.kind == .function && env.kindOf n == some .cell) (fun n k h=>beq_iff_eq.mp (Bool.and_eq_true_iff.mp (Bool.and_eq_true_iff.mp h).1).1) h
theorem cap_of {X:Cx}{Ns:List Str}{x:Str}{sc:Scope} (h:capB Ns x sc X.env.scope=true) (hl:Ns.length=X.N.length) (hsm:∀ (i:Nat) (y:Str),Ns[i]?=some y→Vis (relabel sc X.env) y→X.N[i]?=some y) (ok:X.Ok):Cap X Ns x sc (csOf sc X.env):=by
  unfold capB at h
  simp only [Bool.and_eq_true,beq_iff_eq,List.all_eq_true,Bool.or_eq_true,bne_iff_ne,ne_eq,Bool.not_eq_true'] at h
  obtain ⟨⟨⟨⟨⟨⟨⟨h1,h2⟩,h3⟩,h4⟩,h5⟩,h6⟩,h7⟩,h8⟩:=h
  have free:∀ y∈sc.names,y.2 = .free→(X.env.kindOf y.1=some .cell∨X.env.kindOf y.1=some .free):=fun y hy e=>by
    rcases h6 y hy with (z | z) | z
    · exact absurd e z
    · exact .inl z
    · exact .inr z
  have cells:∀ y∈sc.names,y.2 = .free→∃ c,X.env.cells.lookup y.1=some c:=fun y hy e=>ok.has y.1 (free y hy e)
  have kinds:∀ y,((relabel sc X.env).names.lookup y=some .cell∨(relabel sc X.env).names.lookup y=some .free)→(y,NameKind.free)∈sc.names:=fun y hy=>by
    rcases hy with hy | hy
    · rcases relabel_kind hy with z | ⟨_,z⟩
      · exact absurd rfl (h3 (y,.cell) (lookup_mem' z))
      · exact lookup_mem' z
    · rcases relabel_kind hy with z | ⟨z,_⟩
      · exact lookup_mem' z
      · cases z
  refine ⟨clos_of cells,h1,fun y hy=>h3 y hy,fun y hy e=>?_,h5,fun y c e=>?_,fun y hy=>csOf_has _ _ y (.inr (kinds y hy)),fun y hy v=>?_,fun z=>?_,hl,hsm⟩
  · rcases h4 y hy with z | z
    · exact absurd e z
    · exact z
  · rcases csOf_go _ _ y c cells e with q | q
    · cases q
    · exact q
  · rcases v with v | v
    · exfalso
      rcases relabel_kind v with z | ⟨z,_⟩
      · exact h7 y hy z
      · cases z
    · exact ⟨v,free _ (kinds y v) rfl⟩
  · rw [List.contains_iff_mem.mpr z] at h8;cases h8
section
variable {P:Program}{w:World}{K:PySem.W.Frag}{mg:Str→Option Value}{base:Heap}{cl:Nat→Addr}
theorem mcomp {N:List Str}{qual:Str}{scope:Scope}{f:Addr}{cd:Value}{A:Around}{outer:List Env}{s:Shared}{H:Hp}{E:XK}{elt iter:Expr}{x:Str}{px pos:Pos}{sc:Scope}{ifs:List Expr}{fa:FA}{t:FT}{g:FE}{n:Nat}
    (hnd:N.Nodup) (hcap:capB N x sc scope=true) (hn:N.length=n) (hi:MI (cxM P w K mg base cl N qual scope f cd A outer s H E) cl (.Name x px) iter fa)
    (ht:∀ C s' H' fp,MC (cxB (cxM P w K mg base cl N qual scope f cd A outer s H E) N x sc (csOf sc (cxM P w K mg base cl N qual scope f cd A outer s H E).env) C s' H' fp) cl ifs t)
    (hb:∀ C s' H' fp,ME (cxB (cxM P w K mg base cl N qual scope f cd A outer s H E) N x sc (csOf sc (cxM P w K mg base cl N qual scope f cd A outer s H E).env) C s' H' fp) cl elt g)
    (hfs:∀ y,foldedSetIterable iter (cxM P w K mg base cl N qual scope f cd A outer s H E).env y=pure y:=by intro _;rfl) :
    ME (cxM P w K mg base cl N qual scope f cd A outer s H E) cl (.ListComp elt [⟨.Name x px,iter,ifs,0⟩] sc pos) (fComp n fa t g):=by
  refine me_comp rfl (fun ok=>cap_of hcap rfl (fun _ _ h _=>h) ok) hn ?_ hi ht hb hfs
  show (N ++ [x]).Nodup
  have hx:x ∉ N:=fun z=>by
    unfold capB at hcap
    have:=(Bool.and_eq_true_iff.mp hcap).2
    rw [List.contains_iff_mem.mpr z] at this;cases this
  exact List.nodup_append.mpr ⟨hnd,List.nodup_cons.mpr ⟨List.not_mem_nil,List.nodup_nil⟩,fun a ha b hb e=>hx (by
    rw [List.mem_singleton] at hb;rw [← hb,← e];exact ha)⟩
theorem msC {N:List Str}{qual:Str}{scope:Scope}{f:Addr}{cd:Value}{A:Around}{outer:List Env}{s:Shared}{H:Hp}{E:XK}{i:Nat}{y:Str}{py spos:Pos}{elt iter:Expr}{x:Str}{px pos:Pos}{sc:Scope}{ifs:List Expr}{fa:FA}{t:FT}{g:FE}{n:Nat}
    (hnd:N.Nodup) (hy:N[i]?=some y) (hl:Loc scope y) (hcap:capB N x sc scope=true) (hn:N.length=n) (hi:MI (cxM P w K mg base cl N qual scope f cd A outer s H E) cl (.Name x px) iter fa)
    (ht:∀ C s' H' fp,MC (cxB (cxM P w K mg base cl N qual scope f cd A outer s H E) N x sc (csOf sc (cxM P w K mg base cl N qual scope f cd A outer s H E).env) C s' H' fp) cl ifs t)
    (hb:∀ C s' H' fp,ME (cxB (cxM P w K mg base cl N qual scope f cd A outer s H E) N x sc (csOf sc (cxM P w K mg base cl N qual scope f cd A outer s H E).env) C s' H' fp) cl elt g)
    (hfs:∀ y,foldedSetIterable iter (cxM P w K mg base cl N qual scope f cd A outer s H E).env y=pure y:=by intro _;rfl)
    (hsw:swapsWith (.ListComp elt [⟨.Name x px,iter,ifs,0⟩] sc pos) (some (.Name y py)) spos.line (cxM P w K mg base cl N qual scope f cd A outer s H E).env=pure true:=by rfl) :
    MS (cxM P w K mg base cl N qual scope f cd A outer s H E) cl (.Assign [.Name y py] (.ListComp elt [⟨.Name x px,iter,ifs,0⟩] sc pos) spos) (sSet i (fComp n fa t g)):=by
  refine ms_setC hnd hy hl rfl (fun ok=>cap_of hcap rfl (fun _ _ h _=>h) ok) hn ?_ hi ht hb hfs hsw (.inl rfl)
  show (N ++ [x]).Nodup
  have hx:x ∉ N:=fun z=>by
    unfold capB at hcap
    have:=(Bool.and_eq_true_iff.mp hcap).2
    rw [List.contains_iff_mem.mpr z] at this;cases this
  exact List.nodup_append.mpr ⟨hnd,List.nodup_cons.mpr ⟨List.not_mem_nil,List.nodup_nil⟩,fun a ha b hb e=>hx (by
    rw [List.mem_singleton] at hb;rw [← hb,← e];exact ha)⟩
end
noncomputable def noX (F:List PV→R PV):List PV→R PV:=fun vs=>match F vs with
  | .ok v=>.ok v
  | _=>.stuck
section
variable {X:Cx}{cl:Nat→Addr}
theorem mcN {e:Expr}{es:List Expr}{g:FA}{x:Str}{p pos:Pos}{k k' n:Nat}{F:List PV→R PV} (hF:FG X.prog X.w X.K X.mg X.base cl k x n F) (hr:Room k' X.A) (ha:MA X cl (e::es) g) (hk:k≤k':=by decide) (hl:(e::es).length=n:=by rfl) (hg:Gl X x:=by rfl)
    (hdb:(x == ("__debug__" : Str))=false:=by decide) (he:starEach (e::es) X.env=(false,eval e X.env)::starEach es X.env:=by rfl) (hpl:(backTo pos (starEach es X.env)).any (·.1)=false:=by rfl) :
    ME X cl (.Call (.Name x p) (e::es) [] pos) (fCall (noX F) g):=by
  obtain ⟨f,fd,ps,hm,hkp,hn,hf,hb⟩:=hF.ex
  refine ⟨?_⟩
  intro pins s σ Hf0 H0 Hf H ρ I r hs
  unfold fCall at hs ⊢
  refine wpAny_Call_Name_kw (ld_glob I hg hm ?_ hdb)
  refine PySem.W.callWith_K (h₀:=X.base) I.ok.mod.kin hkp (ha.run pos I r (Ext.refl r.sub) hs fun qs vs us s1 Hf1 H1 hq e1 I1 rv x1 rps=>⟨I1.kIn,?_⟩) he hpl
  rw [e1] at hs ⊢
  obtain ⟨v0,ev0⟩:∃ v,F qs = .ok v:=by
    unfold noX at hs
    cases ef:F qs with
    | ok v=>exact ⟨v,rfl⟩
    | exc c=>rw [ef] at hs;exact absurd rfl hs
    | stuck=>rw [ef] at hs;exact absurd rfl hs
  have en:noX F qs = .ok v0:=by unfold noX;rw [ev0]
  rw [en]
  have hv:vs.length=n:=by rw [rps.length,hq,hl]
  have hsp:spF X.K cl n F vs H1 (fun v H'=>∃ p Hf',F qs = .ok p∧Ext Hf1 H1 Hf' H'∧Rp X.K cl Hf' v p) (fun u o H'=>False) :=
    ⟨hv,Hf1,qs,x1.sub,rps,(by rw [ev0];intro z;cases z),fun p v Hf' H' a b c=>⟨p,Hf',a,b,c⟩,fun c Hf' H' a b=>(by rw [ev0] at a;cases a)⟩
  have hlu:(us ++ []).length=ps.length:=by rw [List.append_nil,← rv.length,hv,hn]
  have hbb:=hb s1 us I1.kIn hlu
  rw [List.append_nil] at hbb
  refine wpAny_call (codeAny_mono (hf.run X.A X.stack s1 H1 ⟨us,[]⟩ us vs _ _ (hr.mono hk) I1.env0 hbb rv hsp) fun r s' hq'=>?_)
  cases r with
  | error e =>
    obtain ⟨a,c,H',B,a0,_,_,_,_,_,_,_,_,z⟩:=hq'
    exact z.elim
  | ok fl =>
    cases fl with
    | ret u =>
      obtain ⟨v,H',I',rv',p,Hf',e2,ex,rp⟩:=I1.after hq'
      rw [ev0] at e2;cases e2
      exact ⟨v0,v,Hf',H',rfl,I',rv',x1.trans ex,rp⟩
    | next=>exact False.elim hq'
    | brk=>exact False.elim hq'
    | cont=>exact False.elim hq'
end
noncomputable def boolsP:List PV→Option (List Bool)
  | []=>some []
  | .bl b::r=>(boolsP r).map (b::·)
  | _=>none
noncomputable def bAll:List PV→R PV
  | [.lst l]=>(match boolsP l with
    | some bs=>.ok (.bl (bs.all id))
    | none=>.stuck)
  | _=>.stuck
noncomputable def bAny:List PV→R PV
  | [.lst l]=>(match boolsP l with
    | some bs=>.ok (.bl (bs.any id))
    | none=>.stuck)
  | _=>.stuck
section
variable {X:Cx}{cl:Nat→Addr}{pins:List (Addr×Obj)}{s:Shared}{σ:SV}{Hf0 H0 Hf H Hf1 H1:Hp}{ρ:MEnv}{α:Type}
inductive BoolsV:List Value→List Bool→Prop
  | nil:BoolsV [] []
  | cons (b:Bool) {vs:List Value}{bs:List Bool}:BoolsV vs bs→BoolsV (.bool b::vs) (b::bs)
theorem BoolsV.get:∀ {vs:List Value}{bs:List Bool},BoolsV vs bs→∀ (i:Nat) (v:Value),vs[i]?=some v→∃ b,bs[i]?=some b∧v = .bool b:=by
  intro vs bs h
  induction h with
  | nil=>intro i v e;simp at e
  | cons b _ ih =>
    intro i v e
    cases i with
    | zero=>simp at e;subst e;exact ⟨b,rfl,rfl⟩
    | succ i=>simpa using ih i v (by simpa using e)
theorem BoolsV.len:∀ {vs:List Value}{bs:List Bool},BoolsV vs bs→vs.length=bs.length:=by
  intro vs bs h
  induction h with
  | nil=>rfl
  | cons b _ ih=>simp [ih]
theorem bools_vals:∀ {l:List PV}{bs:List Bool}{vs:List V}{us:List Value},boolsP l=some bs→Rps X.K cl Hf vs l→Vals vs us→BoolsV us bs
  | [],bs,vs,us,h,r,w=>by
    cases r;cases w
    cases h
    exact .nil
  | p::l,bs,vs,us,h,r,w=>by
    cases r with
    | cons r1 r2 =>
      cases w with
      | cons w1 w2 =>
        cases p<;>first | (simp [boolsP] at h;done) | skip
        rename_i z
        cases r1
        cases w1
        simp only [boolsP,Option.map_eq_some_iff] at h
        obtain ⟨ts',h1,rfl⟩:=h
        exact .cons _ (bools_vals h1 r2 w2)
theorem rng_all (bs:List Bool):((List.range bs.length).all fun i=>(bs[i]?).getD true)=bs.all id:=by
  rw [Bool.eq_iff_iff,List.all_eq_true,List.all_eq_true]
  constructor
  · intro h b hb
    obtain ⟨i,hi,e⟩:=List.getElem_of_mem hb
    have:=h i (List.mem_range.mpr hi)
    simp only [List.getElem?_eq_getElem hi,Option.getD_some,e] at this
    exact this
  · intro h i hi
    have hi':=List.mem_range.mp hi
    simp only [List.getElem?_eq_getElem hi',Option.getD_some]
    exact h _ (List.getElem_mem hi')
theorem rng_any (bs:List Bool):((List.range bs.length).any fun i=>(bs[i]?).getD false)=bs.any id:=by
  rw [Bool.eq_iff_iff,List.any_eq_true,List.any_eq_true]
  constructor
  · rintro ⟨i,hi,e⟩
    have hi':=List.mem_range.mp hi
    simp only [List.getElem?_eq_getElem hi',Option.getD_some] at e
    exact ⟨_,List.getElem_mem hi',e⟩
  · rintro ⟨b,hb,e⟩
    obtain ⟨i,hi,rfl⟩:=List.getElem_of_mem hb
    exact ⟨i,List.mem_range.mpr hi,by simp only [List.getElem?_eq_getElem hi,Option.getD_some];exact e⟩
theorem kept_it {h':Heap}{s:Shared}{o:Obj} (hk:∀ b x,b ∉ [s.heap.objs.size]→(s.heap.push o).get? b=some x→h'.get? b=some x):∀ b x,s.heap.get? b=some x→h'.get? b=some x :=
  fun b x e=>hk b x (fun hm=>by rw [List.mem_singleton.mp hm] at e;exact Nat.lt_irrefl _ (Heap.lt_size e)) (Heap.get?_push_of_some _ e)
theorem bAll_ns {ps:List PV} (hs:bAll ps≠.stuck):∃ l bs,ps=[.lst l]∧boolsP l=some bs∧bAll ps = .ok (.bl (bs.all id)):=by
  unfold bAll at hs ⊢
  split at hs
  · next l =>
    split at hs
    · next bs e=>exact ⟨l,bs,rfl,e,by simp only [e]⟩
    · exact absurd rfl hs
  · exact absurd rfl hs
theorem bAny_ns {ps:List PV} (hs:bAny ps≠.stuck):∃ l bs,ps=[.lst l]∧boolsP l=some bs∧bAny ps = .ok (.bl (bs.any id)):=by
  unfold bAny at hs ⊢
  split at hs
  · next l =>
    split at hs
    · next bs e=>exact ⟨l,bs,rfl,e,by simp only [e]⟩
    · exact absurd rfl hs
  · exact absurd rfl hs
theorem c_all (hc:X.calm=true):CalR X cl (.builtin "all") bAll:=by
  intro pins s σ Hf H xs us ps I sm rv rps hs
  obtain ⟨l,bs,rfl,e1,e2⟩:=bAll_ns hs
  rw [e2]
  obtain ⟨v,rfl,rp⟩:=rps1' rps
  cases rp with
  | lst h r =>
    obtain ⟨u,rfl,ru⟩:=rv.one
    cases ru
    obtain ⟨its,wl,pl,z⟩:=I.list (sm.seq h)
    have hb:=bools_vals e1 r wl
    have hl:=pl.isList
    have hlt:=(by obtain ⟨_,e,_⟩:=hl;exact Heap.lt_size e:_<s.heap.objs.size)
    refine call_all_walk (wpAny_pyIter_list hl ?_)
    refine ⟨s.heap.objs.size,[s.heap.objs.size,_],[s.heap.objs.size],its.toArray.size,_,_,fun i=>(bs[i]?).getD true,rfl,Walks.list (A:=X.A.in1) (I.ok.hd hc) _ _ (Nat.ne_of_lt hlt) its.toArray,
      ⟨⟨_,Heap.get?_push_size _ rfl,rfl,rfl⟩,hl.push _⟩,fun i v s' Q' E' hP hQ=>?_,fun h' tk hk=>?_⟩
    · obtain ⟨b,e,rfl⟩:=hb.get i v (by simpa using hP)
      simp only [e,Option.getD_some] at hQ
      exact wpAny_truthy_bool hQ
    · have e:((List.range its.toArray.size).all fun i=>(bs[i]?).getD true)=bs.all id:=by
        rw [List.size_toArray,hb.len];exact rng_all bs
      rw [e]
      exact ⟨_,.bl _,Hf,H,rfl,I.kept (kept_it hk),rfl,Ext.refl sm,.bl _⟩
theorem c_any (hc:X.calm=true):CalR X cl (.builtin "any") bAny:=by
  intro pins s σ Hf H xs us ps I sm rv rps hs
  obtain ⟨l,bs,rfl,e1,e2⟩:=bAny_ns hs
  rw [e2]
  obtain ⟨v,rfl,rp⟩:=rps1' rps
  cases rp with
  | lst h r =>
    obtain ⟨u,rfl,ru⟩:=rv.one
    cases ru
    obtain ⟨its,wl,pl,z⟩:=I.list (sm.seq h)
    have hb:=bools_vals e1 r wl
    have hl:=pl.isList
    have hlt:=(by obtain ⟨_,e,_⟩:=hl;exact Heap.lt_size e:_<s.heap.objs.size)
    refine call_any_walk (wpAny_pyIter_list hl ?_)
    refine ⟨s.heap.objs.size,[s.heap.objs.size,_],[s.heap.objs.size],its.toArray.size,_,_,fun i=>(bs[i]?).getD false,rfl,Walks.list (A:=X.A.in1) (I.ok.hd hc) _ _ (Nat.ne_of_lt hlt) its.toArray,
      ⟨⟨_,Heap.get?_push_size _ rfl,rfl,rfl⟩,hl.push _⟩,fun i v s' Q' E' hP hQ=>?_,fun h' tk hk=>?_⟩
    · obtain ⟨b,e,rfl⟩:=hb.get i v (by simpa using hP)
      simp only [e,Option.getD_some] at hQ
      exact wpAny_truthy_bool hQ
    · have e:((List.range its.toArray.size).any fun i=>(bs[i]?).getD false)=bs.any id:=by
        rw [List.size_toArray,hb.len];exact rng_any bs
      rw [e]
      exact ⟨_,.bl _,Hf,H,rfl,I.kept (kept_it hk),rfl,Ext.refl sm,.bl _⟩
end
noncomputable def intsP:List PV→Option (List Int)
  | []=>some []
  | .int b::r=>(intsP r).map (b::·)
  | _=>none
section
variable {X:Cx}{cl:Nat→Addr}{pins:List (Addr×Obj)}{s:Shared}{σ:SV}{Hf0 H0 Hf H Hf1 H1:Hp}{ρ:MEnv}{α:Type}
theorem ints_vals:∀ {l:List PV}{bs:List Int}{vs:List V}{us:List Value},intsP l=some bs→Rps X.K cl Hf vs l→Vals vs us→IntsAre us bs
  | [],bs,vs,us,h,r,w=>by
    cases r;cases w
    cases h
    exact .nil
  | p::l,bs,vs,us,h,r,w=>by
    cases r with
    | cons r1 r2 =>
      cases w with
      | cons w1 w2 =>
        cases p<;>first | (simp [intsP] at h;done) | skip
        cases r1
        obtain ⟨t,rfl⟩:=w1
        simp only [intsP,Option.map_eq_some_iff] at h
        obtain ⟨ts',h1,rfl⟩:=h
        exact .cons _ _ (ints_vals h1 r2 w2)
end
noncomputable def sumL:List Int→Int
  | []=>0
  | x::r=>x+sumL r
noncomputable def bSum:List PV→R PV
  | [.lst l]=>(match intsP l with
    | some ns=>.ok (.int (sumL ns))
    | none=>.stuck)
  | _=>.stuck
section
variable {X:Cx}{cl:Nat→Addr}{pins:List (Addr×Obj)}{s:Shared}{σ:SV}{Hf0 H0 Hf H Hf1 H1:Hp}{ρ:MEnv}{α:Type}
theorem bSum_ns {ps:List PV} (hs:bSum ps≠.stuck):∃ l ns,ps=[.lst l]∧intsP l=some ns∧bSum ps = .ok (.int (sumL ns)):=by
  unfold bSum at hs ⊢
  split at hs
  · next l =>
    split at hs
    · next ns e=>exact ⟨l,ns,rfl,e,by simp only [e]⟩
    · exact absurd rfl hs
  · exact absurd rfl hs
theorem sumL_sum:∀ ns:List Int,ns.sum=sumL ns
  | []=>rfl
  | x::r=>by rw [List.sum_cons,sumL_sum r];rfl
theorem c_sum (hc:X.calm=true):CalR X cl (.builtin "sum") bSum:=by
  intro pins s σ Hf H xs us ps I sm rv rps hs
  obtain ⟨l,ns,rfl,e1,e2⟩:=bSum_ns hs
  rw [e2]
  obtain ⟨v,rfl,rp⟩:=rps1' rps
  cases rp with
  | lst h rr =>
    obtain ⟨u,rfl,ru⟩:=rv.one
    cases ru
    obtain ⟨its,wl,pl,z⟩:=I.list (sm.seq h)
    have hi:=ints_vals e1 rr wl
    obtain ⟨xs,hx⟩:=hi.allInts.items
    have hl:=pl.isList
    rw [hx] at hl
    refine sum_intListG (I.ok.hd hc) hl fun h' tk t' hk=>?_
    have e3:ns=xs.toList.map (·.1):=by rw [← hi.numsOf,← nums_intItems,← hx]
    have e4:preSum (numAt xs) xs.size=sumL ns:=by rw [preSum_eq,List.take_of_length_le (by simp),← e3,sumL_sum]
    rw [e4]
    exact ⟨_,.int _,Hf,H,rfl,I.kept hk,⟨t',rfl⟩,Ext.refl sm,.int _⟩
noncomputable def Cx.at (X:Cx) (A:Around):Cx:={ X with A:=A,calm:=false }
theorem Inv.at {A:Around} (I:Inv X pins σ H s) (hf:A.frames=X.A.frames):Inv (Cx.at X A) pins σ H s :=
  ⟨⟨I.ok.mod,I.ok.kind,I.ok.glob,I.ok.blt,I.ok.above,I.ok.inj,I.ok.has,I.ok.cab,(fun z=>by cases z),hf.trans I.ok.frames,I.ok.stk,I.ok.exf,I.ok.bs,I.ok.bsz,I.ok.noex,I.ok.exfs,I.ok.funs,I.ok.frf⟩,I.os,I.bare,I.base,I.loc,I.cell,I.free,I.freeC,I.pin,I.hok,I.len⟩
theorem Inv.back {A:Around}{pins':List (Addr×Obj)}{σ':SV}{H':Hp}{s':Shared} (ok:X.Ok) (I:Inv (Cx.at X A) pins' σ' H' s'):Inv X pins' σ' H' s' :=
  ⟨ok,I.os,I.bare,I.base,I.loc,I.cell,I.free,I.freeC,I.pin,I.hok,I.len⟩
end
section
variable (X:Cx) (cl:Nat→Addr)
end
section
variable {X:Cx}{cl:Nat→Addr}
end
noncomputable def compLX (n:Nat) (t:FT) (f:FE) (ρ:MEnv):List PV→R (List PV)
  | []=>.ok []
  | p::r=>match t (padTo n ρ ++ [some p]) with
    | .ok true=>(match f (padTo n ρ ++ [some p]) with
      | .ok v=>(match compLX n t f ρ r with
        | .ok vs=>.ok (v::vs)
        | .exc c=>.exc c
        | .stuck=>.stuck)
      | .exc c=>.exc c
      | .stuck=>.stuck)
    | .ok false=>compLX n t f ρ r
    | _=>.stuck
noncomputable def compKX (n:Nat) (t:FT) (f:FE) (ρ:MEnv) (l:List PV):R PV:=if l.length≤1000000 then (match compLX n t f ρ l with
  | .ok vs=>.ok (.lst vs)
  | .exc c=>.exc c
  | .stuck=>.stuck) else .stuck
noncomputable def fCompX (n:Nat) (it:FA) (t:FT) (f:FE):FE:=fun ρ=>(it ρ).bind (compKX n t f ρ)
noncomputable def fCallX (F:List PV→R PV) (g:FA):FE:=fun ρ=>match g ρ with
  | .ok qs=>F qs
  | _=>.stuck
noncomputable def combX (qs:List PV):R (List PV)→R (List PV)
  | .ok rest=>.ok (qs ++ rest)
  | .exc c=>.exc c
  | .stuck=>.stuck
theorem combX_ns {qs:List PV}{T:R (List PV)} (h:combX qs T≠.stuck):T≠.stuck:=fun z=>h (by rw [z];rfl)
theorem combX_app (qs rs:List PV) (T:R (List PV)):combX qs (combX rs T)=combX (qs ++ rs) T:=by
  cases T with
  | ok r=>show R.ok (qs ++ (rs ++ r))=R.ok (qs ++ rs ++ r);rw [List.append_assoc]
  | exc c=>rfl
  | stuck=>rfl
theorem combX_nil (T:R (List PV)):combX [] T=T:=by cases T<;>rfl
theorem compLX_cons {n:Nat}{t:FT}{f:FE}{ρ:MEnv}{p:PV}{r:List PV} (h:compLX n t f ρ (p::r)≠.stuck) :
    (t (padTo n ρ ++ [some p]) = .ok false∧compLX n t f ρ (p::r)=compLX n t f ρ r)∨(t (padTo n ρ ++ [some p]) = .ok true∧∃ v,f (padTo n ρ ++ [some p]) = .ok v∧compLX n t f ρ (p::r)=combX [v] (compLX n t f ρ r)) ∨
      (t (padTo n ρ ++ [some p]) = .ok true∧∃ c,f (padTo n ρ ++ [some p]) = .exc c∧compLX n t f ρ (p::r) = .exc c):=by
  have e:compLX n t f ρ (p::r)=match t (padTo n ρ ++ [some p]) with
    | .ok true=>(match f (padTo n ρ ++ [some p]) with
      | .ok v=>(match compLX n t f ρ r with
        | .ok vs=>.ok (v::vs)
        | .exc c=>.exc c
        | .stuck=>.stuck)
      | .exc c=>.exc c
      | .stuck=>.stuck)
    | .ok false=>compLX n t f ρ r
    | _=>.stuck:=by rw [compLX]
  rw [e] at h ⊢
  cases ht:t (padTo n ρ ++ [some p]) with
  | stuck=>rw [ht] at h;exact absurd rfl h
  | exc c=>rw [ht] at h;exact absurd rfl h
  | ok b =>
    cases b with
    | false=>exact .inl ⟨rfl,rfl⟩
    | true =>
      rw [ht] at h
      cases hf:f (padTo n ρ ++ [some p]) with
      | stuck=>rw [hf] at h;exact absurd rfl h
      | exc c=>exact .inr (.inr ⟨rfl,c,rfl,rfl⟩)
      | ok v=>exact .inr (.inl ⟨rfl,v,rfl,by cases compLX n t f ρ r<;>rfl⟩)
theorem ff_less {h h' B B':Heap}:∀ {l:List Env},h.FunFrames B l→(∀ b,B.get? b=none→B'.get? b=none)→(∀ b∈frs l,h'.get? b=h.get? b)→h'.FunFrames B' l
  | [],_,_,_=>trivial
  | env::rest,⟨a,⟨L,o,e1,e2,e3,e4⟩,r⟩,k,g=>by
    have hm:L∈frs (env::rest):=by
      unfold frs
      rw [List.filterMap_cons,e1];exact List.mem_cons_self
    refine ⟨a,⟨L,o,e1,k L e2,(g L hm).trans e3,e4⟩,ff_less r k fun b hb=>g b ?_⟩
    unfold frs at hb ⊢
    rw [List.filterMap_cons,e1]
    exact List.mem_cons_of_mem _ hb
theorem tr_less {h h' B B':Heap}{e:Addr}{cls a0 fl:Value} (x:h.TracedAtW B e cls a0 fl) (k:∀ b,B.get? b=none→B'.get? b=none) (g:∀ b o,h.get? b=some o→(∃ vs,o.data = .fields vs)→h'.get? b=some o):h'.TracedAtW B' e cls a0 fl:=by
  obtain ⟨oe,vs,T,oT,ts,he,hc,hd,h1,hT,hne,gT,dT,h3⟩:=x
  exact ⟨oe,vs,T,oT,ts,g e oe he ⟨_,hd⟩,hc,hd,h1,k T hT,hne,g T oT gT ⟨_,dT⟩,dT,h3⟩
theorem hide1_none {B:Heap}{C b:Addr} (h:B.get? b=none):(PySem.W.hideAll B [C]).get? b=none:=by
  cases q:(PySem.W.hideAll B [C]).get? b with
  | none=>rfl
  | some o=>have:=PySem.W.of_hideAll _ q;rw [h] at this;cases this
theorem held_hide {h B:Heap}{C e L:Addr}{l:List Env}{cls a0:Value} (x:Heap.HeldW B l e cls a0 L h):Heap.HeldW (PySem.W.hideAll B [C]) l e cls a0 L h:=by
  obtain ⟨a,b,c,d⟩:=x
  exact ⟨fun b o q=>a b o (PySem.W.of_hideAll _ q),hide1_none b,ff_less c (fun _ q=>hide1_none q) fun _ _=>rfl,tr_less d (fun _ q=>hide1_none q) fun _ _ q _=>q⟩
theorem held_go {h h' B:Heap}{C e L:Addr}{l:List Env}{cls a0:Value}{m:Str→Option Value} (x:Heap.HeldW B l e cls a0 L h) (hB:B.get? C=none) (hl:C ∉ frs l) (hn:h.Ns C m) (hs:Heap.SameBut C h h'):Heap.HeldW B l e cls a0 L h':=by
  obtain ⟨a,b,c,d⟩:=x
  refine ⟨fun b o q=>?_,b,ff_less c (fun _ q=>q) fun b hb=>hs.2 b fun z=>hl (by rw [← z];exact hb),tr_less d (fun _ q=>q) fun b o q ⟨vs,hv⟩=>?_⟩
  · have hb:b≠C:=fun z=>by rw [z,hB] at q;cases q
    rw [hs.2 b hb];exact a b o q
  · have hb:b≠C:=fun z=>by
      obtain ⟨o',es,ep,ho,hd,_⟩:=hn
      rw [z,ho] at q;cases q
      rw [hd] at hv;cases hv
    rw [hs.2 b hb];exact q
section
variable (X:Cx) (cl:Nat→Addr)
def FlyX (pins:List (Addr×Obj)) (σ:SV) (Hf H:Hp) (r:R PV) (u:Value) (s:Shared):Prop :=
  ∃ (c:Nat) (a:Addr) (Hf' H':Hp) (B:Heap) (a0:Value),r = .exc c∧u = .ref a∧Inv X pins σ H' s∧Ext Hf H Hf' H'∧Cov X pins H' B s.heap∧NoD a s.heap∧Heap.FlyingW B X.stack a (.ref (cl c)) a0 s.heap
structure MEX (e:Expr) (f:FE):Prop where
  run:∀ (pins:List (Addr×Obj)) (s:Shared) (σ:SV) (Hf0 H0 Hf H:Hp) (ρ:MEnv),Inv X pins σ H s→Rep X.K cl Hf0 H0 Hf H σ ρ→f ρ≠.stuck→(∀ b∈X.ex,∃ p∈pins,p.1=b) →
    wpAny (model X.prog X.w) X.A (eval e X.env) (OkP X cl pins σ Hf H (f ρ)) (FlyX X cl pins σ Hf H (f ρ)) s
end
section
variable {X:Cx}{cl:Nat→Addr}
theorem mcX {e:Expr}{es:List Expr}{g:FA}{x:Str}{p pos:Pos}{k k' n:Nat}{F:List PV→R PV} (hF:FG X.prog X.w X.K X.mg X.base cl k x n F) (hr:Room k' X.A) (inj:∀ c d,cl c=cl d→c=d) (ha:MA X cl (e::es) g) (hk:k≤k':=by decide) (hl:(e::es).length=n:=by rfl) (hg:Gl X x:=by rfl)
    (hdb:(x == ("__debug__" : Str))=false:=by decide) (he:starEach (e::es) X.env=(false,eval e X.env)::starEach es X.env:=by rfl) (hpl:(backTo pos (starEach es X.env)).any (·.1)=false:=by rfl) :
    MEX X cl (.Call (.Name x p) (e::es) [] pos) (fCallX F g):=by
  obtain ⟨f,fd,ps,hm,hkp,hn,hf,hb⟩:=hF.ex
  refine ⟨?_⟩
  intro pins s σ Hf0 H0 Hf H ρ I r hs hex
  obtain ⟨qs,eg,ef⟩:∃ qs,g ρ = .ok qs∧fCallX F g ρ=F qs:=by
    unfold fCallX at hs ⊢
    cases q:g ρ with
    | ok qs=>exact ⟨qs,rfl,rfl⟩
    | exc c=>rw [q] at hs;exact absurd rfl hs
    | stuck=>rw [q] at hs;exact absurd rfl hs
  rw [ef] at hs ⊢
  refine wpAny_Call_Name_kw (ld_glob I hg hm ?_ hdb)
  refine PySem.W.callWith_K (h₀:=X.base) I.ok.mod.kin hkp (wpAny_mono (ha.run' pos pins s σ Hf0 H0 Hf H ρ I r (by rw [eg];intro z;cases z)) (fun us s1 q1=>?_) fun u s1 q1=>?_) he hpl
  rotate_left
  · obtain ⟨c,e1,_⟩:=q1
    rw [eg] at e1;cases e1
  obtain ⟨ps1,vs,Hf1,H1,e1,I1,rv,x1,rps⟩:=q1
  rw [eg] at e1;cases e1
  refine ⟨I1.kIn,?_⟩
  have hq:=ha.len ρ qs eg
  have hv:vs.length=n:=by rw [rps.length,hq,hl]
  have hsp:spF X.K cl n F vs H1 (fun v H'=>∃ p Hf',F qs = .ok p∧Ext Hf1 H1 Hf' H'∧Rp X.K cl Hf' v p) (fun u o H'=>∃ c Hf',F qs = .exc c∧Ext Hf1 H1 Hf' H'∧u = .ref (cl c)) :=
    ⟨hv,Hf1,qs,x1.sub,rps,hs,fun p v Hf' H' a b c=>⟨p,Hf',a,b,c⟩,fun c Hf' H' a b=>⟨c,Hf',a,b,rfl⟩⟩
  have hlu:(us ++ []).length=ps.length:=by rw [List.append_nil,← rv.length,hv,hn]
  have hbb:=hb s1 us I1.kIn hlu
  rw [List.append_nil] at hbb
  refine wpAny_call (codeAny_mono (hf.run X.A X.stack s1 H1 ⟨us,[]⟩ us vs _ _ (hr.mono hk) I1.env0 hbb rv hsp) fun r s' hq'=>?_)
  cases r with
  | error e =>
    obtain ⟨a,c,H',B,a0,rfl,ho,hgg,un,hok,fl,cov,nd,c',Hf',e1,ex,e2⟩:=hq'
    have ec:c'=c:=inj _ _ (by injection e2 with e2;exact e2.symm)
    subst ec
    refine ⟨c',a,Hf',H',B,a0,e1,rfl,I1.call' ho un hok hgg (fun b z=>absurd z (by simp)),x1.trans ex,?_,nd,fl⟩
    intro b o hb hc hn
    refine cov b o hb ?_ hn
    rcases hc with hc | ⟨p,hp,e⟩ | ⟨o₀,hc⟩ | ⟨x,hc⟩
    · exact .inl hc
    · right
      rw [← e]
      exact ⟨_,(I1.pin p hp).1⟩
    · right
      by_cases hx:b∈X.ex
      · obtain ⟨p,hp,e⟩:=hex b hx
        rw [← e]
        exact ⟨_,(I1.pin p (List.mem_append_right _ hp)).1⟩
      · exact I1.base.there b o₀ hc hx
    · right
      obtain ⟨v,o',q,_⟩:=I1.cell x b hc
      exact ⟨o',q⟩
  | ok fl =>
    cases fl with
    | ret u =>
      obtain ⟨v,H',I',rv',p,Hf',e2,ex,rp⟩:=I1.after hq'
      exact ⟨p,v,Hf',H',e2,I',rv',x1.trans ex,rp⟩
    | next=>exact False.elim hq'
    | brk=>exact False.elim hq'
    | cont=>exact False.elim hq'
end
section
variable {M:Model}{A:Around}{E:Value→Shared→Prop}{s:Shared}{env:Env}
def postX (M:Model) (A:Around) (E:Value→Shared→Prop) (Q:Value→Shared→Prop) (acc:Value) (cenv:Env) (r:Result) (s':Shared):Prop :=
  match r with
  | .ok _=>∃ m,s'.heap.Ns cenv.locals m∧∀ h',Heap.SameBut cenv.locals s'.heap h'→Q acc { s' with heap:=h' }
  | .error x=>∃ m,s'.heap.Ns cenv.locals m∧∀ h',Heap.SameBut cenv.locals s'.heap h'→wpAny M A (PySem.passOn "comprehension.variables-let-go" x cenv:Sem Value) Q E { s' with heap:=h' }
theorem comp_freeX {e:Expr}{scope:Scope}{pos:Pos}{newAcc first:Sem Value}{g:Comprehension}{gs:List Comprehension}{cl:List (Str×Addr)}{Q:Value→Shared→Prop}
    (hcl:clausesOf e=g::gs) (hs:∀ x,foldedSetIterable g.iter env x=pure x) (hclos:closureFor scope env=pure cl)
    (hkind:scope.kind = .function) (hnames:∀ x∈scope.names,x.2 = .local→scope.names.lookup x.1=some .local)
    (h:wpAny M A first (fun x s₁=>wpAny M A (pyIter x) (fun it s₂=>wpAny M A newAcc (fun acc s₃ =>
      wpAny M A (newFunctionEnv scope env.globals cl [] env.qual none .none (some env)) (fun cenv s₄ =>
        codeAny M A (.compStart e 0 it acc { cenv with scope:=relabel scope env }) (postX M A E Q acc { cenv with scope:=relabel scope env }) s₄) E s₃) E s₂) E s₁) E s) :
    wpAny M A (comprehension e scope env pos newAcc false first none) Q E s:=by
  unfold comprehension
  rw [hclos,hcl]
  refine wpAny_bind (wpAny_mono h (fun x s₁ h₁=>wpAny_bind (wpAny_standAt (wpAny_bind (wpAny_of_eq (hs x) (wpAny_bind (wpAny_holding (wpAny_mono h₁ (fun it s₂ h₂ =>
    wpAny_standIf (wpAny_bind (wpAny_mono h₂ (fun acc s₃ h₃=>wpAny_bind (wpAny_pure (wpAny_bind (wpAny_mono h₃ (fun cenv s₄ h₄=>?_) fun _ _ h'=>h')))) fun _ _ h'=>h')))
      fun _ _ h'=>h'))))))) fun _ _ h'=>h')
  dsimp only
  have hv:∀ x∈(scope.names.filter fun x=>(x.2 == .local || x.2 == .cell) && x.1 != (".0" : Str)).reverse,x.2 = .local →
      Env.kindOf { cenv with scope:=relabel scope env } x.1=some .local:=fun x hx hl=>lookup_relabel_local (hnames x (List.mem_filter.mp (List.mem_reverse.mp hx)).1 hl)
  refine wpAny_holding (wpAny_bind (wpAny_attempt (wpAny_holding (wpAny_run (codeAny_mono h₄ fun r s' hr=>?_)))))
  cases r with
  | ok f =>
    obtain ⟨m,hn,hr⟩:=hr
    exact wpAny_bind (wpAny_holding (wpAny_comp_letGo (cenv:={ cenv with scope:=relabel scope env }) hkind _ s' m hv hn fun h' m' _ hs'=>wpAny_pure (hr h' hs')))
  | error x =>
    obtain ⟨m,hn,hr⟩:=hr
    exact wpAny_bind (wpAny_holding (wpAny_comp_letGo (cenv:={ cenv with scope:=relabel scope env }) hkind _ s' m hv hn fun h' m' _ hs'=>hr h' hs'))
end
section
variable {prog:Program}{w:World}{A:Around}{R:Result→Shared→Prop}{s:Shared}
theorem compLoop_letX {elt target iter:Expr}{ifs:List Expr}{scope:Scope}{pos:Pos}{it acc:Value}{env:Env} (I:Nat→Shared→Prop)
    (turn:∀ n s,I n s→wpAny (model prog w) A (pyNext it) (fun r s₁=>match r with
      | none=>R (.ok .next) s₁
      | some v=>wpAny (model prog w) A (letOwnedTupleGo target it v) (fun _ s₁'=>wpAny (model prog w) A (assign target env v) (fun _ s₂ =>
          wpAny (model prog w) A (forIn ifs true fun c r=>if r=true then do let ok ← isTrue c env (eval c env);pure (ForInStep.yield ok) else pure (ForInStep.yield r)) (fun ok s₃ =>
            if ok=true then wpAny (model prog w) A (eval elt env) (fun x s₄ =>
              wpAny (model prog w) A (call (.builtin "list.append") [acc,x]) (fun _ s₅=>∃ m,m<n∧I m s₅) (fun _ _=>False) s₄) (notedBy (model prog w) A env fun x s'=>R (.error x) s') s₃
            else ∃ m,m<n∧I m s₃) (fun _ _=>False) s₂) (fun _ _=>False) s₁') (fun _ _=>False) s₁) (fun _ _=>False) s)
    (n:Nat) (h:I n s) :
    codeAny (model prog w) A (.compLoop (.ListComp elt [⟨target,iter,ifs,0⟩] scope pos) 0 it acc env) R s:=by
  refine codeAny_loop rfl I (fun n s hI=>?_) n h
  show wpAny _ A ((compTurn (.ListComp elt [⟨target,iter,ifs,0⟩] scope pos) 0 it acc env).onRaise (fun x=>do noteFrame x env;theTreesLotGoes x)) _ _ s
  refine wpAny_noted ?_
  rw [compTurn_list]
  refine wpAny_bind (wpAny_standAt (wpAny_bind (wpAny_mono (turn n s hI) (fun r s₁ h₁=>?_) fun _ _ h'=>h'.elim)))
  cases r with
  | none=>exact wpAny_pure h₁
  | some v =>
    refine wpAny_bind (wpAny_mono h₁ (fun _ s₁' h₁'=>?_) fun _ _ h'=>h'.elim)
    refine wpAny_bind (wpAny_mono h₁' (fun _ s₂ h₂=>wpAny_bind (wpAny_mono h₂ (fun ok s₃ h₃=>?_) fun _ _ h'=>h'.elim)) fun _ _ h'=>h'.elim)
    cases ok with
    | false=>exact wpAny_pure ⟨rfl,h₃⟩
    | true =>
      exact wpAny_bind (wpAny_bind (wpAny_mono h₃ (fun x s₄ h₄=>wpAny_bind (wpAny_mono h₄ (fun _ s₅ h₅=>wpAny_pure (wpAny_pure ⟨rfl,h₅⟩)) fun _ _ h'=>h'.elim)) fun _ _ h'=>h'))
end
section
variable {X:Cx}{cl:Nat→Addr}
theorem me_compX {elt iter:Expr}{Ns:List Str}{x:Str}{px pos:Pos}{sc:Scope}{cs:List (Str×Addr)}{ifs:List Expr}{fa:FA}{t:FT}{f:FE}{n:Nat} (W:Own X) (hc:X.calm=true) (c0:X.Ok→Cap X Ns x sc cs) (hn:X.N.length=n) (hnd:(Ns ++ [x]).Nodup) (hi:MI X cl (.Name x px) iter fa)
    (ht:∀ C s H fp,MC (cxB X Ns x sc cs C s H fp) cl ifs t) (hb:∀ C s H fp,MEX (cxB X Ns x sc cs C s H fp) cl elt f) (hfs:∀ y,foldedSetIterable iter X.env y=pure y:=by intro _;rfl) :
    ME X cl (.ListComp elt [⟨.Name x px,iter,ifs,0⟩] sc pos) (fCompX n fa t f):=by
  refine ⟨?_⟩
  intro pins s σ Hf0 H0 Hf H ρ I r hs
  rw [eval_ListComp]
  have c:=c0 I.ok
  have hfr:fa ρ≠.stuck:=fun z=>hs (by unfold fCompX;rw [z];rfl)
  have hE:∀ u s',ExP X cl pins σ Hf H (fa ρ) u s'→ExP X cl pins σ Hf H (fCompX n fa t f ρ) u s':=fun u s' ⟨d,e1,y⟩=>⟨d,by unfold fCompX;rw [e1];rfl,y⟩
  refine comp_freeX rfl hfs c.clos c.kind c.names (wpAny_mono (hi pins s σ Hf0 H0 Hf H ρ I r hfr) (fun xv s1 h1=>wpAny_mono h1 (fun itv s2 h2=>?_) hE) hE)
  obtain ⟨ps,vs,Hf2,e1,it,fp,tn,J,H2,e,I2,T,st2,f2,x2,ov,rps⟩:=h2
  subst e
  have ef:fCompX n fa t f ρ=compKX n t f ρ ps:=by unfold fCompX;rw [e1];rfl
  have hs':compKX n t f ρ ps≠.stuck:=by rw [← ef];exact hs
  have hz:ps.length≤1000000:=by
    apply Decidable.byContradiction
    intro z
    unfold compKX at hs'
    rw [if_neg z] at hs';exact absurd rfl hs'
  have ek:compKX n t f ρ ps=match compLX n t f ρ ps with
    | .ok vs=>.ok (.lst vs)
    | .exc c=>.exc c
    | .stuck=>.stuck:=by unfold compKX;rw [if_pos hz]
  have hL:compLX n t f ρ ps≠.stuck:=fun z=>hs' (by rw [ek,z])
  generalize hres:fCompX n fa t f ρ=res at *
  have nsm:H2 s2.heap.objs.size=none:=I2.hok.fresh (Nat.le_refl _)
  have fpl:∀ b∈fp,b<s2.heap.objs.size:=fun b hb=>by
    obtain ⟨o,ho,_⟩:=T.obj _ _ st2 b hb
    exact Heap.lt_size ho
  refine wpAny_newList ?_
  have k3:∀ b u,s2.heap.get? b=some u→(s2.heap.push { cls:=.type "list",data:=.seq ([]:List Value).toArray }).get? b=some u:=fun b u q=>Heap.get?_push_of_some _ q
  have I3:Inv X pins σ (upd H2 s2.heap.objs.size (.lst [])) { s2 with heap:=s2.heap.push { cls:=.type "list",data:=.seq ([]:List Value).toArray } } :=
    I2.laid (a:=s2.heap.objs.size) (o:=.lst []) (t':=s2.toks) k3 (Nat.le_refl _) ⟨Nat.zero_le _,[],0,.nil,Heap.get?_push_size _ rfl⟩
  generalize hl:s2.heap.objs.size=l at *
  have hf3:∀ b∈fp,FpOk X pins (upd H2 l (.lst [])) b:=fun b hb=>⟨by rw [upd_ne (Nat.ne_of_lt (fpl b hb))];exact (f2 b hb).1,(f2 b hb).2⟩
  generalize hs3:({ s2 with heap:=s2.heap.push { cls:=.type "list",data:=.seq ([]:List Value).toArray } }:Shared)=s3 at I3 ⊢
  have hl3:∀ b∈fp,b<s3.heap.objs.size:=fun b hb=>by
    rw [← hs3]
    show b<(s2.heap.push _).objs.size
    rw [Heap.size_push,hl];exact Nat.lt_succ_of_lt (fpl b hb)
  have st3:tn 0 s3.heap:=T.keep _ _ _ st2 fun b _ o e=>by rw [← hs3];exact k3 b o e
  refine wpAny_newFunctionEnv c.nocell (by intro y hy;simp at hy) (fun h1 hn1 hsb=>?_) c.kind
  have kC:∀ b o,s3.heap.get? b=some o→h1.get? b=some o:=fun b o e=>hsb.extBut b o (Nat.ne_of_lt (Heap.lt_size e)) (Heap.get?_push_of_some _ e)
  have IB:=cxB_inv (tk:=s3.toks+([]:List (Str×Value)).length) I3 c hf3 hl3 hn1 kC
  have x3:Ext Hf2 H2 Hf2 (upd H2 l (.lst [])):=Ext.newH x2.sub nsm (.lst [])
  have hf2l:Hf2 l=none:=x2.sub.free nsm
  have stB:tn 0 h1:=T.keep _ _ _ st3 fun b _ o e=>kC b o e
  have rk:=r.keep x2
  have hsl:σ.length=n:=by rw [I.len,hn]
  have hvp:=rps.length
  have hNn:Ns.length=n:=c.len.trans hn
  have hNi:(Ns ++ [x])[n]?=some x:=by rw [List.getElem?_append_right (by omega),hNn];simp
  have hLx:(relabel sc X.env).names.lookup x=some .local:=lookup_relabel_local c.here
  have hCf:∀ b∈fp,b≠s3.heap.objs.size:=fun b hb=>Nat.ne_of_lt (hl3 b hb)
  have stat:∀ {H':Hp},(∀ b∈fp,H' b=none)→∀ b∈fp,FpOk (cxB X Ns x sc cs s3.heap.objs.size s3 (upd H2 l (.lst [])) fp) [] H' b:=fun hn'=>cxB_fp c I3 hCf hf3 hn'
  have hbb:=hb s3.heap.objs.size s3 (upd H2 l (.lst [])) fp
  have htt:=ht s3.heap.objs.size s3 (upd H2 l (.lst [])) fp
  have loop:codeAny (model X.prog X.w) X.A (.compLoop (.ListComp elt [⟨.Name x px,iter,ifs,0⟩] sc pos) 0 (.ref it) (.ref l) (compEnvC sc cs s3.heap.objs.size X.env))
      (postX (model X.prog X.w) X.A (ExP X cl pins σ Hf H res) (OkP X cl pins σ Hf H res) (.ref l) (compEnvC sc cs s3.heap.objs.size X.env)) { s3 with heap:=h1,toks:=s3.toks+([]:List (Str×Value)).length }:=by
    refine compLoop_letX (fun m s'=>∃ (k:Nat) (ys:List V) (qs:List PV) (Hf' H':Hp) (v:Option V),Inv (cxB X Ns x sc cs s3.heap.objs.size s3 (upd H2 l (.lst [])) fp) [] (σ ++ [v]) H' s'∧tn k s'.heap∧(∀ b∈fp,H' b=none)∧Ext Hf2 H2 Hf' H'∧H' l=some (.lst ys)∧Hf' l=none ∧
      Rps X.K cl Hf' ys qs∧m=ps.length - k∧k≤ps.length∧qs.length≤k∧combX qs (compLX n t f ρ (ps.drop k))=compLX n t f ρ ps) ?_ ps.length
      ⟨0,[],[],Hf2,upd H2 l (.lst []),none,IB,stB,fun b hb=>(hf3 b hb).1,x3,upd_same,hf2l,.nil,by omega,Nat.zero_le _,Nat.zero_le _,combX_nil _⟩
    rintro m s4 ⟨k,ys,qs,Hf4,H4,v4,I4,st4,fr4,x4,hl4,hfl4,rq,rfl,hk,hqk,e4⟩
    have smH:Same Hf2 H4:=x4.frz.trans x4.sub
    by_cases hlt:k<ps.length
    · obtain ⟨go,yl⟩:=(ov H4 k smH).1 (by rw [hvp];exact hlt)
      refine wpAny_mono (T.item (cxB X Ns x sc cs s3.heap.objs.size s3 (upd H2 l (.lst [])) fp) rfl rfl rfl hc k [] s4 (σ ++ [v4]) H4 (fun _ _=>False) I4 (stat fr4) st4 go) (fun rr s5 ⟨u,hr,h5⟩=>?_) fun _ _ z=>z
      subst hr
      refine thn h5 fun _ s6 ⟨x6,H6,I6,r6,y6,st6,fr6⟩=>?_
      obtain ⟨eH,ex6⟩:=yl x6 H6 y6
      subst eH
      obtain ⟨p6,ep6,rp6⟩:=rps.get' ex6
      have rp6':=rp6.keep x4.frz
      have hdrop:ps.drop k=p6::ps.drop (k+1):=by
        rw [List.drop_eq_getElem_cons hlt]
        rw [List.getElem?_eq_getElem hlt] at ep6
        rw [Option.some.inj ep6]
      rw [hdrop] at e4
      have hT4:compLX n t f ρ (p6::ps.drop (k+1))≠.stuck:=combX_ns (by rw [e4];exact hL)
      have I6':=I6.pinned (stat fr6) (T.obj _ _ st6)
      refine wpAny_assign_Name (store_ok (X:=cxB X Ns x sc cs s3.heap.objs.size s3 (upd H2 l (.lst [])) fp) I6' hnd hNi (.inl hLx) r6 (fun s7 I7=>?_) (.inr hLx))
      have eσ:(σ ++ [v4]).set n (some x6)=σ ++ [some x6]:=by rw [← hsl,List.set_append_right _ _ (Nat.le_refl _)];simp
      rw [eσ] at I7
      have r7:=(rk.keep x4).snoc rp6'
      rw [hsl] at r7
      have again:∀ {s9:Shared}{Hf9 H9:Hp}{ys9:List V}{qs9:List PV},Inv (cxB X Ns x sc cs s3.heap.objs.size s3 (upd H2 l (.lst [])) fp) ([] ++ pinsAt fp s6.heap) (σ ++ [some x6]) H9 s9→Ext Hf2 H2 Hf9 H9→H9 l=some (.lst ys9)→Hf9 l=none→Rps X.K cl Hf9 ys9 qs9→qs9.length≤k+1 →
          combX qs9 (compLX n t f ρ (ps.drop (k+1)))=compLX n t f ρ ps →
          ∃ m,m<ps.length - k∧∃ (k:Nat) (ys:List V) (qs:List PV) (Hf' H':Hp) (v:Option V),Inv (cxB X Ns x sc cs s3.heap.objs.size s3 (upd H2 l (.lst [])) fp) [] (σ ++ [v]) H' s9∧tn k s9.heap∧(∀ b∈fp,H' b=none)∧Ext Hf2 H2 Hf' H'∧H' l=some (.lst ys)∧Hf' l=none ∧
            Rps X.K cl Hf' ys qs∧m=ps.length - k∧k≤ps.length∧qs.length≤k∧combX qs (compLX n t f ρ (ps.drop k))=compLX n t f ρ ps:=fun {s9 Hf9 H9 ys9 qs9} I9 x9 hl9 hfl9 rq9 hq9 ec9=>by
        refine ⟨ps.length - (k+1),by omega,k+1,ys9,qs9,Hf9,H9,some x6,I9.unpinned,T.keep _ _ _ st6 fun b hb o e=>(I9.pin (b,o) (List.mem_append_right _ (List.mem_append_right _ (mem_pinsAt hb e)))).1,fun b hb=>?_,x9,hl9,hfl9,rq9,rfl,hlt,hq9,ec9⟩
        obtain ⟨o,e,d⟩:=T.obj _ _ st6 b hb
        exact (I9.pin (b,o) (List.mem_append_right _ (List.mem_append_right _ (mem_pinsAt hb e)))).2.1
      have nl4:H6 l≠none:=by rw [hl4];intro z;cases z
      have hpn:∀ b∈fp,∃ p∈[] ++ pinsAt fp s6.heap,p.1=b:=fun b hb=>by
        obtain ⟨o,e,d⟩:=T.obj _ _ st6 b hb
        exact ⟨(b,o),List.mem_append_right _ (mem_pinsAt hb e),rfl⟩
      rcases compLX_cons hT4 with ⟨et,e5⟩ | ⟨et,v,ev,e5⟩ | ⟨et,d,ev,e5⟩
      · refine mc_run htt I7 r7 et fun s8 Hf8 H8 I8 x8=>?_
        rw [if_neg (by decide)]
        exact again I8 (x4.trans x8) (x8.all _ _ hl4) (by rw [x8.old l nl4];exact hfl4) (rq.keep x8.frz) (by omega) (by rw [← e5];exact e4)
      · refine mc_run htt I7 r7 et fun s8 Hf8 H8 I8 x8=>?_
        rw [if_pos rfl]
        have r8:=r7.keep x8
        refine wpAny_mono (hbb.run _ s8 _ Hf0 H0 Hf8 H8 _ I8 r8 (by rw [ev];intro z;cases z) hpn) (fun u s9 q9=>?_) fun u s9 q9=>?_
        · obtain ⟨p9,v9,Hf9,H9,e9,I9,rv9,x9,rp9⟩:=q9
          rw [ev] at e9;cases e9
          have hl8:H8 l=some (.lst ys):=x8.all _ _ hl4
          have hl9:H9 l=some (.lst ys):=x9.all _ _ hl8
          have hfl9:Hf9 l=none:=by rw [x9.old l (by rw [hl8];intro z;cases z),x8.old l nl4];exact hfl4
          refine thn (mt_append (X:=cxB X Ns x sc cs s3.heap.objs.size s3 (upd H2 l (.lst [])) fp) _ s9 _ H9 (.ref l) [v9] (.ref l) [u] (fun w H'=>H'=upd H9 l (.lst (ys ++ [v9]))) I9 rfl (.cons rv9 .nil) ⟨l,ys,v9,rfl,rfl,hl9,by rw [rq.length];exact Nat.lt_of_le_of_lt (show qs.length≤1000000 by omega) (by decide),rfl⟩) fun w s10 ⟨w',H10,I10,_,q10⟩=>?_
          subst q10
          have x49:=(x4.trans x8).trans x9
          have x10:Ext Hf2 H2 Hf9 (upd H9 l (.lst (ys ++ [v9]))):=by
            refine ⟨fun b o q=>?_,x49.frz,fun b o q=>?_,x49.old⟩
            · have e:b≠l:=fun z=>by rw [z,nsm] at q;cases q
              rw [upd_ne e];exact x49.all b o q
            · have e:b≠l:=fun z=>by rw [z,hfl9] at q;cases q
              rw [upd_ne e];exact x49.sub b o q
          exact again I10 x10 upd_same hfl9 (((rq.keep x8.frz).keep x9.frz).append (.cons rp9 .nil)) (by rw [List.length_append];simp;omega) (by rw [← combX_app,← e5];exact e4)
        · obtain ⟨d,_,_,_,_,_,e9,_⟩:=q9
          rw [ev] at e9;cases e9
      · refine mc_run htt I7 r7 et fun s8 Hf8 H8 I8 x8=>?_
        rw [if_pos rfl]
        have r8:=r7.keep x8
        refine wpAny_mono (hbb.run _ s8 _ Hf0 H0 Hf8 H8 _ I8 r8 (by rw [ev];intro z;cases z) hpn) (fun u s9 q9=>?_) fun u s9 q9=>?_
        · obtain ⟨p9,v9,Hf9,H9,e9,_⟩:=q9
          rw [ev] at e9;cases e9
        obtain ⟨d',a,Hf9,H9,B,a0,e9,rfl,I9,x9,cov9,nd9,fl9⟩:=q9
        rw [ev] at e9;cases e9
        rw [e5] at e4
        have eres:res = .exc d:=by rw [ef,ek,← e4];rfl
        have IX:Inv X pins σ H9 s9:=I3.call' I9.os I9.base I9.hok I9.bare fun b hb=>⟨(hf3 b hb).2.2.2.1,(hf3 b hb).2.1,(hf3 b hb).2.2.2.2.1,(hf3 b hb).2.2.2.2.2⟩
        have there:∀ b,Stands X pins H9 b→H9 b≠none∨∃ o,s3.heap.get? b=some o:=fun b hst=>by
          rcases hst with h | ⟨p,hp,e⟩ | ⟨o,h⟩ | ⟨y,h⟩
          · exact .inl h
          · exact .inr ⟨_,by rw [← e];exact (I3.pin p hp).1⟩
          · exact .inr (I3.base.there b o h (W.ex b))
          · obtain ⟨v,o',q,_⟩:=I3.cell y b h
            exact .inr ⟨o',q⟩
        have neC:∀ b,Stands X pins H9 b→b≠s3.heap.objs.size:=fun b hst z=>by
          rcases there b hst with h | ⟨o,h⟩
          · rw [z] at h;exact h I9.free
          · exact absurd (Heap.lt_size h) (by rw [z];exact Nat.lt_irrefl _)
        have covX:Cov X pins H9 (PySem.W.hideAll B [s3.heap.objs.size]) s9.heap:=fun b o e hst hn=>by
          refine PySem.W.hideAll_get _ (cov9 b o e ?_ hn) (fun z=>neC b hst (List.mem_singleton.mp z))
          rcases there b hst with h | h
          · exact .inl h
          · exact .inr (.inr (.inl h))
        have hfC:FpOk X pins H9 s3.heap.objs.size:=I3.fpOk (Nat.le_refl _) I9.free
        have hCs:s3.heap.objs.size ∉ frs X.stack:=fun z=>by
          obtain ⟨_,o,ho,_⟩:=I3.stack.mem z
          exact absurd (Heap.lt_size ho) (Nat.lt_irrefl _)
        obtain ⟨m9,hn9,_⟩:=I9.loc
        show wpAny _ X.A (noteFrame (.ref a) X.env) _ _ s9
        refine note_ok W I.ok.frames nd9 (.inr (.inr fl9)) fun h5 hh u5 nd5=>?_
        have hh':=held_hide (C:=s3.heap.objs.size) hh
        have I5:=Inv.upto W IX covX hh'.1 u5 (tk:=s9.toks)
        have c5:=covX.upto W IX hh'.1
        have hn5:h5.Ns s3.heap.objs.size m9:=u5.ns hn9
        refine ⟨m9,hn5,fun h6 hsC=>?_⟩
        have hh6:=held_go hh' (PySem.W.hideAll_none _ List.mem_cons_self) hCs hn5 hsC
        have I6:=inv_letgo I5 hfC hsC
        have c6:=Cov.upto (s:={ s9 with heap:=h5 }) W I5 c5 hh6.1
        have nd6:NoD a h6:=by
          obtain ⟨o,ho,hd⟩:=nd5
          have na:a≠s3.heap.objs.size:=fun z=>by
            obtain ⟨oe,vs',_,_,_,he,_,hdd,_⟩:=hh.2.2.2
            obtain ⟨o',es,ep,ho',hd',_⟩:=hn5
            rw [z,ho'] at he;cases he
            rw [hd'] at hdd;cases hdd
          exact ⟨o,by rw [hsC.2 a na];exact ho,hd⟩
        unfold PySem.passOn
        have hh6':=hh6
        obtain ⟨k1,k2,k3',oe,vs',T',oT,ts,he,hcls,hd,h1',_⟩:=hh6'
        refine wpAny_bind (wpAny_field he hd h1' ?_)
        rw [if_neg (show ¬ ((Value.ref T' == Value.none)=true) from by simp)]
        show wpAny _ X.A (do setFlight (.ref a) X.env.frame;throw (Value.ref a)) _ _ _
        rw [W.fr]
        refine wpAny_bind (flight_ok (s:={ s9 with heap:=h6 }) nd6 hh6 fun h7 hh7 u7 nd7=>wpAny_throw ?_)
        have I7:=Inv.upto (s:={ s9 with heap:=h6 }) W I6 c6 hh7.1 u7 (tk:=s9.toks)
        exact ⟨d,eres,a,Hf9,H9,rfl,I7,((x2.trans x4).trans x8).trans x9,_,a0,Cov.upto (s:={ s9 with heap:=h6 }) W I6 c6 hh7.1,nd7,.inr (.inl hh7)⟩
    · have hke:k=ps.length:=by omega
      subst hke
      refine wpAny_mono (T.done (cxB X Ns x sc cs s3.heap.objs.size s3 (upd H2 l (.lst [])) fp) rfl rfl rfl hc ps.length [] s4 (σ ++ [v4]) H4 (fun _ _=>False) I4 (stat fr4) st4 ((ov H4 ps.length smH).2 (by rw [hvp];exact Nat.le_refl _))) (fun rr s5 ⟨hr,I5⟩=>?_) fun _ _ z=>z
      subst hr
      rw [List.drop_length] at e4
      have e4':compLX n t f ρ ps = .ok qs:=by rw [← e4];show R.ok (qs ++ [])=_;rw [List.append_nil]
      have eres:res = .ok (.lst qs):=by rw [ef,ek,e4']
      obtain ⟨m5,hn5,_⟩:=I5.loc
      have xx:=x2.trans x4
      have hHl:H l=none:=by
        cases q:H l with
        | none=>rfl
        | some o=>have:=x2.all l o q;rw [nsm] at this;cases this
      have IX:Inv X pins σ H4 s5:=I3.call' I5.os I5.base I5.hok I5.bare fun b hb=>⟨(hf3 b hb).2.2.2.1,(hf3 b hb).2.1,(hf3 b hb).2.2.2.2.1,(hf3 b hb).2.2.2.2.2⟩
      exact ⟨m5,hn5,fun h' hsC=>⟨.lst qs,.ref l,upd Hf4 l (.lst ys),H4,eres,inv_letgo IX (I3.fpOk (Nat.le_refl _) I5.free) hsC,rfl,xx.freeze hl4 hfl4 hHl,.lst (SqL.of upd_same) (rq.keep (same_upd hfl4 _))⟩⟩
  exact codeAny_compStart_list loop (T.self _ 0 _ _ _ stB loop)
end
section
variable {P:Program}{w:World}{K:PySem.W.Frag}{mg:Str→Option Value}{base:Heap}{cl:Nat→Addr}
theorem mcompX {N:List Str}{qual:Str}{scope:Scope}{f:Addr}{cd:Value}{A:Around}{outer:List Env}{s:Shared}{H:Hp}{E:XK}{elt iter:Expr}{x:Str}{px pos:Pos}{sc:Scope}{ifs:List Expr}{fa:FA}{t:FT}{g:FE}{n:Nat}
    (hnd:N.Nodup) (hcap:capB N x sc scope=true) (hn:N.length=n) (hi:MI (cxM P w K mg base cl N qual scope f cd A outer s H E) cl (.Name x px) iter fa)
    (ht:∀ C s' H' fp,MC (cxB (cxM P w K mg base cl N qual scope f cd A outer s H E) N x sc (csOf sc (cxM P w K mg base cl N qual scope f cd A outer s H E).env) C s' H' fp) cl ifs t)
    (hb:∀ C s' H' fp,MEX (cxB (cxM P w K mg base cl N qual scope f cd A outer s H E) N x sc (csOf sc (cxM P w K mg base cl N qual scope f cd A outer s H E).env) C s' H' fp) cl elt g)
    (hfs:∀ y,foldedSetIterable iter (cxM P w K mg base cl N qual scope f cd A outer s H E).env y=pure y:=by intro _;rfl) :
    ME (cxM P w K mg base cl N qual scope f cd A outer s H E) cl (.ListComp elt [⟨.Name x px,iter,ifs,0⟩] sc pos) (fCompX n fa t g):=by
  refine me_compX own_cx rfl (fun ok=>cap_of hcap rfl (fun _ _ h _=>h) ok) hn ?_ hi ht hb hfs
  show (N ++ [x]).Nodup
  have hx:x ∉ N:=fun z=>by
    unfold capB at hcap
    have:=(Bool.and_eq_true_iff.mp hcap).2
    rw [List.contains_iff_mem.mpr z] at this;cases this
  exact List.nodup_append.mpr ⟨hnd,List.nodup_cons.mpr ⟨List.not_mem_nil,List.nodup_nil⟩,fun a ha b hb e=>hx (by
    rw [List.mem_singleton] at hb;rw [← hb,← e];exact ha)⟩
end
noncomputable def forT (is:List Nat) (body:FS):List PV→FS
  | [],ρ=>.next ρ
  | x::r,ρ=>match x with
    | .tup l=>(match setAll is l ρ with
      | some ρ1=>(match body ρ1 with
        | .next ρ'=>forT is body r ρ'
        | .cont ρ'=>forT is body r ρ'
        | .brk ρ'=>.next ρ'
        | o=>o)
      | none=>.stuck)
    | _=>.stuck
noncomputable def sForT (is:List Nat) (it:FA) (body:FS):FS:=fun ρ=>match it ρ with
  | .ok l=>forT is body l ρ
  | .exc c=>.exc c ρ
  | .stuck=>.stuck
noncomputable def tupE (m:Nat):PV→Option MEnv
  | .tup l=>if l.length=m then some (l.map some) else none
  | _=>none
noncomputable def compLT (n m:Nat) (t:FT) (f:FE) (ρ:MEnv):List PV→R (List PV)
  | []=>.ok []
  | p::r=>match tupE m p with
    | none=>.stuck
    | some τ=>match t (padTo n ρ ++ τ) with
      | .ok true=>(match f (padTo n ρ ++ τ) with
        | .ok v=>(match compLT n m t f ρ r with
          | .ok vs=>.ok (v::vs)
          | _=>.stuck)
        | _=>.stuck)
      | .ok false=>compLT n m t f ρ r
      | _=>.stuck
noncomputable def compKT (n m:Nat) (t:FT) (f:FE) (ρ:MEnv) (l:List PV):R PV:=if l.length≤1000000 then (match compLT n m t f ρ l with
  | .ok vs=>.ok (.lst vs)
  | _=>.stuck) else .stuck
noncomputable def fCompT (n m:Nat) (it:FA) (t:FT) (f:FE):FE:=fun ρ=>(it ρ).bind (compKT n m t f ρ)
theorem tupE_some {m:Nat}{p:PV}{τ:MEnv} (h:tupE m p=some τ):∃ l,p = .tup l∧l.length=m∧τ=l.map some:=by
  cases p<;>first
    | cases h
    | skip
  rename_i l
  have h':(if l.length=m then some (l.map some) else none)=some τ:=h
  by_cases e:l.length=m
  · rw [if_pos e] at h'
    exact ⟨l,rfl,e,(Option.some.inj h').symm⟩
  · rw [if_neg e] at h';cases h'
theorem compLT_cons {n m:Nat}{t:FT}{f:FE}{ρ:MEnv}{p:PV}{r rs:List PV} (h:compLT n m t f ρ (p::r) = .ok rs) :
    ∃ τ,tupE m p=some τ∧((t (padTo n ρ ++ τ) = .ok false∧compLT n m t f ρ r = .ok rs)∨(t (padTo n ρ ++ τ) = .ok true∧∃ v vs,f (padTo n ρ ++ τ) = .ok v∧compLT n m t f ρ r = .ok vs∧rs=v::vs)):=by
  unfold compLT at h
  split at h
  · cases h
  · rename_i τ e0
    refine ⟨τ,e0,?_⟩
    split at h
    · rename_i e1
      split at h
      · rename_i v e2
        split at h
        · rename_i vs e3
          cases h
          exact .inr ⟨e1,v,vs,e2,e3,rfl⟩
        · cases h
      · cases h
    · rename_i e1;exact .inl ⟨e1,h⟩
    · cases h
theorem padTo_self:∀ {n:Nat}{ρ:MEnv},ρ.length=n→padTo n ρ=ρ
  | 0,[],_=>rfl
  | 0,_::_,h=>by cases h
  | n+1,[],h=>by cases h
  | n+1,o::r,h=>by
    show o::padTo n r=_
    rw [padTo_self (by simpa using h)]
theorem Rep.snocs {K:PySem.W.Frag}{cl:Nat→Addr}{Hf0 H0 Hf H:Hp}:∀ {vs:List V}{ps:List PV}{σ:SV}{ρ:MEnv},Rep K cl Hf0 H0 Hf H σ ρ→ρ.length=σ.length→Rps K cl Hf vs ps→Rep K cl Hf0 H0 Hf H (σ ++ vs.map some) (ρ ++ ps.map some)
  | [],ps,σ,ρ,r,_,rp=>by
    cases rp
    rw [List.map_nil,List.map_nil,List.append_nil,List.append_nil];exact r
  | v::vs,ps,σ,ρ,r,hl,rp=>by
    cases rp with
    | cons r1 rr =>
      have r':=r.snoc r1
      rw [padTo_self hl] at r'
      have:=Rep.snocs r' (by rw [List.length_append,List.length_append,hl];rfl) rr
      rw [List.append_assoc,List.append_assoc] at this
      exact this
inductive Nms:List Expr→List Str→Prop where
  | nil:Nms [] []
  | cons {x:Str}{p:Pos}{ts:List Expr}{xs:List Str} (h:Nms ts xs):Nms (.Name x p::ts) (x::xs)
noncomputable def ixs:Nat→List Str→List Nat
  | _,[]=>[]
  | k,_::r=>k::ixs (k+1) r
theorem ixs_len:∀ (k:Nat) (xs:List Str),(ixs k xs).length=xs.length
  | _,[]=>rfl
  | k,_::r=>congrArg (·+1) (ixs_len (k+1) r)
theorem mgs_blk {X:Cx} (hN:X.N.Nodup):∀ {ts:List Expr}{xs pre:List Str},Nms ts xs→X.N=pre ++ xs→(∀ x∈xs,X.env.scope.names.lookup x=some .local)→MGs X ts (ixs pre.length xs)
  | _,_,_,.nil,_,_=>mgs_nil
  | _,_,pre,.cons (x:=x) (ts:=ts) (xs:=xs) h,e,hl=>by
    have ih:=mgs_blk hN (pre:=pre ++ [x]) h (by rw [e,List.append_assoc];rfl) fun y hy=>hl y (List.mem_cons_of_mem _ hy)
    rw [List.length_append] at ih
    exact mgs_cons hN (by rw [e,List.getElem?_append_right (Nat.le_refl _)];simp) (.inl (hl x List.mem_cons_self)) ih (.inr (hl x List.mem_cons_self))
theorem sets_blk:∀ {xs:List Str}{vs:List V}{pre old:SV},vs.length=xs.length→old.length=xs.length→((ixs pre.length xs).zip vs).foldl (fun σ q=>σ.set q.1 (some q.2)) (pre ++ old)=pre ++ vs.map some
  | [],[],pre,[],_,_=>rfl
  | x::xs,v::vs,pre,o::old,h1,h2=>by
    show ((ixs (pre.length+1) xs).zip vs).foldl (fun σ q=>σ.set q.1 (some q.2)) ((pre ++ o::old).set pre.length (some v))=_
    have e:(pre ++ o::old).set pre.length (some v)=(pre ++ [some v]) ++ old:=by
      rw [List.set_append_right _ _ (Nat.le_refl _),Nat.sub_self,List.append_assoc];rfl
    rw [e]
    have:=sets_blk (xs:=xs) (vs:=vs) (pre:=pre ++ [some v]) (old:=old) (by simpa using h1) (by simpa using h2)
    rw [List.length_append] at this
    have e2:pre ++ [some v] ++ vs.map some=pre ++ (v::vs).map some:=by rw [List.append_assoc];rfl
    rw [e2] at this
    exact this
  | [],_::_,_,_,h,_=>by cases h
  | _::_,[],_,_,h,_=>by cases h
  | [],[],_,_::_,_,h=>by cases h
  | _::_,_::_,_,[],_,h=>by cases h
noncomputable def cxT (X:Cx) (Ns xs:List Str) (sc:Scope) (cs:List (Str×Addr)) (C:Addr) (s:Shared) (H:Hp) (fp:List Addr):Cx :=
  { X with N:=Ns ++ xs,s₀:=s,H₀:=H,env:=compEnvC sc cs C X.env,outer:=X.stack,stack:=X.stack,ex:=fp,fn:=fun _=>false,pn:=[],xe:=fun _ _=>False }
section
variable {X:Cx}{cl:Nat→Addr}{pins:List (Addr×Obj)}{σ:SV}{H:Hp}{s:Shared}{Ns xs:List Str}{x:Str}{sc:Scope}{cs:List (Str×Addr)}{fp:List Addr}
theorem cxT_ok (I:Inv X pins σ H s) (c:Cap X Ns x sc cs) (hf:∀ b∈fp,FpOk X pins H b) (hl:∀ b∈fp,b<s.heap.objs.size):(cxT X Ns xs sc cs s.heap.objs.size s H fp).Ok where
  mod:=I.ok.mod
  kind:=c.kind
  glob:=I.ok.glob
  blt:=I.ok.blt
  above:=Nat.le_refl _
  inj:=fun y z d e1 e2=>I.ok.inj y z d (c.sub y d e1) (c.sub z d e2)
  has:=fun y h=>c.has y h
  cab:=fun y d h=>by cases h
  hd:=I.ok.hd
  frames:=I.ok.frames
  stk:=.inl rfl
  exf:=fun b hb=>⟨Nat.ne_of_lt (hl b hb),fun y d e=>(hf b hb).2.2.2.2.1 y d (c.sub y d e)⟩
  bs:=I.bs
  bsz:=Nat.le_trans I.ok.bsz I.sz
  noex:=fun b o e hb=>by
    rcases (hf b hb).2.2.2.1 with z | z
    · exact I.ok.noex b o e z
    · exact absurd (Nat.lt_of_lt_of_le (Heap.lt_size e) (Nat.le_trans I.ok.bsz z)) (Nat.lt_irrefl _)
  exfs:=fun b hb z=>by
    rcases List.mem_cons.mp (I.stkSub b z) with e | e
    · exact (hf b hb).2.1 e
    · exact (hf b hb).2.2.1 e
  funs:=I.stack
  frf:=I.stkFree
theorem cxT_inv {h1:Heap}{tk:Nat} (I:Inv X pins σ H s) (c:Cap X Ns x sc cs) (hf:∀ b∈fp,FpOk X pins H b) (hl:∀ b∈fp,b<s.heap.objs.size) (hn:h1.Ns s.heap.objs.size (fun _=>none)) (k:∀ b o,s.heap.get? b=some o→h1.get? b=some o) :
    Inv (cxT X Ns xs sc cs s.heap.objs.size s H fp) [] (σ ++ List.replicate xs.length none) H { s with heap:=h1,toks:=tk } where
  ok:=cxT_ok I c hf hl
  os:=rfl
  bare:=I.bare
  base:=Un.kept k
  loc:=by
    refine ⟨_,hn,fun i y v e1 e2 e3=>?_⟩
    obtain ⟨m,_,lk⟩:=I.loc
    have hi:i<σ.length:=by
      by_cases z:i<σ.length
      · exact z
      · rw [List.getElem?_append_right (by omega)] at e2
        rw [List.getElem?_replicate] at e2
        split at e2<;>cases e2
    rw [List.getElem?_append_left hi] at e2
    have e1'':Ns[i]?=some y:=by
      have:(Ns ++ xs)[i]?=some y:=e1
      rw [List.getElem?_append_left (by rw [c.len,← I.len];exact hi)] at this;exact this
    have e1':=c.same i y e1'' e3
    obtain ⟨k1,k2⟩:=c.vis y (List.mem_of_getElem? e1'') e3
    have v':Vis X.env.scope y:=.inr k2
    obtain ⟨u,ru,l⟩:=lk i y v e1' e2 v'
    refine ⟨u,ru,.inr ⟨k1,?_⟩⟩
    rcases l with ⟨kl,_⟩ | ⟨_,d,ed,z⟩
    · rcases k2 with k2 | k2<;>(rw [k2] at kl;cases kl)
    · obtain ⟨d',ed'⟩:=c.has y k1
      have:=c.sub y d' ed'
      rw [ed] at this
      cases this
      obtain ⟨o,ho,hd⟩:=z
      exact ⟨d,ed',o,k _ _ ho,hd⟩
  cell:=fun y d e=>by
    obtain ⟨v,o,ho,hd⟩:=I.cell y d (c.sub y d e)
    exact ⟨v,o,k _ _ ho,hd⟩
  free:=I.hok.fresh (Nat.le_refl _)
  freeC:=fun y d e=>I.freeC y d (c.sub y d e)
  pin:=fun p hp=>by cases hp
  hok:=I.hok.kept k
  len:=by show (σ ++ List.replicate xs.length none).length=(Ns ++ xs).length;rw [List.length_append,List.length_append,I.len,c.len,List.length_replicate]
theorem cxT_fp (c:Cap X Ns x sc cs) (I:Inv X pins σ H s) {H':Hp}{C:Addr}{s0:Shared}{H0:Hp} (hC:∀ b∈fp,b≠C) (hf:∀ b∈fp,FpOk X pins H b) (hn:∀ b∈fp,H' b=none):∀ b∈fp,FpOk (cxT X Ns xs sc cs C s0 H0 fp) [] H' b:=fun b hb =>
  ⟨hn b hb,hC b hb,fun z=>(List.mem_cons.mp (I.stkSub b z)).elim (hf b hb).2.1 (hf b hb).2.2.1,.inl hb,fun y d e=>(hf b hb).2.2.2.2.1 y d (c.sub y d e),fun p hp=>by cases hp⟩
end
noncomputable def zipP (l m:List PV):List PV:=(l.zip m).map fun p=>.tup [p.1,p.2]
noncomputable def iZip (a b:FE):FA:=fun ρ=>(a ρ).bind fun x=>(b ρ).bind fun y=>match x,y with
  | .lst l,.lst m=>.ok (zipP l m)
  | _,_=>.stuck
theorem zipP_len (l m:List PV):(zipP l m).length=min l.length m.length:=by unfold zipP;rw [List.length_map,List.length_zip]
theorem zipP_get {l m:List PV}{k:Nat} (h:k<(zipP l m).length):∃ a b,l[k]?=some a∧m[k]?=some b∧(zipP l m)[k]?=some (.tup [a,b]):=by
  have hl:=zipP_len l m
  have h1:k<l.length:=by omega
  have h2:k<m.length:=by omega
  refine ⟨l[k],m[k],List.getElem?_eq_getElem h1,List.getElem?_eq_getElem h2,?_⟩
  unfold zipP
  rw [List.getElem?_map,List.getElem?_eq_getElem (by rw [List.length_zip];omega),List.getElem_zip];rfl
section
variable {X:Cx}{cl:Nat→Addr}{pins:List (Addr×Obj)}{σ:SV}{H:Hp}{s:Shared}{h':Heap}
theorem turnedL {t':Nat}{ch:List Addr} (I:Inv X pins σ H s) (k:∀ b o,b ∉ ch→s.heap.get? b=some o→h'.get? b=some o) (hf:∀ b∈ch,FpOk X pins H b):Inv X pins σ H { s with heap:=h',toks:=t' }:=by
  have nit:∀ b u,H b=some u→b ∉ ch:=fun b u e z=>by rw [(hf b z).1] at e;cases e
  refine I.step (g':=s.gens) (d':=s.drawn) (ch:=ch) (fun b hb=>?_) (fun b o _ _ hc e _=>k b o hc e) (fun b o _ _ hc e _=>⟨o.slots,k b o hc e⟩) (fun _ _ _ _ n=>n)
    (fun b o hc e=>⟨o,k b o hc e⟩) (fun _ _ e=>e) (fun _ _ _ e=>e) (fun b ps e=>⟨#[],by rw [e];simp⟩) (fun m hm=>?_) (fun b u e=>?_) I.bare
  · exact ⟨(hf b hb).2.2.2.1,(hf b hb).2.1,(hf b hb).2.2.2.2.1,(hf b hb).2.2.2.2.2⟩
  · obtain ⟨o,es,ep,ho,r⟩:=hm
    exact ⟨o,es,ep,k _ o (fun z=>(hf _ z).2.1 rfl) ho,r⟩
  · refine (I.hok b u e).stay (fun c v hc q=>k c v ?_ q) (fun _ q=>q) fun _ _ q=>q
    rcases hc with z | z
    · rw [z];exact nit b u e
    · exact nit c _ z
def ZipSt (z TI TO i1 i2 l1 l2:Addr) (k:Nat) (h:Heap):Prop:=IsZip h z TI TO .none∧IsPair h TI (.ref i1) (.ref i2)∧(∃ a b,IsPair h TO a b)∧h.IsListIter i1 l1 k∧h.IsListIter i2 l2 k
variable {z TI TO i1 i2 l1 l2:Addr}
theorem zip_keep {k:Nat}{h h':Heap} (st:ZipSt z TI TO i1 i2 l1 l2 k h) (kk:∀ b∈[z,TI,TO,i1,i2],∀ o,h.get? b=some o→h'.get? b=some o):ZipSt z TI TO i1 i2 l1 l2 k h':=by
  obtain ⟨hz,hTI,⟨a,b,hTO⟩,h1,h2⟩:=st
  exact ⟨kk z (by simp) _ hz,kk TI (by simp) _ hTI,⟨a,b,kk TO (by simp) _ hTO⟩,h1.at fun o e=>kk i1 (by simp) o e,h2.at fun o e=>kk i2 (by simp) o e⟩
theorem zip_obj {k:Nat}{h:Heap} (st:ZipSt z TI TO i1 i2 l1 l2 k h):∀ b∈[z,TI,TO,i1,i2],∃ o,h.get? b=some o∧∀ v,o.data≠.cell v:=by
  obtain ⟨hz,hTI,⟨a,b,hTO⟩,⟨o1,e1,_,d1⟩,⟨o2,e2,_,d2⟩⟩:=st
  intro b hb
  simp only [List.mem_cons,List.not_mem_nil,or_false] at hb
  rcases hb with rfl | rfl | rfl | rfl | rfl
  · exact ⟨_,hz,fun v q=>by cases q⟩
  · exact ⟨_,hTI,fun v q=>by cases q⟩
  · exact ⟨_,hTO,fun v q=>by cases q⟩
  · exact ⟨_,e1,fun v q=>by rw [d1] at q;cases q⟩
  · exact ⟨_,e2,fun v q=>by rw [d2] at q;cases q⟩
theorem zip_item {ts:List Expr}{kt k:Nat}{pos:Pos}{xs ys:List V}{x y:V}{E:Value→Shared→Prop} (D:ZipApart z TI TO i1 i2 l1 l2) (I:Inv X pins σ H s) (hf:∀ b∈[z,TI,TO,i1,i2],FpOk X pins H b) (st:ZipSt z TI TO i1 i2 l1 l2 k s.heap)
    (q1:SqL X.K H l1 xs) (q2:SqL X.K H l2 ys) (hx:xs[k]?=some x) (hy:ys[k]?=some y) :
    wpAny (model X.prog X.w) X.A (pyNext (.ref z)) (fun r s1=>∃ T u1 u2,r=some (.ref T)∧RelV x u1∧RelV y u2 ∧
      wpAny (model X.prog X.w) X.A (letOwnedTupleGo (.Tuple ts kt pos) (.ref z) (.ref T)) (fun _ s2=>Inv X pins σ H s2∧IsTup s2.heap T #[u1,u2]∧ZipSt z TI TO i1 i2 l1 l2 (k+1) s2.heap) E s1) E s:=by
  obtain ⟨hz,hTI,⟨a,b,hTO⟩,h1,h2⟩:=st
  obtain ⟨its1,rv1,p1,z1⟩:=I.list q1
  obtain ⟨its2,rv2,p2,z2⟩:=I.list q2
  obtain ⟨u1,hu1,ru1⟩:=rv1.get hx
  obtain ⟨u2,hu2,ru2⟩:=rv2.get hy
  refine wpAny_pyNext_zip_item D hz hTI hTO h1 h2 p1.isList p2.isList (x:=u1) (y:=u2) (by simpa using hu1) (by simpa using hu2) fun h' a1 a2 a3 a4 a5 a6 hk=>?_
  have lt:∀ {c o},s.heap.get? c=some o→s.heap.objs.size≠c:=fun e=>Nat.ne_of_gt (Heap.lt_size e)
  have Tz:s.heap.objs.size≠z:=lt hz
  have kk:∀ b o,b ∉ [z,TI,TO,i1,i2]→s.heap.get? b=some o→h'.get? b=some o:=fun b o hb e=>hk b o (fun q=>hb (by simp [q])) (fun q=>hb (by simp [q])) (fun q=>hb (by simp [q])) (fun q=>hb (by simp [q])) e
  have I1:Inv X pins σ H { s with heap:=h' }:=turnedL (t':=s.toks) I kk hf
  refine ⟨s.heap.objs.size,u1,u2,rfl,ru1,ru2,?_⟩
  refine wpAny_letOwnedTupleGo_zip a1 fun h'' hz' hs'=>?_
  have I2:Inv X pins σ H { s with heap:=h'' }:=turnedL (s:={ s with heap:=h' }) (t':=s.toks) (ch:=[z]) I1 (fun b o hb e=>hs'.extBut b o (fun q=>hb (by simp [q])) e) (fun b hb=>hf b (by
    have:b=z:=by simpa using hb
    rw [this];simp))
  exact ⟨I2,⟨_,hs'.extBut _ _ Tz a5,rfl,_,rfl⟩,hz',hs'.extBut _ _ D.TIz (hk _ _ D.TIz D.TITO D.TIi1 D.TIi2 hTI),⟨_,_,hs'.extBut _ _ D.TOz a2⟩,a3.extBut hs'.extBut D.i1z,a4.extBut hs'.extBut D.i2z⟩
theorem zip_done {k:Nat}{xs ys:List V}{E:Value→Shared→Prop} (hc:X.calm=true) (D:ZipApart z TI TO i1 i2 l1 l2) (I:Inv X pins σ H s) (hf:∀ b∈[z,TI,TO,i1,i2],FpOk X pins H b) (st:ZipSt z TI TO i1 i2 l1 l2 k s.heap)
    (q1:SqL X.K H l1 xs) (q2:SqL X.K H l2 ys) (hk:xs.length≤k∨ys.length≤k) :
    wpAny (model X.prog X.w) X.A (pyNext (.ref z)) (fun r s1=>r=none∧Inv X pins σ H s1) E s:=by
  obtain ⟨hz,hTI,⟨a,b,hTO⟩,h1,h2⟩:=st
  obtain ⟨its1,rv1,p1,z1⟩:=I.list q1
  obtain ⟨its2,rv2,p2,z2⟩:=I.list q2
  have hend:its1.toArray[k]?=none∨its2.toArray[k]?=none:=by
    rcases hk with q | q
    · exact .inl (by simp;rw [← rv1.length];exact q)
    · exact .inr (by simp;rw [← rv2.length];exact q)
  refine wpAny_pyNext_zip_end (I.ok.hd hc) D hz hTI hTO h1 h2 p1.isList p2.isList hend fun h' hk=>⟨rfl,?_⟩
  exact turnedL (t':=s.toks) I (fun b o hb e=>hk b o (fun q=>hb (by simp [q])) (fun q=>hb (by simp [q])) (fun q=>hb (by simp [q])) (fun q=>hb (by simp [q])) e) hf
structure Zipped (X:Cx) (cl:Nat→Addr) (pins:List (Addr×Obj)) (σ:SV) (Hf H:Hp) (ps:List PV) (itv:Value) (s2:Shared) (z TI TO i1 i2 l1 l2:Addr) (xs ys:List V) (l m:List PV) (Hf2 H2:Hp):Prop where
  it:itv = .ref z
  eq:ps=zipP l m
  ap:ZipApart z TI TO i1 i2 l1 l2
  inv:Inv X pins σ H2 s2
  st:ZipSt z TI TO i1 i2 l1 l2 0 s2.heap
  fp:∀ b∈[z,TI,TO,i1,i2],FpOk X pins H2 b
  ext:Ext Hf H Hf2 H2
  q1:SqL X.K Hf2 l1 xs
  q2:SqL X.K Hf2 l2 ys
  r1:Rps X.K cl Hf2 xs l
  r2:Rps X.K cl Hf2 ys m
end
theorem boot_zip:bootBuiltins ("zip" : Str)=some (.type "zip"):=by decide +kernel
section
variable {X:Cx}{cl:Nat→Addr}{pins:List (Addr×Obj)}{σ:SV}{Hf0 H0 Hf H:Hp}{s:Shared}{ρ:MEnv}
theorem zip_made {e1 e2:Expr}{f1 f2:FE}{p cpos:Pos} (h1:ME X cl e1 f1) (h2:ME X cl e2 f2) (hg:Gl X "zip") (hm:X.mg "zip"=none) (I:Inv X pins σ H s) (r:Rep X.K cl Hf0 H0 Hf H σ ρ) (hs:iZip f1 f2 ρ≠.stuck)
    (hst:starEach [e1,e2] X.env=[(false,eval e1 X.env),(false,eval e2 X.env)]) (hst2:starEach [e2] X.env=[(false,eval e2 X.env)]) :
    wpAny (model X.prog X.w) X.A (eval (.Call (.Name "zip" p) [e1,e2] [] cpos) X.env) (fun v s1=>wpAny (model X.prog X.w) X.A (pyIter v) (fun itv s2=>∃ ps z TI TO i1 i2 l1 l2 xs ys l m Hf2 H2,iZip f1 f2 ρ = .ok ps∧Zipped X cl pins σ Hf H ps itv s2 z TI TO i1 i2 l1 l2 xs ys l m Hf2 H2)
      (ExP X cl pins σ Hf H (iZip f1 f2 ρ)) s1) (ExP X cl pins σ Hf H (iZip f1 f2 ρ)) s:=by
  unfold iZip at hs ⊢
  refine wpAny_Call_Name_kw (ld_blt I hg hm boot_zip ?_)
  refine PyProof.Rows.callWith_type1 ?_ (by rw [hst,hst2]) (by rw [hst2];rfl)
  rw [hst]
  show wpAny _ _ (spliced ((false,eval e1 X.env)::backTo cpos [(false,eval e2 X.env)])) _ _ s
  refine Calls.spliced_cons (h1.run I r (Ext.refl r.sub) hs fun p1 v1 u1 s1 Hf1 H1 ee1 I1 rv1 x1 rp1=>?_)
  rw [ee1] at hs ⊢
  show wpAny _ _ (spliced ((false,eval e2 X.env)::[])) _ _ s1
  refine Calls.spliced_cons (h2.run I1 (r.keep x1) x1 hs fun p2 v2 u2 s2 Hf2 H2 ee2 I2 rv2 x2 rp2=>Calls.spliced_nil ?_)
  rw [ee2] at hs ⊢
  have rp1':=rp1.keep x2.frz
  cases p1<;>first
    | exact absurd rfl hs
    | skip
  rename_i l
  cases p2<;>first
    | exact absurd rfl hs
    | skip
  rename_i m
  cases rp1' with
  | lst hq1 rr1 =>
    cases rv1
    cases rp2 with
    | lst hq2 rr2 =>
      cases rv2
      obtain ⟨its1,w1,pl1,z1⟩:=I2.list (x2.sub.seq hq1)
      obtain ⟨its2,w2,pl2,z2⟩:=I2.list (x2.sub.seq hq2)
      refine call_zip_2 pl1.isList pl2.isList fun h' hz hTI hTO hi1 hi2 hsz hk=>?_
      refine wpAny_pyIter_zip hz ?_
      have n0:∀ b,s2.heap.objs.size≤b→H2 b=none:=fun b hb=>I2.hok.fresh hb
      refine ⟨_,_,_,_,_,_,_,_,_,_,l,m,Hf2,H2,rfl,⟨rfl,rfl,zipApart_new (Heap.lt_size pl1.isList.choose_spec.1) (Heap.lt_size pl2.isList.choose_spec.1),I2.kept (t':=s2.toks) hk,⟨hz,hTI,⟨_,_,hTO⟩,hi1,hi2⟩,fun b hb=>?_,x1.trans x2,hq1,hq2,rr1,rr2⟩⟩
      simp only [List.mem_cons,List.not_mem_nil,or_false] at hb
      have hle:s2.heap.objs.size≤b:=by rcases hb with rfl | rfl | rfl | rfl | rfl<;>omega
      exact I2.fpOk hle (n0 b hle)
end
section
variable {X:Cx}{cl:Nat→Addr}
theorem _root_.Mi.Rps.get'' {K:PySem.W.Frag}{cl:Nat→Addr}{Hf:Hp}:∀ {vs:List V}{ps:List PV}{k:Nat}{p:PV},Rps K cl Hf vs ps→ps[k]?=some p→∃ v,vs[k]?=some v∧Rp K cl Hf v p
  | _,_,0,p,.cons r _,h=>by cases h;exact ⟨_,rfl,r⟩
  | _,_,k+1,p,.cons _ rr,h=>by
    obtain ⟨v,e,r⟩:=Rps.get'' (k:=k) rr (by simpa using h)
    exact ⟨v,by simpa using e,r⟩
  | _,_,_,p,.nil,h=>by cases h
theorem ms_forZ {is:List Nat}{ts:List Expr}{e1 e2:Expr}{f1 f2:FE}{body:List Stmt}{g:FS}{kt:Nat}{pos pos' zp cpos:Pos} (W:Own X) (hc:X.calm=true) (hgs:MGs X ts is) (hil:∀ i∈is,i<X.N.length) (h1:ME X cl e1 f1) (h2:ME X cl e2 f2) (hg:Gl X "zip") (hm:X.mg "zip"=none) (hb:MSs X cl body g)
    (hn:(assignEach ts X.env).length=is.length:=by rfl) (hst:(assignEach ts X.env).findIdx? (·.1)=none:=by rfl) (hfs:∀ y,foldedSetIterable (.Call (.Name "zip" zp) [e1,e2] [] cpos) X.env y=pure y:=by intro _;rfl)
    (hse:starEach [e1,e2] X.env=[(false,eval e1 X.env),(false,eval e2 X.env)]:=by rfl) (hse2:starEach [e2] X.env=[(false,eval e2 X.env)]:=by rfl) :
    MS X cl (.For (.Tuple ts kt pos') (.Call (.Name "zip" zp) [e1,e2] [] cpos) body [] pos) (sForT is (iZip f1 f2) g):=by
  refine ⟨?_⟩
  intro pins s σ Hf0 H0 Hf H ρ I r hs
  have hfr:iZip f1 f2 ρ≠.stuck:=fun z=>hs (by unfold sForT;rw [z])
  have hE:∀ u s',ExP X cl pins σ Hf H (iZip f1 f2 ρ) u s'→ExS X cl pins Hf0 H0 Hf (sForT is (iZip f1 f2) g ρ) u s':=fun u s' ⟨c,e1,y⟩=>by
    have e2:sForT is (iZip f1 f2) g ρ = .exc c ρ:=by unfold sForT;rw [e1]
    rw [e2];exact exs_of r y
  refine wpAny_For (wpAny_mono (zip_made h1 h2 hg hm I r hfr hse hse2) (fun v s1 q1=>wpAny_mono q1 (fun itv s2 q2=>?_) hE) hE) hfs
  obtain ⟨ps,z,TI,TO,i1,i2,l1,l2,xs,ys,pl1,pl2,Hf2,H2,ee,⟨rfl,rfl,D,I2,st2,ff2,x2,sq1,sq2,rr1,rr2⟩⟩:=q2
  have e2:sForT is (iZip f1 f2) g ρ=forT is g (zipP pl1 pl2) ρ:=by unfold sForT;rw [ee]
  rw [e2] at hs ⊢
  have hp:PassesOwn (model X.prog X.w) X.A X.env (ExS X cl pins Hf0 H0 Hf (forT is g (zipP pl1 pl2) ρ)):=passes_exs W
  have stat:∀ {H':Hp},(∀ b∈[z,TI,TO,i1,i2],H' b=none)→∀ b∈[z,TI,TO,i1,i2],FpOk X pins H' b:=fun hn b hb=>⟨hn b hb,(ff2 b hb).2⟩
  refine codeAny_forLoop_any (fun n s'=>∃ k ρ' σ' Hf' H',Inv X pins σ' H' s'∧ZipSt z TI TO i1 i2 l1 l2 k s'.heap∧(∀ b∈[z,TI,TO,i1,i2],H' b=none)∧Rep X.K cl Hf0 H0 Hf' H' σ' ρ'∧Same Hf2 Hf'∧n=(zipP pl1 pl2).length - k∧k≤(zipP pl1 pl2).length∧forT is g ((zipP pl1 pl2).drop k) ρ'=forT is g (zipP pl1 pl2) ρ) ?_ (zipP pl1 pl2).length
    ⟨0,ρ,σ,Hf2,H2,I2,st2,fun b hb=>(ff2 b hb).1,r.keep x2,Same.refl _,rfl,Nat.zero_le _,rfl⟩
  rintro n s3 ⟨k,ρ3,σ3,Hf3,H3,I3,st3,fr3,r3,sm3,rfl,hk,e3⟩
  have smH:Same Hf2 H3:=sm3.trans r3.sub
  have lz:=zipP_len pl1 pl2
  by_cases hlt:k<(zipP pl1 pl2).length
  · obtain ⟨pa,pb,ea,eb,ez⟩:=zipP_get hlt
    obtain ⟨xa,exa,ra⟩:=rr1.get'' ea
    obtain ⟨xb,exb,rb⟩:=rr2.get'' eb
    refine wpAny_passesOwn hp (wpAny_mono (zip_item (ts:=ts) (kt:=kt) (pos:=pos') (E:=ExS X cl pins Hf0 H0 Hf (forT is g (zipP pl1 pl2) ρ)) D I3 (stat fr3) st3 (smH.seq sq1) (smH.seq sq2) exa exb) (fun rr s4 ⟨T,u1,u2,hr,ru1,ru2,h4⟩=>?_) fun _ _ z=>z)
    subst hr
    refine wpAny_passesOwn hp (thn h4 fun _ s5 ⟨I5,itp,st5⟩=>?_)
    have hdrop:(zipP pl1 pl2).drop k = .tup [pa,pb]::(zipP pl1 pl2).drop (k+1):=by
      rw [List.drop_eq_getElem_cons hlt]
      rw [List.getElem?_eq_getElem hlt] at ez
      rw [Option.some.inj ez]
    have I5':=I5.pinned (stat fr3) (zip_obj st5)
    rw [hdrop] at e3
    have e3':(match setAll is [pa,pb] ρ3 with
        | some ρ1=>(match g ρ1 with | .next ρ'=>forT is g ((zipP pl1 pl2).drop (k+1)) ρ' | .cont ρ'=>forT is g ((zipP pl1 pl2).drop (k+1)) ρ' | .brk ρ'=>.next ρ' | o=>o)
        | none=>.stuck)=forT is g (zipP pl1 pl2) ρ:=e3
    clear e3
    cases hsa:setAll is [pa,pb] ρ3 with
    | none=>rw [hsa] at e3';exact absurd e3'.symm hs
    | some ρ4 =>
      rw [hsa] at e3'
      have e3:(match g ρ4 with | .next ρ'=>forT is g ((zipP pl1 pl2).drop (k+1)) ρ' | .cont ρ'=>forT is g ((zipP pl1 pl2).drop (k+1)) ρ' | .brk ρ'=>.next ρ' | o=>o)=forT is g (zipP pl1 pl2) ρ:=e3'
      have rr:Rps X.K cl Hf3 [xa,xb] [pa,pb]:=.cons (ra.keep sm3) (.cons (rb.keep sm3) .nil)
      have hlen:=setAll_len hsa
      · refine wpAny_passesOwn hp (assign_Tuple_tuple (I5'.ok.hd hc) itp (by rw [hn,hlen];rfl) hst fun h' hx=>?_)
        have I5'':=I5'.kept (h':=h') (t':=s5.toks) fun b o e=>hx b o (Nat.ne_of_lt (Heap.lt_size e)) e
        refine thn (hgs _ _ σ3 _ _ _ _ I5'' (.cons ru1 (.cons ru2 .nil)) (by rw [hlen];rfl)) fun _ s6 I6=>?_
        have r6:=rep_sets r3 rr hsa (fun i hi=>by rw [I3.len];exact hil i hi)
        have hg:g ρ4≠.stuck:=fun z=>hs (by rw [← e3,z])
        have smHf:Same Hf Hf3:=x2.frz.trans sm3
        refine wpAny_passesOwn hp (wpAny_mono (hb _ s6 _ Hf0 H0 Hf3 _ _ I6 r6 hg) (fun fl s7 q7=>?_) fun u s7 q7=>?_)
        · have again:∀ {ρ7:MEnv}{σ7:SV}{Hf7 H7:Hp},Inv X (pins ++ pinsAt [z,TI,TO,i1,i2] s5.heap) σ7 H7 s7→Rep X.K cl Hf0 H0 Hf7 H7 σ7 ρ7→Same Hf2 Hf7→forT is g ((zipP pl1 pl2).drop (k+1)) ρ7=forT is g (zipP pl1 pl2) ρ →
              ∃ m,m<(zipP pl1 pl2).length - k∧∃ k ρ' σ' Hf' H',Inv X pins σ' H' s7∧ZipSt z TI TO i1 i2 l1 l2 k s7.heap∧(∀ b∈[z,TI,TO,i1,i2],H' b=none)∧Rep X.K cl Hf0 H0 Hf' H' σ' ρ'∧Same Hf2 Hf'∧m=(zipP pl1 pl2).length - k∧k≤(zipP pl1 pl2).length∧forT is g ((zipP pl1 pl2).drop k) ρ'=forT is g (zipP pl1 pl2) ρ:=fun {ρ7 σ7 Hf7 H7} I7 r7 sm7 e7=>by
            refine ⟨(zipP pl1 pl2).length - (k+1),by omega,k+1,ρ7,σ7,Hf7,H7,I7.unpinned,zip_keep st5 fun b hb o e=>(I7.pin (b,o) (List.mem_append_right _ (List.mem_append_right _ (mem_pinsAt hb e)))).1,fun b hb=>?_,r7,sm7,rfl,hlt,e7⟩
            obtain ⟨o,e,d⟩:=zip_obj st5 b hb
            exact (I7.pin (b,o) (List.mem_append_right _ (List.mem_append_right _ (mem_pinsAt hb e)))).2.1
          cases fl with
          | next =>
            obtain ⟨ρ7,σ7,Hf7,H7,e7,I7,r7,sm7⟩:=q7
            rw [e7] at e3
            exact again I7 r7 (sm3.trans sm7) e3
          | cont =>
            obtain ⟨ρ7,σ7,Hf7,H7,e7,I7,r7,sm7⟩:=q7
            rw [e7] at e3
            exact again I7 r7 (sm3.trans sm7) e3
          | brk =>
            obtain ⟨ρ7,σ7,Hf7,H7,e7,I7,r7,sm7⟩:=q7
            rw [e7] at e3
            rw [← e3]
            exact ⟨ρ7,σ7,Hf7,H7,rfl,I7.unpinned,r7,smHf.trans sm7⟩
          | ret u =>
            obtain ⟨p7,v7,σ7,Hf7,H7,e7,I7,ex7,rv7,rp7⟩:=q7
            rw [e7] at e3
            rw [← e3]
            exact ⟨p7,v7,σ7,Hf7,H7,rfl,I7.unpinned,ex7,rv7,rp7⟩
        · obtain ⟨c7,ρ7,σ7,Hf7,H7,ee7,e7,eu7,I7,r7,sm7,x7⟩:=q7
          rw [e7] at e3
          rw [← e3]
          exact ⟨c7,ρ7,σ7,Hf7,H7,ee7,rfl,eu7,I7.unpinned,r7,smHf.trans sm7,x7.fewer⟩
  · have hke:k=(zipP pl1 pl2).length:=by omega
    subst hke
    refine wpAny_passesOwn hp (thn (zip_done hc D I3 (stat fr3) st3 (smH.seq sq1) (smH.seq sq2) (by have a:=rr1.length;have b:=rr2.length;omega)) fun rr s4 ⟨hr,I4⟩=>?_)
    subst hr
    rw [List.drop_length] at e3
    rw [← e3]
    exact wpAny_execs_nil ⟨ρ3,σ3,Hf3,H3,rfl,I4,r3,x2.frz.trans sm3⟩
theorem comp_runZ {elt e1 e2:Expr}{f1 f2:FE}{zp cpos:Pos}{ts:List Expr}{kt:Nat}{Ns xs:List Str}{x:Str}{px pos pos':Pos}{sc:Scope}{cs:List (Str×Addr)}{ifs:List Expr}{t:FT}{f:FE}{n mm:Nat}{use:Option (Value→Sem Unit)}{Q:Value→Shared→Prop}{E:Value→Shared→Prop}
    {pins:List (Addr×Obj)}{s:Shared}{σ:SV}{Hf0 H0 Hf H:Hp}{ρ:MEnv} (hc:X.calm=true) (c0:X.Ok→Cap X Ns x sc cs) (hn:X.N.length=n) (hm:xs.length=mm) (hnd:(Ns ++ xs).Nodup) (hnm:Nms ts xs) (hhere:∀ y∈xs,sc.names.lookup y=some .local) (h1:ME X cl e1 f1) (h2:ME X cl e2 f2) (hg:Gl X "zip") (hmg:X.mg "zip"=none)
    (ht:∀ C s H fp,MC (cxT X Ns xs sc cs C s H fp) cl ifs t) (hb:∀ C s H fp,ME (cxT X Ns xs sc cs C s H fp) cl elt f) (hfs:∀ y,foldedSetIterable (.Call (.Name "zip" zp) [e1,e2] [] cpos) X.env y=pure y) (hse:starEach [e1,e2] X.env=[(false,eval e1 X.env),(false,eval e2 X.env)]) (hse2:starEach [e2] X.env=[(false,eval e2 X.env)])
    (han:∀ env:Env,(assignEach ts env).length=xs.length) (hst:∀ env:Env,(assignEach ts env).findIdx? (·.1)=none)
    (I:Inv X pins σ H s) (r:Rep X.K cl Hf0 H0 Hf H σ ρ) (hs:fCompT n mm (iZip f1 f2) t f ρ≠.stuck) (hE:∀ u s',ExP X cl pins σ Hf H (iZip f1 f2 ρ) u s'→E u s')
    (hQ:∀ (rs:List PV) (s5:Shared) (Hf5 H5:Hp) (l C:Addr),fCompT n mm (iZip f1 f2) t f ρ = .ok (.lst rs)→Inv X pins σ H5 s5→Ext Hf H Hf5 H5→Rp X.K cl Hf5 (.ref l) (.lst rs)→FpOk X pins H5 C→(∃ m,s5.heap.Ns C m)→compPost (model X.prog X.w) X.A E use Q (.ref l) C (.ok .next) s5) :
    wpAny (model X.prog X.w) X.A (comprehension (.ListComp elt [⟨.Tuple ts kt px,(.Call (.Name "zip" zp) [e1,e2] [] cpos),ifs,0⟩] sc pos) sc X.env pos' (newList []) false (eval (.Call (.Name "zip" zp) [e1,e2] [] cpos) X.env) use) Q E s:=by
  have c:=c0 I.ok
  have hfr:iZip f1 f2 ρ≠.stuck:=fun z=>hs (by unfold fCompT;rw [z];rfl)
  refine wpAny_comprehension_free (use:=use) rfl hfs c.clos c.kind c.names (wpAny_mono (zip_made h1 h2 hg hmg I r hfr hse hse2) (fun xv s1 q1=>wpAny_mono q1 (fun itv s2 q2=>?_) hE) hE)
  obtain ⟨ps,z,TI,TO,i1,i2,l1,l2,xv1,xv2,pl1,pl2,Hf2,H2,ee,⟨rfl,eps,D,I2,st2,ff2,x2,sq1,sq2,rr1,rr2⟩⟩:=q2
  have ef:fCompT n mm (iZip f1 f2) t f ρ=compKT n mm t f ρ ps:=by unfold fCompT;rw [ee];rfl
  have hs':compKT n mm t f ρ ps≠.stuck:=by rw [← ef];exact hs
  obtain ⟨hz,rs,ec,ek⟩:ps.length≤1000000∧∃ rs,compLT n mm t f ρ ps = .ok rs∧compKT n mm t f ρ ps = .ok (.lst rs):=by
    unfold compKT at hs' ⊢
    by_cases hz:ps.length≤1000000
    · rw [if_pos hz] at hs' ⊢
      cases ec:compLT n mm t f ρ ps with
      | ok rs=>exact ⟨hz,rs,rfl,rfl⟩
      | exc d=>rw [ec] at hs';exact absurd rfl hs'
      | stuck=>rw [ec] at hs';exact absurd rfl hs'
    · rw [if_neg hz] at hs';exact absurd rfl hs'
  have ek':fCompT n mm (iZip f1 f2) t f ρ = .ok (.lst rs):=ef.trans ek
  have nsm:H2 s2.heap.objs.size=none:=I2.hok.fresh (Nat.le_refl _)
  have fpl:∀ b∈[z,TI,TO,i1,i2],b<s2.heap.objs.size:=fun b hb=>by
    obtain ⟨o,ho,_⟩:=zip_obj st2 b hb
    exact Heap.lt_size ho
  refine wpAny_newList ?_
  have k3:∀ b u,s2.heap.get? b=some u→(s2.heap.push { cls:=.type "list",data:=.seq ([]:List Value).toArray }).get? b=some u:=fun b u q=>Heap.get?_push_of_some _ q
  have I3:Inv X pins σ (upd H2 s2.heap.objs.size (.lst [])) { s2 with heap:=s2.heap.push { cls:=.type "list",data:=.seq ([]:List Value).toArray } } :=
    I2.laid (a:=s2.heap.objs.size) (o:=.lst []) (t':=s2.toks) k3 (Nat.le_refl _) ⟨Nat.zero_le _,[],0,.nil,Heap.get?_push_size _ rfl⟩
  generalize hl:s2.heap.objs.size=l at *
  have hf3:∀ b∈[z,TI,TO,i1,i2],FpOk X pins (upd H2 l (.lst [])) b:=fun b hb=>⟨by rw [upd_ne (Nat.ne_of_lt (fpl b hb))];exact (ff2 b hb).1,(ff2 b hb).2⟩
  generalize hs3:({ s2 with heap:=s2.heap.push { cls:=.type "list",data:=.seq ([]:List Value).toArray } }:Shared)=s3 at I3 ⊢
  have hl3:∀ b∈[z,TI,TO,i1,i2],b<s3.heap.objs.size:=fun b hb=>by
    rw [← hs3]
    show b<(s2.heap.push _).objs.size
    rw [Heap.size_push,hl];exact Nat.lt_succ_of_lt (fpl b hb)
  have st3:ZipSt z TI TO i1 i2 l1 l2 0 s3.heap:=zip_keep st2 fun b _ o e=>by rw [← hs3];exact k3 b o e
  refine wpAny_newFunctionEnv c.nocell (by intro y hy;simp at hy) (fun hh1 hn1 hsb=>?_) c.kind
  have kC:∀ b o,s3.heap.get? b=some o→hh1.get? b=some o:=fun b o e=>hsb.extBut b o (Nat.ne_of_lt (Heap.lt_size e)) (Heap.get?_push_of_some _ e)
  have IB:=cxT_inv (xs:=xs) (tk:=s3.toks+([]:List (Str×Value)).length) I3 c hf3 hl3 hn1 kC
  have x3:Ext Hf2 H2 Hf2 (upd H2 l (.lst [])):=Ext.newH x2.sub nsm (.lst [])
  have hf2l:Hf2 l=none:=x2.sub.free nsm
  have stB:ZipSt z TI TO i1 i2 l1 l2 0 hh1:=zip_keep st3 fun b _ o e=>kC b o e
  have rk:=r.keep x2
  have hsl:σ.length=n:=by rw [I.len,hn]
  have lz:=zipP_len pl1 pl2
  rw [← eps] at lz
  have hNn:Ns.length=n:=c.len.trans hn
  have hLx:∀ y∈xs,(relabel sc X.env).names.lookup y=some .local:=fun y hy=>lookup_relabel_local (hhere y hy)
  have hCf:∀ b∈[z,TI,TO,i1,i2],b≠s3.heap.objs.size:=fun b hb=>Nat.ne_of_lt (hl3 b hb)
  have stat:∀ {H':Hp},(∀ b∈[z,TI,TO,i1,i2],H' b=none)→∀ b∈[z,TI,TO,i1,i2],FpOk (cxT X Ns xs sc cs s3.heap.objs.size s3 (upd H2 l (.lst [])) [z,TI,TO,i1,i2]) [] H' b:=fun hn'=>cxT_fp c I3 hCf hf3 hn'
  have hbb:=hb s3.heap.objs.size s3 (upd H2 l (.lst [])) [z,TI,TO,i1,i2]
  have htt:=ht s3.heap.objs.size s3 (upd H2 l (.lst [])) [z,TI,TO,i1,i2]
  have hgs:MGs (cxT X Ns xs sc cs s3.heap.objs.size s3 (upd H2 l (.lst [])) [z,TI,TO,i1,i2]) ts (ixs σ.length xs):=by
    have:=mgs_blk (X:=cxT X Ns xs sc cs s3.heap.objs.size s3 (upd H2 l (.lst [])) [z,TI,TO,i1,i2]) hnd (pre:=Ns) hnm rfl hLx
    rw [hNn,← hsl] at this;exact this
  have rpad:Rep X.K cl Hf0 H0 Hf2 H2 σ (padTo n ρ):=by
    have r1:=rk
    refine ⟨r1.ext,fun i q h=>r1.slot i q (padTo_get h),fun i j qs1 qs2 a h1 h2 h3 h4=>r1.dist i j qs1 qs2 a (padTo_get h1) (padTo_get h2) h3 h4⟩
  have loop:codeAny (model X.prog X.w) X.A (.compLoop (.ListComp elt [⟨.Tuple ts kt px,(.Call (.Name "zip" zp) [e1,e2] [] cpos),ifs,0⟩] sc pos) 0 (.ref z) (.ref l) (compEnvC sc cs s3.heap.objs.size X.env))
      (compPost (model X.prog X.w) X.A E use Q (.ref l) s3.heap.objs.size) { s3 with heap:=hh1,toks:=s3.toks+([]:List (Str×Value)).length }:=by
    refine compLoop_let (fun m s'=>∃ (k:Nat) (ys:List V) (qs rest:List PV) (Hf' H':Hp) (v:SV),v.length=xs.length∧Inv (cxT X Ns xs sc cs s3.heap.objs.size s3 (upd H2 l (.lst [])) [z,TI,TO,i1,i2]) [] (σ ++ v) H' s'∧ZipSt z TI TO i1 i2 l1 l2 k s'.heap∧(∀ b∈[z,TI,TO,i1,i2],H' b=none)∧Ext Hf2 H2 Hf' H'∧H' l=some (.lst ys)∧Hf' l=none ∧
      Rps X.K cl Hf' ys qs∧m=ps.length - k∧k≤ps.length∧qs.length≤k∧compLT n mm t f ρ (ps.drop k) = .ok rest∧qs ++ rest=rs) ?_ ps.length
      ⟨0,[],[],rs,Hf2,upd H2 l (.lst []),List.replicate xs.length none,List.length_replicate,IB,stB,fun b hb=>(hf3 b hb).1,x3,upd_same,hf2l,.nil,by omega,Nat.zero_le _,Nat.zero_le _,ec,rfl⟩
    rintro m s4 ⟨k,ys,qs,rest,Hf4,H4,v4,lv4,I4,st4,fr4,x4,hl4,hfl4,rq,rfl,hk,hqk,e4,eq4⟩
    have smH:Same Hf2 H4:=x4.frz.trans x4.sub
    by_cases hlt:k<ps.length
    · obtain ⟨pa,pb,ea,eb,ez⟩:=zipP_get (l:=pl1) (m:=pl2) (by rw [← eps];exact hlt)
      rw [← eps] at ez
      obtain ⟨xa,exa,ra⟩:=rr1.get'' ea
      obtain ⟨xb,exb,rb⟩:=rr2.get'' eb
      refine wpAny_mono (zip_item (X:=cxT X Ns xs sc cs s3.heap.objs.size s3 (upd H2 l (.lst [])) [z,TI,TO,i1,i2]) (ts:=ts) (kt:=kt) (pos:=px) (E:=fun _ _=>False) D I4 (stat fr4) st4 (smH.seq sq1) (smH.seq sq2) exa exb) (fun rr s5 ⟨T,u1,u2,hr,ru1,ru2,h5⟩=>?_) fun _ _ z=>z
      subst hr
      refine thn h5 fun _ s6 ⟨I6,itp,st6⟩=>?_
      have hdrop:ps.drop k = .tup [pa,pb]::ps.drop (k+1):=by
        rw [List.drop_eq_getElem_cons hlt]
        rw [List.getElem?_eq_getElem hlt] at ez
        rw [Option.some.inj ez]
      rw [hdrop] at e4
      have I6':=I6.pinned (stat fr4) (zip_obj st6)
      obtain ⟨τ,eτ,e4'⟩:=compLT_cons e4
      obtain ⟨l6,el6,ll6,rfl⟩:=tupE_some eτ
      cases el6
      have rr6:Rps X.K cl Hf4 [xa,xb] [pa,pb]:=.cons (ra.keep x4.frz) (.cons (rb.keep x4.frz) .nil)
      · have lvs:=rr6.length
        refine assign_Tuple_tuple (I6'.ok.hd hc) itp (by rw [han,hm,← ll6];rfl) (hst _) fun h' hx=>?_
        have I6'':=I6'.kept (h':=h') (t':=s6.toks) fun b o e=>hx b o (Nat.ne_of_lt (Heap.lt_size e)) e
        refine thn (hgs _ _ _ _ _ _ _ I6'' (.cons ru1 (.cons ru2 .nil)) (by rw [ixs_len,hm,← ll6];rfl)) fun _ s7 I7=>?_
        rw [sets_blk (by rw [hm,← ll6];rfl) lv4] at I7
        have r7:=Rep.snocs (rpad.keep x4) (by rw [padTo_len,hsl]) rr6
        have again:∀ {s9:Shared}{Hf9 H9:Hp}{ys9:List V}{qs9 rest9:List PV}{vv:SV},vv.length=xs.length→Inv (cxT X Ns xs sc cs s3.heap.objs.size s3 (upd H2 l (.lst [])) [z,TI,TO,i1,i2]) ([] ++ pinsAt [z,TI,TO,i1,i2] s6.heap) (σ ++ vv) H9 s9→Ext Hf2 H2 Hf9 H9→H9 l=some (.lst ys9)→Hf9 l=none→Rps X.K cl Hf9 ys9 qs9→qs9.length≤k+1 →
            compLT n mm t f ρ (ps.drop (k+1)) = .ok rest9→qs9 ++ rest9=rs →
            ∃ m,m<ps.length - k∧∃ (k:Nat) (ys:List V) (qs rest:List PV) (Hf' H':Hp) (v:SV),v.length=xs.length∧Inv (cxT X Ns xs sc cs s3.heap.objs.size s3 (upd H2 l (.lst [])) [z,TI,TO,i1,i2]) [] (σ ++ v) H' s9∧ZipSt z TI TO i1 i2 l1 l2 k s9.heap∧(∀ b∈[z,TI,TO,i1,i2],H' b=none)∧Ext Hf2 H2 Hf' H'∧H' l=some (.lst ys)∧Hf' l=none ∧
              Rps X.K cl Hf' ys qs∧m=ps.length - k∧k≤ps.length∧qs.length≤k∧compLT n mm t f ρ (ps.drop k) = .ok rest∧qs ++ rest=rs:=fun {s9 Hf9 H9 ys9 qs9 rest9 vv} lvv I9 x9 hl9 hfl9 rq9 hq9 ec9 eq9=>by
          refine ⟨ps.length - (k+1),by omega,k+1,ys9,qs9,rest9,Hf9,H9,vv,lvv,I9.unpinned,zip_keep st6 fun b hb o e=>(I9.pin (b,o) (List.mem_append_right _ (List.mem_append_right _ (mem_pinsAt hb e)))).1,fun b hb=>?_,x9,hl9,hfl9,rq9,rfl,hlt,hq9,ec9,eq9⟩
          obtain ⟨o,e,d⟩:=zip_obj st6 b hb
          exact (I9.pin (b,o) (List.mem_append_right _ (List.mem_append_right _ (mem_pinsAt hb e)))).2.1
        have nl4:H4 l≠none:=by rw [hl4];intro z;cases z
        rcases e4' with ⟨et,e5⟩ | ⟨et,v,vs',ef,e5,er⟩
        · refine mc_run htt I7 r7 et fun s8 Hf8 H8 I8 x8=>?_
          rw [if_neg (by decide)]
          exact again (by rw [hm,← ll6];rfl) I8 (x4.trans x8) (x8.all _ _ hl4) (by rw [x8.old l nl4];exact hfl4) (rq.keep x8.frz) (by omega) e5 eq4
        · refine mc_run htt I7 r7 et fun s8 Hf8 H8 I8 x8=>?_
          rw [if_pos rfl]
          have r8:=r7.keep x8
          refine wpAny_mono (hbb _ s8 _ Hf0 H0 Hf8 H8 _ I8 r8 (by rw [ef];intro z;cases z)) (fun u s9 q9=>?_) fun u s9 q9=>?_
          · obtain ⟨p9,v9,Hf9,H9,e9,I9,rv9,x9,rp9⟩:=q9
            rw [ef] at e9;cases e9
            have hl8:H8 l=some (.lst ys):=x8.all _ _ hl4
            have hl9:H9 l=some (.lst ys):=x9.all _ _ hl8
            have hfl9:Hf9 l=none:=by rw [x9.old l (by rw [hl8];intro z;cases z),x8.old l nl4];exact hfl4
            refine thn (mt_append (X:=cxT X Ns xs sc cs s3.heap.objs.size s3 (upd H2 l (.lst [])) [z,TI,TO,i1,i2]) _ s9 _ H9 (.ref l) [v9] (.ref l) [u] (fun w H'=>H'=upd H9 l (.lst (ys ++ [v9]))) I9 rfl (.cons rv9 .nil) ⟨l,ys,v9,rfl,rfl,hl9,by rw [rq.length];exact Nat.lt_of_le_of_lt (show qs.length≤1000000 by omega) (by decide),rfl⟩) fun w s10 ⟨w',H10,I10,_,q10⟩=>?_
            subst q10
            have x49:=(x4.trans x8).trans x9
            have x10:Ext Hf2 H2 Hf9 (upd H9 l (.lst (ys ++ [v9]))):=by
              refine ⟨fun b o q=>?_,x49.frz,fun b o q=>?_,x49.old⟩
              · have e:b≠l:=fun z=>by rw [z,nsm] at q;cases q
                rw [upd_ne e];exact x49.all b o q
              · have e:b≠l:=fun z=>by rw [z,hfl9] at q;cases q
                rw [upd_ne e];exact x49.sub b o q
            exact again (by rw [hm,← ll6];rfl) I10 x10 upd_same hfl9 (((rq.keep x8.frz).keep x9.frz).append (.cons rp9 .nil)) (by rw [List.length_append];simp;omega) e5 (by rw [List.append_assoc,← eq4,er];rfl)
          · obtain ⟨d,e9,_⟩:=q9
            rw [ef] at e9;cases e9
    · have hke:k=ps.length:=by omega
      subst hke
      refine wpAny_mono (zip_done (X:=cxT X Ns xs sc cs s3.heap.objs.size s3 (upd H2 l (.lst [])) [z,TI,TO,i1,i2]) (E:=fun _ _=>False) hc D I4 (stat fr4) st4 (smH.seq sq1) (smH.seq sq2) (by have a:=rr1.length;have b:=rr2.length;omega)) (fun rr s5 ⟨hr,I5⟩=>?_) fun _ _ z=>z
      subst hr
      rw [List.drop_length] at e4
      cases e4
      rw [List.append_nil] at eq4
      subst eq4
      obtain ⟨m5,hn5,_⟩:=I5.loc
      have xx:=x2.trans x4
      have hHl:H l=none:=by
        cases q:H l with
        | none=>rfl
        | some o=>have:=x2.all l o q;rw [nsm] at this;cases this
      have IX:Inv X pins σ H4 s5:=I3.call' I5.os I5.base I5.hok I5.bare fun b hb=>⟨(hf3 b hb).2.2.2.1,(hf3 b hb).2.1,(hf3 b hb).2.2.2.2.1,(hf3 b hb).2.2.2.2.2⟩
      exact hQ qs s5 (upd Hf4 l (.lst ys)) H4 l s3.heap.objs.size ek' IX (xx.freeze hl4 hfl4 hHl) (.lst (SqL.of upd_same) (rq.keep (same_upd hfl4 _))) (I3.fpOk (Nat.le_refl _) I5.free) ⟨m5,hn5⟩
  exact codeAny_compStart_list loop (wpAny_pyIter_zip stB.1 loop)
theorem me_compZ {elt e1 e2:Expr}{f1 f2:FE}{zp cpos:Pos}{ts:List Expr}{kt:Nat}{Ns xs:List Str}{x:Str}{px pos:Pos}{sc:Scope}{cs:List (Str×Addr)}{ifs:List Expr}{t:FT}{f:FE}{n mm:Nat} (hc:X.calm=true) (c0:X.Ok→Cap X Ns x sc cs) (hn:X.N.length=n) (hm:xs.length=mm) (hnd:(Ns ++ xs).Nodup) (hnm:Nms ts xs) (hhere:∀ y∈xs,sc.names.lookup y=some .local) (h1:ME X cl e1 f1) (h2:ME X cl e2 f2) (hg:Gl X "zip") (hmg:X.mg "zip"=none)
    (ht:∀ C s H fp,MC (cxT X Ns xs sc cs C s H fp) cl ifs t) (hb:∀ C s H fp,ME (cxT X Ns xs sc cs C s H fp) cl elt f) (hfs:∀ y,foldedSetIterable (.Call (.Name "zip" zp) [e1,e2] [] cpos) X.env y=pure y) (hse:starEach [e1,e2] X.env=[(false,eval e1 X.env),(false,eval e2 X.env)]) (hse2:starEach [e2] X.env=[(false,eval e2 X.env)])
    (han:∀ env:Env,(assignEach ts env).length=xs.length) (hst:∀ env:Env,(assignEach ts env).findIdx? (·.1)=none) :
    ME X cl (.ListComp elt [⟨.Tuple ts kt px,(.Call (.Name "zip" zp) [e1,e2] [] cpos),ifs,0⟩] sc pos) (fCompT n mm (iZip f1 f2) t f):=by
  refine ⟨?_⟩
  intro pins s σ Hf0 H0 Hf H ρ I r hs
  rw [eval_ListComp]
  refine comp_runZ hc c0 hn hm hnd hnm hhere h1 h2 hg hmg ht hb hfs hse hse2 han hst I r hs (fun u s' ⟨d,e1,y⟩=>⟨d,by unfold fCompT;rw [e1];rfl,y⟩) fun rs s5 Hf5 H5 l C ek I5 x5 rp hf ⟨m,hm⟩=>?_
  exact ⟨m,hm,fun h' hsC=>⟨.lst rs,.ref l,Hf5,H5,ek,inv_letgo I5 hf hsC,rfl,x5,rp⟩⟩
theorem ms_setCZ {i:Nat}{y:Str}{py spos:Pos}{elt e1 e2:Expr}{f1 f2:FE}{zp cpos:Pos}{ts:List Expr}{kt:Nat}{Ns xs:List Str}{x:Str}{px pos:Pos}{sc:Scope}{cs:List (Str×Addr)}{ifs:List Expr}{t:FT}{f:FE}{n mm:Nat} (hN:X.N.Nodup) (hy:X.N[i]?=some y) (hl:Loc X.env.scope y) (hc:X.calm=true) (c0:X.Ok→Cap X Ns x sc cs) (hn:X.N.length=n) (hm:xs.length=mm) (hnd:(Ns ++ xs).Nodup) (hnm:Nms ts xs) (hhere:∀ y∈xs,sc.names.lookup y=some .local) (h1:ME X cl e1 f1) (h2:ME X cl e2 f2) (hg:Gl X "zip") (hmg:X.mg "zip"=none)
    (ht:∀ C s H fp,MC (cxT X Ns xs sc cs C s H fp) cl ifs t) (hb:∀ C s H fp,ME (cxT X Ns xs sc cs C s H fp) cl elt f) (hfs:∀ y,foldedSetIterable (.Call (.Name "zip" zp) [e1,e2] [] cpos) X.env y=pure y) (hse:starEach [e1,e2] X.env=[(false,eval e1 X.env),(false,eval e2 X.env)]) (hse2:starEach [e2] X.env=[(false,eval e2 X.env)])
    (han:∀ env:Env,(assignEach ts env).length=xs.length) (hst:∀ env:Env,(assignEach ts env).findIdx? (·.1)=none)
    (hsw:swapsWith (.ListComp elt [⟨.Tuple ts kt px,(.Call (.Name "zip" zp) [e1,e2] [] cpos),ifs,0⟩] sc pos) (some (.Name y py)) spos.line X.env=pure true)
    (hf:X.fn y=true∨X.env.scope.names.lookup y=some .local) :
    MS X cl (.Assign [.Name y py] (.ListComp elt [⟨.Tuple ts kt px,(.Call (.Name "zip" zp) [e1,e2] [] cpos),ifs,0⟩] sc pos) spos) (sSet i (fCompT n mm (iZip f1 f2) t f)):=by
  refine ⟨?_⟩
  intro pins s σ Hf0 H0 Hf H ρ I r hs
  unfold sSet at hs ⊢
  have hs':fCompT n mm (iZip f1 f2) t f ρ≠.stuck:=fun z=>hs (by rw [z];rfl)
  rw [exec_Assign_Name_used _ _ _ _ hsw]
  refine wpAny_bind (wpAny_standAt (wpAny_bind ?_))
  show wpAny _ X.A (do let _ ← comprehension (.ListComp elt [⟨.Tuple ts kt px,(.Call (.Name "zip" zp) [e1,e2] [] cpos),ifs,0⟩] sc pos) sc X.env _ (newList []) false (eval (.Call (.Name "zip" zp) [e1,e2] [] cpos) X.env) (some (assign (.Name y py) X.env))) _ _ s
  have hE:∀ u s',ExP X cl pins σ Hf H (iZip f1 f2 ρ) u s'→ExS X cl pins Hf0 H0 Hf (ofR (fCompT n mm (iZip f1 f2) t f ρ) ρ fun v=>.next (ρ.set i (some v))) u s':=fun u s' ⟨d,e1,z⟩=>by
    have e2:fCompT n mm (iZip f1 f2) t f ρ = .exc d:=by unfold fCompT;rw [e1];rfl
    rw [e2]
    exact exs_of r z
  refine wpAny_bind (wpAny_mono (comp_runZ (use:=some (assign (.Name y py) X.env)) (Q:=fun _ s'=>OkS X cl pins Hf0 H0 Hf (ofR (fCompT n mm (iZip f1 f2) t f ρ) ρ fun v=>.next (ρ.set i (some v))) .next s') hc c0 hn hm hnd hnm hhere h1 h2 hg hmg ht hb hfs hse hse2 han hst I r hs' hE ?_) (fun _ s' hq=>wpAny_pure (wpAny_pure hq)) fun _ _ e=>e)
  intro rs s5 Hf5 H5 l C ek I5 x5 rp hfC hmm
  obtain ⟨m,hm⟩:=hmm
  show wpAny _ X.A (assign (.Name y py) X.env (.ref l)) _ _ s5
  have hil:i<σ.length:=by rw [I.len];exact (List.getElem?_eq_some_iff.mp hy).1
  refine wpAny_assign_Name (store_ok2 I5 hN hy hl (v:=.ref l) rfl (fun s6 I6 h6=>?_) hf)
  obtain ⟨a,hs6,ha⟩:=h6
  have neC:C≠a:=by
    rcases ha with rfl | ha
    · exact hfC.2.1
    · exact fun z=>hfC.2.2.2.2.1 y a ha z.symm
  refine ⟨m,hm.sameBut hs6 neC,fun h' hsC=>?_⟩
  rw [ek]
  exact ⟨_,_,Hf5,H5,rfl,inv_letgo I6 hfC hsC,(r.keep x5).set i rp hil,x5.frz⟩
end
section
variable {P:Program}{w:World}{K:PySem.W.Frag}{mg:Str→Option Value}{base:Heap}{cl:Nat→Addr}
theorem msCZ {N xs:List Str}{qual:Str}{scope:Scope}{f:Addr}{cd:Value}{A:Around}{outer:List Env}{s:Shared}{H:Hp}{E:XK}{i:Nat}{y:Str}{py spos:Pos}{elt e1 e2:Expr}{f1 f2:FE}{zp cpos:Pos}{ts:List Expr}{kt:Nat}{x:Str}{px pos:Pos}{sc:Scope}{ifs:List Expr}{t:FT}{g:FE}{n mm:Nat}
    (hnd:N.Nodup) (hy:N[i]?=some y) (hl:Loc scope y) (hcap:capB N x sc scope=true) (hn:N.length=n) (hnm:Nms ts xs) (hm:xs.length=mm) (hnd2:(N ++ xs).Nodup) (hhere:∀ y∈xs,sc.names.lookup y=some .local) (h1:ME (cxM P w K mg base cl N qual scope f cd A outer s H E) cl e1 f1) (h2:ME (cxM P w K mg base cl N qual scope f cd A outer s H E) cl e2 f2) (hg:Gl (cxM P w K mg base cl N qual scope f cd A outer s H E) "zip") (hmg:mg "zip"=none)
    (ht:∀ C s' H' fp,MC (cxT (cxM P w K mg base cl N qual scope f cd A outer s H E) N xs sc (csOf sc (cxM P w K mg base cl N qual scope f cd A outer s H E).env) C s' H' fp) cl ifs t)
    (hb:∀ C s' H' fp,ME (cxT (cxM P w K mg base cl N qual scope f cd A outer s H E) N xs sc (csOf sc (cxM P w K mg base cl N qual scope f cd A outer s H E).env) C s' H' fp) cl elt g)
    (hfs:∀ y,foldedSetIterable (.Call (.Name "zip" zp) [e1,e2] [] cpos) (cxM P w K mg base cl N qual scope f cd A outer s H E).env y=pure y:=by intro _;rfl)
    (hse:starEach [e1,e2] (cxM P w K mg base cl N qual scope f cd A outer s H E).env=[(false,eval e1 (cxM P w K mg base cl N qual scope f cd A outer s H E).env),(false,eval e2 (cxM P w K mg base cl N qual scope f cd A outer s H E).env)]:=by rfl) (hse2:starEach [e2] (cxM P w K mg base cl N qual scope f cd A outer s H E).env=[(false,eval e2 (cxM P w K mg base cl N qual scope f cd A outer s H E).env)]:=by rfl)
    (han:∀ env:Env,(assignEach ts env).length=xs.length:=by intro _;rfl) (hst:∀ env:Env,(assignEach ts env).findIdx? (·.1)=none:=by intro _;rfl)
    (hsw:swapsWith (.ListComp elt [⟨.Tuple ts kt px,(.Call (.Name "zip" zp) [e1,e2] [] cpos),ifs,0⟩] sc pos) (some (.Name y py)) spos.line (cxM P w K mg base cl N qual scope f cd A outer s H E).env=pure true:=by rfl) :
    MS (cxM P w K mg base cl N qual scope f cd A outer s H E) cl (.Assign [.Name y py] (.ListComp elt [⟨.Tuple ts kt px,(.Call (.Name "zip" zp) [e1,e2] [] cpos),ifs,0⟩] sc pos) spos) (sSet i (fCompT n mm (iZip f1 f2) t g)) :=
  ms_setCZ hnd hy hl rfl (fun ok=>cap_of hcap rfl (fun _ _ h _=>h) ok) hn hm hnd2 hnm hhere h1 h2 hg hmg ht hb hfs hse hse2 han hst hsw (.inl rfl)
theorem mcompZ {N xs:List Str}{qual:Str}{scope:Scope}{f:Addr}{cd:Value}{A:Around}{outer:List Env}{s:Shared}{H:Hp}{E:XK}{elt e1 e2:Expr}{f1 f2:FE}{zp cpos:Pos}{ts:List Expr}{kt:Nat}{x:Str}{px pos:Pos}{sc:Scope}{ifs:List Expr}{t:FT}{g:FE}{n mm:Nat}
    (hnd:N.Nodup) (hcap:capB N x sc scope=true) (hn:N.length=n) (hnm:Nms ts xs) (hm:xs.length=mm) (hnd2:(N ++ xs).Nodup) (hhere:∀ y∈xs,sc.names.lookup y=some .local) (h1:ME (cxM P w K mg base cl N qual scope f cd A outer s H E) cl e1 f1) (h2:ME (cxM P w K mg base cl N qual scope f cd A outer s H E) cl e2 f2) (hg:Gl (cxM P w K mg base cl N qual scope f cd A outer s H E) "zip") (hmg:mg "zip"=none)
    (ht:∀ C s' H' fp,MC (cxT (cxM P w K mg base cl N qual scope f cd A outer s H E) N xs sc (csOf sc (cxM P w K mg base cl N qual scope f cd A outer s H E).env) C s' H' fp) cl ifs t)
    (hb:∀ C s' H' fp,ME (cxT (cxM P w K mg base cl N qual scope f cd A outer s H E) N xs sc (csOf sc (cxM P w K mg base cl N qual scope f cd A outer s H E).env) C s' H' fp) cl elt g)
    (hfs:∀ y,foldedSetIterable (.Call (.Name "zip" zp) [e1,e2] [] cpos) (cxM P w K mg base cl N qual scope f cd A outer s H E).env y=pure y:=by intro _;rfl)
    (hse:starEach [e1,e2] (cxM P w K mg base cl N qual scope f cd A outer s H E).env=[(false,eval e1 (cxM P w K mg base cl N qual scope f cd A outer s H E).env),(false,eval e2 (cxM P w K mg base cl N qual scope f cd A outer s H E).env)]:=by rfl) (hse2:starEach [e2] (cxM P w K mg base cl N qual scope f cd A outer s H E).env=[(false,eval e2 (cxM P w K mg base cl N qual scope f cd A outer s H E).env)]:=by rfl)
    (han:∀ env:Env,(assignEach ts env).length=xs.length:=by intro _;rfl) (hst:∀ env:Env,(assignEach ts env).findIdx? (·.1)=none:=by intro _;rfl) :
    ME (cxM P w K mg base cl N qual scope f cd A outer s H E) cl (.ListComp elt [⟨.Tuple ts kt px,(.Call (.Name "zip" zp) [e1,e2] [] cpos),ifs,0⟩] sc pos) (fCompT n mm (iZip f1 f2) t g) :=
  me_compZ rfl (fun ok=>cap_of hcap rfl (fun _ _ h _=>h) ok) hn hm hnd2 hnm hhere h1 h2 hg hmg ht hb hfs hse hse2 han hst
end
noncomputable def oRep:PV→PV→R PV
  | .lst l,.int k=>if 0≤k∧k≤1000000∧l.length*k.toNat≤sizeLine then .ok (.lst (List.replicate k.toNat l).flatten) else .stuck
  | _,_=>.stuck
section
variable {X:Cx}{cl:Nat→Addr}
theorem Rps.rep {K:PySem.W.Frag}{Hf:Hp}{vs:List V}{ps:List PV} (h:Rps K cl Hf vs ps):∀ k:Nat,Rps K cl Hf (List.replicate k vs).flatten (List.replicate k ps).flatten
  | 0=>.nil
  | k+1=>by
    rw [List.replicate_succ,List.replicate_succ,List.flatten_cons,List.flatten_cons]
    exact h.append (Rps.rep h k)
theorem me_rep {es:List Expr}{fa:FA}{b:Expr}{fb:FE}{lpos pos:Pos} (ha:MA X cl es fa) (hb:ME X cl b fb):ME X cl (.BinOp (.List es lpos) .Mult b pos) (fBin oRep (fLst fa) fb):=by
  refine ⟨?_⟩
  intro pins s σ Hf0 H0 Hf H ρ I r hs
  have asc:fBin oRep (fLst fa) fb ρ=(fa ρ).bind fun ps=>(if ps.length≤sizeLine then R.ok (PV.lst ps) else .stuck).bind fun x=>(fb ρ).bind fun y=>oRep x y:=by
    unfold fBin fLst
    cases fa ρ<;>rfl
  rw [asc] at hs ⊢
  refine wpAny_BinOp (wpAny_List_spliced (ha.run lpos I r (Ext.refl r.sub) hs fun ps vs us s1 Hf1 H1 _ e1 I1 rv x1 rps=>?_))
  rw [e1] at hs ⊢
  by_cases hz:ps.length≤sizeLine
  rotate_left
  · rw [if_neg hz] at hs;exact absurd rfl hs
  rw [if_pos hz] at hs ⊢
  have zz:vs.length≤sizeLine:=by rw [rps.length];exact hz
  refine ⟨by rw [← rv.length];exact zz,?_⟩
  have hf:H1 s1.heap.objs.size=none:=I1.hok.fresh (Nat.le_refl _)
  have I2:=I1.laid (a:=s1.heap.objs.size) (t':=s1.toks) (o:=.lst vs) (h':=s1.heap.push { cls:=.type "list",data:=.seq us.toArray }) (fun b u e=>Heap.get?_push_of_some _ e) (Nat.le_refl _) ⟨zz,us,0,rv,Heap.get?_push_size _ rfl⟩
  have x2:Ext Hf1 H1 (upd Hf1 s1.heap.objs.size (.lst vs)) (upd H1 s1.heap.objs.size (.lst vs)):=Ext.new x1.sub hf _
  generalize s1.heap.objs.size=a at *
  have hs2:((fb ρ).bind fun y=>oRep (.lst ps) y)≠.stuck:=hs
  refine hb.run I2 ((r.keep x1).keep x2) (x1.trans x2) hs2 fun q v' u' s3 Hf3 H3 e3 I3 rv' x3 rq=>?_
  rw [show ((R.ok (PV.lst ps)).bind fun x=>(fb ρ).bind fun y=>oRep x y)=((fb ρ).bind fun y=>oRep (.lst ps) y) from rfl]
  rw [e3] at hs2 ⊢
  cases q<;>first
    | exact absurd rfl hs2
    | skip
  rename_i k
  obtain ⟨⟨h0,h1,hzz⟩,e⟩:=ifOk hs2
  rw [show oRep (.lst ps) (.int k)=_ from e]
  cases rq
  have hH:H3 a=some (.lst vs):=x3.all _ _ upd_same
  have rps3:Rps X.K cl Hf3 vs ps:=(rps.keep x2.frz).keep x3.frz
  refine okp' rfl fun E=>(op_rep (X:=X.wish E)) pins s3 σ H3 (.ref a) (.int k) (.ref a) u' _ (I3.wish E) rfl rv' ?_
  exact ⟨a,k,vs,rfl,rfl,hH,by omega,by omega,by rw [rps.length];exact hzz,fun p hp=>⟨_,((x1.trans x2).trans x3).trans (Ext.new x3.sub hp _),.lst (SqL.of upd_same) ((Rps.rep rps3 k.toNat).keep (same_upd (x3.sub.free hp) _))⟩⟩
end
end Mi
namespace Mi
open PySem
theorem fVar_e (i:Nat) (x0:Option PV) (ρ0:MEnv):fVar i (x0::ρ0)=getV (x0::ρ0) i:=rfl
theorem getV_0 (o:Option PV) (r:MEnv):getV (o::r) 0=asVal o:=rfl
theorem getV_s (o:Option PV) (r:MEnv) (n:Nat):getV (o::r) (n+1)=getV r n:=rfl
theorem asVal_int (i:Int):asVal (some (.int i)) = .ok (.int i):=rfl
theorem asVal_bl (i:Bool):asVal (some (.bl i)) = .ok (.bl i):=rfl
theorem asVal_str (i:Str):asVal (some (.str i)) = .ok (.str i):=rfl
theorem asVal_non:asVal (some .non) = .ok .non:=rfl
theorem asVal_tup (l:List PV):asVal (some (.tup l)) = .ok (.tup l):=rfl
theorem asVal_lst (l:List PV):asVal (some (.lst l)) = .ok (.lst l):=rfl
theorem asVal_exc (c:Nat):asVal (some (.exc c)) = .ok (.exc c):=rfl
theorem asVal_dic0:asVal (some .dic0) = .ok .dic0:=rfl
theorem fC_e (v:PV) (x0:Option PV) (ρ0:MEnv):fC v (x0::ρ0) = .ok v:=rfl
theorem fBin_e (o:PV→PV→R PV) (a b:FE) (x0:Option PV) (ρ0:MEnv):fBin o a b (x0::ρ0)=(a (x0::ρ0)).bind fun x=>(b (x0::ρ0)).bind fun y=>o x y:=rfl
theorem fUn_e (o:PV→R PV) (a:FE) (x0:Option PV) (ρ0:MEnv):fUn o a (x0::ρ0)=(a (x0::ρ0)).bind o:=rfl
theorem oBool_e (b:Bool):oBool (.bl b) = .ok b:=rfl
theorem fAnd_e (a b:FE) (x0:Option PV) (ρ0:MEnv):fAnd a b (x0::ρ0)=(a (x0::ρ0)).bind fun x=>(oBool x).bind fun c=>if c then b (x0::ρ0) else .ok (.bl false):=rfl
theorem fOr_e (a b:FE) (x0:Option PV) (ρ0:MEnv):fOr a b (x0::ρ0)=(a (x0::ρ0)).bind fun x=>(oBool x).bind fun c=>if c then .ok (.bl true) else b (x0::ρ0):=rfl
theorem fNot_e (a:FE) (x0:Option PV) (ρ0:MEnv):fNot a (x0::ρ0)=(a (x0::ρ0)).bind fun x=>(oBool x).bind fun c=>.ok (.bl (!c)):=rfl
theorem fChain_e (o o':PV→PV→R PV) (a b c:FE) (x0:Option PV) (ρ0:MEnv):fChain o o' a b c (x0::ρ0)=(a (x0::ρ0)).bind fun x=>(b (x0::ρ0)).bind fun y=>(o x y).bind fun r=>(oBool r).bind fun k =>
  if k then (c (x0::ρ0)).bind fun z=>o' y z else .ok (.bl false):=rfl
theorem fIf_e (t:FT) (a b:FE) (x0:Option PV) (ρ0:MEnv):fIf t a b (x0::ρ0)=(t (x0::ρ0)).bind fun c=>if c then a (x0::ρ0) else b (x0::ρ0):=rfl
theorem aNil_e (x0:Option PV) (ρ0:MEnv):aNil (x0::ρ0) = .ok []:=rfl
theorem aCons_e (a:FE) (r:FA) (x0:Option PV) (ρ0:MEnv):aCons a r (x0::ρ0)=(a (x0::ρ0)).bind fun x=>(r (x0::ρ0)).bind fun xs=>.ok (x::xs):=rfl
noncomputable def mkTup (xs:List PV):R PV:=if xs.length≤sizeLine then .ok (.tup xs) else .stuck
noncomputable def mkLst (xs:List PV):R PV:=if xs.length≤sizeLine then .ok (.lst xs) else .stuck
theorem sizeLine_ge:1000≤sizeLine:=by decide
theorem fTup_e (a:FA) (x0:Option PV) (ρ0:MEnv):fTup a (x0::ρ0)=(a (x0::ρ0)).bind mkTup:=rfl
theorem fLst_e (a:FA) (x0:Option PV) (ρ0:MEnv):fLst a (x0::ρ0)=(a (x0::ρ0)).bind mkLst:=rfl
theorem small_le (n:Nat) (h:n≤1000):n≤sizeLine:=Nat.le_trans h sizeLine_ge
theorem fCall_e (F:List PV→R PV) (a:FA) (x0:Option PV) (ρ0:MEnv):fCall F a (x0::ρ0)=(a (x0::ρ0)).bind F:=rfl
theorem fIsinst_e (t:Ty) (a:FE) (x0:Option PV) (ρ0:MEnv):fIsinst t a (x0::ρ0)=(a (x0::ρ0)).bind fun x=>match isTy x t with | some b=>.ok (.bl b) | none=>.stuck:=rfl
theorem tVal_e (a:FE) (x0:Option PV) (ρ0:MEnv):tVal a (x0::ρ0)=(a (x0::ρ0)).bind truthP:=rfl
theorem truth_bl (b:Bool):truthP (.bl b) = .ok b:=rfl
theorem truth_int (i:Int):truthP (.int i) = .ok (i != 0):=rfl
theorem truth_non:truthP .non = .ok false:=rfl
theorem tAnd_e (a b:FT) (x0:Option PV) (ρ0:MEnv):tAnd a b (x0::ρ0)=(a (x0::ρ0)).bind fun c=>if c then b (x0::ρ0) else .ok false:=rfl
theorem tOr_e (a b:FT) (x0:Option PV) (ρ0:MEnv):tOr a b (x0::ρ0)=(a (x0::ρ0)).bind fun c=>if c then .ok true else b (x0::ρ0):=rfl
theorem tNot_e (a:FT) (x0:Option PV) (ρ0:MEnv):tNot a (x0::ρ0)=(a (x0::ρ0)).bind fun c=>.ok (!c):=rfl
theorem mkTup_s (xs:List PV) (h:xs.length≤1000):mkTup xs = .ok (.tup xs):=if_pos (small_le _ h)
theorem mkLst_s (xs:List PV) (h:xs.length≤1000):mkLst xs = .ok (.lst xs):=if_pos (small_le _ h)
theorem mkTup_1 (a:PV):mkTup [a] = .ok (.tup [a]):=mkTup_s _ (by simp)
theorem mkTup_2 (a b:PV):mkTup [a,b] = .ok (.tup [a,b]):=mkTup_s _ (by simp)
theorem mkTup_3 (a b c:PV):mkTup [a,b,c] = .ok (.tup [a,b,c]):=mkTup_s _ (by simp)
theorem mkTup_4 (a b c d:PV):mkTup [a,b,c,d] = .ok (.tup [a,b,c,d]):=mkTup_s _ (by simp)
theorem mkLst_0:mkLst [] = .ok (.lst []):=mkLst_s _ (by simp)
theorem mkLst_1 (a:PV):mkLst [a] = .ok (.lst [a]):=mkLst_s _ (by simp)
theorem mkLst_2 (a b:PV):mkLst [a,b] = .ok (.lst [a,b]):=mkLst_s _ (by simp)
theorem mkLst_3 (a b c:PV):mkLst [a,b,c] = .ok (.lst [a,b,c]):=mkLst_s _ (by simp)
theorem mkLst_4 (a b c d:PV):mkLst [a,b,c,d] = .ok (.lst [a,b,c,d]):=mkLst_s _ (by simp)
theorem mkLst_5 (a b c d e:PV):mkLst [a,b,c,d,e] = .ok (.lst [a,b,c,d,e]):=mkLst_s _ (by simp)
theorem mkLst_6 (a b c d e f:PV):mkLst [a,b,c,d,e,f] = .ok (.lst [a,b,c,d,e,f]):=mkLst_s _ (by simp)
theorem mkLst_7 (a b c d e f g:PV):mkLst [a,b,c,d,e,f,g] = .ok (.lst [a,b,c,d,e,f,g]):=mkLst_s _ (by simp)
theorem mkLst_8 (a b c d e f g h:PV):mkLst [a,b,c,d,e,f,g,h] = .ok (.lst [a,b,c,d,e,f,g,h]):=mkLst_s _ (by simp)
theorem asVal_none:asVal none = .stuck:=rfl
noncomputable def rgF:List PV→R (List PV)
  | [.int hi]=>if smallI hi then .ok (rangeP 0 hi 1) else .stuck
  | [.int lo,.int hi]=>if smallI lo∧smallI hi then .ok (rangeP lo hi 1) else .stuck
  | [.int lo,.int hi,.int st]=>if smallI lo∧smallI hi∧smallI st∧st≠0 then .ok (rangeP lo hi st) else .stuck
  | _=>.stuck
def okI (i:Int):Prop:=smallI i
theorem iRange_e (a:FA) (x0:Option PV) (ρ0:MEnv):iRange a (x0::ρ0)=(a (x0::ρ0)).bind rgF:=by
  show R.bind _ _=R.bind _ _
  congr 1
theorem rg_1 (hi:Int) (h:okI hi):rgF [.int hi] = .ok (rangeP 0 hi 1):=if_pos h
theorem rg_2 (lo hi:Int) (h:okI lo) (h2:okI hi):rgF [.int lo,.int hi] = .ok (rangeP lo hi 1):=if_pos ⟨h,h2⟩
theorem rg_3 (lo hi st:Int) (h:okI lo) (h2:okI hi) (h3:okI st) (h0:st≠0):rgF [.int lo,.int hi,.int st] = .ok (rangeP lo hi st):=if_pos ⟨h,h2,h3,h0⟩
theorem bind_ok (p:PV) (f:PV→R PV):(R.ok p).bind f=f p:=rfl
theorem bind_okl (p:PV) (f:PV→R (List PV)):(R.ok p).bind f=f p:=rfl
theorem bind_okb (p:PV) (f:PV→R Bool):(R.ok p).bind f=f p:=rfl
theorem bind_oko (p:PV) (f:PV→R (Option Int)):(R.ok p).bind f=f p:=rfl
theorem bindl_ok (p:List PV) (f:List PV→R PV):(R.ok p).bind f=f p:=rfl
theorem bindl_okl (p:List PV) (f:List PV→R (List PV)):(R.ok p).bind f=f p:=rfl
theorem bindb_ok (p:Bool) (f:Bool→R PV):(R.ok p).bind f=f p:=rfl
theorem bindb_okb (p:Bool) (f:Bool→R Bool):(R.ok p).bind f=f p:=rfl
theorem bindo_ok (p:Option Int) (f:Option Int→R PV):(R.ok p).bind f=f p:=rfl
theorem bind_exc (c:Nat) (f:PV→R PV):(R.exc c:R PV).bind f = .exc c:=rfl
theorem bind_excl (c:Nat) (f:PV→R (List PV)):(R.exc c:R PV).bind f = .exc c:=rfl
theorem bind_excb (c:Nat) (f:PV→R Bool):(R.exc c:R PV).bind f = .exc c:=rfl
theorem bindl_exc (c:Nat) (f:List PV→R PV):(R.exc c:R (List PV)).bind f = .exc c:=rfl
theorem bindl_excl (c:Nat) (f:List PV→R (List PV)):(R.exc c:R (List PV)).bind f = .exc c:=rfl
theorem bindb_exc (c:Nat) (f:Bool→R PV):(R.exc c:R Bool).bind f = .exc c:=rfl
theorem bindb_excb (c:Nat) (f:Bool→R Bool):(R.exc c:R Bool).bind f = .exc c:=rfl
noncomputable def fin:SR→R PV
  | .next _=>.ok .non
  | .ret v=>.ok v
  | .exc c _=>.exc c
  | _=>.stuck
theorem fin_next (ρ:MEnv):fin (.next ρ) = .ok .non:=rfl
theorem fin_ret (v:PV):fin (.ret v) = .ok v:=rfl
theorem fin_exc (c:Nat) (ρ:MEnv):fin (.exc c ρ) = .exc c:=rfl
theorem runF_fin (n:Nat) (b:FS) (vs:List PV):runF n b vs=fin (b (vs.map some ++ List.replicate (n - vs.length) none)):=by
  show (match b _ with | .next _=>_ | .ret v=>_ | .exc c _=>_ | _=>_)=fin (b _)
  rfl
theorem run_1 (n:Nat) (b:FS) (a1:PV):runF (n+1) b [a1]=fin (b (some a1::List.replicate n none)):=by
  rw [runF_fin,List.length_cons];simp
theorem run_2 (n:Nat) (b:FS) (a1 a2:PV):runF (n+2) b [a1,a2]=fin (b (some a1::some a2::List.replicate n none)):=by
  rw [runF_fin,List.length_cons];simp
theorem run_3 (n:Nat) (b:FS) (a1 a2 a3:PV):runF (n+3) b [a1,a2,a3]=fin (b (some a1::some a2::some a3::List.replicate n none)):=by
  rw [runF_fin,List.length_cons];simp
theorem run_4 (n:Nat) (b:FS) (a1 a2 a3 a4:PV):runF (n+4) b [a1,a2,a3,a4]=fin (b (some a1::some a2::some a3::some a4::List.replicate n none)):=by
  rw [runF_fin,List.length_cons];simp
theorem run_5 (n:Nat) (b:FS) (a1 a2 a3 a4 a5:PV):runF (n+5) b [a1,a2,a3,a4,a5]=fin (b (some a1::some a2::some a3::some a4::some a5::List.replicate n none)):=by
  rw [runF_fin,List.length_cons];simp
theorem run_6 (n:Nat) (b:FS) (a1 a2 a3 a4 a5 a6:PV):runF (n+6) b [a1,a2,a3,a4,a5,a6]=fin (b (some a1::some a2::some a3::some a4::some a5::some a6::List.replicate n none)):=by
  rw [runF_fin,List.length_cons];simp
noncomputable def p2 (b:Int):Int:=2 ^ b.toNat
def okMul (a b:Int):Prop:=nb a≤64∨nb b≤64∨nb a+nb b≤bitsMax
def okDiv (b:Int):Prop:=0<b∧nb b≤9000
def okMod (b:Int):Prop:=0<b
def okPow (a b:Int):Prop:=0≤b∧b≤1000000∧nb a≤64
def okShl (a b:Int):Prop:=0≤b∧nb a+b≤134217728
def okShr (b:Int):Prop:=0≤b
noncomputable def powI (a b:Int):Int:=a ^ b.toNat
theorem oMul_i (a b:Int) (h:okMul a b):oMul (.int a) (.int b) = .ok (.int (a*b)):=if_pos h
theorem oDiv_i (a b:Int) (h:okDiv b):oDiv (.int a) (.int b) = .ok (.int (a / b)):=if_pos h
theorem oMod_i (a b:Int) (h:okMod b):oMod (.int a) (.int b) = .ok (.int (a % b)):=if_pos h
theorem oPow_i (a b:Int) (h:okPow a b):oPow (.int a) (.int b) = .ok (.int (powI a b)):=if_pos h
theorem oShl_i (a b:Int) (h:okShl a b):oShl (.int a) (.int b) = .ok (.int (a*p2 b)):=if_pos h
theorem oShr_i (a b:Int) (h:okShr b):oShr (.int a) (.int b) = .ok (.int (a / p2 b)):=if_pos h
theorem oAdd_i (a b:Int):oAdd (.int a) (.int b) = .ok (.int (a+b)):=rfl
theorem oSub_i (a b:Int):oSub (.int a) (.int b) = .ok (.int (a - b)):=rfl
theorem oNeg_i (a:Int):oNeg (.int a) = .ok (.int (-a)):=rfl
theorem oAnd_i (a b:Int):oAnd (.int a) (.int b) = .ok (.int (Builtin.bitAnd a b)):=rfl
theorem oOr_i (a b:Int):oOr (.int a) (.int b) = .ok (.int (Builtin.bitOr a b)):=rfl
theorem oXor_i (a b:Int):oXor (.int a) (.int b) = .ok (.int (Builtin.bitXor a b)):=rfl
theorem cLt_i (a b:Int):cLt (.int a) (.int b) = .ok (.bl (decide (a<b))):=rfl
theorem cLe_i (a b:Int):cLe (.int a) (.int b) = .ok (.bl (decide (a≤b))):=rfl
theorem cGt_i (a b:Int):cGt (.int a) (.int b) = .ok (.bl (decide (b<a))):=rfl
theorem cGe_i (a b:Int):cGe (.int a) (.int b) = .ok (.bl (decide (b≤a))):=rfl
theorem cEq_i (a b:Int):cEq (.int a) (.int b) = .ok (.bl (decide (a=b))):=rfl
theorem cNe_i (a b:Int):cNe (.int a) (.int b) = .ok (.bl (!decide (a=b))):=rfl
theorem cEq_b (a b:Bool):cEq (.bl a) (.bl b) = .ok (.bl (a == b)):=rfl
theorem cNe_b (a b:Bool):cNe (.bl a) (.bl b) = .ok (.bl (!(a == b))):=rfl
theorem cEq_s (a b:Str):cEq (.str a) (.str b) = .ok (.bl (a == b)):=rfl
theorem cNe_s (a b:Str):cNe (.str a) (.str b) = .ok (.bl (!(a == b))):=rfl
theorem cEq_tup (a b:List PV):cEq (.tup a) (.tup b)=if (a.all (cmpOkN 5) && b.all (cmpOkN 5)) then .ok (.bl (eqPVs a b)) else .stuck:=rfl
theorem cNe_tup (a b:List PV):cNe (.tup a) (.tup b)=if (a.all (cmpOkN 5) && b.all (cmpOkN 5)) then .ok (.bl (!eqPVs a b)) else .stuck:=rfl
theorem cEq_lst (a b:List PV):cEq (.lst a) (.lst b)=if (a.all (cmpOkN 5) && b.all (cmpOkN 5)) then .ok (.bl (eqPVs a b)) else .stuck:=rfl
theorem cNe_lst (a b:List PV):cNe (.lst a) (.lst b)=if (a.all (cmpOkN 5) && b.all (cmpOkN 5)) then .ok (.bl (!eqPVs a b)) else .stuck:=rfl
theorem cmpOkN_int (n:Nat) (i:Int):cmpOkN n (.int i)=true:=by cases n<;>rfl
theorem cmpOkN_bl (n:Nat) (i:Bool):cmpOkN n (.bl i)=true:=by cases n<;>rfl
theorem cmpOkN_str (n:Nat) (i:Str):cmpOkN n (.str i)=true:=by cases n<;>rfl
theorem cmpOkN_non (n:Nat):cmpOkN n .non=true:=by cases n<;>rfl
theorem cmpOkN_tup (n:Nat) (l:List PV):cmpOkN (n+1) (.tup l)=l.all (cmpOkN n):=rfl
theorem cmpOkN_lst (n:Nat) (l:List PV):cmpOkN (n+1) (.lst l)=l.all (cmpOkN n):=rfl
theorem eqPVs_nil:eqPVs [] []=true:=rfl
theorem eqPVs_cons (x y:PV) (xs ys:List PV):eqPVs (x::xs) (y::ys)=(eqPV x y && eqPVs xs ys):=rfl
theorem eqPVs_cn (x:PV) (xs:List PV):eqPVs (x::xs) []=false:=rfl
theorem eqPVs_nc (x:PV) (xs:List PV):eqPVs [] (x::xs)=false:=rfl
theorem eqPV_i (a b:Int):eqPV (.int a) (.int b)=decide (a=b):=rfl
theorem eqPV_b (a b:Bool):eqPV (.bl a) (.bl b)=(a == b):=rfl
theorem eqPV_s (a b:Str):eqPV (.str a) (.str b)=(a == b):=rfl
theorem eqPV_t (a b:List PV):eqPV (.tup a) (.tup b)=eqPVs a b:=rfl
theorem eqPV_l (a b:List PV):eqPV (.lst a) (.lst b)=eqPVs a b:=rfl
theorem eqPV_n:eqPV .non .non=true:=rfl
theorem bLen_tup (l:List PV):bLen [.tup l] = .ok (.int l.length):=rfl
theorem bLen_lst (l:List PV):bLen [.lst l] = .ok (.int l.length):=rfl
theorem bAbs_i (i:Int):bAbs [.int i] = .ok (.int (if i<0 then -i else i)):=rfl
theorem bMin_i (i j:Int):bMin [.int i,.int j] = .ok (.int (if j<i then j else i)):=rfl
theorem bMax_i (i j:Int):bMax [.int i,.int j] = .ok (.int (if j > i then j else i)):=rfl
theorem bInt_i (i:Int):bInt [.int i] = .ok (.int i):=rfl
theorem bInt_b (b:Bool):bInt [.bl b] = .ok (.int (if b then 1 else 0)):=rfl
theorem bBitLength_i (i:Int):bBitLength (.int i) = .ok (.int (nb i)):=rfl
theorem bList_l (l:List PV):bList [.lst l] = .ok (.lst l):=rfl
theorem bList_t (l:List PV):bList [.tup l] = .ok (.lst l):=rfl
theorem bTuple_l (l:List PV):bTuple [.lst l] = .ok (.tup l):=rfl
theorem bTuple_t (l:List PV):bTuple [.tup l] = .ok (.tup l):=rfl
theorem isTy_int_i (i:Int):isTy (.int i) .int=some true:=rfl
theorem isTy_int_b (i:Int):isTy (.int i) .bool=some false:=rfl
theorem isTy_int_s (i:Int):isTy (.int i) .str=some false:=rfl
theorem isTy_int_t (i:Int):isTy (.int i) .tuple=some false:=rfl
theorem isTy_bl_i (i:Bool):isTy (.bl i) .int=some true:=rfl
theorem isTy_bl_b (i:Bool):isTy (.bl i) .bool=some true:=rfl
theorem isTy_bl_t (i:Bool):isTy (.bl i) .tuple=some false:=rfl
theorem isTy_bl_s (i:Bool):isTy (.bl i) .str=some false:=rfl
theorem isTy_tup_t (l:List PV):isTy (.tup l) .tuple=some true:=rfl
theorem isTy_tup_i (l:List PV):isTy (.tup l) .int=some false:=rfl
theorem isTy_tup_s (l:List PV):isTy (.tup l) .str=some false:=rfl
theorem isTy_lst_i (l:List PV):isTy (.lst l) .int=some false:=rfl
theorem isTy_lst_l (l:List PV):isTy (.lst l) .list=some true:=rfl
theorem isTy_lst_t (l:List PV):isTy (.lst l) .tuple=some false:=rfl
theorem isTy_lst_s (l:List PV):isTy (.lst l) .str=some false:=rfl
theorem isTy_str_i (x:Str):isTy (.str x) .int=some false:=rfl
theorem isTy_str_s (x:Str):isTy (.str x) .str=some true:=rfl
theorem isTy_str_t (x:Str):isTy (.str x) .tuple=some false:=rfl
theorem isTy_non (t:Ty):isTy .non t=some false:=by cases t<;>rfl
theorem isTy_dic_i:isTy .dic0 .int=some false:=rfl
theorem isTy_dic_s:isTy .dic0 .str=some false:=rfl
theorem oItem_at {l:List PV}{i:Int}{v:PV} (h0:0≤i) (h:l[i.toNat]?=some v):oItem (.lst l) (.int i) = .ok v:=by
  have hl:i.toNat<l.length:=(List.getElem?_eq_some_iff.mp h).1
  show itemP l i=_
  unfold itemP ixP
  rw [if_pos h0,if_pos (by omega)]
  simp [h]
theorem oItem_atT {l:List PV}{i:Int}{v:PV} (h0:0≤i) (h:l[i.toNat]?=some v):oItem (.tup l) (.int i) = .ok v:=oItem_at h0 h
theorem oItem_t0 (x:PV) (l:List PV):oItem (.tup (x::l)) (.int 0) = .ok x:=oItem_atT (by decide) rfl
theorem oItem_t1 (x y:PV) (l:List PV):oItem (.tup (x::y::l)) (.int 1) = .ok y:=oItem_atT (by decide) rfl
theorem oItem_t2 (x y z:PV) (l:List PV):oItem (.tup (x::y::z::l)) (.int 2) = .ok z:=oItem_atT (by decide) rfl
theorem oItem_l0 (x:PV) (l:List PV):oItem (.lst (x::l)) (.int 0) = .ok x:=oItem_at (by decide) rfl
theorem oItem_l1 (x y:PV) (l:List PV):oItem (.lst (x::y::l)) (.int 1) = .ok y:=oItem_at (by decide) rfl
theorem oItem_l2 (x y z:PV) (l:List PV):oItem (.lst (x::y::z::l)) (.int 2) = .ok z:=oItem_at (by decide) rfl
theorem sNext_e (x0:Option PV) (ρ0:MEnv):sNext (x0::ρ0) = .next (x0::ρ0):=rfl
theorem sSeq_e (f g:FS) (x0:Option PV) (ρ0:MEnv):sSeq f g (x0::ρ0)=match f (x0::ρ0) with | .next ρ'=>g ρ' | o=>o:=rfl
theorem ofR_ok (v:PV) (ρ:MEnv) (k:PV→SR):ofR (.ok v) ρ k=k v:=rfl
theorem ofR_exc (c:Nat) (ρ:MEnv) (k:PV→SR):ofR (.exc c) ρ k = .exc c ρ:=rfl
theorem sRet_e (a:FE) (x0:Option PV) (ρ0:MEnv):sRet a (x0::ρ0)=ofR (a (x0::ρ0)) (x0::ρ0) fun v=>.ret v:=rfl
theorem sExpr_e (a:FE) (x0:Option PV) (ρ0:MEnv):sExpr a (x0::ρ0)=ofR (a (x0::ρ0)) (x0::ρ0) fun _=>.next (x0::ρ0):=rfl
theorem sSet_e (i:Nat) (a:FE) (x0:Option PV) (ρ0:MEnv):sSet i a (x0::ρ0)=ofR (a (x0::ρ0)) (x0::ρ0) fun v=>.next ((x0::ρ0).set i (some v)):=rfl
theorem sIf_e (t:FT) (f g:FS) (x0:Option PV) (ρ0:MEnv):sIf t f g (x0::ρ0)=match t (x0::ρ0) with | .ok c=>if c then f (x0::ρ0) else g (x0::ρ0) | .exc c=>.exc c (x0::ρ0) | .stuck=>.stuck:=rfl
theorem sFor_e (i:Nat) (it:FA) (body:FS) (x0:Option PV) (ρ0:MEnv):sFor i it body (x0::ρ0)=match it (x0::ρ0) with | .ok l=>forL i body l (x0::ρ0) | .exc c=>.exc c (x0::ρ0) | .stuck=>.stuck:=rfl
theorem sBreak_e (x0:Option PV) (ρ0:MEnv):sBreak (x0::ρ0) = .brk (x0::ρ0):=rfl
theorem sCont_e (x0:Option PV) (ρ0:MEnv):sCont (x0::ρ0) = .cont (x0::ρ0):=rfl
theorem sRetN_e (x0:Option PV) (ρ0:MEnv):sRetN (x0::ρ0) = .ret .non:=rfl
theorem sRaise_e (c:Nat) (x0:Option PV) (ρ0:MEnv):sRaise c (x0::ρ0) = .exc c (x0::ρ0):=rfl
theorem iSeq_e (a:FE) (x0:Option PV) (ρ0:MEnv):iSeq a (x0::ρ0)=(a (x0::ρ0)).bind fun x=>match x with | .lst l=>.ok l | .tup l=>.ok l | _=>.stuck:=rfl
theorem forL_nil (i:Nat) (body:FS) (ρ:MEnv):forL i body [] ρ = .next ρ:=rfl
theorem forL_cons (i:Nat) (body:FS) (x:PV) (l:List PV) (ρ:MEnv):forL i body (x::l) ρ=match body (ρ.set i (some x)) with
    | .next ρ'=>forL i body l ρ'
    | .cont ρ'=>forL i body l ρ'
    | .brk ρ'=>.next ρ'
    | o=>o:=rfl
theorem oNone_e (x0:Option PV) (ρ0:MEnv):oNone (x0::ρ0) = .ok none:=rfl
theorem oSome_e (a:FE) (x0:Option PV) (ρ0:MEnv):oSome a (x0::ρ0)=(a (x0::ρ0)).bind fun x=>match x with | .int i=>.ok (some i) | _=>.stuck:=rfl
theorem fCut_e (a:FE) (l h:FO) (x0:Option PV) (ρ0:MEnv):fCut a l h (x0::ρ0)=(a (x0::ρ0)).bind fun x=>(l (x0::ρ0)).bind fun lo=>(h (x0::ρ0)).bind fun hi=>oCut x lo hi:=rfl
theorem oCut_lst (l:List PV) (lo hi:Option Int):oCut (.lst l) lo hi = .ok (.lst (cutP l lo hi)):=rfl
theorem isSmallI_i (i:Int):isSmallI (.ok (.int i))=decide (i.natAbs<18446744073709551616):=rfl
theorem sRaiseT_e (k:MEnv→Bool) (c:Nat) (x0:Option PV) (ρ0:MEnv):sRaiseT k c (x0::ρ0)=if k (x0::ρ0) then .exc c (x0::ρ0) else .stuck:=rfl
theorem sTryAs_e (f:FS) (ks:List Nat) (d n x:Nat) (x0:Option PV) (ρ0:MEnv):sTryAs f ks d n x (x0::ρ0)=match f (x0::ρ0) with
  | .exc c ρ'=>if ks.contains c && under c d then .next (((ρ'.set n (some (.exc c))).set x (some (.exc c))).set n none) else .stuck
  | o=>o:=rfl
theorem fIsExc_e (ks:List Nat) (d:Nat) (a:FE) (x0:Option PV) (ρ0:MEnv):fIsExc ks d a (x0::ρ0)=(a (x0::ρ0)).bind fun x=>match x with
  | .exc c=>if ks.contains c then .ok (.bl (under c d)) else .stuck
  | .non=>.ok (.bl false)
  | _=>.stuck:=rfl
theorem fIsVal_e (ks:List Nat) (a:FE) (x0:Option PV) (ρ0:MEnv):fIsVal ks a (x0::ρ0)=(a (x0::ρ0)).bind fun x=>match x with
  | .exc c=>if ks.contains c then .ok (.bl true) else .stuck
  | .non=>.ok (.bl false)
  | _=>.stuck:=rfl
theorem evl:(∀ (α:Type) (a b:α),(if (true:Bool)=true then a else b)=a)∧(∀ (α:Type) (a b:α),(if (false:Bool)=true then a else b)=b)∧(∀ (α:Type) (a b:α),(if True then a else b)=a)∧(∀ (α:Type) (a b:α),(if False then a else b)=b) ∧
    (decide True=true)∧(decide False=false)∧((!true)=false)∧((!false)=true)∧(∀ b,(true && b)=b)∧(∀ b,(false && b)=false)∧(∀ b,(b && true)=b)∧(∀ b,(b && false)=false)∧(∀ b,(true || b)=true)∧(∀ b,(false || b)=b)∧(∀ b:Bool,(b == b)=true) ∧
    (∀ (x y:Option PV) (l:MEnv),(x::l).set 0 y=y::l)∧(∀ (x y:Option PV) (l:MEnv) (n:Nat),(x::l).set (n+1) y=x::l.set n y) ∧
    ((List.replicate 0 (none:Option PV))=[])∧(∀ (n:Nat),(List.replicate (n+1) (none:Option PV))=none::List.replicate n none) ∧
    (∀ (x:PV) (l:List PV),(x::l).map some=some x::l.map some)∧(([]:List PV).map some=[])∧(∀ (x:Option PV) (l m:MEnv),(x::l) ++ m=x::(l ++ m))∧(∀ (l:MEnv),[] ++ l=l) ∧
    (∀ (x:PV) (l:List PV),(x::l).length=l.length+1)∧(([]:List PV).length=0) ∧
    (∀ (p:PV→Bool) (x:PV) (l:List PV),(x::l).all p=(p x && l.all p))∧(∀ (p:PV→Bool),([]:List PV).all p=true) ∧
    (∀ (p:PV→Bool) (x:PV) (l:List PV),(x::l).any p=(p x || l.any p))∧(∀ (p:PV→Bool),([]:List PV).any p=false):=by
  refine ⟨fun _ _ _=>rfl,fun _ _ _=>rfl,fun _ _ _=>if_pos trivial,fun _ _ _=>if_neg id,by decide,by decide,rfl,rfl,fun b=>by cases b<;>rfl,fun b=>by cases b<;>rfl,fun b=>by cases b<;>rfl,fun b=>by cases b<;>rfl,fun b=>by cases b<;>rfl,fun b=>by cases b<;>rfl,fun b=>by cases b<;>rfl,fun _ _ _=>rfl,fun _ _ _ _=>rfl,rfl,fun _=>rfl,fun _ _=>rfl,rfl,fun _ _ _=>rfl,fun _=>rfl,fun _ _=>rfl,rfl,fun _ _ _=>rfl,fun _=>rfl,fun _ _ _=>rfl,fun _=>rfl⟩
def Goes (I:MEnv→Prop) (r:SR):Prop:=∃ ρ,r = .next ρ∧I ρ
theorem forL_ix {I:Nat→MEnv→Prop}{i:Nat}{body:FS}:∀ {l:List PV}{k:Nat}{ρ:MEnv},I k ρ→(∀ (j:Nat) (x:PV) ρ,l[j]?=some x→I (k+j) ρ→Goes (I (k+j+1)) (body (ρ.set i (some x))))→Goes (I (k+l.length)) (forL i body l ρ)
  | [],k,ρ,h,_=>⟨ρ,rfl,h⟩
  | x::l,k,ρ,h,s=>by
    obtain ⟨ρ1,e1,h1⟩:=s 0 x ρ rfl h
    obtain ⟨ρ2,e2,h2⟩:=forL_ix (I:=I) (i:=i) (body:=body) (l:=l) (k:=k+1) h1 fun j y ρ hj hI=>by
      have:=s (j+1) y ρ hj (by rw [show k+(j+1)=k+1+j from by omega];exact hI)
      rw [show k+(j+1)+1=k+1+j+1 from by omega] at this;exact this
    exact ⟨ρ2,by rw [forL_cons,e1];exact e2,by rw [List.length_cons,show k+(l.length+1)=k+1+l.length from by omega];exact h2⟩
theorem goes_next {I:MEnv→Prop}{ρ:MEnv} (h:I ρ):Goes I (.next ρ):=⟨ρ,rfl,h⟩
theorem nb_le_iff {a:Int}{k:Nat}:nb a≤k↔a.natAbs<2 ^ k:=by
  show (if a == 0 then 0 else a.natAbs.log2+1)≤k↔_
  by_cases h:a=0
  · subst h;simp;exact Nat.two_pow_pos k
  · have h0:a.natAbs≠0:=by omega
    rw [if_neg (by simpa using h)]
    rw [← Nat.log2_lt h0]
    omega
theorem nb_le {a:Int}{k:Nat} (h:a.natAbs<2 ^ k):nb a≤k:=nb_le_iff.mpr h
theorem nb_lt {a:Int}{k:Nat} (h:nb a≤k):a.natAbs<2 ^ k:=nb_le_iff.mp h
theorem okMul_r {a b:Int} (h1 : -18446744073709551616<b) (h2:b<18446744073709551616):okMul a b:=.inr (.inl (nb_le (k:=64) (by omega)))
theorem okMul_l {a b:Int} (h1 : -18446744073709551616<a) (h2:a<18446744073709551616):okMul a b:=.inl (nb_le (k:=64) (by omega))
theorem okMul_of {a b:Int}{m n:Nat} (ha:nb a≤m) (hb:nb b≤n) (h:m+n≤134217728):okMul a b:=.inr (.inr (by show _≤134217728;omega))
theorem okDiv_s {b:Int} (h0:0<b) (h:b<18446744073709551616):okDiv b:=⟨h0,Nat.le_trans (nb_le (k:=64) (by omega)) (by decide)⟩
theorem okDiv_of {b:Int}{n:Nat} (h0:0<b) (h:nb b≤n) (hn:n≤9000):okDiv b:=⟨h0,Nat.le_trans h hn⟩
theorem okShl_of {a b:Int}{n:Nat} (h0:0≤b) (ha:nb a≤n) (h:n+b≤134217728):okShl a b:=⟨h0,by omega⟩
theorem okPow_s {a b:Int} (h0:0≤b) (h1:b≤1000000) (h : -18446744073709551616<a) (h2:a<18446744073709551616):okPow a b:=⟨h0,h1,nb_le (k:=64) (by omega)⟩
theorem okMod_s {b:Int} (h:0<b):okMod b:=h
theorem okShr_s {b:Int} (h:0≤b):okShr b:=h
theorem okI_of {b:Int} (h0 : -1152921504606846976≤b) (h:b<1152921504606846976):okI b:=by
  have e:(2:Int) ^ 60=1152921504606846976:=by decide
  show -(2 ^ 60)≤b∧b<2 ^ 60
  rw [e];exact ⟨h0,h⟩
theorem okw:(∀ (a b:Int) (h1 : -18446744073709551616<b) (h2:b<18446744073709551616),okMul a b)∧(∀ (a b:Int) (h1 : -18446744073709551616<a) (h2:a<18446744073709551616),okMul a b)∧(∀ (b:Int) (h0:0<b) (h:b<18446744073709551616),okDiv b) ∧
    (∀ (a b:Int) (h0:0≤b) (h1:b≤1000000) (h : -18446744073709551616<a) (h2:a<18446744073709551616),okPow a b)∧(∀ (b:Int) (h:0<b),okMod b)∧(∀ (b:Int) (h:0≤b),okShr b)∧(∀ (b:Int) (h0 : -1152921504606846976≤b) (h:b<1152921504606846976),okI b) :=
  ⟨fun _ _=>okMul_r,fun _ _=>okMul_l,fun _=>okDiv_s,fun _ _=>okPow_s,fun _=>okMod_s,fun _=>okShr_s,fun _=>okI_of⟩
theorem ev:(∀ (i:Nat) (x0:Option PV) (ρ0:MEnv),fVar i (x0::ρ0)=getV (x0::ρ0) i) ∧
  (∀ (o:Option PV) (r:MEnv),getV (o::r) 0=asVal o) ∧
  (∀ (o:Option PV) (r:MEnv) (n:Nat),getV (o::r) (n+1)=getV r n) ∧
  (∀ (i:Int),asVal (some (.int i)) = .ok (.int i)) ∧
  (∀ (i:Bool),asVal (some (.bl i)) = .ok (.bl i)) ∧
  (∀ (i:Str),asVal (some (.str i)) = .ok (.str i)) ∧
  (asVal (some .non) = .ok .non) ∧
  (∀ (l:List PV),asVal (some (.tup l)) = .ok (.tup l)) ∧
  (∀ (l:List PV),asVal (some (.lst l)) = .ok (.lst l)) ∧
  (∀ (c:Nat),asVal (some (.exc c)) = .ok (.exc c)) ∧
  (asVal (some .dic0) = .ok .dic0) ∧
  (∀ (v:PV) (x0:Option PV) (ρ0:MEnv),fC v (x0::ρ0) = .ok v) ∧
  (∀ (o:PV→PV→R PV) (a b:FE) (x0:Option PV) (ρ0:MEnv),fBin o a b (x0::ρ0)=(a (x0::ρ0)).bind fun x=>(b (x0::ρ0)).bind fun y=>o x y) ∧
  (∀ (o:PV→R PV) (a:FE) (x0:Option PV) (ρ0:MEnv),fUn o a (x0::ρ0)=(a (x0::ρ0)).bind o) ∧
  (∀ (b:Bool),oBool (.bl b) = .ok b) ∧
  (∀ (a b:FE) (x0:Option PV) (ρ0:MEnv),fAnd a b (x0::ρ0)=(a (x0::ρ0)).bind fun x=>(oBool x).bind fun c=>if c then b (x0::ρ0) else .ok (.bl false)) ∧
  (∀ (a b:FE) (x0:Option PV) (ρ0:MEnv),fOr a b (x0::ρ0)=(a (x0::ρ0)).bind fun x=>(oBool x).bind fun c=>if c then .ok (.bl true) else b (x0::ρ0)) ∧
  (∀ (a:FE) (x0:Option PV) (ρ0:MEnv),fNot a (x0::ρ0)=(a (x0::ρ0)).bind fun x=>(oBool x).bind fun c=>.ok (.bl (!c))) ∧
  (∀ (o o':PV→PV→R PV) (a b c:FE) (x0:Option PV) (ρ0:MEnv),fChain o o' a b c (x0::ρ0)=(a (x0::ρ0)).bind fun x=>(b (x0::ρ0)).bind fun y=>(o x y).bind fun r=>(oBool r).bind fun k =>
  if k then (c (x0::ρ0)).bind fun z=>o' y z else .ok (.bl false)) ∧
  (∀ (t:FT) (a b:FE) (x0:Option PV) (ρ0:MEnv),fIf t a b (x0::ρ0)=(t (x0::ρ0)).bind fun c=>if c then a (x0::ρ0) else b (x0::ρ0)) ∧
  (∀ (x0:Option PV) (ρ0:MEnv),aNil (x0::ρ0) = .ok []) ∧
  (∀ (a:FE) (r:FA) (x0:Option PV) (ρ0:MEnv),aCons a r (x0::ρ0)=(a (x0::ρ0)).bind fun x=>(r (x0::ρ0)).bind fun xs=>.ok (x::xs)) ∧
  (∀ (a:FA) (x0:Option PV) (ρ0:MEnv),fTup a (x0::ρ0)=(a (x0::ρ0)).bind mkTup) ∧
  (∀ (a:FA) (x0:Option PV) (ρ0:MEnv),fLst a (x0::ρ0)=(a (x0::ρ0)).bind mkLst) ∧
  (∀ (F:List PV→R PV) (a:FA) (x0:Option PV) (ρ0:MEnv),fCall F a (x0::ρ0)=(a (x0::ρ0)).bind F) ∧
  (∀ (t:Ty) (a:FE) (x0:Option PV) (ρ0:MEnv),fIsinst t a (x0::ρ0)=(a (x0::ρ0)).bind fun x=>match isTy x t with | some b=>.ok (.bl b) | none=>.stuck) ∧
  (∀ (a:FE) (x0:Option PV) (ρ0:MEnv),tVal a (x0::ρ0)=(a (x0::ρ0)).bind truthP) ∧
  (∀ (b:Bool),truthP (.bl b) = .ok b) ∧
  (∀ (i:Int),truthP (.int i) = .ok (i != 0)) ∧
  (truthP .non = .ok false) ∧
  (∀ (a b:FT) (x0:Option PV) (ρ0:MEnv),tAnd a b (x0::ρ0)=(a (x0::ρ0)).bind fun c=>if c then b (x0::ρ0) else .ok false) ∧
  (∀ (a b:FT) (x0:Option PV) (ρ0:MEnv),tOr a b (x0::ρ0)=(a (x0::ρ0)).bind fun c=>if c then .ok true else b (x0::ρ0)) ∧
  (∀ (a:FT) (x0:Option PV) (ρ0:MEnv),tNot a (x0::ρ0)=(a (x0::ρ0)).bind fun c=>.ok (!c)) ∧
  (∀ (a:PV),mkTup [a] = .ok (.tup [a])) ∧
  (∀ (a b:PV),mkTup [a,b] = .ok (.tup [a,b])) ∧
  (∀ (a b c:PV),mkTup [a,b,c] = .ok (.tup [a,b,c])) ∧
  (∀ (a b c d:PV),mkTup [a,b,c,d] = .ok (.tup [a,b,c,d])) ∧
  (mkLst [] = .ok (.lst [])) ∧
  (∀ (a:PV),mkLst [a] = .ok (.lst [a])) ∧
  (∀ (a b:PV),mkLst [a,b] = .ok (.lst [a,b])) ∧
  (∀ (a b c:PV),mkLst [a,b,c] = .ok (.lst [a,b,c])) ∧
  (∀ (a b c d:PV),mkLst [a,b,c,d] = .ok (.lst [a,b,c,d])) ∧
  (∀ (a b c d e:PV),mkLst [a,b,c,d,e] = .ok (.lst [a,b,c,d,e])) ∧
  (∀ (a b c d e f:PV),mkLst [a,b,c,d,e,f] = .ok (.lst [a,b,c,d,e,f])) ∧
  (∀ (a b c d e f g:PV),mkLst [a,b,c,d,e,f,g] = .ok (.lst [a,b,c,d,e,f,g])) ∧
  (∀ (a b c d e f g h:PV),mkLst [a,b,c,d,e,f,g,h] = .ok (.lst [a,b,c,d,e,f,g,h])) ∧
  (asVal none = .stuck) ∧
  (∀ (a:FA) (x0:Option PV) (ρ0:MEnv),iRange a (x0::ρ0)=(a (x0::ρ0)).bind rgF) ∧
  (∀ (hi:Int) (h:okI hi),rgF [.int hi] = .ok (rangeP 0 hi 1)) ∧
  (∀ (lo hi:Int) (h:okI lo) (h2:okI hi),rgF [.int lo,.int hi] = .ok (rangeP lo hi 1)) ∧
  (∀ (lo hi st:Int) (h:okI lo) (h2:okI hi) (h3:okI st) (h0:st≠0),rgF [.int lo,.int hi,.int st] = .ok (rangeP lo hi st)) ∧
  (∀ (p:PV) (f:PV→R PV),(R.ok p).bind f=f p) ∧
  (∀ (p:PV) (f:PV→R (List PV)),(R.ok p).bind f=f p) ∧
  (∀ (p:PV) (f:PV→R Bool),(R.ok p).bind f=f p) ∧
  (∀ (p:PV) (f:PV→R (Option Int)),(R.ok p).bind f=f p) ∧
  (∀ (p:List PV) (f:List PV→R PV),(R.ok p).bind f=f p) ∧
  (∀ (p:List PV) (f:List PV→R (List PV)),(R.ok p).bind f=f p) ∧
  (∀ (p:Bool) (f:Bool→R PV),(R.ok p).bind f=f p) ∧
  (∀ (p:Bool) (f:Bool→R Bool),(R.ok p).bind f=f p) ∧
  (∀ (p:Option Int) (f:Option Int→R PV),(R.ok p).bind f=f p) ∧
  (∀ (c:Nat) (f:PV→R PV),(R.exc c:R PV).bind f = .exc c) ∧
  (∀ (c:Nat) (f:PV→R (List PV)),(R.exc c:R PV).bind f = .exc c) ∧
  (∀ (c:Nat) (f:PV→R Bool),(R.exc c:R PV).bind f = .exc c) ∧
  (∀ (c:Nat) (f:List PV→R PV),(R.exc c:R (List PV)).bind f = .exc c) ∧
  (∀ (c:Nat) (f:List PV→R (List PV)),(R.exc c:R (List PV)).bind f = .exc c) ∧
  (∀ (c:Nat) (f:Bool→R PV),(R.exc c:R Bool).bind f = .exc c) ∧
  (∀ (c:Nat) (f:Bool→R Bool),(R.exc c:R Bool).bind f = .exc c) ∧
  (∀ (ρ:MEnv),fin (.next ρ) = .ok .non) ∧
  (∀ (v:PV),fin (.ret v) = .ok v) ∧
  (∀ (c:Nat) (ρ:MEnv),fin (.exc c ρ) = .exc c) ∧
  (∀ (n:Nat) (b:FS) (a1:PV),runF (n+1) b [a1]=fin (b (some a1::List.replicate n none))) ∧
  (∀ (n:Nat) (b:FS) (a1 a2:PV),runF (n+2) b [a1,a2]=fin (b (some a1::some a2::List.replicate n none))) ∧
  (∀ (n:Nat) (b:FS) (a1 a2 a3:PV),runF (n+3) b [a1,a2,a3]=fin (b (some a1::some a2::some a3::List.replicate n none))) ∧
  (∀ (n:Nat) (b:FS) (a1 a2 a3 a4:PV),runF (n+4) b [a1,a2,a3,a4]=fin (b (some a1::some a2::some a3::some a4::List.replicate n none))) ∧
  (∀ (n:Nat) (b:FS) (a1 a2 a3 a4 a5:PV),runF (n+5) b [a1,a2,a3,a4,a5]=fin (b (some a1::some a2::some a3::some a4::some a5::List.replicate n none))) ∧
  (∀ (n:Nat) (b:FS) (a1 a2 a3 a4 a5 a6:PV),runF (n+6) b [a1,a2,a3,a4,a5,a6]=fin (b (some a1::some a2::some a3::some a4::some a5::some a6::List.replicate n none))) ∧
  (∀ (a b:Int) (h:okMul a b),oMul (.int a) (.int b) = .ok (.int (a*b))) ∧
  (∀ (a b:Int) (h:okDiv b),oDiv (.int a) (.int b) = .ok (.int (a / b))) ∧
  (∀ (a b:Int) (h:okMod b),oMod (.int a) (.int b) = .ok (.int (a % b))) ∧
  (∀ (a b:Int) (h:okPow a b),oPow (.int a) (.int b) = .ok (.int (powI a b))) ∧
  (∀ (a b:Int) (h:okShl a b),oShl (.int a) (.int b) = .ok (.int (a*p2 b))) ∧
  (∀ (a b:Int) (h:okShr b),oShr (.int a) (.int b) = .ok (.int (a / p2 b))) ∧
  (∀ (a b:Int),oAdd (.int a) (.int b) = .ok (.int (a+b))) ∧
  (∀ (a b:Int),oSub (.int a) (.int b) = .ok (.int (a - b))) ∧
  (∀ (a:Int),oNeg (.int a) = .ok (.int (-a))) ∧
  (∀ (a b:Int),oAnd (.int a) (.int b) = .ok (.int (Builtin.bitAnd a b))) ∧
  (∀ (a b:Int),oOr (.int a) (.int b) = .ok (.int (Builtin.bitOr a b))) ∧
  (∀ (a b:Int),oXor (.int a) (.int b) = .ok (.int (Builtin.bitXor a b))) ∧
  (∀ (a b:Int),cLt (.int a) (.int b) = .ok (.bl (decide (a<b)))) ∧
  (∀ (a b:Int),cLe (.int a) (.int b) = .ok (.bl (decide (a≤b)))) ∧
  (∀ (a b:Int),cGt (.int a) (.int b) = .ok (.bl (decide (b<a)))) ∧
  (∀ (a b:Int),cGe (.int a) (.int b) = .ok (.bl (decide (b≤a)))) ∧
  (∀ (a b:Int),cEq (.int a) (.int b) = .ok (.bl (decide (a=b)))) ∧
  (∀ (a b:Int),cNe (.int a) (.int b) = .ok (.bl (!decide (a=b)))) ∧
  (∀ (a b:Bool),cEq (.bl a) (.bl b) = .ok (.bl (a == b))) ∧
  (∀ (a b:Bool),cNe (.bl a) (.bl b) = .ok (.bl (!(a == b)))) ∧
  (∀ (a b:Str),cEq (.str a) (.str b) = .ok (.bl (a == b))) ∧
  (∀ (a b:Str),cNe (.str a) (.str b) = .ok (.bl (!(a == b)))) ∧
  (∀ (a b:List PV),cEq (.tup a) (.tup b)=if (a.all (cmpOkN 5) && b.all (cmpOkN 5)) then .ok (.bl (eqPVs a b)) else .stuck) ∧
  (∀ (a b:List PV),cNe (.tup a) (.tup b)=if (a.all (cmpOkN 5) && b.all (cmpOkN 5)) then .ok (.bl (!eqPVs a b)) else .stuck) ∧
  (∀ (a b:List PV),cEq (.lst a) (.lst b)=if (a.all (cmpOkN 5) && b.all (cmpOkN 5)) then .ok (.bl (eqPVs a b)) else .stuck) ∧
  (∀ (a b:List PV),cNe (.lst a) (.lst b)=if (a.all (cmpOkN 5) && b.all (cmpOkN 5)) then .ok (.bl (!eqPVs a b)) else .stuck) ∧
  (∀ (n:Nat) (i:Int),cmpOkN n (.int i)=true) ∧
  (∀ (n:Nat) (i:Bool),cmpOkN n (.bl i)=true) ∧
  (∀ (n:Nat) (i:Str),cmpOkN n (.str i)=true) ∧
  (∀ (n:Nat),cmpOkN n .non=true) ∧
  (∀ (n:Nat) (l:List PV),cmpOkN (n+1) (.tup l)=l.all (cmpOkN n)) ∧
  (∀ (n:Nat) (l:List PV),cmpOkN (n+1) (.lst l)=l.all (cmpOkN n)) ∧
  (eqPVs [] []=true) ∧
  (∀ (x y:PV) (xs ys:List PV),eqPVs (x::xs) (y::ys)=(eqPV x y && eqPVs xs ys)) ∧
  (∀ (x:PV) (xs:List PV),eqPVs (x::xs) []=false) ∧
  (∀ (x:PV) (xs:List PV),eqPVs [] (x::xs)=false) ∧
  (∀ (a b:Int),eqPV (.int a) (.int b)=decide (a=b)) ∧
  (∀ (a b:Bool),eqPV (.bl a) (.bl b)=(a == b)) ∧
  (∀ (a b:Str),eqPV (.str a) (.str b)=(a == b)) ∧
  (∀ (a b:List PV),eqPV (.tup a) (.tup b)=eqPVs a b) ∧
  (∀ (a b:List PV),eqPV (.lst a) (.lst b)=eqPVs a b) ∧
  (eqPV .non .non=true) ∧
  (∀ (l:List PV),bLen [.tup l] = .ok (.int l.length)) ∧
  (∀ (l:List PV),bLen [.lst l] = .ok (.int l.length)) ∧
  (∀ (i:Int),bAbs [.int i] = .ok (.int (if i<0 then -i else i))) ∧
  (∀ (i j:Int),bMin [.int i,.int j] = .ok (.int (if j<i then j else i))) ∧
  (∀ (i j:Int),bMax [.int i,.int j] = .ok (.int (if j > i then j else i))) ∧
  (∀ (i:Int),bInt [.int i] = .ok (.int i)) ∧
  (∀ (b:Bool),bInt [.bl b] = .ok (.int (if b then 1 else 0))) ∧
  (∀ (i:Int),bBitLength (.int i) = .ok (.int (nb i))) ∧
  (∀ (l:List PV),bList [.lst l] = .ok (.lst l)) ∧
  (∀ (l:List PV),bList [.tup l] = .ok (.lst l)) ∧
  (∀ (l:List PV),bTuple [.lst l] = .ok (.tup l)) ∧
  (∀ (l:List PV),bTuple [.tup l] = .ok (.tup l)) ∧
  (∀ (i:Int),isTy (.int i) .int=some true) ∧
  (∀ (i:Int),isTy (.int i) .bool=some false) ∧
  (∀ (i:Int),isTy (.int i) .str=some false) ∧
  (∀ (i:Int),isTy (.int i) .tuple=some false) ∧
  (∀ (i:Bool),isTy (.bl i) .int=some true) ∧
  (∀ (i:Bool),isTy (.bl i) .bool=some true) ∧
  (∀ (i:Bool),isTy (.bl i) .tuple=some false) ∧
  (∀ (i:Bool),isTy (.bl i) .str=some false) ∧
  (∀ (l:List PV),isTy (.tup l) .tuple=some true) ∧
  (∀ (l:List PV),isTy (.tup l) .int=some false) ∧
  (∀ (l:List PV),isTy (.tup l) .str=some false) ∧
  (∀ (l:List PV),isTy (.lst l) .int=some false) ∧
  (∀ (l:List PV),isTy (.lst l) .list=some true) ∧
  (∀ (l:List PV),isTy (.lst l) .tuple=some false) ∧
  (∀ (l:List PV),isTy (.lst l) .str=some false) ∧
  (∀ (x:Str),isTy (.str x) .int=some false) ∧
  (∀ (x:Str),isTy (.str x) .str=some true) ∧
  (∀ (x:Str),isTy (.str x) .tuple=some false) ∧
  (∀ (t:Ty),isTy .non t=some false) ∧
  (isTy .dic0 .int=some false) ∧
  (isTy .dic0 .str=some false) ∧
  (∀ (x:PV) (l:List PV),oItem (.tup (x::l)) (.int 0) = .ok x) ∧
  (∀ (x y:PV) (l:List PV),oItem (.tup (x::y::l)) (.int 1) = .ok y) ∧
  (∀ (x y z:PV) (l:List PV),oItem (.tup (x::y::z::l)) (.int 2) = .ok z) ∧
  (∀ (x:PV) (l:List PV),oItem (.lst (x::l)) (.int 0) = .ok x) ∧
  (∀ (x y:PV) (l:List PV),oItem (.lst (x::y::l)) (.int 1) = .ok y) ∧
  (∀ (x y z:PV) (l:List PV),oItem (.lst (x::y::z::l)) (.int 2) = .ok z) ∧
  (∀ (x0:Option PV) (ρ0:MEnv),sNext (x0::ρ0) = .next (x0::ρ0)) ∧
  (∀ (f g:FS) (x0:Option PV) (ρ0:MEnv),sSeq f g (x0::ρ0)=match f (x0::ρ0) with | .next ρ'=>g ρ' | o=>o) ∧
  (∀ (v:PV) (ρ:MEnv) (k:PV→SR),ofR (.ok v) ρ k=k v) ∧
  (∀ (c:Nat) (ρ:MEnv) (k:PV→SR),ofR (.exc c) ρ k = .exc c ρ) ∧
  (∀ (a:FE) (x0:Option PV) (ρ0:MEnv),sRet a (x0::ρ0)=ofR (a (x0::ρ0)) (x0::ρ0) fun v=>.ret v) ∧
  (∀ (a:FE) (x0:Option PV) (ρ0:MEnv),sExpr a (x0::ρ0)=ofR (a (x0::ρ0)) (x0::ρ0) fun _=>.next (x0::ρ0)) ∧
  (∀ (i:Nat) (a:FE) (x0:Option PV) (ρ0:MEnv),sSet i a (x0::ρ0)=ofR (a (x0::ρ0)) (x0::ρ0) fun v=>.next ((x0::ρ0).set i (some v))) ∧
  (∀ (t:FT) (f g:FS) (x0:Option PV) (ρ0:MEnv),sIf t f g (x0::ρ0)=match t (x0::ρ0) with | .ok c=>if c then f (x0::ρ0) else g (x0::ρ0) | .exc c=>.exc c (x0::ρ0) | .stuck=>.stuck) ∧
  (∀ (i:Nat) (it:FA) (body:FS) (x0:Option PV) (ρ0:MEnv),sFor i it body (x0::ρ0)=match it (x0::ρ0) with | .ok l=>forL i body l (x0::ρ0) | .exc c=>.exc c (x0::ρ0) | .stuck=>.stuck) ∧
  (∀ (x0:Option PV) (ρ0:MEnv),sBreak (x0::ρ0) = .brk (x0::ρ0)) ∧
  (∀ (x0:Option PV) (ρ0:MEnv),sCont (x0::ρ0) = .cont (x0::ρ0)) ∧
  (∀ (x0:Option PV) (ρ0:MEnv),sRetN (x0::ρ0) = .ret .non) ∧
  (∀ (c:Nat) (x0:Option PV) (ρ0:MEnv),sRaise c (x0::ρ0) = .exc c (x0::ρ0)) ∧
  (∀ (a:FE) (x0:Option PV) (ρ0:MEnv),iSeq a (x0::ρ0)=(a (x0::ρ0)).bind fun x=>match x with | .lst l=>.ok l | .tup l=>.ok l | _=>.stuck) ∧
  (∀ (i:Nat) (body:FS) (ρ:MEnv),forL i body [] ρ = .next ρ) ∧
  (∀ (i:Nat) (body:FS) (x:PV) (l:List PV) (ρ:MEnv),forL i body (x::l) ρ=match body (ρ.set i (some x)) with
    | .next ρ'=>forL i body l ρ'
    | .cont ρ'=>forL i body l ρ'
    | .brk ρ'=>.next ρ'
    | o=>o) ∧
  (∀ (x0:Option PV) (ρ0:MEnv),oNone (x0::ρ0) = .ok none) ∧
  (∀ (a:FE) (x0:Option PV) (ρ0:MEnv),oSome a (x0::ρ0)=(a (x0::ρ0)).bind fun x=>match x with | .int i=>.ok (some i) | _=>.stuck) ∧
  (∀ (a:FE) (l h:FO) (x0:Option PV) (ρ0:MEnv),fCut a l h (x0::ρ0)=(a (x0::ρ0)).bind fun x=>(l (x0::ρ0)).bind fun lo=>(h (x0::ρ0)).bind fun hi=>oCut x lo hi) ∧
  (∀ (l:List PV) (lo hi:Option Int),oCut (.lst l) lo hi = .ok (.lst (cutP l lo hi))) ∧
  (∀ (i:Int),isSmallI (.ok (.int i))=decide (i.natAbs<18446744073709551616)) ∧
  (∀ (k:MEnv→Bool) (c:Nat) (x0:Option PV) (ρ0:MEnv),sRaiseT k c (x0::ρ0)=if k (x0::ρ0) then .exc c (x0::ρ0) else .stuck) ∧
  (∀ (f:FS) (ks:List Nat) (d n x:Nat) (x0:Option PV) (ρ0:MEnv),sTryAs f ks d n x (x0::ρ0)=match f (x0::ρ0) with
  | .exc c ρ'=>if ks.contains c && under c d then .next (((ρ'.set n (some (.exc c))).set x (some (.exc c))).set n none) else .stuck
  | o=>o) ∧
  (∀ (ks:List Nat) (d:Nat) (a:FE) (x0:Option PV) (ρ0:MEnv),fIsExc ks d a (x0::ρ0)=(a (x0::ρ0)).bind fun x=>match x with
  | .exc c=>if ks.contains c then .ok (.bl (under c d)) else .stuck
  | .non=>.ok (.bl false)
  | _=>.stuck) ∧
  (∀ (ks:List Nat) (a:FE) (x0:Option PV) (ρ0:MEnv),fIsVal ks a (x0::ρ0)=(a (x0::ρ0)).bind fun x=>match x with
  | .exc c=>if ks.contains c then .ok (.bl true) else .stuck
  | .non=>.ok (.bl false)
  | _=>.stuck) :=
  ⟨@fVar_e,@getV_0,@getV_s,@asVal_int,@asVal_bl,@asVal_str,@asVal_non,@asVal_tup,@asVal_lst,@asVal_exc,@asVal_dic0,@fC_e,@fBin_e,@fUn_e,@oBool_e,@fAnd_e,@fOr_e,@fNot_e,@fChain_e,@fIf_e,@aNil_e,@aCons_e,@fTup_e,@fLst_e,@fCall_e,@fIsinst_e,@tVal_e,@truth_bl,@truth_int,@truth_non,@tAnd_e,@tOr_e,@tNot_e,@mkTup_1,@mkTup_2,@mkTup_3,@mkTup_4,@mkLst_0,@mkLst_1,@mkLst_2,@mkLst_3,@mkLst_4,@mkLst_5,@mkLst_6,@mkLst_7,@mkLst_8,@asVal_none,@iRange_e,@rg_1,@rg_2,@rg_3,@bind_ok,@bind_okl,@bind_okb,@bind_oko,@bindl_ok,@bindl_okl,@bindb_ok,@bindb_okb,@bindo_ok,@bind_exc,@bind_excl,@bind_excb,@bindl_exc,@bindl_excl,@bindb_exc,@bindb_excb,@fin_next,@fin_ret,@fin_exc,@run_1,@run_2,@run_3,@run_4,@run_5,@run_6,@oMul_i,@oDiv_i,@oMod_i,@oPow_i,@oShl_i,@oShr_i,@oAdd_i,@oSub_i,@oNeg_i,@oAnd_i,@oOr_i,@oXor_i,@cLt_i,@cLe_i,@cGt_i,@cGe_i,@cEq_i,@cNe_i,@cEq_b,@cNe_b,@cEq_s,@cNe_s,@cEq_tup,@cNe_tup,@cEq_lst,@cNe_lst,@cmpOkN_int,@cmpOkN_bl,@cmpOkN_str,@cmpOkN_non,@cmpOkN_tup,@cmpOkN_lst,@eqPVs_nil,@eqPVs_cons,@eqPVs_cn,@eqPVs_nc,@eqPV_i,@eqPV_b,@eqPV_s,@eqPV_t,@eqPV_l,@eqPV_n,@bLen_tup,@bLen_lst,@bAbs_i,@bMin_i,@bMax_i,@bInt_i,@bInt_b,@bBitLength_i,@bList_l,@bList_t,@bTuple_l,@bTuple_t,@isTy_int_i,@isTy_int_b,@isTy_int_s,@isTy_int_t,@isTy_bl_i,@isTy_bl_b,@isTy_bl_t,@isTy_bl_s,@isTy_tup_t,@isTy_tup_i,@isTy_tup_s,@isTy_lst_i,@isTy_lst_l,@isTy_lst_t,@isTy_lst_s,@isTy_str_i,@isTy_str_s,@isTy_str_t,@isTy_non,@isTy_dic_i,@isTy_dic_s,@oItem_t0,@oItem_t1,@oItem_t2,@oItem_l0,@oItem_l1,@oItem_l2,@sNext_e,@sSeq_e,@ofR_ok,@ofR_exc,@sRet_e,@sExpr_e,@sSet_e,@sIf_e,@sFor_e,@sBreak_e,@sCont_e,@sRetN_e,@sRaise_e,@iSeq_e,@forL_nil,@forL_cons,@oNone_e,@oSome_e,@fCut_e,@oCut_lst,@isSmallI_i,@sRaiseT_e,@sTryAs_e,@fIsExc_e,@fIsVal_e⟩
theorem p2_nat (n:Nat):p2 (n:Int)=2 ^ n:=rfl
theorem p2_pos (b:Int):0<p2 b:=Int.pow_pos (by decide)
theorem p2_0:p2 0=1:=rfl
theorem p2_1:p2 1=2:=rfl
theorem p2_add {a b:Int} (ha:0≤a) (hb:0≤b):p2 (a+b)=p2 a*p2 b:=by
  obtain ⟨m,rfl⟩:=Int.eq_ofNat_of_zero_le ha
  obtain ⟨n,rfl⟩:=Int.eq_ofNat_of_zero_le hb
  have e:((m:Int)+(n:Int))=((m+n:Nat):Int):=by omega
  rw [e,p2_nat,p2_nat,p2_nat,Int.pow_add]
theorem p2_succ {a:Int} (ha:0≤a):p2 (a+1)=2*p2 a:=by rw [p2_add ha (by decide),p2_1,Int.mul_comm]
theorem p2_le {a b:Int} (ha:0≤a) (h:a≤b):p2 a≤p2 b:=by
  have e:b=a+(b - a):=by omega
  rw [e,p2_add ha (by omega)]
  have h1:=p2_pos a
  have h2:=p2_pos (b - a)
  have:p2 a*1≤p2 a*p2 (b - a):=Int.mul_le_mul_of_nonneg_left (by omega) (by omega)
  omega
theorem p2_natAbs {b:Int} (hb:0≤b):(p2 b).natAbs=2 ^ b.toNat:=by
  show ((2:Int) ^ b.toNat).natAbs=_
  rw [Int.natAbs_pow];rfl
theorem nb_p2 {b:Int} (hb:0≤b):nb (p2 b)=b.toNat+1:=by
  have h0:p2 b≠0:=by have:=p2_pos b;omega
  show (if p2 b == 0 then 0 else (p2 b).natAbs.log2+1)=_
  rw [if_neg (by simpa using h0),p2_natAbs hb,Nat.log2_two_pow]
theorem nb_mul_le (a b:Int):nb (a*b)≤nb a+nb b:=by
  refine nb_le ?_
  have h1:=nb_lt (Nat.le_refl (nb a))
  have h2:=nb_lt (Nat.le_refl (nb b))
  rw [Int.natAbs_mul,Nat.pow_add]
  exact Nat.mul_lt_mul'' h1 h2
theorem nb_neg (a:Int):nb (-a)=nb a:=by
  show (if -a == 0 then 0 else (-a).natAbs.log2+1)=(if a == 0 then 0 else a.natAbs.log2+1)
  rw [Int.natAbs_neg]
  by_cases h:a=0
  · subst h;rfl
  · have h2 : -a≠0:=by omega
    rw [if_neg (by simpa using h2),if_neg (by simpa using h)]
theorem nb_0:nb 0=0:=rfl
theorem nb_pos {a:Int} (h:a≠0):1≤nb a:=by
  show 1≤(if a == 0 then 0 else a.natAbs.log2+1)
  rw [if_neg (by simpa using h)];omega
theorem nb_shl {a b:Int} (h:a≠0) (hb:0≤b):nb (a*p2 b)=nb a+b.toNat:=by
  have h1:a*p2 b≠0:=Int.mul_ne_zero h (by have:=p2_pos b;omega)
  show (if a*p2 b == 0 then 0 else (a*p2 b).natAbs.log2+1)=(if a == 0 then 0 else a.natAbs.log2+1)+_
  rw [if_neg (by simpa using h1),if_neg (by simpa using h),Int.natAbs_mul,p2_natAbs hb]
  have h2:a.natAbs≠0:=by omega
  have:(a.natAbs*2 ^ b.toNat).log2=a.natAbs.log2+b.toNat:=by
    refine Nat.le_antisymm ?_ ?_
    · have h3:a.natAbs<2 ^ (a.natAbs.log2+1):=Nat.lt_log2_self
      have h4:a.natAbs*2 ^ b.toNat<2 ^ (a.natAbs.log2+b.toNat+1):=by
        have e:2 ^ (a.natAbs.log2+b.toNat+1)=2 ^ (a.natAbs.log2+1)*2 ^ b.toNat:=by rw [← Nat.pow_add];congr 1;omega
        rw [e];exact Nat.mul_lt_mul_of_pos_right h3 (Nat.two_pow_pos _)
      have:=(Nat.log2_lt (by exact Nat.mul_ne_zero h2 (Nat.ne_of_gt (Nat.two_pow_pos _)))).mpr h4
      omega
    · have h3:2 ^ a.natAbs.log2≤a.natAbs:=Nat.log2_self_le h2
      refine (Nat.le_log2 (Nat.mul_ne_zero h2 (Nat.ne_of_gt (Nat.two_pow_pos _)))).mpr ?_
      rw [Nat.pow_add];exact Nat.mul_le_mul_right _ h3
  omega
theorem and_even (a b:Nat):(2*a) &&& (2*b+1)=2*(a &&& b):=by
  apply Nat.eq_of_testBit_eq
  intro i
  cases i with
  | zero=>simp
  | succ i =>
    rw [Nat.testBit_and,Nat.testBit_succ,Nat.testBit_succ,Nat.testBit_succ]
    have h1:2*a / 2=a:=by omega
    have h2:(2*b+1) / 2=b:=by omega
    have h3:2*(a &&& b) / 2=a &&& b:=by omega
    rw [h1,h2,h3,Nat.testBit_and]
theorem and_odd (j:Nat):(2*j+1) &&& (2*j)=2*j:=by
  apply Nat.eq_of_testBit_eq
  intro i
  cases i with
  | zero=>simp
  | succ i =>
    rw [Nat.testBit_and,Nat.testBit_succ,Nat.testBit_succ]
    have h1:2*j / 2=j:=by omega
    have h2:(2*j+1) / 2=j:=by omega
    rw [h1,h2,Bool.and_self]
theorem and_low (j:Nat):∀ t:Nat,((2*j+1)*2 ^ t) &&& ((2*j+1)*2 ^ t - 1)=2*j*2 ^ t
  | 0=>by simpa using and_odd j
  | t+1=>by
    have ih:=and_low j t
    have hp:0<(2*j+1)*2 ^ t:=Nat.mul_pos (by omega) (Nat.two_pow_pos t)
    have e1:(2*j+1)*2 ^ (t+1)=2*((2*j+1)*2 ^ t):=by rw [Nat.pow_succ];rw [Nat.mul_comm (2 ^ t) 2,← Nat.mul_assoc,← Nat.mul_assoc,Nat.mul_comm (2*j+1) 2]
    have e2:2*((2*j+1)*2 ^ t) - 1=2*((2*j+1)*2 ^ t - 1)+1:=by omega
    rw [e1,e2,and_even,ih,Nat.pow_succ,Nat.mul_comm (2 ^ t) 2]
    exact Nat.mul_left_comm 2 (2*j) (2 ^ t)
noncomputable def tz (n:Int):Int:=(nb (Builtin.bitAnd n (-n)):Int) - 1
theorem and_neg {a:Int}{t:Nat} (h:a % 2=1):Builtin.bitAnd (a*2 ^ t) (-(a*2 ^ t))=2 ^ t:=by
  have hp:(0:Int)<2 ^ t:=Int.pow_pos (by decide)
  have key:∀ j:Nat,((2*(j:Int)+1)*2 ^ t) - ((((2*(j:Int)+1)*2 ^ t).toNat &&& (((2*(j:Int)+1)*2 ^ t) - 1).toNat:Nat):Int)=2 ^ t:=by
    intro j
    have e1:((2*(j:Int)+1)*2 ^ t)=(((2*j+1)*2 ^ t:Nat):Int):=by push_cast;rfl
    have hq:0<(2*j+1)*2 ^ t:=Nat.mul_pos (by omega) (Nat.two_pow_pos t)
    have e2:((2*(j:Int)+1)*2 ^ t) - 1=(((2*j+1)*2 ^ t - 1:Nat):Int):=by rw [e1];omega
    rw [e2,e1,Int.toNat_natCast,Int.toNat_natCast,and_low]
    push_cast
    rw [Int.add_mul];omega
  by_cases hs:0≤a
  · obtain ⟨j,hj⟩:∃ j:Nat,a=2*(j:Int)+1:=⟨((a - 1) / 2).toNat,by omega⟩
    subst hj
    have h1:0≤(2*(j:Int)+1)*2 ^ t:=Int.mul_nonneg (by omega) (by omega)
    have h1':0<(2*(j:Int)+1)*2 ^ t:=Int.mul_pos (by omega) hp
    have h2:¬ 0≤-((2*(j:Int)+1)*2 ^ t):=by omega
    unfold Builtin.bitAnd
    rw [decide_eq_true h1,decide_eq_false h2]
    show _ - (((_:Nat) &&& (Builtin.bitNot _).toNat:Nat):Int)=_
    have e3:Builtin.bitNot (-((2*(j:Int)+1)*2 ^ t))=((2*(j:Int)+1)*2 ^ t) - 1:=by unfold Builtin.bitNot;omega
    rw [e3];exact key j
  · obtain ⟨j,hj⟩:∃ j:Nat,a = -(2*(j:Int)+1):=⟨((-a - 1) / 2).toNat,by omega⟩
    subst hj
    have e0 : -(2*(j:Int)+1)*2 ^ t = -((2*(j:Int)+1)*2 ^ t):=by rw [Int.neg_mul]
    rw [e0,Int.neg_neg]
    have h1:0≤(2*(j:Int)+1)*2 ^ t:=Int.mul_nonneg (by omega) (by omega)
    have h1':0<(2*(j:Int)+1)*2 ^ t:=Int.mul_pos (by omega) hp
    have h2:¬ 0≤-((2*(j:Int)+1)*2 ^ t):=by omega
    unfold Builtin.bitAnd
    rw [decide_eq_true h1,decide_eq_false h2]
    show _ - (((_:Nat) &&& (Builtin.bitNot _).toNat:Nat):Int)=_
    have e3:Builtin.bitNot (-((2*(j:Int)+1)*2 ^ t))=((2*(j:Int)+1)*2 ^ t) - 1:=by unfold Builtin.bitNot;omega
    rw [e3];exact key j
theorem tz_of {a t:Int} (h:a % 2=1) (ht:0≤t):tz (a*p2 t)=t:=by
  unfold tz
  have e:Builtin.bitAnd (a*p2 t) (-(a*p2 t))=p2 t:=and_neg (t:=t.toNat) h
  rw [e,nb_p2 ht];omega
theorem odd_form:∀ (m:Nat) (n:Int),n.natAbs≤m→n≠0→∃ a t,0≤t∧a % 2=1∧n=a*p2 t
  | 0,n,h,h0=>by omega
  | m+1,n,h,h0=>by
    by_cases hp:n % 2=1
    · exact ⟨n,0,by decide,hp,by rw [p2_0];omega⟩
    · obtain ⟨a,t,ht,ha,e⟩:=odd_form m (n / 2) (by omega) (by omega)
      refine ⟨a,t+1,by omega,ha,?_⟩
      rw [p2_succ ht,Int.mul_comm 2,← Int.mul_assoc,← e];omega
theorem tz_spec {n:Int} (h:n≠0):0≤tz n∧(n / p2 (tz n)) % 2=1∧n / p2 (tz n)*p2 (tz n)=n:=by
  obtain ⟨a,t,ht,ha,e⟩:=odd_form _ n (Nat.le_refl _) h
  have e1:tz n=t:=by rw [e];exact tz_of ha ht
  have e2:n / p2 t=a:=by rw [e];exact Int.mul_ediv_cancel _ (by have:=p2_pos t;omega)
  rw [e1,e2]
  exact ⟨ht,ha,e.symm⟩
theorem odd_unique {a b s t:Int} (ha:a % 2=1) (hb:b % 2=1) (hs:0≤s) (ht:0≤t) (e:a*p2 s=b*p2 t):a=b∧s=t:=by
  have e1:s=t:=by
    have h1:=tz_of ha hs
    rw [e,tz_of hb ht] at h1;exact h1.symm
  subst e1
  exact ⟨Int.eq_of_mul_eq_mul_right (by have:=p2_pos s;omega) e,rfl⟩
end Mi
local macro_rules | `(tactic| dsimp! [$l,*])=>`(tactic| simp only [Mi.ev,Mi.evl,Mi.okw,Mi.powI,Int.reduceLT,Int.reduceLE,Int.reduceNeg,Int.reduceAdd,Int.reduceSub,Int.reduceMul,Int.reducePow,Int.reduceToNat,Nat.reduceAdd,Nat.reduceSub,ne_eq,not_false_eq_true,not_true_eq_false,Int.reduceEq,reduceCtorEq,$l,*])
namespace Cm
open PySem Mi
noncomputable def z31:FS:=sRet (fAnd (fIsinst .int (fVar 0)) (fNot (fIsinst .bool (fVar 0))))
noncomputable def z1u:List PV→R PV:=runF 1 z31
noncomputable def z4h:FS:=sSeq (sIf (tVal (fBin cLt (fVar 1) (fCall bLen (aCons (fVar 0) (aNil))))) (sRet (fBin oItem (fVar 0) (fVar 1))) (sNext)) (sRet (fC (.int 0)))
noncomputable def z14:List PV→R PV:=runF 2 z4h
noncomputable def z5e:FS:=sRet (fAnd (fIsinst .int (fVar 0)) (fNot (fIsinst .bool (fVar 0))))
noncomputable def z27:List PV→R PV:=runF 1 z5e
noncomputable def z32:FS:=sRet (fAnd (fCall z1u (aCons (fVar 0) (aNil))) (fChain cLe cLe (fVar 1) (fVar 0) (fVar 2)))
noncomputable def zb:List PV→R PV:=runF 3 z32
noncomputable def z62:FS:=sSeq (sIf (tNot (tVal (fCall zb (aCons (fVar 0) (aCons (fC (.int 2)) (aCons (fC (.int 11)) (aNil))))))) (sRaiseT (fun ρ=>(fun _=>true) ρ && (fun ρ=>(fun ρ=>isSmallI ((fC (.int 2)) ρ)) ρ && (fun ρ=>(fun _=>true) ρ && (fun ρ=>(fun ρ=>isSmallI ((fC (.int 11)) ρ)) ρ && (fun _=>true) ρ) ρ) ρ) ρ) 1) (sNext)) (sSeq (sIf (tNot (tVal (fCall zb (aCons (fVar 1) (aCons (fC (.int 1)) (aCons (fC (.int 60)) (aNil))))))) (sRaiseT (fun ρ=>(fun _=>true) ρ && (fun ρ=>(fun ρ=>isSmallI ((fC (.int 1)) ρ)) ρ && (fun ρ=>(fun _=>true) ρ && (fun ρ=>(fun ρ=>isSmallI ((fC (.int 60)) ρ)) ρ && (fun _=>true) ρ) ρ) ρ) ρ) 1) (sNext)) (sRet (fTup (aCons (fVar 0) (aCons (fVar 1) (aNil))))))
noncomputable def z22:List PV→R PV:=runF 2 z62
noncomputable def z5j:FS:=sSeq (sIf (tOr (tNot (tVal (fIsinst .tuple (fVar 0)))) (tVal (fBin cNe (fCall bLen (aCons (fVar 0) (aNil))) (fC (.int 2))))) (sRaiseT (fun _=>true) 1) (sNext)) (sExpr (fCall z22 (aCons (fBin oItem (fVar 0) (fC (.int 0))) (aCons (fBin oItem (fVar 0) (fC (.int 1))) (aNil)))))
noncomputable def z6:List PV→R PV:=runF 1 z5j
noncomputable def z5s:FS:=sSeq (sExpr (fCall z6 (aCons (fVar 0) (aNil)))) (sRet (fBin oShl (fC (.int 1)) (fBin oAdd (fBin oAdd (fC (.int 1)) (fBin oItem (fVar 0) (fC (.int 0)))) (fBin oItem (fVar 0) (fC (.int 1))))))
noncomputable def z2s:List PV→R PV:=runF 1 z5s
noncomputable def z5h:FS:=sSeq (sExpr (fCall z6 (aCons (fVar 0) (aNil)))) (sRet (fBin oSub (fBin oShl (fC (.int 1)) (fBin oSub (fBin oItem (fVar 0) (fC (.int 0))) (fC (.int 1)))) (fC (.int 1))))
noncomputable def z1p:List PV→R PV:=runF 1 z5h
noncomputable def z5r:FS:=sRet (fBin oSub (fBin oSub (fC (.int 1)) (fCall z1p (aCons (fVar 0) (aNil)))) (fBin oItem (fVar 0) (fC (.int 1))))
noncomputable def q_least_power:List PV→R PV:=runF 1 z5r
noncomputable def z5g:FS:=sRet (fBin oSub (fBin oShl (fC (.int 1)) (fVar 0)) (fC (.int 1)))
noncomputable def ze:List PV→R PV:=runF 1 z5g
noncomputable def z5i:FS:=sIf (tNot (tVal (fCall zb (aCons (fVar 0) (aCons (fC (.int 0)) (aCons (fCall ze (aCons (fVar 1) (aNil))) (aNil))))))) (sRaiseT (fun ρ=>(fun _=>true) ρ && (fun ρ=>(fun ρ=>isSmallI ((fVar 1) ρ)) ρ && (fun ρ=>(fun _=>true) ρ && (fun _=>true) ρ) ρ) ρ) 2) (sNext)
noncomputable def z1q:List PV→R PV:=runF 2 z5i
noncomputable def z5o:FS:=sSeq (sExpr (fCall z6 (aCons (fVar 0) (aNil)))) (sSeq (sExpr (fCall z1q (aCons (fVar 1) (aCons (fC (.int 1)) (aNil))))) (sSeq (sExpr (fCall z1q (aCons (fVar 2) (aCons (fBin oItem (fVar 0) (fC (.int 0))) (aNil))))) (sSeq (sExpr (fCall z1q (aCons (fVar 3) (aCons (fBin oItem (fVar 0) (fC (.int 1))) (aNil))))) (sRet (fBin oAdd (fBin oAdd (fBin oShl (fVar 1) (fBin oAdd (fBin oItem (fVar 0) (fC (.int 0))) (fBin oItem (fVar 0) (fC (.int 1))))) (fBin oShl (fVar 2) (fBin oItem (fVar 0) (fC (.int 1))))) (fVar 3))))))
noncomputable def z1v:List PV→R PV:=runF 4 z5o
noncomputable def z4m:FS:=sIf (tNot (tVal (fCall zb (aCons (fVar 1) (aCons (fC (.int 0)) (aCons (fBin oSub (fCall z2s (aCons (fVar 0) (aNil))) (fC (.int 1))) (aNil))))))) (sRaiseT (fun _=>true) 2) (sNext)
noncomputable def zo:List PV→R PV:=runF 2 z4m
noncomputable def z8i:FS:=sSeq (sExpr (fCall zo (aCons (fVar 0) (aCons (fVar 1) (aNil))))) (sSeq (sSet 2 (fBin oShr (fVar 1) (fBin oAdd (fBin oItem (fVar 0) (fC (.int 0))) (fBin oItem (fVar 0) (fC (.int 1)))))) (sSeq (sSet 3 (fBin oAnd (fBin oShr (fVar 1) (fBin oItem (fVar 0) (fC (.int 1)))) (fCall ze (aCons (fBin oItem (fVar 0) (fC (.int 0))) (aNil))))) (sSeq (sSet 4 (fBin oAnd (fVar 1) (fCall ze (aCons (fBin oItem (fVar 0) (fC (.int 1))) (aNil))))) (sRet (fTup (aCons (fVar 2) (aCons (fVar 3) (aCons (fVar 4) (aNil)))))))))
noncomputable def z8o:List PV→R PV:=runF 5 z8i
noncomputable def z5m:FS:=sRet (fBin oShl (fC (.int 1)) (fBin oSub (fBin oItem (fVar 0) (fC (.int 1))) (fC (.int 1))))
noncomputable def z1t:List PV→R PV:=runF 1 z5m
noncomputable def z5t:FS:=sSeq (sExpr (fCall z6 (aCons (fVar 0) (aNil)))) (sRet (fCall z1v (aCons (fVar 0) (aCons (fC (.int 0)) (aCons (fCall ze (aCons (fBin oItem (fVar 0) (fC (.int 0))) (aNil))) (aCons (fCall z1t (aCons (fVar 0) (aNil))) (aNil)))))))
noncomputable def z16:List PV→R PV:=runF 1 z5t
noncomputable def z2h:FS:=sSeq (sSet 2 (fCall z8o (aCons (fVar 0) (aCons (fVar 1) (aNil))))) (sSeq (sSet 3 (fBin oItem (fVar 2) (fC (.int 1)))) (sSeq (sSet 4 (fBin oItem (fVar 2) (fC (.int 2)))) (sSeq (sIf (tVal (fBin cEq (fVar 3) (fC (.int 0)))) (sRet (fIf (tVal (fBin cEq (fVar 4) (fC (.int 0)))) (fC (.str "nought")) (fC (.str "small")))) (sNext)) (sSeq (sIf (tVal (fBin cLt (fVar 3) (fCall ze (aCons (fBin oItem (fVar 0) (fC (.int 0))) (aNil))))) (sRet (fC (.str "plain"))) (sNext)) (sSeq (sIf (tVal (fBin cEq (fVar 4) (fC (.int 0)))) (sRet (fC (.str "endless"))) (sNext)) (sRet (fIf (tVal (fBin cGe (fVar 4) (fCall z1t (aCons (fVar 0) (aNil))))) (fC (.str "still")) (fC (.str "loud")))))))))
noncomputable def zi:List PV→R PV:=runF 5 z2h
noncomputable def z5v:FS:=sRet (fBin oShl (fC (.int 1)) (fBin oAdd (fBin oItem (fVar 0) (fC (.int 0))) (fBin oItem (fVar 0) (fC (.int 1)))))
noncomputable def z1z:List PV→R PV:=runF 1 z5v
noncomputable def z60:FS:=sSeq (sExpr (fCall zo (aCons (fVar 0) (aCons (fVar 1) (aNil))))) (sRet (fBin oXor (fVar 1) (fCall z1z (aCons (fVar 0) (aNil)))))
noncomputable def z2d:List PV→R PV:=runF 2 z60
noncomputable def z61:FS:=sSeq (sExpr (fCall zo (aCons (fVar 0) (aCons (fVar 1) (aNil))))) (sRet (fBin oAnd (fVar 1) (fBin oSub (fCall z1z (aCons (fVar 0) (aNil))) (fC (.int 1)))))
noncomputable def z2e:List PV→R PV:=runF 2 z61
noncomputable def z4n:FS:=sSeq (sIf (tVal (fBin cEq (fVar 0) (fC (.int 0)))) (sRet (fTup (aCons (fC (.int 0)) (aCons (fC (.int 0)) (aNil))))) (sNext)) (sSeq (sSet 2 (fBin oSub (fUn bBitLength (fBin oAnd (fVar 0) (fUn oNeg (fVar 0)))) (fC (.int 1)))) (sRet (fTup (aCons (fBin oShr (fVar 0) (fVar 2)) (aCons (fBin oAdd (fVar 1) (fVar 2)) (aNil))))))
noncomputable def z8:List PV→R PV:=runF 3 z4n
noncomputable def z5w:FS:=sRet (fBin oShl (fBin oItem (fVar 0) (fC (.int 0))) (fBin oSub (fBin oItem (fVar 0) (fC (.int 1))) (fVar 1)))
noncomputable def z2v:List PV→R PV:=runF 2 z5w
noncomputable def z5f:FS:=sSeq (sSet 2 (fCall bMin (aCons (fBin oItem (fVar 0) (fC (.int 1))) (aCons (fBin oItem (fVar 1) (fC (.int 1))) (aNil))))) (sRet (fCall z8 (aCons (fBin oAdd (fCall z2v (aCons (fVar 0) (aCons (fVar 2) (aNil)))) (fCall z2v (aCons (fVar 1) (aCons (fVar 2) (aNil))))) (aCons (fVar 2) (aNil)))))
noncomputable def z1o:List PV→R PV:=runF 3 z5f
noncomputable def z43:FS:=sRet (fCall z8 (aCons (fBin oMul (fBin oItem (fVar 0) (fC (.int 0))) (fBin oItem (fVar 1) (fC (.int 0)))) (aCons (fBin oAdd (fBin oItem (fVar 0) (fC (.int 1))) (fBin oItem (fVar 1) (fC (.int 1)))) (aNil))))
noncomputable def z1x:List PV→R PV:=runF 2 z43
noncomputable def z4k:FS:=sSeq (sSet 1 (fBin oMod (fBin oMul (fVar 0) (fC (.int 48271))) (fC (.int 999983)))) (sSeq (sIf (tVal (fBin cEq (fBin oMod (fVar 1) (fC (.int 2))) (fC (.int 1)))) (sRet (fTup (aCons (fBin oAdd (fC (.int 2)) (fBin oMod (fBin oDiv (fVar 1) (fC (.int 2))) (fC (.int 3)))) (aCons (fBin oAdd (fC (.int 1)) (fBin oMod (fBin oDiv (fVar 1) (fC (.int 6))) (fC (.int 4)))) (aNil))))) (sNext)) (sRet (fTup (aCons (fBin oAdd (fC (.int 2)) (fBin oMod (fBin oDiv (fVar 1) (fC (.int 2))) (fC (.int 10)))) (aCons (fBin oAdd (fC (.int 1)) (fBin oMod (fBin oDiv (fVar 1) (fC (.int 20))) (fC (.int 60)))) (aNil))))))
noncomputable def z28:List PV→R PV:=runF 2 z4k
noncomputable def z45:FS:=sSeq (sSet 2 (fCall zi (aCons (fVar 0) (aCons (fVar 1) (aNil))))) (sSeq (sIf (tVal (fBin cNotIn (fVar 2) (fTup (aCons (fC (.str "nought")) (aCons (fC (.str "small")) (aCons (fC (.str "plain")) (aNil))))))) (sRaiseT (fun _=>true) 4) (sNext)) (sSeq (sSet 3 (fCall z8o (aCons (fVar 0) (aCons (fVar 1) (aNil))))) (sSeq (sSet 4 (fBin oItem (fVar 3) (fC (.int 2)))) (sSeq (sSet 5 (fCall q_least_power (aCons (fVar 0) (aNil)))) (sSeq (sIf (tVal (fBin cEq (fVar 2) (fC (.str "plain")))) (sSeq (sSet 4 (fBin oAdd (fVar 4) (fBin oShl (fC (.int 1)) (fBin oItem (fVar 0) (fC (.int 1)))))) (sSet 5 (fBin oSub (fBin oAdd (fVar 5) (fBin oItem (fVar 3) (fC (.int 1)))) (fC (.int 1))))) (sNext)) (sRet (fCall z8 (aCons (fIf (tVal (fBin cEq (fBin oItem (fVar 3) (fC (.int 0))) (fC (.int 1)))) (fUn oNeg (fVar 4)) (fVar 4)) (aCons (fVar 5) (aNil))))))))))
noncomputable def z17:List PV→R PV:=runF 6 z45
noncomputable def z4l:FS:=sRet (fIf (tVal (fBin cGe (fVar 1) (fC (.int 0)))) (fTup (aCons (fBin oShl (fVar 0) (fVar 1)) (aCons (fVar 2) (aNil)))) (fTup (aCons (fVar 0) (aCons (fBin oShl (fVar 2) (fUn oNeg (fVar 1))) (aNil)))))
noncomputable def z15:List PV→R PV:=runF 3 z4l
noncomputable def z4o:FS:=sSeq (sIf (tVal (fBin cEq (fVar 0) (fC (.int 0)))) (sRaiseT (fun _=>true) 4) (sNext)) (sSeq (sSet 3 (fCall bAbs (aCons (fVar 0) (aNil)))) (sSeq (sSet 4 (fBin oSub (fUn bBitLength (fVar 3)) (fUn bBitLength (fVar 2)))) (sSeq (sSet 5 (fCall z15 (aCons (fVar 3) (aCons (fUn oNeg (fVar 4)) (aCons (fVar 2) (aNil)))))) (sSeq (sIf (tVal (fBin cLt (fBin oItem (fVar 5) (fC (.int 0))) (fBin oItem (fVar 5) (fC (.int 1))))) (sSet 4 (fBin oSub (fVar 4) (fC (.int 1)))) (sNext)) (sRet (fBin oAdd (fVar 4) (fVar 1)))))))
noncomputable def z1s:List PV→R PV:=runF 6 z4o
noncomputable def z30:FS:=sSeq (sSet 4 (fCall z15 (aCons (fCall bAbs (aCons (fVar 0) (aNil))) (aCons (fBin oSub (fVar 1) (fVar 3)) (aCons (fVar 2) (aNil)))))) (sSeq (sSet 5 (fBin oDiv (fBin oItem (fVar 4) (fC (.int 0))) (fBin oItem (fVar 4) (fC (.int 1))))) (sSeq (sSet 6 (fBin oMul (fC (.int 2)) (fBin oSub (fBin oItem (fVar 4) (fC (.int 0))) (fBin oMul (fVar 5) (fBin oItem (fVar 4) (fC (.int 1))))))) (sSeq (sIf (tVal (fBin cEq (fVar 6) (fC (.int 0)))) (sRet (fTup (aCons (fVar 5) (aCons (fC (.int 0)) (aNil))))) (sNext)) (sSeq (sIf (tVal (fBin cLt (fVar 6) (fBin oItem (fVar 4) (fC (.int 1))))) (sRet (fTup (aCons (fVar 5) (aCons (fC (.int 1)) (aNil))))) (sNext)) (sRet (fTup (aCons (fVar 5) (aCons (fIf (tVal (fBin cEq (fVar 6) (fBin oItem (fVar 4) (fC (.int 1))))) (fC (.int 2)) (fC (.int 3))) (aNil)))))))))
noncomputable def zy:List PV→R PV:=runF 7 z30
noncomputable def z5k:FS:=sSeq (sExpr (fCall z6 (aCons (fVar 0) (aNil)))) (sRet (fCall z1v (aCons (fVar 0) (aCons (fC (.int 0)) (aCons (fCall ze (aCons (fBin oItem (fVar 0) (fC (.int 0))) (aNil))) (aCons (fC (.int 0)) (aNil)))))))
noncomputable def z1r:List PV→R PV:=runF 1 z5k
noncomputable def z4s:FS:=sRet (fIf (tVal (fVar 2)) (fCall z2d (aCons (fVar 0) (aCons (fVar 1) (aNil)))) (fVar 1))
noncomputable def q_with_sign:List PV→R PV:=runF 3 z4s
noncomputable def z6o:FS:=sRet (fOr (fBin cEq (fVar 2) (fC (.int 3))) (fAnd (fBin cEq (fVar 2) (fC (.int 2))) (fVar 1)))
noncomputable def z50:List PV→R PV:=runF 4 z6o
noncomputable def z6m:FS:=sRet (fBin cGe (fVar 2) (fC (.int 2)))
noncomputable def z4y:List PV→R PV:=runF 4 z6m
noncomputable def z6p:FS:=sRet (fC (.bl false))
noncomputable def z51:List PV→R PV:=runF 4 z6p
noncomputable def z6r:FS:=sRet (fNot (fVar 3))
noncomputable def z53:List PV→R PV:=runF 4 z6r
noncomputable def z6n:FS:=sRet (fVar 3)
noncomputable def z4z:List PV→R PV:=runF 4 z6n
noncomputable def z2g:List (Nat×(List PV→R PV)):=[(21,z50),(22,z4y),(23,z51),(24,z53),(25,z4z)]
noncomputable def z6u:FS:=sSeq (sIf (tVal (fBin cEq (fVar 0) (fC (.str "even")))) (sRet (fMake 21)) (sNext)) (sSeq (sIf (tVal (fBin cEq (fVar 0) (fC (.str "away")))) (sRet (fMake 22)) (sNext)) (sSeq (sIf (tVal (fBin cEq (fVar 0) (fC (.str "in")))) (sRet (fMake 23)) (sNext)) (sSeq (sIf (tVal (fBin cEq (fVar 0) (fC (.str "up")))) (sRet (fMake 24)) (sNext)) (sSeq (sIf (tVal (fBin cEq (fVar 0) (fC (.str "down")))) (sRet (fMake 25)) (sNext)) (sRaiseT (fun _=>true) 3)))))
noncomputable def z21:List PV→R PV:=runF 1 z6u
noncomputable def z4r:FS:=sSeq (sSet 3 (fAnd (fBin cNe (fBin oItem (fVar 1) (fC (.int 1))) (fC (.int 0))) (fMeth z2g (fVar 0) (aCons (fBin cEq (fBin oMod (fBin oItem (fVar 1) (fC (.int 0))) (fC (.int 2))) (fC (.int 1))) (aCons (fBin oItem (fVar 1) (fC (.int 1))) (aCons (fVar 2) (aNil))))))) (sRet (fIf (tVal (fVar 3)) (fBin oAdd (fBin oItem (fVar 1) (fC (.int 0))) (fC (.int 1))) (fBin oItem (fVar 1) (fC (.int 0)))))
noncomputable def z2a:List PV→R PV:=runF 4 z4r
noncomputable def z42:FS:=sSeq (sIf (tVal (fBin cEq (fVar 2) (fC (.int 0)))) (sRet (fC (.int 0))) (sNext)) (sRet (fIf (tVal (fBin cLt (fVar 1) (fBin oSub (fC (.int 1)) (fCall z1p (aCons (fVar 0) (aNil)))))) (fBin oAdd (fC (.int 16)) (fC (.int 8))) (fC (.int 16))))
noncomputable def z1w:List PV→R PV:=runF 3 z42
noncomputable def z4q:FS:=sRet (fCall bMax (aCons (fBin oSub (fVar 1) (fBin oItem (fVar 0) (fC (.int 1)))) (aCons (fCall q_least_power (aCons (fVar 0) (aNil))) (aNil))))
noncomputable def z10:List PV→R PV:=runF 2 z4q
noncomputable def z44:FS:=sSeq (sSet 5 (fCall z1r (aCons (fVar 0) (aNil)))) (sSeq (sSet 6 (fBin oSub (fCall z10 (aCons (fVar 0) (aCons (fVar 3) (aNil)))) (fCall q_least_power (aCons (fVar 0) (aNil))))) (sSeq (sSet 7 (fBin oAdd (fBin oShl (fVar 6) (fBin oItem (fVar 0) (fC (.int 1)))) (fCall z2a (aCons (fVar 1) (aCons (fVar 4) (aCons (fVar 2) (aNil))))))) (sSeq (sIf (tVal (fBin cLt (fVar 7) (fVar 5))) (sRet (fTup (aCons (fCall q_with_sign (aCons (fVar 0) (aCons (fVar 7) (aCons (fVar 2) (aNil))))) (aCons (fCall z1w (aCons (fVar 0) (aCons (fVar 3) (aCons (fBin oItem (fVar 4) (fC (.int 1))) (aNil))))) (aNil))))) (sNext)) (sSeq (sSet 7 (fIf (tVal (fMeth z2g (fVar 1) (aCons (fC (.bl true)) (aCons (fC (.int 3)) (aCons (fVar 2) (aNil)))))) (fVar 5) (fBin oSub (fVar 5) (fC (.int 1))))) (sRet (fTup (aCons (fCall q_with_sign (aCons (fVar 0) (aCons (fVar 7) (aCons (fVar 2) (aNil))))) (aCons (fBin oAdd (fC (.int 4)) (fC (.int 16))) (aNil)))))))))
noncomputable def z1y:List PV→R PV:=runF 8 z44
noncomputable def z5y:FS:=sSeq (sExpr (fCall z6 (aCons (fVar 0) (aNil)))) (sSeq (sSet 5 (fCall z21 (aCons (fVar 4) (aNil)))) (sSeq (sIf (tVal (fBin cEq (fVar 1) (fC (.int 0)))) (sRet (fTup (aCons (fC (.int 0)) (aCons (fC (.int 0)) (aNil))))) (sNext)) (sSeq (sSet 6 (fCall z1s (aCons (fVar 1) (aCons (fVar 2) (aCons (fVar 3) (aNil)))))) (sSeq (sSet 7 (fCall zy (aCons (fVar 1) (aCons (fVar 2) (aCons (fVar 3) (aCons (fCall z10 (aCons (fVar 0) (aCons (fVar 6) (aNil)))) (aNil))))))) (sRet (fCall z1y (aCons (fVar 0) (aCons (fVar 5) (aCons (fBin cLt (fVar 1) (fC (.int 0))) (aCons (fVar 6) (aCons (fVar 7) (aNil))))))))))))
noncomputable def z20:List PV→R PV:=runF 8 z5y
noncomputable def z4j:FS:=sSeq (sIf (tVal (fBin cLt (fVar 1) (fBin oShl (fC (.int 1)) (fBin oItem (fVar 0) (fC (.int 1)))))) (sRet (fVar 1)) (sNext)) (sRet (fBin oShl (fBin oAdd (fBin oMod (fVar 1) (fBin oShl (fC (.int 1)) (fBin oItem (fVar 0) (fC (.int 1))))) (fBin oShl (fC (.int 1)) (fBin oItem (fVar 0) (fC (.int 1))))) (fBin oSub (fBin oShr (fVar 1) (fBin oItem (fVar 0) (fC (.int 1)))) (fC (.int 1)))))
noncomputable def z52:List PV→R PV:=runF 2 z4j
noncomputable def z4p:FS:=sRet (fAnd (fBin cEq (fBin oItem (fVar 0) (fC (.int 0))) (fC (.str "number"))) (fBin cEq (fBin oItem (fVar 0) (fC (.int 2))) (fC (.tup [.int 0,.int 0]))))
noncomputable def zg:List PV→R PV:=runF 1 z4p
noncomputable def z1d:FS:=sSeq (sSet 2 (fCall zi (aCons (fVar 0) (aCons (fVar 1) (aNil))))) (sSeq (sIf (tVal (fBin cEq (fVar 2) (fC (.str "loud")))) (sRet (fC (.tup [.str "wrong",.bl false,.tup [.int 0,.int 0]]))) (sNext)) (sSeq (sIf (tVal (fBin cEq (fVar 2) (fC (.str "still")))) (sRet (fC (.tup [.str "none",.bl false,.tup [.int 0,.int 0]]))) (sNext)) (sSeq (sSet 3 (fBin cEq (fBin oItem (fCall z8o (aCons (fVar 0) (aCons (fVar 1) (aNil)))) (fC (.int 0))) (fC (.int 1)))) (sSeq (sIf (tVal (fBin cEq (fVar 2) (fC (.str "endless")))) (sRet (fTup (aCons (fC (.str "endless")) (aCons (fVar 3) (aCons (fC (.tup [.int 0,.int 0])) (aNil)))))) (sNext)) (sRet (fTup (aCons (fC (.str "number")) (aCons (fVar 3) (aCons (fCall z17 (aCons (fVar 0) (aCons (fCall z2e (aCons (fVar 0) (aCons (fVar 1) (aNil)))) (aNil)))) (aNil))))))))))
noncomputable def q_term_of:List PV→R PV:=runF 4 z1d
noncomputable def z9:FS:=sSeq (sSet 3 (fCall q_term_of (aCons (fVar 0) (aCons (fVar 1) (aNil))))) (sSeq (sSet 4 (fCall q_term_of (aCons (fVar 0) (aCons (fVar 2) (aNil))))) (sSeq (sSet 5 (fTup (aCons (fBin oItem (fVar 3) (fC (.int 0))) (aCons (fBin oItem (fVar 4) (fC (.int 0))) (aNil))))) (sSeq (sIf (tVal (fBin cIn (fC (.str "wrong")) (fVar 5))) (sRet (fC (.tup [.str "wrong",.bl false,.tup [.int 0,.int 0]]))) (sNext)) (sSeq (sIf (tVal (fBin cIn (fC (.str "none")) (fVar 5))) (sRet (fC (.tup [.str "none",.bl false,.tup [.int 0,.int 0]]))) (sNext)) (sSeq (sSet 6 (fBin cNe (fBin oItem (fVar 3) (fC (.int 1))) (fBin oItem (fVar 4) (fC (.int 1))))) (sSeq (sIf (tVal (fBin cNotIn (fC (.str "endless")) (fVar 5))) (sRet (fTup (aCons (fC (.str "number")) (aCons (fVar 6) (aCons (fCall z1x (aCons (fBin oItem (fVar 3) (fC (.int 2))) (aCons (fBin oItem (fVar 4) (fC (.int 2))) (aNil)))) (aNil)))))) (sNext)) (sSeq (sIf (tOr (tVal (fCall zg (aCons (fVar 3) (aNil)))) (tVal (fCall zg (aCons (fVar 4) (aNil))))) (sRet (fC (.tup [.str "wrong",.bl false,.tup [.int 0,.int 0]]))) (sNext)) (sRet (fTup (aCons (fC (.str "endless")) (aCons (fVar 6) (aCons (fC (.tup [.int 0,.int 0])) (aNil)))))))))))))
noncomputable def q_product:List PV→R PV:=runF 7 z9
noncomputable def z5u:FS:=sSeq (sSet 2 (fComp 3 (iSeq (fVar 1)) (tTrue) (fBin oItem (fVar 3) (fC (.int 0))))) (sSeq (sIf (tVal (fBin cIn (fC (.str "wrong")) (fVar 2))) (sRet (fTup (aCons (fCall z16 (aCons (fVar 0) (aNil))) (aCons (fC (.int 1)) (aNil))))) (sNext)) (sSeq (sIf (tVal (fBin cIn (fC (.str "none")) (fVar 2))) (sRet (fTup (aCons (fCall z16 (aCons (fVar 0) (aNil))) (aCons (fC (.int 0)) (aNil))))) (sNext)) (sRet (fC .non))))
noncomputable def z2t:List PV→R PV:=runF 3 z5u
noncomputable def z6q:FS:=sSeq (sIf (tVal (fBin cLt (fVar 1) (fBin oShl (fC (.int 1)) (fBin oItem (fVar 0) (fC (.int 1)))))) (sRet (fVar 1)) (sNext)) (sRet (fBin oShl (fBin oAdd (fBin oMod (fVar 1) (fBin oShl (fC (.int 1)) (fBin oItem (fVar 0) (fC (.int 1))))) (fBin oShl (fC (.int 1)) (fBin oItem (fVar 0) (fC (.int 1))))) (fBin oSub (fBin oShr (fVar 1) (fBin oItem (fVar 0) (fC (.int 1)))) (fC (.int 1)))))
noncomputable def zu:List PV→R PV:=runF 2 z6q
noncomputable def z19:FS:=sSeq (sIf (tVal (fBin cEq (fVar 0) (fC (.str "even")))) (sRet (fOr (fBin cGt (fVar 2) (fVar 3)) (fAnd (fBin cEq (fVar 2) (fVar 3)) (fVar 1)))) (sNext)) (sSeq (sIf (tVal (fBin cEq (fVar 0) (fC (.str "away")))) (sRet (fBin cGe (fVar 2) (fVar 3))) (sNext)) (sSeq (sIf (tVal (fBin cEq (fVar 0) (fC (.str "in")))) (sRet (fC (.bl false))) (sNext)) (sRet (fBin cEq (fVar 4) (fBin cEq (fVar 0) (fC (.str "down")))))))
noncomputable def zh:List PV→R PV:=runF 5 z19
noncomputable def z5n:FS:=sSeq (sSet 2 (fComp 3 (iSeq (fVar 0)) (tTrue) (fBin oItem (fVar 3) (fC (.int 1))))) (sSeq (sIf (tVal (fCall bAll (aCons (fComp 3 (iSeq (fVar 0)) (tTrue) (fCall (noX zg) (aCons (fVar 3) (aNil)))) (aNil)))) (sSeq (sIf (tNot (tVal (fCall bAny (aCons (fVar 2) (aNil))))) (sRet (fC (.bl false))) (sNext)) (sIf (tVal (fCall bAll (aCons (fVar 2) (aNil)))) (sRet (fC (.bl true))) (sNext))) (sNext)) (sRet (fBin cEq (fVar 1) (fC (.str "down")))))
noncomputable def z2q:List PV→R PV:=runF 3 z5n
noncomputable def z4i:FS:=sSeq (sSet 2 (fBin oShl (fC (.int 1)) (fBin oAdd (fBin oItem (fVar 0) (fC (.int 0))) (fBin oItem (fVar 0) (fC (.int 1)))))) (sSeq (sIf (tVal (fBin cGe (fVar 1) (fVar 2))) (sRet (fBin oSub (fC (.int 0)) (fCall zu (aCons (fVar 0) (aCons (fBin oSub (fVar 1) (fVar 2)) (aNil)))))) (sNext)) (sRet (fCall zu (aCons (fVar 0) (aCons (fVar 1) (aNil))))))
noncomputable def zn:List PV→R PV:=runF 3 z4i
noncomputable def z1c:FS:=sSeq (sSet 3 (fBin oItem (fVar 2) (fC (.int 2)))) (sSet 1 (fCall z1o (aCons (fVar 1) (aCons (fIf (tVal (fBin oItem (fVar 2) (fC (.int 1)))) (fTup (aCons (fUn oNeg (fBin oItem (fVar 3) (fC (.int 0)))) (aCons (fBin oItem (fVar 3) (fC (.int 1))) (aNil)))) (fVar 3)) (aNil)))))
noncomputable def z5x:FS:=sSeq (sSet 1 (fC (.tup [.int 0,.int 0]))) (sSeq (sFor 2 (iSeq (fVar 0)) (z1c)) (sRet (fVar 1)))
noncomputable def z2w:List PV→R PV:=runF 4 z5x
noncomputable def z6t:FS:=sSeq (sIf (tAnd (tVal (fCall bAny (aCons (fVar 1) (aNil)))) (tNot (tVal (fCall bAll (aCons (fVar 1) (aNil)))))) (sRet (fTup (aCons (fCall z16 (aCons (fVar 0) (aNil))) (aCons (fC (.int 1)) (aNil))))) (sNext)) (sRet (fTup (aCons (fCall q_with_sign (aCons (fVar 0) (aCons (fCall z1r (aCons (fVar 0) (aNil))) (aCons (fCall bAll (aCons (fVar 1) (aNil))) (aNil))))) (aCons (fC (.int 0)) (aNil)))))
noncomputable def z46:List PV→R PV:=runF 2 z6t
noncomputable def z41:FS:=sSeq (sExpr (fCall z6 (aCons (fVar 0) (aNil)))) (sSeq (sExpr (fCall z21 (aCons (fVar 2) (aNil)))) (sSeq (sSet 3 (fCall z2t (aCons (fVar 0) (aCons (fVar 1) (aNil))))) (sSeq (sIf (tVal (fUn cNotN (fVar 3))) (sRet (fVar 3)) (sNext)) (sSeq (sSet 4 (fComp 6 (iSeq (fVar 1)) (tVal (fBin cEq (fBin oItem (fVar 6) (fC (.int 0))) (fC (.str "endless")))) (fBin oItem (fVar 6) (fC (.int 1))))) (sSeq (sIf (tVal (fVar 4)) (sRet (fCall z46 (aCons (fVar 0) (aCons (fVar 4) (aNil))))) (sNext)) (sSeq (sSet 5 (fCall z2w (aCons (fVar 1) (aNil)))) (sSeq (sIf (tVal (fBin cEq (fVar 5) (fC (.tup [.int 0,.int 0])))) (sRet (fTup (aCons (fCall q_with_sign (aCons (fVar 0) (aCons (fC (.int 0)) (aCons (fCall z2q (aCons (fVar 1) (aCons (fVar 2) (aNil)))) (aNil))))) (aCons (fC (.int 0)) (aNil))))) (sNext)) (sRet (fCall z20 (aCons (fVar 0) (aCons (fBin oItem (fVar 5) (fC (.int 0))) (aCons (fBin oItem (fVar 5) (fC (.int 1))) (aCons (fC (.int 1)) (aCons (fVar 2) (aNil)))))))))))))))
noncomputable def q_gathered:List PV→R PV:=runF 6 z41
noncomputable def z1b:FS:=sSeq (sSet 5 (fBin oShl (fBin oSub (fBin oShl (fC (.int 1)) (fBin oItem (fVar 0) (fC (.int 0)))) (fC (.int 1))) (fBin oItem (fVar 0) (fC (.int 1))))) (sSeq (sSet 6 (fBin oSub (fBin oItem (fVar 1) (fC (.int 0))) (fBin oMul (fCall bInt (aCons (fBin cLt (fVar 2) (fC (.int 0))) (aNil))) (fBin oShl (fC (.int 1)) (fBin oAdd (fBin oItem (fVar 0) (fC (.int 0))) (fBin oItem (fVar 0) (fC (.int 1)))))))) (sSeq (sIf (tOr (tVal (fBin cLt (fVar 6) (fC (.int 0)))) (tVal (fBin cGt (fVar 6) (fVar 5)))) (sRet (fC (.bl false))) (sNext)) (sSeq (sIf (tVal (fBin cGe (fCall bAbs (aCons (fVar 2) (aNil))) (fBin oShl (fCall zu (aCons (fVar 0) (aCons (fVar 5) (aNil)))) (fVar 3)))) (sRet (fAnd (fBin cEq (fVar 6) (fBin oAdd (fBin oSub (fVar 5) (fC (.int 1))) (fCall bInt (aCons (fCall zh (aCons (fVar 4) (aCons (fC (.bl true)) (aCons (fC (.int 3)) (aCons (fC (.int 1)) (aCons (fBin cLt (fVar 2) (fC (.int 0))) (aNil))))))) (aNil))))) (fBin cEq (fBin oItem (fVar 1) (fC (.int 1))) (fC (.int 20))))) (sNext)) (sSeq (sSet 7 (fBin oShl (fCall zu (aCons (fVar 0) (aCons (fVar 6) (aNil)))) (fVar 3))) (sSeq (sIf (tVal (fBin cEq (fVar 7) (fCall bAbs (aCons (fVar 2) (aNil))))) (sRet (fBin cEq (fBin oItem (fVar 1) (fC (.int 1))) (fC (.int 0)))) (sNext)) (sSeq (sSet 8 (fBin oSub (fVar 6) (fCall bInt (aCons (fBin cGt (fVar 7) (fCall bAbs (aCons (fVar 2) (aNil)))) (aNil))))) (sSeq (sSet 9 (fBin oSub (fCall bAbs (aCons (fVar 2) (aNil))) (fBin oShl (fCall zu (aCons (fVar 0) (aCons (fVar 8) (aNil)))) (fVar 3)))) (sSeq (sSet 10 (fBin oSub (fBin oShl (fCall zu (aCons (fVar 0) (aCons (fBin oAdd (fVar 8) (fC (.int 1))) (aNil)))) (fVar 3)) (fCall bAbs (aCons (fVar 2) (aNil))))) (sSeq (sIf (tOr (tVal (fBin cLe (fVar 9) (fC (.int 0)))) (tVal (fBin cLe (fVar 10) (fC (.int 0))))) (sRet (fC (.bl false))) (sNext)) (sSeq (sIf (tVal (fBin cNe (fBin cGt (fVar 7) (fCall bAbs (aCons (fVar 2) (aNil)))) (fCall zh (aCons (fVar 4) (aCons (fBin cEq (fBin oMod (fVar 8) (fC (.int 2))) (fC (.int 1))) (aCons (fVar 9) (aCons (fVar 10) (aCons (fBin cLt (fVar 2) (fC (.int 0))) (aNil))))))))) (sRet (fC (.bl false))) (sNext)) (sSeq (sSet 11 (fCall bInt (aCons (fBin cLt (fCall bAbs (aCons (fVar 2) (aNil))) (fBin oShl (fC (.int 1)) (fBin oAdd (fBin oItem (fVar 0) (fC (.int 1))) (fVar 3)))) (aNil)))) (sRet (fBin cEq (fBin oItem (fVar 1) (fC (.int 1))) (fBin oAdd (fBin oAdd (fC (.int 16)) (fBin oMul (fC (.int 8)) (fVar 11))) (fBin oMul (fC (.int 4)) (fCall bInt (aCons (fBin cEq (fVar 6) (fVar 5)) (aNil))))))))))))))))))
noncomputable def zd:List PV→R PV:=runF 12 z1b
noncomputable def z5z:FS:=sRet (fCall q_gathered (aCons (fVar 0) (aCons (fLst (aCons (fCall q_product (aCons (fVar 0) (aCons (fVar 1) (aCons (fVar 2) (aNil))))) (aNil))) (aCons (fVar 3) (aNil)))))
noncomputable def z2b:List PV→R PV:=runF 4 z5z
noncomputable def z5l:FS:=sRet (fCall q_gathered (aCons (fVar 0) (aCons (fLst (aCons (fCall q_product (aCons (fVar 0) (aCons (fVar 1) (aCons (fVar 2) (aNil))))) (aCons (fCall q_term_of (aCons (fVar 0) (aCons (fVar 3) (aNil)))) (aNil)))) (aCons (fVar 4) (aNil)))))
noncomputable def z29:List PV→R PV:=runF 5 z5l
noncomputable def z33:FS:=sRet (fCall q_gathered (aCons (fVar 0) (aCons (fCompX 3 (iSeq (fVar 1)) (tTrue) (fCallX q_term_of (aCons (fVar 0) (aCons (fVar 3) (aNil))))) (aCons (fVar 2) (aNil)))))
noncomputable def z2c:List PV→R PV:=runF 3 z33
noncomputable def z2z:FS:=sSeq (sSet 3 (fBin oShl (fC (.int 1)) (fBin oAdd (fBin oItem (fVar 0) (fC (.int 0))) (fBin oItem (fVar 0) (fC (.int 1)))))) (sSeq (sSet 4 (fBin oShl (fBin oSub (fBin oShl (fC (.int 1)) (fBin oItem (fVar 0) (fC (.int 0)))) (fC (.int 1))) (fBin oItem (fVar 0) (fC (.int 1))))) (sSeq (sSet 5 (fLst (aCons (fC (.int 0)) (aCons (fC (.int 1)) (aCons (fBin oSub (fBin oShl (fC (.int 1)) (fBin oItem (fVar 0) (fC (.int 1)))) (fC (.int 1))) (aCons (fBin oShl (fC (.int 1)) (fBin oItem (fVar 0) (fC (.int 1)))) (aCons (fBin oSub (fVar 4) (fC (.int 1))) (aNil)))))))) (sSeq (sSet 6 (fBin oMod (fBin oDiv (fVar 1) (fBin oMul (fC (.int 2)) (fVar 3))) (fC (.int 20)))) (sSeq (sIf (tVal (fBin cLt (fVar 6) (fC (.int 5)))) (sRet (fBin oAdd (fBin oItem (fVar 5) (fVar 6)) (fBin oMul (fBin oMod (fVar 1) (fC (.int 2))) (fVar 3)))) (sNext)) (sSeq (sIf (tVal (fBin cLt (fVar 6) (fC (.int 10)))) (sRet (fVar 2)) (sNext)) (sSeq (sIf (tVal (fBin cLt (fVar 6) (fC (.int 15)))) (sSeq (sSet 7 (fBin oSub (fBin oSub (fBin oShl (fC (.int 1)) (fBin oSub (fBin oItem (fVar 0) (fC (.int 0))) (fC (.int 1)))) (fC (.int 1))) (fBin oDiv (fBin oAdd (fBin oItem (fVar 0) (fC (.int 1))) (fC (.int 5))) (fC (.int 2))))) (sSeq (sSet 7 (fBin oAdd (fVar 7) (fBin oMod (fBin oDiv (fVar 1) (fC (.int 2))) (fBin oAdd (fBin oItem (fVar 0) (fC (.int 1))) (fC (.int 5)))))) (sSeq (sSet 7 (fCall bMin (aCons (fCall bMax (aCons (fVar 7) (aCons (fC (.int 0)) (aNil)))) (aCons (fBin oSub (fBin oShl (fC (.int 1)) (fBin oItem (fVar 0) (fC (.int 0)))) (fC (.int 2))) (aNil))))) (sSeq (sSet 8 (fBin oAdd (fBin oShl (fVar 7) (fBin oItem (fVar 0) (fC (.int 1)))) (fBin oMod (fBin oDiv (fVar 1) (fC (.int 256))) (fBin oShl (fC (.int 1)) (fBin oItem (fVar 0) (fC (.int 1))))))) (sRet (fBin oAdd (fVar 8) (fBin oMul (fBin oMod (fVar 1) (fC (.int 2))) (fVar 3)))))))) (sNext)) (sRet (fBin oAdd (fBin oMod (fBin oDiv (fVar 1) (fC (.int 2))) (fVar 4)) (fBin oMul (fBin oMod (fVar 1) (fC (.int 2))) (fVar 3))))))))))
noncomputable def zx:List PV→R PV:=runF 9 z2z
noncomputable def z40:FS:=sSeq (sSet 5 (fCall zx (aCons (fVar 0) (aCons (fBin oMod (fBin oMul (fVar 7) (fC (.int 618033988749894848204587))) (fBin oAdd (fBin oPow (fC (.int 10)) (fC (.int 24))) (fC (.int 7)))) (aCons (fVar 5) (aNil)))))) (sSeq (sSet 8 (fBin oMod (fBin oAdd (fVar 6) (fVar 2)) (fBin oMul (fC (.int 2)) (fVar 2)))) (sSeq (sSet 6 (fCall zx (aCons (fVar 0) (aCons (fBin oMod (fBin oMul (fVar 7) (fC (.int 414213562373095048801689))) (fBin oAdd (fBin oPow (fC (.int 10)) (fC (.int 24))) (fC (.int 7)))) (aCons (fVar 8) (aNil)))))) (sSeq (sAppend 3 (aCons (fVar 5) (aNil))) (sAppend 4 (aCons (fVar 6) (aNil))))))
noncomputable def z5b:FS:=sSeq (sSet 2 (fBin oShl (fC (.int 1)) (fBin oAdd (fBin oItem (fVar 0) (fC (.int 0))) (fBin oItem (fVar 0) (fC (.int 1)))))) (sSeq (sOwn 3 (fLst (aNil))) (sSeq (sOwn 4 (fLst (aNil))) (sSeq (sSet 5 (fC (.int 0))) (sSeq (sSet 6 (fC (.int 0))) (sSeq (sFor 7 (iSeq (fVar 1)) (z40)) (sFreeze 4 (sFreeze 3 (sRet (fTup (aCons (fVar 3) (aCons (fVar 4) (aNil))))))))))))
noncomputable def z2n:List PV→R PV:=runF 9 z5b
noncomputable def z2y:FS:=sSeq (sIf (tOr (tNot (tVal (fIsinst .tuple (fVar 1)))) (tOr (tVal (fBin cNe (fCall bLen (aCons (fVar 1) (aNil))) (fC (.int 2)))) (tOr (tNot (tVal (fCall z27 (aCons (fBin oItem (fVar 1) (fC (.int 0))) (aNil))))) (tNot (tVal (fCall z27 (aCons (fBin oItem (fVar 1) (fC (.int 1))) (aNil)))))))) (sRet (fC (.bl false))) (sNext)) (sSeq (sSet 5 (fBin oShl (fC (.int 1)) (fBin oAdd (fBin oItem (fVar 0) (fC (.int 0))) (fBin oItem (fVar 0) (fC (.int 1)))))) (sSeq (sSet 6 (fCompT 8 2 (iZip (fVar 2) (fVar 3)) (tTrue) (fBin oMul (fCall (noX zn) (aCons (fVar 0) (aCons (fVar 8) (aNil)))) (fCall (noX zn) (aCons (fVar 0) (aCons (fVar 9) (aNil))))))) (sSeq (sIf (tVal (fBin cNe (fCall bSum (aCons (fVar 6) (aNil))) (fC (.int 0)))) (sRet (fCall zd (aCons (fVar 0) (aCons (fVar 1) (aCons (fCall bSum (aCons (fVar 6) (aNil))) (aCons (fBin oSub (fBin oAdd (fBin oShl (fC (.int 1)) (fBin oSub (fBin oItem (fVar 0) (fC (.int 0))) (fC (.int 1)))) (fBin oItem (fVar 0) (fC (.int 1)))) (fC (.int 2))) (aCons (fVar 4) (aNil)))))))) (sNext)) (sSeq (sSet 7 (fCall bSum (aCons (fCompT 8 2 (iZip (fVar 2) (fVar 3)) (tTrue) (fBin oMod (fBin oAdd (fBin oDiv (fVar 8) (fVar 5)) (fBin oDiv (fVar 9) (fVar 5))) (fC (.int 2)))) (aNil)))) (sSeq (sIf (tAnd (tVal (fBin cEq (fVar 6) (fBin oRep (fLst (aCons (fC (.int 0)) (aNil))) (fCall bLen (aCons (fVar 2) (aNil)))))) (tVal (fBin cIn (fVar 7) (fTup (aCons (fC (.int 0)) (aCons (fCall bLen (aCons (fVar 2) (aNil))) (aNil))))))) (sRet (fBin cEq (fVar 1) (fTup (aCons (fBin oMul (fVar 5) (fCall bInt (aCons (fBin cGt (fVar 7) (fC (.int 0))) (aNil)))) (aCons (fC (.int 0)) (aNil)))))) (sNext)) (sRet (fBin cEq (fVar 1) (fTup (aCons (fBin oMul (fVar 5) (fCall bInt (aCons (fBin cEq (fVar 4) (fC (.str "down"))) (aNil)))) (aCons (fC (.int 0)) (aNil)))))))))))
noncomputable def q_Lgood_v22:List PV→R PV:=runF 8 z2y
noncomputable def z24:FS:=sSeq (sIf (tVal (fBin cNe (fCall bLen (aCons (fVar 1) (aNil))) (fCall bLen (aCons (fVar 2) (aNil))))) (sRaiseT (fun _=>true) 5) (sNext)) (sRet (fCall q_gathered (aCons (fVar 0) (aCons (fCompX 4 (iRange (aCons (fCall bLen (aCons (fVar 1) (aNil))) (aNil))) (tTrue) (fCallX q_product (aCons (fVar 0) (aCons (fBin oItem (fVar 1) (fVar 4)) (aCons (fBin oItem (fVar 2) (fVar 4)) (aNil)))))) (aCons (fVar 3) (aNil))))))
noncomputable def q_dots_v2:List PV→R PV:=runF 4 z24
noncomputable def z5d:FS:=sSeq (sSet 4 (fC .non)) (sSeq (sTryAs (sExpr (fCall q_dots_v2 (aCons (fVar 0) (aCons (fVar 1) (aCons (fVar 2) (aCons (fVar 3) (aNil))))))) [0,1,2,3,4,5,6,7,8,9] 0 5 4) (sSeq (sIf (tOr (tVal (fIsExc [0,1,2,3,4,5,6,7,8,9] 1 (fVar 4))) (tOr (tVal (fIsExc [0,1,2,3,4,5,6,7,8,9] 4 (fVar 4))) (tVal (fIsExc [0,1,2,3,4,5,6,7,8,9] 6 (fVar 4))))) (sRet (fC .non)) (sNext)) (sSeq (sIf (tOr (tVal (fIsExc [0,1,2,3,4,5,6,7,8,9] 7 (fVar 4))) (tOr (tVal (fIsExc [0,1,2,3,4,5,6,7,8,9] 8 (fVar 4))) (tVal (fIsExc [0,1,2,3,4,5,6,7,8,9] 9 (fVar 4))))) (sRet (fC .non)) (sNext)) (sSeq (sSet 6 (fTup (aCons (fIsExc [0,1,2,3,4,5,6,7,8,9] 5 (fVar 4)) (aCons (fIsExc [0,1,2,3,4,5,6,7,8,9] 2 (fVar 4)) (aCons (fIsExc [0,1,2,3,4,5,6,7,8,9] 3 (fVar 4)) (aNil)))))) (sRet (fBin oAdd (fVar 6) (fTup (aCons (fIsVal [0,1,2,3,4,5,6,7,8,9] (fVar 4)) (aNil)))))))))
noncomputable def z7:List PV→R PV:=runF 7 z5d
noncomputable def z1a:FS:=sSeq (sIf (tVal (fBin cNe (fCall q_dots_v2 (aCons (fVar 0) (aCons (fLst (aCons (fVar 6) (aNil))) (aCons (fLst (aCons (fVar 7) (aNil))) (aCons (fVar 4) (aNil)))))) (fCall z2b (aCons (fVar 0) (aCons (fVar 6) (aCons (fVar 7) (aCons (fVar 4) (aNil)))))))) (sRet (fC (.bl false))) (sNext)) (sIf (tVal (fBin cNe (fCall q_dots_v2 (aCons (fVar 0) (aCons (fLst (aCons (fVar 6) (aCons (fVar 3) (aNil)))) (aCons (fLst (aCons (fVar 7) (aCons (fVar 5) (aNil)))) (aCons (fVar 4) (aNil)))))) (fCall z29 (aCons (fVar 0) (aCons (fVar 6) (aCons (fVar 7) (aCons (fVar 3) (aCons (fVar 4) (aNil))))))))) (sRet (fC (.bl false))) (sNext))
noncomputable def z5c:FS:=sSeq (sSet 5 (fBin oShl (fBin oSub (fBin oShl (fC (.int 1)) (fBin oSub (fBin oItem (fVar 0) (fC (.int 0))) (fC (.int 1)))) (fC (.int 1))) (fBin oItem (fVar 0) (fC (.int 1))))) (sSeq (sIf (tVal (fBin cNe (fCall q_dots_v2 (aCons (fVar 0) (aCons (fVar 1) (aCons (fBin oRep (fLst (aCons (fVar 5) (aNil))) (fCall bLen (aCons (fVar 1) (aNil)))) (aCons (fVar 4) (aNil)))))) (fCall z2c (aCons (fVar 0) (aCons (fVar 1) (aCons (fVar 4) (aNil))))))) (sRet (fC (.bl false))) (sNext)) (sSeq (sForT [6,7] (iZip (fCut (fVar 1) (oNone) (oSome (fC (.int 8)))) (fCut (fVar 2) (oNone) (oSome (fC (.int 8))))) (z1a)) (sRet (fBin cEq (fCall (dflt q_dots_v2 [.str "even"]) (aCons (fVar 0) (aCons (fVar 1) (aCons (fVar 2) (aNil))))) (fCall q_dots_v2 (aCons (fVar 0) (aCons (fVar 1) (aCons (fVar 2) (aCons (fC (.str "even")) (aNil))))))))))
noncomputable def z2o:List PV→R PV:=runF 8 z5c
noncomputable def z5q:FS:=sSeq (sSet 10 (fBin oAdd (fBin oAdd (fCut (fVar 12) (oNone) (oSome (fVar 7))) (fLst (aCons (fVar 8) (aNil)))) (fCut (fVar 12) (oSome (fVar 7)) (oNone)))) (sSeq (sIf (tVal (fBin cNe (fCall z7 (aCons (fVar 2) (aCons (fVar 10) (aCons (fVar 13) (aCons (fVar 4) (aNil)))))) (fTup (aCons (fC (.bl true)) (aCons (fC (.bl false)) (aCons (fC (.bl false)) (aCons (fC (.bl true)) (aNil)))))))) (sRet (fC (.bl false))) (sNext)) (sIf (tVal (fBin cNe (fCall z7 (aCons (fVar 2) (aCons (fVar 13) (aCons (fVar 10) (aCons (fBin oAdd (fVar 4) (fC (.str "s"))) (aNil)))))) (fTup (aCons (fC (.bl true)) (aCons (fC (.bl false)) (aCons (fC (.bl false)) (aCons (fC (.bl true)) (aNil)))))))) (sRet (fC (.bl false))) (sNext)))
noncomputable def z5p:FS:=sSeq (sSet 1 (fCall z28 (aCons (fCall z14 (aCons (fVar 0) (aCons (fC (.int 0)) (aNil)))) (aNil)))) (sSeq (sSet 2 (fCall z22 (aCons (fBin oItem (fVar 1) (fC (.int 0))) (aCons (fBin oItem (fVar 1) (fC (.int 1))) (aNil))))) (sSeq (sSet 3 (fBin oMod (fBin oMul (fCall z14 (aCons (fVar 0) (aCons (fC (.int 1)) (aNil)))) (fC (.int 16807))) (fC (.int 999979)))) (sSeq (sSet 4 (fBin oItem (fLst (aCons (fC (.str "even")) (aCons (fC (.str "away")) (aCons (fC (.str "in")) (aCons (fC (.str "up")) (aCons (fC (.str "down")) (aNil))))))) (fBin oMod (fVar 3) (fC (.int 5))))) (sSeq (sUnpack [12,13] (fCall z2n (aCons (fVar 1) (aCons (fCut (fVar 0) (oSome (fC (.int 2))) (oSome (fC (.int 147)))) (aNil))))) (sSeq (sSet 5 (fLst (aCons (fCall bList (aCons (fVar 12) (aNil))) (aCons (fCall bList (aCons (fVar 13) (aNil))) (aNil))))) (sSeq (sSet 6 (fCall q_dots_v2 (aCons (fVar 2) (aCons (fBin oItem (fVar 5) (fC (.int 0))) (aCons (fBin oItem (fVar 5) (fC (.int 1))) (aCons (fVar 4) (aNil))))))) (sSeq (sIf (tOr (tNot (tVal (fCall q_Lgood_v22 (aCons (fVar 1) (aCons (fVar 6) (aCons (fVar 12) (aCons (fVar 13) (aCons (fVar 4) (aNil))))))))) (tVal (fBin cNe (fCall q_dots_v2 (aCons (fVar 2) (aCons (fBin oItem (fVar 5) (fC (.int 1))) (aCons (fBin oItem (fVar 5) (fC (.int 0))) (aCons (fVar 4) (aNil)))))) (fVar 6)))) (sRet (fC (.bl false))) (sNext)) (sSeq (sSet 7 (fBin oMod (fBin oDiv (fVar 3) (fC (.int 5))) (fBin oAdd (fCall bLen (aCons (fVar 12) (aNil))) (fC (.int 1))))) (sSeq (sFor 8 (iSeq (fLst (aCons (fC (.int 0)) (aCons (fUn oNeg (fC (.int 1))) (aNil))))) (z5q)) (sSeq (sSet 9 (fBin oItem (fLst (aCons (fBin oShl (fC (.int 2)) (fBin oAdd (fBin oItem (fVar 1) (fC (.int 0))) (fBin oItem (fVar 1) (fC (.int 1))))) (aCons (fUn oNeg (fC (.int 1))) (aCons (fC .non) (aNil))))) (fBin oMod (fBin oDiv (fVar 3) (fC (.int 7))) (fC (.int 3))))) (sSeq (sSet 10 (fBin oAdd (fBin oAdd (fCut (fVar 13) (oNone) (oSome (fVar 7))) (fLst (aCons (fVar 9) (aNil)))) (fCut (fVar 13) (oSome (fVar 7)) (oNone)))) (sSeq (sIf (tVal (fBin cNe (fCall z7 (aCons (fVar 2) (aCons (fBin oAdd (fVar 12) (fLst (aCons (fC (.int 0)) (aNil)))) (aCons (fVar 10) (aCons (fBin oAdd (fVar 4) (fC (.str "s"))) (aNil)))))) (fTup (aCons (fC (.bl false)) (aCons (fC (.bl true)) (aCons (fC (.bl false)) (aCons (fC (.bl true)) (aNil)))))))) (sRet (fC (.bl false))) (sNext)) (sSeq (sSet 10 (fBin oAdd (fBin oAdd (fCut (fVar 12) (oNone) (oSome (fVar 7))) (fLst (aCons (fVar 9) (aNil)))) (fCut (fVar 12) (oSome (fVar 7)) (oNone)))) (sSeq (sIf (tVal (fBin cNe (fCall z7 (aCons (fVar 2) (aCons (fVar 10) (aCons (fBin oAdd (fVar 13) (fLst (aCons (fC (.int 0)) (aNil)))) (aCons (fVar 4) (aNil)))))) (fTup (aCons (fC (.bl false)) (aCons (fC (.bl true)) (aCons (fC (.bl false)) (aCons (fC (.bl true)) (aNil)))))))) (sRet (fC (.bl false))) (sNext)) (sSeq (sIf (tVal (fBin cNe (fCall z7 (aCons (fVar 2) (aCons (fVar 12) (aCons (fVar 13) (aCons (fBin oAdd (fVar 4) (fC (.str "s"))) (aNil)))))) (fTup (aCons (fC (.bl false)) (aCons (fC (.bl false)) (aCons (fC (.bl true)) (aCons (fC (.bl true)) (aNil)))))))) (sRet (fC (.bl false))) (sNext)) (sSeq (sIf (tVal (fBin cNe (fCall z7 (aCons (fVar 2) (aCons (fLst (aNil)) (aCons (fLst (aNil)) (aCons (fC .non) (aNil)))))) (fTup (aCons (fC (.bl false)) (aCons (fC (.bl false)) (aCons (fC (.bl true)) (aCons (fC (.bl true)) (aNil)))))))) (sRet (fC (.bl false))) (sNext)) (sSeq (sSet 11 (fBin oMod (fBin oMod (fBin oMul (fCall z14 (aCons (fVar 0) (aCons (fC (.int 2)) (aNil)))) (fC (.int 732050807568877293527446))) (fBin oAdd (fBin oPow (fC (.int 10)) (fC (.int 24))) (fC (.int 7)))) (fBin oShl (fBin oSub (fBin oShl (fC (.int 1)) (fBin oItem (fVar 1) (fC (.int 0)))) (fC (.int 1))) (fBin oItem (fVar 1) (fC (.int 1)))))) (sSeq (sIf (tNot (tVal (fCall z2o (aCons (fVar 2) (aCons (fVar 12) (aCons (fVar 13) (aCons (fVar 11) (aCons (fVar 4) (aNil))))))))) (sRet (fC (.bl false))) (sNext)) (sRet (fBin cEq (fVar 5) (fLst (aCons (fVar 12) (aCons (fVar 13) (aNil))))))))))))))))))))))))
noncomputable def q_law_v75:List PV→R PV:=runF 14 z5p
theorem oItem_ints {ns:List Int}{i:Int} (h0:0≤i) (h:i<ns.length):oItem (.lst (ns.map PV.int)) (.int i) = .ok (.int (ns.getD i.toNat 0)):=by
  refine oItem_at h0 ?_
  have hl:i.toNat<ns.length:=by omega
  rw [List.getElem?_map,List.getD_eq_getElem?_getD,List.getElem?_eq_getElem hl]
  rfl
theorem z54 (ns:List Int) (k:Int) (hk:0≤k):z14 [.lst (ns.map PV.int),.int k] = .ok (.int (ns.getD k.toNat 0)):=by
  by_cases h:k<(ns.length:Int)
  · dsimp! [z14,z4h,List.length_map,h,oItem_ints hk h]
  · have e:ns.getD k.toNat 0=0:=by
      rw [List.getD_eq_getElem?_getD,List.getElem?_eq_none (by omega)];rfl
    dsimp! [z14,z4h,List.length_map,h,e]
theorem z7f (n:Int):z27 [.int n] = .ok (.bl true):=by dsimp! [z27,z5e]
theorem mem_range {x:PV}{lo hi st:Int} (hs:0<st) (h:x∈rangeP lo hi st):∃ i,x = .int i∧lo≤i∧i<hi:=by
  unfold rangeP at h
  rw [List.mem_map] at h
  obtain ⟨k,hk,rfl⟩:=h
  rw [List.mem_range] at hk
  unfold rangeN at hk
  rw [if_pos hs] at hk
  refine ⟨_,rfl,?_,?_⟩
  · have:=Int.mul_nonneg (Int.natCast_nonneg k) (Int.le_of_lt hs);omega
  · by_cases hl:lo<hi
    · rw [if_pos hl] at hk
      have h1:(k:Int)≤(hi - lo - 1) / st:=by
        have:0≤(hi - lo - 1) / st:=Int.ediv_nonneg (by omega) (by omega)
        omega
      have h2:=Int.mul_le_mul_of_nonneg_right h1 (Int.le_of_lt hs)
      have h3:(hi - lo - 1) / st*st≤hi - lo - 1:=Int.ediv_mul_le _ (by omega)
      omega
    · rw [if_neg hl] at hk;omega
theorem z3u (k:Int):z8 [.int 0,.int k] = .ok (.tup [.int 0,.int 0]):=by dsimp! [z8,z4n]
theorem z47 {n:Int} (k:Int) (h:n≠0):z8 [.int n,.int k] = .ok (.tup [.int (n / p2 (tz n)),.int (k+tz n)]):=by
  have h2:okShr (tz n):=(tz_spec h).1
  have e:(nb (Builtin.bitAnd n (-n)):Int) - 1=tz n:=rfl
  dsimp! [z8,z4n,h,e,h2]
theorem tz_le {n:Int} (h:n≠0):tz n≤nb n:=by
  obtain ⟨h1,h2,h3⟩:=tz_spec h
  have h4:n / p2 (tz n)≠0:=by intro z;rw [z] at h2;omega
  have:=nb_shl h4 h1
  rw [h3] at this
  omega
theorem tz_odd {n:Int} (h:n % 2=1):tz n=0:=by
  have:=tz_of (a:=n) (t:=0) h (by decide)
  rw [p2_0,Int.mul_one] at this;exact this
def Wd (e f:Int):Prop:=2≤e∧e≤11∧1≤f∧f≤60
theorem okShl_1 {b:Int} (h0:0≤b) (h:b≤1000):okShl 1 b:=okShl_of (n:=1) h0 (by decide) (by omega)
theorem z8u {x lo hi:Int} (h0:lo≤x) (h1:x≤hi):zb [.int x,.int lo,.int hi] = .ok (.bl true):=by
  dsimp! [zb,z32,z1u,z31,h0,h1]
theorem z91 {e f:Int} (h:Wd e f):z22 [.int e,.int f] = .ok (.tup [.int e,.int f]):=by
  obtain ⟨h1,h2,h3,h4⟩:=h
  dsimp! [z22,z62,z8u h1 h2,z8u h3 h4]
theorem cast2:((2:Nat):Int)=2:=rfl
theorem z8m {e f:Int} (h:Wd e f):z6 [.tup [.int e,.int f]] = .ok .non:=by
  dsimp! [z6,z5j,cast2,z91 h,decide_true,Bool.not_true,Bool.false_eq_true,if_false]
theorem z6b {e f:Int} (h:Wd e f):z2s [.tup [.int e,.int f]] = .ok (.int (p2 (1+e+f))):=by
  have:=z8m h
  obtain ⟨h1,h2,h3,h4⟩:=h
  dsimp! [z2s,z5s,this,okShl_1 (b:=1+e+f) (by omega) (by omega),Int.one_mul]
theorem z63 {e f:Int} (h:Wd e f):z1p [.tup [.int e,.int f]] = .ok (.int (p2 (e - 1) - 1)):=by
  have:=z8m h
  obtain ⟨h1,h2,h3,h4⟩:=h
  dsimp! [z1p,z5h,this,okShl_1 (b:=e - 1) (by omega) (by omega),Int.one_mul]
theorem z57 {e f:Int} (h:Wd e f):q_least_power [.tup [.int e,.int f]] = .ok (.int (1 - (p2 (e - 1) - 1) - f)):=by
  dsimp! [q_least_power,z5r,z63 h]
theorem z2u {c:Int} (h0:0≤c) (h:c≤1000):ze [.int c] = .ok (.int (p2 c - 1)):=by
  dsimp! [ze,z5g,okShl_1 h0 h,Int.one_mul]
theorem z55 {e f w:Int} (h:Wd e f) (h0:0≤w) (h1:w<p2 (1+e+f)):zo [.tup [.int e,.int f],.int w] = .ok .non:=by
  dsimp! [zo,z4m,z6b h,z8u h0 (show w≤p2 (1+e+f) - 1 by omega)]
theorem z58 {x c:Int} (hc:0≤c) (hc':c≤1000) (h0:0≤x) (h1:x<p2 c):z1q [.int x,.int c] = .ok .non:=by
  dsimp! [z1q,z5i,z2u hc hc',z8u h0 (show x≤p2 c - 1 by omega)]
theorem z69 {e f s x y:Int} (h:Wd e f) (s0:0≤s) (s1:s<2) (x0:0≤x) (x1:x<p2 e) (y0:0≤y) (y1:y<p2 f) :
    z1v [.tup [.int e,.int f],.int s,.int x,.int y] = .ok (.int (s*p2 (e+f)+x*p2 f+y)):=by
  have a:=z8m h
  obtain ⟨h1,h2,h3,h4⟩:=h
  have b:=z58 (x:=s) (c:=1) (by decide) (by decide) s0 (by rw [p2_1];exact s1)
  have c:=z58 (by omega) (by omega) x0 x1
  have d:=z58 (by omega) (by omega) y0 y1
  have bx:nb x≤11:=nb_le (by
    have:=p2_le (a:=e) (b:=11) (by omega) (by omega)
    have e11:p2 11=2048:=by decide
    omega)
  have o1:okShl s (e+f):=okShl_of (n:=10) (by omega) (nb_le (by omega)) (by omega)
  have o2:okShl x f:=okShl_of (n:=11) (by omega) bx (by omega)
  dsimp! [z1v,z5o,a,b,c,d,o1,o2]
theorem and_ones {x c:Int} (h0:0≤x) (hc:0≤c):Builtin.bitAnd x (p2 c - 1)=x % p2 c:=by
  have hp:=p2_pos c
  unfold Builtin.bitAnd
  rw [decide_eq_true h0,decide_eq_true (show 0≤p2 c - 1 by omega)]
  show (((x.toNat &&& (p2 c - 1).toNat:Nat)):Int)=_
  have e:(p2 c - 1).toNat=2 ^ c.toNat - 1:=by
    have e1:p2 c=((2 ^ c.toNat:Nat):Int):=by show (2:Int) ^ c.toNat=_;push_cast;rfl
    rw [e1];omega
  rw [e,Nat.and_two_pow_sub_one_eq_mod]
  have e1:p2 c=((2 ^ c.toNat:Nat):Int):=by show (2:Int) ^ c.toNat=_;push_cast;rfl
  rw [e1]
  push_cast
  rw [Int.toNat_of_nonneg h0]
theorem z56 {e f w:Int} (h:Wd e f) (h0:0≤w) (h1:w<p2 (1+e+f)) :
    z8o [.tup [.int e,.int f],.int w] = .ok (.tup [.int (w / p2 (e+f)),.int (w / p2 f % p2 e),.int (w % p2 f)]):=by
  have a:=z55 h h0 h1
  obtain ⟨g1,g2,g3,g4⟩:=h
  have o1:okShr (e+f):=by show 0≤e+f;omega
  have o2:okShr f:=by show 0≤f;omega
  have hp:=p2_pos f
  have z:0≤w / p2 f:=Int.ediv_nonneg h0 (by omega)
  dsimp! [z8o,z8i,a,o1,o2,z2u (show 0≤e by omega) (by omega),z2u (show 0≤f by omega) (by omega),and_ones z (show 0≤e by omega),and_ones h0 (show 0≤f by omega)]
theorem parts {e f w:Int} (h:Wd e f) (h0:0≤w) (h1:w<p2 (1+e+f)):∃ s x y,0≤s∧s<2∧0≤x∧x<p2 e∧0≤y∧y<p2 f∧w=(s*p2 e+x)*p2 f+y∧w / p2 (e+f)=s∧w / p2 f=s*p2 e+x∧w / p2 f % p2 e=x∧w % p2 f=y:=by
  obtain ⟨g1,g2,g3,g4⟩:=h
  have pf:=p2_pos f
  have pe:=p2_pos e
  have e1:p2 (e+f)=p2 f*p2 e:=by rw [Int.add_comm,p2_add (by omega) (by omega)]
  have e2:p2 (1+e+f)=2*(p2 f*p2 e):=by rw [← e1,← p2_succ (by omega)];congr 1;omega
  have d1:=Int.mul_ediv_add_emod w (p2 f)
  have d2:=Int.mul_ediv_add_emod (w / p2 f) (p2 e)
  have d3:w / p2 (e+f)=w / p2 f / p2 e:=by rw [e1,Int.ediv_ediv_of_nonneg (by omega)]
  have z:0≤w / p2 f:=Int.ediv_nonneg h0 (by omega)
  refine ⟨w / p2 f / p2 e,w / p2 f % p2 e,w % p2 f,Int.ediv_nonneg z (by omega),?_,Int.emod_nonneg _ (by omega),Int.emod_lt_of_pos _ pe,Int.emod_nonneg _ (by omega),Int.emod_lt_of_pos _ pf,?_,d3,?_,rfl,rfl⟩
  · rw [← d3,e1]
    refine Int.ediv_lt_of_lt_mul (Int.mul_pos pf pe) (by rw [← e2];exact h1)
  · rw [Int.mul_comm (_ / p2 e),d2,Int.mul_comm (w / p2 f)];omega
  · rw [Int.mul_comm (_ / p2 e),d2]
theorem p2_wd {e f:Int} (h:Wd e f):4≤p2 e∧2≤p2 f∧p2 f=2*p2 (f - 1)∧p2 (e+f)=p2 e*p2 f∧p2 (1+e+f)=2*p2 (e+f)∧nb (p2 e)≤12∧nb (p2 f)≤61∧nb (p2 (e+f))≤72∧nb (p2 (1+e+f))≤73∧1≤p2 (f - 1)∧p2 e≤2048:=by
  obtain ⟨g1,g2,g3,g4⟩:=h
  have e4:p2 2=4:=by decide
  have a:=p2_le (a:=2) (b:=e) (by decide) g1
  have b:=p2_le (a:=1) (b:=f) (by decide) g3
  have e11:p2 11=2048:=by decide
  have c:=p2_le (a:=e) (b:=11) (by omega) g2
  rw [p2_1] at b
  refine ⟨by omega,b,?_,p2_add (by omega) (by omega),?_,?_,?_,?_,?_,p2_pos _,by omega⟩
  · rw [← p2_succ (by omega)];congr 1;omega
  · rw [← p2_succ (by omega)];congr 1;omega
  all_goals rw [nb_p2 (by omega)];omega
theorem top_word {e f:Int} (h:Wd e f):p2 (e+f)=(p2 e - 1)*p2 f+p2 f∧3*p2 f≤(p2 e - 1)*p2 f:=by
  obtain ⟨p1,p3,p4,p5,p6,b1,b2,b3,b4,p7,p8⟩:=p2_wd h
  rw [p5]
  exact ⟨by rw [Int.sub_mul];omega,Int.mul_le_mul_of_nonneg_right (by omega) (by omega)⟩
theorem mulc {c:Int} (hc:nb c≤1048576):okMul c 618033988749894848204587:=okMul_of (n:=200) hc (nb_le (by decide)) (by decide)
theorem str_self (s:Str):(s == s)=true:=beq_self_eq_true s
noncomputable def kindP (e f x y:Int):String:=if x=0 then (if y=0 then "nought" else "small") else if x<p2 e - 1 then "plain" else if y=0 then "endless" else if p2 (f - 1)≤y then "still" else "loud"
theorem z8s {e f:Int} (h:Wd e f):z1t [.tup [.int e,.int f]] = .ok (.int (p2 (f - 1))):=by
  obtain ⟨g1,g2,g3,g4⟩:=h
  dsimp! [z1t,z5m,Int.one_mul,okShl_1 (b:=f - 1) (by omega) (by omega)]
theorem z6a {e f w:Int} (h:Wd e f) (h0:0≤w) (h1:w<p2 (1+e+f)):zi [.tup [.int e,.int f],.int w] = .ok (.str (kindP e f (w / p2 f % p2 e) (w % p2 f))):=by
  have a:=z56 h h0 h1
  have b:=z8s h
  have c:=z2u (c:=e) (by have:=h.1;omega) (by have:=h.2.1;omega)
  generalize w / p2 f % p2 e=x at *
  generalize w % p2 f=y at *
  by_cases k1:x=0
  · by_cases k2:y=0<;>dsimp! [zi,z2h,kindP,a,b,c,k1,k2,if_true,if_false]
  · by_cases k3:x<p2 e - 1
    · dsimp! [zi,z2h,kindP,a,b,c,k1,k3,if_true,if_false]
    · by_cases k2:y=0
      · dsimp! [zi,z2h,kindP,a,b,c,k1,k2,k3,if_true,if_false]
      · by_cases k4:p2 (f - 1)≤y<;>dsimp! [zi,z2h,kindP,a,b,c,k1,k2,k3,k4,if_true,if_false]
theorem tb_hi {r n:Nat} (h:r<2 ^ n) (i:Nat):(2 ^ n+r).testBit i=(r.testBit i || decide (n=i)):=by
  by_cases h1:n=i
  · subst h1
    rw [Nat.testBit_two_pow_add_eq,Nat.testBit_lt_two_pow h,decide_eq_true rfl];rfl
  · rw [decide_eq_false h1,Bool.or_false]
    by_cases h2:i<n
    · rw [Nat.testBit_two_pow_add_gt h2]
    · have a:r<2 ^ i:=Nat.lt_of_lt_of_le h (Nat.pow_le_pow_right (by decide) (by omega))
      have b:2 ^ n+r<2 ^ i:=by
        have:2 ^ (n+1)≤2 ^ i:=Nat.pow_le_pow_right (by decide) (by omega)
        rw [Nat.pow_succ] at this;omega
      rw [Nat.testBit_lt_two_pow a,Nat.testBit_lt_two_pow b]
theorem or_lo {r n:Nat} (h:r<2 ^ n):r ||| 2 ^ n=2 ^ n+r:=by
  apply Nat.eq_of_testBit_eq
  intro i
  rw [Nat.testBit_or,Nat.testBit_two_pow,tb_hi h]
theorem or_hi {r n:Nat} (h:r<2 ^ n):(2 ^ n+r) ||| 2 ^ n=2 ^ n+r:=by
  rw [← or_lo h,Nat.or_assoc,Nat.or_self]
theorem and_lo {r n:Nat} (h:r<2 ^ n):r &&& 2 ^ n=0:=by
  apply Nat.eq_of_testBit_eq
  intro i
  rw [Nat.testBit_and,Nat.testBit_two_pow,Nat.zero_testBit]
  by_cases h1:n=i
  · subst h1;rw [Nat.testBit_lt_two_pow h];rfl
  · rw [decide_eq_false h1,Bool.and_false]
theorem and_hi {r n:Nat} (h:r<2 ^ n):(2 ^ n+r) &&& 2 ^ n=2 ^ n:=by
  apply Nat.eq_of_testBit_eq
  intro i
  rw [Nat.testBit_and,Nat.testBit_two_pow,tb_hi h]
  by_cases h1:n=i
  · rw [decide_eq_true h1,Bool.or_true,Bool.and_true]
  · rw [decide_eq_false h1,Bool.and_false]
theorem p2_cast (c:Int):p2 c=((2 ^ c.toNat:Nat):Int):=by show (2:Int) ^ c.toNat=_;push_cast;rfl
theorem bitOr_nn {x y:Int} (hx:0≤x) (hy:0≤y):Builtin.bitOr x y=((x.toNat ||| y.toNat:Nat):Int):=by
  unfold Builtin.bitOr Builtin.bitAnd
  have h1:¬ 0≤Builtin.bitNot x:=by unfold Builtin.bitNot;omega
  have h2:¬ 0≤Builtin.bitNot y:=by unfold Builtin.bitNot;omega
  rw [decide_eq_false h1,decide_eq_false h2]
  show Builtin.bitNot (Builtin.bitNot (((Builtin.bitNot (Builtin.bitNot x)).toNat ||| (Builtin.bitNot (Builtin.bitNot y)).toNat:Nat):Int))=_
  have nn:∀ z,Builtin.bitNot (Builtin.bitNot z)=z:=fun z=>by unfold Builtin.bitNot;omega
  rw [nn,nn,nn]
theorem and_top {w c:Int} (h0:0≤w) (h1:w<2*p2 c):Builtin.bitAnd w (p2 c)=w / p2 c*p2 c:=by
  have hp:=p2_pos c
  unfold Builtin.bitAnd
  rw [decide_eq_true h0,decide_eq_true (Int.le_of_lt hp)]
  show (((w.toNat &&& (p2 c).toNat:Nat)):Int)=_
  rw [p2_cast] at *
  generalize c.toNat=n at *
  obtain ⟨m,rfl⟩:∃ m:Nat,w=m:=⟨w.toNat,by omega⟩
  rw [Int.toNat_natCast,Int.toNat_natCast]
  by_cases h:m<2 ^ n
  · rw [and_lo h,Int.ediv_eq_zero_of_lt (by omega) (by omega),Int.zero_mul];rfl
  · obtain ⟨r,rfl⟩:∃ r,m=2 ^ n+r:=⟨m - 2 ^ n,by omega⟩
    rw [and_hi (by omega)]
    have e:((2 ^ n+r:Nat):Int)=(r:Int)+1*((2 ^ n:Nat):Int):=by omega
    rw [e,Int.add_mul_ediv_right _ _ (by omega),Int.ediv_eq_zero_of_lt (by omega) (by omega)];omega
theorem xor_top {w c:Int} (h0:0≤w) (h1:w<2*p2 c):Builtin.bitXor w (p2 c)=(w+p2 c) % (2*p2 c):=by
  have hp:=p2_pos c
  unfold Builtin.bitXor
  rw [bitOr_nn h0 (Int.le_of_lt hp),and_top h0 h1]
  clear hp
  rw [p2_cast] at *
  have hp:0<2 ^ c.toNat:=Nat.two_pow_pos _
  generalize c.toNat=n at *
  obtain ⟨m,rfl⟩:∃ m:Nat,w=m:=⟨w.toNat,by omega⟩
  rw [Int.toNat_natCast,Int.toNat_natCast]
  by_cases h:m<2 ^ n
  · rw [or_lo h,Int.emod_eq_of_lt (by omega) (by omega),Int.ediv_eq_zero_of_lt (by omega) (by omega),Int.zero_mul];omega
  · obtain ⟨r,rfl⟩:∃ r,m=2 ^ n+r:=⟨m - 2 ^ n,by omega⟩
    rw [or_hi (by omega)]
    have e:(((2 ^ n+r:Nat):Int)+((2 ^ n:Nat):Int))=(r:Int)+1*(2*((2 ^ n:Nat):Int)):=by omega
    have e':((2 ^ n+r:Nat):Int) / ((2 ^ n:Nat):Int)=1:=by
      have:((2 ^ n+r:Nat):Int)=(r:Int)+1*((2 ^ n:Nat):Int):=by omega
      rw [this,Int.add_mul_ediv_right _ _ (by omega),Int.ediv_eq_zero_of_lt (by omega) (by omega)];rfl
    rw [e,Int.add_mul_emod_self_right,Int.emod_eq_of_lt (by omega) (by omega),e'];omega
theorem z6c {e f:Int} (h:Wd e f):z1z [.tup [.int e,.int f]] = .ok (.int (p2 (e+f))):=by
  obtain ⟨g1,g2,g3,g4⟩:=h
  dsimp! [z1z,z5v,Int.one_mul,okShl_1 (b:=e+f) (by omega) (by omega)]
theorem z7b {e f w:Int} (h:Wd e f) (h0:0≤w) (h1:w<p2 (1+e+f)):z2d [.tup [.int e,.int f],.int w] = .ok (.int ((w+p2 (e+f)) % (2*p2 (e+f)))):=by
  have a:=z55 h h0 h1
  have b:=z6c h
  obtain ⟨p1,p3,p4,p5,p6,_⟩:=p2_wd h
  rw [p6] at h1
  dsimp! [z2d,z60,a,b,xor_top h0 h1]
theorem z8z {e f w:Int} (h:Wd e f) (h0:0≤w) (h1:w<p2 (1+e+f)):z2e [.tup [.int e,.int f],.int w] = .ok (.int (w % p2 (e+f))):=by
  have a:=z55 h h0 h1
  have b:=z6c h
  dsimp! [z2e,z61,a,b,and_ones h0 (show 0≤e+f by have:=h.1;have:=h.2.2.1;omega)]
theorem ni_nought:cNotIn (.str "nought") (.tup [.str "nought",.str "small",.str "plain"]) = .ok (.bl false):=rfl
theorem ni_small:cNotIn (.str "small") (.tup [.str "nought",.str "small",.str "plain"]) = .ok (.bl false):=rfl
theorem ni_plain:cNotIn (.str "plain") (.tup [.str "nought",.str "small",.str "plain"]) = .ok (.bl false):=rfl
theorem s_nought:(Str.ofString "nought" == Str.ofString "plain")=false:=rfl
theorem s_small:(Str.ofString "small" == Str.ofString "plain")=false:=rfl
noncomputable def stepsP (f x y:Int):Int:=if x=0 then y else y+p2 f
noncomputable def powP (e f x:Int):Int:=if x=0 then 1 - (p2 (e - 1) - 1) - f else 1 - (p2 (e - 1) - 1) - f+x - 1
theorem z90 {e f w:Int} (h:Wd e f) (h0:0≤w) (h1:w<p2 (1+e+f)) (hx:w / p2 f % p2 e<p2 e - 1) :
    z17 [.tup [.int e,.int f],.int w]=z8 [.int (if w / p2 (e+f)=1 then -(stepsP f (w / p2 f % p2 e) (w % p2 f)) else stepsP f (w / p2 f % p2 e) (w % p2 f)),.int (powP e f (w / p2 f % p2 e))]:=by
  have a:=z56 h h0 h1
  have k:=z6a h h0 h1
  have l:=z57 h
  have o:=okShl_1 (b:=f) (by have:=h.2.2.1;omega) (by have:=h.2.2.2;omega)
  generalize w / p2 f % p2 e=x at *
  generalize w % p2 f=y at *
  generalize w / p2 (e+f)=s at *
  have ex:∀ a b,∃ n m,z8 [.int a,.int b] = .ok (.tup [.int n,.int m]):=fun a b=>by
    by_cases z:a=0
    · subst z;exact ⟨_,_,z3u b⟩
    · exact ⟨_,_,z47 b z⟩
  have sg:∀ n:Int,(if s=1 then R.ok (PV.int (-n)) else R.ok (PV.int n))=R.ok (PV.int (if s=1 then -n else n)):=fun n=>by split<;>rfl
  unfold stepsP powP
  unfold kindP at k
  by_cases k1:x=0
  · obtain ⟨n,m,en⟩:=ex (if s=1 then -y else y) (1 - (p2 (e - 1) - 1) - f)
    by_cases k2:y=0
    · simp only [k1,k2,if_true] at k a en
      by_cases ks:s=1<;>simp only [ks,if_true,if_false] at en<;>dsimp! [z17,z45,Int.one_mul,a,k,l,o,k1,k2,ks,ni_nought,s_nought,if_true,if_false,en]
    · simp only [k1,k2,if_true,if_false] at k a
      by_cases ks:s=1<;>simp only [ks,if_true,if_false] at en<;>dsimp! [z17,z45,Int.one_mul,a,k,l,o,k1,k2,ks,ni_small,s_small,if_true,if_false,en]
  · obtain ⟨n,m,en⟩:=ex (if s=1 then -(y+p2 f) else y+p2 f) (1 - (p2 (e - 1) - 1) - f+x - 1)
    simp only [k1,hx,if_true,if_false] at k a
    by_cases ks:s=1<;>simp only [ks,if_true,if_false] at en<;>dsimp! [z17,z45,Int.one_mul,a,k,l,o,k1,ks,ni_plain,str_self,if_true,if_false,en]
theorem z8n {e f:Int}{v:PV} (h:Wd e f) (av:asVal (some v) = .ok v) (hv:zb [v,.int 0,.int (p2 (1+e+f) - 1)] = .ok (.bl false)):zo [.tup [.int e,.int f],v] = .exc 2:=by
  dsimp! [zo,z4m,z6b h,av,hv]
theorem wd_a (r:Int):Wd (2+r / 2 % 3) (1+r / 6 % 4):=by
  have a0:=Int.emod_nonneg (r / 2) (show (3:Int)≠0 by decide)
  have a1:=Int.emod_lt_of_pos (r / 2) (show (0:Int)<3 by decide)
  have b0:=Int.emod_nonneg (r / 6) (show (4:Int)≠0 by decide)
  have b1:=Int.emod_lt_of_pos (r / 6) (show (0:Int)<4 by decide)
  generalize r / 2 % 3=x at *
  generalize r / 6 % 4=y at *
  unfold Wd;omega
theorem wd_b (r:Int):Wd (2+r / 2 % 10) (1+r / 20 % 60):=by
  have a0:=Int.emod_nonneg (r / 2) (show (10:Int)≠0 by decide)
  have a1:=Int.emod_lt_of_pos (r / 2) (show (0:Int)<10 by decide)
  have b0:=Int.emod_nonneg (r / 20) (show (60:Int)≠0 by decide)
  have b1:=Int.emod_lt_of_pos (r / 20) (show (0:Int)<60 by decide)
  generalize r / 2 % 10=x at *
  generalize r / 20 % 60=y at *
  unfold Wd;omega
theorem z6v (c:Int):∃ e f,z28 [.int c] = .ok (.tup [.int e,.int f])∧Wd e f:=by
  by_cases h:c*48271 % 999983 % 2=1
  · refine ⟨2+c*48271 % 999983 / 2 % 3,1+c*48271 % 999983 / 6 % 4,?_,wd_a _⟩
    dsimp! [z28,z4k,h]
  · refine ⟨2+c*48271 % 999983 / 2 % 10,1+c*48271 % 999983 / 20 % 60,?_,wd_b _⟩
    dsimp! [z28,z4k,h]
theorem clip {q d T:Int} (h0:0≤T) (h1:q+d<T) (h2:0<T):0≤(if 0 > q+d then (0:Int) else q+d)∧(if 0 > q+d then (0:Int) else q+d)<T:=by split<;>omega
theorem min_le {k l:Int}:(if l<k then l else k)≤k∧(if l<k then l else k)≤l∧((if l<k then l else k)=k∨(if l<k then l else k)=l):=by split<;>omega
theorem min_comm (k l:Int):(if l<k then l else k)=(if k<l then k else l):=by split<;>split<;>omega
noncomputable def ab (n:Int):Int:=if n<0 then -n else n
theorem nb_mono {a b:Int} (h0:0≤a) (h:a≤b):nb a≤nb b:=nb_le (by have:=nb_lt (a:=b) (Nat.le_refl _);omega)
theorem ab_e (n:Int):(if n<0 then -n else n)=ab n:=rfl
theorem ab_nn (n:Int):0≤ab n:=by unfold ab;split<;>omega
theorem ab_pos {n:Int} (h:n≠0):0<ab n:=by unfold ab;split<;>omega
theorem ab_neg' (n:Int):ab (-n)=ab n:=by unfold ab;split<;>split<;>omega
theorem nb_ab (n:Int):nb (ab n)=nb n:=by unfold ab;split<;>simp only [nb_neg]
theorem ab_of {n:Int} (h:0≤n):ab n=n:=by unfold ab;rw [if_neg (by omega)]
theorem p2_le0 {a:Int} (h:a≤0):p2 a=1:=by
  show (2:Int) ^ a.toNat=1
  rw [Int.toNat_of_nonpos h];rfl
theorem z8l (n k d:Int) (h1:nb n≤100000) (h2:nb d≤100000) (h3 : -100000≤k) (h4:k≤100000):z15 [.int n,.int k,.int d] = .ok (.tup [.int (n*p2 k),.int (d*p2 (-k))]):=by
  by_cases h:0≤k
  · have o:okShl n k:=okShl_of h h1 (by omega)
    have e:d*p2 (-k)=d:=by rw [p2_le0 (by omega),Int.mul_one]
    dsimp! [z15,z4l,h,o,e]
  · have o:okShl d (-k):=okShl_of (by omega) h2 (by omega)
    have e:n*p2 k=n:=by rw [p2_le0 (by omega),Int.mul_one]
    dsimp! [z15,z4l,h,o,e]
def Ht (s d e:Int):Prop:=d*p2 e≤s*p2 (-e)∧s*p2 (-e)<2*(d*p2 e)
theorem p2_cross {e f:Int} (h:e≤f):p2 f*p2 (-e)=p2 e*p2 (-f)*p2 (f - e):=by
  by_cases h1:0≤e
  · rw [p2_le0 (a:=-e) (by omega),p2_le0 (a:=-f) (by omega),Int.mul_one,Int.mul_one,← p2_add h1 (by omega)];congr 1;omega
  · by_cases h2:0≤f
    · rw [p2_le0 (a:=e) (by omega),p2_le0 (a:=-f) (by omega),Int.one_mul,Int.one_mul,← p2_add h2 (by omega)];congr 1
    · rw [p2_le0 (a:=e) (by omega),p2_le0 (a:=f) (by omega),Int.one_mul,Int.one_mul,← p2_add (by omega) (by omega)];congr 1;omega
theorem p2_two {j:Int} (h:1≤j):2≤p2 j:=by
  have:=p2_le (a:=1) (b:=j) (by decide) h
  rw [p2_1] at this;exact this
theorem ht_lt {s d e f:Int} (hd:0<d) (he:Ht s d e) (hf:Ht s d f):¬ e<f:=by
  intro h
  have c:=p2_cross (e:=e) (f:=f) (by omega)
  have c2:=p2_two (j:=f - e) (by omega)
  have pe:=p2_pos e
  have pe':=p2_pos (-e)
  have pf':=p2_pos (-f)
  have a1:s*p2 (-e)*p2 (-f)<2*(d*p2 e)*p2 (-f):=Int.mul_lt_mul_of_pos_right he.2 pf'
  have a2:d*p2 f*p2 (-e)≤s*p2 (-f)*p2 (-e):=Int.mul_le_mul_of_nonneg_right hf.1 (by omega)
  have a3:d*p2 f*p2 (-e)=d*(p2 e*p2 (-f))*p2 (f - e):=by rw [Int.mul_assoc,c];exact (Int.mul_assoc _ _ _).symm
  have a4:s*p2 (-f)*p2 (-e)=s*p2 (-e)*p2 (-f):=by rw [Int.mul_assoc,Int.mul_assoc,Int.mul_comm (p2 (-f))]
  have a5:2*(d*p2 e)*p2 (-f)=d*(p2 e*p2 (-f))*2:=by rw [Int.mul_assoc,Int.mul_assoc,Int.mul_comm]
  have a6:d*(p2 e*p2 (-f))*2≤d*(p2 e*p2 (-f))*p2 (f - e):=Int.mul_le_mul_of_nonneg_left c2 (Int.mul_nonneg (by omega) (Int.mul_nonneg (by omega) (by omega)))
  omega
theorem ht_unique {s d e f:Int} (hd:0<d) (he:Ht s d e) (hf:Ht s d f):e=f:=by
  have:=ht_lt hd he hf
  have:=ht_lt hd hf he
  omega
theorem nb_bounds {s:Int} (hs:0<s):p2 ((nb s:Int) - 1)≤s∧s<p2 (nb s):=by
  have h1:=nb_lt (a:=s) (Nat.le_refl _)
  have e:p2 (nb s:Int)=((2 ^ nb s:Nat):Int):=by rw [p2_nat];push_cast;rfl
  refine ⟨?_,by omega⟩
  by_cases hlt:s<p2 ((nb s:Int) - 1)
  · exfalso
    have hp:=nb_pos (a:=s) (by omega)
    have h2:nb s≤nb s - 1:=nb_le (by
      have e2:(nb s:Int) - 1=((nb s - 1:Nat):Int):=by omega
      rw [e2,p2_nat] at hlt
      have e3:((2:Int) ^ (nb s - 1))=((2 ^ (nb s - 1):Nat):Int):=by push_cast;rfl
      omega)
    omega
  · omega
theorem ht_guess {s d:Int} (hs:0<s) (hd:0<d):d*p2 ((nb s:Int) - nb d)<2*(s*p2 (-((nb s:Int) - nb d)))∧s*p2 (-((nb s:Int) - nb d))<2*(d*p2 ((nb s:Int) - nb d)):=by
  obtain ⟨s1,s2⟩:=nb_bounds hs
  obtain ⟨d1,d2⟩:=nb_bounds hd
  have hp1:(1:Int)≤nb s:=by have:=nb_pos (a:=s) (by omega);omega
  have hp2:(1:Int)≤nb d:=by have:=nb_pos (a:=d) (by omega);omega
  generalize (nb s:Int)=a at *
  generalize (nb d:Int)=b at *
  have ea:p2 a=2*p2 (a - 1):=by rw [← p2_succ (by omega)];congr 1;omega
  have eb:p2 b=2*p2 (b - 1):=by rw [← p2_succ (by omega)];congr 1;omega
  by_cases h:b≤a
  · have q:=p2_pos (a - b)
    have e1:p2 a=p2 b*p2 (a - b):=by rw [← p2_add (by omega) (by omega)];congr 1;omega
    have f1:d*p2 (a - b)<p2 b*p2 (a - b):=Int.mul_lt_mul_of_pos_right d2 q
    have f2:p2 (b - 1)*p2 (a - b)≤d*p2 (a - b):=Int.mul_le_mul_of_nonneg_right d1 (by omega)
    have e2:p2 a=2*(p2 (b - 1)*p2 (a - b)):=by rw [e1,eb,Int.mul_assoc]
    rw [p2_le0 (a:=-(a - b)) (by omega),Int.mul_one]
    constructor<;>omega
  · have q:=p2_pos (-(a - b))
    have e1:p2 b=p2 a*p2 (-(a - b)):=by rw [← p2_add (by omega) (by omega)];congr 1;omega
    have f1:s*p2 (-(a - b))<p2 a*p2 (-(a - b)):=Int.mul_lt_mul_of_pos_right s2 q
    have f2:p2 (a - 1)*p2 (-(a - b))≤s*p2 (-(a - b)):=Int.mul_le_mul_of_nonneg_right s1 (by omega)
    have e2:p2 b=2*(p2 (a - 1)*p2 (-(a - b))):=by rw [e1,ea,Int.mul_assoc]
    rw [p2_le0 (a:=a - b) (by omega),Int.mul_one]
    constructor<;>omega
theorem p2_down (e:Int):(p2 (e - 1)*2=p2 e∧p2 (-(e - 1))=p2 (-e))∨(p2 (e - 1)=p2 e∧p2 (-(e - 1))=2*p2 (-e)):=by
  by_cases h:1≤e
  · refine .inl ⟨?_,?_⟩
    · rw [Int.mul_comm,← p2_succ (by omega)];congr 1;omega
    · rw [p2_le0 (by omega),p2_le0 (by omega)]
  · refine .inr ⟨?_,?_⟩
    · rw [p2_le0 (by omega),p2_le0 (by omega)]
    · rw [← p2_succ (by omega)];congr 1;omega
theorem ht_down {s d e:Int} (h1:s*p2 (-e)<d*p2 e) (h2:d*p2 e<2*(s*p2 (-e))):Ht s d (e - 1):=by
  unfold Ht
  rcases p2_down e with ⟨a,b⟩ | ⟨a,b⟩
  · rw [b]
    have:d*p2 e=2*(d*p2 (e - 1)):=by rw [← a,← Int.mul_assoc,Int.mul_comm]
    constructor<;>omega
  · rw [a,b,Int.mul_left_comm]
    constructor<;>omega
theorem z68 {n k d:Int} (hn:n≠0) (hd:0<d) (b1:nb n≤50000) (b2:nb d≤50000):∃ e,z1s [.int n,.int k,.int d] = .ok (.int (e+k))∧Ht (ab n) d e∧-50001≤e∧e≤50000:=by
  have hs:=ab_pos hn
  have hb:=nb_ab n
  obtain ⟨g1,g2⟩:=ht_guess hs hd
  have q:=z8l (ab n) (-((nb (ab n):Int) - nb d)) d (by omega) (by omega) (by omega) (by omega)
  rw [Int.neg_neg] at q
  by_cases h:ab n*p2 (-((nb (ab n):Int) - nb d))<d*p2 ((nb (ab n):Int) - nb d)
  · refine ⟨(nb (ab n):Int) - nb d - 1,?_,ht_down h g1,by omega,by omega⟩
    dsimp! [z1s,z4o,hn,ab_e,q,h]
  · refine ⟨(nb (ab n):Int) - nb d,?_,⟨by omega,g2⟩,by omega,by omega⟩
    dsimp! [z1s,z4o,hn,ab_e,q,h]
noncomputable def sideP (r u:Int):Int:=if 2*r=0 then 0 else if 2*r<u then 1 else if 2*r=u then 2 else 3
theorem z6z {n k d g:Int} (hd:0<d) (b1:nb n≤50000) (b2:nb d≤50000) (h1 : -60000≤k - g) (h2:k - g≤60000) (h3:nb (d*p2 (g - k))≤9000) :
    zy [.int n,.int k,.int d,.int g] = .ok (.tup [.int (ab n*p2 (k - g) / (d*p2 (g - k))),.int (sideP (ab n*p2 (k - g) - ab n*p2 (k - g) / (d*p2 (g - k))*(d*p2 (g - k))) (d*p2 (g - k)))]):=by
  have hb:=nb_ab n
  have q:=z8l (ab n) (k - g) d (by omega) (by omega) (by omega) (by omega)
  have e : -(k - g)=g - k:=by omega
  rw [e] at q
  have hu:0<d*p2 (g - k):=Int.mul_pos hd (p2_pos _)
  have hx:nb (ab n*p2 (k - g))≤120001:=Nat.le_trans (nb_mul_le _ _) (by
    by_cases z:0≤k - g
    · rw [nb_p2 z];omega
    · rw [p2_le0 (by omega)];have:nb 1=1:=rfl;omega)
  have hx0:0≤ab n*p2 (k - g):=Int.mul_nonneg (ab_nn n) (Int.le_of_lt (p2_pos _))
  generalize ab n*p2 (k - g)=x at *
  generalize d*p2 (g - k)=u at *
  have o:okDiv u:=okDiv_of hu h3 (by decide)
  have hq:nb (x / u)≤120001:=Nat.le_trans (nb_mono (Int.ediv_nonneg hx0 (Int.le_of_lt hu)) (Int.ediv_le_self _ hx0)) hx
  have om:okMul (x / u) u:=okMul_of hq h3 (by decide)
  generalize hy:x / u*u=y at *
  have o2:okMul 2 (x - y):=okMul_l (by decide) (by decide)
  by_cases c1:2*(x - y)=0
  · have z:sideP (x - y) u=0:=if_pos c1
    rw [z]
    dsimp! [zy,z30,ab_e,q,o,om,hy,o2,c1]
  · by_cases c2:2*(x - y)<u
    · have z:sideP (x - y) u=1:=by unfold sideP;rw [if_neg c1,if_pos c2]
      rw [z]
      dsimp! [zy,z30,ab_e,q,o,om,hy,o2,c1,c2]
    · by_cases c3:2*(x - y)=u
      · have z:sideP (x - y) u=2:=by unfold sideP;rw [if_neg c1,if_neg c2,if_pos c3]
        rw [z]
        have n0:¬ u=0:=by omega
        have n1:¬ u<u:=by omega
        dsimp! [zy,z30,ab_e,q,o,om,hy,o2,c3,n0,n1]
      · have z:sideP (x - y) u=3:=by unfold sideP;rw [if_neg c1,if_neg c2,if_neg c3]
        rw [z]
        dsimp! [zy,z30,ab_e,q,o,om,hy,o2,c1,c2,c3]
theorem unp (is:List Nat) (a:FE) (x0:Option PV) (ρ0:MEnv):sUnpack is a (x0::ρ0)=ofR (a (x0::ρ0)) (x0::ρ0) (fun v=>match v with
  | .tup l=>(match setAll is l (x0::ρ0) with | some ρ'=>.next ρ' | none=>.stuck)
  | _=>.stuck):=rfl
theorem nb_add {x y:Int}{m:Nat} (hx:nb x≤m) (hy:nb y≤m):nb (x+y)≤m+1:=nb_le (by
  have a:=nb_lt hx
  have b:=nb_lt hy
  rw [Nat.pow_succ];omega)
theorem notN_n:cNotN .non = .ok (.bl false):=rfl
def Wu (e f s u:Int):Prop:=Wd e f∧(s=0∨s=1)∧0≤u∧u<p2 (e+f)
noncomputable abbrev eS (e f:Int):Int:=(p2 e - 1)*p2 f
theorem wu_word {e f s u:Int} (h:Wu e f s u):0≤u+s*p2 (e+f)∧u+s*p2 (e+f)<p2 (1+e+f)∧(u+s*p2 (e+f)) / p2 (e+f)=s∧(u+s*p2 (e+f)) % p2 (e+f)=u∧(u+s*p2 (e+f)) / p2 f % p2 e=u / p2 f∧(u+s*p2 (e+f)) % p2 f=u % p2 f:=by
  obtain ⟨hw,hs,u0,u1⟩:=h
  obtain ⟨p1,p3,p4,p5,p6,_⟩:=p2_wd hw
  have st:s*p2 (e+f)=0∨s*p2 (e+f)=p2 (e+f):=by rcases hs with rfl | rfl<;>omega
  have hT:=p2_pos (e+f)
  refine ⟨by omega,by omega,?_,?_,?_,?_⟩
  · rw [Int.add_mul_ediv_right _ _ (by omega),Int.ediv_eq_zero_of_lt u0 u1,Int.zero_add]
  · rw [Int.add_mul_emod_self_right,Int.emod_eq_of_lt u0 u1]
  · rw [p5,← Int.mul_assoc,Int.add_mul_ediv_right _ _ (by omega),Int.add_mul_emod_self_right]
    exact Int.emod_eq_of_lt (Int.ediv_nonneg u0 (by omega)) (Int.ediv_lt_of_lt_mul (by omega) (by rw [← p5];exact u1))
  · rw [p5,← Int.mul_assoc,Int.add_mul_emod_self_right]
noncomputable def kindU (e f u:Int):String:=if u=0 then "nought" else if u<p2 f then "small" else if u<eS e f then "plain" else if u=eS e f then "endless" else if u<eS e f+p2 (f - 1) then "loud" else "still"
theorem kind_u {e f u:Int} (h:Wd e f) (u0:0≤u) (u1:u<p2 (e+f)):kindP e f (u / p2 f) (u % p2 f)=kindU e f u:=by
  obtain ⟨p1,p3,p4,p5,p6,b1,b2,b3,b4,p7,p8⟩:=p2_wd h
  obtain ⟨m1,m3⟩:=top_word h
  have d:=Int.mul_ediv_add_emod u (p2 f)
  have y0:=Int.emod_nonneg u (show p2 f≠0 by omega)
  have y1:=Int.emod_lt_of_pos u (show 0<p2 f by omega)
  have x0:0≤u / p2 f:=Int.ediv_nonneg u0 (by omega)
  have xl:u / p2 f<p2 e:=Int.ediv_lt_of_lt_mul (by omega) (by rw [← p5];exact u1)
  have z1:u / p2 f=0↔u<p2 f:=by
    constructor
    · intro z;rw [z] at d;omega
    · intro z;exact Int.ediv_eq_zero_of_lt u0 z
  have z2:u / p2 f<p2 e - 1↔u<eS e f:=Int.ediv_lt_iff_lt_mul (by omega)
  have z3:¬ u / p2 f<p2 e - 1→u % p2 f=u - eS e f:=by
    intro z
    have:u / p2 f=p2 e - 1:=by omega
    rw [this,Int.mul_comm] at d
    show _=u - (p2 e - 1)*p2 f
    omega
  unfold kindP kindU
  by_cases c1:u / p2 f=0
  · have c1':=z1.mp c1
    have e1:u % p2 f=u:=Int.emod_eq_of_lt u0 c1'
    rw [if_pos c1,e1]
    by_cases c2:u=0
    · rw [if_pos c2,if_pos c2]
    · rw [if_neg c2,if_neg c2,if_pos c1']
  · have c1':¬ u<p2 f:=fun z=>c1 (z1.mpr z)
    have c2:¬ u=0:=by omega
    rw [if_neg c1,if_neg c2,if_neg c1']
    by_cases c3:u / p2 f<p2 e - 1
    · rw [if_pos c3,if_pos (z2.mp c3)]
    · have c3':¬ u<eS e f:=fun z=>c3 (z2.mpr z)
      rw [if_neg c3,if_neg c3',z3 c3]
      by_cases c4:u=eS e f
      · rw [if_pos (by omega),if_pos c4]
      · rw [if_neg (by omega),if_neg c4]
        by_cases c5:u<eS e f+p2 (f - 1)
        · rw [if_neg (by omega),if_pos c5]
        · rw [if_pos (by omega),if_neg c5]
theorem z70 {e f s u:Int} (h:Wu e f s u):zi [.tup [.int e,.int f],.int (u+s*p2 (e+f))] = .ok (.str (kindU e f u)):=by
  obtain ⟨a,b,_,_,c,d⟩:=wu_word h
  have k:=z6a h.1 a b
  rw [c,d,kind_u h.1 h.2.2.1 h.2.2.2] at k
  exact k
theorem z6x {e f s u:Int} (h:Wu e f s u):z8o [.tup [.int e,.int f],.int (u+s*p2 (e+f))] = .ok (.tup [.int s,.int (u / p2 f),.int (u % p2 f)]):=by
  obtain ⟨a,b,c1,_,c,d⟩:=wu_word h
  have k:=z56 h.1 a b
  rw [c,d,c1] at k
  exact k
theorem z7d {e f s u:Int} (h:Wu e f s u):z2e [.tup [.int e,.int f],.int (u+s*p2 (e+f))] = .ok (.int u):=by
  obtain ⟨a,b,c1,c2,c,d⟩:=wu_word h
  have k:=z8z h.1 a b
  rw [c2] at k
  exact k
theorem z7c {e f s u:Int} (h:Wu e f s u):z2d [.tup [.int e,.int f],.int (u+s*p2 (e+f))] = .ok (.int (u+(1 - s)*p2 (e+f))):=by
  obtain ⟨a,b,c1,c2,c,d⟩:=wu_word h
  have k:=z7b h.1 a b
  have u0:=h.2.2.1
  have u1:=h.2.2.2
  have z:(u+s*p2 (e+f)+p2 (e+f)) % (2*p2 (e+f))=u+(1 - s)*p2 (e+f):=by
    rcases h.2.1 with rfl | rfl
    · rw [Int.emod_eq_of_lt (by omega) (by omega)];omega
    · have e1:u+1*p2 (e+f)+p2 (e+f)=u+1*(2*p2 (e+f)):=by omega
      rw [e1,Int.add_mul_emod_self_right,Int.emod_eq_of_lt (by omega) (by omega)];omega
  rw [z] at k
  exact k
theorem z8p {e f:Int} (h:Wd e f):z1r [.tup [.int e,.int f]] = .ok (.int (eS e f)):=by
  obtain ⟨p1,p3,p4,p5,p6,b1,b2,b3,b4,p7,p8⟩:=p2_wd h
  have a:=z8m h
  have b:=z2u (c:=e) (by have:=h.1;omega) (by have:=h.2.1;omega)
  have c:=z69 (s:=0) (x:=p2 e - 1) (y:=0) h (by decide) (by decide) (by omega) (by omega) (by decide) (by omega)
  rw [Int.zero_mul,Int.zero_add,Int.add_zero] at c
  dsimp! [z1r,z5k,a,b,c]
theorem z74 {e f:Int} (h:Wd e f):z16 [.tup [.int e,.int f]] = .ok (.int (eS e f+p2 (f - 1))):=by
  obtain ⟨p1,p3,p4,p5,p6,b1,b2,b3,b4,p7,p8⟩:=p2_wd h
  have a:=z8m h
  have a2:=z8s h
  have b:=z2u (c:=e) (by have:=h.1;omega) (by have:=h.2.1;omega)
  have c:=z69 (s:=0) (x:=p2 e - 1) (y:=p2 (f - 1)) h (by decide) (by decide) (by omega) (by omega) (by omega) (by omega)
  rw [Int.zero_mul,Int.zero_add] at c
  dsimp! [z16,z5t,a,a2,b,c]
theorem eS_facts {e f:Int} (h:Wd e f):p2 (e+f)=eS e f+p2 f∧3*p2 f≤eS e f∧2≤p2 f∧p2 f=2*p2 (f - 1)∧1≤p2 (f - 1):=by
  obtain ⟨p1,p3,p4,p5,p6,b1,b2,b3,b4,p7,p8⟩:=p2_wd h
  obtain ⟨m1,m3⟩:=top_word h
  exact ⟨m1,m3,p3,p4,p7⟩
noncomputable def rk (s u:Int):Int:=if s=1 then -u else u
theorem z49 {e f u:Int} (h:Wu e f 0 u) (b:Bool):q_with_sign [.tup [.int e,.int f],.int u,.bl b] = .ok (.int (u+(if b then 1 else 0)*p2 (e+f))):=by
  have a:=z7c h
  rw [Int.zero_mul,Int.add_zero] at a
  cases b
  · have z:u+(if false=true then (1:Int) else 0)*p2 (e+f)=u:=by rw [if_neg (by decide)];omega
    rw [z]
    dsimp! [q_with_sign,z4s]
  · have z:u+(if true=true then (1:Int) else 0)*p2 (e+f)=u+(1 - 0)*p2 (e+f):=by rw [if_pos rfl];omega
    rw [z]
    dsimp! [q_with_sign,z4s,a]
noncomputable def stU (f u:Int):Int:=if u<p2 f then u else (u % p2 f+p2 f)*p2 (u / p2 f - 1)
theorem stU_lo {f u:Int} (h:u<p2 f):stU f u=u:=if_pos h
theorem stU_bounds {f u:Int} (h:p2 f≤u):p2 f*p2 (u / p2 f - 1)≤stU f u∧stU f u<p2 f*p2 (u / p2 f):=by
  have pf:=p2_pos f
  have y0:=Int.emod_nonneg u (show p2 f≠0 by omega)
  have y1:=Int.emod_lt_of_pos u (show 0<p2 f by omega)
  have x1:1≤u / p2 f:=(Int.le_ediv_iff_mul_le pf).mpr (by omega)
  have pp:=p2_pos (u / p2 f - 1)
  have e:p2 (u / p2 f)=2*p2 (u / p2 f - 1):=by rw [← p2_succ (by omega)];congr 1;omega
  unfold stU
  rw [if_neg (by omega)]
  constructor
  · exact Int.mul_le_mul_of_nonneg_right (by omega) (by omega)
  · rw [e,← Int.mul_assoc]
    exact Int.mul_lt_mul_of_pos_right (by omega) pp
theorem stU_lt {f u v:Int} (u0:0≤u) (h:u<v):stU f u<stU f v:=by
  have pf:=p2_pos f
  by_cases c1:v<p2 f
  · rw [stU_lo c1,stU_lo (by omega)];exact h
  · obtain ⟨v1,v2⟩:=stU_bounds (f:=f) (u:=v) (by omega)
    have x1:1≤v / p2 f:=(Int.le_ediv_iff_mul_le pf).mpr (by omega)
    by_cases c2:u<p2 f
    · rw [stU_lo c2]
      have:p2 f*1≤p2 f*p2 (v / p2 f - 1):=Int.mul_le_mul_of_nonneg_left (by have:=p2_pos (v / p2 f - 1);omega) (by omega)
      omega
    · obtain ⟨u1,u2⟩:=stU_bounds (f:=f) (u:=u) (by omega)
      have x2:1≤u / p2 f:=(Int.le_ediv_iff_mul_le pf).mpr (by omega)
      have le:u / p2 f≤v / p2 f:=Int.ediv_le_ediv pf (by omega)
      by_cases c3:u / p2 f=v / p2 f
      · have d1:=Int.mul_ediv_add_emod u (p2 f)
        have d2:=Int.mul_ediv_add_emod v (p2 f)
        unfold stU
        rw [if_neg c2,if_neg c1]
        rw [c3] at d1 ⊢
        exact Int.mul_lt_mul_of_pos_right (by omega) (p2_pos _)
      · have:p2 (u / p2 f)≤p2 (v / p2 f - 1):=p2_le (by omega) (by omega)
        have:=Int.mul_le_mul_of_nonneg_left this (Int.le_of_lt pf)
        omega
theorem stU_nn {f u:Int} (u0:0≤u):0≤stU f u:=by
  have:=p2_pos f
  by_cases c:u=0
  · rw [c,stU_lo (by omega)];decide
  · have:=stU_lt (f:=f) (u:=0) (v:=u) (by decide) (by omega)
    rw [stU_lo (u:=0) (by omega)] at this
    omega
noncomputable def lp (e f:Int):Int:=1 - (p2 (e - 1) - 1) - f
theorem lp_bounds {e f:Int} (h:Wd e f) : -1082≤lp e f∧lp e f≤-1∧2≤p2 (e - 1)∧p2 (e - 1)≤1024:=by
  obtain ⟨h1,h2,h3,h4⟩:=h
  have a:=p2_le (a:=e - 1) (b:=10) (by omega) (by omega)
  have b:=p2_two (j:=e - 1) (by omega)
  have e10:p2 10=1024:=by decide
  unfold lp
  omega
def WayK (p:Int) (z:Str) (k:Nat):Prop:=(p=0∧z="even"∧k=21)∨(p=1∧z="away"∧k=22)∨(p=2∧z="in"∧k=23)∨(p=3∧z="up"∧k=24)∨(p=4∧z="down"∧k=25)
theorem way_of_p {p:Int} (h0:0≤p) (h1:p<5):∃ z k,WayK p z k:=by
  have:p=0∨p=1∨p=2∨p=3∨p=4:=by omega
  rcases this with rfl | rfl | rfl | rfl | rfl
  · exact ⟨_,_,.inl ⟨rfl,rfl,rfl⟩⟩
  · exact ⟨_,_,.inr (.inl ⟨rfl,rfl,rfl⟩)⟩
  · exact ⟨_,_,.inr (.inr (.inl ⟨rfl,rfl,rfl⟩))⟩
  · exact ⟨_,_,.inr (.inr (.inr (.inl ⟨rfl,rfl,rfl⟩)))⟩
  · exact ⟨_,_,.inr (.inr (.inr (.inr ⟨rfl,rfl,rfl⟩)))⟩
theorem way_q {p:Int}{z:Str}{k:Nat} (h:WayK p z k):z21 [.str z] = .ok (.ins k)∧oItem (.lst [.str "even",.str "away",.str "in",.str "up",.str "down"]) (.int p) = .ok (.str z):=by
  rcases h with ⟨rfl,rfl,rfl⟩ | ⟨rfl,rfl,rfl⟩ | ⟨rfl,rfl,rfl⟩ | ⟨rfl,rfl,rfl⟩ | ⟨rfl,rfl,rfl⟩<;>exact ⟨rfl,rfl⟩
theorem asVal_ins (c:Nat):asVal (some (.ins c)) = .ok (.ins c):=rfl
noncomputable def gw (p:Int) (odd:Bool) (sd:Int) (below:Bool):Bool:=if p=0 then decide (sd=3) || (decide (sd=2) && odd) else if p=1 then decide (2≤sd) else if p=2 then false else if p=3 then !below else below
theorem z67 {p:Int}{z:Str}{k:Nat}{sd:Int} (odd below:Bool) (h:WayK p z k) (hs:sd=0∨sd=1∨sd=2∨sd=3) {fo:FE}{g:FA}{x0:Option PV}{ρ:MEnv} (h1:fo (x0::ρ) = .ok (.ins k)) (h2:g (x0::ρ) = .ok [.bl odd,.int sd,.bl below]):fMeth z2g fo g (x0::ρ) = .ok (.bl (gw p odd sd below)):=by
  show (fo (x0::ρ)).bind (mtK z2g (g (x0::ρ)))=_
  rw [h1,h2]
  rcases h with ⟨rfl,rfl,rfl⟩ | ⟨rfl,rfl,rfl⟩ | ⟨rfl,rfl,rfl⟩ | ⟨rfl,rfl,rfl⟩ | ⟨rfl,rfl,rfl⟩<;>rcases hs with rfl | rfl | rfl | rfl<;>cases odd<;>cases below<;>rfl
theorem side_of (r u:Int):sideP r u=0∨sideP r u=1∨sideP r u=2∨sideP r u=3:=by
  unfold sideP
  split
  · exact .inl rfl
  · split
    · exact .inr (.inl rfl)
    · split
      · exact .inr (.inr (.inl rfl))
      · exact .inr (.inr (.inr rfl))
theorem side_scale {r u a b:Int} (hu:0<u) (hb:0<b) (h:r*b=a*u):sideP r u=sideP a b:=by
  have c0:(2*r=0)↔(2*a=0):=by
    constructor
    · intro x
      have r0:r=0:=by omega
      rw [r0,Int.zero_mul] at h
      rcases Int.mul_eq_zero.mp h.symm with y | y<;>omega
    · intro x
      have a0:a=0:=by omega
      rw [a0,Int.zero_mul] at h
      rcases Int.mul_eq_zero.mp h with y | y<;>omega
  have e:2*r*b=2*a*u:=by rw [Int.mul_assoc,h,Int.mul_assoc]
  have c1:(2*r<u)↔(2*a<b):=by
    constructor
    · intro x
      have y:2*r*b<u*b:=Int.mul_lt_mul_of_pos_right x hb
      rw [e,Int.mul_comm u b] at y
      exact Int.lt_of_mul_lt_mul_right y (Int.le_of_lt hu)
    · intro x
      have y:2*a*u<b*u:=Int.mul_lt_mul_of_pos_right x hu
      rw [← e,Int.mul_comm b u] at y
      exact Int.lt_of_mul_lt_mul_right y (Int.le_of_lt hb)
  have c2:(2*r=u)↔(2*a=b):=by
    constructor
    · intro x
      rw [x,Int.mul_comm] at e
      exact (Int.eq_of_mul_eq_mul_right (by omega) e).symm
    · intro x
      rw [x,Int.mul_comm b u] at e
      exact Int.eq_of_mul_eq_mul_right (by omega) e
  unfold sideP
  simp only [c0,c1,c2]
noncomputable def gr (p q sd:Int) (below:Bool):Bool:=decide (sd≠0) && gw p (decide (q % 2=1)) sd below
noncomputable def szT (f p t q sd:Int) (below:Bool):Int:=t*p2 f+(if gr p q sd below then q+1 else q)
noncomputable def mkT (f q sd:Int):Int:=if sd=0 then 0 else if q<p2 f then 24 else 16
noncomputable def sg (below:Bool):Int:=if below then 1 else 0
noncomputable def tkT (e f p t q sd:Int) (below:Bool):PV:=if szT f p t q sd below<eS e f then .tup [.int (szT f p t q sd below+sg below*p2 (e+f)),.int (mkT f q sd)] else .tup [.int ((if gw p true 3 below then eS e f else eS e f - 1)+sg below*p2 (e+f)),.int 20]
theorem z79 {p q sd:Int}{z:Str}{k:Nat} (below:Bool) (h:WayK p z k) (hs:sd=0∨sd=1∨sd=2∨sd=3):z2a [.ins k,.tup [.int q,.int sd],.bl below] = .ok (.int (if gr p q sd below then q+1 else q)):=by
  have g:=z67 (decide (q % 2=1)) below h hs (fo:=fVar 0) (g:=aCons (fBin cEq (fBin oMod (fBin oItem (fVar 1) (fC (.int 0))) (fC (.int 2))) (fC (.int 1))) (aCons (fBin oItem (fVar 1) (fC (.int 1))) (aCons (fVar 2) (aNil))))
    (x0:=some (.ins k)) (ρ:=[some (.tup [.int q,.int sd]),some (.bl below),none]) rfl (by dsimp! [])
  unfold gr
  by_cases c:sd=0
  · have e1:decide (sd≠0)=false:=decide_eq_false (by omega)
    have e2:decide (sd=0)=true:=decide_eq_true c
    dsimp! [z2a,z4r,List.replicate,List.set,e1,e2,asVal_ins,Bool.false_and,Bool.not_true,Bool.false_eq_true,if_false]
  · have e1:decide (sd≠0)=true:=decide_eq_true c
    have e2:decide (sd=0)=false:=decide_eq_false c
    generalize gw p (decide (q % 2=1)) sd below=y at *
    cases y<;>dsimp! [z2a,z4r,List.replicate,List.set,e1,e2,asVal_ins,g,Bool.true_and,Bool.not_false,Bool.false_eq_true,if_false,if_true]
theorem z78 {e f p t q sd hh:Int}{z:Str}{k:Nat} (below:Bool) (h:Wd e f) (w:WayK p z k) (ht:0≤t) (ht2:t≤100000) (q0:0≤q) (q1:q<2*p2 f) (hs:sd=0∨sd=1∨sd=2∨sd=3)
    (sp:z10 [.tup [.int e,.int f],.int hh] = .ok (.int (lp e f+t))) (hm:hh<lp e f+f↔q<p2 f) :
    z1y [.tup [.int e,.int f],.ins k,.bl below,.int hh,.tup [.int q,.int sd]] = .ok (tkT e f p t q sd below):=by
  obtain ⟨m1,m3,p3,p4,p7⟩:=eS_facts h
  have le:=z57 h
  have bi:=z63 h
  have en:=z8p h
  have st:=z79 (q:=q) below w hs
  have lpe:1 - (p2 (e - 1) - 1) - f=lp e f:=rfl
  rw [lpe] at le
  have e1:lp e f+t - lp e f=t:=by omega
  have os:okShl t f:=okShl_of (n:=20) (by have:=h.2.2.1;omega) (nb_le (by omega)) (by have:=h.2.2.2;omega)
  have sz0:0≤szT f p t q sd below:=by
    unfold szT
    have:=Int.mul_nonneg ht (Int.le_of_lt (p2_pos f))
    split<;>omega
  have sze:t*p2 f+(if gr p q sd below then q+1 else q)=szT f p t q sd below:=rfl
  have g3:=fun (x0:Option PV) (ρ:MEnv) (a:getV (x0::ρ) 1 = .ok (.ins k)) (b:getV (x0::ρ) 2 = .ok (.bl below))=>z67 true below w (.inr (.inr (.inr rfl))) (fo:=fVar 1) (g:=aCons (fC (.bl true)) (aCons (fC (.int 3)) (aCons (fVar 2) (aNil)))) (x0:=x0) (ρ:=ρ) a (by
    show R.bind _ _=_
    dsimp! [b])
  have mk:z1w [.tup [.int e,.int f],.int hh,.int sd] = .ok (.int (mkT f q sd)):=by
    unfold mkT
    have e5:1 - (p2 (e - 1) - 1)=lp e f+f:=by unfold lp;omega
    by_cases c:sd=0
    · dsimp! [z1w,z42,c,if_true]
    · by_cases c2:q<p2 f
      · have c3:=hm.mpr c2
        dsimp! [z1w,z42,c,bi,e5,c2,c3,if_true,if_false]
      · have c3:¬ hh<lp e f+f:=fun z=>c2 (hm.mp z)
        dsimp! [z1w,z42,c,bi,e5,c2,c3,if_true,if_false]
  unfold tkT
  by_cases c:szT f p t q sd below<eS e f
  · have ws:=z49 (u:=szT f p t q sd below) ⟨h,.inl rfl,sz0,by omega⟩ below
    have sge:(if below=true then (1:Int) else 0)=sg below:=rfl
    rw [sge] at ws
    rw [if_pos c]
    dsimp! [z1y,z44,List.replicate,List.set,en,sp,le,e1,os,asVal_ins,st,sze,c,ws,mk]
  · rw [if_neg c]
    have g3':=g3 (some (.tup [.int e,.int f])) [some (.ins k),some (.bl below),some (.int hh),some (.tup [.int q,.int sd]),some (.int (eS e f)),some (.int t),some (.int (szT f p t q sd below))] rfl rfl
    have sge:(if below=true then (1:Int) else 0)=sg below:=rfl
    generalize gw p true 3 below=y at *
    cases y with
    | true =>
      have ws:=z49 (u:=eS e f) ⟨h,.inl rfl,by omega,by omega⟩ below
      rw [sge] at ws
      dsimp! [z1y,z44,List.replicate,List.set,en,sp,le,e1,os,asVal_ins,st,sze,c,g3',ws,if_true]
    | false =>
      have ws:=z49 (u:=eS e f - 1) ⟨h,.inl rfl,by omega,by omega⟩ below
      rw [sge] at ws
      dsimp! [z1y,z44,List.replicate,List.set,en,sp,le,e1,os,asVal_ins,st,sze,c,g3',ws,Bool.false_eq_true,if_false]
noncomputable def tU (f u:Int):Int:=if u<p2 f then 0 else u / p2 f - 1
noncomputable def qU (f u:Int):Int:=u - tU f u*p2 f
theorem tq_facts {f u:Int} (hf:1≤f) (u0:0≤u):0≤tU f u∧0≤qU f u∧qU f u<2*p2 f∧(tU f u=0∨p2 f≤qU f u)∧stU f u=qU f u*p2 (tU f u)∧stU f (u+1)=(qU f u+1)*p2 (tU f u)∧tU f u*p2 f+qU f u=u∧qU f u % 2=u % 2∧(qU f u<p2 f↔u<p2 f)∧tU f u≤u / p2 f:=by
  have pf:=p2_pos f
  have pf2:p2 f=2*p2 (f - 1):=by rw [← p2_succ (by omega)];congr 1;omega
  have par:(u - tU f u*p2 f) % 2=u % 2:=by
    have:tU f u*p2 f=2*(tU f u*p2 (f - 1)):=by rw [pf2,Int.mul_left_comm]
    rw [this];omega
  have dn:0≤u / p2 f:=Int.ediv_nonneg u0 (Int.le_of_lt pf)
  by_cases h:u<p2 f
  · have et:tU f u=0:=if_pos h
    have eq:qU f u=u:=by unfold qU;rw [et];omega
    have e0:p2 0=1:=rfl
    refine ⟨by omega,by omega,by omega,.inl et,?_,?_,?_,?_,?_,by omega⟩
    · rw [eq,et,stU_lo h,e0];omega
    · rw [eq,et,e0]
      by_cases h2:u+1<p2 f
      · rw [stU_lo h2];omega
      · have e1:u+1=p2 f:=by omega
        unfold stU
        rw [if_neg h2,e1,Int.emod_self,Int.ediv_self (by omega)]
        have:p2 (1 - 1)=1:=rfl
        rw [this];omega
    · rw [eq,et];omega
    · rw [eq]
    · rw [eq]
  · have et:tU f u=u / p2 f - 1:=if_neg h
    have m1:1≤u / p2 f:=by
      have:=Int.ediv_le_ediv pf (show p2 f≤u by omega)
      rw [Int.ediv_self (by omega)] at this
      exact this
    have r0:=Int.emod_nonneg u (show p2 f≠0 by omega)
    have r1:=Int.emod_lt_of_pos u pf
    have dm:=Int.mul_ediv_add_emod u (p2 f)
    have eq:qU f u=u % p2 f+p2 f:=by
      unfold qU
      rw [et,Int.sub_mul,Int.one_mul,Int.mul_comm]
      omega
    refine ⟨by omega,by omega,by omega,.inr (by omega),?_,?_,?_,par,?_,by omega⟩
    · rw [eq,et];unfold stU;rw [if_neg h]
    · rw [eq,et]
      unfold stU
      rw [if_neg (by omega)]
      by_cases c:u % p2 f+1<p2 f
      · have e1:(u+1) % p2 f=u % p2 f+1:=by
          have:u+1=u % p2 f+1+p2 f*(u / p2 f):=by omega
          rw [this,Int.add_mul_emod_self_left,Int.emod_eq_of_lt (by omega) c]
        have e2:(u+1) / p2 f=u / p2 f:=by
          have:u+1=u % p2 f+1+p2 f*(u / p2 f):=by omega
          rw [this,Int.add_mul_ediv_left _ _ (by omega),Int.ediv_eq_zero_of_lt (by omega) c];omega
        rw [e1,e2]
        congr 1
        omega
      · have e3:u % p2 f+1=p2 f:=by omega
        have e1:(u+1)=p2 f*(u / p2 f+1):=by rw [Int.mul_add,Int.mul_one];omega
        have e4:(u+1) % p2 f=0:=by rw [e1];exact Int.mul_emod_right _ _
        have e5:(u+1) / p2 f=u / p2 f+1:=by rw [e1];exact Int.mul_ediv_cancel_left _ (by omega)
        rw [e4,e5,Int.zero_add,show u / p2 f+1 - 1=u / p2 f - 1+1 by omega,p2_succ (by omega),← Int.mul_assoc]
        congr 1
        omega
    · unfold qU;omega
    · rw [eq];omega
theorem z8k {e f u:Int} (h:Wd e f) (u0:0≤u) (u1:u≤eS e f):z52 [.tup [.int e,.int f],.int u] = .ok (.int (stU f u)):=by
  obtain ⟨p1,p3,p4,p5,p6,b1,b2,b3,b4,p7,p8⟩:=p2_wd h
  obtain ⟨m1,m3,_,_,_⟩:=eS_facts h
  obtain ⟨g1,g2,g3,g4⟩:=h
  have o2:=okShl_1 (b:=f) (by omega) (by omega)
  have om2:okMod (p2 f):=p2_pos _
  have o3:okShr f:=by show 0≤f;omega
  have y0:=Int.emod_nonneg u (show p2 f≠0 by omega)
  have y1:=Int.emod_lt_of_pos u (show 0<p2 f by omega)
  by_cases c:u<p2 f
  · rw [stU_lo c]
    dsimp! [z52,z4j,Int.one_mul,o2,c]
  · have d1:1≤u / p2 f:=by
      have:=Int.ediv_le_ediv (show 0<p2 f by omega) (show p2 f≤u by omega)
      rw [Int.ediv_self (by omega)] at this
      exact this
    have d2:u / p2 f<p2 e:=Int.ediv_lt_of_lt_mul (by omega) (by rw [← p5];omega)
    have os:okShl (u % p2 f+p2 f) (u / p2 f - 1):=okShl_of (n:=62) (by omega) (nb_le (by
      have:=p2_le (a:=f) (b:=60) (by omega) g4
      have e60:p2 60=1152921504606846976:=by decide
      omega)) (by omega)
    have es:stU f u=(u % p2 f+p2 f)*p2 (u / p2 f - 1):=if_neg c
    rw [es]
    dsimp! [z52,z4j,Int.one_mul,o2,c,om2,o3,os]
theorem mulc4 {c:Int} (hc:nb c≤1048576):okMul c 414213562373095048801689:=okMul_of (n:=200) hc (nb_le (by decide)) (by decide)
theorem ht_ge {s d f g:Int} (hf:0≤f):d*p2 (f+g)≤s*p2 (-(f+g))↔p2 f*(d*p2 g)≤s*p2 (-g):=by
  have c:=p2_cross (e:=g) (f:=f+g) (by omega)
  rw [show f+g - g=f by omega] at c
  have k1:=p2_pos (-(f+g))
  have k2:=p2_pos (-g)
  have e1:d*p2 (f+g)*p2 (-g)=p2 f*(d*p2 g)*p2 (-(f+g)):=by
    rw [Int.mul_assoc,c];simp only [Int.mul_comm,Int.mul_left_comm,Int.mul_assoc]
  have e2:s*p2 (-(f+g))*p2 (-g)=s*p2 (-g)*p2 (-(f+g)):=by rw [Int.mul_assoc,Int.mul_assoc,Int.mul_comm (p2 (-(f+g)))]
  constructor
  · intro h
    have:=Int.mul_le_mul_of_nonneg_right h (Int.le_of_lt k2)
    rw [e1,e2] at this
    exact Int.le_of_mul_le_mul_right this k1
  · intro h
    have:=Int.mul_le_mul_of_nonneg_right h (Int.le_of_lt k1)
    rw [← e1,← e2] at this
    exact Int.le_of_mul_le_mul_right this k2
theorem ht_lt2 {s d f g:Int} (hf:0≤f):s*p2 (-(f+g))<2*(d*p2 (f+g))↔s*p2 (-g)<2*(p2 f*(d*p2 g)):=by
  have h:=ht_ge (s:=s) (d:=2*d) (g:=g) hf
  have e1:2*d*p2 (f+g)=2*(d*p2 (f+g)):=Int.mul_assoc _ _ _
  have e2:p2 f*(2*d*p2 g)=2*(p2 f*(d*p2 g)):=by rw [Int.mul_assoc,Int.mul_left_comm]
  rw [e1,e2] at h
  constructor
  · intro x
    apply Decidable.byContradiction
    intro c
    have:=h.mpr (by omega)
    omega
  · intro x
    apply Decidable.byContradiction
    intro c
    have:=h.mp (by omega)
    omega
theorem ht_mono {s d x y:Int} (hd:0<d) (h:y≤x) (hx:d*p2 x≤s*p2 (-x)):d*p2 y≤s*p2 (-y):=by
  have c:=p2_cross (e:=y) (f:=x) h
  have k1:=p2_pos (-x)
  have k2:=p2_pos (-y)
  have k3:=p2_pos (x - y)
  have k4:=p2_pos y
  have a1:d*p2 x*p2 (-y)≤s*p2 (-x)*p2 (-y):=Int.mul_le_mul_of_nonneg_right hx (Int.le_of_lt k2)
  have a2:d*p2 x*p2 (-y)=d*p2 y*p2 (x - y)*p2 (-x):=by rw [Int.mul_assoc,c];simp only [Int.mul_comm,Int.mul_left_comm,Int.mul_assoc]
  have a3:s*p2 (-x)*p2 (-y)=s*p2 (-y)*p2 (-x):=by rw [Int.mul_assoc,Int.mul_assoc,Int.mul_comm (p2 (-x))]
  rw [a2,a3] at a1
  have a4:=Int.le_of_mul_le_mul_right a1 k1
  have a5:d*p2 y*1≤d*p2 y*p2 (x - y):=Int.mul_le_mul_of_nonneg_left (by omega) (Int.mul_nonneg (by omega) (by omega))
  rw [Int.mul_one] at a5
  omega
theorem ht_mono2 {s d x y:Int} (hd:0<d) (h:x<y) (hx:s*p2 (-x)<2*(d*p2 x)):s*p2 (-y)<d*p2 y:=by
  have c:=p2_cross (e:=x) (f:=y) (by omega)
  have k1:=p2_pos (-x)
  have k2:=p2_pos (-y)
  have k3:=p2_two (j:=y - x) (by omega)
  have k4:=p2_pos x
  have a1:s*p2 (-x)*p2 (-y)<2*(d*p2 x)*p2 (-y):=Int.mul_lt_mul_of_pos_right hx k2
  have a2:d*p2 y*p2 (-x)=d*p2 x*p2 (-y)*p2 (y - x):=by rw [Int.mul_assoc,c];simp only [Int.mul_comm,Int.mul_left_comm,Int.mul_assoc]
  have a3:s*p2 (-x)*p2 (-y)=s*p2 (-y)*p2 (-x):=by rw [Int.mul_assoc,Int.mul_assoc,Int.mul_comm (p2 (-x))]
  have a4:2*(d*p2 x)*p2 (-y)=d*p2 x*p2 (-y)*2:=by rw [Int.mul_assoc,Int.mul_comm]
  have a5:d*p2 x*p2 (-y)*2≤d*p2 x*p2 (-y)*p2 (y - x):=Int.mul_le_mul_of_nonneg_left k3 (Int.mul_nonneg (Int.mul_nonneg (by omega) (by omega)) (by omega))
  rw [a3,a4] at a1
  have a6:s*p2 (-y)*p2 (-x)<d*p2 y*p2 (-x):=by rw [a2];omega
  exact Int.lt_of_mul_lt_mul_right a6 (Int.le_of_lt k1)
theorem rest_of {S u b a q:Int} (hu:0<u) (hb:0<b) (a0:0≤a) (a1:a<b) (eq:S*b=(q*b+a)*u):∃ r,S=q*u+r∧0≤r∧r<u∧r*b=a*u:=by
  have e2:q*u*b=q*b*u:=by rw [Int.mul_assoc,Int.mul_comm u b,← Int.mul_assoc]
  refine ⟨S - q*u,by omega,?_,?_,?_⟩
  · have:q*u*b≤S*b:=by
      rw [eq,Int.add_mul]
      have:=Int.mul_nonneg a0 (Int.le_of_lt hu)
      omega
    have:=Int.le_of_mul_le_mul_right this hb
    omega
  · have:(S - q*u)*b<u*b:=by
      rw [Int.sub_mul,eq,Int.add_mul]
      have e3:a*u<b*u:=Int.mul_lt_mul_of_pos_right a1 hu
      rw [Int.mul_comm u b]
      omega
    exact Int.lt_of_mul_lt_mul_right this (Int.le_of_lt hb)
  · rw [Int.sub_mul,eq,Int.add_mul]
    omega
theorem z77 {e f t q a b n k d:Int} (h:Wd e f) (hn:n≠0) (hd:0<d) (b1:nb n≤20000) (b2:nb d≤3000) (ht:0≤t) (hk : -20000≤lp e f+t - k) (hk2:lp e f+t - k≤5000) (hb:0<b) (a0:0≤a) (a1:a<b)
    (q0:0≤q) (q1:q<2*p2 f) (qt:t=0∨p2 f≤q) (eq:ab n*p2 (k - (lp e f+t))*b=(q*b+a)*(d*p2 (lp e f+t - k))) :
    ∃ hh,z1s [.int n,.int k,.int d] = .ok (.int hh)∧z10 [.tup [.int e,.int f],.int hh] = .ok (.int (lp e f+t))∧zy [.int n,.int k,.int d,.int (lp e f+t)] = .ok (.tup [.int q,.int (sideP a b)]) ∧
      (hh<lp e f+f↔q<p2 f):=by
  obtain ⟨g1,g2,g3,g4⟩:=id h
  obtain ⟨x,e1,hx,x0,x1⟩:=z68 (k:=k) hn hd (by omega) (by omega)
  have le:=z57 h
  have pf:=p2_pos f
  generalize hg:lp e f+t - k=g at *
  have hg':k - (lp e f+t) = -g:=by omega
  rw [hg'] at eq
  have hu:0<d*p2 g:=Int.mul_pos hd (p2_pos g)
  obtain ⟨r,er,r0,r1,r2⟩:=rest_of hu hb a0 a1 eq
  have big:p2 f≤q→x=f+g:=fun hq=>by
    refine ht_unique hd hx ⟨(ht_ge (by omega)).mpr ?_,(ht_lt2 (by omega)).mpr ?_⟩
    · rw [er]
      have:=Int.mul_le_mul_of_nonneg_right hq (Int.le_of_lt hu)
      omega
    · rw [er]
      have e3:(q+1)*(d*p2 g)≤2*p2 f*(d*p2 g):=Int.mul_le_mul_of_nonneg_right (by omega) (Int.le_of_lt hu)
      rw [Int.add_mul,Int.one_mul,Int.mul_assoc] at e3
      omega
  have low:q<p2 f→x<f+g:=fun hq=>by
    apply Decidable.byContradiction
    intro c
    have:=(ht_ge (by omega)).mp (ht_mono hd (show f+g≤x by omega) hx.1)
    rw [er] at this
    have e3:(q+1)*(d*p2 g)≤p2 f*(d*p2 g):=Int.mul_le_mul_of_nonneg_right (by omega) (Int.le_of_lt hu)
    rw [Int.add_mul,Int.one_mul] at e3
    omega
  refine ⟨x+k,e1,?_,?_,?_⟩
  · have lpe:1 - (p2 (e - 1) - 1) - f=lp e f:=rfl
    rw [lpe] at le
    have cse:(x+k - f=lp e f+t)∨(t=0∧x+k - f<lp e f):=by
      by_cases hq:p2 f≤q
      · have:=big hq;omega
      · have:=low (by omega)
        rcases qt with z | z<;>omega
    by_cases c:lp e f > x+k - f
    · have e4:lp e f+t=lp e f:=by omega
      dsimp! [z10,z4q,le,c,if_true,e4]
    · have e4:x+k - f=lp e f+t:=by omega
      have c':¬ lp e f > lp e f+t:=by omega
      dsimp! [z10,z4q,le,e4,c',if_false]
  · have hn3:nb (d*p2 (lp e f+t - k))≤9000:=by
      rw [hg]
      refine Nat.le_trans (nb_mul_le _ _) ?_
      by_cases z:0≤g
      · rw [nb_p2 z];omega
      · rw [p2_le0 (by omega)];have:nb 1=1:=rfl;omega
    have st:=z6z (n:=n) (k:=k) (d:=d) (g:=lp e f+t) hd (by omega) (by omega) (by omega) (by omega) hn3
    rw [hg,hg'] at st
    have dv:ab n*p2 (-g) / (d*p2 g)=q:=by
      rw [er,Int.mul_comm q,Int.add_comm,Int.add_mul_ediv_left _ _ (by omega),Int.ediv_eq_zero_of_lt r0 r1]
      omega
    rw [dv] at st
    have e5:ab n*p2 (-g) - q*(d*p2 g)=r:=by omega
    rw [e5,side_scale hu hb r2] at st
    exact st
  · constructor
    · intro z
      apply Decidable.byContradiction
      intro c
      have:=big (by omega)
      omega
    · intro z
      have:=low z
      omega
theorem z7a {e f p t q a b n k d:Int}{z:Str}{kk:Nat} (h:Wd e f) (w:WayK p z kk) (hn:n≠0) (hd:0<d) (b1:nb n≤20000) (b2:nb d≤3000) (ht:0≤t) (ht2:t≤100000) (hk : -20000≤lp e f+t - k) (hk2:lp e f+t - k≤5000) (hb:0<b) (a0:0≤a) (a1:a<b)
    (q0:0≤q) (q1:q<2*p2 f) (qt:t=0∨p2 f≤q) (eq:ab n*p2 (k - (lp e f+t))*b=(q*b+a)*(d*p2 (lp e f+t - k))) :
    z20 [.tup [.int e,.int f],.int n,.int k,.int d,.str z] = .ok (tkT e f p t q (sideP a b) (decide (n<0))):=by
  obtain ⟨hh,e1,e2,e3,e4⟩:=z77 h hn hd b1 b2 ht hk hk2 hb a0 a1 q0 q1 qt eq
  have s:=z78 (decide (n<0)) h w ht ht2 q0 q1 (side_of a b) e2 e4
  have cw:=z8m h
  have wy:=(way_q w).1
  generalize tkT e f p t q (sideP a b) (decide (n<0))=v at *
  generalize sideP a b=sd at *
  dsimp! [z20,z5y,List.replicate,List.set,cw,wy,hn,e1,e2,e3,asVal_ins,s]
structure Stands (e f s k d t q a b:Int):Prop where
  t0:0≤t
  b0:0<b
  a0:0≤a
  a1:a<b
  q0:0≤q
  q1:q<2*p2 f
  qt:t=0∨p2 f≤q
  eq:s*p2 (k - (lp e f+t))*b=(q*b+a)*(d*p2 (lp e f+t - k))
  tb:t≤60000∧-20000≤lp e f+t - k∧lp e f+t - k≤5000
theorem standsW {e f s k d:Int} (h:Wd e f) (hs:0<s) (hd:0<d) (b1:nb s≤5000) (b2:nb d≤3000) (k0:lp e f - 5000≤k) (k1:k≤10000):∃ t q a b,Stands e f s k d t q a b:=by
  obtain ⟨l1,l2,l3,l4⟩:=lp_bounds h
  obtain ⟨g1,g2,g3,g4⟩:=id h
  have as:ab s=s:=ab_of (by omega)
  obtain ⟨x,_,hx,_,_⟩:=z68 (n:=s) (k:=0) (d:=d) (by omega) hd (by omega) (by omega)
  rw [as] at hx
  have xb:x≤nb s:=by
    apply Decidable.byContradiction
    intro c
    have h1:=hx.1
    rw [p2_le0 (a:=-x) (by omega),Int.mul_one] at h1
    have b3:=(nb_bounds hs).2
    have:=p2_le (a:=(nb s:Int)) (b:=x) (by omega) (by omega)
    have s4:p2 x≤d*p2 x:=by
      have:=Int.mul_le_mul_of_nonneg_right (show 1≤d by omega) (Int.le_of_lt (p2_pos x))
      rw [Int.one_mul] at this;exact this
    omega
  have pf:=p2_pos f
  have mk:∀ t:Int,0≤t→t≤60000∧-20000≤lp e f+t - k∧lp e f+t - k≤5000→s*p2 (-(lp e f+t - k))<2*(p2 f*(d*p2 (lp e f+t - k)))→(t=0∨p2 f*(d*p2 (lp e f+t - k))≤s*p2 (-(lp e f+t - k)))→∃ t q a b,Stands e f s k d t q a b:=by
    intro t t0 tb u1 u2
    have hu:0<d*p2 (lp e f+t - k):=Int.mul_pos hd (p2_pos _)
    have S0:0≤s*p2 (-(lp e f+t - k)):=Int.mul_nonneg (by omega) (Int.le_of_lt (p2_pos _))
    have e9:k - (lp e f+t) = -(lp e f+t - k):=by omega
    refine ⟨t,s*p2 (-(lp e f+t - k)) / (d*p2 (lp e f+t - k)),s*p2 (-(lp e f+t - k)) % (d*p2 (lp e f+t - k)),d*p2 (lp e f+t - k),t0,hu,Int.emod_nonneg _ (by omega),Int.emod_lt_of_pos _ hu,Int.ediv_nonneg S0 (Int.le_of_lt hu),Int.ediv_lt_of_lt_mul hu (by rw [Int.mul_assoc];exact u1),?_,?_,tb⟩
    · rcases u2 with z | z
      · exact .inl z
      · exact .inr (Int.le_ediv_of_mul_le hu z)
    · rw [e9]
      congr 1
      have:=Int.mul_ediv_add_emod (s*p2 (-(lp e f+t - k))) (d*p2 (lp e f+t - k))
      rw [Int.mul_comm] at this
      exact this.symm
  by_cases c:lp e f≤x+k - f
  · refine mk (x+k - f - lp e f) (by omega) (by omega) ?_ (.inr ?_)
    · have:=hx.2
      have e9:x=f+(lp e f+(x+k - f - lp e f) - k):=by omega
      rw [e9] at this
      exact (ht_lt2 (by omega)).mp this
    · have:=hx.1
      have e9:x=f+(lp e f+(x+k - f - lp e f) - k):=by omega
      rw [e9] at this
      exact (ht_ge (by omega)).mp this
  · refine mk 0 (by omega) (by omega) ?_ (.inl rfl)
    have:=ht_mono2 hd (show x<f+(lp e f+0 - k) by omega) hx.2
    refine (ht_lt2 (by omega)).mp ?_
    have:=Int.mul_pos hd (p2_pos (f+(lp e f+0 - k)))
    omega
theorem stands {e f s k d:Int} (h:Wd e f) (hs:0<s) (hd:0<d) (b1:nb s≤5000) (b2:nb d≤3000) (k0 : -3000≤k) (k1:k≤10000):∃ t q a b,Stands e f s k d t q a b :=
  standsW h hs hd b1 b2 (by have:=lp_bounds h;omega) k1
theorem take_st {e f p t q a b n k d:Int}{z:Str}{kk:Nat} (h:Wd e f) (w:WayK p z kk) (hn:n≠0) (hd:0<d) (b1:nb n≤20000) (b2:nb d≤3000) (st:Stands e f (ab n) k d t q a b) :
    z20 [.tup [.int e,.int f],.int n,.int k,.int d,.str z] = .ok (tkT e f p t q (sideP a b) (decide (n<0))) :=
  z7a h w hn hd b1 b2 st.t0 (by have:=st.tb;omega) (by have:=st.tb;omega) (by have:=st.tb;omega) st.b0 st.a0 st.a1 st.q0 st.q1 st.qt st.eq
theorem low_u {f t q:Int} (hf:1≤f) (t0:0≤t) (q0:0≤q) (q1:q<2*p2 f) (qt:t=0∨p2 f≤q) :
    0≤t*p2 f+q∧stU f (t*p2 f+q)=q*p2 t∧stU f (t*p2 f+q+1)=(q+1)*p2 t∧(t*p2 f+q) % 2=q % 2∧(q<p2 f↔t*p2 f+q<p2 f):=by
  have pf:=p2_pos f
  have tp:=Int.mul_nonneg t0 (Int.le_of_lt pf)
  have u0:0≤t*p2 f+q:=by omega
  have et:tU f (t*p2 f+q)=t:=by
    unfold tU
    by_cases c:q<p2 f
    · have t00:t=0:=by rcases qt with z | z<;>omega
      subst t00
      rw [Int.zero_mul,Int.zero_add,if_pos c]
    · have t1:p2 f≤t*p2 f+q:=by omega
      rw [if_neg (by omega)]
      have e1:t*p2 f+q=(q - p2 f)+(t+1)*p2 f:=by rw [Int.add_mul,Int.one_mul];omega
      rw [e1,Int.add_mul_ediv_right _ _ (by omega),Int.ediv_eq_zero_of_lt (by omega) (by omega)]
      omega
  obtain ⟨_,_,_,_,e1,e2,e3,e4,e5,_⟩:=tq_facts (f:=f) (u:=t*p2 f+q) hf u0
  have eq:qU f (t*p2 f+q)=q:=by unfold qU;rw [et];omega
  rw [et,eq] at e1 e2
  rw [eq] at e4 e5
  exact ⟨u0,e1,e2,e4.symm,e5⟩
def Lies (M X Y sd:Int):Prop:=(sd=0∧M=X)∨(sd=1∧X<M∧2*M<X+Y)∨(sd=2∧2*M=X+Y)∨(sd=3∧X+Y<2*M∧M<Y)
theorem lies_of {M B q P a b:Int} (hB:0<B) (hP:0<P) (hb:0<b) (a0:0≤a) (a1:a<b) (eq:M*b=(q*b+a)*(P*B)):Lies M (q*P*B) ((q+1)*P*B) (sideP a b):=by
  have hX:0<P*B:=Int.mul_pos hP hB
  have e1:q*P*B=q*(P*B):=Int.mul_assoc _ _ _
  have e2:(q+1)*P*B=q*(P*B)+P*B:=by rw [Int.mul_assoc,Int.add_mul,Int.one_mul]
  rw [e1,e2]
  obtain ⟨r,er,r0,r1,r2⟩:=rest_of hX hb a0 a1 eq
  rw [← side_scale hX hb r2]
  generalize P*B=X at *
  generalize q*X=Z at *
  unfold sideP Lies
  by_cases c0:2*r=0
  · rw [if_pos c0];left;omega
  · rw [if_neg c0]
    by_cases c1:2*r<X
    · rw [if_pos c1];right;left;omega
    · rw [if_neg c1]
      by_cases c2:2*r=X
      · rw [if_pos c2];right;right;left;omega
      · rw [if_neg c2];right;right;right;omega
theorem wn:(Str.ofString "away" == Str.ofString "even")=false∧(Str.ofString "in" == Str.ofString "even")=false∧(Str.ofString "up" == Str.ofString "even")=false∧(Str.ofString "down" == Str.ofString "even")=false ∧
    (Str.ofString "even" == Str.ofString "away")=false∧(Str.ofString "in" == Str.ofString "away")=false∧(Str.ofString "up" == Str.ofString "away")=false∧(Str.ofString "down" == Str.ofString "away")=false ∧
    (Str.ofString "even" == Str.ofString "in")=false∧(Str.ofString "away" == Str.ofString "in")=false∧(Str.ofString "up" == Str.ofString "in")=false∧(Str.ofString "down" == Str.ofString "in")=false ∧
    (Str.ofString "even" == Str.ofString "up")=false∧(Str.ofString "away" == Str.ofString "up")=false∧(Str.ofString "in" == Str.ofString "up")=false∧(Str.ofString "down" == Str.ofString "up")=false ∧
    (Str.ofString "even" == Str.ofString "down")=false∧(Str.ofString "away" == Str.ofString "down")=false∧(Str.ofString "in" == Str.ofString "down")=false∧(Str.ofString "up" == Str.ofString "down")=false:=⟨rfl,rfl,rfl,rfl,rfl,rfl,rfl,rfl,rfl,rfl,rfl,rfl,rfl,rfl,rfl,rfl,rfl,rfl,rfl,rfl⟩
theorem nb_st {e f u:Int} (h:Wd e f) (u0:0≤u) (u1:u≤eS e f):nb (stU f u)≤2200:=by
  obtain ⟨p1,p3,p4,p5,p6,b1,b2,b3,b4,p7,p8⟩:=p2_wd h
  obtain ⟨m1,m3,_,_,_⟩:=eS_facts h
  obtain ⟨g1,g2,g3,g4⟩:=h
  by_cases c:u<p2 f
  · rw [stU_lo c]
    have:=nb_mono u0 (Int.le_of_lt c)
    omega
  · have es:stU f u=(u % p2 f+p2 f)*p2 (u / p2 f - 1):=if_neg c
    have y0:=Int.emod_nonneg u (show p2 f≠0 by omega)
    have y1:=Int.emod_lt_of_pos u (show 0<p2 f by omega)
    have d1:1≤u / p2 f:=(Int.le_ediv_iff_mul_le (by omega)).mpr (by omega)
    have d2:u / p2 f<p2 e:=Int.ediv_lt_of_lt_mul (by omega) (by rw [← p5];omega)
    have z:=nb_mul_le (u % p2 f+p2 f) (p2 (u / p2 f - 1))
    rw [nb_p2 (show 0≤u / p2 f - 1 by omega)] at z
    have z2:nb (u % p2 f+p2 f)≤62:=nb_le (by
      have:=p2_le (a:=f) (b:=60) (by omega) g4
      have e60:p2 60=1152921504606846976:=by decide
      omega)
    rw [es]
    omega
noncomputable def hz (f u:Int):Int:=if u=0 then 0 else stU f (u - 1)
theorem wayk_p {p:Int}{z:Str}{k:Nat} (w:WayK p z k):p=0∨p=1∨p=2∨p=3∨p=4:=by
  rcases w with ⟨h,_⟩ | ⟨h,_⟩ | ⟨h,_⟩ | ⟨h,_⟩ | ⟨h,_⟩<;>omega
theorem gr_cases {p q sd:Int}{below:Bool} (hp:p=0∨p=1∨p=2∨p=3∨p=4) (hs:sd=0∨sd=1∨sd=2∨sd=3) :
    (gr p q sd below=true∧((p=0∧(sd=3∨(sd=2∧q % 2=1)))∨(p=1∧2≤sd)∨(p=3∧below=false∧sd≠0)∨(p=4∧below=true∧sd≠0))) ∨
    (gr p q sd below=false∧((p=0∧(sd≤1∨(sd=2∧q % 2=0)))∨(p=1∧sd≤1)∨p=2∨(p=3∧(below=true∨sd=0))∨(p=4∧(below=false∨sd=0)))):=by
  have q2:q % 2=0∨q % 2=1:=by omega
  rcases hp with rfl | rfl | rfl | rfl | rfl<;>rcases hs with rfl | rfl | rfl | rfl<;>rcases q2 with h | h<;>cases below<;>simp [gr,gw,h]
theorem st_lies {e f s k d t q a b M B:Int} (st:Stands e f s k d t q a b) (hd:0<d) (hB:0<B) (hM:M*(d*p2 (lp e f - k))=s*p2 (k - lp e f)*B):Lies M (q*p2 t*B) ((q+1)*p2 t*B) (sideP a b):=by
  refine lies_of hB (p2_pos t) st.b0 st.a0 st.a1 ?_
  have eq:=st.eq
  have c:=p2_cross (e:=lp e f - k) (f:=lp e f+t - k) (by have:=st.t0;omega)
  rw [show lp e f+t - k - (lp e f - k)=t by omega,show -(lp e f - k)=k - lp e f by omega,show -(lp e f+t - k)=k - (lp e f+t) by omega] at c
  have k1:=p2_pos (k - (lp e f+t))
  have k2:=Int.mul_pos hd (p2_pos (lp e f - k))
  generalize q*b+a=Z at *
  generalize p2 (k - (lp e f+t))=A at *
  generalize p2 (lp e f+t - k)=C at *
  generalize p2 (k - lp e f)=D at *
  generalize p2 (lp e f - k)=E at *
  generalize p2 t=T at *
  have e1:s*D*b*A=Z*(T*(d*E))*A:=by
    calc s*D*b*A=s*A*b*D:=by simp only [Int.mul_comm,Int.mul_left_comm,Int.mul_assoc]
      _=Z*(d*C)*D:=by rw [eq]
      _=Z*d*(C*D):=by simp only [Int.mul_comm,Int.mul_left_comm,Int.mul_assoc]
      _=Z*d*(E*A*T):=by rw [c]
      _=Z*(T*(d*E))*A:=by simp only [Int.mul_comm,Int.mul_left_comm,Int.mul_assoc]
  have e2:=Int.eq_of_mul_eq_mul_right (by omega) e1
  have e3:M*b*(d*E)=Z*(T*B)*(d*E):=by
    calc M*b*(d*E)=M*(d*E)*b:=by simp only [Int.mul_comm,Int.mul_left_comm,Int.mul_assoc]
      _=s*D*B*b:=by rw [hM]
      _=s*D*b*B:=by simp only [Int.mul_comm,Int.mul_left_comm,Int.mul_assoc]
      _=Z*(T*(d*E))*B:=by rw [e2]
      _=Z*(T*B)*(d*E):=by simp only [Int.mul_comm,Int.mul_left_comm,Int.mul_assoc]
  exact Int.eq_of_mul_eq_mul_right (by omega) e3
theorem sOwn_e (i:Nat) (a:FE) (x0:Option PV) (ρ0:MEnv):sOwn i a (x0::ρ0)=ofR (a (x0::ρ0)) (x0::ρ0) (fun v=>match v with
  | .lst l=>.next ((x0::ρ0).set i (some (.own l)))
  | _=>.stuck):=rfl
theorem sFreeze_e (i:Nat) (g:FS) (x0:Option PV) (ρ0:MEnv):sFreeze i g (x0::ρ0)=match (x0::ρ0)[i]? with
  | some (some (.own l))=>g ((x0::ρ0).set i (some (.lst l)))
  | _=>g (x0::ρ0):=rfl
def NoIn (lo hi:Int) (v:PV):Prop:=asVal (some v) = .ok v∧zb [v,.int lo,.int hi] = .ok (.bl false)
theorem isnt {x lo hi:Int} (h:¬ (lo≤x∧x≤hi)):NoIn lo hi (.int x):=by
  refine ⟨rfl,?_⟩
  by_cases h0:lo≤x
  · have h1:¬ x≤hi:=fun h1=>h ⟨h0,h1⟩
    dsimp! [zb,z32,z1u,z31,h0,h1]
  · dsimp! [zb,z32,z1u,z31,h0]
theorem noin_non (lo hi:Int):NoIn lo hi .non:=⟨rfl,by dsimp! [zb,z32,z1u,z31]⟩
theorem wu_0 {e f s:Int} (h:Wd e f) (hs:s=0∨s=1):Wu e f s 0:=⟨h,hs,by decide,p2_pos _⟩
inductive Tm where
  | wrong | none | endl (b:Bool) | num (b:Bool) (n k:Int)
noncomputable def Tm.pv:Tm→PV
  | .wrong=>.tup [.str "wrong",.bl false,.tup [.int 0,.int 0]]
  | .none=>.tup [.str "none",.bl false,.tup [.int 0,.int 0]]
  | .endl b=>.tup [.str "endless",.bl b,.tup [.int 0,.int 0]]
  | .num b n k=>.tup [.str "number",.bl b,.tup [.int n,.int k]]
def Tm.ok:Tm→Prop
  | .num _ n k=>(n % 2=1∨(n=0∧k=0))∧nb n≤1000
  | _=>True
theorem kn:(Str.ofString "nought" == Str.ofString "loud")=false∧(Str.ofString "small" == Str.ofString "loud")=false∧(Str.ofString "plain" == Str.ofString "loud")=false∧(Str.ofString "endless" == Str.ofString "loud")=false∧(Str.ofString "still" == Str.ofString "loud")=false ∧
    (Str.ofString "nought" == Str.ofString "still")=false∧(Str.ofString "small" == Str.ofString "still")=false∧(Str.ofString "plain" == Str.ofString "still")=false∧(Str.ofString "endless" == Str.ofString "still")=false ∧
    (Str.ofString "nought" == Str.ofString "endless")=false∧(Str.ofString "small" == Str.ofString "endless")=false∧(Str.ofString "plain" == Str.ofString "endless")=false:=⟨rfl,rfl,rfl,rfl,rfl,rfl,rfl,rfl,rfl,rfl,rfl,rfl⟩
noncomputable def vN (f u:Int):Int:=stepsP f (u / p2 f) (u % p2 f)
noncomputable def vK (e f u:Int):Int:=powP e f (u / p2 f)
noncomputable def xN (n:Int):Int:=if n=0 then 0 else n / p2 (tz n)
noncomputable def xK (n k:Int):Int:=if n=0 then 0 else k+tz n
theorem z8q (n k:Int):z8 [.int n,.int k] = .ok (.tup [.int (xN n),.int (xK n k)]):=by
  unfold xN xK
  by_cases h:n=0
  · rw [if_pos h,if_pos h,h];exact z3u k
  · rw [if_neg h,if_neg h];exact z47 k h
theorem x_odd (n k:Int):xN n % 2=1∨(xN n=0∧xK n k=0):=by
  unfold xN xK
  by_cases h:n=0
  · rw [if_pos h,if_pos h];exact .inr ⟨rfl,rfl⟩
  · rw [if_neg h];exact .inl (tz_spec h).2.1
theorem x_nb (n:Int):nb (xN n)≤nb n:=by
  unfold xN
  by_cases h:n=0
  · rw [if_pos h,h];exact Nat.le_refl _
  · rw [if_neg h]
    obtain ⟨h1,h2,h3⟩:=tz_spec h
    have h4:n / p2 (tz n)≠0:=by intro z;rw [z] at h2;omega
    have:=nb_shl h4 h1
    rw [h3] at this;omega
theorem z7e {e f s u:Int} (h:Wu e f s u) (hu:u<eS e f):z17 [.tup [.int e,.int f],.int (u+s*p2 (e+f))]=z8 [.int (if s=1 then -(vN f u) else vN f u),.int (vK e f u)]:=by
  obtain ⟨a,b,c1,c2,c,d⟩:=wu_word h
  have hx:u / p2 f<p2 e - 1:=(Int.ediv_lt_iff_lt_mul (p2_pos f)).mpr hu
  have v:=z90 h.1 a b (by rw [c];exact hx)
  rw [c,d,c1] at v
  exact v
theorem vN_nb {e f u:Int} (h:Wd e f) (u0:0≤u):nb (vN f u)≤61:=by
  have g3:=h.2.2.1
  have g4:=h.2.2.2
  have e60:p2 60=1152921504606846976:=by decide
  have a:=p2_le (a:=f) (b:=60) (by omega) (by omega)
  have y0:=Int.emod_nonneg u (show p2 f≠0 by have:=p2_pos f;omega)
  have y1:=Int.emod_lt_of_pos u (p2_pos f)
  unfold vN stepsP
  split
  · exact nb_le (by omega)
  · exact nb_le (by omega)
noncomputable def tmU (e f s u:Int):Tm:=if eS e f<u then (if eS e f+p2 (f - 1)≤u then .none else .wrong) else if u=eS e f then .endl (decide (s=1)) else .num (decide (s=1)) (xN (vN f u)) (xK (vN f u) (vK e f u))
theorem tmU_ok {e f s u:Int} (h:Wu e f s u):(tmU e f s u).ok:=by
  unfold tmU
  split
  · split<;>exact True.intro
  · split
    · exact True.intro
    · exact ⟨x_odd _ _,Nat.le_trans (x_nb _) (by have:=vN_nb h.1 h.2.2.1;omega)⟩
theorem z2x {e f s u:Int} (h:Wu e f s u):q_term_of [.tup [.int e,.int f],.int (u+s*p2 (e+f))] = .ok (tmU e f s u).pv:=by
  obtain ⟨m1,m3,p3,p4,p7⟩:=eS_facts h.1
  have k:=z70 h
  have c:=z6x h
  have un:=z7d h
  have u0:=h.2.2.1
  obtain ⟨a1,a2,a3,a4,a5,a6,a7,a8,a9,a10,a11,a12⟩:=kn
  unfold tmU
  by_cases k1:eS e f<u
  · rw [if_pos k1]
    by_cases k2:eS e f+p2 (f - 1)≤u
    · have kk:kindU e f u="still":=by unfold kindU;rw [if_neg (by omega),if_neg (by omega),if_neg (by omega),if_neg (by omega),if_neg (by omega)]
      rw [kk] at k
      rw [if_pos k2]
      dsimp! [q_term_of,z1d,k,a5,str_self,Tm.pv]
    · have kk:kindU e f u="loud":=by unfold kindU;rw [if_neg (by omega),if_neg (by omega),if_neg (by omega),if_neg (by omega),if_pos (by omega)]
      rw [kk] at k
      rw [if_neg k2]
      dsimp! [q_term_of,z1d,k,str_self,Tm.pv]
  · rw [if_neg k1]
    by_cases k3:u=eS e f
    · have kk:kindU e f u="endless":=by unfold kindU;rw [if_neg (by omega),if_neg (by omega),if_neg (by omega),if_pos k3]
      rw [kk] at k
      rw [if_pos k3]
      dsimp! [q_term_of,z1d,k,c,a4,a9,str_self,Tm.pv]
    · rw [if_neg k3]
      have w0:Wu e f 0 u:=⟨h.1,.inl rfl,u0,h.2.2.2⟩
      have v:=z7e w0 (by omega)
      rw [Int.zero_mul,Int.add_zero,if_neg (by decide),z8q] at v
      by_cases k4:u=0
      · have kk:kindU e f u="nought":=by unfold kindU;rw [if_pos k4]
        rw [kk] at k
        generalize xN (vN f u)=n at *
        generalize xK (vN f u) (vK e f u)=m at *
        dsimp! [q_term_of,z1d,k,c,un,v,a1,a6,a10,Tm.pv]
      · by_cases k5:u<p2 f
        · have kk:kindU e f u="small":=by unfold kindU;rw [if_neg k4,if_pos k5]
          rw [kk] at k
          generalize xN (vN f u)=n at *
          generalize xK (vN f u) (vK e f u)=m at *
          dsimp! [q_term_of,z1d,k,c,un,v,a2,a7,a11,Tm.pv]
        · have kk:kindU e f u="plain":=by unfold kindU;rw [if_neg k4,if_neg k5,if_pos (by omega)]
          rw [kk] at k
          generalize xN (vN f u)=n at *
          generalize xK (vN f u) (vK e f u)=m at *
          dsimp! [q_term_of,z1d,k,c,un,v,a3,a8,a12,Tm.pv]
noncomputable def prodT:Tm→Tm→Tm
  | .wrong,_=>.wrong
  | _,.wrong=>.wrong
  | .none,_=>.none
  | _,.none=>.none
  | .num a n k,.num b m l=>if n=0∨m=0 then .num (!(a == b)) 0 0 else .num (!(a == b)) (n*m) (k+l)
  | .endl a,.endl b=>.endl (!(a == b))
  | .endl a,.num b m l=>if m=0 then .wrong else .endl (!(a == b))
  | .num a n k,.endl b=>if n=0 then .wrong else .endl (!(a == b))
theorem in2 (x a b:Str):cIn (.str x) (.tup [.str a,.str b]) = .ok (.bl ((a == x) || ((b == x) || false))):=rfl
theorem nin2 (x a b:Str):cNotIn (.str x) (.tup [.str a,.str b]) = .ok (.bl (!((a == x) || ((b == x) || false)))):=rfl
theorem tn:(Str.ofString "wrong" == Str.ofString "none")=false∧(Str.ofString "wrong" == Str.ofString "endless")=false∧(Str.ofString "wrong" == Str.ofString "number")=false∧(Str.ofString "none" == Str.ofString "wrong")=false∧(Str.ofString "none" == Str.ofString "endless")=false ∧
    (Str.ofString "none" == Str.ofString "number")=false∧(Str.ofString "endless" == Str.ofString "wrong")=false∧(Str.ofString "endless" == Str.ofString "none")=false∧(Str.ofString "endless" == Str.ofString "number")=false∧(Str.ofString "number" == Str.ofString "wrong")=false ∧
    (Str.ofString "number" == Str.ofString "none")=false∧(Str.ofString "number" == Str.ofString "endless")=false:=⟨rfl,rfl,rfl,rfl,rfl,rfl,rfl,rfl,rfl,rfl,rfl,rfl⟩
theorem z72 {n k m l:Int} (hn:n % 2=1∨(n=0∧k=0)) (hm:m % 2=1∨(m=0∧l=0)) (b1:nb n≤100000) (b2:nb m≤100000) :
    z1x [.tup [.int n,.int k],.tup [.int m,.int l]] = .ok (if n=0∨m=0 then .tup [.int 0,.int 0] else .tup [.int (n*m),.int (k+l)]):=by
  have o:okMul n m:=okMul_of b1 b2 (by decide)
  by_cases h:n=0
  · rw [if_pos (.inl h)]
    subst h
    dsimp! [z1x,z43,o,Int.zero_mul,z3u]
  · by_cases h':m=0
    · rw [if_pos (.inr h')]
      subst h'
      dsimp! [z1x,z43,o,Int.mul_zero,z3u]
    · rw [if_neg (by omega)]
      have z1:n % 2=1:=by omega
      have z2:m % 2=1:=by omega
      have z3:n*m % 2=1:=by rw [Int.mul_emod,z1,z2];rfl
      have x:=z47 (k+l) (Int.mul_ne_zero h h')
      rw [tz_odd z3,p2_0,Int.ediv_one,Int.add_zero] at x
      dsimp! [z1x,z43,o,x]
theorem z8t (t:Tm):zg [t.pv] = .ok (.bl (match t with | .num _ n k=>decide (n=0) && decide (k=0) | _=>false)):=by
  obtain ⟨t1,t2,t3,t4,t5,t6,t7,t8,t9,t10,t11,t12⟩:=tn
  cases t with
  | num b n k =>
    by_cases h:n=0<;>by_cases h2:k=0<;>dsimp! [zg,z4p,Tm.pv,str_self,h,h2]<;>rfl
  | _=>dsimp! [zg,z4p,Tm.pv,t3,t6,t9]
theorem num_k {b:Bool}{n k:Int} (h:(Tm.num b n k).ok):n=0→k=0:=fun z=>by
  rcases h.1 with h1 | h1
  · omega
  · exact h1.2
theorem z48 {e f s u t v:Int} (h:Wu e f s u) (g:Wu e f t v):q_product [.tup [.int e,.int f],.int (u+s*p2 (e+f)),.int (v+t*p2 (e+f))] = .ok (prodT (tmU e f s u) (tmU e f t v)).pv:=by
  have a:=z2x h
  have b:=z2x g
  have ha:=tmU_ok h
  have hb:=tmU_ok g
  obtain ⟨t1,t2,t3,t4,t5,t6,t7,t8,t9,t10,t11,t12⟩:=tn
  generalize tmU e f s u=x at *
  generalize tmU e f t v=y at *
  have ix:=z8t x
  have iy:=z8t y
  cases x with
  | wrong=>cases y<;>simp only [Tm.pv] at a b<;>dsimp! [q_product,z9,a,b,in2,str_self,prodT,Tm.pv]
  | none=>cases y<;>simp only [Tm.pv] at a b<;>dsimp! [q_product,z9,a,b,in2,str_self,prodT,Tm.pv,t4,t7,t10]
  | endl c =>
    cases y with
    | wrong=>simp only [Tm.pv] at a b;dsimp! [q_product,z9,a,b,in2,str_self,prodT,Tm.pv,t7]
    | none=>simp only [Tm.pv] at a b;dsimp! [q_product,z9,a,b,in2,str_self,prodT,Tm.pv,t7,t4,t8]
    | endl d=>simp only [Tm.pv] at a b ix iy;dsimp! [q_product,z9,a,b,in2,nin2,str_self,prodT,Tm.pv,t7,t8,ix,iy]
    | num d m l =>
      simp only [Tm.pv] at a b ix iy
      by_cases z:m=0
      · have z2:=num_k hb z
        subst z z2
        dsimp! [q_product,z9,a,b,in2,nin2,str_self,prodT,Tm.pv,t7,t8,t10,t11,t12,ix,iy,if_true,decide_true,Bool.and_self]
      · dsimp! [q_product,z9,a,b,in2,nin2,str_self,prodT,Tm.pv,t7,t8,t10,t11,t12,ix,iy,z,if_false,decide_false,Bool.false_and]
  | num c n k =>
    cases y with
    | wrong=>simp only [Tm.pv] at a b;dsimp! [q_product,z9,a,b,in2,str_self,prodT,Tm.pv,t10]
    | none=>simp only [Tm.pv] at a b;dsimp! [q_product,z9,a,b,in2,str_self,prodT,Tm.pv,t10,t4,t11]
    | endl d =>
      simp only [Tm.pv] at a b ix iy
      by_cases z:n=0
      · have z2:=num_k ha z
        subst z z2
        dsimp! [q_product,z9,a,b,in2,nin2,str_self,prodT,Tm.pv,t7,t8,t10,t11,t12,ix,iy,if_true,decide_true,Bool.and_self]
      · dsimp! [q_product,z9,a,b,in2,nin2,str_self,prodT,Tm.pv,t7,t8,t10,t11,t12,ix,iy,z,if_false,decide_false,Bool.false_and]
    | num d m l =>
      simp only [Tm.pv] at a b ix iy
      have mu:=z72 ha.1 hb.1 (Nat.le_trans ha.2 (by decide)) (Nat.le_trans hb.2 (by decide))
      by_cases z:n=0∨m=0
      · rw [if_pos z] at mu
        have e1:prodT (.num c n k) (.num d m l) = .num (!(c == d)) 0 0:=if_pos z
        rw [e1]
        dsimp! [q_product,z9,a,b,in2,nin2,Tm.pv,t10,t11,t12,mu]
      · rw [if_neg z] at mu
        have e1:prodT (.num c n k) (.num d m l) = .num (!(c == d)) (n*m) (k+l):=if_neg z
        rw [e1]
        dsimp! [q_product,z9,a,b,in2,nin2,Tm.pv,t10,t11,t12,mu]
theorem fComp_e (n:Nat) (it:FA) (t:FT) (f:FE) (x0:Option PV) (ρ0:MEnv):fComp n it t f (x0::ρ0)=(it (x0::ρ0)).bind (compK n t f (x0::ρ0)):=rfl
theorem compK_ok {n:Nat}{t:FT}{f:FE}{ρ:MEnv}{l vs:List PV} (h:l.length≤1000000) (e:compL n t f ρ l = .ok vs):compK n t f ρ l = .ok (.lst vs):=by
  unfold compK;rw [if_pos h,e]
theorem compL_map {n:Nat}{f:FE}{ρ:MEnv} (g:PV→PV):∀ {l:List PV},(∀ p∈l,f (padTo n ρ ++ [some p]) = .ok (g p))→compL n tTrue f ρ l = .ok (l.map g)
  | [],_=>rfl
  | p::r,h=>by
    have ih:=compL_map g (l:=r) fun q hq=>h q (List.mem_cons_of_mem _ hq)
    have e:=h p List.mem_cons_self
    show (match f (padTo n ρ ++ [some p]) with
      | .ok v=>(match compL n tTrue f ρ r with
        | .ok vs=>R.ok (v::vs)
        | _=>.stuck)
      | _=>.stuck)=_
    rw [e,ih];rfl
theorem compL_filter {n:Nat}{t:FT}{f:FE}{ρ:MEnv} (q:PV→Bool) (g:PV→PV):∀ {l:List PV},(∀ p∈l,t (padTo n ρ ++ [some p]) = .ok (q p))→(∀ p∈l,q p=true→f (padTo n ρ ++ [some p]) = .ok (g p))→compL n t f ρ l = .ok ((l.filter q).map g)
  | [],_,_=>rfl
  | p::r,h,h2=>by
    have ih:=compL_filter q g (l:=r) (fun z hz=>h z (List.mem_cons_of_mem _ hz)) (fun z hz=>h2 z (List.mem_cons_of_mem _ hz))
    have e:=h p List.mem_cons_self
    unfold compL
    rw [e]
    by_cases hq:q p=true
    · have e2:=h2 p List.mem_cons_self hq
      rw [hq]
      dsimp only
      rw [e2,ih,List.filter_cons,if_pos hq];rfl
    · have hq':q p=false:=by simpa using hq
      rw [hq']
      dsimp only
      rw [ih,List.filter_cons,if_neg hq]
theorem noX_ok {F:List PV→R PV}{vs:List PV}{v:PV} (h:F vs = .ok v):noX F vs = .ok v:=by unfold noX;rw [h]
noncomputable def Tm.tag:Tm→Str
  | .wrong=>"wrong"
  | .none=>"none"
  | .endl _=>"endless"
  | .num _ _ _=>"number"
noncomputable def Tm.isW:Tm→Bool
  | .wrong=>true
  | _=>false
noncomputable def Tm.isN:Tm→Bool
  | .none=>true
  | _=>false
theorem tags_flat:∀ ts:List Tm,((ts.map fun t=>PV.str t.tag).all flatP)=true
  | []=>rfl
  | t::ts=>by rw [List.map_cons,List.all_cons,tags_flat ts];rfl
theorem tags_w:∀ ts:List Tm,((ts.map fun t=>PV.str t.tag).any fun z=>eqPV z (.str "wrong"))=ts.any Tm.isW
  | []=>rfl
  | t::ts=>by rw [List.map_cons,List.any_cons,List.any_cons,tags_w ts];cases t<;>rfl
theorem tags_n:∀ ts:List Tm,((ts.map fun t=>PV.str t.tag).any fun z=>eqPV z (.str "none"))=ts.any Tm.isN
  | []=>rfl
  | t::ts=>by rw [List.map_cons,List.any_cons,List.any_cons,tags_n ts];cases t<;>rfl
theorem in_w (ts:List Tm):cIn (.str "wrong") (.lst (ts.map fun t=>PV.str t.tag)) = .ok (.bl (ts.any Tm.isW)):=by
  show (if flatP (.str "wrong") && (ts.map fun t=>PV.str t.tag).all flatP then R.ok (PV.bl ((ts.map fun t=>PV.str t.tag).any fun z=>eqPV z (.str "wrong"))) else .stuck)=_
  rw [tags_flat,tags_w];rfl
theorem in_n (ts:List Tm):cIn (.str "none") (.lst (ts.map fun t=>PV.str t.tag)) = .ok (.bl (ts.any Tm.isN)):=by
  show (if flatP (.str "none") && (ts.map fun t=>PV.str t.tag).all flatP then R.ok (PV.bl ((ts.map fun t=>PV.str t.tag).any fun z=>eqPV z (.str "none"))) else .stuck)=_
  rw [tags_flat,tags_n];rfl
noncomputable def fstP:PV→PV
  | .tup (x::_)=>x
  | _=>.non
noncomputable def noneV (e f:Int) (ts:List Tm):PV:=if ts.any Tm.isW then .tup [.int (eS e f+p2 (f - 1)),.int 1] else if ts.any Tm.isN then .tup [.int (eS e f+p2 (f - 1)),.int 0] else .non
theorem z75 {e f:Int} (ts:List Tm) (h:Wd e f) (hl:ts.length≤1000000):z2t [.tup [.int e,.int f],.lst (ts.map Tm.pv)] = .ok (noneV e f ts):=by
  have n:=z74 h
  have aw:=in_w ts
  have an:=in_n ts
  have c:compK 3 tTrue (fBin oItem (fVar 3) (fC (.int 0))) [some (.tup [.int e,.int f]),some (.lst (ts.map Tm.pv)),none] (ts.map Tm.pv) = .ok (.lst (ts.map fun t=>PV.str t.tag)):=by
    refine compK_ok (by rw [List.length_map];exact hl) ?_
    rw [compL_map fstP (fun p hp=>by
      obtain ⟨t,_,rfl⟩:=List.mem_map.mp hp
      cases t<;>rfl),List.map_map]
    congr 1
    apply List.map_congr_left
    intro t _
    cases t<;>rfl
  unfold noneV
  generalize ts.map Tm.pv=l at *
  generalize (ts.map fun t=>PV.str t.tag)=l2 at *
  generalize ts.any Tm.isW=b1 at *
  generalize ts.any Tm.isN=b2 at *
  cases b1<;>cases b2<;>dsimp! [z2t,z5u,fComp_e,c,aw,an,n,Bool.false_eq_true,if_true,if_false]
def NoWay (v:PV):Prop:=asVal (some v) = .ok v∧z21 [v] = .exc 3
theorem z6d {e f:Int}{v:PV} (h:Wd e f) (hv:NoIn 0 (p2 (1+e+f) - 1) v):q_term_of [.tup [.int e,.int f],v] = .exc 2:=by
  dsimp! [q_term_of,z1d,zi,z2h,z8o,z8i,hv.1,z8n h hv.1 hv.2]
theorem vN_0 (f:Int):vN f 0=0:=by unfold vN stepsP;rw [Int.zero_ediv,if_pos rfl,Int.zero_emod]
theorem vN_pos {f u:Int} (u0:0<u):0<vN f u:=by
  have pf:=p2_pos f
  have y0:=Int.emod_nonneg u (show p2 f≠0 by omega)
  have dm:=Int.mul_ediv_add_emod u (p2 f)
  unfold vN stepsP
  by_cases c:u / p2 f=0
  · rw [if_pos c]
    rw [c,Int.mul_zero] at dm
    omega
  · rw [if_neg c];omega
theorem xN_ne {n:Int} (h:n≠0):xN n≠0:=by
  unfold xN
  rw [if_neg h]
  obtain ⟨h1,h2,h3⟩:=tz_spec h
  intro z;rw [z] at h2;omega
theorem tm_a (t:Tm):asVal (some t.pv) = .ok t.pv:=by cases t<;>rfl
theorem st_val {e f u:Int} (h:Wd e f) (u0:0<u) (u1:u<eS e f):0<xN (vN f u)∧nb (xN (vN f u))≤61∧lp e f≤xK (vN f u) (vK e f u)∧xK (vN f u) (vK e f u)≤lp e f+2200∧stU f u=xN (vN f u)*p2 (xK (vN f u) (vK e f u) - lp e f):=by
  obtain ⟨p1,p3,p4,p5,p6,b1,b2,b3,b4,p7,p8⟩:=p2_wd h
  obtain ⟨m1,m3,_⟩:=eS_facts h
  have vp:=vN_pos (f:=f) (u:=u) u0
  have vb:=vN_nb (e:=e) h (Int.le_of_lt u0)
  have pf:=p2_pos f
  have tl:=tz_le (show vN f u≠0 by omega)
  obtain ⟨h1,h2,h3⟩:=tz_spec (show vN f u≠0 by omega)
  have e1:xN (vN f u)=vN f u / p2 (tz (vN f u)):=if_neg (by omega)
  have e2:xK (vN f u) (vK e f u)=vK e f u+tz (vN f u):=if_neg (by omega)
  have bx:=x_nb (vN f u)
  have xp:0<xN (vN f u):=by
    rw [e1]
    have pp:=p2_pos (tz (vN f u))
    have:0≤vN f u / p2 (tz (vN f u)):=Int.ediv_nonneg (by omega) (by omega)
    have ne:=xN_ne (show vN f u≠0 by omega)
    rw [e1] at ne
    omega
  have d2:u / p2 f<p2 e:=Int.ediv_lt_of_lt_mul (by omega) (by rw [← p5];omega)
  have vk:lp e f≤vK e f u∧vK e f u≤lp e f+2050∧stU f u=vN f u*p2 (vK e f u - lp e f):=by
    unfold vK vN powP stepsP
    have le:1 - (p2 (e - 1) - 1) - f=lp e f:=rfl
    rw [le]
    by_cases c:u<p2 f
    · have z:u / p2 f=0:=Int.ediv_eq_zero_of_lt (by omega) c
      rw [z,if_pos rfl,if_pos rfl,stU_lo c,Int.emod_eq_of_lt (by omega) c]
      have:p2 (lp e f - lp e f)=1:=p2_le0 (by omega)
      rw [this]
      omega
    · have z:1≤u / p2 f:=(Int.le_ediv_iff_mul_le pf).mpr (by omega)
      rw [if_neg (by omega),if_neg (by omega)]
      have es:stU f u=(u % p2 f+p2 f)*p2 (u / p2 f - 1):=if_neg c
      refine ⟨by omega,by omega,?_⟩
      rw [es]
      congr 2
      omega
  refine ⟨xp,by omega,by omega,by omega,?_⟩
  rw [vk.2.2,e2,e1,show vK e f u+tz (vN f u) - lp e f=tz (vN f u)+(vK e f u - lp e f) by omega,p2_add h1 (by omega),← Int.mul_assoc,h3]
theorem p2_four {A L C D:Int} (hA:0≤A) (hL:0≤L) (hD:0≤D) (h:A+L=C+D):p2 A*p2 L*p2 (-C)=p2 C*p2 D:=by
  by_cases c:0≤C
  · rw [p2_le0 (a:=-C) (by omega),Int.mul_one,← p2_add hA hL,← p2_add c hD,h]
  · rw [p2_le0 (a:=C) (by omega),Int.one_mul,← p2_add hA hL,← p2_add (by omega) (by omega)]
    congr 1
    omega
theorem z2p {e f u:Int} (h:Wd e f) (u0:0≤u) (u1:u≤eS e f):zu [.tup [.int e,.int f],.int u] = .ok (.int (stU f u)):=z8k h u0 u1
noncomputable def grG (p:Int) (odd:Bool) (l r:Int) (under:Bool):Bool:=if p=0 then decide (r<l) || (decide (l=r) && odd) else if p=1 then decide (r≤l) else if p=2 then false else if p=3 then !under else under
theorem z8r {p l r:Int}{z:Str}{k:Nat} (w:WayK p z k) (odd under:Bool):zh [.str z,.bl odd,.int l,.int r,.bl under] = .ok (.bl (grG p odd l r under)):=by
  obtain ⟨a1,a2,a3,a4,a5,a6,a7,a8,a9,a10,a11,a12,a13,a14,a15,a16,a17,a18,a19,a20⟩:=wn
  unfold grG
  rcases w with ⟨rfl,rfl,rfl⟩ | ⟨rfl,rfl,rfl⟩ | ⟨rfl,rfl,rfl⟩ | ⟨rfl,rfl,rfl⟩ | ⟨rfl,rfl,rfl⟩
  · by_cases c:r<l
    · dsimp! [zh,z19,str_self,c];try rfl
    · by_cases c2:l=r
      · dsimp! [zh,z19,str_self,c,c2]
        have:¬ r<r:=by omega
        dsimp! [this];try rfl
      · dsimp! [zh,z19,str_self,c,c2];try rfl
  · dsimp! [zh,z19,str_self,a1];try rfl
  · dsimp! [zh,z19,str_self,a2,a6];try rfl
  · dsimp! [zh,z19,str_self,a3,a7,a11,a20];cases under<;>rfl
  · dsimp! [zh,z19,str_self,a4,a8,a12];cases under<;>rfl
theorem gro_gr {p q sd l r:Int}{under:Bool} (hp:p=0∨p=1∨p=2∨p=3∨p=4) (h:(sd=1∧l<r)∨(sd=2∧l=r)∨(sd=3∧r<l)):grG p (decide (q % 2=1)) l r under=gr p q sd under:=by
  have key:∀ b:Bool,grG p b l r under=gw p b sd under:=fun b=>by
    rcases h with ⟨rfl,h⟩ | ⟨rfl,h⟩ | ⟨rfl,h⟩
    · have c1:¬ r<l:=by omega
      have c2:¬ l=r:=by omega
      have c3:¬ r≤l:=by omega
      rcases hp with rfl | rfl | rfl | rfl | rfl<;>cases b<;>cases under<;>simp [grG,gw,c1,c2,c3]
    · have c1:¬ r<l:=by omega
      have c3:r≤l:=by omega
      rcases hp with rfl | rfl | rfl | rfl | rfl<;>cases b<;>cases under<;>simp [grG,gw,c1,h,c3]
    · have c2:¬ l=r:=by omega
      have c3:r≤l:=by omega
      rcases hp with rfl | rfl | rfl | rfl | rfl<;>cases b<;>cases under<;>simp [grG,gw,h,c2,c3]
  rw [key]
  have:decide (sd≠0)=true:=decide_eq_true (by omega)
  unfold gr
  rw [this,Bool.true_and]
theorem gro_31 {p:Int}{under:Bool} (hp:p=0∨p=1∨p=2∨p=3∨p=4):grG p true 3 1 under=gw p true 3 under:=by
  rcases hp with rfl | rfl | rfl | rfl | rfl<;>cases under<;>rfl
theorem tk_cases {e f p t q sd u:Int}{under:Bool} (h:Wd e f) (hp:p=0∨p=1∨p=2∨p=3∨p=4) (hs:sd=0∨sd=1∨sd=2∨sd=3) (hu:t*p2 f+q=u) (u0:0≤u) :
    ∃ sz mk,tkT e f p t q sd under = .tup [.int (sz+sg under*p2 (e+f)),.int mk]∧0≤sz∧sz≤eS e f ∧
      ((eS e f≤u∧sz=eS e f - 1+(if gw p true 3 under then 1 else 0)∧mk=20)∨(u<eS e f∧gr p q sd under=false∧sz=u∧mk=mkT f q sd) ∨
        (u<eS e f∧gr p q sd under=true∧sz=u+1∧mk=if u+1=eS e f then 20 else mkT f q sd)):=by
  obtain ⟨m1,m3,p3,p4,p7⟩:=eS_facts h
  have szd:szT f p t q sd under=t*p2 f+(if gr p q sd under then q+1 else q):=rfl
  have gc:=gr_cases (p:=p) (q:=q) (sd:=sd) (below:=under) hp hs
  have g3:gw p true 3 under=true↔(p=0∨p=1∨(p=3∧under=false)∨(p=4∧under=true)):=by
    rcases hp with rfl | rfl | rfl | rfl | rfl<;>cases under<;>simp [gw]
  unfold tkT
  rcases gc with ⟨g,gc⟩ | ⟨g,gc⟩
  · have e1:szT f p t q sd under=u+1:=by rw [szd,g,if_pos rfl];omega
    rw [e1]
    by_cases c:u+1<eS e f
    · rw [if_pos c]
      exact ⟨_,_,rfl,by omega,by omega,.inr (.inr ⟨by omega,g,rfl,by rw [if_neg (by omega)]⟩)⟩
    · rw [if_neg c]
      by_cases c2:u+1=eS e f
      · have gt:gw p true 3 under=true:=by
          apply g3.mpr
          rcases gc with ⟨a,b⟩ | ⟨a,b⟩ | ⟨a,b,d⟩ | ⟨a,b,d⟩
          · exact .inl a
          · exact .inr (.inl a)
          · exact .inr (.inr (.inl ⟨a,b⟩))
          · exact .inr (.inr (.inr ⟨a,b⟩))
        rw [if_pos gt]
        exact ⟨_,_,rfl,by omega,by omega,.inr (.inr ⟨by omega,g,c2.symm,by rw [if_pos c2]⟩)⟩
      · refine ⟨_,_,rfl,by split<;>omega,by split<;>omega,.inl ⟨by omega,by split<;>omega,rfl⟩⟩
  · have e1:szT f p t q sd under=u:=by rw [szd,g,if_neg (by decide)];omega
    rw [e1]
    by_cases c:u<eS e f
    · rw [if_pos c]
      exact ⟨_,_,rfl,by omega,by omega,.inr (.inl ⟨c,g,rfl,rfl⟩)⟩
    · rw [if_neg c]
      refine ⟨_,_,rfl,by split<;>omega,by split<;>omega,.inl ⟨by omega,by split<;>omega,rfl⟩⟩
theorem right13 {e f p t q sd top more:Int}{z:Str}{k:Nat} (h:Wd e f) (w:WayK p z k) (t0:0≤t) (q0:0≤q) (q1:q<2*p2 f) (qt:t=0∨p2 f≤q) (m0:0≤more) (mb:more≤5000) (hs:sd=0∨sd=1∨sd=2∨sd=3)
    (L:Lies (ab top) (q*p2 t*p2 more) ((q+1)*p2 t*p2 more) sd) :
    ∃ W mk,tkT e f p t q sd (decide (top<0)) = .tup [.int W,.int mk]∧zd [.tup [.int e,.int f],.tup [.int W,.int mk],.int top,.int more,.str z] = .ok (.bl true)∧0≤W∧W<2*p2 (e+f)∧W % p2 (e+f)≤eS e f:=by
  have hf:=h.2.2.1
  have pf:=p2_pos f
  have hB:=p2_pos more
  obtain ⟨m1,m3,p3,p4,p7⟩:=eS_facts h
  obtain ⟨p1,_,_,p5,p6,b1,b2,b3,b4,_,p8⟩:=p2_wd h
  obtain ⟨u0,l1,l2,l3,l4⟩:=low_u hf t0 q0 q1 qt
  have hp:=wayk_p w
  rw [← l1,← l2] at L
  have od:decide ((t*p2 f+q) % 2=1)=decide (q % 2=1):=by rw [l3]
  generalize hu:t*p2 f+q=u at *
  obtain ⟨sz,mk,ek,s0,s1,V⟩:=tk_cases (e:=e) (under:=decide (top<0)) h hp hs hu u0
  rw [ek]
  have hw:Wu e f (sg (decide (top<0))) sz:=⟨h,by cases decide (top<0)<;>simp [sg],s0,by omega⟩
  obtain ⟨w0,w1,_,w2,_,_⟩:=wu_word hw
  refine ⟨_,_,rfl,?_,w0,by omega,by rw [w2];exact s1⟩
  have sl:∀ x y:Int,0≤x→x<y→stU f x*p2 more<stU f y*p2 more:=fun x y hx hxy=>Int.mul_lt_mul_of_pos_right (stU_lt hx hxy) hB
  have HL:=sl u (u+1) u0 (by omega)
  have bd:stU f u*p2 more≤ab top∧ab top<stU f (u+1)*p2 more:=by
    rcases L with ⟨_,x⟩ | ⟨_,x,y⟩ | ⟨_,x⟩ | ⟨_,x,y⟩<;>omega
  have mkf:ab top<p2 (f+more)↔q<p2 f:=by
    have pe:stU f (p2 f)=p2 f:=by
      unfold stU
      rw [if_neg (by omega),Int.emod_self,Int.ediv_self (by omega)]
      have:p2 (1 - 1)=1:=rfl
      rw [this];omega
    have c:p2 (f+more)=stU f (p2 f)*p2 more:=by rw [pe,p2_add (by omega) m0]
    rw [c]
    constructor
    · intro y
      apply Decidable.byContradiction
      intro n
      have:stU f (p2 f)*p2 more≤stU f u*p2 more:=by
        by_cases z:p2 f=u
        · rw [← z];exact Int.le_refl _
        · have:=sl (p2 f) u (by omega) (by omega);omega
      omega
    · intro y
      have lt:=l4.mp y
      have:stU f (u+1)*p2 more≤stU f (p2 f)*p2 more:=by
        by_cases z:u+1=p2 f
        · rw [z];exact Int.le_refl _
        · have:=sl (u+1) (p2 f) (by omega) (by omega);omega
      omega
  obtain ⟨g1,g2,g3,g4⟩:=id h
  have o1:=okShl_1 (b:=e+f) (by omega) (by omega)
  have o2:=okShl_1 (b:=e) (by omega) (by omega)
  have o5:okShl (p2 e - 1) f:=okShl_of (n:=12) (by omega) (nb_le (by omega)) (by omega)
  have o6:okShl 1 (f+more):=okShl_of (n:=1) (by omega) (by decide) (by omega)
  have hS:(p2 e - 1)*p2 f=eS e f:=rfl
  have osh:∀ x:Int,0≤x→x≤eS e f→okShl (stU f x) more:=fun x x0 x1=>okShl_of (n:=2200) m0 (nb_st h x0 x1) (by omega)
  have x5:=z2p (u:=eS e f) h (by omega) (by omega)
  have y5:=osh (eS e f) (by omega) (by omega)
  have szw:sz+sg (decide (top<0))*p2 (e+f) - (if decide (top<0)=true then (1:Int) else 0)*p2 (e+f)=sz:=by
    have:sg (decide (top<0))=if decide (top<0)=true then (1:Int) else 0:=rfl
    rw [this];omega
  have oI:okMul (if decide (top<0)=true then (1:Int) else 0) (p2 (e+f)):=okMul_l (by split<;>decide) (by split<;>decide)
  have n0:¬ sz<0:=by omega
  have n1:¬ eS e f<sz:=by omega
  generalize hW:sz+sg (decide (top<0))*p2 (e+f)=W at *
  generalize hN:(if decide (top<0)=true then (1:Int) else 0)=N at *
  have mkd:mkT f q sd=if sd=0 then 0 else if q<p2 f then 24 else 16:=rfl
  rcases V with ⟨v1,v2,v3⟩ | ⟨v1,v2,v3,v4⟩ | ⟨v1,v2,v3,v4⟩
  · have big:stU f (eS e f)*p2 more≤ab top:=by
      by_cases z:eS e f=u
      · rw [z];exact bd.1
      · have:=sl (eS e f) u (by omega) (by omega);omega
    have gro:=z8r (l:=3) (r:=1) w true (decide (top<0))
    rw [gro_31 hp] at gro
    generalize hG:(if gw p true 3 (decide (top<0))=true then (1:Int) else 0)=G at *
    generalize hd:decide (top<0)=D at *
    subst v3
    dsimp! [zd,z1b,List.replicate,List.set,Int.one_mul,o1,o2,o5,hS,hd,hN,oI,szw,n0,n1,ab_e,x5,y5,big,gro,hG,v2.symm]
  · have small:¬ stU f (eS e f)*p2 more≤ab top:=by
      by_cases z:u+1=eS e f
      · rw [← z];omega
      · have:=sl (u+1) (eS e f) (by omega) (by omega);omega
    subst v3
    have x6:=z2p (u:=sz) h (by omega) (by omega)
    have y6:=osh sz (by omega) (by omega)
    have x7:=z2p (u:=sz+1) h (by omega) (by omega)
    have y7:=osh (sz+1) (by omega) (by omega)
    by_cases c:sd=0
    · have eqM:stU f sz*p2 more=ab top:=by rcases L with ⟨_,x⟩ | ⟨x,_,_⟩ | ⟨x,_⟩ | ⟨x,_,_⟩<;>omega
      rw [mkd,if_pos c] at v4
      subst v4
      generalize hd:decide (top<0)=D at *
      dsimp! [zd,z1b,List.replicate,List.set,Int.one_mul,o1,o2,o5,hS,hd,hN,oI,szw,n0,n1,ab_e,x5,y5,small,x6,y6,eqM]
    · have neM:¬ stU f sz*p2 more=ab top:=by rcases L with ⟨x,_⟩ | ⟨_,x,_⟩ | ⟨_,x⟩ | ⟨_,x,_⟩<;>omega
      have ngt:¬ ab top<stU f sz*p2 more:=by omega
      have lf:¬ ab top - stU f sz*p2 more≤0:=by omega
      have rt:¬ stU f (sz+1)*p2 more - ab top≤0:=by omega
      have gro:=z8r (l:=ab top - stU f sz*p2 more) (r:=stU f (sz+1)*p2 more - ab top) w (decide (sz % 2=1)) (decide (top<0))
      rw [od,gro_gr hp (sd:=sd) (by rcases L with ⟨x,_⟩ | ⟨x,_,_⟩ | ⟨x,_⟩ | ⟨x,_,_⟩<;>omega),v2] at gro
      rw [← od] at gro
      have ne:¬ sz=eS e f:=by omega
      have e0:sz - 0=sz:=by omega
      have o8:okMul 8 (if q<p2 f then (1:Int) else 0):=okMul_l (by decide) (by decide)
      generalize hd:decide (top<0)=D at *
      rw [mkd,if_neg c] at v4
      by_cases cq:q<p2 f
      · have lo:=mkf.mpr cq
        rw [if_pos cq] at v4
        subst v4
        dsimp! [zd,z1b,List.replicate,List.set,Int.one_mul,o1,o2,o5,o6,hS,hd,hN,oI,szw,n0,n1,ab_e,x5,y5,small,x6,y6,x7,y7,neM,ngt,e0,lf,rt,gro,lo,ne]
      · have lo:¬ ab top<p2 (f+more):=fun x=>cq (mkf.mp x)
        rw [if_neg cq] at v4
        subst v4
        dsimp! [zd,z1b,List.replicate,List.set,Int.one_mul,o1,o2,o5,o6,hS,hd,hN,oI,szw,n0,n1,ab_e,x5,y5,small,x6,y6,x7,y7,neM,ngt,e0,lf,rt,gro,lo,ne]
  · have small:¬ stU f (eS e f)*p2 more≤ab top:=by
      by_cases z:u+1=eS e f
      · rw [← z];omega
      · have:=sl (u+1) (eS e f) (by omega) (by omega);omega
    have e0:sz - 1=u:=by omega
    have e1:u+1=sz:=by omega
    rw [e1] at bd L HL
    have x6:=z2p (u:=sz) h (by omega) (by omega)
    have y6:=osh sz (by omega) (by omega)
    have x7:=z2p (u:=u) h (by omega) (by omega)
    have y7:=osh u (by omega) (by omega)
    have c:sd≠0:=by
      intro c
      have gc:=gr_cases (p:=p) (q:=q) (sd:=sd) (below:=decide (top<0)) hp hs
      rcases gc with ⟨_,gc⟩ | ⟨g,_⟩
      · rcases gc with ⟨_,x⟩ | ⟨_,x⟩ | ⟨_,_,x⟩ | ⟨_,_,x⟩<;>omega
      · rw [g] at v2;cases v2
    have neM:¬ stU f sz*p2 more=ab top:=by omega
    have gt:ab top<stU f sz*p2 more:=by omega
    have lf:¬ ab top - stU f u*p2 more≤0:=by rcases L with ⟨x,_⟩ | ⟨_,x,_⟩ | ⟨_,x⟩ | ⟨_,x,_⟩<;>omega
    have rt:¬ stU f sz*p2 more - ab top≤0:=by omega
    have gro:=z8r (l:=ab top - stU f u*p2 more) (r:=stU f sz*p2 more - ab top) w (decide (u % 2=1)) (decide (top<0))
    rw [od,gro_gr hp (sd:=sd) (by rcases L with ⟨x,_⟩ | ⟨x,_,_⟩ | ⟨x,_⟩ | ⟨x,_,_⟩<;>omega),v2] at gro
    rw [← od] at gro
    generalize hd:decide (top<0)=D at *
    rw [e1,mkd,if_neg c] at v4
    by_cases ce:sz=eS e f
    · have cq:¬ q<p2 f:=fun x=>by have:=l4.mp x;omega
      have lo:¬ ab top<p2 (f+more):=fun x=>cq (mkf.mp x)
      rw [if_pos ce] at v4
      subst v4
      have t1:eS e f - 1=u:=by omega
      rw [ce] at x6 y6 neM gt rt gro szw n0 n1 e1
      dsimp! [zd,z1b,List.replicate,List.set,Int.one_mul,o1,o2,o5,o6,hS,hd,hN,oI,szw,n0,n1,ab_e,x5,y5,small,x6,y6,x7,y7,neM,gt,t1,e1,lf,rt,gro,lo]
    · rw [if_neg ce] at v4
      by_cases cq:q<p2 f
      · have lo:=mkf.mpr cq
        rw [if_pos cq] at v4
        subst v4
        dsimp! [zd,z1b,List.replicate,List.set,Int.one_mul,o1,o2,o5,o6,hS,hd,hN,oI,szw,n0,n1,ab_e,x5,y5,small,x6,y6,x7,y7,neM,gt,e0,e1,lf,rt,gro,lo,ce]
      · have lo:¬ ab top<p2 (f+more):=fun x=>cq (mkf.mp x)
        rw [if_neg cq] at v4
        subst v4
        dsimp! [zd,z1b,List.replicate,List.set,Int.one_mul,o1,o2,o5,o6,hS,hd,hN,oI,szw,n0,n1,ab_e,x5,y5,small,x6,y6,x7,y7,neM,gt,e0,e1,lf,rt,gro,lo,ce]
def Nv (B t n k:Int):Prop:=(n % 2=1∨(n=0∧k=0))∧-B≤k∧n*p2 (k+B)=t
theorem nv_odd {B t n k:Int} (h:Nv B t n k) (h0:t≠0):n % 2=1:=by
  rcases h.1 with h1 | ⟨h1,_⟩
  · exact h1
  · exact absurd h.2.2 (by rw [h1,Int.zero_mul];exact Ne.symm h0)
theorem nv_zero {B t n k:Int} (h:Nv B t n k) (h0:t=0):n=0∧k=0:=by
  rcases h.1 with h1 | h1
  · exact absurd h.2.2 (by
      have:=p2_pos (k+B)
      rw [h0];exact Int.mul_ne_zero (by omega) (by omega))
  · exact h1
theorem nv_unique {B t n k m l:Int} (h:Nv B t n k) (g:Nv B t m l):n=m∧k=l:=by
  by_cases h0:t=0
  · have a:=nv_zero h h0
    have b:=nv_zero g h0
    omega
  · have e:=odd_unique (nv_odd h h0) (nv_odd g h0) (s:=k+B) (t:=l+B) (by have:=h.2.1;omega) (by have:=g.2.1;omega) (by rw [h.2.2,g.2.2])
    omega
theorem nv_big {B t n k:Int}{b:Nat} (hB:0≤B) (h:Nv B t n k) (hb:nb t≤b):nb n≤b∧k≤b:=by
  obtain ⟨h1,h2,h3⟩:=h
  by_cases hn:n=0
  · subst hn
    rcases h1 with h1 | ⟨_,rfl⟩
    · omega
    · exact ⟨by rw [nb_0];omega,by omega⟩
  · have e:=nb_shl hn (b:=k+B) (by omega)
    rw [h3] at e
    omega
theorem exact_nv {B s p t:Int} (hB:0≤B) (hp : -B≤p) (e:s*p2 (p+B)=t):∃ n k,z8 [.int s,.int p] = .ok (.tup [.int n,.int k])∧Nv B t n k:=by
  by_cases hs:s=0
  · subst hs
    exact ⟨0,0,z3u p,.inr ⟨rfl,rfl⟩,by omega,by rw [Int.zero_mul] at *;exact e⟩
  · obtain ⟨h1,h2,h3⟩:=tz_spec hs
    refine ⟨_,_,z47 p hs,.inl h2,by omega,?_⟩
    have a:p+tz s+B=tz s+(p+B):=by omega
    rw [a,p2_add h1 (by omega),← Int.mul_assoc,h3,e]
theorem p2_split {k p B:Int} (h:p≤k) (h2:0≤p+B):p2 (k+B)=p2 (k - p)*p2 (p+B):=by
  rw [← p2_add (by omega) h2];congr 1;omega
theorem z6w {B t u n k m l:Int} (hn:Nv B t n k) (hm:Nv B u m l) (hB:0≤B) (hB2:B≤1000000) (b1:nb n≤1000000) (b2:nb m≤1000000) (k2:k≤1000000) (l2:l≤1000000) :
    ∃ a b,z1o [.tup [.int n,.int k],.tup [.int m,.int l]] = .ok (.tup [.int a,.int b])∧Nv B (t+u) a b:=by
  obtain ⟨a1,a2,a3⟩:=min_le (k:=k) (l:=l)
  have d1:=hn.2.1
  have d2:=hm.2.1
  have o1:okShl n (k - if l<k then l else k):=okShl_of (by omega) b1 (by omega)
  have o2:okShl m (l - if l<k then l else k):=okShl_of (by omega) b2 (by omega)
  have e:(n*p2 (k - if l<k then l else k)+m*p2 (l - if l<k then l else k))*p2 ((if l<k then l else k)+B)=t+u:=by
    generalize (if l<k then l else k)=p at *
    rw [Int.add_mul,← hn.2.2,← hm.2.2,p2_split (k:=k) (p:=p) (by omega) (by omega),p2_split (k:=l) (p:=p) (by omega) (by omega),Int.mul_assoc,Int.mul_assoc]
  obtain ⟨a,b,f1,f2⟩:=exact_nv hB (by omega) e
  exact ⟨a,b,by dsimp! [z1o,z5f,z2v,z5w,o1,o2,f1],f2⟩
noncomputable def vT (B:Int):Tm→Int
  | .num b n k=>(if b then -n else n)*p2 (k+B)
  | _=>0
noncomputable def Tm.sg:Tm→Bool
  | .num b _ _=>b
  | .endl b=>b
  | _=>false
noncomputable def Tm.isZ:Tm→Bool
  | .num _ n k=>decide (n=0) && decide (k=0)
  | _=>false
noncomputable def Tm.isE:Tm→Bool
  | .endl _=>true
  | _=>false
def okT (B:Int) (b:Nat):Tm→Prop
  | .num _ n k=>(n % 2=1∨(n=0∧k=0))∧-B≤k∧nb (n*p2 (k+B))≤b
  | _=>False
noncomputable def sumT (B:Int):List Tm→Int
  | []=>0
  | t::r=>vT B t+sumT B r
theorem sum_step {B:Int}{b c:Nat}{t:Tm}{S N K:Int}{l v2 v3:Option PV} (hB:0≤B) (hB2:B≤100000) (ht:okT B b t) (hN:Nv B S N K) (hS:nb S≤c) (hb:b≤c) (hc:c≤500000) :
    ∃ N' K' v3',z1c [l,some (.tup [.int N,.int K]),some t.pv,v3] = .next [l,some (.tup [.int N',.int K']),some t.pv,v3']∧Nv B (S+vT B t) N' K'∧nb (S+vT B t)≤c+1:=by
  cases t with
  | num s n k =>
    obtain ⟨h1,h2,h3⟩:=ht
    obtain ⟨n1,n2⟩:=nv_big hB hN hS
    have hv:Nv B (vT B (.num s n k)) (if s then -n else n) k:=by
      refine ⟨?_,h2,rfl⟩
      cases s
      · exact h1
      · show (-n) % 2=1∨(-n=0∧k=0)
        omega
    have hvb:nb (vT B (.num s n k))≤b:=by
      cases s
      · exact h3
      · show nb (-n*p2 (k+B))≤b
        rw [Int.neg_mul,nb_neg];exact h3
    obtain ⟨m1,m2⟩:=nv_big hB hv hvb
    obtain ⟨N',K',e1,e2⟩:=z6w hN hv hB (by omega) (by omega) (by omega) (by omega) (by omega)
    have hvc:nb (vT B (.num s n k))≤c:=by omega
    refine ⟨N',K',some (.tup [.int n,.int k]),?_,e2,nb_add hS hvc⟩
    cases s
    · have e1':z1o [.tup [.int N,.int K],.tup [.int n,.int k]] = .ok (.tup [.int N',.int K']):=e1
      dsimp! [z1c,Tm.pv,List.set,e1']
    · have e1':z1o [.tup [.int N,.int K],.tup [.int (-n),.int k]] = .ok (.tup [.int N',.int K']):=e1
      dsimp! [z1c,Tm.pv,List.set,e1']
  | _=>exact ht.elim
theorem sum_loop {B:Int}{b:Nat} (hB:0≤B) (hB2:B≤100000) (l:Option PV):∀ (ts:List Tm) (c:Nat) (S N K:Int) (v2 v3:Option PV),(∀ t∈ts,okT B b t)→Nv B S N K→nb S≤c→b≤c→c+ts.length≤400000 →
    ∃ N' K' v2' v3',forL 2 z1c (ts.map Tm.pv) [l,some (.tup [.int N,.int K]),v2,v3] = .next [l,some (.tup [.int N',.int K']),v2',v3']∧Nv B (S+sumT B ts) N' K'∧nb (S+sumT B ts)≤c+ts.length
  | [],c,S,N,K,v2,v3,_,h,hS,_,_=>⟨N,K,v2,v3,rfl,by rw [show S+sumT B []=S from Int.add_zero S];exact h,by rw [show S+sumT B []=S from Int.add_zero S];exact hS⟩
  | t::r,c,S,N,K,v2,v3,ht,h,hS,hb,hc=>by
    rw [List.length_cons] at hc
    obtain ⟨N1,K1,w3,e1,e2,e3⟩:=sum_step (l:=l) (v2:=v2) (v3:=v3) hB hB2 (ht t List.mem_cons_self) h hS hb (by omega)
    obtain ⟨N2,K2,w4,w5,f1,f2,f3⟩:=sum_loop hB hB2 l r (c+1) _ N1 K1 (some t.pv) w3 (fun x hx=>ht x (List.mem_cons_of_mem _ hx)) e2 e3 (by omega) (by omega)
    have es:S+sumT B (t::r)=S+vT B t+sumT B r:=by show S+(vT B t+sumT B r)=_;omega
    refine ⟨N2,K2,w4,w5,?_,by rw [es];exact f2,by rw [es,List.length_cons];omega⟩
    rw [List.map_cons,forL_cons]
    show (match z1c [l,some (.tup [.int N,.int K]),some t.pv,v3] with
      | .next ρ'=>forL 2 z1c (r.map Tm.pv) ρ'
      | .cont ρ'=>forL 2 z1c (r.map Tm.pv) ρ'
      | .brk ρ'=>.next ρ'
      | o=>o)=_
    rw [e1]
    exact f1
theorem nv_0 {B:Int} (hB:0≤B):Nv B 0 0 0:=⟨.inr ⟨rfl,rfl⟩,by omega,Int.zero_mul _⟩
theorem z8x {B:Int}{b:Nat}{ts:List Tm} (hB:0≤B) (hB2:B≤100000) (hb:b≤100000) (hl:ts.length≤1000) (ht:∀ t∈ts,okT B b t) :
    ∃ N K,z2w [.lst (ts.map Tm.pv)] = .ok (.tup [.int N,.int K])∧Nv B (sumT B ts) N K∧nb (sumT B ts)≤b+ts.length:=by
  obtain ⟨N,K,v2,v3,e1,e2,e3⟩:=sum_loop hB hB2 (some (.lst (ts.map Tm.pv))) ts b 0 0 0 none none ht (nv_0 hB) (by have:nb 0=0:=rfl;omega) (Nat.le_refl _) (by omega)
  rw [Int.zero_add] at e2 e3
  refine ⟨N,K,?_,e2,e3⟩
  generalize ts.map Tm.pv=l at *
  dsimp! [z2w,z5x,List.replicate,List.set,e1]
theorem bools_of:∀ bs:List Bool,boolsP (bs.map PV.bl)=some bs
  | []=>rfl
  | b::r=>by
    show (boolsP (r.map PV.bl)).map (b::·)=_
    rw [bools_of r];rfl
theorem all_of (bs:List Bool):bAll [.lst (bs.map PV.bl)] = .ok (.bl (bs.all id)):=by unfold bAll;simp only [bools_of]
theorem any_of (bs:List Bool):bAny [.lst (bs.map PV.bl)] = .ok (.bl (bs.any id)):=by unfold bAny;simp only [bools_of]
theorem all_map {α:Type} (f:α→Bool):∀ l:List α,(l.map f).all id=l.all f
  | []=>rfl
  | x::r=>by rw [List.map_cons,List.all_cons,List.all_cons,all_map f r];rfl
theorem any_map {α:Type} (f:α→Bool):∀ l:List α,(l.map f).any id=l.any f
  | []=>rfl
  | x::r=>by rw [List.map_cons,List.any_cons,List.any_cons,any_map f r];rfl
noncomputable def nbel (ts:List Tm) (z:Str):Bool:=if ts.all Tm.isZ then (if ts.any Tm.sg then (if ts.all Tm.sg then true else z == Str.ofString "down") else false) else z == Str.ofString "down"
theorem z73 {ts:List Tm}{z:Str} (hl:ts.length≤1000):z2q [.lst (ts.map Tm.pv),.str z] = .ok (.bl (nbel ts z)):=by
  have c1:compK 3 tTrue (fBin oItem (fVar 3) (fC (.int 1))) [some (.lst (ts.map Tm.pv)),some (.str z),none] (ts.map Tm.pv) = .ok (.lst ((ts.map Tm.sg).map PV.bl)):=by
    refine compK_ok (by rw [List.length_map];omega) ?_
    rw [compL_map (fun p=>match oItem p (.int 1) with | .ok v=>v | _=>.non) (fun p hp=>by
      obtain ⟨t,_,rfl⟩:=List.mem_map.mp hp
      cases t<;>rfl),List.map_map,List.map_map]
    congr 1
    apply List.map_congr_left
    intro t _
    cases t<;>rfl
  have c2:compK 3 tTrue (fCall (noX zg) (aCons (fVar 3) (aNil))) [some (.lst (ts.map Tm.pv)),some (.str z),some (.lst ((ts.map Tm.sg).map PV.bl))] (ts.map Tm.pv) = .ok (.lst ((ts.map Tm.isZ).map PV.bl)):=by
    refine compK_ok (by rw [List.length_map];omega) ?_
    rw [compL_map (fun p=>match zg [p] with | .ok v=>v | _=>.non) (fun p hp=>by
      obtain ⟨t,_,rfl⟩:=List.mem_map.mp hp
      have io:=z8t t
      show fCall (noX zg) (aCons (fVar 3) aNil) [some (.lst (ts.map Tm.pv)),some (.str z),some (.lst ((ts.map Tm.sg).map PV.bl)),some t.pv]=_
      have nx:=noX_ok io
      rw [io]
      dsimp! [tm_a,nx]),List.map_map,List.map_map]
    congr 1
    apply List.map_congr_left
    intro t _
    show (match zg [t.pv] with | .ok v=>v | _=>.non)=PV.bl t.isZ
    rw [z8t t]
    cases t<;>rfl
  have a1:=all_of (ts.map Tm.isZ)
  have a2:=all_of (ts.map Tm.sg)
  have a3:=any_of (ts.map Tm.sg)
  rw [all_map] at a1 a2
  rw [any_map] at a3
  unfold nbel
  generalize ts.map Tm.pv=l at *
  generalize (ts.map Tm.sg).map PV.bl=l1 at *
  generalize (ts.map Tm.isZ).map PV.bl=l2 at *
  generalize ts.all Tm.isZ=x at *
  generalize ts.all Tm.sg=y at *
  generalize ts.any Tm.sg=w at *
  cases x<;>cases y<;>cases w<;>dsimp! [z2q,z5n,List.replicate,List.set,fComp_e,c1,c2,a1,a2,a3,if_true,Bool.false_eq_true,if_false]
theorem ends_none {ts:List Tm}{r0 r1 r2 r3 r4 r5:Option PV} (hl:ts.length≤1000) (h:∀ t∈ts,t.isE=false) :
    compK 6 (tVal (fBin cEq (fBin oItem (fVar 6) (fC (.int 0))) (fC (.str "endless")))) (fBin oItem (fVar 6) (fC (.int 1))) [r0,r1,r2,r3,r4,r5] (ts.map Tm.pv) = .ok (.lst []):=by
  refine compK_ok (by rw [List.length_map];omega) ?_
  have ef:∀ p∈ts.map Tm.pv,(fun _:PV=>false) p=true→fBin oItem (fVar 6) (fC (.int 1)) (padTo 6 [r0,r1,r2,r3,r4,r5] ++ [some p]) = .ok (.int 0):=fun p _ x=>by cases x
  rw [compL_filter (fun _=>false) (fun _=>.int 0) (fun p hp=>by
    obtain ⟨t,ht,rfl⟩:=List.mem_map.mp hp
    have:=h t ht
    cases t with
    | endl b=>cases this
    | _=>rfl) ef]
  have:(ts.map Tm.pv).filter (fun _=>false)=[]:=List.filter_eq_nil_iff.mpr (fun _ _=>by simp)
  rw [this];rfl
theorem truth_nil:truthP (.lst []) = .ok false:=rfl
theorem okT_no {B:Int}{b:Nat}{t:Tm} (h:okT B b t):t.isW=false∧t.isN=false∧t.isE=false:=by
  cases t with
  | num _ _ _=>exact ⟨rfl,rfl,rfl⟩
  | _=>exact h.elim
theorem noneV_no {e f:Int}{ts:List Tm} (h:∀ t∈ts,t.isW=false∧t.isN=false):noneV e f ts = .non:=by
  have a:ts.any Tm.isW=false:=by
    rw [List.any_eq_false];intro t ht;rw [(h t ht).1];decide
  have b:ts.any Tm.isN=false:=by
    rw [List.any_eq_false];intro t ht;rw [(h t ht).2];decide
  unfold noneV
  rw [a,b];rfl
theorem z66 {e f B p:Int}{b:Nat}{ts:List Tm}{z:Str}{k:Nat} (h:Wd e f) (w:WayK p z k) (hB:0≤B) (hB2:B≤100000) (hb:b≤100000) (hl:ts.length≤1000) (ht:∀ t∈ts,okT B b t) :
    (sumT B ts=0→q_gathered [.tup [.int e,.int f],.lst (ts.map Tm.pv),.str z] = .ok (.tup [.int (0+(if nbel ts z then 1 else 0)*p2 (e+f)),.int 0])) ∧
    (sumT B ts≠0→∃ N K,Nv B (sumT B ts) N K∧N≠0∧∀ W mk,z20 [.tup [.int e,.int f],.int N,.int K,.int 1,.str z] = .ok (.tup [.int W,.int mk])→q_gathered [.tup [.int e,.int f],.lst (ts.map Tm.pv),.str z] = .ok (.tup [.int W,.int mk])):=by
  have cw:=z8m h
  have wy:=(way_q w).1
  have nn:=z75 ts h (by omega)
  rw [noneV_no fun t x=>⟨(okT_no (ht t x)).1,(okT_no (ht t x)).2.1⟩] at nn
  have en:=fun r0 r1 r2 r3 r4 r5=>ends_none (ts:=ts) (r0:=r0) (r1:=r1) (r2:=r2) (r3:=r3) (r4:=r4) (r5:=r5) hl fun t x=>(okT_no (ht t x)).2.2
  obtain ⟨N,K,s1,s2,s3⟩:=z8x hB hB2 hb hl ht
  have nb0:=z73 (ts:=ts) (z:=z) hl
  have ws:=z49 (u:=0) ⟨h,.inl rfl,by decide,p2_pos _⟩ (nbel ts z)
  constructor
  · intro h0
    obtain ⟨n0,k0⟩:=nv_zero s2 h0
    subst n0 k0
    generalize ts.map Tm.pv=l at *
    generalize nbel ts z=y at *
    generalize (0+(if y=true then (1:Int) else 0)*p2 (e+f))=W at *
    dsimp! [q_gathered,z41,List.replicate,List.set,cw,wy,nn,notN_n,fComp_e,en,truth_nil,s1,nb0,ws]
  · intro h0
    have no:=nv_odd s2 h0
    have n0:¬ N=0:=by omega
    refine ⟨N,K,s2,n0,fun W mk tk=>?_⟩
    generalize ts.map Tm.pv=l at *
    dsimp! [q_gathered,z41,List.replicate,List.set,cw,wy,nn,notN_n,fComp_e,en,truth_nil,s1,n0,tk,Bool.false_and]
theorem st_val0 {e f u:Int} (h:Wd e f) (u0:0≤u) (u1:u<eS e f):0≤xN (vN f u)∧nb (xN (vN f u))≤61∧lp e f≤xK (vN f u) (vK e f u)∧xK (vN f u) (vK e f u)≤lp e f+2200∧stU f u=xN (vN f u)*p2 (xK (vN f u) (vK e f u) - lp e f)∧(xN (vN f u)=0↔u=0) ∧
    (xN (vN f u) % 2=1∨(xN (vN f u)=0∧xK (vN f u) (vK e f u)=0))∧0≤stU f u∧(stU f u=0↔u=0):=by
  obtain ⟨l1,l2,l3,l4⟩:=lp_bounds h
  by_cases c:u=0
  · subst c
    have e1:xN (vN f 0)=0:=by rw [vN_0];rfl
    have e2:xK (vN f 0) (vK e f 0)=0:=by rw [vN_0];rfl
    have e3:stU f 0=0:=stU_lo (p2_pos f)
    rw [e1,e2,e3]
    refine ⟨by decide,by decide,by omega,by omega,by rw [Int.zero_mul],⟨fun _=>rfl,fun _=>rfl⟩,.inr ⟨rfl,rfl⟩,by decide,⟨fun _=>rfl,fun _=>rfl⟩⟩
  · obtain ⟨a1,a2,a3,a4,a5⟩:=st_val h (show 0<u by omega) u1
    have sp:=stU_lt (f:=f) (u:=0) (v:=u) (by decide) (by omega)
    rw [stU_lo (p2_pos f)] at sp
    refine ⟨by omega,a2,a3,a4,a5,⟨fun x=>by omega,fun x=>by omega⟩,x_odd _ _,by omega,⟨fun x=>by omega,fun x=>by omega⟩⟩
noncomputable def sS (f s u:Int):Int:=if s=1 then -(stU f u) else stU f u
theorem sS_ab {f s u:Int} (u0:0≤u):ab (sS f s u)=stU f u:=by
  have:=stU_nn (f:=f) u0
  unfold sS
  split
  · rw [ab_neg',ab_of this]
  · exact ab_of this
theorem z8w {e f s u:Int} (h:Wu e f s u) (hu:u≤eS e f):zn [.tup [.int e,.int f],.int (u+s*p2 (e+f))] = .ok (.int (sS f s u)):=by
  have u0:=h.2.2.1
  have u1:=h.2.2.2
  have st:=z2p h.1 u0 hu
  obtain ⟨g1,g2,g3,g4⟩:=h.1
  have o1:=okShl_1 (b:=e+f) (by omega) (by omega)
  unfold sS
  rcases h.2.1 with rfl | rfl
  · have e1:u+0*p2 (e+f)=u:=by omega
    have n1:¬ p2 (e+f)≤u:=by omega
    rw [e1,if_neg (by decide)]
    dsimp! [zn,z4i,List.replicate,List.set,Int.one_mul,o1,n1,st]
  · have e1:u+1*p2 (e+f) - p2 (e+f)=u:=by omega
    have n1:p2 (e+f)≤u+1*p2 (e+f):=by omega
    have e2 : -(stU f u)=0 - stU f u:=by omega
    rw [if_pos rfl,e2]
    generalize u+1*p2 (e+f)=w at *
    dsimp! [zn,z4i,List.replicate,List.set,Int.one_mul,o1,n1,e1,st]
theorem tm_num {e f s u:Int} (hu:u<eS e f):tmU e f s u = .num (decide (s=1)) (xN (vN f u)) (xK (vN f u) (vK e f u)):=by
  unfold tmU;rw [if_neg (by omega),if_neg (by omega)]
theorem prod_v {e f s u t v:Int} (h:Wd e f) (u0:0≤u) (u1:u<eS e f) (v0:0≤v) (v1:v<eS e f) :
    vT (-(2*lp e f)) (prodT (tmU e f s u) (tmU e f t v))=(if (!(decide (s=1) == decide (t=1))) then -(stU f u*stU f v) else stU f u*stU f v)∧okT (-(2*lp e f)) 4400 (prodT (tmU e f s u) (tmU e f t v)) ∧
      (prodT (tmU e f s u) (tmU e f t v)).sg=(!(decide (s=1) == decide (t=1)))∧(prodT (tmU e f s u) (tmU e f t v)).isZ=decide (stU f u*stU f v=0):=by
  obtain ⟨a1,a2,a3,a4,a5,a6,a7,a8,a9⟩:=st_val0 h u0 u1
  obtain ⟨b1,b2,b3,b4,b5,b6,b7,b8,b9⟩:=st_val0 h v0 v1
  have n1:=nb_st h u0 (by omega)
  have n2:=nb_st h v0 (by omega)
  have n3:=nb_mul_le (stU f u) (stU f v)
  obtain ⟨l1,l2,l3,l4⟩:=lp_bounds h
  rw [tm_num u1,tm_num v1]
  generalize (decide (s=1))=x at *
  generalize (decide (t=1))=y at *
  generalize xN (vN f u)=n at *
  generalize xN (vN f v)=m at *
  generalize xK (vN f u) (vK e f u)=k at *
  generalize xK (vN f v) (vK e f v)=l at *
  by_cases c:n=0∨m=0
  · have e1:prodT (.num x n k) (.num y m l) = .num (!(x == y)) 0 0:=if_pos c
    have z:stU f u*stU f v=0:=by
      rcases c with c | c
      · rw [a9.mpr (a6.mp c),Int.zero_mul]
      · rw [b9.mpr (b6.mp c),Int.mul_zero]
    rw [e1,z]
    refine ⟨?_,⟨.inr ⟨rfl,rfl⟩,by omega,by rw [Int.zero_mul];decide⟩,rfl,rfl⟩
    show (if (!(x == y))=true then -(0:Int) else 0)*_=_
    cases (!(x == y))<;>simp
  · have e1:prodT (.num x n k) (.num y m l) = .num (!(x == y)) (n*m) (k+l):=if_neg c
    have z1:n % 2=1:=by omega
    have z2:m % 2=1:=by omega
    have z3:n*m % 2=1:=by rw [Int.mul_emod,z1,z2];rfl
    have pv:n*m*p2 (k+l + -(2*lp e f))=stU f u*stU f v:=by
      rw [a5,b5,show k+l + -(2*lp e f)=(k - lp e f)+(l - lp e f) by omega,p2_add (by omega) (by omega)]
      simp only [Int.mul_comm,Int.mul_left_comm,Int.mul_assoc]
    have nz:¬ stU f u*stU f v=0:=by
      intro z
      rcases Int.mul_eq_zero.mp z with z | z
      · exact c (.inl (a6.mpr (a9.mp z)))
      · exact c (.inr (b6.mpr (b9.mp z)))
    rw [e1]
    refine ⟨?_,⟨.inl z3,by omega,by rw [pv];omega⟩,rfl,?_⟩
    · show (if (!(x == y))=true then -(n*m) else n*m)*p2 (k+l + -(2*lp e f))=_
      cases (!(x == y))
      · simp only [Bool.false_eq_true,if_false];exact pv
      · simp only [if_true,Int.neg_mul,pv]
    · show (decide (n*m=0) && decide (k+l=0))=_
      rw [decide_eq_false nz,decide_eq_false (by omega)];rfl
theorem in2i (x a b:Int):cIn (.int x) (.tup [.int a,.int b]) = .ok (.bl ((a == x) || ((b == x) || false))):=rfl
theorem sApp (i:Nat) (g:FA) (x0:Option PV) (ρ0:MEnv):sAppend i g (x0::ρ0)=match (x0::ρ0)[i]? with
  | some (some (.own l))=>(match g (x0::ρ0) with
    | .ok [v]=>if l.length<sizeLine then .next ((x0::ρ0).set i (some (.own (l ++ [v])))) else .stuck
    | .ok _=>.stuck
    | .exc c=>.exc c (x0::ρ0)
    | .stuck=>.stuck)
  | _=>.stuck:=rfl
theorem line_4 (n:Nat) (h:n<1000):n<sizeLine:=Nat.lt_of_lt_of_le h sizeLine_ge
end Cm
namespace Mi
theorem ln1 {P:List PySem.Value→Prop} (h:∀ a,P [a]):∀ us:List PySem.Value,us.length=1→P us
  | [a],_=>h a
theorem ln2 {P:List PySem.Value→Prop} (h:∀ a b,P [a,b]):∀ us:List PySem.Value,us.length=2→P us
  | [a,b],_=>h a b
theorem lm2 {P:List PySem.Value→Prop} (h:∀ a b,P [a,b]) (us:List PySem.Value) (e:us.length+1=3):P us:=ln2 h us (Nat.succ.inj e)
theorem ln3 {P:List PySem.Value→Prop} (h:∀ a b c,P [a,b,c]):∀ us:List PySem.Value,us.length=3→P us
  | [a,b,c],_=>h a b c
theorem lm3 {P:List PySem.Value→Prop} (h:∀ a b c,P [a,b,c]) (us:List PySem.Value) (e:us.length+1=4):P us:=ln3 h us (Nat.succ.inj e)
theorem ln4 {P:List PySem.Value→Prop} (h:∀ a b c d,P [a,b,c,d]):∀ us:List PySem.Value,us.length=4→P us
  | [a,b,c,d],_=>h a b c d
theorem lm4 {P:List PySem.Value→Prop} (h:∀ a b c d,P [a,b,c,d]) (us:List PySem.Value) (e:us.length+1=5):P us:=ln4 h us (Nat.succ.inj e)
theorem ln5 {P:List PySem.Value→Prop} (h:∀ a b c d e,P [a,b,c,d,e]):∀ us:List PySem.Value,us.length=5→P us
  | [a,b,c,d,e],_=>h a b c d e
end Mi
namespace K48
open PySem Mi Cm
noncomputable def wd (e f:Int) (p:Int×Int):PV:=.int (p.2+p.1*p2 (e+f))
def NW (e f:Int) (p:Int×Int):Prop:=Wu e f p.1 p.2∧p.2<eS e f
theorem nw_app {e f:Int}{l:List (Int×Int)}{p:Int×Int} (h:∀ q∈l,NW e f q) (hp:NW e f p):∀ q∈l ++ [p],NW e f q:=fun q hq=>by
  rcases List.mem_append.mp hq with x | x
  · exact h q x
  · rw [List.mem_singleton.mp x];exact hp
noncomputable def tmP (e f:Int) (p:Int×Int):Tm:=tmU e f p.1 p.2
theorem cut_ints (ns:List Int) (lo hi:Option Int):∃ ms:List Int,cutP (ns.map PV.int) lo hi=ms.map PV.int∧ms.length≤ns.length∧∀ x∈ms,x∈ns:=by
  unfold cutP
  rw [← List.map_drop,← List.map_take]
  exact ⟨_,rfl,by rw [List.length_take,List.length_drop];omega,fun x hx=>List.mem_of_mem_drop (List.mem_of_mem_take hx)⟩
end K48
namespace K43
open PySem Mi Cm
inductive Kd where
  | nought | number | endless | wrong | none
  deriving DecidableEq
noncomputable def Kd.str:Kd→Str
  | .nought=>"nought"
  | .number=>"number"
  | .endless=>"endless"
  | .wrong=>"wrong"
  | .none=>"none"
abbrev KS:=Kd×Int
noncomputable def pp (k:KS):PV:=.tup [.str k.1.str,.int k.2]
noncomputable def ends (ks:List KS):List Int:=(ks.filter fun k=>decide (k.1 = .endless)).map (·.2)
theorem ints_of:∀ l:List Int,intsP (l.map PV.int)=some l
  | []=>rfl
  | x::r=>by show (intsP (r.map PV.int)).map (x::·)=_;rw [ints_of r];rfl
theorem sum_01:∀ l:List Int,(∀ i∈l,i=0∨i=1)→0≤sumL l∧sumL l≤l.length∧(sumL l=0→l.any (fun i=>decide (i=1))=false)∧(sumL l=l.length→l.all (fun i=>decide (i=1))=true)
  | [],_=>⟨by decide,by decide,fun _=>rfl,fun _=>rfl⟩
  | x::r,h=>by
    obtain ⟨a,b,c,d⟩:=sum_01 r fun y hy=>h y (List.mem_cons_of_mem _ hy)
    have e1:sumL (x::r)=x+sumL r:=rfl
    have e2:(((x::r).length:Nat):Int)=(r.length:Int)+1:=by rw [List.length_cons];omega
    rw [e1,e2,List.any_cons,List.all_cons]
    rcases h x List.mem_cons_self with rfl | rfl
    · exact ⟨by omega,by omega,fun z=>by rw [c (by omega)];rfl,fun z=>by omega⟩
    · exact ⟨by omega,by omega,fun z=>by omega,fun z=>by rw [d (by omega)];rfl⟩
noncomputable def kdU (e f u:Int):Kd:=if eS e f<u then (if eS e f+p2 (f - 1)≤u then .none else .wrong) else if u=eS e f then .endless else if u=0 then .nought else .number
theorem addl (a b:List PV) (h:a.length+b.length<1000):oAdd (.lst a) (.lst b) = .ok (.lst (a ++ b)):=if_pos (Nat.le_of_lt (line_4 _ h))
end K43
namespace K46
open PySem Mi Cm
abbrev WP:=Int×Int
noncomputable abbrev wd:=K48.wd
noncomputable abbrev tmP:=K48.tmP
theorem fCompX_e (n:Nat) (it:FA) (t:FT) (f:FE) (x0:Option PV) (ρ0:MEnv):fCompX n it t f (x0::ρ0)=(it (x0::ρ0)).bind (compKX n t f (x0::ρ0)):=rfl
theorem fCallX_e (F:List PV→R PV) (g:FA) (x0:Option PV) (ρ0:MEnv):fCallX F g (x0::ρ0)=match g (x0::ρ0) with
  | .ok qs=>F qs
  | _=>.stuck:=rfl
theorem compLX_map {n:Nat}{f:FE}{ρ:MEnv} (g:PV→PV):∀ {l:List PV},(∀ p∈l,f (padTo n ρ ++ [some p]) = .ok (g p))→compLX n tTrue f ρ l = .ok (l.map g)
  | [],_=>rfl
  | p::r,h=>by
    have ih:=compLX_map g (l:=r) fun q hq=>h q (List.mem_cons_of_mem _ hq)
    have e:=h p List.mem_cons_self
    unfold compLX
    show (match f (padTo n ρ ++ [some p]) with
      | .ok v=>(match compLX n tTrue f ρ r with
        | .ok vs=>R.ok (v::vs)
        | .exc c=>.exc c
        | .stuck=>.stuck)
      | .exc c=>.exc c
      | .stuck=>.stuck)=_
    rw [e,ih];rfl
theorem compLX_exc {n c:Nat}{f:FE}{ρ:MEnv}{y:PV}{B:List PV} (hy:f (padTo n ρ ++ [some y]) = .exc c):∀ {A:List PV},(∀ p∈A,∃ v,f (padTo n ρ ++ [some p]) = .ok v)→compLX n tTrue f ρ (A ++ y::B) = .exc c
  | [],_=>by
    show compLX n tTrue f ρ (y::B)=_
    unfold compLX
    show (match f (padTo n ρ ++ [some y]) with
      | .ok v=>(match compLX n tTrue f ρ B with
        | .ok vs=>R.ok (v::vs)
        | .exc c=>.exc c
        | .stuck=>.stuck)
      | .exc c=>.exc c
      | .stuck=>.stuck)=_
    rw [hy]
  | p::r,h=>by
    have ih:=compLX_exc (B:=B) hy (A:=r) fun q hq=>h q (List.mem_cons_of_mem _ hq)
    obtain ⟨v,e⟩:=h p List.mem_cons_self
    show compLX n tTrue f ρ (p::(r ++ y::B))=_
    unfold compLX
    show (match f (padTo n ρ ++ [some p]) with
      | .ok v=>(match compLX n tTrue f ρ (r ++ y::B) with
        | .ok vs=>R.ok (v::vs)
        | .exc c=>.exc c
        | .stuck=>.stuck)
      | .exc c=>.exc c
      | .stuck=>.stuck)=_
    rw [e,ih]
theorem compKX_of {n:Nat}{t:FT}{f:FE}{ρ:MEnv}{l:List PV} (h:l.length≤1000000):compKX n t f ρ l=match compLX n t f ρ l with
  | .ok vs=>.ok (.lst vs)
  | .exc c=>.exc c
  | .stuck=>.stuck:=by
  unfold compKX;rw [if_pos h]<;>(cases compLX n t f ρ l<;>rfl)
section
variable {e f:Int}{L:List WP}{o:PV}
theorem at3 {x:PV}{l:List PV}{r:R PV} (hr:q_term_of [.tup [.int e,.int f],x]=r) (ax:asVal (some x) = .ok x):fCallX q_term_of (aCons (fVar 0) (aCons (fVar 3) (aNil))) (padTo 3 [some (.tup [.int e,.int f]),some (.lst l),some o] ++ [some x])=r:=by
  show fCallX q_term_of (aCons (fVar 0) (aCons (fVar 3) (aNil))) [some (.tup [.int e,.int f]),some (.lst l),some o,some x]=r
  dsimp! [fCallX_e,ax,hr]
theorem q_tot (hl:L.length≤1000) (hw:∀ p∈L,Wu e f p.1 p.2) (ao:asVal (some o) = .ok o) {r:R PV} (hg:q_gathered [.tup [.int e,.int f],.lst ((L.map (tmP e f)).map Tm.pv),o]=r):z2c [.tup [.int e,.int f],.lst (L.map (wd e f)),o]=r:=by
  have c:compKX 3 tTrue (fCallX q_term_of (aCons (fVar 0) (aCons (fVar 3) (aNil)))) [some (.tup [.int e,.int f]),some (.lst (L.map (wd e f))),some o] (L.map (wd e f)) = .ok (.lst ((L.map (tmP e f)).map Tm.pv)):=by
    rw [compKX_of (by rw [List.length_map];omega)]
    rw [compLX_map (fun p=>match q_term_of [.tup [.int e,.int f],p] with | .ok v=>v | _=>.non) (fun p hp=>by
      obtain ⟨t,ht,rfl⟩:=List.mem_map.mp hp
      have io:q_term_of [.tup [.int e,.int f],wd e f t] = .ok (tmU e f t.1 t.2).pv:=z2x (hw t ht)
      rw [at3 io rfl,io])]
    show R.ok (PV.lst _)=_
    rw [List.map_map,List.map_map]
    congr 2
    apply List.map_congr_left
    intro t ht
    show (match q_term_of [.tup [.int e,.int f],wd e f t] with | .ok v=>v | _=>.non)=(tmU e f t.1 t.2).pv
    have io:q_term_of [.tup [.int e,.int f],wd e f t] = .ok (tmU e f t.1 t.2).pv:=z2x (hw t ht)
    rw [io]
  generalize L.map (wd e f)=l at *
  generalize (L.map (tmP e f)).map Tm.pv=T at *
  cases r with
  | ok v=>dsimp! [z2c,z33,List.replicate,List.set,fCompX_e,c,ao,hg]
  | exc d=>dsimp! [z2c,z33,List.replicate,List.set,fCompX_e,c,ao,hg]
  | stuck =>
    show runF 3 z33 _=_
    unfold z33
    dsimp! [List.replicate,List.set,fCompX_e,c,ao,hg];rfl
end
noncomputable def kk (e f:Int) (q:WP):K43.KS:=(K43.kdU e f q.2,q.1)
theorem sum01b:∀ l:List Int,(∀ i∈l,i=0∨i=1)→(l.any (fun i=>decide (i=1))=false→sumL l=0)∧(l.all (fun i=>decide (i=1))=true→sumL l=l.length)
  | [],_=>⟨fun _=>rfl,fun _=>rfl⟩
  | x::r,h=>by
    obtain ⟨a,b⟩:=sum01b r fun y hy=>h y (List.mem_cons_of_mem _ hy)
    have e1:sumL (x::r)=x+sumL r:=rfl
    have e2:(((x::r).length:Nat):Int)=(r.length:Int)+1:=by rw [List.length_cons];omega
    rw [e1,e2,List.any_cons,List.all_cons]
    refine ⟨fun z=>?_,fun z=>?_⟩
    · rw [Bool.or_eq_false_iff] at z
      have:=a z.2
      have:=of_decide_eq_false z.1
      have:=h x List.mem_cons_self
      omega
    · rw [Bool.and_eq_true] at z
      have:=b z.2
      have:=of_decide_eq_true z.1
      omega
theorem dec_i (x y:Int):(x == y)=decide (x=y):=by
  by_cases c:x=y
  · simp [c]
  · simp [c]
theorem nm_s {p:Int}{z:Str}{kk:Nat} (w:WayK p z kk):oAdd (.str z) (.str "s") = .ok (.str (z ++ "s"))∧NoWay (.str (z ++ "s")):=by
  rcases w with ⟨rfl,rfl,rfl⟩ | ⟨rfl,rfl,rfl⟩ | ⟨rfl,rfl,rfl⟩ | ⟨rfl,rfl,rfl⟩ | ⟨rfl,rfl,rfl⟩<;>exact ⟨rfl,rfl,rfl⟩
theorem all_c {e f:Int}:∀ L:List WP,(L.map (wd e f)).all (cmpOkN 5)=true∧eqPVs (L.map (wd e f)) (L.map (wd e f))=true
  | []=>⟨rfl,rfl⟩
  | q::r=>by
    obtain ⟨a,b⟩:=all_c (e:=e) (f:=f) r
    rw [List.map_cons,List.all_cons,a,eqPVs_cons,b]
    exact ⟨rfl,by show (decide (_=_) && true)=true;rw [decide_eq_true rfl];rfl⟩
theorem cut_lo {l:List PV}{a:Int} (h0:0≤a) (h1:a≤l.length):cutP l none (some a)=l.take a.toNat:=by
  show (l.drop 0).take ((if a<0 then (a+(l.length:Int)).toNat else min a.toNat l.length) - 0)=_
  rw [if_neg (by omega),Nat.min_eq_left (by omega)];rfl
theorem cut_hi {l:List PV}{a:Int} (h0:0≤a) (h1:a≤l.length):cutP l (some a) none=l.drop a.toNat:=by
  show (l.drop (if a<0 then (a+(l.length:Int)).toNat else min a.toNat l.length)).take (l.length - (if a<0 then (a+(l.length:Int)).toNat else min a.toNat l.length))=_
  rw [if_neg (by omega),Nat.min_eq_left (by omega)]
  exact List.take_of_length_le (by rw [List.length_drop];omega)
end K46
namespace K41
open PySem Mi Cm
theorem fCompT_e (n m:Nat) (it:FA) (t:FT) (f:FE) (x0:Option PV) (ρ0:MEnv):fCompT n m it t f (x0::ρ0)=(it (x0::ρ0)).bind (compKT n m t f (x0::ρ0)):=rfl
theorem compKT_ok {n m:Nat}{t:FT}{f:FE}{ρ:MEnv}{l vs:List PV} (h:l.length≤1000000) (e:compLT n m t f ρ l = .ok vs):compKT n m t f ρ l = .ok (.lst vs):=by
  unfold compKT;rw [if_pos h,e]
theorem gath_all {e f B more p top:Int}{z:Str}{k:Nat} (h:Wd e f) (w:WayK p z k) (m0:0≤more) (hB:B=more - lp e f) (hB2:B≤3000) (h0:top≠0) (bt:nb top≤5000) :
    ∃ W mk,zd [.tup [.int e,.int f],.tup [.int W,.int mk],.int top,.int more,.str z] = .ok (.bl true)∧∀ (b:Nat) (ts:List Tm),b≤100000→ts.length≤1000→(∀ t∈ts,okT B b t)→sumT B ts=top →
      q_gathered [.tup [.int e,.int f],.lst (ts.map Tm.pv),.str z] = .ok (.tup [.int W,.int mk]):=by
  obtain ⟨l1,l2,l3,l4⟩:=lp_bounds h
  obtain ⟨N,K,nv⟩:∃ N K,Nv B top N K:=by
    obtain ⟨n,k,_,nv⟩:=exact_nv (B:=B) (s:=top) (p:=-B) (t:=top) (by omega) (by omega) (by rw [show -B+B=0 by omega];exact Int.mul_one _)
    exact ⟨n,k,nv⟩
  obtain ⟨n1,n2⟩:=nv_big (by omega) nv bt
  have No:=nv_odd nv h0
  have n0:N≠0:=by omega
  have na:=nb_ab N
  have an:=ab_pos n0
  obtain ⟨t,q,a,b',st⟩:=stands (s:=ab N) (k:=K) (d:=1) h an (by decide) (by omega) (by decide) (by have:=nv.2.1;omega) (by omega)
  have pB:=p2_pos more
  have tv:=nv.2.2
  have abt:ab top=ab N*p2 (K+B):=by
    rw [← tv]
    have pp:=p2_pos (K+B)
    unfold ab
    by_cases c:N<0
    · have:N*p2 (K+B)<0:=Int.mul_neg_of_neg_of_pos c pp
      rw [if_pos c,if_pos this,Int.neg_mul]
    · have:¬ N*p2 (K+B)<0:=by have:=Int.mul_nonneg (show 0≤N by omega) (Int.le_of_lt pp);omega
      rw [if_neg c,if_neg this]
  have sgn':decide (N<0)=decide (top<0):=by
    have pp:=p2_pos (K+B)
    by_cases c:N<0
    · have:N*p2 (K+B)<0:=Int.mul_neg_of_neg_of_pos c pp
      rw [decide_eq_true c,decide_eq_true (by omega)]
    · have:¬ N*p2 (K+B)<0:=by have:=Int.mul_nonneg (show 0≤N by omega) (Int.le_of_lt pp);omega
      rw [decide_eq_false c,decide_eq_false (by omega)]
  have L:=st_lies (M:=ab top) (B:=p2 more) st (by decide) pB (by
    rw [abt,hB,Int.one_mul]
    have d1:=nv.2.1
    have p:=p2_four (A:=K+(more - lp e f)) (L:=0) (C:=K - lp e f) (D:=more) (by omega) (by decide) m0 (by omega)
    rw [p2_0,Int.mul_one,show -(K - lp e f)=lp e f - K by omega] at p
    rw [Int.mul_assoc,p,Int.mul_assoc])
  obtain ⟨W,mk,ek,ri,w0,w1,w2⟩:=right13 h w st.t0 st.q0 st.q1 st.qt m0 (by omega) (side_of a b') L
  have tk:=take_st h w n0 (by decide) (by omega) (by decide) st
  rw [sgn',ek] at tk
  refine ⟨W,mk,ri,fun b ts hb hl ht hsum=>?_⟩
  obtain ⟨N2,K2,nv2,_,gt⟩:=(z66 h w (B:=B) (b:=b) (ts:=ts) (by omega) (by omega) hb hl ht).2 (by rw [hsum];exact h0)
  rw [hsum] at nv2
  obtain ⟨eN,eK⟩:=nv_unique nv nv2
  subst eN eK
  exact gt W mk tk
theorem sForT_e (is:List Nat) (it:FA) (body:FS) (x0:Option PV) (ρ0:MEnv):sForT is it body (x0::ρ0)=match it (x0::ρ0) with | .ok l=>forT is body l (x0::ρ0) | .exc c=>.exc c (x0::ρ0) | .stuck=>.stuck:=rfl
end K41
namespace K47
open PySem Mi Cm
abbrev WP:=Int×Int
noncomputable abbrev wd:=K48.wd
abbrev NW:=K48.NW
noncomputable abbrev tmP:=K48.tmP
theorem z8v {e f r s u:Int} (h:Wd e f) (hr0:0≤r) (n:NW e f (s,u)):∃ s' u',zx [.tup [.int e,.int f],.int r,.int (u+s*p2 (e+f))] = .ok (.int (u'+s'*p2 (e+f)))∧NW e f (s',u'):=by
  have hw:=h
  obtain ⟨p1,p3,p4,p5,p6,b1,b2,b3,b4,p7,p8⟩:=p2_wd h
  obtain ⟨m1,m3,_⟩:=eS_facts h
  obtain ⟨g1,g2,g3,g4⟩:=h
  have pP:=p2_pos (e+f)
  have pF:=p2_pos f
  have o1:=okShl_1 (b:=e+f) (by omega) (by omega)
  have o2:=okShl_1 (b:=e) (by omega) (by omega)
  have o3:=okShl_1 (b:=f) (by omega) (by omega)
  have o4:=okShl_1 (b:=e - 1) (by omega) (by omega)
  have o5:okShl (p2 e - 1) f:=okShl_of (n:=12) (by omega) (nb_le (by omega)) (by omega)
  have hS:(p2 e - 1)*p2 f=eS e f:=rfl
  have oS:okMod (eS e f):=by show 0<eS e f;omega
  have oF:okMod (p2 f):=pF
  have oF5:okMod (f+5):=by show 0<f+5;omega
  have oP2:okMul 2 (p2 (e+f)):=okMul_l (by decide) (by decide)
  have od:okDiv (2*p2 (e+f)):=by rw [← p6];exact okDiv_of (p2_pos _) b4 (by decide)
  have r2:0≤r % 2:=Int.emod_nonneg _ (by decide)
  have r3:r % 2<2:=Int.emod_lt_of_pos _ (by decide)
  have o8:okMul (r % 2) (p2 (e+f)):=okMul_l (Int.lt_of_lt_of_le (by decide) r2) (Int.lt_trans r3 (by decide))
  have k0:0≤r / (2*p2 (e+f)) % 20:=Int.emod_nonneg _ (by decide)
  generalize hk:r / (2*p2 (e+f)) % 20=k at k0
  by_cases h5:k<5
  · obtain ⟨x,ex,x0,x1⟩:∃ x,oItem (.lst [.int 0,.int 1,.int (p2 f - 1),.int (p2 f),.int (eS e f - 1)]) (.int k) = .ok (.int x)∧0≤x∧x<eS e f:=by
      have:k=0∨k=1∨k=2∨k=3∨k=4:=by omega
      rcases this with rfl | rfl | rfl | rfl | rfl
      · exact ⟨_,rfl,by omega,by omega⟩
      · exact ⟨_,rfl,by omega,by omega⟩
      · exact ⟨_,rfl,by omega,by omega⟩
      · exact ⟨_,rfl,by omega,by omega⟩
      · exact ⟨_,rfl,by omega,by omega⟩
    refine ⟨r % 2,x,?_,⟨hw,by show r % 2=0∨r % 2=1;omega,x0,by show x<_;omega⟩,x1⟩
    generalize u+s*p2 (e+f)=w at *
    dsimp! [zx,z2z,List.replicate,List.set,Int.one_mul,o1,o2,o3,o5,hS,oP2,od,hk,h5,ex,o8]
  · by_cases h10:k<10
    · refine ⟨s,u,?_,n⟩
      generalize u+s*p2 (e+f)=w at *
      dsimp! [zx,z2z,List.replicate,List.set,Int.one_mul,o1,o2,o3,o5,hS,oP2,od,hk,h5,h10]
    · by_cases h15:k<15
      · generalize hH:(if p2 e - 2<(if 0 > p2 (e - 1) - 1 - (f+5) / 2+r / 2 % (f+5) then 0 else p2 (e - 1) - 1 - (f+5) / 2+r / 2 % (f+5)) then p2 e - 2 else (if 0 > p2 (e - 1) - 1 - (f+5) / 2+r / 2 % (f+5) then 0 else p2 (e - 1) - 1 - (f+5) / 2+r / 2 % (f+5)))=H
        have H0:0≤H∧H≤p2 e - 2:=by
          rw [← hH]
          generalize p2 (e - 1) - 1 - (f+5) / 2+r / 2 % (f+5)=X
          split
          · omega
          · split<;>omega
        have oh:okShl H f:=okShl_of (n:=12) (by omega) (nb_le (by omega)) (by omega)
        have y0:=Int.emod_nonneg (r / 256) (show p2 f≠0 by omega)
        have y1:=Int.emod_lt_of_pos (r / 256) pF
        have a2:H*p2 f≤(p2 e - 2)*p2 f:=Int.mul_le_mul_of_nonneg_right (by omega) (Int.le_of_lt pF)
        have a3:(p2 e - 2)*p2 f+p2 f=eS e f:=by
          show _=(p2 e - 1)*p2 f
          have:(p2 e - 1)*p2 f=(p2 e - 2+1)*p2 f:=by congr 1;omega
          rw [this,Int.add_mul,Int.one_mul]
        have a4:=Int.mul_nonneg H0.1 (Int.le_of_lt pF)
        refine ⟨r % 2,H*p2 f+r / 256 % p2 f,?_,⟨hw,by show r % 2=0∨r % 2=1;omega,by show 0≤H*p2 f+r / 256 % p2 f;omega,by show H*p2 f+r / 256 % p2 f<_;omega⟩,by show H*p2 f+r / 256 % p2 f<_;omega⟩
        generalize u+s*p2 (e+f)=w at *
        dsimp! [zx,z2z,List.replicate,List.set,Int.one_mul,o1,o2,o3,o4,o5,hS,oP2,od,hk,h5,h10,h15,oF5,hH,oh,oF,o8]
      · have w0:=Int.emod_nonneg (r / 2) (show eS e f≠0 by omega)
        have w1:=Int.emod_lt_of_pos (r / 2) (show 0<eS e f by omega)
        refine ⟨r % 2,r / 2 % eS e f,?_,⟨hw,by show r % 2=0∨r % 2=1;omega,w0,by show r / 2 % eS e f<_;omega⟩,w1⟩
        generalize u+s*p2 (e+f)=w at *
        dsimp! [zx,z2z,List.replicate,List.set,Int.one_mul,o1,o2,o3,o5,hS,oP2,od,hk,h5,h10,h15,oS,o8]
theorem turn_w {e f s u:Int} (n:NW e f (s,u)):(u+s*p2 (e+f)+p2 (e+f)) % (2*p2 (e+f))=u+(1 - s)*p2 (e+f)∧NW e f (1 - s,u):=by
  have x0:0≤u:=n.1.2.2.1
  have x2:u<p2 (e+f):=n.1.2.2.2
  have hs:s=0∨s=1:=n.1.2.1
  refine ⟨?_,⟨n.1.1,by show 1 - s=0∨1 - s=1;omega,x0,x2⟩,n.2⟩
  rcases hs with rfl | rfl
  · rw [Int.emod_eq_of_lt (by omega) (by omega)];omega
  · have e1:u+1*p2 (e+f)+p2 (e+f)=u+1*(2*p2 (e+f)):=by omega
    rw [e1,Int.add_mul_emod_self_right,Int.emod_eq_of_lt (by omega) (by omega)];omega
def FrL (e f:Int) (cs:PV) (k:Nat) (ρ:MEnv):Prop:=∃ (s u t v:Int) (A B:List WP) (v7 v8:Option PV),NW e f (s,u)∧NW e f (t,v)∧A.length=k∧B.length=k∧(∀ q∈A,NW e f q)∧(∀ q∈B,NW e f q) ∧
  ρ=[some (.tup [.int e,.int f]),some cs,some (.int (p2 (e+f))),some (.own (A.map (wd e f))),some (.own (B.map (wd e f))),some (.int (u+s*p2 (e+f))),some (.int (v+t*p2 (e+f))),v7,v8]
theorem z71 {e f:Int}{ns:List Int} (h:Wd e f) (hl:ns.length≤63) (hb:∀ x∈ns,nb x≤1048576):∃ A B:List WP,A.length=ns.length∧B.length=ns.length∧(∀ q∈A,NW e f q)∧(∀ q∈B,NW e f q) ∧
    z2n [.tup [.int e,.int f],.lst (ns.map PV.int)] = .ok (.tup [.lst (A.map (wd e f)),.lst (B.map (wd e f))]):=by
  obtain ⟨m1,m3,_⟩:=eS_facts h
  obtain ⟨g1,g2,g3,g4⟩:=id h
  have o1:=okShl_1 (b:=e+f) (by omega) (by omega)
  have w0:NW e f (0,0):=⟨wu_0 h (.inl rfl),by show (0:Int)<eS e f;omega⟩
  have z0:(0:Int)+0*p2 (e+f)=0:=by omega
  have oP2:okMul 2 (p2 (e+f)):=okMul_l (by decide) (by decide)
  have om2:okMod (2*p2 (e+f)):=by show 0<2*p2 (e+f);omega
  obtain ⟨ρ,ef,s,u,t,v,A,B,v7,v8,_,_,l1,l2,nA,nB,rfl⟩:=forL_ix (I:=FrL e f (.lst (ns.map PV.int))) (i:=7) (body:=z40) (l:=ns.map PV.int) (k:=0)
    (ρ:=[some (.tup [.int e,.int f]),some (.lst (ns.map PV.int)),some (.int (p2 (e+f))),some (.own []),some (.own []),some (.int 0),some (.int 0),none,none])
    ⟨0,0,0,0,[],[],none,none,w0,w0,rfl,rfl,fun _ h=>absurd h List.not_mem_nil,fun _ h=>absurd h List.not_mem_nil,by rw [z0];rfl⟩ (fun j y ρ hy ⟨s,u,t,v,A,B,v7,v8,a1,a2,a3,a4,a5,a6,hρ⟩=>by
      subst hρ
      have hj:j<ns.length:=by
        have:=(List.getElem?_eq_some_iff.mp hy).1
        rwa [List.length_map] at this
      obtain ⟨c,hc,rfl⟩:=List.mem_map.mp (List.mem_of_getElem? hy)
      have hm1:=mulc (hb c hc)
      have hm2:=mulc4 (hb c hc)
      obtain ⟨s',u',e1,n1⟩:=z8v (r:=c*618033988749894848204587 % 1000000000000000000000007) h (Int.emod_nonneg _ (by decide)) a1
      obtain ⟨et,nt⟩:=turn_w a2
      obtain ⟨t',v',e2,n2⟩:=z8v (r:=c*414213562373095048801689 % 1000000000000000000000007) h (Int.emod_nonneg _ (by decide)) nt
      have ln1:(A.map (wd e f)).length<sizeLine:=by rw [List.length_map];exact line_4 _ (by omega)
      have ln2:(B.map (wd e f)).length<sizeLine:=by rw [List.length_map];exact line_4 _ (by omega)
      have F:∀ v7 v8,FrL e f (.lst (ns.map PV.int)) (0+j+1) [some (.tup [.int e,.int f]),some (.lst (ns.map PV.int)),some (.int (p2 (e+f))),some (.own (A.map (wd e f) ++ [.int (u'+s'*p2 (e+f))])),some (.own (B.map (wd e f) ++ [.int (v'+t'*p2 (e+f))])),some (.int (u'+s'*p2 (e+f))),some (.int (v'+t'*p2 (e+f))),v7,v8]:=fun v7 v8 =>
        ⟨s',u',t',v',A ++ [(s',u')],B ++ [(t',v')],v7,v8,n1,n2,by rw [List.length_append,a3];rfl,by rw [List.length_append,a4];rfl,K48.nw_app a5 n1,K48.nw_app a6 n2,by rw [List.map_append,List.map_append];rfl⟩
      show Goes _ (z40 [some (.tup [.int e,.int f]),some (.lst (ns.map PV.int)),some (.int (p2 (e+f))),some (.own (A.map (wd e f))),some (.own (B.map (wd e f))),some (.int (u+s*p2 (e+f))),some (.int (v+t*p2 (e+f))),some (.int c),v8])
      generalize u+s*p2 (e+f)=x1 at *
      generalize v+t*p2 (e+f)=x2 at *
      generalize v+(1 - t)*p2 (e+f)=x3 at *
      generalize u'+s'*p2 (e+f)=x4 at *
      generalize v'+t'*p2 (e+f)=x5 at *
      generalize A.map (wd e f)=lA at *
      generalize B.map (wd e f)=lB at *
      generalize hN:PV.lst (ns.map PV.int)=N at *
      have aN:asVal (some N) = .ok N:=by rw [← hN];rfl
      dsimp! [z40,List.set,hm1,hm2,e1,oP2,om2,et,e2,sApp,List.getElem?_cons_zero,List.getElem?_cons_succ,ln1,ln2,if_true]
      exact goes_next (F _ _))
  rw [List.length_map,Nat.zero_add] at l1 l2
  refine ⟨A,B,l1,l2,nA,nB,?_⟩
  generalize A.map (wd e f)=lA at *
  generalize B.map (wd e f)=lB at *
  generalize u+s*p2 (e+f)=x1 at *
  generalize v+t*p2 (e+f)=x2 at *
  generalize ns.map PV.int=N at *
  dsimp! [z2n,z5b,List.replicate,List.set,Int.one_mul,o1,sOwn_e,ef,sFreeze_e,List.getElem?_cons_zero,List.getElem?_cons_succ]
abbrev PP:=WP×WP
noncomputable def tp (e f:Int) (p:PP):Tm:=prodT (tmP e f p.1) (tmP e f p.2)
noncomputable def vP (f:Int) (p:PP):Int:=sS f p.1.1 p.1.2*sS f p.2.1 p.2.2
noncomputable def xP (p:PP):Int:=(p.1.1+p.2.1) % 2
theorem tp_f {e f:Int}{p:PP} (h:Wd e f) (a:NW e f p.1) (b:NW e f p.2):vT (-(2*lp e f)) (tp e f p)=vP f p∧okT (-(2*lp e f)) 4400 (tp e f p)∧(tp e f p).sg=decide (xP p=1)∧(tp e f p).isZ=decide (vP f p=0)∧(xP p=0∨xP p=1):=by
  obtain ⟨⟨s,u⟩,⟨t,v⟩⟩:=p
  have hs:s=0∨s=1:=a.1.2.1
  have ht:t=0∨t=1:=b.1.2.1
  have u0:0≤u:=a.1.2.2.1
  have v0:0≤v:=b.1.2.2.1
  have u1:u<eS e f:=a.2
  have v1:v<eS e f:=b.2
  obtain ⟨p1,p2',p3,p4⟩:=prod_v (s:=s) (t:=t) h u0 u1 v0 v1
  have ev:vP f ((s,u),(t,v))=if (!(decide (s=1) == decide (t=1))) then -(stU f u*stU f v) else stU f u*stU f v:=by
    show sS f s u*sS f t v=_
    unfold sS
    rcases hs with rfl | rfl<;>rcases ht with rfl | rfl<;>simp [Int.neg_mul,Int.mul_neg]
  have ex:(!(decide (s=1) == decide (t=1)))=decide ((s+t) % 2=1):=by
    rcases hs with rfl | rfl<;>rcases ht with rfl | rfl<;>decide
  refine ⟨by rw [ev];exact p1,p2',by show (prodT (tmU e f s u) (tmU e f t v)).sg=decide ((s+t) % 2=1);rw [p3,ex],?_,by show (s+t) % 2=0∨(s+t) % 2=1;omega⟩
  show (prodT (tmU e f s u) (tmU e f t v)).isZ=_
  rw [p4,ev]
  by_cases c:(!(decide (s=1) == decide (t=1)))=true
  · rw [if_pos c]
    by_cases d:stU f u*stU f v=0
    · rw [decide_eq_true d,decide_eq_true (by omega)]
    · rw [decide_eq_false d,decide_eq_false (by omega)]
  · rw [if_neg c]
noncomputable def sumV (f:Int) (Z:List PP):Int:=sumL (Z.map (vP f))
theorem sum_tp {e f:Int} (h:Wd e f):∀ Z:List PP,(∀ p∈Z,NW e f p.1∧NW e f p.2)→sumT (-(2*lp e f)) (Z.map (tp e f))=sumV f Z
  | [],_=>rfl
  | p::r,hp=>by
    have a:=hp p List.mem_cons_self
    show vT _ (tp e f p)+sumT _ (r.map (tp e f))=vP f p+sumL (r.map (vP f))
    rw [(tp_f h a.1 a.2).1,sum_tp h r fun q hq=>hp q (List.mem_cons_of_mem _ hq)]
    rfl
theorem okT_tp {e f:Int}{Z:List PP} (h:Wd e f) (hp:∀ p∈Z,NW e f p.1∧NW e f p.2):∀ t∈Z.map (tp e f),okT (-(2*lp e f)) 4400 t:=fun t ht=>by
  obtain ⟨p,hq,rfl⟩:=List.mem_map.mp ht
  exact (tp_f h (hp p hq).1 (hp p hq).2).2.1
noncomputable def nbP (f:Int) (Z:List PP) (z:Str):Bool:=if (∀ p∈Z,vP f p=0)∧(sumL (Z.map xP)=0∨sumL (Z.map xP)=Z.length) then decide (0<sumL (Z.map xP)) else z == Str.ofString "down"
theorem nb_P {e f:Int}{Z:List PP}{z:Str} (h:Wd e f) (hp:∀ p∈Z,NW e f p.1∧NW e f p.2):nbel (Z.map (tp e f)) z=nbP f Z z:=by
  have s01:∀ i∈Z.map xP,i=0∨i=1:=fun i hi=>by
    obtain ⟨q,hq,rfl⟩:=List.mem_map.mp hi
    exact (tp_f h (hp q hq).1 (hp q hq).2).2.2.2.2
  obtain ⟨a1,a2,a3,a4⟩:=K43.sum_01 _ s01
  obtain ⟨b1,b2⟩:=K46.sum01b _ s01
  rw [List.length_map] at a2 a4 b2
  have z1:(Z.map (tp e f)).all Tm.isZ=true↔∀ p∈Z,vP f p=0:=by
    rw [List.all_map,List.all_eq_true]
    exact ⟨fun k q hq=>by
      have:=k q hq
      have:(tp e f q).isZ=true:=this
      rw [(tp_f h (hp q hq).1 (hp q hq).2).2.2.2.1] at this
      exact of_decide_eq_true this,fun k q hq=>by
      show (tp e f q).isZ=true
      rw [(tp_f h (hp q hq).1 (hp q hq).2).2.2.2.1];exact decide_eq_true (k q hq)⟩
  have sgq:∀ q∈Z,(tp e f q).sg=decide (xP q=1):=fun q hq=>(tp_f h (hp q hq).1 (hp q hq).2).2.2.1
  have z2:(Z.map (tp e f)).any Tm.sg=(Z.map xP).any (fun i=>decide (i=1)):=by
    rw [List.any_map,List.any_map,Bool.eq_iff_iff,List.any_eq_true,List.any_eq_true]
    exact ⟨fun ⟨q,hq,k⟩=>⟨q,hq,by show decide (xP q=1)=true;rw [← sgq q hq];exact k⟩,fun ⟨q,hq,k⟩=>⟨q,hq,by show (tp e f q).sg=true;rw [sgq q hq];exact k⟩⟩
  have z3:(Z.map (tp e f)).all Tm.sg=(Z.map xP).all (fun i=>decide (i=1)):=by
    rw [List.all_map,List.all_map,Bool.eq_iff_iff,List.all_eq_true,List.all_eq_true]
    exact ⟨fun k q hq=>by show decide (xP q=1)=true;rw [← sgq q hq];exact k q hq,fun k q hq=>by show (tp e f q).sg=true;rw [sgq q hq];exact k q hq⟩
  unfold nbel nbP
  rw [z2,z3]
  generalize (Z.map xP).any (fun i=>decide (i=1))=A1 at *
  generalize (Z.map xP).all (fun i=>decide (i=1))=A2 at *
  generalize sumL (Z.map xP)=S1 at *
  by_cases c:(Z.map (tp e f)).all Tm.isZ=true
  · have c':=z1.mp c
    rw [if_pos c]
    cases A1 with
    | false =>
      have y1:=b1 rfl
      rw [if_neg Bool.false_ne_true,if_pos ⟨c',.inl y1⟩,decide_eq_false (by omega)]
    | true =>
      rw [if_pos rfl]
      have y0:¬ S1=0:=fun y=>by have:=a3 y;cases this
      cases A2 with
      | false =>
        have y1:¬ S1=Z.length:=fun y=>by have:=a4 y;cases this
        rw [if_neg Bool.false_ne_true,if_neg (fun y=>by rcases y.2 with t | t;exact y0 t;exact y1 t)]
      | true =>
        have y1:=b2 rfl
        rw [if_pos rfl,if_pos ⟨c',.inr y1⟩,decide_eq_true (by omega)]
  · rw [if_neg c,if_neg (fun y=>c (z1.mpr y.1))]
theorem gath_P {e f p:Int}{z:Str}{k:Nat}{Z:List PP} (h:Wd e f) (w:WayK p z k) (hl:Z.length≤100) (hp:∀ q∈Z,NW e f q.1∧NW e f q.2) :
    ∃ W mk:Int,(∀ Z':List PP,Z'.length=Z.length→(∀ q∈Z',NW e f q.1∧NW e f q.2)→sumV f Z'=sumV f Z→nbP f Z' z=nbP f Z z→q_gathered [.tup [.int e,.int f],.lst ((Z'.map (tp e f)).map Tm.pv),.str z] = .ok (.tup [.int W,.int mk])) ∧
      ((sumV f Z=0∧mk=0∧W=0+(if nbP f Z z then 1 else 0)*p2 (e+f))∨(¬ sumV f Z=0∧zd [.tup [.int e,.int f],.tup [.int W,.int mk],.int (sumV f Z),.int (-(lp e f)),.str z] = .ok (.bl true))):=by
  obtain ⟨l1,l2,l3,l4⟩:=lp_bounds h
  by_cases c:sumV f Z=0
  · refine ⟨0+(if nbP f Z z then 1 else 0)*p2 (e+f),0,fun Z' hl' hp' hs hn=>?_,.inl ⟨c,rfl,rfl⟩⟩
    have gt:=(z66 h w (B:=-(2*lp e f)) (b:=4400) (ts:=Z'.map (tp e f)) (by omega) (by omega) (by decide) (by rw [List.length_map];omega) (okT_tp h hp')).1 (by rw [sum_tp h Z' hp',hs];exact c)
    rw [nb_P h hp',hn] at gt
    exact gt
  · obtain ⟨_,_,_,_,s3⟩:=z8x (B:=-(2*lp e f)) (b:=4400) (ts:=Z.map (tp e f)) (by omega) (by omega) (by decide) (by rw [List.length_map];omega) (okT_tp h hp)
    rw [sum_tp h Z hp,List.length_map] at s3
    obtain ⟨W,mk,ri,gt⟩:=K41.gath_all (B:=-(2*lp e f)) (more:=-(lp e f)) h w (by omega) (by omega) (by omega) c (by omega)
    exact ⟨W,mk,fun Z' hl' hp' hs _=>gt 4400 _ (by decide) (by rw [List.length_map];omega) (okT_tp h hp') (by rw [sum_tp h Z' hp',hs]),.inr ⟨c,ri⟩⟩
theorem item_w {e f:Int}{A:List WP}{k:Nat}{a:WP} (ha:A[k]?=some a):oItem (.lst (A.map (wd e f))) (.int (k:Int)) = .ok (wd e f a):=by
  refine oItem_at (by omega) ?_
  rw [show ((k:Int)).toNat=k by omega,List.getElem?_map,ha];rfl
theorem range_n (n:Nat):rangeP 0 (n:Int) 1=(List.range n).map fun k:Nat=>PV.int (k:Int):=by
  unfold rangeP rangeN
  have:(if (1:Int) > 0 then (if (0:Int)<(n:Int) then ((n:Int) - 0 - 1) / 1+1 else 0) else (if (0:Int) > (n:Int) then (0 - (n:Int) - 1) / (-1)+1 else 0)).toNat=n:=by
    rw [if_pos (by decide)]
    by_cases c:(0:Int)<n
    · rw [if_pos c,Int.ediv_one];omega
    · rw [if_neg c];omega
  rw [this]
  apply List.map_congr_left
  intro k _
  congr 1;omega
theorem z3t {e f:Int}{A B:List WP}{o:PV} (hl:A.length=B.length) (hz:A.length≤1000) (hA:∀ q∈A,Wu e f q.1 q.2) (hB:∀ q∈B,Wu e f q.1 q.2) (ao:asVal (some o) = .ok o) {r:R PV}
    (hg:q_gathered [.tup [.int e,.int f],.lst (((A.zip B).map (tp e f)).map Tm.pv),o]=r):q_dots_v2 [.tup [.int e,.int f],.lst (A.map (wd e f)),.lst (B.map (wd e f)),o]=r:=by
  have c:compKX 4 tTrue (fCallX q_product (aCons (fVar 0) (aCons (fBin oItem (fVar 1) (fVar 4)) (aCons (fBin oItem (fVar 2) (fVar 4)) (aNil))))) [some (.tup [.int e,.int f]),some (.lst (A.map (wd e f))),some (.lst (B.map (wd e f))),some o] (rangeP 0 ((A.length:Nat):Int) 1) = .ok (.lst (((A.zip B).map (tp e f)).map Tm.pv)):=by
    rw [range_n,K46.compKX_of (by rw [List.length_map,List.length_range];omega)]
    have key:∀ k:Nat,k<A.length→∃ a b,A[k]?=some a∧B[k]?=some b∧fCallX q_product (aCons (fVar 0) (aCons (fBin oItem (fVar 1) (fVar 4)) (aCons (fBin oItem (fVar 2) (fVar 4)) (aNil)))) (padTo 4 [some (.tup [.int e,.int f]),some (.lst (A.map (wd e f))),some (.lst (B.map (wd e f))),some o] ++ [some (.int (k:Int))]) = .ok (tp e f (a,b)).pv:=fun k hk=>by
      have h1:=List.getElem?_eq_getElem hk
      have h2:=List.getElem?_eq_getElem (show k<B.length by omega)
      refine ⟨_,_,h1,h2,?_⟩
      have i1:=item_w (e:=e) (f:=f) h1
      have i2:=item_w (e:=e) (f:=f) h2
      have wa:=hA _ (List.mem_of_getElem? h1)
      have wb:=hB _ (List.mem_of_getElem? h2)
      have pr:=z48 wa wb
      show fCallX q_product (aCons (fVar 0) (aCons (fBin oItem (fVar 1) (fVar 4)) (aCons (fBin oItem (fVar 2) (fVar 4)) (aNil)))) [some (.tup [.int e,.int f]),some (.lst (A.map (wd e f))),some (.lst (B.map (wd e f))),some o,some (.int (k:Int))]=_
      have pr':q_product [.tup [.int e,.int f],wd e f A[k],wd e f (B[k]'(by omega))] = .ok (tp e f (A[k],B[k]'(by omega))).pv:=pr
      generalize (tp e f (A[k],B[k]'(by omega))).pv=Y at *
      have aw1:∀ q:WP,asVal (some (wd e f q)) = .ok (wd e f q):=fun _=>rfl
      generalize A.map (wd e f)=lA at *
      generalize B.map (wd e f)=lB at *
      dsimp! [K46.fCallX_e,i1,i2,pr']
    rw [K46.compLX_map (fun p=>match p with | .int i=>(match (A.zip B)[i.toNat]? with | some q=>(tp e f q).pv | none=>.non) | _=>.non) (fun p hp=>by
      obtain ⟨k,hk,rfl⟩:=List.mem_map.mp hp
      obtain ⟨a,b,h1,h2,h3⟩:=key k (List.mem_range.mp hk)
      rw [h3]
      show _=R.ok (match (A.zip B)[((k:Nat):Int).toNat]? with | some q=>(tp e f q).pv | none=>.non)
      have hzp:(A.zip B)[k]?=some (a,b):=List.getElem?_zip_eq_some.mpr ⟨h1,h2⟩
      rw [show ((k:Nat):Int).toNat=k by omega,hzp])]
    show R.ok (PV.lst _)=_
    congr 2
    apply List.ext_getElem?
    intro k
    rw [List.map_map,List.getElem?_map,List.map_map,List.getElem?_map]
    by_cases hk:k<A.length
    · obtain ⟨a,b,h1,h2,_⟩:=key k hk
      have hzp:(A.zip B)[k]?=some (a,b):=List.getElem?_zip_eq_some.mpr ⟨h1,h2⟩
      rw [hzp,List.getElem?_eq_getElem (by rw [List.length_range];exact hk),List.getElem_range]
      show some (match (A.zip B)[((k:Nat):Int).toNat]? with | some q=>(tp e f q).pv | none=>PV.non)=some (tp e f (a,b)).pv
      rw [show ((k:Nat):Int).toNat=k by omega,hzp]
    · rw [List.getElem?_eq_none (by rw [List.length_range];omega),List.getElem?_eq_none (by rw [List.length_zip];omega)];rfl
  have l1:((A.map (wd e f)).length:Int)=A.length:=by rw [List.length_map]
  have l2:((B.map (wd e f)).length:Int)=A.length:=by rw [List.length_map,hl]
  have oi:okI ((A.length:Nat):Int):=okI_of (by omega) (by omega)
  generalize A.map (wd e f)=lA at *
  generalize B.map (wd e f)=lB at *
  generalize ((A.zip B).map (tp e f)).map Tm.pv=T at *
  generalize ((A.length:Nat):Int)=n at *
  cases r with
  | ok v=>dsimp! [q_dots_v2,z24,List.replicate,List.set,l1,l2,oi,K46.fCompX_e,c,ao,hg,decide_true,Bool.not_true]
  | exc d=>dsimp! [q_dots_v2,z24,List.replicate,List.set,l1,l2,oi,K46.fCompX_e,c,ao,hg,decide_true,Bool.not_true]
  | stuck =>
    show runF 4 z24 _=_
    unfold z24
    dsimp! [List.replicate,List.set,l1,l2,oi,K46.fCompX_e,c,ao,hg,decide_true,Bool.not_true];rfl
section
variable {e f:Int}{la lb:List PV}{o:PV}
theorem at4 {k:Nat}{x y:PV}{r:R PV} (h1:la[k]?=some x) (h2:lb[k]?=some y) (hr:q_product [.tup [.int e,.int f],x,y]=r):fCallX q_product (aCons (fVar 0) (aCons (fBin oItem (fVar 1) (fVar 4)) (aCons (fBin oItem (fVar 2) (fVar 4)) (aNil)))) (padTo 4 [some (.tup [.int e,.int f]),some (.lst la),some (.lst lb),some o] ++ [some (.int (k:Int))])=r:=by
  have i1:oItem (.lst la) (.int (k:Int)) = .ok x:=oItem_at (by omega) (by rw [show ((k:Nat):Int).toNat=k by omega];exact h1)
  have i2:oItem (.lst lb) (.int (k:Int)) = .ok y:=oItem_at (by omega) (by rw [show ((k:Nat):Int).toNat=k by omega];exact h2)
  show fCallX q_product (aCons (fVar 0) (aCons (fBin oItem (fVar 1) (fVar 4)) (aCons (fBin oItem (fVar 2) (fVar 4)) (aNil)))) [some (.tup [.int e,.int f]),some (.lst la),some (.lst lb),some o,some (.int (k:Int))]=r
  dsimp! [K46.fCallX_e,i1,i2,hr]
theorem z65 {i:Nat} (hl:la.length=lb.length) (hz:la.length≤1000) (ok:∀ k,k<i→∃ x y v,la[k]?=some x∧lb[k]?=some y∧q_product [.tup [.int e,.int f],x,y] = .ok v) (bad:∃ x y,la[i]?=some x∧lb[i]?=some y∧q_product [.tup [.int e,.int f],x,y] = .exc 2) (ao:asVal (some o) = .ok o) :
    q_dots_v2 [.tup [.int e,.int f],.lst la,.lst lb,o] = .exc 2:=by
  obtain ⟨x,y,h1,h2,hx⟩:=bad
  have hi:i<la.length:=(List.getElem?_eq_some_iff.mp h1).1
  have c:compKX 4 tTrue (fCallX q_product (aCons (fVar 0) (aCons (fBin oItem (fVar 1) (fVar 4)) (aCons (fBin oItem (fVar 2) (fVar 4)) (aNil))))) [some (.tup [.int e,.int f]),some (.lst la),some (.lst lb),some o] (rangeP 0 ((la.length:Nat):Int) 1) = .exc 2:=by
    rw [range_n,K46.compKX_of (by rw [List.length_map,List.length_range];omega)]
    have sp:(List.range la.length).map (fun k:Nat=>PV.int (k:Int))=(List.range i).map (fun k:Nat=>PV.int (k:Int)) ++ PV.int (i:Int)::((List.range la.length).map (fun k:Nat=>PV.int (k:Int))).drop (i+1):=by
      have hlen:i<((List.range la.length).map (fun k:Nat=>PV.int (k:Int))).length:=by rw [List.length_map,List.length_range];exact hi
      have e1:=List.take_append_drop i ((List.range la.length).map (fun k:Nat=>PV.int (k:Int)))
      rw [List.drop_eq_getElem_cons hlen,List.getElem_map,List.getElem_range,← List.map_take,List.take_range,Nat.min_eq_left (by omega)] at e1
      exact e1.symm
    rw [sp,K46.compLX_exc (c:=2) (at4 h1 h2 hx) (fun p hp=>by
      obtain ⟨k,hk,rfl⟩:=List.mem_map.mp hp
      obtain ⟨x',y',v,a1,a2,a3⟩:=ok k (List.mem_range.mp hk)
      exact ⟨v,at4 a1 a2 a3⟩)]
  have l2:(lb.length:Int)=la.length:=by rw [hl]
  have oi:okI ((la.length:Nat):Int):=okI_of (by omega) (by omega)
  dsimp! [q_dots_v2,z24,List.replicate,List.set,l2,oi,K46.fCompX_e,c,ao,decide_true,Bool.not_true]
theorem z64 (hl:la.length≠lb.length):q_dots_v2 [.tup [.int e,.int f],.lst la,.lst lb,o] = .exc 5:=by
  have n:¬ (la.length:Int)=(lb.length:Int):=by omega
  dsimp! [q_dots_v2,z24,List.replicate,List.set,n,decide_false,Bool.not_false]
theorem rf {c:Nat} (ao:asVal (some o) = .ok o) (hc:c=5∨c=2∨c=3) (hq:q_dots_v2 [.tup [.int e,.int f],.lst la,.lst lb,o] = .exc c):z7 [.tup [.int e,.int f],.lst la,.lst lb,o] = .ok (.tup [.bl (decide (c=5)),.bl (decide (c=2)),.bl (decide (c=3)),.bl true]):=by
  have cn:∀ c:Nat,c=5∨c=2∨c=3→([0,1,2,3,4,5,6,7,8,9]:List Nat).contains c=true:=fun c h=>by rcases h with rfl | rfl | rfl<;>rfl
  have ad:∀ a b c:Bool,oAdd (.tup [.bl a,.bl b,.bl c]) (.tup [.bl true]) = .ok (.tup [.bl a,.bl b,.bl c,.bl true]):=fun _ _ _=>rfl
  rcases hc with rfl | rfl | rfl<;>dsimp! [z7,z5d,List.replicate,List.set,ao,hq,cn _ (.inl rfl),cn _ (.inr (.inl rfl)),cn _ (.inr (.inr rfl)),under,Nat.reduceBEq,Bool.or_false,Bool.or_true,Bool.false_or,ad]<;>rfl
theorem pr_l {y y':PV} (h:Wd e f) (hv:NoIn 0 (p2 (1+e+f) - 1) y) (a':asVal (some y') = .ok y'):q_product [.tup [.int e,.int f],y,y'] = .exc 2:=by
  have tm:=z6d h hv
  have ay:=hv.1
  dsimp! [q_product,z9,List.replicate,List.set,ay,a',tm]
theorem pr_r {q:WP}{y:PV} (h:Wu e f q.1 q.2) (hv:NoIn 0 (p2 (1+e+f) - 1) y):q_product [.tup [.int e,.int f],wd e f q,y] = .exc 2:=by
  have tm:=z6d h.1 hv
  have ay:=hv.1
  have t1:=z2x h
  have a1:=tm_a (tmU e f q.1 q.2)
  show q_product [.tup [.int e,.int f],.int (q.2+q.1*p2 (e+f)),y] = .exc 2
  generalize (tmU e f q.1 q.2).pv=T1 at *
  generalize q.2+q.1*p2 (e+f)=y1 at *
  dsimp! [q_product,z9,List.replicate,List.set,ay,t1,a1,tm]
end
theorem dots_r {e f:Int}{A B1 B2:List WP}{y o:PV} (h:Wd e f) (hA:∀ q∈A,Wu e f q.1 q.2) (hB:∀ q∈B1,Wu e f q.1 q.2) (hl:A.length=B1.length+1+B2.length) (hz:A.length≤1000) (hv:NoIn 0 (p2 (1+e+f) - 1) y) (ao:asVal (some o) = .ok o) :
    q_dots_v2 [.tup [.int e,.int f],.lst (A.map (wd e f)),.lst (B1.map (wd e f) ++ [y] ++ B2.map (wd e f)),o] = .exc 2:=by
  refine z65 (i:=B1.length) (by rw [List.length_map,List.length_append,List.length_append,List.length_map,List.length_map];simp;omega) (by rw [List.length_map];exact hz) (fun k hk=>?_) ?_ ao
  · have h1:=List.getElem?_eq_getElem (show k<A.length by omega)
    have h2:=List.getElem?_eq_getElem hk
    have pr:=z48 (hA _ (List.mem_of_getElem? h1)) (hB _ (List.mem_of_getElem? h2))
    refine ⟨wd e f (A[k]'(by omega)),wd e f B1[k],_,by rw [List.getElem?_map,h1];rfl,?_,pr⟩
    rw [List.append_assoc,List.getElem?_append_left (by rw [List.length_map];exact hk),List.getElem?_map,h2];rfl
  · have h1:=List.getElem?_eq_getElem (show B1.length<A.length by omega)
    refine ⟨wd e f (A[B1.length]'(by omega)),y,by rw [List.getElem?_map,h1];rfl,?_,pr_r (hA _ (List.mem_of_getElem? h1)) hv⟩
    rw [List.append_assoc,List.getElem?_append_right (by rw [List.length_map];exact Nat.le_refl _),List.length_map,Nat.sub_self];rfl
theorem dots_l {e f:Int}{B A1 A2:List WP}{y o:PV} (h:Wd e f) (hB:∀ q∈B,Wu e f q.1 q.2) (hA:∀ q∈A1,Wu e f q.1 q.2) (hl:B.length=A1.length+1+A2.length) (hz:B.length≤1000) (hv:NoIn 0 (p2 (1+e+f) - 1) y) (ao:asVal (some o) = .ok o) :
    q_dots_v2 [.tup [.int e,.int f],.lst (A1.map (wd e f) ++ [y] ++ A2.map (wd e f)),.lst (B.map (wd e f)),o] = .exc 2:=by
  have ll:(A1.map (wd e f) ++ [y] ++ A2.map (wd e f)).length=B.length:=by rw [List.length_append,List.length_append,List.length_map,List.length_map];simp;omega
  refine z65 (i:=A1.length) (by rw [ll,List.length_map]) (by rw [ll];exact hz) (fun k hk=>?_) ?_ ao
  · have h1:=List.getElem?_eq_getElem (show k<B.length by omega)
    have h2:=List.getElem?_eq_getElem hk
    have pr:=z48 (hA _ (List.mem_of_getElem? h2)) (hB _ (List.mem_of_getElem? h1))
    refine ⟨wd e f A1[k],wd e f (B[k]'(by omega)),_,?_,by rw [List.getElem?_map,h1];rfl,pr⟩
    rw [List.append_assoc,List.getElem?_append_left (by rw [List.length_map];exact hk),List.getElem?_map,h2];rfl
  · have h1:=List.getElem?_eq_getElem (show A1.length<B.length by omega)
    refine ⟨y,wd e f (B[A1.length]'(by omega)),?_,by rw [List.getElem?_map,h1];rfl,pr_l h hv rfl⟩
    rw [List.append_assoc,List.getElem?_append_right (by rw [List.length_map];exact Nat.le_refl _),List.length_map,Nat.sub_self];rfl
theorem one_w {e f:Int} (h:Wd e f):NW e f (0,(p2 (e - 1) - 1)*p2 f)∧tmU e f 0 ((p2 (e - 1) - 1)*p2 f) = .num false 1 0:=by
  obtain ⟨p1,p3,p4,p5,p6,b1,b2,b3,b4,p7,p8⟩:=p2_wd h
  obtain ⟨m1,m3,_,_,_⟩:=eS_facts h
  obtain ⟨g1,g2,g3,g4⟩:=id h
  obtain ⟨l1,l2,l3,l4⟩:=lp_bounds h
  have pF:=p2_pos f
  have e1p:p2 e=2*p2 (e - 1):=by rw [← p2_succ (by omega)];congr 1;omega
  have on0:p2 f≤(p2 (e - 1) - 1)*p2 f:=by
    have:=Int.mul_le_mul_of_nonneg_right (show (1:Int)≤p2 (e - 1) - 1 by omega) (Int.le_of_lt pF)
    omega
  have on1:(p2 (e - 1) - 1)*p2 f<eS e f:=by
    show _<(p2 e - 1)*p2 f
    exact Int.mul_lt_mul_of_pos_right (by omega) (by omega)
  have st:stU f ((p2 (e - 1) - 1)*p2 f)=p2 (-(lp e f)):=by
    unfold stU
    rw [if_neg (by omega),Int.mul_emod_left,Int.mul_ediv_cancel _ (by omega),Int.zero_add,← p2_add (by omega) (by omega)]
    congr 1
    unfold lp;omega
  refine ⟨⟨⟨h,.inl rfl,by show 0≤(p2 (e - 1) - 1)*p2 f;omega,by show (p2 (e - 1) - 1)*p2 f<_;omega⟩,on1⟩,?_⟩
  obtain ⟨a1,a2,a3,a4,a5,a6,a7,a8,a9⟩:=st_val0 h (show 0≤(p2 (e - 1) - 1)*p2 f by omega) on1
  rw [tm_num on1]
  generalize xN (vN f ((p2 (e - 1) - 1)*p2 f))=n at *
  generalize xK (vN f ((p2 (e - 1) - 1)*p2 f)) (vK e f ((p2 (e - 1) - 1)*p2 f))=k at *
  rw [st] at a5
  have v1:Nv (-(lp e f)) (p2 (-(lp e f))) n k:=⟨a7,by omega,by rw [show k + -(lp e f)=k - lp e f by omega];exact a5.symm⟩
  have v2:Nv (-(lp e f)) (p2 (-(lp e f))) 1 0:=⟨.inl rfl,by omega,by rw [Int.zero_add,Int.one_mul]⟩
  obtain ⟨en,ek⟩:=nv_unique v1 v2
  rw [en,ek];rfl
theorem prod_one {e f:Int}{q:WP} (h:Wd e f) (n:NW e f q):prodT (tmP e f q) (.num false 1 0)=tmP e f q:=by
  obtain ⟨a1,a2,a3,a4,a5,a6,a7,a8,a9⟩:=st_val0 h n.1.2.2.1 n.2
  show prodT (tmU e f q.1 q.2) (.num false 1 0)=tmU e f q.1 q.2
  rw [tm_num n.2]
  generalize xN (vN f q.2)=n' at *
  generalize xK (vN f q.2) (vK e f q.2)=k' at *
  generalize decide (q.1=1)=b at *
  have bb:(!(b == false))=b:=by cases b<;>rfl
  show (if n'=0∨(1:Int)=0 then Tm.num (!(b == false)) 0 0 else Tm.num (!(b == false)) (n'*1) (k'+0))=_
  rw [bb]
  by_cases c:n'=0
  · rw [if_pos (.inl c)]
    rcases a7 with y | ⟨_,y⟩
    · omega
    · rw [c,y]
  · rw [if_neg (fun y=>by rcases y with y | y;exact c y;exact absurd y (by decide)),Int.mul_one,Int.add_zero]
noncomputable def pw (e f:Int) (p:PP):PV:=.tup [wd e f p.1,wd e f p.2]
theorem zip_w {e f:Int} (A B:List WP):zipP (A.map (wd e f)) (B.map (wd e f))=(A.zip B).map (pw e f):=by
  unfold zipP
  rw [List.zip_map,List.map_map];rfl
theorem compLT_pw {n:Nat}{g:FE}{ρ:MEnv}{e f:Int} (v:PP→PV):∀ Z:List PP,(∀ p∈Z,g (padTo n ρ ++ [some (wd e f p.1),some (wd e f p.2)]) = .ok (v p))→compLT n 2 tTrue g ρ (Z.map (pw e f)) = .ok (Z.map v)
  | [],_=>rfl
  | p::r,h=>by
    have ih:=compLT_pw v r fun q hq=>h q (List.mem_cons_of_mem _ hq)
    have h1:=h p List.mem_cons_self
    rw [List.map_cons]
    show (match g (padTo n ρ ++ [some (wd e f p.1),some (wd e f p.2)]) with
        | .ok v=>(match compLT n 2 tTrue g ρ (r.map (pw e f)) with
          | .ok vs=>R.ok (v::vs)
          | _=>.stuck)
        | _=>.stuck)=_
    rw [h1,ih];rfl
theorem iZip_e (a b:FE) (x0:Option PV) (ρ0:MEnv):iZip a b (x0::ρ0)=(a (x0::ρ0)).bind fun x=>(b (x0::ρ0)).bind fun y=>match x,y with
  | .lst l,.lst m=>.ok (zipP l m)
  | _,_=>.stuck:=rfl
theorem rep1 (x:PV):∀ n:Nat,(List.replicate n [x]).flatten=List.replicate n x
  | 0=>rfl
  | n+1=>by rw [List.replicate_succ,List.flatten_cons,rep1 x n,List.replicate_succ];rfl
theorem rep_w (x:PV) {n:Nat} (h:n<1000):oRep (.lst [x]) (.int (n:Int)) = .ok (.lst (List.replicate n x)):=by
  show (if 0≤(n:Int)∧(n:Int)≤1000000∧[x].length*((n:Int)).toNat≤sizeLine then R.ok (PV.lst (List.replicate ((n:Int)).toNat [x]).flatten) else .stuck)=_
  have e1:((n:Int)).toNat=n:=by omega
  rw [e1,rep1,if_pos ⟨by omega,by omega,by show 1*n≤sizeLine;rw [Nat.one_mul];exact Nat.le_of_lt (line_4 _ h)⟩]
theorem eq_zero {f:Int}:∀ Z:List PP,eqPVs ((Z.map (vP f)).map PV.int) (List.replicate Z.length (.int 0))=decide (∀ p∈Z,vP f p=0)
  | []=>by rw [decide_eq_true (fun p hp=>absurd hp List.not_mem_nil)];rfl
  | p::r=>by
    rw [List.map_cons,List.map_cons,List.length_cons,List.replicate_succ,eqPVs_cons,eq_zero r]
    show (decide (vP f p=0) && _)=_
    by_cases c:vP f p=0
    · by_cases d:∀ q∈r,vP f q=0
      · rw [decide_eq_true c,decide_eq_true d,decide_eq_true (fun q hq=>by
          rcases List.mem_cons.mp hq with y | y
          · rw [y];exact c
          · exact d q y)];rfl
      · have t:¬ ∀ q∈p::r,vP f q=0:=fun y=>d fun q hq=>y q (List.mem_cons_of_mem _ hq)
        rw [decide_eq_false t,decide_eq_false d,Bool.and_false]
    · have t:¬ ∀ q∈p::r,vP f q=0:=fun y=>c (y p List.mem_cons_self)
      rw [decide_eq_false t,decide_eq_false c,Bool.false_and]
theorem alli:∀ l:List Int,(l.map PV.int).all (cmpOkN 5)=true
  | []=>rfl
  | x::r=>by rw [List.map_cons,List.all_cons,alli r];rfl
theorem allr:∀ n:Nat,(List.replicate n (PV.int 0)).all (cmpOkN 5)=true
  | 0=>rfl
  | n+1=>by rw [List.replicate_succ,List.all_cons,allr n];rfl
theorem z6y {e f p W mk:Int}{z:Str}{k:Nat}{A B:List WP} (h:Wd e f) (w:WayK p z k) (hl:A.length=B.length) (hz:A.length≤100) (hA:∀ q∈A,NW e f q) (hB:∀ q∈B,NW e f q)
    (V:(sumV f (A.zip B)=0∧mk=0∧W=0+(if nbP f (A.zip B) z then 1 else 0)*p2 (e+f))∨(¬ sumV f (A.zip B)=0∧zd [.tup [.int e,.int f],.tup [.int W,.int mk],.int (sumV f (A.zip B)),.int (-(lp e f)),.str z] = .ok (.bl true))) :
    q_Lgood_v22 [.tup [.int e,.int f],.tup [.int W,.int mk],.lst (A.map (wd e f)),.lst (B.map (wd e f)),.str z] = .ok (.bl true):=by
  obtain ⟨p1,p3,p4,p5,p6,b1,b2,b3,b4,p7,p8⟩:=p2_wd h
  obtain ⟨g1,g2,g3,g4⟩:=id h
  have o1:=okShl_1 (b:=e+f) (by omega) (by omega)
  have o2:=okShl_1 (b:=e - 1) (by omega) (by omega)
  have c22:((2:Nat):Int)=2:=rfl
  have wh:=z7f
  have od:okDiv (p2 (e+f)):=okDiv_of (p2_pos _) b3 (by decide)
  have hp:∀ q∈A.zip B,NW e f q.1∧NW e f q.2:=fun q hq=>⟨hA _ (List.of_mem_zip hq).1,hB _ (List.of_mem_zip hq).2⟩
  have lZ:(A.zip B).length=A.length:=by rw [List.length_zip];omega
  have hlp:p2 (e - 1)+f - 2 = -(lp e f):=by unfold lp;omega
  have nbS:∀ q:WP,NW e f q→nb (sS f q.1 q.2)≤2200:=fun q hq=>by
    rw [← nb_ab,sS_ab hq.1.2.2.1];exact nb_st h hq.1.2.2.1 (Int.le_of_lt hq.2)
  have k1:∀ r1 r2 r3 r4 r5 r6 r7:Option PV,compKT 8 2 tTrue (fBin oMul (fCall (noX zn) (aCons (fVar 0) (aCons (fVar 8) (aNil)))) (fCall (noX zn) (aCons (fVar 0) (aCons (fVar 9) (aNil))))) [some (.tup [.int e,.int f]),r1,r2,r3,r4,r5,r6,r7] ((A.zip B).map (pw e f)) = .ok (.lst (((A.zip B).map (vP f)).map PV.int)):=fun r1 r2 r3 r4 r5 r6 r7=>by
    refine K41.compKT_ok (by rw [List.length_map,lZ];omega) ?_
    rw [compLT_pw (fun p=>.int (vP f p)) (A.zip B) (fun q hq=>by
      have n1:=noX_ok (z8w (hp q hq).1.1 (Int.le_of_lt (hp q hq).1.2))
      have n2:=noX_ok (z8w (hp q hq).2.1 (Int.le_of_lt (hp q hq).2.2))
      have om:okMul (sS f q.1.1 q.1.2) (sS f q.2.1 q.2.2):=by
        have x1:=nbS q.1 (hp q hq).1
        have x2:=nbS q.2 (hp q hq).2
        refine .inr (.inr ?_)
        show _≤134217728
        omega
      show fBin oMul (fCall (noX zn) (aCons (fVar 0) (aCons (fVar 8) (aNil)))) (fCall (noX zn) (aCons (fVar 0) (aCons (fVar 9) (aNil)))) [some (.tup [.int e,.int f]),r1,r2,r3,r4,r5,r6,r7,some (.int (q.1.2+q.1.1*p2 (e+f))),some (.int (q.2.2+q.2.1*p2 (e+f)))] = .ok (.int (sS f q.1.1 q.1.2*sS f q.2.1 q.2.2))
      generalize sS f q.1.1 q.1.2=S1 at *
      generalize sS f q.2.1 q.2.2=S2 at *
      generalize q.1.2+q.1.1*p2 (e+f)=x1 at *
      generalize q.2.2+q.2.1*p2 (e+f)=x2 at *
      dsimp! [n1,n2,om]),List.map_map]
    rfl
  have k2:∀ r0 r1 r2 r3 r4 r6 r7:Option PV,compKT 8 2 tTrue (fBin oMod (fBin oAdd (fBin oDiv (fVar 8) (fVar 5)) (fBin oDiv (fVar 9) (fVar 5))) (fC (.int 2))) [r0,r1,r2,r3,r4,some (.int (p2 (e+f))),r6,r7] ((A.zip B).map (pw e f)) = .ok (.lst (((A.zip B).map xP).map PV.int)):=fun r0 r1 r2 r3 r4 r6 r7=>by
    refine K41.compKT_ok (by rw [List.length_map,lZ];omega) ?_
    rw [compLT_pw (fun p=>.int (xP p)) (A.zip B) (fun q hq=>by
      have c1:=(wu_word (hp q hq).1.1).2.2.1
      have c2:=(wu_word (hp q hq).2.1).2.2.1
      show fBin oMod (fBin oAdd (fBin oDiv (fVar 8) (fVar 5)) (fBin oDiv (fVar 9) (fVar 5))) (fC (.int 2)) [r0,r1,r2,r3,r4,some (.int (p2 (e+f))),r6,r7,some (.int (q.1.2+q.1.1*p2 (e+f))),some (.int (q.2.2+q.2.1*p2 (e+f)))] = .ok (.int ((q.1.1+q.2.1) % 2))
      generalize q.1.2+q.1.1*p2 (e+f)=x1 at *
      generalize q.2.2+q.2.1*p2 (e+f)=x2 at *
      dsimp! [od,c1,c2]),List.map_map]
    rfl
  have zw:=zip_w (e:=e) (f:=f) A B
  have bs:bSum [.lst (((A.zip B).map (vP f)).map PV.int)] = .ok (.int (sumV f (A.zip B))):=by unfold bSum;simp only [K43.ints_of];rfl
  have bs2:bSum [.lst (((A.zip B).map xP).map PV.int)] = .ok (.int (sumL ((A.zip B).map xP))):=by unfold bSum;simp only [K43.ints_of]
  have al1:=alli ((A.zip B).map (vP f))
  have rp:=rep_w (.int 0) (n:=A.length) (by omega)
  have al2:=allr A.length
  have ez:=eq_zero (f:=f) (A.zip B)
  rw [lZ] at ez
  have inl:=in2i (sumL ((A.zip B).map xP)) 0 ((A.length:Nat):Int)
  simp only [K46.dec_i,Bool.or_false] at inl
  have lenA:((A.map (wd e f)).length:Int)=A.length:=by rw [List.length_map]
  have oi:∀ b:Bool,okMul (p2 (e+f)) (if b=true then (1:Int) else 0):=fun b=>okMul_r (by cases b<;>decide) (by cases b<;>decide)
  have fw:∀ b:Bool,0+(if b=true then (1:Int) else 0)*p2 (e+f)=p2 (e+f)*(if b=true then (1:Int) else 0):=fun b=>by rw [Int.zero_add,Int.mul_comm]
  have dn:cEq (.str z) (.str "down") = .ok (.bl (z == Str.ofString "down")):=rfl
  have nv:nbP f (A.zip B) z=if (∀ p∈A.zip B,vP f p=0)∧(sumL ((A.zip B).map xP)=0∨sumL ((A.zip B).map xP)=A.length) then decide (0<sumL ((A.zip B).map xP)) else z == Str.ofString "down":=by unfold nbP;rw [lZ]
  rcases V with ⟨c,m0,eW⟩ | ⟨c,ri⟩
  rotate_left
  · generalize sumV f (A.zip B)=T at *
    generalize ((A.zip B).map (vP f)).map PV.int=l1 at *
    generalize A.map (wd e f)=lA at *
    generalize B.map (wd e f)=lB at *
    dsimp! [q_Lgood_v22,z2y,List.replicate,List.set,c22,wh,decide_true,Bool.not_true,Int.one_mul,o1,o2,K41.fCompT_e,iZip_e,zw,k1,bs,c,ri,hlp,decide_false,Bool.not_false]
  · rw [fw] at eW
    subst m0
    rw [c] at bs
    by_cases q1:∀ p∈A.zip B,vP f p=0
    · rw [decide_eq_true q1] at ez
      by_cases q2:sumL ((A.zip B).map xP)=0∨sumL ((A.zip B).map xP)=A.length
      · rw [if_pos ⟨q1,q2⟩] at nv
        rw [nv] at eW
        have o8:=oi (decide (0<sumL ((A.zip B).map xP)))
        have inl':(decide (0=sumL ((A.zip B).map xP)) || decide ((A.length:Int)=sumL ((A.zip B).map xP)))=true:=by
          rw [Bool.or_eq_true,decide_eq_true_iff,decide_eq_true_iff];omega
        rw [inl'] at inl
        clear nv q1
        subst eW
        generalize sumL ((A.zip B).map xP)=S1 at *
        generalize ((A.zip B).map (vP f)).map PV.int=l1 at *
        generalize ((A.zip B).map xP).map PV.int=l2 at *
        generalize List.replicate A.length (PV.int 0)=l3 at *
        generalize A.map (wd e f)=lA at *
        generalize B.map (wd e f)=lB at *
        dsimp! [q_Lgood_v22,z2y,List.replicate,List.set,c22,wh,decide_true,Bool.not_true,Int.one_mul,o1,K41.fCompT_e,iZip_e,zw,k1,bs,k2,bs2,lenA,rp,al1,al2,ez,inl,o8,Bool.and_self]
      · rw [if_neg (fun y=>q2 y.2)] at nv
        rw [nv] at eW
        have o8:=oi (z == Str.ofString "down")
        have inl':(decide (0=sumL ((A.zip B).map xP)) || decide ((A.length:Int)=sumL ((A.zip B).map xP)))=false:=by
          rw [Bool.or_eq_false_iff,decide_eq_false_iff_not,decide_eq_false_iff_not];omega
        rw [inl'] at inl
        clear nv q1
        subst eW
        generalize sumL ((A.zip B).map xP)=S1 at *
        generalize ((A.zip B).map (vP f)).map PV.int=l1 at *
        generalize ((A.zip B).map xP).map PV.int=l2 at *
        generalize List.replicate A.length (PV.int 0)=l3 at *
        generalize A.map (wd e f)=lA at *
        generalize B.map (wd e f)=lB at *
        dsimp! [q_Lgood_v22,z2y,List.replicate,List.set,c22,wh,decide_true,Bool.not_true,Int.one_mul,o1,K41.fCompT_e,iZip_e,zw,k1,bs,k2,bs2,lenA,rp,al1,al2,ez,inl,o8,dn,Bool.and_self]
    · rw [decide_eq_false q1] at ez
      rw [if_neg (fun y=>q1 y.1)] at nv
      rw [nv] at eW
      have o8:=oi (z == Str.ofString "down")
      clear nv q1
      subst eW
      generalize sumL ((A.zip B).map xP)=S1 at *
      generalize ((A.zip B).map (vP f)).map PV.int=l1 at *
      generalize ((A.zip B).map xP).map PV.int=l2 at *
      generalize List.replicate A.length (PV.int 0)=l3 at *
      generalize A.map (wd e f)=lA at *
      generalize B.map (wd e f)=lB at *
      dsimp! [q_Lgood_v22,z2y,List.replicate,List.set,c22,wh,decide_true,Bool.not_true,Int.one_mul,o1,K41.fCompT_e,iZip_e,zw,k1,bs,k2,bs2,lenA,rp,al1,al2,ez,o8,dn,Bool.and_self]
noncomputable def sw (p:PP):PP:=(p.2,p.1)
theorem zsw:∀ A B:List WP,B.zip A=(A.zip B).map sw
  | [],[]=>rfl
  | [],_::_=>rfl
  | _::_,[]=>rfl
  | a::A,b::B=>by
    show (b,a)::B.zip A=(b,a)::(A.zip B).map sw
    rw [zsw A B]
theorem vP_sw (f:Int):vP f ∘ sw=vP f:=by funext p;exact Int.mul_comm _ _
theorem xP_sw:xP ∘ sw=xP:=by funext p;show (_+_) % 2=(_+_) % 2;rw [Int.add_comm];rfl
theorem sumV_sw (f:Int) (Z:List PP):sumV f (Z.map sw)=sumV f Z:=by unfold sumV;rw [List.map_map,vP_sw]
theorem nbP_sw (f:Int) (Z:List PP) (z:Str):nbP f (Z.map sw) z=nbP f Z z:=by
  have e1:(∀ p∈Z.map sw,vP f p=0)=(∀ p∈Z,vP f p=0):=propext ⟨fun k p hp=>by
    have:=k (sw p) (List.mem_map.mpr ⟨p,hp,rfl⟩)
    rw [← vP_sw f];exact this,fun k p hp=>by
    obtain ⟨q,hq,rfl⟩:=List.mem_map.mp hp
    have:=k q hq
    rw [← vP_sw f] at this;exact this⟩
  unfold nbP
  simp only [List.map_map,xP_sw,List.length_map]
  by_cases c:(∀ p∈Z,vP f p=0)∧(sumL (Z.map xP)=0∨sumL (Z.map xP)=Z.length)
  · rw [if_pos c,if_pos ⟨by rw [e1];exact c.1,c.2⟩]
  · rw [if_neg c,if_neg (fun y=>c ⟨by rw [← e1];exact y.1,y.2⟩)]
theorem wus {e f:Int}{A:List WP} (h:∀ q∈A,NW e f q):∀ q∈A,Wu e f q.1 q.2:=fun q hq=>(h q hq).1
theorem dots_v {e f p:Int}{z:Str}{k:Nat}{A B:List WP} (h:Wd e f) (w:WayK p z k) (hl:A.length=B.length) (hz:A.length≤100) (hA:∀ q∈A,NW e f q) (hB:∀ q∈B,NW e f q) :
    ∃ W mk:Int,q_gathered [.tup [.int e,.int f],.lst (((A.zip B).map (tp e f)).map Tm.pv),.str z] = .ok (.tup [.int W,.int mk])∧q_dots_v2 [.tup [.int e,.int f],.lst (A.map (wd e f)),.lst (B.map (wd e f)),.str z] = .ok (.tup [.int W,.int mk])∧q_dots_v2 [.tup [.int e,.int f],.lst (B.map (wd e f)),.lst (A.map (wd e f)),.str z] = .ok (.tup [.int W,.int mk]) ∧
      q_Lgood_v22 [.tup [.int e,.int f],.tup [.int W,.int mk],.lst (A.map (wd e f)),.lst (B.map (wd e f)),.str z] = .ok (.bl true):=by
  have hp:∀ q∈A.zip B,NW e f q.1∧NW e f q.2:=fun q hq=>⟨hA _ (List.of_mem_zip hq).1,hB _ (List.of_mem_zip hq).2⟩
  have hp':∀ q∈B.zip A,NW e f q.1∧NW e f q.2:=fun q hq=>⟨hB _ (List.of_mem_zip hq).1,hA _ (List.of_mem_zip hq).2⟩
  obtain ⟨W,mk,g,V⟩:=gath_P (Z:=A.zip B) h w (by rw [List.length_zip];omega) hp
  have g1:=g (A.zip B) rfl hp rfl rfl
  have g2:=g (B.zip A) (by rw [List.length_zip,List.length_zip,Nat.min_comm]) hp' (by rw [zsw A B,sumV_sw]) (by rw [zsw A B,nbP_sw])
  exact ⟨W,mk,g1,z3t hl (by omega) (wus hA) (wus hB) rfl g1,z3t hl.symm (by omega) (wus hB) (wus hA) rfl g2,z6y h w hl hz hA hB V⟩
theorem tp_one {e f:Int}{q:WP} (h:Wd e f) (n:NW e f q):tp e f (q,(0,(p2 (e - 1) - 1)*p2 f))=tmP e f q:=by
  show prodT (tmP e f q) (tmU e f 0 ((p2 (e - 1) - 1)*p2 f))=_
  rw [(one_w h).2];exact prod_one h n
theorem zip_one {e f:Int} (h:Wd e f):∀ A:List WP,(∀ q∈A,NW e f q)→(A.zip (List.replicate A.length (0,(p2 (e - 1) - 1)*p2 f))).map (tp e f)=A.map (tmP e f)
  | [],_=>rfl
  | q::r,hq=>by
    show tp e f (q,(0,(p2 (e - 1) - 1)*p2 f))::(r.zip (List.replicate r.length (0,(p2 (e - 1) - 1)*p2 f))).map (tp e f)=tmP e f q::r.map (tmP e f)
    rw [tp_one h (hq q List.mem_cons_self),zip_one h r fun y hy=>hq y (List.mem_cons_of_mem _ hy)]
theorem cut_w {e f:Int} (A:List WP) (lo hi:Option Int):∃ A':List WP,cutP (A.map (wd e f)) lo hi=A'.map (wd e f)∧∀ q∈A',q∈A:=by
  unfold cutP
  rw [← List.map_drop,← List.map_take]
  exact ⟨_,rfl,fun q hq=>List.mem_of_mem_drop (List.mem_of_mem_take hq)⟩
section
variable {e f p:Int}{z:Str}{k:Nat}{a b c:WP}
theorem pair_t (h:Wd e f) (w:WayK p z k) (na:NW e f a) (nb:NW e f b) (nc:NW e f c) :
    ∃ W mk W2 mk2:Int,q_dots_v2 [.tup [.int e,.int f],.lst [wd e f a],.lst [wd e f b],.str z] = .ok (.tup [.int W,.int mk])∧z2b [.tup [.int e,.int f],wd e f a,wd e f b,.str z] = .ok (.tup [.int W,.int mk]) ∧
      q_dots_v2 [.tup [.int e,.int f],.lst [wd e f a,wd e f c],.lst [wd e f b,wd e f (0,(p2 (e - 1) - 1)*p2 f)],.str z] = .ok (.tup [.int W2,.int mk2])∧z29 [.tup [.int e,.int f],wd e f a,wd e f b,wd e f c,.str z] = .ok (.tup [.int W2,.int mk2]):=by
  have no:=(one_w h).1
  obtain ⟨W,mk,g1,d1,_,_⟩:=dots_v (A:=[a]) (B:=[b]) h w rfl (by simp) (fun q hq=>by rw [List.mem_singleton.mp hq];exact na) (fun q hq=>by rw [List.mem_singleton.mp hq];exact nb)
  have two:∀ {x y:WP},NW e f x→NW e f y→∀ q∈[x,y],NW e f q:=fun {x y} hx hy q hq=>by
    rcases List.mem_cons.mp hq with y' | y'
    · rw [y'];exact hx
    · rw [List.mem_singleton.mp y'];exact hy
  obtain ⟨W2,mk2,g2,d2,_,_⟩:=dots_v (A:=[a,c]) (B:=[b,(0,(p2 (e - 1) - 1)*p2 f)]) h w rfl (by simp) (two na nc) (two nb no)
  have pr:=z48 na.1 nb.1
  have tc:=z2x nc.1
  have a1:=tm_a (prodT (tmU e f a.1 a.2) (tmU e f b.1 b.2))
  have a3:=tm_a (tmU e f c.1 c.2)
  have g1':q_gathered [.tup [.int e,.int f],.lst [(prodT (tmU e f a.1 a.2) (tmU e f b.1 b.2)).pv],.str z] = .ok (.tup [.int W,.int mk]):=g1
  have g2':q_gathered [.tup [.int e,.int f],.lst [(prodT (tmU e f a.1 a.2) (tmU e f b.1 b.2)).pv,(tmU e f c.1 c.2).pv],.str z] = .ok (.tup [.int W2,.int mk2]):=by
    have e1:tp e f (c,(0,(p2 (e - 1) - 1)*p2 f))=tmU e f c.1 c.2:=tp_one h nc
    have g3:q_gathered [.tup [.int e,.int f],.lst [(tp e f (a,b)).pv,(tp e f (c,(0,(p2 (e - 1) - 1)*p2 f))).pv],.str z] = .ok (.tup [.int W2,.int mk2]):=g2
    rw [e1] at g3
    exact g3
  refine ⟨W,mk,W2,mk2,d1,?_,d2,?_⟩
  · show z2b [.tup [.int e,.int f],.int (a.2+a.1*p2 (e+f)),.int (b.2+b.1*p2 (e+f)),.str z]=_
    generalize (prodT (tmU e f a.1 a.2) (tmU e f b.1 b.2)).pv=T at *
    generalize a.2+a.1*p2 (e+f)=x1 at *
    generalize b.2+b.1*p2 (e+f)=x2 at *
    dsimp! [z2b,z5z,pr,a1,g1']
  · show z29 [.tup [.int e,.int f],.int (a.2+a.1*p2 (e+f)),.int (b.2+b.1*p2 (e+f)),.int (c.2+c.1*p2 (e+f)),.str z]=_
    generalize (prodT (tmU e f a.1 a.2) (tmU e f b.1 b.2)).pv=T at *
    generalize (tmU e f c.1 c.2).pv=T3 at *
    generalize a.2+a.1*p2 (e+f)=x1 at *
    generalize b.2+b.1*p2 (e+f)=x2 at *
    generalize c.2+c.1*p2 (e+f)=x3 at *
    dsimp! [z29,z5l,pr,tc,a1,a3,g2']
end
theorem loop8 {e f p:Int}{z:Str}{k:Nat}{c:WP}{la lb:PV} (h:Wd e f) (w:WayK p z k) (nc:NW e f c) (al:asVal (some la) = .ok la) (bl:asVal (some lb) = .ok lb):∀ (Z:List PP) (v6 v7:Option PV),(∀ q∈Z,NW e f q.1∧NW e f q.2) →
    ∃ v6' v7',forT [6,7] z1a (Z.map (pw e f)) [some (.tup [.int e,.int f]),some la,some lb,some (wd e f c),some (.str z),some (wd e f (0,(p2 (e - 1) - 1)*p2 f)),v6,v7] = .next [some (.tup [.int e,.int f]),some la,some lb,some (wd e f c),some (.str z),some (wd e f (0,(p2 (e - 1) - 1)*p2 f)),v6',v7']
  | [],v6,v7,_=>⟨v6,v7,rfl⟩
  | q::r,v6,v7,hq=>by
    have n:=hq q List.mem_cons_self
    obtain ⟨W,mk,W2,mk2,d1,t1,d2,t2⟩:=pair_t h w n.1 n.2 nc
    obtain ⟨v6',v7',ih⟩:=loop8 h w nc al bl r (some (wd e f q.1)) (some (wd e f q.2)) fun y hy=>hq y (List.mem_cons_of_mem _ hy)
    refine ⟨v6',v7',?_⟩
    rw [List.map_cons]
    have aw:∀ x:WP,asVal (some (wd e f x)) = .ok (wd e f x):=fun _=>rfl
    have st:z1a [some (.tup [.int e,.int f]),some la,some lb,some (wd e f c),some (.str z),some (wd e f (0,(p2 (e - 1) - 1)*p2 f)),some (wd e f q.1),some (wd e f q.2)] = .next [some (.tup [.int e,.int f]),some la,some lb,some (wd e f c),some (.str z),some (wd e f (0,(p2 (e - 1) - 1)*p2 f)),some (wd e f q.1),some (wd e f q.2)]:=by
      have A1:=aw q.1
      have A2:=aw q.2
      have A3:=aw c
      have A4:=aw (0,(p2 (e - 1) - 1)*p2 f)
      generalize wd e f q.1=x1 at *
      generalize wd e f q.2=x2 at *
      generalize wd e f c=x3 at *
      generalize wd e f (0,(p2 (e - 1) - 1)*p2 f)=x4 at *
      dsimp! [z1a,A1,A2,A3,A4,d1,t1,d2,t2,decide_true,Bool.and_self,Bool.not_true]
    have stp:∀ (x1 x2 x3 x4:PV) (l:List PV),forT [6,7] z1a (.tup [x1,x2]::l) [some (.tup [.int e,.int f]),some la,some lb,some x3,some (.str z),some x4,v6,v7]=match z1a [some (.tup [.int e,.int f]),some la,some lb,some x3,some (.str z),some x4,some x1,some x2] with
      | .next ρ'=>forT [6,7] z1a l ρ'
      | .cont ρ'=>forT [6,7] z1a l ρ'
      | .brk ρ'=>.next ρ'
      | o=>o:=fun x1 x2 x3 x4 l=>rfl
    have e1:pw e f q = .tup [wd e f q.1,wd e f q.2]:=rfl
    rw [e1,stp,st]
    exact ih
theorem z76 {e f p:Int}{z:Str}{k:Nat}{A B:List WP}{c:WP} (h:Wd e f) (w:WayK p z k) (hl:A.length=B.length) (hz:A.length≤100) (hA:∀ q∈A,NW e f q) (hB:∀ q∈B,NW e f q) (nc:NW e f c) :
    z2o [.tup [.int e,.int f],.lst (A.map (wd e f)),.lst (B.map (wd e f)),wd e f c,.str z] = .ok (.bl true):=by
  obtain ⟨p1,p3,p4,p5,p6,b1,b2,b3,b4,p7,p8⟩:=p2_wd h
  obtain ⟨g1,g2,g3,g4⟩:=id h
  obtain ⟨l1,l2,l3,l4⟩:=lp_bounds h
  have o1:=okShl_1 (b:=e - 1) (by omega) (by omega)
  have o2:okShl (p2 (e - 1) - 1) f:=okShl_of (n:=12) (by omega) (nb_le (by omega)) (by omega)
  have no:=(one_w h).1
  have w1:wd e f (0,(p2 (e - 1) - 1)*p2 f) = .int ((p2 (e - 1) - 1)*p2 f):=by
    show PV.int ((p2 (e - 1) - 1)*p2 f+0*p2 (e+f))=_
    congr 1;omega
  have hR:∀ q∈List.replicate A.length ((0,(p2 (e - 1) - 1)*p2 f):WP),NW e f q:=fun q hq=>by rw [(List.mem_replicate.mp hq).2];exact no
  obtain ⟨W,mk,gt,dt,_,_⟩:=dots_v (A:=A) (B:=List.replicate A.length (0,(p2 (e - 1) - 1)*p2 f)) h w (by rw [List.length_replicate]) hz hA hR
  rw [zip_one h A hA] at gt
  have tt:=K46.q_tot (by omega) (wus hA) rfl gt
  rw [List.map_replicate] at dt
  have rp:=rep_w (wd e f (0,(p2 (e - 1) - 1)*p2 f)) (n:=A.length) (by omega)
  have lenA:((A.map (wd e f)).length:Int)=A.length:=by rw [List.length_map]
  obtain ⟨A',ea,mA⟩:=cut_w (e:=e) (f:=f) A none (some 8)
  obtain ⟨B',eb,mB⟩:=cut_w (e:=e) (f:=f) B none (some 8)
  obtain ⟨v6,v7,lo⟩:=loop8 (la:=.lst (A.map (wd e f))) (lb:=.lst (B.map (wd e f))) h w nc rfl rfl (A'.zip B') none none (fun q hq=>⟨hA _ (mA _ (List.of_mem_zip hq).1),hB _ (mB _ (List.of_mem_zip hq).2)⟩)
  have zw:=zip_w (e:=e) (f:=f) A' B'
  rw [← ea,← eb] at zw
  have we:WayK 0 "even" 21:=.inl ⟨rfl,rfl,rfl⟩
  obtain ⟨W3,mk3,_,d3,_,_⟩:=dots_v (A:=A) (B:=B) h we hl hz hA hB
  have d3':dflt q_dots_v2 [.str "even"] [.tup [.int e,.int f],.lst (A.map (wd e f)),.lst (B.map (wd e f))] = .ok (.tup [.int W3,.int mk3]):=by unfold dflt;simp only [List.cons_append,List.nil_append];exact d3
  have ac:asVal (some (wd e f c)) = .ok (wd e f c):=rfl
  rw [w1] at rp dt lo
  generalize wd e f c=x3 at *
  generalize List.replicate A.length (PV.int ((p2 (e - 1) - 1)*p2 f))=lR at *
  generalize (A'.zip B').map (pw e f)=lZ at *
  generalize A.map (wd e f)=lA at *
  generalize B.map (wd e f)=lB at *
  dsimp! [z2o,z5c,List.replicate,List.set,Int.one_mul,o1,o2,lenA,rp,dt,tt,decide_true,Bool.and_self,Bool.not_true,K41.sForT_e,iZip_e,zw,lo,d3,d3']
theorem pick3 {M i:Int} (h0:0≤i) (h1:i<3):∃ v,oItem (.lst [.int M,.int (-1),.non]) (.int i) = .ok v∧NoIn 0 (M - 1) v:=by
  have:i=0∨i=1∨i=2:=by omega
  rcases this with rfl | rfl | rfl
  · exact ⟨_,rfl,isnt (by omega)⟩
  · exact ⟨_,rfl,isnt (by omega)⟩
  · exact ⟨_,rfl,noin_non _ _⟩
theorem all4 {e f:Int}:∀ L:List WP,(L.map (wd e f)).all (cmpOkN 4)=true
  | []=>rfl
  | q::r=>by rw [List.map_cons,List.all_cons,all4 r];rfl
theorem facts {e f p:Int}{z:Str}{k n:Nat}{A B:List WP}{y:PV} (h:Wd e f) (w:WayK p z k) (hl:A.length=B.length) (hz:A.length≤90) (hn:n≤A.length) (hA:∀ q∈A,NW e f q) (hB:∀ q∈B,NW e f q) (hy:NoIn 0 (p2 (1+e+f) - 1) y) :
    (∀ x:PV,z7 [.tup [.int e,.int f],.lst ((A.map (wd e f)).take n ++ [x] ++ (A.map (wd e f)).drop n),.lst (B.map (wd e f)),.str z] = .ok (.tup [.bl true,.bl false,.bl false,.bl true])) ∧
    (∀ x:PV,z7 [.tup [.int e,.int f],.lst (B.map (wd e f)),.lst ((A.map (wd e f)).take n ++ [x] ++ (A.map (wd e f)).drop n),.str (z ++ "s")] = .ok (.tup [.bl true,.bl false,.bl false,.bl true])) ∧
    z7 [.tup [.int e,.int f],.lst (A.map (wd e f) ++ [.int 0]),.lst ((B.map (wd e f)).take n ++ [y] ++ (B.map (wd e f)).drop n),.str (z ++ "s")] = .ok (.tup [.bl false,.bl true,.bl false,.bl true]) ∧
    z7 [.tup [.int e,.int f],.lst ((A.map (wd e f)).take n ++ [y] ++ (A.map (wd e f)).drop n),.lst (B.map (wd e f) ++ [.int 0]),.str z] = .ok (.tup [.bl false,.bl true,.bl false,.bl true]) ∧
    z7 [.tup [.int e,.int f],.lst (A.map (wd e f)),.lst (B.map (wd e f)),.str (z ++ "s")] = .ok (.tup [.bl false,.bl false,.bl true,.bl true]) ∧
    z7 [.tup [.int e,.int f],.lst [],.lst [],.non] = .ok (.tup [.bl false,.bl false,.bl true,.bl true]):=by
  have cw:=z8m h
  have nw:=(K46.nm_s w).2
  obtain ⟨m1,m3,_⟩:=eS_facts h
  have gx:∀ (o:PV),NoWay o→∀ l,q_gathered [.tup [.int e,.int f],.lst l,o] = .exc 3:=fun o ho l=>by
    have ao:=ho.1
    have ho2:=ho.2
    dsimp! [q_gathered,z41,List.replicate,List.set,cw,ao,ho2]
  have w0:NW e f (0,0):=⟨wu_0 h (.inl rfl),by show (0:Int)<eS e f;omega⟩
  have z0:([.int 0]:List PV)=[(0,0)].map (wd e f):=by
    show [PV.int 0]=[PV.int (0+0*p2 (e+f))]
    congr 2;omega
  have nwn:NoWay PV.non:=⟨rfl,rfl⟩
  have ll:∀ x:PV,((A.map (wd e f)).take n ++ [x] ++ (A.map (wd e f)).drop n).length=A.length+1:=fun x=>by
    rw [List.length_append,List.length_append,List.length_take,List.length_drop,List.length_map];simp;omega
  refine ⟨fun x=>?_,fun x=>?_,?_,?_,?_,?_⟩
  · exact rf (c:=5) rfl (.inl rfl) (z64 (by rw [ll,List.length_map];omega))
  · exact rf (c:=5) rfl (.inl rfl) (z64 (by rw [ll,List.length_map];omega))
  · rw [z0,← List.map_append,← List.map_take,← List.map_drop]
    exact rf (c:=2) rfl (.inr (.inl rfl)) (dots_r h (wus (K48.nw_app hA w0)) (fun q hq=>(hB q (List.mem_of_mem_take hq)).1) (by rw [List.length_append,List.length_take,List.length_drop];simp;omega) (by rw [List.length_append];simp;omega) hy rfl)
  · rw [z0,← List.map_append,← List.map_take,← List.map_drop]
    exact rf (c:=2) rfl (.inr (.inl rfl)) (dots_l h (wus (K48.nw_app hB w0)) (fun q hq=>(hA q (List.mem_of_mem_take hq)).1) (by rw [List.length_append,List.length_take,List.length_drop];simp;omega) (by rw [List.length_append];simp;omega) hy rfl)
  · exact rf (c:=3) rfl (.inr (.inr rfl)) (z3t hl (by omega) (wus hA) (wus hB) rfl (gx _ nw _))
  · have:=z3t (e:=e) (f:=f) (A:=[]) (B:=[]) (o:=.non) rfl (by simp) (fun q hq=>absurd hq List.not_mem_nil) (fun q hq=>absurd hq List.not_mem_nil) rfl (gx _ nwn _)
    exact rf (c:=3) rfl (.inr (.inr rfl)) this
theorem holds:∀ ns:List Int,ns.length≤63→(∀ x∈ns,nb x≤1048576)→q_law_v75 [.lst (ns.map PV.int)] = .ok (.bl true):=by
  intro ns hl hb
  have ec:=z54 ns 0 (by decide)
  have ec1:=z54 ns 1 (by decide)
  have ec2:=z54 ns 2 (by decide)
  have b2':nb (ns.getD (2:Int).toNat 0)≤1048576:=by
    by_cases hh:(2:Int).toNat<ns.length
    · rw [List.getD_eq_getElem?_getD,List.getElem?_eq_getElem hh];exact hb _ (List.getElem_mem hh)
    · rw [List.getD_eq_getElem?_getD,List.getElem?_eq_none (by omega)];decide
  generalize ns.getD (0:Int).toNat 0=c0 at ec
  generalize ns.getD (1:Int).toNat 0=c1 at ec1
  generalize ns.getD (2:Int).toNat 0=c2 at ec2 b2'
  obtain ⟨e,f,ew,h⟩:=z6v c0
  have wo:=z91 h
  obtain ⟨p1,p3,p4,p5,p6,b1,b2,b3,b4,p7,p8⟩:=p2_wd h
  obtain ⟨m1,m3,_⟩:=eS_facts h
  obtain ⟨g1,g2,g3,g4⟩:=id h
  have o2:=okShl_1 (b:=e) (by omega) (by omega)
  have o5:okShl (p2 e - 1) f:=okShl_of (n:=12) (by omega) (nb_le (by omega)) (by omega)
  have os:okShl 2 (e+f):=okShl_of (n:=2) (by omega) (by decide) (by omega)
  have hS:(p2 e - 1)*p2 f=eS e f:=rfl
  have oS:okMod (eS e f):=by show 0<eS e f;omega
  have mm:okMul c1 16807:=okMul_r (by decide) (by decide)
  have mm2:okMul c2 732050807568877293527446:=okMul_of (n:=200) b2' (nb_le (by decide)) (by decide)
  have t0:=Int.emod_nonneg (c2*732050807568877293527446 % 1000000000000000000000007) (show eS e f≠0 by omega)
  have t1:=Int.emod_lt_of_pos (c2*732050807568877293527446 % 1000000000000000000000007) (show 0<eS e f by omega)
  generalize hT:c2*732050807568877293527446 % 1000000000000000000000007 % eS e f=t3 at *
  have n3:NW e f (0,t3):=⟨⟨h,.inl rfl,t0,by show t3<_;omega⟩,t1⟩
  have w3:wd e f (0,t3) = .int t3:=by show PV.int (t3+0*p2 (e+f))=_;congr 1;omega
  generalize hc:c1*16807 % 999979=c at *
  obtain ⟨z,k,w⟩:=way_of_p (p:=c % 5) (Int.emod_nonneg _ (by decide)) (Int.emod_lt_of_pos _ (by decide))
  have ei:=(way_q w).2
  have ns1:=(K46.nm_s w).1
  obtain ⟨ms,em,lm,bm⟩:=K48.cut_ints ns (some 2) (some 147)
  obtain ⟨A,B,lA,lB,hA,hB,ql⟩:=z71 (ns:=ms) h (by omega) (fun x hx=>hb x (bm x hx))
  rw [← em] at ql
  have hAB:A.length=B.length:=by omega
  have a0:=Int.emod_nonneg (c / 5) (show (A.length:Int)+1≠0 by omega)
  have a1:=Int.emod_lt_of_pos (c / 5) (show 0<(A.length:Int)+1 by omega)
  have omw:okMod ((A.length:Int)+1):=by show 0<(A.length:Int)+1;omega
  generalize hat:c / 5 % ((A.length:Int)+1)=a at *
  obtain ⟨od,eo,no⟩:=pick3 (M:=2*p2 (e+f)) (Int.emod_nonneg (c / 7) (by decide)) (Int.emod_lt_of_pos (c / 7) (show (0:Int)<3 by decide))
  rw [← p6] at no
  have ao:=no.1
  obtain ⟨f1,f2,f3,f4,f5,f6⟩:=facts (n:=a.toNat) h w hAB (by omega) (by omega) hA hB no
  have f1a:=f1 (.int 0)
  have f1b:=f1 (.int (-1))
  have f2a:=f2 (.int 0)
  have f2b:=f2 (.int (-1))
  clear f1 f2
  obtain ⟨W,mk,_,d1,d2,gd⟩:=dots_v h w hAB (by omega) hA hB
  have pa:=z76 h w hAB (by omega) hA hB n3
  rw [w3] at pa
  have lenA:((A.map (wd e f)).length:Int)=A.length:=by rw [List.length_map]
  have kA1:=K46.cut_lo (l:=A.map (wd e f)) a0 (by omega)
  have kA2:=K46.cut_hi (l:=A.map (wd e f)) a0 (by omega)
  have lBm:((B.map (wd e f)).length:Int)=A.length:=by rw [List.length_map];omega
  have kB1:=K46.cut_lo (l:=B.map (wd e f)) a0 (by omega)
  have kB2:=K46.cut_hi (l:=B.map (wd e f)) a0 (by omega)
  have ltA:((A.map (wd e f)).take a.toNat).length≤64:=by rw [List.length_take,List.length_map];omega
  have ldA:((A.map (wd e f)).drop a.toNat).length≤64:=by rw [List.length_drop,List.length_map];omega
  have ltB:((B.map (wd e f)).take a.toNat).length≤64:=by rw [List.length_take,List.length_map];omega
  have ldB:((B.map (wd e f)).drop a.toNat).length≤64:=by rw [List.length_drop,List.length_map];omega
  have adA1:∀ x:PV,oAdd (.lst ((A.map (wd e f)).take a.toNat)) (.lst [x]) = .ok (.lst ((A.map (wd e f)).take a.toNat ++ [x])):=fun x=>K43.addl _ _ (by simp only [List.length_cons,List.length_nil];omega)
  have adA2:∀ x:PV,oAdd (.lst ((A.map (wd e f)).take a.toNat ++ [x])) (.lst ((A.map (wd e f)).drop a.toNat)) = .ok (.lst ((A.map (wd e f)).take a.toNat ++ [x] ++ (A.map (wd e f)).drop a.toNat)):=fun x=>K43.addl _ _ (by rw [List.length_append];simp only [List.length_cons,List.length_nil];omega)
  have adB1:oAdd (.lst ((B.map (wd e f)).take a.toNat)) (.lst [od]) = .ok (.lst ((B.map (wd e f)).take a.toNat ++ [od])):=K43.addl _ _ (by simp only [List.length_cons,List.length_nil];omega)
  have adB2:oAdd (.lst ((B.map (wd e f)).take a.toNat ++ [od])) (.lst ((B.map (wd e f)).drop a.toNat)) = .ok (.lst ((B.map (wd e f)).take a.toNat ++ [od] ++ (B.map (wd e f)).drop a.toNat)):=K43.addl _ _ (by rw [List.length_append];simp only [List.length_cons,List.length_nil];omega)
  have ad0A:oAdd (.lst (A.map (wd e f))) (.lst [.int 0]) = .ok (.lst (A.map (wd e f) ++ [.int 0])):=K43.addl _ _ (by rw [List.length_map];simp only [List.length_cons,List.length_nil];omega)
  have ad0B:oAdd (.lst (B.map (wd e f))) (.lst [.int 0]) = .ok (.lst (B.map (wd e f) ++ [.int 0])):=K43.addl _ _ (by rw [List.length_map];simp only [List.length_cons,List.length_nil];omega)
  have c4A:=all4 (e:=e) (f:=f) A
  have c4B:=all4 (e:=e) (f:=f) B
  have eqA:=(K46.all_c (e:=e) (f:=f) A).2
  have eqB:=(K46.all_c (e:=e) (f:=f) B).2
  have cA:cmpOkN 5 (.lst (A.map (wd e f)))=true:=c4A
  have cB:cmpOkN 5 (.lst (B.map (wd e f)))=true:=c4B
  have eA:eqPV (.lst (A.map (wd e f))) (.lst (A.map (wd e f)))=true:=eqA
  have eB:eqPV (.lst (B.map (wd e f))) (.lst (B.map (wd e f)))=true:=eqB
  have adA1a:=adA1 (.int 0)
  have adA1b:=adA1 (.int (-1))
  have adA1c:=adA1 od
  have adA2a:=adA2 (.int 0)
  have adA2b:=adA2 (.int (-1))
  have adA2c:=adA2 od
  have un:∀ (la lb:List PV),setAll [12,13] [.lst la,.lst lb] [some (.lst (ns.map PV.int)),some (.tup [.int e,.int f]),some (.tup [.int e,.int f]),some (.int c),some (.str z),none,none,none,none,none,none,none,none,none]=some [some (.lst (ns.map PV.int)),some (.tup [.int e,.int f]),some (.tup [.int e,.int f]),some (.int c),some (.str z),none,none,none,none,none,none,none,some (.lst la),some (.lst lb)]:=fun _ _=>rfl
  have unp:∀ (fe:FE) (x0:Option PV) (ρ0:MEnv),sUnpack [12,13] fe (x0::ρ0)=ofR (fe (x0::ρ0)) (x0::ρ0) fun v=>match v with
    | .tup l=>(match setAll [12,13] l (x0::ρ0) with | some ρ'=>.next ρ' | none=>.stuck)
    | _=>.stuck:=fun _ _ _=>rfl
  clear adA1 adA2
  generalize (A.map (wd e f)).take a.toNat ++ [PV.int 0] ++ (A.map (wd e f)).drop a.toNat=L1 at *
  generalize (A.map (wd e f)).take a.toNat ++ [PV.int (-1)] ++ (A.map (wd e f)).drop a.toNat=L2 at *
  generalize (A.map (wd e f)).take a.toNat ++ [od] ++ (A.map (wd e f)).drop a.toNat=L3 at *
  generalize (B.map (wd e f)).take a.toNat ++ [od] ++ (B.map (wd e f)).drop a.toNat=L4 at *
  generalize (A.map (wd e f)).take a.toNat ++ [PV.int 0]=L5 at *
  generalize (A.map (wd e f)).take a.toNat ++ [PV.int (-1)]=L6 at *
  generalize (A.map (wd e f)).take a.toNat ++ [od]=L7 at *
  generalize (B.map (wd e f)).take a.toNat ++ [od]=L8 at *
  generalize (A.map (wd e f)).take a.toNat=L9 at *
  generalize (A.map (wd e f)).drop a.toNat=L10 at *
  generalize (B.map (wd e f)).take a.toNat=L11 at *
  generalize (B.map (wd e f)).drop a.toNat=L12 at *
  generalize A.map (wd e f) ++ [PV.int 0]=L13 at *
  generalize B.map (wd e f) ++ [PV.int 0]=L14 at *
  generalize A.map (wd e f)=la at *
  generalize B.map (wd e f)=lb at *
  dsimp! [q_law_v75,z5p,z5q,List.replicate,List.set,ec,ew,wo,ec1,ec2,mm,mm2,hc,hT,ei,ql,unp,un,d1,d2,gd,decide_true,Bool.and_self,Bool.not_true,lenA,omw,hat,forL_cons,forL_nil,kA1,kA2,kB1,kB2,adA1a,adA1b,adA1c,adA2a,adA2b,adA2c,adB1,adB2,ad0A,ad0B,f1a,f1b,f2a,f2b,f3,f4,f5,f6,ns1,os,eo,ao,Int.one_mul,o2,o5,hS,oS,pa,cA,cB,eA,eB]
open PySem.Spec PyProof.Rows L2
noncomputable def names:List (Nat×Str):=[(0,"FloatError"),(1,"NoWidth"),(2,"NoWord"),(3,"NoWay"),(4,"NoNumber"),(5,"NoMatch"),(6,"NoText"),(7,"NoSpan"),(8,"NoName"),(9,"NoRow")]
noncomputable def wnames:List (Nat×Str):=[(20,"Way"),(21,"Even"),(22,"Away"),(23,"Inward"),(24,"Upward"),(25,"Downward")]
noncomputable def anames:List (Nat×Str):=names ++ wnames
noncomputable def top (i:Nat):Stmt:=PySem.Challenge.pw_floatforge_k47_dots.main.body.getD i (.Pass ⟨0,0,0,0⟩)
structure Tx (K:PySem.W.Frag) (mg:Str→Option Value) (cl:Nat→Addr):Prop where
  inj:∀ c d,cl c=cl d→c=d
  cls:Cls K mg cl names
  ways:Ways K mg cl wnames
  b_ValueError:mg "ValueError"=none
  b_abs:mg "abs"=none
  b_all:mg "all"=none
  b_any:mg "any"=none
  b_bool:mg "bool"=none
  b_int:mg "int"=none
  b_isinstance:mg "isinstance"=none
  b_len:mg "len"=none
  b_list:mg "list"=none
  b_max:mg "max"=none
  b_min:mg "min"=none
  b_range:mg "range"=none
  b_sum:mg "sum"=none
  b_tuple:mg "tuple"=none
  b_zip:mg "zip"=none
  c_LEAST_E:∃ t,mg "LEAST_E"=some (.int 2 t)
  c_MOST_E:∃ t,mg "MOST_E"=some (.int 11 t)
  c_LEAST_F:∃ t,mg "LEAST_F"=some (.int 1 t)
  c_MOST_F:∃ t,mg "MOST_F"=some (.int 60 t)
  c_WRONG:∃ t,mg "WRONG"=some (.int 1 t)
  c_GREAT:∃ t,mg "GREAT"=some (.int 4 t)
  c_SMALL:∃ t,mg "SMALL"=some (.int 8 t)
  c_NEAR:∃ t,mg "NEAR"=some (.int 16 t)
  c_NOUGHT:∃ u,mg "NOUGHT"=some u∧KRep K u (.tup [.int 0,.int 0])
  c_LOUD_TERM:∃ u,mg "LOUD_TERM"=some u∧KRep K u (.tup [.str "wrong",.bl false,.tup [.int 0,.int 0]])
  c_STILL_TERM:∃ u,mg "STILL_TERM"=some u∧KRep K u (.tup [.str "none",.bl false,.tup [.int 0,.int 0]])
section
variable {P:Program}{w:World}{K:PySem.W.Frag}{mg:Str→Option Value}{base:Heap}{cl:Nat→Addr}
theorem z7i:FnScope ["self","odd","side","below"] ["self","odd","side","below"] (defScope (inClass (top 53) 0)):=⟨rfl,rfl,rfl,by decide +kernel,rfl,by decide +kernel,by decide +kernel⟩
theorem z4v {f:Addr}{fd:FuncData} (T:Tx K mg cl) (D:MethAt K cl 21 "grows" "Even.grows" (inClass (top 53) 0) f fd):MG P w K mg base cl 1 21 "grows" 3 z50 :=
  D.mgp (N:=["self","odd","side","below"]) (k:=0) (T.ways.cls 21 "Even" (at_mem 1 rfl)).cls z7i rfl (fun _ _ _ _ _ _=>Mi.ln4 fun _ _ _ _=>rfl) fun cdv A outer s H E hr =>
    mss_one (ms_ret (me_or (me_cmp (r_eq (hu64 hr)) (mv 2) (me_int) (nomark _)) (me_one (me_and (me_cmp (r_eq (hu64 hr)) (mv 2) (me_int) (nomark _)) (me_one (mv 1))))))
theorem z7g:FnScope ["self","odd","side","below"] ["self","odd","side","below"] (defScope (inClass (top 54) 0)):=⟨rfl,rfl,rfl,by decide +kernel,rfl,by decide +kernel,by decide +kernel⟩
theorem z4t {f:Addr}{fd:FuncData} (T:Tx K mg cl) (D:MethAt K cl 22 "grows" "Away.grows" (inClass (top 54) 0) f fd):MG P w K mg base cl 1 22 "grows" 3 z4y :=
  D.mgp (N:=["self","odd","side","below"]) (k:=0) (T.ways.cls 22 "Away" (at_mem 2 rfl)).cls z7g rfl (fun _ _ _ _ _ _=>Mi.ln4 fun _ _ _ _=>rfl) fun cdv A outer s H E hr =>
    mss_one (ms_ret (me_cmp r_ge (mv 2) (me_int) (nomark _)))
theorem z7j:FnScope ["self","odd","side","below"] ["self","odd","side","below"] (defScope (inClass (top 55) 0)):=⟨rfl,rfl,rfl,by decide +kernel,rfl,by decide +kernel,by decide +kernel⟩
theorem z4w {f:Addr}{fd:FuncData} (T:Tx K mg cl) (D:MethAt K cl 23 "grows" "Inward.grows" (inClass (top 55) 0) f fd):MG P w K mg base cl 1 23 "grows" 3 z51 :=
  D.mgp (N:=["self","odd","side","below"]) (k:=0) (T.ways.cls 23 "Inward" (at_mem 3 rfl)).cls z7j rfl (fun _ _ _ _ _ _=>Mi.ln4 fun _ _ _ _=>rfl) fun cdv A outer s H E hr =>
    mss_one (ms_ret (me_bl))
theorem z7o:FnScope ["self","odd","side","below"] ["self","odd","side","below"] (defScope (inClass (top 56) 0)):=⟨rfl,rfl,rfl,by decide +kernel,rfl,by decide +kernel,by decide +kernel⟩
theorem z4x {f:Addr}{fd:FuncData} (T:Tx K mg cl) (D:MethAt K cl 24 "grows" "Upward.grows" (inClass (top 56) 0) f fd):MG P w K mg base cl 1 24 "grows" 3 z53 :=
  D.mgp (N:=["self","odd","side","below"]) (k:=0) (T.ways.cls 24 "Upward" (at_mem 4 rfl)).cls z7o rfl (fun _ _ _ _ _ _=>Mi.ln4 fun _ _ _ _=>rfl) fun cdv A outer s H E hr =>
    mss_one (ms_ret (me_not (mv 3)))
theorem z7h:FnScope ["self","odd","side","below"] ["self","odd","side","below"] (defScope (inClass (top 57) 0)):=⟨rfl,rfl,rfl,by decide +kernel,rfl,by decide +kernel,by decide +kernel⟩
theorem z4u {f:Addr}{fd:FuncData} (T:Tx K mg cl) (D:MethAt K cl 25 "grows" "Downward.grows" (inClass (top 57) 0) f fd):MG P w K mg base cl 1 25 "grows" 3 z4z :=
  D.mgp (N:=["self","odd","side","below"]) (k:=0) (T.ways.cls 25 "Downward" (at_mem 5 rfl)).cls z7h rfl (fun _ _ _ _ _ _=>Mi.ln4 fun _ _ _ _=>rfl) fun cdv A outer s H E hr =>
    mss_one (ms_ret (mv 3))
theorem z80:FnScope ["value"] ["value"] (defScope (top 16)):=⟨rfl,rfl,rfl,by decide +kernel,rfl,by decide +kernel,by decide +kernel⟩
theorem z3f {f:Addr}{fd:FuncData} (T:Tx K mg cl) (D:DefAt K mg "is_whole" (top 16) f fd):FG P w K mg base cl 1 "is_whole" 1 z1u :=
  D.fg (N:=["value"]) (k:=0) z80 rfl (fun _ _ _ _ _ _=>Mi.ln1 fun _=>rfl) fun cdv A outer s H E hr =>
    mss_one (ms_ret (me_and (me_isinst .int (mv 0) (by rfl) T.b_isinstance (by rfl) T.b_int) (me_one (me_not (me_isinst .bool (mv 0) (by rfl) T.b_isinstance (by rfl) T.b_bool)))))
theorem z7p:FnScope ["count"] ["count"] (defScope (top 24)):=⟨rfl,rfl,rfl,by decide +kernel,rfl,by decide +kernel,by decide +kernel⟩
theorem z5 {f:Addr}{fd:FuncData} (T:Tx K mg cl) (D:DefAt K mg "all_ones" (top 24) f fd):FG P w K mg base cl 1 "all_ones" 1 ze :=
  D.fg (N:=["count"]) (k:=0) z7p rfl (fun _ _ _ _ _ _=>Mi.ln1 fun _=>rfl) fun cdv A outer s H E hr =>
    mss_one (ms_ret (me_bin r_sub (me_bin r_shl (me_int) (mv 0)) (me_int)))
theorem z7y:FnScope ["width"] ["width"] (defScope (top 32)):=⟨rfl,rfl,rfl,by decide +kernel,rfl,by decide +kernel,by decide +kernel⟩
theorem z1h {f:Addr}{fd:FuncData} (T:Tx K mg cl) (D:DefAt K mg "highest_of_fraction" (top 32) f fd):FG P w K mg base cl 1 "highest_of_fraction" 1 z1t :=
  D.fg (N:=["width"]) (k:=0) z7y rfl (fun _ _ _ _ _ _=>Mi.ln1 fun _=>rfl) fun cdv A outer s H E hr =>
    mss_one (ms_ret (me_bin r_shl (me_int) (me_bin r_sub (me_item (mv 0) (me_int)) (me_int))))
theorem z88:FnScope ["width"] ["width"] (defScope (top 33)):=⟨rfl,rfl,rfl,by decide +kernel,rfl,by decide +kernel,by decide +kernel⟩
theorem z1k {f:Addr}{fd:FuncData} (T:Tx K mg cl) (D:DefAt K mg "sign_bit" (top 33) f fd):FG P w K mg base cl 1 "sign_bit" 1 z1z :=
  D.fg (N:=["width"]) (k:=0) z88 rfl (fun _ _ _ _ _ _=>Mi.ln1 fun _=>rfl) fun cdv A outer s H E hr =>
    mss_one (ms_ret (me_bin r_shl (me_int) (me_bin r_add (me_item (mv 0) (me_int)) (me_item (mv 0) (me_int)))))
theorem z6i:FnScope ["n","k","spare"] ["n","k"] (defScope (top 38)):=⟨rfl,rfl,rfl,by decide +kernel,rfl,by decide +kernel,by decide +kernel⟩
theorem zr {f:Addr}{fd:FuncData} (T:Tx K mg cl) (D:DefAt K mg "exact" (top 38) f fd):FG P w K mg base cl 1 "exact" 2 z8 :=
  D.fg (N:=["n","k","spare"]) (k:=0) z6i rfl (fun _ _ _ _ _ _=>Mi.ln2 fun _ _=>rfl) fun cdv A outer s H E hr =>
    mss_cons (ms_if (mt_cmp (r_eq (hu64 hr)) (mv 0) (me_int) (nomark _)) (mss_one (ms_ret (me_tup (ma_cons (me_int) (ma_cons (me_int) (ma_nil)))))) (mss_nil)) (mss_cons (ms_set (i:=2) z6i.nd rfl (Or.inl rfl) (me_bin r_sub (me_bitlen (me_bin r_and (mv 0) (me_una r_neg (mv 0)))) (me_int))) (mss_one (ms_ret (me_tup (ma_cons (me_bin r_shr (mv 0) (mv 2)) (ma_cons (me_bin r_add (mv 1) (mv 2)) (ma_nil)))))))
theorem z8a:FnScope ["number","power"] ["number","power"] (defScope (top 39)):=⟨rfl,rfl,rfl,by decide +kernel,rfl,by decide +kernel,by decide +kernel⟩
theorem z2m {f:Addr}{fd:FuncData} (T:Tx K mg cl) (D:DefAt K mg "steps_of" (top 39) f fd):FG P w K mg base cl 1 "steps_of" 2 z2v :=
  D.fg (N:=["number","power"]) (k:=0) z8a rfl (fun _ _ _ _ _ _=>Mi.ln2 fun _ _=>rfl) fun cdv A outer s H E hr =>
    mss_one (ms_ret (me_bin r_shl (me_item (mv 0) (me_int)) (me_bin r_sub (me_item (mv 0) (me_int)) (mv 1))))
theorem z7q:FnScope ["n","k","d"] ["n","k","d"] (defScope (top 48)):=⟨rfl,rfl,rfl,by decide +kernel,rfl,by decide +kernel,by decide +kernel⟩
theorem z1e {f:Addr}{fd:FuncData} (T:Tx K mg cl) (D:DefAt K mg "as_quotient" (top 48) f fd):FG P w K mg base cl 1 "as_quotient" 3 z15 :=
  D.fg (N:=["n","k","d"]) (k:=0) z7q rfl (fun _ _ _ _ _ _=>Mi.ln3 fun _ _ _=>rfl) fun cdv A outer s H E hr =>
    mss_one (ms_ret (me_if (mt_cmp r_ge (mv 1) (me_int) (nomark _)) (me_tup (ma_cons (me_bin r_shl (mv 0) (mv 1)) (ma_cons (mv 2) (ma_nil)))) (me_tup (ma_cons (mv 0) (ma_cons (me_bin r_shl (mv 2) (me_una r_neg (mv 1))) (ma_nil))))))
theorem z8e:FnScope ["name"] ["name"] (defScope (top 58)):=⟨rfl,rfl,rfl,by decide +kernel,rfl,by decide +kernel,by decide +kernel⟩
theorem z1m {f:Addr}{fd:FuncData} (T:Tx K mg cl) (D:DefAt K mg "way_of" (top 58) f fd):FG P w K mg base cl 1 "way_of" 1 z21 :=
  D.fg (N:=["name"]) (k:=0) z8e rfl (fun _ _ _ _ _ _=>Mi.ln1 fun _=>rfl) fun cdv A outer s H E hr =>
    mss_cons (ms_if (mt_cmp (r_eq (hu64 hr)) (mv 0) (me_str) (nomark _)) (mss_one (ms_ret (mk0 T.ways (at_mem 1 rfl)))) (mss_nil)) (mss_cons (ms_if (mt_cmp (r_eq (hu64 hr)) (mv 0) (me_str) (nomark _)) (mss_one (ms_ret (mk0 T.ways (at_mem 2 rfl)))) (mss_nil)) (mss_cons (ms_if (mt_cmp (r_eq (hu64 hr)) (mv 0) (me_str) (nomark _)) (mss_one (ms_ret (mk0 T.ways (at_mem 3 rfl)))) (mss_nil)) (mss_cons (ms_if (mt_cmp (r_eq (hu64 hr)) (mv 0) (me_str) (nomark _)) (mss_one (ms_ret (mk0 T.ways (at_mem 4 rfl)))) (mss_nil)) (mss_cons (ms_if (mt_cmp (r_eq (hu64 hr)) (mv 0) (me_str) (nomark _)) (mss_one (ms_ret (mk0 T.ways (at_mem 5 rfl)))) (mss_nil)) (mss_one (ms_raise (c:=3) (T.cls.cls 3 "NoWay" (at_mem 3 rfl)) own_cx (by rfl) hr.hd (mv_str 40)))))))
theorem z7z:FnScope ["term"] ["term"] (defScope (top 70)):=⟨rfl,rfl,rfl,by decide +kernel,rfl,by decide +kernel,by decide +kernel⟩
theorem z12 {f:Addr}{fd:FuncData} (T:Tx K mg cl) (D:DefAt K mg "is_nought" (top 70) f fd):FG P w K mg base cl 1 "is_nought" 1 zg :=
  D.fg (N:=["term"]) (k:=0) z7z rfl (fun _ _ _ _ _ _=>Mi.ln1 fun _=>rfl) fun cdv A outer s H E hr =>
    mss_one (ms_ret (me_and (me_cmp (r_eq (hu64 hr)) (me_item (mv 0) (me_int)) (me_str) (nomark _)) (me_one (me_cmp (r_eq (hu64 hr)) (me_item (mv 0) (me_int)) (me_globK (by rfl) T.c_NOUGHT) (nomark _)))))
theorem z7k:FnScope ["_law_script","_law_k"] ["_law_script","_law_k"] (defScope (top 83)):=⟨rfl,rfl,rfl,by decide +kernel,rfl,by decide +kernel,by decide +kernel⟩
theorem z25 {f:Addr}{fd:FuncData} (T:Tx K mg cl) (D:DefAt K mg "_law_cell_at" (top 83) f fd):FG P w K mg base cl 1 "_law_cell_at" 2 z14 :=
  D.fg (N:=["_law_script","_law_k"]) (k:=0) z7k rfl (fun _ _ _ _ _ _=>Mi.ln2 fun _ _=>rfl) fun cdv A outer s H E hr =>
    mss_cons (ms_if (mt_cmp r_lt (mv 1) (me_callB c_len (by rfl) T.b_len PySem.boot_len (ma_cons (mv 0) (ma_nil))) (nomark _)) (mss_one (ms_ret (me_item (mv 0) (mv 1)))) (mss_nil)) (mss_one (ms_ret (me_int)))
theorem z7n:FnScope ["_law_found"] ["_law_found"] (defScope (top 84)):=⟨rfl,rfl,rfl,by decide +kernel,rfl,by decide +kernel,by decide +kernel⟩
theorem z2l {f:Addr}{fd:FuncData} (T:Tx K mg cl) (D:DefAt K mg "_law_whole" (top 84) f fd):FG P w K mg base cl 1 "_law_whole" 1 z27 :=
  D.fg (N:=["_law_found"]) (k:=0) z7n rfl (fun _ _ _ _ _ _=>Mi.ln1 fun _=>rfl) fun cdv A outer s H E hr =>
    mss_one (ms_ret (me_and (me_isinst .int (mv 0) (by rfl) T.b_isinstance (by rfl) T.b_int) (me_one (me_not (me_isinst .bool (mv 0) (by rfl) T.b_isinstance (by rfl) T.b_bool)))))
theorem z6f:FnScope ["_law_cell","_law_mixed"] ["_law_cell"] (defScope (top 85)):=⟨rfl,rfl,rfl,by decide +kernel,rfl,by decide +kernel,by decide +kernel⟩
theorem z38 {f:Addr}{fd:FuncData} (T:Tx K mg cl) (D:DefAt K mg "_law_wide" (top 85) f fd):FG P w K mg base cl 1 "_law_wide" 1 z28 :=
  D.fg (N:=["_law_cell","_law_mixed"]) (k:=0) z6f rfl (fun _ _ _ _ _ _=>Mi.ln1 fun _=>rfl) fun cdv A outer s H E hr =>
    mss_cons (ms_set (i:=1) z6f.nd rfl (Or.inl rfl) (me_bin r_mod (me_bin r_mul (mv 0) (me_int)) (me_int))) (mss_cons (ms_if (mt_cmp (r_eq (hu64 hr)) (me_bin r_mod (mv 1) (me_int)) (me_int) (nomark _)) (mss_one (ms_ret (me_tup (ma_cons (me_bin r_add (me_int) (me_bin r_mod (me_bin r_div (mv 1) (me_int)) (me_int))) (ma_cons (me_bin r_add (me_int) (me_bin r_mod (me_bin r_div (mv 1) (me_int)) (me_int))) (ma_nil)))))) (mss_nil)) (mss_one (ms_ret (me_tup (ma_cons (me_bin r_add (me_int) (me_bin r_mod (me_bin r_div (mv 1) (me_int)) (me_int))) (ma_cons (me_bin r_add (me_int) (me_bin r_mod (me_bin r_div (mv 1) (me_int)) (me_int))) (ma_nil)))))))
theorem z18:FnScope ["_law_wide_here","_law_mixed","_law_before","_law_half","_law_last","_law_some","_law_pick","_law_high","_law_size"] ["_law_wide_here","_law_mixed","_law_before"] (defScope (top 86)):=⟨rfl,rfl,rfl,by decide +kernel,rfl,by decide +kernel,by decide +kernel⟩
theorem z2j {f:Addr}{fd:FuncData} (T:Tx K mg cl) (D:DefAt K mg "_law_number" (top 86) f fd):FG P w K mg base cl 1 "_law_number" 3 zx :=
  D.fg (N:=["_law_wide_here","_law_mixed","_law_before","_law_half","_law_last","_law_some","_law_pick","_law_high","_law_size"]) (k:=0) z18 rfl (fun _ _ _ _ _ _=>Mi.ln3 fun _ _ _=>rfl) fun cdv A outer s H E hr =>
    mss_cons (ms_set (i:=3) z18.nd rfl (Or.inl rfl) (me_bin r_shl (me_int) (me_bin r_add (me_item (mv 0) (me_int)) (me_item (mv 0) (me_int))))) (mss_cons (ms_set (i:=4) z18.nd rfl (Or.inl rfl) (me_bin r_shl (me_bin r_sub (me_bin r_shl (me_int) (me_item (mv 0) (me_int))) (me_int)) (me_item (mv 0) (me_int)))) (mss_cons (ms_set (i:=5) z18.nd rfl (Or.inl rfl) (me_lst (ma_cons (me_int) (ma_cons (me_int) (ma_cons (me_bin r_sub (me_bin r_shl (me_int) (me_item (mv 0) (me_int))) (me_int)) (ma_cons (me_bin r_shl (me_int) (me_item (mv 0) (me_int))) (ma_cons (me_bin r_sub (mv 4) (me_int)) (ma_nil)))))))) (mss_cons (ms_set (i:=6) z18.nd rfl (Or.inl rfl) (me_bin r_mod (me_bin r_div (mv 1) (me_bin r_mul (me_int) (mv 3))) (me_int))) (mss_cons (ms_if (mt_cmp r_lt (mv 6) (me_int) (nomark _)) (mss_one (ms_ret (me_bin r_add (me_item (mv 5) (mv 6)) (me_bin r_mul (me_bin r_mod (mv 1) (me_int)) (mv 3))))) (mss_nil)) (mss_cons (ms_if (mt_cmp r_lt (mv 6) (me_int) (nomark _)) (mss_one (ms_ret (mv 2))) (mss_nil)) (mss_cons (ms_if (mt_cmp r_lt (mv 6) (me_int) (nomark _)) (mss_cons (ms_set (i:=7) z18.nd rfl (Or.inl rfl) (me_bin r_sub (me_bin r_sub (me_bin r_shl (me_int) (me_bin r_sub (me_item (mv 0) (me_int)) (me_int))) (me_int)) (me_bin r_div (me_bin r_add (me_item (mv 0) (me_int)) (me_int)) (me_int)))) (mss_cons (ms_set (i:=7) z18.nd rfl (Or.inl rfl) (me_bin r_add (mv 7) (me_bin r_mod (me_bin r_div (mv 1) (me_int)) (me_bin r_add (me_item (mv 0) (me_int)) (me_int))))) (mss_cons (ms_set (i:=7) z18.nd rfl (Or.inl rfl) (me_callB (c_min rfl) (by rfl) T.b_min boot_min (ma_cons (me_callB (c_max rfl) (by rfl) T.b_max boot_max (ma_cons (mv 7) (ma_cons (me_int) (ma_nil)))) (ma_cons (me_bin r_sub (me_bin r_shl (me_int) (me_item (mv 0) (me_int))) (me_int)) (ma_nil))))) (mss_cons (ms_set (i:=8) z18.nd rfl (Or.inl rfl) (me_bin r_add (me_bin r_shl (mv 7) (me_item (mv 0) (me_int))) (me_bin r_mod (me_bin r_div (mv 1) (me_int)) (me_bin r_shl (me_int) (me_item (mv 0) (me_int)))))) (mss_one (ms_ret (me_bin r_add (mv 8) (me_bin r_mul (me_bin r_mod (mv 1) (me_int)) (mv 3))))))))) (mss_nil)) (mss_one (ms_ret (me_bin r_add (me_bin r_mod (me_bin r_div (mv 1) (me_int)) (mv 4)) (me_bin r_mul (me_bin r_mod (mv 1) (me_int)) (mv 3)))))))))))
theorem z7m:FnScope ["_law_wide_here","_law_size"] ["_law_wide_here","_law_size"] (defScope (top 88)):=⟨rfl,rfl,rfl,by decide +kernel,rfl,by decide +kernel,by decide +kernel⟩
theorem zj {f:Addr}{fd:FuncData} (T:Tx K mg cl) (D:DefAt K mg "_law_steps" (top 88) f fd):FG P w K mg base cl 1 "_law_steps" 2 zu :=
  D.fg (N:=["_law_wide_here","_law_size"]) (k:=0) z7m rfl (fun _ _ _ _ _ _=>Mi.ln2 fun _ _=>rfl) fun cdv A outer s H E hr =>
    mss_cons (ms_if (mt_cmp r_lt (mv 1) (me_bin r_shl (me_int) (me_item (mv 0) (me_int))) (nomark _)) (mss_one (ms_ret (mv 1))) (mss_nil)) (mss_one (ms_ret (me_bin r_shl (me_bin r_add (me_bin r_mod (mv 1) (me_bin r_shl (me_int) (me_item (mv 0) (me_int)))) (me_bin r_shl (me_int) (me_item (mv 0) (me_int)))) (me_bin r_sub (me_bin r_shr (mv 1) (me_item (mv 0) (me_int))) (me_int)))))
theorem z7l:FnScope ["_law_name","_law_odd","_law_left","_law_right_here","_law_under"] ["_law_name","_law_odd","_law_left","_law_right_here","_law_under"] (defScope (top 90)):=⟨rfl,rfl,rfl,by decide +kernel,rfl,by decide +kernel,by decide +kernel⟩
theorem z2i {f:Addr}{fd:FuncData} (T:Tx K mg cl) (D:DefAt K mg "_law_grown" (top 90) f fd):FG P w K mg base cl 1 "_law_grown" 5 zh :=
  D.fg (N:=["_law_name","_law_odd","_law_left","_law_right_here","_law_under"]) (k:=0) z7l rfl (fun _ _ _ _ _ _=>Mi.ln5 fun _ _ _ _ _=>rfl) fun cdv A outer s H E hr =>
    mss_cons (ms_if (mt_cmp (r_eq (hu64 hr)) (mv 0) (me_str) (nomark _)) (mss_one (ms_ret (me_or (me_cmp r_gt (mv 2) (mv 3) (nomark _)) (me_one (me_and (me_cmp (r_eq (hu64 hr)) (mv 2) (mv 3) (nomark _)) (me_one (mv 1))))))) (mss_nil)) (mss_cons (ms_if (mt_cmp (r_eq (hu64 hr)) (mv 0) (me_str) (nomark _)) (mss_one (ms_ret (me_cmp r_ge (mv 2) (mv 3) (nomark _)))) (mss_nil)) (mss_cons (ms_if (mt_cmp (r_eq (hu64 hr)) (mv 0) (me_str) (nomark _)) (mss_one (ms_ret (me_bl))) (mss_nil)) (mss_one (ms_ret (me_cmp (r_eq (hu64 hr)) (mv 4) (me_cmp (r_eq (hu64 hr)) (mv 0) (me_str) (nomark _)) (nomark _))))))
theorem z81:FnScope ["value","low","high"] ["value","low","high"] (defScope (top 17)):=⟨rfl,rfl,rfl,by decide +kernel,rfl,by decide +kernel,by decide +kernel⟩
theorem zk {f:Addr}{fd:FuncData} (T:Tx K mg cl) (D:DefAt K mg "is_within" (top 17) f fd) (z3f:FG P w K mg base cl 1 "is_whole" 1 z1u):FG P w K mg base cl 2 "is_within" 3 zb :=
  D.fg (N:=["value","low","high"]) (k:=1) z81 rfl (fun _ _ _ _ _ _=>Mi.ln3 fun _ _ _=>rfl) fun cdv A outer s H E hr =>
    mss_one (ms_ret (me_and (mc z3f hr T.inj (ma_cons (mv 0) (ma_nil))) (me_one (me_chain r_le r_le (mv 1) (mv 0) (mv 2)))))
theorem z6g:FnScope ["one","other","power"] ["one","other"] (defScope (top 40)):=⟨rfl,rfl,rfl,by decide +kernel,rfl,by decide +kernel,by decide +kernel⟩
theorem z39 {f:Addr}{fd:FuncData} (T:Tx K mg cl) (D:DefAt K mg "added" (top 40) f fd) (zr:FG P w K mg base cl 1 "exact" 2 z8) (z2m:FG P w K mg base cl 1 "steps_of" 2 z2v):FG P w K mg base cl 2 "added" 2 z1o :=
  D.fg (N:=["one","other","power"]) (k:=1) z6g rfl (fun _ _ _ _ _ _=>Mi.ln2 fun _ _=>rfl) fun cdv A outer s H E hr =>
    mss_cons (ms_set (i:=2) z6g.nd rfl (Or.inl rfl) (me_callB (c_min rfl) (by rfl) T.b_min boot_min (ma_cons (me_item (mv 0) (me_int)) (ma_cons (me_item (mv 1) (me_int)) (ma_nil))))) (mss_one (ms_ret (mc zr hr T.inj (ma_cons (me_bin r_add (mc z2m hr T.inj (ma_cons (mv 0) (ma_cons (mv 2) (ma_nil)))) (mc z2m hr T.inj (ma_cons (mv 1) (ma_cons (mv 2) (ma_nil))))) (ma_cons (mv 2) (ma_nil))))))
theorem z86:FnScope ["one","other"] ["one","other"] (defScope (top 41)):=⟨rfl,rfl,rfl,by decide +kernel,rfl,by decide +kernel,by decide +kernel⟩
theorem z3i {f:Addr}{fd:FuncData} (T:Tx K mg cl) (D:DefAt K mg "multiplied" (top 41) f fd) (zr:FG P w K mg base cl 1 "exact" 2 z8):FG P w K mg base cl 2 "multiplied" 2 z1x :=
  D.fg (N:=["one","other"]) (k:=1) z86 rfl (fun _ _ _ _ _ _=>Mi.ln2 fun _ _=>rfl) fun cdv A outer s H E hr =>
    mss_one (ms_ret (mc zr hr T.inj (ma_cons (me_bin r_mul (me_item (mv 0) (me_int)) (me_item (mv 1) (me_int))) (ma_cons (me_bin r_add (me_item (mv 0) (me_int)) (me_item (mv 1) (me_int))) (ma_nil)))))
theorem z3w:FnScope ["n","k","d","size","height","parts"] ["n","k","d"] (defScope (top 49)):=⟨rfl,rfl,rfl,by decide +kernel,rfl,by decide +kernel,by decide +kernel⟩
theorem z3c {f:Addr}{fd:FuncData} (T:Tx K mg cl) (D:DefAt K mg "height_of" (top 49) f fd) (z1e:FG P w K mg base cl 1 "as_quotient" 3 z15):FG P w K mg base cl 2 "height_of" 3 z1s :=
  D.fg (N:=["n","k","d","size","height","parts"]) (k:=1) z3w rfl (fun _ _ _ _ _ _=>Mi.ln3 fun _ _ _=>rfl) fun cdv A outer s H E hr =>
    mss_cons (ms_if (mt_cmp (r_eq (hu64 hr)) (mv 0) (me_int) (nomark _)) (mss_one (ms_raise (c:=4) (T.cls.cls 4 "NoNumber" (at_mem 4 rfl)) own_cx (by rfl) hr.hd (mv_str 20))) (mss_nil)) (mss_cons (ms_set (i:=3) z3w.nd rfl (Or.inl rfl) (me_callB c_abs (by rfl) T.b_abs boot_abs (ma_cons (mv 0) (ma_nil)))) (mss_cons (ms_set (i:=4) z3w.nd rfl (Or.inl rfl) (me_bin r_sub (me_bitlen (mv 3)) (me_bitlen (mv 2)))) (mss_cons (ms_set (i:=5) z3w.nd rfl (Or.inl rfl) (mc z1e hr T.inj (ma_cons (mv 3) (ma_cons (me_una r_neg (mv 4)) (ma_cons (mv 2) (ma_nil)))))) (mss_cons (ms_if (mt_cmp r_lt (me_item (mv 5) (me_int)) (me_item (mv 5) (me_int)) (nomark _)) (mss_one (ms_set (i:=4) z3w.nd rfl (Or.inl rfl) (me_bin r_sub (mv 4) (me_int)))) (mss_nil)) (mss_one (ms_ret (me_bin r_add (mv 4) (mv 1))))))))
theorem z4e:FnScope ["n","k","d","g","parts","m","twice_the_rest"] ["n","k","d","g"] (defScope (top 50)):=⟨rfl,rfl,rfl,by decide +kernel,rfl,by decide +kernel,by decide +kernel⟩
theorem z3d {f:Addr}{fd:FuncData} (T:Tx K mg cl) (D:DefAt K mg "in_steps" (top 50) f fd) (z1e:FG P w K mg base cl 1 "as_quotient" 3 z15):FG P w K mg base cl 2 "in_steps" 4 zy :=
  D.fg (N:=["n","k","d","g","parts","m","twice_the_rest"]) (k:=1) z4e rfl (fun _ _ _ _ _ _=>Mi.ln4 fun _ _ _ _=>rfl) fun cdv A outer s H E hr =>
    mss_cons (ms_set (i:=4) z4e.nd rfl (Or.inl rfl) (mc z1e hr T.inj (ma_cons (me_callB c_abs (by rfl) T.b_abs boot_abs (ma_cons (mv 0) (ma_nil))) (ma_cons (me_bin r_sub (mv 1) (mv 3)) (ma_cons (mv 2) (ma_nil)))))) (mss_cons (ms_set (i:=5) z4e.nd rfl (Or.inl rfl) (me_bin r_div (me_item (mv 4) (me_int)) (me_item (mv 4) (me_int)))) (mss_cons (ms_set (i:=6) z4e.nd rfl (Or.inl rfl) (me_bin r_mul (me_int) (me_bin r_sub (me_item (mv 4) (me_int)) (me_bin r_mul (mv 5) (me_item (mv 4) (me_int)))))) (mss_cons (ms_if (mt_cmp (r_eq (hu64 hr)) (mv 6) (me_int) (nomark _)) (mss_one (ms_ret (me_tup (ma_cons (mv 5) (ma_cons (me_int) (ma_nil)))))) (mss_nil)) (mss_cons (ms_if (mt_cmp r_lt (mv 6) (me_item (mv 4) (me_int)) (nomark _)) (mss_one (ms_ret (me_tup (ma_cons (mv 5) (ma_cons (me_int) (ma_nil)))))) (mss_nil)) (mss_one (ms_ret (me_tup (ma_cons (mv 5) (ma_cons (me_if (mt_cmp (r_eq (hu64 hr)) (mv 6) (me_item (mv 4) (me_int)) (nomark _)) (me_int) (me_int)) (ma_nil))))))))))
theorem z6k:FnScope ["chosen","place","below","grown"] ["chosen","place","below"] (defScope (top 62)):=⟨rfl,rfl,rfl,by decide +kernel,rfl,by decide +kernel,by decide +kernel⟩
theorem z3l {f:Addr}{fd:FuncData} (T:Tx K mg cl) (D:DefAt K mg "steps_taken" (top 62) f fd) (m_grows:FM P w K mg base cl 1 "grows" 3 z2g):FG P w K mg base cl 2 "steps_taken" 3 z2a :=
  D.fg (N:=["chosen","place","below","grown"]) (k:=1) z6k rfl (fun _ _ _ _ _ _=>Mi.ln3 fun _ _ _=>rfl) fun cdv A outer s H E hr =>
    mss_cons (ms_set (i:=3) z6k.nd rfl (Or.inl rfl) (me_and (me_cmp (r_ne (hu64 hr)) (me_item (mv 1) (me_int)) (me_int) (nomark _)) (me_one (mm m_grows hr T.inj (mv 0) (ma_cons (me_cmp (r_eq (hu64 hr)) (me_bin r_mod (me_item (mv 1) (me_int)) (me_int)) (me_int) (nomark _)) (ma_cons (me_item (mv 1) (me_int)) (ma_cons (mv 2) (ma_nil)))))))) (mss_one (ms_ret (me_if (mt_val (mv 3)) (me_bin r_add (me_item (mv 1) (me_int)) (me_int)) (me_item (mv 1) (me_int)))))
theorem z59:FnScope ["terms","way","signs"] ["terms","way"] (defScope (top 76)):=⟨rfl,rfl,rfl,by decide +kernel,rfl,by decide +kernel,by decide +kernel⟩
theorem z3e {f:Addr}{fd:FuncData} (T:Tx K mg cl) (D:DefAt K mg "is_nought_below" (top 76) f fd) (z12:FG P w K mg base cl 1 "is_nought" 1 zg):FG P w K mg base cl 2 "is_nought_below" 2 z2q :=
  D.fg (N:=["terms","way","signs"]) (k:=1) z59 rfl (fun _ _ _ _ _ _=>Mi.ln2 fun _ _=>rfl) fun cdv A outer s H E hr =>
    mss_cons (msC (i:=2) z59.nd rfl (Or.inl rfl) (by decide +kernel) rfl (mi_seq (mv 0)) (fun _ _ _ _=>MC.nil) (fun _ _ _ _=>me_item (mv 3) (me_int))) (mss_cons (ms_if (mt_val (me_callB (c_all rfl) (by rfl) T.b_all boot_all (ma_cons (mcomp z59.nd (by decide +kernel) rfl (mi_seq (mv 0)) (fun _ _ _ _=>MC.nil) (fun _ _ _ _=>mcN z12 hr (ma_cons (mv 3) (ma_nil)))) (ma_nil)))) (mss_cons (ms_if (mt_not (mt_val (me_callB (c_any rfl) (by rfl) T.b_any boot_any (ma_cons (mv 2) (ma_nil))))) (mss_one (ms_ret (me_bl))) (mss_nil)) (mss_one (ms_if (mt_val (me_callB (c_all rfl) (by rfl) T.b_all boot_all (ma_cons (mv 2) (ma_nil)))) (mss_one (ms_ret (me_bl))) (mss_nil)))) (mss_nil)) (mss_one (ms_ret (me_cmp (r_eq (hu64 hr)) (mv 1) (me_str) (nomark _)))))
theorem z11:FnScope ["_law_wide_here","_law_cells","_law_half","_law_ones","_law_others","_law_here","_law_there","_law_cell","_law_turn"] ["_law_wide_here","_law_cells"] (defScope (top 87)):=⟨rfl,rfl,rfl,by decide +kernel,rfl,by decide +kernel,by decide +kernel⟩
theorem z35 {f:Addr}{fd:FuncData} (T:Tx K mg cl) (D:DefAt K mg "_law_lists" (top 87) f fd) (z2j:FG P w K mg base cl 1 "_law_number" 3 zx):FG P w K mg base cl 2 "_law_lists" 2 z2n :=
  D.fg (N:=["_law_wide_here","_law_cells","_law_half","_law_ones","_law_others","_law_here","_law_there","_law_cell","_law_turn"]) (k:=1) z11 rfl (fun _ _ _ _ _ _=>Mi.ln2 fun _ _=>rfl) fun cdv A outer s H E hr =>
    mss_cons (ms_set (i:=2) z11.nd rfl (Or.inl rfl) (me_bin r_shl (me_int) (me_bin r_add (me_item (mv 0) (me_int)) (me_item (mv 0) (me_int))))) (mss_cons (ms_own (i:=3) z11.nd rfl (Or.inl rfl) (mf_lst (ma_nil))) (mss_cons (ms_own (i:=4) z11.nd rfl (Or.inl rfl) (mf_lst (ma_nil))) (mss_cons (ms_set (i:=5) z11.nd rfl (Or.inl rfl) (me_int)) (mss_cons (ms_set (i:=6) z11.nd rfl (Or.inl rfl) (me_int)) (mss_cons (ms_for (i:=7) own_cx rfl z11.nd rfl (Or.inl rfl) (mi_seq (mv 1)) (mss_cons (ms_set (i:=5) z11.nd rfl (Or.inl rfl) (mc z2j hr T.inj (ma_cons (mv 0) (ma_cons (me_bin r_mod (me_bin r_mul (mv 7) (me_int)) (me_bin r_add (me_bin r_pow (me_int) (me_int)) (me_int))) (ma_cons (mv 5) (ma_nil)))))) (mss_cons (ms_set (i:=8) z11.nd rfl (Or.inl rfl) (me_bin r_mod (me_bin r_add (mv 6) (mv 2)) (me_bin r_mul (me_int) (mv 2)))) (mss_cons (ms_set (i:=6) z11.nd rfl (Or.inl rfl) (mc z2j hr T.inj (ma_cons (mv 0) (ma_cons (me_bin r_mod (me_bin r_mul (mv 7) (me_int)) (me_bin r_add (me_bin r_pow (me_int) (me_int)) (me_int))) (ma_cons (mv 8) (ma_nil)))))) (mss_cons (ms_append (i:=3) rfl (by first | exact Or.inl rfl | exact Or.inr (Or.inl rfl) | exact Or.inr (Or.inr rfl)) (ma_cons (mv 5) (ma_nil))) (mss_one (ms_append (i:=4) rfl (by first | exact Or.inl rfl | exact Or.inr (Or.inl rfl) | exact Or.inr (Or.inr rfl)) (ma_cons (mv 6) (ma_nil))))))))) (mss_freeze 4 (mss_freeze 3 (mss_one (ms_ret (me_tup (ma_cons (mv 3) (ma_cons (mv 4) (ma_nil)))))))))))))
theorem z6e:FnScope ["_law_wide_here","_law_word","_law_half"] ["_law_wide_here","_law_word"] (defScope (top 89)):=⟨rfl,rfl,rfl,by decide +kernel,rfl,by decide +kernel,by decide +kernel⟩
theorem z2k {f:Addr}{fd:FuncData} (T:Tx K mg cl) (D:DefAt K mg "_law_signed" (top 89) f fd) (zj:FG P w K mg base cl 1 "_law_steps" 2 zu):FG P w K mg base cl 2 "_law_signed" 2 zn :=
  D.fg (N:=["_law_wide_here","_law_word","_law_half"]) (k:=1) z6e rfl (fun _ _ _ _ _ _=>Mi.ln2 fun _ _=>rfl) fun cdv A outer s H E hr =>
    mss_cons (ms_set (i:=2) z6e.nd rfl (Or.inl rfl) (me_bin r_shl (me_int) (me_bin r_add (me_item (mv 0) (me_int)) (me_item (mv 0) (me_int))))) (mss_cons (ms_if (mt_cmp r_ge (mv 1) (mv 2) (nomark _)) (mss_one (ms_ret (me_bin r_sub (me_int) (mc zj hr T.inj (ma_cons (mv 0) (ma_cons (me_bin r_sub (mv 1) (mv 2)) (ma_nil))))))) (mss_nil)) (mss_one (ms_ret (mc zj hr T.inj (ma_cons (mv 0) (ma_cons (mv 1) (ma_nil)))))))
theorem z23:FnScope ["_law_wide_here","_law_found","_law_top","_law_more","_law_name","_law_last","_law_size","_law_here","_law_lower","_law_left","_law_right_here","_law_low"] ["_law_wide_here","_law_found","_law_top","_law_more","_law_name"] (defScope (top 91)):=⟨rfl,rfl,rfl,by decide +kernel,rfl,by decide +kernel,by decide +kernel⟩
theorem z37 {f:Addr}{fd:FuncData} (T:Tx K mg cl) (D:DefAt K mg "_law_right" (top 91) f fd) (zj:FG P w K mg base cl 1 "_law_steps" 2 zu) (z2i:FG P w K mg base cl 1 "_law_grown" 5 zh):FG P w K mg base cl 2 "_law_right" 5 zd :=
  D.fg (N:=["_law_wide_here","_law_found","_law_top","_law_more","_law_name","_law_last","_law_size","_law_here","_law_lower","_law_left","_law_right_here","_law_low"]) (k:=1) z23 rfl (fun _ _ _ _ _ _=>Mi.ln5 fun _ _ _ _ _=>rfl) fun cdv A outer s H E hr =>
    mss_cons (ms_set (i:=5) z23.nd rfl (Or.inl rfl) (me_bin r_shl (me_bin r_sub (me_bin r_shl (me_int) (me_item (mv 0) (me_int))) (me_int)) (me_item (mv 0) (me_int)))) (mss_cons (ms_set (i:=6) z23.nd rfl (Or.inl rfl) (me_bin r_sub (me_item (mv 1) (me_int)) (me_bin r_mul (me_callTy c_int (by rfl) T.b_int boot_int (ma_cons (me_cmp r_lt (mv 2) (me_int) (nomark _)) (ma_nil))) (me_bin r_shl (me_int) (me_bin r_add (me_item (mv 0) (me_int)) (me_item (mv 0) (me_int))))))) (mss_cons (ms_if ((mw_or (mt_cmp r_lt (mv 6) (me_int) (nomark _)) (mw_or1 (mt_cmp r_gt (mv 6) (mv 5) (nomark _)))).mt) (mss_one (ms_ret (me_bl))) (mss_nil)) (mss_cons (ms_if (mt_cmp r_ge (me_callB c_abs (by rfl) T.b_abs boot_abs (ma_cons (mv 2) (ma_nil))) (me_bin r_shl (mc zj hr T.inj (ma_cons (mv 0) (ma_cons (mv 5) (ma_nil)))) (mv 3)) (nomark _)) (mss_one (ms_ret (me_and (me_cmp (r_eq (hu64 hr)) (mv 6) (me_bin r_add (me_bin r_sub (mv 5) (me_int)) (me_callTy c_int (by rfl) T.b_int boot_int (ma_cons (mc z2i hr T.inj (ma_cons (mv 4) (ma_cons (me_bl) (ma_cons (me_int) (ma_cons (me_int) (ma_cons (me_cmp r_lt (mv 2) (me_int) (nomark _)) (ma_nil))))))) (ma_nil)))) (nomark _)) (me_one (me_cmp (r_eq (hu64 hr)) (me_item (mv 1) (me_int)) (me_int) (nomark _)))))) (mss_nil)) (mss_cons (ms_set (i:=7) z23.nd rfl (Or.inl rfl) (me_bin r_shl (mc zj hr T.inj (ma_cons (mv 0) (ma_cons (mv 6) (ma_nil)))) (mv 3))) (mss_cons (ms_if (mt_cmp (r_eq (hu64 hr)) (mv 7) (me_callB c_abs (by rfl) T.b_abs boot_abs (ma_cons (mv 2) (ma_nil))) (nomark _)) (mss_one (ms_ret (me_cmp (r_eq (hu64 hr)) (me_item (mv 1) (me_int)) (me_int) (nomark _)))) (mss_nil)) (mss_cons (ms_set (i:=8) z23.nd rfl (Or.inl rfl) (me_bin r_sub (mv 6) (me_callTy c_int (by rfl) T.b_int boot_int (ma_cons (me_cmp r_gt (mv 7) (me_callB c_abs (by rfl) T.b_abs boot_abs (ma_cons (mv 2) (ma_nil))) (nomark _)) (ma_nil))))) (mss_cons (ms_set (i:=9) z23.nd rfl (Or.inl rfl) (me_bin r_sub (me_callB c_abs (by rfl) T.b_abs boot_abs (ma_cons (mv 2) (ma_nil))) (me_bin r_shl (mc zj hr T.inj (ma_cons (mv 0) (ma_cons (mv 8) (ma_nil)))) (mv 3)))) (mss_cons (ms_set (i:=10) z23.nd rfl (Or.inl rfl) (me_bin r_sub (me_bin r_shl (mc zj hr T.inj (ma_cons (mv 0) (ma_cons (me_bin r_add (mv 8) (me_int)) (ma_nil)))) (mv 3)) (me_callB c_abs (by rfl) T.b_abs boot_abs (ma_cons (mv 2) (ma_nil))))) (mss_cons (ms_if ((mw_or (mt_cmp r_le (mv 9) (me_int) (nomark _)) (mw_or1 (mt_cmp r_le (mv 10) (me_int) (nomark _)))).mt) (mss_one (ms_ret (me_bl))) (mss_nil)) (mss_cons (ms_if (mt_cmp (r_ne (hu64 hr)) (me_cmp r_gt (mv 7) (me_callB c_abs (by rfl) T.b_abs boot_abs (ma_cons (mv 2) (ma_nil))) (nomark _)) (mc z2i hr T.inj (ma_cons (mv 4) (ma_cons (me_cmp (r_eq (hu64 hr)) (me_bin r_mod (mv 8) (me_int)) (me_int) (nomark _)) (ma_cons (mv 9) (ma_cons (mv 10) (ma_cons (me_cmp r_lt (mv 2) (me_int) (nomark _)) (ma_nil))))))) (nomark _)) (mss_one (ms_ret (me_bl))) (mss_nil)) (mss_cons (ms_set (i:=11) z23.nd rfl (Or.inl rfl) (me_callTy c_int (by rfl) T.b_int boot_int (ma_cons (me_cmp r_lt (me_callB c_abs (by rfl) T.b_abs boot_abs (ma_cons (mv 2) (ma_nil))) (me_bin r_shl (me_int) (me_bin r_add (me_item (mv 0) (me_int)) (mv 3))) (nomark _)) (ma_nil)))) (mss_one (ms_ret (me_cmp (r_eq (hu64 hr)) (me_item (mv 1) (me_int)) (me_bin r_add (me_bin r_add (me_int) (me_bin r_mul (me_int) (mv 11))) (me_bin r_mul (me_int) (me_callTy c_int (by rfl) T.b_int boot_int (ma_cons (me_cmp (r_eq (hu64 hr)) (mv 6) (mv 5) (nomark _)) (ma_nil))))) (nomark _)))))))))))))))
theorem z8f:FnScope ["e","f"] ["e","f"] (defScope (top 18)):=⟨rfl,rfl,rfl,by decide +kernel,rfl,by decide +kernel,by decide +kernel⟩
theorem z1n {f:Addr}{fd:FuncData} (T:Tx K mg cl) (D:DefAt K mg "width_of" (top 18) f fd) (zk:FG P w K mg base cl 2 "is_within" 3 zb):FG P w K mg base cl 3 "width_of" 2 z22 :=
  D.fg (N:=["e","f"]) (k:=2) z8f rfl (fun _ _ _ _ _ _=>Mi.ln2 fun _ _=>rfl) fun cdv A outer s H E hr =>
    mss_cons (ms_if (mt_not (mt_val (mc zk hr T.inj (ma_cons (mv 0) (ma_cons (me_globI (by rfl) T.c_LEAST_E) (ma_cons (me_globI (by rfl) T.c_MOST_E) (ma_nil))))))) (mss_one (ms_raise (c:=1) (T.cls.cls 1 "NoWidth" (at_mem 1 rfl)) own_cx (by rfl) hr.hd (mv_join (mvs_cons (mv_str 44) (mvs_cons (mv_fmt (me_globI (by rfl) T.c_LEAST_E)) (mvs_cons (mv_str 4) (mvs_cons (mv_fmt (me_globI (by rfl) T.c_MOST_E)) (mvs_nil)))))))) (mss_nil)) (mss_cons (ms_if (mt_not (mt_val (mc zk hr T.inj (ma_cons (mv 1) (ma_cons (me_globI (by rfl) T.c_LEAST_F) (ma_cons (me_globI (by rfl) T.c_MOST_F) (ma_nil))))))) (mss_one (ms_raise (c:=1) (T.cls.cls 1 "NoWidth" (at_mem 1 rfl)) own_cx (by rfl) hr.hd (mv_join (mvs_cons (mv_str 44) (mvs_cons (mv_fmt (me_globI (by rfl) T.c_LEAST_F)) (mvs_cons (mv_str 4) (mvs_cons (mv_fmt (me_globI (by rfl) T.c_MOST_F)) (mvs_nil)))))))) (mss_nil)) (mss_one (ms_ret (me_tup (ma_cons (mv 0) (ma_cons (mv 1) (ma_nil)))))))
theorem z7s:FnScope ["part","count"] ["part","count"] (defScope (top 26)):=⟨rfl,rfl,rfl,by decide +kernel,rfl,by decide +kernel,by decide +kernel⟩
theorem z26 {f:Addr}{fd:FuncData} (T:Tx K mg cl) (D:DefAt K mg "check_part" (top 26) f fd) (zk:FG P w K mg base cl 2 "is_within" 3 zb) (z5:FG P w K mg base cl 1 "all_ones" 1 ze):FG P w K mg base cl 3 "check_part" 2 z1q :=
  D.fg (N:=["part","count"]) (k:=2) z7s rfl (fun _ _ _ _ _ _=>Mi.ln2 fun _ _=>rfl) fun cdv A outer s H E hr =>
    mss_one (ms_if (mt_not (mt_val (mc zk hr T.inj (ma_cons (mv 0) (ma_cons (me_int) (ma_cons (mc z5 hr T.inj (ma_cons (mv 1) (ma_nil))) (ma_nil))))))) (mss_one (ms_raise (c:=2) (T.cls.cls 2 "NoWord" (at_mem 2 rfl)) own_cx (by rfl) hr.hd (mv_join (mvs_cons (mv_str 59) (mvs_cons (mv_fmt (mv 1)) (mvs_cons (mv_str 5) (mvs_nil))))))) (mss_nil))
theorem z3z:FnScope ["terms","number","term","size"] ["terms"] (defScope (top 75)):=⟨rfl,rfl,rfl,by decide +kernel,rfl,by decide +kernel,by decide +kernel⟩
theorem z3m {f:Addr}{fd:FuncData} (T:Tx K mg cl) (D:DefAt K mg "summed" (top 75) f fd) (z39:FG P w K mg base cl 2 "added" 2 z1o):FG P w K mg base cl 3 "summed" 1 z2w :=
  D.fg (N:=["terms","number","term","size"]) (k:=2) z3z rfl (fun _ _ _ _ _ _=>Mi.ln1 fun _=>rfl) fun cdv A outer s H E hr =>
    mss_cons (ms_set (i:=1) z3z.nd rfl (Or.inl rfl) (me_globK (by rfl) T.c_NOUGHT)) (mss_cons (ms_for (i:=2) own_cx rfl z3z.nd rfl (Or.inl rfl) (mi_seq (mv 0)) (mss_cons (ms_set (i:=3) z3z.nd rfl (Or.inl rfl) (me_item (mv 2) (me_int))) (mss_one (ms_set (i:=1) z3z.nd rfl (Or.inl rfl) (mc z39 hr T.inj (ma_cons (mv 1) (ma_cons (me_if (mt_val (me_item (mv 2) (me_int))) (me_tup (ma_cons (me_una r_neg (me_item (mv 3) (me_int))) (ma_cons (me_item (mv 3) (me_int)) (ma_nil)))) (mv 3)) (ma_nil)))))))) (mss_one (ms_ret (mv 1))))
theorem z3v:FnScope ["_law_wide_here","_law_found","_law_ones","_law_others","_law_name","_law_half","_law_parts","_law_signs"] ["_law_wide_here","_law_found","_law_ones","_law_others","_law_name"] (defScope (top 92)):=⟨rfl,rfl,rfl,by decide +kernel,rfl,by decide +kernel,by decide +kernel⟩
theorem z34 {f:Addr}{fd:FuncData} (T:Tx K mg cl) (D:DefAt K mg "_law_good" (top 92) f fd) (z37:FG P w K mg base cl 2 "_law_right" 5 zd) (z2l:FG P w K mg base cl 1 "_law_whole" 1 z27) (z2k:FG P w K mg base cl 2 "_law_signed" 2 zn):FG P w K mg base cl 3 "_law_good" 5 q_Lgood_v22 :=
  D.fg (N:=["_law_wide_here","_law_found","_law_ones","_law_others","_law_name","_law_half","_law_parts","_law_signs"]) (k:=2) z3v rfl (fun _ _ _ _ _ _=>Mi.ln5 fun _ _ _ _ _=>rfl) fun cdv A outer s H E hr =>
    mss_cons (ms_if ((mw_or (mt_not (mt_val (me_isinst .tuple (mv 1) (by rfl) T.b_isinstance (by rfl) T.b_tuple))) (mw_or (mt_cmp (r_ne (hu64 hr)) (me_callB c_len (by rfl) T.b_len PySem.boot_len (ma_cons (mv 1) (ma_nil))) (me_int) (nomark _)) (mw_or (mt_not (mt_val (mc z2l hr T.inj (ma_cons (me_item (mv 1) (me_int)) (ma_nil))))) (mw_or1 (mt_not (mt_val (mc z2l hr T.inj (ma_cons (me_item (mv 1) (me_int)) (ma_nil))))))))).mt) (mss_one (ms_ret (me_bl))) (mss_nil)) (mss_cons (ms_set (i:=5) z3v.nd rfl (Or.inr rfl) (me_bin r_shl (me_int) (me_bin r_add (me_item (mv 0) (me_int)) (me_item (mv 0) (me_int))))) (mss_cons (msCZ (i:=6) (x:="_law_one")  z3v.nd rfl (Or.inl rfl) (by decide +kernel) rfl (.cons (.cons .nil)) rfl (by decide) (by decide +kernel) (mv 2) (mv 3) (by rfl) T.b_zip (fun _ _ _ _=>MC.nil) (fun _ _ _ _=>me_bin r_mul (mcN z2k hr (ma_cons (mv 0) (ma_cons (mv 8) (ma_nil)))) (mcN z2k hr (ma_cons (mv 0) (ma_cons (mv 9) (ma_nil)))))) (mss_cons (ms_if (mt_cmp (r_ne (hu64 hr)) (me_callB (c_sum rfl) (by rfl) T.b_sum boot_sum (ma_cons (mv 6) (ma_nil))) (me_int) (nomark _)) (mss_one (ms_ret (mc z37 hr T.inj (ma_cons (mv 0) (ma_cons (mv 1) (ma_cons (me_callB (c_sum rfl) (by rfl) T.b_sum boot_sum (ma_cons (mv 6) (ma_nil))) (ma_cons (me_bin r_sub (me_bin r_add (me_bin r_shl (me_int) (me_bin r_sub (me_item (mv 0) (me_int)) (me_int))) (me_item (mv 0) (me_int))) (me_int)) (ma_cons (mv 4) (ma_nil))))))))) (mss_nil)) (mss_cons (ms_set (i:=7) z3v.nd rfl (Or.inl rfl) (me_callB (c_sum rfl) (by rfl) T.b_sum boot_sum (ma_cons (mcompZ (x:="_law_one")  z3v.nd (by decide +kernel) rfl (.cons (.cons .nil)) rfl (by decide) (by decide +kernel) (mv 2) (mv 3) (by rfl) T.b_zip (fun _ _ _ _=>MC.nil) (fun _ _ _ _=>me_bin r_mod (me_bin r_add (me_bin r_div (mv 8) (mv 5)) (me_bin r_div (mv 9) (mv 5))) (me_int))) (ma_nil)))) (mss_cons (ms_if ((mw_and (mt_cmp (r_eq (hu64 hr)) (mv 6) (me_rep (ma_cons (me_int) (ma_nil)) (me_callB c_len (by rfl) T.b_len PySem.boot_len (ma_cons (mv 2) (ma_nil)))) (nomark _)) (mw_and1 (mt_cmp r_in (mv 7) (me_tup (ma_cons (me_int) (ma_cons (me_callB c_len (by rfl) T.b_len PySem.boot_len (ma_cons (mv 2) (ma_nil))) (ma_nil)))) (by with_unfolding_all rfl)))).mt) (mss_one (ms_ret (me_cmp (r_eq (hu64 hr)) (mv 1) (me_tup (ma_cons (me_bin r_mul (mv 5) (me_callTy c_int (by rfl) T.b_int boot_int (ma_cons (me_cmp r_gt (mv 7) (me_int) (nomark _)) (ma_nil)))) (ma_cons (me_int) (ma_nil)))) (nomark _)))) (mss_nil)) (mss_one (ms_ret (me_cmp (r_eq (hu64 hr)) (mv 1) (me_tup (ma_cons (me_bin r_mul (mv 5) (me_callTy c_int (by rfl) T.b_int boot_int (ma_cons (me_cmp (r_eq (hu64 hr)) (mv 4) (me_str) (nomark _)) (ma_nil)))) (ma_cons (me_int) (ma_nil)))) (nomark _)))))))))
theorem z7t:FnScope ["width"] ["width"] (defScope (top 19)):=⟨rfl,rfl,rfl,by decide +kernel,rfl,by decide +kernel,by decide +kernel⟩
theorem z4 {f:Addr}{fd:FuncData} (T:Tx K mg cl) (D:DefAt K mg "check_width" (top 19) f fd) (z1n:FG P w K mg base cl 3 "width_of" 2 z22):FG P w K mg base cl 4 "check_width" 1 z6 :=
  D.fg (N:=["width"]) (k:=3) z7t rfl (fun _ _ _ _ _ _=>Mi.ln1 fun _=>rfl) fun cdv A outer s H E hr =>
    mss_cons (ms_if ((mw_or (mt_not (mt_val (me_isinst .tuple (mv 0) (by rfl) T.b_isinstance (by rfl) T.b_tuple))) (mw_or1 (mt_cmp (r_ne (hu64 hr)) (me_callB c_len (by rfl) T.b_len PySem.boot_len (ma_cons (mv 0) (ma_nil))) (me_int) (nomark _)))).mt) (mss_one (ms_raise (c:=1) (T.cls.cls 1 "NoWidth" (at_mem 1 rfl)) own_cx (by rfl) hr.hd (mv_str 39))) (mss_nil)) (mss_one (ms_expr (mc z1n hr T.inj (ma_cons (me_item (mv 0) (me_int)) (ma_cons (me_item (mv 0) (me_int)) (ma_nil))))))
theorem z84:FnScope ["width"] ["width"] (defScope (top 20)):=⟨rfl,rfl,rfl,by decide +kernel,rfl,by decide +kernel,by decide +kernel⟩
theorem z3g {f:Addr}{fd:FuncData} (T:Tx K mg cl) (D:DefAt K mg "many_words" (top 20) f fd) (z4:FG P w K mg base cl 4 "check_width" 1 z6):FG P w K mg base cl 5 "many_words" 1 z2s :=
  D.fg (N:=["width"]) (k:=4) z84 rfl (fun _ _ _ _ _ _=>Mi.ln1 fun _=>rfl) fun cdv A outer s H E hr =>
    mss_cons (ms_expr (mc z4 hr T.inj (ma_cons (mv 0) (ma_nil)))) (mss_one (ms_ret (me_bin r_shl (me_int) (me_bin r_add (me_bin r_add (me_int) (me_item (mv 0) (me_int))) (me_item (mv 0) (me_int))))))
theorem z7r:FnScope ["width"] ["width"] (defScope (top 21)):=⟨rfl,rfl,rfl,by decide +kernel,rfl,by decide +kernel,by decide +kernel⟩
theorem z1f {f:Addr}{fd:FuncData} (T:Tx K mg cl) (D:DefAt K mg "bias_of" (top 21) f fd) (z4:FG P w K mg base cl 4 "check_width" 1 z6):FG P w K mg base cl 5 "bias_of" 1 z1p :=
  D.fg (N:=["width"]) (k:=4) z7r rfl (fun _ _ _ _ _ _=>Mi.ln1 fun _=>rfl) fun cdv A outer s H E hr =>
    mss_cons (ms_expr (mc z4 hr T.inj (ma_cons (mv 0) (ma_nil)))) (mss_one (ms_ret (me_bin r_sub (me_bin r_shl (me_int) (me_bin r_sub (me_item (mv 0) (me_int)) (me_int))) (me_int))))
theorem z82:FnScope ["width","sign","exponent","fraction"] ["width","sign","exponent","fraction"] (defScope (top 28)):=⟨rfl,rfl,rfl,by decide +kernel,rfl,by decide +kernel,by decide +kernel⟩
theorem z1i {f:Addr}{fd:FuncData} (T:Tx K mg cl) (D:DefAt K mg "joined" (top 28) f fd) (z4:FG P w K mg base cl 4 "check_width" 1 z6) (z26:FG P w K mg base cl 3 "check_part" 2 z1q):FG P w K mg base cl 5 "joined" 4 z1v :=
  D.fg (N:=["width","sign","exponent","fraction"]) (k:=4) z82 rfl (fun _ _ _ _ _ _=>Mi.ln4 fun _ _ _ _=>rfl) fun cdv A outer s H E hr =>
    mss_cons (ms_expr (mc z4 hr T.inj (ma_cons (mv 0) (ma_nil)))) (mss_cons (ms_expr (mc z26 hr T.inj (ma_cons (mv 1) (ma_cons (me_int) (ma_nil))))) (mss_cons (ms_expr (mc z26 hr T.inj (ma_cons (mv 2) (ma_cons (me_item (mv 0) (me_int)) (ma_nil))))) (mss_cons (ms_expr (mc z26 hr T.inj (ma_cons (mv 3) (ma_cons (me_item (mv 0) (me_int)) (ma_nil))))) (mss_one (ms_ret (me_bin r_add (me_bin r_add (me_bin r_shl (mv 1) (me_bin r_add (me_item (mv 0) (me_int)) (me_item (mv 0) (me_int)))) (me_bin r_shl (mv 2) (me_item (mv 0) (me_int)))) (mv 3)))))))
theorem z83:FnScope ["width"] ["width"] (defScope (top 22)):=⟨rfl,rfl,rfl,by decide +kernel,rfl,by decide +kernel,by decide +kernel⟩
theorem g_least_power {f:Addr}{fd:FuncData} (T:Tx K mg cl) (D:DefAt K mg "least_power" (top 22) f fd) (z1f:FG P w K mg base cl 5 "bias_of" 1 z1p):FG P w K mg base cl 6 "least_power" 1 q_least_power :=
  D.fg (N:=["width"]) (k:=5) z83 rfl (fun _ _ _ _ _ _=>Mi.ln1 fun _=>rfl) fun cdv A outer s H E hr =>
    mss_one (ms_ret (me_bin r_sub (me_bin r_sub (me_int) (mc z1f hr T.inj (ma_cons (mv 0) (ma_nil)))) (me_item (mv 0) (me_int))))
theorem z7u:FnScope ["width","word"] ["width","word"] (defScope (top 25)):=⟨rfl,rfl,rfl,by decide +kernel,rfl,by decide +kernel,by decide +kernel⟩
theorem zq {f:Addr}{fd:FuncData} (T:Tx K mg cl) (D:DefAt K mg "check_word" (top 25) f fd) (zk:FG P w K mg base cl 2 "is_within" 3 zb) (z3g:FG P w K mg base cl 5 "many_words" 1 z2s):FG P w K mg base cl 6 "check_word" 2 zo :=
  D.fg (N:=["width","word"]) (k:=5) z7u rfl (fun _ _ _ _ _ _=>Mi.ln2 fun _ _=>rfl) fun cdv A outer s H E hr =>
    mss_one (ms_if (mt_not (mt_val (mc zk hr T.inj (ma_cons (mv 1) (ma_cons (me_int) (ma_cons (me_bin r_sub (mc z3g hr T.inj (ma_cons (mv 0) (ma_nil))) (me_int)) (ma_nil))))))) (mss_one (ms_raise (c:=2) (T.cls.cls 2 "NoWord" (at_mem 2 rfl)) own_cx (by rfl) hr.hd (mv_str 71))) (mss_nil))
theorem z87:FnScope ["width"] ["width"] (defScope (top 30)):=⟨rfl,rfl,rfl,by decide +kernel,rfl,by decide +kernel,by decide +kernel⟩
theorem z13 {f:Addr}{fd:FuncData} (T:Tx K mg cl) (D:DefAt K mg "none_of" (top 30) f fd) (z4:FG P w K mg base cl 4 "check_width" 1 z6) (z1i:FG P w K mg base cl 5 "joined" 4 z1v) (z5:FG P w K mg base cl 1 "all_ones" 1 ze) (z1h:FG P w K mg base cl 1 "highest_of_fraction" 1 z1t):FG P w K mg base cl 6 "none_of" 1 z16 :=
  D.fg (N:=["width"]) (k:=5) z87 rfl (fun _ _ _ _ _ _=>Mi.ln1 fun _=>rfl) fun cdv A outer s H E hr =>
    mss_cons (ms_expr (mc z4 hr T.inj (ma_cons (mv 0) (ma_nil)))) (mss_one (ms_ret (mc z1i hr T.inj (ma_cons (mv 0) (ma_cons (me_int) (ma_cons (mc z5 hr T.inj (ma_cons (me_item (mv 0) (me_int)) (ma_nil))) (ma_cons (mc z1h hr T.inj (ma_cons (mv 0) (ma_nil))) (ma_nil))))))))
theorem z7v:FnScope ["width"] ["width"] (defScope (top 31)):=⟨rfl,rfl,rfl,by decide +kernel,rfl,by decide +kernel,by decide +kernel⟩
theorem z1g {f:Addr}{fd:FuncData} (T:Tx K mg cl) (D:DefAt K mg "endless_of" (top 31) f fd) (z4:FG P w K mg base cl 4 "check_width" 1 z6) (z1i:FG P w K mg base cl 5 "joined" 4 z1v) (z5:FG P w K mg base cl 1 "all_ones" 1 ze):FG P w K mg base cl 6 "endless_of" 1 z1r :=
  D.fg (N:=["width"]) (k:=5) z7v rfl (fun _ _ _ _ _ _=>Mi.ln1 fun _=>rfl) fun cdv A outer s H E hr =>
    mss_cons (ms_expr (mc z4 hr T.inj (ma_cons (mv 0) (ma_nil)))) (mss_one (ms_ret (mc z1i hr T.inj (ma_cons (mv 0) (ma_cons (me_int) (ma_cons (mc z5 hr T.inj (ma_cons (me_item (mv 0) (me_int)) (ma_nil))) (ma_cons (me_int) (ma_nil))))))))
theorem z85:FnScope ["width","height","side"] ["width","height","side"] (defScope (top 64)):=⟨rfl,rfl,rfl,by decide +kernel,rfl,by decide +kernel,by decide +kernel⟩
theorem z3h {f:Addr}{fd:FuncData} (T:Tx K mg cl) (D:DefAt K mg "marks_of" (top 64) f fd) (z1f:FG P w K mg base cl 5 "bias_of" 1 z1p):FG P w K mg base cl 6 "marks_of" 3 z1w :=
  D.fg (N:=["width","height","side"]) (k:=5) z85 rfl (fun _ _ _ _ _ _=>Mi.ln3 fun _ _ _=>rfl) fun cdv A outer s H E hr =>
    mss_cons (ms_if (mt_cmp (r_eq (hu64 hr)) (mv 2) (me_int) (nomark _)) (mss_one (ms_ret (me_int))) (mss_nil)) (mss_one (ms_ret (me_if (mt_cmp r_lt (mv 1) (me_bin r_sub (me_int) (mc z1f hr T.inj (ma_cons (mv 0) (ma_nil)))) (nomark _)) (me_bin r_add (me_globI (by rfl) T.c_NEAR) (me_globI (by rfl) T.c_SMALL)) (me_globI (by rfl) T.c_NEAR))))
theorem z4c:FnScope ["width","word","sign","exponent","fraction"] ["width","word"] (defScope (top 27)):=⟨rfl,rfl,rfl,by decide +kernel,rfl,by decide +kernel,by decide +kernel⟩
theorem z8j {f:Addr}{fd:FuncData} (T:Tx K mg cl) (D:DefAt K mg "cut" (top 27) f fd) (zq:FG P w K mg base cl 6 "check_word" 2 zo) (z5:FG P w K mg base cl 1 "all_ones" 1 ze):FG P w K mg base cl 7 "cut" 2 z8o :=
  D.fg (N:=["width","word","sign","exponent","fraction"]) (k:=6) z4c rfl (fun _ _ _ _ _ _=>Mi.ln2 fun _ _=>rfl) fun cdv A outer s H E hr =>
    mss_cons (ms_expr (mc zq hr T.inj (ma_cons (mv 0) (ma_cons (mv 1) (ma_nil))))) (mss_cons (ms_set (i:=2) z4c.nd rfl (Or.inl rfl) (me_bin r_shr (mv 1) (me_bin r_add (me_item (mv 0) (me_int)) (me_item (mv 0) (me_int))))) (mss_cons (ms_set (i:=3) z4c.nd rfl (Or.inl rfl) (me_bin r_and (me_bin r_shr (mv 1) (me_item (mv 0) (me_int))) (mc z5 hr T.inj (ma_cons (me_item (mv 0) (me_int)) (ma_nil))))) (mss_cons (ms_set (i:=4) z4c.nd rfl (Or.inl rfl) (me_bin r_and (mv 1) (mc z5 hr T.inj (ma_cons (me_item (mv 0) (me_int)) (ma_nil))))) (mss_one (ms_ret (me_tup (ma_cons (mv 2) (ma_cons (mv 3) (ma_cons (mv 4) (ma_nil))))))))))
theorem z8c:FnScope ["width","word"] ["width","word"] (defScope (top 34)):=⟨rfl,rfl,rfl,by decide +kernel,rfl,by decide +kernel,by decide +kernel⟩
theorem z3q {f:Addr}{fd:FuncData} (T:Tx K mg cl) (D:DefAt K mg "turned" (top 34) f fd) (zq:FG P w K mg base cl 6 "check_word" 2 zo) (z1k:FG P w K mg base cl 1 "sign_bit" 1 z1z):FG P w K mg base cl 7 "turned" 2 z2d :=
  D.fg (N:=["width","word"]) (k:=6) z8c rfl (fun _ _ _ _ _ _=>Mi.ln2 fun _ _=>rfl) fun cdv A outer s H E hr =>
    mss_cons (ms_expr (mc zq hr T.inj (ma_cons (mv 0) (ma_cons (mv 1) (ma_nil))))) (mss_one (ms_ret (me_bin r_xor (mv 1) (mc z1k hr T.inj (ma_cons (mv 0) (ma_nil))))))
theorem z8d:FnScope ["width","word"] ["width","word"] (defScope (top 35)):=⟨rfl,rfl,rfl,by decide +kernel,rfl,by decide +kernel,by decide +kernel⟩
theorem z3r {f:Addr}{fd:FuncData} (T:Tx K mg cl) (D:DefAt K mg "unsigned" (top 35) f fd) (zq:FG P w K mg base cl 6 "check_word" 2 zo) (z1k:FG P w K mg base cl 1 "sign_bit" 1 z1z):FG P w K mg base cl 7 "unsigned" 2 z2e :=
  D.fg (N:=["width","word"]) (k:=6) z8d rfl (fun _ _ _ _ _ _=>Mi.ln2 fun _ _=>rfl) fun cdv A outer s H E hr =>
    mss_cons (ms_expr (mc zq hr T.inj (ma_cons (mv 0) (ma_cons (mv 1) (ma_nil))))) (mss_one (ms_ret (me_bin r_and (mv 1) (me_bin r_sub (mc z1k hr T.inj (ma_cons (mv 0) (ma_nil))) (me_int)))))
theorem z89:FnScope ["width","height"] ["width","height"] (defScope (top 61)):=⟨rfl,rfl,rfl,by decide +kernel,rfl,by decide +kernel,by decide +kernel⟩
theorem z1l {f:Addr}{fd:FuncData} (T:Tx K mg cl) (D:DefAt K mg "step_power" (top 61) f fd) (g_least_power:FG P w K mg base cl 6 "least_power" 1 q_least_power):FG P w K mg base cl 7 "step_power" 2 z10 :=
  D.fg (N:=["width","height"]) (k:=6) z89 rfl (fun _ _ _ _ _ _=>Mi.ln2 fun _ _=>rfl) fun cdv A outer s H E hr =>
    mss_one (ms_ret (me_callB (c_max rfl) (by rfl) T.b_max boot_max (ma_cons (me_bin r_sub (mv 1) (me_item (mv 0) (me_int))) (ma_cons (mc g_least_power hr T.inj (ma_cons (mv 0) (ma_nil))) (ma_nil)))))
theorem z6j:FnScope ["width","terms","kinds"] ["width","terms"] (defScope (top 73)):=⟨rfl,rfl,rfl,by decide +kernel,rfl,by decide +kernel,by decide +kernel⟩
theorem z3j {f:Addr}{fd:FuncData} (T:Tx K mg cl) (D:DefAt K mg "nones_told" (top 73) f fd) (z13:FG P w K mg base cl 6 "none_of" 1 z16):FG P w K mg base cl 7 "nones_told" 2 z2t :=
  D.fg (N:=["width","terms","kinds"]) (k:=6) z6j rfl (fun _ _ _ _ _ _=>Mi.ln2 fun _ _=>rfl) fun cdv A outer s H E hr =>
    mss_cons (msC (i:=2) z6j.nd rfl (Or.inl rfl) (by decide +kernel) rfl (mi_seq (mv 1)) (fun _ _ _ _=>MC.nil) (fun _ _ _ _=>me_item (mv 3) (me_int))) (mss_cons (ms_if (mt_cmp r_in (me_str) (mv 2) (by with_unfolding_all rfl)) (mss_one (ms_ret (me_tup (ma_cons (mc z13 hr T.inj (ma_cons (mv 0) (ma_nil))) (ma_cons (me_globI (by rfl) T.c_WRONG) (ma_nil)))))) (mss_nil)) (mss_cons (ms_if (mt_cmp r_in (me_str) (mv 2) (by with_unfolding_all rfl)) (mss_one (ms_ret (me_tup (ma_cons (mc z13 hr T.inj (ma_cons (mv 0) (ma_nil))) (ma_cons (me_int) (ma_nil)))))) (mss_nil)) (mss_one (ms_ret (me_non)))))
theorem z4f:FnScope ["width","word","parts","exponent","fraction"] ["width","word"] (defScope (top 29)):=⟨rfl,rfl,rfl,by decide +kernel,rfl,by decide +kernel,by decide +kernel⟩
theorem z1j {f:Addr}{fd:FuncData} (T:Tx K mg cl) (D:DefAt K mg "kind_of" (top 29) f fd) (z8j:FG P w K mg base cl 7 "cut" 2 z8o) (z5:FG P w K mg base cl 1 "all_ones" 1 ze) (z1h:FG P w K mg base cl 1 "highest_of_fraction" 1 z1t):FG P w K mg base cl 8 "kind_of" 2 zi :=
  D.fg (N:=["width","word","parts","exponent","fraction"]) (k:=7) z4f rfl (fun _ _ _ _ _ _=>Mi.ln2 fun _ _=>rfl) fun cdv A outer s H E hr =>
    mss_cons (ms_set (i:=2) z4f.nd rfl (Or.inl rfl) (mc z8j hr T.inj (ma_cons (mv 0) (ma_cons (mv 1) (ma_nil))))) (mss_cons (ms_set (i:=3) z4f.nd rfl (Or.inl rfl) (me_item (mv 2) (me_int))) (mss_cons (ms_set (i:=4) z4f.nd rfl (Or.inl rfl) (me_item (mv 2) (me_int))) (mss_cons (ms_if (mt_cmp (r_eq (hu64 hr)) (mv 3) (me_int) (nomark _)) (mss_one (ms_ret (me_if (mt_cmp (r_eq (hu64 hr)) (mv 4) (me_int) (nomark _)) (me_str) (me_str)))) (mss_nil)) (mss_cons (ms_if (mt_cmp r_lt (mv 3) (mc z5 hr T.inj (ma_cons (me_item (mv 0) (me_int)) (ma_nil))) (nomark _)) (mss_one (ms_ret (me_str))) (mss_nil)) (mss_cons (ms_if (mt_cmp (r_eq (hu64 hr)) (mv 4) (me_int) (nomark _)) (mss_one (ms_ret (me_str))) (mss_nil)) (mss_one (ms_ret (me_if (mt_cmp r_ge (mv 4) (mc z1h hr T.inj (ma_cons (mv 0) (ma_nil))) (nomark _)) (me_str) (me_str)))))))))
theorem z8g:FnScope ["width","word","below"] ["width","word","below"] (defScope (top 36)):=⟨rfl,rfl,rfl,by decide +kernel,rfl,by decide +kernel,by decide +kernel⟩
theorem zm {f:Addr}{fd:FuncData} (T:Tx K mg cl) (D:DefAt K mg "with_sign" (top 36) f fd) (z3q:FG P w K mg base cl 7 "turned" 2 z2d):FG P w K mg base cl 8 "with_sign" 3 q_with_sign :=
  D.fg (N:=["width","word","below"]) (k:=7) z8g rfl (fun _ _ _ _ _ _=>Mi.ln3 fun _ _ _=>rfl) fun cdv A outer s H E hr =>
    mss_one (ms_ret (me_if (mt_val (mv 2)) (mc z3q hr T.inj (ma_cons (mv 0) (ma_cons (mv 1) (ma_nil)))) (mv 1)))
theorem z2f:FnScope ["width","word","kind","parts","steps","power"] ["width","word"] (defScope (top 42)):=⟨rfl,rfl,rfl,by decide +kernel,rfl,by decide +kernel,by decide +kernel⟩
theorem z3s {f:Addr}{fd:FuncData} (T:Tx K mg cl) (D:DefAt K mg "value_of" (top 42) f fd) (z1j:FG P w K mg base cl 8 "kind_of" 2 zi) (z8j:FG P w K mg base cl 7 "cut" 2 z8o) (g_least_power:FG P w K mg base cl 6 "least_power" 1 q_least_power) (zr:FG P w K mg base cl 1 "exact" 2 z8):FG P w K mg base cl 9 "value_of" 2 z17 :=
  D.fg (N:=["width","word","kind","parts","steps","power"]) (k:=8) z2f rfl (fun _ _ _ _ _ _=>Mi.ln2 fun _ _=>rfl) fun cdv A outer s H E hr =>
    mss_cons (ms_set (i:=2) z2f.nd rfl (Or.inl rfl) (mc z1j hr T.inj (ma_cons (mv 0) (ma_cons (mv 1) (ma_nil))))) (mss_cons (ms_if (mt_cmp (r_notIn (hu64 hr)) (mv 2) (me_tup (ma_cons (me_str) (ma_cons (me_str) (ma_cons (me_str) (ma_nil))))) (by with_unfolding_all rfl)) (mss_one (ms_raise (c:=4) (T.cls.cls 4 "NoNumber" (at_mem 4 rfl)) own_cx (by rfl) hr.hd (mv_str 31))) (mss_nil)) (mss_cons (ms_set (i:=3) z2f.nd rfl (Or.inl rfl) (mc z8j hr T.inj (ma_cons (mv 0) (ma_cons (mv 1) (ma_nil))))) (mss_cons (ms_set (i:=4) z2f.nd rfl (Or.inl rfl) (me_item (mv 3) (me_int))) (mss_cons (ms_set (i:=5) z2f.nd rfl (Or.inl rfl) (mc g_least_power hr T.inj (ma_cons (mv 0) (ma_nil)))) (mss_cons (ms_if (mt_cmp (r_eq (hu64 hr)) (mv 2) (me_str) (nomark _)) (mss_cons (ms_set (i:=4) z2f.nd rfl (Or.inl rfl) (me_bin r_add (mv 4) (me_bin r_shl (me_int) (me_item (mv 0) (me_int))))) (mss_one (ms_set (i:=5) z2f.nd rfl (Or.inl rfl) (me_bin r_sub (me_bin r_add (mv 5) (me_item (mv 3) (me_int))) (me_int))))) (mss_nil)) (mss_one (ms_ret (mc zr hr T.inj (ma_cons (me_if (mt_cmp (r_eq (hu64 hr)) (me_item (mv 3) (me_int)) (me_int) (nomark _)) (me_una r_neg (mv 4)) (mv 4)) (ma_cons (mv 5) (ma_nil)))))))))))
theorem z3y:FnScope ["width","chosen","below","height","place","endless","above_least","size"] ["width","chosen","below","height","place"] (defScope (top 63)):=⟨rfl,rfl,rfl,by decide +kernel,rfl,by decide +kernel,by decide +kernel⟩
theorem z3k {f:Addr}{fd:FuncData} (T:Tx K mg cl) (D:DefAt K mg "settled" (top 63) f fd) (z1g:FG P w K mg base cl 6 "endless_of" 1 z1r) (z1l:FG P w K mg base cl 7 "step_power" 2 z10) (g_least_power:FG P w K mg base cl 6 "least_power" 1 q_least_power) (z3l:FG P w K mg base cl 2 "steps_taken" 3 z2a) (zm:FG P w K mg base cl 8 "with_sign" 3 q_with_sign) (z3h:FG P w K mg base cl 6 "marks_of" 3 z1w) (m_grows:FM P w K mg base cl 1 "grows" 3 z2g):FG P w K mg base cl 9 "settled" 5 z1y :=
  D.fg (N:=["width","chosen","below","height","place","endless","above_least","size"]) (k:=8) z3y rfl (fun _ _ _ _ _ _=>Mi.ln5 fun _ _ _ _ _=>rfl) fun cdv A outer s H E hr =>
    mss_cons (ms_set (i:=5) z3y.nd rfl (Or.inl rfl) (mc z1g hr T.inj (ma_cons (mv 0) (ma_nil)))) (mss_cons (ms_set (i:=6) z3y.nd rfl (Or.inl rfl) (me_bin r_sub (mc z1l hr T.inj (ma_cons (mv 0) (ma_cons (mv 3) (ma_nil)))) (mc g_least_power hr T.inj (ma_cons (mv 0) (ma_nil))))) (mss_cons (ms_set (i:=7) z3y.nd rfl (Or.inl rfl) (me_bin r_add (me_bin r_shl (mv 6) (me_item (mv 0) (me_int))) (mc z3l hr T.inj (ma_cons (mv 1) (ma_cons (mv 4) (ma_cons (mv 2) (ma_nil))))))) (mss_cons (ms_if (mt_cmp r_lt (mv 7) (mv 5) (nomark _)) (mss_one (ms_ret (me_tup (ma_cons (mc zm hr T.inj (ma_cons (mv 0) (ma_cons (mv 7) (ma_cons (mv 2) (ma_nil))))) (ma_cons (mc z3h hr T.inj (ma_cons (mv 0) (ma_cons (mv 3) (ma_cons (me_item (mv 4) (me_int)) (ma_nil))))) (ma_nil)))))) (mss_nil)) (mss_cons (ms_set (i:=7) z3y.nd rfl (Or.inl rfl) (me_if (mt_val (mm m_grows hr T.inj (mv 1) (ma_cons (me_bl) (ma_cons (me_int) (ma_cons (mv 2) (ma_nil)))))) (mv 5) (me_bin r_sub (mv 5) (me_int)))) (mss_one (ms_ret (me_tup (ma_cons (mc zm hr T.inj (ma_cons (mv 0) (ma_cons (mv 7) (ma_cons (mv 2) (ma_nil))))) (ma_cons (me_bin r_add (me_globI (by rfl) T.c_GREAT) (me_globI (by rfl) T.c_NEAR)) (ma_nil))))))))))
theorem z7w:FnScope ["width","ends"] ["width","ends"] (defScope (top 74)):=⟨rfl,rfl,rfl,by decide +kernel,rfl,by decide +kernel,by decide +kernel⟩
theorem z3a {f:Addr}{fd:FuncData} (T:Tx K mg cl) (D:DefAt K mg "ends_told" (top 74) f fd) (zm:FG P w K mg base cl 8 "with_sign" 3 q_with_sign) (z13:FG P w K mg base cl 6 "none_of" 1 z16) (z1g:FG P w K mg base cl 6 "endless_of" 1 z1r):FG P w K mg base cl 9 "ends_told" 2 z46 :=
  D.fg (N:=["width","ends"]) (k:=8) z7w rfl (fun _ _ _ _ _ _=>Mi.ln2 fun _ _=>rfl) fun cdv A outer s H E hr =>
    mss_cons (ms_if ((mw_and (mt_val (me_callB (c_any rfl) (by rfl) T.b_any boot_any (ma_cons (mv 1) (ma_nil)))) (mw_and1 (mt_not (mt_val (me_callB (c_all rfl) (by rfl) T.b_all boot_all (ma_cons (mv 1) (ma_nil))))))).mt) (mss_one (ms_ret (me_tup (ma_cons (mc z13 hr T.inj (ma_cons (mv 0) (ma_nil))) (ma_cons (me_globI (by rfl) T.c_WRONG) (ma_nil)))))) (mss_nil)) (mss_one (ms_ret (me_tup (ma_cons (mc zm hr T.inj (ma_cons (mv 0) (ma_cons (mc z1g hr T.inj (ma_cons (mv 0) (ma_nil))) (ma_cons (me_callB (c_all rfl) (by rfl) T.b_all boot_all (ma_cons (mv 1) (ma_nil))) (ma_nil))))) (ma_cons (me_int) (ma_nil))))))
theorem z4g:FnScope ["width","n","k","d","way","chosen","height","place"] ["width","n","k","d","way"] (defScope (top 60)):=⟨rfl,rfl,rfl,by decide +kernel,rfl,by decide +kernel,by decide +kernel⟩
theorem z3n {f:Addr}{fd:FuncData} (T:Tx K mg cl) (D:DefAtD K mg "taken" (top 60) f fd "even") (z4:FG P w K mg base cl 4 "check_width" 1 z6) (z1m:FG P w K mg base cl 1 "way_of" 1 z21) (z3c:FG P w K mg base cl 2 "height_of" 3 z1s) (z3d:FG P w K mg base cl 2 "in_steps" 4 zy) (z3k:FG P w K mg base cl 9 "settled" 5 z1y) (z1l:FG P w K mg base cl 7 "step_power" 2 z10):FGD P w K mg base cl 10 "taken" 5 z20 "even" :=
  D.fg (N:=["width","n","k","d","way","chosen","height","place"]) (k:=9) z4g rfl (fun _ _ _ _ _ _ _ _=>Mi.ln5 fun _ _ _ _ _=>⟨_,rfl,rfl⟩) (fun _ _ _ _ _ _ _ _=>Mi.lm4 fun _ _ _ _=>⟨_,rfl,rfl⟩) fun cdv A outer s H E hr =>
    mss_cons (ms_expr (mc z4 hr T.inj (ma_cons (mv 0) (ma_nil)))) (mss_cons (ms_set (i:=5) z4g.nd rfl (Or.inl rfl) (mc z1m hr T.inj (ma_cons (mv 4) (ma_nil)))) (mss_cons (ms_if (mt_cmp (r_eq (hu64 hr)) (mv 1) (me_int) (nomark _)) (mss_one (ms_ret (me_tup (ma_cons (me_int) (ma_cons (me_int) (ma_nil)))))) (mss_nil)) (mss_cons (ms_set (i:=6) z4g.nd rfl (Or.inl rfl) (mc z3c hr T.inj (ma_cons (mv 1) (ma_cons (mv 2) (ma_cons (mv 3) (ma_nil)))))) (mss_cons (ms_set (i:=7) z4g.nd rfl (Or.inl rfl) (mc z3d hr T.inj (ma_cons (mv 1) (ma_cons (mv 2) (ma_cons (mv 3) (ma_cons (mc z1l hr T.inj (ma_cons (mv 0) (ma_cons (mv 6) (ma_nil)))) (ma_nil))))))) (mss_one (ms_ret (mc z3k hr T.inj (ma_cons (mv 0) (ma_cons (mv 5) (ma_cons (me_cmp r_lt (mv 1) (me_int) (nomark _)) (ma_cons (mv 6) (ma_cons (mv 7) (ma_nil)))))))))))))
theorem z5a:FnScope ["width","word","kind","below"] ["width","word"] (defScope (top 69)):=⟨rfl,rfl,rfl,by decide +kernel,rfl,by decide +kernel,by decide +kernel⟩
theorem zl {f:Addr}{fd:FuncData} (T:Tx K mg cl) (D:DefAt K mg "term_of" (top 69) f fd) (z1j:FG P w K mg base cl 8 "kind_of" 2 zi) (z3s:FG P w K mg base cl 9 "value_of" 2 z17) (z8j:FG P w K mg base cl 7 "cut" 2 z8o) (z3r:FG P w K mg base cl 7 "unsigned" 2 z2e):FG P w K mg base cl 10 "term_of" 2 q_term_of :=
  D.fg (N:=["width","word","kind","below"]) (k:=9) z5a rfl (fun _ _ _ _ _ _=>Mi.ln2 fun _ _=>rfl) fun cdv A outer s H E hr =>
    mss_cons (ms_set (i:=2) z5a.nd rfl (Or.inl rfl) (mc z1j hr T.inj (ma_cons (mv 0) (ma_cons (mv 1) (ma_nil))))) (mss_cons (ms_if (mt_cmp (r_eq (hu64 hr)) (mv 2) (me_str) (nomark _)) (mss_one (ms_ret (me_globK (by rfl) T.c_LOUD_TERM))) (mss_nil)) (mss_cons (ms_if (mt_cmp (r_eq (hu64 hr)) (mv 2) (me_str) (nomark _)) (mss_one (ms_ret (me_globK (by rfl) T.c_STILL_TERM))) (mss_nil)) (mss_cons (ms_set (i:=3) z5a.nd rfl (Or.inl rfl) (me_cmp (r_eq (hu64 hr)) (me_item (mc z8j hr T.inj (ma_cons (mv 0) (ma_cons (mv 1) (ma_nil)))) (me_int)) (me_int) (nomark _))) (mss_cons (ms_if (mt_cmp (r_eq (hu64 hr)) (mv 2) (me_str) (nomark _)) (mss_one (ms_ret (me_tup (ma_cons (me_str) (ma_cons (mv 3) (ma_cons (me_globK (by rfl) T.c_NOUGHT) (ma_nil))))))) (mss_nil)) (mss_one (ms_ret (me_tup (ma_cons (me_str) (ma_cons (mv 3) (ma_cons (mc z3s hr T.inj (ma_cons (mv 0) (ma_cons (mc z3r hr T.inj (ma_cons (mv 0) (ma_cons (mv 1) (ma_nil)))) (ma_nil)))) (ma_nil)))))))))))
theorem z3x:FnScope ["width","one","other","first","second","kinds","below"] ["width","one","other"] (defScope (top 71)):=⟨rfl,rfl,rfl,by decide +kernel,rfl,by decide +kernel,by decide +kernel⟩
theorem zt {f:Addr}{fd:FuncData} (T:Tx K mg cl) (D:DefAt K mg "product" (top 71) f fd) (zl:FG P w K mg base cl 10 "term_of" 2 q_term_of) (z12:FG P w K mg base cl 1 "is_nought" 1 zg) (z3i:FG P w K mg base cl 2 "multiplied" 2 z1x):FG P w K mg base cl 11 "product" 3 q_product :=
  D.fg (N:=["width","one","other","first","second","kinds","below"]) (k:=10) z3x rfl (fun _ _ _ _ _ _=>Mi.ln3 fun _ _ _=>rfl) fun cdv A outer s H E hr =>
    mss_cons (ms_set (i:=3) z3x.nd rfl (Or.inl rfl) (mc zl hr T.inj (ma_cons (mv 0) (ma_cons (mv 1) (ma_nil))))) (mss_cons (ms_set (i:=4) z3x.nd rfl (Or.inl rfl) (mc zl hr T.inj (ma_cons (mv 0) (ma_cons (mv 2) (ma_nil))))) (mss_cons (ms_set (i:=5) z3x.nd rfl (Or.inl rfl) (me_tup (ma_cons (me_item (mv 3) (me_int)) (ma_cons (me_item (mv 4) (me_int)) (ma_nil))))) (mss_cons (ms_if (mt_cmp r_in (me_str) (mv 5) (by with_unfolding_all rfl)) (mss_one (ms_ret (me_globK (by rfl) T.c_LOUD_TERM))) (mss_nil)) (mss_cons (ms_if (mt_cmp r_in (me_str) (mv 5) (by with_unfolding_all rfl)) (mss_one (ms_ret (me_globK (by rfl) T.c_STILL_TERM))) (mss_nil)) (mss_cons (ms_set (i:=6) z3x.nd rfl (Or.inl rfl) (me_cmp (r_ne (hu64 hr)) (me_item (mv 3) (me_int)) (me_item (mv 4) (me_int)) (nomark _))) (mss_cons (ms_if (mt_cmp (r_notIn (hu64 hr)) (me_str) (mv 5) (by with_unfolding_all rfl)) (mss_one (ms_ret (me_tup (ma_cons (me_str) (ma_cons (mv 6) (ma_cons (mc z3i hr T.inj (ma_cons (me_item (mv 3) (me_int)) (ma_cons (me_item (mv 4) (me_int)) (ma_nil)))) (ma_nil))))))) (mss_nil)) (mss_cons (ms_if ((mw_or (mt_val (mc z12 hr T.inj (ma_cons (mv 3) (ma_nil)))) (mw_or1 (mt_val (mc z12 hr T.inj (ma_cons (mv 4) (ma_nil)))))).mt) (mss_one (ms_ret (me_globK (by rfl) T.c_LOUD_TERM))) (mss_nil)) (mss_one (ms_ret (me_tup (ma_cons (me_str) (ma_cons (mv 6) (ma_cons (me_globK (by rfl) T.c_NOUGHT) (ma_nil))))))))))))))
theorem z4d:FnScope ["width","terms","way","nones","ends","number"] ["width","terms","way"] (defScope (top 72)):=⟨rfl,rfl,rfl,by decide +kernel,rfl,by decide +kernel,by decide +kernel⟩
theorem zf {f:Addr}{fd:FuncData} (T:Tx K mg cl) (D:DefAtD K mg "gathered" (top 72) f fd "even") (z4:FG P w K mg base cl 4 "check_width" 1 z6) (z1m:FG P w K mg base cl 1 "way_of" 1 z21) (z3j:FG P w K mg base cl 7 "nones_told" 2 z2t) (z3m:FG P w K mg base cl 3 "summed" 1 z2w) (z3n:FGD P w K mg base cl 10 "taken" 5 z20 "even") (z3a:FG P w K mg base cl 9 "ends_told" 2 z46) (zm:FG P w K mg base cl 8 "with_sign" 3 q_with_sign) (z3e:FG P w K mg base cl 2 "is_nought_below" 2 z2q):FGD P w K mg base cl 11 "gathered" 3 q_gathered "even" :=
  D.fg (N:=["width","terms","way","nones","ends","number"]) (k:=10) z4d rfl (fun _ _ _ _ _ _ _ _=>Mi.ln3 fun _ _ _=>⟨_,rfl,rfl⟩) (fun _ _ _ _ _ _ _ _=>Mi.lm2 fun _ _=>⟨_,rfl,rfl⟩) fun cdv A outer s H E hr =>
    mss_cons (ms_expr (mc z4 hr T.inj (ma_cons (mv 0) (ma_nil)))) (mss_cons (ms_expr (mc z1m hr T.inj (ma_cons (mv 2) (ma_nil)))) (mss_cons (ms_set (i:=3) z4d.nd rfl (Or.inl rfl) (mc z3j hr T.inj (ma_cons (mv 0) (ma_cons (mv 1) (ma_nil))))) (mss_cons (ms_if (z8h (mv 3)) (mss_one (ms_ret (mv 3))) (mss_nil)) (mss_cons (msC (i:=4) z4d.nd rfl (Or.inl rfl) (by decide +kernel) rfl (mi_seq (mv 1)) (fun _ _ _ _=>MC.one (mt_cmp (r_eq (hu64 hr)) (me_item (mv 6) (me_int)) (me_str) (nomark _))) (fun _ _ _ _=>me_item (mv 6) (me_int))) (mss_cons (ms_if (mt_val (mv 4)) (mss_one (ms_ret (mc z3a hr T.inj (ma_cons (mv 0) (ma_cons (mv 4) (ma_nil)))))) (mss_nil)) (mss_cons (ms_set (i:=5) z4d.nd rfl (Or.inl rfl) (mc z3m hr T.inj (ma_cons (mv 1) (ma_nil)))) (mss_cons (ms_if (mt_cmp (r_eq (hu64 hr)) (mv 5) (me_globK (by rfl) T.c_NOUGHT) (nomark _)) (mss_one (ms_ret (me_tup (ma_cons (mc zm hr T.inj (ma_cons (mv 0) (ma_cons (me_int) (ma_cons (mc z3e hr T.inj (ma_cons (mv 1) (ma_cons (mv 2) (ma_nil)))) (ma_nil))))) (ma_cons (me_int) (ma_nil)))))) (mss_nil)) (mss_one (ms_ret (mc z3n.fg hr T.inj (ma_cons (mv 0) (ma_cons (me_item (mv 5) (me_int)) (ma_cons (me_item (mv 5) (me_int)) (ma_cons (me_int) (ma_cons (mv 2) (ma_nil))))))))))))))))
theorem z8b:FnScope ["width","one","other","way"] ["width","one","other","way"] (defScope (top 78)):=⟨rfl,rfl,rfl,by decide +kernel,rfl,by decide +kernel,by decide +kernel⟩
theorem z3o {f:Addr}{fd:FuncData} (T:Tx K mg cl) (D:DefAtD K mg "times" (top 78) f fd "even") (zf:FGD P w K mg base cl 11 "gathered" 3 q_gathered "even") (zt:FG P w K mg base cl 11 "product" 3 q_product):FGD P w K mg base cl 12 "times" 4 z2b "even" :=
  D.fg (N:=["width","one","other","way"]) (k:=11) z8b rfl (fun _ _ _ _ _ _ _ _=>Mi.ln4 fun _ _ _ _=>⟨_,rfl,rfl⟩) (fun _ _ _ _ _ _ _ _=>Mi.lm3 fun _ _ _=>⟨_,rfl,rfl⟩) fun cdv A outer s H E hr =>
    mss_one (ms_ret (mc zf.fg hr T.inj (ma_cons (mv 0) (ma_cons (me_lst (ma_cons (mc zt hr T.inj (ma_cons (mv 0) (ma_cons (mv 1) (ma_cons (mv 2) (ma_nil))))) (ma_nil))) (ma_cons (mv 3) (ma_nil))))))
theorem z7x:FnScope ["width","one","other","third","way"] ["width","one","other","third","way"] (defScope (top 79)):=⟨rfl,rfl,rfl,by decide +kernel,rfl,by decide +kernel,by decide +kernel⟩
theorem z3b {f:Addr}{fd:FuncData} (T:Tx K mg cl) (D:DefAtD K mg "fused" (top 79) f fd "even") (zf:FGD P w K mg base cl 11 "gathered" 3 q_gathered "even") (zt:FG P w K mg base cl 11 "product" 3 q_product) (zl:FG P w K mg base cl 10 "term_of" 2 q_term_of):FGD P w K mg base cl 12 "fused" 5 z29 "even" :=
  D.fg (N:=["width","one","other","third","way"]) (k:=11) z7x rfl (fun _ _ _ _ _ _ _ _=>Mi.ln5 fun _ _ _ _ _=>⟨_,rfl,rfl⟩) (fun _ _ _ _ _ _ _ _=>Mi.lm4 fun _ _ _ _=>⟨_,rfl,rfl⟩) fun cdv A outer s H E hr =>
    mss_one (ms_ret (mc zf.fg hr T.inj (ma_cons (mv 0) (ma_cons (me_lst (ma_cons (mc zt hr T.inj (ma_cons (mv 0) (ma_cons (mv 1) (ma_cons (mv 2) (ma_nil))))) (ma_cons (mc zl hr T.inj (ma_cons (mv 0) (ma_cons (mv 3) (ma_nil)))) (ma_nil)))) (ma_cons (mv 4) (ma_nil))))))
theorem z6l:FnScope ["width","words","way"] ["width","words","way"] (defScope (top 80)):=⟨rfl,rfl,rfl,by decide +kernel,rfl,by decide +kernel,by decide +kernel⟩
theorem z3p {f:Addr}{fd:FuncData} (T:Tx K mg cl) (D:DefAtD K mg "total" (top 80) f fd "even") (zf:FGD P w K mg base cl 11 "gathered" 3 q_gathered "even") (zl:FG P w K mg base cl 10 "term_of" 2 q_term_of):FGD P w K mg base cl 12 "total" 3 z2c "even" :=
  D.fg (N:=["width","words","way"]) (k:=11) z6l rfl (fun _ _ _ _ _ _ _ _=>Mi.ln3 fun _ _ _=>⟨_,rfl,rfl⟩) (fun _ _ _ _ _ _ _ _=>Mi.lm2 fun _ _=>⟨_,rfl,rfl⟩) fun cdv A outer s H E hr =>
    mss_one (ms_ret (mc zf.fg hr T.inj (ma_cons (mv 0) (ma_cons (mcompX z6l.nd (by decide +kernel) rfl (mi_seq (mv 1)) (fun _ _ _ _=>MC.nil) (fun _ _ _ _=>mcX zl hr T.inj (ma_cons (mv 0) (ma_cons (mv 3) (ma_nil))))) (ma_cons (mv 2) (ma_nil))))))
theorem z6h:FnScope ["width","ones","others","way"] ["width","ones","others","way"] (defScope (top 81)):=⟨rfl,rfl,rfl,by decide +kernel,rfl,by decide +kernel,by decide +kernel⟩
theorem za {f:Addr}{fd:FuncData} (T:Tx K mg cl) (D:DefAtD K mg "dots" (top 81) f fd "even") (zf:FGD P w K mg base cl 11 "gathered" 3 q_gathered "even") (zt:FG P w K mg base cl 11 "product" 3 q_product):FGD P w K mg base cl 12 "dots" 4 q_dots_v2 "even" :=
  D.fg (N:=["width","ones","others","way"]) (k:=11) z6h rfl (fun _ _ _ _ _ _ _ _=>Mi.ln4 fun _ _ _ _=>⟨_,rfl,rfl⟩) (fun _ _ _ _ _ _ _ _=>Mi.lm3 fun _ _ _=>⟨_,rfl,rfl⟩) fun cdv A outer s H E hr =>
    mss_cons (ms_if (mt_cmp (r_ne (hu64 hr)) (me_callB c_len (by rfl) T.b_len PySem.boot_len (ma_cons (mv 1) (ma_nil))) (me_callB c_len (by rfl) T.b_len PySem.boot_len (ma_cons (mv 2) (ma_nil))) (nomark _)) (mss_one (ms_raise (c:=5) (T.cls.cls 5 "NoMatch" (at_mem 5 rfl)) own_cx (by rfl) hr.hd (mv_str 74))) (mss_nil)) (mss_one (ms_ret (mc zf.fg hr T.inj (ma_cons (mv 0) (ma_cons (mcompX z6h.nd (by decide +kernel) rfl (mi_range (by rfl) T.b_range (ma_cons (me_callB c_len (by rfl) T.b_len PySem.boot_len (ma_cons (mv 1) (ma_nil))) (ma_nil))) (fun _ _ _ _=>MC.nil) (fun _ _ _ _=>mcX zt hr T.inj (ma_cons (mv 0) (ma_cons (me_item (mv 1) (mv 4)) (ma_cons (me_item (mv 2) (mv 4)) (ma_nil)))))) (ma_cons (mv 3) (ma_nil)))))))
theorem z4b:FnScope ["_law_width","_law_ones","_law_others","_law_name","_law_found","error","_law_kinds"] ["_law_width","_law_ones","_law_others","_law_name"] (defScope (top 93)):=⟨rfl,rfl,rfl,by decide +kernel,rfl,by decide +kernel,by decide +kernel⟩
theorem zv {f:Addr}{fd:FuncData} (T:Tx K mg cl) (D:DefAt K mg "_law_refusal" (top 93) f fd) (za:FGD P w K mg base cl 12 "dots" 4 q_dots_v2 "even"):FG P w K mg base cl 13 "_law_refusal" 4 z7 :=
  D.fg (N:=["_law_width","_law_ones","_law_others","_law_name","_law_found","error","_law_kinds"]) (k:=12) z4b rfl (fun _ _ _ _ _ _=>Mi.ln4 fun _ _ _ _=>rfl) fun cdv A outer s H E hr =>
    mss_cons (ms_set (i:=4) z4b.nd rfl (Or.inl rfl) (me_non)) (mss_cons (ms_try (names:=names) (d:=0) (n:=5) (x:=4) T.cls own_cx (at_mem 0 rfl) (mss_one (ms_expr (mc za.fg hr T.inj (ma_cons (mv 0) (ma_cons (mv 1) (ma_cons (mv 2) (ma_cons (mv 3) (ma_nil)))))))) z4b.nd rfl rfl rfl (Or.inl rfl) (by rfl) (by decide)) (mss_cons (ms_if ((mw_or (mt_val (me_isexc (names:=names) (d:=1) T.cls (at_mem 1 rfl) (mv 4) (by rfl) T.b_isinstance (by rfl))) (mw_or (mt_val (me_isexc (names:=names) (d:=4) T.cls (at_mem 4 rfl) (mv 4) (by rfl) T.b_isinstance (by rfl))) (mw_or1 (mt_val (me_isexc (names:=names) (d:=6) T.cls (at_mem 6 rfl) (mv 4) (by rfl) T.b_isinstance (by rfl)))))).mt) (mss_one (ms_ret (me_non))) (mss_nil)) (mss_cons (ms_if ((mw_or (mt_val (me_isexc (names:=names) (d:=7) T.cls (at_mem 7 rfl) (mv 4) (by rfl) T.b_isinstance (by rfl))) (mw_or (mt_val (me_isexc (names:=names) (d:=8) T.cls (at_mem 8 rfl) (mv 4) (by rfl) T.b_isinstance (by rfl))) (mw_or1 (mt_val (me_isexc (names:=names) (d:=9) T.cls (at_mem 9 rfl) (mv 4) (by rfl) T.b_isinstance (by rfl)))))).mt) (mss_one (ms_ret (me_non))) (mss_nil)) (mss_cons (ms_set (i:=6) z4b.nd rfl (Or.inl rfl) (me_tup (ma_cons (me_isexc (names:=names) (d:=5) T.cls (at_mem 5 rfl) (mv 4) (by rfl) T.b_isinstance (by rfl)) (ma_cons (me_isexc (names:=names) (d:=2) T.cls (at_mem 2 rfl) (mv 4) (by rfl) T.b_isinstance (by rfl)) (ma_cons (me_isexc (names:=names) (d:=3) T.cls (at_mem 3 rfl) (mv 4) (by rfl) T.b_isinstance (by rfl)) (ma_nil)))))) (mss_one (ms_ret (me_bin r_add (mv 6) (me_tup (ma_cons (me_isval (names:=names) T.cls (mv 4) (by rfl) T.b_isinstance (by rfl) T.b_ValueError) (ma_nil))))))))))
theorem z4a:FnScope ["_law_width","_law_ones","_law_others","_law_third","_law_name","_law_first","_law_one","_law_other"] ["_law_width","_law_ones","_law_others","_law_third","_law_name"] (defScope (top 94)):=⟨rfl,rfl,rfl,by decide +kernel,rfl,by decide +kernel,by decide +kernel⟩
theorem z36 {f:Addr}{fd:FuncData} (T:Tx K mg cl) (D:DefAt K mg "_law_pairs_alike" (top 94) f fd) (za:FGD P w K mg base cl 12 "dots" 4 q_dots_v2 "even") (z3p:FGD P w K mg base cl 12 "total" 3 z2c "even") (z3o:FGD P w K mg base cl 12 "times" 4 z2b "even") (z3b:FGD P w K mg base cl 12 "fused" 5 z29 "even"):FG P w K mg base cl 13 "_law_pairs_alike" 5 z2o :=
  D.fg (N:=["_law_width","_law_ones","_law_others","_law_third","_law_name","_law_first","_law_one","_law_other"]) (k:=12) z4a rfl (fun _ _ _ _ _ _=>Mi.ln5 fun _ _ _ _ _=>rfl) fun cdv A outer s H E hr =>
    mss_cons (ms_set (i:=5) z4a.nd rfl (Or.inl rfl) (me_bin r_shl (me_bin r_sub (me_bin r_shl (me_int) (me_bin r_sub (me_item (mv 0) (me_int)) (me_int))) (me_int)) (me_item (mv 0) (me_int)))) (mss_cons (ms_if (mt_cmp (r_ne (hu64 hr)) (mc za.fg hr T.inj (ma_cons (mv 0) (ma_cons (mv 1) (ma_cons (me_rep (ma_cons (mv 5) (ma_nil)) (me_callB c_len (by rfl) T.b_len PySem.boot_len (ma_cons (mv 1) (ma_nil)))) (ma_cons (mv 4) (ma_nil)))))) (mc z3p.fg hr T.inj (ma_cons (mv 0) (ma_cons (mv 1) (ma_cons (mv 4) (ma_nil))))) (nomark _)) (mss_one (ms_ret (me_bl))) (mss_nil)) (mss_cons (ms_forZ own_cx rfl (mgs_cons (i:=6) z4a.nd rfl (Or.inl rfl) (mgs_cons (i:=7) z4a.nd rfl (Or.inl rfl) (mgs_nil))) (show ∀ i∈([6,7]:List Nat),i<8 by decide) (me_cut (mv 1) (mo_none) (mo_some (me_int))) (me_cut (mv 2) (mo_none) (mo_some (me_int))) (by rfl) T.b_zip (mss_cons (ms_if (mt_cmp (r_ne (hu64 hr)) (mc za.fg hr T.inj (ma_cons (mv 0) (ma_cons (me_lst (ma_cons (mv 6) (ma_nil))) (ma_cons (me_lst (ma_cons (mv 7) (ma_nil))) (ma_cons (mv 4) (ma_nil)))))) (mc z3o.fg hr T.inj (ma_cons (mv 0) (ma_cons (mv 6) (ma_cons (mv 7) (ma_cons (mv 4) (ma_nil)))))) (nomark _)) (mss_one (ms_ret (me_bl))) (mss_nil)) (mss_one (ms_if (mt_cmp (r_ne (hu64 hr)) (mc za.fg hr T.inj (ma_cons (mv 0) (ma_cons (me_lst (ma_cons (mv 6) (ma_cons (mv 3) (ma_nil)))) (ma_cons (me_lst (ma_cons (mv 7) (ma_cons (mv 5) (ma_nil)))) (ma_cons (mv 4) (ma_nil)))))) (mc z3b.fg hr T.inj (ma_cons (mv 0) (ma_cons (mv 6) (ma_cons (mv 7) (ma_cons (mv 3) (ma_cons (mv 4) (ma_nil))))))) (nomark _)) (mss_one (ms_ret (me_bl))) (mss_nil))))) (mss_one (ms_ret (me_cmp (r_eq (hu64 hr)) (mcD za hr T.inj (ma_cons (mv 0) (ma_cons (mv 1) (ma_cons (mv 2) (ma_nil))))) (mc za.fg hr T.inj (ma_cons (mv 0) (ma_cons (mv 1) (ma_cons (mv 2) (ma_cons (me_str) (ma_nil)))))) (nomark _))))))
theorem zc:FnScope ["_law_script","_law_wide_here","_law_width","_law_pick","_law_name","_law_handed","_law_found","_law_at","_law_odd","_law_stranger","_law_longer","_law_third","_law_ones","_law_others"] ["_law_script"] (defScope (top 95)):=⟨rfl,rfl,rfl,by decide +kernel,rfl,by decide +kernel,by decide +kernel⟩
theorem o_law {f:Addr}{fd:FuncData} (T:Tx K mg cl) (D:DefAt K mg "law" (top 95) f fd) (z38:FG P w K mg base cl 1 "_law_wide" 1 z28) (z1n:FG P w K mg base cl 3 "width_of" 2 z22) (z35:FG P w K mg base cl 2 "_law_lists" 2 z2n) (za:FGD P w K mg base cl 12 "dots" 4 q_dots_v2 "even") (z25:FG P w K mg base cl 1 "_law_cell_at" 2 z14) (zv:FG P w K mg base cl 13 "_law_refusal" 4 z7) (z36:FG P w K mg base cl 13 "_law_pairs_alike" 5 z2o) (z34:FG P w K mg base cl 3 "_law_good" 5 q_Lgood_v22):FnOk P w K mg base (CXm cl P w) 14 f fd ["_law_script"] (spF K cl 1 q_law_v75) :=
  fn_mirror (N:=["_law_script","_law_wide_here","_law_width","_law_pick","_law_name","_law_handed","_law_found","_law_at","_law_odd","_law_stranger","_law_longer","_law_third","_law_ones","_law_others"]) (k:=13) D.fn zc rfl fun cdv A outer s H E hr =>
    mss_cons (ms_set (i:=1) zc.nd rfl (Or.inl rfl) (mc z38 hr T.inj (ma_cons (mc z25 hr T.inj (ma_cons (mv 0) (ma_cons (me_int) (ma_nil)))) (ma_nil)))) (mss_cons (ms_set (i:=2) zc.nd rfl (Or.inl rfl) (mc z1n hr T.inj (ma_cons (me_item (mv 1) (me_int)) (ma_cons (me_item (mv 1) (me_int)) (ma_nil))))) (mss_cons (ms_set (i:=3) zc.nd rfl (Or.inl rfl) (me_bin r_mod (me_bin r_mul (mc z25 hr T.inj (ma_cons (mv 0) (ma_cons (me_int) (ma_nil)))) (me_int)) (me_int))) (mss_cons (ms_set (i:=4) zc.nd rfl (Or.inl rfl) (me_item (me_lst (ma_cons (me_str) (ma_cons (me_str) (ma_cons (me_str) (ma_cons (me_str) (ma_cons (me_str) (ma_nil))))))) (me_bin r_mod (mv 3) (me_int)))) (mss_cons (ms_unpack rfl (mc z35 hr T.inj (ma_cons (mv 1) (ma_cons (me_cut (mv 0) (mo_some (me_int)) (mo_some (me_int))) (ma_nil)))) (mgs_cons (i:=12) zc.nd rfl (Or.inl rfl) (mgs_cons (i:=13) zc.nd rfl (Or.inl rfl) (mgs_nil))) (show ∀ i∈([12,13]:List Nat),i<14 by decide)) (mss_cons (ms_set (i:=5) zc.nd rfl (Or.inl rfl) (me_lst (ma_cons (me_callTy c_list (by rfl) T.b_list boot_list (ma_cons (mv 12) (ma_nil))) (ma_cons (me_callTy c_list (by rfl) T.b_list boot_list (ma_cons (mv 13) (ma_nil))) (ma_nil))))) (mss_cons (ms_set (i:=6) zc.nd rfl (Or.inl rfl) (mc za.fg hr T.inj (ma_cons (mv 2) (ma_cons (me_item (mv 5) (me_int)) (ma_cons (me_item (mv 5) (me_int)) (ma_cons (mv 4) (ma_nil))))))) (mss_cons (ms_if ((mw_or (mt_not (mt_val (mc z34 hr T.inj (ma_cons (mv 1) (ma_cons (mv 6) (ma_cons (mv 12) (ma_cons (mv 13) (ma_cons (mv 4) (ma_nil))))))))) (mw_or1 (mt_cmp (r_ne (hu64 hr)) (mc za.fg hr T.inj (ma_cons (mv 2) (ma_cons (me_item (mv 5) (me_int)) (ma_cons (me_item (mv 5) (me_int)) (ma_cons (mv 4) (ma_nil)))))) (mv 6) (nomark _)))).mt) (mss_one (ms_ret (me_bl))) (mss_nil)) (mss_cons (ms_set (i:=7) zc.nd rfl (Or.inl rfl) (me_bin r_mod (me_bin r_div (mv 3) (me_int)) (me_bin r_add (me_callB c_len (by rfl) T.b_len PySem.boot_len (ma_cons (mv 12) (ma_nil))) (me_int)))) (mss_cons (ms_for (i:=8) own_cx rfl zc.nd rfl (Or.inl rfl) (mi_seq (me_lst (ma_cons (me_int) (ma_cons (me_una r_neg (me_int)) (ma_nil))))) (mss_cons (ms_set (i:=10) zc.nd rfl (Or.inl rfl) (me_bin r_add (me_bin r_add (me_cut (mv 12) (mo_none) (mo_some (mv 7))) (me_lst (ma_cons (mv 8) (ma_nil)))) (me_cut (mv 12) (mo_some (mv 7)) (mo_none)))) (mss_cons (ms_if (mt_cmp (r_ne (hu64 hr)) (mc zv hr T.inj (ma_cons (mv 2) (ma_cons (mv 10) (ma_cons (mv 13) (ma_cons (mv 4) (ma_nil)))))) (me_tup (ma_cons (me_bl) (ma_cons (me_bl) (ma_cons (me_bl) (ma_cons (me_bl) (ma_nil)))))) (nomark _)) (mss_one (ms_ret (me_bl))) (mss_nil)) (mss_one (ms_if (mt_cmp (r_ne (hu64 hr)) (mc zv hr T.inj (ma_cons (mv 2) (ma_cons (mv 13) (ma_cons (mv 10) (ma_cons (me_bin r_add (mv 4) (me_str)) (ma_nil)))))) (me_tup (ma_cons (me_bl) (ma_cons (me_bl) (ma_cons (me_bl) (ma_cons (me_bl) (ma_nil)))))) (nomark _)) (mss_one (ms_ret (me_bl))) (mss_nil)))))) (mss_cons (ms_set (i:=9) zc.nd rfl (Or.inl rfl) (me_item (me_lst (ma_cons (me_bin r_shl (me_int) (me_bin r_add (me_item (mv 1) (me_int)) (me_item (mv 1) (me_int)))) (ma_cons (me_una r_neg (me_int)) (ma_cons (me_non) (ma_nil))))) (me_bin r_mod (me_bin r_div (mv 3) (me_int)) (me_int)))) (mss_cons (ms_set (i:=10) zc.nd rfl (Or.inl rfl) (me_bin r_add (me_bin r_add (me_cut (mv 13) (mo_none) (mo_some (mv 7))) (me_lst (ma_cons (mv 9) (ma_nil)))) (me_cut (mv 13) (mo_some (mv 7)) (mo_none)))) (mss_cons (ms_if (mt_cmp (r_ne (hu64 hr)) (mc zv hr T.inj (ma_cons (mv 2) (ma_cons (me_bin r_add (mv 12) (me_lst (ma_cons (me_int) (ma_nil)))) (ma_cons (mv 10) (ma_cons (me_bin r_add (mv 4) (me_str)) (ma_nil)))))) (me_tup (ma_cons (me_bl) (ma_cons (me_bl) (ma_cons (me_bl) (ma_cons (me_bl) (ma_nil)))))) (nomark _)) (mss_one (ms_ret (me_bl))) (mss_nil)) (mss_cons (ms_set (i:=10) zc.nd rfl (Or.inl rfl) (me_bin r_add (me_bin r_add (me_cut (mv 12) (mo_none) (mo_some (mv 7))) (me_lst (ma_cons (mv 9) (ma_nil)))) (me_cut (mv 12) (mo_some (mv 7)) (mo_none)))) (mss_cons (ms_if (mt_cmp (r_ne (hu64 hr)) (mc zv hr T.inj (ma_cons (mv 2) (ma_cons (mv 10) (ma_cons (me_bin r_add (mv 13) (me_lst (ma_cons (me_int) (ma_nil)))) (ma_cons (mv 4) (ma_nil)))))) (me_tup (ma_cons (me_bl) (ma_cons (me_bl) (ma_cons (me_bl) (ma_cons (me_bl) (ma_nil)))))) (nomark _)) (mss_one (ms_ret (me_bl))) (mss_nil)) (mss_cons (ms_if (mt_cmp (r_ne (hu64 hr)) (mc zv hr T.inj (ma_cons (mv 2) (ma_cons (mv 12) (ma_cons (mv 13) (ma_cons (me_bin r_add (mv 4) (me_str)) (ma_nil)))))) (me_tup (ma_cons (me_bl) (ma_cons (me_bl) (ma_cons (me_bl) (ma_cons (me_bl) (ma_nil)))))) (nomark _)) (mss_one (ms_ret (me_bl))) (mss_nil)) (mss_cons (ms_if (mt_cmp (r_ne (hu64 hr)) (mc zv hr T.inj (ma_cons (mv 2) (ma_cons (me_lst (ma_nil)) (ma_cons (me_lst (ma_nil)) (ma_cons (me_non) (ma_nil)))))) (me_tup (ma_cons (me_bl) (ma_cons (me_bl) (ma_cons (me_bl) (ma_cons (me_bl) (ma_nil)))))) (nomark _)) (mss_one (ms_ret (me_bl))) (mss_nil)) (mss_cons (ms_set (i:=11) zc.nd rfl (Or.inl rfl) (me_bin r_mod (me_bin r_mod (me_bin r_mul (mc z25 hr T.inj (ma_cons (mv 0) (ma_cons (me_int) (ma_nil)))) (me_int)) (me_bin r_add (me_bin r_pow (me_int) (me_int)) (me_int))) (me_bin r_shl (me_bin r_sub (me_bin r_shl (me_int) (me_item (mv 1) (me_int))) (me_int)) (me_item (mv 1) (me_int))))) (mss_cons (ms_if (mt_not (mt_val (mc z36 hr T.inj (ma_cons (mv 2) (ma_cons (mv 12) (ma_cons (mv 13) (ma_cons (mv 11) (ma_cons (mv 4) (ma_nil))))))))) (mss_one (ms_ret (me_bl))) (mss_nil)) (mss_one (ms_ret (me_cmp (r_eq (hu64 hr)) (mv 5) (me_lst (ma_cons (mv 12) (ma_cons (mv 13) (ma_nil)))) (nomark _))))))))))))))))))))))
end
theorem all {P:Program}{w:World}{K:PySem.W.Frag}{mg:Str→Option Value}{cl:Nat→Addr}{fa:Addr} (hfa:mg "law"=some (.ref fa)) (T:Tx K mg cl)
    {f53_0:Addr}{fd53_0:FuncData} (D53_0:MethAt K cl 21 "grows" "Even.grows" (inClass (top 53) 0) f53_0 fd53_0)
    {f54_0:Addr}{fd54_0:FuncData} (D54_0:MethAt K cl 22 "grows" "Away.grows" (inClass (top 54) 0) f54_0 fd54_0)
    {f55_0:Addr}{fd55_0:FuncData} (D55_0:MethAt K cl 23 "grows" "Inward.grows" (inClass (top 55) 0) f55_0 fd55_0)
    {f56_0:Addr}{fd56_0:FuncData} (D56_0:MethAt K cl 24 "grows" "Upward.grows" (inClass (top 56) 0) f56_0 fd56_0)
    {f57_0:Addr}{fd57_0:FuncData} (D57_0:MethAt K cl 25 "grows" "Downward.grows" (inClass (top 57) 0) f57_0 fd57_0)
    {f16:Addr}{fd16:FuncData} (D16:DefAt K mg "is_whole" (top 16) f16 fd16)
    {f24:Addr}{fd24:FuncData} (D24:DefAt K mg "all_ones" (top 24) f24 fd24)
    {f32:Addr}{fd32:FuncData} (D32:DefAt K mg "highest_of_fraction" (top 32) f32 fd32)
    {f33:Addr}{fd33:FuncData} (D33:DefAt K mg "sign_bit" (top 33) f33 fd33)
    {f38:Addr}{fd38:FuncData} (D38:DefAt K mg "exact" (top 38) f38 fd38)
    {f39:Addr}{fd39:FuncData} (D39:DefAt K mg "steps_of" (top 39) f39 fd39)
    {f48:Addr}{fd48:FuncData} (D48:DefAt K mg "as_quotient" (top 48) f48 fd48)
    {f58:Addr}{fd58:FuncData} (D58:DefAt K mg "way_of" (top 58) f58 fd58)
    {f70:Addr}{fd70:FuncData} (D70:DefAt K mg "is_nought" (top 70) f70 fd70)
    {f83:Addr}{fd83:FuncData} (D83:DefAt K mg "_law_cell_at" (top 83) f83 fd83)
    {f84:Addr}{fd84:FuncData} (D84:DefAt K mg "_law_whole" (top 84) f84 fd84)
    {f85:Addr}{fd85:FuncData} (D85:DefAt K mg "_law_wide" (top 85) f85 fd85)
    {f86:Addr}{fd86:FuncData} (D86:DefAt K mg "_law_number" (top 86) f86 fd86)
    {f88:Addr}{fd88:FuncData} (D88:DefAt K mg "_law_steps" (top 88) f88 fd88)
    {f90:Addr}{fd90:FuncData} (D90:DefAt K mg "_law_grown" (top 90) f90 fd90)
    {f17:Addr}{fd17:FuncData} (D17:DefAt K mg "is_within" (top 17) f17 fd17)
    {f40:Addr}{fd40:FuncData} (D40:DefAt K mg "added" (top 40) f40 fd40)
    {f41:Addr}{fd41:FuncData} (D41:DefAt K mg "multiplied" (top 41) f41 fd41)
    {f49:Addr}{fd49:FuncData} (D49:DefAt K mg "height_of" (top 49) f49 fd49)
    {f50:Addr}{fd50:FuncData} (D50:DefAt K mg "in_steps" (top 50) f50 fd50)
    {f62:Addr}{fd62:FuncData} (D62:DefAt K mg "steps_taken" (top 62) f62 fd62)
    {f76:Addr}{fd76:FuncData} (D76:DefAt K mg "is_nought_below" (top 76) f76 fd76)
    {f87:Addr}{fd87:FuncData} (D87:DefAt K mg "_law_lists" (top 87) f87 fd87)
    {f89:Addr}{fd89:FuncData} (D89:DefAt K mg "_law_signed" (top 89) f89 fd89)
    {f91:Addr}{fd91:FuncData} (D91:DefAt K mg "_law_right" (top 91) f91 fd91)
    {f18:Addr}{fd18:FuncData} (D18:DefAt K mg "width_of" (top 18) f18 fd18)
    {f26:Addr}{fd26:FuncData} (D26:DefAt K mg "check_part" (top 26) f26 fd26)
    {f75:Addr}{fd75:FuncData} (D75:DefAt K mg "summed" (top 75) f75 fd75)
    {f92:Addr}{fd92:FuncData} (D92:DefAt K mg "_law_good" (top 92) f92 fd92)
    {f19:Addr}{fd19:FuncData} (D19:DefAt K mg "check_width" (top 19) f19 fd19)
    {f20:Addr}{fd20:FuncData} (D20:DefAt K mg "many_words" (top 20) f20 fd20)
    {f21:Addr}{fd21:FuncData} (D21:DefAt K mg "bias_of" (top 21) f21 fd21)
    {f28:Addr}{fd28:FuncData} (D28:DefAt K mg "joined" (top 28) f28 fd28)
    {f22:Addr}{fd22:FuncData} (D22:DefAt K mg "least_power" (top 22) f22 fd22)
    {f25:Addr}{fd25:FuncData} (D25:DefAt K mg "check_word" (top 25) f25 fd25)
    {f30:Addr}{fd30:FuncData} (D30:DefAt K mg "none_of" (top 30) f30 fd30)
    {f31:Addr}{fd31:FuncData} (D31:DefAt K mg "endless_of" (top 31) f31 fd31)
    {f64:Addr}{fd64:FuncData} (D64:DefAt K mg "marks_of" (top 64) f64 fd64)
    {f27:Addr}{fd27:FuncData} (D27:DefAt K mg "cut" (top 27) f27 fd27)
    {f34:Addr}{fd34:FuncData} (D34:DefAt K mg "turned" (top 34) f34 fd34)
    {f35:Addr}{fd35:FuncData} (D35:DefAt K mg "unsigned" (top 35) f35 fd35)
    {f61:Addr}{fd61:FuncData} (D61:DefAt K mg "step_power" (top 61) f61 fd61)
    {f73:Addr}{fd73:FuncData} (D73:DefAt K mg "nones_told" (top 73) f73 fd73)
    {f29:Addr}{fd29:FuncData} (D29:DefAt K mg "kind_of" (top 29) f29 fd29)
    {f36:Addr}{fd36:FuncData} (D36:DefAt K mg "with_sign" (top 36) f36 fd36)
    {f42:Addr}{fd42:FuncData} (D42:DefAt K mg "value_of" (top 42) f42 fd42)
    {f63:Addr}{fd63:FuncData} (D63:DefAt K mg "settled" (top 63) f63 fd63)
    {f74:Addr}{fd74:FuncData} (D74:DefAt K mg "ends_told" (top 74) f74 fd74)
    {f60:Addr}{fd60:FuncData} (D60:DefAtD K mg "taken" (top 60) f60 fd60 "even")
    {f69:Addr}{fd69:FuncData} (D69:DefAt K mg "term_of" (top 69) f69 fd69)
    {f71:Addr}{fd71:FuncData} (D71:DefAt K mg "product" (top 71) f71 fd71)
    {f72:Addr}{fd72:FuncData} (D72:DefAtD K mg "gathered" (top 72) f72 fd72 "even")
    {f78:Addr}{fd78:FuncData} (D78:DefAtD K mg "times" (top 78) f78 fd78 "even")
    {f79:Addr}{fd79:FuncData} (D79:DefAtD K mg "fused" (top 79) f79 fd79 "even")
    {f80:Addr}{fd80:FuncData} (D80:DefAtD K mg "total" (top 80) f80 fd80 "even")
    {f81:Addr}{fd81:FuncData} (D81:DefAtD K mg "dots" (top 81) f81 fd81 "even")
    {f93:Addr}{fd93:FuncData} (D93:DefAt K mg "_law_refusal" (top 93) f93 fd93)
    {f94:Addr}{fd94:FuncData} (D94:DefAt K mg "_law_pairs_alike" (top 94) f94 fd94)
    {f95:Addr}{fd95:FuncData} (D95:DefAt K mg "law" (top 95) f95 fd95) :
    ∃ fd:FuncData,(∀ (s:Shared) (u:Value),BindsTo s fd ⟨[u],[]⟩ [("_law_script",u)])∧∀ base:Heap,K.In base→base.Ns mainGlobals mg→FnOk P w K mg base (CXm cl P w) 14 fa fd ["_law_script"] (spF K cl 1 q_law_v75):=by
  have e:=hfa.symm.trans D95.mg
  cases e
  refine ⟨fd95,?_,fun base _ _=>?_⟩
  · obtain ⟨oc,od,kV,doc,pm,an,cdv,ct,osl,rfl,lk,hcd⟩:=D95.fn.ex
    exact fun s v=>.of_eq rfl
  ·
    have z4v:MG P w K mg base cl 1 21 "grows" 3 z50:=z4v T D53_0
    have z4t:MG P w K mg base cl 1 22 "grows" 3 z4y:=z4t T D54_0
    have z4w:MG P w K mg base cl 1 23 "grows" 3 z51:=z4w T D55_0
    have z4x:MG P w K mg base cl 1 24 "grows" 3 z53:=z4x T D56_0
    have z4u:MG P w K mg base cl 1 25 "grows" 3 z4z:=z4u T D57_0
    have z3f:FG P w K mg base cl 1 "is_whole" 1 z1u:=z3f T D16
    have z5:FG P w K mg base cl 1 "all_ones" 1 ze:=z5 T D24
    have z1h:FG P w K mg base cl 1 "highest_of_fraction" 1 z1t:=z1h T D32
    have z1k:FG P w K mg base cl 1 "sign_bit" 1 z1z:=z1k T D33
    have zr:FG P w K mg base cl 1 "exact" 2 z8:=zr T D38
    have z2m:FG P w K mg base cl 1 "steps_of" 2 z2v:=z2m T D39
    have z1e:FG P w K mg base cl 1 "as_quotient" 3 z15:=z1e T D48
    have z1m:FG P w K mg base cl 1 "way_of" 1 z21:=z1m T D58
    have z12:FG P w K mg base cl 1 "is_nought" 1 zg:=z12 T D70
    have z25:FG P w K mg base cl 1 "_law_cell_at" 2 z14:=z25 T D83
    have z2l:FG P w K mg base cl 1 "_law_whole" 1 z27:=z2l T D84
    have z38:FG P w K mg base cl 1 "_law_wide" 1 z28:=z38 T D85
    have z2j:FG P w K mg base cl 1 "_law_number" 3 zx:=z2j T D86
    have zj:FG P w K mg base cl 1 "_law_steps" 2 zu:=zj T D88
    have z2i:FG P w K mg base cl 1 "_law_grown" 5 zh:=z2i T D90
    have zk:FG P w K mg base cl 2 "is_within" 3 zb:=zk T D17 z3f
    have z39:FG P w K mg base cl 2 "added" 2 z1o:=z39 T D40 zr z2m
    have z3i:FG P w K mg base cl 2 "multiplied" 2 z1x:=z3i T D41 zr
    have z3c:FG P w K mg base cl 2 "height_of" 3 z1s:=z3c T D49 z1e
    have z3d:FG P w K mg base cl 2 "in_steps" 4 zy:=z3d T D50 z1e
    have m_grows:FM P w K mg base cl 1 "grows" 3 z2g:=fm_cons z4v (fm_cons z4t (fm_cons z4w (fm_cons z4x (fm_cons z4u (fm_nil)))))
    have z3l:FG P w K mg base cl 2 "steps_taken" 3 z2a:=z3l T D62 m_grows
    have z3e:FG P w K mg base cl 2 "is_nought_below" 2 z2q:=z3e T D76 z12
    have z35:FG P w K mg base cl 2 "_law_lists" 2 z2n:=z35 T D87 z2j
    have z2k:FG P w K mg base cl 2 "_law_signed" 2 zn:=z2k T D89 zj
    have z37:FG P w K mg base cl 2 "_law_right" 5 zd:=z37 T D91 zj z2i
    have z1n:FG P w K mg base cl 3 "width_of" 2 z22:=z1n T D18 zk
    have z26:FG P w K mg base cl 3 "check_part" 2 z1q:=z26 T D26 zk z5
    have z3m:FG P w K mg base cl 3 "summed" 1 z2w:=z3m T D75 z39
    have z34:FG P w K mg base cl 3 "_law_good" 5 q_Lgood_v22:=z34 T D92 z37 z2l z2k
    have z4:FG P w K mg base cl 4 "check_width" 1 z6:=z4 T D19 z1n
    have z3g:FG P w K mg base cl 5 "many_words" 1 z2s:=z3g T D20 z4
    have z1f:FG P w K mg base cl 5 "bias_of" 1 z1p:=z1f T D21 z4
    have z1i:FG P w K mg base cl 5 "joined" 4 z1v:=z1i T D28 z4 z26
    have g_least_power:FG P w K mg base cl 6 "least_power" 1 q_least_power:=g_least_power T D22 z1f
    have zq:FG P w K mg base cl 6 "check_word" 2 zo:=zq T D25 zk z3g
    have z13:FG P w K mg base cl 6 "none_of" 1 z16:=z13 T D30 z4 z1i z5 z1h
    have z1g:FG P w K mg base cl 6 "endless_of" 1 z1r:=z1g T D31 z4 z1i z5
    have z3h:FG P w K mg base cl 6 "marks_of" 3 z1w:=z3h T D64 z1f
    have z8j:FG P w K mg base cl 7 "cut" 2 z8o:=z8j T D27 zq z5
    have z3q:FG P w K mg base cl 7 "turned" 2 z2d:=z3q T D34 zq z1k
    have z3r:FG P w K mg base cl 7 "unsigned" 2 z2e:=z3r T D35 zq z1k
    have z1l:FG P w K mg base cl 7 "step_power" 2 z10:=z1l T D61 g_least_power
    have z3j:FG P w K mg base cl 7 "nones_told" 2 z2t:=z3j T D73 z13
    have z1j:FG P w K mg base cl 8 "kind_of" 2 zi:=z1j T D29 z8j z5 z1h
    have zm:FG P w K mg base cl 8 "with_sign" 3 q_with_sign:=zm T D36 z3q
    have z3s:FG P w K mg base cl 9 "value_of" 2 z17:=z3s T D42 z1j z8j g_least_power zr
    have z3k:FG P w K mg base cl 9 "settled" 5 z1y:=z3k T D63 z1g z1l g_least_power z3l zm z3h m_grows
    have z3a:FG P w K mg base cl 9 "ends_told" 2 z46:=z3a T D74 zm z13 z1g
    have z3n:FGD P w K mg base cl 10 "taken" 5 z20 "even":=z3n T D60 z4 z1m z3c z3d z3k z1l
    have zl:FG P w K mg base cl 10 "term_of" 2 q_term_of:=zl T D69 z1j z3s z8j z3r
    have zt:FG P w K mg base cl 11 "product" 3 q_product:=zt T D71 zl z12 z3i
    have zf:FGD P w K mg base cl 11 "gathered" 3 q_gathered "even":=zf T D72 z4 z1m z3j z3m z3n z3a zm z3e
    have z3o:FGD P w K mg base cl 12 "times" 4 z2b "even":=z3o T D78 zf zt
    have z3b:FGD P w K mg base cl 12 "fused" 5 z29 "even":=z3b T D79 zf zt zl
    have z3p:FGD P w K mg base cl 12 "total" 3 z2c "even":=z3p T D80 zf zl
    have za:FGD P w K mg base cl 12 "dots" 4 q_dots_v2 "even":=za T D81 zf zt
    have zv:FG P w K mg base cl 13 "_law_refusal" 4 z7:=zv T D93 za
    have z36:FG P w K mg base cl 13 "_law_pairs_alike" 5 z2o:=z36 T D94 za z3p z3o z3b
    exact o_law T D95 z38 z1n z35 za z25 zv z36 z34
theorem fin {P:Program}{w:World}{K:PySem.W.Frag}{mg:Str→Option Value}{fa:Addr}{h:Heap} (X:K.In h) (G:h.Ns mainGlobals mg) (hfa:mg "law"=some (.ref fa)) (hcls:clsOk2 K anames names=true) (hways:waysOk K wnames=true) (z_ValueError:PySem.W.nsIn K mainGlobals "ValueError"=some none) (z_abs:PySem.W.nsIn K mainGlobals "abs"=some none) (z_all:PySem.W.nsIn K mainGlobals "all"=some none) (z_any:PySem.W.nsIn K mainGlobals "any"=some none) (z_bool:PySem.W.nsIn K mainGlobals "bool"=some none) (z_int:PySem.W.nsIn K mainGlobals "int"=some none) (z_isinstance:PySem.W.nsIn K mainGlobals "isinstance"=some none) (z_len:PySem.W.nsIn K mainGlobals "len"=some none) (z_list:PySem.W.nsIn K mainGlobals "list"=some none) (z_max:PySem.W.nsIn K mainGlobals "max"=some none) (z_min:PySem.W.nsIn K mainGlobals "min"=some none) (z_range:PySem.W.nsIn K mainGlobals "range"=some none) (z_sum:PySem.W.nsIn K mainGlobals "sum"=some none) (z_tuple:PySem.W.nsIn K mainGlobals "tuple"=some none) (z_zip:PySem.W.nsIn K mainGlobals "zip"=some none) {t_LEAST_E:Tok} (y_LEAST_E:PySem.W.nsIn K mainGlobals "LEAST_E"=some (some (.int 2 t_LEAST_E))) {t_MOST_E:Tok} (y_MOST_E:PySem.W.nsIn K mainGlobals "MOST_E"=some (some (.int 11 t_MOST_E))) {t_LEAST_F:Tok} (y_LEAST_F:PySem.W.nsIn K mainGlobals "LEAST_F"=some (some (.int 1 t_LEAST_F))) {t_MOST_F:Tok} (y_MOST_F:PySem.W.nsIn K mainGlobals "MOST_F"=some (some (.int 60 t_MOST_F))) {t_WRONG:Tok} (y_WRONG:PySem.W.nsIn K mainGlobals "WRONG"=some (some (.int 1 t_WRONG))) {t_GREAT:Tok} (y_GREAT:PySem.W.nsIn K mainGlobals "GREAT"=some (some (.int 4 t_GREAT))) {t_SMALL:Tok} (y_SMALL:PySem.W.nsIn K mainGlobals "SMALL"=some (some (.int 8 t_SMALL))) {t_NEAR:Tok} (y_NEAR:PySem.W.nsIn K mainGlobals "NEAR"=some (some (.int 16 t_NEAR))) {u_NOUGHT:Value} (y_NOUGHT:PySem.W.nsIn K mainGlobals "NOUGHT"=some (some u_NOUGHT)) (k_NOUGHT:kRepB K 4 u_NOUGHT (.tup [.int 0,.int 0])=true) {u_LOUD_TERM:Value} (y_LOUD_TERM:PySem.W.nsIn K mainGlobals "LOUD_TERM"=some (some u_LOUD_TERM)) (k_LOUD_TERM:kRepB K 4 u_LOUD_TERM (.tup [.str "wrong",.bl false,.tup [.int 0,.int 0]])=true) {u_STILL_TERM:Value} (y_STILL_TERM:PySem.W.nsIn K mainGlobals "STILL_TERM"=some (some u_STILL_TERM)) (k_STILL_TERM:kRepB K 4 u_STILL_TERM (.tup [.str "none",.bl false,.tup [.int 0,.int 0]])=true)
    (E53_0:∃ f fd,MethAt K (clOf K anames) 21 "grows" "Even.grows" (inClass (top 53) 0) f fd)
    (E54_0:∃ f fd,MethAt K (clOf K anames) 22 "grows" "Away.grows" (inClass (top 54) 0) f fd)
    (E55_0:∃ f fd,MethAt K (clOf K anames) 23 "grows" "Inward.grows" (inClass (top 55) 0) f fd)
    (E56_0:∃ f fd,MethAt K (clOf K anames) 24 "grows" "Upward.grows" (inClass (top 56) 0) f fd)
    (E57_0:∃ f fd,MethAt K (clOf K anames) 25 "grows" "Downward.grows" (inClass (top 57) 0) f fd)
    (E16:∃ f fd,DefAt K mg "is_whole" (top 16) f fd)
    (E24:∃ f fd,DefAt K mg "all_ones" (top 24) f fd)
    (E32:∃ f fd,DefAt K mg "highest_of_fraction" (top 32) f fd)
    (E33:∃ f fd,DefAt K mg "sign_bit" (top 33) f fd)
    (E38:∃ f fd,DefAt K mg "exact" (top 38) f fd)
    (E39:∃ f fd,DefAt K mg "steps_of" (top 39) f fd)
    (E48:∃ f fd,DefAt K mg "as_quotient" (top 48) f fd)
    (E58:∃ f fd,DefAt K mg "way_of" (top 58) f fd)
    (E70:∃ f fd,DefAt K mg "is_nought" (top 70) f fd)
    (E83:∃ f fd,DefAt K mg "_law_cell_at" (top 83) f fd)
    (E84:∃ f fd,DefAt K mg "_law_whole" (top 84) f fd)
    (E85:∃ f fd,DefAt K mg "_law_wide" (top 85) f fd)
    (E86:∃ f fd,DefAt K mg "_law_number" (top 86) f fd)
    (E88:∃ f fd,DefAt K mg "_law_steps" (top 88) f fd)
    (E90:∃ f fd,DefAt K mg "_law_grown" (top 90) f fd)
    (E17:∃ f fd,DefAt K mg "is_within" (top 17) f fd)
    (E40:∃ f fd,DefAt K mg "added" (top 40) f fd)
    (E41:∃ f fd,DefAt K mg "multiplied" (top 41) f fd)
    (E49:∃ f fd,DefAt K mg "height_of" (top 49) f fd)
    (E50:∃ f fd,DefAt K mg "in_steps" (top 50) f fd)
    (E62:∃ f fd,DefAt K mg "steps_taken" (top 62) f fd)
    (E76:∃ f fd,DefAt K mg "is_nought_below" (top 76) f fd)
    (E87:∃ f fd,DefAt K mg "_law_lists" (top 87) f fd)
    (E89:∃ f fd,DefAt K mg "_law_signed" (top 89) f fd)
    (E91:∃ f fd,DefAt K mg "_law_right" (top 91) f fd)
    (E18:∃ f fd,DefAt K mg "width_of" (top 18) f fd)
    (E26:∃ f fd,DefAt K mg "check_part" (top 26) f fd)
    (E75:∃ f fd,DefAt K mg "summed" (top 75) f fd)
    (E92:∃ f fd,DefAt K mg "_law_good" (top 92) f fd)
    (E19:∃ f fd,DefAt K mg "check_width" (top 19) f fd)
    (E20:∃ f fd,DefAt K mg "many_words" (top 20) f fd)
    (E21:∃ f fd,DefAt K mg "bias_of" (top 21) f fd)
    (E28:∃ f fd,DefAt K mg "joined" (top 28) f fd)
    (E22:∃ f fd,DefAt K mg "least_power" (top 22) f fd)
    (E25:∃ f fd,DefAt K mg "check_word" (top 25) f fd)
    (E30:∃ f fd,DefAt K mg "none_of" (top 30) f fd)
    (E31:∃ f fd,DefAt K mg "endless_of" (top 31) f fd)
    (E64:∃ f fd,DefAt K mg "marks_of" (top 64) f fd)
    (E27:∃ f fd,DefAt K mg "cut" (top 27) f fd)
    (E34:∃ f fd,DefAt K mg "turned" (top 34) f fd)
    (E35:∃ f fd,DefAt K mg "unsigned" (top 35) f fd)
    (E61:∃ f fd,DefAt K mg "step_power" (top 61) f fd)
    (E73:∃ f fd,DefAt K mg "nones_told" (top 73) f fd)
    (E29:∃ f fd,DefAt K mg "kind_of" (top 29) f fd)
    (E36:∃ f fd,DefAt K mg "with_sign" (top 36) f fd)
    (E42:∃ f fd,DefAt K mg "value_of" (top 42) f fd)
    (E63:∃ f fd,DefAt K mg "settled" (top 63) f fd)
    (E74:∃ f fd,DefAt K mg "ends_told" (top 74) f fd)
    (E60:∃ f fd,DefAtD K mg "taken" (top 60) f fd "even")
    (E69:∃ f fd,DefAt K mg "term_of" (top 69) f fd)
    (E71:∃ f fd,DefAt K mg "product" (top 71) f fd)
    (E72:∃ f fd,DefAtD K mg "gathered" (top 72) f fd "even")
    (E78:∃ f fd,DefAtD K mg "times" (top 78) f fd "even")
    (E79:∃ f fd,DefAtD K mg "fused" (top 79) f fd "even")
    (E80:∃ f fd,DefAtD K mg "total" (top 80) f fd "even")
    (E81:∃ f fd,DefAtD K mg "dots" (top 81) f fd "even")
    (E93:∃ f fd,DefAt K mg "_law_refusal" (top 93) f fd)
    (E94:∃ f fd,DefAt K mg "_law_pairs_alike" (top 94) f fd)
    (E95:∃ f fd,DefAt K mg "law" (top 95) f fd) :
    ∃ fd:FuncData,(∀ (s:Shared) (u:Value),BindsTo s fd ⟨[u],[]⟩ [("_law_script",u)])∧∀ base:Heap,K.In base→base.Ns mainGlobals mg→FnOk P w K mg base (CXm (clOf K anames) P w) 14 fa fd ["_law_script"] (spF K (clOf K anames) 1 q_law_v75):=by
  obtain ⟨f53_0,fd53_0,D53_0⟩:=E53_0
  obtain ⟨f54_0,fd54_0,D54_0⟩:=E54_0
  obtain ⟨f55_0,fd55_0,D55_0⟩:=E55_0
  obtain ⟨f56_0,fd56_0,D56_0⟩:=E56_0
  obtain ⟨f57_0,fd57_0,D57_0⟩:=E57_0
  obtain ⟨f16,fd16,D16⟩:=E16
  obtain ⟨f24,fd24,D24⟩:=E24
  obtain ⟨f32,fd32,D32⟩:=E32
  obtain ⟨f33,fd33,D33⟩:=E33
  obtain ⟨f38,fd38,D38⟩:=E38
  obtain ⟨f39,fd39,D39⟩:=E39
  obtain ⟨f48,fd48,D48⟩:=E48
  obtain ⟨f58,fd58,D58⟩:=E58
  obtain ⟨f70,fd70,D70⟩:=E70
  obtain ⟨f83,fd83,D83⟩:=E83
  obtain ⟨f84,fd84,D84⟩:=E84
  obtain ⟨f85,fd85,D85⟩:=E85
  obtain ⟨f86,fd86,D86⟩:=E86
  obtain ⟨f88,fd88,D88⟩:=E88
  obtain ⟨f90,fd90,D90⟩:=E90
  obtain ⟨f17,fd17,D17⟩:=E17
  obtain ⟨f40,fd40,D40⟩:=E40
  obtain ⟨f41,fd41,D41⟩:=E41
  obtain ⟨f49,fd49,D49⟩:=E49
  obtain ⟨f50,fd50,D50⟩:=E50
  obtain ⟨f62,fd62,D62⟩:=E62
  obtain ⟨f76,fd76,D76⟩:=E76
  obtain ⟨f87,fd87,D87⟩:=E87
  obtain ⟨f89,fd89,D89⟩:=E89
  obtain ⟨f91,fd91,D91⟩:=E91
  obtain ⟨f18,fd18,D18⟩:=E18
  obtain ⟨f26,fd26,D26⟩:=E26
  obtain ⟨f75,fd75,D75⟩:=E75
  obtain ⟨f92,fd92,D92⟩:=E92
  obtain ⟨f19,fd19,D19⟩:=E19
  obtain ⟨f20,fd20,D20⟩:=E20
  obtain ⟨f21,fd21,D21⟩:=E21
  obtain ⟨f28,fd28,D28⟩:=E28
  obtain ⟨f22,fd22,D22⟩:=E22
  obtain ⟨f25,fd25,D25⟩:=E25
  obtain ⟨f30,fd30,D30⟩:=E30
  obtain ⟨f31,fd31,D31⟩:=E31
  obtain ⟨f64,fd64,D64⟩:=E64
  obtain ⟨f27,fd27,D27⟩:=E27
  obtain ⟨f34,fd34,D34⟩:=E34
  obtain ⟨f35,fd35,D35⟩:=E35
  obtain ⟨f61,fd61,D61⟩:=E61
  obtain ⟨f73,fd73,D73⟩:=E73
  obtain ⟨f29,fd29,D29⟩:=E29
  obtain ⟨f36,fd36,D36⟩:=E36
  obtain ⟨f42,fd42,D42⟩:=E42
  obtain ⟨f63,fd63,D63⟩:=E63
  obtain ⟨f74,fd74,D74⟩:=E74
  obtain ⟨f60,fd60,D60⟩:=E60
  obtain ⟨f69,fd69,D69⟩:=E69
  obtain ⟨f71,fd71,D71⟩:=E71
  obtain ⟨f72,fd72,D72⟩:=E72
  obtain ⟨f78,fd78,D78⟩:=E78
  obtain ⟨f79,fd79,D79⟩:=E79
  obtain ⟨f80,fd80,D80⟩:=E80
  obtain ⟨f81,fd81,D81⟩:=E81
  obtain ⟨f93,fd93,D93⟩:=E93
  obtain ⟨f94,fd94,D94⟩:=E94
  obtain ⟨f95,fd95,D95⟩:=E95
  exact all hfa ⟨cls_inj2 hcls,cls_of2 X G (by decide) (fun p h=>List.mem_append_left _ h) hcls,ways_of X G (by decide) (fun p h=>List.mem_append_right _ h) hways,PySem.W.mg_none_of X G z_ValueError,PySem.W.mg_none_of X G z_abs,PySem.W.mg_none_of X G z_all,PySem.W.mg_none_of X G z_any,PySem.W.mg_none_of X G z_bool,PySem.W.mg_none_of X G z_int,PySem.W.mg_none_of X G z_isinstance,PySem.W.mg_none_of X G z_len,PySem.W.mg_none_of X G z_list,PySem.W.mg_none_of X G z_max,PySem.W.mg_none_of X G z_min,PySem.W.mg_none_of X G z_range,PySem.W.mg_none_of X G z_sum,PySem.W.mg_none_of X G z_tuple,PySem.W.mg_none_of X G z_zip,⟨_,PySem.W.mg_of X G y_LEAST_E⟩,⟨_,PySem.W.mg_of X G y_MOST_E⟩,⟨_,PySem.W.mg_of X G y_LEAST_F⟩,⟨_,PySem.W.mg_of X G y_MOST_F⟩,⟨_,PySem.W.mg_of X G y_WRONG⟩,⟨_,PySem.W.mg_of X G y_GREAT⟩,⟨_,PySem.W.mg_of X G y_SMALL⟩,⟨_,PySem.W.mg_of X G y_NEAR⟩,⟨_,PySem.W.mg_of X G y_NOUGHT,kRep_of k_NOUGHT⟩,⟨_,PySem.W.mg_of X G y_LOUD_TERM,kRep_of k_LOUD_TERM⟩,⟨_,PySem.W.mg_of X G y_STILL_TERM,kRep_of k_STILL_TERM⟩⟩ D53_0 D54_0 D55_0 D56_0 D57_0 D16 D24 D32 D33 D38 D39 D48 D58 D70 D83 D84 D85 D86 D88 D90 D17 D40 D41 D49 D50 D62 D76 D87 D89 D91 D18 D26 D75 D92 D19 D20 D21 D28 D22 D25 D30 D31 D64 D27 D34 D35 D61 D73 D29 D36 D42 D63 D74 D60 D69 D71 D72 D78 D79 D80 D81 D93 D94 D95
end K47
namespace PySem.W.Fast
def tw906873948096765963:=Nat
def tw2143399646726024581:=Nat
def tw16755119786721745949:=Nat
def tw11369843945813272604:=Nat
def tw9624348766961379940:=Nat
def tw17960485580184400619:=Nat
def tw4402003278875441249:=Nat
def tw17414816422563498694:=Nat
def tw3353149084721452135:=Nat
def tw13277368600618502558:=Nat
def tw13396833693183682485:=Nat
def tw536896518297909521:=Nat
def tw8271397055293367760:=Nat
def tw3587955829656911218:=Nat
def tw6819636333486886769:=Nat
def tw10899322061176197347:=Nat
def tw2524985552101355734:=Nat
def tw2250415989410818521:=Nat
def tw7491802065730047465:=Nat
def tw2690531077606907925:=Nat
def tw8821391780198781586:=Nat
def tw8005361268245126603:=Nat
def tw12289845661141118573:=Nat
def tw11044530570169974520:=Nat
def tw11696720915224790081:=Nat
def tw11946272144247995216:=Nat
def tw12332869078761358696:=Nat
def tw3154792902558173966:=Nat
def tw11541219469904794184:=Nat
def tw14572312988055621053:=Nat
def tw10953935808819062110:=Nat
def tw2784655524553115352:=Nat
def tw12810261508078668023:=Nat
def tw4962857842052226755:=Nat
def tw1877393341817752848:=Nat
def tw7859322211781590370:=Nat
def tw6003876354111150901:=Nat
def tw12855135494256791211:=Nat
def tw10265653751099170840:=Nat
def tw1938796782845265557:=Nat
def tw2849181279894535568:=Nat
def tw9231731359138809923:=Nat
def tw1043202844489970407:=Nat
def tw4625734457511100407:=Nat
def tw4921567309180587960:=Nat
def tw12320886200074092746:=Nat
def tw1824605646826862893:=Nat
def tw11667137096654598890:=Nat
def tw1563647343822597906:=Nat
def tw12804656020009930773:=Nat
def tw12197360885531661197:=Nat
def tw11921376807467872957:=Nat
def tw9978692010197700913:=Nat
def tw15616416787097965981:=Nat
def tw2413067708630160:=Nat
def tw15288332216498996992:=Nat
def tw16630634172877710237:=Nat
def tw14204130243009502040:=Nat
def tw10096364611175683479:=Nat
def tw3397782614757273219:=Nat
def tw2706910041686719656:=Nat
def tw7348128888008037356:=Nat
def tw3193913228657334067:=Nat
def tw550180149749548392:=Nat
def tw4875284574954569741:=Nat
def tw1564741735323840833:=Nat
def tw18108364074209097166:=Nat
def tw6876020666250826867:=Nat
def tw17361543400470486188:=Nat
def tw12005890643422788287:=Nat
def tw3429792663799566272:=Nat
def tw7925991472378981974:=Nat
def tw15383237232947108252:=Nat
def tw15106333705708778226:=Nat
def tw11652021493279078247:=Nat
def tw8335239843905811438:=Nat
def tw15514737990344922283:=Nat
def tw4721138868262165702:=Nat
def tw4294467126298521226:=Nat
def tw3279335411153229886:=Nat
def tw14680421450582846772:=Nat
def tw11713819670966857237:=Nat
def tw9346044122004192934:=Nat
def tw12463315331723184292:=Nat
def tw10214352748667942695:=Nat
def tw17263023432388490731:=Nat
def tw4731067821334927175:=Nat
def tw13714862333761655892:=Nat
def tw6821154338738235076:=Nat
def tw5428991038180030097:=Nat
def tw14077328599536280943:=Nat
def tw1977292904197711492:=Nat
def tw11409570667875066849:=Nat
def tw2513286199662072142:=Nat
def tw4123513778461376282:=Nat
def tw5671880737837358403:=Nat
def tw16715724124531580099:=Nat
def tw12986482389273496918:=Nat
def tw8315535863687991781:=Nat
def tw15536883702117206698:=Nat
def tw7654453431132860622:=Nat
def tw7527872663997370461:=Nat
def tw16778219258696182982:=Nat
def tw16887505145108314061:=Nat
def tw16185139439018271844:=Nat
def tw15094268237237719880:=Nat
def tw5091989024557364580:=Nat
def tw5367148051801946810:=Nat
def tw14201901820899756994:=Nat
def tw15165140732516695203:=Nat
def tw11224471530949318251:=Nat
def tw9584301176801809379:=Nat
def tw6152132523776394806:=Nat
def tw14501209032611471113:=Nat
def tw12146800745393950520:=Nat
def tw5260251760694591205:=Nat
def tw4256052454389240860:=Nat
def tw14890497854131506210:=Nat
def tw17962989132628221454:=Nat
def tw14250261238531102087:=Nat
def tw6879064824233985647:=Nat
def tw13379385635533528086:=Nat
def tw10628330333514201280:=Nat
def tw9997115542101049070:=Nat
def tw17988648894688123058:=Nat
def tw15064414402877936191:=Nat
def tw4842697760082693304:=Nat
def tw4343116490635064671:=Nat
def tw5293710888451048185:=Nat
def tw5726305814074393743:=Nat
def tw2761775934804957828:=Nat
def tw6200923105169216650:=Nat
def tw4873918987660863666:=Nat
def tw17823905137342279541:=Nat
def tw14949271898935907349:=Nat
def tw4259304417295224483:=Nat
def tw12901638954058349577:=Nat
def tw1957744023832239754:=Nat
def tw14067291306357627211:=Nat
def tw6571054142353758698:=Nat
def tw4474371962001377539:=Nat
def tw14883585549116825332:=Nat
def tw2477374076950104688:=Nat
def tw15343762719536914064:=Nat
def tw824319441812741735:=Nat
def tw6727592797887387409:=Nat
def tw17513603369565863474:=Nat
def tw10955288534447858498:=Nat
def tw12408612138616791993:=Nat
def tw18198053847924388721:=Nat
def tw8877189362576903841:=Nat
def tw3611414769576114471:=Nat
def tw104346197247661296:=Nat
def tw15498951854835504255:=Nat
def tw16210081585984369851:=Nat
def tw11844074142022777617:=Nat
def tw4804332915931923035:=Nat
def tw760123349896963267:=Nat
def tw10877464679242580365:=Nat
def tw11170316163006667600:=Nat
def tw6187701633888892734:=Nat
def tw14291864717521225380:=Nat
def tw16938659181287654896:=Nat
def tw11946042733768721271:=Nat
def tw9928531842322089539:=Nat
def tw14109187276903896016:=Nat
def tw7625476550339307515:=Nat
def tw10784894993987716495:=Nat
def tw1101022103130516127:=Nat
def tw6536439978920687216:=Nat
def tw5654396572471657963:=Nat
def tw6995117433574694162:=Nat
def tw12828617018317904863:=Nat
def tw9086643893079575537:=Nat
def tw1640710067748457913:=Nat
def tw7620017316460035429:=Nat
def tw4525412609942479599:=Nat
def tw993761416146501025:=Nat
def tw3032580947213464882:=Nat
def tw16548760447900565857:=Nat
def tw4242619794698305378:=Nat
def tw15398338136080902224:=Nat
def tw1460728657532337850:=Nat
def tw1971275276399935934:=Nat
def tw9809469088431128065:=Nat
def tw16577755834248925877:=Nat
def tw14605607294499095812:=Nat
def tw13480027413260972830:=Nat
def tw3879034071489155273:=Nat
def tw14327999082520768702:=Nat
def tw9396295074376266946:=Nat
def tw1505942289308414788:=Nat
def tw7048087641153460185:=Nat
def tw5003660860978185893:=Nat
def tw2555873840891998355:=Nat
def tw12963285684520554844:=Nat
def tw8416136549228202822:=Nat
def tw2542920206479021697:=Nat
def tw9457765102816939152:=Nat
def tw11874560550618767002:=Nat
def tw12463948133658492326:=Nat
def tw1736402402994148135:=Nat
def tw12301598012462074863:=Nat
def tw16948238122489027689:=Nat
def tw4261068455785631103:=Nat
def tw6954318718745312362:=Nat
def tw16589348760818952789:=Nat
def tw3441367324084416388:=Nat
def tw14881722349449959307:=Nat
def tw12056461772089633395:=Nat
def tw4638520686384413533:=Nat
def tw2134456319675543825:=Nat
def tw17650640563279060184:=Nat
def tw1836759107581564656:=Nat
def tw3820232201098885616:=Nat
def tw8074163672059559434:=Nat
def tw2950137500718821382:=Nat
def tw17684241213141605702:=Nat
def tw987294210178037904:=Nat
def tw6022727503178262940:=Nat
def tw18424257076582178230:=Nat
def tw7628378137283665221:=Nat
def tw7134166450899403619:=Nat
def tw13476725492531905937:=Nat
def tw17478268916483743417:=Nat
def tw15776197836925970009:=Nat
def tw2848375153186249566:=Nat
def tw16896571573875581545:=Nat
def tw3250307613225367710:=Nat
def tw13319347564732709370:=Nat
def tw3110715050683205673:=Nat
def tw16811106373651286119:=Nat
def tw2978802267693347496:=Nat
def tw10186749443098997211:=Nat
def tw135347277923790453:=Nat
def tw18189080199587615364:=Nat
def tw6158232156092944578:=Nat
def tw8321096624599278585:=Nat
def tw11005035012401920771:=Nat
def tw4988327361977169028:=Nat
def tw14666365302984667874:=Nat
def tw3881218550746083324:=Nat
def tw3443749728942336453:=Nat
def tw14744168813540396037:=Nat
def tw5278826680967359904:=Nat
def tw11927494285154412433:=Nat
def tw17963995892026257554:=Nat
def tw1494226849068894707:=Nat
def tw12182452508072710430:=Nat
def tw7762774487949442945:=Nat
def tw15743089153825762249:=Nat
def tw16850857681528105220:=Nat
def tw5944427024893825458:=Nat
def tw9101018243122811465:=Nat
def tw15527397372803027721:=Nat
def tw6582010879050183134:=Nat
def tw2452705677597440907:=Nat
def tw14551516578607041962:=Nat
def tw5603356222536467650:=Nat
def tw4996931799079329176:=Nat
def tw8607816517102692608:=Nat
def tw13378141308999423681:=Nat
def tw15911138145525932496:=Nat
def tw742961465788706459:=Nat
def tw17912817773391314313:=Nat
def tw11832500910709217140:=Nat
def tw9650224376695455238:=Nat
def tw3344300274015184377:=Nat
def tw10594838968252490829:=Nat
def tw3481716726582815355:=Nat
def tw13339517698874474862:=Nat
def tw5080745093017564256:=Nat
def tw3340960818192216355:=Nat
def tw1540190677746601832:=Nat
def tw4494181331927964838:=Nat
def tw2388683210663783249:=Nat
def tw137636130664921617:=Nat
def tw11772278896633005112:=Nat
def tw11780272520984412761:=Nat
def tw13020068269558432607:=Nat
def tw3699125577233273508:=Nat
def tw9362319845002847378:=Nat
def tw9796065796575453759:=Nat
def tw6142663627558932401:=Nat
def tw11279875546734250620:=Nat
def tw17369696124116019290:=Nat
def tw3973039788258060806:=Nat
def tw10297405810245972717:=Nat
def tw6125085527608774525:=Nat
def tw16769540823454473728:=Nat
def tw18425269140583731732:=Nat
def tw7801885828385539196:=Nat
def tw17826572963048594030:=Nat
def tw8969059634189128323:=Nat
def tw14738036276439730142:=Nat
def tw333233229166069181:=Nat
def tw6780110731417945292:=Nat
def tw8893554462089243775:=Nat
def tw4985914722530873593:=Nat
def tw7822142261665192196:=Nat
def tw2200562363686613238:=Nat
def tw6755128680468497694:=Nat
def tw2211809372322618860:=Nat
def tw15054523533448673705:=Nat
def tw7009591702893374661:=Nat
def tw33291560000198855:=Nat
def tw17609887628064191287:=Nat
def tw10136469758656074706:=Nat
def tw1112164749498077640:=Nat
def tw7565667221667034030:=Nat
def tw4958045959320469732:=Nat
def tw14457523659296039973:=Nat
def tw13222039822835756680:=Nat
def tw2466765547961363632:=Nat
def tw4025543689916367583:=Nat
def tw17444608479419399555:=Nat
def tw7679201077161057578:=Nat
def tw18054818197069647351:=Nat
def tw5009772024357395016:=Nat
def tw6741788621706553702:=Nat
def tw7165769997943339184:=Nat
def tw15533195474888214728:=Nat
def tw9490908579071555621:=Nat
def tw12866877520430972769:=Nat
def tw2767551096037864429:=Nat
def tw9974781283112878192:=Nat
def tw10654578607831816520:=Nat
def tw12866697168632412664:=Nat
def tw1685698886107905632:=Nat
def tw12600936408040836327:=Nat
def tw7885326869148129659:=Nat
def tw15320643144142067888:=Nat
def tw9936228480384998669:=Nat
def tw3763879721850874626:=Nat
def tw10001696475474563878:=Nat
def tw10586477589396047621:=Nat
def tw3864461398469338269:=Nat
def tw14736827865967660919:=Nat
def tw7301542597315152791:=Nat
def tw6149033079564057751:=Nat
def tw8230198180662204446:=Nat
def tw3546766713517457904:=Nat
def tw5469943206972768500:=Nat
def tw1752351123992222508:=Nat
def tw6424299620685919856:=Nat
def tw10349009052680264321:=Nat
def tw2443643802288721036:=Nat
def tw9318008279015967442:=Nat
def tw16745663721888865701:=Nat
def tw1592886723085786555:=Nat
def tw3604294219840006971:=Nat
def tw255669864484720199:=Nat
def tw6636225307122123177:=Nat
def tw626256727076437129:=Nat
def tw129589570703582455:=Nat
def tw9577176666959811374:=Nat
def tw17175287443278302802:=Nat
def tw3135159799138253152:=Nat
def tw1424673065505364983:=Nat
def tw70379187679999443:=Nat
def tw16811755241159733567:=Nat
def tw14909702540817037347:=Nat
def tw4295457464402187396:=Nat
def tw6647693793945738469:=Nat
def tw10337807429619708279:=Nat
def tw14471139207979403104:=Nat
def tw14534894966483876065:=Nat
def tw7619433190273540997:=Nat
def tw18115129452876676812:=Nat
def tw10928775481286010758:=Nat
def tw11452443399814855005:=Nat
def tw14516224840712924768:=Nat
def tw2856286704733630499:=Nat
def tw12331201589627691662:=Nat
def tw8330218709692931083:=Nat
def tw16428983302533432310:=Nat
def tw12898078296687155418:=Nat
def tw1245195469426385845:=Nat
def tw13554217197858212405:=Nat
def tw7024653749051848981:=Nat
def tw10670427873707709085:=Nat
def tw9621327924480222333:=Nat
def tw10627556721279503872:=Nat
def tw14987933713318289297:=Nat
def tw11982600733068433434:=Nat
def tw9101048002756150640:=Nat
def tw1371040298934918008:=Nat
def tw3115466667627667091:=Nat
def tw13305382964978944780:=Nat
def tw13795936383918687990:=Nat
def tw4926986612713062751:=Nat
def tw9943510418025468821:=Nat
def tw4409852467743629567:=Nat
def tw4436907370737737808:=Nat
def tw3214122844794778934:=Nat
def tw9860722134680221939:=Nat
def tw65168735244023025:=Nat
def tw3020185548959580952:=Nat
def tw5608299441384332809:=Nat
def tw8721978569017493058:=Nat
def tw11131578681181680549:=Nat
def tw1461661252574355369:=Nat
def tw3019961270239370789:=Nat
def tw17015456715170305973:=Nat
def tw10353981982149348327:=Nat
def tw12465401113503093179:=Nat
def tw6550093525352623553:=Nat
def tw15832719545363466087:=Nat
def tw6324590979793267573:=Nat
def tw12645346803928998771:=Nat
def tw2152934066206015928:=Nat
def tw13890459740045626917:=Nat
def tw12104284380570190881:=Nat
def tw17757212119461173690:=Nat
def tw15905124804263817363:=Nat
def tw6375059714147206912:=Nat
def tw17186828486157586309:=Nat
def tw9388393156808937928:=Nat
def tw7946191518656320809:=Nat
def tw1882800076065222905:=Nat
def tw14910714139721294221:=Nat
def tw13195854330320486555:=Nat
def tw3478937158343172083:=Nat
def tw7055521589393257500:=Nat
def tw18235614393988923397:=Nat
def tw2553978964179581689:=Nat
def tw10588656788051769686:=Nat
def tw14287768764626060014:=Nat
def tw2230254939059485412:=Nat
def tw6945200783721381256:=Nat
def tw5306416381839756173:=Nat
def tw15187933743186842912:=Nat
def tw7961946096623522136:=Nat
def tw12774317697875032563:=Nat
def tw10613992409405932175:=Nat
def tw3840711881385823783:=Nat
def tw11387093173454701542:=Nat
def tw16759494570112092745:=Nat
def tw12815927412739223199:=Nat
def tw15336893548912443452:=Nat
def tw10102567674220758166:=Nat
def tw7983148933185827431:=Nat
def tw6503318572557982041:=Nat
def tw443309410323462382:=Nat
def tw10700961182532864236:=Nat
def tw5937972574918560574:=Nat
def tw8756040714239305784:=Nat
def tw17264360694546677565:=Nat
def tw18237681018905496772:=Nat
def tw5382031719247900008:=Nat
def tw16656784897239183410:=Nat
def tw1715960668508342105:=Nat
def tw16142729329188791438:=Nat
def tw15055871017823577822:=Nat
def tw14479041834928900535:=Nat
def tw18419391245076509678:=Nat
def tw6398705862725757178:=Nat
def tw6870944857608413252:=Nat
def tw4393667460967712923:=Nat
def tw14926700839582397343:=Nat
def tw12110865646191456594:=Nat
def tw5105051902156618996:=Nat
def tw11421903263618094648:=Nat
def tw10226463531221449080:=Nat
def tw18370522578720435309:=Nat
def tw5210350374073209811:=Nat
def tw5118556781540906937:=Nat
def tw5584746819053393357:=Nat
def tw2132418016888417883:=Nat
def tw18421456547362475397:=Nat
def tw12257721183907379163:=Nat
def tw4247497884118431887:=Nat
def tw6296574105298544872:=Nat
def tw10301673353359939249:=Nat
def tw5422279377800026292:=Nat
def tw16903037166017798738:=Nat
def tw3645676801228067977:=Nat
def tw1671469011309557471:=Nat
def tw8778389897313236882:=Nat
def tw6825262798351804950:=Nat
def tw11986650025020594739:=Nat
def tw4685519718731452177:=Nat
def tw10901468077474224332:=Nat
def tw6472155208570412922:=Nat
def tw7591169725503301576:=Nat
def tw12961472986816473308:=Nat
def tw9780446308467322632:=Nat
def tw10197529811897614231:=Nat
def tw764400986494489357:=Nat
def tw14964437391362742331:=Nat
def tw16732049317603144215:=Nat
def tw2449904816472619204:=Nat
def tw13898624638651903798:=Nat
def tw8118333761671006235:=Nat
def tw3479492086387045210:=Nat
def tw6472428452694057813:=Nat
def tw4829959057354058770:=Nat
def tw1964343279174594821:=Nat
def tw6329570141962184494:=Nat
def tw6563260170271768491:=Nat
def tw945867123091172647:=Nat
def tw9416447490554691215:=Nat
def tw4514575189811759757:=Nat
def tw2366484415458136652:=Nat
def tw13355105983665197538:=Nat
def tw1797436726090437280:=Nat
def tw12246848966370212466:=Nat
def tw8587303886925097427:=Nat
def tw9742296938999188312:=Nat
def tw4919535267540917773:=Nat
def tw10225157006699629925:=Nat
def tw14856506619726489625:=Nat
def tw11391842308134257695:=Nat
def tw7720040390298705239:=Nat
def tw16652058015067787727:=Nat
def tw13220643913960861142:=Nat
def tw10079333353459509882:=Nat
def tw17440606114017782959:=Nat
def tw886437129348808550:=Nat
def tw4812333031528265134:=Nat
def tw14495896620997612336:=Nat
def tw9965211936398857542:=Nat
def tw9448006300382168916:=Nat
def tw15341838196055328044:=Nat
def tw18215197975808411128:=Nat
def tw6078309253338624307:=Nat
def tw9042511351602532627:=Nat
def tw13258697463822397660:=Nat
def tw3823995516855530092:=Nat
def tw14484292464976075842:=Nat
def tw7495741106111346245:=Nat
def tw11799204462046650154:=Nat
def tw13715079989164045887:=Nat
def tw813697684390237081:=Nat
def tw12298672474569173726:=Nat
def tw8237293380254270153:=Nat
def tw3163434270768677498:=Nat
def tw4139252255055919694:=Nat
def tw6855354737980486563:=Nat
def tw15718623817186973559:=Nat
def tw15919613133932263035:=Nat
def tw4899405608204238839:=Nat
def tw8095400383366537221:=Nat
def tw437604114231380642:=Nat
def tw5067012166656218069:=Nat
def tw10688267168509983416:=Nat
def tw7472888175911363540:=Nat
def tw17944535598688772679:=Nat
def tw9953182361955323615:=Nat
def tw13704002022190013797:=Nat
def tw11334138826883989085:=Nat
def tw14786125084713853992:=Nat
def tw113729235229820191:=Nat
def tw2056982231957546365:=Nat
def tw9187101043000855477:=Nat
def tw18337980441242487020:=Nat
def tw3045340273410165491:=Nat
def tw12127447563587705207:=Nat
def tw15483740587963044089:=Nat
def tw16276334509362596773:=Nat
def tw15653036004349506798:=Nat
def tw4901978268866896900:=Nat
def tw13008922917016856243:=Nat
def tw5361953520987664606:=Nat
def tw8969696568806311056:=Nat
def tw2812679329701838605:=Nat
def tw392330946110475122:=Nat
def tw5085118273349329630:=Nat
def tw2003864665366581979:=Nat
def tw2195073473402729286:=Nat
def tw5885940047355008014:=Nat
def tw14480591130548646716:=Nat
def tw1444765286392574181:=Nat
def tw14658458768464700871:=Nat
def tw2359551696070306140:=Nat
def tw7647416985697462806:=Nat
def tw5011563311890148170:=Nat
def tw11660748870096094364:=Nat
def tw7040736513932060929:=Nat
def tw18086786698983086992:=Nat
def tw17654202950224606485:=Nat
def tw1078212293869808661:=Nat
def tw16673164122686834036:=Nat
def tw10604156832938569791:=Nat
def tw3341148185539301803:=Nat
def tw16985852270972377760:=Nat
def tw7349281375752007263:=Nat
def tw14422967954629174187:=Nat
def tw11234006629749387671:=Nat
def tw15691879413558597879:=Nat
def tw478899209913123282:=Nat
def tw7015857561506208458:=Nat
def tw14229839554991901000:=Nat
def tw16981725033560350555:=Nat
def tw10618982333350356143:=Nat
def tw2980358268041709017:=Nat
def tw17282355139746641401:=Nat
def tw13889354762797412714:=Nat
def tw2377292694786563127:=Nat
def tw16852373719026220787:=Nat
def tw4102709137044862572:=Nat
def tw11341308166170811818:=Nat
def tw13739770632534978748:=Nat
def tw14618985951175621553:=Nat
def tw4482702208553210740:=Nat
def tw13775472231043848628:=Nat
def tw16353022070532172732:=Nat
def tw6219886444723264043:=Nat
def tw6883996318144062382:=Nat
def tw13285336850519302227:=Nat
def tw12469165023842751831:=Nat
def tw13258938784743643492:=Nat
def tw2189583635135131902:=Nat
def tw15345887664654811093:=Nat
def tw14668707426446026716:=Nat
def tw5175842510931691872:=Nat
def tw1519860261952036149:=Nat
def tw7425505942120307590:=Nat
def tw12760859625511663771:=Nat
def tw672538562201147069:=Nat
def tw4315018851504208752:=Nat
def tw8904319513659095079:=Nat
def tw10492195405057477720:=Nat
def tw11486105351582356547:=Nat
def tw11315502125796512774:=Nat
def tw12584988920805158172:=Nat
def tw11805647004338348987:=Nat
def tw17041078062736526364:=Nat
def tw17701739664329345388:=Nat
def tw10360892299130996401:=Nat
def tw12711856983228123296:=Nat
def tw17653104940692763105:=Nat
def tw17680475256409476757:=Nat
def tw11769422768077312361:=Nat
def tw1129239637657958099:=Nat
def tw13230708798331475193:=Nat
def tw8299663362470604160:=Nat
def tw1218217581541187329:=Nat
def tw4510554165470832762:=Nat
def tw6708971283544741533:=Nat
def tw11325429447372647664:=Nat
def tw12459289465766205031:=Nat
def tw17960591722282712231:=Nat
def tw3680696407842784501:=Nat
def tw13001934280765809645:=Nat
def tw8963046024964342171:=Nat
def tw7466732634815918663:=Nat
def tw1643915476521200482:=Nat
def tw5746321511490051897:=Nat
def tw5856996682597678472:=Nat
def tw752583379489474760:=Nat
def tw8853505360915787490:=Nat
def tw9327890218631229537:=Nat
def tw16206132573400345198:=Nat
def tw5837534677375898577:=Nat
def tw3295330550406932335:=Nat
def tw15306215620836940514:=Nat
def tw8819726188264605754:=Nat
def tw13822395498005257375:=Nat
def tw2870743830757842774:=Nat
def tw10528682811857872474:=Nat
def tw6511001286751339411:=Nat
def tw17137730872862064535:=Nat
def tw9442589210294219952:=Nat
def tw4086020482975396224:=Nat
def tw454655468858148720:=Nat
def tw8745162193016832311:=Nat
def tw3519927531042705892:=Nat
def tw1622392836172897933:=Nat
def tw8819451135326539593:=Nat
def tw12724168922089771442:=Nat
def tw4768230600947672808:=Nat
def tw8559171513461806618:=Nat
def tw5064783200452376296:=Nat
def tw9192621718253872195:=Nat
def tw17231584662107325185:=Nat
def tw3025268942079062647:=Nat
def tw7786383491773098940:=Nat
def tw6822699806860221690:=Nat
def tw14046249126831509:=Nat
def tw7223010387758004464:=Nat
def tw15249785868069986910:=Nat
def tw18208664859247866868:=Nat
def tw13500078586867426515:=Nat
def tw12830294756675031557:=Nat
def tw13529664998759893854:=Nat
def tw7719426751655022401:=Nat
def tw2715754788710597084:=Nat
def tw12645086705861947854:=Nat
def tw5325213558251977171:=Nat
def tw2106051135344981741:=Nat
def tw15941159833954445044:=Nat
def tw4063827809741134233:=Nat
def tw13828257664390252072:=Nat
def tw9802812712685869104:=Nat
def tw2201048406719771294:=Nat
def tw17658221605691083009:=Nat
def tw12649716555403006529:=Nat
def tw7269000935631422243:=Nat
def tw10272129331146262649:=Nat
def tw7577363948749380632:=Nat
def tw15766180365959681054:=Nat
def tw10432588290646494572:=Nat
def tw14130598450668557960:=Nat
def tw11766481941719370105:=Nat
def tw14714343026703455189:=Nat
def tw2435197556917269640:=Nat
def tw2360839692269334959:=Nat
def tw17074156115250338238:=Nat
def tw11096278718605619102:=Nat
def tw1614044269692000542:=Nat
def tw14778198138120174889:=Nat
def tw15251909521452448843:=Nat
def tw18202608160896979012:=Nat
def tw13489344623660517188:=Nat
def tw2688638527098130919:=Nat
def tw7900102355149044532:=Nat
def tw9245537987329151558:=Nat
def tw3794141708321051629:=Nat
def tw4168079251645868868:=Nat
def tw6692832223047047386:=Nat
def tw6007924882034543116:=Nat
def tw8554038315301657842:=Nat
def tw1185059645216371285:=Nat
def tw12971521907672135626:=Nat
def tw6647704563882142166:=Nat
def tw6549250887338401884:=Nat
def tw15613276617749857629:=Nat
def tw14880281242809239057:=Nat
def tw9891394240480154451:=Nat
def tw9212561198731202467:=Nat
def tw3026366393633870383:=Nat
def tw9366855437132547830:=Nat
def tw2876463457095745026:=Nat
def tw6744591438661241276:=Nat
def tw15305491404707981759:=Nat
def tw14911866281538992761:=Nat
def tw16621702356321528573:=Nat
def tw2382734825433696249:=Nat
def tw13978593530843210191:=Nat
def tw17796976861673621806:=Nat
def tw5327888971620540047:=Nat
def tw6539770426451202321:=Nat
def tw251701242183173850:=Nat
def tw11742657954683307368:=Nat
def tw8135551220676955462:=Nat
def tw6577439426573075797:=Nat
def tw2606487927922152836:=Nat
def tw1585044682475554814:=Nat
def tw14000157799377332992:=Nat
def tw10127810502717155031:=Nat
def tw12714664197996242146:=Nat
end PySem.W.Fast
open PySem PySem.W PyProof.Rows
set_option maxRecDepth 100000 in
set_option maxHeartbeats 0 in
theorem PySem.Challenge.cw_floatforge_k47_dots_holds : PySem.Challenge.rw_floatforge_k47_dots.Holds := by
  w_on;o_law;k_head;(case hw=>w_witness2)
  k_fill
  refine Mi.law_of (l:=PySem.Challenge.rw_floatforge_k47_dots) (k:=14) (x:="_law_script") (F:=Cm.q_law_v75) (names:=K47.anames) rfl rfl ⟨rfl,by decide,by decide⟩ (fun w h Y=>PySem.W.kIn_of Y) ?F K47.holds
  case F =>
    intro w mg fa h KX G hmg
    refine' K47.fin KX G hmg ?hcls ?hways ?z_ValueError ?z_abs ?z_all ?z_any ?z_bool ?z_int ?z_isinstance ?z_len ?z_list ?z_max ?z_min ?z_range ?z_sum ?z_tuple ?z_zip ?y_LEAST_E ?y_MOST_E ?y_LEAST_F ?y_MOST_F ?y_WRONG ?y_GREAT ?y_SMALL ?y_NEAR ?y_NOUGHT ?k_NOUGHT ?y_LOUD_TERM ?k_LOUD_TERM ?y_STILL_TERM ?k_STILL_TERM ?E53_0 ?E54_0 ?E55_0 ?E56_0 ?E57_0 ?E16 ?E24 ?E32 ?E33 ?E38 ?E39 ?E48 ?E58 ?E70 ?E83 ?E84 ?E85 ?E86 ?E88 ?E90 ?E17 ?E40 ?E41 ?E49 ?E50 ?E62 ?E76 ?E87 ?E89 ?E91 ?E18 ?E26 ?E75 ?E92 ?E19 ?E20 ?E21 ?E28 ?E22 ?E25 ?E30 ?E31 ?E64 ?E27 ?E34 ?E35 ?E61 ?E73 ?E29 ?E36 ?E42 ?E63 ?E74 ?E60 ?E69 ?E71 ?E72 ?E78 ?E79 ?E80 ?E81 ?E93 ?E94 ?E95
    (case hcls=>kernel_rfl)
    (case hways=>kernel_rfl)
    (case z_ValueError=>k_is)
    (case z_abs=>k_is)
    (case z_all=>k_is)
    (case z_any=>k_is)
    (case z_bool=>k_is)
    (case z_int=>k_is)
    (case z_isinstance=>k_is)
    (case z_len=>k_is)
    (case z_list=>k_is)
    (case z_max=>k_is)
    (case z_min=>k_is)
    (case z_range=>k_is)
    (case z_sum=>k_is)
    (case z_tuple=>k_is)
    (case z_zip=>k_is)
    (case y_LEAST_E=>k_is)
    (case y_MOST_E=>k_is)
    (case y_LEAST_F=>k_is)
    (case y_MOST_F=>k_is)
    (case y_WRONG=>k_is)
    (case y_GREAT=>k_is)
    (case y_SMALL=>k_is)
    (case y_NEAR=>k_is)
    (case y_NOUGHT=>k_is)
    (case k_NOUGHT=>kernel_rfl)
    (case y_LOUD_TERM=>k_is)
    (case k_LOUD_TERM=>kernel_rfl)
    (case y_STILL_TERM=>k_is)
    (case k_STILL_TERM=>kernel_rfl)
    (case E53_0=>refine' Mi.meth_mk (all:=K47.anames) (x:="Even") (by decide) (Mi.at_mem 11 rfl) ?a ?b ?i ?l ?d ?k;(case a=>k_is);(case b=>k_is);(case i=>k_is);(case l=>k_is);(case d=>k_is);(case k=>k_is))
    (case E54_0=>refine' Mi.meth_mk (all:=K47.anames) (x:="Away") (by decide) (Mi.at_mem 12 rfl) ?a ?b ?i ?l ?d ?k;(case a=>k_is);(case b=>k_is);(case i=>k_is);(case l=>k_is);(case d=>k_is);(case k=>k_is))
    (case E55_0=>refine' Mi.meth_mk (all:=K47.anames) (x:="Inward") (by decide) (Mi.at_mem 13 rfl) ?a ?b ?i ?l ?d ?k;(case a=>k_is);(case b=>k_is);(case i=>k_is);(case l=>k_is);(case d=>k_is);(case k=>k_is))
    (case E56_0=>refine' Mi.meth_mk (all:=K47.anames) (x:="Upward") (by decide) (Mi.at_mem 14 rfl) ?a ?b ?i ?l ?d ?k;(case a=>k_is);(case b=>k_is);(case i=>k_is);(case l=>k_is);(case d=>k_is);(case k=>k_is))
    (case E57_0=>refine' Mi.meth_mk (all:=K47.anames) (x:="Downward") (by decide) (Mi.at_mem 15 rfl) ?a ?b ?i ?l ?d ?k;(case a=>k_is);(case b=>k_is);(case i=>k_is);(case l=>k_is);(case d=>k_is);(case k=>k_is))
    (case E16=>refine' Mi.def_mk KX G ?_ ?_ ?_ ?_<;>try k_is)
    (case E24=>refine' Mi.def_mk KX G ?_ ?_ ?_ ?_<;>try k_is)
    (case E32=>refine' Mi.def_mk KX G ?_ ?_ ?_ ?_<;>try k_is)
    (case E33=>refine' Mi.def_mk KX G ?_ ?_ ?_ ?_<;>try k_is)
    (case E38=>refine' Mi.def_mk KX G ?_ ?_ ?_ ?_<;>try k_is)
    (case E39=>refine' Mi.def_mk KX G ?_ ?_ ?_ ?_<;>try k_is)
    (case E48=>refine' Mi.def_mk KX G ?_ ?_ ?_ ?_<;>try k_is)
    (case E58=>refine' Mi.def_mk KX G ?_ ?_ ?_ ?_<;>try k_is)
    (case E70=>refine' Mi.def_mk KX G ?_ ?_ ?_ ?_<;>try k_is)
    (case E83=>refine' Mi.def_mk KX G ?_ ?_ ?_ ?_<;>try k_is)
    (case E84=>refine' Mi.def_mk KX G ?_ ?_ ?_ ?_<;>try k_is)
    (case E85=>refine' Mi.def_mk KX G ?_ ?_ ?_ ?_<;>try k_is)
    (case E86=>refine' Mi.def_mk KX G ?_ ?_ ?_ ?_<;>try k_is)
    (case E88=>refine' Mi.def_mk KX G ?_ ?_ ?_ ?_<;>try k_is)
    (case E90=>refine' Mi.def_mk KX G ?_ ?_ ?_ ?_<;>try k_is)
    (case E17=>refine' Mi.def_mk KX G ?_ ?_ ?_ ?_<;>try k_is)
    (case E40=>refine' Mi.def_mk KX G ?_ ?_ ?_ ?_<;>try k_is)
    (case E41=>refine' Mi.def_mk KX G ?_ ?_ ?_ ?_<;>try k_is)
    (case E49=>refine' Mi.def_mk KX G ?_ ?_ ?_ ?_<;>try k_is)
    (case E50=>refine' Mi.def_mk KX G ?_ ?_ ?_ ?_<;>try k_is)
    (case E62=>refine' Mi.def_mk KX G ?_ ?_ ?_ ?_<;>try k_is)
    (case E76=>refine' Mi.def_mk KX G ?_ ?_ ?_ ?_<;>try k_is)
    (case E87=>refine' Mi.def_mk KX G ?_ ?_ ?_ ?_<;>try k_is)
    (case E89=>refine' Mi.def_mk KX G ?_ ?_ ?_ ?_<;>try k_is)
    (case E91=>refine' Mi.def_mk KX G ?_ ?_ ?_ ?_<;>try k_is)
    (case E18=>refine' Mi.def_mk KX G ?_ ?_ ?_ ?_<;>try k_is)
    (case E26=>refine' Mi.def_mk KX G ?_ ?_ ?_ ?_<;>try k_is)
    (case E75=>refine' Mi.def_mk KX G ?_ ?_ ?_ ?_<;>try k_is)
    (case E92=>refine' Mi.def_mk KX G ?_ ?_ ?_ ?_<;>try k_is)
    (case E19=>refine' Mi.def_mk KX G ?_ ?_ ?_ ?_<;>try k_is)
    (case E20=>refine' Mi.def_mk KX G ?_ ?_ ?_ ?_<;>try k_is)
    (case E21=>refine' Mi.def_mk KX G ?_ ?_ ?_ ?_<;>try k_is)
    (case E28=>refine' Mi.def_mk KX G ?_ ?_ ?_ ?_<;>try k_is)
    (case E22=>refine' Mi.def_mk KX G ?_ ?_ ?_ ?_<;>try k_is)
    (case E25=>refine' Mi.def_mk KX G ?_ ?_ ?_ ?_<;>try k_is)
    (case E30=>refine' Mi.def_mk KX G ?_ ?_ ?_ ?_<;>try k_is)
    (case E31=>refine' Mi.def_mk KX G ?_ ?_ ?_ ?_<;>try k_is)
    (case E64=>refine' Mi.def_mk KX G ?_ ?_ ?_ ?_<;>try k_is)
    (case E27=>refine' Mi.def_mk KX G ?_ ?_ ?_ ?_<;>try k_is)
    (case E34=>refine' Mi.def_mk KX G ?_ ?_ ?_ ?_<;>try k_is)
    (case E35=>refine' Mi.def_mk KX G ?_ ?_ ?_ ?_<;>try k_is)
    (case E61=>refine' Mi.def_mk KX G ?_ ?_ ?_ ?_<;>try k_is)
    (case E73=>refine' Mi.def_mk KX G ?_ ?_ ?_ ?_<;>try k_is)
    (case E29=>refine' Mi.def_mk KX G ?_ ?_ ?_ ?_<;>try k_is)
    (case E36=>refine' Mi.def_mk KX G ?_ ?_ ?_ ?_<;>try k_is)
    (case E42=>refine' Mi.def_mk KX G ?_ ?_ ?_ ?_<;>try k_is)
    (case E63=>refine' Mi.def_mk KX G ?_ ?_ ?_ ?_<;>try k_is)
    (case E74=>refine' Mi.def_mk KX G ?_ ?_ ?_ ?_<;>try k_is)
    (case E60=>refine' Mi.def_mkD KX G ?_ ?_ ?_ ?_ ?_<;>try k_is)
    (case E69=>refine' Mi.def_mk KX G ?_ ?_ ?_ ?_<;>try k_is)
    (case E71=>refine' Mi.def_mk KX G ?_ ?_ ?_ ?_<;>try k_is)
    (case E72=>refine' Mi.def_mkD KX G ?_ ?_ ?_ ?_ ?_<;>try k_is)
    (case E78=>refine' Mi.def_mkD KX G ?_ ?_ ?_ ?_ ?_<;>try k_is)
    (case E79=>refine' Mi.def_mkD KX G ?_ ?_ ?_ ?_ ?_<;>try k_is)
    (case E80=>refine' Mi.def_mkD KX G ?_ ?_ ?_ ?_ ?_<;>try k_is)
    (case E81=>refine' Mi.def_mkD KX G ?_ ?_ ?_ ?_ ?_<;>try k_is)
    (case E93=>refine' Mi.def_mk KX G ?_ ?_ ?_ ?_<;>try k_is)
    (case E94=>refine' Mi.def_mk KX G ?_ ?_ ?_ ?_<;>try k_is)
    (case E95=>refine' Mi.def_mk KX G ?_ ?_ ?_ ?_<;>try k_is)

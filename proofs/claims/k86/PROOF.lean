import PyProof.Rows.All
import Wide.All
import OpenK.AllK
import Wide.FinOn
import Lean
import PyProof.EqAt
import PyProof.EqKinds
import PyProof.TupleCall
import PyProof.NeKinds
import KE.KTryOn
import KE.KTryMore
import OpenK.KOwn
import PyProof.NsDelKeeps
import OpenK.KMake
import PyProof.CompFree
import PyProof.CompMap
import PyProof.CompUse
import PyProof.WalkInts
import PyProof.Rows.SumAny
import PyProof.Rows.DictTally
import PyProof.IsRules
import KE.KRevIter
import PyProof.ListStr
import KE.KListMore
import PyProof.ZipIter
import PyProof.Rows.ZipGen
import PySem.Challenge.RW_floatforge_k86_whole_spans_hold
set_option Elab.async false
set_option linter.all false
set_option maxRecDepth 100000
namespace L2
open PySem PySem.Spec PyProof.Rows
abbrev Key:=Sum Int Str
noncomputable def keyIs:Key→Value→Bool
  | .inl k,v=>Value.isInt k v
  | .inr x,v=>Value.isStrOf x v
noncomputable def keyH (w:World):Key→Int
  | .inl k=>hashInt k
  | .inr x=>hashStr w x
theorem keyIs_shape:∀ {k:Key}{v:Value},keyIs k v=true→(∃ i t,k=Sum.inl i∧v=Value.int i t)∨(∃ x t,k=Sum.inr x∧v=Value.str x t)
  | .inl i,v,h=>by
    obtain ⟨t,e⟩:=Value.isInt_shape (k:=i) (v:=v) h
    exact .inl ⟨i,t,rfl,e⟩
  | .inr x,v,h=>by
    obtain ⟨t,e⟩:=Value.isStrOf_shape (x:=x) (v:=v) h
    exact .inr ⟨x,t,rfl,e⟩
theorem key_ll (a b:Int):decide ((Sum.inl a:Key)=Sum.inl b)=(a == b):=by
  by_cases e:a=b
  · subst e;simp
  · have h:¬ (Sum.inl a:Key)=Sum.inl b:=fun q=>e (Sum.inl.inj q)
    rw [decide_eq_false h]
    exact (beq_eq_false_iff_ne.mpr e).symm
theorem key_rr (a b:Str):decide ((Sum.inr a:Key)=Sum.inr b)=decide (a=b):=by
  by_cases e:a=b
  · subst e;simp
  · have h:¬ (Sum.inr a:Key)=Sum.inr b:=fun q=>e (Sum.inr.inj q)
    rw [decide_eq_false h,decide_eq_false e]
theorem key_lr (a:Int) (b:Str):decide ((Sum.inl a:Key)=Sum.inr b)=false:=decide_eq_false (fun q=>nomatch q)
theorem key_rl (a:Str) (b:Int):decide ((Sum.inr a:Key)=Sum.inl b)=false:=decide_eq_false (fun q=>nomatch q)
noncomputable def mixKind (prog:Program) (w:World):PySem.KeyKind prog w Key where
  is:=keyIs
  hash:=keyH w
  inj:=fun v a b ha hb=>by
    rcases keyIs_shape ha with ⟨i,t,rfl,rfl⟩ | ⟨x,t,rfl,rfl⟩
    · rcases keyIs_shape hb with ⟨j,u,rfl,e⟩ | ⟨y,u,rfl,e⟩
      · injection e with e1 _;rw [e1]
      · exact nomatch e
    · rcases keyIs_shape hb with ⟨j,u,rfl,e⟩ | ⟨y,u,rfl,e⟩
      · exact nomatch e
      · injection e with e1 _;rw [e1]
  byValue:=fun k v h=>by
    rcases keyIs_shape h with ⟨i,t,rfl,rfl⟩ | ⟨x,t,rfl,rfl⟩<;>rfl
  pyHash:=fun hv h=>by
    rcases keyIs_shape hv with ⟨i,t,rfl,rfl⟩ | ⟨x,t,rfl,rfl⟩
    · exact wpAny_pyHash_int h
    · exact wpAny_pyHash_str h
  eqBool:=fun hu hv h=>by
    rcases keyIs_shape hu with ⟨i,t,rfl,rfl⟩ | ⟨x,t,rfl,rfl⟩
    · rcases keyIs_shape hv with ⟨j,u,rfl,rfl⟩ | ⟨y,u,rfl,rfl⟩
      · rw [key_ll] at h;exact wpAny_eqBool_int h
      · rw [key_lr] at h;exact SeqAt.EqAt.int_str i t y u _ _ _ _ h
    · rcases keyIs_shape hv with ⟨j,u,rfl,rfl⟩ | ⟨y,u,rfl,rfl⟩
      · rw [key_rl] at h;exact SeqAt.EqAt.str_int x t j u _ _ _ _ h
      · rw [key_rr] at h;exact wpAny_eqBool_str h
  «strs»:=fun k x t v h=>by
    rcases keyIs_shape h with ⟨i,u,rfl,e⟩ | ⟨y,u,rfl,e⟩
    · exact nomatch e
    · injection e with e1 _
      subst e1
      cases v<;>rfl
inductive V where
  | non | bl (b:Bool) | int (i:Int) | str (x:Str) | byt (b:Array UInt8) | flt (b:UInt64) | ref (a:Addr) | ty (n:String)
  deriving DecidableEq
def RelV:V→Value→Prop
  | .non,u=>u=Value.none
  | .bl b,u=>u=Value.bool b
  | .int i,u=>∃ t,u=Value.int i t
  | .str x,u=>∃ t,u=Value.str x t
  | .byt b,u=>∃ t,u=Value.bytes b t
  | .flt b,u=>∃ t,u=Value.float b t
  | .ref a,u=>u=Value.ref a
  | .ty n,u=>u=Value.type n
abbrev Vals:List V→List Value→Prop:=Paired RelV
theorem Vals.length {xs:List V}{us:List Value} (r:Vals xs us):xs.length=us.length:=Paired.length r
theorem Vals.get:∀ {xs:List V}{us:List Value}{i:Nat}{x:V},Vals xs us→xs[i]?=some x→∃ u,us[i]?=some u∧RelV x u
  | _,_,_,_,.nil,e=>by simp at e
  | _,_,0,_,.cons r _,e=>by simp at e;subst e;exact ⟨_,rfl,r⟩
  | _,_,i+1,x,.cons _ t,e=>by
    obtain ⟨u,h1,h2⟩:=Vals.get (i:=i) (x:=x) t (by simpa using e)
    exact ⟨u,by simpa using h1,h2⟩
theorem Vals.append:∀ {xs ys:List V}{us ws:List Value},Vals xs us→Vals ys ws→Vals (xs ++ ys) (us ++ ws)
  | _,_,_,_,.nil,s=>s
  | _,_,_,_,.cons r t,s=>.cons r (Vals.append t s)
theorem Vals.take:∀ {xs:List V}{us:List Value} (n:Nat),Vals xs us→Vals (xs.take n) (us.take n)
  | _,_,0,_=>.nil
  | _,_,_+1,.nil=>.nil
  | _,_,n+1,.cons r t=>.cons r (Vals.take n t)
theorem Vals.drop:∀ {xs:List V}{us:List Value} (n:Nat),Vals xs us→Vals (xs.drop n) (us.drop n)
  | _,_,0,r=>r
  | _,_,_+1,.nil=>.nil
  | _,_,n+1,.cons _ t=>Vals.drop n t
def RelO:Option V→Option Value→Prop
  | some v,some u=>RelV v u
  | none,none=>True
  | _,_=>False
def KV {κ:Type}:List (κ×V)→List (κ×Value)→Prop:=Paired fun (p:κ×V) (q:κ×Value)=>p.1=q.1∧RelV p.2 q.2
noncomputable def kV:Key→V
  | .inl i=>.int i
  | .inr x=>.str x
inductive HO where
  | lst (xs:List V)
  | tup (xs:List V)
  | dK (kvs:List (Key×V)) | dT (kvs:List (List Key×V))
  | set (S:Int→Bool) (n:Nat)
  | ins (C dx:Addr) (fs:List (Str×V))
  | own (x:Addr)
  | xd (fs:List (Str×V))
  | met (f x:Addr)
  | rng (lo hi:Int)
  | frz (o:Obj) (u:HO)
  | tbl (ps:Array Value)
  | ext (φ:Heap→Prop)
abbrev Hp:=Addr→Option HO
noncomputable def upd (H:Hp) (a:Addr) (o:HO):Hp:=fun b=>if b=a then some o else H b
theorem upd_same {H:Hp}{a:Addr}{o:HO}:upd H a o a=some o:=by unfold upd;rw [if_pos rfl]
theorem upd_ne {H:Hp}{a b:Addr}{o:HO} (h:b≠a):upd H a o b=H b:=by unfold upd;rw [if_neg h]
theorem ne_of_none {H:Hp}{a b:Addr}{o:HO} (h:H a=some o) (h':H b=none):a≠b:=by
  intro e;subst e;rw [h] at h';cases h'
section
variable (P:Program) (w:World)
def ObjOk (H:Hp) (h:Heap) (a:Addr):HO→Prop
  | .lst xs=>xs.length≤sizeLine∧∃ (its:List Value) (n:Nat),Vals xs its∧h.get? a=some { cls:=.type "list",data:=.seq its.toArray n }
  | .tup xs=>xs.length≤sizeLine∧∃ its:List Value,Vals xs its∧IsTup h a its.toArray
  | .dK kvs=>kvs.length≤sizeLine∧(a == sysModules)=false∧∃ vs,KV kvs vs∧h.DictOf (mixKind P w) a vs
  | .dT kvs=>kvs.length≤sizeLine∧(a == sysModules)=false∧∃ xs:List (List Key×Addr×Value),
      Paired (fun (p:List Key×V) (q:List Key×Addr×Value)=>p.1=q.1∧H q.2.1=some (.tup (p.1.map kV))∧RelV p.2 q.2.2) kvs xs ∧
      ∃ o es ep,h.get? a=some o∧o.ExactDict∧o.data = .dict es ep∧es.toList=xs.map (entryOfKey (tupleKind (mixKind P w)))∧(xs.map (·.1)).Nodup
  | .set S n=>h.SetOf (intKind P w) a S n
  | .ins C dx fs=>H dx=some (.own a)∧fs.length≤1000∧dx≠a∧h.get? a=some (PySem.W.instObj C dx) ∧
      ∃ mA,h.Ns1 dx mA∧(∀ f,RelO (fs.lookup f) (mA f))∧PySem.Within mA (fs.map (·.1))
  | .own _=>∃ o,h.get? a=some o
  | .xd fs=>∃ mA,h.Ns1 a mA∧∀ f,RelO (fs.lookup f) (mA f)
  | .rng lo hi=>∃ t u v,h.get? a=some { cls:=.type "range",data:=.fields #[.int lo t,.int hi u,.int 1 v] }
  | .frz o u=>h.get? a=some o∧ObjOk H h a u
  | .tbl ps=>h.get? a=some { cls:=.none,data:=.fields ps }
  | .met f x=>h.get? a=some (PySem.W.methodObj (.ref f) (.ref x))
  | .ext φ=>φ h∧(∃ o,h.get? a=some o)∧∀ h1 h2:Heap,φ h1→(∀ o,h1.get? a=some o→h2.get? a=some o)→φ h2
def HOk (H:Hp) (h:Heap):Prop:=∀ a o,H a=some o→ObjOk P w H h a o
end
section
variable {P:Program}{w:World}{H H':Hp}{h h':Heap}{a:Addr}{o:HO}
theorem ObjOk.lt (x:ObjOk P w H h a o):a<h.objs.size:=by
  cases o with
  | lst xs=>obtain ⟨_,_,_,_,e⟩:=x;exact Heap.lt_size e
  | tup xs=>obtain ⟨_,_,_,p⟩:=x;exact p.lt
  | dK kvs=>obtain ⟨_,_,_,_,o,_,_,e,_⟩:=x;exact Heap.lt_size e
  | dT kvs=>obtain ⟨_,_,_,_,o,_,_,e,_⟩:=x;exact Heap.lt_size e
  | set S n=>obtain ⟨o,_,_,_,e,_⟩:=x;exact Heap.lt_size e
  | ins C dx fs=>obtain ⟨_,_,_,e,_⟩:=x;exact Heap.lt_size e
  | own y=>obtain ⟨_,e⟩:=x;exact Heap.lt_size e
  | xd fs=>obtain ⟨_,⟨_,_,_,e,_⟩,_⟩:=x;exact Heap.lt_size e
  | rng lo hi=>obtain ⟨_,_,_,e⟩:=x;exact Heap.lt_size e
  | frz ob u=>obtain ⟨e,_⟩:=x;exact Heap.lt_size e
  | tbl ps=>exact Heap.lt_size (show h.get? a=some _ from x)
  | met f y=>exact Heap.lt_size (show h.get? a=some _ from x)
  | ext φ=>obtain ⟨_,⟨_,e⟩,_⟩:=x;exact Heap.lt_size e
theorem Paired.mapP {α β:Type}{F G:α→β→Prop}:∀ {l₁:List α}{l₂:List β},Paired F l₁ l₂→(∀ a b,F a b→G a b)→Paired G l₁ l₂
  | _,_,.nil,_=>.nil
  | _,_,.cons r t,f=>.cons (f _ _ r) (Paired.mapP t f)
theorem ObjOk.stay (x:ObjOk P w H h a o) (k:∀ b u,(b=a∨H b=some (.own a))→h.get? b=some u→h'.get? b=some u)
    (ho:∀ b,H b=some (.own a)→H' b=some (.own a)) (ht:∀ b xs,H b=some (.tup xs)→H' b=some (.tup xs)):ObjOk P w H' h' a o:=by
  induction o with
  | lst xs=>obtain ⟨z,its,n,r,e⟩:=x;exact ⟨z,its,n,r,k _ _ (.inl rfl) e⟩
  | tup xs=>obtain ⟨z,its,r,ob,e,c⟩:=x;exact ⟨z,its,r,ob,k _ _ (.inl rfl) e,c⟩
  | dK kvs=>obtain ⟨z,y,vs,r,ob,es,ep,e,c⟩:=x;exact ⟨z,y,vs,r,ob,es,ep,k _ _ (.inl rfl) e,c⟩
  | dT kvs =>
    obtain ⟨z,y,xs,r,ob,es,ep,e,c⟩:=x
    exact ⟨z,y,xs,Paired.mapP r fun p q z=>⟨z.1,ht _ _ z.2.1,z.2.2⟩,ob,es,ep,k _ _ (.inl rfl) e,c⟩
  | set S n=>obtain ⟨ob,es,ep,t,e,c⟩:=x;exact ⟨ob,es,ep,t,k _ _ (.inl rfl) e,c⟩
  | ins C dx fs =>
    obtain ⟨d,z,ne,e,mA,⟨od,es,ep,e2,c⟩,r⟩:=x
    exact ⟨ho _ d,z,ne,k _ _ (.inl rfl) e,mA,⟨od,es,ep,k _ _ (.inr d) e2,c⟩,r⟩
  | own y=>obtain ⟨ob,e⟩:=x;exact ⟨ob,k _ _ (.inl rfl) e⟩
  | xd fs=>obtain ⟨mA,⟨od,es,ep,e,c⟩,r⟩:=x;exact ⟨mA,⟨od,es,ep,k _ _ (.inl rfl) e,c⟩,r⟩
  | rng lo hi=>obtain ⟨t,u,v,e⟩:=x;exact ⟨t,u,v,k _ _ (.inl rfl) e⟩
  | frz ob u ih=>obtain ⟨e,q⟩:=x;exact ⟨k _ _ (.inl rfl) e,ih q⟩
  | tbl ps =>
    have e:h.get? a=some { cls:=.none,data:=.fields ps }:=x
    show h'.get? a=some { cls:=.none,data:=.fields ps }
    exact k a _ (.inl rfl) e
  | met f y =>
    have e:h.get? a=some (PySem.W.methodObj (.ref f) (.ref y)):=x
    show h'.get? a=some (PySem.W.methodObj (.ref f) (.ref y))
    exact k a _ (.inl rfl) e
  | ext φ=>obtain ⟨p,⟨o,e⟩,st⟩:=x;exact ⟨st _ _ p fun o q=>k _ _ (.inl rfl) q,⟨o,k _ _ (.inl rfl) e⟩,st⟩
theorem HOk.lt (x:HOk P w H h) (e:H a=some o):a<h.objs.size:=(x a o e).lt
theorem HOk.fresh (x:HOk P w H h) (e:h.objs.size≤a):H a=none:=by
  cases q:H a with
  | none=>rfl
  | some u=>exact absurd (Nat.lt_of_lt_of_le (x.lt q) e) (Nat.lt_irrefl _)
theorem HOk.kept (x:HOk P w H h) (k:∀ b u,h.get? b=some u→h'.get? b=some u):HOk P w H h':=fun a o e =>
  (x a o e).stay (fun b u _ q=>k b u q) (fun _ q=>q) fun _ _ q=>q
theorem HOk.laid (x:HOk P w H h) (k:∀ b u,h.get? b=some u→h'.get? b=some u) (hp:h.objs.size≤a) (new:ObjOk P w (upd H a o) h' a o):HOk P w (upd H a o) h':=fun b u e=>by
  have hn:=x.fresh hp
  by_cases hb:b=a
  · subst hb;rw [upd_same] at e;cases e;exact new
  · rw [upd_ne hb] at e
    exact (x b u e).stay (fun c v _ q=>k c v q) (fun c q=>by rw [upd_ne (ne_of_none q hn)];exact q) fun c xs q=>by rw [upd_ne (ne_of_none q hn)];exact q
end
def Rd (H:Hp) (a:Addr) (u:HO):Prop:=H a=some u∨∃ o,H a=some (.frz o u)
theorem Rd.ok {P:Program}{w:World}{H:Hp}{h:Heap}{a:Addr}{u:HO} (r:Rd H a u) (x:HOk P w H h):ObjOk P w H h a u:=by
  rcases r with r | ⟨o,r⟩
  · exact x a u r
  · obtain ⟨_,q⟩:=x a _ r
    exact q
def Mut:Option HO→Prop
  | some (.lst _)=>True
  | some (.dK _)=>True
  | some (.dT _)=>True
  | some (.set _ _)=>True
  | some (.ins _ _ _)=>True
  | some (.ext _)=>True
  | _=>False
section
variable {P:Program}{w:World}{H:Hp}{h h':Heap}{x e:Addr}{o':HO}
theorem HOk.write (ok:HOk P w H h) (mu:Mut (H x)) (he:e=x∨H e=some (.own x)) (k:∀ b u,b≠e→h.get? b=some u→h'.get? b=some u) (heo:∃ u,h'.get? e=some u)
    (new:ObjOk P w (upd H x o') h' x o'):HOk P w (upd H x o') h':=fun b u q=>by
  have nown:∀ c y,H c=some (.own y)→c≠x:=fun c y r z=>by subst z;rw [r] at mu;exact mu
  have ntup:∀ c xs,H c=some (.tup xs)→c≠x:=fun c xs r z=>by subst z;rw [r] at mu;exact mu
  by_cases hb:b=x
  · subst hb;rw [upd_same] at q;cases q;exact new
  · rw [upd_ne hb] at q
    by_cases hbe:b=e
    · have q':H b=some (.own x):=by
        rcases he with z | z
        · exact absurd (hbe.trans z) hb
        · rw [hbe];exact z
      rw [q] at q';cases q'
      obtain ⟨v,hv⟩:=heo
      exact ⟨v,by rw [hbe];exact hv⟩
    · refine (ok b u q).stay (fun c v hc r=>k c v ?_ r) (fun c r=>by rw [upd_ne (nown c b r)];exact r) fun c xs r=>by rw [upd_ne (ntup c xs r)];exact r
      rcases hc with rfl | hc
      · exact hbe
      · rintro rfl
        rcases he with z | z
        · exact nown c b hc z
        · rw [hc] at z;cases z;exact hb rfl
end
structure Un (fs ex:List Addr) (H H':Hp) (h h':Heap):Prop where
  keep:∀ b o,h.get? b=some o→H b=none→b ∉ fs→b ∉ ex→h'.get? b=some o
  slot:∀ b o,h.get? b=some o→H b=none→b∈fs→b ∉ ex→∃ sl,h'.get? b=some { o with slots:=sl }
  free:∀ b o,h.get? b=some o→H b=none→b ∉ ex→H' b=none
  there:∀ b o,h.get? b=some o→b ∉ ex→∃ o',h'.get? b=some o'
  tups:∀ b xs,H b=some (.tup xs)→H' b=some (.tup xs)
  frzs:∀ b o u,H b=some (.frz o u)→H' b=some (.frz o u)
  tbls:∀ b ps,H b=some (.tbl ps)→∃ more,H' b=some (.tbl (ps ++ more))
section
variable {fs fs' ex ex':List Addr}{H H1 H2:Hp}{h h1 h2 h':Heap}{a x e:Addr}{o:HO}
theorem Un.any (u:Un fs ex H H1 h h1) {b:Addr}{ob:Obj} (q:h.get? b=some ob) (n:H b=none) (hx:b ∉ ex):∃ sl,h1.get? b=some { ob with slots:=sl }:=by
  by_cases hb:b∈fs
  · exact u.slot b ob q n hb hx
  · exact ⟨ob.slots,u.keep b ob q n hb hx⟩
theorem Un.kept (k:∀ b u,h.get? b=some u→h'.get? b=some u):Un fs ex H H h h' :=
  ⟨fun b ob q _ _ _=>k b ob q,fun b ob q _ _ _=>⟨ob.slots,k b ob q⟩,fun _ _ _ n _=>n,fun b ob q _=>⟨ob,k b ob q⟩,fun _ _ q=>q,fun _ _ _ q=>q,fun _ ps q=>⟨#[],by rw [q];simp⟩⟩
theorem Un.refl:Un fs ex H H h h:=Un.kept fun _ _ q=>q
theorem Un.laid (k:∀ b u,h.get? b=some u→h'.get? b=some u) (hp:h.objs.size≤a) (hn:H a=none):Un fs ex H (upd H a o) h h' where
  keep:=fun b u q _ _ _=>k b u q
  slot:=fun b u q _ _ _=>⟨u.slots,k b u q⟩
  free:=fun b u q n _=>by rw [upd_ne (Nat.ne_of_lt (Nat.lt_of_lt_of_le (Heap.lt_size q) hp))];exact n
  there:=fun b u q _=>⟨u,k b u q⟩
  tups:=fun b xs q=>by rw [upd_ne (ne_of_none q hn)];exact q
  frzs:=fun b u xs q=>by rw [upd_ne (ne_of_none q hn)];exact q
  tbls:=fun b ps q=>⟨#[],by rw [upd_ne (ne_of_none q hn),q];simp⟩
theorem Un.write (mu:Mut (H x)) (he:e=x∨H e=some (.own x)) (k:∀ b u,b≠e→h.get? b=some u→h'.get? b=some u) (heo:∃ u,h'.get? e=some u):Un fs ex H (upd H x o) h h':=by
  have hx:∀ b,H b=none→b≠x:=fun b n z=>by subst z;rw [n] at mu;exact mu
  have hb:∀ b,H b=none→b≠e:=fun b n z=>by
    subst z
    rcases he with r | r
    · exact hx b n r
    · rw [n] at r;cases r
  have hm:∀ b u,H b=some u→¬ Mut (some u)→b≠x:=fun b u q nm z=>by subst z;rw [q] at mu;exact nm mu
  refine ⟨fun b u q n _ _=>k b u (hb b n) q,fun b u q n _ _=>⟨u.slots,k b u (hb b n) q⟩,fun b u q n _=>by rw [upd_ne (hx b n)];exact n,fun b u q _=>?_,
    fun b xs q=>by rw [upd_ne (hm b _ q fun z=>z)];exact q,fun b u xs q=>by rw [upd_ne (hm b _ q fun z=>z)];exact q,fun b ps q=>⟨#[],by rw [upd_ne (hm b _ q fun z=>z),q];simp⟩⟩
  by_cases hbe:b=e
  · subst hbe;exact heo
  · exact ⟨u,k b u hbe q⟩
end
noncomputable def trk (h:Heap) (H:Hp):List Addr:=(List.range h.objs.size).filter fun a=>(H a).isSome
noncomputable def hidT (h:Heap) (H:Hp):Heap:=PySem.W.hideAll h (trk h H)
theorem hidT_size (h:Heap) (H:Hp):(hidT h H).objs.size=h.objs.size:=PySem.W.hideAll_size _ _
theorem hidT_get {h:Heap}{H:Hp}{b:Addr}{o:Obj} (e:h.get? b=some o) (n:H b=none):(hidT h H).get? b=some o :=
  PySem.W.hideAll_get _ e fun hm=>by
    have q:(H b).isSome=true:=(List.mem_filter.mp hm).2
    rw [n] at q;simp at q
theorem of_hidT {h:Heap}{H:Hp}{b:Addr}{o:Obj} (e:(hidT h H).get? b=some o):h.get? b=some o∧H b=none:=by
  have e':h.get? b=some o:=PySem.W.of_hideAll (trk h H) e
  refine ⟨e',?_⟩
  cases q:H b with
  | none=>rfl
  | some x =>
    have hm:b∈trk h H:=List.mem_filter.mpr ⟨List.mem_range.mpr (Heap.lt_size e'),by simp [q]⟩
    have z:(hidT h H).get? b=none:=PySem.W.hideAll_none (trk h H) hm
    rw [z] at e;cases e
noncomputable def allNews (g h:Heap) (L:Addr):List (Addr×Obj):=(List.range h.objs.size).filterMap fun a=>if a=L∨(g.get? a).isSome=true then none else (h.get? a).map fun o=>(a,o)
noncomputable def rest (g h:Heap) (L d:Addr):List (Addr×Obj):=(allNews g h L).filter fun p=>decide (p.1≠d)
structure Mod (K:PySem.W.Frag) (mg:Str→Option Value) (base:Heap):Prop where
  kin:K.In base
  glob:base.Ns mainGlobals mg
  blt:∃ mb,base.Ns builtinsNs mb∧∀ x:Str,x≠"__name__"→mb x=bootBuiltins x
  nolimit:base.NoLimit
structure Cx where
  prog:Program
  w:World
  K:PySem.W.Frag
  mg:Str→Option Value
  base:Heap
  A:Around
  N:List Str
  s₀:Shared
  H₀:Hp
  env:Env
  outer:List Env
  stack:List Env
  ex:List Addr
  fn:Str→Bool
  calm:Bool
  pn:List (Addr×Obj)
  xe:Value→Shared→Prop
noncomputable def frs (l:List Env):List Addr:=l.filterMap (·.frame)
noncomputable abbrev Cx.fs (X:Cx):List Addr:=frs X.outer
def Vis (sc:Scope) (x:Str):Prop:=sc.names.lookup x=some .local∨sc.names.lookup x=some .cell∨sc.names.lookup x=some .free
def Loc (sc:Scope) (x:Str):Prop:=sc.names.lookup x=some .local∨sc.names.lookup x=some .cell
def Look (env:Env) (h:Heap) (m:Str→Option Value) (x:Str) (u:Value):Prop :=
  (env.kindOf x=some .local∧m x=some u)∨((env.kindOf x=some .cell∨env.kindOf x=some .free)∧∃ c,env.cells.lookup x=some c∧h.IsCell c (some u))
structure Cx.Ok (X:Cx):Prop where
  mod:Mod X.K X.mg X.base
  kind:X.env.scope.kind = .function
  glob:X.env.globals=mainGlobals
  blt:X.env.builtins=builtinsNs
  above:X.s₀.heap.objs.size≤X.env.locals
  inj:∀ x y c,X.env.cells.lookup x=some c→X.env.cells.lookup y=some c→x=y
  has:∀ x,(X.env.kindOf x=some .cell∨X.env.kindOf x=some .free)→∃ c,X.env.cells.lookup x=some c
  cab:∀ x c,X.fn x=true→X.env.cells.lookup x=some c→X.s₀.heap.objs.size≤c
  hd:X.calm=true→X.A.handled=none
  frames:X.A.frames=some X.stack
  stk:X.stack=X.outer∨(X.stack=X.env::X.outer∧X.env.frame=some X.env.locals)
  exf:∀ b∈X.ex,b≠X.env.locals∧∀ x c,X.env.cells.lookup x=some c→c≠b
  bs:∀ b o,X.base.get? b=some o→X.s₀.heap.get? b=some o∧X.H₀ b=none
  bsz:X.base.objs.size≤X.s₀.heap.objs.size
  noex:∀ b o,X.base.get? b=some o→b ∉ X.ex
  exfs:∀ b∈X.ex,b ∉ X.fs
  funs:X.s₀.heap.FunFrames X.base X.outer
  frf:∀ b∈X.fs,X.H₀ b=none
structure Inv (X:Cx) (pins:List (Addr×Obj)) (σ:List (Option V)) (H:Hp) (s:Shared):Prop where
  ok:X.Ok
  os:s.os=X.s₀.os
  bare:AllBare s.gens
  base:Un X.fs X.ex X.H₀ H X.s₀.heap s.heap
  loc:∃ m,s.heap.Ns X.env.locals m∧∀ (i:Nat) (x:Str) (v:V),X.N[i]?=some x→σ[i]?=some (some v)→Vis X.env.scope x→∃ u,RelV v u∧Look X.env s.heap m x u
  cell:∀ x c,X.env.cells.lookup x=some c→∃ v,s.heap.IsCell c v
  free:H X.env.locals=none
  freeC:∀ x c,X.env.cells.lookup x=some c→H c=none
  pin:∀ p∈X.pn ++ pins,s.heap.get? p.1=some p.2∧H p.1=none∧p.1≠X.env.locals∧p.1 ∉ X.fs∧∀ v,p.2.data≠.cell v
  hok:HOk X.prog X.w H s.heap
  len:σ.length=X.N.length
section
variable {X:Cx}{pins:List (Addr×Obj)}{σ:List (Option V)}{H H':Hp}{s:Shared}{h':Heap}
theorem Cx.Ok.nofr (ok:X.Ok) {b:Addr}{o:Obj} (e:X.base.get? b=some o):b ∉ X.fs:=fun hb=>by
  have:=(ok.funs.mem hb).1
  rw [e] at this;cases this
theorem Inv.bs (I:Inv X pins σ H s):∀ b o,X.base.get? b=some o→s.heap.get? b=some o∧H b=none:=fun b o e =>
  ⟨I.base.keep b o (I.ok.bs b o e).1 (I.ok.bs b o e).2 (I.ok.nofr e) (I.ok.noex b o e),I.base.free b o (I.ok.bs b o e).1 (I.ok.bs b o e).2 (I.ok.noex b o e)⟩
theorem Inv.bk (I:Inv X pins σ H s):∀ b o,X.base.get? b=some o→s.heap.get? b=some o:=fun b o e=>(I.bs b o e).1
theorem Inv.mod (I:Inv X pins σ H s):Mod X.K X.mg X.base:=I.ok.mod
theorem Inv.kIn (I:Inv X pins σ H s):X.K.In s.heap:=I.ok.mod.kin.keeps I.bk
theorem Inv.nolimit (I:Inv X pins σ H s):s.heap.NoLimit:=I.ok.mod.nolimit.keeps I.bk
theorem Inv.fr (I:Inv X pins σ H s):∃ m,Fr X.base X.env.locals s.heap m :=
  let ⟨m,hn,_⟩:=I.loc
  ⟨m,hn,I.bk,Nat.le_trans I.ok.bsz I.ok.above⟩
theorem Inv.lt (I:Inv X pins σ H s):X.env.locals<s.heap.objs.size:=let ⟨_,hn,_⟩:=I.loc;hn.lt
theorem Inv.sz (I:Inv X pins σ H s):X.s₀.heap.objs.size≤s.heap.objs.size:=Nat.le_trans I.ok.above (Nat.le_of_lt I.lt)
theorem Inv.nofs (I:Inv X pins σ H s) {a:Addr} (h:s.heap.objs.size≤a):a ∉ X.fs:=fun hb=>by
  obtain ⟨_,o,ho,_⟩:=I.ok.funs.mem hb
  exact absurd (Nat.lt_of_lt_of_le (Heap.lt_size ho) (Nat.le_trans I.sz h)) (Nat.lt_irrefl _)
theorem Inv.cne (I:Inv X pins σ H s):∀ x c,X.env.cells.lookup x=some c→c≠X.env.locals:=fun x c e z=>by
  obtain ⟨v,o,ho,hd⟩:=I.cell x c e
  obtain ⟨m,⟨o',es,ep,ho',hd',_⟩,_⟩:=I.loc
  rw [z,ho'] at ho;cases ho;rw [hd'] at hd;cases hd
theorem Inv.funs (I:Inv X pins σ H s):s.heap.FunFrames X.base X.outer:=by
  have all:∀ (l:List Env),(∀ b∈frs l,b∈X.fs)→X.s₀.heap.FunFrames X.base l→s.heap.FunFrames X.base l:=by
    intro l
    induction l with
    | nil=>intro _ _;trivial
    | cons env r ih =>
      intro hs hl
      obtain ⟨hk,⟨L,o,hf,hn,ho,hd⟩,hr⟩:=hl
      have hL:L∈X.fs:=hs L (by unfold frs;rw [List.filterMap_cons,hf];exact List.mem_cons_self)
      obtain ⟨sl,e⟩:=I.base.slot L o ho (I.ok.frf L hL) hL fun z=>I.ok.exfs L z hL
      exact ⟨hk,⟨L,_,hf,hn,e,hd⟩,ih (fun b hb=>hs b (by unfold frs;rw [List.filterMap_cons,hf];exact List.mem_cons_of_mem _ hb)) hr⟩
  exact all X.outer (fun _ hb=>hb) I.ok.funs
theorem Inv.stack (I:Inv X pins σ H s):s.heap.FunFrames X.base X.stack:=by
  rcases I.ok.stk with e | ⟨e,hf⟩
  · rw [e];exact I.funs
  · rw [e]
    obtain ⟨m,hn,_⟩:=I.loc
    refine .cons (by rw [I.ok.kind];decide) hf hn ?_ I.funs
    exact Heap.get?_none_of_le (Nat.le_trans I.ok.bsz I.ok.above)
theorem Inv.stkSub (I:Inv X pins σ H s):∀ b∈frs X.stack,b∈X.env.locals::X.fs:=fun b hb=>by
  rcases I.ok.stk with e | ⟨e,hf⟩
  · rw [e] at hb;exact List.mem_cons_of_mem _ hb
  · rw [e] at hb
    unfold frs at hb
    rw [List.filterMap_cons,hf] at hb
    exact hb
theorem Inv.stkFree (I:Inv X pins σ H s):∀ b∈frs X.stack,H b=none:=fun b hb=>by
  rcases List.mem_cons.mp (I.stkSub b hb) with e | hb
  · rw [e];exact I.free
  · obtain ⟨_,o,ho,_⟩:=I.ok.funs.mem hb
    exact I.base.free b o ho (I.ok.frf b hb) fun z=>I.ok.exfs b z hb
theorem Inv.step {g':Array GenState}{t':Nat}{d':Drawn}{ch:List Addr} (I:Inv X pins σ H s)
    (hch:∀ b∈ch,(b∈X.ex∨X.s₀.heap.objs.size≤b)∧b≠X.env.locals∧(∀ x c,X.env.cells.lookup x=some c→c≠b)∧∀ p∈X.pn ++ pins,p.1≠b)
    (keep:∀ b o,b≠X.env.locals→b ∉ X.fs→b ∉ ch→s.heap.get? b=some o→H b=none→h'.get? b=some o)
    (slot:∀ b o,b≠X.env.locals→b∈X.fs→b ∉ ch→s.heap.get? b=some o→H b=none→∃ sl,h'.get? b=some { o with slots:=sl }) (free:∀ b o,b ∉ ch→s.heap.get? b=some o→H b=none→H' b=none)
    (there:∀ b o,b ∉ ch→s.heap.get? b=some o→∃ o',h'.get? b=some o')
    (tups:∀ b xs,H b=some (.tup xs)→H' b=some (.tup xs)) (frzs:∀ b o u,H b=some (.frz o u)→H' b=some (.frz o u)) (tbls:∀ b ps,H b=some (.tbl ps)→∃ more,H' b=some (.tbl (ps ++ more)))
    (ns:∀ m,s.heap.Ns X.env.locals m→h'.Ns X.env.locals m) (hok:HOk X.prog X.w H' h') (hg:AllBare g') :
    Inv X pins σ H' { s with heap:=h',gens:=g',drawn:=d',toks:=t' }:=by
  have neL:∀ b o,X.s₀.heap.get? b=some o→b≠X.env.locals:=fun b o e=>Nat.ne_of_lt (Nat.lt_of_lt_of_le (Heap.lt_size e) I.ok.above)
  have neC:∀ b o,X.s₀.heap.get? b=some o→b ∉ X.ex→b ∉ ch:=fun b o e hx hb=>by
    rcases (hch b hb).1 with z | z
    · exact hx z
    · exact absurd (Nat.lt_of_lt_of_le (Heap.lt_size e) z) (Nat.lt_irrefl _)
  have cellK:∀ x c,X.env.cells.lookup x=some c→∀ v,s.heap.IsCell c v→h'.IsCell c v:=fun x c e v ⟨o,ho,hd⟩=>by
    have nch:c ∉ ch:=fun z=>(hch c z).2.2.1 x c e rfl
    by_cases hc:c∈X.fs
    · obtain ⟨sl,q⟩:=slot c o (I.cne x c e) hc nch ho (I.freeC x c e)
      exact ⟨_,q,hd⟩
    · exact ⟨o,keep c o (I.cne x c e) hc nch ho (I.freeC x c e),hd⟩
  refine ⟨I.ok,I.os,hg,⟨fun b o e n hb hx=>?_,fun b o e n hb hx=>?_,fun b o e n hx=>?_,fun b o e hx=>?_,fun b xs e=>tups b xs (I.base.tups b xs e),fun b o xs e=>frzs b o xs (I.base.frzs b o xs e),fun b ps e=>?_⟩,?_,fun x c e=>?_,?_,fun x c e=>?_,fun p hp=>?_,hok,I.len⟩
  · exact keep b o (neL b o e) hb (neC b o e hx) (I.base.keep b o e n hb hx) (I.base.free b o e n hx)
  · obtain ⟨sl,e1⟩:=I.base.slot b o e n hb hx
    obtain ⟨sl',e2⟩:=slot b _ (neL b o e) hb (neC b o e hx) e1 (I.base.free b o e n hx)
    exact ⟨sl',e2⟩
  · obtain ⟨o',e1⟩:=I.base.there b o e hx
    exact free b o' (neC b o e hx) e1 (I.base.free b o e n hx)
  · obtain ⟨o',e1⟩:=I.base.there b o e hx
    exact there b o' (neC b o e hx) e1
  · obtain ⟨m1,e1⟩:=I.base.tbls b ps e
    obtain ⟨m2,e2⟩:=tbls b _ e1
    exact ⟨m1 ++ m2,by rw [e2,Array.append_assoc]⟩
  · obtain ⟨m,hn,hl⟩:=I.loc
    refine ⟨m,ns m hn,fun i x v e1 e2 e3=>?_⟩
    obtain ⟨u,r,l⟩:=hl i x v e1 e2 e3
    refine ⟨u,r,?_⟩
    rcases l with l | ⟨k,c,e,z⟩
    · exact .inl l
    · exact .inr ⟨k,c,e,cellK x c e _ z⟩
  · obtain ⟨v,z⟩:=I.cell x c e
    exact ⟨v,cellK x c e v z⟩
  · obtain ⟨m,⟨o,_,_,ho,_⟩,_⟩:=I.loc
    exact free _ o (fun z=>(hch _ z).2.1 rfl) ho I.free
  · obtain ⟨v,o,ho,hd⟩:=I.cell x c e
    exact free c o (fun z=>(hch c z).2.2.1 x c e rfl) ho (I.freeC x c e)
  · obtain ⟨e,n,ne,nf,d⟩:=I.pin p hp
    have nch:p.1 ∉ ch:=fun z=>(hch p.1 z).2.2.2 p hp rfl
    exact ⟨keep p.1 p.2 ne nf nch e n,free p.1 p.2 nch e n,ne,nf,d⟩
theorem Inv.un {t':Nat} (I:Inv X pins σ H s) (u:Un X.fs [] H H' s.heap h') (hok:HOk X.prog X.w H' h'):Inv X pins σ H' { s with heap:=h',toks:=t' }:=by
  obtain ⟨m,⟨o,es,ep,ho,r⟩,_⟩:=id I.loc
  obtain ⟨sl,hL⟩:=u.any ho I.free (by simp)
  exact I.step (g':=s.gens) (d':=s.drawn) (ch:=[]) (fun _ z=>nomatch z) (fun b o _ hb _ e n=>u.keep b o e n hb (by simp)) (fun b o _ hb _ e n=>u.slot b o e n hb (by simp)) (fun b o _ e n=>u.free b o e n (by simp)) (fun b o _ e=>u.there b o e (by simp)) u.tups u.frzs u.tbls (fun m' hm=>by
    obtain ⟨o',es',ep',ho',r'⟩:=hm
    rw [ho] at ho';cases ho'
    exact ⟨_,es',ep',hL,r'⟩) hok I.bare
theorem Inv.call {g':Array GenState}{t':Nat}{d':Drawn}{ch:List Addr} (I:Inv X pins σ H s) (u:Un (frs X.stack) ch H H' s.heap h') (hok:HOk X.prog X.w H' h') (hg:AllBare g')
    (hch:∀ b∈ch,(b∈X.ex∨X.s₀.heap.objs.size≤b)∧b≠X.env.locals∧(∀ x c,X.env.cells.lookup x=some c→c≠b)∧∀ p∈X.pn ++ pins,p.1≠b) :
    Inv X pins σ H' { s with heap:=h',gens:=g',drawn:=d',toks:=t' }:=by
  obtain ⟨m,⟨o,es,ep,ho,r⟩,_⟩:=id I.loc
  obtain ⟨sl,hL⟩:=u.any ho I.free fun z=>(hch _ z).2.1 rfl
  exact I.step (ch:=ch) hch (fun b o hL hb hc e n=>u.keep b o e n (fun z=>(List.mem_cons.mp (I.stkSub b z)).elim hL hb) hc) (fun b o _ _ hc e n=>u.any e n hc) (fun b o hc e n=>u.free b o e n hc) (fun b o hc e=>u.there b o e hc) u.tups u.frzs u.tbls (fun m' hm=>by
    obtain ⟨o',es',ep',ho',r'⟩:=hm
    rw [ho] at ho';cases ho'
    exact ⟨_,es',ep',hL,r'⟩) hok hg
theorem Inv.turned {t':Nat}{it:Addr} (I:Inv X pins σ H s) (k:∀ b o,b≠it→s.heap.get? b=some o→h'.get? b=some o) (hn:H it=none) (hL:it≠X.env.locals)
    (h1:it∈X.ex∨X.s₀.heap.objs.size≤it) (h2:∀ x c,X.env.cells.lookup x=some c→c≠it) (h3:∀ p∈X.pn ++ pins,p.1≠it):Inv X pins σ H { s with heap:=h',toks:=t' }:=by
  have nit:∀ b u,H b=some u→b≠it:=fun b u e z=>by rw [z,hn] at e;cases e
  refine I.step (g':=s.gens) (d':=s.drawn) (ch:=[it]) (fun b hb=>?_) (fun b o _ _ hc e _=>k b o (fun z=>hc (by simp [z])) e) (fun b o _ _ hc e _=>⟨o.slots,k b o (fun z=>hc (by simp [z])) e⟩) (fun _ _ _ _ n=>n)
    (fun b o hc e=>⟨o,k b o (fun z=>hc (by simp [z])) e⟩) (fun _ _ e=>e) (fun _ _ _ e=>e) (fun b ps e=>⟨#[],by rw [e];simp⟩) (fun m hm=>?_) (fun b u e=>?_) I.bare
  · have e:b=it:=by simpa using hb
    subst e
    exact ⟨h1,hL,h2,h3⟩
  · obtain ⟨o,es,ep,ho,r⟩:=hm
    exact ⟨o,es,ep,k _ o (Ne.symm hL) ho,r⟩
  · refine (I.hok b u e).stay (fun c v hc q=>k c v ?_ q) (fun _ q=>q) fun _ _ q=>q
    rcases hc with z | z
    · rw [z];exact nit b u e
    · exact nit c _ z
theorem Inv.tok (I:Inv X pins σ H s) (t:Nat):Inv X pins σ H { s with toks:=t }:=I.un (h':=s.heap) (t':=t) Un.refl I.hok
theorem Inv.kept {t':Nat} (I:Inv X pins σ H s) (k:∀ b u,s.heap.get? b=some u→h'.get? b=some u):Inv X pins σ H { s with heap:=h',toks:=t' }:=I.un (Un.kept k) (I.hok.kept k)
theorem Inv.laid {a:Addr}{o:HO}{t':Nat} (I:Inv X pins σ H s) (k:∀ b u,s.heap.get? b=some u→h'.get? b=some u) (hp:s.heap.objs.size≤a) (new:ObjOk X.prog X.w (upd H a o) h' a o) :
    Inv X pins σ (upd H a o) { s with heap:=h',toks:=t' }:=I.un (Un.laid k hp (I.hok.fresh hp)) (I.hok.laid k hp new)
theorem Inv.write {x e:Addr}{o:HO}{t':Nat} (I:Inv X pins σ H s) (mu:Mut (H x)) (he:e=x∨H e=some (.own x)) (k:∀ b u,b≠e→s.heap.get? b=some u→h'.get? b=some u) (heo:∃ u,h'.get? e=some u)
    (new:ObjOk X.prog X.w (upd H x o) h' x o):Inv X pins σ (upd H x o) { s with heap:=h',toks:=t' }:=I.un (Un.write mu he k heo) (I.hok.write mu he k heo new)
theorem Inv.pins_of {pins':List (Addr×Obj)} (I:Inv X pins σ H s) (h:∀ p∈pins',s.heap.get? p.1=some p.2∧H p.1=none∧p.1≠X.env.locals∧p.1 ∉ X.fs∧∀ v,p.2.data≠.cell v):Inv X pins' σ H s :=
  ⟨I.ok,I.os,I.bare,I.base,I.loc,I.cell,I.free,I.freeC,fun p hp=>(List.mem_append.mp hp).elim (fun z=>I.pin p (List.mem_append_left _ z)) (h p),I.hok,I.len⟩
theorem nodup_ix {N:List Str} (hN:N.Nodup) {i j:Nat}{x:Str} (a:N[i]?=some x) (b:N[j]?=some x):i=j:=by
  obtain ⟨h1,e1⟩:=List.getElem?_eq_some_iff.mp a
  obtain ⟨h2,e2⟩:=List.getElem?_eq_some_iff.mp b
  exact (List.getElem_inj hN).mp (e1.trans e2.symm)
theorem store_ok2 {M:Model}{A:Around}{E:Value→Shared→Prop}{i:Nat}{x:Str}{v:V}{u:Value}{Q:Unit→Shared→Prop} (I:Inv X pins σ H s) (hN:X.N.Nodup) (hi:X.N[i]?=some x) (hx:Loc X.env.scope x) (r:RelV v u)
    (h:∀ s',Inv X pins (σ.set i (some v)) H s'→(∃ a,Heap.SameBut a s.heap s'.heap∧(a=X.env.locals∨X.env.cells.lookup x=some a))→Q () s') (hf:X.fn x=true∨X.env.scope.names.lookup x=some .local:=by first | exact .inl rfl | exact .inr rfl | assumption):wpAny M A (storeName X.env x u) Q E s:=by
  obtain ⟨m,hn,hl⟩:=id I.loc
  have hcls:(X.env.scope.kind == .class || (X.env.scope.kind == .module && X.env.locals != X.env.globals))=false:=by rw [I.ok.kind];rfl
  have hiσ:i<σ.length:=by rw [I.len];exact (List.getElem?_eq_some_iff.mp hi).1
  have cne:=I.cne
  have tracked:∀ {a:Addr}{h':Heap},(∃ o,s.heap.get? a=some o∧H a=none)→Heap.SameBut a s.heap h'→HOk X.prog X.w H h':=fun {a h'} ha hs b ob e=>by
    obtain ⟨_,_,hfree⟩:=ha
    refine (I.hok b ob e).stay (fun c w' hc q=>(hs.2 c ?_).trans q) (fun _ q=>q) fun _ _ q=>q
    rintro rfl
    rcases hc with rfl | hc
    · rw [hfree] at e;cases e
    · rw [hfree] at hc;cases hc
  rcases hx with hk | hk
  · refine wpAny_storeName_local hk hn (fun h' hn' hs=>?_) hcls
    obtain ⟨oL,_,_,hoL,_⟩:=id hn
    refine h _ ⟨I.ok,I.os,I.bare,⟨fun b o e n hb hx=>?_,fun b o e n hb hx=>?_,I.base.free,fun b o e hx=>?_,I.base.tups,I.base.frzs,I.base.tbls⟩,⟨_,hn',fun j y v' e1 e2 e3=>?_⟩,fun y c e=>?_,I.free,I.freeC,fun p hp=>?_,tracked ⟨oL,hoL,I.free⟩ hs,by simpa using I.len⟩ ⟨_,hs,.inl rfl⟩
    · exact (hs.2 b (Nat.ne_of_lt (Nat.lt_of_lt_of_le (Heap.lt_size e) I.ok.above))).trans (I.base.keep b o e n hb hx)
    · obtain ⟨sl,e1⟩:=I.base.slot b o e n hb hx
      exact ⟨sl,(hs.2 b (Nat.ne_of_lt (Nat.lt_of_lt_of_le (Heap.lt_size e) I.ok.above))).trans e1⟩
    · obtain ⟨o',e1⟩:=I.base.there b o e hx
      exact ⟨o',(hs.2 b (Nat.ne_of_lt (Nat.lt_of_lt_of_le (Heap.lt_size e) I.ok.above))).trans e1⟩
    · by_cases hj:j=i
      · subst hj
        rw [hi] at e1;cases e1
        rw [List.getElem?_set_self hiσ] at e2
        cases e2
        exact ⟨u,r,.inl ⟨hk,by simp⟩⟩
      · rw [List.getElem?_set_ne (Ne.symm hj)] at e2
        obtain ⟨u',r',q⟩:=hl j y v' e1 e2 e3
        refine ⟨u',r',?_⟩
        rcases q with ⟨k,e⟩ | ⟨k,c,e,z⟩
        · refine .inl ⟨k,?_⟩
          have:y≠x:=fun e=>hj (nodup_ix hN e1 (e ▸ hi))
          simp [this,e]
        · exact .inr ⟨k,c,e,z.sameBut hs (cne y c e)⟩
    · obtain ⟨w',z⟩:=I.cell y c e
      exact ⟨w',z.sameBut hs (cne y c e)⟩
    · obtain ⟨e,n,ne,nf,d⟩:=I.pin p hp
      exact ⟨(hs.2 p.1 ne).trans e,n,ne,nf,d⟩
  · have hfn:X.fn x=true:=by
      rcases hf with z | z
      · exact z
      · rw [z] at hk;cases hk
    obtain ⟨c,hc⟩:=I.ok.has x (.inl hk)
    obtain ⟨w',z⟩:=I.cell x c hc
    refine wpAny_storeName_cell I.ok.kind hk hc z (fun h' hc' hs=>?_)
    obtain ⟨oc,hoc,hocd⟩:=id z
    refine h { s with heap:=h' } ⟨I.ok,I.os,I.bare,⟨fun b o e n hb hx=>?_,fun b o e n hb hx=>?_,I.base.free,fun b o e hx=>?_,I.base.tups,I.base.frzs,I.base.tbls⟩,⟨m,hn.sameBut hs (Ne.symm (cne x c hc)),fun j y v' e1 e2 e3=>?_⟩,fun y c' e=>?_,I.free,I.freeC,fun p hp=>?_,tracked ⟨oc,hoc,I.freeC x c hc⟩ hs,by simpa using I.len⟩ ⟨c,hs,.inr hc⟩
    · exact (hs.2 b (Nat.ne_of_lt (Nat.lt_of_lt_of_le (Heap.lt_size e) (I.ok.cab x c hfn hc)))).trans (I.base.keep b o e n hb hx)
    · obtain ⟨sl,e1⟩:=I.base.slot b o e n hb hx
      exact ⟨sl,(hs.2 b (Nat.ne_of_lt (Nat.lt_of_lt_of_le (Heap.lt_size e) (I.ok.cab x c hfn hc)))).trans e1⟩
    · obtain ⟨o',e1⟩:=I.base.there b o e hx
      exact ⟨o',(hs.2 b (Nat.ne_of_lt (Nat.lt_of_lt_of_le (Heap.lt_size e) (I.ok.cab x c hfn hc)))).trans e1⟩
    · by_cases hj:j=i
      · subst hj
        rw [hi] at e1;cases e1
        rw [List.getElem?_set_self hiσ] at e2
        cases e2
        exact ⟨u,r,.inr ⟨.inl hk,c,hc,hc'⟩⟩
      · rw [List.getElem?_set_ne (Ne.symm hj)] at e2
        obtain ⟨u',r',q⟩:=hl j y v' e1 e2 e3
        refine ⟨u',r',?_⟩
        rcases q with q | ⟨k,c',e,z'⟩
        · exact .inl q
        · refine .inr ⟨k,c',e,z'.sameBut hs ?_⟩
          rintro rfl
          exact hj (nodup_ix hN e1 (I.ok.inj _ _ _ e hc ▸ hi))
    · by_cases hcc:c'=c
      · subst hcc;exact ⟨_,hc'⟩
      · obtain ⟨w2,z2⟩:=I.cell y c' e
        exact ⟨w2,z2.sameBut hs hcc⟩
    · obtain ⟨e,n,ne,nf,d⟩:=I.pin p hp
      refine ⟨(hs.2 p.1 ?_).trans e,n,ne,nf,d⟩
      intro q
      rw [q,hoc] at e
      have q':oc=p.2:=Option.some.inj e
      exact d w' (by rw [← q'];exact hocd)
theorem store_ok {M:Model}{A:Around}{E:Value→Shared→Prop}{i:Nat}{x:Str}{v:V}{u:Value}{Q:Unit→Shared→Prop} (I:Inv X pins σ H s) (hN:X.N.Nodup) (hi:X.N[i]?=some x) (hx:Loc X.env.scope x) (r:RelV v u)
    (h:∀ s',Inv X pins (σ.set i (some v)) H s'→Q () s') (hf:X.fn x=true∨X.env.scope.names.lookup x=some .local:=by first | exact .inl rfl | exact .inr rfl | assumption):wpAny M A (storeName X.env x u) Q E s :=
  store_ok2 I hN hi hx r (fun s' I' _=>h s' I') hf
theorem Inv.call' {s':Shared}{ch:List Addr} (I:Inv X pins σ H s) (ho:s'.os=s.os) (u:Un (frs X.stack) ch H H' s.heap s'.heap) (hok:HOk X.prog X.w H' s'.heap) (hg:AllBare s'.gens)
    (hch:∀ b∈ch,(b∈X.ex∨X.s₀.heap.objs.size≤b)∧b≠X.env.locals∧(∀ x c,X.env.cells.lookup x=some c→c≠b)∧∀ p∈X.pn ++ pins,p.1≠b):Inv X pins σ H' s':=by
  obtain ⟨h',g',d',t',o'⟩:=s'
  have e:o'=s.os:=ho
  subst e
  exact I.call (g':=g') (t':=t') (d':=d') u hok hg hch
end
abbrev XK:=Value→Option Addr→Hp→Prop
abbrev St:=List (Option V)
abbrev VK:=V→Hp→Prop
abbrev TE:=St→Hp→VK→Prop
abbrev TT:=St→Hp→(Bool→Hp→Prop)→Prop
abbrev TA:=St→Hp→(List V→Hp→Prop)→Prop
structure Ends where
  nx:St→Hp→Prop
  rt:VK
  bk:St→Hp→Prop:=fun _ _=>False
  ct:St→Hp→Prop:=fun _ _=>False
abbrev TS:=Ends→St→Hp→Prop
def EP (X:Cx) (pins:List (Addr×Obj)) (σ:St) (Q:VK) (u:Value) (s':Shared):Prop:=∃ v H',Inv X pins σ H' s'∧RelV v u∧Q v H'
def SP (X:Cx) (pins:List (Addr×Obj)) (D:Ends) (f:Flow) (s':Shared):Prop :=
  match f with
  | .next=>∃ σ' H',Inv X pins σ' H' s'∧D.nx σ' H'
  | .brk=>∃ σ' H',Inv X pins σ' H' s'∧D.bk σ' H'
  | .cont=>∃ σ' H',Inv X pins σ' H' s'∧D.ct σ' H'
  | .ret u=>∃ v σ' H',Inv X pins σ' H' s'∧RelV v u∧D.rt v H'
def PE (X:Cx) (e:Expr) (t:TE):Prop :=
  ∀ (pins:List (Addr×Obj)) (s:Shared) (σ:St) (H:Hp) (Q:VK),Inv X pins σ H s→t σ H Q→wpAny (model X.prog X.w) X.A (eval e X.env) (EP X pins σ Q) X.xe s
def PSs (X:Cx) (st:List Stmt) (t:TS):Prop :=
  ∀ (pins:List (Addr×Obj)) (s:Shared) (σ:St) (H:Hp) (D:Ends),Inv X pins σ H s→t D σ H→wpAny (model X.prog X.w) X.A (execs st X.env) (SP X pins D) X.xe s
theorem thn {α:Type}{t:Sem α}{Q Q':α→Shared→Prop}{M:Model}{A:Around}{E:Value→Shared→Prop}{s:Shared} (h:wpAny M A t Q E s) (hQ:∀ a s,Q a s→Q' a s):wpAny M A t Q' E s:=wpAny_mono h hQ fun _ _ x=>x
section
variable {X:Cx}
def tVar (i:Nat):TE:=fun σ H Q=>∃ v,σ[i]?=some (some v)∧Q v H
def tC (v:V):TE:=fun _ H Q=>Q v H
theorem pe_var {i:Nat}{x:Str}{pos:Pos} (hN:X.N[i]?=some x) (hv:Vis X.env.scope x) (hd:(x == ("__debug__" : Str))=false:=by decide) (hcd:(x == ("__classdict__" : Str))=false:=by decide):PE X (.Name x pos) (tVar i):=by
  intro pins s σ H Q I h
  obtain ⟨v,e,h⟩:=h
  obtain ⟨m,hn,hl⟩:=I.loc
  obtain ⟨u,r,l⟩:=hl i x v hN e hv
  have fin:EP X pins σ Q u s:=⟨v,H,I,r,h⟩
  rcases l with ⟨hk,hm⟩ | ⟨hk,c,hc,hcell⟩
  · exact wpAny_Name (wpAny_loadName_local I.ok.kind hk hn hm fin) hd
  · rcases hk with hk | hk
    · exact wpAny_Name (wpAny_loadName_cell I.ok.kind hk hc hcell fin) hd
    · exact wpAny_Name (wpAny_loadName_free I.ok.kind hk hc hcell fin hcd) hd
theorem pe_int {i j pos}:PE X (.Constant (.int i) j pos) (tC (.int i)):=fun _ _ _ H _ I h=>wpAny_Constant_int ⟨.int i,H,I.tok _,⟨_,rfl⟩,h⟩
theorem pe_bl {b j pos}:PE X (.Constant (.bool b) j pos) (tC (.bl b)):=fun _ _ _ H _ I h=>Constant_bool ⟨.bl b,H,I,rfl,h⟩
theorem pe_non {j pos}:PE X (.Constant .none j pos) (tC .non):=fun _ _ _ H _ I h=>Constant_none ⟨.non,H,I,rfl,h⟩
theorem pe_str {x j pos}:PE X (.Constant (.str x) j pos) (tC (.str x)):=fun _ _ _ H _ I h=>Calls.Constant_str ⟨.str x,H,I.tok _,⟨_,rfl⟩,h⟩
def Gl (X:Cx) (x:Str):Prop:=X.env.kindOf x=some .globalImplicit
theorem ld_glob {E:Value→Shared→Prop}{pins:List (Addr×Obj)}{s:Shared}{σ:St}{H:Hp}{x:Str}{u:Value}{pos:Pos}{Q:Value→Shared→Prop} (I:Inv X pins σ H s) (hg:Gl X x) (hm:X.mg x=some u) (h:Q u s)
    (hd:(x == ("__debug__" : Str))=false:=by decide):wpAny (model X.prog X.w) X.A (eval (.Name x pos) X.env) Q E s :=
  Calls.Name_function_global I.ok.kind hg (Calls.loadGlobal_global (by rw [I.ok.glob];exact I.mod.glob.keeps I.bk) hm h) hd
theorem ld_blt {E:Value→Shared→Prop}{pins:List (Addr×Obj)}{s:Shared}{σ:St}{H:Hp}{x:Str}{u:Value}{pos:Pos}{Q:Value→Shared→Prop} (I:Inv X pins σ H s) (hg:Gl X x) (hm:X.mg x=none) (hv:bootBuiltins x=some u) (h:Q u s)
    (hn:x≠"__name__":=by decide) (hd:(x == ("__debug__" : Str))=false:=by decide):wpAny (model X.prog X.w) X.A (eval (.Name x pos) X.env) Q E s:=by
  obtain ⟨mb,h1,h2⟩:=I.mod.blt
  exact Calls.Name_function_global I.ok.kind hg (Calls.loadGlobal_builtin (by rw [I.ok.glob];exact I.mod.glob.keeps I.bk) hm (by rw [I.ok.blt];exact h1.keeps I.bk) ((h2 x hn).trans hv) h) hd
theorem pe_glob {x:Str}{v:V}{u:Value}{pos:Pos} (hg:Gl X x) (hm:X.mg x=some u) (r:RelV v u) (hd:(x == ("__debug__" : Str))=false:=by decide):PE X (.Name x pos) (tC v) :=
  fun _ _ _ H _ I h=>ld_glob I hg hm ⟨v,H,I,r,h⟩ hd
variable {a b:Expr}{ta tb:TE}{pos:Pos}
theorem nobehind (b:Expr) {op:CmpOp} (h:op≠.In) (h2:op≠.NotIn):behindInMarks op b=false:=by
  have e1:(op == CmpOp.In)=false:=by cases op<;>first | rfl | exact absurd rfl h
  have e2:(op == CmpOp.NotIn)=false:=by cases op<;>first | rfl | exact absurd rfl h2
  cases b<;>simp [behindInMarks,e1,e2]
theorem RelV.none_iff {x:V}{v:Value} (r:RelV x v):(v == Value.none)=decide (x = .non):=by
  cases x with
  | non=>cases r;rfl
  | bl _=>cases r;rfl
  | int _=>obtain ⟨t,rfl⟩:=r;rfl
  | str _=>obtain ⟨t,rfl⟩:=r;rfl
  | byt _=>obtain ⟨t,rfl⟩:=r;rfl
  | flt _=>obtain ⟨t,rfl⟩:=r;rfl
  | ref _=>cases r;rfl
  | ty _=>cases r;rfl
variable {tA tB':TT}{rest:List Expr}
end
def SqL (K:PySem.W.Frag) (H:Hp) (a:Addr) (xs:List V):Prop :=
  Rd H a (.lst xs) ∨
    ∃ (o:Obj) (its:Array Value) (n:Nat),K.lookup a=some o∧o.cls = .type "list"∧o.dict=none∧o.data = .seq its n∧its.size≤sizeLine∧Vals xs its.toList
def SqT (K:PySem.W.Frag) (H:Hp) (a:Addr) (xs:List V):Prop :=
  Rd H a (.tup xs) ∨
    ∃ (o:Obj) (its:Array Value) (n:Nat),K.lookup a=some o∧o.cls = .type "tuple"∧o.data = .seq its n∧its.size≤sizeLine∧Vals xs its.toList
noncomputable def absV:Value→Option V
  | .none=>some .non
  | .bool b=>some (.bl b)
  | .int i _=>some (.int i)
  | .str x _=>some (.str x)
  | .bytes b _=>some (.byt b)
  | .float b _=>some (.flt b)
  | .ref a=>some (.ref a)
  | .type n=>some (.ty n)
  | _=>none
theorem RelV.abs {x:V}{u:Value} (r:RelV x u):absV u=some x:=by
  cases x with
  | non=>cases r;rfl
  | bl _=>cases r;rfl
  | int _=>obtain ⟨t,rfl⟩:=r;rfl
  | str _=>obtain ⟨t,rfl⟩:=r;rfl
  | byt _=>obtain ⟨t,rfl⟩:=r;rfl
  | flt _=>obtain ⟨t,rfl⟩:=r;rfl
  | ref _=>cases r;rfl
  | ty _=>cases r;rfl
theorem RelV.inj {x y:V}{u:Value} (r:RelV x u) (q:RelV y u):x=y:=Option.some.inj (r.abs.symm.trans q.abs)
theorem Vals.inj:∀ {xs ys:List V}{us:List Value},Vals xs us→Vals ys us→xs=ys
  | _,_,_,.nil,.nil=>rfl
  | _,_,_,.cons r t,.cons r' t'=>by rw [r.inj r',Vals.inj t t']
section
variable {X:Cx}{pins:List (Addr×Obj)}{σ:St}{H:Hp}{s:Shared}{a:Addr}{xs ys:List V}
theorem SqL.of {K:PySem.W.Frag} (h:H a=some (.lst xs)):SqL K H a xs:=.inl (.inl h)
theorem SqT.of {K:PySem.W.Frag} (h:H a=some (.tup xs)):SqT K H a xs:=.inl (.inl h)
theorem Inv.list (I:Inv X pins σ H s) (h:SqL X.K H a xs):∃ its:List Value,Vals xs its∧PlainL s.heap a its.toArray∧xs.length≤sizeLine:=by
  rcases h with h | ⟨o,its,n,hk,hc,hd,hs,hz,r⟩
  · obtain ⟨z,its,n,r,e⟩:=h.ok I.hok
    exact ⟨its,r,⟨_,n,e,rfl,rfl,rfl⟩,z⟩
  · refine ⟨its.toList,r,⟨o,n,I.kIn a o hk,hc,hd,by simpa using hs⟩,?_⟩
    have e:=r.length
    simp only [Array.length_toList] at e
    omega
theorem Inv.tuple (I:Inv X pins σ H s) (h:SqT X.K H a xs):∃ its:List Value,Vals xs its∧IsTup s.heap a its.toArray∧xs.length≤sizeLine:=by
  rcases h with h | ⟨o,its,n,hk,hc,hs,hz,r⟩
  · obtain ⟨z,its,r,p⟩:=h.ok I.hok
    exact ⟨its,r,p,z⟩
  · refine ⟨its.toList,r,⟨o,I.kIn a o hk,hc,n,by simpa using hs⟩,?_⟩
    have e:=r.length
    simp only [Array.length_toList] at e
    omega
theorem Inv.list_inj (I:Inv X pins σ H s) (h:SqL X.K H a xs) (h':SqL X.K H a ys):xs=ys:=by
  obtain ⟨its,r,⟨o,n,e,_,_,d⟩,_⟩:=I.list h
  obtain ⟨its',r',⟨o',n',e',_,_,d'⟩,_⟩:=I.list h'
  rw [e] at e';cases e'
  rw [d] at d'
  injection d' with d1 _
  have:its=its':=by simpa using congrArg Array.toList d1
  subst this
  exact r.inj r'
theorem Inv.tuple_inj (I:Inv X pins σ H s) (h:SqT X.K H a xs) (h':SqT X.K H a ys):xs=ys:=by
  obtain ⟨its,r,⟨o,e,_,n,d⟩,_⟩:=I.tuple h
  obtain ⟨its',r',⟨o',e',_,n',d'⟩,_⟩:=I.tuple h'
  rw [e] at e';cases e'
  rw [d] at d'
  injection d' with d1 _
  have:its=its':=by simpa using congrArg Array.toList d1
  subst this
  exact r.inj r'
end
noncomputable abbrev Cx.wish (X:Cx) (E:Value→Shared→Prop):Cx:={ X with xe:=E }
theorem Cx.Ok.wish {X:Cx} (ok:X.Ok) (E:Value→Shared→Prop):(X.wish E).Ok :=
  ⟨ok.mod,ok.kind,ok.glob,ok.blt,ok.above,ok.inj,ok.has,ok.cab,ok.hd,ok.frames,ok.stk,ok.exf,ok.bs,ok.bsz,ok.noex,ok.exfs,ok.funs,ok.frf⟩
theorem Cx.Ok.unwish {X:Cx}{E:Value→Shared→Prop} (ok:(X.wish E).Ok):X.Ok :=
  ⟨ok.mod,ok.kind,ok.glob,ok.blt,ok.above,ok.inj,ok.has,ok.cab,ok.hd,ok.frames,ok.stk,ok.exf,ok.bs,ok.bsz,ok.noex,ok.exfs,ok.funs,ok.frf⟩
section
variable {X:Cx}{pins:List (Addr×Obj)}{σ:St}{H:Hp}{s:Shared}{E:Value→Shared→Prop}
theorem Inv.wish (I:Inv X pins σ H s) (E:Value→Shared→Prop):Inv (X.wish E) pins σ H s:=⟨I.ok.wish E,I.os,I.bare,I.base,I.loc,I.cell,I.free,I.freeC,I.pin,I.hok,I.len⟩
theorem Inv.unwish (I:Inv (X.wish E) pins σ H s):Inv X pins σ H s:=⟨I.ok.unwish,I.os,I.bare,I.base,I.loc,I.cell,I.free,I.freeC,I.pin,I.hok,I.len⟩
end
section
variable {X:Cx}{st:Stmt}{rest:List Stmt}{t u:TS}{e:Expr}{te:TE}{pos:Pos}
theorem Inv.quiet {pins:List (Addr×Obj)}{σ:St}{H:Hp}{s:Shared} (I:Inv X pins σ H s):interactive X.env=false:=by simp [interactive,I.ok.kind]
end
structure It where
  go:Nat→Hp→Prop
  yld:Nat→Hp→V→Hp→Prop
  stop:Nat→Hp→Prop
def FpOk (X:Cx) (pins:List (Addr×Obj)) (H:Hp) (b:Addr):Prop :=
  H b=none∧b≠X.env.locals∧b ∉ X.fs∧(b∈X.ex∨X.s₀.heap.objs.size≤b)∧(∀ x c,X.env.cells.lookup x=some c→c≠b)∧∀ p∈X.pn ++ pins,p.1≠b
theorem Inv.fpOk {X:Cx}{pins:List (Addr×Obj)}{σ:St}{H H':Hp}{s:Shared}{b:Addr} (I:Inv X pins σ H s) (hb:s.heap.objs.size≤b) (hn:H' b=none):FpOk X pins H' b:=by
  refine ⟨hn,Nat.ne_of_gt (Nat.lt_of_lt_of_le I.lt hb),I.nofs hb,.inr (Nat.le_trans I.sz hb),fun x c e z=>?_,fun p hp z=>?_⟩
  · obtain ⟨v,q⟩:=I.cell x c e
    exact absurd (Nat.lt_of_lt_of_le q.lt (by rw [z];exact hb)) (Nat.lt_irrefl _)
  · exact absurd (Nat.lt_of_lt_of_le (Heap.lt_size (I.pin p hp).1) (by rw [z];exact hb)) (Nat.lt_irrefl _)
structure Turn (P:Program) (w:World) (K:PySem.W.Frag) (tg:Expr) (J:It) (fp:List Addr) (it:Addr) (tn:Nat→Heap→Prop):Prop where
  mem:it∈fp
  obj:∀ i h,tn i h→∀ b∈fp,∃ o,h.get? b=some o∧∀ v,o.data≠.cell v
  keep:∀ i h h',tn i h→(∀ b∈fp,∀ o,h.get? b=some o→h'.get? b=some o)→tn i h'
  item:∀ (X:Cx),X.prog=P→X.w=w→X.K=K→X.calm=true→∀ (i:Nat) (pins:List (Addr×Obj)) (s:Shared) (σ:St) (H:Hp) (E:Value→Shared→Prop),Inv X pins σ H s→(∀ b∈fp,FpOk X pins H b)→tn i s.heap→J.go i H →
    wpAny (model P w) X.A (pyNext (.ref it)) (fun r s1=>∃ u,r=some u ∧
      wpAny (model P w) X.A (letOwnedTupleGo tg (.ref it) u) (fun _ s2=>∃ x H',Inv X pins σ H' s2∧RelV x u∧J.yld i H x H'∧tn (i+1) s2.heap∧∀ b∈fp,H' b=none) E s1) E s
  done:∀ (X:Cx),X.prog=P→X.w=w→X.K=K→X.calm=true→∀ (i:Nat) (pins:List (Addr×Obj)) (s:Shared) (σ:St) (H:Hp) (E:Value→Shared→Prop),Inv X pins σ H s→(∀ b∈fp,FpOk X pins H b)→tn i s.heap→J.stop i H →
    wpAny (model P w) X.A (pyNext (.ref it)) (fun r s1=>r=none∧Inv X pins σ H s1) E s
  self:∀ (A:Around) (i:Nat) (s:Shared) (Q:Value→Shared→Prop) (E:Value→Shared→Prop),tn i s.heap→Q (.ref it) s→wpAny (model P w) A (pyIter (.ref it)) Q E s
def PIE (X:Cx) (pins:List (Addr×Obj)) (σ:St) (tg:Expr) (R:It→Hp→Prop) (itv:Value) (s2:Shared):Prop :=
  ∃ (it:Addr) (fp:List Addr) (tn:Nat→Heap→Prop) (J:It) (H':Hp),itv = .ref it∧Inv X pins σ H' s2∧Turn X.prog X.w X.K tg J fp it tn∧tn 0 s2.heap∧(∀ b∈fp,FpOk X pins H' b)∧R J H'
theorem go_of {M:Model}{A:Around}{E:Value→Shared→Prop}{s:Shared}{tg:Expr}{it:Addr}{u:Value}{o:Obj}{n:String}{vs:Array Value}{Q:Unit→Shared→Prop} (ho:s.heap.get? it=some o) (hc:o.cls = .type n) (hd:o.data = .fields vs)
    (hn:["enumerate","zip","dict_itemiterator","dict_reverseitemiterator","odict_iterator","itertools.zip_longest","itertools.pairwise"].contains n=false) (hQ:Q () s):wpAny M A (letOwnedTupleGo tg (.ref it) u) Q E s:=by
  unfold letOwnedTupleGo
  cases tg<;>first
    | exact wpAny_pure hQ
    | (cases u<;>first
        | exact wpAny_pure hQ
        | (refine wpAny_bind (wpAny_load ho ?_)
           rw [hc,hd]
           show wpAny M A (if (["enumerate","zip","dict_itemiterator","dict_reverseitemiterator","odict_iterator","itertools.zip_longest","itertools.pairwise"].contains n && vs[0]? == some (rawInt _))=true then _ else _) Q E s
           rw [if_neg (by intro h;rw [hn,Bool.false_and] at h;cases h)]
           exact wpAny_pure hQ))
noncomputable def Itl (K:PySem.W.Frag) (a:Addr):It :=
  ⟨fun i H=>∃ xs x,SqL K H a xs∧xs[i]?=some x,fun i H x H'=>H'=H∧∀ xs,SqL K H a xs→xs[i]?=some x,fun i H=>∃ xs,SqL K H a xs∧xs.length≤i⟩
noncomputable def Itt (K:PySem.W.Frag) (a:Addr):It :=
  ⟨fun i H=>∃ xs x,SqT K H a xs∧xs[i]?=some x,fun i H x H'=>H'=H∧∀ xs,SqT K H a xs→xs[i]?=some x,fun i H=>∃ xs,SqT K H a xs∧xs.length≤i⟩
theorem turn_list {P:Program}{w:World}{K:PySem.W.Frag}{tg:Expr} (a it:Addr):Turn P w K tg (Itl K a) [it] it (fun i h=>h.IsListIter it a i) where
  mem:=by simp
  obj:=fun i h st b hb=>by
    have e:b=it:=by simpa using hb
    subst e
    obtain ⟨o,e,c,d⟩:=st
    exact ⟨o,e,fun v z=>by rw [d] at z;cases z⟩
  keep:=fun i h h' st k=>st.at fun o e=>k it (by simp) o e
  item:=by
    intro X hP hw hK hc i pins s σ H E I hf st hg
    subst hP hw hK
    obtain ⟨xs,x,hq,hx⟩:=hg
    obtain ⟨its,rv,p,hz⟩:=I.list hq
    obtain ⟨u,hu,ru⟩:=rv.get hx
    obtain ⟨f0,f1,f2,f3,f4,f5⟩:=hf it (by simp)
    refine wpAny_pyNext_list_item st p.isList (x:=u) (by simpa using hu) fun h' st' sb=>?_
    have I1:Inv X pins σ H { s with heap:=h' }:=I.turned (t':=s.toks) (fun b o hb e=>(sb.2 b hb).trans e) f0 f1 f3 f4 f5
    obtain ⟨o,e,c,d⟩:=id st'
    exact ⟨u,rfl,go_of (s:={ s with heap:=h' }) e c d (by decide) ⟨x,H,I1,ru,⟨rfl,fun ys hy=>by rw [I.list_inj hy hq];exact hx⟩,st',fun b hb=>(hf b hb).1⟩⟩
  done:=by
    intro X hP hw hK hc i pins s σ H E I hf st hg
    subst hP hw hK
    obtain ⟨xs,hq,hx⟩:=hg
    obtain ⟨its,rv,p,hz⟩:=I.list hq
    obtain ⟨f0,f1,f2,f3,f4,f5⟩:=hf it (by simp)
    have hl:=rv.length
    exact wpAny_pyNext_list_end (I.ok.hd hc) st p.isList (by simp;omega) fun h' eb=>⟨rfl,I.turned (t':=s.toks) (fun b o hb e=>eb b o hb e) f0 f1 f3 f4 f5⟩
  self:=fun _ _ _ _ _ st h=>wpAny_pyIter_listiter st h
theorem turn_tuple {P:Program}{w:World}{K:PySem.W.Frag}{tg:Expr} (a it:Addr):Turn P w K tg (Itt K a) [it] it (fun i h=>h.IsTupleIter it a i) where
  mem:=by simp
  obj:=fun i h st b hb=>by
    have e:b=it:=by simpa using hb
    subst e
    obtain ⟨o,e,c,d⟩:=st
    exact ⟨o,e,fun v z=>by rw [d] at z;cases z⟩
  keep:=fun i h h' st k=>st.at fun o e=>k it (by simp) o e
  item:=by
    intro X hP hw hK hc i pins s σ H E I hf st hg
    subst hP hw hK
    obtain ⟨xs,x,hq,hx⟩:=hg
    obtain ⟨its,rv,p,hz⟩:=I.tuple hq
    obtain ⟨u,hu,ru⟩:=rv.get hx
    obtain ⟨f0,f1,f2,f3,f4,f5⟩:=hf it (by simp)
    refine wpAny_pyNext_tuple_item st (show s.heap.IsTuple a its.toArray from p) (x:=u) (by simpa using hu) fun h' st' sb=>?_
    have I1:Inv X pins σ H { s with heap:=h' }:=I.turned (t':=s.toks) (fun b o hb e=>(sb.2 b hb).trans e) f0 f1 f3 f4 f5
    obtain ⟨o,e,c,d⟩:=id st'
    exact ⟨u,rfl,go_of (s:={ s with heap:=h' }) e c d (by decide) ⟨x,H,I1,ru,⟨rfl,fun ys hy=>by rw [I.tuple_inj hy hq];exact hx⟩,st',fun b hb=>(hf b hb).1⟩⟩
  done:=by
    intro X hP hw hK hc i pins s σ H E I hf st hg
    subst hP hw hK
    obtain ⟨xs,hq,hx⟩:=hg
    obtain ⟨its,rv,p,hz⟩:=I.tuple hq
    obtain ⟨f0,f1,f2,f3,f4,f5⟩:=hf it (by simp)
    have hl:=rv.length
    exact wpAny_pyNext_tuple_end (I.ok.hd hc) st (show s.heap.IsTuple a its.toArray from p) (by simp;omega) fun h' eb=>⟨rfl,I.turned (t':=s.toks) (fun b o hb e=>eb b o hb e) f0 f1 f3 f4 f5⟩
  self:=fun _ _ _ _ _ st h=>wpAny_pyIter_tupleiter st h
section
variable {X:Cx}{tg:Expr}
noncomputable def pinsAt (fp:List Addr) (h:Heap):List (Addr×Obj):=fp.filterMap fun b=>(h.get? b).map fun o=>(b,o)
theorem mem_pinsAt {fp:List Addr}{h:Heap}{b:Addr}{o:Obj} (hb:b∈fp) (e:h.get? b=some o):(b,o)∈pinsAt fp h:=List.mem_filterMap.mpr ⟨b,hb,by rw [e];rfl⟩
theorem of_pinsAt {fp:List Addr}{h:Heap}{p:Addr×Obj} (hp:p∈pinsAt fp h):p.1∈fp∧h.get? p.1=some p.2:=by
  obtain ⟨b,hb,e⟩:=List.mem_filterMap.mp hp
  cases q:h.get? b with
  | none=>rw [q] at e;cases e
  | some o =>
    rw [q] at e
    have e':(b,o)=p:=Option.some.inj e
    subst e'
    exact ⟨hb,q⟩
theorem Inv.pinned {pins:List (Addr×Obj)}{σ:St}{H:Hp}{s:Shared}{fp:List Addr} (I:Inv X pins σ H s) (hf:∀ b∈fp,FpOk X pins H b) (ho:∀ b∈fp,∃ o,s.heap.get? b=some o∧∀ v,o.data≠.cell v):Inv X (pins ++ pinsAt fp s.heap) σ H s :=
  I.pins_of fun p hp=>(List.mem_append.mp hp).elim (fun z=>I.pin p (List.mem_append_right _ z)) fun z=>by
    obtain ⟨hb,e⟩:=of_pinsAt z
    obtain ⟨f0,f1,f2,_⟩:=hf p.1 hb
    obtain ⟨o,e',d⟩:=ho p.1 hb
    rw [e] at e';cases e'
    exact ⟨e,f0,f1,f2,d⟩
theorem Inv.unpinned {pins pl:List (Addr×Obj)}{σ:St}{H:Hp}{s:Shared} (I:Inv X (pins ++ pl) σ H s):Inv X pins σ H s:=I.pins_of fun p hp=>I.pin p (List.mem_append_right _ (List.mem_append_left _ hp))
end
abbrev R2:=V→V→Hp→VK→Prop
def OpR (X:Cx) (f:Value→Value→Sem Value) (r:R2):Prop :=
  ∀ (pins:List (Addr×Obj)) (s:Shared) (σ:St) (H:Hp) (x y:V) (v u:Value) (Q:VK),Inv X pins σ H s→RelV x v→RelV y u→r x y H Q →
    wpAny (model X.prog X.w) X.A (f v u) (EP X pins σ Q) X.xe s
def CallR (X:Cx) (f:Value) (r:List V→Hp→VK→Prop):Prop :=
  ∀ (pins:List (Addr×Obj)) (s:Shared) (σ:St) (H:Hp) (xs:List V) (us:List Value) (Q:VK),Inv X pins σ H s→Vals xs us→r xs H Q →
    wpAny (model X.prog X.w) X.A (call f us) (EP X pins σ Q) X.xe s
section
variable {X:Cx}{a b c:Expr}{ta tb tc:TE}{pos:Pos}
theorem fin_bl {pins:List (Addr×Obj)}{σ:St}{H:Hp}{s:Shared}{Q:VK}{k k':Bool} (I:Inv X pins σ H s) (q:Q (.bl k) H) (e:k=k'):EP X pins σ Q (.bool k') s:=by
  subst e
  exact ⟨.bl k,H,I,rfl,q⟩
theorem op_in_str:OpR X (compareOp .In) (fun x y H Q=>∃ i j,x = .str i∧y = .str j∧Q (.bl (!(Builtin.Str.occurrences j i 0 j.length 1).isEmpty)) H):=by
  intro pins s σ H x y v u Q I rx ry h
  obtain ⟨i,j,rfl,rfl,q⟩:=h
  obtain ⟨t,rfl⟩:=rx
  obtain ⟨t',rfl⟩:=ry
  exact in_str (fin_bl I q rfl)
theorem nomark (b:Expr) {op:CmpOp} (h:op≠.In:=by decide) (h2:op≠.NotIn:=by decide):behindInMarks op b=false:=by
  have e1:(op == CmpOp.In)=false:=by cases op<;>first | rfl | exact absurd rfl h
  have e2:(op == CmpOp.NotIn)=false:=by cases op<;>first | rfl | exact absurd rfl h2
  cases b<;>simp [behindInMarks,e1,e2]
theorem line63:(sizeLine:Nat)<2 ^ 63:=by rw [sizeLine_eq];decide
theorem op_add_str:OpR X (binaryOp .Add) (fun x y H Q=>∃ i j,x = .str i∧y = .str j∧i.length+j.length≤sizeLine∧Q (.str (i ++ j)) H):=by
  intro pins s σ H x y v u Q I rx ry h
  obtain ⟨i,j,rfl,rfl,hz,q⟩:=h
  obtain ⟨t,rfl⟩:=rx
  obtain ⟨t',rfl⟩:=ry
  exact add_str (fun t' tk=>⟨.str (i ++ j),H,I.tok _,⟨_,rfl⟩,q⟩) hz
theorem vals1 {x:V}{us:List Value} (r:Vals [x] us):∃ u,us=[u]∧RelV x u:=by
  cases r with
  | cons r1 r2=>cases r2;exact ⟨_,rfl,r1⟩
theorem vals2 {x y:V}{us:List Value} (r:Vals [x,y] us):∃ u w',us=[u,w']∧RelV x u∧RelV y w':=by
  cases r with
  | cons r1 r2 =>
    cases r2 with
    | cons r3 r4=>cases r4;exact ⟨_,_,rfl,r1,r3⟩
theorem call_abs:CallR X (.builtin "abs") (fun xs H Q=>∃ i,xs=[.int i]∧Q (.int (if i<0 then -i else i)) H):=by
  intro pins s σ H xs us Q I r h
  obtain ⟨i,rfl,q⟩:=h
  obtain ⟨u,rfl,t,rfl⟩:=vals1 r
  exact call_abs_int fun u tk=>⟨.int (if i<0 then -i else i),H,I.tok _,⟨_,rfl⟩,q⟩
theorem call_max2 (hc:X.calm=true):CallR X (.builtin "max") (fun xs H Q=>∃ i j,xs=[.int i,.int j]∧Q (.int (if j > i then j else i)) H):=by
  intro pins s σ H xs us Q I r h
  obtain ⟨i,j,rfl,q⟩:=h
  obtain ⟨u,w',rfl,⟨t,rfl⟩,⟨t',rfl⟩⟩:=vals2 r
  refine max_two_ints (I.ok.hd hc) fun h' tk k=>⟨_,H,I.kept k,?_,q⟩
  by_cases hj:j > i
  · rw [if_pos hj,if_pos hj];exact ⟨_,rfl⟩
  · rw [if_neg hj,if_neg hj];exact ⟨_,rfl⟩
theorem call_min2 (hc:X.calm=true):CallR X (.builtin "min") (fun xs H Q=>∃ i j,xs=[.int i,.int j]∧Q (.int (if j<i then j else i)) H):=by
  intro pins s σ H xs us Q I r h
  obtain ⟨i,j,rfl,q⟩:=h
  obtain ⟨u,w',rfl,⟨t,rfl⟩,⟨t',rfl⟩⟩:=vals2 r
  refine min_two_ints (I.ok.hd hc) fun h' tk k=>⟨_,H,I.kept k,?_,q⟩
  by_cases hj:j<i
  · rw [if_pos hj,if_pos hj];exact ⟨_,rfl⟩
  · rw [if_neg hj,if_neg hj];exact ⟨_,rfl⟩
end
structure ObjM (h:Heap) (x dx C:Addr) (mA:Str→Option Value):Prop where
  obj:h.get? x=some (PySem.W.instObj C dx)
  ns:h.Ns1 dx mA
  ne:dx≠x
theorem lookIn_ns {h:Heap}{dx:Addr}{mA:Str→Option Value} (n:h.Ns1 dx mA):∃ od,h.get? dx=some od∧∀ name,PySem.W.lookIn name od=some (mA name):=by
  obtain ⟨o,es,ep,ho,hd,hk,_,hm⟩:=n
  refine ⟨o,ho,fun name=>?_⟩
  have e:=hm name
  unfold nsFind findBy at e
  rw [← Array.find?_toList] at e
  unfold PySem.W.lookIn
  rw [hd]
  dsimp only
  split
  · rename_i y q
    rw [q] at e
    exact congrArg some e
  · rename_i q
    rw [q] at e
    have a:es.toList.any (·.refKey)=false:=by
      rw [List.any_eq_false]
      intro y hy
      obtain ⟨z,t,hkey⟩:=hk y (Array.mem_toList_iff.mp hy)
      simp [DictEntry.refKey,hkey]
    have a':¬ es.toList.any (·.refKey)=true:=by rw [a];exact Bool.false_ne_true
    rw [if_neg a']
    exact congrArg some e
theorem ObjM.look {h:Heap}{x dx C:Addr}{mA:Str→Option Value} (I:ObjM h x dx C mA):∃ od,PySem.W.InstAt h x (PySem.W.instObj C dx) C (some od)∧∀ name,PySem.W.lookIn name od=some (mA name) :=
  let ⟨od,ho,hl⟩:=lookIn_ns I.ns
  ⟨od,⟨I.obj,rfl,rfl,ho⟩,hl⟩
section
variable {prog:Program}{w:World}{A:Around}{E:Value→Shared→Prop}{s:Shared}{K:PySem.W.Frag}{x dx C f:Addr}{mA:Str→Option Value}{name:Str}{v:Value}
theorem get_meth {pl:Sem Bool}{Q:Value×List Value→Shared→Prop} (X:K.In s.heap) (I:ObjM s.heap x dx C mA) (hg:PySem.W.plainGet K C name=true)
    (hf:PySem.W.findIn K (.ref C) name=some (some (.ref f))) (ht:PySem.W.isFn K (.ref f)=true) (hv:mA name=none) (h:Q (.ref f,[.ref x]) s) :
    wpAny (model prog w) A (getMethod (.ref x) name pl) Q E s:=by
  obtain ⟨od,J,hl⟩:=I.look
  exact PySem.W.method_fn X J (PySem.W.plainGet_of hg).1 (PySem.W.plainGet_of hg).2 hf (beq_iff_eq.mp ht) (by show (PySem.W.lookIn name od).map (·.isSome)=some false;rw [hl,hv];rfl) h
theorem make_map0 {R:Result→Shared→Prop} (X:K.In s.heap) (hm:PySem.W.makesIn K C=true)
    (hi:PySem.W.findIn K (.ref C) "__init__"=some (some (.builtin "object.__init__")))
    (hb:∀ self,PySem.W.Looks (model prog w) s.heap (bindSpecial (.builtin "object.__init__") self) (.builtin "object.__init__",[self]))
    (h:codeAny (model prog w) (A.under (.builtin "type.__call__" ⟨[.ref C],[]⟩)) (.call (.builtin "object.__init__") ⟨[.ref (s.heap.objs.size+1)],[]⟩) (PySem.W.InitBack (s.heap.objs.size+1) R)
      { s with heap:=(s.heap.push PySem.W.emptyDict).push (PySem.W.instObj C s.heap.objs.size) }) :
    codeAny (model prog w) A (.call (.ref C) ⟨[],[]⟩) R s:=by
  obtain ⟨hh,g,d,t,os⟩:=s
  exact PySem.W.make_core (PySem.W.makes_of X hm) (PySem.W.looks_findIn X hi) hb (.inr ⟨rfl,rfl⟩) h
end
theorem RelO.none_of {o:Option Value} (r:RelO none o):o=none:=by
  cases o with
  | none=>rfl
  | some u=>exact (show False from r).elim
section
variable {P:Program}{w:World}{H H':Hp}{h h':Heap}{a C dx:Addr}{fs fs':List (Str×V)}
theorem ins_get (hok:HOk P w H h) (e:H a=some (.ins C dx fs)):∃ mA,ObjM h a dx C mA∧(∀ f,RelO (fs.lookup f) (mA f))∧PySem.Within mA (fs.map (·.1))∧fs.length≤1000∧H dx=some (.own a):=by
  obtain ⟨d,z,ne,ob,mA,n,r,q⟩:=(show ObjOk P w H h a (.ins C dx fs) from hok a _ e)
  exact ⟨mA,⟨ob,n,ne⟩,r,q,z,d⟩
end
structure Cls (K:PySem.W.Frag) (C:Addr):Prop where
  pg:PySem.W.plainGet K C Str.empty=true
  hd:PySem.W.hasDictIn K C=true
  po:PySem.W.plainOver K C=true
  sa:PySem.W.findIn K (.ref C) "__setattr__"=some (some (.builtin "object.__setattr__"))
theorem Cls.get {K:PySem.W.Frag}{C:Addr} (c:Cls K C) (f:Str):PySem.W.plainGet K C f=true:=c.pg
structure Meth (K:PySem.W.Frag) (C:Addr) (m:Str) (f:Addr):Prop where
  at_:PySem.W.findIn K (.ref C) m=some (some (.ref f))
  fn:PySem.W.isFn K (.ref f)=true
  kp:PySem.W.keepIn K (.ref f)=true
section
variable {X:Cx}{pins:List (Addr×Obj)}{σ:St}{H:Hp}{s:Shared}{a C dx:Addr}{fs:List (Str×V)}{f:Str}{v:V}{A:Around}{E:Value→Shared→Prop}
theorem getmeth_ok {m:Str}{g:Addr}{pl:Sem Bool}{Q:Value×List Value→Shared→Prop} (I:Inv X pins σ H s) (e:H a=some (.ins C dx fs)) (c:Cls X.K C) (k:Meth X.K C m g) (l:fs.lookup m=none)
    (h:Q (.ref g,[.ref a]) s):wpAny (model X.prog X.w) A (getMethod (.ref a) m pl) Q E s:=by
  obtain ⟨mA,O,r,_,_,_⟩:=ins_get I.hok e
  have hn:mA m=none:=RelO.none_of (by rw [← l];exact r m)
  exact get_meth I.kIn O (c.get m) k.at_ k.fn hn h
theorem Inv.made (I:Inv X pins σ H s):Inv X pins σ (upd (upd H s.heap.objs.size (.own (s.heap.objs.size+1))) (s.heap.objs.size+1) (.ins C s.heap.objs.size []))
    { s with heap:=(s.heap.push PySem.W.emptyDict).push (PySem.W.instObj C s.heap.objs.size) }:=by
  have e1:(s.heap.push PySem.W.emptyDict).get? s.heap.objs.size=some PySem.W.emptyDict:=Heap.get?_push_size s.heap rfl
  have e2:((s.heap.push PySem.W.emptyDict).push (PySem.W.instObj C s.heap.objs.size)).get? (s.heap.objs.size+1)=some (PySem.W.instObj C s.heap.objs.size):=by
    have:=Heap.get?_push_size (s.heap.push PySem.W.emptyDict) (o:=PySem.W.instObj C s.heap.objs.size) rfl
    rwa [Heap.size_push] at this
  have e3:(s.heap.push PySem.W.emptyDict).Ns s.heap.objs.size (fun _=>none):=⟨PySem.W.emptyDict,#[],_,e1,rfl,(fun e he=>absurd he (by simp)),fun _=>rfl⟩
  have I1:=I.laid (a:=s.heap.objs.size) (o:=.own (s.heap.objs.size+1)) (h':=s.heap.push PySem.W.emptyDict) (t':=s.toks) (fun b u q=>Heap.get?_push_of_some _ q) (Nat.le_refl _) ⟨_,e1⟩
  refine I1.laid (a:=s.heap.objs.size+1) (o:=.ins C s.heap.objs.size []) (t':=s.toks) (fun b u q=>Heap.get?_push_of_some _ q) (Nat.le_of_eq (Heap.size_push _ _)) ?_
  have ne:s.heap.objs.size≠s.heap.objs.size+1:=Nat.ne_of_lt (Nat.lt_succ_self _)
  refine ⟨by rw [upd_ne ne,upd_same],Nat.zero_le _,ne,e2,fun _=>none,(Heap.Ns1.of_empty e3).at fun o q=>Heap.get?_push_of_some _ q,fun _=>True.intro,fun y hy=>absurd rfl hy⟩
end
structure Room (k:Nat) (A:Around):Prop where
  hd:A.handled=none
  dp:A.depth+3*k+5<recursionLimit
  un:A.units+16*k+200<cLine
theorem Room.mono {j k:Nat}{A:Around} (r:Room k A) (h:j≤k):Room j A:=⟨r.hd,by have:=r.dp;omega,by have:=r.un;omega⟩
theorem Room.deeper {k:Nat}{A:Around} (r:Room (k+1) A) (env:Env):Room k (A.deeper env) :=
  ⟨r.hd,by have:=r.dp;show A.depth+1+3*k+5<_;omega,by have:=r.un;show A.units+3+16*k+200<_;omega⟩
theorem Room.in1 {k:Nat}{A:Around} (r:Room (k+1) A):Room k A.in1 :=
  ⟨r.hd,by have:=r.dp;show A.depth+3*k+5<_;omega,by have:=r.un;show A.units+1+16*k+200<_;omega⟩
theorem Room.depth {k:Nat}{A:Around} (r:Room k A):A.depth<recursionLimit:=by have:=r.dp;omega
theorem Room.units {k:Nat}{A:Around} (r:Room k A):A.units+64<cLine:=by have:=r.un;omega
abbrev Sp:=List V→Hp→VK→XK→Prop
abbrev CXT:=List Env→Hp→Shared→XK→Value→Shared→Prop
structure Env0 (P:Program) (w:World) (K:PySem.W.Frag) (mg:Str→Option Value) (base:Heap) (A:Around) (outer:List Env) (s:Shared) (H:Hp):Prop where
  frames:A.frames=some outer
  mod:Mod K mg base
  bs:∀ b o,base.get? b=some o→s.heap.get? b=some o∧H b=none
  bsz:base.objs.size≤s.heap.objs.size
  funs:s.heap.FunFrames base outer
  frf:∀ b∈frs outer,H b=none
  hok:HOk P w H s.heap
  bare:AllBare s.gens
def CE (outer:List Env) (P:Program) (w:World) (H:Hp) (s:Shared) (Q:VK) (u:Value) (s':Shared):Prop :=
  ∃ v H',s'.os=s.os∧AllBare s'.gens∧Un (frs outer) [] H H' s.heap s'.heap∧HOk P w H' s'.heap∧RelV v u∧Q v H'
def CR (CX:CXT) (outer:List Env) (P:Program) (w:World) (H:Hp) (s:Shared) (Q:VK) (E:XK) (r:Result) (s':Shared):Prop :=
  match r with
  | .ok (.ret u)=>CE outer P w H s Q u s'
  | .ok _=>False
  | .error e=>CX outer H s E e s'
structure FnOk (P:Program) (w:World) (K:PySem.W.Frag) (mg:Str→Option Value) (base:Heap) (CX:CXT) (k:Nat) (f:Addr) (fd:FuncData) (ps:List Str) (sp:Sp):Prop where
  len:∀ vs H Q E,sp vs H Q E→vs.length=ps.length
  run:∀ (A:Around) (outer:List Env) (s:Shared) (H:Hp) (args:Args) (us:List Value) (vs:List V) (Q:VK) (E:XK),Room k A→Env0 P w K mg base A outer s H→BindsTo s fd args (ps.zip us)→Vals vs us→sp vs H Q E →
    codeAny (model P w) A (.call (.ref f) args) (CR CX outer P w H s Q E) s
theorem FnOk.mono {P:Program}{w:World}{K:PySem.W.Frag}{mg:Str→Option Value}{base:Heap}{CX:CXT}{j k:Nat}{f:Addr}{fd:FuncData}{ps:List Str}{sp:Sp} (F:FnOk P w K mg base CX j f fd ps sp) (h:j≤k) :
    FnOk P w K mg base CX k f fd ps sp:=⟨F.len,fun A outer s H args us vs Q E hr=>F.run A outer s H args us vs Q E (hr.mono h)⟩
theorem Env0.in1 {P:Program}{w:World}{K:PySem.W.Frag}{mg:Str→Option Value}{base:Heap}{A:Around}{outer:List Env}{s:Shared}{H:Hp} (e:Env0 P w K mg base A outer s H) :
    Env0 P w K mg base A.in1 outer s H:=⟨e.frames,e.mod,e.bs,e.bsz,e.funs,e.frf,e.hok,e.bare⟩
section
variable {X:Cx}{pins:List (Addr×Obj)}{σ:St}{H:Hp}{s s':Shared}
theorem Inv.env0 (I:Inv X pins σ H s):Env0 X.prog X.w X.K X.mg X.base X.A X.stack s H :=
  ⟨I.ok.frames,I.ok.mod,I.bs,Nat.le_trans I.ok.bsz I.sz,I.stack,I.stkFree,I.hok,I.bare⟩
theorem Inv.after {Q:VK}{u:Value} (I:Inv X pins σ H s) (h:CE X.stack X.prog X.w H s Q u s'):EP X pins σ Q u s':=by
  obtain ⟨v,H',os,bare,un,hok,r,q⟩:=h
  obtain ⟨hh,g,d,t,os'⟩:=s'
  obtain rfl:os'=s.os:=os
  exact ⟨v,H',I.call (h':=hh) (g':=g) (d':=d) (t':=t) (ch:=[]) un hok bare (fun b z=>absurd z (by simp)),r,q⟩
end
def Binds (K:PySem.W.Frag) (fd:FuncData) (ps:List Str) (ds:List Value):Prop :=
  ∀ (s:Shared) (us:List Value),K.In s.heap→(us ++ ds).length=ps.length→BindsTo s fd ⟨us,[]⟩ (ps.zip (us ++ ds))
theorem Binds.all {K:PySem.W.Frag}{fd:FuncData}{ps:List Str} (h:∀ us:List Value,us.length=ps.length→bindArgs fd ⟨us,[]⟩=pure (ps.zip us)):Binds K fd ps []:=fun s us _ hl=>by
  rw [List.append_nil] at hl ⊢
  exact .of_eq (h us hl)
structure FnScope (N P:List Str) (sc:Scope):Prop where
  kind:sc.kind = .function
  co:sc.isCoroutine=false
  gen:sc.isGenerator=false
  nd:N.Nodup
  pre:N.take P.length=P
  par:∀ x∈P,sc.names.lookup x=some .local∨sc.names.lookup x=some .cell
  nofree:∀ y∈sc.names,y.2≠.free
theorem bindL_out {kindOf:Str→Option NameKind}{x:Str}:∀ {binds:List (Str×Value)}{m:Str→Option Value},(∀ v,(x,v) ∉ binds)→bindL kindOf binds m x=m x
  | [],_,_=>rfl
  | (n,v)::r,m,h=>by
    unfold bindL
    rw [bindL_out fun w hw=>h w (List.mem_cons_of_mem _ hw)]
    split
    · have:x≠n:=by rintro rfl;exact h v List.mem_cons_self
      simp [this]
    · rfl
theorem bindC_out {kindOf:Str→Option NameKind}{x:Str}:∀ {binds:List (Str×Value)}{m:Str→Option Value},(∀ v,(x,v) ∉ binds)→bindC kindOf binds m x=m x
  | [],_,_=>rfl
  | (n,v)::r,m,h=>by
    unfold bindC
    rw [bindC_out fun w hw=>h w (List.mem_cons_of_mem _ hw)]
    split
    · rfl
    · have:x≠n:=by rintro rfl;exact h v List.mem_cons_self
      simp [this]
theorem bindL_get {kindOf:Str→Option NameKind}{x:Str}{v:Value}:∀ {P:List Str}{vs:List Value}{i:Nat}{m:Str→Option Value},P.Nodup→P[i]?=some x→vs[i]?=some v→kindOf x=some .local →
    bindL kindOf (P.zip vs) m x=some v
  | [],_,_,_,_,h,_,_=>by simp at h
  | _::_,[],_,_,_,_,h,_=>by simp at h
  | p::P,w::vs,0,m,nd,h1,h2,hk=>by
    simp at h1 h2;subst h1;subst h2
    show bindL kindOf ((p,w)::P.zip vs) m p=_
    unfold bindL
    rw [bindL_out fun v hv=>(List.nodup_cons.mp nd).1 (List.of_mem_zip hv).1,if_pos hk]
    simp
  | p::P,w::vs,i+1,m,nd,h1,h2,hk=>by
    show bindL kindOf ((p,w)::P.zip vs) m x=_
    unfold bindL
    exact bindL_get (i:=i) (List.nodup_cons.mp nd).2 (by simpa using h1) (by simpa using h2) hk
theorem bindC_get {kindOf:Str→Option NameKind}{x:Str}{v:Value}:∀ {P:List Str}{vs:List Value}{i:Nat}{m:Str→Option Value},P.Nodup→P[i]?=some x→vs[i]?=some v→kindOf x≠some .local →
    bindC kindOf (P.zip vs) m x=some v
  | [],_,_,_,_,h,_,_=>by simp at h
  | _::_,[],_,_,_,_,h,_=>by simp at h
  | p::P,w::vs,0,m,nd,h1,h2,hk=>by
    simp at h1 h2;subst h1;subst h2
    show bindC kindOf ((p,w)::P.zip vs) m p=_
    unfold bindC
    rw [bindC_out fun v hv=>(List.nodup_cons.mp nd).1 (List.of_mem_zip hv).1,if_neg hk]
    simp
  | p::P,w::vs,i+1,m,nd,h1,h2,hk=>by
    show bindC kindOf ((p,w)::P.zip vs) m x=_
    unfold bindC
    exact bindC_get (i:=i) (List.nodup_cons.mp nd).2 (by simpa using h1) (by simpa using h2) hk
noncomputable def start (N:List Str) (vs:List V):St:=vs.map some ++ List.replicate (N.length - vs.length) none
noncomputable def cxOf (CX:CXT) (P:Program) (w:World) (K:PySem.W.Frag) (mg:Str→Option Value) (base:Heap) (N:List Str) (qual:Str) (scope:Scope) (f:Addr) (cd:Value) (A:Around) (outer:List Env) (s:Shared) (H:Hp) (E:XK):Cx where
  prog:=P
  w:=w
  K:=K
  mg:=mg
  base:=base
  A:=A.deeper (envOfC qual scope s.heap.objs.size f cd)
  N:=N
  s₀:=s
  H₀:=H
  env:=envOfC qual scope s.heap.objs.size f cd
  outer:=outer
  stack:=envOfC qual scope s.heap.objs.size f cd::outer
  ex:=[]
  calm:=true
  fn:=fun _=>true
  pn:=[]
  xe:=fun e s'=>wpAny (model P w) (A.deeper (envOfC qual scope s.heap.objs.size f cd)) (leaving (envOfC qual scope s.heap.objs.size f cd) e) (fun _ s''=>CX outer H s E e s'') (fun e' s''=>CX outer H s E e' s'') s'
theorem cell_has {sc:Scope}{n:Nat}{x:Str} (h:sc.names.lookup x=some .cell):∃ c,(cellsFrom n sc.names []).lookup x=some c:=by
  have q:=PySem.W.cellsFrom_some sc.names n [] (.inl h)
  exact Option.isSome_iff_exists.mp q
theorem inv_start {CX:CXT}{P:Program}{w:World}{K:PySem.W.Frag}{mg:Str→Option Value}{base:Heap}{N ps:List Str}{qual:Str}{scope:Scope}{f:Addr}{cd:Value}{A:Around}{outer:List Env}{s s1:Shared}{H:Hp}{E:XK}{us:List Value}{vs:List V}
    (S:FnScope N ps scope) (hd:A.handled=none) (e0:Env0 P w K mg base A outer s H) (hl:vs.length=ps.length) (r:Vals vs us)
    (x:InCallC s s.heap.objs.size (bindL (envOfC qual scope s.heap.objs.size f cd).kindOf (ps.zip us) fun _=>none) (cellsFrom (s.heap.objs.size+1) scope.names []) (bindC (envOfC qual scope s.heap.objs.size f cd).kindOf (ps.zip us) fun _=>none) s1) :
    Inv (cxOf CX P w K mg base N qual scope f cd A outer s H E) [] (start N vs) H s1:=by
  have hpl:ps.length≤N.length:=by have:=congrArg List.length S.pre;rw [List.length_take] at this;omega
  obtain ⟨h1,tk,rfl,hk⟩:=x.done
  have noA:∀ b:Addr,b ∉ (cxOf CX P w K mg base N qual scope f cd A outer s H E).ex:=fun b z=>absurd (show b∈([]:List Addr) from z) (by simp)
  refine ⟨⟨e0.mod,S.kind,rfl,rfl,Nat.le_refl _,fun y z c h1 h2=>?_,fun y hy=>?_,fun y c _ h=>?_,fun _=>hd,Around.frames_deeper e0.frames,.inr ⟨rfl,rfl⟩,fun b z=>absurd z (noA b),e0.bs,e0.bsz,fun b _ _=>noA b,fun b z=>absurd z (noA b),e0.funs,e0.frf⟩,
    rfl,e0.bare,Un.kept hk,⟨_,x.toInCall.ns,fun i y v h1 h2 h3=>?_⟩,fun y c h=>⟨_,x.cell y c h⟩,e0.hok.fresh (Nat.le_refl _),fun y c h=>?_,fun p hp=>absurd (show p∈([]:List (Addr×Obj)) from hp) (by simp),e0.hok.kept hk,?_⟩
  · exact name_of_addr x.apart (PySem.mem_of_lookup h1) (PySem.mem_of_lookup h2)
  · have hy:scope.names.lookup y=some .cell∨scope.names.lookup y=some .free:=hy
    rcases hy with hy | hy
    · exact cell_has hy
    · exact absurd rfl (S.nofree _ (PySem.mem_of_lookup hy))
  · exact Nat.le_of_lt (x.above y c (PySem.mem_of_lookup h))
  · have hi:i<vs.length:=by
      unfold start at h2
      by_cases hi:i<vs.length
      · exact hi
      · rw [List.getElem?_append_right (by simpa using hi)] at h2
        rw [List.getElem?_replicate] at h2
        split at h2<;>cases h2
    have ha:vs[i]?=some v:=by
      unfold start at h2
      rw [List.getElem?_append_left (by simpa using hi),List.getElem?_map] at h2
      cases e:vs[i]? with
      | none=>rw [e] at h2;cases h2
      | some a=>rw [e] at h2;cases h2;rfl
    obtain ⟨u,hu,rv⟩:=r.get ha
    have hp:ps[i]?=some y:=by
      rw [← S.pre,List.getElem?_take_of_lt (by omega)];exact h1
    have ndP:ps.Nodup:=by rw [← S.pre];exact S.nd.sublist (List.take_sublist _ _)
    refine ⟨u,rv,?_⟩
    rcases S.par y (List.mem_of_getElem? hp) with k | k
    · exact .inl ⟨k,bindL_get ndP hp hu k⟩
    · obtain ⟨c,e⟩:=cell_has (n:=s.heap.objs.size+1) k
      refine .inr ⟨.inl k,c,e,?_⟩
      have q:=x.cell y c e
      rw [bindC_get ndP hp hu (by show scope.names.lookup y≠_;rw [k];decide)] at q
      exact q
  · exact e0.hok.fresh (Nat.le_of_lt (x.above y c (PySem.mem_of_lookup h)))
  · unfold start
    show _=N.length
    rw [List.length_append,List.length_map,List.length_replicate]
    omega
theorem fn_of {CX:CXT}{P:Program}{w:World}{K:PySem.W.Frag}{mg:Str→Option Value}{base:Heap}{k:Nat}{f:Addr}{name qual:Str}{params:Arguments}{body:List Stmt}{scope:Scope}{dV kV doc pm cdv ct oc:Value}{an od:Option Addr}
    {osl:Array (Option Value)}{N ps:List Str}{sp:Sp} (lk:K.lookup f=some ⟨oc,od,.func (PySem.W.fnOf name qual params body scope dV kV doc pm an cdv ct),osl⟩) (hcd:PySem.W.codeIn K cdv qual=true) (S:FnScope N ps scope)
    (len:∀ vs H Q E,sp vs H Q E→vs.length=ps.length)
    (hbody:∀ (A:Around) (outer:List Env) (s:Shared) (H:Hp) (vs:List V) (Q:VK) (E:XK),Room k (A.deeper (envOfC qual scope s.heap.objs.size f cdv))→sp vs H Q E →
      ∃ t,PSs (cxOf CX P w K mg base N qual scope f cdv A outer s H E) body t∧t { nx:=fun _ H'=>Q .non H',rt:=Q } (start N vs) H) :
    FnOk P w K mg base CX (k+1) f (PySem.W.fnOf name qual params body scope dV kV doc pm an cdv ct) ps sp:=by
  refine ⟨len,fun A outer s H args us vs Q E hr e0 hb r hsp=>?_⟩
  have hl:=len _ _ _ _ hsp
  have KX:K.In s.heap:=e0.mod.kin.keeps fun b o e=>(e0.bs b o e).1
  have lim:s.heap.NoLimit:=e0.mod.nolimit.keeps fun b o e=>(e0.bs b o e).1
  have hkind:∀ y∈ps.zip us,scope.names.lookup y.1=some .local∨(scope.names.lookup y.1=some .cell∧((cellsFrom (s.heap.objs.size+1) scope.names []).lookup y.1).isSome=true):=fun ⟨n,v⟩ hy=>by
    rcases S.par n (List.of_mem_zip hy).1 with q | q
    · exact .inl q
    · exact .inr ⟨q,PySem.W.cellsFrom_some _ _ _ (.inl q)⟩
  refine codeAny_call_function hr.depth (KX _ _ lk) rfl S.co S.gen rfl (PySem.W.codeRec_of KX hcd) (hb _ _ _ _ ?_)
  refine wpAny_newFunctionEnv_cells S.kind hkind fun env he s1 x=>?_
  subst he
  refine ⟨lim.keeps x.toInCall.keep,codeAny_func ?_⟩
  obtain ⟨t,ht,hq⟩:=hbody A outer s H vs Q E (hr.deeper _) hsp
  have I:Inv (cxOf CX P w K mg base N qual scope f cdv A outer s H E) [] (start N vs) H s1:=inv_start S hr.hd e0 hl r x
  refine wpAny_mono (ht [] s1 (start N vs) H _ I hq) (fun fl s' hs=>?_) fun e s' hs=>hs
  have fin:∀ {σ':St}{H':Hp}{v:V}{u:Value},Inv (cxOf CX P w K mg base N qual scope f cdv A outer s H E) [] σ' H' s'→RelV v u→Q v H'→CE outer P w H s Q u s' :=
    fun {σ' H' v u} J rv q=>⟨v,H',J.os,J.bare,J.base,J.hok,rv,q⟩
  cases fl with
  | ret u =>
    obtain ⟨v,σ',H',J,rv,q⟩:=hs
    exact fin J rv q
  | next =>
    obtain ⟨σ',H',J,q⟩:=hs
    exact fin (v:=V.non) (u:=Value.none) J rfl q
  | brk =>
    obtain ⟨_,_,_,q⟩:=hs
    exact False.elim q
  | cont =>
    obtain ⟨_,_,_,q⟩:=hs
    exact False.elim q
end L2
namespace HT
open PySem PyProof.Rows
section
variable {prog:Program}{w:World}{A:Around}{E:Value→Shared→Prop}{s:Shared}
theorem cat_tup {t b:Addr}{vs ws:List Value}{Q:Value→Shared→Prop} (ht:IsTup s.heap t vs.toArray) (hb:IsTup s.heap b ws.toArray) (hv:vs≠[])
    (h1:ws=[]→Q (.ref t) s) (h2:ws≠[]→Q (.ref s.heap.objs.size) { s with heap:=s.heap.push { cls:=.type "tuple",data:=.seq (vs ++ ws).toArray } })
    (hsz:vs.length+ws.length≤sizeLine):wpAny (model prog w) A (binaryOp .Add (.ref t) (.ref b)) Q E s:=by
  obtain ⟨⟨cls,dd,data,sl⟩,ho,hc,n,hd⟩:=id ht
  obtain ⟨⟨cls2,dd2,data2,sl2⟩,ho2,hc2,n2,hd2⟩:=id hb
  simp only at hc hd hc2 hd2
  subst hc hd hc2 hd2
  have e:vs.toArray ++ ws.toArray=(vs ++ ws).toArray:=by simp
  by_cases hw:ws=[]
  · exact concat_meets ⟨_,ho,rfl⟩ ⟨_,ho2,rfl⟩ noFill_tuple_add seq_tuple_add PySem.F.slot_tuple_add PySem.F.entry_tuple_add (PySem.F.args_tuple_add_2 _ _)
      (tuple_addW1 t b vs.toArray ws.toArray n n2 dd dd2 sl sl2 (by simpa using hv) (by simp [hw])) ⟨ho,ho2,h1 hw⟩
  · refine concat_meets ⟨_,ho,rfl⟩ ⟨_,ho2,rfl⟩ noFill_tuple_add seq_tuple_add PySem.F.slot_tuple_add PySem.F.entry_tuple_add (PySem.F.args_tuple_add_2 _ _)
      (tuple_addW2 t b vs.toArray ws.toArray n n2 dd dd2 sl sl2 (by simpa using hv) (by simpa using hw) (by rw [List.size_toArray,List.size_toArray];exact hsz)) ⟨ho,ho2,?_⟩
    rw [e]
    exact h2 hw
noncomputable def sIx (n d:Nat):Option Int→Nat
  | none=>d
  | some v=>if v<0 then (v+(n:Int)).toNat else min v.toNat n
end
end HT
namespace L2
open PySem PySem.Spec PyProof.Rows
abbrev TO:=St→Hp→(Option Int→Hp→Prop)→Prop
section
variable {X:Cx}{e:Expr}{te:TE}{lo hi:Option Expr}{tl th:TO}{pos p2:Pos}
def SlR (X:Cx) (r:V→Option Int→Option Int→Hp→VK→Prop):Prop :=
  ∀ (pins:List (Addr×Obj)) (s:Shared) (σ:St) (H:Hp) (x:V) (v vl vu:Value) (lo hi:Option Int) (sl:Addr) (Q:VK),Inv X pins σ H s→RelV x v→s.heap.IsSliceOf sl vl vu .none→IsPart vl lo→IsPart vu hi→r x lo hi H Q →
    ∃ T id,typeLookup (.type T) "__getitem__"=pure (some (.builtin id))∧s.TypeIs v T∧wpAny (model X.prog X.w) X.A (getItem v (.ref sl)) (EP X pins σ Q) X.xe s
noncomputable def cutV (xs:List V) (lo hi:Option Int):List V:=(xs.drop (HT.sIx xs.length 0 lo)).take (HT.sIx xs.length xs.length hi - HT.sIx xs.length 0 lo)
theorem cutV_length (xs:List V) (lo hi:Option Int):(cutV xs lo hi).length≤xs.length:=by
  unfold cutV
  rw [List.length_take,List.length_drop]
  omega
end
noncomputable def ixN (n:Nat) (i:Int):Option Nat:=if 0≤i then (if i<n then some i.toNat else none) else if -(n:Int)≤i then some (i+n).toNat else none
noncomputable def atI {α:Type} (xs:List α) (i:Int):Option α:=(ixN xs.length i).bind fun j=>xs[j]?
theorem ixN_seq {n:Nat}{i:Int}{j:Nat} (h:ixN n i=some j):seqIndex? i n=some j∧j<n∧-(n:Int)≤i∧i<n:=by
  unfold ixN at h
  by_cases h0:0≤i
  · rw [if_pos h0] at h
    by_cases h1:i<n
    · rw [if_pos h1] at h
      have e:i.toNat=j:=Option.some.inj h
      exact ⟨by rw [seqIndex_of h0 h1,e],by omega,by omega,h1⟩
    · rw [if_neg h1] at h;cases h
  · rw [if_neg h0] at h
    by_cases h1 : -(n:Int)≤i
    · rw [if_pos h1] at h
      have e:(i+n).toNat=j:=Option.some.inj h
      exact ⟨by rw [seqIndex_neg (by omega) h1,e],by omega,h1,by omega⟩
    · rw [if_neg h1] at h;cases h
theorem atI_get {α:Type}{xs:List α}{i:Int}{v:α} (h:atI xs i=some v):∃ j,seqIndex? i xs.length=some j∧xs[j]?=some v∧j<xs.length∧-(xs.length:Int)≤i∧i<xs.length:=by
  unfold atI at h
  cases e:ixN xs.length i with
  | none=>rw [e] at h;cases h
  | some j =>
    rw [e] at h
    obtain ⟨h1,h2,h3,h4⟩:=ixN_seq e
    exact ⟨j,h1,h,h2,h3,h4⟩
def PlainIx (b:Expr):Prop:=∀ o i,subscripted b false o i=operate [o,i] (getItem o i)
def IxR (X:Cx) (r:R2):Prop :=
  ∀ (value slice:Expr) (pins:List (Addr×Obj)) (s:Shared) (σ:St) (H:Hp) (x y:V) (v u:Value) (Q:VK),Inv X pins σ H s→RelV x v→RelV y u→r x y H Q →
    subscripted slice false v u=operate [v,u] (getItem v u)→wpAny (model X.prog X.w) X.A (subscriptTail value slice v u) (EP X pins σ Q) X.xe s
section
variable {X:Cx}{a b:Expr}{ta tb:TE}{pos:Pos}
def rIxL (K:PySem.W.Frag):R2:=fun x y H Q=>∃ p xs i v,x = .ref p∧y = .int i∧SqL K H p xs∧atI xs i=some v∧Q v H
def rIxT (K:PySem.W.Frag):R2:=fun x y H Q=>∃ p xs i v,x = .ref p∧y = .int i∧SqT K H p xs∧atI xs i=some v∧Q v H
def rIxS:R2:=fun x y H Q=>∃ z i c,x = .str z∧y = .int i∧z.length≤sizeLine∧atI z.cps.toList i=some c∧Q (.str ⟨#[c]⟩) H
theorem ix_list:IxR X (rIxL X.K):=by
  intro value slice pins s σ H x y v u Q I rx ry h hs
  obtain ⟨p,xs,i,z,rfl,rfl,hq,he,q⟩:=h
  cases rx
  obtain ⟨t,rfl⟩:=ry
  obtain ⟨its,r,pl,hz⟩:=I.list hq
  obtain ⟨j,h1,h2,h3,h4,h5⟩:=atI_get he
  obtain ⟨w,ew,rw'⟩:=r.get h2
  have hl:=r.length
  have hn:=line63
  have fin:EP X pins σ Q w s:=⟨z,H,I,rw',q⟩
  by_cases h0:0≤i
  · have hj:i.toNat=j:=by
      rw [seqIndex_of h0 h5] at h1
      exact Option.some.inj h1
    exact item_listR pl.isList h0 (by omega) (by rw [hj];simpa using ew) fin hs
  · have hj:(i+(its.toArray.size:Int)).toNat=j:=by
      rw [seqIndex_neg (by omega) h4] at h1
      rw [List.size_toArray,← hl]
      exact Option.some.inj h1
    exact subscriptTail_builtinR (x:=w) pl.isList.typeIs slot_list_getitem.lookup
      (wpAny_getItem_list_neg (Q:=fun r s'=>r=w∧EP X pins σ Q r s') pl.isList (by omega) (by rw [List.size_toArray]<;>omega) (by omega) (by rw [hj];simpa using ew) ⟨rfl,fin⟩) hs
theorem ix_tup:IxR X (rIxT X.K):=by
  intro value slice pins s σ H x y v u Q I rx ry h hs
  obtain ⟨p,xs,i,z,rfl,rfl,hq,he,q⟩:=h
  cases rx
  obtain ⟨t,rfl⟩:=ry
  obtain ⟨its,r,pl,hz⟩:=I.tuple hq
  obtain ⟨j,h1,h2,h3,h4,h5⟩:=atI_get he
  obtain ⟨w,ew,rw'⟩:=r.get h2
  have hl:=r.length
  have hn:=line63
  have fin:EP X pins σ Q w s:=⟨z,H,I,rw',q⟩
  exact subscriptTail_builtinR (x:=w) pl.typeIs slot_tuple_getitem.lookup
    (getItem_tuple (j:=j) (Q:=fun r s'=>r=w∧EP X pins σ Q r s') pl (by omega) (by omega) (by rw [List.size_toArray,← hl];exact h1) (by simpa using ew) ⟨rfl,fin⟩) hs
theorem ix_str:IxR X rIxS:=by
  intro value slice pins s σ H x y v u Q I rx ry h hs
  obtain ⟨z,i,c,rfl,rfl,hz,he,q⟩:=h
  obtain ⟨t,rfl⟩:=rx
  obtain ⟨t',rfl⟩:=ry
  obtain ⟨j,h1,h2,h3,h4,h5⟩:=atI_get he
  have hl:z.cps.toList.length=z.length:=by simp [Str.length]
  rw [hl] at h1 h4 h5
  have hn:=line63
  exact tail_any (typeIs_str s z t) slot_str_getitem.lookup (getItem_str (c:=c) (by
    have e1:decide (i < -(2 ^ 63:Int))=false:=decide_eq_false (by omega)
    have e2:decide (i ≥ 2 ^ 63)=false:=decide_eq_false (by omega)
    rw [e1,e2,Bool.or_false]) (by rw [h1];simpa using h2) ⟨.str ⟨#[c]⟩,H,I.tok _,⟨_,rfl⟩,q⟩) hs
theorem Inv.lst {pins:List (Addr×Obj)}{σ:St}{H:Hp}{s:Shared}{p:Addr}{xs:List V} (I:Inv X pins σ H s) (h:H p=some (.lst xs)) :
    ∃ (its:List Value) (n:Nat),Vals xs its∧s.heap.get? p=some { cls:=.type "list",data:=.seq its.toArray n }∧xs.length≤sizeLine:=by
  obtain ⟨z,its,n,r,e⟩:=I.hok p _ h
  exact ⟨its,n,r,e,z⟩
theorem slice_bounds (lo hi:Option Int) (n:Nat):(sliceBounds lo hi none n).1=((HT.sIx n 0 lo:Nat):Int)∧(sliceBounds lo hi none n).2.1=((HT.sIx n n hi:Nat):Int)∧(sliceBounds lo hi none n).2.2=1:=by
  refine ⟨?_,?_,rfl⟩
  · cases lo with
    | none=>simp [sliceBounds,HT.sIx]
    | some i =>
      simp only [sliceBounds,HT.sIx,Option.getD_none,show (1:Int) > 0 by decide,if_true]
      by_cases h:i<0
      · simp only [h,if_true]<;>omega
      · simp only [h,if_false]<;>omega
  · cases hi with
    | none=>simp [sliceBounds,HT.sIx]
    | some i =>
      simp only [sliceBounds,HT.sIx,Option.getD_none,show (1:Int) > 0 by decide,if_true]
      by_cases h:i<0
      · simp only [h,if_true]<;>omega
      · simp only [h,if_false]<;>omega
theorem slicePick_cut (its:List Value) (lo hi:Option Int):slicePick its.toArray lo hi none=((its.drop (HT.sIx its.length 0 lo)).take (HT.sIx its.length its.length hi - HT.sIx its.length 0 lo)).toArray:=by
  obtain ⟨h1,h2,h3⟩:=slice_bounds lo hi its.toArray.size
  unfold slicePick
  rw [h1,h2,h3]
  simp only [sliceRange_one,pick_run,List.size_toArray]<;>rfl
def rSlL (K:PySem.W.Frag):V→Option Int→Option Int→Hp→VK→Prop:=fun x lo hi H Q=>∃ a xs,x = .ref a∧SqL K H a xs∧∀ p,H p=none→Q (.ref p) (upd H p (.lst (cutV xs lo hi)))
theorem sl_list:SlR X (rSlL X.K):=by
  intro pins s σ H x v vl vu lo hi sl Q I rx hs pl pu h
  obtain ⟨a,xs,rfl,hx,q⟩:=h
  cases rx
  obtain ⟨its,r,ht,hz⟩:=I.list hx
  have hlen:=r.length
  refine ⟨"list",_,slot_list_getitem.lookup,ht.isList.typeIs,?_⟩
  refine wpAny_getItem_list_slice ht.isList hs pl pu .none (by simp) ?_ (by rw [List.size_toArray]<;>omega)
  rw [slicePick_cut,← hlen]
  refine ⟨.ref s.heap.objs.size,_,I.laid (t':=s.toks) (o:=.lst (cutV xs lo hi)) (fun b ob q=>Heap.get?_push_of_some _ q) (Nat.le_refl _) ?_,rfl,q _ (I.hok.fresh (Nat.le_refl _))⟩
  exact ⟨Nat.le_trans (cutV_length xs lo hi) hz,_,0,(r.drop (HT.sIx xs.length 0 lo)).take (HT.sIx xs.length xs.length hi - HT.sIx xs.length 0 lo),Heap.get?_push_size _ rfl⟩
noncomputable def flatV:V→Bool
  | .non=>true
  | .bl _=>true
  | .int _=>true
  | .str _=>true
  | _=>false
noncomputable def eqV:V→V→Bool
  | .non,.non=>true
  | .bl a,.bl b=>a == b
  | .bl a,.int b=>(if a then 1 else 0) == b
  | .int a,.bl b=>a == (if b then 1 else 0)
  | .int a,.int b=>a == b
  | .str a,.str b=>a == b
  | _,_=>false
theorem eqAt_V {A:Around}{s:Shared}{y x:V}{u v:Value} (ry:RelV y u) (rx:RelV x v) (fy:flatV y=true) (fx:flatV x=true):SeqAt.EqAt A s u v (eqV y x):=by
  cases y with
  | non =>
    cases ry
    cases x with
    | non=>cases rx;exact SeqAt.EqAt.same _
    | bl b=>cases rx;exact SeqAt.EqAt.none_bool b
    | int b=>obtain ⟨t,rfl⟩:=rx;exact SeqAt.EqAt.none_int b t
    | str b=>obtain ⟨t,rfl⟩:=rx;exact SeqAt.EqAt.none_str b t
    | _=>exact absurd (show false=true from fx) Bool.false_ne_true
  | bl a =>
    cases ry
    cases x with
    | non=>cases rx;exact SeqAt.EqAt.bool_none a
    | bl b=>cases rx;exact SeqAt.EqAt.bool_bool a b
    | int b=>obtain ⟨t,rfl⟩:=rx;exact SeqAt.EqAt.bool_int a b t
    | str b=>obtain ⟨t,rfl⟩:=rx;exact SeqAt.EqAt.bool_str a b t
    | _=>exact absurd (show false=true from fx) Bool.false_ne_true
  | int a =>
    obtain ⟨t',rfl⟩:=ry
    cases x with
    | non=>cases rx;exact SeqAt.EqAt.int_none a t'
    | bl b=>cases rx;exact SeqAt.EqAt.int_bool a t' b
    | int b=>obtain ⟨t,rfl⟩:=rx;exact SeqAt.EqAt.int_int a t' b t
    | str b=>obtain ⟨t,rfl⟩:=rx;exact SeqAt.EqAt.int_str a t' b t
    | _=>exact absurd (show false=true from fx) Bool.false_ne_true
  | str a =>
    obtain ⟨t',rfl⟩:=ry
    cases x with
    | non=>cases rx;exact SeqAt.EqAt.str_none a t'
    | bl b=>cases rx;exact SeqAt.EqAt.str_bool a t' b
    | int b=>obtain ⟨t,rfl⟩:=rx;exact SeqAt.EqAt.str_int a t' b t
    | str b=>obtain ⟨t,rfl⟩:=rx;exact SeqAt.EqAt.str_str a t' b t
    | _=>exact absurd (show false=true from fx) Bool.false_ne_true
  | _=>exact absurd (show false=true from fy) Bool.false_ne_true
noncomputable def eqU (x:V) (u:Value):Bool:=match u with
  | .none=>eqV .non x
  | .bool b=>eqV (.bl b) x
  | .int i _=>eqV (.int i) x
  | .str z _=>eqV (.str z) x
  | _=>false
theorem eqU_of {x y:V}{u:Value} (r:RelV y u) (f:flatV y=true):eqU x u=eqV y x:=by
  cases y with
  | non=>cases r;rfl
  | bl b=>cases r;rfl
  | int i=>obtain ⟨t,rfl⟩:=r;rfl
  | str z=>obtain ⟨t,rfl⟩:=r;rfl
  | _=>exact absurd (show false=true from f) Bool.false_ne_true
theorem any_eqU {x:V}:∀ {xs:List V}{us:List Value},Vals xs us→xs.all flatV=true→us.any (eqU x)=xs.any fun y=>eqV y x
  | _,_,.nil,_=>rfl
  | y::xs,u::us,.cons r t,f=>by
    rw [List.all_cons,Bool.and_eq_true] at f
    rw [List.any_cons,List.any_cons,eqU_of r f.1,any_eqU t f.2]
theorem mem_eqAt {A:Around}{s:Shared}{x:V}{v:Value} (rx:RelV x v) (fx:flatV x=true):∀ {xs:List V}{us:List Value},Vals xs us→xs.all flatV=true→∀ u∈us,SeqAt.EqAt A s u v (eqU x u)
  | _,_,.nil,_=>fun u hu=>by cases hu
  | y::xs,u::us,.cons r t,f=>fun u' hu=>by
    rw [List.all_cons,Bool.and_eq_true] at f
    rcases List.mem_cons.mp hu with rfl | hu
    · rw [eqU_of r f.1];exact eqAt_V r rx f.1 fx
    · exact mem_eqAt rx fx t f.2 u' hu
noncomputable def inV (x:V) (xs:List V):Bool:=xs.any fun y=>eqV y x
def rIn (K:PySem.W.Frag) (neg:Bool):R2:=fun x y H Q=>∃ p xs,y = .ref p∧(SqL K H p xs∨SqT K H p xs)∧flatV x=true∧xs.all flatV=true∧Q (.bl (if neg then !inV x xs else inV x xs)) H
theorem op_in_seq:OpR X (compareOp .In) (rIn X.K false):=by
  intro pins s σ H x y v u Q I rx ry h
  obtain ⟨p,xs,rfl,hq,fx,fs,q⟩:=h
  cases ry
  rcases hq with hq | hq
  · obtain ⟨its,r,pl,hz⟩:=I.list hq
    refine SeqAt.in_listAt (eqU x) pl.isList (fun w hw=>mem_eqAt rx fx r fs w (by simpa using hw)) ⟨.bl _,H,I,rfl,?_⟩
    rw [show its.toArray.any (eqU x)=its.any (eqU x) by simp,any_eqU r fs]
    exact q
  · obtain ⟨its,r,pl,hz⟩:=I.tuple hq
    refine SeqAt.in_tupleAt (eqU x) pl (fun w hw=>mem_eqAt rx fx r fs w (by simpa using hw)) ⟨.bl _,H,I,rfl,?_⟩
    rw [show its.toArray.any (eqU x)=its.any (eqU x) by simp,any_eqU r fs]
    exact q
theorem op_notIn_seq:OpR X (compareOp .NotIn) (rIn X.K true):=by
  intro pins s σ H x y v u Q I rx ry h
  obtain ⟨p,xs,rfl,hq,fx,fs,q⟩:=h
  cases ry
  rcases hq with hq | hq
  · obtain ⟨its,r,pl,hz⟩:=I.list hq
    refine SeqAt.notIn_listAt (eqU x) pl.isList (fun w hw=>mem_eqAt rx fx r fs w (by simpa using hw)) ⟨.bl _,H,I,rfl,?_⟩
    rw [show its.toArray.any (eqU x)=its.any (eqU x) by simp,any_eqU r fs]
    exact q
  · obtain ⟨its,r,pl,hz⟩:=I.tuple hq
    refine SeqAt.notIn_tupleAt (eqU x) pl (fun w hw=>mem_eqAt rx fx r fs w (by simpa using hw)) ⟨.bl _,H,I,rfl,?_⟩
    rw [show its.toArray.any (eqU x)=its.any (eqU x) by simp,any_eqU r fs]
    exact q
theorem op_notIn_str:OpR X (compareOp .NotIn) (fun x y H Q=>∃ i j,x = .str i∧y = .str j∧Q (.bl (!(!(Builtin.Str.occurrences j i 0 j.length 1).isEmpty))) H):=by
  intro pins s σ H x y v u Q I rx ry h
  obtain ⟨i,j,rfl,rfl,q⟩:=h
  obtain ⟨t,rfl⟩:=rx
  obtain ⟨t',rfl⟩:=ry
  exact notIn_str ⟨.bl _,H,I,rfl,q⟩
theorem call_len_seq:CallR X (.builtin "len") (fun xs H Q=>∃ p ys,xs=[.ref p]∧(SqL X.K H p ys∨SqT X.K H p ys)∧Q (.int ys.length) H):=by
  intro pins s σ H xs us Q I r h
  obtain ⟨p,ys,rfl,hq,q⟩:=h
  obtain ⟨u,rfl,rx⟩:=vals1 r
  cases rx
  have hn:=line63
  rcases hq with hq | hq
  · obtain ⟨its,r',pl,hz⟩:=I.list hq
    have hlen:=r'.length
    exact Calls.call_len_list pl.isList (by simp only [List.size_toArray]<;>omega) ⟨.int ys.length,H,I.tok _,⟨s.toks+1,by rw [List.size_toArray,hlen]⟩,q⟩
  · obtain ⟨its,r',pl,hz⟩:=I.tuple hq
    have hlen:=r'.length
    exact len_tuple pl (by simp only [List.size_toArray]<;>omega) ⟨.int ys.length,H,I.tok _,⟨s.toks+1,by rw [List.size_toArray,hlen]⟩,q⟩
theorem call_len_str:CallR X (.builtin "len") (fun xs H Q=>∃ z,xs=[.str z]∧z.length≤sizeLine∧Q (.int z.length) H):=by
  intro pins s σ H xs us Q I r h
  obtain ⟨z,rfl,hz,q⟩:=h
  obtain ⟨u,rfl,t,rfl⟩:=vals1 r
  have hn:=line63
  exact len_str (by omega) ⟨.int z.length,H,I.tok _,⟨_,rfl⟩,q⟩
variable {o e:Expr}{es:List Expr}{to:TE}{t:TA}{name:Str}{apos cpos:Pos}{T id:String}{r:V→List V→Hp→VK→Prop}
end
def MtM (X:Cx) (id:String) (r:V→List V→Hp→VK→Prop):Prop :=
  ∀ (pins:List (Addr×Obj)) (s:Shared) (σ:St) (H:Hp) (x:V) (xs:List V) (v:Value) (us:List Value) (Q:VK),Inv X pins σ H s→RelV x v→Vals xs us→r x xs H Q →
    wpAny (model X.prog X.w) X.A (call (.builtin id) (v::us)) (EP X pins σ Q) X.xe s
theorem Vals.one:∀ {x:V}{us:List Value},Vals [x] us→∃ u,us=[u]∧RelV x u
  | _,_,.cons r .nil=>⟨_,rfl,r⟩
theorem Vals.zero:∀ {us:List Value},Vals [] us→us=[]
  | _,.nil=>rfl
section
variable {X:Cx}{pins:List (Addr×Obj)}{σ:St}{H:Hp}{s:Shared}{l b:Addr}{xs ys zs:List V}
theorem Inv.lset {its its':List Value}{n:Nat}{f:Array Value→Array Value}{t':Nat} (I:Inv X pins σ H s) (hH:H l=some (.lst xs))
    (e:s.heap.get? l=some { cls:=.type "list",data:=.seq its.toArray n }) (hf:f its.toArray=its'.toArray) (hv:Vals ys its') (hz:ys.length≤sizeLine) :
    Inv X pins σ (upd H l (.lst ys)) { s with heap:=s.heap.update l (Obj.mapSeq f),toks:=t' }:=by
  have q:=PySem.IsL.update e f
  rw [hf] at q
  refine I.write (x:=l) (e:=l) (by rw [hH];exact trivial) (.inl rfl) (fun b' u hb hu=>(Heap.get?_update_other s.heap (Obj.mapSeq f) (Ne.symm hb)).trans hu) ⟨_,q⟩ ?_
  exact ⟨hz,its',_,hv,q⟩
theorem Inv.lnew {its:List Value}{t':Nat} (I:Inv X pins σ H s) (hv:Vals ys its) (hz:ys.length≤sizeLine) :
    Inv X pins σ (upd H s.heap.objs.size (.lst ys)) { s with heap:=s.heap.push { cls:=.type "list",data:=.seq its.toArray },toks:=t' } :=
  I.laid (fun _ _ q=>Heap.get?_push_of_some _ q) (Nat.le_refl _) ⟨hz,its,0,hv,Heap.get?_push_size _ rfl⟩
theorem Inv.fresh (I:Inv X pins σ H s):H s.heap.objs.size=none:=I.hok.fresh (Nat.le_refl _)
theorem Inv.lstM (I:Inv X pins σ H s) (hH:H l=some (.lst xs)):xs.length≤sizeLine∧∃ (its:List Value) (n:Nat),Vals xs its∧xs.length=its.length∧s.heap.get? l=some { cls:=.type "list",data:=.seq its.toArray n }:=by
  obtain ⟨z,its,n,r,e⟩:=I.hok l _ hH
  exact ⟨z,its,n,r,r.length,e⟩
end
section
variable {X:Cx}
def rAppend:V→List V→Hp→VK→Prop:=fun x vs H Q=>∃ l xs y,x = .ref l∧vs=[y]∧H l=some (.lst xs)∧xs.length<sizeLine∧Q .non (upd H l (.lst (xs ++ [y])))
theorem mt_append:MtM X "list.append" rAppend:=by
  intro pins s σ H x vs v us Q I rx rv h
  obtain ⟨l,xs,y,rfl,rfl,hH,hz,q⟩:=h
  cases rx
  obtain ⟨u,rfl,ru⟩:=rv.one
  obtain ⟨z,its,n,r,hl,e⟩:=I.lstM hH
  refine call_meets F.slot_list_append ⟨_,e,rfl⟩ F.entry_list_append (F.args_list_append_2 _ _) (PySem.list_append l its.toArray n u (by rw [List.size_toArray];omega)) ⟨e,?_⟩
  refine ⟨.non,_,I.lset (its':=its ++ [u]) hH e (by simp) (r.append (.cons ru .nil)) ?_,rfl,q⟩
  rw [List.length_append,List.length_singleton]
  omega
end
end L2
namespace Att
open PySem PySem.W PySem.Calls PyProof.Rows
theorem ints_of_wellAll {P:Params}{h:Heap}:∀ (ns:List Int) (vs:List Value),WellAll P h vs (ns.map WData.int)→IntsAre vs ns:=by
  intro ns
  induction ns with
  | nil =>
    intro vs w
    rw [List.map_nil] at w
    cases w
    exact .nil
  | cons n ns ih =>
    intro vs w
    rw [List.map_cons] at w
    cases w with
    | cons a b =>
      cases a
      exact .cons _ _ (ih _ b)
theorem script_of {l:OpenLaw}{n:Nat} (hn:l.most=some n) {P:Params}{h:Heap}{args:List WData}{vals:List Value}
    (hpre:l.row.toRowW.claim.pre args=true) (hwl:WellAll P h vals args) :
    ∃ a vs ns,vals=[Value.ref a]∧args=[WData.list (ns.map WData.int)]∧h.get? a=some { cls:=.type "list",data:=.seq vs.toArray }∧IntsAre vs ns∧ns.length≤n:=by
  have hsh:WShape.hasAll [] args [.list .int]=true:=(pre_splitW hpre).1
  have hc:l.pre.holds [] { args:=args }=true:=(pre_splitW hpre).2
  obtain ⟨d,r,rfl,h1,h2⟩:=hasAllW_cons hsh
  obtain rfl:=hasAllW_nil h2
  obtain ⟨xs,rfl,h3⟩:=hasW_list h1
  obtain ⟨ns,rfl⟩:=items_int h3
  have hlen:ns.length≤n:=by
    unfold OpenLaw.pre at hc
    have h4:(WTm.not (.lt (.lit (.int (n:Int))) (.len (.arg 0)))).holds [] { args:=[.list (ns.map .int)] }=true:=by
      have h4:=(holds_andW hc).1
      rw [hn] at h4
      exact h4
    have h5:=condW_of h4 (w_not (w_lt w_lit (w_len_list (w_arg rfl))))
    rw [List.length_map] at h5
    refine Nat.le_of_not_lt fun q=>?_
    have q':(n:Int)<((ns.length:Nat):Int):=by omega
    first
      | (rw [decide_eq_true q'] at h5;exact absurd h5 (by decide))
      | (simp at h5;omega)
  cases hwl with
  | cons w1 w2 =>
    cases w2
    cases w1 with
    | list ho hall=>exact ⟨_,_,ns,rfl,rfl,ho,ints_of_wellAll ns _ hall,hlen⟩
theorem post_true (l:OpenLaw) (args:List WData):l.row.toRowW.claim.post args (.bool true) args=true :=
  postW_of (r:=l.row.toRowW) (X:=(true == true))
    (show WShape.has [] (.bool true) .bool=true by first | rfl | decide | simp [WShape.has,WShape.arms,WShape.armsAll])
    (show (WTm.eq .res (.lit (.bool true))).value [] { args:=args,res:=some (.bool true),after:=args }=some (.bool (true == true)) from w_eq_bool (w_res rfl) w_lit) rfl
end Att
namespace L2
open PySem PySem.Spec PyProof.Rows
theorem vals_ints:∀ {vs:List Value}{ns:List Int},IntsAre vs ns→Vals (ns.map V.int) vs
  | _,_,.nil=>.nil
  | _,_,.cons n t h=>.cons ⟨t,rfl⟩ (vals_ints h)
def Only (H:Hp):Prop:=∀ b,H b=none∨∃ o xs,H b=some (.frz o (.lst xs))
theorem law_call {P:Program}{w:World}{K:PySem.W.Frag}{mg mb:Str→Option Value}{CX:CXT}{k:Nat}{fa a:Addr}{fd:FuncData}{x:Str}{sp:Sp}{s₁:Shared}{vs:List Value}{ns:List Int}
    (KX:K.In s₁.heap) (hns:s₁.heap.Ns mainGlobals mg) (hb:s₁.heap.Ns builtinsNs mb) (hbb:∀ x:Str,x≠"__name__"→mb x=bootBuiltins x) (hlim:s₁.heap.NoLimit) (hg:s₁.gens=#[])
    (ha:s₁.heap.get? a=some { cls:=.type "list",data:=.seq vs.toArray }) (hi:IntsAre vs ns) (hl:ns.length≤sizeLine) (hr:Room k callerA)
    (F:∀ base:Heap,K.In base→base.Ns mainGlobals mg→FnOk P w K mg base CX k fa fd [x] sp) (hbind:∀ (s:Shared) (u:Value),BindsTo s fd ⟨[u],[]⟩ [(x,u)])
    (hsp:∀ H:Hp,Only H→SqL K H a (ns.map V.int)→sp [.ref a] H (fun v _=>v = .bl true) fun _ _ _=>False)
    (hCX:∀ H e s',CX [] H s₁ (fun _ _ _=>False) e s'→False) :
    codeAny (model P w) callerA (.call (.ref fa) ⟨[.ref a],[]⟩) (fun r s'=>r = .ok (.ret (.bool true))∧OldK s₁.heap s'.heap∧s'.os=s₁.os∧AllBare s'.gens) s₁:=by
  have rv:=vals_ints hi
  have lenV:=hi.length
  have core:∀ H:Hp,Only H→SqL K H a (ns.map V.int)→HOk P w H s₁.heap→(∀ b,H b≠none→b=a)→(H a≠none→K.lookup a=none) →
      codeAny (model P w) callerA (.call (.ref fa) ⟨[.ref a],[]⟩) (fun r s'=>r = .ok (.ret (.bool true))∧OldK s₁.heap s'.heap∧s'.os=s₁.os∧AllBare s'.gens) s₁:=by
    intro H hO hS hok hA hK
    have base_of:∀ {b:Addr}{o:Obj},s₁.heap.get? b=some o→H b=none→(hidT s₁.heap H).get? b=some o:=fun e n=>hidT_get e n
    have noA:∀ {b:Addr}{o:Obj}{es:Array DictEntry}{ep:Nat},s₁.heap.get? b=some o→o.data = .dict es ep→H b=none:=fun {b o es ep} e d=>by
      cases q:H b with
      | none=>rfl
      | some u =>
        have e':b=a:=hA b (by rw [q];simp)
        subst e'
        rw [ha] at e;cases e
        have d':Data.seq vs.toArray _=Data.dict es ep:=d
        cases d'
    have nsK:∀ {b:Addr}{m:Str→Option Value},s₁.heap.Ns b m→(hidT s₁.heap H).Ns b m:=fun {b m} ⟨o,es,ep,e,d,r⟩=>⟨o,es,ep,base_of e (noA e d),d,r⟩
    have hKb:K.In (hidT s₁.heap H):=fun b o e=>base_of (KX b o e) (by
      cases q:H b with
      | none=>rfl
      | some u =>
        have e':b=a:=hA b (by rw [q];simp)
        subst e'
        rw [hK (by rw [q];simp)] at e;cases e)
    have hM:Mod K mg (hidT s₁.heap H):=⟨hKb,nsK hns,⟨mb,nsK hb,hbb⟩,let ⟨mc,h1,h2⟩:=hlim;⟨mc,nsK h1,h2⟩⟩
    have e0:Env0 P w K mg (hidT s₁.heap H) callerA [] s₁ H:=⟨rfl,hM,fun b o e=>of_hidT e,Nat.le_of_eq (hidT_size _ _),trivial,fun b hb=>absurd (show b∈([]:List Addr) from hb) (by simp),hok,.of_eq hg⟩
    refine codeAny_mono ((F _ hKb (nsK hns)).run callerA [] s₁ H ⟨[.ref a],[]⟩ [.ref a] [.ref a] _ _ hr e0 (hbind s₁ (.ref a)) (.cons rfl .nil) (hsp H hO hS)) fun r s' h=>?_
    cases r with
    | error e=>exact (hCX H e s' h).elim
    | ok fl =>
      cases fl with
      | next=>exact False.elim h
      | brk=>exact False.elim h
      | cont=>exact False.elim h
      | ret u =>
        obtain ⟨v,H',os,bare,un,hok',r',q⟩:=h
        have q':v = .bl true:=q
        subst q'
        obtain rfl:u=Value.bool true:=r'
        refine ⟨rfl,OldK.of_keep fun b o e=>?_,os,bare⟩
        cases q:H b with
        | none=>exact un.keep b o e q (by intro z;exact absurd (show b∈([]:List Addr) from z) (by simp)) (by simp)
        | some u =>
          rcases hO b with z | ⟨ob,xs,z⟩
          · rw [q] at z;cases z
          · have z2:=un.frzs b ob _ z
            obtain ⟨e1,_⟩:=hok b _ z
            obtain ⟨e2,_⟩:=hok' b _ z2
            rw [e] at e1;cases e1
            exact e2
  cases hk:K.lookup a with
  | some o =>
    have e:=KX a o hk
    rw [ha] at e
    cases e
    refine core (fun _=>none) (fun _=>.inl rfl) (.inr ⟨_,vs.toArray,_,hk,rfl,rfl,rfl,by rw [List.size_toArray,lenV];exact hl,by simpa using rv⟩) (fun b u z=>by have z':(none:Option HO)=some u:=z;cases z') (fun b z=>absurd rfl z) fun z=>absurd rfl z
  | none =>
    refine core (fun b=>if b=a then some (.frz { cls:=.type "list",data:=.seq vs.toArray } (.lst (ns.map V.int))) else none) (fun b=>?_) (.inl (.inr ⟨{ cls:=.type "list",data:=.seq vs.toArray },if_pos rfl⟩)) (fun b u z=>?_) (fun b z=>?_) fun _=>hk
    · by_cases hb:b=a
      · exact .inr ⟨_,_,if_pos hb⟩
      · exact .inl (if_neg hb)
    · by_cases hb:b=a
      · have z':=(if_pos hb).symm.trans z
        cases z'
        subst hb
        exact ⟨ha,by rw [List.length_map];exact hl,vs,_,rv,ha⟩
      · have z':=(if_neg hb).symm.trans z
        cases z'
    · by_cases hb:b=a
      · exact hb
      · exact absurd (if_neg hb) z
noncomputable def inClass (s:Stmt) (j:Nat):Stmt:=match s with
  | .ClassDef _ _ _ body _ _ _ _ _ _ _=>body.getD j (.Pass ⟨0,0,0,0⟩)
  | _=>.Pass ⟨0,0,0,0⟩
noncomputable def defArgs (s:Stmt):Arguments:=match s with
  | .FunctionDef _ a _ _ _ _ _ _ _ _=>a
  | _=>{ posonlyargs:=[],args:=[],vararg:=none,kwonlyargs:=[],kw_defaults:=[],kwarg:=none,defaults:=[] }
noncomputable def defBody (s:Stmt):List Stmt:=match s with
  | .FunctionDef _ _ b _ _ _ _ _ _ _=>b
  | _=>[]
noncomputable def defScope (s:Stmt):Scope:=match s with
  | .FunctionDef _ _ _ _ _ _ sc _ _ _=>sc
  | _=>{ kind:=.function,names:=[],isGenerator:=false,isCoroutine:=false }
structure Fun (K:PySem.W.Frag) (x qual:Str) (st:Stmt) (f:Addr) (fd:FuncData):Prop where
  ex:∃ (oc:Value) (od:Option Addr) (kV doc pm:Value) (an:Option Addr) (cdv ct:Value) (osl:Array (Option Value)),
    fd=PySem.W.fnOf x qual (defArgs st) (defBody st) (defScope st) .none kV doc pm an cdv ct∧K.lookup f=some ⟨oc,od,.func fd,osl⟩∧PySem.W.codeIn K cdv qual=true
  kp:PySem.W.keepIn K (.ref f)=true
section
variable {P:Program}{w:World}{K:PySem.W.Frag}{mg:Str→Option Value}{base:Heap}
theorem Fun.binds {x qual:Str}{st:Stmt}{f:Addr}{fd:FuncData}{ps:List Str} (F:Fun K x qual st f fd)
    (h:∀ (kV doc pm:Value) (an:Option Addr) (cdv ct:Value) (us:List Value),us.length=ps.length→bindArgs (PySem.W.fnOf x qual (defArgs st) (defBody st) (defScope st) .none kV doc pm an cdv ct) ⟨us,[]⟩=pure (ps.zip us)):Binds K fd ps []:=by
  obtain ⟨oc,od,kV,doc,pm,an,cdv,ct,osl,rfl,lk,hcd⟩:=F.ex
  exact .all (h kV doc pm an cdv ct)
theorem fun_mk {x qual:Str}{st:Stmt}{f:Addr}{oc:Value}{od an:Option Addr}{osl:Array (Option Value)}{kV doc pm cdv ct:Value} (l:K.lookup f=some ⟨oc,od,.func (PySem.W.fnOf x qual (defArgs st) (defBody st) (defScope st) .none kV doc pm an cdv ct),osl⟩)
    (c:PySem.W.codeIn K cdv qual=true) (k:PySem.W.keepIn K (.ref f)=true):Fun K x qual st f (PySem.W.fnOf x qual (defArgs st) (defBody st) (defScope st) .none kV doc pm an cdv ct):=⟨⟨oc,od,kV,doc,pm,an,cdv,ct,osl,rfl,l,c⟩,k⟩
end
section
variable {X:Cx}
end
def Same (H H':Hp):Prop:=∀ b o,H b=some o→H' b=some o
theorem Same.refl (H:Hp):Same H H:=fun _ _ h=>h
theorem Same.trans {H H1 H2:Hp} (a:Same H H1) (b:Same H1 H2):Same H H2:=fun c o h=>b c o (a c o h)
theorem Same.free {H H':Hp} (e:Same H H') {l:Addr} (h:H' l=Option.none):H l=Option.none:=by
  cases q:H l with
  | none=>rfl
  | some o =>
    rw [e l o q] at h
    cases h
theorem Same.seq {K:PySem.W.Frag}{H H':Hp}{a:Addr}{xs:List V} (e:Same H H') (h:SqL K H a xs):SqL K H' a xs:=by
  rcases h with (h | ⟨o,h⟩) | h
  · exact .inl (.inl (e _ _ h))
  · exact .inl (.inr ⟨o,e _ _ h⟩)
  · exact .inr h
end L2
set_option maxHeartbeats 4000000
namespace Mi
open PySem
inductive PV where
  | non | bl (b:Bool) | int (i:Int) | str (x:Str) | tup (l:List PV) | lst (l:List PV)
  | exc (c:Nat)            -- an exception that was caught,by its class
  | dic0                     -- an empty dict
  | ins (c:Nat)            -- an instance without attributes,by its class
  | own (l:List PV)        -- a list that one name alone holds (a slot's value,never an expression's)
inductive R (α:Type) where
  | ok (a:α) | exc (c:Nat) | stuck
noncomputable def R.bind {α β:Type} (r:R α) (f:α→R β):R β:=match r with
  | .ok a=>f a
  | .exc c=>.exc c
  | .stuck=>.stuck
@[simp] theorem R.bind_ok {α β:Type} (a:α) (f:α→R β):(R.ok a).bind f=f a:=rfl
abbrev MEnv:=List (Option PV)
abbrev FE:=MEnv→R PV
abbrev FA:=MEnv→R (List PV)
abbrev FT:=MEnv→R Bool
inductive SR where
  | next (ρ:MEnv) | ret (v:PV) | brk (ρ:MEnv) | cont (ρ:MEnv) | exc (c:Nat) (ρ:MEnv) | stuck
abbrev FS:=MEnv→SR
noncomputable def asVal:Option PV→R PV
  | some (.own _)=>.stuck
  | some v=>.ok v
  | none=>.stuck
noncomputable def getV:MEnv→Nat→R PV
  | [],_=>.stuck
  | o::_,0=>asVal o
  | _::r,n+1=>getV r n
noncomputable abbrev nb (i:Int):Nat:=Builtin.Int.intBits i
mutual
noncomputable def eqPV:PV→PV→Bool
  | .non,.non=>true
  | .bl a,.bl b=>a == b
  | .bl a,.int b=>(if a then 1 else 0) == b
  | .int a,.bl b=>a == (if b then 1 else 0)
  | .int a,.int b=>a == b
  | .str a,.str b=>a == b
  | .tup a,.tup b=>eqPVs a b
  | .lst a,.lst b=>eqPVs a b
  | _,_=>false
noncomputable def eqPVs:List PV→List PV→Bool
  | [],[]=>true
  | x::xs,y::ys=>eqPV x y && eqPVs xs ys
  | _,_=>false
end
noncomputable def cmpOkN:Nat→PV→Bool
  | _,.non=>true
  | _,.bl _=>true
  | _,.int _=>true
  | _,.str _=>true
  | n+1,.tup l=>l.all (cmpOkN n)
  | n+1,.lst l=>l.all (cmpOkN n)
  | _,_=>false
noncomputable abbrev cmpOk (p:PV):Bool:=cmpOkN 6 p
noncomputable def truthP:PV→R Bool
  | .bl b=>.ok b
  | .int i=>.ok (i != 0)
  | .non=>.ok false
  | .lst l=>.ok (!l.isEmpty)
  | .str z=>if z.length≤sizeLine then .ok ((z.length:Int) != 0) else .stuck
  | _=>.stuck
noncomputable abbrev bitsMax:Nat:=134217728
noncomputable def oAdd:PV→PV→R PV
  | .int a,.int b=>.ok (.int (a+b))
  | .str a,.str b=>if a.length+b.length≤sizeLine then .ok (.str (a ++ b)) else .stuck
  | .lst a,.lst b=>if a.length+b.length≤sizeLine then .ok (.lst (a ++ b)) else .stuck
  | .tup a,.tup b=>if (a.length≠0∧b.length≠0)∧a.length+b.length≤sizeLine then .ok (.tup (a ++ b)) else .stuck
  | _,_=>.stuck
noncomputable def oSub:PV→PV→R PV
  | .int a,.int b=>.ok (.int (a - b))
  | _,_=>.stuck
noncomputable def oMul:PV→PV→R PV
  | .int a,.int b=>if nb a≤64∨nb b≤64∨nb a+nb b≤bitsMax then .ok (.int (a*b)) else .stuck
  | _,_=>.stuck
noncomputable def oDiv:PV→PV→R PV
  | .int a,.int b=>if 0<b∧nb b≤9000 then .ok (.int (a / b)) else .stuck
  | _,_=>.stuck
noncomputable def oMod:PV→PV→R PV
  | .int a,.int b=>if 0<b then .ok (.int (a % b)) else .stuck
  | _,_=>.stuck
noncomputable def oPow:PV→PV→R PV
  | .int a,.int b=>if 0≤b∧b≤1000000∧nb a≤64 then .ok (.int (a ^ b.toNat)) else .stuck
  | _,_=>.stuck
noncomputable def oShl:PV→PV→R PV
  | .int a,.int b=>if 0≤b∧nb a+b≤134217728 then .ok (.int (a*2 ^ b.toNat)) else .stuck
  | _,_=>.stuck
noncomputable def oShr:PV→PV→R PV
  | .int a,.int b=>if 0≤b then .ok (.int (a / 2 ^ b.toNat)) else .stuck
  | _,_=>.stuck
noncomputable def oAnd:PV→PV→R PV
  | .int a,.int b=>.ok (.int (Builtin.bitAnd a b))
  | _,_=>.stuck
noncomputable def oOr:PV→PV→R PV
  | .int a,.int b=>.ok (.int (Builtin.bitOr a b))
  | _,_=>.stuck
noncomputable def oXor:PV→PV→R PV
  | .int a,.int b=>.ok (.int (Builtin.bitXor a b))
  | _,_=>.stuck
noncomputable def oNeg:PV→R PV
  | .int a=>.ok (.int (-a))
  | _=>.stuck
noncomputable def cLt:PV→PV→R PV
  | .int a,.int b=>.ok (.bl (decide (a<b)))
  | _,_=>.stuck
noncomputable def cLe:PV→PV→R PV
  | .int a,.int b=>.ok (.bl (decide (a≤b)))
  | _,_=>.stuck
noncomputable def cGt:PV→PV→R PV
  | .int a,.int b=>.ok (.bl (decide (b<a)))
  | _,_=>.stuck
noncomputable def cGe:PV→PV→R PV
  | .int a,.int b=>.ok (.bl (decide (b≤a)))
  | _,_=>.stuck
noncomputable def dicStr:PV→PV→Bool
  | .dic0,.str _=>true
  | _,_=>false
noncomputable def cEq (a b:PV):R PV:=if cmpOk a && cmpOk b then .ok (.bl (eqPV a b)) else if dicStr a b then .ok (.bl false) else .stuck
noncomputable def cNe (a b:PV):R PV:=if cmpOk a && cmpOk b then .ok (.bl (!eqPV a b)) else .stuck
noncomputable def isNone:PV→Bool
  | .non=>true
  | _=>false
noncomputable def cIsN (a:PV):R PV:=.ok (.bl (isNone a))
noncomputable def cNotN (a:PV):R PV:=.ok (.bl (!isNone a))
mutual
noncomputable def flatP:PV→Bool
  | .non=>true
  | .bl _=>true
  | .int _=>true
  | .str _=>true
  | _=>false
end
noncomputable def cIn (x y:PV):R PV:=match y with
  | .tup l=>if flatP x && l.all flatP then .ok (.bl (l.any fun z=>eqPV z x)) else .stuck
  | .lst l=>if flatP x && l.all flatP then .ok (.bl (l.any fun z=>eqPV z x)) else .stuck
  | .str z=>(match x with
    | .str y=>.ok (.bl (!(Builtin.Str.occurrences z y 0 z.length 1).isEmpty))
    | _=>.stuck)
  | _=>.stuck
noncomputable def strP:PV→Bool
  | .str _=>true
  | _=>false
noncomputable def heapP:PV→Bool
  | .lst _=>true
  | .tup _=>true
  | .dic0=>true
  | _=>false
noncomputable def cNotIn (x y:PV):R PV:=match y with
  | .tup l=>if flatP x && l.all flatP then .ok (.bl (!l.any fun z=>eqPV z x)) else .stuck
  | .lst l=>if flatP x && l.all flatP then .ok (.bl (!l.any fun z=>eqPV z x)) else if heapP x && l.all strP then .ok (.bl true) else .stuck
  | .str z=>(match x with
    | .str y=>.ok (.bl (!(!(Builtin.Str.occurrences z y 0 z.length 1).isEmpty)))
    | _=>.stuck)
  | _=>.stuck
noncomputable def ixP (n:Nat) (i:Int):Option Nat:=if 0≤i then (if i<n then some i.toNat else none) else if -(n:Int)≤i then some (i+n).toNat else none
noncomputable def itemP (l:List PV) (i:Int):R PV:=match ixP l.length i with
  | some j=>(match l[j]? with | some v=>.ok v | none=>.stuck)
  | none=>.stuck
noncomputable def oItem:PV→PV→R PV
  | .tup l,.int i=>itemP l i
  | .lst l,.int i=>itemP l i
  | .str z,.int i=>(match ixP z.cps.toList.length i with
    | some j=>(match z.cps.toList[j]? with | some c=>if z.length≤sizeLine then .ok (.str ⟨#[c]⟩) else .stuck | none=>.stuck)
    | none=>.stuck)
  | _,_=>.stuck
noncomputable def bLen:List PV→R PV
  | [.tup l]=>.ok (.int l.length)
  | [.lst l]=>.ok (.int l.length)
  | [.str z]=>if z.length≤sizeLine then .ok (.int z.length) else .stuck
  | _=>.stuck
noncomputable def bAbs:List PV→R PV
  | [.int i]=>.ok (.int (if i<0 then -i else i))
  | _=>.stuck
noncomputable def bMin:List PV→R PV
  | [.int i,.int j]=>.ok (.int (if j<i then j else i))
  | _=>.stuck
noncomputable def bMax:List PV→R PV
  | [.int i,.int j]=>.ok (.int (if j > i then j else i))
  | _=>.stuck
noncomputable def bInt:List PV→R PV
  | [.int i]=>.ok (.int i)
  | [.bl k]=>.ok (.int (if k then 1 else 0))
  | _=>.stuck
noncomputable def bBitLength:PV→R PV
  | .int i=>.ok (.int (nb i))
  | _=>.stuck
noncomputable def bList:List PV→R PV
  | [.tup l]=>.ok (.lst l)
  | [.lst l]=>.ok (.lst l)
  | _=>.stuck
noncomputable def bTuple:List PV→R PV
  | [.tup l]=>.ok (.tup l)
  | [.lst l]=>.ok (.tup l)
  | _=>.stuck
inductive Ty where | int | bool | str | tuple | list | dict
noncomputable def isTy:PV→Ty→Option Bool
  | .non,_=>some false
  | .bl _,.int=>some true
  | .bl _,.bool=>some true
  | .bl _,_=>some false
  | .int _,.int=>some true
  | .int _,_=>some false
  | .str _,.str=>some true
  | .str _,_=>some false
  | .tup _,.tuple=>some true
  | .tup _,_=>some false
  | .lst _,.list=>some true
  | .lst _,_=>some false
  | .dic0,.dict=>some true
  | .dic0,_=>some false
  | _,_=>none
noncomputable def fVar (i:Nat):FE:=fun ρ=>getV ρ i
noncomputable def fC (v:PV):FE:=fun _=>.ok v
noncomputable def fBin (o:PV→PV→R PV) (a b:FE):FE:=fun ρ=>(a ρ).bind fun x=>(b ρ).bind fun y=>o x y
noncomputable def fUn (o:PV→R PV) (a:FE):FE:=fun ρ=>(a ρ).bind o
noncomputable def oBool:PV→R Bool
  | .bl b=>.ok b
  | _=>.stuck
noncomputable def fAnd (a b:FE):FE:=fun ρ=>(a ρ).bind fun x=>(oBool x).bind fun c=>if c then b ρ else .ok (.bl false)
noncomputable def fOr (a b:FE):FE:=fun ρ=>(a ρ).bind fun x=>(oBool x).bind fun c=>if c then .ok (.bl true) else b ρ
noncomputable def fNot (a:FE):FE:=fun ρ=>(a ρ).bind fun x=>(oBool x).bind fun c=>.ok (.bl (!c))
noncomputable def fChain (o o':PV→PV→R PV) (a b c:FE):FE:=fun ρ=>(a ρ).bind fun x=>(b ρ).bind fun y=>(o x y).bind fun r=>(oBool r).bind fun k =>
  if k then (c ρ).bind fun z=>o' y z else .ok (.bl false)
noncomputable def fIf (t:FT) (a b:FE):FE:=fun ρ=>(t ρ).bind fun c=>if c then a ρ else b ρ
noncomputable def aNil:FA:=fun _=>.ok []
noncomputable def aCons (a:FE) (r:FA):FA:=fun ρ=>(a ρ).bind fun x=>(r ρ).bind fun xs=>.ok (x::xs)
noncomputable def fTup (a:FA):FE:=fun ρ=>(a ρ).bind fun xs=>if xs.length≤sizeLine then .ok (.tup xs) else .stuck
noncomputable def fLst (a:FA):FE:=fun ρ=>(a ρ).bind fun xs=>if xs.length≤sizeLine then .ok (.lst xs) else .stuck
noncomputable def fCall (F:List PV→R PV) (a:FA):FE:=fun ρ=>(a ρ).bind F
noncomputable def fIsinst (t:Ty) (a:FE):FE:=fun ρ=>(a ρ).bind fun x=>match isTy x t with | some b=>.ok (.bl b) | none=>.stuck
noncomputable def under (c d:Nat):Bool:=c == d || d == 0
noncomputable def fIsExc (ks:List Nat) (d:Nat) (a:FE):FE:=fun ρ=>(a ρ).bind fun x=>match x with
  | .exc c=>if ks.contains c then .ok (.bl (under c d)) else .stuck
  | .non=>.ok (.bl false)
  | _=>.stuck
noncomputable def fIsVal (ks:List Nat) (a:FE):FE:=fun ρ=>(a ρ).bind fun x=>match x with
  | .exc c=>if ks.contains c then .ok (.bl true) else .stuck
  | .non=>.ok (.bl false)
  | _=>.stuck
noncomputable def tVal (a:FE):FT:=fun ρ=>(a ρ).bind truthP
noncomputable def tAnd (a b:FT):FT:=fun ρ=>(a ρ).bind fun c=>if c then b ρ else .ok false
noncomputable def tOr (a b:FT):FT:=fun ρ=>(a ρ).bind fun c=>if c then .ok true else b ρ
noncomputable def tNot (a:FT):FT:=fun ρ=>(a ρ).bind fun c=>.ok (!c)
noncomputable def slP (n d:Nat):Option Int→Nat
  | none=>d
  | some v=>if v<0 then (v+(n:Int)).toNat else min v.toNat n
noncomputable def cutP (l:List PV) (lo hi:Option Int):List PV:=(l.drop (slP l.length 0 lo)).take (slP l.length l.length hi - slP l.length 0 lo)
abbrev FO:=MEnv→R (Option Int)
noncomputable def oNone:FO:=fun _=>.ok none
noncomputable def oSome (a:FE):FO:=fun ρ=>(a ρ).bind fun x=>match x with | .int i=>.ok (some i) | _=>.stuck
noncomputable def sCut (z:Str) (lo hi:Option Int):Str:=⟨((z.cps.toList.drop (slP z.cps.toList.length 0 lo)).take (slP z.cps.toList.length z.cps.toList.length hi - slP z.cps.toList.length 0 lo)).toArray⟩
noncomputable def oCut (x:PV) (lo hi:Option Int):R PV:=match x with
  | .str z=>if z.length≤sizeLine then .ok (.str (sCut z lo hi)) else .stuck
  | .lst l=>.ok (.lst (cutP l lo hi))
  | _=>.stuck
noncomputable def fCut (a:FE) (l h:FO):FE:=fun ρ=>(a ρ).bind fun x=>(l ρ).bind fun lo=>(h ρ).bind fun hi=>oCut x lo hi
noncomputable def sNext:FS:=fun ρ=>.next ρ
noncomputable def sSeq (f g:FS):FS:=fun ρ=>match f ρ with
  | .next ρ'=>g ρ'
  | o=>o
noncomputable def sBreak:FS:=fun ρ=>.brk ρ
noncomputable def sCont:FS:=fun ρ=>.cont ρ
noncomputable def ofR (r:R PV) (ρ:MEnv) (k:PV→SR):SR:=match r with
  | .ok v=>k v
  | .exc c=>.exc c ρ
  | .stuck=>.stuck
noncomputable def sRet (a:FE):FS:=fun ρ=>ofR (a ρ) ρ fun v=>.ret v
noncomputable def sRetN:FS:=fun _=>.ret .non
noncomputable def sExpr (a:FE):FS:=fun ρ=>ofR (a ρ) ρ fun _=>.next ρ
noncomputable def sSet (i:Nat) (a:FE):FS:=fun ρ=>ofR (a ρ) ρ fun v=>.next (ρ.set i (some v))
noncomputable def setAll:List Nat→List PV→MEnv→Option MEnv
  | [],[],ρ=>some ρ
  | i::r,v::vs,ρ=>setAll r vs (ρ.set i (some v))
  | _,_,_=>none
noncomputable def sUnpack (is:List Nat) (a:FE):FS:=fun ρ=>ofR (a ρ) ρ fun v=>match v with
  | .tup l=>(match setAll is l ρ with | some ρ'=>.next ρ' | none=>.stuck)
  | _=>.stuck
noncomputable def sIf (t:FT) (f g:FS):FS:=fun ρ=>match t ρ with
  | .ok c=>if c then f ρ else g ρ
  | .exc c=>.exc c ρ
  | .stuck=>.stuck
noncomputable def sRaise (c:Nat):FS:=fun ρ=>.exc c ρ
noncomputable def isSmallI:R PV→Bool
  | .ok (.int i)=>decide (i.natAbs<18446744073709551616)
  | _=>false
noncomputable def sRaiseT (k:MEnv→Bool) (c:Nat):FS:=fun ρ=>if k ρ then .exc c ρ else .stuck
noncomputable def forL (i:Nat) (body:FS):List PV→FS
  | [],ρ=>.next ρ
  | x::r,ρ=>match body (ρ.set i (some x)) with
    | .next ρ'=>forL i body r ρ'
    | .cont ρ'=>forL i body r ρ'
    | .brk ρ'=>.next ρ'
    | o=>o
noncomputable def sFor (i:Nat) (it:FA) (body:FS):FS:=fun ρ=>match it ρ with
  | .ok l=>forL i body l ρ
  | .exc c=>.exc c ρ
  | .stuck=>.stuck
noncomputable def iSeq (a:FE):FA:=fun ρ=>(a ρ).bind fun x=>match x with
  | .lst l=>.ok l
  | .tup l=>.ok l
  | _=>.stuck
noncomputable def rangeN (lo hi st:Int):Nat:=(if st > 0 then (if lo<hi then (hi - lo - 1) / st+1 else 0) else (if lo > hi then (lo - hi - 1) / (-st)+1 else 0)).toNat
noncomputable def rangeP (lo hi st:Int):List PV:=(List.range (rangeN lo hi st)).map fun (k:Nat)=>.int (lo+(k:Int)*st)
def smallI (i:Int):Prop:=-(2 ^ 60)≤i∧i<2 ^ 60
instance (i:Int):Decidable (smallI i):=inferInstanceAs (Decidable (_∧_))
noncomputable def iRange (a:FA):FA:=fun ρ=>(a ρ).bind fun xs=>match xs with
  | [.int hi]=>if smallI hi then .ok (rangeP 0 hi 1) else .stuck
  | [.int lo,.int hi]=>if smallI lo∧smallI hi then .ok (rangeP lo hi 1) else .stuck
  | [.int lo,.int hi,.int st]=>if smallI lo∧smallI hi∧smallI st∧st≠0 then .ok (rangeP lo hi st) else .stuck
  | _=>.stuck
noncomputable def sTryAs (body:FS) (ks:List Nat) (d n x:Nat):FS:=fun ρ=>match body ρ with
  | .exc c ρ'=>if ks.contains c && under c d then .next (((ρ'.set n (some (.exc c))).set x (some (.exc c))).set n none) else .stuck
  | o=>o
noncomputable def start (n:Nat) (vs:List PV):MEnv:=vs.map some ++ List.replicate (n - vs.length) none
noncomputable def runF (n:Nat) (b:FS) (vs:List PV):R PV:=match b (start n vs) with
  | .next _=>.ok .non
  | .ret v=>.ok v
  | .exc c _=>.exc c
  | _=>.stuck
end Mi
set_option autoImplicit false
namespace Mi
open PySem
def Fine (f:Obj→Obj):Prop:=∀ o,(f o).cls=o.cls∧(f o).dict=o.dict∧(f o).isFreed=o.isFreed
def Kd (e:Addr) (h h':Heap):Prop:=∀ o,h.get? e=some o→∃ o',h'.get? e=some o'∧o'.cls=o.cls∧o'.dict=o.dict
theorem Kd.refl (e:Addr) (h:Heap):Kd e h h:=fun o q=>⟨o,q,rfl,rfl⟩
theorem Kd.trans {e:Addr}{h h1 h2:Heap} (a:Kd e h h1) (b:Kd e h1 h2):Kd e h h2:=fun o q=>by
  obtain ⟨o1,q1,c1,d1⟩:=a o q
  obtain ⟨o2,q2,c2,d2⟩:=b o1 q1
  exact ⟨o2,q2,c2.trans c1,d2.trans d1⟩
inductive Tame:{α:Type}→Sem α→Prop where
  | pure {α:Type} (a:α):Tame (.pure a)
  | raise {α:Type} (e:Value):Tame (.raise e:Sem α)
  | unsupported {α:Type} (w:String):Tame (.unsupported w:Sem α)
  | rule {α:Type}{t:String}{k:Unit→Sem α} (h:Tame (k ())):Tame (.rule t k)
  | load {α:Type}{a:Addr}{p:Option Value}{k:Obj→Sem α} (h:∀ o,Tame (k o)):Tame (.load a p k)
  | update {α:Type}{a:Addr}{p:Option Value}{f:Obj→Obj}{k:Unit→Sem α} (hf:Fine f) (h:Tame (k ())):Tame (.update a p f k)
  | alloc {α:Type}{o:Obj}{k:Addr→Sem α} (h:∀ a,Tame (k a)):Tame (.alloc o k)
  | register {α:Type}{a:Addr}{k:Unit→Sem α}:Tame (.register a k)
  | stack {α:Type}{k:List (Code×Pos)→Sem α} (h:∀ a,Tame (k a)):Tame (.stack k)
theorem Tame.bind {α β:Type}{t:Sem α}{f:α→Sem β} (h:Tame t) (g:∀ a,Tame (f a)):Tame (t >>= f):=by
  show Tame (t.bind f)
  induction h with
  | pure a=>exact g a
  | raise e=>exact .raise e
  | unsupported w=>exact .unsupported w
  | rule _ ih=>exact .rule ih
  | load _ ih=>exact .load fun o=>ih o
  | update hf _ ih=>exact .update hf ih
  | alloc _ ih=>exact .alloc fun a=>ih a
  | register=>exact .register
  | stack _ ih=>exact .stack fun a=>ih a
theorem kd_update {e a:Addr}{h:Heap}{f:Obj→Obj} (hf:Fine f):Kd e h (h.update a f):=fun o q=>by
  by_cases ha:a=e
  · subst ha
    have nf:o.isFreed=false:=(Heap.get?_some_iff.mp q).2
    exact ⟨f o,Heap.get?_update_self f q (by rw [(hf o).2.2];exact nf),(hf o).1,(hf o).2.1⟩
  · exact ⟨o,(Heap.get?_update_other _ _ ha).trans q,rfl,rfl⟩
theorem Tame.keep {α:Type}{M:Model}{Γ:Ctx}{t:Sem α} (h:Tame t) (e:Addr):∀ {Q:α→Pos→Shared→Prop}{E:Value→Pos→Shared→Prop}{p:Pos}{s:Shared},Sem.wp M Γ t Q E p s →
    Sem.wp M Γ t (fun a p s'=>Q a p s'∧Kd e s.heap s'.heap) (fun x p s'=>E x p s'∧Kd e s.heap s'.heap) p s:=by
  induction h with
  | pure a=>intro Q E p s w;exact ⟨w,Kd.refl _ _⟩
  | raise x=>intro Q E p s w;exact ⟨w,Kd.refl _ _⟩
  | unsupported x=>intro Q E p s w;exact w.elim
  | rule _ ih=>intro Q E p s w;exact ih w
  | load _ ih=>intro Q E p s w;obtain ⟨o,h1,h2⟩:=w;exact ⟨o,h1,ih o h2⟩
  | update hf _ ih =>
    intro Q E p s w
    obtain ⟨h1,h2⟩:=w
    exact ⟨h1,Sem.wp_mono M Γ _ (fun a p s' ⟨q,k⟩=>⟨q,(kd_update hf).trans k⟩) (fun x p s' ⟨q,k⟩=>⟨q,(kd_update hf).trans k⟩) _ _ (ih h2)⟩
  | alloc _ ih =>
    intro Q E p s w
    have k0:∀ (o:Obj),Kd e s.heap (s.heap.push o):=fun o o' q=>⟨o',Heap.get?_push_of_some _ q,rfl,rfl⟩
    exact Sem.wp_mono M Γ _ (fun a p s' ⟨q,k⟩=>⟨q,(k0 _).trans k⟩) (fun x p s' ⟨q,k⟩=>⟨q,(k0 _).trans k⟩) _ _ (ih _ w)
  | register=>intro Q E p s w;exact w.elim
  | stack _ ih=>intro Q E p s w;exact ih _ w
theorem Tame.any {α:Type}{M:Model}{A:Around}{t:Sem α} (h:Tame t) (e:Addr) {Q:α→Shared→Prop}{E:Value→Shared→Prop}{s:Shared} (w:wpAny M A t Q E s) :
    wpAny M A t (fun a s'=>Q a s'∧Kd e s.heap s'.heap) (fun x s'=>E x s'∧Kd e s.heap s'.heap) s:=fun Γ p hΓ=>h.keep e (w Γ p hΓ)
theorem fine_fields (g:Array Value→Array Value):Fine (Obj.mapFields g):=fun o=>by
  obtain ⟨c,d,dt,sl⟩:=o
  cases dt<;>exact ⟨rfl,rfl,rfl⟩
theorem fine_slots (g:Obj→Array (Option Value)):Fine (fun o=>{ o with slots:=g o }):=fun o=>by
  obtain ⟨c,d,dt,sl⟩:=o
  cases dt<;>exact ⟨rfl,rfl,rfl⟩
theorem tame_load (a:Addr):Tame (PySem.load a):=.load fun o=>.pure o
theorem tame_update (a:Addr) {f:Obj→Obj} (h:Fine f):Tame (PySem.update a f):=.update h (.pure ())
theorem tame_fieldsOf (v:Value):Tame (fieldsOf v):=by
  unfold fieldsOf
  cases v<;>first | exact .unsupported _ | skip
  refine Tame.bind (tame_load _) fun o=>?_
  cases o.data<;>first | exact .unsupported _ | exact .pure _
theorem tame_field (v:Value) (i:Nat):Tame (field v i):=by
  unfold field
  refine Tame.bind (tame_fieldsOf v) fun vs=>?_
  split
  · exact .pure _
  · exact .unsupported _
theorem tame_setField (v:Value) (i:Nat) (x:Value):Tame (setField v i x):=by
  unfold setField
  cases v<;>first | exact .unsupported _ | skip
  unfold updateField
  refine Tame.bind (tame_load _) fun o=>?_
  cases o.data<;>first | exact .unsupported _ | skip
  dsimp only
  split
  · exact tame_update _ (fine_fields _)
  · exact .unsupported _
theorem tame_setFlight (e:Value) (f:Option Addr):Tame (setFlight e f):=by
  unfold setFlight
  refine Tame.bind (tame_field _ _) fun tb=>?_
  split
  · exact tame_setField _ _ _
  · exact .pure _
theorem tame_stack:Tame PySem.stack:=.stack fun a=>.pure a
theorem tame_behind (env:Env) (outer:List Env):Tame (behindIsImport env outer):=by
  unfold behindIsImport
  split
  · exact .pure _
  · split
    · exact .pure _
    · exact Tame.bind (tame_field _ _) fun _=>.pure _
theorem tame_kept (env:Env) (b:Bool):∀ l,Tame (keptBack env b l)
  | []=>by
    show Tame (if (env.scope.isGenerator || env.scope.isCoroutine)=true then Pure.pure Value.none else _)
    split
    · exact .pure _
    · refine Tame.bind ?_ fun x=>?_
      · unfold underTheClaimsCaller
        exact Tame.bind tame_stack fun _=>.pure _
      · exact .pure _
  | c::r=>.pure _
theorem tame_ready:∀ l,Tame (readyFrames l)
  | []=>.pure _
  | env::outer=>by
    unfold readyFrames
    split
    · refine Tame.bind (tame_load _) fun o=>?_
      split
      · exact .pure _
      · refine Tame.bind (tame_behind _ _) fun _=>Tame.bind (tame_kept _ _ _) fun _=>Tame.bind (tame_update _ (fine_slots _)) fun _=>tame_ready outer
    · exact .unsupported _
theorem tame_frameObject:∀ l,Tame (frameObject l)
  | []=>.pure _
  | env::outer=>by unfold frameObject;exact Tame.bind (tame_ready _) fun _=>.pure _
theorem tame_frameOf (env:Env):Tame (frameOf env):=by
  unfold frameOf
  refine Tame.bind (Tame.bind tame_stack fun _=>.pure _) fun l=>Tame.bind (tame_frameObject _) fun x=>?_
  split
  · exact .pure _
  · exact .unsupported _
theorem tame_place (f:Addr) (b:Bool):Tame (entryPlaceOf f b):=by
  unfold entryPlaceOf
  refine Tame.bind tame_stack fun a=>?_
  split<;>exact .pure _
theorem tame_entry (a b c d e:Value) (l:List Value):Tame (EntryCells.newEntry a b c d e l):=by
  have al:∀ o:Obj,Tame (do let a ← PySem.alloc o;Pure.pure (Value.ref a)):=fun o=>Tame.bind (.alloc fun a=>.pure a) fun a=>.pure _
  unfold EntryCells.newEntry newFields newObj newObjAsIs
  dsimp only
  generalize (if l.isEmpty=true then List.replicate 6 Value.none else l)=l'
  split
  · exact Tame.bind (.unsupported _) fun _=>al _
  · exact al _
theorem tame_note (e:Value) (env:Env):Tame (noteFrame e env):=by
  unfold noteFrame
  split
  · refine Tame.bind (tame_field _ _) fun head=>?_
    split
    · refine Tame.bind (tame_field _ _) fun x=>?_
      split
      · exact .pure _
      · refine Tame.bind (tame_setField _ _ _) fun _=>Tame.bind (tame_frameOf _) fun _=>Tame.bind (tame_place _ _) fun _=>Tame.bind (tame_entry ..) fun _=>tame_setField _ _ _
    · refine Tame.bind (tame_frameOf _) fun _=>Tame.bind (tame_place _ _) fun _=>Tame.bind (tame_entry ..) fun _=>tame_setField _ _ _
  · exact .unsupported _
open PySem.Spec PyProof.Rows L2
abbrev SV:=L2.St
noncomputable def ExcO (a C:Addr):HO:=.ext fun h=>∃ o vs,h.get? a=some o∧o.cls = .ref C∧o.dict=none∧o.data = .fields vs
mutual
inductive Rp (K:PySem.W.Frag) (cl:Nat→Addr) (Hf:Hp):V→PV→Prop where
  | non:Rp K cl Hf .non .non
  | bl (b:Bool):Rp K cl Hf (.bl b) (.bl b)
  | int (i:Int):Rp K cl Hf (.int i) (.int i)
  | str (x:Str):Rp K cl Hf (.str x) (.str x)
  | tup {a:Addr}{xs:List V}{ps:List PV} (h:SqT K Hf a xs) (r:Rps K cl Hf xs ps):Rp K cl Hf (.ref a) (.tup ps)
  | lst {a:Addr}{xs:List V}{ps:List PV} (h:SqL K Hf a xs) (r:Rps K cl Hf xs ps):Rp K cl Hf (.ref a) (.lst ps)
  | exc {a:Addr}{c:Nat} (h:Hf a=some (ExcO a (cl c))):Rp K cl Hf (.ref a) (.exc c)
  | dic0 {a:Addr} (h:Hf a=some (.dK [])):Rp K cl Hf (.ref a) .dic0
  | ins {a dx:Addr}{c:Nat} (h:Hf a=some (.ins (cl c) dx [])):Rp K cl Hf (.ref a) (.ins c)
inductive Rps (K:PySem.W.Frag) (cl:Nat→Addr) (Hf:Hp):List V→List PV→Prop where
  | nil:Rps K cl Hf [] []
  | cons {v:V}{p:PV}{vs:List V}{ps:List PV} (r:Rp K cl Hf v p) (t:Rps K cl Hf vs ps):Rps K cl Hf (v::vs) (p::ps)
end
section
variable {K:PySem.W.Frag}{cl:Nat→Addr}{Hf Hf':Hp}
theorem Same.seqT {H H':Hp}{a:Addr}{xs:List V} (e:Same H H') (h:SqT K H a xs):SqT K H' a xs:=by
  rcases h with (h | ⟨o,h⟩) | h
  · exact .inl (.inl (e _ _ h))
  · exact .inl (.inr ⟨o,e _ _ h⟩)
  · exact .inr h
mutual
theorem Rp.keep (s:Same Hf Hf'):∀ {v:V}{p:PV},Rp K cl Hf v p→Rp K cl Hf' v p
  | _,_,.non=>.non
  | _,_,.bl b=>.bl b
  | _,_,.int i=>.int i
  | _,_,.str x=>.str x
  | _,_,.tup h r=>.tup (Same.seqT s h) (Rps.keep s r)
  | _,_,.lst h r=>.lst (s.seq h) (Rps.keep s r)
  | _,_,.exc h=>.exc (s _ _ h)
  | _,_,.dic0 h=>.dic0 (s _ _ h)
  | _,_,.ins h=>.ins (s _ _ h)
theorem Rps.keep (s:Same Hf Hf'):∀ {vs:List V}{ps:List PV},Rps K cl Hf vs ps→Rps K cl Hf' vs ps
  | _,_,.nil=>.nil
  | _,_,.cons r t=>.cons (Rp.keep s r) (Rps.keep s t)
end
theorem Rps.length:∀ {vs:List V}{ps:List PV},Rps K cl Hf vs ps→vs.length=ps.length
  | _,_,.nil=>rfl
  | _,_,.cons _ t=>congrArg (·+1) (Rps.length t)
theorem Rps.get:∀ {vs:List V}{ps:List PV}{i:Nat}{p:PV},Rps K cl Hf vs ps→ps[i]?=some p→∃ v,vs[i]?=some v∧Rp K cl Hf v p
  | _,_,_,_,.nil,e=>by simp at e
  | _,_,0,_,.cons r _,e=>by simp at e;subst e;exact ⟨_,rfl,r⟩
  | _,_,i+1,p,.cons _ t,e=>by
    obtain ⟨v,h1,h2⟩:=Rps.get (i:=i) (p:=p) t (by simpa using e)
    exact ⟨v,by simpa using h1,h2⟩
theorem Rps.get':∀ {vs:List V}{ps:List PV}{i:Nat}{v:V},Rps K cl Hf vs ps→vs[i]?=some v→∃ p,ps[i]?=some p∧Rp K cl Hf v p
  | _,_,_,_,.nil,e=>by simp at e
  | _,_,0,_,.cons r _,e=>by simp at e;subst e;exact ⟨_,rfl,r⟩
  | _,_,i+1,v,.cons _ t,e=>by
    obtain ⟨p,h1,h2⟩:=Rps.get' (i:=i) (v:=v) t (by simpa using e)
    exact ⟨p,by simpa using h1,h2⟩
theorem Rps.append:∀ {vs ws:List V}{ps qs:List PV},Rps K cl Hf vs ps→Rps K cl Hf ws qs→Rps K cl Hf (vs ++ ws) (ps ++ qs)
  | _,_,_,_,.nil,s=>s
  | _,_,_,_,.cons r t,s=>.cons r (Rps.append t s)
theorem Rps.take:∀ {vs:List V}{ps:List PV} (n:Nat),Rps K cl Hf vs ps→Rps K cl Hf (vs.take n) (ps.take n)
  | _,_,0,_=>.nil
  | _,_,_+1,.nil=>.nil
  | _,_,n+1,.cons r t=>.cons r (Rps.take n t)
theorem Rps.drop:∀ {vs:List V}{ps:List PV} (n:Nat),Rps K cl Hf vs ps→Rps K cl Hf (vs.drop n) (ps.drop n)
  | _,_,0,r=>r
  | _,_,_+1,.nil=>.nil
  | _,_,n+1,.cons _ t=>Rps.drop n t
theorem Rps.ints:∀ (ns:List Int),Rps K cl Hf (ns.map V.int) (ns.map PV.int)
  | []=>.nil
  | n::r=>.cons (.int n) (Rps.ints r)
end
structure Ext (Hf H Hf' H':Hp):Prop where
  all:Same H H'
  frz:Same Hf Hf'
  sub:Same Hf' H'
  old:∀ b,H b≠none→Hf' b=Hf b
theorem Ext.refl {Hf H:Hp} (s:Same Hf H):Ext Hf H Hf H:=⟨Same.refl _,Same.refl _,s,fun _ _=>rfl⟩
theorem Ext.trans {Hf H Hf1 H1 Hf2 H2:Hp} (a:Ext Hf H Hf1 H1) (b:Ext Hf1 H1 Hf2 H2):Ext Hf H Hf2 H2 :=
  ⟨a.all.trans b.all,a.frz.trans b.frz,b.sub,fun c n=>by
    have n1:H1 c≠none:=by
      cases e:H c with
      | none=>exact absurd e n
      | some o=>rw [a.all c o e];intro z;cases z
    rw [b.old c n1,a.old c n]⟩
theorem same_upd {H:Hp}{p:Addr} (h:H p=none) (o:HO):Same H (upd H p o):=fun b u q=>by rw [upd_ne (ne_of_none q h)];exact q
theorem Ext.new {Hf H:Hp} (s:Same Hf H) {p:Addr} (h:H p=none) (o:HO):Ext Hf H (upd Hf p o) (upd H p o):=by
  have hf:Hf p=none:=s.free h
  refine ⟨same_upd h o,same_upd hf o,fun b u q=>?_,fun b n=>?_⟩
  · by_cases e:b=p
    · subst e;rw [upd_same] at q ⊢;exact q
    · rw [upd_ne e] at q ⊢;exact s b u q
  · rw [upd_ne (fun e=>n (by rw [e];exact h))]
theorem Ext.newH {Hf H:Hp} (s:Same Hf H) {p:Addr} (h:H p=none) (o:HO):Ext Hf H Hf (upd H p o) :=
  ⟨same_upd h o,Same.refl _,fun b u q=>same_upd h o b u (s b u q),fun _ _=>rfl⟩
def Slot (K:PySem.W.Frag) (cl:Nat→Addr) (H0 Hf H:Hp) (v:V):PV→Prop
  | .own ps=>∃ a xs,v = .ref a∧H a=some (.lst xs)∧Hf a=none∧H0 a=none∧Rps K cl Hf xs ps
  | p=>Rp K cl Hf v p
structure Rep (K:PySem.W.Frag) (cl:Nat→Addr) (Hf0 H0 Hf H:Hp) (σ:SV) (ρ:MEnv):Prop where
  ext:Ext Hf0 H0 Hf H
  slot:∀ (i:Nat) (p:PV),ρ[i]?=some (some p)→∃ v,σ[i]?=some (some v)∧Slot K cl H0 Hf H v p
  dist:∀ (i j:Nat) (ps qs:List PV) (a:Addr),ρ[i]?=some (some (.own ps))→ρ[j]?=some (some (.own qs))→σ[i]?=some (some (.ref a))→σ[j]?=some (some (.ref a))→i=j
section
variable {K:PySem.W.Frag}{cl:Nat→Addr}{Hf0 H0 Hf H Hf' H':Hp}{σ:SV}{ρ:MEnv}
theorem Rep.sub (r:Rep K cl Hf0 H0 Hf H σ ρ):Same Hf H:=r.ext.sub
theorem Slot.keep {v:V}{p:PV} (e:Ext Hf H Hf' H') (h:Slot K cl H0 Hf H v p):Slot K cl H0 Hf' H' v p:=by
  cases p with
  | own ps =>
    obtain ⟨a,xs,e1,e2,e3,e4,e5⟩:=h
    exact ⟨a,xs,e1,e.all _ _ e2,by rw [e.old a (by rw [e2];intro z;cases z)];exact e3,e4,e5.keep e.frz⟩
  | _=>exact Rp.keep e.frz h
theorem Rep.keep (r:Rep K cl Hf0 H0 Hf H σ ρ) (e:Ext Hf H Hf' H'):Rep K cl Hf0 H0 Hf' H' σ ρ :=
  ⟨r.ext.trans e,fun i p h=>by
    obtain ⟨v,h1,h2⟩:=r.slot i p h
    exact ⟨v,h1,h2.keep e⟩,r.dist⟩
theorem getV_some:∀ {ρ:MEnv}{i:Nat}{p:PV},getV ρ i = .ok p→ρ[i]?=some (some p)∧∀ l,p≠.own l
  | [],_,_,h=>by simp [getV] at h
  | o::r,0,p,h=>by
    have h':asVal o = .ok p:=h
    cases o with
    | none=>simp [asVal] at h'
    | some q =>
      cases q<;>first
        | (simp [asVal] at h';done)
        | (simp only [asVal] at h';cases h';exact ⟨rfl,fun l z=>by cases z⟩)
  | o::r,i+1,p,h=>by
    obtain ⟨a,b⟩:=getV_some (ρ:=r) (i:=i) (p:=p) h
    exact ⟨by simpa using a,b⟩
theorem getV_noexc:∀ {ρ:MEnv}{i:Nat}{c:Nat},getV ρ i≠.exc c
  | [],_,_,h=>by simp [getV] at h
  | o::r,0,c,h=>by
    have h':asVal o = .exc c:=h
    cases o with
    | none=>simp [asVal] at h'
    | some q=>cases q<;>simp [asVal] at h'
  | o::r,i+1,c,h=>getV_noexc (ρ:=r) (i:=i) (c:=c) h
theorem Rep.var (r:Rep K cl Hf0 H0 Hf H σ ρ) {i:Nat}{p:PV} (h:getV ρ i = .ok p):∃ v,σ[i]?=some (some v)∧Rp K cl Hf v p:=by
  obtain ⟨e,n⟩:=getV_some h
  obtain ⟨v,h1,h2⟩:=r.slot i p e
  refine ⟨v,h1,?_⟩
  cases p with
  | own l=>exact absurd rfl (n l)
  | _=>exact h2
theorem Rep.set (r:Rep K cl Hf0 H0 Hf H σ ρ) (i:Nat) {v:V}{p:PV} (h:Rp K cl Hf v p) (hl:i<σ.length):Rep K cl Hf0 H0 Hf H (σ.set i (some v)) (ρ.set i (some p)):=by
  have np:∀ l,p≠.own l:=fun l z=>by subst z;cases h
  refine ⟨r.ext,fun j q hq=>?_,fun j k ps qs a h1 h2 h3 h4=>?_⟩
  · by_cases e:i=j
    · subst e
      have hi:i<ρ.length:=by
        rw [List.getElem?_set] at hq
        by_cases hh:i<ρ.length
        · exact hh
        · simp [hh] at hq
      rw [List.getElem?_set_self hi] at hq
      cases hq
      refine ⟨v,by rw [List.getElem?_set_self hl],?_⟩
      cases p with
      | own l=>exact absurd rfl (np l)
      | _=>exact h
    · rw [List.getElem?_set_ne e] at hq
      obtain ⟨w,a,b⟩:=r.slot j q hq
      exact ⟨w,by rw [List.getElem?_set_ne e];exact a,b⟩
  · have ne:∀ {m:Nat}{l:List PV},(ρ.set i (some p))[m]?=some (some (.own l))→i≠m:=fun {m l} hm z=>by
      subst z
      have hi:i<ρ.length:=by
        rw [List.getElem?_set] at hm
        by_cases hh:i<ρ.length
        · exact hh
        · simp [hh] at hm
      rw [List.getElem?_set_self hi] at hm
      cases hm
      exact np l rfl
    have n1:=ne h1
    have n2:=ne h2
    rw [List.getElem?_set_ne n1] at h1 h3
    rw [List.getElem?_set_ne n2] at h2 h4
    exact r.dist j k ps qs a h1 h2 h3 h4
end
def Stands (X:Cx) (pins:List (Addr×Obj)) (H:Hp) (b:Addr):Prop :=
  H b≠none∨(∃ p∈X.pn ++ pins,p.1=b)∨(∃ o,X.s₀.heap.get? b=some o)∨∃ x,X.env.cells.lookup x=some b
def Cov (X:Cx) (pins:List (Addr×Obj)) (H:Hp) (B h:Heap):Prop:=∀ b o,h.get? b=some o→Stands X pins H b→b ∉ frs X.stack→B.get? b=some o
def FreshW (B:Heap) (l:List Env) (e:Addr) (cls a0:Value) (h:Heap):Prop :=
  B.StaysIn h∧B.get? e=none∧h.FunFrames B l∧∃ oe vs,h.get? e=some oe∧oe.cls=cls∧oe.dict=none∧oe.data = .fields vs∧vs[0]?=some a0∧vs[1]?=some .none
def NoD (e:Addr) (h:Heap):Prop:=∃ o,h.get? e=some o∧o.dict=none
def XSt (X:Cx) (pins:List (Addr×Obj)) (H:Hp) (e C:Addr) (h:Heap):Prop :=
  ∃ B a0,Cov X pins H B h∧NoD e h∧(FreshW B X.stack e (.ref C) a0 h∨Heap.HeldW B X.stack e (.ref C) a0 X.env.locals h∨Heap.FlyingW B X.stack e (.ref C) a0 h)
def XAt (X:Cx) (cl:Nat→Addr) (pins:List (Addr×Obj)) (σ:SV) (Hf H:Hp) (c:Nat) (u:Value) (s:Shared):Prop :=
  ∃ e Hf' H',u = .ref e∧Inv X pins σ H' s∧Ext Hf H Hf' H'∧XSt X pins H' e (cl c) s.heap
theorem XAt.from {X:Cx}{cl:Nat→Addr}{pins:List (Addr×Obj)}{σ:SV}{Hf H Hf1 H1:Hp}{c:Nat}{u:Value}{s:Shared} (e:Ext Hf H Hf1 H1) (x:XAt X cl pins σ Hf1 H1 c u s):XAt X cl pins σ Hf H c u s:=by
  obtain ⟨a,Hf',H',h1,h2,h3,h4⟩:=x
  exact ⟨a,Hf',H',h1,h2,e.trans h3,h4⟩
section
variable (X:Cx) (cl:Nat→Addr)
def OkP (pins:List (Addr×Obj)) (σ:SV) (Hf H:Hp) (r:R PV) (u:Value) (s:Shared):Prop :=
  ∃ p v Hf' H',r = .ok p∧Inv X pins σ H' s∧RelV v u∧Ext Hf H Hf' H'∧Rp X.K cl Hf' v p
def ExP {α:Type} (pins:List (Addr×Obj)) (σ:SV) (Hf H:Hp) (r:R α) (u:Value) (s:Shared):Prop :=
  ∃ c,r = .exc c∧XAt X cl pins σ Hf H c u s
def OkT (pins:List (Addr×Obj)) (σ:SV) (Hf H:Hp) (r:R Bool) (b:Bool) (s:Shared):Prop :=
  ∃ Hf' H',r = .ok b∧Inv X pins σ H' s∧Ext Hf H Hf' H'
def OkA (pins:List (Addr×Obj)) (σ:SV) (Hf H:Hp) (r:R (List PV)) (us:List Value) (s:Shared):Prop :=
  ∃ ps vs Hf' H',r = .ok ps∧Inv X pins σ H' s∧Vals vs us∧Ext Hf H Hf' H'∧Rps X.K cl Hf' vs ps
structure ME (e:Expr) (f:FE):Prop where
  run':∀ (pins:List (Addr×Obj)) (s:Shared) (σ:SV) (Hf0 H0 Hf H:Hp) (ρ:MEnv),Inv X pins σ H s→Rep X.K cl Hf0 H0 Hf H σ ρ→f ρ≠.stuck →
    wpAny (model X.prog X.w) X.A (eval e X.env) (OkP X cl pins σ Hf H (f ρ)) (ExP X cl pins σ Hf H (f ρ)) s
instance {e:Expr}{f:FE}:CoeFun (ME X cl e f) fun _=>∀ (pins:List (Addr×Obj)) (s:Shared) (σ:SV) (Hf0 H0 Hf H:Hp) (ρ:MEnv),Inv X pins σ H s→Rep X.K cl Hf0 H0 Hf H σ ρ→f ρ≠.stuck →
    wpAny (model X.prog X.w) X.A (eval e X.env) (OkP X cl pins σ Hf H (f ρ)) (ExP X cl pins σ Hf H (f ρ)) s:=⟨ME.run'⟩
structure MT (e:Expr) (f:FT):Prop where
  run':∀ (pins:List (Addr×Obj)) (s:Shared) (σ:SV) (Hf0 H0 Hf H:Hp) (ρ:MEnv),Inv X pins σ H s→Rep X.K cl Hf0 H0 Hf H σ ρ→f ρ≠.stuck →
    wpAny (model X.prog X.w) X.A (isTrue e X.env (eval e X.env)) (OkT X pins σ Hf H (f ρ)) (ExP X cl pins σ Hf H (f ρ)) s
instance {e:Expr}{f:FT}:CoeFun (MT X cl e f) fun _=>∀ (pins:List (Addr×Obj)) (s:Shared) (σ:SV) (Hf0 H0 Hf H:Hp) (ρ:MEnv),Inv X pins σ H s→Rep X.K cl Hf0 H0 Hf H σ ρ→f ρ≠.stuck →
    wpAny (model X.prog X.w) X.A (isTrue e X.env (eval e X.env)) (OkT X pins σ Hf H (f ρ)) (ExP X cl pins σ Hf H (f ρ)) s:=⟨MT.run'⟩
end
section
variable {X:Cx}{cl:Nat→Addr}{pins:List (Addr×Obj)}{s:Shared}{σ:SV}{Hf0 H0 Hf H Hf1 H1:Hp}{ρ:MEnv}{α:Type}
theorem ME.run {e:Expr}{f:FE} (h:ME X cl e f) (I:Inv X pins σ H1 s) (r:Rep X.K cl Hf0 H0 Hf1 H1 σ ρ) (e0:Ext Hf H Hf1 H1) {k:PV→R α} (hs:(f ρ).bind k≠.stuck) {Q:Value→Shared→Prop}
    (ok:∀ p v u s' Hf' H',(f ρ).bind k=k p→Inv X pins σ H' s'→RelV v u→Ext Hf1 H1 Hf' H'→Rp X.K cl Hf' v p→Q u s') :
    wpAny (model X.prog X.w) X.A (eval e X.env) Q (ExP X cl pins σ Hf H ((f ρ).bind k)) s:=by
  have hf:f ρ≠.stuck:=fun z=>hs (by rw [z];rfl)
  refine wpAny_mono (h pins s σ Hf0 H0 Hf1 H1 ρ I r hf) (fun u s' q=>?_) fun u s' q=>?_
  · obtain ⟨p,v,Hf',H',e1,I',rv,ex,rp⟩:=q
    exact ok p v u s' Hf' H' (by rw [e1];rfl) I' rv ex rp
  · obtain ⟨c,e1,x⟩:=q
    exact ⟨c,by rw [e1];rfl,x.from e0⟩
theorem okp {t:Sem Value}{p:PV}{E:Value→Shared→Prop}
    (h:wpAny (model X.prog X.w) X.A t (EP (X.wish E) pins σ fun v H'=>∃ Hf',Ext Hf H Hf' H'∧Rp X.K cl Hf' v p) E s):wpAny (model X.prog X.w) X.A t (OkP X cl pins σ Hf H (.ok p)) E s :=
  thn h fun u s' ⟨v,H',I',rv,Hf',ex,rp⟩=>⟨p,v,Hf',H',rfl,I'.unwish,rv,ex,rp⟩
theorem OkP.from {e0:Ext Hf H Hf1 H1}{r:R PV}{u:Value}{s':Shared} (h:OkP X cl pins σ Hf1 H1 r u s'):OkP X cl pins σ Hf H r u s':=by
  obtain ⟨p,v,Hf',H',e1,I',rv,ex,rp⟩:=h
  exact ⟨p,v,Hf',H',e1,I',rv,e0.trans ex,rp⟩
theorem ExP.from {e0:Ext Hf H Hf1 H1}{r:R α}{u:Value}{s':Shared} (h:ExP X cl pins σ Hf1 H1 r u s'):ExP X cl pins σ Hf H r u s':=by
  obtain ⟨c,e1,x⟩:=h
  exact ⟨c,e1,x.from e0⟩
theorem me_var {i:Nat}{x:Str}{pos:Pos} (hN:X.N[i]?=some x) (hv:Vis X.env.scope x) (hd:(x == ("__debug__" : Str))=false:=by decide) (hcd:(x == ("__classdict__" : Str))=false:=by decide) :
    ME X cl (.Name x pos) (fVar i):=by
  refine ⟨?_⟩
  intro pins s σ Hf0 H0 Hf H ρ I r hs
  unfold fVar at hs ⊢
  cases e:getV ρ i with
  | stuck=>exact absurd e hs
  | exc c=>exact absurd e getV_noexc
  | ok p =>
    obtain ⟨v,h1,h2⟩:=r.var e
    generalize ExP X cl pins σ Hf H (R.ok p)=E
    refine okp ?_
    refine (pe_var (X:=X.wish E) hN hv hd hcd) pins s σ H _ (I.wish E) ?_
    exact ⟨v,h1,Hf,Ext.refl r.sub,h2⟩
theorem me_const {e:Expr}{v:V}{p:PV} (h:∀ E,PE (X.wish E) e (tC v)) (r:∀ Hf,Rp X.K cl Hf v p):ME X cl e (fC p):=by
  refine ⟨?_⟩
  intro pins s σ Hf0 H0 Hf H ρ I rr hs
  generalize ExP X cl pins σ Hf H (fC p ρ)=E
  refine okp ?_
  refine h E pins s σ H _ (I.wish E) ?_
  exact ⟨Hf,Ext.refl rr.sub,r Hf⟩
theorem me_int {i:Int}{j:Nat}{pos:Pos}:ME X cl (.Constant (.int i) j pos) (fC (.int i)):=me_const (fun _=>pe_int) fun _=>.int i
theorem me_bl {b:Bool}{j:Nat}{pos:Pos}:ME X cl (.Constant (.bool b) j pos) (fC (.bl b)):=me_const (fun _=>pe_bl) fun _=>.bl b
theorem me_non {j:Nat}{pos:Pos}:ME X cl (.Constant .none j pos) (fC .non):=me_const (fun _=>pe_non) fun _=>.non
theorem me_str {x:Str}{j:Nat}{pos:Pos}:ME X cl (.Constant (.str x) j pos) (fC (.str x)):=me_const (fun _=>pe_str) fun _=>.str x
theorem me_glob {x:Str}{v:V}{p:PV}{u:Value}{pos:Pos} (hg:Gl X x) (hm:X.mg x=some u) (rv:RelV v u) (r:∀ Hf,Rp X.K cl Hf v p) (hd:(x == ("__debug__" : Str))=false:=by decide):ME X cl (.Name x pos) (fC p) :=
  me_const (fun _=>pe_glob hg hm rv hd) r
def BinR (X:Cx) (cl:Nat→Addr) (f:Value→Value→Sem Value) (o:PV→PV→R PV):Prop :=
  ∀ (pins:List (Addr×Obj)) (s:Shared) (σ:SV) (Hf H:Hp) (x y:V) (v u:Value) (p q:PV),Inv X pins σ H s→Same Hf H→RelV x v→RelV y u→Rp X.K cl Hf x p→Rp X.K cl Hf y q→o p q≠.stuck →
    wpAny (model X.prog X.w) X.A (f v u) (OkP X cl pins σ Hf H (o p q)) (ExP X cl pins σ Hf H (o p q)) s
theorem two {a b:Expr}{fa fb:FE}{f:Value→Value→Sem Value}{o:PV→PV→R PV} (ha:ME X cl a fa) (hb:ME X cl b fb) (rule:BinR X cl f o) (I:Inv X pins σ H s) (r:Rep X.K cl Hf0 H0 Hf H σ ρ) (hs:fBin o fa fb ρ≠.stuck) :
    wpAny (model X.prog X.w) X.A (eval a X.env) (fun v s₁=>wpAny (model X.prog X.w) X.A (eval b X.env) (fun u s₂=>wpAny (model X.prog X.w) X.A (f v u)
      (OkP X cl pins σ Hf H (fBin o fa fb ρ)) (ExP X cl pins σ Hf H (fBin o fa fb ρ)) s₂) (ExP X cl pins σ Hf H (fBin o fa fb ρ)) s₁) (ExP X cl pins σ Hf H (fBin o fa fb ρ)) s:=by
  unfold fBin at hs ⊢
  refine ha.run I r (Ext.refl r.sub) hs fun p v u s1 Hf1 H1 e1 I1 rv x1 rp=>?_
  rw [e1] at hs ⊢
  refine hb.run I1 (r.keep x1) x1 hs fun q v' u' s2 Hf2 H2 e2 I2 rv' x2 rq=>?_
  rw [e2] at hs ⊢
  exact wpAny_mono (rule pins s2 σ Hf2 H2 v v' u u' p q I2 x2.sub rv rv' (rp.keep x2.frz) rq hs) (fun _ _ h=>h.from (e0:=x1.trans x2)) fun _ _ h=>h.from (e0:=x1.trans x2)
theorem me_bin {a b:Expr}{fa fb:FE}{op:Operator}{o:PV→PV→R PV}{pos:Pos} (rule:BinR X cl (binaryOp op) o) (ha:ME X cl a fa) (hb:ME X cl b fb):ME X cl (.BinOp a op b pos) (fBin o fa fb):=by
  refine ⟨?_⟩
  intro pins s σ Hf0 H0 Hf H ρ I r hs
  exact wpAny_BinOp (two ha hb rule I r hs)
theorem me_cmp {a b:Expr}{fa fb:FE}{op:CmpOp}{o:PV→PV→R PV}{pos:Pos} (rule:BinR X cl (compareOp op) o) (ha:ME X cl a fa) (hb:ME X cl b fb) (hm:behindInMarks op b=false):ME X cl (.Compare a [op] [b] pos) (fBin o fa fb):=by
  refine ⟨?_⟩
  intro pins s σ Hf0 H0 Hf H ρ I r hs
  exact wpAny_Compare1 (two ha hb rule I r hs) hm
def UnaR (X:Cx) (cl:Nat→Addr) (f:Value→Sem Value) (o:PV→R PV):Prop :=
  ∀ (pins:List (Addr×Obj)) (s:Shared) (σ:SV) (Hf H:Hp) (x:V) (v:Value) (p:PV),Inv X pins σ H s→Same Hf H→RelV x v→Rp X.K cl Hf x p→o p≠.stuck →
    wpAny (model X.prog X.w) X.A (f v) (OkP X cl pins σ Hf H (o p)) (ExP X cl pins σ Hf H (o p)) s
theorem me_una {a:Expr}{fa:FE}{op:UnaryOp}{o:PV→R PV}{pos:Pos} (rule:UnaR X cl (unaryOp op) o) (ha:ME X cl a fa):ME X cl (.UnaryOp op a pos) (fUn o fa):=by
  refine ⟨?_⟩
  intro pins s σ Hf0 H0 Hf H ρ I r hs
  unfold fUn at hs ⊢
  refine UnaryOp_ (ha.run I r (Ext.refl r.sub) hs fun p v u s1 Hf1 H1 e1 I1 rv x1 rp=>?_)
  rw [e1] at hs ⊢
  exact wpAny_mono (rule pins s1 σ Hf1 H1 v u p I1 x1.sub rv rp hs) (fun _ _ h=>h.from (e0:=x1)) fun _ _ h=>h.from (e0:=x1)
theorem intR {f:Value→Value→Sem Value}{o:PV→PV→R PV} (C:Int→Int→Prop) (g:Int→Int→Int) (ho:∀ p q,o p q≠.stuck→∃ i j,p = .int i∧q = .int j∧C i j∧o p q = .ok (.int (g i j)))
    (rule:∀ (i j:Int) (t u:Tok) (s:Shared) (Q:Value→Shared→Prop) (E:Value→Shared→Prop),C i j→Q (.int (g i j) s.toks) { s with toks:=s.toks+1 }→wpAny (model X.prog X.w) X.A (f (.int i t) (.int j u)) Q E s):BinR X cl f o:=by
  intro pins s σ Hf H x y v u p q I sm rv ru rp rq hs
  obtain ⟨i,j,rfl,rfl,hc,e⟩:=ho p q hs
  rw [e]
  cases rp;cases rq
  obtain ⟨t,rfl⟩:=rv
  obtain ⟨t',rfl⟩:=ru
  exact rule i j t t' s _ _ hc ⟨_,.int (g i j),Hf,H,rfl,I.tok _,⟨_,rfl⟩,Ext.refl sm,.int _⟩
theorem intB {f:Value→Value→Sem Value}{o:PV→PV→R PV} (g:Int→Int→Bool) (ho:∀ p q,o p q≠.stuck→∃ i j,p = .int i∧q = .int j∧o p q = .ok (.bl (g i j)))
    (rule:∀ (i j:Int) (t u:Tok) (s:Shared) (Q:Value→Shared→Prop) (E:Value→Shared→Prop),Q (.bool (g i j)) s→wpAny (model X.prog X.w) X.A (f (.int i t) (.int j u)) Q E s):BinR X cl f o:=by
  intro pins s σ Hf H x y v u p q I sm rv ru rp rq hs
  obtain ⟨i,j,rfl,rfl,e⟩:=ho p q hs
  rw [e]
  cases rp;cases rq
  obtain ⟨t,rfl⟩:=rv
  obtain ⟨t',rfl⟩:=ru
  exact rule i j t t' s _ _ ⟨_,.bl (g i j),Hf,H,rfl,I,rfl,Ext.refl sm,.bl _⟩
end
theorem two_pow_pos' (k:Nat):(0:Int)<2 ^ k:=Int.pow_pos (by decide)
section
variable {X:Cx}{cl:Nat→Addr}
theorem r_sub:BinR X cl (binaryOp .Sub) oSub:=intR (fun _ _=>True) (fun i j=>i - j)
  (fun p q h=>by cases p<;>cases q<;>first | exact ⟨_,_,rfl,rfl,trivial,rfl⟩ | exact absurd rfl h) fun _ _ _ _ _ _ _ _ q=>sub_int q
theorem ifOk {c:Prop} [Decidable c] {a:PV} (h:(if c then R.ok a else R.stuck)≠.stuck):c∧(if c then R.ok a else R.stuck) = .ok a:=by
  by_cases hc:c
  · exact ⟨hc,if_pos hc⟩
  · rw [if_neg hc] at h;exact absurd rfl h
theorem r_mul:BinR X cl (binaryOp .Mult) oMul:=intR (fun i j=>nb i≤64∨nb j≤64∨nb i+nb j≤bitsMax) (fun i j=>i*j)
  (fun p q h=>by
    cases p<;>cases q<;>first
      | exact absurd rfl h
      | exact ⟨_,_,rfl,rfl,(ifOk h).1,(ifOk h).2⟩) fun i j _ _ _ _ _ hc q=>mul_int q (by
    rcases hc with hc | hc | hc
    · exact .of_left hc
    · exact .of_right hc
    · exact .of_le (Nat.le_refl _) (Nat.le_refl _) hc)
theorem r_mod:BinR X cl (binaryOp .Mod) oMod:=intR (fun _ j=>0<j) (fun i j=>i % j)
  (fun p q h=>by
    cases p<;>cases q<;>first
      | exact absurd rfl h
      | exact ⟨_,_,rfl,rfl,(ifOk h).1,(ifOk h).2⟩) fun i j _ _ _ _ _ hc q=>mod_int' (by omega) (by rw [Int.fmod_eq_emod_of_nonneg i (by omega)];exact q)
theorem log2_of_nb {j:Int}{k:Nat} (h0:j≠0) (h:nb j≤k):j.natAbs.log2<k:=by
  have e:nb j=j.natAbs.log2+1:=by
    show (if j == 0 then 0 else j.natAbs.log2+1)=_
    rw [if_neg (by simpa using h0)]
  omega
theorem r_div:BinR X cl (binaryOp .FloorDiv) oDiv:=intR (fun _ j=>0<j∧nb j≤9000) (fun i j=>i / j)
  (fun p q h=>by
    cases p<;>cases q<;>first
      | exact absurd rfl h
      | exact ⟨_,_,rfl,rfl,(ifOk h).1,(ifOk h).2⟩) fun i j _ _ _ _ _ hc q=>floordiv_int (by omega) (by rw [Int.fdiv_eq_ediv_of_nonneg i (by omega)];exact q)
        (.inl (PyProof.noPylong_of_log2 (log2_of_nb (by omega) hc.2)))
theorem natAbs_of_nb {j:Int}{k:Nat} (h:nb j≤k):j.natAbs<2 ^ k:=PySem.intBits_le_iff.mp h
theorem r_pow:BinR X cl (binaryOp .Pow) oPow:=intR (fun i j=>0≤j∧j≤1000000∧nb i≤64) (fun i j=>i ^ j.toNat)
  (fun p q h=>by
    cases p<;>cases q<;>first
      | exact absurd rfl h
      | exact ⟨_,_,rfl,rfl,(ifOk h).1,(ifOk h).2⟩) fun i j _ _ _ _ _ hc q=>pow_int_small hc.1 hc.2.1 (natAbs_of_nb hc.2.2) q
theorem r_shl:BinR X cl (binaryOp .LShift) oShl:=intR (fun i j=>0≤j∧nb i+j≤134217728) (fun i j=>i*2 ^ j.toNat)
  (fun p q h=>by
    cases p<;>cases q<;>first
      | exact absurd rfl h
      | exact ⟨_,_,rfl,rfl,(ifOk h).1,(ifOk h).2⟩) fun i j _ _ _ _ _ hc q=>lshift_int hc.1 hc.2 q
theorem r_shr:BinR X cl (binaryOp .RShift) oShr:=intR (fun _ j=>0≤j) (fun i j=>i / 2 ^ j.toNat)
  (fun p q h=>by
    cases p<;>cases q<;>first
      | exact absurd rfl h
      | exact ⟨_,_,rfl,rfl,(ifOk h).1,(ifOk h).2⟩) fun i j _ _ _ _ _ hc q=>rshift_int hc (by rw [Int.fdiv_eq_ediv_of_nonneg i (Int.le_of_lt (two_pow_pos' _))];exact q)
theorem r_and:BinR X cl (binaryOp .BitAnd) oAnd:=intR (fun _ _=>True) (fun i j=>Builtin.bitAnd i j)
  (fun p q h=>by cases p<;>cases q<;>first | exact ⟨_,_,rfl,rfl,trivial,rfl⟩ | exact absurd rfl h) fun _ _ _ _ _ _ _ _ q=>and_int q
theorem r_xor:BinR X cl (binaryOp .BitXor) oXor:=intR (fun _ _=>True) (fun i j=>Builtin.bitXor i j)
  (fun p q h=>by cases p<;>cases q<;>first | exact ⟨_,_,rfl,rfl,trivial,rfl⟩ | exact absurd rfl h) fun _ _ _ _ _ _ _ _ q=>xor_int q
theorem r_lt:BinR X cl (compareOp .Lt) cLt:=intB (fun i j=>decide (i<j))
  (fun p q h=>by cases p<;>cases q<;>first | exact ⟨_,_,rfl,rfl,rfl⟩ | exact absurd rfl h) fun _ _ _ _ _ _ _ q=>lt_int q
theorem r_le:BinR X cl (compareOp .LtE) cLe:=intB (fun i j=>decide (i≤j))
  (fun p q h=>by cases p<;>cases q<;>first | exact ⟨_,_,rfl,rfl,rfl⟩ | exact absurd rfl h) fun _ _ _ _ _ _ _ q=>le_int q
theorem r_gt:BinR X cl (compareOp .Gt) cGt:=intB (fun i j=>decide (j<i))
  (fun p q h=>by cases p<;>cases q<;>first | exact ⟨_,_,rfl,rfl,rfl⟩ | exact absurd rfl h) fun _ _ _ _ _ _ _ q=>gt_int q
theorem r_ge:BinR X cl (compareOp .GtE) cGe:=intB (fun i j=>decide (j≤i))
  (fun p q h=>by cases p<;>cases q<;>first | exact ⟨_,_,rfl,rfl,rfl⟩ | exact absurd rfl h) fun _ _ _ _ _ _ _ q=>ge_int q
theorem r_neg:UnaR X cl (unaryOp .USub) oNeg:=by
  intro pins s σ Hf H x v p I sm rv rp hs
  cases p with
  | int i =>
    cases rp
    obtain ⟨t,rfl⟩:=rv
    exact neg_int ⟨_,.int (-i),Hf,H,rfl,I.tok _,⟨_,rfl⟩,Ext.refl sm,.int _⟩
  | _=>exact absurd rfl hs
end
section
variable {X:Cx}{cl:Nat→Addr}{pins:List (Addr×Obj)}{s:Shared}{σ:SV}{Hf0 H0 Hf H Hf1 H1:Hp}{ρ:MEnv}{α:Type}
structure MW (X:Cx) (cl:Nat→Addr) (e:Expr) (f:FT):Prop where
  run':∀ (whole:Sem Value) (pins:List (Addr×Obj)) (s:Shared) (σ:SV) (Hf0 H0 Hf H:Hp) (ρ:MEnv),Inv X pins σ H s→Rep X.K cl Hf0 H0 Hf H σ ρ→f ρ≠.stuck →
    wpAny (model X.prog X.w) X.A (isTrue e X.env whole) (OkT X pins σ Hf H (f ρ)) (ExP X cl pins σ Hf H (f ρ)) s
instance {X:Cx}{cl:Nat→Addr}{e:Expr}{f:FT}:CoeFun (MW X cl e f) fun _=>∀ (whole:Sem Value) (pins:List (Addr×Obj)) (s:Shared) (σ:SV) (Hf0 H0 Hf H:Hp) (ρ:MEnv),Inv X pins σ H s→Rep X.K cl Hf0 H0 Hf H σ ρ→f ρ≠.stuck →
    wpAny (model X.prog X.w) X.A (isTrue e X.env whole) (OkT X pins σ Hf H (f ρ)) (ExP X cl pins σ Hf H (f ρ)) s:=⟨MW.run'⟩
theorem MW.mt {e:Expr}{f:FT} (h:MW X cl e f):MT X cl e f:=⟨h.run' _⟩
theorem MT.run {e:Expr}{f:FT} (h:MT X cl e f) (I:Inv X pins σ H1 s) (r:Rep X.K cl Hf0 H0 Hf1 H1 σ ρ) (e0:Ext Hf H Hf1 H1) {k:Bool→R α} (hs:(f ρ).bind k≠.stuck) {Q:Bool→Shared→Prop}
    (ok:∀ c s' Hf' H',(f ρ).bind k=k c→Inv X pins σ H' s'→Ext Hf1 H1 Hf' H'→Q c s') :
    wpAny (model X.prog X.w) X.A (isTrue e X.env (eval e X.env)) Q (ExP X cl pins σ Hf H ((f ρ).bind k)) s:=by
  have hf:f ρ≠.stuck:=fun z=>hs (by rw [z];rfl)
  refine wpAny_mono (h pins s σ Hf0 H0 Hf1 H1 ρ I r hf) (fun c s' q=>?_) fun u s' q=>?_
  · obtain ⟨Hf',H',e1,I',ex⟩:=q
    exact ok c s' Hf' H' (by rw [e1];rfl) I' ex
  · obtain ⟨c,e1,x⟩:=q
    exact ⟨c,by rw [e1];rfl,x.from e0⟩
theorem OkT.from {e0:Ext Hf H Hf1 H1}{r:R Bool}{b:Bool}{s':Shared} (h:OkT X pins σ Hf1 H1 r b s'):OkT X pins σ Hf H r b s':=by
  obtain ⟨Hf',H',e1,I',ex⟩:=h
  exact ⟨Hf',H',e1,I',e0.trans ex⟩
theorem truth_ok {p:PV}{v:V}{u:Value}{E:Value→Shared→Prop} (I:Inv X pins σ H s) (sm:Same Hf H) (rv:RelV v u) (rp:Rp X.K cl Hf v p) (hs:truthP p≠.stuck) :
    wpAny (model X.prog X.w) X.A (truthy u) (OkT X pins σ Hf H (truthP p)) E s:=by
  cases p with
  | non=>cases rp;cases rv;exact truthy_none ⟨Hf,H,rfl,I,Ext.refl sm⟩
  | bl b=>cases rp;cases rv;exact wpAny_truthy_bool ⟨Hf,H,rfl,I,Ext.refl sm⟩
  | int i=>cases rp;obtain ⟨t,rfl⟩:=rv;exact PySem.P.truthy_int ⟨Hf,H,rfl,I,Ext.refl sm⟩
  | lst l =>
    cases rp with
    | lst h r =>
      cases rv
      obtain ⟨its,w,pl,z⟩:=I.list (sm.seq h)
      have hl:its.length=l.length:=by rw [← w.length,r.length]
      have hz:l.length≤sizeLine:=by rw [← r.length];exact z
      refine wpAny_truthy_list pl.isList (by rw [List.size_toArray,hl];have:sizeLine<2 ^ 63:=by decide
                                             omega) ⟨Hf,H,?_,I.tok _,Ext.refl sm⟩
      show R.ok (!l.isEmpty)=R.ok _
      congr 1
      cases its with
      | nil=>cases l with
        | nil=>rfl
        | cons=>simp at hl
      | cons=>cases l with
        | nil=>simp at hl
        | cons=>simp
  | str z =>
    cases rp;obtain ⟨t,rfl⟩:=rv
    have hs':(if z.length≤sizeLine then R.ok ((z.length:Int) != 0) else R.stuck)≠.stuck:=hs
    have hz:z.length≤sizeLine:=Decidable.byContradiction fun c=>hs' (by rw [if_neg c])
    refine PySem.P.truthy_str (by have:sizeLine<2 ^ 63:=by decide
                                  omega) ⟨Hf,H,?_,I.tok _,Ext.refl sm⟩
    show (if z.length≤sizeLine then R.ok ((z.length:Int) != 0) else R.stuck)=_
    rw [if_pos hz]
  | _=>exact absurd rfl hs
theorem mt_val {e:Expr}{f:FE} (h:ME X cl e f) (he:∀ whole,isTrue e X.env whole=(do let v ← whole;standAt e.pos;holding [v] (truthy v)):=by intro _;rfl):MT X cl e (tVal f):=by
  refine ⟨?_⟩
  intro pins s σ Hf0 H0 Hf H ρ I r hs
  unfold tVal at hs ⊢
  refine isTrue_plain (h.run I r (Ext.refl r.sub) hs fun p v u s1 Hf1 H1 e1 I1 rv x1 rp=>?_) (he _)
  rw [e1] at hs ⊢
  exact thn (truth_ok I1 x1.sub rv rp hs) fun _ _ q=>q.from (e0:=x1)
theorem two_t {a b:Expr}{fa fb:FE}{f:Value→Value→Sem Value}{o:PV→PV→R PV} (ha:ME X cl a fa) (hb:ME X cl b fb) (rule:BinR X cl f o) (I:Inv X pins σ H s) (r:Rep X.K cl Hf0 H0 Hf H σ ρ) (hs:tVal (fBin o fa fb) ρ≠.stuck) :
    wpAny (model X.prog X.w) X.A (eval a X.env) (fun v s₁=>wpAny (model X.prog X.w) X.A (eval b X.env) (fun u s₂=>wpAny (model X.prog X.w) X.A (f v u)
      (fun c s₃=>wpAny (model X.prog X.w) X.A (truthy c) (OkT X pins σ Hf H (tVal (fBin o fa fb) ρ)) (ExP X cl pins σ Hf H (tVal (fBin o fa fb) ρ)) s₃)
      (ExP X cl pins σ Hf H (tVal (fBin o fa fb) ρ)) s₂) (ExP X cl pins σ Hf H (tVal (fBin o fa fb) ρ)) s₁) (ExP X cl pins σ Hf H (tVal (fBin o fa fb) ρ)) s:=by
  unfold tVal at hs ⊢
  have hs':fBin o fa fb ρ≠.stuck:=fun z=>hs (by rw [z];rfl)
  refine wpAny_mono (two ha hb rule I r hs') (fun v s1 h1=>wpAny_mono h1 (fun u s2 h2=>wpAny_mono h2 (fun c s3 h3=>?_) ?_) ?_) ?_
  · obtain ⟨p,v',Hf',H',e1,I',rv,ex,rp⟩:=h3
    rw [e1] at hs ⊢
    exact thn (truth_ok I' ex.sub rv rp hs) fun _ _ q=>q.from (e0:=ex)
  all_goals
    intro u s' q
    obtain ⟨c,e1,x⟩:=q
    exact ⟨c,by rw [e1];rfl,x⟩
theorem mt_cmp {a b:Expr}{fa fb:FE}{op:CmpOp}{o:PV→PV→R PV}{pos:Pos} (rule:BinR X cl (compareOp op) o) (ha:ME X cl a fa) (hb:ME X cl b fb) (hm:behindInMarks op b=false):MT X cl (.Compare a [op] [b] pos) (tVal (fBin o fa fb)):=by
  refine ⟨?_⟩
  intro pins s σ Hf0 H0 Hf H ρ I r hs
  exact wpAny_isTrue_Compare1 (two_t ha hb rule I r hs) hm
theorem mt_not {a:Expr}{f:FT}{pos:Pos} (h:MT X cl a f):MT X cl (.UnaryOp .Not a pos) (tNot f):=by
  refine ⟨?_⟩
  intro pins s σ Hf0 H0 Hf H ρ I r hs
  unfold tNot at hs ⊢
  refine isTrue_not (h.run I r (Ext.refl r.sub) hs fun c s1 Hf1 H1 e1 I1 x1=>?_)
  rw [e1]
  exact ⟨Hf1,H1,rfl,I1,x1⟩
theorem mw_and1 {a:Expr}{f:FT}{pos:Pos} (h:MT X cl a f):MW X cl (.BoolOp .And [a] pos) f:=by
  refine ⟨?_⟩
  intro wh pins s σ Hf0 H0 Hf H ρ I r hs
  refine isTrue_and (thn (h pins s σ Hf0 H0 Hf H ρ I r hs) fun c s1 q=>?_)
  cases c with
  | true=>exact isTrue_and_nil q
  | false=>exact q
theorem mw_or1 {a:Expr}{f:FT}{pos:Pos} (h:MT X cl a f):MW X cl (.BoolOp .Or [a] pos) f:=by
  refine ⟨?_⟩
  intro wh pins s σ Hf0 H0 Hf H ρ I r hs
  refine isTrue_or (thn (h pins s σ Hf0 H0 Hf H ρ I r hs) fun c s1 q=>?_)
  cases c with
  | false=>exact isTrue_or_nil q
  | true=>exact q
theorem mw_and {a b:Expr}{rest:List Expr}{f g:FT}{pos:Pos} (h:MT X cl a f) (hb:MW X cl (.BoolOp .And (b::rest) pos) g):MW X cl (.BoolOp .And (a::b::rest) pos) (tAnd f g):=by
  refine ⟨?_⟩
  intro wh pins s σ Hf0 H0 Hf H ρ I r hs
  unfold tAnd at hs ⊢
  refine isTrue_and (h.run I r (Ext.refl r.sub) hs fun c s1 Hf1 H1 e1 I1 x1=>?_)
  rw [e1] at hs ⊢
  cases c with
  | true=>exact wpAny_mono (hb wh pins s1 σ Hf0 H0 Hf1 H1 ρ I1 (r.keep x1) hs) (fun _ _ q=>q.from (e0:=x1)) fun _ _ q=>q.from (e0:=x1)
  | false=>exact ⟨Hf1,H1,rfl,I1,x1⟩
theorem mw_or {a b:Expr}{rest:List Expr}{f g:FT}{pos:Pos} (h:MT X cl a f) (hb:MW X cl (.BoolOp .Or (b::rest) pos) g):MW X cl (.BoolOp .Or (a::b::rest) pos) (tOr f g):=by
  refine ⟨?_⟩
  intro wh pins s σ Hf0 H0 Hf H ρ I r hs
  unfold tOr at hs ⊢
  refine isTrue_or (h.run I r (Ext.refl r.sub) hs fun c s1 Hf1 H1 e1 I1 x1=>?_)
  rw [e1] at hs ⊢
  cases c with
  | false=>exact wpAny_mono (hb wh pins s1 σ Hf0 H0 Hf1 H1 ρ I1 (r.keep x1) hs) (fun _ _ q=>q.from (e0:=x1)) fun _ _ q=>q.from (e0:=x1)
  | true=>exact ⟨Hf1,H1,rfl,I1,x1⟩
theorem oBool_some {p:PV} (h:oBool p≠.stuck):∃ b,p = .bl b∧oBool p = .ok b:=by
  cases p with
  | bl b=>exact ⟨b,rfl,rfl⟩
  | _=>exact absurd rfl h
theorem me_one {a:Expr}{f:FE}{op:BoolOp}{pos:Pos} (h:ME X cl a f):ME X cl (.BoolOp op [a] pos) f:=⟨fun pins s σ Hf0 H0 Hf H ρ I r hs=>BoolOp_one (h pins s σ Hf0 H0 Hf H ρ I r hs)⟩
theorem me_and {a b:Expr}{rest:List Expr}{f g:FE}{pos:Pos} (h:ME X cl a f) (hb:ME X cl (.BoolOp .And (b::rest) pos) g):ME X cl (.BoolOp .And (a::b::rest) pos) (fAnd f g):=by
  refine ⟨?_⟩
  intro pins s σ Hf0 H0 Hf H ρ I r hs
  unfold fAnd at hs ⊢
  refine BoolOp_and (h.run I r (Ext.refl r.sub) hs fun p v u s1 Hf1 H1 e1 I1 rv x1 rp=>?_)
  rw [e1] at hs ⊢
  obtain ⟨c,rfl,e2⟩:=oBool_some (p:=p) fun z=>hs (by rw [z];rfl)
  rw [e2] at hs ⊢
  cases rp;cases rv
  refine wpAny_truthy_bool ?_
  cases c with
  | true=>exact wpAny_mono (hb pins s1 σ Hf0 H0 Hf1 H1 ρ I1 (r.keep x1) hs) (fun _ _ q=>q.from (e0:=x1)) fun _ _ q=>q.from (e0:=x1)
  | false=>exact ⟨_,.bl false,Hf1,H1,rfl,I1,rfl,x1,.bl false⟩
theorem me_or {a b:Expr}{rest:List Expr}{f g:FE}{pos:Pos} (h:ME X cl a f) (hb:ME X cl (.BoolOp .Or (b::rest) pos) g):ME X cl (.BoolOp .Or (a::b::rest) pos) (fOr f g):=by
  refine ⟨?_⟩
  intro pins s σ Hf0 H0 Hf H ρ I r hs
  unfold fOr at hs ⊢
  refine BoolOp_or (h.run I r (Ext.refl r.sub) hs fun p v u s1 Hf1 H1 e1 I1 rv x1 rp=>?_)
  rw [e1] at hs ⊢
  obtain ⟨c,rfl,e2⟩:=oBool_some (p:=p) fun z=>hs (by rw [z];rfl)
  rw [e2] at hs ⊢
  cases rp;cases rv
  refine wpAny_truthy_bool ?_
  cases c with
  | false=>exact wpAny_mono (hb pins s1 σ Hf0 H0 Hf1 H1 ρ I1 (r.keep x1) hs) (fun _ _ q=>q.from (e0:=x1)) fun _ _ q=>q.from (e0:=x1)
  | true=>exact ⟨_,.bl true,Hf1,H1,rfl,I1,rfl,x1,.bl true⟩
theorem me_not {a:Expr}{f:FE}{pos:Pos} (h:ME X cl a f):ME X cl (.UnaryOp .Not a pos) (fNot f):=by
  refine ⟨?_⟩
  intro pins s σ Hf0 H0 Hf H ρ I r hs
  unfold fNot at hs ⊢
  refine UnaryOp_ (h.run I r (Ext.refl r.sub) hs fun p v u s1 Hf1 H1 e1 I1 rv x1 rp=>?_)
  rw [e1] at hs ⊢
  obtain ⟨c,rfl,e2⟩:=oBool_some (p:=p) fun z=>hs (by rw [z];rfl)
  rw [e2]
  cases rp;cases rv
  exact not_of (wpAny_truthy_bool ⟨_,.bl (!c),Hf1,H1,rfl,I1,rfl,x1,.bl _⟩)
theorem me_if {c a b:Expr}{t:FT}{f g:FE}{pos:Pos} (hc:MT X cl c t) (ha:ME X cl a f) (hb:ME X cl b g):ME X cl (.IfExp c a b pos) (fIf t f g):=by
  refine ⟨?_⟩
  intro pins s σ Hf0 H0 Hf H ρ I r hs
  unfold fIf at hs ⊢
  refine wpAny_IfExp (hc.run I r (Ext.refl r.sub) hs fun d s1 Hf1 H1 e1 I1 x1=>?_)
  rw [e1] at hs ⊢
  cases d with
  | true=>exact wpAny_mono (ha pins s1 σ Hf0 H0 Hf1 H1 ρ I1 (r.keep x1) hs) (fun _ _ q=>q.from (e0:=x1)) fun _ _ q=>q.from (e0:=x1)
  | false=>exact wpAny_mono (hb pins s1 σ Hf0 H0 Hf1 H1 ρ I1 (r.keep x1) hs) (fun _ _ q=>q.from (e0:=x1)) fun _ _ q=>q.from (e0:=x1)
theorem me_chain {a b c:Expr}{fa fb fc:FE}{op op':CmpOp}{o o':PV→PV→R PV}{pos:Pos} (h1:BinR X cl (compareOp op) o) (h2:BinR X cl (compareOp op') o') (ha:ME X cl a fa) (hb:ME X cl b fb) (hc:ME X cl c fc)
    (hm:lastMarks [op,op'] [b,c]=false:=by with_unfolding_all rfl):ME X cl (.Compare a [op,op'] [b,c] pos) (fChain o o' fa fb fc):=by
  refine ⟨?_⟩
  intro pins s σ Hf0 H0 Hf H ρ I r hs
  unfold fChain at hs ⊢
  refine Compare_chain (ha.run I r (Ext.refl r.sub) hs fun p v u s1 Hf1 H1 e1 I1 rv x1 rp=>chain_link ?_) hm
  rw [e1] at hs ⊢
  refine hb.run I1 (r.keep x1) x1 hs fun q v' u' s2 Hf2 H2 e2 I2 rv' x2 rq=>?_
  rw [e2] at hs ⊢
  have x12:=x1.trans x2
  have ho:o p q≠.stuck:=fun z=>hs (by rw [z];rfl)
  refine wpAny_mono (h1 pins s2 σ Hf2 H2 v v' u u' p q I2 x2.sub rv rv' (rp.keep x2.frz) rq ho) (fun d s3 h3=>?_) fun d s3 h3=>?_
  · obtain ⟨z,v3,Hf3,H3,e3,I3,rv3,x3,rp3⟩:=h3
    rw [e3] at hs ⊢
    have hs0:(oBool z).bind (fun k=>if k=true then (fc ρ).bind fun w=>o' q w else R.ok (PV.bl false))≠.stuck:=hs
    obtain ⟨k,rfl,e4⟩:=oBool_some (p:=z) fun y=>hs0 (by rw [y];rfl)
    cases rp3;cases rv3
    refine wpAny_truthy_bool ?_
    have x13:=x12.trans x3
    cases k with
    | false=>exact ite_ff ⟨_,.bl false,Hf3,H3,rfl,I3,rfl,x13,.bl false⟩
    | true =>
      have hs1:(fc ρ).bind (fun w=>o' q w)≠.stuck:=hs
      refine ite_tt (chain_last ?_)
      show wpAny _ _ _ (fun b s₁=>wpAny _ _ _ (OkP X cl pins σ Hf H ((fc ρ).bind fun w=>o' q w)) (ExP X cl pins σ Hf H ((fc ρ).bind fun w=>o' q w)) s₁) (ExP X cl pins σ Hf H ((fc ρ).bind fun w=>o' q w)) s3
      refine hc.run I3 (r.keep x13) x13 hs1 fun w v5 u5 s5 Hf5 H5 e5 I5 rv5 x5 rw'=>?_
      rw [e5] at hs1 ⊢
      exact wpAny_mono (h2 pins s5 σ Hf5 H5 v' v5 u' u5 q w I5 x5.sub rv' rv5 (rq.keep (x3.trans x5).frz) rw' hs1) (fun _ _ q=>q.from (e0:=x13.trans x5)) fun _ _ q=>q.from (e0:=x13.trans x5)
  · obtain ⟨c,e3,y⟩:=h3
    exact ⟨c,by rw [e3];rfl,y.from x12⟩
theorem mt_chain {a b c:Expr}{fa fb fc:FE}{op op':CmpOp}{o o':PV→PV→R PV}{pos:Pos} (h1:BinR X cl (compareOp op) o) (h2:BinR X cl (compareOp op') o') (ha:ME X cl a fa) (hb:ME X cl b fb) (hc:ME X cl c fc)
    (hm:lastMarks [op,op'] [b,c]=false:=by with_unfolding_all rfl):MT X cl (.Compare a [op,op'] [b,c] pos) (tVal (fChain o o' fa fb fc)):=by
  refine ⟨?_⟩
  intro pins s σ Hf0 H0 Hf H ρ I r hs
  have assoc:∀ {β γ δ:Type} (x:R β) (f:β→R γ) (g:γ→R δ),(x.bind f).bind g=x.bind fun y=>(f y).bind g:=fun x f g=>by cases x<;>rfl
  have e0:tVal (fChain o o' fa fb fc) ρ=(fa ρ).bind fun x=>(fb ρ).bind fun y=>(o x y).bind fun r=>(oBool r).bind fun k=>if k then (fc ρ).bind fun z=>(o' y z).bind truthP else .ok false:=by
    unfold tVal fChain
    rw [assoc]
    congr 1;funext x
    rw [assoc]
    congr 1;funext y
    rw [assoc]
    congr 1;funext r
    rw [assoc]
    congr 1;funext k
    cases k with
    | true=>exact assoc _ _ _
    | false=>rfl
  rw [e0] at hs ⊢
  refine isTrue_chain (ha.run I r (Ext.refl r.sub) hs fun p v u s1 Hf1 H1 e1 I1 rv x1 rp=>test_link ?_) hm
  rw [e1] at hs ⊢
  refine hb.run I1 (r.keep x1) x1 hs fun q v' u' s2 Hf2 H2 e2 I2 rv' x2 rq=>?_
  rw [e2] at hs ⊢
  have x12:=x1.trans x2
  have ho:o p q≠.stuck:=fun z=>hs (by rw [z];rfl)
  refine wpAny_mono (h1 pins s2 σ Hf2 H2 v v' u u' p q I2 x2.sub rv rv' (rp.keep x2.frz) rq ho) (fun d s3 h3=>?_) fun d s3 h3=>?_
  · obtain ⟨z,v3,Hf3,H3,e3,I3,rv3,x3,rp3⟩:=h3
    rw [e3] at hs ⊢
    have hs0:(oBool z).bind (fun k=>if k=true then (fc ρ).bind fun w=>(o' q w).bind truthP else R.ok false)≠.stuck:=hs
    obtain ⟨k,rfl,e4⟩:=oBool_some (p:=z) fun y=>hs0 (by rw [y];rfl)
    cases rp3;cases rv3
    refine wpAny_truthy_bool ?_
    have x13:=x12.trans x3
    cases k with
    | false=>exact ite_ff ⟨Hf3,H3,rfl,I3,x13⟩
    | true =>
      have hs1:(fc ρ).bind (fun w=>(o' q w).bind truthP)≠.stuck:=hs
      refine ite_tt (test_last ?_)
      show wpAny _ _ _ (fun b s₁=>wpAny _ _ _ (fun c s₂=>wpAny _ _ _ (OkT X pins σ Hf H ((fc ρ).bind fun w=>(o' q w).bind truthP)) (ExP X cl pins σ Hf H ((fc ρ).bind fun w=>(o' q w).bind truthP)) s₂) (ExP X cl pins σ Hf H ((fc ρ).bind fun w=>(o' q w).bind truthP)) s₁) (ExP X cl pins σ Hf H ((fc ρ).bind fun w=>(o' q w).bind truthP)) s3
      refine hc.run I3 (r.keep x13) x13 hs1 fun w v5 u5 s5 Hf5 H5 e5 I5 rv5 x5 rw'=>?_
      rw [e5] at hs1 ⊢
      have ho2:o' q w≠.stuck:=fun z=>hs1 (by rw [z];rfl)
      refine wpAny_mono (h2 pins s5 σ Hf5 H5 v' v5 u' u5 q w I5 x5.sub rv' rv5 (rq.keep (x3.trans x5).frz) rw' ho2) (fun d6 s6 h6=>?_) fun d6 s6 h6=>?_
      · obtain ⟨z6,v6,Hf6,H6,e6,I6,rv6,x6,rp6⟩:=h6
        rw [e6] at hs1 ⊢
        exact thn (truth_ok I6 x6.sub rv6 rp6 hs1) fun _ _ q=>q.from (e0:=x13.trans (x5.trans x6))
      · obtain ⟨c,e6,y⟩:=h6
        exact ⟨c,by rw [e6];rfl,y.from (x13.trans x5)⟩
  · obtain ⟨c,e3,y⟩:=h3
    exact ⟨c,by rw [e3];rfl,y.from x12⟩
structure MA (X:Cx) (cl:Nat→Addr) (es:List Expr) (f:FA):Prop where
  len:∀ ρ ps,f ρ = .ok ps→ps.length=es.length
  run':∀ (pos:Pos) (pins:List (Addr×Obj)) (s:Shared) (σ:SV) (Hf0 H0 Hf H:Hp) (ρ:MEnv),Inv X pins σ H s→Rep X.K cl Hf0 H0 Hf H σ ρ→f ρ≠.stuck →
    wpAny (model X.prog X.w) X.A (spliced (backTo pos (starEach es X.env))) (OkA X cl pins σ Hf H (f ρ)) (ExP X cl pins σ Hf H (f ρ)) s
theorem ma_nil:MA X cl [] aNil:=⟨fun _ ps h=>by cases h;rfl,fun pos pins s σ Hf0 H0 Hf H ρ I r _=>Calls.spliced_nil ⟨[],[],Hf,H,rfl,I,.nil,Ext.refl r.sub,.nil⟩⟩
theorem ma_cons {e:Expr}{es:List Expr}{f:FE}{g:FA} (h:ME X cl e f) (hr:MA X cl es g) (hst:starEach (e::es) X.env=(false,eval e X.env)::starEach es X.env:=by rfl):MA X cl (e::es) (aCons f g):=by
  refine ⟨fun ρ ps q=>?_,?_⟩
  · unfold aCons at q
    cases e1:f ρ with
    | stuck=>rw [e1] at q;cases q
    | exc c=>rw [e1] at q;cases q
    | ok p =>
      rw [e1] at q
      cases e2:g ρ with
      | stuck=>rw [R.bind_ok,e2] at q;cases q
      | exc c=>rw [R.bind_ok,e2] at q;cases q
      | ok qs =>
        rw [R.bind_ok,e2] at q
        cases q
        have:=hr.1 ρ qs e2
        rw [List.length_cons,List.length_cons,this]
  intro pos pins s σ Hf0 H0 Hf H ρ I r hs
  unfold aCons at hs ⊢
  rw [hst]
  show wpAny _ _ (spliced ((false,eval e X.env)::backTo pos (starEach es X.env))) _ _ s
  refine Calls.spliced_cons (h.run I r (Ext.refl r.sub) hs fun p v u s1 Hf1 H1 e1 I1 rv x1 rp=>?_)
  rw [e1] at hs ⊢
  have hg:g ρ≠.stuck:=fun z=>hs (by rw [z];rfl)
  refine wpAny_mono (hr.2 pos pins s1 σ Hf0 H0 Hf1 H1 ρ I1 (r.keep x1) hg) (fun us s2 h2=>?_) fun u2 s2 h2=>?_
  · obtain ⟨ps,vs,Hf2,H2,e2,I2,rvs,x2,rps⟩:=h2
    exact ⟨p::ps,v::vs,Hf2,H2,by rw [e2];rfl,I2,.cons rv rvs,x1.trans x2,.cons (rp.keep x2.frz) rps⟩
  · obtain ⟨c,e2,y⟩:=h2
    exact ⟨c,by rw [e2];rfl,y.from x1⟩
theorem MA.run {es:List Expr}{f:FA} (h:MA X cl es f) (pos:Pos) (I:Inv X pins σ H1 s) (r:Rep X.K cl Hf0 H0 Hf1 H1 σ ρ) (e0:Ext Hf H Hf1 H1) {k:List PV→R α} (hs:(f ρ).bind k≠.stuck) {Q:List Value→Shared→Prop}
    (ok:∀ ps vs us s' Hf' H',ps.length=es.length→(f ρ).bind k=k ps→Inv X pins σ H' s'→Vals vs us→Ext Hf1 H1 Hf' H'→Rps X.K cl Hf' vs ps→Q us s') :
    wpAny (model X.prog X.w) X.A (spliced (backTo pos (starEach es X.env))) Q (ExP X cl pins σ Hf H ((f ρ).bind k)) s:=by
  have hf:f ρ≠.stuck:=fun z=>hs (by rw [z];rfl)
  refine wpAny_mono (h.2 pos pins s σ Hf0 H0 Hf1 H1 ρ I r hf) (fun u s' q=>?_) fun u s' q=>?_
  · obtain ⟨ps,vs,Hf',H',e1,I',rv,ex,rp⟩:=q
    exact ok ps vs u s' Hf' H' (h.1 ρ ps e1) (by rw [e1];rfl) I' rv ex rp
  · obtain ⟨c,e1,x⟩:=q
    exact ⟨c,by rw [e1];rfl,x.from e0⟩
theorem laid_seq {o:HO}{p:PV} (hn:H s.heap.objs.size=none) (sm:Same Hf H) {h':Heap}{tk:Nat} (I:Inv X pins σ (upd H s.heap.objs.size o) { s with heap:=h',toks:=tk })
    (rp:Rp X.K cl (upd Hf s.heap.objs.size o) (.ref s.heap.objs.size) p):OkP X cl pins σ Hf H (.ok p) (.ref s.heap.objs.size) { s with heap:=h',toks:=tk } :=
  ⟨p,.ref s.heap.objs.size,_,_,rfl,I,rfl,Ext.new sm hn o,rp⟩
theorem me_tup {es:List Expr}{f:FA}{k:Nat}{pos:Pos} (h:MA X cl es f):ME X cl (.Tuple es k pos) (fTup f):=by
  refine ⟨?_⟩
  intro pins s σ Hf0 H0 Hf H ρ I r hs
  unfold fTup at hs ⊢
  refine wpAny_Tuple_spliced (h.run pos I r (Ext.refl r.sub) hs fun ps vs us s1 Hf1 H1 _ e1 I1 rv x1 rps=>?_)
  rw [e1] at hs ⊢
  obtain ⟨hz,e2⟩:=ifOk hs
  rw [e2]
  have z:vs.length≤sizeLine:=by rw [rps.length];exact hz
  refine ⟨by rw [← rv.length];exact z,?_⟩
  have hf:H1 s1.heap.objs.size=none:=I1.hok.fresh (Nat.le_refl _)
  refine OkP.from (e0:=x1) (laid_seq (tk:=s1.toks) hf x1.sub (I1.laid (t':=s1.toks) (o:=.tup vs) (fun b u e=>Heap.get?_push_of_some _ e) (Nat.le_refl _) ?_) (.tup (SqT.of upd_same) (rps.keep (same_upd (x1.sub.free hf) _))))
  exact ⟨z,us,rv,⟨_,Heap.get?_push_size _ rfl,rfl,_,rfl⟩⟩
theorem me_lst {es:List Expr}{f:FA}{pos:Pos} (h:MA X cl es f):ME X cl (.List es pos) (fLst f):=by
  refine ⟨?_⟩
  intro pins s σ Hf0 H0 Hf H ρ I r hs
  unfold fLst at hs ⊢
  refine wpAny_List_spliced (h.run pos I r (Ext.refl r.sub) hs fun ps vs us s1 Hf1 H1 _ e1 I1 rv x1 rps=>?_)
  rw [e1] at hs ⊢
  obtain ⟨hz,e2⟩:=ifOk hs
  rw [e2]
  have z:vs.length≤sizeLine:=by rw [rps.length];exact hz
  refine ⟨by rw [← rv.length];exact z,?_⟩
  have hf:H1 s1.heap.objs.size=none:=I1.hok.fresh (Nat.le_refl _)
  refine OkP.from (e0:=x1) (laid_seq (tk:=s1.toks) hf x1.sub (I1.laid (t':=s1.toks) (o:=.lst vs) (fun b u e=>Heap.get?_push_of_some _ e) (Nat.le_refl _) ?_) (.lst (SqL.of upd_same) (rps.keep (same_upd (x1.sub.free hf) _))))
  exact ⟨z,us,0,rv,Heap.get?_push_size _ rfl⟩
def CXm (cl:Nat→Addr) (P:Program) (w:World):CXT:=fun outer H s E e s' =>
  ∃ (a:Addr) (c:Nat) (H':Hp) (B:Heap) (a0:Value),e = .ref a∧s'.os=s.os∧AllBare s'.gens∧Un (frs outer) [] H H' s.heap s'.heap∧HOk P w H' s'.heap∧Heap.FlyingW B outer a (.ref (cl c)) a0 s'.heap ∧
    (∀ b o,s'.heap.get? b=some o→(H' b≠none∨∃ o₀,s.heap.get? b=some o₀)→b ∉ frs outer→B.get? b=some o)∧NoD a s'.heap∧E (.ref (cl c)) none H'
def spF (K:PySem.W.Frag) (cl:Nat→Addr) (n:Nat) (F:List PV→R PV):Sp:=fun vs H Q E=>vs.length=n∧∃ Hf ps,Same Hf H∧Rps K cl Hf vs ps∧F ps≠.stuck ∧
  (∀ p v Hf' H',F ps = .ok p→Ext Hf H Hf' H'→Rp K cl Hf' v p→Q v H')∧∀ c Hf' H',F ps = .exc c→Ext Hf H Hf' H'→E (.ref (cl c)) none H'
structure Fn (X:Cx) (cl:Nat→Addr) (k:Nat) (x:Str) (n:Nat) (F:List PV→R PV):Prop where
  ex:∃ (f:Addr) (fd:FuncData) (ps:List Str),X.mg x=some (.ref f)∧PySem.W.keepIn X.K (.ref f)=true∧ps.length=n∧FnOk X.prog X.w X.K X.mg X.base (CXm cl X.prog X.w) k f fd ps (spF X.K cl n F)∧Binds X.K fd ps []
theorem xat_of {e:Value}{s':Shared}{ps:List PV}{F:List PV→R PV} (I:Inv X pins σ H s) (sm:Same Hf H) (hst:X.stack=X.env::X.outer)
    (h:CXm cl X.prog X.w X.stack H s (fun u o H'=>∃ c Hf',F ps = .exc c∧Ext Hf H Hf' H'∧u = .ref (cl c)) e s') (inj:∀ c d,cl c=cl d→c=d) (hex:∀ b,b ∉ X.ex):ExP X cl pins σ Hf H (F ps) e s':=by
  obtain ⟨a,c,H',B,a0,rfl,ho,hg,un,hok,fl,cov,nd,c',Hf',e1,ex,e2⟩:=h
  have ec:c'=c:=inj _ _ (by injection e2 with e2;exact e2.symm)
  subst ec
  refine ⟨c',e1,a,Hf',H',rfl,I.call' ho un hok hg (fun b z=>absurd z (by simp)),ex,B,a0,?_,nd,.inr (.inr fl)⟩
  intro b o hb hc hn
  refine cov b o hb ?_ hn
  rcases hc with hc | ⟨p,hp,e⟩ | ⟨o₀,hc⟩ | ⟨x,hc⟩
  · exact .inl hc
  · right
    rw [← e]
    exact ⟨_,(I.pin p hp).1⟩
  · right
    by_cases hx:b∈X.ex
    · exact absurd hx (hex b)
    · exact I.base.there b o₀ hc hx
  · right
    obtain ⟨v,o',q,_⟩:=I.cell x b hc
    exact ⟨o',q⟩
theorem me_call {e:Expr}{es:List Expr}{g:FA}{x:Str}{p pos:Pos}{k n:Nat}{F:List PV→R PV} (hF:Fn X cl k x n F) (hr:Room k X.A) (hg:Gl X x) (hst:X.stack=X.env::X.outer) (inj:∀ c d,cl c=cl d→c=d) (hex:∀ b,b ∉ X.ex)
    (ha:MA X cl (e::es) g) (hl:(e::es).length=n) (hdb:(x == ("__debug__" : Str))=false:=by decide) (he:starEach (e::es) X.env=(false,eval e X.env)::starEach es X.env:=by rfl) (hpl:(backTo pos (starEach es X.env)).any (·.1)=false:=by rfl) :
    ME X cl (.Call (.Name x p) (e::es) [] pos) (fCall F g):=by
  obtain ⟨f,fd,ps,hm,hk,hn,hf,hb⟩:=hF.ex
  refine ⟨?_⟩
  intro pins s σ Hf0 H0 Hf H ρ I r hs
  unfold fCall at hs ⊢
  refine wpAny_Call_Name_kw (ld_glob I hg hm ?_ hdb)
  refine PySem.W.callWith_K (h₀:=X.base) I.ok.mod.kin hk (ha.run pos I r (Ext.refl r.sub) hs fun qs vs us s1 Hf1 H1 hq e1 I1 rv x1 rps=>⟨I1.kIn,?_⟩) he hpl
  rw [e1] at hs ⊢
  have hv:vs.length=n:=by rw [rps.length,hq,hl]
  have hsp:spF X.K cl n F vs H1 (fun v H'=>∃ p Hf',F qs = .ok p∧Ext Hf1 H1 Hf' H'∧Rp X.K cl Hf' v p) (fun u o H'=>∃ c Hf',F qs = .exc c∧Ext Hf1 H1 Hf' H'∧u = .ref (cl c)) :=
    ⟨hv,Hf1,qs,x1.sub,rps,hs,fun p v Hf' H' a b c=>⟨p,Hf',a,b,c⟩,fun c Hf' H' a b=>⟨c,Hf',a,b,rfl⟩⟩
  have hlu:(us ++ []).length=ps.length:=by rw [List.append_nil,← rv.length,hv,hn]
  have hbb:=hb s1 us I1.kIn hlu
  rw [List.append_nil] at hbb
  refine wpAny_call (codeAny_mono (hf.run X.A X.stack s1 H1 ⟨us,[]⟩ us vs _ _ hr I1.env0 hbb rv hsp) fun r s' hq'=>?_)
  cases r with
  | error e=>exact ExP.from (e0:=x1) (xat_of I1 x1.sub hst hq' inj hex)
  | ok fl =>
    cases fl with
    | ret u =>
      obtain ⟨v,H',I',rv',p,Hf',e2,ex,rp⟩:=I1.after hq'
      exact ⟨p,v,Hf',H',e2,I',rv',x1.trans ex,rp⟩
    | next=>exact False.elim hq'
    | brk=>exact False.elim hq'
    | cont=>exact False.elim hq'
def CalR (X:Cx) (cl:Nat→Addr) (f:Value) (F:List PV→R PV):Prop :=
  ∀ (pins:List (Addr×Obj)) (s:Shared) (σ:SV) (Hf H:Hp) (xs:List V) (us:List Value) (ps:List PV),Inv X pins σ H s→Same Hf H→Vals xs us→Rps X.K cl Hf xs ps→F ps≠.stuck →
    wpAny (model X.prog X.w) X.A (call f us) (OkP X cl pins σ Hf H (F ps)) (ExP X cl pins σ Hf H (F ps)) s
theorem me_callB {x:Str}{id:String}{e:Expr}{es:List Expr}{g:FA}{p pos:Pos}{F:List PV→R PV} (hc:CalR X cl (.builtin id) F) (hg:Gl X x) (hm:X.mg x=none) (hv:bootBuiltins x=some (.builtin id)) (ha:MA X cl (e::es) g)
    (hn:x≠"__name__":=by decide) (hdb:(x == ("__debug__" : Str))=false:=by decide) (he:starEach (e::es) X.env=(false,eval e X.env)::starEach es X.env:=by rfl) (hpl:(backTo pos (starEach es X.env)).any (·.1)=false:=by rfl) :
    ME X cl (.Call (.Name x p) (e::es) [] pos) (fCall F g):=by
  refine ⟨?_⟩
  intro pins s σ Hf0 H0 Hf H ρ I r hs
  unfold fCall at hs ⊢
  refine wpAny_Call_Name_kw (ld_blt I hg hm hv ?_ hn hdb)
  refine PyProof.Rows.callWith_builtin1 (ha.run pos I r (Ext.refl r.sub) hs fun qs vs us s1 Hf1 H1 _ e1 I1 rv x1 rps=>?_) he hpl
  rw [e1] at hs ⊢
  exact wpAny_mono (hc pins s1 σ Hf1 H1 vs us qs I1 x1.sub rv rps hs) (fun _ _ q=>q.from (e0:=x1)) fun _ _ q=>q.from (e0:=x1)
theorem okp' {t:Sem Value}{p:PV}{E:Value→Shared→Prop}{rr:R PV} (hr:rr = .ok p)
    (h:∀ E,wpAny (model X.prog X.w) X.A t (EP (X.wish E) pins σ fun v H'=>∃ Hf',Ext Hf H Hf' H'∧Rp X.K cl Hf' v p) E s):wpAny (model X.prog X.w) X.A t (OkP X cl pins σ Hf H rr) E s:=by
  rw [hr];exact okp (h E)
theorem rps1' {p:PV}{vs:List V}{K:PySem.W.Frag} (h:Rps K cl Hf vs [p]):∃ v,vs=[v]∧Rp K cl Hf v p:=by
  cases h with
  | cons r t=>cases t;exact ⟨_,rfl,r⟩
theorem rps2' {p q:PV}{vs:List V}{K:PySem.W.Frag} (h:Rps K cl Hf vs [p,q]):∃ v w,vs=[v,w]∧Rp K cl Hf v p∧Rp K cl Hf w q:=by
  cases h with
  | cons r t =>
    cases t with
    | cons r' t'=>cases t';exact ⟨_,_,rfl,r,r'⟩
theorem c_len:CalR X cl (.builtin "len") bLen:=by
  intro pins s σ Hf H xs us ps I sm rv rps hs
  match ps,rps,hs with
  | [.tup l],rps,hs =>
    obtain ⟨v,rfl,rp⟩:=rps1' rps
    cases rp with
    | tup h r =>
      refine okp' (p:=.int l.length) rfl fun E=>(call_len_seq (X:=X.wish E)) pins s σ H _ us _ (I.wish E) rv ?_
      exact ⟨_,_,rfl,.inr (Same.seqT sm h),Hf,Ext.refl sm,by rw [r.length];exact .int _⟩
  | [.lst l],rps,hs =>
    obtain ⟨v,rfl,rp⟩:=rps1' rps
    cases rp with
    | lst h r =>
      refine okp' (p:=.int l.length) rfl fun E=>(call_len_seq (X:=X.wish E)) pins s σ H _ us _ (I.wish E) rv ?_
      exact ⟨_,_,rfl,.inl (sm.seq h),Hf,Ext.refl sm,by rw [r.length];exact .int _⟩
  | [.str z],rps,hs =>
    obtain ⟨v,rfl,rp⟩:=rps1' rps
    cases rp
    obtain ⟨hz,e⟩:=ifOk hs
    refine okp' (p:=.int z.length) e fun E=>(call_len_str (X:=X.wish E)) pins s σ H _ us _ (I.wish E) rv ?_
    exact ⟨_,rfl,hz,Hf,Ext.refl sm,.int _⟩
  | [],_,hs=>exact absurd rfl hs
  | [.non],_,hs=>exact absurd rfl hs
  | [.bl _],_,hs=>exact absurd rfl hs
  | [.int _],_,hs=>exact absurd rfl hs
  | [.exc _],_,hs=>exact absurd rfl hs
  | [.dic0],_,hs=>exact absurd rfl hs
  | [.own _],_,hs=>exact absurd rfl hs
  | _::_::_,_,hs=>exact absurd (by unfold bLen;split<;>first | rfl | (rename_i h;cases h)) hs
theorem c_abs:CalR X cl (.builtin "abs") bAbs:=by
  intro pins s σ Hf H xs us ps I sm rv rps hs
  have:∃ i,ps=[.int i]:=by
    unfold bAbs at hs
    split at hs
    · exact ⟨_,rfl⟩
    · exact absurd rfl hs
  obtain ⟨i,rfl⟩:=this
  obtain ⟨v,rfl,rp⟩:=rps1' rps
  cases rp
  refine okp' rfl fun E=>(call_abs (X:=X.wish E)) pins s σ H _ us _ (I.wish E) rv ?_
  exact ⟨i,rfl,Hf,Ext.refl sm,.int _⟩
theorem c_min (hc:X.calm=true):CalR X cl (.builtin "min") bMin:=by
  intro pins s σ Hf H xs us ps I sm rv rps hs
  have:∃ i j,ps=[.int i,.int j]:=by
    unfold bMin at hs
    split at hs
    · exact ⟨_,_,rfl⟩
    · exact absurd rfl hs
  obtain ⟨i,j,rfl⟩:=this
  obtain ⟨v,w,rfl,rp,rq⟩:=rps2' rps
  cases rp;cases rq
  refine okp' rfl fun E=>(call_min2 (X:=X.wish E) hc) pins s σ H _ us _ (I.wish E) rv ?_
  exact ⟨i,j,rfl,Hf,Ext.refl sm,.int _⟩
theorem c_max (hc:X.calm=true):CalR X cl (.builtin "max") bMax:=by
  intro pins s σ Hf H xs us ps I sm rv rps hs
  have:∃ i j,ps=[.int i,.int j]:=by
    unfold bMax at hs
    split at hs
    · exact ⟨_,_,rfl⟩
    · exact absurd rfl hs
  obtain ⟨i,j,rfl⟩:=this
  obtain ⟨v,w,rfl,rp,rq⟩:=rps2' rps
  cases rp;cases rq
  refine okp' rfl fun E=>(call_max2 (X:=X.wish E) hc) pins s σ H _ us _ (I.wish E) rv ?_
  exact ⟨i,j,rfl,Hf,Ext.refl sm,.int _⟩
theorem r_add:BinR X cl (binaryOp .Add) oAdd:=by
  intro pins s σ Hf H x y v u p q I sm rv ru rp rq hs
  cases p<;>cases q<;>first
    | exact absurd rfl hs
    | skip
  · rename_i i j
    cases rp;cases rq
    obtain ⟨t,rfl⟩:=rv
    obtain ⟨t',rfl⟩:=ru
    exact add_int ⟨_,.int (i+j),Hf,H,rfl,I.tok _,⟨_,rfl⟩,Ext.refl sm,.int _⟩
  · rename_i i j
    obtain ⟨hz,e⟩:=ifOk hs
    cases rp;cases rq
    refine okp' e fun E=>(op_add_str (X:=X.wish E)) pins s σ H _ _ v u _ (I.wish E) rv ru ?_
    exact ⟨i,j,rfl,rfl,hz,Hf,Ext.refl sm,.str _⟩
  · rename_i i j
    obtain ⟨⟨⟨hz1,hz2⟩,hz⟩,e⟩:=ifOk hs
    cases rp with
    | tup h1 r1 =>
      cases rq with
      | tup h2 r2 =>
        cases rv;cases ru
        obtain ⟨its,w1,p1,z1⟩:=I.tuple (Same.seqT sm h1)
        obtain ⟨its2,w2,p2,z2⟩:=I.tuple (Same.seqT sm h2)
        have l1:=w1.length
        have l2:=w2.length
        have l3:=r1.length
        have l4:=r2.length
        rw [show oAdd (.tup i) (.tup j)=_ from e]
        refine HT.cat_tup p1 p2 (fun q=>by rw [q] at l1;simp only [List.length_nil] at l1;omega) (fun q=>by rw [q] at l2;simp only [List.length_nil] at l2;omega) (fun _=>?_) (by omega)
        exact laid_seq (tk:=s.toks) I.fresh sm (I.laid (t':=s.toks) (o:=.tup _) (fun b u e=>Heap.get?_push_of_some _ e) (Nat.le_refl _) ⟨by rw [List.length_append];omega,its ++ its2,w1.append w2,⟨_,Heap.get?_push_size _ rfl,rfl,0,rfl⟩⟩) (.tup (SqT.of upd_same) ((r1.append r2).keep (same_upd (sm.free I.fresh) _)))
  · rename_i i j
    obtain ⟨hz,e⟩:=ifOk hs
    cases rp with
    | lst h1 r1 =>
      cases rq with
      | lst h2 r2 =>
        cases rv;cases ru
        obtain ⟨its,w1,p1,z1⟩:=I.list (sm.seq h1)
        obtain ⟨its2,w2,p2,z2⟩:=I.list (sm.seq h2)
        have l1:=w1.length
        have l2:=w2.length
        have l3:=r1.length
        have l4:=r2.length
        have e0:its.toArray ++ its2.toArray=(its ++ its2).toArray:=by simp
        obtain ⟨⟨cls,dd,data,sl⟩,ho,hc,n,hd⟩:=id p1.isList
        obtain ⟨⟨cls2,dd2,data2,sl2⟩,ho2,hc2,n2,hd2⟩:=id p2.isList
        simp only at hc hd hc2 hd2
        subst hc hd hc2 hd2
        rw [show oAdd (.lst i) (.lst j)=_ from e]
        refine concat_meets ⟨_,ho,rfl⟩ ⟨_,ho2,rfl⟩ noFill_list_add seq_list_add PySem.F.slot_list_add PySem.F.entry_list_add (PySem.F.args_list_add_2 _ _) (list_addW _ _ its.toArray its2.toArray n n2 dd dd2 sl sl2 (by simp only [List.size_toArray];omega)) ⟨ho,ho2,?_⟩
        rw [e0]
        exact laid_seq (tk:=s.toks) I.fresh sm (I.lnew (t':=s.toks) (w1.append w2) (by rw [List.length_append];omega)) (.lst (SqL.of upd_same) ((r1.append r2).keep (same_upd (sm.free I.fresh) _)))
theorem zc8 {a:Expr}{fa:FE}{j:Nat}{pos pos':Pos} (ha:ME X cl a fa):MT X cl (.Compare a [.Is] [.Constant .none j pos'] pos) (tVal (fUn cIsN fa)):=by
  refine ⟨?_⟩
  intro pins s σ Hf0 H0 Hf H ρ I r hs
  have assoc:∀ {β γ δ:Type} (x:R β) (f:β→R γ) (g:γ→R δ),(x.bind f).bind g=x.bind fun y=>(f y).bind g:=fun x f g=>by cases x<;>rfl
  unfold tVal fUn at hs ⊢
  rw [assoc] at hs ⊢
  refine wpAny_isTrue_Compare1 (ha.run I r (Ext.refl r.sub) hs fun p v u s1 Hf1 H1 e1 I1 rv x1 rp=>?_) (nobehind _ (by decide) (by decide))
  rw [e1]
  refine Constant_none (is_none_gen (wpAny_truthy_bool ⟨Hf1,H1,?_,I1,x1⟩))
  rw [rv.none_iff]
  cases rp<;>rfl
theorem z8z {a:Expr}{fa:FE}{j:Nat}{pos pos':Pos} (ha:ME X cl a fa):MT X cl (.Compare a [.IsNot] [.Constant .none j pos'] pos) (tVal (fUn cNotN fa)):=by
  refine ⟨?_⟩
  intro pins s σ Hf0 H0 Hf H ρ I r hs
  have assoc:∀ {β γ δ:Type} (x:R β) (f:β→R γ) (g:γ→R δ),(x.bind f).bind g=x.bind fun y=>(f y).bind g:=fun x f g=>by cases x<;>rfl
  unfold tVal fUn at hs ⊢
  rw [assoc] at hs ⊢
  refine wpAny_isTrue_Compare1 (ha.run I r (Ext.refl r.sub) hs fun p v u s1 Hf1 H1 e1 I1 rv x1 rp=>?_) (nobehind _ (by decide) (by decide))
  rw [e1]
  refine Constant_none (isnot_none_gen (wpAny_truthy_bool ⟨Hf1,H1,?_,I1,x1⟩))
  rw [rv.none_iff]
  cases rp<;>rfl
theorem flat_of {K:PySem.W.Frag}{v:V}{p:PV} (h:Rp K cl Hf v p) (f:flatP p=true):flatV v=true:=by
  cases h<;>first | rfl | (simp [flatP] at f)
theorem eqV_of {K:PySem.W.Frag}{v w:V}{p q:PV} (h:Rp K cl Hf v p) (h':Rp K cl Hf w q) (f:flatP p=true) (g:flatP q=true):eqV v w=eqPV p q:=by
  cases h<;>cases h'<;>first | rfl | (simp [flatP] at f;done) | (simp [flatP] at g;done)
theorem any_of {K:PySem.W.Frag}{w:V}{q:PV} (h':Rp K cl Hf w q) (g:flatP q=true):∀ {vs:List V}{ps:List PV},Rps K cl Hf vs ps→ps.all flatP=true→vs.all flatV=true∧(vs.any fun y=>eqV y w)=ps.any fun z=>eqPV z q
  | _,_,.nil,_=>⟨rfl,rfl⟩
  | _,_,.cons r t,f=>by
    rw [List.all_cons,Bool.and_eq_true] at f
    obtain ⟨a,b⟩:=any_of h' g t f.2
    exact ⟨by rw [List.all_cons,flat_of r f.1,a];rfl,by rw [List.any_cons,List.any_cons,eqV_of r h' f.1 g,b]⟩
theorem str_no_dict (b:Str) (u:Tok) (l:Addr) (o:Obj) {es:Array DictEntry}{ep:Nat} (hc:o.cls = .type "dict") (hd:o.data = .dict es ep):Meets (Builtin.«str.__eq__» ⟨[.str b u,.ref l],[]⟩) (fun _ R s=>s.heap.get? l=some o∧R (.ok (.ret .notImplemented)) s):=by
  refine .of_wp fun prog w A R s h=>?_
  obtain ⟨hp,g,d,tk,os⟩:=s
  obtain ⟨hl,h⟩:=h
  obtain ⟨c,dd,dt,sl⟩:=o
  cases hc
  cases hd
  have f1:=F.sub_dict_str
  wp_walk using wpAny_loadPart' hl,wpAny_load hl
  exact ⟨_,rfl,h⟩
theorem dict_no_str (b:Str) (u:Tok) (l:Addr) (o:Obj) (hc:o.cls = .type "dict"):Meets (Builtin.«dict.__eq__» ⟨[.ref l,.str b u],[]⟩) (fun _ R s=>s.heap.get? l=some o∧R (.ok (.ret .notImplemented)) s):=by
  refine .of_wp fun prog w A R s h=>?_
  obtain ⟨hp,g,d,tk,os⟩:=s
  obtain ⟨hl,h⟩:=h
  obtain ⟨c,dd,dt,sl⟩:=o
  cases hc
  have f1:=F.sub_str_dict
  wp_walk using wpAny_loadPart' hl,wpAny_load hl
  exact ⟨_,rfl,h⟩
theorem str_dict_at {A:Around}{b:Str}{u:Tok}{l:Addr}{o:Obj}{es:Array DictEntry}{ep:Nat} (hl:s.heap.get? l=some o) (hc:o.cls = .type "dict") (hd:o.data = .dict es ep) (hu:A.units<cLine):SeqAt.RcAt A s (.str b u) (.ref l) false:=fun prog w E Q h=>by
  have ty:s.TypeIs (.ref l) "dict":=⟨o,hl,hc⟩
  refine SeqAt.rc_eq_decline_or (k:=false) (typeIs_str s b u) ty (by decide) F.sub_dict_str F.slot_str_eq F.slot_dict_eq_refl (fun _ q=>?_) (fun _ q=>?_) (fun _ q=>?_) (.inr hu) h
  · exact call_meets F.slot_str_eq (typeIs_str s b u) F.entry_str_eq (F.args_str_eq_2 _ _) (str_no_dict b u l o hc hd) ⟨hl,q⟩
  · exact call_meets F.slot_dict_eq_refl ty F.entry_dict_eq (F.args_dict_eq_2 _ _) (dict_no_str b u l o hc) ⟨hl,q⟩
  · exact wpAny_of_eq (rfl:isSame (.str b u) (.ref l)=pure false) q
theorem dict_str_at {A:Around}{b:Str}{u:Tok}{l:Addr}{o:Obj}{es:Array DictEntry}{ep:Nat} (hl:s.heap.get? l=some o) (hc:o.cls = .type "dict") (hd:o.data = .dict es ep) (hu:A.units<cLine):SeqAt.RcAt A s (.ref l) (.str b u) false:=fun prog w E Q h=>by
  have ty:s.TypeIs (.ref l) "dict":=⟨o,hl,hc⟩
  refine SeqAt.rc_eq_decline_or (k:=false) ty (typeIs_str s b u) (by decide) F.sub_str_dict F.slot_dict_eq F.slot_str_eq_refl (fun _ q=>?_) (fun _ q=>?_) (fun _ q=>?_) (.inr hu) h
  · exact call_meets F.slot_dict_eq ty F.entry_dict_eq (F.args_dict_eq_2 _ _) (dict_no_str b u l o hc) ⟨hl,q⟩
  · exact call_meets F.slot_str_eq_refl (typeIs_str s b u) F.entry_str_eq (F.args_str_eq_2 _ _) (str_no_dict b u l o hc hd) ⟨hl,q⟩
  · exact wpAny_of_eq (rfl:isSame (.ref l) (.str b u)=pure false) q
theorem dic_at {l:Addr} (I:Inv X pins σ H s) (sm:Same Hf H) (h:Hf l=some (.dK [])):∃ o es ep,s.heap.get? l=some o∧o.cls = .type "dict"∧o.data = .dict es ep:=by
  obtain ⟨_,_,vs,_,p⟩:=(show ObjOk X.prog X.w H s.heap l (.dK []) from I.hok l _ (sm _ _ h))
  obtain ⟨o,es,ep,h1,h2,h3,_⟩:=p
  exact ⟨o,es,ep,h1,h2.1,h3⟩
theorem str_heap {A:Around}{b:Str}{t:Tok}{x:V}{v:Value}{p:PV} (I:Inv X pins σ H s) (sm:Same Hf H) (rv:RelV x v) (rp:Rp X.K cl Hf x p) (hp:heapP p=true) (hu:A.units<cLine):SeqAt.EqAt A s (.str b t) v false:=by
  cases p<;>first
    | (simp [heapP] at hp;done)
    | skip
  · cases rp with
    | tup h r=>cases rv;obtain ⟨its,w,pl,z⟩:=I.tuple (Same.seqT sm h);exact SeqAt.EqAt.str_tuple _ _ pl hu
  · cases rp with
    | lst h r=>cases rv;obtain ⟨its,w,pl,z⟩:=I.list (sm.seq h);exact SeqAt.EqAt.str_list _ _ pl.isList hu
  · cases rp with
    | dic0 h =>
      cases rv
      obtain ⟨o,es,ep,h1,h2,h3⟩:=dic_at I sm h
      intro prog w E Q hq
      unfold eqBool
      refine wpAny_holding (wpAny_ite_split (fun hab=>absurd (eq_of_beq hab) nofun) fun _=>?_)
      exact wpAny_bind (str_dict_at h1 h2 h3 hu prog w E _ (wpAny_truthy_bool hq))
theorem strs_of:∀ {l:List PV}{vs:List V}{us:List Value},Rps X.K cl Hf vs l→Vals vs us→l.all strP=true→∀ y∈us,∃ b t,y=Value.str b t
  | [],_,_,r,w,_,y,hy=>by cases r;cases w;cases hy
  | p::l,_,_,r,w,h,y,hy=>by
    cases r with
    | cons r1 r2 =>
      cases w with
      | cons w1 w2 =>
        rw [List.all_cons,Bool.and_eq_true] at h
        rcases List.mem_cons.mp hy with rfl | hy
        · cases p<;>first | (simp [strP] at h;done) | skip
          cases r1
          obtain ⟨t,rfl⟩:=w1
          exact ⟨_,_,rfl⟩
        · exact strs_of r2 w2 h.2 y hy
theorem r_in:BinR X cl (compareOp .In) cIn:=by
  intro pins s σ Hf H x y v u p q I sm rv ru rp rq hs
  cases q<;>first
    | exact absurd rfl hs
    | skip
  · rename_i z
    cases p<;>first
      | exact absurd rfl hs
      | skip
    cases rp;cases rq
    refine okp' rfl fun E=>(op_in_str (X:=X.wish E)) pins s σ H _ _ v u _ (I.wish E) rv ru ?_
    exact ⟨_,_,rfl,rfl,Hf,Ext.refl sm,.bl _⟩
  · rename_i l
    obtain ⟨hc,e⟩:=ifOk hs
    rw [Bool.and_eq_true] at hc
    cases rq with
    | tup h r =>
      obtain ⟨f1,f2⟩:=any_of rp hc.1 r hc.2
      refine okp' e fun E=>(op_in_seq (X:=X.wish E)) pins s σ H _ _ v u _ (I.wish E) rv ru ?_
      exact ⟨_,_,rfl,.inr (Same.seqT sm h),flat_of rp hc.1,f1,Hf,Ext.refl sm,by show Rp _ _ _ (.bl (inV x _)) _;unfold inV;rw [f2];exact .bl _⟩
  · rename_i l
    obtain ⟨hc,e⟩:=ifOk hs
    rw [Bool.and_eq_true] at hc
    cases rq with
    | lst h r =>
      obtain ⟨f1,f2⟩:=any_of rp hc.1 r hc.2
      refine okp' e fun E=>(op_in_seq (X:=X.wish E)) pins s σ H _ _ v u _ (I.wish E) rv ru ?_
      exact ⟨_,_,rfl,.inl (sm.seq h),flat_of rp hc.1,f1,Hf,Ext.refl sm,by show Rp _ _ _ (.bl (inV x _)) _;unfold inV;rw [f2];exact .bl _⟩
theorem r_notIn (hu:X.A.units+64<cLine):BinR X cl (compareOp .NotIn) cNotIn:=by
  intro pins s σ Hf H x y v u p q I sm rv ru rp rq hs
  cases q<;>first
    | exact absurd rfl hs
    | skip
  · rename_i z
    cases p<;>first
      | exact absurd rfl hs
      | skip
    cases rp;cases rq
    refine okp' rfl fun E=>(op_notIn_str (X:=X.wish E)) pins s σ H _ _ v u _ (I.wish E) rv ru ?_
    exact ⟨_,_,rfl,rfl,Hf,Ext.refl sm,.bl _⟩
  · rename_i l
    obtain ⟨hc,e⟩:=ifOk hs
    rw [Bool.and_eq_true] at hc
    cases rq with
    | tup h r =>
      obtain ⟨f1,f2⟩:=any_of rp hc.1 r hc.2
      refine okp' e fun E=>(op_notIn_seq (X:=X.wish E)) pins s σ H _ _ v u _ (I.wish E) rv ru ?_
      exact ⟨_,_,rfl,.inr (Same.seqT sm h),flat_of rp hc.1,f1,Hf,Ext.refl sm,by show Rp _ _ _ (.bl (!inV x _)) _;unfold inV;rw [f2];exact .bl _⟩
  · rename_i l
    by_cases hc0:(flatP p && l.all flatP)=true
    rotate_left
    · have hs2:(if (flatP p && l.all flatP)=true then R.ok (PV.bl (!l.any fun z=>eqPV z p)) else if (heapP p && l.all strP)=true then R.ok (PV.bl true) else R.stuck)≠.stuck:=hs
      rw [if_neg hc0] at hs2
      obtain ⟨hc,e⟩:=ifOk hs2
      rw [Bool.and_eq_true] at hc
      have e':cNotIn p (.lst l) = .ok (.bl true):=by
        show (if (flatP p && l.all flatP)=true then R.ok (PV.bl (!l.any fun z=>eqPV z p)) else if (heapP p && l.all strP)=true then R.ok (PV.bl true) else R.stuck)=_
        rw [if_neg hc0];exact e
      rw [e']
      cases rq with
      | lst h r =>
        cases ru
        obtain ⟨its,w,pl,z⟩:=I.list (sm.seq h)
        refine SeqAt.notIn_listAt (fun _=>false) pl.isList (fun y hy=>?_) ⟨_,.bl true,Hf,H,rfl,I,?_,Ext.refl sm,.bl _⟩
        · obtain ⟨b,t,rfl⟩:=strs_of r w hc.2 y (by simpa using hy)
          exact str_heap I sm rv rp hc.1 (by show X.A.units+1<cLine;omega)
        · show (_:Value)=_
          simp
    have hs1:(if (flatP p && l.all flatP)=true then R.ok (PV.bl (!l.any fun z=>eqPV z p)) else if (heapP p && l.all strP)=true then R.ok (PV.bl true) else R.stuck)≠.stuck:=hs
    have hc:=hc0
    have e:cNotIn p (.lst l) = .ok (.bl (!l.any fun z=>eqPV z p)):=if_pos hc0
    rw [Bool.and_eq_true] at hc
    cases rq with
    | lst h r =>
      obtain ⟨f1,f2⟩:=any_of rp hc.1 r hc.2
      refine okp' e fun E=>(op_notIn_seq (X:=X.wish E)) pins s σ H _ _ v u _ (I.wish E) rv ru ?_
      exact ⟨_,_,rfl,.inl (sm.seq h),flat_of rp hc.1,f1,Hf,Ext.refl sm,by show Rp _ _ _ (.bl (!inV x _)) _;unfold inV;rw [f2];exact .bl _⟩
theorem itemP_of {K:PySem.W.Frag}{l:List PV}{i:Int}{vs:List V} (h:itemP l i≠.stuck) (r:Rps K cl Hf vs l):∃ v p,itemP l i = .ok p∧atI vs i=some v∧Rp K cl Hf v p:=by
  unfold itemP at h ⊢
  unfold atI
  have e:ixN vs.length i=ixP l.length i:=by rw [r.length];rfl
  rw [e]
  cases q:ixP l.length i with
  | none=>rw [q] at h;exact absurd rfl h
  | some j =>
    rw [q] at h
    dsimp only at h ⊢
    cases w:l[j]? with
    | none=>rw [w] at h;exact absurd rfl h
    | some p =>
      obtain ⟨v,h1,h2⟩:=r.get w
      exact ⟨v,p,rfl,h1,h2⟩
theorem me_item {a b:Expr}{fa fb:FE}{pos:Pos} (ha:ME X cl a fa) (hb:ME X cl b fb) (hx:PlainIx b:=by intro _ _;rfl):ME X cl (.Subscript a b pos) (fBin oItem fa fb):=by
  refine ⟨?_⟩
  intro pins s σ Hf0 H0 Hf H ρ I r hs
  refine Subscript_ ?_
  have rule:BinR X cl (fun v u=>subscriptTail a b v u) oItem:=by
    intro pins s σ Hf H x y v u p q I sm rv ru rp rq hs
    cases q<;>first
      | (cases p<;>exact absurd rfl hs)
      | skip
    rename_i i
    cases rq
    cases p<;>first
      | exact absurd rfl hs
      | skip
    · rename_i z
      cases rp
      have hs':oItem (.str z) (.int i)≠.stuck:=hs
      unfold oItem at hs' ⊢
      dsimp only at hs' ⊢
      cases w:ixP z.cps.toList.length i with
      | none=>rw [w] at hs';exact absurd rfl hs'
      | some j =>
        rw [w] at hs'
        dsimp only at hs' ⊢
        cases w2:z.cps.toList[j]? with
        | none=>rw [w2] at hs';exact absurd rfl hs'
        | some c =>
          rw [w2] at hs'
          dsimp only at hs' ⊢
          obtain ⟨hz,e⟩:=ifOk hs'
          refine okp' e fun E=>(ix_str (X:=X.wish E)) a b pins s σ H _ _ v u _ (I.wish E) rv ru ?_ (hx _ _)
          refine ⟨z,i,c,rfl,rfl,hz,?_,Hf,Ext.refl sm,.str _⟩
          unfold atI
          have e2:ixN z.cps.toList.length i=some j:=w
          rw [e2]
          exact w2
    · rename_i l
      cases rp with
      | tup h r =>
        obtain ⟨v',p',e1,e2,e3⟩:=itemP_of (show itemP l i≠.stuck from hs) r
        refine okp' (show oItem (.tup l) (.int i) = .ok p' from e1) fun E=>(ix_tup (X:=X.wish E)) a b pins s σ H _ _ v u _ (I.wish E) rv ru ?_ (hx _ _)
        exact ⟨_,_,i,v',rfl,rfl,Same.seqT sm h,e2,Hf,Ext.refl sm,e3⟩
    · rename_i l
      cases rp with
      | lst h r =>
        obtain ⟨v',p',e1,e2,e3⟩:=itemP_of (show itemP l i≠.stuck from hs) r
        refine okp' (show oItem (.lst l) (.int i) = .ok p' from e1) fun E=>(ix_list (X:=X.wish E)) a b pins s σ H _ _ v u _ (I.wish E) rv ru ?_ (hx _ _)
        exact ⟨_,_,i,v',rfl,rfl,sm.seq h,e2,Hf,Ext.refl sm,e3⟩
  exact two ha hb rule I r hs
structure MO (X:Cx) (cl:Nat→Addr) (e:Option Expr) (f:FO):Prop where
  run':∀ (pins:List (Addr×Obj)) (s:Shared) (σ:SV) (Hf0 H0 Hf H:Hp) (ρ:MEnv),Inv X pins σ H s→Rep X.K cl Hf0 H0 Hf H σ ρ→f ρ≠.stuck →
    wpAny (model X.prog X.w) X.A (evalPart e X.env) (fun u s'=>∃ o Hf' H',f ρ = .ok o∧Inv X pins σ H' s'∧IsPart u o∧Ext Hf H Hf' H') (ExP X cl pins σ Hf H (f ρ)) s
instance {X:Cx}{cl:Nat→Addr}{e:Option Expr}{f:FO}:CoeFun (MO X cl e f) fun _=>∀ (pins:List (Addr×Obj)) (s:Shared) (σ:SV) (Hf0 H0 Hf H:Hp) (ρ:MEnv),Inv X pins σ H s→Rep X.K cl Hf0 H0 Hf H σ ρ→f ρ≠.stuck →
    wpAny (model X.prog X.w) X.A (evalPart e X.env) (fun u s'=>∃ o Hf' H',f ρ = .ok o∧Inv X pins σ H' s'∧IsPart u o∧Ext Hf H Hf' H') (ExP X cl pins σ Hf H (f ρ)) s:=⟨MO.run'⟩
theorem mo_some {e:Expr}{f:FE} (h:ME X cl e f):MO X cl (some e) (oSome f):=by
  refine ⟨?_⟩
  intro pins s σ Hf0 H0 Hf H ρ I r hs
  rw [evalPart_some]
  unfold oSome at hs ⊢
  refine h.run I r (Ext.refl r.sub) hs fun p v u s1 Hf1 H1 e1 I1 rv x1 rp=>?_
  rw [e1] at hs ⊢
  cases p<;>first
    | exact absurd rfl hs
    | skip
  rename_i i
  cases rp
  obtain ⟨t,rfl⟩:=rv
  exact ⟨some i,Hf1,H1,rfl,I1,.int i t,x1⟩
theorem MO.run {e:Option Expr}{f:FO} (h:MO X cl e f) (I:Inv X pins σ H1 s) (r:Rep X.K cl Hf0 H0 Hf1 H1 σ ρ) (e0:Ext Hf H Hf1 H1) {k:Option Int→R α} (hs:(f ρ).bind k≠.stuck) {Q:Value→Shared→Prop}
    (ok:∀ o u s' Hf' H',(f ρ).bind k=k o→Inv X pins σ H' s'→IsPart u o→Ext Hf1 H1 Hf' H'→Q u s') :
    wpAny (model X.prog X.w) X.A (evalPart e X.env) Q (ExP X cl pins σ Hf H ((f ρ).bind k)) s:=by
  have hf:f ρ≠.stuck:=fun z=>hs (by rw [z];rfl)
  refine wpAny_mono (h pins s σ Hf0 H0 Hf1 H1 ρ I r hf) (fun u s' q=>?_) fun u s' q=>?_
  · obtain ⟨o,Hf',H',e1,I',hp,ex⟩:=q
    exact ok o u s' Hf' H' (by rw [e1];rfl) I' hp ex
  · obtain ⟨c,e1,x⟩:=q
    exact ⟨c,by rw [e1];rfl,x.from e0⟩
theorem slP_le (n d:Nat) (hd:d≤n) (o:Option Int):slP n d o≤n:=by
  cases o with
  | none=>exact hd
  | some v=>unfold slP;simp only;split<;>omega
theorem indices_eq (n:Nat) (lo hi:Option Int):Builtin.Str.strSliceIndices lo hi 1 n=(List.range (slP n n hi - slP n 0 lo)).map (slP n 0 lo+·):=by
  have clip:∀ (o:Option Int) (d:Nat),d≤n→(match o with
      | none=>(d:Int)
      | some i=>if (1:Int) > 0 then max 0 (min (if i<0 then i+(n:Int) else i) (n:Int)) else max (-1) (min (if i<0 then i+(n:Int) else i) ((n:Int) - 1)))=(slP n d o:Int):=by
    intro o d hd
    cases o with
    | none=>rfl
    | some i =>
      simp only [slP]
      rw [if_pos (by decide)]
      by_cases h:i<0
      · rw [if_pos h,if_pos h];omega
      · rw [if_neg h,if_neg h];omega
  have c1:=clip lo 0 (Nat.zero_le n)
  have c2:=clip hi n (Nat.le_refl n)
  refine (congr (congrArg (fun p q=>sliceRange p q 1) c1) c2:Builtin.Str.strSliceIndices lo hi 1 n=sliceRange (slP n 0 lo:Int) (slP n n hi:Int) 1).trans ?_
  generalize slP n 0 lo=a
  generalize slP n n hi=b
  unfold sliceRange
  simp only [show (1:Int) > 0 from by decide,if_true]
  have hc:(if (a:Int)<(b:Int) then ((b:Int) - (a:Int)+1 - 1) / 1 else 0).toNat=b - a:=by
    by_cases h:(a:Int)<(b:Int)
    · rw [if_pos h,Int.ediv_one];omega
    · rw [if_neg h];omega
  rw [hc]
  refine List.map_congr_left fun k _=>?_
  omega
theorem sCut_eq (z:Str) (lo hi:Option Int):Txt.slice z lo hi=sCut z lo hi:=by
  have hn:z.length=z.cps.toList.length:=by show z.cps.size=_;simp
  have hlo:=slP_le z.cps.toList.length 0 (Nat.zero_le _) lo
  have hhi:=slP_le z.cps.toList.length z.cps.toList.length (Nat.le_refl _) hi
  unfold Txt.slice sCut
  rw [hn,indices_eq]
  generalize slP z.cps.toList.length 0 lo=a at hlo ⊢
  generalize slP z.cps.toList.length z.cps.toList.length hi=b at hhi ⊢
  split
  · rename_i h
    simp only [List.length_map,List.length_range,beq_self_eq_true,Bool.true_and,beq_iff_eq] at h
    by_cases hz:z.cps.toList.length=0
    · have e:z.cps.toList=[]:=List.length_eq_zero_iff.mp hz
      rw [e];simp only [List.drop_nil,List.take_nil]
      cases z with | mk c=>simp at e ⊢;exact e
    · have ha:a=0:=by omega
      have hb:b=z.cps.toList.length:=by omega
      subst ha;subst hb
      rw [List.drop_zero,Nat.sub_zero,List.take_length]
  · congr 1
    congr 1
    by_cases hab:a≤b
    · have:=StrLaws.sliced_plain z (a:=a) (b:=b) hab (by rw [hn];exact hhi)
      rw [StrLaws.strSliceIndices_plain hab (by rw [hn];exact hhi)] at this
      exact this
    · rw [show b - a=0 by omega];simp
theorem me_cut {e:Expr}{lo hi:Option Expr}{f:FE}{l h:FO}{p2 pos:Pos} (he:ME X cl e f) (hl:MO X cl lo l) (hh:MO X cl hi h):ME X cl (.Subscript e (.Slice lo hi none p2) pos) (fCut f l h):=by
  refine ⟨?_⟩
  intro pins s σ Hf0 H0 Hf H ρ I r hs
  unfold fCut at hs ⊢
  refine Subscript_ (he.run I r (Ext.refl r.sub) hs fun p v u s1 Hf1 H1 e1 I1 rv x1 rp=>?_)
  rw [e1] at hs ⊢
  refine wpAny_Slice (hl.run I1 (r.keep x1) x1 hs fun o vl s2 Hf2 H2 e2 I2 hp2 x2=>?_)
  rw [e2] at hs ⊢
  have x12:=x1.trans x2
  refine hh.run I2 (r.keep x12) x12 hs fun o' vu s3 Hf3 H3 e3 I3 hp3 x3=>?_
  rw [e3] at hs ⊢
  have x13:=x12.trans x3
  rw [evalPart_none]
  refine wpAny_pure ?_
  have I4:Inv X pins σ H3 { s3 with heap:=s3.heap.push { cls:=.type "slice",data:=.fields #[vl,vu,.none] } }:=I3.kept (t':=s3.toks) fun b ob q=>Heap.get?_push_of_some _ q
  cases p<;>first
    | exact absurd rfl hs
    | skip
  · rename_i z
    obtain ⟨hz,e⟩:=ifOk hs
    rw [show oCut (.str z) o o' = .ok (.str (sCut z o o')) from e]
    cases rp
    obtain ⟨t,rfl⟩:=rv
    generalize ExP X cl pins σ Hf H _=E
    have fin:∀ (l u:Option (Int×Tok)),l.map (·.1)=o→u.map (·.1)=o'→∀ {E:Value→Shared→Prop},vl=partValue l→vu=partValue u→wpAny (model X.prog X.w) X.A (getItem (.str z t) (.ref s3.heap.objs.size)) (OkP X cl pins σ Hf H (.ok (.str (sCut z o o')))) E { s3 with heap:=s3.heap.push { cls:=.type "slice",data:=.fields #[vl,vu,.none] } }:=by
      intro l u hl hu E el eu
      subst el eu
      refine wpAny_getItem_str_slice (l:=l) (u:=u) (st:=none) ⟨_,Heap.get?_push_size _ rfl,rfl,rfl⟩ rfl ?_
      have e2:Txt.slice z (l.map (·.1)) (u.map (·.1))=sCut z o o':=by rw [hl,hu];exact sCut_eq z o o'
      refine post_val_or_str ⟨Nat.le_trans (Txt.slice_le z (l.map (·.1)) (u.map (·.1))) hz,fun t' k=>?_⟩
      refine ⟨_,.str (sCut z o o'),Hf3,H3,rfl,I4.tok _,⟨t',?_⟩,x13,.str _⟩
      rw [← e2]
      rfl
    refine tail_any (ops:=[.ref s3.heap.objs.size,.str z t]) (typeIs_str _ _ _) F.slot_str_getitem.lookup ?_ (by with_unfolding_all rfl)
    cases hp2 with
    | none=>cases hp3 with
      | none=>exact fin none none rfl rfl rfl rfl
      | int j tj=>exact fin none (some (j,tj)) rfl rfl rfl rfl
    | int i ti=>cases hp3 with
      | none=>exact fin (some (i,ti)) none rfl rfl rfl rfl
      | int j tj=>exact fin (some (i,ti)) (some (j,tj)) rfl rfl rfl rfl
  rename_i l'
  have rp3:=rp.keep (x2.trans x3).frz
  cases rp3 with
  | lst hq rr =>
    have ecut:∀ xs:List V,Rps X.K cl Hf3 xs l'→Rps X.K cl Hf3 (cutV xs o o') (cutP l' o o'):=fun xs rx=>by
      unfold cutV cutP
      have hl:=rx.length
      rw [hl]
      exact (rx.drop _).take _
    generalize ExP X cl pins σ Hf H (oCut (.lst l') o o')=E
    obtain ⟨T,id,hT,ht,hg⟩:=(sl_list (X:=X.wish E)) pins { s3 with heap:=s3.heap.push { cls:=.type "slice",data:=.fields #[vl,vu,.none] } } σ H3 _ u vl vu o o' s3.heap.objs.size
      (fun w H'=>∃ Hf',Ext Hf3 H3 Hf' H'∧Rp X.K cl Hf' w (.lst (cutP l' o o'))) (I4.wish E) rv (Heap.IsSliceOf.new ..) hp2 hp3
      ⟨_,_,rfl,x3.sub.seq hq,fun a ha=>⟨_,Ext.new x3.sub ha _,.lst (SqL.of upd_same) ((ecut _ rr).keep (same_upd (x3.sub.free ha) _))⟩⟩
    refine tail_any (ops:=[.ref s3.heap.objs.size,u]) ht hT ?_ (by with_unfolding_all rfl)
    refine thn (okp hg) fun _ _ q=>OkP.from (e0:=x13) q
noncomputable def eAt (ps qs:List PV) (j:Nat):Bool:=match ps[j]?,qs[j]? with
  | some a,some b=>eqPV a b
  | _,_=>false
theorem eAt_succ (a b:PV) (ps qs:List PV) (j:Nat):eAt (a::ps) (b::qs) (j+1)=eAt ps qs j:=by simp [eAt]
theorem all_range_succ (n:Nat) (e:Nat→Bool):(List.range (n+1)).all e=(e 0 && (List.range n).all fun j=>e (j+1)):=by
  rw [List.range_succ_eq_map,List.all_cons,List.all_map]
  rfl
theorem eqPVs_eq:∀ (ps qs:List PV),eqPVs ps qs=((List.range (min ps.length qs.length)).all (eAt ps qs) && ps.length == qs.length)
  | [],[]=>by simp [eqPVs]
  | [],_::_=>by simp [eqPVs]
  | _::_,[]=>by simp [eqPVs]
  | a::ps,b::qs=>by
    have ih:=eqPVs_eq ps qs
    show (eqPV a b && eqPVs ps qs)=_
    have h1:min (a::ps).length (b::qs).length=min ps.length qs.length+1:=by simp only [List.length_cons];omega
    rw [h1,all_range_succ,ih]
    have h2:eAt (a::ps) (b::qs) 0=eqPV a b:=rfl
    have h3:(fun j=>eAt (a::ps) (b::qs) (j+1))=eAt ps qs:=by funext j;exact eAt_succ a b ps qs j
    rw [h2,h3]
    have h4:((a::ps).length == (b::qs).length)=(ps.length == qs.length):=by simp
    rw [h4,Bool.and_assoc]
theorem eqPVs_len {ps qs:List PV} (h:ps.length=qs.length):eqPVs ps qs=(List.range ps.length).all (eAt ps qs):=by
  rw [eqPVs_eq,← h]
  simp
theorem eqPVs_ne {ps qs:List PV} (h:ps.length≠qs.length):eqPVs ps qs=false:=by
  rw [eqPVs_eq]
  have:(ps.length == qs.length)=false:=by simpa using h
  rw [this,Bool.and_false]
theorem cmpOk_get {n:Nat}{ps:List PV}{j:Nat}{p:PV} (h:ps.all (cmpOkN n)=true) (e:ps[j]?=some p):cmpOkN n p=true:=by
  rw [List.all_eq_true] at h
  exact h p (List.mem_of_getElem? e)
theorem eq_same (I:Inv X pins σ H s) (sm:Same Hf H):∀ (n:Nat) {v:V}{p q:PV},Rp X.K cl Hf v p→Rp X.K cl Hf v q→cmpOkN n p=true→cmpOkN n q=true→eqPV p q=true:=by
  intro n
  induction n with
  | zero =>
    intro v p q hp hq cp cq
    cases hp<;>cases hq<;>first | (simp [eqPV];done) | (simp [cmpOkN] at cp;done)
  | succ n ih =>
    have all:∀ {vs:List V}{ps qs:List PV},Rps X.K cl Hf vs ps→Rps X.K cl Hf vs qs→ps.all (cmpOkN n)=true→qs.all (cmpOkN n)=true→eqPVs ps qs=true:=by
      intro vs
      induction vs with
      | nil=>intro ps qs r1 r2 _ _;cases r1;cases r2;rfl
      | cons v vs ihv =>
        intro ps qs r1 r2 c1 c2
        cases r1 with
        | cons a1 t1 =>
          cases r2 with
          | cons a2 t2 =>
            rw [List.all_cons,Bool.and_eq_true] at c1 c2
            show (eqPV _ _ && eqPVs _ _)=true
            rw [ih a1 a2 c1.1 c2.1,ihv t1 t2 c1.2 c2.2]
            rfl
    intro v p q hp hq cp cq
    have noLT:∀ {a:Addr}{xs ys:List V},SqL X.K Hf a xs→SqT X.K Hf a ys→False:=fun {a xs ys} h1 h2=>by
      obtain ⟨its,_,⟨o,n1,e1,c1,_⟩,_⟩:=I.list (sm.seq h1)
      obtain ⟨its2,_,⟨o2,e2,c2,_⟩,_⟩:=I.tuple (Same.seqT sm h2)
      rw [e1] at e2;cases e2;rw [c1] at c2;injection c2 with c3;exact absurd c3 (by decide)
    cases hp with
    | tup h1 r1 =>
      cases hq with
      | tup h2 r2 =>
        have e:=I.tuple_inj (Same.seqT sm h1) (Same.seqT sm h2)
        subst e
        exact all r1 r2 cp cq
      | lst h2 r2=>exact (noLT h2 h1).elim
      | _=>simp [cmpOkN] at cq
    | lst h1 r1 =>
      cases hq with
      | tup h2 r2=>exact (noLT h1 h2).elim
      | lst h2 r2 =>
        have e:=I.list_inj (sm.seq h1) (sm.seq h2)
        subst e
        exact all r1 r2 cp cq
      | _=>simp [cmpOkN] at cq
    | _=>cases hq<;>first | (simp [eqPV];done) | (simp [cmpOkN] at cp;done)
theorem eq_deep (I:Inv X pins σ H s) (sm:Same Hf H):∀ (n:Nat) {A:Around}{x y:V}{v u:Value}{p q:PV},A.units+n<cLine→RelV x v→RelV y u→Rp X.K cl Hf x p→Rp X.K cl Hf y q→cmpOkN n p=true→cmpOkN n q=true →
    SeqAt.RcAt A s v u (eqPV p q)∧SeqAt.EqAt A s v u (eqPV p q)∧SeqAt.RcNeAt A s v u (!eqPV p q):=by
  intro n
  induction n with
  | zero =>
    intro A x y v u p q hu rv ru rp rq cp cq
    cases rp<;>first | (simp [cmpOkN] at cp;done) | skip
    all_goals (cases rq<;>first | (simp [cmpOkN] at cq;done) | skip)
    · cases rv;cases ru;exact ⟨SeqAt.RcAt.none_none,SeqAt.EqAt.same _,SeqAt.RcNeAt.none_none⟩
    · cases rv;cases ru;exact ⟨SeqAt.RcAt.none_bool _,SeqAt.EqAt.none_bool _,SeqAt.RcNeAt.none_bool _⟩
    · cases rv;obtain ⟨t,rfl⟩:=ru;exact ⟨SeqAt.RcAt.none_int _ _,SeqAt.EqAt.none_int _ _,SeqAt.RcNeAt.none_int _ _⟩
    · cases rv;obtain ⟨t,rfl⟩:=ru;exact ⟨SeqAt.RcAt.none_str _ _,SeqAt.EqAt.none_str _ _,SeqAt.RcNeAt.none_str _ _⟩
    · cases rv;cases ru;exact ⟨SeqAt.RcAt.bool_none _,SeqAt.EqAt.bool_none _,SeqAt.RcNeAt.bool_none _⟩
    · cases rv;cases ru;exact ⟨SeqAt.RcAt.bool_bool _ _,SeqAt.EqAt.bool_bool _ _,SeqAt.RcNeAt.bool_bool _ _⟩
    · cases rv;obtain ⟨t,rfl⟩:=ru;exact ⟨SeqAt.RcAt.bool_int _ _ _,SeqAt.EqAt.bool_int _ _ _,SeqAt.RcNeAt.bool_int _ _ _⟩
    · cases rv;obtain ⟨t,rfl⟩:=ru;exact ⟨SeqAt.RcAt.bool_str _ _ _,SeqAt.EqAt.bool_str _ _ _,SeqAt.RcNeAt.bool_str _ _ _⟩
    · obtain ⟨t,rfl⟩:=rv;cases ru;exact ⟨SeqAt.RcAt.int_none _ _,SeqAt.EqAt.int_none _ _,SeqAt.RcNeAt.int_none _ _⟩
    · obtain ⟨t,rfl⟩:=rv;cases ru;exact ⟨SeqAt.RcAt.int_bool _ _ _,SeqAt.EqAt.int_bool _ _ _,SeqAt.RcNeAt.int_bool _ _ _⟩
    · obtain ⟨t,rfl⟩:=rv;obtain ⟨t',rfl⟩:=ru;exact ⟨SeqAt.RcAt.int_int _ _ _ _,SeqAt.EqAt.int_int _ _ _ _,SeqAt.RcNeAt.int_int _ _ _ _⟩
    · obtain ⟨t,rfl⟩:=rv;obtain ⟨t',rfl⟩:=ru;exact ⟨SeqAt.RcAt.int_str _ _ _ _,SeqAt.EqAt.int_str _ _ _ _,SeqAt.RcNeAt.int_str _ _ _ _⟩
    · obtain ⟨t,rfl⟩:=rv;cases ru;exact ⟨SeqAt.RcAt.str_none _ _,SeqAt.EqAt.str_none _ _,SeqAt.RcNeAt.str_none _ _⟩
    · obtain ⟨t,rfl⟩:=rv;cases ru;exact ⟨SeqAt.RcAt.str_bool _ _ _,SeqAt.EqAt.str_bool _ _ _,SeqAt.RcNeAt.str_bool _ _ _⟩
    · obtain ⟨t,rfl⟩:=rv;obtain ⟨t',rfl⟩:=ru;exact ⟨SeqAt.RcAt.str_int _ _ _ _,SeqAt.EqAt.str_int _ _ _ _,SeqAt.RcNeAt.str_int _ _ _ _⟩
    · obtain ⟨t,rfl⟩:=rv;obtain ⟨t',rfl⟩:=ru;exact ⟨SeqAt.RcAt.str_str _ _ _ _,SeqAt.EqAt.str_str _ _ _ _,SeqAt.RcNeAt.str_str _ _ _ _⟩
  | succ n ih =>
    intro A x y v u p q hu rv ru rp rq cp cq
    have hu0:A.units<cLine:=by omega
    have hu1:A.in1.units+n<cLine:=by show A.units+1+n<cLine;omega
    have items:∀ {xs ys:List V}{its its2:List Value}{ps qs:List PV},Rps X.K cl Hf xs ps→Rps X.K cl Hf ys qs→Vals xs its→Vals ys its2→ps.all (cmpOkN n)=true→qs.all (cmpOkN n)=true →
        ∀ j (h1:j<its.toArray.size) (h2:j<its2.toArray.size),SeqAt.EqAt A.in1 s its.toArray[j] its2.toArray[j] (eAt ps qs j):=by
      intro xs ys its its2 ps qs r1 r2 w1 w2 c1 c2 j h1 h2
      have g1:j<ps.length:=by rw [← r1.length,w1.length];simpa using h1
      have g2:j<qs.length:=by rw [← r2.length,w2.length];simpa using h2
      obtain ⟨a,ea,ra⟩:=r1.get (List.getElem?_eq_getElem g1)
      obtain ⟨b,eb,rb⟩:=r2.get (List.getElem?_eq_getElem g2)
      obtain ⟨ua,eua,rua⟩:=w1.get ea
      obtain ⟨ub,eub,rub⟩:=w2.get eb
      have f1:its.toArray[j]=ua:=by
        have:its[j]?=some its.toArray[j]:=by simp
        rw [this] at eua;exact Option.some.inj eua
      have f2:its2.toArray[j]=ub:=by
        have:its2[j]?=some its2.toArray[j]:=by simp
        rw [this] at eub;exact Option.some.inj eub
      rw [f1,f2]
      have e:eAt ps qs j=eqPV ps[j] qs[j]:=by
        unfold eAt
        rw [List.getElem?_eq_getElem g1,List.getElem?_eq_getElem g2]
      rw [e]
      exact (ih hu1 rua rub ra rb (cmpOk_get c1 (List.getElem?_eq_getElem g1)) (cmpOk_get c2 (List.getElem?_eq_getElem g2))).2.1
    cases rp<;>first | (simp [cmpOkN] at cp;done) | skip
    all_goals (cases rq<;>first | (simp [cmpOkN] at cq;done) | skip)
    · cases rv;cases ru;exact ⟨SeqAt.RcAt.none_none,SeqAt.EqAt.same _,SeqAt.RcNeAt.none_none⟩
    · cases rv;cases ru;exact ⟨SeqAt.RcAt.none_bool _,SeqAt.EqAt.none_bool _,SeqAt.RcNeAt.none_bool _⟩
    · cases rv;obtain ⟨t,rfl⟩:=ru;exact ⟨SeqAt.RcAt.none_int _ _,SeqAt.EqAt.none_int _ _,SeqAt.RcNeAt.none_int _ _⟩
    · cases rv;obtain ⟨t,rfl⟩:=ru;exact ⟨SeqAt.RcAt.none_str _ _,SeqAt.EqAt.none_str _ _,SeqAt.RcNeAt.none_str _ _⟩
    · rename_i h r;cases rv;cases ru;obtain ⟨its,w,pl,z⟩:=I.tuple (Same.seqT sm h);exact ⟨SeqAt.RcAt.none_tuple pl hu0,SeqAt.EqAt.none_tuple pl hu0,SeqAt.RcNeAt.none_tuple pl hu0⟩
    · rename_i h r;cases rv;cases ru;obtain ⟨its,w,pl,z⟩:=I.list (sm.seq h);exact ⟨SeqAt.RcAt.none_list pl.isList hu0,SeqAt.EqAt.none_list pl.isList hu0,SeqAt.RcNeAt.none_list pl.isList hu0⟩
    · cases rv;cases ru;exact ⟨SeqAt.RcAt.bool_none _,SeqAt.EqAt.bool_none _,SeqAt.RcNeAt.bool_none _⟩
    · cases rv;cases ru;exact ⟨SeqAt.RcAt.bool_bool _ _,SeqAt.EqAt.bool_bool _ _,SeqAt.RcNeAt.bool_bool _ _⟩
    · cases rv;obtain ⟨t,rfl⟩:=ru;exact ⟨SeqAt.RcAt.bool_int _ _ _,SeqAt.EqAt.bool_int _ _ _,SeqAt.RcNeAt.bool_int _ _ _⟩
    · cases rv;obtain ⟨t,rfl⟩:=ru;exact ⟨SeqAt.RcAt.bool_str _ _ _,SeqAt.EqAt.bool_str _ _ _,SeqAt.RcNeAt.bool_str _ _ _⟩
    · rename_i h r;cases rv;cases ru;obtain ⟨its,w,pl,z⟩:=I.tuple (Same.seqT sm h);exact ⟨SeqAt.RcAt.bool_tuple _ pl hu0,SeqAt.EqAt.bool_tuple _ pl hu0,SeqAt.RcNeAt.bool_tuple _ pl hu0⟩
    · rename_i h r;cases rv;cases ru;obtain ⟨its,w,pl,z⟩:=I.list (sm.seq h);exact ⟨SeqAt.RcAt.bool_list _ pl.isList hu0,SeqAt.EqAt.bool_list _ pl.isList hu0,SeqAt.RcNeAt.bool_list _ pl.isList hu0⟩
    · obtain ⟨t,rfl⟩:=rv;cases ru;exact ⟨SeqAt.RcAt.int_none _ _,SeqAt.EqAt.int_none _ _,SeqAt.RcNeAt.int_none _ _⟩
    · obtain ⟨t,rfl⟩:=rv;cases ru;exact ⟨SeqAt.RcAt.int_bool _ _ _,SeqAt.EqAt.int_bool _ _ _,SeqAt.RcNeAt.int_bool _ _ _⟩
    · obtain ⟨t,rfl⟩:=rv;obtain ⟨t',rfl⟩:=ru;exact ⟨SeqAt.RcAt.int_int _ _ _ _,SeqAt.EqAt.int_int _ _ _ _,SeqAt.RcNeAt.int_int _ _ _ _⟩
    · obtain ⟨t,rfl⟩:=rv;obtain ⟨t',rfl⟩:=ru;exact ⟨SeqAt.RcAt.int_str _ _ _ _,SeqAt.EqAt.int_str _ _ _ _,SeqAt.RcNeAt.int_str _ _ _ _⟩
    · rename_i h r;obtain ⟨t,rfl⟩:=rv;cases ru;obtain ⟨its,w,pl,z⟩:=I.tuple (Same.seqT sm h);exact ⟨SeqAt.RcAt.int_tuple _ _ pl hu0,SeqAt.EqAt.int_tuple _ _ pl hu0,SeqAt.RcNeAt.int_tuple _ _ pl hu0⟩
    · rename_i h r;obtain ⟨t,rfl⟩:=rv;cases ru;obtain ⟨its,w,pl,z⟩:=I.list (sm.seq h);exact ⟨SeqAt.RcAt.int_list _ _ pl.isList hu0,SeqAt.EqAt.int_list _ _ pl.isList hu0,SeqAt.RcNeAt.int_list _ _ pl.isList hu0⟩
    · obtain ⟨t,rfl⟩:=rv;cases ru;exact ⟨SeqAt.RcAt.str_none _ _,SeqAt.EqAt.str_none _ _,SeqAt.RcNeAt.str_none _ _⟩
    · obtain ⟨t,rfl⟩:=rv;cases ru;exact ⟨SeqAt.RcAt.str_bool _ _ _,SeqAt.EqAt.str_bool _ _ _,SeqAt.RcNeAt.str_bool _ _ _⟩
    · obtain ⟨t,rfl⟩:=rv;obtain ⟨t',rfl⟩:=ru;exact ⟨SeqAt.RcAt.str_int _ _ _ _,SeqAt.EqAt.str_int _ _ _ _,SeqAt.RcNeAt.str_int _ _ _ _⟩
    · obtain ⟨t,rfl⟩:=rv;obtain ⟨t',rfl⟩:=ru;exact ⟨SeqAt.RcAt.str_str _ _ _ _,SeqAt.EqAt.str_str _ _ _ _,SeqAt.RcNeAt.str_str _ _ _ _⟩
    · rename_i h r;obtain ⟨t,rfl⟩:=rv;cases ru;obtain ⟨its,w,pl,z⟩:=I.tuple (Same.seqT sm h);exact ⟨SeqAt.RcAt.str_tuple _ _ pl hu0,SeqAt.EqAt.str_tuple _ _ pl hu0,SeqAt.RcNeAt.str_tuple _ _ pl hu0⟩
    · rename_i h r;obtain ⟨t,rfl⟩:=rv;cases ru;obtain ⟨its,w,pl,z⟩:=I.list (sm.seq h);exact ⟨SeqAt.RcAt.str_list _ _ pl.isList hu0,SeqAt.EqAt.str_list _ _ pl.isList hu0,SeqAt.RcNeAt.str_list _ _ pl.isList hu0⟩
    · rename_i h r;cases rv;cases ru;obtain ⟨its,w,pl,z⟩:=I.tuple (Same.seqT sm h);exact ⟨SeqAt.RcAt.tuple_none pl hu0,SeqAt.EqAt.tuple_none pl hu0,SeqAt.RcNeAt.tuple_none pl hu0⟩
    · rename_i h r _;cases rv;cases ru;obtain ⟨its,w,pl,z⟩:=I.tuple (Same.seqT sm h);exact ⟨SeqAt.RcAt.tuple_bool _ pl hu0,SeqAt.EqAt.tuple_bool _ pl hu0,SeqAt.RcNeAt.tuple_bool _ pl hu0⟩
    · rename_i h r _;cases rv;obtain ⟨t',rfl⟩:=ru;obtain ⟨its,w,pl,z⟩:=I.tuple (Same.seqT sm h);exact ⟨SeqAt.RcAt.tuple_int _ _ pl hu0,SeqAt.EqAt.tuple_int _ _ pl hu0,SeqAt.RcNeAt.tuple_int _ _ pl hu0⟩
    · rename_i h r _;cases rv;obtain ⟨t',rfl⟩:=ru;obtain ⟨its,w,pl,z⟩:=I.tuple (Same.seqT sm h);exact ⟨SeqAt.RcAt.tuple_str _ _ pl hu0,SeqAt.EqAt.tuple_str _ _ pl hu0,SeqAt.RcNeAt.tuple_str _ _ pl hu0⟩
    · rename_i a xs ps h r b ys qs h' r'
      cases rv;cases ru
      obtain ⟨its,w,pl,z⟩:=I.tuple (Same.seqT sm h)
      obtain ⟨its2,w2,pl2,z2⟩:=I.tuple (Same.seqT sm h')
      have it:=items r r' w w2 cp cq
      have e:((List.range (min its.toArray.size its2.toArray.size)).all (eAt ps qs) && its.toArray.size == its2.toArray.size)=eqPV (.tup ps) (.tup qs):=by
        show _=eqPVs ps qs
        rw [eqPVs_eq,List.size_toArray,List.size_toArray,← w.length,← w2.length,r.length,r'.length]
      have c1:=SeqAt.RcAt.tuples (A:=A) pl pl2 hu0 it
      have c2:=SeqAt.RcNeAt.tuples (A:=A) pl pl2 hu0 it
      rw [e] at c1 c2
      refine ⟨c1,?_,c2⟩
      by_cases hab:a=b
      · subst hab
        rw [eq_same I sm (n+1) (Rp.tup h r) (Rp.tup h' r') cp cq]
        exact SeqAt.EqAt.same _
      · exact .of_refs hab c1
    · rename_i a xs ps h r b ys qs h' r'
      cases rv;cases ru
      obtain ⟨its,w,pl,z⟩:=I.tuple (Same.seqT sm h)
      obtain ⟨its2,w2,pl2,z2⟩:=I.list (sm.seq h')
      exact ⟨SeqAt.RcAt.tuple_list pl pl2.isList hu0,SeqAt.EqAt.tuple_list pl pl2.isList hu0,SeqAt.RcNeAt.tuple_list pl pl2.isList hu0⟩
    · rename_i h r;cases rv;cases ru;obtain ⟨its,w,pl,z⟩:=I.list (sm.seq h);exact ⟨SeqAt.RcAt.list_none pl.isList hu0,SeqAt.EqAt.list_none pl.isList hu0,SeqAt.RcNeAt.list_none pl.isList hu0⟩
    · rename_i h r _;cases rv;cases ru;obtain ⟨its,w,pl,z⟩:=I.list (sm.seq h);exact ⟨SeqAt.RcAt.list_bool _ pl.isList hu0,SeqAt.EqAt.list_bool _ pl.isList hu0,SeqAt.RcNeAt.list_bool _ pl.isList hu0⟩
    · rename_i h r _;cases rv;obtain ⟨t',rfl⟩:=ru;obtain ⟨its,w,pl,z⟩:=I.list (sm.seq h);exact ⟨SeqAt.RcAt.list_int _ _ pl.isList hu0,SeqAt.EqAt.list_int _ _ pl.isList hu0,SeqAt.RcNeAt.list_int _ _ pl.isList hu0⟩
    · rename_i h r _;cases rv;obtain ⟨t',rfl⟩:=ru;obtain ⟨its,w,pl,z⟩:=I.list (sm.seq h);exact ⟨SeqAt.RcAt.list_str _ _ pl.isList hu0,SeqAt.EqAt.list_str _ _ pl.isList hu0,SeqAt.RcNeAt.list_str _ _ pl.isList hu0⟩
    · rename_i a xs ps h r b ys qs h' r'
      cases rv;cases ru
      obtain ⟨its,w,pl,z⟩:=I.list (sm.seq h)
      obtain ⟨its2,w2,pl2,z2⟩:=I.tuple (Same.seqT sm h')
      exact ⟨SeqAt.RcAt.list_tuple pl.isList pl2 hu0,SeqAt.EqAt.list_tuple pl.isList pl2 hu0,SeqAt.RcNeAt.list_tuple pl.isList pl2 hu0⟩
    · rename_i a xs ps h r b ys qs h' r'
      cases rv;cases ru
      obtain ⟨its,w,pl,z⟩:=I.list (sm.seq h)
      obtain ⟨its2,w2,pl2,z2⟩:=I.list (sm.seq h')
      have it:=items r r' w w2 cp cq
      have l1:its.toArray.size=ps.length:=by rw [List.size_toArray,← w.length,r.length]
      have l2:its2.toArray.size=qs.length:=by rw [List.size_toArray,← w2.length,r'.length]
      have both:SeqAt.RcAt A s (.ref a) (.ref b) (eqPVs ps qs)∧SeqAt.RcNeAt A s (.ref a) (.ref b) (!eqPVs ps qs):=by
        by_cases hl:ps.length=qs.length
        · have c1:=SeqAt.RcAt.lists (A:=A) pl.isList pl2.isList (by rw [l1,l2,hl]) hu0 it
          have c2:=SeqAt.RcNeAt.lists (A:=A) pl.isList pl2.isList (by rw [l1,l2,hl]) hu0 it
          rw [l1,← eqPVs_len hl] at c1 c2
          exact ⟨c1,c2⟩
        · rw [eqPVs_ne hl]
          have hne:(its.toArray.size != its2.toArray.size)=true:=by rw [l1,l2];simpa using hl
          exact ⟨SeqAt.RcAt.lists_lengths pl.isList pl2.isList hne hu0,SeqAt.RcNeAt.lists_lengths pl.isList pl2.isList hne hu0⟩
      refine ⟨both.1,?_,both.2⟩
      by_cases hab:a=b
      · subst hab
        rw [eq_same I sm (n+1) (Rp.lst h r) (Rp.lst h' r') cp cq]
        exact SeqAt.EqAt.same _
      · exact .of_refs hab both.1
theorem r_eq (hu:X.A.units+64<cLine):BinR X cl (compareOp .Eq) cEq:=by
  intro pins s σ Hf H x y v u p q I sm rv ru rp rq hs
  unfold cEq at hs ⊢
  by_cases hc0:(cmpOk p && cmpOk q)=true
  rotate_left
  · rw [if_neg hc0] at hs ⊢
    obtain ⟨hd,e⟩:=ifOk hs
    rw [e]
    cases p<;>cases q<;>first
      | (simp [dicStr] at hd;done)
      | skip
    cases rp with
    | dic0 h =>
      cases rq
      cases rv
      obtain ⟨t,rfl⟩:=ru
      obtain ⟨o,es,ep,h1,h2,h3⟩:=dic_at I sm h
      exact dict_str_at h1 h2 h3 (by omega) _ _ _ _ ⟨_,.bl false,Hf,H,rfl,I,rfl,Ext.refl sm,.bl _⟩
  rw [if_pos hc0] at hs ⊢
  have e:(R.ok (PV.bl (eqPV p q)):R PV) = .ok (.bl (eqPV p q)):=rfl
  have hc:=hc0
  rw [e]
  rw [Bool.and_eq_true] at hc
  exact (eq_deep I sm 6 (by omega) rv ru rp rq hc.1 hc.2).1 _ _ _ _ ⟨_,.bl _,Hf,H,rfl,I,rfl,Ext.refl sm,.bl _⟩
theorem r_ne (hu:X.A.units+64<cLine):BinR X cl (compareOp .NotEq) cNe:=by
  intro pins s σ Hf H x y v u p q I sm rv ru rp rq hs
  unfold cNe at hs ⊢
  obtain ⟨hc,e⟩:=ifOk hs
  rw [e]
  rw [Bool.and_eq_true] at hc
  exact (eq_deep I sm 6 (by omega) rv ru rp rq hc.1 hc.2).2.2 _ _ _ _ ⟨_,.bl _,Hf,H,rfl,I,rfl,Ext.refl sm,.bl _⟩
end
theorem objOk_there {P:Program}{w:World}{H:Hp}{h:Heap}{a:Addr}{o:HO} (x:ObjOk P w H h a o):∃ ob,h.get? a=some ob:=by
  cases o with
  | lst xs=>obtain ⟨_,_,_,_,e⟩:=x;exact ⟨_,e⟩
  | tup xs=>obtain ⟨_,_,_,ob,e,_⟩:=x;exact ⟨_,e⟩
  | dK kvs=>obtain ⟨_,_,_,_,o,_,_,e,_⟩:=x;exact ⟨_,e⟩
  | dT kvs=>obtain ⟨_,_,_,_,o,_,_,e,_⟩:=x;exact ⟨_,e⟩
  | set S n=>obtain ⟨o,_,_,_,e,_⟩:=x;exact ⟨_,e⟩
  | ins C dx fs=>obtain ⟨_,_,_,e,_⟩:=x;exact ⟨_,e⟩
  | own y=>exact x
  | xd fs=>obtain ⟨_,⟨_,_,_,e,_⟩,_⟩:=x;exact ⟨_,e⟩
  | rng lo hi=>obtain ⟨_,_,_,e⟩:=x;exact ⟨_,e⟩
  | frz ob u=>exact ⟨_,x.1⟩
  | tbl ps=>exact ⟨_,(show h.get? a=some _ from x)⟩
  | met f y=>exact ⟨_,(show h.get? a=some _ from x)⟩
  | ext φ=>exact x.2.1
section
variable {X:Cx}{cl:Nat→Addr}{pins:List (Addr×Obj)}{s:Shared}{σ:SV}{Hf0 H0 Hf H Hf1 H1:Hp}{ρ:MEnv}{α:Type}{B h':Heap}
structure Own (X:Cx):Prop where
  stk:X.stack=X.env::X.outer
  fr:X.env.frame=some X.env.locals
  ex:∀ b,b ∉ X.ex
  fn:∀ x,X.fn x=true
theorem stands_there (W:Own X) (I:Inv X pins σ H s) {b:Addr} (h:Stands X pins H b):∃ o,s.heap.get? b=some o:=by
  rcases h with h | ⟨p,hp,e⟩ | ⟨o,h⟩ | ⟨x,h⟩
  · cases e:H b with
    | none=>exact absurd e h
    | some u=>exact objOk_there (I.hok b u e)
  · rw [← e];exact ⟨_,(I.pin p hp).1⟩
  · exact I.base.there b o h (W.ex b)
  · obtain ⟨v,o',q,_⟩:=I.cell x b h
    exact ⟨o',q⟩
theorem frs_stk (W:Own X) {b:Addr}:b∈frs X.stack↔b=X.env.locals∨b∈X.fs:=by
  rw [W.stk]
  unfold frs
  rw [List.filterMap_cons,W.fr]
  exact List.mem_cons
theorem Cov.upto (W:Own X) (I:Inv X pins σ H s) (c:Cov X pins H B s.heap) (st:B.StaysIn h'):Cov X pins H B h':=by
  intro b o e hs hn
  obtain ⟨o',e'⟩:=stands_there W I hs
  have q:=c b o' e' hs hn
  have:=st b o' q
  rw [e] at this;cases this
  exact q
theorem Inv.upto (W:Own X) (I:Inv X pins σ H s) (c:Cov X pins H B s.heap) (st:B.StaysIn h') (u:s.heap.UpToSlots h') {tk:Nat}:Inv X pins σ H { s with heap:=h',toks:=tk }:=by
  have keep:∀ b o,s.heap.get? b=some o→Stands X pins H b→b ∉ frs X.stack→h'.get? b=some o:=fun b o e hs hn=>st b o (c b o e hs hn)
  have fr:∀ b∈frs X.stack,∃ o,s.heap.get? b=some o∧∀ vs,o.data≠.fields vs:=fun b hb=>((I.stack).mem hb).2
  have lnl:X.env.locals∈frs X.stack:=(frs_stk W).mpr (.inl rfl)
  have hokx:HOk X.prog X.w H h':=fun a o e=>by
    have na:a ∉ frs X.stack:=fun z=>by rw [I.stkFree a z] at e;cases e
    refine (I.hok a o e).stay (fun b v hb q=>?_) (fun _ q=>q) fun _ _ q=>q
    rcases hb with rfl | hb
    · exact keep _ v q (.inl (by rw [e];intro z;cases z)) na
    · have nb:b ∉ frs X.stack:=fun z=>by rw [I.stkFree b z] at hb;cases hb
      exact keep b v q (.inl (by rw [hb];intro z;cases z)) nb
  obtain ⟨m,hn,hl⟩:=I.loc
  have old:∀ b o,X.s₀.heap.get? b=some o→b≠X.env.locals:=fun b o e z=>by
    have:=Heap.lt_size e
    rw [z] at this
    exact absurd (Nat.lt_of_lt_of_le this I.ok.above) (Nat.lt_irrefl _)
  have cells:∀ x cc v,X.env.cells.lookup x=some cc→s.heap.IsCell cc v→h'.IsCell cc v:=fun x cc v e q=>by
    obtain ⟨o,ho,hd⟩:=q
    have nf:cc ∉ frs X.stack:=fun z=>by
      rcases (frs_stk W).mp z with z | z
      · exact I.cne x cc e z
      · obtain ⟨_,o',ho',_⟩:=I.ok.funs.mem z
        exact absurd (Nat.lt_of_lt_of_le (Heap.lt_size ho') (I.ok.cab x cc (W.fn x) e)) (Nat.lt_irrefl _)
    exact ⟨o,keep cc o ho (.inr (.inr (.inr ⟨x,e⟩))) nf,hd⟩
  refine ⟨I.ok,I.os,I.bare,⟨fun b o e n hb hx=>?_,fun b o e n hb hx=>?_,I.base.free,fun b o e hx=>?_,I.base.tups,I.base.frzs,I.base.tbls⟩,⟨m,u.ns hn,fun i x v e1 e2 e3=>?_⟩,fun x cc e=>?_,I.free,I.freeC,fun p hp=>?_,hokx,I.len⟩
  · exact keep b o (I.base.keep b o e n hb hx) (.inr (.inr (.inl ⟨o,e⟩))) fun z=>((frs_stk W).mp z).elim (old b o e) hb
  · obtain ⟨sl,q⟩:=I.base.slot b o e n hb hx
    obtain ⟨o',ho',hnf⟩:=fr b ((frs_stk W).mpr (.inr hb))
    rw [q] at ho';cases ho'
    obtain ⟨sl',q'⟩:=u b _ q hnf
    exact ⟨sl',q'⟩
  · obtain ⟨o',q⟩:=I.base.there b o e hx
    by_cases hb:b∈frs X.stack
    · obtain ⟨o2,ho2,hnf⟩:=fr b hb
      obtain ⟨sl',q'⟩:=u b _ ho2 hnf
      exact ⟨_,q'⟩
    · exact ⟨o',keep b o' q (.inr (.inr (.inl ⟨o,e⟩))) hb⟩
  · obtain ⟨uu,r,l⟩:=hl i x v e1 e2 e3
    refine ⟨uu,r,?_⟩
    rcases l with l | ⟨hk,cc,hc,hcell⟩
    · exact .inl l
    · exact .inr ⟨hk,cc,hc,cells x cc _ hc hcell⟩
  · obtain ⟨v,q⟩:=I.cell x cc e
    exact ⟨v,cells x cc v e q⟩
  · obtain ⟨p1,p2,p3,p4,p5⟩:=I.pin p hp
    exact ⟨keep p.1 p.2 p1 (.inr (.inl ⟨p,hp,rfl⟩)) fun z=>((frs_stk W).mp z).elim p3 p4,p2,p3,p4,p5⟩
theorem Cov.fewer {pl:List (Addr×Obj)} (c:Cov X (pins ++ pl) H B h'):Cov X pins H B h':=fun b o e hs hn=>c b o e (by
  rcases hs with h | ⟨p,hp,q⟩ | h | h
  · exact .inl h
  · refine .inr (.inl ⟨p,?_,q⟩)
    rcases List.mem_append.mp hp with z | z
    · exact List.mem_append_left _ z
    · exact List.mem_append_right _ (List.mem_append_left _ z)
  · exact .inr (.inr (.inl h))
  · exact .inr (.inr (.inr h))) hn
theorem XSt.fewer {pl:List (Addr×Obj)}{e C:Addr} (x:XSt X (pins ++ pl) H e C h'):XSt X pins H e C h':=by
  obtain ⟨B,a0,c,d,r⟩:=x
  exact ⟨B,a0,c.fewer,d,r⟩
theorem NoD.keep {e:Addr}{h h':Heap} (d:NoD e h) (k:Kd e h h'):NoD e h':=by
  obtain ⟨o,h1,h2⟩:=d
  obtain ⟨o',h3,_,h4⟩:=k o h1
  exact ⟨o',h3,h4.trans h2⟩
theorem note_ok0 {M:Model}{A:Around}{E:Value→Shared→Prop}{e C:Addr}{a0:Value}{Q:Unit→Shared→Prop} (W:Own X) (hfr:A.frames=some X.stack)
    (x:FreshW B X.stack e (.ref C) a0 s.heap∨Heap.HeldW B X.stack e (.ref C) a0 X.env.locals s.heap∨Heap.FlyingW B X.stack e (.ref C) a0 s.heap)
    (h:∀ h',Heap.HeldW B X.stack e (.ref C) a0 X.env.locals h'→s.heap.UpToSlots h'→Q () { s with heap:=h' }):wpAny M A (noteFrame (.ref e) X.env) Q E s:=by
  rw [W.stk] at x h hfr
  rcases x with ⟨f1,f2,f3,oe,vs,he,hc,hdi,hd,h0,h1⟩ | x | x
  · unfold noteFrame
    simp only [W.fr]
    refine wpAny_bind (wpAny_field he hd h1 ?_)
    rw [if_neg (by decide)]
    refine wpAny_entryW hfr f3 W.fr he f1 f2 hd (Array.getElem?_eq_some_iff.mp h1).1 h0 fun h' hN=>?_
    obtain ⟨k1,k2,k3,k4⟩:=hN
    rw [hc] at k3
    exact h h' ⟨k1,f2,k2,k3⟩ k4
  · exact wpAny_noteFrame_againW W.fr x.2.2.2 (h s.heap x (Heap.UpToSlots.refl _))
  · exact wpAny_looks_onW hfr W.fr x h
theorem note_ok {M:Model}{A:Around}{E:Value→Shared→Prop}{e C:Addr}{a0:Value}{Q:Unit→Shared→Prop} (W:Own X) (hfr:A.frames=some X.stack) (nd:NoD e s.heap)
    (x:FreshW B X.stack e (.ref C) a0 s.heap∨Heap.HeldW B X.stack e (.ref C) a0 X.env.locals s.heap∨Heap.FlyingW B X.stack e (.ref C) a0 s.heap)
    (h:∀ h',Heap.HeldW B X.stack e (.ref C) a0 X.env.locals h'→s.heap.UpToSlots h'→NoD e h'→Q () { s with heap:=h' }):wpAny M A (noteFrame (.ref e) X.env) Q E s :=
  wpAny_mono ((tame_note (.ref e) X.env).any e (note_ok0 (E:=fun _ _=>False) (Q:=fun _ s'=>∃ h',s'={ s with heap:=h' }∧Heap.HeldW B X.stack e (.ref C) a0 X.env.locals h'∧s.heap.UpToSlots h') W hfr x fun h' a b=>⟨h',rfl,a,b⟩))
    (fun _ s' ⟨⟨h',e1,a,b⟩,k⟩=>by subst e1;exact h h' a b (nd.keep k)) fun _ _ ⟨z,_⟩=>z.elim
theorem lands_ok {M:Model}{A:Around}{E:Value→Shared→Prop}{e C:Addr}{a0:Value}{Q:Unit→Shared→Prop}{l:List Env}{L:Addr} (nd:NoD e s.heap) (R:Heap.HeldW B l e (.ref C) a0 L s.heap)
    (h:∀ h',Heap.FlyingW B l e (.ref C) a0 h'→s.heap.UpToSlots h'→NoD e h'→Q () { s with heap:=h' }):wpAny M A (setFlight (.ref e) none) Q E s :=
  wpAny_mono ((tame_setFlight (.ref e) none).any e (wpAny_landsW (E:=fun _ _=>False) (Q:=fun _ s'=>∃ h',s'={ s with heap:=h' }∧Heap.FlyingW B l e (.ref C) a0 h'∧s.heap.UpToSlots h') R fun h' a b=>⟨h',rfl,a,b⟩))
    (fun _ s' ⟨⟨h',e1,a,b⟩,k⟩=>by subst e1;exact h h' a b (nd.keep k)) fun _ _ ⟨z,_⟩=>z.elim
theorem flight_ok0 {M:Model}{A:Around}{E:Value→Shared→Prop}{e C:Addr}{a0:Value}{Q:Unit→Shared→Prop}{l:List Env}{L:Addr} (R:Heap.HeldW B l e (.ref C) a0 L s.heap)
    (h:∀ h',Heap.HeldW B l e (.ref C) a0 L h'→s.heap.UpToSlots h'→Q () { s with heap:=h' }):wpAny M A (setFlight (.ref e) (some L)) Q E s:=by
  obtain ⟨hkb,hen,hl,oe,vs,T,oT,ts,he,hcls,hd,h1,hnT,hTe,hT,hdT,h3⟩:=R
  have hsz3:3<ts.size:=(Array.getElem?_eq_some_iff.mp h3).1
  have other:∀ b,b≠T→(s.heap.update T (Obj.mapFields (·.setIfInBounds 3 ((some L).elim Value.none fun f=>rawInt f)))).get? b=s.heap.get? b :=
    fun b hb=>Heap.get?_update_other _ _ (Ne.symm hb)
  have noRecord:∀ b o,s.heap.get? b=some o→(∀ vs,o.data≠.fields vs)→b≠T:=fun b o hb hnf q=>by
    rw [q,hT] at hb;injection hb with hb;subst hb;exact hnf ts hdT
  unfold setFlight
  refine wpAny_bind (wpAny_field he hd h1 ?_)
  rw [if_pos (show (Value.ref T != Value.none)=true from by simp)]
  refine wpAny_setField hT hdT hsz3 (h _ ⟨fun b o hbo=>(other b fun q=>by rw [q,hnT] at hbo;cases hbo).trans (hkb b o hbo),hen,
    hl.of_keeps fun b o hb hnf=>⟨o,(other b (noRecord b o hb hnf)).trans hb,rfl⟩,?_⟩ fun b o hb hnf=>⟨o.slots,(other b (noRecord b o hb hnf)).trans hb⟩)
  exact ⟨oe,vs,T,_,_,(other e (Ne.symm hTe)).trans he,hcls,hd,h1,hnT,hTe,Heap.get?_update_self _ hT (Obj.isFreed_of_fields (Obj.data_mapFields hdT _)),Obj.data_mapFields hdT _,by simp [hsz3]⟩
theorem flight_ok {M:Model}{A:Around}{E:Value→Shared→Prop}{e C:Addr}{a0:Value}{Q:Unit→Shared→Prop}{l:List Env}{L:Addr} (nd:NoD e s.heap) (R:Heap.HeldW B l e (.ref C) a0 L s.heap)
    (h:∀ h',Heap.HeldW B l e (.ref C) a0 L h'→s.heap.UpToSlots h'→NoD e h'→Q () { s with heap:=h' }):wpAny M A (setFlight (.ref e) (some L)) Q E s :=
  wpAny_mono ((tame_setFlight (.ref e) (some L)).any e (flight_ok0 (E:=fun _ _=>False) (Q:=fun _ s'=>∃ h',s'={ s with heap:=h' }∧Heap.HeldW B l e (.ref C) a0 L h'∧s.heap.UpToSlots h') R fun h' a b=>⟨h',rfl,a,b⟩))
    (fun _ s' ⟨⟨h',e1,a,b⟩,k⟩=>by subst e1;exact h h' a b (nd.keep k)) fun _ _ ⟨z,_⟩=>z.elim
theorem passes_of (W:Own X) {E:Value→Shared→Prop} (hE:∀ u s,E u s→∃ pins σ H e C,u = .ref e∧Inv X pins σ H s∧XSt X pins H e C s.heap∧∀ h',Inv X pins σ H { s with heap:=h' }→XSt X pins H e C h'→E u { s with heap:=h' }) :
    PassesOwn (model X.prog X.w) X.A X.env E:=by
  intro u s hu
  obtain ⟨pins,σ,H,e,C,rfl,I,⟨B,a0,c,nd,x⟩,k⟩:=hE u s hu
  refine note_ok W I.ok.frames nd x fun h1 hh u1 nd1=>?_
  have I1:=Inv.upto W I c hh.1 u1 (tk:=s.toks)
  have c1:=c.upto W I hh.1
  show wpAny _ _ _ _ _ _
  have hh':=hh
  obtain ⟨k1,k2,k3,oe,vs,T,oT,ts,he,hcls,hd,h1',_⟩:=hh'
  refine wpAny_bind (wpAny_field he hd h1' ?_)
  rw [if_neg (show ¬ ((Value.ref T == Value.none)=true) from by simp)]
  rw [W.fr]
  first
    | refine wpAny_bind (wpAny_pure ?_)
    | skip
  refine flight_ok (s:={ s with heap:=h1 }) nd1 hh fun h2 hh2 u2 nd2=>?_
  have I2:=Inv.upto W I1 c1 hh2.1 u2 (tk:=s.toks)
  exact k h2 I2 ⟨B,a0,c1.upto W I1 hh2.1,nd2,.inr (.inl hh2)⟩
end
section
variable (X:Cx) (cl:Nat→Addr)
def OkS (pins:List (Addr×Obj)) (Hf0 H0 Hg:Hp) (r:SR) (f:Flow) (s:Shared):Prop:=match f with
  | .next=>∃ ρ σ Hf H,r = .next ρ∧Inv X pins σ H s∧Rep X.K cl Hf0 H0 Hf H σ ρ∧Same Hg Hf
  | .brk=>∃ ρ σ Hf H,r = .brk ρ∧Inv X pins σ H s∧Rep X.K cl Hf0 H0 Hf H σ ρ∧Same Hg Hf
  | .cont=>∃ ρ σ Hf H,r = .cont ρ∧Inv X pins σ H s∧Rep X.K cl Hf0 H0 Hf H σ ρ∧Same Hg Hf
  | .ret u=>∃ p v σ Hf H,r = .ret p∧Inv X pins σ H s∧Ext Hf0 H0 Hf H∧RelV v u∧Rp X.K cl Hf v p
def ExS (pins:List (Addr×Obj)) (Hf0 H0 Hg:Hp) (r:SR) (u:Value) (s:Shared):Prop :=
  ∃ c ρ σ Hf H e,r = .exc c ρ∧u = .ref e∧Inv X pins σ H s∧Rep X.K cl Hf0 H0 Hf H σ ρ∧Same Hg Hf∧XSt X pins H e (cl c) s.heap
structure MS (st:Stmt) (f:FS):Prop where
  run':∀ (pins:List (Addr×Obj)) (s:Shared) (σ:SV) (Hf0 H0 Hf H:Hp) (ρ:MEnv),Inv X pins σ H s→Rep X.K cl Hf0 H0 Hf H σ ρ→f ρ≠.stuck →
    wpAny (model X.prog X.w) X.A (exec st X.env) (OkS X cl pins Hf0 H0 Hf (f ρ)) (ExS X cl pins Hf0 H0 Hf (f ρ)) s
instance {st:Stmt}{f:FS}:CoeFun (MS X cl st f) fun _=>∀ (pins:List (Addr×Obj)) (s:Shared) (σ:SV) (Hf0 H0 Hf H:Hp) (ρ:MEnv),Inv X pins σ H s→Rep X.K cl Hf0 H0 Hf H σ ρ→f ρ≠.stuck →
    wpAny (model X.prog X.w) X.A (exec st X.env) (OkS X cl pins Hf0 H0 Hf (f ρ)) (ExS X cl pins Hf0 H0 Hf (f ρ)) s:=⟨MS.run'⟩
structure MSs (st:List Stmt) (f:FS):Prop where
  run':∀ (pins:List (Addr×Obj)) (s:Shared) (σ:SV) (Hf0 H0 Hf H:Hp) (ρ:MEnv),Inv X pins σ H s→Rep X.K cl Hf0 H0 Hf H σ ρ→f ρ≠.stuck →
    wpAny (model X.prog X.w) X.A (execs st X.env) (OkS X cl pins Hf0 H0 Hf (f ρ)) (ExS X cl pins Hf0 H0 Hf (f ρ)) s
instance {st:List Stmt}{f:FS}:CoeFun (MSs X cl st f) fun _=>∀ (pins:List (Addr×Obj)) (s:Shared) (σ:SV) (Hf0 H0 Hf H:Hp) (ρ:MEnv),Inv X pins σ H s→Rep X.K cl Hf0 H0 Hf H σ ρ→f ρ≠.stuck →
    wpAny (model X.prog X.w) X.A (execs st X.env) (OkS X cl pins Hf0 H0 Hf (f ρ)) (ExS X cl pins Hf0 H0 Hf (f ρ)) s:=⟨MSs.run'⟩
end
section
variable {X:Cx}{cl:Nat→Addr}{pins:List (Addr×Obj)}{s:Shared}{σ:SV}{Hf0 H0 Hf H Hf1 H1:Hp}{ρ:MEnv}{α:Type}
theorem exs_of {c:Nat}{u:Value}{s':Shared} (r:Rep X.K cl Hf0 H0 Hf H σ ρ) (x:XAt X cl pins σ Hf H c u s'):ExS X cl pins Hf0 H0 Hf (.exc c ρ) u s':=by
  obtain ⟨e,Hf',H',rfl,I,ex,st⟩:=x
  exact ⟨c,ρ,σ,Hf',H',e,rfl,rfl,I,r.keep ex,ex.frz,st⟩
theorem OkS.from {Hg Hg':Hp}{r:SR}{fl:Flow}{s':Shared} (g:Same Hg Hg') (h:OkS X cl pins Hf0 H0 Hg' r fl s'):OkS X cl pins Hf0 H0 Hg r fl s':=by
  cases fl with
  | next=>obtain ⟨ρ,σ,Hf,H,a,b,c,d⟩:=h;exact ⟨ρ,σ,Hf,H,a,b,c,g.trans d⟩
  | brk=>obtain ⟨ρ,σ,Hf,H,a,b,c,d⟩:=h;exact ⟨ρ,σ,Hf,H,a,b,c,g.trans d⟩
  | cont=>obtain ⟨ρ,σ,Hf,H,a,b,c,d⟩:=h;exact ⟨ρ,σ,Hf,H,a,b,c,g.trans d⟩
  | ret u=>exact h
theorem ExS.from {Hg Hg':Hp}{r:SR}{u:Value}{s':Shared} (g:Same Hg Hg') (h:ExS X cl pins Hf0 H0 Hg' r u s'):ExS X cl pins Hf0 H0 Hg r u s':=by
  obtain ⟨c,ρ,σ,Hf,H,e,a,b,d,f,k,l⟩:=h
  exact ⟨c,ρ,σ,Hf,H,e,a,b,d,f,g.trans k,l⟩
theorem ME.stm {e:Expr}{f:FE} (h:ME X cl e f) (I:Inv X pins σ H s) (r:Rep X.K cl Hf0 H0 Hf H σ ρ) {k:PV→SR} (hs:ofR (f ρ) ρ k≠.stuck) {Q:Value→Shared→Prop}
    (ok:∀ p v u s' Hf' H',ofR (f ρ) ρ k=k p→Inv X pins σ H' s'→RelV v u→Ext Hf H Hf' H'→Rp X.K cl Hf' v p→Q u s') :
    wpAny (model X.prog X.w) X.A (eval e X.env) Q (ExS X cl pins Hf0 H0 Hf (ofR (f ρ) ρ k)) s:=by
  have hf:f ρ≠.stuck:=fun z=>hs (by rw [z];rfl)
  refine wpAny_mono (h pins s σ Hf0 H0 Hf H ρ I r hf) (fun u s' q=>?_) fun u s' q=>?_
  · obtain ⟨p,v,Hf',H',e1,I',rv,ex,rp⟩:=q
    exact ok p v u s' Hf' H' (by rw [e1];rfl) I' rv ex rp
  · obtain ⟨c,e1,x⟩:=q
    rw [e1]
    exact exs_of r x
theorem mss_nil:MSs X cl [] sNext:=⟨fun pins s σ Hf0 H0 Hf H ρ I r _=>wpAny_execs_nil ⟨ρ,σ,Hf,H,rfl,I,r,Same.refl _⟩⟩
theorem mss_cons {st:Stmt}{rest:List Stmt}{f g:FS} (h1:MS X cl st f) (h2:MSs X cl rest g):MSs X cl (st::rest) (sSeq f g):=by
  refine ⟨?_⟩
  intro pins s σ Hf0 H0 Hf H ρ I r hs
  have hf:f ρ≠.stuck:=fun z=>hs (by unfold sSeq;rw [z])
  refine wpAny_execs_cons (wpAny_mono (h1 pins s σ Hf0 H0 Hf H ρ I r hf) (fun fl s1 q=>?_) fun u s1 q=>?_)
  · cases fl with
    | next =>
      obtain ⟨ρ',σ',Hf',H',e1,I',r',sm⟩:=q
      have e2:sSeq f g ρ=g ρ':=by unfold sSeq;rw [e1]
      rw [e2] at hs ⊢
      exact wpAny_mono (h2 pins s1 σ' Hf0 H0 Hf' H' ρ' I' r' hs) (fun _ _ q=>q.from sm) fun _ _ q=>q.from sm
    | brk =>
      obtain ⟨ρ',σ',Hf',H',e1,I',r',sm⟩:=q
      have e2:sSeq f g ρ = .brk ρ':=by unfold sSeq;rw [e1]
      rw [e2];exact ⟨ρ',σ',Hf',H',rfl,I',r',sm⟩
    | cont =>
      obtain ⟨ρ',σ',Hf',H',e1,I',r',sm⟩:=q
      have e2:sSeq f g ρ = .cont ρ':=by unfold sSeq;rw [e1]
      rw [e2];exact ⟨ρ',σ',Hf',H',rfl,I',r',sm⟩
    | ret u =>
      obtain ⟨p,v,σ',Hf',H',e1,I',ex,rv,rp⟩:=q
      have e2:sSeq f g ρ = .ret p:=by unfold sSeq;rw [e1]
      rw [e2];exact ⟨p,v,σ',Hf',H',rfl,I',ex,rv,rp⟩
  · obtain ⟨c,ρ',σ',Hf',H',e,e1,eu,I',r',sm,x⟩:=q
    have e2:sSeq f g ρ = .exc c ρ':=by unfold sSeq;rw [e1]
    rw [e2];exact ⟨c,ρ',σ',Hf',H',e,rfl,eu,I',r',sm,x⟩
theorem mss_one {st:Stmt}{f:FS} (h1:MS X cl st f):MSs X cl [st] f:=by
  refine ⟨?_⟩
  intro pins s σ Hf0 H0 Hf H ρ I r hs
  refine wpAny_execs_cons (thn (h1 pins s σ Hf0 H0 Hf H ρ I r hs) fun fl s1 q=>?_)
  cases fl with
  | next=>exact wpAny_execs_nil q
  | ret v=>exact q
  | brk=>exact q
  | cont=>exact q
theorem ms_expr {e:Expr}{f:FE}{pos:Pos} (h:ME X cl e f) (hsw:swapsWith e none pos.line X.env=pure false:=by rfl):MS X cl (.Expr e pos) (sExpr f):=by
  refine ⟨?_⟩
  intro pins s σ Hf0 H0 Hf H ρ I r hs
  unfold sExpr at hs ⊢
  refine wpAny_Expr_any (h.stm I r hs fun p v u s1 Hf1 H1 e1 I1 rv x1 rp=>?_) I.quiet hsw
  rw [e1]
  exact ⟨ρ,σ,Hf1,H1,rfl,I1,r.keep x1,x1.frz⟩
theorem ms_ret {e:Expr}{f:FE}{pos:Pos} (h:ME X cl e f):MS X cl (.Return (some e) pos) (sRet f):=by
  refine ⟨?_⟩
  intro pins s σ Hf0 H0 Hf H ρ I r hs
  unfold sRet at hs ⊢
  refine wpAny_Return_some (h.stm I r hs fun p v u s1 Hf1 H1 e1 I1 rv x1 rp=>?_)
  rw [e1]
  exact ⟨p,v,σ,Hf1,H1,rfl,I1,r.ext.trans x1,rv,rp⟩
theorem ms_set {i:Nat}{x:Str}{e:Expr}{f:FE}{pos pos':Pos} (hN:X.N.Nodup) (hi:X.N[i]?=some x) (hx:Loc X.env.scope x) (he:ME X cl e f) (hsw:swapsWith e (some (.Name x pos')) pos.line X.env=pure false:=by rfl)
    (hf:X.fn x=true∨X.env.scope.names.lookup x=some .local:=by first | exact .inl rfl | exact .inr rfl | assumption):MS X cl (.Assign [.Name x pos'] e pos) (sSet i f):=by
  refine ⟨?_⟩
  intro pins s σ Hf0 H0 Hf H ρ I r hs
  unfold sSet at hs ⊢
  refine wpAny_Assign_Name (he.stm I r hs fun p v u s1 Hf1 H1 e1 I1 rv x1 rp=>?_) hsw
  rw [e1]
  have hl:i<σ.length:=by rw [I.len];exact (List.getElem?_eq_some_iff.mp hi).1
  exact store_ok I1 hN hi hx rv (fun s2 I2=>⟨_,_,Hf1,H1,rfl,I2,(r.keep x1).set i rp hl,x1.frz⟩) hf
theorem ms_if {c:Expr}{a b:List Stmt}{t:FT}{f g:FS}{pos:Pos} (hc:MT X cl c t) (ha:MSs X cl a f) (hb:MSs X cl b g):MS X cl (.If c a b pos) (sIf t f g):=by
  refine ⟨?_⟩
  intro pins s σ Hf0 H0 Hf H ρ I r hs
  have ht:t ρ≠.stuck:=fun z=>hs (by unfold sIf;rw [z])
  refine wpAny_If (wpAny_mono (hc pins s σ Hf0 H0 Hf H ρ I r ht) (fun d s1 q=>?_) fun u s1 q=>?_)
  · obtain ⟨Hf1,H1,e1,I1,x1⟩:=q
    cases d with
    | true =>
      have e2:sIf t f g ρ=f ρ:=by unfold sIf;rw [e1];rfl
      rw [e2] at hs ⊢
      exact wpAny_mono (ha pins s1 σ Hf0 H0 Hf1 H1 ρ I1 (r.keep x1) hs) (fun _ _ q=>q.from x1.frz) fun _ _ q=>q.from x1.frz
    | false =>
      have e2:sIf t f g ρ=g ρ:=by unfold sIf;rw [e1];rfl
      rw [e2] at hs ⊢
      exact wpAny_mono (hb pins s1 σ Hf0 H0 Hf1 H1 ρ I1 (r.keep x1) hs) (fun _ _ q=>q.from x1.frz) fun _ _ q=>q.from x1.frz
  · obtain ⟨c,e1,x⟩:=q
    have e2:sIf t f g ρ = .exc c ρ:=by unfold sIf;rw [e1]
    rw [e2]
    exact exs_of r x
def Over (J:It) (Hg:Hp) (vs:List V):Prop:=∀ H i,Same Hg H→(i<vs.length→J.go i H∧∀ x H',J.yld i H x H'→H'=H∧vs[i]?=some x)∧(vs.length≤i→J.stop i H)
def OkI (X:Cx) (cl:Nat→Addr) (tg:Expr) (pins:List (Addr×Obj)) (σ:SV) (Hf H:Hp) (r:R (List PV)) (itv:Value) (s2:Shared):Prop :=
  ∃ (ps:List PV) (vs:List V) (Hf':Hp),r = .ok ps∧PIE X pins σ tg (fun J H'=>Ext Hf H Hf' H'∧Over J Hf' vs∧Rps X.K cl Hf' vs ps) itv s2
structure MI (X:Cx) (cl:Nat→Addr) (tg iter:Expr) (f:FA):Prop where
  run':∀ (pins:List (Addr×Obj)) (s:Shared) (σ:SV) (Hf0 H0 Hf H:Hp) (ρ:MEnv),Inv X pins σ H s→Rep X.K cl Hf0 H0 Hf H σ ρ→f ρ≠.stuck →
    wpAny (model X.prog X.w) X.A (eval iter X.env) (fun v s1=>wpAny (model X.prog X.w) X.A (pyIter v) (OkI X cl tg pins σ Hf H (f ρ)) (ExP X cl pins σ Hf H (f ρ)) s1) (ExP X cl pins σ Hf H (f ρ)) s
instance {X:Cx}{cl:Nat→Addr}{tg iter:Expr}{f:FA}:CoeFun (MI X cl tg iter f) fun _=>∀ (pins:List (Addr×Obj)) (s:Shared) (σ:SV) (Hf0 H0 Hf H:Hp) (ρ:MEnv),Inv X pins σ H s→Rep X.K cl Hf0 H0 Hf H σ ρ→f ρ≠.stuck →
    wpAny (model X.prog X.w) X.A (eval iter X.env) (fun v s1=>wpAny (model X.prog X.w) X.A (pyIter v) (OkI X cl tg pins σ Hf H (f ρ)) (ExP X cl pins σ Hf H (f ρ)) s1) (ExP X cl pins σ Hf H (f ρ)) s:=⟨MI.run'⟩
theorem over_tup {K:PySem.W.Frag}{a:Addr}{xs:List V}{Hg:Hp} (h:SqT K Hg a xs):Over (Itt K a) Hg xs:=fun H i sm =>
  ⟨fun hi=>⟨⟨xs,xs[i],Same.seqT sm h,by simp [hi]⟩,fun x H' ⟨e,y⟩=>⟨e,y xs (Same.seqT sm h)⟩⟩,fun hi=>⟨xs,Same.seqT sm h,hi⟩⟩
theorem over_list' {K:PySem.W.Frag}{a:Addr}{xs:List V}{Hg:Hp} (h:SqL K Hg a xs):Over (Itl K a) Hg xs:=fun H i sm =>
  ⟨fun hi=>⟨⟨xs,xs[i],sm.seq h,by simp [hi]⟩,fun x H' ⟨e,y⟩=>⟨e,y xs (sm.seq h)⟩⟩,fun hi=>⟨xs,sm.seq h,hi⟩⟩
theorem mi_seq {tg iter:Expr}{f:FE} (h:ME X cl iter f):MI X cl tg iter (iSeq f):=by
  refine ⟨?_⟩
  intro pins s σ Hf0 H0 Hf H ρ I r hs
  unfold iSeq at hs ⊢
  refine h.run I r (Ext.refl r.sub) hs fun p v u s1 Hf1 H1 e1 I1 rv x1 rp=>?_
  rw [e1] at hs ⊢
  cases p<;>first
    | exact absurd rfl hs
    | skip
  · rename_i l
    cases rp with
    | tup hq rr =>
      cases rv
      obtain ⟨its,w,pl,hz⟩:=I1.tuple (Same.seqT x1.sub hq)
      refine wpAny_pyIter_tuple (show s1.heap.IsTuple _ its.toArray from pl) ?_
      refine ⟨l,_,Hf1,rfl,s1.heap.objs.size,[s1.heap.objs.size],_,_,H1,rfl,I1.kept (t':=s1.toks) fun b o e=>Heap.get?_push_of_some _ e,turn_tuple _ _,⟨_,Heap.get?_push_size _ rfl,rfl,rfl⟩,fun b hb=>?_,x1,over_tup hq,rr⟩
      have e:b=s1.heap.objs.size:=by simpa using hb
      subst e
      exact I1.fpOk (Nat.le_refl _) (I1.hok.fresh (Nat.le_refl _))
  · rename_i l
    cases rp with
    | lst hq rr =>
      cases rv
      obtain ⟨its,w,pl,hz⟩:=I1.list (x1.sub.seq hq)
      refine wpAny_pyIter_list pl.isList ?_
      refine ⟨l,_,Hf1,rfl,s1.heap.objs.size,[s1.heap.objs.size],_,_,H1,rfl,I1.kept (t':=s1.toks) fun b o e=>Heap.get?_push_of_some _ e,turn_list _ _,⟨_,Heap.get?_push_size _ rfl,rfl,rfl⟩,fun b hb=>?_,x1,over_list' hq,rr⟩
      have e:b=s1.heap.objs.size:=by simpa using hb
      subst e
      exact I1.fpOk (Nat.le_refl _) (I1.hok.fresh (Nat.le_refl _))
theorem passes_exs (W:Own X) {r:SR}{Hg:Hp}:PassesOwn (model X.prog X.w) X.A X.env (ExS X cl pins Hf0 H0 Hg r):=passes_of W fun u s ⟨c,ρ,σ,Hf,H,e,e1,eu,I,rr,sm,x⟩ =>
  ⟨pins,σ,H,e,cl c,eu,I,x,fun h' I' x'=>⟨c,ρ,σ,Hf,H,e,e1,eu,I',rr,sm,x'⟩⟩
theorem ms_for {i:Nat}{x:Str}{iter:Expr}{body:List Stmt}{f:FA}{g:FS}{pos pos':Pos} (W:Own X) (hc:X.calm=true) (hN:X.N.Nodup) (hi:X.N[i]?=some x) (hx:Loc X.env.scope x) (h:MI X cl (.Name x pos') iter f) (hb:MSs X cl body g)
    (hf:X.fn x=true∨X.env.scope.names.lookup x=some .local:=by first | exact .inl rfl | exact .inr rfl | assumption) (hfs:∀ y,foldedSetIterable iter X.env y=pure y:=by intro _;rfl) :
    MS X cl (.For (.Name x pos') iter body [] pos) (sFor i f g):=by
  refine ⟨?_⟩
  intro pins s σ Hf0 H0 Hf H ρ I r hs
  have hfr:f ρ≠.stuck:=fun z=>hs (by unfold sFor;rw [z])
  have hE:∀ u s',ExP X cl pins σ Hf H (f ρ) u s'→ExS X cl pins Hf0 H0 Hf (sFor i f g ρ) u s':=fun u s' ⟨c,e1,y⟩=>by
    have e2:sFor i f g ρ = .exc c ρ:=by unfold sFor;rw [e1]
    rw [e2];exact exs_of r y
  refine wpAny_For (wpAny_mono (h pins s σ Hf0 H0 Hf H ρ I r hfr) (fun v s1 h1=>wpAny_mono h1 (fun itv s2 h2=>?_) hE) hE) hfs
  obtain ⟨ps,vs,Hf2,e1,it,fp,tn,J,H2,e,I2,T,st2,f2,x2,ov,rps⟩:=h2
  subst e
  have e2:sFor i f g ρ=forL i g ps ρ:=by unfold sFor;rw [e1]
  rw [e2] at hs ⊢
  have hp:PassesOwn (model X.prog X.w) X.A X.env (ExS X cl pins Hf0 H0 Hf (forL i g ps ρ)):=passes_exs W
  have stat:∀ {H':Hp},(∀ b∈fp,H' b=none)→∀ b∈fp,FpOk X pins H' b:=fun hn b hb=>⟨hn b hb,(f2 b hb).2⟩
  have hil:∀ {σ':SV}{H':Hp}{s':Shared},Inv X pins σ' H' s'→i<σ'.length:=fun I'=>by rw [I'.len];exact (List.getElem?_eq_some_iff.mp hi).1
  refine codeAny_forLoop_any (fun n s'=>∃ k ρ' σ' Hf' H',Inv X pins σ' H' s'∧tn k s'.heap∧(∀ b∈fp,H' b=none)∧Rep X.K cl Hf0 H0 Hf' H' σ' ρ'∧Same Hf2 Hf'∧n=ps.length - k∧k≤ps.length∧forL i g (ps.drop k) ρ'=forL i g ps ρ) ?_ ps.length
    ⟨0,ρ,σ,Hf2,H2,I2,st2,fun b hb=>(f2 b hb).1,r.keep x2,Same.refl _,rfl,Nat.zero_le _,rfl⟩
  rintro n s3 ⟨k,ρ3,σ3,Hf3,H3,I3,st3,fr3,r3,sm3,rfl,hk,e3⟩
  have hvp:=rps.length
  have smH:Same Hf2 H3:=sm3.trans r3.sub
  by_cases hlt:k<ps.length
  · obtain ⟨go,yl⟩:=(ov H3 k smH).1 (by rw [hvp];exact hlt)
    refine wpAny_passesOwn hp (wpAny_mono (T.item X rfl rfl rfl hc k pins s3 σ3 H3 (ExS X cl pins Hf0 H0 Hf (forL i g ps ρ)) I3 (stat fr3) st3 go) (fun rr s4 ⟨u,hr,h4⟩=>?_) fun _ _ z=>z)
    subst hr
    refine wpAny_passesOwn hp (thn h4 fun _ s5 ⟨x5,H5,I5,r5,y5,st5,fr5⟩=>?_)
    obtain ⟨eH,ex5⟩:=yl x5 H5 y5
    subst eH
    obtain ⟨p5,ep5,rp5⟩:=rps.get' ex5
    have rp5':=rp5.keep sm3
    have hdrop:ps.drop k=p5::ps.drop (k+1):=by
      rw [List.drop_eq_getElem_cons hlt]
      rw [List.getElem?_eq_getElem hlt] at ep5
      rw [Option.some.inj ep5]
    have I5':=I5.pinned (stat fr5) (T.obj _ _ st5)
    refine wpAny_passesOwn hp (wpAny_assign_Name (store_ok I5' hN hi hx r5 (fun s6 I6=>?_) hf))
    have r6:=r3.set i rp5' (hil I3)
    rw [hdrop] at e3
    have step:forL i g (p5::ps.drop (k+1)) ρ3=(match g (ρ3.set i (some p5)) with | .next ρ'=>forL i g (ps.drop (k+1)) ρ' | .cont ρ'=>forL i g (ps.drop (k+1)) ρ' | .brk ρ'=>.next ρ' | o=>o):=rfl
    rw [step] at e3
    have hg:g (ρ3.set i (some p5))≠.stuck:=fun z=>hs (by rw [← e3,z])
    have smHf:Same Hf Hf3:=x2.frz.trans sm3
    refine wpAny_passesOwn hp (wpAny_mono (hb _ s6 _ Hf0 H0 Hf3 H5 _ I6 r6 hg) (fun fl s7 q7=>?_) fun u s7 q7=>?_)
    · have again:∀ {ρ7:MEnv}{σ7:SV}{Hf7 H7:Hp},Inv X (pins ++ pinsAt fp s5.heap) σ7 H7 s7→Rep X.K cl Hf0 H0 Hf7 H7 σ7 ρ7→Same Hf2 Hf7→forL i g (ps.drop (k+1)) ρ7=forL i g ps ρ →
          ∃ m,m<ps.length - k∧∃ k ρ' σ' Hf' H',Inv X pins σ' H' s7∧tn k s7.heap∧(∀ b∈fp,H' b=none)∧Rep X.K cl Hf0 H0 Hf' H' σ' ρ'∧Same Hf2 Hf'∧m=ps.length - k∧k≤ps.length∧forL i g (ps.drop k) ρ'=forL i g ps ρ:=fun {ρ7 σ7 Hf7 H7} I7 r7 sm7 e7=>by
        refine ⟨ps.length - (k+1),by omega,k+1,ρ7,σ7,Hf7,H7,I7.unpinned,T.keep _ _ _ st5 fun b hb o e=>(I7.pin (b,o) (List.mem_append_right _ (List.mem_append_right _ (mem_pinsAt hb e)))).1,fun b hb=>?_,r7,sm7,rfl,hlt,e7⟩
        obtain ⟨o,e,d⟩:=T.obj _ _ st5 b hb
        exact (I7.pin (b,o) (List.mem_append_right _ (List.mem_append_right _ (mem_pinsAt hb e)))).2.1
      cases fl with
      | next =>
        obtain ⟨ρ7,σ7,Hf7,H7,e7,I7,r7,sm7⟩:=q7
        rw [e7] at e3
        exact again I7 r7 (sm3.trans sm7) e3
      | cont =>
        obtain ⟨ρ7,σ7,Hf7,H7,e7,I7,r7,sm7⟩:=q7
        rw [e7] at e3
        exact again I7 r7 (sm3.trans sm7) e3
      | brk =>
        obtain ⟨ρ7,σ7,Hf7,H7,e7,I7,r7,sm7⟩:=q7
        rw [e7] at e3
        rw [← e3]
        exact ⟨ρ7,σ7,Hf7,H7,rfl,I7.unpinned,r7,smHf.trans sm7⟩
      | ret u =>
        obtain ⟨p7,v7,σ7,Hf7,H7,e7,I7,ex7,rv7,rp7⟩:=q7
        rw [e7] at e3
        rw [← e3]
        exact ⟨p7,v7,σ7,Hf7,H7,rfl,I7.unpinned,ex7,rv7,rp7⟩
    · obtain ⟨c7,ρ7,σ7,Hf7,H7,ee7,e7,eu7,I7,r7,sm7,x7⟩:=q7
      rw [e7] at e3
      rw [← e3]
      exact ⟨c7,ρ7,σ7,Hf7,H7,ee7,rfl,eu7,I7.unpinned,r7,smHf.trans sm7,x7.fewer⟩
  · have hke:k=ps.length:=by omega
    subst hke
    refine wpAny_passesOwn hp (thn (T.done X rfl rfl rfl hc ps.length pins s3 σ3 H3 _ I3 (stat fr3) st3 ((ov H3 ps.length smH).2 (by rw [hvp];exact Nat.le_refl _))) fun rr s4 ⟨hr,I4⟩=>?_)
    subst hr
    rw [List.drop_length] at e3
    rw [← e3]
    exact wpAny_execs_nil ⟨ρ3,σ3,Hf3,H3,rfl,I4,r3,x2.frz.trans sm3⟩
end
section
variable {K:PySem.W.Frag}{cl:Nat→Addr}{Hf H:Hp}
theorem rep_start {n:Nat}{N:List Str}{vs:List V}{ps:List PV} (hn:N.length=n) (sm:Same Hf H) (r:Rps K cl Hf vs ps):Rep K cl Hf H Hf H (L2.start N vs) (Mi.start n ps):=by
  have hl:=r.length
  have get:∀ {i:Nat}{p:PV},(Mi.start n ps)[i]?=some (some p)→ps[i]?=some p:=fun {i p} h=>by
    unfold Mi.start at h
    by_cases hi:i<ps.length
    · rw [List.getElem?_append_left (by simpa using hi),List.getElem?_map] at h
      cases e:ps[i]? with
      | none=>rw [e] at h;cases h
      | some q=>rw [e] at h;cases h;rfl
    · rw [List.getElem?_append_right (by simpa using hi),List.getElem?_replicate] at h
      split at h<;>cases h
  have noown:∀ {i:Nat}{l:List PV},ps[i]?≠some (.own l):=fun {i l} e=>by
    obtain ⟨v,_,h⟩:=r.get e
    cases h
  refine ⟨Ext.refl sm,fun i p h=>?_,fun i j a b _ h _ _ _=>absurd (get h) noown⟩
  have e:=get h
  obtain ⟨v,h1,h2⟩:=r.get e
  refine ⟨v,?_,?_⟩
  · unfold L2.start
    have hi:i<vs.length:=(List.getElem?_eq_some_iff.mp h1).1
    rw [List.getElem?_append_left (by simpa using hi),List.getElem?_map,h1]
    rfl
  · cases p with
    | own l=>exact absurd e noown
    | _=>exact h2
end
section
variable {P:Program}{w:World}{K:PySem.W.Frag}{mg:Str→Option Value}{base:Heap}{cl:Nat→Addr}
noncomputable abbrev cxM (P:Program) (w:World) (K:PySem.W.Frag) (mg:Str→Option Value) (base:Heap) (cl:Nat→Addr) (N:List Str) (qual:Str) (scope:Scope) (f:Addr) (cd:Value) (A:Around) (outer:List Env) (s:Shared) (H:Hp) (E:XK):Cx :=
  cxOf (CXm cl P w) P w K mg base N qual scope f cd A outer s H E
theorem own_cx {N:List Str}{qual:Str}{scope:Scope}{f:Addr}{cd:Value}{A:Around}{outer:List Env}{s:Shared}{H:Hp}{E:XK}:Own (cxM P w K mg base cl N qual scope f cd A outer s H E) :=
  ⟨rfl,rfl,fun b z=>absurd (show b∈([]:List Addr) from z) (by simp),fun _=>rfl⟩
theorem leaves_ok {N:List Str}{qual:Str}{scope:Scope}{f:Addr}{cd:Value}{A:Around}{outer:List Env}{s s':Shared}{H H':Hp}{E:XK}{pins:List (Addr×Obj)}{σ:SV}{e:Addr}{c:Nat}
    (I:Inv (cxM P w K mg base cl N qual scope f cd A outer s H E) pins σ H' s') (x:XSt (cxM P w K mg base cl N qual scope f cd A outer s H E) pins H' e (cl c) s'.heap) (hE:E (.ref (cl c)) none H') :
    (cxM P w K mg base cl N qual scope f cd A outer s H E).xe (.ref e) s':=by
  have W:=own_cx (P:=P) (w:=w) (K:=K) (mg:=mg) (base:=base) (cl:=cl) (N:=N) (qual:=qual) (scope:=scope) (f:=f) (cd:=cd) (A:=A) (outer:=outer) (s:=s) (H:=H) (E:=E)
  obtain ⟨B,a0,cov,nd,st⟩:=x
  show wpAny _ _ (leaving _ _) _ _ s'
  unfold leaving
  refine wpAny_bind (note_ok W I.ok.frames nd st fun h1 hh u1 nd1=>?_)
  have I1:=Inv.upto W I cov hh.1 u1 (tk:=s'.toks)
  have c1:=cov.upto W I hh.1
  refine lands_ok (s:={ s' with heap:=h1 }) nd1 hh fun h2 hf u2 nd2=>?_
  have I2:=Inv.upto W I1 c1 hf.1 u2 (tk:=s'.toks)
  have c2:=c1.upto W I1 hf.1
  refine ⟨e,c,H',B,a0,rfl,I2.os,I2.bare,I2.base,I2.hok,?_,fun b o hb hc hn=>?_,nd2,hE⟩
  · have hf':Heap.FlyingW B ((cxM P w K mg base cl N qual scope f cd A outer s H E).env::outer) e (.ref (cl c)) a0 h2:=hf
    obtain ⟨k1,k2,⟨_,_,k3⟩,k4⟩:=hf'
    exact ⟨k1,k2,k3,k4⟩
  · refine c2 b o hb ?_ fun z=>?_
    · rcases hc with hc | hc
      · exact .inl hc
      · exact .inr (.inr (.inl hc))
    · rcases (frs_stk W).mp z with z | z
      · rcases hc with hc | ⟨o₀,hc⟩
        · exact hc (by rw [z];exact I2.free)
        · have h1:=Heap.lt_size hc
          rw [z] at h1
          exact absurd (Nat.lt_of_lt_of_le h1 I2.ok.above) (Nat.lt_irrefl _)
      · exact hn z
theorem fn_mirror {x qual:Str}{st:Stmt}{f:Addr}{fd:FuncData}{N ps:List Str}{k n:Nat}{b:FS} (F:Fun K x qual st f fd) (S:FnScope N ps (defScope st)) (hn:ps.length=n)
    (hbody:∀ (cdv:Value) (A:Around) (outer:List Env) (s:Shared) (H:Hp) (E:XK),Room k (A.deeper (envOfC qual (defScope st) s.heap.objs.size f cdv)) →
      MSs (cxM P w K mg base cl N qual (defScope st) f cdv A outer s H E) cl (defBody st) b):FnOk P w K mg base (CXm cl P w) (k+1) f fd ps (spF K cl n (runF N.length b)):=by
  obtain ⟨oc,od,kV,doc,pm,an,cdv,ct,osl,rfl,lk,hcd⟩:=F.ex
  refine fn_of lk hcd S (fun vs H Q E h=>by rw [h.1,hn]) fun A outer s H vs Q E hr hsp=>?_
  obtain ⟨hl,Hf,qs,sm,rps,hs,hok,hex⟩:=hsp
  have hb:=hbody cdv A outer s H E hr
  have hs':b (Mi.start N.length qs)≠.stuck:=fun z=>hs (by unfold runF;rw [z])
  refine ⟨fun D σ H1=>σ=L2.start N vs∧H1=H∧D={ nx:=fun _ H'=>Q .non H',rt:=Q },fun pins s1 σ H1 D I h=>?_,rfl,rfl,rfl⟩
  obtain ⟨rfl,rfl,rfl⟩:=h
  refine wpAny_mono (hb pins s1 _ Hf H1 Hf H1 _ I (rep_start rfl sm rps) hs') (fun fl s2 q=>?_) fun u s2 q=>?_
  · cases fl with
    | next =>
      obtain ⟨ρ',σ',Hf',H',e1,I',r',_⟩:=q
      exact ⟨σ',H',I',hok .non .non Hf' H' (by unfold runF;rw [e1]) r'.ext .non⟩
    | ret u =>
      obtain ⟨p,v,σ',Hf',H',e1,I',ex,rv,rp⟩:=q
      exact ⟨v,σ',H',I',rv,hok p v Hf' H' (by unfold runF;rw [e1]) ex rp⟩
    | brk =>
      obtain ⟨ρ',σ',Hf',H',e1,I',r',_⟩:=q
      exact absurd (by unfold runF;rw [e1]) hs
    | cont =>
      obtain ⟨ρ',σ',Hf',H',e1,I',r',_⟩:=q
      exact absurd (by unfold runF;rw [e1]) hs
  · obtain ⟨c,ρ',σ',Hf',H',e,e1,rfl,I',r',_,x⟩:=q
    exact leaves_ok I' x (hex c Hf' H' (by unfold runF;rw [e1]) r'.ext)
end
noncomputable def tyS:Ty→String
  | .int=>"int" | .bool=>"bool" | .str=>"str" | .tuple=>"tuple" | .list=>"list" | .dict=>"dict"
noncomputable def tyN:Ty→Str
  | .int=>"int" | .bool=>"bool" | .str=>"str" | .tuple=>"tuple" | .list=>"list" | .dict=>"dict"
theorem tyN_boot (t:Ty):bootBuiltins (tyN t)=some (.type (tyS t)):=by
  cases t
  · exact boot_int
  · exact boot_bool
  · exact boot_str
  · exact boot_tuple
  · exact boot_list
  · exact boot_dict
section
variable {K:PySem.W.Frag}
theorem kit_none (t:Ty):PySem.W.kitOne K (.type "NoneType") (.type (tyS t))=some false:=by cases t<;>rfl
theorem kit_bool (t:Ty):PySem.W.kitOne K (.type "bool") (.type (tyS t))=some (match t with | .int=>true | .bool=>true | _=>false):=by cases t<;>rfl
theorem kit_int (t:Ty):PySem.W.kitOne K (.type "int") (.type (tyS t))=some (match t with | .int=>true | _=>false):=by cases t<;>rfl
theorem kit_str (t:Ty):PySem.W.kitOne K (.type "str") (.type (tyS t))=some (match t with | .str=>true | _=>false):=by cases t<;>rfl
theorem kit_tuple (t:Ty):PySem.W.kitOne K (.type "tuple") (.type (tyS t))=some (match t with | .tuple=>true | _=>false):=by cases t<;>rfl
theorem kit_list (t:Ty):PySem.W.kitOne K (.type "list") (.type (tyS t))=some (match t with | .list=>true | _=>false):=by cases t<;>rfl
theorem kit_dict (t:Ty):PySem.W.kitOne K (.type "dict") (.type (tyS t))=some (match t with | .dict=>true | _=>false):=by cases t<;>rfl
end
section
variable {X:Cx}{cl:Nat→Addr}{pins:List (Addr×Obj)}{s:Shared}{σ:SV}{Hf0 H0 Hf H Hf1 H1:Hp}{ρ:MEnv}{α:Type}
theorem isinst_run {p:PV}{v:V}{u:Value}{t:Ty}{b:Bool}{E:Value→Shared→Prop} (I:Inv X pins σ H s) (sm:Same Hf H) (rv:RelV v u) (rp:Rp X.K cl Hf v p) (h:isTy p t=some b) :
    wpAny (model X.prog X.w) X.A (call (.builtin "isinstance") [u,.type (tyS t)]) (OkP X cl pins σ Hf H (.ok (.bl b))) E s:=by
  have fin:∀ tk,OkP X cl pins σ Hf H (.ok (.bl b)) (.bool b) { s with toks:=tk }:=fun tk=>⟨.bl b,.bl b,Hf,H,rfl,I.tok _,rfl,Ext.refl sm,.bl b⟩
  cases rp with
  | non=>cases rv;exact PySem.W.kia_one PySem.W.kitx_none I.kIn True.intro (by rw [kit_none];cases t<;>exact h) (fun z=>nomatch z) fin
  | bl c=>cases rv;exact PySem.W.kia_one PySem.W.kitx_bool I.kIn True.intro (by rw [kit_bool];cases t<;>exact h) (fun z=>nomatch z) fin
  | int c=>obtain ⟨tk,rfl⟩:=rv;exact PySem.W.kia_one PySem.W.kitx_int I.kIn True.intro (by rw [kit_int];cases t<;>exact h) (fun z=>nomatch z) fin
  | str c=>obtain ⟨tk,rfl⟩:=rv;exact PySem.W.kia_one PySem.W.kitx_str I.kIn True.intro (by rw [kit_str];cases t<;>exact h) (fun z=>nomatch z) fin
  | tup hq r =>
    cases rv
    obtain ⟨its,w,⟨o,h1,h2,_⟩,_⟩:=I.tuple (Same.seqT sm hq)
    exact PySem.W.kia_one PySem.W.kitx_tuple I.kIn ⟨o,h1,h2⟩ (by rw [kit_tuple];cases t<;>exact h) (fun z=>nomatch z) fin
  | lst hq r =>
    cases rv
    obtain ⟨its,w,⟨o,n,h1,h2,_⟩,_⟩:=I.list (sm.seq hq)
    exact PySem.W.kia_one PySem.W.kitx_list I.kIn ⟨o,h1,h2⟩ (by rw [kit_list];cases t<;>exact h) (fun z=>nomatch z) fin
  | exc hq=>cases t<;>cases h
  | ins hq=>cases t<;>cases h
  | dic0 hq =>
    cases rv
    obtain ⟨_,_,vs,_,o,es,ep,h1,h2,_⟩:=I.hok _ _ (sm _ _ hq)
    exact PySem.W.kia_one PySem.W.kitx_dict I.kIn ⟨o,h1,h2.1⟩ (by rw [kit_dict];cases t<;>exact h) (fun z=>nomatch z) fin
theorem me_isinst {e:Expr}{f:FE} (t:Ty) {p p2 pos:Pos} (he:ME X cl e f) (hg:Gl X "isinstance") (hm:X.mg "isinstance"=none) (hg2:Gl X (tyN t)) (hm2:X.mg (tyN t)=none)
    (hst:starEach [e,.Name (tyN t) p2] X.env=[(false,eval e X.env),(false,eval (.Name (tyN t) p2) X.env)]:=by rfl) (hst2:starEach [.Name (tyN t) p2] X.env=[(false,eval (.Name (tyN t) p2) X.env)]:=by rfl) :
    ME X cl (.Call (.Name "isinstance" p) [e,.Name (tyN t) p2] [] pos) (fIsinst t f):=by
  refine ⟨?_⟩
  intro pins s σ Hf0 H0 Hf H ρ I r hs
  unfold fIsinst at hs ⊢
  refine wpAny_Call_Name_kw (ld_blt I hg hm boot_isinstance ?_)
  refine PyProof.Rows.callWith_builtin1 ?_ (by rw [hst,hst2]) (by rw [hst2];rfl)
  rw [hst]
  show wpAny _ _ (spliced ((false,eval e X.env)::backTo pos [(false,eval (.Name (tyN t) p2) X.env)])) _ _ s
  refine Calls.spliced_cons (he.run I r (Ext.refl r.sub) hs fun q v u s1 Hf1 H1 e1 I1 rv x1 rp=>?_)
  rw [e1] at hs ⊢
  cases hb:isTy q t with
  | none=>rw [hb] at hs;exact absurd rfl hs
  | some b =>
    have hn:tyN t≠"__name__":=by cases t<;>decide
    have hd:(tyN t == ("__debug__" : Str))=false:=by cases t<;>decide
    show wpAny _ _ (spliced ((false,eval (.Name (tyN t) p2) X.env)::[])) _ _ s1
    refine Calls.spliced_cons (ld_blt I1 hg2 hm2 (tyN_boot t) (Calls.spliced_nil ?_) hn hd)
    show wpAny _ _ (call (.builtin "isinstance") [u,.type (tyS t)]) (OkP X cl pins σ Hf H (.ok (.bl b))) _ s1
    exact thn (isinst_run I1 x1.sub rv rp hb) fun _ _ q=>q.from (e0:=x1)
theorem me_bitlen {e:Expr}{f:FE}{apos pos:Pos}{pl:Sem Bool} (he:ME X cl e f)
    (ht:eval (.Call (.Attribute e "bit_length" apos) [] [] pos) X.env=(do
      let ov ← eval e X.env
      standAt apos.atName
      let (f,first) ← holding [ov] (getMethod ov "bit_length" pl)
      callWith pos f first (backTo pos (starEach [] X.env)) (backToKw pos (keywordEach [] X.env))):=by rfl):ME X cl (.Call (.Attribute e "bit_length" apos) [] [] pos) (fUn bBitLength f):=by
  refine ⟨?_⟩
  intro pins s σ Hf0 H0 Hf H ρ I r hs
  unfold fUn at hs ⊢
  refine PySem.W.methodCall_KW (pl:=pl) (he.run I r (Ext.refl r.sub) hs fun q v u s1 Hf1 H1 e1 I1 rv x1 rp=>?_) ht
  rw [e1] at hs ⊢
  cases q<;>first
    | exact absurd rfl hs
    | skip
  rename_i i
  cases rp
  obtain ⟨t,rfl⟩:=rv
  refine getMethod_int_bit_length ?_
  exact Calls.callWith_builtin rfl (PySem.evalArgs_none (call_int_bit_length ⟨_,.int (nb i),Hf1,H1,rfl,I1.tok _,⟨_,rfl⟩,x1,.int _⟩))
structure MGs (X:Cx) (ts:List Expr) (is:List Nat):Prop where
  run':∀ (pins:List (Addr×Obj)) (s:Shared) (σ:SV) (H:Hp) (vs:List V) (us:List Value) (E:Value→Shared→Prop),Inv X pins σ H s→Vals vs us→vs.length=is.length →
    wpAny (model X.prog X.w) X.A (assignInOrder ((assignEach ts X.env).map (·.2)) us) (fun _ s'=>Inv X pins ((is.zip vs).foldl (fun σ q=>σ.set q.1 (some q.2)) σ) H s') E s
instance {X:Cx}{ts:List Expr}{is:List Nat}:CoeFun (MGs X ts is) fun _=>∀ (pins:List (Addr×Obj)) (s:Shared) (σ:SV) (H:Hp) (vs:List V) (us:List Value) (E:Value→Shared→Prop),Inv X pins σ H s→Vals vs us→vs.length=is.length →
    wpAny (model X.prog X.w) X.A (assignInOrder ((assignEach ts X.env).map (·.2)) us) (fun _ s'=>Inv X pins ((is.zip vs).foldl (fun σ q=>σ.set q.1 (some q.2)) σ) H s') E s:=⟨MGs.run'⟩
theorem mgs_nil:MGs X [] []:=by
  refine ⟨?_⟩
  intro pins s σ H vs us E I r hl
  cases r with
  | nil=>exact assignInOrder_nil I
  | cons _ _=>simp at hl
theorem mgs_cons {x:Str}{pos:Pos}{es:List Expr}{i:Nat}{is:List Nat} (hN:X.N.Nodup) (hi:X.N[i]?=some x) (hx:Loc X.env.scope x) (h2:MGs X es is)
    (hf:X.fn x=true∨X.env.scope.names.lookup x=some .local:=by first | exact .inl rfl | exact .inr rfl | assumption)
    (hs:(assignEach (.Name x pos::es) X.env).map (·.2)=assign (.Name x pos) X.env::(assignEach es X.env).map (·.2):=by rfl):MGs X (.Name x pos::es) (i::is):=by
  refine ⟨?_⟩
  intro pins s σ H vs us E I r hl
  cases r with
  | nil=>simp at hl
  | cons r rr =>
    rw [hs]
    refine assignInOrder_cons (wpAny_assign_Name (store_ok I hN hi hx r (fun s1 I1=>?_) hf))
    exact h2 pins s1 _ H _ _ E I1 rr (by simpa using hl)
theorem rep_sets:∀ {is:List Nat}{vs:List V}{ps:List PV}{σ:SV}{ρ ρ':MEnv},Rep X.K cl Hf0 H0 Hf H σ ρ→Rps X.K cl Hf vs ps→setAll is ps ρ=some ρ'→(∀ i∈is,i<σ.length) →
    Rep X.K cl Hf0 H0 Hf H ((is.zip vs).foldl (fun σ q=>σ.set q.1 (some q.2)) σ) ρ'
  | [],vs,ps,σ,ρ,ρ',r,rp,e,_=>by
    cases rp with
    | nil=>cases e;exact r
    | cons _ _=>cases e
  | i::is,vs,ps,σ,ρ,ρ',r,rp,e,hl=>by
    cases rp with
    | nil=>cases e
    | cons r1 t1 =>
      have q:=rep_sets (is:=is) (r.set i r1 (hl i (List.mem_cons_self))) t1 (show setAll is _ _=some ρ' from e) fun j hj=>by rw [List.length_set];exact hl j (List.mem_cons_of_mem _ hj)
      exact q
theorem setAll_len:∀ {is:List Nat}{ps:List PV}{ρ ρ':MEnv},setAll is ps ρ=some ρ'→is.length=ps.length
  | [],[],_,_,_=>rfl
  | [],_::_,_,_,h=>by cases h
  | _::_,[],_,_,h=>by cases h
  | _::is,_::ps,_,_,h=>by rw [List.length_cons,List.length_cons,setAll_len (is:=is) (ps:=ps) h]
theorem ms_unpack {ts:List Expr}{is:List Nat}{e:Expr}{f:FE}{k:Nat}{pos pos':Pos} (hc:X.calm=true) (he:ME X cl e f) (hg:MGs X ts is) (hil:∀ i∈is,i<X.N.length) (hn:(assignEach ts X.env).length=is.length:=by rfl)
    (hst:(assignEach ts X.env).findIdx? (·.1)=none:=by rfl) (hs1:swapsWithSole [.Tuple ts k pos'] e pos.line X.env=pure false:=by rfl) (hw:swappedStores [.Tuple ts k pos'] e X.env=pure none:=by rfl)
    (h1:(assignEach [.Tuple ts k pos'] X.env).map (·.2)=[assign (.Tuple ts k pos') X.env]:=by rfl):MS X cl (.Assign [.Tuple ts k pos'] e pos) (sUnpack is f):=by
  refine ⟨?_⟩
  intro pins s σ Hf0 H0 Hf H ρ I r hs
  unfold sUnpack at hs ⊢
  refine wpAny_Assign_stores (he.stm I r hs fun p v u s1 Hf1 H1 e1 I1 rv x1 rp=>?_) hs1 hw
  rw [e1] at hs ⊢
  rw [h1]
  cases p<;>first
    | exact absurd rfl hs
    | skip
  rename_i l
  cases rp with
  | tup hq rr =>
    cases rv
    obtain ⟨its,w,pl,z⟩:=I1.tuple (Same.seqT x1.sub hq)
    have hs':(match setAll is l ρ with | some ρ'=>SR.next ρ' | none=>.stuck)≠.stuck:=hs
    cases hsa:setAll is l ρ with
    | none=>rw [hsa] at hs';exact absurd rfl hs'
    | some ρ' =>
      have hlen:=setAll_len hsa
      refine assign_Tuple_tuple (I1.ok.hd hc) pl (by rw [hn,hlen,List.size_toArray,← w.length,rr.length]) hst fun h' hx=>?_
      have I2:Inv X pins σ H1 { s1 with heap:=h' }:=I1.kept (t':=s1.toks) fun b o e=>hx b o (Nat.ne_of_lt (Heap.lt_size e)) e
      refine thn (hg pins _ σ H1 _ _ _ I2 (by simpa using w) (by rw [rr.length,hlen])) fun _ s3 I3=>?_
      show OkS X cl pins Hf0 H0 Hf (match setAll is l ρ with | some ρ'=>SR.next ρ' | none=>.stuck) .next s3
      rw [hsa]
      exact ⟨ρ',_,Hf1,H1,rfl,I3,rep_sets (r.keep x1) rr hsa (fun i hi=>by rw [I1.len];exact hil i hi),x1.frz⟩
end
section
variable {X:Cx}{cl:Nat→Addr}
theorem mv (i:Nat) {x:Str}{pos:Pos} (hN:X.N[i]?=some x:=by rfl) (hv:Vis X.env.scope x:=by first | exact Or.inl rfl | exact Or.inr (Or.inl rfl) | exact Or.inr (Or.inr rfl)) (hd:(x == ("__debug__" : Str))=false:=by decide)
    (hcd:(x == ("__classdict__" : Str))=false:=by decide):ME X cl (.Name x pos) (fVar i):=me_var hN hv hd hcd
end
theorem hu64 {A:Around}{k:Nat} (hr:Room k A):A.units+64<cLine:=by have:=hr.un;omega
section
variable {P:Program}{w:World}{K:PySem.W.Frag}{mg:Str→Option Value}{base:Heap}{cl:Nat→Addr}
structure FG (P:Program) (w:World) (K:PySem.W.Frag) (mg:Str→Option Value) (base:Heap) (cl:Nat→Addr) (k:Nat) (x:Str) (n:Nat) (F:List PV→R PV):Prop where
  ex:∃ (f:Addr) (fd:FuncData) (ps:List Str),mg x=some (.ref f)∧PySem.W.keepIn K (.ref f)=true∧ps.length=n∧FnOk P w K mg base (CXm cl P w) k f fd ps (spF K cl n F)∧Binds K fd ps []
theorem FG.fn {N:List Str}{qual:Str}{scope:Scope}{f:Addr}{cd:Value}{A:Around}{outer:List Env}{s:Shared}{H:Hp}{E:XK}{k n:Nat}{x:Str}{F:List PV→R PV} (h:FG P w K mg base cl k x n F) :
    Fn (cxM P w K mg base cl N qual scope f cd A outer s H E) cl k x n F:=⟨h.ex⟩
theorem mc {N:List Str}{qual:Str}{scope:Scope}{f:Addr}{cd:Value}{A:Around}{outer:List Env}{s:Shared}{H:Hp}{E:XK}{k k' n:Nat}{x:Str}{F:List PV→R PV}{e:Expr}{es:List Expr}{g:FA}{p pos:Pos}
    (h:FG P w K mg base cl k x n F) (hr:Room k' (A.deeper (envOfC qual scope s.heap.objs.size f cd))) (inj:∀ c d,cl c=cl d→c=d) (ha:MA (cxM P w K mg base cl N qual scope f cd A outer s H E) cl (e::es) g) (hk:k≤k':=by decide)
    (hl:(e::es).length=n:=by rfl) (hg:Gl (cxM P w K mg base cl N qual scope f cd A outer s H E) x:=by rfl) (hdb:(x == ("__debug__" : Str))=false:=by decide)
    (he:starEach (e::es) (cxM P w K mg base cl N qual scope f cd A outer s H E).env=(false,eval e (cxM P w K mg base cl N qual scope f cd A outer s H E).env)::starEach es (cxM P w K mg base cl N qual scope f cd A outer s H E).env:=by rfl)
    (hpl:(backTo pos (starEach es (cxM P w K mg base cl N qual scope f cd A outer s H E).env)).any (·.1)=false:=by rfl) :
    ME (cxM P w K mg base cl N qual scope f cd A outer s H E) cl (.Call (.Name x p) (e::es) [] pos) (fCall F g) :=
  me_call h.fn (hr.mono hk) hg rfl inj (fun b z=>absurd (show b∈([]:List Addr) from z) (by simp)) ha hl hdb he hpl
structure DefAt (K:PySem.W.Frag) (mg:Str→Option Value) (x:Str) (st:Stmt) (f:Addr) (fd:FuncData):Prop where
  fn:Fun K x x st f fd
  mg:mg x=some (.ref f)
theorem def_mk {h:Heap}{x:Str}{st:Stmt}{f:Addr}{oc:Value}{od an:Option Addr}{osl:Array (Option Value)}{kV doc pm cdv ct:Value} (X:K.In h) (G:h.Ns mainGlobals mg) (a:PySem.W.nsIn K mainGlobals x=some (some (.ref f)))
    (l:K.lookup f=some ⟨oc,od,.func (PySem.W.fnOf x x (defArgs st) (defBody st) (defScope st) .none kV doc pm an cdv ct),osl⟩) (c:PySem.W.codeIn K cdv x=true) (k:PySem.W.keepIn K (.ref f)=true) :
    ∃ f fd,DefAt K mg x st f fd:=⟨f,_,fun_mk l c k,PySem.W.mg_of X G a⟩
theorem DefAt.fg {x:Str}{st:Stmt}{f:Addr}{fd:FuncData}{N ps:List Str}{k n:Nat}{b:FS} (D:DefAt K mg x st f fd) (S:FnScope N ps (defScope st)) (hn:ps.length=n)
    (hb:∀ (kV doc pm:Value) (an:Option Addr) (cdv ct:Value) (us:List Value),us.length=ps.length→bindArgs (PySem.W.fnOf x x (defArgs st) (defBody st) (defScope st) .none kV doc pm an cdv ct) ⟨us,[]⟩=pure (ps.zip us))
    (hbody:∀ (cdv:Value) (A:Around) (outer:List Env) (s:Shared) (H:Hp) (E:XK),Room k (A.deeper (envOfC x (defScope st) s.heap.objs.size f cdv)) →
      MSs (cxM P w K mg base cl N x (defScope st) f cdv A outer s H E) cl (defBody st) b):FG P w K mg base cl (k+1) x n (runF N.length b) :=
  ⟨⟨f,fd,ps,D.mg,D.fn.kp,hn,fn_mirror D.fn S hn hbody,D.fn.binds hb⟩⟩
noncomputable def adOf (K:PySem.W.Frag) (x:Str):Addr:=match PySem.W.nsIn K mainGlobals x with
  | some (some (.ref a))=>a
  | _=>0
noncomputable def sumOf (K:PySem.W.Frag):List (Nat×Str)→Nat
  | []=>0
  | x::r=>adOf K x.2+sumOf K r
noncomputable def clOf (K:PySem.W.Frag) (names:List (Nat×Str)) (c:Nat):Addr:=match names.lookup c with
  | some x=>adOf K x
  | none=>sumOf K names+1+c
theorem lookup_mem:∀ {names:List (Nat×Str)}{c:Nat}{x:Str},names.lookup c=some x→(c,x)∈names
  | [],_,_,h=>by cases h
  | (d,y)::r,c,x,h=>by
    rw [List.lookup_cons] at h
    by_cases e:c=d
    · subst e;simp at h;subst h;exact List.mem_cons_self
    · have:(c == d)=false:=by simpa using e
      rw [this] at h
      exact List.mem_cons_of_mem _ (lookup_mem h)
theorem mem_lookup:∀ {names:List (Nat×Str)}{c:Nat}{x:Str},(names.map (·.1)).Nodup→(c,x)∈names→names.lookup c=some x
  | (d,y)::r,c,x,hn,h=>by
    rw [List.map_cons,List.nodup_cons] at hn
    rw [List.lookup_cons]
    rcases List.mem_cons.mp h with e | h2
    · cases e;simp
    · have:(c == d)=false:=by
        by_cases e:c=d
        · subst e;exact absurd (List.mem_map.mpr ⟨(c,x),h2,rfl⟩) hn.1
        · simpa using e
      rw [this]
      exact mem_lookup hn.2 h2
theorem sumOf_le {K:PySem.W.Frag}:∀ {names:List (Nat×Str)}{c:Nat}{x:Str},(c,x)∈names→adOf K x≤sumOf K names
  | y::r,c,x,h=>by
    rcases List.mem_cons.mp h with e | h
    · subst e;exact Nat.le_add_right _ _
    · exact Nat.le_trans (sumOf_le h) (Nat.le_add_left _ _)
theorem inj_map {α β:Type}{f:α→β}:∀ {l:List α},(l.map f).Nodup→∀ a∈l,∀ b∈l,f a=f b→a=b
  | y::r,hn,a,ha,b,hb,e=>by
    rw [List.map_cons,List.nodup_cons] at hn
    rcases List.mem_cons.mp ha with rfl | ha2
    · rcases List.mem_cons.mp hb with rfl | hb2
      · rfl
      · exact absurd (List.mem_map.mpr ⟨b,hb2,e.symm⟩) hn.1
    · rcases List.mem_cons.mp hb with rfl | hb2
      · exact absurd (List.mem_map.mpr ⟨a,ha2,e⟩) hn.1
      · exact inj_map hn.2 a ha2 b hb2 e
theorem clOf_inj {K:PySem.W.Frag}{names:List (Nat×Str)} (h:(names.map fun p=>adOf K p.2).Nodup):∀ c d,clOf K names c=clOf K names d→c=d:=by
  intro c d e
  unfold clOf at e
  cases ec:names.lookup c with
  | none =>
    rw [ec] at e
    cases ed:names.lookup d with
    | none=>rw [ed] at e;have e':sumOf K names+1+c=sumOf K names+1+d:=e;omega
    | some y=>rw [ed] at e;have e':sumOf K names+1+c=adOf K y:=e;have:adOf K y≤sumOf K names:=sumOf_le (K:=K) (lookup_mem ed);rw [← e'] at this;exact absurd (Nat.le_trans (Nat.le_add_right _ _) this) (Nat.not_succ_le_self _)
  | some x =>
    rw [ec] at e
    cases ed:names.lookup d with
    | none=>rw [ed] at e;have e':sumOf K names+1+d=adOf K x:=e.symm;have:adOf K x≤sumOf K names:=sumOf_le (K:=K) (lookup_mem ec);rw [← e'] at this;exact absurd (Nat.le_trans (Nat.le_add_right _ _) this) (Nat.not_succ_le_self _)
    | some y =>
      rw [ed] at e
      have:=inj_map h (c,x) (lookup_mem ec) (d,y) (lookup_mem ed) e
      cases this;rfl
theorem weight_le:∀ {ns:List Int}{x:Int},x∈ns→nb x≤PySem.W.WData.weightAll (ns.map PySem.W.WData.int)
  | y::r,x,h=>by
    have e:PySem.W.WData.weightAll ((y::r).map PySem.W.WData.int)=nb y+1+PySem.W.WData.weightAll (r.map PySem.W.WData.int):=by
      rw [List.map_cons]
      simp only [PySem.W.WData.weightAll,PySem.W.WData.weight,Builtin.Int.intBits]
    rw [e]
    rcases List.mem_cons.mp h with rfl | h
    · omega
    · have:=weight_le h;omega
theorem bits_of_lay {ns:List Int} (h:PySem.W.WData.layableAll [PySem.W.WData.list (ns.map PySem.W.WData.int)]=true):∀ x∈ns,nb x≤1048576:=by
  intro x hx
  have h1:PySem.W.WData.layable (PySem.W.WData.list (ns.map PySem.W.WData.int))=true:=by
    simpa [PySem.W.WData.layableAll] using h
  have h2:PySem.W.WData.weight (PySem.W.WData.list (ns.map PySem.W.WData.int))≤2 ^ 20:=of_decide_eq_true (Bool.and_eq_true_iff.mp h1).2
  have e:PySem.W.WData.weight (PySem.W.WData.list (ns.map PySem.W.WData.int))=PySem.W.WData.weightAll (ns.map PySem.W.WData.int):=by simp only [PySem.W.WData.weight]
  rw [e] at h2
  have:=weight_le hx
  omega
theorem law_of {l:PySem.W.OpenLaw}{k:Nat}{q:Program}{loose:List Str}{XP:(Str→Option Value)→Heap→Prop}{YP:World→Heap→Prop}{d:DefRec}{K:Params→PySem.W.Frag}{x:Str}{F:List PV→R PV}{names:List (Nat×Str)}
    (hn:l.most=some 63) (hdf:d.params.defaults=[]) (hr:Room k callerA)
    (hY:∀ (w:World) (h:Heap),YP w h→(K w.params).In h)
    (hF:∀ (w:World) (mg:Str→Option Value) (fa:Addr) (h:Heap),(K w.params).In h→h.Ns mainGlobals mg→mg d.name=some (.ref fa) →
      ∃ fd:FuncData,(∀ (s:Shared) (u:Value),BindsTo s fd ⟨[u],[]⟩ [(x,u)]) ∧
        ∀ base:Heap,(K w.params).In base→base.Ns mainGlobals mg→FnOk l.prog w (K w.params) mg base (CXm (clOf (K w.params) names) l.prog w) k fa fd [x] (spF (K w.params) (clOf (K w.params) names) 1 F))
    (hlaw:∀ ns:List Int,ns.length≤63→(∀ x∈ns,nb x≤1048576)→F [.lst (ns.map PV.int)] = .ok (.bl true)) :
    PySem.W.WalkO q loose XP YP l.row.toRowW d [] (fun f vs=>PySem.call f vs):=by
  intro w s₀ s₁ mg mb G Y fa o pm cd doc dV kV ho hd hcd hD hmg hg args vals as hpre hlay hrd hwl hlo
  obtain rfl:dV = .none:=PySem.W.Dflts.none hD hdf
  obtain rfl:kV = .none:=PySem.W.Dflts.noKw hD
  obtain ⟨a,vs,ns,rfl,rfl,hobj,hints,hlen⟩:=Att.script_of hn hpre hwl
  have KX:=hY w _ Y
  obtain ⟨fd,hb,hF'⟩:=hF w mg fa _ KX G.T.g hmg
  have e:=hlaw ns hlen (bits_of_lay hlay)
  refine PySem.W.enter_call (codeAny_mono (law_call KX G.T.g G.T.b G.T.builtins G.T.nolimit hg hobj hints (Nat.le_trans hlen (by decide)) hr hF' hb (fun H hO hS=>?_) fun H e s' h=>?_) fun r s' hq=>?_)
  · refine ⟨rfl,H,[.lst (ns.map PV.int)],Same.refl _,.cons (.lst hS (Rps.ints ns)) .nil,(by rw [e];intro z;cases z),fun p v Hf' H' h _ rp=>?_,fun c Hf' H' h _=>?_⟩
    · rw [e] at h;cases h;cases rp;rfl
    · rw [e] at h;cases h
  · obtain ⟨a,c,H',B,a0,_,_,_,_,_,_,_,_,z⟩:=h
    exact z
  · obtain ⟨rfl,h2,h3,h4⟩:=hq
    exact ⟨.inl ⟨.bool true,.bool true,[],rfl,fun _=>rfl,.bool true,Att.post_true l _,fun _=>⟨List.Pairwise.nil,fun _ hm=>(nomatch hm)⟩⟩,h2,h3,h4⟩
end
noncomputable abbrev bmV:List Value:=[.type "ValueError",.type "Exception",.type "BaseException",.type "object"]
noncomputable def attrOk (K:PySem.W.Frag) (D:Addr):Bool:=(PySem.W.findIn K (.ref D) "__getattribute__" == some (some (.builtin "BaseException.__getattribute__"))) && (PySem.W.findIn K (.ref D) "__getattr__" == some none) && (PySem.W.subIn K (.ref D) (.type "BaseException") == some true) && (PySem.W.clsIn K D).isSome && (PySem.W.findIn K (.ref D) "__class__" == some (some (.builtin "object.__class__"))) &&
  (PySem.W.specialIn K (.builtin "object.__class__") "__get__" == some (some (.builtin "getset_descriptor.__get__"))) && (PySem.W.takesIn K (.builtin "object.__class__") == some true) && (PySem.W.mroIn K D (.type "object") == some true)
structure ClF (K:PySem.W.Frag) (mg:Str→Option Value) (cl:Nat→Addr) (c:Nat) (x:Str):Prop where
  mg:mg x=some (.ref (cl c))
  ex:PySem.W.excIn K (cl c) bmV "ValueError.__new__"=true
  at_:attrOk K (cl c)=true
theorem excObj_of {K:PySem.W.Frag}{h:Heap}{C:Addr}{bmB:List Value}{newId:String} (X:K.In h) (q:PySem.W.excIn K C bmB newId=true) :
    ∃ bm N nm q bs hdct sn sub ab col dd k0 k1 k2 k3 k5 mN,h.get? C=some (excClassObj nm q C N bs bm hdct sn sub ab col dd k0 k1 k2 k3 k5 newId)∧h.Ns N mN∧mN "__init__"=none∧OwnTail h bmB bm:=by
  unfold PySem.W.excIn at q
  split at q
  · rename_i dd cd sl ho
    split at q
    · rename_i C' bm k0 k1 k2 k3 n k5 hm hs
      simp only [Bool.and_eq_true,beq_iff_eq,Bool.not_eq_true'] at q
      obtain ⟨⟨⟨⟨⟨rfl,rfl⟩,hdel⟩,ht⟩,hok⟩,hni⟩:=q
      obtain ⟨nm,bs,mro,ns,qn,hd,sn,sub,ab,col,del⟩:=cd
      dsimp only at hm hdel hok hni
      subst hm hdel
      have es:sl=#[k0,k1,k2,k3,some (.builtin n),k5]:=by
        cases sl with | mk l=>simp only at hs;rw [hs]
      subst es
      exact ⟨bm,ns,nm,qn,bs,hd,sn,sub,ab,col,dd,k0,k1,k2,k3,k5,_,X _ _ ho,.of_isNs (PySem.W.isNs_of_in X hok),PySem.W.nsMap_none_of_in X hok hni,PySem.W.tail_of_in X ht⟩
    · cases q
  · cases q
theorem isSmallI_ok {r:R PV} (h:isSmallI r=true):∃ i:Int,r = .ok (.int i)∧i.natAbs<18446744073709551616:=by
  cases r with
  | ok p=>cases p<;>first | (cases h;done) | (rename_i i;exact ⟨i,rfl,of_decide_eq_true h⟩)
  | exc c=>cases h
  | stuck=>cases h
theorem digits_le (a:Int) (h:a.natAbs<18446744073709551616):(Str.ofString (toString a)).length≤21:=by
  have h1:a.natAbs<10 ^ 20:=Nat.lt_trans h (by decide)
  have:=int_text_length_le10 (k:=20) (by decide) h1
  rw [PySem.ofString_length];omega
section
variable {X:Cx}{cl:Nat→Addr}{pins:List (Addr×Obj)}{s:Shared}{σ:SV}{Hf0 H0 Hf H Hf1 H1:Hp}{ρ:MEnv}{α:Type}
structure MV (X:Cx) (cl:Nat→Addr) (e:Expr) (n:Nat) (c:MEnv→Bool):Prop where
  run':∀ (pins:List (Addr×Obj)) (s:Shared) (σ:SV) (Hf0 H0 Hf H:Hp) (ρ:MEnv) (E:Value→Shared→Prop),Inv X pins σ H s→Rep X.K cl Hf0 H0 Hf H σ ρ→c ρ=true →
    wpAny (model X.prog X.w) X.A (eval e X.env) (fun u s'=>∃ x t Hf' H',u = .str x t∧x.length≤n∧Inv X pins σ H' s'∧Ext Hf H Hf' H') E s
instance {X:Cx}{cl:Nat→Addr}{e:Expr}{n:Nat}{c:MEnv→Bool}:CoeFun (MV X cl e n c) fun _=>∀ (pins:List (Addr×Obj)) (s:Shared) (σ:SV) (Hf0 H0 Hf H:Hp) (ρ:MEnv) (E:Value→Shared→Prop),Inv X pins σ H s→Rep X.K cl Hf0 H0 Hf H σ ρ→c ρ=true →
    wpAny (model X.prog X.w) X.A (eval e X.env) (fun u s'=>∃ x t Hf' H',u = .str x t∧x.length≤n∧Inv X pins σ H' s'∧Ext Hf H Hf' H') E s:=⟨MV.run'⟩
theorem mv_str {x:Str}{j:Nat}{pos:Pos} (n:Nat) (h:x.length≤n:=by decide +kernel):MV X cl (.Constant (.str x) j pos) n (fun _=>true):=⟨fun pins s σ Hf0 H0 Hf H ρ E I r _ =>
  Calls.Constant_str ⟨x,_,Hf,H,rfl,h,I.tok _,Ext.refl r.sub⟩⟩
theorem mv_fmt {e:Expr}{f:FE}{pos:Pos} (he:ME X cl e f):MV X cl (.FormattedValue e (-1) none pos) 21 (fun ρ=>isSmallI (f ρ)):=by
  refine ⟨?_⟩
  intro pins s σ Hf0 H0 Hf H ρ E I r hc
  obtain ⟨i,ei,hi⟩:=isSmallI_ok hc
  refine FormattedValue_plain (wpAny_mono (he pins s σ Hf0 H0 Hf H ρ I r (by rw [ei];intro z;cases z)) (fun u s1 q=>?_) fun u s1 q=>?_)
  · obtain ⟨p,v,Hf1,H1,e1,I1,rv,x1,rp⟩:=q
    rw [ei] at e1;cases e1
    cases rp
    obtain ⟨t,rfl⟩:=rv
    have hl:i.natAbs.log2<1920:=by
      by_cases h0:i.natAbs=0
      · rw [h0];decide
      · have:=(Nat.log2_lt h0).mpr (show i.natAbs<2 ^ 64 from hi)
        omega
    exact formatField_int_small hl ⟨_,_,Hf1,H1,rfl,digits_le i hi,I1.tok _,x1⟩
  · obtain ⟨c,e1,_⟩:=q
    rw [ei] at e1;cases e1
structure MVs (X:Cx) (cl:Nat→Addr) (es:List Expr) (n:Nat) (c:MEnv→Bool):Prop where
  run':∀ (pins:List (Addr×Obj)) (s:Shared) (σ:SV) (Hf0 H0 Hf H:Hp) (ρ:MEnv) (E:Value→Shared→Prop) (acc:Str) (Q:Str→Shared→Prop),Inv X pins σ H s→Rep X.K cl Hf0 H0 Hf H σ ρ→c ρ=true→acc.length+n≤sizeLine →
    (∀ out s' Hf' H',out.length≤acc.length+n→Inv X pins σ H' s'→Ext Hf H Hf' H'→Q out s')→Joins (model X.prog X.w) X.A E (evalEach es X.env) acc Q s
instance {X:Cx}{cl:Nat→Addr}{es:List Expr}{n:Nat}{c:MEnv→Bool}:CoeFun (MVs X cl es n c) fun _=>∀ (pins:List (Addr×Obj)) (s:Shared) (σ:SV) (Hf0 H0 Hf H:Hp) (ρ:MEnv) (E:Value→Shared→Prop) (acc:Str) (Q:Str→Shared→Prop),Inv X pins σ H s→Rep X.K cl Hf0 H0 Hf H σ ρ→c ρ=true→acc.length+n≤sizeLine →
    (∀ out s' Hf' H',out.length≤acc.length+n→Inv X pins σ H' s'→Ext Hf H Hf' H'→Q out s')→Joins (model X.prog X.w) X.A E (evalEach es X.env) acc Q s:=⟨MVs.run'⟩
theorem mvs_nil:MVs X cl [] 0 (fun _=>true):=⟨fun pins s σ Hf0 H0 Hf H ρ E acc Q I r _ _ k=>k acc s Hf H (Nat.le_refl _) I (Ext.refl r.sub)⟩
theorem mvs_cons {e:Expr}{es:List Expr}{n m:Nat}{c d:MEnv→Bool} (h:MV X cl e n c) (ht:MVs X cl es m d) (he:evalEach (e::es) X.env=eval e X.env::evalEach es X.env:=by rfl):MVs X cl (e::es) (n+m) (fun ρ=>c ρ && d ρ):=by
  refine ⟨?_⟩
  intro pins s σ Hf0 H0 Hf H ρ E acc Q I r hc hz k
  rw [Bool.and_eq_true] at hc
  rw [he]
  refine wpAny_mono (h pins s σ Hf0 H0 Hf H ρ E I r hc.1) (fun u s1 q=>?_) fun _ _ z=>z
  obtain ⟨x,t,Hf1,H1,rfl,hl,I1,x1⟩:=q
  have e1:(acc ++ x).length=acc.length+x.length:=strLen_append ..
  refine ⟨x,t,rfl,by rw [e1];omega,ht pins s1 σ Hf0 H0 Hf1 H1 ρ E (acc ++ x) Q I1 (r.keep x1) hc.2 (by rw [e1];omega) fun out s' Hf' H' hl' I' x'=>k out s' Hf' H' (by rw [e1] at hl';omega) I' (x1.trans x')⟩
theorem mv_join {a b:Expr}{es:List Expr}{n:Nat}{c:MEnv→Bool}{pos:Pos} (h:MVs X cl (a::b::es) n c) (hn:n≤1000:=by decide):MV X cl (.JoinedStr (a::b::es) pos) n c:=by
  refine ⟨?_⟩
  intro pins s σ Hf0 H0 Hf H ρ E I r hc
  have h0:(Str.empty).length=0:=rfl
  have hs:n≤sizeLine:=Nat.le_trans hn (by decide)
  refine wpAny_JoinedStr (h pins s σ Hf0 H0 Hf H ρ E _ _ I r hc (by rw [h0];omega) fun out s' Hf' H' hl I' x'=>?_)
  rw [h0] at hl
  exact ⟨by omega,out,_,Hf',H',rfl,by omega,I'.tok _,x'⟩
theorem stands_of (W:Own X) (I:Inv X pins σ H s) {h':Heap} (k:∀ b o,s.heap.get? b=some o→h'.get? b=some o):Cov X pins H (PySem.W.hideAll s.heap (frs X.stack)) h':=by
  intro b o e hs hn
  obtain ⟨o',q⟩:=stands_there W I hs
  have:=k b o' q
  rw [e] at this;cases this
  exact PySem.W.hideAll_get _ q hn
theorem xst_made (W:Own X) (I:Inv X pins σ H s) {h':Heap}{e C:Addr}{vs:List Value} (hm:Heap.MadeExcOf s.heap h' e (.ref C) vs):XSt X pins H e C h':=by
  obtain ⟨t,he,_,_⟩:=hm.there
  refine ⟨PySem.W.hideAll s.heap (frs X.stack),.ref t,stands_of W I hm.keeps,⟨_,he,rfl⟩,.inl ⟨fun b o q=>hm.keeps b o (PySem.W.of_hideAll _ q),?_,?_,_,_,he,rfl,rfl,rfl,rfl,rfl⟩⟩
  · cases q:(PySem.W.hideAll s.heap (frs X.stack)).get? e with
    | none=>rfl
    | some o=>have:=PySem.W.of_hideAll _ q;rw [hm.new] at this;cases this
  · refine Heap.FunFrames.of_keeps (fun b o q _=>⟨o,hm.keeps b o q,rfl⟩) (PySem.W.funFrames_hide I.stack fun env he a ha=>?_)
    exact List.mem_filterMap.mpr ⟨env,he,ha⟩
theorem ms_raise {x:Str}{c:Nat}{e:Expr}{n:Nat}{k:MEnv→Bool}{np cpos pos:Pos} (hc:ClF X.K X.mg cl c x) (W:Own X) (hg:Gl X x) (hh:X.A.handled=none) (he:MV X cl e n k)
    (hst:starEach [e] X.env=[(false,eval e X.env)]:=by rfl) (hdb:(x == ("__debug__" : Str))=false:=by decide) :
    MS X cl (.Raise (some (.Call (.Name x np) [e] [] cpos)) none pos) (sRaiseT k c):=by
  refine ⟨?_⟩
  intro pins s σ Hf0 H0 Hf H ρ I r hs
  have hk:k ρ=true:=by
    cases q:k ρ with
    | true=>rfl
    | false=>exact absurd (by unfold sRaiseT;rw [q];rfl) hs
  have e0:sRaiseT k c ρ = .exc c ρ:=by unfold sRaiseT;rw [hk];rfl
  rw [e0]
  obtain ⟨bm,N,nm,q,bs,hdct,sn,sub,ab,col,dd,k0,k1,k2,k3,k5,mN,hC,hN,hni,T⟩:=excObj_of I.ok.mod.kin hc.ex
  refine wpAny_Raise_call_subT (C:=cl c) (nm:=nm) (q:=q) (N:=N) (bs:=bs) (bm:=bm) (hdct:=hdct) (sn:=sn) (sub:=sub) (ab:=ab) (col:=col) (dd:=dd) (k0:=k0) (k1:=k1) (k2:=k2) (k3:=k3) (k5:=k5)
    PySem.F.excBase_ValueError (mN:=mN) (T.hasType PySem.F.excBase_ValueError.hasBase) hh (by rw [hst];rfl) hni (ld_glob I hg hc.mg ⟨rfl,?_⟩ hdb)
  rw [hst]
  refine Calls.evalArgs_plain ?_
  show wpAny _ _ (spliced ((false,eval e X.env)::backTo cpos [])) _ _ s
  refine Calls.spliced_cons (wpAny_mono (he pins s σ Hf0 H0 Hf H ρ _ I r hk) (fun u s1 q1=>Calls.spliced_nil ?_) fun _ _ z=>z)
  obtain ⟨y,t,Hf1,H1,rfl,hl,I1,x1⟩:=q1
  refine ⟨rfl,by show 1≤sizeLine;decide,I1.bk _ _ hC,hN.keeps I1.bk,T.keeps I1.bk,fun h' ee hm=>?_⟩
  exact ⟨c,ρ,σ,Hf1,H1,ee,rfl,rfl,I1.kept (t':=s1.toks) hm.keeps,r.keep x1,x1.frz,xst_made W I1 hm⟩
end
structure Cls (K:PySem.W.Frag) (mg:Str→Option Value) (cl:Nat→Addr) (names:List (Nat×Str)):Prop where
  cls:∀ c x,(c,x)∈names→ClF K mg cl c x
  kit:∀ c x d y,(c,x)∈names→(d,y)∈names→PySem.W.kitOne K (.ref (cl c)) (.ref (cl d))=some (under c d)
  exm:∀ c x d y,(c,x)∈names→(d,y)∈names→PySem.W.exmOne K (.ref (cl c)) (.ref (cl d))=some (under c d)
  non:∀ d y,(d,y)∈names→PySem.W.kitOne K (.type "NoneType") (.ref (cl d))=some false
  val:∀ c x,(c,x)∈names→PySem.W.kitOne K (.ref (cl c)) (.type "ValueError")=some true
noncomputable def refIn (K:PySem.W.Frag) (x:Str):Bool:=match PySem.W.nsIn K mainGlobals x with
  | some (some (.ref _))=>true
  | _=>false
theorem refIn_of {K:PySem.W.Frag}{x:Str} (h:refIn K x=true):PySem.W.nsIn K mainGlobals x=some (some (.ref (adOf K x))):=by
  unfold refIn at h
  unfold adOf
  split at h
  · rename_i a e;rw [e]
  · cases h
noncomputable def pairOk (K:PySem.W.Frag) (p q:Nat×Str):Bool:=PySem.W.kitOne K (.ref (adOf K p.2)) (.ref (adOf K q.2)) == some (under p.1 q.1) && PySem.W.exmOne K (.ref (adOf K p.2)) (.ref (adOf K q.2)) == some (under p.1 q.1)
noncomputable def oneOk (K:PySem.W.Frag) (p:Nat×Str):Bool:=refIn K p.2 && PySem.W.excIn K (adOf K p.2) bmV "ValueError.__new__" && attrOk K (adOf K p.2) && PySem.W.kitOne K (.ref (adOf K p.2)) (.type "ValueError") == some true &&
  PySem.W.kitOne K (.type "NoneType") (.ref (adOf K p.2)) == some false
noncomputable def ndOk:List Nat→Bool
  | []=>true
  | a::r=>!r.contains a && ndOk r
theorem nd_of:∀ {l:List Nat},ndOk l=true→l.Nodup
  | [],_=>List.nodup_nil
  | a::r,h=>by
    unfold ndOk at h
    rw [Bool.and_eq_true] at h
    refine List.nodup_cons.mpr ⟨fun z=>?_,nd_of h.2⟩
    have:=List.contains_iff_mem.mpr z
    rw [this] at h;exact absurd h.1 (by decide)
section
variable {K:PySem.W.Frag}{mg:Str→Option Value}{names:List (Nat×Str)}{h:Heap}
theorem clOf_at {c:Nat}{x:Str} (hn:(names.map (·.1)).Nodup) (hx:(c,x)∈names):clOf K names c=adOf K x:=by
  unfold clOf;rw [mem_lookup hn hx]
end
section
variable {X:Cx}{cl:Nat→Addr}
theorem me_globI {x:Str}{i:Int}{pos:Pos} (hg:Gl X x) (hm:∃ t,X.mg x=some (.int i t)) (hd:(x == ("__debug__" : Str))=false:=by decide):ME X cl (.Name x pos) (fC (.int i)):=by
  obtain ⟨t,hm⟩:=hm
  exact me_glob (v:=.int i) hg hm ⟨t,rfl⟩ (fun _=>.int i) hd
theorem at_mem {names:List (Nat×Str)} (i:Nat) {p:Nat×Str} (h:names[i]?=some p):p∈names:=List.mem_of_getElem? h
end
section
variable {K:PySem.W.Frag}{cl:Nat→Addr}{Hf0 H0 Hf H Hf' H':Hp}{σ:SV}{ρ:MEnv}
theorem Rep.own (r:Rep K cl Hf0 H0 Hf H σ ρ) (i:Nat) {l:List PV}{a:Addr}{xs:List V} (ha:H a=some (.lst xs)) (hfa:Hf a=none) (h0a:H0 a=none) (rps:Rps K cl Hf xs l) (hl:i<σ.length)
    (nw:∀ (j:Nat) (qs:List PV),ρ[j]?=some (some (.own qs))→σ[j]?≠some (some (.ref a))):Rep K cl Hf0 H0 Hf H (σ.set i (some (.ref a))) (ρ.set i (some (.own l))):=by
  refine ⟨r.ext,fun j p hp=>?_,fun j k ps qs b h1 h2 h3 h4=>?_⟩
  · by_cases e:i=j
    · subst e
      have hi:i<ρ.length:=by
        rw [List.getElem?_set] at hp
        by_cases hh:i<ρ.length
        · exact hh
        · simp [hh] at hp
      rw [List.getElem?_set_self hi] at hp
      cases hp
      exact ⟨_,List.getElem?_set_self hl,a,xs,rfl,ha,hfa,h0a,rps⟩
    · rw [List.getElem?_set_ne e] at hp
      obtain ⟨w,hw,sl⟩:=r.slot j p hp
      exact ⟨w,by rw [List.getElem?_set_ne e];exact hw,sl⟩
  · by_cases e:i=j
    · by_cases e':i=k
      · exact e.symm.trans e'
      · subst e
        rw [List.getElem?_set_self hl] at h3
        cases h3
        rw [List.getElem?_set_ne e'] at h2 h4
        exact absurd h4 (nw k _ h2)
    · by_cases e':i=k
      · subst e'
        rw [List.getElem?_set_self hl] at h4
        cases h4
        rw [List.getElem?_set_ne e] at h1 h3
        exact absurd h3 (nw j _ h1)
      · rw [List.getElem?_set_ne e] at h1 h3
        rw [List.getElem?_set_ne e'] at h2 h4
        exact r.dist j k _ _ b h1 h2 h3 h4
end
section
variable {X:Cx}{cl:Nat→Addr}
end
section
variable {X:Cx}{cl:Nat→Addr}
end
mutual
inductive KRep (K:PySem.W.Frag):Value→PV→Prop where
  | non:KRep K .none .non
  | bl (b:Bool):KRep K (.bool b) (.bl b)
  | int (i:Int) (t:Tok):KRep K (.int i t) (.int i)
  | str (x:Str) (t:Tok):KRep K (.str x t) (.str x)
  | tup {a:Addr}{o:Obj}{its:Array Value}{n:Nat}{ps:List PV} (h:K.lookup a=some o) (c:o.cls = .type "tuple") (d:o.data = .seq its n) (z:its.size≤sizeLine) (r:KReps K its.toList ps):KRep K (.ref a) (.tup ps)
inductive KReps (K:PySem.W.Frag):List Value→List PV→Prop where
  | nil:KReps K [] []
  | cons {u:Value}{p:PV}{us:List Value}{ps:List PV} (r:KRep K u p) (t:KReps K us ps):KReps K (u::us) (p::ps)
end
section
variable {K:PySem.W.Frag}{cl:Nat→Addr}
mutual
theorem KRep.rp (Hf:Hp):∀ {u:Value}{p:PV},KRep K u p→∃ v,RelV v u∧Rp K cl Hf v p
  | _,_,.non=>⟨.non,rfl,.non⟩
  | _,_,.bl b=>⟨.bl b,rfl,.bl b⟩
  | _,_,.int i t=>⟨.int i,⟨t,rfl⟩,.int i⟩
  | _,_,.str x t=>⟨.str x,⟨t,rfl⟩,.str x⟩
  | _,_,.tup (a:=a) (o:=o) (its:=its) (n:=n) h c d z r=>by
    obtain ⟨vs,h1,h2⟩:=KReps.rps Hf r
    exact ⟨.ref a,rfl,.tup (.inr ⟨o,its,n,h,c,d,z,h1⟩) h2⟩
theorem KReps.rps (Hf:Hp):∀ {us:List Value}{ps:List PV},KReps K us ps→∃ vs,Vals vs us∧Rps K cl Hf vs ps
  | _,_,.nil=>⟨[],.nil,.nil⟩
  | _,_,.cons r t=>by
    obtain ⟨v,a,b⟩:=KRep.rp Hf r
    obtain ⟨vs,c,d⟩:=KReps.rps Hf t
    exact ⟨v::vs,.cons a c,.cons b d⟩
end
noncomputable def kRepB (K:PySem.W.Frag):Nat→Value→PV→Bool
  | _,.none,.non=>true
  | _,.bool a,.bl b=>a == b
  | _,.int a _,.int b=>a == b
  | _,.str a _,.str b=>a == b
  | n+1,.ref a,.tup ps=>(match K.lookup a with
    | some o=>o.cls == .type "tuple" && (match o.data with
      | .seq its _=>decide (its.size≤sizeLine) && decide (its.toList.length=ps.length) && (its.toList.zip ps).all fun q=>kRepB K n q.1 q.2
      | _=>false)
    | none=>false)
  | _,_,_=>false
theorem kReps_of {K:PySem.W.Frag}{f:Value→PV→Bool} (hf:∀ u p,f u p=true→KRep K u p):∀ {us:List Value}{ps:List PV},us.length=ps.length→((us.zip ps).all fun q=>f q.1 q.2)=true→KReps K us ps
  | [],[],_,_=>.nil
  | [],_::_,h,_=>by cases h
  | _::_,[],h,_=>by cases h
  | u::us,p::ps,h,e=>by
    simp only [List.zip_cons_cons,List.all_cons,Bool.and_eq_true] at e
    exact .cons (hf u p e.1) (kReps_of hf (by simpa using h) e.2)
theorem kRep_of:∀ {n:Nat}{u:Value}{p:PV},kRepB K n u p=true→KRep K u p:=by
  intro n
  induction n with
  | zero =>
    intro u p h
    unfold kRepB at h
    split at h
    · exact .non
    · cases beq_iff_eq.mp h;exact .bl _
    · cases beq_iff_eq.mp h;exact .int _ _
    · cases beq_iff_eq.mp h;exact .str _ _
    · rename_i n' a ps hn
      cases hn
    · cases h
  | succ n ih =>
    intro u p h
    unfold kRepB at h
    split at h
    · exact .non
    · cases beq_iff_eq.mp h;exact .bl _
    · cases beq_iff_eq.mp h;exact .int _ _
    · cases beq_iff_eq.mp h;exact .str _ _
    · rename_i n' a ps hn
      cases hn
      split at h
      · rename_i o ho
        rw [Bool.and_eq_true] at h
        obtain ⟨h1,h2⟩:=h
        split at h2
        · rename_i its m hd
          simp only [Bool.and_eq_true,decide_eq_true_eq] at h2
          exact .tup ho (beq_iff_eq.mp h1) hd h2.1.1 (kReps_of (fun u p e=>ih e) h2.1.2 h2.2)
        · cases h2
      · cases h
    · cases h
end
section
variable {X:Cx}{cl:Nat→Addr}
theorem me_globK {x:Str}{q:PV}{pos:Pos} (hg:Gl X x) (hm:∃ u,X.mg x=some u∧KRep X.K u q) (hd:(x == ("__debug__" : Str))=false:=by decide):ME X cl (.Name x pos) (fC q):=by
  obtain ⟨u,hm,k⟩:=hm
  obtain ⟨v,rv,_⟩:=k.rp (cl:=cl) (fun _=>none)
  refine ⟨?_⟩
  intro pins s σ Hf0 H0 Hf H ρ I r hs
  obtain ⟨v,rv,rp⟩:=k.rp (cl:=cl) Hf
  exact ld_glob I hg hm ⟨q,v,Hf,H,rfl,I,rv,Ext.refl r.sub,rp⟩ hd
end
structure FunD (K:PySem.W.Frag) (x qual:Str) (st:Stmt) (f:Addr) (fd:FuncData) (y:Str):Prop where
  ex:∃ (oc:Value) (od:Option Addr) (kV doc pm:Value) (an:Option Addr) (cdv ct:Value) (osl:Array (Option Value)) (T:Addr) (o:Obj) (n:Nat) (t:Tok),
    fd=PySem.W.fnOf x qual (defArgs st) (defBody st) (defScope st) (.ref T) kV doc pm an cdv ct∧K.lookup f=some ⟨oc,od,.func fd,osl⟩∧PySem.W.codeIn K cdv qual=true∧K.lookup T=some o∧o.data = .seq #[.str y t] n
  kp:PySem.W.keepIn K (.ref f)=true
section
variable {P:Program}{w:World}{K:PySem.W.Frag}{mg:Str→Option Value}{base:Heap}{cl:Nat→Addr}
theorem fn_mirror' {x qual:Str}{st:Stmt}{f:Addr}{N ps:List Str}{k n:Nat}{b:FS}{dV kV doc pm cdv ct oc:Value}{an od:Option Addr}{osl:Array (Option Value)}
    (lk:K.lookup f=some ⟨oc,od,.func (PySem.W.fnOf x qual (defArgs st) (defBody st) (defScope st) dV kV doc pm an cdv ct),osl⟩) (hcd:PySem.W.codeIn K cdv qual=true) (S:FnScope N ps (defScope st)) (hn:ps.length=n)
    (hbody:∀ (cdv:Value) (A:Around) (outer:List Env) (s:Shared) (H:Hp) (E:XK),Room k (A.deeper (envOfC qual (defScope st) s.heap.objs.size f cdv)) →
      MSs (cxM P w K mg base cl N qual (defScope st) f cdv A outer s H E) cl (defBody st) b):FnOk P w K mg base (CXm cl P w) (k+1) f (PySem.W.fnOf x qual (defArgs st) (defBody st) (defScope st) dV kV doc pm an cdv ct) ps (spF K cl n (runF N.length b)):=by
  refine fn_of lk hcd S (fun vs H Q E h=>by rw [h.1,hn]) fun A outer s H vs Q E hr hsp=>?_
  obtain ⟨hl,Hf,qs,sm,rps,hs,hok,hex⟩:=hsp
  have hb:=hbody cdv A outer s H E hr
  have hs':b (Mi.start N.length qs)≠.stuck:=fun z=>hs (by unfold runF;rw [z])
  refine ⟨fun D σ H1=>σ=L2.start N vs∧H1=H∧D={ nx:=fun _ H'=>Q .non H',rt:=Q },fun pins s1 σ H1 D I h=>?_,rfl,rfl,rfl⟩
  obtain ⟨rfl,rfl,rfl⟩:=h
  refine wpAny_mono (hb pins s1 _ Hf H1 Hf H1 _ I (rep_start rfl sm rps) hs') (fun fl s2 q=>?_) fun u s2 q=>?_
  · cases fl with
    | next =>
      obtain ⟨ρ',σ',Hf',H',e1,I',r',_⟩:=q
      exact ⟨σ',H',I',hok .non .non Hf' H' (by unfold runF;rw [e1]) r'.ext .non⟩
    | ret u =>
      obtain ⟨p,v,σ',Hf',H',e1,I',ex,rv,rp⟩:=q
      exact ⟨v,σ',H',I',rv,hok p v Hf' H' (by unfold runF;rw [e1]) ex rp⟩
    | brk =>
      obtain ⟨ρ',σ',Hf',H',e1,I',r',_⟩:=q
      exact absurd (by unfold runF;rw [e1]) hs
    | cont =>
      obtain ⟨ρ',σ',Hf',H',e1,I',r',_⟩:=q
      exact absurd (by unfold runF;rw [e1]) hs
  · obtain ⟨c,ρ',σ',Hf',H',e,e1,rfl,I',r',_,x⟩:=q
    exact leaves_ok I' x (hex c Hf' H' (by unfold runF;rw [e1]) r'.ext)
structure DefAtD (K:PySem.W.Frag) (mg:Str→Option Value) (x:Str) (st:Stmt) (f:Addr) (fd:FuncData) (y:Str):Prop where
  fn:FunD K x x st f fd y
  mg:mg x=some (.ref f)
theorem def_mkD {h:Heap}{x:Str}{st:Stmt}{f:Addr}{oc:Value}{od an:Option Addr}{osl:Array (Option Value)}{kV doc pm cdv ct:Value}{T:Addr}{oc':Value}{od':Option Addr}{osl':Array (Option Value)}{n:Nat}{t:Tok}{y:Str} (X:K.In h) (G:h.Ns mainGlobals mg) (a:PySem.W.nsIn K mainGlobals x=some (some (.ref f)))
    (l:K.lookup f=some ⟨oc,od,.func (PySem.W.fnOf x x (defArgs st) (defBody st) (defScope st) (.ref T) kV doc pm an cdv ct),osl⟩) (c:PySem.W.codeIn K cdv x=true) (k:PySem.W.keepIn K (.ref f)=true) (d:K.lookup T=some ⟨oc',od',.seq #[.str y t] n,osl'⟩) :
    ∃ f fd,DefAtD K mg x st f fd y:=⟨f,_,⟨⟨oc,od,kV,doc,pm,an,cdv,ct,osl,T,_,n,t,rfl,l,c,d,rfl⟩,k⟩,PySem.W.mg_of X G a⟩
structure FGD (P:Program) (w:World) (K:PySem.W.Frag) (mg:Str→Option Value) (base:Heap) (cl:Nat→Addr) (k:Nat) (x:Str) (n:Nat) (F:List PV→R PV) (y:Str):Prop where
  ex:∃ (f:Addr) (fd:FuncData) (ps:List Str) (d:Value),mg x=some (.ref f)∧PySem.W.keepIn K (.ref f)=true∧ps.length=n∧FnOk P w K mg base (CXm cl P w) k f fd ps (spF K cl n F)∧Binds K fd ps []∧Binds K fd ps [d]∧RelV (.str y) d
theorem FGD.fg {k:Nat}{x:Str}{n:Nat}{F:List PV→R PV}{y:Str} (h:FGD P w K mg base cl k x n F y):FG P w K mg base cl k x n F:=by
  obtain ⟨f,fd,ps,d,a,b,c,e,g,_⟩:=h.ex
  exact ⟨⟨f,fd,ps,a,b,c,e,g⟩⟩
theorem DefAtD.fg {x:Str}{st:Stmt}{f:Addr}{fd:FuncData}{y:Str}{N ps:List Str}{k n:Nat}{b:FS} (D:DefAtD K mg x st f fd y) (S:FnScope N ps (defScope st)) (hn:ps.length=n)
    (hb:∀ (T:Addr) (t:Tok) (kV doc pm:Value) (an:Option Addr) (cdv ct:Value) (us:List Value),us.length=ps.length→∃ k,bindArgs (PySem.W.fnOf x x (defArgs st) (defBody st) (defScope st) (.ref T) kV doc pm an cdv ct) ⟨us,[]⟩=seqItems? (.ref T) >>= k∧k (some #[.str y t])=pure (ps.zip us))
    (hb1:∀ (T:Addr) (t:Tok) (kV doc pm:Value) (an:Option Addr) (cdv ct:Value) (us:List Value),us.length+1=ps.length→∃ k,bindArgs (PySem.W.fnOf x x (defArgs st) (defBody st) (defScope st) (.ref T) kV doc pm an cdv ct) ⟨us,[]⟩=seqItems? (.ref T) >>= k∧k (some #[.str y t])=pure (ps.zip (us ++ [.str y t])))
    (hbody:∀ (cdv:Value) (A:Around) (outer:List Env) (s:Shared) (H:Hp) (E:XK),Room k (A.deeper (envOfC x (defScope st) s.heap.objs.size f cdv)) →
      MSs (cxM P w K mg base cl N x (defScope st) f cdv A outer s H E) cl (defBody st) b):FGD P w K mg base cl (k+1) x n (runF N.length b) y:=by
  obtain ⟨oc,od,kV,doc,pm,an,cdv,ct,osl,T,o,m,t,rfl,lk,hcd,lt,dt⟩:=D.fn.ex
  refine ⟨⟨f,_,ps,.str y t,D.mg,D.fn.kp,hn,fn_mirror' lk hcd S hn hbody,fun s us X hl=>?_,fun s us X hl=>?_,⟨t,rfl⟩⟩⟩
  · rw [List.append_nil] at hl ⊢
    obtain ⟨k,e1,e2⟩:=hb T t kV doc pm an cdv ct us hl
    exact PySem.W.binds_K X rfl lt dt e1 e2
  · obtain ⟨k,e1,e2⟩:=hb1 T t kV doc pm an cdv ct us (by simpa using hl)
    exact PySem.W.binds_K X rfl lt dt e1 e2
end
section
variable {X:Cx}{cl:Nat→Addr}
end
structure WayC (K:PySem.W.Frag) (mg:Str→Option Value) (cl:Nat→Addr) (c:Nat) (x:Str):Prop where
  mg:mg x=some (.ref (cl c))
  makes:PySem.W.makesIn K (cl c)=true
  init:PySem.W.findIn K (.ref (cl c)) "__init__"=some (some (.builtin "object.__init__"))
  kp:PySem.W.keepIn K (.ref (cl c))=true
  cls:L2.Cls K (cl c)
  hc:PySem.W.findIn K (.ref (cl c)) "__class__"=some (some (.builtin "object.__class__"))
  hn:PySem.W.specialIn K (.builtin "object.__class__") "__get__"=some (some (.builtin "getset_descriptor.__get__"))
  ht:PySem.W.takesIn K (.builtin "object.__class__")=some true
  hm:PySem.W.mroIn K (cl c) (.type "object")=some true
noncomputable def fMake (c:Nat):FE:=fun _=>.ok (.ins c)
section
variable {X:Cx}{cl:Nat→Addr}
theorem me_make {c:Nat}{x:Str}{p pos:Pos} (M:WayC X.K X.mg cl c x) (hg:Gl X x) (hdb:(x == ("__debug__" : Str))=false:=by decide):ME X cl (.Call (.Name x p) [] [] pos) (fMake c):=by
  refine ⟨?_⟩
  intro pins s σ Hf0 H0 Hf H ρ I r hs
  refine wpAny_Call_Name_kw (ld_glob I hg M.mg ?_ hdb)
  refine PySem.W.callWith_K0 I.kIn M.kp (wpAny_call (make_map0 I.kIn M.makes M.init (fun self=>PySem.W.Looks.of_pure (PySem.W.oi_bind self)) ?_))
  have I2:=Inv.made (C:=cl c) I
  have n1:H s.heap.objs.size=none:=I.hok.fresh (Nat.le_refl _)
  have n2:H (s.heap.objs.size+1)=none:=I.hok.fresh (Nat.le_succ _)
  have e1:=Ext.newH r.sub n1 (.own (s.heap.objs.size+1))
  have n3:upd H s.heap.objs.size (.own (s.heap.objs.size+1)) (s.heap.objs.size+1)=none:=by rw [upd_ne (Nat.ne_of_gt (Nat.lt_succ_self _))];exact n2
  have e2:=Ext.new e1.sub n3 (.ins (cl c) s.heap.objs.size [])
  obtain ⟨hh,g,d,t,os⟩:=s
  have Y:=PySem.W.makes_of (M:=model X.prog X.w) I.kIn M.makes
  have hx:((hh.push PySem.W.emptyDict).push (PySem.W.instObj (cl c) hh.objs.size)).get? (hh.objs.size+1)=some (PySem.W.instObj (cl c) hh.objs.size):=by
    have:=Heap.get?_push_size (hh.push PySem.W.emptyDict) (o:=PySem.W.instObj (cl c) hh.objs.size) rfl
    rwa [Heap.size_push] at this
  have t1:PySem.W.Looks (model X.prog X.w) ((hh.push PySem.W.emptyDict).push (PySem.W.instObj (cl c) hh.objs.size)) (typeOf (.ref (hh.objs.size+1))) (.ref (cl c)):=(PySem.W.Looks.ld hx).andThen .now
  have t2:PySem.W.Looks (model X.prog X.w) ((hh.push PySem.W.emptyDict).push (PySem.W.instObj (cl c) hh.objs.size)) (isInstance (.ref (hh.objs.size+1)) (.type "object")) true:=t1.andThen (Y.top.keeps fun b o e=>Heap.get?_push_of_some _ (Heap.get?_push_of_some _ e))
  refine codeAny_call_builtin PySem.W.oi_plain PySem.W.entry_oi (@PySem.W.check_slot (model X.prog X.w) _ _ _ "object.__init__" "object" "__init__" (.ref (hh.objs.size+1)) [] [] _ PySem.W.oi_kind PySem.W.oi_split t2 (PySem.W.oi_args (.ref (hh.objs.size+1))) ?_)
  rw [PySem.W.oi_run]
  exact wpAny_pure (And.intro rfl ⟨.ins c,.ref (hh.objs.size+1),_,_,rfl,I2,rfl,e1.trans e2,.ins upd_same⟩)
end
noncomputable def mtLook (c:Nat):List (Nat×(List PV→R PV))→Option (List PV→R PV)
  | []=>none
  | (d,F)::r=>if c=d then some F else mtLook c r
noncomputable def mtK (tbl:List (Nat×(List PV→R PV))) (gv:R (List PV)):PV→R PV
  | .ins c=>(match mtLook c tbl with
    | some F=>gv.bind fun vs=>F (.ins c::vs)
    | none=>.stuck)
  | _=>.stuck
theorem mtK_ins (tbl:List (Nat×(List PV→R PV))) (gv:R (List PV)) (c:Nat):mtK tbl gv (.ins c)=match mtLook c tbl with
    | some F=>gv.bind fun vs=>F (.ins c::vs)
    | none=>.stuck:=rfl
theorem mtK_ns {tbl:List (Nat×(List PV→R PV))}{gv:R (List PV)}{q:PV} (h:mtK tbl gv q≠.stuck):∃ c F,q = .ins c∧mtLook c tbl=some F∧mtK tbl gv q=gv.bind fun vs=>F (.ins c::vs):=by
  cases q with
  | ins c =>
    cases em:mtLook c tbl with
    | none=>exact absurd (by rw [mtK_ins,em]) h
    | some F=>exact ⟨c,F,rfl,em,by rw [mtK_ins,em]⟩
  | _=>exact absurd rfl h
noncomputable def fMeth (tbl:List (Nat×(List PV→R PV))) (o:FE) (g:FA):FE:=fun ρ=>(o ρ).bind (mtK tbl (g ρ))
structure FM (P:Program) (w:World) (K:PySem.W.Frag) (mg:Str→Option Value) (base:Heap) (cl:Nat→Addr) (k:Nat) (m:Str) (n:Nat) (tbl:List (Nat×(List PV→R PV))):Prop where
  ex:∀ c F,mtLook c tbl=some F→∃ (f:Addr) (fd:FuncData) (ps:List Str),L2.Cls K (cl c)∧Meth K (cl c) m f∧ps.length=n+1∧FnOk P w K mg base (CXm cl P w) k f fd ps (spF K cl (n+1) F)∧Binds K fd ps []
section
variable {X:Cx}{cl:Nat→Addr}
theorem me_meth {o:Expr}{fo:FE}{e:Expr}{es:List Expr}{g:FA}{m:Str}{apos pos:Pos}{k n:Nat}{tbl:List (Nat×(List PV→R PV))}{pl:Sem Bool} (hF:FM X.prog X.w X.K X.mg X.base cl k m n tbl) (hr:Room k X.A) (hst':X.stack=X.env::X.outer) (inj:∀ c d,cl c=cl d→c=d) (hex:∀ b,b ∉ X.ex)
    (ho:ME X cl o fo) (ha:MA X cl (e::es) g) (hl:(e::es).length=n)
    (hst:starEach (e::es) X.env=(false,eval e X.env)::starEach es X.env:=by rfl) (hpl:(backTo pos (starEach es X.env)).any (·.1)=false:=by rfl)
    (ht:eval (.Call (.Attribute o m apos) (e::es) [] pos) X.env=(do
      let ov ← eval o X.env
      standAt apos.atName
      let (f,first) ← holding [ov] (getMethod ov m pl)
      callWith pos f first (backTo pos (starEach (e::es) X.env)) (backToKw pos (keywordEach [] X.env))):=by rfl) :
    ME X cl (.Call (.Attribute o m apos) (e::es) [] pos) (fMeth tbl fo g):=by
  refine ⟨?_⟩
  intro pins s σ Hf0 H0 Hf H ρ I r hs
  unfold fMeth at hs ⊢
  refine PySem.W.methodCall_KW (pl:=pl) (ho.run I r (Ext.refl r.sub) hs fun q v u s1 Hf1 H1 e1 I1 rv x1 rp=>?_) ht
  rw [e1] at hs ⊢
  obtain ⟨c,F,rfl,em,red⟩:=mtK_ns hs
  rw [red] at hs ⊢
  obtain ⟨f,fd,ps,hc,hm,hn,hf,hb⟩:=hF.ex c F em
  cases rp with
  | ins hq =>
    rename_i a dx
    obtain rfl:u=Value.ref a:=rv
    refine getmeth_ok I1 (x1.sub _ _ hq) hc hm rfl ?_
    refine PySem.W.callWith_K (first:=[.ref a]) (h₀:=X.base) I.ok.mod.kin hm.kp (ha.run pos I1 (r.keep x1) x1 hs fun qs vs us s2 Hf2 H2 hq2 e2 I2 rv2 x2 rps=>⟨I2.kIn,?_⟩) hst hpl
    rw [e2] at hs ⊢
    have x12:Same Hf1 Hf2:=x2.frz
    have rps':Rps X.K cl Hf2 (.ref a::vs) (.ins c::qs):=.cons (.ins (x12 _ _ hq)) rps
    have hv:(V.ref a::vs).length=n+1:=by rw [List.length_cons,rps.length,hq2,hl]
    have rv':Vals (.ref a::vs) (.ref a::us):=.cons rfl rv2
    have hsp:spF X.K cl (n+1) F (.ref a::vs) H2 (fun v H'=>∃ p Hf',F (.ins c::qs) = .ok p∧Ext Hf2 H2 Hf' H'∧Rp X.K cl Hf' v p) (fun u o H'=>∃ d Hf',F (.ins c::qs) = .exc d∧Ext Hf2 H2 Hf' H'∧u = .ref (cl d)) :=
      ⟨hv,Hf2,.ins c::qs,x2.sub,rps',hs,fun p v Hf' H' a b c=>⟨p,Hf',a,b,c⟩,fun c Hf' H' a b=>⟨c,Hf',a,b,rfl⟩⟩
    have hlu:(Value.ref a::us ++ []).length=ps.length:=by rw [List.append_nil,← rv'.length,hv,hn]
    have hbb:=hb s2 (.ref a::us) I2.kIn hlu
    rw [List.append_nil] at hbb
    refine wpAny_call (codeAny_mono (hf.run X.A X.stack s2 H2 ⟨.ref a::us,[]⟩ (.ref a::us) (.ref a::vs) _ _ hr I2.env0 hbb rv' hsp) fun r s' hq'=>?_)
    cases r with
    | error e=>exact ExP.from (e0:=x1.trans x2) (xat_of (F:=fun _=>F (.ins c::qs)) (ps:=[]) I2 x2.sub hst' hq' inj hex)
    | ok fl =>
      cases fl with
      | ret u =>
        obtain ⟨v,H',I',rv',p,Hf',e2,ex,rp⟩:=I2.after hq'
        exact ⟨p,v,Hf',H',e2,I',rv',(x1.trans x2).trans ex,rp⟩
      | next=>exact False.elim hq'
      | brk=>exact False.elim hq'
      | cont=>exact False.elim hq'
end
noncomputable def wunder (c d:Nat):Bool:=c == d || d == 20
structure Ways (K:PySem.W.Frag) (mg:Str→Option Value) (cl:Nat→Addr) (wn:List (Nat×Str)):Prop where
  cls:∀ c x,(c,x)∈wn→WayC K mg cl c x
  kit:∀ c x d y,(c,x)∈wn→(d,y)∈wn→PySem.W.kitOne K (.ref (cl c)) (.ref (cl d))=some (wunder c d)
section
variable {P:Program}{w:World}{K:PySem.W.Frag}{mg:Str→Option Value}{base:Heap}{cl:Nat→Addr}
theorem mk0 {N:List Str}{qual:Str}{scope:Scope}{f:Addr}{cd:Value}{A:Around}{outer:List Env}{s:Shared}{H:Hp}{E:XK}{c:Nat}{x:Str}{p pos:Pos}{wn:List (Nat×Str)}
    (C:Ways K mg cl wn) (hx:(c,x)∈wn) (hg:Gl (cxM P w K mg base cl N qual scope f cd A outer s H E) x:=by rfl) (hdb:(x == ("__debug__" : Str))=false:=by decide) :
    ME (cxM P w K mg base cl N qual scope f cd A outer s H E) cl (.Call (.Name x p) [] [] pos) (fMake c):=me_make (C.cls c x hx) hg hdb
theorem mm {N:List Str}{qual:Str}{scope:Scope}{f:Addr}{cd:Value}{A:Around}{outer:List Env}{s:Shared}{H:Hp}{E:XK}{k k' n:Nat}{m:Str}{tbl:List (Nat×(List PV→R PV))}{o e:Expr}{es:List Expr}{fo:FE}{g:FA}{apos pos:Pos}{pl:Sem Bool}
    (h:FM P w K mg base cl k m n tbl) (hr:Room k' (A.deeper (envOfC qual scope s.heap.objs.size f cd))) (inj:∀ c d,cl c=cl d→c=d) (ho:ME (cxM P w K mg base cl N qual scope f cd A outer s H E) cl o fo) (ha:MA (cxM P w K mg base cl N qual scope f cd A outer s H E) cl (e::es) g) (hk:k≤k':=by decide)
    (hl:(e::es).length=n:=by rfl)
    (he:starEach (e::es) (cxM P w K mg base cl N qual scope f cd A outer s H E).env=(false,eval e (cxM P w K mg base cl N qual scope f cd A outer s H E).env)::starEach es (cxM P w K mg base cl N qual scope f cd A outer s H E).env:=by rfl)
    (hpl:(backTo pos (starEach es (cxM P w K mg base cl N qual scope f cd A outer s H E).env)).any (·.1)=false:=by rfl)
    (ht:eval (.Call (.Attribute o m apos) (e::es) [] pos) (cxM P w K mg base cl N qual scope f cd A outer s H E).env=(do
      let ov ← eval o (cxM P w K mg base cl N qual scope f cd A outer s H E).env
      standAt apos.atName
      let (f',first) ← holding [ov] (getMethod ov m pl)
      callWith pos f' first (backTo pos (starEach (e::es) (cxM P w K mg base cl N qual scope f cd A outer s H E).env)) (backToKw pos (keywordEach [] (cxM P w K mg base cl N qual scope f cd A outer s H E).env))):=by rfl) :
    ME (cxM P w K mg base cl N qual scope f cd A outer s H E) cl (.Call (.Attribute o m apos) (e::es) [] pos) (fMeth tbl fo g) :=
  me_meth h (hr.mono hk) rfl inj (fun b z=>absurd (show b∈([]:List Addr) from z) (by simp)) ho ha hl he hpl ht
structure MethAt (K:PySem.W.Frag) (cl:Nat→Addr) (c:Nat) (m qual:Str) (st:Stmt) (f:Addr) (fd:FuncData):Prop where
  fn:Fun K m qual st f fd
  at_:Meth K (cl c) m f
structure MG (P:Program) (w:World) (K:PySem.W.Frag) (mg:Str→Option Value) (base:Heap) (cl:Nat→Addr) (k:Nat) (c:Nat) (m:Str) (n:Nat) (F:List PV→R PV):Prop where
  ex:∃ (f:Addr) (fd:FuncData) (ps:List Str),L2.Cls K (cl c)∧Meth K (cl c) m f∧ps.length=n+1∧FnOk P w K mg base (CXm cl P w) k f fd ps (spF K cl (n+1) F)∧Binds K fd ps []
theorem MethAt.mgp {c:Nat}{m qual:Str}{st:Stmt}{f:Addr}{fd:FuncData}{N ps:List Str}{k n:Nat}{b:FS} (D:MethAt K cl c m qual st f fd) (hc:L2.Cls K (cl c)) (S:FnScope N ps (defScope st)) (hn:ps.length=n+1)
    (hb:∀ (kV doc pm:Value) (an:Option Addr) (cdv ct:Value) (us:List Value),us.length=ps.length→bindArgs (PySem.W.fnOf m qual (defArgs st) (defBody st) (defScope st) .none kV doc pm an cdv ct) ⟨us,[]⟩=pure (ps.zip us))
    (hbody:∀ (cdv:Value) (A:Around) (outer:List Env) (s:Shared) (H:Hp) (E:XK),Room k (A.deeper (envOfC qual (defScope st) s.heap.objs.size f cdv)) →
      MSs (cxM P w K mg base cl N qual (defScope st) f cdv A outer s H E) cl (defBody st) b):MG P w K mg base cl (k+1) c m n (runF N.length b) :=
  ⟨⟨f,fd,ps,hc,D.at_,hn,fn_mirror D.fn S hn hbody,D.fn.binds hb⟩⟩
theorem fm_nil {k n:Nat}{m:Str}:FM P w K mg base cl k m n []:=⟨fun c F h=>by cases h⟩
theorem fm_cons {j k n:Nat}{c:Nat}{m:Str}{F:List PV→R PV}{tbl:List (Nat×(List PV→R PV))} (h:MG P w K mg base cl j c m n F) (t:FM P w K mg base cl k m n tbl) (hk:j≤k:=by decide):FM P w K mg base cl k m n ((c,F)::tbl):=by
  refine ⟨fun d G e=>?_⟩
  unfold mtLook at e
  by_cases z:d=c
  · subst z
    rw [if_pos rfl] at e
    cases e
    obtain ⟨f,fd,ps,a,b,c,g,i⟩:=h.ex
    exact ⟨f,fd,ps,a,b,c,g.mono hk,i⟩
  · rw [if_neg z] at e
    exact t.ex d G e
noncomputable def wayOk (K:PySem.W.Frag) (x:Str):Bool :=
  refIn K x && PySem.W.makesIn K (adOf K x) && PySem.W.findIn K (.ref (adOf K x)) "__init__" == some (some (.builtin "object.__init__")) && PySem.W.keepIn K (.ref (adOf K x)) &&
  PySem.W.plainGet K (adOf K x) Str.empty && PySem.W.hasDictIn K (adOf K x) && PySem.W.plainOver K (adOf K x) && PySem.W.findIn K (.ref (adOf K x)) "__setattr__" == some (some (.builtin "object.__setattr__")) &&
  PySem.W.findIn K (.ref (adOf K x)) "__class__" == some (some (.builtin "object.__class__")) && PySem.W.specialIn K (.builtin "object.__class__") "__get__" == some (some (.builtin "getset_descriptor.__get__")) &&
  PySem.W.takesIn K (.builtin "object.__class__") == some true && PySem.W.mroIn K (adOf K x) (.type "object") == some true
noncomputable def waysOk (K:PySem.W.Frag) (wn:List (Nat×Str)):Bool:=wn.all fun p=>wayOk K p.2 && wn.all fun q=>PySem.W.kitOne K (.ref (adOf K p.2)) (.ref (adOf K q.2)) == some (wunder p.1 q.1)
noncomputable def clsOk2 (K:PySem.W.Frag) (all names:List (Nat×Str)):Bool:=ndOk (all.map fun p=>adOf K p.2) && names.all fun p=>oneOk K p && names.all fun q=>pairOk K p q
theorem cls_inj2 {all names:List (Nat×Str)} (e:clsOk2 K all names=true):∀ c d,clOf K all c=clOf K all d→c=d:=clOf_inj (nd_of (Bool.and_eq_true_iff.mp e).1)
theorem cls_of2 {h:Heap}{all names:List (Nat×Str)} (X:K.In h) (G:h.Ns mainGlobals mg) (hn:(all.map (·.1)).Nodup) (hs:∀ p∈names,p∈all) (e:clsOk2 K all names=true):Cls K mg (clOf K all) names:=by
  have a:=(Bool.and_eq_true_iff.mp e).2
  have one:∀ c x,(c,x)∈names→oneOk K (c,x)=true∧∀ d y,(d,y)∈names→pairOk K (c,x) (d,y)=true:=fun c x hx=>by
    have:=List.all_eq_true.mp a (c,x) hx
    rw [Bool.and_eq_true] at this
    exact ⟨this.1,fun d y hy=>List.all_eq_true.mp this.2 (d,y) hy⟩
  refine ⟨fun c x hx=>?_,fun c x d y hx hy=>?_,fun c x d y hx hy=>?_,fun d y hy=>?_,fun c x hx=>?_⟩
  · obtain ⟨o,_⟩:=one c x hx
    unfold oneOk at o
    simp only [Bool.and_eq_true,beq_iff_eq] at o
    exact ⟨by rw [clOf_at hn (hs _ hx)];exact PySem.W.mg_of X G (refIn_of o.1.1.1.1),by rw [clOf_at hn (hs _ hx)];exact o.1.1.1.2,by rw [clOf_at hn (hs _ hx)];exact o.1.1.2⟩
  · have o:=(one c x hx).2 d y hy
    unfold pairOk at o
    simp only [Bool.and_eq_true,beq_iff_eq] at o
    rw [clOf_at hn (hs _ hx),clOf_at hn (hs _ hy)];exact o.1
  · have o:=(one c x hx).2 d y hy
    unfold pairOk at o
    simp only [Bool.and_eq_true,beq_iff_eq] at o
    rw [clOf_at hn (hs _ hx),clOf_at hn (hs _ hy)];exact o.2
  · obtain ⟨o,_⟩:=one d y hy
    unfold oneOk at o
    simp only [Bool.and_eq_true,beq_iff_eq] at o
    rw [clOf_at hn (hs _ hy)];exact o.2
  · obtain ⟨o,_⟩:=one c x hx
    unfold oneOk at o
    simp only [Bool.and_eq_true,beq_iff_eq] at o
    rw [clOf_at hn (hs _ hx)];exact o.1.2
theorem ways_of {h:Heap}{all wn:List (Nat×Str)} (X:K.In h) (G:h.Ns mainGlobals mg) (hn:(all.map (·.1)).Nodup) (hs:∀ p∈wn,p∈all) (e:waysOk K wn=true):Ways K mg (clOf K all) wn:=by
  have one:∀ c x,(c,x)∈wn→wayOk K x=true∧∀ d y,(d,y)∈wn→PySem.W.kitOne K (.ref (adOf K x)) (.ref (adOf K y))=some (wunder c d):=fun c x hx=>by
    have:=List.all_eq_true.mp e (c,x) hx
    rw [Bool.and_eq_true] at this
    exact ⟨this.1,fun d y hy=>beq_iff_eq.mp (List.all_eq_true.mp this.2 (d,y) hy)⟩
  refine ⟨fun c x hx=>?_,fun c x d y hx hy=>?_⟩
  · obtain ⟨o,_⟩:=one c x hx
    have ec:=clOf_at (K:=K) hn (hs _ hx)
    unfold wayOk at o
    simp only [Bool.and_eq_true,beq_iff_eq] at o
    obtain ⟨⟨⟨⟨⟨⟨⟨⟨⟨⟨⟨o1,o2⟩,o3⟩,o4⟩,o5⟩,o6⟩,o7⟩,o8⟩,o9⟩,o10⟩,o11⟩,o12⟩:=o
    exact ⟨by rw [ec];exact PySem.W.mg_of X G (refIn_of o1),by rw [ec];exact o2,by rw [ec];exact o3,by rw [ec];exact o4,by rw [ec];exact ⟨o5,o6,o7,o8⟩,by rw [ec];exact o9,o10,o11,by rw [ec];exact o12⟩
  · rw [clOf_at hn (hs _ hx),clOf_at hn (hs _ hy)];exact (one c x hx).2 d y hy
theorem adOf_of {x:Str}{C:Addr} (a:PySem.W.nsIn K mainGlobals x=some (some (.ref C))):adOf K x=C:=by unfold adOf;rw [a]
theorem meth_mk {all:List (Nat×Str)}{c:Nat}{x m qual:Str}{st:Stmt}{C f:Addr}{oc:Value}{od an:Option Addr}{osl:Array (Option Value)}{kV doc pm cdv ct:Value} (hn:(all.map (·.1)).Nodup) (hx:(c,x)∈all) (a:PySem.W.nsIn K mainGlobals x=some (some (.ref C)))
    (b:PySem.W.findIn K (.ref C) m=some (some (.ref f))) (i:PySem.W.isFn K (.ref f)=true) (l:K.lookup f=some ⟨oc,od,.func (PySem.W.fnOf m qual (defArgs st) (defBody st) (defScope st) .none kV doc pm an cdv ct),osl⟩) (d:PySem.W.codeIn K cdv qual=true) (k:PySem.W.keepIn K (.ref f)=true) :
    ∃ f fd,MethAt K (clOf K all) c m qual st f fd:=⟨f,_,fun_mk l d k,by rw [clOf_at hn hx,adOf_of a];exact ⟨b,i,k⟩⟩
end
noncomputable def padTo:Nat→MEnv→MEnv
  | 0,_=>[]
  | n+1,[]=>none::padTo n []
  | n+1,o::r=>o::padTo n r
noncomputable def compL (n:Nat) (t:FT) (f:FE) (ρ:MEnv):List PV→R (List PV)
  | []=>.ok []
  | p::r=>match t (padTo n ρ ++ [some p]) with
    | .ok true=>(match f (padTo n ρ ++ [some p]) with
      | .ok v=>(match compL n t f ρ r with
        | .ok vs=>.ok (v::vs)
        | _=>.stuck)
      | _=>.stuck)
    | .ok false=>compL n t f ρ r
    | _=>.stuck
noncomputable def tTrue:FT:=fun _=>.ok true
noncomputable def compK (n:Nat) (t:FT) (f:FE) (ρ:MEnv) (l:List PV):R PV:=if l.length≤1000000 then (match compL n t f ρ l with
  | .ok vs=>.ok (.lst vs)
  | _=>.stuck) else .stuck
noncomputable def fComp (n:Nat) (it:FA) (t:FT) (f:FE):FE:=fun ρ=>(it ρ).bind (compK n t f ρ)
theorem padTo_len:∀ (n:Nat) (ρ:MEnv),(padTo n ρ).length=n
  | 0,_=>rfl
  | n+1,[]=>congrArg (·+1) (padTo_len n [])
  | n+1,_::r=>congrArg (·+1) (padTo_len n r)
theorem padTo_get:∀ {n:Nat}{ρ:MEnv}{i:Nat}{p:PV},(padTo n ρ)[i]?=some (some p)→ρ[i]?=some (some p)
  | 0,_,_,_,h=>by simp [padTo] at h
  | n+1,[],0,_,h=>by simp [padTo] at h
  | n+1,[],i+1,p,h=>by
    have:(padTo n [])[i]?=some (some p):=by simpa [padTo] using h
    have:=padTo_get this
    simp at this
  | n+1,o::r,0,p,h=>by simpa [padTo] using h
  | n+1,o::r,i+1,p,h=>by
    have:(padTo n r)[i]?=some (some p):=by simpa [padTo] using h
    simpa using padTo_get this
theorem Rep.snoc {K:PySem.W.Frag}{cl:Nat→Addr}{Hf0 H0 Hf H:Hp}{σ:SV}{ρ:MEnv} (r:Rep K cl Hf0 H0 Hf H σ ρ) {v:V}{p:PV} (hr:Rp K cl Hf v p):Rep K cl Hf0 H0 Hf H (σ ++ [some v]) (padTo σ.length ρ ++ [some p]):=by
  have np:∀ l,p≠.own l:=fun l z=>by subst z;cases hr
  have at_:∀ {i:Nat}{q:PV},(padTo σ.length ρ ++ [some p])[i]?=some (some q)→(i<σ.length∧ρ[i]?=some (some q))∨(i=σ.length∧q=p):=fun {i q} h=>by
    by_cases hi:i<σ.length
    · rw [List.getElem?_append_left (by rw [padTo_len];exact hi)] at h
      exact .inl ⟨hi,padTo_get h⟩
    · rw [List.getElem?_append_right (by rw [padTo_len];omega),padTo_len] at h
      by_cases z:i=σ.length
      · subst z;simp at h;exact .inr ⟨rfl,h.symm⟩
      · rw [List.getElem?_eq_none (by simp;omega)] at h;cases h
  refine ⟨r.ext,fun i q h=>?_,fun i j ps qs a h1 h2 h3 h4=>?_⟩
  · rcases at_ h with ⟨hi,h'⟩ | ⟨rfl,rfl⟩
    · obtain ⟨w,h1,h2⟩:=r.slot i q h'
      exact ⟨w,by rw [List.getElem?_append_left hi];exact h1,h2⟩
    · refine ⟨v,by simp,?_⟩
      cases q with
      | own l=>exact absurd rfl (np l)
      | _=>exact hr
  · rcases at_ h1 with ⟨hi,h1'⟩ | ⟨rfl,e⟩
    · rcases at_ h2 with ⟨hj,h2'⟩ | ⟨rfl,e⟩
      · rw [List.getElem?_append_left hi] at h3
        rw [List.getElem?_append_left hj] at h4
        exact r.dist i j ps qs a h1' h2' h3 h4
      · exact absurd e.symm (np qs)
    · exact absurd e.symm (np ps)
noncomputable def cxB (X:Cx) (Ns:List Str) (x:Str) (sc:Scope) (cs:List (Str×Addr)) (C:Addr) (s:Shared) (H:Hp) (fp:List Addr):Cx :=
  { X with N:=Ns ++ [x],s₀:=s,H₀:=H,env:=compEnvC sc cs C X.env,outer:=X.stack,stack:=X.stack,ex:=fp,fn:=fun _=>false,pn:=[],xe:=fun _ _=>False }
structure Cap (X:Cx) (Ns:List Str) (x:Str) (sc:Scope) (cs:List (Str×Addr)):Prop where
  clos:closureFor sc X.env=pure cs
  kind:sc.kind = .function
  nocell:∀ y∈sc.names,y.2≠.cell
  names:∀ y∈sc.names,y.2 = .local→sc.names.lookup y.1=some .local
  here:sc.names.lookup x=some .local
  sub:∀ y c,cs.lookup y=some c→X.env.cells.lookup y=some c
  has:∀ y,((relabel sc X.env).names.lookup y=some .cell∨(relabel sc X.env).names.lookup y=some .free)→∃ c,cs.lookup y=some c
  vis:∀ y∈Ns,Vis (relabel sc X.env) y→((relabel sc X.env).names.lookup y=some .cell∨(relabel sc X.env).names.lookup y=some .free)∧(X.env.kindOf y=some .cell∨X.env.kindOf y=some .free)
  new:x ∉ Ns
  len:Ns.length=X.N.length
  same:∀ (i:Nat) (y:Str),Ns[i]?=some y→Vis (relabel sc X.env) y→X.N[i]?=some y
section
variable {X:Cx}{cl:Nat→Addr}{pins:List (Addr×Obj)}{σ:SV}{H:Hp}{s:Shared}{Ns:List Str}{x:Str}{sc:Scope}{cs:List (Str×Addr)}{fp:List Addr}
theorem cxB_ok (I:Inv X pins σ H s) (c:Cap X Ns x sc cs) (hf:∀ b∈fp,FpOk X pins H b) (hl:∀ b∈fp,b<s.heap.objs.size):(cxB X Ns x sc cs s.heap.objs.size s H fp).Ok where
  mod:=I.ok.mod
  kind:=c.kind
  glob:=I.ok.glob
  blt:=I.ok.blt
  above:=Nat.le_refl _
  inj:=fun y z d e1 e2=>I.ok.inj y z d (c.sub y d e1) (c.sub z d e2)
  has:=fun y h=>c.has y h
  cab:=fun y d h=>by cases h
  hd:=I.ok.hd
  frames:=I.ok.frames
  stk:=.inl rfl
  exf:=fun b hb=>⟨Nat.ne_of_lt (hl b hb),fun y d e=>(hf b hb).2.2.2.2.1 y d (c.sub y d e)⟩
  bs:=I.bs
  bsz:=Nat.le_trans I.ok.bsz I.sz
  noex:=fun b o e hb=>by
    rcases (hf b hb).2.2.2.1 with z | z
    · exact I.ok.noex b o e z
    · exact absurd (Nat.lt_of_lt_of_le (Heap.lt_size e) (Nat.le_trans I.ok.bsz z)) (Nat.lt_irrefl _)
  exfs:=fun b hb z=>by
    rcases List.mem_cons.mp (I.stkSub b z) with e | e
    · exact (hf b hb).2.1 e
    · exact (hf b hb).2.2.1 e
  funs:=I.stack
  frf:=I.stkFree
theorem cxB_inv {h1:Heap}{tk:Nat} (I:Inv X pins σ H s) (c:Cap X Ns x sc cs) (hf:∀ b∈fp,FpOk X pins H b) (hl:∀ b∈fp,b<s.heap.objs.size) (hn:h1.Ns s.heap.objs.size (fun _=>none)) (k:∀ b o,s.heap.get? b=some o→h1.get? b=some o) :
    Inv (cxB X Ns x sc cs s.heap.objs.size s H fp) [] (σ ++ [none]) H { s with heap:=h1,toks:=tk } where
  ok:=cxB_ok I c hf hl
  os:=rfl
  bare:=I.bare
  base:=Un.kept k
  loc:=by
    refine ⟨_,hn,fun i y v e1 e2 e3=>?_⟩
    obtain ⟨m,_,lk⟩:=I.loc
    have hi:i<σ.length:=by
      by_cases z:i<σ.length
      · exact z
      · rw [List.getElem?_append_right (by omega)] at e2
        by_cases z2:i=σ.length
        · subst z2;simp at e2
        · rw [List.getElem?_eq_none (by simp;omega)] at e2;cases e2
    rw [List.getElem?_append_left hi] at e2
    have e1'':Ns[i]?=some y:=by
      have:(Ns ++ [x])[i]?=some y:=e1
      rw [List.getElem?_append_left (by rw [c.len,← I.len];exact hi)] at this;exact this
    have e1':=c.same i y e1'' e3
    obtain ⟨k1,k2⟩:=c.vis y (List.mem_of_getElem? e1'') e3
    have v':Vis X.env.scope y:=.inr k2
    obtain ⟨u,ru,l⟩:=lk i y v e1' e2 v'
    refine ⟨u,ru,.inr ⟨k1,?_⟩⟩
    rcases l with ⟨kl,_⟩ | ⟨_,d,ed,z⟩
    · rcases k2 with k2 | k2<;>(rw [k2] at kl;cases kl)
    · obtain ⟨d',ed'⟩:=c.has y k1
      have:=c.sub y d' ed'
      rw [ed] at this
      cases this
      obtain ⟨o,ho,hd⟩:=z
      exact ⟨d,ed',o,k _ _ ho,hd⟩
  cell:=fun y d e=>by
    obtain ⟨v,o,ho,hd⟩:=I.cell y d (c.sub y d e)
    exact ⟨v,o,k _ _ ho,hd⟩
  free:=I.hok.fresh (Nat.le_refl _)
  freeC:=fun y d e=>I.freeC y d (c.sub y d e)
  pin:=fun p hp=>by cases hp
  hok:=I.hok.kept k
  len:=by show (σ ++ [none]).length=(Ns ++ [x]).length;rw [List.length_append,List.length_append,I.len,c.len];rfl
theorem cxB_fp (c:Cap X Ns x sc cs) (I:Inv X pins σ H s) {H':Hp}{C:Addr}{s0:Shared}{H0:Hp} (hC:∀ b∈fp,b≠C) (hf:∀ b∈fp,FpOk X pins H b) (hn:∀ b∈fp,H' b=none):∀ b∈fp,FpOk (cxB X Ns x sc cs C s0 H0 fp) [] H' b:=fun b hb =>
  ⟨hn b hb,hC b hb,fun z=>(List.mem_cons.mp (I.stkSub b z)).elim (hf b hb).2.1 (hf b hb).2.2.1,.inl hb,fun y d e=>(hf b hb).2.2.2.2.1 y d (c.sub y d e),fun p hp=>by cases hp⟩
end
section
variable {prog:Program}{w:World}{A:Around}{R:Result→Shared→Prop}{s:Shared}
theorem compLoop_let {elt target iter:Expr}{ifs:List Expr}{scope:Scope}{pos:Pos}{it acc:Value}{env:Env} (I:Nat→Shared→Prop)
    (turn:∀ n s,I n s→wpAny (model prog w) A (pyNext it) (fun r s₁=>match r with
      | none=>R (.ok .next) s₁
      | some v=>wpAny (model prog w) A (letOwnedTupleGo target it v) (fun _ s₁'=>wpAny (model prog w) A (assign target env v) (fun _ s₂ =>
          wpAny (model prog w) A (forIn ifs true fun c r=>if r=true then do let ok ← isTrue c env (eval c env);pure (ForInStep.yield ok) else pure (ForInStep.yield r)) (fun ok s₃ =>
            if ok=true then wpAny (model prog w) A (eval elt env) (fun x s₄ =>
              wpAny (model prog w) A (call (.builtin "list.append") [acc,x]) (fun _ s₅=>∃ m,m<n∧I m s₅) (fun _ _=>False) s₄) (fun _ _=>False) s₃
            else ∃ m,m<n∧I m s₃) (fun _ _=>False) s₂) (fun _ _=>False) s₁') (fun _ _=>False) s₁) (fun _ _=>False) s)
    (n:Nat) (h:I n s) :
    codeAny (model prog w) A (.compLoop (.ListComp elt [⟨target,iter,ifs,0⟩] scope pos) 0 it acc env) R s:=by
  refine codeAny_loop rfl I (fun n s hI=>?_) n h
  show wpAny _ A ((compTurn (.ListComp elt [⟨target,iter,ifs,0⟩] scope pos) 0 it acc env).onRaise (fun x=>do noteFrame x env;theTreesLotGoes x)) _ _ s
  refine wpAny_noted ?_
  rw [compTurn_list]
  refine wpAny_bind (wpAny_standAt (wpAny_bind (wpAny_mono (turn n s hI) (fun r s₁ h₁=>?_) fun _ _ h'=>h'.elim)))
  cases r with
  | none=>exact wpAny_pure h₁
  | some v =>
    refine wpAny_bind (wpAny_mono h₁ (fun _ s₁' h₁'=>?_) fun _ _ h'=>h'.elim)
    refine wpAny_bind (wpAny_mono h₁' (fun _ s₂ h₂=>wpAny_bind (wpAny_mono h₂ (fun ok s₃ h₃=>?_) fun _ _ h'=>h'.elim)) fun _ _ h'=>h'.elim)
    cases ok with
    | false=>exact wpAny_pure ⟨rfl,h₃⟩
    | true =>
      exact wpAny_bind (wpAny_bind (wpAny_mono h₃ (fun x s₄ h₄=>wpAny_bind (wpAny_mono h₄ (fun _ s₅ h₅=>wpAny_pure (wpAny_pure ⟨rfl,h₅⟩)) fun _ _ h'=>h'.elim)) fun _ _ h'=>h'.elim))
end
inductive MC (X:Cx) (cl:Nat→Addr):List Expr→FT→Prop where
  | nil:MC X cl [] tTrue
  | one {c:Expr}{t:FT} (h:MT X cl c t):MC X cl [c] t
theorem compL_cons {n:Nat}{t:FT}{f:FE}{ρ:MEnv}{p:PV}{r rs:List PV} (h:compL n t f ρ (p::r) = .ok rs) :
    (t (padTo n ρ ++ [some p]) = .ok false∧compL n t f ρ r = .ok rs)∨(t (padTo n ρ ++ [some p]) = .ok true∧∃ v vs,f (padTo n ρ ++ [some p]) = .ok v∧compL n t f ρ r = .ok vs∧rs=v::vs):=by
  unfold compL at h
  split at h
  · rename_i e1
    split at h
    · rename_i v e2
      split at h
      · rename_i vs e3
        cases h
        exact .inr ⟨e1,v,vs,e2,e3,rfl⟩
      · cases h
    · cases h
  · rename_i e1;exact .inl ⟨e1,h⟩
  · cases h
section
variable {X:Cx}{cl:Nat→Addr}
theorem mc_run {ifs:List Expr}{t:FT} (h:MC X cl ifs t) {pins:List (Addr×Obj)}{s:Shared}{σ:SV}{Hf0 H0 Hf H:Hp}{ρ:MEnv}{b:Bool} (I:Inv X pins σ H s) (r:Rep X.K cl Hf0 H0 Hf H σ ρ) (e:t ρ = .ok b) {Q:Bool→Shared→Prop}
    (ok:∀ s' Hf' H',Inv X pins σ H' s'→Ext Hf H Hf' H'→Q b s') :
    wpAny (model X.prog X.w) X.A (forIn ifs true fun c r=>if r=true then do let ok ← isTrue c X.env (eval c X.env);pure (ForInStep.yield ok) else pure (ForInStep.yield r)) Q (fun _ _=>False) s:=by
  cases h with
  | nil =>
    cases e
    exact wpAny_tests_nil (ok s Hf H I (Ext.refl r.sub))
  | one h =>
    refine wpAny_tests_one (wpAny_mono (h pins s σ Hf0 H0 Hf H ρ I r (by rw [e];intro z;cases z)) (fun b' s' q=>?_) fun u s' q=>?_)
    · obtain ⟨Hf',H',e1,I',x⟩:=q
      rw [e] at e1;cases e1
      exact ok s' Hf' H' I' x
    · obtain ⟨c,e1,_⟩:=q
      rw [e] at e1;cases e1
theorem Ext.freeze {Hf H Hf1 H1:Hp} (x:Ext Hf H Hf1 H1) {l:Addr}{o:HO} (h1:H1 l=some o) (h2:Hf1 l=none) (h3:H l=none):Ext Hf H (upd Hf1 l o) H1:=by
  refine ⟨x.all,fun b u q=>?_,fun b u q=>?_,fun b n=>?_⟩
  · have:=x.frz b u q
    by_cases e:b=l
    · subst e;rw [h2] at this;cases this
    · rw [upd_ne e];exact this
  · by_cases e:b=l
    · subst e;rw [upd_same] at q;cases q;exact h1
    · rw [upd_ne e] at q;exact x.sub b u q
  · have e:b≠l:=fun z=>n (by rw [z];exact h3)
    rw [upd_ne e];exact x.old b n
theorem comp_run {elt iter:Expr}{Ns:List Str}{x:Str}{px pos pos':Pos}{sc:Scope}{cs:List (Str×Addr)}{ifs:List Expr}{fa:FA}{t:FT}{f:FE}{n:Nat}{use:Option (Value→Sem Unit)}{Q:Value→Shared→Prop}{E:Value→Shared→Prop}
    {pins:List (Addr×Obj)}{s:Shared}{σ:SV}{Hf0 H0 Hf H:Hp}{ρ:MEnv} (hc:X.calm=true) (c0:X.Ok→Cap X Ns x sc cs) (hn:X.N.length=n) (hnd:(Ns ++ [x]).Nodup) (hi:MI X cl (.Name x px) iter fa)
    (ht:∀ C s H fp,MC (cxB X Ns x sc cs C s H fp) cl ifs t) (hb:∀ C s H fp,ME (cxB X Ns x sc cs C s H fp) cl elt f) (hfs:∀ y,foldedSetIterable iter X.env y=pure y)
    (I:Inv X pins σ H s) (r:Rep X.K cl Hf0 H0 Hf H σ ρ) (hs:fComp n fa t f ρ≠.stuck) (hE:∀ u s',ExP X cl pins σ Hf H (fa ρ) u s'→E u s')
    (hQ:∀ (rs:List PV) (s5:Shared) (Hf5 H5:Hp) (l C:Addr),fComp n fa t f ρ = .ok (.lst rs)→Inv X pins σ H5 s5→Ext Hf H Hf5 H5→Rp X.K cl Hf5 (.ref l) (.lst rs)→FpOk X pins H5 C→(∃ m,s5.heap.Ns C m)→compPost (model X.prog X.w) X.A E use Q (.ref l) C (.ok .next) s5) :
    wpAny (model X.prog X.w) X.A (comprehension (.ListComp elt [⟨.Name x px,iter,ifs,0⟩] sc pos) sc X.env pos' (newList []) false (eval iter X.env) use) Q E s:=by
  have c:=c0 I.ok
  have hfr:fa ρ≠.stuck:=fun z=>hs (by unfold fComp;rw [z];rfl)
  refine wpAny_comprehension_free (use:=use) rfl hfs c.clos c.kind c.names (wpAny_mono (hi pins s σ Hf0 H0 Hf H ρ I r hfr) (fun xv s1 h1=>wpAny_mono h1 (fun itv s2 h2=>?_) hE) hE)
  obtain ⟨ps,vs,Hf2,e1,it,fp,tn,J,H2,e,I2,T,st2,f2,x2,ov,rps⟩:=h2
  subst e
  have ef:fComp n fa t f ρ=compK n t f ρ ps:=by unfold fComp;rw [e1];rfl
  have hs':compK n t f ρ ps≠.stuck:=by rw [← ef];exact hs
  obtain ⟨hz,rs,ec,ek⟩:ps.length≤1000000∧∃ rs,compL n t f ρ ps = .ok rs∧compK n t f ρ ps = .ok (.lst rs):=by
    unfold compK at hs' ⊢
    by_cases hz:ps.length≤1000000
    · rw [if_pos hz] at hs' ⊢
      cases ec:compL n t f ρ ps with
      | ok rs=>exact ⟨hz,rs,rfl,rfl⟩
      | exc d=>rw [ec] at hs';exact absurd rfl hs'
      | stuck=>rw [ec] at hs';exact absurd rfl hs'
    · rw [if_neg hz] at hs';exact absurd rfl hs'
  have ek':fComp n fa t f ρ = .ok (.lst rs):=ef.trans ek
  have nsm:H2 s2.heap.objs.size=none:=I2.hok.fresh (Nat.le_refl _)
  have fpl:∀ b∈fp,b<s2.heap.objs.size:=fun b hb=>by
    obtain ⟨o,ho,_⟩:=T.obj _ _ st2 b hb
    exact Heap.lt_size ho
  refine wpAny_newList ?_
  have k3:∀ b u,s2.heap.get? b=some u→(s2.heap.push { cls:=.type "list",data:=.seq ([]:List Value).toArray }).get? b=some u:=fun b u q=>Heap.get?_push_of_some _ q
  have I3:Inv X pins σ (upd H2 s2.heap.objs.size (.lst [])) { s2 with heap:=s2.heap.push { cls:=.type "list",data:=.seq ([]:List Value).toArray } } :=
    I2.laid (a:=s2.heap.objs.size) (o:=.lst []) (t':=s2.toks) k3 (Nat.le_refl _) ⟨Nat.zero_le _,[],0,.nil,Heap.get?_push_size _ rfl⟩
  generalize hl:s2.heap.objs.size=l at *
  have hf3:∀ b∈fp,FpOk X pins (upd H2 l (.lst [])) b:=fun b hb=>⟨by rw [upd_ne (Nat.ne_of_lt (fpl b hb))];exact (f2 b hb).1,(f2 b hb).2⟩
  generalize hs3:({ s2 with heap:=s2.heap.push { cls:=.type "list",data:=.seq ([]:List Value).toArray } }:Shared)=s3 at I3 ⊢
  have hl3:∀ b∈fp,b<s3.heap.objs.size:=fun b hb=>by
    rw [← hs3]
    show b<(s2.heap.push _).objs.size
    rw [Heap.size_push,hl];exact Nat.lt_succ_of_lt (fpl b hb)
  have st3:tn 0 s3.heap:=T.keep _ _ _ st2 fun b _ o e=>by rw [← hs3];exact k3 b o e
  refine wpAny_newFunctionEnv c.nocell (by intro y hy;simp at hy) (fun h1 hn1 hsb=>?_) c.kind
  have kC:∀ b o,s3.heap.get? b=some o→h1.get? b=some o:=fun b o e=>hsb.extBut b o (Nat.ne_of_lt (Heap.lt_size e)) (Heap.get?_push_of_some _ e)
  have IB:=cxB_inv (tk:=s3.toks+([]:List (Str×Value)).length) I3 c hf3 hl3 hn1 kC
  have x3:Ext Hf2 H2 Hf2 (upd H2 l (.lst [])):=Ext.newH x2.sub nsm (.lst [])
  have hf2l:Hf2 l=none:=x2.sub.free nsm
  have stB:tn 0 h1:=T.keep _ _ _ st3 fun b _ o e=>kC b o e
  have rk:=r.keep x2
  have hsl:σ.length=n:=by rw [I.len,hn]
  have hvp:=rps.length
  have hNn:Ns.length=n:=c.len.trans hn
  have hNi:(Ns ++ [x])[n]?=some x:=by rw [List.getElem?_append_right (by omega),hNn];simp
  have hLx:(relabel sc X.env).names.lookup x=some .local:=lookup_relabel_local c.here
  have hCf:∀ b∈fp,b≠s3.heap.objs.size:=fun b hb=>Nat.ne_of_lt (hl3 b hb)
  have stat:∀ {H':Hp},(∀ b∈fp,H' b=none)→∀ b∈fp,FpOk (cxB X Ns x sc cs s3.heap.objs.size s3 (upd H2 l (.lst [])) fp) [] H' b:=fun hn'=>cxB_fp c I3 hCf hf3 hn'
  have hbb:=hb s3.heap.objs.size s3 (upd H2 l (.lst [])) fp
  have htt:=ht s3.heap.objs.size s3 (upd H2 l (.lst [])) fp
  have loop:codeAny (model X.prog X.w) X.A (.compLoop (.ListComp elt [⟨.Name x px,iter,ifs,0⟩] sc pos) 0 (.ref it) (.ref l) (compEnvC sc cs s3.heap.objs.size X.env))
      (compPost (model X.prog X.w) X.A E use Q (.ref l) s3.heap.objs.size) { s3 with heap:=h1,toks:=s3.toks+([]:List (Str×Value)).length }:=by
    refine compLoop_let (fun m s'=>∃ (k:Nat) (ys:List V) (qs rest:List PV) (Hf' H':Hp) (v:Option V),Inv (cxB X Ns x sc cs s3.heap.objs.size s3 (upd H2 l (.lst [])) fp) [] (σ ++ [v]) H' s'∧tn k s'.heap∧(∀ b∈fp,H' b=none)∧Ext Hf2 H2 Hf' H'∧H' l=some (.lst ys)∧Hf' l=none ∧
      Rps X.K cl Hf' ys qs∧m=ps.length - k∧k≤ps.length∧qs.length≤k∧compL n t f ρ (ps.drop k) = .ok rest∧qs ++ rest=rs) ?_ ps.length
      ⟨0,[],[],rs,Hf2,upd H2 l (.lst []),none,IB,stB,fun b hb=>(hf3 b hb).1,x3,upd_same,hf2l,.nil,by omega,Nat.zero_le _,Nat.zero_le _,ec,rfl⟩
    rintro m s4 ⟨k,ys,qs,rest,Hf4,H4,v4,I4,st4,fr4,x4,hl4,hfl4,rq,rfl,hk,hqk,e4,eq4⟩
    have smH:Same Hf2 H4:=x4.frz.trans x4.sub
    by_cases hlt:k<ps.length
    · obtain ⟨go,yl⟩:=(ov H4 k smH).1 (by rw [hvp];exact hlt)
      refine wpAny_mono (T.item (cxB X Ns x sc cs s3.heap.objs.size s3 (upd H2 l (.lst [])) fp) rfl rfl rfl hc k [] s4 (σ ++ [v4]) H4 (fun _ _=>False) I4 (stat fr4) st4 go) (fun rr s5 ⟨u,hr,h5⟩=>?_) fun _ _ z=>z
      subst hr
      refine thn h5 fun _ s6 ⟨x6,H6,I6,r6,y6,st6,fr6⟩=>?_
      obtain ⟨eH,ex6⟩:=yl x6 H6 y6
      subst eH
      obtain ⟨p6,ep6,rp6⟩:=rps.get' ex6
      have rp6':=rp6.keep x4.frz
      have hdrop:ps.drop k=p6::ps.drop (k+1):=by
        rw [List.drop_eq_getElem_cons hlt]
        rw [List.getElem?_eq_getElem hlt] at ep6
        rw [Option.some.inj ep6]
      rw [hdrop] at e4
      have I6':=I6.pinned (stat fr6) (T.obj _ _ st6)
      refine wpAny_assign_Name (store_ok (X:=cxB X Ns x sc cs s3.heap.objs.size s3 (upd H2 l (.lst [])) fp) I6' hnd hNi (.inl hLx) r6 (fun s7 I7=>?_) (.inr hLx))
      have eσ:(σ ++ [v4]).set n (some x6)=σ ++ [some x6]:=by rw [← hsl,List.set_append_right _ _ (Nat.le_refl _)];simp
      rw [eσ] at I7
      have r7:=(rk.keep x4).snoc rp6'
      rw [hsl] at r7
      have again:∀ {s9:Shared}{Hf9 H9:Hp}{ys9:List V}{qs9 rest9:List PV},Inv (cxB X Ns x sc cs s3.heap.objs.size s3 (upd H2 l (.lst [])) fp) ([] ++ pinsAt fp s6.heap) (σ ++ [some x6]) H9 s9→Ext Hf2 H2 Hf9 H9→H9 l=some (.lst ys9)→Hf9 l=none→Rps X.K cl Hf9 ys9 qs9→qs9.length≤k+1 →
          compL n t f ρ (ps.drop (k+1)) = .ok rest9→qs9 ++ rest9=rs →
          ∃ m,m<ps.length - k∧∃ (k:Nat) (ys:List V) (qs rest:List PV) (Hf' H':Hp) (v:Option V),Inv (cxB X Ns x sc cs s3.heap.objs.size s3 (upd H2 l (.lst [])) fp) [] (σ ++ [v]) H' s9∧tn k s9.heap∧(∀ b∈fp,H' b=none)∧Ext Hf2 H2 Hf' H'∧H' l=some (.lst ys)∧Hf' l=none ∧
            Rps X.K cl Hf' ys qs∧m=ps.length - k∧k≤ps.length∧qs.length≤k∧compL n t f ρ (ps.drop k) = .ok rest∧qs ++ rest=rs:=fun {s9 Hf9 H9 ys9 qs9 rest9} I9 x9 hl9 hfl9 rq9 hq9 ec9 eq9=>by
        refine ⟨ps.length - (k+1),by omega,k+1,ys9,qs9,rest9,Hf9,H9,some x6,I9.unpinned,T.keep _ _ _ st6 fun b hb o e=>(I9.pin (b,o) (List.mem_append_right _ (List.mem_append_right _ (mem_pinsAt hb e)))).1,fun b hb=>?_,x9,hl9,hfl9,rq9,rfl,hlt,hq9,ec9,eq9⟩
        obtain ⟨o,e,d⟩:=T.obj _ _ st6 b hb
        exact (I9.pin (b,o) (List.mem_append_right _ (List.mem_append_right _ (mem_pinsAt hb e)))).2.1
      have nl4:H6 l≠none:=by rw [hl4];intro z;cases z
      rcases compL_cons e4 with ⟨et,e5⟩ | ⟨et,v,vs',ef,e5,er⟩
      · refine mc_run htt I7 r7 et fun s8 Hf8 H8 I8 x8=>?_
        rw [if_neg (by decide)]
        exact again I8 (x4.trans x8) (x8.all _ _ hl4) (by rw [x8.old l nl4];exact hfl4) (rq.keep x8.frz) (by omega) e5 eq4
      · refine mc_run htt I7 r7 et fun s8 Hf8 H8 I8 x8=>?_
        rw [if_pos rfl]
        have r8:=r7.keep x8
        refine wpAny_mono (hbb _ s8 _ Hf0 H0 Hf8 H8 _ I8 r8 (by rw [ef];intro z;cases z)) (fun u s9 q9=>?_) fun u s9 q9=>?_
        · obtain ⟨p9,v9,Hf9,H9,e9,I9,rv9,x9,rp9⟩:=q9
          rw [ef] at e9;cases e9
          have hl8:H8 l=some (.lst ys):=x8.all _ _ hl4
          have hl9:H9 l=some (.lst ys):=x9.all _ _ hl8
          have hfl9:Hf9 l=none:=by rw [x9.old l (by rw [hl8];intro z;cases z),x8.old l nl4];exact hfl4
          refine thn (mt_append (X:=cxB X Ns x sc cs s3.heap.objs.size s3 (upd H2 l (.lst [])) fp) _ s9 _ H9 (.ref l) [v9] (.ref l) [u] (fun w H'=>H'=upd H9 l (.lst (ys ++ [v9]))) I9 rfl (.cons rv9 .nil) ⟨l,ys,v9,rfl,rfl,hl9,by rw [rq.length];exact Nat.lt_of_le_of_lt (show qs.length≤1000000 by omega) (by decide),rfl⟩) fun w s10 ⟨w',H10,I10,_,q10⟩=>?_
          subst q10
          have x49:=(x4.trans x8).trans x9
          have x10:Ext Hf2 H2 Hf9 (upd H9 l (.lst (ys ++ [v9]))):=by
            refine ⟨fun b o q=>?_,x49.frz,fun b o q=>?_,x49.old⟩
            · have e:b≠l:=fun z=>by rw [z,nsm] at q;cases q
              rw [upd_ne e];exact x49.all b o q
            · have e:b≠l:=fun z=>by rw [z,hfl9] at q;cases q
              rw [upd_ne e];exact x49.sub b o q
          exact again I10 x10 upd_same hfl9 (((rq.keep x8.frz).keep x9.frz).append (.cons rp9 .nil)) (by rw [List.length_append];simp;omega) e5 (by rw [List.append_assoc,← eq4,er];rfl)
        · obtain ⟨d,e9,_⟩:=q9
          rw [ef] at e9;cases e9
    · have hke:k=ps.length:=by omega
      subst hke
      refine wpAny_mono (T.done (cxB X Ns x sc cs s3.heap.objs.size s3 (upd H2 l (.lst [])) fp) rfl rfl rfl hc ps.length [] s4 (σ ++ [v4]) H4 (fun _ _=>False) I4 (stat fr4) st4 ((ov H4 ps.length smH).2 (by rw [hvp];exact Nat.le_refl _))) (fun rr s5 ⟨hr,I5⟩=>?_) fun _ _ z=>z
      subst hr
      rw [List.drop_length] at e4
      cases e4
      rw [List.append_nil] at eq4
      subst eq4
      obtain ⟨m5,hn5,_⟩:=I5.loc
      have xx:=x2.trans x4
      have hHl:H l=none:=by
        cases q:H l with
        | none=>rfl
        | some o=>have:=x2.all l o q;rw [nsm] at this;cases this
      have IX:Inv X pins σ H4 s5:=I3.call' I5.os I5.base I5.hok I5.bare fun b hb=>⟨(hf3 b hb).2.2.2.1,(hf3 b hb).2.1,(hf3 b hb).2.2.2.2.1,(hf3 b hb).2.2.2.2.2⟩
      exact hQ qs s5 (upd Hf4 l (.lst ys)) H4 l s3.heap.objs.size ek' IX (xx.freeze hl4 hfl4 hHl) (.lst (SqL.of upd_same) (rq.keep (same_upd hfl4 _))) (I3.fpOk (Nat.le_refl _) I5.free) ⟨m5,hn5⟩
  exact codeAny_compStart_list loop (T.self _ 0 _ _ _ stB loop)
theorem inv_letgo {pins:List (Addr×Obj)}{s:Shared}{σ:SV}{H:Hp}{C:Addr}{h':Heap} (I:Inv X pins σ H s) (hf:FpOk X pins H C) (hs:Heap.SameBut C s.heap h'):Inv X pins σ H { s with heap:=h' } :=
  I.turned (t':=s.toks) (fun b o hb e=>(hs.2 b hb).trans e) hf.1 hf.2.1 hf.2.2.2.1 hf.2.2.2.2.1 hf.2.2.2.2.2
theorem me_comp {elt iter:Expr}{Ns:List Str}{x:Str}{px pos:Pos}{sc:Scope}{cs:List (Str×Addr)}{ifs:List Expr}{fa:FA}{t:FT}{f:FE}{n:Nat} (hc:X.calm=true) (c0:X.Ok→Cap X Ns x sc cs) (hn:X.N.length=n) (hnd:(Ns ++ [x]).Nodup) (hi:MI X cl (.Name x px) iter fa)
    (ht:∀ C s H fp,MC (cxB X Ns x sc cs C s H fp) cl ifs t) (hb:∀ C s H fp,ME (cxB X Ns x sc cs C s H fp) cl elt f) (hfs:∀ y,foldedSetIterable iter X.env y=pure y:=by intro _;rfl) :
    ME X cl (.ListComp elt [⟨.Name x px,iter,ifs,0⟩] sc pos) (fComp n fa t f):=by
  refine ⟨?_⟩
  intro pins s σ Hf0 H0 Hf H ρ I r hs
  rw [eval_ListComp]
  refine comp_run hc c0 hn hnd hi ht hb hfs I r hs (fun u s' ⟨d,e1,y⟩=>⟨d,by unfold fComp;rw [e1];rfl,y⟩) fun rs s5 Hf5 H5 l C ek I5 x5 rp hf ⟨m,hm⟩=>?_
  exact ⟨m,hm,fun h' hsC=>⟨.lst rs,.ref l,Hf5,H5,ek,inv_letgo I5 hf hsC,rfl,x5,rp⟩⟩
theorem ms_setC {i:Nat}{y:Str}{py spos:Pos}{elt iter:Expr}{Ns:List Str}{x:Str}{px pos:Pos}{sc:Scope}{cs:List (Str×Addr)}{ifs:List Expr}{fa:FA}{t:FT}{f:FE}{n:Nat} (hN:X.N.Nodup) (hy:X.N[i]?=some y) (hl:Loc X.env.scope y) (hc:X.calm=true) (c0:X.Ok→Cap X Ns x sc cs) (hn:X.N.length=n) (hnd:(Ns ++ [x]).Nodup) (hi:MI X cl (.Name x px) iter fa)
    (ht:∀ C s H fp,MC (cxB X Ns x sc cs C s H fp) cl ifs t) (hb:∀ C s H fp,ME (cxB X Ns x sc cs C s H fp) cl elt f) (hfs:∀ y,foldedSetIterable iter X.env y=pure y:=by intro _;rfl)
    (hsw:swapsWith (.ListComp elt [⟨.Name x px,iter,ifs,0⟩] sc pos) (some (.Name y py)) spos.line X.env=pure true:=by rfl)
    (hf:X.fn y=true∨X.env.scope.names.lookup y=some .local:=by first | exact .inl rfl | exact .inr rfl | assumption) :
    MS X cl (.Assign [.Name y py] (.ListComp elt [⟨.Name x px,iter,ifs,0⟩] sc pos) spos) (sSet i (fComp n fa t f)):=by
  refine ⟨?_⟩
  intro pins s σ Hf0 H0 Hf H ρ I r hs
  unfold sSet at hs ⊢
  have hs':fComp n fa t f ρ≠.stuck:=fun z=>hs (by rw [z];rfl)
  rw [exec_Assign_Name_used _ _ _ _ hsw]
  refine wpAny_bind (wpAny_standAt (wpAny_bind ?_))
  show wpAny _ X.A (do let _ ← comprehension (.ListComp elt [⟨.Name x px,iter,ifs,0⟩] sc pos) sc X.env _ (newList []) false (eval iter X.env) (some (assign (.Name y py) X.env))) _ _ s
  have hE:∀ u s',ExP X cl pins σ Hf H (fa ρ) u s'→ExS X cl pins Hf0 H0 Hf (ofR (fComp n fa t f ρ) ρ fun v=>.next (ρ.set i (some v))) u s':=fun u s' ⟨d,e1,z⟩=>by
    have e2:fComp n fa t f ρ = .exc d:=by unfold fComp;rw [e1];rfl
    rw [e2]
    exact exs_of r z
  refine wpAny_bind (wpAny_mono (comp_run (use:=some (assign (.Name y py) X.env)) (Q:=fun _ s'=>OkS X cl pins Hf0 H0 Hf (ofR (fComp n fa t f ρ) ρ fun v=>.next (ρ.set i (some v))) .next s') hc c0 hn hnd hi ht hb hfs I r hs' hE ?_) (fun _ s' hq=>wpAny_pure (wpAny_pure hq)) fun _ _ e=>e)
  intro rs s5 Hf5 H5 l C ek I5 x5 rp hfC hmm
  obtain ⟨m,hm⟩:=hmm
  show wpAny _ X.A (assign (.Name y py) X.env (.ref l)) _ _ s5
  have hil:i<σ.length:=by rw [I.len];exact (List.getElem?_eq_some_iff.mp hy).1
  refine wpAny_assign_Name (store_ok2 I5 hN hy hl (v:=.ref l) rfl (fun s6 I6 h6=>?_) hf)
  obtain ⟨a,hs6,ha⟩:=h6
  have neC:C≠a:=by
    rcases ha with rfl | ha
    · exact hfC.2.1
    · exact fun z=>hfC.2.2.2.2.1 y a ha z.symm
  refine ⟨m,hm.sameBut hs6 neC,fun h' hsC=>?_⟩
  rw [ek]
  exact ⟨_,_,Hf5,H5,rfl,inv_letgo I6 hfC hsC,(r.keep x5).set i rp hil,x5.frz⟩
end
noncomputable def csOf (sc:Scope) (env:Env):List (Str×Addr):=sc.names.foldl (fun cs y=>if y.2 == .free then (y.1,(env.cells.lookup y.1).getD 0)::cs else cs) []
theorem clos_of {sc:Scope}{env:Env} (h:∀ y∈sc.names,y.2 = .free→∃ c,env.cells.lookup y.1=some c):closureFor sc env=pure (csOf sc env):=by
  unfold closureFor csOf
  generalize sc.names=l at h
  have go:∀ (l:List (Str×NameKind)) (cs:List (Str×Addr)),(∀ y∈l,y.2 = .free→∃ c,env.cells.lookup y.1=some c) →
      (forIn l cs (fun (x:Str×NameKind) (r:List (Str×Addr))=>match x with
        | (name,kind)=>if (kind == NameKind.free)=true then do
            let a ← cellOf env name
            pure (ForInStep.yield ((name,a)::r)) else pure (ForInStep.yield r)):Sem (List (Str×Addr)))=pure (l.foldl (fun cs y=>if y.2 == .free then (y.1,(env.cells.lookup y.1).getD 0)::cs else cs) cs):=by
    intro l
    induction l with
    | nil=>intro cs _;rfl
    | cons y r ih =>
      intro cs hl
      obtain ⟨n,k⟩:=y
      rw [List.forIn_cons,List.foldl_cons]
      by_cases hk:(k == NameKind.free)=true
      · obtain ⟨d,hd⟩:=hl (n,k) List.mem_cons_self (by simpa using hk)
        have e:cellOf env n=pure d:=by
          have hd':env.cells.lookup n=some d:=hd
          unfold cellOf;rw [hd']
        have hd':env.cells.lookup n=some d:=hd
        dsimp only
        rw [if_pos hk,if_pos hk,e,hd']
        exact ih _ fun z hz=>hl z (List.mem_cons_of_mem _ hz)
      · dsimp only
        rw [if_neg hk,if_neg hk]
        exact ih _ fun z hz=>hl z (List.mem_cons_of_mem _ hz)
  exact (congrArg (fun (m:Sem (List (Str×Addr)))=>m >>= fun cs=>pure cs) (go l [] h)).trans rfl
theorem csOf_go {env:Env}:∀ (l:List (Str×NameKind)) (cs:List (Str×Addr)) (y:Str) (c:Addr),(∀ z∈l,z.2 = .free→∃ c,env.cells.lookup z.1=some c) →
    (l.foldl (fun cs y=>if y.2 == .free then (y.1,(env.cells.lookup y.1).getD 0)::cs else cs) cs).lookup y=some c→cs.lookup y=some c∨env.cells.lookup y=some c
  | [],_,_,_,_,h=>.inl h
  | (n,k)::r,cs,y,c,hl,h=>by
    rw [List.foldl_cons] at h
    rcases csOf_go r _ y c (fun z hz=>hl z (List.mem_cons_of_mem _ hz)) h with q | q
    · by_cases hk:(k == NameKind.free)=true
      · rw [if_pos hk] at q
        obtain ⟨d,hd⟩:=hl (n,k) List.mem_cons_self (by simpa using hk)
        have hd':env.cells.lookup n=some d:=hd
        rw [hd',List.lookup_cons] at q
        by_cases e:y == n
        · rw [e] at q
          have e':=beq_iff_eq.mp e
          subst e'
          exact .inr (by rw [hd'];exact q)
        · have e2:(y == n)=false:=by simpa using e
          rw [e2] at q;exact .inl q
      · rw [if_neg hk] at q;exact .inl q
    · exact .inr q
theorem csOf_has {env:Env}:∀ (l:List (Str×NameKind)) (cs:List (Str×Addr)) (y:Str),((∃ c,cs.lookup y=some c)∨(y,NameKind.free)∈l) →
    ∃ c,(l.foldl (fun cs y=>if y.2 == .free then (y.1,(env.cells.lookup y.1).getD 0)::cs else cs) cs).lookup y=some c
  | [],cs,y,h=>by
    rcases h with h | h
    · exact h
    · cases h
  | (n,k)::r,cs,y,h=>by
    rw [List.foldl_cons]
    refine csOf_has r _ y ?_
    rcases h with ⟨c,h⟩ | h
    · left
      by_cases hk:(k == NameKind.free)=true
      · rw [if_pos hk,List.lookup_cons]
        by_cases e:(y == n)=true
        · rw [e];exact ⟨_,rfl⟩
        · have e2:(y == n)=false:=by simpa using e
          rw [e2];exact ⟨c,h⟩
      · rw [if_neg hk];exact ⟨c,h⟩
    · rcases List.mem_cons.mp h with e | e
      · left
        have e1:y=n:=congrArg Prod.fst e
        have e2:NameKind.free=k:=congrArg Prod.snd e
        subst e1 e2
        rw [if_pos (by rfl),List.lookup_cons]
        have:(y == y)=true:=beq_self_eq_true y
        rw [this];exact ⟨_,rfl⟩
      · exact .inr e
noncomputable def capB (N:List Str) (x:Str) (sc es:Scope):Bool :=
  sc.kind == .function && es.kind == .function && (sc.names.all fun y=>y.2 != .cell) && (sc.names.all fun y=>y.2 != .local || sc.names.lookup y.1 == some .local) && (sc.names.lookup x == some .local) &&
  (sc.names.all fun y=>y.2 != .free || es.names.lookup y.1 == some .cell || es.names.lookup y.1 == some .free) && (N.all fun y=>sc.names.lookup y != some .local) && !N.contains x
theorem lookup_mem' {α:Type}:∀ {l:List (Str×α)}{y:Str}{k:α},l.lookup y=some k→(y,k)∈l
  | [],_,_,h=>by cases h
  | (n,j)::r,y,k,h=>by
    rw [List.lookup_cons] at h
    by_cases e:(y == n)=true
    · rw [e] at h;cases h
      rw [beq_iff_eq.mp e];exact List.mem_cons_self
    · have e2:(y == n)=false:=by simpa using e
      rw [e2] at h
      exact List.mem_cons_of_mem _ (lookup_mem' h)
theorem relabel_go (cond:Str→NameKind→Bool) (hcond:∀ n k,cond n k=true→k = .free):∀ {l:List (Str×NameKind)}{y:Str}{k:NameKind},
    (l.map fun z=>if cond z.1 z.2 then (z.1,NameKind.cell) else (z.1,z.2)).lookup y=some k→(l.lookup y=some k)∨(k = .cell∧l.lookup y=some .free)
  | [],_,_,h=>by cases h
  | (n,j)::r,y,k,h=>by
    rw [List.map_cons] at h
    dsimp only at h
    by_cases hc:cond n j=true
    · rw [if_pos hc,List.lookup_cons] at h
      rw [List.lookup_cons]
      by_cases e:(y == n)=true
      · rw [e] at h ⊢
        cases h
        right;exact ⟨rfl,by rw [hcond n j hc]⟩
      · have e2:(y == n)=false:=by simpa using e
        rw [e2] at h ⊢
        exact relabel_go cond hcond h
    · rw [if_neg hc,List.lookup_cons] at h
      rw [List.lookup_cons]
      by_cases e:(y == n)=true
      · rw [e] at h ⊢;exact .inl h
      · have e2:(y == n)=false:=by simpa using e
        rw [e2] at h ⊢
        exact relabel_go cond hcond h
theorem relabel_kind {sc:Scope}{env:Env}{y:Str}{k:NameKind} (h:(relabel sc env).names.lookup y=some k):(sc.names.lookup y=some k)∨(k = .cell∧sc.names.lookup y=some .free) :=
  relabel_go (fun n k=>k == NameKind.free && env.scope.kind == .function && env.kindOf n == some .cell) (fun n k h=>beq_iff_eq.mp (Bool.and_eq_true_iff.mp (Bool.and_eq_true_iff.mp h).1).1) h
theorem cap_of {X:Cx}{Ns:List Str}{x:Str}{sc:Scope} (h:capB Ns x sc X.env.scope=true) (hl:Ns.length=X.N.length) (hsm:∀ (i:Nat) (y:Str),Ns[i]?=some y→Vis (relabel sc X.env) y→X.N[i]?=some y) (ok:X.Ok):Cap X Ns x sc (csOf sc X.env):=by
  unfold capB at h
  simp only [Bool.and_eq_true,beq_iff_eq,List.all_eq_true,Bool.or_eq_true,bne_iff_ne,ne_eq,Bool.not_eq_true'] at h
  obtain ⟨⟨⟨⟨⟨⟨⟨h1,h2⟩,h3⟩,h4⟩,h5⟩,h6⟩,h7⟩,h8⟩:=h
  have free:∀ y∈sc.names,y.2 = .free→(X.env.kindOf y.1=some .cell∨X.env.kindOf y.1=some .free):=fun y hy e=>by
    rcases h6 y hy with (z | z) | z
    · exact absurd e z
    · exact .inl z
    · exact .inr z
  have cells:∀ y∈sc.names,y.2 = .free→∃ c,X.env.cells.lookup y.1=some c:=fun y hy e=>ok.has y.1 (free y hy e)
  have kinds:∀ y,((relabel sc X.env).names.lookup y=some .cell∨(relabel sc X.env).names.lookup y=some .free)→(y,NameKind.free)∈sc.names:=fun y hy=>by
    rcases hy with hy | hy
    · rcases relabel_kind hy with z | ⟨_,z⟩
      · exact absurd rfl (h3 (y,.cell) (lookup_mem' z))
      · exact lookup_mem' z
    · rcases relabel_kind hy with z | ⟨z,_⟩
      · exact lookup_mem' z
      · cases z
  refine ⟨clos_of cells,h1,fun y hy=>h3 y hy,fun y hy e=>?_,h5,fun y c e=>?_,fun y hy=>csOf_has _ _ y (.inr (kinds y hy)),fun y hy v=>?_,fun z=>?_,hl,hsm⟩
  · rcases h4 y hy with z | z
    · exact absurd e z
    · exact z
  · rcases csOf_go _ _ y c cells e with q | q
    · cases q
    · exact q
  · rcases v with v | v
    · exfalso
      rcases relabel_kind v with z | ⟨z,_⟩
      · exact h7 y hy z
      · cases z
    · exact ⟨v,free _ (kinds y v) rfl⟩
  · rw [List.contains_iff_mem.mpr z] at h8;cases h8
section
variable {P:Program}{w:World}{K:PySem.W.Frag}{mg:Str→Option Value}{base:Heap}{cl:Nat→Addr}
theorem mcomp {N:List Str}{qual:Str}{scope:Scope}{f:Addr}{cd:Value}{A:Around}{outer:List Env}{s:Shared}{H:Hp}{E:XK}{elt iter:Expr}{x:Str}{px pos:Pos}{sc:Scope}{ifs:List Expr}{fa:FA}{t:FT}{g:FE}{n:Nat}
    (hnd:N.Nodup) (hcap:capB N x sc scope=true) (hn:N.length=n) (hi:MI (cxM P w K mg base cl N qual scope f cd A outer s H E) cl (.Name x px) iter fa)
    (ht:∀ C s' H' fp,MC (cxB (cxM P w K mg base cl N qual scope f cd A outer s H E) N x sc (csOf sc (cxM P w K mg base cl N qual scope f cd A outer s H E).env) C s' H' fp) cl ifs t)
    (hb:∀ C s' H' fp,ME (cxB (cxM P w K mg base cl N qual scope f cd A outer s H E) N x sc (csOf sc (cxM P w K mg base cl N qual scope f cd A outer s H E).env) C s' H' fp) cl elt g)
    (hfs:∀ y,foldedSetIterable iter (cxM P w K mg base cl N qual scope f cd A outer s H E).env y=pure y:=by intro _;rfl) :
    ME (cxM P w K mg base cl N qual scope f cd A outer s H E) cl (.ListComp elt [⟨.Name x px,iter,ifs,0⟩] sc pos) (fComp n fa t g):=by
  refine me_comp rfl (fun ok=>cap_of hcap rfl (fun _ _ h _=>h) ok) hn ?_ hi ht hb hfs
  show (N ++ [x]).Nodup
  have hx:x ∉ N:=fun z=>by
    unfold capB at hcap
    have:=(Bool.and_eq_true_iff.mp hcap).2
    rw [List.contains_iff_mem.mpr z] at this;cases this
  exact List.nodup_append.mpr ⟨hnd,List.nodup_cons.mpr ⟨List.not_mem_nil,List.nodup_nil⟩,fun a ha b hb e=>hx (by
    rw [List.mem_singleton] at hb;rw [← hb,← e];exact ha)⟩
noncomputable def hidB (N Ns:List Str) (sc:Scope):Bool:=Ns.length == N.length && decide Ns.Nodup && ((List.range N.length).all fun i=>N[i]? == Ns[i]? || (match Ns[i]? with
  | some y=>sc.names.lookup y == none
  | none=>true))
theorem hid_same {N Ns:List Str}{sc:Scope}{env:Env} (h:hidB N Ns sc=true) (i:Nat) (y:Str) (e:Ns[i]?=some y) (v:Vis (relabel sc env) y):N[i]?=some y:=by
  unfold hidB at h
  simp only [Bool.and_eq_true,beq_iff_eq,List.all_eq_true,Bool.or_eq_true,List.mem_range] at h
  obtain ⟨⟨h1,_⟩,h2⟩:=h
  have hi:i<N.length:=by rw [← h1];exact (List.getElem?_eq_some_iff.mp e).1
  rcases h2 i hi with z | z
  · rw [z];exact e
  · rw [e] at z
    have z':sc.names.lookup y=none:=by simpa using z
    exfalso
    have:∀ k,(relabel sc env).names.lookup y≠some k:=fun k w=>by
      rcases relabel_kind w with q | ⟨_,q⟩<;>(rw [z'] at q;cases q)
    rcases v with v | v | v
    · exact this _ v
    · exact this _ v
    · exact this _ v
theorem mcompS {N Ns:List Str}{qual:Str}{scope:Scope}{f:Addr}{cd:Value}{A:Around}{outer:List Env}{s:Shared}{H:Hp}{E:XK}{elt iter:Expr}{x:Str}{px pos:Pos}{sc:Scope}{ifs:List Expr}{fa:FA}{t:FT}{g:FE}{n:Nat}
    (hid:hidB N Ns sc=true) (hcap:capB Ns x sc scope=true) (hn:N.length=n) (hi:MI (cxM P w K mg base cl N qual scope f cd A outer s H E) cl (.Name x px) iter fa)
    (ht:∀ C s' H' fp,MC (cxB (cxM P w K mg base cl N qual scope f cd A outer s H E) Ns x sc (csOf sc (cxM P w K mg base cl N qual scope f cd A outer s H E).env) C s' H' fp) cl ifs t)
    (hb:∀ C s' H' fp,ME (cxB (cxM P w K mg base cl N qual scope f cd A outer s H E) Ns x sc (csOf sc (cxM P w K mg base cl N qual scope f cd A outer s H E).env) C s' H' fp) cl elt g)
    (hfs:∀ y,foldedSetIterable iter (cxM P w K mg base cl N qual scope f cd A outer s H E).env y=pure y:=by intro _;rfl) :
    ME (cxM P w K mg base cl N qual scope f cd A outer s H E) cl (.ListComp elt [⟨.Name x px,iter,ifs,0⟩] sc pos) (fComp n fa t g):=by
  have hd:=hid
  unfold hidB at hd
  simp only [Bool.and_eq_true,beq_iff_eq,decide_eq_true_eq] at hd
  refine me_comp rfl (fun ok=>cap_of hcap hd.1.1 (hid_same hid) ok) hn ?_ hi ht hb hfs
  show (Ns ++ [x]).Nodup
  have hx:x ∉ Ns:=fun z=>by
    unfold capB at hcap
    have:=(Bool.and_eq_true_iff.mp hcap).2
    rw [List.contains_iff_mem.mpr z] at this;cases this
  exact List.nodup_append.mpr ⟨hd.1.2,List.nodup_cons.mpr ⟨List.not_mem_nil,List.nodup_nil⟩,fun a ha b hb e=>hx (by
    rw [List.mem_singleton] at hb;rw [← hb,← e];exact ha)⟩
theorem msC {N:List Str}{qual:Str}{scope:Scope}{f:Addr}{cd:Value}{A:Around}{outer:List Env}{s:Shared}{H:Hp}{E:XK}{i:Nat}{y:Str}{py spos:Pos}{elt iter:Expr}{x:Str}{px pos:Pos}{sc:Scope}{ifs:List Expr}{fa:FA}{t:FT}{g:FE}{n:Nat}
    (hnd:N.Nodup) (hy:N[i]?=some y) (hl:Loc scope y) (hcap:capB N x sc scope=true) (hn:N.length=n) (hi:MI (cxM P w K mg base cl N qual scope f cd A outer s H E) cl (.Name x px) iter fa)
    (ht:∀ C s' H' fp,MC (cxB (cxM P w K mg base cl N qual scope f cd A outer s H E) N x sc (csOf sc (cxM P w K mg base cl N qual scope f cd A outer s H E).env) C s' H' fp) cl ifs t)
    (hb:∀ C s' H' fp,ME (cxB (cxM P w K mg base cl N qual scope f cd A outer s H E) N x sc (csOf sc (cxM P w K mg base cl N qual scope f cd A outer s H E).env) C s' H' fp) cl elt g)
    (hfs:∀ y,foldedSetIterable iter (cxM P w K mg base cl N qual scope f cd A outer s H E).env y=pure y:=by intro _;rfl)
    (hsw:swapsWith (.ListComp elt [⟨.Name x px,iter,ifs,0⟩] sc pos) (some (.Name y py)) spos.line (cxM P w K mg base cl N qual scope f cd A outer s H E).env=pure true:=by rfl) :
    MS (cxM P w K mg base cl N qual scope f cd A outer s H E) cl (.Assign [.Name y py] (.ListComp elt [⟨.Name x px,iter,ifs,0⟩] sc pos) spos) (sSet i (fComp n fa t g)):=by
  refine ms_setC hnd hy hl rfl (fun ok=>cap_of hcap rfl (fun _ _ h _=>h) ok) hn ?_ hi ht hb hfs hsw (.inl rfl)
  show (N ++ [x]).Nodup
  have hx:x ∉ N:=fun z=>by
    unfold capB at hcap
    have:=(Bool.and_eq_true_iff.mp hcap).2
    rw [List.contains_iff_mem.mpr z] at this;cases this
  exact List.nodup_append.mpr ⟨hnd,List.nodup_cons.mpr ⟨List.not_mem_nil,List.nodup_nil⟩,fun a ha b hb e=>hx (by
    rw [List.mem_singleton] at hb;rw [← hb,← e];exact ha)⟩
end
noncomputable def noX (F:List PV→R PV):List PV→R PV:=fun vs=>match F vs with
  | .ok v=>.ok v
  | _=>.stuck
section
variable {X:Cx}{cl:Nat→Addr}
theorem mcN {e:Expr}{es:List Expr}{g:FA}{x:Str}{p pos:Pos}{k k' n:Nat}{F:List PV→R PV} (hF:FG X.prog X.w X.K X.mg X.base cl k x n F) (hr:Room k' X.A) (ha:MA X cl (e::es) g) (hk:k≤k':=by decide) (hl:(e::es).length=n:=by rfl) (hg:Gl X x:=by rfl)
    (hdb:(x == ("__debug__" : Str))=false:=by decide) (he:starEach (e::es) X.env=(false,eval e X.env)::starEach es X.env:=by rfl) (hpl:(backTo pos (starEach es X.env)).any (·.1)=false:=by rfl) :
    ME X cl (.Call (.Name x p) (e::es) [] pos) (fCall (noX F) g):=by
  obtain ⟨f,fd,ps,hm,hkp,hn,hf,hb⟩:=hF.ex
  refine ⟨?_⟩
  intro pins s σ Hf0 H0 Hf H ρ I r hs
  unfold fCall at hs ⊢
  refine wpAny_Call_Name_kw (ld_glob I hg hm ?_ hdb)
  refine PySem.W.callWith_K (h₀:=X.base) I.ok.mod.kin hkp (ha.run pos I r (Ext.refl r.sub) hs fun qs vs us s1 Hf1 H1 hq e1 I1 rv x1 rps=>⟨I1.kIn,?_⟩) he hpl
  rw [e1] at hs ⊢
  obtain ⟨v0,ev0⟩:∃ v,F qs = .ok v:=by
    unfold noX at hs
    cases ef:F qs with
    | ok v=>exact ⟨v,rfl⟩
    | exc c=>rw [ef] at hs;exact absurd rfl hs
    | stuck=>rw [ef] at hs;exact absurd rfl hs
  have en:noX F qs = .ok v0:=by unfold noX;rw [ev0]
  rw [en]
  have hv:vs.length=n:=by rw [rps.length,hq,hl]
  have hsp:spF X.K cl n F vs H1 (fun v H'=>∃ p Hf',F qs = .ok p∧Ext Hf1 H1 Hf' H'∧Rp X.K cl Hf' v p) (fun u o H'=>False) :=
    ⟨hv,Hf1,qs,x1.sub,rps,(by rw [ev0];intro z;cases z),fun p v Hf' H' a b c=>⟨p,Hf',a,b,c⟩,fun c Hf' H' a b=>(by rw [ev0] at a;cases a)⟩
  have hlu:(us ++ []).length=ps.length:=by rw [List.append_nil,← rv.length,hv,hn]
  have hbb:=hb s1 us I1.kIn hlu
  rw [List.append_nil] at hbb
  refine wpAny_call (codeAny_mono (hf.run X.A X.stack s1 H1 ⟨us,[]⟩ us vs _ _ (hr.mono hk) I1.env0 hbb rv hsp) fun r s' hq'=>?_)
  cases r with
  | error e =>
    obtain ⟨a,c,H',B,a0,_,_,_,_,_,_,_,_,z⟩:=hq'
    exact z.elim
  | ok fl =>
    cases fl with
    | ret u =>
      obtain ⟨v,H',I',rv',p,Hf',e2,ex,rp⟩:=I1.after hq'
      rw [ev0] at e2;cases e2
      exact ⟨v0,v,Hf',H',rfl,I',rv',x1.trans ex,rp⟩
    | next=>exact False.elim hq'
    | brk=>exact False.elim hq'
    | cont=>exact False.elim hq'
end
noncomputable def boolsP:List PV→Option (List Bool)
  | []=>some []
  | .bl b::r=>(boolsP r).map (b::·)
  | _=>none
noncomputable def bAll:List PV→R PV
  | [.lst l]=>(match boolsP l with
    | some bs=>.ok (.bl (bs.all id))
    | none=>.stuck)
  | _=>.stuck
noncomputable def bAny:List PV→R PV
  | [.lst l]=>(match boolsP l with
    | some bs=>.ok (.bl (bs.any id))
    | none=>.stuck)
  | _=>.stuck
section
variable {X:Cx}{cl:Nat→Addr}{pins:List (Addr×Obj)}{s:Shared}{σ:SV}{Hf0 H0 Hf H Hf1 H1:Hp}{ρ:MEnv}{α:Type}
inductive BoolsV:List Value→List Bool→Prop
  | nil:BoolsV [] []
  | cons (b:Bool) {vs:List Value}{bs:List Bool}:BoolsV vs bs→BoolsV (.bool b::vs) (b::bs)
theorem BoolsV.get:∀ {vs:List Value}{bs:List Bool},BoolsV vs bs→∀ (i:Nat) (v:Value),vs[i]?=some v→∃ b,bs[i]?=some b∧v = .bool b:=by
  intro vs bs h
  induction h with
  | nil=>intro i v e;simp at e
  | cons b _ ih =>
    intro i v e
    cases i with
    | zero=>simp at e;subst e;exact ⟨b,rfl,rfl⟩
    | succ i=>simpa using ih i v (by simpa using e)
theorem BoolsV.len:∀ {vs:List Value}{bs:List Bool},BoolsV vs bs→vs.length=bs.length:=by
  intro vs bs h
  induction h with
  | nil=>rfl
  | cons b _ ih=>simp [ih]
theorem bools_vals:∀ {l:List PV}{bs:List Bool}{vs:List V}{us:List Value},boolsP l=some bs→Rps X.K cl Hf vs l→Vals vs us→BoolsV us bs
  | [],bs,vs,us,h,r,w=>by
    cases r;cases w
    cases h
    exact .nil
  | p::l,bs,vs,us,h,r,w=>by
    cases r with
    | cons r1 r2 =>
      cases w with
      | cons w1 w2 =>
        cases p<;>first | (simp [boolsP] at h;done) | skip
        rename_i z
        cases r1
        cases w1
        simp only [boolsP,Option.map_eq_some_iff] at h
        obtain ⟨ts',h1,rfl⟩:=h
        exact .cons _ (bools_vals h1 r2 w2)
theorem rng_all (bs:List Bool):((List.range bs.length).all fun i=>(bs[i]?).getD true)=bs.all id:=by
  rw [Bool.eq_iff_iff,List.all_eq_true,List.all_eq_true]
  constructor
  · intro h b hb
    obtain ⟨i,hi,e⟩:=List.getElem_of_mem hb
    have:=h i (List.mem_range.mpr hi)
    simp only [List.getElem?_eq_getElem hi,Option.getD_some,e] at this
    exact this
  · intro h i hi
    have hi':=List.mem_range.mp hi
    simp only [List.getElem?_eq_getElem hi',Option.getD_some]
    exact h _ (List.getElem_mem hi')
theorem rng_any (bs:List Bool):((List.range bs.length).any fun i=>(bs[i]?).getD false)=bs.any id:=by
  rw [Bool.eq_iff_iff,List.any_eq_true,List.any_eq_true]
  constructor
  · rintro ⟨i,hi,e⟩
    have hi':=List.mem_range.mp hi
    simp only [List.getElem?_eq_getElem hi',Option.getD_some] at e
    exact ⟨_,List.getElem_mem hi',e⟩
  · rintro ⟨b,hb,e⟩
    obtain ⟨i,hi,rfl⟩:=List.getElem_of_mem hb
    exact ⟨i,List.mem_range.mpr hi,by simp only [List.getElem?_eq_getElem hi,Option.getD_some];exact e⟩
theorem kept_it {h':Heap}{s:Shared}{o:Obj} (hk:∀ b x,b ∉ [s.heap.objs.size]→(s.heap.push o).get? b=some x→h'.get? b=some x):∀ b x,s.heap.get? b=some x→h'.get? b=some x :=
  fun b x e=>hk b x (fun hm=>by rw [List.mem_singleton.mp hm] at e;exact Nat.lt_irrefl _ (Heap.lt_size e)) (Heap.get?_push_of_some _ e)
theorem bAll_ns {ps:List PV} (hs:bAll ps≠.stuck):∃ l bs,ps=[.lst l]∧boolsP l=some bs∧bAll ps = .ok (.bl (bs.all id)):=by
  unfold bAll at hs ⊢
  split at hs
  · next l =>
    split at hs
    · next bs e=>exact ⟨l,bs,rfl,e,by simp only [e]⟩
    · exact absurd rfl hs
  · exact absurd rfl hs
theorem bAny_ns {ps:List PV} (hs:bAny ps≠.stuck):∃ l bs,ps=[.lst l]∧boolsP l=some bs∧bAny ps = .ok (.bl (bs.any id)):=by
  unfold bAny at hs ⊢
  split at hs
  · next l =>
    split at hs
    · next bs e=>exact ⟨l,bs,rfl,e,by simp only [e]⟩
    · exact absurd rfl hs
  · exact absurd rfl hs
theorem c_all (hc:X.calm=true):CalR X cl (.builtin "all") bAll:=by
  intro pins s σ Hf H xs us ps I sm rv rps hs
  obtain ⟨l,bs,rfl,e1,e2⟩:=bAll_ns hs
  rw [e2]
  obtain ⟨v,rfl,rp⟩:=rps1' rps
  cases rp with
  | lst h r =>
    obtain ⟨u,rfl,ru⟩:=rv.one
    cases ru
    obtain ⟨its,wl,pl,z⟩:=I.list (sm.seq h)
    have hb:=bools_vals e1 r wl
    have hl:=pl.isList
    have hlt:=(by obtain ⟨_,e,_⟩:=hl;exact Heap.lt_size e:_<s.heap.objs.size)
    refine call_all_walk (wpAny_pyIter_list hl ?_)
    refine ⟨s.heap.objs.size,[s.heap.objs.size,_],[s.heap.objs.size],its.toArray.size,_,_,fun i=>(bs[i]?).getD true,rfl,Walks.list (A:=X.A.in1) (I.ok.hd hc) _ _ (Nat.ne_of_lt hlt) its.toArray,
      ⟨⟨_,Heap.get?_push_size _ rfl,rfl,rfl⟩,hl.push _⟩,fun i v s' Q' E' hP hQ=>?_,fun h' tk hk=>?_⟩
    · obtain ⟨b,e,rfl⟩:=hb.get i v (by simpa using hP)
      simp only [e,Option.getD_some] at hQ
      exact wpAny_truthy_bool hQ
    · have e:((List.range its.toArray.size).all fun i=>(bs[i]?).getD true)=bs.all id:=by
        rw [List.size_toArray,hb.len];exact rng_all bs
      rw [e]
      exact ⟨_,.bl _,Hf,H,rfl,I.kept (kept_it hk),rfl,Ext.refl sm,.bl _⟩
theorem c_any (hc:X.calm=true):CalR X cl (.builtin "any") bAny:=by
  intro pins s σ Hf H xs us ps I sm rv rps hs
  obtain ⟨l,bs,rfl,e1,e2⟩:=bAny_ns hs
  rw [e2]
  obtain ⟨v,rfl,rp⟩:=rps1' rps
  cases rp with
  | lst h r =>
    obtain ⟨u,rfl,ru⟩:=rv.one
    cases ru
    obtain ⟨its,wl,pl,z⟩:=I.list (sm.seq h)
    have hb:=bools_vals e1 r wl
    have hl:=pl.isList
    have hlt:=(by obtain ⟨_,e,_⟩:=hl;exact Heap.lt_size e:_<s.heap.objs.size)
    refine call_any_walk (wpAny_pyIter_list hl ?_)
    refine ⟨s.heap.objs.size,[s.heap.objs.size,_],[s.heap.objs.size],its.toArray.size,_,_,fun i=>(bs[i]?).getD false,rfl,Walks.list (A:=X.A.in1) (I.ok.hd hc) _ _ (Nat.ne_of_lt hlt) its.toArray,
      ⟨⟨_,Heap.get?_push_size _ rfl,rfl,rfl⟩,hl.push _⟩,fun i v s' Q' E' hP hQ=>?_,fun h' tk hk=>?_⟩
    · obtain ⟨b,e,rfl⟩:=hb.get i v (by simpa using hP)
      simp only [e,Option.getD_some] at hQ
      exact wpAny_truthy_bool hQ
    · have e:((List.range its.toArray.size).any fun i=>(bs[i]?).getD false)=bs.any id:=by
        rw [List.size_toArray,hb.len];exact rng_any bs
      rw [e]
      exact ⟨_,.bl _,Hf,H,rfl,I.kept (kept_it hk),rfl,Ext.refl sm,.bl _⟩
end
noncomputable def intsP:List PV→Option (List Int)
  | []=>some []
  | .int b::r=>(intsP r).map (b::·)
  | _=>none
section
variable {X:Cx}{cl:Nat→Addr}{pins:List (Addr×Obj)}{s:Shared}{σ:SV}{Hf0 H0 Hf H Hf1 H1:Hp}{ρ:MEnv}{α:Type}
theorem ints_vals:∀ {l:List PV}{bs:List Int}{vs:List V}{us:List Value},intsP l=some bs→Rps X.K cl Hf vs l→Vals vs us→IntsAre us bs
  | [],bs,vs,us,h,r,w=>by
    cases r;cases w
    cases h
    exact .nil
  | p::l,bs,vs,us,h,r,w=>by
    cases r with
    | cons r1 r2 =>
      cases w with
      | cons w1 w2 =>
        cases p<;>first | (simp [intsP] at h;done) | skip
        cases r1
        obtain ⟨t,rfl⟩:=w1
        simp only [intsP,Option.map_eq_some_iff] at h
        obtain ⟨ts',h1,rfl⟩:=h
        exact .cons _ _ (ints_vals h1 r2 w2)
end
noncomputable def minL:Int→List Int→Int
  | m,[]=>m
  | m,x::r=>minL (if x<m then x else m) r
noncomputable def maxL:Int→List Int→Int
  | m,[]=>m
  | m,x::r=>maxL (if m<x then x else m) r
noncomputable def seqP:PV→Option (List PV)
  | .lst l=>some l
  | .tup l=>some l
  | _=>none
noncomputable def bMin1:List PV→R PV
  | [p]=>(match (seqP p).bind intsP with
    | some (n::r)=>.ok (.int (minL n r))
    | _=>.stuck)
  | _=>.stuck
noncomputable def bMax1:List PV→R PV
  | [p]=>(match (seqP p).bind intsP with
    | some (n::r)=>.ok (.int (maxL n r))
    | _=>.stuck)
  | _=>.stuck
theorem minL_spec:∀ (r:List Int) (m:Int),(minL m r=m∨minL m r∈r)∧minL m r≤m∧∀ a∈r,minL m r≤a
  | [],m=>⟨.inl rfl,Int.le_refl _,fun a h=>by cases h⟩
  | x::r,m=>by
    obtain ⟨h1,h2,h3⟩:=minL_spec r (if x<m then x else m)
    show (minL (if x<m then x else m) r=m∨minL (if x<m then x else m) r∈x::r)∧minL (if x<m then x else m) r≤m∧∀ a∈x::r,minL (if x<m then x else m) r≤a
    generalize minL (if x<m then x else m) r=z at *
    refine ⟨?_,?_,fun a ha=>?_⟩
    · rcases h1 with h | h
      · by_cases c:x<m
        · rw [if_pos c] at h;right;rw [h];exact List.mem_cons_self
        · rw [if_neg c] at h;exact .inl h
      · exact .inr (List.mem_cons_of_mem _ h)
    · split at h2<;>omega
    · rcases List.mem_cons.mp ha with e | e
      · rw [e];split at h2<;>omega
      · exact h3 a e
theorem maxL_spec:∀ (r:List Int) (m:Int),(maxL m r=m∨maxL m r∈r)∧m≤maxL m r∧∀ a∈r,a≤maxL m r
  | [],m=>⟨.inl rfl,Int.le_refl _,fun a h=>by cases h⟩
  | x::r,m=>by
    obtain ⟨h1,h2,h3⟩:=maxL_spec r (if m<x then x else m)
    show (maxL (if m<x then x else m) r=m∨maxL (if m<x then x else m) r∈x::r)∧m≤maxL (if m<x then x else m) r∧∀ a∈x::r,a≤maxL (if m<x then x else m) r
    generalize maxL (if m<x then x else m) r=z at *
    refine ⟨?_,?_,fun a ha=>?_⟩
    · rcases h1 with h | h
      · by_cases c:m<x
        · rw [if_pos c] at h;right;rw [h];exact List.mem_cons_self
        · rw [if_neg c] at h;exact .inl h
      · exact .inr (List.mem_cons_of_mem _ h)
    · split at h2<;>omega
    · rcases List.mem_cons.mp ha with e | e
      · rw [e];split at h2<;>omega
      · exact h3 a e
section
variable {X:Cx}{cl:Nat→Addr}{pins:List (Addr×Obj)}{s:Shared}{σ:SV}{Hf0 H0 Hf H Hf1 H1:Hp}{ρ:MEnv}{α:Type}
theorem bMin1_ns {ps:List PV} (hs:bMin1 ps≠.stuck):∃ p l n r,ps=[p]∧seqP p=some l∧intsP l=some (n::r)∧bMin1 ps = .ok (.int (minL n r)):=by
  unfold bMin1 at hs ⊢
  split at hs
  · next p =>
    split at hs
    · next n r e =>
      obtain ⟨l,e1,e2⟩:=Option.bind_eq_some_iff.mp e
      exact ⟨p,l,n,r,rfl,e1,e2,by simp only [e]⟩
    · exact absurd rfl hs
  · exact absurd rfl hs
theorem bMax1_ns {ps:List PV} (hs:bMax1 ps≠.stuck):∃ p l n r,ps=[p]∧seqP p=some l∧intsP l=some (n::r)∧bMax1 ps = .ok (.int (maxL n r)):=by
  unfold bMax1 at hs ⊢
  split at hs
  · next p =>
    split at hs
    · next n r e =>
      obtain ⟨l,e1,e2⟩:=Option.bind_eq_some_iff.mp e
      exact ⟨p,l,n,r,rfl,e1,e2,by simp only [e]⟩
    · exact absurd rfl hs
  · exact absurd rfl hs
theorem ints_len:∀ {us:List Value}{ns:List Int},IntsAre us ns→us.length=ns.length:=by
  intro us ns h
  induction h with
  | nil=>rfl
  | cons n t _ ih=>simp [ih]
theorem ints_at {us:List Value}{ns:List Int} (h:IntsAre us ns) (i:Nat) (v:Value) (e:us.toArray[i]?=some v):∃ t,v = .int (ns.getD i 0) t:=by
  obtain ⟨n,t,rfl,e2⟩:=h.at i v (by simpa using e)
  exact ⟨t,by rw [List.getD_eq_getElem?_getD,e2];rfl⟩
theorem getD_in {ns:List Int}{i:Nat} (h:i<ns.length):ns.getD i 0∈ns:=by
  rw [List.getD_eq_getElem?_getD,List.getElem?_eq_getElem h];exact List.getElem_mem h
theorem in_getD {ns:List Int}{a:Int} (h:a∈ns):∃ i,i<ns.length∧ns.getD i 0=a:=by
  obtain ⟨i,hi,e⟩:=List.getElem_of_mem h
  exact ⟨i,hi,by rw [List.getD_eq_getElem?_getD,List.getElem?_eq_getElem hi];exact e⟩
theorem best_min {n:Int}{r:List Int}:(n::r).getD (argBest (fun i j=>decide ((n::r).getD i 0<(n::r).getD j 0)) ((n::r).length - 1)) 0=minL n r:=by
  obtain ⟨h1,h2⟩:=argBest_lt (fun i=>(n::r).getD i 0) ((n::r).length - 1)
  obtain ⟨m1,m2,m3⟩:=minL_spec r n
  have hl:(n::r).length - 1<(n::r).length:=by simp
  generalize argBest (fun i j=>decide ((n::r).getD i 0<(n::r).getD j 0)) ((n::r).length - 1)=k at *
  have a1:=getD_in (ns:=n::r) (i:=k) (by omega)
  have a2:minL n r∈n::r:=by rcases m1 with e | e;rw [e];exact List.mem_cons_self;exact List.mem_cons_of_mem _ e
  obtain ⟨j,hj,ej⟩:=in_getD a2
  have a3:=h2 j (by omega)
  rw [ej] at a3
  rcases List.mem_cons.mp a1 with e | e
  · omega
  · have:=m3 _ e;omega
theorem best_max {n:Int}{r:List Int}:(n::r).getD (argBest (fun i j=>decide ((n::r).getD i 0 > (n::r).getD j 0)) ((n::r).length - 1)) 0=maxL n r:=by
  obtain ⟨h1,h2⟩:=argBest_gt (fun i=>(n::r).getD i 0) ((n::r).length - 1)
  obtain ⟨m1,m2,m3⟩:=maxL_spec r n
  have hl:(n::r).length - 1<(n::r).length:=by simp
  generalize argBest (fun i j=>decide ((n::r).getD i 0 > (n::r).getD j 0)) ((n::r).length - 1)=k at *
  have a1:=getD_in (ns:=n::r) (i:=k) (by omega)
  have a2:maxL n r∈n::r:=by rcases m1 with e | e;rw [e];exact List.mem_cons_self;exact List.mem_cons_of_mem _ e
  obtain ⟨j,hj,ej⟩:=in_getD a2
  have a3:=h2 j (by omega)
  rw [ej] at a3
  rcases List.mem_cons.mp a1 with e | e
  · omega
  · have:=m3 _ e;omega
theorem two_lt {a I:Nat}{o:Obj}{s:Shared} (h:a<s.heap.objs.size):∀ b∈[s.heap.objs.size,a],b<(s.heap.push o).objs.size:=fun b hb=>by
  rw [Heap.size_push]
  rcases List.mem_cons.mp hb with rfl | hb
  · exact Nat.lt_succ_self _
  · rcases List.mem_cons.mp hb with rfl | hb
    · exact Nat.lt_succ_of_lt h
    · cases hb
theorem c_min1 (hc:X.calm=true):CalR X cl (.builtin "min") bMin1:=by
  intro pins s σ Hf H xs us ps I sm rv rps hs
  obtain ⟨p,l,n,r,rfl,e0,e1,e2⟩:=bMin1_ns hs
  rw [e2]
  obtain ⟨v,rfl,rp⟩:=rps1' rps
  have hq:∀ (its:List Value) (h':Heap) (tk:Nat),IntsAre its (n::r)→(∀ b o,s.heap.get? b=some o→h'.get? b=some o)→∀ u,its.toArray[argBest (fun i j=>decide ((n::r).getD i 0<(n::r).getD j 0)) (its.toArray.size - 1)]?=some u →
      OkP X cl pins σ Hf H (.ok (.int (minL n r))) u { s with heap:=h',toks:=tk }:=fun its h' tk hi hk u hu=>by
    rw [List.size_toArray,ints_len hi] at hu
    obtain ⟨t,rfl⟩:=ints_at hi _ _ hu
    rw [best_min]
    exact ⟨_,.int _,Hf,H,rfl,I.kept hk,⟨t,rfl⟩,Ext.refl sm,.int _⟩
  cases rp with
  | lst h rr =>
    cases e0
    obtain ⟨u,rfl,ru⟩:=rv.one
    cases ru
    obtain ⟨its,wl,pl,z⟩:=I.list (sm.seq h)
    have hi:=ints_vals e1 rr wl
    have hl:=pl.isList
    have hlt:=(by obtain ⟨_,e,_⟩:=hl;exact Heap.lt_size e:_<s.heap.objs.size)
    refine call_min_walk (wpAny_pyIter_list hl ?_)
    exact ⟨s.heap.objs.size,[s.heap.objs.size,_],[s.heap.objs.size],its.toArray.size,_,_,_,rfl,Walks.list (A:=X.A.in1) (I.ok.hd hc) _ _ (Nat.ne_of_lt hlt) its.toArray,
      ⟨⟨_,Heap.get?_push_size _ rfl,rfl,rfl⟩,hl.push _⟩,two_lt (I:=0) hlt,by rw [List.size_toArray,ints_len hi];simp,CmpOf.ints_lt (fun i=>(n::r).getD i 0) (ints_at hi),fun v h' tk hP hk=>hq its h' tk hi (kept_it hk) v hP⟩
  | tup h rr =>
    cases e0
    obtain ⟨u,rfl,ru⟩:=rv.one
    cases ru
    obtain ⟨its,wl,pl,z⟩:=I.tuple (Same.seqT sm h)
    have hi:=ints_vals e1 rr wl
    have hl:s.heap.IsTuple _ its.toArray:=pl
    have hlt:=(by obtain ⟨_,e,_⟩:=hl;exact Heap.lt_size e:_<s.heap.objs.size)
    refine call_min_walk (wpAny_pyIter_tuple hl ?_)
    exact ⟨s.heap.objs.size,[s.heap.objs.size,_],[s.heap.objs.size],its.toArray.size,_,_,_,rfl,Walks.tuple (A:=X.A.in1) (I.ok.hd hc) _ _ (Nat.ne_of_lt hlt) its.toArray,
      ⟨⟨_,Heap.get?_push_size _ rfl,rfl,rfl⟩,hl.push _⟩,two_lt (I:=0) hlt,by rw [List.size_toArray,ints_len hi];simp,CmpOf.ints_lt (fun i=>(n::r).getD i 0) (ints_at hi),fun v h' tk hP hk=>hq its h' tk hi (kept_it hk) v hP⟩
  | _=>cases e0
theorem c_max1 (hc:X.calm=true):CalR X cl (.builtin "max") bMax1:=by
  intro pins s σ Hf H xs us ps I sm rv rps hs
  obtain ⟨p,l,n,r,rfl,e0,e1,e2⟩:=bMax1_ns hs
  rw [e2]
  obtain ⟨v,rfl,rp⟩:=rps1' rps
  have hq:∀ (its:List Value) (h':Heap) (tk:Nat),IntsAre its (n::r)→(∀ b o,s.heap.get? b=some o→h'.get? b=some o)→∀ u,its.toArray[argBest (fun i j=>decide ((n::r).getD i 0 > (n::r).getD j 0)) (its.toArray.size - 1)]?=some u →
      OkP X cl pins σ Hf H (.ok (.int (maxL n r))) u { s with heap:=h',toks:=tk }:=fun its h' tk hi hk u hu=>by
    rw [List.size_toArray,ints_len hi] at hu
    obtain ⟨t,rfl⟩:=ints_at hi _ _ hu
    rw [best_max]
    exact ⟨_,.int _,Hf,H,rfl,I.kept hk,⟨t,rfl⟩,Ext.refl sm,.int _⟩
  cases rp with
  | lst h rr =>
    cases e0
    obtain ⟨u,rfl,ru⟩:=rv.one
    cases ru
    obtain ⟨its,wl,pl,z⟩:=I.list (sm.seq h)
    have hi:=ints_vals e1 rr wl
    have hl:=pl.isList
    have hlt:=(by obtain ⟨_,e,_⟩:=hl;exact Heap.lt_size e:_<s.heap.objs.size)
    refine call_max_walk (wpAny_pyIter_list hl ?_)
    exact ⟨s.heap.objs.size,[s.heap.objs.size,_],[s.heap.objs.size],its.toArray.size,_,_,_,rfl,Walks.list (A:=X.A.in1) (I.ok.hd hc) _ _ (Nat.ne_of_lt hlt) its.toArray,
      ⟨⟨_,Heap.get?_push_size _ rfl,rfl,rfl⟩,hl.push _⟩,two_lt (I:=0) hlt,by rw [List.size_toArray,ints_len hi];simp,CmpOf.ints_gt (fun i=>(n::r).getD i 0) (ints_at hi),fun v h' tk hP hk=>hq its h' tk hi (kept_it hk) v hP⟩
  | tup h rr =>
    cases e0
    obtain ⟨u,rfl,ru⟩:=rv.one
    cases ru
    obtain ⟨its,wl,pl,z⟩:=I.tuple (Same.seqT sm h)
    have hi:=ints_vals e1 rr wl
    have hl:s.heap.IsTuple _ its.toArray:=pl
    have hlt:=(by obtain ⟨_,e,_⟩:=hl;exact Heap.lt_size e:_<s.heap.objs.size)
    refine call_max_walk (wpAny_pyIter_tuple hl ?_)
    exact ⟨s.heap.objs.size,[s.heap.objs.size,_],[s.heap.objs.size],its.toArray.size,_,_,_,rfl,Walks.tuple (A:=X.A.in1) (I.ok.hd hc) _ _ (Nat.ne_of_lt hlt) its.toArray,
      ⟨⟨_,Heap.get?_push_size _ rfl,rfl,rfl⟩,hl.push _⟩,two_lt (I:=0) hlt,by rw [List.size_toArray,ints_len hi];simp,CmpOf.ints_gt (fun i=>(n::r).getD i 0) (ints_at hi),fun v h' tk hP hk=>hq its h' tk hi (kept_it hk) v hP⟩
  | _=>cases e0
end
noncomputable def cNotT:PV→R PV
  | .bl b=>.ok (.bl (!b))
  | _=>.stuck
noncomputable def fChain3 (o1 o2 o3:PV→PV→R PV) (a b c d:FE):FE:=fun ρ=>(a ρ).bind fun x=>(b ρ).bind fun y=>(o1 x y).bind fun r=>(oBool r).bind fun k =>
  if k then (c ρ).bind fun z=>(o2 y z).bind fun r2=>(oBool r2).bind fun k2=>if k2 then (d ρ).bind fun w=>o3 z w else .ok (.bl false) else .ok (.bl false)
section
variable {X:Cx}{cl:Nat→Addr}{pins:List (Addr×Obj)}{s:Shared}{σ:SV}{Hf0 H0 Hf H Hf1 H1:Hp}{ρ:MEnv}{α:Type}
theorem notT_ns {p:PV} (h:cNotT p≠.stuck):∃ b,p = .bl b:=by
  cases p<;>first | exact ⟨_,rfl⟩ | exact absurd rfl h
theorem zay {a:Expr}{fa:FE}{j:Nat}{pos pos':Pos} (ha:ME X cl a fa):MT X cl (.Compare a [.IsNot] [.Constant (.bool true) j pos'] pos) (tVal (fUn cNotT fa)):=by
  refine ⟨?_⟩
  intro pins s σ Hf0 H0 Hf H ρ I r hs
  have assoc:∀ {β γ δ:Type} (x:R β) (f:β→R γ) (g:γ→R δ),(x.bind f).bind g=x.bind fun y=>(f y).bind g:=fun x f g=>by cases x<;>rfl
  unfold tVal fUn at hs ⊢
  rw [assoc] at hs ⊢
  refine wpAny_isTrue_Compare1 (ha.run I r (Ext.refl r.sub) hs fun p v u s1 Hf1 H1 e1 I1 rv x1 rp=>?_) (nobehind _ (by decide) (by decide))
  rw [e1] at hs ⊢
  have hs':(cNotT p).bind truthP≠.stuck:=hs
  obtain ⟨b,rfl⟩:=notT_ns (p:=p) fun z=>hs' (by rw [z];rfl)
  cases rp
  cases rv
  refine Constant_bool (wpAny_isNot_plain (by cases b<;>rfl) (wpAny_truthy_bool ⟨Hf1,H1,?_,I1,x1⟩))
  cases b<;>rfl
theorem me_chain3 {a b c d:Expr}{fa fb fc fd:FE}{op1 op2 op3:CmpOp}{o1 o2 o3:PV→PV→R PV}{pos:Pos} (h1:BinR X cl (compareOp op1) o1) (h2:BinR X cl (compareOp op2) o2) (h3:BinR X cl (compareOp op3) o3) (ha:ME X cl a fa) (hb:ME X cl b fb) (hc:ME X cl c fc) (hd:ME X cl d fd)
    (hm:lastMarks [op1,op2,op3] [b,c,d]=false:=by with_unfolding_all rfl):ME X cl (.Compare a [op1,op2,op3] [b,c,d] pos) (fChain3 o1 o2 o3 fa fb fc fd):=by
  refine ⟨?_⟩
  intro pins s σ Hf0 H0 Hf H ρ I r hs
  unfold fChain3 at hs ⊢
  refine Compare_chain (ha.run I r (Ext.refl r.sub) hs fun p v u s1 Hf1 H1 e1 I1 rv x1 rp=>chain_link ?_) hm
  rw [e1] at hs ⊢
  refine hb.run I1 (r.keep x1) x1 hs fun q v' u' s2 Hf2 H2 e2 I2 rv' x2 rq=>?_
  rw [e2] at hs ⊢
  have x12:=x1.trans x2
  have ho:o1 p q≠.stuck:=fun z=>hs (by rw [z];rfl)
  refine wpAny_mono (h1 pins s2 σ Hf2 H2 v v' u u' p q I2 x2.sub rv rv' (rp.keep x2.frz) rq ho) (fun d s3 h3'=>?_) fun d s3 h3'=>?_
  · obtain ⟨z,v3,Hf3,H3,e3,I3,rv3,x3,rp3⟩:=h3'
    rw [e3] at hs ⊢
    have hs0:(oBool z).bind (fun k=>if k=true then (fc ρ).bind fun w=>(o2 q w).bind fun r2=>(oBool r2).bind fun k2=>if k2=true then (fd ρ).bind fun y=>o3 w y else R.ok (PV.bl false) else R.ok (PV.bl false))≠.stuck:=hs
    obtain ⟨k,rfl,e4⟩:=oBool_some (p:=z) fun y=>hs0 (by rw [y];rfl)
    cases rp3;cases rv3
    refine wpAny_truthy_bool ?_
    have x13:=x12.trans x3
    cases k with
    | false=>exact ite_ff ⟨_,.bl false,Hf3,H3,rfl,I3,rfl,x13,.bl false⟩
    | true =>
      have hs1:(fc ρ).bind (fun w=>(o2 q w).bind fun r2=>(oBool r2).bind fun k2=>if k2=true then (fd ρ).bind fun y=>o3 w y else R.ok (PV.bl false))≠.stuck:=hs
      refine ite_tt (chain_link ?_)
      show wpAny _ _ _ _ (ExP X cl pins σ Hf H ((fc ρ).bind fun w=>(o2 q w).bind fun r2=>(oBool r2).bind fun k2=>if k2=true then (fd ρ).bind fun y=>o3 w y else R.ok (PV.bl false))) s3
      refine hc.run I3 (r.keep x13) x13 hs1 fun w v5 u5 s5 Hf5 H5 e5 I5 rv5 x5 rw'=>?_
      rw [e5] at hs1
      show wpAny _ _ _ _ (ExP X cl pins σ Hf H ((fc ρ).bind _)) s5
      have x15:=x13.trans x5
      have ho2:o2 q w≠.stuck:=fun z=>hs1 (by show (o2 q w).bind _=_;rw [z];rfl)
      refine wpAny_mono (h2 pins s5 σ Hf5 H5 v' v5 u' u5 q w I5 x5.sub rv' rv5 (rq.keep (x3.trans x5).frz) rw' ho2) (fun d s6 h6=>?_) fun d s6 h6=>?_
      · obtain ⟨z,v6,Hf6,H6,e6,I6,rv6,x6,rp6⟩:=h6
        have hs2:(o2 q w).bind (fun r2=>(oBool r2).bind fun k2=>if k2=true then (fd ρ).bind fun y=>o3 w y else R.ok (PV.bl false))≠.stuck:=hs1
        rw [e6] at hs2
        have hs3:(oBool z).bind (fun k2=>if k2=true then (fd ρ).bind fun y=>o3 w y else R.ok (PV.bl false))≠.stuck:=hs2
        obtain ⟨k2,rfl,e7⟩:=oBool_some (p:=z) fun y=>hs3 (by rw [y];rfl)
        cases rp6;cases rv6
        refine wpAny_truthy_bool ?_
        have x16:=x15.trans x6
        have E:∀ {Y:R PV},(fc ρ).bind (fun w=>(o2 q w).bind fun r2=>(oBool r2).bind fun k2=>if k2=true then (fd ρ).bind fun y=>o3 w y else R.ok (PV.bl false))=(if k2=true then (fd ρ).bind fun y=>o3 w y else R.ok (PV.bl false)):=by
          intro _
          rw [e5]
          show (o2 q w).bind _=_
          rw [e6];rfl
        cases k2 with
        | false =>
          refine ite_ff ?_
          show OkP X cl pins σ Hf H ((fc ρ).bind (fun w=>(o2 q w).bind fun r2=>(oBool r2).bind fun k2=>if k2=true then (fd ρ).bind fun y=>o3 w y else R.ok (PV.bl false))) _ s6
          rw [E (Y:=.stuck)]
          exact ⟨_,.bl false,Hf6,H6,rfl,I6,rfl,x16,.bl false⟩
        | true =>
          have hs4:(fd ρ).bind (fun y=>o3 w y)≠.stuck:=hs3
          refine ite_tt ?_
          show wpAny _ _ _ (OkP X cl pins σ Hf H ((fc ρ).bind (fun w=>(o2 q w).bind fun r2=>(oBool r2).bind fun k2=>if k2=true then (fd ρ).bind fun y=>o3 w y else R.ok (PV.bl false)))) (ExP X cl pins σ Hf H ((fc ρ).bind (fun w=>(o2 q w).bind fun r2=>(oBool r2).bind fun k2=>if k2=true then (fd ρ).bind fun y=>o3 w y else R.ok (PV.bl false)))) s6
          rw [E (Y:=.stuck)]
          refine chain_last ?_
          show wpAny _ _ _ (fun b s₁=>wpAny _ _ _ (OkP X cl pins σ Hf H ((fd ρ).bind fun y=>o3 w y)) (ExP X cl pins σ Hf H ((fd ρ).bind fun y=>o3 w y)) s₁) (ExP X cl pins σ Hf H ((fd ρ).bind fun y=>o3 w y)) s6
          refine hd.run I6 (r.keep x16) x16 hs4 fun y v8 u8 s8 Hf8 H8 e8 I8 rv8 x8 ry=>?_
          rw [e8] at hs4 ⊢
          exact wpAny_mono (h3 pins s8 σ Hf8 H8 v5 v8 u5 u8 w y I8 x8.sub rv5 rv8 (rw'.keep (x6.trans x8).frz) ry hs4) (fun _ _ q=>q.from (e0:=x16.trans x8)) fun _ _ q=>q.from (e0:=x16.trans x8)
      · obtain ⟨c,e6,y⟩:=h6
        exact ⟨c,by rw [e5];show (o2 q w).bind _=_;rw [e6];rfl,y.from x15⟩
  · obtain ⟨c,e3,y⟩:=h3'
    exact ⟨c,by rw [e3];rfl,y.from x12⟩
noncomputable def Cx.at (X:Cx) (A:Around):Cx:={ X with A:=A,calm:=false }
theorem Inv.at {A:Around} (I:Inv X pins σ H s) (hf:A.frames=X.A.frames):Inv (Cx.at X A) pins σ H s :=
  ⟨⟨I.ok.mod,I.ok.kind,I.ok.glob,I.ok.blt,I.ok.above,I.ok.inj,I.ok.has,I.ok.cab,(fun z=>by cases z),hf.trans I.ok.frames,I.ok.stk,I.ok.exf,I.ok.bs,I.ok.bsz,I.ok.noex,I.ok.exfs,I.ok.funs,I.ok.frf⟩,I.os,I.bare,I.base,I.loc,I.cell,I.free,I.freeC,I.pin,I.hok,I.len⟩
end
section
variable (X:Cx) (cl:Nat→Addr)
end
section
variable {X:Cx}{cl:Nat→Addr}
end
end Mi
namespace Mi
open PySem
theorem fVar_e (i:Nat) (x0:Option PV) (ρ0:MEnv):fVar i (x0::ρ0)=getV (x0::ρ0) i:=rfl
theorem getV_0 (o:Option PV) (r:MEnv):getV (o::r) 0=asVal o:=rfl
theorem getV_s (o:Option PV) (r:MEnv) (n:Nat):getV (o::r) (n+1)=getV r n:=rfl
theorem asVal_int (i:Int):asVal (some (.int i)) = .ok (.int i):=rfl
theorem asVal_bl (i:Bool):asVal (some (.bl i)) = .ok (.bl i):=rfl
theorem asVal_str (i:Str):asVal (some (.str i)) = .ok (.str i):=rfl
theorem asVal_non:asVal (some .non) = .ok .non:=rfl
theorem asVal_tup (l:List PV):asVal (some (.tup l)) = .ok (.tup l):=rfl
theorem asVal_lst (l:List PV):asVal (some (.lst l)) = .ok (.lst l):=rfl
theorem asVal_exc (c:Nat):asVal (some (.exc c)) = .ok (.exc c):=rfl
theorem asVal_dic0:asVal (some .dic0) = .ok .dic0:=rfl
theorem fC_e (v:PV) (x0:Option PV) (ρ0:MEnv):fC v (x0::ρ0) = .ok v:=rfl
theorem fBin_e (o:PV→PV→R PV) (a b:FE) (x0:Option PV) (ρ0:MEnv):fBin o a b (x0::ρ0)=(a (x0::ρ0)).bind fun x=>(b (x0::ρ0)).bind fun y=>o x y:=rfl
theorem fUn_e (o:PV→R PV) (a:FE) (x0:Option PV) (ρ0:MEnv):fUn o a (x0::ρ0)=(a (x0::ρ0)).bind o:=rfl
theorem oBool_e (b:Bool):oBool (.bl b) = .ok b:=rfl
theorem fAnd_e (a b:FE) (x0:Option PV) (ρ0:MEnv):fAnd a b (x0::ρ0)=(a (x0::ρ0)).bind fun x=>(oBool x).bind fun c=>if c then b (x0::ρ0) else .ok (.bl false):=rfl
theorem fOr_e (a b:FE) (x0:Option PV) (ρ0:MEnv):fOr a b (x0::ρ0)=(a (x0::ρ0)).bind fun x=>(oBool x).bind fun c=>if c then .ok (.bl true) else b (x0::ρ0):=rfl
theorem fNot_e (a:FE) (x0:Option PV) (ρ0:MEnv):fNot a (x0::ρ0)=(a (x0::ρ0)).bind fun x=>(oBool x).bind fun c=>.ok (.bl (!c)):=rfl
theorem fChain_e (o o':PV→PV→R PV) (a b c:FE) (x0:Option PV) (ρ0:MEnv):fChain o o' a b c (x0::ρ0)=(a (x0::ρ0)).bind fun x=>(b (x0::ρ0)).bind fun y=>(o x y).bind fun r=>(oBool r).bind fun k =>
  if k then (c (x0::ρ0)).bind fun z=>o' y z else .ok (.bl false):=rfl
theorem fIf_e (t:FT) (a b:FE) (x0:Option PV) (ρ0:MEnv):fIf t a b (x0::ρ0)=(t (x0::ρ0)).bind fun c=>if c then a (x0::ρ0) else b (x0::ρ0):=rfl
theorem aNil_e (x0:Option PV) (ρ0:MEnv):aNil (x0::ρ0) = .ok []:=rfl
theorem aCons_e (a:FE) (r:FA) (x0:Option PV) (ρ0:MEnv):aCons a r (x0::ρ0)=(a (x0::ρ0)).bind fun x=>(r (x0::ρ0)).bind fun xs=>.ok (x::xs):=rfl
noncomputable def mkTup (xs:List PV):R PV:=if xs.length≤sizeLine then .ok (.tup xs) else .stuck
noncomputable def mkLst (xs:List PV):R PV:=if xs.length≤sizeLine then .ok (.lst xs) else .stuck
theorem sizeLine_ge:1000≤sizeLine:=by decide
theorem fTup_e (a:FA) (x0:Option PV) (ρ0:MEnv):fTup a (x0::ρ0)=(a (x0::ρ0)).bind mkTup:=rfl
theorem fLst_e (a:FA) (x0:Option PV) (ρ0:MEnv):fLst a (x0::ρ0)=(a (x0::ρ0)).bind mkLst:=rfl
theorem small_le (n:Nat) (h:n≤1000):n≤sizeLine:=Nat.le_trans h sizeLine_ge
theorem fCall_e (F:List PV→R PV) (a:FA) (x0:Option PV) (ρ0:MEnv):fCall F a (x0::ρ0)=(a (x0::ρ0)).bind F:=rfl
theorem fIsinst_e (t:Ty) (a:FE) (x0:Option PV) (ρ0:MEnv):fIsinst t a (x0::ρ0)=(a (x0::ρ0)).bind fun x=>match isTy x t with | some b=>.ok (.bl b) | none=>.stuck:=rfl
theorem tVal_e (a:FE) (x0:Option PV) (ρ0:MEnv):tVal a (x0::ρ0)=(a (x0::ρ0)).bind truthP:=rfl
theorem truth_bl (b:Bool):truthP (.bl b) = .ok b:=rfl
theorem truth_int (i:Int):truthP (.int i) = .ok (i != 0):=rfl
theorem truth_non:truthP .non = .ok false:=rfl
theorem tAnd_e (a b:FT) (x0:Option PV) (ρ0:MEnv):tAnd a b (x0::ρ0)=(a (x0::ρ0)).bind fun c=>if c then b (x0::ρ0) else .ok false:=rfl
theorem tOr_e (a b:FT) (x0:Option PV) (ρ0:MEnv):tOr a b (x0::ρ0)=(a (x0::ρ0)).bind fun c=>if c then .ok true else b (x0::ρ0):=rfl
theorem tNot_e (a:FT) (x0:Option PV) (ρ0:MEnv):tNot a (x0::ρ0)=(a (x0::ρ0)).bind fun c=>.ok (!c):=rfl
theorem mkTup_s (xs:List PV) (h:xs.length≤1000):mkTup xs = .ok (.tup xs):=if_pos (small_le _ h)
theorem mkLst_s (xs:List PV) (h:xs.length≤1000):mkLst xs = .ok (.lst xs):=if_pos (small_le _ h)
theorem mkTup_1 (a:PV):mkTup [a] = .ok (.tup [a]):=mkTup_s _ (by simp)
theorem mkTup_2 (a b:PV):mkTup [a,b] = .ok (.tup [a,b]):=mkTup_s _ (by simp)
theorem mkTup_3 (a b c:PV):mkTup [a,b,c] = .ok (.tup [a,b,c]):=mkTup_s _ (by simp)
theorem mkTup_4 (a b c d:PV):mkTup [a,b,c,d] = .ok (.tup [a,b,c,d]):=mkTup_s _ (by simp)
theorem mkLst_0:mkLst [] = .ok (.lst []):=mkLst_s _ (by simp)
theorem mkLst_1 (a:PV):mkLst [a] = .ok (.lst [a]):=mkLst_s _ (by simp)
theorem mkLst_2 (a b:PV):mkLst [a,b] = .ok (.lst [a,b]):=mkLst_s _ (by simp)
theorem mkLst_3 (a b c:PV):mkLst [a,b,c] = .ok (.lst [a,b,c]):=mkLst_s _ (by simp)
theorem mkLst_4 (a b c d:PV):mkLst [a,b,c,d] = .ok (.lst [a,b,c,d]):=mkLst_s _ (by simp)
theorem mkLst_5 (a b c d e:PV):mkLst [a,b,c,d,e] = .ok (.lst [a,b,c,d,e]):=mkLst_s _ (by simp)
theorem mkLst_6 (a b c d e f:PV):mkLst [a,b,c,d,e,f] = .ok (.lst [a,b,c,d,e,f]):=mkLst_s _ (by simp)
theorem mkLst_7 (a b c d e f g:PV):mkLst [a,b,c,d,e,f,g] = .ok (.lst [a,b,c,d,e,f,g]):=mkLst_s _ (by simp)
theorem mkLst_8 (a b c d e f g h:PV):mkLst [a,b,c,d,e,f,g,h] = .ok (.lst [a,b,c,d,e,f,g,h]):=mkLst_s _ (by simp)
theorem asVal_none:asVal none = .stuck:=rfl
noncomputable def rgF:List PV→R (List PV)
  | [.int hi]=>if smallI hi then .ok (rangeP 0 hi 1) else .stuck
  | [.int lo,.int hi]=>if smallI lo∧smallI hi then .ok (rangeP lo hi 1) else .stuck
  | [.int lo,.int hi,.int st]=>if smallI lo∧smallI hi∧smallI st∧st≠0 then .ok (rangeP lo hi st) else .stuck
  | _=>.stuck
def okI (i:Int):Prop:=smallI i
theorem iRange_e (a:FA) (x0:Option PV) (ρ0:MEnv):iRange a (x0::ρ0)=(a (x0::ρ0)).bind rgF:=by
  show R.bind _ _=R.bind _ _
  congr 1
theorem rg_1 (hi:Int) (h:okI hi):rgF [.int hi] = .ok (rangeP 0 hi 1):=if_pos h
theorem rg_2 (lo hi:Int) (h:okI lo) (h2:okI hi):rgF [.int lo,.int hi] = .ok (rangeP lo hi 1):=if_pos ⟨h,h2⟩
theorem rg_3 (lo hi st:Int) (h:okI lo) (h2:okI hi) (h3:okI st) (h0:st≠0):rgF [.int lo,.int hi,.int st] = .ok (rangeP lo hi st):=if_pos ⟨h,h2,h3,h0⟩
theorem bind_ok (p:PV) (f:PV→R PV):(R.ok p).bind f=f p:=rfl
theorem bind_okl (p:PV) (f:PV→R (List PV)):(R.ok p).bind f=f p:=rfl
theorem bind_okb (p:PV) (f:PV→R Bool):(R.ok p).bind f=f p:=rfl
theorem bind_oko (p:PV) (f:PV→R (Option Int)):(R.ok p).bind f=f p:=rfl
theorem bindl_ok (p:List PV) (f:List PV→R PV):(R.ok p).bind f=f p:=rfl
theorem bindl_okl (p:List PV) (f:List PV→R (List PV)):(R.ok p).bind f=f p:=rfl
theorem bindb_ok (p:Bool) (f:Bool→R PV):(R.ok p).bind f=f p:=rfl
theorem bindb_okb (p:Bool) (f:Bool→R Bool):(R.ok p).bind f=f p:=rfl
theorem bindo_ok (p:Option Int) (f:Option Int→R PV):(R.ok p).bind f=f p:=rfl
theorem bind_exc (c:Nat) (f:PV→R PV):(R.exc c:R PV).bind f = .exc c:=rfl
theorem bind_excl (c:Nat) (f:PV→R (List PV)):(R.exc c:R PV).bind f = .exc c:=rfl
theorem bind_excb (c:Nat) (f:PV→R Bool):(R.exc c:R PV).bind f = .exc c:=rfl
theorem bindl_exc (c:Nat) (f:List PV→R PV):(R.exc c:R (List PV)).bind f = .exc c:=rfl
theorem bindl_excl (c:Nat) (f:List PV→R (List PV)):(R.exc c:R (List PV)).bind f = .exc c:=rfl
theorem bindb_exc (c:Nat) (f:Bool→R PV):(R.exc c:R Bool).bind f = .exc c:=rfl
theorem bindb_excb (c:Nat) (f:Bool→R Bool):(R.exc c:R Bool).bind f = .exc c:=rfl
noncomputable def fin:SR→R PV
  | .next _=>.ok .non
  | .ret v=>.ok v
  | .exc c _=>.exc c
  | _=>.stuck
theorem fin_next (ρ:MEnv):fin (.next ρ) = .ok .non:=rfl
theorem fin_ret (v:PV):fin (.ret v) = .ok v:=rfl
theorem fin_exc (c:Nat) (ρ:MEnv):fin (.exc c ρ) = .exc c:=rfl
theorem runF_fin (n:Nat) (b:FS) (vs:List PV):runF n b vs=fin (b (vs.map some ++ List.replicate (n - vs.length) none)):=by
  show (match b _ with | .next _=>_ | .ret v=>_ | .exc c _=>_ | _=>_)=fin (b _)
  rfl
theorem run_1 (n:Nat) (b:FS) (a1:PV):runF (n+1) b [a1]=fin (b (some a1::List.replicate n none)):=by
  rw [runF_fin,List.length_cons];simp
theorem run_2 (n:Nat) (b:FS) (a1 a2:PV):runF (n+2) b [a1,a2]=fin (b (some a1::some a2::List.replicate n none)):=by
  rw [runF_fin,List.length_cons];simp
theorem run_3 (n:Nat) (b:FS) (a1 a2 a3:PV):runF (n+3) b [a1,a2,a3]=fin (b (some a1::some a2::some a3::List.replicate n none)):=by
  rw [runF_fin,List.length_cons];simp
theorem run_4 (n:Nat) (b:FS) (a1 a2 a3 a4:PV):runF (n+4) b [a1,a2,a3,a4]=fin (b (some a1::some a2::some a3::some a4::List.replicate n none)):=by
  rw [runF_fin,List.length_cons];simp
theorem run_5 (n:Nat) (b:FS) (a1 a2 a3 a4 a5:PV):runF (n+5) b [a1,a2,a3,a4,a5]=fin (b (some a1::some a2::some a3::some a4::some a5::List.replicate n none)):=by
  rw [runF_fin,List.length_cons];simp
theorem run_6 (n:Nat) (b:FS) (a1 a2 a3 a4 a5 a6:PV):runF (n+6) b [a1,a2,a3,a4,a5,a6]=fin (b (some a1::some a2::some a3::some a4::some a5::some a6::List.replicate n none)):=by
  rw [runF_fin,List.length_cons];simp
noncomputable def p2 (b:Int):Int:=2 ^ b.toNat
def okMul (a b:Int):Prop:=nb a≤64∨nb b≤64∨nb a+nb b≤bitsMax
def okDiv (b:Int):Prop:=0<b∧nb b≤9000
def okMod (b:Int):Prop:=0<b
def okPow (a b:Int):Prop:=0≤b∧b≤1000000∧nb a≤64
def okShl (a b:Int):Prop:=0≤b∧nb a+b≤134217728
def okShr (b:Int):Prop:=0≤b
noncomputable def powI (a b:Int):Int:=a ^ b.toNat
theorem oMul_i (a b:Int) (h:okMul a b):oMul (.int a) (.int b) = .ok (.int (a*b)):=if_pos h
theorem oDiv_i (a b:Int) (h:okDiv b):oDiv (.int a) (.int b) = .ok (.int (a / b)):=if_pos h
theorem oMod_i (a b:Int) (h:okMod b):oMod (.int a) (.int b) = .ok (.int (a % b)):=if_pos h
theorem oPow_i (a b:Int) (h:okPow a b):oPow (.int a) (.int b) = .ok (.int (powI a b)):=if_pos h
theorem oShl_i (a b:Int) (h:okShl a b):oShl (.int a) (.int b) = .ok (.int (a*p2 b)):=if_pos h
theorem oShr_i (a b:Int) (h:okShr b):oShr (.int a) (.int b) = .ok (.int (a / p2 b)):=if_pos h
theorem oAdd_i (a b:Int):oAdd (.int a) (.int b) = .ok (.int (a+b)):=rfl
theorem oSub_i (a b:Int):oSub (.int a) (.int b) = .ok (.int (a - b)):=rfl
theorem oNeg_i (a:Int):oNeg (.int a) = .ok (.int (-a)):=rfl
theorem oAnd_i (a b:Int):oAnd (.int a) (.int b) = .ok (.int (Builtin.bitAnd a b)):=rfl
theorem oOr_i (a b:Int):oOr (.int a) (.int b) = .ok (.int (Builtin.bitOr a b)):=rfl
theorem oXor_i (a b:Int):oXor (.int a) (.int b) = .ok (.int (Builtin.bitXor a b)):=rfl
theorem cLt_i (a b:Int):cLt (.int a) (.int b) = .ok (.bl (decide (a<b))):=rfl
theorem cLe_i (a b:Int):cLe (.int a) (.int b) = .ok (.bl (decide (a≤b))):=rfl
theorem cGt_i (a b:Int):cGt (.int a) (.int b) = .ok (.bl (decide (b<a))):=rfl
theorem cGe_i (a b:Int):cGe (.int a) (.int b) = .ok (.bl (decide (b≤a))):=rfl
theorem cEq_i (a b:Int):cEq (.int a) (.int b) = .ok (.bl (decide (a=b))):=rfl
theorem cNe_i (a b:Int):cNe (.int a) (.int b) = .ok (.bl (!decide (a=b))):=rfl
theorem cEq_b (a b:Bool):cEq (.bl a) (.bl b) = .ok (.bl (a == b)):=rfl
theorem cNe_b (a b:Bool):cNe (.bl a) (.bl b) = .ok (.bl (!(a == b))):=rfl
theorem cEq_s (a b:Str):cEq (.str a) (.str b) = .ok (.bl (a == b)):=rfl
theorem cNe_s (a b:Str):cNe (.str a) (.str b) = .ok (.bl (!(a == b))):=rfl
theorem cEq_tup (a b:List PV):cEq (.tup a) (.tup b)=if (a.all (cmpOkN 5) && b.all (cmpOkN 5)) then .ok (.bl (eqPVs a b)) else .stuck:=rfl
theorem cNe_tup (a b:List PV):cNe (.tup a) (.tup b)=if (a.all (cmpOkN 5) && b.all (cmpOkN 5)) then .ok (.bl (!eqPVs a b)) else .stuck:=rfl
theorem cEq_lst (a b:List PV):cEq (.lst a) (.lst b)=if (a.all (cmpOkN 5) && b.all (cmpOkN 5)) then .ok (.bl (eqPVs a b)) else .stuck:=rfl
theorem cNe_lst (a b:List PV):cNe (.lst a) (.lst b)=if (a.all (cmpOkN 5) && b.all (cmpOkN 5)) then .ok (.bl (!eqPVs a b)) else .stuck:=rfl
theorem cmpOkN_int (n:Nat) (i:Int):cmpOkN n (.int i)=true:=by cases n<;>rfl
theorem cmpOkN_bl (n:Nat) (i:Bool):cmpOkN n (.bl i)=true:=by cases n<;>rfl
theorem cmpOkN_str (n:Nat) (i:Str):cmpOkN n (.str i)=true:=by cases n<;>rfl
theorem cmpOkN_non (n:Nat):cmpOkN n .non=true:=by cases n<;>rfl
theorem cmpOkN_tup (n:Nat) (l:List PV):cmpOkN (n+1) (.tup l)=l.all (cmpOkN n):=rfl
theorem cmpOkN_lst (n:Nat) (l:List PV):cmpOkN (n+1) (.lst l)=l.all (cmpOkN n):=rfl
theorem eqPVs_nil:eqPVs [] []=true:=rfl
theorem eqPVs_cons (x y:PV) (xs ys:List PV):eqPVs (x::xs) (y::ys)=(eqPV x y && eqPVs xs ys):=rfl
theorem eqPVs_cn (x:PV) (xs:List PV):eqPVs (x::xs) []=false:=rfl
theorem eqPVs_nc (x:PV) (xs:List PV):eqPVs [] (x::xs)=false:=rfl
theorem eqPV_i (a b:Int):eqPV (.int a) (.int b)=decide (a=b):=rfl
theorem eqPV_b (a b:Bool):eqPV (.bl a) (.bl b)=(a == b):=rfl
theorem eqPV_s (a b:Str):eqPV (.str a) (.str b)=(a == b):=rfl
theorem eqPV_t (a b:List PV):eqPV (.tup a) (.tup b)=eqPVs a b:=rfl
theorem eqPV_l (a b:List PV):eqPV (.lst a) (.lst b)=eqPVs a b:=rfl
theorem eqPV_n:eqPV .non .non=true:=rfl
theorem bLen_tup (l:List PV):bLen [.tup l] = .ok (.int l.length):=rfl
theorem bLen_lst (l:List PV):bLen [.lst l] = .ok (.int l.length):=rfl
theorem bAbs_i (i:Int):bAbs [.int i] = .ok (.int (if i<0 then -i else i)):=rfl
theorem bMin_i (i j:Int):bMin [.int i,.int j] = .ok (.int (if j<i then j else i)):=rfl
theorem bMax_i (i j:Int):bMax [.int i,.int j] = .ok (.int (if j > i then j else i)):=rfl
theorem bInt_i (i:Int):bInt [.int i] = .ok (.int i):=rfl
theorem bInt_b (b:Bool):bInt [.bl b] = .ok (.int (if b then 1 else 0)):=rfl
theorem bBitLength_i (i:Int):bBitLength (.int i) = .ok (.int (nb i)):=rfl
theorem bList_l (l:List PV):bList [.lst l] = .ok (.lst l):=rfl
theorem bList_t (l:List PV):bList [.tup l] = .ok (.lst l):=rfl
theorem bTuple_l (l:List PV):bTuple [.lst l] = .ok (.tup l):=rfl
theorem bTuple_t (l:List PV):bTuple [.tup l] = .ok (.tup l):=rfl
theorem isTy_int_i (i:Int):isTy (.int i) .int=some true:=rfl
theorem isTy_int_b (i:Int):isTy (.int i) .bool=some false:=rfl
theorem isTy_int_s (i:Int):isTy (.int i) .str=some false:=rfl
theorem isTy_int_t (i:Int):isTy (.int i) .tuple=some false:=rfl
theorem isTy_bl_i (i:Bool):isTy (.bl i) .int=some true:=rfl
theorem isTy_bl_b (i:Bool):isTy (.bl i) .bool=some true:=rfl
theorem isTy_bl_t (i:Bool):isTy (.bl i) .tuple=some false:=rfl
theorem isTy_bl_s (i:Bool):isTy (.bl i) .str=some false:=rfl
theorem isTy_tup_t (l:List PV):isTy (.tup l) .tuple=some true:=rfl
theorem isTy_tup_i (l:List PV):isTy (.tup l) .int=some false:=rfl
theorem isTy_tup_s (l:List PV):isTy (.tup l) .str=some false:=rfl
theorem isTy_lst_i (l:List PV):isTy (.lst l) .int=some false:=rfl
theorem isTy_lst_l (l:List PV):isTy (.lst l) .list=some true:=rfl
theorem isTy_lst_t (l:List PV):isTy (.lst l) .tuple=some false:=rfl
theorem isTy_lst_s (l:List PV):isTy (.lst l) .str=some false:=rfl
theorem isTy_str_i (x:Str):isTy (.str x) .int=some false:=rfl
theorem isTy_str_s (x:Str):isTy (.str x) .str=some true:=rfl
theorem isTy_str_t (x:Str):isTy (.str x) .tuple=some false:=rfl
theorem isTy_non (t:Ty):isTy .non t=some false:=by cases t<;>rfl
theorem isTy_dic_i:isTy .dic0 .int=some false:=rfl
theorem isTy_dic_s:isTy .dic0 .str=some false:=rfl
theorem oItem_at {l:List PV}{i:Int}{v:PV} (h0:0≤i) (h:l[i.toNat]?=some v):oItem (.lst l) (.int i) = .ok v:=by
  have hl:i.toNat<l.length:=(List.getElem?_eq_some_iff.mp h).1
  show itemP l i=_
  unfold itemP ixP
  rw [if_pos h0,if_pos (by omega)]
  simp [h]
theorem oItem_atT {l:List PV}{i:Int}{v:PV} (h0:0≤i) (h:l[i.toNat]?=some v):oItem (.tup l) (.int i) = .ok v:=oItem_at h0 h
theorem oItem_t0 (x:PV) (l:List PV):oItem (.tup (x::l)) (.int 0) = .ok x:=oItem_atT (by decide) rfl
theorem oItem_t1 (x y:PV) (l:List PV):oItem (.tup (x::y::l)) (.int 1) = .ok y:=oItem_atT (by decide) rfl
theorem oItem_t2 (x y z:PV) (l:List PV):oItem (.tup (x::y::z::l)) (.int 2) = .ok z:=oItem_atT (by decide) rfl
theorem oItem_l0 (x:PV) (l:List PV):oItem (.lst (x::l)) (.int 0) = .ok x:=oItem_at (by decide) rfl
theorem oItem_l1 (x y:PV) (l:List PV):oItem (.lst (x::y::l)) (.int 1) = .ok y:=oItem_at (by decide) rfl
theorem oItem_l2 (x y z:PV) (l:List PV):oItem (.lst (x::y::z::l)) (.int 2) = .ok z:=oItem_at (by decide) rfl
theorem sNext_e (x0:Option PV) (ρ0:MEnv):sNext (x0::ρ0) = .next (x0::ρ0):=rfl
theorem sSeq_e (f g:FS) (x0:Option PV) (ρ0:MEnv):sSeq f g (x0::ρ0)=match f (x0::ρ0) with | .next ρ'=>g ρ' | o=>o:=rfl
theorem ofR_ok (v:PV) (ρ:MEnv) (k:PV→SR):ofR (.ok v) ρ k=k v:=rfl
theorem ofR_exc (c:Nat) (ρ:MEnv) (k:PV→SR):ofR (.exc c) ρ k = .exc c ρ:=rfl
theorem sRet_e (a:FE) (x0:Option PV) (ρ0:MEnv):sRet a (x0::ρ0)=ofR (a (x0::ρ0)) (x0::ρ0) fun v=>.ret v:=rfl
theorem sExpr_e (a:FE) (x0:Option PV) (ρ0:MEnv):sExpr a (x0::ρ0)=ofR (a (x0::ρ0)) (x0::ρ0) fun _=>.next (x0::ρ0):=rfl
theorem sSet_e (i:Nat) (a:FE) (x0:Option PV) (ρ0:MEnv):sSet i a (x0::ρ0)=ofR (a (x0::ρ0)) (x0::ρ0) fun v=>.next ((x0::ρ0).set i (some v)):=rfl
theorem sIf_e (t:FT) (f g:FS) (x0:Option PV) (ρ0:MEnv):sIf t f g (x0::ρ0)=match t (x0::ρ0) with | .ok c=>if c then f (x0::ρ0) else g (x0::ρ0) | .exc c=>.exc c (x0::ρ0) | .stuck=>.stuck:=rfl
theorem sFor_e (i:Nat) (it:FA) (body:FS) (x0:Option PV) (ρ0:MEnv):sFor i it body (x0::ρ0)=match it (x0::ρ0) with | .ok l=>forL i body l (x0::ρ0) | .exc c=>.exc c (x0::ρ0) | .stuck=>.stuck:=rfl
theorem sBreak_e (x0:Option PV) (ρ0:MEnv):sBreak (x0::ρ0) = .brk (x0::ρ0):=rfl
theorem sCont_e (x0:Option PV) (ρ0:MEnv):sCont (x0::ρ0) = .cont (x0::ρ0):=rfl
theorem sRetN_e (x0:Option PV) (ρ0:MEnv):sRetN (x0::ρ0) = .ret .non:=rfl
theorem sRaise_e (c:Nat) (x0:Option PV) (ρ0:MEnv):sRaise c (x0::ρ0) = .exc c (x0::ρ0):=rfl
theorem iSeq_e (a:FE) (x0:Option PV) (ρ0:MEnv):iSeq a (x0::ρ0)=(a (x0::ρ0)).bind fun x=>match x with | .lst l=>.ok l | .tup l=>.ok l | _=>.stuck:=rfl
theorem forL_nil (i:Nat) (body:FS) (ρ:MEnv):forL i body [] ρ = .next ρ:=rfl
theorem forL_cons (i:Nat) (body:FS) (x:PV) (l:List PV) (ρ:MEnv):forL i body (x::l) ρ=match body (ρ.set i (some x)) with
    | .next ρ'=>forL i body l ρ'
    | .cont ρ'=>forL i body l ρ'
    | .brk ρ'=>.next ρ'
    | o=>o:=rfl
theorem oNone_e (x0:Option PV) (ρ0:MEnv):oNone (x0::ρ0) = .ok none:=rfl
theorem oSome_e (a:FE) (x0:Option PV) (ρ0:MEnv):oSome a (x0::ρ0)=(a (x0::ρ0)).bind fun x=>match x with | .int i=>.ok (some i) | _=>.stuck:=rfl
theorem fCut_e (a:FE) (l h:FO) (x0:Option PV) (ρ0:MEnv):fCut a l h (x0::ρ0)=(a (x0::ρ0)).bind fun x=>(l (x0::ρ0)).bind fun lo=>(h (x0::ρ0)).bind fun hi=>oCut x lo hi:=rfl
theorem oCut_lst (l:List PV) (lo hi:Option Int):oCut (.lst l) lo hi = .ok (.lst (cutP l lo hi)):=rfl
theorem forL_inv (I:MEnv→Prop) {i:Nat}{body:FS}:∀ {l:List PV}{ρ:MEnv},I ρ→(∀ x∈l,∀ ρ,I ρ→∃ ρ',body (ρ.set i (some x)) = .next ρ'∧I ρ')→∃ ρ',forL i body l ρ = .next ρ'∧I ρ'
  | [],ρ,h,_=>⟨ρ,rfl,h⟩
  | x::l,ρ,h,s=>by
    obtain ⟨ρ1,e1,h1⟩:=s x (List.mem_cons_self) ρ h
    obtain ⟨ρ2,e2,h2⟩:=forL_inv I (l:=l) h1 fun y hy=>s y (List.mem_cons_of_mem _ hy)
    exact ⟨ρ2,by rw [forL_cons,e1];exact e2,h2⟩
theorem isSmallI_i (i:Int):isSmallI (.ok (.int i))=decide (i.natAbs<18446744073709551616):=rfl
theorem sRaiseT_e (k:MEnv→Bool) (c:Nat) (x0:Option PV) (ρ0:MEnv):sRaiseT k c (x0::ρ0)=if k (x0::ρ0) then .exc c (x0::ρ0) else .stuck:=rfl
theorem sTryAs_e (f:FS) (ks:List Nat) (d n x:Nat) (x0:Option PV) (ρ0:MEnv):sTryAs f ks d n x (x0::ρ0)=match f (x0::ρ0) with
  | .exc c ρ'=>if ks.contains c && under c d then .next (((ρ'.set n (some (.exc c))).set x (some (.exc c))).set n none) else .stuck
  | o=>o:=rfl
theorem fIsExc_e (ks:List Nat) (d:Nat) (a:FE) (x0:Option PV) (ρ0:MEnv):fIsExc ks d a (x0::ρ0)=(a (x0::ρ0)).bind fun x=>match x with
  | .exc c=>if ks.contains c then .ok (.bl (under c d)) else .stuck
  | .non=>.ok (.bl false)
  | _=>.stuck:=rfl
theorem fIsVal_e (ks:List Nat) (a:FE) (x0:Option PV) (ρ0:MEnv):fIsVal ks a (x0::ρ0)=(a (x0::ρ0)).bind fun x=>match x with
  | .exc c=>if ks.contains c then .ok (.bl true) else .stuck
  | .non=>.ok (.bl false)
  | _=>.stuck:=rfl
theorem evl:(∀ (α:Type) (a b:α),(if (true:Bool)=true then a else b)=a)∧(∀ (α:Type) (a b:α),(if (false:Bool)=true then a else b)=b)∧(∀ (α:Type) (a b:α),(if True then a else b)=a)∧(∀ (α:Type) (a b:α),(if False then a else b)=b) ∧
    (decide True=true)∧(decide False=false)∧((!true)=false)∧((!false)=true)∧(∀ b,(true && b)=b)∧(∀ b,(false && b)=false)∧(∀ b,(b && true)=b)∧(∀ b,(b && false)=false)∧(∀ b,(true || b)=true)∧(∀ b,(false || b)=b)∧(∀ b:Bool,(b == b)=true) ∧
    (∀ (x y:Option PV) (l:MEnv),(x::l).set 0 y=y::l)∧(∀ (x y:Option PV) (l:MEnv) (n:Nat),(x::l).set (n+1) y=x::l.set n y) ∧
    ((List.replicate 0 (none:Option PV))=[])∧(∀ (n:Nat),(List.replicate (n+1) (none:Option PV))=none::List.replicate n none) ∧
    (∀ (x:PV) (l:List PV),(x::l).map some=some x::l.map some)∧(([]:List PV).map some=[])∧(∀ (x:Option PV) (l m:MEnv),(x::l) ++ m=x::(l ++ m))∧(∀ (l:MEnv),[] ++ l=l) ∧
    (∀ (x:PV) (l:List PV),(x::l).length=l.length+1)∧(([]:List PV).length=0) ∧
    (∀ (p:PV→Bool) (x:PV) (l:List PV),(x::l).all p=(p x && l.all p))∧(∀ (p:PV→Bool),([]:List PV).all p=true) ∧
    (∀ (p:PV→Bool) (x:PV) (l:List PV),(x::l).any p=(p x || l.any p))∧(∀ (p:PV→Bool),([]:List PV).any p=false):=by
  refine ⟨fun _ _ _=>rfl,fun _ _ _=>rfl,fun _ _ _=>if_pos trivial,fun _ _ _=>if_neg id,by decide,by decide,rfl,rfl,fun b=>by cases b<;>rfl,fun b=>by cases b<;>rfl,fun b=>by cases b<;>rfl,fun b=>by cases b<;>rfl,fun b=>by cases b<;>rfl,fun b=>by cases b<;>rfl,fun b=>by cases b<;>rfl,fun _ _ _=>rfl,fun _ _ _ _=>rfl,rfl,fun _=>rfl,fun _ _=>rfl,rfl,fun _ _ _=>rfl,fun _=>rfl,fun _ _=>rfl,rfl,fun _ _ _=>rfl,fun _=>rfl,fun _ _ _=>rfl,fun _=>rfl⟩
def Goes (I:MEnv→Prop) (r:SR):Prop:=∃ ρ,r = .next ρ∧I ρ
theorem goes_next {I:MEnv→Prop}{ρ:MEnv} (h:I ρ):Goes I (.next ρ):=⟨ρ,rfl,h⟩
theorem forL_goes {I:MEnv→Prop}{i:Nat}{body:FS}{l:List PV}{ρ:MEnv} (h:I ρ) (s:∀ x∈l,∀ ρ,I ρ→Goes I (body (ρ.set i (some x)))):Goes I (forL i body l ρ):=forL_inv I h s
theorem nb_le_iff {a:Int}{k:Nat}:nb a≤k↔a.natAbs<2 ^ k:=by
  show (if a == 0 then 0 else a.natAbs.log2+1)≤k↔_
  by_cases h:a=0
  · subst h;simp;exact Nat.two_pow_pos k
  · have h0:a.natAbs≠0:=by omega
    rw [if_neg (by simpa using h)]
    rw [← Nat.log2_lt h0]
    omega
theorem nb_le {a:Int}{k:Nat} (h:a.natAbs<2 ^ k):nb a≤k:=nb_le_iff.mpr h
theorem nb_lt {a:Int}{k:Nat} (h:nb a≤k):a.natAbs<2 ^ k:=nb_le_iff.mp h
theorem okMul_r {a b:Int} (h1 : -18446744073709551616<b) (h2:b<18446744073709551616):okMul a b:=.inr (.inl (nb_le (k:=64) (by omega)))
theorem okMul_l {a b:Int} (h1 : -18446744073709551616<a) (h2:a<18446744073709551616):okMul a b:=.inl (nb_le (k:=64) (by omega))
theorem okMul_of {a b:Int}{m n:Nat} (ha:nb a≤m) (hb:nb b≤n) (h:m+n≤134217728):okMul a b:=.inr (.inr (by show _≤134217728;omega))
theorem okDiv_s {b:Int} (h0:0<b) (h:b<18446744073709551616):okDiv b:=⟨h0,Nat.le_trans (nb_le (k:=64) (by omega)) (by decide)⟩
theorem okDiv_of {b:Int}{n:Nat} (h0:0<b) (h:nb b≤n) (hn:n≤9000):okDiv b:=⟨h0,Nat.le_trans h hn⟩
theorem okShl_of {a b:Int}{n:Nat} (h0:0≤b) (ha:nb a≤n) (h:n+b≤134217728):okShl a b:=⟨h0,by omega⟩
theorem okPow_s {a b:Int} (h0:0≤b) (h1:b≤1000000) (h : -18446744073709551616<a) (h2:a<18446744073709551616):okPow a b:=⟨h0,h1,nb_le (k:=64) (by omega)⟩
theorem okMod_s {b:Int} (h:0<b):okMod b:=h
theorem okShr_s {b:Int} (h:0≤b):okShr b:=h
theorem okI_of {b:Int} (h0 : -1152921504606846976≤b) (h:b<1152921504606846976):okI b:=by
  have e:(2:Int) ^ 60=1152921504606846976:=by decide
  show -(2 ^ 60)≤b∧b<2 ^ 60
  rw [e];exact ⟨h0,h⟩
theorem okw:(∀ (a b:Int) (h1 : -18446744073709551616<b) (h2:b<18446744073709551616),okMul a b)∧(∀ (a b:Int) (h1 : -18446744073709551616<a) (h2:a<18446744073709551616),okMul a b)∧(∀ (b:Int) (h0:0<b) (h:b<18446744073709551616),okDiv b) ∧
    (∀ (a b:Int) (h0:0≤b) (h1:b≤1000000) (h : -18446744073709551616<a) (h2:a<18446744073709551616),okPow a b)∧(∀ (b:Int) (h:0<b),okMod b)∧(∀ (b:Int) (h:0≤b),okShr b)∧(∀ (b:Int) (h0 : -1152921504606846976≤b) (h:b<1152921504606846976),okI b) :=
  ⟨fun _ _=>okMul_r,fun _ _=>okMul_l,fun _=>okDiv_s,fun _ _=>okPow_s,fun _=>okMod_s,fun _=>okShr_s,fun _=>okI_of⟩
theorem ev:(∀ (i:Nat) (x0:Option PV) (ρ0:MEnv),fVar i (x0::ρ0)=getV (x0::ρ0) i) ∧
  (∀ (o:Option PV) (r:MEnv),getV (o::r) 0=asVal o) ∧
  (∀ (o:Option PV) (r:MEnv) (n:Nat),getV (o::r) (n+1)=getV r n) ∧
  (∀ (i:Int),asVal (some (.int i)) = .ok (.int i)) ∧
  (∀ (i:Bool),asVal (some (.bl i)) = .ok (.bl i)) ∧
  (∀ (i:Str),asVal (some (.str i)) = .ok (.str i)) ∧
  (asVal (some .non) = .ok .non) ∧
  (∀ (l:List PV),asVal (some (.tup l)) = .ok (.tup l)) ∧
  (∀ (l:List PV),asVal (some (.lst l)) = .ok (.lst l)) ∧
  (∀ (c:Nat),asVal (some (.exc c)) = .ok (.exc c)) ∧
  (asVal (some .dic0) = .ok .dic0) ∧
  (∀ (v:PV) (x0:Option PV) (ρ0:MEnv),fC v (x0::ρ0) = .ok v) ∧
  (∀ (o:PV→PV→R PV) (a b:FE) (x0:Option PV) (ρ0:MEnv),fBin o a b (x0::ρ0)=(a (x0::ρ0)).bind fun x=>(b (x0::ρ0)).bind fun y=>o x y) ∧
  (∀ (o:PV→R PV) (a:FE) (x0:Option PV) (ρ0:MEnv),fUn o a (x0::ρ0)=(a (x0::ρ0)).bind o) ∧
  (∀ (b:Bool),oBool (.bl b) = .ok b) ∧
  (∀ (a b:FE) (x0:Option PV) (ρ0:MEnv),fAnd a b (x0::ρ0)=(a (x0::ρ0)).bind fun x=>(oBool x).bind fun c=>if c then b (x0::ρ0) else .ok (.bl false)) ∧
  (∀ (a b:FE) (x0:Option PV) (ρ0:MEnv),fOr a b (x0::ρ0)=(a (x0::ρ0)).bind fun x=>(oBool x).bind fun c=>if c then .ok (.bl true) else b (x0::ρ0)) ∧
  (∀ (a:FE) (x0:Option PV) (ρ0:MEnv),fNot a (x0::ρ0)=(a (x0::ρ0)).bind fun x=>(oBool x).bind fun c=>.ok (.bl (!c))) ∧
  (∀ (o o':PV→PV→R PV) (a b c:FE) (x0:Option PV) (ρ0:MEnv),fChain o o' a b c (x0::ρ0)=(a (x0::ρ0)).bind fun x=>(b (x0::ρ0)).bind fun y=>(o x y).bind fun r=>(oBool r).bind fun k =>
  if k then (c (x0::ρ0)).bind fun z=>o' y z else .ok (.bl false)) ∧
  (∀ (t:FT) (a b:FE) (x0:Option PV) (ρ0:MEnv),fIf t a b (x0::ρ0)=(t (x0::ρ0)).bind fun c=>if c then a (x0::ρ0) else b (x0::ρ0)) ∧
  (∀ (x0:Option PV) (ρ0:MEnv),aNil (x0::ρ0) = .ok []) ∧
  (∀ (a:FE) (r:FA) (x0:Option PV) (ρ0:MEnv),aCons a r (x0::ρ0)=(a (x0::ρ0)).bind fun x=>(r (x0::ρ0)).bind fun xs=>.ok (x::xs)) ∧
  (∀ (a:FA) (x0:Option PV) (ρ0:MEnv),fTup a (x0::ρ0)=(a (x0::ρ0)).bind mkTup) ∧
  (∀ (a:FA) (x0:Option PV) (ρ0:MEnv),fLst a (x0::ρ0)=(a (x0::ρ0)).bind mkLst) ∧
  (∀ (F:List PV→R PV) (a:FA) (x0:Option PV) (ρ0:MEnv),fCall F a (x0::ρ0)=(a (x0::ρ0)).bind F) ∧
  (∀ (t:Ty) (a:FE) (x0:Option PV) (ρ0:MEnv),fIsinst t a (x0::ρ0)=(a (x0::ρ0)).bind fun x=>match isTy x t with | some b=>.ok (.bl b) | none=>.stuck) ∧
  (∀ (a:FE) (x0:Option PV) (ρ0:MEnv),tVal a (x0::ρ0)=(a (x0::ρ0)).bind truthP) ∧
  (∀ (b:Bool),truthP (.bl b) = .ok b) ∧
  (∀ (i:Int),truthP (.int i) = .ok (i != 0)) ∧
  (truthP .non = .ok false) ∧
  (∀ (a b:FT) (x0:Option PV) (ρ0:MEnv),tAnd a b (x0::ρ0)=(a (x0::ρ0)).bind fun c=>if c then b (x0::ρ0) else .ok false) ∧
  (∀ (a b:FT) (x0:Option PV) (ρ0:MEnv),tOr a b (x0::ρ0)=(a (x0::ρ0)).bind fun c=>if c then .ok true else b (x0::ρ0)) ∧
  (∀ (a:FT) (x0:Option PV) (ρ0:MEnv),tNot a (x0::ρ0)=(a (x0::ρ0)).bind fun c=>.ok (!c)) ∧
  (∀ (a:PV),mkTup [a] = .ok (.tup [a])) ∧
  (∀ (a b:PV),mkTup [a,b] = .ok (.tup [a,b])) ∧
  (∀ (a b c:PV),mkTup [a,b,c] = .ok (.tup [a,b,c])) ∧
  (∀ (a b c d:PV),mkTup [a,b,c,d] = .ok (.tup [a,b,c,d])) ∧
  (mkLst [] = .ok (.lst [])) ∧
  (∀ (a:PV),mkLst [a] = .ok (.lst [a])) ∧
  (∀ (a b:PV),mkLst [a,b] = .ok (.lst [a,b])) ∧
  (∀ (a b c:PV),mkLst [a,b,c] = .ok (.lst [a,b,c])) ∧
  (∀ (a b c d:PV),mkLst [a,b,c,d] = .ok (.lst [a,b,c,d])) ∧
  (∀ (a b c d e:PV),mkLst [a,b,c,d,e] = .ok (.lst [a,b,c,d,e])) ∧
  (∀ (a b c d e f:PV),mkLst [a,b,c,d,e,f] = .ok (.lst [a,b,c,d,e,f])) ∧
  (∀ (a b c d e f g:PV),mkLst [a,b,c,d,e,f,g] = .ok (.lst [a,b,c,d,e,f,g])) ∧
  (∀ (a b c d e f g h:PV),mkLst [a,b,c,d,e,f,g,h] = .ok (.lst [a,b,c,d,e,f,g,h])) ∧
  (asVal none = .stuck) ∧
  (∀ (a:FA) (x0:Option PV) (ρ0:MEnv),iRange a (x0::ρ0)=(a (x0::ρ0)).bind rgF) ∧
  (∀ (hi:Int) (h:okI hi),rgF [.int hi] = .ok (rangeP 0 hi 1)) ∧
  (∀ (lo hi:Int) (h:okI lo) (h2:okI hi),rgF [.int lo,.int hi] = .ok (rangeP lo hi 1)) ∧
  (∀ (lo hi st:Int) (h:okI lo) (h2:okI hi) (h3:okI st) (h0:st≠0),rgF [.int lo,.int hi,.int st] = .ok (rangeP lo hi st)) ∧
  (∀ (p:PV) (f:PV→R PV),(R.ok p).bind f=f p) ∧
  (∀ (p:PV) (f:PV→R (List PV)),(R.ok p).bind f=f p) ∧
  (∀ (p:PV) (f:PV→R Bool),(R.ok p).bind f=f p) ∧
  (∀ (p:PV) (f:PV→R (Option Int)),(R.ok p).bind f=f p) ∧
  (∀ (p:List PV) (f:List PV→R PV),(R.ok p).bind f=f p) ∧
  (∀ (p:List PV) (f:List PV→R (List PV)),(R.ok p).bind f=f p) ∧
  (∀ (p:Bool) (f:Bool→R PV),(R.ok p).bind f=f p) ∧
  (∀ (p:Bool) (f:Bool→R Bool),(R.ok p).bind f=f p) ∧
  (∀ (p:Option Int) (f:Option Int→R PV),(R.ok p).bind f=f p) ∧
  (∀ (c:Nat) (f:PV→R PV),(R.exc c:R PV).bind f = .exc c) ∧
  (∀ (c:Nat) (f:PV→R (List PV)),(R.exc c:R PV).bind f = .exc c) ∧
  (∀ (c:Nat) (f:PV→R Bool),(R.exc c:R PV).bind f = .exc c) ∧
  (∀ (c:Nat) (f:List PV→R PV),(R.exc c:R (List PV)).bind f = .exc c) ∧
  (∀ (c:Nat) (f:List PV→R (List PV)),(R.exc c:R (List PV)).bind f = .exc c) ∧
  (∀ (c:Nat) (f:Bool→R PV),(R.exc c:R Bool).bind f = .exc c) ∧
  (∀ (c:Nat) (f:Bool→R Bool),(R.exc c:R Bool).bind f = .exc c) ∧
  (∀ (ρ:MEnv),fin (.next ρ) = .ok .non) ∧
  (∀ (v:PV),fin (.ret v) = .ok v) ∧
  (∀ (c:Nat) (ρ:MEnv),fin (.exc c ρ) = .exc c) ∧
  (∀ (n:Nat) (b:FS) (a1:PV),runF (n+1) b [a1]=fin (b (some a1::List.replicate n none))) ∧
  (∀ (n:Nat) (b:FS) (a1 a2:PV),runF (n+2) b [a1,a2]=fin (b (some a1::some a2::List.replicate n none))) ∧
  (∀ (n:Nat) (b:FS) (a1 a2 a3:PV),runF (n+3) b [a1,a2,a3]=fin (b (some a1::some a2::some a3::List.replicate n none))) ∧
  (∀ (n:Nat) (b:FS) (a1 a2 a3 a4:PV),runF (n+4) b [a1,a2,a3,a4]=fin (b (some a1::some a2::some a3::some a4::List.replicate n none))) ∧
  (∀ (n:Nat) (b:FS) (a1 a2 a3 a4 a5:PV),runF (n+5) b [a1,a2,a3,a4,a5]=fin (b (some a1::some a2::some a3::some a4::some a5::List.replicate n none))) ∧
  (∀ (n:Nat) (b:FS) (a1 a2 a3 a4 a5 a6:PV),runF (n+6) b [a1,a2,a3,a4,a5,a6]=fin (b (some a1::some a2::some a3::some a4::some a5::some a6::List.replicate n none))) ∧
  (∀ (a b:Int) (h:okMul a b),oMul (.int a) (.int b) = .ok (.int (a*b))) ∧
  (∀ (a b:Int) (h:okDiv b),oDiv (.int a) (.int b) = .ok (.int (a / b))) ∧
  (∀ (a b:Int) (h:okMod b),oMod (.int a) (.int b) = .ok (.int (a % b))) ∧
  (∀ (a b:Int) (h:okPow a b),oPow (.int a) (.int b) = .ok (.int (powI a b))) ∧
  (∀ (a b:Int) (h:okShl a b),oShl (.int a) (.int b) = .ok (.int (a*p2 b))) ∧
  (∀ (a b:Int) (h:okShr b),oShr (.int a) (.int b) = .ok (.int (a / p2 b))) ∧
  (∀ (a b:Int),oAdd (.int a) (.int b) = .ok (.int (a+b))) ∧
  (∀ (a b:Int),oSub (.int a) (.int b) = .ok (.int (a - b))) ∧
  (∀ (a:Int),oNeg (.int a) = .ok (.int (-a))) ∧
  (∀ (a b:Int),oAnd (.int a) (.int b) = .ok (.int (Builtin.bitAnd a b))) ∧
  (∀ (a b:Int),oOr (.int a) (.int b) = .ok (.int (Builtin.bitOr a b))) ∧
  (∀ (a b:Int),oXor (.int a) (.int b) = .ok (.int (Builtin.bitXor a b))) ∧
  (∀ (a b:Int),cLt (.int a) (.int b) = .ok (.bl (decide (a<b)))) ∧
  (∀ (a b:Int),cLe (.int a) (.int b) = .ok (.bl (decide (a≤b)))) ∧
  (∀ (a b:Int),cGt (.int a) (.int b) = .ok (.bl (decide (b<a)))) ∧
  (∀ (a b:Int),cGe (.int a) (.int b) = .ok (.bl (decide (b≤a)))) ∧
  (∀ (a b:Int),cEq (.int a) (.int b) = .ok (.bl (decide (a=b)))) ∧
  (∀ (a b:Int),cNe (.int a) (.int b) = .ok (.bl (!decide (a=b)))) ∧
  (∀ (a b:Bool),cEq (.bl a) (.bl b) = .ok (.bl (a == b))) ∧
  (∀ (a b:Bool),cNe (.bl a) (.bl b) = .ok (.bl (!(a == b)))) ∧
  (∀ (a b:Str),cEq (.str a) (.str b) = .ok (.bl (a == b))) ∧
  (∀ (a b:Str),cNe (.str a) (.str b) = .ok (.bl (!(a == b)))) ∧
  (∀ (a b:List PV),cEq (.tup a) (.tup b)=if (a.all (cmpOkN 5) && b.all (cmpOkN 5)) then .ok (.bl (eqPVs a b)) else .stuck) ∧
  (∀ (a b:List PV),cNe (.tup a) (.tup b)=if (a.all (cmpOkN 5) && b.all (cmpOkN 5)) then .ok (.bl (!eqPVs a b)) else .stuck) ∧
  (∀ (a b:List PV),cEq (.lst a) (.lst b)=if (a.all (cmpOkN 5) && b.all (cmpOkN 5)) then .ok (.bl (eqPVs a b)) else .stuck) ∧
  (∀ (a b:List PV),cNe (.lst a) (.lst b)=if (a.all (cmpOkN 5) && b.all (cmpOkN 5)) then .ok (.bl (!eqPVs a b)) else .stuck) ∧
  (∀ (n:Nat) (i:Int),cmpOkN n (.int i)=true) ∧
  (∀ (n:Nat) (i:Bool),cmpOkN n (.bl i)=true) ∧
  (∀ (n:Nat) (i:Str),cmpOkN n (.str i)=true) ∧
  (∀ (n:Nat),cmpOkN n .non=true) ∧
  (∀ (n:Nat) (l:List PV),cmpOkN (n+1) (.tup l)=l.all (cmpOkN n)) ∧
  (∀ (n:Nat) (l:List PV),cmpOkN (n+1) (.lst l)=l.all (cmpOkN n)) ∧
  (eqPVs [] []=true) ∧
  (∀ (x y:PV) (xs ys:List PV),eqPVs (x::xs) (y::ys)=(eqPV x y && eqPVs xs ys)) ∧
  (∀ (x:PV) (xs:List PV),eqPVs (x::xs) []=false) ∧
  (∀ (x:PV) (xs:List PV),eqPVs [] (x::xs)=false) ∧
  (∀ (a b:Int),eqPV (.int a) (.int b)=decide (a=b)) ∧
  (∀ (a b:Bool),eqPV (.bl a) (.bl b)=(a == b)) ∧
  (∀ (a b:Str),eqPV (.str a) (.str b)=(a == b)) ∧
  (∀ (a b:List PV),eqPV (.tup a) (.tup b)=eqPVs a b) ∧
  (∀ (a b:List PV),eqPV (.lst a) (.lst b)=eqPVs a b) ∧
  (eqPV .non .non=true) ∧
  (∀ (l:List PV),bLen [.tup l] = .ok (.int l.length)) ∧
  (∀ (l:List PV),bLen [.lst l] = .ok (.int l.length)) ∧
  (∀ (i:Int),bAbs [.int i] = .ok (.int (if i<0 then -i else i))) ∧
  (∀ (i j:Int),bMin [.int i,.int j] = .ok (.int (if j<i then j else i))) ∧
  (∀ (i j:Int),bMax [.int i,.int j] = .ok (.int (if j > i then j else i))) ∧
  (∀ (i:Int),bInt [.int i] = .ok (.int i)) ∧
  (∀ (b:Bool),bInt [.bl b] = .ok (.int (if b then 1 else 0))) ∧
  (∀ (i:Int),bBitLength (.int i) = .ok (.int (nb i))) ∧
  (∀ (l:List PV),bList [.lst l] = .ok (.lst l)) ∧
  (∀ (l:List PV),bList [.tup l] = .ok (.lst l)) ∧
  (∀ (l:List PV),bTuple [.lst l] = .ok (.tup l)) ∧
  (∀ (l:List PV),bTuple [.tup l] = .ok (.tup l)) ∧
  (∀ (i:Int),isTy (.int i) .int=some true) ∧
  (∀ (i:Int),isTy (.int i) .bool=some false) ∧
  (∀ (i:Int),isTy (.int i) .str=some false) ∧
  (∀ (i:Int),isTy (.int i) .tuple=some false) ∧
  (∀ (i:Bool),isTy (.bl i) .int=some true) ∧
  (∀ (i:Bool),isTy (.bl i) .bool=some true) ∧
  (∀ (i:Bool),isTy (.bl i) .tuple=some false) ∧
  (∀ (i:Bool),isTy (.bl i) .str=some false) ∧
  (∀ (l:List PV),isTy (.tup l) .tuple=some true) ∧
  (∀ (l:List PV),isTy (.tup l) .int=some false) ∧
  (∀ (l:List PV),isTy (.tup l) .str=some false) ∧
  (∀ (l:List PV),isTy (.lst l) .int=some false) ∧
  (∀ (l:List PV),isTy (.lst l) .list=some true) ∧
  (∀ (l:List PV),isTy (.lst l) .tuple=some false) ∧
  (∀ (l:List PV),isTy (.lst l) .str=some false) ∧
  (∀ (x:Str),isTy (.str x) .int=some false) ∧
  (∀ (x:Str),isTy (.str x) .str=some true) ∧
  (∀ (x:Str),isTy (.str x) .tuple=some false) ∧
  (∀ (t:Ty),isTy .non t=some false) ∧
  (isTy .dic0 .int=some false) ∧
  (isTy .dic0 .str=some false) ∧
  (∀ (x:PV) (l:List PV),oItem (.tup (x::l)) (.int 0) = .ok x) ∧
  (∀ (x y:PV) (l:List PV),oItem (.tup (x::y::l)) (.int 1) = .ok y) ∧
  (∀ (x y z:PV) (l:List PV),oItem (.tup (x::y::z::l)) (.int 2) = .ok z) ∧
  (∀ (x:PV) (l:List PV),oItem (.lst (x::l)) (.int 0) = .ok x) ∧
  (∀ (x y:PV) (l:List PV),oItem (.lst (x::y::l)) (.int 1) = .ok y) ∧
  (∀ (x y z:PV) (l:List PV),oItem (.lst (x::y::z::l)) (.int 2) = .ok z) ∧
  (∀ (x0:Option PV) (ρ0:MEnv),sNext (x0::ρ0) = .next (x0::ρ0)) ∧
  (∀ (f g:FS) (x0:Option PV) (ρ0:MEnv),sSeq f g (x0::ρ0)=match f (x0::ρ0) with | .next ρ'=>g ρ' | o=>o) ∧
  (∀ (v:PV) (ρ:MEnv) (k:PV→SR),ofR (.ok v) ρ k=k v) ∧
  (∀ (c:Nat) (ρ:MEnv) (k:PV→SR),ofR (.exc c) ρ k = .exc c ρ) ∧
  (∀ (a:FE) (x0:Option PV) (ρ0:MEnv),sRet a (x0::ρ0)=ofR (a (x0::ρ0)) (x0::ρ0) fun v=>.ret v) ∧
  (∀ (a:FE) (x0:Option PV) (ρ0:MEnv),sExpr a (x0::ρ0)=ofR (a (x0::ρ0)) (x0::ρ0) fun _=>.next (x0::ρ0)) ∧
  (∀ (i:Nat) (a:FE) (x0:Option PV) (ρ0:MEnv),sSet i a (x0::ρ0)=ofR (a (x0::ρ0)) (x0::ρ0) fun v=>.next ((x0::ρ0).set i (some v))) ∧
  (∀ (t:FT) (f g:FS) (x0:Option PV) (ρ0:MEnv),sIf t f g (x0::ρ0)=match t (x0::ρ0) with | .ok c=>if c then f (x0::ρ0) else g (x0::ρ0) | .exc c=>.exc c (x0::ρ0) | .stuck=>.stuck) ∧
  (∀ (i:Nat) (it:FA) (body:FS) (x0:Option PV) (ρ0:MEnv),sFor i it body (x0::ρ0)=match it (x0::ρ0) with | .ok l=>forL i body l (x0::ρ0) | .exc c=>.exc c (x0::ρ0) | .stuck=>.stuck) ∧
  (∀ (x0:Option PV) (ρ0:MEnv),sBreak (x0::ρ0) = .brk (x0::ρ0)) ∧
  (∀ (x0:Option PV) (ρ0:MEnv),sCont (x0::ρ0) = .cont (x0::ρ0)) ∧
  (∀ (x0:Option PV) (ρ0:MEnv),sRetN (x0::ρ0) = .ret .non) ∧
  (∀ (c:Nat) (x0:Option PV) (ρ0:MEnv),sRaise c (x0::ρ0) = .exc c (x0::ρ0)) ∧
  (∀ (a:FE) (x0:Option PV) (ρ0:MEnv),iSeq a (x0::ρ0)=(a (x0::ρ0)).bind fun x=>match x with | .lst l=>.ok l | .tup l=>.ok l | _=>.stuck) ∧
  (∀ (i:Nat) (body:FS) (ρ:MEnv),forL i body [] ρ = .next ρ) ∧
  (∀ (i:Nat) (body:FS) (x:PV) (l:List PV) (ρ:MEnv),forL i body (x::l) ρ=match body (ρ.set i (some x)) with
    | .next ρ'=>forL i body l ρ'
    | .cont ρ'=>forL i body l ρ'
    | .brk ρ'=>.next ρ'
    | o=>o) ∧
  (∀ (x0:Option PV) (ρ0:MEnv),oNone (x0::ρ0) = .ok none) ∧
  (∀ (a:FE) (x0:Option PV) (ρ0:MEnv),oSome a (x0::ρ0)=(a (x0::ρ0)).bind fun x=>match x with | .int i=>.ok (some i) | _=>.stuck) ∧
  (∀ (a:FE) (l h:FO) (x0:Option PV) (ρ0:MEnv),fCut a l h (x0::ρ0)=(a (x0::ρ0)).bind fun x=>(l (x0::ρ0)).bind fun lo=>(h (x0::ρ0)).bind fun hi=>oCut x lo hi) ∧
  (∀ (l:List PV) (lo hi:Option Int),oCut (.lst l) lo hi = .ok (.lst (cutP l lo hi))) ∧
  (∀ (i:Int),isSmallI (.ok (.int i))=decide (i.natAbs<18446744073709551616)) ∧
  (∀ (k:MEnv→Bool) (c:Nat) (x0:Option PV) (ρ0:MEnv),sRaiseT k c (x0::ρ0)=if k (x0::ρ0) then .exc c (x0::ρ0) else .stuck) ∧
  (∀ (f:FS) (ks:List Nat) (d n x:Nat) (x0:Option PV) (ρ0:MEnv),sTryAs f ks d n x (x0::ρ0)=match f (x0::ρ0) with
  | .exc c ρ'=>if ks.contains c && under c d then .next (((ρ'.set n (some (.exc c))).set x (some (.exc c))).set n none) else .stuck
  | o=>o) ∧
  (∀ (ks:List Nat) (d:Nat) (a:FE) (x0:Option PV) (ρ0:MEnv),fIsExc ks d a (x0::ρ0)=(a (x0::ρ0)).bind fun x=>match x with
  | .exc c=>if ks.contains c then .ok (.bl (under c d)) else .stuck
  | .non=>.ok (.bl false)
  | _=>.stuck) ∧
  (∀ (ks:List Nat) (a:FE) (x0:Option PV) (ρ0:MEnv),fIsVal ks a (x0::ρ0)=(a (x0::ρ0)).bind fun x=>match x with
  | .exc c=>if ks.contains c then .ok (.bl true) else .stuck
  | .non=>.ok (.bl false)
  | _=>.stuck) :=
  ⟨@fVar_e,@getV_0,@getV_s,@asVal_int,@asVal_bl,@asVal_str,@asVal_non,@asVal_tup,@asVal_lst,@asVal_exc,@asVal_dic0,@fC_e,@fBin_e,@fUn_e,@oBool_e,@fAnd_e,@fOr_e,@fNot_e,@fChain_e,@fIf_e,@aNil_e,@aCons_e,@fTup_e,@fLst_e,@fCall_e,@fIsinst_e,@tVal_e,@truth_bl,@truth_int,@truth_non,@tAnd_e,@tOr_e,@tNot_e,@mkTup_1,@mkTup_2,@mkTup_3,@mkTup_4,@mkLst_0,@mkLst_1,@mkLst_2,@mkLst_3,@mkLst_4,@mkLst_5,@mkLst_6,@mkLst_7,@mkLst_8,@asVal_none,@iRange_e,@rg_1,@rg_2,@rg_3,@bind_ok,@bind_okl,@bind_okb,@bind_oko,@bindl_ok,@bindl_okl,@bindb_ok,@bindb_okb,@bindo_ok,@bind_exc,@bind_excl,@bind_excb,@bindl_exc,@bindl_excl,@bindb_exc,@bindb_excb,@fin_next,@fin_ret,@fin_exc,@run_1,@run_2,@run_3,@run_4,@run_5,@run_6,@oMul_i,@oDiv_i,@oMod_i,@oPow_i,@oShl_i,@oShr_i,@oAdd_i,@oSub_i,@oNeg_i,@oAnd_i,@oOr_i,@oXor_i,@cLt_i,@cLe_i,@cGt_i,@cGe_i,@cEq_i,@cNe_i,@cEq_b,@cNe_b,@cEq_s,@cNe_s,@cEq_tup,@cNe_tup,@cEq_lst,@cNe_lst,@cmpOkN_int,@cmpOkN_bl,@cmpOkN_str,@cmpOkN_non,@cmpOkN_tup,@cmpOkN_lst,@eqPVs_nil,@eqPVs_cons,@eqPVs_cn,@eqPVs_nc,@eqPV_i,@eqPV_b,@eqPV_s,@eqPV_t,@eqPV_l,@eqPV_n,@bLen_tup,@bLen_lst,@bAbs_i,@bMin_i,@bMax_i,@bInt_i,@bInt_b,@bBitLength_i,@bList_l,@bList_t,@bTuple_l,@bTuple_t,@isTy_int_i,@isTy_int_b,@isTy_int_s,@isTy_int_t,@isTy_bl_i,@isTy_bl_b,@isTy_bl_t,@isTy_bl_s,@isTy_tup_t,@isTy_tup_i,@isTy_tup_s,@isTy_lst_i,@isTy_lst_l,@isTy_lst_t,@isTy_lst_s,@isTy_str_i,@isTy_str_s,@isTy_str_t,@isTy_non,@isTy_dic_i,@isTy_dic_s,@oItem_t0,@oItem_t1,@oItem_t2,@oItem_l0,@oItem_l1,@oItem_l2,@sNext_e,@sSeq_e,@ofR_ok,@ofR_exc,@sRet_e,@sExpr_e,@sSet_e,@sIf_e,@sFor_e,@sBreak_e,@sCont_e,@sRetN_e,@sRaise_e,@iSeq_e,@forL_nil,@forL_cons,@oNone_e,@oSome_e,@fCut_e,@oCut_lst,@isSmallI_i,@sRaiseT_e,@sTryAs_e,@fIsExc_e,@fIsVal_e⟩
theorem p2_nat (n:Nat):p2 (n:Int)=2 ^ n:=rfl
theorem p2_pos (b:Int):0<p2 b:=Int.pow_pos (by decide)
theorem p2_0:p2 0=1:=rfl
theorem p2_1:p2 1=2:=rfl
theorem p2_add {a b:Int} (ha:0≤a) (hb:0≤b):p2 (a+b)=p2 a*p2 b:=by
  obtain ⟨m,rfl⟩:=Int.eq_ofNat_of_zero_le ha
  obtain ⟨n,rfl⟩:=Int.eq_ofNat_of_zero_le hb
  have e:((m:Int)+(n:Int))=((m+n:Nat):Int):=by omega
  rw [e,p2_nat,p2_nat,p2_nat,Int.pow_add]
theorem p2_succ {a:Int} (ha:0≤a):p2 (a+1)=2*p2 a:=by rw [p2_add ha (by decide),p2_1,Int.mul_comm]
theorem p2_le {a b:Int} (ha:0≤a) (h:a≤b):p2 a≤p2 b:=by
  have e:b=a+(b - a):=by omega
  rw [e,p2_add ha (by omega)]
  have h1:=p2_pos a
  have h2:=p2_pos (b - a)
  have:p2 a*1≤p2 a*p2 (b - a):=Int.mul_le_mul_of_nonneg_left (by omega) (by omega)
  omega
theorem p2_natAbs {b:Int} (hb:0≤b):(p2 b).natAbs=2 ^ b.toNat:=by
  show ((2:Int) ^ b.toNat).natAbs=_
  rw [Int.natAbs_pow];rfl
theorem nb_p2 {b:Int} (hb:0≤b):nb (p2 b)=b.toNat+1:=by
  have h0:p2 b≠0:=by have:=p2_pos b;omega
  show (if p2 b == 0 then 0 else (p2 b).natAbs.log2+1)=_
  rw [if_neg (by simpa using h0),p2_natAbs hb,Nat.log2_two_pow]
theorem nb_mul_le (a b:Int):nb (a*b)≤nb a+nb b:=by
  refine nb_le ?_
  have h1:=nb_lt (Nat.le_refl (nb a))
  have h2:=nb_lt (Nat.le_refl (nb b))
  rw [Int.natAbs_mul,Nat.pow_add]
  exact Nat.mul_lt_mul'' h1 h2
theorem nb_neg (a:Int):nb (-a)=nb a:=by
  show (if -a == 0 then 0 else (-a).natAbs.log2+1)=(if a == 0 then 0 else a.natAbs.log2+1)
  rw [Int.natAbs_neg]
  by_cases h:a=0
  · subst h;rfl
  · have h2 : -a≠0:=by omega
    rw [if_neg (by simpa using h2),if_neg (by simpa using h)]
theorem nb_0:nb 0=0:=rfl
theorem nb_pos {a:Int} (h:a≠0):1≤nb a:=by
  show 1≤(if a == 0 then 0 else a.natAbs.log2+1)
  rw [if_neg (by simpa using h)];omega
theorem nb_shl {a b:Int} (h:a≠0) (hb:0≤b):nb (a*p2 b)=nb a+b.toNat:=by
  have h1:a*p2 b≠0:=Int.mul_ne_zero h (by have:=p2_pos b;omega)
  show (if a*p2 b == 0 then 0 else (a*p2 b).natAbs.log2+1)=(if a == 0 then 0 else a.natAbs.log2+1)+_
  rw [if_neg (by simpa using h1),if_neg (by simpa using h),Int.natAbs_mul,p2_natAbs hb]
  have h2:a.natAbs≠0:=by omega
  have:(a.natAbs*2 ^ b.toNat).log2=a.natAbs.log2+b.toNat:=by
    refine Nat.le_antisymm ?_ ?_
    · have h3:a.natAbs<2 ^ (a.natAbs.log2+1):=Nat.lt_log2_self
      have h4:a.natAbs*2 ^ b.toNat<2 ^ (a.natAbs.log2+b.toNat+1):=by
        have e:2 ^ (a.natAbs.log2+b.toNat+1)=2 ^ (a.natAbs.log2+1)*2 ^ b.toNat:=by rw [← Nat.pow_add];congr 1;omega
        rw [e];exact Nat.mul_lt_mul_of_pos_right h3 (Nat.two_pow_pos _)
      have:=(Nat.log2_lt (by exact Nat.mul_ne_zero h2 (Nat.ne_of_gt (Nat.two_pow_pos _)))).mpr h4
      omega
    · have h3:2 ^ a.natAbs.log2≤a.natAbs:=Nat.log2_self_le h2
      refine (Nat.le_log2 (Nat.mul_ne_zero h2 (Nat.ne_of_gt (Nat.two_pow_pos _)))).mpr ?_
      rw [Nat.pow_add];exact Nat.mul_le_mul_right _ h3
  omega
theorem and_even (a b:Nat):(2*a) &&& (2*b+1)=2*(a &&& b):=by
  apply Nat.eq_of_testBit_eq
  intro i
  cases i with
  | zero=>simp
  | succ i =>
    rw [Nat.testBit_and,Nat.testBit_succ,Nat.testBit_succ,Nat.testBit_succ]
    have h1:2*a / 2=a:=by omega
    have h2:(2*b+1) / 2=b:=by omega
    have h3:2*(a &&& b) / 2=a &&& b:=by omega
    rw [h1,h2,h3,Nat.testBit_and]
theorem and_odd (j:Nat):(2*j+1) &&& (2*j)=2*j:=by
  apply Nat.eq_of_testBit_eq
  intro i
  cases i with
  | zero=>simp
  | succ i =>
    rw [Nat.testBit_and,Nat.testBit_succ,Nat.testBit_succ]
    have h1:2*j / 2=j:=by omega
    have h2:(2*j+1) / 2=j:=by omega
    rw [h1,h2,Bool.and_self]
theorem and_low (j:Nat):∀ t:Nat,((2*j+1)*2 ^ t) &&& ((2*j+1)*2 ^ t - 1)=2*j*2 ^ t
  | 0=>by simpa using and_odd j
  | t+1=>by
    have ih:=and_low j t
    have hp:0<(2*j+1)*2 ^ t:=Nat.mul_pos (by omega) (Nat.two_pow_pos t)
    have e1:(2*j+1)*2 ^ (t+1)=2*((2*j+1)*2 ^ t):=by rw [Nat.pow_succ];rw [Nat.mul_comm (2 ^ t) 2,← Nat.mul_assoc,← Nat.mul_assoc,Nat.mul_comm (2*j+1) 2]
    have e2:2*((2*j+1)*2 ^ t) - 1=2*((2*j+1)*2 ^ t - 1)+1:=by omega
    rw [e1,e2,and_even,ih,Nat.pow_succ,Nat.mul_comm (2 ^ t) 2]
    exact Nat.mul_left_comm 2 (2*j) (2 ^ t)
noncomputable def tz (n:Int):Int:=(nb (Builtin.bitAnd n (-n)):Int) - 1
theorem and_neg {a:Int}{t:Nat} (h:a % 2=1):Builtin.bitAnd (a*2 ^ t) (-(a*2 ^ t))=2 ^ t:=by
  have hp:(0:Int)<2 ^ t:=Int.pow_pos (by decide)
  have key:∀ j:Nat,((2*(j:Int)+1)*2 ^ t) - ((((2*(j:Int)+1)*2 ^ t).toNat &&& (((2*(j:Int)+1)*2 ^ t) - 1).toNat:Nat):Int)=2 ^ t:=by
    intro j
    have e1:((2*(j:Int)+1)*2 ^ t)=(((2*j+1)*2 ^ t:Nat):Int):=by push_cast;rfl
    have hq:0<(2*j+1)*2 ^ t:=Nat.mul_pos (by omega) (Nat.two_pow_pos t)
    have e2:((2*(j:Int)+1)*2 ^ t) - 1=(((2*j+1)*2 ^ t - 1:Nat):Int):=by rw [e1];omega
    rw [e2,e1,Int.toNat_natCast,Int.toNat_natCast,and_low]
    push_cast
    rw [Int.add_mul];omega
  by_cases hs:0≤a
  · obtain ⟨j,hj⟩:∃ j:Nat,a=2*(j:Int)+1:=⟨((a - 1) / 2).toNat,by omega⟩
    subst hj
    have h1:0≤(2*(j:Int)+1)*2 ^ t:=Int.mul_nonneg (by omega) (by omega)
    have h1':0<(2*(j:Int)+1)*2 ^ t:=Int.mul_pos (by omega) hp
    have h2:¬ 0≤-((2*(j:Int)+1)*2 ^ t):=by omega
    unfold Builtin.bitAnd
    rw [decide_eq_true h1,decide_eq_false h2]
    show _ - (((_:Nat) &&& (Builtin.bitNot _).toNat:Nat):Int)=_
    have e3:Builtin.bitNot (-((2*(j:Int)+1)*2 ^ t))=((2*(j:Int)+1)*2 ^ t) - 1:=by unfold Builtin.bitNot;omega
    rw [e3];exact key j
  · obtain ⟨j,hj⟩:∃ j:Nat,a = -(2*(j:Int)+1):=⟨((-a - 1) / 2).toNat,by omega⟩
    subst hj
    have e0 : -(2*(j:Int)+1)*2 ^ t = -((2*(j:Int)+1)*2 ^ t):=by rw [Int.neg_mul]
    rw [e0,Int.neg_neg]
    have h1:0≤(2*(j:Int)+1)*2 ^ t:=Int.mul_nonneg (by omega) (by omega)
    have h1':0<(2*(j:Int)+1)*2 ^ t:=Int.mul_pos (by omega) hp
    have h2:¬ 0≤-((2*(j:Int)+1)*2 ^ t):=by omega
    unfold Builtin.bitAnd
    rw [decide_eq_true h1,decide_eq_false h2]
    show _ - (((_:Nat) &&& (Builtin.bitNot _).toNat:Nat):Int)=_
    have e3:Builtin.bitNot (-((2*(j:Int)+1)*2 ^ t))=((2*(j:Int)+1)*2 ^ t) - 1:=by unfold Builtin.bitNot;omega
    rw [e3];exact key j
theorem tz_of {a t:Int} (h:a % 2=1) (ht:0≤t):tz (a*p2 t)=t:=by
  unfold tz
  have e:Builtin.bitAnd (a*p2 t) (-(a*p2 t))=p2 t:=and_neg (t:=t.toNat) h
  rw [e,nb_p2 ht];omega
theorem odd_form:∀ (m:Nat) (n:Int),n.natAbs≤m→n≠0→∃ a t,0≤t∧a % 2=1∧n=a*p2 t
  | 0,n,h,h0=>by omega
  | m+1,n,h,h0=>by
    by_cases hp:n % 2=1
    · exact ⟨n,0,by decide,hp,by rw [p2_0];omega⟩
    · obtain ⟨a,t,ht,ha,e⟩:=odd_form m (n / 2) (by omega) (by omega)
      refine ⟨a,t+1,by omega,ha,?_⟩
      rw [p2_succ ht,Int.mul_comm 2,← Int.mul_assoc,← e];omega
theorem tz_spec {n:Int} (h:n≠0):0≤tz n∧(n / p2 (tz n)) % 2=1∧n / p2 (tz n)*p2 (tz n)=n:=by
  obtain ⟨a,t,ht,ha,e⟩:=odd_form _ n (Nat.le_refl _) h
  have e1:tz n=t:=by rw [e];exact tz_of ha ht
  have e2:n / p2 t=a:=by rw [e];exact Int.mul_ediv_cancel _ (by have:=p2_pos t;omega)
  rw [e1,e2]
  exact ⟨ht,ha,e.symm⟩
theorem odd_unique {a b s t:Int} (ha:a % 2=1) (hb:b % 2=1) (hs:0≤s) (ht:0≤t) (e:a*p2 s=b*p2 t):a=b∧s=t:=by
  have e1:s=t:=by
    have h1:=tz_of ha hs
    rw [e,tz_of hb ht] at h1;exact h1.symm
  subst e1
  exact ⟨Int.eq_of_mul_eq_mul_right (by have:=p2_pos s;omega) e,rfl⟩
end Mi
local macro_rules | `(tactic| dsimp! [$l,*])=>`(tactic| simp only [Mi.ev,Mi.evl,Mi.okw,Mi.powI,Int.reduceLT,Int.reduceLE,Int.reduceNeg,Int.reduceAdd,Int.reduceSub,Int.reduceMul,Int.reducePow,Int.reduceToNat,Nat.reduceAdd,Nat.reduceSub,ne_eq,not_false_eq_true,not_true_eq_false,Int.reduceEq,reduceCtorEq,$l,*])
namespace Cm
open PySem Mi
noncomputable def z7v:FS:=sRet (fAnd (fIsinst .int (fVar 0)) (fNot (fIsinst .bool (fVar 0))))
noncomputable def z59:List PV→R PV:=runF 1 z7v
noncomputable def z65:FS:=sSeq (sIf (tVal (fBin cLt (fVar 1) (fCall bLen (aCons (fVar 0) (aNil))))) (sRet (fBin oItem (fVar 0) (fVar 1))) (sNext)) (sRet (fC (.int 0)))
noncomputable def z32:List PV→R PV:=runF 2 z65
noncomputable def z7k:FS:=sRet (fAnd (fIsinst .int (fVar 0)) (fNot (fIsinst .bool (fVar 0))))
noncomputable def z36:List PV→R PV:=runF 1 z7k
noncomputable def z7w:FS:=sRet (fAnd (fCall z59 (aCons (fVar 0) (aNil))) (fChain cLe cLe (fVar 1) (fVar 0) (fVar 2)))
noncomputable def zy:List PV→R PV:=runF 3 z7w
noncomputable def z8d:FS:=sSeq (sIf (tNot (tVal (fCall zy (aCons (fVar 0) (aCons (fC (.int 2)) (aCons (fC (.int 11)) (aNil))))))) (sRaiseT (fun ρ=>(fun _=>true) ρ && (fun ρ=>(fun ρ=>isSmallI ((fC (.int 2)) ρ)) ρ && (fun ρ=>(fun _=>true) ρ && (fun ρ=>(fun ρ=>isSmallI ((fC (.int 11)) ρ)) ρ && (fun _=>true) ρ) ρ) ρ) ρ) 1) (sNext)) (sSeq (sIf (tNot (tVal (fCall zy (aCons (fVar 1) (aCons (fC (.int 1)) (aCons (fC (.int 60)) (aNil))))))) (sRaiseT (fun ρ=>(fun _=>true) ρ && (fun ρ=>(fun ρ=>isSmallI ((fC (.int 1)) ρ)) ρ && (fun ρ=>(fun _=>true) ρ && (fun ρ=>(fun ρ=>isSmallI ((fC (.int 60)) ρ)) ρ && (fun _=>true) ρ) ρ) ρ) ρ) 1) (sNext)) (sRet (fTup (aCons (fVar 0) (aCons (fVar 1) (aNil))))))
noncomputable def z2y:List PV→R PV:=runF 2 z8d
noncomputable def z7p:FS:=sSeq (sIf (tOr (tNot (tVal (fIsinst .tuple (fVar 0)))) (tVal (fBin cNe (fCall bLen (aCons (fVar 0) (aNil))) (fC (.int 2))))) (sRaiseT (fun _=>true) 1) (sNext)) (sExpr (fCall z2y (aCons (fBin oItem (fVar 0) (fC (.int 0))) (aCons (fBin oItem (fVar 0) (fC (.int 1))) (aNil)))))
noncomputable def z9:List PV→R PV:=runF 1 z7p
noncomputable def z80:FS:=sSeq (sExpr (fCall z9 (aCons (fVar 0) (aNil)))) (sRet (fBin oShl (fC (.int 1)) (fBin oAdd (fBin oAdd (fC (.int 1)) (fBin oItem (fVar 0) (fC (.int 0)))) (fBin oItem (fVar 0) (fC (.int 1))))))
noncomputable def z3v:List PV→R PV:=runF 1 z80
noncomputable def z7n:FS:=sSeq (sExpr (fCall z9 (aCons (fVar 0) (aNil)))) (sRet (fBin oSub (fBin oShl (fC (.int 1)) (fBin oSub (fBin oItem (fVar 0) (fC (.int 0))) (fC (.int 1)))) (fC (.int 1))))
noncomputable def z2q:List PV→R PV:=runF 1 z7n
noncomputable def z7z:FS:=sRet (fBin oSub (fBin oSub (fC (.int 1)) (fCall z2q (aCons (fVar 0) (aNil)))) (fBin oItem (fVar 0) (fC (.int 1))))
noncomputable def z1q:List PV→R PV:=runF 1 z7z
noncomputable def z7m:FS:=sRet (fBin oSub (fBin oShl (fC (.int 1)) (fVar 0)) (fC (.int 1)))
noncomputable def zo:List PV→R PV:=runF 1 z7m
noncomputable def z7o:FS:=sIf (tNot (tVal (fCall zy (aCons (fVar 0) (aCons (fC (.int 0)) (aCons (fCall zo (aCons (fVar 1) (aNil))) (aNil))))))) (sRaiseT (fun ρ=>(fun _=>true) ρ && (fun ρ=>(fun ρ=>isSmallI ((fVar 1) ρ)) ρ && (fun ρ=>(fun _=>true) ρ && (fun _=>true) ρ) ρ) ρ) 2) (sNext)
noncomputable def z2r:List PV→R PV:=runF 2 z7o
noncomputable def z7x:FS:=sSeq (sExpr (fCall z9 (aCons (fVar 0) (aNil)))) (sSeq (sExpr (fCall z2r (aCons (fVar 1) (aCons (fC (.int 1)) (aNil))))) (sSeq (sExpr (fCall z2r (aCons (fVar 2) (aCons (fBin oItem (fVar 0) (fC (.int 0))) (aNil))))) (sSeq (sExpr (fCall z2r (aCons (fVar 3) (aCons (fBin oItem (fVar 0) (fC (.int 1))) (aNil))))) (sRet (fBin oAdd (fBin oAdd (fBin oShl (fVar 1) (fBin oAdd (fBin oItem (fVar 0) (fC (.int 0))) (fBin oItem (fVar 0) (fC (.int 1))))) (fBin oShl (fVar 2) (fBin oItem (fVar 0) (fC (.int 1))))) (fVar 3))))))
noncomputable def z2v:List PV→R PV:=runF 4 z7x
noncomputable def z7q:FS:=sIf (tNot (tVal (fCall zy (aCons (fVar 1) (aCons (fC (.int 0)) (aCons (fBin oSub (fCall z3v (aCons (fVar 0) (aNil))) (fC (.int 1))) (aNil))))))) (sRaiseT (fun _=>true) 2) (sNext)
noncomputable def zp:List PV→R PV:=runF 2 z7q
noncomputable def zaz:FS:=sSeq (sExpr (fCall zp (aCons (fVar 0) (aCons (fVar 1) (aNil))))) (sSeq (sSet 2 (fBin oShr (fVar 1) (fBin oAdd (fBin oItem (fVar 0) (fC (.int 0))) (fBin oItem (fVar 0) (fC (.int 1)))))) (sSeq (sSet 3 (fBin oAnd (fBin oShr (fVar 1) (fBin oItem (fVar 0) (fC (.int 1)))) (fCall zo (aCons (fBin oItem (fVar 0) (fC (.int 0))) (aNil))))) (sSeq (sSet 4 (fBin oAnd (fVar 1) (fCall zo (aCons (fBin oItem (fVar 0) (fC (.int 1))) (aNil))))) (sRet (fTup (aCons (fVar 2) (aCons (fVar 3) (aCons (fVar 4) (aNil)))))))))
noncomputable def zba:List PV→R PV:=runF 5 zaz
noncomputable def z7s:FS:=sRet (fBin oShl (fC (.int 1)) (fBin oSub (fBin oItem (fVar 0) (fC (.int 1))) (fC (.int 1))))
noncomputable def z2u:List PV→R PV:=runF 1 z7s
noncomputable def z81:FS:=sSeq (sExpr (fCall z9 (aCons (fVar 0) (aNil)))) (sRet (fCall z2v (aCons (fVar 0) (aCons (fC (.int 0)) (aCons (fCall zo (aCons (fBin oItem (fVar 0) (fC (.int 0))) (aNil))) (aCons (fCall z2u (aCons (fVar 0) (aNil))) (aNil)))))))
noncomputable def z1i:List PV→R PV:=runF 1 z81
noncomputable def z4c:FS:=sSeq (sSet 2 (fCall zba (aCons (fVar 0) (aCons (fVar 1) (aNil))))) (sSeq (sSet 3 (fBin oItem (fVar 2) (fC (.int 1)))) (sSeq (sSet 4 (fBin oItem (fVar 2) (fC (.int 2)))) (sSeq (sIf (tVal (fBin cEq (fVar 3) (fC (.int 0)))) (sRet (fIf (tVal (fBin cEq (fVar 4) (fC (.int 0)))) (fC (.str "nought")) (fC (.str "small")))) (sNext)) (sSeq (sIf (tVal (fBin cLt (fVar 3) (fCall zo (aCons (fBin oItem (fVar 0) (fC (.int 0))) (aNil))))) (sRet (fC (.str "plain"))) (sNext)) (sSeq (sIf (tVal (fBin cEq (fVar 4) (fC (.int 0)))) (sRet (fC (.str "endless"))) (sNext)) (sRet (fIf (tVal (fBin cGe (fVar 4) (fCall z2u (aCons (fVar 0) (aNil))))) (fC (.str "still")) (fC (.str "loud")))))))))
noncomputable def zg:List PV→R PV:=runF 5 z4c
noncomputable def z83:FS:=sRet (fBin oShl (fC (.int 1)) (fBin oAdd (fBin oItem (fVar 0) (fC (.int 0))) (fBin oItem (fVar 0) (fC (.int 1)))))
noncomputable def z27:List PV→R PV:=runF 1 z83
noncomputable def z8b:FS:=sSeq (sExpr (fCall zp (aCons (fVar 0) (aCons (fVar 1) (aNil))))) (sRet (fBin oXor (fVar 1) (fCall z27 (aCons (fVar 0) (aNil)))))
noncomputable def z19:List PV→R PV:=runF 2 z8b
noncomputable def z8c:FS:=sSeq (sExpr (fCall zp (aCons (fVar 0) (aCons (fVar 1) (aNil))))) (sRet (fBin oAnd (fVar 1) (fBin oSub (fCall z27 (aCons (fVar 0) (aNil))) (fC (.int 1)))))
noncomputable def z1x:List PV→R PV:=runF 2 z8c
noncomputable def z6e:FS:=sSeq (sIf (tVal (fBin cEq (fVar 0) (fC (.int 0)))) (sRet (fTup (aCons (fC (.int 0)) (aCons (fC (.int 0)) (aNil))))) (sNext)) (sSeq (sSet 2 (fBin oSub (fUn bBitLength (fBin oAnd (fVar 0) (fUn oNeg (fVar 0)))) (fC (.int 1)))) (sRet (fTup (aCons (fBin oShr (fVar 0) (fVar 2)) (aCons (fBin oAdd (fVar 1) (fVar 2)) (aNil))))))
noncomputable def z5:List PV→R PV:=runF 3 z6e
noncomputable def z6p:FS:=sRet (fBin oShl (fBin oItem (fVar 0) (fC (.int 0))) (fBin oSub (fBin oItem (fVar 0) (fC (.int 1))) (fVar 1)))
noncomputable def z1v:List PV→R PV:=runF 2 z6p
noncomputable def z7l:FS:=sSeq (sSet 2 (fCall bMin (aCons (fBin oItem (fVar 0) (fC (.int 1))) (aCons (fBin oItem (fVar 1) (fC (.int 1))) (aNil))))) (sRet (fCall z5 (aCons (fBin oAdd (fCall z1v (aCons (fVar 0) (aCons (fVar 2) (aNil)))) (fCall z1v (aCons (fVar 1) (aCons (fVar 2) (aNil))))) (aCons (fVar 2) (aNil)))))
noncomputable def z2p:List PV→R PV:=runF 3 z7l
noncomputable def z4d:FS:=sRet (fCall z5 (aCons (fBin oMul (fBin oItem (fVar 0) (fC (.int 0))) (fBin oItem (fVar 1) (fC (.int 0)))) (aCons (fBin oAdd (fBin oItem (fVar 0) (fC (.int 1))) (fBin oItem (fVar 1) (fC (.int 1)))) (aNil))))
noncomputable def z18:List PV→R PV:=runF 2 z4d
noncomputable def z7t:FS:=sSeq (sSet 2 (fCall bMin (aCons (fBin oItem (fVar 0) (fC (.int 1))) (aCons (fBin oItem (fVar 1) (fC (.int 1))) (aNil))))) (sRet (fBin cLt (fCall z1v (aCons (fVar 0) (aCons (fVar 2) (aNil)))) (fCall z1v (aCons (fVar 1) (aCons (fVar 2) (aNil))))))
noncomputable def z3s:List PV→R PV:=runF 3 z7t
noncomputable def z69:FS:=sSeq (sSet 1 (fBin oMod (fBin oMul (fVar 0) (fC (.int 48271))) (fC (.int 999983)))) (sSeq (sIf (tVal (fBin cEq (fBin oMod (fVar 1) (fC (.int 2))) (fC (.int 1)))) (sRet (fTup (aCons (fBin oAdd (fC (.int 2)) (fBin oMod (fBin oDiv (fVar 1) (fC (.int 2))) (fC (.int 3)))) (aCons (fBin oAdd (fC (.int 1)) (fBin oMod (fBin oDiv (fVar 1) (fC (.int 6))) (fC (.int 4)))) (aNil))))) (sNext)) (sRet (fTup (aCons (fBin oAdd (fC (.int 2)) (fBin oMod (fBin oDiv (fVar 1) (fC (.int 2))) (fC (.int 10)))) (aCons (fBin oAdd (fC (.int 1)) (fBin oMod (fBin oDiv (fVar 1) (fC (.int 20))) (fC (.int 60)))) (aNil))))))
noncomputable def z37:List PV→R PV:=runF 2 z69
noncomputable def z5q:FS:=sSeq (sSet 2 (fCall zg (aCons (fVar 0) (aCons (fVar 1) (aNil))))) (sSeq (sIf (tVal (fBin cNotIn (fVar 2) (fTup (aCons (fC (.str "nought")) (aCons (fC (.str "small")) (aCons (fC (.str "plain")) (aNil))))))) (sRaiseT (fun _=>true) 4) (sNext)) (sSeq (sSet 3 (fCall zba (aCons (fVar 0) (aCons (fVar 1) (aNil))))) (sSeq (sSet 4 (fBin oItem (fVar 3) (fC (.int 2)))) (sSeq (sSet 5 (fCall z1q (aCons (fVar 0) (aNil)))) (sSeq (sIf (tVal (fBin cEq (fVar 2) (fC (.str "plain")))) (sSeq (sSet 4 (fBin oAdd (fVar 4) (fBin oShl (fC (.int 1)) (fBin oItem (fVar 0) (fC (.int 1)))))) (sSet 5 (fBin oSub (fBin oAdd (fVar 5) (fBin oItem (fVar 3) (fC (.int 1)))) (fC (.int 1))))) (sNext)) (sRet (fCall z5 (aCons (fIf (tVal (fBin cEq (fBin oItem (fVar 3) (fC (.int 0))) (fC (.int 1)))) (fUn oNeg (fVar 4)) (fVar 4)) (aCons (fVar 5) (aNil))))))))))
noncomputable def zk:List PV→R PV:=runF 6 z5q
noncomputable def z6b:FS:=sRet (fIf (tVal (fBin cGe (fVar 1) (fC (.int 0)))) (fTup (aCons (fBin oShl (fVar 0) (fVar 1)) (aCons (fVar 2) (aNil)))) (fTup (aCons (fVar 0) (aCons (fBin oShl (fVar 2) (fUn oNeg (fVar 1))) (aNil)))))
noncomputable def z24:List PV→R PV:=runF 3 z6b
noncomputable def z6f:FS:=sSeq (sIf (tVal (fBin cEq (fVar 0) (fC (.int 0)))) (sRaiseT (fun _=>true) 4) (sNext)) (sSeq (sSet 3 (fCall bAbs (aCons (fVar 0) (aNil)))) (sSeq (sSet 4 (fBin oSub (fUn bBitLength (fVar 3)) (fUn bBitLength (fVar 2)))) (sSeq (sSet 5 (fCall z24 (aCons (fVar 3) (aCons (fUn oNeg (fVar 4)) (aCons (fVar 2) (aNil)))))) (sSeq (sIf (tVal (fBin cLt (fBin oItem (fVar 5) (fC (.int 0))) (fBin oItem (fVar 5) (fC (.int 1))))) (sSet 4 (fBin oSub (fVar 4) (fC (.int 1)))) (sNext)) (sRet (fBin oAdd (fVar 4) (fVar 1)))))))
noncomputable def z2t:List PV→R PV:=runF 6 z6f
noncomputable def z4b:FS:=sSeq (sSet 4 (fCall z24 (aCons (fCall bAbs (aCons (fVar 0) (aNil))) (aCons (fBin oSub (fVar 1) (fVar 3)) (aCons (fVar 2) (aNil)))))) (sSeq (sSet 5 (fBin oDiv (fBin oItem (fVar 4) (fC (.int 0))) (fBin oItem (fVar 4) (fC (.int 1))))) (sSeq (sSet 6 (fBin oMul (fC (.int 2)) (fBin oSub (fBin oItem (fVar 4) (fC (.int 0))) (fBin oMul (fVar 5) (fBin oItem (fVar 4) (fC (.int 1))))))) (sSeq (sIf (tVal (fBin cEq (fVar 6) (fC (.int 0)))) (sRet (fTup (aCons (fVar 5) (aCons (fC (.int 0)) (aNil))))) (sNext)) (sSeq (sIf (tVal (fBin cLt (fVar 6) (fBin oItem (fVar 4) (fC (.int 1))))) (sRet (fTup (aCons (fVar 5) (aCons (fC (.int 1)) (aNil))))) (sNext)) (sRet (fTup (aCons (fVar 5) (aCons (fIf (tVal (fBin cEq (fVar 6) (fBin oItem (fVar 4) (fC (.int 1))))) (fC (.int 2)) (fC (.int 3))) (aNil)))))))))
noncomputable def z1p:List PV→R PV:=runF 7 z4b
noncomputable def z5k:FS:=sSeq (sSet 4 (fCall z5 (aCons (fVar 0) (aCons (fVar 1) (aNil))))) (sSeq (sSet 5 (fCall z18 (aCons (fVar 3) (aCons (fCall z5 (aCons (fVar 2) (aCons (fC (.int 0)) (aNil)))) (aNil))))) (sSeq (sIf (tVal (fBin cEq (fVar 4) (fVar 5))) (sRet (fC (.int 0))) (sNext)) (sRet (fIf (tVal (fCall z3s (aCons (fVar 4) (aCons (fVar 5) (aNil))))) (fUn oNeg (fC (.int 1))) (fC (.int 1))))))
noncomputable def z15:List PV→R PV:=runF 6 z5k
noncomputable def z7r:FS:=sSeq (sExpr (fCall z9 (aCons (fVar 0) (aNil)))) (sRet (fCall z2v (aCons (fVar 0) (aCons (fC (.int 0)) (aCons (fCall zo (aCons (fBin oItem (fVar 0) (fC (.int 0))) (aNil))) (aCons (fC (.int 0)) (aNil)))))))
noncomputable def z7:List PV→R PV:=runF 1 z7r
noncomputable def z6t:FS:=sRet (fIf (tVal (fVar 2)) (fCall z19 (aCons (fVar 0) (aCons (fVar 1) (aNil)))) (fVar 1))
noncomputable def zd:List PV→R PV:=runF 3 z6t
noncomputable def z6l:FS:=sSeq (sIf (tVal (fBin cIn (fCall zg (aCons (fVar 0) (aCons (fVar 1) (aNil)))) (fTup (aCons (fC (.str "still")) (aCons (fC (.str "loud")) (aNil)))))) (sRet (fC .non)) (sNext)) (sSeq (sSet 2 (fCall z1x (aCons (fVar 0) (aCons (fVar 1) (aNil))))) (sRet (fIf (tVal (fBin cEq (fBin oItem (fCall zba (aCons (fVar 0) (aCons (fVar 1) (aNil)))) (fC (.int 0))) (fC (.int 1)))) (fUn oNeg (fVar 2)) (fVar 2))))
noncomputable def zb:List PV→R PV:=runF 3 z6l
noncomputable def z8e:FS:=sSeq (sSet 2 (fCall z7 (aCons (fVar 0) (aNil)))) (sSeq (sIf (tNot (tVal (fCall zy (aCons (fVar 1) (aCons (fUn oNeg (fVar 2)) (aCons (fVar 2) (aNil))))))) (sRaiseT (fun _=>true) 4) (sNext)) (sRet (fCall zd (aCons (fVar 0) (aCons (fCall bAbs (aCons (fVar 1) (aNil))) (aCons (fBin cLt (fVar 1) (fC (.int 0))) (aNil)))))))
noncomputable def z12:List PV→R PV:=runF 3 z8e
noncomputable def z92:FS:=sRet (fOr (fBin cEq (fVar 2) (fC (.int 3))) (fAnd (fBin cEq (fVar 2) (fC (.int 2))) (fVar 1)))
noncomputable def z71:List PV→R PV:=runF 4 z92
noncomputable def z90:FS:=sRet (fBin cGe (fVar 2) (fC (.int 2)))
noncomputable def z6z:List PV→R PV:=runF 4 z90
noncomputable def z93:FS:=sRet (fC (.bl false))
noncomputable def z72:List PV→R PV:=runF 4 z93
noncomputable def z94:FS:=sRet (fNot (fVar 3))
noncomputable def z73:List PV→R PV:=runF 4 z94
noncomputable def z91:FS:=sRet (fVar 3)
noncomputable def z70:List PV→R PV:=runF 4 z91
noncomputable def z3d:List (Nat×(List PV→R PV)):=[(21,z71),(22,z6z),(23,z72),(24,z73),(25,z70)]
noncomputable def z95:FS:=sSeq (sIf (tVal (fBin cEq (fVar 0) (fC (.str "even")))) (sRet (fMake 21)) (sNext)) (sSeq (sIf (tVal (fBin cEq (fVar 0) (fC (.str "away")))) (sRet (fMake 22)) (sNext)) (sSeq (sIf (tVal (fBin cEq (fVar 0) (fC (.str "in")))) (sRet (fMake 23)) (sNext)) (sSeq (sIf (tVal (fBin cEq (fVar 0) (fC (.str "up")))) (sRet (fMake 24)) (sNext)) (sSeq (sIf (tVal (fBin cEq (fVar 0) (fC (.str "down")))) (sRet (fMake 25)) (sNext)) (sRaiseT (fun _=>true) 3)))))
noncomputable def z1y:List PV→R PV:=runF 1 z95
noncomputable def z6q:FS:=sSeq (sSet 3 (fAnd (fBin cNe (fBin oItem (fVar 1) (fC (.int 1))) (fC (.int 0))) (fMeth z3d (fVar 0) (aCons (fBin cEq (fBin oMod (fBin oItem (fVar 1) (fC (.int 0))) (fC (.int 2))) (fC (.int 1))) (aCons (fBin oItem (fVar 1) (fC (.int 1))) (aCons (fVar 2) (aNil))))))) (sRet (fIf (tVal (fVar 3)) (fBin oAdd (fBin oItem (fVar 1) (fC (.int 0))) (fC (.int 1))) (fBin oItem (fVar 1) (fC (.int 0)))))
noncomputable def z39:List PV→R PV:=runF 4 z6q
noncomputable def z5n:FS:=sSeq (sIf (tVal (fBin cEq (fVar 2) (fC (.int 0)))) (sRet (fC (.int 0))) (sNext)) (sRet (fIf (tVal (fBin cLt (fVar 1) (fBin oSub (fC (.int 1)) (fCall z2q (aCons (fVar 0) (aNil)))))) (fBin oAdd (fC (.int 16)) (fC (.int 8))) (fC (.int 16))))
noncomputable def z2w:List PV→R PV:=runF 3 z5n
noncomputable def z6n:FS:=sRet (fCall bMax (aCons (fBin oSub (fVar 1) (fBin oItem (fVar 0) (fC (.int 1)))) (aCons (fCall z1q (aCons (fVar 0) (aNil))) (aNil))))
noncomputable def z1u:List PV→R PV:=runF 2 z6n
noncomputable def z5o:FS:=sSeq (sSet 5 (fCall z7 (aCons (fVar 0) (aNil)))) (sSeq (sSet 6 (fBin oSub (fCall z1u (aCons (fVar 0) (aCons (fVar 3) (aNil)))) (fCall z1q (aCons (fVar 0) (aNil))))) (sSeq (sSet 7 (fBin oAdd (fBin oShl (fVar 6) (fBin oItem (fVar 0) (fC (.int 1)))) (fCall z39 (aCons (fVar 1) (aCons (fVar 4) (aCons (fVar 2) (aNil))))))) (sSeq (sIf (tVal (fBin cLt (fVar 7) (fVar 5))) (sRet (fTup (aCons (fCall zd (aCons (fVar 0) (aCons (fVar 7) (aCons (fVar 2) (aNil))))) (aCons (fCall z2w (aCons (fVar 0) (aCons (fVar 3) (aCons (fBin oItem (fVar 4) (fC (.int 1))) (aNil))))) (aNil))))) (sNext)) (sSeq (sSet 7 (fIf (tVal (fMeth z3d (fVar 1) (aCons (fC (.bl true)) (aCons (fC (.int 3)) (aCons (fVar 2) (aNil)))))) (fVar 5) (fBin oSub (fVar 5) (fC (.int 1))))) (sRet (fTup (aCons (fCall zd (aCons (fVar 0) (aCons (fVar 7) (aCons (fVar 2) (aNil))))) (aCons (fBin oAdd (fC (.int 4)) (fC (.int 16))) (aNil)))))))))
noncomputable def z2x:List PV→R PV:=runF 8 z5o
noncomputable def z6r:FS:=sSeq (sExpr (fCall z9 (aCons (fVar 0) (aNil)))) (sSeq (sSet 5 (fCall z1y (aCons (fVar 4) (aNil)))) (sSeq (sIf (tVal (fBin cEq (fVar 1) (fC (.int 0)))) (sRet (fTup (aCons (fC (.int 0)) (aCons (fC (.int 0)) (aNil))))) (sNext)) (sSeq (sSet 6 (fCall z2t (aCons (fVar 1) (aCons (fVar 2) (aCons (fVar 3) (aNil)))))) (sSeq (sSet 7 (fCall z1p (aCons (fVar 1) (aCons (fVar 2) (aCons (fVar 3) (aCons (fCall z1u (aCons (fVar 0) (aCons (fVar 6) (aNil)))) (aNil))))))) (sRet (fCall z2x (aCons (fVar 0) (aCons (fVar 5) (aCons (fBin cLt (fVar 1) (fC (.int 0))) (aCons (fVar 6) (aCons (fVar 7) (aNil))))))))))))
noncomputable def zh:List PV→R PV:=runF 8 z6r
noncomputable def z6h:FS:=sRet (fAnd (fBin cEq (fBin oItem (fVar 0) (fC (.int 0))) (fC (.str "number"))) (fBin cEq (fBin oItem (fVar 0) (fC (.int 2))) (fC (.tup [.int 0,.int 0]))))
noncomputable def q_is_nought:List PV→R PV:=runF 1 z6h
noncomputable def z30:FS:=sSeq (sSet 2 (fCall zg (aCons (fVar 0) (aCons (fVar 1) (aNil))))) (sSeq (sIf (tVal (fBin cEq (fVar 2) (fC (.str "loud")))) (sRet (fC (.tup [.str "wrong",.bl false,.tup [.int 0,.int 0]]))) (sNext)) (sSeq (sIf (tVal (fBin cEq (fVar 2) (fC (.str "still")))) (sRet (fC (.tup [.str "none",.bl false,.tup [.int 0,.int 0]]))) (sNext)) (sSeq (sSet 3 (fBin cEq (fBin oItem (fCall zba (aCons (fVar 0) (aCons (fVar 1) (aNil)))) (fC (.int 0))) (fC (.int 1)))) (sSeq (sIf (tVal (fBin cEq (fVar 2) (fC (.str "endless")))) (sRet (fTup (aCons (fC (.str "endless")) (aCons (fVar 3) (aCons (fC (.tup [.int 0,.int 0])) (aNil)))))) (sNext)) (sRet (fTup (aCons (fC (.str "number")) (aCons (fVar 3) (aCons (fCall zk (aCons (fVar 0) (aCons (fCall z1x (aCons (fVar 0) (aCons (fVar 1) (aNil)))) (aNil)))) (aNil))))))))))
noncomputable def zc:List PV→R PV:=runF 4 z30
noncomputable def zr:FS:=sSeq (sSet 3 (fCall zc (aCons (fVar 0) (aCons (fVar 1) (aNil))))) (sSeq (sSet 4 (fCall zc (aCons (fVar 0) (aCons (fVar 2) (aNil))))) (sSeq (sSet 5 (fTup (aCons (fBin oItem (fVar 3) (fC (.int 0))) (aCons (fBin oItem (fVar 4) (fC (.int 0))) (aNil))))) (sSeq (sIf (tVal (fBin cIn (fC (.str "wrong")) (fVar 5))) (sRet (fC (.tup [.str "wrong",.bl false,.tup [.int 0,.int 0]]))) (sNext)) (sSeq (sIf (tVal (fBin cIn (fC (.str "none")) (fVar 5))) (sRet (fC (.tup [.str "none",.bl false,.tup [.int 0,.int 0]]))) (sNext)) (sSeq (sSet 6 (fBin cNe (fBin oItem (fVar 3) (fC (.int 1))) (fBin oItem (fVar 4) (fC (.int 1))))) (sSeq (sIf (tVal (fBin cNotIn (fC (.str "endless")) (fVar 5))) (sRet (fTup (aCons (fC (.str "number")) (aCons (fVar 6) (aCons (fCall z18 (aCons (fBin oItem (fVar 3) (fC (.int 2))) (aCons (fBin oItem (fVar 4) (fC (.int 2))) (aNil)))) (aNil)))))) (sNext)) (sSeq (sIf (tOr (tVal (fCall q_is_nought (aCons (fVar 3) (aNil)))) (tVal (fCall q_is_nought (aCons (fVar 4) (aNil))))) (sRet (fC (.tup [.str "wrong",.bl false,.tup [.int 0,.int 0]]))) (sNext)) (sRet (fTup (aCons (fC (.str "endless")) (aCons (fVar 6) (aCons (fC (.tup [.int 0,.int 0])) (aNil)))))))))))))
noncomputable def za:List PV→R PV:=runF 7 zr
noncomputable def z82:FS:=sSeq (sSet 2 (fComp 3 (iSeq (fVar 1)) (tTrue) (fBin oItem (fVar 3) (fC (.int 0))))) (sSeq (sIf (tVal (fBin cIn (fC (.str "wrong")) (fVar 2))) (sRet (fTup (aCons (fCall z1i (aCons (fVar 0) (aNil))) (aCons (fC (.int 1)) (aNil))))) (sNext)) (sSeq (sIf (tVal (fBin cIn (fC (.str "none")) (fVar 2))) (sRet (fTup (aCons (fCall z1i (aCons (fVar 0) (aNil))) (aCons (fC (.int 0)) (aNil))))) (sNext)) (sRet (fC .non))))
noncomputable def z1r:List PV→R PV:=runF 3 z82
noncomputable def z3h:FS:=sSeq (sSet 4 (fBin cNe (fBin oItem (fVar 1) (fC (.int 1))) (fBin oItem (fVar 2) (fC (.int 1))))) (sSeq (sIf (tVal (fBin cEq (fBin oItem (fVar 1) (fC (.int 0))) (fC (.str "endless")))) (sRet (fTup (aCons (fCall zd (aCons (fVar 0) (aCons (fCall z7 (aCons (fVar 0) (aNil))) (aCons (fVar 4) (aNil))))) (aCons (fC (.int 0)) (aNil))))) (sNext)) (sSeq (sIf (tOr (tVal (fBin cEq (fBin oItem (fVar 2) (fC (.int 0))) (fC (.str "endless")))) (tVal (fCall q_is_nought (aCons (fVar 1) (aNil))))) (sRet (fTup (aCons (fCall zd (aCons (fVar 0) (aCons (fC (.int 0)) (aCons (fVar 4) (aNil))))) (aCons (fC (.int 0)) (aNil))))) (sNext)) (sSeq (sIf (tVal (fCall q_is_nought (aCons (fVar 2) (aNil)))) (sRet (fTup (aCons (fCall zd (aCons (fVar 0) (aCons (fCall z7 (aCons (fVar 0) (aNil))) (aCons (fVar 4) (aNil))))) (aCons (fC (.int 2)) (aNil))))) (sNext)) (sSeq (sSet 5 (fBin oItem (fBin oItem (fVar 1) (fC (.int 2))) (fC (.int 0)))) (sRet (fCall zh (aCons (fVar 0) (aCons (fIf (tVal (fVar 4)) (fUn oNeg (fVar 5)) (fVar 5)) (aCons (fBin oSub (fBin oItem (fBin oItem (fVar 1) (fC (.int 2))) (fC (.int 1))) (fBin oItem (fBin oItem (fVar 2) (fC (.int 2))) (fC (.int 1)))) (aCons (fBin oItem (fBin oItem (fVar 2) (fC (.int 2))) (fC (.int 0))) (aCons (fVar 3) (aNil))))))))))))
noncomputable def z26:List PV→R PV:=runF 6 z3h
noncomputable def z3g:FS:=sSeq (sSet 4 (fCall zc (aCons (fVar 0) (aCons (fVar 1) (aNil))))) (sSeq (sSet 5 (fCall zc (aCons (fVar 0) (aCons (fVar 2) (aNil))))) (sSeq (sExpr (fCall z1y (aCons (fVar 3) (aNil)))) (sSeq (sSet 6 (fCall z1r (aCons (fVar 0) (aCons (fLst (aCons (fVar 4) (aCons (fVar 5) (aNil)))) (aNil))))) (sSeq (sIf (tVal (fUn cNotN (fVar 6))) (sRet (fVar 6)) (sNext)) (sSeq (sSet 7 (fAnd (fBin cEq (fBin oItem (fVar 4) (fC (.int 0))) (fC (.str "endless"))) (fBin cEq (fBin oItem (fVar 5) (fC (.int 0))) (fC (.str "endless"))))) (sSeq (sIf (tOr (tVal (fVar 7)) (tAnd (tVal (fCall q_is_nought (aCons (fVar 4) (aNil)))) (tVal (fCall q_is_nought (aCons (fVar 5) (aNil)))))) (sRet (fTup (aCons (fCall z1i (aCons (fVar 0) (aNil))) (aCons (fC (.int 1)) (aNil))))) (sNext)) (sRet (fCall z26 (aCons (fVar 0) (aCons (fVar 4) (aCons (fVar 5) (aCons (fVar 3) (aNil)))))))))))))
noncomputable def zz:List PV→R PV:=runF 8 z3g
noncomputable def z7u:FS:=sSeq (sSet 2 (fComp 3 (iSeq (fVar 0)) (tTrue) (fBin oItem (fVar 3) (fC (.int 1))))) (sSeq (sIf (tVal (fCall bAll (aCons (fComp 3 (iSeq (fVar 0)) (tTrue) (fCall (noX q_is_nought) (aCons (fVar 3) (aNil)))) (aNil)))) (sSeq (sIf (tNot (tVal (fCall bAny (aCons (fVar 2) (aNil))))) (sRet (fC (.bl false))) (sNext)) (sIf (tVal (fCall bAll (aCons (fVar 2) (aNil)))) (sRet (fC (.bl true))) (sNext))) (sNext)) (sRet (fBin cEq (fVar 1) (fC (.str "down")))))
noncomputable def z3t:List PV→R PV:=runF 3 z7u
noncomputable def z2a:FS:=sSeq (sSet 3 (fBin oItem (fVar 2) (fC (.int 2)))) (sSet 1 (fCall z2p (aCons (fVar 1) (aCons (fIf (tVal (fBin oItem (fVar 2) (fC (.int 1)))) (fTup (aCons (fUn oNeg (fBin oItem (fVar 3) (fC (.int 0)))) (aCons (fBin oItem (fVar 3) (fC (.int 1))) (aNil)))) (fVar 3)) (aNil)))))
noncomputable def z8a:FS:=sSeq (sSet 1 (fC (.tup [.int 0,.int 0]))) (sSeq (sFor 2 (iSeq (fVar 0)) (z2a)) (sRet (fVar 1)))
noncomputable def z41:List PV→R PV:=runF 4 z8a
noncomputable def z6d:FS:=sSeq (sIf (tAnd (tVal (fCall bAny (aCons (fVar 1) (aNil)))) (tNot (tVal (fCall bAll (aCons (fVar 1) (aNil)))))) (sRet (fTup (aCons (fCall z1i (aCons (fVar 0) (aNil))) (aCons (fC (.int 1)) (aNil))))) (sNext)) (sRet (fTup (aCons (fCall zd (aCons (fVar 0) (aCons (fCall z7 (aCons (fVar 0) (aNil))) (aCons (fCall bAll (aCons (fVar 1) (aNil))) (aNil))))) (aCons (fC (.int 0)) (aNil)))))
noncomputable def z2s:List PV→R PV:=runF 2 z6d
noncomputable def z4a:FS:=sSeq (sExpr (fCall z9 (aCons (fVar 0) (aNil)))) (sSeq (sExpr (fCall z1y (aCons (fVar 2) (aNil)))) (sSeq (sSet 3 (fCall z1r (aCons (fVar 0) (aCons (fVar 1) (aNil))))) (sSeq (sIf (tVal (fUn cNotN (fVar 3))) (sRet (fVar 3)) (sNext)) (sSeq (sSet 4 (fComp 6 (iSeq (fVar 1)) (tVal (fBin cEq (fBin oItem (fVar 6) (fC (.int 0))) (fC (.str "endless")))) (fBin oItem (fVar 6) (fC (.int 1))))) (sSeq (sIf (tVal (fVar 4)) (sRet (fCall z2s (aCons (fVar 0) (aCons (fVar 4) (aNil))))) (sNext)) (sSeq (sSet 5 (fCall z41 (aCons (fVar 1) (aNil)))) (sSeq (sIf (tVal (fBin cEq (fVar 5) (fC (.tup [.int 0,.int 0])))) (sRet (fTup (aCons (fCall zd (aCons (fVar 0) (aCons (fC (.int 0)) (aCons (fCall z3t (aCons (fVar 1) (aCons (fVar 2) (aNil)))) (aNil))))) (aCons (fC (.int 0)) (aNil))))) (sNext)) (sRet (fCall zh (aCons (fVar 0) (aCons (fBin oItem (fVar 5) (fC (.int 0))) (aCons (fBin oItem (fVar 5) (fC (.int 1))) (aCons (fC (.int 1)) (aCons (fVar 2) (aNil)))))))))))))))
noncomputable def zj:List PV→R PV:=runF 6 z4a
noncomputable def z6k:FS:=sRet (fCall zj (aCons (fVar 0) (aCons (fLst (aCons (fCall zc (aCons (fVar 0) (aCons (fVar 1) (aNil)))) (aCons (fCall zc (aCons (fVar 0) (aCons (fVar 2) (aNil)))) (aNil)))) (aCons (fVar 3) (aNil)))))
noncomputable def z10:List PV→R PV:=runF 4 z6k
noncomputable def z6i:FS:=sRet (fCall z10 (aCons (fVar 0) (aCons (fVar 1) (aCons (fCall z19 (aCons (fVar 0) (aCons (fVar 2) (aNil)))) (aCons (fVar 3) (aNil))))))
noncomputable def z25:List PV→R PV:=runF 4 z6i
noncomputable def z6s:FS:=sRet (fCall zj (aCons (fVar 0) (aCons (fLst (aCons (fCall za (aCons (fVar 0) (aCons (fVar 1) (aCons (fVar 2) (aNil))))) (aNil))) (aCons (fVar 3) (aNil)))))
noncomputable def z3a:List PV→R PV:=runF 4 z6s
noncomputable def z67:FS:=sSeq (sSet 2 (fBin oShl (fC (.int 1)) (fBin oAdd (fBin oItem (fVar 0) (fC (.int 0))) (fBin oItem (fVar 0) (fC (.int 1)))))) (sSeq (sIf (tVal (fBin cGe (fVar 1) (fVar 2))) (sRet (fBin oSub (fVar 2) (fVar 1))) (sNext)) (sRet (fVar 1)))
noncomputable def z4:List PV→R PV:=runF 3 z67
noncomputable def z6a:FS:=sSeq (sIf (tVal (fBin cLt (fVar 1) (fC (.int 0)))) (sRet (fBin oSub (fBin oShl (fC (.int 1)) (fBin oAdd (fBin oItem (fVar 0) (fC (.int 0))) (fBin oItem (fVar 0) (fC (.int 1))))) (fVar 1))) (sNext)) (sRet (fVar 1))
noncomputable def z2o:List PV→R PV:=runF 2 z6a
noncomputable def z47:FS:=sSeq (sSet 2 (fCall bAbs (aCons (fVar 1) (aNil)))) (sSeq (sIf (tVal (fBin cGe (fVar 2) (fBin oShl (fC (.int 1)) (fBin oItem (fVar 0) (fC (.int 1)))))) (sSet 2 (fBin oShl (fBin oAdd (fBin oMod (fVar 2) (fBin oShl (fC (.int 1)) (fBin oItem (fVar 0) (fC (.int 1))))) (fBin oShl (fC (.int 1)) (fBin oItem (fVar 0) (fC (.int 1))))) (fBin oSub (fBin oShr (fVar 2) (fBin oItem (fVar 0) (fC (.int 1)))) (fC (.int 1))))) (sNext)) (sSeq (sIf (tVal (fBin cLt (fVar 1) (fC (.int 0)))) (sRet (fBin oSub (fC (.int 0)) (fVar 2))) (sNext)) (sRet (fVar 2))))
noncomputable def zw:List PV→R PV:=runF 3 z47
noncomputable def z6m:FS:=sSeq (sSet 3 (fCall zb (aCons (fVar 0) (aCons (fVar 1) (aNil))))) (sSeq (sSet 4 (fCall zb (aCons (fVar 0) (aCons (fVar 2) (aNil))))) (sSeq (sSet 5 (fCall z7 (aCons (fVar 0) (aNil)))) (sSeq (sIf (tOr (tVal (fUn cIsN (fVar 3))) (tOr (tVal (fUn cIsN (fVar 4))) (tOr (tVal (fBin cGt (fVar 3) (fVar 4))) (tOr (tVal (fBin cEq (fVar 3) (fVar 5))) (tVal (fBin cEq (fVar 4) (fUn oNeg (fVar 5)))))))) (sRaiseT (fun _=>true) 7) (sNext)) (sRet (fTup (aCons (fCall z12 (aCons (fVar 0) (aCons (fVar 3) (aNil)))) (aCons (fCall z12 (aCons (fVar 0) (aCons (fVar 4) (aNil)))) (aNil))))))))
noncomputable def zx:List PV→R PV:=runF 6 z6m
noncomputable def z89:FS:=sSeq (sSet 3 (fCall bMin1 (aCons (fComp 5 (iSeq (fVar 1)) (tTrue) (fCall (noX zb) (aCons (fVar 0) (aCons (fVar 5) (aNil))))) (aNil)))) (sSeq (sSet 4 (fCall bMax1 (aCons (fComp 5 (iSeq (fVar 2)) (tTrue) (fCall (noX zb) (aCons (fVar 0) (aCons (fVar 5) (aNil))))) (aNil)))) (sRet (fTup (aCons (fCall z12 (aCons (fVar 0) (aCons (fVar 3) (aNil)))) (aCons (fCall z12 (aCons (fVar 0) (aCons (fVar 4) (aNil)))) (aNil))))))
noncomputable def z11:List PV→R PV:=runF 5 z89
noncomputable def z48:FS:=sIf (tOr (tNot (tVal (fIsinst .tuple (fVar 2)))) (tVal (fBin cNe (fCall bLen (aCons (fVar 2) (aNil))) (fC (.int 2))))) (sRaiseT (fun _=>true) 7) (sNext)
noncomputable def z49:FS:=sSeq (sExpr (fCall zp (aCons (fVar 0) (aCons (fBin oItem (fVar 2) (fC (.int 0))) (aNil))))) (sExpr (fCall zp (aCons (fVar 0) (aCons (fBin oItem (fVar 2) (fC (.int 1))) (aNil)))))
noncomputable def z6c:FS:=sSeq (sFor 2 (iSeq (fVar 1)) (z48)) (sSeq (sFor 2 (iSeq (fVar 1)) (z49)) (sRet (fComp 3 (iSeq (fVar 1)) (tTrue) (fCall (noX zx) (aCons (fVar 0) (aCons (fBin oItem (fVar 3) (fC (.int 0))) (aCons (fBin oItem (fVar 3) (fC (.int 1))) (aNil))))))))
noncomputable def zi:List PV→R PV:=runF 3 z6c
noncomputable def z87:FS:=sSeq (sSet 3 (fCall zi (aCons (fVar 0) (aCons (fLst (aCons (fVar 1) (aCons (fVar 2) (aNil)))) (aNil))))) (sSeq (sSet 4 (fBin oItem (fCall z10 (aCons (fVar 0) (aCons (fBin oItem (fBin oItem (fVar 3) (fC (.int 0))) (fC (.int 0))) (aCons (fBin oItem (fBin oItem (fVar 3) (fC (.int 1))) (fC (.int 0))) (aCons (fC (.str "down")) (aNil)))))) (fC (.int 0)))) (sSeq (sSet 5 (fBin oItem (fCall z10 (aCons (fVar 0) (aCons (fBin oItem (fBin oItem (fVar 3) (fC (.int 0))) (fC (.int 1))) (aCons (fBin oItem (fBin oItem (fVar 3) (fC (.int 1))) (fC (.int 1))) (aCons (fC (.str "up")) (aNil)))))) (fC (.int 0)))) (sRet (fCall z11 (aCons (fVar 0) (aCons (fLst (aCons (fVar 4) (aNil))) (aCons (fLst (aCons (fVar 5) (aNil))) (aNil))))))))
noncomputable def z3z:List PV→R PV:=runF 6 z87
noncomputable def z85:FS:=sSeq (sSet 3 (fCall zi (aCons (fVar 0) (aCons (fLst (aCons (fVar 1) (aCons (fVar 2) (aNil)))) (aNil))))) (sSeq (sSet 4 (fBin oItem (fCall z25 (aCons (fVar 0) (aCons (fBin oItem (fBin oItem (fVar 3) (fC (.int 0))) (fC (.int 0))) (aCons (fBin oItem (fBin oItem (fVar 3) (fC (.int 1))) (fC (.int 1))) (aCons (fC (.str "down")) (aNil)))))) (fC (.int 0)))) (sSeq (sSet 5 (fBin oItem (fCall z25 (aCons (fVar 0) (aCons (fBin oItem (fBin oItem (fVar 3) (fC (.int 0))) (fC (.int 1))) (aCons (fBin oItem (fBin oItem (fVar 3) (fC (.int 1))) (fC (.int 0))) (aCons (fC (.str "up")) (aNil)))))) (fC (.int 0)))) (sRet (fCall z11 (aCons (fVar 0) (aCons (fLst (aCons (fVar 4) (aNil))) (aCons (fLst (aCons (fVar 5) (aNil))) (aNil))))))))
noncomputable def z3x:List PV→R PV:=runF 6 z85
noncomputable def z6j:FS:=sRet (fLst (aCons (fTup (aCons (fBin oItem (fVar 0) (fC (.int 0))) (aCons (fBin oItem (fVar 1) (fC (.int 0))) (aNil)))) (aCons (fTup (aCons (fBin oItem (fVar 0) (fC (.int 0))) (aCons (fBin oItem (fVar 1) (fC (.int 1))) (aNil)))) (aCons (fTup (aCons (fBin oItem (fVar 0) (fC (.int 1))) (aCons (fBin oItem (fVar 1) (fC (.int 0))) (aNil)))) (aCons (fTup (aCons (fBin oItem (fVar 0) (fC (.int 1))) (aCons (fBin oItem (fVar 1) (fC (.int 1))) (aNil)))) (aNil))))))
noncomputable def z1s:List PV→R PV:=runF 2 z6j
noncomputable def z66:FS:=sSeq (sSet 2 (fBin oShl (fBin oSub (fBin oShl (fC (.int 1)) (fBin oItem (fVar 0) (fC (.int 0)))) (fC (.int 1))) (fBin oItem (fVar 0) (fC (.int 1))))) (sSeq (sSet 3 (fBin oSub (fBin oShl (fC (.int 1)) (fBin oSub (fBin oItem (fVar 0) (fC (.int 0))) (fC (.int 1)))) (fC (.int 1)))) (sSeq (sSet 4 (fLst (aCons (fC (.int 0)) (aCons (fVar 2) (aCons (fBin oSub (fVar 2) (fC (.int 1))) (aCons (fBin oShl (fVar 3) (fBin oItem (fVar 0) (fC (.int 1)))) (aCons (fBin oSub (fC (.int 0)) (fVar 2)) (aCons (fBin oSub (fC (.int 0)) (fBin oShl (fVar 3) (fBin oItem (fVar 0) (fC (.int 1))))) (aCons (fBin oShl (fBin oSub (fVar 3) (fC (.int 1))) (fBin oItem (fVar 0) (fC (.int 1)))) (aCons (fC (.int 1)) (aNil))))))))))) (sSeq (sIf (tVal (fBin cEq (fBin oMod (fBin oDiv (fVar 1) (fC (.int 8))) (fC (.int 3))) (fC (.int 0)))) (sRet (fBin oSub (fBin oAdd (fBin oItem (fVar 4) (fBin oMod (fVar 1) (fC (.int 8)))) (fBin oMod (fBin oDiv (fVar 1) (fC (.int 24))) (fC (.int 3)))) (fC (.int 1)))) (sNext)) (sRet (fBin oSub (fBin oMod (fBin oDiv (fVar 1) (fC (.int 64))) (fBin oAdd (fBin oMul (fC (.int 2)) (fVar 2)) (fC (.int 1)))) (fVar 2))))))
noncomputable def z2n:List PV→R PV:=runF 5 z66
noncomputable def z68:FS:=sSeq (sSet 3 (fBin oShl (fBin oSub (fBin oShl (fC (.int 1)) (fBin oItem (fVar 0) (fC (.int 0)))) (fC (.int 1))) (fBin oItem (fVar 0) (fC (.int 1))))) (sSeq (sSet 4 (fCall z2n (aCons (fVar 0) (aCons (fVar 1) (aNil))))) (sSeq (sSet 5 (fCall z2n (aCons (fVar 0) (aCons (fVar 2) (aNil))))) (sSeq (sIf (tVal (fBin cEq (fBin oMod (fBin oDiv (fVar 2) (fC (.int 8))) (fC (.int 3))) (fC (.int 1)))) (sSet 5 (fBin oSub (fBin oAdd (fVar 4) (fBin oMod (fVar 2) (fC (.int 17)))) (fC (.int 8)))) (sNext)) (sSeq (sSet 6 (fCall bMax (aCons (fCall bMin (aCons (fVar 4) (aCons (fVar 5) (aNil)))) (aCons (fBin oSub (fC (.int 0)) (fVar 3)) (aNil))))) (sSeq (sSet 7 (fCall bMin (aCons (fCall bMax (aCons (fVar 4) (aCons (fVar 5) (aNil)))) (aCons (fVar 3) (aNil))))) (sRet (fTup (aCons (fCall bMin (aCons (fVar 6) (aCons (fBin oSub (fVar 3) (fC (.int 1))) (aNil)))) (aCons (fCall bMax (aCons (fVar 7) (aCons (fBin oSub (fC (.int 1)) (fVar 3)) (aNil)))) (aNil))))))))))
noncomputable def z35:List PV→R PV:=runF 8 z68
noncomputable def z5m:FS:=sSeq (sIf (tOr (tVal (fBin cEq (fBin oItem (fVar 1) (fC (.int 0))) (fC (.int 0)))) (tVal (fBin cEq (fBin oItem (fVar 1) (fC (.int 1))) (fC (.int 0))))) (sRet (fC (.int 0))) (sNext)) (sRet (fBin oItem (fCall z3a (aCons (fVar 0) (aCons (fBin oItem (fVar 1) (fC (.int 0))) (aCons (fBin oItem (fVar 1) (fC (.int 1))) (aCons (fVar 2) (aNil)))))) (fC (.int 0))))
noncomputable def z1g:List PV→R PV:=runF 3 z5m
noncomputable def z88:FS:=sSeq (sSet 3 (fCall zi (aCons (fVar 0) (aCons (fLst (aCons (fVar 1) (aCons (fVar 2) (aNil)))) (aNil))))) (sSeq (sSet 4 (fCall z1s (aCons (fBin oItem (fVar 3) (fC (.int 0))) (aCons (fBin oItem (fVar 3) (fC (.int 1))) (aNil))))) (sSeq (sSet 5 (fComp 7 (iSeq (fVar 4)) (tTrue) (fCall (noX z1g) (aCons (fVar 0) (aCons (fVar 7) (aCons (fC (.str "down")) (aNil))))))) (sSeq (sSet 6 (fComp 7 (iSeq (fVar 4)) (tTrue) (fCall (noX z1g) (aCons (fVar 0) (aCons (fVar 7) (aCons (fC (.str "up")) (aNil))))))) (sRet (fCall z11 (aCons (fVar 0) (aCons (fVar 5) (aCons (fVar 6) (aNil)))))))))
noncomputable def z40:List PV→R PV:=runF 7 z88
noncomputable def z6g:FS:=sRet (fBin cEq (fCall zg (aCons (fVar 0) (aCons (fVar 1) (aNil)))) (fC (.str "endless")))
noncomputable def z17:List PV→R PV:=runF 2 z6g
noncomputable def z5l:FS:=sSeq (sIf (tAnd (tVal (fCall z17 (aCons (fVar 0) (aCons (fBin oItem (fVar 1) (fC (.int 0))) (aNil))))) (tVal (fCall z17 (aCons (fVar 0) (aCons (fBin oItem (fVar 1) (fC (.int 1))) (aNil)))))) (sRet (fC (.int 0))) (sNext)) (sRet (fBin oItem (fCall zz (aCons (fVar 0) (aCons (fBin oItem (fVar 1) (fC (.int 0))) (aCons (fBin oItem (fVar 1) (fC (.int 1))) (aCons (fVar 2) (aNil)))))) (fC (.int 0))))
noncomputable def z16:List PV→R PV:=runF 3 z5l
noncomputable def z5p:FS:=sSeq (sSet 3 (fCall zi (aCons (fVar 0) (aCons (fLst (aCons (fVar 1) (aCons (fVar 2) (aNil)))) (aNil))))) (sSeq (sIf (tVal (fChain cLe cLe (fCall zb (aCons (fVar 0) (aCons (fBin oItem (fBin oItem (fVar 3) (fC (.int 1))) (fC (.int 0))) (aNil)))) (fC (.int 0)) (fCall zb (aCons (fVar 0) (aCons (fBin oItem (fBin oItem (fVar 3) (fC (.int 1))) (fC (.int 1))) (aNil)))))) (sRet (fTup (aCons (fCall z19 (aCons (fVar 0) (aCons (fCall z7 (aCons (fVar 0) (aNil))) (aNil)))) (aCons (fCall z7 (aCons (fVar 0) (aNil))) (aNil))))) (sNext)) (sSeq (sSet 4 (fCall z1s (aCons (fBin oItem (fVar 3) (fC (.int 0))) (aCons (fBin oItem (fVar 3) (fC (.int 1))) (aNil))))) (sSeq (sSet 5 (fComp 7 (iSeq (fVar 4)) (tTrue) (fCall (noX z16) (aCons (fVar 0) (aCons (fVar 7) (aCons (fC (.str "down")) (aNil))))))) (sSeq (sSet 6 (fComp 7 (iSeq (fVar 4)) (tTrue) (fCall (noX z16) (aCons (fVar 0) (aCons (fVar 7) (aCons (fC (.str "up")) (aNil))))))) (sRet (fCall z11 (aCons (fVar 0) (aCons (fVar 5) (aCons (fVar 6) (aNil))))))))))
noncomputable def z28:List PV→R PV:=runF 7 z5p
noncomputable def z86:FS:=sRet (fCall zx (aCons (fVar 0) (aCons (fBin oItem (fCall zh (aCons (fVar 0) (aCons (fVar 1) (aCons (fVar 2) (aCons (fVar 3) (aCons (fC (.str "down")) (aNil))))))) (fC (.int 0))) (aCons (fBin oItem (fCall zh (aCons (fVar 0) (aCons (fVar 1) (aCons (fVar 2) (aCons (fVar 3) (aCons (fC (.str "up")) (aNil))))))) (fC (.int 0))) (aNil)))))
noncomputable def z3y:List PV→R PV:=runF 4 z86
noncomputable def z2z:FS:=sSeq (sSet 5 (fBin oItem (fCall zi (aCons (fVar 0) (aCons (fLst (aCons (fVar 1) (aNil))) (aNil)))) (fC (.int 0)))) (sSeq (sSet 6 (fOr (fCall z17 (aCons (fVar 0) (aCons (fBin oItem (fVar 5) (fC (.int 0))) (aNil)))) (fBin cGe (fCall z15 (aCons (fVar 2) (aCons (fVar 3) (aCons (fVar 4) (aCons (fCall zk (aCons (fVar 0) (aCons (fBin oItem (fVar 5) (fC (.int 0))) (aNil)))) (aNil)))))) (fC (.int 0))))) (sSeq (sSet 7 (fOr (fCall z17 (aCons (fVar 0) (aCons (fBin oItem (fVar 5) (fC (.int 1))) (aNil)))) (fBin cLe (fCall z15 (aCons (fVar 2) (aCons (fVar 3) (aCons (fVar 4) (aCons (fCall zk (aCons (fVar 0) (aCons (fBin oItem (fVar 5) (fC (.int 1))) (aNil)))) (aNil)))))) (fC (.int 0))))) (sRet (fAnd (fVar 6) (fVar 7)))))
noncomputable def z1h:List PV→R PV:=runF 8 z2z
noncomputable def z3e:FS:=sSeq (sSet 4 (fBin oSub (fBin oSub (fBin oSub (fC (.int 2)) (fBin oShl (fC (.int 1)) (fBin oSub (fBin oItem (fVar 0) (fC (.int 0))) (fC (.int 1))))) (fBin oItem (fVar 0) (fC (.int 1)))) (fC (.int 8)))) (sSeq (sIf (tVal (fBin cEq (fVar 1) (fC (.int 0)))) (sRet (fTup (aCons (fBin oAdd (fVar 2) (fVar 3)) (aCons (fVar 4) (aCons (fC (.int 1)) (aNil)))))) (sNext)) (sSeq (sIf (tVal (fBin cEq (fVar 1) (fC (.int 1)))) (sRet (fTup (aCons (fBin oSub (fVar 2) (fVar 3)) (aCons (fVar 4) (aCons (fC (.int 1)) (aNil)))))) (sNext)) (sSeq (sIf (tVal (fBin cEq (fVar 1) (fC (.int 2)))) (sRet (fTup (aCons (fBin oMul (fVar 2) (fVar 3)) (aCons (fBin oMul (fC (.int 2)) (fVar 4)) (aCons (fC (.int 1)) (aNil)))))) (sNext)) (sSeq (sIf (tVal (fBin cLt (fVar 3) (fC (.int 0)))) (sRet (fTup (aCons (fBin oSub (fC (.int 0)) (fVar 2)) (aCons (fC (.int 0)) (aCons (fBin oSub (fC (.int 0)) (fVar 3)) (aNil)))))) (sNext)) (sRet (fTup (aCons (fVar 2) (aCons (fC (.int 0)) (aCons (fVar 3) (aNil))))))))))
noncomputable def z1f:List PV→R PV:=runF 5 z3e
noncomputable def z46:FS:=sSeq (sSet 3 (fBin oShl (fBin oSub (fBin oShl (fC (.int 1)) (fBin oItem (fVar 0) (fC (.int 0)))) (fC (.int 1))) (fBin oItem (fVar 0) (fC (.int 1))))) (sSeq (sSet 4 (fBin oShl (fCall zw (aCons (fVar 0) (aCons (fBin oItem (fVar 1) (fC (.int 0))) (aNil)))) (fC (.int 8)))) (sSeq (sSet 5 (fBin oShl (fCall zw (aCons (fVar 0) (aCons (fBin oItem (fVar 1) (fC (.int 1))) (aNil)))) (fC (.int 8)))) (sSeq (sIf (tVal (fBin cEq (fBin oItem (fVar 1) (fC (.int 0))) (fBin oSub (fC (.int 0)) (fVar 3)))) (sSet 4 (fBin oSub (fCall bMin (aCons (fVar 5) (aCons (fC (.int 0)) (aNil)))) (fBin oShl (fCall zw (aCons (fVar 0) (aCons (fVar 3) (aNil)))) (fC (.int 9))))) (sNext)) (sSeq (sIf (tVal (fBin cEq (fBin oItem (fVar 1) (fC (.int 1))) (fVar 3))) (sSet 5 (fBin oAdd (fCall bMax (aCons (fVar 4) (aCons (fC (.int 0)) (aNil)))) (fBin oShl (fCall zw (aCons (fVar 0) (aCons (fVar 3) (aNil)))) (fC (.int 9))))) (sNext)) (sRet (fBin oAdd (fVar 4) (fBin oDiv (fBin oMul (fBin oSub (fVar 5) (fVar 4)) (fBin oMod (fVar 2) (fC (.int 257)))) (fC (.int 256)))))))))
noncomputable def z1o:List PV→R PV:=runF 6 z46
noncomputable def z7i:FS:=sSeq (sSet 2 (fBin oShl (fC (.int 1)) (fBin oAdd (fBin oItem (fVar 0) (fC (.int 0))) (fBin oItem (fVar 0) (fC (.int 1)))))) (sSeq (sSet 3 (fBin oShl (fBin oSub (fBin oShl (fC (.int 1)) (fBin oItem (fVar 0) (fC (.int 0)))) (fC (.int 1))) (fBin oItem (fVar 0) (fC (.int 1))))) (sSeq (sIf (tOr (tNot (tVal (fIsinst .tuple (fVar 1)))) (tOr (tVal (fBin cNe (fCall bLen (aCons (fVar 1) (aNil))) (fC (.int 2)))) (tOr (tNot (tVal (fCall z36 (aCons (fBin oItem (fVar 1) (fC (.int 0))) (aNil))))) (tNot (tVal (fCall z36 (aCons (fBin oItem (fVar 1) (fC (.int 1))) (aNil)))))))) (sRet (fC (.bl false))) (sNext)) (sSeq (sIf (tOr (tVal (fBin cLt (fCall bMin1 (aCons (fVar 1) (aNil))) (fC (.int 0)))) (tOr (tVal (fBin cGt (fCall bMax1 (aCons (fVar 1) (aNil))) (fBin oAdd (fVar 2) (fVar 3)))) (tVal (fBin cIn (fVar 2) (fVar 1))))) (sRet (fC (.bl false))) (sNext)) (sSeq (sSet 4 (fCall z4 (aCons (fVar 0) (aCons (fBin oItem (fVar 1) (fC (.int 0))) (aNil))))) (sSeq (sSet 5 (fCall z4 (aCons (fVar 0) (aCons (fBin oItem (fVar 1) (fC (.int 1))) (aNil))))) (sRet (fAnd (fChain3 cLe cLe cLe (fBin oSub (fC (.int 0)) (fVar 3)) (fVar 4) (fVar 5) (fVar 3)) (fAnd (fBin cLt (fVar 4) (fVar 3)) (fBin cGt (fVar 5) (fBin oSub (fC (.int 0)) (fVar 3)))))))))))
noncomputable def z23:List PV→R PV:=runF 6 z7i
noncomputable def z7j:FS:=sSeq (sUnpack [5,6,7] (fVar 2)) (sSeq (sSet 3 (fBin oSub (fBin oSub (fC (.int 2)) (fBin oShl (fC (.int 1)) (fBin oSub (fBin oItem (fVar 0) (fC (.int 0))) (fC (.int 1))))) (fBin oItem (fVar 0) (fC (.int 1))))) (sSeq (sSet 4 (fCall bMin (aCons (fVar 3) (aCons (fVar 6) (aNil))))) (sRet (fBin cLe (fBin oShl (fBin oMul (fCall zw (aCons (fVar 0) (aCons (fVar 1) (aNil)))) (fVar 7)) (fBin oSub (fVar 3) (fVar 4))) (fBin oShl (fVar 5) (fBin oSub (fVar 6) (fVar 4)))))))
noncomputable def z34:List PV→R PV:=runF 8 z7j
noncomputable def z45:FS:=sSeq (sSet 3 (fBin oShl (fBin oSub (fBin oShl (fC (.int 1)) (fBin oItem (fVar 0) (fC (.int 0)))) (fC (.int 1))) (fBin oItem (fVar 0) (fC (.int 1))))) (sSeq (sSet 4 (fCall z4 (aCons (fVar 0) (aCons (fBin oItem (fVar 1) (fC (.int 0))) (aNil))))) (sSeq (sSet 5 (fCall z4 (aCons (fVar 0) (aCons (fBin oItem (fVar 1) (fC (.int 1))) (aNil))))) (sSeq (sIf (tAnd (tVal (fBin cGt (fVar 4) (fBin oSub (fC (.int 0)) (fVar 3)))) (tNot (tVal (fCall z34 (aCons (fVar 0) (aCons (fVar 4) (aCons (fVar 2) (aNil)))))))) (sRet (fC (.bl false))) (sNext)) (sSeq (sSet 6 (fTup (aCons (fBin oSub (fC (.int 0)) (fBin oItem (fVar 2) (fC (.int 0)))) (aCons (fBin oItem (fVar 2) (fC (.int 1))) (aCons (fBin oItem (fVar 2) (fC (.int 2))) (aNil)))))) (sRet (fOr (fBin cEq (fVar 5) (fVar 3)) (fCall z34 (aCons (fVar 0) (aCons (fBin oSub (fC (.int 0)) (fVar 5)) (aCons (fVar 6) (aNil)))))))))))
noncomputable def z1n:List PV→R PV:=runF 7 z45
noncomputable def z7h:FS:=sSeq (sIf (tOr (tVal (fUn cNotT (fCall z1h (aCons (fVar 1) (aCons (fVar 2) (aCons (fBin oItem (fVar 3) (fC (.int 0))) (aCons (fBin oItem (fVar 3) (fC (.int 1))) (aCons (fBin oItem (fVar 3) (fC (.int 2))) (aNil))))))))) (tNot (tVal (fCall z1n (aCons (fVar 0) (aCons (fVar 2) (aCons (fVar 3) (aNil)))))))) (sRet (fC (.bl false))) (sNext)) (sSeq (sSet 4 (fCall z3y (aCons (fVar 1) (aCons (fBin oItem (fVar 3) (fC (.int 0))) (aCons (fBin oItem (fVar 3) (fC (.int 1))) (aCons (fBin oItem (fVar 3) (fC (.int 2))) (aNil))))))) (sSeq (sIf (tOr (tNot (tVal (fCall z23 (aCons (fVar 0) (aCons (fVar 4) (aNil)))))) (tNot (tVal (fCall z1n (aCons (fVar 0) (aCons (fVar 4) (aCons (fVar 3) (aNil)))))))) (sRet (fC (.bl false))) (sNext)) (sSeq (sIf (tVal (fBin cLt (fCall z4 (aCons (fVar 0) (aCons (fBin oItem (fVar 4) (fC (.int 0))) (aNil)))) (fCall z4 (aCons (fVar 0) (aCons (fBin oItem (fVar 2) (fC (.int 0))) (aNil)))))) (sRet (fC (.bl false))) (sNext)) (sRet (fBin cLe (fCall z4 (aCons (fVar 0) (aCons (fBin oItem (fVar 4) (fC (.int 1))) (aNil)))) (fCall z4 (aCons (fVar 0) (aCons (fBin oItem (fVar 2) (fC (.int 1))) (aNil)))))))))
noncomputable def z33:List PV→R PV:=runF 5 z7h
noncomputable def z3f:FS:=sSeq (sIf (tVal (fBin cEq (fVar 1) (fC (.int 0)))) (sRet (fCall z3z (aCons (fVar 0) (aCons (fVar 2) (aCons (fVar 3) (aNil)))))) (sNext)) (sSeq (sIf (tVal (fBin cEq (fVar 1) (fC (.int 1)))) (sRet (fCall z3x (aCons (fVar 0) (aCons (fVar 2) (aCons (fVar 3) (aNil)))))) (sNext)) (sSeq (sIf (tVal (fBin cEq (fVar 1) (fC (.int 2)))) (sRet (fCall z40 (aCons (fVar 0) (aCons (fVar 2) (aCons (fVar 3) (aNil)))))) (sNext)) (sRet (fCall z28 (aCons (fVar 0) (aCons (fVar 2) (aCons (fVar 3) (aNil))))))))
noncomputable def z1m:List PV→R PV:=runF 4 z3f
noncomputable def z1z:FS:=sSeq (sSet 5 (fBin oMod (fBin oMul (fVar 4) (fC (.int 618033988749894848204587))) (fBin oAdd (fBin oPow (fC (.int 10)) (fC (.int 24))) (fC (.int 7))))) (sSeq (sSet 6 (fCall z35 (aCons (fVar 1) (aCons (fVar 5) (aCons (fBin oMod (fBin oMul (fVar 4) (fC (.int 414213562373095048801689))) (fBin oAdd (fBin oPow (fC (.int 10)) (fC (.int 24))) (fC (.int 7)))) (aNil)))))) (sSeq (sSet 7 (fCall zx (aCons (fVar 2) (aCons (fCall z2o (aCons (fVar 1) (aCons (fBin oItem (fVar 6) (fC (.int 0))) (aNil)))) (aCons (fCall z2o (aCons (fVar 1) (aCons (fBin oItem (fVar 6) (fC (.int 1))) (aNil)))) (aNil)))))) (sSeq (sIf (tNot (tVal (fCall z23 (aCons (fVar 1) (aCons (fVar 7) (aNil)))))) (sRet (fC (.bl false))) (sNext)) (sSeq (sSet 8 (fBin oMod (fBin oMul (fVar 4) (fC (.int 69621))) (fC (.int 999961)))) (sSeq (sSet 9 (fBin oMod (fVar 8) (fC (.int 4)))) (sSeq (sSet 10 (fCall z1o (aCons (fVar 1) (aCons (fTup (aCons (fCall z4 (aCons (fVar 1) (aCons (fBin oItem (fVar 3) (fC (.int 0))) (aNil)))) (aCons (fCall z4 (aCons (fVar 1) (aCons (fBin oItem (fVar 3) (fC (.int 1))) (aNil)))) (aNil)))) (aCons (fBin oDiv (fVar 8) (fC (.int 4))) (aNil)))))) (sSeq (sSet 11 (fCall z1o (aCons (fVar 1) (aCons (fVar 6) (aCons (fBin oDiv (fVar 8) (fC (.int 1028))) (aNil)))))) (sSeq (sSet 12 (fCall z1m (aCons (fVar 2) (aCons (fVar 9) (aCons (fVar 3) (aCons (fVar 7) (aNil))))))) (sSeq (sIf (tNot (tVal (fCall z23 (aCons (fVar 1) (aCons (fVar 12) (aNil)))))) (sRet (fC (.bl false))) (sNext)) (sSeq (sIf (tOr (tVal (fBin cLt (fVar 9) (fC (.int 3)))) (tVal (fBin cNe (fVar 11) (fC (.int 0))))) (sIf (tNot (tVal (fCall z33 (aCons (fVar 1) (aCons (fVar 2) (aCons (fVar 12) (aCons (fCall z1f (aCons (fVar 1) (aCons (fVar 9) (aCons (fVar 10) (aCons (fVar 11) (aNil)))))) (aNil)))))))) (sRet (fC (.bl false))) (sNext)) (sNext)) (sSeq (sSet 3 (fVar 12)) (sIf (tVal (fBin cEq (fBin oMod (fBin oDiv (fVar 8) (fC (.int 16))) (fC (.int 4))) (fC (.int 1)))) (sSet 3 (fVar 7)) (sNext)))))))))))))
noncomputable def z7y:FS:=sSeq (sSet 1 (fCall z37 (aCons (fCall z32 (aCons (fVar 0) (aCons (fC (.int 0)) (aNil)))) (aNil)))) (sSeq (sSet 2 (fCall z2y (aCons (fBin oItem (fVar 1) (fC (.int 0))) (aCons (fBin oItem (fVar 1) (fC (.int 1))) (aNil))))) (sSeq (sSet 3 (fTup (aCons (fC (.int 0)) (aCons (fC (.int 0)) (aNil))))) (sSeq (sFor 4 (iSeq (fCut (fVar 0) (oSome (fC (.int 1))) (oSome (fC (.int 25))))) (z1z)) (sRet (fC (.bl true))))))
noncomputable def q_law_v67:List PV→R PV:=runF 13 z7y
theorem oItem_ints {ns:List Int}{i:Int} (h0:0≤i) (h:i<ns.length):oItem (.lst (ns.map PV.int)) (.int i) = .ok (.int (ns.getD i.toNat 0)):=by
  refine oItem_at h0 ?_
  have hl:i.toNat<ns.length:=by omega
  rw [List.getElem?_map,List.getD_eq_getElem?_getD,List.getElem?_eq_getElem hl]
  rfl
theorem z98 (ns:List Int) (k:Int) (hk:0≤k):z32 [.lst (ns.map PV.int),.int k] = .ok (.int (ns.getD k.toNat 0)):=by
  by_cases h:k<(ns.length:Int)
  · dsimp! [z32,z65,List.length_map,h,oItem_ints hk h]
  · have e:ns.getD k.toNat 0=0:=by
      rw [List.getD_eq_getElem?_getD,List.getElem?_eq_none (by omega)];rfl
    dsimp! [z32,z65,List.length_map,h,e]
theorem z9q (n:Int):z36 [.int n] = .ok (.bl true):=by dsimp! [z36,z7k]
theorem mem_range {x:PV}{lo hi st:Int} (hs:0<st) (h:x∈rangeP lo hi st):∃ i,x = .int i∧lo≤i∧i<hi:=by
  unfold rangeP at h
  rw [List.mem_map] at h
  obtain ⟨k,hk,rfl⟩:=h
  rw [List.mem_range] at hk
  unfold rangeN at hk
  rw [if_pos hs] at hk
  refine ⟨_,rfl,?_,?_⟩
  · have:=Int.mul_nonneg (Int.natCast_nonneg k) (Int.le_of_lt hs);omega
  · by_cases hl:lo<hi
    · rw [if_pos hl] at hk
      have h1:(k:Int)≤(hi - lo - 1) / st:=by
        have:0≤(hi - lo - 1) / st:=Int.ediv_nonneg (by omega) (by omega)
        omega
      have h2:=Int.mul_le_mul_of_nonneg_right h1 (Int.le_of_lt hs)
      have h3:(hi - lo - 1) / st*st≤hi - lo - 1:=Int.ediv_mul_le _ (by omega)
      omega
    · rw [if_neg hl] at hk;omega
theorem z57 (k:Int):z5 [.int 0,.int k] = .ok (.tup [.int 0,.int 0]):=by dsimp! [z5,z6e]
theorem z5r {n:Int} (k:Int) (h:n≠0):z5 [.int n,.int k] = .ok (.tup [.int (n / p2 (tz n)),.int (k+tz n)]):=by
  have h2:okShr (tz n):=(tz_spec h).1
  have e:(nb (Builtin.bitAnd n (-n)):Int) - 1=tz n:=rfl
  dsimp! [z5,z6e,h,e,h2]
theorem tz_le {n:Int} (h:n≠0):tz n≤nb n:=by
  obtain ⟨h1,h2,h3⟩:=tz_spec h
  have h4:n / p2 (tz n)≠0:=by intro z;rw [z] at h2;omega
  have:=nb_shl h4 h1
  rw [h3] at this
  omega
theorem tz_odd {n:Int} (h:n % 2=1):tz n=0:=by
  have:=tz_of (a:=n) (t:=0) h (by decide)
  rw [p2_0,Int.mul_one] at this;exact this
def Wd (e f:Int):Prop:=2≤e∧e≤11∧1≤f∧f≤60
theorem okShl_1 {b:Int} (h0:0≤b) (h:b≤1000):okShl 1 b:=okShl_of (n:=1) h0 (by decide) (by omega)
theorem zbl {x lo hi:Int} (h0:lo≤x) (h1:x≤hi):zy [.int x,.int lo,.int hi] = .ok (.bl true):=by
  dsimp! [zy,z7w,z59,z7v,h0,h1]
theorem zc7 {e f:Int} (h:Wd e f):z2y [.int e,.int f] = .ok (.tup [.int e,.int f]):=by
  obtain ⟨h1,h2,h3,h4⟩:=h
  dsimp! [z2y,z8d,zbl h1 h2,zbl h3 h4]
theorem cast2:((2:Nat):Int)=2:=rfl
theorem zb7 {e f:Int} (h:Wd e f):z9 [.tup [.int e,.int f]] = .ok .non:=by
  dsimp! [z9,z7p,cast2,zc7 h,decide_true,Bool.not_true,Bool.false_eq_true,if_false]
theorem z9c {e f:Int} (h:Wd e f):z3v [.tup [.int e,.int f]] = .ok (.int (p2 (1+e+f))):=by
  have:=zb7 h
  obtain ⟨h1,h2,h3,h4⟩:=h
  dsimp! [z3v,z80,this,okShl_1 (b:=1+e+f) (by omega) (by omega),Int.one_mul]
theorem z8f {e f:Int} (h:Wd e f):z2q [.tup [.int e,.int f]] = .ok (.int (p2 (e - 1) - 1)):=by
  have:=zb7 h
  obtain ⟨h1,h2,h3,h4⟩:=h
  dsimp! [z2q,z7n,this,okShl_1 (b:=e - 1) (by omega) (by omega),Int.one_mul]
theorem z75 {e f:Int} (h:Wd e f):z1q [.tup [.int e,.int f]] = .ok (.int (1 - (p2 (e - 1) - 1) - f)):=by
  dsimp! [z1q,z7z,z8f h]
theorem z3w {c:Int} (h0:0≤c) (h:c≤1000):zo [.int c] = .ok (.int (p2 c - 1)):=by
  dsimp! [zo,z7m,okShl_1 h0 h,Int.one_mul]
theorem z56 {e f w:Int} (h:Wd e f) (h0:0≤w) (h1:w<p2 (1+e+f)):zp [.tup [.int e,.int f],.int w] = .ok .non:=by
  dsimp! [zp,z7q,z9c h,zbl h0 (show w≤p2 (1+e+f) - 1 by omega)]
theorem z76 {x c:Int} (hc:0≤c) (hc':c≤1000) (h0:0≤x) (h1:x<p2 c):z2r [.int x,.int c] = .ok .non:=by
  dsimp! [z2r,z7o,z3w hc hc',zbl h0 (show x≤p2 c - 1 by omega)]
theorem z8j {e f s x y:Int} (h:Wd e f) (s0:0≤s) (s1:s<2) (x0:0≤x) (x1:x<p2 e) (y0:0≤y) (y1:y<p2 f) :
    z2v [.tup [.int e,.int f],.int s,.int x,.int y] = .ok (.int (s*p2 (e+f)+x*p2 f+y)):=by
  have a:=zb7 h
  obtain ⟨h1,h2,h3,h4⟩:=h
  have b:=z76 (x:=s) (c:=1) (by decide) (by decide) s0 (by rw [p2_1];exact s1)
  have c:=z76 (by omega) (by omega) x0 x1
  have d:=z76 (by omega) (by omega) y0 y1
  have bx:nb x≤11:=nb_le (by
    have:=p2_le (a:=e) (b:=11) (by omega) (by omega)
    have e11:p2 11=2048:=by decide
    omega)
  have o1:okShl s (e+f):=okShl_of (n:=10) (by omega) (nb_le (by omega)) (by omega)
  have o2:okShl x f:=okShl_of (n:=11) (by omega) bx (by omega)
  dsimp! [z2v,z7x,a,b,c,d,o1,o2]
theorem and_ones {x c:Int} (h0:0≤x) (hc:0≤c):Builtin.bitAnd x (p2 c - 1)=x % p2 c:=by
  have hp:=p2_pos c
  unfold Builtin.bitAnd
  rw [decide_eq_true h0,decide_eq_true (show 0≤p2 c - 1 by omega)]
  show (((x.toNat &&& (p2 c - 1).toNat:Nat)):Int)=_
  have e:(p2 c - 1).toNat=2 ^ c.toNat - 1:=by
    have e1:p2 c=((2 ^ c.toNat:Nat):Int):=by show (2:Int) ^ c.toNat=_;push_cast;rfl
    rw [e1];omega
  rw [e,Nat.and_two_pow_sub_one_eq_mod]
  have e1:p2 c=((2 ^ c.toNat:Nat):Int):=by show (2:Int) ^ c.toNat=_;push_cast;rfl
  rw [e1]
  push_cast
  rw [Int.toNat_of_nonneg h0]
theorem z74 {e f w:Int} (h:Wd e f) (h0:0≤w) (h1:w<p2 (1+e+f)) :
    zba [.tup [.int e,.int f],.int w] = .ok (.tup [.int (w / p2 (e+f)),.int (w / p2 f % p2 e),.int (w % p2 f)]):=by
  have a:=z56 h h0 h1
  obtain ⟨g1,g2,g3,g4⟩:=h
  have o1:okShr (e+f):=by show 0≤e+f;omega
  have o2:okShr f:=by show 0≤f;omega
  have hp:=p2_pos f
  have z:0≤w / p2 f:=Int.ediv_nonneg h0 (by omega)
  dsimp! [zba,zaz,a,o1,o2,z3w (show 0≤e by omega) (by omega),z3w (show 0≤f by omega) (by omega),and_ones z (show 0≤e by omega),and_ones h0 (show 0≤f by omega)]
theorem parts {e f w:Int} (h:Wd e f) (h0:0≤w) (h1:w<p2 (1+e+f)):∃ s x y,0≤s∧s<2∧0≤x∧x<p2 e∧0≤y∧y<p2 f∧w=(s*p2 e+x)*p2 f+y∧w / p2 (e+f)=s∧w / p2 f=s*p2 e+x∧w / p2 f % p2 e=x∧w % p2 f=y:=by
  obtain ⟨g1,g2,g3,g4⟩:=h
  have pf:=p2_pos f
  have pe:=p2_pos e
  have e1:p2 (e+f)=p2 f*p2 e:=by rw [Int.add_comm,p2_add (by omega) (by omega)]
  have e2:p2 (1+e+f)=2*(p2 f*p2 e):=by rw [← e1,← p2_succ (by omega)];congr 1;omega
  have d1:=Int.mul_ediv_add_emod w (p2 f)
  have d2:=Int.mul_ediv_add_emod (w / p2 f) (p2 e)
  have d3:w / p2 (e+f)=w / p2 f / p2 e:=by rw [e1,Int.ediv_ediv_of_nonneg (by omega)]
  have z:0≤w / p2 f:=Int.ediv_nonneg h0 (by omega)
  refine ⟨w / p2 f / p2 e,w / p2 f % p2 e,w % p2 f,Int.ediv_nonneg z (by omega),?_,Int.emod_nonneg _ (by omega),Int.emod_lt_of_pos _ pe,Int.emod_nonneg _ (by omega),Int.emod_lt_of_pos _ pf,?_,d3,?_,rfl,rfl⟩
  · rw [← d3,e1]
    refine Int.ediv_lt_of_lt_mul (Int.mul_pos pf pe) (by rw [← e2];exact h1)
  · rw [Int.mul_comm (_ / p2 e),d2,Int.mul_comm (w / p2 f)];omega
  · rw [Int.mul_comm (_ / p2 e),d2]
theorem mem_cut {l:List PV}{lo hi:Option Int}{x:PV} (h:x∈cutP l lo hi):x∈l:=by
  unfold cutP at h
  exact List.mem_of_mem_drop (List.mem_of_mem_take h)
theorem mem_cut_ints {ns:List Int}{lo hi:Option Int}{x:PV} (h:x∈cutP (ns.map PV.int) lo hi):∃ n,x = .int n∧n∈ns:=by
  obtain ⟨n,hn,rfl⟩:=List.mem_map.mp (mem_cut h)
  exact ⟨n,rfl,hn⟩
theorem p2_wd {e f:Int} (h:Wd e f):4≤p2 e∧2≤p2 f∧p2 f=2*p2 (f - 1)∧p2 (e+f)=p2 e*p2 f∧p2 (1+e+f)=2*p2 (e+f)∧nb (p2 e)≤12∧nb (p2 f)≤61∧nb (p2 (e+f))≤72∧nb (p2 (1+e+f))≤73∧1≤p2 (f - 1)∧p2 e≤2048:=by
  obtain ⟨g1,g2,g3,g4⟩:=h
  have e4:p2 2=4:=by decide
  have a:=p2_le (a:=2) (b:=e) (by decide) g1
  have b:=p2_le (a:=1) (b:=f) (by decide) g3
  have e11:p2 11=2048:=by decide
  have c:=p2_le (a:=e) (b:=11) (by omega) g2
  rw [p2_1] at b
  refine ⟨by omega,b,?_,p2_add (by omega) (by omega),?_,?_,?_,?_,?_,p2_pos _,by omega⟩
  · rw [← p2_succ (by omega)];congr 1;omega
  · rw [← p2_succ (by omega)];congr 1;omega
  all_goals rw [nb_p2 (by omega)];omega
theorem top_word {e f:Int} (h:Wd e f):p2 (e+f)=(p2 e - 1)*p2 f+p2 f∧3*p2 f≤(p2 e - 1)*p2 f:=by
  obtain ⟨p1,p3,p4,p5,p6,b1,b2,b3,b4,p7,p8⟩:=p2_wd h
  rw [p5]
  exact ⟨by rw [Int.sub_mul];omega,Int.mul_le_mul_of_nonneg_right (by omega) (by omega)⟩
theorem mulc {c:Int} (hc:nb c≤1048576):okMul c 618033988749894848204587:=okMul_of (n:=200) hc (nb_le (by decide)) (by decide)
theorem str_self (s:Str):(s == s)=true:=beq_self_eq_true s
noncomputable def kindP (e f x y:Int):String:=if x=0 then (if y=0 then "nought" else "small") else if x<p2 e - 1 then "plain" else if y=0 then "endless" else if p2 (f - 1)≤y then "still" else "loud"
theorem zbf {e f:Int} (h:Wd e f):z2u [.tup [.int e,.int f]] = .ok (.int (p2 (f - 1))):=by
  obtain ⟨g1,g2,g3,g4⟩:=h
  dsimp! [z2u,z7s,Int.one_mul,okShl_1 (b:=f - 1) (by omega) (by omega)]
theorem z8k {e f w:Int} (h:Wd e f) (h0:0≤w) (h1:w<p2 (1+e+f)):zg [.tup [.int e,.int f],.int w] = .ok (.str (kindP e f (w / p2 f % p2 e) (w % p2 f))):=by
  have a:=z74 h h0 h1
  have b:=zbf h
  have c:=z3w (c:=e) (by have:=h.1;omega) (by have:=h.2.1;omega)
  generalize w / p2 f % p2 e=x at *
  generalize w % p2 f=y at *
  by_cases k1:x=0
  · by_cases k2:y=0<;>dsimp! [zg,z4c,kindP,a,b,c,k1,k2,if_true,if_false]
  · by_cases k3:x<p2 e - 1
    · dsimp! [zg,z4c,kindP,a,b,c,k1,k3,if_true,if_false]
    · by_cases k2:y=0
      · dsimp! [zg,z4c,kindP,a,b,c,k1,k2,k3,if_true,if_false]
      · by_cases k4:p2 (f - 1)≤y<;>dsimp! [zg,z4c,kindP,a,b,c,k1,k2,k3,k4,if_true,if_false]
theorem tb_hi {r n:Nat} (h:r<2 ^ n) (i:Nat):(2 ^ n+r).testBit i=(r.testBit i || decide (n=i)):=by
  by_cases h1:n=i
  · subst h1
    rw [Nat.testBit_two_pow_add_eq,Nat.testBit_lt_two_pow h,decide_eq_true rfl];rfl
  · rw [decide_eq_false h1,Bool.or_false]
    by_cases h2:i<n
    · rw [Nat.testBit_two_pow_add_gt h2]
    · have a:r<2 ^ i:=Nat.lt_of_lt_of_le h (Nat.pow_le_pow_right (by decide) (by omega))
      have b:2 ^ n+r<2 ^ i:=by
        have:2 ^ (n+1)≤2 ^ i:=Nat.pow_le_pow_right (by decide) (by omega)
        rw [Nat.pow_succ] at this;omega
      rw [Nat.testBit_lt_two_pow a,Nat.testBit_lt_two_pow b]
theorem or_lo {r n:Nat} (h:r<2 ^ n):r ||| 2 ^ n=2 ^ n+r:=by
  apply Nat.eq_of_testBit_eq
  intro i
  rw [Nat.testBit_or,Nat.testBit_two_pow,tb_hi h]
theorem or_hi {r n:Nat} (h:r<2 ^ n):(2 ^ n+r) ||| 2 ^ n=2 ^ n+r:=by
  rw [← or_lo h,Nat.or_assoc,Nat.or_self]
theorem and_lo {r n:Nat} (h:r<2 ^ n):r &&& 2 ^ n=0:=by
  apply Nat.eq_of_testBit_eq
  intro i
  rw [Nat.testBit_and,Nat.testBit_two_pow,Nat.zero_testBit]
  by_cases h1:n=i
  · subst h1;rw [Nat.testBit_lt_two_pow h];rfl
  · rw [decide_eq_false h1,Bool.and_false]
theorem and_hi {r n:Nat} (h:r<2 ^ n):(2 ^ n+r) &&& 2 ^ n=2 ^ n:=by
  apply Nat.eq_of_testBit_eq
  intro i
  rw [Nat.testBit_and,Nat.testBit_two_pow,tb_hi h]
  by_cases h1:n=i
  · rw [decide_eq_true h1,Bool.or_true,Bool.and_true]
  · rw [decide_eq_false h1,Bool.and_false]
theorem p2_cast (c:Int):p2 c=((2 ^ c.toNat:Nat):Int):=by show (2:Int) ^ c.toNat=_;push_cast;rfl
theorem bitOr_nn {x y:Int} (hx:0≤x) (hy:0≤y):Builtin.bitOr x y=((x.toNat ||| y.toNat:Nat):Int):=by
  unfold Builtin.bitOr Builtin.bitAnd
  have h1:¬ 0≤Builtin.bitNot x:=by unfold Builtin.bitNot;omega
  have h2:¬ 0≤Builtin.bitNot y:=by unfold Builtin.bitNot;omega
  rw [decide_eq_false h1,decide_eq_false h2]
  show Builtin.bitNot (Builtin.bitNot (((Builtin.bitNot (Builtin.bitNot x)).toNat ||| (Builtin.bitNot (Builtin.bitNot y)).toNat:Nat):Int))=_
  have nn:∀ z,Builtin.bitNot (Builtin.bitNot z)=z:=fun z=>by unfold Builtin.bitNot;omega
  rw [nn,nn,nn]
theorem and_top {w c:Int} (h0:0≤w) (h1:w<2*p2 c):Builtin.bitAnd w (p2 c)=w / p2 c*p2 c:=by
  have hp:=p2_pos c
  unfold Builtin.bitAnd
  rw [decide_eq_true h0,decide_eq_true (Int.le_of_lt hp)]
  show (((w.toNat &&& (p2 c).toNat:Nat)):Int)=_
  rw [p2_cast] at *
  generalize c.toNat=n at *
  obtain ⟨m,rfl⟩:∃ m:Nat,w=m:=⟨w.toNat,by omega⟩
  rw [Int.toNat_natCast,Int.toNat_natCast]
  by_cases h:m<2 ^ n
  · rw [and_lo h,Int.ediv_eq_zero_of_lt (by omega) (by omega),Int.zero_mul];rfl
  · obtain ⟨r,rfl⟩:∃ r,m=2 ^ n+r:=⟨m - 2 ^ n,by omega⟩
    rw [and_hi (by omega)]
    have e:((2 ^ n+r:Nat):Int)=(r:Int)+1*((2 ^ n:Nat):Int):=by omega
    rw [e,Int.add_mul_ediv_right _ _ (by omega),Int.ediv_eq_zero_of_lt (by omega) (by omega)];omega
theorem xor_top {w c:Int} (h0:0≤w) (h1:w<2*p2 c):Builtin.bitXor w (p2 c)=(w+p2 c) % (2*p2 c):=by
  have hp:=p2_pos c
  unfold Builtin.bitXor
  rw [bitOr_nn h0 (Int.le_of_lt hp),and_top h0 h1]
  clear hp
  rw [p2_cast] at *
  have hp:0<2 ^ c.toNat:=Nat.two_pow_pos _
  generalize c.toNat=n at *
  obtain ⟨m,rfl⟩:∃ m:Nat,w=m:=⟨w.toNat,by omega⟩
  rw [Int.toNat_natCast,Int.toNat_natCast]
  by_cases h:m<2 ^ n
  · rw [or_lo h,Int.emod_eq_of_lt (by omega) (by omega),Int.ediv_eq_zero_of_lt (by omega) (by omega),Int.zero_mul];omega
  · obtain ⟨r,rfl⟩:∃ r,m=2 ^ n+r:=⟨m - 2 ^ n,by omega⟩
    rw [or_hi (by omega)]
    have e:(((2 ^ n+r:Nat):Int)+((2 ^ n:Nat):Int))=(r:Int)+1*(2*((2 ^ n:Nat):Int)):=by omega
    have e':((2 ^ n+r:Nat):Int) / ((2 ^ n:Nat):Int)=1:=by
      have:((2 ^ n+r:Nat):Int)=(r:Int)+1*((2 ^ n:Nat):Int):=by omega
      rw [this,Int.add_mul_ediv_right _ _ (by omega),Int.ediv_eq_zero_of_lt (by omega) (by omega)];rfl
    rw [e,Int.add_mul_emod_self_right,Int.emod_eq_of_lt (by omega) (by omega),e'];omega
theorem z78 {e f:Int} (h:Wd e f):z27 [.tup [.int e,.int f]] = .ok (.int (p2 (e+f))):=by
  obtain ⟨g1,g2,g3,g4⟩:=h
  dsimp! [z27,z83,Int.one_mul,okShl_1 (b:=e+f) (by omega) (by omega)]
theorem z9p {e f w:Int} (h:Wd e f) (h0:0≤w) (h1:w<p2 (1+e+f)):z19 [.tup [.int e,.int f],.int w] = .ok (.int ((w+p2 (e+f)) % (2*p2 (e+f)))):=by
  have a:=z56 h h0 h1
  have b:=z78 h
  obtain ⟨p1,p3,p4,p5,p6,_⟩:=p2_wd h
  rw [p6] at h1
  dsimp! [z19,z8b,a,b,xor_top h0 h1]
theorem zc3 {e f w:Int} (h:Wd e f) (h0:0≤w) (h1:w<p2 (1+e+f)):z1x [.tup [.int e,.int f],.int w] = .ok (.int (w % p2 (e+f))):=by
  have a:=z56 h h0 h1
  have b:=z78 h
  dsimp! [z1x,z8c,a,b,and_ones h0 (show 0≤e+f by have:=h.1;have:=h.2.2.1;omega)]
theorem ni_nought:cNotIn (.str "nought") (.tup [.str "nought",.str "small",.str "plain"]) = .ok (.bl false):=rfl
theorem ni_small:cNotIn (.str "small") (.tup [.str "nought",.str "small",.str "plain"]) = .ok (.bl false):=rfl
theorem ni_plain:cNotIn (.str "plain") (.tup [.str "nought",.str "small",.str "plain"]) = .ok (.bl false):=rfl
theorem s_nought:(Str.ofString "nought" == Str.ofString "plain")=false:=rfl
theorem s_small:(Str.ofString "small" == Str.ofString "plain")=false:=rfl
noncomputable def stepsP (f x y:Int):Int:=if x=0 then y else y+p2 f
noncomputable def powP (e f x:Int):Int:=if x=0 then 1 - (p2 (e - 1) - 1) - f else 1 - (p2 (e - 1) - 1) - f+x - 1
theorem zc4 {e f w:Int} (h:Wd e f) (h0:0≤w) (h1:w<p2 (1+e+f)) (hx:w / p2 f % p2 e<p2 e - 1) :
    zk [.tup [.int e,.int f],.int w]=z5 [.int (if w / p2 (e+f)=1 then -(stepsP f (w / p2 f % p2 e) (w % p2 f)) else stepsP f (w / p2 f % p2 e) (w % p2 f)),.int (powP e f (w / p2 f % p2 e))]:=by
  have a:=z74 h h0 h1
  have k:=z8k h h0 h1
  have l:=z75 h
  have o:=okShl_1 (b:=f) (by have:=h.2.2.1;omega) (by have:=h.2.2.2;omega)
  generalize w / p2 f % p2 e=x at *
  generalize w % p2 f=y at *
  generalize w / p2 (e+f)=s at *
  have ex:∀ a b,∃ n m,z5 [.int a,.int b] = .ok (.tup [.int n,.int m]):=fun a b=>by
    by_cases z:a=0
    · subst z;exact ⟨_,_,z57 b⟩
    · exact ⟨_,_,z5r b z⟩
  have sg:∀ n:Int,(if s=1 then R.ok (PV.int (-n)) else R.ok (PV.int n))=R.ok (PV.int (if s=1 then -n else n)):=fun n=>by split<;>rfl
  unfold stepsP powP
  unfold kindP at k
  by_cases k1:x=0
  · obtain ⟨n,m,en⟩:=ex (if s=1 then -y else y) (1 - (p2 (e - 1) - 1) - f)
    by_cases k2:y=0
    · simp only [k1,k2,if_true] at k a en
      by_cases ks:s=1<;>simp only [ks,if_true,if_false] at en<;>dsimp! [zk,z5q,Int.one_mul,a,k,l,o,k1,k2,ks,ni_nought,s_nought,if_true,if_false,en]
    · simp only [k1,k2,if_true,if_false] at k a
      by_cases ks:s=1<;>simp only [ks,if_true,if_false] at en<;>dsimp! [zk,z5q,Int.one_mul,a,k,l,o,k1,k2,ks,ni_small,s_small,if_true,if_false,en]
  · obtain ⟨n,m,en⟩:=ex (if s=1 then -(y+p2 f) else y+p2 f) (1 - (p2 (e - 1) - 1) - f+x - 1)
    simp only [k1,hx,if_true,if_false] at k a
    by_cases ks:s=1<;>simp only [ks,if_true,if_false] at en<;>dsimp! [zk,z5q,Int.one_mul,a,k,l,o,k1,ks,ni_plain,str_self,if_true,if_false,en]
theorem wd_a (r:Int):Wd (2+r / 2 % 3) (1+r / 6 % 4):=by
  have a0:=Int.emod_nonneg (r / 2) (show (3:Int)≠0 by decide)
  have a1:=Int.emod_lt_of_pos (r / 2) (show (0:Int)<3 by decide)
  have b0:=Int.emod_nonneg (r / 6) (show (4:Int)≠0 by decide)
  have b1:=Int.emod_lt_of_pos (r / 6) (show (0:Int)<4 by decide)
  generalize r / 2 % 3=x at *
  generalize r / 6 % 4=y at *
  unfold Wd;omega
theorem wd_b (r:Int):Wd (2+r / 2 % 10) (1+r / 20 % 60):=by
  have a0:=Int.emod_nonneg (r / 2) (show (10:Int)≠0 by decide)
  have a1:=Int.emod_lt_of_pos (r / 2) (show (0:Int)<10 by decide)
  have b0:=Int.emod_nonneg (r / 20) (show (60:Int)≠0 by decide)
  have b1:=Int.emod_lt_of_pos (r / 20) (show (0:Int)<60 by decide)
  generalize r / 2 % 10=x at *
  generalize r / 20 % 60=y at *
  unfold Wd;omega
theorem z96 (c:Int):∃ e f,z37 [.int c] = .ok (.tup [.int e,.int f])∧Wd e f:=by
  by_cases h:c*48271 % 999983 % 2=1
  · refine ⟨2+c*48271 % 999983 / 2 % 3,1+c*48271 % 999983 / 6 % 4,?_,wd_a _⟩
    dsimp! [z37,z69,h]
  · refine ⟨2+c*48271 % 999983 / 2 % 10,1+c*48271 % 999983 / 20 % 60,?_,wd_b _⟩
    dsimp! [z37,z69,h]
theorem clip {q d T:Int} (h0:0≤T) (h1:q+d<T) (h2:0<T):0≤(if 0 > q+d then (0:Int) else q+d)∧(if 0 > q+d then (0:Int) else q+d)<T:=by split<;>omega
theorem min_le {k l:Int}:(if l<k then l else k)≤k∧(if l<k then l else k)≤l∧((if l<k then l else k)=k∨(if l<k then l else k)=l):=by split<;>omega
noncomputable def ab (n:Int):Int:=if n<0 then -n else n
theorem nb_mono {a b:Int} (h0:0≤a) (h:a≤b):nb a≤nb b:=nb_le (by have:=nb_lt (a:=b) (Nat.le_refl _);omega)
theorem ab_e (n:Int):(if n<0 then -n else n)=ab n:=rfl
theorem ab_nn (n:Int):0≤ab n:=by unfold ab;split<;>omega
theorem ab_pos {n:Int} (h:n≠0):0<ab n:=by unfold ab;split<;>omega
theorem ab_neg' (n:Int):ab (-n)=ab n:=by unfold ab;split<;>split<;>omega
theorem nb_ab (n:Int):nb (ab n)=nb n:=by unfold ab;split<;>simp only [nb_neg]
theorem ab_of {n:Int} (h:0≤n):ab n=n:=by unfold ab;rw [if_neg (by omega)]
theorem p2_le0 {a:Int} (h:a≤0):p2 a=1:=by
  show (2:Int) ^ a.toNat=1
  rw [Int.toNat_of_nonpos h];rfl
theorem zb5 (n k d:Int) (h1:nb n≤100000) (h2:nb d≤100000) (h3 : -100000≤k) (h4:k≤100000):z24 [.int n,.int k,.int d] = .ok (.tup [.int (n*p2 k),.int (d*p2 (-k))]):=by
  by_cases h:0≤k
  · have o:okShl n k:=okShl_of h h1 (by omega)
    have e:d*p2 (-k)=d:=by rw [p2_le0 (by omega),Int.mul_one]
    dsimp! [z24,z6b,h,o,e]
  · have o:okShl d (-k):=okShl_of (by omega) h2 (by omega)
    have e:n*p2 k=n:=by rw [p2_le0 (by omega),Int.mul_one]
    dsimp! [z24,z6b,h,o,e]
def Ht (s d e:Int):Prop:=d*p2 e≤s*p2 (-e)∧s*p2 (-e)<2*(d*p2 e)
theorem p2_cross {e f:Int} (h:e≤f):p2 f*p2 (-e)=p2 e*p2 (-f)*p2 (f - e):=by
  by_cases h1:0≤e
  · rw [p2_le0 (a:=-e) (by omega),p2_le0 (a:=-f) (by omega),Int.mul_one,Int.mul_one,← p2_add h1 (by omega)];congr 1;omega
  · by_cases h2:0≤f
    · rw [p2_le0 (a:=e) (by omega),p2_le0 (a:=-f) (by omega),Int.one_mul,Int.one_mul,← p2_add h2 (by omega)];congr 1
    · rw [p2_le0 (a:=e) (by omega),p2_le0 (a:=f) (by omega),Int.one_mul,Int.one_mul,← p2_add (by omega) (by omega)];congr 1;omega
theorem p2_two {j:Int} (h:1≤j):2≤p2 j:=by
  have:=p2_le (a:=1) (b:=j) (by decide) h
  rw [p2_1] at this;exact this
theorem ht_lt {s d e f:Int} (hd:0<d) (he:Ht s d e) (hf:Ht s d f):¬ e<f:=by
  intro h
  have c:=p2_cross (e:=e) (f:=f) (by omega)
  have c2:=p2_two (j:=f - e) (by omega)
  have pe:=p2_pos e
  have pe':=p2_pos (-e)
  have pf':=p2_pos (-f)
  have a1:s*p2 (-e)*p2 (-f)<2*(d*p2 e)*p2 (-f):=Int.mul_lt_mul_of_pos_right he.2 pf'
  have a2:d*p2 f*p2 (-e)≤s*p2 (-f)*p2 (-e):=Int.mul_le_mul_of_nonneg_right hf.1 (by omega)
  have a3:d*p2 f*p2 (-e)=d*(p2 e*p2 (-f))*p2 (f - e):=by rw [Int.mul_assoc,c];exact (Int.mul_assoc _ _ _).symm
  have a4:s*p2 (-f)*p2 (-e)=s*p2 (-e)*p2 (-f):=by rw [Int.mul_assoc,Int.mul_assoc,Int.mul_comm (p2 (-f))]
  have a5:2*(d*p2 e)*p2 (-f)=d*(p2 e*p2 (-f))*2:=by rw [Int.mul_assoc,Int.mul_assoc,Int.mul_comm]
  have a6:d*(p2 e*p2 (-f))*2≤d*(p2 e*p2 (-f))*p2 (f - e):=Int.mul_le_mul_of_nonneg_left c2 (Int.mul_nonneg (by omega) (Int.mul_nonneg (by omega) (by omega)))
  omega
theorem ht_unique {s d e f:Int} (hd:0<d) (he:Ht s d e) (hf:Ht s d f):e=f:=by
  have:=ht_lt hd he hf
  have:=ht_lt hd hf he
  omega
theorem nb_bounds {s:Int} (hs:0<s):p2 ((nb s:Int) - 1)≤s∧s<p2 (nb s):=by
  have h1:=nb_lt (a:=s) (Nat.le_refl _)
  have e:p2 (nb s:Int)=((2 ^ nb s:Nat):Int):=by rw [p2_nat];push_cast;rfl
  refine ⟨?_,by omega⟩
  by_cases hlt:s<p2 ((nb s:Int) - 1)
  · exfalso
    have hp:=nb_pos (a:=s) (by omega)
    have h2:nb s≤nb s - 1:=nb_le (by
      have e2:(nb s:Int) - 1=((nb s - 1:Nat):Int):=by omega
      rw [e2,p2_nat] at hlt
      have e3:((2:Int) ^ (nb s - 1))=((2 ^ (nb s - 1):Nat):Int):=by push_cast;rfl
      omega)
    omega
  · omega
theorem ht_guess {s d:Int} (hs:0<s) (hd:0<d):d*p2 ((nb s:Int) - nb d)<2*(s*p2 (-((nb s:Int) - nb d)))∧s*p2 (-((nb s:Int) - nb d))<2*(d*p2 ((nb s:Int) - nb d)):=by
  obtain ⟨s1,s2⟩:=nb_bounds hs
  obtain ⟨d1,d2⟩:=nb_bounds hd
  have hp1:(1:Int)≤nb s:=by have:=nb_pos (a:=s) (by omega);omega
  have hp2:(1:Int)≤nb d:=by have:=nb_pos (a:=d) (by omega);omega
  generalize (nb s:Int)=a at *
  generalize (nb d:Int)=b at *
  have ea:p2 a=2*p2 (a - 1):=by rw [← p2_succ (by omega)];congr 1;omega
  have eb:p2 b=2*p2 (b - 1):=by rw [← p2_succ (by omega)];congr 1;omega
  by_cases h:b≤a
  · have q:=p2_pos (a - b)
    have e1:p2 a=p2 b*p2 (a - b):=by rw [← p2_add (by omega) (by omega)];congr 1;omega
    have f1:d*p2 (a - b)<p2 b*p2 (a - b):=Int.mul_lt_mul_of_pos_right d2 q
    have f2:p2 (b - 1)*p2 (a - b)≤d*p2 (a - b):=Int.mul_le_mul_of_nonneg_right d1 (by omega)
    have e2:p2 a=2*(p2 (b - 1)*p2 (a - b)):=by rw [e1,eb,Int.mul_assoc]
    rw [p2_le0 (a:=-(a - b)) (by omega),Int.mul_one]
    constructor<;>omega
  · have q:=p2_pos (-(a - b))
    have e1:p2 b=p2 a*p2 (-(a - b)):=by rw [← p2_add (by omega) (by omega)];congr 1;omega
    have f1:s*p2 (-(a - b))<p2 a*p2 (-(a - b)):=Int.mul_lt_mul_of_pos_right s2 q
    have f2:p2 (a - 1)*p2 (-(a - b))≤s*p2 (-(a - b)):=Int.mul_le_mul_of_nonneg_right s1 (by omega)
    have e2:p2 b=2*(p2 (a - 1)*p2 (-(a - b))):=by rw [e1,ea,Int.mul_assoc]
    rw [p2_le0 (a:=a - b) (by omega),Int.mul_one]
    constructor<;>omega
theorem p2_down (e:Int):(p2 (e - 1)*2=p2 e∧p2 (-(e - 1))=p2 (-e))∨(p2 (e - 1)=p2 e∧p2 (-(e - 1))=2*p2 (-e)):=by
  by_cases h:1≤e
  · refine .inl ⟨?_,?_⟩
    · rw [Int.mul_comm,← p2_succ (by omega)];congr 1;omega
    · rw [p2_le0 (by omega),p2_le0 (by omega)]
  · refine .inr ⟨?_,?_⟩
    · rw [p2_le0 (by omega),p2_le0 (by omega)]
    · rw [← p2_succ (by omega)];congr 1;omega
theorem ht_down {s d e:Int} (h1:s*p2 (-e)<d*p2 e) (h2:d*p2 e<2*(s*p2 (-e))):Ht s d (e - 1):=by
  unfold Ht
  rcases p2_down e with ⟨a,b⟩ | ⟨a,b⟩
  · rw [b]
    have:d*p2 e=2*(d*p2 (e - 1)):=by rw [← a,← Int.mul_assoc,Int.mul_comm]
    constructor<;>omega
  · rw [a,b,Int.mul_left_comm]
    constructor<;>omega
theorem z8i {n k d:Int} (hn:n≠0) (hd:0<d) (b1:nb n≤50000) (b2:nb d≤50000):∃ e,z2t [.int n,.int k,.int d] = .ok (.int (e+k))∧Ht (ab n) d e∧-50001≤e∧e≤50000:=by
  have hs:=ab_pos hn
  have hb:=nb_ab n
  obtain ⟨g1,g2⟩:=ht_guess hs hd
  have q:=zb5 (ab n) (-((nb (ab n):Int) - nb d)) d (by omega) (by omega) (by omega) (by omega)
  rw [Int.neg_neg] at q
  by_cases h:ab n*p2 (-((nb (ab n):Int) - nb d))<d*p2 ((nb (ab n):Int) - nb d)
  · refine ⟨(nb (ab n):Int) - nb d - 1,?_,ht_down h g1,by omega,by omega⟩
    dsimp! [z2t,z6f,hn,ab_e,q,h]
  · refine ⟨(nb (ab n):Int) - nb d,?_,⟨by omega,g2⟩,by omega,by omega⟩
    dsimp! [z2t,z6f,hn,ab_e,q,h]
noncomputable def sideP (r u:Int):Int:=if 2*r=0 then 0 else if 2*r<u then 1 else if 2*r=u then 2 else 3
theorem z9b {n k d g:Int} (hd:0<d) (b1:nb n≤50000) (b2:nb d≤50000) (h1 : -60000≤k - g) (h2:k - g≤60000) (h3:nb (d*p2 (g - k))≤9000) :
    z1p [.int n,.int k,.int d,.int g] = .ok (.tup [.int (ab n*p2 (k - g) / (d*p2 (g - k))),.int (sideP (ab n*p2 (k - g) - ab n*p2 (k - g) / (d*p2 (g - k))*(d*p2 (g - k))) (d*p2 (g - k)))]):=by
  have hb:=nb_ab n
  have q:=zb5 (ab n) (k - g) d (by omega) (by omega) (by omega) (by omega)
  have e : -(k - g)=g - k:=by omega
  rw [e] at q
  have hu:0<d*p2 (g - k):=Int.mul_pos hd (p2_pos _)
  have hx:nb (ab n*p2 (k - g))≤120001:=Nat.le_trans (nb_mul_le _ _) (by
    by_cases z:0≤k - g
    · rw [nb_p2 z];omega
    · rw [p2_le0 (by omega)];have:nb 1=1:=rfl;omega)
  have hx0:0≤ab n*p2 (k - g):=Int.mul_nonneg (ab_nn n) (Int.le_of_lt (p2_pos _))
  generalize ab n*p2 (k - g)=x at *
  generalize d*p2 (g - k)=u at *
  have o:okDiv u:=okDiv_of hu h3 (by decide)
  have hq:nb (x / u)≤120001:=Nat.le_trans (nb_mono (Int.ediv_nonneg hx0 (Int.le_of_lt hu)) (Int.ediv_le_self _ hx0)) hx
  have om:okMul (x / u) u:=okMul_of hq h3 (by decide)
  generalize hy:x / u*u=y at *
  have o2:okMul 2 (x - y):=okMul_l (by decide) (by decide)
  by_cases c1:2*(x - y)=0
  · have z:sideP (x - y) u=0:=if_pos c1
    rw [z]
    dsimp! [z1p,z4b,ab_e,q,o,om,hy,o2,c1]
  · by_cases c2:2*(x - y)<u
    · have z:sideP (x - y) u=1:=by unfold sideP;rw [if_neg c1,if_pos c2]
      rw [z]
      dsimp! [z1p,z4b,ab_e,q,o,om,hy,o2,c1,c2]
    · by_cases c3:2*(x - y)=u
      · have z:sideP (x - y) u=2:=by unfold sideP;rw [if_neg c1,if_neg c2,if_pos c3]
        rw [z]
        have n0:¬ u=0:=by omega
        have n1:¬ u<u:=by omega
        dsimp! [z1p,z4b,ab_e,q,o,om,hy,o2,c3,n0,n1]
      · have z:sideP (x - y) u=3:=by unfold sideP;rw [if_neg c1,if_neg c2,if_neg c3]
        rw [z]
        dsimp! [z1p,z4b,ab_e,q,o,om,hy,o2,c1,c2,c3]
theorem unp (is:List Nat) (a:FE) (x0:Option PV) (ρ0:MEnv):sUnpack is a (x0::ρ0)=ofR (a (x0::ρ0)) (x0::ρ0) (fun v=>match v with
  | .tup l=>(match setAll is l (x0::ρ0) with | some ρ'=>.next ρ' | none=>.stuck)
  | _=>.stuck):=rfl
theorem sa_nil (ρ:MEnv):setAll [] [] ρ=some ρ:=rfl
theorem sa_cons (i:Nat) (r:List Nat) (v:PV) (vs:List PV) (ρ:MEnv):setAll (i::r) (v::vs) ρ=setAll r vs (ρ.set i (some v)):=rfl
theorem nb_sub {x y:Int}{m:Nat} (hx:nb x≤m) (hy:nb y≤m):nb (x - y)≤m+1:=nb_le (by
  have a:=nb_lt hx
  have b:=nb_lt hy
  rw [Nat.pow_succ];omega)
theorem nb_add {x y:Int}{m:Nat} (hx:nb x≤m) (hy:nb y≤m):nb (x+y)≤m+1:=nb_le (by
  have a:=nb_lt hx
  have b:=nb_lt hy
  rw [Nat.pow_succ];omega)
theorem notN_n:cNotN .non = .ok (.bl false):=rfl
theorem notN_t (l:List PV):cNotN (.tup l) = .ok (.bl true):=rfl
theorem isN_i (i:Int):cIsN (.int i) = .ok (.bl false):=rfl
def Wu (e f s u:Int):Prop:=Wd e f∧(s=0∨s=1)∧0≤u∧u<p2 (e+f)
noncomputable abbrev eS (e f:Int):Int:=(p2 e - 1)*p2 f
theorem wu_word {e f s u:Int} (h:Wu e f s u):0≤u+s*p2 (e+f)∧u+s*p2 (e+f)<p2 (1+e+f)∧(u+s*p2 (e+f)) / p2 (e+f)=s∧(u+s*p2 (e+f)) % p2 (e+f)=u∧(u+s*p2 (e+f)) / p2 f % p2 e=u / p2 f∧(u+s*p2 (e+f)) % p2 f=u % p2 f:=by
  obtain ⟨hw,hs,u0,u1⟩:=h
  obtain ⟨p1,p3,p4,p5,p6,_⟩:=p2_wd hw
  have st:s*p2 (e+f)=0∨s*p2 (e+f)=p2 (e+f):=by rcases hs with rfl | rfl<;>omega
  have hT:=p2_pos (e+f)
  refine ⟨by omega,by omega,?_,?_,?_,?_⟩
  · rw [Int.add_mul_ediv_right _ _ (by omega),Int.ediv_eq_zero_of_lt u0 u1,Int.zero_add]
  · rw [Int.add_mul_emod_self_right,Int.emod_eq_of_lt u0 u1]
  · rw [p5,← Int.mul_assoc,Int.add_mul_ediv_right _ _ (by omega),Int.add_mul_emod_self_right]
    exact Int.emod_eq_of_lt (Int.ediv_nonneg u0 (by omega)) (Int.ediv_lt_of_lt_mul (by omega) (by rw [← p5];exact u1))
  · rw [p5,← Int.mul_assoc,Int.add_mul_emod_self_right]
theorem wu_of {e f w:Int} (h:Wd e f) (h0:0≤w) (h1:w<p2 (1+e+f)):∃ s u,Wu e f s u∧w=u+s*p2 (e+f):=by
  obtain ⟨p1,p3,p4,p5,p6,_⟩:=p2_wd h
  by_cases c:w<p2 (e+f)
  · exact ⟨0,w,⟨h,.inl rfl,h0,c⟩,by omega⟩
  · exact ⟨1,w - p2 (e+f),⟨h,.inr rfl,by omega,by omega⟩,by omega⟩
noncomputable def kindU (e f u:Int):String:=if u=0 then "nought" else if u<p2 f then "small" else if u<eS e f then "plain" else if u=eS e f then "endless" else if u<eS e f+p2 (f - 1) then "loud" else "still"
theorem kind_u {e f u:Int} (h:Wd e f) (u0:0≤u) (u1:u<p2 (e+f)):kindP e f (u / p2 f) (u % p2 f)=kindU e f u:=by
  obtain ⟨p1,p3,p4,p5,p6,b1,b2,b3,b4,p7,p8⟩:=p2_wd h
  obtain ⟨m1,m3⟩:=top_word h
  have d:=Int.mul_ediv_add_emod u (p2 f)
  have y0:=Int.emod_nonneg u (show p2 f≠0 by omega)
  have y1:=Int.emod_lt_of_pos u (show 0<p2 f by omega)
  have x0:0≤u / p2 f:=Int.ediv_nonneg u0 (by omega)
  have xl:u / p2 f<p2 e:=Int.ediv_lt_of_lt_mul (by omega) (by rw [← p5];exact u1)
  have z1:u / p2 f=0↔u<p2 f:=by
    constructor
    · intro z;rw [z] at d;omega
    · intro z;exact Int.ediv_eq_zero_of_lt u0 z
  have z2:u / p2 f<p2 e - 1↔u<eS e f:=Int.ediv_lt_iff_lt_mul (by omega)
  have z3:¬ u / p2 f<p2 e - 1→u % p2 f=u - eS e f:=by
    intro z
    have:u / p2 f=p2 e - 1:=by omega
    rw [this,Int.mul_comm] at d
    show _=u - (p2 e - 1)*p2 f
    omega
  unfold kindP kindU
  by_cases c1:u / p2 f=0
  · have c1':=z1.mp c1
    have e1:u % p2 f=u:=Int.emod_eq_of_lt u0 c1'
    rw [if_pos c1,e1]
    by_cases c2:u=0
    · rw [if_pos c2,if_pos c2]
    · rw [if_neg c2,if_neg c2,if_pos c1']
  · have c1':¬ u<p2 f:=fun z=>c1 (z1.mpr z)
    have c2:¬ u=0:=by omega
    rw [if_neg c1,if_neg c2,if_neg c1']
    by_cases c3:u / p2 f<p2 e - 1
    · rw [if_pos c3,if_pos (z2.mp c3)]
    · have c3':¬ u<eS e f:=fun z=>c3 (z2.mpr z)
      rw [if_neg c3,if_neg c3',z3 c3]
      by_cases c4:u=eS e f
      · rw [if_pos (by omega),if_pos c4]
      · rw [if_neg (by omega),if_neg c4]
        by_cases c5:u<eS e f+p2 (f - 1)
        · rw [if_neg (by omega),if_pos c5]
        · rw [if_pos (by omega),if_neg c5]
theorem z5s {e f s u:Int} (h:Wu e f s u):zg [.tup [.int e,.int f],.int (u+s*p2 (e+f))] = .ok (.str (kindU e f u)):=by
  obtain ⟨a,b,_,_,c,d⟩:=wu_word h
  have k:=z8k h.1 a b
  rw [c,d,kind_u h.1 h.2.2.1 h.2.2.2] at k
  exact k
theorem z8g {e f s u:Int} (h:Wu e f s u):zba [.tup [.int e,.int f],.int (u+s*p2 (e+f))] = .ok (.tup [.int s,.int (u / p2 f),.int (u % p2 f)]):=by
  obtain ⟨a,b,c1,_,c,d⟩:=wu_word h
  have k:=z74 h.1 a b
  rw [c,d,c1] at k
  exact k
theorem z8m {e f s u:Int} (h:Wu e f s u):z1x [.tup [.int e,.int f],.int (u+s*p2 (e+f))] = .ok (.int u):=by
  obtain ⟨a,b,c1,c2,c,d⟩:=wu_word h
  have k:=zc3 h.1 a b
  rw [c2] at k
  exact k
theorem z7a {e f s u:Int} (h:Wu e f s u):z19 [.tup [.int e,.int f],.int (u+s*p2 (e+f))] = .ok (.int (u+(1 - s)*p2 (e+f))):=by
  obtain ⟨a,b,c1,c2,c,d⟩:=wu_word h
  have k:=z9p h.1 a b
  have u0:=h.2.2.1
  have u1:=h.2.2.2
  have z:(u+s*p2 (e+f)+p2 (e+f)) % (2*p2 (e+f))=u+(1 - s)*p2 (e+f):=by
    rcases h.2.1 with rfl | rfl
    · rw [Int.emod_eq_of_lt (by omega) (by omega)];omega
    · have e1:u+1*p2 (e+f)+p2 (e+f)=u+1*(2*p2 (e+f)):=by omega
      rw [e1,Int.add_mul_emod_self_right,Int.emod_eq_of_lt (by omega) (by omega)];omega
  rw [z] at k
  exact k
theorem zbb {e f:Int} (h:Wd e f):z7 [.tup [.int e,.int f]] = .ok (.int (eS e f)):=by
  obtain ⟨p1,p3,p4,p5,p6,b1,b2,b3,b4,p7,p8⟩:=p2_wd h
  have a:=zb7 h
  have b:=z3w (c:=e) (by have:=h.1;omega) (by have:=h.2.1;omega)
  have c:=z8j (s:=0) (x:=p2 e - 1) (y:=0) h (by decide) (by decide) (by omega) (by omega) (by decide) (by omega)
  rw [Int.zero_mul,Int.zero_add,Int.add_zero] at c
  dsimp! [z7,z7r,a,b,c]
theorem z9f {e f:Int} (h:Wd e f):z1i [.tup [.int e,.int f]] = .ok (.int (eS e f+p2 (f - 1))):=by
  obtain ⟨p1,p3,p4,p5,p6,b1,b2,b3,b4,p7,p8⟩:=p2_wd h
  have a:=zb7 h
  have a2:=zbf h
  have b:=z3w (c:=e) (by have:=h.1;omega) (by have:=h.2.1;omega)
  have c:=z8j (s:=0) (x:=p2 e - 1) (y:=p2 (f - 1)) h (by decide) (by decide) (by omega) (by omega) (by omega) (by omega)
  rw [Int.zero_mul,Int.zero_add] at c
  dsimp! [z1i,z81,a,a2,b,c]
theorem eS_facts {e f:Int} (h:Wd e f):p2 (e+f)=eS e f+p2 f∧3*p2 f≤eS e f∧2≤p2 f∧p2 f=2*p2 (f - 1)∧1≤p2 (f - 1):=by
  obtain ⟨p1,p3,p4,p5,p6,b1,b2,b3,b4,p7,p8⟩:=p2_wd h
  obtain ⟨m1,m3⟩:=top_word h
  exact ⟨m1,m3,p3,p4,p7⟩
noncomputable def rk (s u:Int):Int:=if s=1 then -u else u
theorem in_still:cIn (.str "still") (.tup [.str "still",.str "loud"]) = .ok (.bl true):=rfl
theorem in_loud:cIn (.str "loud") (.tup [.str "still",.str "loud"]) = .ok (.bl true):=rfl
theorem in_nought:cIn (.str "nought") (.tup [.str "still",.str "loud"]) = .ok (.bl false):=rfl
theorem in_small:cIn (.str "small") (.tup [.str "still",.str "loud"]) = .ok (.bl false):=rfl
theorem in_plain:cIn (.str "plain") (.tup [.str "still",.str "loud"]) = .ok (.bl false):=rfl
theorem in_endless:cIn (.str "endless") (.tup [.str "still",.str "loud"]) = .ok (.bl false):=rfl
theorem isnone {e f u:Int} (h:Wd e f):cIn (.str (kindU e f u)) (.tup [.str "still",.str "loud"]) = .ok (.bl (decide (eS e f<u))):=by
  obtain ⟨m1,m3,p3,p4,p7⟩:=eS_facts h
  unfold kindU
  by_cases c1:u=0
  · rw [if_pos c1,decide_eq_false (by omega)];exact in_nought
  · by_cases c2:u<p2 f
    · rw [if_neg c1,if_pos c2,decide_eq_false (by omega)];exact in_small
    · by_cases c3:u<eS e f
      · rw [if_neg c1,if_neg c2,if_pos c3,decide_eq_false (by omega)];exact in_plain
      · by_cases c4:u=eS e f
        · rw [if_neg c1,if_neg c2,if_neg c3,if_pos c4,decide_eq_false (by omega)];exact in_endless
        · by_cases c5:u<eS e f+p2 (f - 1)
          · rw [if_neg c1,if_neg c2,if_neg c3,if_neg c4,if_pos c5,decide_eq_true (by omega)];exact in_loud
          · rw [if_neg c1,if_neg c2,if_neg c3,if_neg c4,if_neg c5,decide_eq_true (by omega)];exact in_still
theorem z77 {e f s u:Int} (h:Wu e f s u) (hu:u≤eS e f):zb [.tup [.int e,.int f],.int (u+s*p2 (e+f))] = .ok (.int (rk s u)):=by
  have k:=z5s h
  have i:=isnone (u:=u) h.1
  rw [decide_eq_false (by omega)] at i
  have a:=z8m h
  have b:=z8g h
  unfold rk
  rcases h.2.1 with rfl | rfl
  · dsimp! [zb,z6l,k,i,a,b,if_false,Int.zero_ne_one]
  · dsimp! [zb,z6l,k,i,a,b,if_true]
theorem z29 {e f u:Int} (h:Wu e f 0 u) (b:Bool):zd [.tup [.int e,.int f],.int u,.bl b] = .ok (.int (u+(if b then 1 else 0)*p2 (e+f))):=by
  have a:=z7a h
  rw [Int.zero_mul,Int.add_zero] at a
  cases b
  · have z:u+(if false=true then (1:Int) else 0)*p2 (e+f)=u:=by rw [if_neg (by decide)];omega
    rw [z]
    dsimp! [zd,z6t]
  · have z:u+(if true=true then (1:Int) else 0)*p2 (e+f)=u+(1 - 0)*p2 (e+f):=by rw [if_pos rfl];omega
    rw [z]
    dsimp! [zd,z6t,a]
theorem zc6 {e f r:Int} (h:Wd e f) (h1 : -(eS e f)≤r) (h2:r≤eS e f):z12 [.tup [.int e,.int f],.int r] = .ok (.int (ab r+(if r<0 then 1 else 0)*p2 (e+f))):=by
  obtain ⟨m1,m3,p3,p4,p7⟩:=eS_facts h
  have a:=zbb h
  have b:=zbl h1 h2
  have c:=z29 (u:=ab r) ⟨h,.inl rfl,ab_nn r,by unfold ab;split<;>omega⟩ (decide (r<0))
  have z:(if decide (r<0)=true then (1:Int) else 0)=if r<0 then 1 else 0:=by
    by_cases x:r<0
    · rw [decide_eq_true x,if_pos x];rfl
    · rw [decide_eq_false x,if_neg x];rfl
  rw [z] at c
  dsimp! [z12,z8e,a,b,ab_e,c]
noncomputable def stU (f u:Int):Int:=if u<p2 f then u else (u % p2 f+p2 f)*p2 (u / p2 f - 1)
theorem stU_lo {f u:Int} (h:u<p2 f):stU f u=u:=if_pos h
theorem stU_bounds {f u:Int} (h:p2 f≤u):p2 f*p2 (u / p2 f - 1)≤stU f u∧stU f u<p2 f*p2 (u / p2 f):=by
  have pf:=p2_pos f
  have y0:=Int.emod_nonneg u (show p2 f≠0 by omega)
  have y1:=Int.emod_lt_of_pos u (show 0<p2 f by omega)
  have x1:1≤u / p2 f:=(Int.le_ediv_iff_mul_le pf).mpr (by omega)
  have pp:=p2_pos (u / p2 f - 1)
  have e:p2 (u / p2 f)=2*p2 (u / p2 f - 1):=by rw [← p2_succ (by omega)];congr 1;omega
  unfold stU
  rw [if_neg (by omega)]
  constructor
  · exact Int.mul_le_mul_of_nonneg_right (by omega) (by omega)
  · rw [e,← Int.mul_assoc]
    exact Int.mul_lt_mul_of_pos_right (by omega) pp
theorem stU_lt {f u v:Int} (u0:0≤u) (h:u<v):stU f u<stU f v:=by
  have pf:=p2_pos f
  by_cases c1:v<p2 f
  · rw [stU_lo c1,stU_lo (by omega)];exact h
  · obtain ⟨v1,v2⟩:=stU_bounds (f:=f) (u:=v) (by omega)
    have x1:1≤v / p2 f:=(Int.le_ediv_iff_mul_le pf).mpr (by omega)
    by_cases c2:u<p2 f
    · rw [stU_lo c2]
      have:p2 f*1≤p2 f*p2 (v / p2 f - 1):=Int.mul_le_mul_of_nonneg_left (by have:=p2_pos (v / p2 f - 1);omega) (by omega)
      omega
    · obtain ⟨u1,u2⟩:=stU_bounds (f:=f) (u:=u) (by omega)
      have x2:1≤u / p2 f:=(Int.le_ediv_iff_mul_le pf).mpr (by omega)
      have le:u / p2 f≤v / p2 f:=Int.ediv_le_ediv pf (by omega)
      by_cases c3:u / p2 f=v / p2 f
      · have d1:=Int.mul_ediv_add_emod u (p2 f)
        have d2:=Int.mul_ediv_add_emod v (p2 f)
        unfold stU
        rw [if_neg c2,if_neg c1]
        rw [c3] at d1 ⊢
        exact Int.mul_lt_mul_of_pos_right (by omega) (p2_pos _)
      · have:p2 (u / p2 f)≤p2 (v / p2 f - 1):=p2_le (by omega) (by omega)
        have:=Int.mul_le_mul_of_nonneg_left this (Int.le_of_lt pf)
        omega
theorem stU_nn {f u:Int} (u0:0≤u):0≤stU f u:=by
  have:=p2_pos f
  by_cases c:u=0
  · rw [c,stU_lo (by omega)];decide
  · have:=stU_lt (f:=f) (u:=0) (v:=u) (by decide) (by omega)
    rw [stU_lo (u:=0) (by omega)] at this
    omega
noncomputable def sv (f r:Int):Int:=if r<0 then -(stU f (-r)) else stU f r
theorem sv_lt {f r q:Int} (h:r<q):sv f r<sv f q:=by
  unfold sv
  by_cases c1:q<0
  · rw [if_pos c1,if_pos (by omega)]
    have:=stU_lt (f:=f) (u:=-q) (v:=-r) (by omega) (by omega)
    omega
  · rw [if_neg c1]
    by_cases c2:r<0
    · rw [if_pos c2]
      have a:=stU_nn (f:=f) (u:=q) (by omega)
      have b:=stU_lt (f:=f) (u:=0) (v:=-r) (by decide) (by omega)
      have c:=stU_nn (f:=f) (u:=0) (by decide)
      omega
    · rw [if_neg c2]
      exact stU_lt (by omega) h
theorem sv_iff {f r q:Int}:sv f r<sv f q↔r<q:=by
  constructor
  · intro h
    by_cases c:r<q
    · exact c
    · by_cases c2:r=q
      · rw [c2] at h;omega
      · have:=sv_lt (f:=f) (r:=q) (q:=r) (by omega);omega
  · exact sv_lt
theorem sv_rk {f s u:Int} (hs:s=0∨s=1) (u0:0≤u):sv f (rk s u)=if s=1 then -(stU f u) else stU f u:=by
  have:=p2_pos f
  rcases hs with rfl | rfl
  · show sv f u=_
    unfold sv;rw [if_neg (by omega),if_neg (by decide)]
  · show sv f (-u)=_
    rw [if_pos rfl]
    unfold sv
    by_cases c:u=0
    · subst c;rw [Int.neg_zero,if_neg (by decide),stU_lo (by omega)];decide
    · rw [if_pos (by omega),Int.neg_neg]
noncomputable def lp (e f:Int):Int:=1 - (p2 (e - 1) - 1) - f
theorem lp_bounds {e f:Int} (h:Wd e f) : -1082≤lp e f∧lp e f≤-1∧2≤p2 (e - 1)∧p2 (e - 1)≤1024:=by
  obtain ⟨h1,h2,h3,h4⟩:=h
  have a:=p2_le (a:=e - 1) (b:=10) (by omega) (by omega)
  have b:=p2_two (j:=e - 1) (by omega)
  have e10:p2 10=1024:=by decide
  unfold lp
  omega
def WayK (p:Int) (z:Str) (k:Nat):Prop:=(p=0∧z="even"∧k=21)∨(p=1∧z="away"∧k=22)∨(p=2∧z="in"∧k=23)∨(p=3∧z="up"∧k=24)∨(p=4∧z="down"∧k=25)
theorem way_q {p:Int}{z:Str}{k:Nat} (h:WayK p z k):z1y [.str z] = .ok (.ins k)∧oItem (.lst [.str "even",.str "away",.str "in",.str "up",.str "down"]) (.int p) = .ok (.str z):=by
  rcases h with ⟨rfl,rfl,rfl⟩ | ⟨rfl,rfl,rfl⟩ | ⟨rfl,rfl,rfl⟩ | ⟨rfl,rfl,rfl⟩ | ⟨rfl,rfl,rfl⟩<;>exact ⟨rfl,rfl⟩
theorem asVal_ins (c:Nat):asVal (some (.ins c)) = .ok (.ins c):=rfl
noncomputable def gw (p:Int) (odd:Bool) (sd:Int) (below:Bool):Bool:=if p=0 then decide (sd=3) || (decide (sd=2) && odd) else if p=1 then decide (2≤sd) else if p=2 then false else if p=3 then !below else below
theorem z8h {p:Int}{z:Str}{k:Nat}{sd:Int} (odd below:Bool) (h:WayK p z k) (hs:sd=0∨sd=1∨sd=2∨sd=3) {fo:FE}{g:FA}{x0:Option PV}{ρ:MEnv} (h1:fo (x0::ρ) = .ok (.ins k)) (h2:g (x0::ρ) = .ok [.bl odd,.int sd,.bl below]):fMeth z3d fo g (x0::ρ) = .ok (.bl (gw p odd sd below)):=by
  show (fo (x0::ρ)).bind (mtK z3d (g (x0::ρ)))=_
  rw [h1,h2]
  rcases h with ⟨rfl,rfl,rfl⟩ | ⟨rfl,rfl,rfl⟩ | ⟨rfl,rfl,rfl⟩ | ⟨rfl,rfl,rfl⟩ | ⟨rfl,rfl,rfl⟩<;>rcases hs with rfl | rfl | rfl | rfl<;>cases odd<;>cases below<;>rfl
theorem side_of (r u:Int):sideP r u=0∨sideP r u=1∨sideP r u=2∨sideP r u=3:=by
  unfold sideP
  split
  · exact .inl rfl
  · split
    · exact .inr (.inl rfl)
    · split
      · exact .inr (.inr (.inl rfl))
      · exact .inr (.inr (.inr rfl))
theorem side_scale {r u a b:Int} (hu:0<u) (hb:0<b) (h:r*b=a*u):sideP r u=sideP a b:=by
  have c0:(2*r=0)↔(2*a=0):=by
    constructor
    · intro x
      have r0:r=0:=by omega
      rw [r0,Int.zero_mul] at h
      rcases Int.mul_eq_zero.mp h.symm with y | y<;>omega
    · intro x
      have a0:a=0:=by omega
      rw [a0,Int.zero_mul] at h
      rcases Int.mul_eq_zero.mp h with y | y<;>omega
  have e:2*r*b=2*a*u:=by rw [Int.mul_assoc,h,Int.mul_assoc]
  have c1:(2*r<u)↔(2*a<b):=by
    constructor
    · intro x
      have y:2*r*b<u*b:=Int.mul_lt_mul_of_pos_right x hb
      rw [e,Int.mul_comm u b] at y
      exact Int.lt_of_mul_lt_mul_right y (Int.le_of_lt hu)
    · intro x
      have y:2*a*u<b*u:=Int.mul_lt_mul_of_pos_right x hu
      rw [← e,Int.mul_comm b u] at y
      exact Int.lt_of_mul_lt_mul_right y (Int.le_of_lt hb)
  have c2:(2*r=u)↔(2*a=b):=by
    constructor
    · intro x
      rw [x,Int.mul_comm] at e
      exact (Int.eq_of_mul_eq_mul_right (by omega) e).symm
    · intro x
      rw [x,Int.mul_comm b u] at e
      exact Int.eq_of_mul_eq_mul_right (by omega) e
  unfold sideP
  simp only [c0,c1,c2]
noncomputable def gr (p q sd:Int) (below:Bool):Bool:=decide (sd≠0) && gw p (decide (q % 2=1)) sd below
noncomputable def szT (f p t q sd:Int) (below:Bool):Int:=t*p2 f+(if gr p q sd below then q+1 else q)
noncomputable def mkT (f q sd:Int):Int:=if sd=0 then 0 else if q<p2 f then 24 else 16
noncomputable def sg (below:Bool):Int:=if below then 1 else 0
noncomputable def tkT (e f p t q sd:Int) (below:Bool):PV:=if szT f p t q sd below<eS e f then .tup [.int (szT f p t q sd below+sg below*p2 (e+f)),.int (mkT f q sd)] else .tup [.int ((if gw p true 3 below then eS e f else eS e f - 1)+sg below*p2 (e+f)),.int 20]
theorem z9m {p q sd:Int}{z:Str}{k:Nat} (below:Bool) (h:WayK p z k) (hs:sd=0∨sd=1∨sd=2∨sd=3):z39 [.ins k,.tup [.int q,.int sd],.bl below] = .ok (.int (if gr p q sd below then q+1 else q)):=by
  have g:=z8h (decide (q % 2=1)) below h hs (fo:=fVar 0) (g:=aCons (fBin cEq (fBin oMod (fBin oItem (fVar 1) (fC (.int 0))) (fC (.int 2))) (fC (.int 1))) (aCons (fBin oItem (fVar 1) (fC (.int 1))) (aCons (fVar 2) (aNil))))
    (x0:=some (.ins k)) (ρ:=[some (.tup [.int q,.int sd]),some (.bl below),none]) rfl (by dsimp! [])
  unfold gr
  by_cases c:sd=0
  · have e1:decide (sd≠0)=false:=decide_eq_false (by omega)
    have e2:decide (sd=0)=true:=decide_eq_true c
    dsimp! [z39,z6q,List.replicate,List.set,e1,e2,asVal_ins,Bool.false_and,Bool.not_true,Bool.false_eq_true,if_false]
  · have e1:decide (sd≠0)=true:=decide_eq_true c
    have e2:decide (sd=0)=false:=decide_eq_false c
    generalize gw p (decide (q % 2=1)) sd below=y at *
    cases y<;>dsimp! [z39,z6q,List.replicate,List.set,e1,e2,asVal_ins,g,Bool.true_and,Bool.not_false,Bool.false_eq_true,if_false,if_true]
theorem z9j {e f p t q sd hh:Int}{z:Str}{k:Nat} (below:Bool) (h:Wd e f) (w:WayK p z k) (ht:0≤t) (ht2:t≤100000) (q0:0≤q) (q1:q<2*p2 f) (hs:sd=0∨sd=1∨sd=2∨sd=3)
    (sp:z1u [.tup [.int e,.int f],.int hh] = .ok (.int (lp e f+t))) (hm:hh<lp e f+f↔q<p2 f) :
    z2x [.tup [.int e,.int f],.ins k,.bl below,.int hh,.tup [.int q,.int sd]] = .ok (tkT e f p t q sd below):=by
  obtain ⟨m1,m3,p3,p4,p7⟩:=eS_facts h
  have le:=z75 h
  have bi:=z8f h
  have en:=zbb h
  have st:=z9m (q:=q) below w hs
  have lpe:1 - (p2 (e - 1) - 1) - f=lp e f:=rfl
  rw [lpe] at le
  have e1:lp e f+t - lp e f=t:=by omega
  have os:okShl t f:=okShl_of (n:=20) (by have:=h.2.2.1;omega) (nb_le (by omega)) (by have:=h.2.2.2;omega)
  have sz0:0≤szT f p t q sd below:=by
    unfold szT
    have:=Int.mul_nonneg ht (Int.le_of_lt (p2_pos f))
    split<;>omega
  have sze:t*p2 f+(if gr p q sd below then q+1 else q)=szT f p t q sd below:=rfl
  have g3:=fun (x0:Option PV) (ρ:MEnv) (a:getV (x0::ρ) 1 = .ok (.ins k)) (b:getV (x0::ρ) 2 = .ok (.bl below))=>z8h true below w (.inr (.inr (.inr rfl))) (fo:=fVar 1) (g:=aCons (fC (.bl true)) (aCons (fC (.int 3)) (aCons (fVar 2) (aNil)))) (x0:=x0) (ρ:=ρ) a (by
    show R.bind _ _=_
    dsimp! [b])
  have mk:z2w [.tup [.int e,.int f],.int hh,.int sd] = .ok (.int (mkT f q sd)):=by
    unfold mkT
    have e5:1 - (p2 (e - 1) - 1)=lp e f+f:=by unfold lp;omega
    by_cases c:sd=0
    · dsimp! [z2w,z5n,c,if_true]
    · by_cases c2:q<p2 f
      · have c3:=hm.mpr c2
        dsimp! [z2w,z5n,c,bi,e5,c2,c3,if_true,if_false]
      · have c3:¬ hh<lp e f+f:=fun z=>c2 (hm.mp z)
        dsimp! [z2w,z5n,c,bi,e5,c2,c3,if_true,if_false]
  unfold tkT
  by_cases c:szT f p t q sd below<eS e f
  · have ws:=z29 (u:=szT f p t q sd below) ⟨h,.inl rfl,sz0,by omega⟩ below
    have sge:(if below=true then (1:Int) else 0)=sg below:=rfl
    rw [sge] at ws
    rw [if_pos c]
    dsimp! [z2x,z5o,List.replicate,List.set,en,sp,le,e1,os,asVal_ins,st,sze,c,ws,mk]
  · rw [if_neg c]
    have g3':=g3 (some (.tup [.int e,.int f])) [some (.ins k),some (.bl below),some (.int hh),some (.tup [.int q,.int sd]),some (.int (eS e f)),some (.int t),some (.int (szT f p t q sd below))] rfl rfl
    have sge:(if below=true then (1:Int) else 0)=sg below:=rfl
    generalize gw p true 3 below=y at *
    cases y with
    | true =>
      have ws:=z29 (u:=eS e f) ⟨h,.inl rfl,by omega,by omega⟩ below
      rw [sge] at ws
      dsimp! [z2x,z5o,List.replicate,List.set,en,sp,le,e1,os,asVal_ins,st,sze,c,g3',ws,if_true]
    | false =>
      have ws:=z29 (u:=eS e f - 1) ⟨h,.inl rfl,by omega,by omega⟩ below
      rw [sge] at ws
      dsimp! [z2x,z5o,List.replicate,List.set,en,sp,le,e1,os,asVal_ins,st,sze,c,g3',ws,Bool.false_eq_true,if_false]
theorem z9n {e f p k d:Int}{z:Str}{kk:Nat} (h:Wd e f) (w:WayK p z kk):zh [.tup [.int e,.int f],.int 0,.int k,.int d,.str z] = .ok (.tup [.int 0,.int 0]):=by
  have cw:=zb7 h
  have wy:=(way_q w).1
  dsimp! [zh,z6r,List.replicate,List.set,cw,wy,asVal_ins]
noncomputable def tU (f u:Int):Int:=if u<p2 f then 0 else u / p2 f - 1
noncomputable def qU (f u:Int):Int:=u - tU f u*p2 f
theorem tq_facts {f u:Int} (hf:1≤f) (u0:0≤u):0≤tU f u∧0≤qU f u∧qU f u<2*p2 f∧(tU f u=0∨p2 f≤qU f u)∧stU f u=qU f u*p2 (tU f u)∧stU f (u+1)=(qU f u+1)*p2 (tU f u)∧tU f u*p2 f+qU f u=u∧qU f u % 2=u % 2∧(qU f u<p2 f↔u<p2 f)∧tU f u≤u / p2 f:=by
  have pf:=p2_pos f
  have pf2:p2 f=2*p2 (f - 1):=by rw [← p2_succ (by omega)];congr 1;omega
  have par:(u - tU f u*p2 f) % 2=u % 2:=by
    have:tU f u*p2 f=2*(tU f u*p2 (f - 1)):=by rw [pf2,Int.mul_left_comm]
    rw [this];omega
  have dn:0≤u / p2 f:=Int.ediv_nonneg u0 (Int.le_of_lt pf)
  by_cases h:u<p2 f
  · have et:tU f u=0:=if_pos h
    have eq:qU f u=u:=by unfold qU;rw [et];omega
    have e0:p2 0=1:=rfl
    refine ⟨by omega,by omega,by omega,.inl et,?_,?_,?_,?_,?_,by omega⟩
    · rw [eq,et,stU_lo h,e0];omega
    · rw [eq,et,e0]
      by_cases h2:u+1<p2 f
      · rw [stU_lo h2];omega
      · have e1:u+1=p2 f:=by omega
        unfold stU
        rw [if_neg h2,e1,Int.emod_self,Int.ediv_self (by omega)]
        have:p2 (1 - 1)=1:=rfl
        rw [this];omega
    · rw [eq,et];omega
    · rw [eq]
    · rw [eq]
  · have et:tU f u=u / p2 f - 1:=if_neg h
    have m1:1≤u / p2 f:=by
      have:=Int.ediv_le_ediv pf (show p2 f≤u by omega)
      rw [Int.ediv_self (by omega)] at this
      exact this
    have r0:=Int.emod_nonneg u (show p2 f≠0 by omega)
    have r1:=Int.emod_lt_of_pos u pf
    have dm:=Int.mul_ediv_add_emod u (p2 f)
    have eq:qU f u=u % p2 f+p2 f:=by
      unfold qU
      rw [et,Int.sub_mul,Int.one_mul,Int.mul_comm]
      omega
    refine ⟨by omega,by omega,by omega,.inr (by omega),?_,?_,?_,par,?_,by omega⟩
    · rw [eq,et];unfold stU;rw [if_neg h]
    · rw [eq,et]
      unfold stU
      rw [if_neg (by omega)]
      by_cases c:u % p2 f+1<p2 f
      · have e1:(u+1) % p2 f=u % p2 f+1:=by
          have:u+1=u % p2 f+1+p2 f*(u / p2 f):=by omega
          rw [this,Int.add_mul_emod_self_left,Int.emod_eq_of_lt (by omega) c]
        have e2:(u+1) / p2 f=u / p2 f:=by
          have:u+1=u % p2 f+1+p2 f*(u / p2 f):=by omega
          rw [this,Int.add_mul_ediv_left _ _ (by omega),Int.ediv_eq_zero_of_lt (by omega) c];omega
        rw [e1,e2]
        congr 1
        omega
      · have e3:u % p2 f+1=p2 f:=by omega
        have e1:(u+1)=p2 f*(u / p2 f+1):=by rw [Int.mul_add,Int.mul_one];omega
        have e4:(u+1) % p2 f=0:=by rw [e1];exact Int.mul_emod_right _ _
        have e5:(u+1) / p2 f=u / p2 f+1:=by rw [e1];exact Int.mul_ediv_cancel_left _ (by omega)
        rw [e4,e5,Int.zero_add,show u / p2 f+1 - 1=u / p2 f - 1+1 by omega,p2_succ (by omega),← Int.mul_assoc]
        congr 1
        omega
    · unfold qU;omega
    · rw [eq];omega
theorem ht_ge {s d f g:Int} (hf:0≤f):d*p2 (f+g)≤s*p2 (-(f+g))↔p2 f*(d*p2 g)≤s*p2 (-g):=by
  have c:=p2_cross (e:=g) (f:=f+g) (by omega)
  rw [show f+g - g=f by omega] at c
  have k1:=p2_pos (-(f+g))
  have k2:=p2_pos (-g)
  have e1:d*p2 (f+g)*p2 (-g)=p2 f*(d*p2 g)*p2 (-(f+g)):=by
    rw [Int.mul_assoc,c];simp only [Int.mul_comm,Int.mul_left_comm,Int.mul_assoc]
  have e2:s*p2 (-(f+g))*p2 (-g)=s*p2 (-g)*p2 (-(f+g)):=by rw [Int.mul_assoc,Int.mul_assoc,Int.mul_comm (p2 (-(f+g)))]
  constructor
  · intro h
    have:=Int.mul_le_mul_of_nonneg_right h (Int.le_of_lt k2)
    rw [e1,e2] at this
    exact Int.le_of_mul_le_mul_right this k1
  · intro h
    have:=Int.mul_le_mul_of_nonneg_right h (Int.le_of_lt k1)
    rw [← e1,← e2] at this
    exact Int.le_of_mul_le_mul_right this k2
theorem ht_lt2 {s d f g:Int} (hf:0≤f):s*p2 (-(f+g))<2*(d*p2 (f+g))↔s*p2 (-g)<2*(p2 f*(d*p2 g)):=by
  have h:=ht_ge (s:=s) (d:=2*d) (g:=g) hf
  have e1:2*d*p2 (f+g)=2*(d*p2 (f+g)):=Int.mul_assoc _ _ _
  have e2:p2 f*(2*d*p2 g)=2*(p2 f*(d*p2 g)):=by rw [Int.mul_assoc,Int.mul_left_comm]
  rw [e1,e2] at h
  constructor
  · intro x
    apply Decidable.byContradiction
    intro c
    have:=h.mpr (by omega)
    omega
  · intro x
    apply Decidable.byContradiction
    intro c
    have:=h.mp (by omega)
    omega
theorem ht_mono {s d x y:Int} (hd:0<d) (h:y≤x) (hx:d*p2 x≤s*p2 (-x)):d*p2 y≤s*p2 (-y):=by
  have c:=p2_cross (e:=y) (f:=x) h
  have k1:=p2_pos (-x)
  have k2:=p2_pos (-y)
  have k3:=p2_pos (x - y)
  have k4:=p2_pos y
  have a1:d*p2 x*p2 (-y)≤s*p2 (-x)*p2 (-y):=Int.mul_le_mul_of_nonneg_right hx (Int.le_of_lt k2)
  have a2:d*p2 x*p2 (-y)=d*p2 y*p2 (x - y)*p2 (-x):=by rw [Int.mul_assoc,c];simp only [Int.mul_comm,Int.mul_left_comm,Int.mul_assoc]
  have a3:s*p2 (-x)*p2 (-y)=s*p2 (-y)*p2 (-x):=by rw [Int.mul_assoc,Int.mul_assoc,Int.mul_comm (p2 (-x))]
  rw [a2,a3] at a1
  have a4:=Int.le_of_mul_le_mul_right a1 k1
  have a5:d*p2 y*1≤d*p2 y*p2 (x - y):=Int.mul_le_mul_of_nonneg_left (by omega) (Int.mul_nonneg (by omega) (by omega))
  rw [Int.mul_one] at a5
  omega
theorem ht_mono2 {s d x y:Int} (hd:0<d) (h:x<y) (hx:s*p2 (-x)<2*(d*p2 x)):s*p2 (-y)<d*p2 y:=by
  have c:=p2_cross (e:=x) (f:=y) (by omega)
  have k1:=p2_pos (-x)
  have k2:=p2_pos (-y)
  have k3:=p2_two (j:=y - x) (by omega)
  have k4:=p2_pos x
  have a1:s*p2 (-x)*p2 (-y)<2*(d*p2 x)*p2 (-y):=Int.mul_lt_mul_of_pos_right hx k2
  have a2:d*p2 y*p2 (-x)=d*p2 x*p2 (-y)*p2 (y - x):=by rw [Int.mul_assoc,c];simp only [Int.mul_comm,Int.mul_left_comm,Int.mul_assoc]
  have a3:s*p2 (-x)*p2 (-y)=s*p2 (-y)*p2 (-x):=by rw [Int.mul_assoc,Int.mul_assoc,Int.mul_comm (p2 (-x))]
  have a4:2*(d*p2 x)*p2 (-y)=d*p2 x*p2 (-y)*2:=by rw [Int.mul_assoc,Int.mul_comm]
  have a5:d*p2 x*p2 (-y)*2≤d*p2 x*p2 (-y)*p2 (y - x):=Int.mul_le_mul_of_nonneg_left k3 (Int.mul_nonneg (Int.mul_nonneg (by omega) (by omega)) (by omega))
  rw [a3,a4] at a1
  have a6:s*p2 (-y)*p2 (-x)<d*p2 y*p2 (-x):=by rw [a2];omega
  exact Int.lt_of_mul_lt_mul_right a6 (Int.le_of_lt k1)
theorem rest_of {S u b a q:Int} (hu:0<u) (hb:0<b) (a0:0≤a) (a1:a<b) (eq:S*b=(q*b+a)*u):∃ r,S=q*u+r∧0≤r∧r<u∧r*b=a*u:=by
  have e2:q*u*b=q*b*u:=by rw [Int.mul_assoc,Int.mul_comm u b,← Int.mul_assoc]
  refine ⟨S - q*u,by omega,?_,?_,?_⟩
  · have:q*u*b≤S*b:=by
      rw [eq,Int.add_mul]
      have:=Int.mul_nonneg a0 (Int.le_of_lt hu)
      omega
    have:=Int.le_of_mul_le_mul_right this hb
    omega
  · have:(S - q*u)*b<u*b:=by
      rw [Int.sub_mul,eq,Int.add_mul]
      have e3:a*u<b*u:=Int.mul_lt_mul_of_pos_right a1 hu
      rw [Int.mul_comm u b]
      omega
    exact Int.lt_of_mul_lt_mul_right this (Int.le_of_lt hb)
  · rw [Int.sub_mul,eq,Int.add_mul]
    omega
theorem z9h {e f t q a b n k d:Int} (h:Wd e f) (hn:n≠0) (hd:0<d) (b1:nb n≤20000) (b2:nb d≤3000) (ht:0≤t) (hk : -20000≤lp e f+t - k) (hk2:lp e f+t - k≤5000) (hb:0<b) (a0:0≤a) (a1:a<b)
    (q0:0≤q) (q1:q<2*p2 f) (qt:t=0∨p2 f≤q) (eq:ab n*p2 (k - (lp e f+t))*b=(q*b+a)*(d*p2 (lp e f+t - k))) :
    ∃ hh,z2t [.int n,.int k,.int d] = .ok (.int hh)∧z1u [.tup [.int e,.int f],.int hh] = .ok (.int (lp e f+t))∧z1p [.int n,.int k,.int d,.int (lp e f+t)] = .ok (.tup [.int q,.int (sideP a b)]) ∧
      (hh<lp e f+f↔q<p2 f):=by
  obtain ⟨g1,g2,g3,g4⟩:=id h
  obtain ⟨x,e1,hx,x0,x1⟩:=z8i (k:=k) hn hd (by omega) (by omega)
  have le:=z75 h
  have pf:=p2_pos f
  generalize hg:lp e f+t - k=g at *
  have hg':k - (lp e f+t) = -g:=by omega
  rw [hg'] at eq
  have hu:0<d*p2 g:=Int.mul_pos hd (p2_pos g)
  obtain ⟨r,er,r0,r1,r2⟩:=rest_of hu hb a0 a1 eq
  have big:p2 f≤q→x=f+g:=fun hq=>by
    refine ht_unique hd hx ⟨(ht_ge (by omega)).mpr ?_,(ht_lt2 (by omega)).mpr ?_⟩
    · rw [er]
      have:=Int.mul_le_mul_of_nonneg_right hq (Int.le_of_lt hu)
      omega
    · rw [er]
      have e3:(q+1)*(d*p2 g)≤2*p2 f*(d*p2 g):=Int.mul_le_mul_of_nonneg_right (by omega) (Int.le_of_lt hu)
      rw [Int.add_mul,Int.one_mul,Int.mul_assoc] at e3
      omega
  have low:q<p2 f→x<f+g:=fun hq=>by
    apply Decidable.byContradiction
    intro c
    have:=(ht_ge (by omega)).mp (ht_mono hd (show f+g≤x by omega) hx.1)
    rw [er] at this
    have e3:(q+1)*(d*p2 g)≤p2 f*(d*p2 g):=Int.mul_le_mul_of_nonneg_right (by omega) (Int.le_of_lt hu)
    rw [Int.add_mul,Int.one_mul] at e3
    omega
  refine ⟨x+k,e1,?_,?_,?_⟩
  · have lpe:1 - (p2 (e - 1) - 1) - f=lp e f:=rfl
    rw [lpe] at le
    have cse:(x+k - f=lp e f+t)∨(t=0∧x+k - f<lp e f):=by
      by_cases hq:p2 f≤q
      · have:=big hq;omega
      · have:=low (by omega)
        rcases qt with z | z<;>omega
    by_cases c:lp e f > x+k - f
    · have e4:lp e f+t=lp e f:=by omega
      dsimp! [z1u,z6n,le,c,if_true,e4]
    · have e4:x+k - f=lp e f+t:=by omega
      have c':¬ lp e f > lp e f+t:=by omega
      dsimp! [z1u,z6n,le,e4,c',if_false]
  · have hn3:nb (d*p2 (lp e f+t - k))≤9000:=by
      rw [hg]
      refine Nat.le_trans (nb_mul_le _ _) ?_
      by_cases z:0≤g
      · rw [nb_p2 z];omega
      · rw [p2_le0 (by omega)];have:nb 1=1:=rfl;omega
    have st:=z9b (n:=n) (k:=k) (d:=d) (g:=lp e f+t) hd (by omega) (by omega) (by omega) (by omega) hn3
    rw [hg,hg'] at st
    have dv:ab n*p2 (-g) / (d*p2 g)=q:=by
      rw [er,Int.mul_comm q,Int.add_comm,Int.add_mul_ediv_left _ _ (by omega),Int.ediv_eq_zero_of_lt r0 r1]
      omega
    rw [dv] at st
    have e5:ab n*p2 (-g) - q*(d*p2 g)=r:=by omega
    rw [e5,side_scale hu hb r2] at st
    exact st
  · constructor
    · intro z
      apply Decidable.byContradiction
      intro c
      have:=big (by omega)
      omega
    · intro z
      have:=low z
      omega
theorem z9o {e f p t q a b n k d:Int}{z:Str}{kk:Nat} (h:Wd e f) (w:WayK p z kk) (hn:n≠0) (hd:0<d) (b1:nb n≤20000) (b2:nb d≤3000) (ht:0≤t) (ht2:t≤100000) (hk : -20000≤lp e f+t - k) (hk2:lp e f+t - k≤5000) (hb:0<b) (a0:0≤a) (a1:a<b)
    (q0:0≤q) (q1:q<2*p2 f) (qt:t=0∨p2 f≤q) (eq:ab n*p2 (k - (lp e f+t))*b=(q*b+a)*(d*p2 (lp e f+t - k))) :
    zh [.tup [.int e,.int f],.int n,.int k,.int d,.str z] = .ok (tkT e f p t q (sideP a b) (decide (n<0))):=by
  obtain ⟨hh,e1,e2,e3,e4⟩:=z9h h hn hd b1 b2 ht hk hk2 hb a0 a1 q0 q1 qt eq
  have s:=z9j (decide (n<0)) h w ht ht2 q0 q1 (side_of a b) e2 e4
  have cw:=zb7 h
  have wy:=(way_q w).1
  generalize tkT e f p t q (sideP a b) (decide (n<0))=v at *
  generalize sideP a b=sd at *
  dsimp! [zh,z6r,List.replicate,List.set,cw,wy,hn,e1,e2,e3,asVal_ins,s]
structure Stands (e f s k d t q a b:Int):Prop where
  t0:0≤t
  b0:0<b
  a0:0≤a
  a1:a<b
  q0:0≤q
  q1:q<2*p2 f
  qt:t=0∨p2 f≤q
  eq:s*p2 (k - (lp e f+t))*b=(q*b+a)*(d*p2 (lp e f+t - k))
  tb:t≤60000∧-20000≤lp e f+t - k∧lp e f+t - k≤5000
theorem standsW {e f s k d:Int} (h:Wd e f) (hs:0<s) (hd:0<d) (b1:nb s≤5000) (b2:nb d≤3000) (k0:lp e f - 5000≤k) (k1:k≤10000):∃ t q a b,Stands e f s k d t q a b:=by
  obtain ⟨l1,l2,l3,l4⟩:=lp_bounds h
  obtain ⟨g1,g2,g3,g4⟩:=id h
  have as:ab s=s:=ab_of (by omega)
  obtain ⟨x,_,hx,_,_⟩:=z8i (n:=s) (k:=0) (d:=d) (by omega) hd (by omega) (by omega)
  rw [as] at hx
  have xb:x≤nb s:=by
    apply Decidable.byContradiction
    intro c
    have h1:=hx.1
    rw [p2_le0 (a:=-x) (by omega),Int.mul_one] at h1
    have b3:=(nb_bounds hs).2
    have:=p2_le (a:=(nb s:Int)) (b:=x) (by omega) (by omega)
    have s4:p2 x≤d*p2 x:=by
      have:=Int.mul_le_mul_of_nonneg_right (show 1≤d by omega) (Int.le_of_lt (p2_pos x))
      rw [Int.one_mul] at this;exact this
    omega
  have pf:=p2_pos f
  have mk:∀ t:Int,0≤t→t≤60000∧-20000≤lp e f+t - k∧lp e f+t - k≤5000→s*p2 (-(lp e f+t - k))<2*(p2 f*(d*p2 (lp e f+t - k)))→(t=0∨p2 f*(d*p2 (lp e f+t - k))≤s*p2 (-(lp e f+t - k)))→∃ t q a b,Stands e f s k d t q a b:=by
    intro t t0 tb u1 u2
    have hu:0<d*p2 (lp e f+t - k):=Int.mul_pos hd (p2_pos _)
    have S0:0≤s*p2 (-(lp e f+t - k)):=Int.mul_nonneg (by omega) (Int.le_of_lt (p2_pos _))
    have e9:k - (lp e f+t) = -(lp e f+t - k):=by omega
    refine ⟨t,s*p2 (-(lp e f+t - k)) / (d*p2 (lp e f+t - k)),s*p2 (-(lp e f+t - k)) % (d*p2 (lp e f+t - k)),d*p2 (lp e f+t - k),t0,hu,Int.emod_nonneg _ (by omega),Int.emod_lt_of_pos _ hu,Int.ediv_nonneg S0 (Int.le_of_lt hu),Int.ediv_lt_of_lt_mul hu (by rw [Int.mul_assoc];exact u1),?_,?_,tb⟩
    · rcases u2 with z | z
      · exact .inl z
      · exact .inr (Int.le_ediv_of_mul_le hu z)
    · rw [e9]
      congr 1
      have:=Int.mul_ediv_add_emod (s*p2 (-(lp e f+t - k))) (d*p2 (lp e f+t - k))
      rw [Int.mul_comm] at this
      exact this.symm
  by_cases c:lp e f≤x+k - f
  · refine mk (x+k - f - lp e f) (by omega) (by omega) ?_ (.inr ?_)
    · have:=hx.2
      have e9:x=f+(lp e f+(x+k - f - lp e f) - k):=by omega
      rw [e9] at this
      exact (ht_lt2 (by omega)).mp this
    · have:=hx.1
      have e9:x=f+(lp e f+(x+k - f - lp e f) - k):=by omega
      rw [e9] at this
      exact (ht_ge (by omega)).mp this
  · refine mk 0 (by omega) (by omega) ?_ (.inl rfl)
    have:=ht_mono2 hd (show x<f+(lp e f+0 - k) by omega) hx.2
    refine (ht_lt2 (by omega)).mp ?_
    have:=Int.mul_pos hd (p2_pos (f+(lp e f+0 - k)))
    omega
theorem stands {e f s k d:Int} (h:Wd e f) (hs:0<s) (hd:0<d) (b1:nb s≤5000) (b2:nb d≤3000) (k0 : -3000≤k) (k1:k≤10000):∃ t q a b,Stands e f s k d t q a b :=
  standsW h hs hd b1 b2 (by have:=lp_bounds h;omega) k1
theorem take_st {e f p t q a b n k d:Int}{z:Str}{kk:Nat} (h:Wd e f) (w:WayK p z kk) (hn:n≠0) (hd:0<d) (b1:nb n≤20000) (b2:nb d≤3000) (st:Stands e f (ab n) k d t q a b) :
    zh [.tup [.int e,.int f],.int n,.int k,.int d,.str z] = .ok (tkT e f p t q (sideP a b) (decide (n<0))) :=
  z9o h w hn hd b1 b2 st.t0 (by have:=st.tb;omega) (by have:=st.tb;omega) (by have:=st.tb;omega) st.b0 st.a0 st.a1 st.q0 st.q1 st.qt st.eq
theorem low_u {f t q:Int} (hf:1≤f) (t0:0≤t) (q0:0≤q) (q1:q<2*p2 f) (qt:t=0∨p2 f≤q) :
    0≤t*p2 f+q∧stU f (t*p2 f+q)=q*p2 t∧stU f (t*p2 f+q+1)=(q+1)*p2 t∧(t*p2 f+q) % 2=q % 2∧(q<p2 f↔t*p2 f+q<p2 f):=by
  have pf:=p2_pos f
  have tp:=Int.mul_nonneg t0 (Int.le_of_lt pf)
  have u0:0≤t*p2 f+q:=by omega
  have et:tU f (t*p2 f+q)=t:=by
    unfold tU
    by_cases c:q<p2 f
    · have t00:t=0:=by rcases qt with z | z<;>omega
      subst t00
      rw [Int.zero_mul,Int.zero_add,if_pos c]
    · have t1:p2 f≤t*p2 f+q:=by omega
      rw [if_neg (by omega)]
      have e1:t*p2 f+q=(q - p2 f)+(t+1)*p2 f:=by rw [Int.add_mul,Int.one_mul];omega
      rw [e1,Int.add_mul_ediv_right _ _ (by omega),Int.ediv_eq_zero_of_lt (by omega) (by omega)]
      omega
  obtain ⟨_,_,_,_,e1,e2,e3,e4,e5,_⟩:=tq_facts (f:=f) (u:=t*p2 f+q) hf u0
  have eq:qU f (t*p2 f+q)=q:=by unfold qU;rw [et];omega
  rw [et,eq] at e1 e2
  rw [eq] at e4 e5
  exact ⟨u0,e1,e2,e4.symm,e5⟩
def Lies (M X Y sd:Int):Prop:=(sd=0∧M=X)∨(sd=1∧X<M∧2*M<X+Y)∨(sd=2∧2*M=X+Y)∨(sd=3∧X+Y<2*M∧M<Y)
theorem lies_of {M B q P a b:Int} (hB:0<B) (hP:0<P) (hb:0<b) (a0:0≤a) (a1:a<b) (eq:M*b=(q*b+a)*(P*B)):Lies M (q*P*B) ((q+1)*P*B) (sideP a b):=by
  have hX:0<P*B:=Int.mul_pos hP hB
  have e1:q*P*B=q*(P*B):=Int.mul_assoc _ _ _
  have e2:(q+1)*P*B=q*(P*B)+P*B:=by rw [Int.mul_assoc,Int.add_mul,Int.one_mul]
  rw [e1,e2]
  obtain ⟨r,er,r0,r1,r2⟩:=rest_of hX hb a0 a1 eq
  rw [← side_scale hX hb r2]
  generalize P*B=X at *
  generalize q*X=Z at *
  unfold sideP Lies
  by_cases c0:2*r=0
  · rw [if_pos c0];left;omega
  · rw [if_neg c0]
    by_cases c1:2*r<X
    · rw [if_pos c1];right;left;omega
    · rw [if_neg c1]
      by_cases c2:2*r=X
      · rw [if_pos c2];right;right;left;omega
      · rw [if_neg c2];right;right;right;omega
theorem wn:(Str.ofString "away" == Str.ofString "even")=false∧(Str.ofString "in" == Str.ofString "even")=false∧(Str.ofString "up" == Str.ofString "even")=false∧(Str.ofString "down" == Str.ofString "even")=false ∧
    (Str.ofString "even" == Str.ofString "away")=false∧(Str.ofString "in" == Str.ofString "away")=false∧(Str.ofString "up" == Str.ofString "away")=false∧(Str.ofString "down" == Str.ofString "away")=false ∧
    (Str.ofString "even" == Str.ofString "in")=false∧(Str.ofString "away" == Str.ofString "in")=false∧(Str.ofString "up" == Str.ofString "in")=false∧(Str.ofString "down" == Str.ofString "in")=false ∧
    (Str.ofString "even" == Str.ofString "up")=false∧(Str.ofString "away" == Str.ofString "up")=false∧(Str.ofString "in" == Str.ofString "up")=false∧(Str.ofString "down" == Str.ofString "up")=false ∧
    (Str.ofString "even" == Str.ofString "down")=false∧(Str.ofString "away" == Str.ofString "down")=false∧(Str.ofString "in" == Str.ofString "down")=false∧(Str.ofString "up" == Str.ofString "down")=false:=⟨rfl,rfl,rfl,rfl,rfl,rfl,rfl,rfl,rfl,rfl,rfl,rfl,rfl,rfl,rfl,rfl,rfl,rfl,rfl,rfl⟩
theorem nb_st {e f u:Int} (h:Wd e f) (u0:0≤u) (u1:u≤eS e f):nb (stU f u)≤2200:=by
  obtain ⟨p1,p3,p4,p5,p6,b1,b2,b3,b4,p7,p8⟩:=p2_wd h
  obtain ⟨m1,m3,_,_,_⟩:=eS_facts h
  obtain ⟨g1,g2,g3,g4⟩:=h
  by_cases c:u<p2 f
  · rw [stU_lo c]
    have:=nb_mono u0 (Int.le_of_lt c)
    omega
  · have es:stU f u=(u % p2 f+p2 f)*p2 (u / p2 f - 1):=if_neg c
    have y0:=Int.emod_nonneg u (show p2 f≠0 by omega)
    have y1:=Int.emod_lt_of_pos u (show 0<p2 f by omega)
    have d1:1≤u / p2 f:=(Int.le_ediv_iff_mul_le (by omega)).mpr (by omega)
    have d2:u / p2 f<p2 e:=Int.ediv_lt_of_lt_mul (by omega) (by rw [← p5];omega)
    have z:=nb_mul_le (u % p2 f+p2 f) (p2 (u / p2 f - 1))
    rw [nb_p2 (show 0≤u / p2 f - 1 by omega)] at z
    have z2:nb (u % p2 f+p2 f)≤62:=nb_le (by
      have:=p2_le (a:=f) (b:=60) (by omega) g4
      have e60:p2 60=1152921504606846976:=by decide
      omega)
    rw [es]
    omega
noncomputable def hz (f u:Int):Int:=if u=0 then 0 else stU f (u - 1)
theorem gr_cases {p q sd:Int}{below:Bool} (hp:p=0∨p=1∨p=2∨p=3∨p=4) (hs:sd=0∨sd=1∨sd=2∨sd=3) :
    (gr p q sd below=true∧((p=0∧(sd=3∨(sd=2∧q % 2=1)))∨(p=1∧2≤sd)∨(p=3∧below=false∧sd≠0)∨(p=4∧below=true∧sd≠0))) ∨
    (gr p q sd below=false∧((p=0∧(sd≤1∨(sd=2∧q % 2=0)))∨(p=1∧sd≤1)∨p=2∨(p=3∧(below=true∨sd=0))∨(p=4∧(below=false∨sd=0)))):=by
  by_cases s0 : sd = 0
  · subst s0
    refine .inr ⟨rfl, ?_⟩
    rcases hp with rfl | rfl | rfl | rfl | rfl
    · exact .inl ⟨rfl, .inl (by decide)⟩
    · exact .inr (.inl ⟨rfl, by decide⟩)
    · exact .inr (.inr (.inl rfl))
    · exact .inr (.inr (.inr (.inl ⟨rfl, .inr rfl⟩)))
    · exact .inr (.inr (.inr (.inr ⟨rfl, .inr rfl⟩)))
  · have eg : gr p q sd below = gw p (decide (q % 2 = 1)) sd below := by unfold gr; rw [decide_eq_true s0, Bool.true_and]
    rw [eg]
    rcases hp with rfl | rfl | rfl | rfl | rfl
    · have b : gw 0 (decide (q % 2 = 1)) sd below = decide (sd = 3 ∨ (sd = 2 ∧ q % 2 = 1)) := by rw [Bool.decide_or, Bool.decide_and]; rfl
      rw [b]
      by_cases c : sd = 3 ∨ (sd = 2 ∧ q % 2 = 1)
      · exact .inl ⟨decide_eq_true c, .inl ⟨rfl, c⟩⟩
      · exact .inr ⟨decide_eq_false c, .inl ⟨rfl, by omega⟩⟩
    · by_cases c : 2 ≤ sd
      · exact .inl ⟨decide_eq_true c, .inr (.inl ⟨rfl, c⟩)⟩
      · exact .inr ⟨decide_eq_false c, .inr (.inl ⟨rfl, by omega⟩)⟩
    · exact .inr ⟨rfl, .inr (.inr (.inl rfl))⟩
    · cases below
      · exact .inl ⟨rfl, .inr (.inr (.inl ⟨rfl, rfl, s0⟩))⟩
      · exact .inr ⟨rfl, .inr (.inr (.inr (.inl ⟨rfl, .inl rfl⟩)))⟩
    · cases below
      · exact .inr ⟨rfl, .inr (.inr (.inr (.inr ⟨rfl, .inl rfl⟩)))⟩
      · exact .inl ⟨rfl, .inr (.inr (.inr ⟨rfl, rfl, s0⟩))⟩
theorem st_lies {e f s k d t q a b M B:Int} (st:Stands e f s k d t q a b) (hd:0<d) (hB:0<B) (hM:M*(d*p2 (lp e f - k))=s*p2 (k - lp e f)*B):Lies M (q*p2 t*B) ((q+1)*p2 t*B) (sideP a b):=by
  refine lies_of hB (p2_pos t) st.b0 st.a0 st.a1 ?_
  have eq:=st.eq
  have c:=p2_cross (e:=lp e f - k) (f:=lp e f+t - k) (by have:=st.t0;omega)
  rw [show lp e f+t - k - (lp e f - k)=t by omega,show -(lp e f - k)=k - lp e f by omega,show -(lp e f+t - k)=k - (lp e f+t) by omega] at c
  have k1:=p2_pos (k - (lp e f+t))
  have k2:=Int.mul_pos hd (p2_pos (lp e f - k))
  generalize q*b+a=Z at *
  generalize p2 (k - (lp e f+t))=A at *
  generalize p2 (lp e f+t - k)=C at *
  generalize p2 (k - lp e f)=D at *
  generalize p2 (lp e f - k)=E at *
  generalize p2 t=T at *
  have e1:s*D*b*A=Z*(T*(d*E))*A:=by
    calc s*D*b*A=s*A*b*D:=by simp only [Int.mul_comm,Int.mul_left_comm,Int.mul_assoc]
      _=Z*(d*C)*D:=by rw [eq]
      _=Z*d*(C*D):=by simp only [Int.mul_comm,Int.mul_left_comm,Int.mul_assoc]
      _=Z*d*(E*A*T):=by rw [c]
      _=Z*(T*(d*E))*A:=by simp only [Int.mul_comm,Int.mul_left_comm,Int.mul_assoc]
  have e2:=Int.eq_of_mul_eq_mul_right (by omega) e1
  have e3:M*b*(d*E)=Z*(T*B)*(d*E):=by
    calc M*b*(d*E)=M*(d*E)*b:=by simp only [Int.mul_comm,Int.mul_left_comm,Int.mul_assoc]
      _=s*D*B*b:=by rw [hM]
      _=s*D*b*B:=by simp only [Int.mul_comm,Int.mul_left_comm,Int.mul_assoc]
      _=Z*(T*(d*E))*B:=by rw [e2]
      _=Z*(T*B)*(d*E):=by simp only [Int.mul_comm,Int.mul_left_comm,Int.mul_assoc]
  exact Int.eq_of_mul_eq_mul_right (by omega) e3
theorem wu_rk {e f r:Int} (h:Wd e f) (h1 : -(eS e f)≤r) (h2:r≤eS e f):Wu e f (if r<0 then 1 else 0) (ab r)∧rk (if r<0 then 1 else 0) (ab r)=r:=by
  obtain ⟨m1,m3,p3,p4,p7⟩:=eS_facts h
  by_cases c:r<0
  · rw [if_pos c]
    refine ⟨⟨h,.inr rfl,ab_nn r,by unfold ab;rw [if_pos c];omega⟩,?_⟩
    unfold rk ab;rw [if_pos rfl,if_pos c];omega
  · rw [if_neg c]
    refine ⟨⟨h,.inl rfl,ab_nn r,by unfold ab;rw [if_neg c];omega⟩,?_⟩
    unfold rk ab;rw [if_neg (by decide),if_neg c]
inductive Tm where
  | wrong | none | endl (b:Bool) | num (b:Bool) (n k:Int)
noncomputable def Tm.pv:Tm→PV
  | .wrong=>.tup [.str "wrong",.bl false,.tup [.int 0,.int 0]]
  | .none=>.tup [.str "none",.bl false,.tup [.int 0,.int 0]]
  | .endl b=>.tup [.str "endless",.bl b,.tup [.int 0,.int 0]]
  | .num b n k=>.tup [.str "number",.bl b,.tup [.int n,.int k]]
def Tm.ok:Tm→Prop
  | .num _ n k=>(n % 2=1∨(n=0∧k=0))∧nb n≤1000
  | _=>True
theorem kn:(Str.ofString "nought" == Str.ofString "loud")=false∧(Str.ofString "small" == Str.ofString "loud")=false∧(Str.ofString "plain" == Str.ofString "loud")=false∧(Str.ofString "endless" == Str.ofString "loud")=false∧(Str.ofString "still" == Str.ofString "loud")=false ∧
    (Str.ofString "nought" == Str.ofString "still")=false∧(Str.ofString "small" == Str.ofString "still")=false∧(Str.ofString "plain" == Str.ofString "still")=false∧(Str.ofString "endless" == Str.ofString "still")=false ∧
    (Str.ofString "nought" == Str.ofString "endless")=false∧(Str.ofString "small" == Str.ofString "endless")=false∧(Str.ofString "plain" == Str.ofString "endless")=false:=⟨rfl,rfl,rfl,rfl,rfl,rfl,rfl,rfl,rfl,rfl,rfl,rfl⟩
noncomputable def vN (f u:Int):Int:=stepsP f (u / p2 f) (u % p2 f)
noncomputable def vK (e f u:Int):Int:=powP e f (u / p2 f)
noncomputable def xN (n:Int):Int:=if n=0 then 0 else n / p2 (tz n)
noncomputable def xK (n k:Int):Int:=if n=0 then 0 else k+tz n
theorem zbe (n k:Int):z5 [.int n,.int k] = .ok (.tup [.int (xN n),.int (xK n k)]):=by
  unfold xN xK
  by_cases h:n=0
  · rw [if_pos h,if_pos h,h];exact z57 k
  · rw [if_neg h,if_neg h];exact z5r k h
theorem x_odd (n k:Int):xN n % 2=1∨(xN n=0∧xK n k=0):=by
  unfold xN xK
  by_cases h:n=0
  · rw [if_pos h,if_pos h];exact .inr ⟨rfl,rfl⟩
  · rw [if_neg h];exact .inl (tz_spec h).2.1
theorem x_nb (n:Int):nb (xN n)≤nb n:=by
  unfold xN
  by_cases h:n=0
  · rw [if_pos h,h];exact Nat.le_refl _
  · rw [if_neg h]
    obtain ⟨h1,h2,h3⟩:=tz_spec h
    have h4:n / p2 (tz n)≠0:=by intro z;rw [z] at h2;omega
    have:=nb_shl h4 h1
    rw [h3] at this;omega
theorem z8n {e f s u:Int} (h:Wu e f s u) (hu:u<eS e f):zk [.tup [.int e,.int f],.int (u+s*p2 (e+f))]=z5 [.int (if s=1 then -(vN f u) else vN f u),.int (vK e f u)]:=by
  obtain ⟨a,b,c1,c2,c,d⟩:=wu_word h
  have hx:u / p2 f<p2 e - 1:=(Int.ediv_lt_iff_lt_mul (p2_pos f)).mpr hu
  have v:=zc4 h.1 a b (by rw [c];exact hx)
  rw [c,d,c1] at v
  exact v
theorem vN_nb {e f u:Int} (h:Wd e f) (u0:0≤u):nb (vN f u)≤61:=by
  have g3:=h.2.2.1
  have g4:=h.2.2.2
  have e60:p2 60=1152921504606846976:=by decide
  have a:=p2_le (a:=f) (b:=60) (by omega) (by omega)
  have y0:=Int.emod_nonneg u (show p2 f≠0 by have:=p2_pos f;omega)
  have y1:=Int.emod_lt_of_pos u (p2_pos f)
  unfold vN stepsP
  split
  · exact nb_le (by omega)
  · exact nb_le (by omega)
noncomputable def tmU (e f s u:Int):Tm:=if eS e f<u then (if eS e f+p2 (f - 1)≤u then .none else .wrong) else if u=eS e f then .endl (decide (s=1)) else .num (decide (s=1)) (xN (vN f u)) (xK (vN f u) (vK e f u))
theorem tmU_ok {e f s u:Int} (h:Wu e f s u):(tmU e f s u).ok:=by
  unfold tmU
  split
  · split<;>exact True.intro
  · split
    · exact True.intro
    · exact ⟨x_odd _ _,Nat.le_trans (x_nb _) (by have:=vN_nb h.1 h.2.2.1;omega)⟩
theorem z1w {e f s u:Int} (h:Wu e f s u):zc [.tup [.int e,.int f],.int (u+s*p2 (e+f))] = .ok (tmU e f s u).pv:=by
  obtain ⟨m1,m3,p3,p4,p7⟩:=eS_facts h.1
  have k:=z5s h
  have c:=z8g h
  have un:=z8m h
  have u0:=h.2.2.1
  obtain ⟨a1,a2,a3,a4,a5,a6,a7,a8,a9,a10,a11,a12⟩:=kn
  unfold tmU
  by_cases k1:eS e f<u
  · rw [if_pos k1]
    by_cases k2:eS e f+p2 (f - 1)≤u
    · have kk:kindU e f u="still":=by unfold kindU;rw [if_neg (by omega),if_neg (by omega),if_neg (by omega),if_neg (by omega),if_neg (by omega)]
      rw [kk] at k
      rw [if_pos k2]
      dsimp! [zc,z30,k,a5,str_self,Tm.pv]
    · have kk:kindU e f u="loud":=by unfold kindU;rw [if_neg (by omega),if_neg (by omega),if_neg (by omega),if_neg (by omega),if_pos (by omega)]
      rw [kk] at k
      rw [if_neg k2]
      dsimp! [zc,z30,k,str_self,Tm.pv]
  · rw [if_neg k1]
    by_cases k3:u=eS e f
    · have kk:kindU e f u="endless":=by unfold kindU;rw [if_neg (by omega),if_neg (by omega),if_neg (by omega),if_pos k3]
      rw [kk] at k
      rw [if_pos k3]
      dsimp! [zc,z30,k,c,a4,a9,str_self,Tm.pv]
    · rw [if_neg k3]
      have w0:Wu e f 0 u:=⟨h.1,.inl rfl,u0,h.2.2.2⟩
      have v:=z8n w0 (by omega)
      rw [Int.zero_mul,Int.add_zero,if_neg (by decide),zbe] at v
      by_cases k4:u=0
      · have kk:kindU e f u="nought":=by unfold kindU;rw [if_pos k4]
        rw [kk] at k
        generalize xN (vN f u)=n at *
        generalize xK (vN f u) (vK e f u)=m at *
        dsimp! [zc,z30,k,c,un,v,a1,a6,a10,Tm.pv]
      · by_cases k5:u<p2 f
        · have kk:kindU e f u="small":=by unfold kindU;rw [if_neg k4,if_pos k5]
          rw [kk] at k
          generalize xN (vN f u)=n at *
          generalize xK (vN f u) (vK e f u)=m at *
          dsimp! [zc,z30,k,c,un,v,a2,a7,a11,Tm.pv]
        · have kk:kindU e f u="plain":=by unfold kindU;rw [if_neg k4,if_neg k5,if_pos (by omega)]
          rw [kk] at k
          generalize xN (vN f u)=n at *
          generalize xK (vN f u) (vK e f u)=m at *
          dsimp! [zc,z30,k,c,un,v,a3,a8,a12,Tm.pv]
noncomputable def prodT:Tm→Tm→Tm
  | .wrong,_=>.wrong
  | _,.wrong=>.wrong
  | .none,_=>.none
  | _,.none=>.none
  | .num a n k,.num b m l=>if n=0∨m=0 then .num (!(a == b)) 0 0 else .num (!(a == b)) (n*m) (k+l)
  | .endl a,.endl b=>.endl (!(a == b))
  | .endl a,.num b m l=>if m=0 then .wrong else .endl (!(a == b))
  | .num a n k,.endl b=>if n=0 then .wrong else .endl (!(a == b))
theorem in2 (x a b:Str):cIn (.str x) (.tup [.str a,.str b]) = .ok (.bl ((a == x) || ((b == x) || false))):=rfl
theorem nin2 (x a b:Str):cNotIn (.str x) (.tup [.str a,.str b]) = .ok (.bl (!((a == x) || ((b == x) || false)))):=rfl
theorem tn:(Str.ofString "wrong" == Str.ofString "none")=false∧(Str.ofString "wrong" == Str.ofString "endless")=false∧(Str.ofString "wrong" == Str.ofString "number")=false∧(Str.ofString "none" == Str.ofString "wrong")=false∧(Str.ofString "none" == Str.ofString "endless")=false ∧
    (Str.ofString "none" == Str.ofString "number")=false∧(Str.ofString "endless" == Str.ofString "wrong")=false∧(Str.ofString "endless" == Str.ofString "none")=false∧(Str.ofString "endless" == Str.ofString "number")=false∧(Str.ofString "number" == Str.ofString "wrong")=false ∧
    (Str.ofString "number" == Str.ofString "none")=false∧(Str.ofString "number" == Str.ofString "endless")=false:=⟨rfl,rfl,rfl,rfl,rfl,rfl,rfl,rfl,rfl,rfl,rfl,rfl⟩
theorem z9d {n k m l:Int} (hn:n % 2=1∨(n=0∧k=0)) (hm:m % 2=1∨(m=0∧l=0)) (b1:nb n≤100000) (b2:nb m≤100000) :
    z18 [.tup [.int n,.int k],.tup [.int m,.int l]] = .ok (if n=0∨m=0 then .tup [.int 0,.int 0] else .tup [.int (n*m),.int (k+l)]):=by
  have o:okMul n m:=okMul_of b1 b2 (by decide)
  by_cases h:n=0
  · rw [if_pos (.inl h)]
    subst h
    dsimp! [z18,z4d,o,Int.zero_mul,z57]
  · by_cases h':m=0
    · rw [if_pos (.inr h')]
      subst h'
      dsimp! [z18,z4d,o,Int.mul_zero,z57]
    · rw [if_neg (by omega)]
      have z1:n % 2=1:=by omega
      have z2:m % 2=1:=by omega
      have z3:n*m % 2=1:=by rw [Int.mul_emod,z1,z2];rfl
      have x:=z5r (k+l) (Int.mul_ne_zero h h')
      rw [tz_odd z3,p2_0,Int.ediv_one,Int.add_zero] at x
      dsimp! [z18,z4d,o,x]
theorem zbh (t:Tm):q_is_nought [t.pv] = .ok (.bl (match t with | .num _ n k=>decide (n=0) && decide (k=0) | _=>false)):=by
  obtain ⟨t1,t2,t3,t4,t5,t6,t7,t8,t9,t10,t11,t12⟩:=tn
  cases t with
  | num b n k =>
    by_cases h:n=0<;>by_cases h2:k=0<;>dsimp! [q_is_nought,z6h,Tm.pv,str_self,h,h2]<;>rfl
  | _=>dsimp! [q_is_nought,z6h,Tm.pv,t3,t6,t9]
theorem num_k {b:Bool}{n k:Int} (h:(Tm.num b n k).ok):n=0→k=0:=fun z=>by
  rcases h.1 with h1 | h1
  · omega
  · exact h1.2
theorem z9i {e f s u t v:Int} (h:Wu e f s u) (g:Wu e f t v):za [.tup [.int e,.int f],.int (u+s*p2 (e+f)),.int (v+t*p2 (e+f))] = .ok (prodT (tmU e f s u) (tmU e f t v)).pv:=by
  have a:=z1w h
  have b:=z1w g
  have ha:=tmU_ok h
  have hb:=tmU_ok g
  obtain ⟨t1,t2,t3,t4,t5,t6,t7,t8,t9,t10,t11,t12⟩:=tn
  generalize tmU e f s u=x at *
  generalize tmU e f t v=y at *
  have ix:=zbh x
  have iy:=zbh y
  cases x with
  | wrong=>cases y<;>simp only [Tm.pv] at a b<;>dsimp! [za,zr,a,b,in2,str_self,prodT,Tm.pv]
  | none=>cases y<;>simp only [Tm.pv] at a b<;>dsimp! [za,zr,a,b,in2,str_self,prodT,Tm.pv,t4,t7,t10]
  | endl c =>
    cases y with
    | wrong=>simp only [Tm.pv] at a b;dsimp! [za,zr,a,b,in2,str_self,prodT,Tm.pv,t7]
    | none=>simp only [Tm.pv] at a b;dsimp! [za,zr,a,b,in2,str_self,prodT,Tm.pv,t7,t4,t8]
    | endl d=>simp only [Tm.pv] at a b ix iy;dsimp! [za,zr,a,b,in2,nin2,str_self,prodT,Tm.pv,t7,t8,ix,iy]
    | num d m l =>
      simp only [Tm.pv] at a b ix iy
      by_cases z:m=0
      · have z2:=num_k hb z
        subst z z2
        dsimp! [za,zr,a,b,in2,nin2,str_self,prodT,Tm.pv,t7,t8,t10,t11,t12,ix,iy,if_true,decide_true,Bool.and_self]
      · dsimp! [za,zr,a,b,in2,nin2,str_self,prodT,Tm.pv,t7,t8,t10,t11,t12,ix,iy,z,if_false,decide_false,Bool.false_and]
  | num c n k =>
    cases y with
    | wrong=>simp only [Tm.pv] at a b;dsimp! [za,zr,a,b,in2,str_self,prodT,Tm.pv,t10]
    | none=>simp only [Tm.pv] at a b;dsimp! [za,zr,a,b,in2,str_self,prodT,Tm.pv,t10,t4,t11]
    | endl d =>
      simp only [Tm.pv] at a b ix iy
      by_cases z:n=0
      · have z2:=num_k ha z
        subst z z2
        dsimp! [za,zr,a,b,in2,nin2,str_self,prodT,Tm.pv,t7,t8,t10,t11,t12,ix,iy,if_true,decide_true,Bool.and_self]
      · dsimp! [za,zr,a,b,in2,nin2,str_self,prodT,Tm.pv,t7,t8,t10,t11,t12,ix,iy,z,if_false,decide_false,Bool.false_and]
    | num d m l =>
      simp only [Tm.pv] at a b ix iy
      have mu:=z9d ha.1 hb.1 (Nat.le_trans ha.2 (by decide)) (Nat.le_trans hb.2 (by decide))
      by_cases z:n=0∨m=0
      · rw [if_pos z] at mu
        have e1:prodT (.num c n k) (.num d m l) = .num (!(c == d)) 0 0:=if_pos z
        rw [e1]
        dsimp! [za,zr,a,b,in2,nin2,Tm.pv,t10,t11,t12,mu]
      · rw [if_neg z] at mu
        have e1:prodT (.num c n k) (.num d m l) = .num (!(c == d)) (n*m) (k+l):=if_neg z
        rw [e1]
        dsimp! [za,zr,a,b,in2,nin2,Tm.pv,t10,t11,t12,mu]
theorem fComp_e (n:Nat) (it:FA) (t:FT) (f:FE) (x0:Option PV) (ρ0:MEnv):fComp n it t f (x0::ρ0)=(it (x0::ρ0)).bind (compK n t f (x0::ρ0)):=rfl
theorem compK_ok {n:Nat}{t:FT}{f:FE}{ρ:MEnv}{l vs:List PV} (h:l.length≤1000000) (e:compL n t f ρ l = .ok vs):compK n t f ρ l = .ok (.lst vs):=by
  unfold compK;rw [if_pos h,e]
theorem compL_map {n:Nat}{f:FE}{ρ:MEnv} (g:PV→PV):∀ {l:List PV},(∀ p∈l,f (padTo n ρ ++ [some p]) = .ok (g p))→compL n tTrue f ρ l = .ok (l.map g)
  | [],_=>rfl
  | p::r,h=>by
    have ih:=compL_map g (l:=r) fun q hq=>h q (List.mem_cons_of_mem _ hq)
    have e:=h p List.mem_cons_self
    show (match f (padTo n ρ ++ [some p]) with
      | .ok v=>(match compL n tTrue f ρ r with
        | .ok vs=>R.ok (v::vs)
        | _=>.stuck)
      | _=>.stuck)=_
    rw [e,ih];rfl
theorem compL_filter {n:Nat}{t:FT}{f:FE}{ρ:MEnv} (q:PV→Bool) (g:PV→PV):∀ {l:List PV},(∀ p∈l,t (padTo n ρ ++ [some p]) = .ok (q p))→(∀ p∈l,q p=true→f (padTo n ρ ++ [some p]) = .ok (g p))→compL n t f ρ l = .ok ((l.filter q).map g)
  | [],_,_=>rfl
  | p::r,h,h2=>by
    have ih:=compL_filter q g (l:=r) (fun z hz=>h z (List.mem_cons_of_mem _ hz)) (fun z hz=>h2 z (List.mem_cons_of_mem _ hz))
    have e:=h p List.mem_cons_self
    unfold compL
    rw [e]
    by_cases hq:q p=true
    · have e2:=h2 p List.mem_cons_self hq
      rw [hq]
      dsimp only
      rw [e2,ih,List.filter_cons,if_pos hq];rfl
    · have hq':q p=false:=by simpa using hq
      rw [hq']
      dsimp only
      rw [ih,List.filter_cons,if_neg hq]
theorem noX_ok {F:List PV→R PV}{vs:List PV}{v:PV} (h:F vs = .ok v):noX F vs = .ok v:=by unfold noX;rw [h]
noncomputable def Tm.tag:Tm→Str
  | .wrong=>"wrong"
  | .none=>"none"
  | .endl _=>"endless"
  | .num _ _ _=>"number"
noncomputable def Tm.isW:Tm→Bool
  | .wrong=>true
  | _=>false
noncomputable def Tm.isN:Tm→Bool
  | .none=>true
  | _=>false
theorem tags_flat:∀ ts:List Tm,((ts.map fun t=>PV.str t.tag).all flatP)=true
  | []=>rfl
  | t::ts=>by rw [List.map_cons,List.all_cons,tags_flat ts];rfl
theorem tags_w:∀ ts:List Tm,((ts.map fun t=>PV.str t.tag).any fun z=>eqPV z (.str "wrong"))=ts.any Tm.isW
  | []=>rfl
  | t::ts=>by rw [List.map_cons,List.any_cons,List.any_cons,tags_w ts];cases t<;>rfl
theorem tags_n:∀ ts:List Tm,((ts.map fun t=>PV.str t.tag).any fun z=>eqPV z (.str "none"))=ts.any Tm.isN
  | []=>rfl
  | t::ts=>by rw [List.map_cons,List.any_cons,List.any_cons,tags_n ts];cases t<;>rfl
theorem in_w (ts:List Tm):cIn (.str "wrong") (.lst (ts.map fun t=>PV.str t.tag)) = .ok (.bl (ts.any Tm.isW)):=by
  show (if flatP (.str "wrong") && (ts.map fun t=>PV.str t.tag).all flatP then R.ok (PV.bl ((ts.map fun t=>PV.str t.tag).any fun z=>eqPV z (.str "wrong"))) else .stuck)=_
  rw [tags_flat,tags_w];rfl
theorem in_n (ts:List Tm):cIn (.str "none") (.lst (ts.map fun t=>PV.str t.tag)) = .ok (.bl (ts.any Tm.isN)):=by
  show (if flatP (.str "none") && (ts.map fun t=>PV.str t.tag).all flatP then R.ok (PV.bl ((ts.map fun t=>PV.str t.tag).any fun z=>eqPV z (.str "none"))) else .stuck)=_
  rw [tags_flat,tags_n];rfl
noncomputable def fstP:PV→PV
  | .tup (x::_)=>x
  | _=>.non
noncomputable def noneV (e f:Int) (ts:List Tm):PV:=if ts.any Tm.isW then .tup [.int (eS e f+p2 (f - 1)),.int 1] else if ts.any Tm.isN then .tup [.int (eS e f+p2 (f - 1)),.int 0] else .non
theorem z5t {e f:Int} (ts:List Tm) (h:Wd e f) (hl:ts.length≤1000000):z1r [.tup [.int e,.int f],.lst (ts.map Tm.pv)] = .ok (noneV e f ts):=by
  have n:=z9f h
  have aw:=in_w ts
  have an:=in_n ts
  have c:compK 3 tTrue (fBin oItem (fVar 3) (fC (.int 0))) [some (.tup [.int e,.int f]),some (.lst (ts.map Tm.pv)),none] (ts.map Tm.pv) = .ok (.lst (ts.map fun t=>PV.str t.tag)):=by
    refine compK_ok (by rw [List.length_map];exact hl) ?_
    rw [compL_map fstP (fun p hp=>by
      obtain ⟨t,_,rfl⟩:=List.mem_map.mp hp
      cases t<;>rfl),List.map_map]
    congr 1
    apply List.map_congr_left
    intro t _
    cases t<;>rfl
  unfold noneV
  generalize ts.map Tm.pv=l at *
  generalize (ts.map fun t=>PV.str t.tag)=l2 at *
  generalize ts.any Tm.isW=b1 at *
  generalize ts.any Tm.isN=b2 at *
  cases b1<;>cases b2<;>dsimp! [z1r,z82,fComp_e,c,aw,an,n,Bool.false_eq_true,if_true,if_false]
theorem z9g {e f:Int} (t:Tm) (h:Wd e f):z1r [.tup [.int e,.int f],.lst [t.pv]] = .ok (noneV e f [t]):=z5t [t] h (by simp)
theorem z8l {e f:Int} (t u:Tm) (h:Wd e f):z1r [.tup [.int e,.int f],.lst [t.pv,u.pv]] = .ok (noneV e f [t,u]):=z5t [t,u] h (by simp)
def NoWay (v:PV):Prop:=asVal (some v) = .ok v∧z1y [v] = .exc 3
theorem vN_0 (f:Int):vN f 0=0:=by unfold vN stepsP;rw [Int.zero_ediv,if_pos rfl,Int.zero_emod]
theorem vN_pos {f u:Int} (u0:0<u):0<vN f u:=by
  have pf:=p2_pos f
  have y0:=Int.emod_nonneg u (show p2 f≠0 by omega)
  have dm:=Int.mul_ediv_add_emod u (p2 f)
  unfold vN stepsP
  by_cases c:u / p2 f=0
  · rw [if_pos c]
    rw [c,Int.mul_zero] at dm
    omega
  · rw [if_neg c];omega
theorem xN_ne {n:Int} (h:n≠0):xN n≠0:=by
  unfold xN
  rw [if_neg h]
  obtain ⟨h1,h2,h3⟩:=tz_spec h
  intro z;rw [z] at h2;omega
theorem tm_a (t:Tm):asVal (some t.pv) = .ok t.pv:=by cases t<;>rfl
theorem st_val {e f u:Int} (h:Wd e f) (u0:0<u) (u1:u<eS e f):0<xN (vN f u)∧nb (xN (vN f u))≤61∧lp e f≤xK (vN f u) (vK e f u)∧xK (vN f u) (vK e f u)≤lp e f+2200∧stU f u=xN (vN f u)*p2 (xK (vN f u) (vK e f u) - lp e f):=by
  obtain ⟨p1,p3,p4,p5,p6,b1,b2,b3,b4,p7,p8⟩:=p2_wd h
  obtain ⟨m1,m3,_⟩:=eS_facts h
  have vp:=vN_pos (f:=f) (u:=u) u0
  have vb:=vN_nb (e:=e) h (Int.le_of_lt u0)
  have pf:=p2_pos f
  have tl:=tz_le (show vN f u≠0 by omega)
  obtain ⟨h1,h2,h3⟩:=tz_spec (show vN f u≠0 by omega)
  have e1:xN (vN f u)=vN f u / p2 (tz (vN f u)):=if_neg (by omega)
  have e2:xK (vN f u) (vK e f u)=vK e f u+tz (vN f u):=if_neg (by omega)
  have bx:=x_nb (vN f u)
  have xp:0<xN (vN f u):=by
    rw [e1]
    have pp:=p2_pos (tz (vN f u))
    have:0≤vN f u / p2 (tz (vN f u)):=Int.ediv_nonneg (by omega) (by omega)
    have ne:=xN_ne (show vN f u≠0 by omega)
    rw [e1] at ne
    omega
  have d2:u / p2 f<p2 e:=Int.ediv_lt_of_lt_mul (by omega) (by rw [← p5];omega)
  have vk:lp e f≤vK e f u∧vK e f u≤lp e f+2050∧stU f u=vN f u*p2 (vK e f u - lp e f):=by
    unfold vK vN powP stepsP
    have le:1 - (p2 (e - 1) - 1) - f=lp e f:=rfl
    rw [le]
    by_cases c:u<p2 f
    · have z:u / p2 f=0:=Int.ediv_eq_zero_of_lt (by omega) c
      rw [z,if_pos rfl,if_pos rfl,stU_lo c,Int.emod_eq_of_lt (by omega) c]
      have:p2 (lp e f - lp e f)=1:=p2_le0 (by omega)
      rw [this]
      omega
    · have z:1≤u / p2 f:=(Int.le_ediv_iff_mul_le pf).mpr (by omega)
      rw [if_neg (by omega),if_neg (by omega)]
      have es:stU f u=(u % p2 f+p2 f)*p2 (u / p2 f - 1):=if_neg c
      refine ⟨by omega,by omega,?_⟩
      rw [es]
      congr 2
      omega
  refine ⟨xp,by omega,by omega,by omega,?_⟩
  rw [vk.2.2,e2,e1,show vK e f u+tz (vN f u) - lp e f=tz (vN f u)+(vK e f u - lp e f) by omega,p2_add h1 (by omega),← Int.mul_assoc,h3]
theorem p2_four {A L C D:Int} (hA:0≤A) (hL:0≤L) (hD:0≤D) (h:A+L=C+D):p2 A*p2 L*p2 (-C)=p2 C*p2 D:=by
  by_cases c:0≤C
  · rw [p2_le0 (a:=-C) (by omega),Int.mul_one,← p2_add hA hL,← p2_add c hD,h]
  · rw [p2_le0 (a:=C) (by omega),Int.one_mul,← p2_add hA hL,← p2_add (by omega) (by omega)]
    congr 1
    omega
theorem tk_cases {e f p t q sd u:Int}{under:Bool} (h:Wd e f) (hp:p=0∨p=1∨p=2∨p=3∨p=4) (hs:sd=0∨sd=1∨sd=2∨sd=3) (hu:t*p2 f+q=u) (u0:0≤u) :
    ∃ sz mk,tkT e f p t q sd under = .tup [.int (sz+sg under*p2 (e+f)),.int mk]∧0≤sz∧sz≤eS e f ∧
      ((eS e f≤u∧sz=eS e f - 1+(if gw p true 3 under then 1 else 0)∧mk=20)∨(u<eS e f∧gr p q sd under=false∧sz=u∧mk=mkT f q sd) ∨
        (u<eS e f∧gr p q sd under=true∧sz=u+1∧mk=if u+1=eS e f then 20 else mkT f q sd)):=by
  obtain ⟨m1,m3,p3,p4,p7⟩:=eS_facts h
  have szd:szT f p t q sd under=t*p2 f+(if gr p q sd under then q+1 else q):=rfl
  have gc:=gr_cases (p:=p) (q:=q) (sd:=sd) (below:=under) hp hs
  have g3:gw p true 3 under=true↔(p=0∨p=1∨(p=3∧under=false)∨(p=4∧under=true)):=by
    rcases hp with rfl | rfl | rfl | rfl | rfl<;>cases under<;>simp [gw]
  unfold tkT
  rcases gc with ⟨g,gc⟩ | ⟨g,gc⟩
  · have e1:szT f p t q sd under=u+1:=by rw [szd,g,if_pos rfl];omega
    rw [e1]
    by_cases c:u+1<eS e f
    · rw [if_pos c]
      exact ⟨_,_,rfl,by omega,by omega,.inr (.inr ⟨by omega,g,rfl,by rw [if_neg (by omega)]⟩)⟩
    · rw [if_neg c]
      by_cases c2:u+1=eS e f
      · have gt:gw p true 3 under=true:=by
          apply g3.mpr
          rcases gc with ⟨a,b⟩ | ⟨a,b⟩ | ⟨a,b,d⟩ | ⟨a,b,d⟩
          · exact .inl a
          · exact .inr (.inl a)
          · exact .inr (.inr (.inl ⟨a,b⟩))
          · exact .inr (.inr (.inr ⟨a,b⟩))
        rw [if_pos gt]
        exact ⟨_,_,rfl,by omega,by omega,.inr (.inr ⟨by omega,g,c2.symm,by rw [if_pos c2]⟩)⟩
      · refine ⟨_,_,rfl,by split<;>omega,by split<;>omega,.inl ⟨by omega,by split<;>omega,rfl⟩⟩
  · have e1:szT f p t q sd under=u:=by rw [szd,g,if_neg (by decide)];omega
    rw [e1]
    by_cases c:u<eS e f
    · rw [if_pos c]
      exact ⟨_,_,rfl,by omega,by omega,.inr (.inl ⟨c,g,rfl,rfl⟩)⟩
    · rw [if_neg c]
      refine ⟨_,_,rfl,by split<;>omega,by split<;>omega,.inl ⟨by omega,by split<;>omega,rfl⟩⟩
def Nv (B t n k:Int):Prop:=(n % 2=1∨(n=0∧k=0))∧-B≤k∧n*p2 (k+B)=t
theorem nv_odd {B t n k:Int} (h:Nv B t n k) (h0:t≠0):n % 2=1:=by
  rcases h.1 with h1 | ⟨h1,_⟩
  · exact h1
  · exact absurd h.2.2 (by rw [h1,Int.zero_mul];exact Ne.symm h0)
theorem nv_zero {B t n k:Int} (h:Nv B t n k) (h0:t=0):n=0∧k=0:=by
  rcases h.1 with h1 | h1
  · exact absurd h.2.2 (by
      have:=p2_pos (k+B)
      rw [h0];exact Int.mul_ne_zero (by omega) (by omega))
  · exact h1
theorem nv_unique {B t n k m l:Int} (h:Nv B t n k) (g:Nv B t m l):n=m∧k=l:=by
  by_cases h0:t=0
  · have a:=nv_zero h h0
    have b:=nv_zero g h0
    omega
  · have e:=odd_unique (nv_odd h h0) (nv_odd g h0) (s:=k+B) (t:=l+B) (by have:=h.2.1;omega) (by have:=g.2.1;omega) (by rw [h.2.2,g.2.2])
    omega
theorem nv_big {B t n k:Int}{b:Nat} (hB:0≤B) (h:Nv B t n k) (hb:nb t≤b):nb n≤b∧k≤b:=by
  obtain ⟨h1,h2,h3⟩:=h
  by_cases hn:n=0
  · subst hn
    rcases h1 with h1 | ⟨_,rfl⟩
    · omega
    · exact ⟨by rw [nb_0];omega,by omega⟩
  · have e:=nb_shl hn (b:=k+B) (by omega)
    rw [h3] at e
    omega
theorem exact_nv {B s p t:Int} (hB:0≤B) (hp : -B≤p) (e:s*p2 (p+B)=t):∃ n k,z5 [.int s,.int p] = .ok (.tup [.int n,.int k])∧Nv B t n k:=by
  by_cases hs:s=0
  · subst hs
    exact ⟨0,0,z57 p,.inr ⟨rfl,rfl⟩,by omega,by rw [Int.zero_mul] at *;exact e⟩
  · obtain ⟨h1,h2,h3⟩:=tz_spec hs
    refine ⟨_,_,z5r p hs,.inl h2,by omega,?_⟩
    have a:p+tz s+B=tz s+(p+B):=by omega
    rw [a,p2_add h1 (by omega),← Int.mul_assoc,h3,e]
theorem p2_split {k p B:Int} (h:p≤k) (h2:0≤p+B):p2 (k+B)=p2 (k - p)*p2 (p+B):=by
  rw [← p2_add (by omega) h2];congr 1;omega
theorem mul_p2_lt {x y c:Int}:x*p2 c<y*p2 c↔x<y:=by
  have:=p2_pos c
  constructor
  · intro h;exact Int.lt_of_mul_lt_mul_right h (by omega)
  · intro h;exact Int.mul_lt_mul_of_pos_right h this
theorem zbj {B t u n k m l:Int} (hn:Nv B t n k) (hm:Nv B u m l) (hB:0≤B) (hB2:B≤1000000) (b1:nb n≤1000000) (b2:nb m≤1000000) (k2:k≤1000000) (l2:l≤1000000) :
    z3s [.tup [.int n,.int k],.tup [.int m,.int l]] = .ok (.bl (decide (t<u))):=by
  obtain ⟨a1,a2,a3⟩:=min_le (k:=k) (l:=l)
  have d1:=hn.2.1
  have d2:=hm.2.1
  have o1:okShl n (k - if l<k then l else k):=okShl_of (by omega) b1 (by omega)
  have o2:okShl m (l - if l<k then l else k):=okShl_of (by omega) b2 (by omega)
  have e:decide (t<u)=decide (n*p2 (k - if l<k then l else k)<m*p2 (l - if l<k then l else k)):=by
    rw [← hn.2.2,← hm.2.2]
    generalize (if l<k then l else k)=p at *
    rw [p2_split (k:=k) (p:=p) (by omega) (by omega),p2_split (k:=l) (p:=p) (by omega) (by omega),← Int.mul_assoc,← Int.mul_assoc]
    exact decide_eq_decide.mpr mul_p2_lt
  rw [e]
  dsimp! [z3s,z7t,z1v,z6p,o1,o2]
theorem z97 {B t u n k m l:Int} (hn:Nv B t n k) (hm:Nv B u m l) (hB:0≤B) (hB2:B≤1000000) (b1:nb n≤1000000) (b2:nb m≤1000000) (k2:k≤1000000) (l2:l≤1000000) :
    ∃ a b,z2p [.tup [.int n,.int k],.tup [.int m,.int l]] = .ok (.tup [.int a,.int b])∧Nv B (t+u) a b:=by
  obtain ⟨a1,a2,a3⟩:=min_le (k:=k) (l:=l)
  have d1:=hn.2.1
  have d2:=hm.2.1
  have o1:okShl n (k - if l<k then l else k):=okShl_of (by omega) b1 (by omega)
  have o2:okShl m (l - if l<k then l else k):=okShl_of (by omega) b2 (by omega)
  have e:(n*p2 (k - if l<k then l else k)+m*p2 (l - if l<k then l else k))*p2 ((if l<k then l else k)+B)=t+u:=by
    generalize (if l<k then l else k)=p at *
    rw [Int.add_mul,← hn.2.2,← hm.2.2,p2_split (k:=k) (p:=p) (by omega) (by omega),p2_split (k:=l) (p:=p) (by omega) (by omega),Int.mul_assoc,Int.mul_assoc]
  obtain ⟨a,b,f1,f2⟩:=exact_nv hB (by omega) e
  exact ⟨a,b,by dsimp! [z2p,z7l,z1v,z6p,o1,o2,f1],f2⟩
noncomputable def sgn (x:Int):Int:=if x=0 then 0 else if x<0 then -1 else 1
theorem zb3 {B n k d N K:Int} (hN:N % 2=1∨(N=0∧K=0)) (hd:0<d) (hB:0≤B) (hB2:B≤100000) (k1 : -B≤k) (k2:k≤100000) (K1 : -B≤K) (K2:K≤100000) (b1:nb n≤100000) (b2:nb d≤100000) (b3:nb N≤100000) :
    z15 [.int n,.int k,.int d,.tup [.int N,.int K]] = .ok (.int (sgn (n*p2 (k+B) - N*d*p2 (K+B)))):=by
  obtain ⟨a,b,e1,v1⟩:=exact_nv (s:=n) (p:=k) hB k1 rfl
  obtain ⟨d',τ,e2,v2⟩:=exact_nv (B:=0) (s:=d) (p:=0) (by decide) (by decide) rfl
  have w2:=v2.2.1
  have w3:d'*p2 τ=d:=by have:=v2.2.2;rw [Int.add_zero,Int.add_zero,p2_0,Int.mul_one] at this;exact this
  have hd':d'≠0:=by intro z;rw [z,Int.zero_mul] at w3;omega
  have w4:nb d'≤100000∧τ≤100000:=nv_big (by decide) v2 (by rw [Int.add_zero,p2_0,Int.mul_one];exact b2)
  have om:okMul N d':=okMul_of b3 w4.1 (by decide)
  obtain ⟨m,l,e3,v3⟩:=exact_nv (B:=B) (s:=N*d') (p:=K+τ) (t:=N*d*p2 (K+B)) hB (by omega) (by
    have:K+τ+B=τ+(K+B):=by omega
    rw [this,p2_add (by omega) (by omega),← Int.mul_assoc,Int.mul_assoc N,w3])
  have bt:nb (n*p2 (k+B))≤300001:=Nat.le_trans (nb_mul_le _ _) (by rw [nb_p2 (by omega)];omega)
  have bu:nb (N*d*p2 (K+B))≤400001:=Nat.le_trans (nb_mul_le _ _) (by have:=nb_mul_le N d;rw [nb_p2 (by omega)];omega)
  have c1:=nv_big hB v1 bt
  have c2:=nv_big hB v3 bu
  have ib:=zbj v1 v3 hB (by omega) (by omega) (by omega) (by omega) (by omega)
  have em:z18 [.tup [.int N,.int K],.tup [.int d',.int τ]] = .ok (.tup [.int m,.int l]):=by
    dsimp! [z18,z4d,om,e3]
  generalize n*p2 (k+B)=t at *
  generalize N*d*p2 (K+B)=u at *
  by_cases h:t=u
  · subst h
    obtain ⟨rfl,rfl⟩:=nv_unique v1 v3
    have z:sgn (t - t)=0:=by rw [Int.sub_self];rfl
    rw [z]
    dsimp! [z15,z5k,e1,e2,em,decide_true,Bool.and_true,if_true]
  · have hne:(decide (a=m) && decide (b=l))=false:=by
      by_cases h1:a=m
      · by_cases h2:b=l
        · exfalso;subst h1 h2;exact h (by rw [← v1.2.2,← v3.2.2])
        · rw [decide_eq_false h2,Bool.and_false]
      · rw [decide_eq_false h1,Bool.false_and]
    by_cases h2:t<u
    · have z:sgn (t - u) = -1:=by unfold sgn;rw [if_neg (by omega),if_pos (by omega)]
      rw [z]
      dsimp! [z15,z5k,e1,e2,em,ib,h2,hne,Bool.and_true,decide_true,Bool.false_eq_true,if_false,if_true]
    · have z:sgn (t - u)=1:=by unfold sgn;rw [if_neg (by omega),if_neg (by omega)]
      rw [z]
      dsimp! [z15,z5k,e1,e2,em,ib,h2,hne,Bool.and_true,decide_false,Bool.false_eq_true,if_false,if_true]
noncomputable def vT (B:Int):Tm→Int
  | .num b n k=>(if b then -n else n)*p2 (k+B)
  | _=>0
noncomputable def Tm.sg:Tm→Bool
  | .num b _ _=>b
  | .endl b=>b
  | _=>false
noncomputable def Tm.isZ:Tm→Bool
  | .num _ n k=>decide (n=0) && decide (k=0)
  | _=>false
noncomputable def Tm.isE:Tm→Bool
  | .endl _=>true
  | _=>false
def okT (B:Int) (b:Nat):Tm→Prop
  | .num _ n k=>(n % 2=1∨(n=0∧k=0))∧-B≤k∧nb (n*p2 (k+B))≤b
  | _=>False
noncomputable def sumT (B:Int):List Tm→Int
  | []=>0
  | t::r=>vT B t+sumT B r
theorem sum_step {B:Int}{b c:Nat}{t:Tm}{S N K:Int}{l v2 v3:Option PV} (hB:0≤B) (hB2:B≤100000) (ht:okT B b t) (hN:Nv B S N K) (hS:nb S≤c) (hb:b≤c) (hc:c≤500000) :
    ∃ N' K' v3',z2a [l,some (.tup [.int N,.int K]),some t.pv,v3] = .next [l,some (.tup [.int N',.int K']),some t.pv,v3']∧Nv B (S+vT B t) N' K'∧nb (S+vT B t)≤c+1:=by
  cases t with
  | num s n k =>
    obtain ⟨h1,h2,h3⟩:=ht
    obtain ⟨n1,n2⟩:=nv_big hB hN hS
    have hv:Nv B (vT B (.num s n k)) (if s then -n else n) k:=by
      refine ⟨?_,h2,rfl⟩
      cases s
      · exact h1
      · show (-n) % 2=1∨(-n=0∧k=0)
        omega
    have hvb:nb (vT B (.num s n k))≤b:=by
      cases s
      · exact h3
      · show nb (-n*p2 (k+B))≤b
        rw [Int.neg_mul,nb_neg];exact h3
    obtain ⟨m1,m2⟩:=nv_big hB hv hvb
    obtain ⟨N',K',e1,e2⟩:=z97 hN hv hB (by omega) (by omega) (by omega) (by omega) (by omega)
    have hvc:nb (vT B (.num s n k))≤c:=by omega
    refine ⟨N',K',some (.tup [.int n,.int k]),?_,e2,nb_add hS hvc⟩
    cases s
    · have e1':z2p [.tup [.int N,.int K],.tup [.int n,.int k]] = .ok (.tup [.int N',.int K']):=e1
      dsimp! [z2a,Tm.pv,List.set,e1']
    · have e1':z2p [.tup [.int N,.int K],.tup [.int (-n),.int k]] = .ok (.tup [.int N',.int K']):=e1
      dsimp! [z2a,Tm.pv,List.set,e1']
  | _=>exact ht.elim
theorem sum_loop {B:Int}{b:Nat} (hB:0≤B) (hB2:B≤100000) (l:Option PV):∀ (ts:List Tm) (c:Nat) (S N K:Int) (v2 v3:Option PV),(∀ t∈ts,okT B b t)→Nv B S N K→nb S≤c→b≤c→c+ts.length≤400000 →
    ∃ N' K' v2' v3',forL 2 z2a (ts.map Tm.pv) [l,some (.tup [.int N,.int K]),v2,v3] = .next [l,some (.tup [.int N',.int K']),v2',v3']∧Nv B (S+sumT B ts) N' K'∧nb (S+sumT B ts)≤c+ts.length
  | [],c,S,N,K,v2,v3,_,h,hS,_,_=>⟨N,K,v2,v3,rfl,by rw [show S+sumT B []=S from Int.add_zero S];exact h,by rw [show S+sumT B []=S from Int.add_zero S];exact hS⟩
  | t::r,c,S,N,K,v2,v3,ht,h,hS,hb,hc=>by
    rw [List.length_cons] at hc
    obtain ⟨N1,K1,w3,e1,e2,e3⟩:=sum_step (l:=l) (v2:=v2) (v3:=v3) hB hB2 (ht t List.mem_cons_self) h hS hb (by omega)
    obtain ⟨N2,K2,w4,w5,f1,f2,f3⟩:=sum_loop hB hB2 l r (c+1) _ N1 K1 (some t.pv) w3 (fun x hx=>ht x (List.mem_cons_of_mem _ hx)) e2 e3 (by omega) (by omega)
    have es:S+sumT B (t::r)=S+vT B t+sumT B r:=by show S+(vT B t+sumT B r)=_;omega
    refine ⟨N2,K2,w4,w5,?_,by rw [es];exact f2,by rw [es,List.length_cons];omega⟩
    rw [List.map_cons,forL_cons]
    show (match z2a [l,some (.tup [.int N,.int K]),some t.pv,v3] with
      | .next ρ'=>forL 2 z2a (r.map Tm.pv) ρ'
      | .cont ρ'=>forL 2 z2a (r.map Tm.pv) ρ'
      | .brk ρ'=>.next ρ'
      | o=>o)=_
    rw [e1]
    exact f1
theorem nv_0 {B:Int} (hB:0≤B):Nv B 0 0 0:=⟨.inr ⟨rfl,rfl⟩,by omega,Int.zero_mul _⟩
theorem zc2 {B:Int}{b:Nat}{ts:List Tm} (hB:0≤B) (hB2:B≤100000) (hb:b≤100000) (hl:ts.length≤1000) (ht:∀ t∈ts,okT B b t) :
    ∃ N K,z41 [.lst (ts.map Tm.pv)] = .ok (.tup [.int N,.int K])∧Nv B (sumT B ts) N K∧nb (sumT B ts)≤b+ts.length:=by
  obtain ⟨N,K,v2,v3,e1,e2,e3⟩:=sum_loop hB hB2 (some (.lst (ts.map Tm.pv))) ts b 0 0 0 none none ht (nv_0 hB) (by have:nb 0=0:=rfl;omega) (Nat.le_refl _) (by omega)
  rw [Int.zero_add] at e2 e3
  refine ⟨N,K,?_,e2,e3⟩
  generalize ts.map Tm.pv=l at *
  dsimp! [z41,z8a,List.replicate,List.set,e1]
theorem bools_of:∀ bs:List Bool,boolsP (bs.map PV.bl)=some bs
  | []=>rfl
  | b::r=>by
    show (boolsP (r.map PV.bl)).map (b::·)=_
    rw [bools_of r];rfl
theorem all_of (bs:List Bool):bAll [.lst (bs.map PV.bl)] = .ok (.bl (bs.all id)):=by unfold bAll;simp only [bools_of]
theorem any_of (bs:List Bool):bAny [.lst (bs.map PV.bl)] = .ok (.bl (bs.any id)):=by unfold bAny;simp only [bools_of]
theorem all_map {α:Type} (f:α→Bool):∀ l:List α,(l.map f).all id=l.all f
  | []=>rfl
  | x::r=>by rw [List.map_cons,List.all_cons,List.all_cons,all_map f r];rfl
theorem any_map {α:Type} (f:α→Bool):∀ l:List α,(l.map f).any id=l.any f
  | []=>rfl
  | x::r=>by rw [List.map_cons,List.any_cons,List.any_cons,any_map f r];rfl
noncomputable def nbel (ts:List Tm) (z:Str):Bool:=if ts.all Tm.isZ then (if ts.any Tm.sg then (if ts.all Tm.sg then true else z == Str.ofString "down") else false) else z == Str.ofString "down"
theorem z9e {ts:List Tm}{z:Str} (hl:ts.length≤1000):z3t [.lst (ts.map Tm.pv),.str z] = .ok (.bl (nbel ts z)):=by
  have c1:compK 3 tTrue (fBin oItem (fVar 3) (fC (.int 1))) [some (.lst (ts.map Tm.pv)),some (.str z),none] (ts.map Tm.pv) = .ok (.lst ((ts.map Tm.sg).map PV.bl)):=by
    refine compK_ok (by rw [List.length_map];omega) ?_
    rw [compL_map (fun p=>match oItem p (.int 1) with | .ok v=>v | _=>.non) (fun p hp=>by
      obtain ⟨t,_,rfl⟩:=List.mem_map.mp hp
      cases t<;>rfl),List.map_map,List.map_map]
    congr 1
    apply List.map_congr_left
    intro t _
    cases t<;>rfl
  have c2:compK 3 tTrue (fCall (noX q_is_nought) (aCons (fVar 3) (aNil))) [some (.lst (ts.map Tm.pv)),some (.str z),some (.lst ((ts.map Tm.sg).map PV.bl))] (ts.map Tm.pv) = .ok (.lst ((ts.map Tm.isZ).map PV.bl)):=by
    refine compK_ok (by rw [List.length_map];omega) ?_
    rw [compL_map (fun p=>match q_is_nought [p] with | .ok v=>v | _=>.non) (fun p hp=>by
      obtain ⟨t,_,rfl⟩:=List.mem_map.mp hp
      have io:=zbh t
      show fCall (noX q_is_nought) (aCons (fVar 3) aNil) [some (.lst (ts.map Tm.pv)),some (.str z),some (.lst ((ts.map Tm.sg).map PV.bl)),some t.pv]=_
      have nx:=noX_ok io
      rw [io]
      dsimp! [tm_a,nx]),List.map_map,List.map_map]
    congr 1
    apply List.map_congr_left
    intro t _
    show (match q_is_nought [t.pv] with | .ok v=>v | _=>.non)=PV.bl t.isZ
    rw [zbh t]
    cases t<;>rfl
  have a1:=all_of (ts.map Tm.isZ)
  have a2:=all_of (ts.map Tm.sg)
  have a3:=any_of (ts.map Tm.sg)
  rw [all_map] at a1 a2
  rw [any_map] at a3
  unfold nbel
  generalize ts.map Tm.pv=l at *
  generalize (ts.map Tm.sg).map PV.bl=l1 at *
  generalize (ts.map Tm.isZ).map PV.bl=l2 at *
  generalize ts.all Tm.isZ=x at *
  generalize ts.all Tm.sg=y at *
  generalize ts.any Tm.sg=w at *
  cases x<;>cases y<;>cases w<;>dsimp! [z3t,z7u,List.replicate,List.set,fComp_e,c1,c2,a1,a2,a3,if_true,Bool.false_eq_true,if_false]
theorem ends_none {ts:List Tm}{r0 r1 r2 r3 r4 r5:Option PV} (hl:ts.length≤1000) (h:∀ t∈ts,t.isE=false) :
    compK 6 (tVal (fBin cEq (fBin oItem (fVar 6) (fC (.int 0))) (fC (.str "endless")))) (fBin oItem (fVar 6) (fC (.int 1))) [r0,r1,r2,r3,r4,r5] (ts.map Tm.pv) = .ok (.lst []):=by
  refine compK_ok (by rw [List.length_map];omega) ?_
  have ef:∀ p∈ts.map Tm.pv,(fun _:PV=>false) p=true→fBin oItem (fVar 6) (fC (.int 1)) (padTo 6 [r0,r1,r2,r3,r4,r5] ++ [some p]) = .ok (.int 0):=fun p _ x=>by cases x
  rw [compL_filter (fun _=>false) (fun _=>.int 0) (fun p hp=>by
    obtain ⟨t,ht,rfl⟩:=List.mem_map.mp hp
    have:=h t ht
    cases t with
    | endl b=>cases this
    | _=>rfl) ef]
  have:(ts.map Tm.pv).filter (fun _=>false)=[]:=List.filter_eq_nil_iff.mpr (fun _ _=>by simp)
  rw [this];rfl
theorem truth_nil:truthP (.lst []) = .ok false:=rfl
theorem okT_no {B:Int}{b:Nat}{t:Tm} (h:okT B b t):t.isW=false∧t.isN=false∧t.isE=false:=by
  cases t with
  | num _ _ _=>exact ⟨rfl,rfl,rfl⟩
  | _=>exact h.elim
theorem noneV_no {e f:Int}{ts:List Tm} (h:∀ t∈ts,t.isW=false∧t.isN=false):noneV e f ts = .non:=by
  have a:ts.any Tm.isW=false:=by
    rw [List.any_eq_false];intro t ht;rw [(h t ht).1];decide
  have b:ts.any Tm.isN=false:=by
    rw [List.any_eq_false];intro t ht;rw [(h t ht).2];decide
  unfold noneV
  rw [a,b];rfl
theorem z99 {e f B p:Int}{b:Nat}{ts:List Tm}{z:Str}{k:Nat} (h:Wd e f) (w:WayK p z k) (hB:0≤B) (hB2:B≤100000) (hb:b≤100000) (hl:ts.length≤1000) (ht:∀ t∈ts,okT B b t) :
    (sumT B ts=0→zj [.tup [.int e,.int f],.lst (ts.map Tm.pv),.str z] = .ok (.tup [.int (0+(if nbel ts z then 1 else 0)*p2 (e+f)),.int 0])) ∧
    (sumT B ts≠0→∃ N K,Nv B (sumT B ts) N K∧N≠0∧∀ W mk,zh [.tup [.int e,.int f],.int N,.int K,.int 1,.str z] = .ok (.tup [.int W,.int mk])→zj [.tup [.int e,.int f],.lst (ts.map Tm.pv),.str z] = .ok (.tup [.int W,.int mk])):=by
  have cw:=zb7 h
  have wy:=(way_q w).1
  have nn:=z5t ts h (by omega)
  rw [noneV_no fun t x=>⟨(okT_no (ht t x)).1,(okT_no (ht t x)).2.1⟩] at nn
  have en:=fun r0 r1 r2 r3 r4 r5=>ends_none (ts:=ts) (r0:=r0) (r1:=r1) (r2:=r2) (r3:=r3) (r4:=r4) (r5:=r5) hl fun t x=>(okT_no (ht t x)).2.2
  obtain ⟨N,K,s1,s2,s3⟩:=zc2 hB hB2 hb hl ht
  have nb0:=z9e (ts:=ts) (z:=z) hl
  have ws:=z29 (u:=0) ⟨h,.inl rfl,by decide,p2_pos _⟩ (nbel ts z)
  constructor
  · intro h0
    obtain ⟨n0,k0⟩:=nv_zero s2 h0
    subst n0 k0
    generalize ts.map Tm.pv=l at *
    generalize nbel ts z=y at *
    generalize (0+(if y=true then (1:Int) else 0)*p2 (e+f))=W at *
    dsimp! [zj,z4a,List.replicate,List.set,cw,wy,nn,notN_n,fComp_e,en,truth_nil,s1,nb0,ws]
  · intro h0
    have no:=nv_odd s2 h0
    have n0:¬ N=0:=by omega
    refine ⟨N,K,s2,n0,fun W mk tk=>?_⟩
    generalize ts.map Tm.pv=l at *
    dsimp! [zj,z4a,List.replicate,List.set,cw,wy,nn,notN_n,fComp_e,en,truth_nil,s1,n0,tk,Bool.false_and]
theorem st_val0 {e f u:Int} (h:Wd e f) (u0:0≤u) (u1:u<eS e f):0≤xN (vN f u)∧nb (xN (vN f u))≤61∧lp e f≤xK (vN f u) (vK e f u)∧xK (vN f u) (vK e f u)≤lp e f+2200∧stU f u=xN (vN f u)*p2 (xK (vN f u) (vK e f u) - lp e f)∧(xN (vN f u)=0↔u=0) ∧
    (xN (vN f u) % 2=1∨(xN (vN f u)=0∧xK (vN f u) (vK e f u)=0))∧0≤stU f u∧(stU f u=0↔u=0):=by
  obtain ⟨l1,l2,l3,l4⟩:=lp_bounds h
  by_cases c:u=0
  · subst c
    have e1:xN (vN f 0)=0:=by rw [vN_0];rfl
    have e2:xK (vN f 0) (vK e f 0)=0:=by rw [vN_0];rfl
    have e3:stU f 0=0:=stU_lo (p2_pos f)
    rw [e1,e2,e3]
    refine ⟨by decide,by decide,by omega,by omega,by rw [Int.zero_mul],⟨fun _=>rfl,fun _=>rfl⟩,.inr ⟨rfl,rfl⟩,by decide,⟨fun _=>rfl,fun _=>rfl⟩⟩
  · obtain ⟨a1,a2,a3,a4,a5⟩:=st_val h (show 0<u by omega) u1
    have sp:=stU_lt (f:=f) (u:=0) (v:=u) (by decide) (by omega)
    rw [stU_lo (p2_pos f)] at sp
    refine ⟨by omega,a2,a3,a4,a5,⟨fun x=>by omega,fun x=>by omega⟩,x_odd _ _,by omega,⟨fun x=>by omega,fun x=>by omega⟩⟩
noncomputable def sS (f s u:Int):Int:=if s=1 then -(stU f u) else stU f u
theorem tm_num {e f s u:Int} (hu:u<eS e f):tmU e f s u = .num (decide (s=1)) (xN (vN f u)) (xK (vN f u) (vK e f u)):=by
  unfold tmU;rw [if_neg (by omega),if_neg (by omega)]
theorem sS_v {e f s u:Int} (h:Wd e f) (u0:0≤u) (u1:u<eS e f):vT (-(lp e f)) (tmU e f s u)=sS f s u:=by
  obtain ⟨_,_,_,_,a5,_⟩:=st_val0 h u0 u1
  rw [tm_num u1]
  show (if decide (s=1)=true then -(xN (vN f u)) else xN (vN f u))*p2 (xK (vN f u) (vK e f u) + -(lp e f))=_
  unfold sS
  rw [a5,show xK (vN f u) (vK e f u) + -(lp e f)=xK (vN f u) (vK e f u) - lp e f by omega]
  by_cases c:s=1
  · rw [decide_eq_true c,if_pos c,if_pos rfl,Int.neg_mul]
  · rw [decide_eq_false c,if_neg c,if_neg (by decide)]
theorem okT_w {e f s u:Int} (h:Wd e f) (u0:0≤u) (u1:u<eS e f):okT (-(lp e f)) 2200 (tmU e f s u):=by
  obtain ⟨_,_,a3,_,a5,_,a7,_⟩:=st_val0 h u0 u1
  rw [tm_num u1]
  refine ⟨a7,by omega,?_⟩
  rw [show xK (vN f u) (vK e f u) + -(lp e f)=xK (vN f u) (vK e f u) - lp e f by omega,← a5]
  exact nb_st h u0 (by omega)
theorem prod_v {e f s u t v:Int} (h:Wd e f) (u0:0≤u) (u1:u<eS e f) (v0:0≤v) (v1:v<eS e f) :
    vT (-(2*lp e f)) (prodT (tmU e f s u) (tmU e f t v))=(if (!(decide (s=1) == decide (t=1))) then -(stU f u*stU f v) else stU f u*stU f v)∧okT (-(2*lp e f)) 4400 (prodT (tmU e f s u) (tmU e f t v)) ∧
      (prodT (tmU e f s u) (tmU e f t v)).sg=(!(decide (s=1) == decide (t=1)))∧(prodT (tmU e f s u) (tmU e f t v)).isZ=decide (stU f u*stU f v=0):=by
  obtain ⟨a1,a2,a3,a4,a5,a6,a7,a8,a9⟩:=st_val0 h u0 u1
  obtain ⟨b1,b2,b3,b4,b5,b6,b7,b8,b9⟩:=st_val0 h v0 v1
  have n1:=nb_st h u0 (by omega)
  have n2:=nb_st h v0 (by omega)
  have n3:=nb_mul_le (stU f u) (stU f v)
  obtain ⟨l1,l2,l3,l4⟩:=lp_bounds h
  rw [tm_num u1,tm_num v1]
  generalize (decide (s=1))=x at *
  generalize (decide (t=1))=y at *
  generalize xN (vN f u)=n at *
  generalize xN (vN f v)=m at *
  generalize xK (vN f u) (vK e f u)=k at *
  generalize xK (vN f v) (vK e f v)=l at *
  by_cases c:n=0∨m=0
  · have e1:prodT (.num x n k) (.num y m l) = .num (!(x == y)) 0 0:=if_pos c
    have z:stU f u*stU f v=0:=by
      rcases c with c | c
      · rw [a9.mpr (a6.mp c),Int.zero_mul]
      · rw [b9.mpr (b6.mp c),Int.mul_zero]
    rw [e1,z]
    refine ⟨?_,⟨.inr ⟨rfl,rfl⟩,by omega,by rw [Int.zero_mul];decide⟩,rfl,rfl⟩
    show (if (!(x == y))=true then -(0:Int) else 0)*_=_
    cases (!(x == y))<;>simp
  · have e1:prodT (.num x n k) (.num y m l) = .num (!(x == y)) (n*m) (k+l):=if_neg c
    have z1:n % 2=1:=by omega
    have z2:m % 2=1:=by omega
    have z3:n*m % 2=1:=by rw [Int.mul_emod,z1,z2];rfl
    have pv:n*m*p2 (k+l + -(2*lp e f))=stU f u*stU f v:=by
      rw [a5,b5,show k+l + -(2*lp e f)=(k - lp e f)+(l - lp e f) by omega,p2_add (by omega) (by omega)]
      simp only [Int.mul_comm,Int.mul_left_comm,Int.mul_assoc]
    have nz:¬ stU f u*stU f v=0:=by
      intro z
      rcases Int.mul_eq_zero.mp z with z | z
      · exact c (.inl (a6.mpr (a9.mp z)))
      · exact c (.inr (b6.mpr (b9.mp z)))
    rw [e1]
    refine ⟨?_,⟨.inl z3,by omega,by rw [pv];omega⟩,rfl,?_⟩
    · show (if (!(x == y))=true then -(n*m) else n*m)*p2 (k+l + -(2*lp e f))=_
      cases (!(x == y))
      · simp only [Bool.false_eq_true,if_false];exact pv
      · simp only [if_true,Int.neg_mul,pv]
    · show (decide (n*m=0) && decide (k+l=0))=_
      rw [decide_eq_false nz,decide_eq_false (by omega)];rfl
noncomputable def wdR (e f r:Int):Int:=ab r+(if r<0 then 1 else 0)*p2 (e+f)
theorem wdR_facts {e f r:Int} (h:Wd e f) (h1 : -(eS e f)≤r) (h2:r≤eS e f):0≤wdR e f r∧wdR e f r<2*p2 (e+f)∧wdR e f r≠p2 (e+f)∧(wdR e f r=0↔r=0):=by
  obtain ⟨m1,m3,p3,_⟩:=eS_facts h
  unfold wdR ab
  by_cases c:r<0
  · rw [if_pos c,if_pos c];refine ⟨?_,?_,?_,?_⟩<;>omega
  · rw [if_neg c,if_neg c];refine ⟨?_,?_,?_,?_⟩<;>omega
theorem zbs {e f r:Int} (h:Wd e f) (h1 : -(eS e f)≤r) (h2:r≤eS e f):zb [.tup [.int e,.int f],.int (wdR e f r)] = .ok (.int r):=by
  obtain ⟨w,k⟩:=wu_rk h h1 h2
  have:=z77 w (by unfold ab;split<;>omega)
  rw [k] at this
  exact this
theorem z42 {e f r:Int} (h:Wd e f) (h1 : -(eS e f)≤r) (h2:r≤eS e f):z12 [.tup [.int e,.int f],.int r] = .ok (.int (wdR e f r)):=zc6 h h1 h2
theorem zb6 {e f r:Int} (h:Wd e f) (h1 : -(eS e f)≤r) (h2:r≤eS e f):zp [.tup [.int e,.int f],.int (wdR e f r)] = .ok .non:=by
  obtain ⟨w,_⟩:=wu_rk h h1 h2
  obtain ⟨a1,a2,_⟩:=wu_word w
  exact z56 h a1 a2
theorem zb2 {e f r:Int} (h:Wd e f):z2o [.tup [.int e,.int f],.int r] = .ok (.int (wdR e f r)):=by
  obtain ⟨g1,g2,g3,g4⟩:=h
  have o1:=okShl_1 (b:=e+f) (by omega) (by omega)
  unfold wdR ab
  by_cases c:r<0
  · rw [if_pos c,if_pos c]
    have e1:p2 (e+f) - r = -r+1*p2 (e+f):=by omega
    generalize -r+1*p2 (e+f)=w at *
    dsimp! [z2o,z6a,List.replicate,List.set,Int.one_mul,o1,c,e1]
  · rw [if_neg c,if_neg c]
    have e1:r+0*p2 (e+f)=r:=by omega
    rw [e1]
    dsimp! [z2o,z6a,List.replicate,List.set,Int.one_mul,o1,c]
theorem zbr {e f s u:Int} (h:Wu e f s u):z4 [.tup [.int e,.int f],.int (u+s*p2 (e+f))] = .ok (.int (rk s u)):=by
  have u0:=h.2.2.1
  have u1:=h.2.2.2
  obtain ⟨g1,g2,g3,g4⟩:=h.1
  have o1:=okShl_1 (b:=e+f) (by omega) (by omega)
  unfold rk
  rcases h.2.1 with rfl | rfl
  · have e1:u+0*p2 (e+f)=u:=by omega
    have n1:¬ p2 (e+f)≤u:=by omega
    rw [e1,if_neg (by decide)]
    dsimp! [z4,z67,List.replicate,List.set,Int.one_mul,o1,n1]
  · have e1:p2 (e+f) - (u+1*p2 (e+f)) = -u:=by omega
    have n1:p2 (e+f)≤u+1*p2 (e+f):=by omega
    rw [if_pos rfl]
    generalize u+1*p2 (e+f)=w at *
    dsimp! [z4,z67,List.replicate,List.set,Int.one_mul,o1,n1,e1]
theorem z1t {e f r:Int} (h:Wd e f) (h1 : -(eS e f)≤r) (h2:r≤eS e f):z4 [.tup [.int e,.int f],.int (wdR e f r)] = .ok (.int r):=by
  obtain ⟨w,k⟩:=wu_rk h h1 h2
  have:=zbr w
  rw [k] at this
  exact this
structure SpOk (e f a b:Int):Prop where
  l0 : -(eS e f)≤a
  l1:a<eS e f
  ab':a≤b
  h0 : -(eS e f)<b
  h1:b≤eS e f
theorem zbt {e f a b:Int} (h:Wd e f) (k:SpOk e f a b):zx [.tup [.int e,.int f],.int (wdR e f a),.int (wdR e f b)] = .ok (.tup [.int (wdR e f a),.int (wdR e f b)]):=by
  obtain ⟨k1,k2,k3,k4,k5⟩:=k
  have r1:=zbs h k1 (by omega)
  have r2:=zbs h (by omega) k5
  have w1:=z42 h k1 (by omega)
  have w2:=z42 h (by omega) k5
  have en:=zbb h
  have n1:¬ a > b:=by omega
  have n2:¬ a=eS e f:=by omega
  have n3:¬ b = -(eS e f):=by omega
  generalize wdR e f a=A at *
  generalize wdR e f b=B at *
  dsimp! [zx,z6m,List.replicate,List.set,r1,r2,w1,w2,en,n1,n2,n3,isN_i]
theorem zb9 {e f a b c d:Int} (h:Wd e f) (k:SpOk e f a b) (g:SpOk e f c d):zi [.tup [.int e,.int f],.lst [.tup [.int (wdR e f a),.int (wdR e f b)],.tup [.int (wdR e f c),.int (wdR e f d)]]] =
    .ok (.lst [.tup [.int (wdR e f a),.int (wdR e f b)],.tup [.int (wdR e f c),.int (wdR e f d)]]):=by
  have s1:=noX_ok (zbt h k)
  have s2:=noX_ok (zbt h g)
  have c1:=zb6 h k.l0 (by have:=k.l1;omega)
  have c2:=zb6 h (by have:=k.h0;omega) k.h1
  have c3:=zb6 h g.l0 (by have:=g.l1;omega)
  have c4:=zb6 h (by have:=g.h0;omega) g.h1
  generalize wdR e f a=A at *
  generalize wdR e f b=B at *
  generalize wdR e f c=C at *
  generalize wdR e f d=D at *
  have co:∀ v1 v2,compK 3 tTrue (fCall (noX zx) (aCons (fVar 0) (aCons (fBin oItem (fVar 3) (fC (.int 0))) (aCons (fBin oItem (fVar 3) (fC (.int 1))) (aNil))))) [some (.tup [.int e,.int f]),v1,v2] [.tup [.int A,.int B],.tup [.int C,.int D]] = .ok (.lst [.tup [.int A,.int B],.tup [.int C,.int D]])  :=fun v1 v2=>by
    refine compK_ok (by simp) ?_
    refine (compL_map (fun p=>p) fun p hp=>?_).trans (by rw [List.map_id'])
    simp only [padTo,List.cons_append,List.nil_append]
    rcases List.mem_cons.mp hp with y | y
    · rw [y];dsimp! [s1]
    · rw [List.mem_singleton] at y;rw [y];dsimp! [s2]
  have l1:∀ v2,forL 2 z48 [.tup [.int A,.int B],.tup [.int C,.int D]] [some (.tup [.int e,.int f]),some (.lst [.tup [.int A,.int B],.tup [.int C,.int D]]),v2] = .next [some (.tup [.int e,.int f]),some (.lst [.tup [.int A,.int B],.tup [.int C,.int D]]),some (.tup [.int C,.int D])]:=fun v2=>by
    have c22:((2:Nat):Int)=2:=rfl
    dsimp! [forL,List.set,z48,List.length_cons,List.length_nil,Nat.reduceAdd,c22]
  have l2:∀ v2,forL 2 z49 [.tup [.int A,.int B],.tup [.int C,.int D]] [some (.tup [.int e,.int f]),some (.lst [.tup [.int A,.int B],.tup [.int C,.int D]]),v2] = .next [some (.tup [.int e,.int f]),some (.lst [.tup [.int A,.int B],.tup [.int C,.int D]]),some (.tup [.int C,.int D])]:=fun v2=>by
    dsimp! [forL,List.set,z49,c1,c2,c3,c4]
  dsimp! [zi,z6c,List.replicate,List.set,l1,l2,fComp_e,co]
theorem zb8 {e f a b:Int} (h:Wd e f) (k:SpOk e f a b):zi [.tup [.int e,.int f],.lst [.tup [.int (wdR e f a),.int (wdR e f b)]]] = .ok (.lst [.tup [.int (wdR e f a),.int (wdR e f b)]]):=by
  have s1:=noX_ok (zbt h k)
  have c1:=zb6 h k.l0 (by have:=k.l1;omega)
  have c2:=zb6 h (by have:=k.h0;omega) k.h1
  generalize wdR e f a=A at *
  generalize wdR e f b=B at *
  have co:∀ v1 v2,compK 3 tTrue (fCall (noX zx) (aCons (fVar 0) (aCons (fBin oItem (fVar 3) (fC (.int 0))) (aCons (fBin oItem (fVar 3) (fC (.int 1))) (aNil))))) [some (.tup [.int e,.int f]),v1,v2] [.tup [.int A,.int B]] = .ok (.lst [.tup [.int A,.int B]]):=fun v1 v2=>by
    refine compK_ok (by simp) ?_
    refine (compL_map (fun p=>p) fun p hp=>?_).trans (by rw [List.map_id'])
    simp only [padTo,List.cons_append,List.nil_append]
    rw [List.mem_singleton] at hp;rw [hp];dsimp! [s1]
  have l1:∀ v2,forL 2 z48 [.tup [.int A,.int B]] [some (.tup [.int e,.int f]),some (.lst [.tup [.int A,.int B]]),v2] = .next [some (.tup [.int e,.int f]),some (.lst [.tup [.int A,.int B]]),some (.tup [.int A,.int B])]:=fun v2=>by
    have c22:((2:Nat):Int)=2:=rfl
    dsimp! [forL,List.set,z48,List.length_cons,List.length_nil,Nat.reduceAdd,c22]
  have l2:∀ v2,forL 2 z49 [.tup [.int A,.int B]] [some (.tup [.int e,.int f]),some (.lst [.tup [.int A,.int B]]),v2] = .next [some (.tup [.int e,.int f]),some (.lst [.tup [.int A,.int B]]),some (.tup [.int A,.int B])]:=fun v2=>by
    dsimp! [forL,List.set,z49,c1,c2]
  dsimp! [zi,z6c,List.replicate,List.set,l1,l2,fComp_e,co]
def NW (e f w:Int):Prop:=0≤w∧w<2*p2 (e+f)∧w % p2 (e+f)≤eS e f
noncomputable def rkW (e f w:Int):Int:=rk (w / p2 (e+f)) (w % p2 (e+f))
theorem nw_of {e f s u:Int} (h:Wu e f s u) (hu:u≤eS e f):NW e f (u+s*p2 (e+f))∧rkW e f (u+s*p2 (e+f))=rk s u:=by
  obtain ⟨a1,a2,a3,a4,_⟩:=wu_word h
  have p6:=(p2_wd h.1).2.2.2.2.1
  refine ⟨⟨a1,by omega,by rw [a4];exact hu⟩,?_⟩
  unfold rkW;rw [a3,a4]
theorem z38 {e f w:Int} (h:Wd e f) (k:NW e f w):zb [.tup [.int e,.int f],.int w] = .ok (.int (rkW e f w))∧-(eS e f)≤rkW e f w∧rkW e f w≤eS e f:=by
  have p6:=(p2_wd h).2.2.2.2.1
  obtain ⟨s,u,hw,rfl⟩:=wu_of h k.1 (by have:=k.2.1;omega)
  have k3:=k.2.2
  obtain ⟨a1,a2,a3,a4,_⟩:=wu_word hw
  rw [a4] at k3
  have:=nw_of hw k3
  have u0:=hw.2.2.1
  rw [this.2]
  refine ⟨z77 hw k3,?_,?_⟩<;>(unfold rk;split<;>omega)
theorem zc0 {e f l0 h0:Int}{ls hs:List Int} (h:Wd e f) (n1:ls.length≤100) (n2:hs.length≤100) (k1:∀ w∈l0::ls,NW e f w) (k2:∀ w∈h0::hs,NW e f w) :
    z11 [.tup [.int e,.int f],.lst ((l0::ls).map PV.int),.lst ((h0::hs).map PV.int)] = .ok (.tup [.int (wdR e f (minL (rkW e f l0) (ls.map (rkW e f)))),.int (wdR e f (maxL (rkW e f h0) (hs.map (rkW e f))))]):=by
  have ip:∀ l:List Int,intsP (l.map PV.int)=some l:=fun l=>by
    induction l with
    | nil=>rfl
    | cons x r ih=>show (intsP (r.map PV.int)).map (x::·)=_;rw [ih];rfl
  have co:∀ (l:List Int) v1 v2 v3 v4,l.length≤1000→(∀ w∈l,NW e f w)→compK 5 tTrue (fCall (noX zb) (aCons (fVar 0) (aCons (fVar 5) (aNil)))) [some (.tup [.int e,.int f]),v1,v2,v3,v4] (l.map PV.int) = .ok (.lst ((l.map (rkW e f)).map PV.int)):=fun l v1 v2 v3 v4 hl hk=>by
    refine compK_ok (by rw [List.length_map];omega) ?_
    rw [compL_map (fun p=>match p with | PV.int w=>PV.int (rkW e f w) | p=>p) fun p hp=>?_]
    · rw [List.map_map,List.map_map];rfl
    · obtain ⟨w,hw,rfl⟩:=List.mem_map.mp hp
      have:=noX_ok (z38 h (hk w hw)).1
      dsimp! [padTo,List.cons_append,List.nil_append,this]
  have b1:∀ w∈l0::ls,-(eS e f)≤rkW e f w∧rkW e f w≤eS e f:=fun w hw=>(z38 h (k1 w hw)).2
  have b2:∀ w∈h0::hs,-(eS e f)≤rkW e f w∧rkW e f w≤eS e f:=fun w hw=>(z38 h (k2 w hw)).2
  have c1:=fun v1 v2 v3 v4=>co (l0::ls) v1 v2 v3 v4 (by simp;omega) k1
  have c2:=fun v1 v2 v3 v4=>co (h0::hs) v1 v2 v3 v4 (by simp;omega) k2
  have m1:bMin1 [.lst (((l0::ls).map (rkW e f)).map PV.int)] = .ok (.int (minL (rkW e f l0) (ls.map (rkW e f)))):=by
    show (match intsP _ with | some (n::r)=>R.ok (PV.int (minL n r)) | _=>.stuck)=_
    rw [ip];rfl
  have m2:bMax1 [.lst (((h0::hs).map (rkW e f)).map PV.int)] = .ok (.int (maxL (rkW e f h0) (hs.map (rkW e f)))):=by
    show (match intsP _ with | some (n::r)=>R.ok (PV.int (maxL n r)) | _=>.stuck)=_
    rw [ip];rfl
  obtain ⟨s1,s2,s3⟩:=minL_spec (ls.map (rkW e f)) (rkW e f l0)
  obtain ⟨t1,t2,t3⟩:=maxL_spec (hs.map (rkW e f)) (rkW e f h0)
  have mem:∀ (x0 x:Int) (xs:List Int),(x=rkW e f x0∨x∈xs.map (rkW e f))→(∀ w∈x0::xs,-(eS e f)≤rkW e f w∧rkW e f w≤eS e f)→-(eS e f)≤x∧x≤eS e f:=fun x0 x xs hx hk=>by
    rcases hx with rfl | hx
    · exact hk x0 List.mem_cons_self
    · obtain ⟨w,hw,rfl⟩:=List.mem_map.mp hx
      exact hk w (List.mem_cons_of_mem _ hw)
  obtain ⟨x1,x2⟩:=mem l0 _ ls s1 b1
  obtain ⟨y1,y2⟩:=mem h0 _ hs t1 b2
  have w1:=z42 h x1 x2
  have w2:=z42 h y1 y2
  generalize minL (rkW e f l0) (ls.map (rkW e f))=X at *
  generalize maxL (rkW e f h0) (hs.map (rkW e f))=Y at *
  generalize wdR e f X=X' at *
  generalize wdR e f Y=Y' at *
  generalize ((l0::ls).map (rkW e f)).map PV.int=A at *
  generalize ((h0::hs).map (rkW e f)).map PV.int=B at *
  generalize (l0::ls).map PV.int=A' at *
  generalize (h0::hs).map PV.int=B' at *
  dsimp! [z11,z89,List.replicate,List.set,fComp_e,c1,c2,m1,m2,w1,w2]
def Dn (e f X B r:Int):Prop:=-(eS e f)≤r∧r<eS e f∧(r = -(eS e f)∨sv f r*B≤X)∧(r=eS e f - 1∨X<sv f (r+1)*B)
theorem sv_le {f r q:Int} (h:r≤q):sv f r≤sv f q:=by
  by_cases c:r=q
  · rw [c];exact Int.le_refl _
  · exact Int.le_of_lt (sv_lt (by omega))
theorem dn_mono {e f X Y B r q:Int} (hB:0<B) (h:X≤Y) (a:Dn e f X B r) (b:Dn e f Y B q):r≤q:=by
  obtain ⟨a1,a2,a3,a4⟩:=a
  obtain ⟨b1,b2,b3,b4⟩:=b
  refine Int.not_lt.mp fun c=>?_
  have c1:=Int.mul_le_mul_of_nonneg_right (sv_le (f:=f) (show q+1≤r by omega)) (Int.le_of_lt hB)
  omega
theorem dn_0 {e f B:Int} (h:Wd e f) (hB:0<B):Dn e f 0 B 0:=by
  obtain ⟨m1,m3,p3,_⟩:=eS_facts h
  refine ⟨by omega,by omega,.inr ?_,.inr ?_⟩
  · have:sv f 0=0:=by unfold sv;rw [if_neg (by decide),stU_lo (p2_pos f)]
    rw [this,Int.zero_mul];exact Int.le_refl _
  · have:sv f (0+1)=1:=by unfold sv;rw [if_neg (by decide),stU_lo (by omega)];rfl
    rw [this,Int.one_mul];exact hB
theorem sv_p {f r:Int} (h:0≤r):sv f r=stU f r:=by unfold sv;rw [if_neg (by omega)]
theorem sv_n {f r:Int} (h:0≤r):sv f (-r) = -(stU f r):=by
  unfold sv
  by_cases c:r=0
  · subst c;rw [if_neg (by decide),show -(0:Int)=0 from rfl,stU_lo (p2_pos f)];rfl
  · rw [if_pos (by omega),Int.neg_neg]
theorem in_dn {e f u sz M B:Int} (h:Wd e f) (hB:0<B) (u0:0≤u) (k:(eS e f≤u∧sz=eS e f - 1)∨(u<eS e f∧sz=u)) (a:stU f u*B≤M) (b:M<stU f (u+1)*B):Dn e f M B sz:=by
  obtain ⟨m1,m3,p3,_⟩:=eS_facts h
  rcases k with ⟨k1,rfl⟩ | ⟨k1,rfl⟩
  · refine ⟨by omega,by omega,.inr ?_,.inl rfl⟩
    rw [sv_p (by omega)]
    have:=Int.mul_le_mul_of_nonneg_right (Int.le_of_lt (stU_lt (f:=f) (show 0≤eS e f - 1 by omega) (show eS e f - 1<u by omega))) (Int.le_of_lt hB)
    omega
  · refine ⟨by omega,by omega,.inr ?_,.inr ?_⟩
    · rw [sv_p u0];exact a
    · rw [sv_p (by omega)];exact b
theorem out_dn {e f u sz M B:Int} (h:Wd e f) (hB:0<B) (u0:0≤u) (M0:0<M) (k:(eS e f≤u∧sz=eS e f∧stU f u*B≤M)∨(u<eS e f∧sz=u∧M=stU f u*B)∨(u<eS e f∧sz=u+1∧stU f u*B<M∧M≤stU f (u+1)*B)):Dn e f (-M) B (-sz):=by
  obtain ⟨m1,m3,p3,_⟩:=eS_facts h
  have mul:∀ x y:Int,0≤x→x<y→stU f x*B<stU f y*B:=fun x y x0 xy=>Int.mul_lt_mul_of_pos_right (stU_lt x0 xy) hB
  rcases k with ⟨k1,k2,k3⟩ | ⟨k1,k2,k3⟩ | ⟨k1,k2,k3,k4⟩<;>rw [k2]
  · refine ⟨by omega,by omega,.inl rfl,.inr ?_⟩
    rw [show -(eS e f)+1 = -(eS e f - 1) by omega,sv_n (by omega),Int.neg_mul]
    have:=mul (eS e f - 1) u (by omega) (by omega)
    omega
  · have up:0<u:=by
      by_cases c:u=0
      · rw [c,stU_lo (p2_pos f),Int.zero_mul] at k3;omega
      · omega
    refine ⟨by omega,by omega,.inr ?_,.inr ?_⟩
    · rw [sv_n u0,Int.neg_mul];omega
    · rw [show -u+1 = -(u - 1) by omega,sv_n (by omega),Int.neg_mul]
      have:=mul (u - 1) u (by omega) (by omega)
      omega
  · refine ⟨by omega,by omega,.inr ?_,.inr ?_⟩
    · rw [sv_n (by omega),Int.neg_mul];omega
    · rw [show -(u+1)+1 = -u by omega,sv_n u0,Int.neg_mul];omega
theorem dn_tk {e f p t q sd top B:Int} (h:Wd e f) (hp:p=3∨p=4) (t0:0≤t) (q0:0≤q) (q1:q<2*p2 f) (qt:t=0∨p2 f≤q) (hB:0<B) (hs:sd=0∨sd=1∨sd=2∨sd=3) (hn:top≠0)
    (L:Lies (ab top) (q*p2 t*B) ((q+1)*p2 t*B) sd) :
    ∃ sz mk,tkT e f p t q sd (decide (top<0)) = .tup [.int (sz+sg (decide (top<0))*p2 (e+f)),.int mk]∧0≤sz∧sz≤eS e f∧(p=4→Dn e f top B (if top<0 then -sz else sz))∧(p=3→Dn e f (-top) B (if top<0 then sz else -sz)):=by
  obtain ⟨u0,s1,s2,_⟩:=low_u h.2.2.1 t0 q0 q1 qt
  obtain ⟨sz,mk,ek,z0,z1,k⟩:=tk_cases (p:=p) (t:=t) (q:=q) (under:=decide (top<0)) h (.inr (.inr (.inr hp))) hs rfl u0
  refine ⟨sz,mk,ek,z0,z1,?_⟩
  rw [← s1,← s2] at L
  generalize t*p2 f+q=u at *
  have mm:=Int.mul_lt_mul_of_pos_right (stU_lt (f:=f) u0 (show u<u+1 by omega)) hB
  have b1:stU f u*B≤ab top∧ab top<stU f (u+1)*B:=by
    unfold Lies at L
    generalize stU f u*B=X at *
    generalize stU f (u+1)*B=Y at *
    omega
  have b2:sd=0→ab top=stU f u*B:=fun c=>by
    subst c
    unfold Lies at L
    omega
  have b3:sd≠0→stU f u*B<ab top:=fun c=>by
    unfold Lies at L
    generalize stU f u*B=X at *
    generalize stU f (u+1)*B=Y at *
    omega
  have gc:=gr_cases (p:=p) (q:=q) (sd:=sd) (below:=decide (top<0)) (.inr (.inr (.inr hp))) hs
  by_cases c:top<0
  · have at':ab top = -top:=if_pos c
    rw [at'] at b1 b2 b3
    rw [if_pos c,if_pos c]
    rw [decide_eq_true c] at k gc
    refine ⟨fun p4=>?_,fun p3=>?_⟩
    · subst p4
      have gw4:gw 4 true 3 true=true:=rfl
      rw [gw4,if_pos rfl] at k
      have e1:top = -(-top):=by omega
      rw [e1]
      refine out_dn h hB u0 (by clear k gc b1 b2 b3 s1 s2;omega) ?_
      rcases k with ⟨k1,k2,_⟩ | ⟨k1,k2,k3,_⟩ | ⟨k1,k2,k3,_⟩
      · exact .inl ⟨k1,by omega,b1.1⟩
      · refine .inr (.inl ⟨k1,k3,b2 ?_⟩)
        rcases gc with ⟨g1,_⟩ | ⟨_,g2⟩
        · rw [k2] at g1;cases g1
        · rcases g2 with g | g | g | g | g
          · omega
          · omega
          · omega
          · omega
          · rcases g.2 with y | y
            · cases y
            · exact y
      · refine .inr (.inr ⟨k1,k3,b3 ?_,Int.le_of_lt b1.2⟩)
        rcases gc with ⟨_,g2⟩ | ⟨g1,_⟩
        · rcases g2 with g | g | g | g
          · omega
          · omega
          · omega
          · exact g.2.2
        · rw [k2] at g1;cases g1
    · subst p3
      have gw4:gw 3 true 3 true=false:=rfl
      rw [gw4] at k
      refine in_dn h hB u0 ?_ b1.1 b1.2
      rcases k with ⟨k1,k2,_⟩ | ⟨k1,k2,k3,_⟩ | ⟨k1,k2,k3,_⟩
      · exact .inl ⟨k1,by rw [if_neg (by decide)] at k2;omega⟩
      · exact .inr ⟨k1,k3⟩
      · exfalso
        rcases gc with ⟨_,g2⟩ | ⟨g1,_⟩
        · rcases g2 with g | g | g | g
          · omega
          · omega
          · exact absurd g.2.1 (by decide)
          · omega
        · rw [k2] at g1;cases g1
  · have at':ab top=top:=if_neg c
    rw [at'] at b1 b2 b3
    rw [if_neg c,if_neg c]
    rw [decide_eq_false c] at k gc
    refine ⟨fun p4=>?_,fun p3=>?_⟩
    · subst p4
      have gw4:gw 4 true 3 false=false:=rfl
      rw [gw4] at k
      refine in_dn h hB u0 ?_ b1.1 b1.2
      rcases k with ⟨k1,k2,_⟩ | ⟨k1,k2,k3,_⟩ | ⟨k1,k2,k3,_⟩
      · exact .inl ⟨k1,by rw [if_neg (by decide)] at k2;omega⟩
      · exact .inr ⟨k1,k3⟩
      · exfalso
        rcases gc with ⟨_,g2⟩ | ⟨g1,_⟩
        · rcases g2 with g | g | g | g
          · omega
          · omega
          · omega
          · exact absurd g.2.1 (by decide)
        · rw [k2] at g1;cases g1
    · subst p3
      have gw4:gw 3 true 3 false=true:=rfl
      rw [gw4,if_pos rfl] at k
      refine out_dn h hB u0 (by clear k gc b1 b2 b3 s1 s2;omega) ?_
      rcases k with ⟨k1,k2,_⟩ | ⟨k1,k2,k3,_⟩ | ⟨k1,k2,k3,_⟩
      · exact .inl ⟨k1,by omega,b1.1⟩
      · refine .inr (.inl ⟨k1,k3,b2 ?_⟩)
        rcases gc with ⟨g1,_⟩ | ⟨_,g2⟩
        · rw [k2] at g1;cases g1
        · rcases g2 with g | g | g | g | g
          · omega
          · omega
          · omega
          · rcases g.2 with y | y
            · cases y
            · exact y
          · omega
      · refine .inr (.inr ⟨k1,k3,b3 ?_,Int.le_of_lt b1.2⟩)
        rcases gc with ⟨_,g2⟩ | ⟨g1,_⟩
        · rcases g2 with g | g | g | g
          · omega
          · omega
          · exact g.2.2
          · omega
        · rw [k2] at g1;cases g1
theorem tk_nw {e f top sz:Int} (h:Wd e f) (z0:0≤sz) (z1:sz≤eS e f):NW e f (sz+sg (decide (top<0))*p2 (e+f))∧rkW e f (sz+sg (decide (top<0))*p2 (e+f))=if top<0 then -sz else sz:=by
  obtain ⟨m1,m3,p3,_⟩:=eS_facts h
  by_cases c:top<0
  · rw [decide_eq_true c,if_pos c]
    have w:Wu e f 1 sz:=⟨h,.inr rfl,z0,by omega⟩
    exact nw_of w z1
  · rw [decide_eq_false c,if_neg c]
    have w:Wu e f 0 sz:=⟨h,.inl rfl,z0,by omega⟩
    exact nw_of w z1
theorem gath_dn {e f B more p:Int}{b:Nat}{ts:List Tm}{z:Str}{k:Nat} (h:Wd e f) (w:WayK p z k) (hp:p=3∨p=4) (m0:0≤more) (hB:B=more - lp e f) (hB2:B≤3000) (hb:b+ts.length≤5000) (hl:ts.length≤1000) (ht:∀ t∈ts,okT B b t) :
    ∃ W mk,zj [.tup [.int e,.int f],.lst (ts.map Tm.pv),.str z] = .ok (.tup [.int W,.int mk])∧NW e f W∧(p=4→Dn e f (sumT B ts) (p2 more) (rkW e f W))∧(p=3→Dn e f (-(sumT B ts)) (p2 more) (-(rkW e f W))):=by
  obtain ⟨l1,l2,l3,l4⟩:=lp_bounds h
  obtain ⟨m1,m3,p3,_⟩:=eS_facts h
  obtain ⟨gt0,gt1⟩:=z99 h w (by omega) (by omega) (by omega) hl ht
  have pB:=p2_pos more
  by_cases h0:sumT B ts=0
  · have gt:=gt0 h0
    have k0:∀ y:Bool,NW e f (0+(if y=true then 1 else 0)*p2 (e+f))∧rkW e f (0+(if y=true then 1 else 0)*p2 (e+f))=0:=fun y=>by
      have pP:=p2_pos (e+f)
      cases y
      · have w0:Wu e f 0 0:=⟨h,.inl rfl,by decide,pP⟩
        exact nw_of w0 (by omega)
      · have w0:Wu e f 1 0:=⟨h,.inr rfl,by decide,pP⟩
        exact nw_of w0 (by omega)
    refine ⟨_,_,gt,(k0 _).1,fun _=>?_,fun _=>?_⟩
    · rw [(k0 _).2,h0];exact dn_0 h pB
    · rw [(k0 _).2,h0];exact dn_0 h pB
  obtain ⟨N,K,nv,n0,gt⟩:=gt1 h0
  obtain ⟨_,_,_,_,s3⟩:=zc2 (B:=B) (by omega) (by omega) (by omega) hl ht
  obtain ⟨n1,n2⟩:=nv_big (by omega) nv s3
  generalize sumT B ts=top at *
  have na:=nb_ab N
  have an:=ab_pos n0
  obtain ⟨t,q,a,b',st⟩:=stands (s:=ab N) (k:=K) (d:=1) h an (by decide) (by omega) (by decide) (by have:=nv.2.1;omega) (by omega)
  have tv:=nv.2.2
  have abt:ab top=ab N*p2 (K+B):=by
    rw [← tv]
    have pp:=p2_pos (K+B)
    unfold ab
    by_cases c:N<0
    · have:N*p2 (K+B)<0:=Int.mul_neg_of_neg_of_pos c pp
      rw [if_pos c,if_pos this,Int.neg_mul]
    · have:¬ N*p2 (K+B)<0:=by have:=Int.mul_nonneg (show 0≤N by omega) (Int.le_of_lt pp);omega
      rw [if_neg c,if_neg this]
  have sgn':decide (N<0)=decide (top<0):=by
    have pp:=p2_pos (K+B)
    by_cases c:N<0
    · have:N*p2 (K+B)<0:=Int.mul_neg_of_neg_of_pos c pp
      rw [decide_eq_true c,decide_eq_true (by omega)]
    · have:¬ N*p2 (K+B)<0:=by have:=Int.mul_nonneg (show 0≤N by omega) (Int.le_of_lt pp);omega
      rw [decide_eq_false c,decide_eq_false (by omega)]
  have L:=st_lies (M:=ab top) (B:=p2 more) st (by decide) pB (by
    rw [abt,hB,Int.one_mul]
    have d1:=nv.2.1
    have p:=p2_four (A:=K+(more - lp e f)) (L:=0) (C:=K - lp e f) (D:=more) (by omega) (by decide) m0 (by omega)
    rw [p2_0,Int.mul_one,show -(K - lp e f)=lp e f - K by omega] at p
    rw [Int.mul_assoc,p,Int.mul_assoc])
  obtain ⟨sz,mk,ek,z0,z1,d4,d3⟩:=dn_tk h hp st.t0 st.q0 st.q1 st.qt pB (side_of a b') h0 L
  have tk:=take_st h w n0 (by decide) (by omega) (by decide) st
  rw [sgn',ek] at tk
  obtain ⟨nw,rw'⟩:=tk_nw (top:=top) h z0 z1
  refine ⟨_,mk,gt _ mk tk,nw,fun p4=>?_,fun p3=>?_⟩
  · rw [rw'];exact d4 p4
  · rw [rw',show -(if top<0 then -sz else sz)=if top<0 then sz else -sz by split<;>omega];exact d3 p3
theorem zb1 {e f r:Int} (h:Wd e f) (h1 : -(eS e f)≤r) (h2:r≤eS e f):zw [.tup [.int e,.int f],.int r] = .ok (.int (sv f r)):=by
  obtain ⟨p1,p3,p4,p5,p6,b1,b2,b3,b4,p7,p8⟩:=p2_wd h
  obtain ⟨m1,m3,_,_,_⟩:=eS_facts h
  obtain ⟨g1,g2,g3,g4⟩:=h
  have o2:=okShl_1 (b:=f) (by omega) (by omega)
  have om2:okMod (p2 f):=p2_pos _
  have o3:okShr f:=by show 0≤f;omega
  have aa:ab r=if r<0 then -r else r:=rfl
  have ba:bAbs [.int r] = .ok (.int (ab r)):=rfl
  have u0:0≤ab r:=by rw [aa];split<;>omega
  have u1:ab r≤eS e f:=by rw [aa];split<;>omega
  have es':sv f r=if r<0 then 0 - stU f (ab r) else stU f (ab r):=by
    rw [aa];unfold sv
    by_cases c:r<0
    · rw [if_pos c,if_pos c,if_pos c,Int.zero_sub]
    · rw [if_neg c,if_neg c,if_neg c]
  rw [es']
  generalize ab r=u at *
  have y0:=Int.emod_nonneg u (show p2 f≠0 by omega)
  have y1:=Int.emod_lt_of_pos u (show 0<p2 f by omega)
  by_cases c:u<p2 f
  · rw [stU_lo c]
    have c':¬ p2 f≤u:=by omega
    by_cases d:r<0
    · rw [if_pos d]
      dsimp! [zw,z47,List.replicate,List.set,Int.one_mul,o2,ba,c',d]
    · rw [if_neg d]
      dsimp! [zw,z47,List.replicate,List.set,Int.one_mul,o2,ba,c',d]
  · have d1:1≤u / p2 f:=by
      have:=Int.ediv_le_ediv (show 0<p2 f by omega) (show p2 f≤u by omega)
      rw [Int.ediv_self (by omega)] at this
      exact this
    have d2:u / p2 f<p2 e:=Int.ediv_lt_of_lt_mul (by omega) (by rw [← p5];omega)
    have os:okShl (u % p2 f+p2 f) (u / p2 f - 1):=okShl_of (n:=62) (by omega) (nb_le (by
      have:=p2_le (a:=f) (b:=60) (by omega) g4
      have e60:p2 60=1152921504606846976:=by decide
      omega)) (by omega)
    have es:stU f u=(u % p2 f+p2 f)*p2 (u / p2 f - 1):=if_neg c
    have c':p2 f≤u:=by omega
    rw [es]
    by_cases d:r<0
    · rw [if_pos d]
      dsimp! [zw,z47,List.replicate,List.set,Int.one_mul,o2,ba,c',om2,o3,os,d]
    · rw [if_neg d]
      dsimp! [zw,z47,List.replicate,List.set,Int.one_mul,o2,ba,c',om2,o3,os,d]
theorem nb_sv {e f r:Int} (h:Wd e f) (h1 : -(eS e f)≤r) (h2:r≤eS e f):nb (sv f r)≤2200:=by
  unfold sv
  by_cases c:r<0
  · rw [if_pos c,nb_neg];exact nb_st h (by omega) (by omega)
  · rw [if_neg c];exact nb_st h (by omega) h2
theorem press {e f x y:Int} (h:Wd e f):SpOk e f (let lo:=if (-(eS e f)) > (if y<x then y else x) then -(eS e f) else (if y<x then y else x);if eS e f - 1<lo then eS e f - 1 else lo)
    (let hi:=if eS e f<(if y > x then y else x) then eS e f else (if y > x then y else x);if 1 - eS e f > hi then 1 - eS e f else hi):=by
  obtain ⟨m1,m3,p3,_⟩:=eS_facts h
  have pf:=p2_pos f
  dsimp only
  constructor<;>(repeat' split)<;>omega
theorem wu_R {e f r:Int} (h:Wd e f) (h1 : -(eS e f)≤r) (h2:r≤eS e f):∃ s u,Wu e f s u∧wdR e f r=u+s*p2 (e+f)∧u≤eS e f∧rk s u=r∧u=ab r:=by
  obtain ⟨w,k⟩:=wu_rk h h1 h2
  exact ⟨_,_,w,rfl,by unfold ab;split<;>omega,k,rfl⟩
theorem sS_rk {f s u:Int} (hs:s=0∨s=1) (u0:0≤u):sS f s u=sv f (rk s u):=(sv_rk hs u0).symm
theorem sv_neg {f r:Int}:sv f (-r) = -(sv f r):=by
  by_cases c:0≤r
  · rw [sv_n c,sv_p c]
  · have:=sv_n (f:=f) (r:=-r) (by omega)
    rw [Int.neg_neg] at this
    rw [this,sv_p (show 0≤-r by omega),Int.neg_neg]
theorem sv_0 {f:Int}:sv f 0=0:=by rw [sv_p (Int.le_refl _),stU_lo (p2_pos f)]
theorem sv_pos {f r:Int} (h:0<r):0<sv f r:=by have:=sv_lt (f:=f) h;rw [sv_0] at this;exact this
theorem sv_ab {f r:Int}:ab (sv f r)=stU f (ab r):=by
  unfold ab
  by_cases c:r<0
  · rw [if_pos c]
    have:=sv_n (f:=f) (r:=-r) (by omega)
    rw [Int.neg_neg] at this
    have p:=sv_pos (f:=f) (r:=-r) (by omega)
    rw [sv_p (show 0≤-r by omega)] at p
    rw [this,if_pos (by omega),Int.neg_neg]
  · rw [if_neg c,sv_p (by omega),if_neg (by have:=stU_nn (f:=f) (show 0≤r by omega);omega)]
structure Dp (e f far B X r:Int):Prop where
  up:X≤far
  to:(X=far∧r=eS e f)∨(X<far∧Dn e f X B r)
theorem dp_mono {e f far B X Y r q:Int} (hB:0<B) (a:Dp e f far B X r) (b:Dp e f far B Y q) (h:X≤Y):r≤q:=by
  rcases a.to with ⟨a1,a2⟩ | ⟨a1,a2⟩<;>rcases b.to with ⟨b1,b2⟩ | ⟨b1,b2⟩
  · omega
  · omega
  · have:=a2.2.1;omega
  · exact dn_mono hB h a2 b2
theorem dp_min {e f far B X1 X2 X3 X4 r1 r2 r3 r4:Int} (hB:0<B) (a1:Dp e f far B X1 r1) (a2:Dp e f far B X2 r2) (a3:Dp e f far B X3 r3) (a4:Dp e f far B X4 r4):Dp e f far B (minL X1 [X2,X3,X4]) (minL r1 [r2,r3,r4]):=by
  have m:∀ {X Y r q:Int},Dp e f far B X r→Dp e f far B Y q→Dp e f far B (if Y<X then Y else X) (if q<r then q else r):=fun {X Y r q} a b=>by
    by_cases c:Y<X
    · have:=dp_mono hB b a (Int.le_of_lt c)
      rw [if_pos c]
      have e1:(if q<r then q else r)=q:=by split<;>omega
      rw [e1];exact b
    · have:=dp_mono hB a b (by omega)
      rw [if_neg c,if_neg (by omega)];exact a
  exact m (m (m a1 a2) a3) a4
theorem dp_dn {e f far B X r:Int} (a:Dp e f far B X r) (h:X<far):Dn e f X B r:=by
  rcases a.to with ⟨a1,_⟩ | ⟨_,a2⟩
  · omega
  · exact a2
theorem max_min (a b c d:Int):maxL a [b,c,d] = -(minL (-a) [-b,-c,-d]):=by
  simp only [minL,maxL];(repeat' split)<;>omega
theorem min_lt {a b c d x:Int} (h:minL a [b,c,d]=x) (k:a≤x∧b≤x∧c≤x∧d≤x):a=x∧b=x∧c=x∧d=x:=by
  simp only [minL] at h;(repeat' split at h)<;>omega
theorem compL_1 {n:Nat}{f:FE}{ρ:MEnv}{p v:PV}{l vs:List PV} (e:f (padTo n ρ ++ [some p]) = .ok v) (r:compL n tTrue f ρ l = .ok vs):compL n tTrue f ρ (p::l) = .ok (v::vs):=by
  have tt:∀ ρ,tTrue ρ = .ok true:=fun _=>rfl
  unfold compL;rw [tt];dsimp only;rw [e];dsimp only;rw [r]
theorem compL_0 {n:Nat}{f:FE}{ρ:MEnv}:compL n tTrue f ρ [] = .ok []:=rfl
theorem in2i (x a b:Int):cIn (.int x) (.tup [.int a,.int b]) = .ok (.bl ((a == x) || ((b == x) || false))):=rfl
theorem far_facts {e f:Int} (h:Wd e f):0<stU f (eS e f)∧stU f (eS e f - 1)*p2 (-(lp e f))<stU f (eS e f)*stU f (eS e f)∧p2 (-(lp e f))≤stU f (eS e f):=by
  obtain ⟨p1,p3,p4,p5,p6,b1,b2,b3,b4,p7,p8⟩:=p2_wd h
  obtain ⟨m1,m3,_⟩:=eS_facts h
  obtain ⟨l1,l2,l3,l4⟩:=lp_bounds h
  have se:stU f (eS e f)=p2 (f+(p2 e - 2)):=by
    have a1:eS e f % p2 f=0:=Int.mul_emod_left _ _
    have a2:eS e f / p2 f=p2 e - 1:=Int.mul_ediv_cancel _ (by omega)
    unfold stU
    rw [if_neg (by omega),a1,a2,Int.zero_add,← p2_add (by have:=h.2.2.1;omega) (by omega)]
    congr 1
    omega
  have pe:p2 e=2*p2 (e - 1):=by have:=h.1;rw [← p2_succ (by omega)];congr 1;omega
  have lpe:lp e f=2 - p2 (e - 1) - f:=by unfold lp;omega
  have sp:0<stU f (eS e f):=by rw [se];exact p2_pos _
  have le:p2 (-(lp e f))≤stU f (eS e f):=by rw [se];exact p2_le (by omega) (by omega)
  have lt:=stU_lt (f:=f) (u:=eS e f - 1) (v:=eS e f) (by omega) (by omega)
  have n0:=stU_nn (f:=f) (show 0≤eS e f - 1 by omega)
  refine ⟨sp,?_,le⟩
  have a:=Int.mul_le_mul_of_nonneg_left le n0
  have b:=Int.mul_lt_mul_of_pos_right lt sp
  omega
theorem near_v3 {e f m:Int} (h:Wd e f):∃ x,z2n [.tup [.int e,.int f],.int m] = .ok (.int x):=by
  obtain ⟨p1,p3,p4,p5,p6,b1,b2,b3,b4,p7,p8⟩:=p2_wd h
  obtain ⟨m1,m3,_,_,_⟩:=eS_facts h
  obtain ⟨l1,l2,l3,l4⟩:=lp_bounds h
  obtain ⟨g1,g2,g3,g4⟩:=id h
  have o1:=okShl_1 (b:=e) (by omega) (by omega)
  have o2:=okShl_1 (b:=f) (by omega) (by omega)
  have o3:=okShl_1 (b:=e - 1) (by omega) (by omega)
  have o5:okShl (p2 e - 1) f:=okShl_of (n:=12) (by omega) (nb_le (by omega)) (by omega)
  have o7:okShl (p2 (e - 1) - 1) f:=okShl_of (n:=12) (by omega) (nb_le (by omega)) (by omega)
  have o8:okShl (p2 (e - 1) - 1 - 1) f:=okShl_of (n:=12) (by omega) (nb_le (by omega)) (by omega)
  have hS:(p2 e - 1)*p2 f=eS e f:=rfl
  have o6:okMul 2 (eS e f):=okMul_l (by decide) (by decide)
  have om:okMod (2*eS e f+1):=by show (0:Int)<_;omega
  have i0:=Int.emod_nonneg m (show (8:Int)≠0 by decide)
  have i1:=Int.emod_lt_of_pos m (show (0:Int)<8 by decide)
  generalize eS e f=S at *
  by_cases c:m / 8 % 3=0
  · have sel:∃ x,oItem (.lst [.int 0,.int S,.int (S - 1),.int ((p2 (e - 1) - 1)*p2 f),.int (0 - S),.int (0 - (p2 (e - 1) - 1)*p2 f),.int ((p2 (e - 1) - 1 - 1)*p2 f),.int 1]) (.int (m % 8)) = .ok (.int x):=by
      generalize m % 8=p at *
      have:p=0∨p=1∨p=2∨p=3∨p=4∨p=5∨p=6∨p=7:=by omega
      rcases this with rfl | rfl | rfl | rfl | rfl | rfl | rfl | rfl<;>exact ⟨_,rfl⟩
    obtain ⟨x,ex⟩:=sel
    refine ⟨x+m / 24 % 3 - 1,?_⟩
    dsimp! [z2n,z66,List.replicate,List.set,Int.one_mul,o1,o2,o3,o5,o7,o8,hS,c,ex]
  · refine ⟨m / 64 % (2*S+1) - S,?_⟩
    dsimp! [z2n,z66,List.replicate,List.set,Int.one_mul,o1,o2,o3,o5,o7,o8,hS,c,o6,om]
theorem ranks_v3 {e f m n:Int} (h:Wd e f):∃ a b,z35 [.tup [.int e,.int f],.int m,.int n] = .ok (.tup [.int a,.int b])∧SpOk e f a b:=by
  obtain ⟨p1,p3,p4,p5,p6,b1,b2,b3,b4,p7,p8⟩:=p2_wd h
  obtain ⟨g1,g2,g3,g4⟩:=id h
  have o1:=okShl_1 (b:=e) (by omega) (by omega)
  have o5:okShl (p2 e - 1) f:=okShl_of (n:=12) (by omega) (nb_le (by omega)) (by omega)
  have hS:(p2 e - 1)*p2 f=eS e f:=rfl
  obtain ⟨x,ex⟩:=near_v3 (m:=m) h
  obtain ⟨y,ey⟩:=near_v3 (m:=n) h
  by_cases c:n / 8 % 3=1
  · have:=press (x:=x) (y:=x+n % 17 - 8) h
    refine ⟨_,_,?_,this⟩
    dsimp! [z35,z68,List.replicate,List.set,Int.one_mul,o1,o5,hS,ex,ey,c,Int.zero_sub]
  · have:=press (x:=x) (y:=y) h
    refine ⟨_,_,?_,this⟩
    dsimp! [z35,z68,List.replicate,List.set,Int.one_mul,o1,o5,hS,ex,ey,c,Int.zero_sub]
theorem truth_one (b:Bool):truthP (.lst [.bl b]) = .ok true:=rfl
theorem gathE {e f p:Int}{z:Str}{kk:Nat} (b:Bool) (h:Wd e f) (w:WayK p z kk):zj [.tup [.int e,.int f],.lst [Tm.pv (.endl b)],.str z] = .ok (.tup [.int (eS e f+(if b then 1 else 0)*p2 (e+f)),.int 0]):=by
  have cw:=zb7 h
  have wy:=(way_q w).1
  have n1:=z9g (.endl b) h
  have e1:noneV e f [.endl b] = .non:=rfl
  rw [e1] at n1
  have en:=zbb h
  obtain ⟨m1,m3,p3,p4,p7⟩:=eS_facts h
  have ws:=z29 (u:=eS e f) ⟨h,.inl rfl,by omega,by omega⟩ b
  have a1:=all_of [b]
  have a2:=any_of [b]
  simp only [List.map_cons,List.map_nil,List.all_cons,List.all_nil,List.any_cons,List.any_nil,id_eq,Bool.and_true,Bool.or_false] at a1 a2
  have ck:∀ r0 r1 r2 r3 r4 r5:Option PV,compK 6 (tVal (fBin cEq (fBin oItem (fVar 6) (fC (.int 0))) (fC (.str "endless")))) (fBin oItem (fVar 6) (fC (.int 1))) [r0,r1,r2,r3,r4,r5] [Tm.pv (.endl b)] = .ok (.lst [.bl b]):=fun _ _ _ _ _ _=>rfl
  have et:z2s [.tup [.int e,.int f],.lst [.bl b]] = .ok (.tup [.int (eS e f+(if b then 1 else 0)*p2 (e+f)),.int 0]):=by
    generalize eS e f+(if b=true then (1:Int) else 0)*p2 (e+f)=W at *
    cases b<;>dsimp! [z2s,z6d,a1,a2,en,ws]
  generalize eS e f+(if b=true then (1:Int) else 0)*p2 (e+f)=W at *
  generalize Tm.pv (.endl b)=T at *
  dsimp! [zj,z4a,List.replicate,List.set,cw,wy,asVal_ins,n1,notN_n,fComp_e,ck,truth_one,et]
theorem vk_st {e f u:Int} (h:Wd e f) (u0:0≤u) (u1:u<eS e f):lp e f≤vK e f u∧stU f u=vN f u*p2 (vK e f u - lp e f):=by
  obtain ⟨p1,p3,p4,p5,p6,b1,b2,b3,b4,p7,p8⟩:=p2_wd h
  have pf:=p2_pos f
  unfold vK vN powP stepsP
  have le:1 - (p2 (e - 1) - 1) - f=lp e f:=rfl
  rw [le]
  by_cases c:u<p2 f
  · have z:u / p2 f=0:=Int.ediv_eq_zero_of_lt u0 c
    rw [z,if_pos rfl,if_pos rfl,stU_lo c,Int.emod_eq_of_lt u0 c]
    have:p2 (lp e f - lp e f)=1:=p2_le0 (by omega)
    rw [this]
    omega
  · have z:1≤u / p2 f:=(Int.le_ediv_iff_mul_le pf).mpr (by omega)
    rw [if_neg (by omega),if_neg (by omega)]
    have es:stU f u=(u % p2 f+p2 f)*p2 (u / p2 f - 1):=if_neg c
    refine ⟨by omega,?_⟩
    rw [es]
    congr 2
    omega
theorem zc5 {e f s u:Int} (h:Wu e f s u) (u1:u<eS e f):∃ n k,zk [.tup [.int e,.int f],.int (u+s*p2 (e+f))] = .ok (.tup [.int n,.int k])∧Nv (-(lp e f)) (sS f s u) n k:=by
  obtain ⟨l1,l2,l3,l4⟩:=lp_bounds h.1
  obtain ⟨a1,a2⟩:=vk_st h.1 h.2.2.1 u1
  rw [z8n h u1]
  refine exact_nv (by omega) (by omega) ?_
  rw [show vK e f u + -(lp e f)=vK e f u - lp e f by omega]
  unfold sS
  split
  · rw [Int.neg_mul,← a2]
  · exact a2.symm
noncomputable def amX (e f n k:Int):Int:=n*p2 (k - lp e f)
noncomputable def amB (e f d k:Int):Int:=d*p2 (lp e f - k)
theorem amB_pos {e f d k:Int} (hd:0<d):0<amB e f d k:=Int.mul_pos hd (p2_pos _)
theorem amX_ab {e f n k:Int}:ab (amX e f n k)=ab n*p2 (k - lp e f)∧(amX e f n k<0↔n<0)∧(amX e f n k=0↔n=0):=by
  have pp:=p2_pos (k - lp e f)
  unfold amX
  by_cases c:n<0
  · have:n*p2 (k - lp e f)<0:=Int.mul_neg_of_neg_of_pos c pp
    refine ⟨?_,by omega,by omega⟩
    unfold ab;rw [if_pos c,if_pos this,Int.neg_mul]
  · have:¬ n*p2 (k - lp e f)<0:=by have:=Int.mul_nonneg (show 0≤n by omega) (Int.le_of_lt pp);omega
    refine ⟨?_,by omega,?_⟩
    · unfold ab;rw [if_neg c,if_neg this]
    · constructor
      · intro z
        rcases Int.mul_eq_zero.mp z with z | z<;>omega
      · intro z;rw [z];exact Int.zero_mul _
theorem tk_amt {e f p n k d:Int}{z:Str}{kk:Nat} (h:Wd e f) (w:WayK p z kk) (hp:p=3∨p=4) (hd:0<d) (b1:nb n≤5000) (b2:nb d≤3000) (k0:lp e f - 5000≤k) (k1:k≤10000) :
    ∃ W mk,zh [.tup [.int e,.int f],.int n,.int k,.int d,.str z] = .ok (.tup [.int W,.int mk])∧NW e f W∧(p=4→Dn e f (amX e f n k) (amB e f d k) (rkW e f W))∧(p=3→Dn e f (-(amX e f n k)) (amB e f d k) (-(rkW e f W))):=by
  obtain ⟨l1,l2,l3,l4⟩:=lp_bounds h
  obtain ⟨m1,m3,p3,_⟩:=eS_facts h
  obtain ⟨x1,x2,x3⟩:=amX_ab (e:=e) (f:=f) (n:=n) (k:=k)
  have pB:=amB_pos (e:=e) (f:=f) (k:=k) hd
  by_cases n0:n=0
  · subst n0
    have w0:Wu e f 0 0:=⟨h,.inl rfl,by decide,p2_pos _⟩
    obtain ⟨y1,y2⟩:=nw_of w0 (by omega)
    have z0:(0:Int)+0*p2 (e+f)=0:=by omega
    rw [z0] at y1 y2
    have r0:rk 0 0=0:=rfl
    have a0:amX e f 0 k=0:=Int.zero_mul _
    refine ⟨0,0,z9n h w,y1,fun _=>?_,fun _=>?_⟩
    · rw [y2,r0,a0];exact dn_0 h pB
    · rw [y2,r0,a0];exact dn_0 h pB
  · have na:=nb_ab n
    have an:=ab_pos n0
    obtain ⟨t,q,a,b',st⟩:=standsW (s:=ab n) (k:=k) (d:=d) h an hd (by omega) b2 k0 k1
    have L:=st_lies (M:=ab (amX e f n k)) (B:=amB e f d k) st hd pB (by
      rw [x1];unfold amB;rfl)
    have sgn':decide (n<0)=decide (amX e f n k<0):=by
      by_cases c:n<0
      · rw [decide_eq_true c,decide_eq_true (x2.mpr c)]
      · rw [decide_eq_false c,decide_eq_false (fun y=>c (x2.mp y))]
    have h0:amX e f n k≠0:=fun y=>n0 (x3.mp y)
    obtain ⟨sz,mk,ek,z0,z1,d4,d3⟩:=dn_tk h hp st.t0 st.q0 st.q1 st.qt pB (side_of a b') h0 L
    have tk:=take_st h w n0 hd (by omega) b2 st
    rw [sgn',ek] at tk
    obtain ⟨nw,rw'⟩:=tk_nw (top:=amX e f n k) h z0 z1
    refine ⟨_,mk,tk,nw,fun p4=>?_,fun p3=>?_⟩
    · rw [rw'];exact d4 p4
    · rw [rw',show -(if amX e f n k<0 then -sz else sz)=if amX e f n k<0 then sz else -sz by split<;>omega];exact d3 p3
theorem zbu {e f a b:Int} (h:Wd e f) (ka:NW e f a) (kb:NW e f b) (k:SpOk e f (rkW e f a) (rkW e f b)):zx [.tup [.int e,.int f],.int a,.int b] = .ok (.tup [.int (wdR e f (rkW e f a)),.int (wdR e f (rkW e f b))]):=by
  obtain ⟨k1,k2,k3,k4,k5⟩:=k
  have r1:=(z38 h ka).1
  have r2:=(z38 h kb).1
  have w1:=z42 h k1 (by omega)
  have w2:=z42 h (by omega) k5
  have en:=zbb h
  have n1:¬ rkW e f a > rkW e f b:=by omega
  have n2:¬ rkW e f a=eS e f:=by omega
  have n3:¬ rkW e f b = -(eS e f):=by omega
  generalize rkW e f a=ra at *
  generalize rkW e f b=rb at *
  dsimp! [zx,z6m,List.replicate,List.set,r1,r2,w1,w2,en,n1,n2,n3,isN_i]
theorem dn_span {e f X B r q:Int} (hB:0<B) (a:Dn e f X B r) (b:Dn e f (-X) B (-q)):SpOk e f r q:=by
  obtain ⟨a1,a2,a3,a4⟩:=a
  obtain ⟨b1,b2,b3,b4⟩:=b
  refine ⟨a1,a2,?_,by omega,by omega⟩
  rcases a3 with a3 | a3
  · omega
  · rcases b3 with b3 | b3
    · omega
    · rw [sv_neg,Int.neg_mul] at b3
      apply Decidable.byContradiction
      intro c
      have:=sv_lt (f:=f) (show q<r by omega)
      have:=Int.mul_lt_mul_of_pos_right this hB
      omega
theorem z9l {e f n k d:Int} (h:Wd e f) (hd:0<d) (b1:nb n≤5000) (b2:nb d≤3000) (k0:lp e f - 5000≤k) (k1:k≤10000) :
    ∃ r q,z3y [.tup [.int e,.int f],.int n,.int k,.int d] = .ok (.tup [.int (wdR e f r),.int (wdR e f q)])∧SpOk e f r q∧Dn e f (amX e f n k) (amB e f d k) r∧Dn e f (-(amX e f n k)) (amB e f d k) (-q):=by
  obtain ⟨W1,m1,t1,w1,d1,_⟩:=tk_amt (n:=n) (k:=k) (p:=4) (z:="down") (kk:=25) h (.inr (.inr (.inr (.inr ⟨rfl,rfl,rfl⟩)))) (.inr rfl) hd b1 b2 k0 k1
  obtain ⟨W2,m2,t2,w2,_,d2⟩:=tk_amt (n:=n) (k:=k) (p:=3) (z:="up") (kk:=24) h (.inr (.inr (.inr (.inl ⟨rfl,rfl,rfl⟩)))) (.inl rfl) hd b1 b2 k0 k1
  have d1:=d1 rfl
  have d2:=d2 rfl
  have sp:=dn_span (amB_pos hd) d1 d2
  have sf:=zbu h w1 w2 sp
  refine ⟨_,_,?_,sp,d1,d2⟩
  generalize wdR e f (rkW e f W1)=A at *
  generalize wdR e f (rkW e f W2)=B at *
  dsimp! [z3y,z86,t1,t2,sf]
theorem kend (e f u:Int) (h:Wd e f):cEq (.str (kindU e f u)) (.str "endless") = .ok (.bl (decide (u=eS e f))):=by
  obtain ⟨m1,m3,p3,p4,p7⟩:=eS_facts h
  unfold kindU
  split
  · rw [decide_eq_false (by omega)];rfl
  · split
    · rw [decide_eq_false (by omega)];rfl
    · split
      · rw [decide_eq_false (by omega)];rfl
      · split
        · next c=>rw [decide_eq_true c];rfl
        · next c=>split<;>(rw [decide_eq_false c];rfl)
theorem zbi {e f r:Int} (h:Wd e f) (h1 : -(eS e f)≤r) (h2:r≤eS e f):z17 [.tup [.int e,.int f],.int (wdR e f r)] = .ok (.bl (decide (ab r=eS e f))):=by
  obtain ⟨s,u,hw,ew,_,_,eu⟩:=wu_R h h1 h2
  have kd:=z5s hw
  have ke:=kend e f u h
  rw [← ew] at kd
  rw [← eu]
  generalize wdR e f r=A at *
  have ke':∀ x,cEq (.str (kindU e f u)) x=cEq (.str (kindU e f u)) x:=fun _=>rfl
  unfold z17 z6g
  show fin (sRet (fBin cEq (fCall zg (aCons (fVar 0) (aCons (fVar 1) aNil))) (fC (.str "endless"))) [some (.tup [.int e,.int f]),some (.int A)])=_
  dsimp! [kd,ke]
theorem zb4 {e f n k d r:Int} (h:Wd e f) (h1 : -(eS e f)<r) (h2:r<eS e f) (hd:0<d) (b1:nb n≤5000) (b2:nb d≤3000) (k0:lp e f - 5000≤k) (k1:k≤10000) :
    ∃ v,zk [.tup [.int e,.int f],.int (wdR e f r)] = .ok v∧asVal (some v) = .ok v∧z15 [.int n,.int k,.int d,v] = .ok (.int (sgn (amX e f n k - sv f r*amB e f d k))):=by
  obtain ⟨l1,l2,l3,l4⟩:=lp_bounds h
  obtain ⟨s,u,hw,ew,u1,er,eu⟩:=wu_R (r:=r) h (by omega) (by omega)
  have u2:u<eS e f:=by rw [eu];unfold ab;split<;>omega
  obtain ⟨N,K,ev,nv⟩:=zc5 hw u2
  rw [← ew] at ev
  have es:sS f s u=sv f r:=by rw [sS_rk hw.2.1 hw.2.2.1,er]
  rw [es] at nv
  have nbs:nb (sv f r)≤2200:=nb_sv h (by omega) (by omega)
  obtain ⟨c1,c2⟩:=nv_big (by omega) nv nbs
  have K1:=nv.2.1
  refine ⟨_,ev,rfl,?_⟩
  have key:n*p2 (k+(if lp e f<k then -(lp e f) else -k)) - N*d*p2 (K+(if lp e f<k then -(lp e f) else -k))=amX e f n k - sv f r*amB e f d k:=by
    unfold amX amB
    by_cases c:lp e f<k
    · rw [if_pos c,p2_le0 (a:=lp e f - k) (by omega),Int.mul_one,← nv.2.2,Int.mul_right_comm]
      rfl
    · rw [if_neg c,p2_le0 (a:=k + -k) (by omega),p2_le0 (a:=k - lp e f) (by omega),← nv.2.2]
      have:p2 (K + -k)=p2 (K + -(lp e f))*p2 (lp e f - k):=by rw [← p2_add (by omega) (by omega)];congr 1;omega
      rw [this]
      congr 1
      simp only [Int.mul_assoc,Int.mul_left_comm,Int.mul_comm]
  rw [← key]
  exact zb3 (B:=if lp e f<k then -(lp e f) else -k) nv.1 hd (by split<;>omega) (by split<;>omega) (by split<;>omega) (by omega) (by split<;>omega) (by omega) (by omega) (by omega) (by omega)
theorem sgn_ge (x:Int):decide (0≤sgn x)=decide (0≤x):=by
  unfold sgn
  split
  · next c=>rw [c]
  · split
    · rw [decide_eq_false (by omega),decide_eq_false (by omega)]
    · rw [decide_eq_true (by omega),decide_eq_true (by omega)]
theorem sgn_le (x:Int):decide (sgn x≤0)=decide (x≤0):=by
  unfold sgn
  split
  · next c=>rw [c]
  · split
    · rw [decide_eq_true (by omega),decide_eq_true (by omega)]
    · rw [decide_eq_false (by omega),decide_eq_false (by omega)]
def Hld (e f X B a b:Int):Prop:=(a = -(eS e f)∨sv f a*B≤X)∧(b=eS e f∨X≤sv f b*B)
theorem z9a {e f n k d a b:Int} (h:Wd e f) (sp:SpOk e f a b) (hd:0<d) (b1:nb n≤5000) (b2:nb d≤3000) (k0:lp e f - 5000≤k) (k1:k≤10000) :
    ∃ y,z1h [.tup [.int e,.int f],.tup [.int (wdR e f a),.int (wdR e f b)],.int n,.int k,.int d] = .ok (.bl y)∧(y=true↔Hld e f (amX e f n k) (amB e f d k) a b):=by
  obtain ⟨m1,m3,p3,p4,p7⟩:=eS_facts h
  have cs:=zb8 h sp
  obtain ⟨s1,s2,s3,s4,s5⟩:=sp
  have i1:=zbi h s1 (by omega)
  have i2:=zbi h (show -(eS e f)≤b by omega) s5
  have e1:decide (ab a=eS e f)=decide (a = -(eS e f)):=by
    by_cases c:a = -(eS e f)
    · rw [decide_eq_true c,decide_eq_true (by unfold ab;split<;>omega)]
    · rw [decide_eq_false c,decide_eq_false (by unfold ab;split<;>omega)]
  have e2:decide (ab b=eS e f)=decide (b=eS e f):=by
    by_cases c:b=eS e f
    · rw [decide_eq_true c,decide_eq_true (by unfold ab;split<;>omega)]
    · rw [decide_eq_false c,decide_eq_false (by unfold ab;split<;>omega)]
  rw [e1] at i1
  rw [e2] at i2
  unfold Hld
  have g1:a≠-(eS e f)→∃ v,zk [.tup [.int e,.int f],.int (wdR e f a)] = .ok v∧asVal (some v) = .ok v∧z15 [.int n,.int k,.int d,v] = .ok (.int (sgn (amX e f n k - sv f a*amB e f d k))):=fun c=>zb4 h (by omega) s2 hd b1 b2 k0 k1
  have g2:b≠eS e f→∃ v,zk [.tup [.int e,.int f],.int (wdR e f b)] = .ok v∧asVal (some v) = .ok v∧z15 [.int n,.int k,.int d,v] = .ok (.int (sgn (amX e f n k - sv f b*amB e f d k))):=fun c=>zb4 h s4 (by omega) hd b1 b2 k0 k1
  generalize amX e f n k=X at *
  generalize sv f a*amB e f d k=Y1 at *
  generalize sv f b*amB e f d k=Y2 at *
  generalize wdR e f a=A at *
  generalize wdR e f b=B at *
  have ge1:=sgn_ge (X - Y1)
  have le2:=sgn_le (X - Y2)
  by_cases c1:a = -(eS e f)
  · by_cases c2:b=eS e f
    · refine ⟨true,?_,by simp [c1,c2]⟩
      rw [decide_eq_true c1] at i1
      rw [decide_eq_true c2] at i2
      dsimp! [z1h,z2z,List.replicate,List.set,cs,i1,i2]
    · obtain ⟨v2,w1,w2,w3⟩:=g2 c2
      rw [decide_eq_true c1] at i1
      rw [decide_eq_false c2] at i2
      refine ⟨decide (X - Y2≤0),?_,by simp [c1,c2]<;>omega⟩
      dsimp! [z1h,z2z,List.replicate,List.set,cs,i1,i2,w1,w2,w3,le2]
  · obtain ⟨v1,u1,u2,u3⟩:=g1 c1
    rw [decide_eq_false c1] at i1
    by_cases c2:b=eS e f
    · rw [decide_eq_true c2] at i2
      refine ⟨decide (0≤X - Y1),?_,by simp [c1,c2]<;>omega⟩
      by_cases c3:0≤X - Y1
      · rw [decide_eq_true c3] at ge1 ⊢
        dsimp! [z1h,z2z,List.replicate,List.set,cs,i1,i2,u1,u2,u3,ge1]
      · rw [decide_eq_false c3] at ge1 ⊢
        dsimp! [z1h,z2z,List.replicate,List.set,cs,i1,i2,u1,u2,u3,ge1]
    · obtain ⟨v2,w1,w2,w3⟩:=g2 c2
      rw [decide_eq_false c2] at i2
      refine ⟨decide (0≤X - Y1) && decide (X - Y2≤0),?_,by simp [c1,c2]<;>omega⟩
      by_cases c3:0≤X - Y1
      · rw [decide_eq_true c3] at ge1 ⊢
        dsimp! [z1h,z2z,List.replicate,List.set,cs,i1,i2,u1,u2,u3,w1,w2,w3,ge1,le2,Bool.true_and]
      · rw [decide_eq_false c3] at ge1 ⊢
        dsimp! [z1h,z2z,List.replicate,List.set,cs,i1,i2,u1,u2,u3,w1,w2,w3,ge1,le2,Bool.false_and]
end Cm
namespace Mi
theorem ln1 {P:List PySem.Value→Prop} (h:∀ a,P [a]):∀ us:List PySem.Value,us.length=1→P us
  | [a],_=>h a
theorem ln2 {P:List PySem.Value→Prop} (h:∀ a b,P [a,b]):∀ us:List PySem.Value,us.length=2→P us
  | [a,b],_=>h a b
theorem lm2 {P:List PySem.Value→Prop} (h:∀ a b,P [a,b]) (us:List PySem.Value) (e:us.length+1=3):P us:=ln2 h us (Nat.succ.inj e)
theorem ln3 {P:List PySem.Value→Prop} (h:∀ a b c,P [a,b,c]):∀ us:List PySem.Value,us.length=3→P us
  | [a,b,c],_=>h a b c
theorem lm3 {P:List PySem.Value→Prop} (h:∀ a b c,P [a,b,c]) (us:List PySem.Value) (e:us.length+1=4):P us:=ln3 h us (Nat.succ.inj e)
theorem ln4 {P:List PySem.Value→Prop} (h:∀ a b c d,P [a,b,c,d]):∀ us:List PySem.Value,us.length=4→P us
  | [a,b,c,d],_=>h a b c d
theorem lm4 {P:List PySem.Value→Prop} (h:∀ a b c d,P [a,b,c,d]) (us:List PySem.Value) (e:us.length+1=5):P us:=ln4 h us (Nat.succ.inj e)
theorem ln5 {P:List PySem.Value→Prop} (h:∀ a b c d e,P [a,b,c,d,e]):∀ us:List PySem.Value,us.length=5→P us
  | [a,b,c,d,e],_=>h a b c d e
end Mi
namespace K82
open PySem Mi Cm
theorem gathE2 {e f p:Int}{z:Str}{kk:Nat}{t1 t2:Tm}{b:Bool}{bs:List Bool} (h:Wd e f) (w:WayK p z kk) (hn:∀ t∈[t1,t2],t.isW=false∧t.isN=false) (hb:bs=[b]∨bs=[b,b])
    (ck:∀ r0 r1 r2 r3 r4 r5:Option PV,compK 6 (tVal (fBin cEq (fBin oItem (fVar 6) (fC (.int 0))) (fC (.str "endless")))) (fBin oItem (fVar 6) (fC (.int 1))) [r0,r1,r2,r3,r4,r5] [t1.pv,t2.pv] = .ok (.lst (bs.map PV.bl))) :
    zj [.tup [.int e,.int f],.lst [t1.pv,t2.pv],.str z] = .ok (.tup [.int (eS e f+(if b then 1 else 0)*p2 (e+f)),.int 0]):=by
  have cw:=zb7 h
  have wy:=(way_q w).1
  have n1:=z5t [t1,t2] h (by simp)
  rw [noneV_no hn] at n1
  simp only [List.map_cons,List.map_nil] at n1
  have en:=zbb h
  obtain ⟨m1,m3,p3,p4,p7⟩:=eS_facts h
  have ws:=z29 (u:=eS e f) ⟨h,.inl rfl,by omega,by omega⟩ b
  have a1:=all_of bs
  have a2:=any_of bs
  have e1:bs.all id=b:=by rcases hb with rfl | rfl<;>cases b<;>rfl
  have e2:bs.any id=b:=by rcases hb with rfl | rfl<;>cases b<;>rfl
  rw [e1] at a1
  rw [e2] at a2
  have tr:truthP (.lst (bs.map PV.bl)) = .ok true:=by rcases hb with rfl | rfl<;>rfl
  have et:z2s [.tup [.int e,.int f],.lst (bs.map PV.bl)] = .ok (.tup [.int (eS e f+(if b then 1 else 0)*p2 (e+f)),.int 0]):=by
    generalize eS e f+(if b=true then (1:Int) else 0)*p2 (e+f)=W at *
    generalize bs.map PV.bl=l at *
    cases b<;>dsimp! [z2s,z6d,a1,a2,en,ws]
  generalize eS e f+(if b=true then (1:Int) else 0)*p2 (e+f)=W at *
  generalize bs.map PV.bl=l at *
  generalize t1.pv=T1 at *
  generalize t2.pv=T2 at *
  dsimp! [zj,z4a,List.replicate,List.set,cw,wy,asVal_ins,n1,notN_n,fComp_e,ck,tr,et]
theorem plus_e {e f s u t v p:Int}{z:Str}{k:Nat} (h:Wu e f s u) (g:Wu e f t v) (u1:u≤eS e f) (v1:v≤eS e f) (w:WayK p z k) (b:Bool) (c:u=eS e f∨v=eS e f) (c1:u=eS e f→decide (s=1)=b) (c2:v=eS e f→decide (t=1)=b) :
    z10 [.tup [.int e,.int f],.int (u+s*p2 (e+f)),.int (v+t*p2 (e+f)),.str z] = .ok (.tup [.int (eS e f+(if b then 1 else 0)*p2 (e+f)),.int 0]):=by
  have t1:=z1w h
  have t2:=z1w g
  have a1:=tm_a (tmU e f s u)
  have a2:=tm_a (tmU e f t v)
  have tE:∀ {s u:Int},u=eS e f→tmU e f s u = .endl (decide (s=1)):=fun {s u} x=>by
    unfold tmU;rw [if_neg (by omega),if_pos x]
  have tN:∀ {s u:Int},u<eS e f→tmU e f s u = .num (decide (s=1)) (xN (vN f u)) (xK (vN f u) (vK e f u)):=fun {s u} x=>tm_num x
  have gt:zj [.tup [.int e,.int f],.lst [(tmU e f s u).pv,(tmU e f t v).pv],.str z] = .ok (.tup [.int (eS e f+(if b then 1 else 0)*p2 (e+f)),.int 0]):=by
    by_cases x:u=eS e f
    · by_cases y:v=eS e f
      · rw [tE x,tE y,c1 x,c2 y]
        exact gathE2 h.1 w (fun t ht=>by rcases List.mem_cons.mp ht with rfl | ht;exact ⟨rfl,rfl⟩;rw [List.mem_singleton] at ht;rw [ht];exact ⟨rfl,rfl⟩) (.inr rfl) fun _ _ _ _ _ _=>rfl
      · rw [tE x,tN (show v<eS e f by omega),c1 x]
        exact gathE2 h.1 w (fun t ht=>by rcases List.mem_cons.mp ht with rfl | ht;exact ⟨rfl,rfl⟩;rw [List.mem_singleton] at ht;rw [ht];exact ⟨rfl,rfl⟩) (.inl rfl) fun _ _ _ _ _ _=>rfl
    · have y:v=eS e f:=by rcases c with c | c;exact absurd c x;exact c
      rw [tN (show u<eS e f by omega),tE y,c2 y]
      exact gathE2 h.1 w (fun t ht=>by rcases List.mem_cons.mp ht with rfl | ht;exact ⟨rfl,rfl⟩;rw [List.mem_singleton] at ht;rw [ht];exact ⟨rfl,rfl⟩) (.inl rfl) fun _ _ _ _ _ _=>rfl
  generalize u+s*p2 (e+f)=y1 at *
  generalize v+t*p2 (e+f)=y2 at *
  generalize eS e f+(if b=true then (1:Int) else 0)*p2 (e+f)=W at *
  generalize (tmU e f s u).pv=T1 at *
  generalize (tmU e f t v).pv=T2 at *
  dsimp! [z10,z6k,t1,t2,a1,a2,gt]
theorem plus_n {e f s u t v p:Int}{z:Str}{k:Nat} (h:Wu e f s u) (g:Wu e f t v) (u1:u<eS e f) (v1:v<eS e f) (w:WayK p z k) (hp:p=3∨p=4) :
    ∃ W mk,z10 [.tup [.int e,.int f],.int (u+s*p2 (e+f)),.int (v+t*p2 (e+f)),.str z] = .ok (.tup [.int W,.int mk])∧NW e f W∧(p=4→Dn e f (sS f s u+sS f t v) 1 (rkW e f W))∧(p=3→Dn e f (-(sS f s u+sS f t v)) 1 (-(rkW e f W))):=by
  obtain ⟨l1,l2,l3,l4⟩:=lp_bounds h.1
  have u0:=h.2.2.1
  have v0:=g.2.2.1
  have t1:=z1w h
  have t2:=z1w g
  have a1:=tm_a (tmU e f s u)
  have a2:=tm_a (tmU e f t v)
  have st:sumT (-(lp e f)) [tmU e f s u,tmU e f t v]=sS f s u+sS f t v:=by
    show vT _ _+(vT _ _+0)=_
    rw [Int.add_zero,sS_v h.1 u0 u1,sS_v g.1 v0 v1]
  have ok:∀ x∈[tmU e f s u,tmU e f t v],okT (-(lp e f)) 2200 x:=fun x hx=>by
    rcases List.mem_cons.mp hx with y | y
    · rw [y];exact okT_w h.1 u0 u1
    · rw [List.mem_singleton] at y;rw [y];exact okT_w g.1 v0 v1
  obtain ⟨W,mk,gt,nw,d4,d3⟩:=gath_dn (more:=0) (B:=-(lp e f)) (b:=2200) (ts:=[tmU e f s u,tmU e f t v]) h.1 w hp (by decide) (by omega) (by omega) (by simp) (by simp) ok
  rw [st,p2_0] at d4 d3
  refine ⟨W,mk,?_,nw,d4,d3⟩
  simp only [List.map_cons,List.map_nil] at gt
  generalize u+s*p2 (e+f)=y1 at *
  generalize v+t*p2 (e+f)=y2 at *
  generalize (tmU e f s u).pv=T1 at *
  generalize (tmU e f t v).pv=T2 at *
  dsimp! [z10,z6k,t1,t2,a1,a2,gt]
theorem sS_rk {f s u:Int} (hs:s=0∨s=1) (u0:0≤u):sS f s u=sv f (rk s u):=(sv_rk hs u0).symm
theorem rk_eS {e f s u:Int} (h:Wd e f) (hs:s=0∨s=1) (u0:0≤u) (u1:u≤eS e f):(rk s u = -(eS e f)↔u=eS e f∧s=1)∧(rk s u=eS e f↔u=eS e f∧s=0):=by
  obtain ⟨m1,m3,p3,_⟩:=eS_facts h
  unfold rk
  rcases hs with rfl | rfl
  · rw [if_neg (by decide)];omega
  · rw [if_pos rfl];omega
theorem plus_lo {e f s u t v a c:Int} (w1:Wu e f s u) (w2:Wu e f t v) (u1:u≤eS e f) (v1:v≤eS e f) (k1:rk s u=a) (k2:rk t v=c) (a1:a<eS e f) (c1:c<eS e f) :
    ∃ W mk,z10 [.tup [.int e,.int f],.int (u+s*p2 (e+f)),.int (v+t*p2 (e+f)),.str "down"] = .ok (.tup [.int W,.int mk])∧NW e f W∧(a = -(eS e f)∨c = -(eS e f)→rkW e f W = -(eS e f))∧(a≠-(eS e f)→c≠-(eS e f)→Dn e f (sv f a+sv f c) 1 (rkW e f W)):=by
  have h:=w1.1
  obtain ⟨m1,m3,p3,_⟩:=eS_facts h
  have wk:WayK 4 "down" 25:=.inr (.inr (.inr (.inr ⟨rfl,rfl,rfl⟩)))
  obtain ⟨r1,r2⟩:=rk_eS h w1.2.1 w1.2.2.1 u1
  obtain ⟨r3,r4⟩:=rk_eS h w2.2.1 w2.2.2.1 v1
  rw [k1] at r1 r2
  rw [k2] at r3 r4
  have s1:u=eS e f→s=1:=fun y=>by rcases w1.2.1 with z | z;have:=r2.mpr ⟨y,z⟩;omega;exact z
  have s2:v=eS e f→t=1:=fun y=>by rcases w2.2.1 with z | z;have:=r4.mpr ⟨y,z⟩;omega;exact z
  by_cases x:a = -(eS e f)∨c = -(eS e f)
  · have pl:=plus_e w1 w2 u1 v1 wk true (by rcases x with x | x;exact .inl (r1.mp x).1;exact .inr (r3.mp x).1) (fun y=>decide_eq_true (s1 y)) (fun y=>decide_eq_true (s2 y))
    have w:Wu e f 1 (eS e f):=⟨h,.inr rfl,by omega,by omega⟩
    have:=nw_of w (Int.le_refl _)
    refine ⟨_,_,pl,this.1,fun _=>this.2,fun z1 z2=>by omega⟩
  · have x1:u<eS e f:=by
      by_cases y:u=eS e f
      · exact absurd (.inl (r1.mpr ⟨y,s1 y⟩)) x
      · omega
    have x2:v<eS e f:=by
      by_cases y:v=eS e f
      · exact absurd (.inr (r3.mpr ⟨y,s2 y⟩)) x
      · omega
    obtain ⟨W,mk,pl,nw,d4,_⟩:=plus_n w1 w2 x1 x2 wk (.inr rfl)
    refine ⟨W,mk,pl,nw,fun y=>absurd y x,fun _ _=>?_⟩
    have:=d4 rfl
    rw [sS_rk w1.2.1 w1.2.2.1,sS_rk w2.2.1 w2.2.2.1,k1,k2] at this
    exact this
theorem plus_hi {e f s u t v a c:Int} (w1:Wu e f s u) (w2:Wu e f t v) (u1:u≤eS e f) (v1:v≤eS e f) (k1:rk s u=a) (k2:rk t v=c) (a1 : -(eS e f)<a) (c1 : -(eS e f)<c) :
    ∃ W mk,z10 [.tup [.int e,.int f],.int (u+s*p2 (e+f)),.int (v+t*p2 (e+f)),.str "up"] = .ok (.tup [.int W,.int mk])∧NW e f W∧(a=eS e f∨c=eS e f→rkW e f W=eS e f)∧(a≠eS e f→c≠eS e f→Dn e f (-(sv f a+sv f c)) 1 (-(rkW e f W))):=by
  have h:=w1.1
  obtain ⟨m1,m3,p3,_⟩:=eS_facts h
  have wk:WayK 3 "up" 24:=.inr (.inr (.inr (.inl ⟨rfl,rfl,rfl⟩)))
  obtain ⟨r1,r2⟩:=rk_eS h w1.2.1 w1.2.2.1 u1
  obtain ⟨r3,r4⟩:=rk_eS h w2.2.1 w2.2.2.1 v1
  rw [k1] at r1 r2
  rw [k2] at r3 r4
  have s1:u=eS e f→s=0:=fun y=>by rcases w1.2.1 with z | z;exact z;have:=r1.mpr ⟨y,z⟩;omega
  have s2:v=eS e f→t=0:=fun y=>by rcases w2.2.1 with z | z;exact z;have:=r3.mpr ⟨y,z⟩;omega
  by_cases x:a=eS e f∨c=eS e f
  · have pl:=plus_e w1 w2 u1 v1 wk false (by rcases x with x | x;exact .inl (r2.mp x).1;exact .inr (r4.mp x).1) (fun y=>by rw [s1 y];rfl) (fun y=>by rw [s2 y];rfl)
    have w:Wu e f 0 (eS e f):=⟨h,.inl rfl,by omega,by omega⟩
    have:=nw_of w (Int.le_refl _)
    refine ⟨_,_,pl,this.1,fun _=>this.2,fun z1 z2=>by omega⟩
  · have x1:u<eS e f:=by
      by_cases y:u=eS e f
      · exact absurd (.inl (r2.mpr ⟨y,s1 y⟩)) x
      · omega
    have x2:v<eS e f:=by
      by_cases y:v=eS e f
      · exact absurd (.inr (r4.mpr ⟨y,s2 y⟩)) x
      · omega
    obtain ⟨W,mk,pl,nw,_,d3⟩:=plus_n w1 w2 x1 x2 wk (.inl rfl)
    refine ⟨W,mk,pl,nw,fun y=>absurd y x,fun _ _=>?_⟩
    have:=d3 rfl
    rw [sS_rk w1.2.1 w1.2.2.1,sS_rk w2.2.1 w2.2.2.1,k1,k2] at this
    exact this
def Lo (e f r a c:Int):Prop:=-(eS e f)≤r∧r<eS e f∧(a = -(eS e f)∨c = -(eS e f)→r = -(eS e f))∧(a≠-(eS e f)→c≠-(eS e f)→Dn e f (sv f a+sv f c) 1 r)
theorem sv_neg {f r:Int}:sv f (-r) = -(sv f r):=by
  by_cases c:0≤r
  · rw [sv_n c,sv_p c]
  · have:=sv_n (f:=f) (r:=-r) (by omega)
    rw [Int.neg_neg] at this
    rw [this,sv_p (show 0≤-r by omega),Int.neg_neg]
theorem wu_R {e f r:Int} (h:Wd e f) (h1 : -(eS e f)≤r) (h2:r≤eS e f):∃ s u,Wu e f s u∧wdR e f r=u+s*p2 (e+f)∧u≤eS e f∧rk s u=r:=by
  obtain ⟨w,k⟩:=wu_rk h h1 h2
  exact ⟨_,_,w,rfl,by unfold ab;split<;>omega,k⟩
theorem wu_T {e f r:Int} (h:Wd e f) (h1 : -(eS e f)≤r) (h2:r≤eS e f):∃ s u,Wu e f s u∧z19 [.tup [.int e,.int f],.int (wdR e f r)] = .ok (.int (u+s*p2 (e+f)))∧u≤eS e f∧rk s u = -r:=by
  obtain ⟨s,u,w,e1,u1,k⟩:=wu_R h h1 h2
  have t:=z7a w
  rw [← e1] at t
  refine ⟨1 - s,u,⟨h,by rcases w.2.1 with y | y<;>omega,w.2.2.1,w.2.2.2⟩,t,u1,?_⟩
  unfold rk at k ⊢
  rcases w.2.1 with y | y<;>subst y
  · rw [if_neg (by decide)] at k;rw [if_pos (by decide)];omega
  · rw [if_pos rfl] at k;rw [if_neg (by decide)];omega
theorem ends {e f a b c d:Int} (h:Wd e f) (k1 : -(eS e f)≤a) (k2:a<eS e f) (k3 : -(eS e f)≤c) (k4:c<eS e f) (k5 : -(eS e f)<b) (k6:b≤eS e f) (k7 : -(eS e f)<d) (k8:d≤eS e f)
    {W1 W2:Int} (n1:NW e f W1) (n2:NW e f W2) (l1:a = -(eS e f)∨c = -(eS e f)→rkW e f W1 = -(eS e f)) (l2:a≠-(eS e f)→c≠-(eS e f)→Dn e f (sv f a+sv f c) 1 (rkW e f W1))
    (l3:b=eS e f∨d=eS e f→rkW e f W2=eS e f) (l4:b≠eS e f→d≠eS e f→Dn e f (-(sv f b+sv f d)) 1 (-(rkW e f W2))) :
    z11 [.tup [.int e,.int f],.lst [.int W1],.lst [.int W2]] = .ok (.tup [.int (wdR e f (rkW e f W1)),.int (wdR e f (rkW e f W2))])∧Lo e f (rkW e f W1) a c∧Lo e f (-(rkW e f W2)) (-b) (-d):=by
  have sp:=zc0 (ls:=[]) (hs:=[]) h (by simp) (by simp) (fun w hw=>by rw [List.mem_singleton] at hw;rw [hw];exact n1) (fun w hw=>by rw [List.mem_singleton] at hw;rw [hw];exact n2)
  simp only [List.map_cons,List.map_nil,minL,maxL] at sp
  obtain ⟨b1,b2,b3⟩:=z38 h n1
  obtain ⟨c1,c2,c3⟩:=z38 h n2
  obtain ⟨s1,s3,p3,_⟩:=eS_facts h
  refine ⟨sp,⟨b2,?_,l1,l2⟩,⟨by omega,?_,fun z=>?_,fun z1 z2=>?_⟩⟩
  · by_cases z:a = -(eS e f)∨c = -(eS e f)
    · rw [l1 z];omega
    · exact (l2 (fun t=>z (.inl t)) fun t=>z (.inr t)).2.1
  · by_cases z:b=eS e f∨d=eS e f
    · rw [l3 z];omega
    · exact (l4 (fun t=>z (.inl t)) fun t=>z (.inr t)).2.1
  · rw [l3 (by omega)]
  · rw [sv_neg,sv_neg,← Int.neg_add]
    exact l4 (by omega) (by omega)
theorem q_sp {e f a b c d:Int} (h:Wd e f) (k:SpOk e f a b) (g:SpOk e f c d) :
    ∃ x y,z3z [.tup [.int e,.int f],.tup [.int (wdR e f a),.int (wdR e f b)],.tup [.int (wdR e f c),.int (wdR e f d)]] = .ok (.tup [.int (wdR e f x),.int (wdR e f y)])∧Lo e f x a c∧Lo e f (-y) (-b) (-d):=by
  have cs:=zb9 h k g
  obtain ⟨k1,k2,k3,k4,k5⟩:=k
  obtain ⟨g1,g2,g3,g4,g5⟩:=g
  obtain ⟨s1,u1,w1,v1,x1,y1⟩:=wu_R h k1 (by omega)
  obtain ⟨s2,u2,w2,v2,x2,y2⟩:=wu_R h g1 (by omega)
  obtain ⟨s3,u3,w3,v3,x3,y3⟩:=wu_R h (show -(eS e f)≤b by omega) k5
  obtain ⟨s4,u4,w4,v4,x4,y4⟩:=wu_R h (show -(eS e f)≤d by omega) g5
  obtain ⟨W1,m1,e1,n1,l1,l2⟩:=plus_lo w1 w2 x1 x2 y1 y2 k2 g2
  obtain ⟨W2,m2,e2,n2,l3,l4⟩:=plus_hi w3 w4 x3 x4 y3 y4 k4 g4
  rw [← v1,← v2] at e1
  rw [← v3,← v4] at e2
  obtain ⟨sp,q1,q2⟩:=ends h k1 k2 g1 g2 k4 k5 g4 g5 n1 n2 l1 l2 l3 l4
  refine ⟨rkW e f W1,rkW e f W2,?_,q1,q2⟩
  generalize wdR e f a=A at *
  generalize wdR e f b=B at *
  generalize wdR e f c=C at *
  generalize wdR e f d=D at *
  generalize wdR e f (rkW e f W1)=X at *
  generalize wdR e f (rkW e f W2)=Y at *
  dsimp! [z3z,z87,List.replicate,List.set,cs,e1,e2,sp]
theorem q_sm {e f a b c d:Int} (h:Wd e f) (k:SpOk e f a b) (g:SpOk e f c d) :
    ∃ x y,z3x [.tup [.int e,.int f],.tup [.int (wdR e f a),.int (wdR e f b)],.tup [.int (wdR e f c),.int (wdR e f d)]] = .ok (.tup [.int (wdR e f x),.int (wdR e f y)])∧Lo e f x a (-d)∧Lo e f (-y) (-b) c:=by
  have cs:=zb9 h k g
  obtain ⟨k1,k2,k3,k4,k5⟩:=k
  obtain ⟨g1,g2,g3,g4,g5⟩:=g
  obtain ⟨s1,u1,w1,v1,x1,y1⟩:=wu_R h k1 (by omega)
  obtain ⟨s2,u2,w2,v2,x2,y2⟩:=wu_T h (show -(eS e f)≤d by omega) g5
  obtain ⟨s3,u3,w3,v3,x3,y3⟩:=wu_R h (show -(eS e f)≤b by omega) k5
  obtain ⟨s4,u4,w4,v4,x4,y4⟩:=wu_T h g1 (by omega)
  obtain ⟨W1,m1,e1,n1,l1,l2⟩:=plus_lo w1 w2 x1 x2 y1 y2 k2 (by omega)
  obtain ⟨W2,m2,e2,n2,l3,l4⟩:=plus_hi w3 w4 x3 x4 y3 y4 k4 (by omega)
  rw [← v1] at e1
  rw [← v3] at e2
  obtain ⟨sp,q1,q2⟩:=ends h k1 k2 (by omega) (by omega) k4 k5 (by omega) (by omega) n1 n2 l1 l2 l3 l4
  rw [Int.neg_neg] at q2
  refine ⟨rkW e f W1,rkW e f W2,?_,q1,q2⟩
  generalize wdR e f a=A at *
  generalize wdR e f b=B at *
  generalize wdR e f c=C at *
  generalize wdR e f d=D at *
  generalize u2+s2*p2 (e+f)=Y2 at *
  generalize u4+s4*p2 (e+f)=Y4 at *
  generalize wdR e f (rkW e f W1)=X at *
  generalize wdR e f (rkW e f W2)=Y at *
  have f1:z25 [.tup [.int e,.int f],.int A,.int D,.str "down"] = .ok (.tup [.int W1,.int m1]):=by dsimp! [z25,z6i,v2,e1]
  have f2:z25 [.tup [.int e,.int f],.int B,.int C,.str "up"] = .ok (.tup [.int W2,.int m2]):=by dsimp! [z25,z6i,v4,e2]
  dsimp! [z3x,z85,List.replicate,List.set,cs,f1,f2,sp]
end K82
namespace K83
open PySem Mi Cm
noncomputable abbrev far (e f:Int):Int:=stU f (eS e f)*stU f (eS e f)
noncomputable abbrev mo (e f:Int):Int:=p2 (-(lp e f))
noncomputable def Xp (e f a c:Int):Int:=if ab a=eS e f∨ab c=eS e f then (if 0<sv f a*sv f c then far e f else if sv f a*sv f c<0 then -(far e f) else 0) else sv f a*sv f c
theorem xp_comm {e f a c:Int}:Xp e f a c=Xp e f c a:=by
  unfold Xp
  rw [Int.mul_comm (sv f a)]
  by_cases x:ab a=eS e f∨ab c=eS e f
  · rw [if_pos x,if_pos (show ab c=eS e f∨ab a=eS e f from x.elim Or.inr Or.inl)]
  · rw [if_neg x,if_neg (show ¬ (ab c=eS e f∨ab a=eS e f) from fun y=>x (y.elim Or.inr Or.inl))]
theorem sgn_mul {x y:Int}:(0<x*y↔(0<x∧0<y)∨(x<0∧y<0))∧(x*y<0↔(0<x∧y<0)∨(x<0∧0<y)):=by
  have pp:∀ {a b:Int},0<a→0<b→0<a*b:=fun ha hb=>Int.mul_pos ha hb
  have pn:∀ {a b:Int},0<a→b<0→a*b<0:=fun ha hb=>Int.mul_neg_of_pos_of_neg ha hb
  have np:∀ {a b:Int},a<0→0<b→a*b<0:=fun ha hb=>Int.mul_neg_of_neg_of_pos ha hb
  have nn:∀ {a b:Int},a<0→b<0→0<a*b:=fun ha hb=>Int.mul_pos_of_neg_of_neg ha hb
  rcases Int.lt_trichotomy x 0 with hx | hx | hx<;>rcases Int.lt_trichotomy y 0 with hy | hy | hy
  · have:=nn hx hy;omega
  · subst hy;rw [Int.mul_zero];omega
  · have:=np hx hy;omega
  · subst hx;rw [Int.zero_mul];omega
  · subst hx;rw [Int.zero_mul];omega
  · subst hx;rw [Int.zero_mul];omega
  · have:=pn hx hy;omega
  · subst hy;rw [Int.mul_zero];omega
  · have:=pp hx hy;omega
theorem sv_sg {f r:Int}:(0<sv f r↔0<r)∧(sv f r<0↔r<0):=by
  have a:=sv_iff (f:=f) (r:=0) (q:=r)
  have b:=sv_iff (f:=f) (r:=r) (q:=0)
  rw [sv_0] at a b
  exact ⟨a,b⟩
theorem svv {f a c:Int}:(0<sv f a*sv f c↔(0<a∧0<c)∨(a<0∧c<0))∧(sv f a*sv f c<0↔(0<a∧c<0)∨(a<0∧0<c)):=by
  obtain ⟨m1,m2⟩:=sgn_mul (x:=sv f a) (y:=sv f c)
  obtain ⟨a1,a2⟩:=sv_sg (f:=f) (r:=a)
  obtain ⟨c1,c2⟩:=sv_sg (f:=f) (r:=c)
  rw [a1,a2,c1,c2] at m1 m2
  exact ⟨m1,m2⟩
theorem fin_lt {e f a c:Int} (h:Wd e f) (a1:ab a<eS e f) (c1:ab c<eS e f) : -(far e f)<sv f a*sv f c∧sv f a*sv f c<far e f:=by
  obtain ⟨s0,_,_⟩:=far_facts h
  have b:∀ r:Int,ab r<eS e f→-(stU f (eS e f))<sv f r∧sv f r<stU f (eS e f):=fun r hr=>by
    have r0:0≤ab r:=by unfold ab;split<;>omega
    have:=stU_lt (f:=f) r0 hr
    rw [← sv_ab] at this
    unfold ab at this
    split at this<;>omega
  obtain ⟨x1,x2⟩:=b a a1
  obtain ⟨y1,y2⟩:=b c c1
  show -(stU f (eS e f)*stU f (eS e f))<_∧_<stU f (eS e f)*stU f (eS e f)
  generalize stU f (eS e f)=S at *
  generalize sv f a=x at *
  generalize sv f c=y at *
  have key:∀ p q:Int,0≤p→p<S→0≤q→q<S→p*q<S*S:=fun p q p0 p1 q0 q1=>by
    have a:=Int.mul_le_mul_of_nonneg_left (Int.le_of_lt q1) p0
    have b:=Int.mul_lt_mul_of_pos_right p1 s0
    omega
  have nnx:∀ p q:Int,0≤p→0≤q→0≤p*q:=fun p q=>Int.mul_nonneg
  by_cases cx:0≤x<;>by_cases cy:0≤y
  · have:=key x y cx x2 cy y2;have:=nnx x y cx cy;have:=Int.mul_pos s0 s0;omega
  · have a:=key x (-y) cx x2 (by omega) (by omega);have b:=nnx x (-y) cx (by omega);have:=Int.mul_pos s0 s0;rw [Int.mul_neg] at a b;omega
  · have a:=key (-x) y (by omega) (by omega) cy y2;have b:=nnx (-x) y (by omega) cy;have:=Int.mul_pos s0 s0;rw [Int.neg_mul] at a b;omega
  · have a:=key (-x) (-y) (by omega) (by omega) (by omega) (by omega);have b:=nnx (-x) (-y) (by omega) (by omega);have:=Int.mul_pos s0 s0;rw [Int.neg_mul_neg] at a b;omega
theorem dn_far {e f:Int} (h:Wd e f):Dn e f (-(far e f)) (mo e f) (-(eS e f)):=by
  obtain ⟨m1,m3,p3,_⟩:=eS_facts h
  obtain ⟨s0,s1,_⟩:=far_facts h
  refine ⟨Int.le_refl _,by omega,.inl rfl,.inr ?_⟩
  rw [show -(eS e f)+1 = -(eS e f - 1) by omega,sv_n (by omega),Int.neg_mul]
  show -(stU f (eS e f)*stU f (eS e f)) < -(stU f (eS e f - 1)*p2 (-(lp e f)))
  omega
theorem times_w {e f a c p:Int}{z:Str}{k:Nat} (h:Wd e f) (a0 : -(eS e f)≤a) (a1:a≤eS e f) (c0 : -(eS e f)≤c) (c1:c≤eS e f) (az:a≠0) (cz:c≠0) (w:WayK p z k) (hp:p=3∨p=4) :
    ∃ W mk,z3a [.tup [.int e,.int f],.int (wdR e f a),.int (wdR e f c),.str z] = .ok (.tup [.int W,.int mk])∧NW e f W∧(p=4→Dp e f (far e f) (mo e f) (Xp e f a c) (rkW e f W))∧(p=3→Dp e f (far e f) (mo e f) (-(Xp e f a c)) (-(rkW e f W))):=by
  obtain ⟨l1,l2,l3,l4⟩:=lp_bounds h
  obtain ⟨m1,m3,p3,_⟩:=eS_facts h
  obtain ⟨s0,s1,s2⟩:=far_facts h
  have fp:0<far e f:=Int.mul_pos s0 s0
  obtain ⟨s,u,w1,v1,u1,k1,ua⟩:=wu_R h a0 a1
  obtain ⟨t,v,w2,v2,u2,k2,va⟩:=wu_R h c0 c1
  have pr:=z9i w1 w2
  have ta:=tm_a (prodT (tmU e f s u) (tmU e f t v))
  obtain ⟨x1,x2⟩:=svv (f:=f) (a:=a) (c:=c)
  have un:0<u∧0<v:=by
    rw [ua,va];unfold ab;constructor<;>split<;>omega
  have sa:(s=1↔a<0)∧(t=1↔c<0):=by
    unfold rk at k1 k2
    rcases w1.2.1 with y | y<;>rcases w2.2.1 with y' | y'<;>subst y<;>subst y'<;>simp only [Int.zero_ne_one,if_true,if_false] at k1 k2<;>omega
  rw [v1,v2]
  by_cases x:u=eS e f∨v=eS e f
  · -- endless
    have tE:∀ {s u:Int},u=eS e f→tmU e f s u = .endl (decide (s=1)):=fun {s u} x=>by unfold tmU;rw [if_neg (by omega),if_pos x]
    have et:prodT (tmU e f s u) (tmU e f t v) = .endl (!(decide (s=1) == decide (t=1))):=by
      have nz:∀ {u:Int},0<u→u<eS e f→¬ xN (vN f u)=0:=fun {u} y0 y1 y2=>by
        have:=(st_val0 h (Int.le_of_lt y0) y1).2.2.2.2.2.1.mp y2;omega
      by_cases y:u=eS e f
      · by_cases y':v=eS e f
        · rw [tE y,tE y'];rfl
        · rw [tE y,tm_num (show v<eS e f by omega)]
          show (if xN (vN f v)=0 then Tm.wrong else _)=_
          rw [if_neg (nz un.2 (by omega))]
      · have y':v=eS e f:=by omega
        rw [tE y',tm_num (show u<eS e f by omega)]
        show (if xN (vN f u)=0 then Tm.wrong else _)=_
        rw [if_neg (nz un.1 (by omega))]
    have gt:=gathE (!(decide (s=1) == decide (t=1))) h w
    rw [← et] at gt
    have eX:Xp e f a c=if (!(decide (s=1) == decide (t=1))) then -(far e f) else far e f:=by
      unfold Xp
      rw [if_pos (by omega)]
      clear l1 l2 l3 l4 m1 m3 p3 s0 s1 s2 fp u1 u2 k1 k2 x un ua va hp a0 a1 c0 c1
      by_cases q1:s=1<;>by_cases q2:t=1
      · rw [decide_eq_true q1,decide_eq_true q2,if_pos (by omega),if_neg (by decide)]
      · rw [decide_eq_true q1,decide_eq_false q2,if_neg (by omega),if_pos (by omega),if_pos (by decide)]
      · rw [decide_eq_false q1,decide_eq_true q2,if_neg (by omega),if_pos (by omega),if_pos (by decide)]
      · rw [decide_eq_false q1,decide_eq_false q2,if_pos (by omega),if_neg (by decide)]
    have nw:∀ b:Bool,NW e f (eS e f+(if b=true then 1 else 0)*p2 (e+f))∧rkW e f (eS e f+(if b=true then 1 else 0)*p2 (e+f))=if b=true then -(eS e f) else eS e f:=fun b=>by
      cases b
      · have w:Wu e f 0 (eS e f):=⟨h,.inl rfl,by omega,by omega⟩
        exact nw_of w (Int.le_refl _)
      · have w:Wu e f 1 (eS e f):=⟨h,.inr rfl,by omega,by omega⟩
        exact nw_of w (Int.le_refl _)
    refine ⟨eS e f+(if (!(decide (s=1) == decide (t=1)))=true then 1 else 0)*p2 (e+f),0,?_,(nw _).1,fun _=>?_,fun _=>?_⟩
    · generalize u+s*p2 (e+f)=y1 at *
      generalize v+t*p2 (e+f)=y2 at *
      generalize eS e f+(if (!(decide (s=1) == decide (t=1)))=true then (1:Int) else 0)*p2 (e+f)=W at *
      generalize (prodT (tmU e f s u) (tmU e f t v)).pv=T at *
      dsimp! [z3a,z6s,pr,ta,gt]
    · rw [(nw _).2,eX]
      cases (!(decide (s=1) == decide (t=1)))
      · exact ⟨Int.le_refl _,.inl ⟨rfl,rfl⟩⟩
      · exact ⟨by rw [if_pos rfl];omega,.inr ⟨by rw [if_pos rfl];omega,dn_far h⟩⟩
    · rw [(nw _).2,eX]
      cases (!(decide (s=1) == decide (t=1)))
      · exact ⟨by rw [if_neg (by decide)];omega,.inr ⟨by rw [if_neg (by decide)];omega,dn_far h⟩⟩
      · rw [if_pos rfl,if_pos rfl,Int.neg_neg,Int.neg_neg]
        exact ⟨Int.le_refl _,.inl ⟨rfl,rfl⟩⟩
  · have x3:u<eS e f∧v<eS e f:=by omega
    obtain ⟨q1,q2,q3,q4⟩:=prod_v (s:=s) (t:=t) h w1.2.2.1 x3.1 w2.2.2.1 x3.2
    have mul:sv f a*sv f c=(if (!(decide (s=1) == decide (t=1))) then -(stU f u*stU f v) else stU f u*stU f v):=by
      rw [← k1,← k2,← sS_rk w1.2.1 w1.2.2.1,← sS_rk w2.2.1 w2.2.2.1]
      unfold sS
      rcases w1.2.1 with y | y<;>rcases w2.2.1 with y' | y'<;>subst y<;>subst y'<;>simp [Int.mul_neg,Int.neg_mul]
    have st:sumT (-(2*lp e f)) [prodT (tmU e f s u) (tmU e f t v)]=sv f a*sv f c:=by
      show vT _ _+0=_
      rw [Int.add_zero,q1,mul]
    have ok:∀ x∈[prodT (tmU e f s u) (tmU e f t v)],okT (-(2*lp e f)) 4400 x:=fun x hx=>by
      rw [List.mem_singleton] at hx;rw [hx];exact q2
    obtain ⟨W,mk,gt,nw,d4,d3⟩:=gath_dn (more:=-(lp e f)) (B:=-(2*lp e f)) (b:=4400) (ts:=[prodT (tmU e f s u) (tmU e f t v)]) h w hp (by omega) (by omega) (by omega) (by simp) (by simp) ok
    rw [st] at d4 d3
    have eX:Xp e f a c=sv f a*sv f c:=by unfold Xp;rw [if_neg (by omega)]
    obtain ⟨f1,f2⟩:=fin_lt (a:=a) (c:=c) h (by omega) (by omega)
    refine ⟨W,mk,?_,nw,fun p4=>?_,fun p3=>?_⟩
    · simp only [List.map_cons,List.map_nil] at gt
      generalize u+s*p2 (e+f)=y1 at *
      generalize v+t*p2 (e+f)=y2 at *
      generalize (prodT (tmU e f s u) (tmU e f t v)).pv=T at *
      dsimp! [z3a,z6s,pr,ta,gt]
    · rw [eX];exact ⟨Int.le_of_lt f2,.inr ⟨f2,d4 p4⟩⟩
    · rw [eX];exact ⟨by omega,.inr ⟨by omega,d3 p3⟩⟩
theorem zbd {e f a c p:Int}{z:Str}{k:Nat} (h:Wd e f) (a0 : -(eS e f)≤a) (a1:a≤eS e f) (c0 : -(eS e f)≤c) (c1:c≤eS e f) (w:WayK p z k) (hp:p=3∨p=4) :
    ∃ W,z1g [.tup [.int e,.int f],.tup [.int (wdR e f a),.int (wdR e f c)],.str z] = .ok (.int W)∧NW e f W∧(p=4→Dp e f (far e f) (mo e f) (Xp e f a c) (rkW e f W))∧(p=3→Dp e f (far e f) (mo e f) (-(Xp e f a c)) (-(rkW e f W))):=by
  obtain ⟨m1,m3,p3,_⟩:=eS_facts h
  obtain ⟨s0,s1,s2⟩:=far_facts h
  have fp:0<far e f:=Int.mul_pos s0 s0
  have wa:=(wdR_facts h a0 a1).2.2.2
  have wc:=(wdR_facts h c0 c1).2.2.2
  by_cases x:a=0∨c=0
  · have eX:Xp e f a c=0:=by
      have z0:sv f a*sv f c=0:=by
        rcases x with y | y<;>rw [y,sv_0]
        · exact Int.zero_mul _
        · exact Int.mul_zero _
      unfold Xp
      rw [z0]
      split
      · rw [if_neg (by decide),if_neg (by decide)]
      · rfl
    have nw:=nw_of (show Wu e f 0 0 from ⟨h,.inl rfl,by decide,p2_pos _⟩) (by omega)
    rw [Int.zero_mul] at nw
    have d0:=dn_0 (e:=e) (f:=f) h (p2_pos (-(lp e f)))
    refine ⟨0,?_,nw.1,fun _=>?_,fun _=>?_⟩
    · by_cases y:a=0
      · have y':=wa.mpr y
        generalize wdR e f a=A at *
        subst y'
        dsimp! [z1g,z5m]
      · have y':=wc.mpr (by omega)
        generalize wdR e f c=C at *
        have ya:¬ wdR e f a=0:=fun q=>y (wa.mp q)
        subst y'
        dsimp! [z1g,z5m,ya]
    · have e0:rkW e f 0=0:=nw.2
      rw [eX,e0];exact ⟨by omega,.inr ⟨fp,d0⟩⟩
    · have e0:rkW e f 0=0:=nw.2
      rw [eX,e0];exact ⟨by omega,.inr ⟨fp,d0⟩⟩
  · obtain ⟨W,mk,e1,nw,d⟩:=times_w h a0 a1 c0 c1 (fun q=>x (.inl q)) (fun q=>x (.inr q)) w hp
    refine ⟨W,?_,nw,d⟩
    have ya:¬ wdR e f a=0:=fun q=>x (.inl (wa.mp q))
    have yc:¬ wdR e f c=0:=fun q=>x (.inr (wc.mp q))
    generalize wdR e f a=A at *
    generalize wdR e f c=C at *
    dsimp! [z1g,z5m,ya,yc,e1]
theorem not_all {e f a b c d:Int} (h:Wd e f) (k:SpOk e f a b) (g:SpOk e f c d):¬ (Xp e f a c=far e f∧Xp e f a d=far e f∧Xp e f b c=far e f∧Xp e f b d=far e f):=by
  obtain ⟨k1,k2,k3,k4,k5⟩:=k
  obtain ⟨g1,g2,g3,g4,g5⟩:=g
  obtain ⟨m1,m3,p3,_⟩:=eS_facts h
  obtain ⟨s0,_,_⟩:=far_facts h
  have fp:0<far e f:=Int.mul_pos s0 s0
  have aa:∀ r:Int,ab r=if r<0 then -r else r:=fun _=>rfl
  have key:∀ x y:Int,-(eS e f)≤x→x≤eS e f→-(eS e f)≤y→y≤eS e f→Xp e f x y=far e f→(ab x=eS e f∨ab y=eS e f)∧((0<x∧0<y)∨(x<0∧y<0)):=fun x y x0 x1 y0 y1 q=>by
    unfold Xp at q
    by_cases z:ab x=eS e f∨ab y=eS e f
    · rw [if_pos z] at q
      refine ⟨z,(svv (f:=f)).1.mp ?_⟩
      by_cases w:0<sv f x*sv f y
      · exact w
      · rw [if_neg w] at q
        split at q<;>omega
    · rw [if_neg z] at q
      have lx:ab x≤eS e f:=by rw [aa];split<;>omega
      have ly:ab y≤eS e f:=by rw [aa];split<;>omega
      have:=(fin_lt (a:=x) (c:=y) h (by omega) (by omega)).2
      omega
  rintro ⟨q1,q2,q3,q4⟩
  have w2:=key a d (by omega) (by omega) (by omega) (by omega) q2
  have w1:=key a c (by omega) (by omega) (by omega) (by omega) q1
  have w4:=key b d (by omega) (by omega) (by omega) (by omega) q4
  have la : ab a = eS e f → a = -(eS e f) := fun q => by rw [aa] at q; clear w1 w2 w4; split at q <;> omega
  have lb : ab b = eS e f → b = eS e f := fun q => by rw [aa] at q; clear w1 w2 w4; split at q <;> omega
  have lc : ab c = eS e f → c = -(eS e f) := fun q => by rw [aa] at q; clear w1 w2 w4; split at q <;> omega
  have ld : ab d = eS e f → d = eS e f := fun q => by rw [aa] at q; clear w1 w2 w4; split at q <;> omega
  obtain ⟨x1, y1⟩ := w1
  obtain ⟨x2, y2⟩ := w2
  obtain ⟨x4, y4⟩ := w4
  have x2 := x2.imp la ld
  have x4 := x4.imp lb ld
  have x1 := x1.imp la lc
  clear la lb lc ld key q1 q2 q3 q4 fp s0 k5 g5
  rcases x1 with x | x
  · rcases y1 with y | y
    · omega
    · rcases y2 with z | z
      · omega
      · rcases y4 with v | v
        · omega
        · rcases x4 with o | o <;> omega
  · rcases x2 with z | z
    · rcases y2 with y | y
      · omega
      · rcases y4 with v | v
        · omega
        · rcases x4 with o | o <;> omega
    · rcases y1 with y | y
      · omega
      · rcases y2 with v | v <;> omega
theorem xp_far {e f a c:Int} (h:Wd e f) : -(far e f)≤Xp e f a c∧Xp e f a c≤far e f∨¬ (ab a≤eS e f∧ab c≤eS e f):=by
  obtain ⟨s0,_,_⟩:=far_facts h
  have fp:0<far e f:=Int.mul_pos s0 s0
  by_cases q:ab a≤eS e f∧ab c≤eS e f
  · left
    unfold Xp
    by_cases z:ab a=eS e f∨ab c=eS e f
    · rw [if_pos z];split
      · omega
      · split<;>omega
    · rw [if_neg z]
      have:=fin_lt (a:=a) (c:=c) h (by omega) (by omega)
      omega
  · exact .inr q
theorem xp_neg {e f a c:Int}:Xp e f (-a) c = -(Xp e f a c):=by
  have aa:ab (-a)=ab a:=by unfold ab;split<;>split<;>omega
  unfold Xp
  rw [aa,sv_neg,Int.neg_mul]
  generalize sv f a*sv f c=t
  generalize far e f=F
  split
  · by_cases x:0<t
    · rw [if_pos x,if_neg (by omega),if_pos (by omega)]
    · by_cases y:t<0
      · rw [if_neg x,if_pos y,if_pos (by omega),Int.neg_neg]
      · rw [if_neg x,if_neg y,if_neg (by omega),if_neg (by omega)];rfl
  · rfl
noncomputable def mn (e f a b c d:Int):Int:=minL (Xp e f a c) [Xp e f a d,Xp e f b c,Xp e f b d]
noncomputable def mx (e f a b c d:Int):Int:=maxL (Xp e f a c) [Xp e f a d,Xp e f b c,Xp e f b d]
theorem mx_mn {e f a b c d:Int} : -(mx e f a b c d)=mn e f (-b) (-a) c d:=by
  unfold mx mn
  rw [max_min,Int.neg_neg,xp_neg,xp_neg,xp_neg,xp_neg]
  simp only [minL];(repeat' split)<;>omega
theorem mn_lt {e f a b c d:Int} (h:Wd e f) (k:SpOk e f a b) (g:SpOk e f c d):mn e f a b c d<far e f:=by
  have na:=not_all h k g
  obtain ⟨k1,k2,k3,k4,k5⟩:=k
  obtain ⟨g1,g2,g3,g4,g5⟩:=g
  have lt:∀ r:Int,-(eS e f)≤r→r≤eS e f→ab r≤eS e f:=fun r r0 r1=>by unfold ab;split<;>omega
  have le:∀ x y:Int,ab x≤eS e f→ab y≤eS e f→Xp e f x y≤far e f:=fun x y x0 y0=>by
    rcases xp_far (a:=x) (c:=y) h with z | z
    · exact z.2
    · exact absurd ⟨x0,y0⟩ z
  have l1:=le a c (lt a (by omega) (by omega)) (lt c (by omega) (by omega))
  have l2:=le a d (lt a (by omega) (by omega)) (lt d (by omega) (by omega))
  have l3:=le b c (lt b (by omega) (by omega)) (lt c (by omega) (by omega))
  have l4:=le b d (lt b (by omega) (by omega)) (lt d (by omega) (by omega))
  have m1:=(minL_spec [Xp e f a d,Xp e f b c,Xp e f b d] (Xp e f a c)).2.1
  refine Int.not_le.mp fun q=>?_
  have eq:mn e f a b c d=far e f:=by show minL _ _=_;have:mn e f a b c d=minL (Xp e f a c) [Xp e f a d,Xp e f b c,Xp e f b d]:=rfl;omega
  exact na (min_lt eq ⟨l1,l2,l3,l4⟩)
theorem q_st {e f a b c d:Int} (h:Wd e f) (k:SpOk e f a b) (g:SpOk e f c d) :
    ∃ x y,z40 [.tup [.int e,.int f],.tup [.int (wdR e f a),.int (wdR e f b)],.tup [.int (wdR e f c),.int (wdR e f d)]] = .ok (.tup [.int (wdR e f x),.int (wdR e f y)])∧Dn e f (mn e f a b c d) (mo e f) x∧Dn e f (-(mx e f a b c d)) (mo e f) (-y):=by
  have cs:=zb9 h k g
  have lt1:=mn_lt h k g
  have ng:SpOk e f (-b) (-a):=by obtain ⟨k1,k2,k3,k4,k5⟩:=k;constructor<;>omega
  have lt2:=mn_lt h ng g
  rw [← mx_mn] at lt2
  have lt2':minL (-(Xp e f a c)) [-(Xp e f a d),-(Xp e f b c),-(Xp e f b d)]<far e f:=by
    have e1:mx e f a b c d=maxL (Xp e f a c) [Xp e f a d,Xp e f b c,Xp e f b d]:=rfl
    rw [e1,max_min,Int.neg_neg] at lt2
    exact lt2
  obtain ⟨k1,k2,k3,k4,k5⟩:=k
  obtain ⟨g1,g2,g3,g4,g5⟩:=g
  have wk4:WayK 4 "down" 25:=.inr (.inr (.inr (.inr ⟨rfl,rfl,rfl⟩)))
  have wk3:WayK 3 "up" 24:=.inr (.inr (.inr (.inl ⟨rfl,rfl,rfl⟩)))
  obtain ⟨D1,d1,n1,p1,_⟩:=zbd (a:=a) (c:=c) h (by omega) (by omega) (by omega) (by omega) wk4 (.inr rfl)
  obtain ⟨D2,d2,n2,p2',_⟩:=zbd (a:=a) (c:=d) h (by omega) (by omega) (by omega) (by omega) wk4 (.inr rfl)
  obtain ⟨D3,d3,n3,p3,_⟩:=zbd (a:=b) (c:=c) h (by omega) (by omega) (by omega) (by omega) wk4 (.inr rfl)
  obtain ⟨D4,d4,n4,p4,_⟩:=zbd (a:=b) (c:=d) h (by omega) (by omega) (by omega) (by omega) wk4 (.inr rfl)
  obtain ⟨U1,u1,o1,_,r1⟩:=zbd (a:=a) (c:=c) h (by omega) (by omega) (by omega) (by omega) wk3 (.inl rfl)
  obtain ⟨U2,u2,o2,_,r2⟩:=zbd (a:=a) (c:=d) h (by omega) (by omega) (by omega) (by omega) wk3 (.inl rfl)
  obtain ⟨U3,u3,o3,_,r3⟩:=zbd (a:=b) (c:=c) h (by omega) (by omega) (by omega) (by omega) wk3 (.inl rfl)
  obtain ⟨U4,u4,o4,_,r4⟩:=zbd (a:=b) (c:=d) h (by omega) (by omega) (by omega) (by omega) wk3 (.inl rfl)
  have pm:0<mo e f:=p2_pos _
  have dm:=dp_dn (dp_min pm (p1 rfl) (p2' rfl) (p3 rfl) (p4 rfl)) lt1
  have um:=dp_dn (dp_min pm (r1 rfl) (r2 rfl) (r3 rfl) (r4 rfl)) lt2'
  have mem4:∀ {A B C D:Int},NW e f A→NW e f B→NW e f C→NW e f D→∀ w∈A::[B,C,D],NW e f w:=fun {A B C D} hA hB hC hD w hw=>by
    simp only [List.mem_cons,List.not_mem_nil,or_false] at hw
    rcases hw with rfl | rfl | rfl | rfl
    · exact hA
    · exact hB
    · exact hC
    · exact hD
  have sp:=zc0 (l0:=D1) (ls:=[D2,D3,D4]) (h0:=U1) (hs:=[U2,U3,U4]) h (by simp) (by simp) (mem4 n1 n2 n3 n4) (mem4 o1 o2 o3 o4)
  refine ⟨minL (rkW e f D1) [rkW e f D2,rkW e f D3,rkW e f D4],maxL (rkW e f U1) [rkW e f U2,rkW e f U3,rkW e f U4],?_,dm,?_⟩
  · simp only [List.map_cons,List.map_nil] at sp
    have d1:=noX_ok d1
    have d2:=noX_ok d2
    have d3:=noX_ok d3
    have d4:=noX_ok d4
    have u1:=noX_ok u1
    have u2:=noX_ok u2
    have u3:=noX_ok u3
    have u4:=noX_ok u4
    generalize wdR e f (minL (rkW e f D1) [rkW e f D2,rkW e f D3,rkW e f D4])=X at *
    generalize wdR e f (maxL (rkW e f U1) [rkW e f U2,rkW e f U3,rkW e f U4])=Y at *
    generalize wdR e f a=A at *
    generalize wdR e f b=B at *
    generalize wdR e f c=C at *
    generalize wdR e f d=D at *
    have co1:∀ v1 v2 v3 v4 v5 v6,compK 7 tTrue (fCall (noX z1g) (aCons (fVar 0) (aCons (fVar 7) (aCons (fC (.str "down")) (aNil))))) [some (.tup [.int e,.int f]),v1,v2,v3,v4,v5,v6] [.tup [.int A,.int C],.tup [.int A,.int D],.tup [.int B,.int C],.tup [.int B,.int D]] = .ok (.lst [.int D1,.int D2,.int D3,.int D4]):=fun v1 v2 v3 v4 v5 v6 =>
      compK_ok (by simp) (compL_1 (by dsimp! [padTo,List.cons_append,List.nil_append,d1]) (compL_1 (by dsimp! [padTo,List.cons_append,List.nil_append,d2]) (compL_1 (by dsimp! [padTo,List.cons_append,List.nil_append,d3]) (compL_1 (by dsimp! [padTo,List.cons_append,List.nil_append,d4]) compL_0))))
    have co2:∀ v1 v2 v3 v4 v5 v6,compK 7 tTrue (fCall (noX z1g) (aCons (fVar 0) (aCons (fVar 7) (aCons (fC (.str "up")) (aNil))))) [some (.tup [.int e,.int f]),v1,v2,v3,v4,v5,v6] [.tup [.int A,.int C],.tup [.int A,.int D],.tup [.int B,.int C],.tup [.int B,.int D]] = .ok (.lst [.int U1,.int U2,.int U3,.int U4]):=fun v1 v2 v3 v4 v5 v6 =>
      compK_ok (by simp) (compL_1 (by dsimp! [padTo,List.cons_append,List.nil_append,u1]) (compL_1 (by dsimp! [padTo,List.cons_append,List.nil_append,u2]) (compL_1 (by dsimp! [padTo,List.cons_append,List.nil_append,u3]) (compL_1 (by dsimp! [padTo,List.cons_append,List.nil_append,u4]) compL_0))))
    have pe:z1s [.tup [.int A,.int B],.tup [.int C,.int D]] = .ok (.lst [.tup [.int A,.int C],.tup [.int A,.int D],.tup [.int B,.int C],.tup [.int B,.int D]]):=by
      dsimp! [z1s,z6j]
    dsimp! [z40,z88,List.replicate,List.set,cs,pe,fComp_e,co1,co2,sp]
  · have e1:mx e f a b c d=maxL (Xp e f a c) [Xp e f a d,Xp e f b c,Xp e f b d]:=rfl
    rw [e1,max_min,Int.neg_neg,max_min,Int.neg_neg]
    exact um
end K83
namespace Cm
open PySem Mi
theorem zbp {e f s u t v p:Int}{z:Str}{k:Nat}{W mk:Int} (h:Wu e f s u) (g:Wu e f t v) (u0:0<u) (u1:u<eS e f) (v0:0<v) (v1:v<eS e f) (w:WayK p z k) (x:Bool) (hx:(!(decide (s=1) == decide (t=1)))=x)
    (tk:zh [.tup [.int e,.int f],.int (if x then -(xN (vN f u)) else xN (vN f u)),.int (xK (vN f u) (vK e f u) - xK (vN f v) (vK e f v)),.int (xN (vN f v)),.str z] = .ok (.tup [.int W,.int mk])) :
    zz [.tup [.int e,.int f],.int (u+s*p2 (e+f)),.int (v+t*p2 (e+f)),.str z] = .ok (.tup [.int W,.int mk]):=by
  have t1:=z1w h
  have t2:=z1w g
  have nn:=z8l (tmU e f s u) (tmU e f t v) h.1
  have io1:=zbh (tmU e f s u)
  have io2:=zbh (tmU e f t v)
  have wy:=(way_q w).1
  have n1:=(st_val h.1 u0 u1).1
  have n2:=(st_val g.1 v0 v1).1
  have et:tmU e f s u = .num (decide (s=1)) (xN (vN f u)) (xK (vN f u) (vK e f u)):=by unfold tmU;rw [if_neg (by omega),if_neg (by omega)]
  have et2:tmU e f t v = .num (decide (t=1)) (xN (vN f v)) (xK (vN f v) (vK e f v)):=by unfold tmU;rw [if_neg (by omega),if_neg (by omega)]
  rw [et] at t1 nn io1
  rw [et2] at t2 nn io2
  have e2:∀ (b c:Bool) (n k m l:Int),noneV e f [.num b n k,.num c m l] = .non:=fun _ _ _ _ _ _=>rfl
  rw [e2] at nn
  simp only [Tm.pv] at t1 t2 nn io1 io2
  obtain ⟨a1,a2,a3,a4,a5,a6,a7,a8,a9,a10,a11,a12⟩:=tn
  have z1:¬ xN (vN f u)=0:=by omega
  have z2:¬ xN (vN f v)=0:=by omega
  generalize decide (s=1)=b at *
  generalize decide (t=1)=c at *
  generalize xN (vN f u)=n at *
  generalize xN (vN f v)=m at *
  generalize xK (vN f u) (vK e f u)=n' at *
  generalize xK (vN f v) (vK e f v)=m' at *
  generalize u+s*p2 (e+f)=w1 at *
  generalize v+t*p2 (e+f)=w2 at *
  cases x<;>simp only [if_true,Bool.false_eq_true,if_false] at tk<;>dsimp! [zz,z3g,z26,z3h,List.replicate,List.set,t1,t2,wy,asVal_ins,nn,notN_n,io1,io2,z1,z2,a12,decide_false,Bool.false_and,hx,tk]
theorem zbo {e f s u t v p:Int}{z:Str}{k:Nat} (h:Wu e f s u) (g:Wu e f t v) (w:WayK p z k) (c:(u=eS e f∧0<v∧v<eS e f)∨(u<eS e f∧v=eS e f)∨(u=0∧0<v∧v<eS e f)) :
    zz [.tup [.int e,.int f],.int (u+s*p2 (e+f)),.int (v+t*p2 (e+f)),.str z] = .ok (.tup [.int ((if u=eS e f then eS e f else 0)+(if (!(decide (s=1) == decide (t=1)))=true then 1 else 0)*p2 (e+f)),.int 0]):=by
  have t1:=z1w h
  have t2:=z1w g
  have nn:=z8l (tmU e f s u) (tmU e f t v) h.1
  have io1:=zbh (tmU e f s u)
  have io2:=zbh (tmU e f t v)
  have wy:=(way_q w).1
  have en:=zbb h.1
  obtain ⟨m1,m3,q3,q4,q7⟩:=eS_facts h.1
  have pf:=p2_pos (e+f)
  have u0:=h.2.2.1
  have wS:=z29 (u:=eS e f) ⟨h.1,.inl rfl,by omega,by omega⟩ (!(decide (s=1) == decide (t=1)))
  have w0:=z29 (u:=0) ⟨h.1,.inl rfl,by omega,by omega⟩ (!(decide (s=1) == decide (t=1)))
  have tE:∀ {s u:Int},u=eS e f→tmU e f s u = .endl (decide (s=1)):=fun {s u} x=>by unfold tmU;rw [if_neg (by omega),if_pos x]
  have nz:∀ {u:Int},0<u→u<eS e f→¬ xN (vN f u)=0:=fun {u} y0 y1 y2=>by
    have:=(st_val0 h.1 (Int.le_of_lt y0) y1).2.2.2.2.2.1.mp y2;omega
  obtain ⟨a1,a2,a3,a4,a5,a6,a7,a8,a9,a10,a11,a12⟩:=tn
  rcases c with ⟨c1,c2,c3⟩ | ⟨c1,c2⟩ | ⟨c1,c2,c3⟩
  · rw [tE c1] at t1 nn io1
    rw [tm_num c3] at t2 nn io2
    rw [if_pos c1]
    have hn2:=nz c2 c3
    generalize decide (s=1)=b at *
    generalize decide (t=1)=c at *
    generalize eS e f+(if (!(b == c))=true then 1 else 0)*p2 (e+f)=W at *
    generalize xN (vN f v)=m at *
    generalize xK (vN f v) (vK e f v)=m' at *
    generalize u+s*p2 (e+f)=w1 at *
    generalize v+t*p2 (e+f)=w2 at *
    simp only [Tm.pv] at t1 t2 nn io1 io2
    simp only [noneV,List.any_cons,List.any_nil,Tm.isW,Tm.isN,Bool.or_false,Bool.or_true,Bool.true_or,if_true,Bool.false_eq_true,if_false] at nn
    dsimp! [zz,z3g,z26,z3h,List.replicate,List.set,t1,t2,wy,nn,notN_t,notN_n,io1,io2,hn2,en,wS,str_self,a2,a5,a8,a9,a12,decide_true,decide_false,Bool.and_self,Bool.false_and]
  · rw [tm_num c1] at t1 nn io1
    rw [tE c2] at t2 nn io2
    rw [if_neg (by omega)]
    generalize decide (s=1)=b at *
    generalize decide (t=1)=c at *
    generalize 0+(if (!(b == c))=true then 1 else 0)*p2 (e+f)=W at *
    generalize xN (vN f u)=m at *
    generalize xK (vN f u) (vK e f u)=m' at *
    generalize u+s*p2 (e+f)=w1 at *
    generalize v+t*p2 (e+f)=w2 at *
    simp only [Tm.pv] at t1 t2 nn io1 io2
    simp only [noneV,List.any_cons,List.any_nil,Tm.isW,Tm.isN,Bool.or_false,Bool.or_true,Bool.true_or,if_true,Bool.false_eq_true,if_false] at nn
    by_cases y:(decide (m=0) && decide (m'=0))=true
    · dsimp! [zz,z3g,z26,z3h,List.replicate,List.set,t1,t2,wy,nn,notN_t,notN_n,io1,io2,y,en,w0,str_self,a2,a5,a8,a9,a12,Bool.false_and]
    · have y':(decide (m=0) && decide (m'=0))=false:=by simpa using y
      dsimp! [zz,z3g,z26,z3h,List.replicate,List.set,t1,t2,wy,nn,notN_t,notN_n,io1,io2,y',en,w0,str_self,a2,a5,a8,a9,a12,Bool.false_and]
  · have b:=st_val0 h.1 u0 (show u<eS e f by omega)
    have n0:=b.2.2.2.2.2.1.mpr c1
    have k0:xK (vN f u) (vK e f u)=0:=by have:=b.2.2.2.2.2.2.1;omega
    rw [tm_num (show u<eS e f by omega),n0,k0] at t1 nn io1
    rw [tm_num c3] at t2 nn io2
    rw [if_neg (by omega)]
    have hn2:=nz c2 c3
    generalize decide (s=1)=b at *
    generalize decide (t=1)=c at *
    generalize 0+(if (!(b == c))=true then 1 else 0)*p2 (e+f)=W at *
    generalize xN (vN f v)=m at *
    generalize xK (vN f v) (vK e f v)=m' at *
    generalize u+s*p2 (e+f)=w1 at *
    generalize v+t*p2 (e+f)=w2 at *
    simp only [Tm.pv] at t1 t2 nn io1 io2
    simp only [noneV,List.any_cons,List.any_nil,Tm.isW,Tm.isN,Bool.or_false,Bool.or_true,Bool.true_or,if_true,Bool.false_eq_true,if_false] at nn
    dsimp! [zz,z3g,z26,z3h,List.replicate,List.set,t1,t2,wy,nn,notN_t,notN_n,io1,io2,hn2,en,w0,str_self,a2,a5,a8,a9,a12,decide_true,decide_false,Bool.and_self,Bool.false_and]
theorem over_dn {e f s u t v p top:Int}{z:Str}{k:Nat} (h:Wu e f s u) (g:Wu e f t v) (u0:0<u) (u1:u<eS e f) (v0:0<v) (v1:v<eS e f) (w:WayK p z k) (hp:p=3∨p=4)
    (ht:top=if (!(decide (s=1) == decide (t=1)))=true then -(stU f u*p2 (-(lp e f))) else stU f u*p2 (-(lp e f))) :
    ∃ W mk,zz [.tup [.int e,.int f],.int (u+s*p2 (e+f)),.int (v+t*p2 (e+f)),.str z] = .ok (.tup [.int W,.int mk])∧NW e f W∧(p=4→Dn e f top (stU f v) (rkW e f W))∧(p=3→Dn e f (-top) (stU f v) (-(rkW e f W))):=by
  obtain ⟨l1,l2,l3,l4⟩:=lp_bounds h.1
  obtain ⟨n0,nb0,k0,k1,e0⟩:=st_val h.1 u0 u1
  obtain ⟨n1,nb1,k2,k3,e1⟩:=st_val g.1 v0 v1
  have hB:0<stU f v:=by
    have:=stU_lt (f:=f) (u:=0) (v:=v) (by decide) v0
    rw [stU_lo (p2_pos f)] at this
    exact this
  have hA:0<stU f u:=by
    have:=stU_lt (f:=f) (u:=0) (v:=u) (by decide) u0
    rw [stU_lo (p2_pos f)] at this
    exact this
  have hM:0<stU f u*p2 (-(lp e f)):=Int.mul_pos hA (p2_pos _)
  generalize hx:(!(decide (s=1) == decide (t=1)))=x at *
  have ov:=fun (W mk:Int)=>zbp (W:=W) (mk:=mk) h g u0 u1 v0 v1 w x hx
  obtain ⟨T,q,a,b,st⟩:=stands (k:=xK (vN f u) (vK e f u) - xK (vN f v) (vK e f v)) h.1 n0 n1 (by omega) (by omega) (by omega) (by omega)
  have L:=st_lies (M:=stU f u*p2 (-(lp e f))) (B:=stU f v) st n1 hB (by
    rw [e0,e1]
    generalize xN (vN f u)=n at *
    generalize xN (vN f v)=m at *
    generalize xK (vN f u) (vK e f u)=i at *
    generalize xK (vN f v) (vK e f v)=j at *
    have p:=p2_four (A:=i - lp e f) (L:=-(lp e f)) (C:=i - j - lp e f) (D:=j - lp e f) (by omega) (by omega) (by omega) (by omega)
    rw [show -(i - j - lp e f)=lp e f - (i - j) by omega] at p
    calc n*p2 (i - lp e f)*p2 (-(lp e f))*(m*p2 (lp e f - (i - j)))=n*m*(p2 (i - lp e f)*p2 (-(lp e f))*p2 (lp e f - (i - j))):=by simp only [Int.mul_comm,Int.mul_left_comm,Int.mul_assoc]
      _=n*m*(p2 (i - j - lp e f)*p2 (j - lp e f)):=by rw [p]
      _=n*p2 (i - j - lp e f)*(m*p2 (j - lp e f)):=by simp only [Int.mul_comm,Int.mul_left_comm,Int.mul_assoc])
  generalize hMM:stU f u*p2 (-(lp e f))=M at *
  have at':ab top=M:=by rw [ht];unfold ab;cases x<;>simp only [Bool.false_eq_true,if_true,if_false]<;>split<;>omega
  have ts:decide (top<0)=x:=by
    rw [ht]
    cases x
    · rw [if_neg (by decide)];exact decide_eq_false (by omega)
    · rw [if_pos rfl];exact decide_eq_true (by omega)
  obtain ⟨sz,mk,ek,z0,z1,d4,d3⟩:=dn_tk (top:=top) h.1 hp st.t0 st.q0 st.q1 st.qt hB (side_of a b) (by rw [ht];split<;>omega) (by rw [at'];exact L)
  obtain ⟨nw,rw'⟩:=tk_nw (top:=top) h.1 z0 z1
  refine ⟨_,mk,ov _ _ ?_,nw,fun p4=>?_,fun p3=>?_⟩
  · rw [← ek,ts]
    cases x with
    | true =>
      have tk:=take_st (n:=-(xN (vN f u))) h.1 w (by omega) n1 (by rw [nb_neg];omega) (by omega) (by rw [ab_neg',ab_of (by omega)];exact st)
      rw [decide_eq_true (by omega)] at tk
      exact tk
    | false =>
      have tk:=take_st (n:=xN (vN f u)) h.1 w (by omega) n1 (by omega) (by omega) (by rw [ab_of (by omega)];exact st)
      rw [decide_eq_false (by omega)] at tk
      exact tk
  · rw [rw'];exact d4 p4
  · rw [rw',show -(if top<0 then -sz else sz)=if top<0 then sz else -sz by split<;>omega];exact d3 p3
end Cm
namespace K84
open PySem Mi Cm
noncomputable abbrev mo (e f:Int):Int:=p2 (-(lp e f))
noncomputable def pT (f a c:Int):Int:=if c<0 then 0 - sv f a else sv f a
noncomputable def pN (e f a c:Int):Int:=if ab c=eS e f then 0 else if ab a=eS e f then pT f a c*4 else pT f a c
noncomputable def pD (e f a c:Int):Int:=if ab c=eS e f then 1 else if ab a=eS e f then 1 else stU f (ab c)
def Dq (e f n d r:Int):Prop:=-(eS e f)≤r∧r≤eS e f∧(r = -(eS e f)∨sv f r*d≤n*mo e f)∧(eS e f - 1≤r∨n*mo e f<sv f (r+1)*d)
theorem dq_dn {e f n d r:Int} (h:Dn e f (n*mo e f) d r):Dq e f n d r:=⟨h.1,Int.le_of_lt h.2.1,h.2.2.1,by rcases h.2.2.2 with x | x;left;omega;exact .inr x⟩
theorem dq_0 {e f d:Int} (h:Wd e f) (hd:0<d):Dq e f 0 d 0:=by
  have:=dn_0 (e:=e) (f:=f) h hd
  exact dq_dn (by rw [Int.zero_mul];exact this)
theorem zbg {e f a:Int} (h:Wd e f) (a0 : -(eS e f)≤a) (a1:a≤eS e f):z17 [.tup [.int e,.int f],.int (wdR e f a)] = .ok (.bl (decide (ab a=eS e f))):=by
  obtain ⟨s,u,w1,v1,u1,k1,ua⟩:=wu_R h a0 a1
  obtain ⟨m1,m3,p3,_⟩:=eS_facts h
  have k:=z5s w1
  rw [← v1] at k
  have u0:=w1.2.2.1
  have e1:(Str.ofString (kindU e f u) == Str.ofString "endless")=decide (u=eS e f):=by
    unfold kindU
    by_cases c1:u=0
    · rw [if_pos c1,decide_eq_false (by omega)];decide
    · rw [if_neg c1]
      by_cases c2:u<p2 f
      · rw [if_pos c2,decide_eq_false (by omega)];decide
      · rw [if_neg c2]
        by_cases c3:u<eS e f
        · rw [if_pos c3,decide_eq_false (by omega)];decide
        · rw [if_neg c3,if_pos (by omega),decide_eq_true (by omega)];decide
  rw [← ua]
  generalize wdR e f a=A at *
  dsimp! [z17,z6g,k,e1]
theorem sv_top {f a:Int}:sv f a=if a<0 then -(stU f (ab a)) else stU f (ab a):=by
  unfold sv ab
  by_cases c:a<0
  · rw [if_pos c,if_pos c,if_pos c]
  · rw [if_neg c,if_neg c,if_neg c]
theorem pD_pos {e f a c:Int} (cz:c≠0):0<pD e f a c:=by
  unfold pD
  split
  · decide
  · split
    · decide
    · have:0<ab c:=by unfold ab;split<;>omega
      have:=stU_lt (f:=f) (u:=0) (by decide) this
      rw [stU_lo (p2_pos f)] at this
      exact this
theorem zbc {e f a c p:Int}{z:Str}{k:Nat} (h:Wd e f) (a0 : -(eS e f)≤a) (a1:a≤eS e f) (c0 : -(eS e f)≤c) (c1:c≤eS e f) (cz:c≠0) (w:WayK p z k) (hp:p=3∨p=4) :
    ∃ W,z16 [.tup [.int e,.int f],.tup [.int (wdR e f a),.int (wdR e f c)],.str z] = .ok (.int W)∧NW e f W ∧
      (p=4→Dq e f (pN e f a c) (pD e f a c) (rkW e f W)∧(rkW e f W=eS e f→ab a=eS e f∧((a<0∧c<0)∨(0<a∧0<c)))) ∧
      (p=3→Dq e f (-(pN e f a c)) (pD e f a c) (-(rkW e f W))∧(rkW e f W = -(eS e f)→ab a=eS e f∧((a<0∧0<c)∨(0<a∧c<0)))):=by
  obtain ⟨m1,m3,p3,_⟩:=eS_facts h
  obtain ⟨f0,f1,f2⟩:=far_facts h
  have pm:0<mo e f:=p2_pos _
  have ia:=zbg h a0 a1
  have ic:=zbg h c0 c1
  have dp:=pD_pos (e:=e) (f:=f) (a:=a) cz
  obtain ⟨s,u,w1,v1,u1,k1,ua⟩:=wu_R h a0 a1
  obtain ⟨t,v,w2,v2,u2,k2,va⟩:=wu_R h c0 c1
  have aa:∀ r:Int,ab r=if r<0 then -r else r:=fun _=>rfl
  have un:0<v:=by rw [va,aa];split<;>omega
  have sa:(s=1↔a<0∨(a=0∧s=1))∧(t=1↔c<0):=by
    unfold rk at k1 k2
    have u0 := w1.2.2.1
    clear ua va hp v1 v2 a0 a1 c0 c1 m1 m3 p3
    rcases w1.2.1 with y | y<;>rcases w2.2.1 with y' | y'<;>subst y<;>subst y'<;>simp only [Int.zero_ne_one,if_true,if_false] at k1 k2<;>omega
  have nw0:∀ b:Bool,NW e f (0+(if b=true then 1 else 0)*p2 (e+f))∧rkW e f (0+(if b=true then 1 else 0)*p2 (e+f))=0:=fun b=>by
    have pP:=p2_pos (e+f)
    cases b
    · exact nw_of (show Wu e f 0 0 from ⟨h,.inl rfl,by decide,pP⟩) (by omega)
    · exact nw_of (show Wu e f 1 0 from ⟨h,.inr rfl,by decide,pP⟩) (by omega)
  have nwE:∀ b:Bool,NW e f (eS e f+(if b=true then 1 else 0)*p2 (e+f))∧rkW e f (eS e f+(if b=true then 1 else 0)*p2 (e+f))=if b=true then -(eS e f) else eS e f:=fun b=>by
    cases b
    · exact nw_of (show Wu e f 0 (eS e f) from ⟨h,.inl rfl,by omega,by omega⟩) (Int.le_refl _)
    · exact nw_of (show Wu e f 1 (eS e f) from ⟨h,.inr rfl,by omega,by omega⟩) (Int.le_refl _)
  have done:∀ W mk,¬ (ab a=eS e f∧ab c=eS e f)→zz [.tup [.int e,.int f],.int (wdR e f a),.int (wdR e f c),.str z] = .ok (.tup [.int W,.int mk])→z16 [.tup [.int e,.int f],.tup [.int (wdR e f a),.int (wdR e f c)],.str z] = .ok (.int W):=fun W mk hn ho=>by
    generalize wdR e f a=A at *
    generalize wdR e f c=C at *
    by_cases y:ab a=eS e f
    · have y2:¬ ab c=eS e f:=fun q=>hn ⟨y,q⟩
      rw [decide_eq_true y] at ia
      rw [decide_eq_false y2] at ic
      dsimp! [z16,z5l,ia,ic,ho]
    · rw [decide_eq_false y] at ia
      dsimp! [z16,z5l,ia,ho]
  by_cases yc:ab c=eS e f
  · have e1:pN e f a c=0:=if_pos yc
    have e2:pD e f a c=1:=if_pos yc
    rw [e1,e2]
    have d0:=dq_0 (e:=e) (f:=f) (d:=1) h (by decide)
    by_cases ya:ab a=eS e f
    · have nw:=nw0 false
      rw [if_neg (by decide),Int.zero_mul] at nw
      have r0:rkW e f 0=0:=nw.2
      refine ⟨0,?_,nw.1,fun _=>?_,fun _=>?_⟩
      · rw [decide_eq_true ya] at ia
        rw [decide_eq_true yc] at ic
        generalize wdR e f a=A at *
        generalize wdR e f c=C at *
        dsimp! [z16,z5l,ia,ic]
      · rw [r0];exact ⟨d0,fun q=>by omega⟩
      · rw [r0];exact ⟨d0,fun q=>by omega⟩
    · have ov:=zbo w1 w2 w (.inr (.inl ⟨by omega,by omega⟩))
      rw [if_neg (by omega),← v1,← v2] at ov
      refine ⟨_,done _ _ (fun q=>ya q.1) ov,(nw0 _).1,fun _=>?_,fun _=>?_⟩
      · rw [(nw0 _).2];exact ⟨d0,fun q=>by omega⟩
      · rw [(nw0 _).2];exact ⟨d0,fun q=>by omega⟩
  · by_cases ya:ab a=eS e f
    · have ov:=zbo w1 w2 w (.inl ⟨by omega,un,by omega⟩)
      rw [if_pos (by omega),← v1,← v2] at ov
      have e2:pD e f a c=1:=by unfold pD;rw [if_neg yc,if_pos ya]
      have as:a=eS e f∨a = -(eS e f):=by rw [aa] at ya;split at ya<;>omega
      have st:=sv_top (f:=f) (a:=a)
      rw [ya] at st
      have e1:pN e f a c=if (!(decide (s=1) == decide (t=1)))=true then -(4*stU f (eS e f)) else 4*stU f (eS e f):=by
        unfold pN pT
        rw [if_neg yc,if_pos ya,st]
        by_cases q1:a<0<;>by_cases q2:c<0
        · rw [decide_eq_true (sa.1.mpr (.inl q1)),decide_eq_true (sa.2.mpr q2),if_pos q1,if_pos q2,if_neg (by decide)];omega
        · rw [decide_eq_true (sa.1.mpr (.inl q1)),decide_eq_false (mt sa.2.mp q2),if_pos q1,if_neg q2,if_pos (by decide)];omega
        · rw [decide_eq_false (fun q=>by have:=sa.1.mp q;clear sa hp va k1 k2;omega),decide_eq_true (sa.2.mpr q2),if_neg q1,if_pos q2,if_pos (by decide)];omega
        · rw [decide_eq_false (fun q=>by have:=sa.1.mp q;clear sa hp va k1 k2;omega),decide_eq_false (mt sa.2.mp q2),if_neg q1,if_neg q2,if_neg (by decide)];omega
      have sgx:(!(decide (s=1) == decide (t=1)))=true↔(a<0∧0<c)∨(0<a∧c<0):=by
        by_cases q1:a<0<;>by_cases q2:c<0
        · rw [decide_eq_true (sa.1.mpr (.inl q1)),decide_eq_true (sa.2.mpr q2)];simp;clear sa hp k1 k2 va c0 c1 e1 st;omega
        · rw [decide_eq_true (sa.1.mpr (.inl q1)),decide_eq_false (mt sa.2.mp q2)];simp;clear sa hp k1 k2 va c0 c1 e1 st;omega
        · rw [decide_eq_false (fun q=>by have:=sa.1.mp q;clear sa hp va k1 k2;omega),decide_eq_true (sa.2.mpr q2)];simp;clear sa hp k1 k2 va c0 c1 e1 st;omega
        · rw [decide_eq_false (fun q=>by have:=sa.1.mp q;clear sa hp va k1 k2;omega),decide_eq_false (mt sa.2.mp q2)];simp;clear sa hp k1 k2 va c0 c1 e1 st;omega
      have big:stU f (eS e f)≤4*stU f (eS e f)*mo e f:=by
        have:=Int.mul_le_mul_of_nonneg_left (show 1≤mo e f from pm) (show 0≤4*stU f (eS e f) by omega)
        omega
      have lt:=stU_lt (f:=f) (u:=eS e f - 1) (v:=eS e f) (by omega) (by omega)
      have dE:Dq e f (4*stU f (eS e f)) 1 (eS e f):=⟨by omega,Int.le_refl _,.inr (by rw [sv_p (by omega),Int.mul_one];exact big),.inl (by omega)⟩
      have dM:Dq e f (-(4*stU f (eS e f))) 1 (-(eS e f)):=⟨Int.le_refl _,by omega,.inl rfl,.inr (by
        rw [show -(eS e f)+1 = -(eS e f - 1) by omega,sv_n (by omega),Int.mul_one,Int.neg_mul];omega)⟩
      refine ⟨_,done _ _ (fun q=>yc q.2) ov,(nwE _).1,fun _=>?_,fun _=>?_⟩
      · rw [(nwE _).2,e1,e2]
        generalize (!(decide (s=1) == decide (t=1)))=x at *
        cases x
        · refine ⟨dE,fun _=>⟨ya,?_⟩⟩
          have:=mt sgx.mpr (by decide);clear sgx sa hp k1 k2 va c0 c1 e1;omega
        · exact ⟨dM,fun q=>by rw [if_pos rfl] at q;omega⟩
      · rw [(nwE _).2,e1,e2]
        generalize (!(decide (s=1) == decide (t=1)))=x at *
        cases x
        · exact ⟨dM,fun q=>by rw [if_neg (by decide)] at q;omega⟩
        · refine ⟨by rw [if_pos rfl,if_pos rfl,Int.neg_neg,Int.neg_neg];exact dE,fun _=>⟨ya,sgx.mp rfl⟩⟩
    · have e2:pD e f a c=stU f (ab c):=by unfold pD;rw [if_neg yc,if_neg ya]
      have e1:pN e f a c=pT f a c:=by unfold pN;rw [if_neg yc,if_neg ya]
      rw [e2] at dp
      rw [e1,e2]
      by_cases az:a=0
      · have ov:=zbo w1 w2 w (.inr (.inr ⟨by rw [ua,aa];split<;>omega,un,by omega⟩))
        rw [if_neg (by omega),← v1,← v2] at ov
        have e3:pT f a c=0:=by unfold pT;rw [az,sv_0];split<;>rfl
        rw [e3]
        refine ⟨_,done _ _ (fun q=>yc q.2) ov,(nw0 _).1,fun _=>?_,fun _=>?_⟩
        · rw [(nw0 _).2];exact ⟨dq_0 h dp,fun q=>by omega⟩
        · rw [(nw0 _).2];exact ⟨dq_0 h dp,fun q=>by omega⟩
      · have u0:0<u:=by rw [ua,aa];split<;>omega
        have et:pT f a c*mo e f=if (!(decide (s=1) == decide (t=1)))=true then -(stU f u*p2 (-(lp e f))) else stU f u*p2 (-(lp e f)):=by
          unfold pT
          rw [sv_top,← ua]
          show _*p2 (-(lp e f))=_
          by_cases q1:a<0<;>by_cases q2:c<0
          · rw [decide_eq_true (sa.1.mpr (.inl q1)),decide_eq_true (sa.2.mpr q2),if_pos q1,if_pos q2,if_neg (by decide)];congr 1;omega
          · rw [decide_eq_true (sa.1.mpr (.inl q1)),decide_eq_false (mt sa.2.mp q2),if_pos q1,if_neg q2,if_pos (by decide),Int.neg_mul]
          · rw [decide_eq_false (fun q=>by have:=sa.1.mp q;clear sa hp va k1 k2;omega),decide_eq_true (sa.2.mpr q2),if_neg q1,if_pos q2,if_pos (by decide),Int.zero_sub,Int.neg_mul]
          · rw [decide_eq_false (fun q=>by have:=sa.1.mp q;clear sa hp va k1 k2;omega),decide_eq_false (mt sa.2.mp q2),if_neg q1,if_neg q2,if_neg (by decide)]
        obtain ⟨W,mk,ov,nw,d4,d3⟩:=over_dn w1 w2 u0 (by omega) un (by omega) w hp et
        rw [← v1,← v2] at ov
        rw [va] at d4 d3
        refine ⟨W,done _ _ (fun q=>yc q.2) ov,nw,fun p4=>?_,fun p3=>?_⟩
        · have:=d4 p4
          exact ⟨dq_dn this,fun q=>by have:=this.2.1;omega⟩
        · have:=d3 p3
          exact ⟨dq_dn (by rw [Int.neg_mul];exact this),fun q=>by have:=this.2.1;omega⟩
theorem min4 (a b c d:Int):(minL a [b,c,d]=a∨minL a [b,c,d]=b∨minL a [b,c,d]=c∨minL a [b,c,d]=d)∧minL a [b,c,d]≤a∧minL a [b,c,d]≤b∧minL a [b,c,d]≤c∧minL a [b,c,d]≤d:=by
  simp only [minL];(repeat' split)<;>omega
structure Low (e f r n1 d1 n2 d2 n3 d3 n4 d4:Int):Prop where
  r0 : -(eS e f)≤r
  r1:r<eS e f
  lo : -(eS e f)<r→sv f r*d1≤n1*mo e f∧sv f r*d2≤n2*mo e f∧sv f r*d3≤n3*mo e f∧sv f r*d4≤n4*mo e f
  hi:r=eS e f - 1∨n1*mo e f<sv f (r+1)*d1∨n2*mo e f<sv f (r+1)*d2∨n3*mo e f<sv f (r+1)*d3∨n4*mo e f<sv f (r+1)*d4
theorem low_min {e f r1 r2 r3 r4 n1 d1 n2 d2 n3 d3 n4 d4:Int} (q1:Dq e f n1 d1 r1) (q2:Dq e f n2 d2 r2) (q3:Dq e f n3 d3 r3) (q4:Dq e f n4 d4 r4) (p1:0<d1) (p2':0<d2) (p3:0<d3) (p4:0<d4) (lt:minL r1 [r2,r3,r4]<eS e f):Low e f (minL r1 [r2,r3,r4]) n1 d1 n2 d2 n3 d3 n4 d4:=by
  have sp:=min4 r1 r2 r3 r4
  generalize minL r1 [r2,r3,r4]=m at *
  obtain ⟨s0,s1,s2,s3,s4⟩:=sp
  have key:∀ {n d r:Int},Dq e f n d r→0<d→m≤r→-(eS e f)<m→sv f m*d≤n*mo e f:=fun {n d r} q p le lt=>by
    have a:=Int.mul_le_mul_of_nonneg_right (sv_le (f:=f) le) (Int.le_of_lt p)
    have b:=q.2.2.1
    omega
  have hi:∀ {n d r:Int},Dq e f n d r→m=r→m=eS e f - 1∨n*mo e f<sv f (m+1)*d:=fun {n d r} q eq=>by
    have b:=q.2.2.2
    subst eq
    omega
  refine ⟨by have:=q1.1;have:=q2.1;have:=q3.1;have:=q4.1;omega,lt,fun c=>⟨key q1 p1 s1 c,key q2 p2' s2 c,key q3 p3 s3 c,key q4 p4 s4 c⟩,?_⟩
  rcases s0 with c | c | c | c
  · rcases hi q1 c with y | y
    · exact .inl y
    · exact .inr (.inl y)
  · rcases hi q2 c with y | y
    · exact .inl y
    · exact .inr (.inr (.inl y))
  · rcases hi q3 c with y | y
    · exact .inl y
    · exact .inr (.inr (.inr (.inl y)))
  · rcases hi q4 c with y | y
    · exact .inl y
    · exact .inr (.inr (.inr (.inr y)))
theorem two_ends {S a b:Int} (h:a<S) (g : -S<b) (x:ab a=S) (y:ab b=S):a = -S∧b=S:=by
  unfold ab at x y
  split at x<;>split at y<;>omega
theorem lt_l {S a b c r1 r2 r3 r4:Int} (h:a<S) (g : -S<b) (l1:r1≤S) (l3:r3≤S) (x1:r1=S→ab a=S∧((a<0∧c<0)∨(0<a∧0<c))) (x3:r3=S→ab b=S∧((b<0∧c<0)∨(0<b∧0<c))):minL r1 [r2,r3,r4]<S:=by
  refine Int.not_le.mp fun q=>?_
  obtain ⟨_,m1,_,m3,_⟩:=min4 r1 r2 r3 r4
  obtain ⟨z1,w1⟩:=x1 (by clear x1 x3;omega)
  obtain ⟨z3,w3⟩:=x3 (by clear x1 x3;omega)
  clear x1 x3
  have te:=two_ends h g z1 z3
  omega
theorem lt_h {S a b c r1 r2 r3 r4:Int} (h:a<S) (g : -S<b) (l1 : -r1≤S) (l3 : -r3≤S) (x1:r1 = -S→ab a=S∧((a<0∧0<c)∨(0<a∧c<0))) (x3:r3 = -S→ab b=S∧((b<0∧0<c)∨(0<b∧c<0))):minL (-r1) [-r2,-r3,-r4]<S:=by
  refine Int.not_le.mp fun q=>?_
  obtain ⟨_,m1,_,m3,_⟩:=min4 (-r1) (-r2) (-r3) (-r4)
  obtain ⟨z1,w1⟩:=x1 (by clear x1 x3;omega)
  obtain ⟨z3,w3⟩:=x3 (by clear x1 x3;omega)
  clear x1 x3
  have te:=two_ends h g z1 z3
  omega
theorem q_so {e f a b c d:Int} (h:Wd e f) (k:SpOk e f a b) (g:SpOk e f c d) (hn:¬ (c≤0∧0≤d)) :
    ∃ x y,z28 [.tup [.int e,.int f],.tup [.int (wdR e f a),.int (wdR e f b)],.tup [.int (wdR e f c),.int (wdR e f d)]] = .ok (.tup [.int (wdR e f x),.int (wdR e f y)]) ∧
      Low e f x (pN e f a c) (pD e f a c) (pN e f a d) (pD e f a d) (pN e f b c) (pD e f b c) (pN e f b d) (pD e f b d)∧Low e f (-y) (-(pN e f a c)) (pD e f a c) (-(pN e f a d)) (pD e f a d) (-(pN e f b c)) (pD e f b c) (-(pN e f b d)) (pD e f b d):=by
  have cs:=zb9 h k g
  obtain ⟨k1,k2,k3,k4,k5⟩:=k
  obtain ⟨g1,g2,g3,g4,g5⟩:=g
  have a0 : -(eS e f)≤a∧a≤eS e f∧-(eS e f)≤b∧b≤eS e f∧-(eS e f)≤c∧c≤eS e f∧-(eS e f)≤d∧d≤eS e f∧c≠0∧d≠0:=by omega
  obtain ⟨a0,a1,b0,b1,c0,c1,d0,d1',cz,dz⟩:=a0
  have rc:=zbs (r:=c) h c0 c1
  have rd:=zbs (r:=d) h d0 d1'
  have wk4:WayK 4 "down" 25:=.inr (.inr (.inr (.inr ⟨rfl,rfl,rfl⟩)))
  have wk3:WayK 3 "up" 24:=.inr (.inr (.inr (.inl ⟨rfl,rfl,rfl⟩)))
  obtain ⟨D1,d1,n1,p1,_⟩:=zbc (a:=a) (c:=c) h a0 a1 c0 c1 cz wk4 (.inr rfl)
  obtain ⟨D2,d2,n2,p2',_⟩:=zbc (a:=a) (c:=d) h a0 a1 d0 d1' dz wk4 (.inr rfl)
  obtain ⟨D3,d3,n3,p3,_⟩:=zbc (a:=b) (c:=c) h b0 b1 c0 c1 cz wk4 (.inr rfl)
  obtain ⟨D4,d4,n4,p4,_⟩:=zbc (a:=b) (c:=d) h b0 b1 d0 d1' dz wk4 (.inr rfl)
  obtain ⟨U1,u1,o1,_,r1⟩:=zbc (a:=a) (c:=c) h a0 a1 c0 c1 cz wk3 (.inl rfl)
  obtain ⟨U2,u2,o2,_,r2⟩:=zbc (a:=a) (c:=d) h a0 a1 d0 d1' dz wk3 (.inl rfl)
  obtain ⟨U3,u3,o3,_,r3⟩:=zbc (a:=b) (c:=c) h b0 b1 c0 c1 cz wk3 (.inl rfl)
  obtain ⟨U4,u4,o4,_,r4⟩:=zbc (a:=b) (c:=d) h b0 b1 d0 d1' dz wk3 (.inl rfl)
  obtain ⟨p1,x1⟩:=p1 rfl
  obtain ⟨p2',x2⟩:=p2' rfl
  obtain ⟨p3,x3⟩:=p3 rfl
  obtain ⟨p4,x4⟩:=p4 rfl
  obtain ⟨r1,y1⟩:=r1 rfl
  obtain ⟨r2,y2⟩:=r2 rfl
  obtain ⟨r3,y3⟩:=r3 rfl
  obtain ⟨r4,y4⟩:=r4 rfl
  have q1:=pD_pos (e:=e) (f:=f) (a:=a) (c:=c) cz
  have q2:=pD_pos (e:=e) (f:=f) (a:=a) (c:=d) dz
  have q3:=pD_pos (e:=e) (f:=f) (a:=b) (c:=c) cz
  have q4:=pD_pos (e:=e) (f:=f) (a:=b) (c:=d) dz
  have lt1:=lt_l (r2:=rkW e f D2) (r4:=rkW e f D4) k2 k4 p1.2.1 p3.2.1 x1 x3
  have lt2:=lt_h (r2:=rkW e f U2) (r4:=rkW e f U4) k2 k4 r1.2.1 r3.2.1 y1 y3
  clear x1 x2 x3 x4 y1 y2 y3 y4
  have lo1:=low_min p1 p2' p3 p4 q1 q2 q3 q4 lt1
  have lo2:=low_min r1 r2 r3 r4 q1 q2 q3 q4 lt2
  have mem4:∀ {A B C D:Int},NW e f A→NW e f B→NW e f C→NW e f D→∀ w∈A::[B,C,D],NW e f w:=fun {A B C D} hA hB hC hD w hw=>by
    simp only [List.mem_cons,List.not_mem_nil,or_false] at hw
    rcases hw with rfl | rfl | rfl | rfl
    · exact hA
    · exact hB
    · exact hC
    · exact hD
  have sp:=zc0 (l0:=D1) (ls:=[D2,D3,D4]) (h0:=U1) (hs:=[U2,U3,U4]) h (by simp) (by simp) (mem4 n1 n2 n3 n4) (mem4 o1 o2 o3 o4)
  refine ⟨minL (rkW e f D1) [rkW e f D2,rkW e f D3,rkW e f D4],maxL (rkW e f U1) [rkW e f U2,rkW e f U3,rkW e f U4],?_,lo1,?_⟩
  · simp only [List.map_cons,List.map_nil] at sp
    have d1:=noX_ok d1
    have d2:=noX_ok d2
    have d3:=noX_ok d3
    have d4:=noX_ok d4
    have u1:=noX_ok u1
    have u2:=noX_ok u2
    have u3:=noX_ok u3
    have u4:=noX_ok u4
    generalize wdR e f (minL (rkW e f D1) [rkW e f D2,rkW e f D3,rkW e f D4])=X at *
    generalize wdR e f (maxL (rkW e f U1) [rkW e f U2,rkW e f U3,rkW e f U4])=Y at *
    generalize wdR e f a=A at *
    generalize wdR e f b=B at *
    generalize wdR e f c=C at *
    generalize wdR e f d=D at *
    have co1:∀ v1 v2 v3 v4 v5 v6,compK 7 tTrue (fCall (noX z16) (aCons (fVar 0) (aCons (fVar 7) (aCons (fC (.str "down")) (aNil))))) [some (.tup [.int e,.int f]),v1,v2,v3,v4,v5,v6] [.tup [.int A,.int C],.tup [.int A,.int D],.tup [.int B,.int C],.tup [.int B,.int D]] = .ok (.lst [.int D1,.int D2,.int D3,.int D4]):=fun v1 v2 v3 v4 v5 v6 =>
      compK_ok (by simp) (compL_1 (by dsimp! [padTo,List.cons_append,List.nil_append,d1]) (compL_1 (by dsimp! [padTo,List.cons_append,List.nil_append,d2]) (compL_1 (by dsimp! [padTo,List.cons_append,List.nil_append,d3]) (compL_1 (by dsimp! [padTo,List.cons_append,List.nil_append,d4]) compL_0))))
    have co2:∀ v1 v2 v3 v4 v5 v6,compK 7 tTrue (fCall (noX z16) (aCons (fVar 0) (aCons (fVar 7) (aCons (fC (.str "up")) (aNil))))) [some (.tup [.int e,.int f]),v1,v2,v3,v4,v5,v6] [.tup [.int A,.int C],.tup [.int A,.int D],.tup [.int B,.int C],.tup [.int B,.int D]] = .ok (.lst [.int U1,.int U2,.int U3,.int U4]):=fun v1 v2 v3 v4 v5 v6 =>
      compK_ok (by simp) (compL_1 (by dsimp! [padTo,List.cons_append,List.nil_append,u1]) (compL_1 (by dsimp! [padTo,List.cons_append,List.nil_append,u2]) (compL_1 (by dsimp! [padTo,List.cons_append,List.nil_append,u3]) (compL_1 (by dsimp! [padTo,List.cons_append,List.nil_append,u4]) compL_0))))
    have pe:z1s [.tup [.int A,.int B],.tup [.int C,.int D]] = .ok (.lst [.tup [.int A,.int C],.tup [.int A,.int D],.tup [.int B,.int C],.tup [.int B,.int D]]):=by
      dsimp! [z1s,z6j]
    by_cases z:c≤0
    · have z':¬ 0≤d:=fun q=>hn ⟨z,q⟩
      dsimp! [z28,z5p,List.replicate,List.set,cs,rc,rd,z,z',pe,fComp_e,co1,co2,sp]
    · dsimp! [z28,z5p,List.replicate,List.set,cs,rc,rd,z,pe,fComp_e,co1,co2,sp]
  · rw [max_min,Int.neg_neg]
    exact lo2
theorem q_so0 {e f a b c d:Int} (h:Wd e f) (k:SpOk e f a b) (g:SpOk e f c d) (z1:c≤0) (z2:0≤d) :
    z28 [.tup [.int e,.int f],.tup [.int (wdR e f a),.int (wdR e f b)],.tup [.int (wdR e f c),.int (wdR e f d)]] = .ok (.tup [.int (eS e f+1*p2 (e+f)),.int (eS e f)]):=by
  have cs:=zb9 h k g
  obtain ⟨m1,m3,p3,_⟩:=eS_facts h
  obtain ⟨g1,g2,g3,g4,g5⟩:=g
  have rc:=zbs (r:=c) h (by omega) (by omega)
  have rd:=zbs (r:=d) h (by omega) (by omega)
  have en:=zbb h
  have tu:=z7a (show Wu e f 0 (eS e f) from ⟨h,.inl rfl,by omega,by omega⟩)
  rw [Int.zero_mul,Int.add_zero,Int.sub_zero] at tu
  generalize eS e f+1*p2 (e+f)=X at *
  generalize wdR e f a=A at *
  generalize wdR e f b=B at *
  generalize wdR e f c=C at *
  generalize wdR e f d=D at *
  dsimp! [z28,z5p,List.replicate,List.set,cs,rc,rd,z1,z2,en,tu]
end K84
namespace K86
open PySem Mi Cm
theorem zbn {e f r n k d:Int} (h:Wd e f) (r0 : -(eS e f)≤r) (r1:r≤eS e f) (b1:nb n≤5000) (b2:nb d≤3000) (k0:lp e f - 5000≤k) (k1:k≤10000) :
    z34 [.tup [.int e,.int f],.int r,.tup [.int n,.int k,.int d]] = .ok (.bl (decide (sv f r*amB e f d k≤amX e f n k))):=by
  have st:=zb1 h r0 r1
  have nbs:=nb_sv h r0 r1
  obtain ⟨l1,l2,l3,l4⟩:=lp_bounds h
  obtain ⟨g1,g2,g3,g4⟩:=id h
  have o3:=okShl_1 (b:=e - 1) (by omega) (by omega)
  have le:2 - p2 (e - 1) - f=lp e f:=by unfold lp;omega
  unfold amX amB
  rw [← Int.mul_assoc]
  have om:okMul (sv f r) d:=okMul_of (m:=2200) (n:=3000) nbs b2 (by decide)
  have nm:=nb_mul_le (sv f r) d
  generalize sv f r=S at *
  have hu:((if k<lp e f then k else lp e f)=k∧k<lp e f)∨((if k<lp e f then k else lp e f)=lp e f∧lp e f≤k):=by split<;>omega
  have key:p2 (lp e f - (if k<lp e f then k else lp e f))=p2 (lp e f - k)∧p2 (k - (if k<lp e f then k else lp e f))=p2 (k - lp e f):=by
    rcases hu with ⟨a,b⟩ | ⟨a,b⟩
    · rw [a];exact ⟨rfl,by rw [p2_le0 (a:=k - k) (by omega),p2_le0 (a:=k - lp e f) (by omega)]⟩
    · rw [a];exact ⟨by rw [p2_le0 (a:=lp e f - lp e f) (by omega),p2_le0 (a:=lp e f - k) (by omega)],rfl⟩
  obtain ⟨k2,k3⟩:=key
  generalize hU:(if k<lp e f then k else lp e f)=lo at *
  have o1:okShl (S*d) (lp e f - lo):=okShl_of (n:=5200) (by omega) (by omega) (by omega)
  have o2:okShl n (k - lo):=okShl_of (n:=5000) (by omega) b1 (by omega)
  dsimp! [z34,z7j,List.replicate,List.set,unp,sa_nil,sa_cons,Int.one_mul,o3,le,hU,st,om,o1,o2,k2,k3]
theorem zbm {e f a b n k d:Int} (h:Wd e f) (a0 : -(eS e f)≤a) (a1:a≤eS e f) (b0 : -(eS e f)≤b) (b1:b≤eS e f) (c1:nb n≤5000) (c2:nb d≤3000) (k0:lp e f - 5000≤k) (k1:k≤10000) (hh:Hld e f (amX e f n k) (amB e f d k) a b) :
    z1n [.tup [.int e,.int f],.tup [.int (wdR e f a),.int (wdR e f b)],.tup [.int n,.int k,.int d]] = .ok (.bl true):=by
  have n1:=zbn (n:=n) h a0 a1 (by omega) c2 k0 k1
  have n2:=zbn (n:=0 - n) (r:=0 - b) h (by omega) (by omega) (by rw [Int.zero_sub,nb_neg];omega) c2 k0 k1
  have nx:amX e f (0 - n) k = -(amX e f n k):=by unfold amX;rw [Int.zero_sub,Int.neg_mul]
  rw [nx,Int.zero_sub,sv_neg,Int.neg_mul] at n2
  have e2:decide (-(sv f b*amB e f d k)≤-(amX e f n k))=decide (amX e f n k≤sv f b*amB e f d k):=by
    by_cases c:amX e f n k≤sv f b*amB e f d k
    · rw [decide_eq_true c,decide_eq_true (by omega)]
    · rw [decide_eq_false c,decide_eq_false (by omega)]
  rw [e2] at n2
  have r1:=z1t h a0 a1
  have r2:=z1t h b0 b1
  obtain ⟨p1,_⟩:=p2_wd h
  have p8:=(p2_wd h).2.2.2.2.2.2.2.2.2.2
  obtain ⟨g1,g2,g3,g4⟩:=id h
  have o2:=okShl_1 (b:=e) (by omega) (by omega)
  have o5:okShl (p2 e - 1) f:=okShl_of (n:=12) (by omega) (nb_le (by omega)) (by omega)
  have hS:(p2 e - 1)*p2 f=eS e f:=rfl
  have z1:(0:Int) - b = -b:=by omega
  unfold Hld at hh
  obtain ⟨ha,hb⟩:=hh
  generalize amX e f n k=X at *
  generalize sv f a*amB e f d k=Y1 at *
  generalize sv f b*amB e f d k=Y2 at *
  generalize wdR e f a=A at *
  generalize wdR e f b=B at *
  by_cases ca:a = -(eS e f)
  · have ng:¬ a > 0 - eS e f:=by omega
    by_cases cb:b=eS e f
    · have cb':=eq_true cb
      dsimp! [z1n,z45,List.replicate,List.set,Int.one_mul,o2,o5,hS,r1,r2,ng,cb',decide_true]
    · have hy:X≤Y2:=by rcases hb with z | z<;>omega
      rw [decide_eq_true hy] at n2
      dsimp! [z1n,z45,List.replicate,List.set,Int.one_mul,o2,o5,hS,r1,r2,ng,cb,z1,n2]
  · have ng:a > 0 - eS e f:=by omega
    have hy1:Y1≤X:=by rcases ha with z | z<;>omega
    rw [decide_eq_true hy1] at n1
    by_cases cb:b=eS e f
    · have cb':=eq_true cb
      dsimp! [z1n,z45,List.replicate,List.set,Int.one_mul,o2,o5,hS,r1,r2,ng,n1,cb',decide_true]
    · have hy:X≤Y2:=by rcases hb with z | z<;>omega
      rw [decide_eq_true hy] at n2
      dsimp! [z1n,z45,List.replicate,List.set,Int.one_mul,o2,o5,hS,r1,r2,ng,n1,cb,z1,n2]
theorem min2 (x y:Int):∃ m,bMin1 [.tup [.int x,.int y]] = .ok (.int m)∧(m=x∨m=y)∧m≤x∧m≤y:=by
  refine ⟨_,rfl,?_,?_,?_⟩<;>(show _<;>simp only [minL];split<;>omega)
theorem max2 (x y:Int):∃ m,bMax1 [.tup [.int x,.int y]] = .ok (.int m)∧(m=x∨m=y)∧x≤m∧y≤m:=by
  refine ⟨_,rfl,?_,?_,?_⟩<;>(show _<;>simp only [maxL];split<;>omega)
theorem fChain3_e (o1 o2 o3:PV→PV→R PV) (a b c d:FE) (x0:Option PV) (ρ0:MEnv):fChain3 o1 o2 o3 a b c d (x0::ρ0)=(a (x0::ρ0)).bind fun x=>(b (x0::ρ0)).bind fun y=>(o1 x y).bind fun r=>(oBool r).bind fun k =>
  if k then (c (x0::ρ0)).bind fun z=>(o2 y z).bind fun r2=>(oBool r2).bind fun k2=>if k2 then (d (x0::ρ0)).bind fun w=>o3 z w else .ok (.bl false) else .ok (.bl false):=rfl
theorem zbk {e f r q:Int} (h:Wd e f) (sp:SpOk e f r q):z23 [.tup [.int e,.int f],.tup [.int (wdR e f r),.int (wdR e f q)]] = .ok (.bl true):=by
  obtain ⟨t1,t2,t3,t4,t5⟩:=id sp
  obtain ⟨m1,m3,p3,_⟩:=eS_facts h
  obtain ⟨w1,w2,w3,w4⟩:=wdR_facts h t1 (by omega)
  obtain ⟨v1,v2,v3,v4⟩:=wdR_facts h (show -(eS e f)≤q by omega) t5
  have k1:=z1t h t1 (by omega)
  have k2:=z1t h (show -(eS e f)≤q by omega) t5
  have wl1:wdR e f r≤p2 (e+f)+eS e f:=by unfold wdR ab;split<;>(try split)<;>omega
  have wl2:wdR e f q≤p2 (e+f)+eS e f:=by unfold wdR ab;split<;>(try split)<;>omega
  obtain ⟨mn,emn,mn1,_,_⟩:=min2 (wdR e f r) (wdR e f q)
  obtain ⟨mx,emx,mx1,_,_⟩:=max2 (wdR e f r) (wdR e f q)
  have g1:¬ mn<0:=by omega
  have g2:¬ mx > p2 (e+f)+eS e f:=by omega
  have ii:=in2i (p2 (e+f)) (wdR e f r) (wdR e f q)
  have ib:((wdR e f r == p2 (e+f)) || ((wdR e f q == p2 (e+f)) || false))=false:=by simp [w3,v3]
  rw [ib] at ii
  have wh:=z9q
  have c22:((2:Nat):Int)=2:=rfl
  obtain ⟨p1,_⟩:=p2_wd h
  have p8:=(p2_wd h).2.2.2.2.2.2.2.2.2.2
  obtain ⟨g1',g2',g3',g4'⟩:=id h
  have o1:=okShl_1 (b:=e+f) (by omega) (by omega)
  have o2:=okShl_1 (b:=e) (by omega) (by omega)
  have o5:okShl (p2 e - 1) f:=okShl_of (n:=12) (by omega) (nb_le (by omega)) (by omega)
  have hS:(p2 e - 1)*p2 f=eS e f:=rfl
  have a1:0 - eS e f≤r:=by omega
  have a4:q > 0 - eS e f:=by omega
  generalize wdR e f r=A at *
  generalize wdR e f q=B at *
  dsimp! [z23,z7i,List.replicate,List.set,Int.one_mul,o1,o2,o5,hS,c22,wh,decide_true,Bool.not_true,emn,emx,g1,g2,ii,k1,k2,fChain3_e,a1,t3,t5,t2,a4,if_true]
theorem notT (b:Bool):cNotT (.bl b) = .ok (.bl (!b)):=rfl
theorem z58 {e f a b n k d:Int} (h:Wd e f) (sp:SpOk e f a b) (hd:0<d) (c1:nb n≤5000) (c2:nb d≤3000) (k0:lp e f - 5000≤k) (k1:k≤10000) (hh:Hld e f (amX e f n k) (amB e f d k) a b) :
    z33 [.tup [.int e,.int f],.tup [.int e,.int f],.tup [.int (wdR e f a),.int (wdR e f b)],.tup [.int n,.int k,.int d]] = .ok (.bl true):=by
  have pB:=amB_pos (e:=e) (f:=f) (k:=k) hd
  obtain ⟨y,hq,iy⟩:=z9a (n:=n) (k:=k) (d:=d) h sp hd c1 c2 k0 k1
  have yt:=iy.mpr hh
  subst yt
  have l1:=zbm h sp.l0 (by have:=sp.l1;omega) (by have:=sp.h0;omega) sp.h1 c1 c2 k0 k1 hh
  obtain ⟨r,q,so,sp2,d1,d2⟩:=z9l (n:=n) (k:=k) (d:=d) h hd c1 c2 k0 k1
  have hold2:Hld e f (amX e f n k) (amB e f d k) r q:=by
    refine ⟨d1.2.2.1,?_⟩
    rcases d2.2.2.1 with z | z
    · exact .inl (by omega)
    · rw [sv_neg,Int.neg_mul] at z;exact .inr (by omega)
  have l2:=zbm h sp2.l0 (by have:=sp2.l1;omega) (by have:=sp2.h0;omega) sp2.h1 c1 c2 k0 k1 hold2
  have is2:=zbk h sp2
  have ra:=z1t h sp.l0 (by have:=sp.l1;omega)
  have rb:=z1t h (show -(eS e f)≤b by have:=sp.h0;omega) sp.h1
  have rr:=z1t h sp2.l0 (by have:=sp2.l1;omega)
  have rq:=z1t h (show -(eS e f)≤q by have:=sp2.h0;omega) sp2.h1
  have up:∀ {x y:Int},x<y→sv f x*amB e f d k<sv f y*amB e f d k:=fun {x y} z=>Int.mul_lt_mul_of_pos_right (sv_lt z) pB
  have upl:∀ {x y:Int},x≤y→sv f x*amB e f d k≤sv f y*amB e f d k:=fun {x y} z=>Int.mul_le_mul_of_nonneg_right (sv_le z) (Int.le_of_lt pB)
  have g1:¬ r<a:=by
    intro z
    have s1:=sp.l1
    have s2:=sp2.l0
    rcases hh.1 with w | w
    · omega
    · rcases d1.2.2.2 with v | v
      · omega
      · have:=upl (show r+1≤a by omega);omega
  have g2:q≤b:=by
    apply Decidable.byContradiction
    intro z
    have s1:=sp.h0
    have s2:=sp2.h1
    rcases hh.2 with w | w
    · omega
    · rcases d2.2.2.2 with v | v
      · omega
      · rw [show -q+1 = -(q - 1) by omega,sv_neg,Int.neg_mul] at v
        have:=upl (show b≤q - 1 by omega);omega
  generalize wdR e f a=A at *
  generalize wdR e f b=B at *
  generalize wdR e f r=R' at *
  generalize wdR e f q=Q at *
  dsimp! [z33,z7h,List.replicate,List.set,hq,notT,Bool.not_true,l1,so,is2,l2,ra,rb,rr,rq,g1,g2,decide_true]
theorem nb_between {x lo hi:Int}{m:Nat} (h0:lo≤x) (h1:x≤hi) (a:nb lo≤m) (b:nb hi≤m):nb x≤m:=by
  rw [nb_le_iff] at a b ⊢
  generalize 2 ^ m=M at *
  omega
theorem div_between {D p:Int} (D0:0≤D) (p0:0≤p) (p1:p≤256):0≤D*p / 256∧D*p / 256≤D:=by
  have a:=Int.mul_nonneg D0 p0
  have b:=Int.mul_le_mul_of_nonneg_left p1 D0
  exact ⟨Int.ediv_nonneg a (by decide),Int.ediv_le_of_le_mul (by decide) b⟩
theorem zbq {e f a b p:Int} (h:Wd e f) (sp:SpOk e f a b):∃ x,z1o [.tup [.int e,.int f],.tup [.int a,.int b],.int p] = .ok (.int x)∧Hld e f x 256 a b∧nb x≤2214:=by
  obtain ⟨t1,t2,t3,t4,t5⟩:=id sp
  obtain ⟨m1,m3,p3,_⟩:=eS_facts h
  have s1:=zb1 h t1 (by omega)
  have s2:=zb1 h (show -(eS e f)≤b by omega) t5
  have s3:=zb1 h (show -(eS e f)≤eS e f by omega) (Int.le_refl _)
  have n1:=nb_sv h t1 (by omega)
  have n2:=nb_sv h (show -(eS e f)≤b by omega) t5
  have n3:=nb_sv h (show -(eS e f)≤eS e f by omega) (Int.le_refl _)
  have T0:=sv_pos (f:=f) (show 0<eS e f by omega)
  have le:=sv_le (f:=f) t3
  obtain ⟨p1,_⟩:=p2_wd h
  have p8:=(p2_wd h).2.2.2.2.2.2.2.2.2.2
  obtain ⟨g1,g2,g3,g4⟩:=id h
  have o2:=okShl_1 (b:=e) (by omega) (by omega)
  have o5:okShl (p2 e - 1) f:=okShl_of (n:=12) (by omega) (nb_le (by omega)) (by omega)
  have hS:(p2 e - 1)*p2 f=eS e f:=rfl
  have e8:p2 8=256:=by decide
  have e9:p2 9=512:=by decide
  have os1:okShl (sv f a) 8:=okShl_of (n:=2200) (by decide) n1 (by decide)
  have os2:okShl (sv f b) 8:=okShl_of (n:=2200) (by decide) n2 (by decide)
  have os3:okShl (sv f (eS e f)) 9:=okShl_of (n:=2200) (by decide) n3 (by decide)
  have q0:=Int.emod_nonneg p (show (257:Int)≠0 by decide)
  have q1:=Int.emod_lt_of_pos p (show (0:Int)<257 by decide)
  have o257:okMod (257:Int):=by show (0:Int)<257;decide
  have m1':nb (sv f a*256)≤2209:=by have:=nb_mul_le (sv f a) 256;have:nb 256=9:=(by decide);omega
  have m2':nb (sv f b*256)≤2209:=by have:=nb_mul_le (sv f b) 256;have:nb 256=9:=(by decide);omega
  have m3':nb (sv f (eS e f)*512)≤2210:=by have:=nb_mul_le (sv f (eS e f)) 512;have:nb 512=10:=(by decide);omega
  unfold Hld
  generalize sv f a=A at *
  generalize sv f b=B at *
  generalize sv f (eS e f)=T at *
  have om:∀ x:Int,okMul x (p % 257):=fun x=>okMul_r (Int.lt_of_lt_of_le (by decide) q0) (Int.lt_trans q1 (by decide))
  have od:okDiv (256:Int):=okDiv_s (by decide) (by decide)
  have n0:nb (0:Int)≤2210:=by decide
  have fin:∀ lo hi:Int,lo≤hi→nb lo≤2214→nb hi≤2214→lo≤lo+(hi - lo)*(p % 257) / 256∧lo+(hi - lo)*(p % 257) / 256≤hi∧nb (lo+(hi - lo)*(p % 257) / 256)≤2214:=fun lo hi hl a b=>by
    obtain ⟨x1,x2⟩:=div_between (D:=hi - lo) (p:=p % 257) (by omega) q0 (by omega)
    generalize (hi - lo)*(p % 257) / 256=z at *
    exact ⟨by omega,by omega,nb_between (lo:=lo) (hi:=hi) (by omega) (by omega) a b⟩
  by_cases ca:a=0 - eS e f
  · have ca':=eq_true ca
    obtain ⟨lo,elo,lo1,lo2⟩:∃ lo,(if 0<B*256 then 0 else B*256) - T*512=lo∧lo≤B*256∧nb lo≤2211:=by
      refine ⟨_,rfl,by split<;>omega,nb_sub ?_ m3'⟩
      split
      · exact n0
      · omega
    by_cases cb:b=eS e f
    · have cb':=eq_true cb
      obtain ⟨hi,ehi,hi1,hi2⟩:∃ hi,(if 0 > lo then 0 else lo)+T*512=hi∧lo≤hi∧nb hi≤2212:=by
        refine ⟨_,rfl,by split<;>omega,nb_add (m:=2211) ?_ (by omega)⟩
        split
        · have:nb (0:Int)=0:=rfl
          omega
        · exact lo2
      obtain ⟨f1,f2,f3⟩:=fin lo hi hi1 (by omega) (by omega)
      refine ⟨_,?_,⟨.inl (by omega),.inl cb⟩,f3⟩
      dsimp! [z1o,z46,List.replicate,List.set,Int.one_mul,o2,o5,hS,s1,s2,s3,os1,os2,os3,e8,e9,ca',cb',decide_true,elo,ehi,o257,om,od]
    · obtain ⟨f1,f2,f3⟩:=fin lo (B*256) lo1 (by omega) (by omega)
      refine ⟨_,?_,⟨.inl (by omega),.inr f2⟩,f3⟩
      dsimp! [z1o,z46,List.replicate,List.set,Int.one_mul,o2,o5,hS,s1,s2,s3,os1,os2,os3,e8,e9,ca',cb,decide_true,elo,o257,om,od]
  · by_cases cb:b=eS e f
    · have cb':=eq_true cb
      obtain ⟨hi,ehi,hi1,hi2⟩:∃ hi,(if 0 > A*256 then 0 else A*256)+T*512=hi∧A*256≤hi∧nb hi≤2212:=by
        refine ⟨_,rfl,by split<;>omega,nb_add (m:=2211) ?_ (by omega)⟩
        split
        · have:nb (0:Int)=0:=rfl
          omega
        · omega
      obtain ⟨f1,f2,f3⟩:=fin (A*256) hi hi1 (by omega) (by omega)
      refine ⟨_,?_,⟨.inr f1,.inl cb⟩,f3⟩
      dsimp! [z1o,z46,List.replicate,List.set,Int.one_mul,o2,o5,hS,s1,s2,s3,os1,os2,os3,e8,e9,ca,cb',decide_true,ehi,o257,om,od]
    · obtain ⟨f1,f2,f3⟩:=fin (A*256) (B*256) (by omega) (by omega) (by omega)
      refine ⟨_,?_,⟨.inr f1,.inr f2⟩,f3⟩
      dsimp! [z1o,z46,List.replicate,List.set,Int.one_mul,o2,o5,hS,s1,s2,s3,os1,os2,os3,e8,e9,ca,cb,o257,om,od]
theorem hld_neg {e f X B a b:Int} (h:Hld e f X B a b):Hld e f (-X) B (-b) (-a):=by
  obtain ⟨h1,h2⟩:=h
  refine ⟨?_,?_⟩
  · rcases h2 with z | z
    · exact .inl (by omega)
    · right;rw [sv_neg,Int.neg_mul];omega
  · rcases h1 with z | z
    · exact .inl (by omega)
    · right;rw [sv_neg,Int.neg_mul];omega
theorem lo_sum {e f r a b c d x y:Int} (l:K82.Lo e f r a c) (hx:Hld e f x 256 a b) (hy:Hld e f y 256 c d):r = -(eS e f)∨sv f r*256≤x+y:=by
  obtain ⟨l0,l1,l2,l3⟩:=l
  by_cases ca:a = -(eS e f)
  · exact .inl (l2 (.inl ca))
  · by_cases cc:c = -(eS e f)
    · exact .inl (l2 (.inr cc))
    · have D:=(l3 ca cc).2.2.1
      rcases D with z | z
      · exact .inl z
      · have x1:=hx.1
        have y1:=hy.1
        right
        rcases x1 with w | w
        · exact absurd w ca
        · rcases y1 with v | v
          · exact absurd v cc
          · omega
theorem sum_hld {e f p q a b c d x y:Int} (l:K82.Lo e f p a c) (m:K82.Lo e f (-q) (-b) (-d)) (hx:Hld e f x 256 a b) (hy:Hld e f y 256 c d):Hld e f (x+y) 256 p q∧SpOk e f p q:=by
  have l1:=lo_sum l hx hy
  have m1:=lo_sum m (hld_neg hx) (hld_neg hy)
  rw [sv_neg,Int.neg_mul] at m1
  refine ⟨⟨l1,?_⟩,⟨l.1,l.2.1,?_,?_,?_⟩⟩
  · rcases m1 with z | z
    · exact .inl (by omega)
    · exact .inr (by omega)
  · apply Decidable.byContradiction
    intro z
    have s:=sv_lt (f:=f) (show q<p by omega)
    have u1:=l.1
    have u2:=m.1
    have u3:=l.2.1
    have u4:=m.2.1
    rcases l1 with w | w<;>rcases m1 with v | v<;>omega
  · have:=m.2.1;omega
  · have:=m.1;omega
theorem hld_sp {e f X B p q:Int} (hB:0<B) (h:Hld e f X B p q) (p0 : -(eS e f)≤p) (p1:p<eS e f) (q0 : -(eS e f)<q) (q1:q≤eS e f):SpOk e f p q:=by
  refine ⟨p0,p1,?_,q0,q1⟩
  apply Decidable.byContradiction
  intro z
  have s:=Int.mul_lt_mul_of_pos_right (sv_lt (f:=f) (show q<p by omega)) hB
  rcases h.1 with w | w<;>rcases h.2 with v | v<;>omega
theorem prod_p {e f m a b c d x y:Int} (k:SpOk e f a b) (g:SpOk e f c d) (hx:Hld e f x 256 a b) (hy:Hld e f y 256 c d) (y0:0≤y) (m1:m≤K83.Xp e f a c) (m2:m≤K83.Xp e f a d) :
    m≤-(K83.far e f)∨m*65536≤x*y:=by
  obtain ⟨k1,k2,k3,k4,k5⟩:=k
  obtain ⟨g1,g2,g3,g4,g5⟩:=g
  have S0:0<eS e f:=by omega
  have xp:∀ u v:Int,(ab u=eS e f∨ab v=eS e f)→(((0<u∧v<0)∨(u<0∧0<v))→K83.Xp e f u v = -(K83.far e f))∧((u=0∨v=0)→K83.Xp e f u v=0):=fun u v huv=>by
    obtain ⟨w1,w2⟩:=K83.svv (f:=f) (a:=u) (c:=v)
    unfold K83.Xp
    rw [if_pos huv]
    refine ⟨fun z=>?_,fun z=>?_⟩
    · have n:=w2.mpr z
      rw [if_neg (by omega),if_pos n]
    · have:sv f u*sv f v=0:=by
        rcases z with z | z
        · rw [z,sv_0,Int.zero_mul]
        · rw [z,sv_0,Int.mul_zero]
      rw [if_neg (by omega),if_neg (by omega)]
  have xf:∀ u v:Int,ab u≠eS e f→ab v≠eS e f→K83.Xp e f u v=sv f u*sv f v:=fun u v hu hv=>by
    unfold K83.Xp;rw [if_neg (by omega)]
  have svd:∀ {t r:Int},0≤t→t≤sv f r*256→0≤r:=fun {t r} h1 h2=>by
    apply Decidable.byContradiction
    intro z
    have:=(K83.sv_sg (f:=f) (r:=r)).2.mpr (by omega)
    omega
  have d0:0≤d:=by
    rcases hy.2 with z | z
    · omega
    · exact svd y0 z
  by_cases ca:a = -(eS e f)
  · have aa:ab a=eS e f:=by unfold ab;split<;>omega
    by_cases dz:d=0
    · have e1:=(xp a d (.inl aa)).2 (.inr dz)
      have yz:y=0:=by
        rcases hy.2 with z | z
        · omega
        · rw [dz,sv_0] at z;omega
      right;rw [yz,Int.mul_zero];omega
    · have e1:=(xp a d (.inl aa)).1 (.inr ⟨by omega,by omega⟩)
      left;omega
  · have xa:sv f a*256≤x:=by
      rcases hx.1 with z | z
      · exact absurd z ca
      · exact z
    have aa:ab a≠eS e f:=by unfold ab;split<;>omega
    have xy:sv f a*256*y≤x*y:=Int.mul_le_mul_of_nonneg_right xa y0
    by_cases a0:0≤a
    · have sa:=(K83.sv_sg (f:=f) (r:=a)).2
      have sa0:0≤sv f a:=by
        apply Decidable.byContradiction
        intro z;have:=sa.mp (by omega);omega
      by_cases cc:c = -(eS e f)
      · have ac:ab c=eS e f:=by unfold ab;split<;>omega
        by_cases az:a=0
        · have e1:=(xp a c (.inr ac)).2 (.inl az)
          right
          rw [az,sv_0] at xy
          omega
        · have e1:=(xp a c (.inr ac)).1 (.inl ⟨by omega,by omega⟩)
          left;omega
      · have yc:sv f c*256≤y:=by
          rcases hy.1 with z | z
          · exact absurd z cc
          · exact z
        have ac:ab c≠eS e f:=by unfold ab;split<;>omega
        rw [xf a c aa ac] at m1
        right
        have:=Int.mul_le_mul_of_nonneg_left yc (show 0≤sv f a*256 by omega)
        have e2:sv f a*256*(sv f c*256)=sv f a*sv f c*65536:=by
          rw [Int.mul_assoc,Int.mul_left_comm 256,← Int.mul_assoc,← Int.mul_assoc]
          rw [Int.mul_assoc (sv f a*sv f c)]
          rfl
        omega
    · have sa:=(K83.sv_sg (f:=f) (r:=a)).2.mpr (by omega)
      by_cases cd:d=eS e f
      · have ad:ab d=eS e f:=by rw [cd];unfold ab;split<;>omega
        have e1:=(xp a d (.inr ad)).1 (.inr ⟨by omega,by omega⟩)
        left;omega
      · have yd:y≤sv f d*256:=by
          rcases hy.2 with z | z
          · exact absurd z cd
          · exact z
        have ad:ab d≠eS e f:=by unfold ab;split<;>omega
        rw [xf a d aa ad] at m2
        right
        have:=Int.mul_le_mul_of_nonpos_left (show sv f a*256≤0 by omega) yd
        have e2:sv f a*256*(sv f d*256)=sv f a*sv f d*65536:=by
          rw [Int.mul_assoc,Int.mul_left_comm 256,← Int.mul_assoc,← Int.mul_assoc]
          rw [Int.mul_assoc (sv f a*sv f d)]
          rfl
        omega
theorem sp_neg {e f a b:Int} (k:SpOk e f a b):SpOk e f (-b) (-a):=by
  obtain ⟨k1,k2,k3,k4,k5⟩:=k
  constructor<;>omega
theorem xp_nn {e f a c:Int}:K83.Xp e f (-a) (-c)=K83.Xp e f a c:=by
  rw [K83.xp_neg,K83.xp_comm,K83.xp_neg,K83.xp_comm]
  omega
theorem prod_m {e f m a b c d x y:Int} (k:SpOk e f a b) (g:SpOk e f c d) (hx:Hld e f x 256 a b) (hy:Hld e f y 256 c d) (m1:m≤K83.Xp e f a c) (m2:m≤K83.Xp e f a d) (m3:m≤K83.Xp e f b c) (m4:m≤K83.Xp e f b d) :
    m≤-(K83.far e f)∨m*65536≤x*y:=by
  by_cases y0:0≤y
  · exact prod_p k g hx hy y0 m1 m2
  · have:=prod_p (x:=-x) (y:=-y) (m:=m) (sp_neg k) (sp_neg g) (hld_neg hx) (hld_neg hy) (by omega) (by rw [xp_nn];exact m4) (by rw [xp_nn];exact m3)
    rw [Int.neg_mul_neg] at this
    exact this
theorem prod_hld {e f p q a b c d x y:Int} (h:Wd e f) (k:SpOk e f a b) (g:SpOk e f c d) (hx:Hld e f x 256 a b) (hy:Hld e f y 256 c d)
    (l:Dn e f (K83.mn e f a b c d) (K83.mo e f) p) (m:Dn e f (-(K83.mx e f a b c d)) (K83.mo e f) (-q)):Hld e f (x*y) (65536*K83.mo e f) p q∧SpOk e f p q:=by
  have pm:0<K83.mo e f:=p2_pos _
  have low:∀ {M r x y a b c d:Int},SpOk e f a b→SpOk e f c d→Hld e f x 256 a b→Hld e f y 256 c d→M≤K83.Xp e f a c→M≤K83.Xp e f a d→M≤K83.Xp e f b c→M≤K83.Xp e f b d→Dn e f M (K83.mo e f) r→r = -(eS e f)∨sv f r*(65536*K83.mo e f)≤x*y:=fun {M r x y a b c d} k g hx hy m1 m2 m3 m4 D=>by
    rcases prod_m k g hx hy m1 m2 m3 m4 with z | z
    · left
      have:=dn_mono pm z D (K83.dn_far h)
      have:=D.1
      omega
    · rcases D.2.2.1 with w | w
      · exact .inl w
      · right
        have e1:sv f r*(65536*K83.mo e f)=sv f r*K83.mo e f*65536:=by rw [Int.mul_comm 65536,Int.mul_assoc]
        rw [e1];omega
  have mn4:=K84.min4 (K83.Xp e f a c) (K83.Xp e f a d) (K83.Xp e f b c) (K83.Xp e f b d)
  have l1:=low k g hx hy mn4.2.1 mn4.2.2.1 mn4.2.2.2.1 mn4.2.2.2.2 l
  rw [K83.mx_mn] at m
  have mn5:=K84.min4 (K83.Xp e f (-b) c) (K83.Xp e f (-b) d) (K83.Xp e f (-a) c) (K83.Xp e f (-a) d)
  have l2:=low (sp_neg k) g (hld_neg hx) hy mn5.2.1 mn5.2.2.1 mn5.2.2.2.1 mn5.2.2.2.2 m
  rw [sv_neg,Int.neg_mul,Int.neg_mul] at l2
  have H:Hld e f (x*y) (65536*K83.mo e f) p q:=⟨l1,by
    rcases l2 with z | z
    · exact .inl (by omega)
    · exact .inr (by omega)⟩
  exact ⟨H,hld_sp (by omega) H l.1 l.2.1 (by have:=m.2.1;omega) (by have:=m.1;omega)⟩
theorem pN_neg {e f a c:Int}:K84.pN e f (-a) c = -(K84.pN e f a c)∧K84.pD e f (-a) c=K84.pD e f a c:=by
  unfold K84.pN K84.pD K84.pT
  rw [ab_neg',sv_neg]
  refine ⟨?_,rfl⟩
  split
  · omega
  · split<;>split<;>omega
theorem pN_nn {e f a c:Int} (cz:c≠0):K84.pN e f (-a) (-c)=K84.pN e f a c∧K84.pD e f (-a) (-c)=K84.pD e f a c:=by
  unfold K84.pN K84.pD K84.pT
  rw [ab_neg',ab_neg',sv_neg]
  refine ⟨?_,rfl⟩
  split
  · rfl
  · split
    · by_cases z:c<0
      · rw [if_neg (by omega),if_pos z];omega
      · rw [if_pos (by omega),if_neg z];omega
    · by_cases z:c<0
      · rw [if_neg (by omega),if_pos z];omega
      · rw [if_pos (by omega),if_neg z];omega
theorem quo_p {e f r a b c d x y:Int} (k:SpOk e f a b) (g:SpOk e f c d) (c0:0<c) (hx:Hld e f x 256 a b) (hy:Hld e f y 256 c d) (r0 : -(eS e f)<r)
    (F1:sv f r*K84.pD e f a c≤K84.pN e f a c*K84.mo e f) (F2:sv f r*K84.pD e f a d≤K84.pN e f a d*K84.mo e f):sv f r*y≤x*K84.mo e f:=by
  obtain ⟨k1,k2,k3,k4,k5⟩:=k
  obtain ⟨g1,g2,g3,g4,g5⟩:=g
  have pm:0<K84.mo e f:=p2_pos _
  have ac:ab c≠eS e f:=by unfold ab;split<;>omega
  have yc:sv f c*256≤y:=by
    rcases hy.1 with z | z
    · omega
    · exact z
  have sc:0<sv f c:=sv_pos c0
  have dc:stU f (ab c)=sv f c:=by rw [ab_of (by omega),sv_p (by omega)]
  by_cases ca:a = -(eS e f)
  · exfalso
    have aa:ab a=eS e f:=by unfold ab;split<;>omega
    unfold K84.pD K84.pN K84.pT at F1
    rw [if_neg ac,if_pos aa,if_neg ac,if_pos aa,if_neg (by omega)] at F1
    have s1:=sv_lt (f:=f) r0
    rw [← ca] at s1
    have s2:sv f a<0:=(K83.sv_sg (f:=f) (r:=a)).2.mpr (by omega)
    have s3:sv f a*4*K84.mo e f≤sv f a*4*1:=Int.mul_le_mul_of_nonpos_left (by omega) (by omega)
    omega
  · have xa:sv f a*256≤x:=by
      rcases hx.1 with z | z
      · exact absurd z ca
      · exact z
    have aa:ab a≠eS e f:=by unfold ab;split<;>omega
    unfold K84.pD K84.pN K84.pT at F1
    rw [if_neg ac,if_neg aa,if_neg ac,if_neg aa,if_neg (show ¬ c<0 by omega),dc] at F1
    have xm:sv f a*256*K84.mo e f≤x*K84.mo e f:=Int.mul_le_mul_of_nonneg_right xa (Int.le_of_lt pm)
    have sh:∀ u v:Int,u*256*v=u*v*256:=fun u v=>by rw [Int.mul_right_comm]
    by_cases sr:sv f r≤0
    · have t1:=Int.mul_le_mul_of_nonpos_left sr yc
      have e1:sv f r*(sv f c*256)=sv f r*sv f c*256:=by rw [Int.mul_assoc]
      rw [sh] at xm
      omega
    · by_cases cd:d=eS e f
      · have ad:ab d=eS e f:=by rw [cd];unfold ab;split<;>omega
        unfold K84.pD K84.pN at F2
        rw [if_pos ad,if_pos ad] at F2
        omega
      · have yd:y≤sv f d*256:=by
          rcases hy.2 with z | z
          · exact absurd z cd
          · exact z
        have ad:ab d≠eS e f:=by unfold ab;split<;>omega
        have dd:stU f (ab d)=sv f d:=by rw [ab_of (by omega),sv_p (by omega)]
        unfold K84.pD K84.pN K84.pT at F2
        rw [if_neg ad,if_neg aa,if_neg ad,if_neg aa,if_neg (show ¬ d<0 by omega),dd] at F2
        have t1:=Int.mul_le_mul_of_nonneg_left yd (show 0≤sv f r by omega)
        have e1:sv f r*(sv f d*256)=sv f r*sv f d*256:=by rw [Int.mul_assoc]
        rw [sh] at xm
        omega
theorem quo_c {e f p q a b c d x y:Int} (k:SpOk e f a b) (g:SpOk e f c d) (c0:0<c) (hx:Hld e f x 256 a b) (hy:Hld e f y 256 c d)
    (l0 : -(eS e f)≤p) (l1:p<eS e f) (m0 : -(eS e f)<q) (m1:q≤eS e f)
    (L : -(eS e f)<p→sv f p*K84.pD e f a c≤K84.pN e f a c*K84.mo e f∧sv f p*K84.pD e f a d≤K84.pN e f a d*K84.mo e f)
    (M : -(eS e f) < -q→sv f (-q)*K84.pD e f b c≤-(K84.pN e f b c)*K84.mo e f∧sv f (-q)*K84.pD e f b d≤-(K84.pN e f b d)*K84.mo e f):0<y∧Hld e f (x*K84.mo e f) y p q∧SpOk e f p q:=by
  have sc:0<sv f c:=sv_pos c0
  have y0:0<y:=by
    have:=g.l1
    rcases hy.1 with z | z
    · have:=g.l0;omega
    · omega
  have H:Hld e f (x*K84.mo e f) y p q:=by
    refine ⟨?_,?_⟩
    · by_cases z:p = -(eS e f)
      · exact .inl z
      · obtain ⟨f1,f2⟩:=L (by omega)
        exact .inr (quo_p k g c0 hx hy (by omega) f1 f2)
    · by_cases z:q=eS e f
      · exact .inl z
      · obtain ⟨f1,f2⟩:=M (by omega)
        have:=quo_p (r:=-q) (sp_neg k) g c0 (hld_neg hx) hy (by omega) (by rw [pN_neg.1,pN_neg.2];exact f1) (by rw [pN_neg.1,pN_neg.2];exact f2)
        rw [sv_neg,Int.neg_mul,Int.neg_mul] at this
        exact .inr (by omega)
  exact ⟨y0,H,hld_sp y0 H l0 l1 m0 m1⟩
theorem quo_hld {e f p q a b c d x y:Int} (k:SpOk e f a b) (g:SpOk e f c d) (hn:¬ (c≤0∧0≤d)) (hx:Hld e f x 256 a b) (hy:Hld e f y 256 c d)
    (L:K84.Low e f p (K84.pN e f a c) (K84.pD e f a c) (K84.pN e f a d) (K84.pD e f a d) (K84.pN e f b c) (K84.pD e f b c) (K84.pN e f b d) (K84.pD e f b d))
    (M:K84.Low e f (-q) (-(K84.pN e f a c)) (K84.pD e f a c) (-(K84.pN e f a d)) (K84.pD e f a d) (-(K84.pN e f b c)) (K84.pD e f b c) (-(K84.pN e f b d)) (K84.pD e f b d)) :
    SpOk e f p q∧((0<y∧Hld e f (x*K84.mo e f) y p q)∨(y<0∧Hld e f (-x*K84.mo e f) (-y) p q)):=by
  have l0:=L.r0
  have l1:=L.r1
  have m0:=M.r0
  have m1:=M.r1
  by_cases c0:0<c
  · obtain ⟨y0,H,sp⟩:=quo_c (p:=p) (q:=q) k g c0 hx hy l0 l1 (by omega) (by omega) (fun z=>⟨(L.lo z).1,(L.lo z).2.1⟩) (fun z=>⟨(M.lo z).2.2.1,(M.lo z).2.2.2⟩)
    exact ⟨sp,.inl ⟨y0,H⟩⟩
  · have d0:d<0:=by omega
    have cz:c≠0:=by have:=g.ab';omega
    have dz:d≠0:=by omega
    obtain ⟨y0,H,sp⟩:=quo_c (p:=p) (q:=q) (sp_neg k) (sp_neg g) (by omega) (hld_neg hx) (hld_neg hy) l0 l1 (by omega) (by omega)
      (fun z=>⟨by rw [(pN_nn dz).1,(pN_nn dz).2];exact (L.lo z).2.2.2,by rw [(pN_nn cz).1,(pN_nn cz).2];exact (L.lo z).2.2.1⟩)
      (fun z=>⟨by rw [(pN_nn dz).1,(pN_nn dz).2];exact (M.lo z).2.1,by rw [(pN_nn cz).1,(pN_nn cz).2];exact (M.lo z).1⟩)
    exact ⟨sp,.inr ⟨by omega,H⟩⟩
theorem core {e f a b c d x y w:Int} (h:Wd e f) (k:SpOk e f a b) (g:SpOk e f c d) (hx:Hld e f x 256 a b) (hy:Hld e f y 256 c d) (bx:nb x≤2214) (by':nb y≤2214) (w0:0≤w) (w1:w<4) :
    ∃ p q,z1m [.tup [.int e,.int f],.int w,.tup [.int (wdR e f a),.int (wdR e f b)],.tup [.int (wdR e f c),.int (wdR e f d)]] = .ok (.tup [.int (wdR e f p),.int (wdR e f q)])∧SpOk e f p q ∧
      (w<3∨y≠0→∃ n kk dd,z1f [.tup [.int e,.int f],.int w,.int x,.int y] = .ok (.tup [.int n,.int kk,.int dd])∧z33 [.tup [.int e,.int f],.tup [.int e,.int f],.tup [.int (wdR e f p),.int (wdR e f q)],.tup [.int n,.int kk,.int dd]] = .ok (.bl true)):=by
  obtain ⟨l1,l2,l3,l4⟩:=lp_bounds h
  obtain ⟨m1,m3,p3,_⟩:=eS_facts h
  obtain ⟨g1,g2,g3,g4⟩:=id h
  have o3:=okShl_1 (b:=e - 1) (by omega) (by omega)
  have le:2 - p2 (e - 1) - f - 8=lp e f - 8:=by unfold lp;omega
  have c4:w=0∨w=1∨w=2∨w=3:=by omega
  have X1:∀ n,amX e f n (lp e f - 8)=n:=fun n=>by unfold amX;rw [p2_le0 (by omega),Int.mul_one]
  have B1:amB e f 1 (lp e f - 8)=256:=by unfold amB;rw [show lp e f - (lp e f - 8)=8 by omega];decide
  rcases c4 with rfl | rfl | rfl | rfl
  · obtain ⟨p,q,ea,L,M⟩:=K82.q_sp h k g
    obtain ⟨H,sp⟩:=sum_hld L M hx hy
    refine ⟨p,q,?_,sp,fun _=>⟨x+y,lp e f - 8,1,?_,z58 h sp (by decide) (Nat.le_trans (nb_add bx by') (by decide)) (by decide) (by omega) (by omega) (by rw [X1,B1];exact H)⟩⟩
    · generalize wdR e f a=A at *
      generalize wdR e f b=B at *
      generalize wdR e f c=C at *
      generalize wdR e f d=D at *
      generalize wdR e f p=P at *
      generalize wdR e f q=Q at *
      dsimp! [z1m,z3f,ea]
    · dsimp! [z1f,z3e,List.replicate,List.set,Int.one_mul,o3,le]
  · obtain ⟨p,q,ea,L,M⟩:=K82.q_sm h k g
    obtain ⟨H,sp⟩:=sum_hld (q:=q) (c:=-d) (d:=-c) (y:=-y) L (by rw [Int.neg_neg c];exact M) hx (hld_neg hy)
    refine ⟨p,q,?_,sp,fun _=>⟨x - y,lp e f - 8,1,?_,z58 h sp (by decide) (Nat.le_trans (nb_sub bx by') (by decide)) (by decide) (by omega) (by omega) (by rw [X1,B1,Int.sub_eq_add_neg];exact H)⟩⟩
    · generalize wdR e f a=A at *
      generalize wdR e f b=B at *
      generalize wdR e f c=C at *
      generalize wdR e f d=D at *
      generalize wdR e f p=P at *
      generalize wdR e f q=Q at *
      dsimp! [z1m,z3f,ea]
    · dsimp! [z1f,z3e,List.replicate,List.set,Int.one_mul,o3,le]
  · obtain ⟨p,q,ea,L,M⟩:=K83.q_st h k g
    obtain ⟨H,sp⟩:=prod_hld h k g hx hy L M
    have om:okMul x y:=okMul_of (m:=2214) (n:=2214) bx by' (by decide)
    have om2:okMul 2 (lp e f - 8):=okMul_l (by decide) (by decide)
    have X2:amX e f (x*y) (2*(lp e f - 8))=x*y:=by unfold amX;rw [p2_le0 (by omega),Int.mul_one]
    have B2:amB e f 1 (2*(lp e f - 8))=65536*K83.mo e f:=by
      unfold amB
      rw [Int.one_mul,show lp e f - 2*(lp e f - 8)=16 + -(lp e f) by omega,p2_add (by decide) (by omega)]
      rfl
    refine ⟨p,q,?_,sp,fun _=>⟨x*y,2*(lp e f - 8),1,?_,z58 h sp (by decide) (Nat.le_trans (nb_mul_le x y) (by omega)) (by decide) (by omega) (by omega) (by rw [X2,B2];exact H)⟩⟩
    · generalize wdR e f a=A at *
      generalize wdR e f b=B at *
      generalize wdR e f c=C at *
      generalize wdR e f d=D at *
      generalize wdR e f p=P at *
      generalize wdR e f q=Q at *
      dsimp! [z1m,z3f,ea]
    · dsimp! [z1f,z3e,List.replicate,List.set,Int.one_mul,o3,le,om,om2]
  · have X3:∀ n,amX e f n 0=n*K84.mo e f:=fun n=>by unfold amX;rw [Int.zero_sub]
    have B3:∀ n,amB e f n 0=n:=fun n=>by unfold amB;rw [p2_le0 (by omega),Int.mul_one]
    have am:y≠0→∃ n dd,z1f [.tup [.int e,.int f],.int 3,.int x,.int y] = .ok (.tup [.int n,.int 0,.int dd])∧((y<0∧n = -x∧dd = -y)∨(0<y∧n=x∧dd=y)):=fun z=>by
      by_cases yn:y<0
      · refine ⟨0 - x,0 - y,?_,.inl ⟨yn,by omega,by omega⟩⟩
        dsimp! [z1f,z3e,List.replicate,List.set,Int.one_mul,o3,le,yn]
      · refine ⟨x,y,?_,.inr ⟨by omega,rfl,rfl⟩⟩
        dsimp! [z1f,z3e,List.replicate,List.set,Int.one_mul,o3,le,yn]
    by_cases hz:c≤0∧0≤d
    · have ea:=K84.q_so0 h k g hz.1 hz.2
      have e1:wdR e f (-(eS e f))=eS e f+1*p2 (e+f):=by
        unfold wdR ab;rw [if_pos (by omega),if_pos (by omega)];omega
      have e2:wdR e f (eS e f)=eS e f:=by
        unfold wdR ab;rw [if_neg (by omega),if_neg (by omega)];omega
      have sp:SpOk e f (-(eS e f)) (eS e f):=by constructor<;>omega
      have H:∀ X B,Hld e f X B (-(eS e f)) (eS e f):=fun X B=>⟨.inl rfl,.inl rfl⟩
      refine ⟨-(eS e f),eS e f,?_,sp,fun hh=>?_⟩
      · rw [e1,e2]
        generalize eS e f+1*p2 (e+f)=Z at *
        generalize wdR e f a=A at *
        generalize wdR e f b=B at *
        generalize wdR e f c=C at *
        generalize wdR e f d=D at *
        dsimp! [z1m,z3f,ea]
      · obtain ⟨n,dd,en,hnd⟩:=am (by omega)
        have bn:nb n≤2214:=by
          rcases hnd with ⟨_,z,_⟩ | ⟨_,z,_⟩
          · rw [z,nb_neg];exact bx
          · rw [z];exact bx
        have bd:nb dd≤2214:=by
          rcases hnd with ⟨_,_,z⟩ | ⟨_,_,z⟩
          · rw [z,nb_neg];exact by'
          · rw [z];exact by'
        exact ⟨n,0,dd,en,z58 h sp (by omega) (by omega) (by omega) (by omega) (by omega) (H _ _)⟩
    · obtain ⟨p,q,ea,L,M⟩:=K84.q_so h k g hz
      obtain ⟨sp,H⟩:=quo_hld k g hz hx hy L M
      refine ⟨p,q,?_,sp,fun hh=>?_⟩
      · generalize wdR e f a=A at *
        generalize wdR e f b=B at *
        generalize wdR e f c=C at *
        generalize wdR e f d=D at *
        generalize wdR e f p=P at *
        generalize wdR e f q=Q at *
        dsimp! [z1m,z3f,ea]
      · obtain ⟨n,dd,en,hnd⟩:=am (by omega)
        have bn:nb n≤2214:=by
          rcases hnd with ⟨_,z,_⟩ | ⟨_,z,_⟩
          · rw [z,nb_neg];exact bx
          · rw [z];exact bx
        have bd:nb dd≤2214:=by
          rcases hnd with ⟨_,_,z⟩ | ⟨_,_,z⟩
          · rw [z,nb_neg];exact by'
          · rw [z];exact by'
        refine ⟨n,0,dd,en,z58 h sp (by omega) (by omega) (by omega) (by omega) (by omega) ?_⟩
        rw [X3,B3]
        rcases H with ⟨y0,H⟩ | ⟨y0,H⟩
        · rcases hnd with ⟨z,_⟩ | ⟨_,z1,z2⟩
          · omega
          · rw [z1,z2];exact H
        · rcases hnd with ⟨_,z1,z2⟩ | ⟨z,_⟩
          · rw [z1,z2];exact H
          · omega
def Fr (l:List PV) (e f:Int) (ρ:MEnv):Prop:=∃ a b v4 v5 v6 v7 v8 v9 v10 v11 v12,SpOk e f a b∧ρ=[some (.lst l),some (.tup [.int e,.int f]),some (.tup [.int e,.int f]),some (.tup [.int (wdR e f a),.int (wdR e f b)]),v4,v5,v6,v7,v8,v9,v10,v11,v12]
theorem turn (l:List PV) {e f cc a b:Int} (h:Wd e f) (hc:nb cc≤1048576) (k:SpOk e f a b) (v5 v6 v7 v8 v9 v10 v11 v12:Option PV) :
    Goes (Fr l e f) (z1z [some (.lst l),some (.tup [.int e,.int f]),some (.tup [.int e,.int f]),some (.tup [.int (wdR e f a),.int (wdR e f b)]),some (.int cc),v5,v6,v7,v8,v9,v10,v11,v12]):=by
  have ma:=mulc hc
  have mc:okMul cc 414213562373095048801689:=okMul_of (n:=200) hc (nb_le (by decide)) (by decide)
  have mp:okMul cc 69621:=okMul_r (by decide) (by decide)
  obtain ⟨c,d,er,g⟩:=ranks_v3 (m:=cc*618033988749894848204587 % 1000000000000000000000007) (n:=cc*414213562373095048801689 % 1000000000000000000000007) h
  have wc:=zb2 (e:=e) (f:=f) (r:=c) h
  have wdd:=zb2 (e:=e) (f:=f) (r:=d) h
  have sf:=zbt h g
  have i1:=zbk h g
  have ra:=z1t h k.l0 (by have:=k.l1;omega)
  have rb:=z1t h (show -(eS e f)≤b by have:=k.h0;omega) k.h1
  have ed4:okDiv (4:Int):=okDiv_s (by decide) (by decide)
  obtain ⟨x,ex,hx,bx⟩:=zbq (p:=cc*69621 % 999961 / 4) h k
  obtain ⟨y,ey,hy,by'⟩:=zbq (p:=cc*69621 % 999961 / 1028) h g
  obtain ⟨p,q,ea,sp,hd⟩:=core (w:=cc*69621 % 999961 % 4) h k g hx hy bx by' (Int.emod_nonneg _ (by decide)) (Int.emod_lt_of_pos _ (by decide))
  have i2:=zbk h sp
  generalize hpk:cc*69621 % 999961=pk at *
  have F1:∀ v4 v5 v6 v7 v8 v9 v10 v11 v12,Fr l e f [some (.lst l),some (.tup [.int e,.int f]),some (.tup [.int e,.int f]),some (.tup [.int (wdR e f p),.int (wdR e f q)]),v4,v5,v6,v7,v8,v9,v10,v11,v12]:=fun v4 v5 v6 v7 v8 v9 v10 v11 v12=>⟨p,q,v4,v5,v6,v7,v8,v9,v10,v11,v12,sp,rfl⟩
  have F2:∀ v4 v5 v6 v7 v8 v9 v10 v11 v12,Fr l e f [some (.lst l),some (.tup [.int e,.int f]),some (.tup [.int e,.int f]),some (.tup [.int (wdR e f c),.int (wdR e f d)]),v4,v5,v6,v7,v8,v9,v10,v11,v12]:=fun v4 v5 v6 v7 v8 v9 v10 v11 v12=>⟨c,d,v4,v5,v6,v7,v8,v9,v10,v11,v12,g,rfl⟩
  generalize wdR e f a=A at *
  generalize wdR e f b=B at *
  generalize wdR e f c=C at *
  generalize wdR e f d=D at *
  generalize wdR e f p=P at *
  generalize wdR e f q=Q at *
  by_cases c3:pk % 4<3
  · obtain ⟨n,kk,dd,en,eh⟩:=hd (.inl c3)
    by_cases cz:pk / 16 % 4=1
    · dsimp! [z1z,List.set,ma,mc,mp,hpk,er,wc,wdd,sf,i1,ra,rb,ex,ey,ea,i2,c3,en,eh,cz]
      exact goes_next (F2 _ _ _ _ _ _ _ _ _)
    · dsimp! [z1z,List.set,ma,mc,mp,hpk,er,wc,wdd,sf,i1,ra,rb,ex,ey,ea,i2,c3,en,eh,cz]
      exact goes_next (F1 _ _ _ _ _ _ _ _ _)
  · by_cases y0:y=0
    · subst y0
      by_cases cz:pk / 16 % 4=1
      · dsimp! [z1z,List.set,ma,mc,mp,hpk,er,wc,wdd,sf,i1,ra,rb,ex,ey,ea,i2,c3,cz]
        exact goes_next (F2 _ _ _ _ _ _ _ _ _)
      · dsimp! [z1z,List.set,ma,mc,mp,hpk,er,wc,wdd,sf,i1,ra,rb,ex,ey,ea,i2,c3,cz]
        exact goes_next (F1 _ _ _ _ _ _ _ _ _)
    · obtain ⟨n,kk,dd,en,eh⟩:=hd (.inr y0)
      by_cases cz:pk / 16 % 4=1
      · dsimp! [z1z,List.set,ma,mc,mp,hpk,er,wc,wdd,sf,i1,ra,rb,ex,ey,ea,i2,c3,y0,en,eh,cz]
        exact goes_next (F2 _ _ _ _ _ _ _ _ _)
      · dsimp! [z1z,List.set,ma,mc,mp,hpk,er,wc,wdd,sf,i1,ra,rb,ex,ey,ea,i2,c3,y0,en,eh,cz]
        exact goes_next (F1 _ _ _ _ _ _ _ _ _)
theorem holds:∀ ns:List Int,ns.length≤63→(∀ x∈ns,nb x≤1048576)→q_law_v67 [.lst (ns.map PV.int)] = .ok (.bl true):=by
  intro ns hl hb
  have ec:=z98 ns 0 (by decide)
  generalize ns.getD (0:Int).toNat 0=c0 at ec
  obtain ⟨e,f,ew,h⟩:=z96 c0
  have wo:=zc7 h
  obtain ⟨m1,m3,p3,_⟩:=eS_facts h
  have sp0:SpOk e f 0 0:=by constructor<;>omega
  have w0:wdR e f 0=0:=by unfold wdR ab;rw [if_neg (by omega),if_neg (by omega)];omega
  obtain ⟨ρ,ef,a,b,v4,v5,v6,v7,v8,v9,v10,v11,v12,_,rfl⟩:=forL_goes (I:=Fr (ns.map PV.int) e f)
    (i:=4) (body:=z1z) (l:=cutP (ns.map PV.int) (some 1) (some 25))
    (ρ:=[some (.lst (ns.map PV.int)),some (.tup [.int e,.int f]),some (.tup [.int e,.int f]),some (.tup [.int 0,.int 0]),none,none,none,none,none,none,none,none,none]) ⟨0,0,none,none,none,none,none,none,none,none,none,sp0,by rw [w0]⟩ (fun x hx ρ ⟨a,b,v4,v5,v6,v7,v8,v9,v10,v11,v12,k,hρ⟩=>by
      subst hρ
      obtain ⟨c,rfl,hc⟩:=mem_cut_ints hx
      exact turn _ h (hb c hc) k v5 v6 v7 v8 v9 v10 v11 v12)
  dsimp! [q_law_v67,z7y,List.replicate,List.set,ec,ew,wo,ef]
open PySem.Spec PyProof.Rows L2
noncomputable def names:List (Nat×Str):=[(0,"FloatError"),(1,"NoWidth"),(2,"NoWord"),(3,"NoWay"),(4,"NoNumber"),(7,"NoSpan")]
noncomputable def wnames:List (Nat×Str):=[(20,"Way"),(21,"Even"),(22,"Away"),(23,"Inward"),(24,"Upward"),(25,"Downward")]
noncomputable def anames:List (Nat×Str):=names ++ wnames
noncomputable def top (i:Nat):Stmt:=PySem.Challenge.pw_floatforge_k86_whole_spans_hold.main.body.getD i (.Pass ⟨0,0,0,0⟩)
structure Tx (K:PySem.W.Frag) (mg:Str→Option Value) (cl:Nat→Addr):Prop where
  inj:∀ c d,cl c=cl d→c=d
  cls:Cls K mg cl names
  ways:Ways K mg cl wnames
  b_abs:mg "abs"=none
  b_all:mg "all"=none
  b_any:mg "any"=none
  b_bool:mg "bool"=none
  b_int:mg "int"=none
  b_isinstance:mg "isinstance"=none
  b_len:mg "len"=none
  b_max:mg "max"=none
  b_min:mg "min"=none
  b_tuple:mg "tuple"=none
  c_LEAST_E:∃ t,mg "LEAST_E"=some (.int 2 t)
  c_MOST_E:∃ t,mg "MOST_E"=some (.int 11 t)
  c_LEAST_F:∃ t,mg "LEAST_F"=some (.int 1 t)
  c_MOST_F:∃ t,mg "MOST_F"=some (.int 60 t)
  c_WRONG:∃ t,mg "WRONG"=some (.int 1 t)
  c_POLE:∃ t,mg "POLE"=some (.int 2 t)
  c_GREAT:∃ t,mg "GREAT"=some (.int 4 t)
  c_SMALL:∃ t,mg "SMALL"=some (.int 8 t)
  c_NEAR:∃ t,mg "NEAR"=some (.int 16 t)
  c_NOUGHT:∃ u,mg "NOUGHT"=some u∧KRep K u (.tup [.int 0,.int 0])
  c_LOUD_TERM:∃ u,mg "LOUD_TERM"=some u∧KRep K u (.tup [.str "wrong",.bl false,.tup [.int 0,.int 0]])
  c_STILL_TERM:∃ u,mg "STILL_TERM"=some u∧KRep K u (.tup [.str "none",.bl false,.tup [.int 0,.int 0]])
section
variable {P:Program}{w:World}{K:PySem.W.Frag}{mg:Str→Option Value}{base:Heap}{cl:Nat→Addr}
theorem z9t:FnScope ["self","odd","side","below"] ["self","odd","side","below"] (defScope (inClass (top 55) 0)):=⟨rfl,rfl,rfl,by decide +kernel,rfl,by decide +kernel,by decide +kernel⟩
theorem z6w {f:Addr}{fd:FuncData} (T:Tx K mg cl) (D:MethAt K cl 21 "grows" "Even.grows" (inClass (top 55) 0) f fd):MG P w K mg base cl 1 21 "grows" 3 z71 :=
  D.mgp (N:=["self","odd","side","below"]) (k:=0) (T.ways.cls 21 "Even" (at_mem 1 rfl)).cls z9t rfl (fun _ _ _ _ _ _=>Mi.ln4 fun _ _ _ _=>rfl) fun cdv A outer s H E hr =>
    mss_one (ms_ret (me_or (me_cmp (r_eq (hu64 hr)) (mv 2) (me_int) (nomark _)) (me_one (me_and (me_cmp (r_eq (hu64 hr)) (mv 2) (me_int) (nomark _)) (me_one (mv 1))))))
theorem z9r:FnScope ["self","odd","side","below"] ["self","odd","side","below"] (defScope (inClass (top 56) 0)):=⟨rfl,rfl,rfl,by decide +kernel,rfl,by decide +kernel,by decide +kernel⟩
theorem z6u {f:Addr}{fd:FuncData} (T:Tx K mg cl) (D:MethAt K cl 22 "grows" "Away.grows" (inClass (top 56) 0) f fd):MG P w K mg base cl 1 22 "grows" 3 z6z :=
  D.mgp (N:=["self","odd","side","below"]) (k:=0) (T.ways.cls 22 "Away" (at_mem 2 rfl)).cls z9r rfl (fun _ _ _ _ _ _=>Mi.ln4 fun _ _ _ _=>rfl) fun cdv A outer s H E hr =>
    mss_one (ms_ret (me_cmp r_ge (mv 2) (me_int) (nomark _)))
theorem z9u:FnScope ["self","odd","side","below"] ["self","odd","side","below"] (defScope (inClass (top 57) 0)):=⟨rfl,rfl,rfl,by decide +kernel,rfl,by decide +kernel,by decide +kernel⟩
theorem z6x {f:Addr}{fd:FuncData} (T:Tx K mg cl) (D:MethAt K cl 23 "grows" "Inward.grows" (inClass (top 57) 0) f fd):MG P w K mg base cl 1 23 "grows" 3 z72 :=
  D.mgp (N:=["self","odd","side","below"]) (k:=0) (T.ways.cls 23 "Inward" (at_mem 3 rfl)).cls z9u rfl (fun _ _ _ _ _ _=>Mi.ln4 fun _ _ _ _=>rfl) fun cdv A outer s H E hr =>
    mss_one (ms_ret (me_bl))
theorem z9z:FnScope ["self","odd","side","below"] ["self","odd","side","below"] (defScope (inClass (top 58) 0)):=⟨rfl,rfl,rfl,by decide +kernel,rfl,by decide +kernel,by decide +kernel⟩
theorem z6y {f:Addr}{fd:FuncData} (T:Tx K mg cl) (D:MethAt K cl 24 "grows" "Upward.grows" (inClass (top 58) 0) f fd):MG P w K mg base cl 1 24 "grows" 3 z73 :=
  D.mgp (N:=["self","odd","side","below"]) (k:=0) (T.ways.cls 24 "Upward" (at_mem 4 rfl)).cls z9z rfl (fun _ _ _ _ _ _=>Mi.ln4 fun _ _ _ _=>rfl) fun cdv A outer s H E hr =>
    mss_one (ms_ret (me_not (mv 3)))
theorem z9s:FnScope ["self","odd","side","below"] ["self","odd","side","below"] (defScope (inClass (top 59) 0)):=⟨rfl,rfl,rfl,by decide +kernel,rfl,by decide +kernel,by decide +kernel⟩
theorem z6v {f:Addr}{fd:FuncData} (T:Tx K mg cl) (D:MethAt K cl 25 "grows" "Downward.grows" (inClass (top 59) 0) f fd):MG P w K mg base cl 1 25 "grows" 3 z70 :=
  D.mgp (N:=["self","odd","side","below"]) (k:=0) (T.ways.cls 25 "Downward" (at_mem 5 rfl)).cls z9s rfl (fun _ _ _ _ _ _=>Mi.ln4 fun _ _ _ _=>rfl) fun cdv A outer s H E hr =>
    mss_one (ms_ret (mv 3))
theorem zad:FnScope ["value"] ["value"] (defScope (top 12)):=⟨rfl,rfl,rfl,by decide +kernel,rfl,by decide +kernel,by decide +kernel⟩
theorem z4r {f:Addr}{fd:FuncData} (T:Tx K mg cl) (D:DefAt K mg "is_whole" (top 12) f fd):FG P w K mg base cl 1 "is_whole" 1 z59 :=
  D.fg (N:=["value"]) (k:=0) zad rfl (fun _ _ _ _ _ _=>Mi.ln1 fun _=>rfl) fun cdv A outer s H E hr =>
    mss_one (ms_ret (me_and (me_isinst .int (mv 0) (by rfl) T.b_isinstance (by rfl) T.b_int) (me_one (me_not (me_isinst .bool (mv 0) (by rfl) T.b_isinstance (by rfl) T.b_bool)))))
theorem za0:FnScope ["count"] ["count"] (defScope (top 20)):=⟨rfl,rfl,rfl,by decide +kernel,rfl,by decide +kernel,by decide +kernel⟩
theorem z8 {f:Addr}{fd:FuncData} (T:Tx K mg cl) (D:DefAt K mg "all_ones" (top 20) f fd):FG P w K mg base cl 1 "all_ones" 1 zo :=
  D.fg (N:=["count"]) (k:=0) za0 rfl (fun _ _ _ _ _ _=>Mi.ln1 fun _=>rfl) fun cdv A outer s H E hr =>
    mss_one (ms_ret (me_bin r_sub (me_bin r_shl (me_int) (mv 0)) (me_int)))
theorem zaa:FnScope ["width"] ["width"] (defScope (top 28)):=⟨rfl,rfl,rfl,by decide +kernel,rfl,by decide +kernel,by decide +kernel⟩
theorem z2e {f:Addr}{fd:FuncData} (T:Tx K mg cl) (D:DefAt K mg "highest_of_fraction" (top 28) f fd):FG P w K mg base cl 1 "highest_of_fraction" 1 z2u :=
  D.fg (N:=["width"]) (k:=0) zaa rfl (fun _ _ _ _ _ _=>Mi.ln1 fun _=>rfl) fun cdv A outer s H E hr =>
    mss_one (ms_ret (me_bin r_shl (me_int) (me_bin r_sub (me_item (mv 0) (me_int)) (me_int))))
theorem zao:FnScope ["width"] ["width"] (defScope (top 29)):=⟨rfl,rfl,rfl,by decide +kernel,rfl,by decide +kernel,by decide +kernel⟩
theorem z2j {f:Addr}{fd:FuncData} (T:Tx K mg cl) (D:DefAt K mg "sign_bit" (top 29) f fd):FG P w K mg base cl 1 "sign_bit" 1 z27 :=
  D.fg (N:=["width"]) (k:=0) zao rfl (fun _ _ _ _ _ _=>Mi.ln1 fun _=>rfl) fun cdv A outer s H E hr =>
    mss_one (ms_ret (me_bin r_shl (me_int) (me_bin r_add (me_item (mv 0) (me_int)) (me_item (mv 0) (me_int)))))
theorem z8t:FnScope ["n","k","spare"] ["n","k"] (defScope (top 34)):=⟨rfl,rfl,rfl,by decide +kernel,rfl,by decide +kernel,by decide +kernel⟩
theorem zm {f:Addr}{fd:FuncData} (T:Tx K mg cl) (D:DefAt K mg "exact" (top 34) f fd):FG P w K mg base cl 1 "exact" 2 z5 :=
  D.fg (N:=["n","k","spare"]) (k:=0) z8t rfl (fun _ _ _ _ _ _=>Mi.ln2 fun _ _=>rfl) fun cdv A outer s H E hr =>
    mss_cons (ms_if (mt_cmp (r_eq (hu64 hr)) (mv 0) (me_int) (nomark _)) (mss_one (ms_ret (me_tup (ma_cons (me_int) (ma_cons (me_int) (ma_nil)))))) (mss_nil)) (mss_cons (ms_set (i:=2) z8t.nd rfl (Or.inl rfl) (me_bin r_sub (me_bitlen (me_bin r_and (mv 0) (me_una r_neg (mv 0)))) (me_int))) (mss_one (ms_ret (me_tup (ma_cons (me_bin r_shr (mv 0) (mv 2)) (ma_cons (me_bin r_add (mv 1) (mv 2)) (ma_nil)))))))
theorem zar:FnScope ["number","power"] ["number","power"] (defScope (top 35)):=⟨rfl,rfl,rfl,by decide +kernel,rfl,by decide +kernel,by decide +kernel⟩
theorem z1k {f:Addr}{fd:FuncData} (T:Tx K mg cl) (D:DefAt K mg "steps_of" (top 35) f fd):FG P w K mg base cl 1 "steps_of" 2 z1v :=
  D.fg (N:=["number","power"]) (k:=0) zar rfl (fun _ _ _ _ _ _=>Mi.ln2 fun _ _=>rfl) fun cdv A outer s H E hr =>
    mss_one (ms_ret (me_bin r_shl (me_item (mv 0) (me_int)) (me_bin r_sub (me_item (mv 0) (me_int)) (mv 1))))
theorem za1:FnScope ["n","k","d"] ["n","k","d"] (defScope (top 41)):=⟨rfl,rfl,rfl,by decide +kernel,rfl,by decide +kernel,by decide +kernel⟩
theorem z2b {f:Addr}{fd:FuncData} (T:Tx K mg cl) (D:DefAt K mg "as_quotient" (top 41) f fd):FG P w K mg base cl 1 "as_quotient" 3 z24 :=
  D.fg (N:=["n","k","d"]) (k:=0) za1 rfl (fun _ _ _ _ _ _=>Mi.ln3 fun _ _ _=>rfl) fun cdv A outer s H E hr =>
    mss_one (ms_ret (me_if (mt_cmp r_ge (mv 1) (me_int) (nomark _)) (me_tup (ma_cons (me_bin r_shl (mv 0) (mv 1)) (ma_cons (mv 2) (ma_nil)))) (me_tup (ma_cons (mv 0) (ma_cons (me_bin r_shl (mv 2) (me_una r_neg (mv 1))) (ma_nil))))))
theorem zav:FnScope ["name"] ["name"] (defScope (top 60)):=⟨rfl,rfl,rfl,by decide +kernel,rfl,by decide +kernel,by decide +kernel⟩
theorem z1e {f:Addr}{fd:FuncData} (T:Tx K mg cl) (D:DefAt K mg "way_of" (top 60) f fd):FG P w K mg base cl 1 "way_of" 1 z1y :=
  D.fg (N:=["name"]) (k:=0) zav rfl (fun _ _ _ _ _ _=>Mi.ln1 fun _=>rfl) fun cdv A outer s H E hr =>
    mss_cons (ms_if (mt_cmp (r_eq (hu64 hr)) (mv 0) (me_str) (nomark _)) (mss_one (ms_ret (mk0 T.ways (at_mem 1 rfl)))) (mss_nil)) (mss_cons (ms_if (mt_cmp (r_eq (hu64 hr)) (mv 0) (me_str) (nomark _)) (mss_one (ms_ret (mk0 T.ways (at_mem 2 rfl)))) (mss_nil)) (mss_cons (ms_if (mt_cmp (r_eq (hu64 hr)) (mv 0) (me_str) (nomark _)) (mss_one (ms_ret (mk0 T.ways (at_mem 3 rfl)))) (mss_nil)) (mss_cons (ms_if (mt_cmp (r_eq (hu64 hr)) (mv 0) (me_str) (nomark _)) (mss_one (ms_ret (mk0 T.ways (at_mem 4 rfl)))) (mss_nil)) (mss_cons (ms_if (mt_cmp (r_eq (hu64 hr)) (mv 0) (me_str) (nomark _)) (mss_one (ms_ret (mk0 T.ways (at_mem 5 rfl)))) (mss_nil)) (mss_one (ms_raise (c:=3) (T.cls.cls 3 "NoWay" (at_mem 3 rfl)) own_cx (by rfl) hr.hd (mv_str 40)))))))
theorem zac:FnScope ["term"] ["term"] (defScope (top 72)):=⟨rfl,rfl,rfl,by decide +kernel,rfl,by decide +kernel,by decide +kernel⟩
theorem zf {f:Addr}{fd:FuncData} (T:Tx K mg cl) (D:DefAt K mg "is_nought" (top 72) f fd):FG P w K mg base cl 1 "is_nought" 1 q_is_nought :=
  D.fg (N:=["term"]) (k:=0) zac rfl (fun _ _ _ _ _ _=>Mi.ln1 fun _=>rfl) fun cdv A outer s H E hr =>
    mss_one (ms_ret (me_and (me_cmp (r_eq (hu64 hr)) (me_item (mv 0) (me_int)) (me_str) (nomark _)) (me_one (me_cmp (r_eq (hu64 hr)) (me_item (mv 0) (me_int)) (me_globK (by rfl) T.c_NOUGHT) (nomark _)))))
theorem zam:FnScope ["one","other"] ["one","other"] (defScope (top 95)):=⟨rfl,rfl,rfl,by decide +kernel,rfl,by decide +kernel,by decide +kernel⟩
theorem z2i {f:Addr}{fd:FuncData} (T:Tx K mg cl) (D:DefAt K mg "pairs_of_ends" (top 95) f fd):FG P w K mg base cl 1 "pairs_of_ends" 2 z1s :=
  D.fg (N:=["one","other"]) (k:=0) zam rfl (fun _ _ _ _ _ _=>Mi.ln2 fun _ _=>rfl) fun cdv A outer s H E hr =>
    mss_one (ms_ret (me_lst (ma_cons (me_tup (ma_cons (me_item (mv 0) (me_int)) (ma_cons (me_item (mv 1) (me_int)) (ma_nil)))) (ma_cons (me_tup (ma_cons (me_item (mv 0) (me_int)) (ma_cons (me_item (mv 1) (me_int)) (ma_nil)))) (ma_cons (me_tup (ma_cons (me_item (mv 0) (me_int)) (ma_cons (me_item (mv 1) (me_int)) (ma_nil)))) (ma_cons (me_tup (ma_cons (me_item (mv 0) (me_int)) (ma_cons (me_item (mv 1) (me_int)) (ma_nil)))) (ma_nil)))))))
theorem z9w:FnScope ["_law_script","_law_k"] ["_law_script","_law_k"] (defScope (top 101)):=⟨rfl,rfl,rfl,by decide +kernel,rfl,by decide +kernel,by decide +kernel⟩
theorem z4g {f:Addr}{fd:FuncData} (T:Tx K mg cl) (D:DefAt K mg "_law_cell_at" (top 101) f fd):FG P w K mg base cl 1 "_law_cell_at" 2 z32 :=
  D.fg (N:=["_law_script","_law_k"]) (k:=0) z9w rfl (fun _ _ _ _ _ _=>Mi.ln2 fun _ _=>rfl) fun cdv A outer s H E hr =>
    mss_cons (ms_if (mt_cmp r_lt (mv 1) (me_callB c_len (by rfl) T.b_len PySem.boot_len (ma_cons (mv 0) (ma_nil))) (nomark _)) (mss_one (ms_ret (me_item (mv 0) (mv 1)))) (mss_nil)) (mss_one (ms_ret (me_int)))
theorem z9x:FnScope ["_law_found"] ["_law_found"] (defScope (top 102)):=⟨rfl,rfl,rfl,by decide +kernel,rfl,by decide +kernel,by decide +kernel⟩
theorem z3m {f:Addr}{fd:FuncData} (T:Tx K mg cl) (D:DefAt K mg "_law_whole" (top 102) f fd):FG P w K mg base cl 1 "_law_whole" 1 z36 :=
  D.fg (N:=["_law_found"]) (k:=0) z9x rfl (fun _ _ _ _ _ _=>Mi.ln1 fun _=>rfl) fun cdv A outer s H E hr =>
    mss_one (ms_ret (me_and (me_isinst .int (mv 0) (by rfl) T.b_isinstance (by rfl) T.b_int) (me_one (me_not (me_isinst .bool (mv 0) (by rfl) T.b_isinstance (by rfl) T.b_bool)))))
theorem z8r:FnScope ["_law_cell","_law_mixed"] ["_law_cell"] (defScope (top 103)):=⟨rfl,rfl,rfl,by decide +kernel,rfl,by decide +kernel,by decide +kernel⟩
theorem z4j {f:Addr}{fd:FuncData} (T:Tx K mg cl) (D:DefAt K mg "_law_wide" (top 103) f fd):FG P w K mg base cl 1 "_law_wide" 1 z37 :=
  D.fg (N:=["_law_cell","_law_mixed"]) (k:=0) z8r rfl (fun _ _ _ _ _ _=>Mi.ln1 fun _=>rfl) fun cdv A outer s H E hr =>
    mss_cons (ms_set (i:=1) z8r.nd rfl (Or.inl rfl) (me_bin r_mod (me_bin r_mul (mv 0) (me_int)) (me_int))) (mss_cons (ms_if (mt_cmp (r_eq (hu64 hr)) (me_bin r_mod (mv 1) (me_int)) (me_int) (nomark _)) (mss_one (ms_ret (me_tup (ma_cons (me_bin r_add (me_int) (me_bin r_mod (me_bin r_div (mv 1) (me_int)) (me_int))) (ma_cons (me_bin r_add (me_int) (me_bin r_mod (me_bin r_div (mv 1) (me_int)) (me_int))) (ma_nil)))))) (mss_nil)) (mss_one (ms_ret (me_tup (ma_cons (me_bin r_add (me_int) (me_bin r_mod (me_bin r_div (mv 1) (me_int)) (me_int))) (ma_cons (me_bin r_add (me_int) (me_bin r_mod (me_bin r_div (mv 1) (me_int)) (me_int))) (ma_nil)))))))
theorem z5v:FnScope ["_law_wide_here","_law_mixed","_law_last","_law_bias","_law_some"] ["_law_wide_here","_law_mixed"] (defScope (top 104)):=⟨rfl,rfl,rfl,by decide +kernel,rfl,by decide +kernel,by decide +kernel⟩
theorem z3j {f:Addr}{fd:FuncData} (T:Tx K mg cl) (D:DefAt K mg "_law_near" (top 104) f fd):FG P w K mg base cl 1 "_law_near" 2 z2n :=
  D.fg (N:=["_law_wide_here","_law_mixed","_law_last","_law_bias","_law_some"]) (k:=0) z5v rfl (fun _ _ _ _ _ _=>Mi.ln2 fun _ _=>rfl) fun cdv A outer s H E hr =>
    mss_cons (ms_set (i:=2) z5v.nd rfl (Or.inl rfl) (me_bin r_shl (me_bin r_sub (me_bin r_shl (me_int) (me_item (mv 0) (me_int))) (me_int)) (me_item (mv 0) (me_int)))) (mss_cons (ms_set (i:=3) z5v.nd rfl (Or.inl rfl) (me_bin r_sub (me_bin r_shl (me_int) (me_bin r_sub (me_item (mv 0) (me_int)) (me_int))) (me_int))) (mss_cons (ms_set (i:=4) z5v.nd rfl (Or.inl rfl) (me_lst (ma_cons (me_int) (ma_cons (mv 2) (ma_cons (me_bin r_sub (mv 2) (me_int)) (ma_cons (me_bin r_shl (mv 3) (me_item (mv 0) (me_int))) (ma_cons (me_bin r_sub (me_int) (mv 2)) (ma_cons (me_bin r_sub (me_int) (me_bin r_shl (mv 3) (me_item (mv 0) (me_int)))) (ma_cons (me_bin r_shl (me_bin r_sub (mv 3) (me_int)) (me_item (mv 0) (me_int))) (ma_cons (me_int) (ma_nil))))))))))) (mss_cons (ms_if (mt_cmp (r_eq (hu64 hr)) (me_bin r_mod (me_bin r_div (mv 1) (me_int)) (me_int)) (me_int) (nomark _)) (mss_one (ms_ret (me_bin r_sub (me_bin r_add (me_item (mv 4) (me_bin r_mod (mv 1) (me_int))) (me_bin r_mod (me_bin r_div (mv 1) (me_int)) (me_int))) (me_int)))) (mss_nil)) (mss_one (ms_ret (me_bin r_sub (me_bin r_mod (me_bin r_div (mv 1) (me_int)) (me_bin r_add (me_bin r_mul (me_int) (mv 2)) (me_int))) (mv 2)))))))
theorem z9y:FnScope ["_law_wide_here","_law_rank_here"] ["_law_wide_here","_law_rank_here"] (defScope (top 106)):=⟨rfl,rfl,rfl,by decide +kernel,rfl,by decide +kernel,by decide +kernel⟩
theorem z3n {f:Addr}{fd:FuncData} (T:Tx K mg cl) (D:DefAt K mg "_law_word" (top 106) f fd):FG P w K mg base cl 1 "_law_word" 2 z2o :=
  D.fg (N:=["_law_wide_here","_law_rank_here"]) (k:=0) z9y rfl (fun _ _ _ _ _ _=>Mi.ln2 fun _ _=>rfl) fun cdv A outer s H E hr =>
    mss_cons (ms_if (mt_cmp r_lt (mv 1) (me_int) (nomark _)) (mss_one (ms_ret (me_bin r_sub (me_bin r_shl (me_int) (me_bin r_add (me_item (mv 0) (me_int)) (me_item (mv 0) (me_int)))) (mv 1)))) (mss_nil)) (mss_one (ms_ret (mv 1)))
theorem z8q:FnScope ["_law_wide_here","_law_word_here","_law_half"] ["_law_wide_here","_law_word_here"] (defScope (top 107)):=⟨rfl,rfl,rfl,by decide +kernel,rfl,by decide +kernel,by decide +kernel⟩
theorem g_Lrank_v2 {f:Addr}{fd:FuncData} (T:Tx K mg cl) (D:DefAt K mg "_law_rank" (top 107) f fd):FG P w K mg base cl 1 "_law_rank" 2 z4 :=
  D.fg (N:=["_law_wide_here","_law_word_here","_law_half"]) (k:=0) z8q rfl (fun _ _ _ _ _ _=>Mi.ln2 fun _ _=>rfl) fun cdv A outer s H E hr =>
    mss_cons (ms_set (i:=2) z8q.nd rfl (Or.inl rfl) (me_bin r_shl (me_int) (me_bin r_add (me_item (mv 0) (me_int)) (me_item (mv 0) (me_int))))) (mss_cons (ms_if (mt_cmp r_ge (mv 1) (mv 2) (nomark _)) (mss_one (ms_ret (me_bin r_sub (mv 2) (mv 1)))) (mss_nil)) (mss_one (ms_ret (mv 1))))
theorem z7b:FnScope ["_law_wide_here","_law_rank_here","_law_size"] ["_law_wide_here","_law_rank_here"] (defScope (top 108)):=⟨rfl,rfl,rfl,by decide +kernel,rfl,by decide +kernel,by decide +kernel⟩
theorem z1a {f:Addr}{fd:FuncData} (T:Tx K mg cl) (D:DefAt K mg "_law_steps" (top 108) f fd):FG P w K mg base cl 1 "_law_steps" 2 zw :=
  D.fg (N:=["_law_wide_here","_law_rank_here","_law_size"]) (k:=0) z7b rfl (fun _ _ _ _ _ _=>Mi.ln2 fun _ _=>rfl) fun cdv A outer s H E hr =>
    mss_cons (ms_set (i:=2) z7b.nd rfl (Or.inl rfl) (me_callB c_abs (by rfl) T.b_abs boot_abs (ma_cons (mv 1) (ma_nil)))) (mss_cons (ms_if (mt_cmp r_ge (mv 2) (me_bin r_shl (me_int) (me_item (mv 0) (me_int))) (nomark _)) (mss_one (ms_set (i:=2) z7b.nd rfl (Or.inl rfl) (me_bin r_shl (me_bin r_add (me_bin r_mod (mv 2) (me_bin r_shl (me_int) (me_item (mv 0) (me_int)))) (me_bin r_shl (me_int) (me_item (mv 0) (me_int)))) (me_bin r_sub (me_bin r_shr (mv 2) (me_item (mv 0) (me_int))) (me_int))))) (mss_nil)) (mss_cons (ms_if (mt_cmp r_lt (mv 1) (me_int) (nomark _)) (mss_one (ms_ret (me_bin r_sub (me_int) (mv 2)))) (mss_nil)) (mss_one (ms_ret (mv 2)))))
theorem z8o:FnScope ["_law_wide_here","_law_way","_law_one","_law_other","_law_least"] ["_law_wide_here","_law_way","_law_one","_law_other"] (defScope (top 111)):=⟨rfl,rfl,rfl,by decide +kernel,rfl,by decide +kernel,by decide +kernel⟩
theorem z4e {f:Addr}{fd:FuncData} (T:Tx K mg cl) (D:DefAt K mg "_law_amount" (top 111) f fd):FG P w K mg base cl 1 "_law_amount" 4 z1f :=
  D.fg (N:=["_law_wide_here","_law_way","_law_one","_law_other","_law_least"]) (k:=0) z8o rfl (fun _ _ _ _ _ _=>Mi.ln4 fun _ _ _ _=>rfl) fun cdv A outer s H E hr =>
    mss_cons (ms_set (i:=4) z8o.nd rfl (Or.inl rfl) (me_bin r_sub (me_bin r_sub (me_bin r_sub (me_int) (me_bin r_shl (me_int) (me_bin r_sub (me_item (mv 0) (me_int)) (me_int)))) (me_item (mv 0) (me_int))) (me_int))) (mss_cons (ms_if (mt_cmp (r_eq (hu64 hr)) (mv 1) (me_int) (nomark _)) (mss_one (ms_ret (me_tup (ma_cons (me_bin r_add (mv 2) (mv 3)) (ma_cons (mv 4) (ma_cons (me_int) (ma_nil))))))) (mss_nil)) (mss_cons (ms_if (mt_cmp (r_eq (hu64 hr)) (mv 1) (me_int) (nomark _)) (mss_one (ms_ret (me_tup (ma_cons (me_bin r_sub (mv 2) (mv 3)) (ma_cons (mv 4) (ma_cons (me_int) (ma_nil))))))) (mss_nil)) (mss_cons (ms_if (mt_cmp (r_eq (hu64 hr)) (mv 1) (me_int) (nomark _)) (mss_one (ms_ret (me_tup (ma_cons (me_bin r_mul (mv 2) (mv 3)) (ma_cons (me_bin r_mul (me_int) (mv 4)) (ma_cons (me_int) (ma_nil))))))) (mss_nil)) (mss_cons (ms_if (mt_cmp r_lt (mv 3) (me_int) (nomark _)) (mss_one (ms_ret (me_tup (ma_cons (me_bin r_sub (me_int) (mv 2)) (ma_cons (me_int) (ma_cons (me_bin r_sub (me_int) (mv 3)) (ma_nil))))))) (mss_nil)) (mss_one (ms_ret (me_tup (ma_cons (mv 2) (ma_cons (me_int) (ma_cons (mv 3) (ma_nil)))))))))))
theorem zae:FnScope ["value","low","high"] ["value","low","high"] (defScope (top 13)):=⟨rfl,rfl,rfl,by decide +kernel,rfl,by decide +kernel,by decide +kernel⟩
theorem zn {f:Addr}{fd:FuncData} (T:Tx K mg cl) (D:DefAt K mg "is_within" (top 13) f fd) (z4r:FG P w K mg base cl 1 "is_whole" 1 z59):FG P w K mg base cl 2 "is_within" 3 zy :=
  D.fg (N:=["value","low","high"]) (k:=1) zae rfl (fun _ _ _ _ _ _=>Mi.ln3 fun _ _ _=>rfl) fun cdv A outer s H E hr =>
    mss_one (ms_ret (me_and (mc z4r hr T.inj (ma_cons (mv 0) (ma_nil))) (me_one (me_chain r_le r_le (mv 1) (mv 0) (mv 2)))))
theorem z8s:FnScope ["one","other","power"] ["one","other"] (defScope (top 36)):=⟨rfl,rfl,rfl,by decide +kernel,rfl,by decide +kernel,by decide +kernel⟩
theorem z4k {f:Addr}{fd:FuncData} (T:Tx K mg cl) (D:DefAt K mg "added" (top 36) f fd) (zm:FG P w K mg base cl 1 "exact" 2 z5) (z1k:FG P w K mg base cl 1 "steps_of" 2 z1v):FG P w K mg base cl 2 "added" 2 z2p :=
  D.fg (N:=["one","other","power"]) (k:=1) z8s rfl (fun _ _ _ _ _ _=>Mi.ln2 fun _ _=>rfl) fun cdv A outer s H E hr =>
    mss_cons (ms_set (i:=2) z8s.nd rfl (Or.inl rfl) (me_callB (c_min rfl) (by rfl) T.b_min boot_min (ma_cons (me_item (mv 0) (me_int)) (ma_cons (me_item (mv 1) (me_int)) (ma_nil))))) (mss_one (ms_ret (mc zm hr T.inj (ma_cons (me_bin r_add (mc z1k hr T.inj (ma_cons (mv 0) (ma_cons (mv 2) (ma_nil)))) (mc z1k hr T.inj (ma_cons (mv 1) (ma_cons (mv 2) (ma_nil))))) (ma_cons (mv 2) (ma_nil))))))
theorem zak:FnScope ["one","other"] ["one","other"] (defScope (top 37)):=⟨rfl,rfl,rfl,by decide +kernel,rfl,by decide +kernel,by decide +kernel⟩
theorem z2g {f:Addr}{fd:FuncData} (T:Tx K mg cl) (D:DefAt K mg "multiplied" (top 37) f fd) (zm:FG P w K mg base cl 1 "exact" 2 z5):FG P w K mg base cl 2 "multiplied" 2 z18 :=
  D.fg (N:=["one","other"]) (k:=1) zak rfl (fun _ _ _ _ _ _=>Mi.ln2 fun _ _=>rfl) fun cdv A outer s H E hr =>
    mss_one (ms_ret (mc zm hr T.inj (ma_cons (me_bin r_mul (me_item (mv 0) (me_int)) (me_item (mv 1) (me_int))) (ma_cons (me_bin r_add (me_item (mv 0) (me_int)) (me_item (mv 1) (me_int))) (ma_nil)))))
theorem z8u:FnScope ["one","other","power"] ["one","other"] (defScope (top 38)):=⟨rfl,rfl,rfl,by decide +kernel,rfl,by decide +kernel,by decide +kernel⟩
theorem z4p {f:Addr}{fd:FuncData} (T:Tx K mg cl) (D:DefAt K mg "is_below" (top 38) f fd) (z1k:FG P w K mg base cl 1 "steps_of" 2 z1v):FG P w K mg base cl 2 "is_below" 2 z3s :=
  D.fg (N:=["one","other","power"]) (k:=1) z8u rfl (fun _ _ _ _ _ _=>Mi.ln2 fun _ _=>rfl) fun cdv A outer s H E hr =>
    mss_cons (ms_set (i:=2) z8u.nd rfl (Or.inl rfl) (me_callB (c_min rfl) (by rfl) T.b_min boot_min (ma_cons (me_item (mv 0) (me_int)) (ma_cons (me_item (mv 1) (me_int)) (ma_nil))))) (mss_one (ms_ret (me_cmp r_lt (mc z1k hr T.inj (ma_cons (mv 0) (ma_cons (mv 2) (ma_nil)))) (mc z1k hr T.inj (ma_cons (mv 1) (ma_cons (mv 2) (ma_nil)))) (nomark _))))
theorem z5c:FnScope ["n","k","d","size","height","parts"] ["n","k","d"] (defScope (top 42)):=⟨rfl,rfl,rfl,by decide +kernel,rfl,by decide +kernel,by decide +kernel⟩
theorem z4m {f:Addr}{fd:FuncData} (T:Tx K mg cl) (D:DefAt K mg "height_of" (top 42) f fd) (z2b:FG P w K mg base cl 1 "as_quotient" 3 z24):FG P w K mg base cl 2 "height_of" 3 z2t :=
  D.fg (N:=["n","k","d","size","height","parts"]) (k:=1) z5c rfl (fun _ _ _ _ _ _=>Mi.ln3 fun _ _ _=>rfl) fun cdv A outer s H E hr =>
    mss_cons (ms_if (mt_cmp (r_eq (hu64 hr)) (mv 0) (me_int) (nomark _)) (mss_one (ms_raise (c:=4) (T.cls.cls 4 "NoNumber" (at_mem 4 rfl)) own_cx (by rfl) hr.hd (mv_str 20))) (mss_nil)) (mss_cons (ms_set (i:=3) z5c.nd rfl (Or.inl rfl) (me_callB c_abs (by rfl) T.b_abs boot_abs (ma_cons (mv 0) (ma_nil)))) (mss_cons (ms_set (i:=4) z5c.nd rfl (Or.inl rfl) (me_bin r_sub (me_bitlen (mv 3)) (me_bitlen (mv 2)))) (mss_cons (ms_set (i:=5) z5c.nd rfl (Or.inl rfl) (mc z2b hr T.inj (ma_cons (mv 3) (ma_cons (me_una r_neg (mv 4)) (ma_cons (mv 2) (ma_nil)))))) (mss_cons (ms_if (mt_cmp r_lt (me_item (mv 5) (me_int)) (me_item (mv 5) (me_int)) (nomark _)) (mss_one (ms_set (i:=4) z5c.nd rfl (Or.inl rfl) (me_bin r_sub (mv 4) (me_int)))) (mss_nil)) (mss_one (ms_ret (me_bin r_add (mv 4) (mv 1))))))))
theorem z5z:FnScope ["n","k","d","g","parts","m","twice_the_rest"] ["n","k","d","g"] (defScope (top 43)):=⟨rfl,rfl,rfl,by decide +kernel,rfl,by decide +kernel,by decide +kernel⟩
theorem z4o {f:Addr}{fd:FuncData} (T:Tx K mg cl) (D:DefAt K mg "in_steps" (top 43) f fd) (z2b:FG P w K mg base cl 1 "as_quotient" 3 z24):FG P w K mg base cl 2 "in_steps" 4 z1p :=
  D.fg (N:=["n","k","d","g","parts","m","twice_the_rest"]) (k:=1) z5z rfl (fun _ _ _ _ _ _=>Mi.ln4 fun _ _ _ _=>rfl) fun cdv A outer s H E hr =>
    mss_cons (ms_set (i:=4) z5z.nd rfl (Or.inl rfl) (mc z2b hr T.inj (ma_cons (me_callB c_abs (by rfl) T.b_abs boot_abs (ma_cons (mv 0) (ma_nil))) (ma_cons (me_bin r_sub (mv 1) (mv 3)) (ma_cons (mv 2) (ma_nil)))))) (mss_cons (ms_set (i:=5) z5z.nd rfl (Or.inl rfl) (me_bin r_div (me_item (mv 4) (me_int)) (me_item (mv 4) (me_int)))) (mss_cons (ms_set (i:=6) z5z.nd rfl (Or.inl rfl) (me_bin r_mul (me_int) (me_bin r_sub (me_item (mv 4) (me_int)) (me_bin r_mul (mv 5) (me_item (mv 4) (me_int)))))) (mss_cons (ms_if (mt_cmp (r_eq (hu64 hr)) (mv 6) (me_int) (nomark _)) (mss_one (ms_ret (me_tup (ma_cons (mv 5) (ma_cons (me_int) (ma_nil)))))) (mss_nil)) (mss_cons (ms_if (mt_cmp r_lt (mv 6) (me_item (mv 4) (me_int)) (nomark _)) (mss_one (ms_ret (me_tup (ma_cons (mv 5) (ma_cons (me_int) (ma_nil)))))) (mss_nil)) (mss_one (ms_ret (me_tup (ma_cons (mv 5) (ma_cons (me_if (mt_cmp (r_eq (hu64 hr)) (mv 6) (me_item (mv 4) (me_int)) (nomark _)) (me_int) (me_int)) (ma_nil))))))))))
theorem z8x:FnScope ["chosen","place","below","grown"] ["chosen","place","below"] (defScope (top 64)):=⟨rfl,rfl,rfl,by decide +kernel,rfl,by decide +kernel,by decide +kernel⟩
theorem z53 {f:Addr}{fd:FuncData} (T:Tx K mg cl) (D:DefAt K mg "steps_taken" (top 64) f fd) (m_grows:FM P w K mg base cl 1 "grows" 3 z3d):FG P w K mg base cl 2 "steps_taken" 3 z39 :=
  D.fg (N:=["chosen","place","below","grown"]) (k:=1) z8x rfl (fun _ _ _ _ _ _=>Mi.ln3 fun _ _ _=>rfl) fun cdv A outer s H E hr =>
    mss_cons (ms_set (i:=3) z8x.nd rfl (Or.inl rfl) (me_and (me_cmp (r_ne (hu64 hr)) (me_item (mv 1) (me_int)) (me_int) (nomark _)) (me_one (mm m_grows hr T.inj (mv 0) (ma_cons (me_cmp (r_eq (hu64 hr)) (me_bin r_mod (me_item (mv 1) (me_int)) (me_int)) (me_int) (nomark _)) (ma_cons (me_item (mv 1) (me_int)) (ma_cons (mv 2) (ma_nil)))))))) (mss_one (ms_ret (me_if (mt_val (mv 3)) (me_bin r_add (me_item (mv 1) (me_int)) (me_int)) (me_item (mv 1) (me_int)))))
theorem z7e:FnScope ["terms","way","signs"] ["terms","way"] (defScope (top 78)):=⟨rfl,rfl,rfl,by decide +kernel,rfl,by decide +kernel,by decide +kernel⟩
theorem z4q {f:Addr}{fd:FuncData} (T:Tx K mg cl) (D:DefAt K mg "is_nought_below" (top 78) f fd) (zf:FG P w K mg base cl 1 "is_nought" 1 q_is_nought):FG P w K mg base cl 2 "is_nought_below" 2 z3t :=
  D.fg (N:=["terms","way","signs"]) (k:=1) z7e rfl (fun _ _ _ _ _ _=>Mi.ln2 fun _ _=>rfl) fun cdv A outer s H E hr =>
    mss_cons (msC (i:=2) z7e.nd rfl (Or.inl rfl) (by decide +kernel) rfl (mi_seq (mv 0)) (fun _ _ _ _=>MC.nil) (fun _ _ _ _=>me_item (mv 3) (me_int))) (mss_cons (ms_if (mt_val (me_callB (c_all rfl) (by rfl) T.b_all boot_all (ma_cons (mcomp z7e.nd (by decide +kernel) rfl (mi_seq (mv 0)) (fun _ _ _ _=>MC.nil) (fun _ _ _ _=>mcN zf hr (ma_cons (mv 3) (ma_nil)))) (ma_nil)))) (mss_cons (ms_if (mt_not (mt_val (me_callB (c_any rfl) (by rfl) T.b_any boot_any (ma_cons (mv 2) (ma_nil))))) (mss_one (ms_ret (me_bl))) (mss_nil)) (mss_one (ms_if (mt_val (me_callB (c_all rfl) (by rfl) T.b_all boot_all (ma_cons (mv 2) (ma_nil)))) (mss_one (ms_ret (me_bl))) (mss_nil)))) (mss_nil)) (mss_one (ms_ret (me_cmp (r_eq (hu64 hr)) (mv 1) (me_str) (nomark _)))))
theorem z3b:FnScope ["_law_wide_here","_law_mixed","_law_far","_law_last","_law_one","_law_two","_law_low","_law_high"] ["_law_wide_here","_law_mixed","_law_far"] (defScope (top 105)):=⟨rfl,rfl,rfl,by decide +kernel,rfl,by decide +kernel,by decide +kernel⟩
theorem z4i {f:Addr}{fd:FuncData} (T:Tx K mg cl) (D:DefAt K mg "_law_ranks" (top 105) f fd) (z3j:FG P w K mg base cl 1 "_law_near" 2 z2n):FG P w K mg base cl 2 "_law_ranks" 3 z35 :=
  D.fg (N:=["_law_wide_here","_law_mixed","_law_far","_law_last","_law_one","_law_two","_law_low","_law_high"]) (k:=1) z3b rfl (fun _ _ _ _ _ _=>Mi.ln3 fun _ _ _=>rfl) fun cdv A outer s H E hr =>
    mss_cons (ms_set (i:=3) z3b.nd rfl (Or.inl rfl) (me_bin r_shl (me_bin r_sub (me_bin r_shl (me_int) (me_item (mv 0) (me_int))) (me_int)) (me_item (mv 0) (me_int)))) (mss_cons (ms_set (i:=4) z3b.nd rfl (Or.inl rfl) (mc z3j hr T.inj (ma_cons (mv 0) (ma_cons (mv 1) (ma_nil))))) (mss_cons (ms_set (i:=5) z3b.nd rfl (Or.inl rfl) (mc z3j hr T.inj (ma_cons (mv 0) (ma_cons (mv 2) (ma_nil))))) (mss_cons (ms_if (mt_cmp (r_eq (hu64 hr)) (me_bin r_mod (me_bin r_div (mv 2) (me_int)) (me_int)) (me_int) (nomark _)) (mss_one (ms_set (i:=5) z3b.nd rfl (Or.inl rfl) (me_bin r_sub (me_bin r_add (mv 4) (me_bin r_mod (mv 2) (me_int))) (me_int)))) (mss_nil)) (mss_cons (ms_set (i:=6) z3b.nd rfl (Or.inl rfl) (me_callB (c_max rfl) (by rfl) T.b_max boot_max (ma_cons (me_callB (c_min rfl) (by rfl) T.b_min boot_min (ma_cons (mv 4) (ma_cons (mv 5) (ma_nil)))) (ma_cons (me_bin r_sub (me_int) (mv 3)) (ma_nil))))) (mss_cons (ms_set (i:=7) z3b.nd rfl (Or.inl rfl) (me_callB (c_min rfl) (by rfl) T.b_min boot_min (ma_cons (me_callB (c_max rfl) (by rfl) T.b_max boot_max (ma_cons (mv 4) (ma_cons (mv 5) (ma_nil)))) (ma_cons (mv 3) (ma_nil))))) (mss_one (ms_ret (me_tup (ma_cons (me_callB (c_min rfl) (by rfl) T.b_min boot_min (ma_cons (mv 6) (ma_cons (me_bin r_sub (mv 3) (me_int)) (ma_nil)))) (ma_cons (me_callB (c_max rfl) (by rfl) T.b_max boot_max (ma_cons (mv 7) (ma_cons (me_bin r_sub (me_int) (mv 3)) (ma_nil)))) (ma_nil)))))))))))
theorem z44:FnScope ["_law_wide_here","_law_ranks_here","_law_pick","_law_last","_law_low","_law_high"] ["_law_wide_here","_law_ranks_here","_law_pick"] (defScope (top 109)):=⟨rfl,rfl,rfl,by decide +kernel,rfl,by decide +kernel,by decide +kernel⟩
theorem z3l {f:Addr}{fd:FuncData} (T:Tx K mg cl) (D:DefAt K mg "_law_point" (top 109) f fd) (z1a:FG P w K mg base cl 1 "_law_steps" 2 zw):FG P w K mg base cl 2 "_law_point" 3 z1o :=
  D.fg (N:=["_law_wide_here","_law_ranks_here","_law_pick","_law_last","_law_low","_law_high"]) (k:=1) z44 rfl (fun _ _ _ _ _ _=>Mi.ln3 fun _ _ _=>rfl) fun cdv A outer s H E hr =>
    mss_cons (ms_set (i:=3) z44.nd rfl (Or.inl rfl) (me_bin r_shl (me_bin r_sub (me_bin r_shl (me_int) (me_item (mv 0) (me_int))) (me_int)) (me_item (mv 0) (me_int)))) (mss_cons (ms_set (i:=4) z44.nd rfl (Or.inl rfl) (me_bin r_shl (mc z1a hr T.inj (ma_cons (mv 0) (ma_cons (me_item (mv 1) (me_int)) (ma_nil)))) (me_int))) (mss_cons (ms_set (i:=5) z44.nd rfl (Or.inl rfl) (me_bin r_shl (mc z1a hr T.inj (ma_cons (mv 0) (ma_cons (me_item (mv 1) (me_int)) (ma_nil)))) (me_int))) (mss_cons (ms_if (mt_cmp (r_eq (hu64 hr)) (me_item (mv 1) (me_int)) (me_bin r_sub (me_int) (mv 3)) (nomark _)) (mss_one (ms_set (i:=4) z44.nd rfl (Or.inl rfl) (me_bin r_sub (me_callB (c_min rfl) (by rfl) T.b_min boot_min (ma_cons (mv 5) (ma_cons (me_int) (ma_nil)))) (me_bin r_shl (mc z1a hr T.inj (ma_cons (mv 0) (ma_cons (mv 3) (ma_nil)))) (me_int))))) (mss_nil)) (mss_cons (ms_if (mt_cmp (r_eq (hu64 hr)) (me_item (mv 1) (me_int)) (mv 3) (nomark _)) (mss_one (ms_set (i:=5) z44.nd rfl (Or.inl rfl) (me_bin r_add (me_callB (c_max rfl) (by rfl) T.b_max boot_max (ma_cons (mv 4) (ma_cons (me_int) (ma_nil)))) (me_bin r_shl (mc z1a hr T.inj (ma_cons (mv 0) (ma_cons (mv 3) (ma_nil)))) (me_int))))) (mss_nil)) (mss_one (ms_ret (me_bin r_add (mv 4) (me_bin r_div (me_bin r_mul (me_bin r_sub (mv 5) (mv 4)) (me_bin r_mod (mv 2) (me_int))) (me_int)))))))))
theorem z5b:FnScope ["_law_wide_here","_law_found","_law_half","_law_last","_law_low","_law_high"] ["_law_wide_here","_law_found"] (defScope (top 112)):=⟨rfl,rfl,rfl,by decide +kernel,rfl,by decide +kernel,by decide +kernel⟩
theorem z20 {f:Addr}{fd:FuncData} (T:Tx K mg cl) (D:DefAt K mg "_law_is_span" (top 112) f fd) (g_Lrank_v2:FG P w K mg base cl 1 "_law_rank" 2 z4) (z3m:FG P w K mg base cl 1 "_law_whole" 1 z36):FG P w K mg base cl 2 "_law_is_span" 2 z23 :=
  D.fg (N:=["_law_wide_here","_law_found","_law_half","_law_last","_law_low","_law_high"]) (k:=1) z5b rfl (fun _ _ _ _ _ _=>Mi.ln2 fun _ _=>rfl) fun cdv A outer s H E hr =>
    mss_cons (ms_set (i:=2) z5b.nd rfl (Or.inl rfl) (me_bin r_shl (me_int) (me_bin r_add (me_item (mv 0) (me_int)) (me_item (mv 0) (me_int))))) (mss_cons (ms_set (i:=3) z5b.nd rfl (Or.inl rfl) (me_bin r_shl (me_bin r_sub (me_bin r_shl (me_int) (me_item (mv 0) (me_int))) (me_int)) (me_item (mv 0) (me_int)))) (mss_cons (ms_if ((mw_or (mt_not (mt_val (me_isinst .tuple (mv 1) (by rfl) T.b_isinstance (by rfl) T.b_tuple))) (mw_or (mt_cmp (r_ne (hu64 hr)) (me_callB c_len (by rfl) T.b_len PySem.boot_len (ma_cons (mv 1) (ma_nil))) (me_int) (nomark _)) (mw_or (mt_not (mt_val (mc z3m hr T.inj (ma_cons (me_item (mv 1) (me_int)) (ma_nil))))) (mw_or1 (mt_not (mt_val (mc z3m hr T.inj (ma_cons (me_item (mv 1) (me_int)) (ma_nil))))))))).mt) (mss_one (ms_ret (me_bl))) (mss_nil)) (mss_cons (ms_if ((mw_or (mt_cmp r_lt (me_callB (c_min1 rfl) (by rfl) T.b_min boot_min (ma_cons (mv 1) (ma_nil))) (me_int) (nomark _)) (mw_or (mt_cmp r_gt (me_callB (c_max1 rfl) (by rfl) T.b_max boot_max (ma_cons (mv 1) (ma_nil))) (me_bin r_add (mv 2) (mv 3)) (nomark _)) (mw_or1 (mt_cmp r_in (mv 2) (mv 1) (by with_unfolding_all rfl))))).mt) (mss_one (ms_ret (me_bl))) (mss_nil)) (mss_cons (ms_set (i:=4) z5b.nd rfl (Or.inl rfl) (mc g_Lrank_v2 hr T.inj (ma_cons (mv 0) (ma_cons (me_item (mv 1) (me_int)) (ma_nil))))) (mss_cons (ms_set (i:=5) z5b.nd rfl (Or.inl rfl) (mc g_Lrank_v2 hr T.inj (ma_cons (mv 0) (ma_cons (me_item (mv 1) (me_int)) (ma_nil))))) (mss_one (ms_ret (me_and (me_chain3 r_le r_le r_le (me_bin r_sub (me_int) (mv 3)) (mv 4) (mv 5) (mv 3)) (me_and (me_cmp r_lt (mv 4) (mv 3) (nomark _)) (me_one (me_cmp r_gt (mv 5) (me_bin r_sub (me_int) (mv 3)) (nomark _))))))))))))
theorem z43:FnScope ["_law_wide_here","_law_rank_here","_law_amount_here","_law_least","_law_low","_law_n","_law_k","_law_d"] ["_law_wide_here","_law_rank_here","_law_amount_here"] (defScope (top 113)):=⟨rfl,rfl,rfl,by decide +kernel,rfl,by decide +kernel,by decide +kernel⟩
theorem z3k {f:Addr}{fd:FuncData} (T:Tx K mg cl) (D:DefAt K mg "_law_not_above" (top 113) f fd) (z1a:FG P w K mg base cl 1 "_law_steps" 2 zw):FG P w K mg base cl 2 "_law_not_above" 3 z34 :=
  D.fg (N:=["_law_wide_here","_law_rank_here","_law_amount_here","_law_least","_law_low","_law_n","_law_k","_law_d"]) (k:=1) z43 rfl (fun _ _ _ _ _ _=>Mi.ln3 fun _ _ _=>rfl) fun cdv A outer s H E hr =>
    mss_cons (ms_unpack rfl (mv 2) (mgs_cons (i:=5) z43.nd rfl (Or.inl rfl) (mgs_cons (i:=6) z43.nd rfl (Or.inl rfl) (mgs_cons (i:=7) z43.nd rfl (Or.inl rfl) (mgs_nil)))) (show ∀ i∈([5,6,7]:List Nat),i<8 by decide)) (mss_cons (ms_set (i:=3) z43.nd rfl (Or.inl rfl) (me_bin r_sub (me_bin r_sub (me_int) (me_bin r_shl (me_int) (me_bin r_sub (me_item (mv 0) (me_int)) (me_int)))) (me_item (mv 0) (me_int)))) (mss_cons (ms_set (i:=4) z43.nd rfl (Or.inl rfl) (me_callB (c_min rfl) (by rfl) T.b_min boot_min (ma_cons (mv 3) (ma_cons (mv 6) (ma_nil))))) (mss_one (ms_ret (me_cmp r_le (me_bin r_shl (me_bin r_mul (mc z1a hr T.inj (ma_cons (mv 0) (ma_cons (mv 1) (ma_nil)))) (mv 7)) (me_bin r_sub (mv 3) (mv 4))) (me_bin r_shl (mv 5) (me_bin r_sub (mv 6) (mv 4))) (nomark _))))))
theorem zaw:FnScope ["e","f"] ["e","f"] (defScope (top 14)):=⟨rfl,rfl,rfl,by decide +kernel,rfl,by decide +kernel,by decide +kernel⟩
theorem z2m {f:Addr}{fd:FuncData} (T:Tx K mg cl) (D:DefAt K mg "width_of" (top 14) f fd) (zn:FG P w K mg base cl 2 "is_within" 3 zy):FG P w K mg base cl 3 "width_of" 2 z2y :=
  D.fg (N:=["e","f"]) (k:=2) zaw rfl (fun _ _ _ _ _ _=>Mi.ln2 fun _ _=>rfl) fun cdv A outer s H E hr =>
    mss_cons (ms_if (mt_not (mt_val (mc zn hr T.inj (ma_cons (mv 0) (ma_cons (me_globI (by rfl) T.c_LEAST_E) (ma_cons (me_globI (by rfl) T.c_MOST_E) (ma_nil))))))) (mss_one (ms_raise (c:=1) (T.cls.cls 1 "NoWidth" (at_mem 1 rfl)) own_cx (by rfl) hr.hd (mv_join (mvs_cons (mv_str 44) (mvs_cons (mv_fmt (me_globI (by rfl) T.c_LEAST_E)) (mvs_cons (mv_str 4) (mvs_cons (mv_fmt (me_globI (by rfl) T.c_MOST_E)) (mvs_nil)))))))) (mss_nil)) (mss_cons (ms_if (mt_not (mt_val (mc zn hr T.inj (ma_cons (mv 1) (ma_cons (me_globI (by rfl) T.c_LEAST_F) (ma_cons (me_globI (by rfl) T.c_MOST_F) (ma_nil))))))) (mss_one (ms_raise (c:=1) (T.cls.cls 1 "NoWidth" (at_mem 1 rfl)) own_cx (by rfl) hr.hd (mv_join (mvs_cons (mv_str 44) (mvs_cons (mv_fmt (me_globI (by rfl) T.c_LEAST_F)) (mvs_cons (mv_str 4) (mvs_cons (mv_fmt (me_globI (by rfl) T.c_MOST_F)) (mvs_nil)))))))) (mss_nil)) (mss_one (ms_ret (me_tup (ma_cons (mv 0) (ma_cons (mv 1) (ma_nil)))))))
theorem za3:FnScope ["part","count"] ["part","count"] (defScope (top 22)):=⟨rfl,rfl,rfl,by decide +kernel,rfl,by decide +kernel,by decide +kernel⟩
theorem z31 {f:Addr}{fd:FuncData} (T:Tx K mg cl) (D:DefAt K mg "check_part" (top 22) f fd) (zn:FG P w K mg base cl 2 "is_within" 3 zy) (z8:FG P w K mg base cl 1 "all_ones" 1 zo):FG P w K mg base cl 3 "check_part" 2 z2r :=
  D.fg (N:=["part","count"]) (k:=2) za3 rfl (fun _ _ _ _ _ _=>Mi.ln2 fun _ _=>rfl) fun cdv A outer s H E hr =>
    mss_one (ms_if (mt_not (mt_val (mc zn hr T.inj (ma_cons (mv 0) (ma_cons (me_int) (ma_cons (mc z8 hr T.inj (ma_cons (mv 1) (ma_nil))) (ma_nil))))))) (mss_one (ms_raise (c:=2) (T.cls.cls 2 "NoWord" (at_mem 2 rfl)) own_cx (by rfl) hr.hd (mv_join (mvs_cons (mv_str 59) (mvs_cons (mv_fmt (mv 1)) (mvs_cons (mv_str 5) (mvs_nil))))))) (mss_nil))
theorem z7c:FnScope ["n","k","d","number","one","other"] ["n","k","d","number"] (defScope (top 44)):=⟨rfl,rfl,rfl,by decide +kernel,rfl,by decide +kernel,by decide +kernel⟩
theorem z3o {f:Addr}{fd:FuncData} (T:Tx K mg cl) (D:DefAt K mg "against" (top 44) f fd) (zm:FG P w K mg base cl 1 "exact" 2 z5) (z2g:FG P w K mg base cl 2 "multiplied" 2 z18) (z4p:FG P w K mg base cl 2 "is_below" 2 z3s):FG P w K mg base cl 3 "against" 4 z15 :=
  D.fg (N:=["n","k","d","number","one","other"]) (k:=2) z7c rfl (fun _ _ _ _ _ _=>Mi.ln4 fun _ _ _ _=>rfl) fun cdv A outer s H E hr =>
    mss_cons (ms_set (i:=4) z7c.nd rfl (Or.inl rfl) (mc zm hr T.inj (ma_cons (mv 0) (ma_cons (mv 1) (ma_nil))))) (mss_cons (ms_set (i:=5) z7c.nd rfl (Or.inl rfl) (mc z2g hr T.inj (ma_cons (mv 3) (ma_cons (mc zm hr T.inj (ma_cons (mv 2) (ma_cons (me_int) (ma_nil)))) (ma_nil))))) (mss_cons (ms_if (mt_cmp (r_eq (hu64 hr)) (mv 4) (mv 5) (nomark _)) (mss_one (ms_ret (me_int))) (mss_nil)) (mss_one (ms_ret (me_if (mt_val (mc z4p hr T.inj (ma_cons (mv 4) (ma_cons (mv 5) (ma_nil))))) (me_una r_neg (me_int)) (me_int))))))
theorem z5j:FnScope ["terms","number","term","size"] ["terms"] (defScope (top 77)):=⟨rfl,rfl,rfl,by decide +kernel,rfl,by decide +kernel,by decide +kernel⟩
theorem z54 {f:Addr}{fd:FuncData} (T:Tx K mg cl) (D:DefAt K mg "summed" (top 77) f fd) (z4k:FG P w K mg base cl 2 "added" 2 z2p):FG P w K mg base cl 3 "summed" 1 z41 :=
  D.fg (N:=["terms","number","term","size"]) (k:=2) z5j rfl (fun _ _ _ _ _ _=>Mi.ln1 fun _=>rfl) fun cdv A outer s H E hr =>
    mss_cons (ms_set (i:=1) z5j.nd rfl (Or.inl rfl) (me_globK (by rfl) T.c_NOUGHT)) (mss_cons (ms_for (i:=2) own_cx rfl z5j.nd rfl (Or.inl rfl) (mi_seq (mv 0)) (mss_cons (ms_set (i:=3) z5j.nd rfl (Or.inl rfl) (me_item (mv 2) (me_int))) (mss_one (ms_set (i:=1) z5j.nd rfl (Or.inl rfl) (mc z4k hr T.inj (ma_cons (mv 1) (ma_cons (me_if (mt_val (me_item (mv 2) (me_int))) (me_tup (ma_cons (me_una r_neg (me_item (mv 3) (me_int))) (ma_cons (me_item (mv 3) (me_int)) (ma_nil)))) (mv 3)) (ma_nil)))))))) (mss_one (ms_ret (mv 1))))
theorem z5a:FnScope ["_law_wide_here","_law_found","_law_amount_here","_law_last","_law_low","_law_high","_law_turn"] ["_law_wide_here","_law_found","_law_amount_here"] (defScope (top 114)):=⟨rfl,rfl,rfl,by decide +kernel,rfl,by decide +kernel,by decide +kernel⟩
theorem z3i {f:Addr}{fd:FuncData} (T:Tx K mg cl) (D:DefAt K mg "_law_holds" (top 114) f fd) (g_Lrank_v2:FG P w K mg base cl 1 "_law_rank" 2 z4) (z3k:FG P w K mg base cl 2 "_law_not_above" 3 z34):FG P w K mg base cl 3 "_law_holds" 3 z1n :=
  D.fg (N:=["_law_wide_here","_law_found","_law_amount_here","_law_last","_law_low","_law_high","_law_turn"]) (k:=2) z5a rfl (fun _ _ _ _ _ _=>Mi.ln3 fun _ _ _=>rfl) fun cdv A outer s H E hr =>
    mss_cons (ms_set (i:=3) z5a.nd rfl (Or.inl rfl) (me_bin r_shl (me_bin r_sub (me_bin r_shl (me_int) (me_item (mv 0) (me_int))) (me_int)) (me_item (mv 0) (me_int)))) (mss_cons (ms_set (i:=4) z5a.nd rfl (Or.inl rfl) (mc g_Lrank_v2 hr T.inj (ma_cons (mv 0) (ma_cons (me_item (mv 1) (me_int)) (ma_nil))))) (mss_cons (ms_set (i:=5) z5a.nd rfl (Or.inl rfl) (mc g_Lrank_v2 hr T.inj (ma_cons (mv 0) (ma_cons (me_item (mv 1) (me_int)) (ma_nil))))) (mss_cons (ms_if ((mw_and (mt_cmp r_gt (mv 4) (me_bin r_sub (me_int) (mv 3)) (nomark _)) (mw_and1 (mt_not (mt_val (mc z3k hr T.inj (ma_cons (mv 0) (ma_cons (mv 4) (ma_cons (mv 2) (ma_nil))))))))).mt) (mss_one (ms_ret (me_bl))) (mss_nil)) (mss_cons (ms_set (i:=6) z5a.nd rfl (Or.inl rfl) (me_tup (ma_cons (me_bin r_sub (me_int) (me_item (mv 2) (me_int))) (ma_cons (me_item (mv 2) (me_int)) (ma_cons (me_item (mv 2) (me_int)) (ma_nil)))))) (mss_one (ms_ret (me_or (me_cmp (r_eq (hu64 hr)) (mv 5) (mv 3) (nomark _)) (me_one (mc z3k hr T.inj (ma_cons (mv 0) (ma_cons (me_bin r_sub (me_int) (mv 5)) (ma_cons (mv 6) (ma_nil)))))))))))))
theorem za4:FnScope ["width"] ["width"] (defScope (top 15)):=⟨rfl,rfl,rfl,by decide +kernel,rfl,by decide +kernel,by decide +kernel⟩
theorem g_check_width {f:Addr}{fd:FuncData} (T:Tx K mg cl) (D:DefAt K mg "check_width" (top 15) f fd) (z2m:FG P w K mg base cl 3 "width_of" 2 z2y):FG P w K mg base cl 4 "check_width" 1 z9 :=
  D.fg (N:=["width"]) (k:=3) za4 rfl (fun _ _ _ _ _ _=>Mi.ln1 fun _=>rfl) fun cdv A outer s H E hr =>
    mss_cons (ms_if ((mw_or (mt_not (mt_val (me_isinst .tuple (mv 0) (by rfl) T.b_isinstance (by rfl) T.b_tuple))) (mw_or1 (mt_cmp (r_ne (hu64 hr)) (me_callB c_len (by rfl) T.b_len PySem.boot_len (ma_cons (mv 0) (ma_nil))) (me_int) (nomark _)))).mt) (mss_one (ms_raise (c:=1) (T.cls.cls 1 "NoWidth" (at_mem 1 rfl)) own_cx (by rfl) hr.hd (mv_str 39))) (mss_nil)) (mss_one (ms_expr (mc z2m hr T.inj (ma_cons (me_item (mv 0) (me_int)) (ma_cons (me_item (mv 0) (me_int)) (ma_nil))))))
theorem zah:FnScope ["width"] ["width"] (defScope (top 16)):=⟨rfl,rfl,rfl,by decide +kernel,rfl,by decide +kernel,by decide +kernel⟩
theorem z4s {f:Addr}{fd:FuncData} (T:Tx K mg cl) (D:DefAt K mg "many_words" (top 16) f fd) (g_check_width:FG P w K mg base cl 4 "check_width" 1 z9):FG P w K mg base cl 5 "many_words" 1 z3v :=
  D.fg (N:=["width"]) (k:=4) zah rfl (fun _ _ _ _ _ _=>Mi.ln1 fun _=>rfl) fun cdv A outer s H E hr =>
    mss_cons (ms_expr (mc g_check_width hr T.inj (ma_cons (mv 0) (ma_nil)))) (mss_one (ms_ret (me_bin r_shl (me_int) (me_bin r_add (me_bin r_add (me_int) (me_item (mv 0) (me_int))) (me_item (mv 0) (me_int))))))
theorem za2:FnScope ["width"] ["width"] (defScope (top 17)):=⟨rfl,rfl,rfl,by decide +kernel,rfl,by decide +kernel,by decide +kernel⟩
theorem z2c {f:Addr}{fd:FuncData} (T:Tx K mg cl) (D:DefAt K mg "bias_of" (top 17) f fd) (g_check_width:FG P w K mg base cl 4 "check_width" 1 z9):FG P w K mg base cl 5 "bias_of" 1 z2q :=
  D.fg (N:=["width"]) (k:=4) za2 rfl (fun _ _ _ _ _ _=>Mi.ln1 fun _=>rfl) fun cdv A outer s H E hr =>
    mss_cons (ms_expr (mc g_check_width hr T.inj (ma_cons (mv 0) (ma_nil)))) (mss_one (ms_ret (me_bin r_sub (me_bin r_shl (me_int) (me_bin r_sub (me_item (mv 0) (me_int)) (me_int))) (me_int))))
theorem zaf:FnScope ["width","sign","exponent","fraction"] ["width","sign","exponent","fraction"] (defScope (top 24)):=⟨rfl,rfl,rfl,by decide +kernel,rfl,by decide +kernel,by decide +kernel⟩
theorem z2f {f:Addr}{fd:FuncData} (T:Tx K mg cl) (D:DefAt K mg "joined" (top 24) f fd) (g_check_width:FG P w K mg base cl 4 "check_width" 1 z9) (z31:FG P w K mg base cl 3 "check_part" 2 z2r):FG P w K mg base cl 5 "joined" 4 z2v :=
  D.fg (N:=["width","sign","exponent","fraction"]) (k:=4) zaf rfl (fun _ _ _ _ _ _=>Mi.ln4 fun _ _ _ _=>rfl) fun cdv A outer s H E hr =>
    mss_cons (ms_expr (mc g_check_width hr T.inj (ma_cons (mv 0) (ma_nil)))) (mss_cons (ms_expr (mc z31 hr T.inj (ma_cons (mv 1) (ma_cons (me_int) (ma_nil))))) (mss_cons (ms_expr (mc z31 hr T.inj (ma_cons (mv 2) (ma_cons (me_item (mv 0) (me_int)) (ma_nil))))) (mss_cons (ms_expr (mc z31 hr T.inj (ma_cons (mv 3) (ma_cons (me_item (mv 0) (me_int)) (ma_nil))))) (mss_one (ms_ret (me_bin r_add (me_bin r_add (me_bin r_shl (mv 1) (me_bin r_add (me_item (mv 0) (me_int)) (me_item (mv 0) (me_int)))) (me_bin r_shl (mv 2) (me_item (mv 0) (me_int)))) (mv 3)))))))
theorem zag:FnScope ["width"] ["width"] (defScope (top 18)):=⟨rfl,rfl,rfl,by decide +kernel,rfl,by decide +kernel,by decide +kernel⟩
theorem z1b {f:Addr}{fd:FuncData} (T:Tx K mg cl) (D:DefAt K mg "least_power" (top 18) f fd) (z2c:FG P w K mg base cl 5 "bias_of" 1 z2q):FG P w K mg base cl 6 "least_power" 1 z1q :=
  D.fg (N:=["width"]) (k:=5) zag rfl (fun _ _ _ _ _ _=>Mi.ln1 fun _=>rfl) fun cdv A outer s H E hr =>
    mss_one (ms_ret (me_bin r_sub (me_bin r_sub (me_int) (mc z2c hr T.inj (ma_cons (mv 0) (ma_nil)))) (me_item (mv 0) (me_int))))
theorem za5:FnScope ["width","word"] ["width","word"] (defScope (top 21)):=⟨rfl,rfl,rfl,by decide +kernel,rfl,by decide +kernel,by decide +kernel⟩
theorem zl {f:Addr}{fd:FuncData} (T:Tx K mg cl) (D:DefAt K mg "check_word" (top 21) f fd) (zn:FG P w K mg base cl 2 "is_within" 3 zy) (z4s:FG P w K mg base cl 5 "many_words" 1 z3v):FG P w K mg base cl 6 "check_word" 2 zp :=
  D.fg (N:=["width","word"]) (k:=5) za5 rfl (fun _ _ _ _ _ _=>Mi.ln2 fun _ _=>rfl) fun cdv A outer s H E hr =>
    mss_one (ms_if (mt_not (mt_val (mc zn hr T.inj (ma_cons (mv 1) (ma_cons (me_int) (ma_cons (me_bin r_sub (mc z4s hr T.inj (ma_cons (mv 0) (ma_nil))) (me_int)) (ma_nil))))))) (mss_one (ms_raise (c:=2) (T.cls.cls 2 "NoWord" (at_mem 2 rfl)) own_cx (by rfl) hr.hd (mv_str 71))) (mss_nil))
theorem zal:FnScope ["width"] ["width"] (defScope (top 26)):=⟨rfl,rfl,rfl,by decide +kernel,rfl,by decide +kernel,by decide +kernel⟩
theorem z13 {f:Addr}{fd:FuncData} (T:Tx K mg cl) (D:DefAt K mg "none_of" (top 26) f fd) (g_check_width:FG P w K mg base cl 4 "check_width" 1 z9) (z2f:FG P w K mg base cl 5 "joined" 4 z2v) (z8:FG P w K mg base cl 1 "all_ones" 1 zo) (z2e:FG P w K mg base cl 1 "highest_of_fraction" 1 z2u):FG P w K mg base cl 6 "none_of" 1 z1i :=
  D.fg (N:=["width"]) (k:=5) zal rfl (fun _ _ _ _ _ _=>Mi.ln1 fun _=>rfl) fun cdv A outer s H E hr =>
    mss_cons (ms_expr (mc g_check_width hr T.inj (ma_cons (mv 0) (ma_nil)))) (mss_one (ms_ret (mc z2f hr T.inj (ma_cons (mv 0) (ma_cons (me_int) (ma_cons (mc z8 hr T.inj (ma_cons (me_item (mv 0) (me_int)) (ma_nil))) (ma_cons (mc z2e hr T.inj (ma_cons (mv 0) (ma_nil))) (ma_nil))))))))
theorem za8:FnScope ["width"] ["width"] (defScope (top 27)):=⟨rfl,rfl,rfl,by decide +kernel,rfl,by decide +kernel,by decide +kernel⟩
theorem g_endless_of {f:Addr}{fd:FuncData} (T:Tx K mg cl) (D:DefAt K mg "endless_of" (top 27) f fd) (g_check_width:FG P w K mg base cl 4 "check_width" 1 z9) (z2f:FG P w K mg base cl 5 "joined" 4 z2v) (z8:FG P w K mg base cl 1 "all_ones" 1 zo):FG P w K mg base cl 6 "endless_of" 1 z7 :=
  D.fg (N:=["width"]) (k:=5) za8 rfl (fun _ _ _ _ _ _=>Mi.ln1 fun _=>rfl) fun cdv A outer s H E hr =>
    mss_cons (ms_expr (mc g_check_width hr T.inj (ma_cons (mv 0) (ma_nil)))) (mss_one (ms_ret (mc z2f hr T.inj (ma_cons (mv 0) (ma_cons (me_int) (ma_cons (mc z8 hr T.inj (ma_cons (me_item (mv 0) (me_int)) (ma_nil))) (ma_cons (me_int) (ma_nil))))))))
theorem zai:FnScope ["width","height","side"] ["width","height","side"] (defScope (top 66)):=⟨rfl,rfl,rfl,by decide +kernel,rfl,by decide +kernel,by decide +kernel⟩
theorem z4t {f:Addr}{fd:FuncData} (T:Tx K mg cl) (D:DefAt K mg "marks_of" (top 66) f fd) (z2c:FG P w K mg base cl 5 "bias_of" 1 z2q):FG P w K mg base cl 6 "marks_of" 3 z2w :=
  D.fg (N:=["width","height","side"]) (k:=5) zai rfl (fun _ _ _ _ _ _=>Mi.ln3 fun _ _ _=>rfl) fun cdv A outer s H E hr =>
    mss_cons (ms_if (mt_cmp (r_eq (hu64 hr)) (mv 2) (me_int) (nomark _)) (mss_one (ms_ret (me_int))) (mss_nil)) (mss_one (ms_ret (me_if (mt_cmp r_lt (mv 1) (me_bin r_sub (me_int) (mc z2c hr T.inj (ma_cons (mv 0) (ma_nil)))) (nomark _)) (me_bin r_add (me_globI (by rfl) T.c_NEAR) (me_globI (by rfl) T.c_SMALL)) (me_globI (by rfl) T.c_NEAR))))
theorem z5w:FnScope ["width","word","sign","exponent","fraction"] ["width","word"] (defScope (top 23)):=⟨rfl,rfl,rfl,by decide +kernel,rfl,by decide +kernel,by decide +kernel⟩
theorem zb0 {f:Addr}{fd:FuncData} (T:Tx K mg cl) (D:DefAt K mg "cut" (top 23) f fd) (zl:FG P w K mg base cl 6 "check_word" 2 zp) (z8:FG P w K mg base cl 1 "all_ones" 1 zo):FG P w K mg base cl 7 "cut" 2 zba :=
  D.fg (N:=["width","word","sign","exponent","fraction"]) (k:=6) z5w rfl (fun _ _ _ _ _ _=>Mi.ln2 fun _ _=>rfl) fun cdv A outer s H E hr =>
    mss_cons (ms_expr (mc zl hr T.inj (ma_cons (mv 0) (ma_cons (mv 1) (ma_nil))))) (mss_cons (ms_set (i:=2) z5w.nd rfl (Or.inl rfl) (me_bin r_shr (mv 1) (me_bin r_add (me_item (mv 0) (me_int)) (me_item (mv 0) (me_int))))) (mss_cons (ms_set (i:=3) z5w.nd rfl (Or.inl rfl) (me_bin r_and (me_bin r_shr (mv 1) (me_item (mv 0) (me_int))) (mc z8 hr T.inj (ma_cons (me_item (mv 0) (me_int)) (ma_nil))))) (mss_cons (ms_set (i:=4) z5w.nd rfl (Or.inl rfl) (me_bin r_and (mv 1) (mc z8 hr T.inj (ma_cons (me_item (mv 0) (me_int)) (ma_nil))))) (mss_one (ms_ret (me_tup (ma_cons (mv 2) (ma_cons (mv 3) (ma_cons (mv 4) (ma_nil))))))))))
theorem zat:FnScope ["width","word"] ["width","word"] (defScope (top 30)):=⟨rfl,rfl,rfl,by decide +kernel,rfl,by decide +kernel,by decide +kernel⟩
theorem z1d {f:Addr}{fd:FuncData} (T:Tx K mg cl) (D:DefAt K mg "turned" (top 30) f fd) (zl:FG P w K mg base cl 6 "check_word" 2 zp) (z2j:FG P w K mg base cl 1 "sign_bit" 1 z27):FG P w K mg base cl 7 "turned" 2 z19 :=
  D.fg (N:=["width","word"]) (k:=6) zat rfl (fun _ _ _ _ _ _=>Mi.ln2 fun _ _=>rfl) fun cdv A outer s H E hr =>
    mss_cons (ms_expr (mc zl hr T.inj (ma_cons (mv 0) (ma_cons (mv 1) (ma_nil))))) (mss_one (ms_ret (me_bin r_xor (mv 1) (mc z2j hr T.inj (ma_cons (mv 0) (ma_nil))))))
theorem zau:FnScope ["width","word"] ["width","word"] (defScope (top 31)):=⟨rfl,rfl,rfl,by decide +kernel,rfl,by decide +kernel,by decide +kernel⟩
theorem z2l {f:Addr}{fd:FuncData} (T:Tx K mg cl) (D:DefAt K mg "unsigned" (top 31) f fd) (zl:FG P w K mg base cl 6 "check_word" 2 zp) (z2j:FG P w K mg base cl 1 "sign_bit" 1 z27):FG P w K mg base cl 7 "unsigned" 2 z1x :=
  D.fg (N:=["width","word"]) (k:=6) zau rfl (fun _ _ _ _ _ _=>Mi.ln2 fun _ _=>rfl) fun cdv A outer s H E hr =>
    mss_cons (ms_expr (mc zl hr T.inj (ma_cons (mv 0) (ma_cons (mv 1) (ma_nil))))) (mss_one (ms_ret (me_bin r_and (mv 1) (me_bin r_sub (mc z2j hr T.inj (ma_cons (mv 0) (ma_nil))) (me_int)))))
theorem zaq:FnScope ["width","height"] ["width","height"] (defScope (top 63)):=⟨rfl,rfl,rfl,by decide +kernel,rfl,by decide +kernel,by decide +kernel⟩
theorem z2k {f:Addr}{fd:FuncData} (T:Tx K mg cl) (D:DefAt K mg "step_power" (top 63) f fd) (z1b:FG P w K mg base cl 6 "least_power" 1 z1q):FG P w K mg base cl 7 "step_power" 2 z1u :=
  D.fg (N:=["width","height"]) (k:=6) zaq rfl (fun _ _ _ _ _ _=>Mi.ln2 fun _ _=>rfl) fun cdv A outer s H E hr =>
    mss_one (ms_ret (me_callB (c_max rfl) (by rfl) T.b_max boot_max (ma_cons (me_bin r_sub (mv 1) (me_item (mv 0) (me_int))) (ma_cons (mc z1b hr T.inj (ma_cons (mv 0) (ma_nil))) (ma_nil)))))
theorem z8v:FnScope ["width","terms","kinds"] ["width","terms"] (defScope (top 75)):=⟨rfl,rfl,rfl,by decide +kernel,rfl,by decide +kernel,by decide +kernel⟩
theorem z2h {f:Addr}{fd:FuncData} (T:Tx K mg cl) (D:DefAt K mg "nones_told" (top 75) f fd) (z13:FG P w K mg base cl 6 "none_of" 1 z1i):FG P w K mg base cl 7 "nones_told" 2 z1r :=
  D.fg (N:=["width","terms","kinds"]) (k:=6) z8v rfl (fun _ _ _ _ _ _=>Mi.ln2 fun _ _=>rfl) fun cdv A outer s H E hr =>
    mss_cons (msC (i:=2) z8v.nd rfl (Or.inl rfl) (by decide +kernel) rfl (mi_seq (mv 1)) (fun _ _ _ _=>MC.nil) (fun _ _ _ _=>me_item (mv 3) (me_int))) (mss_cons (ms_if (mt_cmp r_in (me_str) (mv 2) (by with_unfolding_all rfl)) (mss_one (ms_ret (me_tup (ma_cons (mc z13 hr T.inj (ma_cons (mv 0) (ma_nil))) (ma_cons (me_globI (by rfl) T.c_WRONG) (ma_nil)))))) (mss_nil)) (mss_cons (ms_if (mt_cmp r_in (me_str) (mv 2) (by with_unfolding_all rfl)) (mss_one (ms_ret (me_tup (ma_cons (mc z13 hr T.inj (ma_cons (mv 0) (ma_nil))) (ma_cons (me_int) (ma_nil)))))) (mss_nil)) (mss_one (ms_ret (me_non)))))
theorem z60:FnScope ["width","word","parts","exponent","fraction"] ["width","word"] (defScope (top 25)):=⟨rfl,rfl,rfl,by decide +kernel,rfl,by decide +kernel,by decide +kernel⟩
theorem g_kind_of {f:Addr}{fd:FuncData} (T:Tx K mg cl) (D:DefAt K mg "kind_of" (top 25) f fd) (zb0:FG P w K mg base cl 7 "cut" 2 zba) (z8:FG P w K mg base cl 1 "all_ones" 1 zo) (z2e:FG P w K mg base cl 1 "highest_of_fraction" 1 z2u):FG P w K mg base cl 8 "kind_of" 2 zg :=
  D.fg (N:=["width","word","parts","exponent","fraction"]) (k:=7) z60 rfl (fun _ _ _ _ _ _=>Mi.ln2 fun _ _=>rfl) fun cdv A outer s H E hr =>
    mss_cons (ms_set (i:=2) z60.nd rfl (Or.inl rfl) (mc zb0 hr T.inj (ma_cons (mv 0) (ma_cons (mv 1) (ma_nil))))) (mss_cons (ms_set (i:=3) z60.nd rfl (Or.inl rfl) (me_item (mv 2) (me_int))) (mss_cons (ms_set (i:=4) z60.nd rfl (Or.inl rfl) (me_item (mv 2) (me_int))) (mss_cons (ms_if (mt_cmp (r_eq (hu64 hr)) (mv 3) (me_int) (nomark _)) (mss_one (ms_ret (me_if (mt_cmp (r_eq (hu64 hr)) (mv 4) (me_int) (nomark _)) (me_str) (me_str)))) (mss_nil)) (mss_cons (ms_if (mt_cmp r_lt (mv 3) (mc z8 hr T.inj (ma_cons (me_item (mv 0) (me_int)) (ma_nil))) (nomark _)) (mss_one (ms_ret (me_str))) (mss_nil)) (mss_cons (ms_if (mt_cmp (r_eq (hu64 hr)) (mv 4) (me_int) (nomark _)) (mss_one (ms_ret (me_str))) (mss_nil)) (mss_one (ms_ret (me_if (mt_cmp r_ge (mv 4) (mc z2e hr T.inj (ma_cons (mv 0) (ma_nil))) (nomark _)) (me_str) (me_str)))))))))
theorem zax:FnScope ["width","word","below"] ["width","word","below"] (defScope (top 32)):=⟨rfl,rfl,rfl,by decide +kernel,rfl,by decide +kernel,by decide +kernel⟩
theorem g_with_sign {f:Addr}{fd:FuncData} (T:Tx K mg cl) (D:DefAt K mg "with_sign" (top 32) f fd) (z1d:FG P w K mg base cl 7 "turned" 2 z19):FG P w K mg base cl 8 "with_sign" 3 zd :=
  D.fg (N:=["width","word","below"]) (k:=7) zax rfl (fun _ _ _ _ _ _=>Mi.ln3 fun _ _ _=>rfl) fun cdv A outer s H E hr =>
    mss_one (ms_ret (me_if (mt_val (mv 2)) (mc z1d hr T.inj (ma_cons (mv 0) (ma_cons (mv 1) (ma_nil)))) (mv 1)))
theorem z3c:FnScope ["width","word","kind","parts","steps","power"] ["width","word"] (defScope (top 39)):=⟨rfl,rfl,rfl,by decide +kernel,rfl,by decide +kernel,by decide +kernel⟩
theorem z22 {f:Addr}{fd:FuncData} (T:Tx K mg cl) (D:DefAt K mg "value_of" (top 39) f fd) (g_kind_of:FG P w K mg base cl 8 "kind_of" 2 zg) (zb0:FG P w K mg base cl 7 "cut" 2 zba) (z1b:FG P w K mg base cl 6 "least_power" 1 z1q) (zm:FG P w K mg base cl 1 "exact" 2 z5):FG P w K mg base cl 9 "value_of" 2 zk :=
  D.fg (N:=["width","word","kind","parts","steps","power"]) (k:=8) z3c rfl (fun _ _ _ _ _ _=>Mi.ln2 fun _ _=>rfl) fun cdv A outer s H E hr =>
    mss_cons (ms_set (i:=2) z3c.nd rfl (Or.inl rfl) (mc g_kind_of hr T.inj (ma_cons (mv 0) (ma_cons (mv 1) (ma_nil))))) (mss_cons (ms_if (mt_cmp (r_notIn (hu64 hr)) (mv 2) (me_tup (ma_cons (me_str) (ma_cons (me_str) (ma_cons (me_str) (ma_nil))))) (by with_unfolding_all rfl)) (mss_one (ms_raise (c:=4) (T.cls.cls 4 "NoNumber" (at_mem 4 rfl)) own_cx (by rfl) hr.hd (mv_str 31))) (mss_nil)) (mss_cons (ms_set (i:=3) z3c.nd rfl (Or.inl rfl) (mc zb0 hr T.inj (ma_cons (mv 0) (ma_cons (mv 1) (ma_nil))))) (mss_cons (ms_set (i:=4) z3c.nd rfl (Or.inl rfl) (me_item (mv 3) (me_int))) (mss_cons (ms_set (i:=5) z3c.nd rfl (Or.inl rfl) (mc z1b hr T.inj (ma_cons (mv 0) (ma_nil)))) (mss_cons (ms_if (mt_cmp (r_eq (hu64 hr)) (mv 2) (me_str) (nomark _)) (mss_cons (ms_set (i:=4) z3c.nd rfl (Or.inl rfl) (me_bin r_add (mv 4) (me_bin r_shl (me_int) (me_item (mv 0) (me_int))))) (mss_one (ms_set (i:=5) z3c.nd rfl (Or.inl rfl) (me_bin r_sub (me_bin r_add (mv 5) (me_item (mv 3) (me_int))) (me_int))))) (mss_nil)) (mss_one (ms_ret (mc zm hr T.inj (ma_cons (me_if (mt_cmp (r_eq (hu64 hr)) (me_item (mv 3) (me_int)) (me_int) (nomark _)) (me_una r_neg (mv 4)) (mv 4)) (ma_cons (mv 5) (ma_nil)))))))))))
theorem z8w:FnScope ["width","word","rank"] ["width","word"] (defScope (top 51)):=⟨rfl,rfl,rfl,by decide +kernel,rfl,by decide +kernel,by decide +kernel⟩
theorem zt {f:Addr}{fd:FuncData} (T:Tx K mg cl) (D:DefAt K mg "rank_of" (top 51) f fd) (z2l:FG P w K mg base cl 7 "unsigned" 2 z1x) (g_kind_of:FG P w K mg base cl 8 "kind_of" 2 zg) (zb0:FG P w K mg base cl 7 "cut" 2 zba):FG P w K mg base cl 9 "rank_of" 2 zb :=
  D.fg (N:=["width","word","rank"]) (k:=8) z8w rfl (fun _ _ _ _ _ _=>Mi.ln2 fun _ _=>rfl) fun cdv A outer s H E hr =>
    mss_cons (ms_if (mt_cmp r_in (mc g_kind_of hr T.inj (ma_cons (mv 0) (ma_cons (mv 1) (ma_nil)))) (me_tup (ma_cons (me_str) (ma_cons (me_str) (ma_nil)))) (by with_unfolding_all rfl)) (mss_one (ms_ret (me_non))) (mss_nil)) (mss_cons (ms_set (i:=2) z8w.nd rfl (Or.inl rfl) (mc z2l hr T.inj (ma_cons (mv 0) (ma_cons (mv 1) (ma_nil))))) (mss_one (ms_ret (me_if (mt_cmp (r_eq (hu64 hr)) (me_item (mc zb0 hr T.inj (ma_cons (mv 0) (ma_cons (mv 1) (ma_nil)))) (me_int)) (me_int) (nomark _)) (me_una r_neg (mv 2)) (mv 2)))))
theorem z8y:FnScope ["width","rank","most"] ["width","rank"] (defScope (top 52)):=⟨rfl,rfl,rfl,by decide +kernel,rfl,by decide +kernel,by decide +kernel⟩
theorem z1l {f:Addr}{fd:FuncData} (T:Tx K mg cl) (D:DefAt K mg "word_at" (top 52) f fd) (g_endless_of:FG P w K mg base cl 6 "endless_of" 1 z7) (g_with_sign:FG P w K mg base cl 8 "with_sign" 3 zd) (zn:FG P w K mg base cl 2 "is_within" 3 zy):FG P w K mg base cl 9 "word_at" 2 z12 :=
  D.fg (N:=["width","rank","most"]) (k:=8) z8y rfl (fun _ _ _ _ _ _=>Mi.ln2 fun _ _=>rfl) fun cdv A outer s H E hr =>
    mss_cons (ms_set (i:=2) z8y.nd rfl (Or.inl rfl) (mc g_endless_of hr T.inj (ma_cons (mv 0) (ma_nil)))) (mss_cons (ms_if (mt_not (mt_val (mc zn hr T.inj (ma_cons (mv 1) (ma_cons (me_una r_neg (mv 2)) (ma_cons (mv 2) (ma_nil))))))) (mss_one (ms_raise (c:=4) (T.cls.cls 4 "NoNumber" (at_mem 4 rfl)) own_cx (by rfl) hr.hd (mv_str 77))) (mss_nil)) (mss_one (ms_ret (mc g_with_sign hr T.inj (ma_cons (mv 0) (ma_cons (me_callB c_abs (by rfl) T.b_abs boot_abs (ma_cons (mv 1) (ma_nil))) (ma_cons (me_cmp r_lt (mv 1) (me_int) (nomark _)) (ma_nil))))))))
theorem z5f:FnScope ["width","chosen","below","height","place","endless","above_least","size"] ["width","chosen","below","height","place"] (defScope (top 65)):=⟨rfl,rfl,rfl,by decide +kernel,rfl,by decide +kernel,by decide +kernel⟩
theorem z4x {f:Addr}{fd:FuncData} (T:Tx K mg cl) (D:DefAt K mg "settled" (top 65) f fd) (g_endless_of:FG P w K mg base cl 6 "endless_of" 1 z7) (z2k:FG P w K mg base cl 7 "step_power" 2 z1u) (z1b:FG P w K mg base cl 6 "least_power" 1 z1q) (z53:FG P w K mg base cl 2 "steps_taken" 3 z39) (g_with_sign:FG P w K mg base cl 8 "with_sign" 3 zd) (z4t:FG P w K mg base cl 6 "marks_of" 3 z2w) (m_grows:FM P w K mg base cl 1 "grows" 3 z3d):FG P w K mg base cl 9 "settled" 5 z2x :=
  D.fg (N:=["width","chosen","below","height","place","endless","above_least","size"]) (k:=8) z5f rfl (fun _ _ _ _ _ _=>Mi.ln5 fun _ _ _ _ _=>rfl) fun cdv A outer s H E hr =>
    mss_cons (ms_set (i:=5) z5f.nd rfl (Or.inl rfl) (mc g_endless_of hr T.inj (ma_cons (mv 0) (ma_nil)))) (mss_cons (ms_set (i:=6) z5f.nd rfl (Or.inl rfl) (me_bin r_sub (mc z2k hr T.inj (ma_cons (mv 0) (ma_cons (mv 3) (ma_nil)))) (mc z1b hr T.inj (ma_cons (mv 0) (ma_nil))))) (mss_cons (ms_set (i:=7) z5f.nd rfl (Or.inl rfl) (me_bin r_add (me_bin r_shl (mv 6) (me_item (mv 0) (me_int))) (mc z53 hr T.inj (ma_cons (mv 1) (ma_cons (mv 4) (ma_cons (mv 2) (ma_nil))))))) (mss_cons (ms_if (mt_cmp r_lt (mv 7) (mv 5) (nomark _)) (mss_one (ms_ret (me_tup (ma_cons (mc g_with_sign hr T.inj (ma_cons (mv 0) (ma_cons (mv 7) (ma_cons (mv 2) (ma_nil))))) (ma_cons (mc z4t hr T.inj (ma_cons (mv 0) (ma_cons (mv 3) (ma_cons (me_item (mv 4) (me_int)) (ma_nil))))) (ma_nil)))))) (mss_nil)) (mss_cons (ms_set (i:=7) z5f.nd rfl (Or.inl rfl) (me_if (mt_val (mm m_grows hr T.inj (mv 1) (ma_cons (me_bl) (ma_cons (me_int) (ma_cons (mv 2) (ma_nil)))))) (mv 5) (me_bin r_sub (mv 5) (me_int)))) (mss_one (ms_ret (me_tup (ma_cons (mc g_with_sign hr T.inj (ma_cons (mv 0) (ma_cons (mv 7) (ma_cons (mv 2) (ma_nil))))) (ma_cons (me_bin r_add (me_globI (by rfl) T.c_GREAT) (me_globI (by rfl) T.c_NEAR)) (ma_nil))))))))))
theorem za9:FnScope ["width","ends"] ["width","ends"] (defScope (top 76)):=⟨rfl,rfl,rfl,by decide +kernel,rfl,by decide +kernel,by decide +kernel⟩
theorem z4l {f:Addr}{fd:FuncData} (T:Tx K mg cl) (D:DefAt K mg "ends_told" (top 76) f fd) (g_with_sign:FG P w K mg base cl 8 "with_sign" 3 zd) (z13:FG P w K mg base cl 6 "none_of" 1 z1i) (g_endless_of:FG P w K mg base cl 6 "endless_of" 1 z7):FG P w K mg base cl 9 "ends_told" 2 z2s :=
  D.fg (N:=["width","ends"]) (k:=8) za9 rfl (fun _ _ _ _ _ _=>Mi.ln2 fun _ _=>rfl) fun cdv A outer s H E hr =>
    mss_cons (ms_if ((mw_and (mt_val (me_callB (c_any rfl) (by rfl) T.b_any boot_any (ma_cons (mv 1) (ma_nil)))) (mw_and1 (mt_not (mt_val (me_callB (c_all rfl) (by rfl) T.b_all boot_all (ma_cons (mv 1) (ma_nil))))))).mt) (mss_one (ms_ret (me_tup (ma_cons (mc z13 hr T.inj (ma_cons (mv 0) (ma_nil))) (ma_cons (me_globI (by rfl) T.c_WRONG) (ma_nil)))))) (mss_nil)) (mss_one (ms_ret (me_tup (ma_cons (mc g_with_sign hr T.inj (ma_cons (mv 0) (ma_cons (mc g_endless_of hr T.inj (ma_cons (mv 0) (ma_nil))) (ma_cons (me_callB (c_all rfl) (by rfl) T.b_all boot_all (ma_cons (mv 1) (ma_nil))) (ma_nil))))) (ma_cons (me_int) (ma_nil))))))
theorem zab:FnScope ["width","word"] ["width","word"] (defScope (top 91)):=⟨rfl,rfl,rfl,by decide +kernel,rfl,by decide +kernel,by decide +kernel⟩
theorem z1j {f:Addr}{fd:FuncData} (T:Tx K mg cl) (D:DefAt K mg "is_endless" (top 91) f fd) (g_kind_of:FG P w K mg base cl 8 "kind_of" 2 zg):FG P w K mg base cl 9 "is_endless" 2 z17 :=
  D.fg (N:=["width","word"]) (k:=8) zab rfl (fun _ _ _ _ _ _=>Mi.ln2 fun _ _=>rfl) fun cdv A outer s H E hr =>
    mss_one (ms_ret (me_cmp (r_eq (hu64 hr)) (mc g_kind_of hr T.inj (ma_cons (mv 0) (ma_cons (mv 1) (ma_nil)))) (me_str) (nomark _)))
theorem z64:FnScope ["width","n","k","d","way","chosen","height","place"] ["width","n","k","d","way"] (defScope (top 62)):=⟨rfl,rfl,rfl,by decide +kernel,rfl,by decide +kernel,by decide +kernel⟩
theorem z14 {f:Addr}{fd:FuncData} (T:Tx K mg cl) (D:DefAtD K mg "taken" (top 62) f fd "even") (g_check_width:FG P w K mg base cl 4 "check_width" 1 z9) (z1e:FG P w K mg base cl 1 "way_of" 1 z1y) (z4m:FG P w K mg base cl 2 "height_of" 3 z2t) (z4o:FG P w K mg base cl 2 "in_steps" 4 z1p) (z4x:FG P w K mg base cl 9 "settled" 5 z2x) (z2k:FG P w K mg base cl 7 "step_power" 2 z1u):FGD P w K mg base cl 10 "taken" 5 zh "even" :=
  D.fg (N:=["width","n","k","d","way","chosen","height","place"]) (k:=9) z64 rfl (fun _ _ _ _ _ _ _ _=>Mi.ln5 fun _ _ _ _ _=>⟨_,rfl,rfl⟩) (fun _ _ _ _ _ _ _ _=>Mi.lm4 fun _ _ _ _=>⟨_,rfl,rfl⟩) fun cdv A outer s H E hr =>
    mss_cons (ms_expr (mc g_check_width hr T.inj (ma_cons (mv 0) (ma_nil)))) (mss_cons (ms_set (i:=5) z64.nd rfl (Or.inl rfl) (mc z1e hr T.inj (ma_cons (mv 4) (ma_nil)))) (mss_cons (ms_if (mt_cmp (r_eq (hu64 hr)) (mv 1) (me_int) (nomark _)) (mss_one (ms_ret (me_tup (ma_cons (me_int) (ma_cons (me_int) (ma_nil)))))) (mss_nil)) (mss_cons (ms_set (i:=6) z64.nd rfl (Or.inl rfl) (mc z4m hr T.inj (ma_cons (mv 1) (ma_cons (mv 2) (ma_cons (mv 3) (ma_nil)))))) (mss_cons (ms_set (i:=7) z64.nd rfl (Or.inl rfl) (mc z4o hr T.inj (ma_cons (mv 1) (ma_cons (mv 2) (ma_cons (mv 3) (ma_cons (mc z2k hr T.inj (ma_cons (mv 0) (ma_cons (mv 6) (ma_nil)))) (ma_nil))))))) (mss_one (ms_ret (mc z4x hr T.inj (ma_cons (mv 0) (ma_cons (mv 5) (ma_cons (me_cmp r_lt (mv 1) (me_int) (nomark _)) (ma_cons (mv 6) (ma_cons (mv 7) (ma_nil)))))))))))))
theorem z7g:FnScope ["width","word","kind","below"] ["width","word"] (defScope (top 71)):=⟨rfl,rfl,rfl,by decide +kernel,rfl,by decide +kernel,by decide +kernel⟩
theorem zv {f:Addr}{fd:FuncData} (T:Tx K mg cl) (D:DefAt K mg "term_of" (top 71) f fd) (g_kind_of:FG P w K mg base cl 8 "kind_of" 2 zg) (z22:FG P w K mg base cl 9 "value_of" 2 zk) (zb0:FG P w K mg base cl 7 "cut" 2 zba) (z2l:FG P w K mg base cl 7 "unsigned" 2 z1x):FG P w K mg base cl 10 "term_of" 2 zc :=
  D.fg (N:=["width","word","kind","below"]) (k:=9) z7g rfl (fun _ _ _ _ _ _=>Mi.ln2 fun _ _=>rfl) fun cdv A outer s H E hr =>
    mss_cons (ms_set (i:=2) z7g.nd rfl (Or.inl rfl) (mc g_kind_of hr T.inj (ma_cons (mv 0) (ma_cons (mv 1) (ma_nil))))) (mss_cons (ms_if (mt_cmp (r_eq (hu64 hr)) (mv 2) (me_str) (nomark _)) (mss_one (ms_ret (me_globK (by rfl) T.c_LOUD_TERM))) (mss_nil)) (mss_cons (ms_if (mt_cmp (r_eq (hu64 hr)) (mv 2) (me_str) (nomark _)) (mss_one (ms_ret (me_globK (by rfl) T.c_STILL_TERM))) (mss_nil)) (mss_cons (ms_set (i:=3) z7g.nd rfl (Or.inl rfl) (me_cmp (r_eq (hu64 hr)) (me_item (mc zb0 hr T.inj (ma_cons (mv 0) (ma_cons (mv 1) (ma_nil)))) (me_int)) (me_int) (nomark _))) (mss_cons (ms_if (mt_cmp (r_eq (hu64 hr)) (mv 2) (me_str) (nomark _)) (mss_one (ms_ret (me_tup (ma_cons (me_str) (ma_cons (mv 3) (ma_cons (me_globK (by rfl) T.c_NOUGHT) (ma_nil))))))) (mss_nil)) (mss_one (ms_ret (me_tup (ma_cons (me_str) (ma_cons (mv 3) (ma_cons (mc z22 hr T.inj (ma_cons (mv 0) (ma_cons (mc z2l hr T.inj (ma_cons (mv 0) (ma_cons (mv 1) (ma_nil)))) (ma_nil)))) (ma_nil)))))))))))
theorem z61:FnScope ["width","low","high","lowest","highest","most"] ["width","low","high"] (defScope (top 87)):=⟨rfl,rfl,rfl,by decide +kernel,rfl,by decide +kernel,by decide +kernel⟩
theorem z1c {f:Addr}{fd:FuncData} (T:Tx K mg cl) (D:DefAt K mg "span_from" (top 87) f fd) (zt:FG P w K mg base cl 9 "rank_of" 2 zb) (g_endless_of:FG P w K mg base cl 6 "endless_of" 1 z7) (z1l:FG P w K mg base cl 9 "word_at" 2 z12):FG P w K mg base cl 10 "span_from" 3 zx :=
  D.fg (N:=["width","low","high","lowest","highest","most"]) (k:=9) z61 rfl (fun _ _ _ _ _ _=>Mi.ln3 fun _ _ _=>rfl) fun cdv A outer s H E hr =>
    mss_cons (ms_set (i:=3) z61.nd rfl (Or.inl rfl) (mc zt hr T.inj (ma_cons (mv 0) (ma_cons (mv 1) (ma_nil))))) (mss_cons (ms_set (i:=4) z61.nd rfl (Or.inl rfl) (mc zt hr T.inj (ma_cons (mv 0) (ma_cons (mv 2) (ma_nil))))) (mss_cons (ms_set (i:=5) z61.nd rfl (Or.inl rfl) (mc g_endless_of hr T.inj (ma_cons (mv 0) (ma_nil)))) (mss_cons (ms_if ((mw_or (zc8 (mv 3)) (mw_or (zc8 (mv 4)) (mw_or (mt_cmp r_gt (mv 3) (mv 4) (nomark _)) (mw_or (mt_cmp (r_eq (hu64 hr)) (mv 3) (mv 5) (nomark _)) (mw_or1 (mt_cmp (r_eq (hu64 hr)) (mv 4) (me_una r_neg (mv 5)) (nomark _))))))).mt) (mss_one (ms_raise (c:=7) (T.cls.cls 7 "NoSpan" (at_mem 5 rfl)) own_cx (by rfl) hr.hd (mv_str 74))) (mss_nil)) (mss_one (ms_ret (me_tup (ma_cons (mc z1l hr T.inj (ma_cons (mv 0) (ma_cons (mv 3) (ma_nil)))) (ma_cons (mc z1l hr T.inj (ma_cons (mv 0) (ma_cons (mv 4) (ma_nil)))) (ma_nil)))))))))
theorem z5i:FnScope ["width","lows","highs","lowest","highest"] ["width","lows","highs"] (defScope (top 92)):=⟨rfl,rfl,rfl,by decide +kernel,rfl,by decide +kernel,by decide +kernel⟩
theorem zu {f:Addr}{fd:FuncData} (T:Tx K mg cl) (D:DefAt K mg "spanned" (top 92) f fd) (z1l:FG P w K mg base cl 9 "word_at" 2 z12) (zt:FG P w K mg base cl 9 "rank_of" 2 zb):FG P w K mg base cl 10 "spanned" 3 z11 :=
  D.fg (N:=["width","lows","highs","lowest","highest"]) (k:=9) z5i rfl (fun _ _ _ _ _ _=>Mi.ln3 fun _ _ _=>rfl) fun cdv A outer s H E hr =>
    mss_cons (ms_set (i:=3) z5i.nd rfl (Or.inl rfl) (me_callB (c_min1 rfl) (by rfl) T.b_min boot_min (ma_cons (mcomp z5i.nd (by decide +kernel) rfl (mi_seq (mv 1)) (fun _ _ _ _=>MC.nil) (fun _ _ _ _=>mcN zt hr (ma_cons (mv 0) (ma_cons (mv 5) (ma_nil))))) (ma_nil)))) (mss_cons (ms_set (i:=4) z5i.nd rfl (Or.inl rfl) (me_callB (c_max1 rfl) (by rfl) T.b_max boot_max (ma_cons (mcomp z5i.nd (by decide +kernel) rfl (mi_seq (mv 2)) (fun _ _ _ _=>MC.nil) (fun _ _ _ _=>mcN zt hr (ma_cons (mv 0) (ma_cons (mv 5) (ma_nil))))) (ma_nil)))) (mss_one (ms_ret (me_tup (ma_cons (mc z1l hr T.inj (ma_cons (mv 0) (ma_cons (mv 3) (ma_nil)))) (ma_cons (mc z1l hr T.inj (ma_cons (mv 0) (ma_cons (mv 4) (ma_nil)))) (ma_nil)))))))
theorem z5e:FnScope ["width","one","other","first","second","kinds","below"] ["width","one","other"] (defScope (top 73)):=⟨rfl,rfl,rfl,by decide +kernel,rfl,by decide +kernel,by decide +kernel⟩
theorem z4v {f:Addr}{fd:FuncData} (T:Tx K mg cl) (D:DefAt K mg "product" (top 73) f fd) (zv:FG P w K mg base cl 10 "term_of" 2 zc) (zf:FG P w K mg base cl 1 "is_nought" 1 q_is_nought) (z2g:FG P w K mg base cl 2 "multiplied" 2 z18):FG P w K mg base cl 11 "product" 3 za :=
  D.fg (N:=["width","one","other","first","second","kinds","below"]) (k:=10) z5e rfl (fun _ _ _ _ _ _=>Mi.ln3 fun _ _ _=>rfl) fun cdv A outer s H E hr =>
    mss_cons (ms_set (i:=3) z5e.nd rfl (Or.inl rfl) (mc zv hr T.inj (ma_cons (mv 0) (ma_cons (mv 1) (ma_nil))))) (mss_cons (ms_set (i:=4) z5e.nd rfl (Or.inl rfl) (mc zv hr T.inj (ma_cons (mv 0) (ma_cons (mv 2) (ma_nil))))) (mss_cons (ms_set (i:=5) z5e.nd rfl (Or.inl rfl) (me_tup (ma_cons (me_item (mv 3) (me_int)) (ma_cons (me_item (mv 4) (me_int)) (ma_nil))))) (mss_cons (ms_if (mt_cmp r_in (me_str) (mv 5) (by with_unfolding_all rfl)) (mss_one (ms_ret (me_globK (by rfl) T.c_LOUD_TERM))) (mss_nil)) (mss_cons (ms_if (mt_cmp r_in (me_str) (mv 5) (by with_unfolding_all rfl)) (mss_one (ms_ret (me_globK (by rfl) T.c_STILL_TERM))) (mss_nil)) (mss_cons (ms_set (i:=6) z5e.nd rfl (Or.inl rfl) (me_cmp (r_ne (hu64 hr)) (me_item (mv 3) (me_int)) (me_item (mv 4) (me_int)) (nomark _))) (mss_cons (ms_if (mt_cmp (r_notIn (hu64 hr)) (me_str) (mv 5) (by with_unfolding_all rfl)) (mss_one (ms_ret (me_tup (ma_cons (me_str) (ma_cons (mv 6) (ma_cons (mc z2g hr T.inj (ma_cons (me_item (mv 3) (me_int)) (ma_cons (me_item (mv 4) (me_int)) (ma_nil)))) (ma_nil))))))) (mss_nil)) (mss_cons (ms_if ((mw_or (mt_val (mc zf hr T.inj (ma_cons (mv 3) (ma_nil)))) (mw_or1 (mt_val (mc zf hr T.inj (ma_cons (mv 4) (ma_nil)))))).mt) (mss_one (ms_ret (me_globK (by rfl) T.c_LOUD_TERM))) (mss_nil)) (mss_one (ms_ret (me_tup (ma_cons (me_str) (ma_cons (mv 6) (ma_cons (me_globK (by rfl) T.c_NOUGHT) (ma_nil))))))))))))))
theorem z5x:FnScope ["width","terms","way","nones","ends","number"] ["width","terms","way"] (defScope (top 74)):=⟨rfl,rfl,rfl,by decide +kernel,rfl,by decide +kernel,by decide +kernel⟩
theorem z2d {f:Addr}{fd:FuncData} (T:Tx K mg cl) (D:DefAtD K mg "gathered" (top 74) f fd "even") (g_check_width:FG P w K mg base cl 4 "check_width" 1 z9) (z1e:FG P w K mg base cl 1 "way_of" 1 z1y) (z2h:FG P w K mg base cl 7 "nones_told" 2 z1r) (z54:FG P w K mg base cl 3 "summed" 1 z41) (z14:FGD P w K mg base cl 10 "taken" 5 zh "even") (z4l:FG P w K mg base cl 9 "ends_told" 2 z2s) (g_with_sign:FG P w K mg base cl 8 "with_sign" 3 zd) (z4q:FG P w K mg base cl 2 "is_nought_below" 2 z3t):FGD P w K mg base cl 11 "gathered" 3 zj "even" :=
  D.fg (N:=["width","terms","way","nones","ends","number"]) (k:=10) z5x rfl (fun _ _ _ _ _ _ _ _=>Mi.ln3 fun _ _ _=>⟨_,rfl,rfl⟩) (fun _ _ _ _ _ _ _ _=>Mi.lm2 fun _ _=>⟨_,rfl,rfl⟩) fun cdv A outer s H E hr =>
    mss_cons (ms_expr (mc g_check_width hr T.inj (ma_cons (mv 0) (ma_nil)))) (mss_cons (ms_expr (mc z1e hr T.inj (ma_cons (mv 2) (ma_nil)))) (mss_cons (ms_set (i:=3) z5x.nd rfl (Or.inl rfl) (mc z2h hr T.inj (ma_cons (mv 0) (ma_cons (mv 1) (ma_nil))))) (mss_cons (ms_if (z8z (mv 3)) (mss_one (ms_ret (mv 3))) (mss_nil)) (mss_cons (msC (i:=4) z5x.nd rfl (Or.inl rfl) (by decide +kernel) rfl (mi_seq (mv 1)) (fun _ _ _ _=>MC.one (mt_cmp (r_eq (hu64 hr)) (me_item (mv 6) (me_int)) (me_str) (nomark _))) (fun _ _ _ _=>me_item (mv 6) (me_int))) (mss_cons (ms_if (mt_val (mv 4)) (mss_one (ms_ret (mc z4l hr T.inj (ma_cons (mv 0) (ma_cons (mv 4) (ma_nil)))))) (mss_nil)) (mss_cons (ms_set (i:=5) z5x.nd rfl (Or.inl rfl) (mc z54 hr T.inj (ma_cons (mv 1) (ma_nil)))) (mss_cons (ms_if (mt_cmp (r_eq (hu64 hr)) (mv 5) (me_globK (by rfl) T.c_NOUGHT) (nomark _)) (mss_one (ms_ret (me_tup (ma_cons (mc g_with_sign hr T.inj (ma_cons (mv 0) (ma_cons (me_int) (ma_cons (mc z4q hr T.inj (ma_cons (mv 1) (ma_cons (mv 2) (ma_nil)))) (ma_nil))))) (ma_cons (me_int) (ma_nil)))))) (mss_nil)) (mss_one (ms_ret (mc z14.fg hr T.inj (ma_cons (mv 0) (ma_cons (me_item (mv 5) (me_int)) (ma_cons (me_item (mv 5) (me_int)) (ma_cons (me_int) (ma_cons (mv 2) (ma_nil))))))))))))))))
theorem z7f:FnScope ["width","first","second","way","below","n"] ["width","first","second","way"] (defScope (top 81)):=⟨rfl,rfl,rfl,by decide +kernel,rfl,by decide +kernel,by decide +kernel⟩
theorem z4w {f:Addr}{fd:FuncData} (T:Tx K mg cl) (D:DefAt K mg "quotient_of" (top 81) f fd) (zf:FG P w K mg base cl 1 "is_nought" 1 q_is_nought) (z14:FGD P w K mg base cl 10 "taken" 5 zh "even") (g_with_sign:FG P w K mg base cl 8 "with_sign" 3 zd) (g_endless_of:FG P w K mg base cl 6 "endless_of" 1 z7):FG P w K mg base cl 11 "quotient_of" 4 z26 :=
  D.fg (N:=["width","first","second","way","below","n"]) (k:=10) z7f rfl (fun _ _ _ _ _ _=>Mi.ln4 fun _ _ _ _=>rfl) fun cdv A outer s H E hr =>
    mss_cons (ms_set (i:=4) z7f.nd rfl (Or.inl rfl) (me_cmp (r_ne (hu64 hr)) (me_item (mv 1) (me_int)) (me_item (mv 2) (me_int)) (nomark _))) (mss_cons (ms_if (mt_cmp (r_eq (hu64 hr)) (me_item (mv 1) (me_int)) (me_str) (nomark _)) (mss_one (ms_ret (me_tup (ma_cons (mc g_with_sign hr T.inj (ma_cons (mv 0) (ma_cons (mc g_endless_of hr T.inj (ma_cons (mv 0) (ma_nil))) (ma_cons (mv 4) (ma_nil))))) (ma_cons (me_int) (ma_nil)))))) (mss_nil)) (mss_cons (ms_if ((mw_or (mt_cmp (r_eq (hu64 hr)) (me_item (mv 2) (me_int)) (me_str) (nomark _)) (mw_or1 (mt_val (mc zf hr T.inj (ma_cons (mv 1) (ma_nil)))))).mt) (mss_one (ms_ret (me_tup (ma_cons (mc g_with_sign hr T.inj (ma_cons (mv 0) (ma_cons (me_int) (ma_cons (mv 4) (ma_nil))))) (ma_cons (me_int) (ma_nil)))))) (mss_nil)) (mss_cons (ms_if (mt_val (mc zf hr T.inj (ma_cons (mv 2) (ma_nil)))) (mss_one (ms_ret (me_tup (ma_cons (mc g_with_sign hr T.inj (ma_cons (mv 0) (ma_cons (mc g_endless_of hr T.inj (ma_cons (mv 0) (ma_nil))) (ma_cons (mv 4) (ma_nil))))) (ma_cons (me_globI (by rfl) T.c_POLE) (ma_nil)))))) (mss_nil)) (mss_cons (ms_set (i:=5) z7f.nd rfl (Or.inl rfl) (me_item (me_item (mv 1) (me_int)) (me_int))) (mss_one (ms_ret (mc z14.fg hr T.inj (ma_cons (mv 0) (ma_cons (me_if (mt_val (mv 4)) (me_una r_neg (mv 5)) (mv 5)) (ma_cons (me_bin r_sub (me_item (me_item (mv 1) (me_int)) (me_int)) (me_item (me_item (mv 2) (me_int)) (me_int))) (ma_cons (me_item (me_item (mv 2) (me_int)) (me_int)) (ma_cons (mv 3) (ma_nil)))))))))))))
theorem zap:FnScope ["width","n","k","d"] ["width","n","k","d"] (defScope (top 88)):=⟨rfl,rfl,rfl,by decide +kernel,rfl,by decide +kernel,by decide +kernel⟩
theorem z4z {f:Addr}{fd:FuncData} (T:Tx K mg cl) (D:DefAt K mg "span_of" (top 88) f fd) (z1c:FG P w K mg base cl 10 "span_from" 3 zx) (z14:FGD P w K mg base cl 10 "taken" 5 zh "even"):FG P w K mg base cl 11 "span_of" 4 z3y :=
  D.fg (N:=["width","n","k","d"]) (k:=10) zap rfl (fun _ _ _ _ _ _=>Mi.ln4 fun _ _ _ _=>rfl) fun cdv A outer s H E hr =>
    mss_one (ms_ret (mc z1c hr T.inj (ma_cons (mv 0) (ma_cons (me_item (mc z14.fg hr T.inj (ma_cons (mv 0) (ma_cons (mv 1) (ma_cons (mv 2) (ma_cons (mv 3) (ma_cons (me_str) (ma_nil))))))) (me_int)) (ma_cons (me_item (mc z14.fg hr T.inj (ma_cons (mv 0) (ma_cons (mv 1) (ma_cons (mv 2) (ma_cons (mv 3) (ma_cons (me_str) (ma_nil))))))) (me_int)) (ma_nil))))))
theorem z7d:FnScope ["width","spans","span"] ["width","spans"] (defScope (top 89)):=⟨rfl,rfl,rfl,by decide +kernel,rfl,by decide +kernel,by decide +kernel⟩
theorem ze {f:Addr}{fd:FuncData} (T:Tx K mg cl) (D:DefAt K mg "checked_spans" (top 89) f fd) (zl:FG P w K mg base cl 6 "check_word" 2 zp) (z1c:FG P w K mg base cl 10 "span_from" 3 zx):FG P w K mg base cl 11 "checked_spans" 2 zi :=
  D.fg (N:=["width","spans","span"]) (k:=10) z7d rfl (fun _ _ _ _ _ _=>Mi.ln2 fun _ _=>rfl) fun cdv A outer s H E hr =>
    mss_cons (ms_for (i:=2) own_cx rfl z7d.nd rfl (Or.inl rfl) (mi_seq (mv 1)) (mss_one (ms_if ((mw_or (mt_not (mt_val (me_isinst .tuple (mv 2) (by rfl) T.b_isinstance (by rfl) T.b_tuple))) (mw_or1 (mt_cmp (r_ne (hu64 hr)) (me_callB c_len (by rfl) T.b_len PySem.boot_len (ma_cons (mv 2) (ma_nil))) (me_int) (nomark _)))).mt) (mss_one (ms_raise (c:=7) (T.cls.cls 7 "NoSpan" (at_mem 5 rfl)) own_cx (by rfl) hr.hd (mv_str 30))) (mss_nil)))) (mss_cons (ms_for (i:=2) own_cx rfl z7d.nd rfl (Or.inl rfl) (mi_seq (mv 1)) (mss_cons (ms_expr (mc zl hr T.inj (ma_cons (mv 0) (ma_cons (me_item (mv 2) (me_int)) (ma_nil))))) (mss_one (ms_expr (mc zl hr T.inj (ma_cons (mv 0) (ma_cons (me_item (mv 2) (me_int)) (ma_nil)))))))) (mss_one (ms_ret (mcompS (Ns:=["width","spans","'span"]) (by decide +kernel) (by decide +kernel) rfl (mi_seq (mv 1)) (fun _ _ _ _=>MC.nil) (fun _ _ _ _=>mcN z1c hr (ma_cons (mv 0) (ma_cons (me_item (mv 3) (me_int)) (ma_cons (me_item (mv 3) (me_int)) (ma_nil)))))))))
theorem z5d:FnScope ["width","one","other","way","first","second","nones","both_endless"] ["width","one","other","way"] (defScope (top 80)):=⟨rfl,rfl,rfl,by decide +kernel,rfl,by decide +kernel,by decide +kernel⟩
theorem z4u {f:Addr}{fd:FuncData} (T:Tx K mg cl) (D:DefAtD K mg "over" (top 80) f fd "even") (zv:FG P w K mg base cl 10 "term_of" 2 zc) (z1e:FG P w K mg base cl 1 "way_of" 1 z1y) (z2h:FG P w K mg base cl 7 "nones_told" 2 z1r) (z4w:FG P w K mg base cl 11 "quotient_of" 4 z26) (zf:FG P w K mg base cl 1 "is_nought" 1 q_is_nought) (z13:FG P w K mg base cl 6 "none_of" 1 z1i):FGD P w K mg base cl 12 "over" 4 zz "even" :=
  D.fg (N:=["width","one","other","way","first","second","nones","both_endless"]) (k:=11) z5d rfl (fun _ _ _ _ _ _ _ _=>Mi.ln4 fun _ _ _ _=>⟨_,rfl,rfl⟩) (fun _ _ _ _ _ _ _ _=>Mi.lm3 fun _ _ _=>⟨_,rfl,rfl⟩) fun cdv A outer s H E hr =>
    mss_cons (ms_set (i:=4) z5d.nd rfl (Or.inl rfl) (mc zv hr T.inj (ma_cons (mv 0) (ma_cons (mv 1) (ma_nil))))) (mss_cons (ms_set (i:=5) z5d.nd rfl (Or.inl rfl) (mc zv hr T.inj (ma_cons (mv 0) (ma_cons (mv 2) (ma_nil))))) (mss_cons (ms_expr (mc z1e hr T.inj (ma_cons (mv 3) (ma_nil)))) (mss_cons (ms_set (i:=6) z5d.nd rfl (Or.inl rfl) (mc z2h hr T.inj (ma_cons (mv 0) (ma_cons (me_lst (ma_cons (mv 4) (ma_cons (mv 5) (ma_nil)))) (ma_nil))))) (mss_cons (ms_if (z8z (mv 6)) (mss_one (ms_ret (mv 6))) (mss_nil)) (mss_cons (ms_set (i:=7) z5d.nd rfl (Or.inl rfl) (me_and (me_cmp (r_eq (hu64 hr)) (me_item (mv 4) (me_int)) (me_str) (nomark _)) (me_one (me_cmp (r_eq (hu64 hr)) (me_item (mv 5) (me_int)) (me_str) (nomark _))))) (mss_cons (ms_if ((mw_or (mt_val (mv 7)) (mw_or1 ((mw_and (mt_val (mc zf hr T.inj (ma_cons (mv 4) (ma_nil)))) (mw_and1 (mt_val (mc zf hr T.inj (ma_cons (mv 5) (ma_nil)))))).mt))).mt) (mss_one (ms_ret (me_tup (ma_cons (mc z13 hr T.inj (ma_cons (mv 0) (ma_nil))) (ma_cons (me_globI (by rfl) T.c_WRONG) (ma_nil)))))) (mss_nil)) (mss_one (ms_ret (mc z4w hr T.inj (ma_cons (mv 0) (ma_cons (mv 4) (ma_cons (mv 5) (ma_cons (mv 3) (ma_nil))))))))))))))
theorem zan:FnScope ["width","one","other","way"] ["width","one","other","way"] (defScope (top 83)):=⟨rfl,rfl,rfl,by decide +kernel,rfl,by decide +kernel,by decide +kernel⟩
theorem z21 {f:Addr}{fd:FuncData} (T:Tx K mg cl) (D:DefAtD K mg "plus" (top 83) f fd "even") (z2d:FGD P w K mg base cl 11 "gathered" 3 zj "even") (zv:FG P w K mg base cl 10 "term_of" 2 zc):FGD P w K mg base cl 12 "plus" 4 z10 "even" :=
  D.fg (N:=["width","one","other","way"]) (k:=11) zan rfl (fun _ _ _ _ _ _ _ _=>Mi.ln4 fun _ _ _ _=>⟨_,rfl,rfl⟩) (fun _ _ _ _ _ _ _ _=>Mi.lm3 fun _ _ _=>⟨_,rfl,rfl⟩) fun cdv A outer s H E hr =>
    mss_one (ms_ret (mc z2d.fg hr T.inj (ma_cons (mv 0) (ma_cons (me_lst (ma_cons (mc zv hr T.inj (ma_cons (mv 0) (ma_cons (mv 1) (ma_nil)))) (ma_cons (mc zv hr T.inj (ma_cons (mv 0) (ma_cons (mv 2) (ma_nil)))) (ma_nil)))) (ma_cons (mv 3) (ma_nil))))))
theorem zas:FnScope ["width","one","other","way"] ["width","one","other","way"] (defScope (top 85)):=⟨rfl,rfl,rfl,by decide +kernel,rfl,by decide +kernel,by decide +kernel⟩
theorem z55 {f:Addr}{fd:FuncData} (T:Tx K mg cl) (D:DefAtD K mg "times" (top 85) f fd "even") (z2d:FGD P w K mg base cl 11 "gathered" 3 zj "even") (z4v:FG P w K mg base cl 11 "product" 3 za):FGD P w K mg base cl 12 "times" 4 z3a "even" :=
  D.fg (N:=["width","one","other","way"]) (k:=11) zas rfl (fun _ _ _ _ _ _ _ _=>Mi.ln4 fun _ _ _ _=>⟨_,rfl,rfl⟩) (fun _ _ _ _ _ _ _ _=>Mi.lm3 fun _ _ _=>⟨_,rfl,rfl⟩) fun cdv A outer s H E hr =>
    mss_one (ms_ret (mc z2d.fg hr T.inj (ma_cons (mv 0) (ma_cons (me_lst (ma_cons (mc z4v hr T.inj (ma_cons (mv 0) (ma_cons (mv 1) (ma_cons (mv 2) (ma_nil))))) (ma_nil))) (ma_cons (mv 3) (ma_nil))))))
theorem z5y:FnScope ["width","one","n","k","d","ends","not_below","not_above"] ["width","one","n","k","d"] (defScope (top 90)):=⟨rfl,rfl,rfl,by decide +kernel,rfl,by decide +kernel,by decide +kernel⟩
theorem z4n {f:Addr}{fd:FuncData} (T:Tx K mg cl) (D:DefAt K mg "holds" (top 90) f fd) (ze:FG P w K mg base cl 11 "checked_spans" 2 zi) (z1j:FG P w K mg base cl 9 "is_endless" 2 z17) (z3o:FG P w K mg base cl 3 "against" 4 z15) (z22:FG P w K mg base cl 9 "value_of" 2 zk):FG P w K mg base cl 12 "holds" 5 z1h :=
  D.fg (N:=["width","one","n","k","d","ends","not_below","not_above"]) (k:=11) z5y rfl (fun _ _ _ _ _ _=>Mi.ln5 fun _ _ _ _ _=>rfl) fun cdv A outer s H E hr =>
    mss_cons (ms_set (i:=5) z5y.nd rfl (Or.inl rfl) (me_item (mc ze hr T.inj (ma_cons (mv 0) (ma_cons (me_lst (ma_cons (mv 1) (ma_nil))) (ma_nil)))) (me_int))) (mss_cons (ms_set (i:=6) z5y.nd rfl (Or.inl rfl) (me_or (mc z1j hr T.inj (ma_cons (mv 0) (ma_cons (me_item (mv 5) (me_int)) (ma_nil)))) (me_one (me_cmp r_ge (mc z3o hr T.inj (ma_cons (mv 2) (ma_cons (mv 3) (ma_cons (mv 4) (ma_cons (mc z22 hr T.inj (ma_cons (mv 0) (ma_cons (me_item (mv 5) (me_int)) (ma_nil)))) (ma_nil)))))) (me_int) (nomark _))))) (mss_cons (ms_set (i:=7) z5y.nd rfl (Or.inl rfl) (me_or (mc z1j hr T.inj (ma_cons (mv 0) (ma_cons (me_item (mv 5) (me_int)) (ma_nil)))) (me_one (me_cmp r_le (mc z3o hr T.inj (ma_cons (mv 2) (ma_cons (mv 3) (ma_cons (mv 4) (ma_cons (mc z22 hr T.inj (ma_cons (mv 0) (ma_cons (me_item (mv 5) (me_int)) (ma_nil)))) (ma_nil)))))) (me_int) (nomark _))))) (mss_one (ms_ret (me_and (mv 6) (me_one (mv 7)))))))
theorem zaj:FnScope ["width","one","other","way"] ["width","one","other","way"] (defScope (top 84)):=⟨rfl,rfl,rfl,by decide +kernel,rfl,by decide +kernel,by decide +kernel⟩
theorem z3r {f:Addr}{fd:FuncData} (T:Tx K mg cl) (D:DefAtD K mg "minus" (top 84) f fd "even") (z21:FGD P w K mg base cl 12 "plus" 4 z10 "even") (z1d:FG P w K mg base cl 7 "turned" 2 z19):FGD P w K mg base cl 13 "minus" 4 z25 "even" :=
  D.fg (N:=["width","one","other","way"]) (k:=12) zaj rfl (fun _ _ _ _ _ _ _ _=>Mi.ln4 fun _ _ _ _=>⟨_,rfl,rfl⟩) (fun _ _ _ _ _ _ _ _=>Mi.lm3 fun _ _ _=>⟨_,rfl,rfl⟩) fun cdv A outer s H E hr =>
    mss_one (ms_ret (mc z21.fg hr T.inj (ma_cons (mv 0) (ma_cons (mv 1) (ma_cons (mc z1d hr T.inj (ma_cons (mv 0) (ma_cons (mv 2) (ma_nil)))) (ma_cons (mv 3) (ma_nil)))))))
theorem z63:FnScope ["width","one","other","spans","low","high"] ["width","one","other"] (defScope (top 93)):=⟨rfl,rfl,rfl,by decide +kernel,rfl,by decide +kernel,by decide +kernel⟩
theorem z51 {f:Addr}{fd:FuncData} (T:Tx K mg cl) (D:DefAt K mg "span_plus" (top 93) f fd) (ze:FG P w K mg base cl 11 "checked_spans" 2 zi) (zu:FG P w K mg base cl 10 "spanned" 3 z11) (z21:FGD P w K mg base cl 12 "plus" 4 z10 "even"):FG P w K mg base cl 13 "span_plus" 3 z3z :=
  D.fg (N:=["width","one","other","spans","low","high"]) (k:=12) z63 rfl (fun _ _ _ _ _ _=>Mi.ln3 fun _ _ _=>rfl) fun cdv A outer s H E hr =>
    mss_cons (ms_set (i:=3) z63.nd rfl (Or.inl rfl) (mc ze hr T.inj (ma_cons (mv 0) (ma_cons (me_lst (ma_cons (mv 1) (ma_cons (mv 2) (ma_nil)))) (ma_nil))))) (mss_cons (ms_set (i:=4) z63.nd rfl (Or.inl rfl) (me_item (mc z21.fg hr T.inj (ma_cons (mv 0) (ma_cons (me_item (me_item (mv 3) (me_int)) (me_int)) (ma_cons (me_item (me_item (mv 3) (me_int)) (me_int)) (ma_cons (me_str) (ma_nil)))))) (me_int))) (mss_cons (ms_set (i:=5) z63.nd rfl (Or.inl rfl) (me_item (mc z21.fg hr T.inj (ma_cons (mv 0) (ma_cons (me_item (me_item (mv 3) (me_int)) (me_int)) (ma_cons (me_item (me_item (mv 3) (me_int)) (me_int)) (ma_cons (me_str) (ma_nil)))))) (me_int))) (mss_one (ms_ret (mc zu hr T.inj (ma_cons (mv 0) (ma_cons (me_lst (ma_cons (mv 4) (ma_nil))) (ma_cons (me_lst (ma_cons (mv 5) (ma_nil))) (ma_nil)))))))))
theorem za7:FnScope ["width","pair","way"] ["width","pair","way"] (defScope (top 97)):=⟨rfl,rfl,rfl,by decide +kernel,rfl,by decide +kernel,by decide +kernel⟩
theorem z3q {f:Addr}{fd:FuncData} (T:Tx K mg cl) (D:DefAt K mg "end_times" (top 97) f fd) (z55:FGD P w K mg base cl 12 "times" 4 z3a "even"):FG P w K mg base cl 13 "end_times" 3 z1g :=
  D.fg (N:=["width","pair","way"]) (k:=12) za7 rfl (fun _ _ _ _ _ _=>Mi.ln3 fun _ _ _=>rfl) fun cdv A outer s H E hr =>
    mss_cons (ms_if ((mw_or (mt_cmp (r_eq (hu64 hr)) (me_item (mv 1) (me_int)) (me_int) (nomark _)) (mw_or1 (mt_cmp (r_eq (hu64 hr)) (me_item (mv 1) (me_int)) (me_int) (nomark _)))).mt) (mss_one (ms_ret (me_int))) (mss_nil)) (mss_one (ms_ret (me_item (mc z55.fg hr T.inj (ma_cons (mv 0) (ma_cons (me_item (mv 1) (me_int)) (ma_cons (me_item (mv 1) (me_int)) (ma_cons (mv 2) (ma_nil)))))) (me_int))))
theorem za6:FnScope ["width","pair","way"] ["width","pair","way"] (defScope (top 99)):=⟨rfl,rfl,rfl,by decide +kernel,rfl,by decide +kernel,by decide +kernel⟩
theorem z3p {f:Addr}{fd:FuncData} (T:Tx K mg cl) (D:DefAt K mg "end_over" (top 99) f fd) (z1j:FG P w K mg base cl 9 "is_endless" 2 z17) (z4u:FGD P w K mg base cl 12 "over" 4 zz "even"):FG P w K mg base cl 13 "end_over" 3 z16 :=
  D.fg (N:=["width","pair","way"]) (k:=12) za6 rfl (fun _ _ _ _ _ _=>Mi.ln3 fun _ _ _=>rfl) fun cdv A outer s H E hr =>
    mss_cons (ms_if ((mw_and (mt_val (mc z1j hr T.inj (ma_cons (mv 0) (ma_cons (me_item (mv 1) (me_int)) (ma_nil))))) (mw_and1 (mt_val (mc z1j hr T.inj (ma_cons (mv 0) (ma_cons (me_item (mv 1) (me_int)) (ma_nil))))))).mt) (mss_one (ms_ret (me_int))) (mss_nil)) (mss_one (ms_ret (me_item (mc z4u.fg hr T.inj (ma_cons (mv 0) (ma_cons (me_item (mv 1) (me_int)) (ma_cons (me_item (mv 1) (me_int)) (ma_cons (mv 2) (ma_nil)))))) (me_int))))
theorem z8p:FnScope ["_law_wide_here","_law_width","_law_found","_law_amount_here","_law_least"] ["_law_wide_here","_law_width","_law_found","_law_amount_here"] (defScope (top 115)):=⟨rfl,rfl,rfl,by decide +kernel,rfl,by decide +kernel,by decide +kernel⟩
theorem z4h {f:Addr}{fd:FuncData} (T:Tx K mg cl) (D:DefAt K mg "_law_held" (top 115) f fd) (z4z:FG P w K mg base cl 11 "span_of" 4 z3y) (g_Lrank_v2:FG P w K mg base cl 1 "_law_rank" 2 z4) (z4n:FG P w K mg base cl 12 "holds" 5 z1h) (z3i:FG P w K mg base cl 3 "_law_holds" 3 z1n) (z20:FG P w K mg base cl 2 "_law_is_span" 2 z23):FG P w K mg base cl 13 "_law_held" 4 z33 :=
  D.fg (N:=["_law_wide_here","_law_width","_law_found","_law_amount_here","_law_least"]) (k:=12) z8p rfl (fun _ _ _ _ _ _=>Mi.ln4 fun _ _ _ _=>rfl) fun cdv A outer s H E hr =>
    mss_cons (ms_if ((mw_or (zay (mc z4n hr T.inj (ma_cons (mv 1) (ma_cons (mv 2) (ma_cons (me_item (mv 3) (me_int)) (ma_cons (me_item (mv 3) (me_int)) (ma_cons (me_item (mv 3) (me_int)) (ma_nil)))))))) (mw_or1 (mt_not (mt_val (mc z3i hr T.inj (ma_cons (mv 0) (ma_cons (mv 2) (ma_cons (mv 3) (ma_nil))))))))).mt) (mss_one (ms_ret (me_bl))) (mss_nil)) (mss_cons (ms_set (i:=4) z8p.nd rfl (Or.inl rfl) (mc z4z hr T.inj (ma_cons (mv 1) (ma_cons (me_item (mv 3) (me_int)) (ma_cons (me_item (mv 3) (me_int)) (ma_cons (me_item (mv 3) (me_int)) (ma_nil))))))) (mss_cons (ms_if ((mw_or (mt_not (mt_val (mc z20 hr T.inj (ma_cons (mv 0) (ma_cons (mv 4) (ma_nil)))))) (mw_or1 (mt_not (mt_val (mc z3i hr T.inj (ma_cons (mv 0) (ma_cons (mv 4) (ma_cons (mv 3) (ma_nil))))))))).mt) (mss_one (ms_ret (me_bl))) (mss_nil)) (mss_cons (ms_if (mt_cmp r_lt (mc g_Lrank_v2 hr T.inj (ma_cons (mv 0) (ma_cons (me_item (mv 4) (me_int)) (ma_nil)))) (mc g_Lrank_v2 hr T.inj (ma_cons (mv 0) (ma_cons (me_item (mv 2) (me_int)) (ma_nil)))) (nomark _)) (mss_one (ms_ret (me_bl))) (mss_nil)) (mss_one (ms_ret (me_cmp r_le (mc g_Lrank_v2 hr T.inj (ma_cons (mv 0) (ma_cons (me_item (mv 4) (me_int)) (ma_nil)))) (mc g_Lrank_v2 hr T.inj (ma_cons (mv 0) (ma_cons (me_item (mv 2) (me_int)) (ma_nil)))) (nomark _)))))))
theorem z62:FnScope ["width","one","other","spans","low","high"] ["width","one","other"] (defScope (top 94)):=⟨rfl,rfl,rfl,by decide +kernel,rfl,by decide +kernel,by decide +kernel⟩
theorem z4y {f:Addr}{fd:FuncData} (T:Tx K mg cl) (D:DefAt K mg "span_minus" (top 94) f fd) (ze:FG P w K mg base cl 11 "checked_spans" 2 zi) (zu:FG P w K mg base cl 10 "spanned" 3 z11) (z3r:FGD P w K mg base cl 13 "minus" 4 z25 "even"):FG P w K mg base cl 14 "span_minus" 3 z3x :=
  D.fg (N:=["width","one","other","spans","low","high"]) (k:=13) z62 rfl (fun _ _ _ _ _ _=>Mi.ln3 fun _ _ _=>rfl) fun cdv A outer s H E hr =>
    mss_cons (ms_set (i:=3) z62.nd rfl (Or.inl rfl) (mc ze hr T.inj (ma_cons (mv 0) (ma_cons (me_lst (ma_cons (mv 1) (ma_cons (mv 2) (ma_nil)))) (ma_nil))))) (mss_cons (ms_set (i:=4) z62.nd rfl (Or.inl rfl) (me_item (mc z3r.fg hr T.inj (ma_cons (mv 0) (ma_cons (me_item (me_item (mv 3) (me_int)) (me_int)) (ma_cons (me_item (me_item (mv 3) (me_int)) (me_int)) (ma_cons (me_str) (ma_nil)))))) (me_int))) (mss_cons (ms_set (i:=5) z62.nd rfl (Or.inl rfl) (me_item (mc z3r.fg hr T.inj (ma_cons (mv 0) (ma_cons (me_item (me_item (mv 3) (me_int)) (me_int)) (ma_cons (me_item (me_item (mv 3) (me_int)) (me_int)) (ma_cons (me_str) (ma_nil)))))) (me_int))) (mss_one (ms_ret (mc zu hr T.inj (ma_cons (mv 0) (ma_cons (me_lst (ma_cons (mv 4) (ma_nil))) (ma_cons (me_lst (ma_cons (mv 5) (ma_nil))) (ma_nil)))))))))
theorem z5h:FnScope ["width","one","other","spans","pairs","lows","highs"] ["width","one","other"] (defScope (top 96)):=⟨rfl,rfl,rfl,by decide +kernel,rfl,by decide +kernel,by decide +kernel⟩
theorem z52 {f:Addr}{fd:FuncData} (T:Tx K mg cl) (D:DefAt K mg "span_times" (top 96) f fd) (ze:FG P w K mg base cl 11 "checked_spans" 2 zi) (z2i:FG P w K mg base cl 1 "pairs_of_ends" 2 z1s) (zu:FG P w K mg base cl 10 "spanned" 3 z11) (z3q:FG P w K mg base cl 13 "end_times" 3 z1g):FG P w K mg base cl 14 "span_times" 3 z40 :=
  D.fg (N:=["width","one","other","spans","pairs","lows","highs"]) (k:=13) z5h rfl (fun _ _ _ _ _ _=>Mi.ln3 fun _ _ _=>rfl) fun cdv A outer s H E hr =>
    mss_cons (ms_set (i:=3) z5h.nd rfl (Or.inl rfl) (mc ze hr T.inj (ma_cons (mv 0) (ma_cons (me_lst (ma_cons (mv 1) (ma_cons (mv 2) (ma_nil)))) (ma_nil))))) (mss_cons (ms_set (i:=4) z5h.nd rfl (Or.inl rfl) (mc z2i hr T.inj (ma_cons (me_item (mv 3) (me_int)) (ma_cons (me_item (mv 3) (me_int)) (ma_nil))))) (mss_cons (msC (i:=5) z5h.nd rfl (Or.inl rfl) (by decide +kernel) rfl (mi_seq (mv 4)) (fun _ _ _ _=>MC.nil) (fun _ _ _ _=>mcN z3q hr (ma_cons (mv 0) (ma_cons (mv 7) (ma_cons (me_str) (ma_nil)))))) (mss_cons (msC (i:=6) z5h.nd rfl (Or.inl rfl) (by decide +kernel) rfl (mi_seq (mv 4)) (fun _ _ _ _=>MC.nil) (fun _ _ _ _=>mcN z3q hr (ma_cons (mv 0) (ma_cons (mv 7) (ma_cons (me_str) (ma_nil)))))) (mss_one (ms_ret (mc zu hr T.inj (ma_cons (mv 0) (ma_cons (mv 5) (ma_cons (mv 6) (ma_nil))))))))))
theorem z5g:FnScope ["width","one","other","spans","pairs","lows","highs"] ["width","one","other"] (defScope (top 98)):=⟨rfl,rfl,rfl,by decide +kernel,rfl,by decide +kernel,by decide +kernel⟩
theorem z50 {f:Addr}{fd:FuncData} (T:Tx K mg cl) (D:DefAt K mg "span_over" (top 98) f fd) (ze:FG P w K mg base cl 11 "checked_spans" 2 zi) (z2i:FG P w K mg base cl 1 "pairs_of_ends" 2 z1s) (zu:FG P w K mg base cl 10 "spanned" 3 z11) (zt:FG P w K mg base cl 9 "rank_of" 2 zb) (z3p:FG P w K mg base cl 13 "end_over" 3 z16) (z1d:FG P w K mg base cl 7 "turned" 2 z19) (g_endless_of:FG P w K mg base cl 6 "endless_of" 1 z7):FG P w K mg base cl 14 "span_over" 3 z28 :=
  D.fg (N:=["width","one","other","spans","pairs","lows","highs"]) (k:=13) z5g rfl (fun _ _ _ _ _ _=>Mi.ln3 fun _ _ _=>rfl) fun cdv A outer s H E hr =>
    mss_cons (ms_set (i:=3) z5g.nd rfl (Or.inl rfl) (mc ze hr T.inj (ma_cons (mv 0) (ma_cons (me_lst (ma_cons (mv 1) (ma_cons (mv 2) (ma_nil)))) (ma_nil))))) (mss_cons (ms_if (mt_chain r_le r_le (mc zt hr T.inj (ma_cons (mv 0) (ma_cons (me_item (me_item (mv 3) (me_int)) (me_int)) (ma_nil)))) (me_int) (mc zt hr T.inj (ma_cons (mv 0) (ma_cons (me_item (me_item (mv 3) (me_int)) (me_int)) (ma_nil))))) (mss_one (ms_ret (me_tup (ma_cons (mc z1d hr T.inj (ma_cons (mv 0) (ma_cons (mc g_endless_of hr T.inj (ma_cons (mv 0) (ma_nil))) (ma_nil)))) (ma_cons (mc g_endless_of hr T.inj (ma_cons (mv 0) (ma_nil))) (ma_nil)))))) (mss_nil)) (mss_cons (ms_set (i:=4) z5g.nd rfl (Or.inl rfl) (mc z2i hr T.inj (ma_cons (me_item (mv 3) (me_int)) (ma_cons (me_item (mv 3) (me_int)) (ma_nil))))) (mss_cons (msC (i:=5) z5g.nd rfl (Or.inl rfl) (by decide +kernel) rfl (mi_seq (mv 4)) (fun _ _ _ _=>MC.nil) (fun _ _ _ _=>mcN z3p hr (ma_cons (mv 0) (ma_cons (mv 7) (ma_cons (me_str) (ma_nil)))))) (mss_cons (msC (i:=6) z5g.nd rfl (Or.inl rfl) (by decide +kernel) rfl (mi_seq (mv 4)) (fun _ _ _ _=>MC.nil) (fun _ _ _ _=>mcN z3p hr (ma_cons (mv 0) (ma_cons (mv 7) (ma_cons (me_str) (ma_nil)))))) (mss_one (ms_ret (mc zu hr T.inj (ma_cons (mv 0) (ma_cons (mv 5) (ma_cons (mv 6) (ma_nil)))))))))))
theorem z9v:FnScope ["_law_width","_law_way","_law_one","_law_other"] ["_law_width","_law_way","_law_one","_law_other"] (defScope (top 110)):=⟨rfl,rfl,rfl,by decide +kernel,rfl,by decide +kernel,by decide +kernel⟩
theorem z4f {f:Addr}{fd:FuncData} (T:Tx K mg cl) (D:DefAt K mg "_law_answer" (top 110) f fd) (z50:FG P w K mg base cl 14 "span_over" 3 z28) (z51:FG P w K mg base cl 13 "span_plus" 3 z3z) (z4y:FG P w K mg base cl 14 "span_minus" 3 z3x) (z52:FG P w K mg base cl 14 "span_times" 3 z40):FG P w K mg base cl 15 "_law_answer" 4 z1m :=
  D.fg (N:=["_law_width","_law_way","_law_one","_law_other"]) (k:=14) z9v rfl (fun _ _ _ _ _ _=>Mi.ln4 fun _ _ _ _=>rfl) fun cdv A outer s H E hr =>
    mss_cons (ms_if (mt_cmp (r_eq (hu64 hr)) (mv 1) (me_int) (nomark _)) (mss_one (ms_ret (mc z51 hr T.inj (ma_cons (mv 0) (ma_cons (mv 2) (ma_cons (mv 3) (ma_nil))))))) (mss_nil)) (mss_cons (ms_if (mt_cmp (r_eq (hu64 hr)) (mv 1) (me_int) (nomark _)) (mss_one (ms_ret (mc z4y hr T.inj (ma_cons (mv 0) (ma_cons (mv 2) (ma_cons (mv 3) (ma_nil))))))) (mss_nil)) (mss_cons (ms_if (mt_cmp (r_eq (hu64 hr)) (mv 1) (me_int) (nomark _)) (mss_one (ms_ret (mc z52 hr T.inj (ma_cons (mv 0) (ma_cons (mv 2) (ma_cons (mv 3) (ma_nil))))))) (mss_nil)) (mss_one (ms_ret (mc z50 hr T.inj (ma_cons (mv 0) (ma_cons (mv 2) (ma_cons (mv 3) (ma_nil)))))))))
theorem zq:FnScope ["_law_script","_law_wide_here","_law_width","_law_span","_law_cell","_law_mixed","_law_ranks_here","_law_other","_law_pick","_law_way","_law_here","_law_there","_law_found"] ["_law_script"] (defScope (top 116)):=⟨rfl,rfl,rfl,by decide +kernel,rfl,by decide +kernel,by decide +kernel⟩
theorem o_law {f:Addr}{fd:FuncData} (T:Tx K mg cl) (D:DefAt K mg "law" (top 116) f fd) (z4j:FG P w K mg base cl 1 "_law_wide" 1 z37) (z2m:FG P w K mg base cl 3 "width_of" 2 z2y) (z4g:FG P w K mg base cl 1 "_law_cell_at" 2 z32) (z4i:FG P w K mg base cl 2 "_law_ranks" 3 z35) (z1c:FG P w K mg base cl 10 "span_from" 3 zx) (z3l:FG P w K mg base cl 2 "_law_point" 3 z1o) (z4f:FG P w K mg base cl 15 "_law_answer" 4 z1m) (z3n:FG P w K mg base cl 1 "_law_word" 2 z2o) (z20:FG P w K mg base cl 2 "_law_is_span" 2 z23) (g_Lrank_v2:FG P w K mg base cl 1 "_law_rank" 2 z4) (z4h:FG P w K mg base cl 13 "_law_held" 4 z33) (z4e:FG P w K mg base cl 1 "_law_amount" 4 z1f):FnOk P w K mg base (CXm cl P w) 16 f fd ["_law_script"] (spF K cl 1 q_law_v67) :=
  fn_mirror (N:=["_law_script","_law_wide_here","_law_width","_law_span","_law_cell","_law_mixed","_law_ranks_here","_law_other","_law_pick","_law_way","_law_here","_law_there","_law_found"]) (k:=15) D.fn zq rfl fun cdv A outer s H E hr =>
    mss_cons (ms_set (i:=1) zq.nd rfl (Or.inl rfl) (mc z4j hr T.inj (ma_cons (mc z4g hr T.inj (ma_cons (mv 0) (ma_cons (me_int) (ma_nil)))) (ma_nil)))) (mss_cons (ms_set (i:=2) zq.nd rfl (Or.inl rfl) (mc z2m hr T.inj (ma_cons (me_item (mv 1) (me_int)) (ma_cons (me_item (mv 1) (me_int)) (ma_nil))))) (mss_cons (ms_set (i:=3) zq.nd rfl (Or.inl rfl) (me_tup (ma_cons (me_int) (ma_cons (me_int) (ma_nil))))) (mss_cons (ms_for (i:=4) own_cx rfl zq.nd rfl (Or.inl rfl) (mi_seq (me_cut (mv 0) (mo_some (me_int)) (mo_some (me_int)))) (mss_cons (ms_set (i:=5) zq.nd rfl (Or.inl rfl) (me_bin r_mod (me_bin r_mul (mv 4) (me_int)) (me_bin r_add (me_bin r_pow (me_int) (me_int)) (me_int)))) (mss_cons (ms_set (i:=6) zq.nd rfl (Or.inl rfl) (mc z4i hr T.inj (ma_cons (mv 1) (ma_cons (mv 5) (ma_cons (me_bin r_mod (me_bin r_mul (mv 4) (me_int)) (me_bin r_add (me_bin r_pow (me_int) (me_int)) (me_int))) (ma_nil)))))) (mss_cons (ms_set (i:=7) zq.nd rfl (Or.inl rfl) (mc z1c hr T.inj (ma_cons (mv 2) (ma_cons (mc z3n hr T.inj (ma_cons (mv 1) (ma_cons (me_item (mv 6) (me_int)) (ma_nil)))) (ma_cons (mc z3n hr T.inj (ma_cons (mv 1) (ma_cons (me_item (mv 6) (me_int)) (ma_nil)))) (ma_nil)))))) (mss_cons (ms_if (mt_not (mt_val (mc z20 hr T.inj (ma_cons (mv 1) (ma_cons (mv 7) (ma_nil)))))) (mss_one (ms_ret (me_bl))) (mss_nil)) (mss_cons (ms_set (i:=8) zq.nd rfl (Or.inl rfl) (me_bin r_mod (me_bin r_mul (mv 4) (me_int)) (me_int))) (mss_cons (ms_set (i:=9) zq.nd rfl (Or.inl rfl) (me_bin r_mod (mv 8) (me_int))) (mss_cons (ms_set (i:=10) zq.nd rfl (Or.inl rfl) (mc z3l hr T.inj (ma_cons (mv 1) (ma_cons (me_tup (ma_cons (mc g_Lrank_v2 hr T.inj (ma_cons (mv 1) (ma_cons (me_item (mv 3) (me_int)) (ma_nil)))) (ma_cons (mc g_Lrank_v2 hr T.inj (ma_cons (mv 1) (ma_cons (me_item (mv 3) (me_int)) (ma_nil)))) (ma_nil)))) (ma_cons (me_bin r_div (mv 8) (me_int)) (ma_nil)))))) (mss_cons (ms_set (i:=11) zq.nd rfl (Or.inl rfl) (mc z3l hr T.inj (ma_cons (mv 1) (ma_cons (mv 6) (ma_cons (me_bin r_div (mv 8) (me_int)) (ma_nil)))))) (mss_cons (ms_set (i:=12) zq.nd rfl (Or.inl rfl) (mc z4f hr T.inj (ma_cons (mv 2) (ma_cons (mv 9) (ma_cons (mv 3) (ma_cons (mv 7) (ma_nil))))))) (mss_cons (ms_if (mt_not (mt_val (mc z20 hr T.inj (ma_cons (mv 1) (ma_cons (mv 12) (ma_nil)))))) (mss_one (ms_ret (me_bl))) (mss_nil)) (mss_cons (ms_if ((mw_or (mt_cmp r_lt (mv 9) (me_int) (nomark _)) (mw_or1 (mt_cmp (r_ne (hu64 hr)) (mv 11) (me_int) (nomark _)))).mt) (mss_one (ms_if (mt_not (mt_val (mc z4h hr T.inj (ma_cons (mv 1) (ma_cons (mv 2) (ma_cons (mv 12) (ma_cons (mc z4e hr T.inj (ma_cons (mv 1) (ma_cons (mv 9) (ma_cons (mv 10) (ma_cons (mv 11) (ma_nil)))))) (ma_nil)))))))) (mss_one (ms_ret (me_bl))) (mss_nil))) (mss_nil)) (mss_cons (ms_set (i:=3) zq.nd rfl (Or.inl rfl) (mv 12)) (mss_one (ms_if (mt_cmp (r_eq (hu64 hr)) (me_bin r_mod (me_bin r_div (mv 8) (me_int)) (me_int)) (me_int) (nomark _)) (mss_one (ms_set (i:=3) zq.nd rfl (Or.inl rfl) (mv 7))) (mss_nil)))))))))))))))) (mss_one (ms_ret (me_bl))))))
end
theorem all {P:Program}{w:World}{K:PySem.W.Frag}{mg:Str→Option Value}{cl:Nat→Addr}{fa:Addr} (hfa:mg "law"=some (.ref fa)) (T:Tx K mg cl)
    {f55_0:Addr}{fd55_0:FuncData} (D55_0:MethAt K cl 21 "grows" "Even.grows" (inClass (top 55) 0) f55_0 fd55_0)
    {f56_0:Addr}{fd56_0:FuncData} (D56_0:MethAt K cl 22 "grows" "Away.grows" (inClass (top 56) 0) f56_0 fd56_0)
    {f57_0:Addr}{fd57_0:FuncData} (D57_0:MethAt K cl 23 "grows" "Inward.grows" (inClass (top 57) 0) f57_0 fd57_0)
    {f58_0:Addr}{fd58_0:FuncData} (D58_0:MethAt K cl 24 "grows" "Upward.grows" (inClass (top 58) 0) f58_0 fd58_0)
    {f59_0:Addr}{fd59_0:FuncData} (D59_0:MethAt K cl 25 "grows" "Downward.grows" (inClass (top 59) 0) f59_0 fd59_0)
    {f12:Addr}{fd12:FuncData} (D12:DefAt K mg "is_whole" (top 12) f12 fd12)
    {f20:Addr}{fd20:FuncData} (D20:DefAt K mg "all_ones" (top 20) f20 fd20)
    {f28:Addr}{fd28:FuncData} (D28:DefAt K mg "highest_of_fraction" (top 28) f28 fd28)
    {f29:Addr}{fd29:FuncData} (D29:DefAt K mg "sign_bit" (top 29) f29 fd29)
    {f34:Addr}{fd34:FuncData} (D34:DefAt K mg "exact" (top 34) f34 fd34)
    {f35:Addr}{fd35:FuncData} (D35:DefAt K mg "steps_of" (top 35) f35 fd35)
    {f41:Addr}{fd41:FuncData} (D41:DefAt K mg "as_quotient" (top 41) f41 fd41)
    {f60:Addr}{fd60:FuncData} (D60:DefAt K mg "way_of" (top 60) f60 fd60)
    {f72:Addr}{fd72:FuncData} (D72:DefAt K mg "is_nought" (top 72) f72 fd72)
    {f95:Addr}{fd95:FuncData} (D95:DefAt K mg "pairs_of_ends" (top 95) f95 fd95)
    {f101:Addr}{fd101:FuncData} (D101:DefAt K mg "_law_cell_at" (top 101) f101 fd101)
    {f102:Addr}{fd102:FuncData} (D102:DefAt K mg "_law_whole" (top 102) f102 fd102)
    {f103:Addr}{fd103:FuncData} (D103:DefAt K mg "_law_wide" (top 103) f103 fd103)
    {f104:Addr}{fd104:FuncData} (D104:DefAt K mg "_law_near" (top 104) f104 fd104)
    {f106:Addr}{fd106:FuncData} (D106:DefAt K mg "_law_word" (top 106) f106 fd106)
    {f107:Addr}{fd107:FuncData} (D107:DefAt K mg "_law_rank" (top 107) f107 fd107)
    {f108:Addr}{fd108:FuncData} (D108:DefAt K mg "_law_steps" (top 108) f108 fd108)
    {f111:Addr}{fd111:FuncData} (D111:DefAt K mg "_law_amount" (top 111) f111 fd111)
    {f13:Addr}{fd13:FuncData} (D13:DefAt K mg "is_within" (top 13) f13 fd13)
    {f36:Addr}{fd36:FuncData} (D36:DefAt K mg "added" (top 36) f36 fd36)
    {f37:Addr}{fd37:FuncData} (D37:DefAt K mg "multiplied" (top 37) f37 fd37)
    {f38:Addr}{fd38:FuncData} (D38:DefAt K mg "is_below" (top 38) f38 fd38)
    {f42:Addr}{fd42:FuncData} (D42:DefAt K mg "height_of" (top 42) f42 fd42)
    {f43:Addr}{fd43:FuncData} (D43:DefAt K mg "in_steps" (top 43) f43 fd43)
    {f64:Addr}{fd64:FuncData} (D64:DefAt K mg "steps_taken" (top 64) f64 fd64)
    {f78:Addr}{fd78:FuncData} (D78:DefAt K mg "is_nought_below" (top 78) f78 fd78)
    {f105:Addr}{fd105:FuncData} (D105:DefAt K mg "_law_ranks" (top 105) f105 fd105)
    {f109:Addr}{fd109:FuncData} (D109:DefAt K mg "_law_point" (top 109) f109 fd109)
    {f112:Addr}{fd112:FuncData} (D112:DefAt K mg "_law_is_span" (top 112) f112 fd112)
    {f113:Addr}{fd113:FuncData} (D113:DefAt K mg "_law_not_above" (top 113) f113 fd113)
    {f14:Addr}{fd14:FuncData} (D14:DefAt K mg "width_of" (top 14) f14 fd14)
    {f22:Addr}{fd22:FuncData} (D22:DefAt K mg "check_part" (top 22) f22 fd22)
    {f44:Addr}{fd44:FuncData} (D44:DefAt K mg "against" (top 44) f44 fd44)
    {f77:Addr}{fd77:FuncData} (D77:DefAt K mg "summed" (top 77) f77 fd77)
    {f114:Addr}{fd114:FuncData} (D114:DefAt K mg "_law_holds" (top 114) f114 fd114)
    {f15:Addr}{fd15:FuncData} (D15:DefAt K mg "check_width" (top 15) f15 fd15)
    {f16:Addr}{fd16:FuncData} (D16:DefAt K mg "many_words" (top 16) f16 fd16)
    {f17:Addr}{fd17:FuncData} (D17:DefAt K mg "bias_of" (top 17) f17 fd17)
    {f24:Addr}{fd24:FuncData} (D24:DefAt K mg "joined" (top 24) f24 fd24)
    {f18:Addr}{fd18:FuncData} (D18:DefAt K mg "least_power" (top 18) f18 fd18)
    {f21:Addr}{fd21:FuncData} (D21:DefAt K mg "check_word" (top 21) f21 fd21)
    {f26:Addr}{fd26:FuncData} (D26:DefAt K mg "none_of" (top 26) f26 fd26)
    {f27:Addr}{fd27:FuncData} (D27:DefAt K mg "endless_of" (top 27) f27 fd27)
    {f66:Addr}{fd66:FuncData} (D66:DefAt K mg "marks_of" (top 66) f66 fd66)
    {f23:Addr}{fd23:FuncData} (D23:DefAt K mg "cut" (top 23) f23 fd23)
    {f30:Addr}{fd30:FuncData} (D30:DefAt K mg "turned" (top 30) f30 fd30)
    {f31:Addr}{fd31:FuncData} (D31:DefAt K mg "unsigned" (top 31) f31 fd31)
    {f63:Addr}{fd63:FuncData} (D63:DefAt K mg "step_power" (top 63) f63 fd63)
    {f75:Addr}{fd75:FuncData} (D75:DefAt K mg "nones_told" (top 75) f75 fd75)
    {f25:Addr}{fd25:FuncData} (D25:DefAt K mg "kind_of" (top 25) f25 fd25)
    {f32:Addr}{fd32:FuncData} (D32:DefAt K mg "with_sign" (top 32) f32 fd32)
    {f39:Addr}{fd39:FuncData} (D39:DefAt K mg "value_of" (top 39) f39 fd39)
    {f51:Addr}{fd51:FuncData} (D51:DefAt K mg "rank_of" (top 51) f51 fd51)
    {f52:Addr}{fd52:FuncData} (D52:DefAt K mg "word_at" (top 52) f52 fd52)
    {f65:Addr}{fd65:FuncData} (D65:DefAt K mg "settled" (top 65) f65 fd65)
    {f76:Addr}{fd76:FuncData} (D76:DefAt K mg "ends_told" (top 76) f76 fd76)
    {f91:Addr}{fd91:FuncData} (D91:DefAt K mg "is_endless" (top 91) f91 fd91)
    {f62:Addr}{fd62:FuncData} (D62:DefAtD K mg "taken" (top 62) f62 fd62 "even")
    {f71:Addr}{fd71:FuncData} (D71:DefAt K mg "term_of" (top 71) f71 fd71)
    {f87:Addr}{fd87:FuncData} (D87:DefAt K mg "span_from" (top 87) f87 fd87)
    {f92:Addr}{fd92:FuncData} (D92:DefAt K mg "spanned" (top 92) f92 fd92)
    {f73:Addr}{fd73:FuncData} (D73:DefAt K mg "product" (top 73) f73 fd73)
    {f74:Addr}{fd74:FuncData} (D74:DefAtD K mg "gathered" (top 74) f74 fd74 "even")
    {f81:Addr}{fd81:FuncData} (D81:DefAt K mg "quotient_of" (top 81) f81 fd81)
    {f88:Addr}{fd88:FuncData} (D88:DefAt K mg "span_of" (top 88) f88 fd88)
    {f89:Addr}{fd89:FuncData} (D89:DefAt K mg "checked_spans" (top 89) f89 fd89)
    {f80:Addr}{fd80:FuncData} (D80:DefAtD K mg "over" (top 80) f80 fd80 "even")
    {f83:Addr}{fd83:FuncData} (D83:DefAtD K mg "plus" (top 83) f83 fd83 "even")
    {f85:Addr}{fd85:FuncData} (D85:DefAtD K mg "times" (top 85) f85 fd85 "even")
    {f90:Addr}{fd90:FuncData} (D90:DefAt K mg "holds" (top 90) f90 fd90)
    {f84:Addr}{fd84:FuncData} (D84:DefAtD K mg "minus" (top 84) f84 fd84 "even")
    {f93:Addr}{fd93:FuncData} (D93:DefAt K mg "span_plus" (top 93) f93 fd93)
    {f97:Addr}{fd97:FuncData} (D97:DefAt K mg "end_times" (top 97) f97 fd97)
    {f99:Addr}{fd99:FuncData} (D99:DefAt K mg "end_over" (top 99) f99 fd99)
    {f115:Addr}{fd115:FuncData} (D115:DefAt K mg "_law_held" (top 115) f115 fd115)
    {f94:Addr}{fd94:FuncData} (D94:DefAt K mg "span_minus" (top 94) f94 fd94)
    {f96:Addr}{fd96:FuncData} (D96:DefAt K mg "span_times" (top 96) f96 fd96)
    {f98:Addr}{fd98:FuncData} (D98:DefAt K mg "span_over" (top 98) f98 fd98)
    {f110:Addr}{fd110:FuncData} (D110:DefAt K mg "_law_answer" (top 110) f110 fd110)
    {f116:Addr}{fd116:FuncData} (D116:DefAt K mg "law" (top 116) f116 fd116) :
    ∃ fd:FuncData,(∀ (s:Shared) (u:Value),BindsTo s fd ⟨[u],[]⟩ [("_law_script",u)])∧∀ base:Heap,K.In base→base.Ns mainGlobals mg→FnOk P w K mg base (CXm cl P w) 16 fa fd ["_law_script"] (spF K cl 1 q_law_v67):=by
  have e:=hfa.symm.trans D116.mg
  cases e
  refine ⟨fd116,?_,fun base _ _=>?_⟩
  · obtain ⟨oc,od,kV,doc,pm,an,cdv,ct,osl,rfl,lk,hcd⟩:=D116.fn.ex
    exact fun s v=>.of_eq rfl
  ·
    have z6w:MG P w K mg base cl 1 21 "grows" 3 z71:=z6w T D55_0
    have z6u:MG P w K mg base cl 1 22 "grows" 3 z6z:=z6u T D56_0
    have z6x:MG P w K mg base cl 1 23 "grows" 3 z72:=z6x T D57_0
    have z6y:MG P w K mg base cl 1 24 "grows" 3 z73:=z6y T D58_0
    have z6v:MG P w K mg base cl 1 25 "grows" 3 z70:=z6v T D59_0
    have z4r:FG P w K mg base cl 1 "is_whole" 1 z59:=z4r T D12
    have z8:FG P w K mg base cl 1 "all_ones" 1 zo:=z8 T D20
    have z2e:FG P w K mg base cl 1 "highest_of_fraction" 1 z2u:=z2e T D28
    have z2j:FG P w K mg base cl 1 "sign_bit" 1 z27:=z2j T D29
    have zm:FG P w K mg base cl 1 "exact" 2 z5:=zm T D34
    have z1k:FG P w K mg base cl 1 "steps_of" 2 z1v:=z1k T D35
    have z2b:FG P w K mg base cl 1 "as_quotient" 3 z24:=z2b T D41
    have z1e:FG P w K mg base cl 1 "way_of" 1 z1y:=z1e T D60
    have zf:FG P w K mg base cl 1 "is_nought" 1 q_is_nought:=zf T D72
    have z2i:FG P w K mg base cl 1 "pairs_of_ends" 2 z1s:=z2i T D95
    have z4g:FG P w K mg base cl 1 "_law_cell_at" 2 z32:=z4g T D101
    have z3m:FG P w K mg base cl 1 "_law_whole" 1 z36:=z3m T D102
    have z4j:FG P w K mg base cl 1 "_law_wide" 1 z37:=z4j T D103
    have z3j:FG P w K mg base cl 1 "_law_near" 2 z2n:=z3j T D104
    have z3n:FG P w K mg base cl 1 "_law_word" 2 z2o:=z3n T D106
    have g_Lrank_v2:FG P w K mg base cl 1 "_law_rank" 2 z4:=g_Lrank_v2 T D107
    have z1a:FG P w K mg base cl 1 "_law_steps" 2 zw:=z1a T D108
    have z4e:FG P w K mg base cl 1 "_law_amount" 4 z1f:=z4e T D111
    have zn:FG P w K mg base cl 2 "is_within" 3 zy:=zn T D13 z4r
    have z4k:FG P w K mg base cl 2 "added" 2 z2p:=z4k T D36 zm z1k
    have z2g:FG P w K mg base cl 2 "multiplied" 2 z18:=z2g T D37 zm
    have z4p:FG P w K mg base cl 2 "is_below" 2 z3s:=z4p T D38 z1k
    have z4m:FG P w K mg base cl 2 "height_of" 3 z2t:=z4m T D42 z2b
    have z4o:FG P w K mg base cl 2 "in_steps" 4 z1p:=z4o T D43 z2b
    have m_grows:FM P w K mg base cl 1 "grows" 3 z3d:=fm_cons z6w (fm_cons z6u (fm_cons z6x (fm_cons z6y (fm_cons z6v (fm_nil)))))
    have z53:FG P w K mg base cl 2 "steps_taken" 3 z39:=z53 T D64 m_grows
    have z4q:FG P w K mg base cl 2 "is_nought_below" 2 z3t:=z4q T D78 zf
    have z4i:FG P w K mg base cl 2 "_law_ranks" 3 z35:=z4i T D105 z3j
    have z3l:FG P w K mg base cl 2 "_law_point" 3 z1o:=z3l T D109 z1a
    have z20:FG P w K mg base cl 2 "_law_is_span" 2 z23:=z20 T D112 g_Lrank_v2 z3m
    have z3k:FG P w K mg base cl 2 "_law_not_above" 3 z34:=z3k T D113 z1a
    have z2m:FG P w K mg base cl 3 "width_of" 2 z2y:=z2m T D14 zn
    have z31:FG P w K mg base cl 3 "check_part" 2 z2r:=z31 T D22 zn z8
    have z3o:FG P w K mg base cl 3 "against" 4 z15:=z3o T D44 zm z2g z4p
    have z54:FG P w K mg base cl 3 "summed" 1 z41:=z54 T D77 z4k
    have z3i:FG P w K mg base cl 3 "_law_holds" 3 z1n:=z3i T D114 g_Lrank_v2 z3k
    have g_check_width:FG P w K mg base cl 4 "check_width" 1 z9:=g_check_width T D15 z2m
    have z4s:FG P w K mg base cl 5 "many_words" 1 z3v:=z4s T D16 g_check_width
    have z2c:FG P w K mg base cl 5 "bias_of" 1 z2q:=z2c T D17 g_check_width
    have z2f:FG P w K mg base cl 5 "joined" 4 z2v:=z2f T D24 g_check_width z31
    have z1b:FG P w K mg base cl 6 "least_power" 1 z1q:=z1b T D18 z2c
    have zl:FG P w K mg base cl 6 "check_word" 2 zp:=zl T D21 zn z4s
    have z13:FG P w K mg base cl 6 "none_of" 1 z1i:=z13 T D26 g_check_width z2f z8 z2e
    have g_endless_of:FG P w K mg base cl 6 "endless_of" 1 z7:=g_endless_of T D27 g_check_width z2f z8
    have z4t:FG P w K mg base cl 6 "marks_of" 3 z2w:=z4t T D66 z2c
    have zb0:FG P w K mg base cl 7 "cut" 2 zba:=zb0 T D23 zl z8
    have z1d:FG P w K mg base cl 7 "turned" 2 z19:=z1d T D30 zl z2j
    have z2l:FG P w K mg base cl 7 "unsigned" 2 z1x:=z2l T D31 zl z2j
    have z2k:FG P w K mg base cl 7 "step_power" 2 z1u:=z2k T D63 z1b
    have z2h:FG P w K mg base cl 7 "nones_told" 2 z1r:=z2h T D75 z13
    have g_kind_of:FG P w K mg base cl 8 "kind_of" 2 zg:=g_kind_of T D25 zb0 z8 z2e
    have g_with_sign:FG P w K mg base cl 8 "with_sign" 3 zd:=g_with_sign T D32 z1d
    have z22:FG P w K mg base cl 9 "value_of" 2 zk:=z22 T D39 g_kind_of zb0 z1b zm
    have zt:FG P w K mg base cl 9 "rank_of" 2 zb:=zt T D51 z2l g_kind_of zb0
    have z1l:FG P w K mg base cl 9 "word_at" 2 z12:=z1l T D52 g_endless_of g_with_sign zn
    have z4x:FG P w K mg base cl 9 "settled" 5 z2x:=z4x T D65 g_endless_of z2k z1b z53 g_with_sign z4t m_grows
    have z4l:FG P w K mg base cl 9 "ends_told" 2 z2s:=z4l T D76 g_with_sign z13 g_endless_of
    have z1j:FG P w K mg base cl 9 "is_endless" 2 z17:=z1j T D91 g_kind_of
    have z14:FGD P w K mg base cl 10 "taken" 5 zh "even":=z14 T D62 g_check_width z1e z4m z4o z4x z2k
    have zv:FG P w K mg base cl 10 "term_of" 2 zc:=zv T D71 g_kind_of z22 zb0 z2l
    have z1c:FG P w K mg base cl 10 "span_from" 3 zx:=z1c T D87 zt g_endless_of z1l
    have zu:FG P w K mg base cl 10 "spanned" 3 z11:=zu T D92 z1l zt
    have z4v:FG P w K mg base cl 11 "product" 3 za:=z4v T D73 zv zf z2g
    have z2d:FGD P w K mg base cl 11 "gathered" 3 zj "even":=z2d T D74 g_check_width z1e z2h z54 z14 z4l g_with_sign z4q
    have z4w:FG P w K mg base cl 11 "quotient_of" 4 z26:=z4w T D81 zf z14 g_with_sign g_endless_of
    have z4z:FG P w K mg base cl 11 "span_of" 4 z3y:=z4z T D88 z1c z14
    have ze:FG P w K mg base cl 11 "checked_spans" 2 zi:=ze T D89 zl z1c
    have z4u:FGD P w K mg base cl 12 "over" 4 zz "even":=z4u T D80 zv z1e z2h z4w zf z13
    have z21:FGD P w K mg base cl 12 "plus" 4 z10 "even":=z21 T D83 z2d zv
    have z55:FGD P w K mg base cl 12 "times" 4 z3a "even":=z55 T D85 z2d z4v
    have z4n:FG P w K mg base cl 12 "holds" 5 z1h:=z4n T D90 ze z1j z3o z22
    have z3r:FGD P w K mg base cl 13 "minus" 4 z25 "even":=z3r T D84 z21 z1d
    have z51:FG P w K mg base cl 13 "span_plus" 3 z3z:=z51 T D93 ze zu z21
    have z3q:FG P w K mg base cl 13 "end_times" 3 z1g:=z3q T D97 z55
    have z3p:FG P w K mg base cl 13 "end_over" 3 z16:=z3p T D99 z1j z4u
    have z4h:FG P w K mg base cl 13 "_law_held" 4 z33:=z4h T D115 z4z g_Lrank_v2 z4n z3i z20
    have z4y:FG P w K mg base cl 14 "span_minus" 3 z3x:=z4y T D94 ze zu z3r
    have z52:FG P w K mg base cl 14 "span_times" 3 z40:=z52 T D96 ze z2i zu z3q
    have z50:FG P w K mg base cl 14 "span_over" 3 z28:=z50 T D98 ze z2i zu zt z3p z1d g_endless_of
    have z4f:FG P w K mg base cl 15 "_law_answer" 4 z1m:=z4f T D110 z50 z51 z4y z52
    exact o_law T D116 z4j z2m z4g z4i z1c z3l z4f z3n z20 g_Lrank_v2 z4h z4e
theorem fin {P:Program}{w:World}{K:PySem.W.Frag}{mg:Str→Option Value}{fa:Addr}{h:Heap} (X:K.In h) (G:h.Ns mainGlobals mg) (hfa:mg "law"=some (.ref fa)) (hcls:clsOk2 K anames names=true) (hways:waysOk K wnames=true) (z_abs:PySem.W.nsIn K mainGlobals "abs"=some none) (z_all:PySem.W.nsIn K mainGlobals "all"=some none) (z_any:PySem.W.nsIn K mainGlobals "any"=some none) (z_bool:PySem.W.nsIn K mainGlobals "bool"=some none) (z_int:PySem.W.nsIn K mainGlobals "int"=some none) (z_isinstance:PySem.W.nsIn K mainGlobals "isinstance"=some none) (z_len:PySem.W.nsIn K mainGlobals "len"=some none) (z_max:PySem.W.nsIn K mainGlobals "max"=some none) (z_min:PySem.W.nsIn K mainGlobals "min"=some none) (z_tuple:PySem.W.nsIn K mainGlobals "tuple"=some none) {t_LEAST_E:Tok} (y_LEAST_E:PySem.W.nsIn K mainGlobals "LEAST_E"=some (some (.int 2 t_LEAST_E))) {t_MOST_E:Tok} (y_MOST_E:PySem.W.nsIn K mainGlobals "MOST_E"=some (some (.int 11 t_MOST_E))) {t_LEAST_F:Tok} (y_LEAST_F:PySem.W.nsIn K mainGlobals "LEAST_F"=some (some (.int 1 t_LEAST_F))) {t_MOST_F:Tok} (y_MOST_F:PySem.W.nsIn K mainGlobals "MOST_F"=some (some (.int 60 t_MOST_F))) {t_WRONG:Tok} (y_WRONG:PySem.W.nsIn K mainGlobals "WRONG"=some (some (.int 1 t_WRONG))) {t_POLE:Tok} (y_POLE:PySem.W.nsIn K mainGlobals "POLE"=some (some (.int 2 t_POLE))) {t_GREAT:Tok} (y_GREAT:PySem.W.nsIn K mainGlobals "GREAT"=some (some (.int 4 t_GREAT))) {t_SMALL:Tok} (y_SMALL:PySem.W.nsIn K mainGlobals "SMALL"=some (some (.int 8 t_SMALL))) {t_NEAR:Tok} (y_NEAR:PySem.W.nsIn K mainGlobals "NEAR"=some (some (.int 16 t_NEAR))) {u_NOUGHT:Value} (y_NOUGHT:PySem.W.nsIn K mainGlobals "NOUGHT"=some (some u_NOUGHT)) (k_NOUGHT:kRepB K 4 u_NOUGHT (.tup [.int 0,.int 0])=true) {u_LOUD_TERM:Value} (y_LOUD_TERM:PySem.W.nsIn K mainGlobals "LOUD_TERM"=some (some u_LOUD_TERM)) (k_LOUD_TERM:kRepB K 4 u_LOUD_TERM (.tup [.str "wrong",.bl false,.tup [.int 0,.int 0]])=true) {u_STILL_TERM:Value} (y_STILL_TERM:PySem.W.nsIn K mainGlobals "STILL_TERM"=some (some u_STILL_TERM)) (k_STILL_TERM:kRepB K 4 u_STILL_TERM (.tup [.str "none",.bl false,.tup [.int 0,.int 0]])=true)
    (E55_0:∃ f fd,MethAt K (clOf K anames) 21 "grows" "Even.grows" (inClass (top 55) 0) f fd)
    (E56_0:∃ f fd,MethAt K (clOf K anames) 22 "grows" "Away.grows" (inClass (top 56) 0) f fd)
    (E57_0:∃ f fd,MethAt K (clOf K anames) 23 "grows" "Inward.grows" (inClass (top 57) 0) f fd)
    (E58_0:∃ f fd,MethAt K (clOf K anames) 24 "grows" "Upward.grows" (inClass (top 58) 0) f fd)
    (E59_0:∃ f fd,MethAt K (clOf K anames) 25 "grows" "Downward.grows" (inClass (top 59) 0) f fd)
    (E12:∃ f fd,DefAt K mg "is_whole" (top 12) f fd)
    (E20:∃ f fd,DefAt K mg "all_ones" (top 20) f fd)
    (E28:∃ f fd,DefAt K mg "highest_of_fraction" (top 28) f fd)
    (E29:∃ f fd,DefAt K mg "sign_bit" (top 29) f fd)
    (E34:∃ f fd,DefAt K mg "exact" (top 34) f fd)
    (E35:∃ f fd,DefAt K mg "steps_of" (top 35) f fd)
    (E41:∃ f fd,DefAt K mg "as_quotient" (top 41) f fd)
    (E60:∃ f fd,DefAt K mg "way_of" (top 60) f fd)
    (E72:∃ f fd,DefAt K mg "is_nought" (top 72) f fd)
    (E95:∃ f fd,DefAt K mg "pairs_of_ends" (top 95) f fd)
    (E101:∃ f fd,DefAt K mg "_law_cell_at" (top 101) f fd)
    (E102:∃ f fd,DefAt K mg "_law_whole" (top 102) f fd)
    (E103:∃ f fd,DefAt K mg "_law_wide" (top 103) f fd)
    (E104:∃ f fd,DefAt K mg "_law_near" (top 104) f fd)
    (E106:∃ f fd,DefAt K mg "_law_word" (top 106) f fd)
    (E107:∃ f fd,DefAt K mg "_law_rank" (top 107) f fd)
    (E108:∃ f fd,DefAt K mg "_law_steps" (top 108) f fd)
    (E111:∃ f fd,DefAt K mg "_law_amount" (top 111) f fd)
    (E13:∃ f fd,DefAt K mg "is_within" (top 13) f fd)
    (E36:∃ f fd,DefAt K mg "added" (top 36) f fd)
    (E37:∃ f fd,DefAt K mg "multiplied" (top 37) f fd)
    (E38:∃ f fd,DefAt K mg "is_below" (top 38) f fd)
    (E42:∃ f fd,DefAt K mg "height_of" (top 42) f fd)
    (E43:∃ f fd,DefAt K mg "in_steps" (top 43) f fd)
    (E64:∃ f fd,DefAt K mg "steps_taken" (top 64) f fd)
    (E78:∃ f fd,DefAt K mg "is_nought_below" (top 78) f fd)
    (E105:∃ f fd,DefAt K mg "_law_ranks" (top 105) f fd)
    (E109:∃ f fd,DefAt K mg "_law_point" (top 109) f fd)
    (E112:∃ f fd,DefAt K mg "_law_is_span" (top 112) f fd)
    (E113:∃ f fd,DefAt K mg "_law_not_above" (top 113) f fd)
    (E14:∃ f fd,DefAt K mg "width_of" (top 14) f fd)
    (E22:∃ f fd,DefAt K mg "check_part" (top 22) f fd)
    (E44:∃ f fd,DefAt K mg "against" (top 44) f fd)
    (E77:∃ f fd,DefAt K mg "summed" (top 77) f fd)
    (E114:∃ f fd,DefAt K mg "_law_holds" (top 114) f fd)
    (E15:∃ f fd,DefAt K mg "check_width" (top 15) f fd)
    (E16:∃ f fd,DefAt K mg "many_words" (top 16) f fd)
    (E17:∃ f fd,DefAt K mg "bias_of" (top 17) f fd)
    (E24:∃ f fd,DefAt K mg "joined" (top 24) f fd)
    (E18:∃ f fd,DefAt K mg "least_power" (top 18) f fd)
    (E21:∃ f fd,DefAt K mg "check_word" (top 21) f fd)
    (E26:∃ f fd,DefAt K mg "none_of" (top 26) f fd)
    (E27:∃ f fd,DefAt K mg "endless_of" (top 27) f fd)
    (E66:∃ f fd,DefAt K mg "marks_of" (top 66) f fd)
    (E23:∃ f fd,DefAt K mg "cut" (top 23) f fd)
    (E30:∃ f fd,DefAt K mg "turned" (top 30) f fd)
    (E31:∃ f fd,DefAt K mg "unsigned" (top 31) f fd)
    (E63:∃ f fd,DefAt K mg "step_power" (top 63) f fd)
    (E75:∃ f fd,DefAt K mg "nones_told" (top 75) f fd)
    (E25:∃ f fd,DefAt K mg "kind_of" (top 25) f fd)
    (E32:∃ f fd,DefAt K mg "with_sign" (top 32) f fd)
    (E39:∃ f fd,DefAt K mg "value_of" (top 39) f fd)
    (E51:∃ f fd,DefAt K mg "rank_of" (top 51) f fd)
    (E52:∃ f fd,DefAt K mg "word_at" (top 52) f fd)
    (E65:∃ f fd,DefAt K mg "settled" (top 65) f fd)
    (E76:∃ f fd,DefAt K mg "ends_told" (top 76) f fd)
    (E91:∃ f fd,DefAt K mg "is_endless" (top 91) f fd)
    (E62:∃ f fd,DefAtD K mg "taken" (top 62) f fd "even")
    (E71:∃ f fd,DefAt K mg "term_of" (top 71) f fd)
    (E87:∃ f fd,DefAt K mg "span_from" (top 87) f fd)
    (E92:∃ f fd,DefAt K mg "spanned" (top 92) f fd)
    (E73:∃ f fd,DefAt K mg "product" (top 73) f fd)
    (E74:∃ f fd,DefAtD K mg "gathered" (top 74) f fd "even")
    (E81:∃ f fd,DefAt K mg "quotient_of" (top 81) f fd)
    (E88:∃ f fd,DefAt K mg "span_of" (top 88) f fd)
    (E89:∃ f fd,DefAt K mg "checked_spans" (top 89) f fd)
    (E80:∃ f fd,DefAtD K mg "over" (top 80) f fd "even")
    (E83:∃ f fd,DefAtD K mg "plus" (top 83) f fd "even")
    (E85:∃ f fd,DefAtD K mg "times" (top 85) f fd "even")
    (E90:∃ f fd,DefAt K mg "holds" (top 90) f fd)
    (E84:∃ f fd,DefAtD K mg "minus" (top 84) f fd "even")
    (E93:∃ f fd,DefAt K mg "span_plus" (top 93) f fd)
    (E97:∃ f fd,DefAt K mg "end_times" (top 97) f fd)
    (E99:∃ f fd,DefAt K mg "end_over" (top 99) f fd)
    (E115:∃ f fd,DefAt K mg "_law_held" (top 115) f fd)
    (E94:∃ f fd,DefAt K mg "span_minus" (top 94) f fd)
    (E96:∃ f fd,DefAt K mg "span_times" (top 96) f fd)
    (E98:∃ f fd,DefAt K mg "span_over" (top 98) f fd)
    (E110:∃ f fd,DefAt K mg "_law_answer" (top 110) f fd)
    (E116:∃ f fd,DefAt K mg "law" (top 116) f fd) :
    ∃ fd:FuncData,(∀ (s:Shared) (u:Value),BindsTo s fd ⟨[u],[]⟩ [("_law_script",u)])∧∀ base:Heap,K.In base→base.Ns mainGlobals mg→FnOk P w K mg base (CXm (clOf K anames) P w) 16 fa fd ["_law_script"] (spF K (clOf K anames) 1 q_law_v67):=by
  obtain ⟨f55_0,fd55_0,D55_0⟩:=E55_0
  obtain ⟨f56_0,fd56_0,D56_0⟩:=E56_0
  obtain ⟨f57_0,fd57_0,D57_0⟩:=E57_0
  obtain ⟨f58_0,fd58_0,D58_0⟩:=E58_0
  obtain ⟨f59_0,fd59_0,D59_0⟩:=E59_0
  obtain ⟨f12,fd12,D12⟩:=E12
  obtain ⟨f20,fd20,D20⟩:=E20
  obtain ⟨f28,fd28,D28⟩:=E28
  obtain ⟨f29,fd29,D29⟩:=E29
  obtain ⟨f34,fd34,D34⟩:=E34
  obtain ⟨f35,fd35,D35⟩:=E35
  obtain ⟨f41,fd41,D41⟩:=E41
  obtain ⟨f60,fd60,D60⟩:=E60
  obtain ⟨f72,fd72,D72⟩:=E72
  obtain ⟨f95,fd95,D95⟩:=E95
  obtain ⟨f101,fd101,D101⟩:=E101
  obtain ⟨f102,fd102,D102⟩:=E102
  obtain ⟨f103,fd103,D103⟩:=E103
  obtain ⟨f104,fd104,D104⟩:=E104
  obtain ⟨f106,fd106,D106⟩:=E106
  obtain ⟨f107,fd107,D107⟩:=E107
  obtain ⟨f108,fd108,D108⟩:=E108
  obtain ⟨f111,fd111,D111⟩:=E111
  obtain ⟨f13,fd13,D13⟩:=E13
  obtain ⟨f36,fd36,D36⟩:=E36
  obtain ⟨f37,fd37,D37⟩:=E37
  obtain ⟨f38,fd38,D38⟩:=E38
  obtain ⟨f42,fd42,D42⟩:=E42
  obtain ⟨f43,fd43,D43⟩:=E43
  obtain ⟨f64,fd64,D64⟩:=E64
  obtain ⟨f78,fd78,D78⟩:=E78
  obtain ⟨f105,fd105,D105⟩:=E105
  obtain ⟨f109,fd109,D109⟩:=E109
  obtain ⟨f112,fd112,D112⟩:=E112
  obtain ⟨f113,fd113,D113⟩:=E113
  obtain ⟨f14,fd14,D14⟩:=E14
  obtain ⟨f22,fd22,D22⟩:=E22
  obtain ⟨f44,fd44,D44⟩:=E44
  obtain ⟨f77,fd77,D77⟩:=E77
  obtain ⟨f114,fd114,D114⟩:=E114
  obtain ⟨f15,fd15,D15⟩:=E15
  obtain ⟨f16,fd16,D16⟩:=E16
  obtain ⟨f17,fd17,D17⟩:=E17
  obtain ⟨f24,fd24,D24⟩:=E24
  obtain ⟨f18,fd18,D18⟩:=E18
  obtain ⟨f21,fd21,D21⟩:=E21
  obtain ⟨f26,fd26,D26⟩:=E26
  obtain ⟨f27,fd27,D27⟩:=E27
  obtain ⟨f66,fd66,D66⟩:=E66
  obtain ⟨f23,fd23,D23⟩:=E23
  obtain ⟨f30,fd30,D30⟩:=E30
  obtain ⟨f31,fd31,D31⟩:=E31
  obtain ⟨f63,fd63,D63⟩:=E63
  obtain ⟨f75,fd75,D75⟩:=E75
  obtain ⟨f25,fd25,D25⟩:=E25
  obtain ⟨f32,fd32,D32⟩:=E32
  obtain ⟨f39,fd39,D39⟩:=E39
  obtain ⟨f51,fd51,D51⟩:=E51
  obtain ⟨f52,fd52,D52⟩:=E52
  obtain ⟨f65,fd65,D65⟩:=E65
  obtain ⟨f76,fd76,D76⟩:=E76
  obtain ⟨f91,fd91,D91⟩:=E91
  obtain ⟨f62,fd62,D62⟩:=E62
  obtain ⟨f71,fd71,D71⟩:=E71
  obtain ⟨f87,fd87,D87⟩:=E87
  obtain ⟨f92,fd92,D92⟩:=E92
  obtain ⟨f73,fd73,D73⟩:=E73
  obtain ⟨f74,fd74,D74⟩:=E74
  obtain ⟨f81,fd81,D81⟩:=E81
  obtain ⟨f88,fd88,D88⟩:=E88
  obtain ⟨f89,fd89,D89⟩:=E89
  obtain ⟨f80,fd80,D80⟩:=E80
  obtain ⟨f83,fd83,D83⟩:=E83
  obtain ⟨f85,fd85,D85⟩:=E85
  obtain ⟨f90,fd90,D90⟩:=E90
  obtain ⟨f84,fd84,D84⟩:=E84
  obtain ⟨f93,fd93,D93⟩:=E93
  obtain ⟨f97,fd97,D97⟩:=E97
  obtain ⟨f99,fd99,D99⟩:=E99
  obtain ⟨f115,fd115,D115⟩:=E115
  obtain ⟨f94,fd94,D94⟩:=E94
  obtain ⟨f96,fd96,D96⟩:=E96
  obtain ⟨f98,fd98,D98⟩:=E98
  obtain ⟨f110,fd110,D110⟩:=E110
  obtain ⟨f116,fd116,D116⟩:=E116
  exact all hfa ⟨cls_inj2 hcls,cls_of2 X G (by decide) (fun p h=>List.mem_append_left _ h) hcls,ways_of X G (by decide) (fun p h=>List.mem_append_right _ h) hways,PySem.W.mg_none_of X G z_abs,PySem.W.mg_none_of X G z_all,PySem.W.mg_none_of X G z_any,PySem.W.mg_none_of X G z_bool,PySem.W.mg_none_of X G z_int,PySem.W.mg_none_of X G z_isinstance,PySem.W.mg_none_of X G z_len,PySem.W.mg_none_of X G z_max,PySem.W.mg_none_of X G z_min,PySem.W.mg_none_of X G z_tuple,⟨_,PySem.W.mg_of X G y_LEAST_E⟩,⟨_,PySem.W.mg_of X G y_MOST_E⟩,⟨_,PySem.W.mg_of X G y_LEAST_F⟩,⟨_,PySem.W.mg_of X G y_MOST_F⟩,⟨_,PySem.W.mg_of X G y_WRONG⟩,⟨_,PySem.W.mg_of X G y_POLE⟩,⟨_,PySem.W.mg_of X G y_GREAT⟩,⟨_,PySem.W.mg_of X G y_SMALL⟩,⟨_,PySem.W.mg_of X G y_NEAR⟩,⟨_,PySem.W.mg_of X G y_NOUGHT,kRep_of k_NOUGHT⟩,⟨_,PySem.W.mg_of X G y_LOUD_TERM,kRep_of k_LOUD_TERM⟩,⟨_,PySem.W.mg_of X G y_STILL_TERM,kRep_of k_STILL_TERM⟩⟩ D55_0 D56_0 D57_0 D58_0 D59_0 D12 D20 D28 D29 D34 D35 D41 D60 D72 D95 D101 D102 D103 D104 D106 D107 D108 D111 D13 D36 D37 D38 D42 D43 D64 D78 D105 D109 D112 D113 D14 D22 D44 D77 D114 D15 D16 D17 D24 D18 D21 D26 D27 D66 D23 D30 D31 D63 D75 D25 D32 D39 D51 D52 D65 D76 D91 D62 D71 D87 D92 D73 D74 D81 D88 D89 D80 D83 D85 D90 D84 D93 D97 D99 D115 D94 D96 D98 D110 D116
end K86
namespace PySem.W.Fast
def tw2328767712238251864:=Nat
def tw6949982047760697998:=Nat
def tw2008930398675349158:=Nat
def tw15395346658336459754:=Nat
def tw4557259869326914479:=Nat
def tw7307233062991065720:=Nat
def tw5914717688312895746:=Nat
def tw10624480027632838653:=Nat
def tw11420500585975328860:=Nat
def tw12815106188638245333:=Nat
def tw9181080536542392254:=Nat
def tw12422064748388907442:=Nat
def tw11046774086959720003:=Nat
def tw9714362373161469777:=Nat
def tw13336822719776257362:=Nat
def tw4524246391085361968:=Nat
def tw9971692539838779021:=Nat
def tw11568612201831496250:=Nat
def tw3716368997177303946:=Nat
def tw10075908046948470110:=Nat
def tw434987514744824369:=Nat
def tw3405632622451871128:=Nat
def tw5920868140926017782:=Nat
def tw9726695866597528683:=Nat
def tw13088160082335692066:=Nat
def tw12204400700214661315:=Nat
def tw10575399039254551387:=Nat
def tw2100153791262049029:=Nat
def tw10727692625577943675:=Nat
def tw11448839395601775366:=Nat
def tw4365740832874756117:=Nat
def tw4942874934311816331:=Nat
def tw6127614476540516972:=Nat
def tw9464315469793003856:=Nat
def tw7597742887776715523:=Nat
def tw2496736170645144065:=Nat
def tw10597568806553720894:=Nat
def tw10107232982028097720:=Nat
def tw12778457339410897739:=Nat
def tw7967025747187607774:=Nat
def tw16586777375343339651:=Nat
def tw14635828617771747280:=Nat
def tw10223327354182687196:=Nat
def tw868845792414830956:=Nat
def tw2623794525248357803:=Nat
def tw5105097903429216937:=Nat
def tw6287778166525810230:=Nat
def tw12591617553156342409:=Nat
def tw1466711112077325233:=Nat
def tw8322047019910258014:=Nat
def tw5685321422757549526:=Nat
def tw63483262337220614:=Nat
def tw8289065504075751826:=Nat
def tw2590529923554800422:=Nat
def tw17112024809371807619:=Nat
def tw17164127976366390387:=Nat
def tw1679471905131438374:=Nat
def tw5882582298945113099:=Nat
def tw8249597856902373836:=Nat
def tw3634077574199550864:=Nat
def tw6604635341916115483:=Nat
def tw11110085567687776119:=Nat
def tw16451316640623291456:=Nat
def tw6599501212698614619:=Nat
def tw14006215637779090774:=Nat
def tw10493951132950503970:=Nat
def tw4028291858489006149:=Nat
def tw4128828843513585408:=Nat
def tw9676691491669139639:=Nat
def tw2530905891984438964:=Nat
def tw15232241561582544307:=Nat
def tw657900919564640525:=Nat
def tw14671582946216566055:=Nat
def tw15338289095439706065:=Nat
def tw11139884104126042972:=Nat
def tw5044324219851398181:=Nat
def tw2986917875863322296:=Nat
def tw1998154946353830397:=Nat
def tw10462147637572032745:=Nat
def tw1111471685284551477:=Nat
def tw11325299446706030143:=Nat
def tw2160348981718162270:=Nat
def tw17319247759362051101:=Nat
def tw237153556573417839:=Nat
def tw4131229537992381340:=Nat
def tw6226079441932678520:=Nat
def tw948351164168504188:=Nat
def tw7815730053440478495:=Nat
def tw2182964119121548623:=Nat
def tw17173294134826806322:=Nat
def tw3519859173445352612:=Nat
def tw6391300908721602447:=Nat
def tw8876638562901531010:=Nat
def tw9352418984440086213:=Nat
def tw5300163991443138809:=Nat
def tw4657843888127450320:=Nat
def tw4444138974213048144:=Nat
def tw16111579838230233101:=Nat
def tw15294724410610029614:=Nat
def tw14247662481244759241:=Nat
def tw1547257334665786181:=Nat
def tw12924622330698430566:=Nat
def tw2617526150665554429:=Nat
def tw18185907370940723094:=Nat
def tw15520899613932924335:=Nat
def tw6375023073360569211:=Nat
def tw1280880702020959919:=Nat
def tw5740269552744464217:=Nat
def tw7539463418363671969:=Nat
def tw7255022539955233136:=Nat
def tw9307115076927250680:=Nat
def tw681590135880683056:=Nat
def tw7469395901934700845:=Nat
def tw13109746068910815850:=Nat
def tw16479222578959161899:=Nat
def tw1417446747536417070:=Nat
def tw13333204175757550247:=Nat
def tw9159217548264446785:=Nat
def tw14383703320294839813:=Nat
def tw13007402406231258940:=Nat
def tw6274260437639683492:=Nat
def tw6472547931768207693:=Nat
def tw13655086954542632627:=Nat
def tw7551714218372704037:=Nat
def tw4336224346394335249:=Nat
def tw11086204014581471540:=Nat
def tw7434391038558454443:=Nat
def tw8305458004376964116:=Nat
def tw9031790558905252122:=Nat
def tw18296993257200192388:=Nat
def tw2222681144412402575:=Nat
def tw13059270713783590633:=Nat
def tw6820033109769340945:=Nat
def tw16371033476250649086:=Nat
def tw4215000946322497886:=Nat
def tw1010483679763141488:=Nat
def tw14545872360883894122:=Nat
def tw10426244454438103273:=Nat
def tw17347957991444143640:=Nat
def tw3471615801653373321:=Nat
def tw15558028366382887696:=Nat
def tw5979597056866099839:=Nat
def tw3699139612610905507:=Nat
def tw16918492146775935363:=Nat
def tw7123316763634211420:=Nat
def tw17544362540517750706:=Nat
def tw8328689614464223377:=Nat
def tw1809502321786935329:=Nat
def tw9983110134281782362:=Nat
def tw15229121491147037010:=Nat
def tw11305698742255355074:=Nat
def tw9286072762129896860:=Nat
def tw16764056971368604963:=Nat
def tw10106391591872229620:=Nat
def tw1201871897234113544:=Nat
def tw14603234500070423474:=Nat
def tw4341335176423279720:=Nat
def tw2407911949831999312:=Nat
def tw5156963668347675606:=Nat
def tw11619419944901079235:=Nat
def tw1662491075553983029:=Nat
def tw586364447466958703:=Nat
def tw4219937226562467363:=Nat
def tw6256405561168781292:=Nat
def tw16871793051925071312:=Nat
def tw18183199950804980803:=Nat
def tw17193687017314962632:=Nat
def tw1794642466017168516:=Nat
def tw13796100317229209300:=Nat
def tw10459339548023533987:=Nat
def tw3693698923981514104:=Nat
def tw18151140842416505265:=Nat
def tw11080371078155353492:=Nat
def tw615008894416469202:=Nat
def tw13616031771696754266:=Nat
def tw4007440691915483822:=Nat
def tw14386685500313546532:=Nat
def tw8716352417130550210:=Nat
def tw6695335291635548049:=Nat
def tw6587520923312251394:=Nat
def tw2602590796867904513:=Nat
def tw12803059798602087875:=Nat
def tw12021936648548262745:=Nat
def tw10952427947478702517:=Nat
def tw1416469036701890914:=Nat
def tw10987867753220348606:=Nat
def tw12490818696224180495:=Nat
def tw484251640834412629:=Nat
def tw10630590029452736170:=Nat
def tw2702167260203837621:=Nat
def tw14422608050934095521:=Nat
def tw6127448440199681743:=Nat
def tw1854131782452119610:=Nat
def tw18335908441671387502:=Nat
def tw11366766155169671904:=Nat
def tw11010233985212265831:=Nat
def tw638641744537146237:=Nat
def tw12422621523314779874:=Nat
def tw15855308329433143171:=Nat
def tw11768280272027546489:=Nat
def tw2152007539368446749:=Nat
def tw7137269421086723996:=Nat
def tw17401710580856641572:=Nat
def tw7440361642915675402:=Nat
def tw4845059957298481652:=Nat
def tw13602716507184783625:=Nat
def tw7009140500084403486:=Nat
def tw12823460545054869647:=Nat
def tw5203389510085923288:=Nat
def tw15080402276756370688:=Nat
def tw9181019596559950694:=Nat
def tw12654483782116635058:=Nat
def tw10563012634977149579:=Nat
def tw529927369899738915:=Nat
def tw15682748132189891107:=Nat
def tw2817043592714657129:=Nat
def tw14776255450167050941:=Nat
def tw365240266118907261:=Nat
def tw16170871170837021571:=Nat
def tw1234908392747863335:=Nat
def tw6981992043648021933:=Nat
def tw13412266589570505422:=Nat
def tw14858743885106508464:=Nat
def tw6639398664585304882:=Nat
def tw5521916316079423322:=Nat
def tw1476181347308192186:=Nat
def tw8453111890540064277:=Nat
def tw14919540545874879242:=Nat
def tw5889400118530711765:=Nat
def tw6813393146367710233:=Nat
def tw10965649110932706122:=Nat
def tw4523316636062090332:=Nat
def tw3915070308000671771:=Nat
def tw454661534558062312:=Nat
def tw5217412536811749630:=Nat
def tw15190818208266718095:=Nat
def tw508770594551749281:=Nat
def tw2658859298764274202:=Nat
def tw4826981445545616656:=Nat
def tw4516308097304145295:=Nat
def tw11942722958841766529:=Nat
def tw8876355311467419847:=Nat
def tw14589048721044454478:=Nat
def tw7035597037285872654:=Nat
def tw16095059013120638419:=Nat
def tw16844509758575435058:=Nat
def tw10353314317467009073:=Nat
def tw14705672287980317056:=Nat
def tw17054537834600025685:=Nat
def tw7959791298689191906:=Nat
def tw15736093441053323690:=Nat
def tw2530924969750269199:=Nat
def tw4781181431851405585:=Nat
def tw3247111900706628394:=Nat
def tw7576565593808006762:=Nat
def tw4504351804364754837:=Nat
def tw11725291965215725016:=Nat
def tw9882733599068596169:=Nat
def tw8929072947639520929:=Nat
def tw877610848613928395:=Nat
def tw4188141565034569331:=Nat
def tw3920288524585008290:=Nat
def tw11233806380192088643:=Nat
def tw5067966964287368744:=Nat
def tw10035918103304416746:=Nat
def tw5927610944225560063:=Nat
def tw3982374842259591357:=Nat
def tw1982645692526509082:=Nat
def tw3339306754310457110:=Nat
def tw784894291341679176:=Nat
def tw14568151360263118501:=Nat
def tw8147523368940201235:=Nat
def tw4292111335853465840:=Nat
def tw3962279531597768027:=Nat
def tw6137765466050439709:=Nat
def tw10650188856910995826:=Nat
def tw17947251661245233842:=Nat
def tw5784968229880172331:=Nat
def tw7999643492890942906:=Nat
def tw17592798839102331412:=Nat
def tw9789036203636915055:=Nat
def tw3924751401105740849:=Nat
def tw18374206237534538036:=Nat
def tw13148341454017710866:=Nat
def tw11693836959491030599:=Nat
def tw9463942454687983545:=Nat
def tw15783338040462040253:=Nat
def tw3567080190223741046:=Nat
def tw471165714105214790:=Nat
def tw15550737721476436851:=Nat
def tw9323000918365559647:=Nat
def tw1215045472270325831:=Nat
def tw16473507412275918757:=Nat
def tw15494908557713631120:=Nat
def tw4514157732894664085:=Nat
def tw2254755148659241734:=Nat
def tw1726156363644795031:=Nat
def tw13433579743539316980:=Nat
def tw14778012911246075674:=Nat
def tw13891549965867998479:=Nat
def tw40523360462331501:=Nat
def tw5833228209640522325:=Nat
def tw13647304012214968695:=Nat
def tw3068686996227821514:=Nat
def tw9702545925522251598:=Nat
def tw12986100183602442236:=Nat
def tw12623921059731036716:=Nat
def tw16457111206268510961:=Nat
def tw8793608983604350203:=Nat
def tw2181597620877002341:=Nat
def tw16079950322557247279:=Nat
def tw2971937653544352750:=Nat
def tw8439981695685293115:=Nat
def tw6970887992038940003:=Nat
def tw3104436994341389460:=Nat
def tw13357180764697563792:=Nat
def tw10788290408086514761:=Nat
def tw8226737934410481516:=Nat
def tw12254026046376323707:=Nat
def tw15799685118112883037:=Nat
def tw2945357151043414371:=Nat
def tw10804012267110695931:=Nat
def tw5169104136526032878:=Nat
def tw3610260344211783682:=Nat
def tw10840043712341455222:=Nat
def tw2162925711971990435:=Nat
def tw4854499826023926139:=Nat
def tw18403736075690159979:=Nat
def tw16912629661245075219:=Nat
def tw17365805441094357980:=Nat
def tw6135730306865482056:=Nat
def tw6236042039595125091:=Nat
def tw3995110448026094166:=Nat
def tw7444019644983847521:=Nat
def tw16598938894090646941:=Nat
def tw1462250631232909070:=Nat
def tw7999944485249999398:=Nat
def tw6536507397602831340:=Nat
def tw15789549404717930444:=Nat
def tw16042006612504864972:=Nat
def tw7619378354145219925:=Nat
def tw11121512100705858083:=Nat
def tw15697293537515947135:=Nat
def tw11597782369071313975:=Nat
def tw2544981342727811491:=Nat
def tw8929660892659714786:=Nat
def tw8942801509171161815:=Nat
def tw929159130186217969:=Nat
def tw11721680876457459822:=Nat
def tw6221588226931813640:=Nat
def tw6380323270813468040:=Nat
def tw3941593403393407612:=Nat
def tw11691924025997596618:=Nat
def tw17461832980112641258:=Nat
def tw3353330041617782380:=Nat
def tw10492069980422099173:=Nat
def tw12462792987214243953:=Nat
def tw10492029477152459283:=Nat
def tw10742456753957703020:=Nat
def tw12198269342308967840:=Nat
def tw10036001123706853428:=Nat
def tw8944699142918203376:=Nat
def tw7315406985596325263:=Nat
def tw18022138352120782638:=Nat
def tw12264127136566808044:=Nat
def tw14007515450699503635:=Nat
def tw10896858857479417474:=Nat
def tw15737801124788764814:=Nat
def tw17148695667112612503:=Nat
def tw6359983538618967357:=Nat
def tw14139379261746700646:=Nat
def tw10490195401885056787:=Nat
def tw10247084559273451504:=Nat
def tw7682453379269051781:=Nat
def tw12518901418253241176:=Nat
def tw5942462936207167853:=Nat
def tw11378954473081840441:=Nat
def tw14090795409317809086:=Nat
def tw2680492424322606910:=Nat
def tw11928784064327083614:=Nat
def tw3942136223579557926:=Nat
def tw6761462958494350406:=Nat
def tw12874029424852673395:=Nat
def tw1487466404677342514:=Nat
def tw9666005182334771705:=Nat
def tw2115932640987898019:=Nat
def tw11672751551746874347:=Nat
def tw17408655616776632544:=Nat
def tw1312502905910850647:=Nat
def tw9732496884724413549:=Nat
def tw11896067083309537300:=Nat
def tw6340280812877100510:=Nat
def tw459358027609707124:=Nat
def tw17258307417080272323:=Nat
def tw13189454029621712941:=Nat
def tw14581865512200960128:=Nat
def tw14701448899077449170:=Nat
def tw4758266182586433099:=Nat
def tw14761779963759606122:=Nat
def tw9185979809622588193:=Nat
def tw833381225230816878:=Nat
def tw5779210922550662602:=Nat
def tw6355756935538316782:=Nat
def tw12693043149366853566:=Nat
def tw9095663112633750236:=Nat
def tw12413216697999728904:=Nat
def tw5294573165629723554:=Nat
def tw3491887220630766428:=Nat
def tw10270498829833756158:=Nat
def tw8149410980146712064:=Nat
def tw14007798891997001643:=Nat
def tw4656585737775474158:=Nat
def tw13388230672728182594:=Nat
def tw10845381189050474073:=Nat
def tw8758708839708863200:=Nat
def tw5747015252206304371:=Nat
def tw16277726267900980366:=Nat
def tw14782695443454135547:=Nat
def tw12779755166592131146:=Nat
def tw13836758347006248730:=Nat
def tw514304800765068246:=Nat
def tw821654788576026664:=Nat
def tw376155478371123072:=Nat
def tw16281886874019627687:=Nat
def tw13427404939865860110:=Nat
def tw10907018544096219418:=Nat
def tw12555009035720879117:=Nat
def tw13340513915183745829:=Nat
def tw7922272964295342383:=Nat
def tw8445082584247231291:=Nat
def tw3581418112046411222:=Nat
def tw17405881763735531603:=Nat
def tw10700259543895065099:=Nat
def tw4396744039947008384:=Nat
def tw184239272768260484:=Nat
def tw8213545389270739612:=Nat
def tw2444273524024329949:=Nat
def tw13387151123813268266:=Nat
def tw9509006476176415444:=Nat
def tw15545015552161717895:=Nat
def tw16295162545113959629:=Nat
def tw7989745100375371356:=Nat
def tw17385749366933435578:=Nat
def tw12256192130045821221:=Nat
def tw10763009122525793399:=Nat
def tw7216183222420508213:=Nat
def tw13334572456460358443:=Nat
def tw6470304415524086150:=Nat
def tw12227037135415466831:=Nat
def tw16900179065364153179:=Nat
def tw9473854807474821777:=Nat
def tw2226689295987196602:=Nat
def tw7039437660428806021:=Nat
def tw7738685143443866773:=Nat
def tw13386997296245982636:=Nat
def tw9923307654837820453:=Nat
def tw11330743876579074841:=Nat
def tw11159198135404987343:=Nat
def tw13968811104307783720:=Nat
def tw7301136624661774292:=Nat
def tw14499979397905542001:=Nat
def tw14403252888218869887:=Nat
def tw16183604625898152235:=Nat
def tw472110052720499179:=Nat
def tw4534199797959327478:=Nat
def tw11362345184393544608:=Nat
def tw390530173401561178:=Nat
def tw3726262197551762838:=Nat
def tw6045027757155997800:=Nat
def tw1322663073433070222:=Nat
def tw1794275634220158184:=Nat
def tw4442275289984597892:=Nat
def tw3232070483097187291:=Nat
def tw7888664002491511314:=Nat
def tw8259100289380474047:=Nat
def tw946503443969031281:=Nat
def tw4387544369217996010:=Nat
def tw18028092721429756052:=Nat
def tw16353793014447433521:=Nat
def tw15255723176242653005:=Nat
def tw12840075121748078400:=Nat
def tw524887192243310514:=Nat
def tw17506639909500587159:=Nat
def tw3100217992852893337:=Nat
def tw3221919158580241147:=Nat
def tw4212352446076445159:=Nat
def tw16375936500503322555:=Nat
def tw1852454701799058380:=Nat
def tw11179042678145810518:=Nat
def tw14574471426282615432:=Nat
def tw12441969390788479308:=Nat
def tw6763474429139019599:=Nat
def tw1355260600252748333:=Nat
def tw4965799975237292712:=Nat
def tw13210566279969436345:=Nat
def tw17027424436989470238:=Nat
def tw8983585221377142961:=Nat
def tw1609573081581705486:=Nat
def tw5290857405268092133:=Nat
def tw1040481948303714744:=Nat
def tw16364290718925359516:=Nat
def tw691521943777109380:=Nat
def tw3539408024154893526:=Nat
def tw13257520753838291735:=Nat
def tw17007528342920003969:=Nat
def tw9198636598157026003:=Nat
def tw16628682343878681681:=Nat
def tw2771594078935652768:=Nat
def tw14973059566918769675:=Nat
def tw18160562031807482710:=Nat
def tw904226770834283182:=Nat
def tw509556818053221882:=Nat
def tw10753580206422137684:=Nat
def tw8595195868031398924:=Nat
def tw325251556707733060:=Nat
def tw9387287752195394445:=Nat
def tw8533322356274067865:=Nat
def tw10432888526300406628:=Nat
def tw3867503184697325405:=Nat
def tw10548254240997369957:=Nat
def tw7130111089172871395:=Nat
def tw2159185313153424765:=Nat
def tw1272767415881977887:=Nat
def tw14574436037719645751:=Nat
def tw6555224606719736683:=Nat
def tw13300189924329449024:=Nat
def tw9923720346072244320:=Nat
def tw17276947820379957735:=Nat
def tw8085624907230781687:=Nat
def tw7587977238331142433:=Nat
def tw18132220944194507726:=Nat
def tw10845938156253875785:=Nat
def tw9339122363131608372:=Nat
def tw12051658140976145530:=Nat
def tw4919965385337948309:=Nat
def tw17669669951138801834:=Nat
def tw2407487689028333977:=Nat
def tw14797268263007135685:=Nat
def tw5372453233669199984:=Nat
def tw8733539994342036460:=Nat
def tw128411179751417416:=Nat
def tw18318456081025126764:=Nat
def tw6699668288937674766:=Nat
def tw9326363673584075969:=Nat
def tw10056209544312884126:=Nat
def tw15620345527363874987:=Nat
def tw2061246770047711135:=Nat
def tw18191293444548284028:=Nat
def tw2426902516185829524:=Nat
def tw2480614038087174830:=Nat
def tw5628302931463849574:=Nat
def tw16223371333964801179:=Nat
def tw11240618234077559892:=Nat
def tw13894810687283297606:=Nat
def tw15872080588227679166:=Nat
def tw1010607006515235959:=Nat
def tw13500051838838434432:=Nat
def tw8066780628969649644:=Nat
def tw2885360671057995546:=Nat
def tw12109849302859574894:=Nat
def tw12618289415715495205:=Nat
def tw2215406850319886351:=Nat
def tw7478525509861568704:=Nat
def tw17197140542650707605:=Nat
def tw6498825346237673347:=Nat
def tw12485411771797466198:=Nat
def tw56159072648156497:=Nat
def tw5364881724206637205:=Nat
def tw8151500056278910952:=Nat
def tw9874767970448464765:=Nat
def tw17145563022974520325:=Nat
def tw7822003452152549767:=Nat
def tw13842588404830483246:=Nat
def tw5602764916981185788:=Nat
def tw2114867262148742503:=Nat
def tw11066216164351911757:=Nat
def tw1047629899586109481:=Nat
def tw9818163729210034215:=Nat
def tw11271773234675246178:=Nat
def tw14801842491552515715:=Nat
def tw6199084361257509470:=Nat
def tw4701412597047712094:=Nat
def tw10284822229504824319:=Nat
def tw5223765257960970036:=Nat
def tw5264245435921300408:=Nat
def tw2196750650156608211:=Nat
def tw5040347526369346836:=Nat
def tw8990623943918890424:=Nat
def tw16557485089220255180:=Nat
def tw10312866055159958124:=Nat
def tw12781288240115986673:=Nat
def tw109943055822914729:=Nat
def tw13854519570450241915:=Nat
def tw7066720472819149160:=Nat
def tw14005285570356820836:=Nat
def tw18075471654597850682:=Nat
def tw10072669758846774298:=Nat
def tw3004660395451749897:=Nat
def tw8127136402499380012:=Nat
def tw4515278760540872320:=Nat
def tw12601509106413831415:=Nat
def tw15909235040034330569:=Nat
def tw8689610891855976967:=Nat
def tw14076182579738818322:=Nat
def tw10460575848377541119:=Nat
def tw900722401721580991:=Nat
def tw16436363894571152647:=Nat
def tw8676240167744982840:=Nat
def tw6849438729097696869:=Nat
def tw1459326965499454752:=Nat
def tw8073140146170702860:=Nat
def tw73114840970257071:=Nat
def tw741832951488462453:=Nat
def tw5617251821265901470:=Nat
def tw8790049118104396007:=Nat
def tw712112106040457747:=Nat
def tw16074294695039973950:=Nat
def tw3475615992563816765:=Nat
def tw16621767210252744744:=Nat
def tw17252662460345009158:=Nat
def tw3207040603223283363:=Nat
def tw977870092105847964:=Nat
def tw8897634695537810699:=Nat
def tw717099480517137360:=Nat
def tw6898113292650694333:=Nat
def tw15976031535854771111:=Nat
def tw15600550555244008200:=Nat
def tw1278525397129886375:=Nat
def tw12642881245839194103:=Nat
def tw12286468279586996754:=Nat
def tw15832409638512425171:=Nat
def tw9863845853433563010:=Nat
def tw1978607929307828446:=Nat
def tw10197285850506523146:=Nat
def tw18122242605574170272:=Nat
def tw2747822787241380634:=Nat
def tw15487590775487720947:=Nat
def tw6623108066853296738:=Nat
def tw277665897594107801:=Nat
def tw15997199986453918758:=Nat
def tw806051196995493155:=Nat
def tw5731329006194553436:=Nat
def tw13459534446348881436:=Nat
def tw17405286165295727230:=Nat
def tw4780901658191004022:=Nat
def tw11959844106726220072:=Nat
def tw9237214570229268092:=Nat
def tw12301783236463480833:=Nat
def tw13359161721976575194:=Nat
def tw10406878357807620923:=Nat
def tw6285321343319868411:=Nat
def tw16438290875180473985:=Nat
def tw5034184606400647426:=Nat
def tw17497350561455400869:=Nat
def tw933983912630525682:=Nat
def tw17271345808287792804:=Nat
def tw12542334529463634561:=Nat
def tw2910347109202171865:=Nat
def tw7678571545342093524:=Nat
def tw115384928471003661:=Nat
def tw7554473414147499449:=Nat
def tw13247949038326267360:=Nat
def tw995406078782958540:=Nat
def tw4420265047527015779:=Nat
def tw6537518208687018483:=Nat
def tw896576085489812131:=Nat
def tw6754502230534416428:=Nat
def tw18090297520263057455:=Nat
def tw4130104849519648982:=Nat
def tw15693042901623660586:=Nat
def tw10893983571881283857:=Nat
def tw4066107254984266203:=Nat
def tw17389339270470017017:=Nat
def tw5277191809398309339:=Nat
def tw6842119028030129104:=Nat
def tw6976705412504616546:=Nat
def tw13823028501312671468:=Nat
def tw6666212523463718151:=Nat
def tw12718952628304221977:=Nat
def tw10266212349474998238:=Nat
def tw1877147003237247267:=Nat
def tw17051320457596995281:=Nat
def tw5282070142486931123:=Nat
def tw12638437140076153697:=Nat
def tw13383132238900163861:=Nat
def tw3823774055472132628:=Nat
def tw10642280180203941550:=Nat
def tw5408389705339922468:=Nat
def tw9842182469624897401:=Nat
def tw6261887409087261593:=Nat
def tw17670167832343114521:=Nat
def tw7620882331449513916:=Nat
def tw5021582243893495563:=Nat
def tw5387776315090364928:=Nat
def tw6855841010640228808:=Nat
def tw8463107795614316415:=Nat
def tw12526022179642357434:=Nat
def tw15993781296118607792:=Nat
def tw15197181282970464862:=Nat
def tw8427643776374833525:=Nat
def tw324423438814460409:=Nat
def tw9298296132736131133:=Nat
def tw5780910155698112280:=Nat
def tw12208206499630793803:=Nat
def tw9653343013369304037:=Nat
def tw15574744711415050364:=Nat
def tw2159796601884226720:=Nat
def tw11159563183890586373:=Nat
def tw5343127009366131834:=Nat
def tw8633794547914418932:=Nat
def tw3117889040340821313:=Nat
def tw5036513406680209866:=Nat
def tw6284900807841250322:=Nat
def tw10761456895910191240:=Nat
def tw5234887483529693837:=Nat
def tw14617224871940001457:=Nat
def tw15871810943477573965:=Nat
def tw2792583946798758414:=Nat
def tw14410304895671010173:=Nat
def tw15922612321048581480:=Nat
def tw14431993478660859299:=Nat
def tw11519904743976629681:=Nat
def tw17430866492757311285:=Nat
def tw11490034435802588466:=Nat
def tw18125251732586880202:=Nat
def tw9451332561169696037:=Nat
def tw13833353163304297799:=Nat
def tw13870350406541935602:=Nat
def tw10158892083162086933:=Nat
def tw5698847117370057740:=Nat
def tw2751579424433249903:=Nat
def tw1173481550628624398:=Nat
def tw10745721578379734374:=Nat
def tw17332541848647434131:=Nat
def tw8016814524576168782:=Nat
def tw11601191082167585805:=Nat
def tw6466576743755214156:=Nat
def tw623369922553571240:=Nat
def tw4767548643489022647:=Nat
def tw4301028579030777890:=Nat
def tw10649735955272104353:=Nat
def tw15409106919988743447:=Nat
def tw6283399314377395829:=Nat
def tw15608708745060428756:=Nat
def tw5563798156023259079:=Nat
def tw6083535206170684372:=Nat
def tw242213227323669283:=Nat
def tw17515849827741727741:=Nat
def tw16035270884894073760:=Nat
def tw7063026762004708489:=Nat
def tw1688754503390190311:=Nat
def tw17649670153521481194:=Nat
def tw3706838528939994103:=Nat
def tw7089796113028181137:=Nat
def tw14184506380449943860:=Nat
def tw8647904970807650786:=Nat
def tw12823486870194473161:=Nat
def tw5784608278476203555:=Nat
def tw9253982877747484622:=Nat
def tw6451141244570390757:=Nat
def tw11542592169304783368:=Nat
def tw1170860000597767237:=Nat
def tw14883134889759974313:=Nat
def tw1391315694974631493:=Nat
def tw10398427977338678557:=Nat
def tw10466018918551776780:=Nat
def tw16679527961862538044:=Nat
def tw12911662671156095537:=Nat
def tw3780004961817180089:=Nat
def tw6950730732841063943:=Nat
def tw2975158477783944249:=Nat
def tw8284217971371621974:=Nat
def tw17895756844212980128:=Nat
def tw629898058396813907:=Nat
def tw11939298315810133721:=Nat
def tw3996616576395149111:=Nat
def tw7553419101002927676:=Nat
def tw4385361479559869558:=Nat
def tw15581831841563921023:=Nat
def tw12722325747422497402:=Nat
def tw8989765276964095643:=Nat
def tw6498674654513569251:=Nat
def tw10515188604502244053:=Nat
def tw13520419090329175138:=Nat
def tw3919315477993603874:=Nat
def tw11929881671580234480:=Nat
def tw16744748679127577498:=Nat
def tw4505040983993481035:=Nat
def tw11561955687777710421:=Nat
def tw7814622851093289975:=Nat
def tw9679171272201083963:=Nat
def tw1889417536021009562:=Nat
def tw4947186812014627742:=Nat
def tw14073242587803408955:=Nat
def tw1178415789503875172:=Nat
def tw10498502981623817784:=Nat
def tw10664650464441696563:=Nat
def tw1234278366277813179:=Nat
def tw16341214278678948753:=Nat
def tw15368921291726999507:=Nat
def tw673770882087754955:=Nat
def tw16937408054984230598:=Nat
def tw1955039436571890919:=Nat
def tw16025138180484009679:=Nat
def tw6706468206370157222:=Nat
def tw5830235290268144919:=Nat
def tw17708779681496782110:=Nat
def tw3000306801931838484:=Nat
def tw10423946799150953636:=Nat
def tw15067292767004272525:=Nat
def tw9662996195492406375:=Nat
def tw17245402910686080358:=Nat
def tw16309923490756380338:=Nat
def tw4144418593045453398:=Nat
def tw12603886365302852420:=Nat
def tw7727683099191563172:=Nat
def tw8093559050430576467:=Nat
def tw15207590947255254319:=Nat
def tw12548331329550122681:=Nat
def tw2726485836044865317:=Nat
def tw10927943633136926276:=Nat
def tw10244843398035118168:=Nat
def tw8520595213756973842:=Nat
def tw8331911095696790623:=Nat
def tw9520618320818139449:=Nat
def tw4584940424019231661:=Nat
def tw3174345063703103150:=Nat
def tw12724038726519361167:=Nat
def tw8110424053607932762:=Nat
def tw15701508144476001653:=Nat
def tw4594805743080620147:=Nat
def tw14778734586959624947:=Nat
def tw4794052310899984503:=Nat
end PySem.W.Fast
open PySem PySem.W PyProof.Rows
set_option maxRecDepth 100000 in
set_option maxHeartbeats 0 in
theorem PySem.Challenge.cw_floatforge_k86_whole_spans_hold_holds : PySem.Challenge.rw_floatforge_k86_whole_spans_hold.Holds := by
  w_on;o_law;k_head;(case hw=>w_witness2)
  k_fill
  refine Mi.law_of (l:=PySem.Challenge.rw_floatforge_k86_whole_spans_hold) (k:=16) (x:="_law_script") (F:=Cm.q_law_v67) (names:=K86.anames) rfl rfl ⟨rfl,by decide,by decide⟩ (fun w h Y=>PySem.W.kIn_of Y) ?F K86.holds
  case F =>
    intro w mg fa h KX G hmg
    refine' K86.fin KX G hmg ?hcls ?hways ?z_abs ?z_all ?z_any ?z_bool ?z_int ?z_isinstance ?z_len ?z_max ?z_min ?z_tuple ?y_LEAST_E ?y_MOST_E ?y_LEAST_F ?y_MOST_F ?y_WRONG ?y_POLE ?y_GREAT ?y_SMALL ?y_NEAR ?y_NOUGHT ?k_NOUGHT ?y_LOUD_TERM ?k_LOUD_TERM ?y_STILL_TERM ?k_STILL_TERM ?E55_0 ?E56_0 ?E57_0 ?E58_0 ?E59_0 ?E12 ?E20 ?E28 ?E29 ?E34 ?E35 ?E41 ?E60 ?E72 ?E95 ?E101 ?E102 ?E103 ?E104 ?E106 ?E107 ?E108 ?E111 ?E13 ?E36 ?E37 ?E38 ?E42 ?E43 ?E64 ?E78 ?E105 ?E109 ?E112 ?E113 ?E14 ?E22 ?E44 ?E77 ?E114 ?E15 ?E16 ?E17 ?E24 ?E18 ?E21 ?E26 ?E27 ?E66 ?E23 ?E30 ?E31 ?E63 ?E75 ?E25 ?E32 ?E39 ?E51 ?E52 ?E65 ?E76 ?E91 ?E62 ?E71 ?E87 ?E92 ?E73 ?E74 ?E81 ?E88 ?E89 ?E80 ?E83 ?E85 ?E90 ?E84 ?E93 ?E97 ?E99 ?E115 ?E94 ?E96 ?E98 ?E110 ?E116
    (case hcls=>kernel_rfl)
    (case hways=>kernel_rfl)
    (case z_abs=>k_is)
    (case z_all=>k_is)
    (case z_any=>k_is)
    (case z_bool=>k_is)
    (case z_int=>k_is)
    (case z_isinstance=>k_is)
    (case z_len=>k_is)
    (case z_max=>k_is)
    (case z_min=>k_is)
    (case z_tuple=>k_is)
    (case y_LEAST_E=>k_is)
    (case y_MOST_E=>k_is)
    (case y_LEAST_F=>k_is)
    (case y_MOST_F=>k_is)
    (case y_WRONG=>k_is)
    (case y_POLE=>k_is)
    (case y_GREAT=>k_is)
    (case y_SMALL=>k_is)
    (case y_NEAR=>k_is)
    (case y_NOUGHT=>k_is)
    (case k_NOUGHT=>kernel_rfl)
    (case y_LOUD_TERM=>k_is)
    (case k_LOUD_TERM=>kernel_rfl)
    (case y_STILL_TERM=>k_is)
    (case k_STILL_TERM=>kernel_rfl)
    (case E55_0=>refine' Mi.meth_mk (all:=K86.anames) (x:="Even") (by decide) (Mi.at_mem 7 rfl) ?a ?b ?i ?l ?d ?k;(case a=>k_is);(case b=>k_is);(case i=>k_is);(case l=>k_is);(case d=>k_is);(case k=>k_is))
    (case E56_0=>refine' Mi.meth_mk (all:=K86.anames) (x:="Away") (by decide) (Mi.at_mem 8 rfl) ?a ?b ?i ?l ?d ?k;(case a=>k_is);(case b=>k_is);(case i=>k_is);(case l=>k_is);(case d=>k_is);(case k=>k_is))
    (case E57_0=>refine' Mi.meth_mk (all:=K86.anames) (x:="Inward") (by decide) (Mi.at_mem 9 rfl) ?a ?b ?i ?l ?d ?k;(case a=>k_is);(case b=>k_is);(case i=>k_is);(case l=>k_is);(case d=>k_is);(case k=>k_is))
    (case E58_0=>refine' Mi.meth_mk (all:=K86.anames) (x:="Upward") (by decide) (Mi.at_mem 10 rfl) ?a ?b ?i ?l ?d ?k;(case a=>k_is);(case b=>k_is);(case i=>k_is);(case l=>k_is);(case d=>k_is);(case k=>k_is))
    (case E59_0=>refine' Mi.meth_mk (all:=K86.anames) (x:="Downward") (by decide) (Mi.at_mem 11 rfl) ?a ?b ?i ?l ?d ?k;(case a=>k_is);(case b=>k_is);(case i=>k_is);(case l=>k_is);(case d=>k_is);(case k=>k_is))
    (case E12=>refine' Mi.def_mk KX G ?_ ?_ ?_ ?_<;>try k_is)
    (case E20=>refine' Mi.def_mk KX G ?_ ?_ ?_ ?_<;>try k_is)
    (case E28=>refine' Mi.def_mk KX G ?_ ?_ ?_ ?_<;>try k_is)
    (case E29=>refine' Mi.def_mk KX G ?_ ?_ ?_ ?_<;>try k_is)
    (case E34=>refine' Mi.def_mk KX G ?_ ?_ ?_ ?_<;>try k_is)
    (case E35=>refine' Mi.def_mk KX G ?_ ?_ ?_ ?_<;>try k_is)
    (case E41=>refine' Mi.def_mk KX G ?_ ?_ ?_ ?_<;>try k_is)
    (case E60=>refine' Mi.def_mk KX G ?_ ?_ ?_ ?_<;>try k_is)
    (case E72=>refine' Mi.def_mk KX G ?_ ?_ ?_ ?_<;>try k_is)
    (case E95=>refine' Mi.def_mk KX G ?_ ?_ ?_ ?_<;>try k_is)
    (case E101=>refine' Mi.def_mk KX G ?_ ?_ ?_ ?_<;>try k_is)
    (case E102=>refine' Mi.def_mk KX G ?_ ?_ ?_ ?_<;>try k_is)
    (case E103=>refine' Mi.def_mk KX G ?_ ?_ ?_ ?_<;>try k_is)
    (case E104=>refine' Mi.def_mk KX G ?_ ?_ ?_ ?_<;>try k_is)
    (case E106=>refine' Mi.def_mk KX G ?_ ?_ ?_ ?_<;>try k_is)
    (case E107=>refine' Mi.def_mk KX G ?_ ?_ ?_ ?_<;>try k_is)
    (case E108=>refine' Mi.def_mk KX G ?_ ?_ ?_ ?_<;>try k_is)
    (case E111=>refine' Mi.def_mk KX G ?_ ?_ ?_ ?_<;>try k_is)
    (case E13=>refine' Mi.def_mk KX G ?_ ?_ ?_ ?_<;>try k_is)
    (case E36=>refine' Mi.def_mk KX G ?_ ?_ ?_ ?_<;>try k_is)
    (case E37=>refine' Mi.def_mk KX G ?_ ?_ ?_ ?_<;>try k_is)
    (case E38=>refine' Mi.def_mk KX G ?_ ?_ ?_ ?_<;>try k_is)
    (case E42=>refine' Mi.def_mk KX G ?_ ?_ ?_ ?_<;>try k_is)
    (case E43=>refine' Mi.def_mk KX G ?_ ?_ ?_ ?_<;>try k_is)
    (case E64=>refine' Mi.def_mk KX G ?_ ?_ ?_ ?_<;>try k_is)
    (case E78=>refine' Mi.def_mk KX G ?_ ?_ ?_ ?_<;>try k_is)
    (case E105=>refine' Mi.def_mk KX G ?_ ?_ ?_ ?_<;>try k_is)
    (case E109=>refine' Mi.def_mk KX G ?_ ?_ ?_ ?_<;>try k_is)
    (case E112=>refine' Mi.def_mk KX G ?_ ?_ ?_ ?_<;>try k_is)
    (case E113=>refine' Mi.def_mk KX G ?_ ?_ ?_ ?_<;>try k_is)
    (case E14=>refine' Mi.def_mk KX G ?_ ?_ ?_ ?_<;>try k_is)
    (case E22=>refine' Mi.def_mk KX G ?_ ?_ ?_ ?_<;>try k_is)
    (case E44=>refine' Mi.def_mk KX G ?_ ?_ ?_ ?_<;>try k_is)
    (case E77=>refine' Mi.def_mk KX G ?_ ?_ ?_ ?_<;>try k_is)
    (case E114=>refine' Mi.def_mk KX G ?_ ?_ ?_ ?_<;>try k_is)
    (case E15=>refine' Mi.def_mk KX G ?_ ?_ ?_ ?_<;>try k_is)
    (case E16=>refine' Mi.def_mk KX G ?_ ?_ ?_ ?_<;>try k_is)
    (case E17=>refine' Mi.def_mk KX G ?_ ?_ ?_ ?_<;>try k_is)
    (case E24=>refine' Mi.def_mk KX G ?_ ?_ ?_ ?_<;>try k_is)
    (case E18=>refine' Mi.def_mk KX G ?_ ?_ ?_ ?_<;>try k_is)
    (case E21=>refine' Mi.def_mk KX G ?_ ?_ ?_ ?_<;>try k_is)
    (case E26=>refine' Mi.def_mk KX G ?_ ?_ ?_ ?_<;>try k_is)
    (case E27=>refine' Mi.def_mk KX G ?_ ?_ ?_ ?_<;>try k_is)
    (case E66=>refine' Mi.def_mk KX G ?_ ?_ ?_ ?_<;>try k_is)
    (case E23=>refine' Mi.def_mk KX G ?_ ?_ ?_ ?_<;>try k_is)
    (case E30=>refine' Mi.def_mk KX G ?_ ?_ ?_ ?_<;>try k_is)
    (case E31=>refine' Mi.def_mk KX G ?_ ?_ ?_ ?_<;>try k_is)
    (case E63=>refine' Mi.def_mk KX G ?_ ?_ ?_ ?_<;>try k_is)
    (case E75=>refine' Mi.def_mk KX G ?_ ?_ ?_ ?_<;>try k_is)
    (case E25=>refine' Mi.def_mk KX G ?_ ?_ ?_ ?_<;>try k_is)
    (case E32=>refine' Mi.def_mk KX G ?_ ?_ ?_ ?_<;>try k_is)
    (case E39=>refine' Mi.def_mk KX G ?_ ?_ ?_ ?_<;>try k_is)
    (case E51=>refine' Mi.def_mk KX G ?_ ?_ ?_ ?_<;>try k_is)
    (case E52=>refine' Mi.def_mk KX G ?_ ?_ ?_ ?_<;>try k_is)
    (case E65=>refine' Mi.def_mk KX G ?_ ?_ ?_ ?_<;>try k_is)
    (case E76=>refine' Mi.def_mk KX G ?_ ?_ ?_ ?_<;>try k_is)
    (case E91=>refine' Mi.def_mk KX G ?_ ?_ ?_ ?_<;>try k_is)
    (case E62=>refine' Mi.def_mkD KX G ?_ ?_ ?_ ?_ ?_<;>try k_is)
    (case E71=>refine' Mi.def_mk KX G ?_ ?_ ?_ ?_<;>try k_is)
    (case E87=>refine' Mi.def_mk KX G ?_ ?_ ?_ ?_<;>try k_is)
    (case E92=>refine' Mi.def_mk KX G ?_ ?_ ?_ ?_<;>try k_is)
    (case E73=>refine' Mi.def_mk KX G ?_ ?_ ?_ ?_<;>try k_is)
    (case E74=>refine' Mi.def_mkD KX G ?_ ?_ ?_ ?_ ?_<;>try k_is)
    (case E81=>refine' Mi.def_mk KX G ?_ ?_ ?_ ?_<;>try k_is)
    (case E88=>refine' Mi.def_mk KX G ?_ ?_ ?_ ?_<;>try k_is)
    (case E89=>refine' Mi.def_mk KX G ?_ ?_ ?_ ?_<;>try k_is)
    (case E80=>refine' Mi.def_mkD KX G ?_ ?_ ?_ ?_ ?_<;>try k_is)
    (case E83=>refine' Mi.def_mkD KX G ?_ ?_ ?_ ?_ ?_<;>try k_is)
    (case E85=>refine' Mi.def_mkD KX G ?_ ?_ ?_ ?_ ?_<;>try k_is)
    (case E90=>refine' Mi.def_mk KX G ?_ ?_ ?_ ?_<;>try k_is)
    (case E84=>refine' Mi.def_mkD KX G ?_ ?_ ?_ ?_ ?_<;>try k_is)
    (case E93=>refine' Mi.def_mk KX G ?_ ?_ ?_ ?_<;>try k_is)
    (case E97=>refine' Mi.def_mk KX G ?_ ?_ ?_ ?_<;>try k_is)
    (case E99=>refine' Mi.def_mk KX G ?_ ?_ ?_ ?_<;>try k_is)
    (case E115=>refine' Mi.def_mk KX G ?_ ?_ ?_ ?_<;>try k_is)
    (case E94=>refine' Mi.def_mk KX G ?_ ?_ ?_ ?_<;>try k_is)
    (case E96=>refine' Mi.def_mk KX G ?_ ?_ ?_ ?_<;>try k_is)
    (case E98=>refine' Mi.def_mk KX G ?_ ?_ ?_ ?_<;>try k_is)
    (case E110=>refine' Mi.def_mk KX G ?_ ?_ ?_ ?_<;>try k_is)
    (case E116=>refine' Mi.def_mk KX G ?_ ?_ ?_ ?_<;>try k_is)

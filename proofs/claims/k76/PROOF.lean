import PyProof.Rows.All
import Wide.All
import OpenK.AllK
import Wide.FinOn
import Lean
import PyProof.EqAt
import PyProof.EqKinds
import PyProof.TupleCall
import PyProof.NeKinds
import KE.KTryOn
import KE.KTryMore
import OpenK.KOwn
import PyProof.NsDelKeeps
import OpenK.KMake
import PyProof.CompFree
import PyProof.CompMap
import PyProof.CompUse
import PyProof.WalkInts
import PyProof.Rows.SumAny
import PyProof.Rows.DictTally
import PyProof.IsRules
import KE.KRevIter
import PyProof.ListStr
import KE.KListMore
import PyProof.ZipIter
import PyProof.Rows.ZipGen
import PyProof.StrCalls5
import PyProof.Rows.StrNews2
import PyProof.StrOps2
import PyProof.CallStr
import KE.KIntText
import PyProof.EnumMake
import PyProof.StrWalks
import PyProof.Rows.Digits
import PyProof.StrCalls2
import PyProof.Rows.StrOr
import PyProof.Rows.StrPartPair
import PySem.Challenge.RW_floatforge_k76_whole_shortest
set_option Elab.async false
set_option linter.all false
set_option maxRecDepth 100000
namespace L2
open PySem PySem.Spec PyProof.Rows
abbrev Key:=Sum Int Str
def keyIs:Key→Value→Bool
  | .inl k,v=>Value.isInt k v
  | .inr x,v=>Value.isStrOf x v
def keyH (w:World):Key→Int
  | .inl k=>hashInt k
  | .inr x=>hashStr w x
theorem keyIs_shape:∀ {k:Key}{v:Value},keyIs k v=true→(∃ i t,k=Sum.inl i∧v=Value.int i t)∨(∃ x t,k=Sum.inr x∧v=Value.str x t)
  | .inl i,v,h=>by
    obtain ⟨t,e⟩:=Value.isInt_shape (k:=i) (v:=v) h
    exact .inl ⟨i,t,rfl,e⟩
  | .inr x,v,h=>by
    obtain ⟨t,e⟩:=Value.isStrOf_shape (x:=x) (v:=v) h
    exact .inr ⟨x,t,rfl,e⟩
theorem key_ll (a b:Int):decide ((Sum.inl a:Key)=Sum.inl b)=(a == b):=by
  by_cases e:a=b
  · subst e;simp
  · have h:¬ (Sum.inl a:Key)=Sum.inl b:=fun q=>e (Sum.inl.inj q)
    rw [decide_eq_false h]
    exact (beq_eq_false_iff_ne.mpr e).symm
theorem key_rr (a b:Str):decide ((Sum.inr a:Key)=Sum.inr b)=decide (a=b):=by
  by_cases e:a=b
  · subst e;simp
  · have h:¬ (Sum.inr a:Key)=Sum.inr b:=fun q=>e (Sum.inr.inj q)
    rw [decide_eq_false h,decide_eq_false e]
theorem key_lr (a:Int) (b:Str):decide ((Sum.inl a:Key)=Sum.inr b)=false:=decide_eq_false (fun q=>nomatch q)
theorem key_rl (a:Str) (b:Int):decide ((Sum.inr a:Key)=Sum.inl b)=false:=decide_eq_false (fun q=>nomatch q)
def mixKind (prog:Program) (w:World):PySem.KeyKind prog w Key where
  is:=keyIs
  hash:=keyH w
  inj:=fun v a b ha hb=>by
    rcases keyIs_shape ha with ⟨i,t,rfl,rfl⟩ | ⟨x,t,rfl,rfl⟩
    · rcases keyIs_shape hb with ⟨j,u,rfl,e⟩ | ⟨y,u,rfl,e⟩
      · injection e with e1 _;rw [e1]
      · exact nomatch e
    · rcases keyIs_shape hb with ⟨j,u,rfl,e⟩ | ⟨y,u,rfl,e⟩
      · exact nomatch e
      · injection e with e1 _;rw [e1]
  byValue:=fun k v h=>by
    rcases keyIs_shape h with ⟨i,t,rfl,rfl⟩ | ⟨x,t,rfl,rfl⟩<;>rfl
  pyHash:=fun hv h=>by
    rcases keyIs_shape hv with ⟨i,t,rfl,rfl⟩ | ⟨x,t,rfl,rfl⟩
    · exact wpAny_pyHash_int h
    · exact wpAny_pyHash_str h
  eqBool:=fun hu hv h=>by
    rcases keyIs_shape hu with ⟨i,t,rfl,rfl⟩ | ⟨x,t,rfl,rfl⟩
    · rcases keyIs_shape hv with ⟨j,u,rfl,rfl⟩ | ⟨y,u,rfl,rfl⟩
      · rw [key_ll] at h;exact wpAny_eqBool_int h
      · rw [key_lr] at h;exact SeqAt.EqAt.int_str i t y u _ _ _ _ h
    · rcases keyIs_shape hv with ⟨j,u,rfl,rfl⟩ | ⟨y,u,rfl,rfl⟩
      · rw [key_rl] at h;exact SeqAt.EqAt.str_int x t j u _ _ _ _ h
      · rw [key_rr] at h;exact wpAny_eqBool_str h
  «strs»:=fun k x t v h=>by
    rcases keyIs_shape h with ⟨i,u,rfl,e⟩ | ⟨y,u,rfl,e⟩
    · exact nomatch e
    · injection e with e1 _
      subst e1
      cases v<;>rfl
inductive V where
  | non | bl (b:Bool) | int (i:Int) | str (x:Str) | byt (b:Array UInt8) | flt (b:UInt64) | ref (a:Addr) | ty (n:String)
  deriving DecidableEq
def RelV:V→Value→Prop
  | .non,u=>u=Value.none
  | .bl b,u=>u=Value.bool b
  | .int i,u=>∃ t,u=Value.int i t
  | .str x,u=>∃ t,u=Value.str x t
  | .byt b,u=>∃ t,u=Value.bytes b t
  | .flt b,u=>∃ t,u=Value.float b t
  | .ref a,u=>u=Value.ref a
  | .ty n,u=>u=Value.type n
abbrev Vals:List V→List Value→Prop:=Paired RelV
theorem Vals.length {xs:List V}{us:List Value} (r:Vals xs us):xs.length=us.length:=Paired.length r
theorem Vals.get:∀ {xs:List V}{us:List Value}{i:Nat}{x:V},Vals xs us→xs[i]?=some x→∃ u,us[i]?=some u∧RelV x u
  | _,_,_,_,.nil,e=>by simp at e
  | _,_,0,_,.cons r _,e=>by simp at e;subst e;exact ⟨_,rfl,r⟩
  | _,_,i+1,x,.cons _ t,e=>by
    obtain ⟨u,h1,h2⟩:=Vals.get (i:=i) (x:=x) t (by simpa using e)
    exact ⟨u,by simpa using h1,h2⟩
theorem Vals.set {x:V}{u:Value} (r:RelV x u):∀ {xs:List V}{us:List Value} (i:Nat),Vals xs us→Vals (xs.set i x) (us.set i u)
  | _,_,_,.nil=>.nil
  | _,_,0,.cons _ t=>.cons r t
  | _,_,i+1,.cons q t=>.cons q (Vals.set r i t)
theorem Vals.append:∀ {xs ys:List V}{us ws:List Value},Vals xs us→Vals ys ws→Vals (xs ++ ys) (us ++ ws)
  | _,_,_,_,.nil,s=>s
  | _,_,_,_,.cons r t,s=>.cons r (Vals.append t s)
theorem Vals.take:∀ {xs:List V}{us:List Value} (n:Nat),Vals xs us→Vals (xs.take n) (us.take n)
  | _,_,0,_=>.nil
  | _,_,_+1,.nil=>.nil
  | _,_,n+1,.cons r t=>.cons r (Vals.take n t)
theorem Vals.drop:∀ {xs:List V}{us:List Value} (n:Nat),Vals xs us→Vals (xs.drop n) (us.drop n)
  | _,_,0,r=>r
  | _,_,_+1,.nil=>.nil
  | _,_,n+1,.cons _ t=>Vals.drop n t
theorem Vals.none_of:∀ {xs:List V}{us:List Value}{i:Nat},Vals xs us→xs[i]?=none→us[i]?=none:=fun {xs us i} r e=>by
  have h1:=r.length
  have h2:xs.length≤i:=List.getElem?_eq_none_iff.mp e
  exact List.getElem?_eq_none_iff.mpr (by omega)
def RelO:Option V→Option Value→Prop
  | some v,some u=>RelV v u
  | none,none=>True
  | _,_=>False
def KV {κ:Type}:List (κ×V)→List (κ×Value)→Prop:=Paired fun (p:κ×V) (q:κ×Value)=>p.1=q.1∧RelV p.2 q.2
def kV:Key→V
  | .inl i=>.int i
  | .inr x=>.str x
inductive HO where
  | lst (xs:List V)
  | tup (xs:List V)
  | dK (kvs:List (Key×V)) | dT (kvs:List (List Key×V))
  | set (S:Int→Bool) (n:Nat)
  | ins (C dx:Addr) (fs:List (Str×V))
  | own (x:Addr)
  | xd (fs:List (Str×V))
  | met (f x:Addr)
  | rng (lo hi:Int)
  | frz (o:Obj) (u:HO)
  | tbl (ps:Array Value)
  | ext (φ:Heap→Prop)
abbrev Hp:=Addr→Option HO
def upd (H:Hp) (a:Addr) (o:HO):Hp:=fun b=>if b=a then some o else H b
theorem upd_same {H:Hp}{a:Addr}{o:HO}:upd H a o a=some o:=by unfold upd;rw [if_pos rfl]
theorem upd_ne {H:Hp}{a b:Addr}{o:HO} (h:b≠a):upd H a o b=H b:=by unfold upd;rw [if_neg h]
theorem ne_of_none {H:Hp}{a b:Addr}{o:HO} (h:H a=some o) (h':H b=none):a≠b:=by
  intro e;subst e;rw [h] at h';cases h'
section
variable (P:Program) (w:World)
def ObjOk (H:Hp) (h:Heap) (a:Addr):HO→Prop
  | .lst xs=>xs.length≤sizeLine∧∃ (its:List Value) (n:Nat),Vals xs its∧h.get? a=some { cls:=.type "list",data:=.seq its.toArray n }
  | .tup xs=>xs.length≤sizeLine∧∃ its:List Value,Vals xs its∧IsTup h a its.toArray
  | .dK kvs=>kvs.length≤sizeLine∧(a == sysModules)=false∧∃ vs,KV kvs vs∧h.DictOf (mixKind P w) a vs
  | .dT kvs=>kvs.length≤sizeLine∧(a == sysModules)=false∧∃ xs:List (List Key×Addr×Value),
      Paired (fun (p:List Key×V) (q:List Key×Addr×Value)=>p.1=q.1∧H q.2.1=some (.tup (p.1.map kV))∧RelV p.2 q.2.2) kvs xs ∧
      ∃ o es ep,h.get? a=some o∧o.ExactDict∧o.data = .dict es ep∧es.toList=xs.map (entryOfKey (tupleKind (mixKind P w)))∧(xs.map (·.1)).Nodup
  | .set S n=>h.SetOf (intKind P w) a S n
  | .ins C dx fs=>H dx=some (.own a)∧fs.length≤1000∧dx≠a∧h.get? a=some (PySem.W.instObj C dx) ∧
      ∃ mA,h.Ns1 dx mA∧(∀ f,RelO (fs.lookup f) (mA f))∧PySem.Within mA (fs.map (·.1))
  | .own _=>∃ o,h.get? a=some o
  | .xd fs=>∃ mA,h.Ns1 a mA∧∀ f,RelO (fs.lookup f) (mA f)
  | .rng lo hi=>∃ t u v,h.get? a=some { cls:=.type "range",data:=.fields #[.int lo t,.int hi u,.int 1 v] }
  | .frz o u=>h.get? a=some o∧ObjOk H h a u
  | .tbl ps=>h.get? a=some { cls:=.none,data:=.fields ps }
  | .met f x=>h.get? a=some (PySem.W.methodObj (.ref f) (.ref x))
  | .ext φ=>φ h∧(∃ o,h.get? a=some o)∧∀ h1 h2:Heap,φ h1→(∀ o,h1.get? a=some o→h2.get? a=some o)→φ h2
def HOk (H:Hp) (h:Heap):Prop:=∀ a o,H a=some o→ObjOk P w H h a o
end
section
variable {P:Program}{w:World}{H H':Hp}{h h':Heap}{a:Addr}{o:HO}
theorem ObjOk.lt (x:ObjOk P w H h a o):a<h.objs.size:=by
  cases o with
  | lst xs=>obtain ⟨_,_,_,_,e⟩:=x;exact Heap.lt_size e
  | tup xs=>obtain ⟨_,_,_,p⟩:=x;exact p.lt
  | dK kvs=>obtain ⟨_,_,_,_,o,_,_,e,_⟩:=x;exact Heap.lt_size e
  | dT kvs=>obtain ⟨_,_,_,_,o,_,_,e,_⟩:=x;exact Heap.lt_size e
  | set S n=>obtain ⟨o,_,_,_,e,_⟩:=x;exact Heap.lt_size e
  | ins C dx fs=>obtain ⟨_,_,_,e,_⟩:=x;exact Heap.lt_size e
  | own y=>obtain ⟨_,e⟩:=x;exact Heap.lt_size e
  | xd fs=>obtain ⟨_,⟨_,_,_,e,_⟩,_⟩:=x;exact Heap.lt_size e
  | rng lo hi=>obtain ⟨_,_,_,e⟩:=x;exact Heap.lt_size e
  | frz ob u=>obtain ⟨e,_⟩:=x;exact Heap.lt_size e
  | tbl ps=>exact Heap.lt_size (show h.get? a=some _ from x)
  | met f y=>exact Heap.lt_size (show h.get? a=some _ from x)
  | ext φ=>obtain ⟨_,⟨_,e⟩,_⟩:=x;exact Heap.lt_size e
theorem Paired.mapP {α β:Type}{F G:α→β→Prop}:∀ {l₁:List α}{l₂:List β},Paired F l₁ l₂→(∀ a b,F a b→G a b)→Paired G l₁ l₂
  | _,_,.nil,_=>.nil
  | _,_,.cons r t,f=>.cons (f _ _ r) (Paired.mapP t f)
theorem ObjOk.stay (x:ObjOk P w H h a o) (k:∀ b u,(b=a∨H b=some (.own a))→h.get? b=some u→h'.get? b=some u)
    (ho:∀ b,H b=some (.own a)→H' b=some (.own a)) (ht:∀ b xs,H b=some (.tup xs)→H' b=some (.tup xs)):ObjOk P w H' h' a o:=by
  induction o with
  | lst xs=>obtain ⟨z,its,n,r,e⟩:=x;exact ⟨z,its,n,r,k _ _ (.inl rfl) e⟩
  | tup xs=>obtain ⟨z,its,r,ob,e,c⟩:=x;exact ⟨z,its,r,ob,k _ _ (.inl rfl) e,c⟩
  | dK kvs=>obtain ⟨z,y,vs,r,ob,es,ep,e,c⟩:=x;exact ⟨z,y,vs,r,ob,es,ep,k _ _ (.inl rfl) e,c⟩
  | dT kvs =>
    obtain ⟨z,y,xs,r,ob,es,ep,e,c⟩:=x
    exact ⟨z,y,xs,Paired.mapP r fun p q z=>⟨z.1,ht _ _ z.2.1,z.2.2⟩,ob,es,ep,k _ _ (.inl rfl) e,c⟩
  | set S n=>obtain ⟨ob,es,ep,t,e,c⟩:=x;exact ⟨ob,es,ep,t,k _ _ (.inl rfl) e,c⟩
  | ins C dx fs =>
    obtain ⟨d,z,ne,e,mA,⟨od,es,ep,e2,c⟩,r⟩:=x
    exact ⟨ho _ d,z,ne,k _ _ (.inl rfl) e,mA,⟨od,es,ep,k _ _ (.inr d) e2,c⟩,r⟩
  | own y=>obtain ⟨ob,e⟩:=x;exact ⟨ob,k _ _ (.inl rfl) e⟩
  | xd fs=>obtain ⟨mA,⟨od,es,ep,e,c⟩,r⟩:=x;exact ⟨mA,⟨od,es,ep,k _ _ (.inl rfl) e,c⟩,r⟩
  | rng lo hi=>obtain ⟨t,u,v,e⟩:=x;exact ⟨t,u,v,k _ _ (.inl rfl) e⟩
  | frz ob u ih=>obtain ⟨e,q⟩:=x;exact ⟨k _ _ (.inl rfl) e,ih q⟩
  | tbl ps =>
    have e:h.get? a=some { cls:=.none,data:=.fields ps }:=x
    show h'.get? a=some { cls:=.none,data:=.fields ps }
    exact k a _ (.inl rfl) e
  | met f y =>
    have e:h.get? a=some (PySem.W.methodObj (.ref f) (.ref y)):=x
    show h'.get? a=some (PySem.W.methodObj (.ref f) (.ref y))
    exact k a _ (.inl rfl) e
  | ext φ=>obtain ⟨p,⟨o,e⟩,st⟩:=x;exact ⟨st _ _ p fun o q=>k _ _ (.inl rfl) q,⟨o,k _ _ (.inl rfl) e⟩,st⟩
theorem HOk.lt (x:HOk P w H h) (e:H a=some o):a<h.objs.size:=(x a o e).lt
theorem HOk.fresh (x:HOk P w H h) (e:h.objs.size≤a):H a=none:=by
  cases q:H a with
  | none=>rfl
  | some u=>exact absurd (Nat.lt_of_lt_of_le (x.lt q) e) (Nat.lt_irrefl _)
theorem HOk.kept (x:HOk P w H h) (k:∀ b u,h.get? b=some u→h'.get? b=some u):HOk P w H h':=fun a o e =>
  (x a o e).stay (fun b u _ q=>k b u q) (fun _ q=>q) fun _ _ q=>q
theorem HOk.laid (x:HOk P w H h) (k:∀ b u,h.get? b=some u→h'.get? b=some u) (hp:h.objs.size≤a) (new:ObjOk P w (upd H a o) h' a o):HOk P w (upd H a o) h':=fun b u e=>by
  have hn:=x.fresh hp
  by_cases hb:b=a
  · subst hb;rw [upd_same] at e;cases e;exact new
  · rw [upd_ne hb] at e
    exact (x b u e).stay (fun c v _ q=>k c v q) (fun c q=>by rw [upd_ne (ne_of_none q hn)];exact q) fun c xs q=>by rw [upd_ne (ne_of_none q hn)];exact q
end
def Rd (H:Hp) (a:Addr) (u:HO):Prop:=H a=some u∨∃ o,H a=some (.frz o u)
theorem Rd.of {H:Hp}{a:Addr}{u:HO} (h:H a=some u):Rd H a u:=.inl h
theorem Rd.ok {P:Program}{w:World}{H:Hp}{h:Heap}{a:Addr}{u:HO} (r:Rd H a u) (x:HOk P w H h):ObjOk P w H h a u:=by
  rcases r with r | ⟨o,r⟩
  · exact x a u r
  · obtain ⟨_,q⟩:=x a _ r
    exact q
def Mut:Option HO→Prop
  | some (.lst _)=>True
  | some (.dK _)=>True
  | some (.dT _)=>True
  | some (.set _ _)=>True
  | some (.ins _ _ _)=>True
  | some (.ext _)=>True
  | _=>False
section
variable {P:Program}{w:World}{H:Hp}{h h':Heap}{x e:Addr}{o':HO}
theorem HOk.write (ok:HOk P w H h) (mu:Mut (H x)) (he:e=x∨H e=some (.own x)) (k:∀ b u,b≠e→h.get? b=some u→h'.get? b=some u) (heo:∃ u,h'.get? e=some u)
    (new:ObjOk P w (upd H x o') h' x o'):HOk P w (upd H x o') h':=fun b u q=>by
  have nown:∀ c y,H c=some (.own y)→c≠x:=fun c y r z=>by subst z;rw [r] at mu;exact mu
  have ntup:∀ c xs,H c=some (.tup xs)→c≠x:=fun c xs r z=>by subst z;rw [r] at mu;exact mu
  by_cases hb:b=x
  · subst hb;rw [upd_same] at q;cases q;exact new
  · rw [upd_ne hb] at q
    by_cases hbe:b=e
    · have q':H b=some (.own x):=by
        rcases he with z | z
        · exact absurd (hbe.trans z) hb
        · rw [hbe];exact z
      rw [q] at q';cases q'
      obtain ⟨v,hv⟩:=heo
      exact ⟨v,by rw [hbe];exact hv⟩
    · refine (ok b u q).stay (fun c v hc r=>k c v ?_ r) (fun c r=>by rw [upd_ne (nown c b r)];exact r) fun c xs r=>by rw [upd_ne (ntup c xs r)];exact r
      rcases hc with rfl | hc
      · exact hbe
      · rintro rfl
        rcases he with z | z
        · exact nown c b hc z
        · rw [hc] at z;cases z;exact hb rfl
end
structure Un (fs ex:List Addr) (H H':Hp) (h h':Heap):Prop where
  keep:∀ b o,h.get? b=some o→H b=none→b ∉ fs→b ∉ ex→h'.get? b=some o
  slot:∀ b o,h.get? b=some o→H b=none→b∈fs→b ∉ ex→∃ sl,h'.get? b=some { o with slots:=sl }
  free:∀ b o,h.get? b=some o→H b=none→b ∉ ex→H' b=none
  there:∀ b o,h.get? b=some o→b ∉ ex→∃ o',h'.get? b=some o'
  tups:∀ b xs,H b=some (.tup xs)→H' b=some (.tup xs)
  frzs:∀ b o u,H b=some (.frz o u)→H' b=some (.frz o u)
  tbls:∀ b ps,H b=some (.tbl ps)→∃ more,H' b=some (.tbl (ps ++ more))
section
variable {fs fs' ex ex':List Addr}{H H1 H2:Hp}{h h1 h2 h':Heap}{a x e:Addr}{o:HO}
theorem Un.any (u:Un fs ex H H1 h h1) {b:Addr}{ob:Obj} (q:h.get? b=some ob) (n:H b=none) (hx:b ∉ ex):∃ sl,h1.get? b=some { ob with slots:=sl }:=by
  by_cases hb:b∈fs
  · exact u.slot b ob q n hb hx
  · exact ⟨ob.slots,u.keep b ob q n hb hx⟩
theorem Un.trans (a:Un fs ex H H1 h h1) (b:Un fs ex H1 H2 h1 h2):Un fs ex H H2 h h2 where
  keep:=fun c ob q n hc hx=>b.keep c ob (a.keep c ob q n hc hx) (a.free c ob q n hx) hc hx
  slot:=fun c ob q n hc hx=>by
    obtain ⟨sl,e1⟩:=a.slot c ob q n hc hx
    obtain ⟨sl',e2⟩:=b.slot c _ e1 (a.free c ob q n hx) hc hx
    exact ⟨sl',e2⟩
  free:=fun c ob q n hx=>by
    obtain ⟨o',e1⟩:=a.there c ob q hx
    exact b.free c o' e1 (a.free c ob q n hx) hx
  there:=fun c ob q hx=>by
    obtain ⟨o',e1⟩:=a.there c ob q hx
    exact b.there c o' e1 hx
  tups:=fun c xs q=>b.tups c xs (a.tups c xs q)
  frzs:=fun c ob xs q=>b.frzs c ob xs (a.frzs c ob xs q)
  tbls:=fun c ps q=>by
    obtain ⟨m1,e1⟩:=a.tbls c ps q
    obtain ⟨m2,e2⟩:=b.tbls c _ e1
    exact ⟨m1 ++ m2,by rw [e2,Array.append_assoc]⟩
theorem Un.kept (k:∀ b u,h.get? b=some u→h'.get? b=some u):Un fs ex H H h h' :=
  ⟨fun b ob q _ _ _=>k b ob q,fun b ob q _ _ _=>⟨ob.slots,k b ob q⟩,fun _ _ _ n _=>n,fun b ob q _=>⟨ob,k b ob q⟩,fun _ _ q=>q,fun _ _ _ q=>q,fun _ ps q=>⟨#[],by rw [q];simp⟩⟩
theorem Un.refl:Un fs ex H H h h:=Un.kept fun _ _ q=>q
theorem Un.laid (k:∀ b u,h.get? b=some u→h'.get? b=some u) (hp:h.objs.size≤a) (hn:H a=none):Un fs ex H (upd H a o) h h' where
  keep:=fun b u q _ _ _=>k b u q
  slot:=fun b u q _ _ _=>⟨u.slots,k b u q⟩
  free:=fun b u q n _=>by rw [upd_ne (Nat.ne_of_lt (Nat.lt_of_lt_of_le (Heap.lt_size q) hp))];exact n
  there:=fun b u q _=>⟨u,k b u q⟩
  tups:=fun b xs q=>by rw [upd_ne (ne_of_none q hn)];exact q
  frzs:=fun b u xs q=>by rw [upd_ne (ne_of_none q hn)];exact q
  tbls:=fun b ps q=>⟨#[],by rw [upd_ne (ne_of_none q hn),q];simp⟩
theorem Un.write (mu:Mut (H x)) (he:e=x∨H e=some (.own x)) (k:∀ b u,b≠e→h.get? b=some u→h'.get? b=some u) (heo:∃ u,h'.get? e=some u):Un fs ex H (upd H x o) h h':=by
  have hx:∀ b,H b=none→b≠x:=fun b n z=>by subst z;rw [n] at mu;exact mu
  have hb:∀ b,H b=none→b≠e:=fun b n z=>by
    subst z
    rcases he with r | r
    · exact hx b n r
    · rw [n] at r;cases r
  have hm:∀ b u,H b=some u→¬ Mut (some u)→b≠x:=fun b u q nm z=>by subst z;rw [q] at mu;exact nm mu
  refine ⟨fun b u q n _ _=>k b u (hb b n) q,fun b u q n _ _=>⟨u.slots,k b u (hb b n) q⟩,fun b u q n _=>by rw [upd_ne (hx b n)];exact n,fun b u q _=>?_,
    fun b xs q=>by rw [upd_ne (hm b _ q fun z=>z)];exact q,fun b u xs q=>by rw [upd_ne (hm b _ q fun z=>z)];exact q,fun b ps q=>⟨#[],by rw [upd_ne (hm b _ q fun z=>z),q];simp⟩⟩
  by_cases hbe:b=e
  · subst hbe;exact heo
  · exact ⟨u,k b u hbe q⟩
theorem Un.mono (u:Un fs ex H H1 h h1) (hs:∀ b∈fs,b∈fs') (hx:∀ b∈ex,b∈ex'):Un fs' ex' H H1 h h1 :=
  ⟨fun b ob q n hb he=>u.keep b ob q n (fun z=>hb (hs b z)) fun z=>he (hx b z),fun _ _ q n _ he=>u.any q n fun z=>he (hx _ z),fun b ob q n he=>u.free b ob q n fun z=>he (hx b z),fun b ob q he=>u.there b ob q fun z=>he (hx b z),u.tups,u.frzs,u.tbls⟩
end
def trk (h:Heap) (H:Hp):List Addr:=(List.range h.objs.size).filter fun a=>(H a).isSome
def hidT (h:Heap) (H:Hp):Heap:=PySem.W.hideAll h (trk h H)
theorem hidT_size (h:Heap) (H:Hp):(hidT h H).objs.size=h.objs.size:=PySem.W.hideAll_size _ _
theorem hidT_get {h:Heap}{H:Hp}{b:Addr}{o:Obj} (e:h.get? b=some o) (n:H b=none):(hidT h H).get? b=some o :=
  PySem.W.hideAll_get _ e fun hm=>by
    have q:(H b).isSome=true:=(List.mem_filter.mp hm).2
    rw [n] at q;simp at q
theorem of_hidT {h:Heap}{H:Hp}{b:Addr}{o:Obj} (e:(hidT h H).get? b=some o):h.get? b=some o∧H b=none:=by
  have e':h.get? b=some o:=PySem.W.of_hideAll (trk h H) e
  refine ⟨e',?_⟩
  cases q:H b with
  | none=>rfl
  | some x =>
    have hm:b∈trk h H:=List.mem_filter.mpr ⟨List.mem_range.mpr (Heap.lt_size e'),by simp [q]⟩
    have z:(hidT h H).get? b=none:=PySem.W.hideAll_none (trk h H) hm
    rw [z] at e;cases e
def allNews (g h:Heap) (L:Addr):List (Addr×Obj):=(List.range h.objs.size).filterMap fun a=>if a=L∨(g.get? a).isSome=true then none else (h.get? a).map fun o=>(a,o)
def rest (g h:Heap) (L d:Addr):List (Addr×Obj):=(allNews g h L).filter fun p=>decide (p.1≠d)
structure Mod (K:PySem.W.Frag) (mg:Str→Option Value) (base:Heap):Prop where
  kin:K.In base
  glob:base.Ns mainGlobals mg
  blt:∃ mb,base.Ns builtinsNs mb∧∀ x:Str,x≠"__name__"→mb x=bootBuiltins x
  nolimit:base.NoLimit
structure Cx where
  prog:Program
  w:World
  K:PySem.W.Frag
  mg:Str→Option Value
  base:Heap
  A:Around
  N:List Str
  s₀:Shared
  H₀:Hp
  env:Env
  outer:List Env
  stack:List Env
  ex:List Addr
  fn:Str→Bool
  calm:Bool
  pn:List (Addr×Obj)
  xe:Value→Shared→Prop
def frs (l:List Env):List Addr:=l.filterMap (·.frame)
abbrev Cx.fs (X:Cx):List Addr:=frs X.outer
def Vis (sc:Scope) (x:Str):Prop:=sc.names.lookup x=some .local∨sc.names.lookup x=some .cell∨sc.names.lookup x=some .free
def Loc (sc:Scope) (x:Str):Prop:=sc.names.lookup x=some .local∨sc.names.lookup x=some .cell
def Look (env:Env) (h:Heap) (m:Str→Option Value) (x:Str) (u:Value):Prop :=
  (env.kindOf x=some .local∧m x=some u)∨((env.kindOf x=some .cell∨env.kindOf x=some .free)∧∃ c,env.cells.lookup x=some c∧h.IsCell c (some u))
structure Cx.Ok (X:Cx):Prop where
  mod:Mod X.K X.mg X.base
  kind:X.env.scope.kind = .function
  glob:X.env.globals=mainGlobals
  blt:X.env.builtins=builtinsNs
  above:X.s₀.heap.objs.size≤X.env.locals
  inj:∀ x y c,X.env.cells.lookup x=some c→X.env.cells.lookup y=some c→x=y
  has:∀ x,(X.env.kindOf x=some .cell∨X.env.kindOf x=some .free)→∃ c,X.env.cells.lookup x=some c
  cab:∀ x c,X.fn x=true→X.env.cells.lookup x=some c→X.s₀.heap.objs.size≤c
  hd:X.calm=true→X.A.handled=none
  frames:X.A.frames=some X.stack
  stk:X.stack=X.outer∨(X.stack=X.env::X.outer∧X.env.frame=some X.env.locals)
  exf:∀ b∈X.ex,b≠X.env.locals∧∀ x c,X.env.cells.lookup x=some c→c≠b
  bs:∀ b o,X.base.get? b=some o→X.s₀.heap.get? b=some o∧X.H₀ b=none
  bsz:X.base.objs.size≤X.s₀.heap.objs.size
  noex:∀ b o,X.base.get? b=some o→b ∉ X.ex
  exfs:∀ b∈X.ex,b ∉ X.fs
  funs:X.s₀.heap.FunFrames X.base X.outer
  frf:∀ b∈X.fs,X.H₀ b=none
structure Inv (X:Cx) (pins:List (Addr×Obj)) (σ:List (Option V)) (H:Hp) (s:Shared):Prop where
  ok:X.Ok
  os:s.os=X.s₀.os
  bare:AllBare s.gens
  base:Un X.fs X.ex X.H₀ H X.s₀.heap s.heap
  loc:∃ m,s.heap.Ns X.env.locals m∧∀ (i:Nat) (x:Str) (v:V),X.N[i]?=some x→σ[i]?=some (some v)→Vis X.env.scope x→∃ u,RelV v u∧Look X.env s.heap m x u
  cell:∀ x c,X.env.cells.lookup x=some c→∃ v,s.heap.IsCell c v
  free:H X.env.locals=none
  freeC:∀ x c,X.env.cells.lookup x=some c→H c=none
  pin:∀ p∈X.pn ++ pins,s.heap.get? p.1=some p.2∧H p.1=none∧p.1≠X.env.locals∧p.1 ∉ X.fs∧∀ v,p.2.data≠.cell v
  hok:HOk X.prog X.w H s.heap
  len:σ.length=X.N.length
section
variable {X:Cx}{pins:List (Addr×Obj)}{σ:List (Option V)}{H H':Hp}{s:Shared}{h':Heap}
theorem Cx.Ok.nofr (ok:X.Ok) {b:Addr}{o:Obj} (e:X.base.get? b=some o):b ∉ X.fs:=fun hb=>by
  have:=(ok.funs.mem hb).1
  rw [e] at this;cases this
theorem Inv.bs (I:Inv X pins σ H s):∀ b o,X.base.get? b=some o→s.heap.get? b=some o∧H b=none:=fun b o e =>
  ⟨I.base.keep b o (I.ok.bs b o e).1 (I.ok.bs b o e).2 (I.ok.nofr e) (I.ok.noex b o e),I.base.free b o (I.ok.bs b o e).1 (I.ok.bs b o e).2 (I.ok.noex b o e)⟩
theorem Inv.bk (I:Inv X pins σ H s):∀ b o,X.base.get? b=some o→s.heap.get? b=some o:=fun b o e=>(I.bs b o e).1
theorem Inv.mod (I:Inv X pins σ H s):Mod X.K X.mg X.base:=I.ok.mod
theorem Inv.kIn (I:Inv X pins σ H s):X.K.In s.heap:=I.ok.mod.kin.keeps I.bk
theorem Inv.nolimit (I:Inv X pins σ H s):s.heap.NoLimit:=I.ok.mod.nolimit.keeps I.bk
theorem Inv.fr (I:Inv X pins σ H s):∃ m,Fr X.base X.env.locals s.heap m :=
  let ⟨m,hn,_⟩:=I.loc
  ⟨m,hn,I.bk,Nat.le_trans I.ok.bsz I.ok.above⟩
theorem Inv.lt (I:Inv X pins σ H s):X.env.locals<s.heap.objs.size:=let ⟨_,hn,_⟩:=I.loc;hn.lt
theorem Inv.sz (I:Inv X pins σ H s):X.s₀.heap.objs.size≤s.heap.objs.size:=Nat.le_trans I.ok.above (Nat.le_of_lt I.lt)
theorem Inv.nofs (I:Inv X pins σ H s) {a:Addr} (h:s.heap.objs.size≤a):a ∉ X.fs:=fun hb=>by
  obtain ⟨_,o,ho,_⟩:=I.ok.funs.mem hb
  exact absurd (Nat.lt_of_lt_of_le (Heap.lt_size ho) (Nat.le_trans I.sz h)) (Nat.lt_irrefl _)
theorem Inv.cne (I:Inv X pins σ H s):∀ x c,X.env.cells.lookup x=some c→c≠X.env.locals:=fun x c e z=>by
  obtain ⟨v,o,ho,hd⟩:=I.cell x c e
  obtain ⟨m,⟨o',es,ep,ho',hd',_⟩,_⟩:=I.loc
  rw [z,ho'] at ho;cases ho;rw [hd'] at hd;cases hd
theorem Inv.funs (I:Inv X pins σ H s):s.heap.FunFrames X.base X.outer:=by
  have all:∀ (l:List Env),(∀ b∈frs l,b∈X.fs)→X.s₀.heap.FunFrames X.base l→s.heap.FunFrames X.base l:=by
    intro l
    induction l with
    | nil=>intro _ _;trivial
    | cons env r ih =>
      intro hs hl
      obtain ⟨hk,⟨L,o,hf,hn,ho,hd⟩,hr⟩:=hl
      have hL:L∈X.fs:=hs L (by unfold frs;rw [List.filterMap_cons,hf];exact List.mem_cons_self)
      obtain ⟨sl,e⟩:=I.base.slot L o ho (I.ok.frf L hL) hL fun z=>I.ok.exfs L z hL
      exact ⟨hk,⟨L,_,hf,hn,e,hd⟩,ih (fun b hb=>hs b (by unfold frs;rw [List.filterMap_cons,hf];exact List.mem_cons_of_mem _ hb)) hr⟩
  exact all X.outer (fun _ hb=>hb) I.ok.funs
theorem Inv.stack (I:Inv X pins σ H s):s.heap.FunFrames X.base X.stack:=by
  rcases I.ok.stk with e | ⟨e,hf⟩
  · rw [e];exact I.funs
  · rw [e]
    obtain ⟨m,hn,_⟩:=I.loc
    refine .cons (by rw [I.ok.kind];decide) hf hn ?_ I.funs
    exact Heap.get?_none_of_le (Nat.le_trans I.ok.bsz I.ok.above)
theorem Inv.stkSub (I:Inv X pins σ H s):∀ b∈frs X.stack,b∈X.env.locals::X.fs:=fun b hb=>by
  rcases I.ok.stk with e | ⟨e,hf⟩
  · rw [e] at hb;exact List.mem_cons_of_mem _ hb
  · rw [e] at hb
    unfold frs at hb
    rw [List.filterMap_cons,hf] at hb
    exact hb
theorem Inv.stkFree (I:Inv X pins σ H s):∀ b∈frs X.stack,H b=none:=fun b hb=>by
  rcases List.mem_cons.mp (I.stkSub b hb) with e | hb
  · rw [e];exact I.free
  · obtain ⟨_,o,ho,_⟩:=I.ok.funs.mem hb
    exact I.base.free b o ho (I.ok.frf b hb) fun z=>I.ok.exfs b z hb
theorem Inv.step {g':Array GenState}{t':Nat}{d':Drawn}{ch:List Addr} (I:Inv X pins σ H s)
    (hch:∀ b∈ch,(b∈X.ex∨X.s₀.heap.objs.size≤b)∧b≠X.env.locals∧(∀ x c,X.env.cells.lookup x=some c→c≠b)∧∀ p∈X.pn ++ pins,p.1≠b)
    (keep:∀ b o,b≠X.env.locals→b ∉ X.fs→b ∉ ch→s.heap.get? b=some o→H b=none→h'.get? b=some o)
    (slot:∀ b o,b≠X.env.locals→b∈X.fs→b ∉ ch→s.heap.get? b=some o→H b=none→∃ sl,h'.get? b=some { o with slots:=sl }) (free:∀ b o,b ∉ ch→s.heap.get? b=some o→H b=none→H' b=none)
    (there:∀ b o,b ∉ ch→s.heap.get? b=some o→∃ o',h'.get? b=some o')
    (tups:∀ b xs,H b=some (.tup xs)→H' b=some (.tup xs)) (frzs:∀ b o u,H b=some (.frz o u)→H' b=some (.frz o u)) (tbls:∀ b ps,H b=some (.tbl ps)→∃ more,H' b=some (.tbl (ps ++ more)))
    (ns:∀ m,s.heap.Ns X.env.locals m→h'.Ns X.env.locals m) (hok:HOk X.prog X.w H' h') (hg:AllBare g') :
    Inv X pins σ H' { s with heap:=h',gens:=g',drawn:=d',toks:=t' }:=by
  have neL:∀ b o,X.s₀.heap.get? b=some o→b≠X.env.locals:=fun b o e=>Nat.ne_of_lt (Nat.lt_of_lt_of_le (Heap.lt_size e) I.ok.above)
  have neC:∀ b o,X.s₀.heap.get? b=some o→b ∉ X.ex→b ∉ ch:=fun b o e hx hb=>by
    rcases (hch b hb).1 with z | z
    · exact hx z
    · exact absurd (Nat.lt_of_lt_of_le (Heap.lt_size e) z) (Nat.lt_irrefl _)
  have cellK:∀ x c,X.env.cells.lookup x=some c→∀ v,s.heap.IsCell c v→h'.IsCell c v:=fun x c e v ⟨o,ho,hd⟩=>by
    have nch:c ∉ ch:=fun z=>(hch c z).2.2.1 x c e rfl
    by_cases hc:c∈X.fs
    · obtain ⟨sl,q⟩:=slot c o (I.cne x c e) hc nch ho (I.freeC x c e)
      exact ⟨_,q,hd⟩
    · exact ⟨o,keep c o (I.cne x c e) hc nch ho (I.freeC x c e),hd⟩
  refine ⟨I.ok,I.os,hg,⟨fun b o e n hb hx=>?_,fun b o e n hb hx=>?_,fun b o e n hx=>?_,fun b o e hx=>?_,fun b xs e=>tups b xs (I.base.tups b xs e),fun b o xs e=>frzs b o xs (I.base.frzs b o xs e),fun b ps e=>?_⟩,?_,fun x c e=>?_,?_,fun x c e=>?_,fun p hp=>?_,hok,I.len⟩
  · exact keep b o (neL b o e) hb (neC b o e hx) (I.base.keep b o e n hb hx) (I.base.free b o e n hx)
  · obtain ⟨sl,e1⟩:=I.base.slot b o e n hb hx
    obtain ⟨sl',e2⟩:=slot b _ (neL b o e) hb (neC b o e hx) e1 (I.base.free b o e n hx)
    exact ⟨sl',e2⟩
  · obtain ⟨o',e1⟩:=I.base.there b o e hx
    exact free b o' (neC b o e hx) e1 (I.base.free b o e n hx)
  · obtain ⟨o',e1⟩:=I.base.there b o e hx
    exact there b o' (neC b o e hx) e1
  · obtain ⟨m1,e1⟩:=I.base.tbls b ps e
    obtain ⟨m2,e2⟩:=tbls b _ e1
    exact ⟨m1 ++ m2,by rw [e2,Array.append_assoc]⟩
  · obtain ⟨m,hn,hl⟩:=I.loc
    refine ⟨m,ns m hn,fun i x v e1 e2 e3=>?_⟩
    obtain ⟨u,r,l⟩:=hl i x v e1 e2 e3
    refine ⟨u,r,?_⟩
    rcases l with l | ⟨k,c,e,z⟩
    · exact .inl l
    · exact .inr ⟨k,c,e,cellK x c e _ z⟩
  · obtain ⟨v,z⟩:=I.cell x c e
    exact ⟨v,cellK x c e v z⟩
  · obtain ⟨m,⟨o,_,_,ho,_⟩,_⟩:=I.loc
    exact free _ o (fun z=>(hch _ z).2.1 rfl) ho I.free
  · obtain ⟨v,o,ho,hd⟩:=I.cell x c e
    exact free c o (fun z=>(hch c z).2.2.1 x c e rfl) ho (I.freeC x c e)
  · obtain ⟨e,n,ne,nf,d⟩:=I.pin p hp
    have nch:p.1 ∉ ch:=fun z=>(hch p.1 z).2.2.2 p hp rfl
    exact ⟨keep p.1 p.2 ne nf nch e n,free p.1 p.2 nch e n,ne,nf,d⟩
theorem Inv.un {t':Nat} (I:Inv X pins σ H s) (u:Un X.fs [] H H' s.heap h') (hok:HOk X.prog X.w H' h'):Inv X pins σ H' { s with heap:=h',toks:=t' }:=by
  obtain ⟨m,⟨o,es,ep,ho,r⟩,_⟩:=id I.loc
  obtain ⟨sl,hL⟩:=u.any ho I.free (by simp)
  exact I.step (g':=s.gens) (d':=s.drawn) (ch:=[]) (fun _ z=>nomatch z) (fun b o _ hb _ e n=>u.keep b o e n hb (by simp)) (fun b o _ hb _ e n=>u.slot b o e n hb (by simp)) (fun b o _ e n=>u.free b o e n (by simp)) (fun b o _ e=>u.there b o e (by simp)) u.tups u.frzs u.tbls (fun m' hm=>by
    obtain ⟨o',es',ep',ho',r'⟩:=hm
    rw [ho] at ho';cases ho'
    exact ⟨_,es',ep',hL,r'⟩) hok I.bare
theorem Inv.call {g':Array GenState}{t':Nat}{d':Drawn}{ch:List Addr} (I:Inv X pins σ H s) (u:Un (frs X.stack) ch H H' s.heap h') (hok:HOk X.prog X.w H' h') (hg:AllBare g')
    (hch:∀ b∈ch,(b∈X.ex∨X.s₀.heap.objs.size≤b)∧b≠X.env.locals∧(∀ x c,X.env.cells.lookup x=some c→c≠b)∧∀ p∈X.pn ++ pins,p.1≠b) :
    Inv X pins σ H' { s with heap:=h',gens:=g',drawn:=d',toks:=t' }:=by
  obtain ⟨m,⟨o,es,ep,ho,r⟩,_⟩:=id I.loc
  obtain ⟨sl,hL⟩:=u.any ho I.free fun z=>(hch _ z).2.1 rfl
  exact I.step (ch:=ch) hch (fun b o hL hb hc e n=>u.keep b o e n (fun z=>(List.mem_cons.mp (I.stkSub b z)).elim hL hb) hc) (fun b o _ _ hc e n=>u.any e n hc) (fun b o hc e n=>u.free b o e n hc) (fun b o hc e=>u.there b o e hc) u.tups u.frzs u.tbls (fun m' hm=>by
    obtain ⟨o',es',ep',ho',r'⟩:=hm
    rw [ho] at ho';cases ho'
    exact ⟨_,es',ep',hL,r'⟩) hok hg
theorem Inv.turned {t':Nat}{it:Addr} (I:Inv X pins σ H s) (k:∀ b o,b≠it→s.heap.get? b=some o→h'.get? b=some o) (hn:H it=none) (hL:it≠X.env.locals)
    (h1:it∈X.ex∨X.s₀.heap.objs.size≤it) (h2:∀ x c,X.env.cells.lookup x=some c→c≠it) (h3:∀ p∈X.pn ++ pins,p.1≠it):Inv X pins σ H { s with heap:=h',toks:=t' }:=by
  have nit:∀ b u,H b=some u→b≠it:=fun b u e z=>by rw [z,hn] at e;cases e
  refine I.step (g':=s.gens) (d':=s.drawn) (ch:=[it]) (fun b hb=>?_) (fun b o _ _ hc e _=>k b o (fun z=>hc (by simp [z])) e) (fun b o _ _ hc e _=>⟨o.slots,k b o (fun z=>hc (by simp [z])) e⟩) (fun _ _ _ _ n=>n)
    (fun b o hc e=>⟨o,k b o (fun z=>hc (by simp [z])) e⟩) (fun _ _ e=>e) (fun _ _ _ e=>e) (fun b ps e=>⟨#[],by rw [e];simp⟩) (fun m hm=>?_) (fun b u e=>?_) I.bare
  · have e:b=it:=by simpa using hb
    subst e
    exact ⟨h1,hL,h2,h3⟩
  · obtain ⟨o,es,ep,ho,r⟩:=hm
    exact ⟨o,es,ep,k _ o (Ne.symm hL) ho,r⟩
  · refine (I.hok b u e).stay (fun c v hc q=>k c v ?_ q) (fun _ q=>q) fun _ _ q=>q
    rcases hc with z | z
    · rw [z];exact nit b u e
    · exact nit c _ z
theorem Inv.tok (I:Inv X pins σ H s) (t:Nat):Inv X pins σ H { s with toks:=t }:=I.un (h':=s.heap) (t':=t) Un.refl I.hok
theorem Inv.kept {t':Nat} (I:Inv X pins σ H s) (k:∀ b u,s.heap.get? b=some u→h'.get? b=some u):Inv X pins σ H { s with heap:=h',toks:=t' }:=I.un (Un.kept k) (I.hok.kept k)
theorem Inv.laid {a:Addr}{o:HO}{t':Nat} (I:Inv X pins σ H s) (k:∀ b u,s.heap.get? b=some u→h'.get? b=some u) (hp:s.heap.objs.size≤a) (new:ObjOk X.prog X.w (upd H a o) h' a o) :
    Inv X pins σ (upd H a o) { s with heap:=h',toks:=t' }:=I.un (Un.laid k hp (I.hok.fresh hp)) (I.hok.laid k hp new)
theorem Inv.write {x e:Addr}{o:HO}{t':Nat} (I:Inv X pins σ H s) (mu:Mut (H x)) (he:e=x∨H e=some (.own x)) (k:∀ b u,b≠e→s.heap.get? b=some u→h'.get? b=some u) (heo:∃ u,h'.get? e=some u)
    (new:ObjOk X.prog X.w (upd H x o) h' x o):Inv X pins σ (upd H x o) { s with heap:=h',toks:=t' }:=I.un (Un.write mu he k heo) (I.hok.write mu he k heo new)
theorem Inv.pins_of {pins':List (Addr×Obj)} (I:Inv X pins σ H s) (h:∀ p∈pins',s.heap.get? p.1=some p.2∧H p.1=none∧p.1≠X.env.locals∧p.1 ∉ X.fs∧∀ v,p.2.data≠.cell v):Inv X pins' σ H s :=
  ⟨I.ok,I.os,I.bare,I.base,I.loc,I.cell,I.free,I.freeC,fun p hp=>(List.mem_append.mp hp).elim (fun z=>I.pin p (List.mem_append_left _ z)) (h p),I.hok,I.len⟩
theorem nodup_ix {N:List Str} (hN:N.Nodup) {i j:Nat}{x:Str} (a:N[i]?=some x) (b:N[j]?=some x):i=j:=by
  obtain ⟨h1,e1⟩:=List.getElem?_eq_some_iff.mp a
  obtain ⟨h2,e2⟩:=List.getElem?_eq_some_iff.mp b
  exact (List.getElem_inj hN).mp (e1.trans e2.symm)
theorem store_ok2 {M:Model}{A:Around}{E:Value→Shared→Prop}{i:Nat}{x:Str}{v:V}{u:Value}{Q:Unit→Shared→Prop} (I:Inv X pins σ H s) (hN:X.N.Nodup) (hi:X.N[i]?=some x) (hx:Loc X.env.scope x) (r:RelV v u)
    (h:∀ s',Inv X pins (σ.set i (some v)) H s'→(∃ a,Heap.SameBut a s.heap s'.heap∧(a=X.env.locals∨X.env.cells.lookup x=some a))→Q () s') (hf:X.fn x=true∨X.env.scope.names.lookup x=some .local:=by first | exact .inl rfl | exact .inr rfl | assumption):wpAny M A (storeName X.env x u) Q E s:=by
  obtain ⟨m,hn,hl⟩:=id I.loc
  have hcls:(X.env.scope.kind == .class || (X.env.scope.kind == .module && X.env.locals != X.env.globals))=false:=by rw [I.ok.kind];rfl
  have hiσ:i<σ.length:=by rw [I.len];exact (List.getElem?_eq_some_iff.mp hi).1
  have cne:=I.cne
  have tracked:∀ {a:Addr}{h':Heap},(∃ o,s.heap.get? a=some o∧H a=none)→Heap.SameBut a s.heap h'→HOk X.prog X.w H h':=fun {a h'} ha hs b ob e=>by
    obtain ⟨_,_,hfree⟩:=ha
    refine (I.hok b ob e).stay (fun c w' hc q=>(hs.2 c ?_).trans q) (fun _ q=>q) fun _ _ q=>q
    rintro rfl
    rcases hc with rfl | hc
    · rw [hfree] at e;cases e
    · rw [hfree] at hc;cases hc
  rcases hx with hk | hk
  · refine wpAny_storeName_local hk hn (fun h' hn' hs=>?_) hcls
    obtain ⟨oL,_,_,hoL,_⟩:=id hn
    refine h _ ⟨I.ok,I.os,I.bare,⟨fun b o e n hb hx=>?_,fun b o e n hb hx=>?_,I.base.free,fun b o e hx=>?_,I.base.tups,I.base.frzs,I.base.tbls⟩,⟨_,hn',fun j y v' e1 e2 e3=>?_⟩,fun y c e=>?_,I.free,I.freeC,fun p hp=>?_,tracked ⟨oL,hoL,I.free⟩ hs,by simpa using I.len⟩ ⟨_,hs,.inl rfl⟩
    · exact (hs.2 b (Nat.ne_of_lt (Nat.lt_of_lt_of_le (Heap.lt_size e) I.ok.above))).trans (I.base.keep b o e n hb hx)
    · obtain ⟨sl,e1⟩:=I.base.slot b o e n hb hx
      exact ⟨sl,(hs.2 b (Nat.ne_of_lt (Nat.lt_of_lt_of_le (Heap.lt_size e) I.ok.above))).trans e1⟩
    · obtain ⟨o',e1⟩:=I.base.there b o e hx
      exact ⟨o',(hs.2 b (Nat.ne_of_lt (Nat.lt_of_lt_of_le (Heap.lt_size e) I.ok.above))).trans e1⟩
    · by_cases hj:j=i
      · subst hj
        rw [hi] at e1;cases e1
        rw [List.getElem?_set_self hiσ] at e2
        cases e2
        exact ⟨u,r,.inl ⟨hk,by simp⟩⟩
      · rw [List.getElem?_set_ne (Ne.symm hj)] at e2
        obtain ⟨u',r',q⟩:=hl j y v' e1 e2 e3
        refine ⟨u',r',?_⟩
        rcases q with ⟨k,e⟩ | ⟨k,c,e,z⟩
        · refine .inl ⟨k,?_⟩
          have:y≠x:=fun e=>hj (nodup_ix hN e1 (e ▸ hi))
          simp [this,e]
        · exact .inr ⟨k,c,e,z.sameBut hs (cne y c e)⟩
    · obtain ⟨w',z⟩:=I.cell y c e
      exact ⟨w',z.sameBut hs (cne y c e)⟩
    · obtain ⟨e,n,ne,nf,d⟩:=I.pin p hp
      exact ⟨(hs.2 p.1 ne).trans e,n,ne,nf,d⟩
  · have hfn:X.fn x=true:=by
      rcases hf with z | z
      · exact z
      · rw [z] at hk;cases hk
    obtain ⟨c,hc⟩:=I.ok.has x (.inl hk)
    obtain ⟨w',z⟩:=I.cell x c hc
    refine wpAny_storeName_cell I.ok.kind hk hc z (fun h' hc' hs=>?_)
    obtain ⟨oc,hoc,hocd⟩:=id z
    refine h { s with heap:=h' } ⟨I.ok,I.os,I.bare,⟨fun b o e n hb hx=>?_,fun b o e n hb hx=>?_,I.base.free,fun b o e hx=>?_,I.base.tups,I.base.frzs,I.base.tbls⟩,⟨m,hn.sameBut hs (Ne.symm (cne x c hc)),fun j y v' e1 e2 e3=>?_⟩,fun y c' e=>?_,I.free,I.freeC,fun p hp=>?_,tracked ⟨oc,hoc,I.freeC x c hc⟩ hs,by simpa using I.len⟩ ⟨c,hs,.inr hc⟩
    · exact (hs.2 b (Nat.ne_of_lt (Nat.lt_of_lt_of_le (Heap.lt_size e) (I.ok.cab x c hfn hc)))).trans (I.base.keep b o e n hb hx)
    · obtain ⟨sl,e1⟩:=I.base.slot b o e n hb hx
      exact ⟨sl,(hs.2 b (Nat.ne_of_lt (Nat.lt_of_lt_of_le (Heap.lt_size e) (I.ok.cab x c hfn hc)))).trans e1⟩
    · obtain ⟨o',e1⟩:=I.base.there b o e hx
      exact ⟨o',(hs.2 b (Nat.ne_of_lt (Nat.lt_of_lt_of_le (Heap.lt_size e) (I.ok.cab x c hfn hc)))).trans e1⟩
    · by_cases hj:j=i
      · subst hj
        rw [hi] at e1;cases e1
        rw [List.getElem?_set_self hiσ] at e2
        cases e2
        exact ⟨u,r,.inr ⟨.inl hk,c,hc,hc'⟩⟩
      · rw [List.getElem?_set_ne (Ne.symm hj)] at e2
        obtain ⟨u',r',q⟩:=hl j y v' e1 e2 e3
        refine ⟨u',r',?_⟩
        rcases q with q | ⟨k,c',e,z'⟩
        · exact .inl q
        · refine .inr ⟨k,c',e,z'.sameBut hs ?_⟩
          rintro rfl
          exact hj (nodup_ix hN e1 (I.ok.inj _ _ _ e hc ▸ hi))
    · by_cases hcc:c'=c
      · subst hcc;exact ⟨_,hc'⟩
      · obtain ⟨w2,z2⟩:=I.cell y c' e
        exact ⟨w2,z2.sameBut hs hcc⟩
    · obtain ⟨e,n,ne,nf,d⟩:=I.pin p hp
      refine ⟨(hs.2 p.1 ?_).trans e,n,ne,nf,d⟩
      intro q
      rw [q,hoc] at e
      have q':oc=p.2:=Option.some.inj e
      exact d w' (by rw [← q'];exact hocd)
theorem store_ok {M:Model}{A:Around}{E:Value→Shared→Prop}{i:Nat}{x:Str}{v:V}{u:Value}{Q:Unit→Shared→Prop} (I:Inv X pins σ H s) (hN:X.N.Nodup) (hi:X.N[i]?=some x) (hx:Loc X.env.scope x) (r:RelV v u)
    (h:∀ s',Inv X pins (σ.set i (some v)) H s'→Q () s') (hf:X.fn x=true∨X.env.scope.names.lookup x=some .local:=by first | exact .inl rfl | exact .inr rfl | assumption):wpAny M A (storeName X.env x u) Q E s :=
  store_ok2 I hN hi hx r (fun s' I' _=>h s' I') hf
theorem Inv.call' {s':Shared}{ch:List Addr} (I:Inv X pins σ H s) (ho:s'.os=s.os) (u:Un (frs X.stack) ch H H' s.heap s'.heap) (hok:HOk X.prog X.w H' s'.heap) (hg:AllBare s'.gens)
    (hch:∀ b∈ch,(b∈X.ex∨X.s₀.heap.objs.size≤b)∧b≠X.env.locals∧(∀ x c,X.env.cells.lookup x=some c→c≠b)∧∀ p∈X.pn ++ pins,p.1≠b):Inv X pins σ H' s':=by
  obtain ⟨h',g',d',t',o'⟩:=s'
  have e:o'=s.os:=ho
  subst e
  exact I.call (g':=g') (t':=t') (d':=d') u hok hg hch
end
abbrev XK:=Value→Option Addr→Hp→Prop
abbrev St:=List (Option V)
abbrev VK:=V→Hp→Prop
abbrev TE:=St→Hp→VK→Prop
abbrev TT:=St→Hp→(Bool→Hp→Prop)→Prop
abbrev TA:=St→Hp→(List V→Hp→Prop)→Prop
structure Ends where
  nx:St→Hp→Prop
  rt:VK
  bk:St→Hp→Prop:=fun _ _=>False
  ct:St→Hp→Prop:=fun _ _=>False
abbrev TS:=Ends→St→Hp→Prop
def EP (X:Cx) (pins:List (Addr×Obj)) (σ:St) (Q:VK) (u:Value) (s':Shared):Prop:=∃ v H',Inv X pins σ H' s'∧RelV v u∧Q v H'
def TP (X:Cx) (pins:List (Addr×Obj)) (σ:St) (Q:Bool→Hp→Prop) (b:Bool) (s':Shared):Prop:=∃ H',Inv X pins σ H' s'∧Q b H'
def SP (X:Cx) (pins:List (Addr×Obj)) (D:Ends) (f:Flow) (s':Shared):Prop :=
  match f with
  | .next=>∃ σ' H',Inv X pins σ' H' s'∧D.nx σ' H'
  | .brk=>∃ σ' H',Inv X pins σ' H' s'∧D.bk σ' H'
  | .cont=>∃ σ' H',Inv X pins σ' H' s'∧D.ct σ' H'
  | .ret u=>∃ v σ' H',Inv X pins σ' H' s'∧RelV v u∧D.rt v H'
def PE (X:Cx) (e:Expr) (t:TE):Prop :=
  ∀ (pins:List (Addr×Obj)) (s:Shared) (σ:St) (H:Hp) (Q:VK),Inv X pins σ H s→t σ H Q→wpAny (model X.prog X.w) X.A (eval e X.env) (EP X pins σ Q) X.xe s
def PT (X:Cx) (e:Expr) (t:TT):Prop :=
  ∀ (pins:List (Addr×Obj)) (s:Shared) (σ:St) (H:Hp) (Q:Bool→Hp→Prop),Inv X pins σ H s→t σ H Q→wpAny (model X.prog X.w) X.A (isTrue e X.env (eval e X.env)) (TP X pins σ Q) X.xe s
def PW (X:Cx) (e:Expr) (t:TT):Prop :=
  ∀ (whole:Sem Value) (pins:List (Addr×Obj)) (s:Shared) (σ:St) (H:Hp) (Q:Bool→Hp→Prop),Inv X pins σ H s→t σ H Q→wpAny (model X.prog X.w) X.A (isTrue e X.env whole) (TP X pins σ Q) X.xe s
theorem PW.pt {X:Cx}{e:Expr}{t:TT} (h:PW X e t):PT X e t:=h _
def PSs (X:Cx) (st:List Stmt) (t:TS):Prop :=
  ∀ (pins:List (Addr×Obj)) (s:Shared) (σ:St) (H:Hp) (D:Ends),Inv X pins σ H s→t D σ H→wpAny (model X.prog X.w) X.A (execs st X.env) (SP X pins D) X.xe s
theorem thn {α:Type}{t:Sem α}{Q Q':α→Shared→Prop}{M:Model}{A:Around}{E:Value→Shared→Prop}{s:Shared} (h:wpAny M A t Q E s) (hQ:∀ a s,Q a s→Q' a s):wpAny M A t Q' E s:=wpAny_mono h hQ fun _ _ x=>x
section
variable {X:Cx}
def tVar (i:Nat):TE:=fun σ H Q=>∃ v,σ[i]?=some (some v)∧Q v H
def tC (v:V):TE:=fun _ H Q=>Q v H
theorem pe_var {i:Nat}{x:Str}{pos:Pos} (hN:X.N[i]?=some x) (hv:Vis X.env.scope x) (hd:(x == ("__debug__" : Str))=false:=by decide) (hcd:(x == ("__classdict__" : Str))=false:=by decide):PE X (.Name x pos) (tVar i):=by
  intro pins s σ H Q I h
  obtain ⟨v,e,h⟩:=h
  obtain ⟨m,hn,hl⟩:=I.loc
  obtain ⟨u,r,l⟩:=hl i x v hN e hv
  have fin:EP X pins σ Q u s:=⟨v,H,I,r,h⟩
  rcases l with ⟨hk,hm⟩ | ⟨hk,c,hc,hcell⟩
  · exact wpAny_Name (wpAny_loadName_local I.ok.kind hk hn hm fin) hd
  · rcases hk with hk | hk
    · exact wpAny_Name (wpAny_loadName_cell I.ok.kind hk hc hcell fin) hd
    · exact wpAny_Name (wpAny_loadName_free I.ok.kind hk hc hcell fin hcd) hd
theorem pe_int {i j pos}:PE X (.Constant (.int i) j pos) (tC (.int i)):=fun _ _ _ H _ I h=>wpAny_Constant_int ⟨.int i,H,I.tok _,⟨_,rfl⟩,h⟩
theorem pe_bl {b j pos}:PE X (.Constant (.bool b) j pos) (tC (.bl b)):=fun _ _ _ H _ I h=>Constant_bool ⟨.bl b,H,I,rfl,h⟩
theorem pe_non {j pos}:PE X (.Constant .none j pos) (tC .non):=fun _ _ _ H _ I h=>Constant_none ⟨.non,H,I,rfl,h⟩
theorem pe_str {x j pos}:PE X (.Constant (.str x) j pos) (tC (.str x)):=fun _ _ _ H _ I h=>Calls.Constant_str ⟨.str x,H,I.tok _,⟨_,rfl⟩,h⟩
def Gl (X:Cx) (x:Str):Prop:=X.env.kindOf x=some .globalImplicit
theorem ld_glob {E:Value→Shared→Prop}{pins:List (Addr×Obj)}{s:Shared}{σ:St}{H:Hp}{x:Str}{u:Value}{pos:Pos}{Q:Value→Shared→Prop} (I:Inv X pins σ H s) (hg:Gl X x) (hm:X.mg x=some u) (h:Q u s)
    (hd:(x == ("__debug__" : Str))=false:=by decide):wpAny (model X.prog X.w) X.A (eval (.Name x pos) X.env) Q E s :=
  Calls.Name_function_global I.ok.kind hg (Calls.loadGlobal_global (by rw [I.ok.glob];exact I.mod.glob.keeps I.bk) hm h) hd
theorem ld_blt {E:Value→Shared→Prop}{pins:List (Addr×Obj)}{s:Shared}{σ:St}{H:Hp}{x:Str}{u:Value}{pos:Pos}{Q:Value→Shared→Prop} (I:Inv X pins σ H s) (hg:Gl X x) (hm:X.mg x=none) (hv:bootBuiltins x=some u) (h:Q u s)
    (hn:x≠"__name__":=by decide) (hd:(x == ("__debug__" : Str))=false:=by decide):wpAny (model X.prog X.w) X.A (eval (.Name x pos) X.env) Q E s:=by
  obtain ⟨mb,h1,h2⟩:=I.mod.blt
  exact Calls.Name_function_global I.ok.kind hg (Calls.loadGlobal_builtin (by rw [I.ok.glob];exact I.mod.glob.keeps I.bk) hm (by rw [I.ok.blt];exact h1.keeps I.bk) ((h2 x hn).trans hv) h) hd
theorem pe_glob {x:Str}{v:V}{u:Value}{pos:Pos} (hg:Gl X x) (hm:X.mg x=some u) (r:RelV v u) (hd:(x == ("__debug__" : Str))=false:=by decide):PE X (.Name x pos) (tC v) :=
  fun _ _ _ H _ I h=>ld_glob I hg hm ⟨v,H,I,r,h⟩ hd
def t2I (ta tb:TE) (k:Int→Int→Hp→Prop):St→Hp→Prop:=fun σ H=>ta σ H fun x H1=>tb σ H1 fun y H2=>∃ i j,x = .int i∧y = .int j∧k i j H2
def tAdd (ta tb:TE):TE:=fun σ H Q=>t2I ta tb (fun i j H2=>Q (.int (i+j)) H2) σ H
variable {a b:Expr}{ta tb:TE}{pos:Pos}
theorem nobehind (b:Expr) {op:CmpOp} (h:op≠.In) (h2:op≠.NotIn):behindInMarks op b=false:=by
  have e1:(op == CmpOp.In)=false:=by cases op<;>first | rfl | exact absurd rfl h
  have e2:(op == CmpOp.NotIn)=false:=by cases op<;>first | rfl | exact absurd rfl h2
  cases b<;>simp [behindInMarks,e1,e2]
theorem RelV.none_iff {x:V}{v:Value} (r:RelV x v):(v == Value.none)=decide (x = .non):=by
  cases x with
  | non=>cases r;rfl
  | bl _=>cases r;rfl
  | int _=>obtain ⟨t,rfl⟩:=r;rfl
  | str _=>obtain ⟨t,rfl⟩:=r;rfl
  | byt _=>obtain ⟨t,rfl⟩:=r;rfl
  | flt _=>obtain ⟨t,rfl⟩:=r;rfl
  | ref _=>cases r;rfl
  | ty _=>cases r;rfl
variable {tA tB':TT}{rest:List Expr}
def tAnd (t u:TT):TT:=fun σ H Q=>t σ H fun c H1=>if c=true then u σ H1 Q else Q false H1
def tOr (t u:TT):TT:=fun σ H Q=>t σ H fun c H1=>if c=true then Q true H1 else u σ H1 Q
def tNot (t:TT):TT:=fun σ H Q=>t σ H fun c H1=>Q (!c) H1
end
def SqL (K:PySem.W.Frag) (H:Hp) (a:Addr) (xs:List V):Prop :=
  Rd H a (.lst xs) ∨
    ∃ (o:Obj) (its:Array Value) (n:Nat),K.lookup a=some o∧o.cls = .type "list"∧o.dict=none∧o.data = .seq its n∧its.size≤sizeLine∧Vals xs its.toList
def SqT (K:PySem.W.Frag) (H:Hp) (a:Addr) (xs:List V):Prop :=
  Rd H a (.tup xs) ∨
    ∃ (o:Obj) (its:Array Value) (n:Nat),K.lookup a=some o∧o.cls = .type "tuple"∧o.data = .seq its n∧its.size≤sizeLine∧Vals xs its.toList
def absV:Value→Option V
  | .none=>some .non
  | .bool b=>some (.bl b)
  | .int i _=>some (.int i)
  | .str x _=>some (.str x)
  | .bytes b _=>some (.byt b)
  | .float b _=>some (.flt b)
  | .ref a=>some (.ref a)
  | .type n=>some (.ty n)
  | _=>none
theorem RelV.abs {x:V}{u:Value} (r:RelV x u):absV u=some x:=by
  cases x with
  | non=>cases r;rfl
  | bl _=>cases r;rfl
  | int _=>obtain ⟨t,rfl⟩:=r;rfl
  | str _=>obtain ⟨t,rfl⟩:=r;rfl
  | byt _=>obtain ⟨t,rfl⟩:=r;rfl
  | flt _=>obtain ⟨t,rfl⟩:=r;rfl
  | ref _=>cases r;rfl
  | ty _=>cases r;rfl
theorem RelV.inj {x y:V}{u:Value} (r:RelV x u) (q:RelV y u):x=y:=Option.some.inj (r.abs.symm.trans q.abs)
theorem Vals.inj:∀ {xs ys:List V}{us:List Value},Vals xs us→Vals ys us→xs=ys
  | _,_,_,.nil,.nil=>rfl
  | _,_,_,.cons r t,.cons r' t'=>by rw [r.inj r',Vals.inj t t']
section
variable {X:Cx}{pins:List (Addr×Obj)}{σ:St}{H:Hp}{s:Shared}{a:Addr}{xs ys:List V}
theorem SqL.of {K:PySem.W.Frag} (h:H a=some (.lst xs)):SqL K H a xs:=.inl (.inl h)
theorem SqT.of {K:PySem.W.Frag} (h:H a=some (.tup xs)):SqT K H a xs:=.inl (.inl h)
theorem Inv.list (I:Inv X pins σ H s) (h:SqL X.K H a xs):∃ its:List Value,Vals xs its∧PlainL s.heap a its.toArray∧xs.length≤sizeLine:=by
  rcases h with h | ⟨o,its,n,hk,hc,hd,hs,hz,r⟩
  · obtain ⟨z,its,n,r,e⟩:=h.ok I.hok
    exact ⟨its,r,⟨_,n,e,rfl,rfl,rfl⟩,z⟩
  · refine ⟨its.toList,r,⟨o,n,I.kIn a o hk,hc,hd,by simpa using hs⟩,?_⟩
    have e:=r.length
    simp only [Array.length_toList] at e
    omega
theorem Inv.tuple (I:Inv X pins σ H s) (h:SqT X.K H a xs):∃ its:List Value,Vals xs its∧IsTup s.heap a its.toArray∧xs.length≤sizeLine:=by
  rcases h with h | ⟨o,its,n,hk,hc,hs,hz,r⟩
  · obtain ⟨z,its,r,p⟩:=h.ok I.hok
    exact ⟨its,r,p,z⟩
  · refine ⟨its.toList,r,⟨o,I.kIn a o hk,hc,n,by simpa using hs⟩,?_⟩
    have e:=r.length
    simp only [Array.length_toList] at e
    omega
theorem Inv.list_inj (I:Inv X pins σ H s) (h:SqL X.K H a xs) (h':SqL X.K H a ys):xs=ys:=by
  obtain ⟨its,r,⟨o,n,e,_,_,d⟩,_⟩:=I.list h
  obtain ⟨its',r',⟨o',n',e',_,_,d'⟩,_⟩:=I.list h'
  rw [e] at e';cases e'
  rw [d] at d'
  injection d' with d1 _
  have:its=its':=by simpa using congrArg Array.toList d1
  subst this
  exact r.inj r'
theorem Inv.tuple_inj (I:Inv X pins σ H s) (h:SqT X.K H a xs) (h':SqT X.K H a ys):xs=ys:=by
  obtain ⟨its,r,⟨o,e,_,n,d⟩,_⟩:=I.tuple h
  obtain ⟨its',r',⟨o',e',_,n',d'⟩,_⟩:=I.tuple h'
  rw [e] at e';cases e'
  rw [d] at d'
  injection d' with d1 _
  have:its=its':=by simpa using congrArg Array.toList d1
  subst this
  exact r.inj r'
end
abbrev Cx.wish (X:Cx) (E:Value→Shared→Prop):Cx:={ X with xe:=E }
abbrev Cx.nox (X:Cx):Cx:=X.wish fun _ _=>False
theorem Cx.Ok.wish {X:Cx} (ok:X.Ok) (E:Value→Shared→Prop):(X.wish E).Ok :=
  ⟨ok.mod,ok.kind,ok.glob,ok.blt,ok.above,ok.inj,ok.has,ok.cab,ok.hd,ok.frames,ok.stk,ok.exf,ok.bs,ok.bsz,ok.noex,ok.exfs,ok.funs,ok.frf⟩
theorem Cx.Ok.unwish {X:Cx}{E:Value→Shared→Prop} (ok:(X.wish E).Ok):X.Ok :=
  ⟨ok.mod,ok.kind,ok.glob,ok.blt,ok.above,ok.inj,ok.has,ok.cab,ok.hd,ok.frames,ok.stk,ok.exf,ok.bs,ok.bsz,ok.noex,ok.exfs,ok.funs,ok.frf⟩
section
variable {X:Cx}{pins:List (Addr×Obj)}{σ:St}{H:Hp}{s:Shared}{E:Value→Shared→Prop}
theorem Inv.wish (I:Inv X pins σ H s) (E:Value→Shared→Prop):Inv (X.wish E) pins σ H s:=⟨I.ok.wish E,I.os,I.bare,I.base,I.loc,I.cell,I.free,I.freeC,I.pin,I.hok,I.len⟩
theorem Inv.unwish (I:Inv (X.wish E) pins σ H s):Inv X pins σ H s:=⟨I.ok.unwish,I.os,I.bare,I.base,I.loc,I.cell,I.free,I.freeC,I.pin,I.hok,I.len⟩
theorem SP.unwish {D:Ends}{f:Flow}{s':Shared} (h:SP (X.wish E) pins D f s'):SP X pins D f s':=by
  cases f with
  | next=>obtain ⟨σ',H',I,q⟩:=h;exact ⟨σ',H',I.unwish,q⟩
  | brk=>obtain ⟨σ',H',I,q⟩:=h;exact ⟨σ',H',I.unwish,q⟩
  | cont=>obtain ⟨σ',H',I,q⟩:=h;exact ⟨σ',H',I.unwish,q⟩
  | ret u=>obtain ⟨v,σ',H',I,r,q⟩:=h;exact ⟨v,σ',H',I.unwish,r,q⟩
theorem PE.nox {e:Expr}{t:TE} (h:PE X.nox e t):PE X e t:=fun pins s σ H Q I hw =>
  wpAny_mono (h pins s σ H Q (I.wish _) hw) (fun _ _ ⟨v,H',I',r,q⟩=>⟨v,H',I'.unwish,r,q⟩) fun _ _ z=>False.elim z
theorem PT.nox {e:Expr}{t:TT} (h:PT X.nox e t):PT X e t:=fun pins s σ H Q I hw =>
  wpAny_mono (h pins s σ H Q (I.wish _) hw) (fun _ _ ⟨H',I',q⟩=>⟨H',I'.unwish,q⟩) fun _ _ z=>False.elim z
theorem PSs.nox {st:List Stmt}{t:TS} (h:PSs X.nox st t):PSs X st t:=fun pins s σ H D I hw =>
  wpAny_mono (h pins s σ H D (I.wish _) hw) (fun _ _ q=>q.unwish) fun _ _ z=>False.elim z
end
section
variable {X:Cx}{st:Stmt}{rest:List Stmt}{t u:TS}{e:Expr}{te:TE}{pos:Pos}
theorem Inv.quiet {pins:List (Addr×Obj)}{σ:St}{H:Hp}{s:Shared} (I:Inv X pins σ H s):interactive X.env=false:=by simp [interactive,I.ok.kind]
def tDrop (te:TE):TS:=fun D σ H=>te σ H fun _ H1=>D.nx σ H1
end
structure It where
  go:Nat→Hp→Prop
  yld:Nat→Hp→V→Hp→Prop
  stop:Nat→Hp→Prop
def FpOk (X:Cx) (pins:List (Addr×Obj)) (H:Hp) (b:Addr):Prop :=
  H b=none∧b≠X.env.locals∧b ∉ X.fs∧(b∈X.ex∨X.s₀.heap.objs.size≤b)∧(∀ x c,X.env.cells.lookup x=some c→c≠b)∧∀ p∈X.pn ++ pins,p.1≠b
theorem Inv.fpOk {X:Cx}{pins:List (Addr×Obj)}{σ:St}{H H':Hp}{s:Shared}{b:Addr} (I:Inv X pins σ H s) (hb:s.heap.objs.size≤b) (hn:H' b=none):FpOk X pins H' b:=by
  refine ⟨hn,Nat.ne_of_gt (Nat.lt_of_lt_of_le I.lt hb),I.nofs hb,.inr (Nat.le_trans I.sz hb),fun x c e z=>?_,fun p hp z=>?_⟩
  · obtain ⟨v,q⟩:=I.cell x c e
    exact absurd (Nat.lt_of_lt_of_le q.lt (by rw [z];exact hb)) (Nat.lt_irrefl _)
  · exact absurd (Nat.lt_of_lt_of_le (Heap.lt_size (I.pin p hp).1) (by rw [z];exact hb)) (Nat.lt_irrefl _)
structure Turn (P:Program) (w:World) (K:PySem.W.Frag) (tg:Expr) (J:It) (fp:List Addr) (it:Addr) (tn:Nat→Heap→Prop):Prop where
  mem:it∈fp
  obj:∀ i h,tn i h→∀ b∈fp,∃ o,h.get? b=some o∧∀ v,o.data≠.cell v
  keep:∀ i h h',tn i h→(∀ b∈fp,∀ o,h.get? b=some o→h'.get? b=some o)→tn i h'
  item:∀ (X:Cx),X.prog=P→X.w=w→X.K=K→X.calm=true→∀ (i:Nat) (pins:List (Addr×Obj)) (s:Shared) (σ:St) (H:Hp) (E:Value→Shared→Prop),Inv X pins σ H s→(∀ b∈fp,FpOk X pins H b)→tn i s.heap→J.go i H →
    wpAny (model P w) X.A (pyNext (.ref it)) (fun r s1=>∃ u,r=some u ∧
      wpAny (model P w) X.A (letOwnedTupleGo tg (.ref it) u) (fun _ s2=>∃ x H',Inv X pins σ H' s2∧RelV x u∧J.yld i H x H'∧tn (i+1) s2.heap∧∀ b∈fp,H' b=none) E s1) E s
  done:∀ (X:Cx),X.prog=P→X.w=w→X.K=K→X.calm=true→∀ (i:Nat) (pins:List (Addr×Obj)) (s:Shared) (σ:St) (H:Hp) (E:Value→Shared→Prop),Inv X pins σ H s→(∀ b∈fp,FpOk X pins H b)→tn i s.heap→J.stop i H →
    wpAny (model P w) X.A (pyNext (.ref it)) (fun r s1=>r=none∧Inv X pins σ H s1) E s
  self:∀ (A:Around) (i:Nat) (s:Shared) (Q:Value→Shared→Prop) (E:Value→Shared→Prop),tn i s.heap→Q (.ref it) s→wpAny (model P w) A (pyIter (.ref it)) Q E s
abbrev TI:=St→Hp→(It→Hp→Prop)→Prop
def PIE (X:Cx) (pins:List (Addr×Obj)) (σ:St) (tg:Expr) (R:It→Hp→Prop) (itv:Value) (s2:Shared):Prop :=
  ∃ (it:Addr) (fp:List Addr) (tn:Nat→Heap→Prop) (J:It) (H':Hp),itv = .ref it∧Inv X pins σ H' s2∧Turn X.prog X.w X.K tg J fp it tn∧tn 0 s2.heap∧(∀ b∈fp,FpOk X pins H' b)∧R J H'
theorem go_of {M:Model}{A:Around}{E:Value→Shared→Prop}{s:Shared}{tg:Expr}{it:Addr}{u:Value}{o:Obj}{n:String}{vs:Array Value}{Q:Unit→Shared→Prop} (ho:s.heap.get? it=some o) (hc:o.cls = .type n) (hd:o.data = .fields vs)
    (hn:["enumerate","zip","dict_itemiterator","dict_reverseitemiterator","odict_iterator","itertools.zip_longest","itertools.pairwise"].contains n=false) (hQ:Q () s):wpAny M A (letOwnedTupleGo tg (.ref it) u) Q E s:=by
  unfold letOwnedTupleGo
  cases tg<;>first
    | exact wpAny_pure hQ
    | (cases u<;>first
        | exact wpAny_pure hQ
        | (refine wpAny_bind (wpAny_load ho ?_)
           rw [hc,hd]
           show wpAny M A (if (["enumerate","zip","dict_itemiterator","dict_reverseitemiterator","odict_iterator","itertools.zip_longest","itertools.pairwise"].contains n && vs[0]? == some (rawInt _))=true then _ else _) Q E s
           rw [if_neg (by intro h;rw [hn,Bool.false_and] at h;cases h)]
           exact wpAny_pure hQ))
def Itl (K:PySem.W.Frag) (a:Addr):It :=
  ⟨fun i H=>∃ xs x,SqL K H a xs∧xs[i]?=some x,fun i H x H'=>H'=H∧∀ xs,SqL K H a xs→xs[i]?=some x,fun i H=>∃ xs,SqL K H a xs∧xs.length≤i⟩
def Itt (K:PySem.W.Frag) (a:Addr):It :=
  ⟨fun i H=>∃ xs x,SqT K H a xs∧xs[i]?=some x,fun i H x H'=>H'=H∧∀ xs,SqT K H a xs→xs[i]?=some x,fun i H=>∃ xs,SqT K H a xs∧xs.length≤i⟩
theorem turn_list {P:Program}{w:World}{K:PySem.W.Frag}{tg:Expr} (a it:Addr):Turn P w K tg (Itl K a) [it] it (fun i h=>h.IsListIter it a i) where
  mem:=by simp
  obj:=fun i h st b hb=>by
    have e:b=it:=by simpa using hb
    subst e
    obtain ⟨o,e,c,d⟩:=st
    exact ⟨o,e,fun v z=>by rw [d] at z;cases z⟩
  keep:=fun i h h' st k=>st.at fun o e=>k it (by simp) o e
  item:=by
    intro X hP hw hK hc i pins s σ H E I hf st hg
    subst hP hw hK
    obtain ⟨xs,x,hq,hx⟩:=hg
    obtain ⟨its,rv,p,hz⟩:=I.list hq
    obtain ⟨u,hu,ru⟩:=rv.get hx
    obtain ⟨f0,f1,f2,f3,f4,f5⟩:=hf it (by simp)
    refine wpAny_pyNext_list_item st p.isList (x:=u) (by simpa using hu) fun h' st' sb=>?_
    have I1:Inv X pins σ H { s with heap:=h' }:=I.turned (t':=s.toks) (fun b o hb e=>(sb.2 b hb).trans e) f0 f1 f3 f4 f5
    obtain ⟨o,e,c,d⟩:=id st'
    exact ⟨u,rfl,go_of (s:={ s with heap:=h' }) e c d (by decide) ⟨x,H,I1,ru,⟨rfl,fun ys hy=>by rw [I.list_inj hy hq];exact hx⟩,st',fun b hb=>(hf b hb).1⟩⟩
  done:=by
    intro X hP hw hK hc i pins s σ H E I hf st hg
    subst hP hw hK
    obtain ⟨xs,hq,hx⟩:=hg
    obtain ⟨its,rv,p,hz⟩:=I.list hq
    obtain ⟨f0,f1,f2,f3,f4,f5⟩:=hf it (by simp)
    have hl:=rv.length
    exact wpAny_pyNext_list_end (I.ok.hd hc) st p.isList (by simp;omega) fun h' eb=>⟨rfl,I.turned (t':=s.toks) (fun b o hb e=>eb b o hb e) f0 f1 f3 f4 f5⟩
  self:=fun _ _ _ _ _ st h=>wpAny_pyIter_listiter st h
theorem turn_tuple {P:Program}{w:World}{K:PySem.W.Frag}{tg:Expr} (a it:Addr):Turn P w K tg (Itt K a) [it] it (fun i h=>h.IsTupleIter it a i) where
  mem:=by simp
  obj:=fun i h st b hb=>by
    have e:b=it:=by simpa using hb
    subst e
    obtain ⟨o,e,c,d⟩:=st
    exact ⟨o,e,fun v z=>by rw [d] at z;cases z⟩
  keep:=fun i h h' st k=>st.at fun o e=>k it (by simp) o e
  item:=by
    intro X hP hw hK hc i pins s σ H E I hf st hg
    subst hP hw hK
    obtain ⟨xs,x,hq,hx⟩:=hg
    obtain ⟨its,rv,p,hz⟩:=I.tuple hq
    obtain ⟨u,hu,ru⟩:=rv.get hx
    obtain ⟨f0,f1,f2,f3,f4,f5⟩:=hf it (by simp)
    refine wpAny_pyNext_tuple_item st (show s.heap.IsTuple a its.toArray from p) (x:=u) (by simpa using hu) fun h' st' sb=>?_
    have I1:Inv X pins σ H { s with heap:=h' }:=I.turned (t':=s.toks) (fun b o hb e=>(sb.2 b hb).trans e) f0 f1 f3 f4 f5
    obtain ⟨o,e,c,d⟩:=id st'
    exact ⟨u,rfl,go_of (s:={ s with heap:=h' }) e c d (by decide) ⟨x,H,I1,ru,⟨rfl,fun ys hy=>by rw [I.tuple_inj hy hq];exact hx⟩,st',fun b hb=>(hf b hb).1⟩⟩
  done:=by
    intro X hP hw hK hc i pins s σ H E I hf st hg
    subst hP hw hK
    obtain ⟨xs,hq,hx⟩:=hg
    obtain ⟨its,rv,p,hz⟩:=I.tuple hq
    obtain ⟨f0,f1,f2,f3,f4,f5⟩:=hf it (by simp)
    have hl:=rv.length
    exact wpAny_pyNext_tuple_end (I.ok.hd hc) st (show s.heap.IsTuple a its.toArray from p) (by simp;omega) fun h' eb=>⟨rfl,I.turned (t':=s.toks) (fun b o hb e=>eb b o hb e) f0 f1 f3 f4 f5⟩
  self:=fun _ _ _ _ _ st h=>wpAny_pyIter_tupleiter st h
section
variable {X:Cx}{tg:Expr}
def pinsAt (fp:List Addr) (h:Heap):List (Addr×Obj):=fp.filterMap fun b=>(h.get? b).map fun o=>(b,o)
theorem mem_pinsAt {fp:List Addr}{h:Heap}{b:Addr}{o:Obj} (hb:b∈fp) (e:h.get? b=some o):(b,o)∈pinsAt fp h:=List.mem_filterMap.mpr ⟨b,hb,by rw [e];rfl⟩
theorem of_pinsAt {fp:List Addr}{h:Heap}{p:Addr×Obj} (hp:p∈pinsAt fp h):p.1∈fp∧h.get? p.1=some p.2:=by
  obtain ⟨b,hb,e⟩:=List.mem_filterMap.mp hp
  cases q:h.get? b with
  | none=>rw [q] at e;cases e
  | some o =>
    rw [q] at e
    have e':(b,o)=p:=Option.some.inj e
    subst e'
    exact ⟨hb,q⟩
theorem Inv.pinned {pins:List (Addr×Obj)}{σ:St}{H:Hp}{s:Shared}{fp:List Addr} (I:Inv X pins σ H s) (hf:∀ b∈fp,FpOk X pins H b) (ho:∀ b∈fp,∃ o,s.heap.get? b=some o∧∀ v,o.data≠.cell v):Inv X (pins ++ pinsAt fp s.heap) σ H s :=
  I.pins_of fun p hp=>(List.mem_append.mp hp).elim (fun z=>I.pin p (List.mem_append_right _ z)) fun z=>by
    obtain ⟨hb,e⟩:=of_pinsAt z
    obtain ⟨f0,f1,f2,_⟩:=hf p.1 hb
    obtain ⟨o,e',d⟩:=ho p.1 hb
    rw [e] at e';cases e'
    exact ⟨e,f0,f1,f2,d⟩
theorem Inv.unpinned {pins pl:List (Addr×Obj)}{σ:St}{H:Hp}{s:Shared} (I:Inv X (pins ++ pl) σ H s):Inv X pins σ H s:=I.pins_of fun p hp=>I.pin p (List.mem_append_right _ (List.mem_append_left _ hp))
end
abbrev R2:=V→V→Hp→VK→Prop
def OpR (X:Cx) (f:Value→Value→Sem Value) (r:R2):Prop :=
  ∀ (pins:List (Addr×Obj)) (s:Shared) (σ:St) (H:Hp) (x y:V) (v u:Value) (Q:VK),Inv X pins σ H s→RelV x v→RelV y u→r x y H Q →
    wpAny (model X.prog X.w) X.A (f v u) (EP X pins σ Q) X.xe s
def CallR (X:Cx) (f:Value) (r:List V→Hp→VK→Prop):Prop :=
  ∀ (pins:List (Addr×Obj)) (s:Shared) (σ:St) (H:Hp) (xs:List V) (us:List Value) (Q:VK),Inv X pins σ H s→Vals xs us→r xs H Q →
    wpAny (model X.prog X.w) X.A (call f us) (EP X pins σ Q) X.xe s
section
variable {X:Cx}{a b c:Expr}{ta tb tc:TE}{pos:Pos}
def CMul (i j:Int):Prop:=(-(2 ^ 64)<i∧i<2 ^ 64)∨(-(2 ^ 64)<j∧j<2 ^ 64)
theorem CMul.ok {i j:Int} (h:CMul i j):IntMulOk i j:=by
  rcases h with ⟨h1,h2⟩ | ⟨h1,h2⟩
  · exact .of_left (intBits_le_64 h1 h2)
  · exact .of_right (intBits_le_64 h1 h2)
theorem fin_bl {pins:List (Addr×Obj)}{σ:St}{H:Hp}{s:Shared}{Q:VK}{k k':Bool} (I:Inv X pins σ H s) (q:Q (.bl k) H) (e:k=k'):EP X pins σ Q (.bool k') s:=by
  subst e
  exact ⟨.bl k,H,I,rfl,q⟩
theorem op_in_str:OpR X (compareOp .In) (fun x y H Q=>∃ i j,x = .str i∧y = .str j∧Q (.bl (!(Builtin.Str.occurrences j i 0 j.length 1).isEmpty)) H):=by
  intro pins s σ H x y v u Q I rx ry h
  obtain ⟨i,j,rfl,rfl,q⟩:=h
  obtain ⟨t,rfl⟩:=rx
  obtain ⟨t',rfl⟩:=ry
  exact in_str (fin_bl I q rfl)
theorem nomark (b:Expr) {op:CmpOp} (h:op≠.In:=by decide) (h2:op≠.NotIn:=by decide):behindInMarks op b=false:=by
  have e1:(op == CmpOp.In)=false:=by cases op<;>first | rfl | exact absurd rfl h
  have e2:(op == CmpOp.NotIn)=false:=by cases op<;>first | rfl | exact absurd rfl h2
  cases b<;>simp [behindInMarks,e1,e2]
theorem line63:(sizeLine:Nat)<2 ^ 63:=by rw [sizeLine_eq];decide
theorem op_add_str:OpR X (binaryOp .Add) (fun x y H Q=>∃ i j,x = .str i∧y = .str j∧i.length+j.length≤sizeLine∧Q (.str (i ++ j)) H):=by
  intro pins s σ H x y v u Q I rx ry h
  obtain ⟨i,j,rfl,rfl,hz,q⟩:=h
  obtain ⟨t,rfl⟩:=rx
  obtain ⟨t',rfl⟩:=ry
  exact add_str (fun t' tk=>⟨.str (i ++ j),H,I.tok _,⟨_,rfl⟩,q⟩) hz
theorem vals1 {x:V}{us:List Value} (r:Vals [x] us):∃ u,us=[u]∧RelV x u:=by
  cases r with
  | cons r1 r2=>cases r2;exact ⟨_,rfl,r1⟩
theorem vals2 {x y:V}{us:List Value} (r:Vals [x,y] us):∃ u w',us=[u,w']∧RelV x u∧RelV y w':=by
  cases r with
  | cons r1 r2 =>
    cases r2 with
    | cons r3 r4=>cases r4;exact ⟨_,_,rfl,r1,r3⟩
theorem call_abs:CallR X (.builtin "abs") (fun xs H Q=>∃ i,xs=[.int i]∧Q (.int (if i<0 then -i else i)) H):=by
  intro pins s σ H xs us Q I r h
  obtain ⟨i,rfl,q⟩:=h
  obtain ⟨u,rfl,t,rfl⟩:=vals1 r
  exact call_abs_int fun u tk=>⟨.int (if i<0 then -i else i),H,I.tok _,⟨_,rfl⟩,q⟩
theorem call_max2 (hc:X.calm=true):CallR X (.builtin "max") (fun xs H Q=>∃ i j,xs=[.int i,.int j]∧Q (.int (if j > i then j else i)) H):=by
  intro pins s σ H xs us Q I r h
  obtain ⟨i,j,rfl,q⟩:=h
  obtain ⟨u,w',rfl,⟨t,rfl⟩,⟨t',rfl⟩⟩:=vals2 r
  refine max_two_ints (I.ok.hd hc) fun h' tk k=>⟨_,H,I.kept k,?_,q⟩
  by_cases hj:j > i
  · rw [if_pos hj,if_pos hj];exact ⟨_,rfl⟩
  · rw [if_neg hj,if_neg hj];exact ⟨_,rfl⟩
theorem call_int1:CallR X (.type "int") (fun xs H Q=>(∃ i,xs=[.int i]∧Q (.int i) H)∨∃ k,xs=[.bl k]∧Q (.int (if k then 1 else 0)) H):=by
  intro pins s σ H xs us Q I r h
  rcases h with ⟨i,rfl,q⟩ | ⟨k,rfl,q⟩
  · obtain ⟨u,rfl,t,rfl⟩:=vals1 r
    exact call_int_int ⟨.int i,H,I,⟨_,rfl⟩,q⟩
  · obtain ⟨u,rfl,r1⟩:=vals1 r
    cases r1
    exact call_int_bool ⟨.int (if k then 1 else 0),H,I.tok _,⟨_,rfl⟩,q⟩
end
structure ObjM (h:Heap) (x dx C:Addr) (mA:Str→Option Value):Prop where
  obj:h.get? x=some (PySem.W.instObj C dx)
  ns:h.Ns1 dx mA
  ne:dx≠x
theorem lookIn_ns {h:Heap}{dx:Addr}{mA:Str→Option Value} (n:h.Ns1 dx mA):∃ od,h.get? dx=some od∧∀ name,PySem.W.lookIn name od=some (mA name):=by
  obtain ⟨o,es,ep,ho,hd,hk,_,hm⟩:=n
  refine ⟨o,ho,fun name=>?_⟩
  have e:=hm name
  unfold nsFind findBy at e
  rw [← Array.find?_toList] at e
  unfold PySem.W.lookIn
  rw [hd]
  dsimp only
  split
  · rename_i y q
    rw [q] at e
    exact congrArg some e
  · rename_i q
    rw [q] at e
    have a:es.toList.any (·.refKey)=false:=by
      rw [List.any_eq_false]
      intro y hy
      obtain ⟨z,t,hkey⟩:=hk y (Array.mem_toList_iff.mp hy)
      simp [DictEntry.refKey,hkey]
    have a':¬ es.toList.any (·.refKey)=true:=by rw [a];exact Bool.false_ne_true
    rw [if_neg a']
    exact congrArg some e
theorem ObjM.look {h:Heap}{x dx C:Addr}{mA:Str→Option Value} (I:ObjM h x dx C mA):∃ od,PySem.W.InstAt h x (PySem.W.instObj C dx) C (some od)∧∀ name,PySem.W.lookIn name od=some (mA name) :=
  let ⟨od,ho,hl⟩:=lookIn_ns I.ns
  ⟨od,⟨I.obj,rfl,rfl,ho⟩,hl⟩
section
variable {prog:Program}{w:World}{A:Around}{E:Value→Shared→Prop}{s:Shared}{K:PySem.W.Frag}{x dx C f:Addr}{mA:Str→Option Value}{name:Str}{v:Value}
theorem get_meth {pl:Sem Bool}{Q:Value×List Value→Shared→Prop} (X:K.In s.heap) (I:ObjM s.heap x dx C mA) (hg:PySem.W.plainGet K C name=true)
    (hf:PySem.W.findIn K (.ref C) name=some (some (.ref f))) (ht:PySem.W.isFn K (.ref f)=true) (hv:mA name=none) (h:Q (.ref f,[.ref x]) s) :
    wpAny (model prog w) A (getMethod (.ref x) name pl) Q E s:=by
  obtain ⟨od,J,hl⟩:=I.look
  exact PySem.W.method_fn X J (PySem.W.plainGet_of hg).1 (PySem.W.plainGet_of hg).2 hf (beq_iff_eq.mp ht) (by show (PySem.W.lookIn name od).map (·.isSome)=some false;rw [hl,hv];rfl) h
theorem make_map0 {R:Result→Shared→Prop} (X:K.In s.heap) (hm:PySem.W.makesIn K C=true)
    (hi:PySem.W.findIn K (.ref C) "__init__"=some (some (.builtin "object.__init__")))
    (hb:∀ self,PySem.W.Looks (model prog w) s.heap (bindSpecial (.builtin "object.__init__") self) (.builtin "object.__init__",[self]))
    (h:codeAny (model prog w) (A.under (.builtin "type.__call__" ⟨[.ref C],[]⟩)) (.call (.builtin "object.__init__") ⟨[.ref (s.heap.objs.size+1)],[]⟩) (PySem.W.InitBack (s.heap.objs.size+1) R)
      { s with heap:=(s.heap.push PySem.W.emptyDict).push (PySem.W.instObj C s.heap.objs.size) }) :
    codeAny (model prog w) A (.call (.ref C) ⟨[],[]⟩) R s:=by
  obtain ⟨hh,g,d,t,os⟩:=s
  exact PySem.W.make_core (PySem.W.makes_of X hm) (PySem.W.looks_findIn X hi) hb (.inr ⟨rfl,rfl⟩) h
end
theorem RelO.none_of {o:Option Value} (r:RelO none o):o=none:=by
  cases o with
  | none=>rfl
  | some u=>exact (show False from r).elim
section
variable {P:Program}{w:World}{H H':Hp}{h h':Heap}{a C dx:Addr}{fs fs':List (Str×V)}
theorem ins_get (hok:HOk P w H h) (e:H a=some (.ins C dx fs)):∃ mA,ObjM h a dx C mA∧(∀ f,RelO (fs.lookup f) (mA f))∧PySem.Within mA (fs.map (·.1))∧fs.length≤1000∧H dx=some (.own a):=by
  obtain ⟨d,z,ne,ob,mA,n,r,q⟩:=(show ObjOk P w H h a (.ins C dx fs) from hok a _ e)
  exact ⟨mA,⟨ob,n,ne⟩,r,q,z,d⟩
end
structure Cls (K:PySem.W.Frag) (C:Addr):Prop where
  pg:PySem.W.plainGet K C Str.empty=true
  hd:PySem.W.hasDictIn K C=true
  po:PySem.W.plainOver K C=true
  sa:PySem.W.findIn K (.ref C) "__setattr__"=some (some (.builtin "object.__setattr__"))
theorem Cls.get {K:PySem.W.Frag}{C:Addr} (c:Cls K C) (f:Str):PySem.W.plainGet K C f=true:=c.pg
structure Meth (K:PySem.W.Frag) (C:Addr) (m:Str) (f:Addr):Prop where
  at_:PySem.W.findIn K (.ref C) m=some (some (.ref f))
  fn:PySem.W.isFn K (.ref f)=true
  kp:PySem.W.keepIn K (.ref f)=true
section
variable {X:Cx}{pins:List (Addr×Obj)}{σ:St}{H:Hp}{s:Shared}{a C dx:Addr}{fs:List (Str×V)}{f:Str}{v:V}{A:Around}{E:Value→Shared→Prop}
theorem getmeth_ok {m:Str}{g:Addr}{pl:Sem Bool}{Q:Value×List Value→Shared→Prop} (I:Inv X pins σ H s) (e:H a=some (.ins C dx fs)) (c:Cls X.K C) (k:Meth X.K C m g) (l:fs.lookup m=none)
    (h:Q (.ref g,[.ref a]) s):wpAny (model X.prog X.w) A (getMethod (.ref a) m pl) Q E s:=by
  obtain ⟨mA,O,r,_,_,_⟩:=ins_get I.hok e
  have hn:mA m=none:=RelO.none_of (by rw [← l];exact r m)
  exact get_meth I.kIn O (c.get m) k.at_ k.fn hn h
theorem Inv.made (I:Inv X pins σ H s):Inv X pins σ (upd (upd H s.heap.objs.size (.own (s.heap.objs.size+1))) (s.heap.objs.size+1) (.ins C s.heap.objs.size []))
    { s with heap:=(s.heap.push PySem.W.emptyDict).push (PySem.W.instObj C s.heap.objs.size) }:=by
  have e1:(s.heap.push PySem.W.emptyDict).get? s.heap.objs.size=some PySem.W.emptyDict:=Heap.get?_push_size s.heap rfl
  have e2:((s.heap.push PySem.W.emptyDict).push (PySem.W.instObj C s.heap.objs.size)).get? (s.heap.objs.size+1)=some (PySem.W.instObj C s.heap.objs.size):=by
    have:=Heap.get?_push_size (s.heap.push PySem.W.emptyDict) (o:=PySem.W.instObj C s.heap.objs.size) rfl
    rwa [Heap.size_push] at this
  have e3:(s.heap.push PySem.W.emptyDict).Ns s.heap.objs.size (fun _=>none):=⟨PySem.W.emptyDict,#[],_,e1,rfl,(fun e he=>absurd he (by simp)),fun _=>rfl⟩
  have I1:=I.laid (a:=s.heap.objs.size) (o:=.own (s.heap.objs.size+1)) (h':=s.heap.push PySem.W.emptyDict) (t':=s.toks) (fun b u q=>Heap.get?_push_of_some _ q) (Nat.le_refl _) ⟨_,e1⟩
  refine I1.laid (a:=s.heap.objs.size+1) (o:=.ins C s.heap.objs.size []) (t':=s.toks) (fun b u q=>Heap.get?_push_of_some _ q) (Nat.le_of_eq (Heap.size_push _ _)) ?_
  have ne:s.heap.objs.size≠s.heap.objs.size+1:=Nat.ne_of_lt (Nat.lt_succ_self _)
  refine ⟨by rw [upd_ne ne,upd_same],Nat.zero_le _,ne,e2,fun _=>none,(Heap.Ns1.of_empty e3).at fun o q=>Heap.get?_push_of_some _ q,fun _=>True.intro,fun y hy=>absurd rfl hy⟩
end
structure Room (k:Nat) (A:Around):Prop where
  hd:A.handled=none
  dp:A.depth+3*k+5<recursionLimit
  un:A.units+16*k+200<cLine
theorem Room.mono {j k:Nat}{A:Around} (r:Room k A) (h:j≤k):Room j A:=⟨r.hd,by have:=r.dp;omega,by have:=r.un;omega⟩
theorem Room.deeper {k:Nat}{A:Around} (r:Room (k+1) A) (env:Env):Room k (A.deeper env) :=
  ⟨r.hd,by have:=r.dp;show A.depth+1+3*k+5<_;omega,by have:=r.un;show A.units+3+16*k+200<_;omega⟩
theorem Room.in1 {k:Nat}{A:Around} (r:Room (k+1) A):Room k A.in1 :=
  ⟨r.hd,by have:=r.dp;show A.depth+3*k+5<_;omega,by have:=r.un;show A.units+1+16*k+200<_;omega⟩
theorem Room.depth {k:Nat}{A:Around} (r:Room k A):A.depth<recursionLimit:=by have:=r.dp;omega
theorem Room.units {k:Nat}{A:Around} (r:Room k A):A.units+64<cLine:=by have:=r.un;omega
abbrev Sp:=List V→Hp→VK→XK→Prop
abbrev CXT:=List Env→Hp→Shared→XK→Value→Shared→Prop
structure Env0 (P:Program) (w:World) (K:PySem.W.Frag) (mg:Str→Option Value) (base:Heap) (A:Around) (outer:List Env) (s:Shared) (H:Hp):Prop where
  frames:A.frames=some outer
  mod:Mod K mg base
  bs:∀ b o,base.get? b=some o→s.heap.get? b=some o∧H b=none
  bsz:base.objs.size≤s.heap.objs.size
  funs:s.heap.FunFrames base outer
  frf:∀ b∈frs outer,H b=none
  hok:HOk P w H s.heap
  bare:AllBare s.gens
def CE (outer:List Env) (P:Program) (w:World) (H:Hp) (s:Shared) (Q:VK) (u:Value) (s':Shared):Prop :=
  ∃ v H',s'.os=s.os∧AllBare s'.gens∧Un (frs outer) [] H H' s.heap s'.heap∧HOk P w H' s'.heap∧RelV v u∧Q v H'
def CR (CX:CXT) (outer:List Env) (P:Program) (w:World) (H:Hp) (s:Shared) (Q:VK) (E:XK) (r:Result) (s':Shared):Prop :=
  match r with
  | .ok (.ret u)=>CE outer P w H s Q u s'
  | .ok _=>False
  | .error e=>CX outer H s E e s'
structure FnOk (P:Program) (w:World) (K:PySem.W.Frag) (mg:Str→Option Value) (base:Heap) (CX:CXT) (k:Nat) (f:Addr) (fd:FuncData) (ps:List Str) (sp:Sp):Prop where
  len:∀ vs H Q E,sp vs H Q E→vs.length=ps.length
  run:∀ (A:Around) (outer:List Env) (s:Shared) (H:Hp) (args:Args) (us:List Value) (vs:List V) (Q:VK) (E:XK),Room k A→Env0 P w K mg base A outer s H→BindsTo s fd args (ps.zip us)→Vals vs us→sp vs H Q E →
    codeAny (model P w) A (.call (.ref f) args) (CR CX outer P w H s Q E) s
theorem FnOk.mono {P:Program}{w:World}{K:PySem.W.Frag}{mg:Str→Option Value}{base:Heap}{CX:CXT}{j k:Nat}{f:Addr}{fd:FuncData}{ps:List Str}{sp:Sp} (F:FnOk P w K mg base CX j f fd ps sp) (h:j≤k) :
    FnOk P w K mg base CX k f fd ps sp:=⟨F.len,fun A outer s H args us vs Q E hr=>F.run A outer s H args us vs Q E (hr.mono h)⟩
theorem Env0.in1 {P:Program}{w:World}{K:PySem.W.Frag}{mg:Str→Option Value}{base:Heap}{A:Around}{outer:List Env}{s:Shared}{H:Hp} (e:Env0 P w K mg base A outer s H) :
    Env0 P w K mg base A.in1 outer s H:=⟨e.frames,e.mod,e.bs,e.bsz,e.funs,e.frf,e.hok,e.bare⟩
section
variable {X:Cx}{pins:List (Addr×Obj)}{σ:St}{H:Hp}{s s':Shared}
theorem Inv.env0 (I:Inv X pins σ H s):Env0 X.prog X.w X.K X.mg X.base X.A X.stack s H :=
  ⟨I.ok.frames,I.ok.mod,I.bs,Nat.le_trans I.ok.bsz I.sz,I.stack,I.stkFree,I.hok,I.bare⟩
theorem Inv.after {Q:VK}{u:Value} (I:Inv X pins σ H s) (h:CE X.stack X.prog X.w H s Q u s'):EP X pins σ Q u s':=by
  obtain ⟨v,H',os,bare,un,hok,r,q⟩:=h
  obtain ⟨hh,g,d,t,os'⟩:=s'
  obtain rfl:os'=s.os:=os
  exact ⟨v,H',I.call (h':=hh) (g':=g) (d':=d) (t':=t) (ch:=[]) un hok bare (fun b z=>absurd z (by simp)),r,q⟩
end
def Binds (K:PySem.W.Frag) (fd:FuncData) (ps:List Str) (ds:List Value):Prop :=
  ∀ (s:Shared) (us:List Value),K.In s.heap→(us ++ ds).length=ps.length→BindsTo s fd ⟨us,[]⟩ (ps.zip (us ++ ds))
theorem Binds.all {K:PySem.W.Frag}{fd:FuncData}{ps:List Str} (h:∀ us:List Value,us.length=ps.length→bindArgs fd ⟨us,[]⟩=pure (ps.zip us)):Binds K fd ps []:=fun s us _ hl=>by
  rw [List.append_nil] at hl ⊢
  exact .of_eq (h us hl)
structure FnScope (N P:List Str) (sc:Scope):Prop where
  kind:sc.kind = .function
  co:sc.isCoroutine=false
  gen:sc.isGenerator=false
  nd:N.Nodup
  pre:N.take P.length=P
  par:∀ x∈P,sc.names.lookup x=some .local∨sc.names.lookup x=some .cell
  nofree:∀ y∈sc.names,y.2≠.free
theorem bindL_out {kindOf:Str→Option NameKind}{x:Str}:∀ {binds:List (Str×Value)}{m:Str→Option Value},(∀ v,(x,v) ∉ binds)→bindL kindOf binds m x=m x
  | [],_,_=>rfl
  | (n,v)::r,m,h=>by
    unfold bindL
    rw [bindL_out fun w hw=>h w (List.mem_cons_of_mem _ hw)]
    split
    · have:x≠n:=by rintro rfl;exact h v List.mem_cons_self
      simp [this]
    · rfl
theorem bindC_out {kindOf:Str→Option NameKind}{x:Str}:∀ {binds:List (Str×Value)}{m:Str→Option Value},(∀ v,(x,v) ∉ binds)→bindC kindOf binds m x=m x
  | [],_,_=>rfl
  | (n,v)::r,m,h=>by
    unfold bindC
    rw [bindC_out fun w hw=>h w (List.mem_cons_of_mem _ hw)]
    split
    · rfl
    · have:x≠n:=by rintro rfl;exact h v List.mem_cons_self
      simp [this]
theorem bindL_get {kindOf:Str→Option NameKind}{x:Str}{v:Value}:∀ {P:List Str}{vs:List Value}{i:Nat}{m:Str→Option Value},P.Nodup→P[i]?=some x→vs[i]?=some v→kindOf x=some .local →
    bindL kindOf (P.zip vs) m x=some v
  | [],_,_,_,_,h,_,_=>by simp at h
  | _::_,[],_,_,_,_,h,_=>by simp at h
  | p::P,w::vs,0,m,nd,h1,h2,hk=>by
    simp at h1 h2;subst h1;subst h2
    show bindL kindOf ((p,w)::P.zip vs) m p=_
    unfold bindL
    rw [bindL_out fun v hv=>(List.nodup_cons.mp nd).1 (List.of_mem_zip hv).1,if_pos hk]
    simp
  | p::P,w::vs,i+1,m,nd,h1,h2,hk=>by
    show bindL kindOf ((p,w)::P.zip vs) m x=_
    unfold bindL
    exact bindL_get (i:=i) (List.nodup_cons.mp nd).2 (by simpa using h1) (by simpa using h2) hk
theorem bindC_get {kindOf:Str→Option NameKind}{x:Str}{v:Value}:∀ {P:List Str}{vs:List Value}{i:Nat}{m:Str→Option Value},P.Nodup→P[i]?=some x→vs[i]?=some v→kindOf x≠some .local →
    bindC kindOf (P.zip vs) m x=some v
  | [],_,_,_,_,h,_,_=>by simp at h
  | _::_,[],_,_,_,_,h,_=>by simp at h
  | p::P,w::vs,0,m,nd,h1,h2,hk=>by
    simp at h1 h2;subst h1;subst h2
    show bindC kindOf ((p,w)::P.zip vs) m p=_
    unfold bindC
    rw [bindC_out fun v hv=>(List.nodup_cons.mp nd).1 (List.of_mem_zip hv).1,if_neg hk]
    simp
  | p::P,w::vs,i+1,m,nd,h1,h2,hk=>by
    show bindC kindOf ((p,w)::P.zip vs) m x=_
    unfold bindC
    exact bindC_get (i:=i) (List.nodup_cons.mp nd).2 (by simpa using h1) (by simpa using h2) hk
def start (N:List Str) (vs:List V):St:=vs.map some ++ List.replicate (N.length - vs.length) none
def cxOf (CX:CXT) (P:Program) (w:World) (K:PySem.W.Frag) (mg:Str→Option Value) (base:Heap) (N:List Str) (qual:Str) (scope:Scope) (f:Addr) (cd:Value) (A:Around) (outer:List Env) (s:Shared) (H:Hp) (E:XK):Cx where
  prog:=P
  w:=w
  K:=K
  mg:=mg
  base:=base
  A:=A.deeper (envOfC qual scope s.heap.objs.size f cd)
  N:=N
  s₀:=s
  H₀:=H
  env:=envOfC qual scope s.heap.objs.size f cd
  outer:=outer
  stack:=envOfC qual scope s.heap.objs.size f cd::outer
  ex:=[]
  calm:=true
  fn:=fun _=>true
  pn:=[]
  xe:=fun e s'=>wpAny (model P w) (A.deeper (envOfC qual scope s.heap.objs.size f cd)) (leaving (envOfC qual scope s.heap.objs.size f cd) e) (fun _ s''=>CX outer H s E e s'') (fun e' s''=>CX outer H s E e' s'') s'
theorem cell_has {sc:Scope}{n:Nat}{x:Str} (h:sc.names.lookup x=some .cell):∃ c,(cellsFrom n sc.names []).lookup x=some c:=by
  have q:=PySem.W.cellsFrom_some sc.names n [] (.inl h)
  exact Option.isSome_iff_exists.mp q
theorem inv_start {CX:CXT}{P:Program}{w:World}{K:PySem.W.Frag}{mg:Str→Option Value}{base:Heap}{N ps:List Str}{qual:Str}{scope:Scope}{f:Addr}{cd:Value}{A:Around}{outer:List Env}{s s1:Shared}{H:Hp}{E:XK}{us:List Value}{vs:List V}
    (S:FnScope N ps scope) (hd:A.handled=none) (e0:Env0 P w K mg base A outer s H) (hl:vs.length=ps.length) (r:Vals vs us)
    (x:InCallC s s.heap.objs.size (bindL (envOfC qual scope s.heap.objs.size f cd).kindOf (ps.zip us) fun _=>none) (cellsFrom (s.heap.objs.size+1) scope.names []) (bindC (envOfC qual scope s.heap.objs.size f cd).kindOf (ps.zip us) fun _=>none) s1) :
    Inv (cxOf CX P w K mg base N qual scope f cd A outer s H E) [] (start N vs) H s1:=by
  have hpl:ps.length≤N.length:=by have:=congrArg List.length S.pre;rw [List.length_take] at this;omega
  obtain ⟨h1,tk,rfl,hk⟩:=x.done
  have noA:∀ b:Addr,b ∉ (cxOf CX P w K mg base N qual scope f cd A outer s H E).ex:=fun b z=>absurd (show b∈([]:List Addr) from z) (by simp)
  refine ⟨⟨e0.mod,S.kind,rfl,rfl,Nat.le_refl _,fun y z c h1 h2=>?_,fun y hy=>?_,fun y c _ h=>?_,fun _=>hd,Around.frames_deeper e0.frames,.inr ⟨rfl,rfl⟩,fun b z=>absurd z (noA b),e0.bs,e0.bsz,fun b _ _=>noA b,fun b z=>absurd z (noA b),e0.funs,e0.frf⟩,
    rfl,e0.bare,Un.kept hk,⟨_,x.toInCall.ns,fun i y v h1 h2 h3=>?_⟩,fun y c h=>⟨_,x.cell y c h⟩,e0.hok.fresh (Nat.le_refl _),fun y c h=>?_,fun p hp=>absurd (show p∈([]:List (Addr×Obj)) from hp) (by simp),e0.hok.kept hk,?_⟩
  · exact name_of_addr x.apart (PySem.mem_of_lookup h1) (PySem.mem_of_lookup h2)
  · have hy:scope.names.lookup y=some .cell∨scope.names.lookup y=some .free:=hy
    rcases hy with hy | hy
    · exact cell_has hy
    · exact absurd rfl (S.nofree _ (PySem.mem_of_lookup hy))
  · exact Nat.le_of_lt (x.above y c (PySem.mem_of_lookup h))
  · have hi:i<vs.length:=by
      unfold start at h2
      by_cases hi:i<vs.length
      · exact hi
      · rw [List.getElem?_append_right (by simpa using hi)] at h2
        rw [List.getElem?_replicate] at h2
        split at h2<;>cases h2
    have ha:vs[i]?=some v:=by
      unfold start at h2
      rw [List.getElem?_append_left (by simpa using hi),List.getElem?_map] at h2
      cases e:vs[i]? with
      | none=>rw [e] at h2;cases h2
      | some a=>rw [e] at h2;cases h2;rfl
    obtain ⟨u,hu,rv⟩:=r.get ha
    have hp:ps[i]?=some y:=by
      rw [← S.pre,List.getElem?_take_of_lt (by omega)];exact h1
    have ndP:ps.Nodup:=by rw [← S.pre];exact S.nd.sublist (List.take_sublist _ _)
    refine ⟨u,rv,?_⟩
    rcases S.par y (List.mem_of_getElem? hp) with k | k
    · exact .inl ⟨k,bindL_get ndP hp hu k⟩
    · obtain ⟨c,e⟩:=cell_has (n:=s.heap.objs.size+1) k
      refine .inr ⟨.inl k,c,e,?_⟩
      have q:=x.cell y c e
      rw [bindC_get ndP hp hu (by show scope.names.lookup y≠_;rw [k];decide)] at q
      exact q
  · exact e0.hok.fresh (Nat.le_of_lt (x.above y c (PySem.mem_of_lookup h)))
  · unfold start
    show _=N.length
    rw [List.length_append,List.length_map,List.length_replicate]
    omega
theorem fn_of {CX:CXT}{P:Program}{w:World}{K:PySem.W.Frag}{mg:Str→Option Value}{base:Heap}{k:Nat}{f:Addr}{name qual:Str}{params:Arguments}{body:List Stmt}{scope:Scope}{dV kV doc pm cdv ct oc:Value}{an od:Option Addr}
    {osl:Array (Option Value)}{N ps:List Str}{sp:Sp} (lk:K.lookup f=some ⟨oc,od,.func (PySem.W.fnOf name qual params body scope dV kV doc pm an cdv ct),osl⟩) (hcd:PySem.W.codeIn K cdv qual=true) (S:FnScope N ps scope)
    (len:∀ vs H Q E,sp vs H Q E→vs.length=ps.length)
    (hbody:∀ (A:Around) (outer:List Env) (s:Shared) (H:Hp) (vs:List V) (Q:VK) (E:XK),Room k (A.deeper (envOfC qual scope s.heap.objs.size f cdv))→sp vs H Q E →
      ∃ t,PSs (cxOf CX P w K mg base N qual scope f cdv A outer s H E) body t∧t { nx:=fun _ H'=>Q .non H',rt:=Q } (start N vs) H) :
    FnOk P w K mg base CX (k+1) f (PySem.W.fnOf name qual params body scope dV kV doc pm an cdv ct) ps sp:=by
  refine ⟨len,fun A outer s H args us vs Q E hr e0 hb r hsp=>?_⟩
  have hl:=len _ _ _ _ hsp
  have KX:K.In s.heap:=e0.mod.kin.keeps fun b o e=>(e0.bs b o e).1
  have lim:s.heap.NoLimit:=e0.mod.nolimit.keeps fun b o e=>(e0.bs b o e).1
  have hkind:∀ y∈ps.zip us,scope.names.lookup y.1=some .local∨(scope.names.lookup y.1=some .cell∧((cellsFrom (s.heap.objs.size+1) scope.names []).lookup y.1).isSome=true):=fun ⟨n,v⟩ hy=>by
    rcases S.par n (List.of_mem_zip hy).1 with q | q
    · exact .inl q
    · exact .inr ⟨q,PySem.W.cellsFrom_some _ _ _ (.inl q)⟩
  refine codeAny_call_function hr.depth (KX _ _ lk) rfl S.co S.gen rfl (PySem.W.codeRec_of KX hcd) (hb _ _ _ _ ?_)
  refine wpAny_newFunctionEnv_cells S.kind hkind fun env he s1 x=>?_
  subst he
  refine ⟨lim.keeps x.toInCall.keep,codeAny_func ?_⟩
  obtain ⟨t,ht,hq⟩:=hbody A outer s H vs Q E (hr.deeper _) hsp
  have I:Inv (cxOf CX P w K mg base N qual scope f cdv A outer s H E) [] (start N vs) H s1:=inv_start S hr.hd e0 hl r x
  refine wpAny_mono (ht [] s1 (start N vs) H _ I hq) (fun fl s' hs=>?_) fun e s' hs=>hs
  have fin:∀ {σ':St}{H':Hp}{v:V}{u:Value},Inv (cxOf CX P w K mg base N qual scope f cdv A outer s H E) [] σ' H' s'→RelV v u→Q v H'→CE outer P w H s Q u s' :=
    fun {σ' H' v u} J rv q=>⟨v,H',J.os,J.bare,J.base,J.hok,rv,q⟩
  cases fl with
  | ret u =>
    obtain ⟨v,σ',H',J,rv,q⟩:=hs
    exact fin J rv q
  | next =>
    obtain ⟨σ',H',J,q⟩:=hs
    exact fin (v:=V.non) (u:=Value.none) J rfl q
  | brk =>
    obtain ⟨_,_,_,q⟩:=hs
    exact False.elim q
  | cont =>
    obtain ⟨_,_,_,q⟩:=hs
    exact False.elim q
end L2
namespace HT
open PySem PyProof.Rows
section
variable {prog:Program}{w:World}{A:Around}{E:Value→Shared→Prop}{s:Shared}
theorem cat_tup {t b:Addr}{vs ws:List Value}{Q:Value→Shared→Prop} (ht:IsTup s.heap t vs.toArray) (hb:IsTup s.heap b ws.toArray) (hv:vs≠[])
    (h1:ws=[]→Q (.ref t) s) (h2:ws≠[]→Q (.ref s.heap.objs.size) { s with heap:=s.heap.push { cls:=.type "tuple",data:=.seq (vs ++ ws).toArray } })
    (hsz:vs.length+ws.length≤sizeLine):wpAny (model prog w) A (binaryOp .Add (.ref t) (.ref b)) Q E s:=by
  obtain ⟨⟨cls,dd,data,sl⟩,ho,hc,n,hd⟩:=id ht
  obtain ⟨⟨cls2,dd2,data2,sl2⟩,ho2,hc2,n2,hd2⟩:=id hb
  simp only at hc hd hc2 hd2
  subst hc hd hc2 hd2
  have e:vs.toArray ++ ws.toArray=(vs ++ ws).toArray:=by simp
  by_cases hw:ws=[]
  · exact concat_meets ⟨_,ho,rfl⟩ ⟨_,ho2,rfl⟩ noFill_tuple_add seq_tuple_add PySem.F.slot_tuple_add PySem.F.entry_tuple_add (PySem.F.args_tuple_add_2 _ _)
      (tuple_addW1 t b vs.toArray ws.toArray n n2 dd dd2 sl sl2 (by simpa using hv) (by simp [hw])) ⟨ho,ho2,h1 hw⟩
  · refine concat_meets ⟨_,ho,rfl⟩ ⟨_,ho2,rfl⟩ noFill_tuple_add seq_tuple_add PySem.F.slot_tuple_add PySem.F.entry_tuple_add (PySem.F.args_tuple_add_2 _ _)
      (tuple_addW2 t b vs.toArray ws.toArray n n2 dd dd2 sl sl2 (by simpa using hv) (by simpa using hw) (by rw [List.size_toArray,List.size_toArray];exact hsz)) ⟨ho,ho2,?_⟩
    rw [e]
    exact h2 hw
def sIx (n d:Nat):Option Int→Nat
  | none=>d
  | some v=>if v<0 then (v+(n:Int)).toNat else min v.toNat n
end
end HT
namespace L2
open PySem PySem.Spec PyProof.Rows
abbrev TO:=St→Hp→(Option Int→Hp→Prop)→Prop
def tPart (t:TE):TO:=fun σ H Q=>t σ H fun x H1=>∃ i,x = .int i∧Q (some i) H1
section
variable {X:Cx}{e:Expr}{te:TE}{lo hi:Option Expr}{tl th:TO}{pos p2:Pos}
def SlR (X:Cx) (r:V→Option Int→Option Int→Hp→VK→Prop):Prop :=
  ∀ (pins:List (Addr×Obj)) (s:Shared) (σ:St) (H:Hp) (x:V) (v vl vu:Value) (lo hi:Option Int) (sl:Addr) (Q:VK),Inv X pins σ H s→RelV x v→s.heap.IsSliceOf sl vl vu .none→IsPart vl lo→IsPart vu hi→r x lo hi H Q →
    ∃ T id,typeLookup (.type T) "__getitem__"=pure (some (.builtin id))∧s.TypeIs v T∧wpAny (model X.prog X.w) X.A (getItem v (.ref sl)) (EP X pins σ Q) X.xe s
def cutV (xs:List V) (lo hi:Option Int):List V:=(xs.drop (HT.sIx xs.length 0 lo)).take (HT.sIx xs.length xs.length hi - HT.sIx xs.length 0 lo)
theorem cutV_length (xs:List V) (lo hi:Option Int):(cutV xs lo hi).length≤xs.length:=by
  unfold cutV
  rw [List.length_take,List.length_drop]
  omega
end
def ixN (n:Nat) (i:Int):Option Nat:=if 0≤i then (if i<n then some i.toNat else none) else if -(n:Int)≤i then some (i+n).toNat else none
def atI {α:Type} (xs:List α) (i:Int):Option α:=(ixN xs.length i).bind fun j=>xs[j]?
theorem ixN_seq {n:Nat}{i:Int}{j:Nat} (h:ixN n i=some j):seqIndex? i n=some j∧j<n∧-(n:Int)≤i∧i<n:=by
  unfold ixN at h
  by_cases h0:0≤i
  · rw [if_pos h0] at h
    by_cases h1:i<n
    · rw [if_pos h1] at h
      have e:i.toNat=j:=Option.some.inj h
      exact ⟨by rw [seqIndex_of h0 h1,e],by omega,by omega,h1⟩
    · rw [if_neg h1] at h;cases h
  · rw [if_neg h0] at h
    by_cases h1 : -(n:Int)≤i
    · rw [if_pos h1] at h
      have e:(i+n).toNat=j:=Option.some.inj h
      exact ⟨by rw [seqIndex_neg (by omega) h1,e],by omega,h1,by omega⟩
    · rw [if_neg h1] at h;cases h
theorem atI_get {α:Type}{xs:List α}{i:Int}{v:α} (h:atI xs i=some v):∃ j,seqIndex? i xs.length=some j∧xs[j]?=some v∧j<xs.length∧-(xs.length:Int)≤i∧i<xs.length:=by
  unfold atI at h
  cases e:ixN xs.length i with
  | none=>rw [e] at h;cases h
  | some j =>
    rw [e] at h
    obtain ⟨h1,h2,h3,h4⟩:=ixN_seq e
    exact ⟨j,h1,h,h2,h3,h4⟩
def PlainIx (b:Expr):Prop:=∀ o i,subscripted b false o i=operate [o,i] (getItem o i)
def IxR (X:Cx) (r:R2):Prop :=
  ∀ (value slice:Expr) (pins:List (Addr×Obj)) (s:Shared) (σ:St) (H:Hp) (x y:V) (v u:Value) (Q:VK),Inv X pins σ H s→RelV x v→RelV y u→r x y H Q →
    subscripted slice false v u=operate [v,u] (getItem v u)→wpAny (model X.prog X.w) X.A (subscriptTail value slice v u) (EP X pins σ Q) X.xe s
section
variable {X:Cx}{a b:Expr}{ta tb:TE}{pos:Pos}
def rIxL (K:PySem.W.Frag):R2:=fun x y H Q=>∃ p xs i v,x = .ref p∧y = .int i∧SqL K H p xs∧atI xs i=some v∧Q v H
def rIxT (K:PySem.W.Frag):R2:=fun x y H Q=>∃ p xs i v,x = .ref p∧y = .int i∧SqT K H p xs∧atI xs i=some v∧Q v H
def rIxS:R2:=fun x y H Q=>∃ z i c,x = .str z∧y = .int i∧z.length≤sizeLine∧atI z.cps.toList i=some c∧Q (.str ⟨#[c]⟩) H
theorem ix_list:IxR X (rIxL X.K):=by
  intro value slice pins s σ H x y v u Q I rx ry h hs
  obtain ⟨p,xs,i,z,rfl,rfl,hq,he,q⟩:=h
  cases rx
  obtain ⟨t,rfl⟩:=ry
  obtain ⟨its,r,pl,hz⟩:=I.list hq
  obtain ⟨j,h1,h2,h3,h4,h5⟩:=atI_get he
  obtain ⟨w,ew,rw'⟩:=r.get h2
  have hl:=r.length
  have hn:=line63
  have fin:EP X pins σ Q w s:=⟨z,H,I,rw',q⟩
  by_cases h0:0≤i
  · have hj:i.toNat=j:=by
      rw [seqIndex_of h0 h5] at h1
      exact Option.some.inj h1
    exact item_listR pl.isList h0 (by omega) (by rw [hj];simpa using ew) fin hs
  · have hj:(i+(its.toArray.size:Int)).toNat=j:=by
      rw [seqIndex_neg (by omega) h4] at h1
      rw [List.size_toArray,← hl]
      exact Option.some.inj h1
    exact subscriptTail_builtinR (x:=w) pl.isList.typeIs slot_list_getitem.lookup
      (wpAny_getItem_list_neg (Q:=fun r s'=>r=w∧EP X pins σ Q r s') pl.isList (by omega) (by rw [List.size_toArray]<;>omega) (by omega) (by rw [hj];simpa using ew) ⟨rfl,fin⟩) hs
theorem ix_tup:IxR X (rIxT X.K):=by
  intro value slice pins s σ H x y v u Q I rx ry h hs
  obtain ⟨p,xs,i,z,rfl,rfl,hq,he,q⟩:=h
  cases rx
  obtain ⟨t,rfl⟩:=ry
  obtain ⟨its,r,pl,hz⟩:=I.tuple hq
  obtain ⟨j,h1,h2,h3,h4,h5⟩:=atI_get he
  obtain ⟨w,ew,rw'⟩:=r.get h2
  have hl:=r.length
  have hn:=line63
  have fin:EP X pins σ Q w s:=⟨z,H,I,rw',q⟩
  exact subscriptTail_builtinR (x:=w) pl.typeIs slot_tuple_getitem.lookup
    (getItem_tuple (j:=j) (Q:=fun r s'=>r=w∧EP X pins σ Q r s') pl (by omega) (by omega) (by rw [List.size_toArray,← hl];exact h1) (by simpa using ew) ⟨rfl,fin⟩) hs
theorem ix_str:IxR X rIxS:=by
  intro value slice pins s σ H x y v u Q I rx ry h hs
  obtain ⟨z,i,c,rfl,rfl,hz,he,q⟩:=h
  obtain ⟨t,rfl⟩:=rx
  obtain ⟨t',rfl⟩:=ry
  obtain ⟨j,h1,h2,h3,h4,h5⟩:=atI_get he
  have hl:z.cps.toList.length=z.length:=by simp [Str.length]
  rw [hl] at h1 h4 h5
  have hn:=line63
  exact tail_any (typeIs_str s z t) slot_str_getitem.lookup (getItem_str (c:=c) (by
    have e1:decide (i < -(2 ^ 63:Int))=false:=decide_eq_false (by omega)
    have e2:decide (i ≥ 2 ^ 63)=false:=decide_eq_false (by omega)
    rw [e1,e2,Bool.or_false]) (by rw [h1];simpa using h2) ⟨.str ⟨#[c]⟩,H,I.tok _,⟨_,rfl⟩,q⟩) hs
theorem Inv.lst {pins:List (Addr×Obj)}{σ:St}{H:Hp}{s:Shared}{p:Addr}{xs:List V} (I:Inv X pins σ H s) (h:H p=some (.lst xs)) :
    ∃ (its:List Value) (n:Nat),Vals xs its∧s.heap.get? p=some { cls:=.type "list",data:=.seq its.toArray n }∧xs.length≤sizeLine:=by
  obtain ⟨z,its,n,r,e⟩:=I.hok p _ h
  exact ⟨its,n,r,e,z⟩
theorem slice_bounds (lo hi:Option Int) (n:Nat):(sliceBounds lo hi none n).1=((HT.sIx n 0 lo:Nat):Int)∧(sliceBounds lo hi none n).2.1=((HT.sIx n n hi:Nat):Int)∧(sliceBounds lo hi none n).2.2=1:=by
  refine ⟨?_,?_,rfl⟩
  · cases lo with
    | none=>simp [sliceBounds,HT.sIx]
    | some i =>
      simp only [sliceBounds,HT.sIx,Option.getD_none,show (1:Int) > 0 by decide,if_true]
      by_cases h:i<0
      · simp only [h,if_true]<;>omega
      · simp only [h,if_false]<;>omega
  · cases hi with
    | none=>simp [sliceBounds,HT.sIx]
    | some i =>
      simp only [sliceBounds,HT.sIx,Option.getD_none,show (1:Int) > 0 by decide,if_true]
      by_cases h:i<0
      · simp only [h,if_true]<;>omega
      · simp only [h,if_false]<;>omega
theorem slicePick_cut (its:List Value) (lo hi:Option Int):slicePick its.toArray lo hi none=((its.drop (HT.sIx its.length 0 lo)).take (HT.sIx its.length its.length hi - HT.sIx its.length 0 lo)).toArray:=by
  obtain ⟨h1,h2,h3⟩:=slice_bounds lo hi its.toArray.size
  unfold slicePick
  rw [h1,h2,h3]
  simp only [sliceRange_one,pick_run,List.size_toArray]<;>rfl
def rSlL (K:PySem.W.Frag):V→Option Int→Option Int→Hp→VK→Prop:=fun x lo hi H Q=>∃ a xs,x = .ref a∧SqL K H a xs∧∀ p,H p=none→Q (.ref p) (upd H p (.lst (cutV xs lo hi)))
theorem sl_list:SlR X (rSlL X.K):=by
  intro pins s σ H x v vl vu lo hi sl Q I rx hs pl pu h
  obtain ⟨a,xs,rfl,hx,q⟩:=h
  cases rx
  obtain ⟨its,r,ht,hz⟩:=I.list hx
  have hlen:=r.length
  refine ⟨"list",_,slot_list_getitem.lookup,ht.isList.typeIs,?_⟩
  refine wpAny_getItem_list_slice ht.isList hs pl pu .none (by simp) ?_ (by rw [List.size_toArray]<;>omega)
  rw [slicePick_cut,← hlen]
  refine ⟨.ref s.heap.objs.size,_,I.laid (t':=s.toks) (o:=.lst (cutV xs lo hi)) (fun b ob q=>Heap.get?_push_of_some _ q) (Nat.le_refl _) ?_,rfl,q _ (I.hok.fresh (Nat.le_refl _))⟩
  exact ⟨Nat.le_trans (cutV_length xs lo hi) hz,_,0,(r.drop (HT.sIx xs.length 0 lo)).take (HT.sIx xs.length xs.length hi - HT.sIx xs.length 0 lo),Heap.get?_push_size _ rfl⟩
def flatV:V→Bool
  | .non=>true
  | .bl _=>true
  | .int _=>true
  | .str _=>true
  | _=>false
def eqV:V→V→Bool
  | .non,.non=>true
  | .bl a,.bl b=>a == b
  | .bl a,.int b=>(if a then 1 else 0) == b
  | .int a,.bl b=>a == (if b then 1 else 0)
  | .int a,.int b=>a == b
  | .str a,.str b=>a == b
  | _,_=>false
theorem eqAt_V {A:Around}{s:Shared}{y x:V}{u v:Value} (ry:RelV y u) (rx:RelV x v) (fy:flatV y=true) (fx:flatV x=true):SeqAt.EqAt A s u v (eqV y x):=by
  cases y with
  | non =>
    cases ry
    cases x with
    | non=>cases rx;exact SeqAt.EqAt.same _
    | bl b=>cases rx;exact SeqAt.EqAt.none_bool b
    | int b=>obtain ⟨t,rfl⟩:=rx;exact SeqAt.EqAt.none_int b t
    | str b=>obtain ⟨t,rfl⟩:=rx;exact SeqAt.EqAt.none_str b t
    | _=>exact absurd (show false=true from fx) Bool.false_ne_true
  | bl a =>
    cases ry
    cases x with
    | non=>cases rx;exact SeqAt.EqAt.bool_none a
    | bl b=>cases rx;exact SeqAt.EqAt.bool_bool a b
    | int b=>obtain ⟨t,rfl⟩:=rx;exact SeqAt.EqAt.bool_int a b t
    | str b=>obtain ⟨t,rfl⟩:=rx;exact SeqAt.EqAt.bool_str a b t
    | _=>exact absurd (show false=true from fx) Bool.false_ne_true
  | int a =>
    obtain ⟨t',rfl⟩:=ry
    cases x with
    | non=>cases rx;exact SeqAt.EqAt.int_none a t'
    | bl b=>cases rx;exact SeqAt.EqAt.int_bool a t' b
    | int b=>obtain ⟨t,rfl⟩:=rx;exact SeqAt.EqAt.int_int a t' b t
    | str b=>obtain ⟨t,rfl⟩:=rx;exact SeqAt.EqAt.int_str a t' b t
    | _=>exact absurd (show false=true from fx) Bool.false_ne_true
  | str a =>
    obtain ⟨t',rfl⟩:=ry
    cases x with
    | non=>cases rx;exact SeqAt.EqAt.str_none a t'
    | bl b=>cases rx;exact SeqAt.EqAt.str_bool a t' b
    | int b=>obtain ⟨t,rfl⟩:=rx;exact SeqAt.EqAt.str_int a t' b t
    | str b=>obtain ⟨t,rfl⟩:=rx;exact SeqAt.EqAt.str_str a t' b t
    | _=>exact absurd (show false=true from fx) Bool.false_ne_true
  | _=>exact absurd (show false=true from fy) Bool.false_ne_true
def eqU (x:V) (u:Value):Bool:=match u with
  | .none=>eqV .non x
  | .bool b=>eqV (.bl b) x
  | .int i _=>eqV (.int i) x
  | .str z _=>eqV (.str z) x
  | _=>false
theorem eqU_of {x y:V}{u:Value} (r:RelV y u) (f:flatV y=true):eqU x u=eqV y x:=by
  cases y with
  | non=>cases r;rfl
  | bl b=>cases r;rfl
  | int i=>obtain ⟨t,rfl⟩:=r;rfl
  | str z=>obtain ⟨t,rfl⟩:=r;rfl
  | _=>exact absurd (show false=true from f) Bool.false_ne_true
theorem any_eqU {x:V}:∀ {xs:List V}{us:List Value},Vals xs us→xs.all flatV=true→us.any (eqU x)=xs.any fun y=>eqV y x
  | _,_,.nil,_=>rfl
  | y::xs,u::us,.cons r t,f=>by
    rw [List.all_cons,Bool.and_eq_true] at f
    rw [List.any_cons,List.any_cons,eqU_of r f.1,any_eqU t f.2]
theorem mem_eqAt {A:Around}{s:Shared}{x:V}{v:Value} (rx:RelV x v) (fx:flatV x=true):∀ {xs:List V}{us:List Value},Vals xs us→xs.all flatV=true→∀ u∈us,SeqAt.EqAt A s u v (eqU x u)
  | _,_,.nil,_=>fun u hu=>by cases hu
  | y::xs,u::us,.cons r t,f=>fun u' hu=>by
    rw [List.all_cons,Bool.and_eq_true] at f
    rcases List.mem_cons.mp hu with rfl | hu
    · rw [eqU_of r f.1];exact eqAt_V r rx f.1 fx
    · exact mem_eqAt rx fx t f.2 u' hu
def inV (x:V) (xs:List V):Bool:=xs.any fun y=>eqV y x
def rIn (K:PySem.W.Frag) (neg:Bool):R2:=fun x y H Q=>∃ p xs,y = .ref p∧(SqL K H p xs∨SqT K H p xs)∧flatV x=true∧xs.all flatV=true∧Q (.bl (if neg then !inV x xs else inV x xs)) H
theorem op_in_seq:OpR X (compareOp .In) (rIn X.K false):=by
  intro pins s σ H x y v u Q I rx ry h
  obtain ⟨p,xs,rfl,hq,fx,fs,q⟩:=h
  cases ry
  rcases hq with hq | hq
  · obtain ⟨its,r,pl,hz⟩:=I.list hq
    refine SeqAt.in_listAt (eqU x) pl.isList (fun w hw=>mem_eqAt rx fx r fs w (by simpa using hw)) ⟨.bl _,H,I,rfl,?_⟩
    rw [show its.toArray.any (eqU x)=its.any (eqU x) by simp,any_eqU r fs]
    exact q
  · obtain ⟨its,r,pl,hz⟩:=I.tuple hq
    refine SeqAt.in_tupleAt (eqU x) pl (fun w hw=>mem_eqAt rx fx r fs w (by simpa using hw)) ⟨.bl _,H,I,rfl,?_⟩
    rw [show its.toArray.any (eqU x)=its.any (eqU x) by simp,any_eqU r fs]
    exact q
theorem op_notIn_seq:OpR X (compareOp .NotIn) (rIn X.K true):=by
  intro pins s σ H x y v u Q I rx ry h
  obtain ⟨p,xs,rfl,hq,fx,fs,q⟩:=h
  cases ry
  rcases hq with hq | hq
  · obtain ⟨its,r,pl,hz⟩:=I.list hq
    refine SeqAt.notIn_listAt (eqU x) pl.isList (fun w hw=>mem_eqAt rx fx r fs w (by simpa using hw)) ⟨.bl _,H,I,rfl,?_⟩
    rw [show its.toArray.any (eqU x)=its.any (eqU x) by simp,any_eqU r fs]
    exact q
  · obtain ⟨its,r,pl,hz⟩:=I.tuple hq
    refine SeqAt.notIn_tupleAt (eqU x) pl (fun w hw=>mem_eqAt rx fx r fs w (by simpa using hw)) ⟨.bl _,H,I,rfl,?_⟩
    rw [show its.toArray.any (eqU x)=its.any (eqU x) by simp,any_eqU r fs]
    exact q
theorem op_notIn_str:OpR X (compareOp .NotIn) (fun x y H Q=>∃ i j,x = .str i∧y = .str j∧Q (.bl (!(!(Builtin.Str.occurrences j i 0 j.length 1).isEmpty))) H):=by
  intro pins s σ H x y v u Q I rx ry h
  obtain ⟨i,j,rfl,rfl,q⟩:=h
  obtain ⟨t,rfl⟩:=rx
  obtain ⟨t',rfl⟩:=ry
  exact notIn_str ⟨.bl _,H,I,rfl,q⟩
theorem call_len_seq:CallR X (.builtin "len") (fun xs H Q=>∃ p ys,xs=[.ref p]∧(SqL X.K H p ys∨SqT X.K H p ys)∧Q (.int ys.length) H):=by
  intro pins s σ H xs us Q I r h
  obtain ⟨p,ys,rfl,hq,q⟩:=h
  obtain ⟨u,rfl,rx⟩:=vals1 r
  cases rx
  have hn:=line63
  rcases hq with hq | hq
  · obtain ⟨its,r',pl,hz⟩:=I.list hq
    have hlen:=r'.length
    exact Calls.call_len_list pl.isList (by simp only [List.size_toArray]<;>omega) ⟨.int ys.length,H,I.tok _,⟨s.toks+1,by rw [List.size_toArray,hlen]⟩,q⟩
  · obtain ⟨its,r',pl,hz⟩:=I.tuple hq
    have hlen:=r'.length
    exact len_tuple pl (by simp only [List.size_toArray]<;>omega) ⟨.int ys.length,H,I.tok _,⟨s.toks+1,by rw [List.size_toArray,hlen]⟩,q⟩
theorem call_len_str:CallR X (.builtin "len") (fun xs H Q=>∃ z,xs=[.str z]∧z.length≤sizeLine∧Q (.int z.length) H):=by
  intro pins s σ H xs us Q I r h
  obtain ⟨z,rfl,hz,q⟩:=h
  obtain ⟨u,rfl,t,rfl⟩:=vals1 r
  have hn:=line63
  exact len_str (by omega) ⟨.int z.length,H,I.tok _,⟨_,rfl⟩,q⟩
variable {o e:Expr}{es:List Expr}{to:TE}{t:TA}{name:Str}{apos cpos:Pos}{T id:String}{r:V→List V→Hp→VK→Prop}
end
def MtM (X:Cx) (id:String) (r:V→List V→Hp→VK→Prop):Prop :=
  ∀ (pins:List (Addr×Obj)) (s:Shared) (σ:St) (H:Hp) (x:V) (xs:List V) (v:Value) (us:List Value) (Q:VK),Inv X pins σ H s→RelV x v→Vals xs us→r x xs H Q →
    wpAny (model X.prog X.w) X.A (call (.builtin id) (v::us)) (EP X pins σ Q) X.xe s
theorem Vals.one:∀ {x:V}{us:List Value},Vals [x] us→∃ u,us=[u]∧RelV x u
  | _,_,.cons r .nil=>⟨_,rfl,r⟩
theorem Vals.two:∀ {x y:V}{us:List Value},Vals [x,y] us→∃ u v,us=[u,v]∧RelV x u∧RelV y v
  | _,_,_,.cons r (.cons q .nil)=>⟨_,_,rfl,r,q⟩
theorem Vals.zero:∀ {us:List Value},Vals [] us→us=[]
  | _,.nil=>rfl
theorem Vals.dropLast {xs:List V}{us:List Value} (h:Vals xs us):Vals xs.dropLast us.dropLast:=by
  induction h with
  | nil=>exact .nil
  | cons r t ih =>
    cases t with
    | nil=>exact .nil
    | cons q t'=>exact .cons r ih
theorem Vals.reverse {xs:List V}{us:List Value} (h:Vals xs us):Vals xs.reverse us.reverse:=by
  induction h with
  | nil=>exact .nil
  | cons r t ih=>rw [List.reverse_cons,List.reverse_cons];exact Vals.append ih (.cons r .nil)
section
variable {X:Cx}{pins:List (Addr×Obj)}{σ:St}{H:Hp}{s:Shared}{l b:Addr}{xs ys zs:List V}
theorem Inv.lset {its its':List Value}{n:Nat}{f:Array Value→Array Value}{t':Nat} (I:Inv X pins σ H s) (hH:H l=some (.lst xs))
    (e:s.heap.get? l=some { cls:=.type "list",data:=.seq its.toArray n }) (hf:f its.toArray=its'.toArray) (hv:Vals ys its') (hz:ys.length≤sizeLine) :
    Inv X pins σ (upd H l (.lst ys)) { s with heap:=s.heap.update l (Obj.mapSeq f),toks:=t' }:=by
  have q:=PySem.IsL.update e f
  rw [hf] at q
  refine I.write (x:=l) (e:=l) (by rw [hH];exact trivial) (.inl rfl) (fun b' u hb hu=>(Heap.get?_update_other s.heap (Obj.mapSeq f) (Ne.symm hb)).trans hu) ⟨_,q⟩ ?_
  exact ⟨hz,its',_,hv,q⟩
theorem Inv.lnew {its:List Value}{t':Nat} (I:Inv X pins σ H s) (hv:Vals ys its) (hz:ys.length≤sizeLine) :
    Inv X pins σ (upd H s.heap.objs.size (.lst ys)) { s with heap:=s.heap.push { cls:=.type "list",data:=.seq its.toArray },toks:=t' } :=
  I.laid (fun _ _ q=>Heap.get?_push_of_some _ q) (Nat.le_refl _) ⟨hz,its,0,hv,Heap.get?_push_size _ rfl⟩
theorem Inv.fresh (I:Inv X pins σ H s):H s.heap.objs.size=none:=I.hok.fresh (Nat.le_refl _)
theorem Inv.lstM (I:Inv X pins σ H s) (hH:H l=some (.lst xs)):xs.length≤sizeLine∧∃ (its:List Value) (n:Nat),Vals xs its∧xs.length=its.length∧s.heap.get? l=some { cls:=.type "list",data:=.seq its.toArray n }:=by
  obtain ⟨z,its,n,r,e⟩:=I.hok l _ hH
  exact ⟨z,its,n,r,r.length,e⟩
end
section
variable {X:Cx}
def rAppend:V→List V→Hp→VK→Prop:=fun x vs H Q=>∃ l xs y,x = .ref l∧vs=[y]∧H l=some (.lst xs)∧xs.length<sizeLine∧Q .non (upd H l (.lst (xs ++ [y])))
theorem mt_append:MtM X "list.append" rAppend:=by
  intro pins s σ H x vs v us Q I rx rv h
  obtain ⟨l,xs,y,rfl,rfl,hH,hz,q⟩:=h
  cases rx
  obtain ⟨u,rfl,ru⟩:=rv.one
  obtain ⟨z,its,n,r,hl,e⟩:=I.lstM hH
  refine call_meets F.slot_list_append ⟨_,e,rfl⟩ F.entry_list_append (F.args_list_append_2 _ _) (PySem.list_append l its.toArray n u (by rw [List.size_toArray];omega)) ⟨e,?_⟩
  refine ⟨.non,_,I.lset (its':=its ++ [u]) hH e (by simp) (r.append (.cons ru .nil)) ?_,rfl,q⟩
  rw [List.length_append,List.length_singleton]
  omega
end
end L2
namespace Att
open PySem PySem.W PySem.Calls PyProof.Rows
theorem ints_of_wellAll {P:Params}{h:Heap}:∀ (ns:List Int) (vs:List Value),WellAll P h vs (ns.map WData.int)→IntsAre vs ns:=by
  intro ns
  induction ns with
  | nil =>
    intro vs w
    rw [List.map_nil] at w
    cases w
    exact .nil
  | cons n ns ih =>
    intro vs w
    rw [List.map_cons] at w
    cases w with
    | cons a b =>
      cases a
      exact .cons _ _ (ih _ b)
theorem script_of {l:OpenLaw}{n:Nat} (hn:l.most=some n) {P:Params}{h:Heap}{args:List WData}{vals:List Value}
    (hpre:l.row.toRowW.claim.pre args=true) (hwl:WellAll P h vals args) :
    ∃ a vs ns,vals=[Value.ref a]∧args=[WData.list (ns.map WData.int)]∧h.get? a=some { cls:=.type "list",data:=.seq vs.toArray }∧IntsAre vs ns∧ns.length≤n:=by
  have hsh:WShape.hasAll [] args [.list .int]=true:=(pre_splitW hpre).1
  have hc:l.pre.holds [] { args:=args }=true:=(pre_splitW hpre).2
  obtain ⟨d,r,rfl,h1,h2⟩:=hasAllW_cons hsh
  obtain rfl:=hasAllW_nil h2
  obtain ⟨xs,rfl,h3⟩:=hasW_list h1
  obtain ⟨ns,rfl⟩:=items_int h3
  have hlen:ns.length≤n:=by
    unfold OpenLaw.pre at hc
    have h4:(WTm.not (.lt (.lit (.int (n:Int))) (.len (.arg 0)))).holds [] { args:=[.list (ns.map .int)] }=true:=by
      have h4:=(holds_andW hc).1
      rw [hn] at h4
      exact h4
    have h5:=condW_of h4 (w_not (w_lt w_lit (w_len_list (w_arg rfl))))
    rw [List.length_map] at h5
    refine Nat.le_of_not_lt fun q=>?_
    have q':(n:Int)<((ns.length:Nat):Int):=by omega
    first
      | (rw [decide_eq_true q'] at h5;exact absurd h5 (by decide))
      | (simp at h5;omega)
  cases hwl with
  | cons w1 w2 =>
    cases w2
    cases w1 with
    | list ho hall=>exact ⟨_,_,ns,rfl,rfl,ho,ints_of_wellAll ns _ hall,hlen⟩
theorem post_true (l:OpenLaw) (args:List WData):l.row.toRowW.claim.post args (.bool true) args=true :=
  postW_of (r:=l.row.toRowW) (X:=(true == true))
    (show WShape.has [] (.bool true) .bool=true by first | rfl | decide | simp [WShape.has,WShape.arms,WShape.armsAll])
    (show (WTm.eq .res (.lit (.bool true))).value [] { args:=args,res:=some (.bool true),after:=args }=some (.bool (true == true)) from w_eq_bool (w_res rfl) w_lit) rfl
end Att
namespace L2
open PySem PySem.Spec PyProof.Rows
theorem vals_ints:∀ {vs:List Value}{ns:List Int},IntsAre vs ns→Vals (ns.map V.int) vs
  | _,_,.nil=>.nil
  | _,_,.cons n t h=>.cons ⟨t,rfl⟩ (vals_ints h)
def Only (H:Hp):Prop:=∀ b,H b=none∨∃ o xs,H b=some (.frz o (.lst xs))
theorem law_call {P:Program}{w:World}{K:PySem.W.Frag}{mg mb:Str→Option Value}{CX:CXT}{k:Nat}{fa a:Addr}{fd:FuncData}{x:Str}{sp:Sp}{s₁:Shared}{vs:List Value}{ns:List Int}
    (KX:K.In s₁.heap) (hns:s₁.heap.Ns mainGlobals mg) (hb:s₁.heap.Ns builtinsNs mb) (hbb:∀ x:Str,x≠"__name__"→mb x=bootBuiltins x) (hlim:s₁.heap.NoLimit) (hg:s₁.gens=#[])
    (ha:s₁.heap.get? a=some { cls:=.type "list",data:=.seq vs.toArray }) (hi:IntsAre vs ns) (hl:ns.length≤sizeLine) (hr:Room k callerA)
    (F:∀ base:Heap,K.In base→base.Ns mainGlobals mg→FnOk P w K mg base CX k fa fd [x] sp) (hbind:∀ (s:Shared) (u:Value),BindsTo s fd ⟨[u],[]⟩ [(x,u)])
    (hsp:∀ H:Hp,Only H→SqL K H a (ns.map V.int)→sp [.ref a] H (fun v _=>v = .bl true) fun _ _ _=>False)
    (hCX:∀ H e s',CX [] H s₁ (fun _ _ _=>False) e s'→False) :
    codeAny (model P w) callerA (.call (.ref fa) ⟨[.ref a],[]⟩) (fun r s'=>r = .ok (.ret (.bool true))∧OldK s₁.heap s'.heap∧s'.os=s₁.os∧AllBare s'.gens) s₁:=by
  have rv:=vals_ints hi
  have lenV:=hi.length
  have core:∀ H:Hp,Only H→SqL K H a (ns.map V.int)→HOk P w H s₁.heap→(∀ b,H b≠none→b=a)→(H a≠none→K.lookup a=none) →
      codeAny (model P w) callerA (.call (.ref fa) ⟨[.ref a],[]⟩) (fun r s'=>r = .ok (.ret (.bool true))∧OldK s₁.heap s'.heap∧s'.os=s₁.os∧AllBare s'.gens) s₁:=by
    intro H hO hS hok hA hK
    have base_of:∀ {b:Addr}{o:Obj},s₁.heap.get? b=some o→H b=none→(hidT s₁.heap H).get? b=some o:=fun e n=>hidT_get e n
    have noA:∀ {b:Addr}{o:Obj}{es:Array DictEntry}{ep:Nat},s₁.heap.get? b=some o→o.data = .dict es ep→H b=none:=fun {b o es ep} e d=>by
      cases q:H b with
      | none=>rfl
      | some u =>
        have e':b=a:=hA b (by rw [q];simp)
        subst e'
        rw [ha] at e;cases e
        have d':Data.seq vs.toArray _=Data.dict es ep:=d
        cases d'
    have nsK:∀ {b:Addr}{m:Str→Option Value},s₁.heap.Ns b m→(hidT s₁.heap H).Ns b m:=fun {b m} ⟨o,es,ep,e,d,r⟩=>⟨o,es,ep,base_of e (noA e d),d,r⟩
    have hKb:K.In (hidT s₁.heap H):=fun b o e=>base_of (KX b o e) (by
      cases q:H b with
      | none=>rfl
      | some u =>
        have e':b=a:=hA b (by rw [q];simp)
        subst e'
        rw [hK (by rw [q];simp)] at e;cases e)
    have hM:Mod K mg (hidT s₁.heap H):=⟨hKb,nsK hns,⟨mb,nsK hb,hbb⟩,let ⟨mc,h1,h2⟩:=hlim;⟨mc,nsK h1,h2⟩⟩
    have e0:Env0 P w K mg (hidT s₁.heap H) callerA [] s₁ H:=⟨rfl,hM,fun b o e=>of_hidT e,Nat.le_of_eq (hidT_size _ _),trivial,fun b hb=>absurd (show b∈([]:List Addr) from hb) (by simp),hok,.of_eq hg⟩
    refine codeAny_mono ((F _ hKb (nsK hns)).run callerA [] s₁ H ⟨[.ref a],[]⟩ [.ref a] [.ref a] _ _ hr e0 (hbind s₁ (.ref a)) (.cons rfl .nil) (hsp H hO hS)) fun r s' h=>?_
    cases r with
    | error e=>exact (hCX H e s' h).elim
    | ok fl =>
      cases fl with
      | next=>exact False.elim h
      | brk=>exact False.elim h
      | cont=>exact False.elim h
      | ret u =>
        obtain ⟨v,H',os,bare,un,hok',r',q⟩:=h
        have q':v = .bl true:=q
        subst q'
        obtain rfl:u=Value.bool true:=r'
        refine ⟨rfl,OldK.of_keep fun b o e=>?_,os,bare⟩
        cases q:H b with
        | none=>exact un.keep b o e q (by intro z;exact absurd (show b∈([]:List Addr) from z) (by simp)) (by simp)
        | some u =>
          rcases hO b with z | ⟨ob,xs,z⟩
          · rw [q] at z;cases z
          · have z2:=un.frzs b ob _ z
            obtain ⟨e1,_⟩:=hok b _ z
            obtain ⟨e2,_⟩:=hok' b _ z2
            rw [e] at e1;cases e1
            exact e2
  cases hk:K.lookup a with
  | some o =>
    have e:=KX a o hk
    rw [ha] at e
    cases e
    refine core (fun _=>none) (fun _=>.inl rfl) (.inr ⟨_,vs.toArray,_,hk,rfl,rfl,rfl,by rw [List.size_toArray,lenV];exact hl,by simpa using rv⟩) (fun b u z=>by have z':(none:Option HO)=some u:=z;cases z') (fun b z=>absurd rfl z) fun z=>absurd rfl z
  | none =>
    refine core (fun b=>if b=a then some (.frz { cls:=.type "list",data:=.seq vs.toArray } (.lst (ns.map V.int))) else none) (fun b=>?_) (.inl (.inr ⟨{ cls:=.type "list",data:=.seq vs.toArray },if_pos rfl⟩)) (fun b u z=>?_) (fun b z=>?_) fun _=>hk
    · by_cases hb:b=a
      · exact .inr ⟨_,_,if_pos hb⟩
      · exact .inl (if_neg hb)
    · by_cases hb:b=a
      · have z':=(if_pos hb).symm.trans z
        cases z'
        subst hb
        exact ⟨ha,by rw [List.length_map];exact hl,vs,_,rv,ha⟩
      · have z':=(if_neg hb).symm.trans z
        cases z'
    · by_cases hb:b=a
      · exact hb
      · exact absurd (if_neg hb) z
def inClass (s:Stmt) (j:Nat):Stmt:=match s with
  | .ClassDef _ _ _ body _ _ _ _ _ _ _=>body.getD j (.Pass ⟨0,0,0,0⟩)
  | _=>.Pass ⟨0,0,0,0⟩
def defArgs (s:Stmt):Arguments:=match s with
  | .FunctionDef _ a _ _ _ _ _ _ _ _=>a
  | _=>{ posonlyargs:=[],args:=[],vararg:=none,kwonlyargs:=[],kw_defaults:=[],kwarg:=none,defaults:=[] }
def defBody (s:Stmt):List Stmt:=match s with
  | .FunctionDef _ _ b _ _ _ _ _ _ _=>b
  | _=>[]
def defScope (s:Stmt):Scope:=match s with
  | .FunctionDef _ _ _ _ _ _ sc _ _ _=>sc
  | _=>{ kind:=.function,names:=[],isGenerator:=false,isCoroutine:=false }
abbrev CX0:CXT:=fun _ _ _ _ _ _=>False
structure Fun (K:PySem.W.Frag) (x qual:Str) (st:Stmt) (f:Addr) (fd:FuncData):Prop where
  ex:∃ (oc:Value) (od:Option Addr) (kV doc pm:Value) (an:Option Addr) (cdv ct:Value) (osl:Array (Option Value)),
    fd=PySem.W.fnOf x qual (defArgs st) (defBody st) (defScope st) .none kV doc pm an cdv ct∧K.lookup f=some ⟨oc,od,.func fd,osl⟩∧PySem.W.codeIn K cdv qual=true
  kp:PySem.W.keepIn K (.ref f)=true
section
variable {P:Program}{w:World}{K:PySem.W.Frag}{mg:Str→Option Value}{base:Heap}
theorem Fun.ok {x qual:Str}{st:Stmt}{f:Addr}{fd:FuncData}{N ps:List Str}{k:Nat}{sp:Sp} (F:Fun K x qual st f fd) (S:FnScope N ps (defScope st)) (len:∀ vs H Q E,sp vs H Q E→vs.length=ps.length)
    (hbody:∀ (cdv:Value) (A:Around) (outer:List Env) (s:Shared) (H:Hp) (vs:List V) (Q:VK) (E:XK),Room k (A.deeper (envOfC qual (defScope st) s.heap.objs.size f cdv))→sp vs H Q E →
      ∃ t,PSs (cxOf CX0 P w K mg base N qual (defScope st) f cdv A outer s H E).nox (defBody st) t∧t { nx:=fun _ H'=>Q .non H',rt:=Q } (start N vs) H):FnOk P w K mg base CX0 (k+1) f fd ps sp:=by
  obtain ⟨oc,od,kV,doc,pm,an,cdv,ct,osl,rfl,lk,hcd⟩:=F.ex
  refine fn_of lk hcd S len fun A outer s H vs Q E hr hsp=>?_
  obtain ⟨t,h,q⟩:=hbody cdv A outer s H vs Q E hr hsp
  exact ⟨t,h.nox,q⟩
theorem Fun.binds {x qual:Str}{st:Stmt}{f:Addr}{fd:FuncData}{ps:List Str} (F:Fun K x qual st f fd)
    (h:∀ (kV doc pm:Value) (an:Option Addr) (cdv ct:Value) (us:List Value),us.length=ps.length→bindArgs (PySem.W.fnOf x qual (defArgs st) (defBody st) (defScope st) .none kV doc pm an cdv ct) ⟨us,[]⟩=pure (ps.zip us)):Binds K fd ps []:=by
  obtain ⟨oc,od,kV,doc,pm,an,cdv,ct,osl,rfl,lk,hcd⟩:=F.ex
  exact .all (h kV doc pm an cdv ct)
theorem fun_mk {x qual:Str}{st:Stmt}{f:Addr}{oc:Value}{od an:Option Addr}{osl:Array (Option Value)}{kV doc pm cdv ct:Value} (l:K.lookup f=some ⟨oc,od,.func (PySem.W.fnOf x qual (defArgs st) (defBody st) (defScope st) .none kV doc pm an cdv ct),osl⟩)
    (c:PySem.W.codeIn K cdv qual=true) (k:PySem.W.keepIn K (.ref f)=true):Fun K x qual st f (PySem.W.fnOf x qual (defArgs st) (defBody st) (defScope st) .none kV doc pm an cdv ct):=⟨⟨oc,od,kV,doc,pm,an,cdv,ct,osl,rfl,l,c⟩,k⟩
end
def Same (H H':Hp):Prop:=∀ b o,H b=some o→H' b=some o
theorem Same.refl (H:Hp):Same H H:=fun _ _ h=>h
theorem Same.trans {H H1 H2:Hp} (a:Same H H1) (b:Same H1 H2):Same H H2:=fun c o h=>b c o (a c o h)
theorem Same.free {H H':Hp} (e:Same H H') {l:Addr} (h:H' l=Option.none):H l=Option.none:=by
  cases q:H l with
  | none=>rfl
  | some o =>
    rw [e l o q] at h
    cases h
theorem Same.seq {K:PySem.W.Frag}{H H':Hp}{a:Addr}{xs:List V} (e:Same H H') (h:SqL K H a xs):SqL K H' a xs:=by
  rcases h with (h | ⟨o,h⟩) | h
  · exact .inl (.inl (e _ _ h))
  · exact .inl (.inr ⟨o,e _ _ h⟩)
  · exact .inr h
end L2
set_option maxHeartbeats 4000000
namespace Mi
open PySem
inductive PV where
  | non | bl (b:Bool) | int (i:Int) | str (x:Str) | tup (l:List PV) | lst (l:List PV)
  | exc (c:Nat)            -- an exception that was caught,by its class
  | dic0                     -- an empty dict
  | ins (c:Nat)            -- an instance without attributes,by its class
  | own (l:List PV)        -- a list that one name alone holds (a slot's value,never an expression's)
inductive R (α:Type) where
  | ok (a:α) | exc (c:Nat) | stuck
def R.bind {α β:Type} (r:R α) (f:α→R β):R β:=match r with
  | .ok a=>f a
  | .exc c=>.exc c
  | .stuck=>.stuck
@[simp] theorem R.bind_ok {α β:Type} (a:α) (f:α→R β):(R.ok a).bind f=f a:=rfl
@[simp] theorem R.bind_exc {α β:Type} (c:Nat) (f:α→R β):(R.exc c:R α).bind f = .exc c:=rfl
@[simp] theorem R.bind_stuck {α β:Type} (f:α→R β):(R.stuck:R α).bind f = .stuck:=rfl
abbrev MEnv:=List (Option PV)
abbrev FE:=MEnv→R PV
abbrev FA:=MEnv→R (List PV)
abbrev FT:=MEnv→R Bool
inductive SR where
  | next (ρ:MEnv) | ret (v:PV) | brk (ρ:MEnv) | cont (ρ:MEnv) | exc (c:Nat) (ρ:MEnv) | stuck
abbrev FS:=MEnv→SR
def asVal:Option PV→R PV
  | some (.own _)=>.stuck
  | some v=>.ok v
  | none=>.stuck
def getV:MEnv→Nat→R PV
  | [],_=>.stuck
  | o::_,0=>asVal o
  | _::r,n+1=>getV r n
abbrev nb (i:Int):Nat:=Builtin.Int.intBits i
mutual
def eqPV:PV→PV→Bool
  | .non,.non=>true
  | .bl a,.bl b=>a == b
  | .bl a,.int b=>(if a then 1 else 0) == b
  | .int a,.bl b=>a == (if b then 1 else 0)
  | .int a,.int b=>a == b
  | .str a,.str b=>a == b
  | .tup a,.tup b=>eqPVs a b
  | .lst a,.lst b=>eqPVs a b
  | _,_=>false
def eqPVs:List PV→List PV→Bool
  | [],[]=>true
  | x::xs,y::ys=>eqPV x y && eqPVs xs ys
  | _,_=>false
end
def cmpOkN:Nat→PV→Bool
  | _,.non=>true
  | _,.bl _=>true
  | _,.int _=>true
  | _,.str _=>true
  | n+1,.tup l=>l.all (cmpOkN n)
  | n+1,.lst l=>l.all (cmpOkN n)
  | _,_=>false
abbrev cmpOk (p:PV):Bool:=cmpOkN 6 p
def truthP:PV→R Bool
  | .bl b=>.ok b
  | .int i=>.ok (i != 0)
  | .non=>.ok false
  | .lst l=>.ok (!l.isEmpty)
  | .str z=>if z.length≤sizeLine then .ok ((z.length:Int) != 0) else .stuck
  | _=>.stuck
abbrev bitsMax:Nat:=134217728
def oAdd:PV→PV→R PV
  | .int a,.int b=>.ok (.int (a+b))
  | .str a,.str b=>if a.length+b.length≤sizeLine then .ok (.str (a ++ b)) else .stuck
  | .lst a,.lst b=>if a.length+b.length≤sizeLine then .ok (.lst (a ++ b)) else .stuck
  | .tup a,.tup b=>if (a.length≠0∧b.length≠0)∧a.length+b.length≤sizeLine then .ok (.tup (a ++ b)) else .stuck
  | _,_=>.stuck
def oSub:PV→PV→R PV
  | .int a,.int b=>.ok (.int (a - b))
  | _,_=>.stuck
def oMul:PV→PV→R PV
  | .int a,.int b=>if nb a≤64∨nb b≤64∨nb a+nb b≤bitsMax then .ok (.int (a*b)) else .stuck
  | _,_=>.stuck
def oDiv:PV→PV→R PV
  | .int a,.int b=>if 0<b∧nb b≤9000 then .ok (.int (a / b)) else .stuck
  | _,_=>.stuck
def oMod:PV→PV→R PV
  | .int a,.int b=>if 0<b then .ok (.int (a % b)) else .stuck
  | _,_=>.stuck
def oPow:PV→PV→R PV
  | .int a,.int b=>if 0≤b∧b≤1000000∧nb a≤64 then .ok (.int (a ^ b.toNat)) else .stuck
  | _,_=>.stuck
def oShl:PV→PV→R PV
  | .int a,.int b=>if 0≤b∧nb a+b≤134217728 then .ok (.int (a*2 ^ b.toNat)) else .stuck
  | _,_=>.stuck
def oShr:PV→PV→R PV
  | .int a,.int b=>if 0≤b then .ok (.int (a / 2 ^ b.toNat)) else .stuck
  | _,_=>.stuck
def oAnd:PV→PV→R PV
  | .int a,.int b=>.ok (.int (Builtin.bitAnd a b))
  | _,_=>.stuck
def oOr:PV→PV→R PV
  | .int a,.int b=>.ok (.int (Builtin.bitOr a b))
  | _,_=>.stuck
def oXor:PV→PV→R PV
  | .int a,.int b=>.ok (.int (Builtin.bitXor a b))
  | _,_=>.stuck
def oNeg:PV→R PV
  | .int a=>.ok (.int (-a))
  | _=>.stuck
def cLt:PV→PV→R PV
  | .int a,.int b=>.ok (.bl (decide (a<b)))
  | _,_=>.stuck
def cLe:PV→PV→R PV
  | .int a,.int b=>.ok (.bl (decide (a≤b)))
  | _,_=>.stuck
def cGt:PV→PV→R PV
  | .int a,.int b=>.ok (.bl (decide (b<a)))
  | _,_=>.stuck
def cGe:PV→PV→R PV
  | .int a,.int b=>.ok (.bl (decide (b≤a)))
  | _,_=>.stuck
def dicStr:PV→PV→Bool
  | .dic0,.str _=>true
  | _,_=>false
def cEq (a b:PV):R PV:=if cmpOk a && cmpOk b then .ok (.bl (eqPV a b)) else if dicStr a b then .ok (.bl false) else .stuck
def cNe (a b:PV):R PV:=if cmpOk a && cmpOk b then .ok (.bl (!eqPV a b)) else .stuck
def isNone:PV→Bool
  | .non=>true
  | _=>false
def cIsN (a:PV):R PV:=.ok (.bl (isNone a))
def cNotN (a:PV):R PV:=.ok (.bl (!isNone a))
mutual
def flatP:PV→Bool
  | .non=>true
  | .bl _=>true
  | .int _=>true
  | .str _=>true
  | _=>false
end
def cIn (x y:PV):R PV:=match y with
  | .tup l=>if flatP x && l.all flatP then .ok (.bl (l.any fun z=>eqPV z x)) else .stuck
  | .lst l=>if flatP x && l.all flatP then .ok (.bl (l.any fun z=>eqPV z x)) else .stuck
  | .str z=>(match x with
    | .str y=>.ok (.bl (!(Builtin.Str.occurrences z y 0 z.length 1).isEmpty))
    | _=>.stuck)
  | _=>.stuck
def strP:PV→Bool
  | .str _=>true
  | _=>false
def heapP:PV→Bool
  | .lst _=>true
  | .tup _=>true
  | .dic0=>true
  | _=>false
def cNotIn (x y:PV):R PV:=match y with
  | .tup l=>if flatP x && l.all flatP then .ok (.bl (!l.any fun z=>eqPV z x)) else .stuck
  | .lst l=>if flatP x && l.all flatP then .ok (.bl (!l.any fun z=>eqPV z x)) else if heapP x && l.all strP then .ok (.bl true) else .stuck
  | .str z=>(match x with
    | .str y=>.ok (.bl (!(!(Builtin.Str.occurrences z y 0 z.length 1).isEmpty)))
    | _=>.stuck)
  | _=>.stuck
def ixP (n:Nat) (i:Int):Option Nat:=if 0≤i then (if i<n then some i.toNat else none) else if -(n:Int)≤i then some (i+n).toNat else none
def itemP (l:List PV) (i:Int):R PV:=match ixP l.length i with
  | some j=>(match l[j]? with | some v=>.ok v | none=>.stuck)
  | none=>.stuck
def oItem:PV→PV→R PV
  | .tup l,.int i=>itemP l i
  | .lst l,.int i=>itemP l i
  | .str z,.int i=>(match ixP z.cps.toList.length i with
    | some j=>(match z.cps.toList[j]? with | some c=>if z.length≤sizeLine then .ok (.str ⟨#[c]⟩) else .stuck | none=>.stuck)
    | none=>.stuck)
  | _,_=>.stuck
def bLen:List PV→R PV
  | [.tup l]=>.ok (.int l.length)
  | [.lst l]=>.ok (.int l.length)
  | [.str z]=>if z.length≤sizeLine then .ok (.int z.length) else .stuck
  | _=>.stuck
def bAbs:List PV→R PV
  | [.int i]=>.ok (.int (if i<0 then -i else i))
  | _=>.stuck
def bMin:List PV→R PV
  | [.int i,.int j]=>.ok (.int (if j<i then j else i))
  | _=>.stuck
def bMax:List PV→R PV
  | [.int i,.int j]=>.ok (.int (if j > i then j else i))
  | _=>.stuck
def bInt:List PV→R PV
  | [.int i]=>.ok (.int i)
  | [.bl k]=>.ok (.int (if k then 1 else 0))
  | _=>.stuck
def bBitLength:PV→R PV
  | .int i=>.ok (.int (nb i))
  | _=>.stuck
def bList:List PV→R PV
  | [.tup l]=>.ok (.lst l)
  | [.lst l]=>.ok (.lst l)
  | _=>.stuck
def bTuple:List PV→R PV
  | [.tup l]=>.ok (.tup l)
  | [.lst l]=>.ok (.tup l)
  | _=>.stuck
inductive Ty where | int | bool | str | tuple | list | dict
def isTy:PV→Ty→Option Bool
  | .non,_=>some false
  | .bl _,.int=>some true
  | .bl _,.bool=>some true
  | .bl _,_=>some false
  | .int _,.int=>some true
  | .int _,_=>some false
  | .str _,.str=>some true
  | .str _,_=>some false
  | .tup _,.tuple=>some true
  | .tup _,_=>some false
  | .lst _,.list=>some true
  | .lst _,_=>some false
  | .dic0,.dict=>some true
  | .dic0,_=>some false
  | _,_=>none
def fVar (i:Nat):FE:=fun ρ=>getV ρ i
def fC (v:PV):FE:=fun _=>.ok v
def fBin (o:PV→PV→R PV) (a b:FE):FE:=fun ρ=>(a ρ).bind fun x=>(b ρ).bind fun y=>o x y
def fUn (o:PV→R PV) (a:FE):FE:=fun ρ=>(a ρ).bind o
def oBool:PV→R Bool
  | .bl b=>.ok b
  | _=>.stuck
def fAnd (a b:FE):FE:=fun ρ=>(a ρ).bind fun x=>(oBool x).bind fun c=>if c then b ρ else .ok (.bl false)
def fOr (a b:FE):FE:=fun ρ=>(a ρ).bind fun x=>(oBool x).bind fun c=>if c then .ok (.bl true) else b ρ
def fNot (a:FE):FE:=fun ρ=>(a ρ).bind fun x=>(oBool x).bind fun c=>.ok (.bl (!c))
def fChain (o o':PV→PV→R PV) (a b c:FE):FE:=fun ρ=>(a ρ).bind fun x=>(b ρ).bind fun y=>(o x y).bind fun r=>(oBool r).bind fun k =>
  if k then (c ρ).bind fun z=>o' y z else .ok (.bl false)
def fIf (t:FT) (a b:FE):FE:=fun ρ=>(t ρ).bind fun c=>if c then a ρ else b ρ
def aNil:FA:=fun _=>.ok []
def aCons (a:FE) (r:FA):FA:=fun ρ=>(a ρ).bind fun x=>(r ρ).bind fun xs=>.ok (x::xs)
def fTup (a:FA):FE:=fun ρ=>(a ρ).bind fun xs=>if xs.length≤sizeLine then .ok (.tup xs) else .stuck
def fLst (a:FA):FE:=fun ρ=>(a ρ).bind fun xs=>if xs.length≤sizeLine then .ok (.lst xs) else .stuck
def fCall (F:List PV→R PV) (a:FA):FE:=fun ρ=>(a ρ).bind F
def fIsinst (t:Ty) (a:FE):FE:=fun ρ=>(a ρ).bind fun x=>match isTy x t with | some b=>.ok (.bl b) | none=>.stuck
def under (c d:Nat):Bool:=c == d || d == 0
def fIsExc (ks:List Nat) (d:Nat) (a:FE):FE:=fun ρ=>(a ρ).bind fun x=>match x with
  | .exc c=>if ks.contains c then .ok (.bl (under c d)) else .stuck
  | .non=>.ok (.bl false)
  | _=>.stuck
def fIsVal (ks:List Nat) (a:FE):FE:=fun ρ=>(a ρ).bind fun x=>match x with
  | .exc c=>if ks.contains c then .ok (.bl true) else .stuck
  | .non=>.ok (.bl false)
  | _=>.stuck
def tVal (a:FE):FT:=fun ρ=>(a ρ).bind truthP
def tAnd (a b:FT):FT:=fun ρ=>(a ρ).bind fun c=>if c then b ρ else .ok false
def tOr (a b:FT):FT:=fun ρ=>(a ρ).bind fun c=>if c then .ok true else b ρ
def tNot (a:FT):FT:=fun ρ=>(a ρ).bind fun c=>.ok (!c)
def slP (n d:Nat):Option Int→Nat
  | none=>d
  | some v=>if v<0 then (v+(n:Int)).toNat else min v.toNat n
def cutP (l:List PV) (lo hi:Option Int):List PV:=(l.drop (slP l.length 0 lo)).take (slP l.length l.length hi - slP l.length 0 lo)
abbrev FO:=MEnv→R (Option Int)
def oNone:FO:=fun _=>.ok none
def oSome (a:FE):FO:=fun ρ=>(a ρ).bind fun x=>match x with | .int i=>.ok (some i) | _=>.stuck
def sCut (z:Str) (lo hi:Option Int):Str:=⟨((z.cps.toList.drop (slP z.cps.toList.length 0 lo)).take (slP z.cps.toList.length z.cps.toList.length hi - slP z.cps.toList.length 0 lo)).toArray⟩
def oCut (x:PV) (lo hi:Option Int):R PV:=match x with
  | .str z=>if z.length≤sizeLine then .ok (.str (sCut z lo hi)) else .stuck
  | .lst l=>.ok (.lst (cutP l lo hi))
  | _=>.stuck
def fCut (a:FE) (l h:FO):FE:=fun ρ=>(a ρ).bind fun x=>(l ρ).bind fun lo=>(h ρ).bind fun hi=>oCut x lo hi
def sNext:FS:=fun ρ=>.next ρ
def sSeq (f g:FS):FS:=fun ρ=>match f ρ with
  | .next ρ'=>g ρ'
  | o=>o
def sBreak:FS:=fun ρ=>.brk ρ
def sCont:FS:=fun ρ=>.cont ρ
def ofR (r:R PV) (ρ:MEnv) (k:PV→SR):SR:=match r with
  | .ok v=>k v
  | .exc c=>.exc c ρ
  | .stuck=>.stuck
def sRet (a:FE):FS:=fun ρ=>ofR (a ρ) ρ fun v=>.ret v
def sRetN:FS:=fun _=>.ret .non
def sExpr (a:FE):FS:=fun ρ=>ofR (a ρ) ρ fun _=>.next ρ
def sSet (i:Nat) (a:FE):FS:=fun ρ=>ofR (a ρ) ρ fun v=>.next (ρ.set i (some v))
def setAll:List Nat→List PV→MEnv→Option MEnv
  | [],[],ρ=>some ρ
  | i::r,v::vs,ρ=>setAll r vs (ρ.set i (some v))
  | _,_,_=>none
def sUnpack (is:List Nat) (a:FE):FS:=fun ρ=>ofR (a ρ) ρ fun v=>match v with
  | .tup l=>(match setAll is l ρ with | some ρ'=>.next ρ' | none=>.stuck)
  | _=>.stuck
def sIf (t:FT) (f g:FS):FS:=fun ρ=>match t ρ with
  | .ok c=>if c then f ρ else g ρ
  | .exc c=>.exc c ρ
  | .stuck=>.stuck
def sRaise (c:Nat):FS:=fun ρ=>.exc c ρ
def isSmallI:R PV→Bool
  | .ok (.int i)=>decide (i.natAbs<18446744073709551616)
  | _=>false
def sRaiseT (k:MEnv→Bool) (c:Nat):FS:=fun ρ=>if k ρ then .exc c ρ else .stuck
def forL (i:Nat) (body:FS):List PV→FS
  | [],ρ=>.next ρ
  | x::r,ρ=>match body (ρ.set i (some x)) with
    | .next ρ'=>forL i body r ρ'
    | .cont ρ'=>forL i body r ρ'
    | .brk ρ'=>.next ρ'
    | o=>o
def sFor (i:Nat) (it:FA) (body:FS):FS:=fun ρ=>match it ρ with
  | .ok l=>forL i body l ρ
  | .exc c=>.exc c ρ
  | .stuck=>.stuck
def iSeq (a:FE):FA:=fun ρ=>(a ρ).bind fun x=>match x with
  | .lst l=>.ok l
  | .tup l=>.ok l
  | _=>.stuck
def rangeN (lo hi st:Int):Nat:=(if st > 0 then (if lo<hi then (hi - lo - 1) / st+1 else 0) else (if lo > hi then (lo - hi - 1) / (-st)+1 else 0)).toNat
def rangeP (lo hi st:Int):List PV:=(List.range (rangeN lo hi st)).map fun (k:Nat)=>.int (lo+(k:Int)*st)
def smallI (i:Int):Prop:=-(2 ^ 60)≤i∧i<2 ^ 60
instance (i:Int):Decidable (smallI i):=inferInstanceAs (Decidable (_∧_))
def iRange (a:FA):FA:=fun ρ=>(a ρ).bind fun xs=>match xs with
  | [.int hi]=>if smallI hi then .ok (rangeP 0 hi 1) else .stuck
  | [.int lo,.int hi]=>if smallI lo∧smallI hi then .ok (rangeP lo hi 1) else .stuck
  | [.int lo,.int hi,.int st]=>if smallI lo∧smallI hi∧smallI st∧st≠0 then .ok (rangeP lo hi st) else .stuck
  | _=>.stuck
def iStr (a:FE):FA:=fun ρ=>(a ρ).bind fun x=>match x with
  | .str z=>.ok (z.cps.toList.map fun c=>.str ⟨#[c]⟩)
  | _=>.stuck
def whileN (t:FT) (body:FS):Nat→FS
  | 0,_=>.stuck
  | n+1,ρ=>match t ρ with
    | .ok true=>(match body ρ with
      | .next ρ'=>whileN t body n ρ'
      | .cont ρ'=>whileN t body n ρ'
      | .brk ρ'=>.next ρ'
      | o=>o)
    | .ok false=>.next ρ
    | .exc c=>.exc c ρ
    | .stuck=>.stuck
def turnsMax:Nat:=100000
def sWhile (t:FT) (body:FS):FS:=fun ρ=>whileN t body turnsMax ρ
def sTryAs (body:FS) (ks:List Nat) (d n x:Nat):FS:=fun ρ=>match body ρ with
  | .exc c ρ'=>if ks.contains c && under c d then .next (((ρ'.set n (some (.exc c))).set x (some (.exc c))).set n none) else .stuck
  | o=>o
def start (n:Nat) (vs:List PV):MEnv:=vs.map some ++ List.replicate (n - vs.length) none
def runF (n:Nat) (b:FS) (vs:List PV):R PV:=match b (start n vs) with
  | .next _=>.ok .non
  | .ret v=>.ok v
  | .exc c _=>.exc c
  | _=>.stuck
end Mi
set_option autoImplicit false
namespace Mi
open PySem
def Fine (f:Obj→Obj):Prop:=∀ o,(f o).cls=o.cls∧(f o).dict=o.dict∧(f o).isFreed=o.isFreed
def Kd (e:Addr) (h h':Heap):Prop:=∀ o,h.get? e=some o→∃ o',h'.get? e=some o'∧o'.cls=o.cls∧o'.dict=o.dict
theorem Kd.refl (e:Addr) (h:Heap):Kd e h h:=fun o q=>⟨o,q,rfl,rfl⟩
theorem Kd.trans {e:Addr}{h h1 h2:Heap} (a:Kd e h h1) (b:Kd e h1 h2):Kd e h h2:=fun o q=>by
  obtain ⟨o1,q1,c1,d1⟩:=a o q
  obtain ⟨o2,q2,c2,d2⟩:=b o1 q1
  exact ⟨o2,q2,c2.trans c1,d2.trans d1⟩
inductive Tame:{α:Type}→Sem α→Prop where
  | pure {α:Type} (a:α):Tame (.pure a)
  | raise {α:Type} (e:Value):Tame (.raise e:Sem α)
  | unsupported {α:Type} (w:String):Tame (.unsupported w:Sem α)
  | rule {α:Type}{t:String}{k:Unit→Sem α} (h:Tame (k ())):Tame (.rule t k)
  | load {α:Type}{a:Addr}{p:Option Value}{k:Obj→Sem α} (h:∀ o,Tame (k o)):Tame (.load a p k)
  | update {α:Type}{a:Addr}{p:Option Value}{f:Obj→Obj}{k:Unit→Sem α} (hf:Fine f) (h:Tame (k ())):Tame (.update a p f k)
  | alloc {α:Type}{o:Obj}{k:Addr→Sem α} (h:∀ a,Tame (k a)):Tame (.alloc o k)
  | register {α:Type}{a:Addr}{k:Unit→Sem α}:Tame (.register a k)
  | stack {α:Type}{k:List (Code×Pos)→Sem α} (h:∀ a,Tame (k a)):Tame (.stack k)
theorem Tame.bind {α β:Type}{t:Sem α}{f:α→Sem β} (h:Tame t) (g:∀ a,Tame (f a)):Tame (t >>= f):=by
  show Tame (t.bind f)
  induction h with
  | pure a=>exact g a
  | raise e=>exact .raise e
  | unsupported w=>exact .unsupported w
  | rule _ ih=>exact .rule ih
  | load _ ih=>exact .load fun o=>ih o
  | update hf _ ih=>exact .update hf ih
  | alloc _ ih=>exact .alloc fun a=>ih a
  | register=>exact .register
  | stack _ ih=>exact .stack fun a=>ih a
theorem kd_update {e a:Addr}{h:Heap}{f:Obj→Obj} (hf:Fine f):Kd e h (h.update a f):=fun o q=>by
  by_cases ha:a=e
  · subst ha
    have nf:o.isFreed=false:=(Heap.get?_some_iff.mp q).2
    exact ⟨f o,Heap.get?_update_self f q (by rw [(hf o).2.2];exact nf),(hf o).1,(hf o).2.1⟩
  · exact ⟨o,(Heap.get?_update_other _ _ ha).trans q,rfl,rfl⟩
theorem Tame.keep {α:Type}{M:Model}{Γ:Ctx}{t:Sem α} (h:Tame t) (e:Addr):∀ {Q:α→Pos→Shared→Prop}{E:Value→Pos→Shared→Prop}{p:Pos}{s:Shared},Sem.wp M Γ t Q E p s →
    Sem.wp M Γ t (fun a p s'=>Q a p s'∧Kd e s.heap s'.heap) (fun x p s'=>E x p s'∧Kd e s.heap s'.heap) p s:=by
  induction h with
  | pure a=>intro Q E p s w;exact ⟨w,Kd.refl _ _⟩
  | raise x=>intro Q E p s w;exact ⟨w,Kd.refl _ _⟩
  | unsupported x=>intro Q E p s w;exact w.elim
  | rule _ ih=>intro Q E p s w;exact ih w
  | load _ ih=>intro Q E p s w;obtain ⟨o,h1,h2⟩:=w;exact ⟨o,h1,ih o h2⟩
  | update hf _ ih =>
    intro Q E p s w
    obtain ⟨h1,h2⟩:=w
    exact ⟨h1,Sem.wp_mono M Γ _ (fun a p s' ⟨q,k⟩=>⟨q,(kd_update hf).trans k⟩) (fun x p s' ⟨q,k⟩=>⟨q,(kd_update hf).trans k⟩) _ _ (ih h2)⟩
  | alloc _ ih =>
    intro Q E p s w
    have k0:∀ (o:Obj),Kd e s.heap (s.heap.push o):=fun o o' q=>⟨o',Heap.get?_push_of_some _ q,rfl,rfl⟩
    exact Sem.wp_mono M Γ _ (fun a p s' ⟨q,k⟩=>⟨q,(k0 _).trans k⟩) (fun x p s' ⟨q,k⟩=>⟨q,(k0 _).trans k⟩) _ _ (ih _ w)
  | register=>intro Q E p s w;exact w.elim
  | stack _ ih=>intro Q E p s w;exact ih _ w
theorem Tame.any {α:Type}{M:Model}{A:Around}{t:Sem α} (h:Tame t) (e:Addr) {Q:α→Shared→Prop}{E:Value→Shared→Prop}{s:Shared} (w:wpAny M A t Q E s) :
    wpAny M A t (fun a s'=>Q a s'∧Kd e s.heap s'.heap) (fun x s'=>E x s'∧Kd e s.heap s'.heap) s:=fun Γ p hΓ=>h.keep e (w Γ p hΓ)
theorem fine_fields (g:Array Value→Array Value):Fine (Obj.mapFields g):=fun o=>by
  obtain ⟨c,d,dt,sl⟩:=o
  cases dt<;>exact ⟨rfl,rfl,rfl⟩
theorem fine_slots (g:Obj→Array (Option Value)):Fine (fun o=>{ o with slots:=g o }):=fun o=>by
  obtain ⟨c,d,dt,sl⟩:=o
  cases dt<;>exact ⟨rfl,rfl,rfl⟩
theorem tame_load (a:Addr):Tame (PySem.load a):=.load fun o=>.pure o
theorem tame_update (a:Addr) {f:Obj→Obj} (h:Fine f):Tame (PySem.update a f):=.update h (.pure ())
theorem tame_fieldsOf (v:Value):Tame (fieldsOf v):=by
  unfold fieldsOf
  cases v<;>first | exact .unsupported _ | skip
  refine Tame.bind (tame_load _) fun o=>?_
  cases o.data<;>first | exact .unsupported _ | exact .pure _
theorem tame_field (v:Value) (i:Nat):Tame (field v i):=by
  unfold field
  refine Tame.bind (tame_fieldsOf v) fun vs=>?_
  split
  · exact .pure _
  · exact .unsupported _
theorem tame_setField (v:Value) (i:Nat) (x:Value):Tame (setField v i x):=by
  unfold setField
  cases v<;>first | exact .unsupported _ | skip
  unfold updateField
  refine Tame.bind (tame_load _) fun o=>?_
  cases o.data<;>first | exact .unsupported _ | skip
  dsimp only
  split
  · exact tame_update _ (fine_fields _)
  · exact .unsupported _
theorem tame_setFlight (e:Value) (f:Option Addr):Tame (setFlight e f):=by
  unfold setFlight
  refine Tame.bind (tame_field _ _) fun tb=>?_
  split
  · exact tame_setField _ _ _
  · exact .pure _
theorem tame_stack:Tame PySem.stack:=.stack fun a=>.pure a
theorem tame_behind (env:Env) (outer:List Env):Tame (behindIsImport env outer):=by
  unfold behindIsImport
  split
  · exact .pure _
  · split
    · exact .pure _
    · exact Tame.bind (tame_field _ _) fun _=>.pure _
theorem tame_kept (env:Env) (b:Bool):∀ l,Tame (keptBack env b l)
  | []=>by
    show Tame (if (env.scope.isGenerator || env.scope.isCoroutine)=true then Pure.pure Value.none else _)
    split
    · exact .pure _
    · refine Tame.bind ?_ fun x=>?_
      · unfold underTheClaimsCaller
        exact Tame.bind tame_stack fun _=>.pure _
      · exact .pure _
  | c::r=>.pure _
theorem tame_ready:∀ l,Tame (readyFrames l)
  | []=>.pure _
  | env::outer=>by
    unfold readyFrames
    split
    · refine Tame.bind (tame_load _) fun o=>?_
      split
      · exact .pure _
      · refine Tame.bind (tame_behind _ _) fun _=>Tame.bind (tame_kept _ _ _) fun _=>Tame.bind (tame_update _ (fine_slots _)) fun _=>tame_ready outer
    · exact .unsupported _
theorem tame_frameObject:∀ l,Tame (frameObject l)
  | []=>.pure _
  | env::outer=>by unfold frameObject;exact Tame.bind (tame_ready _) fun _=>.pure _
theorem tame_frameOf (env:Env):Tame (frameOf env):=by
  unfold frameOf
  refine Tame.bind (Tame.bind tame_stack fun _=>.pure _) fun l=>Tame.bind (tame_frameObject _) fun x=>?_
  split
  · exact .pure _
  · exact .unsupported _
theorem tame_place (f:Addr) (b:Bool):Tame (entryPlaceOf f b):=by
  unfold entryPlaceOf
  refine Tame.bind tame_stack fun a=>?_
  split<;>exact .pure _
theorem tame_entry (a b c d e:Value) (l:List Value):Tame (EntryCells.newEntry a b c d e l):=by
  have al:∀ o:Obj,Tame (do let a ← PySem.alloc o;Pure.pure (Value.ref a)):=fun o=>Tame.bind (.alloc fun a=>.pure a) fun a=>.pure _
  unfold EntryCells.newEntry newFields newObj newObjAsIs
  dsimp only
  generalize (if l.isEmpty=true then List.replicate 6 Value.none else l)=l'
  split
  · exact Tame.bind (.unsupported _) fun _=>al _
  · exact al _
theorem tame_note (e:Value) (env:Env):Tame (noteFrame e env):=by
  unfold noteFrame
  split
  · refine Tame.bind (tame_field _ _) fun head=>?_
    split
    · refine Tame.bind (tame_field _ _) fun x=>?_
      split
      · exact .pure _
      · refine Tame.bind (tame_setField _ _ _) fun _=>Tame.bind (tame_frameOf _) fun _=>Tame.bind (tame_place _ _) fun _=>Tame.bind (tame_entry ..) fun _=>tame_setField _ _ _
    · refine Tame.bind (tame_frameOf _) fun _=>Tame.bind (tame_place _ _) fun _=>Tame.bind (tame_entry ..) fun _=>tame_setField _ _ _
  · exact .unsupported _
open PySem.Spec PyProof.Rows L2
abbrev SV:=L2.St
def ExcO (a C:Addr):HO:=.ext fun h=>∃ o vs,h.get? a=some o∧o.cls = .ref C∧o.dict=none∧o.data = .fields vs
mutual
inductive Rp (K:PySem.W.Frag) (cl:Nat→Addr) (Hf:Hp):V→PV→Prop where
  | non:Rp K cl Hf .non .non
  | bl (b:Bool):Rp K cl Hf (.bl b) (.bl b)
  | int (i:Int):Rp K cl Hf (.int i) (.int i)
  | str (x:Str):Rp K cl Hf (.str x) (.str x)
  | tup {a:Addr}{xs:List V}{ps:List PV} (h:SqT K Hf a xs) (r:Rps K cl Hf xs ps):Rp K cl Hf (.ref a) (.tup ps)
  | lst {a:Addr}{xs:List V}{ps:List PV} (h:SqL K Hf a xs) (r:Rps K cl Hf xs ps):Rp K cl Hf (.ref a) (.lst ps)
  | exc {a:Addr}{c:Nat} (h:Hf a=some (ExcO a (cl c))):Rp K cl Hf (.ref a) (.exc c)
  | dic0 {a:Addr} (h:Hf a=some (.dK [])):Rp K cl Hf (.ref a) .dic0
  | ins {a dx:Addr}{c:Nat} (h:Hf a=some (.ins (cl c) dx [])):Rp K cl Hf (.ref a) (.ins c)
inductive Rps (K:PySem.W.Frag) (cl:Nat→Addr) (Hf:Hp):List V→List PV→Prop where
  | nil:Rps K cl Hf [] []
  | cons {v:V}{p:PV}{vs:List V}{ps:List PV} (r:Rp K cl Hf v p) (t:Rps K cl Hf vs ps):Rps K cl Hf (v::vs) (p::ps)
end
section
variable {K:PySem.W.Frag}{cl:Nat→Addr}{Hf Hf':Hp}
theorem Same.seqT {H H':Hp}{a:Addr}{xs:List V} (e:Same H H') (h:SqT K H a xs):SqT K H' a xs:=by
  rcases h with (h | ⟨o,h⟩) | h
  · exact .inl (.inl (e _ _ h))
  · exact .inl (.inr ⟨o,e _ _ h⟩)
  · exact .inr h
mutual
theorem Rp.keep (s:Same Hf Hf'):∀ {v:V}{p:PV},Rp K cl Hf v p→Rp K cl Hf' v p
  | _,_,.non=>.non
  | _,_,.bl b=>.bl b
  | _,_,.int i=>.int i
  | _,_,.str x=>.str x
  | _,_,.tup h r=>.tup (Same.seqT s h) (Rps.keep s r)
  | _,_,.lst h r=>.lst (s.seq h) (Rps.keep s r)
  | _,_,.exc h=>.exc (s _ _ h)
  | _,_,.dic0 h=>.dic0 (s _ _ h)
  | _,_,.ins h=>.ins (s _ _ h)
theorem Rps.keep (s:Same Hf Hf'):∀ {vs:List V}{ps:List PV},Rps K cl Hf vs ps→Rps K cl Hf' vs ps
  | _,_,.nil=>.nil
  | _,_,.cons r t=>.cons (Rp.keep s r) (Rps.keep s t)
end
theorem Rps.length:∀ {vs:List V}{ps:List PV},Rps K cl Hf vs ps→vs.length=ps.length
  | _,_,.nil=>rfl
  | _,_,.cons _ t=>congrArg (·+1) (Rps.length t)
theorem Rps.get:∀ {vs:List V}{ps:List PV}{i:Nat}{p:PV},Rps K cl Hf vs ps→ps[i]?=some p→∃ v,vs[i]?=some v∧Rp K cl Hf v p
  | _,_,_,_,.nil,e=>by simp at e
  | _,_,0,_,.cons r _,e=>by simp at e;subst e;exact ⟨_,rfl,r⟩
  | _,_,i+1,p,.cons _ t,e=>by
    obtain ⟨v,h1,h2⟩:=Rps.get (i:=i) (p:=p) t (by simpa using e)
    exact ⟨v,by simpa using h1,h2⟩
theorem Rps.get':∀ {vs:List V}{ps:List PV}{i:Nat}{v:V},Rps K cl Hf vs ps→vs[i]?=some v→∃ p,ps[i]?=some p∧Rp K cl Hf v p
  | _,_,_,_,.nil,e=>by simp at e
  | _,_,0,_,.cons r _,e=>by simp at e;subst e;exact ⟨_,rfl,r⟩
  | _,_,i+1,v,.cons _ t,e=>by
    obtain ⟨p,h1,h2⟩:=Rps.get' (i:=i) (v:=v) t (by simpa using e)
    exact ⟨p,by simpa using h1,h2⟩
theorem Rps.append:∀ {vs ws:List V}{ps qs:List PV},Rps K cl Hf vs ps→Rps K cl Hf ws qs→Rps K cl Hf (vs ++ ws) (ps ++ qs)
  | _,_,_,_,.nil,s=>s
  | _,_,_,_,.cons r t,s=>.cons r (Rps.append t s)
theorem Rps.take:∀ {vs:List V}{ps:List PV} (n:Nat),Rps K cl Hf vs ps→Rps K cl Hf (vs.take n) (ps.take n)
  | _,_,0,_=>.nil
  | _,_,_+1,.nil=>.nil
  | _,_,n+1,.cons r t=>.cons r (Rps.take n t)
theorem Rps.drop:∀ {vs:List V}{ps:List PV} (n:Nat),Rps K cl Hf vs ps→Rps K cl Hf (vs.drop n) (ps.drop n)
  | _,_,0,r=>r
  | _,_,_+1,.nil=>.nil
  | _,_,n+1,.cons _ t=>Rps.drop n t
theorem Rps.ints:∀ (ns:List Int),Rps K cl Hf (ns.map V.int) (ns.map PV.int)
  | []=>.nil
  | n::r=>.cons (.int n) (Rps.ints r)
end
structure Ext (Hf H Hf' H':Hp):Prop where
  all:Same H H'
  frz:Same Hf Hf'
  sub:Same Hf' H'
  old:∀ b,H b≠none→Hf' b=Hf b
theorem Ext.refl {Hf H:Hp} (s:Same Hf H):Ext Hf H Hf H:=⟨Same.refl _,Same.refl _,s,fun _ _=>rfl⟩
theorem Ext.trans {Hf H Hf1 H1 Hf2 H2:Hp} (a:Ext Hf H Hf1 H1) (b:Ext Hf1 H1 Hf2 H2):Ext Hf H Hf2 H2 :=
  ⟨a.all.trans b.all,a.frz.trans b.frz,b.sub,fun c n=>by
    have n1:H1 c≠none:=by
      cases e:H c with
      | none=>exact absurd e n
      | some o=>rw [a.all c o e];intro z;cases z
    rw [b.old c n1,a.old c n]⟩
theorem same_upd {H:Hp}{p:Addr} (h:H p=none) (o:HO):Same H (upd H p o):=fun b u q=>by rw [upd_ne (ne_of_none q h)];exact q
theorem Ext.new {Hf H:Hp} (s:Same Hf H) {p:Addr} (h:H p=none) (o:HO):Ext Hf H (upd Hf p o) (upd H p o):=by
  have hf:Hf p=none:=s.free h
  refine ⟨same_upd h o,same_upd hf o,fun b u q=>?_,fun b n=>?_⟩
  · by_cases e:b=p
    · subst e;rw [upd_same] at q ⊢;exact q
    · rw [upd_ne e] at q ⊢;exact s b u q
  · rw [upd_ne (fun e=>n (by rw [e];exact h))]
theorem Ext.newH {Hf H:Hp} (s:Same Hf H) {p:Addr} (h:H p=none) (o:HO):Ext Hf H Hf (upd H p o) :=
  ⟨same_upd h o,Same.refl _,fun b u q=>same_upd h o b u (s b u q),fun _ _=>rfl⟩
def Slot (K:PySem.W.Frag) (cl:Nat→Addr) (H0 Hf H:Hp) (v:V):PV→Prop
  | .own ps=>∃ a xs,v = .ref a∧H a=some (.lst xs)∧Hf a=none∧H0 a=none∧Rps K cl Hf xs ps
  | p=>Rp K cl Hf v p
structure Rep (K:PySem.W.Frag) (cl:Nat→Addr) (Hf0 H0 Hf H:Hp) (σ:SV) (ρ:MEnv):Prop where
  ext:Ext Hf0 H0 Hf H
  slot:∀ (i:Nat) (p:PV),ρ[i]?=some (some p)→∃ v,σ[i]?=some (some v)∧Slot K cl H0 Hf H v p
  dist:∀ (i j:Nat) (ps qs:List PV) (a:Addr),ρ[i]?=some (some (.own ps))→ρ[j]?=some (some (.own qs))→σ[i]?=some (some (.ref a))→σ[j]?=some (some (.ref a))→i=j
section
variable {K:PySem.W.Frag}{cl:Nat→Addr}{Hf0 H0 Hf H Hf' H':Hp}{σ:SV}{ρ:MEnv}
theorem Rep.sub (r:Rep K cl Hf0 H0 Hf H σ ρ):Same Hf H:=r.ext.sub
theorem Slot.keep {v:V}{p:PV} (e:Ext Hf H Hf' H') (h:Slot K cl H0 Hf H v p):Slot K cl H0 Hf' H' v p:=by
  cases p with
  | own ps =>
    obtain ⟨a,xs,e1,e2,e3,e4,e5⟩:=h
    exact ⟨a,xs,e1,e.all _ _ e2,by rw [e.old a (by rw [e2];intro z;cases z)];exact e3,e4,e5.keep e.frz⟩
  | _=>exact Rp.keep e.frz h
theorem Rep.keep (r:Rep K cl Hf0 H0 Hf H σ ρ) (e:Ext Hf H Hf' H'):Rep K cl Hf0 H0 Hf' H' σ ρ :=
  ⟨r.ext.trans e,fun i p h=>by
    obtain ⟨v,h1,h2⟩:=r.slot i p h
    exact ⟨v,h1,h2.keep e⟩,r.dist⟩
theorem getV_some:∀ {ρ:MEnv}{i:Nat}{p:PV},getV ρ i = .ok p→ρ[i]?=some (some p)∧∀ l,p≠.own l
  | [],_,_,h=>by simp [getV] at h
  | o::r,0,p,h=>by
    have h':asVal o = .ok p:=h
    cases o with
    | none=>simp [asVal] at h'
    | some q =>
      cases q<;>first
        | (simp [asVal] at h';done)
        | (simp only [asVal] at h';cases h';exact ⟨rfl,fun l z=>by cases z⟩)
  | o::r,i+1,p,h=>by
    obtain ⟨a,b⟩:=getV_some (ρ:=r) (i:=i) (p:=p) h
    exact ⟨by simpa using a,b⟩
theorem getV_noexc:∀ {ρ:MEnv}{i:Nat}{c:Nat},getV ρ i≠.exc c
  | [],_,_,h=>by simp [getV] at h
  | o::r,0,c,h=>by
    have h':asVal o = .exc c:=h
    cases o with
    | none=>simp [asVal] at h'
    | some q=>cases q<;>simp [asVal] at h'
  | o::r,i+1,c,h=>getV_noexc (ρ:=r) (i:=i) (c:=c) h
theorem Rep.var (r:Rep K cl Hf0 H0 Hf H σ ρ) {i:Nat}{p:PV} (h:getV ρ i = .ok p):∃ v,σ[i]?=some (some v)∧Rp K cl Hf v p:=by
  obtain ⟨e,n⟩:=getV_some h
  obtain ⟨v,h1,h2⟩:=r.slot i p e
  refine ⟨v,h1,?_⟩
  cases p with
  | own l=>exact absurd rfl (n l)
  | _=>exact h2
theorem Rep.set (r:Rep K cl Hf0 H0 Hf H σ ρ) (i:Nat) {v:V}{p:PV} (h:Rp K cl Hf v p) (hl:i<σ.length):Rep K cl Hf0 H0 Hf H (σ.set i (some v)) (ρ.set i (some p)):=by
  have np:∀ l,p≠.own l:=fun l z=>by subst z;cases h
  refine ⟨r.ext,fun j q hq=>?_,fun j k ps qs a h1 h2 h3 h4=>?_⟩
  · by_cases e:i=j
    · subst e
      have hi:i<ρ.length:=by
        rw [List.getElem?_set] at hq
        by_cases hh:i<ρ.length
        · exact hh
        · simp [hh] at hq
      rw [List.getElem?_set_self hi] at hq
      cases hq
      refine ⟨v,by rw [List.getElem?_set_self hl],?_⟩
      cases p with
      | own l=>exact absurd rfl (np l)
      | _=>exact h
    · rw [List.getElem?_set_ne e] at hq
      obtain ⟨w,a,b⟩:=r.slot j q hq
      exact ⟨w,by rw [List.getElem?_set_ne e];exact a,b⟩
  · have ne:∀ {m:Nat}{l:List PV},(ρ.set i (some p))[m]?=some (some (.own l))→i≠m:=fun {m l} hm z=>by
      subst z
      have hi:i<ρ.length:=by
        rw [List.getElem?_set] at hm
        by_cases hh:i<ρ.length
        · exact hh
        · simp [hh] at hm
      rw [List.getElem?_set_self hi] at hm
      cases hm
      exact np l rfl
    have n1:=ne h1
    have n2:=ne h2
    rw [List.getElem?_set_ne n1] at h1 h3
    rw [List.getElem?_set_ne n2] at h2 h4
    exact r.dist j k ps qs a h1 h2 h3 h4
end
def Stands (X:Cx) (pins:List (Addr×Obj)) (H:Hp) (b:Addr):Prop :=
  H b≠none∨(∃ p∈X.pn ++ pins,p.1=b)∨(∃ o,X.s₀.heap.get? b=some o)∨∃ x,X.env.cells.lookup x=some b
def Cov (X:Cx) (pins:List (Addr×Obj)) (H:Hp) (B h:Heap):Prop:=∀ b o,h.get? b=some o→Stands X pins H b→b ∉ frs X.stack→B.get? b=some o
def FreshW (B:Heap) (l:List Env) (e:Addr) (cls a0:Value) (h:Heap):Prop :=
  B.StaysIn h∧B.get? e=none∧h.FunFrames B l∧∃ oe vs,h.get? e=some oe∧oe.cls=cls∧oe.dict=none∧oe.data = .fields vs∧vs[0]?=some a0∧vs[1]?=some .none
def NoD (e:Addr) (h:Heap):Prop:=∃ o,h.get? e=some o∧o.dict=none
def XSt (X:Cx) (pins:List (Addr×Obj)) (H:Hp) (e C:Addr) (h:Heap):Prop :=
  ∃ B a0,Cov X pins H B h∧NoD e h∧(FreshW B X.stack e (.ref C) a0 h∨Heap.HeldW B X.stack e (.ref C) a0 X.env.locals h∨Heap.FlyingW B X.stack e (.ref C) a0 h)
def XAt (X:Cx) (cl:Nat→Addr) (pins:List (Addr×Obj)) (σ:SV) (Hf H:Hp) (c:Nat) (u:Value) (s:Shared):Prop :=
  ∃ e Hf' H',u = .ref e∧Inv X pins σ H' s∧Ext Hf H Hf' H'∧XSt X pins H' e (cl c) s.heap
theorem XAt.from {X:Cx}{cl:Nat→Addr}{pins:List (Addr×Obj)}{σ:SV}{Hf H Hf1 H1:Hp}{c:Nat}{u:Value}{s:Shared} (e:Ext Hf H Hf1 H1) (x:XAt X cl pins σ Hf1 H1 c u s):XAt X cl pins σ Hf H c u s:=by
  obtain ⟨a,Hf',H',h1,h2,h3,h4⟩:=x
  exact ⟨a,Hf',H',h1,h2,e.trans h3,h4⟩
section
variable (X:Cx) (cl:Nat→Addr)
def OkP (pins:List (Addr×Obj)) (σ:SV) (Hf H:Hp) (r:R PV) (u:Value) (s:Shared):Prop :=
  ∃ p v Hf' H',r = .ok p∧Inv X pins σ H' s∧RelV v u∧Ext Hf H Hf' H'∧Rp X.K cl Hf' v p
def ExP {α:Type} (pins:List (Addr×Obj)) (σ:SV) (Hf H:Hp) (r:R α) (u:Value) (s:Shared):Prop :=
  ∃ c,r = .exc c∧XAt X cl pins σ Hf H c u s
def OkT (pins:List (Addr×Obj)) (σ:SV) (Hf H:Hp) (r:R Bool) (b:Bool) (s:Shared):Prop :=
  ∃ Hf' H',r = .ok b∧Inv X pins σ H' s∧Ext Hf H Hf' H'
def OkA (pins:List (Addr×Obj)) (σ:SV) (Hf H:Hp) (r:R (List PV)) (us:List Value) (s:Shared):Prop :=
  ∃ ps vs Hf' H',r = .ok ps∧Inv X pins σ H' s∧Vals vs us∧Ext Hf H Hf' H'∧Rps X.K cl Hf' vs ps
structure ME (e:Expr) (f:FE):Prop where
  run':∀ (pins:List (Addr×Obj)) (s:Shared) (σ:SV) (Hf0 H0 Hf H:Hp) (ρ:MEnv),Inv X pins σ H s→Rep X.K cl Hf0 H0 Hf H σ ρ→f ρ≠.stuck →
    wpAny (model X.prog X.w) X.A (eval e X.env) (OkP X cl pins σ Hf H (f ρ)) (ExP X cl pins σ Hf H (f ρ)) s
instance {e:Expr}{f:FE}:CoeFun (ME X cl e f) fun _=>∀ (pins:List (Addr×Obj)) (s:Shared) (σ:SV) (Hf0 H0 Hf H:Hp) (ρ:MEnv),Inv X pins σ H s→Rep X.K cl Hf0 H0 Hf H σ ρ→f ρ≠.stuck →
    wpAny (model X.prog X.w) X.A (eval e X.env) (OkP X cl pins σ Hf H (f ρ)) (ExP X cl pins σ Hf H (f ρ)) s:=⟨ME.run'⟩
structure MT (e:Expr) (f:FT):Prop where
  run':∀ (pins:List (Addr×Obj)) (s:Shared) (σ:SV) (Hf0 H0 Hf H:Hp) (ρ:MEnv),Inv X pins σ H s→Rep X.K cl Hf0 H0 Hf H σ ρ→f ρ≠.stuck →
    wpAny (model X.prog X.w) X.A (isTrue e X.env (eval e X.env)) (OkT X pins σ Hf H (f ρ)) (ExP X cl pins σ Hf H (f ρ)) s
instance {e:Expr}{f:FT}:CoeFun (MT X cl e f) fun _=>∀ (pins:List (Addr×Obj)) (s:Shared) (σ:SV) (Hf0 H0 Hf H:Hp) (ρ:MEnv),Inv X pins σ H s→Rep X.K cl Hf0 H0 Hf H σ ρ→f ρ≠.stuck →
    wpAny (model X.prog X.w) X.A (isTrue e X.env (eval e X.env)) (OkT X pins σ Hf H (f ρ)) (ExP X cl pins σ Hf H (f ρ)) s:=⟨MT.run'⟩
end
section
variable {X:Cx}{cl:Nat→Addr}{pins:List (Addr×Obj)}{s:Shared}{σ:SV}{Hf0 H0 Hf H Hf1 H1:Hp}{ρ:MEnv}{α:Type}
theorem ME.run {e:Expr}{f:FE} (h:ME X cl e f) (I:Inv X pins σ H1 s) (r:Rep X.K cl Hf0 H0 Hf1 H1 σ ρ) (e0:Ext Hf H Hf1 H1) {k:PV→R α} (hs:(f ρ).bind k≠.stuck) {Q:Value→Shared→Prop}
    (ok:∀ p v u s' Hf' H',(f ρ).bind k=k p→Inv X pins σ H' s'→RelV v u→Ext Hf1 H1 Hf' H'→Rp X.K cl Hf' v p→Q u s') :
    wpAny (model X.prog X.w) X.A (eval e X.env) Q (ExP X cl pins σ Hf H ((f ρ).bind k)) s:=by
  have hf:f ρ≠.stuck:=fun z=>hs (by rw [z];rfl)
  refine wpAny_mono (h pins s σ Hf0 H0 Hf1 H1 ρ I r hf) (fun u s' q=>?_) fun u s' q=>?_
  · obtain ⟨p,v,Hf',H',e1,I',rv,ex,rp⟩:=q
    exact ok p v u s' Hf' H' (by rw [e1];rfl) I' rv ex rp
  · obtain ⟨c,e1,x⟩:=q
    exact ⟨c,by rw [e1];rfl,x.from e0⟩
theorem okp {t:Sem Value}{p:PV}{E:Value→Shared→Prop}
    (h:wpAny (model X.prog X.w) X.A t (EP (X.wish E) pins σ fun v H'=>∃ Hf',Ext Hf H Hf' H'∧Rp X.K cl Hf' v p) E s):wpAny (model X.prog X.w) X.A t (OkP X cl pins σ Hf H (.ok p)) E s :=
  thn h fun u s' ⟨v,H',I',rv,Hf',ex,rp⟩=>⟨p,v,Hf',H',rfl,I'.unwish,rv,ex,rp⟩
theorem OkP.from {e0:Ext Hf H Hf1 H1}{r:R PV}{u:Value}{s':Shared} (h:OkP X cl pins σ Hf1 H1 r u s'):OkP X cl pins σ Hf H r u s':=by
  obtain ⟨p,v,Hf',H',e1,I',rv,ex,rp⟩:=h
  exact ⟨p,v,Hf',H',e1,I',rv,e0.trans ex,rp⟩
theorem ExP.from {e0:Ext Hf H Hf1 H1}{r:R α}{u:Value}{s':Shared} (h:ExP X cl pins σ Hf1 H1 r u s'):ExP X cl pins σ Hf H r u s':=by
  obtain ⟨c,e1,x⟩:=h
  exact ⟨c,e1,x.from e0⟩
theorem me_var {i:Nat}{x:Str}{pos:Pos} (hN:X.N[i]?=some x) (hv:Vis X.env.scope x) (hd:(x == ("__debug__" : Str))=false:=by decide) (hcd:(x == ("__classdict__" : Str))=false:=by decide) :
    ME X cl (.Name x pos) (fVar i):=by
  refine ⟨?_⟩
  intro pins s σ Hf0 H0 Hf H ρ I r hs
  unfold fVar at hs ⊢
  cases e:getV ρ i with
  | stuck=>exact absurd e hs
  | exc c=>exact absurd e getV_noexc
  | ok p =>
    obtain ⟨v,h1,h2⟩:=r.var e
    generalize ExP X cl pins σ Hf H (R.ok p)=E
    refine okp ?_
    refine (pe_var (X:=X.wish E) hN hv hd hcd) pins s σ H _ (I.wish E) ?_
    exact ⟨v,h1,Hf,Ext.refl r.sub,h2⟩
theorem me_const {e:Expr}{v:V}{p:PV} (h:∀ E,PE (X.wish E) e (tC v)) (r:∀ Hf,Rp X.K cl Hf v p):ME X cl e (fC p):=by
  refine ⟨?_⟩
  intro pins s σ Hf0 H0 Hf H ρ I rr hs
  generalize ExP X cl pins σ Hf H (fC p ρ)=E
  refine okp ?_
  refine h E pins s σ H _ (I.wish E) ?_
  exact ⟨Hf,Ext.refl rr.sub,r Hf⟩
theorem me_int {i:Int}{j:Nat}{pos:Pos}:ME X cl (.Constant (.int i) j pos) (fC (.int i)):=me_const (fun _=>pe_int) fun _=>.int i
theorem me_bl {b:Bool}{j:Nat}{pos:Pos}:ME X cl (.Constant (.bool b) j pos) (fC (.bl b)):=me_const (fun _=>pe_bl) fun _=>.bl b
theorem me_non {j:Nat}{pos:Pos}:ME X cl (.Constant .none j pos) (fC .non):=me_const (fun _=>pe_non) fun _=>.non
theorem me_str {x:Str}{j:Nat}{pos:Pos}:ME X cl (.Constant (.str x) j pos) (fC (.str x)):=me_const (fun _=>pe_str) fun _=>.str x
theorem me_glob {x:Str}{v:V}{p:PV}{u:Value}{pos:Pos} (hg:Gl X x) (hm:X.mg x=some u) (rv:RelV v u) (r:∀ Hf,Rp X.K cl Hf v p) (hd:(x == ("__debug__" : Str))=false:=by decide):ME X cl (.Name x pos) (fC p) :=
  me_const (fun _=>pe_glob hg hm rv hd) r
def BinR (X:Cx) (cl:Nat→Addr) (f:Value→Value→Sem Value) (o:PV→PV→R PV):Prop :=
  ∀ (pins:List (Addr×Obj)) (s:Shared) (σ:SV) (Hf H:Hp) (x y:V) (v u:Value) (p q:PV),Inv X pins σ H s→Same Hf H→RelV x v→RelV y u→Rp X.K cl Hf x p→Rp X.K cl Hf y q→o p q≠.stuck →
    wpAny (model X.prog X.w) X.A (f v u) (OkP X cl pins σ Hf H (o p q)) (ExP X cl pins σ Hf H (o p q)) s
theorem two {a b:Expr}{fa fb:FE}{f:Value→Value→Sem Value}{o:PV→PV→R PV} (ha:ME X cl a fa) (hb:ME X cl b fb) (rule:BinR X cl f o) (I:Inv X pins σ H s) (r:Rep X.K cl Hf0 H0 Hf H σ ρ) (hs:fBin o fa fb ρ≠.stuck) :
    wpAny (model X.prog X.w) X.A (eval a X.env) (fun v s₁=>wpAny (model X.prog X.w) X.A (eval b X.env) (fun u s₂=>wpAny (model X.prog X.w) X.A (f v u)
      (OkP X cl pins σ Hf H (fBin o fa fb ρ)) (ExP X cl pins σ Hf H (fBin o fa fb ρ)) s₂) (ExP X cl pins σ Hf H (fBin o fa fb ρ)) s₁) (ExP X cl pins σ Hf H (fBin o fa fb ρ)) s:=by
  unfold fBin at hs ⊢
  refine ha.run I r (Ext.refl r.sub) hs fun p v u s1 Hf1 H1 e1 I1 rv x1 rp=>?_
  rw [e1] at hs ⊢
  refine hb.run I1 (r.keep x1) x1 hs fun q v' u' s2 Hf2 H2 e2 I2 rv' x2 rq=>?_
  rw [e2] at hs ⊢
  exact wpAny_mono (rule pins s2 σ Hf2 H2 v v' u u' p q I2 x2.sub rv rv' (rp.keep x2.frz) rq hs) (fun _ _ h=>h.from (e0:=x1.trans x2)) fun _ _ h=>h.from (e0:=x1.trans x2)
theorem me_bin {a b:Expr}{fa fb:FE}{op:Operator}{o:PV→PV→R PV}{pos:Pos} (rule:BinR X cl (binaryOp op) o) (ha:ME X cl a fa) (hb:ME X cl b fb):ME X cl (.BinOp a op b pos) (fBin o fa fb):=by
  refine ⟨?_⟩
  intro pins s σ Hf0 H0 Hf H ρ I r hs
  exact wpAny_BinOp (two ha hb rule I r hs)
theorem me_cmp {a b:Expr}{fa fb:FE}{op:CmpOp}{o:PV→PV→R PV}{pos:Pos} (rule:BinR X cl (compareOp op) o) (ha:ME X cl a fa) (hb:ME X cl b fb) (hm:behindInMarks op b=false):ME X cl (.Compare a [op] [b] pos) (fBin o fa fb):=by
  refine ⟨?_⟩
  intro pins s σ Hf0 H0 Hf H ρ I r hs
  exact wpAny_Compare1 (two ha hb rule I r hs) hm
def UnaR (X:Cx) (cl:Nat→Addr) (f:Value→Sem Value) (o:PV→R PV):Prop :=
  ∀ (pins:List (Addr×Obj)) (s:Shared) (σ:SV) (Hf H:Hp) (x:V) (v:Value) (p:PV),Inv X pins σ H s→Same Hf H→RelV x v→Rp X.K cl Hf x p→o p≠.stuck →
    wpAny (model X.prog X.w) X.A (f v) (OkP X cl pins σ Hf H (o p)) (ExP X cl pins σ Hf H (o p)) s
theorem me_una {a:Expr}{fa:FE}{op:UnaryOp}{o:PV→R PV}{pos:Pos} (rule:UnaR X cl (unaryOp op) o) (ha:ME X cl a fa):ME X cl (.UnaryOp op a pos) (fUn o fa):=by
  refine ⟨?_⟩
  intro pins s σ Hf0 H0 Hf H ρ I r hs
  unfold fUn at hs ⊢
  refine UnaryOp_ (ha.run I r (Ext.refl r.sub) hs fun p v u s1 Hf1 H1 e1 I1 rv x1 rp=>?_)
  rw [e1] at hs ⊢
  exact wpAny_mono (rule pins s1 σ Hf1 H1 v u p I1 x1.sub rv rp hs) (fun _ _ h=>h.from (e0:=x1)) fun _ _ h=>h.from (e0:=x1)
theorem intR {f:Value→Value→Sem Value}{o:PV→PV→R PV} (C:Int→Int→Prop) (g:Int→Int→Int) (ho:∀ p q,o p q≠.stuck→∃ i j,p = .int i∧q = .int j∧C i j∧o p q = .ok (.int (g i j)))
    (rule:∀ (i j:Int) (t u:Tok) (s:Shared) (Q:Value→Shared→Prop) (E:Value→Shared→Prop),C i j→Q (.int (g i j) s.toks) { s with toks:=s.toks+1 }→wpAny (model X.prog X.w) X.A (f (.int i t) (.int j u)) Q E s):BinR X cl f o:=by
  intro pins s σ Hf H x y v u p q I sm rv ru rp rq hs
  obtain ⟨i,j,rfl,rfl,hc,e⟩:=ho p q hs
  rw [e]
  cases rp;cases rq
  obtain ⟨t,rfl⟩:=rv
  obtain ⟨t',rfl⟩:=ru
  exact rule i j t t' s _ _ hc ⟨_,.int (g i j),Hf,H,rfl,I.tok _,⟨_,rfl⟩,Ext.refl sm,.int _⟩
theorem intB {f:Value→Value→Sem Value}{o:PV→PV→R PV} (g:Int→Int→Bool) (ho:∀ p q,o p q≠.stuck→∃ i j,p = .int i∧q = .int j∧o p q = .ok (.bl (g i j)))
    (rule:∀ (i j:Int) (t u:Tok) (s:Shared) (Q:Value→Shared→Prop) (E:Value→Shared→Prop),Q (.bool (g i j)) s→wpAny (model X.prog X.w) X.A (f (.int i t) (.int j u)) Q E s):BinR X cl f o:=by
  intro pins s σ Hf H x y v u p q I sm rv ru rp rq hs
  obtain ⟨i,j,rfl,rfl,e⟩:=ho p q hs
  rw [e]
  cases rp;cases rq
  obtain ⟨t,rfl⟩:=rv
  obtain ⟨t',rfl⟩:=ru
  exact rule i j t t' s _ _ ⟨_,.bl (g i j),Hf,H,rfl,I,rfl,Ext.refl sm,.bl _⟩
end
theorem two_pow_pos' (k:Nat):(0:Int)<2 ^ k:=Int.pow_pos (by decide)
section
variable {X:Cx}{cl:Nat→Addr}
theorem r_sub:BinR X cl (binaryOp .Sub) oSub:=intR (fun _ _=>True) (fun i j=>i - j)
  (fun p q h=>by cases p<;>cases q<;>first | exact ⟨_,_,rfl,rfl,trivial,rfl⟩ | exact absurd rfl h) fun _ _ _ _ _ _ _ _ q=>sub_int q
theorem ifOk {c:Prop} [Decidable c] {a:PV} (h:(if c then R.ok a else R.stuck)≠.stuck):c∧(if c then R.ok a else R.stuck) = .ok a:=by
  by_cases hc:c
  · exact ⟨hc,if_pos hc⟩
  · rw [if_neg hc] at h;exact absurd rfl h
theorem r_mul:BinR X cl (binaryOp .Mult) oMul:=intR (fun i j=>nb i≤64∨nb j≤64∨nb i+nb j≤bitsMax) (fun i j=>i*j)
  (fun p q h=>by
    cases p<;>cases q<;>first
      | exact absurd rfl h
      | exact ⟨_,_,rfl,rfl,(ifOk h).1,(ifOk h).2⟩) fun i j _ _ _ _ _ hc q=>mul_int q (by
    rcases hc with hc | hc | hc
    · exact .of_left hc
    · exact .of_right hc
    · exact .of_le (Nat.le_refl _) (Nat.le_refl _) hc)
theorem r_mod:BinR X cl (binaryOp .Mod) oMod:=intR (fun _ j=>0<j) (fun i j=>i % j)
  (fun p q h=>by
    cases p<;>cases q<;>first
      | exact absurd rfl h
      | exact ⟨_,_,rfl,rfl,(ifOk h).1,(ifOk h).2⟩) fun i j _ _ _ _ _ hc q=>mod_int' (by omega) (by rw [Int.fmod_eq_emod_of_nonneg i (by omega)];exact q)
theorem log2_of_nb {j:Int}{k:Nat} (h0:j≠0) (h:nb j≤k):j.natAbs.log2<k:=by
  have e:nb j=j.natAbs.log2+1:=by
    show (if j == 0 then 0 else j.natAbs.log2+1)=_
    rw [if_neg (by simpa using h0)]
  omega
theorem r_div:BinR X cl (binaryOp .FloorDiv) oDiv:=intR (fun _ j=>0<j∧nb j≤9000) (fun i j=>i / j)
  (fun p q h=>by
    cases p<;>cases q<;>first
      | exact absurd rfl h
      | exact ⟨_,_,rfl,rfl,(ifOk h).1,(ifOk h).2⟩) fun i j _ _ _ _ _ hc q=>floordiv_int (by omega) (by rw [Int.fdiv_eq_ediv_of_nonneg i (by omega)];exact q)
        (.inl (PyProof.noPylong_of_log2 (log2_of_nb (by omega) hc.2)))
theorem natAbs_of_nb {j:Int}{k:Nat} (h:nb j≤k):j.natAbs<2 ^ k:=PySem.intBits_le_iff.mp h
theorem r_pow:BinR X cl (binaryOp .Pow) oPow:=intR (fun i j=>0≤j∧j≤1000000∧nb i≤64) (fun i j=>i ^ j.toNat)
  (fun p q h=>by
    cases p<;>cases q<;>first
      | exact absurd rfl h
      | exact ⟨_,_,rfl,rfl,(ifOk h).1,(ifOk h).2⟩) fun i j _ _ _ _ _ hc q=>pow_int_small hc.1 hc.2.1 (natAbs_of_nb hc.2.2) q
theorem r_shl:BinR X cl (binaryOp .LShift) oShl:=intR (fun i j=>0≤j∧nb i+j≤134217728) (fun i j=>i*2 ^ j.toNat)
  (fun p q h=>by
    cases p<;>cases q<;>first
      | exact absurd rfl h
      | exact ⟨_,_,rfl,rfl,(ifOk h).1,(ifOk h).2⟩) fun i j _ _ _ _ _ hc q=>lshift_int hc.1 hc.2 q
theorem r_shr:BinR X cl (binaryOp .RShift) oShr:=intR (fun _ j=>0≤j) (fun i j=>i / 2 ^ j.toNat)
  (fun p q h=>by
    cases p<;>cases q<;>first
      | exact absurd rfl h
      | exact ⟨_,_,rfl,rfl,(ifOk h).1,(ifOk h).2⟩) fun i j _ _ _ _ _ hc q=>rshift_int hc (by rw [Int.fdiv_eq_ediv_of_nonneg i (Int.le_of_lt (two_pow_pos' _))];exact q)
theorem r_and:BinR X cl (binaryOp .BitAnd) oAnd:=intR (fun _ _=>True) (fun i j=>Builtin.bitAnd i j)
  (fun p q h=>by cases p<;>cases q<;>first | exact ⟨_,_,rfl,rfl,trivial,rfl⟩ | exact absurd rfl h) fun _ _ _ _ _ _ _ _ q=>and_int q
theorem r_xor:BinR X cl (binaryOp .BitXor) oXor:=intR (fun _ _=>True) (fun i j=>Builtin.bitXor i j)
  (fun p q h=>by cases p<;>cases q<;>first | exact ⟨_,_,rfl,rfl,trivial,rfl⟩ | exact absurd rfl h) fun _ _ _ _ _ _ _ _ q=>xor_int q
theorem r_lt:BinR X cl (compareOp .Lt) cLt:=intB (fun i j=>decide (i<j))
  (fun p q h=>by cases p<;>cases q<;>first | exact ⟨_,_,rfl,rfl,rfl⟩ | exact absurd rfl h) fun _ _ _ _ _ _ _ q=>lt_int q
theorem r_le:BinR X cl (compareOp .LtE) cLe:=intB (fun i j=>decide (i≤j))
  (fun p q h=>by cases p<;>cases q<;>first | exact ⟨_,_,rfl,rfl,rfl⟩ | exact absurd rfl h) fun _ _ _ _ _ _ _ q=>le_int q
theorem r_gt:BinR X cl (compareOp .Gt) cGt:=intB (fun i j=>decide (j<i))
  (fun p q h=>by cases p<;>cases q<;>first | exact ⟨_,_,rfl,rfl,rfl⟩ | exact absurd rfl h) fun _ _ _ _ _ _ _ q=>gt_int q
theorem r_ge:BinR X cl (compareOp .GtE) cGe:=intB (fun i j=>decide (j≤i))
  (fun p q h=>by cases p<;>cases q<;>first | exact ⟨_,_,rfl,rfl,rfl⟩ | exact absurd rfl h) fun _ _ _ _ _ _ _ q=>ge_int q
theorem r_neg:UnaR X cl (unaryOp .USub) oNeg:=by
  intro pins s σ Hf H x v p I sm rv rp hs
  cases p with
  | int i =>
    cases rp
    obtain ⟨t,rfl⟩:=rv
    exact neg_int ⟨_,.int (-i),Hf,H,rfl,I.tok _,⟨_,rfl⟩,Ext.refl sm,.int _⟩
  | _=>exact absurd rfl hs
end
section
variable {X:Cx}{cl:Nat→Addr}{pins:List (Addr×Obj)}{s:Shared}{σ:SV}{Hf0 H0 Hf H Hf1 H1:Hp}{ρ:MEnv}{α:Type}
structure MW (X:Cx) (cl:Nat→Addr) (e:Expr) (f:FT):Prop where
  run':∀ (whole:Sem Value) (pins:List (Addr×Obj)) (s:Shared) (σ:SV) (Hf0 H0 Hf H:Hp) (ρ:MEnv),Inv X pins σ H s→Rep X.K cl Hf0 H0 Hf H σ ρ→f ρ≠.stuck →
    wpAny (model X.prog X.w) X.A (isTrue e X.env whole) (OkT X pins σ Hf H (f ρ)) (ExP X cl pins σ Hf H (f ρ)) s
instance {X:Cx}{cl:Nat→Addr}{e:Expr}{f:FT}:CoeFun (MW X cl e f) fun _=>∀ (whole:Sem Value) (pins:List (Addr×Obj)) (s:Shared) (σ:SV) (Hf0 H0 Hf H:Hp) (ρ:MEnv),Inv X pins σ H s→Rep X.K cl Hf0 H0 Hf H σ ρ→f ρ≠.stuck →
    wpAny (model X.prog X.w) X.A (isTrue e X.env whole) (OkT X pins σ Hf H (f ρ)) (ExP X cl pins σ Hf H (f ρ)) s:=⟨MW.run'⟩
theorem MW.mt {e:Expr}{f:FT} (h:MW X cl e f):MT X cl e f:=⟨h.run' _⟩
theorem MT.run {e:Expr}{f:FT} (h:MT X cl e f) (I:Inv X pins σ H1 s) (r:Rep X.K cl Hf0 H0 Hf1 H1 σ ρ) (e0:Ext Hf H Hf1 H1) {k:Bool→R α} (hs:(f ρ).bind k≠.stuck) {Q:Bool→Shared→Prop}
    (ok:∀ c s' Hf' H',(f ρ).bind k=k c→Inv X pins σ H' s'→Ext Hf1 H1 Hf' H'→Q c s') :
    wpAny (model X.prog X.w) X.A (isTrue e X.env (eval e X.env)) Q (ExP X cl pins σ Hf H ((f ρ).bind k)) s:=by
  have hf:f ρ≠.stuck:=fun z=>hs (by rw [z];rfl)
  refine wpAny_mono (h pins s σ Hf0 H0 Hf1 H1 ρ I r hf) (fun c s' q=>?_) fun u s' q=>?_
  · obtain ⟨Hf',H',e1,I',ex⟩:=q
    exact ok c s' Hf' H' (by rw [e1];rfl) I' ex
  · obtain ⟨c,e1,x⟩:=q
    exact ⟨c,by rw [e1];rfl,x.from e0⟩
theorem OkT.from {e0:Ext Hf H Hf1 H1}{r:R Bool}{b:Bool}{s':Shared} (h:OkT X pins σ Hf1 H1 r b s'):OkT X pins σ Hf H r b s':=by
  obtain ⟨Hf',H',e1,I',ex⟩:=h
  exact ⟨Hf',H',e1,I',e0.trans ex⟩
theorem truth_ok {p:PV}{v:V}{u:Value}{E:Value→Shared→Prop} (I:Inv X pins σ H s) (sm:Same Hf H) (rv:RelV v u) (rp:Rp X.K cl Hf v p) (hs:truthP p≠.stuck) :
    wpAny (model X.prog X.w) X.A (truthy u) (OkT X pins σ Hf H (truthP p)) E s:=by
  cases p with
  | non=>cases rp;cases rv;exact truthy_none ⟨Hf,H,rfl,I,Ext.refl sm⟩
  | bl b=>cases rp;cases rv;exact wpAny_truthy_bool ⟨Hf,H,rfl,I,Ext.refl sm⟩
  | int i=>cases rp;obtain ⟨t,rfl⟩:=rv;exact PySem.P.truthy_int ⟨Hf,H,rfl,I,Ext.refl sm⟩
  | lst l =>
    cases rp with
    | lst h r =>
      cases rv
      obtain ⟨its,w,pl,z⟩:=I.list (sm.seq h)
      have hl:its.length=l.length:=by rw [← w.length,r.length]
      have hz:l.length≤sizeLine:=by rw [← r.length];exact z
      refine wpAny_truthy_list pl.isList (by rw [List.size_toArray,hl];have:sizeLine<2 ^ 63:=by decide
                                             omega) ⟨Hf,H,?_,I.tok _,Ext.refl sm⟩
      show R.ok (!l.isEmpty)=R.ok _
      congr 1
      cases its with
      | nil=>cases l with
        | nil=>rfl
        | cons=>simp at hl
      | cons=>cases l with
        | nil=>simp at hl
        | cons=>simp
  | str z =>
    cases rp;obtain ⟨t,rfl⟩:=rv
    have hs':(if z.length≤sizeLine then R.ok ((z.length:Int) != 0) else R.stuck)≠.stuck:=hs
    have hz:z.length≤sizeLine:=Decidable.byContradiction fun c=>hs' (by rw [if_neg c])
    refine PySem.P.truthy_str (by have:sizeLine<2 ^ 63:=by decide
                                  omega) ⟨Hf,H,?_,I.tok _,Ext.refl sm⟩
    show (if z.length≤sizeLine then R.ok ((z.length:Int) != 0) else R.stuck)=_
    rw [if_pos hz]
  | _=>exact absurd rfl hs
theorem mt_val {e:Expr}{f:FE} (h:ME X cl e f) (he:∀ whole,isTrue e X.env whole=(do let v ← whole;standAt e.pos;holding [v] (truthy v)):=by intro _;rfl):MT X cl e (tVal f):=by
  refine ⟨?_⟩
  intro pins s σ Hf0 H0 Hf H ρ I r hs
  unfold tVal at hs ⊢
  refine isTrue_plain (h.run I r (Ext.refl r.sub) hs fun p v u s1 Hf1 H1 e1 I1 rv x1 rp=>?_) (he _)
  rw [e1] at hs ⊢
  exact thn (truth_ok I1 x1.sub rv rp hs) fun _ _ q=>q.from (e0:=x1)
theorem two_t {a b:Expr}{fa fb:FE}{f:Value→Value→Sem Value}{o:PV→PV→R PV} (ha:ME X cl a fa) (hb:ME X cl b fb) (rule:BinR X cl f o) (I:Inv X pins σ H s) (r:Rep X.K cl Hf0 H0 Hf H σ ρ) (hs:tVal (fBin o fa fb) ρ≠.stuck) :
    wpAny (model X.prog X.w) X.A (eval a X.env) (fun v s₁=>wpAny (model X.prog X.w) X.A (eval b X.env) (fun u s₂=>wpAny (model X.prog X.w) X.A (f v u)
      (fun c s₃=>wpAny (model X.prog X.w) X.A (truthy c) (OkT X pins σ Hf H (tVal (fBin o fa fb) ρ)) (ExP X cl pins σ Hf H (tVal (fBin o fa fb) ρ)) s₃)
      (ExP X cl pins σ Hf H (tVal (fBin o fa fb) ρ)) s₂) (ExP X cl pins σ Hf H (tVal (fBin o fa fb) ρ)) s₁) (ExP X cl pins σ Hf H (tVal (fBin o fa fb) ρ)) s:=by
  unfold tVal at hs ⊢
  have hs':fBin o fa fb ρ≠.stuck:=fun z=>hs (by rw [z];rfl)
  refine wpAny_mono (two ha hb rule I r hs') (fun v s1 h1=>wpAny_mono h1 (fun u s2 h2=>wpAny_mono h2 (fun c s3 h3=>?_) ?_) ?_) ?_
  · obtain ⟨p,v',Hf',H',e1,I',rv,ex,rp⟩:=h3
    rw [e1] at hs ⊢
    exact thn (truth_ok I' ex.sub rv rp hs) fun _ _ q=>q.from (e0:=ex)
  all_goals
    intro u s' q
    obtain ⟨c,e1,x⟩:=q
    exact ⟨c,by rw [e1];rfl,x⟩
theorem mt_cmp {a b:Expr}{fa fb:FE}{op:CmpOp}{o:PV→PV→R PV}{pos:Pos} (rule:BinR X cl (compareOp op) o) (ha:ME X cl a fa) (hb:ME X cl b fb) (hm:behindInMarks op b=false):MT X cl (.Compare a [op] [b] pos) (tVal (fBin o fa fb)):=by
  refine ⟨?_⟩
  intro pins s σ Hf0 H0 Hf H ρ I r hs
  exact wpAny_isTrue_Compare1 (two_t ha hb rule I r hs) hm
theorem mt_not {a:Expr}{f:FT}{pos:Pos} (h:MT X cl a f):MT X cl (.UnaryOp .Not a pos) (tNot f):=by
  refine ⟨?_⟩
  intro pins s σ Hf0 H0 Hf H ρ I r hs
  unfold tNot at hs ⊢
  refine isTrue_not (h.run I r (Ext.refl r.sub) hs fun c s1 Hf1 H1 e1 I1 x1=>?_)
  rw [e1]
  exact ⟨Hf1,H1,rfl,I1,x1⟩
theorem mw_and1 {a:Expr}{f:FT}{pos:Pos} (h:MT X cl a f):MW X cl (.BoolOp .And [a] pos) f:=by
  refine ⟨?_⟩
  intro wh pins s σ Hf0 H0 Hf H ρ I r hs
  refine isTrue_and (thn (h pins s σ Hf0 H0 Hf H ρ I r hs) fun c s1 q=>?_)
  cases c with
  | true=>exact isTrue_and_nil q
  | false=>exact q
theorem mw_or1 {a:Expr}{f:FT}{pos:Pos} (h:MT X cl a f):MW X cl (.BoolOp .Or [a] pos) f:=by
  refine ⟨?_⟩
  intro wh pins s σ Hf0 H0 Hf H ρ I r hs
  refine isTrue_or (thn (h pins s σ Hf0 H0 Hf H ρ I r hs) fun c s1 q=>?_)
  cases c with
  | false=>exact isTrue_or_nil q
  | true=>exact q
theorem mw_and {a b:Expr}{rest:List Expr}{f g:FT}{pos:Pos} (h:MT X cl a f) (hb:MW X cl (.BoolOp .And (b::rest) pos) g):MW X cl (.BoolOp .And (a::b::rest) pos) (tAnd f g):=by
  refine ⟨?_⟩
  intro wh pins s σ Hf0 H0 Hf H ρ I r hs
  unfold tAnd at hs ⊢
  refine isTrue_and (h.run I r (Ext.refl r.sub) hs fun c s1 Hf1 H1 e1 I1 x1=>?_)
  rw [e1] at hs ⊢
  cases c with
  | true=>exact wpAny_mono (hb wh pins s1 σ Hf0 H0 Hf1 H1 ρ I1 (r.keep x1) hs) (fun _ _ q=>q.from (e0:=x1)) fun _ _ q=>q.from (e0:=x1)
  | false=>exact ⟨Hf1,H1,rfl,I1,x1⟩
theorem mw_or {a b:Expr}{rest:List Expr}{f g:FT}{pos:Pos} (h:MT X cl a f) (hb:MW X cl (.BoolOp .Or (b::rest) pos) g):MW X cl (.BoolOp .Or (a::b::rest) pos) (tOr f g):=by
  refine ⟨?_⟩
  intro wh pins s σ Hf0 H0 Hf H ρ I r hs
  unfold tOr at hs ⊢
  refine isTrue_or (h.run I r (Ext.refl r.sub) hs fun c s1 Hf1 H1 e1 I1 x1=>?_)
  rw [e1] at hs ⊢
  cases c with
  | false=>exact wpAny_mono (hb wh pins s1 σ Hf0 H0 Hf1 H1 ρ I1 (r.keep x1) hs) (fun _ _ q=>q.from (e0:=x1)) fun _ _ q=>q.from (e0:=x1)
  | true=>exact ⟨Hf1,H1,rfl,I1,x1⟩
theorem oBool_some {p:PV} (h:oBool p≠.stuck):∃ b,p = .bl b∧oBool p = .ok b:=by
  cases p with
  | bl b=>exact ⟨b,rfl,rfl⟩
  | _=>exact absurd rfl h
theorem me_one {a:Expr}{f:FE}{op:BoolOp}{pos:Pos} (h:ME X cl a f):ME X cl (.BoolOp op [a] pos) f:=⟨fun pins s σ Hf0 H0 Hf H ρ I r hs=>BoolOp_one (h pins s σ Hf0 H0 Hf H ρ I r hs)⟩
theorem me_and {a b:Expr}{rest:List Expr}{f g:FE}{pos:Pos} (h:ME X cl a f) (hb:ME X cl (.BoolOp .And (b::rest) pos) g):ME X cl (.BoolOp .And (a::b::rest) pos) (fAnd f g):=by
  refine ⟨?_⟩
  intro pins s σ Hf0 H0 Hf H ρ I r hs
  unfold fAnd at hs ⊢
  refine BoolOp_and (h.run I r (Ext.refl r.sub) hs fun p v u s1 Hf1 H1 e1 I1 rv x1 rp=>?_)
  rw [e1] at hs ⊢
  obtain ⟨c,rfl,e2⟩:=oBool_some (p:=p) fun z=>hs (by rw [z];rfl)
  rw [e2] at hs ⊢
  cases rp;cases rv
  refine wpAny_truthy_bool ?_
  cases c with
  | true=>exact wpAny_mono (hb pins s1 σ Hf0 H0 Hf1 H1 ρ I1 (r.keep x1) hs) (fun _ _ q=>q.from (e0:=x1)) fun _ _ q=>q.from (e0:=x1)
  | false=>exact ⟨_,.bl false,Hf1,H1,rfl,I1,rfl,x1,.bl false⟩
theorem me_or {a b:Expr}{rest:List Expr}{f g:FE}{pos:Pos} (h:ME X cl a f) (hb:ME X cl (.BoolOp .Or (b::rest) pos) g):ME X cl (.BoolOp .Or (a::b::rest) pos) (fOr f g):=by
  refine ⟨?_⟩
  intro pins s σ Hf0 H0 Hf H ρ I r hs
  unfold fOr at hs ⊢
  refine BoolOp_or (h.run I r (Ext.refl r.sub) hs fun p v u s1 Hf1 H1 e1 I1 rv x1 rp=>?_)
  rw [e1] at hs ⊢
  obtain ⟨c,rfl,e2⟩:=oBool_some (p:=p) fun z=>hs (by rw [z];rfl)
  rw [e2] at hs ⊢
  cases rp;cases rv
  refine wpAny_truthy_bool ?_
  cases c with
  | false=>exact wpAny_mono (hb pins s1 σ Hf0 H0 Hf1 H1 ρ I1 (r.keep x1) hs) (fun _ _ q=>q.from (e0:=x1)) fun _ _ q=>q.from (e0:=x1)
  | true=>exact ⟨_,.bl true,Hf1,H1,rfl,I1,rfl,x1,.bl true⟩
theorem me_not {a:Expr}{f:FE}{pos:Pos} (h:ME X cl a f):ME X cl (.UnaryOp .Not a pos) (fNot f):=by
  refine ⟨?_⟩
  intro pins s σ Hf0 H0 Hf H ρ I r hs
  unfold fNot at hs ⊢
  refine UnaryOp_ (h.run I r (Ext.refl r.sub) hs fun p v u s1 Hf1 H1 e1 I1 rv x1 rp=>?_)
  rw [e1] at hs ⊢
  obtain ⟨c,rfl,e2⟩:=oBool_some (p:=p) fun z=>hs (by rw [z];rfl)
  rw [e2]
  cases rp;cases rv
  exact not_of (wpAny_truthy_bool ⟨_,.bl (!c),Hf1,H1,rfl,I1,rfl,x1,.bl _⟩)
theorem me_if {c a b:Expr}{t:FT}{f g:FE}{pos:Pos} (hc:MT X cl c t) (ha:ME X cl a f) (hb:ME X cl b g):ME X cl (.IfExp c a b pos) (fIf t f g):=by
  refine ⟨?_⟩
  intro pins s σ Hf0 H0 Hf H ρ I r hs
  unfold fIf at hs ⊢
  refine wpAny_IfExp (hc.run I r (Ext.refl r.sub) hs fun d s1 Hf1 H1 e1 I1 x1=>?_)
  rw [e1] at hs ⊢
  cases d with
  | true=>exact wpAny_mono (ha pins s1 σ Hf0 H0 Hf1 H1 ρ I1 (r.keep x1) hs) (fun _ _ q=>q.from (e0:=x1)) fun _ _ q=>q.from (e0:=x1)
  | false=>exact wpAny_mono (hb pins s1 σ Hf0 H0 Hf1 H1 ρ I1 (r.keep x1) hs) (fun _ _ q=>q.from (e0:=x1)) fun _ _ q=>q.from (e0:=x1)
theorem me_chain {a b c:Expr}{fa fb fc:FE}{op op':CmpOp}{o o':PV→PV→R PV}{pos:Pos} (h1:BinR X cl (compareOp op) o) (h2:BinR X cl (compareOp op') o') (ha:ME X cl a fa) (hb:ME X cl b fb) (hc:ME X cl c fc)
    (hm:lastMarks [op,op'] [b,c]=false:=by with_unfolding_all rfl):ME X cl (.Compare a [op,op'] [b,c] pos) (fChain o o' fa fb fc):=by
  refine ⟨?_⟩
  intro pins s σ Hf0 H0 Hf H ρ I r hs
  unfold fChain at hs ⊢
  refine Compare_chain (ha.run I r (Ext.refl r.sub) hs fun p v u s1 Hf1 H1 e1 I1 rv x1 rp=>chain_link ?_) hm
  rw [e1] at hs ⊢
  refine hb.run I1 (r.keep x1) x1 hs fun q v' u' s2 Hf2 H2 e2 I2 rv' x2 rq=>?_
  rw [e2] at hs ⊢
  have x12:=x1.trans x2
  have ho:o p q≠.stuck:=fun z=>hs (by rw [z];rfl)
  refine wpAny_mono (h1 pins s2 σ Hf2 H2 v v' u u' p q I2 x2.sub rv rv' (rp.keep x2.frz) rq ho) (fun d s3 h3=>?_) fun d s3 h3=>?_
  · obtain ⟨z,v3,Hf3,H3,e3,I3,rv3,x3,rp3⟩:=h3
    rw [e3] at hs ⊢
    have hs0:(oBool z).bind (fun k=>if k=true then (fc ρ).bind fun w=>o' q w else R.ok (PV.bl false))≠.stuck:=hs
    obtain ⟨k,rfl,e4⟩:=oBool_some (p:=z) fun y=>hs0 (by rw [y];rfl)
    cases rp3;cases rv3
    refine wpAny_truthy_bool ?_
    have x13:=x12.trans x3
    cases k with
    | false=>exact ite_ff ⟨_,.bl false,Hf3,H3,rfl,I3,rfl,x13,.bl false⟩
    | true =>
      have hs1:(fc ρ).bind (fun w=>o' q w)≠.stuck:=hs
      refine ite_tt (chain_last ?_)
      show wpAny _ _ _ (fun b s₁=>wpAny _ _ _ (OkP X cl pins σ Hf H ((fc ρ).bind fun w=>o' q w)) (ExP X cl pins σ Hf H ((fc ρ).bind fun w=>o' q w)) s₁) (ExP X cl pins σ Hf H ((fc ρ).bind fun w=>o' q w)) s3
      refine hc.run I3 (r.keep x13) x13 hs1 fun w v5 u5 s5 Hf5 H5 e5 I5 rv5 x5 rw'=>?_
      rw [e5] at hs1 ⊢
      exact wpAny_mono (h2 pins s5 σ Hf5 H5 v' v5 u' u5 q w I5 x5.sub rv' rv5 (rq.keep (x3.trans x5).frz) rw' hs1) (fun _ _ q=>q.from (e0:=x13.trans x5)) fun _ _ q=>q.from (e0:=x13.trans x5)
  · obtain ⟨c,e3,y⟩:=h3
    exact ⟨c,by rw [e3];rfl,y.from x12⟩
structure MA (X:Cx) (cl:Nat→Addr) (es:List Expr) (f:FA):Prop where
  len:∀ ρ ps,f ρ = .ok ps→ps.length=es.length
  run':∀ (pos:Pos) (pins:List (Addr×Obj)) (s:Shared) (σ:SV) (Hf0 H0 Hf H:Hp) (ρ:MEnv),Inv X pins σ H s→Rep X.K cl Hf0 H0 Hf H σ ρ→f ρ≠.stuck →
    wpAny (model X.prog X.w) X.A (spliced (backTo pos (starEach es X.env))) (OkA X cl pins σ Hf H (f ρ)) (ExP X cl pins σ Hf H (f ρ)) s
theorem ma_nil:MA X cl [] aNil:=⟨fun _ ps h=>by cases h;rfl,fun pos pins s σ Hf0 H0 Hf H ρ I r _=>Calls.spliced_nil ⟨[],[],Hf,H,rfl,I,.nil,Ext.refl r.sub,.nil⟩⟩
theorem ma_cons {e:Expr}{es:List Expr}{f:FE}{g:FA} (h:ME X cl e f) (hr:MA X cl es g) (hst:starEach (e::es) X.env=(false,eval e X.env)::starEach es X.env:=by rfl):MA X cl (e::es) (aCons f g):=by
  refine ⟨fun ρ ps q=>?_,?_⟩
  · unfold aCons at q
    cases e1:f ρ with
    | stuck=>rw [e1] at q;cases q
    | exc c=>rw [e1] at q;cases q
    | ok p =>
      rw [e1] at q
      cases e2:g ρ with
      | stuck=>rw [R.bind_ok,e2] at q;cases q
      | exc c=>rw [R.bind_ok,e2] at q;cases q
      | ok qs =>
        rw [R.bind_ok,e2] at q
        cases q
        have:=hr.1 ρ qs e2
        rw [List.length_cons,List.length_cons,this]
  intro pos pins s σ Hf0 H0 Hf H ρ I r hs
  unfold aCons at hs ⊢
  rw [hst]
  show wpAny _ _ (spliced ((false,eval e X.env)::backTo pos (starEach es X.env))) _ _ s
  refine Calls.spliced_cons (h.run I r (Ext.refl r.sub) hs fun p v u s1 Hf1 H1 e1 I1 rv x1 rp=>?_)
  rw [e1] at hs ⊢
  have hg:g ρ≠.stuck:=fun z=>hs (by rw [z];rfl)
  refine wpAny_mono (hr.2 pos pins s1 σ Hf0 H0 Hf1 H1 ρ I1 (r.keep x1) hg) (fun us s2 h2=>?_) fun u2 s2 h2=>?_
  · obtain ⟨ps,vs,Hf2,H2,e2,I2,rvs,x2,rps⟩:=h2
    exact ⟨p::ps,v::vs,Hf2,H2,by rw [e2];rfl,I2,.cons rv rvs,x1.trans x2,.cons (rp.keep x2.frz) rps⟩
  · obtain ⟨c,e2,y⟩:=h2
    exact ⟨c,by rw [e2];rfl,y.from x1⟩
theorem MA.run {es:List Expr}{f:FA} (h:MA X cl es f) (pos:Pos) (I:Inv X pins σ H1 s) (r:Rep X.K cl Hf0 H0 Hf1 H1 σ ρ) (e0:Ext Hf H Hf1 H1) {k:List PV→R α} (hs:(f ρ).bind k≠.stuck) {Q:List Value→Shared→Prop}
    (ok:∀ ps vs us s' Hf' H',ps.length=es.length→(f ρ).bind k=k ps→Inv X pins σ H' s'→Vals vs us→Ext Hf1 H1 Hf' H'→Rps X.K cl Hf' vs ps→Q us s') :
    wpAny (model X.prog X.w) X.A (spliced (backTo pos (starEach es X.env))) Q (ExP X cl pins σ Hf H ((f ρ).bind k)) s:=by
  have hf:f ρ≠.stuck:=fun z=>hs (by rw [z];rfl)
  refine wpAny_mono (h.2 pos pins s σ Hf0 H0 Hf1 H1 ρ I r hf) (fun u s' q=>?_) fun u s' q=>?_
  · obtain ⟨ps,vs,Hf',H',e1,I',rv,ex,rp⟩:=q
    exact ok ps vs u s' Hf' H' (h.1 ρ ps e1) (by rw [e1];rfl) I' rv ex rp
  · obtain ⟨c,e1,x⟩:=q
    exact ⟨c,by rw [e1];rfl,x.from e0⟩
theorem laid_seq {o:HO}{p:PV} (hn:H s.heap.objs.size=none) (sm:Same Hf H) {h':Heap}{tk:Nat} (I:Inv X pins σ (upd H s.heap.objs.size o) { s with heap:=h',toks:=tk })
    (rp:Rp X.K cl (upd Hf s.heap.objs.size o) (.ref s.heap.objs.size) p):OkP X cl pins σ Hf H (.ok p) (.ref s.heap.objs.size) { s with heap:=h',toks:=tk } :=
  ⟨p,.ref s.heap.objs.size,_,_,rfl,I,rfl,Ext.new sm hn o,rp⟩
theorem me_tup {es:List Expr}{f:FA}{k:Nat}{pos:Pos} (h:MA X cl es f):ME X cl (.Tuple es k pos) (fTup f):=by
  refine ⟨?_⟩
  intro pins s σ Hf0 H0 Hf H ρ I r hs
  unfold fTup at hs ⊢
  refine wpAny_Tuple_spliced (h.run pos I r (Ext.refl r.sub) hs fun ps vs us s1 Hf1 H1 _ e1 I1 rv x1 rps=>?_)
  rw [e1] at hs ⊢
  obtain ⟨hz,e2⟩:=ifOk hs
  rw [e2]
  have z:vs.length≤sizeLine:=by rw [rps.length];exact hz
  refine ⟨by rw [← rv.length];exact z,?_⟩
  have hf:H1 s1.heap.objs.size=none:=I1.hok.fresh (Nat.le_refl _)
  refine OkP.from (e0:=x1) (laid_seq (tk:=s1.toks) hf x1.sub (I1.laid (t':=s1.toks) (o:=.tup vs) (fun b u e=>Heap.get?_push_of_some _ e) (Nat.le_refl _) ?_) (.tup (SqT.of upd_same) (rps.keep (same_upd (x1.sub.free hf) _))))
  exact ⟨z,us,rv,⟨_,Heap.get?_push_size _ rfl,rfl,_,rfl⟩⟩
theorem me_lst {es:List Expr}{f:FA}{pos:Pos} (h:MA X cl es f):ME X cl (.List es pos) (fLst f):=by
  refine ⟨?_⟩
  intro pins s σ Hf0 H0 Hf H ρ I r hs
  unfold fLst at hs ⊢
  refine wpAny_List_spliced (h.run pos I r (Ext.refl r.sub) hs fun ps vs us s1 Hf1 H1 _ e1 I1 rv x1 rps=>?_)
  rw [e1] at hs ⊢
  obtain ⟨hz,e2⟩:=ifOk hs
  rw [e2]
  have z:vs.length≤sizeLine:=by rw [rps.length];exact hz
  refine ⟨by rw [← rv.length];exact z,?_⟩
  have hf:H1 s1.heap.objs.size=none:=I1.hok.fresh (Nat.le_refl _)
  refine OkP.from (e0:=x1) (laid_seq (tk:=s1.toks) hf x1.sub (I1.laid (t':=s1.toks) (o:=.lst vs) (fun b u e=>Heap.get?_push_of_some _ e) (Nat.le_refl _) ?_) (.lst (SqL.of upd_same) (rps.keep (same_upd (x1.sub.free hf) _))))
  exact ⟨z,us,0,rv,Heap.get?_push_size _ rfl⟩
def CXm (cl:Nat→Addr) (P:Program) (w:World):CXT:=fun outer H s E e s' =>
  ∃ (a:Addr) (c:Nat) (H':Hp) (B:Heap) (a0:Value),e = .ref a∧s'.os=s.os∧AllBare s'.gens∧Un (frs outer) [] H H' s.heap s'.heap∧HOk P w H' s'.heap∧Heap.FlyingW B outer a (.ref (cl c)) a0 s'.heap ∧
    (∀ b o,s'.heap.get? b=some o→(H' b≠none∨∃ o₀,s.heap.get? b=some o₀)→b ∉ frs outer→B.get? b=some o)∧NoD a s'.heap∧E (.ref (cl c)) none H'
def spF (K:PySem.W.Frag) (cl:Nat→Addr) (n:Nat) (F:List PV→R PV):Sp:=fun vs H Q E=>vs.length=n∧∃ Hf ps,Same Hf H∧Rps K cl Hf vs ps∧F ps≠.stuck ∧
  (∀ p v Hf' H',F ps = .ok p→Ext Hf H Hf' H'→Rp K cl Hf' v p→Q v H')∧∀ c Hf' H',F ps = .exc c→Ext Hf H Hf' H'→E (.ref (cl c)) none H'
structure Fn (X:Cx) (cl:Nat→Addr) (k:Nat) (x:Str) (n:Nat) (F:List PV→R PV):Prop where
  ex:∃ (f:Addr) (fd:FuncData) (ps:List Str),X.mg x=some (.ref f)∧PySem.W.keepIn X.K (.ref f)=true∧ps.length=n∧FnOk X.prog X.w X.K X.mg X.base (CXm cl X.prog X.w) k f fd ps (spF X.K cl n F)∧Binds X.K fd ps []
theorem xat_of {e:Value}{s':Shared}{ps:List PV}{F:List PV→R PV} (I:Inv X pins σ H s) (sm:Same Hf H) (hst:X.stack=X.env::X.outer)
    (h:CXm cl X.prog X.w X.stack H s (fun u o H'=>∃ c Hf',F ps = .exc c∧Ext Hf H Hf' H'∧u = .ref (cl c)) e s') (inj:∀ c d,cl c=cl d→c=d) (hex:∀ b,b ∉ X.ex):ExP X cl pins σ Hf H (F ps) e s':=by
  obtain ⟨a,c,H',B,a0,rfl,ho,hg,un,hok,fl,cov,nd,c',Hf',e1,ex,e2⟩:=h
  have ec:c'=c:=inj _ _ (by injection e2 with e2;exact e2.symm)
  subst ec
  refine ⟨c',e1,a,Hf',H',rfl,I.call' ho un hok hg (fun b z=>absurd z (by simp)),ex,B,a0,?_,nd,.inr (.inr fl)⟩
  intro b o hb hc hn
  refine cov b o hb ?_ hn
  rcases hc with hc | ⟨p,hp,e⟩ | ⟨o₀,hc⟩ | ⟨x,hc⟩
  · exact .inl hc
  · right
    rw [← e]
    exact ⟨_,(I.pin p hp).1⟩
  · right
    by_cases hx:b∈X.ex
    · exact absurd hx (hex b)
    · exact I.base.there b o₀ hc hx
  · right
    obtain ⟨v,o',q,_⟩:=I.cell x b hc
    exact ⟨o',q⟩
theorem me_call {e:Expr}{es:List Expr}{g:FA}{x:Str}{p pos:Pos}{k n:Nat}{F:List PV→R PV} (hF:Fn X cl k x n F) (hr:Room k X.A) (hg:Gl X x) (hst:X.stack=X.env::X.outer) (inj:∀ c d,cl c=cl d→c=d) (hex:∀ b,b ∉ X.ex)
    (ha:MA X cl (e::es) g) (hl:(e::es).length=n) (hdb:(x == ("__debug__" : Str))=false:=by decide) (he:starEach (e::es) X.env=(false,eval e X.env)::starEach es X.env:=by rfl) (hpl:(backTo pos (starEach es X.env)).any (·.1)=false:=by rfl) :
    ME X cl (.Call (.Name x p) (e::es) [] pos) (fCall F g):=by
  obtain ⟨f,fd,ps,hm,hk,hn,hf,hb⟩:=hF.ex
  refine ⟨?_⟩
  intro pins s σ Hf0 H0 Hf H ρ I r hs
  unfold fCall at hs ⊢
  refine wpAny_Call_Name_kw (ld_glob I hg hm ?_ hdb)
  refine PySem.W.callWith_K (h₀:=X.base) I.ok.mod.kin hk (ha.run pos I r (Ext.refl r.sub) hs fun qs vs us s1 Hf1 H1 hq e1 I1 rv x1 rps=>⟨I1.kIn,?_⟩) he hpl
  rw [e1] at hs ⊢
  have hv:vs.length=n:=by rw [rps.length,hq,hl]
  have hsp:spF X.K cl n F vs H1 (fun v H'=>∃ p Hf',F qs = .ok p∧Ext Hf1 H1 Hf' H'∧Rp X.K cl Hf' v p) (fun u o H'=>∃ c Hf',F qs = .exc c∧Ext Hf1 H1 Hf' H'∧u = .ref (cl c)) :=
    ⟨hv,Hf1,qs,x1.sub,rps,hs,fun p v Hf' H' a b c=>⟨p,Hf',a,b,c⟩,fun c Hf' H' a b=>⟨c,Hf',a,b,rfl⟩⟩
  have hlu:(us ++ []).length=ps.length:=by rw [List.append_nil,← rv.length,hv,hn]
  have hbb:=hb s1 us I1.kIn hlu
  rw [List.append_nil] at hbb
  refine wpAny_call (codeAny_mono (hf.run X.A X.stack s1 H1 ⟨us,[]⟩ us vs _ _ hr I1.env0 hbb rv hsp) fun r s' hq'=>?_)
  cases r with
  | error e=>exact ExP.from (e0:=x1) (xat_of I1 x1.sub hst hq' inj hex)
  | ok fl =>
    cases fl with
    | ret u =>
      obtain ⟨v,H',I',rv',p,Hf',e2,ex,rp⟩:=I1.after hq'
      exact ⟨p,v,Hf',H',e2,I',rv',x1.trans ex,rp⟩
    | next=>exact False.elim hq'
    | brk=>exact False.elim hq'
    | cont=>exact False.elim hq'
def CalR (X:Cx) (cl:Nat→Addr) (f:Value) (F:List PV→R PV):Prop :=
  ∀ (pins:List (Addr×Obj)) (s:Shared) (σ:SV) (Hf H:Hp) (xs:List V) (us:List Value) (ps:List PV),Inv X pins σ H s→Same Hf H→Vals xs us→Rps X.K cl Hf xs ps→F ps≠.stuck →
    wpAny (model X.prog X.w) X.A (call f us) (OkP X cl pins σ Hf H (F ps)) (ExP X cl pins σ Hf H (F ps)) s
theorem me_callB {x:Str}{id:String}{e:Expr}{es:List Expr}{g:FA}{p pos:Pos}{F:List PV→R PV} (hc:CalR X cl (.builtin id) F) (hg:Gl X x) (hm:X.mg x=none) (hv:bootBuiltins x=some (.builtin id)) (ha:MA X cl (e::es) g)
    (hn:x≠"__name__":=by decide) (hdb:(x == ("__debug__" : Str))=false:=by decide) (he:starEach (e::es) X.env=(false,eval e X.env)::starEach es X.env:=by rfl) (hpl:(backTo pos (starEach es X.env)).any (·.1)=false:=by rfl) :
    ME X cl (.Call (.Name x p) (e::es) [] pos) (fCall F g):=by
  refine ⟨?_⟩
  intro pins s σ Hf0 H0 Hf H ρ I r hs
  unfold fCall at hs ⊢
  refine wpAny_Call_Name_kw (ld_blt I hg hm hv ?_ hn hdb)
  refine PyProof.Rows.callWith_builtin1 (ha.run pos I r (Ext.refl r.sub) hs fun qs vs us s1 Hf1 H1 _ e1 I1 rv x1 rps=>?_) he hpl
  rw [e1] at hs ⊢
  exact wpAny_mono (hc pins s1 σ Hf1 H1 vs us qs I1 x1.sub rv rps hs) (fun _ _ q=>q.from (e0:=x1)) fun _ _ q=>q.from (e0:=x1)
theorem me_callTy {x:Str}{T:String}{e:Expr}{es:List Expr}{g:FA}{p pos:Pos}{F:List PV→R PV} (hc:CalR X cl (.type T) F) (hg:Gl X x) (hm:X.mg x=none) (hv:bootBuiltins x=some (.type T)) (ha:MA X cl (e::es) g)
    (hn:x≠"__name__":=by decide) (hdb:(x == ("__debug__" : Str))=false:=by decide) (he:starEach (e::es) X.env=(false,eval e X.env)::starEach es X.env:=by rfl) (hpl:(backTo pos (starEach es X.env)).any (·.1)=false:=by rfl) :
    ME X cl (.Call (.Name x p) (e::es) [] pos) (fCall F g):=by
  refine ⟨?_⟩
  intro pins s σ Hf0 H0 Hf H ρ I r hs
  unfold fCall at hs ⊢
  refine wpAny_Call_Name_kw (ld_blt I hg hm hv ?_ hn hdb)
  refine PyProof.Rows.callWith_type1 (ha.run pos I r (Ext.refl r.sub) hs fun qs vs us s1 Hf1 H1 _ e1 I1 rv x1 rps=>?_) he hpl
  rw [e1] at hs ⊢
  exact wpAny_mono (hc pins s1 σ Hf1 H1 vs us qs I1 x1.sub rv rps hs) (fun _ _ q=>q.from (e0:=x1)) fun _ _ q=>q.from (e0:=x1)
theorem okp' {t:Sem Value}{p:PV}{E:Value→Shared→Prop}{rr:R PV} (hr:rr = .ok p)
    (h:∀ E,wpAny (model X.prog X.w) X.A t (EP (X.wish E) pins σ fun v H'=>∃ Hf',Ext Hf H Hf' H'∧Rp X.K cl Hf' v p) E s):wpAny (model X.prog X.w) X.A t (OkP X cl pins σ Hf H rr) E s:=by
  rw [hr];exact okp (h E)
theorem rps1' {p:PV}{vs:List V}{K:PySem.W.Frag} (h:Rps K cl Hf vs [p]):∃ v,vs=[v]∧Rp K cl Hf v p:=by
  cases h with
  | cons r t=>cases t;exact ⟨_,rfl,r⟩
theorem rps2' {p q:PV}{vs:List V}{K:PySem.W.Frag} (h:Rps K cl Hf vs [p,q]):∃ v w,vs=[v,w]∧Rp K cl Hf v p∧Rp K cl Hf w q:=by
  cases h with
  | cons r t =>
    cases t with
    | cons r' t'=>cases t';exact ⟨_,_,rfl,r,r'⟩
theorem c_len:CalR X cl (.builtin "len") bLen:=by
  intro pins s σ Hf H xs us ps I sm rv rps hs
  match ps,rps,hs with
  | [.tup l],rps,hs =>
    obtain ⟨v,rfl,rp⟩:=rps1' rps
    cases rp with
    | tup h r =>
      refine okp' (p:=.int l.length) rfl fun E=>(call_len_seq (X:=X.wish E)) pins s σ H _ us _ (I.wish E) rv ?_
      exact ⟨_,_,rfl,.inr (Same.seqT sm h),Hf,Ext.refl sm,by rw [r.length];exact .int _⟩
  | [.lst l],rps,hs =>
    obtain ⟨v,rfl,rp⟩:=rps1' rps
    cases rp with
    | lst h r =>
      refine okp' (p:=.int l.length) rfl fun E=>(call_len_seq (X:=X.wish E)) pins s σ H _ us _ (I.wish E) rv ?_
      exact ⟨_,_,rfl,.inl (sm.seq h),Hf,Ext.refl sm,by rw [r.length];exact .int _⟩
  | [.str z],rps,hs =>
    obtain ⟨v,rfl,rp⟩:=rps1' rps
    cases rp
    obtain ⟨hz,e⟩:=ifOk hs
    refine okp' (p:=.int z.length) e fun E=>(call_len_str (X:=X.wish E)) pins s σ H _ us _ (I.wish E) rv ?_
    exact ⟨_,rfl,hz,Hf,Ext.refl sm,.int _⟩
  | [],_,hs=>exact absurd rfl hs
  | [.non],_,hs=>exact absurd rfl hs
  | [.bl _],_,hs=>exact absurd rfl hs
  | [.int _],_,hs=>exact absurd rfl hs
  | [.exc _],_,hs=>exact absurd rfl hs
  | [.dic0],_,hs=>exact absurd rfl hs
  | [.own _],_,hs=>exact absurd rfl hs
  | _::_::_,_,hs=>exact absurd (by unfold bLen;split<;>first | rfl | (rename_i h;cases h)) hs
theorem c_abs:CalR X cl (.builtin "abs") bAbs:=by
  intro pins s σ Hf H xs us ps I sm rv rps hs
  have:∃ i,ps=[.int i]:=by
    unfold bAbs at hs
    split at hs
    · exact ⟨_,rfl⟩
    · exact absurd rfl hs
  obtain ⟨i,rfl⟩:=this
  obtain ⟨v,rfl,rp⟩:=rps1' rps
  cases rp
  refine okp' rfl fun E=>(call_abs (X:=X.wish E)) pins s σ H _ us _ (I.wish E) rv ?_
  exact ⟨i,rfl,Hf,Ext.refl sm,.int _⟩
theorem c_max (hc:X.calm=true):CalR X cl (.builtin "max") bMax:=by
  intro pins s σ Hf H xs us ps I sm rv rps hs
  have:∃ i j,ps=[.int i,.int j]:=by
    unfold bMax at hs
    split at hs
    · exact ⟨_,_,rfl⟩
    · exact absurd rfl hs
  obtain ⟨i,j,rfl⟩:=this
  obtain ⟨v,w,rfl,rp,rq⟩:=rps2' rps
  cases rp;cases rq
  refine okp' rfl fun E=>(call_max2 (X:=X.wish E) hc) pins s σ H _ us _ (I.wish E) rv ?_
  exact ⟨i,j,rfl,Hf,Ext.refl sm,.int _⟩
theorem c_int:CalR X cl (.type "int") bInt:=by
  intro pins s σ Hf H xs us ps I sm rv rps hs
  have:(∃ i,ps=[.int i])∨∃ k,ps=[.bl k]:=by
    unfold bInt at hs
    split at hs
    · exact .inl ⟨_,rfl⟩
    · exact .inr ⟨_,rfl⟩
    · exact absurd rfl hs
  rcases this with ⟨i,rfl⟩ | ⟨k,rfl⟩
  · obtain ⟨v,rfl,rp⟩:=rps1' rps
    cases rp
    refine okp' rfl fun E=>(call_int1 (X:=X.wish E)) pins s σ H _ us _ (I.wish E) rv ?_
    exact .inl ⟨i,rfl,Hf,Ext.refl sm,.int _⟩
  · obtain ⟨v,rfl,rp⟩:=rps1' rps
    cases rp
    refine okp' rfl fun E=>(call_int1 (X:=X.wish E)) pins s σ H _ us _ (I.wish E) rv ?_
    exact .inr ⟨k,rfl,Hf,Ext.refl sm,.int _⟩
theorem r_add:BinR X cl (binaryOp .Add) oAdd:=by
  intro pins s σ Hf H x y v u p q I sm rv ru rp rq hs
  cases p<;>cases q<;>first
    | exact absurd rfl hs
    | skip
  · rename_i i j
    cases rp;cases rq
    obtain ⟨t,rfl⟩:=rv
    obtain ⟨t',rfl⟩:=ru
    exact add_int ⟨_,.int (i+j),Hf,H,rfl,I.tok _,⟨_,rfl⟩,Ext.refl sm,.int _⟩
  · rename_i i j
    obtain ⟨hz,e⟩:=ifOk hs
    cases rp;cases rq
    refine okp' e fun E=>(op_add_str (X:=X.wish E)) pins s σ H _ _ v u _ (I.wish E) rv ru ?_
    exact ⟨i,j,rfl,rfl,hz,Hf,Ext.refl sm,.str _⟩
  · rename_i i j
    obtain ⟨⟨⟨hz1,hz2⟩,hz⟩,e⟩:=ifOk hs
    cases rp with
    | tup h1 r1 =>
      cases rq with
      | tup h2 r2 =>
        cases rv;cases ru
        obtain ⟨its,w1,p1,z1⟩:=I.tuple (Same.seqT sm h1)
        obtain ⟨its2,w2,p2,z2⟩:=I.tuple (Same.seqT sm h2)
        have l1:=w1.length
        have l2:=w2.length
        have l3:=r1.length
        have l4:=r2.length
        rw [show oAdd (.tup i) (.tup j)=_ from e]
        refine HT.cat_tup p1 p2 (fun q=>by rw [q] at l1;simp only [List.length_nil] at l1;omega) (fun q=>by rw [q] at l2;simp only [List.length_nil] at l2;omega) (fun _=>?_) (by omega)
        exact laid_seq (tk:=s.toks) I.fresh sm (I.laid (t':=s.toks) (o:=.tup _) (fun b u e=>Heap.get?_push_of_some _ e) (Nat.le_refl _) ⟨by rw [List.length_append];omega,its ++ its2,w1.append w2,⟨_,Heap.get?_push_size _ rfl,rfl,0,rfl⟩⟩) (.tup (SqT.of upd_same) ((r1.append r2).keep (same_upd (sm.free I.fresh) _)))
  · rename_i i j
    obtain ⟨hz,e⟩:=ifOk hs
    cases rp with
    | lst h1 r1 =>
      cases rq with
      | lst h2 r2 =>
        cases rv;cases ru
        obtain ⟨its,w1,p1,z1⟩:=I.list (sm.seq h1)
        obtain ⟨its2,w2,p2,z2⟩:=I.list (sm.seq h2)
        have l1:=w1.length
        have l2:=w2.length
        have l3:=r1.length
        have l4:=r2.length
        have e0:its.toArray ++ its2.toArray=(its ++ its2).toArray:=by simp
        obtain ⟨⟨cls,dd,data,sl⟩,ho,hc,n,hd⟩:=id p1.isList
        obtain ⟨⟨cls2,dd2,data2,sl2⟩,ho2,hc2,n2,hd2⟩:=id p2.isList
        simp only at hc hd hc2 hd2
        subst hc hd hc2 hd2
        rw [show oAdd (.lst i) (.lst j)=_ from e]
        refine concat_meets ⟨_,ho,rfl⟩ ⟨_,ho2,rfl⟩ noFill_list_add seq_list_add PySem.F.slot_list_add PySem.F.entry_list_add (PySem.F.args_list_add_2 _ _) (list_addW _ _ its.toArray its2.toArray n n2 dd dd2 sl sl2 (by simp only [List.size_toArray];omega)) ⟨ho,ho2,?_⟩
        rw [e0]
        exact laid_seq (tk:=s.toks) I.fresh sm (I.lnew (t':=s.toks) (w1.append w2) (by rw [List.length_append];omega)) (.lst (SqL.of upd_same) ((r1.append r2).keep (same_upd (sm.free I.fresh) _)))
theorem r_notN {a:Expr}{fa:FE}{j:Nat}{pos pos':Pos} (ha:ME X cl a fa):ME X cl (.Compare a [.IsNot] [.Constant .none j pos'] pos) (fUn cNotN fa):=by
  refine ⟨?_⟩
  intro pins s σ Hf0 H0 Hf H ρ I r hs
  unfold fUn at hs ⊢
  refine wpAny_Compare1 (ha.run I r (Ext.refl r.sub) hs fun p v u s1 Hf1 H1 e1 I1 rv x1 rp=>?_) (nobehind _ (by decide) (by decide))
  rw [e1]
  refine Constant_none (isnot_none_gen ⟨_,.bl (!isNone p),Hf1,H1,rfl,I1,?_,x1,.bl _⟩)
  show Value.bool _=Value.bool _
  rw [rv.none_iff]
  cases rp<;>rfl
theorem z91 {a:Expr}{fa:FE}{j:Nat}{pos pos':Pos} (ha:ME X cl a fa):MT X cl (.Compare a [.Is] [.Constant .none j pos'] pos) (tVal (fUn cIsN fa)):=by
  refine ⟨?_⟩
  intro pins s σ Hf0 H0 Hf H ρ I r hs
  have assoc:∀ {β γ δ:Type} (x:R β) (f:β→R γ) (g:γ→R δ),(x.bind f).bind g=x.bind fun y=>(f y).bind g:=fun x f g=>by cases x<;>rfl
  unfold tVal fUn at hs ⊢
  rw [assoc] at hs ⊢
  refine wpAny_isTrue_Compare1 (ha.run I r (Ext.refl r.sub) hs fun p v u s1 Hf1 H1 e1 I1 rv x1 rp=>?_) (nobehind _ (by decide) (by decide))
  rw [e1]
  refine Constant_none (is_none_gen (wpAny_truthy_bool ⟨Hf1,H1,?_,I1,x1⟩))
  rw [rv.none_iff]
  cases rp<;>rfl
theorem z86 {a:Expr}{fa:FE}{j:Nat}{pos pos':Pos} (ha:ME X cl a fa):MT X cl (.Compare a [.IsNot] [.Constant .none j pos'] pos) (tVal (fUn cNotN fa)):=by
  refine ⟨?_⟩
  intro pins s σ Hf0 H0 Hf H ρ I r hs
  have assoc:∀ {β γ δ:Type} (x:R β) (f:β→R γ) (g:γ→R δ),(x.bind f).bind g=x.bind fun y=>(f y).bind g:=fun x f g=>by cases x<;>rfl
  unfold tVal fUn at hs ⊢
  rw [assoc] at hs ⊢
  refine wpAny_isTrue_Compare1 (ha.run I r (Ext.refl r.sub) hs fun p v u s1 Hf1 H1 e1 I1 rv x1 rp=>?_) (nobehind _ (by decide) (by decide))
  rw [e1]
  refine Constant_none (isnot_none_gen (wpAny_truthy_bool ⟨Hf1,H1,?_,I1,x1⟩))
  rw [rv.none_iff]
  cases rp<;>rfl
theorem flat_of {K:PySem.W.Frag}{v:V}{p:PV} (h:Rp K cl Hf v p) (f:flatP p=true):flatV v=true:=by
  cases h<;>first | rfl | (simp [flatP] at f)
theorem eqV_of {K:PySem.W.Frag}{v w:V}{p q:PV} (h:Rp K cl Hf v p) (h':Rp K cl Hf w q) (f:flatP p=true) (g:flatP q=true):eqV v w=eqPV p q:=by
  cases h<;>cases h'<;>first | rfl | (simp [flatP] at f;done) | (simp [flatP] at g;done)
theorem any_of {K:PySem.W.Frag}{w:V}{q:PV} (h':Rp K cl Hf w q) (g:flatP q=true):∀ {vs:List V}{ps:List PV},Rps K cl Hf vs ps→ps.all flatP=true→vs.all flatV=true∧(vs.any fun y=>eqV y w)=ps.any fun z=>eqPV z q
  | _,_,.nil,_=>⟨rfl,rfl⟩
  | _,_,.cons r t,f=>by
    rw [List.all_cons,Bool.and_eq_true] at f
    obtain ⟨a,b⟩:=any_of h' g t f.2
    exact ⟨by rw [List.all_cons,flat_of r f.1,a];rfl,by rw [List.any_cons,List.any_cons,eqV_of r h' f.1 g,b]⟩
theorem str_no_dict (b:Str) (u:Tok) (l:Addr) (o:Obj) {es:Array DictEntry}{ep:Nat} (hc:o.cls = .type "dict") (hd:o.data = .dict es ep):Meets (Builtin.«str.__eq__» ⟨[.str b u,.ref l],[]⟩) (fun _ R s=>s.heap.get? l=some o∧R (.ok (.ret .notImplemented)) s):=by
  refine .of_wp fun prog w A R s h=>?_
  obtain ⟨hp,g,d,tk,os⟩:=s
  obtain ⟨hl,h⟩:=h
  obtain ⟨c,dd,dt,sl⟩:=o
  cases hc
  cases hd
  have f1:=F.sub_dict_str
  wp_walk using wpAny_loadPart' hl,wpAny_load hl
  exact ⟨_,rfl,h⟩
theorem dict_no_str (b:Str) (u:Tok) (l:Addr) (o:Obj) (hc:o.cls = .type "dict"):Meets (Builtin.«dict.__eq__» ⟨[.ref l,.str b u],[]⟩) (fun _ R s=>s.heap.get? l=some o∧R (.ok (.ret .notImplemented)) s):=by
  refine .of_wp fun prog w A R s h=>?_
  obtain ⟨hp,g,d,tk,os⟩:=s
  obtain ⟨hl,h⟩:=h
  obtain ⟨c,dd,dt,sl⟩:=o
  cases hc
  have f1:=F.sub_str_dict
  wp_walk using wpAny_loadPart' hl,wpAny_load hl
  exact ⟨_,rfl,h⟩
theorem str_dict_at {A:Around}{b:Str}{u:Tok}{l:Addr}{o:Obj}{es:Array DictEntry}{ep:Nat} (hl:s.heap.get? l=some o) (hc:o.cls = .type "dict") (hd:o.data = .dict es ep) (hu:A.units<cLine):SeqAt.RcAt A s (.str b u) (.ref l) false:=fun prog w E Q h=>by
  have ty:s.TypeIs (.ref l) "dict":=⟨o,hl,hc⟩
  refine SeqAt.rc_eq_decline_or (k:=false) (typeIs_str s b u) ty (by decide) F.sub_dict_str F.slot_str_eq F.slot_dict_eq_refl (fun _ q=>?_) (fun _ q=>?_) (fun _ q=>?_) (.inr hu) h
  · exact call_meets F.slot_str_eq (typeIs_str s b u) F.entry_str_eq (F.args_str_eq_2 _ _) (str_no_dict b u l o hc hd) ⟨hl,q⟩
  · exact call_meets F.slot_dict_eq_refl ty F.entry_dict_eq (F.args_dict_eq_2 _ _) (dict_no_str b u l o hc) ⟨hl,q⟩
  · exact wpAny_of_eq (rfl:isSame (.str b u) (.ref l)=pure false) q
theorem dict_str_at {A:Around}{b:Str}{u:Tok}{l:Addr}{o:Obj}{es:Array DictEntry}{ep:Nat} (hl:s.heap.get? l=some o) (hc:o.cls = .type "dict") (hd:o.data = .dict es ep) (hu:A.units<cLine):SeqAt.RcAt A s (.ref l) (.str b u) false:=fun prog w E Q h=>by
  have ty:s.TypeIs (.ref l) "dict":=⟨o,hl,hc⟩
  refine SeqAt.rc_eq_decline_or (k:=false) ty (typeIs_str s b u) (by decide) F.sub_str_dict F.slot_dict_eq F.slot_str_eq_refl (fun _ q=>?_) (fun _ q=>?_) (fun _ q=>?_) (.inr hu) h
  · exact call_meets F.slot_dict_eq ty F.entry_dict_eq (F.args_dict_eq_2 _ _) (dict_no_str b u l o hc) ⟨hl,q⟩
  · exact call_meets F.slot_str_eq_refl (typeIs_str s b u) F.entry_str_eq (F.args_str_eq_2 _ _) (str_no_dict b u l o hc hd) ⟨hl,q⟩
  · exact wpAny_of_eq (rfl:isSame (.ref l) (.str b u)=pure false) q
theorem dic_at {l:Addr} (I:Inv X pins σ H s) (sm:Same Hf H) (h:Hf l=some (.dK [])):∃ o es ep,s.heap.get? l=some o∧o.cls = .type "dict"∧o.data = .dict es ep:=by
  obtain ⟨_,_,vs,_,p⟩:=(show ObjOk X.prog X.w H s.heap l (.dK []) from I.hok l _ (sm _ _ h))
  obtain ⟨o,es,ep,h1,h2,h3,_⟩:=p
  exact ⟨o,es,ep,h1,h2.1,h3⟩
theorem str_heap {A:Around}{b:Str}{t:Tok}{x:V}{v:Value}{p:PV} (I:Inv X pins σ H s) (sm:Same Hf H) (rv:RelV x v) (rp:Rp X.K cl Hf x p) (hp:heapP p=true) (hu:A.units<cLine):SeqAt.EqAt A s (.str b t) v false:=by
  cases p<;>first
    | (simp [heapP] at hp;done)
    | skip
  · cases rp with
    | tup h r=>cases rv;obtain ⟨its,w,pl,z⟩:=I.tuple (Same.seqT sm h);exact SeqAt.EqAt.str_tuple _ _ pl hu
  · cases rp with
    | lst h r=>cases rv;obtain ⟨its,w,pl,z⟩:=I.list (sm.seq h);exact SeqAt.EqAt.str_list _ _ pl.isList hu
  · cases rp with
    | dic0 h =>
      cases rv
      obtain ⟨o,es,ep,h1,h2,h3⟩:=dic_at I sm h
      intro prog w E Q hq
      unfold eqBool
      refine wpAny_holding (wpAny_ite_split (fun hab=>absurd (eq_of_beq hab) nofun) fun _=>?_)
      exact wpAny_bind (str_dict_at h1 h2 h3 hu prog w E _ (wpAny_truthy_bool hq))
theorem strs_of:∀ {l:List PV}{vs:List V}{us:List Value},Rps X.K cl Hf vs l→Vals vs us→l.all strP=true→∀ y∈us,∃ b t,y=Value.str b t
  | [],_,_,r,w,_,y,hy=>by cases r;cases w;cases hy
  | p::l,_,_,r,w,h,y,hy=>by
    cases r with
    | cons r1 r2 =>
      cases w with
      | cons w1 w2 =>
        rw [List.all_cons,Bool.and_eq_true] at h
        rcases List.mem_cons.mp hy with rfl | hy
        · cases p<;>first | (simp [strP] at h;done) | skip
          cases r1
          obtain ⟨t,rfl⟩:=w1
          exact ⟨_,_,rfl⟩
        · exact strs_of r2 w2 h.2 y hy
theorem r_in:BinR X cl (compareOp .In) cIn:=by
  intro pins s σ Hf H x y v u p q I sm rv ru rp rq hs
  cases q<;>first
    | exact absurd rfl hs
    | skip
  · rename_i z
    cases p<;>first
      | exact absurd rfl hs
      | skip
    cases rp;cases rq
    refine okp' rfl fun E=>(op_in_str (X:=X.wish E)) pins s σ H _ _ v u _ (I.wish E) rv ru ?_
    exact ⟨_,_,rfl,rfl,Hf,Ext.refl sm,.bl _⟩
  · rename_i l
    obtain ⟨hc,e⟩:=ifOk hs
    rw [Bool.and_eq_true] at hc
    cases rq with
    | tup h r =>
      obtain ⟨f1,f2⟩:=any_of rp hc.1 r hc.2
      refine okp' e fun E=>(op_in_seq (X:=X.wish E)) pins s σ H _ _ v u _ (I.wish E) rv ru ?_
      exact ⟨_,_,rfl,.inr (Same.seqT sm h),flat_of rp hc.1,f1,Hf,Ext.refl sm,by show Rp _ _ _ (.bl (inV x _)) _;unfold inV;rw [f2];exact .bl _⟩
  · rename_i l
    obtain ⟨hc,e⟩:=ifOk hs
    rw [Bool.and_eq_true] at hc
    cases rq with
    | lst h r =>
      obtain ⟨f1,f2⟩:=any_of rp hc.1 r hc.2
      refine okp' e fun E=>(op_in_seq (X:=X.wish E)) pins s σ H _ _ v u _ (I.wish E) rv ru ?_
      exact ⟨_,_,rfl,.inl (sm.seq h),flat_of rp hc.1,f1,Hf,Ext.refl sm,by show Rp _ _ _ (.bl (inV x _)) _;unfold inV;rw [f2];exact .bl _⟩
theorem r_notIn (hu:X.A.units+64<cLine):BinR X cl (compareOp .NotIn) cNotIn:=by
  intro pins s σ Hf H x y v u p q I sm rv ru rp rq hs
  cases q<;>first
    | exact absurd rfl hs
    | skip
  · rename_i z
    cases p<;>first
      | exact absurd rfl hs
      | skip
    cases rp;cases rq
    refine okp' rfl fun E=>(op_notIn_str (X:=X.wish E)) pins s σ H _ _ v u _ (I.wish E) rv ru ?_
    exact ⟨_,_,rfl,rfl,Hf,Ext.refl sm,.bl _⟩
  · rename_i l
    obtain ⟨hc,e⟩:=ifOk hs
    rw [Bool.and_eq_true] at hc
    cases rq with
    | tup h r =>
      obtain ⟨f1,f2⟩:=any_of rp hc.1 r hc.2
      refine okp' e fun E=>(op_notIn_seq (X:=X.wish E)) pins s σ H _ _ v u _ (I.wish E) rv ru ?_
      exact ⟨_,_,rfl,.inr (Same.seqT sm h),flat_of rp hc.1,f1,Hf,Ext.refl sm,by show Rp _ _ _ (.bl (!inV x _)) _;unfold inV;rw [f2];exact .bl _⟩
  · rename_i l
    by_cases hc0:(flatP p && l.all flatP)=true
    rotate_left
    · have hs2:(if (flatP p && l.all flatP)=true then R.ok (PV.bl (!l.any fun z=>eqPV z p)) else if (heapP p && l.all strP)=true then R.ok (PV.bl true) else R.stuck)≠.stuck:=hs
      rw [if_neg hc0] at hs2
      obtain ⟨hc,e⟩:=ifOk hs2
      rw [Bool.and_eq_true] at hc
      have e':cNotIn p (.lst l) = .ok (.bl true):=by
        show (if (flatP p && l.all flatP)=true then R.ok (PV.bl (!l.any fun z=>eqPV z p)) else if (heapP p && l.all strP)=true then R.ok (PV.bl true) else R.stuck)=_
        rw [if_neg hc0];exact e
      rw [e']
      cases rq with
      | lst h r =>
        cases ru
        obtain ⟨its,w,pl,z⟩:=I.list (sm.seq h)
        refine SeqAt.notIn_listAt (fun _=>false) pl.isList (fun y hy=>?_) ⟨_,.bl true,Hf,H,rfl,I,?_,Ext.refl sm,.bl _⟩
        · obtain ⟨b,t,rfl⟩:=strs_of r w hc.2 y (by simpa using hy)
          exact str_heap I sm rv rp hc.1 (by show X.A.units+1<cLine;omega)
        · show (_:Value)=_
          simp
    have hs1:(if (flatP p && l.all flatP)=true then R.ok (PV.bl (!l.any fun z=>eqPV z p)) else if (heapP p && l.all strP)=true then R.ok (PV.bl true) else R.stuck)≠.stuck:=hs
    have hc:=hc0
    have e:cNotIn p (.lst l) = .ok (.bl (!l.any fun z=>eqPV z p)):=if_pos hc0
    rw [Bool.and_eq_true] at hc
    cases rq with
    | lst h r =>
      obtain ⟨f1,f2⟩:=any_of rp hc.1 r hc.2
      refine okp' e fun E=>(op_notIn_seq (X:=X.wish E)) pins s σ H _ _ v u _ (I.wish E) rv ru ?_
      exact ⟨_,_,rfl,.inl (sm.seq h),flat_of rp hc.1,f1,Hf,Ext.refl sm,by show Rp _ _ _ (.bl (!inV x _)) _;unfold inV;rw [f2];exact .bl _⟩
theorem itemP_of {K:PySem.W.Frag}{l:List PV}{i:Int}{vs:List V} (h:itemP l i≠.stuck) (r:Rps K cl Hf vs l):∃ v p,itemP l i = .ok p∧atI vs i=some v∧Rp K cl Hf v p:=by
  unfold itemP at h ⊢
  unfold atI
  have e:ixN vs.length i=ixP l.length i:=by rw [r.length];rfl
  rw [e]
  cases q:ixP l.length i with
  | none=>rw [q] at h;exact absurd rfl h
  | some j =>
    rw [q] at h
    dsimp only at h ⊢
    cases w:l[j]? with
    | none=>rw [w] at h;exact absurd rfl h
    | some p =>
      obtain ⟨v,h1,h2⟩:=r.get w
      exact ⟨v,p,rfl,h1,h2⟩
theorem me_item {a b:Expr}{fa fb:FE}{pos:Pos} (ha:ME X cl a fa) (hb:ME X cl b fb) (hx:PlainIx b:=by intro _ _;rfl):ME X cl (.Subscript a b pos) (fBin oItem fa fb):=by
  refine ⟨?_⟩
  intro pins s σ Hf0 H0 Hf H ρ I r hs
  refine Subscript_ ?_
  have rule:BinR X cl (fun v u=>subscriptTail a b v u) oItem:=by
    intro pins s σ Hf H x y v u p q I sm rv ru rp rq hs
    cases q<;>first
      | (cases p<;>exact absurd rfl hs)
      | skip
    rename_i i
    cases rq
    cases p<;>first
      | exact absurd rfl hs
      | skip
    · rename_i z
      cases rp
      have hs':oItem (.str z) (.int i)≠.stuck:=hs
      unfold oItem at hs' ⊢
      dsimp only at hs' ⊢
      cases w:ixP z.cps.toList.length i with
      | none=>rw [w] at hs';exact absurd rfl hs'
      | some j =>
        rw [w] at hs'
        dsimp only at hs' ⊢
        cases w2:z.cps.toList[j]? with
        | none=>rw [w2] at hs';exact absurd rfl hs'
        | some c =>
          rw [w2] at hs'
          dsimp only at hs' ⊢
          obtain ⟨hz,e⟩:=ifOk hs'
          refine okp' e fun E=>(ix_str (X:=X.wish E)) a b pins s σ H _ _ v u _ (I.wish E) rv ru ?_ (hx _ _)
          refine ⟨z,i,c,rfl,rfl,hz,?_,Hf,Ext.refl sm,.str _⟩
          unfold atI
          have e2:ixN z.cps.toList.length i=some j:=w
          rw [e2]
          exact w2
    · rename_i l
      cases rp with
      | tup h r =>
        obtain ⟨v',p',e1,e2,e3⟩:=itemP_of (show itemP l i≠.stuck from hs) r
        refine okp' (show oItem (.tup l) (.int i) = .ok p' from e1) fun E=>(ix_tup (X:=X.wish E)) a b pins s σ H _ _ v u _ (I.wish E) rv ru ?_ (hx _ _)
        exact ⟨_,_,i,v',rfl,rfl,Same.seqT sm h,e2,Hf,Ext.refl sm,e3⟩
    · rename_i l
      cases rp with
      | lst h r =>
        obtain ⟨v',p',e1,e2,e3⟩:=itemP_of (show itemP l i≠.stuck from hs) r
        refine okp' (show oItem (.lst l) (.int i) = .ok p' from e1) fun E=>(ix_list (X:=X.wish E)) a b pins s σ H _ _ v u _ (I.wish E) rv ru ?_ (hx _ _)
        exact ⟨_,_,i,v',rfl,rfl,sm.seq h,e2,Hf,Ext.refl sm,e3⟩
  exact two ha hb rule I r hs
structure MO (X:Cx) (cl:Nat→Addr) (e:Option Expr) (f:FO):Prop where
  run':∀ (pins:List (Addr×Obj)) (s:Shared) (σ:SV) (Hf0 H0 Hf H:Hp) (ρ:MEnv),Inv X pins σ H s→Rep X.K cl Hf0 H0 Hf H σ ρ→f ρ≠.stuck →
    wpAny (model X.prog X.w) X.A (evalPart e X.env) (fun u s'=>∃ o Hf' H',f ρ = .ok o∧Inv X pins σ H' s'∧IsPart u o∧Ext Hf H Hf' H') (ExP X cl pins σ Hf H (f ρ)) s
instance {X:Cx}{cl:Nat→Addr}{e:Option Expr}{f:FO}:CoeFun (MO X cl e f) fun _=>∀ (pins:List (Addr×Obj)) (s:Shared) (σ:SV) (Hf0 H0 Hf H:Hp) (ρ:MEnv),Inv X pins σ H s→Rep X.K cl Hf0 H0 Hf H σ ρ→f ρ≠.stuck →
    wpAny (model X.prog X.w) X.A (evalPart e X.env) (fun u s'=>∃ o Hf' H',f ρ = .ok o∧Inv X pins σ H' s'∧IsPart u o∧Ext Hf H Hf' H') (ExP X cl pins σ Hf H (f ρ)) s:=⟨MO.run'⟩
theorem mo_none:MO X cl none oNone:=by
  refine ⟨?_⟩
  intro pins s σ Hf0 H0 Hf H ρ I r hs
  rw [evalPart_none]
  exact wpAny_pure ⟨none,Hf,H,rfl,I,.none,Ext.refl r.sub⟩
theorem mo_some {e:Expr}{f:FE} (h:ME X cl e f):MO X cl (some e) (oSome f):=by
  refine ⟨?_⟩
  intro pins s σ Hf0 H0 Hf H ρ I r hs
  rw [evalPart_some]
  unfold oSome at hs ⊢
  refine h.run I r (Ext.refl r.sub) hs fun p v u s1 Hf1 H1 e1 I1 rv x1 rp=>?_
  rw [e1] at hs ⊢
  cases p<;>first
    | exact absurd rfl hs
    | skip
  rename_i i
  cases rp
  obtain ⟨t,rfl⟩:=rv
  exact ⟨some i,Hf1,H1,rfl,I1,.int i t,x1⟩
theorem MO.run {e:Option Expr}{f:FO} (h:MO X cl e f) (I:Inv X pins σ H1 s) (r:Rep X.K cl Hf0 H0 Hf1 H1 σ ρ) (e0:Ext Hf H Hf1 H1) {k:Option Int→R α} (hs:(f ρ).bind k≠.stuck) {Q:Value→Shared→Prop}
    (ok:∀ o u s' Hf' H',(f ρ).bind k=k o→Inv X pins σ H' s'→IsPart u o→Ext Hf1 H1 Hf' H'→Q u s') :
    wpAny (model X.prog X.w) X.A (evalPart e X.env) Q (ExP X cl pins σ Hf H ((f ρ).bind k)) s:=by
  have hf:f ρ≠.stuck:=fun z=>hs (by rw [z];rfl)
  refine wpAny_mono (h pins s σ Hf0 H0 Hf1 H1 ρ I r hf) (fun u s' q=>?_) fun u s' q=>?_
  · obtain ⟨o,Hf',H',e1,I',hp,ex⟩:=q
    exact ok o u s' Hf' H' (by rw [e1];rfl) I' hp ex
  · obtain ⟨c,e1,x⟩:=q
    exact ⟨c,by rw [e1];rfl,x.from e0⟩
theorem slP_le (n d:Nat) (hd:d≤n) (o:Option Int):slP n d o≤n:=by
  cases o with
  | none=>exact hd
  | some v=>unfold slP;simp only;split<;>omega
theorem indices_eq (n:Nat) (lo hi:Option Int):Builtin.Str.strSliceIndices lo hi 1 n=(List.range (slP n n hi - slP n 0 lo)).map (slP n 0 lo+·):=by
  have clip:∀ (o:Option Int) (d:Nat),d≤n→(match o with
      | none=>(d:Int)
      | some i=>if (1:Int) > 0 then max 0 (min (if i<0 then i+(n:Int) else i) (n:Int)) else max (-1) (min (if i<0 then i+(n:Int) else i) ((n:Int) - 1)))=(slP n d o:Int):=by
    intro o d hd
    cases o with
    | none=>rfl
    | some i =>
      simp only [slP]
      rw [if_pos (by decide)]
      by_cases h:i<0
      · rw [if_pos h,if_pos h];omega
      · rw [if_neg h,if_neg h];omega
  have c1:=clip lo 0 (Nat.zero_le n)
  have c2:=clip hi n (Nat.le_refl n)
  refine (congr (congrArg (fun p q=>sliceRange p q 1) c1) c2:Builtin.Str.strSliceIndices lo hi 1 n=sliceRange (slP n 0 lo:Int) (slP n n hi:Int) 1).trans ?_
  generalize slP n 0 lo=a
  generalize slP n n hi=b
  unfold sliceRange
  simp only [show (1:Int) > 0 from by decide,if_true]
  have hc:(if (a:Int)<(b:Int) then ((b:Int) - (a:Int)+1 - 1) / 1 else 0).toNat=b - a:=by
    by_cases h:(a:Int)<(b:Int)
    · rw [if_pos h,Int.ediv_one];omega
    · rw [if_neg h];omega
  rw [hc]
  refine List.map_congr_left fun k _=>?_
  omega
theorem sCut_eq (z:Str) (lo hi:Option Int):Txt.slice z lo hi=sCut z lo hi:=by
  have hn:z.length=z.cps.toList.length:=by show z.cps.size=_;simp
  have hlo:=slP_le z.cps.toList.length 0 (Nat.zero_le _) lo
  have hhi:=slP_le z.cps.toList.length z.cps.toList.length (Nat.le_refl _) hi
  unfold Txt.slice sCut
  rw [hn,indices_eq]
  generalize slP z.cps.toList.length 0 lo=a at hlo ⊢
  generalize slP z.cps.toList.length z.cps.toList.length hi=b at hhi ⊢
  split
  · rename_i h
    simp only [List.length_map,List.length_range,beq_self_eq_true,Bool.true_and,beq_iff_eq] at h
    by_cases hz:z.cps.toList.length=0
    · have e:z.cps.toList=[]:=List.length_eq_zero_iff.mp hz
      rw [e];simp only [List.drop_nil,List.take_nil]
      cases z with | mk c=>simp at e ⊢;exact e
    · have ha:a=0:=by omega
      have hb:b=z.cps.toList.length:=by omega
      subst ha;subst hb
      rw [List.drop_zero,Nat.sub_zero,List.take_length]
  · congr 1
    congr 1
    by_cases hab:a≤b
    · have:=StrLaws.sliced_plain z (a:=a) (b:=b) hab (by rw [hn];exact hhi)
      rw [StrLaws.strSliceIndices_plain hab (by rw [hn];exact hhi)] at this
      exact this
    · rw [show b - a=0 by omega];simp
theorem me_cut {e:Expr}{lo hi:Option Expr}{f:FE}{l h:FO}{p2 pos:Pos} (he:ME X cl e f) (hl:MO X cl lo l) (hh:MO X cl hi h):ME X cl (.Subscript e (.Slice lo hi none p2) pos) (fCut f l h):=by
  refine ⟨?_⟩
  intro pins s σ Hf0 H0 Hf H ρ I r hs
  unfold fCut at hs ⊢
  refine Subscript_ (he.run I r (Ext.refl r.sub) hs fun p v u s1 Hf1 H1 e1 I1 rv x1 rp=>?_)
  rw [e1] at hs ⊢
  refine wpAny_Slice (hl.run I1 (r.keep x1) x1 hs fun o vl s2 Hf2 H2 e2 I2 hp2 x2=>?_)
  rw [e2] at hs ⊢
  have x12:=x1.trans x2
  refine hh.run I2 (r.keep x12) x12 hs fun o' vu s3 Hf3 H3 e3 I3 hp3 x3=>?_
  rw [e3] at hs ⊢
  have x13:=x12.trans x3
  rw [evalPart_none]
  refine wpAny_pure ?_
  have I4:Inv X pins σ H3 { s3 with heap:=s3.heap.push { cls:=.type "slice",data:=.fields #[vl,vu,.none] } }:=I3.kept (t':=s3.toks) fun b ob q=>Heap.get?_push_of_some _ q
  cases p<;>first
    | exact absurd rfl hs
    | skip
  · rename_i z
    obtain ⟨hz,e⟩:=ifOk hs
    rw [show oCut (.str z) o o' = .ok (.str (sCut z o o')) from e]
    cases rp
    obtain ⟨t,rfl⟩:=rv
    generalize ExP X cl pins σ Hf H _=E
    have fin:∀ (l u:Option (Int×Tok)),l.map (·.1)=o→u.map (·.1)=o'→∀ {E:Value→Shared→Prop},vl=partValue l→vu=partValue u→wpAny (model X.prog X.w) X.A (getItem (.str z t) (.ref s3.heap.objs.size)) (OkP X cl pins σ Hf H (.ok (.str (sCut z o o')))) E { s3 with heap:=s3.heap.push { cls:=.type "slice",data:=.fields #[vl,vu,.none] } }:=by
      intro l u hl hu E el eu
      subst el eu
      refine wpAny_getItem_str_slice (l:=l) (u:=u) (st:=none) ⟨_,Heap.get?_push_size _ rfl,rfl,rfl⟩ rfl ?_
      have e2:Txt.slice z (l.map (·.1)) (u.map (·.1))=sCut z o o':=by rw [hl,hu];exact sCut_eq z o o'
      refine post_val_or_str ⟨Nat.le_trans (Txt.slice_le z (l.map (·.1)) (u.map (·.1))) hz,fun t' k=>?_⟩
      refine ⟨_,.str (sCut z o o'),Hf3,H3,rfl,I4.tok _,⟨t',?_⟩,x13,.str _⟩
      rw [← e2]
      rfl
    refine tail_any (ops:=[.ref s3.heap.objs.size,.str z t]) (typeIs_str _ _ _) F.slot_str_getitem.lookup ?_ (by with_unfolding_all rfl)
    cases hp2 with
    | none=>cases hp3 with
      | none=>exact fin none none rfl rfl rfl rfl
      | int j tj=>exact fin none (some (j,tj)) rfl rfl rfl rfl
    | int i ti=>cases hp3 with
      | none=>exact fin (some (i,ti)) none rfl rfl rfl rfl
      | int j tj=>exact fin (some (i,ti)) (some (j,tj)) rfl rfl rfl rfl
  rename_i l'
  have rp3:=rp.keep (x2.trans x3).frz
  cases rp3 with
  | lst hq rr =>
    have ecut:∀ xs:List V,Rps X.K cl Hf3 xs l'→Rps X.K cl Hf3 (cutV xs o o') (cutP l' o o'):=fun xs rx=>by
      unfold cutV cutP
      have hl:=rx.length
      rw [hl]
      exact (rx.drop _).take _
    generalize ExP X cl pins σ Hf H (oCut (.lst l') o o')=E
    obtain ⟨T,id,hT,ht,hg⟩:=(sl_list (X:=X.wish E)) pins { s3 with heap:=s3.heap.push { cls:=.type "slice",data:=.fields #[vl,vu,.none] } } σ H3 _ u vl vu o o' s3.heap.objs.size
      (fun w H'=>∃ Hf',Ext Hf3 H3 Hf' H'∧Rp X.K cl Hf' w (.lst (cutP l' o o'))) (I4.wish E) rv (Heap.IsSliceOf.new ..) hp2 hp3
      ⟨_,_,rfl,x3.sub.seq hq,fun a ha=>⟨_,Ext.new x3.sub ha _,.lst (SqL.of upd_same) ((ecut _ rr).keep (same_upd (x3.sub.free ha) _))⟩⟩
    refine tail_any (ops:=[.ref s3.heap.objs.size,u]) ht hT ?_ (by with_unfolding_all rfl)
    refine thn (okp hg) fun _ _ q=>OkP.from (e0:=x13) q
def eAt (ps qs:List PV) (j:Nat):Bool:=match ps[j]?,qs[j]? with
  | some a,some b=>eqPV a b
  | _,_=>false
theorem eAt_succ (a b:PV) (ps qs:List PV) (j:Nat):eAt (a::ps) (b::qs) (j+1)=eAt ps qs j:=by simp [eAt]
theorem all_range_succ (n:Nat) (e:Nat→Bool):(List.range (n+1)).all e=(e 0 && (List.range n).all fun j=>e (j+1)):=by
  rw [List.range_succ_eq_map,List.all_cons,List.all_map]
  rfl
theorem eqPVs_eq:∀ (ps qs:List PV),eqPVs ps qs=((List.range (min ps.length qs.length)).all (eAt ps qs) && ps.length == qs.length)
  | [],[]=>by simp [eqPVs]
  | [],_::_=>by simp [eqPVs]
  | _::_,[]=>by simp [eqPVs]
  | a::ps,b::qs=>by
    have ih:=eqPVs_eq ps qs
    show (eqPV a b && eqPVs ps qs)=_
    have h1:min (a::ps).length (b::qs).length=min ps.length qs.length+1:=by simp only [List.length_cons];omega
    rw [h1,all_range_succ,ih]
    have h2:eAt (a::ps) (b::qs) 0=eqPV a b:=rfl
    have h3:(fun j=>eAt (a::ps) (b::qs) (j+1))=eAt ps qs:=by funext j;exact eAt_succ a b ps qs j
    rw [h2,h3]
    have h4:((a::ps).length == (b::qs).length)=(ps.length == qs.length):=by simp
    rw [h4,Bool.and_assoc]
theorem eqPVs_len {ps qs:List PV} (h:ps.length=qs.length):eqPVs ps qs=(List.range ps.length).all (eAt ps qs):=by
  rw [eqPVs_eq,← h]
  simp
theorem eqPVs_ne {ps qs:List PV} (h:ps.length≠qs.length):eqPVs ps qs=false:=by
  rw [eqPVs_eq]
  have:(ps.length == qs.length)=false:=by simpa using h
  rw [this,Bool.and_false]
theorem cmpOk_get {n:Nat}{ps:List PV}{j:Nat}{p:PV} (h:ps.all (cmpOkN n)=true) (e:ps[j]?=some p):cmpOkN n p=true:=by
  rw [List.all_eq_true] at h
  exact h p (List.mem_of_getElem? e)
theorem eq_same (I:Inv X pins σ H s) (sm:Same Hf H):∀ (n:Nat) {v:V}{p q:PV},Rp X.K cl Hf v p→Rp X.K cl Hf v q→cmpOkN n p=true→cmpOkN n q=true→eqPV p q=true:=by
  intro n
  induction n with
  | zero =>
    intro v p q hp hq cp cq
    cases hp<;>cases hq<;>first | (simp [eqPV];done) | (simp [cmpOkN] at cp;done)
  | succ n ih =>
    have all:∀ {vs:List V}{ps qs:List PV},Rps X.K cl Hf vs ps→Rps X.K cl Hf vs qs→ps.all (cmpOkN n)=true→qs.all (cmpOkN n)=true→eqPVs ps qs=true:=by
      intro vs
      induction vs with
      | nil=>intro ps qs r1 r2 _ _;cases r1;cases r2;rfl
      | cons v vs ihv =>
        intro ps qs r1 r2 c1 c2
        cases r1 with
        | cons a1 t1 =>
          cases r2 with
          | cons a2 t2 =>
            rw [List.all_cons,Bool.and_eq_true] at c1 c2
            show (eqPV _ _ && eqPVs _ _)=true
            rw [ih a1 a2 c1.1 c2.1,ihv t1 t2 c1.2 c2.2]
            rfl
    intro v p q hp hq cp cq
    have noLT:∀ {a:Addr}{xs ys:List V},SqL X.K Hf a xs→SqT X.K Hf a ys→False:=fun {a xs ys} h1 h2=>by
      obtain ⟨its,_,⟨o,n1,e1,c1,_⟩,_⟩:=I.list (sm.seq h1)
      obtain ⟨its2,_,⟨o2,e2,c2,_⟩,_⟩:=I.tuple (Same.seqT sm h2)
      rw [e1] at e2;cases e2;rw [c1] at c2;injection c2 with c3;exact absurd c3 (by decide)
    cases hp with
    | tup h1 r1 =>
      cases hq with
      | tup h2 r2 =>
        have e:=I.tuple_inj (Same.seqT sm h1) (Same.seqT sm h2)
        subst e
        exact all r1 r2 cp cq
      | lst h2 r2=>exact (noLT h2 h1).elim
      | _=>simp [cmpOkN] at cq
    | lst h1 r1 =>
      cases hq with
      | tup h2 r2=>exact (noLT h1 h2).elim
      | lst h2 r2 =>
        have e:=I.list_inj (sm.seq h1) (sm.seq h2)
        subst e
        exact all r1 r2 cp cq
      | _=>simp [cmpOkN] at cq
    | _=>cases hq<;>first | (simp [eqPV];done) | (simp [cmpOkN] at cp;done)
theorem eq_deep (I:Inv X pins σ H s) (sm:Same Hf H):∀ (n:Nat) {A:Around}{x y:V}{v u:Value}{p q:PV},A.units+n<cLine→RelV x v→RelV y u→Rp X.K cl Hf x p→Rp X.K cl Hf y q→cmpOkN n p=true→cmpOkN n q=true →
    SeqAt.RcAt A s v u (eqPV p q)∧SeqAt.EqAt A s v u (eqPV p q)∧SeqAt.RcNeAt A s v u (!eqPV p q):=by
  intro n
  induction n with
  | zero =>
    intro A x y v u p q hu rv ru rp rq cp cq
    cases rp<;>first | (simp [cmpOkN] at cp;done) | skip
    all_goals (cases rq<;>first | (simp [cmpOkN] at cq;done) | skip)
    · cases rv;cases ru;exact ⟨SeqAt.RcAt.none_none,SeqAt.EqAt.same _,SeqAt.RcNeAt.none_none⟩
    · cases rv;cases ru;exact ⟨SeqAt.RcAt.none_bool _,SeqAt.EqAt.none_bool _,SeqAt.RcNeAt.none_bool _⟩
    · cases rv;obtain ⟨t,rfl⟩:=ru;exact ⟨SeqAt.RcAt.none_int _ _,SeqAt.EqAt.none_int _ _,SeqAt.RcNeAt.none_int _ _⟩
    · cases rv;obtain ⟨t,rfl⟩:=ru;exact ⟨SeqAt.RcAt.none_str _ _,SeqAt.EqAt.none_str _ _,SeqAt.RcNeAt.none_str _ _⟩
    · cases rv;cases ru;exact ⟨SeqAt.RcAt.bool_none _,SeqAt.EqAt.bool_none _,SeqAt.RcNeAt.bool_none _⟩
    · cases rv;cases ru;exact ⟨SeqAt.RcAt.bool_bool _ _,SeqAt.EqAt.bool_bool _ _,SeqAt.RcNeAt.bool_bool _ _⟩
    · cases rv;obtain ⟨t,rfl⟩:=ru;exact ⟨SeqAt.RcAt.bool_int _ _ _,SeqAt.EqAt.bool_int _ _ _,SeqAt.RcNeAt.bool_int _ _ _⟩
    · cases rv;obtain ⟨t,rfl⟩:=ru;exact ⟨SeqAt.RcAt.bool_str _ _ _,SeqAt.EqAt.bool_str _ _ _,SeqAt.RcNeAt.bool_str _ _ _⟩
    · obtain ⟨t,rfl⟩:=rv;cases ru;exact ⟨SeqAt.RcAt.int_none _ _,SeqAt.EqAt.int_none _ _,SeqAt.RcNeAt.int_none _ _⟩
    · obtain ⟨t,rfl⟩:=rv;cases ru;exact ⟨SeqAt.RcAt.int_bool _ _ _,SeqAt.EqAt.int_bool _ _ _,SeqAt.RcNeAt.int_bool _ _ _⟩
    · obtain ⟨t,rfl⟩:=rv;obtain ⟨t',rfl⟩:=ru;exact ⟨SeqAt.RcAt.int_int _ _ _ _,SeqAt.EqAt.int_int _ _ _ _,SeqAt.RcNeAt.int_int _ _ _ _⟩
    · obtain ⟨t,rfl⟩:=rv;obtain ⟨t',rfl⟩:=ru;exact ⟨SeqAt.RcAt.int_str _ _ _ _,SeqAt.EqAt.int_str _ _ _ _,SeqAt.RcNeAt.int_str _ _ _ _⟩
    · obtain ⟨t,rfl⟩:=rv;cases ru;exact ⟨SeqAt.RcAt.str_none _ _,SeqAt.EqAt.str_none _ _,SeqAt.RcNeAt.str_none _ _⟩
    · obtain ⟨t,rfl⟩:=rv;cases ru;exact ⟨SeqAt.RcAt.str_bool _ _ _,SeqAt.EqAt.str_bool _ _ _,SeqAt.RcNeAt.str_bool _ _ _⟩
    · obtain ⟨t,rfl⟩:=rv;obtain ⟨t',rfl⟩:=ru;exact ⟨SeqAt.RcAt.str_int _ _ _ _,SeqAt.EqAt.str_int _ _ _ _,SeqAt.RcNeAt.str_int _ _ _ _⟩
    · obtain ⟨t,rfl⟩:=rv;obtain ⟨t',rfl⟩:=ru;exact ⟨SeqAt.RcAt.str_str _ _ _ _,SeqAt.EqAt.str_str _ _ _ _,SeqAt.RcNeAt.str_str _ _ _ _⟩
  | succ n ih =>
    intro A x y v u p q hu rv ru rp rq cp cq
    have hu0:A.units<cLine:=by omega
    have hu1:A.in1.units+n<cLine:=by show A.units+1+n<cLine;omega
    have items:∀ {xs ys:List V}{its its2:List Value}{ps qs:List PV},Rps X.K cl Hf xs ps→Rps X.K cl Hf ys qs→Vals xs its→Vals ys its2→ps.all (cmpOkN n)=true→qs.all (cmpOkN n)=true →
        ∀ j (h1:j<its.toArray.size) (h2:j<its2.toArray.size),SeqAt.EqAt A.in1 s its.toArray[j] its2.toArray[j] (eAt ps qs j):=by
      intro xs ys its its2 ps qs r1 r2 w1 w2 c1 c2 j h1 h2
      have g1:j<ps.length:=by rw [← r1.length,w1.length];simpa using h1
      have g2:j<qs.length:=by rw [← r2.length,w2.length];simpa using h2
      obtain ⟨a,ea,ra⟩:=r1.get (List.getElem?_eq_getElem g1)
      obtain ⟨b,eb,rb⟩:=r2.get (List.getElem?_eq_getElem g2)
      obtain ⟨ua,eua,rua⟩:=w1.get ea
      obtain ⟨ub,eub,rub⟩:=w2.get eb
      have f1:its.toArray[j]=ua:=by
        have:its[j]?=some its.toArray[j]:=by simp
        rw [this] at eua;exact Option.some.inj eua
      have f2:its2.toArray[j]=ub:=by
        have:its2[j]?=some its2.toArray[j]:=by simp
        rw [this] at eub;exact Option.some.inj eub
      rw [f1,f2]
      have e:eAt ps qs j=eqPV ps[j] qs[j]:=by
        unfold eAt
        rw [List.getElem?_eq_getElem g1,List.getElem?_eq_getElem g2]
      rw [e]
      exact (ih hu1 rua rub ra rb (cmpOk_get c1 (List.getElem?_eq_getElem g1)) (cmpOk_get c2 (List.getElem?_eq_getElem g2))).2.1
    cases rp<;>first | (simp [cmpOkN] at cp;done) | skip
    all_goals (cases rq<;>first | (simp [cmpOkN] at cq;done) | skip)
    · cases rv;cases ru;exact ⟨SeqAt.RcAt.none_none,SeqAt.EqAt.same _,SeqAt.RcNeAt.none_none⟩
    · cases rv;cases ru;exact ⟨SeqAt.RcAt.none_bool _,SeqAt.EqAt.none_bool _,SeqAt.RcNeAt.none_bool _⟩
    · cases rv;obtain ⟨t,rfl⟩:=ru;exact ⟨SeqAt.RcAt.none_int _ _,SeqAt.EqAt.none_int _ _,SeqAt.RcNeAt.none_int _ _⟩
    · cases rv;obtain ⟨t,rfl⟩:=ru;exact ⟨SeqAt.RcAt.none_str _ _,SeqAt.EqAt.none_str _ _,SeqAt.RcNeAt.none_str _ _⟩
    · rename_i h r;cases rv;cases ru;obtain ⟨its,w,pl,z⟩:=I.tuple (Same.seqT sm h);exact ⟨SeqAt.RcAt.none_tuple pl hu0,SeqAt.EqAt.none_tuple pl hu0,SeqAt.RcNeAt.none_tuple pl hu0⟩
    · rename_i h r;cases rv;cases ru;obtain ⟨its,w,pl,z⟩:=I.list (sm.seq h);exact ⟨SeqAt.RcAt.none_list pl.isList hu0,SeqAt.EqAt.none_list pl.isList hu0,SeqAt.RcNeAt.none_list pl.isList hu0⟩
    · cases rv;cases ru;exact ⟨SeqAt.RcAt.bool_none _,SeqAt.EqAt.bool_none _,SeqAt.RcNeAt.bool_none _⟩
    · cases rv;cases ru;exact ⟨SeqAt.RcAt.bool_bool _ _,SeqAt.EqAt.bool_bool _ _,SeqAt.RcNeAt.bool_bool _ _⟩
    · cases rv;obtain ⟨t,rfl⟩:=ru;exact ⟨SeqAt.RcAt.bool_int _ _ _,SeqAt.EqAt.bool_int _ _ _,SeqAt.RcNeAt.bool_int _ _ _⟩
    · cases rv;obtain ⟨t,rfl⟩:=ru;exact ⟨SeqAt.RcAt.bool_str _ _ _,SeqAt.EqAt.bool_str _ _ _,SeqAt.RcNeAt.bool_str _ _ _⟩
    · rename_i h r;cases rv;cases ru;obtain ⟨its,w,pl,z⟩:=I.tuple (Same.seqT sm h);exact ⟨SeqAt.RcAt.bool_tuple _ pl hu0,SeqAt.EqAt.bool_tuple _ pl hu0,SeqAt.RcNeAt.bool_tuple _ pl hu0⟩
    · rename_i h r;cases rv;cases ru;obtain ⟨its,w,pl,z⟩:=I.list (sm.seq h);exact ⟨SeqAt.RcAt.bool_list _ pl.isList hu0,SeqAt.EqAt.bool_list _ pl.isList hu0,SeqAt.RcNeAt.bool_list _ pl.isList hu0⟩
    · obtain ⟨t,rfl⟩:=rv;cases ru;exact ⟨SeqAt.RcAt.int_none _ _,SeqAt.EqAt.int_none _ _,SeqAt.RcNeAt.int_none _ _⟩
    · obtain ⟨t,rfl⟩:=rv;cases ru;exact ⟨SeqAt.RcAt.int_bool _ _ _,SeqAt.EqAt.int_bool _ _ _,SeqAt.RcNeAt.int_bool _ _ _⟩
    · obtain ⟨t,rfl⟩:=rv;obtain ⟨t',rfl⟩:=ru;exact ⟨SeqAt.RcAt.int_int _ _ _ _,SeqAt.EqAt.int_int _ _ _ _,SeqAt.RcNeAt.int_int _ _ _ _⟩
    · obtain ⟨t,rfl⟩:=rv;obtain ⟨t',rfl⟩:=ru;exact ⟨SeqAt.RcAt.int_str _ _ _ _,SeqAt.EqAt.int_str _ _ _ _,SeqAt.RcNeAt.int_str _ _ _ _⟩
    · rename_i h r;obtain ⟨t,rfl⟩:=rv;cases ru;obtain ⟨its,w,pl,z⟩:=I.tuple (Same.seqT sm h);exact ⟨SeqAt.RcAt.int_tuple _ _ pl hu0,SeqAt.EqAt.int_tuple _ _ pl hu0,SeqAt.RcNeAt.int_tuple _ _ pl hu0⟩
    · rename_i h r;obtain ⟨t,rfl⟩:=rv;cases ru;obtain ⟨its,w,pl,z⟩:=I.list (sm.seq h);exact ⟨SeqAt.RcAt.int_list _ _ pl.isList hu0,SeqAt.EqAt.int_list _ _ pl.isList hu0,SeqAt.RcNeAt.int_list _ _ pl.isList hu0⟩
    · obtain ⟨t,rfl⟩:=rv;cases ru;exact ⟨SeqAt.RcAt.str_none _ _,SeqAt.EqAt.str_none _ _,SeqAt.RcNeAt.str_none _ _⟩
    · obtain ⟨t,rfl⟩:=rv;cases ru;exact ⟨SeqAt.RcAt.str_bool _ _ _,SeqAt.EqAt.str_bool _ _ _,SeqAt.RcNeAt.str_bool _ _ _⟩
    · obtain ⟨t,rfl⟩:=rv;obtain ⟨t',rfl⟩:=ru;exact ⟨SeqAt.RcAt.str_int _ _ _ _,SeqAt.EqAt.str_int _ _ _ _,SeqAt.RcNeAt.str_int _ _ _ _⟩
    · obtain ⟨t,rfl⟩:=rv;obtain ⟨t',rfl⟩:=ru;exact ⟨SeqAt.RcAt.str_str _ _ _ _,SeqAt.EqAt.str_str _ _ _ _,SeqAt.RcNeAt.str_str _ _ _ _⟩
    · rename_i h r;obtain ⟨t,rfl⟩:=rv;cases ru;obtain ⟨its,w,pl,z⟩:=I.tuple (Same.seqT sm h);exact ⟨SeqAt.RcAt.str_tuple _ _ pl hu0,SeqAt.EqAt.str_tuple _ _ pl hu0,SeqAt.RcNeAt.str_tuple _ _ pl hu0⟩
    · rename_i h r;obtain ⟨t,rfl⟩:=rv;cases ru;obtain ⟨its,w,pl,z⟩:=I.list (sm.seq h);exact ⟨SeqAt.RcAt.str_list _ _ pl.isList hu0,SeqAt.EqAt.str_list _ _ pl.isList hu0,SeqAt.RcNeAt.str_list _ _ pl.isList hu0⟩
    · rename_i h r;cases rv;cases ru;obtain ⟨its,w,pl,z⟩:=I.tuple (Same.seqT sm h);exact ⟨SeqAt.RcAt.tuple_none pl hu0,SeqAt.EqAt.tuple_none pl hu0,SeqAt.RcNeAt.tuple_none pl hu0⟩
    · rename_i h r _;cases rv;cases ru;obtain ⟨its,w,pl,z⟩:=I.tuple (Same.seqT sm h);exact ⟨SeqAt.RcAt.tuple_bool _ pl hu0,SeqAt.EqAt.tuple_bool _ pl hu0,SeqAt.RcNeAt.tuple_bool _ pl hu0⟩
    · rename_i h r _;cases rv;obtain ⟨t',rfl⟩:=ru;obtain ⟨its,w,pl,z⟩:=I.tuple (Same.seqT sm h);exact ⟨SeqAt.RcAt.tuple_int _ _ pl hu0,SeqAt.EqAt.tuple_int _ _ pl hu0,SeqAt.RcNeAt.tuple_int _ _ pl hu0⟩
    · rename_i h r _;cases rv;obtain ⟨t',rfl⟩:=ru;obtain ⟨its,w,pl,z⟩:=I.tuple (Same.seqT sm h);exact ⟨SeqAt.RcAt.tuple_str _ _ pl hu0,SeqAt.EqAt.tuple_str _ _ pl hu0,SeqAt.RcNeAt.tuple_str _ _ pl hu0⟩
    · rename_i a xs ps h r b ys qs h' r'
      cases rv;cases ru
      obtain ⟨its,w,pl,z⟩:=I.tuple (Same.seqT sm h)
      obtain ⟨its2,w2,pl2,z2⟩:=I.tuple (Same.seqT sm h')
      have it:=items r r' w w2 cp cq
      have e:((List.range (min its.toArray.size its2.toArray.size)).all (eAt ps qs) && its.toArray.size == its2.toArray.size)=eqPV (.tup ps) (.tup qs):=by
        show _=eqPVs ps qs
        rw [eqPVs_eq,List.size_toArray,List.size_toArray,← w.length,← w2.length,r.length,r'.length]
      have c1:=SeqAt.RcAt.tuples (A:=A) pl pl2 hu0 it
      have c2:=SeqAt.RcNeAt.tuples (A:=A) pl pl2 hu0 it
      rw [e] at c1 c2
      refine ⟨c1,?_,c2⟩
      by_cases hab:a=b
      · subst hab
        rw [eq_same I sm (n+1) (Rp.tup h r) (Rp.tup h' r') cp cq]
        exact SeqAt.EqAt.same _
      · exact .of_refs hab c1
    · rename_i a xs ps h r b ys qs h' r'
      cases rv;cases ru
      obtain ⟨its,w,pl,z⟩:=I.tuple (Same.seqT sm h)
      obtain ⟨its2,w2,pl2,z2⟩:=I.list (sm.seq h')
      exact ⟨SeqAt.RcAt.tuple_list pl pl2.isList hu0,SeqAt.EqAt.tuple_list pl pl2.isList hu0,SeqAt.RcNeAt.tuple_list pl pl2.isList hu0⟩
    · rename_i h r;cases rv;cases ru;obtain ⟨its,w,pl,z⟩:=I.list (sm.seq h);exact ⟨SeqAt.RcAt.list_none pl.isList hu0,SeqAt.EqAt.list_none pl.isList hu0,SeqAt.RcNeAt.list_none pl.isList hu0⟩
    · rename_i h r _;cases rv;cases ru;obtain ⟨its,w,pl,z⟩:=I.list (sm.seq h);exact ⟨SeqAt.RcAt.list_bool _ pl.isList hu0,SeqAt.EqAt.list_bool _ pl.isList hu0,SeqAt.RcNeAt.list_bool _ pl.isList hu0⟩
    · rename_i h r _;cases rv;obtain ⟨t',rfl⟩:=ru;obtain ⟨its,w,pl,z⟩:=I.list (sm.seq h);exact ⟨SeqAt.RcAt.list_int _ _ pl.isList hu0,SeqAt.EqAt.list_int _ _ pl.isList hu0,SeqAt.RcNeAt.list_int _ _ pl.isList hu0⟩
    · rename_i h r _;cases rv;obtain ⟨t',rfl⟩:=ru;obtain ⟨its,w,pl,z⟩:=I.list (sm.seq h);exact ⟨SeqAt.RcAt.list_str _ _ pl.isList hu0,SeqAt.EqAt.list_str _ _ pl.isList hu0,SeqAt.RcNeAt.list_str _ _ pl.isList hu0⟩
    · rename_i a xs ps h r b ys qs h' r'
      cases rv;cases ru
      obtain ⟨its,w,pl,z⟩:=I.list (sm.seq h)
      obtain ⟨its2,w2,pl2,z2⟩:=I.tuple (Same.seqT sm h')
      exact ⟨SeqAt.RcAt.list_tuple pl.isList pl2 hu0,SeqAt.EqAt.list_tuple pl.isList pl2 hu0,SeqAt.RcNeAt.list_tuple pl.isList pl2 hu0⟩
    · rename_i a xs ps h r b ys qs h' r'
      cases rv;cases ru
      obtain ⟨its,w,pl,z⟩:=I.list (sm.seq h)
      obtain ⟨its2,w2,pl2,z2⟩:=I.list (sm.seq h')
      have it:=items r r' w w2 cp cq
      have l1:its.toArray.size=ps.length:=by rw [List.size_toArray,← w.length,r.length]
      have l2:its2.toArray.size=qs.length:=by rw [List.size_toArray,← w2.length,r'.length]
      have both:SeqAt.RcAt A s (.ref a) (.ref b) (eqPVs ps qs)∧SeqAt.RcNeAt A s (.ref a) (.ref b) (!eqPVs ps qs):=by
        by_cases hl:ps.length=qs.length
        · have c1:=SeqAt.RcAt.lists (A:=A) pl.isList pl2.isList (by rw [l1,l2,hl]) hu0 it
          have c2:=SeqAt.RcNeAt.lists (A:=A) pl.isList pl2.isList (by rw [l1,l2,hl]) hu0 it
          rw [l1,← eqPVs_len hl] at c1 c2
          exact ⟨c1,c2⟩
        · rw [eqPVs_ne hl]
          have hne:(its.toArray.size != its2.toArray.size)=true:=by rw [l1,l2];simpa using hl
          exact ⟨SeqAt.RcAt.lists_lengths pl.isList pl2.isList hne hu0,SeqAt.RcNeAt.lists_lengths pl.isList pl2.isList hne hu0⟩
      refine ⟨both.1,?_,both.2⟩
      by_cases hab:a=b
      · subst hab
        rw [eq_same I sm (n+1) (Rp.lst h r) (Rp.lst h' r') cp cq]
        exact SeqAt.EqAt.same _
      · exact .of_refs hab both.1
theorem r_eq (hu:X.A.units+64<cLine):BinR X cl (compareOp .Eq) cEq:=by
  intro pins s σ Hf H x y v u p q I sm rv ru rp rq hs
  unfold cEq at hs ⊢
  by_cases hc0:(cmpOk p && cmpOk q)=true
  rotate_left
  · rw [if_neg hc0] at hs ⊢
    obtain ⟨hd,e⟩:=ifOk hs
    rw [e]
    cases p<;>cases q<;>first
      | (simp [dicStr] at hd;done)
      | skip
    cases rp with
    | dic0 h =>
      cases rq
      cases rv
      obtain ⟨t,rfl⟩:=ru
      obtain ⟨o,es,ep,h1,h2,h3⟩:=dic_at I sm h
      exact dict_str_at h1 h2 h3 (by omega) _ _ _ _ ⟨_,.bl false,Hf,H,rfl,I,rfl,Ext.refl sm,.bl _⟩
  rw [if_pos hc0] at hs ⊢
  have e:(R.ok (PV.bl (eqPV p q)):R PV) = .ok (.bl (eqPV p q)):=rfl
  have hc:=hc0
  rw [e]
  rw [Bool.and_eq_true] at hc
  exact (eq_deep I sm 6 (by omega) rv ru rp rq hc.1 hc.2).1 _ _ _ _ ⟨_,.bl _,Hf,H,rfl,I,rfl,Ext.refl sm,.bl _⟩
theorem r_ne (hu:X.A.units+64<cLine):BinR X cl (compareOp .NotEq) cNe:=by
  intro pins s σ Hf H x y v u p q I sm rv ru rp rq hs
  unfold cNe at hs ⊢
  obtain ⟨hc,e⟩:=ifOk hs
  rw [e]
  rw [Bool.and_eq_true] at hc
  exact (eq_deep I sm 6 (by omega) rv ru rp rq hc.1 hc.2).2.2 _ _ _ _ ⟨_,.bl _,Hf,H,rfl,I,rfl,Ext.refl sm,.bl _⟩
end
theorem objOk_there {P:Program}{w:World}{H:Hp}{h:Heap}{a:Addr}{o:HO} (x:ObjOk P w H h a o):∃ ob,h.get? a=some ob:=by
  cases o with
  | lst xs=>obtain ⟨_,_,_,_,e⟩:=x;exact ⟨_,e⟩
  | tup xs=>obtain ⟨_,_,_,ob,e,_⟩:=x;exact ⟨_,e⟩
  | dK kvs=>obtain ⟨_,_,_,_,o,_,_,e,_⟩:=x;exact ⟨_,e⟩
  | dT kvs=>obtain ⟨_,_,_,_,o,_,_,e,_⟩:=x;exact ⟨_,e⟩
  | set S n=>obtain ⟨o,_,_,_,e,_⟩:=x;exact ⟨_,e⟩
  | ins C dx fs=>obtain ⟨_,_,_,e,_⟩:=x;exact ⟨_,e⟩
  | own y=>exact x
  | xd fs=>obtain ⟨_,⟨_,_,_,e,_⟩,_⟩:=x;exact ⟨_,e⟩
  | rng lo hi=>obtain ⟨_,_,_,e⟩:=x;exact ⟨_,e⟩
  | frz ob u=>exact ⟨_,x.1⟩
  | tbl ps=>exact ⟨_,(show h.get? a=some _ from x)⟩
  | met f y=>exact ⟨_,(show h.get? a=some _ from x)⟩
  | ext φ=>exact x.2.1
section
variable {X:Cx}{cl:Nat→Addr}{pins:List (Addr×Obj)}{s:Shared}{σ:SV}{Hf0 H0 Hf H Hf1 H1:Hp}{ρ:MEnv}{α:Type}{B h':Heap}
structure Own (X:Cx):Prop where
  stk:X.stack=X.env::X.outer
  fr:X.env.frame=some X.env.locals
  ex:∀ b,b ∉ X.ex
  fn:∀ x,X.fn x=true
theorem stands_there (W:Own X) (I:Inv X pins σ H s) {b:Addr} (h:Stands X pins H b):∃ o,s.heap.get? b=some o:=by
  rcases h with h | ⟨p,hp,e⟩ | ⟨o,h⟩ | ⟨x,h⟩
  · cases e:H b with
    | none=>exact absurd e h
    | some u=>exact objOk_there (I.hok b u e)
  · rw [← e];exact ⟨_,(I.pin p hp).1⟩
  · exact I.base.there b o h (W.ex b)
  · obtain ⟨v,o',q,_⟩:=I.cell x b h
    exact ⟨o',q⟩
theorem frs_stk (W:Own X) {b:Addr}:b∈frs X.stack↔b=X.env.locals∨b∈X.fs:=by
  rw [W.stk]
  unfold frs
  rw [List.filterMap_cons,W.fr]
  exact List.mem_cons
theorem Cov.upto (W:Own X) (I:Inv X pins σ H s) (c:Cov X pins H B s.heap) (st:B.StaysIn h'):Cov X pins H B h':=by
  intro b o e hs hn
  obtain ⟨o',e'⟩:=stands_there W I hs
  have q:=c b o' e' hs hn
  have:=st b o' q
  rw [e] at this;cases this
  exact q
theorem Inv.upto (W:Own X) (I:Inv X pins σ H s) (c:Cov X pins H B s.heap) (st:B.StaysIn h') (u:s.heap.UpToSlots h') {tk:Nat}:Inv X pins σ H { s with heap:=h',toks:=tk }:=by
  have keep:∀ b o,s.heap.get? b=some o→Stands X pins H b→b ∉ frs X.stack→h'.get? b=some o:=fun b o e hs hn=>st b o (c b o e hs hn)
  have fr:∀ b∈frs X.stack,∃ o,s.heap.get? b=some o∧∀ vs,o.data≠.fields vs:=fun b hb=>((I.stack).mem hb).2
  have lnl:X.env.locals∈frs X.stack:=(frs_stk W).mpr (.inl rfl)
  have hokx:HOk X.prog X.w H h':=fun a o e=>by
    have na:a ∉ frs X.stack:=fun z=>by rw [I.stkFree a z] at e;cases e
    refine (I.hok a o e).stay (fun b v hb q=>?_) (fun _ q=>q) fun _ _ q=>q
    rcases hb with rfl | hb
    · exact keep _ v q (.inl (by rw [e];intro z;cases z)) na
    · have nb:b ∉ frs X.stack:=fun z=>by rw [I.stkFree b z] at hb;cases hb
      exact keep b v q (.inl (by rw [hb];intro z;cases z)) nb
  obtain ⟨m,hn,hl⟩:=I.loc
  have old:∀ b o,X.s₀.heap.get? b=some o→b≠X.env.locals:=fun b o e z=>by
    have:=Heap.lt_size e
    rw [z] at this
    exact absurd (Nat.lt_of_lt_of_le this I.ok.above) (Nat.lt_irrefl _)
  have cells:∀ x cc v,X.env.cells.lookup x=some cc→s.heap.IsCell cc v→h'.IsCell cc v:=fun x cc v e q=>by
    obtain ⟨o,ho,hd⟩:=q
    have nf:cc ∉ frs X.stack:=fun z=>by
      rcases (frs_stk W).mp z with z | z
      · exact I.cne x cc e z
      · obtain ⟨_,o',ho',_⟩:=I.ok.funs.mem z
        exact absurd (Nat.lt_of_lt_of_le (Heap.lt_size ho') (I.ok.cab x cc (W.fn x) e)) (Nat.lt_irrefl _)
    exact ⟨o,keep cc o ho (.inr (.inr (.inr ⟨x,e⟩))) nf,hd⟩
  refine ⟨I.ok,I.os,I.bare,⟨fun b o e n hb hx=>?_,fun b o e n hb hx=>?_,I.base.free,fun b o e hx=>?_,I.base.tups,I.base.frzs,I.base.tbls⟩,⟨m,u.ns hn,fun i x v e1 e2 e3=>?_⟩,fun x cc e=>?_,I.free,I.freeC,fun p hp=>?_,hokx,I.len⟩
  · exact keep b o (I.base.keep b o e n hb hx) (.inr (.inr (.inl ⟨o,e⟩))) fun z=>((frs_stk W).mp z).elim (old b o e) hb
  · obtain ⟨sl,q⟩:=I.base.slot b o e n hb hx
    obtain ⟨o',ho',hnf⟩:=fr b ((frs_stk W).mpr (.inr hb))
    rw [q] at ho';cases ho'
    obtain ⟨sl',q'⟩:=u b _ q hnf
    exact ⟨sl',q'⟩
  · obtain ⟨o',q⟩:=I.base.there b o e hx
    by_cases hb:b∈frs X.stack
    · obtain ⟨o2,ho2,hnf⟩:=fr b hb
      obtain ⟨sl',q'⟩:=u b _ ho2 hnf
      exact ⟨_,q'⟩
    · exact ⟨o',keep b o' q (.inr (.inr (.inl ⟨o,e⟩))) hb⟩
  · obtain ⟨uu,r,l⟩:=hl i x v e1 e2 e3
    refine ⟨uu,r,?_⟩
    rcases l with l | ⟨hk,cc,hc,hcell⟩
    · exact .inl l
    · exact .inr ⟨hk,cc,hc,cells x cc _ hc hcell⟩
  · obtain ⟨v,q⟩:=I.cell x cc e
    exact ⟨v,cells x cc v e q⟩
  · obtain ⟨p1,p2,p3,p4,p5⟩:=I.pin p hp
    exact ⟨keep p.1 p.2 p1 (.inr (.inl ⟨p,hp,rfl⟩)) fun z=>((frs_stk W).mp z).elim p3 p4,p2,p3,p4,p5⟩
theorem Cov.fewer {pl:List (Addr×Obj)} (c:Cov X (pins ++ pl) H B h'):Cov X pins H B h':=fun b o e hs hn=>c b o e (by
  rcases hs with h | ⟨p,hp,q⟩ | h | h
  · exact .inl h
  · refine .inr (.inl ⟨p,?_,q⟩)
    rcases List.mem_append.mp hp with z | z
    · exact List.mem_append_left _ z
    · exact List.mem_append_right _ (List.mem_append_left _ z)
  · exact .inr (.inr (.inl h))
  · exact .inr (.inr (.inr h))) hn
theorem XSt.fewer {pl:List (Addr×Obj)}{e C:Addr} (x:XSt X (pins ++ pl) H e C h'):XSt X pins H e C h':=by
  obtain ⟨B,a0,c,d,r⟩:=x
  exact ⟨B,a0,c.fewer,d,r⟩
theorem NoD.keep {e:Addr}{h h':Heap} (d:NoD e h) (k:Kd e h h'):NoD e h':=by
  obtain ⟨o,h1,h2⟩:=d
  obtain ⟨o',h3,_,h4⟩:=k o h1
  exact ⟨o',h3,h4.trans h2⟩
theorem note_ok0 {M:Model}{A:Around}{E:Value→Shared→Prop}{e C:Addr}{a0:Value}{Q:Unit→Shared→Prop} (W:Own X) (hfr:A.frames=some X.stack)
    (x:FreshW B X.stack e (.ref C) a0 s.heap∨Heap.HeldW B X.stack e (.ref C) a0 X.env.locals s.heap∨Heap.FlyingW B X.stack e (.ref C) a0 s.heap)
    (h:∀ h',Heap.HeldW B X.stack e (.ref C) a0 X.env.locals h'→s.heap.UpToSlots h'→Q () { s with heap:=h' }):wpAny M A (noteFrame (.ref e) X.env) Q E s:=by
  rw [W.stk] at x h hfr
  rcases x with ⟨f1,f2,f3,oe,vs,he,hc,hdi,hd,h0,h1⟩ | x | x
  · unfold noteFrame
    simp only [W.fr]
    refine wpAny_bind (wpAny_field he hd h1 ?_)
    rw [if_neg (by decide)]
    refine wpAny_entryW hfr f3 W.fr he f1 f2 hd (Array.getElem?_eq_some_iff.mp h1).1 h0 fun h' hN=>?_
    obtain ⟨k1,k2,k3,k4⟩:=hN
    rw [hc] at k3
    exact h h' ⟨k1,f2,k2,k3⟩ k4
  · exact wpAny_noteFrame_againW W.fr x.2.2.2 (h s.heap x (Heap.UpToSlots.refl _))
  · exact wpAny_looks_onW hfr W.fr x h
theorem note_ok {M:Model}{A:Around}{E:Value→Shared→Prop}{e C:Addr}{a0:Value}{Q:Unit→Shared→Prop} (W:Own X) (hfr:A.frames=some X.stack) (nd:NoD e s.heap)
    (x:FreshW B X.stack e (.ref C) a0 s.heap∨Heap.HeldW B X.stack e (.ref C) a0 X.env.locals s.heap∨Heap.FlyingW B X.stack e (.ref C) a0 s.heap)
    (h:∀ h',Heap.HeldW B X.stack e (.ref C) a0 X.env.locals h'→s.heap.UpToSlots h'→NoD e h'→Q () { s with heap:=h' }):wpAny M A (noteFrame (.ref e) X.env) Q E s :=
  wpAny_mono ((tame_note (.ref e) X.env).any e (note_ok0 (E:=fun _ _=>False) (Q:=fun _ s'=>∃ h',s'={ s with heap:=h' }∧Heap.HeldW B X.stack e (.ref C) a0 X.env.locals h'∧s.heap.UpToSlots h') W hfr x fun h' a b=>⟨h',rfl,a,b⟩))
    (fun _ s' ⟨⟨h',e1,a,b⟩,k⟩=>by subst e1;exact h h' a b (nd.keep k)) fun _ _ ⟨z,_⟩=>z.elim
theorem lands_ok {M:Model}{A:Around}{E:Value→Shared→Prop}{e C:Addr}{a0:Value}{Q:Unit→Shared→Prop}{l:List Env}{L:Addr} (nd:NoD e s.heap) (R:Heap.HeldW B l e (.ref C) a0 L s.heap)
    (h:∀ h',Heap.FlyingW B l e (.ref C) a0 h'→s.heap.UpToSlots h'→NoD e h'→Q () { s with heap:=h' }):wpAny M A (setFlight (.ref e) none) Q E s :=
  wpAny_mono ((tame_setFlight (.ref e) none).any e (wpAny_landsW (E:=fun _ _=>False) (Q:=fun _ s'=>∃ h',s'={ s with heap:=h' }∧Heap.FlyingW B l e (.ref C) a0 h'∧s.heap.UpToSlots h') R fun h' a b=>⟨h',rfl,a,b⟩))
    (fun _ s' ⟨⟨h',e1,a,b⟩,k⟩=>by subst e1;exact h h' a b (nd.keep k)) fun _ _ ⟨z,_⟩=>z.elim
theorem flight_ok0 {M:Model}{A:Around}{E:Value→Shared→Prop}{e C:Addr}{a0:Value}{Q:Unit→Shared→Prop}{l:List Env}{L:Addr} (R:Heap.HeldW B l e (.ref C) a0 L s.heap)
    (h:∀ h',Heap.HeldW B l e (.ref C) a0 L h'→s.heap.UpToSlots h'→Q () { s with heap:=h' }):wpAny M A (setFlight (.ref e) (some L)) Q E s:=by
  obtain ⟨hkb,hen,hl,oe,vs,T,oT,ts,he,hcls,hd,h1,hnT,hTe,hT,hdT,h3⟩:=R
  have hsz3:3<ts.size:=(Array.getElem?_eq_some_iff.mp h3).1
  have other:∀ b,b≠T→(s.heap.update T (Obj.mapFields (·.setIfInBounds 3 ((some L).elim Value.none fun f=>rawInt f)))).get? b=s.heap.get? b :=
    fun b hb=>Heap.get?_update_other _ _ (Ne.symm hb)
  have noRecord:∀ b o,s.heap.get? b=some o→(∀ vs,o.data≠.fields vs)→b≠T:=fun b o hb hnf q=>by
    rw [q,hT] at hb;injection hb with hb;subst hb;exact hnf ts hdT
  unfold setFlight
  refine wpAny_bind (wpAny_field he hd h1 ?_)
  rw [if_pos (show (Value.ref T != Value.none)=true from by simp)]
  refine wpAny_setField hT hdT hsz3 (h _ ⟨fun b o hbo=>(other b fun q=>by rw [q,hnT] at hbo;cases hbo).trans (hkb b o hbo),hen,
    hl.of_keeps fun b o hb hnf=>⟨o,(other b (noRecord b o hb hnf)).trans hb,rfl⟩,?_⟩ fun b o hb hnf=>⟨o.slots,(other b (noRecord b o hb hnf)).trans hb⟩)
  exact ⟨oe,vs,T,_,_,(other e (Ne.symm hTe)).trans he,hcls,hd,h1,hnT,hTe,Heap.get?_update_self _ hT (Obj.isFreed_of_fields (Obj.data_mapFields hdT _)),Obj.data_mapFields hdT _,by simp [hsz3]⟩
theorem flight_ok {M:Model}{A:Around}{E:Value→Shared→Prop}{e C:Addr}{a0:Value}{Q:Unit→Shared→Prop}{l:List Env}{L:Addr} (nd:NoD e s.heap) (R:Heap.HeldW B l e (.ref C) a0 L s.heap)
    (h:∀ h',Heap.HeldW B l e (.ref C) a0 L h'→s.heap.UpToSlots h'→NoD e h'→Q () { s with heap:=h' }):wpAny M A (setFlight (.ref e) (some L)) Q E s :=
  wpAny_mono ((tame_setFlight (.ref e) (some L)).any e (flight_ok0 (E:=fun _ _=>False) (Q:=fun _ s'=>∃ h',s'={ s with heap:=h' }∧Heap.HeldW B l e (.ref C) a0 L h'∧s.heap.UpToSlots h') R fun h' a b=>⟨h',rfl,a,b⟩))
    (fun _ s' ⟨⟨h',e1,a,b⟩,k⟩=>by subst e1;exact h h' a b (nd.keep k)) fun _ _ ⟨z,_⟩=>z.elim
theorem passes_of (W:Own X) {E:Value→Shared→Prop} (hE:∀ u s,E u s→∃ pins σ H e C,u = .ref e∧Inv X pins σ H s∧XSt X pins H e C s.heap∧∀ h',Inv X pins σ H { s with heap:=h' }→XSt X pins H e C h'→E u { s with heap:=h' }) :
    PassesOwn (model X.prog X.w) X.A X.env E:=by
  intro u s hu
  obtain ⟨pins,σ,H,e,C,rfl,I,⟨B,a0,c,nd,x⟩,k⟩:=hE u s hu
  refine note_ok W I.ok.frames nd x fun h1 hh u1 nd1=>?_
  have I1:=Inv.upto W I c hh.1 u1 (tk:=s.toks)
  have c1:=c.upto W I hh.1
  show wpAny _ _ _ _ _ _
  have hh':=hh
  obtain ⟨k1,k2,k3,oe,vs,T,oT,ts,he,hcls,hd,h1',_⟩:=hh'
  refine wpAny_bind (wpAny_field he hd h1' ?_)
  rw [if_neg (show ¬ ((Value.ref T == Value.none)=true) from by simp)]
  rw [W.fr]
  first
    | refine wpAny_bind (wpAny_pure ?_)
    | skip
  refine flight_ok (s:={ s with heap:=h1 }) nd1 hh fun h2 hh2 u2 nd2=>?_
  have I2:=Inv.upto W I1 c1 hh2.1 u2 (tk:=s.toks)
  exact k h2 I2 ⟨B,a0,c1.upto W I1 hh2.1,nd2,.inr (.inl hh2)⟩
end
section
variable (X:Cx) (cl:Nat→Addr)
def OkS (pins:List (Addr×Obj)) (Hf0 H0 Hg:Hp) (r:SR) (f:Flow) (s:Shared):Prop:=match f with
  | .next=>∃ ρ σ Hf H,r = .next ρ∧Inv X pins σ H s∧Rep X.K cl Hf0 H0 Hf H σ ρ∧Same Hg Hf
  | .brk=>∃ ρ σ Hf H,r = .brk ρ∧Inv X pins σ H s∧Rep X.K cl Hf0 H0 Hf H σ ρ∧Same Hg Hf
  | .cont=>∃ ρ σ Hf H,r = .cont ρ∧Inv X pins σ H s∧Rep X.K cl Hf0 H0 Hf H σ ρ∧Same Hg Hf
  | .ret u=>∃ p v σ Hf H,r = .ret p∧Inv X pins σ H s∧Ext Hf0 H0 Hf H∧RelV v u∧Rp X.K cl Hf v p
def ExS (pins:List (Addr×Obj)) (Hf0 H0 Hg:Hp) (r:SR) (u:Value) (s:Shared):Prop :=
  ∃ c ρ σ Hf H e,r = .exc c ρ∧u = .ref e∧Inv X pins σ H s∧Rep X.K cl Hf0 H0 Hf H σ ρ∧Same Hg Hf∧XSt X pins H e (cl c) s.heap
structure MS (st:Stmt) (f:FS):Prop where
  run':∀ (pins:List (Addr×Obj)) (s:Shared) (σ:SV) (Hf0 H0 Hf H:Hp) (ρ:MEnv),Inv X pins σ H s→Rep X.K cl Hf0 H0 Hf H σ ρ→f ρ≠.stuck →
    wpAny (model X.prog X.w) X.A (exec st X.env) (OkS X cl pins Hf0 H0 Hf (f ρ)) (ExS X cl pins Hf0 H0 Hf (f ρ)) s
instance {st:Stmt}{f:FS}:CoeFun (MS X cl st f) fun _=>∀ (pins:List (Addr×Obj)) (s:Shared) (σ:SV) (Hf0 H0 Hf H:Hp) (ρ:MEnv),Inv X pins σ H s→Rep X.K cl Hf0 H0 Hf H σ ρ→f ρ≠.stuck →
    wpAny (model X.prog X.w) X.A (exec st X.env) (OkS X cl pins Hf0 H0 Hf (f ρ)) (ExS X cl pins Hf0 H0 Hf (f ρ)) s:=⟨MS.run'⟩
structure MSs (st:List Stmt) (f:FS):Prop where
  run':∀ (pins:List (Addr×Obj)) (s:Shared) (σ:SV) (Hf0 H0 Hf H:Hp) (ρ:MEnv),Inv X pins σ H s→Rep X.K cl Hf0 H0 Hf H σ ρ→f ρ≠.stuck →
    wpAny (model X.prog X.w) X.A (execs st X.env) (OkS X cl pins Hf0 H0 Hf (f ρ)) (ExS X cl pins Hf0 H0 Hf (f ρ)) s
instance {st:List Stmt}{f:FS}:CoeFun (MSs X cl st f) fun _=>∀ (pins:List (Addr×Obj)) (s:Shared) (σ:SV) (Hf0 H0 Hf H:Hp) (ρ:MEnv),Inv X pins σ H s→Rep X.K cl Hf0 H0 Hf H σ ρ→f ρ≠.stuck →
    wpAny (model X.prog X.w) X.A (execs st X.env) (OkS X cl pins Hf0 H0 Hf (f ρ)) (ExS X cl pins Hf0 H0 Hf (f ρ)) s:=⟨MSs.run'⟩
end
section
variable {X:Cx}{cl:Nat→Addr}{pins:List (Addr×Obj)}{s:Shared}{σ:SV}{Hf0 H0 Hf H Hf1 H1:Hp}{ρ:MEnv}{α:Type}
theorem exs_of {c:Nat}{u:Value}{s':Shared} (r:Rep X.K cl Hf0 H0 Hf H σ ρ) (x:XAt X cl pins σ Hf H c u s'):ExS X cl pins Hf0 H0 Hf (.exc c ρ) u s':=by
  obtain ⟨e,Hf',H',rfl,I,ex,st⟩:=x
  exact ⟨c,ρ,σ,Hf',H',e,rfl,rfl,I,r.keep ex,ex.frz,st⟩
theorem OkS.from {Hg Hg':Hp}{r:SR}{fl:Flow}{s':Shared} (g:Same Hg Hg') (h:OkS X cl pins Hf0 H0 Hg' r fl s'):OkS X cl pins Hf0 H0 Hg r fl s':=by
  cases fl with
  | next=>obtain ⟨ρ,σ,Hf,H,a,b,c,d⟩:=h;exact ⟨ρ,σ,Hf,H,a,b,c,g.trans d⟩
  | brk=>obtain ⟨ρ,σ,Hf,H,a,b,c,d⟩:=h;exact ⟨ρ,σ,Hf,H,a,b,c,g.trans d⟩
  | cont=>obtain ⟨ρ,σ,Hf,H,a,b,c,d⟩:=h;exact ⟨ρ,σ,Hf,H,a,b,c,g.trans d⟩
  | ret u=>exact h
theorem ExS.from {Hg Hg':Hp}{r:SR}{u:Value}{s':Shared} (g:Same Hg Hg') (h:ExS X cl pins Hf0 H0 Hg' r u s'):ExS X cl pins Hf0 H0 Hg r u s':=by
  obtain ⟨c,ρ,σ,Hf,H,e,a,b,d,f,k,l⟩:=h
  exact ⟨c,ρ,σ,Hf,H,e,a,b,d,f,g.trans k,l⟩
theorem ME.stm {e:Expr}{f:FE} (h:ME X cl e f) (I:Inv X pins σ H s) (r:Rep X.K cl Hf0 H0 Hf H σ ρ) {k:PV→SR} (hs:ofR (f ρ) ρ k≠.stuck) {Q:Value→Shared→Prop}
    (ok:∀ p v u s' Hf' H',ofR (f ρ) ρ k=k p→Inv X pins σ H' s'→RelV v u→Ext Hf H Hf' H'→Rp X.K cl Hf' v p→Q u s') :
    wpAny (model X.prog X.w) X.A (eval e X.env) Q (ExS X cl pins Hf0 H0 Hf (ofR (f ρ) ρ k)) s:=by
  have hf:f ρ≠.stuck:=fun z=>hs (by rw [z];rfl)
  refine wpAny_mono (h pins s σ Hf0 H0 Hf H ρ I r hf) (fun u s' q=>?_) fun u s' q=>?_
  · obtain ⟨p,v,Hf',H',e1,I',rv,ex,rp⟩:=q
    exact ok p v u s' Hf' H' (by rw [e1];rfl) I' rv ex rp
  · obtain ⟨c,e1,x⟩:=q
    rw [e1]
    exact exs_of r x
theorem mss_nil:MSs X cl [] sNext:=⟨fun pins s σ Hf0 H0 Hf H ρ I r _=>wpAny_execs_nil ⟨ρ,σ,Hf,H,rfl,I,r,Same.refl _⟩⟩
theorem mss_cons {st:Stmt}{rest:List Stmt}{f g:FS} (h1:MS X cl st f) (h2:MSs X cl rest g):MSs X cl (st::rest) (sSeq f g):=by
  refine ⟨?_⟩
  intro pins s σ Hf0 H0 Hf H ρ I r hs
  have hf:f ρ≠.stuck:=fun z=>hs (by unfold sSeq;rw [z])
  refine wpAny_execs_cons (wpAny_mono (h1 pins s σ Hf0 H0 Hf H ρ I r hf) (fun fl s1 q=>?_) fun u s1 q=>?_)
  · cases fl with
    | next =>
      obtain ⟨ρ',σ',Hf',H',e1,I',r',sm⟩:=q
      have e2:sSeq f g ρ=g ρ':=by unfold sSeq;rw [e1]
      rw [e2] at hs ⊢
      exact wpAny_mono (h2 pins s1 σ' Hf0 H0 Hf' H' ρ' I' r' hs) (fun _ _ q=>q.from sm) fun _ _ q=>q.from sm
    | brk =>
      obtain ⟨ρ',σ',Hf',H',e1,I',r',sm⟩:=q
      have e2:sSeq f g ρ = .brk ρ':=by unfold sSeq;rw [e1]
      rw [e2];exact ⟨ρ',σ',Hf',H',rfl,I',r',sm⟩
    | cont =>
      obtain ⟨ρ',σ',Hf',H',e1,I',r',sm⟩:=q
      have e2:sSeq f g ρ = .cont ρ':=by unfold sSeq;rw [e1]
      rw [e2];exact ⟨ρ',σ',Hf',H',rfl,I',r',sm⟩
    | ret u =>
      obtain ⟨p,v,σ',Hf',H',e1,I',ex,rv,rp⟩:=q
      have e2:sSeq f g ρ = .ret p:=by unfold sSeq;rw [e1]
      rw [e2];exact ⟨p,v,σ',Hf',H',rfl,I',ex,rv,rp⟩
  · obtain ⟨c,ρ',σ',Hf',H',e,e1,eu,I',r',sm,x⟩:=q
    have e2:sSeq f g ρ = .exc c ρ':=by unfold sSeq;rw [e1]
    rw [e2];exact ⟨c,ρ',σ',Hf',H',e,rfl,eu,I',r',sm,x⟩
theorem mss_one {st:Stmt}{f:FS} (h1:MS X cl st f):MSs X cl [st] f:=by
  refine ⟨?_⟩
  intro pins s σ Hf0 H0 Hf H ρ I r hs
  refine wpAny_execs_cons (thn (h1 pins s σ Hf0 H0 Hf H ρ I r hs) fun fl s1 q=>?_)
  cases fl with
  | next=>exact wpAny_execs_nil q
  | ret v=>exact q
  | brk=>exact q
  | cont=>exact q
theorem ms_expr {e:Expr}{f:FE}{pos:Pos} (h:ME X cl e f) (hsw:swapsWith e none pos.line X.env=pure false:=by rfl):MS X cl (.Expr e pos) (sExpr f):=by
  refine ⟨?_⟩
  intro pins s σ Hf0 H0 Hf H ρ I r hs
  unfold sExpr at hs ⊢
  refine wpAny_Expr_any (h.stm I r hs fun p v u s1 Hf1 H1 e1 I1 rv x1 rp=>?_) I.quiet hsw
  rw [e1]
  exact ⟨ρ,σ,Hf1,H1,rfl,I1,r.keep x1,x1.frz⟩
theorem ms_ret {e:Expr}{f:FE}{pos:Pos} (h:ME X cl e f):MS X cl (.Return (some e) pos) (sRet f):=by
  refine ⟨?_⟩
  intro pins s σ Hf0 H0 Hf H ρ I r hs
  unfold sRet at hs ⊢
  refine wpAny_Return_some (h.stm I r hs fun p v u s1 Hf1 H1 e1 I1 rv x1 rp=>?_)
  rw [e1]
  exact ⟨p,v,σ,Hf1,H1,rfl,I1,r.ext.trans x1,rv,rp⟩
theorem ms_set {i:Nat}{x:Str}{e:Expr}{f:FE}{pos pos':Pos} (hN:X.N.Nodup) (hi:X.N[i]?=some x) (hx:Loc X.env.scope x) (he:ME X cl e f) (hsw:swapsWith e (some (.Name x pos')) pos.line X.env=pure false:=by rfl)
    (hf:X.fn x=true∨X.env.scope.names.lookup x=some .local:=by first | exact .inl rfl | exact .inr rfl | assumption):MS X cl (.Assign [.Name x pos'] e pos) (sSet i f):=by
  refine ⟨?_⟩
  intro pins s σ Hf0 H0 Hf H ρ I r hs
  unfold sSet at hs ⊢
  refine wpAny_Assign_Name (he.stm I r hs fun p v u s1 Hf1 H1 e1 I1 rv x1 rp=>?_) hsw
  rw [e1]
  have hl:i<σ.length:=by rw [I.len];exact (List.getElem?_eq_some_iff.mp hi).1
  exact store_ok I1 hN hi hx rv (fun s2 I2=>⟨_,_,Hf1,H1,rfl,I2,(r.keep x1).set i rp hl,x1.frz⟩) hf
theorem ms_if {c:Expr}{a b:List Stmt}{t:FT}{f g:FS}{pos:Pos} (hc:MT X cl c t) (ha:MSs X cl a f) (hb:MSs X cl b g):MS X cl (.If c a b pos) (sIf t f g):=by
  refine ⟨?_⟩
  intro pins s σ Hf0 H0 Hf H ρ I r hs
  have ht:t ρ≠.stuck:=fun z=>hs (by unfold sIf;rw [z])
  refine wpAny_If (wpAny_mono (hc pins s σ Hf0 H0 Hf H ρ I r ht) (fun d s1 q=>?_) fun u s1 q=>?_)
  · obtain ⟨Hf1,H1,e1,I1,x1⟩:=q
    cases d with
    | true =>
      have e2:sIf t f g ρ=f ρ:=by unfold sIf;rw [e1];rfl
      rw [e2] at hs ⊢
      exact wpAny_mono (ha pins s1 σ Hf0 H0 Hf1 H1 ρ I1 (r.keep x1) hs) (fun _ _ q=>q.from x1.frz) fun _ _ q=>q.from x1.frz
    | false =>
      have e2:sIf t f g ρ=g ρ:=by unfold sIf;rw [e1];rfl
      rw [e2] at hs ⊢
      exact wpAny_mono (hb pins s1 σ Hf0 H0 Hf1 H1 ρ I1 (r.keep x1) hs) (fun _ _ q=>q.from x1.frz) fun _ _ q=>q.from x1.frz
  · obtain ⟨c,e1,x⟩:=q
    have e2:sIf t f g ρ = .exc c ρ:=by unfold sIf;rw [e1]
    rw [e2]
    exact exs_of r x
def Over (J:It) (Hg:Hp) (vs:List V):Prop:=∀ H i,Same Hg H→(i<vs.length→J.go i H∧∀ x H',J.yld i H x H'→H'=H∧vs[i]?=some x)∧(vs.length≤i→J.stop i H)
def OkI (X:Cx) (cl:Nat→Addr) (tg:Expr) (pins:List (Addr×Obj)) (σ:SV) (Hf H:Hp) (r:R (List PV)) (itv:Value) (s2:Shared):Prop :=
  ∃ (ps:List PV) (vs:List V) (Hf':Hp),r = .ok ps∧PIE X pins σ tg (fun J H'=>Ext Hf H Hf' H'∧Over J Hf' vs∧Rps X.K cl Hf' vs ps) itv s2
structure MI (X:Cx) (cl:Nat→Addr) (tg iter:Expr) (f:FA):Prop where
  run':∀ (pins:List (Addr×Obj)) (s:Shared) (σ:SV) (Hf0 H0 Hf H:Hp) (ρ:MEnv),Inv X pins σ H s→Rep X.K cl Hf0 H0 Hf H σ ρ→f ρ≠.stuck →
    wpAny (model X.prog X.w) X.A (eval iter X.env) (fun v s1=>wpAny (model X.prog X.w) X.A (pyIter v) (OkI X cl tg pins σ Hf H (f ρ)) (ExP X cl pins σ Hf H (f ρ)) s1) (ExP X cl pins σ Hf H (f ρ)) s
instance {X:Cx}{cl:Nat→Addr}{tg iter:Expr}{f:FA}:CoeFun (MI X cl tg iter f) fun _=>∀ (pins:List (Addr×Obj)) (s:Shared) (σ:SV) (Hf0 H0 Hf H:Hp) (ρ:MEnv),Inv X pins σ H s→Rep X.K cl Hf0 H0 Hf H σ ρ→f ρ≠.stuck →
    wpAny (model X.prog X.w) X.A (eval iter X.env) (fun v s1=>wpAny (model X.prog X.w) X.A (pyIter v) (OkI X cl tg pins σ Hf H (f ρ)) (ExP X cl pins σ Hf H (f ρ)) s1) (ExP X cl pins σ Hf H (f ρ)) s:=⟨MI.run'⟩
theorem over_tup {K:PySem.W.Frag}{a:Addr}{xs:List V}{Hg:Hp} (h:SqT K Hg a xs):Over (Itt K a) Hg xs:=fun H i sm =>
  ⟨fun hi=>⟨⟨xs,xs[i],Same.seqT sm h,by simp [hi]⟩,fun x H' ⟨e,y⟩=>⟨e,y xs (Same.seqT sm h)⟩⟩,fun hi=>⟨xs,Same.seqT sm h,hi⟩⟩
theorem over_list' {K:PySem.W.Frag}{a:Addr}{xs:List V}{Hg:Hp} (h:SqL K Hg a xs):Over (Itl K a) Hg xs:=fun H i sm =>
  ⟨fun hi=>⟨⟨xs,xs[i],sm.seq h,by simp [hi]⟩,fun x H' ⟨e,y⟩=>⟨e,y xs (sm.seq h)⟩⟩,fun hi=>⟨xs,sm.seq h,hi⟩⟩
theorem mi_seq {tg iter:Expr}{f:FE} (h:ME X cl iter f):MI X cl tg iter (iSeq f):=by
  refine ⟨?_⟩
  intro pins s σ Hf0 H0 Hf H ρ I r hs
  unfold iSeq at hs ⊢
  refine h.run I r (Ext.refl r.sub) hs fun p v u s1 Hf1 H1 e1 I1 rv x1 rp=>?_
  rw [e1] at hs ⊢
  cases p<;>first
    | exact absurd rfl hs
    | skip
  · rename_i l
    cases rp with
    | tup hq rr =>
      cases rv
      obtain ⟨its,w,pl,hz⟩:=I1.tuple (Same.seqT x1.sub hq)
      refine wpAny_pyIter_tuple (show s1.heap.IsTuple _ its.toArray from pl) ?_
      refine ⟨l,_,Hf1,rfl,s1.heap.objs.size,[s1.heap.objs.size],_,_,H1,rfl,I1.kept (t':=s1.toks) fun b o e=>Heap.get?_push_of_some _ e,turn_tuple _ _,⟨_,Heap.get?_push_size _ rfl,rfl,rfl⟩,fun b hb=>?_,x1,over_tup hq,rr⟩
      have e:b=s1.heap.objs.size:=by simpa using hb
      subst e
      exact I1.fpOk (Nat.le_refl _) (I1.hok.fresh (Nat.le_refl _))
  · rename_i l
    cases rp with
    | lst hq rr =>
      cases rv
      obtain ⟨its,w,pl,hz⟩:=I1.list (x1.sub.seq hq)
      refine wpAny_pyIter_list pl.isList ?_
      refine ⟨l,_,Hf1,rfl,s1.heap.objs.size,[s1.heap.objs.size],_,_,H1,rfl,I1.kept (t':=s1.toks) fun b o e=>Heap.get?_push_of_some _ e,turn_list _ _,⟨_,Heap.get?_push_size _ rfl,rfl,rfl⟩,fun b hb=>?_,x1,over_list' hq,rr⟩
      have e:b=s1.heap.objs.size:=by simpa using hb
      subst e
      exact I1.fpOk (Nat.le_refl _) (I1.hok.fresh (Nat.le_refl _))
theorem passes_exs (W:Own X) {r:SR}{Hg:Hp}:PassesOwn (model X.prog X.w) X.A X.env (ExS X cl pins Hf0 H0 Hg r):=passes_of W fun u s ⟨c,ρ,σ,Hf,H,e,e1,eu,I,rr,sm,x⟩ =>
  ⟨pins,σ,H,e,cl c,eu,I,x,fun h' I' x'=>⟨c,ρ,σ,Hf,H,e,e1,eu,I',rr,sm,x'⟩⟩
theorem ms_for {i:Nat}{x:Str}{iter:Expr}{body:List Stmt}{f:FA}{g:FS}{pos pos':Pos} (W:Own X) (hc:X.calm=true) (hN:X.N.Nodup) (hi:X.N[i]?=some x) (hx:Loc X.env.scope x) (h:MI X cl (.Name x pos') iter f) (hb:MSs X cl body g)
    (hf:X.fn x=true∨X.env.scope.names.lookup x=some .local:=by first | exact .inl rfl | exact .inr rfl | assumption) (hfs:∀ y,foldedSetIterable iter X.env y=pure y:=by intro _;rfl) :
    MS X cl (.For (.Name x pos') iter body [] pos) (sFor i f g):=by
  refine ⟨?_⟩
  intro pins s σ Hf0 H0 Hf H ρ I r hs
  have hfr:f ρ≠.stuck:=fun z=>hs (by unfold sFor;rw [z])
  have hE:∀ u s',ExP X cl pins σ Hf H (f ρ) u s'→ExS X cl pins Hf0 H0 Hf (sFor i f g ρ) u s':=fun u s' ⟨c,e1,y⟩=>by
    have e2:sFor i f g ρ = .exc c ρ:=by unfold sFor;rw [e1]
    rw [e2];exact exs_of r y
  refine wpAny_For (wpAny_mono (h pins s σ Hf0 H0 Hf H ρ I r hfr) (fun v s1 h1=>wpAny_mono h1 (fun itv s2 h2=>?_) hE) hE) hfs
  obtain ⟨ps,vs,Hf2,e1,it,fp,tn,J,H2,e,I2,T,st2,f2,x2,ov,rps⟩:=h2
  subst e
  have e2:sFor i f g ρ=forL i g ps ρ:=by unfold sFor;rw [e1]
  rw [e2] at hs ⊢
  have hp:PassesOwn (model X.prog X.w) X.A X.env (ExS X cl pins Hf0 H0 Hf (forL i g ps ρ)):=passes_exs W
  have stat:∀ {H':Hp},(∀ b∈fp,H' b=none)→∀ b∈fp,FpOk X pins H' b:=fun hn b hb=>⟨hn b hb,(f2 b hb).2⟩
  have hil:∀ {σ':SV}{H':Hp}{s':Shared},Inv X pins σ' H' s'→i<σ'.length:=fun I'=>by rw [I'.len];exact (List.getElem?_eq_some_iff.mp hi).1
  refine codeAny_forLoop_any (fun n s'=>∃ k ρ' σ' Hf' H',Inv X pins σ' H' s'∧tn k s'.heap∧(∀ b∈fp,H' b=none)∧Rep X.K cl Hf0 H0 Hf' H' σ' ρ'∧Same Hf2 Hf'∧n=ps.length - k∧k≤ps.length∧forL i g (ps.drop k) ρ'=forL i g ps ρ) ?_ ps.length
    ⟨0,ρ,σ,Hf2,H2,I2,st2,fun b hb=>(f2 b hb).1,r.keep x2,Same.refl _,rfl,Nat.zero_le _,rfl⟩
  rintro n s3 ⟨k,ρ3,σ3,Hf3,H3,I3,st3,fr3,r3,sm3,rfl,hk,e3⟩
  have hvp:=rps.length
  have smH:Same Hf2 H3:=sm3.trans r3.sub
  by_cases hlt:k<ps.length
  · obtain ⟨go,yl⟩:=(ov H3 k smH).1 (by rw [hvp];exact hlt)
    refine wpAny_passesOwn hp (wpAny_mono (T.item X rfl rfl rfl hc k pins s3 σ3 H3 (ExS X cl pins Hf0 H0 Hf (forL i g ps ρ)) I3 (stat fr3) st3 go) (fun rr s4 ⟨u,hr,h4⟩=>?_) fun _ _ z=>z)
    subst hr
    refine wpAny_passesOwn hp (thn h4 fun _ s5 ⟨x5,H5,I5,r5,y5,st5,fr5⟩=>?_)
    obtain ⟨eH,ex5⟩:=yl x5 H5 y5
    subst eH
    obtain ⟨p5,ep5,rp5⟩:=rps.get' ex5
    have rp5':=rp5.keep sm3
    have hdrop:ps.drop k=p5::ps.drop (k+1):=by
      rw [List.drop_eq_getElem_cons hlt]
      rw [List.getElem?_eq_getElem hlt] at ep5
      rw [Option.some.inj ep5]
    have I5':=I5.pinned (stat fr5) (T.obj _ _ st5)
    refine wpAny_passesOwn hp (wpAny_assign_Name (store_ok I5' hN hi hx r5 (fun s6 I6=>?_) hf))
    have r6:=r3.set i rp5' (hil I3)
    rw [hdrop] at e3
    have step:forL i g (p5::ps.drop (k+1)) ρ3=(match g (ρ3.set i (some p5)) with | .next ρ'=>forL i g (ps.drop (k+1)) ρ' | .cont ρ'=>forL i g (ps.drop (k+1)) ρ' | .brk ρ'=>.next ρ' | o=>o):=rfl
    rw [step] at e3
    have hg:g (ρ3.set i (some p5))≠.stuck:=fun z=>hs (by rw [← e3,z])
    have smHf:Same Hf Hf3:=x2.frz.trans sm3
    refine wpAny_passesOwn hp (wpAny_mono (hb _ s6 _ Hf0 H0 Hf3 H5 _ I6 r6 hg) (fun fl s7 q7=>?_) fun u s7 q7=>?_)
    · have again:∀ {ρ7:MEnv}{σ7:SV}{Hf7 H7:Hp},Inv X (pins ++ pinsAt fp s5.heap) σ7 H7 s7→Rep X.K cl Hf0 H0 Hf7 H7 σ7 ρ7→Same Hf2 Hf7→forL i g (ps.drop (k+1)) ρ7=forL i g ps ρ →
          ∃ m,m<ps.length - k∧∃ k ρ' σ' Hf' H',Inv X pins σ' H' s7∧tn k s7.heap∧(∀ b∈fp,H' b=none)∧Rep X.K cl Hf0 H0 Hf' H' σ' ρ'∧Same Hf2 Hf'∧m=ps.length - k∧k≤ps.length∧forL i g (ps.drop k) ρ'=forL i g ps ρ:=fun {ρ7 σ7 Hf7 H7} I7 r7 sm7 e7=>by
        refine ⟨ps.length - (k+1),by omega,k+1,ρ7,σ7,Hf7,H7,I7.unpinned,T.keep _ _ _ st5 fun b hb o e=>(I7.pin (b,o) (List.mem_append_right _ (List.mem_append_right _ (mem_pinsAt hb e)))).1,fun b hb=>?_,r7,sm7,rfl,hlt,e7⟩
        obtain ⟨o,e,d⟩:=T.obj _ _ st5 b hb
        exact (I7.pin (b,o) (List.mem_append_right _ (List.mem_append_right _ (mem_pinsAt hb e)))).2.1
      cases fl with
      | next =>
        obtain ⟨ρ7,σ7,Hf7,H7,e7,I7,r7,sm7⟩:=q7
        rw [e7] at e3
        exact again I7 r7 (sm3.trans sm7) e3
      | cont =>
        obtain ⟨ρ7,σ7,Hf7,H7,e7,I7,r7,sm7⟩:=q7
        rw [e7] at e3
        exact again I7 r7 (sm3.trans sm7) e3
      | brk =>
        obtain ⟨ρ7,σ7,Hf7,H7,e7,I7,r7,sm7⟩:=q7
        rw [e7] at e3
        rw [← e3]
        exact ⟨ρ7,σ7,Hf7,H7,rfl,I7.unpinned,r7,smHf.trans sm7⟩
      | ret u =>
        obtain ⟨p7,v7,σ7,Hf7,H7,e7,I7,ex7,rv7,rp7⟩:=q7
        rw [e7] at e3
        rw [← e3]
        exact ⟨p7,v7,σ7,Hf7,H7,rfl,I7.unpinned,ex7,rv7,rp7⟩
    · obtain ⟨c7,ρ7,σ7,Hf7,H7,ee7,e7,eu7,I7,r7,sm7,x7⟩:=q7
      rw [e7] at e3
      rw [← e3]
      exact ⟨c7,ρ7,σ7,Hf7,H7,ee7,rfl,eu7,I7.unpinned,r7,smHf.trans sm7,x7.fewer⟩
  · have hke:k=ps.length:=by omega
    subst hke
    refine wpAny_passesOwn hp (thn (T.done X rfl rfl rfl hc ps.length pins s3 σ3 H3 _ I3 (stat fr3) st3 ((ov H3 ps.length smH).2 (by rw [hvp];exact Nat.le_refl _))) fun rr s4 ⟨hr,I4⟩=>?_)
    subst hr
    rw [List.drop_length] at e3
    rw [← e3]
    exact wpAny_execs_nil ⟨ρ3,σ3,Hf3,H3,rfl,I4,r3,x2.frz.trans sm3⟩
theorem ms_while {c:Expr}{body:List Stmt}{t:FT}{g:FS}{pos:Pos} (W:Own X) (hc:MT X cl c t) (hb:MSs X cl body g):MS X cl (.While c body [] pos) (sWhile t g):=by
  refine ⟨?_⟩
  intro pins s σ Hf0 H0 Hf H ρ I r hs
  have hp:PassesOwn (model X.prog X.w) X.A X.env (ExS X cl pins Hf0 H0 Hf (sWhile t g ρ)):=passes_exs W
  refine wpAny_While (codeAny_whileLoop (fun n s'=>∃ ρ' σ' Hf' H',Inv X pins σ' H' s'∧Rep X.K cl Hf0 H0 Hf' H' σ' ρ'∧Same Hf Hf'∧whileN t g n ρ'=sWhile t g ρ) ?_ turnsMax ⟨ρ,σ,Hf,H,I,r,Same.refl _,rfl⟩)
  rintro n s1 ⟨ρ1,σ1,Hf1,H1,I1,r1,sm1,e1⟩
  cases n with
  | zero=>exact absurd e1.symm hs
  | succ n =>
    have step:whileN t g (n+1) ρ1=(match t ρ1 with | .ok true=>(match g ρ1 with | .next ρ'=>whileN t g n ρ' | .cont ρ'=>whileN t g n ρ' | .brk ρ'=>.next ρ' | o=>o) | .ok false=>.next ρ1 | .exc c=>.exc c ρ1 | .stuck=>.stuck):=rfl
    rw [step] at e1
    have ht:t ρ1≠.stuck:=fun z=>hs (by rw [← e1,z])
    refine wpAny_passesOwn hp (wpAny_mono (hc pins s1 σ1 Hf0 H0 Hf1 H1 ρ1 I1 r1 ht) (fun b s2 q=>?_) fun u s2 q=>?_)
    · obtain ⟨Hf2,H2,e2,I2,x2⟩:=q
      rw [e2] at e1
      have r2:=r1.keep x2
      have sm2:=sm1.trans x2.frz
      cases b with
      | true =>
        rw [if_pos rfl]
        have e1':(match g ρ1 with | .next ρ'=>whileN t g n ρ' | .cont ρ'=>whileN t g n ρ' | .brk ρ'=>.next ρ' | o=>o)=sWhile t g ρ:=e1
        have hg:g ρ1≠.stuck:=fun z=>hs (by rw [← e1',z])
        refine wpAny_passesOwn hp (wpAny_mono (hb pins s2 σ1 Hf0 H0 Hf2 H2 ρ1 I2 r2 hg) (fun fl s3 q3=>?_) fun u s3 q3=>?_)
        · cases fl with
          | next =>
            obtain ⟨ρ7,σ7,Hf7,H7,e7,I7,r7,sm7⟩:=q3
            rw [e7] at e1'
            exact ⟨n,Nat.lt_succ_self n,ρ7,σ7,Hf7,H7,I7,r7,sm2.trans sm7,e1'⟩
          | cont =>
            obtain ⟨ρ7,σ7,Hf7,H7,e7,I7,r7,sm7⟩:=q3
            rw [e7] at e1'
            exact ⟨n,Nat.lt_succ_self n,ρ7,σ7,Hf7,H7,I7,r7,sm2.trans sm7,e1'⟩
          | brk =>
            obtain ⟨ρ7,σ7,Hf7,H7,e7,I7,r7,sm7⟩:=q3
            rw [e7] at e1'
            rw [← e1']
            exact ⟨ρ7,σ7,Hf7,H7,rfl,I7,r7,sm2.trans sm7⟩
          | ret u =>
            obtain ⟨p7,v7,σ7,Hf7,H7,e7,I7,ex7,rv7,rp7⟩:=q3
            rw [e7] at e1'
            rw [← e1']
            exact ⟨p7,v7,σ7,Hf7,H7,rfl,I7,ex7,rv7,rp7⟩
        · obtain ⟨c7,ρ7,σ7,Hf7,H7,ee7,e7,eu7,I7,r7,sm7,x7⟩:=q3
          rw [e7] at e1'
          rw [← e1']
          exact ⟨c7,ρ7,σ7,Hf7,H7,ee7,rfl,eu7,I7,r7,sm2.trans sm7,x7⟩
      | false =>
        rw [if_neg Bool.false_ne_true]
        have e1':SR.next ρ1=sWhile t g ρ:=e1
        rw [← e1']
        exact wpAny_execs_nil ⟨ρ1,σ1,Hf2,H2,rfl,I2,r2,sm2⟩
    · obtain ⟨c,e2,y⟩:=q
      rw [e2] at e1
      have e1':SR.exc c ρ1=sWhile t g ρ:=e1
      rw [← e1']
      exact ExS.from sm1 (exs_of r1 y)
end
section
variable {K:PySem.W.Frag}{cl:Nat→Addr}{Hf H:Hp}
theorem rep_start {n:Nat}{N:List Str}{vs:List V}{ps:List PV} (hn:N.length=n) (sm:Same Hf H) (r:Rps K cl Hf vs ps):Rep K cl Hf H Hf H (L2.start N vs) (Mi.start n ps):=by
  have hl:=r.length
  have get:∀ {i:Nat}{p:PV},(Mi.start n ps)[i]?=some (some p)→ps[i]?=some p:=fun {i p} h=>by
    unfold Mi.start at h
    by_cases hi:i<ps.length
    · rw [List.getElem?_append_left (by simpa using hi),List.getElem?_map] at h
      cases e:ps[i]? with
      | none=>rw [e] at h;cases h
      | some q=>rw [e] at h;cases h;rfl
    · rw [List.getElem?_append_right (by simpa using hi),List.getElem?_replicate] at h
      split at h<;>cases h
  have noown:∀ {i:Nat}{l:List PV},ps[i]?≠some (.own l):=fun {i l} e=>by
    obtain ⟨v,_,h⟩:=r.get e
    cases h
  refine ⟨Ext.refl sm,fun i p h=>?_,fun i j a b _ h _ _ _=>absurd (get h) noown⟩
  have e:=get h
  obtain ⟨v,h1,h2⟩:=r.get e
  refine ⟨v,?_,?_⟩
  · unfold L2.start
    have hi:i<vs.length:=(List.getElem?_eq_some_iff.mp h1).1
    rw [List.getElem?_append_left (by simpa using hi),List.getElem?_map,h1]
    rfl
  · cases p with
    | own l=>exact absurd e noown
    | _=>exact h2
end
section
variable {P:Program}{w:World}{K:PySem.W.Frag}{mg:Str→Option Value}{base:Heap}{cl:Nat→Addr}
abbrev cxM (P:Program) (w:World) (K:PySem.W.Frag) (mg:Str→Option Value) (base:Heap) (cl:Nat→Addr) (N:List Str) (qual:Str) (scope:Scope) (f:Addr) (cd:Value) (A:Around) (outer:List Env) (s:Shared) (H:Hp) (E:XK):Cx :=
  cxOf (CXm cl P w) P w K mg base N qual scope f cd A outer s H E
theorem own_cx {N:List Str}{qual:Str}{scope:Scope}{f:Addr}{cd:Value}{A:Around}{outer:List Env}{s:Shared}{H:Hp}{E:XK}:Own (cxM P w K mg base cl N qual scope f cd A outer s H E) :=
  ⟨rfl,rfl,fun b z=>absurd (show b∈([]:List Addr) from z) (by simp),fun _=>rfl⟩
theorem leaves_ok {N:List Str}{qual:Str}{scope:Scope}{f:Addr}{cd:Value}{A:Around}{outer:List Env}{s s':Shared}{H H':Hp}{E:XK}{pins:List (Addr×Obj)}{σ:SV}{e:Addr}{c:Nat}
    (I:Inv (cxM P w K mg base cl N qual scope f cd A outer s H E) pins σ H' s') (x:XSt (cxM P w K mg base cl N qual scope f cd A outer s H E) pins H' e (cl c) s'.heap) (hE:E (.ref (cl c)) none H') :
    (cxM P w K mg base cl N qual scope f cd A outer s H E).xe (.ref e) s':=by
  have W:=own_cx (P:=P) (w:=w) (K:=K) (mg:=mg) (base:=base) (cl:=cl) (N:=N) (qual:=qual) (scope:=scope) (f:=f) (cd:=cd) (A:=A) (outer:=outer) (s:=s) (H:=H) (E:=E)
  obtain ⟨B,a0,cov,nd,st⟩:=x
  show wpAny _ _ (leaving _ _) _ _ s'
  unfold leaving
  refine wpAny_bind (note_ok W I.ok.frames nd st fun h1 hh u1 nd1=>?_)
  have I1:=Inv.upto W I cov hh.1 u1 (tk:=s'.toks)
  have c1:=cov.upto W I hh.1
  refine lands_ok (s:={ s' with heap:=h1 }) nd1 hh fun h2 hf u2 nd2=>?_
  have I2:=Inv.upto W I1 c1 hf.1 u2 (tk:=s'.toks)
  have c2:=c1.upto W I1 hf.1
  refine ⟨e,c,H',B,a0,rfl,I2.os,I2.bare,I2.base,I2.hok,?_,fun b o hb hc hn=>?_,nd2,hE⟩
  · have hf':Heap.FlyingW B ((cxM P w K mg base cl N qual scope f cd A outer s H E).env::outer) e (.ref (cl c)) a0 h2:=hf
    obtain ⟨k1,k2,⟨_,_,k3⟩,k4⟩:=hf'
    exact ⟨k1,k2,k3,k4⟩
  · refine c2 b o hb ?_ fun z=>?_
    · rcases hc with hc | hc
      · exact .inl hc
      · exact .inr (.inr (.inl hc))
    · rcases (frs_stk W).mp z with z | z
      · rcases hc with hc | ⟨o₀,hc⟩
        · exact hc (by rw [z];exact I2.free)
        · have h1:=Heap.lt_size hc
          rw [z] at h1
          exact absurd (Nat.lt_of_lt_of_le h1 I2.ok.above) (Nat.lt_irrefl _)
      · exact hn z
theorem fn_mirror {x qual:Str}{st:Stmt}{f:Addr}{fd:FuncData}{N ps:List Str}{k n:Nat}{b:FS} (F:Fun K x qual st f fd) (S:FnScope N ps (defScope st)) (hn:ps.length=n)
    (hbody:∀ (cdv:Value) (A:Around) (outer:List Env) (s:Shared) (H:Hp) (E:XK),Room k (A.deeper (envOfC qual (defScope st) s.heap.objs.size f cdv)) →
      MSs (cxM P w K mg base cl N qual (defScope st) f cdv A outer s H E) cl (defBody st) b):FnOk P w K mg base (CXm cl P w) (k+1) f fd ps (spF K cl n (runF N.length b)):=by
  obtain ⟨oc,od,kV,doc,pm,an,cdv,ct,osl,rfl,lk,hcd⟩:=F.ex
  refine fn_of lk hcd S (fun vs H Q E h=>by rw [h.1,hn]) fun A outer s H vs Q E hr hsp=>?_
  obtain ⟨hl,Hf,qs,sm,rps,hs,hok,hex⟩:=hsp
  have hb:=hbody cdv A outer s H E hr
  have hs':b (Mi.start N.length qs)≠.stuck:=fun z=>hs (by unfold runF;rw [z])
  refine ⟨fun D σ H1=>σ=L2.start N vs∧H1=H∧D={ nx:=fun _ H'=>Q .non H',rt:=Q },fun pins s1 σ H1 D I h=>?_,rfl,rfl,rfl⟩
  obtain ⟨rfl,rfl,rfl⟩:=h
  refine wpAny_mono (hb pins s1 _ Hf H1 Hf H1 _ I (rep_start rfl sm rps) hs') (fun fl s2 q=>?_) fun u s2 q=>?_
  · cases fl with
    | next =>
      obtain ⟨ρ',σ',Hf',H',e1,I',r',_⟩:=q
      exact ⟨σ',H',I',hok .non .non Hf' H' (by unfold runF;rw [e1]) r'.ext .non⟩
    | ret u =>
      obtain ⟨p,v,σ',Hf',H',e1,I',ex,rv,rp⟩:=q
      exact ⟨v,σ',H',I',rv,hok p v Hf' H' (by unfold runF;rw [e1]) ex rp⟩
    | brk =>
      obtain ⟨ρ',σ',Hf',H',e1,I',r',_⟩:=q
      exact absurd (by unfold runF;rw [e1]) hs
    | cont =>
      obtain ⟨ρ',σ',Hf',H',e1,I',r',_⟩:=q
      exact absurd (by unfold runF;rw [e1]) hs
  · obtain ⟨c,ρ',σ',Hf',H',e,e1,rfl,I',r',_,x⟩:=q
    exact leaves_ok I' x (hex c Hf' H' (by unfold runF;rw [e1]) r'.ext)
end
def tyS:Ty→String
  | .int=>"int" | .bool=>"bool" | .str=>"str" | .tuple=>"tuple" | .list=>"list" | .dict=>"dict"
def tyN:Ty→Str
  | .int=>"int" | .bool=>"bool" | .str=>"str" | .tuple=>"tuple" | .list=>"list" | .dict=>"dict"
theorem tyN_boot (t:Ty):bootBuiltins (tyN t)=some (.type (tyS t)):=by
  cases t
  · exact boot_int
  · exact boot_bool
  · exact boot_str
  · exact boot_tuple
  · exact boot_list
  · exact boot_dict
section
variable {K:PySem.W.Frag}
theorem kit_none (t:Ty):PySem.W.kitOne K (.type "NoneType") (.type (tyS t))=some false:=by cases t<;>rfl
theorem kit_bool (t:Ty):PySem.W.kitOne K (.type "bool") (.type (tyS t))=some (match t with | .int=>true | .bool=>true | _=>false):=by cases t<;>rfl
theorem kit_int (t:Ty):PySem.W.kitOne K (.type "int") (.type (tyS t))=some (match t with | .int=>true | _=>false):=by cases t<;>rfl
theorem kit_str (t:Ty):PySem.W.kitOne K (.type "str") (.type (tyS t))=some (match t with | .str=>true | _=>false):=by cases t<;>rfl
theorem kit_tuple (t:Ty):PySem.W.kitOne K (.type "tuple") (.type (tyS t))=some (match t with | .tuple=>true | _=>false):=by cases t<;>rfl
theorem kit_list (t:Ty):PySem.W.kitOne K (.type "list") (.type (tyS t))=some (match t with | .list=>true | _=>false):=by cases t<;>rfl
theorem kit_dict (t:Ty):PySem.W.kitOne K (.type "dict") (.type (tyS t))=some (match t with | .dict=>true | _=>false):=by cases t<;>rfl
end
section
variable {X:Cx}{cl:Nat→Addr}{pins:List (Addr×Obj)}{s:Shared}{σ:SV}{Hf0 H0 Hf H Hf1 H1:Hp}{ρ:MEnv}{α:Type}
theorem isinst_run {p:PV}{v:V}{u:Value}{t:Ty}{b:Bool}{E:Value→Shared→Prop} (I:Inv X pins σ H s) (sm:Same Hf H) (rv:RelV v u) (rp:Rp X.K cl Hf v p) (h:isTy p t=some b) :
    wpAny (model X.prog X.w) X.A (call (.builtin "isinstance") [u,.type (tyS t)]) (OkP X cl pins σ Hf H (.ok (.bl b))) E s:=by
  have fin:∀ tk,OkP X cl pins σ Hf H (.ok (.bl b)) (.bool b) { s with toks:=tk }:=fun tk=>⟨.bl b,.bl b,Hf,H,rfl,I.tok _,rfl,Ext.refl sm,.bl b⟩
  cases rp with
  | non=>cases rv;exact PySem.W.kia_one PySem.W.kitx_none I.kIn True.intro (by rw [kit_none];cases t<;>exact h) (fun z=>nomatch z) fin
  | bl c=>cases rv;exact PySem.W.kia_one PySem.W.kitx_bool I.kIn True.intro (by rw [kit_bool];cases t<;>exact h) (fun z=>nomatch z) fin
  | int c=>obtain ⟨tk,rfl⟩:=rv;exact PySem.W.kia_one PySem.W.kitx_int I.kIn True.intro (by rw [kit_int];cases t<;>exact h) (fun z=>nomatch z) fin
  | str c=>obtain ⟨tk,rfl⟩:=rv;exact PySem.W.kia_one PySem.W.kitx_str I.kIn True.intro (by rw [kit_str];cases t<;>exact h) (fun z=>nomatch z) fin
  | tup hq r =>
    cases rv
    obtain ⟨its,w,⟨o,h1,h2,_⟩,_⟩:=I.tuple (Same.seqT sm hq)
    exact PySem.W.kia_one PySem.W.kitx_tuple I.kIn ⟨o,h1,h2⟩ (by rw [kit_tuple];cases t<;>exact h) (fun z=>nomatch z) fin
  | lst hq r =>
    cases rv
    obtain ⟨its,w,⟨o,n,h1,h2,_⟩,_⟩:=I.list (sm.seq hq)
    exact PySem.W.kia_one PySem.W.kitx_list I.kIn ⟨o,h1,h2⟩ (by rw [kit_list];cases t<;>exact h) (fun z=>nomatch z) fin
  | exc hq=>cases t<;>cases h
  | ins hq=>cases t<;>cases h
  | dic0 hq =>
    cases rv
    obtain ⟨_,_,vs,_,o,es,ep,h1,h2,_⟩:=I.hok _ _ (sm _ _ hq)
    exact PySem.W.kia_one PySem.W.kitx_dict I.kIn ⟨o,h1,h2.1⟩ (by rw [kit_dict];cases t<;>exact h) (fun z=>nomatch z) fin
theorem me_isinst {e:Expr}{f:FE} (t:Ty) {p p2 pos:Pos} (he:ME X cl e f) (hg:Gl X "isinstance") (hm:X.mg "isinstance"=none) (hg2:Gl X (tyN t)) (hm2:X.mg (tyN t)=none)
    (hst:starEach [e,.Name (tyN t) p2] X.env=[(false,eval e X.env),(false,eval (.Name (tyN t) p2) X.env)]:=by rfl) (hst2:starEach [.Name (tyN t) p2] X.env=[(false,eval (.Name (tyN t) p2) X.env)]:=by rfl) :
    ME X cl (.Call (.Name "isinstance" p) [e,.Name (tyN t) p2] [] pos) (fIsinst t f):=by
  refine ⟨?_⟩
  intro pins s σ Hf0 H0 Hf H ρ I r hs
  unfold fIsinst at hs ⊢
  refine wpAny_Call_Name_kw (ld_blt I hg hm boot_isinstance ?_)
  refine PyProof.Rows.callWith_builtin1 ?_ (by rw [hst,hst2]) (by rw [hst2];rfl)
  rw [hst]
  show wpAny _ _ (spliced ((false,eval e X.env)::backTo pos [(false,eval (.Name (tyN t) p2) X.env)])) _ _ s
  refine Calls.spliced_cons (he.run I r (Ext.refl r.sub) hs fun q v u s1 Hf1 H1 e1 I1 rv x1 rp=>?_)
  rw [e1] at hs ⊢
  cases hb:isTy q t with
  | none=>rw [hb] at hs;exact absurd rfl hs
  | some b =>
    have hn:tyN t≠"__name__":=by cases t<;>decide
    have hd:(tyN t == ("__debug__" : Str))=false:=by cases t<;>decide
    show wpAny _ _ (spliced ((false,eval (.Name (tyN t) p2) X.env)::[])) _ _ s1
    refine Calls.spliced_cons (ld_blt I1 hg2 hm2 (tyN_boot t) (Calls.spliced_nil ?_) hn hd)
    show wpAny _ _ (call (.builtin "isinstance") [u,.type (tyS t)]) (OkP X cl pins σ Hf H (.ok (.bl b))) _ s1
    exact thn (isinst_run I1 x1.sub rv rp hb) fun _ _ q=>q.from (e0:=x1)
theorem me_bitlen {e:Expr}{f:FE}{apos pos:Pos}{pl:Sem Bool} (he:ME X cl e f)
    (ht:eval (.Call (.Attribute e "bit_length" apos) [] [] pos) X.env=(do
      let ov ← eval e X.env
      standAt apos.atName
      let (f,first) ← holding [ov] (getMethod ov "bit_length" pl)
      callWith pos f first (backTo pos (starEach [] X.env)) (backToKw pos (keywordEach [] X.env))):=by rfl):ME X cl (.Call (.Attribute e "bit_length" apos) [] [] pos) (fUn bBitLength f):=by
  refine ⟨?_⟩
  intro pins s σ Hf0 H0 Hf H ρ I r hs
  unfold fUn at hs ⊢
  refine PySem.W.methodCall_KW (pl:=pl) (he.run I r (Ext.refl r.sub) hs fun q v u s1 Hf1 H1 e1 I1 rv x1 rp=>?_) ht
  rw [e1] at hs ⊢
  cases q<;>first
    | exact absurd rfl hs
    | skip
  rename_i i
  cases rp
  obtain ⟨t,rfl⟩:=rv
  refine getMethod_int_bit_length ?_
  exact Calls.callWith_builtin rfl (PySem.evalArgs_none (call_int_bit_length ⟨_,.int (nb i),Hf1,H1,rfl,I1.tok _,⟨_,rfl⟩,x1,.int _⟩))
structure MGs (X:Cx) (ts:List Expr) (is:List Nat):Prop where
  run':∀ (pins:List (Addr×Obj)) (s:Shared) (σ:SV) (H:Hp) (vs:List V) (us:List Value) (E:Value→Shared→Prop),Inv X pins σ H s→Vals vs us→vs.length=is.length →
    wpAny (model X.prog X.w) X.A (assignInOrder ((assignEach ts X.env).map (·.2)) us) (fun _ s'=>Inv X pins ((is.zip vs).foldl (fun σ q=>σ.set q.1 (some q.2)) σ) H s') E s
instance {X:Cx}{ts:List Expr}{is:List Nat}:CoeFun (MGs X ts is) fun _=>∀ (pins:List (Addr×Obj)) (s:Shared) (σ:SV) (H:Hp) (vs:List V) (us:List Value) (E:Value→Shared→Prop),Inv X pins σ H s→Vals vs us→vs.length=is.length →
    wpAny (model X.prog X.w) X.A (assignInOrder ((assignEach ts X.env).map (·.2)) us) (fun _ s'=>Inv X pins ((is.zip vs).foldl (fun σ q=>σ.set q.1 (some q.2)) σ) H s') E s:=⟨MGs.run'⟩
theorem mgs_nil:MGs X [] []:=by
  refine ⟨?_⟩
  intro pins s σ H vs us E I r hl
  cases r with
  | nil=>exact assignInOrder_nil I
  | cons _ _=>simp at hl
theorem mgs_cons {x:Str}{pos:Pos}{es:List Expr}{i:Nat}{is:List Nat} (hN:X.N.Nodup) (hi:X.N[i]?=some x) (hx:Loc X.env.scope x) (h2:MGs X es is)
    (hf:X.fn x=true∨X.env.scope.names.lookup x=some .local:=by first | exact .inl rfl | exact .inr rfl | assumption)
    (hs:(assignEach (.Name x pos::es) X.env).map (·.2)=assign (.Name x pos) X.env::(assignEach es X.env).map (·.2):=by rfl):MGs X (.Name x pos::es) (i::is):=by
  refine ⟨?_⟩
  intro pins s σ H vs us E I r hl
  cases r with
  | nil=>simp at hl
  | cons r rr =>
    rw [hs]
    refine assignInOrder_cons (wpAny_assign_Name (store_ok I hN hi hx r (fun s1 I1=>?_) hf))
    exact h2 pins s1 _ H _ _ E I1 rr (by simpa using hl)
theorem rep_sets:∀ {is:List Nat}{vs:List V}{ps:List PV}{σ:SV}{ρ ρ':MEnv},Rep X.K cl Hf0 H0 Hf H σ ρ→Rps X.K cl Hf vs ps→setAll is ps ρ=some ρ'→(∀ i∈is,i<σ.length) →
    Rep X.K cl Hf0 H0 Hf H ((is.zip vs).foldl (fun σ q=>σ.set q.1 (some q.2)) σ) ρ'
  | [],vs,ps,σ,ρ,ρ',r,rp,e,_=>by
    cases rp with
    | nil=>cases e;exact r
    | cons _ _=>cases e
  | i::is,vs,ps,σ,ρ,ρ',r,rp,e,hl=>by
    cases rp with
    | nil=>cases e
    | cons r1 t1 =>
      have q:=rep_sets (is:=is) (r.set i r1 (hl i (List.mem_cons_self))) t1 (show setAll is _ _=some ρ' from e) fun j hj=>by rw [List.length_set];exact hl j (List.mem_cons_of_mem _ hj)
      exact q
theorem setAll_len:∀ {is:List Nat}{ps:List PV}{ρ ρ':MEnv},setAll is ps ρ=some ρ'→is.length=ps.length
  | [],[],_,_,_=>rfl
  | [],_::_,_,_,h=>by cases h
  | _::_,[],_,_,h=>by cases h
  | _::is,_::ps,_,_,h=>by rw [List.length_cons,List.length_cons,setAll_len (is:=is) (ps:=ps) h]
theorem ms_unpack {ts:List Expr}{is:List Nat}{e:Expr}{f:FE}{k:Nat}{pos pos':Pos} (hc:X.calm=true) (he:ME X cl e f) (hg:MGs X ts is) (hil:∀ i∈is,i<X.N.length) (hn:(assignEach ts X.env).length=is.length:=by rfl)
    (hst:(assignEach ts X.env).findIdx? (·.1)=none:=by rfl) (hs1:swapsWithSole [.Tuple ts k pos'] e pos.line X.env=pure false:=by rfl) (hw:swappedStores [.Tuple ts k pos'] e X.env=pure none:=by rfl)
    (h1:(assignEach [.Tuple ts k pos'] X.env).map (·.2)=[assign (.Tuple ts k pos') X.env]:=by rfl):MS X cl (.Assign [.Tuple ts k pos'] e pos) (sUnpack is f):=by
  refine ⟨?_⟩
  intro pins s σ Hf0 H0 Hf H ρ I r hs
  unfold sUnpack at hs ⊢
  refine wpAny_Assign_stores (he.stm I r hs fun p v u s1 Hf1 H1 e1 I1 rv x1 rp=>?_) hs1 hw
  rw [e1] at hs ⊢
  rw [h1]
  cases p<;>first
    | exact absurd rfl hs
    | skip
  rename_i l
  cases rp with
  | tup hq rr =>
    cases rv
    obtain ⟨its,w,pl,z⟩:=I1.tuple (Same.seqT x1.sub hq)
    have hs':(match setAll is l ρ with | some ρ'=>SR.next ρ' | none=>.stuck)≠.stuck:=hs
    cases hsa:setAll is l ρ with
    | none=>rw [hsa] at hs';exact absurd rfl hs'
    | some ρ' =>
      have hlen:=setAll_len hsa
      refine assign_Tuple_tuple (I1.ok.hd hc) pl (by rw [hn,hlen,List.size_toArray,← w.length,rr.length]) hst fun h' hx=>?_
      have I2:Inv X pins σ H1 { s1 with heap:=h' }:=I1.kept (t':=s1.toks) fun b o e=>hx b o (Nat.ne_of_lt (Heap.lt_size e)) e
      refine thn (hg pins _ σ H1 _ _ _ I2 (by simpa using w) (by rw [rr.length,hlen])) fun _ s3 I3=>?_
      show OkS X cl pins Hf0 H0 Hf (match setAll is l ρ with | some ρ'=>SR.next ρ' | none=>.stuck) .next s3
      rw [hsa]
      exact ⟨ρ',_,Hf1,H1,rfl,I3,rep_sets (r.keep x1) rr hsa (fun i hi=>by rw [I1.len];exact hil i hi),x1.frz⟩
end
section
variable {X:Cx}{cl:Nat→Addr}
theorem mv (i:Nat) {x:Str}{pos:Pos} (hN:X.N[i]?=some x:=by rfl) (hv:Vis X.env.scope x:=by first | exact Or.inl rfl | exact Or.inr (Or.inl rfl) | exact Or.inr (Or.inr rfl)) (hd:(x == ("__debug__" : Str))=false:=by decide)
    (hcd:(x == ("__classdict__" : Str))=false:=by decide):ME X cl (.Name x pos) (fVar i):=me_var hN hv hd hcd
end
theorem hu64 {A:Around}{k:Nat} (hr:Room k A):A.units+64<cLine:=by have:=hr.un;omega
section
variable {P:Program}{w:World}{K:PySem.W.Frag}{mg:Str→Option Value}{base:Heap}{cl:Nat→Addr}
structure FG (P:Program) (w:World) (K:PySem.W.Frag) (mg:Str→Option Value) (base:Heap) (cl:Nat→Addr) (k:Nat) (x:Str) (n:Nat) (F:List PV→R PV):Prop where
  ex:∃ (f:Addr) (fd:FuncData) (ps:List Str),mg x=some (.ref f)∧PySem.W.keepIn K (.ref f)=true∧ps.length=n∧FnOk P w K mg base (CXm cl P w) k f fd ps (spF K cl n F)∧Binds K fd ps []
theorem FG.fn {N:List Str}{qual:Str}{scope:Scope}{f:Addr}{cd:Value}{A:Around}{outer:List Env}{s:Shared}{H:Hp}{E:XK}{k n:Nat}{x:Str}{F:List PV→R PV} (h:FG P w K mg base cl k x n F) :
    Fn (cxM P w K mg base cl N qual scope f cd A outer s H E) cl k x n F:=⟨h.ex⟩
theorem mc {N:List Str}{qual:Str}{scope:Scope}{f:Addr}{cd:Value}{A:Around}{outer:List Env}{s:Shared}{H:Hp}{E:XK}{k k' n:Nat}{x:Str}{F:List PV→R PV}{e:Expr}{es:List Expr}{g:FA}{p pos:Pos}
    (h:FG P w K mg base cl k x n F) (hr:Room k' (A.deeper (envOfC qual scope s.heap.objs.size f cd))) (inj:∀ c d,cl c=cl d→c=d) (ha:MA (cxM P w K mg base cl N qual scope f cd A outer s H E) cl (e::es) g) (hk:k≤k':=by decide)
    (hl:(e::es).length=n:=by rfl) (hg:Gl (cxM P w K mg base cl N qual scope f cd A outer s H E) x:=by rfl) (hdb:(x == ("__debug__" : Str))=false:=by decide)
    (he:starEach (e::es) (cxM P w K mg base cl N qual scope f cd A outer s H E).env=(false,eval e (cxM P w K mg base cl N qual scope f cd A outer s H E).env)::starEach es (cxM P w K mg base cl N qual scope f cd A outer s H E).env:=by rfl)
    (hpl:(backTo pos (starEach es (cxM P w K mg base cl N qual scope f cd A outer s H E).env)).any (·.1)=false:=by rfl) :
    ME (cxM P w K mg base cl N qual scope f cd A outer s H E) cl (.Call (.Name x p) (e::es) [] pos) (fCall F g) :=
  me_call h.fn (hr.mono hk) hg rfl inj (fun b z=>absurd (show b∈([]:List Addr) from z) (by simp)) ha hl hdb he hpl
structure DefAt (K:PySem.W.Frag) (mg:Str→Option Value) (x:Str) (st:Stmt) (f:Addr) (fd:FuncData):Prop where
  fn:Fun K x x st f fd
  mg:mg x=some (.ref f)
theorem def_mk {h:Heap}{x:Str}{st:Stmt}{f:Addr}{oc:Value}{od an:Option Addr}{osl:Array (Option Value)}{kV doc pm cdv ct:Value} (X:K.In h) (G:h.Ns mainGlobals mg) (a:PySem.W.nsIn K mainGlobals x=some (some (.ref f)))
    (l:K.lookup f=some ⟨oc,od,.func (PySem.W.fnOf x x (defArgs st) (defBody st) (defScope st) .none kV doc pm an cdv ct),osl⟩) (c:PySem.W.codeIn K cdv x=true) (k:PySem.W.keepIn K (.ref f)=true) :
    ∃ f fd,DefAt K mg x st f fd:=⟨f,_,fun_mk l c k,PySem.W.mg_of X G a⟩
theorem DefAt.fg {x:Str}{st:Stmt}{f:Addr}{fd:FuncData}{N ps:List Str}{k n:Nat}{b:FS} (D:DefAt K mg x st f fd) (S:FnScope N ps (defScope st)) (hn:ps.length=n)
    (hb:∀ (kV doc pm:Value) (an:Option Addr) (cdv ct:Value) (us:List Value),us.length=ps.length→bindArgs (PySem.W.fnOf x x (defArgs st) (defBody st) (defScope st) .none kV doc pm an cdv ct) ⟨us,[]⟩=pure (ps.zip us))
    (hbody:∀ (cdv:Value) (A:Around) (outer:List Env) (s:Shared) (H:Hp) (E:XK),Room k (A.deeper (envOfC x (defScope st) s.heap.objs.size f cdv)) →
      MSs (cxM P w K mg base cl N x (defScope st) f cdv A outer s H E) cl (defBody st) b):FG P w K mg base cl (k+1) x n (runF N.length b) :=
  ⟨⟨f,fd,ps,D.mg,D.fn.kp,hn,fn_mirror D.fn S hn hbody,D.fn.binds hb⟩⟩
def adOf (K:PySem.W.Frag) (x:Str):Addr:=match PySem.W.nsIn K mainGlobals x with
  | some (some (.ref a))=>a
  | _=>0
def sumOf (K:PySem.W.Frag):List (Nat×Str)→Nat
  | []=>0
  | x::r=>adOf K x.2+sumOf K r
def clOf (K:PySem.W.Frag) (names:List (Nat×Str)) (c:Nat):Addr:=match names.lookup c with
  | some x=>adOf K x
  | none=>sumOf K names+1+c
theorem lookup_mem:∀ {names:List (Nat×Str)}{c:Nat}{x:Str},names.lookup c=some x→(c,x)∈names
  | [],_,_,h=>by cases h
  | (d,y)::r,c,x,h=>by
    rw [List.lookup_cons] at h
    by_cases e:c=d
    · subst e;simp at h;subst h;exact List.mem_cons_self
    · have:(c == d)=false:=by simpa using e
      rw [this] at h
      exact List.mem_cons_of_mem _ (lookup_mem h)
theorem mem_lookup:∀ {names:List (Nat×Str)}{c:Nat}{x:Str},(names.map (·.1)).Nodup→(c,x)∈names→names.lookup c=some x
  | (d,y)::r,c,x,hn,h=>by
    rw [List.map_cons,List.nodup_cons] at hn
    rw [List.lookup_cons]
    rcases List.mem_cons.mp h with e | h2
    · cases e;simp
    · have:(c == d)=false:=by
        by_cases e:c=d
        · subst e;exact absurd (List.mem_map.mpr ⟨(c,x),h2,rfl⟩) hn.1
        · simpa using e
      rw [this]
      exact mem_lookup hn.2 h2
theorem sumOf_le {K:PySem.W.Frag}:∀ {names:List (Nat×Str)}{c:Nat}{x:Str},(c,x)∈names→adOf K x≤sumOf K names
  | y::r,c,x,h=>by
    rcases List.mem_cons.mp h with e | h
    · subst e;exact Nat.le_add_right _ _
    · exact Nat.le_trans (sumOf_le h) (Nat.le_add_left _ _)
theorem inj_map {α β:Type}{f:α→β}:∀ {l:List α},(l.map f).Nodup→∀ a∈l,∀ b∈l,f a=f b→a=b
  | y::r,hn,a,ha,b,hb,e=>by
    rw [List.map_cons,List.nodup_cons] at hn
    rcases List.mem_cons.mp ha with rfl | ha2
    · rcases List.mem_cons.mp hb with rfl | hb2
      · rfl
      · exact absurd (List.mem_map.mpr ⟨b,hb2,e.symm⟩) hn.1
    · rcases List.mem_cons.mp hb with rfl | hb2
      · exact absurd (List.mem_map.mpr ⟨a,ha2,e⟩) hn.1
      · exact inj_map hn.2 a ha2 b hb2 e
theorem clOf_inj {K:PySem.W.Frag}{names:List (Nat×Str)} (h:(names.map fun p=>adOf K p.2).Nodup):∀ c d,clOf K names c=clOf K names d→c=d:=by
  intro c d e
  unfold clOf at e
  cases ec:names.lookup c with
  | none =>
    rw [ec] at e
    cases ed:names.lookup d with
    | none=>rw [ed] at e;have e':sumOf K names+1+c=sumOf K names+1+d:=e;omega
    | some y=>rw [ed] at e;have e':sumOf K names+1+c=adOf K y:=e;have:adOf K y≤sumOf K names:=sumOf_le (K:=K) (lookup_mem ed);rw [← e'] at this;exact absurd (Nat.le_trans (Nat.le_add_right _ _) this) (Nat.not_succ_le_self _)
  | some x =>
    rw [ec] at e
    cases ed:names.lookup d with
    | none=>rw [ed] at e;have e':sumOf K names+1+d=adOf K x:=e.symm;have:adOf K x≤sumOf K names:=sumOf_le (K:=K) (lookup_mem ec);rw [← e'] at this;exact absurd (Nat.le_trans (Nat.le_add_right _ _) this) (Nat.not_succ_le_self _)
    | some y =>
      rw [ed] at e
      have:=inj_map h (c,x) (lookup_mem ec) (d,y) (lookup_mem ed) e
      cases this;rfl
theorem weight_le:∀ {ns:List Int}{x:Int},x∈ns→nb x≤PySem.W.WData.weightAll (ns.map PySem.W.WData.int)
  | y::r,x,h=>by
    have e:PySem.W.WData.weightAll ((y::r).map PySem.W.WData.int)=nb y+1+PySem.W.WData.weightAll (r.map PySem.W.WData.int):=by
      rw [List.map_cons]
      simp only [PySem.W.WData.weightAll,PySem.W.WData.weight,Builtin.Int.intBits]
    rw [e]
    rcases List.mem_cons.mp h with rfl | h
    · omega
    · have:=weight_le h;omega
theorem bits_of_lay {ns:List Int} (h:PySem.W.WData.layableAll [PySem.W.WData.list (ns.map PySem.W.WData.int)]=true):∀ x∈ns,nb x≤1048576:=by
  intro x hx
  have h1:PySem.W.WData.layable (PySem.W.WData.list (ns.map PySem.W.WData.int))=true:=by
    simpa [PySem.W.WData.layableAll] using h
  have h2:PySem.W.WData.weight (PySem.W.WData.list (ns.map PySem.W.WData.int))≤2 ^ 20:=of_decide_eq_true (Bool.and_eq_true_iff.mp h1).2
  have e:PySem.W.WData.weight (PySem.W.WData.list (ns.map PySem.W.WData.int))=PySem.W.WData.weightAll (ns.map PySem.W.WData.int):=by simp only [PySem.W.WData.weight]
  rw [e] at h2
  have:=weight_le hx
  omega
theorem law_of {l:PySem.W.OpenLaw}{k:Nat}{q:Program}{loose:List Str}{XP:(Str→Option Value)→Heap→Prop}{YP:World→Heap→Prop}{d:DefRec}{K:Params→PySem.W.Frag}{x:Str}{F:List PV→R PV}{names:List (Nat×Str)}
    (hn:l.most=some 63) (hdf:d.params.defaults=[]) (hr:Room k callerA)
    (hY:∀ (w:World) (h:Heap),YP w h→(K w.params).In h)
    (hF:∀ (w:World) (mg:Str→Option Value) (fa:Addr) (h:Heap),(K w.params).In h→h.Ns mainGlobals mg→mg d.name=some (.ref fa) →
      ∃ fd:FuncData,(∀ (s:Shared) (u:Value),BindsTo s fd ⟨[u],[]⟩ [(x,u)]) ∧
        ∀ base:Heap,(K w.params).In base→base.Ns mainGlobals mg→FnOk l.prog w (K w.params) mg base (CXm (clOf (K w.params) names) l.prog w) k fa fd [x] (spF (K w.params) (clOf (K w.params) names) 1 F))
    (hlaw:∀ ns:List Int,ns.length≤63→(∀ x∈ns,nb x≤1048576)→F [.lst (ns.map PV.int)] = .ok (.bl true)) :
    PySem.W.WalkO q loose XP YP l.row.toRowW d [] (fun f vs=>PySem.call f vs):=by
  intro w s₀ s₁ mg mb G Y fa o pm cd doc dV kV ho hd hcd hD hmg hg args vals as hpre hlay hrd hwl hlo
  obtain rfl:dV = .none:=PySem.W.Dflts.none hD hdf
  obtain rfl:kV = .none:=PySem.W.Dflts.noKw hD
  obtain ⟨a,vs,ns,rfl,rfl,hobj,hints,hlen⟩:=Att.script_of hn hpre hwl
  have KX:=hY w _ Y
  obtain ⟨fd,hb,hF'⟩:=hF w mg fa _ KX G.T.g hmg
  have e:=hlaw ns hlen (bits_of_lay hlay)
  refine PySem.W.enter_call (codeAny_mono (law_call KX G.T.g G.T.b G.T.builtins G.T.nolimit hg hobj hints (Nat.le_trans hlen (by decide)) hr hF' hb (fun H hO hS=>?_) fun H e s' h=>?_) fun r s' hq=>?_)
  · refine ⟨rfl,H,[.lst (ns.map PV.int)],Same.refl _,.cons (.lst hS (Rps.ints ns)) .nil,(by rw [e];intro z;cases z),fun p v Hf' H' h _ rp=>?_,fun c Hf' H' h _=>?_⟩
    · rw [e] at h;cases h;cases rp;rfl
    · rw [e] at h;cases h
  · obtain ⟨a,c,H',B,a0,_,_,_,_,_,_,_,_,z⟩:=h
    exact z
  · obtain ⟨rfl,h2,h3,h4⟩:=hq
    exact ⟨.inl ⟨.bool true,.bool true,[],rfl,fun _=>rfl,.bool true,Att.post_true l _,fun _=>⟨List.Pairwise.nil,fun _ hm=>(nomatch hm)⟩⟩,h2,h3,h4⟩
end
abbrev bmV:List Value:=[.type "ValueError",.type "Exception",.type "BaseException",.type "object"]
def attrOk (K:PySem.W.Frag) (D:Addr):Bool:=(PySem.W.findIn K (.ref D) "__getattribute__" == some (some (.builtin "BaseException.__getattribute__"))) && (PySem.W.findIn K (.ref D) "__getattr__" == some none) && (PySem.W.subIn K (.ref D) (.type "BaseException") == some true) && (PySem.W.clsIn K D).isSome && (PySem.W.findIn K (.ref D) "__class__" == some (some (.builtin "object.__class__"))) &&
  (PySem.W.specialIn K (.builtin "object.__class__") "__get__" == some (some (.builtin "getset_descriptor.__get__"))) && (PySem.W.takesIn K (.builtin "object.__class__") == some true) && (PySem.W.mroIn K D (.type "object") == some true)
structure ClF (K:PySem.W.Frag) (mg:Str→Option Value) (cl:Nat→Addr) (c:Nat) (x:Str):Prop where
  mg:mg x=some (.ref (cl c))
  ex:PySem.W.excIn K (cl c) bmV "ValueError.__new__"=true
  at_:attrOk K (cl c)=true
theorem excObj_of {K:PySem.W.Frag}{h:Heap}{C:Addr}{bmB:List Value}{newId:String} (X:K.In h) (q:PySem.W.excIn K C bmB newId=true) :
    ∃ bm N nm q bs hdct sn sub ab col dd k0 k1 k2 k3 k5 mN,h.get? C=some (excClassObj nm q C N bs bm hdct sn sub ab col dd k0 k1 k2 k3 k5 newId)∧h.Ns N mN∧mN "__init__"=none∧OwnTail h bmB bm:=by
  unfold PySem.W.excIn at q
  split at q
  · rename_i dd cd sl ho
    split at q
    · rename_i C' bm k0 k1 k2 k3 n k5 hm hs
      simp only [Bool.and_eq_true,beq_iff_eq,Bool.not_eq_true'] at q
      obtain ⟨⟨⟨⟨⟨rfl,rfl⟩,hdel⟩,ht⟩,hok⟩,hni⟩:=q
      obtain ⟨nm,bs,mro,ns,qn,hd,sn,sub,ab,col,del⟩:=cd
      dsimp only at hm hdel hok hni
      subst hm hdel
      have es:sl=#[k0,k1,k2,k3,some (.builtin n),k5]:=by
        cases sl with | mk l=>simp only at hs;rw [hs]
      subst es
      exact ⟨bm,ns,nm,qn,bs,hd,sn,sub,ab,col,dd,k0,k1,k2,k3,k5,_,X _ _ ho,.of_isNs (PySem.W.isNs_of_in X hok),PySem.W.nsMap_none_of_in X hok hni,PySem.W.tail_of_in X ht⟩
    · cases q
  · cases q
theorem isSmallI_ok {r:R PV} (h:isSmallI r=true):∃ i:Int,r = .ok (.int i)∧i.natAbs<18446744073709551616:=by
  cases r with
  | ok p=>cases p<;>first | (cases h;done) | (rename_i i;exact ⟨i,rfl,of_decide_eq_true h⟩)
  | exc c=>cases h
  | stuck=>cases h
theorem digits_le (a:Int) (h:a.natAbs<18446744073709551616):(Str.ofString (toString a)).length≤21:=by
  have h1:a.natAbs<10 ^ 20:=Nat.lt_trans h (by decide)
  have:=int_text_length_le10 (k:=20) (by decide) h1
  rw [PySem.ofString_length];omega
section
variable {X:Cx}{cl:Nat→Addr}{pins:List (Addr×Obj)}{s:Shared}{σ:SV}{Hf0 H0 Hf H Hf1 H1:Hp}{ρ:MEnv}{α:Type}
structure MV (X:Cx) (cl:Nat→Addr) (e:Expr) (n:Nat) (c:MEnv→Bool):Prop where
  run':∀ (pins:List (Addr×Obj)) (s:Shared) (σ:SV) (Hf0 H0 Hf H:Hp) (ρ:MEnv) (E:Value→Shared→Prop),Inv X pins σ H s→Rep X.K cl Hf0 H0 Hf H σ ρ→c ρ=true →
    wpAny (model X.prog X.w) X.A (eval e X.env) (fun u s'=>∃ x t Hf' H',u = .str x t∧x.length≤n∧Inv X pins σ H' s'∧Ext Hf H Hf' H') E s
instance {X:Cx}{cl:Nat→Addr}{e:Expr}{n:Nat}{c:MEnv→Bool}:CoeFun (MV X cl e n c) fun _=>∀ (pins:List (Addr×Obj)) (s:Shared) (σ:SV) (Hf0 H0 Hf H:Hp) (ρ:MEnv) (E:Value→Shared→Prop),Inv X pins σ H s→Rep X.K cl Hf0 H0 Hf H σ ρ→c ρ=true →
    wpAny (model X.prog X.w) X.A (eval e X.env) (fun u s'=>∃ x t Hf' H',u = .str x t∧x.length≤n∧Inv X pins σ H' s'∧Ext Hf H Hf' H') E s:=⟨MV.run'⟩
theorem mv_str {x:Str}{j:Nat}{pos:Pos} (n:Nat) (h:x.length≤n:=by decide +kernel):MV X cl (.Constant (.str x) j pos) n (fun _=>true):=⟨fun pins s σ Hf0 H0 Hf H ρ E I r _ =>
  Calls.Constant_str ⟨x,_,Hf,H,rfl,h,I.tok _,Ext.refl r.sub⟩⟩
theorem mv_fmt {e:Expr}{f:FE}{pos:Pos} (he:ME X cl e f):MV X cl (.FormattedValue e (-1) none pos) 21 (fun ρ=>isSmallI (f ρ)):=by
  refine ⟨?_⟩
  intro pins s σ Hf0 H0 Hf H ρ E I r hc
  obtain ⟨i,ei,hi⟩:=isSmallI_ok hc
  refine FormattedValue_plain (wpAny_mono (he pins s σ Hf0 H0 Hf H ρ I r (by rw [ei];intro z;cases z)) (fun u s1 q=>?_) fun u s1 q=>?_)
  · obtain ⟨p,v,Hf1,H1,e1,I1,rv,x1,rp⟩:=q
    rw [ei] at e1;cases e1
    cases rp
    obtain ⟨t,rfl⟩:=rv
    have hl:i.natAbs.log2<1920:=by
      by_cases h0:i.natAbs=0
      · rw [h0];decide
      · have:=(Nat.log2_lt h0).mpr (show i.natAbs<2 ^ 64 from hi)
        omega
    exact formatField_int_small hl ⟨_,_,Hf1,H1,rfl,digits_le i hi,I1.tok _,x1⟩
  · obtain ⟨c,e1,_⟩:=q
    rw [ei] at e1;cases e1
structure MVs (X:Cx) (cl:Nat→Addr) (es:List Expr) (n:Nat) (c:MEnv→Bool):Prop where
  run':∀ (pins:List (Addr×Obj)) (s:Shared) (σ:SV) (Hf0 H0 Hf H:Hp) (ρ:MEnv) (E:Value→Shared→Prop) (acc:Str) (Q:Str→Shared→Prop),Inv X pins σ H s→Rep X.K cl Hf0 H0 Hf H σ ρ→c ρ=true→acc.length+n≤sizeLine →
    (∀ out s' Hf' H',out.length≤acc.length+n→Inv X pins σ H' s'→Ext Hf H Hf' H'→Q out s')→Joins (model X.prog X.w) X.A E (evalEach es X.env) acc Q s
instance {X:Cx}{cl:Nat→Addr}{es:List Expr}{n:Nat}{c:MEnv→Bool}:CoeFun (MVs X cl es n c) fun _=>∀ (pins:List (Addr×Obj)) (s:Shared) (σ:SV) (Hf0 H0 Hf H:Hp) (ρ:MEnv) (E:Value→Shared→Prop) (acc:Str) (Q:Str→Shared→Prop),Inv X pins σ H s→Rep X.K cl Hf0 H0 Hf H σ ρ→c ρ=true→acc.length+n≤sizeLine →
    (∀ out s' Hf' H',out.length≤acc.length+n→Inv X pins σ H' s'→Ext Hf H Hf' H'→Q out s')→Joins (model X.prog X.w) X.A E (evalEach es X.env) acc Q s:=⟨MVs.run'⟩
theorem mvs_nil:MVs X cl [] 0 (fun _=>true):=⟨fun pins s σ Hf0 H0 Hf H ρ E acc Q I r _ _ k=>k acc s Hf H (Nat.le_refl _) I (Ext.refl r.sub)⟩
theorem mvs_cons {e:Expr}{es:List Expr}{n m:Nat}{c d:MEnv→Bool} (h:MV X cl e n c) (ht:MVs X cl es m d) (he:evalEach (e::es) X.env=eval e X.env::evalEach es X.env:=by rfl):MVs X cl (e::es) (n+m) (fun ρ=>c ρ && d ρ):=by
  refine ⟨?_⟩
  intro pins s σ Hf0 H0 Hf H ρ E acc Q I r hc hz k
  rw [Bool.and_eq_true] at hc
  rw [he]
  refine wpAny_mono (h pins s σ Hf0 H0 Hf H ρ E I r hc.1) (fun u s1 q=>?_) fun _ _ z=>z
  obtain ⟨x,t,Hf1,H1,rfl,hl,I1,x1⟩:=q
  have e1:(acc ++ x).length=acc.length+x.length:=strLen_append ..
  refine ⟨x,t,rfl,by rw [e1];omega,ht pins s1 σ Hf0 H0 Hf1 H1 ρ E (acc ++ x) Q I1 (r.keep x1) hc.2 (by rw [e1];omega) fun out s' Hf' H' hl' I' x'=>k out s' Hf' H' (by rw [e1] at hl';omega) I' (x1.trans x')⟩
theorem mv_join {a b:Expr}{es:List Expr}{n:Nat}{c:MEnv→Bool}{pos:Pos} (h:MVs X cl (a::b::es) n c) (hn:n≤1000:=by decide):MV X cl (.JoinedStr (a::b::es) pos) n c:=by
  refine ⟨?_⟩
  intro pins s σ Hf0 H0 Hf H ρ E I r hc
  have h0:(Str.empty).length=0:=rfl
  have hs:n≤sizeLine:=Nat.le_trans hn (by decide)
  refine wpAny_JoinedStr (h pins s σ Hf0 H0 Hf H ρ E _ _ I r hc (by rw [h0];omega) fun out s' Hf' H' hl I' x'=>?_)
  rw [h0] at hl
  exact ⟨by omega,out,_,Hf',H',rfl,by omega,I'.tok _,x'⟩
theorem stands_of (W:Own X) (I:Inv X pins σ H s) {h':Heap} (k:∀ b o,s.heap.get? b=some o→h'.get? b=some o):Cov X pins H (PySem.W.hideAll s.heap (frs X.stack)) h':=by
  intro b o e hs hn
  obtain ⟨o',q⟩:=stands_there W I hs
  have:=k b o' q
  rw [e] at this;cases this
  exact PySem.W.hideAll_get _ q hn
theorem xst_made (W:Own X) (I:Inv X pins σ H s) {h':Heap}{e C:Addr}{vs:List Value} (hm:Heap.MadeExcOf s.heap h' e (.ref C) vs):XSt X pins H e C h':=by
  obtain ⟨t,he,_,_⟩:=hm.there
  refine ⟨PySem.W.hideAll s.heap (frs X.stack),.ref t,stands_of W I hm.keeps,⟨_,he,rfl⟩,.inl ⟨fun b o q=>hm.keeps b o (PySem.W.of_hideAll _ q),?_,?_,_,_,he,rfl,rfl,rfl,rfl,rfl⟩⟩
  · cases q:(PySem.W.hideAll s.heap (frs X.stack)).get? e with
    | none=>rfl
    | some o=>have:=PySem.W.of_hideAll _ q;rw [hm.new] at this;cases this
  · refine Heap.FunFrames.of_keeps (fun b o q _=>⟨o,hm.keeps b o q,rfl⟩) (PySem.W.funFrames_hide I.stack fun env he a ha=>?_)
    exact List.mem_filterMap.mpr ⟨env,he,ha⟩
theorem ms_raise {x:Str}{c:Nat}{e:Expr}{n:Nat}{k:MEnv→Bool}{np cpos pos:Pos} (hc:ClF X.K X.mg cl c x) (W:Own X) (hg:Gl X x) (hh:X.A.handled=none) (he:MV X cl e n k)
    (hst:starEach [e] X.env=[(false,eval e X.env)]:=by rfl) (hdb:(x == ("__debug__" : Str))=false:=by decide) :
    MS X cl (.Raise (some (.Call (.Name x np) [e] [] cpos)) none pos) (sRaiseT k c):=by
  refine ⟨?_⟩
  intro pins s σ Hf0 H0 Hf H ρ I r hs
  have hk:k ρ=true:=by
    cases q:k ρ with
    | true=>rfl
    | false=>exact absurd (by unfold sRaiseT;rw [q];rfl) hs
  have e0:sRaiseT k c ρ = .exc c ρ:=by unfold sRaiseT;rw [hk];rfl
  rw [e0]
  obtain ⟨bm,N,nm,q,bs,hdct,sn,sub,ab,col,dd,k0,k1,k2,k3,k5,mN,hC,hN,hni,T⟩:=excObj_of I.ok.mod.kin hc.ex
  refine wpAny_Raise_call_subT (C:=cl c) (nm:=nm) (q:=q) (N:=N) (bs:=bs) (bm:=bm) (hdct:=hdct) (sn:=sn) (sub:=sub) (ab:=ab) (col:=col) (dd:=dd) (k0:=k0) (k1:=k1) (k2:=k2) (k3:=k3) (k5:=k5)
    PySem.F.excBase_ValueError (mN:=mN) (T.hasType PySem.F.excBase_ValueError.hasBase) hh (by rw [hst];rfl) hni (ld_glob I hg hc.mg ⟨rfl,?_⟩ hdb)
  rw [hst]
  refine Calls.evalArgs_plain ?_
  show wpAny _ _ (spliced ((false,eval e X.env)::backTo cpos [])) _ _ s
  refine Calls.spliced_cons (wpAny_mono (he pins s σ Hf0 H0 Hf H ρ _ I r hk) (fun u s1 q1=>Calls.spliced_nil ?_) fun _ _ z=>z)
  obtain ⟨y,t,Hf1,H1,rfl,hl,I1,x1⟩:=q1
  refine ⟨rfl,by show 1≤sizeLine;decide,I1.bk _ _ hC,hN.keeps I1.bk,T.keeps I1.bk,fun h' ee hm=>?_⟩
  exact ⟨c,ρ,σ,Hf1,H1,ee,rfl,rfl,I1.kept (t':=s1.toks) hm.keeps,r.keep x1,x1.frz,xst_made W I1 hm⟩
end
structure Cls (K:PySem.W.Frag) (mg:Str→Option Value) (cl:Nat→Addr) (names:List (Nat×Str)):Prop where
  cls:∀ c x,(c,x)∈names→ClF K mg cl c x
  kit:∀ c x d y,(c,x)∈names→(d,y)∈names→PySem.W.kitOne K (.ref (cl c)) (.ref (cl d))=some (under c d)
  exm:∀ c x d y,(c,x)∈names→(d,y)∈names→PySem.W.exmOne K (.ref (cl c)) (.ref (cl d))=some (under c d)
  non:∀ d y,(d,y)∈names→PySem.W.kitOne K (.type "NoneType") (.ref (cl d))=some false
  val:∀ c x,(c,x)∈names→PySem.W.kitOne K (.ref (cl c)) (.type "ValueError")=some true
def refIn (K:PySem.W.Frag) (x:Str):Bool:=match PySem.W.nsIn K mainGlobals x with
  | some (some (.ref _))=>true
  | _=>false
theorem refIn_of {K:PySem.W.Frag}{x:Str} (h:refIn K x=true):PySem.W.nsIn K mainGlobals x=some (some (.ref (adOf K x))):=by
  unfold refIn at h
  unfold adOf
  split at h
  · rename_i a e;rw [e]
  · cases h
def pairOk (K:PySem.W.Frag) (p q:Nat×Str):Bool:=PySem.W.kitOne K (.ref (adOf K p.2)) (.ref (adOf K q.2)) == some (under p.1 q.1) && PySem.W.exmOne K (.ref (adOf K p.2)) (.ref (adOf K q.2)) == some (under p.1 q.1)
def oneOk (K:PySem.W.Frag) (p:Nat×Str):Bool:=refIn K p.2 && PySem.W.excIn K (adOf K p.2) bmV "ValueError.__new__" && attrOk K (adOf K p.2) && PySem.W.kitOne K (.ref (adOf K p.2)) (.type "ValueError") == some true &&
  PySem.W.kitOne K (.type "NoneType") (.ref (adOf K p.2)) == some false
def ndOk:List Nat→Bool
  | []=>true
  | a::r=>!r.contains a && ndOk r
theorem nd_of:∀ {l:List Nat},ndOk l=true→l.Nodup
  | [],_=>List.nodup_nil
  | a::r,h=>by
    unfold ndOk at h
    rw [Bool.and_eq_true] at h
    refine List.nodup_cons.mpr ⟨fun z=>?_,nd_of h.2⟩
    have:=List.contains_iff_mem.mpr z
    rw [this] at h;exact absurd h.1 (by decide)
section
variable {K:PySem.W.Frag}{mg:Str→Option Value}{names:List (Nat×Str)}{h:Heap}
theorem clOf_at {c:Nat}{x:Str} (hn:(names.map (·.1)).Nodup) (hx:(c,x)∈names):clOf K names c=adOf K x:=by
  unfold clOf;rw [mem_lookup hn hx]
end
section
variable {X:Cx}{cl:Nat→Addr}
theorem me_globI {x:Str}{i:Int}{pos:Pos} (hg:Gl X x) (hm:∃ t,X.mg x=some (.int i t)) (hd:(x == ("__debug__" : Str))=false:=by decide):ME X cl (.Name x pos) (fC (.int i)):=by
  obtain ⟨t,hm⟩:=hm
  exact me_glob (v:=.int i) hg hm ⟨t,rfl⟩ (fun _=>.int i) hd
theorem at_mem {names:List (Nat×Str)} (i:Nat) {p:Nat×Str} (h:names[i]?=some p):p∈names:=List.mem_of_getElem? h
end
section
variable {K:PySem.W.Frag}{cl:Nat→Addr}{Hf0 H0 Hf H Hf' H':Hp}{σ:SV}{ρ:MEnv}
theorem Rep.freeze (r:Rep K cl Hf0 H0 Hf H σ ρ) {i:Nat}{l:List PV} (h:ρ[i]?=some (some (.own l))):∃ Hf',Rep K cl Hf0 H0 Hf' H σ (ρ.set i (some (.lst l)))∧Same Hf Hf':=by
  obtain ⟨v,hv,a,xs,rfl,ha,hfa,h0a,rps⟩:=r.slot i _ h
  have sm:=same_upd hfa (.lst xs)
  have hi:i<ρ.length:=(List.getElem?_eq_some_iff.mp h).1
  refine ⟨upd Hf a (.lst xs),⟨⟨r.ext.all,r.ext.frz.trans sm,fun b u q=>?_,fun b n=>?_⟩,fun j p hp=>?_,fun j k ps qs b h1 h2 h3 h4=>?_⟩,sm⟩
  · by_cases e:b=a
    · subst e;rw [upd_same] at q;cases q;exact ha
    · rw [upd_ne e] at q;exact r.ext.sub b u q
  · rw [upd_ne (fun e=>n (by rw [e];exact h0a)),r.ext.old b n]
  · by_cases e:i=j
    · subst e
      rw [List.getElem?_set_self hi] at hp
      cases hp
      exact ⟨_,hv,.lst (SqL.of upd_same) (rps.keep sm)⟩
    · rw [List.getElem?_set_ne e] at hp
      obtain ⟨w,hw,sl⟩:=r.slot j p hp
      refine ⟨w,hw,?_⟩
      cases p with
      | own qs =>
        obtain ⟨b,ys,rfl,h1,h2,h3,h4⟩:=sl
        have nb:b≠a:=fun z=>by subst z;exact e (r.dist i j _ _ _ h hp hv hw)
        exact ⟨b,ys,rfl,h1,by rw [upd_ne nb];exact h2,h3,h4.keep sm⟩
      | _=>exact Rp.keep sm sl
  · have back:∀ {m:Nat}{l':List PV},(ρ.set i (some (.lst l)))[m]?=some (some (.own l'))→ρ[m]?=some (some (.own l')):=fun {m l'} hm=>by
      by_cases e:i=m
      · subst e;rw [List.getElem?_set_self hi] at hm;cases hm
      · rw [List.getElem?_set_ne e] at hm;exact hm
    exact r.dist j k ps qs b (back h1) (back h2) h3 h4
theorem Rep.own (r:Rep K cl Hf0 H0 Hf H σ ρ) (i:Nat) {l:List PV}{a:Addr}{xs:List V} (ha:H a=some (.lst xs)) (hfa:Hf a=none) (h0a:H0 a=none) (rps:Rps K cl Hf xs l) (hl:i<σ.length)
    (nw:∀ (j:Nat) (qs:List PV),ρ[j]?=some (some (.own qs))→σ[j]?≠some (some (.ref a))):Rep K cl Hf0 H0 Hf H (σ.set i (some (.ref a))) (ρ.set i (some (.own l))):=by
  refine ⟨r.ext,fun j p hp=>?_,fun j k ps qs b h1 h2 h3 h4=>?_⟩
  · by_cases e:i=j
    · subst e
      have hi:i<ρ.length:=by
        rw [List.getElem?_set] at hp
        by_cases hh:i<ρ.length
        · exact hh
        · simp [hh] at hp
      rw [List.getElem?_set_self hi] at hp
      cases hp
      exact ⟨_,List.getElem?_set_self hl,a,xs,rfl,ha,hfa,h0a,rps⟩
    · rw [List.getElem?_set_ne e] at hp
      obtain ⟨w,hw,sl⟩:=r.slot j p hp
      exact ⟨w,by rw [List.getElem?_set_ne e];exact hw,sl⟩
  · by_cases e:i=j
    · by_cases e':i=k
      · exact e.symm.trans e'
      · subst e
        rw [List.getElem?_set_self hl] at h3
        cases h3
        rw [List.getElem?_set_ne e'] at h2 h4
        exact absurd h4 (nw k _ h2)
    · by_cases e':i=k
      · subst e'
        rw [List.getElem?_set_self hl] at h4
        cases h4
        rw [List.getElem?_set_ne e] at h1 h3
        exact absurd h3 (nw j _ h1)
      · rw [List.getElem?_set_ne e] at h1 h3
        rw [List.getElem?_set_ne e'] at h2 h4
        exact r.dist j k _ _ b h1 h2 h3 h4
end
section
variable {X:Cx}{cl:Nat→Addr}
theorem Rps.set {K:PySem.W.Frag}{Hf:Hp}{v:V}{p:PV} (h:Rp K cl Hf v p):∀ {vs:List V}{ps:List PV} (j:Nat),Rps K cl Hf vs ps→Rps K cl Hf (vs.set j v) (ps.set j p)
  | _,_,_,.nil=>.nil
  | _,_,0,.cons _ t=>.cons h t
  | _,_,j+1,.cons r t=>.cons r (Rps.set h j t)
end
def OkF (X:Cx) (cl:Nat→Addr) (pins:List (Addr×Obj)) (σ:SV) (Hf H:Hp) (r:R PV) (u:Value) (s:Shared):Prop :=
  ∃ ps a xs Hf' H',r = .ok (.lst ps)∧Inv X pins σ H' s∧u = .ref a∧Ext Hf H Hf' H'∧H' a=some (.lst xs)∧Hf' a=none∧H a=none∧Rps X.K cl Hf' xs ps
section
variable {X:Cx}{cl:Nat→Addr}
theorem ext_none {Hf H Hf1 H1:Hp} (e:Ext Hf H Hf1 H1) {a:Addr} (h:H1 a=none):H a=none:=by
  cases q:H a with
  | none=>rfl
  | some o=>rw [e.all a o q] at h;cases h
theorem OkF.from {pins:List (Addr×Obj)}{σ:SV}{Hf H Hf1 H1:Hp}{e0:Ext Hf H Hf1 H1}{r:R PV}{u:Value}{s':Shared} (h:OkF X cl pins σ Hf1 H1 r u s'):OkF X cl pins σ Hf H r u s':=by
  obtain ⟨ps,a,xs,Hf',H',e1,I',e2,ex,g1,g2,g3,rps⟩:=h
  exact ⟨ps,a,xs,Hf',H',e1,I',e2,e0.trans ex,g1,g2,ext_none e0 g3,rps⟩
end
mutual
inductive KRep (K:PySem.W.Frag):Value→PV→Prop where
  | non:KRep K .none .non
  | bl (b:Bool):KRep K (.bool b) (.bl b)
  | int (i:Int) (t:Tok):KRep K (.int i t) (.int i)
  | str (x:Str) (t:Tok):KRep K (.str x t) (.str x)
  | tup {a:Addr}{o:Obj}{its:Array Value}{n:Nat}{ps:List PV} (h:K.lookup a=some o) (c:o.cls = .type "tuple") (d:o.data = .seq its n) (z:its.size≤sizeLine) (r:KReps K its.toList ps):KRep K (.ref a) (.tup ps)
inductive KReps (K:PySem.W.Frag):List Value→List PV→Prop where
  | nil:KReps K [] []
  | cons {u:Value}{p:PV}{us:List Value}{ps:List PV} (r:KRep K u p) (t:KReps K us ps):KReps K (u::us) (p::ps)
end
section
variable {K:PySem.W.Frag}{cl:Nat→Addr}
mutual
theorem KRep.rp (Hf:Hp):∀ {u:Value}{p:PV},KRep K u p→∃ v,RelV v u∧Rp K cl Hf v p
  | _,_,.non=>⟨.non,rfl,.non⟩
  | _,_,.bl b=>⟨.bl b,rfl,.bl b⟩
  | _,_,.int i t=>⟨.int i,⟨t,rfl⟩,.int i⟩
  | _,_,.str x t=>⟨.str x,⟨t,rfl⟩,.str x⟩
  | _,_,.tup (a:=a) (o:=o) (its:=its) (n:=n) h c d z r=>by
    obtain ⟨vs,h1,h2⟩:=KReps.rps Hf r
    exact ⟨.ref a,rfl,.tup (.inr ⟨o,its,n,h,c,d,z,h1⟩) h2⟩
theorem KReps.rps (Hf:Hp):∀ {us:List Value}{ps:List PV},KReps K us ps→∃ vs,Vals vs us∧Rps K cl Hf vs ps
  | _,_,.nil=>⟨[],.nil,.nil⟩
  | _,_,.cons r t=>by
    obtain ⟨v,a,b⟩:=KRep.rp Hf r
    obtain ⟨vs,c,d⟩:=KReps.rps Hf t
    exact ⟨v::vs,.cons a c,.cons b d⟩
end
end
structure FunD (K:PySem.W.Frag) (x qual:Str) (st:Stmt) (f:Addr) (fd:FuncData) (y:Str):Prop where
  ex:∃ (oc:Value) (od:Option Addr) (kV doc pm:Value) (an:Option Addr) (cdv ct:Value) (osl:Array (Option Value)) (T:Addr) (o:Obj) (n:Nat) (t:Tok),
    fd=PySem.W.fnOf x qual (defArgs st) (defBody st) (defScope st) (.ref T) kV doc pm an cdv ct∧K.lookup f=some ⟨oc,od,.func fd,osl⟩∧PySem.W.codeIn K cdv qual=true∧K.lookup T=some o∧o.data = .seq #[.str y t] n
  kp:PySem.W.keepIn K (.ref f)=true
section
variable {P:Program}{w:World}{K:PySem.W.Frag}{mg:Str→Option Value}{base:Heap}{cl:Nat→Addr}
theorem fn_mirror' {x qual:Str}{st:Stmt}{f:Addr}{N ps:List Str}{k n:Nat}{b:FS}{dV kV doc pm cdv ct oc:Value}{an od:Option Addr}{osl:Array (Option Value)}
    (lk:K.lookup f=some ⟨oc,od,.func (PySem.W.fnOf x qual (defArgs st) (defBody st) (defScope st) dV kV doc pm an cdv ct),osl⟩) (hcd:PySem.W.codeIn K cdv qual=true) (S:FnScope N ps (defScope st)) (hn:ps.length=n)
    (hbody:∀ (cdv:Value) (A:Around) (outer:List Env) (s:Shared) (H:Hp) (E:XK),Room k (A.deeper (envOfC qual (defScope st) s.heap.objs.size f cdv)) →
      MSs (cxM P w K mg base cl N qual (defScope st) f cdv A outer s H E) cl (defBody st) b):FnOk P w K mg base (CXm cl P w) (k+1) f (PySem.W.fnOf x qual (defArgs st) (defBody st) (defScope st) dV kV doc pm an cdv ct) ps (spF K cl n (runF N.length b)):=by
  refine fn_of lk hcd S (fun vs H Q E h=>by rw [h.1,hn]) fun A outer s H vs Q E hr hsp=>?_
  obtain ⟨hl,Hf,qs,sm,rps,hs,hok,hex⟩:=hsp
  have hb:=hbody cdv A outer s H E hr
  have hs':b (Mi.start N.length qs)≠.stuck:=fun z=>hs (by unfold runF;rw [z])
  refine ⟨fun D σ H1=>σ=L2.start N vs∧H1=H∧D={ nx:=fun _ H'=>Q .non H',rt:=Q },fun pins s1 σ H1 D I h=>?_,rfl,rfl,rfl⟩
  obtain ⟨rfl,rfl,rfl⟩:=h
  refine wpAny_mono (hb pins s1 _ Hf H1 Hf H1 _ I (rep_start rfl sm rps) hs') (fun fl s2 q=>?_) fun u s2 q=>?_
  · cases fl with
    | next =>
      obtain ⟨ρ',σ',Hf',H',e1,I',r',_⟩:=q
      exact ⟨σ',H',I',hok .non .non Hf' H' (by unfold runF;rw [e1]) r'.ext .non⟩
    | ret u =>
      obtain ⟨p,v,σ',Hf',H',e1,I',ex,rv,rp⟩:=q
      exact ⟨v,σ',H',I',rv,hok p v Hf' H' (by unfold runF;rw [e1]) ex rp⟩
    | brk =>
      obtain ⟨ρ',σ',Hf',H',e1,I',r',_⟩:=q
      exact absurd (by unfold runF;rw [e1]) hs
    | cont =>
      obtain ⟨ρ',σ',Hf',H',e1,I',r',_⟩:=q
      exact absurd (by unfold runF;rw [e1]) hs
  · obtain ⟨c,ρ',σ',Hf',H',e,e1,rfl,I',r',_,x⟩:=q
    exact leaves_ok I' x (hex c Hf' H' (by unfold runF;rw [e1]) r'.ext)
structure DefAtD (K:PySem.W.Frag) (mg:Str→Option Value) (x:Str) (st:Stmt) (f:Addr) (fd:FuncData) (y:Str):Prop where
  fn:FunD K x x st f fd y
  mg:mg x=some (.ref f)
theorem def_mkD {h:Heap}{x:Str}{st:Stmt}{f:Addr}{oc:Value}{od an:Option Addr}{osl:Array (Option Value)}{kV doc pm cdv ct:Value}{T:Addr}{oc':Value}{od':Option Addr}{osl':Array (Option Value)}{n:Nat}{t:Tok}{y:Str} (X:K.In h) (G:h.Ns mainGlobals mg) (a:PySem.W.nsIn K mainGlobals x=some (some (.ref f)))
    (l:K.lookup f=some ⟨oc,od,.func (PySem.W.fnOf x x (defArgs st) (defBody st) (defScope st) (.ref T) kV doc pm an cdv ct),osl⟩) (c:PySem.W.codeIn K cdv x=true) (k:PySem.W.keepIn K (.ref f)=true) (d:K.lookup T=some ⟨oc',od',.seq #[.str y t] n,osl'⟩) :
    ∃ f fd,DefAtD K mg x st f fd y:=⟨f,_,⟨⟨oc,od,kV,doc,pm,an,cdv,ct,osl,T,_,n,t,rfl,l,c,d,rfl⟩,k⟩,PySem.W.mg_of X G a⟩
structure FGD (P:Program) (w:World) (K:PySem.W.Frag) (mg:Str→Option Value) (base:Heap) (cl:Nat→Addr) (k:Nat) (x:Str) (n:Nat) (F:List PV→R PV) (y:Str):Prop where
  ex:∃ (f:Addr) (fd:FuncData) (ps:List Str) (d:Value),mg x=some (.ref f)∧PySem.W.keepIn K (.ref f)=true∧ps.length=n∧FnOk P w K mg base (CXm cl P w) k f fd ps (spF K cl n F)∧Binds K fd ps []∧Binds K fd ps [d]∧RelV (.str y) d
theorem FGD.fg {k:Nat}{x:Str}{n:Nat}{F:List PV→R PV}{y:Str} (h:FGD P w K mg base cl k x n F y):FG P w K mg base cl k x n F:=by
  obtain ⟨f,fd,ps,d,a,b,c,e,g,_⟩:=h.ex
  exact ⟨⟨f,fd,ps,a,b,c,e,g⟩⟩
theorem DefAtD.fg {x:Str}{st:Stmt}{f:Addr}{fd:FuncData}{y:Str}{N ps:List Str}{k n:Nat}{b:FS} (D:DefAtD K mg x st f fd y) (S:FnScope N ps (defScope st)) (hn:ps.length=n)
    (hb:∀ (T:Addr) (t:Tok) (kV doc pm:Value) (an:Option Addr) (cdv ct:Value) (us:List Value),us.length=ps.length→∃ k,bindArgs (PySem.W.fnOf x x (defArgs st) (defBody st) (defScope st) (.ref T) kV doc pm an cdv ct) ⟨us,[]⟩=seqItems? (.ref T) >>= k∧k (some #[.str y t])=pure (ps.zip us))
    (hb1:∀ (T:Addr) (t:Tok) (kV doc pm:Value) (an:Option Addr) (cdv ct:Value) (us:List Value),us.length+1=ps.length→∃ k,bindArgs (PySem.W.fnOf x x (defArgs st) (defBody st) (defScope st) (.ref T) kV doc pm an cdv ct) ⟨us,[]⟩=seqItems? (.ref T) >>= k∧k (some #[.str y t])=pure (ps.zip (us ++ [.str y t])))
    (hbody:∀ (cdv:Value) (A:Around) (outer:List Env) (s:Shared) (H:Hp) (E:XK),Room k (A.deeper (envOfC x (defScope st) s.heap.objs.size f cdv)) →
      MSs (cxM P w K mg base cl N x (defScope st) f cdv A outer s H E) cl (defBody st) b):FGD P w K mg base cl (k+1) x n (runF N.length b) y:=by
  obtain ⟨oc,od,kV,doc,pm,an,cdv,ct,osl,T,o,m,t,rfl,lk,hcd,lt,dt⟩:=D.fn.ex
  refine ⟨⟨f,_,ps,.str y t,D.mg,D.fn.kp,hn,fn_mirror' lk hcd S hn hbody,fun s us X hl=>?_,fun s us X hl=>?_,⟨t,rfl⟩⟩⟩
  · rw [List.append_nil] at hl ⊢
    obtain ⟨k,e1,e2⟩:=hb T t kV doc pm an cdv ct us hl
    exact PySem.W.binds_K X rfl lt dt e1 e2
  · obtain ⟨k,e1,e2⟩:=hb1 T t kV doc pm an cdv ct us (by simpa using hl)
    exact PySem.W.binds_K X rfl lt dt e1 e2
end
def dflt (F:List PV→R PV) (ds:List PV):List PV→R PV:=fun vs=>F (vs ++ ds)
section
variable {X:Cx}{cl:Nat→Addr}
theorem Rps.snoc {K:PySem.W.Frag}{Hf:Hp}{vs:List V}{ps:List PV}{v:V}{p:PV} (a:Rps K cl Hf vs ps) (b:Rp K cl Hf v p):Rps K cl Hf (vs ++ [v]) (ps ++ [p]):=a.append (.cons b .nil)
theorem me_callD {e:Expr}{es:List Expr}{g:FA}{x:Str}{p pos:Pos}{k n:Nat}{F:List PV→R PV}{y:Str} (hF:FGD X.prog X.w X.K X.mg X.base cl k x n F y) (hr:Room k X.A) (hg:Gl X x) (hst:X.stack=X.env::X.outer) (inj:∀ c d,cl c=cl d→c=d) (hex:∀ b,b ∉ X.ex)
    (ha:MA X cl (e::es) g) (hl:(e::es).length+1=n) (hdb:(x == ("__debug__" : Str))=false:=by decide) (he:starEach (e::es) X.env=(false,eval e X.env)::starEach es X.env:=by rfl) (hpl:(backTo pos (starEach es X.env)).any (·.1)=false:=by rfl) :
    ME X cl (.Call (.Name x p) (e::es) [] pos) (fCall (dflt F [.str y]) g):=by
  obtain ⟨f,fd,ps,d,hm,hk,hn,hf,_,hb,rd⟩:=hF.ex
  refine ⟨?_⟩
  intro pins s σ Hf0 H0 Hf H ρ I r hs
  unfold fCall at hs ⊢
  refine wpAny_Call_Name_kw (ld_glob I hg hm ?_ hdb)
  refine PySem.W.callWith_K (h₀:=X.base) I.ok.mod.kin hk (ha.run pos I r (Ext.refl r.sub) hs fun qs vs us s1 Hf1 H1 hq e1 I1 rv x1 rps=>⟨I1.kIn,?_⟩) he hpl
  rw [e1] at hs ⊢
  have hv:(vs ++ [V.str y]).length=n:=by rw [List.length_append,rps.length,hq,← hl];rfl
  have rps':Rps X.K cl Hf1 (vs ++ [.str y]) (qs ++ [.str y]):=rps.snoc (.str y)
  have rv':Vals (vs ++ [.str y]) (us ++ [d]):=rv.append (.cons rd .nil)
  have hsp:spF X.K cl n F (vs ++ [.str y]) H1 (fun v H'=>∃ p Hf',dflt F [.str y] qs = .ok p∧Ext Hf1 H1 Hf' H'∧Rp X.K cl Hf' v p) (fun u o H'=>∃ c Hf',dflt F [.str y] qs = .exc c∧Ext Hf1 H1 Hf' H'∧u = .ref (cl c)) :=
    ⟨hv,Hf1,qs ++ [PV.str y],x1.sub,rps',hs,fun p v Hf' H' a b c=>⟨p,Hf',a,b,c⟩,fun c Hf' H' a b=>⟨c,Hf',a,b,rfl⟩⟩
  have hlu:(us ++ [d]).length=ps.length:=by rw [← rv'.length,hv,hn]
  have hbb:=hb s1 us I1.kIn hlu
  refine wpAny_call (codeAny_mono (hf.run X.A X.stack s1 H1 ⟨us,[]⟩ (us ++ [d]) (vs ++ [.str y]) _ _ hr I1.env0 hbb rv' hsp) fun r s' hq'=>?_)
  cases r with
  | error e=>exact ExP.from (e0:=x1) (xat_of I1 x1.sub hst hq' inj hex)
  | ok fl =>
    cases fl with
    | ret u =>
      obtain ⟨v,H',I',rv',p,Hf',e2,ex,rp⟩:=I1.after hq'
      exact ⟨p,v,Hf',H',e2,I',rv',x1.trans ex,rp⟩
    | next=>exact False.elim hq'
    | brk=>exact False.elim hq'
    | cont=>exact False.elim hq'
end
section
variable {P:Program}{w:World}{K:PySem.W.Frag}{mg:Str→Option Value}{base:Heap}{cl:Nat→Addr}
theorem mcD {N:List Str}{qual:Str}{scope:Scope}{f:Addr}{cd:Value}{A:Around}{outer:List Env}{s:Shared}{H:Hp}{E:XK}{k k' n:Nat}{x:Str}{F:List PV→R PV}{y:Str}{e:Expr}{es:List Expr}{g:FA}{p pos:Pos}
    (h:FGD P w K mg base cl k x n F y) (hr:Room k' (A.deeper (envOfC qual scope s.heap.objs.size f cd))) (inj:∀ c d,cl c=cl d→c=d) (ha:MA (cxM P w K mg base cl N qual scope f cd A outer s H E) cl (e::es) g) (hk:k≤k':=by decide)
    (hl:(e::es).length+1=n:=by rfl) (hg:Gl (cxM P w K mg base cl N qual scope f cd A outer s H E) x:=by rfl) (hdb:(x == ("__debug__" : Str))=false:=by decide)
    (he:starEach (e::es) (cxM P w K mg base cl N qual scope f cd A outer s H E).env=(false,eval e (cxM P w K mg base cl N qual scope f cd A outer s H E).env)::starEach es (cxM P w K mg base cl N qual scope f cd A outer s H E).env:=by rfl)
    (hpl:(backTo pos (starEach es (cxM P w K mg base cl N qual scope f cd A outer s H E).env)).any (·.1)=false:=by rfl) :
    ME (cxM P w K mg base cl N qual scope f cd A outer s H E) cl (.Call (.Name x p) (e::es) [] pos) (fCall (dflt F [.str y]) g) :=
  me_callD h (hr.mono hk) hg rfl inj (fun b z=>absurd (show b∈([]:List Addr) from z) (by simp)) ha hl hdb he hpl
end
structure WayC (K:PySem.W.Frag) (mg:Str→Option Value) (cl:Nat→Addr) (c:Nat) (x:Str):Prop where
  mg:mg x=some (.ref (cl c))
  makes:PySem.W.makesIn K (cl c)=true
  init:PySem.W.findIn K (.ref (cl c)) "__init__"=some (some (.builtin "object.__init__"))
  kp:PySem.W.keepIn K (.ref (cl c))=true
  cls:L2.Cls K (cl c)
  hc:PySem.W.findIn K (.ref (cl c)) "__class__"=some (some (.builtin "object.__class__"))
  hn:PySem.W.specialIn K (.builtin "object.__class__") "__get__"=some (some (.builtin "getset_descriptor.__get__"))
  ht:PySem.W.takesIn K (.builtin "object.__class__")=some true
  hm:PySem.W.mroIn K (cl c) (.type "object")=some true
def fMake (c:Nat):FE:=fun _=>.ok (.ins c)
section
variable {X:Cx}{cl:Nat→Addr}
theorem me_make {c:Nat}{x:Str}{p pos:Pos} (M:WayC X.K X.mg cl c x) (hg:Gl X x) (hdb:(x == ("__debug__" : Str))=false:=by decide):ME X cl (.Call (.Name x p) [] [] pos) (fMake c):=by
  refine ⟨?_⟩
  intro pins s σ Hf0 H0 Hf H ρ I r hs
  refine wpAny_Call_Name_kw (ld_glob I hg M.mg ?_ hdb)
  refine PySem.W.callWith_K0 I.kIn M.kp (wpAny_call (make_map0 I.kIn M.makes M.init (fun self=>PySem.W.Looks.of_pure (PySem.W.oi_bind self)) ?_))
  have I2:=Inv.made (C:=cl c) I
  have n1:H s.heap.objs.size=none:=I.hok.fresh (Nat.le_refl _)
  have n2:H (s.heap.objs.size+1)=none:=I.hok.fresh (Nat.le_succ _)
  have e1:=Ext.newH r.sub n1 (.own (s.heap.objs.size+1))
  have n3:upd H s.heap.objs.size (.own (s.heap.objs.size+1)) (s.heap.objs.size+1)=none:=by rw [upd_ne (Nat.ne_of_gt (Nat.lt_succ_self _))];exact n2
  have e2:=Ext.new e1.sub n3 (.ins (cl c) s.heap.objs.size [])
  obtain ⟨hh,g,d,t,os⟩:=s
  have Y:=PySem.W.makes_of (M:=model X.prog X.w) I.kIn M.makes
  have hx:((hh.push PySem.W.emptyDict).push (PySem.W.instObj (cl c) hh.objs.size)).get? (hh.objs.size+1)=some (PySem.W.instObj (cl c) hh.objs.size):=by
    have:=Heap.get?_push_size (hh.push PySem.W.emptyDict) (o:=PySem.W.instObj (cl c) hh.objs.size) rfl
    rwa [Heap.size_push] at this
  have t1:PySem.W.Looks (model X.prog X.w) ((hh.push PySem.W.emptyDict).push (PySem.W.instObj (cl c) hh.objs.size)) (typeOf (.ref (hh.objs.size+1))) (.ref (cl c)):=(PySem.W.Looks.ld hx).andThen .now
  have t2:PySem.W.Looks (model X.prog X.w) ((hh.push PySem.W.emptyDict).push (PySem.W.instObj (cl c) hh.objs.size)) (isInstance (.ref (hh.objs.size+1)) (.type "object")) true:=t1.andThen (Y.top.keeps fun b o e=>Heap.get?_push_of_some _ (Heap.get?_push_of_some _ e))
  refine codeAny_call_builtin PySem.W.oi_plain PySem.W.entry_oi (@PySem.W.check_slot (model X.prog X.w) _ _ _ "object.__init__" "object" "__init__" (.ref (hh.objs.size+1)) [] [] _ PySem.W.oi_kind PySem.W.oi_split t2 (PySem.W.oi_args (.ref (hh.objs.size+1))) ?_)
  rw [PySem.W.oi_run]
  exact wpAny_pure (And.intro rfl ⟨.ins c,.ref (hh.objs.size+1),_,_,rfl,I2,rfl,e1.trans e2,.ins upd_same⟩)
end
def mtLook (c:Nat):List (Nat×(List PV→R PV))→Option (List PV→R PV)
  | []=>none
  | (d,F)::r=>if c=d then some F else mtLook c r
def mtK (tbl:List (Nat×(List PV→R PV))) (gv:R (List PV)):PV→R PV
  | .ins c=>(match mtLook c tbl with
    | some F=>gv.bind fun vs=>F (.ins c::vs)
    | none=>.stuck)
  | _=>.stuck
theorem mtK_ins (tbl:List (Nat×(List PV→R PV))) (gv:R (List PV)) (c:Nat):mtK tbl gv (.ins c)=match mtLook c tbl with
    | some F=>gv.bind fun vs=>F (.ins c::vs)
    | none=>.stuck:=rfl
theorem mtK_ns {tbl:List (Nat×(List PV→R PV))}{gv:R (List PV)}{q:PV} (h:mtK tbl gv q≠.stuck):∃ c F,q = .ins c∧mtLook c tbl=some F∧mtK tbl gv q=gv.bind fun vs=>F (.ins c::vs):=by
  cases q with
  | ins c =>
    cases em:mtLook c tbl with
    | none=>exact absurd (by rw [mtK_ins,em]) h
    | some F=>exact ⟨c,F,rfl,em,by rw [mtK_ins,em]⟩
  | _=>exact absurd rfl h
def fMeth (tbl:List (Nat×(List PV→R PV))) (o:FE) (g:FA):FE:=fun ρ=>(o ρ).bind (mtK tbl (g ρ))
structure FM (P:Program) (w:World) (K:PySem.W.Frag) (mg:Str→Option Value) (base:Heap) (cl:Nat→Addr) (k:Nat) (m:Str) (n:Nat) (tbl:List (Nat×(List PV→R PV))):Prop where
  ex:∀ c F,mtLook c tbl=some F→∃ (f:Addr) (fd:FuncData) (ps:List Str),L2.Cls K (cl c)∧Meth K (cl c) m f∧ps.length=n+1∧FnOk P w K mg base (CXm cl P w) k f fd ps (spF K cl (n+1) F)∧Binds K fd ps []
section
variable {X:Cx}{cl:Nat→Addr}
theorem me_meth {o:Expr}{fo:FE}{e:Expr}{es:List Expr}{g:FA}{m:Str}{apos pos:Pos}{k n:Nat}{tbl:List (Nat×(List PV→R PV))}{pl:Sem Bool} (hF:FM X.prog X.w X.K X.mg X.base cl k m n tbl) (hr:Room k X.A) (hst':X.stack=X.env::X.outer) (inj:∀ c d,cl c=cl d→c=d) (hex:∀ b,b ∉ X.ex)
    (ho:ME X cl o fo) (ha:MA X cl (e::es) g) (hl:(e::es).length=n)
    (hst:starEach (e::es) X.env=(false,eval e X.env)::starEach es X.env:=by rfl) (hpl:(backTo pos (starEach es X.env)).any (·.1)=false:=by rfl)
    (ht:eval (.Call (.Attribute o m apos) (e::es) [] pos) X.env=(do
      let ov ← eval o X.env
      standAt apos.atName
      let (f,first) ← holding [ov] (getMethod ov m pl)
      callWith pos f first (backTo pos (starEach (e::es) X.env)) (backToKw pos (keywordEach [] X.env))):=by rfl) :
    ME X cl (.Call (.Attribute o m apos) (e::es) [] pos) (fMeth tbl fo g):=by
  refine ⟨?_⟩
  intro pins s σ Hf0 H0 Hf H ρ I r hs
  unfold fMeth at hs ⊢
  refine PySem.W.methodCall_KW (pl:=pl) (ho.run I r (Ext.refl r.sub) hs fun q v u s1 Hf1 H1 e1 I1 rv x1 rp=>?_) ht
  rw [e1] at hs ⊢
  obtain ⟨c,F,rfl,em,red⟩:=mtK_ns hs
  rw [red] at hs ⊢
  obtain ⟨f,fd,ps,hc,hm,hn,hf,hb⟩:=hF.ex c F em
  cases rp with
  | ins hq =>
    rename_i a dx
    obtain rfl:u=Value.ref a:=rv
    refine getmeth_ok I1 (x1.sub _ _ hq) hc hm rfl ?_
    refine PySem.W.callWith_K (first:=[.ref a]) (h₀:=X.base) I.ok.mod.kin hm.kp (ha.run pos I1 (r.keep x1) x1 hs fun qs vs us s2 Hf2 H2 hq2 e2 I2 rv2 x2 rps=>⟨I2.kIn,?_⟩) hst hpl
    rw [e2] at hs ⊢
    have x12:Same Hf1 Hf2:=x2.frz
    have rps':Rps X.K cl Hf2 (.ref a::vs) (.ins c::qs):=.cons (.ins (x12 _ _ hq)) rps
    have hv:(V.ref a::vs).length=n+1:=by rw [List.length_cons,rps.length,hq2,hl]
    have rv':Vals (.ref a::vs) (.ref a::us):=.cons rfl rv2
    have hsp:spF X.K cl (n+1) F (.ref a::vs) H2 (fun v H'=>∃ p Hf',F (.ins c::qs) = .ok p∧Ext Hf2 H2 Hf' H'∧Rp X.K cl Hf' v p) (fun u o H'=>∃ d Hf',F (.ins c::qs) = .exc d∧Ext Hf2 H2 Hf' H'∧u = .ref (cl d)) :=
      ⟨hv,Hf2,.ins c::qs,x2.sub,rps',hs,fun p v Hf' H' a b c=>⟨p,Hf',a,b,c⟩,fun c Hf' H' a b=>⟨c,Hf',a,b,rfl⟩⟩
    have hlu:(Value.ref a::us ++ []).length=ps.length:=by rw [List.append_nil,← rv'.length,hv,hn]
    have hbb:=hb s2 (.ref a::us) I2.kIn hlu
    rw [List.append_nil] at hbb
    refine wpAny_call (codeAny_mono (hf.run X.A X.stack s2 H2 ⟨.ref a::us,[]⟩ (.ref a::us) (.ref a::vs) _ _ hr I2.env0 hbb rv' hsp) fun r s' hq'=>?_)
    cases r with
    | error e=>exact ExP.from (e0:=x1.trans x2) (xat_of (F:=fun _=>F (.ins c::qs)) (ps:=[]) I2 x2.sub hst' hq' inj hex)
    | ok fl =>
      cases fl with
      | ret u =>
        obtain ⟨v,H',I',rv',p,Hf',e2,ex,rp⟩:=I2.after hq'
        exact ⟨p,v,Hf',H',e2,I',rv',(x1.trans x2).trans ex,rp⟩
      | next=>exact False.elim hq'
      | brk=>exact False.elim hq'
      | cont=>exact False.elim hq'
end
def wunder (c d:Nat):Bool:=c == d || d == 20
structure Ways (K:PySem.W.Frag) (mg:Str→Option Value) (cl:Nat→Addr) (wn:List (Nat×Str)):Prop where
  cls:∀ c x,(c,x)∈wn→WayC K mg cl c x
  kit:∀ c x d y,(c,x)∈wn→(d,y)∈wn→PySem.W.kitOne K (.ref (cl c)) (.ref (cl d))=some (wunder c d)
section
variable {P:Program}{w:World}{K:PySem.W.Frag}{mg:Str→Option Value}{base:Heap}{cl:Nat→Addr}
theorem mk0 {N:List Str}{qual:Str}{scope:Scope}{f:Addr}{cd:Value}{A:Around}{outer:List Env}{s:Shared}{H:Hp}{E:XK}{c:Nat}{x:Str}{p pos:Pos}{wn:List (Nat×Str)}
    (C:Ways K mg cl wn) (hx:(c,x)∈wn) (hg:Gl (cxM P w K mg base cl N qual scope f cd A outer s H E) x:=by rfl) (hdb:(x == ("__debug__" : Str))=false:=by decide) :
    ME (cxM P w K mg base cl N qual scope f cd A outer s H E) cl (.Call (.Name x p) [] [] pos) (fMake c):=me_make (C.cls c x hx) hg hdb
theorem mm {N:List Str}{qual:Str}{scope:Scope}{f:Addr}{cd:Value}{A:Around}{outer:List Env}{s:Shared}{H:Hp}{E:XK}{k k' n:Nat}{m:Str}{tbl:List (Nat×(List PV→R PV))}{o e:Expr}{es:List Expr}{fo:FE}{g:FA}{apos pos:Pos}{pl:Sem Bool}
    (h:FM P w K mg base cl k m n tbl) (hr:Room k' (A.deeper (envOfC qual scope s.heap.objs.size f cd))) (inj:∀ c d,cl c=cl d→c=d) (ho:ME (cxM P w K mg base cl N qual scope f cd A outer s H E) cl o fo) (ha:MA (cxM P w K mg base cl N qual scope f cd A outer s H E) cl (e::es) g) (hk:k≤k':=by decide)
    (hl:(e::es).length=n:=by rfl)
    (he:starEach (e::es) (cxM P w K mg base cl N qual scope f cd A outer s H E).env=(false,eval e (cxM P w K mg base cl N qual scope f cd A outer s H E).env)::starEach es (cxM P w K mg base cl N qual scope f cd A outer s H E).env:=by rfl)
    (hpl:(backTo pos (starEach es (cxM P w K mg base cl N qual scope f cd A outer s H E).env)).any (·.1)=false:=by rfl)
    (ht:eval (.Call (.Attribute o m apos) (e::es) [] pos) (cxM P w K mg base cl N qual scope f cd A outer s H E).env=(do
      let ov ← eval o (cxM P w K mg base cl N qual scope f cd A outer s H E).env
      standAt apos.atName
      let (f',first) ← holding [ov] (getMethod ov m pl)
      callWith pos f' first (backTo pos (starEach (e::es) (cxM P w K mg base cl N qual scope f cd A outer s H E).env)) (backToKw pos (keywordEach [] (cxM P w K mg base cl N qual scope f cd A outer s H E).env))):=by rfl) :
    ME (cxM P w K mg base cl N qual scope f cd A outer s H E) cl (.Call (.Attribute o m apos) (e::es) [] pos) (fMeth tbl fo g) :=
  me_meth h (hr.mono hk) rfl inj (fun b z=>absurd (show b∈([]:List Addr) from z) (by simp)) ho ha hl he hpl ht
structure MethAt (K:PySem.W.Frag) (cl:Nat→Addr) (c:Nat) (m qual:Str) (st:Stmt) (f:Addr) (fd:FuncData):Prop where
  fn:Fun K m qual st f fd
  at_:Meth K (cl c) m f
structure MG (P:Program) (w:World) (K:PySem.W.Frag) (mg:Str→Option Value) (base:Heap) (cl:Nat→Addr) (k:Nat) (c:Nat) (m:Str) (n:Nat) (F:List PV→R PV):Prop where
  ex:∃ (f:Addr) (fd:FuncData) (ps:List Str),L2.Cls K (cl c)∧Meth K (cl c) m f∧ps.length=n+1∧FnOk P w K mg base (CXm cl P w) k f fd ps (spF K cl (n+1) F)∧Binds K fd ps []
theorem MethAt.mgp {c:Nat}{m qual:Str}{st:Stmt}{f:Addr}{fd:FuncData}{N ps:List Str}{k n:Nat}{b:FS} (D:MethAt K cl c m qual st f fd) (hc:L2.Cls K (cl c)) (S:FnScope N ps (defScope st)) (hn:ps.length=n+1)
    (hb:∀ (kV doc pm:Value) (an:Option Addr) (cdv ct:Value) (us:List Value),us.length=ps.length→bindArgs (PySem.W.fnOf m qual (defArgs st) (defBody st) (defScope st) .none kV doc pm an cdv ct) ⟨us,[]⟩=pure (ps.zip us))
    (hbody:∀ (cdv:Value) (A:Around) (outer:List Env) (s:Shared) (H:Hp) (E:XK),Room k (A.deeper (envOfC qual (defScope st) s.heap.objs.size f cdv)) →
      MSs (cxM P w K mg base cl N qual (defScope st) f cdv A outer s H E) cl (defBody st) b):MG P w K mg base cl (k+1) c m n (runF N.length b) :=
  ⟨⟨f,fd,ps,hc,D.at_,hn,fn_mirror D.fn S hn hbody,D.fn.binds hb⟩⟩
theorem fm_nil {k n:Nat}{m:Str}:FM P w K mg base cl k m n []:=⟨fun c F h=>by cases h⟩
theorem fm_cons {j k n:Nat}{c:Nat}{m:Str}{F:List PV→R PV}{tbl:List (Nat×(List PV→R PV))} (h:MG P w K mg base cl j c m n F) (t:FM P w K mg base cl k m n tbl) (hk:j≤k:=by decide):FM P w K mg base cl k m n ((c,F)::tbl):=by
  refine ⟨fun d G e=>?_⟩
  unfold mtLook at e
  by_cases z:d=c
  · subst z
    rw [if_pos rfl] at e
    cases e
    obtain ⟨f,fd,ps,a,b,c,g,i⟩:=h.ex
    exact ⟨f,fd,ps,a,b,c,g.mono hk,i⟩
  · rw [if_neg z] at e
    exact t.ex d G e
def wayOk (K:PySem.W.Frag) (x:Str):Bool :=
  refIn K x && PySem.W.makesIn K (adOf K x) && PySem.W.findIn K (.ref (adOf K x)) "__init__" == some (some (.builtin "object.__init__")) && PySem.W.keepIn K (.ref (adOf K x)) &&
  PySem.W.plainGet K (adOf K x) Str.empty && PySem.W.hasDictIn K (adOf K x) && PySem.W.plainOver K (adOf K x) && PySem.W.findIn K (.ref (adOf K x)) "__setattr__" == some (some (.builtin "object.__setattr__")) &&
  PySem.W.findIn K (.ref (adOf K x)) "__class__" == some (some (.builtin "object.__class__")) && PySem.W.specialIn K (.builtin "object.__class__") "__get__" == some (some (.builtin "getset_descriptor.__get__")) &&
  PySem.W.takesIn K (.builtin "object.__class__") == some true && PySem.W.mroIn K (adOf K x) (.type "object") == some true
def waysOk (K:PySem.W.Frag) (wn:List (Nat×Str)):Bool:=wn.all fun p=>wayOk K p.2 && wn.all fun q=>PySem.W.kitOne K (.ref (adOf K p.2)) (.ref (adOf K q.2)) == some (wunder p.1 q.1)
def clsOk2 (K:PySem.W.Frag) (all names:List (Nat×Str)):Bool:=ndOk (all.map fun p=>adOf K p.2) && names.all fun p=>oneOk K p && names.all fun q=>pairOk K p q
theorem cls_inj2 {all names:List (Nat×Str)} (e:clsOk2 K all names=true):∀ c d,clOf K all c=clOf K all d→c=d:=clOf_inj (nd_of (Bool.and_eq_true_iff.mp e).1)
theorem cls_of2 {h:Heap}{all names:List (Nat×Str)} (X:K.In h) (G:h.Ns mainGlobals mg) (hn:(all.map (·.1)).Nodup) (hs:∀ p∈names,p∈all) (e:clsOk2 K all names=true):Cls K mg (clOf K all) names:=by
  have a:=(Bool.and_eq_true_iff.mp e).2
  have one:∀ c x,(c,x)∈names→oneOk K (c,x)=true∧∀ d y,(d,y)∈names→pairOk K (c,x) (d,y)=true:=fun c x hx=>by
    have:=List.all_eq_true.mp a (c,x) hx
    rw [Bool.and_eq_true] at this
    exact ⟨this.1,fun d y hy=>List.all_eq_true.mp this.2 (d,y) hy⟩
  refine ⟨fun c x hx=>?_,fun c x d y hx hy=>?_,fun c x d y hx hy=>?_,fun d y hy=>?_,fun c x hx=>?_⟩
  · obtain ⟨o,_⟩:=one c x hx
    unfold oneOk at o
    simp only [Bool.and_eq_true,beq_iff_eq] at o
    exact ⟨by rw [clOf_at hn (hs _ hx)];exact PySem.W.mg_of X G (refIn_of o.1.1.1.1),by rw [clOf_at hn (hs _ hx)];exact o.1.1.1.2,by rw [clOf_at hn (hs _ hx)];exact o.1.1.2⟩
  · have o:=(one c x hx).2 d y hy
    unfold pairOk at o
    simp only [Bool.and_eq_true,beq_iff_eq] at o
    rw [clOf_at hn (hs _ hx),clOf_at hn (hs _ hy)];exact o.1
  · have o:=(one c x hx).2 d y hy
    unfold pairOk at o
    simp only [Bool.and_eq_true,beq_iff_eq] at o
    rw [clOf_at hn (hs _ hx),clOf_at hn (hs _ hy)];exact o.2
  · obtain ⟨o,_⟩:=one d y hy
    unfold oneOk at o
    simp only [Bool.and_eq_true,beq_iff_eq] at o
    rw [clOf_at hn (hs _ hy)];exact o.2
  · obtain ⟨o,_⟩:=one c x hx
    unfold oneOk at o
    simp only [Bool.and_eq_true,beq_iff_eq] at o
    rw [clOf_at hn (hs _ hx)];exact o.1.2
theorem ways_of {h:Heap}{all wn:List (Nat×Str)} (X:K.In h) (G:h.Ns mainGlobals mg) (hn:(all.map (·.1)).Nodup) (hs:∀ p∈wn,p∈all) (e:waysOk K wn=true):Ways K mg (clOf K all) wn:=by
  have one:∀ c x,(c,x)∈wn→wayOk K x=true∧∀ d y,(d,y)∈wn→PySem.W.kitOne K (.ref (adOf K x)) (.ref (adOf K y))=some (wunder c d):=fun c x hx=>by
    have:=List.all_eq_true.mp e (c,x) hx
    rw [Bool.and_eq_true] at this
    exact ⟨this.1,fun d y hy=>beq_iff_eq.mp (List.all_eq_true.mp this.2 (d,y) hy)⟩
  refine ⟨fun c x hx=>?_,fun c x d y hx hy=>?_⟩
  · obtain ⟨o,_⟩:=one c x hx
    have ec:=clOf_at (K:=K) hn (hs _ hx)
    unfold wayOk at o
    simp only [Bool.and_eq_true,beq_iff_eq] at o
    obtain ⟨⟨⟨⟨⟨⟨⟨⟨⟨⟨⟨o1,o2⟩,o3⟩,o4⟩,o5⟩,o6⟩,o7⟩,o8⟩,o9⟩,o10⟩,o11⟩,o12⟩:=o
    exact ⟨by rw [ec];exact PySem.W.mg_of X G (refIn_of o1),by rw [ec];exact o2,by rw [ec];exact o3,by rw [ec];exact o4,by rw [ec];exact ⟨o5,o6,o7,o8⟩,by rw [ec];exact o9,o10,o11,by rw [ec];exact o12⟩
  · rw [clOf_at hn (hs _ hx),clOf_at hn (hs _ hy)];exact (one c x hx).2 d y hy
theorem adOf_of {x:Str}{C:Addr} (a:PySem.W.nsIn K mainGlobals x=some (some (.ref C))):adOf K x=C:=by unfold adOf;rw [a]
theorem meth_mk {all:List (Nat×Str)}{c:Nat}{x m qual:Str}{st:Stmt}{C f:Addr}{oc:Value}{od an:Option Addr}{osl:Array (Option Value)}{kV doc pm cdv ct:Value} (hn:(all.map (·.1)).Nodup) (hx:(c,x)∈all) (a:PySem.W.nsIn K mainGlobals x=some (some (.ref C)))
    (b:PySem.W.findIn K (.ref C) m=some (some (.ref f))) (i:PySem.W.isFn K (.ref f)=true) (l:K.lookup f=some ⟨oc,od,.func (PySem.W.fnOf m qual (defArgs st) (defBody st) (defScope st) .none kV doc pm an cdv ct),osl⟩) (d:PySem.W.codeIn K cdv qual=true) (k:PySem.W.keepIn K (.ref f)=true) :
    ∃ f fd,MethAt K (clOf K all) c m qual st f fd:=⟨f,_,fun_mk l d k,by rw [clOf_at hn hx,adOf_of a];exact ⟨b,i,k⟩⟩
end
def padTo:Nat→MEnv→MEnv
  | 0,_=>[]
  | n+1,[]=>none::padTo n []
  | n+1,o::r=>o::padTo n r
def compL (n:Nat) (t:FT) (f:FE) (ρ:MEnv):List PV→R (List PV)
  | []=>.ok []
  | p::r=>match t (padTo n ρ ++ [some p]) with
    | .ok true=>(match f (padTo n ρ ++ [some p]) with
      | .ok v=>(match compL n t f ρ r with
        | .ok vs=>.ok (v::vs)
        | _=>.stuck)
      | _=>.stuck)
    | .ok false=>compL n t f ρ r
    | _=>.stuck
def tTrue:FT:=fun _=>.ok true
def compK (n:Nat) (t:FT) (f:FE) (ρ:MEnv) (l:List PV):R PV:=if l.length≤1000000 then (match compL n t f ρ l with
  | .ok vs=>.ok (.lst vs)
  | _=>.stuck) else .stuck
def fComp (n:Nat) (it:FA) (t:FT) (f:FE):FE:=fun ρ=>(it ρ).bind (compK n t f ρ)
theorem padTo_len:∀ (n:Nat) (ρ:MEnv),(padTo n ρ).length=n
  | 0,_=>rfl
  | n+1,[]=>congrArg (·+1) (padTo_len n [])
  | n+1,_::r=>congrArg (·+1) (padTo_len n r)
theorem padTo_get:∀ {n:Nat}{ρ:MEnv}{i:Nat}{p:PV},(padTo n ρ)[i]?=some (some p)→ρ[i]?=some (some p)
  | 0,_,_,_,h=>by simp [padTo] at h
  | n+1,[],0,_,h=>by simp [padTo] at h
  | n+1,[],i+1,p,h=>by
    have:(padTo n [])[i]?=some (some p):=by simpa [padTo] using h
    have:=padTo_get this
    simp at this
  | n+1,o::r,0,p,h=>by simpa [padTo] using h
  | n+1,o::r,i+1,p,h=>by
    have:(padTo n r)[i]?=some (some p):=by simpa [padTo] using h
    simpa using padTo_get this
theorem Rep.snoc {K:PySem.W.Frag}{cl:Nat→Addr}{Hf0 H0 Hf H:Hp}{σ:SV}{ρ:MEnv} (r:Rep K cl Hf0 H0 Hf H σ ρ) {v:V}{p:PV} (hr:Rp K cl Hf v p):Rep K cl Hf0 H0 Hf H (σ ++ [some v]) (padTo σ.length ρ ++ [some p]):=by
  have np:∀ l,p≠.own l:=fun l z=>by subst z;cases hr
  have at_:∀ {i:Nat}{q:PV},(padTo σ.length ρ ++ [some p])[i]?=some (some q)→(i<σ.length∧ρ[i]?=some (some q))∨(i=σ.length∧q=p):=fun {i q} h=>by
    by_cases hi:i<σ.length
    · rw [List.getElem?_append_left (by rw [padTo_len];exact hi)] at h
      exact .inl ⟨hi,padTo_get h⟩
    · rw [List.getElem?_append_right (by rw [padTo_len];omega),padTo_len] at h
      by_cases z:i=σ.length
      · subst z;simp at h;exact .inr ⟨rfl,h.symm⟩
      · rw [List.getElem?_eq_none (by simp;omega)] at h;cases h
  refine ⟨r.ext,fun i q h=>?_,fun i j ps qs a h1 h2 h3 h4=>?_⟩
  · rcases at_ h with ⟨hi,h'⟩ | ⟨rfl,rfl⟩
    · obtain ⟨w,h1,h2⟩:=r.slot i q h'
      exact ⟨w,by rw [List.getElem?_append_left hi];exact h1,h2⟩
    · refine ⟨v,by simp,?_⟩
      cases q with
      | own l=>exact absurd rfl (np l)
      | _=>exact hr
  · rcases at_ h1 with ⟨hi,h1'⟩ | ⟨rfl,e⟩
    · rcases at_ h2 with ⟨hj,h2'⟩ | ⟨rfl,e⟩
      · rw [List.getElem?_append_left hi] at h3
        rw [List.getElem?_append_left hj] at h4
        exact r.dist i j ps qs a h1' h2' h3 h4
      · exact absurd e.symm (np qs)
    · exact absurd e.symm (np ps)
def cxB (X:Cx) (Ns:List Str) (x:Str) (sc:Scope) (cs:List (Str×Addr)) (C:Addr) (s:Shared) (H:Hp) (fp:List Addr):Cx :=
  { X with N:=Ns ++ [x],s₀:=s,H₀:=H,env:=compEnvC sc cs C X.env,outer:=X.stack,stack:=X.stack,ex:=fp,fn:=fun _=>false,pn:=[],xe:=fun _ _=>False }
structure Cap (X:Cx) (Ns:List Str) (x:Str) (sc:Scope) (cs:List (Str×Addr)):Prop where
  clos:closureFor sc X.env=pure cs
  kind:sc.kind = .function
  nocell:∀ y∈sc.names,y.2≠.cell
  names:∀ y∈sc.names,y.2 = .local→sc.names.lookup y.1=some .local
  here:sc.names.lookup x=some .local
  sub:∀ y c,cs.lookup y=some c→X.env.cells.lookup y=some c
  has:∀ y,((relabel sc X.env).names.lookup y=some .cell∨(relabel sc X.env).names.lookup y=some .free)→∃ c,cs.lookup y=some c
  vis:∀ y∈Ns,Vis (relabel sc X.env) y→((relabel sc X.env).names.lookup y=some .cell∨(relabel sc X.env).names.lookup y=some .free)∧(X.env.kindOf y=some .cell∨X.env.kindOf y=some .free)
  new:x ∉ Ns
  len:Ns.length=X.N.length
  same:∀ (i:Nat) (y:Str),Ns[i]?=some y→Vis (relabel sc X.env) y→X.N[i]?=some y
section
variable {X:Cx}{cl:Nat→Addr}{pins:List (Addr×Obj)}{σ:SV}{H:Hp}{s:Shared}{Ns:List Str}{x:Str}{sc:Scope}{cs:List (Str×Addr)}{fp:List Addr}
theorem cxB_ok (I:Inv X pins σ H s) (c:Cap X Ns x sc cs) (hf:∀ b∈fp,FpOk X pins H b) (hl:∀ b∈fp,b<s.heap.objs.size):(cxB X Ns x sc cs s.heap.objs.size s H fp).Ok where
  mod:=I.ok.mod
  kind:=c.kind
  glob:=I.ok.glob
  blt:=I.ok.blt
  above:=Nat.le_refl _
  inj:=fun y z d e1 e2=>I.ok.inj y z d (c.sub y d e1) (c.sub z d e2)
  has:=fun y h=>c.has y h
  cab:=fun y d h=>by cases h
  hd:=I.ok.hd
  frames:=I.ok.frames
  stk:=.inl rfl
  exf:=fun b hb=>⟨Nat.ne_of_lt (hl b hb),fun y d e=>(hf b hb).2.2.2.2.1 y d (c.sub y d e)⟩
  bs:=I.bs
  bsz:=Nat.le_trans I.ok.bsz I.sz
  noex:=fun b o e hb=>by
    rcases (hf b hb).2.2.2.1 with z | z
    · exact I.ok.noex b o e z
    · exact absurd (Nat.lt_of_lt_of_le (Heap.lt_size e) (Nat.le_trans I.ok.bsz z)) (Nat.lt_irrefl _)
  exfs:=fun b hb z=>by
    rcases List.mem_cons.mp (I.stkSub b z) with e | e
    · exact (hf b hb).2.1 e
    · exact (hf b hb).2.2.1 e
  funs:=I.stack
  frf:=I.stkFree
theorem cxB_inv {h1:Heap}{tk:Nat} (I:Inv X pins σ H s) (c:Cap X Ns x sc cs) (hf:∀ b∈fp,FpOk X pins H b) (hl:∀ b∈fp,b<s.heap.objs.size) (hn:h1.Ns s.heap.objs.size (fun _=>none)) (k:∀ b o,s.heap.get? b=some o→h1.get? b=some o) :
    Inv (cxB X Ns x sc cs s.heap.objs.size s H fp) [] (σ ++ [none]) H { s with heap:=h1,toks:=tk } where
  ok:=cxB_ok I c hf hl
  os:=rfl
  bare:=I.bare
  base:=Un.kept k
  loc:=by
    refine ⟨_,hn,fun i y v e1 e2 e3=>?_⟩
    obtain ⟨m,_,lk⟩:=I.loc
    have hi:i<σ.length:=by
      by_cases z:i<σ.length
      · exact z
      · rw [List.getElem?_append_right (by omega)] at e2
        by_cases z2:i=σ.length
        · subst z2;simp at e2
        · rw [List.getElem?_eq_none (by simp;omega)] at e2;cases e2
    rw [List.getElem?_append_left hi] at e2
    have e1'':Ns[i]?=some y:=by
      have:(Ns ++ [x])[i]?=some y:=e1
      rw [List.getElem?_append_left (by rw [c.len,← I.len];exact hi)] at this;exact this
    have e1':=c.same i y e1'' e3
    obtain ⟨k1,k2⟩:=c.vis y (List.mem_of_getElem? e1'') e3
    have v':Vis X.env.scope y:=.inr k2
    obtain ⟨u,ru,l⟩:=lk i y v e1' e2 v'
    refine ⟨u,ru,.inr ⟨k1,?_⟩⟩
    rcases l with ⟨kl,_⟩ | ⟨_,d,ed,z⟩
    · rcases k2 with k2 | k2<;>(rw [k2] at kl;cases kl)
    · obtain ⟨d',ed'⟩:=c.has y k1
      have:=c.sub y d' ed'
      rw [ed] at this
      cases this
      obtain ⟨o,ho,hd⟩:=z
      exact ⟨d,ed',o,k _ _ ho,hd⟩
  cell:=fun y d e=>by
    obtain ⟨v,o,ho,hd⟩:=I.cell y d (c.sub y d e)
    exact ⟨v,o,k _ _ ho,hd⟩
  free:=I.hok.fresh (Nat.le_refl _)
  freeC:=fun y d e=>I.freeC y d (c.sub y d e)
  pin:=fun p hp=>by cases hp
  hok:=I.hok.kept k
  len:=by show (σ ++ [none]).length=(Ns ++ [x]).length;rw [List.length_append,List.length_append,I.len,c.len];rfl
theorem cxB_fp (c:Cap X Ns x sc cs) (I:Inv X pins σ H s) {H':Hp}{C:Addr}{s0:Shared}{H0:Hp} (hC:∀ b∈fp,b≠C) (hf:∀ b∈fp,FpOk X pins H b) (hn:∀ b∈fp,H' b=none):∀ b∈fp,FpOk (cxB X Ns x sc cs C s0 H0 fp) [] H' b:=fun b hb =>
  ⟨hn b hb,hC b hb,fun z=>(List.mem_cons.mp (I.stkSub b z)).elim (hf b hb).2.1 (hf b hb).2.2.1,.inl hb,fun y d e=>(hf b hb).2.2.2.2.1 y d (c.sub y d e),fun p hp=>by cases hp⟩
end
section
variable {prog:Program}{w:World}{A:Around}{R:Result→Shared→Prop}{s:Shared}
theorem compLoop_let {elt target iter:Expr}{ifs:List Expr}{scope:Scope}{pos:Pos}{it acc:Value}{env:Env} (I:Nat→Shared→Prop)
    (turn:∀ n s,I n s→wpAny (model prog w) A (pyNext it) (fun r s₁=>match r with
      | none=>R (.ok .next) s₁
      | some v=>wpAny (model prog w) A (letOwnedTupleGo target it v) (fun _ s₁'=>wpAny (model prog w) A (assign target env v) (fun _ s₂ =>
          wpAny (model prog w) A (forIn ifs true fun c r=>if r=true then do let ok ← isTrue c env (eval c env);pure (ForInStep.yield ok) else pure (ForInStep.yield r)) (fun ok s₃ =>
            if ok=true then wpAny (model prog w) A (eval elt env) (fun x s₄ =>
              wpAny (model prog w) A (call (.builtin "list.append") [acc,x]) (fun _ s₅=>∃ m,m<n∧I m s₅) (fun _ _=>False) s₄) (fun _ _=>False) s₃
            else ∃ m,m<n∧I m s₃) (fun _ _=>False) s₂) (fun _ _=>False) s₁') (fun _ _=>False) s₁) (fun _ _=>False) s)
    (n:Nat) (h:I n s) :
    codeAny (model prog w) A (.compLoop (.ListComp elt [⟨target,iter,ifs,0⟩] scope pos) 0 it acc env) R s:=by
  refine codeAny_loop rfl I (fun n s hI=>?_) n h
  show wpAny _ A ((compTurn (.ListComp elt [⟨target,iter,ifs,0⟩] scope pos) 0 it acc env).onRaise (fun x=>do noteFrame x env;theTreesLotGoes x)) _ _ s
  refine wpAny_noted ?_
  rw [compTurn_list]
  refine wpAny_bind (wpAny_standAt (wpAny_bind (wpAny_mono (turn n s hI) (fun r s₁ h₁=>?_) fun _ _ h'=>h'.elim)))
  cases r with
  | none=>exact wpAny_pure h₁
  | some v =>
    refine wpAny_bind (wpAny_mono h₁ (fun _ s₁' h₁'=>?_) fun _ _ h'=>h'.elim)
    refine wpAny_bind (wpAny_mono h₁' (fun _ s₂ h₂=>wpAny_bind (wpAny_mono h₂ (fun ok s₃ h₃=>?_) fun _ _ h'=>h'.elim)) fun _ _ h'=>h'.elim)
    cases ok with
    | false=>exact wpAny_pure ⟨rfl,h₃⟩
    | true =>
      exact wpAny_bind (wpAny_bind (wpAny_mono h₃ (fun x s₄ h₄=>wpAny_bind (wpAny_mono h₄ (fun _ s₅ h₅=>wpAny_pure (wpAny_pure ⟨rfl,h₅⟩)) fun _ _ h'=>h'.elim)) fun _ _ h'=>h'.elim))
end
inductive MC (X:Cx) (cl:Nat→Addr):List Expr→FT→Prop where
  | nil:MC X cl [] tTrue
  | one {c:Expr}{t:FT} (h:MT X cl c t):MC X cl [c] t
theorem compL_cons {n:Nat}{t:FT}{f:FE}{ρ:MEnv}{p:PV}{r rs:List PV} (h:compL n t f ρ (p::r) = .ok rs) :
    (t (padTo n ρ ++ [some p]) = .ok false∧compL n t f ρ r = .ok rs)∨(t (padTo n ρ ++ [some p]) = .ok true∧∃ v vs,f (padTo n ρ ++ [some p]) = .ok v∧compL n t f ρ r = .ok vs∧rs=v::vs):=by
  unfold compL at h
  split at h
  · rename_i e1
    split at h
    · rename_i v e2
      split at h
      · rename_i vs e3
        cases h
        exact .inr ⟨e1,v,vs,e2,e3,rfl⟩
      · cases h
    · cases h
  · rename_i e1;exact .inl ⟨e1,h⟩
  · cases h
section
variable {X:Cx}{cl:Nat→Addr}
theorem mc_run {ifs:List Expr}{t:FT} (h:MC X cl ifs t) {pins:List (Addr×Obj)}{s:Shared}{σ:SV}{Hf0 H0 Hf H:Hp}{ρ:MEnv}{b:Bool} (I:Inv X pins σ H s) (r:Rep X.K cl Hf0 H0 Hf H σ ρ) (e:t ρ = .ok b) {Q:Bool→Shared→Prop}
    (ok:∀ s' Hf' H',Inv X pins σ H' s'→Ext Hf H Hf' H'→Q b s') :
    wpAny (model X.prog X.w) X.A (forIn ifs true fun c r=>if r=true then do let ok ← isTrue c X.env (eval c X.env);pure (ForInStep.yield ok) else pure (ForInStep.yield r)) Q (fun _ _=>False) s:=by
  cases h with
  | nil =>
    cases e
    exact wpAny_tests_nil (ok s Hf H I (Ext.refl r.sub))
  | one h =>
    refine wpAny_tests_one (wpAny_mono (h pins s σ Hf0 H0 Hf H ρ I r (by rw [e];intro z;cases z)) (fun b' s' q=>?_) fun u s' q=>?_)
    · obtain ⟨Hf',H',e1,I',x⟩:=q
      rw [e] at e1;cases e1
      exact ok s' Hf' H' I' x
    · obtain ⟨c,e1,_⟩:=q
      rw [e] at e1;cases e1
theorem Ext.freeze {Hf H Hf1 H1:Hp} (x:Ext Hf H Hf1 H1) {l:Addr}{o:HO} (h1:H1 l=some o) (h2:Hf1 l=none) (h3:H l=none):Ext Hf H (upd Hf1 l o) H1:=by
  refine ⟨x.all,fun b u q=>?_,fun b u q=>?_,fun b n=>?_⟩
  · have:=x.frz b u q
    by_cases e:b=l
    · subst e;rw [h2] at this;cases this
    · rw [upd_ne e];exact this
  · by_cases e:b=l
    · subst e;rw [upd_same] at q;cases q;exact h1
    · rw [upd_ne e] at q;exact x.sub b u q
  · have e:b≠l:=fun z=>n (by rw [z];exact h3)
    rw [upd_ne e];exact x.old b n
theorem comp_run {elt iter:Expr}{Ns:List Str}{x:Str}{px pos pos':Pos}{sc:Scope}{cs:List (Str×Addr)}{ifs:List Expr}{fa:FA}{t:FT}{f:FE}{n:Nat}{use:Option (Value→Sem Unit)}{Q:Value→Shared→Prop}{E:Value→Shared→Prop}
    {pins:List (Addr×Obj)}{s:Shared}{σ:SV}{Hf0 H0 Hf H:Hp}{ρ:MEnv} (hc:X.calm=true) (c0:X.Ok→Cap X Ns x sc cs) (hn:X.N.length=n) (hnd:(Ns ++ [x]).Nodup) (hi:MI X cl (.Name x px) iter fa)
    (ht:∀ C s H fp,MC (cxB X Ns x sc cs C s H fp) cl ifs t) (hb:∀ C s H fp,ME (cxB X Ns x sc cs C s H fp) cl elt f) (hfs:∀ y,foldedSetIterable iter X.env y=pure y)
    (I:Inv X pins σ H s) (r:Rep X.K cl Hf0 H0 Hf H σ ρ) (hs:fComp n fa t f ρ≠.stuck) (hE:∀ u s',ExP X cl pins σ Hf H (fa ρ) u s'→E u s')
    (hQ:∀ (rs:List PV) (s5:Shared) (Hf5 H5:Hp) (l C:Addr),fComp n fa t f ρ = .ok (.lst rs)→Inv X pins σ H5 s5→Ext Hf H Hf5 H5→Rp X.K cl Hf5 (.ref l) (.lst rs)→FpOk X pins H5 C→(∃ m,s5.heap.Ns C m)→compPost (model X.prog X.w) X.A E use Q (.ref l) C (.ok .next) s5) :
    wpAny (model X.prog X.w) X.A (comprehension (.ListComp elt [⟨.Name x px,iter,ifs,0⟩] sc pos) sc X.env pos' (newList []) false (eval iter X.env) use) Q E s:=by
  have c:=c0 I.ok
  have hfr:fa ρ≠.stuck:=fun z=>hs (by unfold fComp;rw [z];rfl)
  refine wpAny_comprehension_free (use:=use) rfl hfs c.clos c.kind c.names (wpAny_mono (hi pins s σ Hf0 H0 Hf H ρ I r hfr) (fun xv s1 h1=>wpAny_mono h1 (fun itv s2 h2=>?_) hE) hE)
  obtain ⟨ps,vs,Hf2,e1,it,fp,tn,J,H2,e,I2,T,st2,f2,x2,ov,rps⟩:=h2
  subst e
  have ef:fComp n fa t f ρ=compK n t f ρ ps:=by unfold fComp;rw [e1];rfl
  have hs':compK n t f ρ ps≠.stuck:=by rw [← ef];exact hs
  obtain ⟨hz,rs,ec,ek⟩:ps.length≤1000000∧∃ rs,compL n t f ρ ps = .ok rs∧compK n t f ρ ps = .ok (.lst rs):=by
    unfold compK at hs' ⊢
    by_cases hz:ps.length≤1000000
    · rw [if_pos hz] at hs' ⊢
      cases ec:compL n t f ρ ps with
      | ok rs=>exact ⟨hz,rs,rfl,rfl⟩
      | exc d=>rw [ec] at hs';exact absurd rfl hs'
      | stuck=>rw [ec] at hs';exact absurd rfl hs'
    · rw [if_neg hz] at hs';exact absurd rfl hs'
  have ek':fComp n fa t f ρ = .ok (.lst rs):=ef.trans ek
  have nsm:H2 s2.heap.objs.size=none:=I2.hok.fresh (Nat.le_refl _)
  have fpl:∀ b∈fp,b<s2.heap.objs.size:=fun b hb=>by
    obtain ⟨o,ho,_⟩:=T.obj _ _ st2 b hb
    exact Heap.lt_size ho
  refine wpAny_newList ?_
  have k3:∀ b u,s2.heap.get? b=some u→(s2.heap.push { cls:=.type "list",data:=.seq ([]:List Value).toArray }).get? b=some u:=fun b u q=>Heap.get?_push_of_some _ q
  have I3:Inv X pins σ (upd H2 s2.heap.objs.size (.lst [])) { s2 with heap:=s2.heap.push { cls:=.type "list",data:=.seq ([]:List Value).toArray } } :=
    I2.laid (a:=s2.heap.objs.size) (o:=.lst []) (t':=s2.toks) k3 (Nat.le_refl _) ⟨Nat.zero_le _,[],0,.nil,Heap.get?_push_size _ rfl⟩
  generalize hl:s2.heap.objs.size=l at *
  have hf3:∀ b∈fp,FpOk X pins (upd H2 l (.lst [])) b:=fun b hb=>⟨by rw [upd_ne (Nat.ne_of_lt (fpl b hb))];exact (f2 b hb).1,(f2 b hb).2⟩
  generalize hs3:({ s2 with heap:=s2.heap.push { cls:=.type "list",data:=.seq ([]:List Value).toArray } }:Shared)=s3 at I3 ⊢
  have hl3:∀ b∈fp,b<s3.heap.objs.size:=fun b hb=>by
    rw [← hs3]
    show b<(s2.heap.push _).objs.size
    rw [Heap.size_push,hl];exact Nat.lt_succ_of_lt (fpl b hb)
  have st3:tn 0 s3.heap:=T.keep _ _ _ st2 fun b _ o e=>by rw [← hs3];exact k3 b o e
  refine wpAny_newFunctionEnv c.nocell (by intro y hy;simp at hy) (fun h1 hn1 hsb=>?_) c.kind
  have kC:∀ b o,s3.heap.get? b=some o→h1.get? b=some o:=fun b o e=>hsb.extBut b o (Nat.ne_of_lt (Heap.lt_size e)) (Heap.get?_push_of_some _ e)
  have IB:=cxB_inv (tk:=s3.toks+([]:List (Str×Value)).length) I3 c hf3 hl3 hn1 kC
  have x3:Ext Hf2 H2 Hf2 (upd H2 l (.lst [])):=Ext.newH x2.sub nsm (.lst [])
  have hf2l:Hf2 l=none:=x2.sub.free nsm
  have stB:tn 0 h1:=T.keep _ _ _ st3 fun b _ o e=>kC b o e
  have rk:=r.keep x2
  have hsl:σ.length=n:=by rw [I.len,hn]
  have hvp:=rps.length
  have hNn:Ns.length=n:=c.len.trans hn
  have hNi:(Ns ++ [x])[n]?=some x:=by rw [List.getElem?_append_right (by omega),hNn];simp
  have hLx:(relabel sc X.env).names.lookup x=some .local:=lookup_relabel_local c.here
  have hCf:∀ b∈fp,b≠s3.heap.objs.size:=fun b hb=>Nat.ne_of_lt (hl3 b hb)
  have stat:∀ {H':Hp},(∀ b∈fp,H' b=none)→∀ b∈fp,FpOk (cxB X Ns x sc cs s3.heap.objs.size s3 (upd H2 l (.lst [])) fp) [] H' b:=fun hn'=>cxB_fp c I3 hCf hf3 hn'
  have hbb:=hb s3.heap.objs.size s3 (upd H2 l (.lst [])) fp
  have htt:=ht s3.heap.objs.size s3 (upd H2 l (.lst [])) fp
  have loop:codeAny (model X.prog X.w) X.A (.compLoop (.ListComp elt [⟨.Name x px,iter,ifs,0⟩] sc pos) 0 (.ref it) (.ref l) (compEnvC sc cs s3.heap.objs.size X.env))
      (compPost (model X.prog X.w) X.A E use Q (.ref l) s3.heap.objs.size) { s3 with heap:=h1,toks:=s3.toks+([]:List (Str×Value)).length }:=by
    refine compLoop_let (fun m s'=>∃ (k:Nat) (ys:List V) (qs rest:List PV) (Hf' H':Hp) (v:Option V),Inv (cxB X Ns x sc cs s3.heap.objs.size s3 (upd H2 l (.lst [])) fp) [] (σ ++ [v]) H' s'∧tn k s'.heap∧(∀ b∈fp,H' b=none)∧Ext Hf2 H2 Hf' H'∧H' l=some (.lst ys)∧Hf' l=none ∧
      Rps X.K cl Hf' ys qs∧m=ps.length - k∧k≤ps.length∧qs.length≤k∧compL n t f ρ (ps.drop k) = .ok rest∧qs ++ rest=rs) ?_ ps.length
      ⟨0,[],[],rs,Hf2,upd H2 l (.lst []),none,IB,stB,fun b hb=>(hf3 b hb).1,x3,upd_same,hf2l,.nil,by omega,Nat.zero_le _,Nat.zero_le _,ec,rfl⟩
    rintro m s4 ⟨k,ys,qs,rest,Hf4,H4,v4,I4,st4,fr4,x4,hl4,hfl4,rq,rfl,hk,hqk,e4,eq4⟩
    have smH:Same Hf2 H4:=x4.frz.trans x4.sub
    by_cases hlt:k<ps.length
    · obtain ⟨go,yl⟩:=(ov H4 k smH).1 (by rw [hvp];exact hlt)
      refine wpAny_mono (T.item (cxB X Ns x sc cs s3.heap.objs.size s3 (upd H2 l (.lst [])) fp) rfl rfl rfl hc k [] s4 (σ ++ [v4]) H4 (fun _ _=>False) I4 (stat fr4) st4 go) (fun rr s5 ⟨u,hr,h5⟩=>?_) fun _ _ z=>z
      subst hr
      refine thn h5 fun _ s6 ⟨x6,H6,I6,r6,y6,st6,fr6⟩=>?_
      obtain ⟨eH,ex6⟩:=yl x6 H6 y6
      subst eH
      obtain ⟨p6,ep6,rp6⟩:=rps.get' ex6
      have rp6':=rp6.keep x4.frz
      have hdrop:ps.drop k=p6::ps.drop (k+1):=by
        rw [List.drop_eq_getElem_cons hlt]
        rw [List.getElem?_eq_getElem hlt] at ep6
        rw [Option.some.inj ep6]
      rw [hdrop] at e4
      have I6':=I6.pinned (stat fr6) (T.obj _ _ st6)
      refine wpAny_assign_Name (store_ok (X:=cxB X Ns x sc cs s3.heap.objs.size s3 (upd H2 l (.lst [])) fp) I6' hnd hNi (.inl hLx) r6 (fun s7 I7=>?_) (.inr hLx))
      have eσ:(σ ++ [v4]).set n (some x6)=σ ++ [some x6]:=by rw [← hsl,List.set_append_right _ _ (Nat.le_refl _)];simp
      rw [eσ] at I7
      have r7:=(rk.keep x4).snoc rp6'
      rw [hsl] at r7
      have again:∀ {s9:Shared}{Hf9 H9:Hp}{ys9:List V}{qs9 rest9:List PV},Inv (cxB X Ns x sc cs s3.heap.objs.size s3 (upd H2 l (.lst [])) fp) ([] ++ pinsAt fp s6.heap) (σ ++ [some x6]) H9 s9→Ext Hf2 H2 Hf9 H9→H9 l=some (.lst ys9)→Hf9 l=none→Rps X.K cl Hf9 ys9 qs9→qs9.length≤k+1 →
          compL n t f ρ (ps.drop (k+1)) = .ok rest9→qs9 ++ rest9=rs →
          ∃ m,m<ps.length - k∧∃ (k:Nat) (ys:List V) (qs rest:List PV) (Hf' H':Hp) (v:Option V),Inv (cxB X Ns x sc cs s3.heap.objs.size s3 (upd H2 l (.lst [])) fp) [] (σ ++ [v]) H' s9∧tn k s9.heap∧(∀ b∈fp,H' b=none)∧Ext Hf2 H2 Hf' H'∧H' l=some (.lst ys)∧Hf' l=none ∧
            Rps X.K cl Hf' ys qs∧m=ps.length - k∧k≤ps.length∧qs.length≤k∧compL n t f ρ (ps.drop k) = .ok rest∧qs ++ rest=rs:=fun {s9 Hf9 H9 ys9 qs9 rest9} I9 x9 hl9 hfl9 rq9 hq9 ec9 eq9=>by
        refine ⟨ps.length - (k+1),by omega,k+1,ys9,qs9,rest9,Hf9,H9,some x6,I9.unpinned,T.keep _ _ _ st6 fun b hb o e=>(I9.pin (b,o) (List.mem_append_right _ (List.mem_append_right _ (mem_pinsAt hb e)))).1,fun b hb=>?_,x9,hl9,hfl9,rq9,rfl,hlt,hq9,ec9,eq9⟩
        obtain ⟨o,e,d⟩:=T.obj _ _ st6 b hb
        exact (I9.pin (b,o) (List.mem_append_right _ (List.mem_append_right _ (mem_pinsAt hb e)))).2.1
      have nl4:H6 l≠none:=by rw [hl4];intro z;cases z
      rcases compL_cons e4 with ⟨et,e5⟩ | ⟨et,v,vs',ef,e5,er⟩
      · refine mc_run htt I7 r7 et fun s8 Hf8 H8 I8 x8=>?_
        rw [if_neg (by decide)]
        exact again I8 (x4.trans x8) (x8.all _ _ hl4) (by rw [x8.old l nl4];exact hfl4) (rq.keep x8.frz) (by omega) e5 eq4
      · refine mc_run htt I7 r7 et fun s8 Hf8 H8 I8 x8=>?_
        rw [if_pos rfl]
        have r8:=r7.keep x8
        refine wpAny_mono (hbb _ s8 _ Hf0 H0 Hf8 H8 _ I8 r8 (by rw [ef];intro z;cases z)) (fun u s9 q9=>?_) fun u s9 q9=>?_
        · obtain ⟨p9,v9,Hf9,H9,e9,I9,rv9,x9,rp9⟩:=q9
          rw [ef] at e9;cases e9
          have hl8:H8 l=some (.lst ys):=x8.all _ _ hl4
          have hl9:H9 l=some (.lst ys):=x9.all _ _ hl8
          have hfl9:Hf9 l=none:=by rw [x9.old l (by rw [hl8];intro z;cases z),x8.old l nl4];exact hfl4
          refine thn (mt_append (X:=cxB X Ns x sc cs s3.heap.objs.size s3 (upd H2 l (.lst [])) fp) _ s9 _ H9 (.ref l) [v9] (.ref l) [u] (fun w H'=>H'=upd H9 l (.lst (ys ++ [v9]))) I9 rfl (.cons rv9 .nil) ⟨l,ys,v9,rfl,rfl,hl9,by rw [rq.length];exact Nat.lt_of_le_of_lt (show qs.length≤1000000 by omega) (by decide),rfl⟩) fun w s10 ⟨w',H10,I10,_,q10⟩=>?_
          subst q10
          have x49:=(x4.trans x8).trans x9
          have x10:Ext Hf2 H2 Hf9 (upd H9 l (.lst (ys ++ [v9]))):=by
            refine ⟨fun b o q=>?_,x49.frz,fun b o q=>?_,x49.old⟩
            · have e:b≠l:=fun z=>by rw [z,nsm] at q;cases q
              rw [upd_ne e];exact x49.all b o q
            · have e:b≠l:=fun z=>by rw [z,hfl9] at q;cases q
              rw [upd_ne e];exact x49.sub b o q
          exact again I10 x10 upd_same hfl9 (((rq.keep x8.frz).keep x9.frz).append (.cons rp9 .nil)) (by rw [List.length_append];simp;omega) e5 (by rw [List.append_assoc,← eq4,er];rfl)
        · obtain ⟨d,e9,_⟩:=q9
          rw [ef] at e9;cases e9
    · have hke:k=ps.length:=by omega
      subst hke
      refine wpAny_mono (T.done (cxB X Ns x sc cs s3.heap.objs.size s3 (upd H2 l (.lst [])) fp) rfl rfl rfl hc ps.length [] s4 (σ ++ [v4]) H4 (fun _ _=>False) I4 (stat fr4) st4 ((ov H4 ps.length smH).2 (by rw [hvp];exact Nat.le_refl _))) (fun rr s5 ⟨hr,I5⟩=>?_) fun _ _ z=>z
      subst hr
      rw [List.drop_length] at e4
      cases e4
      rw [List.append_nil] at eq4
      subst eq4
      obtain ⟨m5,hn5,_⟩:=I5.loc
      have xx:=x2.trans x4
      have hHl:H l=none:=by
        cases q:H l with
        | none=>rfl
        | some o=>have:=x2.all l o q;rw [nsm] at this;cases this
      have IX:Inv X pins σ H4 s5:=I3.call' I5.os I5.base I5.hok I5.bare fun b hb=>⟨(hf3 b hb).2.2.2.1,(hf3 b hb).2.1,(hf3 b hb).2.2.2.2.1,(hf3 b hb).2.2.2.2.2⟩
      exact hQ qs s5 (upd Hf4 l (.lst ys)) H4 l s3.heap.objs.size ek' IX (xx.freeze hl4 hfl4 hHl) (.lst (SqL.of upd_same) (rq.keep (same_upd hfl4 _))) (I3.fpOk (Nat.le_refl _) I5.free) ⟨m5,hn5⟩
  exact codeAny_compStart_list loop (T.self _ 0 _ _ _ stB loop)
theorem inv_letgo {pins:List (Addr×Obj)}{s:Shared}{σ:SV}{H:Hp}{C:Addr}{h':Heap} (I:Inv X pins σ H s) (hf:FpOk X pins H C) (hs:Heap.SameBut C s.heap h'):Inv X pins σ H { s with heap:=h' } :=
  I.turned (t':=s.toks) (fun b o hb e=>(hs.2 b hb).trans e) hf.1 hf.2.1 hf.2.2.2.1 hf.2.2.2.2.1 hf.2.2.2.2.2
theorem me_comp {elt iter:Expr}{Ns:List Str}{x:Str}{px pos:Pos}{sc:Scope}{cs:List (Str×Addr)}{ifs:List Expr}{fa:FA}{t:FT}{f:FE}{n:Nat} (hc:X.calm=true) (c0:X.Ok→Cap X Ns x sc cs) (hn:X.N.length=n) (hnd:(Ns ++ [x]).Nodup) (hi:MI X cl (.Name x px) iter fa)
    (ht:∀ C s H fp,MC (cxB X Ns x sc cs C s H fp) cl ifs t) (hb:∀ C s H fp,ME (cxB X Ns x sc cs C s H fp) cl elt f) (hfs:∀ y,foldedSetIterable iter X.env y=pure y:=by intro _;rfl) :
    ME X cl (.ListComp elt [⟨.Name x px,iter,ifs,0⟩] sc pos) (fComp n fa t f):=by
  refine ⟨?_⟩
  intro pins s σ Hf0 H0 Hf H ρ I r hs
  rw [eval_ListComp]
  refine comp_run hc c0 hn hnd hi ht hb hfs I r hs (fun u s' ⟨d,e1,y⟩=>⟨d,by unfold fComp;rw [e1];rfl,y⟩) fun rs s5 Hf5 H5 l C ek I5 x5 rp hf ⟨m,hm⟩=>?_
  exact ⟨m,hm,fun h' hsC=>⟨.lst rs,.ref l,Hf5,H5,ek,inv_letgo I5 hf hsC,rfl,x5,rp⟩⟩
end
def csOf (sc:Scope) (env:Env):List (Str×Addr):=sc.names.foldl (fun cs y=>if y.2 == .free then (y.1,(env.cells.lookup y.1).getD 0)::cs else cs) []
theorem clos_of {sc:Scope}{env:Env} (h:∀ y∈sc.names,y.2 = .free→∃ c,env.cells.lookup y.1=some c):closureFor sc env=pure (csOf sc env):=by
  unfold closureFor csOf
  generalize sc.names=l at h
  have go:∀ (l:List (Str×NameKind)) (cs:List (Str×Addr)),(∀ y∈l,y.2 = .free→∃ c,env.cells.lookup y.1=some c) →
      (forIn l cs (fun (x:Str×NameKind) (r:List (Str×Addr))=>match x with
        | (name,kind)=>if (kind == NameKind.free)=true then do
            let a ← cellOf env name
            pure (ForInStep.yield ((name,a)::r)) else pure (ForInStep.yield r)):Sem (List (Str×Addr)))=pure (l.foldl (fun cs y=>if y.2 == .free then (y.1,(env.cells.lookup y.1).getD 0)::cs else cs) cs):=by
    intro l
    induction l with
    | nil=>intro cs _;rfl
    | cons y r ih =>
      intro cs hl
      obtain ⟨n,k⟩:=y
      rw [List.forIn_cons,List.foldl_cons]
      by_cases hk:(k == NameKind.free)=true
      · obtain ⟨d,hd⟩:=hl (n,k) List.mem_cons_self (by simpa using hk)
        have e:cellOf env n=pure d:=by
          have hd':env.cells.lookup n=some d:=hd
          unfold cellOf;rw [hd']
        have hd':env.cells.lookup n=some d:=hd
        dsimp only
        rw [if_pos hk,if_pos hk,e,hd']
        exact ih _ fun z hz=>hl z (List.mem_cons_of_mem _ hz)
      · dsimp only
        rw [if_neg hk,if_neg hk]
        exact ih _ fun z hz=>hl z (List.mem_cons_of_mem _ hz)
  exact (congrArg (fun (m:Sem (List (Str×Addr)))=>m >>= fun cs=>pure cs) (go l [] h)).trans rfl
theorem csOf_go {env:Env}:∀ (l:List (Str×NameKind)) (cs:List (Str×Addr)) (y:Str) (c:Addr),(∀ z∈l,z.2 = .free→∃ c,env.cells.lookup z.1=some c) →
    (l.foldl (fun cs y=>if y.2 == .free then (y.1,(env.cells.lookup y.1).getD 0)::cs else cs) cs).lookup y=some c→cs.lookup y=some c∨env.cells.lookup y=some c
  | [],_,_,_,_,h=>.inl h
  | (n,k)::r,cs,y,c,hl,h=>by
    rw [List.foldl_cons] at h
    rcases csOf_go r _ y c (fun z hz=>hl z (List.mem_cons_of_mem _ hz)) h with q | q
    · by_cases hk:(k == NameKind.free)=true
      · rw [if_pos hk] at q
        obtain ⟨d,hd⟩:=hl (n,k) List.mem_cons_self (by simpa using hk)
        have hd':env.cells.lookup n=some d:=hd
        rw [hd',List.lookup_cons] at q
        by_cases e:y == n
        · rw [e] at q
          have e':=beq_iff_eq.mp e
          subst e'
          exact .inr (by rw [hd'];exact q)
        · have e2:(y == n)=false:=by simpa using e
          rw [e2] at q;exact .inl q
      · rw [if_neg hk] at q;exact .inl q
    · exact .inr q
theorem csOf_has {env:Env}:∀ (l:List (Str×NameKind)) (cs:List (Str×Addr)) (y:Str),((∃ c,cs.lookup y=some c)∨(y,NameKind.free)∈l) →
    ∃ c,(l.foldl (fun cs y=>if y.2 == .free then (y.1,(env.cells.lookup y.1).getD 0)::cs else cs) cs).lookup y=some c
  | [],cs,y,h=>by
    rcases h with h | h
    · exact h
    · cases h
  | (n,k)::r,cs,y,h=>by
    rw [List.foldl_cons]
    refine csOf_has r _ y ?_
    rcases h with ⟨c,h⟩ | h
    · left
      by_cases hk:(k == NameKind.free)=true
      · rw [if_pos hk,List.lookup_cons]
        by_cases e:(y == n)=true
        · rw [e];exact ⟨_,rfl⟩
        · have e2:(y == n)=false:=by simpa using e
          rw [e2];exact ⟨c,h⟩
      · rw [if_neg hk];exact ⟨c,h⟩
    · rcases List.mem_cons.mp h with e | e
      · left
        have e1:y=n:=congrArg Prod.fst e
        have e2:NameKind.free=k:=congrArg Prod.snd e
        subst e1 e2
        rw [if_pos (by rfl),List.lookup_cons]
        have:(y == y)=true:=beq_self_eq_true y
        rw [this];exact ⟨_,rfl⟩
      · exact .inr e
def capB (N:List Str) (x:Str) (sc es:Scope):Bool :=
  sc.kind == .function && es.kind == .function && (sc.names.all fun y=>y.2 != .cell) && (sc.names.all fun y=>y.2 != .local || sc.names.lookup y.1 == some .local) && (sc.names.lookup x == some .local) &&
  (sc.names.all fun y=>y.2 != .free || es.names.lookup y.1 == some .cell || es.names.lookup y.1 == some .free) && (N.all fun y=>sc.names.lookup y != some .local) && !N.contains x
theorem lookup_mem' {α:Type}:∀ {l:List (Str×α)}{y:Str}{k:α},l.lookup y=some k→(y,k)∈l
  | [],_,_,h=>by cases h
  | (n,j)::r,y,k,h=>by
    rw [List.lookup_cons] at h
    by_cases e:(y == n)=true
    · rw [e] at h;cases h
      rw [beq_iff_eq.mp e];exact List.mem_cons_self
    · have e2:(y == n)=false:=by simpa using e
      rw [e2] at h
      exact List.mem_cons_of_mem _ (lookup_mem' h)
theorem relabel_go (cond:Str→NameKind→Bool) (hcond:∀ n k,cond n k=true→k = .free):∀ {l:List (Str×NameKind)}{y:Str}{k:NameKind},
    (l.map fun z=>if cond z.1 z.2 then (z.1,NameKind.cell) else (z.1,z.2)).lookup y=some k→(l.lookup y=some k)∨(k = .cell∧l.lookup y=some .free)
  | [],_,_,h=>by cases h
  | (n,j)::r,y,k,h=>by
    rw [List.map_cons] at h
    dsimp only at h
    by_cases hc:cond n j=true
    · rw [if_pos hc,List.lookup_cons] at h
      rw [List.lookup_cons]
      by_cases e:(y == n)=true
      · rw [e] at h ⊢
        cases h
        right;exact ⟨rfl,by rw [hcond n j hc]⟩
      · have e2:(y == n)=false:=by simpa using e
        rw [e2] at h ⊢
        exact relabel_go cond hcond h
    · rw [if_neg hc,List.lookup_cons] at h
      rw [List.lookup_cons]
      by_cases e:(y == n)=true
      · rw [e] at h ⊢;exact .inl h
      · have e2:(y == n)=false:=by simpa using e
        rw [e2] at h ⊢
        exact relabel_go cond hcond h
theorem relabel_kind {sc:Scope}{env:Env}{y:Str}{k:NameKind} (h:(relabel sc env).names.lookup y=some k):(sc.names.lookup y=some k)∨(k = .cell∧sc.names.lookup y=some .free) :=
  relabel_go (fun n k=>k == NameKind.free && env.scope.kind == .function && env.kindOf n == some .cell) (fun n k h=>beq_iff_eq.mp (Bool.and_eq_true_iff.mp (Bool.and_eq_true_iff.mp h).1).1) h
theorem cap_of {X:Cx}{Ns:List Str}{x:Str}{sc:Scope} (h:capB Ns x sc X.env.scope=true) (hl:Ns.length=X.N.length) (hsm:∀ (i:Nat) (y:Str),Ns[i]?=some y→Vis (relabel sc X.env) y→X.N[i]?=some y) (ok:X.Ok):Cap X Ns x sc (csOf sc X.env):=by
  unfold capB at h
  simp only [Bool.and_eq_true,beq_iff_eq,List.all_eq_true,Bool.or_eq_true,bne_iff_ne,ne_eq,Bool.not_eq_true'] at h
  obtain ⟨⟨⟨⟨⟨⟨⟨h1,h2⟩,h3⟩,h4⟩,h5⟩,h6⟩,h7⟩,h8⟩:=h
  have free:∀ y∈sc.names,y.2 = .free→(X.env.kindOf y.1=some .cell∨X.env.kindOf y.1=some .free):=fun y hy e=>by
    rcases h6 y hy with (z | z) | z
    · exact absurd e z
    · exact .inl z
    · exact .inr z
  have cells:∀ y∈sc.names,y.2 = .free→∃ c,X.env.cells.lookup y.1=some c:=fun y hy e=>ok.has y.1 (free y hy e)
  have kinds:∀ y,((relabel sc X.env).names.lookup y=some .cell∨(relabel sc X.env).names.lookup y=some .free)→(y,NameKind.free)∈sc.names:=fun y hy=>by
    rcases hy with hy | hy
    · rcases relabel_kind hy with z | ⟨_,z⟩
      · exact absurd rfl (h3 (y,.cell) (lookup_mem' z))
      · exact lookup_mem' z
    · rcases relabel_kind hy with z | ⟨z,_⟩
      · exact lookup_mem' z
      · cases z
  refine ⟨clos_of cells,h1,fun y hy=>h3 y hy,fun y hy e=>?_,h5,fun y c e=>?_,fun y hy=>csOf_has _ _ y (.inr (kinds y hy)),fun y hy v=>?_,fun z=>?_,hl,hsm⟩
  · rcases h4 y hy with z | z
    · exact absurd e z
    · exact z
  · rcases csOf_go _ _ y c cells e with q | q
    · cases q
    · exact q
  · rcases v with v | v
    · exfalso
      rcases relabel_kind v with z | ⟨z,_⟩
      · exact h7 y hy z
      · cases z
    · exact ⟨v,free _ (kinds y v) rfl⟩
  · rw [List.contains_iff_mem.mpr z] at h8;cases h8
section
variable {P:Program}{w:World}{K:PySem.W.Frag}{mg:Str→Option Value}{base:Heap}{cl:Nat→Addr}
theorem mcomp {N:List Str}{qual:Str}{scope:Scope}{f:Addr}{cd:Value}{A:Around}{outer:List Env}{s:Shared}{H:Hp}{E:XK}{elt iter:Expr}{x:Str}{px pos:Pos}{sc:Scope}{ifs:List Expr}{fa:FA}{t:FT}{g:FE}{n:Nat}
    (hnd:N.Nodup) (hcap:capB N x sc scope=true) (hn:N.length=n) (hi:MI (cxM P w K mg base cl N qual scope f cd A outer s H E) cl (.Name x px) iter fa)
    (ht:∀ C s' H' fp,MC (cxB (cxM P w K mg base cl N qual scope f cd A outer s H E) N x sc (csOf sc (cxM P w K mg base cl N qual scope f cd A outer s H E).env) C s' H' fp) cl ifs t)
    (hb:∀ C s' H' fp,ME (cxB (cxM P w K mg base cl N qual scope f cd A outer s H E) N x sc (csOf sc (cxM P w K mg base cl N qual scope f cd A outer s H E).env) C s' H' fp) cl elt g)
    (hfs:∀ y,foldedSetIterable iter (cxM P w K mg base cl N qual scope f cd A outer s H E).env y=pure y:=by intro _;rfl) :
    ME (cxM P w K mg base cl N qual scope f cd A outer s H E) cl (.ListComp elt [⟨.Name x px,iter,ifs,0⟩] sc pos) (fComp n fa t g):=by
  refine me_comp rfl (fun ok=>cap_of hcap rfl (fun _ _ h _=>h) ok) hn ?_ hi ht hb hfs
  show (N ++ [x]).Nodup
  have hx:x ∉ N:=fun z=>by
    unfold capB at hcap
    have:=(Bool.and_eq_true_iff.mp hcap).2
    rw [List.contains_iff_mem.mpr z] at this;cases this
  exact List.nodup_append.mpr ⟨hnd,List.nodup_cons.mpr ⟨List.not_mem_nil,List.nodup_nil⟩,fun a ha b hb e=>hx (by
    rw [List.mem_singleton] at hb;rw [← hb,← e];exact ha)⟩
end
def GetS (m:Str) (id:String):Prop:=∀ {M:Model}{A:Around}{E:Value→Shared→Prop}{s:Shared}{x:Str}{t:Tok}{pl:Sem Bool}{Q:Value×List Value→Shared→Prop},
  Q (Value.builtin id,[Value.str x t]) s→wpAny M A (getMethod (Value.str x t) m pl) Q E s
def strK (F:List PV→R PV) (gv:R (List PV)):PV→R PV
  | .str z=>gv.bind fun vs=>F (.str z::vs)
  | _=>.stuck
theorem strK_ns {F:List PV→R PV}{gv:R (List PV)}{q:PV} (h:strK F gv q≠.stuck):∃ z,q = .str z:=by
  cases q with
  | str z=>exact ⟨z,rfl⟩
  | _=>exact absurd rfl h
def fStrM (F:List PV→R PV) (o:FE) (g:FA):FE:=fun ρ=>(o ρ).bind (strK F (g ρ))
section
variable {X:Cx}{cl:Nat→Addr}{pins:List (Addr×Obj)}{s:Shared}{σ:SV}{Hf0 H0 Hf H Hf1 H1:Hp}{ρ:MEnv}{α:Type}
theorem me_strm {o:Expr}{fo:FE}{e:Expr}{es:List Expr}{g:FA}{m:Str}{id:String}{F:List PV→R PV}{apos pos:Pos}{pl:Sem Bool} (hg:GetS m id) (hc:CalR X cl (.builtin id) F)
    (ho:ME X cl o fo) (ha:MA X cl (e::es) g)
    (hst:starEach (e::es) X.env=(false,eval e X.env)::starEach es X.env:=by rfl) (hpl:(backTo pos (starEach (e::es) X.env)).any (·.1)=false:=by rfl)
    (ht:eval (.Call (.Attribute o m apos) (e::es) [] pos) X.env=(do
      let ov ← eval o X.env
      standAt apos.atName
      let (f,first) ← holding [ov] (getMethod ov m pl)
      callWith pos f first (backTo pos (starEach (e::es) X.env)) (backToKw pos (keywordEach [] X.env))):=by rfl) :
    ME X cl (.Call (.Attribute o m apos) (e::es) [] pos) (fStrM F fo g):=by
  refine ⟨?_⟩
  intro pins s σ Hf0 H0 Hf H ρ I r hs
  unfold fStrM at hs ⊢
  refine PySem.W.methodCall_KW (pl:=pl) (ho.run I r (Ext.refl r.sub) hs fun q v u s1 Hf1 H1 e1 I1 rv x1 rp=>?_) ht
  rw [e1] at hs ⊢
  obtain ⟨z,rfl⟩:=strK_ns hs
  cases rp
  obtain ⟨t,rfl⟩:=rv
  refine hg ?_
  refine Calls.callWith_builtin hpl ?_
  have hs':(g ρ).bind (fun vs=>F (.str z::vs))≠.stuck:=hs
  show wpAny _ _ _ _ (ExP X cl pins σ Hf H ((g ρ).bind fun vs=>F (.str z::vs))) s1
  have run:=ha.run (Q:=fun us s2=>wpAny (model X.prog X.w) X.A (call (Value.builtin id) ([Value.str z t] ++ us)) (OkP X cl pins σ Hf H ((g ρ).bind fun vs=>F (.str z::vs))) (ExP X cl pins σ Hf H ((g ρ).bind fun vs=>F (.str z::vs))) s2) pos I1 (r.keep x1) x1 hs' fun qs vs us s2 Hf2 H2 hq2 e2 I2 rv2 x2 rps=>?_
  · rw [hst] at run ⊢
    exact Calls.evalArgs_plain run
  · rw [e2] at hs' ⊢
    have x12:=x1.trans x2
    exact wpAny_mono (hc pins s2 σ Hf2 H2 (.str z::vs) (.str z t::us) (.str z::qs) I2 x2.sub (.cons ⟨t,rfl⟩ rv2) (.cons (.str z) rps) hs') (fun _ _ q=>q.from (e0:=x12)) fun _ _ q=>q.from (e0:=x12)
end
def boolsP:List PV→Option (List Bool)
  | []=>some []
  | .bl b::r=>(boolsP r).map (b::·)
  | _=>none
def bAll:List PV→R PV
  | [.lst l]=>(match boolsP l with
    | some bs=>.ok (.bl (bs.all id))
    | none=>.stuck)
  | _=>.stuck
def bDivmod:List PV→R PV
  | [.int i,.int j]=>if 0<j∧nb j≤9000 then .ok (.tup [.int (i / j),.int (i % j)]) else if j<0∧nb j≤9000 then .ok (.tup [.int (i.fdiv j),.int (i.fmod j)]) else .stuck
  | _=>.stuck
section
variable {X:Cx}{cl:Nat→Addr}{pins:List (Addr×Obj)}{s:Shared}{σ:SV}{Hf0 H0 Hf H Hf1 H1:Hp}{ρ:MEnv}{α:Type}
inductive BoolsV:List Value→List Bool→Prop
  | nil:BoolsV [] []
  | cons (b:Bool) {vs:List Value}{bs:List Bool}:BoolsV vs bs→BoolsV (.bool b::vs) (b::bs)
theorem BoolsV.get:∀ {vs:List Value}{bs:List Bool},BoolsV vs bs→∀ (i:Nat) (v:Value),vs[i]?=some v→∃ b,bs[i]?=some b∧v = .bool b:=by
  intro vs bs h
  induction h with
  | nil=>intro i v e;simp at e
  | cons b _ ih =>
    intro i v e
    cases i with
    | zero=>simp at e;subst e;exact ⟨b,rfl,rfl⟩
    | succ i=>simpa using ih i v (by simpa using e)
theorem BoolsV.len:∀ {vs:List Value}{bs:List Bool},BoolsV vs bs→vs.length=bs.length:=by
  intro vs bs h
  induction h with
  | nil=>rfl
  | cons b _ ih=>simp [ih]
theorem bools_vals:∀ {l:List PV}{bs:List Bool}{vs:List V}{us:List Value},boolsP l=some bs→Rps X.K cl Hf vs l→Vals vs us→BoolsV us bs
  | [],bs,vs,us,h,r,w=>by
    cases r;cases w
    cases h
    exact .nil
  | p::l,bs,vs,us,h,r,w=>by
    cases r with
    | cons r1 r2 =>
      cases w with
      | cons w1 w2 =>
        cases p<;>first | (simp [boolsP] at h;done) | skip
        rename_i z
        cases r1
        cases w1
        simp only [boolsP,Option.map_eq_some_iff] at h
        obtain ⟨ts',h1,rfl⟩:=h
        exact .cons _ (bools_vals h1 r2 w2)
theorem rng_all (bs:List Bool):((List.range bs.length).all fun i=>(bs[i]?).getD true)=bs.all id:=by
  rw [Bool.eq_iff_iff,List.all_eq_true,List.all_eq_true]
  constructor
  · intro h b hb
    obtain ⟨i,hi,e⟩:=List.getElem_of_mem hb
    have:=h i (List.mem_range.mpr hi)
    simp only [List.getElem?_eq_getElem hi,Option.getD_some,e] at this
    exact this
  · intro h i hi
    have hi':=List.mem_range.mp hi
    simp only [List.getElem?_eq_getElem hi',Option.getD_some]
    exact h _ (List.getElem_mem hi')
theorem kept_it {h':Heap}{s:Shared}{o:Obj} (hk:∀ b x,b ∉ [s.heap.objs.size]→(s.heap.push o).get? b=some x→h'.get? b=some x):∀ b x,s.heap.get? b=some x→h'.get? b=some x :=
  fun b x e=>hk b x (fun hm=>by rw [List.mem_singleton.mp hm] at e;exact Nat.lt_irrefl _ (Heap.lt_size e)) (Heap.get?_push_of_some _ e)
theorem bAll_ns {ps:List PV} (hs:bAll ps≠.stuck):∃ l bs,ps=[.lst l]∧boolsP l=some bs∧bAll ps = .ok (.bl (bs.all id)):=by
  unfold bAll at hs ⊢
  split at hs
  · next l =>
    split at hs
    · next bs e=>exact ⟨l,bs,rfl,e,by simp only [e]⟩
    · exact absurd rfl hs
  · exact absurd rfl hs
theorem c_all (hc:X.calm=true):CalR X cl (.builtin "all") bAll:=by
  intro pins s σ Hf H xs us ps I sm rv rps hs
  obtain ⟨l,bs,rfl,e1,e2⟩:=bAll_ns hs
  rw [e2]
  obtain ⟨v,rfl,rp⟩:=rps1' rps
  cases rp with
  | lst h r =>
    obtain ⟨u,rfl,ru⟩:=rv.one
    cases ru
    obtain ⟨its,wl,pl,z⟩:=I.list (sm.seq h)
    have hb:=bools_vals e1 r wl
    have hl:=pl.isList
    have hlt:=(by obtain ⟨_,e,_⟩:=hl;exact Heap.lt_size e:_<s.heap.objs.size)
    refine call_all_walk (wpAny_pyIter_list hl ?_)
    refine ⟨s.heap.objs.size,[s.heap.objs.size,_],[s.heap.objs.size],its.toArray.size,_,_,fun i=>(bs[i]?).getD true,rfl,Walks.list (A:=X.A.in1) (I.ok.hd hc) _ _ (Nat.ne_of_lt hlt) its.toArray,
      ⟨⟨_,Heap.get?_push_size _ rfl,rfl,rfl⟩,hl.push _⟩,fun i v s' Q' E' hP hQ=>?_,fun h' tk hk=>?_⟩
    · obtain ⟨b,e,rfl⟩:=hb.get i v (by simpa using hP)
      simp only [e,Option.getD_some] at hQ
      exact wpAny_truthy_bool hQ
    · have e:((List.range its.toArray.size).all fun i=>(bs[i]?).getD true)=bs.all id:=by
        rw [List.size_toArray,hb.len];exact rng_all bs
      rw [e]
      exact ⟨_,.bl _,Hf,H,rfl,I.kept (kept_it hk),rfl,Ext.refl sm,.bl _⟩
theorem divmod_ok {i j x y:Int}{t t':Tok} (I:Inv X pins σ H s) (sm:Same Hf H) (h0:j≠0) (hb:nb j≤9000) (e1:i.fdiv j=x) (e2:i.fmod j=y) :
    wpAny (model X.prog X.w) X.A (call (.builtin "divmod") [.int i t,.int j t']) (OkP X cl pins σ Hf H (.ok (.tup [.int x,.int y]))) (ExP X cl pins σ Hf H (.ok (.tup [.int x,.int y]):R PV)) s:=by
  refine divmod_int h0 ?_ (.inl (PyProof.noPylong_of_log2 (log2_of_nb h0 hb)))
  rw [e1,e2]
  have hn:H s.heap.objs.size=none:=I.hok.fresh (Nat.le_refl _)
  have I':Inv X pins σ (upd H s.heap.objs.size (.tup [.int x,.int y])) { s with toks:=s.toks+1+1,heap:=s.heap.push { cls:=.type "tuple",data:=.seq #[.int x s.toks,.int y (s.toks+1)] } } :=
    I.laid (fun b o e=>Heap.get?_push_of_some _ e) (Nat.le_refl _) ⟨by simp only [List.length_cons,List.length_nil];rw [sizeLine_eq];decide,[.int x s.toks,.int y (s.toks+1)],.cons ⟨_,rfl⟩ (.cons ⟨_,rfl⟩ .nil),⟨_,Heap.get?_push_size s.heap rfl,rfl,0,rfl⟩⟩
  exact ⟨_,.ref _,_,_,rfl,I',rfl,Ext.new sm hn _,.tup (SqT.of upd_same) (.cons (.int _) (.cons (.int _) .nil))⟩
theorem c_divmod:CalR X cl (.builtin "divmod") bDivmod:=by
  intro pins s σ Hf H xs us ps I sm rv rps hs
  have:∃ i j,ps=[.int i,.int j]:=by
    unfold bDivmod at hs
    split at hs
    · exact ⟨_,_,rfl⟩
    · exact absurd rfl hs
  obtain ⟨i,j,rfl⟩:=this
  obtain ⟨v,w,rfl,rp,rq⟩:=rps2' rps
  cases rp;cases rq
  obtain ⟨u,w',rfl,⟨t,rfl⟩,⟨t',rfl⟩⟩:=vals2 rv
  by_cases c:0<j∧nb j≤9000
  · have h2:bDivmod [.int i,.int j] = .ok (.tup [.int (i / j),.int (i % j)]):=if_pos c
    rw [h2]
    exact divmod_ok I sm (by omega) c.2 (Int.fdiv_eq_ediv_of_nonneg i (by omega)) (Int.fmod_eq_emod_of_nonneg i (by omega))
  · have h1:bDivmod [.int i,.int j]=if j<0∧nb j≤9000 then .ok (.tup [.int (i.fdiv j),.int (i.fmod j)]) else .stuck:=if_neg c
    rw [h1] at hs
    obtain ⟨c2,h2⟩:=ifOk hs
    rw [h1,h2]
    exact divmod_ok I sm (by omega) c2.2 rfl rfl
theorem vals_ints:∀ {us:List Value}{ns:List Int},IntsAre us ns→Vals (ns.map V.int) us:=by
  intro us ns h
  induction h with
  | nil=>exact .nil
  | cons n t _ ih=>exact .cons ⟨t,rfl⟩ ih
def Cx.at (X:Cx) (A:Around):Cx:={ X with A:=A,calm:=false }
theorem Inv.at {A:Around} (I:Inv X pins σ H s) (hf:A.frames=X.A.frames):Inv (Cx.at X A) pins σ H s :=
  ⟨⟨I.ok.mod,I.ok.kind,I.ok.glob,I.ok.blt,I.ok.above,I.ok.inj,I.ok.has,I.ok.cab,(fun z=>by cases z),hf.trans I.ok.frames,I.ok.stk,I.ok.exf,I.ok.bs,I.ok.bsz,I.ok.noex,I.ok.exfs,I.ok.funs,I.ok.frf⟩,I.os,I.bare,I.base,I.loc,I.cell,I.free,I.freeC,I.pin,I.hok,I.len⟩
theorem Inv.back {A:Around}{pins':List (Addr×Obj)}{σ':SV}{H':Hp}{s':Shared} (ok:X.Ok) (I:Inv (Cx.at X A) pins' σ' H' s'):Inv X pins' σ' H' s' :=
  ⟨ok,I.os,I.bare,I.base,I.loc,I.cell,I.free,I.freeC,I.pin,I.hok,I.len⟩
end
section
variable (X:Cx) (cl:Nat→Addr)
def OkO (pins:List (Addr×Obj)) (Hf0 H0 Hg:Hp) (r:SR) (f:Flow) (s:Shared):Prop:=match f with
  | .ret u=>∃ ps a xs σ Hf H,r = .ret (.lst ps)∧Inv X pins σ H s∧u = .ref a∧Ext Hf0 H0 Hf H∧H a=some (.lst xs)∧Hf a=none∧H0 a=none∧Rps X.K cl Hf xs ps
  | o=>OkS X cl pins Hf0 H0 Hg r o s
end
section
variable {X:Cx}{cl:Nat→Addr}
theorem OkO.from {pins:List (Addr×Obj)}{Hf0 H0 Hg Hg':Hp}{r:SR}{fl:Flow}{s':Shared} (g:Same Hg Hg') (h:OkO X cl pins Hf0 H0 Hg' r fl s'):OkO X cl pins Hf0 H0 Hg r fl s':=by
  cases fl with
  | ret u=>exact h
  | next=>exact OkS.from (fl:=.next) g h
  | brk=>exact OkS.from (fl:=.brk) g h
  | cont=>exact OkS.from (fl:=.cont) g h
end
def bStartswith:List PV→R PV
  | [.str z,.str y]=>.ok (.bl (Txt.startswith z y))
  | _=>.stuck
def bZfill:List PV→R PV
  | [.str z,.int i]=>if PadOk i=true then .ok (.str (Txt.zfill z i)) else .stuck
  | _=>.stuck
def bRstrip:List PV→R PV
  | [.str z,.str y]=>if z.length≤sizeLine then .ok (.str (Txt.rstripChars z y)) else .stuck
  | _=>.stuck
def bPartition:List PV→R PV
  | [.str z,.str y]=>if z.length≤sizeLine∧(y.length == 0)=false then .ok (.tup [.str (Txt.partition z y).1,.str (Txt.partition z y).2.1,.str (Txt.partition z y).2.2]) else .stuck
  | _=>.stuck
section
variable {X:Cx}{cl:Nat→Addr}{pins:List (Addr×Obj)}{s:Shared}{σ:SV}{Hf H:Hp}
theorem two_strs {xs:List V}{us:List Value}{z y:Str} (rv:Vals xs us) (rps:Rps X.K cl Hf xs [.str z,.str y]):∃ t u,us=[.str z t,.str y u]:=by
  obtain ⟨v,w,rfl,rp,rq⟩:=rps2' rps
  cases rp
  cases rq
  cases rv with
  | cons w1 w2 =>
    cases w2 with
    | cons w2 w3 =>
      cases w3
      obtain ⟨t,rfl⟩:=w1
      obtain ⟨u,rfl⟩:=w2
      exact ⟨t,u,rfl⟩
theorem c_startswith:CalR X cl (.builtin "str.startswith") bStartswith:=by
  intro pins s σ Hf H xs us ps I sm rv rps hs
  have:∃ z y,ps=[.str z,.str y]:=by
    unfold bStartswith at hs
    split at hs
    · exact ⟨_,_,rfl⟩
    · exact absurd rfl hs
  obtain ⟨z,y,rfl⟩:=this
  obtain ⟨t,u,rfl⟩:=two_strs rv rps
  exact SC.startswith ⟨_,.bl _,Hf,H,rfl,I,rfl,Ext.refl sm,.bl _⟩
theorem gs_startswith:GetS "startswith" "str.startswith":=GM.startswith
theorem c_zfill:CalR X cl (.builtin "str.zfill") bZfill:=by
  intro pins s σ Hf H xs us ps I sm rv rps hs
  have:∃ z i,ps=[.str z,.int i]∧PadOk i=true∧bZfill ps = .ok (.str (Txt.zfill z i)):=by
    unfold bZfill at hs ⊢
    split at hs
    · obtain ⟨h1,h2⟩:=ifOk hs
      exact ⟨_,_,rfl,h1,h2⟩
    · exact absurd rfl hs
  obtain ⟨z,i,rfl,e1,e2⟩:=this
  rw [e2]
  obtain ⟨v,w,rfl,rp,rq⟩:=rps2' rps
  cases rp
  cases rq
  cases rv with
  | cons w1 w2 =>
    cases w2 with
    | cons w2 w3 =>
      cases w3
      obtain ⟨t,rfl⟩:=w1
      obtain ⟨u,rfl⟩:=w2
      exact SC.zfill e1 fun t' k=>⟨_,.str _,Hf,H,rfl,I.tok _,⟨_,rfl⟩,Ext.refl sm,.str _⟩
theorem gs_zfill:GetS "zfill" "str.zfill":=GM.zfill
theorem c_rstrip:CalR X cl (.builtin "str.rstrip") bRstrip:=by
  intro pins s σ Hf H xs us ps I sm rv rps hs
  have:∃ z y,ps=[.str z,.str y]∧z.length≤sizeLine∧bRstrip ps = .ok (.str (Txt.rstripChars z y)):=by
    unfold bRstrip at hs ⊢
    split at hs
    · obtain ⟨h1,h2⟩:=ifOk hs
      exact ⟨_,_,rfl,h1,h2⟩
    · exact absurd rfl hs
  obtain ⟨z,y,rfl,e1,e2⟩:=this
  rw [e2]
  obtain ⟨t,u,rfl⟩:=two_strs rv rps
  exact SC.rstripChars (fun t' k=>⟨_,.str _,Hf,H,rfl,I.tok _,⟨_,rfl⟩,Ext.refl sm,.str _⟩) e1
theorem gs_rstrip:GetS "rstrip" "str.rstrip":=GM.rstrip
theorem call_partition {prog:Program}{w:World}{A:Around}{E:Value→Shared→Prop}{s:Shared}{x y:Str}{t u:Tok}{Q:Value→Shared→Prop} (hy:(y.length == 0)=false) (hsz:x.length≤sizeLine)
    (h:∀ ta tb tc k,Q (.ref s.heap.objs.size) { s with heap:=s.heap.push { cls:=.type "tuple",data:=.seq [.str (Txt.partition x y).1 ta,.str (Txt.partition x y).2.1 tb,.str (Txt.partition x y).2.2 tc].toArray },toks:=k }) :
    wpAny (model prog w) A (call (.builtin "str.partition") [.str x t,.str y u]) Q E s:=by
  refine call_meets F.slot_str_partition (typeIs_str _ _ _) F.entry_str_partition (F.args_str_partition_2 _ _) (meets_str_partition x y t u hy hsz) ?_
  have h':=h
  unfold Txt.partition at h'
  revert h'
  cases Builtin.Str.occurrences x y 0 x.length 1 with
  | nil=>intro h';exact h' _ _ _ _
  | cons i r=>intro h';exact h' _ _ _ _
theorem c_partition:CalR X cl (.builtin "str.partition") bPartition:=by
  intro pins s σ Hf H xs us ps I sm rv rps hs
  have:∃ z y,ps=[.str z,.str y]∧(z.length≤sizeLine∧(y.length == 0)=false)∧bPartition ps = .ok (.tup [.str (Txt.partition z y).1,.str (Txt.partition z y).2.1,.str (Txt.partition z y).2.2]):=by
    unfold bPartition at hs ⊢
    split at hs
    · obtain ⟨h1,h2⟩:=ifOk hs
      exact ⟨_,_,rfl,h1,h2⟩
    · exact absurd rfl hs
  obtain ⟨z,y,rfl,⟨e0,e1⟩,e2⟩:=this
  rw [e2]
  obtain ⟨t,u,rfl⟩:=two_strs rv rps
  refine call_partition e1 e0 fun ta tb tc k=>?_
  have hf:H s.heap.objs.size=none:=I.hok.fresh (Nat.le_refl _)
  have rps3:Rps X.K cl Hf [.str (Txt.partition z y).1,.str (Txt.partition z y).2.1,.str (Txt.partition z y).2.2] [.str (Txt.partition z y).1,.str (Txt.partition z y).2.1,.str (Txt.partition z y).2.2]:=.cons (.str _) (.cons (.str _) (.cons (.str _) .nil))
  refine laid_seq (tk:=k) hf sm (I.laid (t':=k) (o:=.tup [.str (Txt.partition z y).1,.str (Txt.partition z y).2.1,.str (Txt.partition z y).2.2]) (fun b u e=>Heap.get?_push_of_some _ e) (Nat.le_refl _) ?_) (.tup (SqT.of upd_same) (rps3.keep (same_upd (sm.free hf) _)))
  exact ⟨Nat.le_trans (show 3≤1000 by decide) (by decide),_,.cons ⟨ta,rfl⟩ (.cons ⟨tb,rfl⟩ (.cons ⟨tc,rfl⟩ .nil)),⟨_,Heap.get?_push_size _ rfl,rfl,_,rfl⟩⟩
theorem gs_partition:GetS "partition" "str.partition":=GM.partition
end
def bStr:List PV→R PV
  | [.int a]=>if a.natAbs.log2<1920 then .ok (.str (toString a)) else .stuck
  | [.str z]=>.ok (.str z)
  | _=>.stuck
section
variable {X:Cx}{cl:Nat→Addr}{pins:List (Addr×Obj)}{s:Shared}{σ:SV}{Hf H:Hp}
theorem c_str:CalR X cl (.type "str") bStr:=by
  intro pins s σ Hf H xs us ps I sm rv rps hs
  have:(∃ a,ps=[.int a]∧a.natAbs.log2<1920∧bStr ps = .ok (.str (toString a)))∨(∃ z,ps=[.str z]):=by
    unfold bStr at hs ⊢
    split at hs
    · obtain ⟨h1,h2⟩:=ifOk hs
      exact .inl ⟨_,rfl,h1,h2⟩
    · exact .inr ⟨_,rfl⟩
    · exact absurd rfl hs
  rcases this with ⟨a,rfl,h1,h2⟩ | ⟨z,rfl⟩
  · rw [h2]
    obtain ⟨v,rfl,rp⟩:=rps1' rps
    cases rp
    obtain ⟨u,rfl,ru⟩:=rv.one
    obtain ⟨t,rfl⟩:=ru
    exact PySem.P.str_of_int h1 ⟨_,.str _,Hf,H,rfl,I.tok _,⟨_,rfl⟩,Ext.refl sm,.str _⟩
  · obtain ⟨v,rfl,rp⟩:=rps1' rps
    cases rp
    obtain ⟨u,rfl,ru⟩:=rv.one
    obtain ⟨t,rfl⟩:=ru
    exact PySem.P.str_of_str ⟨_,.str _,Hf,H,rfl,I,⟨_,rfl⟩,Ext.refl sm,.str _⟩
end
def signV (x:Str):List V:=x.cps.toList.map fun c=>V.str ⟨#[c]⟩
def signP (x:Str):List PV:=x.cps.toList.map fun c=>PV.str ⟨#[c]⟩
def Its (x:Str):It:=⟨fun i _=>i<(signV x).length,fun i H y H'=>H'=H∧(signV x)[i]?=some y,fun i _=>(signV x).length≤i⟩
section
variable {X:Cx}{cl:Nat→Addr}{pins:List (Addr×Obj)}{s:Shared}{σ:SV}{Hf H:Hp}
theorem signs_rps {K:PySem.W.Frag} (x:Str):Rps K cl Hf (signV x) (signP x):=by
  unfold signV signP
  induction x.cps.toList with
  | nil=>exact .nil
  | cons c r ih=>exact .cons (.str _) ih
theorem turn_str {P:Program}{w:World}{K:PySem.W.Frag}{tg:Expr} (it:Addr) (x:Str) (t:Tok):Turn P w K tg (Its x) [it] it (fun i h=>h.IsStrIter it (strIterType x) x t i) where
  mem:=by simp
  obj:=fun i h st b hb=>by
    have e:b=it:=by simpa using hb
    subst e
    obtain ⟨o,e,c,d⟩:=st
    exact ⟨o,e,fun v z=>by rw [d] at z;cases z⟩
  keep:=fun i h h' st k=>by
    obtain ⟨o,e,c,d⟩:=st
    exact ⟨o,k it (by simp) o e,c,d⟩
  item:=by
    intro X hP hw hK hc i pins s σ H E I hf st hg
    subst hP hw hK
    have hi:i<x.cps.toList.length:=by have:i<(signV x).length:=hg;simpa [signV] using this
    have hx:x.cps[i]?=some x.cps.toList[i]:=by simp [hi]
    obtain ⟨f0,f1,f2,f3,f4,f5⟩:=hf it (by simp)
    have fin:∀ (ty:String) (h':Heap),["enumerate","zip","dict_itemiterator","dict_reverseitemiterator","odict_iterator","itertools.zip_longest","itertools.pairwise"].contains ty=false→strIterType x=ty→h'.IsStrIter it ty x t (i+1)→Heap.SameBut it s.heap h'→(∃ u,some (Value.str ⟨#[x.cps.toList[i]]⟩ s.toks)=some u ∧
        wpAny (model X.prog X.w) X.A (letOwnedTupleGo tg (.ref it) u) (fun _ s2=>∃ y H',Inv X pins σ H' s2∧RelV y u∧(Its x).yld i H y H'∧(fun i h=>h.IsStrIter it (strIterType x) x t i) (i+1) s2.heap∧∀ b∈[it],H' b=none) E { s with heap:=h',toks:=s.toks+1 }):=fun ty h' hn et st' sb=>by
      have I1:Inv X pins σ H { s with heap:=h',toks:=s.toks+1 }:=I.turned (t':=s.toks+1) (fun b o hb e=>(sb.2 b hb).trans e) f0 f1 f3 f4 f5
      obtain ⟨o,e,c,d⟩:=id st'
      refine ⟨_,rfl,go_of (s:={ s with heap:=h',toks:=s.toks+1 }) e c d hn ⟨.str ⟨#[x.cps.toList[i]]⟩,H,I1,⟨_,rfl⟩,⟨rfl,?_⟩,?_,fun b hb=>(hf b hb).1⟩⟩
      · unfold signV
        rw [List.getElem?_map,List.getElem?_eq_getElem hi]
        rfl
      · show h'.IsStrIter it (strIterType x) x t (i+1)
        rw [et];exact st'
    cases ha:x.cps.all (·<128)
    · have et:strIterType x="str_iterator":=by simp [strIterType,ha]
      have st2:s.heap.IsStrIter it "str_iterator" x t i:=by rw [← et];exact st
      exact wpAny_pyNext_wide_item st2 hx fun h' st' sb=>fin _ h' (by decide) et st' sb
    · have et:strIterType x="str_ascii_iterator":=by simp [strIterType,ha]
      have st2:s.heap.IsStrIter it "str_ascii_iterator" x t i:=by rw [← et];exact st
      exact wpAny_pyNext_ascii_item st2 hx fun h' st' sb=>fin _ h' (by decide) et st' sb
  done:=by
    intro X hP hw hK hc i pins s σ H E I hf st hg
    subst hP hw hK
    have hi:x.cps.toList.length≤i:=by have:(signV x).length≤i:=hg;simpa [signV] using this
    have hx:x.cps[i]?=none:=by simp;simpa using hi
    obtain ⟨f0,f1,f2,f3,f4,f5⟩:=hf it (by simp)
    cases ha:x.cps.all (·<128)
    · have et:strIterType x="str_iterator":=by simp [strIterType,ha]
      have st2:s.heap.IsStrIter it "str_iterator" x t i:=by rw [← et];exact st
      exact wpAny_pyNext_wide_end (I.ok.hd hc) st2 hx fun h' eb=>⟨rfl,I.turned (t':=s.toks) (fun b o hb e=>eb b o hb e) f0 f1 f3 f4 f5⟩
    · have et:strIterType x="str_ascii_iterator":=by simp [strIterType,ha]
      have st2:s.heap.IsStrIter it "str_ascii_iterator" x t i:=by rw [← et];exact st
      exact wpAny_pyNext_ascii_end (I.ok.hd hc) st2 hx fun h' eb=>⟨rfl,I.turned (t':=s.toks) (fun b o hb e=>eb b o hb e) f0 f1 f3 f4 f5⟩
  self:=fun A i s Q E st h=>by
    cases ha:x.cps.all (·<128)
    · have et:strIterType x="str_iterator":=by simp [strIterType,ha]
      have st2:s.heap.IsStrIter it "str_iterator" x t i:=by rw [← et];exact st
      exact wpAny_pyIter_striter_wide st2 h
    · have et:strIterType x="str_ascii_iterator":=by simp [strIterType,ha]
      have st2:s.heap.IsStrIter it "str_ascii_iterator" x t i:=by rw [← et];exact st
      exact wpAny_pyIter_striter_ascii st2 h
theorem over_str {x:Str}{Hg:Hp}:Over (Its x) Hg (signV x):=fun H i sm=>⟨fun hi=>⟨hi,fun y H' q=>q⟩,fun hi=>hi⟩
theorem mi_str {tg iter:Expr}{f:FE} (h:ME X cl iter f):MI X cl tg iter (iStr f):=by
  refine ⟨?_⟩
  intro pins s σ Hf0 H0 Hf H ρ I r hs
  unfold iStr at hs ⊢
  refine h.run I r (Ext.refl r.sub) hs fun p v u s1 Hf1 H1 e1 I1 rv x1 rp=>?_
  rw [e1] at hs ⊢
  cases p<;>first
    | exact absurd rfl hs
    | skip
  rename_i z
  cases rp
  obtain ⟨t,rfl⟩:=rv
  refine wpAny_pyIter_strU ?_
  refine ⟨signP z,signV z,Hf1,rfl,s1.heap.objs.size,[s1.heap.objs.size],_,_,H1,rfl,I1.kept (t':=s1.toks) fun b o e=>Heap.get?_push_of_some _ e,turn_str _ z t,⟨_,Heap.get?_push_size _ rfl,rfl,rfl⟩,fun b hb=>?_,x1,over_str,signs_rps z⟩
  have e:b=s1.heap.objs.size:=by simpa using hb
  subst e
  exact I1.fpOk (Nat.le_refl _) (I1.hok.fresh (Nat.le_refl _))
end
open PySem.Calls PySem.NumText
theorem maxDigits {M:Model}{A:Around}{E:Value→Shared→Prop}{s:Shared}{Q:Nat→Shared→Prop} (hn:s.heap.NoDigits) (h:Q 4300 s):wpAny M A Builtin.intMaxStrDigits Q E s:=by
  obtain ⟨mc,hns,hnone⟩:=hn
  unfold Builtin.intMaxStrDigits
  refine wpAny_bind (wpAny_nsGet hns ?_)
  rw [hnone]
  exact wpAny_pure h
theorem wp_textL {M:Model}{A:Around}{E:Value→Shared→Prop}{s:Shared}{Q:Value→Shared→Prop}{v:Value}{text:List Nat}{n:Int} (hn:s.heap.NoDigits)
    (hs:¬ (text.takeWhile (· != 0)).length≤640) (hr:(int_private% "readNumeral") 4300 10 (text.takeWhile (· != 0))=(int_private% "Numeral.value") n)
    (ha:((text.takeWhile (· != 0)).length == text.length)=true) (h:Q (.int n s.toks) { s with toks:=s.toks+1 }) :
    wpAny M A ((int_private% "intFromText") v text 10) Q E s:=by
  obtain ⟨hp,g,d,tk,os⟩:=s
  repeat (any_goals (first
    | assumption
    | (with_reducible refine wpAny_ite_false (decide_eq_false hs) ?_)
    | (with_reducible refine wpAny_ite_true (decide_eq_true ha) ?_)
    | (with_reducible refine maxDigits hn ?_)
    | wp_step))
  all_goals (try rw [hr])
  all_goals (try dsimp only)
  repeat (any_goals (first
    | assumption
    | (with_reducible refine wpAny_ite_true (decide_eq_true ha) ?_)
    | wp_step))
structure Hd (p:Prop):Prop where
  out:p
theorem meets_textL {x:PySem.Str}{u:Tok}{n:Int} (hx:x.length≤sizeLine) (hl:¬ (numSeenOf x).length≤640) (hn:PySem.intText? x=some n) :
    Meets (Builtin.«int.__new__» ⟨[.type "int",.str x u],[]⟩) (fun _ R s=>s.heap.NoDigits∧R (.ok (.ret (.int n s.toks))) { s with toks:=s.toks+1 }) :=
  .of_wp fun prog w A R s h=>by
    obtain ⟨hp,g,d,tk,os⟩:=s
    obtain ⟨nd,h⟩:=h
    have f1:=F.conv_sub_int
    have f2:=F.madeHere_int
    have f3:=PySem.W.KIN.str_int
    have f4:=PySem.W.KIN.str_idx
    have f5:=PySem.W.KIN.str_trunc
    have f6:typeOf (.str x u)=pure (.type "str"):=rfl
    have hr:(int_private% "readNumeral") 4300 10 (numSeenOf x)=(int_private% "Numeral.value") n∧((numSeenOf x).length == (numTextOf x).length)=true:=by
      rcases read4300 x hx with ⟨m,h1,h2,h3⟩ | ⟨h1,_⟩
      · rw [hn] at h1
        injection h1 with h1
        subst h1
        exact ⟨h3,h2⟩
      · rw [hn] at h1
        cases h1
    have hk:=Hd.mk (And.intro hl hr)
    clear hr hl hn
    repeat (any_goals (first
      | assumption
      | ((with_reducible show wpAny _ _ ((int_private% "intFromText") _ _ _) _ _ _);refine wp_textL nd hk.out.1 hk.out.2.1 hk.out.2.2 ?_)
      | wp_step))
    all_goals first | exact h | exact ⟨_,rfl,h⟩ | skip
theorem meets_textS {x:PySem.Str}{u:Tok}{n:Int} (hs:(numSeenOf x).length≤640) (hn:PySem.intText? x=some n) :
    Meets (Builtin.«int.__new__» ⟨[.type "int",.str x u],[]⟩) (fun _ R s=>s.heap.NoDigits∧R (.ok (.ret (.int n s.toks))) { s with toks:=s.toks+1 }) :=
  .of_wp fun prog w A R s h=>by
    obtain ⟨hp,g,d,tk,os⟩:=s
    obtain ⟨nd,h⟩:=h
    have f1:=F.conv_sub_int
    have f2:=F.madeHere_int
    have f3:=PySem.W.KIN.str_int
    have f4:=PySem.W.KIN.str_idx
    have f5:=PySem.W.KIN.str_trunc
    have f6:typeOf (.str x u)=pure (.type "str"):=rfl
    have hr:(int_private% "readNumeral") 0 10 (numSeenOf x)=(int_private% "Numeral.value") n∧((numSeenOf x).length == (numTextOf x).length)=true:=by
      rcases read0 x hs with ⟨m,h1,h2,h3⟩ | ⟨h1,_⟩
      · rw [hn] at h1
        injection h1 with h1
        subst h1
        exact ⟨h3,h2⟩
      · rw [hn] at h1
        cases h1
    have hk:=Hd.mk (And.intro hs hr)
    clear hs hr hn
    repeat (any_goals (first
      | assumption
      | ((with_reducible show wpAny _ _ ((int_private% "intFromText") _ _ _) _ _ _);refine PySem.W.KIN.wp_text hk.out.1 hk.out.2.1 hk.out.2.2 ?_)
      | wp_step))
    all_goals first | exact h | exact ⟨_,rfl,h⟩ | skip
theorem call_textA {prog:Program}{w:World}{A:Around}{E:Value→Shared→Prop}{s:Shared}{Q:Value→Shared→Prop}{x:PySem.Str}{t:Tok}{n:Int} (hx:x.length≤sizeLine) (nd:s.heap.NoDigits) (hn:PySem.intText? x=some n)
    (h:Q (.int n s.toks) { s with toks:=s.toks+1 }):wpAny (model prog w) A (call (.type "int") [.str x t]) Q E s:=by
  by_cases c:(numSeenOf x).length≤640
  · exact call_int_1 (meets_textS c hn) ⟨nd,typeIs_int _ _ _,h⟩
  · exact call_int_1 (meets_textL hx c hn) ⟨nd,typeIs_int _ _ _,h⟩
def bIntL:List PV→R PV
  | [.str z]=>if z.length≤sizeLine then (match PySem.intText? z with | some n=>.ok (.int n) | none=>.stuck) else .stuck
  | _=>.stuck
theorem c_intL {X:Cx}{cl:Nat→Addr} (nd:X.base.NoDigits):CalR X cl (.type "int") bIntL:=by
  intro pins s σ Hf H xs us ps I sm rv rps hs
  have:∃ z n,ps=[.str z]∧z.length≤sizeLine∧PySem.intText? z=some n∧bIntL ps = .ok (.int n):=by
    unfold bIntL at hs ⊢
    split at hs
    · next z =>
      by_cases c:z.length≤sizeLine
      · rw [if_pos c] at hs
        simp only [if_pos c]
        split at hs
        · next n e=>exact ⟨z,n,rfl,c,e,by simp only [e]⟩
        · exact absurd rfl hs
      · rw [if_neg c] at hs
        exact absurd rfl hs
    · exact absurd rfl hs
  obtain ⟨z,n,rfl,h1,h2,h3⟩:=this
  rw [h3]
  obtain ⟨v,rfl,rp⟩:=rps1' rps
  cases rp
  obtain ⟨u,rfl,ru⟩:=rv.one
  obtain ⟨t,rfl⟩:=ru
  exact call_textA h1 (nd.keeps I.bk) h2 ⟨_,.int _,Hf,H,rfl,I.tok _,⟨_,rfl⟩,Ext.refl sm,.int _⟩
end Mi
namespace Mi
open PySem PySem.Spec PyProof.Rows L2
theorem nodig_of {K:PySem.W.Frag}{h:Heap} (X:K.In h) (e:PySem.W.nsOkIn K cStatics=true) (q:PySem.W.nsIn K cStatics "sys.int_max_str_digits"=some none):h.NoDigits :=
  ⟨_,.of_isNs (PySem.W.isNs_of_in X e),PySem.W.nsMap_none_of_in X e q⟩
open PySem.Builtin PySem.Builtin.Str PySem.Builtin.Int
section
variable {p:Program}{w:World}{A:Around}{E:Value→Shared→Prop}{s:Shared}{a:Int}{t:Tok}{Q:Value→Shared→Prop}
theorem repr_lt (nd:s.heap.NoDigits) (lt:a.natAbs<10 ^ 4300) (k:Q (.str (toString a) s.toks) { s with toks:=s.toks+1 }):wpAny (model p w) A (call (.builtin "int.__repr__") [.int a t]) Q E s:=by
  refine wpAny_call_entry F.slot_int_repr (typeIs_int s a t)
    F.entry_int_repr ?_ (F.args_int_repr_1 _)
  unfold Builtin.«int.__repr__»
  show wpAny _ _ (do let r ← Builtin.overDigitLimit? a;_) _ _ s
  exact wpAny_bind (overDigitLimit_any nd (fun q=>wpAny_bind (wpAny_mkStr
    (wpAny_pure ⟨_,rfl,k⟩) (int_text_fits10 q))) (fun q=>absurd lt (Nat.not_lt.mpr q)))
theorem strOf_lt (nd:s.heap.NoDigits) (lt:a.natAbs<10 ^ 4300) (k:Q (.str (toString a) s.toks) { s with toks:=s.toks+1 }):wpAny (model p w) A (Builtin.Str.strOf (.int a t)) Q E s:=by
  have ex:isExactStr (.int a t)=false:=rfl
  have oh:[Value.int a t].any Value.onHeap=false:=rfl
  unfold Builtin.Str.strOf
  rw [ex]
  try simp only [cRoomFor,oh,Bool.false_eq_true,if_false,pure_bind]
  refine wpAny_bind (m:=callSpecial? (.int a t) (Str.ofString "__str__"))
    (wpAny_callSpecial?_slot (name:=Str.ofString "__str__") (typeIs_int s a t) F.slot_int_str
      (wpAny_call_entry F.slot_int_str (typeIs_int s a t) entry_object_str ?_ (args_object_str _)))
  unfold Builtin.«object.__str__»
  refine wpAny_bind (m:=slotArgs "__str__" 0 _)
    (wpAny_pure ?_)
  try simp only [cRoomFor,oh,Bool.false_eq_true,if_false,pure_bind]
  exact wpAny_bind (m:=callSpecialIfBound? (.int a t) (Str.ofString "__repr__"))
    (wpAny_callSpecialIfBound?_slot (name:=Str.ofString "__repr__") (typeIs_int s a t) F.slot_int_repr
      (repr_lt nd lt (wpAny_pure ⟨_,rfl,wpAny_pure k⟩)))
theorem str_lt (nd:s.heap.NoDigits) (lt:a.natAbs<10 ^ 4300) (k:Q (.str (toString a) s.toks) { s with toks:=s.toks+1 }):wpAny (model p w) A (call (.type "str") [.int a t]) Q E s :=
  callType_new F.called_str (by decide) (F.typeCall_str_1 _)
    (F.newCall_str_1 _) (fun o=>F.args_object_init_2 o _) F.entry_str_new
    (meets_str_new (S:=fun _ R s=>s.heap.NoDigits∧R (.ok (.ret (.str (toString a) s.toks))) { s with toks:=s.toks+1 })
      fun _ _ _ _ _ hq=>strOf_lt hq.1 lt hq.2)
    ⟨nd,typeIs_str _ _ _,k⟩
end
def bStrL:List PV→R PV
  | [.int a]=>if a.natAbs<10 ^ 4300 then .ok (.str (toString a)) else .stuck
  | _=>.stuck
theorem c_strL {X:Cx}{cl:Nat→Addr} (nd:X.base.NoDigits):CalR X cl (.type "str") bStrL:=by
  intro pins s σ Hf H xs us ps I sm rv rps hs
  have:∃ a,ps=[.int a]∧a.natAbs<10 ^ 4300∧bStrL ps = .ok (.str (toString a)):=by
    unfold bStrL at hs ⊢
    split at hs
    · obtain ⟨h1,h2⟩:=ifOk hs
      exact ⟨_,rfl,h1,h2⟩
    · exact absurd rfl hs
  obtain ⟨a,rfl,h1,h2⟩:=this
  rw [h2]
  obtain ⟨v,rfl,rp⟩:=rps1' rps
  cases rp
  obtain ⟨u,rfl,ru⟩:=rv.one
  obtain ⟨t,rfl⟩:=ru
  exact str_lt (nd.keeps I.bk) h1 ⟨_,.str _,Hf,H,rfl,I.tok _,⟨_,rfl⟩,Ext.refl sm,.str _⟩
end Mi
namespace Mi
open PySem PySem.Spec PyProof.Rows L2
def txtP:PV→Option Str
  | .str x=>if x.length≤1000000 then some x else none
  | .int i=>if i.natAbs<18446744073709551616 then some (Str.ofString (toString i)) else none
  | _=>none
abbrev FW:=MEnv→Option Str
def wStr (x:Str):FW:=fun _=>some x
def wFmt (g:FE):FW:=fun ρ=>match g ρ with
  | .ok p=>txtP p
  | _=>none
def wNil:FW:=fun _=>some Str.empty
def wCons (f g:FW):FW:=fun ρ=>(f ρ).bind fun x=>(g ρ).bind fun y=>some (x ++ y)
def fJoined (f:FW):FE:=fun ρ=>match f ρ with
  | some y=>if y.length≤1000000 then .ok (.str y) else .stuck
  | none=>.stuck
section
variable {X:Cx}{cl:Nat→Addr}
structure MF1 (X:Cx) (cl:Nat→Addr) (e:Expr) (f:FW):Prop where
  run:∀ (pins:List (Addr×Obj)) (s:Shared) (σ:SV) (Hf0 H0 Hf H:Hp) (ρ:MEnv) (E:Value→Shared→Prop) (x:Str),Inv X pins σ H s→Rep X.K cl Hf0 H0 Hf H σ ρ→f ρ=some x →
    wpAny (model X.prog X.w) X.A (eval e X.env) (fun u s'=>∃ t Hf' H',u = .str x t∧Inv X pins σ H' s'∧Ext Hf H Hf' H') E s
theorem mf1_str {x:Str}{j:Nat}{pos:Pos}:MF1 X cl (.Constant (.str x) j pos) (wStr x):=⟨fun pins s σ Hf0 H0 Hf H ρ E y I r h=>by
  cases h
  exact Calls.Constant_str ⟨_,Hf,H,rfl,I.tok _,Ext.refl r.sub⟩⟩
theorem mf1_fmt {e:Expr}{g:FE}{pos:Pos} (he:ME X cl e g):MF1 X cl (.FormattedValue e (-1) none pos) (wFmt g):=by
  refine ⟨?_⟩
  intro pins s σ Hf0 H0 Hf H ρ E x I r h
  have:∃ p,g ρ = .ok p∧txtP p=some x:=by
    unfold wFmt at h
    split at h
    · next p q=>exact ⟨p,q,h⟩
    · cases h
  obtain ⟨p,ep,tp⟩:=this
  refine FormattedValue_plain (wpAny_mono (he pins s σ Hf0 H0 Hf H ρ I r (by rw [ep];intro z;cases z)) (fun u s1 q=>?_) fun u s1 q=>?_)
  · obtain ⟨p',v,Hf1,H1,e1,I1,rv,x1,rp⟩:=q
    rw [ep] at e1;cases e1
    unfold txtP at tp
    split at tp
    · next z =>
      split at tp
      · next hz =>
        cases tp
        cases rp
        obtain ⟨t,rfl⟩:=rv
        exact formatField_str (fun t' tk=>⟨t',Hf1,H1,rfl,I1.tok _,x1⟩) (Nat.le_trans hz (by decide))
      · cases tp
    · next i =>
      split at tp
      · next hi =>
        cases tp
        cases rp
        obtain ⟨t,rfl⟩:=rv
        have hl:i.natAbs.log2<1920:=by
          by_cases h0:i.natAbs=0
          · rw [h0];decide
          · have:=(Nat.log2_lt h0).mpr (show i.natAbs<2 ^ 64 from hi)
            omega
        exact formatField_int_small hl ⟨_,Hf1,H1,rfl,I1.tok _,x1⟩
      · cases tp
    · cases tp
  · obtain ⟨c,e1,_⟩:=q
    rw [ep] at e1;cases e1
structure MFs (X:Cx) (cl:Nat→Addr) (es:List Expr) (f:FW):Prop where
  run:∀ (pins:List (Addr×Obj)) (s:Shared) (σ:SV) (Hf0 H0 Hf H:Hp) (ρ:MEnv) (E:Value→Shared→Prop) (acc y:Str) (Q:Str→Shared→Prop),Inv X pins σ H s→Rep X.K cl Hf0 H0 Hf H σ ρ→f ρ=some y→acc.length+y.length≤sizeLine →
    (∀ s' Hf' H',Inv X pins σ H' s'→Ext Hf H Hf' H'→Q (acc ++ y) s')→Joins (model X.prog X.w) X.A E (evalEach es X.env) acc Q s
theorem str_assoc (a b c:Str):a ++ b ++ c=a ++ (b ++ c):=by
  show Str.mk (a.cps ++ b.cps ++ c.cps)=Str.mk (a.cps ++ (b.cps ++ c.cps))
  rw [Array.append_assoc]
theorem str_nil (a:Str):a ++ Str.empty=a:=by
  show Str.mk (a.cps ++ #[])=a
  rw [Array.append_empty]
theorem mfs_nil:MFs X cl [] wNil:=⟨fun pins s σ Hf0 H0 Hf H ρ E acc y Q I r h _ k=>by
  cases h
  have:=k s Hf H I (Ext.refl r.sub)
  rw [str_nil] at this
  exact this⟩
theorem mfs_cons {e:Expr}{es:List Expr}{f g:FW} (h:MF1 X cl e f) (ht:MFs X cl es g) (he:evalEach (e::es) X.env=eval e X.env::evalEach es X.env:=by rfl):MFs X cl (e::es) (wCons f g):=by
  refine ⟨?_⟩
  intro pins s σ Hf0 H0 Hf H ρ E acc y Q I r hy hz k
  have:∃ a b,f ρ=some a∧g ρ=some b∧a ++ b=y:=by
    unfold wCons at hy
    cases ef:f ρ with
    | none=>rw [ef] at hy;cases hy
    | some a =>
      rw [ef] at hy
      cases eg:g ρ with
      | none=>rw [eg] at hy;cases hy
      | some b=>rw [eg] at hy;cases hy;exact ⟨a,b,rfl,rfl,rfl⟩
  obtain ⟨a,b,ea,eb,rfl⟩:=this
  rw [he]
  have e2:(a ++ b).length=a.length+b.length:=strLen_append ..
  have e1:(acc ++ a).length=acc.length+a.length:=strLen_append ..
  refine wpAny_mono (h.run pins s σ Hf0 H0 Hf H ρ E a I r ea) (fun u s1 q=>?_) fun _ _ z=>z
  obtain ⟨t,Hf1,H1,rfl,I1,x1⟩:=q
  refine ⟨a,t,rfl,by omega,ht.run pins s1 σ Hf0 H0 Hf1 H1 ρ E (acc ++ a) b Q I1 (r.keep x1) eb (by omega) fun s' Hf' H' I' x'=>?_⟩
  rw [str_assoc]
  exact k s' Hf' H' I' (x1.trans x')
theorem me_fstr {a b:Expr}{es:List Expr}{f:FW}{pos:Pos} (h:MFs X cl (a::b::es) f):ME X cl (.JoinedStr (a::b::es) pos) (fJoined f):=by
  refine ⟨?_⟩
  intro pins s σ Hf0 H0 Hf H ρ I r hs
  have:∃ y,f ρ=some y∧y.length≤1000000∧fJoined f ρ = .ok (.str y):=by
    unfold fJoined at hs ⊢
    cases ef:f ρ with
    | none=>rw [ef] at hs;exact absurd rfl hs
    | some y =>
      rw [ef] at hs
      obtain ⟨h1,h2⟩:=ifOk hs
      exact ⟨y,rfl,h1,by simp only [if_pos h1]⟩
  obtain ⟨y,ey,hy,e1⟩:=this
  rw [e1]
  have h0:(Str.empty).length=0:=rfl
  have hb:y.length≤sizeLine:=Nat.le_trans hy (by decide)
  have en:Str.empty ++ y=y:=by
    show Str.mk (#[] ++ y.cps)=y
    rw [Array.empty_append]
  refine wpAny_JoinedStr (h.run pins s σ Hf0 H0 Hf H ρ _ _ y _ I r ey (by rw [h0];omega) fun s' Hf' H' I' x'=>?_)
  rw [en]
  exact ⟨hb,_,.str _,Hf',H',rfl,I'.tok _,⟨_,rfl⟩,x',.str _⟩
end
end Mi
namespace Mi
open PySem
theorem fVar_e (i:Nat) (x0:Option PV) (ρ0:MEnv):fVar i (x0::ρ0)=getV (x0::ρ0) i:=rfl
theorem getV_0 (o:Option PV) (r:MEnv):getV (o::r) 0=asVal o:=rfl
theorem getV_s (o:Option PV) (r:MEnv) (n:Nat):getV (o::r) (n+1)=getV r n:=rfl
theorem asVal_int (i:Int):asVal (some (.int i)) = .ok (.int i):=rfl
theorem asVal_bl (i:Bool):asVal (some (.bl i)) = .ok (.bl i):=rfl
theorem asVal_str (i:Str):asVal (some (.str i)) = .ok (.str i):=rfl
theorem asVal_non:asVal (some .non) = .ok .non:=rfl
theorem asVal_tup (l:List PV):asVal (some (.tup l)) = .ok (.tup l):=rfl
theorem asVal_lst (l:List PV):asVal (some (.lst l)) = .ok (.lst l):=rfl
theorem asVal_exc (c:Nat):asVal (some (.exc c)) = .ok (.exc c):=rfl
theorem asVal_dic0:asVal (some .dic0) = .ok .dic0:=rfl
theorem fC_e (v:PV) (x0:Option PV) (ρ0:MEnv):fC v (x0::ρ0) = .ok v:=rfl
theorem fBin_e (o:PV→PV→R PV) (a b:FE) (x0:Option PV) (ρ0:MEnv):fBin o a b (x0::ρ0)=(a (x0::ρ0)).bind fun x=>(b (x0::ρ0)).bind fun y=>o x y:=rfl
theorem fUn_e (o:PV→R PV) (a:FE) (x0:Option PV) (ρ0:MEnv):fUn o a (x0::ρ0)=(a (x0::ρ0)).bind o:=rfl
theorem oBool_e (b:Bool):oBool (.bl b) = .ok b:=rfl
theorem fAnd_e (a b:FE) (x0:Option PV) (ρ0:MEnv):fAnd a b (x0::ρ0)=(a (x0::ρ0)).bind fun x=>(oBool x).bind fun c=>if c then b (x0::ρ0) else .ok (.bl false):=rfl
theorem fOr_e (a b:FE) (x0:Option PV) (ρ0:MEnv):fOr a b (x0::ρ0)=(a (x0::ρ0)).bind fun x=>(oBool x).bind fun c=>if c then .ok (.bl true) else b (x0::ρ0):=rfl
theorem fNot_e (a:FE) (x0:Option PV) (ρ0:MEnv):fNot a (x0::ρ0)=(a (x0::ρ0)).bind fun x=>(oBool x).bind fun c=>.ok (.bl (!c)):=rfl
theorem fChain_e (o o':PV→PV→R PV) (a b c:FE) (x0:Option PV) (ρ0:MEnv):fChain o o' a b c (x0::ρ0)=(a (x0::ρ0)).bind fun x=>(b (x0::ρ0)).bind fun y=>(o x y).bind fun r=>(oBool r).bind fun k =>
  if k then (c (x0::ρ0)).bind fun z=>o' y z else .ok (.bl false):=rfl
theorem fIf_e (t:FT) (a b:FE) (x0:Option PV) (ρ0:MEnv):fIf t a b (x0::ρ0)=(t (x0::ρ0)).bind fun c=>if c then a (x0::ρ0) else b (x0::ρ0):=rfl
theorem aNil_e (x0:Option PV) (ρ0:MEnv):aNil (x0::ρ0) = .ok []:=rfl
theorem aCons_e (a:FE) (r:FA) (x0:Option PV) (ρ0:MEnv):aCons a r (x0::ρ0)=(a (x0::ρ0)).bind fun x=>(r (x0::ρ0)).bind fun xs=>.ok (x::xs):=rfl
def mkTup (xs:List PV):R PV:=if xs.length≤sizeLine then .ok (.tup xs) else .stuck
def mkLst (xs:List PV):R PV:=if xs.length≤sizeLine then .ok (.lst xs) else .stuck
theorem sizeLine_ge:1000≤sizeLine:=by decide
theorem fTup_e (a:FA) (x0:Option PV) (ρ0:MEnv):fTup a (x0::ρ0)=(a (x0::ρ0)).bind mkTup:=rfl
theorem fLst_e (a:FA) (x0:Option PV) (ρ0:MEnv):fLst a (x0::ρ0)=(a (x0::ρ0)).bind mkLst:=rfl
theorem small_le (n:Nat) (h:n≤1000):n≤sizeLine:=Nat.le_trans h sizeLine_ge
theorem fCall_e (F:List PV→R PV) (a:FA) (x0:Option PV) (ρ0:MEnv):fCall F a (x0::ρ0)=(a (x0::ρ0)).bind F:=rfl
theorem fIsinst_e (t:Ty) (a:FE) (x0:Option PV) (ρ0:MEnv):fIsinst t a (x0::ρ0)=(a (x0::ρ0)).bind fun x=>match isTy x t with | some b=>.ok (.bl b) | none=>.stuck:=rfl
theorem tVal_e (a:FE) (x0:Option PV) (ρ0:MEnv):tVal a (x0::ρ0)=(a (x0::ρ0)).bind truthP:=rfl
theorem truth_bl (b:Bool):truthP (.bl b) = .ok b:=rfl
theorem truth_int (i:Int):truthP (.int i) = .ok (i != 0):=rfl
theorem truth_non:truthP .non = .ok false:=rfl
theorem tAnd_e (a b:FT) (x0:Option PV) (ρ0:MEnv):tAnd a b (x0::ρ0)=(a (x0::ρ0)).bind fun c=>if c then b (x0::ρ0) else .ok false:=rfl
theorem tOr_e (a b:FT) (x0:Option PV) (ρ0:MEnv):tOr a b (x0::ρ0)=(a (x0::ρ0)).bind fun c=>if c then .ok true else b (x0::ρ0):=rfl
theorem tNot_e (a:FT) (x0:Option PV) (ρ0:MEnv):tNot a (x0::ρ0)=(a (x0::ρ0)).bind fun c=>.ok (!c):=rfl
theorem mkTup_s (xs:List PV) (h:xs.length≤1000):mkTup xs = .ok (.tup xs):=if_pos (small_le _ h)
theorem mkLst_s (xs:List PV) (h:xs.length≤1000):mkLst xs = .ok (.lst xs):=if_pos (small_le _ h)
theorem mkTup_1 (a:PV):mkTup [a] = .ok (.tup [a]):=mkTup_s _ (by simp)
theorem mkTup_2 (a b:PV):mkTup [a,b] = .ok (.tup [a,b]):=mkTup_s _ (by simp)
theorem mkTup_3 (a b c:PV):mkTup [a,b,c] = .ok (.tup [a,b,c]):=mkTup_s _ (by simp)
theorem mkTup_4 (a b c d:PV):mkTup [a,b,c,d] = .ok (.tup [a,b,c,d]):=mkTup_s _ (by simp)
theorem mkLst_0:mkLst [] = .ok (.lst []):=mkLst_s _ (by simp)
theorem mkLst_1 (a:PV):mkLst [a] = .ok (.lst [a]):=mkLst_s _ (by simp)
theorem mkLst_2 (a b:PV):mkLst [a,b] = .ok (.lst [a,b]):=mkLst_s _ (by simp)
theorem mkLst_3 (a b c:PV):mkLst [a,b,c] = .ok (.lst [a,b,c]):=mkLst_s _ (by simp)
theorem mkLst_4 (a b c d:PV):mkLst [a,b,c,d] = .ok (.lst [a,b,c,d]):=mkLst_s _ (by simp)
theorem mkLst_5 (a b c d e:PV):mkLst [a,b,c,d,e] = .ok (.lst [a,b,c,d,e]):=mkLst_s _ (by simp)
theorem mkLst_6 (a b c d e f:PV):mkLst [a,b,c,d,e,f] = .ok (.lst [a,b,c,d,e,f]):=mkLst_s _ (by simp)
theorem mkLst_7 (a b c d e f g:PV):mkLst [a,b,c,d,e,f,g] = .ok (.lst [a,b,c,d,e,f,g]):=mkLst_s _ (by simp)
theorem mkLst_8 (a b c d e f g h:PV):mkLst [a,b,c,d,e,f,g,h] = .ok (.lst [a,b,c,d,e,f,g,h]):=mkLst_s _ (by simp)
theorem asVal_none:asVal none = .stuck:=rfl
def rgF:List PV→R (List PV)
  | [.int hi]=>if smallI hi then .ok (rangeP 0 hi 1) else .stuck
  | [.int lo,.int hi]=>if smallI lo∧smallI hi then .ok (rangeP lo hi 1) else .stuck
  | [.int lo,.int hi,.int st]=>if smallI lo∧smallI hi∧smallI st∧st≠0 then .ok (rangeP lo hi st) else .stuck
  | _=>.stuck
def okI (i:Int):Prop:=smallI i
theorem iRange_e (a:FA) (x0:Option PV) (ρ0:MEnv):iRange a (x0::ρ0)=(a (x0::ρ0)).bind rgF:=by
  show R.bind _ _=R.bind _ _
  congr 1
theorem rg_1 (hi:Int) (h:okI hi):rgF [.int hi] = .ok (rangeP 0 hi 1):=if_pos h
theorem rg_2 (lo hi:Int) (h:okI lo) (h2:okI hi):rgF [.int lo,.int hi] = .ok (rangeP lo hi 1):=if_pos ⟨h,h2⟩
theorem rg_3 (lo hi st:Int) (h:okI lo) (h2:okI hi) (h3:okI st) (h0:st≠0):rgF [.int lo,.int hi,.int st] = .ok (rangeP lo hi st):=if_pos ⟨h,h2,h3,h0⟩
theorem bind_ok (p:PV) (f:PV→R PV):(R.ok p).bind f=f p:=rfl
theorem bind_okl (p:PV) (f:PV→R (List PV)):(R.ok p).bind f=f p:=rfl
theorem bind_okb (p:PV) (f:PV→R Bool):(R.ok p).bind f=f p:=rfl
theorem bind_oko (p:PV) (f:PV→R (Option Int)):(R.ok p).bind f=f p:=rfl
theorem bindl_ok (p:List PV) (f:List PV→R PV):(R.ok p).bind f=f p:=rfl
theorem bindl_okl (p:List PV) (f:List PV→R (List PV)):(R.ok p).bind f=f p:=rfl
theorem bindb_ok (p:Bool) (f:Bool→R PV):(R.ok p).bind f=f p:=rfl
theorem bindb_okb (p:Bool) (f:Bool→R Bool):(R.ok p).bind f=f p:=rfl
theorem bindo_ok (p:Option Int) (f:Option Int→R PV):(R.ok p).bind f=f p:=rfl
theorem bind_exc (c:Nat) (f:PV→R PV):(R.exc c:R PV).bind f = .exc c:=rfl
theorem bind_excl (c:Nat) (f:PV→R (List PV)):(R.exc c:R PV).bind f = .exc c:=rfl
theorem bind_excb (c:Nat) (f:PV→R Bool):(R.exc c:R PV).bind f = .exc c:=rfl
theorem bindl_exc (c:Nat) (f:List PV→R PV):(R.exc c:R (List PV)).bind f = .exc c:=rfl
theorem bindl_excl (c:Nat) (f:List PV→R (List PV)):(R.exc c:R (List PV)).bind f = .exc c:=rfl
theorem bindb_exc (c:Nat) (f:Bool→R PV):(R.exc c:R Bool).bind f = .exc c:=rfl
theorem bindb_excb (c:Nat) (f:Bool→R Bool):(R.exc c:R Bool).bind f = .exc c:=rfl
def fin:SR→R PV
  | .next _=>.ok .non
  | .ret v=>.ok v
  | .exc c _=>.exc c
  | _=>.stuck
theorem fin_next (ρ:MEnv):fin (.next ρ) = .ok .non:=rfl
theorem fin_ret (v:PV):fin (.ret v) = .ok v:=rfl
theorem fin_exc (c:Nat) (ρ:MEnv):fin (.exc c ρ) = .exc c:=rfl
theorem runF_fin (n:Nat) (b:FS) (vs:List PV):runF n b vs=fin (b (vs.map some ++ List.replicate (n - vs.length) none)):=by
  show (match b _ with | .next _=>_ | .ret v=>_ | .exc c _=>_ | _=>_)=fin (b _)
  rfl
theorem run_1 (n:Nat) (b:FS) (a1:PV):runF (n+1) b [a1]=fin (b (some a1::List.replicate n none)):=by
  rw [runF_fin,List.length_cons];simp
theorem run_2 (n:Nat) (b:FS) (a1 a2:PV):runF (n+2) b [a1,a2]=fin (b (some a1::some a2::List.replicate n none)):=by
  rw [runF_fin,List.length_cons];simp
theorem run_3 (n:Nat) (b:FS) (a1 a2 a3:PV):runF (n+3) b [a1,a2,a3]=fin (b (some a1::some a2::some a3::List.replicate n none)):=by
  rw [runF_fin,List.length_cons];simp
theorem run_4 (n:Nat) (b:FS) (a1 a2 a3 a4:PV):runF (n+4) b [a1,a2,a3,a4]=fin (b (some a1::some a2::some a3::some a4::List.replicate n none)):=by
  rw [runF_fin,List.length_cons];simp
theorem run_5 (n:Nat) (b:FS) (a1 a2 a3 a4 a5:PV):runF (n+5) b [a1,a2,a3,a4,a5]=fin (b (some a1::some a2::some a3::some a4::some a5::List.replicate n none)):=by
  rw [runF_fin,List.length_cons];simp
theorem run_6 (n:Nat) (b:FS) (a1 a2 a3 a4 a5 a6:PV):runF (n+6) b [a1,a2,a3,a4,a5,a6]=fin (b (some a1::some a2::some a3::some a4::some a5::some a6::List.replicate n none)):=by
  rw [runF_fin,List.length_cons];simp
def p2 (b:Int):Int:=2 ^ b.toNat
def okMul (a b:Int):Prop:=nb a≤64∨nb b≤64∨nb a+nb b≤bitsMax
def okDiv (b:Int):Prop:=0<b∧nb b≤9000
def okMod (b:Int):Prop:=0<b
def okPow (a b:Int):Prop:=0≤b∧b≤1000000∧nb a≤64
def okShl (a b:Int):Prop:=0≤b∧nb a+b≤134217728
def okShr (b:Int):Prop:=0≤b
def powI (a b:Int):Int:=a ^ b.toNat
theorem oMul_i (a b:Int) (h:okMul a b):oMul (.int a) (.int b) = .ok (.int (a*b)):=if_pos h
theorem oDiv_i (a b:Int) (h:okDiv b):oDiv (.int a) (.int b) = .ok (.int (a / b)):=if_pos h
theorem oMod_i (a b:Int) (h:okMod b):oMod (.int a) (.int b) = .ok (.int (a % b)):=if_pos h
theorem oPow_i (a b:Int) (h:okPow a b):oPow (.int a) (.int b) = .ok (.int (powI a b)):=if_pos h
theorem oShl_i (a b:Int) (h:okShl a b):oShl (.int a) (.int b) = .ok (.int (a*p2 b)):=if_pos h
theorem oShr_i (a b:Int) (h:okShr b):oShr (.int a) (.int b) = .ok (.int (a / p2 b)):=if_pos h
theorem oAdd_i (a b:Int):oAdd (.int a) (.int b) = .ok (.int (a+b)):=rfl
theorem oSub_i (a b:Int):oSub (.int a) (.int b) = .ok (.int (a - b)):=rfl
theorem oNeg_i (a:Int):oNeg (.int a) = .ok (.int (-a)):=rfl
theorem oAnd_i (a b:Int):oAnd (.int a) (.int b) = .ok (.int (Builtin.bitAnd a b)):=rfl
theorem oOr_i (a b:Int):oOr (.int a) (.int b) = .ok (.int (Builtin.bitOr a b)):=rfl
theorem oXor_i (a b:Int):oXor (.int a) (.int b) = .ok (.int (Builtin.bitXor a b)):=rfl
theorem cLt_i (a b:Int):cLt (.int a) (.int b) = .ok (.bl (decide (a<b))):=rfl
theorem cLe_i (a b:Int):cLe (.int a) (.int b) = .ok (.bl (decide (a≤b))):=rfl
theorem cGt_i (a b:Int):cGt (.int a) (.int b) = .ok (.bl (decide (b<a))):=rfl
theorem cGe_i (a b:Int):cGe (.int a) (.int b) = .ok (.bl (decide (b≤a))):=rfl
theorem cEq_i (a b:Int):cEq (.int a) (.int b) = .ok (.bl (decide (a=b))):=rfl
theorem cNe_i (a b:Int):cNe (.int a) (.int b) = .ok (.bl (!decide (a=b))):=rfl
theorem cEq_b (a b:Bool):cEq (.bl a) (.bl b) = .ok (.bl (a == b)):=rfl
theorem cNe_b (a b:Bool):cNe (.bl a) (.bl b) = .ok (.bl (!(a == b))):=rfl
theorem cEq_s (a b:Str):cEq (.str a) (.str b) = .ok (.bl (a == b)):=rfl
theorem cNe_s (a b:Str):cNe (.str a) (.str b) = .ok (.bl (!(a == b))):=rfl
theorem cEq_tup (a b:List PV):cEq (.tup a) (.tup b)=if (a.all (cmpOkN 5) && b.all (cmpOkN 5)) then .ok (.bl (eqPVs a b)) else .stuck:=rfl
theorem cNe_tup (a b:List PV):cNe (.tup a) (.tup b)=if (a.all (cmpOkN 5) && b.all (cmpOkN 5)) then .ok (.bl (!eqPVs a b)) else .stuck:=rfl
theorem cEq_lst (a b:List PV):cEq (.lst a) (.lst b)=if (a.all (cmpOkN 5) && b.all (cmpOkN 5)) then .ok (.bl (eqPVs a b)) else .stuck:=rfl
theorem cNe_lst (a b:List PV):cNe (.lst a) (.lst b)=if (a.all (cmpOkN 5) && b.all (cmpOkN 5)) then .ok (.bl (!eqPVs a b)) else .stuck:=rfl
theorem cmpOkN_int (n:Nat) (i:Int):cmpOkN n (.int i)=true:=by cases n<;>rfl
theorem cmpOkN_bl (n:Nat) (i:Bool):cmpOkN n (.bl i)=true:=by cases n<;>rfl
theorem cmpOkN_str (n:Nat) (i:Str):cmpOkN n (.str i)=true:=by cases n<;>rfl
theorem cmpOkN_non (n:Nat):cmpOkN n .non=true:=by cases n<;>rfl
theorem cmpOkN_tup (n:Nat) (l:List PV):cmpOkN (n+1) (.tup l)=l.all (cmpOkN n):=rfl
theorem cmpOkN_lst (n:Nat) (l:List PV):cmpOkN (n+1) (.lst l)=l.all (cmpOkN n):=rfl
theorem eqPVs_nil:eqPVs [] []=true:=rfl
theorem eqPVs_cons (x y:PV) (xs ys:List PV):eqPVs (x::xs) (y::ys)=(eqPV x y && eqPVs xs ys):=rfl
theorem eqPVs_cn (x:PV) (xs:List PV):eqPVs (x::xs) []=false:=rfl
theorem eqPVs_nc (x:PV) (xs:List PV):eqPVs [] (x::xs)=false:=rfl
theorem eqPV_i (a b:Int):eqPV (.int a) (.int b)=decide (a=b):=rfl
theorem eqPV_b (a b:Bool):eqPV (.bl a) (.bl b)=(a == b):=rfl
theorem eqPV_s (a b:Str):eqPV (.str a) (.str b)=(a == b):=rfl
theorem eqPV_t (a b:List PV):eqPV (.tup a) (.tup b)=eqPVs a b:=rfl
theorem eqPV_l (a b:List PV):eqPV (.lst a) (.lst b)=eqPVs a b:=rfl
theorem eqPV_n:eqPV .non .non=true:=rfl
theorem bLen_tup (l:List PV):bLen [.tup l] = .ok (.int l.length):=rfl
theorem bLen_lst (l:List PV):bLen [.lst l] = .ok (.int l.length):=rfl
theorem bAbs_i (i:Int):bAbs [.int i] = .ok (.int (if i<0 then -i else i)):=rfl
theorem bMin_i (i j:Int):bMin [.int i,.int j] = .ok (.int (if j<i then j else i)):=rfl
theorem bMax_i (i j:Int):bMax [.int i,.int j] = .ok (.int (if j > i then j else i)):=rfl
theorem bInt_i (i:Int):bInt [.int i] = .ok (.int i):=rfl
theorem bInt_b (b:Bool):bInt [.bl b] = .ok (.int (if b then 1 else 0)):=rfl
theorem bBitLength_i (i:Int):bBitLength (.int i) = .ok (.int (nb i)):=rfl
theorem bList_l (l:List PV):bList [.lst l] = .ok (.lst l):=rfl
theorem bList_t (l:List PV):bList [.tup l] = .ok (.lst l):=rfl
theorem bTuple_l (l:List PV):bTuple [.lst l] = .ok (.tup l):=rfl
theorem bTuple_t (l:List PV):bTuple [.tup l] = .ok (.tup l):=rfl
theorem isTy_int_i (i:Int):isTy (.int i) .int=some true:=rfl
theorem isTy_int_b (i:Int):isTy (.int i) .bool=some false:=rfl
theorem isTy_int_s (i:Int):isTy (.int i) .str=some false:=rfl
theorem isTy_int_t (i:Int):isTy (.int i) .tuple=some false:=rfl
theorem isTy_bl_i (i:Bool):isTy (.bl i) .int=some true:=rfl
theorem isTy_bl_b (i:Bool):isTy (.bl i) .bool=some true:=rfl
theorem isTy_bl_t (i:Bool):isTy (.bl i) .tuple=some false:=rfl
theorem isTy_bl_s (i:Bool):isTy (.bl i) .str=some false:=rfl
theorem isTy_tup_t (l:List PV):isTy (.tup l) .tuple=some true:=rfl
theorem isTy_tup_i (l:List PV):isTy (.tup l) .int=some false:=rfl
theorem isTy_tup_s (l:List PV):isTy (.tup l) .str=some false:=rfl
theorem isTy_lst_i (l:List PV):isTy (.lst l) .int=some false:=rfl
theorem isTy_lst_l (l:List PV):isTy (.lst l) .list=some true:=rfl
theorem isTy_lst_t (l:List PV):isTy (.lst l) .tuple=some false:=rfl
theorem isTy_lst_s (l:List PV):isTy (.lst l) .str=some false:=rfl
theorem isTy_str_i (x:Str):isTy (.str x) .int=some false:=rfl
theorem isTy_str_s (x:Str):isTy (.str x) .str=some true:=rfl
theorem isTy_str_t (x:Str):isTy (.str x) .tuple=some false:=rfl
theorem isTy_non (t:Ty):isTy .non t=some false:=by cases t<;>rfl
theorem isTy_dic_i:isTy .dic0 .int=some false:=rfl
theorem isTy_dic_s:isTy .dic0 .str=some false:=rfl
theorem oItem_at {l:List PV}{i:Int}{v:PV} (h0:0≤i) (h:l[i.toNat]?=some v):oItem (.lst l) (.int i) = .ok v:=by
  have hl:i.toNat<l.length:=(List.getElem?_eq_some_iff.mp h).1
  show itemP l i=_
  unfold itemP ixP
  rw [if_pos h0,if_pos (by omega)]
  simp [h]
theorem oItem_atT {l:List PV}{i:Int}{v:PV} (h0:0≤i) (h:l[i.toNat]?=some v):oItem (.tup l) (.int i) = .ok v:=oItem_at h0 h
theorem oItem_t0 (x:PV) (l:List PV):oItem (.tup (x::l)) (.int 0) = .ok x:=oItem_atT (by decide) rfl
theorem oItem_t1 (x y:PV) (l:List PV):oItem (.tup (x::y::l)) (.int 1) = .ok y:=oItem_atT (by decide) rfl
theorem oItem_t2 (x y z:PV) (l:List PV):oItem (.tup (x::y::z::l)) (.int 2) = .ok z:=oItem_atT (by decide) rfl
theorem oItem_l0 (x:PV) (l:List PV):oItem (.lst (x::l)) (.int 0) = .ok x:=oItem_at (by decide) rfl
theorem oItem_l1 (x y:PV) (l:List PV):oItem (.lst (x::y::l)) (.int 1) = .ok y:=oItem_at (by decide) rfl
theorem oItem_l2 (x y z:PV) (l:List PV):oItem (.lst (x::y::z::l)) (.int 2) = .ok z:=oItem_at (by decide) rfl
theorem sNext_e (x0:Option PV) (ρ0:MEnv):sNext (x0::ρ0) = .next (x0::ρ0):=rfl
theorem sSeq_e (f g:FS) (x0:Option PV) (ρ0:MEnv):sSeq f g (x0::ρ0)=match f (x0::ρ0) with | .next ρ'=>g ρ' | o=>o:=rfl
theorem ofR_ok (v:PV) (ρ:MEnv) (k:PV→SR):ofR (.ok v) ρ k=k v:=rfl
theorem ofR_exc (c:Nat) (ρ:MEnv) (k:PV→SR):ofR (.exc c) ρ k = .exc c ρ:=rfl
theorem sRet_e (a:FE) (x0:Option PV) (ρ0:MEnv):sRet a (x0::ρ0)=ofR (a (x0::ρ0)) (x0::ρ0) fun v=>.ret v:=rfl
theorem sExpr_e (a:FE) (x0:Option PV) (ρ0:MEnv):sExpr a (x0::ρ0)=ofR (a (x0::ρ0)) (x0::ρ0) fun _=>.next (x0::ρ0):=rfl
theorem sSet_e (i:Nat) (a:FE) (x0:Option PV) (ρ0:MEnv):sSet i a (x0::ρ0)=ofR (a (x0::ρ0)) (x0::ρ0) fun v=>.next ((x0::ρ0).set i (some v)):=rfl
theorem sIf_e (t:FT) (f g:FS) (x0:Option PV) (ρ0:MEnv):sIf t f g (x0::ρ0)=match t (x0::ρ0) with | .ok c=>if c then f (x0::ρ0) else g (x0::ρ0) | .exc c=>.exc c (x0::ρ0) | .stuck=>.stuck:=rfl
theorem sFor_e (i:Nat) (it:FA) (body:FS) (x0:Option PV) (ρ0:MEnv):sFor i it body (x0::ρ0)=match it (x0::ρ0) with | .ok l=>forL i body l (x0::ρ0) | .exc c=>.exc c (x0::ρ0) | .stuck=>.stuck:=rfl
theorem sBreak_e (x0:Option PV) (ρ0:MEnv):sBreak (x0::ρ0) = .brk (x0::ρ0):=rfl
theorem sCont_e (x0:Option PV) (ρ0:MEnv):sCont (x0::ρ0) = .cont (x0::ρ0):=rfl
theorem sRetN_e (x0:Option PV) (ρ0:MEnv):sRetN (x0::ρ0) = .ret .non:=rfl
theorem sRaise_e (c:Nat) (x0:Option PV) (ρ0:MEnv):sRaise c (x0::ρ0) = .exc c (x0::ρ0):=rfl
theorem iSeq_e (a:FE) (x0:Option PV) (ρ0:MEnv):iSeq a (x0::ρ0)=(a (x0::ρ0)).bind fun x=>match x with | .lst l=>.ok l | .tup l=>.ok l | _=>.stuck:=rfl
theorem forL_nil (i:Nat) (body:FS) (ρ:MEnv):forL i body [] ρ = .next ρ:=rfl
theorem forL_cons (i:Nat) (body:FS) (x:PV) (l:List PV) (ρ:MEnv):forL i body (x::l) ρ=match body (ρ.set i (some x)) with
    | .next ρ'=>forL i body l ρ'
    | .cont ρ'=>forL i body l ρ'
    | .brk ρ'=>.next ρ'
    | o=>o:=rfl
theorem oNone_e (x0:Option PV) (ρ0:MEnv):oNone (x0::ρ0) = .ok none:=rfl
theorem oSome_e (a:FE) (x0:Option PV) (ρ0:MEnv):oSome a (x0::ρ0)=(a (x0::ρ0)).bind fun x=>match x with | .int i=>.ok (some i) | _=>.stuck:=rfl
theorem fCut_e (a:FE) (l h:FO) (x0:Option PV) (ρ0:MEnv):fCut a l h (x0::ρ0)=(a (x0::ρ0)).bind fun x=>(l (x0::ρ0)).bind fun lo=>(h (x0::ρ0)).bind fun hi=>oCut x lo hi:=rfl
theorem oCut_lst (l:List PV) (lo hi:Option Int):oCut (.lst l) lo hi = .ok (.lst (cutP l lo hi)):=rfl
theorem forL_inv (I:MEnv→Prop) {i:Nat}{body:FS}:∀ {l:List PV}{ρ:MEnv},I ρ→(∀ x∈l,∀ ρ,I ρ→∃ ρ',body (ρ.set i (some x)) = .next ρ'∧I ρ')→∃ ρ',forL i body l ρ = .next ρ'∧I ρ'
  | [],ρ,h,_=>⟨ρ,rfl,h⟩
  | x::l,ρ,h,s=>by
    obtain ⟨ρ1,e1,h1⟩:=s x (List.mem_cons_self) ρ h
    obtain ⟨ρ2,e2,h2⟩:=forL_inv I (l:=l) h1 fun y hy=>s y (List.mem_cons_of_mem _ hy)
    exact ⟨ρ2,by rw [forL_cons,e1];exact e2,h2⟩
theorem isSmallI_i (i:Int):isSmallI (.ok (.int i))=decide (i.natAbs<18446744073709551616):=rfl
theorem sRaiseT_e (k:MEnv→Bool) (c:Nat) (x0:Option PV) (ρ0:MEnv):sRaiseT k c (x0::ρ0)=if k (x0::ρ0) then .exc c (x0::ρ0) else .stuck:=rfl
theorem sTryAs_e (f:FS) (ks:List Nat) (d n x:Nat) (x0:Option PV) (ρ0:MEnv):sTryAs f ks d n x (x0::ρ0)=match f (x0::ρ0) with
  | .exc c ρ'=>if ks.contains c && under c d then .next (((ρ'.set n (some (.exc c))).set x (some (.exc c))).set n none) else .stuck
  | o=>o:=rfl
theorem fIsExc_e (ks:List Nat) (d:Nat) (a:FE) (x0:Option PV) (ρ0:MEnv):fIsExc ks d a (x0::ρ0)=(a (x0::ρ0)).bind fun x=>match x with
  | .exc c=>if ks.contains c then .ok (.bl (under c d)) else .stuck
  | .non=>.ok (.bl false)
  | _=>.stuck:=rfl
theorem fIsVal_e (ks:List Nat) (a:FE) (x0:Option PV) (ρ0:MEnv):fIsVal ks a (x0::ρ0)=(a (x0::ρ0)).bind fun x=>match x with
  | .exc c=>if ks.contains c then .ok (.bl true) else .stuck
  | .non=>.ok (.bl false)
  | _=>.stuck:=rfl
theorem evl:(∀ (α:Type) (a b:α),(if (true:Bool)=true then a else b)=a)∧(∀ (α:Type) (a b:α),(if (false:Bool)=true then a else b)=b)∧(∀ (α:Type) (a b:α),(if True then a else b)=a)∧(∀ (α:Type) (a b:α),(if False then a else b)=b) ∧
    (decide True=true)∧(decide False=false)∧((!true)=false)∧((!false)=true)∧(∀ b,(true && b)=b)∧(∀ b,(false && b)=false)∧(∀ b,(b && true)=b)∧(∀ b,(b && false)=false)∧(∀ b,(true || b)=true)∧(∀ b,(false || b)=b)∧(∀ b:Bool,(b == b)=true) ∧
    (∀ (x y:Option PV) (l:MEnv),(x::l).set 0 y=y::l)∧(∀ (x y:Option PV) (l:MEnv) (n:Nat),(x::l).set (n+1) y=x::l.set n y) ∧
    ((List.replicate 0 (none:Option PV))=[])∧(∀ (n:Nat),(List.replicate (n+1) (none:Option PV))=none::List.replicate n none) ∧
    (∀ (x:PV) (l:List PV),(x::l).map some=some x::l.map some)∧(([]:List PV).map some=[])∧(∀ (x:Option PV) (l m:MEnv),(x::l) ++ m=x::(l ++ m))∧(∀ (l:MEnv),[] ++ l=l) ∧
    (∀ (x:PV) (l:List PV),(x::l).length=l.length+1)∧(([]:List PV).length=0) ∧
    (∀ (p:PV→Bool) (x:PV) (l:List PV),(x::l).all p=(p x && l.all p))∧(∀ (p:PV→Bool),([]:List PV).all p=true) ∧
    (∀ (p:PV→Bool) (x:PV) (l:List PV),(x::l).any p=(p x || l.any p))∧(∀ (p:PV→Bool),([]:List PV).any p=false):=by
  refine ⟨fun _ _ _=>rfl,fun _ _ _=>rfl,fun _ _ _=>if_pos trivial,fun _ _ _=>if_neg id,by decide,by decide,rfl,rfl,fun b=>by cases b<;>rfl,fun b=>by cases b<;>rfl,fun b=>by cases b<;>rfl,fun b=>by cases b<;>rfl,fun b=>by cases b<;>rfl,fun b=>by cases b<;>rfl,fun b=>by cases b<;>rfl,fun _ _ _=>rfl,fun _ _ _ _=>rfl,rfl,fun _=>rfl,fun _ _=>rfl,rfl,fun _ _ _=>rfl,fun _=>rfl,fun _ _=>rfl,rfl,fun _ _ _=>rfl,fun _=>rfl,fun _ _ _=>rfl,fun _=>rfl⟩
def Goes (I:MEnv→Prop) (r:SR):Prop:=∃ ρ,r = .next ρ∧I ρ
theorem goes_next {I:MEnv→Prop}{ρ:MEnv} (h:I ρ):Goes I (.next ρ):=⟨ρ,rfl,h⟩
theorem forL_goes {I:MEnv→Prop}{i:Nat}{body:FS}{l:List PV}{ρ:MEnv} (h:I ρ) (s:∀ x∈l,∀ ρ,I ρ→Goes I (body (ρ.set i (some x)))):Goes I (forL i body l ρ):=forL_inv I h s
theorem nb_le_iff {a:Int}{k:Nat}:nb a≤k↔a.natAbs<2 ^ k:=by
  show (if a == 0 then 0 else a.natAbs.log2+1)≤k↔_
  by_cases h:a=0
  · subst h;simp;exact Nat.two_pow_pos k
  · have h0:a.natAbs≠0:=by omega
    rw [if_neg (by simpa using h)]
    rw [← Nat.log2_lt h0]
    omega
theorem nb_le {a:Int}{k:Nat} (h:a.natAbs<2 ^ k):nb a≤k:=nb_le_iff.mpr h
theorem nb_lt {a:Int}{k:Nat} (h:nb a≤k):a.natAbs<2 ^ k:=nb_le_iff.mp h
theorem okMul_r {a b:Int} (h1 : -18446744073709551616<b) (h2:b<18446744073709551616):okMul a b:=.inr (.inl (nb_le (k:=64) (by omega)))
theorem okMul_l {a b:Int} (h1 : -18446744073709551616<a) (h2:a<18446744073709551616):okMul a b:=.inl (nb_le (k:=64) (by omega))
theorem okMul_of {a b:Int}{m n:Nat} (ha:nb a≤m) (hb:nb b≤n) (h:m+n≤134217728):okMul a b:=.inr (.inr (by show _≤134217728;omega))
theorem okDiv_s {b:Int} (h0:0<b) (h:b<18446744073709551616):okDiv b:=⟨h0,Nat.le_trans (nb_le (k:=64) (by omega)) (by decide)⟩
theorem okDiv_of {b:Int}{n:Nat} (h0:0<b) (h:nb b≤n) (hn:n≤9000):okDiv b:=⟨h0,Nat.le_trans h hn⟩
theorem okShl_of {a b:Int}{n:Nat} (h0:0≤b) (ha:nb a≤n) (h:n+b≤134217728):okShl a b:=⟨h0,by omega⟩
theorem okPow_s {a b:Int} (h0:0≤b) (h1:b≤1000000) (h : -18446744073709551616<a) (h2:a<18446744073709551616):okPow a b:=⟨h0,h1,nb_le (k:=64) (by omega)⟩
theorem okMod_s {b:Int} (h:0<b):okMod b:=h
theorem okShr_s {b:Int} (h:0≤b):okShr b:=h
theorem okI_of {b:Int} (h0 : -1152921504606846976≤b) (h:b<1152921504606846976):okI b:=by
  have e:(2:Int) ^ 60=1152921504606846976:=by decide
  show -(2 ^ 60)≤b∧b<2 ^ 60
  rw [e];exact ⟨h0,h⟩
theorem okw:(∀ (a b:Int) (h1 : -18446744073709551616<b) (h2:b<18446744073709551616),okMul a b)∧(∀ (a b:Int) (h1 : -18446744073709551616<a) (h2:a<18446744073709551616),okMul a b)∧(∀ (b:Int) (h0:0<b) (h:b<18446744073709551616),okDiv b) ∧
    (∀ (a b:Int) (h0:0≤b) (h1:b≤1000000) (h : -18446744073709551616<a) (h2:a<18446744073709551616),okPow a b)∧(∀ (b:Int) (h:0<b),okMod b)∧(∀ (b:Int) (h:0≤b),okShr b)∧(∀ (b:Int) (h0 : -1152921504606846976≤b) (h:b<1152921504606846976),okI b) :=
  ⟨fun _ _=>okMul_r,fun _ _=>okMul_l,fun _=>okDiv_s,fun _ _=>okPow_s,fun _=>okMod_s,fun _=>okShr_s,fun _=>okI_of⟩
theorem ev:(∀ (i:Nat) (x0:Option PV) (ρ0:MEnv),fVar i (x0::ρ0)=getV (x0::ρ0) i) ∧
  (∀ (o:Option PV) (r:MEnv),getV (o::r) 0=asVal o) ∧
  (∀ (o:Option PV) (r:MEnv) (n:Nat),getV (o::r) (n+1)=getV r n) ∧
  (∀ (i:Int),asVal (some (.int i)) = .ok (.int i)) ∧
  (∀ (i:Bool),asVal (some (.bl i)) = .ok (.bl i)) ∧
  (∀ (i:Str),asVal (some (.str i)) = .ok (.str i)) ∧
  (asVal (some .non) = .ok .non) ∧
  (∀ (l:List PV),asVal (some (.tup l)) = .ok (.tup l)) ∧
  (∀ (l:List PV),asVal (some (.lst l)) = .ok (.lst l)) ∧
  (∀ (c:Nat),asVal (some (.exc c)) = .ok (.exc c)) ∧
  (asVal (some .dic0) = .ok .dic0) ∧
  (∀ (v:PV) (x0:Option PV) (ρ0:MEnv),fC v (x0::ρ0) = .ok v) ∧
  (∀ (o:PV→PV→R PV) (a b:FE) (x0:Option PV) (ρ0:MEnv),fBin o a b (x0::ρ0)=(a (x0::ρ0)).bind fun x=>(b (x0::ρ0)).bind fun y=>o x y) ∧
  (∀ (o:PV→R PV) (a:FE) (x0:Option PV) (ρ0:MEnv),fUn o a (x0::ρ0)=(a (x0::ρ0)).bind o) ∧
  (∀ (b:Bool),oBool (.bl b) = .ok b) ∧
  (∀ (a b:FE) (x0:Option PV) (ρ0:MEnv),fAnd a b (x0::ρ0)=(a (x0::ρ0)).bind fun x=>(oBool x).bind fun c=>if c then b (x0::ρ0) else .ok (.bl false)) ∧
  (∀ (a b:FE) (x0:Option PV) (ρ0:MEnv),fOr a b (x0::ρ0)=(a (x0::ρ0)).bind fun x=>(oBool x).bind fun c=>if c then .ok (.bl true) else b (x0::ρ0)) ∧
  (∀ (a:FE) (x0:Option PV) (ρ0:MEnv),fNot a (x0::ρ0)=(a (x0::ρ0)).bind fun x=>(oBool x).bind fun c=>.ok (.bl (!c))) ∧
  (∀ (o o':PV→PV→R PV) (a b c:FE) (x0:Option PV) (ρ0:MEnv),fChain o o' a b c (x0::ρ0)=(a (x0::ρ0)).bind fun x=>(b (x0::ρ0)).bind fun y=>(o x y).bind fun r=>(oBool r).bind fun k =>
  if k then (c (x0::ρ0)).bind fun z=>o' y z else .ok (.bl false)) ∧
  (∀ (t:FT) (a b:FE) (x0:Option PV) (ρ0:MEnv),fIf t a b (x0::ρ0)=(t (x0::ρ0)).bind fun c=>if c then a (x0::ρ0) else b (x0::ρ0)) ∧
  (∀ (x0:Option PV) (ρ0:MEnv),aNil (x0::ρ0) = .ok []) ∧
  (∀ (a:FE) (r:FA) (x0:Option PV) (ρ0:MEnv),aCons a r (x0::ρ0)=(a (x0::ρ0)).bind fun x=>(r (x0::ρ0)).bind fun xs=>.ok (x::xs)) ∧
  (∀ (a:FA) (x0:Option PV) (ρ0:MEnv),fTup a (x0::ρ0)=(a (x0::ρ0)).bind mkTup) ∧
  (∀ (a:FA) (x0:Option PV) (ρ0:MEnv),fLst a (x0::ρ0)=(a (x0::ρ0)).bind mkLst) ∧
  (∀ (F:List PV→R PV) (a:FA) (x0:Option PV) (ρ0:MEnv),fCall F a (x0::ρ0)=(a (x0::ρ0)).bind F) ∧
  (∀ (t:Ty) (a:FE) (x0:Option PV) (ρ0:MEnv),fIsinst t a (x0::ρ0)=(a (x0::ρ0)).bind fun x=>match isTy x t with | some b=>.ok (.bl b) | none=>.stuck) ∧
  (∀ (a:FE) (x0:Option PV) (ρ0:MEnv),tVal a (x0::ρ0)=(a (x0::ρ0)).bind truthP) ∧
  (∀ (b:Bool),truthP (.bl b) = .ok b) ∧
  (∀ (i:Int),truthP (.int i) = .ok (i != 0)) ∧
  (truthP .non = .ok false) ∧
  (∀ (a b:FT) (x0:Option PV) (ρ0:MEnv),tAnd a b (x0::ρ0)=(a (x0::ρ0)).bind fun c=>if c then b (x0::ρ0) else .ok false) ∧
  (∀ (a b:FT) (x0:Option PV) (ρ0:MEnv),tOr a b (x0::ρ0)=(a (x0::ρ0)).bind fun c=>if c then .ok true else b (x0::ρ0)) ∧
  (∀ (a:FT) (x0:Option PV) (ρ0:MEnv),tNot a (x0::ρ0)=(a (x0::ρ0)).bind fun c=>.ok (!c)) ∧
  (∀ (a:PV),mkTup [a] = .ok (.tup [a])) ∧
  (∀ (a b:PV),mkTup [a,b] = .ok (.tup [a,b])) ∧
  (∀ (a b c:PV),mkTup [a,b,c] = .ok (.tup [a,b,c])) ∧
  (∀ (a b c d:PV),mkTup [a,b,c,d] = .ok (.tup [a,b,c,d])) ∧
  (mkLst [] = .ok (.lst [])) ∧
  (∀ (a:PV),mkLst [a] = .ok (.lst [a])) ∧
  (∀ (a b:PV),mkLst [a,b] = .ok (.lst [a,b])) ∧
  (∀ (a b c:PV),mkLst [a,b,c] = .ok (.lst [a,b,c])) ∧
  (∀ (a b c d:PV),mkLst [a,b,c,d] = .ok (.lst [a,b,c,d])) ∧
  (∀ (a b c d e:PV),mkLst [a,b,c,d,e] = .ok (.lst [a,b,c,d,e])) ∧
  (∀ (a b c d e f:PV),mkLst [a,b,c,d,e,f] = .ok (.lst [a,b,c,d,e,f])) ∧
  (∀ (a b c d e f g:PV),mkLst [a,b,c,d,e,f,g] = .ok (.lst [a,b,c,d,e,f,g])) ∧
  (∀ (a b c d e f g h:PV),mkLst [a,b,c,d,e,f,g,h] = .ok (.lst [a,b,c,d,e,f,g,h])) ∧
  (asVal none = .stuck) ∧
  (∀ (a:FA) (x0:Option PV) (ρ0:MEnv),iRange a (x0::ρ0)=(a (x0::ρ0)).bind rgF) ∧
  (∀ (hi:Int) (h:okI hi),rgF [.int hi] = .ok (rangeP 0 hi 1)) ∧
  (∀ (lo hi:Int) (h:okI lo) (h2:okI hi),rgF [.int lo,.int hi] = .ok (rangeP lo hi 1)) ∧
  (∀ (lo hi st:Int) (h:okI lo) (h2:okI hi) (h3:okI st) (h0:st≠0),rgF [.int lo,.int hi,.int st] = .ok (rangeP lo hi st)) ∧
  (∀ (p:PV) (f:PV→R PV),(R.ok p).bind f=f p) ∧
  (∀ (p:PV) (f:PV→R (List PV)),(R.ok p).bind f=f p) ∧
  (∀ (p:PV) (f:PV→R Bool),(R.ok p).bind f=f p) ∧
  (∀ (p:PV) (f:PV→R (Option Int)),(R.ok p).bind f=f p) ∧
  (∀ (p:List PV) (f:List PV→R PV),(R.ok p).bind f=f p) ∧
  (∀ (p:List PV) (f:List PV→R (List PV)),(R.ok p).bind f=f p) ∧
  (∀ (p:Bool) (f:Bool→R PV),(R.ok p).bind f=f p) ∧
  (∀ (p:Bool) (f:Bool→R Bool),(R.ok p).bind f=f p) ∧
  (∀ (p:Option Int) (f:Option Int→R PV),(R.ok p).bind f=f p) ∧
  (∀ (c:Nat) (f:PV→R PV),(R.exc c:R PV).bind f = .exc c) ∧
  (∀ (c:Nat) (f:PV→R (List PV)),(R.exc c:R PV).bind f = .exc c) ∧
  (∀ (c:Nat) (f:PV→R Bool),(R.exc c:R PV).bind f = .exc c) ∧
  (∀ (c:Nat) (f:List PV→R PV),(R.exc c:R (List PV)).bind f = .exc c) ∧
  (∀ (c:Nat) (f:List PV→R (List PV)),(R.exc c:R (List PV)).bind f = .exc c) ∧
  (∀ (c:Nat) (f:Bool→R PV),(R.exc c:R Bool).bind f = .exc c) ∧
  (∀ (c:Nat) (f:Bool→R Bool),(R.exc c:R Bool).bind f = .exc c) ∧
  (∀ (ρ:MEnv),fin (.next ρ) = .ok .non) ∧
  (∀ (v:PV),fin (.ret v) = .ok v) ∧
  (∀ (c:Nat) (ρ:MEnv),fin (.exc c ρ) = .exc c) ∧
  (∀ (n:Nat) (b:FS) (a1:PV),runF (n+1) b [a1]=fin (b (some a1::List.replicate n none))) ∧
  (∀ (n:Nat) (b:FS) (a1 a2:PV),runF (n+2) b [a1,a2]=fin (b (some a1::some a2::List.replicate n none))) ∧
  (∀ (n:Nat) (b:FS) (a1 a2 a3:PV),runF (n+3) b [a1,a2,a3]=fin (b (some a1::some a2::some a3::List.replicate n none))) ∧
  (∀ (n:Nat) (b:FS) (a1 a2 a3 a4:PV),runF (n+4) b [a1,a2,a3,a4]=fin (b (some a1::some a2::some a3::some a4::List.replicate n none))) ∧
  (∀ (n:Nat) (b:FS) (a1 a2 a3 a4 a5:PV),runF (n+5) b [a1,a2,a3,a4,a5]=fin (b (some a1::some a2::some a3::some a4::some a5::List.replicate n none))) ∧
  (∀ (n:Nat) (b:FS) (a1 a2 a3 a4 a5 a6:PV),runF (n+6) b [a1,a2,a3,a4,a5,a6]=fin (b (some a1::some a2::some a3::some a4::some a5::some a6::List.replicate n none))) ∧
  (∀ (a b:Int) (h:okMul a b),oMul (.int a) (.int b) = .ok (.int (a*b))) ∧
  (∀ (a b:Int) (h:okDiv b),oDiv (.int a) (.int b) = .ok (.int (a / b))) ∧
  (∀ (a b:Int) (h:okMod b),oMod (.int a) (.int b) = .ok (.int (a % b))) ∧
  (∀ (a b:Int) (h:okPow a b),oPow (.int a) (.int b) = .ok (.int (powI a b))) ∧
  (∀ (a b:Int) (h:okShl a b),oShl (.int a) (.int b) = .ok (.int (a*p2 b))) ∧
  (∀ (a b:Int) (h:okShr b),oShr (.int a) (.int b) = .ok (.int (a / p2 b))) ∧
  (∀ (a b:Int),oAdd (.int a) (.int b) = .ok (.int (a+b))) ∧
  (∀ (a b:Int),oSub (.int a) (.int b) = .ok (.int (a - b))) ∧
  (∀ (a:Int),oNeg (.int a) = .ok (.int (-a))) ∧
  (∀ (a b:Int),oAnd (.int a) (.int b) = .ok (.int (Builtin.bitAnd a b))) ∧
  (∀ (a b:Int),oOr (.int a) (.int b) = .ok (.int (Builtin.bitOr a b))) ∧
  (∀ (a b:Int),oXor (.int a) (.int b) = .ok (.int (Builtin.bitXor a b))) ∧
  (∀ (a b:Int),cLt (.int a) (.int b) = .ok (.bl (decide (a<b)))) ∧
  (∀ (a b:Int),cLe (.int a) (.int b) = .ok (.bl (decide (a≤b)))) ∧
  (∀ (a b:Int),cGt (.int a) (.int b) = .ok (.bl (decide (b<a)))) ∧
  (∀ (a b:Int),cGe (.int a) (.int b) = .ok (.bl (decide (b≤a)))) ∧
  (∀ (a b:Int),cEq (.int a) (.int b) = .ok (.bl (decide (a=b)))) ∧
  (∀ (a b:Int),cNe (.int a) (.int b) = .ok (.bl (!decide (a=b)))) ∧
  (∀ (a b:Bool),cEq (.bl a) (.bl b) = .ok (.bl (a == b))) ∧
  (∀ (a b:Bool),cNe (.bl a) (.bl b) = .ok (.bl (!(a == b)))) ∧
  (∀ (a b:Str),cEq (.str a) (.str b) = .ok (.bl (a == b))) ∧
  (∀ (a b:Str),cNe (.str a) (.str b) = .ok (.bl (!(a == b)))) ∧
  (∀ (a b:List PV),cEq (.tup a) (.tup b)=if (a.all (cmpOkN 5) && b.all (cmpOkN 5)) then .ok (.bl (eqPVs a b)) else .stuck) ∧
  (∀ (a b:List PV),cNe (.tup a) (.tup b)=if (a.all (cmpOkN 5) && b.all (cmpOkN 5)) then .ok (.bl (!eqPVs a b)) else .stuck) ∧
  (∀ (a b:List PV),cEq (.lst a) (.lst b)=if (a.all (cmpOkN 5) && b.all (cmpOkN 5)) then .ok (.bl (eqPVs a b)) else .stuck) ∧
  (∀ (a b:List PV),cNe (.lst a) (.lst b)=if (a.all (cmpOkN 5) && b.all (cmpOkN 5)) then .ok (.bl (!eqPVs a b)) else .stuck) ∧
  (∀ (n:Nat) (i:Int),cmpOkN n (.int i)=true) ∧
  (∀ (n:Nat) (i:Bool),cmpOkN n (.bl i)=true) ∧
  (∀ (n:Nat) (i:Str),cmpOkN n (.str i)=true) ∧
  (∀ (n:Nat),cmpOkN n .non=true) ∧
  (∀ (n:Nat) (l:List PV),cmpOkN (n+1) (.tup l)=l.all (cmpOkN n)) ∧
  (∀ (n:Nat) (l:List PV),cmpOkN (n+1) (.lst l)=l.all (cmpOkN n)) ∧
  (eqPVs [] []=true) ∧
  (∀ (x y:PV) (xs ys:List PV),eqPVs (x::xs) (y::ys)=(eqPV x y && eqPVs xs ys)) ∧
  (∀ (x:PV) (xs:List PV),eqPVs (x::xs) []=false) ∧
  (∀ (x:PV) (xs:List PV),eqPVs [] (x::xs)=false) ∧
  (∀ (a b:Int),eqPV (.int a) (.int b)=decide (a=b)) ∧
  (∀ (a b:Bool),eqPV (.bl a) (.bl b)=(a == b)) ∧
  (∀ (a b:Str),eqPV (.str a) (.str b)=(a == b)) ∧
  (∀ (a b:List PV),eqPV (.tup a) (.tup b)=eqPVs a b) ∧
  (∀ (a b:List PV),eqPV (.lst a) (.lst b)=eqPVs a b) ∧
  (eqPV .non .non=true) ∧
  (∀ (l:List PV),bLen [.tup l] = .ok (.int l.length)) ∧
  (∀ (l:List PV),bLen [.lst l] = .ok (.int l.length)) ∧
  (∀ (i:Int),bAbs [.int i] = .ok (.int (if i<0 then -i else i))) ∧
  (∀ (i j:Int),bMin [.int i,.int j] = .ok (.int (if j<i then j else i))) ∧
  (∀ (i j:Int),bMax [.int i,.int j] = .ok (.int (if j > i then j else i))) ∧
  (∀ (i:Int),bInt [.int i] = .ok (.int i)) ∧
  (∀ (b:Bool),bInt [.bl b] = .ok (.int (if b then 1 else 0))) ∧
  (∀ (i:Int),bBitLength (.int i) = .ok (.int (nb i))) ∧
  (∀ (l:List PV),bList [.lst l] = .ok (.lst l)) ∧
  (∀ (l:List PV),bList [.tup l] = .ok (.lst l)) ∧
  (∀ (l:List PV),bTuple [.lst l] = .ok (.tup l)) ∧
  (∀ (l:List PV),bTuple [.tup l] = .ok (.tup l)) ∧
  (∀ (i:Int),isTy (.int i) .int=some true) ∧
  (∀ (i:Int),isTy (.int i) .bool=some false) ∧
  (∀ (i:Int),isTy (.int i) .str=some false) ∧
  (∀ (i:Int),isTy (.int i) .tuple=some false) ∧
  (∀ (i:Bool),isTy (.bl i) .int=some true) ∧
  (∀ (i:Bool),isTy (.bl i) .bool=some true) ∧
  (∀ (i:Bool),isTy (.bl i) .tuple=some false) ∧
  (∀ (i:Bool),isTy (.bl i) .str=some false) ∧
  (∀ (l:List PV),isTy (.tup l) .tuple=some true) ∧
  (∀ (l:List PV),isTy (.tup l) .int=some false) ∧
  (∀ (l:List PV),isTy (.tup l) .str=some false) ∧
  (∀ (l:List PV),isTy (.lst l) .int=some false) ∧
  (∀ (l:List PV),isTy (.lst l) .list=some true) ∧
  (∀ (l:List PV),isTy (.lst l) .tuple=some false) ∧
  (∀ (l:List PV),isTy (.lst l) .str=some false) ∧
  (∀ (x:Str),isTy (.str x) .int=some false) ∧
  (∀ (x:Str),isTy (.str x) .str=some true) ∧
  (∀ (x:Str),isTy (.str x) .tuple=some false) ∧
  (∀ (t:Ty),isTy .non t=some false) ∧
  (isTy .dic0 .int=some false) ∧
  (isTy .dic0 .str=some false) ∧
  (∀ (x:PV) (l:List PV),oItem (.tup (x::l)) (.int 0) = .ok x) ∧
  (∀ (x y:PV) (l:List PV),oItem (.tup (x::y::l)) (.int 1) = .ok y) ∧
  (∀ (x y z:PV) (l:List PV),oItem (.tup (x::y::z::l)) (.int 2) = .ok z) ∧
  (∀ (x:PV) (l:List PV),oItem (.lst (x::l)) (.int 0) = .ok x) ∧
  (∀ (x y:PV) (l:List PV),oItem (.lst (x::y::l)) (.int 1) = .ok y) ∧
  (∀ (x y z:PV) (l:List PV),oItem (.lst (x::y::z::l)) (.int 2) = .ok z) ∧
  (∀ (x0:Option PV) (ρ0:MEnv),sNext (x0::ρ0) = .next (x0::ρ0)) ∧
  (∀ (f g:FS) (x0:Option PV) (ρ0:MEnv),sSeq f g (x0::ρ0)=match f (x0::ρ0) with | .next ρ'=>g ρ' | o=>o) ∧
  (∀ (v:PV) (ρ:MEnv) (k:PV→SR),ofR (.ok v) ρ k=k v) ∧
  (∀ (c:Nat) (ρ:MEnv) (k:PV→SR),ofR (.exc c) ρ k = .exc c ρ) ∧
  (∀ (a:FE) (x0:Option PV) (ρ0:MEnv),sRet a (x0::ρ0)=ofR (a (x0::ρ0)) (x0::ρ0) fun v=>.ret v) ∧
  (∀ (a:FE) (x0:Option PV) (ρ0:MEnv),sExpr a (x0::ρ0)=ofR (a (x0::ρ0)) (x0::ρ0) fun _=>.next (x0::ρ0)) ∧
  (∀ (i:Nat) (a:FE) (x0:Option PV) (ρ0:MEnv),sSet i a (x0::ρ0)=ofR (a (x0::ρ0)) (x0::ρ0) fun v=>.next ((x0::ρ0).set i (some v))) ∧
  (∀ (t:FT) (f g:FS) (x0:Option PV) (ρ0:MEnv),sIf t f g (x0::ρ0)=match t (x0::ρ0) with | .ok c=>if c then f (x0::ρ0) else g (x0::ρ0) | .exc c=>.exc c (x0::ρ0) | .stuck=>.stuck) ∧
  (∀ (i:Nat) (it:FA) (body:FS) (x0:Option PV) (ρ0:MEnv),sFor i it body (x0::ρ0)=match it (x0::ρ0) with | .ok l=>forL i body l (x0::ρ0) | .exc c=>.exc c (x0::ρ0) | .stuck=>.stuck) ∧
  (∀ (x0:Option PV) (ρ0:MEnv),sBreak (x0::ρ0) = .brk (x0::ρ0)) ∧
  (∀ (x0:Option PV) (ρ0:MEnv),sCont (x0::ρ0) = .cont (x0::ρ0)) ∧
  (∀ (x0:Option PV) (ρ0:MEnv),sRetN (x0::ρ0) = .ret .non) ∧
  (∀ (c:Nat) (x0:Option PV) (ρ0:MEnv),sRaise c (x0::ρ0) = .exc c (x0::ρ0)) ∧
  (∀ (a:FE) (x0:Option PV) (ρ0:MEnv),iSeq a (x0::ρ0)=(a (x0::ρ0)).bind fun x=>match x with | .lst l=>.ok l | .tup l=>.ok l | _=>.stuck) ∧
  (∀ (i:Nat) (body:FS) (ρ:MEnv),forL i body [] ρ = .next ρ) ∧
  (∀ (i:Nat) (body:FS) (x:PV) (l:List PV) (ρ:MEnv),forL i body (x::l) ρ=match body (ρ.set i (some x)) with
    | .next ρ'=>forL i body l ρ'
    | .cont ρ'=>forL i body l ρ'
    | .brk ρ'=>.next ρ'
    | o=>o) ∧
  (∀ (x0:Option PV) (ρ0:MEnv),oNone (x0::ρ0) = .ok none) ∧
  (∀ (a:FE) (x0:Option PV) (ρ0:MEnv),oSome a (x0::ρ0)=(a (x0::ρ0)).bind fun x=>match x with | .int i=>.ok (some i) | _=>.stuck) ∧
  (∀ (a:FE) (l h:FO) (x0:Option PV) (ρ0:MEnv),fCut a l h (x0::ρ0)=(a (x0::ρ0)).bind fun x=>(l (x0::ρ0)).bind fun lo=>(h (x0::ρ0)).bind fun hi=>oCut x lo hi) ∧
  (∀ (l:List PV) (lo hi:Option Int),oCut (.lst l) lo hi = .ok (.lst (cutP l lo hi))) ∧
  (∀ (i:Int),isSmallI (.ok (.int i))=decide (i.natAbs<18446744073709551616)) ∧
  (∀ (k:MEnv→Bool) (c:Nat) (x0:Option PV) (ρ0:MEnv),sRaiseT k c (x0::ρ0)=if k (x0::ρ0) then .exc c (x0::ρ0) else .stuck) ∧
  (∀ (f:FS) (ks:List Nat) (d n x:Nat) (x0:Option PV) (ρ0:MEnv),sTryAs f ks d n x (x0::ρ0)=match f (x0::ρ0) with
  | .exc c ρ'=>if ks.contains c && under c d then .next (((ρ'.set n (some (.exc c))).set x (some (.exc c))).set n none) else .stuck
  | o=>o) ∧
  (∀ (ks:List Nat) (d:Nat) (a:FE) (x0:Option PV) (ρ0:MEnv),fIsExc ks d a (x0::ρ0)=(a (x0::ρ0)).bind fun x=>match x with
  | .exc c=>if ks.contains c then .ok (.bl (under c d)) else .stuck
  | .non=>.ok (.bl false)
  | _=>.stuck) ∧
  (∀ (ks:List Nat) (a:FE) (x0:Option PV) (ρ0:MEnv),fIsVal ks a (x0::ρ0)=(a (x0::ρ0)).bind fun x=>match x with
  | .exc c=>if ks.contains c then .ok (.bl true) else .stuck
  | .non=>.ok (.bl false)
  | _=>.stuck) :=
  ⟨@fVar_e,@getV_0,@getV_s,@asVal_int,@asVal_bl,@asVal_str,@asVal_non,@asVal_tup,@asVal_lst,@asVal_exc,@asVal_dic0,@fC_e,@fBin_e,@fUn_e,@oBool_e,@fAnd_e,@fOr_e,@fNot_e,@fChain_e,@fIf_e,@aNil_e,@aCons_e,@fTup_e,@fLst_e,@fCall_e,@fIsinst_e,@tVal_e,@truth_bl,@truth_int,@truth_non,@tAnd_e,@tOr_e,@tNot_e,@mkTup_1,@mkTup_2,@mkTup_3,@mkTup_4,@mkLst_0,@mkLst_1,@mkLst_2,@mkLst_3,@mkLst_4,@mkLst_5,@mkLst_6,@mkLst_7,@mkLst_8,@asVal_none,@iRange_e,@rg_1,@rg_2,@rg_3,@bind_ok,@bind_okl,@bind_okb,@bind_oko,@bindl_ok,@bindl_okl,@bindb_ok,@bindb_okb,@bindo_ok,@bind_exc,@bind_excl,@bind_excb,@bindl_exc,@bindl_excl,@bindb_exc,@bindb_excb,@fin_next,@fin_ret,@fin_exc,@run_1,@run_2,@run_3,@run_4,@run_5,@run_6,@oMul_i,@oDiv_i,@oMod_i,@oPow_i,@oShl_i,@oShr_i,@oAdd_i,@oSub_i,@oNeg_i,@oAnd_i,@oOr_i,@oXor_i,@cLt_i,@cLe_i,@cGt_i,@cGe_i,@cEq_i,@cNe_i,@cEq_b,@cNe_b,@cEq_s,@cNe_s,@cEq_tup,@cNe_tup,@cEq_lst,@cNe_lst,@cmpOkN_int,@cmpOkN_bl,@cmpOkN_str,@cmpOkN_non,@cmpOkN_tup,@cmpOkN_lst,@eqPVs_nil,@eqPVs_cons,@eqPVs_cn,@eqPVs_nc,@eqPV_i,@eqPV_b,@eqPV_s,@eqPV_t,@eqPV_l,@eqPV_n,@bLen_tup,@bLen_lst,@bAbs_i,@bMin_i,@bMax_i,@bInt_i,@bInt_b,@bBitLength_i,@bList_l,@bList_t,@bTuple_l,@bTuple_t,@isTy_int_i,@isTy_int_b,@isTy_int_s,@isTy_int_t,@isTy_bl_i,@isTy_bl_b,@isTy_bl_t,@isTy_bl_s,@isTy_tup_t,@isTy_tup_i,@isTy_tup_s,@isTy_lst_i,@isTy_lst_l,@isTy_lst_t,@isTy_lst_s,@isTy_str_i,@isTy_str_s,@isTy_str_t,@isTy_non,@isTy_dic_i,@isTy_dic_s,@oItem_t0,@oItem_t1,@oItem_t2,@oItem_l0,@oItem_l1,@oItem_l2,@sNext_e,@sSeq_e,@ofR_ok,@ofR_exc,@sRet_e,@sExpr_e,@sSet_e,@sIf_e,@sFor_e,@sBreak_e,@sCont_e,@sRetN_e,@sRaise_e,@iSeq_e,@forL_nil,@forL_cons,@oNone_e,@oSome_e,@fCut_e,@oCut_lst,@isSmallI_i,@sRaiseT_e,@sTryAs_e,@fIsExc_e,@fIsVal_e⟩
theorem p2_nat (n:Nat):p2 (n:Int)=2 ^ n:=rfl
theorem p2_pos (b:Int):0<p2 b:=Int.pow_pos (by decide)
theorem p2_0:p2 0=1:=rfl
theorem p2_1:p2 1=2:=rfl
theorem p2_add {a b:Int} (ha:0≤a) (hb:0≤b):p2 (a+b)=p2 a*p2 b:=by
  obtain ⟨m,rfl⟩:=Int.eq_ofNat_of_zero_le ha
  obtain ⟨n,rfl⟩:=Int.eq_ofNat_of_zero_le hb
  have e:((m:Int)+(n:Int))=((m+n:Nat):Int):=by omega
  rw [e,p2_nat,p2_nat,p2_nat,Int.pow_add]
theorem p2_succ {a:Int} (ha:0≤a):p2 (a+1)=2*p2 a:=by rw [p2_add ha (by decide),p2_1,Int.mul_comm]
theorem p2_le {a b:Int} (ha:0≤a) (h:a≤b):p2 a≤p2 b:=by
  have e:b=a+(b - a):=by omega
  rw [e,p2_add ha (by omega)]
  have h1:=p2_pos a
  have h2:=p2_pos (b - a)
  have:p2 a*1≤p2 a*p2 (b - a):=Int.mul_le_mul_of_nonneg_left (by omega) (by omega)
  omega
theorem p2_natAbs {b:Int} (hb:0≤b):(p2 b).natAbs=2 ^ b.toNat:=by
  show ((2:Int) ^ b.toNat).natAbs=_
  rw [Int.natAbs_pow];rfl
theorem nb_p2 {b:Int} (hb:0≤b):nb (p2 b)=b.toNat+1:=by
  have h0:p2 b≠0:=by have:=p2_pos b;omega
  show (if p2 b == 0 then 0 else (p2 b).natAbs.log2+1)=_
  rw [if_neg (by simpa using h0),p2_natAbs hb,Nat.log2_two_pow]
theorem nb_mul_le (a b:Int):nb (a*b)≤nb a+nb b:=by
  refine nb_le ?_
  have h1:=nb_lt (Nat.le_refl (nb a))
  have h2:=nb_lt (Nat.le_refl (nb b))
  rw [Int.natAbs_mul,Nat.pow_add]
  exact Nat.mul_lt_mul'' h1 h2
theorem nb_neg (a:Int):nb (-a)=nb a:=by
  show (if -a == 0 then 0 else (-a).natAbs.log2+1)=(if a == 0 then 0 else a.natAbs.log2+1)
  rw [Int.natAbs_neg]
  by_cases h:a=0
  · subst h;rfl
  · have h2 : -a≠0:=by omega
    rw [if_neg (by simpa using h2),if_neg (by simpa using h)]
theorem nb_pos {a:Int} (h:a≠0):1≤nb a:=by
  show 1≤(if a == 0 then 0 else a.natAbs.log2+1)
  rw [if_neg (by simpa using h)];omega
theorem nb_shl {a b:Int} (h:a≠0) (hb:0≤b):nb (a*p2 b)=nb a+b.toNat:=by
  have h1:a*p2 b≠0:=Int.mul_ne_zero h (by have:=p2_pos b;omega)
  show (if a*p2 b == 0 then 0 else (a*p2 b).natAbs.log2+1)=(if a == 0 then 0 else a.natAbs.log2+1)+_
  rw [if_neg (by simpa using h1),if_neg (by simpa using h),Int.natAbs_mul,p2_natAbs hb]
  have h2:a.natAbs≠0:=by omega
  have:(a.natAbs*2 ^ b.toNat).log2=a.natAbs.log2+b.toNat:=by
    refine Nat.le_antisymm ?_ ?_
    · have h3:a.natAbs<2 ^ (a.natAbs.log2+1):=Nat.lt_log2_self
      have h4:a.natAbs*2 ^ b.toNat<2 ^ (a.natAbs.log2+b.toNat+1):=by
        have e:2 ^ (a.natAbs.log2+b.toNat+1)=2 ^ (a.natAbs.log2+1)*2 ^ b.toNat:=by rw [← Nat.pow_add];congr 1;omega
        rw [e];exact Nat.mul_lt_mul_of_pos_right h3 (Nat.two_pow_pos _)
      have:=(Nat.log2_lt (by exact Nat.mul_ne_zero h2 (Nat.ne_of_gt (Nat.two_pow_pos _)))).mpr h4
      omega
    · have h3:2 ^ a.natAbs.log2≤a.natAbs:=Nat.log2_self_le h2
      refine (Nat.le_log2 (Nat.mul_ne_zero h2 (Nat.ne_of_gt (Nat.two_pow_pos _)))).mpr ?_
      rw [Nat.pow_add];exact Nat.mul_le_mul_right _ h3
  omega
theorem and_even (a b:Nat):(2*a) &&& (2*b+1)=2*(a &&& b):=by
  apply Nat.eq_of_testBit_eq
  intro i
  cases i with
  | zero=>simp
  | succ i =>
    rw [Nat.testBit_and,Nat.testBit_succ,Nat.testBit_succ,Nat.testBit_succ]
    have h1:2*a / 2=a:=by omega
    have h2:(2*b+1) / 2=b:=by omega
    have h3:2*(a &&& b) / 2=a &&& b:=by omega
    rw [h1,h2,h3,Nat.testBit_and]
theorem and_odd (j:Nat):(2*j+1) &&& (2*j)=2*j:=by
  apply Nat.eq_of_testBit_eq
  intro i
  cases i with
  | zero=>simp
  | succ i =>
    rw [Nat.testBit_and,Nat.testBit_succ,Nat.testBit_succ]
    have h1:2*j / 2=j:=by omega
    have h2:(2*j+1) / 2=j:=by omega
    rw [h1,h2,Bool.and_self]
theorem and_low (j:Nat):∀ t:Nat,((2*j+1)*2 ^ t) &&& ((2*j+1)*2 ^ t - 1)=2*j*2 ^ t
  | 0=>by simpa using and_odd j
  | t+1=>by
    have ih:=and_low j t
    have hp:0<(2*j+1)*2 ^ t:=Nat.mul_pos (by omega) (Nat.two_pow_pos t)
    have e1:(2*j+1)*2 ^ (t+1)=2*((2*j+1)*2 ^ t):=by rw [Nat.pow_succ];rw [Nat.mul_comm (2 ^ t) 2,← Nat.mul_assoc,← Nat.mul_assoc,Nat.mul_comm (2*j+1) 2]
    have e2:2*((2*j+1)*2 ^ t) - 1=2*((2*j+1)*2 ^ t - 1)+1:=by omega
    rw [e1,e2,and_even,ih,Nat.pow_succ,Nat.mul_comm (2 ^ t) 2]
    exact Nat.mul_left_comm 2 (2*j) (2 ^ t)
def tz (n:Int):Int:=(nb (Builtin.bitAnd n (-n)):Int) - 1
theorem and_neg {a:Int}{t:Nat} (h:a % 2=1):Builtin.bitAnd (a*2 ^ t) (-(a*2 ^ t))=2 ^ t:=by
  have hp:(0:Int)<2 ^ t:=Int.pow_pos (by decide)
  have key:∀ j:Nat,((2*(j:Int)+1)*2 ^ t) - ((((2*(j:Int)+1)*2 ^ t).toNat &&& (((2*(j:Int)+1)*2 ^ t) - 1).toNat:Nat):Int)=2 ^ t:=by
    intro j
    have e1:((2*(j:Int)+1)*2 ^ t)=(((2*j+1)*2 ^ t:Nat):Int):=by push_cast;rfl
    have hq:0<(2*j+1)*2 ^ t:=Nat.mul_pos (by omega) (Nat.two_pow_pos t)
    have e2:((2*(j:Int)+1)*2 ^ t) - 1=(((2*j+1)*2 ^ t - 1:Nat):Int):=by rw [e1];omega
    rw [e2,e1,Int.toNat_natCast,Int.toNat_natCast,and_low]
    push_cast
    rw [Int.add_mul];omega
  by_cases hs:0≤a
  · obtain ⟨j,hj⟩:∃ j:Nat,a=2*(j:Int)+1:=⟨((a - 1) / 2).toNat,by omega⟩
    subst hj
    have h1:0≤(2*(j:Int)+1)*2 ^ t:=Int.mul_nonneg (by omega) (by omega)
    have h1':0<(2*(j:Int)+1)*2 ^ t:=Int.mul_pos (by omega) hp
    have h2:¬ 0≤-((2*(j:Int)+1)*2 ^ t):=by omega
    unfold Builtin.bitAnd
    rw [decide_eq_true h1,decide_eq_false h2]
    show _ - (((_:Nat) &&& (Builtin.bitNot _).toNat:Nat):Int)=_
    have e3:Builtin.bitNot (-((2*(j:Int)+1)*2 ^ t))=((2*(j:Int)+1)*2 ^ t) - 1:=by unfold Builtin.bitNot;omega
    rw [e3];exact key j
  · obtain ⟨j,hj⟩:∃ j:Nat,a = -(2*(j:Int)+1):=⟨((-a - 1) / 2).toNat,by omega⟩
    subst hj
    have e0 : -(2*(j:Int)+1)*2 ^ t = -((2*(j:Int)+1)*2 ^ t):=by rw [Int.neg_mul]
    rw [e0,Int.neg_neg]
    have h1:0≤(2*(j:Int)+1)*2 ^ t:=Int.mul_nonneg (by omega) (by omega)
    have h1':0<(2*(j:Int)+1)*2 ^ t:=Int.mul_pos (by omega) hp
    have h2:¬ 0≤-((2*(j:Int)+1)*2 ^ t):=by omega
    unfold Builtin.bitAnd
    rw [decide_eq_true h1,decide_eq_false h2]
    show _ - (((_:Nat) &&& (Builtin.bitNot _).toNat:Nat):Int)=_
    have e3:Builtin.bitNot (-((2*(j:Int)+1)*2 ^ t))=((2*(j:Int)+1)*2 ^ t) - 1:=by unfold Builtin.bitNot;omega
    rw [e3];exact key j
theorem tz_of {a t:Int} (h:a % 2=1) (ht:0≤t):tz (a*p2 t)=t:=by
  unfold tz
  have e:Builtin.bitAnd (a*p2 t) (-(a*p2 t))=p2 t:=and_neg (t:=t.toNat) h
  rw [e,nb_p2 ht];omega
theorem odd_form:∀ (m:Nat) (n:Int),n.natAbs≤m→n≠0→∃ a t,0≤t∧a % 2=1∧n=a*p2 t
  | 0,n,h,h0=>by omega
  | m+1,n,h,h0=>by
    by_cases hp:n % 2=1
    · exact ⟨n,0,by decide,hp,by rw [p2_0];omega⟩
    · obtain ⟨a,t,ht,ha,e⟩:=odd_form m (n / 2) (by omega) (by omega)
      refine ⟨a,t+1,by omega,ha,?_⟩
      rw [p2_succ ht,Int.mul_comm 2,← Int.mul_assoc,← e];omega
theorem tz_spec {n:Int} (h:n≠0):0≤tz n∧(n / p2 (tz n)) % 2=1∧n / p2 (tz n)*p2 (tz n)=n:=by
  obtain ⟨a,t,ht,ha,e⟩:=odd_form _ n (Nat.le_refl _) h
  have e1:tz n=t:=by rw [e];exact tz_of ha ht
  have e2:n / p2 t=a:=by rw [e];exact Int.mul_ediv_cancel _ (by have:=p2_pos t;omega)
  rw [e1,e2]
  exact ⟨ht,ha,e.symm⟩
end Mi
local macro_rules | `(tactic| dsimp! [$l,*])=>`(tactic| simp only [Mi.ev,Mi.evl,Mi.okw,Mi.powI,Int.reduceLT,Int.reduceLE,Int.reduceNeg,Int.reduceAdd,Int.reduceSub,Int.reduceMul,Int.reducePow,Int.reduceToNat,Nat.reduceAdd,Nat.reduceSub,ne_eq,not_false_eq_true,not_true_eq_false,Int.reduceEq,reduceCtorEq,$l,*])
namespace Cm
open PySem Mi
noncomputable def z5r:FS:=sRet (fAnd (fIsinst .int (fVar 0)) (fNot (fIsinst .bool (fVar 0))))
noncomputable def z3v:List PV→R PV:=runF 1 z5r
noncomputable def z4g:FS:=sSeq (sIf (tVal (fBin cLt (fVar 1) (fCall bLen (aCons (fVar 0) (aNil))))) (sRet (fBin oItem (fVar 0) (fVar 1))) (sNext)) (sRet (fC (.int 0)))
noncomputable def z1r:List PV→R PV:=runF 2 z4g
noncomputable def z5s:FS:=sRet (fAnd (fCall z3v (aCons (fVar 0) (aNil))) (fChain cLe cLe (fVar 1) (fVar 0) (fVar 2)))
noncomputable def zt:List PV→R PV:=runF 3 z5s
noncomputable def z63:FS:=sSeq (sIf (tNot (tVal (fCall zt (aCons (fVar 0) (aCons (fC (.int 2)) (aCons (fC (.int 11)) (aNil))))))) (sRaiseT (fun ρ=>(fun _=>true) ρ && (fun ρ=>(fun ρ=>isSmallI ((fC (.int 2)) ρ)) ρ && (fun ρ=>(fun _=>true) ρ && (fun ρ=>(fun ρ=>isSmallI ((fC (.int 11)) ρ)) ρ && (fun _=>true) ρ) ρ) ρ) ρ) 1) (sNext)) (sSeq (sIf (tNot (tVal (fCall zt (aCons (fVar 1) (aCons (fC (.int 1)) (aCons (fC (.int 60)) (aNil))))))) (sRaiseT (fun ρ=>(fun _=>true) ρ && (fun ρ=>(fun ρ=>isSmallI ((fC (.int 1)) ρ)) ρ && (fun ρ=>(fun _=>true) ρ && (fun ρ=>(fun ρ=>isSmallI ((fC (.int 60)) ρ)) ρ && (fun _=>true) ρ) ρ) ρ) ρ) 1) (sNext)) (sRet (fTup (aCons (fVar 0) (aCons (fVar 1) (aNil))))))
noncomputable def zk:List PV→R PV:=runF 2 z63
noncomputable def z5m:FS:=sSeq (sIf (tOr (tNot (tVal (fIsinst .tuple (fVar 0)))) (tVal (fBin cNe (fCall bLen (aCons (fVar 0) (aNil))) (fC (.int 2))))) (sRaiseT (fun _=>true) 1) (sNext)) (sExpr (fCall zk (aCons (fBin oItem (fVar 0) (fC (.int 0))) (aCons (fBin oItem (fVar 0) (fC (.int 1))) (aNil)))))
noncomputable def q_check_width:List PV→R PV:=runF 1 z5m
noncomputable def z5w:FS:=sSeq (sExpr (fCall q_check_width (aCons (fVar 0) (aNil)))) (sRet (fBin oShl (fC (.int 1)) (fBin oAdd (fBin oAdd (fC (.int 1)) (fBin oItem (fVar 0) (fC (.int 0)))) (fBin oItem (fVar 0) (fC (.int 1))))))
noncomputable def z2u:List PV→R PV:=runF 1 z5w
noncomputable def z5k:FS:=sSeq (sExpr (fCall q_check_width (aCons (fVar 0) (aNil)))) (sRet (fBin oSub (fBin oShl (fC (.int 1)) (fBin oSub (fBin oItem (fVar 0) (fC (.int 0))) (fC (.int 1)))) (fC (.int 1))))
noncomputable def z1t:List PV→R PV:=runF 1 z5k
noncomputable def z5v:FS:=sRet (fBin oSub (fBin oSub (fC (.int 1)) (fCall z1t (aCons (fVar 0) (aNil)))) (fBin oItem (fVar 0) (fC (.int 1))))
noncomputable def z12:List PV→R PV:=runF 1 z5v
noncomputable def z5j:FS:=sRet (fBin oSub (fBin oShl (fC (.int 1)) (fVar 0)) (fC (.int 1)))
noncomputable def z6:List PV→R PV:=runF 1 z5j
noncomputable def z4l:FS:=sSeq (sSet 2 (fBin oShl (fC (.int 1)) (fBin oAdd (fBin oAdd (fC (.int 1)) (fBin oItem (fVar 0) (fC (.int 0)))) (fBin oItem (fVar 0) (fC (.int 1)))))) (sSeq (sSet 3 (fBin oMod (fBin oMul (fVar 1) (fC (.int 618033988749894848204587))) (fBin oAdd (fBin oPow (fC (.int 10)) (fC (.int 24))) (fC (.int 7))))) (sSeq (sSet 4 (fBin oShl (fBin oSub (fBin oShl (fC (.int 1)) (fBin oItem (fVar 0) (fC (.int 0)))) (fC (.int 1))) (fBin oItem (fVar 0) (fC (.int 1))))) (sSeq (sSet 5 (fLst (aCons (fC (.int 0)) (aCons (fC (.int 1)) (aCons (fBin oSub (fBin oShl (fC (.int 1)) (fBin oItem (fVar 0) (fC (.int 1)))) (fC (.int 1))) (aCons (fBin oShl (fC (.int 1)) (fBin oItem (fVar 0) (fC (.int 1)))) (aCons (fBin oSub (fVar 4) (fC (.int 1))) (aCons (fVar 4) (aCons (fBin oAdd (fVar 4) (fC (.int 1))) (aCons (fBin oAdd (fVar 4) (fBin oShl (fC (.int 1)) (fBin oSub (fBin oItem (fVar 0) (fC (.int 1))) (fC (.int 1))))) (aNil))))))))))) (sSeq (sSet 6 (fBin oMod (fBin oDiv (fVar 3) (fVar 2)) (fC (.int 16)))) (sSeq (sIf (tVal (fBin cLt (fVar 6) (fC (.int 8)))) (sRet (fBin oAdd (fBin oItem (fVar 5) (fVar 6)) (fBin oMul (fBin oMod (fVar 3) (fC (.int 2))) (fBin oDiv (fVar 2) (fC (.int 2)))))) (sNext)) (sRet (fBin oMod (fVar 3) (fVar 2))))))))
noncomputable def z2b:List PV→R PV:=runF 7 z4l
noncomputable def z5l:FS:=sIf (tNot (tVal (fCall zt (aCons (fVar 0) (aCons (fC (.int 0)) (aCons (fCall z6 (aCons (fVar 1) (aNil))) (aNil))))))) (sRaiseT (fun ρ=>(fun _=>true) ρ && (fun ρ=>(fun ρ=>isSmallI ((fVar 1) ρ)) ρ && (fun ρ=>(fun _=>true) ρ && (fun _=>true) ρ) ρ) ρ) 2) (sNext)
noncomputable def z1u:List PV→R PV:=runF 2 z5l
noncomputable def z5t:FS:=sSeq (sExpr (fCall q_check_width (aCons (fVar 0) (aNil)))) (sSeq (sExpr (fCall z1u (aCons (fVar 1) (aCons (fC (.int 1)) (aNil))))) (sSeq (sExpr (fCall z1u (aCons (fVar 2) (aCons (fBin oItem (fVar 0) (fC (.int 0))) (aNil))))) (sSeq (sExpr (fCall z1u (aCons (fVar 3) (aCons (fBin oItem (fVar 0) (fC (.int 1))) (aNil))))) (sRet (fBin oAdd (fBin oAdd (fBin oShl (fVar 1) (fBin oAdd (fBin oItem (fVar 0) (fC (.int 0))) (fBin oItem (fVar 0) (fC (.int 1))))) (fBin oShl (fVar 2) (fBin oItem (fVar 0) (fC (.int 1))))) (fVar 3))))))
noncomputable def z1y:List PV→R PV:=runF 4 z5t
noncomputable def z5n:FS:=sIf (tNot (tVal (fCall zt (aCons (fVar 1) (aCons (fC (.int 0)) (aCons (fBin oSub (fCall z2u (aCons (fVar 0) (aNil))) (fC (.int 1))) (aNil))))))) (sRaiseT (fun _=>true) 2) (sNext)
noncomputable def q_check_word:List PV→R PV:=runF 2 z5n
noncomputable def z87:FS:=sSeq (sExpr (fCall q_check_word (aCons (fVar 0) (aCons (fVar 1) (aNil))))) (sSeq (sSet 2 (fBin oShr (fVar 1) (fBin oAdd (fBin oItem (fVar 0) (fC (.int 0))) (fBin oItem (fVar 0) (fC (.int 1)))))) (sSeq (sSet 3 (fBin oAnd (fBin oShr (fVar 1) (fBin oItem (fVar 0) (fC (.int 1)))) (fCall z6 (aCons (fBin oItem (fVar 0) (fC (.int 0))) (aNil))))) (sSeq (sSet 4 (fBin oAnd (fVar 1) (fCall z6 (aCons (fBin oItem (fVar 0) (fC (.int 1))) (aNil))))) (sRet (fTup (aCons (fVar 2) (aCons (fVar 3) (aCons (fVar 4) (aNil)))))))))
noncomputable def z8f:List PV→R PV:=runF 5 z87
noncomputable def z5q:FS:=sRet (fBin oShl (fC (.int 1)) (fBin oSub (fBin oItem (fVar 0) (fC (.int 1))) (fC (.int 1))))
noncomputable def z1x:List PV→R PV:=runF 1 z5q
noncomputable def z6t:FS:=sSeq (sExpr (fCall q_check_width (aCons (fVar 0) (aNil)))) (sRet (fCall z1y (aCons (fVar 0) (aCons (fC (.int 0)) (aCons (fCall z6 (aCons (fBin oItem (fVar 0) (fC (.int 0))) (aNil))) (aCons (fCall z1x (aCons (fVar 0) (aNil))) (aNil)))))))
noncomputable def z49:List PV→R PV:=runF 1 z6t
noncomputable def z36:FS:=sSeq (sSet 2 (fCall z8f (aCons (fVar 0) (aCons (fVar 1) (aNil))))) (sSeq (sSet 3 (fBin oItem (fVar 2) (fC (.int 1)))) (sSeq (sSet 4 (fBin oItem (fVar 2) (fC (.int 2)))) (sSeq (sIf (tVal (fBin cEq (fVar 3) (fC (.int 0)))) (sRet (fIf (tVal (fBin cEq (fVar 4) (fC (.int 0)))) (fC (.str "nought")) (fC (.str "small")))) (sNext)) (sSeq (sIf (tVal (fBin cLt (fVar 3) (fCall z6 (aCons (fBin oItem (fVar 0) (fC (.int 0))) (aNil))))) (sRet (fC (.str "plain"))) (sNext)) (sSeq (sIf (tVal (fBin cEq (fVar 4) (fC (.int 0)))) (sRet (fC (.str "endless"))) (sNext)) (sRet (fIf (tVal (fBin cGe (fVar 4) (fCall z1x (aCons (fVar 0) (aNil))))) (fC (.str "still")) (fC (.str "loud")))))))))
noncomputable def za:List PV→R PV:=runF 5 z36
noncomputable def z5y:FS:=sRet (fBin oShl (fC (.int 1)) (fBin oAdd (fBin oItem (fVar 0) (fC (.int 0))) (fBin oItem (fVar 0) (fC (.int 1)))))
noncomputable def z22:List PV→R PV:=runF 1 z5y
noncomputable def z61:FS:=sSeq (sExpr (fCall q_check_word (aCons (fVar 0) (aCons (fVar 1) (aNil))))) (sRet (fBin oXor (fVar 1) (fCall z22 (aCons (fVar 0) (aNil)))))
noncomputable def z2e:List PV→R PV:=runF 2 z61
noncomputable def z62:FS:=sSeq (sExpr (fCall q_check_word (aCons (fVar 0) (aCons (fVar 1) (aNil))))) (sRet (fBin oAnd (fVar 1) (fBin oSub (fCall z22 (aCons (fVar 0) (aNil))) (fC (.int 1)))))
noncomputable def z1a:List PV→R PV:=runF 2 z62
noncomputable def z4n:FS:=sSeq (sIf (tVal (fBin cEq (fVar 0) (fC (.int 0)))) (sRet (fTup (aCons (fC (.int 0)) (aCons (fC (.int 0)) (aNil))))) (sNext)) (sSeq (sSet 2 (fBin oSub (fUn bBitLength (fBin oAnd (fVar 0) (fUn oNeg (fVar 0)))) (fC (.int 1)))) (sRet (fTup (aCons (fBin oShr (fVar 0) (fVar 2)) (aCons (fBin oAdd (fVar 1) (fVar 2)) (aNil))))))
noncomputable def zi:List PV→R PV:=runF 3 z4n
noncomputable def z4k:FS:=sSeq (sSet 1 (fBin oMod (fBin oMul (fVar 0) (fC (.int 48271))) (fC (.int 999983)))) (sSeq (sIf (tVal (fBin cEq (fBin oMod (fVar 1) (fC (.int 2))) (fC (.int 1)))) (sRet (fTup (aCons (fBin oAdd (fC (.int 2)) (fBin oMod (fBin oDiv (fVar 1) (fC (.int 2))) (fC (.int 3)))) (aCons (fBin oAdd (fC (.int 1)) (fBin oMod (fBin oDiv (fVar 1) (fC (.int 6))) (fC (.int 4)))) (aNil))))) (sNext)) (sRet (fTup (aCons (fBin oAdd (fC (.int 2)) (fBin oMod (fBin oDiv (fVar 1) (fC (.int 2))) (fC (.int 10)))) (aCons (fBin oAdd (fC (.int 1)) (fBin oMod (fBin oDiv (fVar 1) (fC (.int 20))) (fC (.int 60)))) (aNil))))))
noncomputable def z2a:List PV→R PV:=runF 2 z4k
noncomputable def z48:FS:=sSeq (sSet 2 (fCall za (aCons (fVar 0) (aCons (fVar 1) (aNil))))) (sSeq (sIf (tVal (fBin cNotIn (fVar 2) (fTup (aCons (fC (.str "nought")) (aCons (fC (.str "small")) (aCons (fC (.str "plain")) (aNil))))))) (sRaiseT (fun _=>true) 4) (sNext)) (sSeq (sSet 3 (fCall z8f (aCons (fVar 0) (aCons (fVar 1) (aNil))))) (sSeq (sSet 4 (fBin oItem (fVar 3) (fC (.int 2)))) (sSeq (sSet 5 (fCall z12 (aCons (fVar 0) (aNil)))) (sSeq (sIf (tVal (fBin cEq (fVar 2) (fC (.str "plain")))) (sSeq (sSet 4 (fBin oAdd (fVar 4) (fBin oShl (fC (.int 1)) (fBin oItem (fVar 0) (fC (.int 1)))))) (sSet 5 (fBin oSub (fBin oAdd (fVar 5) (fBin oItem (fVar 3) (fC (.int 1)))) (fC (.int 1))))) (sNext)) (sRet (fCall zi (aCons (fIf (tVal (fBin cEq (fBin oItem (fVar 3) (fC (.int 0))) (fC (.int 1)))) (fUn oNeg (fVar 4)) (fVar 4)) (aCons (fVar 5) (aNil))))))))))
noncomputable def z1b:List PV→R PV:=runF 6 z48
noncomputable def z4m:FS:=sRet (fIf (tVal (fBin cGe (fVar 1) (fC (.int 0)))) (fTup (aCons (fBin oShl (fVar 0) (fVar 1)) (aCons (fVar 2) (aNil)))) (fTup (aCons (fVar 0) (aCons (fBin oShl (fVar 2) (fUn oNeg (fVar 1))) (aNil)))))
noncomputable def z19:List PV→R PV:=runF 3 z4m
noncomputable def z4o:FS:=sSeq (sIf (tVal (fBin cEq (fVar 0) (fC (.int 0)))) (sRaiseT (fun _=>true) 4) (sNext)) (sSeq (sSet 3 (fCall bAbs (aCons (fVar 0) (aNil)))) (sSeq (sSet 4 (fBin oSub (fUn bBitLength (fVar 3)) (fUn bBitLength (fVar 2)))) (sSeq (sSet 5 (fCall z19 (aCons (fVar 3) (aCons (fUn oNeg (fVar 4)) (aCons (fVar 2) (aNil)))))) (sSeq (sIf (tVal (fBin cLt (fBin oItem (fVar 5) (fC (.int 0))) (fBin oItem (fVar 5) (fC (.int 1))))) (sSet 4 (fBin oSub (fVar 4) (fC (.int 1)))) (sNext)) (sRet (fBin oAdd (fVar 4) (fVar 1)))))))
noncomputable def z1w:List PV→R PV:=runF 6 z4o
noncomputable def z35:FS:=sSeq (sSet 4 (fCall z19 (aCons (fCall bAbs (aCons (fVar 0) (aNil))) (aCons (fBin oSub (fVar 1) (fVar 3)) (aCons (fVar 2) (aNil)))))) (sSeq (sSet 5 (fBin oDiv (fBin oItem (fVar 4) (fC (.int 0))) (fBin oItem (fVar 4) (fC (.int 1))))) (sSeq (sSet 6 (fBin oMul (fC (.int 2)) (fBin oSub (fBin oItem (fVar 4) (fC (.int 0))) (fBin oMul (fVar 5) (fBin oItem (fVar 4) (fC (.int 1))))))) (sSeq (sIf (tVal (fBin cEq (fVar 6) (fC (.int 0)))) (sRet (fTup (aCons (fVar 5) (aCons (fC (.int 0)) (aNil))))) (sNext)) (sSeq (sIf (tVal (fBin cLt (fVar 6) (fBin oItem (fVar 4) (fC (.int 1))))) (sRet (fTup (aCons (fVar 5) (aCons (fC (.int 1)) (aNil))))) (sNext)) (sRet (fTup (aCons (fVar 5) (aCons (fIf (tVal (fBin cEq (fVar 6) (fBin oItem (fVar 4) (fC (.int 1))))) (fC (.int 2)) (fC (.int 3))) (aNil)))))))))
noncomputable def z11:List PV→R PV:=runF 7 z35
noncomputable def z5o:FS:=sSeq (sExpr (fCall q_check_width (aCons (fVar 0) (aNil)))) (sRet (fCall z1y (aCons (fVar 0) (aCons (fC (.int 0)) (aCons (fCall z6 (aCons (fBin oItem (fVar 0) (fC (.int 0))) (aNil))) (aCons (fC (.int 0)) (aNil)))))))
noncomputable def z1v:List PV→R PV:=runF 1 z5o
noncomputable def z4u:FS:=sRet (fIf (tVal (fVar 2)) (fCall z2e (aCons (fVar 0) (aCons (fVar 1) (aNil)))) (fVar 1))
noncomputable def q_with_sign:List PV→R PV:=runF 3 z4u
noncomputable def z6o:FS:=sRet (fOr (fBin cEq (fVar 2) (fC (.int 3))) (fAnd (fBin cEq (fVar 2) (fC (.int 2))) (fVar 1)))
noncomputable def z52:List PV→R PV:=runF 4 z6o
noncomputable def z6m:FS:=sRet (fBin cGe (fVar 2) (fC (.int 2)))
noncomputable def z50:List PV→R PV:=runF 4 z6m
noncomputable def z6p:FS:=sRet (fC (.bl false))
noncomputable def z53:List PV→R PV:=runF 4 z6p
noncomputable def z6s:FS:=sRet (fNot (fVar 3))
noncomputable def z54:List PV→R PV:=runF 4 z6s
noncomputable def z6n:FS:=sRet (fVar 3)
noncomputable def z51:List PV→R PV:=runF 4 z6n
noncomputable def z2i:List (Nat×(List PV→R PV)):=[(21,z52),(22,z50),(23,z53),(24,z54),(25,z51)]
noncomputable def z6u:FS:=sSeq (sIf (tVal (fBin cEq (fVar 0) (fC (.str "even")))) (sRet (fMake 21)) (sNext)) (sSeq (sIf (tVal (fBin cEq (fVar 0) (fC (.str "away")))) (sRet (fMake 22)) (sNext)) (sSeq (sIf (tVal (fBin cEq (fVar 0) (fC (.str "in")))) (sRet (fMake 23)) (sNext)) (sSeq (sIf (tVal (fBin cEq (fVar 0) (fC (.str "up")))) (sRet (fMake 24)) (sNext)) (sSeq (sIf (tVal (fBin cEq (fVar 0) (fC (.str "down")))) (sRet (fMake 25)) (sNext)) (sRaiseT (fun _=>true) 3)))))
noncomputable def z1c:List PV→R PV:=runF 1 z6u
noncomputable def z4t:FS:=sSeq (sSet 3 (fAnd (fBin cNe (fBin oItem (fVar 1) (fC (.int 1))) (fC (.int 0))) (fMeth z2i (fVar 0) (aCons (fBin cEq (fBin oMod (fBin oItem (fVar 1) (fC (.int 0))) (fC (.int 2))) (fC (.int 1))) (aCons (fBin oItem (fVar 1) (fC (.int 1))) (aCons (fVar 2) (aNil))))))) (sRet (fIf (tVal (fVar 3)) (fBin oAdd (fBin oItem (fVar 1) (fC (.int 0))) (fC (.int 1))) (fBin oItem (fVar 1) (fC (.int 0)))))
noncomputable def z2d:List PV→R PV:=runF 4 z4t
noncomputable def z45:FS:=sSeq (sIf (tVal (fBin cEq (fVar 2) (fC (.int 0)))) (sRet (fC (.int 0))) (sNext)) (sRet (fIf (tVal (fBin cLt (fVar 1) (fBin oSub (fC (.int 1)) (fCall z1t (aCons (fVar 0) (aNil)))))) (fBin oAdd (fC (.int 16)) (fC (.int 8))) (fC (.int 16))))
noncomputable def z1z:List PV→R PV:=runF 3 z45
noncomputable def z4s:FS:=sRet (fCall bMax (aCons (fBin oSub (fVar 1) (fBin oItem (fVar 0) (fC (.int 1)))) (aCons (fCall z12 (aCons (fVar 0) (aNil))) (aNil))))
noncomputable def z13:List PV→R PV:=runF 2 z4s
noncomputable def z46:FS:=sSeq (sSet 5 (fCall z1v (aCons (fVar 0) (aNil)))) (sSeq (sSet 6 (fBin oSub (fCall z13 (aCons (fVar 0) (aCons (fVar 3) (aNil)))) (fCall z12 (aCons (fVar 0) (aNil))))) (sSeq (sSet 7 (fBin oAdd (fBin oShl (fVar 6) (fBin oItem (fVar 0) (fC (.int 1)))) (fCall z2d (aCons (fVar 1) (aCons (fVar 4) (aCons (fVar 2) (aNil))))))) (sSeq (sIf (tVal (fBin cLt (fVar 7) (fVar 5))) (sRet (fTup (aCons (fCall q_with_sign (aCons (fVar 0) (aCons (fVar 7) (aCons (fVar 2) (aNil))))) (aCons (fCall z1z (aCons (fVar 0) (aCons (fVar 3) (aCons (fBin oItem (fVar 4) (fC (.int 1))) (aNil))))) (aNil))))) (sNext)) (sSeq (sSet 7 (fIf (tVal (fMeth z2i (fVar 1) (aCons (fC (.bl true)) (aCons (fC (.int 3)) (aCons (fVar 2) (aNil)))))) (fVar 5) (fBin oSub (fVar 5) (fC (.int 1))))) (sRet (fTup (aCons (fCall q_with_sign (aCons (fVar 0) (aCons (fVar 7) (aCons (fVar 2) (aNil))))) (aCons (fBin oAdd (fC (.int 4)) (fC (.int 16))) (aNil)))))))))
noncomputable def z21:List PV→R PV:=runF 8 z46
noncomputable def z5z:FS:=sSeq (sExpr (fCall q_check_width (aCons (fVar 0) (aNil)))) (sSeq (sSet 5 (fCall z1c (aCons (fVar 4) (aNil)))) (sSeq (sIf (tVal (fBin cEq (fVar 1) (fC (.int 0)))) (sRet (fTup (aCons (fC (.int 0)) (aCons (fC (.int 0)) (aNil))))) (sNext)) (sSeq (sSet 6 (fCall z1w (aCons (fVar 1) (aCons (fVar 2) (aCons (fVar 3) (aNil)))))) (sSeq (sSet 7 (fCall z11 (aCons (fVar 1) (aCons (fVar 2) (aCons (fVar 3) (aCons (fCall z13 (aCons (fVar 0) (aCons (fVar 6) (aNil)))) (aNil))))))) (sRet (fCall z21 (aCons (fVar 0) (aCons (fVar 5) (aCons (fBin cLt (fVar 1) (fC (.int 0))) (aCons (fVar 6) (aCons (fVar 7) (aNil))))))))))))
noncomputable def zv:List PV→R PV:=runF 8 z5z
noncomputable def z4j:FS:=sSeq (sIf (tVal (fBin cLt (fVar 1) (fBin oShl (fC (.int 1)) (fBin oItem (fVar 0) (fC (.int 1)))))) (sRet (fVar 1)) (sNext)) (sRet (fBin oShl (fBin oAdd (fBin oMod (fVar 1) (fBin oShl (fC (.int 1)) (fBin oItem (fVar 0) (fC (.int 1))))) (fBin oShl (fC (.int 1)) (fBin oItem (fVar 0) (fC (.int 1))))) (fBin oSub (fBin oShr (fVar 1) (fBin oItem (fVar 0) (fC (.int 1)))) (fC (.int 1)))))
noncomputable def zy:List PV→R PV:=runF 2 z4j
noncomputable def z43:FS:=sIf (tOr (tVal (fBin cEq (fVar 0) (fC (.str "")))) (tNot (tVal (fCall bAll (aCons (fComp 1 (iStr (fVar 0)) (tTrue) (fBin cIn (fVar 1) (fC (.str "0123456789")))) (aNil)))))) (sRaiseT (fun _=>true) 6) (sNext)
noncomputable def q_check_figures_v3:List PV→R PV:=runF 1 z43
noncomputable def z24:FS:=sSeq (sSet 1 (fStrM bStartswith (fVar 0) (aCons (fC (.str "-")) (aNil)))) (sSeq (sSet 2 (fIf (tVal (fVar 1)) (fCut (fVar 0) (oSome (fC (.int 1))) (oNone)) (fVar 0))) (sSeq (sExpr (fCall q_check_figures_v3 (aCons (fVar 2) (aNil)))) (sSeq (sIf (tVal (fBin cGt (fCall bLen (aCons (fVar 2) (aNil))) (fC (.int 3)))) (sRaiseT (fun ρ=>(fun _=>true) ρ && (fun ρ=>(fun ρ=>isSmallI ((fC (.int 3)) ρ)) ρ && (fun ρ=>(fun _=>true) ρ && (fun _=>true) ρ) ρ) ρ) 6) (sNext)) (sRet (fIf (tVal (fVar 1)) (fUn oNeg (fCall bIntL (aCons (fVar 2) (aNil)))) (fCall bIntL (aCons (fVar 2) (aNil))))))))
noncomputable def zu:List PV→R PV:=runF 3 z24
noncomputable def zx:FS:=sSeq (sIf (tOr (tNot (tVal (fIsinst .str (fVar 0)))) (tVal (fBin cGt (fCall bLen (aCons (fVar 0) (aNil))) (fC (.int 1200))))) (sRaiseT (fun ρ=>(fun _=>true) ρ && (fun ρ=>(fun ρ=>isSmallI ((fC (.int 1200)) ρ)) ρ && (fun ρ=>(fun _=>true) ρ && (fun _=>true) ρ) ρ) ρ) 6) (sNext)) (sSeq (sSet 1 (fStrM bStartswith (fVar 0) (aCons (fC (.str "-")) (aNil)))) (sSeq (sSet 2 (fStrM bPartition (fIf (tVal (fVar 1)) (fCut (fVar 0) (oSome (fC (.int 1))) (oNone)) (fVar 0)) (aCons (fC (.str "e")) (aNil)))) (sSeq (sSet 3 (fStrM bPartition (fBin oItem (fVar 2) (fC (.int 0))) (aCons (fC (.str ".")) (aNil)))) (sSeq (sExpr (fCall q_check_figures_v3 (aCons (fBin oItem (fVar 3) (fC (.int 0))) (aNil)))) (sSeq (sIf (tVal (fBin cEq (fBin oItem (fVar 3) (fC (.int 1))) (fC (.str ".")))) (sExpr (fCall q_check_figures_v3 (aCons (fBin oItem (fVar 3) (fC (.int 2))) (aNil)))) (sNext)) (sSeq (sSet 4 (fIf (tVal (fBin cEq (fBin oItem (fVar 2) (fC (.int 1))) (fC (.str "e")))) (fCall zu (aCons (fBin oItem (fVar 2) (fC (.int 2))) (aNil))) (fC (.int 0)))) (sRet (fTup (aCons (fVar 1) (aCons (fCall bIntL (aCons (fBin oAdd (fBin oItem (fVar 3) (fC (.int 0))) (fBin oItem (fVar 3) (fC (.int 2)))) (aNil))) (aCons (fBin oSub (fVar 4) (fCall bLen (aCons (fBin oItem (fVar 3) (fC (.int 2))) (aNil)))) (aNil))))))))))))
noncomputable def z4:List PV→R PV:=runF 5 zx
noncomputable def z2l:FS:=sSeq (sIf (tVal (fBin cEq (fBin oMod (fVar 0) (fC (.int 2))) (fC (.int 1)))) (sSet 1 (fBin oMul (fVar 1) (fVar 2))) (sNext)) (sSeq (sSet 2 (fBin oMul (fVar 2) (fVar 2))) (sSet 0 (fBin oDiv (fVar 0) (fC (.int 2)))))
noncomputable def z60:FS:=sSeq (sSet 1 (fC (.int 1))) (sSeq (sSet 2 (fC (.int 10))) (sSeq (sWhile (tVal (fBin cGt (fVar 0) (fC (.int 0)))) (z2l)) (sRet (fVar 1))))
noncomputable def zj:List PV→R PV:=runF 3 z60
noncomputable def z5x:FS:=sSeq (sIf (tVal (fBin cEq (fVar 1) (fC (.str "none")))) (sRet (fCall z49 (aCons (fVar 0) (aNil)))) (sNext)) (sSeq (sIf (tOr (tVal (fBin cEq (fVar 1) (fC (.str "endless")))) (tVal (fBin cEq (fVar 1) (fC (.str "-endless"))))) (sRet (fCall q_with_sign (aCons (fVar 0) (aCons (fCall z1v (aCons (fVar 0) (aNil))) (aCons (fBin cEq (fVar 1) (fC (.str "-endless"))) (aNil)))))) (sNext)) (sRet (fC .non)))
noncomputable def z2v:List PV→R PV:=runF 2 z5x
noncomputable def z23:FS:=sSeq (sIf (tVal (fBin cLt (fVar 2) (fC (.int 0)))) (sRet (fCall zv (aCons (fVar 0) (aCons (fVar 1) (aCons (fC (.int 0)) (aCons (fCall zj (aCons (fUn oNeg (fVar 2)) (aNil))) (aCons (fVar 3) (aNil)))))))) (sNext)) (sRet (fCall zv (aCons (fVar 0) (aCons (fBin oMul (fVar 1) (fCall zj (aCons (fVar 2) (aNil)))) (aCons (fC (.int 0)) (aCons (fC (.int 1)) (aCons (fVar 3) (aNil))))))))
noncomputable def z9:List PV→R PV:=runF 4 z23
noncomputable def z2k:FS:=sSeq (sExpr (fCall q_check_width (aCons (fVar 0) (aNil)))) (sSeq (sSet 3 (fCall z2v (aCons (fVar 0) (aCons (fVar 1) (aNil))))) (sSeq (sIf (tVal (fUn cNotN (fVar 3))) (sSeq (sExpr (fCall z1c (aCons (fVar 2) (aNil)))) (sRet (fTup (aCons (fVar 3) (aCons (fC (.int 0)) (aNil)))))) (sNext)) (sSeq (sSet 4 (fCall z4 (aCons (fVar 1) (aNil)))) (sSeq (sIf (tVal (fBin cEq (fBin oItem (fVar 4) (fC (.int 1))) (fC (.int 0)))) (sSeq (sExpr (fCall z1c (aCons (fVar 2) (aNil)))) (sRet (fTup (aCons (fCall q_with_sign (aCons (fVar 0) (aCons (fC (.int 0)) (aCons (fBin oItem (fVar 4) (fC (.int 0))) (aNil))))) (aCons (fC (.int 0)) (aNil)))))) (sNext)) (sRet (fCall z9 (aCons (fVar 0) (aCons (fIf (tVal (fBin oItem (fVar 4) (fC (.int 0)))) (fUn oNeg (fBin oItem (fVar 4) (fC (.int 1)))) (fBin oItem (fVar 4) (fC (.int 1)))) (aCons (fBin oItem (fVar 4) (fC (.int 2))) (aCons (fVar 2) (aNil)))))))))))
noncomputable def q_read:List PV→R PV:=runF 5 z2k
noncomputable def z6r:FS:=sSeq (sIf (tVal (fBin cEq (fBin oMod (fVar 0) (fC (.int 2))) (fC (.int 1)))) (sSet 1 (fBin oMul (fVar 1) (fVar 2))) (sNext)) (sSeq (sSet 2 (fBin oMul (fVar 2) (fVar 2))) (sSet 0 (fBin oDiv (fVar 0) (fC (.int 2)))))
noncomputable def z6q:FS:=sSeq (sSet 1 (fC (.int 1))) (sSeq (sSet 2 (fC (.int 10))) (sSeq (sWhile (tVal (fBin cGt (fVar 0) (fC (.int 0)))) (z6r)) (sRet (fVar 1))))
noncomputable def z5:List PV→R PV:=runF 3 z6q
noncomputable def z4q:FS:=sSeq (sSet 1 (fUn oNeg (fBin oItem (fVar 0) (fC (.int 1))))) (sSeq (sIf (tVal (fBin cEq (fVar 1) (fC (.int 0)))) (sRet (fCall bStrL (aCons (fBin oItem (fVar 0) (fC (.int 0))) (aNil)))) (sNext)) (sSeq (sSet 2 (fStrM bZfill (fCall bStrL (aCons (fBin oItem (fVar 0) (fC (.int 0))) (aNil))) (aCons (fBin oAdd (fVar 1) (fC (.int 1))) (aNil)))) (sRet (fBin oAdd (fBin oAdd (fCut (fVar 2) (oNone) (oSome (fUn oNeg (fVar 1)))) (fC (.str "."))) (fCut (fVar 2) (oSome (fUn oNeg (fVar 1))) (oNone))))))
noncomputable def z2c:List PV→R PV:=runF 3 z4q
noncomputable def z4r:FS:=sSeq (sSet 1 (fCall bStrL (aCons (fBin oItem (fVar 0) (fC (.int 0))) (aNil)))) (sSeq (sSet 2 (fBin oSub (fBin oAdd (fBin oItem (fVar 0) (fC (.int 1))) (fCall bLen (aCons (fVar 1) (aNil)))) (fC (.int 1)))) (sSeq (sSet 1 (fStrM bRstrip (fVar 1) (aCons (fC (.str "0")) (aNil)))) (sSeq (sSet 3 (fBin oItem (fVar 1) (fC (.int 0)))) (sSeq (sSet 4 (fCut (fVar 1) (oSome (fC (.int 1))) (oNone))) (sRet (fIf (tVal (fVar 4)) (fJoined (wCons (wFmt (fVar 3)) (wCons (wStr ".") (wCons (wFmt (fVar 4)) (wCons (wStr "e") (wCons (wFmt (fVar 2)) (wNil))))))) (fJoined (wCons (wFmt (fVar 3)) (wCons (wStr "e") (wCons (wFmt (fVar 2)) (wNil)))))))))))
noncomputable def z20:List PV→R PV:=runF 5 z4r
noncomputable def z44:FS:=sSeq (sSet 2 (fCall z1b (aCons (fVar 0) (aCons (fCall z1a (aCons (fVar 0) (aCons (fVar 1) (aNil)))) (aNil))))) (sSeq (sSet 3 (fBin oItem (fVar 2) (fC (.int 1)))) (sSeq (sIf (tVal (fBin cGe (fVar 3) (fC (.int 0)))) (sRet (fTup (aCons (fBin oShl (fBin oItem (fVar 2) (fC (.int 0))) (fVar 3)) (aCons (fC (.int 0)) (aNil))))) (sNext)) (sRet (fTup (aCons (fBin oShr (fBin oMul (fBin oItem (fVar 2) (fC (.int 0))) (fCall zj (aCons (fUn oNeg (fVar 3)) (aNil)))) (fUn oNeg (fVar 3))) (aCons (fVar 3) (aNil)))))))
noncomputable def z10:List PV→R PV:=runF 4 z44
noncomputable def z2j:FS:=sSeq (sSet 2 (fCall za (aCons (fVar 0) (aCons (fVar 1) (aNil))))) (sSeq (sIf (tVal (fBin cIn (fVar 2) (fTup (aCons (fC (.str "still")) (aCons (fC (.str "loud")) (aNil)))))) (sRet (fC (.str "none"))) (sNext)) (sSeq (sSet 3 (fIf (tVal (fBin cEq (fBin oItem (fCall z8f (aCons (fVar 0) (aCons (fVar 1) (aNil)))) (fC (.int 0))) (fC (.int 1)))) (fC (.str "-")) (fC (.str "")))) (sRet (fBin oAdd (fVar 3) (fIf (tVal (fBin cEq (fVar 2) (fC (.str "endless")))) (fC (.str "endless")) (fCall z2c (aCons (fCall z10 (aCons (fVar 0) (aCons (fVar 1) (aNil)))) (aNil))))))))
noncomputable def zc:List PV→R PV:=runF 4 z2j
noncomputable def z26:FS:=sIf (tVal (fBin cEq (fBin oItem (fCall z9 (aCons (fVar 0) (aCons (fVar 9) (aCons (fVar 8) (aCons (fC (.str "even")) (aNil)))))) (fC (.int 0))) (fVar 1))) (sRet (fTup (aCons (fVar 9) (aCons (fVar 8) (aNil))))) (sNext)
noncomputable def z25:FS:=sSeq (sSet 4 (fCall zj (aCons (fVar 3) (aNil)))) (sSeq (sSet 5 (fBin oDiv (fBin oItem (fVar 2) (fC (.int 0))) (fVar 4))) (sSeq (sSet 6 (fBin cLe (fBin oMul (fC (.int 2)) (fBin oSub (fBin oItem (fVar 2) (fC (.int 0))) (fBin oMul (fVar 5) (fVar 4)))) (fVar 4))) (sSeq (sSet 7 (fIf (tVal (fVar 6)) (fTup (aCons (fVar 5) (aCons (fBin oAdd (fVar 5) (fC (.int 1))) (aNil)))) (fTup (aCons (fBin oAdd (fVar 5) (fC (.int 1))) (aCons (fVar 5) (aNil)))))) (sSeq (sSet 8 (fBin oAdd (fBin oItem (fVar 2) (fC (.int 1))) (fVar 3))) (sSeq (sFor 9 (iSeq (fVar 7)) (z26)) (sRet (fC .non)))))))
noncomputable def zw:List PV→R PV:=runF 10 z25
noncomputable def z14:FS:=sSeq (sSet 4 (fCall zw (aCons (fVar 0) (aCons (fVar 1) (aCons (fVar 2) (aCons (fVar 3) (aNil))))))) (sSet 3 (fBin oSub (fVar 3) (fC (.int 1))))
noncomputable def z5p:FS:=sSeq (sSet 2 (fCall z10 (aCons (fVar 0) (aCons (fVar 1) (aNil))))) (sSeq (sSet 3 (fBin oSub (fCall bLen (aCons (fCall bStrL (aCons (fBin oItem (fVar 2) (fC (.int 0))) (aNil))) (aNil))) (fC (.int 1)))) (sSeq (sSet 4 (fC .non)) (sSeq (sWhile (tVal (fUn cIsN (fVar 4))) (z14)) (sRet (fVar 4)))))
noncomputable def z2s:List PV→R PV:=runF 5 z5p
noncomputable def z47:FS:=sSeq (sIf (tVal (fBin cNotIn (fCall za (aCons (fVar 0) (aCons (fVar 1) (aNil)))) (fTup (aCons (fC (.str "small")) (aCons (fC (.str "plain")) (aNil)))))) (sRet (fCall zc (aCons (fVar 0) (aCons (fVar 1) (aNil))))) (sNext)) (sSeq (sSet 2 (fIf (tVal (fBin cEq (fBin oItem (fCall z8f (aCons (fVar 0) (aCons (fVar 1) (aNil)))) (fC (.int 0))) (fC (.int 1)))) (fC (.str "-")) (fC (.str "")))) (sRet (fBin oAdd (fVar 2) (fCall z20 (aCons (fCall z2s (aCons (fVar 0) (aCons (fCall z1a (aCons (fVar 0) (aCons (fVar 1) (aNil)))) (aNil)))) (aNil))))))
noncomputable def z7:List PV→R PV:=runF 3 z47
noncomputable def z32:FS:=sIf (tVal (fBin cNotIn (fVar 1) (fC (.str "0123456789")))) (sRet (fC (.bl false))) (sNext)
noncomputable def z4f:FS:=sSeq (sFor 1 (iStr (fVar 0)) (z32)) (sRet (fAnd (fBin cNe (fVar 0) (fC (.str ""))) (fOr (fBin cEq (fVar 0) (fC (.str "0"))) (fBin cNe (fCut (fVar 0) (oNone) (oSome (fC (.int 1)))) (fC (.str "0"))))))
noncomputable def z1q:List PV→R PV:=runF 2 z4f
noncomputable def z33:FS:=sSeq (sSet 2 (fBin oShl (fC (.int 1)) (fBin oAdd (fBin oItem (fVar 0) (fC (.int 0))) (fBin oItem (fVar 0) (fC (.int 1)))))) (sSeq (sSet 3 (fBin oShl (fBin oSub (fBin oShl (fC (.int 1)) (fBin oItem (fVar 0) (fC (.int 0)))) (fC (.int 1))) (fBin oItem (fVar 0) (fC (.int 1))))) (sSeq (sIf (tVal (fBin cGt (fBin oMod (fVar 1) (fVar 2)) (fVar 3))) (sRet (fC (.str "none"))) (sNext)) (sSeq (sIf (tVal (fBin cEq (fBin oMod (fVar 1) (fVar 2)) (fVar 3))) (sRet (fBin oItem (fLst (aCons (fC (.str "endless")) (aCons (fC (.str "-endless")) (aNil)))) (fBin oDiv (fVar 1) (fVar 2)))) (sNext)) (sSeq (sIf (tVal (fBin cEq (fBin oMod (fVar 1) (fVar 2)) (fC (.int 0)))) (sRet (fBin oItem (fLst (aCons (fC (.str "0")) (aCons (fC (.str "-0")) (aNil)))) (fBin oDiv (fVar 1) (fVar 2)))) (sNext)) (sRet (fC (.str "")))))))
noncomputable def zh:List PV→R PV:=runF 4 z33
noncomputable def z34:FS:=sSeq (sUnpack [2,3,4] (fStrM bPartition (fVar 0) (aCons (fC (.str "e")) (aNil)))) (sSeq (sUnpack [5,6,7] (fStrM bPartition (fVar 2) (aCons (fC (.str ".")) (aNil)))) (sSeq (sSet 1 (fVar 4)) (sSeq (sIf (tVal (fBin cEq (fCut (fVar 4) (oNone) (oSome (fC (.int 1)))) (fC (.str "-")))) (sSet 1 (fCut (fVar 4) (oSome (fC (.int 1))) (oNone))) (sNext)) (sSeq (sIf (tOr (tVal (fBin cNe (fVar 3) (fC (.str "e")))) (tOr (tNot (tVal (fCall z1q (aCons (fVar 1) (aNil))))) (tOr (tVal (fBin cEq (fVar 4) (fC (.str "-0")))) (tVal (fBin cGt (fCall bLen (aCons (fVar 1) (aNil))) (fC (.int 3))))))) (sRet (fC .non)) (sNext)) (sSeq (sIf (tOr (tVal (fBin cNe (fCall bLen (aCons (fVar 5) (aNil))) (fC (.int 1)))) (tVal (fBin cNotIn (fVar 5) (fC (.str "123456789"))))) (sRet (fC .non)) (sNext)) (sSeq (sIf (tAnd (tVal (fBin cEq (fVar 6) (fC (.str ".")))) (tOr (tNot (tVal (fCall z1q (aCons (fBin oAdd (fC (.str "1")) (fVar 7)) (aNil))))) (tOr (tVal (fBin cEq (fVar 7) (fC (.str "")))) (tVal (fBin cEq (fCut (fVar 7) (oSome (fBin oSub (fCall bLen (aCons (fVar 7) (aNil))) (fC (.int 1)))) (oNone)) (fC (.str "0"))))))) (sRet (fC .non)) (sNext)) (sRet (fTup (aCons (fCall bIntL (aCons (fBin oAdd (fVar 5) (fVar 7)) (aNil))) (aCons (fCall bIntL (aCons (fVar 4) (aNil))) (aCons (fBin oAdd (fC (.int 1)) (fCall bLen (aCons (fVar 7) (aNil)))) (aNil))))))))))))
noncomputable def zq:List PV→R PV:=runF 8 z34
noncomputable def z5h:FS:=sSeq (sSet 4 (fBin oSub (fBin oAdd (fBin oItem (fVar 0) (fC (.int 1))) (fBin oShl (fC (.int 1)) (fBin oSub (fBin oItem (fVar 0) (fC (.int 0))) (fC (.int 1))))) (fC (.int 2)))) (sSeq (sSet 5 (fBin oAdd (fBin oSub (fVar 3) (fVar 2)) (fC (.int 1)))) (sSeq (sSet 6 (fBin oMul (fCall zy (aCons (fVar 0) (aCons (fVar 1) (aNil)))) (fCall z5 (aCons (fCall bMax (aCons (fBin oSub (fC (.int 0)) (fVar 5)) (aCons (fC (.int 0)) (aNil)))) (aNil))))) (sSeq (sSet 7 (fBin oShl (fCall z5 (aCons (fCall bMax (aCons (fVar 5) (aCons (fC (.int 0)) (aNil)))) (aNil))) (fVar 4))) (sSeq (sUnpack [8,9] (fCall bDivmod (aCons (fVar 6) (aCons (fVar 7) (aNil))))) (sRet (fTup (aCons (fVar 8) (aCons (fBin oAdd (fVar 8) (fC (.int 1))) (aCons (fVar 5) (aCons (fBin oSub (fBin oMul (fC (.int 2)) (fVar 9)) (fVar 7)) (aNil)))))))))))
noncomputable def z1s:List PV→R PV:=runF 10 z5h
noncomputable def z4h:FS:=sSeq (sSet 3 (fBin oSub (fBin oAdd (fBin oItem (fVar 0) (fC (.int 1))) (fBin oShl (fC (.int 1)) (fBin oSub (fBin oItem (fVar 0) (fC (.int 0))) (fC (.int 1))))) (fC (.int 2)))) (sSeq (sSet 4 (fBin oMul (fCall zy (aCons (fVar 0) (aCons (fVar 1) (aNil)))) (fCall z5 (aCons (fCall bMax (aCons (fBin oSub (fC (.int 0)) (fVar 2)) (aCons (fC (.int 0)) (aNil)))) (aNil))))) (sSeq (sSet 5 (fBin oShl (fCall z5 (aCons (fCall bMax (aCons (fVar 2) (aCons (fC (.int 0)) (aNil)))) (aNil))) (fVar 3))) (sSeq (sIf (tVal (fBin cLt (fVar 4) (fVar 5))) (sSeq (sSet 2 (fBin oSub (fVar 2) (fC (.int 1)))) (sRet (fTup (aCons (fVar 2) (aCons (fBin cGe (fBin oMul (fC (.int 10)) (fVar 4)) (fVar 5)) (aNil)))))) (sNext)) (sRet (fTup (aCons (fVar 2) (aCons (fBin cLt (fVar 4) (fBin oMul (fC (.int 10)) (fVar 5))) (aNil))))))))
noncomputable def z28:List PV→R PV:=runF 6 z4h
noncomputable def z5i:FS:=sRet (fBin cEq (fBin oItem (fCall (dflt q_read [.str "even"]) (aCons (fVar 0) (aCons (fBin oAdd (fBin oAdd (fCall bStrL (aCons (fVar 2) (aNil))) (fC (.str "e"))) (fCall bStrL (aCons (fVar 3) (aNil)))) (aNil)))) (fC (.int 0))) (fVar 1))
noncomputable def zr:List PV→R PV:=runF 4 z5i
noncomputable def z4i:FS:=sSeq (sSet 3 (fCall zk (aCons (fBin oItem (fVar 0) (fC (.int 0))) (aCons (fBin oItem (fVar 0) (fC (.int 1))) (aNil))))) (sSeq (sUnpack [5,6] (fCall z28 (aCons (fVar 0) (aCons (fVar 1) (aCons (fBin oItem (fVar 2) (fC (.int 1))) (aNil)))))) (sSeq (sIf (tNot (tVal (fVar 6))) (sRet (fC (.bl false))) (sNext)) (sSeq (sIf (tVal (fBin cGt (fBin oItem (fVar 2) (fC (.int 2))) (fC (.int 1)))) (sSeq (sUnpack [7,8,9,10] (fCall z1s (aCons (fVar 0) (aCons (fVar 1) (aCons (fBin oSub (fBin oItem (fVar 2) (fC (.int 2))) (fC (.int 1))) (aCons (fVar 5) (aNil))))))) (sIf (tOr (tVal (fCall zr (aCons (fVar 3) (aCons (fVar 1) (aCons (fVar 7) (aCons (fVar 9) (aNil))))))) (tVal (fCall zr (aCons (fVar 3) (aCons (fVar 1) (aCons (fVar 8) (aCons (fVar 9) (aNil)))))))) (sRet (fC (.bl false))) (sNext))) (sNext)) (sSeq (sUnpack [7,8,9,10] (fCall z1s (aCons (fVar 0) (aCons (fVar 1) (aCons (fBin oItem (fVar 2) (fC (.int 2))) (aCons (fVar 5) (aNil))))))) (sSeq (sSet 4 (fBin oMul (fBin oItem (fVar 2) (fC (.int 0))) (fCall z5 (aCons (fBin oSub (fBin oAdd (fBin oSub (fBin oItem (fVar 2) (fC (.int 1))) (fBin oItem (fVar 2) (fC (.int 2)))) (fC (.int 1))) (fVar 9)) (aNil))))) (sSeq (sIf (tVal (fBin cEq (fVar 4) (fVar 7))) (sRet (fOr (fBin cLe (fVar 10) (fC (.int 0))) (fNot (fCall zr (aCons (fVar 3) (aCons (fVar 1) (aCons (fVar 8) (aCons (fVar 9) (aNil))))))))) (sNext)) (sRet (fAnd (fBin cEq (fVar 4) (fVar 8)) (fOr (fBin cGt (fVar 10) (fC (.int 0))) (fNot (fCall zr (aCons (fVar 3) (aCons (fVar 1) (aCons (fVar 7) (aCons (fVar 9) (aNil))))))))))))))))
noncomputable def z29:List PV→R PV:=runF 11 z4i
noncomputable def z42:FS:=sSeq (sSet 2 (fCall zk (aCons (fBin oItem (fVar 0) (fC (.int 0))) (aCons (fBin oItem (fVar 0) (fC (.int 1))) (aNil))))) (sSeq (sSet 3 (fBin oShl (fC (.int 1)) (fBin oAdd (fBin oItem (fVar 0) (fC (.int 0))) (fBin oItem (fVar 0) (fC (.int 1)))))) (sSeq (sSet 4 (fCall z7 (aCons (fVar 2) (aCons (fVar 1) (aNil))))) (sSeq (sIf (tNot (tVal (fIsinst .str (fVar 4)))) (sRet (fC (.bl false))) (sNext)) (sSeq (sIf (tVal (fBin cNe (fCall zh (aCons (fVar 0) (aCons (fVar 1) (aNil)))) (fC (.str "")))) (sRet (fBin cEq (fVar 4) (fCall zh (aCons (fVar 0) (aCons (fVar 1) (aNil)))))) (sNext)) (sSeq (sIf (tOr (tVal (fBin cNe (fBin cEq (fCut (fVar 4) (oNone) (oSome (fC (.int 1)))) (fC (.str "-"))) (fBin cGe (fVar 1) (fVar 3)))) (tVal (fBin cNe (fBin oItem (fCall (dflt q_read [.str "even"]) (aCons (fVar 2) (aCons (fVar 4) (aNil)))) (fC (.int 0))) (fVar 1)))) (sRet (fC (.bl false))) (sNext)) (sSeq (sSet 5 (fCall zq (aCons (fCut (fVar 4) (oSome (fCall bInt (aCons (fBin cGe (fVar 1) (fVar 3)) (aNil)))) (oNone)) (aNil)))) (sRet (fAnd (fUn cNotN (fVar 5)) (fCall z29 (aCons (fVar 0) (aCons (fBin oMod (fVar 1) (fVar 3)) (aCons (fVar 5) (aNil)))))))))))))
noncomputable def z18:List PV→R PV:=runF 6 z42
noncomputable def z4p:FS:=sIf (tNot (tVal (fCall z18 (aCons (fVar 1) (aCons (fCall z2b (aCons (fVar 1) (aCons (fVar 4) (aNil)))) (aNil)))))) (sRet (fC (.bl false))) (sNext)
noncomputable def z5u:FS:=sSeq (sSet 1 (fCall z2a (aCons (fCall z1r (aCons (fVar 0) (aCons (fC (.int 0)) (aNil)))) (aNil)))) (sSeq (sSet 2 (fCall zk (aCons (fBin oItem (fVar 1) (fC (.int 0))) (aCons (fBin oItem (fVar 1) (fC (.int 1))) (aNil))))) (sSeq (sSet 3 (fBin oShl (fC (.int 1)) (fBin oAdd (fBin oItem (fVar 1) (fC (.int 0))) (fBin oItem (fVar 1) (fC (.int 1)))))) (sSeq (sFor 4 (iSeq (fCut (fVar 0) (oSome (fC (.int 1))) (oSome (fC (.int 5))))) (z4p)) (sSeq (sSet 5 (fBin oAdd (fC (.str "1e")) (fCall bStr (aCons (fBin oSub (fBin oMod (fBin oMod (fBin oMul (fCall z1r (aCons (fVar 0) (aCons (fC (.int 1)) (aNil)))) (fC (.int 48271))) (fC (.int 1000003))) (fC (.int 41))) (fC (.int 20))) (aNil))))) (sSeq (sIf (tNot (tVal (fCall z18 (aCons (fVar 1) (aCons (fBin oItem (fCall q_read (aCons (fVar 2) (aCons (fVar 5) (aCons (fC (.str "down")) (aNil))))) (fC (.int 0))) (aNil)))))) (sRet (fC (.bl false))) (sNext)) (sRet (fBin cEq (fCall z7 (aCons (fVar 2) (aCons (fC (.int 1)) (aNil)))) (fCut (fCall z7 (aCons (fVar 2) (aCons (fBin oAdd (fVar 3) (fC (.int 1))) (aNil)))) (oSome (fC (.int 1))) (oNone)))))))))
noncomputable def q_law_v88:List PV→R PV:=runF 6 z5u
open PySem.Builtin.Str PySem.NumText
def tx (l:List Nat):PySem.Str:=⟨l.toArray⟩
theorem tx_l (l:List Nat):(tx l).cps.toList=l:=by simp [tx]
theorem tx_inj {a b:List Nat} (h:tx a=tx b):a=b:=by rw [← tx_l a,h,tx_l]
theorem tx_app (a b:List Nat):tx a ++ tx b=tx (a ++ b):=by
  show (⟨a.toArray ++ b.toArray⟩:PySem.Str)=_
  simp [tx]
theorem tx_len (a:List Nat):(tx a).length=a.length:=by show (tx a).cps.size=_;simp [tx]
theorem tx_beq (a b:List Nat):(tx a == tx b)=decide (a=b):=by
  by_cases h:a=b
  · subst h;simp
  · rw [decide_eq_false h];exact beq_eq_false_iff_ne.mpr fun q=>h (tx_inj q)
theorem line_of {n:Nat} (h:n≤16000000):n≤sizeLine:=Nat.le_trans h (by decide)
theorem tAdd {a b:List Nat} (h:a.length+b.length≤16000000):oAdd (.str (tx a)) (.str (tx b)) = .ok (.str (tx (a ++ b))):=by
  show (if _ then _ else _)=_
  rw [tx_len,tx_len,if_pos (line_of h),tx_app]
theorem tLen {a:List Nat} (h:a.length≤16000000):bLen [.str (tx a)] = .ok (.int a.length):=by
  show (if _ then _ else _)=_
  rw [tx_len,if_pos (line_of h)]
theorem tTruth {a:List Nat} (h:a.length≤16000000):truthP (.str (tx a)) = .ok (!decide (a=[])):=by
  show (if _ then _ else _)=_
  rw [tx_len,if_pos (line_of h)]
  cases a with
  | nil=>rfl
  | cons x r=>simp;omega
theorem cutN {z:List Nat}{lo hi:Option Int} (h:z.length≤16000000):oCut (.str (tx z)) lo hi = .ok (.str (tx ((z.drop (slP z.length 0 lo)).take (slP z.length z.length hi - slP z.length 0 lo)))):=by
  show (if _ then _ else _)=_
  rw [tx_len,if_pos (line_of h)]
  unfold sCut
  rw [tx_l]
  rfl
theorem sl_at {n d:Nat}{k:Int} (h:0≤k):slP n d (some k)=min k.toNat n:=if_neg (by omega)
theorem tDrop {z:List Nat}{k:Int} (h:z.length≤16000000) (h0:0≤k):oCut (.str (tx z)) (some k) none = .ok (.str (tx (z.drop k.toNat))):=by
  rw [cutN h,sl_at h0]
  show R.ok (PV.str (tx ((z.drop _).take (z.length - _))))=_
  congr 3
  by_cases c:k.toNat≤z.length
  · rw [Nat.min_eq_left c];exact List.take_of_length_le (by rw [List.length_drop];omega)
  · rw [Nat.min_eq_right (by omega),List.drop_of_length_le (Nat.le_refl _),List.drop_of_length_le (by omega)];simp
theorem tTake {z:List Nat}{k:Int} (h:z.length≤16000000) (h0:0≤k):oCut (.str (tx z)) none (some k) = .ok (.str (tx (z.take k.toNat))):=by
  rw [cutN h,sl_at h0]
  show R.ok (PV.str (tx ((z.drop 0).take (_ - 0))))=_
  congr 3
  rw [List.drop_zero,Nat.sub_zero]
  by_cases c:k.toNat≤z.length
  · rw [Nat.min_eq_left c]
  · rw [Nat.min_eq_right (by omega),List.take_of_length_le (Nat.le_refl _),List.take_of_length_le (by omega)]
theorem tDropE {z:List Nat}{k:Int} (h:z.length≤16000000) (h0:0<k) (h1:k≤z.length):oCut (.str (tx z)) (some (-k)) none = .ok (.str (tx (z.drop (z.length - k.toNat)))):=by
  rw [cutN h]
  have e:slP z.length 0 (some (-k))=z.length - k.toNat:=by
    show (if _ then _ else _)=_
    rw [if_pos (by omega)];omega
  rw [e]
  show R.ok (PV.str (tx ((z.drop _).take (z.length - _))))=_
  congr 3
  exact List.take_of_length_le (by rw [List.length_drop];omega)
theorem tTakeE {z:List Nat}{k:Int} (h:z.length≤16000000) (h0:0<k) (h1:k≤z.length):oCut (.str (tx z)) none (some (-k)) = .ok (.str (tx (z.take (z.length - k.toNat)))):=by
  rw [cutN h]
  have e:slP z.length z.length (some (-k))=z.length - k.toNat:=by
    show (if _ then _ else _)=_
    rw [if_pos (by omega)];omega
  rw [e]
  rfl
theorem tItem {z:List Nat}{i:Int}{c:Nat} (h:z.length≤16000000) (h0:0≤i) (h1:z[i.toNat]?=some c):oItem (.str (tx z)) (.int i) = .ok (.str (tx [c])):=by
  have hl:i.toNat<z.length:=(List.getElem?_eq_some_iff.mp h1).1
  show (match ixP (tx z).cps.toList.length i with | some j=>_ | none=>_)=_
  rw [tx_l]
  have e:ixP z.length i=some i.toNat:=by unfold ixP;rw [if_pos h0,if_pos (by omega)]
  rw [e]
  show (match z[i.toNat]? with | some c=>_ | none=>_)=_
  rw [h1]
  show (if _ then _ else _)=_
  rw [tx_len,if_pos (line_of h)]
  rfl
theorem tIn (c:Nat) (l:List Nat):cIn (.str (tx [c])) (.str (tx l)) = .ok (.bl (decide (c∈l))):=by
  have e:=StrLaws.found_one (tx l) c
  rw [tx_l] at e
  show R.ok (PV.bl (!(occurrences (tx l) ⟨#[c]⟩ 0 (tx l).length 1).isEmpty))=_
  rw [e]
theorem tNotIn (c:Nat) (l:List Nat):cNotIn (.str (tx [c])) (.str (tx l)) = .ok (.bl (!decide (c∈l))):=by
  have e:=StrLaws.found_one (tx l) c
  rw [tx_l] at e
  show R.ok (PV.bl (!(!(occurrences (tx l) ⟨#[c]⟩ 0 (tx l).length 1).isEmpty)))=_
  rw [e]
theorem tStarts (c:Nat) (l:List Nat):bStartswith [.str (tx l),.str (tx [c])] = .ok (.bl (decide (l.head?=some c))):=by
  show R.ok (PV.bl (Txt.startswith (tx l) (tx [c])))=_
  congr 2
  unfold Txt.startswith
  simp only [subAt,tx_len]
  cases l with
  | nil=>rfl
  | cons x r =>
    have e:(tx (x::r)).cps.extract 0 (0+[c].length)=#[x]:=by apply Array.toList_inj.mp;simp [tx]
    rw [e]
    show (decide _ && (#[x] == #[c]))=_
    simp
    rfl
def pt (c:Nat):List Nat→List Nat×List Nat×List Nat
  | []=>([],[],[])
  | x::r=>if x=c then ([],[c],r) else (x::(pt c r).1,(pt c r).2.1,(pt c r).2.2)
theorem pt_no {c:Nat}:∀ {a:List Nat},c ∉ a→pt c a=(a,[],[])
  | [],_=>rfl
  | x::r,h=>by
    have h1:¬ x=c:=fun q=>h (q ▸ List.mem_cons_self)
    have ih:=pt_no (c:=c) (a:=r) fun q=>h (List.mem_cons_of_mem _ q)
    show (if x=c then _ else _)=_
    rw [if_neg h1,ih]
theorem pt_at {c:Nat}{b:List Nat}:∀ {a:List Nat},c ∉ a→pt c (a ++ c::b)=(a,[c],b)
  | [],_=>if_pos rfl
  | x::r,h=>by
    have h1:¬ x=c:=fun q=>h (q ▸ List.mem_cons_self)
    have ih:=pt_at (c:=c) (b:=b) (a:=r) fun q=>h (List.mem_cons_of_mem _ q)
    show (if x=c then _ else (x::(pt c (r ++ c::b)).1,(pt c (r ++ c::b)).2.1,(pt c (r ++ c::b)).2.2))=_
    rw [if_neg h1,ih]
theorem pt_is (c:Nat) (l:List Nat):(c ∉ l∧pt c l=(l,[],[]))∨∃ a b,c ∉ a∧l=a ++ c::b∧pt c l=(a,[c],b):=by
  induction l with
  | nil=>exact .inl ⟨by simp,rfl⟩
  | cons x r ih =>
    by_cases e:x=c
    · subst e;exact .inr ⟨[],r,by simp,rfl,if_pos rfl⟩
    · rcases ih with ⟨h,p⟩ | ⟨a,b,h,q,p⟩
      · exact .inl ⟨by simp [h,Ne.symm e],pt_no (by simp [h,Ne.symm e])⟩
      · subst q
        exact .inr ⟨x::a,b,by simp [h,Ne.symm e],rfl,pt_at (a:=x::a) (by simp [h,Ne.symm e])⟩
theorem pt_len (c:Nat) (l:List Nat):(pt c l).1.length+(pt c l).2.1.length+(pt c l).2.2.length=l.length:=by
  rcases pt_is c l with ⟨_,p⟩ | ⟨a,b,_,q,p⟩
  · rw [p];simp
  · rw [p,q];simp;omega
theorem at_1 (x:PySem.Str) (c i:Nat):StrLaws.At x ⟨#[c]⟩ x.length i↔x.cps.toList[i]?=some c:=StrLaws.subAt_one x c i
theorem str_sub (l:List Nat) (i j:Nat):strSub (tx l) i j=tx ((l.take j).drop i):=by
  unfold strSub tx
  congr 1
  apply Array.toList_inj.mp
  simp [List.extract]
  rw [List.drop_take]
theorem tPart {l:List Nat}{c:Nat} (h:l.length≤16000000):bPartition [.str (tx l),.str (tx [c])] = .ok (.tup [.str (tx (pt c l).1),.str (tx (pt c l).2.1),.str (tx (pt c l).2.2)]):=by
  have g:Txt.partition (tx l) (tx [c])=(tx (pt c l).1,tx (pt c l).2.1,tx (pt c l).2.2):=by
    have el:tx [c]=⟨#[c]⟩:=rfl
    rw [el]
    have oc:∀ i,StrLaws.At (tx l) ⟨#[c]⟩ (tx l).length i↔l[i]?=some c:=fun i=>by rw [at_1,tx_l]
    rcases PyProof.Rows.partition_whole (tx l) ⟨#[c]⟩ with ⟨e,n⟩ | ⟨i,e,p,n⟩
    · rw [e]
      have:c ∉ l:=fun q=>by
        obtain ⟨i,hi⟩:=List.mem_iff_getElem?.mp q
        exact n i ((oc i).mpr hi)
      rw [pt_no this]
      rfl
    · rw [e]
      have p':=(oc i).mp p
      obtain ⟨hi,hv⟩:=List.getElem?_eq_some_iff.mp p'
      have el2:l=l.take i ++ c::l.drop (i+1):=by rw [← hv,List.getElem_cons_drop,List.take_append_drop]
      have nm:c ∉ l.take i:=fun q=>by
        obtain ⟨k,hk⟩:=List.mem_iff_getElem?.mp q
        have hk':k<i:=by
          have:=(List.getElem?_eq_some_iff.mp hk).1
          rw [List.length_take] at this;omega
        rw [List.getElem?_take_of_lt hk'] at hk
        exact n k hk' ((oc k).mpr hk)
      have q:=pt_at (b:=l.drop (i+1)) nm
      rw [← el2] at q
      rw [q]
      refine Prod.ext ?_ (Prod.ext rfl ?_)
      · show strSub (tx l) 0 i=_
        rw [str_sub,List.drop_zero]
      · show strSub (tx l) (i+1) (tx l).length=_
        rw [str_sub,tx_len,List.take_length]
  show (if _ then _ else _)=_
  rw [tx_len,tx_len,if_pos ⟨line_of h,rfl⟩,g]
def dg (n:Nat):List Nat:=(Nat.toDigits 10 n).map Char.toNat
theorem dgc {n:Nat} (h:n<10):(Nat.digitChar n).toNat=48+n:=by
  match n,h with
  | 0,_=>rfl
  | 1,_=>rfl
  | 2,_=>rfl
  | 3,_=>rfl
  | 4,_=>rfl
  | 5,_=>rfl
  | 6,_=>rfl
  | 7,_=>rfl
  | 8,_=>rfl
  | 9,_=>rfl
theorem dg_s {n:Nat} (h:n<10):dg n=[48+n]:=by
  unfold dg
  rw [Nat.toDigits_of_lt_base h]
  simp [dgc h]
theorem dg_l {n:Nat} (h:10≤n):dg n=dg (n / 10) ++ [48+n % 10]:=by
  have hm:n % 10<10:=Nat.mod_lt n (by decide)
  have t:Nat.toDigits 10 (n / 10) ++ Nat.toDigits 10 (n % 10)=Nat.toDigits 10 (10*(n / 10)+n % 10):=Nat.toDigits_append_toDigits (by decide) (by omega) hm
  rw [Nat.div_add_mod] at t
  rw [← dg_s hm]
  unfold dg
  rw [← t,List.map_append]
theorem dv_app (a b:List Nat):digitsVal (a ++ b)=digitsVal a*10 ^ b.length+digitsVal b:=by
  have g:∀ (b:List Nat) (n:Nat),b.foldl (fun acc c=>acc*10+(c - 48)) n=n*10 ^ b.length+b.foldl (fun acc c=>acc*10+(c - 48)) 0:=by
    intro b
    induction b with
    | nil=>intro n;simp
    | cons c r ih =>
      intro n
      rw [List.foldl_cons,List.foldl_cons,ih,ih (0*10+(c - 48)),List.length_cons,Nat.pow_succ,Nat.add_mul,Nat.zero_mul,Nat.zero_add]
      have:n*10*10 ^ r.length=n*(10 ^ r.length*10):=by rw [Nat.mul_assoc,Nat.mul_comm 10]
      omega
  unfold digitsVal
  rw [List.foldl_append,g b]
theorem dv_1 (c:Nat):digitsVal [c]=c - 48:=by simp [digitsVal]
theorem dv_cons (c:Nat) (l:List Nat):digitsVal (c::l)=(c - 48)*10 ^ l.length+digitsVal l:=by
  rw [show c::l=[c] ++ l from rfl,dv_app,dv_1]
theorem dv_snoc (l:List Nat) (c:Nat):digitsVal (l ++ [c])=digitsVal l*10+(c - 48):=by rw [dv_app,dv_1];rfl
theorem dv_lt {l:List Nat} (h:AllDigits l):digitsVal l<10 ^ l.length:=by
  induction l with
  | nil=>decide
  | cons c r ih =>
    have:=ih h.tail
    have hc:=h.head
    rw [dv_cons,List.length_cons,Nat.pow_succ]
    have:(c - 48)*10 ^ r.length≤9*10 ^ r.length:=Nat.mul_le_mul_right _ (by omega)
    omega
theorem dg_val (n:Nat):digitsVal (dg n)=n:=by
  induction n using Nat.strongRecOn with
  | _ n ih =>
    by_cases h:n<10
    · rw [dg_s h,dv_1];omega
    · rw [dg_l (by omega),dv_snoc,ih (n / 10) (by omega)];omega
theorem dg_fig (n:Nat):AllDigits (dg n):=by
  induction n using Nat.strongRecOn with
  | _ n ih =>
    by_cases h:n<10
    · rw [dg_s h];intro c hc;simp at hc;omega
    · rw [dg_l (by omega)]
      intro c hc
      rcases List.mem_append.mp hc with q | q
      · exact ih (n / 10) (by omega) c q
      · simp at q;omega
theorem dg_ne (n:Nat):dg n≠[]:=by
  by_cases h:n<10
  · rw [dg_s h];simp
  · rw [dg_l (by omega)];simp
theorem dg_head {n:Nat} (h:0<n):(dg n).head?≠some 48:=by
  induction n using Nat.strongRecOn with
  | _ n ih =>
    by_cases c:n<10
    · rw [dg_s c];simp;omega
    · rw [dg_l (by omega)]
      have:=ih (n / 10) (by omega) (by omega)
      have ne:=dg_ne (n / 10)
      cases q:dg (n / 10) with
      | nil=>exact absurd q ne
      | cons x r=>rw [q] at this;simpa using this
theorem dg_ge {n:Nat} (h:0<n):10 ^ ((dg n).length - 1)≤n:=by
  induction n using Nat.strongRecOn with
  | _ n ih =>
    by_cases c:n<10
    · rw [dg_s c];simp;omega
    · have:=ih (n / 10) (by omega) (by omega)
      rw [dg_l (by omega),List.length_append]
      have l1:0<(dg (n / 10)).length:=List.length_pos_iff.mpr (dg_ne _)
      show 10 ^ ((dg (n / 10)).length+1 - 1)≤n
      rw [show (dg (n / 10)).length+1 - 1=(dg (n / 10)).length - 1+1 by omega,Nat.pow_succ]
      omega
theorem dg_lt (n:Nat):n<10 ^ (dg n).length:=by
  have:=dv_lt (dg_fig n)
  rw [dg_val] at this
  exact this
theorem dg_len_le {n k:Nat} (hk:0<k) (h:n<10 ^ k):(dg n).length≤k:=by
  by_cases z:n=0
  · subst z;rw [dg_s (by decide)];exact hk
  · have:=dg_ge (n:=n) (by omega)
    apply Nat.le_of_not_lt
    intro q
    have:10 ^ k≤10 ^ ((dg n).length - 1):=Nat.pow_le_pow_right (by decide) (by omega)
    omega
def dgI (a:Int):List Nat:=if a<0 then 45::dg a.natAbs else dg a.natAbs
theorem dgI_pos {a:Int} (h:0≤a):dgI a=dg a.natAbs:=if_neg (by omega)
theorem dgI_neg {a:Int} (h:a<0):dgI a=45::dg a.natAbs:=if_pos h
theorem str_int (a:Int):PySem.Str.ofString (toString a)=tx (dgI a):=by
  have nat:∀ n:Nat,(toString n).toList=Nat.toDigits 10 n:=fun n=>by
    show (Nat.repr n).toList=_
    unfold Nat.repr
    simp
  rw [Str.ofString_eq_toList]
  unfold tx
  congr 2
  cases a with
  | ofNat n =>
    rw [dgI_pos (a:=Int.ofNat n) (Int.natCast_nonneg n)]
    show List.map Char.toNat (toString n).toList=_
    rw [nat]
    rfl
  | negSucc n =>
    rw [dgI_neg (Int.negSucc_lt_zero n)]
    show List.map Char.toNat ("-" ++ toString (n+1)).toList=_
    rw [String.toList_append,nat]
    rfl
theorem tStr {a:Int} (h:a.natAbs.log2<1920):bStr [.int a] = .ok (.str (tx (dgI a))):=by
  rw [← str_int]
  exact if_pos h
theorem tInt {l:List Nat} (h:AllDigits l) (h1:l≠[]) (h2:l.length≤4300):bIntL [.str (tx l)] = .ok (.int (digitsVal l:Nat)):=by
  have e:=intText_digits (x:=tx l) (by rw [tx_l];exact h) (by rw [tx_l];exact h1) (by rw [tx_len];exact h2)
  rw [tx_l] at e
  show (if _ then _ else _)=_
  rw [tx_len,if_pos (line_of (by omega)),e]
theorem log_lt {n k:Nat} (hk:0<k) (h:n<2 ^ k):n.log2<k:=by
  by_cases z:n=0
  · subst z;simpa using hk
  · exact (Nat.log2_lt z).mpr h
def figB (l:List Nat):Bool:=l.all fun c=>decide (48≤c∧c≤57)
theorem figB_iff (l:List Nat):figB l=true↔AllDigits l:=by
  unfold figB
  rw [List.all_eq_true]
  exact ⟨fun h c hc=>of_decide_eq_true (h c hc),fun h c hc=>decide_eq_true (h c hc)⟩
def figsL:List Nat:=[48,49,50,51,52,53,54,55,56,57]
theorem figs_lit:PySem.Str.ofString "0123456789"=tx figsL:=by decide +kernel
theorem mem_figs (c:Nat):c∈figsL↔48≤c∧c≤57:=by
  unfold figsL
  simp
  omega
theorem figs_in (c:Nat):cIn (.str (tx [c])) (.str (Str.ofString "0123456789")) = .ok (.bl (decide (48≤c∧c≤57))):=by
  rw [figs_lit,tIn]
  congr 2
  exact decide_eq_decide.mpr (mem_figs c)
theorem figs_notIn (c:Nat):cNotIn (.str (tx [c])) (.str (Str.ofString "0123456789")) = .ok (.bl (!decide (48≤c∧c≤57))):=by
  rw [figs_lit,tNotIn]
  congr 3
  exact decide_eq_decide.mpr (mem_figs c)
theorem lit_e:Str.ofString "e"=tx [101]:=by decide +kernel
theorem lit_m:Str.ofString "-"=tx [45]:=by decide +kernel
theorem lit_p:Str.ofString "."=tx [46]:=by decide +kernel
theorem lit_n:Str.ofString ""=tx []:=by decide +kernel
theorem lit_0:Str.ofString "0"=tx [48]:=by decide +kernel
theorem ad_app {a b:List Nat} (h:AllDigits a) (g:AllDigits b):AllDigits (a ++ b):=fun c hc=>(List.mem_append.mp hc).elim (h c) (g c)
theorem ad_take {l:List Nat} (h:AllDigits l) (n:Nat):AllDigits (l.take n):=fun c hc=>h c (List.mem_of_mem_take hc)
theorem ad_drop {l:List Nat} (h:AllDigits l) (n:Nat):AllDigits (l.drop n):=fun c hc=>h c (List.mem_of_mem_drop hc)
theorem ad_nil:AllDigits []:=fun c hc=>absurd hc (by simp)
theorem ad_not_mem {l:List Nat} (h:AllDigits l) {c:Nat} (q:c<48∨57<c):c ∉ l:=fun m=>by have:=h c m;omega
end Cm
namespace Cm
open PySem Mi
theorem oItem_ints {ns:List Int}{i:Int} (h0:0≤i) (h:i<ns.length):oItem (.lst (ns.map PV.int)) (.int i) = .ok (.int (ns.getD i.toNat 0)):=by
  refine oItem_at h0 ?_
  have hl:i.toNat<ns.length:=by omega
  rw [List.getElem?_map,List.getD_eq_getElem?_getD,List.getElem?_eq_getElem hl]
  rfl
theorem z65 (ns:List Int) (k:Int) (hk:0≤k):z1r [.lst (ns.map PV.int),.int k] = .ok (.int (ns.getD k.toNat 0)):=by
  by_cases h:k<(ns.length:Int)
  · dsimp! [z1r,z4g,List.length_map,h,oItem_ints hk h]
  · have e:ns.getD k.toNat 0=0:=by
      rw [List.getD_eq_getElem?_getD,List.getElem?_eq_none (by omega)];rfl
    dsimp! [z1r,z4g,List.length_map,h,e]
theorem mem_range {x:PV}{lo hi st:Int} (hs:0<st) (h:x∈rangeP lo hi st):∃ i,x = .int i∧lo≤i∧i<hi:=by
  unfold rangeP at h
  rw [List.mem_map] at h
  obtain ⟨k,hk,rfl⟩:=h
  rw [List.mem_range] at hk
  unfold rangeN at hk
  rw [if_pos hs] at hk
  refine ⟨_,rfl,?_,?_⟩
  · have:=Int.mul_nonneg (Int.natCast_nonneg k) (Int.le_of_lt hs);omega
  · by_cases hl:lo<hi
    · rw [if_pos hl] at hk
      have h1:(k:Int)≤(hi - lo - 1) / st:=by
        have:0≤(hi - lo - 1) / st:=Int.ediv_nonneg (by omega) (by omega)
        omega
      have h2:=Int.mul_le_mul_of_nonneg_right h1 (Int.le_of_lt hs)
      have h3:(hi - lo - 1) / st*st≤hi - lo - 1:=Int.ediv_mul_le _ (by omega)
      omega
    · rw [if_neg hl] at hk;omega
theorem z67 (k:Int):zi [.int 0,.int k] = .ok (.tup [.int 0,.int 0]):=by dsimp! [zi,z4n]
theorem z68 {n:Int} (k:Int) (h:n≠0):zi [.int n,.int k] = .ok (.tup [.int (n / p2 (tz n)),.int (k+tz n)]):=by
  have h2:okShr (tz n):=(tz_spec h).1
  have e:(nb (Builtin.bitAnd n (-n)):Int) - 1=tz n:=rfl
  dsimp! [zi,z4n,h,e,h2]
theorem tz_le {n:Int} (h:n≠0):tz n≤nb n:=by
  obtain ⟨h1,h2,h3⟩:=tz_spec h
  have h4:n / p2 (tz n)≠0:=by intro z;rw [z] at h2;omega
  have:=nb_shl h4 h1
  rw [h3] at this
  omega
theorem fComp_e (n:Nat) (it:FA) (t:FT) (f:FE) (x0:Option PV) (ρ0:MEnv):fComp n it t f (x0::ρ0)=(it (x0::ρ0)).bind (compK n t f (x0::ρ0)):=rfl
theorem compK_ok {n:Nat}{t:FT}{f:FE}{ρ:MEnv}{l vs:List PV} (h:l.length≤1000000) (e:compL n t f ρ l = .ok vs):compK n t f ρ l = .ok (.lst vs):=by
  unfold compK;rw [if_pos h,e]
open PySem.NumText
theorem fSt_e (b:List PV→R PV) (a:FE) (r:FA) (x0:Option PV) (ρ0:MEnv):fStrM b a r (x0::ρ0)=(a (x0::ρ0)).bind (strK b (r (x0::ρ0))):=rfl
theorem strK_ok (b:List PV→R PV) (z:Str) (l:List PV):strK b (.ok l) (.str z)=b (.str z::l):=rfl
theorem bools_map {α:Type} (g:α→Bool) (l:List α):boolsP (l.map fun c=>PV.bl (g c))=some (l.map g):=by
  induction l with
  | nil=>rfl
  | cons c r ih=>show (boolsP _).map _=_;rw [ih];rfl
theorem all_map {α:Type} (g:α→Bool) (l:List α):bAll [.lst (l.map fun c=>PV.bl (g c))] = .ok (.bl (l.all g)):=by
  unfold bAll
  simp only [bools_map]
  congr 2
  rw [List.all_map]
  rfl
def fig1 (l:List Nat):Bool:=!decide (l=[]) && figB l
theorem fig1_iff (l:List Nat):fig1 l=true↔l≠[]∧AllDigits l:=by
  unfold fig1
  rw [Bool.and_eq_true,figB_iff]
  simp
theorem compL_str {n:Nat}{f:FE}{ρ:MEnv} (g:Nat→PV):∀ {l:List Nat},(∀ c∈l,f (padTo n ρ ++ [some (.str (tx [c]))]) = .ok (g c))→compL n tTrue f ρ (l.map fun c=>PV.str (tx [c])) = .ok (l.map g)
  | [],_=>rfl
  | c::r,h=>by
    have ih:=compL_str g (l:=r) fun q hq=>h q (List.mem_cons_of_mem _ hq)
    have e:=h c List.mem_cons_self
    show (match f (padTo n ρ ++ [some (.str (tx [c]))]) with
      | .ok v=>(match compL n tTrue f ρ (r.map fun c=>PV.str (tx [c])) with
        | .ok vs=>R.ok (v::vs)
        | _=>.stuck)
      | _=>.stuck)=_
    rw [e,ih];rfl
theorem z8d {l:List Nat} (hl:l.length≤100000):q_check_figures_v3 [.str (tx l)]=if fig1 l=true then .ok .non else .exc 6:=by
  have cm:fComp 1 (iStr (fVar 0)) tTrue (fBin cIn (fVar 1) (fC (.str "0123456789"))) [some (.str (tx l))] = .ok (.lst (l.map fun c=>PV.bl (decide (48≤c∧c≤57)))):=by
    have e:iStr (fVar 0) [some (.str (tx l))] = .ok (l.map fun c=>PV.str (tx [c])):=by
      show R.ok ((tx l).cps.toList.map fun c=>PV.str (tx [c]))=_
      rw [tx_l]
    rw [fComp_e,e]
    refine compK_ok (by rw [List.length_map];omega) (compL_str _ fun c _=>?_)
    exact figs_in c
  have al:=all_map (fun c:Nat=>decide (48≤c∧c≤57)) l
  have al':fCall bAll (aCons (fComp 1 (iStr (fVar 0)) tTrue (fBin cIn (fVar 1) (fC (.str "0123456789")))) aNil) [some (.str (tx l))] = .ok (.bl (figB l)):=by
    dsimp! [cm,al]
    rfl
  have q:fig1 l=(!decide (l=[]) && figB l):=rfl
  rw [q]
  by_cases h:l=[]
  · dsimp! [q_check_figures_v3,z43,List.replicate,lit_n,tx_beq,h]
  · by_cases g:figB l=true
    · dsimp! [q_check_figures_v3,z43,List.replicate,lit_n,tx_beq,h,al',g]
    · have g':figB l=false:=by simpa using g
      dsimp! [q_check_figures_v3,z43,List.replicate,lit_n,tx_beq,h,al',g']
def powT (l:List Nat):Option Int :=
  let b:=decide (l.head?=some 45)
  let f:=if b then l.drop 1 else l
  if fig1 f=true∧f.length≤3 then some (if b then -(digitsVal f:Int) else (digitsVal f:Int)) else none
def optR:Option Int→R PV
  | some i=>.ok (.int i)
  | none=>.exc 6
theorem z8r {l:List Nat} (hl:l.length≤100000):zu [.str (tx l)]=optR (powT l):=by
  have st:=tStarts 45 l
  have dr:=tDrop (z:=l) (k:=1) (by omega) (by decide)
  rw [show (1:Int).toNat=1 from rfl] at dr
  unfold powT
  cases b:decide (l.head?=some 45)
  · rw [b] at st
    have ch:=z8d hl
    have ln:=tLen (a:=l) (by omega)
    simp only [Bool.false_eq_true,if_false]
    by_cases g:fig1 l=true
    · by_cases h3:l.length≤3
      · have it:=tInt ((fig1_iff l).mp g).2 ((fig1_iff l).mp g).1 (by omega)
        have n3:decide ((3:Int)<(l.length:Int))=false:=decide_eq_false (by omega)
        dsimp! [zu,z24,List.replicate,fSt_e,strK_ok,lit_m,st,ch,g,ln,n3,it,h3,and_self]
        rfl
      · have n3:decide ((3:Int)<(l.length:Int))=true:=decide_eq_true (by omega)
        dsimp! [zu,z24,List.replicate,fSt_e,strK_ok,lit_m,st,ch,g,ln,n3,h3,and_false]
        rfl
    · have g':fig1 l=false:=by simpa using g
      dsimp! [zu,z24,List.replicate,fSt_e,strK_ok,lit_m,st,ch,g',Bool.false_eq_true,false_and]
      rfl
  · rw [b] at st
    have hf:(l.drop 1).length≤100000:=by rw [List.length_drop];omega
    generalize l.drop 1=f at *
    have ch:=z8d hf
    have ln:=tLen (a:=f) (by omega)
    simp only [if_true]
    by_cases g:fig1 f=true
    · by_cases h3:f.length≤3
      · have it:=tInt ((fig1_iff f).mp g).2 ((fig1_iff f).mp g).1 (by omega)
        have n3:decide ((3:Int)<(f.length:Int))=false:=decide_eq_false (by omega)
        dsimp! [zu,z24,List.replicate,fSt_e,strK_ok,lit_m,st,dr,ch,g,ln,n3,it,h3,and_self]
        rfl
      · have n3:decide ((3:Int)<(f.length:Int))=true:=decide_eq_true (by omega)
        dsimp! [zu,z24,List.replicate,fSt_e,strK_ok,lit_m,st,dr,ch,g,ln,n3,h3,and_false]
        rfl
    · have g':fig1 f=false:=by simpa using g
      dsimp! [zu,z24,List.replicate,fSt_e,strK_ok,lit_m,st,dr,ch,g',Bool.false_eq_true,false_and]
      rfl
def ptsT (l:List Nat):Option (Bool×Nat×Int) :=
  let b:=decide (l.head?=some 45)
  let h:=pt 101 (if b then l.drop 1 else l)
  let r:=pt 46 h.1
  if 1200<l.length then none else
  if fig1 r.1=true∧(r.2.1=[46]→fig1 r.2.2=true) then
    (if h.2.1=[101] then powT h.2.2 else some 0).bind fun p=>some (b,digitsVal (r.1 ++ r.2.2),p - r.2.2.length)
  else none
def optT:Option (Bool×Nat×Int)→R PV
  | some (b,w,t)=>.ok (.tup [.bl b,.int w,.int t])
  | none=>.exc 6
theorem pt_tail {c:Nat}{l:List Nat} (h:(pt c l).2.1≠[c]):(pt c l).2.2=[]∧(pt c l).2.1=[]:=by
  rcases pt_is c l with ⟨_,p⟩ | ⟨a,b,_,_,p⟩
  · rw [p];exact ⟨rfl,rfl⟩
  · rw [p] at h;exact absurd rfl h
theorem z70 {l:List Nat} (hl:1200<l.length) (h2:l.length≤16000000):z4 [.str (tx l)] = .exc 6:=by
  have ln:=tLen h2
  have n3:decide ((1200:Int)<(l.length:Int))=true:=decide_eq_true (by omega)
  dsimp! [z4,zx,List.replicate,ln,n3]
  rfl
theorem z71 {l f:List Nat}{b:Bool} (hl:l.length≤1200) (hb:decide (l.head?=some 45)=b) (hf:(if b then l.drop 1 else l)=f) :
    z4 [.str (tx l)]=(if fig1 (pt 46 (pt 101 f).1).1=true∧((pt 46 (pt 101 f).1).2.1=[46]→fig1 (pt 46 (pt 101 f).1).2.2=true) then
      (optR (if (pt 101 f).2.1=[101] then powT (pt 101 f).2.2 else some 0)).bind fun p=>(oSub p (.int ((pt 46 (pt 101 f).1).2.2.length:Nat))).bind fun q=>.ok (.tup [.bl b,.int (digitsVal ((pt 46 (pt 101 f).1).1 ++ (pt 46 (pt 101 f).1).2.2):Nat),q])
      else .exc 6):=by
  have st:=tStarts 45 l
  rw [hb] at st
  have dr:=tDrop (z:=l) (k:=1) (by omega) (by decide)
  rw [show (1:Int).toNat=1 from rfl] at dr
  have ln:=tLen (a:=l) (by omega)
  have n3:decide ((1200:Int)<(l.length:Int))=false:=decide_eq_false (by omega)
  have fl:f.length≤1200:=by
    rw [← hf];split
    · rw [List.length_drop];omega
    · exact hl
  have p1:=tPart (l:=f) (c:=101) (by omega)
  have pl:=pt_len 101 f
  have tl:=pt_tail (c:=101) (l:=f)
  generalize pt 101 f=H at *
  obtain ⟨h0,h1,h2⟩:=H
  simp only at pl
  have p2:=tPart (l:=h0) (c:=46) (by omega)
  have ql:=pt_len 46 h0
  have tl2:=pt_tail (c:=46) (l:=h0)
  generalize pt 46 h0=G at *
  obtain ⟨r0,r1,r2⟩:=G
  simp only at *
  have c0:=z8d (l:=r0) (by omega)
  have c2:=z8d (l:=r2) (by omega)
  have pw:=z8r (l:=h2) (by omega)
  have l2:=tLen (a:=r2) (by omega)
  have ad:=tAdd (a:=r0) (b:=r2) (by omega)
  have fst:fIf (tVal (fVar 1)) (fCut (fVar 0) (oSome (fC (.int 1))) oNone) (fVar 0) [some (.str (tx l)),some (.bl b),none,none,none] = .ok (.str (tx f)):=by
    cases b
    · simp only [ev,evl,okw,powI,Int.reduceLT,Int.reduceLE,Int.reduceNeg,Int.reduceAdd,Int.reduceSub,Int.reduceMul,Int.reducePow,Int.reduceToNat,Nat.reduceAdd,Nat.reduceSub,ne_eq,not_false_eq_true,not_true_eq_false,Int.reduceEq,reduceCtorEq,Bool.false_eq_true,if_false] at hf ⊢
      rw [hf]
    · simp only [ev,evl,okw,powI,Int.reduceLT,Int.reduceLE,Int.reduceNeg,Int.reduceAdd,Int.reduceSub,Int.reduceMul,Int.reducePow,Int.reduceToNat,Nat.reduceAdd,Nat.reduceSub,ne_eq,not_false_eq_true,not_true_eq_false,Int.reduceEq,reduceCtorEq,if_true] at hf ⊢
      rw [dr,hf]
  by_cases g0:fig1 r0=true
  · have rest:(r1=[46]→fig1 r2=true)→bIntL [.str (tx (r0 ++ r2))] = .ok (.int (digitsVal (r0 ++ r2):Nat)):=fun g2=>by
      refine tInt ?_ ?_ (by rw [List.length_append];omega)
      · refine ad_app ((fig1_iff r0).mp g0).2 ?_
        by_cases e:r1=[46]
        · exact ((fig1_iff r2).mp (g2 e)).2
        · rw [(tl2 e).1];exact ad_nil
      · intro q
        exact ((fig1_iff r0).mp g0).1 (List.append_eq_nil_iff.mp q).1
    by_cases e1:r1=[46]
    · by_cases g2:fig1 r2=true
      · have it:=rest fun _=>g2
        by_cases e2:h1=[101]
        · cases hp:powT h2 with
          | none =>
            rw [hp] at pw
            simp only [optR] at pw
            dsimp! [z4,zx,List.replicate,ln,n3,fSt_e,strK_ok,lit_m,lit_e,lit_p,st,fst,p1,p2,c0,g0,tx_beq,e1,c2,g2,e2,pw,hp,optR,and_self,implies_true,R.bind]
          | some i =>
            rw [hp] at pw
            simp only [optR] at pw
            dsimp! [z4,zx,List.replicate,ln,n3,fSt_e,strK_ok,lit_m,lit_e,lit_p,st,fst,p1,p2,c0,g0,tx_beq,e1,c2,g2,e2,pw,hp,optR,and_self,implies_true,R.bind,ad,it,l2]
        · dsimp! [z4,zx,List.replicate,ln,n3,fSt_e,strK_ok,lit_m,lit_e,lit_p,st,fst,p1,p2,c0,g0,tx_beq,e1,c2,g2,e2,optR,and_self,implies_true,R.bind,ad,it,l2]
      · have g2':fig1 r2=false:=by simpa using g2
        dsimp! [z4,zx,List.replicate,ln,n3,fSt_e,strK_ok,lit_m,lit_e,lit_p,st,fst,p1,p2,c0,g0,tx_beq,e1,c2,g2',Bool.false_eq_true,true_and,imp_false,not_true_eq_false]
    · have it:=rest fun q=>absurd q e1
      by_cases e2:h1=[101]
      · cases hp:powT h2 with
        | none =>
          rw [hp] at pw
          simp only [optR] at pw
          dsimp! [z4,zx,List.replicate,ln,n3,fSt_e,strK_ok,lit_m,lit_e,lit_p,st,fst,p1,p2,c0,g0,tx_beq,e1,e2,pw,hp,optR,false_implies,and_self,implies_true,R.bind]
        | some i =>
          rw [hp] at pw
          simp only [optR] at pw
          dsimp! [z4,zx,List.replicate,ln,n3,fSt_e,strK_ok,lit_m,lit_e,lit_p,st,fst,p1,p2,c0,g0,tx_beq,e1,e2,pw,hp,optR,false_implies,and_self,implies_true,R.bind,ad,it,l2]
      · dsimp! [z4,zx,List.replicate,ln,n3,fSt_e,strK_ok,lit_m,lit_e,lit_p,st,fst,p1,p2,c0,g0,tx_beq,e1,e2,optR,false_implies,and_self,implies_true,R.bind,ad,it,l2]
  · have g0':fig1 r0=false:=by simpa using g0
    dsimp! [z4,zx,List.replicate,ln,n3,fSt_e,strK_ok,lit_m,lit_e,lit_p,st,fst,p1,p2,c0,g0',Bool.false_eq_true,false_and]
theorem z6c {l:List Nat} (h:l.length≤16000000):z4 [.str (tx l)]=optT (ptsT l):=by
  by_cases hl:1200<l.length
  · rw [z70 hl h]
    unfold ptsT
    simp only [if_pos hl]
    rfl
  · rw [z71 (by omega) rfl rfl]
    unfold ptsT
    simp only [if_neg hl]
    generalize pt 101 (if decide (l.head?=some 45)=true then l.drop 1 else l)=H
    split
    · cases (if H.2.1=[101] then powT H.2.2 else some 0)<;>rfl
    · rfl
def PowAt (p:List Nat) (k:Int):Prop:=(p=[]∧k=0)∨∃ q,p=101::q∧powT q=some k
theorem head_fig {a r:List Nat} (h:AllDigits a) (h1:a≠[]):(a ++ r).head?≠some 45:=by
  cases a with
  | nil=>exact absurd rfl h1
  | cons c a=>have:=h.head;simp;omega
theorem parts_wr1 {m:Bool}{a t p:List Nat}{k:Int} (ha:AllDigits a) (h1:a≠[]) (ht:AllDigits t) (hp:PowAt p k)
    (hl:((if m then [45] else []) ++ a ++ (if t=[] then [] else 46::t) ++ p).length≤1200):ptsT ((if m then [45] else []) ++ a ++ (if t=[] then [] else 46::t) ++ p)=some (m,digitsVal (a ++ t),k - t.length):=by
  generalize hg:a ++ (if t=[] then [] else 46::t)=g
  have n101:(101:Nat) ∉ g:=by
    rw [← hg]
    intro q
    rcases List.mem_append.mp q with q | q
    · exact ad_not_mem ha (by omega) q
    · split at q
      · simp at q
      · rcases List.mem_cons.mp q with q | q
        · omega
        · exact ad_not_mem ht (by omega) q
  have e0:(if m then [45] else []) ++ a ++ (if t=[] then [] else 46::t) ++ p=(if m then [45] else []) ++ (g ++ p):=by rw [← hg];simp
  rw [e0]
  have hd:decide (((if m then [45] else []) ++ (g ++ p)).head?=some 45)=m:=by
    cases m
    · refine decide_eq_false ?_
      simp only [Bool.false_eq_true,if_false,List.nil_append]
      rw [← hg,List.append_assoc]
      exact head_fig ha h1
    · exact decide_eq_true rfl
  have dr:(if m then List.drop 1 ((if m then [45] else []) ++ (g ++ p)) else (if m then [45] else []) ++ (g ++ p))=g ++ p:=by
    cases m<;>rfl
  have p46:pt 46 g=(a,(if t=[] then [] else [46]),t):=by
    rw [← hg]
    by_cases q:t=[]
    · subst q
      simp only [if_true,List.append_nil]
      exact pt_no (ad_not_mem ha (by omega))
    · rw [if_neg q,if_neg q]
      exact pt_at (ad_not_mem ha (by omega))
  have f1:fig1 a=true:=(fig1_iff a).mpr ⟨h1,ha⟩
  have len:¬ 1200<((if m then [45] else []) ++ (g ++ p)).length:=by
    rw [← e0];omega
  have f2:(if t=[] then [] else [46])=[46]→fig1 t=true:=fun q=>by
    by_cases e:t=[]
    · rw [if_pos e] at q;simp at q
    · exact (fig1_iff t).mpr ⟨e,ht⟩
  unfold ptsT
  simp only [hd,dr,if_neg len]
  rcases hp with ⟨rfl,rfl⟩ | ⟨q,rfl,hq⟩
  · rw [List.append_nil,pt_no n101]
    simp only [p46]
    rw [if_pos ⟨f1,f2⟩]
    rfl
  · rw [pt_at n101]
    simp only [p46]
    rw [if_pos ⟨f1,f2⟩]
    simp only [if_true,hq]
    rfl
theorem parts_wr {m:Bool}{a t p:List Nat}{k:Int} (ha:AllDigits a) (h1:a≠[]) (ht:AllDigits t) (hp:PowAt p k)
    (hl:a.length+t.length+p.length≤1198):ptsT ((if m then [45] else []) ++ a ++ (if t=[] then [] else 46::t) ++ p)=some (m,digitsVal (a ++ t),k - t.length):=by
  refine parts_wr1 ha h1 ht hp ?_
  have l1:(if m then [45] else ([]:List Nat)).length≤1:=by cases m<;>simp
  have l2:(if t=[] then [] else 46::t).length≤t.length+1:=by split<;>simp
  simp only [List.length_append]
  omega
theorem pow_fig {f:List Nat} (m:Bool) (h:AllDigits f) (h1:f≠[]) (h3:f.length≤3):powT ((if m then [45] else []) ++ f)=some (if m then -(digitsVal f:Int) else (digitsVal f:Int)):=by
  have f1:fig1 f=true:=(fig1_iff f).mpr ⟨h1,h⟩
  unfold powT
  cases m
  · have:decide (f.head?=some 45)=false:=decide_eq_false (by
      have:=head_fig (r:=[]) h h1
      rw [List.append_nil] at this
      exact this)
    simp only [Bool.false_eq_true,if_false,List.nil_append,this]
    rw [if_pos ⟨f1,h3⟩]
  · have:decide (((if true=true then [45] else []) ++ f).head?=some 45)=true:=decide_eq_true rfl
    simp only [this,if_true]
    show (if fig1 f=true∧f.length≤3 then _ else _)=_
    rw [if_pos ⟨f1,h3⟩]
    rfl
end Cm
namespace Cm
open PySem Mi
def Wd (e f:Int):Prop:=2≤e∧e≤11∧1≤f∧f≤60
theorem okShl_1 {b:Int} (h0:0≤b) (h:b≤1000):okShl 1 b:=okShl_of (n:=1) h0 (by decide) (by omega)
theorem z8p {x lo hi:Int} (h0:lo≤x) (h1:x≤hi):zt [.int x,.int lo,.int hi] = .ok (.bl true):=by
  dsimp! [zt,z5s,z3v,z5r,h0,h1]
theorem z90 {e f:Int} (h:Wd e f):zk [.int e,.int f] = .ok (.tup [.int e,.int f]):=by
  obtain ⟨h1,h2,h3,h4⟩:=h
  dsimp! [zk,z63,z8p h1 h2,z8p h3 h4]
theorem cast2:((2:Nat):Int)=2:=rfl
theorem z8e {e f:Int} (h:Wd e f):q_check_width [.tup [.int e,.int f]] = .ok .non:=by
  dsimp! [q_check_width,z5m,cast2,z90 h,decide_true,Bool.not_true,Bool.false_eq_true,if_false]
theorem z6z {e f:Int} (h:Wd e f):z2u [.tup [.int e,.int f]] = .ok (.int (p2 (1+e+f))):=by
  have:=z8e h
  obtain ⟨h1,h2,h3,h4⟩:=h
  dsimp! [z2u,z5w,this,okShl_1 (b:=1+e+f) (by omega) (by omega),Int.one_mul]
theorem z64 {e f:Int} (h:Wd e f):z1t [.tup [.int e,.int f]] = .ok (.int (p2 (e - 1) - 1)):=by
  have:=z8e h
  obtain ⟨h1,h2,h3,h4⟩:=h
  dsimp! [z1t,z5k,this,okShl_1 (b:=e - 1) (by omega) (by omega),Int.one_mul]
theorem z58 {e f:Int} (h:Wd e f):z12 [.tup [.int e,.int f]] = .ok (.int (1 - (p2 (e - 1) - 1) - f)):=by
  dsimp! [z12,z5v,z64 h]
theorem z3w {c:Int} (h0:0≤c) (h:c≤1000):z6 [.int c] = .ok (.int (p2 c - 1)):=by
  dsimp! [z6,z5j,okShl_1 h0 h,Int.one_mul]
theorem z55 {e f w:Int} (h:Wd e f) (h0:0≤w) (h1:w<p2 (1+e+f)):q_check_word [.tup [.int e,.int f],.int w] = .ok .non:=by
  dsimp! [q_check_word,z5n,z6z h,z8p h0 (show w≤p2 (1+e+f) - 1 by omega)]
theorem z59 {x c:Int} (hc:0≤c) (hc':c≤1000) (h0:0≤x) (h1:x<p2 c):z1u [.int x,.int c] = .ok .non:=by
  dsimp! [z1u,z5l,z3w hc hc',z8p h0 (show x≤p2 c - 1 by omega)]
theorem z6y {e f s x y:Int} (h:Wd e f) (s0:0≤s) (s1:s<2) (x0:0≤x) (x1:x<p2 e) (y0:0≤y) (y1:y<p2 f) :
    z1y [.tup [.int e,.int f],.int s,.int x,.int y] = .ok (.int (s*p2 (e+f)+x*p2 f+y)):=by
  have a:=z8e h
  obtain ⟨h1,h2,h3,h4⟩:=h
  have b:=z59 (x:=s) (c:=1) (by decide) (by decide) s0 (by rw [p2_1];exact s1)
  have c:=z59 (by omega) (by omega) x0 x1
  have d:=z59 (by omega) (by omega) y0 y1
  have bx:nb x≤11:=nb_le (by
    have:=p2_le (a:=e) (b:=11) (by omega) (by omega)
    have e11:p2 11=2048:=by decide
    omega)
  have o1:okShl s (e+f):=okShl_of (n:=10) (by omega) (nb_le (by omega)) (by omega)
  have o2:okShl x f:=okShl_of (n:=11) (by omega) bx (by omega)
  dsimp! [z1y,z5t,a,b,c,d,o1,o2]
theorem and_ones {x c:Int} (h0:0≤x) (hc:0≤c):Builtin.bitAnd x (p2 c - 1)=x % p2 c:=by
  have hp:=p2_pos c
  unfold Builtin.bitAnd
  rw [decide_eq_true h0,decide_eq_true (show 0≤p2 c - 1 by omega)]
  show (((x.toNat &&& (p2 c - 1).toNat:Nat)):Int)=_
  have e:(p2 c - 1).toNat=2 ^ c.toNat - 1:=by
    have e1:p2 c=((2 ^ c.toNat:Nat):Int):=by show (2:Int) ^ c.toNat=_;push_cast;rfl
    rw [e1];omega
  rw [e,Nat.and_two_pow_sub_one_eq_mod]
  have e1:p2 c=((2 ^ c.toNat:Nat):Int):=by show (2:Int) ^ c.toNat=_;push_cast;rfl
  rw [e1]
  push_cast
  rw [Int.toNat_of_nonneg h0]
theorem z56 {e f w:Int} (h:Wd e f) (h0:0≤w) (h1:w<p2 (1+e+f)) :
    z8f [.tup [.int e,.int f],.int w] = .ok (.tup [.int (w / p2 (e+f)),.int (w / p2 f % p2 e),.int (w % p2 f)]):=by
  have a:=z55 h h0 h1
  obtain ⟨g1,g2,g3,g4⟩:=h
  have o1:okShr (e+f):=by show 0≤e+f;omega
  have o2:okShr f:=by show 0≤f;omega
  have hp:=p2_pos f
  have z:0≤w / p2 f:=Int.ediv_nonneg h0 (by omega)
  dsimp! [z8f,z87,a,o1,o2,z3w (show 0≤e by omega) (by omega),z3w (show 0≤f by omega) (by omega),and_ones z (show 0≤e by omega),and_ones h0 (show 0≤f by omega)]
theorem parts {e f w:Int} (h:Wd e f) (h0:0≤w) (h1:w<p2 (1+e+f)):∃ s x y,0≤s∧s<2∧0≤x∧x<p2 e∧0≤y∧y<p2 f∧w=(s*p2 e+x)*p2 f+y∧w / p2 (e+f)=s∧w / p2 f=s*p2 e+x∧w / p2 f % p2 e=x∧w % p2 f=y:=by
  obtain ⟨g1,g2,g3,g4⟩:=h
  have pf:=p2_pos f
  have pe:=p2_pos e
  have e1:p2 (e+f)=p2 f*p2 e:=by rw [Int.add_comm,p2_add (by omega) (by omega)]
  have e2:p2 (1+e+f)=2*(p2 f*p2 e):=by rw [← e1,← p2_succ (by omega)];congr 1;omega
  have d1:=Int.mul_ediv_add_emod w (p2 f)
  have d2:=Int.mul_ediv_add_emod (w / p2 f) (p2 e)
  have d3:w / p2 (e+f)=w / p2 f / p2 e:=by rw [e1,Int.ediv_ediv_of_nonneg (by omega)]
  have z:0≤w / p2 f:=Int.ediv_nonneg h0 (by omega)
  refine ⟨w / p2 f / p2 e,w / p2 f % p2 e,w % p2 f,Int.ediv_nonneg z (by omega),?_,Int.emod_nonneg _ (by omega),Int.emod_lt_of_pos _ pe,Int.emod_nonneg _ (by omega),Int.emod_lt_of_pos _ pf,?_,d3,?_,rfl,rfl⟩
  · rw [← d3,e1]
    refine Int.ediv_lt_of_lt_mul (Int.mul_pos pf pe) (by rw [← e2];exact h1)
  · rw [Int.mul_comm (_ / p2 e),d2,Int.mul_comm (w / p2 f)];omega
  · rw [Int.mul_comm (_ / p2 e),d2]
theorem mem_cut {l:List PV}{lo hi:Option Int}{x:PV} (h:x∈cutP l lo hi):x∈l:=by
  unfold cutP at h
  exact List.mem_of_mem_drop (List.mem_of_mem_take h)
theorem mem_cut_ints {ns:List Int}{lo hi:Option Int}{x:PV} (h:x∈cutP (ns.map PV.int) lo hi):∃ n,x = .int n∧n∈ns:=by
  obtain ⟨n,hn,rfl⟩:=List.mem_map.mp (mem_cut h)
  exact ⟨n,rfl,hn⟩
theorem pick {l:List Int}{i b:Int} (h0:0≤i) (h1:i<l.length) (hb:∀ x∈l,0≤x∧x<b):∃ x,oItem (.lst (l.map PV.int)) (.int i) = .ok (.int x)∧0≤x∧x<b:=by
  refine ⟨_,oItem_ints h0 h1,?_⟩
  rw [List.getD_eq_getElem?_getD,List.getElem?_eq_getElem (by omega)]
  exact hb _ (List.getElem_mem _)
theorem p2_wd {e f:Int} (h:Wd e f):4≤p2 e∧2≤p2 f∧p2 f=2*p2 (f - 1)∧p2 (e+f)=p2 e*p2 f∧p2 (1+e+f)=2*p2 (e+f)∧nb (p2 e)≤12∧nb (p2 f)≤61∧nb (p2 (e+f))≤72∧nb (p2 (1+e+f))≤73∧1≤p2 (f - 1)∧p2 e≤2048:=by
  obtain ⟨g1,g2,g3,g4⟩:=h
  have e4:p2 2=4:=by decide
  have a:=p2_le (a:=2) (b:=e) (by decide) g1
  have b:=p2_le (a:=1) (b:=f) (by decide) g3
  have e11:p2 11=2048:=by decide
  have c:=p2_le (a:=e) (b:=11) (by omega) g2
  rw [p2_1] at b
  refine ⟨by omega,b,?_,p2_add (by omega) (by omega),?_,?_,?_,?_,?_,p2_pos _,by omega⟩
  · rw [← p2_succ (by omega)];congr 1;omega
  · rw [← p2_succ (by omega)];congr 1;omega
  all_goals rw [nb_p2 (by omega)];omega
theorem named {P F H S T:Int} (p3:2≤F) (p4:F=2*H) (p7:1≤H) (m1:T=S+F) (m3:3*F≤S):∀ x∈[0,1,F - 1,F,S - 1,S,S+1,S+H],0≤x∧x<T:=by
  simp only [List.forall_mem_cons]
  exact ⟨⟨by omega,by omega⟩,⟨by omega,by omega⟩,⟨by omega,by omega⟩,⟨by omega,by omega⟩,⟨by omega,by omega⟩,⟨by omega,by omega⟩,⟨by omega,by omega⟩,⟨by omega,by omega⟩,fun x h=>absurd h List.not_mem_nil⟩
theorem half {M T r:Int} (h:M=2*T) (h0:0≤T):0≤r % 2*(M / 2)∧r % 2*(M / 2)≤T:=by
  have e:M / 2=T:=by omega
  rw [e]
  have hh:r % 2=0∨r % 2=1:=by omega
  rcases hh with hh | hh<;>rw [hh]<;>omega
theorem top_word {e f:Int} (h:Wd e f):p2 (e+f)=(p2 e - 1)*p2 f+p2 f∧3*p2 f≤(p2 e - 1)*p2 f:=by
  obtain ⟨p1,p3,p4,p5,p6,b1,b2,b3,b4,p7,p8⟩:=p2_wd h
  rw [p5]
  exact ⟨by rw [Int.sub_mul];omega,Int.mul_le_mul_of_nonneg_right (by omega) (by omega)⟩
theorem mulc {c:Int} (hc:nb c≤1048576):okMul c 618033988749894848204587:=okMul_of (n:=200) hc (nb_le (by decide)) (by decide)
theorem z8a {e f c:Int} (h:Wd e f) (hc:nb c≤1048576):∃ w,z2b [.tup [.int e,.int f],.int c] = .ok (.int w)∧0≤w∧w<p2 (1+e+f):=by
  obtain ⟨p1,p3,p4,p5,p6,b1,b2,b3,b4,p7,p8⟩:=p2_wd h
  obtain ⟨m1,m3⟩:=top_word h
  obtain ⟨g1,g2,g3,g4⟩:=h
  have hm:=mulc hc
  have o1:=okShl_1 (b:=1+e+f) (by omega) (by omega)
  have o2:=okShl_1 (b:=e) (by omega) (by omega)
  have o3:=okShl_1 (b:=f) (by omega) (by omega)
  have o4:=okShl_1 (b:=f - 1) (by omega) (by omega)
  have o5:okShl (p2 e - 1) f:=okShl_of (n:=12) (by omega) (nb_le (by omega)) (by omega)
  have o6:okDiv (p2 (1+e+f)):=okDiv_of (p2_pos _) b4 (by decide)
  have o7:okMod (p2 (1+e+f)):=p2_pos _
  have hr0:0≤c*618033988749894848204587 % 1000000000000000000000007:=Int.emod_nonneg _ (by decide)
  generalize hr:c*618033988749894848204587 % 1000000000000000000000007=r at hr0
  have o8:okMul (r % 2) (p2 (1+e+f) / 2):=okMul_l (by omega) (by omega)
  have w0:0≤r % p2 (1+e+f):=Int.emod_nonneg _ (by have:=p2_pos (1+e+f);omega)
  have w1:r % p2 (1+e+f)<p2 (1+e+f):=Int.emod_lt_of_pos _ (p2_pos _)
  generalize hS:(p2 e - 1)*p2 f=S at m1 m3
  have k0:0≤r / p2 (1+e+f) % 16:=by omega
  generalize hk:r / p2 (1+e+f) % 16=k at k0
  by_cases h8:k<8
  · obtain ⟨x,ex,x0,x1⟩:=pick (l:=[0,1,p2 f - 1,p2 f,S - 1,S,S+1,S+p2 (f - 1)]) (i:=k) k0 h8 (named (P:=0) p3 p4 p7 m1 m3)
    simp only [List.map_cons,List.map_nil] at ex
    have hz:=half (r:=r) p6 (by omega)
    refine ⟨x+r % 2*(p2 (1+e+f) / 2),?_,by omega,by omega⟩
    dsimp! [z2b,z4l,Int.one_mul,o1,o2,o3,o4,o5,o6,o7,o8,hm,hr,hk,h8,hS,ex]
  · refine ⟨r % p2 (1+e+f),?_,w0,w1⟩
    dsimp! [z2b,z4l,Int.one_mul,o1,o2,o3,o4,o5,o6,o7,o8,hm,hr,hk,h8,hS]
theorem str_self (s:Str):(s == s)=true:=beq_self_eq_true s
def kindP (e f x y:Int):String:=if x=0 then (if y=0 then "nought" else "small") else if x<p2 e - 1 then "plain" else if y=0 then "endless" else if p2 (f - 1)≤y then "still" else "loud"
theorem z8o {e f:Int} (h:Wd e f):z1x [.tup [.int e,.int f]] = .ok (.int (p2 (f - 1))):=by
  obtain ⟨g1,g2,g3,g4⟩:=h
  dsimp! [z1x,z5q,Int.one_mul,okShl_1 (b:=f - 1) (by omega) (by omega)]
theorem z6b {e f w:Int} (h:Wd e f) (h0:0≤w) (h1:w<p2 (1+e+f)):za [.tup [.int e,.int f],.int w] = .ok (.str (kindP e f (w / p2 f % p2 e) (w % p2 f))):=by
  have a:=z56 h h0 h1
  have b:=z8o h
  have c:=z3w (c:=e) (by have:=h.1;omega) (by have:=h.2.1;omega)
  generalize w / p2 f % p2 e=x at *
  generalize w % p2 f=y at *
  by_cases k1:x=0
  · by_cases k2:y=0<;>dsimp! [za,z36,kindP,a,b,c,k1,k2,if_true,if_false]
  · by_cases k3:x<p2 e - 1
    · dsimp! [za,z36,kindP,a,b,c,k1,k3,if_true,if_false]
    · by_cases k2:y=0
      · dsimp! [za,z36,kindP,a,b,c,k1,k2,k3,if_true,if_false]
      · by_cases k4:p2 (f - 1)≤y<;>dsimp! [za,z36,kindP,a,b,c,k1,k2,k3,k4,if_true,if_false]
theorem tb_hi {r n:Nat} (h:r<2 ^ n) (i:Nat):(2 ^ n+r).testBit i=(r.testBit i || decide (n=i)):=by
  by_cases h1:n=i
  · subst h1
    rw [Nat.testBit_two_pow_add_eq,Nat.testBit_lt_two_pow h,decide_eq_true rfl];rfl
  · rw [decide_eq_false h1,Bool.or_false]
    by_cases h2:i<n
    · rw [Nat.testBit_two_pow_add_gt h2]
    · have a:r<2 ^ i:=Nat.lt_of_lt_of_le h (Nat.pow_le_pow_right (by decide) (by omega))
      have b:2 ^ n+r<2 ^ i:=by
        have:2 ^ (n+1)≤2 ^ i:=Nat.pow_le_pow_right (by decide) (by omega)
        rw [Nat.pow_succ] at this;omega
      rw [Nat.testBit_lt_two_pow a,Nat.testBit_lt_two_pow b]
theorem or_lo {r n:Nat} (h:r<2 ^ n):r ||| 2 ^ n=2 ^ n+r:=by
  apply Nat.eq_of_testBit_eq
  intro i
  rw [Nat.testBit_or,Nat.testBit_two_pow,tb_hi h]
theorem or_hi {r n:Nat} (h:r<2 ^ n):(2 ^ n+r) ||| 2 ^ n=2 ^ n+r:=by
  rw [← or_lo h,Nat.or_assoc,Nat.or_self]
theorem and_lo {r n:Nat} (h:r<2 ^ n):r &&& 2 ^ n=0:=by
  apply Nat.eq_of_testBit_eq
  intro i
  rw [Nat.testBit_and,Nat.testBit_two_pow,Nat.zero_testBit]
  by_cases h1:n=i
  · subst h1;rw [Nat.testBit_lt_two_pow h];rfl
  · rw [decide_eq_false h1,Bool.and_false]
theorem and_hi {r n:Nat} (h:r<2 ^ n):(2 ^ n+r) &&& 2 ^ n=2 ^ n:=by
  apply Nat.eq_of_testBit_eq
  intro i
  rw [Nat.testBit_and,Nat.testBit_two_pow,tb_hi h]
  by_cases h1:n=i
  · rw [decide_eq_true h1,Bool.or_true,Bool.and_true]
  · rw [decide_eq_false h1,Bool.and_false]
theorem p2_cast (c:Int):p2 c=((2 ^ c.toNat:Nat):Int):=by show (2:Int) ^ c.toNat=_;push_cast;rfl
theorem bitOr_nn {x y:Int} (hx:0≤x) (hy:0≤y):Builtin.bitOr x y=((x.toNat ||| y.toNat:Nat):Int):=by
  unfold Builtin.bitOr Builtin.bitAnd
  have h1:¬ 0≤Builtin.bitNot x:=by unfold Builtin.bitNot;omega
  have h2:¬ 0≤Builtin.bitNot y:=by unfold Builtin.bitNot;omega
  rw [decide_eq_false h1,decide_eq_false h2]
  show Builtin.bitNot (Builtin.bitNot (((Builtin.bitNot (Builtin.bitNot x)).toNat ||| (Builtin.bitNot (Builtin.bitNot y)).toNat:Nat):Int))=_
  have nn:∀ z,Builtin.bitNot (Builtin.bitNot z)=z:=fun z=>by unfold Builtin.bitNot;omega
  rw [nn,nn,nn]
theorem and_top {w c:Int} (h0:0≤w) (h1:w<2*p2 c):Builtin.bitAnd w (p2 c)=w / p2 c*p2 c:=by
  have hp:=p2_pos c
  unfold Builtin.bitAnd
  rw [decide_eq_true h0,decide_eq_true (Int.le_of_lt hp)]
  show (((w.toNat &&& (p2 c).toNat:Nat)):Int)=_
  rw [p2_cast] at *
  generalize c.toNat=n at *
  obtain ⟨m,rfl⟩:∃ m:Nat,w=m:=⟨w.toNat,by omega⟩
  rw [Int.toNat_natCast,Int.toNat_natCast]
  by_cases h:m<2 ^ n
  · rw [and_lo h,Int.ediv_eq_zero_of_lt (by omega) (by omega),Int.zero_mul];rfl
  · obtain ⟨r,rfl⟩:∃ r,m=2 ^ n+r:=⟨m - 2 ^ n,by omega⟩
    rw [and_hi (by omega)]
    have e:((2 ^ n+r:Nat):Int)=(r:Int)+1*((2 ^ n:Nat):Int):=by omega
    rw [e,Int.add_mul_ediv_right _ _ (by omega),Int.ediv_eq_zero_of_lt (by omega) (by omega)];omega
theorem xor_top {w c:Int} (h0:0≤w) (h1:w<2*p2 c):Builtin.bitXor w (p2 c)=(w+p2 c) % (2*p2 c):=by
  have hp:=p2_pos c
  unfold Builtin.bitXor
  rw [bitOr_nn h0 (Int.le_of_lt hp),and_top h0 h1]
  clear hp
  rw [p2_cast] at *
  have hp:0<2 ^ c.toNat:=Nat.two_pow_pos _
  generalize c.toNat=n at *
  obtain ⟨m,rfl⟩:∃ m:Nat,w=m:=⟨w.toNat,by omega⟩
  rw [Int.toNat_natCast,Int.toNat_natCast]
  by_cases h:m<2 ^ n
  · rw [or_lo h,Int.emod_eq_of_lt (by omega) (by omega),Int.ediv_eq_zero_of_lt (by omega) (by omega),Int.zero_mul];omega
  · obtain ⟨r,rfl⟩:∃ r,m=2 ^ n+r:=⟨m - 2 ^ n,by omega⟩
    rw [or_hi (by omega)]
    have e:(((2 ^ n+r:Nat):Int)+((2 ^ n:Nat):Int))=(r:Int)+1*(2*((2 ^ n:Nat):Int)):=by omega
    have e':((2 ^ n+r:Nat):Int) / ((2 ^ n:Nat):Int)=1:=by
      have:((2 ^ n+r:Nat):Int)=(r:Int)+1*((2 ^ n:Nat):Int):=by omega
      rw [this,Int.add_mul_ediv_right _ _ (by omega),Int.ediv_eq_zero_of_lt (by omega) (by omega)];rfl
    rw [e,Int.add_mul_emod_self_right,Int.emod_eq_of_lt (by omega) (by omega),e'];omega
theorem z6d {e f:Int} (h:Wd e f):z22 [.tup [.int e,.int f]] = .ok (.int (p2 (e+f))):=by
  obtain ⟨g1,g2,g3,g4⟩:=h
  dsimp! [z22,z5y,Int.one_mul,okShl_1 (b:=e+f) (by omega) (by omega)]
theorem z77 {e f w:Int} (h:Wd e f) (h0:0≤w) (h1:w<p2 (1+e+f)):z2e [.tup [.int e,.int f],.int w] = .ok (.int ((w+p2 (e+f)) % (2*p2 (e+f)))):=by
  have a:=z55 h h0 h1
  have b:=z6d h
  obtain ⟨p1,p3,p4,p5,p6,_⟩:=p2_wd h
  rw [p6] at h1
  dsimp! [z2e,z61,a,b,xor_top h0 h1]
theorem z8x {e f w:Int} (h:Wd e f) (h0:0≤w) (h1:w<p2 (1+e+f)):z1a [.tup [.int e,.int f],.int w] = .ok (.int (w % p2 (e+f))):=by
  have a:=z55 h h0 h1
  have b:=z6d h
  dsimp! [z1a,z62,a,b,and_ones h0 (show 0≤e+f by have:=h.1;have:=h.2.2.1;omega)]
theorem ni_nought:cNotIn (.str "nought") (.tup [.str "nought",.str "small",.str "plain"]) = .ok (.bl false):=rfl
theorem ni_small:cNotIn (.str "small") (.tup [.str "nought",.str "small",.str "plain"]) = .ok (.bl false):=rfl
theorem ni_plain:cNotIn (.str "plain") (.tup [.str "nought",.str "small",.str "plain"]) = .ok (.bl false):=rfl
theorem s_nought:(Str.ofString "nought" == Str.ofString "plain")=false:=rfl
theorem s_small:(Str.ofString "small" == Str.ofString "plain")=false:=rfl
def stepsP (f x y:Int):Int:=if x=0 then y else y+p2 f
def powP (e f x:Int):Int:=if x=0 then 1 - (p2 (e - 1) - 1) - f else 1 - (p2 (e - 1) - 1) - f+x - 1
theorem z8y {e f w:Int} (h:Wd e f) (h0:0≤w) (h1:w<p2 (1+e+f)) (hx:w / p2 f % p2 e<p2 e - 1) :
    z1b [.tup [.int e,.int f],.int w]=zi [.int (if w / p2 (e+f)=1 then -(stepsP f (w / p2 f % p2 e) (w % p2 f)) else stepsP f (w / p2 f % p2 e) (w % p2 f)),.int (powP e f (w / p2 f % p2 e))]:=by
  have a:=z56 h h0 h1
  have k:=z6b h h0 h1
  have l:=z58 h
  have o:=okShl_1 (b:=f) (by have:=h.2.2.1;omega) (by have:=h.2.2.2;omega)
  generalize w / p2 f % p2 e=x at *
  generalize w % p2 f=y at *
  generalize w / p2 (e+f)=s at *
  have ex:∀ a b,∃ n m,zi [.int a,.int b] = .ok (.tup [.int n,.int m]):=fun a b=>by
    by_cases z:a=0
    · subst z;exact ⟨_,_,z67 b⟩
    · exact ⟨_,_,z68 b z⟩
  have sg:∀ n:Int,(if s=1 then R.ok (PV.int (-n)) else R.ok (PV.int n))=R.ok (PV.int (if s=1 then -n else n)):=fun n=>by split<;>rfl
  unfold stepsP powP
  unfold kindP at k
  by_cases k1:x=0
  · obtain ⟨n,m,en⟩:=ex (if s=1 then -y else y) (1 - (p2 (e - 1) - 1) - f)
    by_cases k2:y=0
    · simp only [k1,k2,if_true] at k a en
      by_cases ks:s=1<;>simp only [ks,if_true,if_false] at en<;>dsimp! [z1b,z48,Int.one_mul,a,k,l,o,k1,k2,ks,ni_nought,s_nought,if_true,if_false,en]
    · simp only [k1,k2,if_true,if_false] at k a
      by_cases ks:s=1<;>simp only [ks,if_true,if_false] at en<;>dsimp! [z1b,z48,Int.one_mul,a,k,l,o,k1,k2,ks,ni_small,s_small,if_true,if_false,en]
  · obtain ⟨n,m,en⟩:=ex (if s=1 then -(y+p2 f) else y+p2 f) (1 - (p2 (e - 1) - 1) - f+x - 1)
    simp only [k1,hx,if_true,if_false] at k a
    by_cases ks:s=1<;>simp only [ks,if_true,if_false] at en<;>dsimp! [z1b,z48,Int.one_mul,a,k,l,o,k1,ks,ni_plain,str_self,if_true,if_false,en]
theorem wd_a (r:Int):Wd (2+r / 2 % 3) (1+r / 6 % 4):=by
  have a0:=Int.emod_nonneg (r / 2) (show (3:Int)≠0 by decide)
  have a1:=Int.emod_lt_of_pos (r / 2) (show (0:Int)<3 by decide)
  have b0:=Int.emod_nonneg (r / 6) (show (4:Int)≠0 by decide)
  have b1:=Int.emod_lt_of_pos (r / 6) (show (0:Int)<4 by decide)
  generalize r / 2 % 3=x at *
  generalize r / 6 % 4=y at *
  unfold Wd;omega
theorem wd_b (r:Int):Wd (2+r / 2 % 10) (1+r / 20 % 60):=by
  have a0:=Int.emod_nonneg (r / 2) (show (10:Int)≠0 by decide)
  have a1:=Int.emod_lt_of_pos (r / 2) (show (0:Int)<10 by decide)
  have b0:=Int.emod_nonneg (r / 20) (show (60:Int)≠0 by decide)
  have b1:=Int.emod_lt_of_pos (r / 20) (show (0:Int)<60 by decide)
  generalize r / 2 % 10=x at *
  generalize r / 20 % 60=y at *
  unfold Wd;omega
theorem z6v (c:Int):∃ e f,z2a [.int c] = .ok (.tup [.int e,.int f])∧Wd e f:=by
  by_cases h:c*48271 % 999983 % 2=1
  · refine ⟨2+c*48271 % 999983 / 2 % 3,1+c*48271 % 999983 / 6 % 4,?_,wd_a _⟩
    dsimp! [z2a,z4k,h]
  · refine ⟨2+c*48271 % 999983 / 2 % 10,1+c*48271 % 999983 / 20 % 60,?_,wd_b _⟩
    dsimp! [z2a,z4k,h]
theorem clip {q d T:Int} (h0:0≤T) (h1:q+d<T) (h2:0<T):0≤(if 0 > q+d then (0:Int) else q+d)∧(if 0 > q+d then (0:Int) else q+d)<T:=by split<;>omega
def Sp (v:PV):Prop:=∃ n k:Int,v = .tup [.int n,.int k]∧nb n≤1000∧-4000≤k∧k≤4000
def ab (n:Int):Int:=if n<0 then -n else n
theorem nb_mono {a b:Int} (h0:0≤a) (h:a≤b):nb a≤nb b:=nb_le (by have:=nb_lt (a:=b) (Nat.le_refl _);omega)
theorem ab_e (n:Int):(if n<0 then -n else n)=ab n:=rfl
theorem ab_nn (n:Int):0≤ab n:=by unfold ab;split<;>omega
theorem ab_pos {n:Int} (h:n≠0):0<ab n:=by unfold ab;split<;>omega
theorem ab_neg' (n:Int):ab (-n)=ab n:=by unfold ab;split<;>split<;>omega
theorem nb_ab (n:Int):nb (ab n)=nb n:=by unfold ab;split<;>simp only [nb_neg]
theorem ab_of {n:Int} (h:0≤n):ab n=n:=by unfold ab;rw [if_neg (by omega)]
theorem p2_le0 {a:Int} (h:a≤0):p2 a=1:=by
  show (2:Int) ^ a.toNat=1
  rw [Int.toNat_of_nonpos h];rfl
theorem z8c (n k d:Int) (h1:nb n≤100000) (h2:nb d≤100000) (h3 : -100000≤k) (h4:k≤100000):z19 [.int n,.int k,.int d] = .ok (.tup [.int (n*p2 k),.int (d*p2 (-k))]):=by
  by_cases h:0≤k
  · have o:okShl n k:=okShl_of h h1 (by omega)
    have e:d*p2 (-k)=d:=by rw [p2_le0 (by omega),Int.mul_one]
    dsimp! [z19,z4m,h,o,e]
  · have o:okShl d (-k):=okShl_of (by omega) h2 (by omega)
    have e:n*p2 k=n:=by rw [p2_le0 (by omega),Int.mul_one]
    dsimp! [z19,z4m,h,o,e]
def Ht (s d e:Int):Prop:=d*p2 e≤s*p2 (-e)∧s*p2 (-e)<2*(d*p2 e)
theorem p2_cross {e f:Int} (h:e≤f):p2 f*p2 (-e)=p2 e*p2 (-f)*p2 (f - e):=by
  by_cases h1:0≤e
  · rw [p2_le0 (a:=-e) (by omega),p2_le0 (a:=-f) (by omega),Int.mul_one,Int.mul_one,← p2_add h1 (by omega)];congr 1;omega
  · by_cases h2:0≤f
    · rw [p2_le0 (a:=e) (by omega),p2_le0 (a:=-f) (by omega),Int.one_mul,Int.one_mul,← p2_add h2 (by omega)];congr 1
    · rw [p2_le0 (a:=e) (by omega),p2_le0 (a:=f) (by omega),Int.one_mul,Int.one_mul,← p2_add (by omega) (by omega)];congr 1;omega
theorem p2_two {j:Int} (h:1≤j):2≤p2 j:=by
  have:=p2_le (a:=1) (b:=j) (by decide) h
  rw [p2_1] at this;exact this
theorem ht_lt {s d e f:Int} (hd:0<d) (he:Ht s d e) (hf:Ht s d f):¬ e<f:=by
  intro h
  have c:=p2_cross (e:=e) (f:=f) (by omega)
  have c2:=p2_two (j:=f - e) (by omega)
  have pe:=p2_pos e
  have pe':=p2_pos (-e)
  have pf':=p2_pos (-f)
  have a1:s*p2 (-e)*p2 (-f)<2*(d*p2 e)*p2 (-f):=Int.mul_lt_mul_of_pos_right he.2 pf'
  have a2:d*p2 f*p2 (-e)≤s*p2 (-f)*p2 (-e):=Int.mul_le_mul_of_nonneg_right hf.1 (by omega)
  have a3:d*p2 f*p2 (-e)=d*(p2 e*p2 (-f))*p2 (f - e):=by rw [Int.mul_assoc,c];exact (Int.mul_assoc _ _ _).symm
  have a4:s*p2 (-f)*p2 (-e)=s*p2 (-e)*p2 (-f):=by rw [Int.mul_assoc,Int.mul_assoc,Int.mul_comm (p2 (-f))]
  have a5:2*(d*p2 e)*p2 (-f)=d*(p2 e*p2 (-f))*2:=by rw [Int.mul_assoc,Int.mul_assoc,Int.mul_comm]
  have a6:d*(p2 e*p2 (-f))*2≤d*(p2 e*p2 (-f))*p2 (f - e):=Int.mul_le_mul_of_nonneg_left c2 (Int.mul_nonneg (by omega) (Int.mul_nonneg (by omega) (by omega)))
  omega
theorem ht_unique {s d e f:Int} (hd:0<d) (he:Ht s d e) (hf:Ht s d f):e=f:=by
  have:=ht_lt hd he hf
  have:=ht_lt hd hf he
  omega
theorem nb_bounds {s:Int} (hs:0<s):p2 ((nb s:Int) - 1)≤s∧s<p2 (nb s):=by
  have h1:=nb_lt (a:=s) (Nat.le_refl _)
  have e:p2 (nb s:Int)=((2 ^ nb s:Nat):Int):=by rw [p2_nat];push_cast;rfl
  refine ⟨?_,by omega⟩
  by_cases hlt:s<p2 ((nb s:Int) - 1)
  · exfalso
    have hp:=nb_pos (a:=s) (by omega)
    have h2:nb s≤nb s - 1:=nb_le (by
      have e2:(nb s:Int) - 1=((nb s - 1:Nat):Int):=by omega
      rw [e2,p2_nat] at hlt
      have e3:((2:Int) ^ (nb s - 1))=((2 ^ (nb s - 1):Nat):Int):=by push_cast;rfl
      omega)
    omega
  · omega
theorem ht_guess {s d:Int} (hs:0<s) (hd:0<d):d*p2 ((nb s:Int) - nb d)<2*(s*p2 (-((nb s:Int) - nb d)))∧s*p2 (-((nb s:Int) - nb d))<2*(d*p2 ((nb s:Int) - nb d)):=by
  obtain ⟨s1,s2⟩:=nb_bounds hs
  obtain ⟨d1,d2⟩:=nb_bounds hd
  have hp1:(1:Int)≤nb s:=by have:=nb_pos (a:=s) (by omega);omega
  have hp2:(1:Int)≤nb d:=by have:=nb_pos (a:=d) (by omega);omega
  generalize (nb s:Int)=a at *
  generalize (nb d:Int)=b at *
  have ea:p2 a=2*p2 (a - 1):=by rw [← p2_succ (by omega)];congr 1;omega
  have eb:p2 b=2*p2 (b - 1):=by rw [← p2_succ (by omega)];congr 1;omega
  by_cases h:b≤a
  · have q:=p2_pos (a - b)
    have e1:p2 a=p2 b*p2 (a - b):=by rw [← p2_add (by omega) (by omega)];congr 1;omega
    have f1:d*p2 (a - b)<p2 b*p2 (a - b):=Int.mul_lt_mul_of_pos_right d2 q
    have f2:p2 (b - 1)*p2 (a - b)≤d*p2 (a - b):=Int.mul_le_mul_of_nonneg_right d1 (by omega)
    have e2:p2 a=2*(p2 (b - 1)*p2 (a - b)):=by rw [e1,eb,Int.mul_assoc]
    rw [p2_le0 (a:=-(a - b)) (by omega),Int.mul_one]
    constructor<;>omega
  · have q:=p2_pos (-(a - b))
    have e1:p2 b=p2 a*p2 (-(a - b)):=by rw [← p2_add (by omega) (by omega)];congr 1;omega
    have f1:s*p2 (-(a - b))<p2 a*p2 (-(a - b)):=Int.mul_lt_mul_of_pos_right s2 q
    have f2:p2 (a - 1)*p2 (-(a - b))≤s*p2 (-(a - b)):=Int.mul_le_mul_of_nonneg_right s1 (by omega)
    have e2:p2 b=2*(p2 (a - 1)*p2 (-(a - b))):=by rw [e1,ea,Int.mul_assoc]
    rw [p2_le0 (a:=a - b) (by omega),Int.mul_one]
    constructor<;>omega
theorem p2_down (e:Int):(p2 (e - 1)*2=p2 e∧p2 (-(e - 1))=p2 (-e))∨(p2 (e - 1)=p2 e∧p2 (-(e - 1))=2*p2 (-e)):=by
  by_cases h:1≤e
  · refine .inl ⟨?_,?_⟩
    · rw [Int.mul_comm,← p2_succ (by omega)];congr 1;omega
    · rw [p2_le0 (by omega),p2_le0 (by omega)]
  · refine .inr ⟨?_,?_⟩
    · rw [p2_le0 (by omega),p2_le0 (by omega)]
    · rw [← p2_succ (by omega)];congr 1;omega
theorem ht_down {s d e:Int} (h1:s*p2 (-e)<d*p2 e) (h2:d*p2 e<2*(s*p2 (-e))):Ht s d (e - 1):=by
  unfold Ht
  rcases p2_down e with ⟨a,b⟩ | ⟨a,b⟩
  · rw [b]
    have:d*p2 e=2*(d*p2 (e - 1)):=by rw [← a,← Int.mul_assoc,Int.mul_comm]
    constructor<;>omega
  · rw [a,b,Int.mul_left_comm]
    constructor<;>omega
theorem z6a {n k d:Int} (hn:n≠0) (hd:0<d) (b1:nb n≤50000) (b2:nb d≤50000):∃ e,z1w [.int n,.int k,.int d] = .ok (.int (e+k))∧Ht (ab n) d e∧-50001≤e∧e≤50000:=by
  have hs:=ab_pos hn
  have hb:=nb_ab n
  obtain ⟨g1,g2⟩:=ht_guess hs hd
  have q:=z8c (ab n) (-((nb (ab n):Int) - nb d)) d (by omega) (by omega) (by omega) (by omega)
  rw [Int.neg_neg] at q
  by_cases h:ab n*p2 (-((nb (ab n):Int) - nb d))<d*p2 ((nb (ab n):Int) - nb d)
  · refine ⟨(nb (ab n):Int) - nb d - 1,?_,ht_down h g1,by omega,by omega⟩
    dsimp! [z1w,z4o,hn,ab_e,q,h]
  · refine ⟨(nb (ab n):Int) - nb d,?_,⟨by omega,g2⟩,by omega,by omega⟩
    dsimp! [z1w,z4o,hn,ab_e,q,h]
def sideP (r u:Int):Int:=if 2*r=0 then 0 else if 2*r<u then 1 else if 2*r=u then 2 else 3
theorem z6x {n k d g:Int} (hd:0<d) (b1:nb n≤50000) (b2:nb d≤50000) (h1 : -60000≤k - g) (h2:k - g≤60000) (h3:nb (d*p2 (g - k))≤9000) :
    z11 [.int n,.int k,.int d,.int g] = .ok (.tup [.int (ab n*p2 (k - g) / (d*p2 (g - k))),.int (sideP (ab n*p2 (k - g) - ab n*p2 (k - g) / (d*p2 (g - k))*(d*p2 (g - k))) (d*p2 (g - k)))]):=by
  have hb:=nb_ab n
  have q:=z8c (ab n) (k - g) d (by omega) (by omega) (by omega) (by omega)
  have e : -(k - g)=g - k:=by omega
  rw [e] at q
  have hu:0<d*p2 (g - k):=Int.mul_pos hd (p2_pos _)
  have hx:nb (ab n*p2 (k - g))≤120001:=Nat.le_trans (nb_mul_le _ _) (by
    by_cases z:0≤k - g
    · rw [nb_p2 z];omega
    · rw [p2_le0 (by omega)];have:nb 1=1:=rfl;omega)
  have hx0:0≤ab n*p2 (k - g):=Int.mul_nonneg (ab_nn n) (Int.le_of_lt (p2_pos _))
  generalize ab n*p2 (k - g)=x at *
  generalize d*p2 (g - k)=u at *
  have o:okDiv u:=okDiv_of hu h3 (by decide)
  have hq:nb (x / u)≤120001:=Nat.le_trans (nb_mono (Int.ediv_nonneg hx0 (Int.le_of_lt hu)) (Int.ediv_le_self _ hx0)) hx
  have om:okMul (x / u) u:=okMul_of hq h3 (by decide)
  generalize hy:x / u*u=y at *
  have o2:okMul 2 (x - y):=okMul_l (by decide) (by decide)
  by_cases c1:2*(x - y)=0
  · have z:sideP (x - y) u=0:=if_pos c1
    rw [z]
    dsimp! [z11,z35,ab_e,q,o,om,hy,o2,c1]
  · by_cases c2:2*(x - y)<u
    · have z:sideP (x - y) u=1:=by unfold sideP;rw [if_neg c1,if_pos c2]
      rw [z]
      dsimp! [z11,z35,ab_e,q,o,om,hy,o2,c1,c2]
    · by_cases c3:2*(x - y)=u
      · have z:sideP (x - y) u=2:=by unfold sideP;rw [if_neg c1,if_neg c2,if_pos c3]
        rw [z]
        have n0:¬ u=0:=by omega
        have n1:¬ u<u:=by omega
        dsimp! [z11,z35,ab_e,q,o,om,hy,o2,c3,n0,n1]
      · have z:sideP (x - y) u=3:=by unfold sideP;rw [if_neg c1,if_neg c2,if_neg c3]
        rw [z]
        dsimp! [z11,z35,ab_e,q,o,om,hy,o2,c1,c2,c3]
def Wu (e f s u:Int):Prop:=Wd e f∧(s=0∨s=1)∧0≤u∧u<p2 (e+f)
abbrev eS (e f:Int):Int:=(p2 e - 1)*p2 f
theorem wu_word {e f s u:Int} (h:Wu e f s u):0≤u+s*p2 (e+f)∧u+s*p2 (e+f)<p2 (1+e+f)∧(u+s*p2 (e+f)) / p2 (e+f)=s∧(u+s*p2 (e+f)) % p2 (e+f)=u∧(u+s*p2 (e+f)) / p2 f % p2 e=u / p2 f∧(u+s*p2 (e+f)) % p2 f=u % p2 f:=by
  obtain ⟨hw,hs,u0,u1⟩:=h
  obtain ⟨p1,p3,p4,p5,p6,_⟩:=p2_wd hw
  have st:s*p2 (e+f)=0∨s*p2 (e+f)=p2 (e+f):=by rcases hs with rfl | rfl<;>omega
  have hT:=p2_pos (e+f)
  refine ⟨by omega,by omega,?_,?_,?_,?_⟩
  · rw [Int.add_mul_ediv_right _ _ (by omega),Int.ediv_eq_zero_of_lt u0 u1,Int.zero_add]
  · rw [Int.add_mul_emod_self_right,Int.emod_eq_of_lt u0 u1]
  · rw [p5,← Int.mul_assoc,Int.add_mul_ediv_right _ _ (by omega),Int.add_mul_emod_self_right]
    exact Int.emod_eq_of_lt (Int.ediv_nonneg u0 (by omega)) (Int.ediv_lt_of_lt_mul (by omega) (by rw [← p5];exact u1))
  · rw [p5,← Int.mul_assoc,Int.add_mul_emod_self_right]
theorem wu_of {e f w:Int} (h:Wd e f) (h0:0≤w) (h1:w<p2 (1+e+f)):∃ s u,Wu e f s u∧w=u+s*p2 (e+f):=by
  obtain ⟨p1,p3,p4,p5,p6,_⟩:=p2_wd h
  by_cases c:w<p2 (e+f)
  · exact ⟨0,w,⟨h,.inl rfl,h0,c⟩,by omega⟩
  · exact ⟨1,w - p2 (e+f),⟨h,.inr rfl,by omega,by omega⟩,by omega⟩
def kindU (e f u:Int):String:=if u=0 then "nought" else if u<p2 f then "small" else if u<eS e f then "plain" else if u=eS e f then "endless" else if u<eS e f+p2 (f - 1) then "loud" else "still"
theorem kind_u {e f u:Int} (h:Wd e f) (u0:0≤u) (u1:u<p2 (e+f)):kindP e f (u / p2 f) (u % p2 f)=kindU e f u:=by
  obtain ⟨p1,p3,p4,p5,p6,b1,b2,b3,b4,p7,p8⟩:=p2_wd h
  obtain ⟨m1,m3⟩:=top_word h
  have d:=Int.mul_ediv_add_emod u (p2 f)
  have y0:=Int.emod_nonneg u (show p2 f≠0 by omega)
  have y1:=Int.emod_lt_of_pos u (show 0<p2 f by omega)
  have x0:0≤u / p2 f:=Int.ediv_nonneg u0 (by omega)
  have xl:u / p2 f<p2 e:=Int.ediv_lt_of_lt_mul (by omega) (by rw [← p5];exact u1)
  have z1:u / p2 f=0↔u<p2 f:=by
    constructor
    · intro z;rw [z] at d;omega
    · intro z;exact Int.ediv_eq_zero_of_lt u0 z
  have z2:u / p2 f<p2 e - 1↔u<eS e f:=Int.ediv_lt_iff_lt_mul (by omega)
  have z3:¬ u / p2 f<p2 e - 1→u % p2 f=u - eS e f:=by
    intro z
    have:u / p2 f=p2 e - 1:=by omega
    rw [this,Int.mul_comm] at d
    show _=u - (p2 e - 1)*p2 f
    omega
  unfold kindP kindU
  by_cases c1:u / p2 f=0
  · have c1':=z1.mp c1
    have e1:u % p2 f=u:=Int.emod_eq_of_lt u0 c1'
    rw [if_pos c1,e1]
    by_cases c2:u=0
    · rw [if_pos c2,if_pos c2]
    · rw [if_neg c2,if_neg c2,if_pos c1']
  · have c1':¬ u<p2 f:=fun z=>c1 (z1.mpr z)
    have c2:¬ u=0:=by omega
    rw [if_neg c1,if_neg c2,if_neg c1']
    by_cases c3:u / p2 f<p2 e - 1
    · rw [if_pos c3,if_pos (z2.mp c3)]
    · have c3':¬ u<eS e f:=fun z=>c3 (z2.mpr z)
      rw [if_neg c3,if_neg c3',z3 c3]
      by_cases c4:u=eS e f
      · rw [if_pos (by omega),if_pos c4]
      · rw [if_neg (by omega),if_neg c4]
        by_cases c5:u<eS e f+p2 (f - 1)
        · rw [if_neg (by omega),if_pos c5]
        · rw [if_pos (by omega),if_neg c5]
theorem z57 {e f s u:Int} (h:Wu e f s u):za [.tup [.int e,.int f],.int (u+s*p2 (e+f))] = .ok (.str (kindU e f u)):=by
  obtain ⟨a,b,_,_,c,d⟩:=wu_word h
  have k:=z6b h.1 a b
  rw [c,d,kind_u h.1 h.2.2.1 h.2.2.2] at k
  exact k
theorem z66 {e f s u:Int} (h:Wu e f s u):z8f [.tup [.int e,.int f],.int (u+s*p2 (e+f))] = .ok (.tup [.int s,.int (u / p2 f),.int (u % p2 f)]):=by
  obtain ⟨a,b,c1,_,c,d⟩:=wu_word h
  have k:=z56 h.1 a b
  rw [c,d,c1] at k
  exact k
theorem z6f {e f s u:Int} (h:Wu e f s u):z1a [.tup [.int e,.int f],.int (u+s*p2 (e+f))] = .ok (.int u):=by
  obtain ⟨a,b,c1,c2,c,d⟩:=wu_word h
  have k:=z8x h.1 a b
  rw [c2] at k
  exact k
theorem z78 {e f s u:Int} (h:Wu e f s u):z2e [.tup [.int e,.int f],.int (u+s*p2 (e+f))] = .ok (.int (u+(1 - s)*p2 (e+f))):=by
  obtain ⟨a,b,c1,c2,c,d⟩:=wu_word h
  have k:=z77 h.1 a b
  have u0:=h.2.2.1
  have u1:=h.2.2.2
  have z:(u+s*p2 (e+f)+p2 (e+f)) % (2*p2 (e+f))=u+(1 - s)*p2 (e+f):=by
    rcases h.2.1 with rfl | rfl
    · rw [Int.emod_eq_of_lt (by omega) (by omega)];omega
    · have e1:u+1*p2 (e+f)+p2 (e+f)=u+1*(2*p2 (e+f)):=by omega
      rw [e1,Int.add_mul_emod_self_right,Int.emod_eq_of_lt (by omega) (by omega)];omega
  rw [z] at k
  exact k
theorem z8k {e f:Int} (h:Wd e f):z1v [.tup [.int e,.int f]] = .ok (.int (eS e f)):=by
  obtain ⟨p1,p3,p4,p5,p6,b1,b2,b3,b4,p7,p8⟩:=p2_wd h
  have a:=z8e h
  have b:=z3w (c:=e) (by have:=h.1;omega) (by have:=h.2.1;omega)
  have c:=z6y (s:=0) (x:=p2 e - 1) (y:=0) h (by decide) (by decide) (by omega) (by omega) (by decide) (by omega)
  rw [Int.zero_mul,Int.zero_add,Int.add_zero] at c
  dsimp! [z1v,z5o,a,b,c]
theorem eS_facts {e f:Int} (h:Wd e f):p2 (e+f)=eS e f+p2 f∧3*p2 f≤eS e f∧2≤p2 f∧p2 f=2*p2 (f - 1)∧1≤p2 (f - 1):=by
  obtain ⟨p1,p3,p4,p5,p6,b1,b2,b3,b4,p7,p8⟩:=p2_wd h
  obtain ⟨m1,m3⟩:=top_word h
  exact ⟨m1,m3,p3,p4,p7⟩
def rk (s u:Int):Int:=if s=1 then -u else u
theorem in_still:cIn (.str "still") (.tup [.str "still",.str "loud"]) = .ok (.bl true):=rfl
theorem in_loud:cIn (.str "loud") (.tup [.str "still",.str "loud"]) = .ok (.bl true):=rfl
theorem in_nought:cIn (.str "nought") (.tup [.str "still",.str "loud"]) = .ok (.bl false):=rfl
theorem in_small:cIn (.str "small") (.tup [.str "still",.str "loud"]) = .ok (.bl false):=rfl
theorem in_plain:cIn (.str "plain") (.tup [.str "still",.str "loud"]) = .ok (.bl false):=rfl
theorem in_endless:cIn (.str "endless") (.tup [.str "still",.str "loud"]) = .ok (.bl false):=rfl
theorem isnone {e f u:Int} (h:Wd e f):cIn (.str (kindU e f u)) (.tup [.str "still",.str "loud"]) = .ok (.bl (decide (eS e f<u))):=by
  obtain ⟨m1,m3,p3,p4,p7⟩:=eS_facts h
  unfold kindU
  by_cases c1:u=0
  · rw [if_pos c1,decide_eq_false (by omega)];exact in_nought
  · by_cases c2:u<p2 f
    · rw [if_neg c1,if_pos c2,decide_eq_false (by omega)];exact in_small
    · by_cases c3:u<eS e f
      · rw [if_neg c1,if_neg c2,if_pos c3,decide_eq_false (by omega)];exact in_plain
      · by_cases c4:u=eS e f
        · rw [if_neg c1,if_neg c2,if_neg c3,if_pos c4,decide_eq_false (by omega)];exact in_endless
        · by_cases c5:u<eS e f+p2 (f - 1)
          · rw [if_neg c1,if_neg c2,if_neg c3,if_neg c4,if_pos c5,decide_eq_true (by omega)];exact in_loud
          · rw [if_neg c1,if_neg c2,if_neg c3,if_neg c4,if_neg c5,decide_eq_true (by omega)];exact in_still
theorem z4a {e f u:Int} (h:Wu e f 0 u) (b:Bool):q_with_sign [.tup [.int e,.int f],.int u,.bl b] = .ok (.int (u+(if b then 1 else 0)*p2 (e+f))):=by
  have a:=z78 h
  rw [Int.zero_mul,Int.add_zero] at a
  cases b
  · have z:u+(if false=true then (1:Int) else 0)*p2 (e+f)=u:=by rw [if_neg (by decide)];omega
    rw [z]
    dsimp! [q_with_sign,z4u]
  · have z:u+(if true=true then (1:Int) else 0)*p2 (e+f)=u+(1 - 0)*p2 (e+f):=by rw [if_pos rfl];omega
    rw [z]
    dsimp! [q_with_sign,z4u,a]
def stU (f u:Int):Int:=if u<p2 f then u else (u % p2 f+p2 f)*p2 (u / p2 f - 1)
theorem stU_lo {f u:Int} (h:u<p2 f):stU f u=u:=if_pos h
theorem stU_bounds {f u:Int} (h:p2 f≤u):p2 f*p2 (u / p2 f - 1)≤stU f u∧stU f u<p2 f*p2 (u / p2 f):=by
  have pf:=p2_pos f
  have y0:=Int.emod_nonneg u (show p2 f≠0 by omega)
  have y1:=Int.emod_lt_of_pos u (show 0<p2 f by omega)
  have x1:1≤u / p2 f:=(Int.le_ediv_iff_mul_le pf).mpr (by omega)
  have pp:=p2_pos (u / p2 f - 1)
  have e:p2 (u / p2 f)=2*p2 (u / p2 f - 1):=by rw [← p2_succ (by omega)];congr 1;omega
  unfold stU
  rw [if_neg (by omega)]
  constructor
  · exact Int.mul_le_mul_of_nonneg_right (by omega) (by omega)
  · rw [e,← Int.mul_assoc]
    exact Int.mul_lt_mul_of_pos_right (by omega) pp
theorem stU_lt {f u v:Int} (u0:0≤u) (h:u<v):stU f u<stU f v:=by
  have pf:=p2_pos f
  by_cases c1:v<p2 f
  · rw [stU_lo c1,stU_lo (by omega)];exact h
  · obtain ⟨v1,v2⟩:=stU_bounds (f:=f) (u:=v) (by omega)
    have x1:1≤v / p2 f:=(Int.le_ediv_iff_mul_le pf).mpr (by omega)
    by_cases c2:u<p2 f
    · rw [stU_lo c2]
      have:p2 f*1≤p2 f*p2 (v / p2 f - 1):=Int.mul_le_mul_of_nonneg_left (by have:=p2_pos (v / p2 f - 1);omega) (by omega)
      omega
    · obtain ⟨u1,u2⟩:=stU_bounds (f:=f) (u:=u) (by omega)
      have x2:1≤u / p2 f:=(Int.le_ediv_iff_mul_le pf).mpr (by omega)
      have le:u / p2 f≤v / p2 f:=Int.ediv_le_ediv pf (by omega)
      by_cases c3:u / p2 f=v / p2 f
      · have d1:=Int.mul_ediv_add_emod u (p2 f)
        have d2:=Int.mul_ediv_add_emod v (p2 f)
        unfold stU
        rw [if_neg c2,if_neg c1]
        rw [c3] at d1 ⊢
        exact Int.mul_lt_mul_of_pos_right (by omega) (p2_pos _)
      · have:p2 (u / p2 f)≤p2 (v / p2 f - 1):=p2_le (by omega) (by omega)
        have:=Int.mul_le_mul_of_nonneg_left this (Int.le_of_lt pf)
        omega
theorem stU_nn {f u:Int} (u0:0≤u):0≤stU f u:=by
  have:=p2_pos f
  by_cases c:u=0
  · rw [c,stU_lo (by omega)];decide
  · have:=stU_lt (f:=f) (u:=0) (v:=u) (by decide) (by omega)
    rw [stU_lo (u:=0) (by omega)] at this
    omega
def lp (e f:Int):Int:=1 - (p2 (e - 1) - 1) - f
theorem lp_bounds {e f:Int} (h:Wd e f) : -1082≤lp e f∧lp e f≤-1∧2≤p2 (e - 1)∧p2 (e - 1)≤1024:=by
  obtain ⟨h1,h2,h3,h4⟩:=h
  have a:=p2_le (a:=e - 1) (b:=10) (by omega) (by omega)
  have b:=p2_two (j:=e - 1) (by omega)
  have e10:p2 10=1024:=by decide
  unfold lp
  omega
def WayK (p:Int) (z:Str) (k:Nat):Prop:=(p=0∧z="even"∧k=21)∨(p=1∧z="away"∧k=22)∨(p=2∧z="in"∧k=23)∨(p=3∧z="up"∧k=24)∨(p=4∧z="down"∧k=25)
theorem way_q {p:Int}{z:Str}{k:Nat} (h:WayK p z k):z1c [.str z] = .ok (.ins k)∧oItem (.lst [.str "even",.str "away",.str "in",.str "up",.str "down"]) (.int p) = .ok (.str z):=by
  rcases h with ⟨rfl,rfl,rfl⟩ | ⟨rfl,rfl,rfl⟩ | ⟨rfl,rfl,rfl⟩ | ⟨rfl,rfl,rfl⟩ | ⟨rfl,rfl,rfl⟩<;>exact ⟨rfl,rfl⟩
theorem asVal_ins (c:Nat):asVal (some (.ins c)) = .ok (.ins c):=rfl
def gw (p:Int) (odd:Bool) (sd:Int) (below:Bool):Bool:=if p=0 then decide (sd=3) || (decide (sd=2) && odd) else if p=1 then decide (2≤sd) else if p=2 then false else if p=3 then !below else below
theorem z69 {p:Int}{z:Str}{k:Nat}{sd:Int} (odd below:Bool) (h:WayK p z k) (hs:sd=0∨sd=1∨sd=2∨sd=3) {fo:FE}{g:FA}{x0:Option PV}{ρ:MEnv} (h1:fo (x0::ρ) = .ok (.ins k)) (h2:g (x0::ρ) = .ok [.bl odd,.int sd,.bl below]):fMeth z2i fo g (x0::ρ) = .ok (.bl (gw p odd sd below)):=by
  show (fo (x0::ρ)).bind (mtK z2i (g (x0::ρ)))=_
  rw [h1,h2]
  rcases h with ⟨rfl,rfl,rfl⟩ | ⟨rfl,rfl,rfl⟩ | ⟨rfl,rfl,rfl⟩ | ⟨rfl,rfl,rfl⟩ | ⟨rfl,rfl,rfl⟩<;>rcases hs with rfl | rfl | rfl | rfl<;>cases odd<;>cases below<;>rfl
theorem side_of (r u:Int):sideP r u=0∨sideP r u=1∨sideP r u=2∨sideP r u=3:=by
  unfold sideP
  split
  · exact .inl rfl
  · split
    · exact .inr (.inl rfl)
    · split
      · exact .inr (.inr (.inl rfl))
      · exact .inr (.inr (.inr rfl))
theorem side_scale {r u a b:Int} (hu:0<u) (hb:0<b) (h:r*b=a*u):sideP r u=sideP a b:=by
  have c0:(2*r=0)↔(2*a=0):=by
    constructor
    · intro x
      have r0:r=0:=by omega
      rw [r0,Int.zero_mul] at h
      rcases Int.mul_eq_zero.mp h.symm with y | y<;>omega
    · intro x
      have a0:a=0:=by omega
      rw [a0,Int.zero_mul] at h
      rcases Int.mul_eq_zero.mp h with y | y<;>omega
  have e:2*r*b=2*a*u:=by rw [Int.mul_assoc,h,Int.mul_assoc]
  have c1:(2*r<u)↔(2*a<b):=by
    constructor
    · intro x
      have y:2*r*b<u*b:=Int.mul_lt_mul_of_pos_right x hb
      rw [e,Int.mul_comm u b] at y
      exact Int.lt_of_mul_lt_mul_right y (Int.le_of_lt hu)
    · intro x
      have y:2*a*u<b*u:=Int.mul_lt_mul_of_pos_right x hu
      rw [← e,Int.mul_comm b u] at y
      exact Int.lt_of_mul_lt_mul_right y (Int.le_of_lt hb)
  have c2:(2*r=u)↔(2*a=b):=by
    constructor
    · intro x
      rw [x,Int.mul_comm] at e
      exact (Int.eq_of_mul_eq_mul_right (by omega) e).symm
    · intro x
      rw [x,Int.mul_comm b u] at e
      exact Int.eq_of_mul_eq_mul_right (by omega) e
  unfold sideP
  simp only [c0,c1,c2]
def gr (p q sd:Int) (below:Bool):Bool:=decide (sd≠0) && gw p (decide (q % 2=1)) sd below
def szT (f p t q sd:Int) (below:Bool):Int:=t*p2 f+(if gr p q sd below then q+1 else q)
def mkT (f q sd:Int):Int:=if sd=0 then 0 else if q<p2 f then 24 else 16
def sg (below:Bool):Int:=if below then 1 else 0
def tkT (e f p t q sd:Int) (below:Bool):PV:=if szT f p t q sd below<eS e f then .tup [.int (szT f p t q sd below+sg below*p2 (e+f)),.int (mkT f q sd)] else .tup [.int ((if gw p true 3 below then eS e f else eS e f - 1)+sg below*p2 (e+f)),.int 20]
theorem z75 {p q sd:Int}{z:Str}{k:Nat} (below:Bool) (h:WayK p z k) (hs:sd=0∨sd=1∨sd=2∨sd=3):z2d [.ins k,.tup [.int q,.int sd],.bl below] = .ok (.int (if gr p q sd below then q+1 else q)):=by
  have g:=z69 (decide (q % 2=1)) below h hs (fo:=fVar 0) (g:=aCons (fBin cEq (fBin oMod (fBin oItem (fVar 1) (fC (.int 0))) (fC (.int 2))) (fC (.int 1))) (aCons (fBin oItem (fVar 1) (fC (.int 1))) (aCons (fVar 2) (aNil))))
    (x0:=some (.ins k)) (ρ:=[some (.tup [.int q,.int sd]),some (.bl below),none]) rfl (by dsimp! [])
  unfold gr
  by_cases c:sd=0
  · have e1:decide (sd≠0)=false:=decide_eq_false (by omega)
    have e2:decide (sd=0)=true:=decide_eq_true c
    dsimp! [z2d,z4t,List.replicate,List.set,e1,e2,asVal_ins,Bool.false_and,Bool.not_true,Bool.false_eq_true,if_false]
  · have e1:decide (sd≠0)=true:=decide_eq_true c
    have e2:decide (sd=0)=false:=decide_eq_false c
    generalize gw p (decide (q % 2=1)) sd below=y at *
    cases y<;>dsimp! [z2d,z4t,List.replicate,List.set,e1,e2,asVal_ins,g,Bool.true_and,Bool.not_false,Bool.false_eq_true,if_false,if_true]
theorem z74 {e f p t q sd hh:Int}{z:Str}{k:Nat} (below:Bool) (h:Wd e f) (w:WayK p z k) (ht:0≤t) (ht2:t≤100000) (q0:0≤q) (q1:q<2*p2 f) (hs:sd=0∨sd=1∨sd=2∨sd=3)
    (sp:z13 [.tup [.int e,.int f],.int hh] = .ok (.int (lp e f+t))) (hm:hh<lp e f+f↔q<p2 f) :
    z21 [.tup [.int e,.int f],.ins k,.bl below,.int hh,.tup [.int q,.int sd]] = .ok (tkT e f p t q sd below):=by
  obtain ⟨m1,m3,p3,p4,p7⟩:=eS_facts h
  have le:=z58 h
  have bi:=z64 h
  have en:=z8k h
  have st:=z75 (q:=q) below w hs
  have lpe:1 - (p2 (e - 1) - 1) - f=lp e f:=rfl
  rw [lpe] at le
  have e1:lp e f+t - lp e f=t:=by omega
  have os:okShl t f:=okShl_of (n:=20) (by have:=h.2.2.1;omega) (nb_le (by omega)) (by have:=h.2.2.2;omega)
  have sz0:0≤szT f p t q sd below:=by
    unfold szT
    have:=Int.mul_nonneg ht (Int.le_of_lt (p2_pos f))
    split<;>omega
  have sze:t*p2 f+(if gr p q sd below then q+1 else q)=szT f p t q sd below:=rfl
  have g3:=fun (x0:Option PV) (ρ:MEnv) (a:getV (x0::ρ) 1 = .ok (.ins k)) (b:getV (x0::ρ) 2 = .ok (.bl below))=>z69 true below w (.inr (.inr (.inr rfl))) (fo:=fVar 1) (g:=aCons (fC (.bl true)) (aCons (fC (.int 3)) (aCons (fVar 2) (aNil)))) (x0:=x0) (ρ:=ρ) a (by
    show R.bind _ _=_
    dsimp! [b])
  have mk:z1z [.tup [.int e,.int f],.int hh,.int sd] = .ok (.int (mkT f q sd)):=by
    unfold mkT
    have e5:1 - (p2 (e - 1) - 1)=lp e f+f:=by unfold lp;omega
    by_cases c:sd=0
    · dsimp! [z1z,z45,c,if_true]
    · by_cases c2:q<p2 f
      · have c3:=hm.mpr c2
        dsimp! [z1z,z45,c,bi,e5,c2,c3,if_true,if_false]
      · have c3:¬ hh<lp e f+f:=fun z=>c2 (hm.mp z)
        dsimp! [z1z,z45,c,bi,e5,c2,c3,if_true,if_false]
  unfold tkT
  by_cases c:szT f p t q sd below<eS e f
  · have ws:=z4a (u:=szT f p t q sd below) ⟨h,.inl rfl,sz0,by omega⟩ below
    have sge:(if below=true then (1:Int) else 0)=sg below:=rfl
    rw [sge] at ws
    rw [if_pos c]
    dsimp! [z21,z46,List.replicate,List.set,en,sp,le,e1,os,asVal_ins,st,sze,c,ws,mk]
  · rw [if_neg c]
    have g3':=g3 (some (.tup [.int e,.int f])) [some (.ins k),some (.bl below),some (.int hh),some (.tup [.int q,.int sd]),some (.int (eS e f)),some (.int t),some (.int (szT f p t q sd below))] rfl rfl
    have sge:(if below=true then (1:Int) else 0)=sg below:=rfl
    generalize gw p true 3 below=y at *
    cases y with
    | true =>
      have ws:=z4a (u:=eS e f) ⟨h,.inl rfl,by omega,by omega⟩ below
      rw [sge] at ws
      dsimp! [z21,z46,List.replicate,List.set,en,sp,le,e1,os,asVal_ins,st,sze,c,g3',ws,if_true]
    | false =>
      have ws:=z4a (u:=eS e f - 1) ⟨h,.inl rfl,by omega,by omega⟩ below
      rw [sge] at ws
      dsimp! [z21,z46,List.replicate,List.set,en,sp,le,e1,os,asVal_ins,st,sze,c,g3',ws,Bool.false_eq_true,if_false]
def tU (f u:Int):Int:=if u<p2 f then 0 else u / p2 f - 1
def qU (f u:Int):Int:=u - tU f u*p2 f
theorem tq_facts {f u:Int} (hf:1≤f) (u0:0≤u):0≤tU f u∧0≤qU f u∧qU f u<2*p2 f∧(tU f u=0∨p2 f≤qU f u)∧stU f u=qU f u*p2 (tU f u)∧stU f (u+1)=(qU f u+1)*p2 (tU f u)∧tU f u*p2 f+qU f u=u∧qU f u % 2=u % 2∧(qU f u<p2 f↔u<p2 f)∧tU f u≤u / p2 f:=by
  have pf:=p2_pos f
  have pf2:p2 f=2*p2 (f - 1):=by rw [← p2_succ (by omega)];congr 1;omega
  have par:(u - tU f u*p2 f) % 2=u % 2:=by
    have:tU f u*p2 f=2*(tU f u*p2 (f - 1)):=by rw [pf2,Int.mul_left_comm]
    rw [this];omega
  have dn:0≤u / p2 f:=Int.ediv_nonneg u0 (Int.le_of_lt pf)
  by_cases h:u<p2 f
  · have et:tU f u=0:=if_pos h
    have eq:qU f u=u:=by unfold qU;rw [et];omega
    have e0:p2 0=1:=rfl
    refine ⟨by omega,by omega,by omega,.inl et,?_,?_,?_,?_,?_,by omega⟩
    · rw [eq,et,stU_lo h,e0];omega
    · rw [eq,et,e0]
      by_cases h2:u+1<p2 f
      · rw [stU_lo h2];omega
      · have e1:u+1=p2 f:=by omega
        unfold stU
        rw [if_neg h2,e1,Int.emod_self,Int.ediv_self (by omega)]
        have:p2 (1 - 1)=1:=rfl
        rw [this];omega
    · rw [eq,et];omega
    · rw [eq]
    · rw [eq]
  · have et:tU f u=u / p2 f - 1:=if_neg h
    have m1:1≤u / p2 f:=by
      have:=Int.ediv_le_ediv pf (show p2 f≤u by omega)
      rw [Int.ediv_self (by omega)] at this
      exact this
    have r0:=Int.emod_nonneg u (show p2 f≠0 by omega)
    have r1:=Int.emod_lt_of_pos u pf
    have dm:=Int.mul_ediv_add_emod u (p2 f)
    have eq:qU f u=u % p2 f+p2 f:=by
      unfold qU
      rw [et,Int.sub_mul,Int.one_mul,Int.mul_comm]
      omega
    refine ⟨by omega,by omega,by omega,.inr (by omega),?_,?_,?_,par,?_,by omega⟩
    · rw [eq,et];unfold stU;rw [if_neg h]
    · rw [eq,et]
      unfold stU
      rw [if_neg (by omega)]
      by_cases c:u % p2 f+1<p2 f
      · have e1:(u+1) % p2 f=u % p2 f+1:=by
          have:u+1=u % p2 f+1+p2 f*(u / p2 f):=by omega
          rw [this,Int.add_mul_emod_self_left,Int.emod_eq_of_lt (by omega) c]
        have e2:(u+1) / p2 f=u / p2 f:=by
          have:u+1=u % p2 f+1+p2 f*(u / p2 f):=by omega
          rw [this,Int.add_mul_ediv_left _ _ (by omega),Int.ediv_eq_zero_of_lt (by omega) c];omega
        rw [e1,e2]
        congr 1
        omega
      · have e3:u % p2 f+1=p2 f:=by omega
        have e1:(u+1)=p2 f*(u / p2 f+1):=by rw [Int.mul_add,Int.mul_one];omega
        have e4:(u+1) % p2 f=0:=by rw [e1];exact Int.mul_emod_right _ _
        have e5:(u+1) / p2 f=u / p2 f+1:=by rw [e1];exact Int.mul_ediv_cancel_left _ (by omega)
        rw [e4,e5,Int.zero_add,show u / p2 f+1 - 1=u / p2 f - 1+1 by omega,p2_succ (by omega),← Int.mul_assoc]
        congr 1
        omega
    · unfold qU;omega
    · rw [eq];omega
theorem z89 {e f u:Int} (h:Wd e f) (u0:0≤u) (u1:u≤eS e f):zy [.tup [.int e,.int f],.int u] = .ok (.int (stU f u)):=by
  obtain ⟨p1,p3,p4,p5,p6,b1,b2,b3,b4,p7,p8⟩:=p2_wd h
  obtain ⟨m1,m3,_,_,_⟩:=eS_facts h
  obtain ⟨g1,g2,g3,g4⟩:=h
  have o2:=okShl_1 (b:=f) (by omega) (by omega)
  have om2:okMod (p2 f):=p2_pos _
  have o3:okShr f:=by show 0≤f;omega
  have y0:=Int.emod_nonneg u (show p2 f≠0 by omega)
  have y1:=Int.emod_lt_of_pos u (show 0<p2 f by omega)
  by_cases c:u<p2 f
  · rw [stU_lo c]
    dsimp! [zy,z4j,Int.one_mul,o2,c]
  · have d1:1≤u / p2 f:=by
      have:=Int.ediv_le_ediv (show 0<p2 f by omega) (show p2 f≤u by omega)
      rw [Int.ediv_self (by omega)] at this
      exact this
    have d2:u / p2 f<p2 e:=Int.ediv_lt_of_lt_mul (by omega) (by rw [← p5];omega)
    have os:okShl (u % p2 f+p2 f) (u / p2 f - 1):=okShl_of (n:=62) (by omega) (nb_le (by
      have:=p2_le (a:=f) (b:=60) (by omega) g4
      have e60:p2 60=1152921504606846976:=by decide
      omega)) (by omega)
    have es:stU f u=(u % p2 f+p2 f)*p2 (u / p2 f - 1):=if_neg c
    rw [es]
    dsimp! [zy,z4j,Int.one_mul,o2,c,om2,o3,os]
theorem ht_ge {s d f g:Int} (hf:0≤f):d*p2 (f+g)≤s*p2 (-(f+g))↔p2 f*(d*p2 g)≤s*p2 (-g):=by
  have c:=p2_cross (e:=g) (f:=f+g) (by omega)
  rw [show f+g - g=f by omega] at c
  have k1:=p2_pos (-(f+g))
  have k2:=p2_pos (-g)
  have e1:d*p2 (f+g)*p2 (-g)=p2 f*(d*p2 g)*p2 (-(f+g)):=by
    rw [Int.mul_assoc,c];simp only [Int.mul_comm,Int.mul_left_comm,Int.mul_assoc]
  have e2:s*p2 (-(f+g))*p2 (-g)=s*p2 (-g)*p2 (-(f+g)):=by rw [Int.mul_assoc,Int.mul_assoc,Int.mul_comm (p2 (-(f+g)))]
  constructor
  · intro h
    have:=Int.mul_le_mul_of_nonneg_right h (Int.le_of_lt k2)
    rw [e1,e2] at this
    exact Int.le_of_mul_le_mul_right this k1
  · intro h
    have:=Int.mul_le_mul_of_nonneg_right h (Int.le_of_lt k1)
    rw [← e1,← e2] at this
    exact Int.le_of_mul_le_mul_right this k2
theorem ht_lt2 {s d f g:Int} (hf:0≤f):s*p2 (-(f+g))<2*(d*p2 (f+g))↔s*p2 (-g)<2*(p2 f*(d*p2 g)):=by
  have h:=ht_ge (s:=s) (d:=2*d) (g:=g) hf
  have e1:2*d*p2 (f+g)=2*(d*p2 (f+g)):=Int.mul_assoc _ _ _
  have e2:p2 f*(2*d*p2 g)=2*(p2 f*(d*p2 g)):=by rw [Int.mul_assoc,Int.mul_left_comm]
  rw [e1,e2] at h
  constructor
  · intro x
    apply Decidable.byContradiction
    intro c
    have:=h.mpr (by omega)
    omega
  · intro x
    apply Decidable.byContradiction
    intro c
    have:=h.mp (by omega)
    omega
theorem ht_mono {s d x y:Int} (hd:0<d) (h:y≤x) (hx:d*p2 x≤s*p2 (-x)):d*p2 y≤s*p2 (-y):=by
  have c:=p2_cross (e:=y) (f:=x) h
  have k1:=p2_pos (-x)
  have k2:=p2_pos (-y)
  have k3:=p2_pos (x - y)
  have k4:=p2_pos y
  have a1:d*p2 x*p2 (-y)≤s*p2 (-x)*p2 (-y):=Int.mul_le_mul_of_nonneg_right hx (Int.le_of_lt k2)
  have a2:d*p2 x*p2 (-y)=d*p2 y*p2 (x - y)*p2 (-x):=by rw [Int.mul_assoc,c];simp only [Int.mul_comm,Int.mul_left_comm,Int.mul_assoc]
  have a3:s*p2 (-x)*p2 (-y)=s*p2 (-y)*p2 (-x):=by rw [Int.mul_assoc,Int.mul_assoc,Int.mul_comm (p2 (-x))]
  rw [a2,a3] at a1
  have a4:=Int.le_of_mul_le_mul_right a1 k1
  have a5:d*p2 y*1≤d*p2 y*p2 (x - y):=Int.mul_le_mul_of_nonneg_left (by omega) (Int.mul_nonneg (by omega) (by omega))
  rw [Int.mul_one] at a5
  omega
theorem ht_mono2 {s d x y:Int} (hd:0<d) (h:x<y) (hx:s*p2 (-x)<2*(d*p2 x)):s*p2 (-y)<d*p2 y:=by
  have c:=p2_cross (e:=x) (f:=y) (by omega)
  have k1:=p2_pos (-x)
  have k2:=p2_pos (-y)
  have k3:=p2_two (j:=y - x) (by omega)
  have k4:=p2_pos x
  have a1:s*p2 (-x)*p2 (-y)<2*(d*p2 x)*p2 (-y):=Int.mul_lt_mul_of_pos_right hx k2
  have a2:d*p2 y*p2 (-x)=d*p2 x*p2 (-y)*p2 (y - x):=by rw [Int.mul_assoc,c];simp only [Int.mul_comm,Int.mul_left_comm,Int.mul_assoc]
  have a3:s*p2 (-x)*p2 (-y)=s*p2 (-y)*p2 (-x):=by rw [Int.mul_assoc,Int.mul_assoc,Int.mul_comm (p2 (-x))]
  have a4:2*(d*p2 x)*p2 (-y)=d*p2 x*p2 (-y)*2:=by rw [Int.mul_assoc,Int.mul_comm]
  have a5:d*p2 x*p2 (-y)*2≤d*p2 x*p2 (-y)*p2 (y - x):=Int.mul_le_mul_of_nonneg_left k3 (Int.mul_nonneg (Int.mul_nonneg (by omega) (by omega)) (by omega))
  rw [a3,a4] at a1
  have a6:s*p2 (-y)*p2 (-x)<d*p2 y*p2 (-x):=by rw [a2];omega
  exact Int.lt_of_mul_lt_mul_right a6 (Int.le_of_lt k1)
theorem rest_of {S u b a q:Int} (hu:0<u) (hb:0<b) (a0:0≤a) (a1:a<b) (eq:S*b=(q*b+a)*u):∃ r,S=q*u+r∧0≤r∧r<u∧r*b=a*u:=by
  have e2:q*u*b=q*b*u:=by rw [Int.mul_assoc,Int.mul_comm u b,← Int.mul_assoc]
  refine ⟨S - q*u,by omega,?_,?_,?_⟩
  · have:q*u*b≤S*b:=by
      rw [eq,Int.add_mul]
      have:=Int.mul_nonneg a0 (Int.le_of_lt hu)
      omega
    have:=Int.le_of_mul_le_mul_right this hb
    omega
  · have:(S - q*u)*b<u*b:=by
      rw [Int.sub_mul,eq,Int.add_mul]
      have e3:a*u<b*u:=Int.mul_lt_mul_of_pos_right a1 hu
      rw [Int.mul_comm u b]
      omega
    exact Int.lt_of_mul_lt_mul_right this (Int.le_of_lt hb)
  · rw [Int.sub_mul,eq,Int.add_mul]
    omega
theorem z72 {e f t q a b n k d:Int} (h:Wd e f) (hn:n≠0) (hd:0<d) (b1:nb n≤20000) (b2:nb d≤3900) (ht:0≤t) (hk : -20000≤lp e f+t - k) (hk2:lp e f+t - k≤5000) (hb:0<b) (a0:0≤a) (a1:a<b)
    (q0:0≤q) (q1:q<2*p2 f) (qt:t=0∨p2 f≤q) (eq:ab n*p2 (k - (lp e f+t))*b=(q*b+a)*(d*p2 (lp e f+t - k))) :
    ∃ hh,z1w [.int n,.int k,.int d] = .ok (.int hh)∧z13 [.tup [.int e,.int f],.int hh] = .ok (.int (lp e f+t))∧z11 [.int n,.int k,.int d,.int (lp e f+t)] = .ok (.tup [.int q,.int (sideP a b)]) ∧
      (hh<lp e f+f↔q<p2 f):=by
  obtain ⟨g1,g2,g3,g4⟩:=id h
  obtain ⟨x,e1,hx,x0,x1⟩:=z6a (k:=k) hn hd (by omega) (by omega)
  have le:=z58 h
  have pf:=p2_pos f
  generalize hg:lp e f+t - k=g at *
  have hg':k - (lp e f+t) = -g:=by omega
  rw [hg'] at eq
  have hu:0<d*p2 g:=Int.mul_pos hd (p2_pos g)
  obtain ⟨r,er,r0,r1,r2⟩:=rest_of hu hb a0 a1 eq
  have big:p2 f≤q→x=f+g:=fun hq=>by
    refine ht_unique hd hx ⟨(ht_ge (by omega)).mpr ?_,(ht_lt2 (by omega)).mpr ?_⟩
    · rw [er]
      have:=Int.mul_le_mul_of_nonneg_right hq (Int.le_of_lt hu)
      omega
    · rw [er]
      have e3:(q+1)*(d*p2 g)≤2*p2 f*(d*p2 g):=Int.mul_le_mul_of_nonneg_right (by omega) (Int.le_of_lt hu)
      rw [Int.add_mul,Int.one_mul,Int.mul_assoc] at e3
      omega
  have low:q<p2 f→x<f+g:=fun hq=>by
    apply Decidable.byContradiction
    intro c
    have:=(ht_ge (by omega)).mp (ht_mono hd (show f+g≤x by omega) hx.1)
    rw [er] at this
    have e3:(q+1)*(d*p2 g)≤p2 f*(d*p2 g):=Int.mul_le_mul_of_nonneg_right (by omega) (Int.le_of_lt hu)
    rw [Int.add_mul,Int.one_mul] at e3
    omega
  refine ⟨x+k,e1,?_,?_,?_⟩
  · have lpe:1 - (p2 (e - 1) - 1) - f=lp e f:=rfl
    rw [lpe] at le
    have cse:(x+k - f=lp e f+t)∨(t=0∧x+k - f<lp e f):=by
      by_cases hq:p2 f≤q
      · have:=big hq;omega
      · have:=low (by omega)
        rcases qt with z | z<;>omega
    by_cases c:lp e f > x+k - f
    · have e4:lp e f+t=lp e f:=by omega
      dsimp! [z13,z4s,le,c,if_true,e4]
    · have e4:x+k - f=lp e f+t:=by omega
      have c':¬ lp e f > lp e f+t:=by omega
      dsimp! [z13,z4s,le,e4,c',if_false]
  · have hn3:nb (d*p2 (lp e f+t - k))≤9000:=by
      rw [hg]
      refine Nat.le_trans (nb_mul_le _ _) ?_
      by_cases z:0≤g
      · rw [nb_p2 z];omega
      · rw [p2_le0 (by omega)];have:nb 1=1:=rfl;omega
    have st:=z6x (n:=n) (k:=k) (d:=d) (g:=lp e f+t) hd (by omega) (by omega) (by omega) (by omega) hn3
    rw [hg,hg'] at st
    have dv:ab n*p2 (-g) / (d*p2 g)=q:=by
      rw [er,Int.mul_comm q,Int.add_comm,Int.add_mul_ediv_left _ _ (by omega),Int.ediv_eq_zero_of_lt r0 r1]
      omega
    rw [dv] at st
    have e5:ab n*p2 (-g) - q*(d*p2 g)=r:=by omega
    rw [e5,side_scale hu hb r2] at st
    exact st
  · constructor
    · intro z
      apply Decidable.byContradiction
      intro c
      have:=big (by omega)
      omega
    · intro z
      have:=low z
      omega
theorem z76 {e f p t q a b n k d:Int}{z:Str}{kk:Nat} (h:Wd e f) (w:WayK p z kk) (hn:n≠0) (hd:0<d) (b1:nb n≤20000) (b2:nb d≤3900) (ht:0≤t) (ht2:t≤100000) (hk : -20000≤lp e f+t - k) (hk2:lp e f+t - k≤5000) (hb:0<b) (a0:0≤a) (a1:a<b)
    (q0:0≤q) (q1:q<2*p2 f) (qt:t=0∨p2 f≤q) (eq:ab n*p2 (k - (lp e f+t))*b=(q*b+a)*(d*p2 (lp e f+t - k))) :
    zv [.tup [.int e,.int f],.int n,.int k,.int d,.str z] = .ok (tkT e f p t q (sideP a b) (decide (n<0))):=by
  obtain ⟨hh,e1,e2,e3,e4⟩:=z72 h hn hd b1 b2 ht hk hk2 hb a0 a1 q0 q1 qt eq
  have s:=z74 (decide (n<0)) h w ht ht2 q0 q1 (side_of a b) e2 e4
  have cw:=z8e h
  have wy:=(way_q w).1
  generalize tkT e f p t q (sideP a b) (decide (n<0))=v at *
  generalize sideP a b=sd at *
  dsimp! [zv,z5z,List.replicate,List.set,cw,wy,hn,e1,e2,e3,asVal_ins,s]
structure Stands (e f s k d t q a b:Int):Prop where
  t0:0≤t
  b0:0<b
  a0:0≤a
  a1:a<b
  q0:0≤q
  q1:q<2*p2 f
  qt:t=0∨p2 f≤q
  eq:s*p2 (k - (lp e f+t))*b=(q*b+a)*(d*p2 (lp e f+t - k))
  tb:t≤60000∧-20000≤lp e f+t - k∧lp e f+t - k≤5000
theorem standsW {e f s k d:Int} (h:Wd e f) (hs:0<s) (hd:0<d) (b1:nb s≤5000) (b2:nb d≤3900) (k0:lp e f - 5000≤k) (k1:k≤10000):∃ t q a b,Stands e f s k d t q a b:=by
  obtain ⟨l1,l2,l3,l4⟩:=lp_bounds h
  obtain ⟨g1,g2,g3,g4⟩:=id h
  have as:ab s=s:=ab_of (by omega)
  obtain ⟨x,_,hx,_,_⟩:=z6a (n:=s) (k:=0) (d:=d) (by omega) hd (by omega) (by omega)
  rw [as] at hx
  have xb:x≤nb s:=by
    apply Decidable.byContradiction
    intro c
    have h1:=hx.1
    rw [p2_le0 (a:=-x) (by omega),Int.mul_one] at h1
    have b3:=(nb_bounds hs).2
    have:=p2_le (a:=(nb s:Int)) (b:=x) (by omega) (by omega)
    have s4:p2 x≤d*p2 x:=by
      have:=Int.mul_le_mul_of_nonneg_right (show 1≤d by omega) (Int.le_of_lt (p2_pos x))
      rw [Int.one_mul] at this;exact this
    omega
  have pf:=p2_pos f
  have mk:∀ t:Int,0≤t→t≤60000∧-20000≤lp e f+t - k∧lp e f+t - k≤5000→s*p2 (-(lp e f+t - k))<2*(p2 f*(d*p2 (lp e f+t - k)))→(t=0∨p2 f*(d*p2 (lp e f+t - k))≤s*p2 (-(lp e f+t - k)))→∃ t q a b,Stands e f s k d t q a b:=by
    intro t t0 tb u1 u2
    have hu:0<d*p2 (lp e f+t - k):=Int.mul_pos hd (p2_pos _)
    have S0:0≤s*p2 (-(lp e f+t - k)):=Int.mul_nonneg (by omega) (Int.le_of_lt (p2_pos _))
    have e9:k - (lp e f+t) = -(lp e f+t - k):=by omega
    refine ⟨t,s*p2 (-(lp e f+t - k)) / (d*p2 (lp e f+t - k)),s*p2 (-(lp e f+t - k)) % (d*p2 (lp e f+t - k)),d*p2 (lp e f+t - k),t0,hu,Int.emod_nonneg _ (by omega),Int.emod_lt_of_pos _ hu,Int.ediv_nonneg S0 (Int.le_of_lt hu),Int.ediv_lt_of_lt_mul hu (by rw [Int.mul_assoc];exact u1),?_,?_,tb⟩
    · rcases u2 with z | z
      · exact .inl z
      · exact .inr (Int.le_ediv_of_mul_le hu z)
    · rw [e9]
      congr 1
      have:=Int.mul_ediv_add_emod (s*p2 (-(lp e f+t - k))) (d*p2 (lp e f+t - k))
      rw [Int.mul_comm] at this
      exact this.symm
  by_cases c:lp e f≤x+k - f
  · refine mk (x+k - f - lp e f) (by omega) (by omega) ?_ (.inr ?_)
    · have:=hx.2
      have e9:x=f+(lp e f+(x+k - f - lp e f) - k):=by omega
      rw [e9] at this
      exact (ht_lt2 (by omega)).mp this
    · have:=hx.1
      have e9:x=f+(lp e f+(x+k - f - lp e f) - k):=by omega
      rw [e9] at this
      exact (ht_ge (by omega)).mp this
  · refine mk 0 (by omega) (by omega) ?_ (.inl rfl)
    have:=ht_mono2 hd (show x<f+(lp e f+0 - k) by omega) hx.2
    refine (ht_lt2 (by omega)).mp ?_
    have:=Int.mul_pos hd (p2_pos (f+(lp e f+0 - k)))
    omega
theorem stands {e f s k d:Int} (h:Wd e f) (hs:0<s) (hd:0<d) (b1:nb s≤5000) (b2:nb d≤3900) (k0 : -3000≤k) (k1:k≤10000):∃ t q a b,Stands e f s k d t q a b :=
  standsW h hs hd b1 b2 (by have:=lp_bounds h;omega) k1
theorem take_st {e f p t q a b n k d:Int}{z:Str}{kk:Nat} (h:Wd e f) (w:WayK p z kk) (hn:n≠0) (hd:0<d) (b1:nb n≤20000) (b2:nb d≤3900) (st:Stands e f (ab n) k d t q a b) :
    zv [.tup [.int e,.int f],.int n,.int k,.int d,.str z] = .ok (tkT e f p t q (sideP a b) (decide (n<0))) :=
  z76 h w hn hd b1 b2 st.t0 (by have:=st.tb;omega) (by have:=st.tb;omega) (by have:=st.tb;omega) st.b0 st.a0 st.a1 st.q0 st.q1 st.qt st.eq
open PySem.NumText
def p10 (n:Int):Int:=10 ^ n.toNat
theorem p10_pos (n:Int):0<p10 n:=Int.pow_pos (by decide)
theorem p10_0:p10 0=1:=rfl
theorem p10_add {a b:Int} (ha:0≤a) (hb:0≤b):p10 (a+b)=p10 a*p10 b:=by
  unfold p10
  rw [Int.toNat_add ha hb,Int.pow_add]
theorem p10_le0 {a:Int} (h:a≤0):p10 a=1:=by
  unfold p10
  rw [Int.toNat_of_nonpos h];rfl
theorem p10_nat (n:Nat):p10 (n:Int)=((10 ^ n:Nat):Int):=by
  unfold p10
  rw [Int.toNat_natCast,Int.natCast_pow];rfl
theorem nb_ten (n:Nat):nb ((10 ^ n:Nat):Int)≤10*((n+2) / 3)+1:=by
  by_cases z:n=0
  · subst z;decide
  · refine Nat.le_trans (nb_le (k:=10*((n+2) / 3)) ?_) (by omega)
    have e:(((10 ^ n:Nat):Int)).natAbs=10 ^ n:=rfl
    rw [e,Nat.pow_mul]
    have k:n≤3*((n+2) / 3):=by omega
    refine Nat.lt_of_le_of_lt (Nat.pow_le_pow_right (by decide) k) ?_
    rw [Nat.pow_mul]
    exact Nat.pow_lt_pow_left (by decide) (by omega)
theorem nb_p10 {n:Int}{m:Nat} (h:n≤m):nb (p10 n)≤10*((m+2) / 3)+1:=by
  by_cases c:0≤n
  · obtain ⟨k,rfl⟩:=Int.eq_ofNat_of_zero_le c
    rw [p10_nat]
    have:=nb_ten k
    have:(k+2) / 3≤(m+2) / 3:=Nat.div_le_div_right (by omega)
    omega
  · rw [p10_le0 (by omega)]
    have:nb 1=1:=rfl
    omega
theorem ten_step {n i j:Nat} (hn:0<n) (h:i+j*n≤6000):z2l [some (.int (n:Int)),some (.int ((10 ^ i:Nat):Int)),some (.int ((10 ^ j:Nat):Int))] =
    .next [some (.int ((n / 2:Nat):Int)),some (.int ((10 ^ (i+j*(n % 2)):Nat):Int)),some (.int ((10 ^ (2*j):Nat):Int))]:=by
  have jn:j≤j*n:=Nat.le_mul_of_pos_right j hn
  have bi:=nb_ten i
  have bj:=nb_ten j
  have o1:okMul ((10 ^ i:Nat):Int) ((10 ^ j:Nat):Int):=okMul_of (m:=30000) (n:=30000) (by omega) (by omega) (by decide)
  have o2:okMul ((10 ^ j:Nat):Int) ((10 ^ j:Nat):Int):=okMul_of (m:=30000) (n:=30000) (by omega) (by omega) (by decide)
  have e2:((10 ^ j:Nat):Int)*((10 ^ j:Nat):Int)=((10 ^ (2*j):Nat):Int):=by rw [← Int.natCast_mul,← Nat.pow_add,Nat.two_mul]
  have e3:(n:Int) / 2=((n / 2:Nat):Int):=by omega
  by_cases c:(n:Int) % 2=1
  · have m:n % 2=1:=by omega
    have e1:((10 ^ i:Nat):Int)*((10 ^ j:Nat):Int)=((10 ^ (i+j*(n % 2)):Nat):Int):=by rw [← Int.natCast_mul,← Nat.pow_add,m,Nat.mul_one]
    generalize ((10 ^ i:Nat):Int)=P at *
    generalize ((10 ^ j:Nat):Int)=S at *
    generalize ((10 ^ (2*j):Nat):Int)=S2 at *
    generalize ((10 ^ (i+j*(n % 2)):Nat):Int)=P2 at *
    dsimp! [z2l,List.set,c,o1,o2,e1,e2,e3]
  · have m:n % 2=0:=by omega
    have e1:i+j*(n % 2)=i:=by rw [m,Nat.mul_zero,Nat.add_zero]
    rw [e1]
    generalize ((10 ^ i:Nat):Int)=P at *
    generalize ((10 ^ j:Nat):Int)=S at *
    generalize ((10 ^ (2*j):Nat):Int)=S2 at *
    dsimp! [z2l,List.set,c,o2,e2,e3]
theorem whileN_s (t:FT) (b:FS) (n:Nat) (ρ:MEnv):whileN t b (n+1) ρ=match t ρ with
    | .ok true=>(match b ρ with
      | .next ρ'=>whileN t b n ρ'
      | .cont ρ'=>whileN t b n ρ'
      | .brk ρ'=>.next ρ'
      | o=>o)
    | .ok false=>.next ρ
    | .exc c=>.exc c ρ
    | .stuck=>.stuck:=rfl
theorem ten_loop:∀ (n i j fuel:Nat),n<fuel→i+j*n≤6000→∃ s,whileN (tVal (fBin cGt (fVar 0) (fC (.int 0)))) z2l fuel [some (.int (n:Int)),some (.int ((10 ^ i:Nat):Int)),some (.int ((10 ^ j:Nat):Int))] =
    .next [some (.int 0),some (.int ((10 ^ (i+j*n):Nat):Int)),s]:=by
  intro n
  induction n using Nat.strongRecOn with
  | _ n ih =>
    intro i j fuel hf h
    cases fuel with
    | zero=>omega
    | succ g =>
      rw [whileN_s]
      by_cases z:n=0
      · subst z
        refine ⟨some (.int ((10 ^ j:Nat):Int)),?_⟩
        have e:tVal (fBin cGt (fVar 0) (fC (.int 0))) [some (.int ((0:Nat):Int)),some (.int ((10 ^ i:Nat):Int)),some (.int ((10 ^ j:Nat):Int))] = .ok false:=rfl
        rw [e,Nat.mul_zero,Nat.add_zero]
        rfl
      · have e:tVal (fBin cGt (fVar 0) (fC (.int 0))) [some (.int (n:Int)),some (.int ((10 ^ i:Nat):Int)),some (.int ((10 ^ j:Nat):Int))] = .ok true:=by
          show R.ok (decide ((0:Int)<(n:Int)))=_
          rw [decide_eq_true (by omega)]
        rw [e,ten_step (by omega) h]
        have k:i+j*(n % 2)+2*j*(n / 2)=i+j*n:=by
          have:j*n=j*(2*(n / 2)+n % 2):=by rw [Nat.div_add_mod]
          rw [this,Nat.mul_add,← Nat.mul_assoc,Nat.mul_comm j 2];omega
        have:=ih (n / 2) (by omega) (i+j*(n % 2)) (2*j) g (by omega) (by omega)
        rw [k] at this
        exact this
theorem z8w {n:Int} (h0:0≤n) (h1:n≤6000):zj [.int n] = .ok (.int (p10 n)):=by
  obtain ⟨k,rfl⟩:=Int.eq_ofNat_of_zero_le h0
  obtain ⟨s,e⟩:=ten_loop k 0 1 turnsMax (Nat.lt_of_le_of_lt (show k≤6000 by omega) (by decide)) (by omega)
  have e':sWhile (tVal (fBin cGt (fVar 0) (fC (.int 0)))) z2l [some (.int (k:Int)),some (.int 1),some (.int 10)] = .next [some (.int 0),some (.int (p10 k)),s]:=by
    rw [p10_nat]
    have:0+1*k=k:=by omega
    rw [this] at e
    exact e
  generalize p10 k=v at *
  dsimp! [zj,z60,List.replicate,List.set,e']
theorem tens_eq:z5=zj:=rfl
theorem z5a {n:Int} (h0:0≤n) (h1:n≤6000):z5 [.int n] = .ok (.int (p10 n)):=by rw [tens_eq];exact z8w h0 h1
end Cm
namespace Cm
open PySem Mi
inductive Tm where
  | wrong | none | endl (b:Bool) | num (b:Bool) (n k:Int)
def Tm.ok:Tm→Prop
  | .num _ n k=>(n % 2=1∨(n=0∧k=0))∧nb n≤1000
  | _=>True
def vN (f u:Int):Int:=stepsP f (u / p2 f) (u % p2 f)
def vK (e f u:Int):Int:=powP e f (u / p2 f)
def xN (n:Int):Int:=if n=0 then 0 else n / p2 (tz n)
def xK (n k:Int):Int:=if n=0 then 0 else k+tz n
theorem z8l (n k:Int):zi [.int n,.int k] = .ok (.tup [.int (xN n),.int (xK n k)]):=by
  unfold xN xK
  by_cases h:n=0
  · rw [if_pos h,if_pos h,h];exact z67 k
  · rw [if_neg h,if_neg h];exact z68 k h
theorem x_nb (n:Int):nb (xN n)≤nb n:=by
  unfold xN
  by_cases h:n=0
  · rw [if_pos h,h];exact Nat.le_refl _
  · rw [if_neg h]
    obtain ⟨h1,h2,h3⟩:=tz_spec h
    have h4:n / p2 (tz n)≠0:=by intro z;rw [z] at h2;omega
    have:=nb_shl h4 h1
    rw [h3] at this;omega
theorem z79 {e f s u:Int} (h:Wu e f s u) (hu:u<eS e f):z1b [.tup [.int e,.int f],.int (u+s*p2 (e+f))]=zi [.int (if s=1 then -(vN f u) else vN f u),.int (vK e f u)]:=by
  obtain ⟨a,b,c1,c2,c,d⟩:=wu_word h
  have hx:u / p2 f<p2 e - 1:=(Int.ediv_lt_iff_lt_mul (p2_pos f)).mpr hu
  have v:=z8y h.1 a b (by rw [c];exact hx)
  rw [c,d,c1] at v
  exact v
theorem vN_nb {e f u:Int} (h:Wd e f) (u0:0≤u):nb (vN f u)≤61:=by
  have g3:=h.2.2.1
  have g4:=h.2.2.2
  have e60:p2 60=1152921504606846976:=by decide
  have a:=p2_le (a:=f) (b:=60) (by omega) (by omega)
  have y0:=Int.emod_nonneg u (show p2 f≠0 by have:=p2_pos f;omega)
  have y1:=Int.emod_lt_of_pos u (p2_pos f)
  unfold vN stepsP
  split
  · exact nb_le (by omega)
  · exact nb_le (by omega)
theorem tn:(Str.ofString "wrong" == Str.ofString "none")=false∧(Str.ofString "wrong" == Str.ofString "endless")=false∧(Str.ofString "wrong" == Str.ofString "number")=false∧(Str.ofString "none" == Str.ofString "wrong")=false∧(Str.ofString "none" == Str.ofString "endless")=false ∧
    (Str.ofString "none" == Str.ofString "number")=false∧(Str.ofString "endless" == Str.ofString "wrong")=false∧(Str.ofString "endless" == Str.ofString "none")=false∧(Str.ofString "endless" == Str.ofString "number")=false∧(Str.ofString "number" == Str.ofString "wrong")=false ∧
    (Str.ofString "number" == Str.ofString "none")=false∧(Str.ofString "number" == Str.ofString "endless")=false:=⟨rfl,rfl,rfl,rfl,rfl,rfl,rfl,rfl,rfl,rfl,rfl,rfl⟩
def NoWay (v:PV):Prop:=asVal (some v) = .ok v∧z1c [v] = .exc 3
theorem vN_pos {f u:Int} (u0:0<u):0<vN f u:=by
  have pf:=p2_pos f
  have y0:=Int.emod_nonneg u (show p2 f≠0 by omega)
  have dm:=Int.mul_ediv_add_emod u (p2 f)
  unfold vN stepsP
  by_cases c:u / p2 f=0
  · rw [if_pos c]
    rw [c,Int.mul_zero] at dm
    omega
  · rw [if_neg c];omega
theorem xN_ne {n:Int} (h:n≠0):xN n≠0:=by
  unfold xN
  rw [if_neg h]
  obtain ⟨h1,h2,h3⟩:=tz_spec h
  intro z;rw [z] at h2;omega
theorem low_u {f t q:Int} (hf:1≤f) (t0:0≤t) (q0:0≤q) (q1:q<2*p2 f) (qt:t=0∨p2 f≤q) :
    0≤t*p2 f+q∧stU f (t*p2 f+q)=q*p2 t∧stU f (t*p2 f+q+1)=(q+1)*p2 t∧(t*p2 f+q) % 2=q % 2∧(q<p2 f↔t*p2 f+q<p2 f):=by
  have pf:=p2_pos f
  have tp:=Int.mul_nonneg t0 (Int.le_of_lt pf)
  have u0:0≤t*p2 f+q:=by omega
  have et:tU f (t*p2 f+q)=t:=by
    unfold tU
    by_cases c:q<p2 f
    · have t00:t=0:=by rcases qt with z | z<;>omega
      subst t00
      rw [Int.zero_mul,Int.zero_add,if_pos c]
    · have t1:p2 f≤t*p2 f+q:=by omega
      rw [if_neg (by omega)]
      have e1:t*p2 f+q=(q - p2 f)+(t+1)*p2 f:=by rw [Int.add_mul,Int.one_mul];omega
      rw [e1,Int.add_mul_ediv_right _ _ (by omega),Int.ediv_eq_zero_of_lt (by omega) (by omega)]
      omega
  obtain ⟨_,_,_,_,e1,e2,e3,e4,e5,_⟩:=tq_facts (f:=f) (u:=t*p2 f+q) hf u0
  have eq:qU f (t*p2 f+q)=q:=by unfold qU;rw [et];omega
  rw [et,eq] at e1 e2
  rw [eq] at e4 e5
  exact ⟨u0,e1,e2,e4.symm,e5⟩
def Lies (M X Y sd:Int):Prop:=(sd=0∧M=X)∨(sd=1∧X<M∧2*M<X+Y)∨(sd=2∧2*M=X+Y)∨(sd=3∧X+Y<2*M∧M<Y)
theorem lies_of {M B q P a b:Int} (hB:0<B) (hP:0<P) (hb:0<b) (a0:0≤a) (a1:a<b) (eq:M*b=(q*b+a)*(P*B)):Lies M (q*P*B) ((q+1)*P*B) (sideP a b):=by
  have hX:0<P*B:=Int.mul_pos hP hB
  have e1:q*P*B=q*(P*B):=Int.mul_assoc _ _ _
  have e2:(q+1)*P*B=q*(P*B)+P*B:=by rw [Int.mul_assoc,Int.add_mul,Int.one_mul]
  rw [e1,e2]
  obtain ⟨r,er,r0,r1,r2⟩:=rest_of hX hb a0 a1 eq
  rw [← side_scale hX hb r2]
  generalize P*B=X at *
  generalize q*X=Z at *
  unfold sideP Lies
  by_cases c0:2*r=0
  · rw [if_pos c0];left;omega
  · rw [if_neg c0]
    by_cases c1:2*r<X
    · rw [if_pos c1];right;left;omega
    · rw [if_neg c1]
      by_cases c2:2*r=X
      · rw [if_pos c2];right;right;left;omega
      · rw [if_neg c2];right;right;right;omega
theorem wn:(Str.ofString "away" == Str.ofString "even")=false∧(Str.ofString "in" == Str.ofString "even")=false∧(Str.ofString "up" == Str.ofString "even")=false∧(Str.ofString "down" == Str.ofString "even")=false ∧
    (Str.ofString "even" == Str.ofString "away")=false∧(Str.ofString "in" == Str.ofString "away")=false∧(Str.ofString "up" == Str.ofString "away")=false∧(Str.ofString "down" == Str.ofString "away")=false ∧
    (Str.ofString "even" == Str.ofString "in")=false∧(Str.ofString "away" == Str.ofString "in")=false∧(Str.ofString "up" == Str.ofString "in")=false∧(Str.ofString "down" == Str.ofString "in")=false ∧
    (Str.ofString "even" == Str.ofString "up")=false∧(Str.ofString "away" == Str.ofString "up")=false∧(Str.ofString "in" == Str.ofString "up")=false∧(Str.ofString "down" == Str.ofString "up")=false ∧
    (Str.ofString "even" == Str.ofString "down")=false∧(Str.ofString "away" == Str.ofString "down")=false∧(Str.ofString "in" == Str.ofString "down")=false∧(Str.ofString "up" == Str.ofString "down")=false:=⟨rfl,rfl,rfl,rfl,rfl,rfl,rfl,rfl,rfl,rfl,rfl,rfl,rfl,rfl,rfl,rfl,rfl,rfl,rfl,rfl⟩
theorem nb_st {e f u:Int} (h:Wd e f) (u0:0≤u) (u1:u≤eS e f):nb (stU f u)≤2200:=by
  obtain ⟨p1,p3,p4,p5,p6,b1,b2,b3,b4,p7,p8⟩:=p2_wd h
  obtain ⟨m1,m3,_,_,_⟩:=eS_facts h
  obtain ⟨g1,g2,g3,g4⟩:=h
  by_cases c:u<p2 f
  · rw [stU_lo c]
    have:=nb_mono u0 (Int.le_of_lt c)
    omega
  · have es:stU f u=(u % p2 f+p2 f)*p2 (u / p2 f - 1):=if_neg c
    have y0:=Int.emod_nonneg u (show p2 f≠0 by omega)
    have y1:=Int.emod_lt_of_pos u (show 0<p2 f by omega)
    have d1:1≤u / p2 f:=(Int.le_ediv_iff_mul_le (by omega)).mpr (by omega)
    have d2:u / p2 f<p2 e:=Int.ediv_lt_of_lt_mul (by omega) (by rw [← p5];omega)
    have z:=nb_mul_le (u % p2 f+p2 f) (p2 (u / p2 f - 1))
    rw [nb_p2 (show 0≤u / p2 f - 1 by omega)] at z
    have z2:nb (u % p2 f+p2 f)≤62:=nb_le (by
      have:=p2_le (a:=f) (b:=60) (by omega) g4
      have e60:p2 60=1152921504606846976:=by decide
      omega)
    rw [es]
    omega
def hz (f u:Int):Int:=if u=0 then 0 else stU f (u - 1)
def Verd (e f p M B:Int) (under:Bool) (sz mk:Int):Prop :=
  (sz=eS e f∧mk=20∧(if p=0∨p=1 then decide ((stU f (eS e f - 1)+stU f (eS e f))*B≤2*M) else if p=2 then false else if p=3 then (!under && decide (stU f (eS e f - 1)*B<M)) else (under && decide (stU f (eS e f - 1)*B<M)))=true) ∨
  (sz=eS e f - 1∧mk=20∧stU f (eS e f)*B≤M∧(if p=0∨p=1 then decide ((stU f (eS e f - 1)+stU f (eS e f))*B≤2*M) else if p=2 then false else if p=3 then (!under && decide (stU f (eS e f - 1)*B<M)) else (under && decide (stU f (eS e f - 1)*B<M)))=false) ∨
  (0≤sz∧sz<eS e f∧M<stU f (eS e f)*B∧(stU f sz*B=M∨(¬ stU f sz*B=M∧hz f sz*B<M∧M<stU f (sz+1)*B)) ∧
    (p=3→(under=true→stU f sz*B≤M)∧(under=false→M≤stU f sz*B))∧(p=4→(under=true→M≤stU f sz*B)∧(under=false→stU f sz*B≤M))∧(p=2→stU f sz*B≤M) ∧
    (p=0→(sz % 2=0→0≤2*M - (hz f sz+stU f sz)*B∧0≤(stU f sz+stU f (sz+1))*B - 2*M)∧(¬ sz % 2=0→0<2*M - (hz f sz+stU f sz)*B∧0<(stU f sz+stU f (sz+1))*B - 2*M)) ∧
    (p=1→0≤2*M - (hz f sz+stU f sz)*B∧0<(stU f sz+stU f (sz+1))*B - 2*M) ∧
    mk=if stU f sz*B=M then 0 else if M<B*p2 f then 24 else 16)
theorem wayk_p {p:Int}{z:Str}{k:Nat} (w:WayK p z k):p=0∨p=1∨p=2∨p=3∨p=4:=by
  rcases w with ⟨h,_⟩ | ⟨h,_⟩ | ⟨h,_⟩ | ⟨h,_⟩ | ⟨h,_⟩<;>omega
theorem gr_cases {p q sd:Int}{below:Bool} (hp:p=0∨p=1∨p=2∨p=3∨p=4) (hs:sd=0∨sd=1∨sd=2∨sd=3) :
    (gr p q sd below=true∧((p=0∧(sd=3∨(sd=2∧q % 2=1)))∨(p=1∧2≤sd)∨(p=3∧below=false∧sd≠0)∨(p=4∧below=true∧sd≠0))) ∨
    (gr p q sd below=false∧((p=0∧(sd≤1∨(sd=2∧q % 2=0)))∨(p=1∧sd≤1)∨p=2∨(p=3∧(below=true∨sd=0))∨(p=4∧(below=false∨sd=0)))):=by
  by_cases s0:sd=0
  · subst s0
    refine .inr ⟨rfl,?_⟩
    rcases hp with rfl | rfl | rfl | rfl | rfl
    · exact .inl ⟨rfl,.inl (by decide)⟩
    · exact .inr (.inl ⟨rfl,by decide⟩)
    · exact .inr (.inr (.inl rfl))
    · exact .inr (.inr (.inr (.inl ⟨rfl,.inr rfl⟩)))
    · exact .inr (.inr (.inr (.inr ⟨rfl,.inr rfl⟩)))
  · have eg:gr p q sd below=gw p (decide (q % 2=1)) sd below:=by unfold gr;rw [decide_eq_true s0,Bool.true_and]
    rw [eg]
    rcases hp with rfl | rfl | rfl | rfl | rfl
    · have b:gw 0 (decide (q % 2=1)) sd below=decide (sd=3∨(sd=2∧q % 2=1)):=by rw [Bool.decide_or,Bool.decide_and];rfl
      rw [b]
      by_cases c:sd=3∨(sd=2∧q % 2=1)
      · exact .inl ⟨decide_eq_true c,.inl ⟨rfl,c⟩⟩
      · exact .inr ⟨decide_eq_false c,.inl ⟨rfl,by omega⟩⟩
    · by_cases c:2≤sd
      · exact .inl ⟨decide_eq_true c,.inr (.inl ⟨rfl,c⟩)⟩
      · exact .inr ⟨decide_eq_false c,.inr (.inl ⟨rfl,by omega⟩)⟩
    · exact .inr ⟨rfl,.inr (.inr (.inl rfl))⟩
    · cases below
      · exact .inl ⟨rfl,.inr (.inr (.inl ⟨rfl,rfl,s0⟩))⟩
      · exact .inr ⟨rfl,.inr (.inr (.inr (.inl ⟨rfl,.inl rfl⟩)))⟩
    · cases below
      · exact .inr ⟨rfl,.inr (.inr (.inr (.inr ⟨rfl,.inl rfl⟩)))⟩
      · exact .inl ⟨rfl,.inr (.inr (.inr ⟨rfl,rfl,s0⟩))⟩
theorem verd {e f p t q sd M B:Int}{z:Str}{k:Nat}{under:Bool} (h:Wd e f) (w:WayK p z k) (t0:0≤t) (q0:0≤q) (q1:q<2*p2 f) (qt:t=0∨p2 f≤q) (hB:0<B)
    (hs:sd=0∨sd=1∨sd=2∨sd=3) (L:Lies M (q*p2 t*B) ((q+1)*p2 t*B) sd) :
    ∃ sz mk,tkT e f p t q sd under = .tup [.int (sz+sg under*p2 (e+f)),.int mk]∧Verd e f p M B under sz mk:=by
  have hf:=h.2.2.1
  have pf:=p2_pos f
  obtain ⟨m1,m3,p3,p4,p7⟩:=eS_facts h
  obtain ⟨u0,l1,l2,l3,l4⟩:=low_u hf t0 q0 q1 qt
  have hp:=wayk_p w
  have par:eS e f % 2=0:=by
    show (p2 e - 1)*p2 f % 2=0
    rw [p4,Int.mul_left_comm];exact Int.mul_emod_right _ _
  have szd:szT f p t q sd under=t*p2 f+(if gr p q sd under then q+1 else q):=rfl
  have mkd:mkT f q sd=if sd=0 then 0 else if q<p2 f then 24 else 16:=rfl
  have mB:∀ x y:Int,x≤y→x*B≤y*B:=fun x y hxy=>Int.mul_le_mul_of_nonneg_right hxy (Int.le_of_lt hB)
  have mB':∀ x y:Int,x<y→x*B<y*B:=fun x y hxy=>Int.mul_lt_mul_of_pos_right hxy hB
  have sl:∀ x y:Int,0≤x→x<y→stU f x*B<stU f y*B:=fun x y hx hxy=>mB' _ _ (stU_lt hx hxy)
  have ad:∀ x y:Int,(x+y)*B=x*B+y*B:=fun x y=>Int.add_mul _ _ _
  have lim:=sl (eS e f - 1) (eS e f) (by omega) (by omega)
  have mkf0:(stU f (t*p2 f+q)*B≤M∧M<stU f (t*p2 f+q+1)*B)→(M<B*p2 f↔q<p2 f):=fun ⟨x1,x2⟩=>by
    have pe:stU f (p2 f)=p2 f:=by
      unfold stU
      rw [if_neg (by omega),Int.emod_self,Int.ediv_self (by omega)]
      have:p2 (1 - 1)=1:=rfl
      rw [this];omega
    have c:=Int.mul_comm B (p2 f)
    constructor
    · intro y
      apply Decidable.byContradiction
      intro n
      have le:p2 f≤t*p2 f+q:=by
        apply Decidable.byContradiction
        intro n2;exact n (l4.mpr (by omega))
      have:stU f (p2 f)*B≤stU f (t*p2 f+q)*B:=by
        by_cases z:p2 f=t*p2 f+q
        · rw [← z];exact Int.le_refl _
        · have:=sl (p2 f) (t*p2 f+q) (by omega) (by omega);omega
      rw [pe] at this
      omega
    · intro y
      have lt:=l4.mp y
      have:stU f (t*p2 f+q+1)*B≤stU f (p2 f)*B:=by
        by_cases z:t*p2 f+q+1=p2 f
        · rw [z];exact Int.le_refl _
        · have:=sl (t*p2 f+q+1) (p2 f) (by omega) (by omega);omega
      rw [pe] at this
      omega
  rw [← l1,← l2] at L
  have HL:=sl (t*p2 f+q) (t*p2 f+q+1) (by omega) (by omega)
  have bd:stU f (t*p2 f+q)*B≤M∧M<stU f (t*p2 f+q+1)*B:=by
    rcases L with ⟨_,x⟩ | ⟨_,x,y⟩ | ⟨_,x⟩ | ⟨_,x,y⟩<;>omega
  have mkf:=mkf0 bd
  clear mkf0
  have hzl:hz f (t*p2 f+q)*B≤stU f (t*p2 f+q)*B∧(0<t*p2 f+q→hz f (t*p2 f+q)*B<stU f (t*p2 f+q)*B):=by
    unfold hz
    by_cases z:t*p2 f+q=0
    · rw [if_pos z,z,stU_lo (by omega)];exact ⟨Int.le_refl _,fun x=>by omega⟩
    · rw [if_neg z]
      have:=sl (t*p2 f+q - 1) (t*p2 f+q) (by omega) (by omega)
      exact ⟨by omega,fun _=>this⟩
  have hz1:hz f (t*p2 f+q+1)=stU f (t*p2 f+q):=by
    unfold hz;rw [if_neg (by omega)];congr 1;omega
  have big:eS e f≤t*p2 f+q→stU f (eS e f)*B≤M:=fun x=>by
    by_cases z:eS e f=t*p2 f+q
    · rw [z];exact bd.1
    · have:=sl (eS e f) (t*p2 f+q) (by omega) (by omega);omega
  have small:t*p2 f+q<eS e f→M<stU f (eS e f)*B:=fun x=>by
    by_cases z:t*p2 f+q+1=eS e f
    · rw [← z];exact bd.2
    · have:=sl (t*p2 f+q+1) (eS e f) (by omega) (by omega);omega
  generalize hu:t*p2 f+q=u at *
  have g3:gw p true 3 under=true↔(p=0∨p=1∨(p=3∧under=false)∨(p=4∧under=true)):=by
    rcases hp with rfl | rfl | rfl | rfl | rfl<;>cases under<;>simp [gw]
  have A:=ad (stU f (eS e f - 1)) (stU f (eS e f))
  have gc:=gr_cases (p:=p) (q:=q) (sd:=sd) (below:=under) hp hs
  unfold tkT
  by_cases c:szT f p t q sd under<eS e f
  · rw [if_pos c]
    refine ⟨_,_,rfl,.inr (.inr ?_)⟩
    rcases gc with ⟨g,gc⟩ | ⟨g,gc⟩
    · -- grown
      have e1:szT f p t q sd under=u+1:=by rw [szd,g,if_pos rfl];omega
      rw [e1] at c ⊢
      have H2:=sl (u+1) (u+1+1) (by omega) (by omega)
      have sd0:sd≠0:=by omega
      have Mlt:stU f u*B<M:=by rcases L with ⟨x,_⟩ | ⟨_,x,y⟩ | ⟨_,x⟩ | ⟨_,x,y⟩<;>omega
      rw [hz1,ad,ad]
      have mk':mkT f q sd=if stU f (u+1)*B=M then 0 else if M<B*p2 f then 24 else 16:=by
        rw [mkd,if_neg sd0,if_neg (show ¬ stU f (u+1)*B=M by omega)]
        by_cases y:q<p2 f
        · rw [if_pos y,if_pos (mkf.mpr y)]
        · rw [if_neg y,if_neg (fun z=>y (mkf.mp z))]
      have sm:=small (by omega)
      clear mkf small big hzl l1 l2 sl mB mB' ad A lim g3 szd mkd hz1 qt
      generalize stU f u*B=X at *
      generalize stU f (u+1)*B=Y at *
      generalize stU f (u+1+1)*B=Z at *
      refine ⟨by omega,c,sm,.inr ⟨by omega,Mlt,by omega⟩,?_,?_,?_,?_,?_,mk'⟩
      · intro x
        refine ⟨fun y=>?_,fun y=>by omega⟩
        rcases gc with ⟨a,_⟩ | ⟨a,_⟩ | ⟨a,b,_⟩ | ⟨a,_⟩
        · omega
        · omega
        · rw [b] at y;cases y
        · omega
      · intro x
        refine ⟨fun y=>by omega,fun y=>?_⟩
        rcases gc with ⟨a,_⟩ | ⟨a,_⟩ | ⟨a,_⟩ | ⟨a,b,_⟩
        · omega
        · omega
        · omega
        · rw [b] at y;cases y
      · intro x
        rcases gc with ⟨a,_⟩ | ⟨a,_⟩ | ⟨a,_⟩ | ⟨a,_⟩<;>omega
      · intro x
        have gg:sd=3∨(sd=2∧q % 2=1):=by rcases gc with ⟨_,a⟩ | ⟨a,_⟩ | ⟨a,_⟩ | ⟨a,_⟩<;>omega
        refine ⟨fun y=>?_,fun y=>?_⟩
        · rcases L with ⟨x,_⟩ | ⟨x,_,_⟩ | ⟨x,y⟩ | ⟨_,x,y⟩<;>omega
        · have s3:sd=3:=by omega
          rcases L with ⟨x,_⟩ | ⟨x,_,_⟩ | ⟨x,y⟩ | ⟨_,x,y⟩<;>omega
      · intro x
        have gg:2≤sd:=by rcases gc with ⟨a,_⟩ | ⟨_,a⟩ | ⟨a,_⟩ | ⟨a,_⟩<;>omega
        rcases L with ⟨x,_⟩ | ⟨x,_,_⟩ | ⟨x,y⟩ | ⟨_,x,y⟩<;>omega
    · -- not grown
      have e1:szT f p t q sd under=u:=by rw [szd,g,if_neg (by decide)];omega
      rw [e1] at c ⊢
      have m0:stU f u*B=M↔sd=0:=by rcases L with ⟨x,_⟩ | ⟨_,x,y⟩ | ⟨_,x⟩ | ⟨_,x,y⟩<;>omega
      rw [ad,ad]
      have mk':mkT f q sd=if stU f u*B=M then 0 else if M<B*p2 f then 24 else 16:=by
        rw [mkd]
        by_cases x:sd=0
        · rw [if_pos x,if_pos (m0.mpr x)]
        · rw [if_neg x,if_neg (fun z=>x (m0.mp z))]
          by_cases y:q<p2 f
          · rw [if_pos y,if_pos (mkf.mpr y)]
          · rw [if_neg y,if_neg (fun z=>y (mkf.mp z))]
      have sm:=small c
      obtain ⟨z1,z2⟩:=hzl
      have zz:¬ stU f u*B=M→hz f u*B<M:=fun x=>by omega
      clear mkf small big l1 l2 sl mB mB' ad A lim g3 szd mkd hz1 qt
      generalize stU f u*B=X at *
      generalize stU f (u+1)*B=Y at *
      generalize hz f u*B=Z at *
      refine ⟨by omega,c,sm,?_,?_,?_,?_,?_,?_,mk'⟩
      · by_cases x:X=M
        · exact .inl x
        · exact .inr ⟨x,zz x,bd.2⟩
      · intro x
        refine ⟨fun y=>by omega,fun y=>?_⟩
        have:sd=0:=by
          rcases gc with ⟨a,_⟩ | ⟨a,_⟩ | a | ⟨_,a | a⟩ | ⟨a,_⟩
          · omega
          · omega
          · omega
          · rw [a] at y;cases y
          · exact a
          · omega
        have:=m0.mpr this
        omega
      · intro x
        refine ⟨fun y=>?_,fun y=>by omega⟩
        have:sd=0:=by
          rcases gc with ⟨a,_⟩ | ⟨a,_⟩ | a | ⟨a,_⟩ | ⟨_,a | a⟩
          · omega
          · omega
          · omega
          · omega
          · rw [a] at y;cases y
          · exact a
        have:=m0.mpr this
        omega
      · intro x;omega
      · intro x
        have gg:sd≤1∨(sd=2∧q % 2=0):=by rcases gc with ⟨_,a⟩ | ⟨a,_⟩ | a | ⟨a,_⟩ | ⟨a,_⟩<;>omega
        refine ⟨fun y=>?_,fun y=>?_⟩
        · rcases L with ⟨x,_⟩ | ⟨x,_,_⟩ | ⟨x,y⟩ | ⟨_,x,y⟩<;>omega
        · have up:0<u:=by omega
          have zl:=z2 up
          have s1:sd≤1:=by omega
          rcases L with ⟨x,_⟩ | ⟨x,_,_⟩ | ⟨x,y⟩ | ⟨_,x,y⟩<;>omega
      · intro x
        have gg:sd≤1:=by rcases gc with ⟨a,_⟩ | ⟨_,a⟩ | a | ⟨a,_⟩ | ⟨a,_⟩<;>omega
        rcases L with ⟨x,_⟩ | ⟨x,_,_⟩ | ⟨x,y⟩ | ⟨_,x,y⟩<;>omega
  · rw [if_neg c]
    have cs:eS e f≤u∨(u=eS e f - 1∧gr p q sd under=true):=by
      rcases gc with ⟨g,_⟩ | ⟨g,_⟩
      · have e1:szT f p t q sd under=u+1:=by rw [szd,g,if_pos rfl];omega
        rw [e1] at c
        by_cases x:eS e f≤u
        · exact .inl x
        · exact .inr ⟨by omega,g⟩
      · have e1:szT f p t q sd under=u:=by rw [szd,g,if_neg (by decide)];omega
        rw [e1] at c
        exact .inl (by omega)
    by_cases g3':gw p true 3 under=true
    · rw [if_pos g3']
      refine ⟨_,_,rfl,.inl ⟨rfl,rfl,?_⟩⟩
      have gp:=g3.mp g3'
      rw [A]
      rcases cs with cs | ⟨cs,g⟩
      · have bb:=big cs
        rcases gp with a | a | ⟨a,b⟩ | ⟨a,b⟩
        · rw [if_pos (.inl a)];exact decide_eq_true (by omega)
        · rw [if_pos (.inr a)];exact decide_eq_true (by omega)
        · rw [if_neg (by omega),if_neg (by omega),if_pos a,b,decide_eq_true (by omega)];rfl
        · rw [if_neg (by omega),if_neg (by omega),if_neg (by omega),b,decide_eq_true (by omega)];rfl
      · have lu:stU f u=stU f (eS e f - 1):=by rw [cs]
        have lu2:stU f (u+1)=stU f (eS e f):=by rw [cs];congr 1;omega
        rw [lu,lu2] at L bd
        rcases gc with ⟨_,gc⟩ | ⟨g2,_⟩
        · rcases gc with ⟨a,b⟩ | ⟨a,b⟩ | ⟨a,b,d⟩ | ⟨a,b,d⟩
          · rw [if_pos (.inl a)];exact decide_eq_true (by rcases L with ⟨x,_⟩ | ⟨x,_,_⟩ | ⟨x,y⟩ | ⟨_,x,y⟩<;>omega)
          · rw [if_pos (.inr a)];exact decide_eq_true (by rcases L with ⟨x,_⟩ | ⟨x,_,_⟩ | ⟨x,y⟩ | ⟨_,x,y⟩<;>omega)
          · rw [if_neg (by omega),if_neg (by omega),if_pos a,b,decide_eq_true (by rcases L with ⟨x,_⟩ | ⟨x,_,_⟩ | ⟨x,y⟩ | ⟨_,x,y⟩<;>omega)];rfl
          · rw [if_neg (by omega),if_neg (by omega),if_neg (by omega),b,decide_eq_true (by rcases L with ⟨x,_⟩ | ⟨x,_,_⟩ | ⟨x,y⟩ | ⟨_,x,y⟩<;>omega)];rfl
        · rw [g2] at g;cases g
    · rw [if_neg g3']
      refine ⟨_,_,rfl,.inr (.inl ⟨rfl,rfl,?_,?_⟩)⟩
      · rcases cs with cs | ⟨cs,g⟩
        · exact big cs
        · exfalso
          apply g3'
          apply g3.mpr
          rcases gc with ⟨_,gc⟩ | ⟨g2,_⟩
          · rcases gc with ⟨a,b⟩ | ⟨a,b⟩ | ⟨a,b,d⟩ | ⟨a,b,d⟩
            · exact .inl a
            · exact .inr (.inl a)
            · exact .inr (.inr (.inl ⟨a,b⟩))
            · exact .inr (.inr (.inr ⟨a,b⟩))
          · rw [g2] at g;cases g
      · have n0:¬ p=0:=fun x=>g3' (g3.mpr (.inl x))
        have n1:¬ p=1:=fun x=>g3' (g3.mpr (.inr (.inl x)))
        rw [if_neg (by omega)]
        by_cases a:p=2
        · rw [if_pos a]
        · rw [if_neg a]
          by_cases b:p=3
          · rw [if_pos b]
            cases under with
            | true=>rfl
            | false=>exact absurd (g3.mpr (.inr (.inr (.inl ⟨b,rfl⟩)))) g3'
          · rw [if_neg b]
            cases under with
            | false=>rfl
            | true=>exact absurd (g3.mpr (.inr (.inr (.inr ⟨by omega,rfl⟩)))) g3'
theorem st_lies {e f s k d t q a b M B:Int} (st:Stands e f s k d t q a b) (hd:0<d) (hB:0<B) (hM:M*(d*p2 (lp e f - k))=s*p2 (k - lp e f)*B):Lies M (q*p2 t*B) ((q+1)*p2 t*B) (sideP a b):=by
  refine lies_of hB (p2_pos t) st.b0 st.a0 st.a1 ?_
  have eq:=st.eq
  have c:=p2_cross (e:=lp e f - k) (f:=lp e f+t - k) (by have:=st.t0;omega)
  rw [show lp e f+t - k - (lp e f - k)=t by omega,show -(lp e f - k)=k - lp e f by omega,show -(lp e f+t - k)=k - (lp e f+t) by omega] at c
  have k1:=p2_pos (k - (lp e f+t))
  have k2:=Int.mul_pos hd (p2_pos (lp e f - k))
  generalize q*b+a=Z at *
  generalize p2 (k - (lp e f+t))=A at *
  generalize p2 (lp e f+t - k)=C at *
  generalize p2 (k - lp e f)=D at *
  generalize p2 (lp e f - k)=E at *
  generalize p2 t=T at *
  have e1:s*D*b*A=Z*(T*(d*E))*A:=by
    calc s*D*b*A=s*A*b*D:=by simp only [Int.mul_comm,Int.mul_left_comm,Int.mul_assoc]
      _=Z*(d*C)*D:=by rw [eq]
      _=Z*d*(C*D):=by simp only [Int.mul_comm,Int.mul_left_comm,Int.mul_assoc]
      _=Z*d*(E*A*T):=by rw [c]
      _=Z*(T*(d*E))*A:=by simp only [Int.mul_comm,Int.mul_left_comm,Int.mul_assoc]
  have e2:=Int.eq_of_mul_eq_mul_right (by omega) e1
  have e3:M*b*(d*E)=Z*(T*B)*(d*E):=by
    calc M*b*(d*E)=M*(d*E)*b:=by simp only [Int.mul_comm,Int.mul_left_comm,Int.mul_assoc]
      _=s*D*B*b:=by rw [hM]
      _=s*D*b*B:=by simp only [Int.mul_comm,Int.mul_left_comm,Int.mul_assoc]
      _=Z*(T*(d*E))*B:=by rw [e2]
      _=Z*(T*B)*(d*E):=by simp only [Int.mul_comm,Int.mul_left_comm,Int.mul_assoc]
  exact Int.eq_of_mul_eq_mul_right (by omega) e3
open PySem.NumText
def noneL:List Nat:=[110,111,110,101]
def endL:List Nat:=[101,110,100,108,101,115,115]
theorem lit_none:Str.ofString "none"=tx noneL:=by decide +kernel
theorem lit_end:Str.ofString "endless"=tx endL:=by decide +kernel
theorem lit_nend:Str.ofString "-endless"=tx (45::endL):=by decide +kernel
theorem pts_none:ptsT noneL=none:=by decide +kernel
theorem pts_end:ptsT endL=none:=by decide +kernel
theorem pts_nend:ptsT (45::endL)=none:=by decide +kernel
theorem notN_non:cNotN .non = .ok (.bl false):=rfl
theorem named_no {e f:Int}{l:List Nat} (h1:¬ l=noneL) (h2:¬ l=endL) (h3:¬ l=45::endL):z2v [.tup [.int e,.int f],.str (tx l)] = .ok .non:=by
  dsimp! [z2v,z5x,lit_none,lit_end,lit_nend,tx_beq,h1,h2,h3]
theorem not_named {l:List Nat}{r:Bool×Nat×Int} (hp:ptsT l=some r):¬ l=noneL∧¬ l=endL∧¬ l=45::endL:=by
  refine ⟨?_,?_,?_⟩<;>intro e<;>subst e
  · rw [pts_none] at hp;cases hp
  · rw [pts_end] at hp;cases hp
  · rw [pts_nend] at hp;cases hp
section
variable {e f p:Int}{z:Str}{k:Nat}{l:List Nat}
theorem read_zero {b:Bool}{t:Int} (h:Wd e f) (wk:WayK p z k) (hl:l.length≤16000000) (hp:ptsT l=some (b,0,t)):q_read [.tup [.int e,.int f],.str (tx l),.str z] = .ok (.tup [.int (sg b*p2 (e+f)),.int 0]):=by
  have cw:=z8e h
  have wy:=(way_q wk).1
  obtain ⟨h1,h2,h3⟩:=not_named hp
  have nw:=named_no (e:=e) (f:=f) h1 h2 h3
  have q:=z6c hl
  rw [hp] at q
  simp only [optT] at q
  have ws:=z4a (u:=0) ⟨h,.inl rfl,by decide,p2_pos _⟩ b
  have es:(if b=true then (1:Int) else 0)=sg b:=rfl
  rw [es,Int.zero_add] at ws
  have z0:((0:Nat):Int)=0:=rfl
  dsimp! [q_read,z2k,List.replicate,List.set,cw,nw,notN_non,q,z0,wy,ws]
theorem read_num {b:Bool}{w:Nat}{t:Int}{v:PV} (h:Wd e f) (hl:l.length≤16000000) (hp:ptsT l=some (b,w,t)) (w0:0<w) (t0 : -2300≤t) (t1:t≤2300) (wb:nb w≤5000)
    (tk:zv [.tup [.int e,.int f],.int ((if b then -(w:Int) else w)*p10 t),.int 0,.int (p10 (-t)),.str z] = .ok v):q_read [.tup [.int e,.int f],.str (tx l),.str z] = .ok v:=by
  have cw:=z8e h
  obtain ⟨h1,h2,h3⟩:=not_named hp
  have nw:=named_no (e:=e) (f:=f) h1 h2 h3
  have q:=z6c hl
  rw [hp] at q
  simp only [optT] at q
  have z0:¬ (w:Int)=0:=by omega
  by_cases tn:t<0
  · have te:=z8w (n:=-t) (by omega) (by omega)
    rw [p10_le0 (a:=t) (by omega)] at tk
    generalize p10 (-t)=T at *
    cases b
    · simp only [Bool.false_eq_true,if_false,Int.mul_one] at tk
      dsimp! [q_read,z2k,z9,z23,List.replicate,List.set,cw,nw,notN_non,q,z0,tn,te,tk]
    · simp only [if_true,Int.mul_one] at tk
      dsimp! [q_read,z2k,z9,z23,List.replicate,List.set,cw,nw,notN_non,q,z0,tn,te,tk]
  · have te:=z8w (n:=t) (by omega) (by omega)
    have nt:=nb_p10 (n:=t) (m:=2300) (by omega)
    rw [p10_le0 (a:=-t) (by omega)] at tk
    have o1:okMul (w:Int) (p10 t):=okMul_of (m:=5000) (n:=10000) wb (by omega) (by decide)
    have o2:okMul (-(w:Int)) (p10 t):=okMul_of (m:=5000) (n:=10000) (by rw [nb_neg];exact wb) (by omega) (by decide)
    generalize p10 t=T at *
    cases b
    · simp only [Bool.false_eq_true,if_false] at tk
      dsimp! [q_read,z2k,z9,z23,List.replicate,List.set,cw,nw,notN_non,q,z0,tn,te,o1,tk]
    · simp only [if_true] at tk
      dsimp! [q_read,z2k,z9,z23,List.replicate,List.set,cw,nw,notN_non,q,z0,tn,te,o2,tk]
end
end Cm
namespace Cm
open PySem Mi
theorem st_val {e f u:Int} (h:Wd e f) (u0:0<u) (u1:u<eS e f):0<xN (vN f u)∧nb (xN (vN f u))≤61∧lp e f≤xK (vN f u) (vK e f u)∧xK (vN f u) (vK e f u)≤lp e f+2200∧stU f u=xN (vN f u)*p2 (xK (vN f u) (vK e f u) - lp e f):=by
  obtain ⟨p1,p3,p4,p5,p6,b1,b2,b3,b4,p7,p8⟩:=p2_wd h
  obtain ⟨m1,m3,_⟩:=eS_facts h
  have vp:=vN_pos (f:=f) (u:=u) u0
  have vb:=vN_nb (e:=e) h (Int.le_of_lt u0)
  have pf:=p2_pos f
  have tl:=tz_le (show vN f u≠0 by omega)
  obtain ⟨h1,h2,h3⟩:=tz_spec (show vN f u≠0 by omega)
  have e1:xN (vN f u)=vN f u / p2 (tz (vN f u)):=if_neg (by omega)
  have e2:xK (vN f u) (vK e f u)=vK e f u+tz (vN f u):=if_neg (by omega)
  have bx:=x_nb (vN f u)
  have xp:0<xN (vN f u):=by
    rw [e1]
    have pp:=p2_pos (tz (vN f u))
    have:0≤vN f u / p2 (tz (vN f u)):=Int.ediv_nonneg (by omega) (by omega)
    have ne:=xN_ne (show vN f u≠0 by omega)
    rw [e1] at ne
    omega
  have d2:u / p2 f<p2 e:=Int.ediv_lt_of_lt_mul (by omega) (by rw [← p5];omega)
  have vk:lp e f≤vK e f u∧vK e f u≤lp e f+2050∧stU f u=vN f u*p2 (vK e f u - lp e f):=by
    unfold vK vN powP stepsP
    have le:1 - (p2 (e - 1) - 1) - f=lp e f:=rfl
    rw [le]
    by_cases c:u<p2 f
    · have z:u / p2 f=0:=Int.ediv_eq_zero_of_lt (by omega) c
      rw [z,if_pos rfl,if_pos rfl,stU_lo c,Int.emod_eq_of_lt (by omega) c]
      have:p2 (lp e f - lp e f)=1:=p2_le0 (by omega)
      rw [this]
      omega
    · have z:1≤u / p2 f:=(Int.le_ediv_iff_mul_le pf).mpr (by omega)
      rw [if_neg (by omega),if_neg (by omega)]
      have es:stU f u=(u % p2 f+p2 f)*p2 (u / p2 f - 1):=if_neg c
      refine ⟨by omega,by omega,?_⟩
      rw [es]
      congr 2
      omega
  refine ⟨xp,by omega,by omega,by omega,?_⟩
  rw [vk.2.2,e2,e1,show vK e f u+tz (vN f u) - lp e f=tz (vN f u)+(vK e f u - lp e f) by omega,p2_add h1 (by omega),← Int.mul_assoc,h3]
theorem nb_p2s {x:Int} (h:x≤5000):nb (p2 x)≤5001:=by
  by_cases c:0≤x
  · rw [nb_p2 c];omega
  · rw [p2_le0 (by omega)];decide
open PySem.NumText
theorem verd0 {e f p B:Int}{under:Bool} (h:Wd e f) (hB:0<B):Verd e f p 0 B under 0 0:=by
  obtain ⟨m1,m3,_,_,_⟩:=eS_facts h
  have s0:stU f 0=0:=stU_lo (p2_pos f)
  have s1:0<stU f 1:=by have:=stU_lt (f:=f) (u:=0) (v:=1) (by decide) (by decide);omega
  have sS:0<stU f (eS e f):=by have:=stU_lt (f:=f) (u:=0) (v:=eS e f) (by decide) (by omega);omega
  have b1:=Int.mul_pos s1 hB
  have bS:=Int.mul_pos sS hB
  have hz0:hz f 0=0:=if_pos rfl
  refine .inr (.inr ⟨by omega,by omega,bS,.inl (by rw [s0,Int.zero_mul]),?_⟩)
  simp only [s0,hz0,Int.zero_mul,Int.zero_add,Int.mul_zero]
  refine ⟨fun _=>⟨fun _=>by omega,fun _=>by omega⟩,fun _=>⟨fun _=>by omega,fun _=>by omega⟩,fun _=>by omega,fun _=>⟨fun _=>⟨by omega,?_⟩,fun c=>absurd rfl c⟩,fun _=>⟨by omega,?_⟩,by simp⟩
  · omega
  · omega
section
variable {e f p:Int}{z:Str}{k:Nat}{l:List Nat}
theorem read_core {b:Bool}{w:Nat}{t:Int} (h:Wd e f) (wk:WayK p z k) (hl:l.length≤16000000) (hp:ptsT l=some (b,w,t)) (t0 : -2300≤t) (t1:t≤2300)
    (wb:nb ((w:Int)*p10 t)≤5000) (wc:nb w≤5000) (db:nb (p10 (-t))≤3900) :
    ∃ sz mk,q_read [.tup [.int e,.int f],.str (tx l),.str z] = .ok (.tup [.int (sz+sg b*p2 (e+f)),.int mk])∧Verd e f p ((w:Int)*p10 t*p2 (-(lp e f))) (p10 (-t)) b sz mk:=by
  obtain ⟨l1,l2,l3,l4⟩:=lp_bounds h
  have hd:=p10_pos (-t)
  by_cases w0:w=0
  · subst w0
    refine ⟨0,0,?_,?_⟩
    · rw [read_zero h wk hl hp,Int.zero_add]
    · have:((0:Nat):Int)*p10 t*p2 (-(lp e f))=0:=by simp
      rw [this]
      exact verd0 h hd
  · have s0:0<(w:Int)*p10 t:=Int.mul_pos (by omega) (p10_pos t)
    obtain ⟨T,q,a,c,st⟩:=stands (s:=(w:Int)*p10 t) (k:=0) (d:=p10 (-t)) h s0 hd wb db (by decide) (by decide)
    have L:=st_lies (M:=(w:Int)*p10 t*p2 (-(lp e f))) (B:=p10 (-t)) st hd hd (by
      rw [show lp e f - 0=lp e f by omega,show 0 - lp e f = -(lp e f) by omega,p2_le0 (a:=lp e f) (by omega),Int.mul_one])
    obtain ⟨sz,mk,ek,V⟩:=verd (under:=b) h wk st.t0 st.q0 st.q1 st.qt hd (side_of a c) L
    refine ⟨sz,mk,?_,V⟩
    refine read_num h hl hp (by omega) t0 t1 wc ?_
    rw [← ek]
    cases b with
    | true =>
      have e1:(if true=true then -(w:Int) else w)*p10 t = -((w:Int)*p10 t):=by rw [if_pos rfl,Int.neg_mul]
      rw [e1]
      have tk:=take_st (n:=-((w:Int)*p10 t)) h wk (by omega) hd (by rw [nb_neg];omega) db (by rw [ab_neg',ab_of (by omega)];exact st)
      rw [decide_eq_true (by omega)] at tk
      exact tk
    | false =>
      have e1:(if false=true then -(w:Int) else w)*p10 t=(w:Int)*p10 t:=by rw [if_neg (by decide)]
      rw [e1]
      have tk:=take_st (n:=(w:Int)*p10 t) h wk (by omega) hd (by omega) db (by rw [ab_of (by omega)];exact st)
      rw [decide_eq_false (by omega)] at tk
      exact tk
end
theorem pow_dgI {K:Int} (h0 : -1000<K) (h1:K<1000):powT (dgI K)=some K:=by
  have d:=dg_fig K.natAbs
  have n:=dg_ne K.natAbs
  have ln:=dg_len_le (n:=K.natAbs) (k:=3) (by decide) (by omega)
  have v:=dg_val K.natAbs
  by_cases c:K<0
  · have e:=pow_fig true d n ln
    rw [dgI_neg c]
    rw [v] at e
    have e':powT (45::dg K.natAbs)=some (-(K.natAbs:Int)):=e
    rw [e']
    congr 1;omega
  · have e:=pow_fig false d n ln
    rw [dgI_pos (by omega)]
    rw [v] at e
    have e':powT (dg K.natAbs)=some (K.natAbs:Int):=e
    rw [e']
    congr 1;omega
theorem dgI_len {K:Int} (h0 : -1000<K) (h1:K<1000):(dgI K).length≤4:=by
  have ln:=dg_len_le (n:=K.natAbs) (k:=3) (by decide) (by omega)
  unfold dgI
  split
  · simp;omega
  · omega
theorem tStrS {K:Int} (h0 : -1000000<K) (h1:K<1000000):bStr [.int K] = .ok (.str (tx (dgI K))):=tStr (log_lt (by decide) (Nat.lt_of_lt_of_le (show K.natAbs<2 ^ 20 by omega) (Nat.pow_le_pow_right (by decide) (by decide))))
open PySem.Builtin PySem.Builtin.Str
theorem tStrL {a:Int}{k:Nat} (h:a.natAbs<10 ^ k) (hk:k≤4300):bStrL [.int a] = .ok (.str (tx (dgI a))):=by
  rw [← str_int]
  exact if_pos (Nat.lt_of_lt_of_le h (Nat.pow_le_pow_right (by decide) hk))
theorem pad_ok {i:Int} (h0:0≤i) (h1:i≤16000000):PadOk i=true:=by
  have a:fitsSsize i=true:=by
    unfold fitsSsize
    rw [decide_eq_false (by omega),decide_eq_false (by omega)];rfl
  have b:tooLong i.toNat=false:=by
    unfold tooLong
    exact decide_eq_false (by have:=line_of (n:=i.toNat) (by omega);omega)
  unfold PadOk
  rw [a,b];rfl
theorem tZfill {l:List Nat}{i:Int} (h0:0≤i) (h1:i≤16000000) (hd:AllDigits l):bZfill [.str (tx l),.int i] = .ok (.str (tx (List.replicate (i.toNat - l.length) 48 ++ l))):=by
  have e:Txt.zfill (tx l) i=tx (List.replicate (i.toNat - l.length) 48 ++ l):=by
    unfold Txt.zfill
    rw [tx_len]
    by_cases c:i≤(l.length:Int)
    · rw [if_pos c,show i.toNat - l.length=0 by omega];rfl
    · rw [if_neg c]
      have pd:padded (tx l) (i.toNat - l.length) 0 48=tx (List.replicate (i.toNat - l.length) 48 ++ l):=by
        unfold padded tx
        congr 1
        apply Array.toList_inj.mp
        simp
      unfold zfilled
      split
      · next h =>
        have:l[0]?=some 43:=by simpa [tx] using h
        have:=hd 43 (List.mem_of_getElem? this);omega
      · next h =>
        have:l[0]?=some 45:=by simpa [tx] using h
        have:=hd 45 (List.mem_of_getElem? this);omega
      · exact pd
  show (if _ then _ else _)=_
  rw [if_pos (pad_ok h0 h1),e]
theorem dv_zeros (n:Nat) (l:List Nat):digitsVal (List.replicate n 48 ++ l)=digitsVal l:=by
  induction n with
  | zero=>rfl
  | succ n ih=>rw [List.replicate_succ,List.cons_append,dv_cons,ih];simp
theorem ad_zeros (n:Nat):AllDigits (List.replicate n 48):=fun c hc=>by rw [(List.mem_replicate.mp hc).2];omega
end Cm
namespace Cm
open PySem Mi PySem.NumText
theorem verd_ex {e f p M B sz mk u:Int}{under:Bool} (hB:0<B) (V:Verd e f p M B under sz mk) (u0:0≤u) (u1:u<eS e f) (hM:stU f u*B=M):sz=u∧mk=0:=by
  have sl:∀ x y:Int,0≤x→x<y→stU f x*B<stU f y*B:=fun x y hx hxy=>Int.mul_lt_mul_of_pos_right (stU_lt hx hxy) hB
  have sle:∀ x y:Int,0≤x→x≤y→stU f x*B≤stU f y*B:=fun x y hx hxy=>by
    by_cases c:x=y
    · rw [c];exact Int.le_refl _
    · exact Int.le_of_lt (sl x y hx (by omega))
  have a1:=sle u (eS e f - 1) u0 (by omega)
  have a2:=sl (eS e f - 1) (eS e f) (by omega) (by omega)
  have ad:∀ x y:Int,(x+y)*B=x*B+y*B:=fun x y=>Int.add_mul x y B
  rcases V with ⟨x1,x2,x3⟩ | ⟨x1,x2,x3,x4⟩ | ⟨x1,x2,x3,x4,x5,x6,x7,x8,x9,x10⟩
  · exfalso
    by_cases c:p=0∨p=1
    · rw [if_pos c] at x3
      have:=of_decide_eq_true x3
      rw [ad] at this
      omega
    · rw [if_neg c] at x3
      by_cases c2:p=2
      · rw [if_pos c2] at x3;cases x3
      · rw [if_neg c2] at x3
        by_cases c3:p=3
        · rw [if_pos c3,Bool.and_eq_true] at x3
          have:=of_decide_eq_true x3.2
          omega
        · rw [if_neg c3,Bool.and_eq_true] at x3
          have:=of_decide_eq_true x3.2
          omega
  · exfalso;omega
  · rcases x4 with x4 | ⟨x4,y1,y2⟩
    · have:sz=u:=by
        apply Decidable.byContradiction
        intro c
        rcases Int.lt_or_gt_of_ne c with d | d
        · have:=sl sz u x1 d;omega
        · have:=sl u sz u0 d;omega
      exact ⟨this,by rw [x10,if_pos x4]⟩
    · exfalso
      rcases Int.lt_trichotomy u sz with d | d | d
      · have hz1:hz f sz=stU f (sz - 1):=if_neg (by omega)
        rw [hz1] at y1
        have:=sle u (sz - 1) u0 (by omega)
        omega
      · subst d;exact x4 hM
      · have:=sle (sz+1) u (by omega) (by omega)
        omega
theorem p2_nat (n:Nat):p2 (n:Int)=((2 ^ n:Nat):Int):=by
  unfold p2
  rw [Int.toNat_natCast,Int.natCast_pow];rfl
theorem two_ten (n:Nat):2 ^ n≤10 ^ (n / 3+1):=by
  have a:2 ^ n≤2 ^ (3*(n / 3+1)):=Nat.pow_le_pow_right (by decide) (by omega)
  have b:2 ^ (3*(n / 3+1))≤10 ^ (n / 3+1):=by
    rw [Nat.pow_mul]
    exact Nat.pow_le_pow_left (by decide) _
  omega
theorem nb_nat {n:Int}{k:Nat} (h0:0≤n) (h:nb n≤k):n.toNat<2 ^ k:=by
  have:=nb_lt h
  omega
theorem z8h {e f s u:Int} (h:Wu e f s u) (hu:u<eS e f):∃ N B:Nat,z10 [.tup [.int e,.int f],.int (u+s*p2 (e+f))] = .ok (.tup [.int (N:Int),.int (-(B:Int))])∧(N:Int)*p2 (-(lp e f))=stU f u*p10 (B:Int)∧N<10 ^ 1150∧B≤1082∧(0<B→N % 2=1)∧(u=0→N=0∧B=0)∧(0<u→0<N):=by
  obtain ⟨l1,l2,l3,l4⟩:=lp_bounds h.1
  have un:=z6f h
  have u0:=h.2.2.1
  have hw0:Wu e f 0 u:=⟨h.1,.inl rfl,u0,h.2.2.2⟩
  have vl:=z79 hw0 hu
  rw [Int.zero_mul,Int.add_zero,if_neg (by decide),z8l] at vl
  by_cases z:u=0
  · subst z
    have v0:vN f 0=0:=by
      unfold vN stepsP
      simp
    rw [v0] at vl
    have x0:xN 0=0:=if_pos rfl
    have k0:xK 0 (vK e f 0)=0:=if_pos rfl
    rw [x0,k0] at vl
    have s0:stU f 0=0:=stU_lo (p2_pos f)
    refine ⟨0,0,?_,by rw [s0];simp,Nat.pow_pos (by decide),by decide,fun q=>absurd q (by decide),fun _=>⟨rfl,rfl⟩,fun q=>absurd q (by decide)⟩
    have o:okShl 0 0:=okShl_of (n:=0) (by decide) (by decide) (by decide)
    generalize 0+s*p2 (e+f)=W at *
    dsimp! [z10,z44,List.replicate,List.set,un,vl,o]
    rfl
  · obtain ⟨n0,nb0,k0,k1,e0⟩:=st_val h.1 (show 0<u by omega) hu
    have nz:vN f u≠0:=fun q=>by rw [q] at n0;exact absurd n0 (by decide)
    have odd:xN (vN f u) % 2=1:=by unfold xN;rw [if_neg nz];exact (tz_spec nz).2.1
    generalize xN (vN f u)=n at *
    generalize xK (vN f u) (vK e f u)=K at *
    obtain ⟨N,rfl⟩:=Int.eq_ofNat_of_zero_le (Int.le_of_lt n0)
    have nl:=nb_nat (k:=61) (Int.natCast_nonneg N) nb0
    rw [Int.toNat_natCast] at nl
    by_cases c:0≤K
    · obtain ⟨B,rfl⟩:=Int.eq_ofNat_of_zero_le c
      have o:okShl (N:Int) (B:Int):=okShl_of (n:=61) (by omega) nb0 (by omega)
      refine ⟨N*2 ^ B,0,?_,?_,?_,by decide,fun q=>absurd q (by decide),fun q=>absurd q z,fun _=>Nat.mul_pos (by omega) (Nat.pow_pos (by decide))⟩
      · have v:(N:Int)*p2 (B:Int)=((N*2 ^ B:Nat):Int):=by rw [p2_nat,Int.natCast_mul]
        generalize u+s*p2 (e+f)=W at *
        dsimp! [z10,z44,List.replicate,List.set,un,vl,c,o,v]
        rfl
      · have z0:((0:Nat):Int)=0:=rfl
        rw [e0,z0,p10_0,Int.mul_one,Int.natCast_mul,← p2_nat,Int.mul_assoc,← p2_add (by omega) (by omega),show (B:Int) + -(lp e f)=(B:Int) - lp e f by omega]
      · have a:=two_ten (61+B)
        have b:N*2 ^ B<2 ^ 61*2 ^ B:=Nat.mul_lt_mul_of_pos_right nl (Nat.pow_pos (by decide))
        rw [← Nat.pow_add] at b
        have d:10 ^ ((61+B) / 3+1)≤10 ^ 1150:=Nat.pow_le_pow_right (by decide) (by omega)
        omega
    · obtain ⟨B,hB⟩:=Int.eq_ofNat_of_zero_le (show 0≤-K by omega)
      have hK:K = -(B:Int):=by omega
      subst hK
      have te:=z8w (n:=(B:Int)) (by omega) (by omega)
      have nt:=nb_p10 (n:=(B:Int)) (m:=1082) (by omega)
      have o1:okMul (N:Int) (p10 (B:Int)):=okMul_of (m:=61) (n:=5000) nb0 (by omega) (by decide)
      have p5:p10 (B:Int)=((5 ^ B:Nat):Int)*p2 (B:Int):=by rw [p10_nat,p2_nat,← Int.natCast_mul,← Nat.mul_pow]
      have dv:(N:Int)*p10 (B:Int) / p2 (B:Int)=((N*5 ^ B:Nat):Int):=by
        rw [p5,← Int.mul_assoc,Int.mul_ediv_cancel _ (by have:=p2_pos (B:Int);omega),Int.natCast_mul]
      refine ⟨N*5 ^ B,B,?_,?_,?_,by omega,fun _=>?_,fun q=>absurd q z,fun _=>Nat.mul_pos (by omega) (Nat.pow_pos (by decide))⟩
      · have c':¬ 0≤-(B:Int):=c
        have nn : - -(B:Int)=(B:Int):=by omega
        have os:okShr (B:Int):=by show 0≤(B:Int);omega
        generalize u+s*p2 (e+f)=W at *
        generalize p10 (B:Int)=T at *
        dsimp! [z10,z44,List.replicate,List.set,un,vl,c',nn,te,o1,os,dv]
      · rw [e0,p5,Int.natCast_mul,Int.mul_assoc,Int.mul_assoc]
        congr 1
        rw [Int.mul_left_comm,← p2_add (by omega) (by omega),show -(B:Int) - lp e f+(B:Int) = -(lp e f) by omega]
      · have a1:2 ^ 61≤10 ^ 61:=Nat.pow_le_pow_left (by decide) 61
        have a3:5 ^ B≤10 ^ B:=Nat.pow_le_pow_left (by decide) B
        have m2:N*5 ^ B≤10 ^ 61*10 ^ B:=Nat.mul_le_mul (by omega) a3
        rw [← Nat.pow_add] at m2
        exact Nat.lt_of_le_of_lt m2 (Nat.pow_lt_pow_right (by decide) (by omega))
      · have o5:5 ^ B % 2=1:=by rw [Nat.pow_mod];simp
        rw [Nat.mul_mod,o5]
        omega
structure Pnt (N B:Nat) (a t:List Nat):Prop where
  fa:AllDigits a
  na:a≠[]
  ft:AllDigits t
  tl:t.length=B
  al:a.length+t.length≤1160
  dv:digitsVal (a ++ t)=N
  lead:a=[48]∨a.head?≠some 48
  last:t.getLast?≠some 48
def ptxt (a t:List Nat):List Nat:=a ++ (if t=[] then [] else 46::t)
theorem dg_odd {N:Nat}{l:List Nat} (h:AllDigits l) (hn:l≠[]) (hv:digitsVal l=N) (ho:N % 2=1):l.getLast?≠some 48:=by
  intro q
  have e:=List.dropLast_concat_getLast hn
  have g:l.getLast hn=48:=by rw [List.getLast?_eq_some_getLast hn] at q;injection q
  rw [g] at e
  rw [← e,dv_snoc] at hv
  omega
theorem z73 {N B:Nat} (hN:N<10 ^ 1150) (hB:B≤1082) (ho:0<B→N % 2=1) (h0:0<B→0<N):∃ a t,z2c [.tup [.int (N:Int),.int (-(B:Int))]] = .ok (.str (tx (ptxt a t)))∧Pnt N B a t:=by
  have sN:=tStrL (a:=(N:Int)) (k:=1150) hN (by decide)
  rw [dgI_pos (Int.natCast_nonneg N),Int.natAbs_natCast] at sN
  have dd:=dg_fig N
  have dn:=dg_ne N
  have dv:=dg_val N
  have dl:=dg_len_le (n:=N) (k:=1150) (by decide) hN
  have dh:N=0∧dg N=[48]∨0<N∧(dg N).head?≠some 48:=by
    by_cases z:N=0
    · subst z;exact .inl ⟨rfl,dg_s (by decide)⟩
    · exact .inr ⟨by omega,dg_head (by omega)⟩
  generalize dg N=d at *
  by_cases b0:B=0
  · subst b0
    refine ⟨d,[],?_,dd,dn,ad_nil,rfl,by simp;omega,by rw [List.append_nil];exact dv,?_,by simp⟩
    · have z:((0:Nat):Int)=0:=rfl
      have pt:ptxt d []=d:=by unfold ptxt;simp
      rw [pt]
      have n0:(-(0:Int))=0:=rfl
      dsimp! [z2c,z4q,List.replicate,List.set,z,n0,sN]
    · rcases dh with ⟨_,q⟩ | ⟨_,q⟩
      · exact .inl q
      · exact .inr q
  · have zf:=tZfill (l:=d) (i:=(B:Int)+1) (by omega) (by omega) dd
    rw [show ((B:Int)+1).toNat=B+1 by omega] at zf
    have fd:AllDigits (List.replicate (B+1 - d.length) 48 ++ d):=ad_app (ad_zeros _) dd
    have fv:=dv_zeros (B+1 - d.length) d
    have fl:(List.replicate (B+1 - d.length) 48 ++ d).length=max (B+1) d.length:=by rw [List.length_append,List.length_replicate];omega
    have fh:(B+1≤d.length∧(List.replicate (B+1 - d.length) 48 ++ d).head?≠some 48)∨(d.length<B+1∧(List.replicate (B+1 - d.length) 48 ++ d).head?=some 48):=by
      by_cases c:B+1≤d.length
      · rw [show B+1 - d.length=0 by omega]
        refine .inl ⟨c,?_⟩
        rcases dh with ⟨q,_⟩ | ⟨_,q⟩
        · have:=h0 (by omega);omega
        · exact q
      · obtain ⟨n,hn⟩:∃ n,B+1 - d.length=n+1:=⟨B - d.length,by omega⟩
        rw [hn]
        exact .inr ⟨by omega,rfl⟩
    generalize List.replicate (B+1 - d.length) 48 ++ d=F at *
    have k1:=tTakeE (z:=F) (k:=(B:Int)) (by omega) (by omega) (by omega)
    have k2:=tDropE (z:=F) (k:=(B:Int)) (by omega) (by omega) (by omega)
    rw [Int.toNat_natCast] at k1 k2
    have l1:(F.take (F.length - B)).length=F.length - B:=by rw [List.length_take];omega
    have l2:(F.drop (F.length - B)).length=B:=by rw [List.length_drop];omega
    have d1:=ad_take fd (F.length - B)
    have d2:=ad_drop fd (F.length - B)
    have n1:F.take (F.length - B)≠[]:=fun q=>by have:=congrArg List.length q;rw [l1,List.length_nil] at this;omega
    have n2:F.drop (F.length - B)≠[]:=fun q=>by have:=congrArg List.length q;rw [l2,List.length_nil] at this;omega
    have vv:digitsVal (F.take (F.length - B) ++ F.drop (F.length - B))=N:=by rw [List.take_append_drop,fv,dv]
    have hd:F.take (F.length - B)=[48]∨(F.take (F.length - B)).head?≠some 48:=by
      rcases fh with ⟨c,q⟩ | ⟨c,q⟩
      · refine .inr ?_
        cases F with
        | nil=>simp at l2;omega
        | cons x r =>
          obtain ⟨n,hn⟩:∃ n,(x::r).length - B=n+1:=⟨(x::r).length - B - 1,by omega⟩
          rw [hn]
          exact q
      · left
        cases F with
        | nil=>cases q
        | cons x r =>
          have hx:x=48:=by simpa using q
          rw [show (x::r).length - B=1 by omega,hx]
          rfl
    have ls:=dg_odd d2 n2 (N:=digitsVal (F.drop (F.length - B))) rfl (by
      have o:=ho (by omega)
      rw [dv_app,l2] at vv
      have p:10 ^ B % 2=0:=by
        obtain ⟨n,rfl⟩:∃ n,B=n+1:=⟨B - 1,by omega⟩
        rw [Nat.pow_succ];omega
      have:(digitsVal (F.take (F.length - B))*10 ^ B) % 2=0:=by rw [Nat.mul_mod,p];simp
      omega)
    generalize F.take (F.length - B)=a at *
    generalize F.drop (F.length - B)=b at *
    have a1:=tAdd (a:=a) (b:=[46]) (by simp;omega)
    have a2:=tAdd (a:=a ++ [46]) (b:=b) (by simp;omega)
    refine ⟨a,b,?_,d1,n1,d2,l2,by omega,vv,hd,ls⟩
    have pt:ptxt a b=a ++ [46] ++ b:=by unfold ptxt;rw [if_neg n2];simp
    have nn : - -(B:Int)=(B:Int):=by omega
    have bn:¬ (B:Int)=0:=by omega
    rw [pt]
    dsimp! [z2c,z4q,List.replicate,List.set,nn,bn,fSt_e,strK_ok,sN,zf,k1,k2,lit_p,a1,a2]
structure Exa (e f u:Int) (N B:Nat) (a t:List Nat):Prop where
  pn:Pnt N B a t
  eq:(N:Int)*p2 (-(lp e f))=stU f u*p10 (B:Int)
  nl:N<10 ^ 1150
  bl:B≤1082
theorem kind_cases {e f u:Int} (h:Wd e f) (u0:0≤u):(eS e f<u∧(kindU e f u="loud"∨kindU e f u="still"))∨(u=eS e f∧kindU e f u="endless")∨(u<eS e f∧((u=0∧kindU e f u="nought")∨(0<u∧(kindU e f u="small"∨kindU e f u="plain")))):=by
  obtain ⟨m1,m3,_,_,_⟩:=eS_facts h
  have pf:=p2_pos f
  have pe:p2 f≤eS e f:=by omega
  unfold kindU
  by_cases c0:u=0
  · rw [if_pos c0];right;right;exact ⟨by omega,.inl ⟨c0,rfl⟩⟩
  · rw [if_neg c0]
    by_cases c1:u<p2 f
    · rw [if_pos c1];right;right;exact ⟨by omega,.inr ⟨by omega,.inl rfl⟩⟩
    · rw [if_neg c1]
      by_cases c2:u<eS e f
      · rw [if_pos c2];right;right;exact ⟨c2,.inr ⟨by omega,.inr rfl⟩⟩
      · rw [if_neg c2]
        by_cases c3:u=eS e f
        · rw [if_pos c3];right;left;exact ⟨c3,rfl⟩
        · rw [if_neg c3]
          left
          refine ⟨by omega,?_⟩
          split
          · exact .inl rfl
          · exact .inr rfl
theorem z6w {e f s u:Int} (h:Wu e f s u) :
    (eS e f<u∧zc [.tup [.int e,.int f],.int (u+s*p2 (e+f))] = .ok (.str (tx noneL))) ∨
    (u=eS e f∧zc [.tup [.int e,.int f],.int (u+s*p2 (e+f))] = .ok (.str (tx ((if decide (s=1) then [45] else []) ++ endL)))) ∨
    (u<eS e f∧∃ N B a t,Exa e f u N B a t∧zc [.tup [.int e,.int f],.int (u+s*p2 (e+f))] = .ok (.str (tx ((if decide (s=1) then [45] else []) ++ ptxt a t)))):=by
  have kd:=z57 h
  have ct:=z66 h
  rcases kind_cases h.1 h.2.2.1 with ⟨c,k⟩ | ⟨c,k⟩ | ⟨c,k⟩
  · refine .inl ⟨c,?_⟩
    have isn:=isnone (u:=u) h.1
    rw [decide_eq_true c] at isn
    generalize u+s*p2 (e+f)=W at *
    dsimp! [zc,z2j,List.replicate,List.set,kd,isn,lit_none]
  · refine .inr (.inl ⟨c,?_⟩)
    have isn:=isnone (u:=u) h.1
    rw [decide_eq_false (show ¬ eS e f<u by omega)] at isn
    rw [k,lit_end] at kd isn
    have a1:=tAdd (a:=[45]) (b:=endL) (by decide)
    have a0:=tAdd (a:=[]) (b:=endL) (by decide)
    generalize u+s*p2 (e+f)=W at *
    by_cases s1:s=1
    · dsimp! [zc,z2j,List.replicate,List.set,kd,isn,ct,s1,lit_m,lit_end,beq_self_eq_true,a1,decide_true,if_true]
    · dsimp! [zc,z2j,List.replicate,List.set,kd,isn,ct,s1,lit_n,lit_end,beq_self_eq_true,a0,decide_false,Bool.false_eq_true,if_false]
  · refine .inr (.inr ⟨c,?_⟩)
    obtain ⟨N,B,ed,eq,hN,hB,ho,h0,hp⟩:=z8h h c
    have pb:0<B→0<N:=fun q=>by have:=ho q;omega
    obtain ⟨a,t,ep,hP⟩:=z73 hN hB ho pb
    refine ⟨N,B,a,t,⟨hP,eq,hN,hB⟩,?_⟩
    have isn:=isnone (u:=u) h.1
    rw [decide_eq_false (show ¬ eS e f<u by omega)] at isn
    have ne:(Str.ofString (kindU e f u) == Str.ofString "endless")=false:=by
      rcases k with ⟨_,k⟩ | ⟨_,k | k⟩<;>rw [k]<;>decide +kernel
    have pl:(ptxt a t).length≤1161:=by
      have:=hP.al
      unfold ptxt
      rw [List.length_append]
      split
      · simp;omega
      · simp;omega
    generalize ptxt a t=L at *
    have a1:=tAdd (a:=[45]) (b:=L) (by simp;omega)
    have a0:=tAdd (a:=[]) (b:=L) (by simp;omega)
    generalize u+s*p2 (e+f)=W at *
    generalize kindU e f u=kk at *
    by_cases s1:s=1
    · dsimp! [zc,z2j,List.replicate,List.set,kd,isn,ct,s1,lit_m,ne,ed,ep,a1,decide_true,if_true]
    · dsimp! [zc,z2j,List.replicate,List.set,kd,isn,ct,s1,lit_n,ne,ed,ep,a0,decide_false,Bool.false_eq_true,if_false]
theorem way0:WayK 0 "even" 21:=.inl ⟨rfl,rfl,rfl⟩
theorem z8i {e f:Int}{w:Nat}{t:Int}{z:Str}{v:PV} (t0 : -2300≤t) (t1:t≤2300) (wb:nb w≤5000)
    (tk:zv [.tup [.int e,.int f],.int ((w:Int)*p10 t),.int 0,.int (p10 (-t)),.str z] = .ok v):z9 [.tup [.int e,.int f],.int (w:Int),.int t,.str z] = .ok v:=by
  by_cases tn:t<0
  · have te:=z8w (n:=-t) (by omega) (by omega)
    rw [p10_le0 (a:=t) (by omega),Int.mul_one] at tk
    generalize p10 (-t)=T at *
    dsimp! [z9,z23,tn,te,tk]
  · have te:=z8w (n:=t) (by omega) (by omega)
    have nt:=nb_p10 (n:=t) (m:=2300) (by omega)
    rw [p10_le0 (a:=-t) (by omega)] at tk
    have o1:okMul (w:Int) (p10 t):=okMul_of (m:=5000) (n:=10000) wb (by omega) (by decide)
    generalize p10 t=T at *
    dsimp! [z9,z23,tn,te,o1,tk]
structure Bd (w:Nat) (t:Int):Prop where
  w0:0<w
  t0 : -2300≤t
  t1:t≤2300
  wb:nb ((w:Int)*p10 t)≤5000
  wc:nb (w:Int)≤5000
  db:nb (p10 (-t))≤3900
structure DTR (e f:Int) (w:Nat) (t sz mk:Int):Prop where
  dt:z9 [.tup [.int e,.int f],.int (w:Int),.int t,.str "even"] = .ok (.tup [.int sz,.int mk])
  rd:∀ l b,l.length≤16000000→ptsT l=some (b,w,t)→q_read [.tup [.int e,.int f],.str (tx l),.str "even"] = .ok (.tup [.int (sz+sg b*p2 (e+f)),.int mk])
  vd:Verd e f 0 ((w:Int)*p10 t*p2 (-(lp e f))) (p10 (-t)) false sz mk
theorem gw0 (odd:Bool) (sd:Int) (b:Bool):gw 0 odd sd b=gw 0 odd sd false:=by unfold gw;simp
theorem tk0 {e f t q sd:Int} (b:Bool):∃ X mk,tkT e f 0 t q sd false = .tup [.int X,.int mk]∧∀ b,tkT e f 0 t q sd b = .tup [.int (X+sg b*p2 (e+f)),.int mk]:=by
  have g:∀ b,gr 0 q sd b=gr 0 q sd false:=fun b=>by unfold gr;rw [gw0]
  have z:∀ b,szT f 0 t q sd b=szT f 0 t q sd false:=fun b=>by unfold szT;rw [g]
  have s0:sg false*p2 (e+f)=0:=by unfold sg;simp
  by_cases c:szT f 0 t q sd false<eS e f
  · refine ⟨szT f 0 t q sd false,mkT f q sd,?_,fun b=>?_⟩
    · unfold tkT;rw [if_pos c,s0,Int.add_zero]
    · unfold tkT;rw [z b,if_pos c]
  · refine ⟨eS e f,20,?_,fun b=>?_⟩
    · unfold tkT;rw [if_neg c,s0,Int.add_zero];rfl
    · unfold tkT;rw [z b,if_neg c,gw0];rfl
theorem dtr_st {e f:Int}{w:Nat}{t T q a c:Int} (h:Wd e f) (hb:Bd w t) (st:Stands e f ((w:Int)*p10 t) 0 (p10 (-t)) T q a c):∃ sz mk,DTR e f w t sz mk∧tkT e f 0 T q (sideP a c) false = .tup [.int sz,.int mk]:=by
  obtain ⟨l1,l2,l3,l4⟩:=lp_bounds h
  have hd:=p10_pos (-t)
  have w0:=hb.w0
  have wb:=hb.wb
  have s0:0<(w:Int)*p10 t:=Int.mul_pos (by omega) (p10_pos t)
  have L:=st_lies (M:=(w:Int)*p10 t*p2 (-(lp e f))) (B:=p10 (-t)) st hd hd (by
    rw [show lp e f - 0=lp e f by omega,show 0 - lp e f = -(lp e f) by omega,p2_le0 (a:=lp e f) (by omega),Int.mul_one])
  obtain ⟨sz,mk,ek,V⟩:=verd (under:=false) h way0 st.t0 st.q0 st.q1 st.qt hd (side_of a c) L
  obtain ⟨X,mk',x1,x2⟩:=tk0 (e:=e) (f:=f) (t:=T) (q:=q) (sd:=sideP a c) false
  have s00:sg false*p2 (e+f)=0:=by unfold sg;simp
  have xx:X=sz∧mk'=mk:=by
    rw [x1,s00,Int.add_zero] at ek
    injection ek with ek
    injection ek with e1 e2
    injection e1 with e1
    injection e2 with e2
    injection e2 with e2
    exact ⟨e1,e2⟩
  obtain ⟨rfl,rfl⟩:=xx
  have tk:∀ b,zv [.tup [.int e,.int f],.int ((if b then -(w:Int) else w)*p10 t),.int 0,.int (p10 (-t)),.str "even"] = .ok (.tup [.int (X+sg b*p2 (e+f)),.int mk']):=fun b=>by
    cases b with
    | true =>
      have e1:(if true=true then -(w:Int) else w)*p10 t = -((w:Int)*p10 t):=by rw [if_pos rfl,Int.neg_mul]
      rw [e1,← x2 true]
      have tk:=take_st (n:=-((w:Int)*p10 t)) h way0 (by omega) hd (by rw [nb_neg];omega) hb.db (by rw [ab_neg',ab_of (by omega)];exact st)
      rw [decide_eq_true (by omega)] at tk
      exact tk
    | false =>
      have e1:(if false=true then -(w:Int) else w)*p10 t=(w:Int)*p10 t:=by rw [if_neg (by decide)]
      rw [e1,← x2 false]
      have tk:=take_st (n:=(w:Int)*p10 t) h way0 (by omega) hd (by omega) hb.db (by rw [ab_of (by omega)];exact st)
      rw [decide_eq_false (by omega)] at tk
      exact tk
  refine ⟨X,mk',⟨?_,fun l b hl hp=>?_,V⟩,x1⟩
  · have:=tk false
    rw [show (if false=true then -(w:Int) else w)=(w:Int) from if_neg (by decide),s00,Int.add_zero] at this
    exact z8i hb.t0 hb.t1 hb.wc this
  · exact read_num h hl hp w0 hb.t0 hb.t1 hb.wc (tk b)
theorem dtr {e f:Int}{w:Nat}{t:Int} (h:Wd e f) (hb:Bd w t):∃ sz mk,DTR e f w t sz mk:=by
  obtain ⟨T,q,a,c,st⟩:=stands (s:=(w:Int)*p10 t) (k:=0) (d:=p10 (-t)) h (Int.mul_pos (by have:=hb.w0;omega) (p10_pos t)) (p10_pos (-t)) hb.wb hb.db (by decide) (by decide)
  obtain ⟨sz,mk,d,_⟩:=dtr_st h hb st
  exact ⟨sz,mk,d⟩
theorem dtr_u {e f:Int}{w:Nat}{t sz mk sz' mk':Int} (a:DTR e f w t sz mk) (b:DTR e f w t sz' mk'):sz=sz':=by
  have:=a.dt.symm.trans b.dt
  injection this with e
  injection e with e
  injection e with e _
  injection e
theorem dtr_10 {e f:Int}{w:Nat}{t sz mk sz' mk':Int} (h:Wd e f) (h1:Bd w t) (h2:Bd (10*w) (t - 1)) (a:DTR e f w t sz mk) (b:DTR e f (10*w) (t - 1) sz' mk'):sz=sz':=by
  obtain ⟨T,q,x,c,st⟩:=stands (s:=(w:Int)*p10 t) (k:=0) (d:=p10 (-t)) h (Int.mul_pos (by have:=h1.w0;omega) (p10_pos t)) (p10_pos (-t)) h1.wb h1.db (by decide) (by decide)
  have st2:Stands e f (((10*w:Nat):Int)*p10 (t - 1)) 0 (p10 (-(t - 1))) T q x c:=by
    by_cases tn:t≤0
    · have e1:((10*w:Nat):Int)*p10 (t - 1)=10*((w:Int)*p10 t):=by
        rw [p10_le0 (a:=t - 1) (by omega),p10_le0 (a:=t) tn,Int.natCast_mul,Int.mul_one,Int.mul_one];rfl
      have e2:p10 (-(t - 1))=10*p10 (-t):=by
        rw [show -(t - 1)=1 + -t by omega,p10_add (by decide) (by omega)];rfl
      rw [e1,e2]
      refine ⟨st.t0,st.b0,st.a0,st.a1,st.q0,st.q1,st.qt,?_,st.tb⟩
      have eq:=st.eq
      generalize (w:Int)*p10 t=A at *
      generalize p10 (-t)=D at *
      calc 10*A*p2 (0 - (lp e f+T))*c=10*(A*p2 (0 - (lp e f+T))*c):=by simp only [Int.mul_assoc]
        _=10*((q*c+x)*(D*p2 (lp e f+T - 0))):=by rw [eq]
        _=(q*c+x)*(10*D*p2 (lp e f+T - 0)):=by simp only [Int.mul_assoc,Int.mul_left_comm]
    · have e1:((10*w:Nat):Int)*p10 (t - 1)=(w:Int)*p10 t:=by
        have:p10 t=10*p10 (t - 1):=by
          have:=p10_add (a:=1) (b:=t - 1) (by decide) (by omega)
          rw [show 1+(t - 1)=t by omega] at this
          rw [this];rfl
        rw [this,Int.natCast_mul,Int.mul_comm ((10:Nat):Int),Int.mul_assoc];rfl
      have e2:p10 (-(t - 1))=p10 (-t):=by rw [p10_le0 (by omega),p10_le0 (by omega)]
      rw [e1,e2]
      exact st
  obtain ⟨s1,m1,d1,k1⟩:=dtr_st h h1 st
  obtain ⟨s2,m2,d2,k2⟩:=dtr_st h h2 st2
  have e1:=dtr_u a d1
  have e2:=dtr_u b d2
  rw [k1] at k2
  injection k2 with k2
  injection k2 with k2 _
  injection k2 with k2
  rw [e1,e2,k2]
open Classical in
noncomputable def rz (e f:Int) (w:Nat) (t:Int):Int:=if h:∃ sz mk,DTR e f w t sz mk then h.choose else -1
theorem rz_is {e f:Int}{w:Nat}{t:Int} (h:Wd e f) (hb:Bd w t):∃ mk,DTR e f w t (rz e f w t) mk:=by
  have x:=dtr h hb
  unfold rz
  rw [dif_pos x]
  exact x.choose_spec
theorem rz_10 {e f:Int}{w:Nat}{t:Int} (h:Wd e f) (h1:Bd w t) (h2:Bd (10*w) (t - 1)):rz e f (10*w) (t - 1)=rz e f w t:=by
  obtain ⟨_,a⟩:=rz_is h h1
  obtain ⟨_,b⟩:=rz_is h h2
  exact (dtr_10 h h1 h2 a b).symm
theorem rz_ex {e f u:Int}{w:Nat}{t:Int} (h:Wd e f) (hb:Bd w t) (u0:0≤u) (u1:u<eS e f) (hM:stU f u*p10 (-t)=(w:Int)*p10 t*p2 (-(lp e f))):rz e f w t=u:=by
  obtain ⟨mk,a⟩:=rz_is h hb
  exact (verd_ex (p10_pos (-t)) a.vd u0 u1 hM).1
theorem rz_near {e f u:Int}{w:Nat}{t:Int} (h:Wd e f) (hb:Bd w t) (u0:0≤u) (u1:u<eS e f) (le:(w:Int)*p10 t*p2 (-(lp e f))≤stU f u*p10 (-t)) (lt:2*(stU f u*p10 (-t) - (w:Int)*p10 t*p2 (-(lp e f)))<p10 (-t)):rz e f w t=u:=by
  obtain ⟨mk,a⟩:=rz_is h hb
  have V:=a.vd
  have hB:=p10_pos (-t)
  generalize rz e f w t=sz at *
  generalize (w:Int)*p10 t*p2 (-(lp e f))=M at *
  generalize p10 (-t)=B at *
  have sl:∀ x y:Int,0≤x→x<y→stU f x*B+B≤stU f y*B:=fun x y hx hxy=>by
    have:=Int.mul_le_mul_of_nonneg_right (show stU f x+1≤stU f y by have:=stU_lt (f:=f) hx hxy;omega) (Int.le_of_lt hB)
    rw [Int.add_mul,Int.one_mul] at this
    exact this
  have sle:∀ x y:Int,0≤x→x≤y→stU f x*B≤stU f y*B:=fun x y hx hxy=>by
    by_cases c:x=y
    · rw [c];exact Int.le_refl _
    · have:=sl x y hx (by omega);omega
  have ad:∀ x y:Int,(x+y)*B=x*B+y*B:=fun x y=>Int.add_mul x y B
  have a1:=sle u (eS e f - 1) u0 (by omega)
  have a2:=sl (eS e f - 1) (eS e f) (by omega) (by omega)
  rcases V with ⟨x1,x2,x3⟩ | ⟨x1,x2,x3,x4⟩ | ⟨x1,x2,x3,x4,x5,x6,x7,x8,x9,x10⟩
  · exfalso
    rw [if_pos (.inl rfl)] at x3
    have:=of_decide_eq_true x3
    rw [ad] at this
    omega
  · exfalso;omega
  · obtain ⟨y1,y2⟩:=x8 rfl
    have z:0≤2*M - (hz f sz+stU f sz)*B∧0≤(stU f sz+stU f (sz+1))*B - 2*M:=by
      by_cases c:sz % 2=0
      · exact y1 c
      · have:=y2 c;omega
    rw [ad,ad] at z
    rcases Int.lt_trichotomy sz u with d | d | d
    · exfalso
      have b1:=sl sz u x1 d
      have b2:=sle (sz+1) u (by omega) (by omega)
      omega
    · exact d
    · exfalso
      have hz1:hz f sz=stU f (sz - 1):=if_neg (by omega)
      rw [hz1] at z
      have b1:=sle u (sz - 1) u0 (by omega)
      have b2:=sl u sz u0 d
      omega
structure Dec (e f u:Int) (N B D:Nat):Prop where
  wd:Wd e f
  u0:0<u
  u1:u<eS e f
  eq:(N:Int)*p2 (-(lp e f))=stU f u*p10 (B:Int)
  nl:N<10 ^ 1150
  bl:B≤1082
  n0:0<N
  d0:0<D
  lo:10 ^ (D - 1)≤N
  hi:N<10 ^ D
theorem pow1082:2 ^ 1083≤10 ^ 327:=by decide +kernel
section
variable {e f u:Int}{N B D:Nat}
theorem Dec.dl (h:Dec e f u N B D):D≤1150:=by
  apply Nat.le_of_not_lt
  intro q
  have:10 ^ 1150≤10 ^ (D - 1):=Nat.pow_le_pow_right (by decide) (by omega)
  have:=h.lo
  have:=h.nl
  omega
theorem Dec.plo (h:Dec e f u N B D):(B:Int) - 327≤(D:Int) - 1:=by
  obtain ⟨l1,l2,l3,l4⟩:=lp_bounds h.wd
  apply Decidable.byContradiction
  intro q
  have s1:1≤stU f u:=by have:=stU_lt (f:=f) (u:=0) (v:=u) (by decide) h.u0;rw [stU_lo (p2_pos f)] at this;omega
  have eq:=h.eq
  obtain ⟨L,hL⟩:=Int.eq_ofNat_of_zero_le (show 0≤-(lp e f) by omega)
  rw [hL,p2_nat,p10_nat] at eq
  have a:((10 ^ B:Nat):Int)≤stU f u*((10 ^ B:Nat):Int):=by
    have:=Int.mul_le_mul_of_nonneg_right s1 (Int.natCast_nonneg (10 ^ B))
    rw [Int.one_mul] at this
    exact this
  rw [← eq,← Int.natCast_mul] at a
  have a':10 ^ B≤N*2 ^ L:=by omega
  have b:N*2 ^ L<10 ^ D*2 ^ L:=Nat.mul_lt_mul_of_pos_right h.hi (Nat.pow_pos (by decide))
  have c:2 ^ L≤2 ^ 1083:=Nat.pow_le_pow_right (by decide) (by omega)
  have d:10 ^ D*2 ^ L≤10 ^ D*10 ^ 327:=Nat.mul_le_mul_left _ (Nat.le_trans c pow1082)
  rw [← Nat.pow_add] at d
  have:10 ^ (D+327)≤10 ^ B:=Nat.pow_le_pow_right (by decide) (by omega)
  omega
theorem Dec.phi (h:Dec e f u N B D):(D:Int) - 1≤(B:Int)+735:=by
  obtain ⟨l1,l2,l3,l4⟩:=lp_bounds h.wd
  apply Decidable.byContradiction
  intro q
  have nbS:=nb_st h.wd (u:=u) (by have:=h.u0;omega) (by have:=h.u1;omega)
  have s0:0≤stU f u:=stU_nn (by have:=h.u0;omega)
  obtain ⟨S,hS⟩:=Int.eq_ofNat_of_zero_le s0
  have sl:S<2 ^ 2200:=by
    have:=nb_nat (k:=2200) s0 nbS
    rw [hS] at this
    exact this
  have eq:=h.eq
  obtain ⟨L,hL⟩:=Int.eq_ofNat_of_zero_le (show 0≤-(lp e f) by omega)
  rw [hL,p2_nat,p10_nat,hS,← Int.natCast_mul,← Int.natCast_mul] at eq
  have eq':N*2 ^ L=S*10 ^ B:=by omega
  have a:N≤N*2 ^ L:=Nat.le_mul_of_pos_right _ (Nat.pow_pos (by decide))
  have b:S*10 ^ B<2 ^ 2200*10 ^ B:=Nat.mul_lt_mul_of_pos_right sl (Nat.pow_pos (by decide))
  have c:2 ^ 2200*10 ^ B≤10 ^ (2200 / 3+1)*10 ^ B:=Nat.mul_le_mul_right _ (two_ten 2200)
  rw [← Nat.pow_add] at c
  have d:10 ^ (2200 / 3+1+B)≤10 ^ (D - 1):=Nat.pow_le_pow_right (by decide) (by omega)
  have:=h.lo
  omega
def lo (N d:Nat):Nat:=N / 10 ^ d
theorem lo_pos (h:Dec e f u N B D) {d:Nat} (hd:d≤D - 1):0<lo N d:=by
  have:10 ^ d≤10 ^ (D - 1):=Nat.pow_le_pow_right (by decide) hd
  have:=h.lo
  exact Nat.div_pos (by omega) (Nat.pow_pos (by decide))
theorem lo_len (h:Dec e f u N B D) {d:Nat} (hd:d≤D - 1):10 ^ (D - d - 1)≤lo N d∧lo N d<10 ^ (D - d):=by
  unfold lo
  have p:0<10 ^ d:=Nat.pow_pos (by decide)
  constructor
  · rw [Nat.le_div_iff_mul_le p,← Nat.pow_add,show D - d - 1+d=D - 1 by omega]
    exact h.lo
  · rw [Nat.div_lt_iff_lt_mul p,← Nat.pow_add,show D - d+d=D by omega]
    exact h.hi
theorem bd_of (h:Dec e f u N B D) {d w:Nat} (hd:d≤D - 1) (w0:0<w) (hw:w≤lo N d+1):Bd w ((d:Int) - (B:Int)):=by
  have dl:=h.dl
  have bl:=h.bl
  have pd:10 ^ d≤N:=by
    have:10 ^ d≤10 ^ (D - 1):=Nat.pow_le_pow_right (by decide) hd
    have:=h.lo
    omega
  have wn:w*10 ^ d≤2*N:=by
    have a:lo N d*10 ^ d≤N:=Nat.div_mul_le_self _ _
    have b:w*10 ^ d≤(lo N d+1)*10 ^ d:=Nat.mul_le_mul_right _ hw
    rw [Nat.add_mul,Nat.one_mul] at b
    omega
  have p50:2*N<10 ^ 1151:=by
    rw [show (1151:Nat)=1150+1 from rfl,Nat.pow_succ]
    have:=h.nl
    omega
  have nn:∀ x:Nat,x<10 ^ 1151→nb (x:Int)≤5000:=fun x hx=>by
    have h1:nb (x:Int)≤nb ((10 ^ 1151:Nat):Int):=nb_mono (Int.natCast_nonneg _) (by omega)
    have h2:=nb_ten 1151
    omega
  have w1:w≤w*10 ^ d:=Nat.le_mul_of_pos_right _ (Nat.pow_pos (by decide))
  refine ⟨w0,by omega,by omega,?_,nn w (by omega),?_⟩
  · by_cases c:(d:Int)≤B
    · rw [p10_le0 (by omega),Int.mul_one];exact nn w (by omega)
    · obtain ⟨j,hj⟩:=Int.eq_ofNat_of_zero_le (show 0≤(d:Int) - (B:Int) by omega)
      rw [hj,p10_nat,← Int.natCast_mul]
      refine nn _ ?_
      have:10 ^ j≤10 ^ d:=Nat.pow_le_pow_right (by decide) (by omega)
      have:w*10 ^ j≤w*10 ^ d:=Nat.mul_le_mul_left _ this
      omega
  · have:=nb_p10 (n:=-((d:Int) - (B:Int))) (m:=1082) (by omega)
    omega
def Fail (e f u:Int) (N B d:Nat):Prop:=rz e f (lo N d) ((d:Int) - B)≠u∧rz e f (lo N d+1) ((d:Int) - B)≠u
noncomputable def pik (e f u:Int) (N B d:Nat):Nat :=
  if 2*(N % 10 ^ d)≤10 ^ d then (if rz e f (lo N d) ((d:Int) - B)=u then lo N d else lo N d+1) else (if rz e f (lo N d+1) ((d:Int) - B)=u then lo N d+1 else lo N d)
theorem fail_0 (h:Dec e f u N B D):¬ Fail e f u N B 0:=by
  rintro ⟨q,_⟩
  have l0:lo N 0=N:=by unfold lo;simp
  have b:=bd_of h (d:=0) (w:=N) (by omega) h.n0 (by rw [l0];omega)
  rw [l0] at q
  refine q (rz_ex h.wd b (by have:=h.u0;omega) h.u1 ?_)
  have z:((0:Nat):Int) - (B:Int) = -(B:Int):=by omega
  rw [z,p10_le0 (a:=-(B:Int)) (by omega),Int.mul_one,show - -(B:Int)=(B:Int) by omega]
  exact h.eq.symm
theorem near_d (h:Dec e f u N B D) {d:Nat} (hd:d≤D - 1) (hs:(d:Int) - B≤-327):¬ Fail e f u N B d:=by
  rintro ⟨q,_⟩
  obtain ⟨l1,l2,l3,l4⟩:=lp_bounds h.wd
  have b:=bd_of h hd (lo_pos h hd) (Nat.le_succ _)
  refine q (rz_near h.wd b (by have:=h.u0;omega) h.u1 ?_ ?_)
  all_goals
    rw [p10_le0 (a:=(d:Int) - B) (by omega),Int.mul_one,show -((d:Int) - (B:Int))=((B - d:Nat):Int) by omega]
  · have e1:=h.eq
    have pB:p10 (B:Int)=p10 ((B - d:Nat):Int)*p10 (d:Int):=by rw [← p10_add (by omega) (by omega)];congr 1;omega
    rw [pB,← Int.mul_assoc] at e1
    have a:(lo N d:Int)*p10 (d:Int)≤N:=by
      rw [p10_nat,← Int.natCast_mul]
      have:lo N d*10 ^ d≤N:=Nat.div_mul_le_self _ _
      omega
    have c:=Int.mul_le_mul_of_nonneg_right a (Int.le_of_lt (p2_pos (-(lp e f))))
    rw [e1,Int.mul_assoc,Int.mul_comm (p10 (d:Int)),← Int.mul_assoc] at c
    exact Int.le_of_mul_le_mul_right c (p10_pos _)
  · have e1:=h.eq
    have pB:p10 (B:Int)=p10 ((B - d:Nat):Int)*p10 (d:Int):=by rw [← p10_add (by omega) (by omega)];congr 1;omega
    rw [pB,← Int.mul_assoc] at e1
    have a:(N:Int)<((lo N d:Int)+1)*p10 (d:Int):=by
      rw [p10_nat]
      have:N<(lo N d+1)*10 ^ d:=by
        unfold lo
        rw [Nat.add_mul,Nat.one_mul]
        have dm:=Nat.div_add_mod N (10 ^ d)
        have ml:=Nat.mod_lt N (show 0<10 ^ d from Nat.pow_pos (by decide))
        rw [Nat.mul_comm (N / 10 ^ d)]
        generalize 10 ^ d*(N / 10 ^ d)=x at *
        generalize N % 10 ^ d=y at *
        generalize 10 ^ d=z at *
        omega
      have:=Int.ofNat_lt.mpr this
      rw [Int.natCast_mul] at this
      exact this
    have c:=Int.mul_lt_mul_of_pos_right a (p2_pos (-(lp e f)))
    have e3:((lo N d:Int)+1)*p10 (d:Int)*p2 (-(lp e f))=((lo N d:Int)+1)*p2 (-(lp e f))*p10 (d:Int):=by rw [Int.mul_assoc,Int.mul_comm (p10 (d:Int)),← Int.mul_assoc]
    rw [e1,e3] at c
    have c2:=Int.lt_of_mul_lt_mul_right c (Int.le_of_lt (p10_pos _))
    rw [Int.add_mul,Int.one_mul] at c2
    obtain ⟨L,hL⟩:=Int.eq_ofNat_of_zero_le (show 0≤-(lp e f) by omega)
    have g:2*p2 (-(lp e f))≤p10 ((B - d:Nat):Int):=by
      rw [hL,p2_nat,p10_nat]
      have x:2*2 ^ L≤2 ^ 1083:=by
        have:2*2 ^ L=2 ^ (L+1):=by rw [Nat.pow_succ];omega
        rw [this]
        exact Nat.pow_le_pow_right (by decide) (by omega)
      have y:10 ^ 327≤10 ^ (B - d):=Nat.pow_le_pow_right (by decide) (by omega)
      have:=pow1082
      omega
    generalize stU f u*p10 ((B - d:Nat):Int)=X at *
    generalize (lo N d:Int)*p2 (-(lp e f))=Y at *
    omega
theorem pik_u (h:¬ Fail e f u N B D):rz e f (pik e f u N B D) ((D:Int) - B)=u∧(pik e f u N B D=lo N D∨pik e f u N B D=lo N D+1):=by
  have h':rz e f (lo N D) ((D:Int) - B)=u∨rz e f (lo N D+1) ((D:Int) - B)=u:=by
    apply Decidable.byContradiction
    intro q
    exact h ⟨fun z=>q (.inl z),fun z=>q (.inr z)⟩
  unfold pik
  by_cases c:2*(N % 10 ^ D)≤10 ^ D
  · rw [if_pos c]
    by_cases a:rz e f (lo N D) ((D:Int) - B)=u
    · rw [if_pos a];exact ⟨a,.inl rfl⟩
    · rw [if_neg a];exact ⟨h'.resolve_left a,.inr rfl⟩
  · rw [if_neg c]
    by_cases a:rz e f (lo N D+1) ((D:Int) - B)=u
    · rw [if_pos a];exact ⟨a,.inr rfl⟩
    · rw [if_neg a];exact ⟨h'.resolve_right a,.inl rfl⟩
end
open PySem.Builtin PySem.Builtin.Str
section
variable {e f u:Int}{N B D:Nat}
open Classical in
noncomputable def wfV (e f u:Int) (N B d:Nat):PV:=if Fail e f u N B d then .non else .tup [.int (pik e f u N B d:Nat),.int ((d:Int) - B)]
theorem z8z (h:Dec e f u N B D) {d:Nat} (hd:d≤D - 1):zw [.tup [.int e,.int f],.int u,.tup [.int (N:Int),.int (-(B:Int))],.int (d:Int)] = .ok (wfV e f u N B d):=by
  have dl:=h.dl
  have te:=z8w (n:=(d:Int)) (by omega) (by omega)
  have nt:=nb_p10 (n:=(d:Int)) (m:=1150) (by omega)
  have od:okDiv (p10 (d:Int)):=okDiv_of (n:=5000) (p10_pos _) (by omega) (by decide)
  have lv:(N:Int) / p10 (d:Int)=((lo N d:Nat):Int):=by rw [p10_nat];unfold lo;omega
  have b1:=bd_of h hd (lo_pos h hd) (Nat.le_succ _)
  have b2:=bd_of h hd (Nat.succ_pos (lo N d)) (Nat.le_refl _)
  have om:okMul ((lo N d:Nat):Int) (p10 (d:Int)):=okMul_of (m:=5000) (n:=5000) b1.wc (by omega) (by decide)
  obtain ⟨m1,d1⟩:=rz_is h.wd b1
  obtain ⟨m2,d2⟩:=rz_is h.wd b2
  have e1:=d1.dt
  have e2:=d2.dt
  have lc:decide (2*((N:Int) - ((lo N d:Nat):Int)*p10 (d:Int))≤p10 (d:Int))=decide (2*(N % 10 ^ d)≤10 ^ d):=by
    apply decide_eq_decide.mpr
    rw [p10_nat,← Int.natCast_mul]
    have dm:=Nat.div_add_mod N (10 ^ d)
    have:lo N d*10 ^ d=10 ^ d*(N / 10 ^ d):=by unfold lo;rw [Nat.mul_comm]
    rw [this]
    omega
  have o2:okMul 2 ((N:Int) - ((lo N d:Nat):Int)*p10 (d:Int)):=okMul_l (by decide) (by decide)
  have tn : -(B:Int)+(d:Int)=(d:Int) - (B:Int):=by omega
  have l1:((lo N d:Nat):Int)+1=((lo N d+1:Nat):Int):=by omega
  have fin:wfV e f u N B d=if 2*(N % 10 ^ d)≤10 ^ d then (if rz e f (lo N d) ((d:Int) - B)=u then .tup [.int (lo N d:Nat),.int ((d:Int) - B)] else if rz e f (lo N d+1) ((d:Int) - B)=u then .tup [.int (lo N d+1:Nat),.int ((d:Int) - B)] else .non)
      else (if rz e f (lo N d+1) ((d:Int) - B)=u then .tup [.int (lo N d+1:Nat),.int ((d:Int) - B)] else if rz e f (lo N d) ((d:Int) - B)=u then .tup [.int (lo N d:Nat),.int ((d:Int) - B)] else .non):=by
    unfold wfV pik Fail
    by_cases c:2*(N % 10 ^ d)≤10 ^ d
    · by_cases a:rz e f (lo N d) ((d:Int) - B)=u
      · rw [if_neg (by rintro ⟨q,_⟩;exact q a),if_pos c,if_pos a,if_pos c,if_pos a]
      · by_cases b:rz e f (lo N d+1) ((d:Int) - B)=u
        · rw [if_neg (by rintro ⟨_,q⟩;exact q b),if_pos c,if_neg a,if_pos c,if_neg a,if_pos b]
        · rw [if_pos ⟨a,b⟩,if_pos c,if_neg a,if_neg b]
    · by_cases b:rz e f (lo N d+1) ((d:Int) - B)=u
      · rw [if_neg (by rintro ⟨_,q⟩;exact q b),if_neg c,if_pos b,if_neg c,if_pos b]
      · by_cases a:rz e f (lo N d) ((d:Int) - B)=u
        · rw [if_neg (by rintro ⟨q,_⟩;exact q a),if_neg c,if_neg b,if_neg c,if_neg b,if_pos a]
        · rw [if_pos ⟨a,b⟩,if_neg c,if_neg b,if_neg a]
  rw [fin]
  clear fin d1 d2 b1 b2
  generalize (d:Int) - (B:Int)=T at *
  generalize rz e f (lo N d) T=z1 at *
  generalize rz e f (lo N d+1) T=z2 at *
  generalize hl:((lo N d:Nat):Int)=L at *
  generalize ((lo N d+1:Nat):Int)=L1 at *
  generalize p10 (d:Int)=U at *
  by_cases c:2*(N % 10 ^ d)≤10 ^ d
  · rw [decide_eq_true c] at lc
    rw [if_pos c]
    by_cases a:z1=u
    · have a':decide (z1=u)=true:=decide_eq_true a
      rw [if_pos a]
      dsimp! [zw,z25,z26,List.replicate,List.set,te,od,lv,om,o2,lc,l1,tn,forL_cons,forL_nil,e1,a']
    · have a':decide (z1=u)=false:=decide_eq_false a
      rw [if_neg a]
      by_cases b:z2=u
      · have b':decide (z2=u)=true:=decide_eq_true b
        rw [if_pos b]
        dsimp! [zw,z25,z26,List.replicate,List.set,te,od,lv,om,o2,lc,l1,tn,forL_cons,forL_nil,e1,e2,a',b']
      · have b':decide (z2=u)=false:=decide_eq_false b
        rw [if_neg b]
        dsimp! [zw,z25,z26,List.replicate,List.set,te,od,lv,om,o2,lc,l1,tn,forL_cons,forL_nil,e1,e2,a',b']
  · rw [decide_eq_false c] at lc
    rw [if_neg c]
    by_cases b:z2=u
    · have b':decide (z2=u)=true:=decide_eq_true b
      rw [if_pos b]
      dsimp! [zw,z25,z26,List.replicate,List.set,te,od,lv,om,o2,lc,l1,tn,forL_cons,forL_nil,e2,b']
    · have b':decide (z2=u)=false:=decide_eq_false b
      rw [if_neg b]
      by_cases a:z1=u
      · have a':decide (z1=u)=true:=decide_eq_true a
        rw [if_pos a]
        dsimp! [zw,z25,z26,List.replicate,List.set,te,od,lv,om,o2,lc,l1,tn,forL_cons,forL_nil,e1,e2,a',b']
      · have a':decide (z1=u)=false:=decide_eq_false a
        rw [if_neg a]
        dsimp! [zw,z25,z26,List.replicate,List.set,te,od,lv,om,o2,lc,l1,tn,forL_cons,forL_nil,e1,e2,a',b']
structure Ends (e f u:Int) (N B D d:Nat):Prop where
  le:d≤D - 1
  ok:¬ Fail e f u N B d
  no:∀ x,d<x→x≤D - 1→Fail e f u N B x
theorem few_loop (h:Dec e f u N B D):∀ (d fuel:Nat),d≤D - 1→d+1<fuel→(∀ x,d<x→x≤D - 1→Fail e f u N B x)→∃ d' v,whileN (tVal (fUn cIsN (fVar 4))) z14 fuel [some (.tup [.int e,.int f]),some (.int u),some (.tup [.int (N:Int),.int (-(B:Int))]),some (.int (d:Int)),some .non] =
    .next [some (.tup [.int e,.int f]),some (.int u),some (.tup [.int (N:Int),.int (-(B:Int))]),v,some (.tup [.int (pik e f u N B d':Nat),.int ((d':Int) - B)])]∧Ends e f u N B D d':=by
  intro d
  induction d with
  | zero =>
    intro fuel hd hf hx
    obtain ⟨g,rfl⟩:∃ g,fuel=g+2:=⟨fuel - 2,by omega⟩
    have w:=z8z h hd
    have f0:=fail_0 h
    have wv:wfV e f u N B 0 = .tup [.int (pik e f u N B 0:Nat),.int (((0:Nat):Int) - B)]:=by unfold wfV;rw [if_neg f0]
    rw [wv] at w
    refine ⟨0,some (.int (((0:Nat):Int) - 1)),?_,hd,f0,hx⟩
    have c1:tVal (fUn cIsN (fVar 4)) [some (.tup [.int e,.int f]),some (.int u),some (.tup [.int (N:Int),.int (-(B:Int))]),some (.int ((0:Nat):Int)),some .non] = .ok true:=rfl
    have b1:z14 [some (.tup [.int e,.int f]),some (.int u),some (.tup [.int (N:Int),.int (-(B:Int))]),some (.int ((0:Nat):Int)),some .non] = .next [some (.tup [.int e,.int f]),some (.int u),some (.tup [.int (N:Int),.int (-(B:Int))]),some (.int (((0:Nat):Int) - 1)),some (.tup [.int (pik e f u N B 0:Nat),.int (((0:Nat):Int) - B)])]:=by
      dsimp! [z14,List.set,w]
    rw [whileN_s,c1,b1]
    rfl
  | succ d ih =>
    intro fuel hd hf hx
    obtain ⟨g,rfl⟩:∃ g,fuel=g+2:=⟨fuel - 2,by omega⟩
    have w:=z8z h hd
    have c1:tVal (fUn cIsN (fVar 4)) [some (.tup [.int e,.int f]),some (.int u),some (.tup [.int (N:Int),.int (-(B:Int))]),some (.int ((d+1:Nat):Int)),some .non] = .ok true:=rfl
    by_cases fl:Fail e f u N B (d+1)
    · have wv:wfV e f u N B (d+1) = .non:=by unfold wfV;rw [if_pos fl]
      rw [wv] at w
      have b1:z14 [some (.tup [.int e,.int f]),some (.int u),some (.tup [.int (N:Int),.int (-(B:Int))]),some (.int ((d+1:Nat):Int)),some .non] = .next [some (.tup [.int e,.int f]),some (.int u),some (.tup [.int (N:Int),.int (-(B:Int))]),some (.int (d:Int)),some .non]:=by
        have m:((d+1:Nat):Int) - 1=(d:Int):=by omega
        dsimp! [z14,List.set,w,m]
      obtain ⟨d',v,e1,en⟩:=ih (g+1) (by omega) (by omega) (fun x hx1 hx2=>by
        by_cases q:x=d+1
        · rw [q];exact fl
        · exact hx x (by omega) hx2)
      refine ⟨d',v,?_,en⟩
      rw [whileN_s,c1,b1]
      exact e1
    · have wv:wfV e f u N B (d+1) = .tup [.int (pik e f u N B (d+1):Nat),.int (((d+1:Nat):Int) - B)]:=by unfold wfV;rw [if_neg fl]
      rw [wv] at w
      have b1:z14 [some (.tup [.int e,.int f]),some (.int u),some (.tup [.int (N:Int),.int (-(B:Int))]),some (.int ((d+1:Nat):Int)),some .non] = .next [some (.tup [.int e,.int f]),some (.int u),some (.tup [.int (N:Int),.int (-(B:Int))]),some (.int (((d+1:Nat):Int) - 1)),some (.tup [.int (pik e f u N B (d+1):Nat),.int (((d+1:Nat):Int) - B)])]:=by
        dsimp! [z14,List.set,w]
      refine ⟨d+1,some (.int (((d+1:Nat):Int) - 1)),?_,hd,fl,hx⟩
      rw [whileN_s,c1,b1]
      rfl
theorem z8m {s:Int} (h:Wu e f s u) (u0:0<u) (u1:u<eS e f):∃ N B D d,Dec e f u N B D∧Ends e f u N B D d∧z2s [.tup [.int e,.int f],.int u] = .ok (.tup [.int (pik e f u N B d:Nat),.int ((d:Int) - B)]):=by
  have hw0:Wu e f 0 u:=⟨h.1,.inl rfl,h.2.2.1,h.2.2.2⟩
  obtain ⟨N,B,ed,eq,hN,hB,ho,h0,hp⟩:=z8h hw0 u1
  rw [Int.zero_mul,Int.add_zero] at ed
  have n0:=hp u0
  have dl:=dg_len_le (n:=N) (k:=1150) (by decide) hN
  have dp:0<(dg N).length:=List.length_pos_iff.mpr (dg_ne N)
  have hD:Dec e f u N B (dg N).length:=⟨h.1,u0,u1,eq,hN,hB,n0,dp,dg_ge n0,dg_lt N⟩
  have sN:=tStrL (a:=(N:Int)) (k:=1150) hN (by decide)
  rw [dgI_pos (Int.natCast_nonneg N),Int.natAbs_natCast] at sN
  have ln:=tLen (a:=dg N) (by omega)
  obtain ⟨d,v,el,en⟩:=few_loop hD ((dg N).length - 1) turnsMax (Nat.le_refl _) (Nat.lt_of_le_of_lt (show (dg N).length - 1+1≤1150 by omega) (by decide)) (fun x h1 h2=>by omega)
  refine ⟨N,B,(dg N).length,d,hD,en,?_⟩
  have l1:((dg N).length:Int) - 1=(((dg N).length - 1:Nat):Int):=by omega
  have el':sWhile (tVal (fUn cIsN (fVar 4))) z14 [some (.tup [.int e,.int f]),some (.int u),some (.tup [.int (N:Int),.int (-(B:Int))]),some (.int (((dg N).length - 1:Nat):Int)),some .non]=_:=el
  generalize ((pik e f u N B d:Nat):Int)=P at *
  dsimp! [z2s,z5p,List.replicate,List.set,ed,sN,ln,l1,el']
end
theorem dg_len_eq {w k:Nat} (hk:0<k) (h0:10 ^ (k - 1)≤w) (h1:w<10 ^ k):(dg w).length=k:=by
  have a:=dg_len_le hk h1
  have b:=dg_lt w
  apply Nat.le_antisymm a
  apply Nat.le_of_not_lt
  intro q
  have:10 ^ (dg w).length≤10 ^ (k - 1):=Nat.pow_le_pow_right (by decide) (by omega)
  omega
theorem dg_last {w:Nat} (h:w % 10≠0):(dg w).getLast?≠some 48:=by
  intro q
  have hn:=dg_ne w
  have e:=List.dropLast_concat_getLast hn
  have g:(dg w).getLast hn=48:=by rw [List.getLast?_eq_some_getLast hn] at q;injection q
  have v:=dg_val w
  rw [g] at e
  rw [← e,dv_snoc] at v
  omega
theorem tRstrip {l:List Nat} (hl:l.length≤16000000) (h:l.getLast?≠some 48):bRstrip [.str (tx l),.str (tx [48])] = .ok (.str (tx l)):=by
  have s:Txt.rstripChars (tx l) (tx [48])=tx l:=by
    unfold Txt.rstripChars Txt.stripBy
    have ss:stripSame (tx [48]).cps.contains false true (tx l)=true:=by
      unfold stripSame stripLo stripHi
      simp only [Bool.false_eq_true,if_false,if_true]
      rw [tx_l,List.drop_zero,tx_len]
      have:l.reverse.takeWhile (tx [48]).cps.contains=[]:=by
        cases q:l.reverse with
        | nil=>rfl
        | cons c r =>
          have lc:l.getLast?=some c:=by
            have:l=(c::r).reverse:=by rw [← q,List.reverse_reverse]
            rw [this];simp
          rw [List.takeWhile_cons,if_neg]
          intro z
          have:c=48:=by simpa [tx] using z
          rw [this] at lc
          exact h lc
      rw [this]
      simp
    rw [if_pos ss]
  show (if _ then _ else _)=_
  rw [tx_len,if_pos (line_of hl),s]
theorem rs10:bRstrip [.str (tx [49,48]),.str (tx [48])] = .ok (.str (tx [49])):=by
  have s:Txt.rstripChars (tx [49,48]) (tx [48])=tx [49]:=by decide +kernel
  show (if (tx [49,48]).length≤sizeLine then R.ok (PV.str (Txt.rstripChars (tx [49,48]) (tx [48]))) else .stuck)=_
  rw [if_pos (by rw [tx_len];exact line_of (by decide)),s]
def etx (l:List Nat) (pw:Int):List Nat:=ptxt (l.take 1) (l.drop 1) ++ 101::dgI pw
theorem wFmt_e (g:FE) (x0:Option PV) (ρ0:MEnv):wFmt g (x0::ρ0)=match g (x0::ρ0) with | .ok p=>txtP p | _=>none:=rfl
theorem wStr_e (x:Str) (x0:Option PV) (ρ0:MEnv):wStr x (x0::ρ0)=some x:=rfl
theorem wNil_e (x0:Option PV) (ρ0:MEnv):wNil (x0::ρ0)=some (tx []):=rfl
theorem wCons_e (f g:FW) (x0:Option PV) (ρ0:MEnv):wCons f g (x0::ρ0)=(f (x0::ρ0)).bind fun x=>(g (x0::ρ0)).bind fun y=>some (x ++ y):=rfl
theorem fJoined_e (f:FW) (x0:Option PV) (ρ0:MEnv):fJoined f (x0::ρ0)=match f (x0::ρ0) with | some y=>if y.length≤1000000 then .ok (.str y) else .stuck | none=>.stuck:=rfl
theorem txt_s {l:List Nat} (h:l.length≤1000000):txtP (.str (tx l))=some (tx l):=by
  show (if (tx l).length≤1000000 then some (tx l) else none)=_
  rw [tx_len,if_pos h]
theorem txt_i {i:Int} (h0 : -1000<i) (h1:i<1000):txtP (.int i)=some (tx (dgI i)):=by
  show (if i.natAbs<18446744073709551616 then some (Str.ofString (toString i)) else none)=_
  rw [if_pos (by omega),str_int]
theorem z8t {w:Nat}{T pw:Int}{l:List Nat} (hw:w<10 ^ 1200) (hl:l≠[]) (ll:l.length≤1200) (rs:bRstrip [.str (tx (dg w)),.str (tx [48])] = .ok (.str (tx l))) (hp:T+(dg w).length - 1=pw) (p0 : -1000<pw) (p1:pw<1000) :
    z20 [.tup [.int (w:Int),.int T]] = .ok (.str (tx (etx l pw))):=by
  have sN:=tStrL (a:=(w:Int)) (k:=1200) hw (by decide)
  rw [dgI_pos (Int.natCast_nonneg w),Int.natAbs_natCast] at sN
  have dl:=dg_len_le (n:=w) (k:=1200) (by decide) hw
  have ln:=tLen (a:=dg w) (by omega)
  have dp:=dgI_len p0 p1
  have ti:=txt_i p0 p1
  cases l with
  | nil=>exact absurd rfl hl
  | cons c r =>
    have rl:r.length≤1200:=by simp at ll;omega
    have it:=tItem (z:=c::r) (i:=0) (c:=c) (by omega) (by decide) rfl
    have dr:=tDrop (z:=c::r) (k:=1) (by omega) (by decide)
    rw [show (1:Int).toNat=1 from rfl,show List.drop 1 (c::r)=r from rfl] at dr
    have tr:=tTruth (a:=r) (by omega)
    have t1:=txt_s (l:=[c]) (by simp)
    have t2:=txt_s (l:=r) (by omega)
    have en:etx (c::r) pw=[c] ++ (if r=[] then [] else 46::r) ++ 101::dgI pw:=rfl
    rw [en]
    generalize dg w=dw at *
    generalize dgI pw=K at *
    by_cases hr:r=[]
    · have tr':truthP (.str (tx r)) = .ok false:=by rw [tr,hr];rfl
      rw [if_pos hr,List.append_nil]
      have jl:(tx ([c] ++ 101::K)).length≤1000000:=by rw [tx_len];simp;omega
      have eq2:[c] ++ ([101] ++ (K ++ []))=[c] ++ 101::K:=by simp
      dsimp! [z20,z4r,List.replicate,List.set,sN,ln,hp,fSt_e,strK_ok,lit_0,rs,it,dr,tr',fJoined_e,wCons_e,wFmt_e,wStr_e,wNil_e,t1,ti,lit_e,Option.bind_some,tx_app,jl,eq2]
    · have tr':truthP (.str (tx r)) = .ok true:=by rw [tr,decide_eq_false hr];rfl
      rw [if_neg hr]
      have jl:(tx ([c] ++ 46::r ++ 101::K)).length≤1000000:=by rw [tx_len];simp;omega
      have eq2:[c] ++ ([46] ++ (r ++ ([101] ++ (K ++ []))))=[c] ++ 46::r ++ 101::K:=by simp
      dsimp! [z20,z4r,List.replicate,List.set,sN,ln,hp,fSt_e,strK_ok,lit_0,rs,it,dr,tr',fJoined_e,wCons_e,wFmt_e,wStr_e,wNil_e,t1,t2,ti,lit_e,lit_p,Option.bind_some,tx_app,jl,eq2]
section
variable {e f u:Int}{N B D d:Nat}
theorem lo_next (N d:Nat):lo N (d+1)=lo N d / 10:=by
  unfold lo
  rw [Nat.pow_succ,Nat.div_div_eq_div_mul]
theorem Ends.ten (h:Dec e f u N B D) (n:Ends e f u N B D d) : -327≤(d:Int) - B:=by
  apply Decidable.byContradiction
  intro q
  by_cases c:d+1≤D - 1
  · exact near_d h c (by omega) (n.no (d+1) (by omega) c)
  · have:=h.plo
    have:=n.le
    have:=h.d0
    omega
theorem Ends.tail (h:Dec e f u N B D) (n:Ends e f u N B D d):pik e f u N B d % 10≠0∨(d=D - 1∧pik e f u N B d=10):=by
  obtain ⟨pu,pc⟩:=pik_u n.ok
  by_cases c:pik e f u N B d % 10=0
  · right
    have ll:=lo_len h n.le
    by_cases q:d=D - 1
    · refine ⟨q,?_⟩
      have:D - d=1:=by have:=h.d0;omega
      rw [this] at ll
      simp at ll
      rcases pc with z | z<;>rw [z] at c ⊢<;>omega
    · exfalso
      have hd':d+1≤D - 1:=by have:=n.le;omega
      obtain ⟨f1,f2⟩:=n.no (d+1) (by omega) hd'
      have t1:((d+1:Nat):Int) - B - 1=(d:Int) - B:=by omega
      have b1:=bd_of h hd' (lo_pos h hd') (Nat.le_succ _)
      have b2:=bd_of h hd' (Nat.succ_pos (lo N (d+1))) (Nat.le_refl _)
      rcases pc with z | z
      · have e1:10*lo N (d+1)=lo N d:=by rw [lo_next];rw [z] at c;omega
        have b3:=bd_of h n.le (lo_pos h n.le) (Nat.le_succ _)
        have r:=rz_10 h.wd b1 (by rw [e1,t1];exact b3)
        rw [e1,t1] at r
        rw [z] at pu
        exact f1 (r.symm.trans pu)
      · have e1:10*(lo N (d+1)+1)=lo N d+1:=by rw [lo_next];rw [z] at c;omega
        have b3:=bd_of h n.le (Nat.succ_pos (lo N d)) (Nat.le_refl _)
        have r:=rz_10 h.wd b2 (by rw [e1,t1];exact b3)
        rw [e1,t1] at r
        rw [z] at pu
        exact f2 (r.symm.trans pu)
  · exact .inl c
structure Told (e f u:Int) (N B D d W cnt:Nat) (pw:Int):Prop where
  w0:0<W
  wt:W % 10≠0
  wl:(dg W).length=cnt
  wn:W<10 ^ 1200
  bd:Bd W (pw - cnt+1)
  rd:rz e f W (pw - cnt+1)=u
  p0 : -1000<pw
  p1:pw<1000
  sh:(pw=(D:Int) - 1 - B∧cnt=D - d∧W=pik e f u N B d)∨(pw=(D:Int) - B∧cnt=1∧W=1∧d=D - 1∧pik e f u N B d=10)
theorem told_of (h:Dec e f u N B D) (n:Ends e f u N B D d):∃ W cnt pw,Told e f u N B D d W cnt pw∧z20 [.tup [.int (pik e f u N B d:Nat),.int ((d:Int) - B)]] = .ok (.str (tx (etx (dg W) pw))):=by
  have tn:=n.ten h
  have ph:=h.phi
  have pl:=h.plo
  have dl:=h.dl
  have bl:=h.bl
  have d0:=h.d0
  have nle:=n.le
  obtain ⟨pu,pc⟩:=pik_u n.ok
  have ll:=lo_len h n.le
  rcases n.tail h with c | ⟨c1,c2⟩
  · have w0:0<pik e f u N B d:=by rcases pc with z | z<;>rw [z]<;>have:=lo_pos h n.le<;>omega
    have wb:=bd_of h n.le w0 (by rcases pc with z | z<;>rw [z]<;>omega)
    have wlo:10 ^ (D - d - 1)≤pik e f u N B d:=by rcases pc with z | z<;>rw [z]<;>omega
    have whi:pik e f u N B d<10 ^ (D - d):=by
      rcases pc with z | z
      · rw [z];exact ll.2
      · apply Nat.lt_of_le_of_ne (by rw [z];exact ll.2)
        intro q
        rw [q] at c
        obtain ⟨k,hk⟩:∃ k,D - d=k+1:=⟨D - d - 1,by omega⟩
        rw [hk,Nat.pow_succ] at c
        omega
    have wl:=dg_len_eq (by omega) wlo whi
    have wn:pik e f u N B d<10 ^ 1200:=Nat.lt_of_lt_of_le whi (Nat.pow_le_pow_right (by decide) (by omega))
    have et:(D:Int) - 1 - B - ((D - d:Nat):Int)+1=(d:Int) - B:=by omega
    refine ⟨pik e f u N B d,D - d,(D:Int) - 1 - B,⟨w0,c,wl,wn,by rw [et];exact wb,by rw [et];exact pu,by omega,by omega,.inl ⟨rfl,rfl,rfl⟩⟩,?_⟩
    exact z8t wn (dg_ne _) (by omega) (tRstrip (by omega) (dg_last c)) (by rw [wl];omega) (by omega) (by omega)
  · have dg10:dg 10=[49,48]:=by rw [dg_l (by decide),dg_s (by decide)];rfl
    have dg1:dg 1=[49]:=dg_s (by decide)
    have b10:=bd_of h n.le (w:=10) (by decide) (by rcases pc with z | z<;>omega)
    have et:(D:Int) - B - ((1:Nat):Int)+1=(D:Int) - B:=by omega
    have b1:Bd 1 ((D:Int) - B):=by
      have a1:=nb_p10 (n:=(D:Int) - B) (m:=737) (by omega)
      have a2:=nb_p10 (n:=-((D:Int) - B)) (m:=327) (by omega)
      refine ⟨by decide,by omega,by omega,?_,by decide,by omega⟩
      rw [show ((1:Nat):Int)=1 from rfl,Int.one_mul];omega
    have t1:(D:Int) - B - 1=(d:Int) - B:=by omega
    have r:=rz_10 (w:=1) h.wd b1 (by rw [t1];exact b10)
    rw [t1] at r
    rw [c2] at pu
    refine ⟨1,1,(D:Int) - B,⟨by decide,by decide,by rw [dg1];rfl,Nat.one_lt_pow (by decide) (by decide),by rw [et];exact b1,by rw [et];exact r.symm.trans pu,by omega,by omega,.inr ⟨rfl,rfl,rfl,c1,c2⟩⟩,?_⟩
    rw [c2,dg1]
    exact z8t (Nat.lt_of_lt_of_le (show 10<10 ^ 2 by decide) (Nat.pow_le_pow_right (by decide) (by decide))) (by simp) (by decide) (by rw [dg10];exact rs10) (by rw [dg10];show (d:Int) - B+2 - 1=_;omega) (by omega) (by omega)
end
end Cm
namespace Mi
theorem ln1 {P:List PySem.Value→Prop} (h:∀ a,P [a]):∀ us:List PySem.Value,us.length=1→P us
  | [a],_=>h a
theorem ln2 {P:List PySem.Value→Prop} (h:∀ a b,P [a,b]):∀ us:List PySem.Value,us.length=2→P us
  | [a,b],_=>h a b
theorem lm2 {P:List PySem.Value→Prop} (h:∀ a b,P [a,b]) (us:List PySem.Value) (e:us.length+1=3):P us:=ln2 h us (Nat.succ.inj e)
theorem ln3 {P:List PySem.Value→Prop} (h:∀ a b c,P [a,b,c]):∀ us:List PySem.Value,us.length=3→P us
  | [a,b,c],_=>h a b c
theorem ln4 {P:List PySem.Value→Prop} (h:∀ a b c d,P [a,b,c,d]):∀ us:List PySem.Value,us.length=4→P us
  | [a,b,c,d],_=>h a b c d
theorem lm4 {P:List PySem.Value→Prop} (h:∀ a b c d,P [a,b,c,d]) (us:List PySem.Value) (e:us.length+1=5):P us:=ln4 h us (Nat.succ.inj e)
theorem ln5 {P:List PySem.Value→Prop} (h:∀ a b c d e,P [a,b,c,d,e]):∀ us:List PySem.Value,us.length=5→P us
  | [a,b,c,d,e],_=>h a b c d e
end Mi
namespace K76
open PySem Mi Cm PySem.NumText
theorem tIntN {l:List Nat} (h:AllDigits l) (h1:l≠[]) (h2:l.length≤4000):bIntL [.str (tx (45::l))] = .ok (.int (-(digitsVal l:Int))):=by
  have e:=intText_neg (x:=tx (45::l)) (cs:=l) (by rw [tx_l]) h h1 (by rw [tx_len];simp;omega)
  show (if (tx (45::l)).length≤sizeLine then _ else _)=_
  rw [if_pos (by rw [tx_len];exact line_of (by simp;omega)),e]
theorem int_dgI {K:Int} (h0 : -1000<K) (h1:K<1000):bIntL [.str (tx (dgI K))] = .ok (.int K):=by
  have d:=dg_fig K.natAbs
  have n:=dg_ne K.natAbs
  have ln:=dg_len_le (n:=K.natAbs) (k:=3) (by decide) (by omega)
  have v:=dg_val K.natAbs
  by_cases c:K<0
  · rw [dgI_neg c,tIntN d n (by omega),v]
    congr 2;omega
  · rw [dgI_pos (by omega),tInt d n (by omega),v]
    congr 2;omega
theorem af_loop {z:PV}:∀ (l:List Nat) (v:Option PV),AllDigits l→∃ v',forL 1 z32 (l.map fun c=>PV.str (tx [c])) [some z,v] = .next [some z,v']
  | [],v,_=>⟨v,rfl⟩
  | c::r,v,h=>by
    obtain ⟨v',e⟩:=af_loop r (some (.str (tx [c]))) h.tail
    refine ⟨v',?_⟩
    have fi:=figs_notIn c
    rw [decide_eq_true h.head] at fi
    have b:z32 [some z,some (.str (tx [c]))] = .next [some z,some (.str (tx [c]))]:=by
      dsimp! [z32,fi]
    show (match z32 [some z,some (.str (tx [c]))] with | .next ρ=>_ | .cont ρ=>_ | .brk ρ=>_ | o=>o)=_
    rw [b]
    exact e
theorem z8b {l:List Nat} (h:AllDigits l) (h1:l≠[]) (hl:l.length≤10000) (h2:l=[48]∨l.head?≠some 48):z1q [.str (tx l)] = .ok (.bl true):=by
  obtain ⟨v,e⟩:=af_loop (z:=.str (tx l)) l none h
  have e2:iStr (fVar 0) [some (.str (tx l)),none] = .ok (l.map fun c=>PV.str (tx [c])):=by
    show R.ok ((tx l).cps.toList.map fun c=>PV.str (tx [c]))=_
    rw [tx_l]
  have tk:=tTake (z:=l) (k:=1) (by omega) (by decide)
  rw [show (1:Int).toNat=1 from rfl] at tk
  generalize l.map (fun c=>PV.str (tx [c]))=L at *
  by_cases c:l=[48]
  · dsimp! [z1q,z4f,List.replicate,List.set,e2,e,lit_n,lit_0,tx_beq,h1,decide_eq_true c]
  · have t1:decide (l.take 1=[48])=false:=decide_eq_false fun q=>by
      cases l with
      | nil=>exact h1 rfl
      | cons x r =>
        have:x=48:=by simpa using q
        rcases h2 with z | z
        · exact c z
        · exact z (by rw [this];rfl)
    dsimp! [z1q,z4f,List.replicate,List.set,e2,e,lit_n,lit_0,tx_beq,h1,decide_eq_false c,tk,t1]
theorem lit_19:Str.ofString "123456789"=tx [49,50,51,52,53,54,55,56,57]:=by decide +kernel
theorem lit_1:Str.ofString "1"=tx [49]:=by decide +kernel
theorem lit_m0:Str.ofString "-0"=tx [45,48]:=by decide +kernel
theorem last1 {t:List Nat} (h:t≠[]):∃ c,t.drop (t.length - 1)=[c]∧t.getLast?=some c:=by
  have e:=List.dropLast_concat_getLast h
  refine ⟨t.getLast h,?_,List.getLast?_eq_some_getLast h⟩
  generalize t.getLast h=c at *
  generalize t.dropLast=r at *
  subst e
  simp
theorem z8s {W:Nat}{pw:Int} (w0:0<W) (wt:W % 10≠0) (wl:(dg W).length≤1200) (p0 : -1000<pw) (p1:pw<1000):zq [.str (tx (etx (dg W) pw))] = .ok (.tup [.int (W:Int),.int pw,.int ((dg W).length:Int)]):=by
  have dd:=dg_fig W
  have dn:=dg_ne W
  have dh:=dg_head w0
  have dl:=dg_last wt
  have dv:=dg_val W
  have kl:=dgI_len p0 p1
  have ki:=int_dgI p0 p1
  generalize dg W=l at *
  cases l with
  | nil=>exact absurd rfl dn
  | cons c r =>
    have c19:c∈[49,50,51,52,53,54,55,56,57]:=by
      have:=dd.head
      have:c≠48:=by simpa using dh
      simp
      omega
    have rl:r.length≤1199:=by simp at wl;omega
    have fr:AllDigits r:=dd.tail
    have pf:∃ g,(if decide ((dgI pw).take 1=[45])=true then (dgI pw).drop 1 else dgI pw)=g∧AllDigits g∧g≠[]∧g.length≤3∧(g=[48]∨g.head?≠some 48)∧¬ dgI pw=[45,48]:=by
      have d:=dg_fig pw.natAbs
      have n:=dg_ne pw.natAbs
      have ln:=dg_len_le (n:=pw.natAbs) (k:=3) (by decide) (by omega)
      by_cases q:pw<0
      · have h0:=dg_head (n:=pw.natAbs) (by omega)
        rw [dgI_neg q]
        refine ⟨dg pw.natAbs,rfl,d,n,ln,.inr h0,fun z=>?_⟩
        have:dg pw.natAbs=[48]:=by simpa using z
        rw [this] at h0
        exact h0 rfl
      · rw [dgI_pos (by omega)]
        have t1:¬ (dg pw.natAbs).take 1=[45]:=fun z=>by
          cases e:dg pw.natAbs with
          | nil=>exact n e
          | cons x y =>
            rw [e] at z d
            have:x=45:=by simpa using z
            have:=d.head
            omega
        refine ⟨dg pw.natAbs,by rw [decide_eq_false t1];rfl,d,n,ln,?_,fun z=>?_⟩
        · by_cases p:pw.natAbs=0
          · left;rw [p];exact dg_s (by decide)
          · exact .inr (dg_head (by omega))
        · rw [z] at d
          have:=d.head
          omega
    obtain ⟨g,eg,dg',ng,lg,hg,n0⟩:=pf
    have p101:pt 101 (etx (c::r) pw)=(ptxt [c] r,[101],dgI pw):=by
      refine pt_at ?_
      intro q
      unfold ptxt at q
      rcases List.mem_append.mp q with q | q
      · exact ad_not_mem (l:=[c]) (by intro x hx;simp at hx;rw [hx];exact dd.head) (by omega) q
      · split at q
        · simp at q
        · rcases List.mem_cons.mp q with q | q
          · omega
          · exact ad_not_mem (l:=r) fr (by omega) q
    have p46:pt 46 (ptxt [c] r)=([c],(if r=[] then [] else [46]),r):=by
      have nc:46 ∉ [c]:=by have:=dd.head;simp;omega
      unfold ptxt
      by_cases q:r=[]
      · subst q
        simp only [if_true,List.append_nil]
        exact pt_no nc
      · rw [if_neg q,if_neg q]
        exact pt_at nc
    have pl:(ptxt [c] r).length≤1201:=by
      have l2:(if r=[] then [] else 46::r).length≤r.length+1:=by split<;>simp
      unfold ptxt
      rw [List.length_append];simp;omega
    have el:(etx (c::r) pw).length≤1300:=by
      show (ptxt [c] r ++ 101::dgI pw).length≤1300
      rw [List.length_append];simp;omega
    have pa:=tPart (l:=etx (c::r) pw) (c:=101) (by omega)
    have pb:=tPart (l:=ptxt [c] r) (c:=46) (by omega)
    rw [p101] at pa
    rw [p46] at pb
    simp only at pa pb
    have tk:=tTake (z:=dgI pw) (k:=1) (by omega) (by decide)
    have dr:=tDrop (z:=dgI pw) (k:=1) (by omega) (by decide)
    rw [show (1:Int).toNat=1 from rfl] at tk dr
    have ag:=z8b dg' ng (by omega) hg
    have lng:=tLen (a:=g) (by omega)
    have lg3:¬ (3:Int)<(g.length:Int):=by omega
    have lc:=tLen (a:=[c]) (by simp)
    have ni:=tNotIn c [49,50,51,52,53,54,55,56,57]
    rw [decide_eq_true c19] at ni
    have ad:=tAdd (a:=[c]) (b:=r) (by simp;omega)
    have ii:=tInt dd dn (by simp;omega)
    rw [dv] at ii
    have lr:=tLen (a:=r) (by omega)
    have len:(1:Int)+(r.length:Int)=(((c::r).length:Nat):Int):=by simp;omega
    have c11:decide ((([c].length:Nat):Int)=1)=true:=rfl
    have un2:∀ ρ:MEnv,∀ x y z:PV,setAll [2,3,4] [x,y,z] ρ=some (((ρ.set 2 (some x)).set 3 (some y)).set 4 (some z)):=fun _ _ _ _=>rfl
    have un5:∀ ρ:MEnv,∀ x y z:PV,setAll [5,6,7] [x,y,z] ρ=some (((ρ.set 5 (some x)).set 6 (some y)).set 7 (some z)):=fun _ _ _ _=>rfl
    have sU:∀ (is:List Nat) (g:FE) (x0:Option PV) (ρ0:MEnv),sUnpack is g (x0::ρ0)=ofR (g (x0::ρ0)) (x0::ρ0) fun v=>match v with | .tup l=>(match setAll is l (x0::ρ0) with | some ρ'=>.next ρ' | none=>.stuck) | _=>.stuck:=fun _ _ _ _=>rfl
    have ap:[c] ++ r=c::r:=rfl
    rw [ap] at ad
    have n0':decide (dgI pw=[45,48])=false:=decide_eq_false n0
    have L4:zq [.str (tx (etx (c::r) pw))]=zq [.str (tx (etx (c::r) pw))]:=rfl
    generalize etx (c::r) pw=E at *
    generalize ptxt [c] r=Q at *
    generalize dgI pw=K at *
    have body:(r=[]∨(r≠[])):=by by_cases q:r=[];exact .inl q;exact .inr q
    by_cases q:r=[]
    · rw [if_pos q] at pb
      have c46:decide (([]:List Nat)=[46])=false:=rfl
      cases b:decide (K.take 1=[45])
      · rw [b] at eg
        have eg':K=g:=eg
        subst eg'
        dsimp! [zq,z34,List.replicate,List.set,sU,un2,un5,fSt_e,strK_ok,lit_e,lit_p,lit_m,lit_n,lit_m0,lit_19,pa,pb,tk,tx_beq,b,decide_true,ag,n0',lng,lg3,lc,c11,ni,c46,ad,ii,ki,lr,len]
      · rw [b] at eg
        have eg':K.drop 1=g:=eg
        rw [eg'] at dr
        dsimp! [zq,z34,List.replicate,List.set,sU,un2,un5,fSt_e,strK_ok,lit_e,lit_p,lit_m,lit_n,lit_m0,lit_19,pa,pb,tk,dr,tx_beq,b,decide_true,ag,n0',lng,lg3,lc,c11,ni,c46,ad,ii,ki,lr,len]
    · rw [if_neg q] at pb
      obtain ⟨x,dx,gx⟩:=last1 q
      have rp:0<r.length:=List.length_pos_iff.mpr q
      have xn:decide ([x]=[48])=false:=decide_eq_false fun z=>dl (by
        have:x=48:=by simpa using z
        rw [this] at gx
        cases r with
        | nil=>exact absurd rfl q
        | cons y ys=>rw [List.getLast?_cons_cons];exact gx)
      have dx':=tDrop (z:=r) (k:=(r.length:Int) - 1) (by omega) (by omega)
      rw [show ((r.length:Int) - 1).toNat=r.length - 1 by omega,dx] at dx'
      have a1:=tAdd (a:=[49]) (b:=r) (by simp;omega)
      have af1:=z8b (l:=[49] ++ r) (by
        intro z hz
        rcases List.mem_append.mp hz with y | y
        · simp at y;omega
        · exact fr z y) (by simp) (by simp;omega) (.inr (by simp))
      cases b:decide (K.take 1=[45])
      · rw [b] at eg
        have eg':K=g:=eg
        subst eg'
        dsimp! [zq,z34,List.replicate,List.set,sU,un2,un5,fSt_e,strK_ok,lit_e,lit_p,lit_m,lit_n,lit_0,lit_1,lit_m0,lit_19,pa,pb,tk,tx_beq,b,decide_true,ag,n0',lng,lg3,lc,c11,ni,a1,af1,q,dx',xn,ad,ii,ki,lr,len]
      · rw [b] at eg
        have eg':K.drop 1=g:=eg
        rw [eg'] at dr
        dsimp! [zq,z34,List.replicate,List.set,sU,un2,un5,fSt_e,strK_ok,lit_e,lit_p,lit_m,lit_n,lit_0,lit_1,lit_m0,lit_19,pa,pb,tk,dr,tx_beq,b,decide_true,ag,n0',lng,lg3,lc,c11,ni,a1,af1,q,dx',xn,ad,ii,ki,lr,len]
section
variable {e f u:Int}{N B D d:Nat}
theorem p10_id {x:Int}{B:Nat} (h:0≤x+B):p10 x*p10 (B:Int)=p10 (x+B)*p10 (-x):=by
  by_cases c:0≤x
  · rw [← p10_add c (by omega),p10_le0 (a:=-x) (by omega),Int.mul_one]
  · rw [p10_le0 (a:=x) (by omega),Int.one_mul,← p10_add h (by omega)]
    congr 1;omega
theorem tb (h:Dec e f u N B D) {x:Int} (hx:0≤x+B):∃ c Q:Int,0<c∧0<Q∧stU f u*p10 (-x)*Q=(N:Int)*c∧p10 x*p2 (-(lp e f))*Q=p10 (x+B)*c:=by
  refine ⟨p2 (-(lp e f))*p10 (-x),p10 (B:Int),Int.mul_pos (p2_pos _) (p10_pos _),p10_pos _,?_,?_⟩
  · have eq:=h.eq
    calc stU f u*p10 (-x)*p10 (B:Int)=(stU f u*p10 (B:Int))*p10 (-x):=by simp only [Int.mul_assoc,Int.mul_comm,Int.mul_left_comm]
      _=(N:Int)*(p2 (-(lp e f))*p10 (-x)):=by rw [← eq,Int.mul_assoc]
  · have i:=p10_id hx
    calc p10 x*p2 (-(lp e f))*p10 (B:Int)=(p10 x*p10 (B:Int))*p2 (-(lp e f)):=by simp only [Int.mul_assoc,Int.mul_comm,Int.mul_left_comm]
      _=p10 (x+B)*(p2 (-(lp e f))*p10 (-x)):=by rw [i];simp only [Int.mul_assoc,Int.mul_comm,Int.mul_left_comm]
theorem lt_sc {a b x y c Q:Int} (hc:0<c) (hQ:0<Q) (e1:a*Q=x*c) (e2:b*Q=y*c):(a<b↔x<y):=by
  constructor
  · intro q
    have:=Int.mul_lt_mul_of_pos_right q hQ
    rw [e1,e2] at this
    exact Int.lt_of_mul_lt_mul_right this (Int.le_of_lt hc)
  · intro q
    have:=Int.mul_lt_mul_of_pos_right q hc
    rw [← e1,← e2] at this
    exact Int.lt_of_mul_lt_mul_right this (Int.le_of_lt hQ)
theorem p10_mx (t:Int):p10 (if (0:Int) > t then 0 else t)=p10 t:=by
  split
  · rw [p10_le0 (show t≤0 by omega)];rfl
  · rfl
theorem common (h:Dec e f u N B D) {x:Int} (x0 : -1100≤x) (x1:x≤1000):zy [.tup [.int e,.int f],.int u] = .ok (.int (stU f u))∧f+p2 (e - 1) - 2 = -(lp e f)∧okShl 1 (e - 1)∧z5 [.int (if (0:Int) > 0 - x then 0 else 0 - x)] = .ok (.int (p10 (-x)))∧z5 [.int (if (0:Int) > x then 0 else x)] = .ok (.int (p10 x)) ∧
    okMul (stU f u) (p10 (-x))∧okShl (p10 x) (-(lp e f))∧0<p10 x*p2 (-(lp e f))∧nb (p10 x*p2 (-(lp e f)))≤9000:=by
  obtain ⟨l1,l2,l3,l4⟩:=lp_bounds h.wd
  obtain ⟨g1,g2,g3,g4⟩:=id h.wd
  have s1:=z89 (u:=u) h.wd (by have:=h.u0;omega) (by have:=h.u1;omega)
  have o3:=okShl_1 (b:=e - 1) (by omega) (by omega)
  have t1:=z5a (n:=if (0:Int) > 0 - x then 0 else 0 - x) (by split<;>omega) (by split<;>omega)
  have t2:=z5a (n:=if (0:Int) > x then 0 else x) (by split<;>omega) (by split<;>omega)
  rw [p10_mx] at t1 t2
  rw [show (0:Int) - x = -x by omega] at t1 ⊢
  have nS:=nb_st h.wd (u:=u) (by have:=h.u0;omega) (by have:=h.u1;omega)
  have n1:=nb_p10 (n:=-x) (m:=1100) (by omega)
  have n2:=nb_p10 (n:=x) (m:=1000) (by omega)
  have n3:=nb_p2s (x:=-(lp e f)) (by omega)
  refine ⟨s1,by unfold lp;omega,o3,t1,t2,okMul_of (m:=2200) (n:=5000) nS (by omega) (by decide),okShl_of (n:=5000) (by omega) (by omega) (by omega),Int.mul_pos (p10_pos _) (p2_pos _),?_⟩
  have nm:=nb_mul_le (p10 x) (p2 (-(lp e f)))
  have n4:nb (p2 (-(lp e f)))≤1083:=by rw [nb_p2 (by omega)];omega
  omega
theorem z8g (h:Dec e f u N B D) {x:Int} (hx:x=(D:Int) - 1 - B∨x=(D:Int) - B):z28 [.tup [.int e,.int f],.int u,.int x] = .ok (.tup [.int ((D:Int) - 1 - B),.bl true]):=by
  have ph:=h.phi
  have pl:=h.plo
  have bl:=h.bl
  have d0:=h.d0
  obtain ⟨s1,le,o3,t1,t2,om,os,bp,bn⟩:=common h (x:=x) (by omega) (by omega)
  obtain ⟨c,Q,hc,hQ,e1,e2⟩:=tb h (x:=x) (by omega)
  have lo':=h.lo
  have hi':=h.hi
  have oa:∀ y,okMul 10 y:=fun y=>okMul_l (by decide) (by decide)
  have m10:∀ y z:Int,10*y*z=10*(y*z):=fun y z=>Int.mul_assoc 10 y z
  have pD:∀ k:Nat,p10 ((k:Nat):Int)=((10 ^ k:Nat):Int):=p10_nat
  rcases hx with hx | hx
  · have xB:p10 (x+B)=((10 ^ (D - 1):Nat):Int):=by rw [← pD];congr 1;omega
    rw [xB] at e2
    have k1:=lt_sc hc hQ e1 e2
    have n1:¬ stU f u*p10 (-x)<p10 x*p2 (-(lp e f)):=by rw [k1];omega
    have k2:=lt_sc (a:=stU f u*p10 (-x)) (b:=10*(p10 x*p2 (-(lp e f)))) (x:=(N:Int)) (y:=10*((10 ^ (D - 1):Nat):Int)) hc hQ e1 (by rw [m10,m10,e2])
    have p1:10 ^ D=10*10 ^ (D - 1):=by
      obtain ⟨k,rfl⟩:∃ k,D=k+1:=⟨D - 1,by omega⟩
      rw [Nat.pow_succ,Nat.add_sub_cancel,Nat.mul_comm]
    have n2:stU f u*p10 (-x)<10*(p10 x*p2 (-(lp e f))):=by rw [k2];omega
    rw [← hx]
    generalize ha:stU f u*p10 (-x)=A at *
    generalize hb:p10 x*p2 (-(lp e f))=Bt at *
    dsimp! [z28,z4h,List.replicate,List.set,Int.one_mul,o3,le,s1,t1,t2,om,os,ha,hb,n1,oa,n2]
  · have xB:p10 (x+B)=((10 ^ D:Nat):Int):=by rw [← pD];congr 1;omega
    rw [xB] at e2
    have k1:=lt_sc hc hQ e1 e2
    have n1:stU f u*p10 (-x)<p10 x*p2 (-(lp e f)):=by rw [k1];omega
    have k2:=lt_sc (a:=10*(stU f u*p10 (-x))) (b:=p10 x*p2 (-(lp e f))) (x:=10*(N:Int)) (y:=((10 ^ D:Nat):Int)) hc hQ (by rw [m10,m10,e1]) e2
    have p1:10 ^ D=10*10 ^ (D - 1):=by
      obtain ⟨k,rfl⟩:∃ k,D=k+1:=⟨D - 1,by omega⟩
      rw [Nat.pow_succ,Nat.add_sub_cancel,Nat.mul_comm]
    have n2:p10 x*p2 (-(lp e f))≤10*(stU f u*p10 (-x)):=by
      apply Int.not_lt.mp
      rw [k2]
      omega
    have x1:(D:Int) - 1 - B=x - 1:=by omega
    rw [x1]
    generalize ha:stU f u*p10 (-x)=A at *
    generalize hb:p10 x*p2 (-(lp e f))=Bt at *
    dsimp! [z28,z4h,List.replicate,List.set,Int.one_mul,o3,le,s1,t1,t2,om,os,ha,hb,n1,oa,n2]
theorem z8q (h:Dec e f u N B D) {m P:Int} (hd:d≤D - 1) (ht:P - m+1=(d:Int) - B) (t0 : -1000<(d:Int) - B):∃ sd:Int,z1s [.tup [.int e,.int f],.int u,.int m,.int P] = .ok (.tup [.int (lo N d:Nat),.int (lo N d+1:Nat),.int ((d:Int) - B),.int sd])∧(sd≤0↔2*(N % 10 ^ d)≤10 ^ d):=by
  have ph:=h.phi
  have bl:=h.bl
  obtain ⟨s1,le,o3,t1,t2,om,os,bp,bn⟩:=common h (x:=(d:Int) - B) (by omega) (by omega)
  obtain ⟨c,Q,hc,hQ,e1,e2⟩:=tb h (x:=(d:Int) - B) (by omega)
  rw [show (d:Int) - B+B=(d:Int) by omega,p10_nat] at e2
  generalize (d:Int) - B=x at *
  generalize ha:stU f u*p10 (-x)=A at *
  generalize hb:p10 x*p2 (-(lp e f))=Bt at *
  have dp:0<10 ^ d:=Nat.pow_pos (by decide)
  have q1:A / Bt=((lo N d:Nat):Int):=by
    have a1:A*Q / (Bt*Q)=A / Bt:=Int.mul_ediv_mul_of_pos_left A Bt hQ
    rw [← a1,e1,e2,Int.mul_ediv_mul_of_pos_left _ _ hc]
    unfold lo
    omega
  have q2:(A % Bt)*Q=((N % 10 ^ d:Nat):Int)*c:=by
    have dm:=Int.mul_ediv_add_emod A Bt
    have r:A % Bt=A - Bt*(A / Bt):=by omega
    have nm:((N % 10 ^ d:Nat):Int)=(N:Int) - ((10 ^ d:Nat):Int)*((lo N d:Nat):Int):=by
      have:=Nat.div_add_mod N (10 ^ d)
      unfold lo
      rw [← Int.natCast_mul]
      omega
    rw [r,q1,nm,Int.sub_mul,Int.sub_mul,e1]
    congr 1
    calc Bt*((lo N d:Nat):Int)*Q=(Bt*Q)*((lo N d:Nat):Int):=by simp only [Int.mul_assoc,Int.mul_comm,Int.mul_left_comm]
      _=((10 ^ d:Nat):Int)*((lo N d:Nat):Int)*c:=by rw [e2];simp only [Int.mul_assoc,Int.mul_comm,Int.mul_left_comm]
  have side:2*(A % Bt) - Bt≤0↔2*(N % 10 ^ d)≤10 ^ d:=by
    have k:=lt_sc (a:=Bt) (b:=2*(A % Bt)) (x:=((10 ^ d:Nat):Int)) (y:=2*((N % 10 ^ d:Nat):Int)) hc hQ e2 (by rw [Int.mul_assoc,Int.mul_assoc,q2])
    constructor
    · intro z
      apply Decidable.byContradiction
      intro w
      have:=k.mpr (by omega)
      omega
    · intro z
      apply Decidable.byContradiction
      intro w
      have:=k.mp (by omega)
      omega
  refine ⟨2*(A % Bt) - Bt,?_,side⟩
  have dv:bDivmod [.int A,.int Bt] = .ok (.tup [.int (A / Bt),.int (A % Bt)]):=if_pos ⟨bp,bn⟩
  have l1:((lo N d:Nat):Int)+1=((lo N d+1:Nat):Int):=by omega
  have o2:okMul 2 (A % Bt):=okMul_l (by decide) (by decide)
  have un:∀ ρ:MEnv,∀ y z:PV,setAll [8,9] [y,z] ρ=some ((ρ.set 8 (some y)).set 9 (some z)):=fun _ _ _=>rfl
  have sU:∀ (is:List Nat) (g:FE) (x0:Option PV) (ρ0:MEnv),sUnpack is g (x0::ρ0)=ofR (g (x0::ρ0)) (x0::ρ0) fun v=>match v with | .tup l=>(match setAll is l (x0::ρ0) with | some ρ'=>.next ρ' | none=>.stuck) | _=>.stuck:=fun _ _ _ _=>rfl
  rw [q1] at dv
  dsimp! [z1s,z5h,List.replicate,List.set,Int.one_mul,o3,le,ht,s1,t1,t2,om,os,ha,hb,sU,un,dv,l1,o2]
theorem z8u (h:Wd e f) {w:Nat}{t:Int} (hb:Bd w t) (wn:w<10 ^ 1190) (t0 : -1000<t) (t1:t<1000):zr [.tup [.int e,.int f],.int u,.int (w:Int),.int t] = .ok (.bl (decide (rz e f w t=u))):=by
  obtain ⟨mk,dr⟩:=rz_is h hb
  have sN:=tStrL (a:=(w:Int)) (k:=1190) wn (by decide)
  rw [dgI_pos (Int.natCast_nonneg w),Int.natAbs_natCast] at sN
  have sT:=tStrL (a:=t) (k:=3) (by omega) (by decide)
  have dl:=dg_len_le (n:=w) (k:=1190) (by decide) wn
  have kl:=dgI_len t0 t1
  have wr:=parts_wr (m:=false) (dg_fig w) (dg_ne w) ad_nil (p:=101::dgI t) (k:=t) (.inr ⟨_,rfl,pow_dgI t0 t1⟩) (by rw [List.length_cons,List.length_nil];omega)
  rw [List.append_nil,if_pos rfl,List.append_nil,dg_val,show t - (([]:List Nat).length:Int)=t by simp] at wr
  have wr':ptsT (dg w ++ 101::dgI t)=some (false,w,t):=wr
  have rd:=dr.rd (dg w ++ 101::dgI t) false (by rw [List.length_append,List.length_cons];omega) wr'
  have s0:sg false*p2 (e+f)=0:=by unfold sg;simp
  rw [s0,Int.add_zero] at rd
  have a1:=tAdd (a:=dg w) (b:=[101]) (by simp;omega)
  have a2:=tAdd (a:=dg w ++ [101]) (b:=dgI t) (by simp;omega)
  rw [show dg w ++ [101] ++ dgI t=dg w ++ 101::dgI t by simp] at a2
  have rd':dflt q_read [.str "even"] [.tup [.int e,.int f],.str (tx (dg w ++ 101::dgI t))]=_:=rd
  generalize rz e f w t=z at *
  dsimp! [zr,z5i,sN,sT,lit_e,a1,a2,rd']
theorem z8n {W cnt:Nat}{pw:Int} (h:Dec e f u N B D) (n:Ends e f u N B D d) (T:Told e f u N B D d W cnt pw):z29 [.tup [.int e,.int f],.int u,.tup [.int (W:Int),.int pw,.int (cnt:Int)]] = .ok (.bl true):=by
  have ph:=h.phi
  have pl:=h.plo
  have bl:=h.bl
  have d0:=h.d0
  have dl:=h.dl
  have tn:=n.ten h
  have nle:=n.le
  have wo:=z90 h.wd
  obtain ⟨pu,pc⟩:=pik_u n.ok
  have dc:=z8g h (x:=pw) (by rcases T.sh with ⟨q,_⟩ | ⟨q,_⟩<;>omega)
  obtain ⟨sd,nx,sdi⟩:=z8q h (m:=(cnt:Int)) (P:=(D:Int) - 1 - B) (d:=d) n.le (by rcases T.sh with ⟨_,q,_⟩ | ⟨_,q,_,r,_⟩<;>omega) (by omega)
  have ll:=lo_len h n.le
  have b1:=bd_of h n.le (lo_pos h n.le) (Nat.le_succ _)
  have b2:=bd_of h n.le (Nat.succ_pos (lo N d)) (Nat.le_refl _)
  have lw:lo N d+1<10 ^ 1190:=by
    have a:10 ^ (D - d)≤10 ^ 1150:=Nat.pow_le_pow_right (by decide) (by omega)
    have b:(10:Nat) ^ 1150<10 ^ 1190:=Nat.pow_lt_pow_right (by decide) (by decide)
    omega
  have r1:=z8u (u:=u) h.wd b1 (by omega) (by omega) (by omega)
  have r2:=z8u (u:=u) h.wd b2 lw (by omega) (by omega)
  have num:∃ k:Int,pw - (cnt:Int)+1 - ((d:Int) - B)=k∧0≤k∧k≤1∧(W:Int)*p10 k=((pik e f u N B d:Nat):Int):=by
    rcases T.sh with ⟨q1,q2,q3⟩ | ⟨q1,q2,q3,q4,q5⟩
    · refine ⟨0,by omega,by decide,by decide,?_⟩
      rw [p10_0,Int.mul_one,q3]
    · refine ⟨1,by omega,by decide,by decide,?_⟩
      rw [q3,q5];rfl
  obtain ⟨k,ek,k0,k1,ev'⟩:=num
  have tk:=z5a (n:=k) k0 (by omega)
  have nW:=T.bd.wc
  have nk:=nb_p10 (n:=k) (m:=1) (by omega)
  have ok:okMul (W:Int) (p10 k):=okMul_of (m:=5000) (n:=100) nW (by omega) (by decide)
  have un4:∀ ρ:MEnv,∀ a b c d:PV,setAll [7,8,9,10] [a,b,c,d] ρ=some ((((ρ.set 7 (some a)).set 8 (some b)).set 9 (some c)).set 10 (some d)):=fun _ _ _ _ _=>rfl
  have un2:∀ ρ:MEnv,∀ y z:PV,setAll [5,6] [y,z] ρ=some ((ρ.set 5 (some y)).set 6 (some z)):=fun _ _ _=>rfl
  have sU:∀ (is:List Nat) (g:FE) (x0:Option PV) (ρ0:MEnv),sUnpack is g (x0::ρ0)=ofR (g (x0::ρ0)) (x0::ρ0) fun v=>match v with | .tup l=>(match setAll is l (x0::ρ0) with | some ρ'=>.next ρ' | none=>.stuck) | _=>.stuck:=fun _ _ _ _=>rfl
  have fin:(pik e f u N B d=lo N d∧(sd≤0∨¬ rz e f (lo N d+1) ((d:Int) - B)=u))∨(pik e f u N B d=lo N d+1∧(0<sd∨¬ rz e f (lo N d) ((d:Int) - B)=u)):=by
    by_cases c:2*(N % 10 ^ d)≤10 ^ d
    · have s:=sdi.mpr c
      unfold pik
      rw [if_pos c]
      by_cases a:rz e f (lo N d) ((d:Int) - B)=u
      · rw [if_pos a];exact .inl ⟨rfl,.inl s⟩
      · rw [if_neg a];exact .inr ⟨rfl,.inr a⟩
    · have s:0<sd:=by
        apply Decidable.byContradiction
        intro q
        exact c (sdi.mp (by omega))
      unfold pik
      rw [if_neg c]
      by_cases a:rz e f (lo N d+1) ((d:Int) - B)=u
      · rw [if_pos a];exact .inr ⟨rfl,.inl s⟩
      · rw [if_neg a];exact .inl ⟨rfl,.inr a⟩
  have key:∀ v7 v8 v9 v10:Option PV,∀ v4:Option PV,sSeq (sUnpack [7,8,9,10] (fCall z1s (aCons (fVar 0) (aCons (fVar 1) (aCons (fBin oItem (fVar 2) (fC (.int 2))) (aCons (fVar 5) (aNil))))))) (sSeq (sSet 4 (fBin oMul (fBin oItem (fVar 2) (fC (.int 0))) (fCall z5 (aCons (fBin oSub (fBin oAdd (fBin oSub (fBin oItem (fVar 2) (fC (.int 1))) (fBin oItem (fVar 2) (fC (.int 2)))) (fC (.int 1))) (fVar 9)) (aNil))))) (sSeq (sIf (tVal (fBin cEq (fVar 4) (fVar 7))) (sRet (fOr (fBin cLe (fVar 10) (fC (.int 0))) (fNot (fCall zr (aCons (fVar 3) (aCons (fVar 1) (aCons (fVar 8) (aCons (fVar 9) (aNil))))))))) (sNext)) (sRet (fAnd (fBin cEq (fVar 4) (fVar 8)) (fOr (fBin cGt (fVar 10) (fC (.int 0))) (fNot (fCall zr (aCons (fVar 3) (aCons (fVar 1) (aCons (fVar 7) (aCons (fVar 9) (aNil)))))))))))) [some (.tup [.int e,.int f]),some (.int u),some (.tup [.int (W:Int),.int pw,.int (cnt:Int)]),some (.tup [.int e,.int f]),v4,some (.int ((D:Int) - 1 - B)),some (.bl true),v7,v8,v9,v10] = .ret (.bl true):=by
    intro v7 v8 v9 v10 v4
    clear dc pu pc
    generalize (d:Int) - (B:Int)=t at *
    generalize rz e f (lo N d) t=z1 at *
    generalize rz e f (lo N d+1) t=z2 at *
    rcases fin with ⟨q,c⟩ | ⟨q,c⟩
    · rw [q] at ev'
      have eq1:decide (((lo N d:Nat):Int)=((lo N d:Nat):Int))=true:=decide_eq_true rfl
      generalize ((lo N d:Nat):Int)=L at *
      generalize ((lo N d+1:Nat):Int)=L1 at *
      by_cases s0:sd≤0
      · dsimp! [List.set,sU,un4,nx,ek,tk,ok,ev',eq1,s0]
      · have c':decide (z2=u)=false:=decide_eq_false (c.resolve_left s0)
        dsimp! [List.set,sU,un4,nx,ek,tk,ok,ev',eq1,s0,r2,c']
    · rw [q] at ev'
      have ne:decide (((lo N d+1:Nat):Int)=((lo N d:Nat):Int))=false:=decide_eq_false (by omega)
      have eq1:decide (((lo N d+1:Nat):Int)=((lo N d+1:Nat):Int))=true:=decide_eq_true rfl
      generalize ((lo N d:Nat):Int)=L at *
      generalize ((lo N d+1:Nat):Int)=L1 at *
      by_cases s0:0<sd
      · dsimp! [List.set,sU,un4,nx,ek,tk,ok,ev',ne,eq1,s0]
      · have c':decide (z1=u)=false:=decide_eq_false (c.resolve_left s0)
        dsimp! [List.set,sU,un4,nx,ek,tk,ok,ev',ne,eq1,s0,r1,c']
  by_cases c1:(1:Int)<(cnt:Int)
  · have shA:pw=(D:Int) - 1 - B∧cnt=D - d:=by
      rcases T.sh with ⟨q1,q2,q3⟩ | ⟨q1,q2,q3,q4,q5⟩
      · exact ⟨q1,q2⟩
      · omega
    have hd':d+1≤D - 1:=by omega
    obtain ⟨f1,f2⟩:=n.no (d+1) (by omega) hd'
    obtain ⟨sd',nx',_⟩:=z8q h (m:=(cnt:Int) - 1) (P:=(D:Int) - 1 - B) (d:=d+1) hd' (by omega) (by omega)
    have ll':=lo_len h hd'
    have b1':=bd_of h hd' (lo_pos h hd') (Nat.le_succ _)
    have b2':=bd_of h hd' (Nat.succ_pos (lo N (d+1))) (Nat.le_refl _)
    have lw':lo N (d+1)+1<10 ^ 1190:=by
      have a:10 ^ (D - (d+1))≤10 ^ 1150:=Nat.pow_le_pow_right (by decide) (by omega)
      have b:(10:Nat) ^ 1150<10 ^ 1190:=Nat.pow_lt_pow_right (by decide) (by decide)
      omega
    have r1':=z8u (u:=u) h.wd b1' (by omega) (by omega) (by omega)
    have r2':=z8u (u:=u) h.wd b2' lw' (by omega) (by omega)
    rw [decide_eq_false f1] at r1'
    rw [decide_eq_false f2] at r2'
    dsimp! [z29,z4i,List.replicate,List.set,wo,sU,un2,dc,c1,nx',un4,r1',r2',key]
  · dsimp! [z29,z4i,List.replicate,List.set,wo,sU,un2,dc,c1,key]
end
theorem dv0:∀ {l:List Nat},AllDigits l→digitsVal l=0→∀ c∈l,c=48
  | [],_,_,c,hc=>absurd hc (by simp)
  | x::r,h,hv,c,hc=>by
    rw [dv_cons] at hv
    have p:0<10 ^ r.length:=Nat.pow_pos (by decide)
    have a:(x - 48)*10 ^ r.length=0:=by omega
    have x0:x - 48=0:=by
      rcases Nat.mul_eq_zero.mp a with q | q
      · exact q
      · omega
    rcases List.mem_cons.mp hc with rfl | hc
    · have:=h.head;omega
    · exact dv0 h.tail (by omega) c hc
theorem pnt0 {B:Nat}{a t:List Nat} (h:Pnt 0 B a t):a=[48]∧t=[]:=by
  have z:=dv0 (ad_app h.fa h.ft) h.dv
  constructor
  · rcases h.lead with q | q
    · exact q
    · exfalso
      cases a with
      | nil=>exact h.na rfl
      | cons x r=>exact q (by rw [z x (by simp)];rfl)
  · apply Decidable.byContradiction
    intro q
    obtain ⟨c,_,gc⟩:=last1 q
    exact h.last (by rw [gc,z c (List.mem_append_right _ (List.mem_of_getLast? gc))])
theorem half_s {e f s u:Int} (h:Wu e f s u):decide (p2 (e+f)≤u+s*p2 (e+f))=decide (s=1):=by
  have:=h.2.2.2
  have:=h.2.2.1
  rcases h.2.1 with rfl | rfl
  · rw [decide_eq_false (by omega),decide_eq_false (by omega)]
  · rw [decide_eq_true (by omega),decide_eq_true rfl]
theorem sg_s {s:Int} (h:s=0∨s=1):sg (decide (s=1))=s:=by rcases h with rfl | rfl<;>rfl
theorem etx_head {W:Nat}{pw:Int}:(etx (dg W) pw).head?≠some 45:=by
  have d:=dg_fig W
  have n:=dg_ne W
  cases e:dg W with
  | nil=>exact absurd e n
  | cons c r =>
    rw [e] at d
    have:=d.head
    show some c≠some 45
    simp;omega
theorem etx_len {W:Nat}{pw:Int} (wl:(dg W).length≤1190) (p0 : -1000<pw) (p1:pw<1000):(etx (dg W) pw).length≤1198:=by
  have kl:=dgI_len p0 p1
  cases e:dg W with
  | nil=>exact absurd e (dg_ne W)
  | cons c r =>
    rw [e] at wl
    show ([c] ++ (if r=[] then [] else 46::r) ++ 101::dgI pw).length≤1198
    have l2:(if r=[] then [] else 46::r).length≤r.length+1:=by split<;>simp
    simp only [List.length_append,List.length_cons,List.length_nil] at wl ⊢
    omega
theorem etx_pts {W:Nat}{pw:Int} (s:Bool) (wl:(dg W).length≤1190) (p0 : -1000<pw) (p1:pw<1000):ptsT ((if s then [45] else []) ++ etx (dg W) pw)=some (s,W,pw - ((dg W).length:Int)+1):=by
  have kl:=dgI_len p0 p1
  have d:=dg_fig W
  have v:=dg_val W
  cases e:dg W with
  | nil=>exact absurd e (dg_ne W)
  | cons c r =>
    rw [e] at d v wl
    have w:=parts_wr (m:=s) (a:=[c]) (t:=r) (by intro x hx;simp at hx;rw [hx];exact d.head) (by simp) d.tail (p:=101::dgI pw) (k:=pw) (.inr ⟨_,rfl,pow_dgI p0 p1⟩) (by simp at wl ⊢;omega)
    rw [show [c] ++ r=c::r from rfl,v] at w
    have e2:(if s then [45] else []) ++ etx (c::r) pw=(if s then [45] else []) ++ [c] ++ (if r=[] then [] else 46::r) ++ 101::dgI pw:=by
      show _ ++ ([c] ++ (if r=[] then [] else 46::r) ++ 101::dgI pw)=_
      simp only [List.append_assoc]
    rw [e2,w]
    congr 3
    simp;omega
theorem z8v {e f s u:Int} (h:Wu e f s u) (u0:0<u) (u1:u<eS e f):∃ N B D d W cnt pw,Dec e f u N B D∧Ends e f u N B D d∧Told e f u N B D d W cnt pw∧(dg W).length≤1190 ∧
    ∀ s,Wu e f s u→z7 [.tup [.int e,.int f],.int (u+s*p2 (e+f))] = .ok (.str (tx ((if decide (s=1) then [45] else []) ++ etx (dg W) pw))):=by
  obtain ⟨N,B,D,d,hD,hE,ef⟩:=z8m h u0 u1
  obtain ⟨W,cnt,pw,hT,ep⟩:=told_of hD hE
  have wl:(dg W).length≤1190:=by
    have dl:=hD.dl
    rw [hT.wl]
    rcases hT.sh with ⟨_,q,_⟩ | ⟨_,q,_⟩<;>omega
  refine ⟨N,B,D,d,W,cnt,pw,hD,hE,hT,wl,fun s h=>?_⟩
  have kd:=z57 h
  have ct:=z66 h
  have un:=z6f h
  have el:=etx_len wl hT.p0 hT.p1
  have ki:cNotIn (.str (kindU e f u)) (.tup [.str "small",.str "plain"]) = .ok (.bl false):=by
    rcases kind_cases h.1 h.2.2.1 with ⟨c,_⟩ | ⟨c,_⟩ | ⟨_,⟨c,_⟩ | ⟨_,k | k⟩⟩
    · omega
    · omega
    · omega
    · rw [k];rfl
    · rw [k];rfl
  generalize etx (dg W) pw=X at *
  have a1:=tAdd (a:=[45]) (b:=X) (by simp;omega)
  have a0:=tAdd (a:=[]) (b:=X) (by simp;omega)
  generalize u+s*p2 (e+f)=w at *
  by_cases s1:s=1
  · dsimp! [z7,z47,List.replicate,List.set,kd,ki,ct,s1,lit_m,un,ef,ep,a1,decide_true,if_true]
  · dsimp! [z7,z47,List.replicate,List.set,kd,ki,ct,s1,lit_n,un,ef,ep,a0,decide_false,Bool.false_eq_true,if_false]
theorem z8j {e f s u:Int} (h:Wu e f s u):zh [.tup [.int e,.int f],.int (u+s*p2 (e+f))] = .ok (.str (tx (if eS e f<u then noneL else if u=eS e f then (if decide (s=1) then [45] else []) ++ endL else if u=0 then (if decide (s=1) then [45] else []) ++ [48] else []))):=by
  obtain ⟨p1,p3,p4,p5,p6,b1,b2,b3,b4,p7,p8⟩:=p2_wd h.1
  obtain ⟨g1,g2,g3,g4⟩:=h.1
  have o1:=okShl_1 (b:=e+f) (by omega) (by omega)
  have o2:=okShl_1 (b:=e) (by omega) (by omega)
  have o5:okShl (p2 e - 1) f:=okShl_of (n:=12) (by omega) (nb_le (by omega)) (by omega)
  have hS:(p2 e - 1)*p2 f=eS e f:=rfl
  have om:okMod (p2 (e+f)):=p2_pos _
  have od:okDiv (p2 (e+f)):=okDiv_of (n:=200) (p2_pos _) (by rw [nb_p2 (by omega)];omega) (by decide)
  have w2:=(wu_word h).2.2.2.1
  have w3:=(wu_word h).2.2.1
  have it:oItem (.lst [.str (tx endL),.str (tx (45::endL))]) (.int s) = .ok (.str (tx ((if decide (s=1) then [45] else []) ++ endL))):=by
    rcases h.2.1 with rfl | rfl<;>exact oItem_at (by decide) rfl
  have i0:oItem (.lst [.str (tx [48]),.str (tx [45,48])]) (.int s) = .ok (.str (tx ((if decide (s=1) then [45] else []) ++ [48]))):=by
    rcases h.2.1 with rfl | rfl<;>exact oItem_at (by decide) rfl
  generalize u+s*p2 (e+f)=W at *
  by_cases c1:eS e f<u
  · rw [if_pos c1]
    dsimp! [zh,z33,List.replicate,List.set,Int.one_mul,o1,o2,o5,hS,om,w2,c1,lit_none]
  · rw [if_neg c1]
    by_cases c2:u=eS e f
    · rw [if_pos c2]
      dsimp! [zh,z33,List.replicate,List.set,Int.one_mul,o1,o2,o5,hS,om,w2,c1,decide_eq_true c2,lit_end,lit_nend,od,w3,it]
    · rw [if_neg c2]
      by_cases c3:u=0
      · rw [if_pos c3]
        dsimp! [zh,z33,List.replicate,List.set,Int.one_mul,o1,o2,o5,hS,om,w2,c1,decide_eq_false c2,decide_eq_true c3,lit_0,lit_m0,od,w3,i0]
      · rw [if_neg c3]
        dsimp! [zh,z33,List.replicate,List.set,Int.one_mul,o1,o2,o5,hS,om,w2,c1,decide_eq_false c2,decide_eq_false c3,lit_n]
theorem take_s {b:Bool}{x:List Nat} (h:x.head?≠some 45):decide (List.take 1 ((if b then [45] else []) ++ x)=[45])=b:=by
  cases b
  · refine decide_eq_false ?_
    cases x with
    | nil=>simp
    | cons c r=>simp at h ⊢;exact h
  · exact decide_eq_true rfl
theorem z6e {e f s u:Int} (h:Wu e f s u):z18 [.tup [.int e,.int f],.int (u+s*p2 (e+f))] = .ok (.bl true):=by
  obtain ⟨p1,p3,p4,p5,p6,b1,b2,b3,b4,p7,p8⟩:=p2_wd h.1
  obtain ⟨g1,g2,g3,g4⟩:=id h.1
  have o1:=okShl_1 (b:=e+f) (by omega) (by omega)
  have om:okMod (p2 (e+f)):=p2_pos _
  have w2:=(wu_word h).2.2.2.1
  have wo:=z90 h.1
  have du:=z8j h
  have hs:=half_s h
  by_cases cN:0<u∧u<eS e f
  · obtain ⟨N,B,D,d,W,cnt,pw,hD,hE,hT,wl,sh⟩:=z8v h cN.1 cN.2
    have es:=sh s h
    rw [if_neg (by omega),if_neg (by omega),if_neg (by omega)] at du
    have el:=etx_len wl hT.p0 hT.p1
    have pts:=etx_pts (decide (s=1)) wl hT.p0 hT.p1
    rw [hT.wl] at pts
    obtain ⟨mk,dr⟩:=rz_is h.1 hT.bd
    have sl:(if decide (s=1) then [45] else ([]:List Nat)).length≤1:=by cases decide (s=1)<;>simp
    have rd:=dr.rd _ _ (by rw [List.length_append];omega) pts
    rw [hT.rd,sg_s h.2.1] at rd
    have rd':dflt q_read [.str "even"] [.tup [.int e,.int f],.str (tx ((if decide (s=1) then [45] else []) ++ etx (dg W) pw))]=_:=rd
    have ts:=take_s (b:=decide (s=1)) (x:=etx (dg W) pw) etx_head
    have prt:=z8s hT.w0 hT.wt (by omega) hT.p0 hT.p1
    have fw:=z8n hD hE hT
    rw [hT.wl] at prt
    have tk:=tTake (z:=(if decide (s=1) then [45] else []) ++ etx (dg W) pw) (k:=1) (by rw [List.length_append];omega) (by decide)
    have d1:=tDrop (z:=(if decide (s=1) then [45] else []) ++ etx (dg W) pw) (k:=1) (by rw [List.length_append];omega) (by decide)
    have d0:=tDrop (z:=(if decide (s=1) then [45] else []) ++ etx (dg W) pw) (k:=0) (by rw [List.length_append];omega) (by decide)
    rw [show (1:Int).toNat=1 from rfl] at tk d1
    rw [show (0:Int).toNat=0 from rfl,List.drop_zero] at d0
    have nn:∀ l,cNotN (.tup l) = .ok (.bl true):=fun _=>rfl
    generalize etx (dg W) pw=X at *
    cases sb:decide (s=1)
    · rw [sb] at es rd' ts tk d0 hs
      rw [show (if false=true then [45] else []) ++ X=X from rfl] at es rd' ts tk d0
      generalize u+s*p2 (e+f)=w at *
      dsimp! [z18,z42,List.replicate,List.set,wo,Int.one_mul,o1,es,du,lit_n,tx_beq,decide_true,tk,lit_m,ts,hs,beq_self_eq_true,Bool.not_true,rd',bInt_b,Bool.false_eq_true,if_false,d0,prt,nn,om,w2,fw]
    · rw [sb] at es rd' ts tk d1 hs
      rw [show (if true=true then [45] else []) ++ X=45::X from rfl] at es rd' ts tk d1
      rw [show List.drop 1 (45::X)=X from rfl] at d1
      generalize u+s*p2 (e+f)=w at *
      dsimp! [z18,z42,List.replicate,List.set,wo,Int.one_mul,o1,es,du,lit_n,tx_beq,decide_true,tk,lit_m,ts,hs,beq_self_eq_true,Bool.not_true,rd',bInt_b,if_true,d1,prt,nn,om,w2,fw]
  · have kd:=z57 h
    have kc:=kind_cases h.1 h.2.2.1
    have ki:cNotIn (.str (kindU e f u)) (.tup [.str "small",.str "plain"]) = .ok (.bl true):=by
      rcases kc with ⟨c,k | k⟩ | ⟨c,k⟩ | ⟨c,⟨_,k⟩ | ⟨q,_⟩⟩
      · rw [k];rfl
      · rw [k];rfl
      · rw [k];rfl
      · rw [k];rfl
      · exact absurd ⟨q,c⟩ cN
    have sh:z7 [.tup [.int e,.int f],.int (u+s*p2 (e+f))]=zh [.tup [.int e,.int f],.int (u+s*p2 (e+f))]∧∃ l,l≠[]∧zh [.tup [.int e,.int f],.int (u+s*p2 (e+f))] = .ok (.str (tx l)):=by
      have se:∀ l,zc [.tup [.int e,.int f],.int (u+s*p2 (e+f))] = .ok (.str (tx l))→z7 [.tup [.int e,.int f],.int (u+s*p2 (e+f))] = .ok (.str (tx l)):=fun l q=>by
        generalize u+s*p2 (e+f)=w at *
        dsimp! [z7,z47,List.replicate,List.set,kd,ki,q]
      rcases z6w h with ⟨c,e1⟩ | ⟨c,e1⟩ | ⟨c,N,B,a,t,hx,e1⟩
      · rw [if_pos c] at du
        rw [se _ e1,du]
        exact ⟨rfl,_,by decide,rfl⟩
      · rw [if_neg (by omega),if_pos c] at du
        rw [se _ e1,du]
        exact ⟨rfl,_,by simp [endL],rfl⟩
      · have u0:u=0:=by have:=h.2.2.1;omega
        rw [if_neg (by omega),if_neg (by omega),if_pos u0] at du
        have n0:N=0:=by
          have q:=hx.eq
          rw [u0,stU_lo (p2_pos f),Int.zero_mul] at q
          rcases Int.mul_eq_zero.mp q with q | q
          · omega
          · have:=p2_pos (-(lp e f));omega
        have hp:=hx.pn
        rw [n0] at hp
        obtain ⟨rfl,rfl⟩:=pnt0 hp
        rw [se _ e1,du]
        exact ⟨rfl,_,by simp,rfl⟩
    obtain ⟨s1,l,ln,s2⟩:=sh
    rw [s2] at s1
    generalize u+s*p2 (e+f)=w at *
    dsimp! [z18,z42,List.replicate,List.set,wo,Int.one_mul,o1,s1,s2,lit_n,tx_beq,ln,decide_true]
theorem lit_1e:Str.ofString "1e"=tx [49,101]:=by decide +kernel
def Fr (L:PV) (e f:Int) (ρ:MEnv):Prop:=∃ v4,ρ=[some L,some (.tup [.int e,.int f]),some (.tup [.int e,.int f]),some (.int (p2 (e+f))),v4,none]
theorem holds:∀ ns:List Int,ns.length≤63→(∀ x∈ns,nb x≤1048576)→q_law_v88 [.lst (ns.map PV.int)] = .ok (.bl true):=by
  intro ns hl hb
  have ec:=z65 ns 0 (by decide)
  have ec1:=z65 ns 1 (by decide)
  generalize ns.getD (0:Int).toNat 0=c0 at ec
  generalize ns.getD (1:Int).toNat 0=c1 at ec1
  obtain ⟨e,f,ew,h⟩:=z6v c0
  have wo:=z90 h
  obtain ⟨g1,g2,g3,g4⟩:=id h
  have o1:=okShl_1 (b:=e+f) (by omega) (by omega)
  obtain ⟨ρ,ef,v4,rfl⟩:=forL_goes (I:=Fr (.lst (ns.map PV.int)) e f)
    (i:=4) (body:=z4p) (l:=cutP (ns.map PV.int) (some 1) (some 5))
    (ρ:=[some (.lst (ns.map PV.int)),some (.tup [.int e,.int f]),some (.tup [.int e,.int f]),some (.int (p2 (e+f))),none,none]) ⟨_,rfl⟩ (fun x hx ρ ⟨v4,hρ⟩=>by
      subst hρ
      obtain ⟨c,rfl,hc⟩:=mem_cut_ints hx
      obtain ⟨w,ew,w0,w1⟩:=z8a h (hb c hc)
      obtain ⟨s,u,hu,rfl⟩:=wu_of h w0 w1
      have t:=z6e hu
      generalize u+s*p2 (e+f)=w at *
      dsimp! [z4p,List.set,ew,t]
      exact goes_next ⟨_,rfl⟩)
  have k0:0≤c1*48271 % 1000003 % 41:=Int.emod_nonneg _ (by decide)
  have k1:c1*48271 % 1000003 % 41<41:=Int.emod_lt_of_pos _ (by decide)
  have om:okMul c1 48271:=okMul_r (by decide) (by decide)
  generalize hk:c1*48271 % 1000003 % 41 - 20=k at *
  have ks:=tStrS (K:=k) (by omega) (by omega)
  have kl:=dgI_len (K:=k) (by omega) (by omega)
  have a1:=tAdd (a:=[49,101]) (b:=dgI k) (by simp;omega)
  have wr:=parts_wr (m:=false) (a:=[49]) (t:=[]) (by intro x hx;simp at hx;omega) (by simp) ad_nil (p:=101::dgI k) (k:=k) (.inr ⟨_,rfl,pow_dgI (by omega) (by omega)⟩) (by simp;omega)
  have wr':ptsT ([49,101] ++ dgI k)=some (false,1,k):=by
    have:(if false=true then [45] else []) ++ [49] ++ (if ([]:List Nat)=[] then [] else 46::[]) ++ 101::dgI k=[49,101] ++ dgI k:=by simp
    rw [this] at wr
    rw [wr]
    simp [digitsVal]
  have n1:=nb_p10 (n:=k) (m:=20) (by omega)
  have n2:=nb_p10 (n:=-k) (m:=20) (by omega)
  obtain ⟨sz,mk,er,V⟩:=read_core (p:=4) (z:="down") (k:=25) h (.inr (.inr (.inr (.inr ⟨rfl,rfl,rfl⟩)))) (l:=[49,101] ++ dgI k) (by simp;omega) wr' (by omega) (by omega) (by rw [show ((1:Nat):Int)=1 from rfl,Int.one_mul];omega) (by decide) (by omega)
  obtain ⟨m1,m3,_,_,_⟩:=eS_facts h
  have sz0:0≤sz∧sz≤eS e f:=by
    rcases V with ⟨x,_⟩ | ⟨x,_⟩ | ⟨x,y,_⟩<;>omega
  have hw:Wu e f (sg false) sz:=⟨h,.inl rfl,sz0.1,by omega⟩
  have t1:=z6e hw
  obtain ⟨p1,p3,p4,p5,p6,b1,b2,b3,b4,p7,p8⟩:=p2_wd h
  have hs1:Wu e f 0 1:=⟨h,.inl rfl,by decide,by omega⟩
  have hs2:Wu e f 1 1:=⟨h,.inr rfl,by decide,by omega⟩
  obtain ⟨N,B,D,d,W,cnt,pw,hD,hE,hT,wl,sh⟩:=z8v hs1 (by decide) (by omega)
  have x1:=sh 0 hs1
  have x2:=sh 1 hs2
  rw [Int.zero_mul,Int.add_zero] at x1
  rw [Int.one_mul,Int.add_comm] at x2
  have el:=etx_len wl hT.p0 hT.p1
  have x1':z7 [.tup [.int e,.int f],.int 1] = .ok (.str (tx (etx (dg W) pw))):=x1
  have x2':z7 [.tup [.int e,.int f],.int (p2 (e+f)+1)] = .ok (.str (tx (45::etx (dg W) pw))):=x2
  have dr:=tDrop (z:=45::etx (dg W) pw) (k:=1) (by simp;omega) (by decide)
  rw [show List.drop (1:Int).toNat (45::etx (dg W) pw)=etx (dg W) pw from rfl] at dr
  generalize etx (dg W) pw=X at *
  generalize sz+sg false*p2 (e+f)=w at *
  dsimp! [q_law_v88,z5u,List.replicate,List.set,ec,ec1,ew,wo,Int.one_mul,o1,ef,om,hk,ks,lit_1e,a1,er,t1,x1',x2',dr,tx_beq,decide_true]
end K76
namespace K76
open PySem PySem.Spec PyProof.Rows L2 Mi Cm
def names:List (Nat×Str):=[(0,"FloatError"),(1,"NoWidth"),(2,"NoWord"),(3,"NoWay"),(4,"NoNumber"),(6,"NoText")]
def wnames:List (Nat×Str):=[(20,"Way"),(21,"Even"),(22,"Away"),(23,"Inward"),(24,"Upward"),(25,"Downward")]
def anames:List (Nat×Str):=names ++ wnames
def top (i:Nat):Stmt:=PySem.Challenge.pw_floatforge_k76_whole_shortest.main.body.getD i (.Pass ⟨0,0,0,0⟩)
structure Tx (K:PySem.W.Frag) (mg:Str→Option Value) (cl:Nat→Addr):Prop where
  inj:∀ c d,cl c=cl d→c=d
  cls:Cls K mg cl names
  ways:Ways K mg cl wnames
  b_abs:mg "abs"=none
  b_all:mg "all"=none
  b_bool:mg "bool"=none
  b_divmod:mg "divmod"=none
  b_int:mg "int"=none
  b_isinstance:mg "isinstance"=none
  b_len:mg "len"=none
  b_max:mg "max"=none
  b_str:mg "str"=none
  b_tuple:mg "tuple"=none
  c_LEAST_E:∃ t,mg "LEAST_E"=some (.int 2 t)
  c_MOST_E:∃ t,mg "MOST_E"=some (.int 11 t)
  c_LEAST_F:∃ t,mg "LEAST_F"=some (.int 1 t)
  c_MOST_F:∃ t,mg "MOST_F"=some (.int 60 t)
  c_MOST_SIGNS:∃ t,mg "MOST_SIGNS"=some (.int 1200 t)
  c_MOST_POWER_FIGURES:∃ t,mg "MOST_POWER_FIGURES"=some (.int 3 t)
  c_GREAT:∃ t,mg "GREAT"=some (.int 4 t)
  c_SMALL:∃ t,mg "SMALL"=some (.int 8 t)
  c_NEAR:∃ t,mg "NEAR"=some (.int 16 t)
section
variable {P:Program}{w:World}{K:PySem.W.Frag}{mg:Str→Option Value}{base:Heap}{cl:Nat→Addr}
theorem z7c:FnScope ["self","odd","side","below"] ["self","odd","side","below"] (defScope (inClass (top 52) 0)):=⟨rfl,rfl,rfl,by decide +kernel,rfl,by decide +kernel,by decide +kernel⟩
theorem z4x {f:Addr}{fd:FuncData} (T:Tx K mg cl) (D:MethAt K cl 21 "grows" "Even.grows" (inClass (top 52) 0) f fd):MG P w K mg base cl 1 21 "grows" 3 z52 :=
  D.mgp (N:=["self","odd","side","below"]) (k:=0) (T.ways.cls 21 "Even" (at_mem 1 rfl)).cls z7c rfl (fun _ _ _ _ _ _=>Mi.ln4 fun _ _ _ _=>rfl) fun cdv A outer s H E hr =>
    mss_one (ms_ret (me_or (me_cmp (r_eq (hu64 hr)) (mv 2) (me_int) (nomark _)) (me_one (me_and (me_cmp (r_eq (hu64 hr)) (mv 2) (me_int) (nomark _)) (me_one (mv 1))))))
theorem z7a:FnScope ["self","odd","side","below"] ["self","odd","side","below"] (defScope (inClass (top 53) 0)):=⟨rfl,rfl,rfl,by decide +kernel,rfl,by decide +kernel,by decide +kernel⟩
theorem z4v {f:Addr}{fd:FuncData} (T:Tx K mg cl) (D:MethAt K cl 22 "grows" "Away.grows" (inClass (top 53) 0) f fd):MG P w K mg base cl 1 22 "grows" 3 z50 :=
  D.mgp (N:=["self","odd","side","below"]) (k:=0) (T.ways.cls 22 "Away" (at_mem 2 rfl)).cls z7a rfl (fun _ _ _ _ _ _=>Mi.ln4 fun _ _ _ _=>rfl) fun cdv A outer s H E hr =>
    mss_one (ms_ret (me_cmp r_ge (mv 2) (me_int) (nomark _)))
theorem z7d:FnScope ["self","odd","side","below"] ["self","odd","side","below"] (defScope (inClass (top 54) 0)):=⟨rfl,rfl,rfl,by decide +kernel,rfl,by decide +kernel,by decide +kernel⟩
theorem z4y {f:Addr}{fd:FuncData} (T:Tx K mg cl) (D:MethAt K cl 23 "grows" "Inward.grows" (inClass (top 54) 0) f fd):MG P w K mg base cl 1 23 "grows" 3 z53 :=
  D.mgp (N:=["self","odd","side","below"]) (k:=0) (T.ways.cls 23 "Inward" (at_mem 3 rfl)).cls z7d rfl (fun _ _ _ _ _ _=>Mi.ln4 fun _ _ _ _=>rfl) fun cdv A outer s H E hr =>
    mss_one (ms_ret (me_bl))
theorem z7h:FnScope ["self","odd","side","below"] ["self","odd","side","below"] (defScope (inClass (top 55) 0)):=⟨rfl,rfl,rfl,by decide +kernel,rfl,by decide +kernel,by decide +kernel⟩
theorem z4z {f:Addr}{fd:FuncData} (T:Tx K mg cl) (D:MethAt K cl 24 "grows" "Upward.grows" (inClass (top 55) 0) f fd):MG P w K mg base cl 1 24 "grows" 3 z54 :=
  D.mgp (N:=["self","odd","side","below"]) (k:=0) (T.ways.cls 24 "Upward" (at_mem 4 rfl)).cls z7h rfl (fun _ _ _ _ _ _=>Mi.ln4 fun _ _ _ _=>rfl) fun cdv A outer s H E hr =>
    mss_one (ms_ret (me_not (mv 3)))
theorem z7b:FnScope ["self","odd","side","below"] ["self","odd","side","below"] (defScope (inClass (top 56) 0)):=⟨rfl,rfl,rfl,by decide +kernel,rfl,by decide +kernel,by decide +kernel⟩
theorem z4w {f:Addr}{fd:FuncData} (T:Tx K mg cl) (D:MethAt K cl 25 "grows" "Downward.grows" (inClass (top 56) 0) f fd):MG P w K mg base cl 1 25 "grows" 3 z51 :=
  D.mgp (N:=["self","odd","side","below"]) (k:=0) (T.ways.cls 25 "Downward" (at_mem 5 rfl)).cls z7b rfl (fun _ _ _ _ _ _=>Mi.ln4 fun _ _ _ _=>rfl) fun cdv A outer s H E hr =>
    mss_one (ms_ret (mv 3))
theorem z7r:FnScope ["value"] ["value"] (defScope (top 12)):=⟨rfl,rfl,rfl,by decide +kernel,rfl,by decide +kernel,by decide +kernel⟩
theorem z3h {f:Addr}{fd:FuncData} (T:Tx K mg cl) (D:DefAt K mg "is_whole" (top 12) f fd):FG P w K mg base cl 1 "is_whole" 1 z3v :=
  D.fg (N:=["value"]) (k:=0) z7r rfl (fun _ _ _ _ _ _=>Mi.ln1 fun _=>rfl) fun cdv A outer s H E hr =>
    mss_one (ms_ret (me_and (me_isinst .int (mv 0) (by rfl) T.b_isinstance (by rfl) T.b_int) (me_one (me_not (me_isinst .bool (mv 0) (by rfl) T.b_isinstance (by rfl) T.b_bool)))))
theorem z7i:FnScope ["count"] ["count"] (defScope (top 20)):=⟨rfl,rfl,rfl,by decide +kernel,rfl,by decide +kernel,by decide +kernel⟩
theorem g_all_ones {f:Addr}{fd:FuncData} (T:Tx K mg cl) (D:DefAt K mg "all_ones" (top 20) f fd):FG P w K mg base cl 1 "all_ones" 1 z6 :=
  D.fg (N:=["count"]) (k:=0) z7i rfl (fun _ _ _ _ _ _=>Mi.ln1 fun _=>rfl) fun cdv A outer s H E hr =>
    mss_one (ms_ret (me_bin r_sub (me_bin r_shl (me_int) (mv 0)) (me_int)))
theorem z7q:FnScope ["width"] ["width"] (defScope (top 28)):=⟨rfl,rfl,rfl,by decide +kernel,rfl,by decide +kernel,by decide +kernel⟩
theorem z1l {f:Addr}{fd:FuncData} (T:Tx K mg cl) (D:DefAt K mg "highest_of_fraction" (top 28) f fd):FG P w K mg base cl 1 "highest_of_fraction" 1 z1x :=
  D.fg (N:=["width"]) (k:=0) z7q rfl (fun _ _ _ _ _ _=>Mi.ln1 fun _=>rfl) fun cdv A outer s H E hr =>
    mss_one (ms_ret (me_bin r_shl (me_int) (me_bin r_sub (me_item (mv 0) (me_int)) (me_int))))
theorem z7z:FnScope ["width"] ["width"] (defScope (top 29)):=⟨rfl,rfl,rfl,by decide +kernel,rfl,by decide +kernel,by decide +kernel⟩
theorem z1n {f:Addr}{fd:FuncData} (T:Tx K mg cl) (D:DefAt K mg "sign_bit" (top 29) f fd):FG P w K mg base cl 1 "sign_bit" 1 z22 :=
  D.fg (N:=["width"]) (k:=0) z7z rfl (fun _ _ _ _ _ _=>Mi.ln1 fun _=>rfl) fun cdv A outer s H E hr =>
    mss_one (ms_ret (me_bin r_shl (me_int) (me_bin r_add (me_item (mv 0) (me_int)) (me_item (mv 0) (me_int)))))
theorem z6j:FnScope ["n","k","spare"] ["n","k"] (defScope (top 34)):=⟨rfl,rfl,rfl,by decide +kernel,rfl,by decide +kernel,by decide +kernel⟩
theorem z3c {f:Addr}{fd:FuncData} (T:Tx K mg cl) (D:DefAt K mg "exact" (top 34) f fd):FG P w K mg base cl 1 "exact" 2 zi :=
  D.fg (N:=["n","k","spare"]) (k:=0) z6j rfl (fun _ _ _ _ _ _=>Mi.ln2 fun _ _=>rfl) fun cdv A outer s H E hr =>
    mss_cons (ms_if (mt_cmp (r_eq (hu64 hr)) (mv 0) (me_int) (nomark _)) (mss_one (ms_ret (me_tup (ma_cons (me_int) (ma_cons (me_int) (ma_nil)))))) (mss_nil)) (mss_cons (ms_set (i:=2) z6j.nd rfl (Or.inl rfl) (me_bin r_sub (me_bitlen (me_bin r_and (mv 0) (me_una r_neg (mv 0)))) (me_int))) (mss_one (ms_ret (me_tup (ma_cons (me_bin r_shr (mv 0) (mv 2)) (ma_cons (me_bin r_add (mv 1) (mv 2)) (ma_nil)))))))
theorem z6i:FnScope ["text"] ["text"] (defScope (top 40)):=⟨rfl,rfl,rfl,by decide +kernel,rfl,by decide +kernel,by decide +kernel⟩
theorem z15 {f:Addr}{fd:FuncData} (T:Tx K mg cl) (D:DefAt K mg "check_figures" (top 40) f fd):FG P w K mg base cl 1 "check_figures" 1 q_check_figures_v3 :=
  D.fg (N:=["text"]) (k:=0) z6i rfl (fun _ _ _ _ _ _=>Mi.ln1 fun _=>rfl) fun cdv A outer s H E hr =>
    mss_one (ms_if ((mw_or (mt_cmp (r_eq (hu64 hr)) (mv 0) (me_str) (nomark _)) (mw_or1 (mt_not (mt_val (me_callB (c_all rfl) (by rfl) T.b_all boot_all (ma_cons (mcomp z6i.nd (by decide +kernel) rfl (mi_str (mv 0)) (fun _ _ _ _=>MC.nil) (fun _ _ _ _=>me_cmp r_in (mv 1) (me_str) (by with_unfolding_all rfl))) (ma_nil))))))).mt) (mss_one (ms_raise (c:=6) (T.cls.cls 6 "NoText" (at_mem 5 rfl)) own_cx (by rfl) hr.hd (mv_str 86))) (mss_nil))
theorem z31:FnScope ["count","power","square"] ["count"] (defScope (top 42)):=⟨rfl,rfl,rfl,by decide +kernel,rfl,by decide +kernel,by decide +kernel⟩
theorem g_ten_power {f:Addr}{fd:FuncData} (T:Tx K mg cl) (D:DefAt K mg "ten_power" (top 42) f fd):FG P w K mg base cl 1 "ten_power" 1 zj :=
  D.fg (N:=["count","power","square"]) (k:=0) z31 rfl (fun _ _ _ _ _ _=>Mi.ln1 fun _=>rfl) fun cdv A outer s H E hr =>
    mss_cons (ms_set (i:=1) z31.nd rfl (Or.inl rfl) (me_int)) (mss_cons (ms_set (i:=2) z31.nd rfl (Or.inl rfl) (me_int)) (mss_cons (ms_while own_cx (mt_cmp r_gt (mv 0) (me_int) (nomark _)) (mss_cons (ms_if (mt_cmp (r_eq (hu64 hr)) (me_bin r_mod (mv 0) (me_int)) (me_int) (nomark _)) (mss_one (ms_set (i:=1) z31.nd rfl (Or.inl rfl) (me_bin r_mul (mv 1) (mv 2)))) (mss_nil)) (mss_cons (ms_set (i:=2) z31.nd rfl (Or.inl rfl) (me_bin r_mul (mv 2) (mv 2))) (mss_one (ms_set (i:=0) z31.nd rfl (Or.inl rfl) (me_bin r_div (mv 0) (me_int))))))) (mss_one (ms_ret (mv 1)))))
theorem z7j:FnScope ["n","k","d"] ["n","k","d"] (defScope (top 44)):=⟨rfl,rfl,rfl,by decide +kernel,rfl,by decide +kernel,by decide +kernel⟩
theorem z1g {f:Addr}{fd:FuncData} (T:Tx K mg cl) (D:DefAt K mg "as_quotient" (top 44) f fd):FG P w K mg base cl 1 "as_quotient" 3 z19 :=
  D.fg (N:=["n","k","d"]) (k:=0) z7j rfl (fun _ _ _ _ _ _=>Mi.ln3 fun _ _ _=>rfl) fun cdv A outer s H E hr =>
    mss_one (ms_ret (me_if (mt_cmp r_ge (mv 1) (me_int) (nomark _)) (me_tup (ma_cons (me_bin r_shl (mv 0) (mv 1)) (ma_cons (mv 2) (ma_nil)))) (me_tup (ma_cons (mv 0) (ma_cons (me_bin r_shl (mv 2) (me_una r_neg (mv 1))) (ma_nil))))))
theorem z83:FnScope ["name"] ["name"] (defScope (top 57)):=⟨rfl,rfl,rfl,by decide +kernel,rfl,by decide +kernel,by decide +kernel⟩
theorem z17 {f:Addr}{fd:FuncData} (T:Tx K mg cl) (D:DefAt K mg "way_of" (top 57) f fd):FG P w K mg base cl 1 "way_of" 1 z1c :=
  D.fg (N:=["name"]) (k:=0) z83 rfl (fun _ _ _ _ _ _=>Mi.ln1 fun _=>rfl) fun cdv A outer s H E hr =>
    mss_cons (ms_if (mt_cmp (r_eq (hu64 hr)) (mv 0) (me_str) (nomark _)) (mss_one (ms_ret (mk0 T.ways (at_mem 1 rfl)))) (mss_nil)) (mss_cons (ms_if (mt_cmp (r_eq (hu64 hr)) (mv 0) (me_str) (nomark _)) (mss_one (ms_ret (mk0 T.ways (at_mem 2 rfl)))) (mss_nil)) (mss_cons (ms_if (mt_cmp (r_eq (hu64 hr)) (mv 0) (me_str) (nomark _)) (mss_one (ms_ret (mk0 T.ways (at_mem 3 rfl)))) (mss_nil)) (mss_cons (ms_if (mt_cmp (r_eq (hu64 hr)) (mv 0) (me_str) (nomark _)) (mss_one (ms_ret (mk0 T.ways (at_mem 4 rfl)))) (mss_nil)) (mss_cons (ms_if (mt_cmp (r_eq (hu64 hr)) (mv 0) (me_str) (nomark _)) (mss_one (ms_ret (mk0 T.ways (at_mem 5 rfl)))) (mss_nil)) (mss_one (ms_raise (c:=3) (T.cls.cls 3 "NoWay" (at_mem 3 rfl)) own_cx (by rfl) hr.hd (mv_str 40)))))))
theorem z5e:FnScope ["decimal","behind","figures"] ["decimal"] (defScope (top 70)):=⟨rfl,rfl,rfl,by decide +kernel,rfl,by decide +kernel,by decide +kernel⟩
theorem z3n {f:Addr}{fd:FuncData} (T:Tx K mg cl) (D:DefAt K mg "point_text" (top 70) f fd) (nd:base.NoDigits):FG P w K mg base cl 1 "point_text" 1 z2c :=
  D.fg (N:=["decimal","behind","figures"]) (k:=0) z5e rfl (fun _ _ _ _ _ _=>Mi.ln1 fun _=>rfl) fun cdv A outer s H E hr =>
    mss_cons (ms_set (i:=1) z5e.nd rfl (Or.inl rfl) (me_una r_neg (me_item (mv 0) (me_int)))) (mss_cons (ms_if (mt_cmp (r_eq (hu64 hr)) (mv 1) (me_int) (nomark _)) (mss_one (ms_ret (me_callTy (c_strL nd) (by rfl) T.b_str boot_str (ma_cons (me_item (mv 0) (me_int)) (ma_nil))))) (mss_nil)) (mss_cons (ms_set (i:=2) z5e.nd rfl (Or.inl rfl) (me_strm gs_zfill c_zfill (me_callTy (c_strL nd) (by rfl) T.b_str boot_str (ma_cons (me_item (mv 0) (me_int)) (ma_nil))) (ma_cons (me_bin r_add (mv 1) (me_int)) (ma_nil)))) (mss_one (ms_ret (me_bin r_add (me_bin r_add (me_cut (mv 2) (mo_none) (mo_some (me_una r_neg (mv 1)))) (me_str)) (me_cut (mv 2) (mo_some (me_una r_neg (mv 1))) (mo_none)))))))
theorem z30:FnScope ["decimal","figures","power","first","others"] ["decimal"] (defScope (top 74)):=⟨rfl,rfl,rfl,by decide +kernel,rfl,by decide +kernel,by decide +kernel⟩
theorem z3o {f:Addr}{fd:FuncData} (T:Tx K mg cl) (D:DefAt K mg "power_text" (top 74) f fd) (nd:base.NoDigits):FG P w K mg base cl 1 "power_text" 1 z20 :=
  D.fg (N:=["decimal","figures","power","first","others"]) (k:=0) z30 rfl (fun _ _ _ _ _ _=>Mi.ln1 fun _=>rfl) fun cdv A outer s H E hr =>
    mss_cons (ms_set (i:=1) z30.nd rfl (Or.inl rfl) (me_callTy (c_strL nd) (by rfl) T.b_str boot_str (ma_cons (me_item (mv 0) (me_int)) (ma_nil)))) (mss_cons (ms_set (i:=2) z30.nd rfl (Or.inl rfl) (me_bin r_sub (me_bin r_add (me_item (mv 0) (me_int)) (me_callB c_len (by rfl) T.b_len PySem.boot_len (ma_cons (mv 1) (ma_nil)))) (me_int))) (mss_cons (ms_set (i:=1) z30.nd rfl (Or.inl rfl) (me_strm gs_rstrip c_rstrip (mv 1) (ma_cons (me_str) (ma_nil)))) (mss_cons (ms_set (i:=3) z30.nd rfl (Or.inl rfl) (me_item (mv 1) (me_int))) (mss_cons (ms_set (i:=4) z30.nd rfl (Or.inl rfl) (me_cut (mv 1) (mo_some (me_int)) (mo_none))) (mss_one (ms_ret (me_if (mt_val (mv 4)) (me_fstr (mfs_cons (mf1_fmt (mv 3)) (mfs_cons (mf1_str) (mfs_cons (mf1_fmt (mv 4)) (mfs_cons (mf1_str) (mfs_cons (mf1_fmt (mv 2)) (mfs_nil))))))) (me_fstr (mfs_cons (mf1_fmt (mv 3)) (mfs_cons (mf1_str) (mfs_cons (mf1_fmt (mv 2)) (mfs_nil))))))))))))
theorem z7e:FnScope ["_law_script","_law_k"] ["_law_script","_law_k"] (defScope (top 76)):=⟨rfl,rfl,rfl,by decide +kernel,rfl,by decide +kernel,by decide +kernel⟩
theorem z2n {f:Addr}{fd:FuncData} (T:Tx K mg cl) (D:DefAt K mg "_law_cell_at" (top 76) f fd):FG P w K mg base cl 1 "_law_cell_at" 2 z1r :=
  D.fg (N:=["_law_script","_law_k"]) (k:=0) z7e rfl (fun _ _ _ _ _ _=>Mi.ln2 fun _ _=>rfl) fun cdv A outer s H E hr =>
    mss_cons (ms_if (mt_cmp r_lt (mv 1) (me_callB c_len (by rfl) T.b_len PySem.boot_len (ma_cons (mv 0) (ma_nil))) (nomark _)) (mss_one (ms_ret (me_item (mv 0) (mv 1)))) (mss_nil)) (mss_one (ms_ret (me_int)))
theorem z6h:FnScope ["_law_cell","_law_mixed"] ["_law_cell"] (defScope (top 77)):=⟨rfl,rfl,rfl,by decide +kernel,rfl,by decide +kernel,by decide +kernel⟩
theorem z3a {f:Addr}{fd:FuncData} (T:Tx K mg cl) (D:DefAt K mg "_law_wide" (top 77) f fd):FG P w K mg base cl 1 "_law_wide" 1 z2a :=
  D.fg (N:=["_law_cell","_law_mixed"]) (k:=0) z6h rfl (fun _ _ _ _ _ _=>Mi.ln1 fun _=>rfl) fun cdv A outer s H E hr =>
    mss_cons (ms_set (i:=1) z6h.nd rfl (Or.inl rfl) (me_bin r_mod (me_bin r_mul (mv 0) (me_int)) (me_int))) (mss_cons (ms_if (mt_cmp (r_eq (hu64 hr)) (me_bin r_mod (mv 1) (me_int)) (me_int) (nomark _)) (mss_one (ms_ret (me_tup (ma_cons (me_bin r_add (me_int) (me_bin r_mod (me_bin r_div (mv 1) (me_int)) (me_int))) (ma_cons (me_bin r_add (me_int) (me_bin r_mod (me_bin r_div (mv 1) (me_int)) (me_int))) (ma_nil)))))) (mss_nil)) (mss_one (ms_ret (me_tup (ma_cons (me_bin r_add (me_int) (me_bin r_mod (me_bin r_div (mv 1) (me_int)) (me_int))) (ma_cons (me_bin r_add (me_int) (me_bin r_mod (me_bin r_div (mv 1) (me_int)) (me_int))) (ma_nil)))))))
theorem z2x:FnScope ["_law_wide_here","_law_cell","_law_many","_law_mixed","_law_last","_law_some","_law_pick"] ["_law_wide_here","_law_cell"] (defScope (top 78)):=⟨rfl,rfl,rfl,by decide +kernel,rfl,by decide +kernel,by decide +kernel⟩
theorem z3b {f:Addr}{fd:FuncData} (T:Tx K mg cl) (D:DefAt K mg "_law_word" (top 78) f fd):FG P w K mg base cl 1 "_law_word" 2 z2b :=
  D.fg (N:=["_law_wide_here","_law_cell","_law_many","_law_mixed","_law_last","_law_some","_law_pick"]) (k:=0) z2x rfl (fun _ _ _ _ _ _=>Mi.ln2 fun _ _=>rfl) fun cdv A outer s H E hr =>
    mss_cons (ms_set (i:=2) z2x.nd rfl (Or.inl rfl) (me_bin r_shl (me_int) (me_bin r_add (me_bin r_add (me_int) (me_item (mv 0) (me_int))) (me_item (mv 0) (me_int))))) (mss_cons (ms_set (i:=3) z2x.nd rfl (Or.inl rfl) (me_bin r_mod (me_bin r_mul (mv 1) (me_int)) (me_bin r_add (me_bin r_pow (me_int) (me_int)) (me_int)))) (mss_cons (ms_set (i:=4) z2x.nd rfl (Or.inl rfl) (me_bin r_shl (me_bin r_sub (me_bin r_shl (me_int) (me_item (mv 0) (me_int))) (me_int)) (me_item (mv 0) (me_int)))) (mss_cons (ms_set (i:=5) z2x.nd rfl (Or.inl rfl) (me_lst (ma_cons (me_int) (ma_cons (me_int) (ma_cons (me_bin r_sub (me_bin r_shl (me_int) (me_item (mv 0) (me_int))) (me_int)) (ma_cons (me_bin r_shl (me_int) (me_item (mv 0) (me_int))) (ma_cons (me_bin r_sub (mv 4) (me_int)) (ma_cons (mv 4) (ma_cons (me_bin r_add (mv 4) (me_int)) (ma_cons (me_bin r_add (mv 4) (me_bin r_shl (me_int) (me_bin r_sub (me_item (mv 0) (me_int)) (me_int)))) (ma_nil))))))))))) (mss_cons (ms_set (i:=6) z2x.nd rfl (Or.inl rfl) (me_bin r_mod (me_bin r_div (mv 3) (mv 2)) (me_int))) (mss_cons (ms_if (mt_cmp r_lt (mv 6) (me_int) (nomark _)) (mss_one (ms_ret (me_bin r_add (me_item (mv 5) (mv 6)) (me_bin r_mul (me_bin r_mod (mv 3) (me_int)) (me_bin r_div (mv 2) (me_int)))))) (mss_nil)) (mss_one (ms_ret (me_bin r_mod (mv 3) (mv 2)))))))))
theorem z7g:FnScope ["_law_wide_here","_law_size"] ["_law_wide_here","_law_size"] (defScope (top 79)):=⟨rfl,rfl,rfl,by decide +kernel,rfl,by decide +kernel,by decide +kernel⟩
theorem z1f {f:Addr}{fd:FuncData} (T:Tx K mg cl) (D:DefAt K mg "_law_steps_of" (top 79) f fd):FG P w K mg base cl 1 "_law_steps_of" 2 zy :=
  D.fg (N:=["_law_wide_here","_law_size"]) (k:=0) z7g rfl (fun _ _ _ _ _ _=>Mi.ln2 fun _ _=>rfl) fun cdv A outer s H E hr =>
    mss_cons (ms_if (mt_cmp r_lt (mv 1) (me_bin r_shl (me_int) (me_item (mv 0) (me_int))) (nomark _)) (mss_one (ms_ret (mv 1))) (mss_nil)) (mss_one (ms_ret (me_bin r_shl (me_bin r_add (me_bin r_mod (mv 1) (me_bin r_shl (me_int) (me_item (mv 0) (me_int)))) (me_bin r_shl (me_int) (me_item (mv 0) (me_int)))) (me_bin r_sub (me_bin r_shr (mv 1) (me_item (mv 0) (me_int))) (me_int)))))
theorem z2w:FnScope ["_law_many","_law_found","_law_base"] ["_law_many"] (defScope (top 80)):=⟨rfl,rfl,rfl,by decide +kernel,rfl,by decide +kernel,by decide +kernel⟩
theorem zb {f:Addr}{fd:FuncData} (T:Tx K mg cl) (D:DefAt K mg "_law_tens" (top 80) f fd):FG P w K mg base cl 1 "_law_tens" 1 z5 :=
  D.fg (N:=["_law_many","_law_found","_law_base"]) (k:=0) z2w rfl (fun _ _ _ _ _ _=>Mi.ln1 fun _=>rfl) fun cdv A outer s H E hr =>
    mss_cons (ms_set (i:=1) z2w.nd rfl (Or.inl rfl) (me_int)) (mss_cons (ms_set (i:=2) z2w.nd rfl (Or.inl rfl) (me_int)) (mss_cons (ms_while own_cx (mt_cmp r_gt (mv 0) (me_int) (nomark _)) (mss_cons (ms_if (mt_cmp (r_eq (hu64 hr)) (me_bin r_mod (mv 0) (me_int)) (me_int) (nomark _)) (mss_one (ms_set (i:=1) z2w.nd rfl (Or.inl rfl) (me_bin r_mul (mv 1) (mv 2)))) (mss_nil)) (mss_cons (ms_set (i:=2) z2w.nd rfl (Or.inl rfl) (me_bin r_mul (mv 2) (mv 2))) (mss_one (ms_set (i:=0) z2w.nd rfl (Or.inl rfl) (me_bin r_div (mv 0) (me_int))))))) (mss_one (ms_ret (mv 1)))))
theorem z6g:FnScope ["_law_text","_law_sign"] ["_law_text"] (defScope (top 81)):=⟨rfl,rfl,rfl,by decide +kernel,rfl,by decide +kernel,by decide +kernel⟩
theorem z2m {f:Addr}{fd:FuncData} (T:Tx K mg cl) (D:DefAt K mg "_law_all_figures" (top 81) f fd):FG P w K mg base cl 1 "_law_all_figures" 1 z1q :=
  D.fg (N:=["_law_text","_law_sign"]) (k:=0) z6g rfl (fun _ _ _ _ _ _=>Mi.ln1 fun _=>rfl) fun cdv A outer s H E hr =>
    mss_cons (ms_for (i:=1) own_cx rfl z6g.nd rfl (Or.inl rfl) (mi_str (mv 0)) (mss_one (ms_if (mt_cmp (r_notIn (hu64 hr)) (mv 1) (me_str) (by with_unfolding_all rfl)) (mss_one (ms_ret (me_bl))) (mss_nil)))) (mss_one (ms_ret (me_and (me_cmp (r_ne (hu64 hr)) (mv 0) (me_str) (nomark _)) (me_one (me_or (me_cmp (r_eq (hu64 hr)) (mv 0) (me_str) (nomark _)) (me_one (me_cmp (r_ne (hu64 hr)) (me_cut (mv 0) (mo_none) (mo_some (me_int))) (me_str) (nomark _))))))))
theorem z5b:FnScope ["_law_wide_here","_law_word_here","_law_half","_law_last"] ["_law_wide_here","_law_word_here"] (defScope (top 87)):=⟨rfl,rfl,rfl,by decide +kernel,rfl,by decide +kernel,by decide +kernel⟩
theorem z2o {f:Addr}{fd:FuncData} (T:Tx K mg cl) (D:DefAt K mg "_law_due" (top 87) f fd):FG P w K mg base cl 1 "_law_due" 2 zh :=
  D.fg (N:=["_law_wide_here","_law_word_here","_law_half","_law_last"]) (k:=0) z5b rfl (fun _ _ _ _ _ _=>Mi.ln2 fun _ _=>rfl) fun cdv A outer s H E hr =>
    mss_cons (ms_set (i:=2) z5b.nd rfl (Or.inl rfl) (me_bin r_shl (me_int) (me_bin r_add (me_item (mv 0) (me_int)) (me_item (mv 0) (me_int))))) (mss_cons (ms_set (i:=3) z5b.nd rfl (Or.inl rfl) (me_bin r_shl (me_bin r_sub (me_bin r_shl (me_int) (me_item (mv 0) (me_int))) (me_int)) (me_item (mv 0) (me_int)))) (mss_cons (ms_if (mt_cmp r_gt (me_bin r_mod (mv 1) (mv 2)) (mv 3) (nomark _)) (mss_one (ms_ret (me_str))) (mss_nil)) (mss_cons (ms_if (mt_cmp (r_eq (hu64 hr)) (me_bin r_mod (mv 1) (mv 2)) (mv 3) (nomark _)) (mss_one (ms_ret (me_item (me_lst (ma_cons (me_str) (ma_cons (me_str) (ma_nil)))) (me_bin r_div (mv 1) (mv 2))))) (mss_nil)) (mss_cons (ms_if (mt_cmp (r_eq (hu64 hr)) (me_bin r_mod (mv 1) (mv 2)) (me_int) (nomark _)) (mss_one (ms_ret (me_item (me_lst (ma_cons (me_str) (ma_cons (me_str) (ma_nil)))) (me_bin r_div (mv 1) (mv 2))))) (mss_nil)) (mss_one (ms_ret (me_str)))))))
theorem z7s:FnScope ["value","low","high"] ["value","low","high"] (defScope (top 13)):=⟨rfl,rfl,rfl,by decide +kernel,rfl,by decide +kernel,by decide +kernel⟩
theorem ze {f:Addr}{fd:FuncData} (T:Tx K mg cl) (D:DefAt K mg "is_within" (top 13) f fd) (z3h:FG P w K mg base cl 1 "is_whole" 1 z3v):FG P w K mg base cl 2 "is_within" 3 zt :=
  D.fg (N:=["value","low","high"]) (k:=1) z7s rfl (fun _ _ _ _ _ _=>Mi.ln3 fun _ _ _=>rfl) fun cdv A outer s H E hr =>
    mss_one (ms_ret (me_and (mc z3h hr T.inj (ma_cons (mv 0) (ma_nil))) (me_one (me_chain r_le r_le (mv 1) (mv 0) (mv 2)))))
theorem z5f:FnScope ["text","below","figures"] ["text"] (defScope (top 41)):=⟨rfl,rfl,rfl,by decide +kernel,rfl,by decide +kernel,by decide +kernel⟩
theorem z3p {f:Addr}{fd:FuncData} (T:Tx K mg cl) (D:DefAt K mg "power_written" (top 41) f fd) (z15:FG P w K mg base cl 1 "check_figures" 1 q_check_figures_v3) (nd:base.NoDigits):FG P w K mg base cl 2 "power_written" 1 zu :=
  D.fg (N:=["text","below","figures"]) (k:=1) z5f rfl (fun _ _ _ _ _ _=>Mi.ln1 fun _=>rfl) fun cdv A outer s H E hr =>
    mss_cons (ms_set (i:=1) z5f.nd rfl (Or.inl rfl) (me_strm gs_startswith c_startswith (mv 0) (ma_cons (me_str) (ma_nil)))) (mss_cons (ms_set (i:=2) z5f.nd rfl (Or.inl rfl) (me_if (mt_val (mv 1)) (me_cut (mv 0) (mo_some (me_int)) (mo_none)) (mv 0))) (mss_cons (ms_expr (mc z15 hr T.inj (ma_cons (mv 2) (ma_nil)))) (mss_cons (ms_if (mt_cmp r_gt (me_callB c_len (by rfl) T.b_len PySem.boot_len (ma_cons (mv 2) (ma_nil))) (me_globI (by rfl) T.c_MOST_POWER_FIGURES) (nomark _)) (mss_one (ms_raise (c:=6) (T.cls.cls 6 "NoText" (at_mem 5 rfl)) own_cx (by rfl) hr.hd (mv_join (mvs_cons (mv_str 32) (mvs_cons (mv_fmt (me_globI (by rfl) T.c_MOST_POWER_FIGURES)) (mvs_cons (mv_str 8) (mvs_nil))))))) (mss_nil)) (mss_one (ms_ret (me_if (mt_val (mv 1)) (me_una r_neg (me_callTy (c_intL nd) (by rfl) T.b_int boot_int (ma_cons (mv 2) (ma_nil)))) (me_callTy (c_intL nd) (by rfl) T.b_int boot_int (ma_cons (mv 2) (ma_nil)))))))))
theorem z3z:FnScope ["n","k","d","size","height","parts"] ["n","k","d"] (defScope (top 45)):=⟨rfl,rfl,rfl,by decide +kernel,rfl,by decide +kernel,by decide +kernel⟩
theorem z3f {f:Addr}{fd:FuncData} (T:Tx K mg cl) (D:DefAt K mg "height_of" (top 45) f fd) (z1g:FG P w K mg base cl 1 "as_quotient" 3 z19):FG P w K mg base cl 2 "height_of" 3 z1w :=
  D.fg (N:=["n","k","d","size","height","parts"]) (k:=1) z3z rfl (fun _ _ _ _ _ _=>Mi.ln3 fun _ _ _=>rfl) fun cdv A outer s H E hr =>
    mss_cons (ms_if (mt_cmp (r_eq (hu64 hr)) (mv 0) (me_int) (nomark _)) (mss_one (ms_raise (c:=4) (T.cls.cls 4 "NoNumber" (at_mem 4 rfl)) own_cx (by rfl) hr.hd (mv_str 20))) (mss_nil)) (mss_cons (ms_set (i:=3) z3z.nd rfl (Or.inl rfl) (me_callB c_abs (by rfl) T.b_abs boot_abs (ma_cons (mv 0) (ma_nil)))) (mss_cons (ms_set (i:=4) z3z.nd rfl (Or.inl rfl) (me_bin r_sub (me_bitlen (mv 3)) (me_bitlen (mv 2)))) (mss_cons (ms_set (i:=5) z3z.nd rfl (Or.inl rfl) (mc z1g hr T.inj (ma_cons (mv 3) (ma_cons (me_una r_neg (mv 4)) (ma_cons (mv 2) (ma_nil)))))) (mss_cons (ms_if (mt_cmp r_lt (me_item (mv 5) (me_int)) (me_item (mv 5) (me_int)) (nomark _)) (mss_one (ms_set (i:=4) z3z.nd rfl (Or.inl rfl) (me_bin r_sub (mv 4) (me_int)))) (mss_nil)) (mss_one (ms_ret (me_bin r_add (mv 4) (mv 1))))))))
theorem z4c:FnScope ["n","k","d","g","parts","m","twice_the_rest"] ["n","k","d","g"] (defScope (top 46)):=⟨rfl,rfl,rfl,by decide +kernel,rfl,by decide +kernel,by decide +kernel⟩
theorem z3g {f:Addr}{fd:FuncData} (T:Tx K mg cl) (D:DefAt K mg "in_steps" (top 46) f fd) (z1g:FG P w K mg base cl 1 "as_quotient" 3 z19):FG P w K mg base cl 2 "in_steps" 4 z11 :=
  D.fg (N:=["n","k","d","g","parts","m","twice_the_rest"]) (k:=1) z4c rfl (fun _ _ _ _ _ _=>Mi.ln4 fun _ _ _ _=>rfl) fun cdv A outer s H E hr =>
    mss_cons (ms_set (i:=4) z4c.nd rfl (Or.inl rfl) (mc z1g hr T.inj (ma_cons (me_callB c_abs (by rfl) T.b_abs boot_abs (ma_cons (mv 0) (ma_nil))) (ma_cons (me_bin r_sub (mv 1) (mv 3)) (ma_cons (mv 2) (ma_nil)))))) (mss_cons (ms_set (i:=5) z4c.nd rfl (Or.inl rfl) (me_bin r_div (me_item (mv 4) (me_int)) (me_item (mv 4) (me_int)))) (mss_cons (ms_set (i:=6) z4c.nd rfl (Or.inl rfl) (me_bin r_mul (me_int) (me_bin r_sub (me_item (mv 4) (me_int)) (me_bin r_mul (mv 5) (me_item (mv 4) (me_int)))))) (mss_cons (ms_if (mt_cmp (r_eq (hu64 hr)) (mv 6) (me_int) (nomark _)) (mss_one (ms_ret (me_tup (ma_cons (mv 5) (ma_cons (me_int) (ma_nil)))))) (mss_nil)) (mss_cons (ms_if (mt_cmp r_lt (mv 6) (me_item (mv 4) (me_int)) (nomark _)) (mss_one (ms_ret (me_tup (ma_cons (mv 5) (ma_cons (me_int) (ma_nil)))))) (mss_nil)) (mss_one (ms_ret (me_tup (ma_cons (mv 5) (ma_cons (me_if (mt_cmp (r_eq (hu64 hr)) (mv 6) (me_item (mv 4) (me_int)) (nomark _)) (me_int) (me_int)) (ma_nil))))))))))
theorem z6l:FnScope ["chosen","place","below","grown"] ["chosen","place","below"] (defScope (top 61)):=⟨rfl,rfl,rfl,by decide +kernel,rfl,by decide +kernel,by decide +kernel⟩
theorem z3r {f:Addr}{fd:FuncData} (T:Tx K mg cl) (D:DefAt K mg "steps_taken" (top 61) f fd) (m_grows:FM P w K mg base cl 1 "grows" 3 z2i):FG P w K mg base cl 2 "steps_taken" 3 z2d :=
  D.fg (N:=["chosen","place","below","grown"]) (k:=1) z6l rfl (fun _ _ _ _ _ _=>Mi.ln3 fun _ _ _=>rfl) fun cdv A outer s H E hr =>
    mss_cons (ms_set (i:=3) z6l.nd rfl (Or.inl rfl) (me_and (me_cmp (r_ne (hu64 hr)) (me_item (mv 1) (me_int)) (me_int) (nomark _)) (me_one (mm m_grows hr T.inj (mv 0) (ma_cons (me_cmp (r_eq (hu64 hr)) (me_bin r_mod (me_item (mv 1) (me_int)) (me_int)) (me_int) (nomark _)) (ma_cons (me_item (mv 1) (me_int)) (ma_cons (mv 2) (ma_nil)))))))) (mss_one (ms_ret (me_if (mt_val (mv 3)) (me_bin r_add (me_item (mv 1) (me_int)) (me_int)) (me_item (mv 1) (me_int)))))
theorem z1d:FnScope ["_law_text","_law_figures","_law_body","_law_mark","_law_behind","_law_first","_law_point","_law_tail"] ["_law_text"] (defScope (top 82)):=⟨rfl,rfl,rfl,by decide +kernel,rfl,by decide +kernel,by decide +kernel⟩
theorem z39 {f:Addr}{fd:FuncData} (T:Tx K mg cl) (D:DefAt K mg "_law_parts" (top 82) f fd) (z2m:FG P w K mg base cl 1 "_law_all_figures" 1 z1q) (nd:base.NoDigits):FG P w K mg base cl 2 "_law_parts" 1 zq :=
  D.fg (N:=["_law_text","_law_figures","_law_body","_law_mark","_law_behind","_law_first","_law_point","_law_tail"]) (k:=1) z1d rfl (fun _ _ _ _ _ _=>Mi.ln1 fun _=>rfl) fun cdv A outer s H E hr =>
    mss_cons (ms_unpack rfl (me_strm gs_partition c_partition (mv 0) (ma_cons (me_str) (ma_nil))) (mgs_cons (i:=2) z1d.nd rfl (Or.inl rfl) (mgs_cons (i:=3) z1d.nd rfl (Or.inl rfl) (mgs_cons (i:=4) z1d.nd rfl (Or.inl rfl) (mgs_nil)))) (show ∀ i∈([2,3,4]:List Nat),i<8 by decide)) (mss_cons (ms_unpack rfl (me_strm gs_partition c_partition (mv 2) (ma_cons (me_str) (ma_nil))) (mgs_cons (i:=5) z1d.nd rfl (Or.inl rfl) (mgs_cons (i:=6) z1d.nd rfl (Or.inl rfl) (mgs_cons (i:=7) z1d.nd rfl (Or.inl rfl) (mgs_nil)))) (show ∀ i∈([5,6,7]:List Nat),i<8 by decide)) (mss_cons (ms_set (i:=1) z1d.nd rfl (Or.inl rfl) (mv 4)) (mss_cons (ms_if (mt_cmp (r_eq (hu64 hr)) (me_cut (mv 4) (mo_none) (mo_some (me_int))) (me_str) (nomark _)) (mss_one (ms_set (i:=1) z1d.nd rfl (Or.inl rfl) (me_cut (mv 4) (mo_some (me_int)) (mo_none)))) (mss_nil)) (mss_cons (ms_if ((mw_or (mt_cmp (r_ne (hu64 hr)) (mv 3) (me_str) (nomark _)) (mw_or (mt_not (mt_val (mc z2m hr T.inj (ma_cons (mv 1) (ma_nil))))) (mw_or (mt_cmp (r_eq (hu64 hr)) (mv 4) (me_str) (nomark _)) (mw_or1 (mt_cmp r_gt (me_callB c_len (by rfl) T.b_len PySem.boot_len (ma_cons (mv 1) (ma_nil))) (me_int) (nomark _)))))).mt) (mss_one (ms_ret (me_non))) (mss_nil)) (mss_cons (ms_if ((mw_or (mt_cmp (r_ne (hu64 hr)) (me_callB c_len (by rfl) T.b_len PySem.boot_len (ma_cons (mv 5) (ma_nil))) (me_int) (nomark _)) (mw_or1 (mt_cmp (r_notIn (hu64 hr)) (mv 5) (me_str) (by with_unfolding_all rfl)))).mt) (mss_one (ms_ret (me_non))) (mss_nil)) (mss_cons (ms_if ((mw_and (mt_cmp (r_eq (hu64 hr)) (mv 6) (me_str) (nomark _)) (mw_and1 ((mw_or (mt_not (mt_val (mc z2m hr T.inj (ma_cons (me_bin r_add (me_str) (mv 7)) (ma_nil))))) (mw_or (mt_cmp (r_eq (hu64 hr)) (mv 7) (me_str) (nomark _)) (mw_or1 (mt_cmp (r_eq (hu64 hr)) (me_cut (mv 7) (mo_some (me_bin r_sub (me_callB c_len (by rfl) T.b_len PySem.boot_len (ma_cons (mv 7) (ma_nil))) (me_int))) (mo_none)) (me_str) (nomark _))))).mt))).mt) (mss_one (ms_ret (me_non))) (mss_nil)) (mss_one (ms_ret (me_tup (ma_cons (me_callTy (c_intL nd) (by rfl) T.b_int boot_int (ma_cons (me_bin r_add (mv 5) (mv 7)) (ma_nil))) (ma_cons (me_callTy (c_intL nd) (by rfl) T.b_int boot_int (ma_cons (mv 4) (ma_nil))) (ma_cons (me_bin r_add (me_int) (me_callB c_len (by rfl) T.b_len PySem.boot_len (ma_cons (mv 7) (ma_nil)))) (ma_nil)))))))))))))
theorem z2f:FnScope ["_law_wide_here","_law_size","_law_many","_law_power","_law_deep","_law_ten","_law_top","_law_bottom","_law_lower","_law_rest"] ["_law_wide_here","_law_size","_law_many","_law_power"] (defScope (top 83)):=⟨rfl,rfl,rfl,by decide +kernel,rfl,by decide +kernel,by decide +kernel⟩
theorem z2p {f:Addr}{fd:FuncData} (T:Tx K mg cl) (D:DefAt K mg "_law_next_two" (top 83) f fd) (z1f:FG P w K mg base cl 1 "_law_steps_of" 2 zy) (zb:FG P w K mg base cl 1 "_law_tens" 1 z5):FG P w K mg base cl 2 "_law_next_two" 4 z1s :=
  D.fg (N:=["_law_wide_here","_law_size","_law_many","_law_power","_law_deep","_law_ten","_law_top","_law_bottom","_law_lower","_law_rest"]) (k:=1) z2f rfl (fun _ _ _ _ _ _=>Mi.ln4 fun _ _ _ _=>rfl) fun cdv A outer s H E hr =>
    mss_cons (ms_set (i:=4) z2f.nd rfl (Or.inl rfl) (me_bin r_sub (me_bin r_add (me_item (mv 0) (me_int)) (me_bin r_shl (me_int) (me_bin r_sub (me_item (mv 0) (me_int)) (me_int)))) (me_int))) (mss_cons (ms_set (i:=5) z2f.nd rfl (Or.inl rfl) (me_bin r_add (me_bin r_sub (mv 3) (mv 2)) (me_int))) (mss_cons (ms_set (i:=6) z2f.nd rfl (Or.inl rfl) (me_bin r_mul (mc z1f hr T.inj (ma_cons (mv 0) (ma_cons (mv 1) (ma_nil)))) (mc zb hr T.inj (ma_cons (me_callB (c_max rfl) (by rfl) T.b_max boot_max (ma_cons (me_bin r_sub (me_int) (mv 5)) (ma_cons (me_int) (ma_nil)))) (ma_nil))))) (mss_cons (ms_set (i:=7) z2f.nd rfl (Or.inl rfl) (me_bin r_shl (mc zb hr T.inj (ma_cons (me_callB (c_max rfl) (by rfl) T.b_max boot_max (ma_cons (mv 5) (ma_cons (me_int) (ma_nil)))) (ma_nil))) (mv 4))) (mss_cons (ms_unpack rfl (me_callB c_divmod (by rfl) T.b_divmod boot_divmod (ma_cons (mv 6) (ma_cons (mv 7) (ma_nil)))) (mgs_cons (i:=8) z2f.nd rfl (Or.inl rfl) (mgs_cons (i:=9) z2f.nd rfl (Or.inl rfl) (mgs_nil))) (show ∀ i∈([8,9]:List Nat),i<10 by decide)) (mss_one (ms_ret (me_tup (ma_cons (mv 8) (ma_cons (me_bin r_add (mv 8) (me_int)) (ma_cons (mv 5) (ma_cons (me_bin r_sub (me_bin r_mul (me_int) (mv 9)) (mv 7)) (ma_nil))))))))))))
theorem z3x:FnScope ["_law_wide_here","_law_size","_law_power","_law_deep","_law_top","_law_bottom"] ["_law_wide_here","_law_size","_law_power"] (defScope (top 85)):=⟨rfl,rfl,rfl,by decide +kernel,rfl,by decide +kernel,by decide +kernel⟩
theorem z37 {f:Addr}{fd:FuncData} (T:Tx K mg cl) (D:DefAt K mg "_law_decade" (top 85) f fd) (z1f:FG P w K mg base cl 1 "_law_steps_of" 2 zy) (zb:FG P w K mg base cl 1 "_law_tens" 1 z5):FG P w K mg base cl 2 "_law_decade" 3 z28 :=
  D.fg (N:=["_law_wide_here","_law_size","_law_power","_law_deep","_law_top","_law_bottom"]) (k:=1) z3x rfl (fun _ _ _ _ _ _=>Mi.ln3 fun _ _ _=>rfl) fun cdv A outer s H E hr =>
    mss_cons (ms_set (i:=3) z3x.nd rfl (Or.inl rfl) (me_bin r_sub (me_bin r_add (me_item (mv 0) (me_int)) (me_bin r_shl (me_int) (me_bin r_sub (me_item (mv 0) (me_int)) (me_int)))) (me_int))) (mss_cons (ms_set (i:=4) z3x.nd rfl (Or.inl rfl) (me_bin r_mul (mc z1f hr T.inj (ma_cons (mv 0) (ma_cons (mv 1) (ma_nil)))) (mc zb hr T.inj (ma_cons (me_callB (c_max rfl) (by rfl) T.b_max boot_max (ma_cons (me_bin r_sub (me_int) (mv 2)) (ma_cons (me_int) (ma_nil)))) (ma_nil))))) (mss_cons (ms_set (i:=5) z3x.nd rfl (Or.inl rfl) (me_bin r_shl (mc zb hr T.inj (ma_cons (me_callB (c_max rfl) (by rfl) T.b_max boot_max (ma_cons (mv 2) (ma_cons (me_int) (ma_nil)))) (ma_nil))) (mv 3))) (mss_cons (ms_if (mt_cmp r_lt (mv 4) (mv 5) (nomark _)) (mss_cons (ms_set (i:=2) z3x.nd rfl (Or.inl rfl) (me_bin r_sub (mv 2) (me_int))) (mss_one (ms_ret (me_tup (ma_cons (mv 2) (ma_cons (me_cmp r_ge (me_bin r_mul (me_int) (mv 4)) (mv 5) (nomark _)) (ma_nil))))))) (mss_nil)) (mss_one (ms_ret (me_tup (ma_cons (mv 2) (ma_cons (me_cmp r_lt (mv 4) (me_bin r_mul (me_int) (mv 5)) (nomark _)) (ma_nil)))))))))
theorem z84:FnScope ["e","f"] ["e","f"] (defScope (top 14)):=⟨rfl,rfl,rfl,by decide +kernel,rfl,by decide +kernel,by decide +kernel⟩
theorem z8 {f:Addr}{fd:FuncData} (T:Tx K mg cl) (D:DefAt K mg "width_of" (top 14) f fd) (ze:FG P w K mg base cl 2 "is_within" 3 zt):FG P w K mg base cl 3 "width_of" 2 zk :=
  D.fg (N:=["e","f"]) (k:=2) z84 rfl (fun _ _ _ _ _ _=>Mi.ln2 fun _ _=>rfl) fun cdv A outer s H E hr =>
    mss_cons (ms_if (mt_not (mt_val (mc ze hr T.inj (ma_cons (mv 0) (ma_cons (me_globI (by rfl) T.c_LEAST_E) (ma_cons (me_globI (by rfl) T.c_MOST_E) (ma_nil))))))) (mss_one (ms_raise (c:=1) (T.cls.cls 1 "NoWidth" (at_mem 1 rfl)) own_cx (by rfl) hr.hd (mv_join (mvs_cons (mv_str 44) (mvs_cons (mv_fmt (me_globI (by rfl) T.c_LEAST_E)) (mvs_cons (mv_str 4) (mvs_cons (mv_fmt (me_globI (by rfl) T.c_MOST_E)) (mvs_nil)))))))) (mss_nil)) (mss_cons (ms_if (mt_not (mt_val (mc ze hr T.inj (ma_cons (mv 1) (ma_cons (me_globI (by rfl) T.c_LEAST_F) (ma_cons (me_globI (by rfl) T.c_MOST_F) (ma_nil))))))) (mss_one (ms_raise (c:=1) (T.cls.cls 1 "NoWidth" (at_mem 1 rfl)) own_cx (by rfl) hr.hd (mv_join (mvs_cons (mv_str 44) (mvs_cons (mv_fmt (me_globI (by rfl) T.c_LEAST_F)) (mvs_cons (mv_str 4) (mvs_cons (mv_fmt (me_globI (by rfl) T.c_MOST_F)) (mvs_nil)))))))) (mss_nil)) (mss_one (ms_ret (me_tup (ma_cons (mv 0) (ma_cons (mv 1) (ma_nil)))))))
theorem z7l:FnScope ["part","count"] ["part","count"] (defScope (top 22)):=⟨rfl,rfl,rfl,by decide +kernel,rfl,by decide +kernel,by decide +kernel⟩
theorem z27 {f:Addr}{fd:FuncData} (T:Tx K mg cl) (D:DefAt K mg "check_part" (top 22) f fd) (ze:FG P w K mg base cl 2 "is_within" 3 zt) (g_all_ones:FG P w K mg base cl 1 "all_ones" 1 z6):FG P w K mg base cl 3 "check_part" 2 z1u :=
  D.fg (N:=["part","count"]) (k:=2) z7l rfl (fun _ _ _ _ _ _=>Mi.ln2 fun _ _=>rfl) fun cdv A outer s H E hr =>
    mss_one (ms_if (mt_not (mt_val (mc ze hr T.inj (ma_cons (mv 0) (ma_cons (me_int) (ma_cons (mc g_all_ones hr T.inj (ma_cons (mv 1) (ma_nil))) (ma_nil))))))) (mss_one (ms_raise (c:=2) (T.cls.cls 2 "NoWord" (at_mem 2 rfl)) own_cx (by rfl) hr.hd (mv_join (mvs_cons (mv_str 59) (mvs_cons (mv_fmt (mv 1)) (mvs_cons (mv_str 5) (mvs_nil))))))) (mss_nil))
theorem z40:FnScope ["text","below","halves","rows","power"] ["text"] (defScope (top 39)):=⟨rfl,rfl,rfl,by decide +kernel,rfl,by decide +kernel,by decide +kernel⟩
theorem z3m {f:Addr}{fd:FuncData} (T:Tx K mg cl) (D:DefAt K mg "parts_of" (top 39) f fd) (z15:FG P w K mg base cl 1 "check_figures" 1 q_check_figures_v3) (z3p:FG P w K mg base cl 2 "power_written" 1 zu) (nd:base.NoDigits):FG P w K mg base cl 3 "parts_of" 1 z4 :=
  D.fg (N:=["text","below","halves","rows","power"]) (k:=2) z40 rfl (fun _ _ _ _ _ _=>Mi.ln1 fun _=>rfl) fun cdv A outer s H E hr =>
    mss_cons (ms_if ((mw_or (mt_not (mt_val (me_isinst .str (mv 0) (by rfl) T.b_isinstance (by rfl) T.b_str))) (mw_or1 (mt_cmp r_gt (me_callB c_len (by rfl) T.b_len PySem.boot_len (ma_cons (mv 0) (ma_nil))) (me_globI (by rfl) T.c_MOST_SIGNS) (nomark _)))).mt) (mss_one (ms_raise (c:=6) (T.cls.cls 6 "NoText" (at_mem 5 rfl)) own_cx (by rfl) hr.hd (mv_join (mvs_cons (mv_str 41) (mvs_cons (mv_fmt (me_globI (by rfl) T.c_MOST_SIGNS)) (mvs_cons (mv_str 6) (mvs_nil))))))) (mss_nil)) (mss_cons (ms_set (i:=1) z40.nd rfl (Or.inl rfl) (me_strm gs_startswith c_startswith (mv 0) (ma_cons (me_str) (ma_nil)))) (mss_cons (ms_set (i:=2) z40.nd rfl (Or.inl rfl) (me_strm gs_partition c_partition (me_if (mt_val (mv 1)) (me_cut (mv 0) (mo_some (me_int)) (mo_none)) (mv 0)) (ma_cons (me_str) (ma_nil)))) (mss_cons (ms_set (i:=3) z40.nd rfl (Or.inl rfl) (me_strm gs_partition c_partition (me_item (mv 2) (me_int)) (ma_cons (me_str) (ma_nil)))) (mss_cons (ms_expr (mc z15 hr T.inj (ma_cons (me_item (mv 3) (me_int)) (ma_nil)))) (mss_cons (ms_if (mt_cmp (r_eq (hu64 hr)) (me_item (mv 3) (me_int)) (me_str) (nomark _)) (mss_one (ms_expr (mc z15 hr T.inj (ma_cons (me_item (mv 3) (me_int)) (ma_nil))))) (mss_nil)) (mss_cons (ms_set (i:=4) z40.nd rfl (Or.inl rfl) (me_if (mt_cmp (r_eq (hu64 hr)) (me_item (mv 2) (me_int)) (me_str) (nomark _)) (mc z3p hr T.inj (ma_cons (me_item (mv 2) (me_int)) (ma_nil))) (me_int))) (mss_one (ms_ret (me_tup (ma_cons (mv 1) (ma_cons (me_callTy (c_intL nd) (by rfl) T.b_int boot_int (ma_cons (me_bin r_add (me_item (mv 3) (me_int)) (me_item (mv 3) (me_int))) (ma_nil))) (ma_cons (me_bin r_sub (mv 4) (me_callB c_len (by rfl) T.b_len PySem.boot_len (ma_cons (me_item (mv 3) (me_int)) (ma_nil)))) (ma_nil)))))))))))))
theorem z7m:FnScope ["width"] ["width"] (defScope (top 15)):=⟨rfl,rfl,rfl,by decide +kernel,rfl,by decide +kernel,by decide +kernel⟩
theorem g_check_width {f:Addr}{fd:FuncData} (T:Tx K mg cl) (D:DefAt K mg "check_width" (top 15) f fd) (z8:FG P w K mg base cl 3 "width_of" 2 zk):FG P w K mg base cl 4 "check_width" 1 q_check_width :=
  D.fg (N:=["width"]) (k:=3) z7m rfl (fun _ _ _ _ _ _=>Mi.ln1 fun _=>rfl) fun cdv A outer s H E hr =>
    mss_cons (ms_if ((mw_or (mt_not (mt_val (me_isinst .tuple (mv 0) (by rfl) T.b_isinstance (by rfl) T.b_tuple))) (mw_or1 (mt_cmp (r_ne (hu64 hr)) (me_callB c_len (by rfl) T.b_len PySem.boot_len (ma_cons (mv 0) (ma_nil))) (me_int) (nomark _)))).mt) (mss_one (ms_raise (c:=1) (T.cls.cls 1 "NoWidth" (at_mem 1 rfl)) own_cx (by rfl) hr.hd (mv_str 39))) (mss_nil)) (mss_one (ms_expr (mc z8 hr T.inj (ma_cons (me_item (mv 0) (me_int)) (ma_cons (me_item (mv 0) (me_int)) (ma_nil))))))
theorem z7v:FnScope ["width"] ["width"] (defScope (top 16)):=⟨rfl,rfl,rfl,by decide +kernel,rfl,by decide +kernel,by decide +kernel⟩
theorem z3i {f:Addr}{fd:FuncData} (T:Tx K mg cl) (D:DefAt K mg "many_words" (top 16) f fd) (g_check_width:FG P w K mg base cl 4 "check_width" 1 q_check_width):FG P w K mg base cl 5 "many_words" 1 z2u :=
  D.fg (N:=["width"]) (k:=4) z7v rfl (fun _ _ _ _ _ _=>Mi.ln1 fun _=>rfl) fun cdv A outer s H E hr =>
    mss_cons (ms_expr (mc g_check_width hr T.inj (ma_cons (mv 0) (ma_nil)))) (mss_one (ms_ret (me_bin r_shl (me_int) (me_bin r_add (me_bin r_add (me_int) (me_item (mv 0) (me_int))) (me_item (mv 0) (me_int))))))
theorem z7k:FnScope ["width"] ["width"] (defScope (top 17)):=⟨rfl,rfl,rfl,by decide +kernel,rfl,by decide +kernel,by decide +kernel⟩
theorem z1h {f:Addr}{fd:FuncData} (T:Tx K mg cl) (D:DefAt K mg "bias_of" (top 17) f fd) (g_check_width:FG P w K mg base cl 4 "check_width" 1 q_check_width):FG P w K mg base cl 5 "bias_of" 1 z1t :=
  D.fg (N:=["width"]) (k:=4) z7k rfl (fun _ _ _ _ _ _=>Mi.ln1 fun _=>rfl) fun cdv A outer s H E hr =>
    mss_cons (ms_expr (mc g_check_width hr T.inj (ma_cons (mv 0) (ma_nil)))) (mss_one (ms_ret (me_bin r_sub (me_bin r_shl (me_int) (me_bin r_sub (me_item (mv 0) (me_int)) (me_int))) (me_int))))
theorem z7t:FnScope ["width","sign","exponent","fraction"] ["width","sign","exponent","fraction"] (defScope (top 24)):=⟨rfl,rfl,rfl,by decide +kernel,rfl,by decide +kernel,by decide +kernel⟩
theorem z1m {f:Addr}{fd:FuncData} (T:Tx K mg cl) (D:DefAt K mg "joined" (top 24) f fd) (g_check_width:FG P w K mg base cl 4 "check_width" 1 q_check_width) (z27:FG P w K mg base cl 3 "check_part" 2 z1u):FG P w K mg base cl 5 "joined" 4 z1y :=
  D.fg (N:=["width","sign","exponent","fraction"]) (k:=4) z7t rfl (fun _ _ _ _ _ _=>Mi.ln4 fun _ _ _ _=>rfl) fun cdv A outer s H E hr =>
    mss_cons (ms_expr (mc g_check_width hr T.inj (ma_cons (mv 0) (ma_nil)))) (mss_cons (ms_expr (mc z27 hr T.inj (ma_cons (mv 1) (ma_cons (me_int) (ma_nil))))) (mss_cons (ms_expr (mc z27 hr T.inj (ma_cons (mv 2) (ma_cons (me_item (mv 0) (me_int)) (ma_nil))))) (mss_cons (ms_expr (mc z27 hr T.inj (ma_cons (mv 3) (ma_cons (me_item (mv 0) (me_int)) (ma_nil))))) (mss_one (ms_ret (me_bin r_add (me_bin r_add (me_bin r_shl (mv 1) (me_bin r_add (me_item (mv 0) (me_int)) (me_item (mv 0) (me_int)))) (me_bin r_shl (mv 2) (me_item (mv 0) (me_int)))) (mv 3)))))))
theorem z7u:FnScope ["width"] ["width"] (defScope (top 18)):=⟨rfl,rfl,rfl,by decide +kernel,rfl,by decide +kernel,by decide +kernel⟩
theorem zo {f:Addr}{fd:FuncData} (T:Tx K mg cl) (D:DefAt K mg "least_power" (top 18) f fd) (z1h:FG P w K mg base cl 5 "bias_of" 1 z1t):FG P w K mg base cl 6 "least_power" 1 z12 :=
  D.fg (N:=["width"]) (k:=5) z7u rfl (fun _ _ _ _ _ _=>Mi.ln1 fun _=>rfl) fun cdv A outer s H E hr =>
    mss_one (ms_ret (me_bin r_sub (me_bin r_sub (me_int) (mc z1h hr T.inj (ma_cons (mv 0) (ma_nil)))) (me_item (mv 0) (me_int))))
theorem z7n:FnScope ["width","word"] ["width","word"] (defScope (top 21)):=⟨rfl,rfl,rfl,by decide +kernel,rfl,by decide +kernel,by decide +kernel⟩
theorem zm {f:Addr}{fd:FuncData} (T:Tx K mg cl) (D:DefAt K mg "check_word" (top 21) f fd) (ze:FG P w K mg base cl 2 "is_within" 3 zt) (z3i:FG P w K mg base cl 5 "many_words" 1 z2u):FG P w K mg base cl 6 "check_word" 2 q_check_word :=
  D.fg (N:=["width","word"]) (k:=5) z7n rfl (fun _ _ _ _ _ _=>Mi.ln2 fun _ _=>rfl) fun cdv A outer s H E hr =>
    mss_one (ms_if (mt_not (mt_val (mc ze hr T.inj (ma_cons (mv 1) (ma_cons (me_int) (ma_cons (me_bin r_sub (mc z3i hr T.inj (ma_cons (mv 0) (ma_nil))) (me_int)) (ma_nil))))))) (mss_one (ms_raise (c:=2) (T.cls.cls 2 "NoWord" (at_mem 2 rfl)) own_cx (by rfl) hr.hd (mv_str 71))) (mss_nil))
theorem z7y:FnScope ["width"] ["width"] (defScope (top 26)):=⟨rfl,rfl,rfl,by decide +kernel,rfl,by decide +kernel,by decide +kernel⟩
theorem z3l {f:Addr}{fd:FuncData} (T:Tx K mg cl) (D:DefAt K mg "none_of" (top 26) f fd) (g_check_width:FG P w K mg base cl 4 "check_width" 1 q_check_width) (z1m:FG P w K mg base cl 5 "joined" 4 z1y) (g_all_ones:FG P w K mg base cl 1 "all_ones" 1 z6) (z1l:FG P w K mg base cl 1 "highest_of_fraction" 1 z1x):FG P w K mg base cl 6 "none_of" 1 z49 :=
  D.fg (N:=["width"]) (k:=5) z7y rfl (fun _ _ _ _ _ _=>Mi.ln1 fun _=>rfl) fun cdv A outer s H E hr =>
    mss_cons (ms_expr (mc g_check_width hr T.inj (ma_cons (mv 0) (ma_nil)))) (mss_one (ms_ret (mc z1m hr T.inj (ma_cons (mv 0) (ma_cons (me_int) (ma_cons (mc g_all_ones hr T.inj (ma_cons (me_item (mv 0) (me_int)) (ma_nil))) (ma_cons (mc z1l hr T.inj (ma_cons (mv 0) (ma_nil))) (ma_nil))))))))
theorem z7p:FnScope ["width"] ["width"] (defScope (top 27)):=⟨rfl,rfl,rfl,by decide +kernel,rfl,by decide +kernel,by decide +kernel⟩
theorem z1k {f:Addr}{fd:FuncData} (T:Tx K mg cl) (D:DefAt K mg "endless_of" (top 27) f fd) (g_check_width:FG P w K mg base cl 4 "check_width" 1 q_check_width) (z1m:FG P w K mg base cl 5 "joined" 4 z1y) (g_all_ones:FG P w K mg base cl 1 "all_ones" 1 z6):FG P w K mg base cl 6 "endless_of" 1 z1v :=
  D.fg (N:=["width"]) (k:=5) z7p rfl (fun _ _ _ _ _ _=>Mi.ln1 fun _=>rfl) fun cdv A outer s H E hr =>
    mss_cons (ms_expr (mc g_check_width hr T.inj (ma_cons (mv 0) (ma_nil)))) (mss_one (ms_ret (mc z1m hr T.inj (ma_cons (mv 0) (ma_cons (me_int) (ma_cons (mc g_all_ones hr T.inj (ma_cons (me_item (mv 0) (me_int)) (ma_nil))) (ma_cons (me_int) (ma_nil))))))))
theorem z7w:FnScope ["width","height","side"] ["width","height","side"] (defScope (top 63)):=⟨rfl,rfl,rfl,by decide +kernel,rfl,by decide +kernel,by decide +kernel⟩
theorem z3j {f:Addr}{fd:FuncData} (T:Tx K mg cl) (D:DefAt K mg "marks_of" (top 63) f fd) (z1h:FG P w K mg base cl 5 "bias_of" 1 z1t):FG P w K mg base cl 6 "marks_of" 3 z1z :=
  D.fg (N:=["width","height","side"]) (k:=5) z7w rfl (fun _ _ _ _ _ _=>Mi.ln3 fun _ _ _=>rfl) fun cdv A outer s H E hr =>
    mss_cons (ms_if (mt_cmp (r_eq (hu64 hr)) (mv 2) (me_int) (nomark _)) (mss_one (ms_ret (me_int))) (mss_nil)) (mss_one (ms_ret (me_if (mt_cmp r_lt (mv 1) (me_bin r_sub (me_int) (mc z1h hr T.inj (ma_cons (mv 0) (ma_nil)))) (nomark _)) (me_bin r_add (me_globI (by rfl) T.c_NEAR) (me_globI (by rfl) T.c_SMALL)) (me_globI (by rfl) T.c_NEAR))))
theorem z4b:FnScope ["width","word","sign","exponent","fraction"] ["width","word"] (defScope (top 23)):=⟨rfl,rfl,rfl,by decide +kernel,rfl,by decide +kernel,by decide +kernel⟩
theorem z88 {f:Addr}{fd:FuncData} (T:Tx K mg cl) (D:DefAt K mg "cut" (top 23) f fd) (zm:FG P w K mg base cl 6 "check_word" 2 q_check_word) (g_all_ones:FG P w K mg base cl 1 "all_ones" 1 z6):FG P w K mg base cl 7 "cut" 2 z8f :=
  D.fg (N:=["width","word","sign","exponent","fraction"]) (k:=6) z4b rfl (fun _ _ _ _ _ _=>Mi.ln2 fun _ _=>rfl) fun cdv A outer s H E hr =>
    mss_cons (ms_expr (mc zm hr T.inj (ma_cons (mv 0) (ma_cons (mv 1) (ma_nil))))) (mss_cons (ms_set (i:=2) z4b.nd rfl (Or.inl rfl) (me_bin r_shr (mv 1) (me_bin r_add (me_item (mv 0) (me_int)) (me_item (mv 0) (me_int))))) (mss_cons (ms_set (i:=3) z4b.nd rfl (Or.inl rfl) (me_bin r_and (me_bin r_shr (mv 1) (me_item (mv 0) (me_int))) (mc g_all_ones hr T.inj (ma_cons (me_item (mv 0) (me_int)) (ma_nil))))) (mss_cons (ms_set (i:=4) z4b.nd rfl (Or.inl rfl) (me_bin r_and (mv 1) (mc g_all_ones hr T.inj (ma_cons (me_item (mv 0) (me_int)) (ma_nil))))) (mss_one (ms_ret (me_tup (ma_cons (mv 2) (ma_cons (mv 3) (ma_cons (mv 4) (ma_nil))))))))))
theorem z81:FnScope ["width","word"] ["width","word"] (defScope (top 30)):=⟨rfl,rfl,rfl,by decide +kernel,rfl,by decide +kernel,by decide +kernel⟩
theorem z3s {f:Addr}{fd:FuncData} (T:Tx K mg cl) (D:DefAt K mg "turned" (top 30) f fd) (zm:FG P w K mg base cl 6 "check_word" 2 q_check_word) (z1n:FG P w K mg base cl 1 "sign_bit" 1 z22):FG P w K mg base cl 7 "turned" 2 z2e :=
  D.fg (N:=["width","word"]) (k:=6) z81 rfl (fun _ _ _ _ _ _=>Mi.ln2 fun _ _=>rfl) fun cdv A outer s H E hr =>
    mss_cons (ms_expr (mc zm hr T.inj (ma_cons (mv 0) (ma_cons (mv 1) (ma_nil))))) (mss_one (ms_ret (me_bin r_xor (mv 1) (mc z1n hr T.inj (ma_cons (mv 0) (ma_nil))))))
theorem z82:FnScope ["width","word"] ["width","word"] (defScope (top 31)):=⟨rfl,rfl,rfl,by decide +kernel,rfl,by decide +kernel,by decide +kernel⟩
theorem z1p {f:Addr}{fd:FuncData} (T:Tx K mg cl) (D:DefAt K mg "unsigned" (top 31) f fd) (zm:FG P w K mg base cl 6 "check_word" 2 q_check_word) (z1n:FG P w K mg base cl 1 "sign_bit" 1 z22):FG P w K mg base cl 7 "unsigned" 2 z1a :=
  D.fg (N:=["width","word"]) (k:=6) z82 rfl (fun _ _ _ _ _ _=>Mi.ln2 fun _ _=>rfl) fun cdv A outer s H E hr =>
    mss_cons (ms_expr (mc zm hr T.inj (ma_cons (mv 0) (ma_cons (mv 1) (ma_nil))))) (mss_one (ms_ret (me_bin r_and (mv 1) (me_bin r_sub (mc z1n hr T.inj (ma_cons (mv 0) (ma_nil))) (me_int)))))
theorem z80:FnScope ["width","height"] ["width","height"] (defScope (top 60)):=⟨rfl,rfl,rfl,by decide +kernel,rfl,by decide +kernel,by decide +kernel⟩
theorem z1o {f:Addr}{fd:FuncData} (T:Tx K mg cl) (D:DefAt K mg "step_power" (top 60) f fd) (zo:FG P w K mg base cl 6 "least_power" 1 z12):FG P w K mg base cl 7 "step_power" 2 z13 :=
  D.fg (N:=["width","height"]) (k:=6) z80 rfl (fun _ _ _ _ _ _=>Mi.ln2 fun _ _=>rfl) fun cdv A outer s H E hr =>
    mss_one (ms_ret (me_callB (c_max rfl) (by rfl) T.b_max boot_max (ma_cons (me_bin r_sub (mv 1) (me_item (mv 0) (me_int))) (ma_cons (mc zo hr T.inj (ma_cons (mv 0) (ma_nil))) (ma_nil)))))
theorem z4d:FnScope ["width","word","parts","exponent","fraction"] ["width","word"] (defScope (top 25)):=⟨rfl,rfl,rfl,by decide +kernel,rfl,by decide +kernel,by decide +kernel⟩
theorem zn {f:Addr}{fd:FuncData} (T:Tx K mg cl) (D:DefAt K mg "kind_of" (top 25) f fd) (z88:FG P w K mg base cl 7 "cut" 2 z8f) (g_all_ones:FG P w K mg base cl 1 "all_ones" 1 z6) (z1l:FG P w K mg base cl 1 "highest_of_fraction" 1 z1x):FG P w K mg base cl 8 "kind_of" 2 za :=
  D.fg (N:=["width","word","parts","exponent","fraction"]) (k:=7) z4d rfl (fun _ _ _ _ _ _=>Mi.ln2 fun _ _=>rfl) fun cdv A outer s H E hr =>
    mss_cons (ms_set (i:=2) z4d.nd rfl (Or.inl rfl) (mc z88 hr T.inj (ma_cons (mv 0) (ma_cons (mv 1) (ma_nil))))) (mss_cons (ms_set (i:=3) z4d.nd rfl (Or.inl rfl) (me_item (mv 2) (me_int))) (mss_cons (ms_set (i:=4) z4d.nd rfl (Or.inl rfl) (me_item (mv 2) (me_int))) (mss_cons (ms_if (mt_cmp (r_eq (hu64 hr)) (mv 3) (me_int) (nomark _)) (mss_one (ms_ret (me_if (mt_cmp (r_eq (hu64 hr)) (mv 4) (me_int) (nomark _)) (me_str) (me_str)))) (mss_nil)) (mss_cons (ms_if (mt_cmp r_lt (mv 3) (mc g_all_ones hr T.inj (ma_cons (me_item (mv 0) (me_int)) (ma_nil))) (nomark _)) (mss_one (ms_ret (me_str))) (mss_nil)) (mss_cons (ms_if (mt_cmp (r_eq (hu64 hr)) (mv 4) (me_int) (nomark _)) (mss_one (ms_ret (me_str))) (mss_nil)) (mss_one (ms_ret (me_if (mt_cmp r_ge (mv 4) (mc z1l hr T.inj (ma_cons (mv 0) (ma_nil))) (nomark _)) (me_str) (me_str)))))))))
theorem z85:FnScope ["width","word","below"] ["width","word","below"] (defScope (top 32)):=⟨rfl,rfl,rfl,by decide +kernel,rfl,by decide +kernel,by decide +kernel⟩
theorem zg {f:Addr}{fd:FuncData} (T:Tx K mg cl) (D:DefAt K mg "with_sign" (top 32) f fd) (z3s:FG P w K mg base cl 7 "turned" 2 z2e):FG P w K mg base cl 8 "with_sign" 3 q_with_sign :=
  D.fg (N:=["width","word","below"]) (k:=7) z85 rfl (fun _ _ _ _ _ _=>Mi.ln3 fun _ _ _=>rfl) fun cdv A outer s H E hr =>
    mss_one (ms_ret (me_if (mt_val (mv 2)) (mc z3s hr T.inj (ma_cons (mv 0) (ma_cons (mv 1) (ma_nil)))) (mv 1)))
theorem z2g:FnScope ["width","word","kind","parts","steps","power"] ["width","word"] (defScope (top 35)):=⟨rfl,rfl,rfl,by decide +kernel,rfl,by decide +kernel,by decide +kernel⟩
theorem z3t {f:Addr}{fd:FuncData} (T:Tx K mg cl) (D:DefAt K mg "value_of" (top 35) f fd) (zn:FG P w K mg base cl 8 "kind_of" 2 za) (z88:FG P w K mg base cl 7 "cut" 2 z8f) (zo:FG P w K mg base cl 6 "least_power" 1 z12) (z3c:FG P w K mg base cl 1 "exact" 2 zi):FG P w K mg base cl 9 "value_of" 2 z1b :=
  D.fg (N:=["width","word","kind","parts","steps","power"]) (k:=8) z2g rfl (fun _ _ _ _ _ _=>Mi.ln2 fun _ _=>rfl) fun cdv A outer s H E hr =>
    mss_cons (ms_set (i:=2) z2g.nd rfl (Or.inl rfl) (mc zn hr T.inj (ma_cons (mv 0) (ma_cons (mv 1) (ma_nil))))) (mss_cons (ms_if (mt_cmp (r_notIn (hu64 hr)) (mv 2) (me_tup (ma_cons (me_str) (ma_cons (me_str) (ma_cons (me_str) (ma_nil))))) (by with_unfolding_all rfl)) (mss_one (ms_raise (c:=4) (T.cls.cls 4 "NoNumber" (at_mem 4 rfl)) own_cx (by rfl) hr.hd (mv_str 31))) (mss_nil)) (mss_cons (ms_set (i:=3) z2g.nd rfl (Or.inl rfl) (mc z88 hr T.inj (ma_cons (mv 0) (ma_cons (mv 1) (ma_nil))))) (mss_cons (ms_set (i:=4) z2g.nd rfl (Or.inl rfl) (me_item (mv 3) (me_int))) (mss_cons (ms_set (i:=5) z2g.nd rfl (Or.inl rfl) (mc zo hr T.inj (ma_cons (mv 0) (ma_nil)))) (mss_cons (ms_if (mt_cmp (r_eq (hu64 hr)) (mv 2) (me_str) (nomark _)) (mss_cons (ms_set (i:=4) z2g.nd rfl (Or.inl rfl) (me_bin r_add (mv 4) (me_bin r_shl (me_int) (me_item (mv 0) (me_int))))) (mss_one (ms_set (i:=5) z2g.nd rfl (Or.inl rfl) (me_bin r_sub (me_bin r_add (mv 5) (me_item (mv 3) (me_int))) (me_int))))) (mss_nil)) (mss_one (ms_ret (mc z3c hr T.inj (ma_cons (me_if (mt_cmp (r_eq (hu64 hr)) (me_item (mv 3) (me_int)) (me_int) (nomark _)) (me_una r_neg (mv 4)) (mv 4)) (ma_cons (mv 5) (ma_nil)))))))))))
theorem z41:FnScope ["width","chosen","below","height","place","endless","above_least","size"] ["width","chosen","below","height","place"] (defScope (top 62)):=⟨rfl,rfl,rfl,by decide +kernel,rfl,by decide +kernel,by decide +kernel⟩
theorem z3q {f:Addr}{fd:FuncData} (T:Tx K mg cl) (D:DefAt K mg "settled" (top 62) f fd) (z1k:FG P w K mg base cl 6 "endless_of" 1 z1v) (z1o:FG P w K mg base cl 7 "step_power" 2 z13) (zo:FG P w K mg base cl 6 "least_power" 1 z12) (z3r:FG P w K mg base cl 2 "steps_taken" 3 z2d) (zg:FG P w K mg base cl 8 "with_sign" 3 q_with_sign) (z3j:FG P w K mg base cl 6 "marks_of" 3 z1z) (m_grows:FM P w K mg base cl 1 "grows" 3 z2i):FG P w K mg base cl 9 "settled" 5 z21 :=
  D.fg (N:=["width","chosen","below","height","place","endless","above_least","size"]) (k:=8) z41 rfl (fun _ _ _ _ _ _=>Mi.ln5 fun _ _ _ _ _=>rfl) fun cdv A outer s H E hr =>
    mss_cons (ms_set (i:=5) z41.nd rfl (Or.inl rfl) (mc z1k hr T.inj (ma_cons (mv 0) (ma_nil)))) (mss_cons (ms_set (i:=6) z41.nd rfl (Or.inl rfl) (me_bin r_sub (mc z1o hr T.inj (ma_cons (mv 0) (ma_cons (mv 3) (ma_nil)))) (mc zo hr T.inj (ma_cons (mv 0) (ma_nil))))) (mss_cons (ms_set (i:=7) z41.nd rfl (Or.inl rfl) (me_bin r_add (me_bin r_shl (mv 6) (me_item (mv 0) (me_int))) (mc z3r hr T.inj (ma_cons (mv 1) (ma_cons (mv 4) (ma_cons (mv 2) (ma_nil))))))) (mss_cons (ms_if (mt_cmp r_lt (mv 7) (mv 5) (nomark _)) (mss_one (ms_ret (me_tup (ma_cons (mc zg hr T.inj (ma_cons (mv 0) (ma_cons (mv 7) (ma_cons (mv 2) (ma_nil))))) (ma_cons (mc z3j hr T.inj (ma_cons (mv 0) (ma_cons (mv 3) (ma_cons (me_item (mv 4) (me_int)) (ma_nil))))) (ma_nil)))))) (mss_nil)) (mss_cons (ms_set (i:=7) z41.nd rfl (Or.inl rfl) (me_if (mt_val (mm m_grows hr T.inj (mv 1) (ma_cons (me_bl) (ma_cons (me_int) (ma_cons (mv 2) (ma_nil)))))) (mv 5) (me_bin r_sub (mv 5) (me_int)))) (mss_one (ms_ret (me_tup (ma_cons (mc zg hr T.inj (ma_cons (mv 0) (ma_cons (mv 7) (ma_cons (mv 2) (ma_nil))))) (ma_cons (me_bin r_add (me_globI (by rfl) T.c_GREAT) (me_globI (by rfl) T.c_NEAR)) (ma_nil))))))))))
theorem z7x:FnScope ["width","text"] ["width","text"] (defScope (top 66)):=⟨rfl,rfl,rfl,by decide +kernel,rfl,by decide +kernel,by decide +kernel⟩
theorem z3k {f:Addr}{fd:FuncData} (T:Tx K mg cl) (D:DefAt K mg "named_word" (top 66) f fd) (z3l:FG P w K mg base cl 6 "none_of" 1 z49) (zg:FG P w K mg base cl 8 "with_sign" 3 q_with_sign) (z1k:FG P w K mg base cl 6 "endless_of" 1 z1v):FG P w K mg base cl 9 "named_word" 2 z2v :=
  D.fg (N:=["width","text"]) (k:=8) z7x rfl (fun _ _ _ _ _ _=>Mi.ln2 fun _ _=>rfl) fun cdv A outer s H E hr =>
    mss_cons (ms_if (mt_cmp (r_eq (hu64 hr)) (mv 1) (me_str) (nomark _)) (mss_one (ms_ret (mc z3l hr T.inj (ma_cons (mv 0) (ma_nil))))) (mss_nil)) (mss_cons (ms_if ((mw_or (mt_cmp (r_eq (hu64 hr)) (mv 1) (me_str) (nomark _)) (mw_or1 (mt_cmp (r_eq (hu64 hr)) (mv 1) (me_str) (nomark _)))).mt) (mss_one (ms_ret (mc zg hr T.inj (ma_cons (mv 0) (ma_cons (mc z1k hr T.inj (ma_cons (mv 0) (ma_nil))) (ma_cons (me_cmp (r_eq (hu64 hr)) (mv 1) (me_str) (nomark _)) (ma_nil))))))) (mss_nil)) (mss_one (ms_ret (me_non))))
theorem z4e:FnScope ["width","n","k","d","way","chosen","height","place"] ["width","n","k","d","way"] (defScope (top 59)):=⟨rfl,rfl,rfl,by decide +kernel,rfl,by decide +kernel,by decide +kernel⟩
theorem z2r {f:Addr}{fd:FuncData} (T:Tx K mg cl) (D:DefAtD K mg "taken" (top 59) f fd "even") (g_check_width:FG P w K mg base cl 4 "check_width" 1 q_check_width) (z17:FG P w K mg base cl 1 "way_of" 1 z1c) (z3f:FG P w K mg base cl 2 "height_of" 3 z1w) (z3g:FG P w K mg base cl 2 "in_steps" 4 z11) (z3q:FG P w K mg base cl 9 "settled" 5 z21) (z1o:FG P w K mg base cl 7 "step_power" 2 z13):FGD P w K mg base cl 10 "taken" 5 zv "even" :=
  D.fg (N:=["width","n","k","d","way","chosen","height","place"]) (k:=9) z4e rfl (fun _ _ _ _ _ _ _ _=>Mi.ln5 fun _ _ _ _ _=>⟨_,rfl,rfl⟩) (fun _ _ _ _ _ _ _ _=>Mi.lm4 fun _ _ _ _=>⟨_,rfl,rfl⟩) fun cdv A outer s H E hr =>
    mss_cons (ms_expr (mc g_check_width hr T.inj (ma_cons (mv 0) (ma_nil)))) (mss_cons (ms_set (i:=5) z4e.nd rfl (Or.inl rfl) (mc z17 hr T.inj (ma_cons (mv 4) (ma_nil)))) (mss_cons (ms_if (mt_cmp (r_eq (hu64 hr)) (mv 1) (me_int) (nomark _)) (mss_one (ms_ret (me_tup (ma_cons (me_int) (ma_cons (me_int) (ma_nil)))))) (mss_nil)) (mss_cons (ms_set (i:=6) z4e.nd rfl (Or.inl rfl) (mc z3f hr T.inj (ma_cons (mv 1) (ma_cons (mv 2) (ma_cons (mv 3) (ma_nil)))))) (mss_cons (ms_set (i:=7) z4e.nd rfl (Or.inl rfl) (mc z3g hr T.inj (ma_cons (mv 1) (ma_cons (mv 2) (ma_cons (mv 3) (ma_cons (mc z1o hr T.inj (ma_cons (mv 0) (ma_cons (mv 6) (ma_nil)))) (ma_nil))))))) (mss_one (ms_ret (mc z3q hr T.inj (ma_cons (mv 0) (ma_cons (mv 5) (ma_cons (me_cmp r_lt (mv 1) (me_int) (nomark _)) (ma_cons (mv 6) (ma_cons (mv 7) (ma_nil)))))))))))))
theorem z5c:FnScope ["width","word","number","power"] ["width","word"] (defScope (top 69)):=⟨rfl,rfl,rfl,by decide +kernel,rfl,by decide +kernel,by decide +kernel⟩
theorem z1i {f:Addr}{fd:FuncData} (T:Tx K mg cl) (D:DefAt K mg "decimal_of" (top 69) f fd) (z3t:FG P w K mg base cl 9 "value_of" 2 z1b) (z1p:FG P w K mg base cl 7 "unsigned" 2 z1a) (g_ten_power:FG P w K mg base cl 1 "ten_power" 1 zj):FG P w K mg base cl 10 "decimal_of" 2 z10 :=
  D.fg (N:=["width","word","number","power"]) (k:=9) z5c rfl (fun _ _ _ _ _ _=>Mi.ln2 fun _ _=>rfl) fun cdv A outer s H E hr =>
    mss_cons (ms_set (i:=2) z5c.nd rfl (Or.inl rfl) (mc z3t hr T.inj (ma_cons (mv 0) (ma_cons (mc z1p hr T.inj (ma_cons (mv 0) (ma_cons (mv 1) (ma_nil)))) (ma_nil))))) (mss_cons (ms_set (i:=3) z5c.nd rfl (Or.inl rfl) (me_item (mv 2) (me_int))) (mss_cons (ms_if (mt_cmp r_ge (mv 3) (me_int) (nomark _)) (mss_one (ms_ret (me_tup (ma_cons (me_bin r_shl (me_item (mv 2) (me_int)) (mv 3)) (ma_cons (me_int) (ma_nil)))))) (mss_nil)) (mss_one (ms_ret (me_tup (ma_cons (me_bin r_shr (me_bin r_mul (me_item (mv 2) (me_int)) (mc g_ten_power hr T.inj (ma_cons (me_una r_neg (mv 3)) (ma_nil)))) (me_una r_neg (mv 3))) (ma_cons (mv 3) (ma_nil))))))))
theorem z7o:FnScope ["width","whole","ten","way"] ["width","whole","ten","way"] (defScope (top 67)):=⟨rfl,rfl,rfl,by decide +kernel,rfl,by decide +kernel,by decide +kernel⟩
theorem z1j {f:Addr}{fd:FuncData} (T:Tx K mg cl) (D:DefAt K mg "decimal_taken" (top 67) f fd) (z2r:FGD P w K mg base cl 10 "taken" 5 zv "even") (g_ten_power:FG P w K mg base cl 1 "ten_power" 1 zj):FG P w K mg base cl 11 "decimal_taken" 4 z9 :=
  D.fg (N:=["width","whole","ten","way"]) (k:=10) z7o rfl (fun _ _ _ _ _ _=>Mi.ln4 fun _ _ _ _=>rfl) fun cdv A outer s H E hr =>
    mss_cons (ms_if (mt_cmp r_lt (mv 2) (me_int) (nomark _)) (mss_one (ms_ret (mc z2r.fg hr T.inj (ma_cons (mv 0) (ma_cons (mv 1) (ma_cons (me_int) (ma_cons (mc g_ten_power hr T.inj (ma_cons (me_una r_neg (mv 2)) (ma_nil))) (ma_cons (mv 3) (ma_nil))))))))) (mss_nil)) (mss_one (ms_ret (mc z2r.fg hr T.inj (ma_cons (mv 0) (ma_cons (me_bin r_mul (mv 1) (mc g_ten_power hr T.inj (ma_cons (mv 2) (ma_nil)))) (ma_cons (me_int) (ma_cons (me_int) (ma_cons (mv 3) (ma_nil)))))))))
theorem z5d:FnScope ["width","word","kind","sign"] ["width","word"] (defScope (top 68)):=⟨rfl,rfl,rfl,by decide +kernel,rfl,by decide +kernel,by decide +kernel⟩
theorem z3d {f:Addr}{fd:FuncData} (T:Tx K mg cl) (D:DefAt K mg "exact_text" (top 68) f fd) (zn:FG P w K mg base cl 8 "kind_of" 2 za) (z3n:FG P w K mg base cl 1 "point_text" 1 z2c) (z88:FG P w K mg base cl 7 "cut" 2 z8f) (z1i:FG P w K mg base cl 10 "decimal_of" 2 z10):FG P w K mg base cl 11 "exact_text" 2 zc :=
  D.fg (N:=["width","word","kind","sign"]) (k:=10) z5d rfl (fun _ _ _ _ _ _=>Mi.ln2 fun _ _=>rfl) fun cdv A outer s H E hr =>
    mss_cons (ms_set (i:=2) z5d.nd rfl (Or.inl rfl) (mc zn hr T.inj (ma_cons (mv 0) (ma_cons (mv 1) (ma_nil))))) (mss_cons (ms_if (mt_cmp r_in (mv 2) (me_tup (ma_cons (me_str) (ma_cons (me_str) (ma_nil)))) (by with_unfolding_all rfl)) (mss_one (ms_ret (me_str))) (mss_nil)) (mss_cons (ms_set (i:=3) z5d.nd rfl (Or.inl rfl) (me_if (mt_cmp (r_eq (hu64 hr)) (me_item (mc z88 hr T.inj (ma_cons (mv 0) (ma_cons (mv 1) (ma_nil)))) (me_int)) (me_int) (nomark _)) (me_str) (me_str))) (mss_one (ms_ret (me_bin r_add (mv 3) (me_if (mt_cmp (r_eq (hu64 hr)) (mv 2) (me_str) (nomark _)) (me_str) (mc z3n hr T.inj (ma_cons (mc z1i hr T.inj (ma_cons (mv 0) (ma_cons (mv 1) (ma_nil)))) (ma_nil)))))))))
theorem z5g:FnScope ["width","text","way","word","parts"] ["width","text","way"] (defScope (top 65)):=⟨rfl,rfl,rfl,by decide +kernel,rfl,by decide +kernel,by decide +kernel⟩
theorem zp {f:Addr}{fd:FuncData} (T:Tx K mg cl) (D:DefAtD K mg "read" (top 65) f fd "even") (g_check_width:FG P w K mg base cl 4 "check_width" 1 q_check_width) (z3k:FG P w K mg base cl 9 "named_word" 2 z2v) (z3m:FG P w K mg base cl 3 "parts_of" 1 z4) (z1j:FG P w K mg base cl 11 "decimal_taken" 4 z9) (z17:FG P w K mg base cl 1 "way_of" 1 z1c) (zg:FG P w K mg base cl 8 "with_sign" 3 q_with_sign):FGD P w K mg base cl 12 "read" 3 q_read "even" :=
  D.fg (N:=["width","text","way","word","parts"]) (k:=11) z5g rfl (fun _ _ _ _ _ _ _ _=>Mi.ln3 fun _ _ _=>⟨_,rfl,rfl⟩) (fun _ _ _ _ _ _ _ _=>Mi.lm2 fun _ _=>⟨_,rfl,rfl⟩) fun cdv A outer s H E hr =>
    mss_cons (ms_expr (mc g_check_width hr T.inj (ma_cons (mv 0) (ma_nil)))) (mss_cons (ms_set (i:=3) z5g.nd rfl (Or.inl rfl) (mc z3k hr T.inj (ma_cons (mv 0) (ma_cons (mv 1) (ma_nil))))) (mss_cons (ms_if (z86 (mv 3)) (mss_cons (ms_expr (mc z17 hr T.inj (ma_cons (mv 2) (ma_nil)))) (mss_one (ms_ret (me_tup (ma_cons (mv 3) (ma_cons (me_int) (ma_nil))))))) (mss_nil)) (mss_cons (ms_set (i:=4) z5g.nd rfl (Or.inl rfl) (mc z3m hr T.inj (ma_cons (mv 1) (ma_nil)))) (mss_cons (ms_if (mt_cmp (r_eq (hu64 hr)) (me_item (mv 4) (me_int)) (me_int) (nomark _)) (mss_cons (ms_expr (mc z17 hr T.inj (ma_cons (mv 2) (ma_nil)))) (mss_one (ms_ret (me_tup (ma_cons (mc zg hr T.inj (ma_cons (mv 0) (ma_cons (me_int) (ma_cons (me_item (mv 4) (me_int)) (ma_nil))))) (ma_cons (me_int) (ma_nil))))))) (mss_nil)) (mss_one (ms_ret (mc z1j hr T.inj (ma_cons (mv 0) (ma_cons (me_if (mt_val (me_item (mv 4) (me_int))) (me_una r_neg (me_item (mv 4) (me_int))) (me_item (mv 4) (me_int))) (ma_cons (me_item (mv 4) (me_int)) (ma_cons (mv 2) (ma_nil))))))))))))
theorem z2h:FnScope ["width","word","decimal","dropped","unit","lower","lower_first","beside","ten","whole"] ["width","word","decimal","dropped"] (defScope (top 73)):=⟨rfl,rfl,rfl,by decide +kernel,rfl,by decide +kernel,by decide +kernel⟩
theorem z3u {f:Addr}{fd:FuncData} (T:Tx K mg cl) (D:DefAt K mg "without_figures" (top 73) f fd) (g_ten_power:FG P w K mg base cl 1 "ten_power" 1 zj) (z1j:FG P w K mg base cl 11 "decimal_taken" 4 z9):FG P w K mg base cl 12 "without_figures" 4 zw :=
  D.fg (N:=["width","word","decimal","dropped","unit","lower","lower_first","beside","ten","whole"]) (k:=11) z2h rfl (fun _ _ _ _ _ _=>Mi.ln4 fun _ _ _ _=>rfl) fun cdv A outer s H E hr =>
    mss_cons (ms_set (i:=4) z2h.nd rfl (Or.inl rfl) (mc g_ten_power hr T.inj (ma_cons (mv 3) (ma_nil)))) (mss_cons (ms_set (i:=5) z2h.nd rfl (Or.inl rfl) (me_bin r_div (me_item (mv 2) (me_int)) (mv 4))) (mss_cons (ms_set (i:=6) z2h.nd rfl (Or.inl rfl) (me_cmp r_le (me_bin r_mul (me_int) (me_bin r_sub (me_item (mv 2) (me_int)) (me_bin r_mul (mv 5) (mv 4)))) (mv 4) (nomark _))) (mss_cons (ms_set (i:=7) z2h.nd rfl (Or.inl rfl) (me_if (mt_val (mv 6)) (me_tup (ma_cons (mv 5) (ma_cons (me_bin r_add (mv 5) (me_int)) (ma_nil)))) (me_tup (ma_cons (me_bin r_add (mv 5) (me_int)) (ma_cons (mv 5) (ma_nil)))))) (mss_cons (ms_set (i:=8) z2h.nd rfl (Or.inl rfl) (me_bin r_add (me_item (mv 2) (me_int)) (mv 3))) (mss_cons (ms_for (i:=9) own_cx rfl z2h.nd rfl (Or.inl rfl) (mi_seq (mv 7)) (mss_one (ms_if (mt_cmp (r_eq (hu64 hr)) (me_item (mc z1j hr T.inj (ma_cons (mv 0) (ma_cons (mv 9) (ma_cons (mv 8) (ma_cons (me_str) (ma_nil)))))) (me_int)) (mv 1) (nomark _)) (mss_one (ms_ret (me_tup (ma_cons (mv 9) (ma_cons (mv 8) (ma_nil)))))) (mss_nil)))) (mss_one (ms_ret (me_non))))))))
theorem z2y:FnScope ["width","word","decimal","dropped","found"] ["width","word"] (defScope (top 72)):=⟨rfl,rfl,rfl,by decide +kernel,rfl,by decide +kernel,by decide +kernel⟩
theorem z3e {f:Addr}{fd:FuncData} (T:Tx K mg cl) (D:DefAt K mg "fewest_figures" (top 72) f fd) (z1i:FG P w K mg base cl 10 "decimal_of" 2 z10) (z3u:FG P w K mg base cl 12 "without_figures" 4 zw) (nd:base.NoDigits):FG P w K mg base cl 13 "fewest_figures" 2 z2s :=
  D.fg (N:=["width","word","decimal","dropped","found"]) (k:=12) z2y rfl (fun _ _ _ _ _ _=>Mi.ln2 fun _ _=>rfl) fun cdv A outer s H E hr =>
    mss_cons (ms_set (i:=2) z2y.nd rfl (Or.inl rfl) (mc z1i hr T.inj (ma_cons (mv 0) (ma_cons (mv 1) (ma_nil))))) (mss_cons (ms_set (i:=3) z2y.nd rfl (Or.inl rfl) (me_bin r_sub (me_callB c_len (by rfl) T.b_len PySem.boot_len (ma_cons (me_callTy (c_strL nd) (by rfl) T.b_str boot_str (ma_cons (me_item (mv 2) (me_int)) (ma_nil))) (ma_nil))) (me_int))) (mss_cons (ms_set (i:=4) z2y.nd rfl (Or.inl rfl) (me_non)) (mss_cons (ms_while own_cx (z91 (mv 4)) (mss_cons (ms_set (i:=4) z2y.nd rfl (Or.inl rfl) (mc z3u hr T.inj (ma_cons (mv 0) (ma_cons (mv 1) (ma_cons (mv 2) (ma_cons (mv 3) (ma_nil))))))) (mss_one (ms_set (i:=3) z2y.nd rfl (Or.inl rfl) (me_bin r_sub (mv 3) (me_int)))))) (mss_one (ms_ret (mv 4))))))
theorem z7f:FnScope ["_law_width","_law_size","_law_number","_law_ten"] ["_law_width","_law_size","_law_number","_law_ten"] (defScope (top 84)):=⟨rfl,rfl,rfl,by decide +kernel,rfl,by decide +kernel,by decide +kernel⟩
theorem z1e {f:Addr}{fd:FuncData} (T:Tx K mg cl) (D:DefAt K mg "_law_reads" (top 84) f fd) (zp:FGD P w K mg base cl 12 "read" 3 q_read "even") (nd:base.NoDigits):FG P w K mg base cl 13 "_law_reads" 4 zr :=
  D.fg (N:=["_law_width","_law_size","_law_number","_law_ten"]) (k:=12) z7f rfl (fun _ _ _ _ _ _=>Mi.ln4 fun _ _ _ _=>rfl) fun cdv A outer s H E hr =>
    mss_one (ms_ret (me_cmp (r_eq (hu64 hr)) (me_item (mcD zp hr T.inj (ma_cons (mv 0) (ma_cons (me_bin r_add (me_bin r_add (me_callTy (c_strL nd) (by rfl) T.b_str boot_str (ma_cons (mv 2) (ma_nil))) (me_str)) (me_callTy (c_strL nd) (by rfl) T.b_str boot_str (ma_cons (mv 3) (ma_nil)))) (ma_nil)))) (me_int)) (mv 1) (nomark _)))
theorem z6k:FnScope ["width","word","sign"] ["width","word"] (defScope (top 71)):=⟨rfl,rfl,rfl,by decide +kernel,rfl,by decide +kernel,by decide +kernel⟩
theorem z16 {f:Addr}{fd:FuncData} (T:Tx K mg cl) (D:DefAt K mg "shortest" (top 71) f fd) (zn:FG P w K mg base cl 8 "kind_of" 2 za) (z3d:FG P w K mg base cl 11 "exact_text" 2 zc) (z3o:FG P w K mg base cl 1 "power_text" 1 z20) (z3e:FG P w K mg base cl 13 "fewest_figures" 2 z2s) (z88:FG P w K mg base cl 7 "cut" 2 z8f) (z1p:FG P w K mg base cl 7 "unsigned" 2 z1a):FG P w K mg base cl 14 "shortest" 2 z7 :=
  D.fg (N:=["width","word","sign"]) (k:=13) z6k rfl (fun _ _ _ _ _ _=>Mi.ln2 fun _ _=>rfl) fun cdv A outer s H E hr =>
    mss_cons (ms_if (mt_cmp (r_notIn (hu64 hr)) (mc zn hr T.inj (ma_cons (mv 0) (ma_cons (mv 1) (ma_nil)))) (me_tup (ma_cons (me_str) (ma_cons (me_str) (ma_nil)))) (by with_unfolding_all rfl)) (mss_one (ms_ret (mc z3d hr T.inj (ma_cons (mv 0) (ma_cons (mv 1) (ma_nil)))))) (mss_nil)) (mss_cons (ms_set (i:=2) z6k.nd rfl (Or.inl rfl) (me_if (mt_cmp (r_eq (hu64 hr)) (me_item (mc z88 hr T.inj (ma_cons (mv 0) (ma_cons (mv 1) (ma_nil)))) (me_int)) (me_int) (nomark _)) (me_str) (me_str))) (mss_one (ms_ret (me_bin r_add (mv 2) (mc z3o hr T.inj (ma_cons (mc z3e hr T.inj (ma_cons (mv 0) (ma_cons (mc z1p hr T.inj (ma_cons (mv 0) (ma_cons (mv 1) (ma_nil)))) (ma_nil)))) (ma_nil)))))))
theorem zd:FnScope ["_law_wide_here","_law_size","_law_told_here","_law_width","_law_number","_law_power","_law_right","_law_lower","_law_upper","_law_ten","_law_side"] ["_law_wide_here","_law_size","_law_told_here"] (defScope (top 86)):=⟨rfl,rfl,rfl,by decide +kernel,rfl,by decide +kernel,by decide +kernel⟩
theorem z38 {f:Addr}{fd:FuncData} (T:Tx K mg cl) (D:DefAt K mg "_law_fewest" (top 86) f fd) (z8:FG P w K mg base cl 3 "width_of" 2 zk) (z37:FG P w K mg base cl 2 "_law_decade" 3 z28) (z2p:FG P w K mg base cl 2 "_law_next_two" 4 z1s) (zb:FG P w K mg base cl 1 "_law_tens" 1 z5) (z1e:FG P w K mg base cl 13 "_law_reads" 4 zr):FG P w K mg base cl 14 "_law_fewest" 3 z29 :=
  D.fg (N:=["_law_wide_here","_law_size","_law_told_here","_law_width","_law_number","_law_power","_law_right","_law_lower","_law_upper","_law_ten","_law_side"]) (k:=13) zd rfl (fun _ _ _ _ _ _=>Mi.ln3 fun _ _ _=>rfl) fun cdv A outer s H E hr =>
    mss_cons (ms_set (i:=3) zd.nd rfl (Or.inl rfl) (mc z8 hr T.inj (ma_cons (me_item (mv 0) (me_int)) (ma_cons (me_item (mv 0) (me_int)) (ma_nil))))) (mss_cons (ms_unpack rfl (mc z37 hr T.inj (ma_cons (mv 0) (ma_cons (mv 1) (ma_cons (me_item (mv 2) (me_int)) (ma_nil))))) (mgs_cons (i:=5) zd.nd rfl (Or.inl rfl) (mgs_cons (i:=6) zd.nd rfl (Or.inl rfl) (mgs_nil))) (show ∀ i∈([5,6]:List Nat),i<11 by decide)) (mss_cons (ms_if (mt_not (mt_val (mv 6))) (mss_one (ms_ret (me_bl))) (mss_nil)) (mss_cons (ms_if (mt_cmp r_gt (me_item (mv 2) (me_int)) (me_int) (nomark _)) (mss_cons (ms_unpack rfl (mc z2p hr T.inj (ma_cons (mv 0) (ma_cons (mv 1) (ma_cons (me_bin r_sub (me_item (mv 2) (me_int)) (me_int)) (ma_cons (mv 5) (ma_nil)))))) (mgs_cons (i:=7) zd.nd rfl (Or.inl rfl) (mgs_cons (i:=8) zd.nd rfl (Or.inl rfl) (mgs_cons (i:=9) zd.nd rfl (Or.inl rfl) (mgs_cons (i:=10) zd.nd rfl (Or.inl rfl) (mgs_nil))))) (show ∀ i∈([7,8,9,10]:List Nat),i<11 by decide)) (mss_one (ms_if ((mw_or (mt_val (mc z1e hr T.inj (ma_cons (mv 3) (ma_cons (mv 1) (ma_cons (mv 7) (ma_cons (mv 9) (ma_nil))))))) (mw_or1 (mt_val (mc z1e hr T.inj (ma_cons (mv 3) (ma_cons (mv 1) (ma_cons (mv 8) (ma_cons (mv 9) (ma_nil))))))))).mt) (mss_one (ms_ret (me_bl))) (mss_nil)))) (mss_nil)) (mss_cons (ms_unpack rfl (mc z2p hr T.inj (ma_cons (mv 0) (ma_cons (mv 1) (ma_cons (me_item (mv 2) (me_int)) (ma_cons (mv 5) (ma_nil)))))) (mgs_cons (i:=7) zd.nd rfl (Or.inl rfl) (mgs_cons (i:=8) zd.nd rfl (Or.inl rfl) (mgs_cons (i:=9) zd.nd rfl (Or.inl rfl) (mgs_cons (i:=10) zd.nd rfl (Or.inl rfl) (mgs_nil))))) (show ∀ i∈([7,8,9,10]:List Nat),i<11 by decide)) (mss_cons (ms_set (i:=4) zd.nd rfl (Or.inl rfl) (me_bin r_mul (me_item (mv 2) (me_int)) (mc zb hr T.inj (ma_cons (me_bin r_sub (me_bin r_add (me_bin r_sub (me_item (mv 2) (me_int)) (me_item (mv 2) (me_int))) (me_int)) (mv 9)) (ma_nil))))) (mss_cons (ms_if (mt_cmp (r_eq (hu64 hr)) (mv 4) (mv 7) (nomark _)) (mss_one (ms_ret (me_or (me_cmp r_le (mv 10) (me_int) (nomark _)) (me_one (me_not (mc z1e hr T.inj (ma_cons (mv 3) (ma_cons (mv 1) (ma_cons (mv 8) (ma_cons (mv 9) (ma_nil))))))))))) (mss_nil)) (mss_one (ms_ret (me_and (me_cmp (r_eq (hu64 hr)) (mv 4) (mv 8) (nomark _)) (me_one (me_or (me_cmp r_gt (mv 10) (me_int) (nomark _)) (me_one (me_not (mc z1e hr T.inj (ma_cons (mv 3) (ma_cons (mv 1) (ma_cons (mv 7) (ma_cons (mv 9) (ma_nil)))))))))))))))))))
theorem z3y:FnScope ["_law_wide_here","_law_word_here","_law_width","_law_half","_law_text","_law_told_here"] ["_law_wide_here","_law_word_here"] (defScope (top 88)):=⟨rfl,rfl,rfl,by decide +kernel,rfl,by decide +kernel,by decide +kernel⟩
theorem z2q {f:Addr}{fd:FuncData} (T:Tx K mg cl) (D:DefAt K mg "_law_told" (top 88) f fd) (z8:FG P w K mg base cl 3 "width_of" 2 zk) (z16:FG P w K mg base cl 14 "shortest" 2 z7) (z39:FG P w K mg base cl 2 "_law_parts" 1 zq) (z2o:FG P w K mg base cl 1 "_law_due" 2 zh) (z38:FG P w K mg base cl 14 "_law_fewest" 3 z29) (zp:FGD P w K mg base cl 12 "read" 3 q_read "even"):FG P w K mg base cl 15 "_law_told" 2 z18 :=
  D.fg (N:=["_law_wide_here","_law_word_here","_law_width","_law_half","_law_text","_law_told_here"]) (k:=14) z3y rfl (fun _ _ _ _ _ _=>Mi.ln2 fun _ _=>rfl) fun cdv A outer s H E hr =>
    mss_cons (ms_set (i:=2) z3y.nd rfl (Or.inl rfl) (mc z8 hr T.inj (ma_cons (me_item (mv 0) (me_int)) (ma_cons (me_item (mv 0) (me_int)) (ma_nil))))) (mss_cons (ms_set (i:=3) z3y.nd rfl (Or.inl rfl) (me_bin r_shl (me_int) (me_bin r_add (me_item (mv 0) (me_int)) (me_item (mv 0) (me_int))))) (mss_cons (ms_set (i:=4) z3y.nd rfl (Or.inl rfl) (mc z16 hr T.inj (ma_cons (mv 2) (ma_cons (mv 1) (ma_nil))))) (mss_cons (ms_if (mt_not (mt_val (me_isinst .str (mv 4) (by rfl) T.b_isinstance (by rfl) T.b_str))) (mss_one (ms_ret (me_bl))) (mss_nil)) (mss_cons (ms_if (mt_cmp (r_ne (hu64 hr)) (mc z2o hr T.inj (ma_cons (mv 0) (ma_cons (mv 1) (ma_nil)))) (me_str) (nomark _)) (mss_one (ms_ret (me_cmp (r_eq (hu64 hr)) (mv 4) (mc z2o hr T.inj (ma_cons (mv 0) (ma_cons (mv 1) (ma_nil)))) (nomark _)))) (mss_nil)) (mss_cons (ms_if ((mw_or (mt_cmp (r_ne (hu64 hr)) (me_cmp (r_eq (hu64 hr)) (me_cut (mv 4) (mo_none) (mo_some (me_int))) (me_str) (nomark _)) (me_cmp r_ge (mv 1) (mv 3) (nomark _)) (nomark _)) (mw_or1 (mt_cmp (r_ne (hu64 hr)) (me_item (mcD zp hr T.inj (ma_cons (mv 2) (ma_cons (mv 4) (ma_nil)))) (me_int)) (mv 1) (nomark _)))).mt) (mss_one (ms_ret (me_bl))) (mss_nil)) (mss_cons (ms_set (i:=5) z3y.nd rfl (Or.inl rfl) (mc z39 hr T.inj (ma_cons (me_cut (mv 4) (mo_some (me_callTy c_int (by rfl) T.b_int boot_int (ma_cons (me_cmp r_ge (mv 1) (mv 3) (nomark _)) (ma_nil)))) (mo_none)) (ma_nil)))) (mss_one (ms_ret (me_and (r_notN (mv 5)) (me_one (mc z38 hr T.inj (ma_cons (mv 0) (ma_cons (me_bin r_mod (mv 1) (mv 3)) (ma_cons (mv 5) (ma_nil)))))))))))))))
theorem z2z:FnScope ["_law_script","_law_wide_here","_law_width","_law_half","_law_cell","_law_text"] ["_law_script"] (defScope (top 89)):=⟨rfl,rfl,rfl,by decide +kernel,rfl,by decide +kernel,by decide +kernel⟩
theorem o_law {f:Addr}{fd:FuncData} (T:Tx K mg cl) (D:DefAt K mg "law" (top 89) f fd) (z3a:FG P w K mg base cl 1 "_law_wide" 1 z2a) (z8:FG P w K mg base cl 3 "width_of" 2 zk) (z2n:FG P w K mg base cl 1 "_law_cell_at" 2 z1r) (z2q:FG P w K mg base cl 15 "_law_told" 2 z18) (z16:FG P w K mg base cl 14 "shortest" 2 z7) (z3b:FG P w K mg base cl 1 "_law_word" 2 z2b) (zp:FGD P w K mg base cl 12 "read" 3 q_read "even"):FnOk P w K mg base (CXm cl P w) 16 f fd ["_law_script"] (spF K cl 1 q_law_v88) :=
  fn_mirror (N:=["_law_script","_law_wide_here","_law_width","_law_half","_law_cell","_law_text"]) (k:=15) D.fn z2z rfl fun cdv A outer s H E hr =>
    mss_cons (ms_set (i:=1) z2z.nd rfl (Or.inl rfl) (mc z3a hr T.inj (ma_cons (mc z2n hr T.inj (ma_cons (mv 0) (ma_cons (me_int) (ma_nil)))) (ma_nil)))) (mss_cons (ms_set (i:=2) z2z.nd rfl (Or.inl rfl) (mc z8 hr T.inj (ma_cons (me_item (mv 1) (me_int)) (ma_cons (me_item (mv 1) (me_int)) (ma_nil))))) (mss_cons (ms_set (i:=3) z2z.nd rfl (Or.inl rfl) (me_bin r_shl (me_int) (me_bin r_add (me_item (mv 1) (me_int)) (me_item (mv 1) (me_int))))) (mss_cons (ms_for (i:=4) own_cx rfl z2z.nd rfl (Or.inl rfl) (mi_seq (me_cut (mv 0) (mo_some (me_int)) (mo_some (me_int)))) (mss_one (ms_if (mt_not (mt_val (mc z2q hr T.inj (ma_cons (mv 1) (ma_cons (mc z3b hr T.inj (ma_cons (mv 1) (ma_cons (mv 4) (ma_nil)))) (ma_nil)))))) (mss_one (ms_ret (me_bl))) (mss_nil)))) (mss_cons (ms_set (i:=5) z2z.nd rfl (Or.inl rfl) (me_bin r_add (me_str) (me_callTy c_str (by rfl) T.b_str boot_str (ma_cons (me_bin r_sub (me_bin r_mod (me_bin r_mod (me_bin r_mul (mc z2n hr T.inj (ma_cons (mv 0) (ma_cons (me_int) (ma_nil)))) (me_int)) (me_int)) (me_int)) (me_int)) (ma_nil))))) (mss_cons (ms_if (mt_not (mt_val (mc z2q hr T.inj (ma_cons (mv 1) (ma_cons (me_item (mc zp.fg hr T.inj (ma_cons (mv 2) (ma_cons (mv 5) (ma_cons (me_str) (ma_nil))))) (me_int)) (ma_nil)))))) (mss_one (ms_ret (me_bl))) (mss_nil)) (mss_one (ms_ret (me_cmp (r_eq (hu64 hr)) (mc z16 hr T.inj (ma_cons (mv 2) (ma_cons (me_int) (ma_nil)))) (me_cut (mc z16 hr T.inj (ma_cons (mv 2) (ma_cons (me_bin r_add (mv 3) (me_int)) (ma_nil)))) (mo_some (me_int)) (mo_none)) (nomark _)))))))))
end
theorem all {P:Program}{w:World}{K:PySem.W.Frag}{mg:Str→Option Value}{cl:Nat→Addr}{fa:Addr} (hfa:mg "law"=some (.ref fa)) (T:Tx K mg cl) (zdo:PySem.W.nsOkIn K cStatics=true) (zdn:PySem.W.nsIn K cStatics "sys.int_max_str_digits"=some none)
    {f52_0:Addr}{fd52_0:FuncData} (D52_0:MethAt K cl 21 "grows" "Even.grows" (inClass (top 52) 0) f52_0 fd52_0)
    {f53_0:Addr}{fd53_0:FuncData} (D53_0:MethAt K cl 22 "grows" "Away.grows" (inClass (top 53) 0) f53_0 fd53_0)
    {f54_0:Addr}{fd54_0:FuncData} (D54_0:MethAt K cl 23 "grows" "Inward.grows" (inClass (top 54) 0) f54_0 fd54_0)
    {f55_0:Addr}{fd55_0:FuncData} (D55_0:MethAt K cl 24 "grows" "Upward.grows" (inClass (top 55) 0) f55_0 fd55_0)
    {f56_0:Addr}{fd56_0:FuncData} (D56_0:MethAt K cl 25 "grows" "Downward.grows" (inClass (top 56) 0) f56_0 fd56_0)
    {f12:Addr}{fd12:FuncData} (D12:DefAt K mg "is_whole" (top 12) f12 fd12)
    {f20:Addr}{fd20:FuncData} (D20:DefAt K mg "all_ones" (top 20) f20 fd20)
    {f28:Addr}{fd28:FuncData} (D28:DefAt K mg "highest_of_fraction" (top 28) f28 fd28)
    {f29:Addr}{fd29:FuncData} (D29:DefAt K mg "sign_bit" (top 29) f29 fd29)
    {f34:Addr}{fd34:FuncData} (D34:DefAt K mg "exact" (top 34) f34 fd34)
    {f40:Addr}{fd40:FuncData} (D40:DefAt K mg "check_figures" (top 40) f40 fd40)
    {f42:Addr}{fd42:FuncData} (D42:DefAt K mg "ten_power" (top 42) f42 fd42)
    {f44:Addr}{fd44:FuncData} (D44:DefAt K mg "as_quotient" (top 44) f44 fd44)
    {f57:Addr}{fd57:FuncData} (D57:DefAt K mg "way_of" (top 57) f57 fd57)
    {f70:Addr}{fd70:FuncData} (D70:DefAt K mg "point_text" (top 70) f70 fd70)
    {f74:Addr}{fd74:FuncData} (D74:DefAt K mg "power_text" (top 74) f74 fd74)
    {f76:Addr}{fd76:FuncData} (D76:DefAt K mg "_law_cell_at" (top 76) f76 fd76)
    {f77:Addr}{fd77:FuncData} (D77:DefAt K mg "_law_wide" (top 77) f77 fd77)
    {f78:Addr}{fd78:FuncData} (D78:DefAt K mg "_law_word" (top 78) f78 fd78)
    {f79:Addr}{fd79:FuncData} (D79:DefAt K mg "_law_steps_of" (top 79) f79 fd79)
    {f80:Addr}{fd80:FuncData} (D80:DefAt K mg "_law_tens" (top 80) f80 fd80)
    {f81:Addr}{fd81:FuncData} (D81:DefAt K mg "_law_all_figures" (top 81) f81 fd81)
    {f87:Addr}{fd87:FuncData} (D87:DefAt K mg "_law_due" (top 87) f87 fd87)
    {f13:Addr}{fd13:FuncData} (D13:DefAt K mg "is_within" (top 13) f13 fd13)
    {f41:Addr}{fd41:FuncData} (D41:DefAt K mg "power_written" (top 41) f41 fd41)
    {f45:Addr}{fd45:FuncData} (D45:DefAt K mg "height_of" (top 45) f45 fd45)
    {f46:Addr}{fd46:FuncData} (D46:DefAt K mg "in_steps" (top 46) f46 fd46)
    {f61:Addr}{fd61:FuncData} (D61:DefAt K mg "steps_taken" (top 61) f61 fd61)
    {f82:Addr}{fd82:FuncData} (D82:DefAt K mg "_law_parts" (top 82) f82 fd82)
    {f83:Addr}{fd83:FuncData} (D83:DefAt K mg "_law_next_two" (top 83) f83 fd83)
    {f85:Addr}{fd85:FuncData} (D85:DefAt K mg "_law_decade" (top 85) f85 fd85)
    {f14:Addr}{fd14:FuncData} (D14:DefAt K mg "width_of" (top 14) f14 fd14)
    {f22:Addr}{fd22:FuncData} (D22:DefAt K mg "check_part" (top 22) f22 fd22)
    {f39:Addr}{fd39:FuncData} (D39:DefAt K mg "parts_of" (top 39) f39 fd39)
    {f15:Addr}{fd15:FuncData} (D15:DefAt K mg "check_width" (top 15) f15 fd15)
    {f16:Addr}{fd16:FuncData} (D16:DefAt K mg "many_words" (top 16) f16 fd16)
    {f17:Addr}{fd17:FuncData} (D17:DefAt K mg "bias_of" (top 17) f17 fd17)
    {f24:Addr}{fd24:FuncData} (D24:DefAt K mg "joined" (top 24) f24 fd24)
    {f18:Addr}{fd18:FuncData} (D18:DefAt K mg "least_power" (top 18) f18 fd18)
    {f21:Addr}{fd21:FuncData} (D21:DefAt K mg "check_word" (top 21) f21 fd21)
    {f26:Addr}{fd26:FuncData} (D26:DefAt K mg "none_of" (top 26) f26 fd26)
    {f27:Addr}{fd27:FuncData} (D27:DefAt K mg "endless_of" (top 27) f27 fd27)
    {f63:Addr}{fd63:FuncData} (D63:DefAt K mg "marks_of" (top 63) f63 fd63)
    {f23:Addr}{fd23:FuncData} (D23:DefAt K mg "cut" (top 23) f23 fd23)
    {f30:Addr}{fd30:FuncData} (D30:DefAt K mg "turned" (top 30) f30 fd30)
    {f31:Addr}{fd31:FuncData} (D31:DefAt K mg "unsigned" (top 31) f31 fd31)
    {f60:Addr}{fd60:FuncData} (D60:DefAt K mg "step_power" (top 60) f60 fd60)
    {f25:Addr}{fd25:FuncData} (D25:DefAt K mg "kind_of" (top 25) f25 fd25)
    {f32:Addr}{fd32:FuncData} (D32:DefAt K mg "with_sign" (top 32) f32 fd32)
    {f35:Addr}{fd35:FuncData} (D35:DefAt K mg "value_of" (top 35) f35 fd35)
    {f62:Addr}{fd62:FuncData} (D62:DefAt K mg "settled" (top 62) f62 fd62)
    {f66:Addr}{fd66:FuncData} (D66:DefAt K mg "named_word" (top 66) f66 fd66)
    {f59:Addr}{fd59:FuncData} (D59:DefAtD K mg "taken" (top 59) f59 fd59 "even")
    {f69:Addr}{fd69:FuncData} (D69:DefAt K mg "decimal_of" (top 69) f69 fd69)
    {f67:Addr}{fd67:FuncData} (D67:DefAt K mg "decimal_taken" (top 67) f67 fd67)
    {f68:Addr}{fd68:FuncData} (D68:DefAt K mg "exact_text" (top 68) f68 fd68)
    {f65:Addr}{fd65:FuncData} (D65:DefAtD K mg "read" (top 65) f65 fd65 "even")
    {f73:Addr}{fd73:FuncData} (D73:DefAt K mg "without_figures" (top 73) f73 fd73)
    {f72:Addr}{fd72:FuncData} (D72:DefAt K mg "fewest_figures" (top 72) f72 fd72)
    {f84:Addr}{fd84:FuncData} (D84:DefAt K mg "_law_reads" (top 84) f84 fd84)
    {f71:Addr}{fd71:FuncData} (D71:DefAt K mg "shortest" (top 71) f71 fd71)
    {f86:Addr}{fd86:FuncData} (D86:DefAt K mg "_law_fewest" (top 86) f86 fd86)
    {f88:Addr}{fd88:FuncData} (D88:DefAt K mg "_law_told" (top 88) f88 fd88)
    {f89:Addr}{fd89:FuncData} (D89:DefAt K mg "law" (top 89) f89 fd89) :
    ∃ fd:FuncData,(∀ (s:Shared) (u:Value),BindsTo s fd ⟨[u],[]⟩ [("_law_script",u)])∧∀ base:Heap,K.In base→base.Ns mainGlobals mg→FnOk P w K mg base (CXm cl P w) 16 fa fd ["_law_script"] (spF K cl 1 q_law_v88):=by
  have e:=hfa.symm.trans D89.mg
  cases e
  refine ⟨fd89,?_,fun base KXb _=>?_⟩
  · obtain ⟨oc,od,kV,doc,pm,an,cdv,ct,osl,rfl,lk,hcd⟩:=D89.fn.ex
    exact fun s v=>.of_eq rfl
  ·
    have nd:=nodig_of KXb zdo zdn
    have z4x:MG P w K mg base cl 1 21 "grows" 3 z52:=z4x T D52_0
    have z4v:MG P w K mg base cl 1 22 "grows" 3 z50:=z4v T D53_0
    have z4y:MG P w K mg base cl 1 23 "grows" 3 z53:=z4y T D54_0
    have z4z:MG P w K mg base cl 1 24 "grows" 3 z54:=z4z T D55_0
    have z4w:MG P w K mg base cl 1 25 "grows" 3 z51:=z4w T D56_0
    have z3h:FG P w K mg base cl 1 "is_whole" 1 z3v:=z3h T D12
    have g_all_ones:FG P w K mg base cl 1 "all_ones" 1 z6:=g_all_ones T D20
    have z1l:FG P w K mg base cl 1 "highest_of_fraction" 1 z1x:=z1l T D28
    have z1n:FG P w K mg base cl 1 "sign_bit" 1 z22:=z1n T D29
    have z3c:FG P w K mg base cl 1 "exact" 2 zi:=z3c T D34
    have z15:FG P w K mg base cl 1 "check_figures" 1 q_check_figures_v3:=z15 T D40
    have g_ten_power:FG P w K mg base cl 1 "ten_power" 1 zj:=g_ten_power T D42
    have z1g:FG P w K mg base cl 1 "as_quotient" 3 z19:=z1g T D44
    have z17:FG P w K mg base cl 1 "way_of" 1 z1c:=z17 T D57
    have z3n:FG P w K mg base cl 1 "point_text" 1 z2c:=z3n T D70 nd
    have z3o:FG P w K mg base cl 1 "power_text" 1 z20:=z3o T D74 nd
    have z2n:FG P w K mg base cl 1 "_law_cell_at" 2 z1r:=z2n T D76
    have z3a:FG P w K mg base cl 1 "_law_wide" 1 z2a:=z3a T D77
    have z3b:FG P w K mg base cl 1 "_law_word" 2 z2b:=z3b T D78
    have z1f:FG P w K mg base cl 1 "_law_steps_of" 2 zy:=z1f T D79
    have zb:FG P w K mg base cl 1 "_law_tens" 1 z5:=zb T D80
    have z2m:FG P w K mg base cl 1 "_law_all_figures" 1 z1q:=z2m T D81
    have z2o:FG P w K mg base cl 1 "_law_due" 2 zh:=z2o T D87
    have ze:FG P w K mg base cl 2 "is_within" 3 zt:=ze T D13 z3h
    have z3p:FG P w K mg base cl 2 "power_written" 1 zu:=z3p T D41 z15 nd
    have z3f:FG P w K mg base cl 2 "height_of" 3 z1w:=z3f T D45 z1g
    have z3g:FG P w K mg base cl 2 "in_steps" 4 z11:=z3g T D46 z1g
    have m_grows:FM P w K mg base cl 1 "grows" 3 z2i:=fm_cons z4x (fm_cons z4v (fm_cons z4y (fm_cons z4z (fm_cons z4w (fm_nil)))))
    have z3r:FG P w K mg base cl 2 "steps_taken" 3 z2d:=z3r T D61 m_grows
    have z39:FG P w K mg base cl 2 "_law_parts" 1 zq:=z39 T D82 z2m nd
    have z2p:FG P w K mg base cl 2 "_law_next_two" 4 z1s:=z2p T D83 z1f zb
    have z37:FG P w K mg base cl 2 "_law_decade" 3 z28:=z37 T D85 z1f zb
    have z8:FG P w K mg base cl 3 "width_of" 2 zk:=z8 T D14 ze
    have z27:FG P w K mg base cl 3 "check_part" 2 z1u:=z27 T D22 ze g_all_ones
    have z3m:FG P w K mg base cl 3 "parts_of" 1 z4:=z3m T D39 z15 z3p nd
    have g_check_width:FG P w K mg base cl 4 "check_width" 1 q_check_width:=g_check_width T D15 z8
    have z3i:FG P w K mg base cl 5 "many_words" 1 z2u:=z3i T D16 g_check_width
    have z1h:FG P w K mg base cl 5 "bias_of" 1 z1t:=z1h T D17 g_check_width
    have z1m:FG P w K mg base cl 5 "joined" 4 z1y:=z1m T D24 g_check_width z27
    have zo:FG P w K mg base cl 6 "least_power" 1 z12:=zo T D18 z1h
    have zm:FG P w K mg base cl 6 "check_word" 2 q_check_word:=zm T D21 ze z3i
    have z3l:FG P w K mg base cl 6 "none_of" 1 z49:=z3l T D26 g_check_width z1m g_all_ones z1l
    have z1k:FG P w K mg base cl 6 "endless_of" 1 z1v:=z1k T D27 g_check_width z1m g_all_ones
    have z3j:FG P w K mg base cl 6 "marks_of" 3 z1z:=z3j T D63 z1h
    have z88:FG P w K mg base cl 7 "cut" 2 z8f:=z88 T D23 zm g_all_ones
    have z3s:FG P w K mg base cl 7 "turned" 2 z2e:=z3s T D30 zm z1n
    have z1p:FG P w K mg base cl 7 "unsigned" 2 z1a:=z1p T D31 zm z1n
    have z1o:FG P w K mg base cl 7 "step_power" 2 z13:=z1o T D60 zo
    have zn:FG P w K mg base cl 8 "kind_of" 2 za:=zn T D25 z88 g_all_ones z1l
    have zg:FG P w K mg base cl 8 "with_sign" 3 q_with_sign:=zg T D32 z3s
    have z3t:FG P w K mg base cl 9 "value_of" 2 z1b:=z3t T D35 zn z88 zo z3c
    have z3q:FG P w K mg base cl 9 "settled" 5 z21:=z3q T D62 z1k z1o zo z3r zg z3j m_grows
    have z3k:FG P w K mg base cl 9 "named_word" 2 z2v:=z3k T D66 z3l zg z1k
    have z2r:FGD P w K mg base cl 10 "taken" 5 zv "even":=z2r T D59 g_check_width z17 z3f z3g z3q z1o
    have z1i:FG P w K mg base cl 10 "decimal_of" 2 z10:=z1i T D69 z3t z1p g_ten_power
    have z1j:FG P w K mg base cl 11 "decimal_taken" 4 z9:=z1j T D67 z2r g_ten_power
    have z3d:FG P w K mg base cl 11 "exact_text" 2 zc:=z3d T D68 zn z3n z88 z1i
    have zp:FGD P w K mg base cl 12 "read" 3 q_read "even":=zp T D65 g_check_width z3k z3m z1j z17 zg
    have z3u:FG P w K mg base cl 12 "without_figures" 4 zw:=z3u T D73 g_ten_power z1j
    have z3e:FG P w K mg base cl 13 "fewest_figures" 2 z2s:=z3e T D72 z1i z3u nd
    have z1e:FG P w K mg base cl 13 "_law_reads" 4 zr:=z1e T D84 zp nd
    have z16:FG P w K mg base cl 14 "shortest" 2 z7:=z16 T D71 zn z3d z3o z3e z88 z1p
    have z38:FG P w K mg base cl 14 "_law_fewest" 3 z29:=z38 T D86 z8 z37 z2p zb z1e
    have z2q:FG P w K mg base cl 15 "_law_told" 2 z18:=z2q T D88 z8 z16 z39 z2o z38 zp
    exact o_law T D89 z3a z8 z2n z2q z16 z3b zp
theorem fin {P:Program}{w:World}{K:PySem.W.Frag}{mg:Str→Option Value}{fa:Addr}{h:Heap} (X:K.In h) (G:h.Ns mainGlobals mg) (hfa:mg "law"=some (.ref fa)) (hcls:clsOk2 K anames names=true) (hways:waysOk K wnames=true) (zdo:PySem.W.nsOkIn K cStatics=true) (zdn:PySem.W.nsIn K cStatics "sys.int_max_str_digits"=some none) (z_abs:PySem.W.nsIn K mainGlobals "abs"=some none) (z_all:PySem.W.nsIn K mainGlobals "all"=some none) (z_bool:PySem.W.nsIn K mainGlobals "bool"=some none) (z_divmod:PySem.W.nsIn K mainGlobals "divmod"=some none) (z_int:PySem.W.nsIn K mainGlobals "int"=some none) (z_isinstance:PySem.W.nsIn K mainGlobals "isinstance"=some none) (z_len:PySem.W.nsIn K mainGlobals "len"=some none) (z_max:PySem.W.nsIn K mainGlobals "max"=some none) (z_str:PySem.W.nsIn K mainGlobals "str"=some none) (z_tuple:PySem.W.nsIn K mainGlobals "tuple"=some none) {t_LEAST_E:Tok} (y_LEAST_E:PySem.W.nsIn K mainGlobals "LEAST_E"=some (some (.int 2 t_LEAST_E))) {t_MOST_E:Tok} (y_MOST_E:PySem.W.nsIn K mainGlobals "MOST_E"=some (some (.int 11 t_MOST_E))) {t_LEAST_F:Tok} (y_LEAST_F:PySem.W.nsIn K mainGlobals "LEAST_F"=some (some (.int 1 t_LEAST_F))) {t_MOST_F:Tok} (y_MOST_F:PySem.W.nsIn K mainGlobals "MOST_F"=some (some (.int 60 t_MOST_F))) {t_MOST_SIGNS:Tok} (y_MOST_SIGNS:PySem.W.nsIn K mainGlobals "MOST_SIGNS"=some (some (.int 1200 t_MOST_SIGNS))) {t_MOST_POWER_FIGURES:Tok} (y_MOST_POWER_FIGURES:PySem.W.nsIn K mainGlobals "MOST_POWER_FIGURES"=some (some (.int 3 t_MOST_POWER_FIGURES))) {t_GREAT:Tok} (y_GREAT:PySem.W.nsIn K mainGlobals "GREAT"=some (some (.int 4 t_GREAT))) {t_SMALL:Tok} (y_SMALL:PySem.W.nsIn K mainGlobals "SMALL"=some (some (.int 8 t_SMALL))) {t_NEAR:Tok} (y_NEAR:PySem.W.nsIn K mainGlobals "NEAR"=some (some (.int 16 t_NEAR)))
    (E52_0:∃ f fd,MethAt K (clOf K anames) 21 "grows" "Even.grows" (inClass (top 52) 0) f fd)
    (E53_0:∃ f fd,MethAt K (clOf K anames) 22 "grows" "Away.grows" (inClass (top 53) 0) f fd)
    (E54_0:∃ f fd,MethAt K (clOf K anames) 23 "grows" "Inward.grows" (inClass (top 54) 0) f fd)
    (E55_0:∃ f fd,MethAt K (clOf K anames) 24 "grows" "Upward.grows" (inClass (top 55) 0) f fd)
    (E56_0:∃ f fd,MethAt K (clOf K anames) 25 "grows" "Downward.grows" (inClass (top 56) 0) f fd)
    (E12:∃ f fd,DefAt K mg "is_whole" (top 12) f fd)
    (E20:∃ f fd,DefAt K mg "all_ones" (top 20) f fd)
    (E28:∃ f fd,DefAt K mg "highest_of_fraction" (top 28) f fd)
    (E29:∃ f fd,DefAt K mg "sign_bit" (top 29) f fd)
    (E34:∃ f fd,DefAt K mg "exact" (top 34) f fd)
    (E40:∃ f fd,DefAt K mg "check_figures" (top 40) f fd)
    (E42:∃ f fd,DefAt K mg "ten_power" (top 42) f fd)
    (E44:∃ f fd,DefAt K mg "as_quotient" (top 44) f fd)
    (E57:∃ f fd,DefAt K mg "way_of" (top 57) f fd)
    (E70:∃ f fd,DefAt K mg "point_text" (top 70) f fd)
    (E74:∃ f fd,DefAt K mg "power_text" (top 74) f fd)
    (E76:∃ f fd,DefAt K mg "_law_cell_at" (top 76) f fd)
    (E77:∃ f fd,DefAt K mg "_law_wide" (top 77) f fd)
    (E78:∃ f fd,DefAt K mg "_law_word" (top 78) f fd)
    (E79:∃ f fd,DefAt K mg "_law_steps_of" (top 79) f fd)
    (E80:∃ f fd,DefAt K mg "_law_tens" (top 80) f fd)
    (E81:∃ f fd,DefAt K mg "_law_all_figures" (top 81) f fd)
    (E87:∃ f fd,DefAt K mg "_law_due" (top 87) f fd)
    (E13:∃ f fd,DefAt K mg "is_within" (top 13) f fd)
    (E41:∃ f fd,DefAt K mg "power_written" (top 41) f fd)
    (E45:∃ f fd,DefAt K mg "height_of" (top 45) f fd)
    (E46:∃ f fd,DefAt K mg "in_steps" (top 46) f fd)
    (E61:∃ f fd,DefAt K mg "steps_taken" (top 61) f fd)
    (E82:∃ f fd,DefAt K mg "_law_parts" (top 82) f fd)
    (E83:∃ f fd,DefAt K mg "_law_next_two" (top 83) f fd)
    (E85:∃ f fd,DefAt K mg "_law_decade" (top 85) f fd)
    (E14:∃ f fd,DefAt K mg "width_of" (top 14) f fd)
    (E22:∃ f fd,DefAt K mg "check_part" (top 22) f fd)
    (E39:∃ f fd,DefAt K mg "parts_of" (top 39) f fd)
    (E15:∃ f fd,DefAt K mg "check_width" (top 15) f fd)
    (E16:∃ f fd,DefAt K mg "many_words" (top 16) f fd)
    (E17:∃ f fd,DefAt K mg "bias_of" (top 17) f fd)
    (E24:∃ f fd,DefAt K mg "joined" (top 24) f fd)
    (E18:∃ f fd,DefAt K mg "least_power" (top 18) f fd)
    (E21:∃ f fd,DefAt K mg "check_word" (top 21) f fd)
    (E26:∃ f fd,DefAt K mg "none_of" (top 26) f fd)
    (E27:∃ f fd,DefAt K mg "endless_of" (top 27) f fd)
    (E63:∃ f fd,DefAt K mg "marks_of" (top 63) f fd)
    (E23:∃ f fd,DefAt K mg "cut" (top 23) f fd)
    (E30:∃ f fd,DefAt K mg "turned" (top 30) f fd)
    (E31:∃ f fd,DefAt K mg "unsigned" (top 31) f fd)
    (E60:∃ f fd,DefAt K mg "step_power" (top 60) f fd)
    (E25:∃ f fd,DefAt K mg "kind_of" (top 25) f fd)
    (E32:∃ f fd,DefAt K mg "with_sign" (top 32) f fd)
    (E35:∃ f fd,DefAt K mg "value_of" (top 35) f fd)
    (E62:∃ f fd,DefAt K mg "settled" (top 62) f fd)
    (E66:∃ f fd,DefAt K mg "named_word" (top 66) f fd)
    (E59:∃ f fd,DefAtD K mg "taken" (top 59) f fd "even")
    (E69:∃ f fd,DefAt K mg "decimal_of" (top 69) f fd)
    (E67:∃ f fd,DefAt K mg "decimal_taken" (top 67) f fd)
    (E68:∃ f fd,DefAt K mg "exact_text" (top 68) f fd)
    (E65:∃ f fd,DefAtD K mg "read" (top 65) f fd "even")
    (E73:∃ f fd,DefAt K mg "without_figures" (top 73) f fd)
    (E72:∃ f fd,DefAt K mg "fewest_figures" (top 72) f fd)
    (E84:∃ f fd,DefAt K mg "_law_reads" (top 84) f fd)
    (E71:∃ f fd,DefAt K mg "shortest" (top 71) f fd)
    (E86:∃ f fd,DefAt K mg "_law_fewest" (top 86) f fd)
    (E88:∃ f fd,DefAt K mg "_law_told" (top 88) f fd)
    (E89:∃ f fd,DefAt K mg "law" (top 89) f fd) :
    ∃ fd:FuncData,(∀ (s:Shared) (u:Value),BindsTo s fd ⟨[u],[]⟩ [("_law_script",u)])∧∀ base:Heap,K.In base→base.Ns mainGlobals mg→FnOk P w K mg base (CXm (clOf K anames) P w) 16 fa fd ["_law_script"] (spF K (clOf K anames) 1 q_law_v88):=by
  obtain ⟨f52_0,fd52_0,D52_0⟩:=E52_0
  obtain ⟨f53_0,fd53_0,D53_0⟩:=E53_0
  obtain ⟨f54_0,fd54_0,D54_0⟩:=E54_0
  obtain ⟨f55_0,fd55_0,D55_0⟩:=E55_0
  obtain ⟨f56_0,fd56_0,D56_0⟩:=E56_0
  obtain ⟨f12,fd12,D12⟩:=E12
  obtain ⟨f20,fd20,D20⟩:=E20
  obtain ⟨f28,fd28,D28⟩:=E28
  obtain ⟨f29,fd29,D29⟩:=E29
  obtain ⟨f34,fd34,D34⟩:=E34
  obtain ⟨f40,fd40,D40⟩:=E40
  obtain ⟨f42,fd42,D42⟩:=E42
  obtain ⟨f44,fd44,D44⟩:=E44
  obtain ⟨f57,fd57,D57⟩:=E57
  obtain ⟨f70,fd70,D70⟩:=E70
  obtain ⟨f74,fd74,D74⟩:=E74
  obtain ⟨f76,fd76,D76⟩:=E76
  obtain ⟨f77,fd77,D77⟩:=E77
  obtain ⟨f78,fd78,D78⟩:=E78
  obtain ⟨f79,fd79,D79⟩:=E79
  obtain ⟨f80,fd80,D80⟩:=E80
  obtain ⟨f81,fd81,D81⟩:=E81
  obtain ⟨f87,fd87,D87⟩:=E87
  obtain ⟨f13,fd13,D13⟩:=E13
  obtain ⟨f41,fd41,D41⟩:=E41
  obtain ⟨f45,fd45,D45⟩:=E45
  obtain ⟨f46,fd46,D46⟩:=E46
  obtain ⟨f61,fd61,D61⟩:=E61
  obtain ⟨f82,fd82,D82⟩:=E82
  obtain ⟨f83,fd83,D83⟩:=E83
  obtain ⟨f85,fd85,D85⟩:=E85
  obtain ⟨f14,fd14,D14⟩:=E14
  obtain ⟨f22,fd22,D22⟩:=E22
  obtain ⟨f39,fd39,D39⟩:=E39
  obtain ⟨f15,fd15,D15⟩:=E15
  obtain ⟨f16,fd16,D16⟩:=E16
  obtain ⟨f17,fd17,D17⟩:=E17
  obtain ⟨f24,fd24,D24⟩:=E24
  obtain ⟨f18,fd18,D18⟩:=E18
  obtain ⟨f21,fd21,D21⟩:=E21
  obtain ⟨f26,fd26,D26⟩:=E26
  obtain ⟨f27,fd27,D27⟩:=E27
  obtain ⟨f63,fd63,D63⟩:=E63
  obtain ⟨f23,fd23,D23⟩:=E23
  obtain ⟨f30,fd30,D30⟩:=E30
  obtain ⟨f31,fd31,D31⟩:=E31
  obtain ⟨f60,fd60,D60⟩:=E60
  obtain ⟨f25,fd25,D25⟩:=E25
  obtain ⟨f32,fd32,D32⟩:=E32
  obtain ⟨f35,fd35,D35⟩:=E35
  obtain ⟨f62,fd62,D62⟩:=E62
  obtain ⟨f66,fd66,D66⟩:=E66
  obtain ⟨f59,fd59,D59⟩:=E59
  obtain ⟨f69,fd69,D69⟩:=E69
  obtain ⟨f67,fd67,D67⟩:=E67
  obtain ⟨f68,fd68,D68⟩:=E68
  obtain ⟨f65,fd65,D65⟩:=E65
  obtain ⟨f73,fd73,D73⟩:=E73
  obtain ⟨f72,fd72,D72⟩:=E72
  obtain ⟨f84,fd84,D84⟩:=E84
  obtain ⟨f71,fd71,D71⟩:=E71
  obtain ⟨f86,fd86,D86⟩:=E86
  obtain ⟨f88,fd88,D88⟩:=E88
  obtain ⟨f89,fd89,D89⟩:=E89
  exact all hfa ⟨cls_inj2 hcls,cls_of2 X G (by decide) (fun p h=>List.mem_append_left _ h) hcls,ways_of X G (by decide) (fun p h=>List.mem_append_right _ h) hways,PySem.W.mg_none_of X G z_abs,PySem.W.mg_none_of X G z_all,PySem.W.mg_none_of X G z_bool,PySem.W.mg_none_of X G z_divmod,PySem.W.mg_none_of X G z_int,PySem.W.mg_none_of X G z_isinstance,PySem.W.mg_none_of X G z_len,PySem.W.mg_none_of X G z_max,PySem.W.mg_none_of X G z_str,PySem.W.mg_none_of X G z_tuple,⟨_,PySem.W.mg_of X G y_LEAST_E⟩,⟨_,PySem.W.mg_of X G y_MOST_E⟩,⟨_,PySem.W.mg_of X G y_LEAST_F⟩,⟨_,PySem.W.mg_of X G y_MOST_F⟩,⟨_,PySem.W.mg_of X G y_MOST_SIGNS⟩,⟨_,PySem.W.mg_of X G y_MOST_POWER_FIGURES⟩,⟨_,PySem.W.mg_of X G y_GREAT⟩,⟨_,PySem.W.mg_of X G y_SMALL⟩,⟨_,PySem.W.mg_of X G y_NEAR⟩⟩ zdo zdn D52_0 D53_0 D54_0 D55_0 D56_0 D12 D20 D28 D29 D34 D40 D42 D44 D57 D70 D74 D76 D77 D78 D79 D80 D81 D87 D13 D41 D45 D46 D61 D82 D83 D85 D14 D22 D39 D15 D16 D17 D24 D18 D21 D26 D27 D63 D23 D30 D31 D60 D25 D32 D35 D62 D66 D59 D69 D67 D68 D65 D73 D72 D84 D71 D86 D88 D89
end K76
namespace PySem.W.Fast
def tw4204655911549734332:=()
def tw2135328816986882442:=()
def tw13636971993870921794:=()
def tw11255808502830866800:=()
def tw11683533945405573651:=()
def tw11832648383316416028:=()
def tw2082922576767203174:=()
def tw15271960212932148801:=()
def tw8908800953088347320:=()
def tw17744878267827503129:=()
def tw2909395331917918554:=()
def tw7465278158996810422:=()
def tw17261136837365069823:=()
def tw13913728722746558701:=()
def tw7000124119047644054:=()
def tw12635199863689980308:=()
def tw16284325204951601713:=()
def tw2692695952468956638:=()
def tw961114587823778958:=()
def tw2770814953221925306:=()
def tw13634489441234124429:=()
def tw13415066135317408764:=()
def tw5980392120619333618:=()
def tw16515685862016990759:=()
def tw1768987584032673990:=()
def tw17733591932511593087:=()
def tw10616856057186506679:=()
def tw584162331342215529:=()
def tw2475254898007131159:=()
def tw10134638159778643810:=()
def tw11578307711223326297:=()
def tw15090437450372201351:=()
def tw11294365710187824168:=()
def tw559064322319346932:=()
def tw17898917626134293695:=()
def tw12124467710235161533:=()
def tw17573349671432741338:=()
def tw17583384677807969372:=()
def tw14365582212375048775:=()
def tw1291698707284217146:=()
def tw7307123086007245375:=()
def tw7056770457134629748:=()
def tw7079940902263488056:=()
def tw11091034292923294504:=()
def tw8456242782425503591:=()
def tw5041608773114334277:=()
def tw583106920932740402:=()
def tw5374817611275060965:=()
def tw15451121350652401677:=()
def tw14843606321234434490:=()
def tw6473048026927218578:=()
def tw10778532700679119970:=()
def tw15324448856326576086:=()
def tw10299768591184641218:=()
def tw16988249896672622911:=()
def tw9384125607749771471:=()
def tw2233915535684592322:=()
def tw11283296899466345223:=()
def tw4370694682494963912:=()
def tw1927781475663529780:=()
def tw3393584382997649015:=()
def tw1954010264572771099:=()
def tw9812525144280932996:=()
def tw15196386142153578423:=()
def tw6812008382587475730:=()
def tw5246506320700915142:=()
def tw2121558765944524457:=()
def tw15837586121244497220:=()
def tw17517144129038842971:=()
def tw3033774677535830800:=()
def tw1481810644755892751:=()
def tw18340424818901034161:=()
def tw14005772734588980075:=()
def tw8157897092505921901:=()
def tw3908935183657512888:=()
def tw35716166823163849:=()
def tw11945416415491562076:=()
def tw15859059191817054273:=()
def tw13758350621062994565:=()
def tw7587521986623597625:=()
def tw12181725011480329347:=()
def tw16649011663421448122:=()
def tw14374176468313158945:=()
def tw866456477229320147:=()
def tw7238555824643854328:=()
def tw3806065314992642332:=()
def tw7666043494308365592:=()
def tw1260669117170288163:=()
def tw6905302016726415603:=()
def tw9978620638415011126:=()
def tw6853635852470301600:=()
def tw17171711179051270963:=()
def tw15893774132738969574:=()
def tw12362465938914956585:=()
def tw4685869183259033589:=()
def tw11010304562336536692:=()
def tw3716674834470388468:=()
def tw15986287542841777073:=()
def tw2845955628267005418:=()
def tw16373254182254373157:=()
def tw14563292142148700585:=()
def tw3323827342092698114:=()
def tw6009065730963208257:=()
def tw8627397667394967890:=()
def tw18082346814901447699:=()
def tw11764969105692853527:=()
def tw17113321052004799763:=()
def tw16555734007822092565:=()
def tw13206161105232710813:=()
def tw10180502597877233620:=()
def tw2023779050030660764:=()
def tw8164592560147704980:=()
def tw14128243014468970385:=()
def tw3863959573075644590:=()
def tw765917496177329127:=()
def tw7137536764345838314:=()
def tw2010672208458264811:=()
def tw9061213570929796349:=()
def tw10334367202374626409:=()
def tw16868543957753438424:=()
def tw15384771443353513120:=()
def tw6490847499452734705:=()
def tw13672510683592821519:=()
def tw15883612836031392457:=()
def tw10198551065818552749:=()
def tw15741039164711482768:=()
def tw6985832247920464999:=()
def tw6923357062380203440:=()
def tw11727765507461429118:=()
def tw2578267560839066944:=()
def tw10734846516589956915:=()
def tw12660941327050549381:=()
def tw15248639604525738413:=()
def tw13551735866606896026:=()
def tw7804417162625877434:=()
def tw1614700940401635796:=()
def tw13119588190309395886:=()
def tw5105045842232019589:=()
def tw14586026498300646524:=()
def tw17309783803736059365:=()
def tw11401684638034441908:=()
def tw8401915950363791555:=()
def tw9033020451025056927:=()
def tw6739861263651552063:=()
def tw13120506151809515192:=()
def tw13448779080578205878:=()
def tw12860566490037692973:=()
def tw7787791394479427357:=()
def tw18311116993966383806:=()
def tw4081322478209904534:=()
def tw12690464659915594534:=()
def tw18181511372620773880:=()
def tw14149775033975067679:=()
def tw396351393334482256:=()
def tw2591321456663041292:=()
def tw3254565523658065078:=()
def tw10308972394182632108:=()
def tw13447201238172142324:=()
def tw5699949916866368914:=()
def tw12101099923536085631:=()
def tw6663726749178307385:=()
def tw9653606203449044435:=()
def tw7446115799843843359:=()
def tw7351484059487578536:=()
def tw5061523821498657140:=()
def tw7934668179940713983:=()
def tw2783583834635326924:=()
def tw17067454309556854336:=()
def tw1608688214188415088:=()
def tw5675294438264309919:=()
def tw16717022879667693852:=()
def tw7703804929447740941:=()
def tw4603147457033774896:=()
def tw10253188901034652438:=()
def tw3569988720607055038:=()
def tw1371019936102251626:=()
def tw4268188734172726816:=()
def tw3734787510682907174:=()
def tw7153077718350471469:=()
def tw8743482039634106470:=()
def tw14864754458736512445:=()
def tw16814236148315967359:=()
def tw1505264073770611989:=()
def tw17565316224430572217:=()
def tw5051615168311235846:=()
def tw11291227984632224858:=()
def tw3453287893109073075:=()
def tw9822301451664139929:=()
def tw3367445344673391854:=()
def tw16604888183924234681:=()
def tw11494110130481253789:=()
def tw10596626101733175923:=()
def tw8221903296839205854:=()
def tw10510024934586995498:=()
def tw11225565757815755748:=()
def tw732360276759421867:=()
def tw2980703766735006145:=()
def tw3081166168324031110:=()
def tw14501281694947295551:=()
def tw13955070093119244917:=()
def tw13332558069532875809:=()
def tw7690711985883878392:=()
def tw9527804879599404832:=()
def tw6269206901939981838:=()
def tw18137162001376290384:=()
def tw7115475533240434021:=()
def tw575143375044209018:=()
def tw16633985977928010803:=()
def tw7612548976037890108:=()
def tw5222319636552641348:=()
def tw7296327659159072002:=()
def tw1448864984163410614:=()
def tw5277544075737561479:=()
def tw3920985870090540575:=()
def tw8570991036213508383:=()
def tw7388051202733522693:=()
def tw13807509250402949377:=()
def tw2920188959845727169:=()
def tw1800240089737745727:=()
def tw812105469060799339:=()
def tw1183426126363110417:=()
def tw3181955520001987018:=()
def tw13535532020058468628:=()
def tw11380891792437142582:=()
def tw10841774244764169662:=()
def tw8909383749497988446:=()
def tw16822885720195056729:=()
def tw14883134559671964686:=()
def tw12311661739229124377:=()
def tw1564104245905817045:=()
def tw4254665382503734350:=()
def tw7319184818757789880:=()
def tw5542375830808716407:=()
def tw2393222246590709036:=()
def tw10807988256367553178:=()
def tw9776618932219234099:=()
def tw12909902956839145885:=()
def tw18254007704865288318:=()
def tw17211736603204075700:=()
def tw6318945035555983667:=()
def tw7933112466925802557:=()
def tw14323197766953175499:=()
def tw184211594234917706:=()
def tw11534185329823589130:=()
def tw5264190284161146735:=()
def tw2027213908043597366:=()
def tw7524270792533220493:=()
def tw4604087928632319940:=()
def tw13801083567712863385:=()
def tw17812429508435481478:=()
def tw15616066229232746478:=()
def tw1061119852041482419:=()
def tw1313546063275719341:=()
def tw2186282993509284206:=()
def tw17036278468760575150:=()
def tw523041694916009433:=()
def tw135677157272278076:=()
def tw12418885175200640037:=()
def tw432898829238459805:=()
def tw373697887653299399:=()
def tw1903400455762303695:=()
def tw3756606188680542278:=()
def tw5015540413046606847:=()
def tw8337202735699395692:=()
def tw12278418434928221230:=()
def tw6409846975978501187:=()
def tw5019621552312657665:=()
def tw16943147335824923262:=()
def tw4061064515841431762:=()
def tw8815234154507256652:=()
def tw4668192773408135753:=()
def tw17123789567711030959:=()
def tw438744862474469204:=()
def tw10722967597247979959:=()
def tw18136805536150147873:=()
def tw8606927388761018998:=()
def tw6356538423474144182:=()
def tw8522659427154704615:=()
def tw17345694655091939678:=()
def tw47841911611227056:=()
def tw16414597958129635795:=()
def tw7559144703649593485:=()
def tw1864984711895827856:=()
def tw17095265930191919446:=()
def tw3805290193104588619:=()
def tw16464230264587056821:=()
def tw15344166698780486401:=()
def tw12238016405035532146:=()
def tw673173813557568418:=()
def tw9710178212041641935:=()
def tw6581138016702719075:=()
def tw14596695901222373707:=()
def tw7104523088547830601:=()
def tw12616903240142488372:=()
def tw7948572104141026265:=()
def tw4090496728185993058:=()
def tw3668641281373941499:=()
def tw12251341916893097296:=()
def tw15014530592835569022:=()
def tw15863197174211731635:=()
def tw7369737409604164817:=()
def tw11333810858694119577:=()
def tw3555803446161130779:=()
def tw15841571109574697166:=()
def tw5566439437771437642:=()
def tw800254489501260184:=()
def tw4189108088374895592:=()
def tw5231380976013418317:=()
def tw11289687638633993879:=()
def tw14196006024939569673:=()
def tw1853946532259296659:=()
def tw10445148562790385066:=()
def tw7160653567631326679:=()
def tw3921173121814695007:=()
def tw12311330419223340592:=()
def tw14838608010024169012:=()
def tw5394398153170473125:=()
def tw9092368071720749352:=()
def tw7811708221598960663:=()
def tw12687206256060328545:=()
def tw5967030457161089119:=()
def tw17476137217490505111:=()
def tw14633674164113228202:=()
def tw1131030255448997478:=()
def tw1636182569052252274:=()
def tw1070932240354103967:=()
def tw1424257973154624279:=()
def tw4938337755440757031:=()
def tw16991963776899928239:=()
def tw8675476065428467768:=()
def tw15193816181028657740:=()
def tw7158857823194521695:=()
def tw15449453165864809490:=()
def tw1096278383447187805:=()
def tw11162097998438893217:=()
def tw13500031311188608522:=()
def tw6265830027469071298:=()
def tw16128783905616567720:=()
def tw9893817654825371336:=()
def tw12781236355192938440:=()
def tw18049308311167476633:=()
def tw11093971850835329311:=()
def tw6373760866538511043:=()
def tw9257758768168908763:=()
def tw709541537815857311:=()
def tw17711053187519983238:=()
def tw8004976296360575291:=()
def tw11105864858050205261:=()
def tw18101159876933675562:=()
def tw16590007500876469772:=()
def tw18143727181495307916:=()
def tw525631853593666584:=()
def tw9768569215551776974:=()
def tw6062933882951123758:=()
def tw4344539145199683624:=()
def tw13776596127563926665:=()
def tw6672174654407722189:=()
def tw4744697227656967087:=()
def tw8001248602377328424:=()
def tw15998822633711193764:=()
def tw17703806382955609232:=()
def tw15086324943105252948:=()
def tw14014616894419251:=()
def tw14673907474430652650:=()
def tw12879031768844763048:=()
def tw16638676683898536367:=()
def tw7891678779197383910:=()
def tw8006159384637788042:=()
def tw16826943185325953275:=()
def tw8495864606550670209:=()
def tw17366159667997328130:=()
def tw15389048289442709679:=()
def tw6394759762011952724:=()
def tw1224177131331159017:=()
def tw691597515240350140:=()
def tw3960147551737442257:=()
def tw12044501045485697589:=()
def tw15668177723811992922:=()
def tw7962885540667451610:=()
def tw6202633406707182266:=()
def tw15725292936508029378:=()
def tw3560523729225513122:=()
def tw3960066025153265615:=()
def tw12024271315178929718:=()
def tw7258500550968783093:=()
def tw5686137328497350559:=()
def tw794922479015822759:=()
def tw10519414374390972900:=()
def tw6442597118412526267:=()
def tw9477794799912415953:=()
def tw6027070693672985008:=()
def tw18118484720566278714:=()
def tw8676759209109747408:=()
def tw3700739590198724479:=()
def tw5710916229194526353:=()
def tw6463147951197611716:=()
def tw327362748928996374:=()
def tw16182186184564069703:=()
def tw2318145681332217774:=()
def tw15053892206771286557:=()
def tw3286977761951399978:=()
def tw12852142300501411534:=()
def tw7813170180880842666:=()
def tw14981840501344887130:=()
def tw1351425579608807224:=()
def tw4670202355817607692:=()
def tw3328781278218319686:=()
def tw11594881486235926456:=()
def tw5273056825103787930:=()
def tw9357517520165518404:=()
def tw15224208538368958823:=()
def tw2925693807735762858:=()
def tw4675612431922800038:=()
def tw685008123222528021:=()
def tw4733295234209027044:=()
def tw7196475373134143695:=()
def tw7477103111273407370:=()
def tw9846261212824934039:=()
def tw8912616346140987726:=()
def tw5871841349604992382:=()
def tw11687807407371744658:=()
def tw590573671514386028:=()
def tw493815527526593988:=()
def tw7356149295223754987:=()
def tw6510225722940079882:=()
def tw13228098445198405502:=()
def tw13459691264573484977:=()
def tw4872388559443379913:=()
def tw14234077387981385619:=()
def tw6321296957413483735:=()
def tw3076727689974396818:=()
def tw4205266677810797039:=()
def tw6190555965983387911:=()
def tw7322379826724016068:=()
def tw4069573078524795712:=()
def tw5219402266389352184:=()
def tw8870089840978653153:=()
def tw10947083096545816942:=()
def tw11549413814093939824:=()
def tw7876157967086571403:=()
def tw17189117218230333553:=()
def tw14128943909584693944:=()
def tw16018899671480873054:=()
def tw1028621891915185353:=()
def tw5345941220112723995:=()
def tw4148531188357193529:=()
def tw7184806743727310055:=()
def tw7744703363301432802:=()
def tw12053010912514596595:=()
def tw14149174153611182007:=()
def tw10809600944718240813:=()
def tw3051357312617619038:=()
def tw7533599760209888745:=()
def tw6196471200482300633:=()
def tw16469225016558090088:=()
def tw1896413672426846153:=()
def tw1695492909190878421:=()
def tw6376072306750758771:=()
def tw14252822453957555820:=()
def tw8266737392365160816:=()
def tw5926484576540889037:=()
def tw6262427961118535363:=()
def tw17096345647061715687:=()
def tw9012181102434296743:=()
def tw10540722833989236210:=()
def tw6947672890540960932:=()
def tw13943015514947317438:=()
def tw9098633078127703890:=()
def tw13495667207929521836:=()
def tw6833648363821703562:=()
def tw15242721468727089964:=()
def tw5375695363074593088:=()
def tw1824573496103368759:=()
def tw5415705382182193238:=()
def tw11043968187160040195:=()
def tw9494504608098992333:=()
def tw8748072220276693806:=()
def tw11403393454616117808:=()
def tw13565316407642934157:=()
def tw17902921250347444977:=()
def tw1602146550913082756:=()
def tw6660582659303096502:=()
def tw2678685785994586875:=()
def tw15453818336819132501:=()
def tw13834980990317708439:=()
def tw495655702843297835:=()
def tw2333568755630532951:=()
def tw17681871734740918984:=()
def tw16002486488363018770:=()
def tw13668211519434996620:=()
def tw6119110059822645320:=()
def tw18342766538478854899:=()
def tw1409105118067298449:=()
def tw6501050619329913068:=()
def tw6585411363300534709:=()
def tw15262799631506950778:=()
def tw16408280566473692429:=()
def tw10009650330478118922:=()
def tw8497350136126834825:=()
def tw12998599002200671580:=()
def tw1534458388208649720:=()
def tw4811173116036493120:=()
def tw16097875638720624274:=()
def tw6122010644813910395:=()
def tw4905279662186466109:=()
def tw9025192742377794671:=()
def tw2899924904141958637:=()
def tw10693502449771686564:=()
def tw438048200211294983:=()
def tw528144463479420178:=()
def tw12703574208709135466:=()
def tw4834117341823152542:=()
def tw16996118959155447024:=()
def tw3854297505749207816:=()
def tw12207197172032845824:=()
def tw14605456944756418353:=()
def tw15521435964479931221:=()
def tw13203466240247689824:=()
def tw10540201257976463457:=()
def tw9788397321192064009:=()
def tw13022136198733443039:=()
def tw919205901573305281:=()
def tw17141953536730954019:=()
def tw7056428817991809499:=()
def tw14141431064629079335:=()
def tw1753103493204137092:=()
def tw12636430478732708196:=()
def tw7648740892689291307:=()
def tw10271476740362132635:=()
def tw11274048854333202461:=()
def tw9368978958248772298:=()
def tw3871685457443875493:=()
def tw3527237020953870736:=()
def tw14744947859954501662:=()
def tw10948405590217686745:=()
def tw6603607198930425582:=()
def tw1182415918772935509:=()
def tw3567723260965086761:=()
def tw2510405021818967764:=()
def tw2698800481172891048:=()
def tw9923411438995191628:=()
def tw14002628178863465256:=()
def tw10342999215959940874:=()
def tw11760776749312210557:=()
def tw15929806967040266234:=()
def tw16075144687648899687:=()
def tw12245794279845511331:=()
def tw3074266226999218200:=()
def tw15476609305082681904:=()
def tw5442960092971228266:=()
def tw17855159257900255234:=()
def tw9805128878345857271:=()
def tw18318302996680695280:=()
def tw7673164512718692770:=()
def tw5961837899139382618:=()
def tw11579289587822997531:=()
def tw16979708382695399620:=()
def tw2814192709355300776:=()
def tw9920960574340269438:=()
def tw16212799805428946986:=()
def tw490184323657900233:=()
def tw12132023200725986227:=()
def tw7890856365175561988:=()
def tw16063432297666086105:=()
def tw8905630980335139135:=()
def tw15819107480132632082:=()
def tw4243360462663554797:=()
def tw3984335382389700313:=()
def tw9311990291120502316:=()
def tw13272641689917084097:=()
def tw688213859842269801:=()
def tw16078822507528805003:=()
def tw11732477681228913898:=()
def tw4479970676200253080:=()
def tw18413984222074567595:=()
def tw18300351425776970481:=()
def tw16489344085697782213:=()
def tw9779305465255632491:=()
def tw8701001901203734534:=()
def tw3964549158607239231:=()
def tw11854655380794212026:=()
def tw3348299905018092986:=()
def tw13056038750908467779:=()
def tw4645182288176157584:=()
def tw18087455928249390940:=()
def tw15213569065807983727:=()
def tw7486440593196568240:=()
def tw13409963218905698652:=()
def tw8453386430984852680:=()
def tw18023024204994565160:=()
def tw11947938421439870285:=()
def tw3579800522541387333:=()
def tw9228755018138247959:=()
def tw565626371497607084:=()
def tw4737654171479140960:=()
def tw10207178372943534558:=()
def tw4503846219869710974:=()
def tw1908452198439318117:=()
def tw17761819106404545768:=()
def tw3137459546589588676:=()
def tw1758635982892910747:=()
def tw14165334613812476965:=()
def tw15353031997473620747:=()
def tw8216948987090595158:=()
def tw16752838242651265091:=()
def tw17039058261611211779:=()
def tw2823357311476465163:=()
def tw6207122875793050332:=()
def tw18003094805234332169:=()
def tw154687699131037220:=()
def tw11203982880661914376:=()
def tw15308589361487143187:=()
def tw2772544537204510585:=()
def tw9174045307634111482:=()
def tw5906269395913963307:=()
def tw16636386414439285679:=()
def tw4250518000167970412:=()
def tw12884521367877040214:=()
def tw10920465550468312095:=()
def tw2092758784270936125:=()
def tw6258594269799211720:=()
def tw5001959907493463607:=()
def tw14968082550781666137:=()
def tw8024191289874441667:=()
def tw5015656252262409636:=()
def tw12715963112293765386:=()
def tw12744512087172953177:=()
def tw13291461119978488774:=()
def tw4411330975057056043:=()
def tw15076950078954222249:=()
def tw12068053587639253668:=()
def tw7251008170827967346:=()
def tw17468994246301702339:=()
def tw13751862230710281758:=()
def tw5149987548876753655:=()
def tw4961511238771389663:=()
def tw12307045609529141529:=()
def tw13664112001129979910:=()
def tw16352758010867500742:=()
def tw2524994610080420180:=()
def tw9294118392718545406:=()
def tw13804254259543246407:=()
def tw1561027116463474585:=()
def tw1024814456385664923:=()
def tw6755461151738209751:=()
def tw7040068055006735102:=()
def tw9690999673932926970:=()
def tw6593592124095546327:=()
def tw11852078171872687968:=()
def tw374541010849268188:=()
def tw469429872662969743:=()
def tw8459266417407562078:=()
def tw17597284477235156173:=()
def tw11338281650232435123:=()
def tw3718915956480976947:=()
def tw11143697277426591649:=()
def tw10700049389296648402:=()
def tw7902237931802716787:=()
def tw17046234178420965580:=()
def tw5048317015691632221:=()
def tw5772266352228102522:=()
def tw12208429753502577129:=()
def tw17167443097001462577:=()
def tw9748501763277042347:=()
def tw8151605114781415170:=()
def tw539839844242601910:=()
def tw15314686575470601234:=()
def tw4349086900668634368:=()
def tw14630450993385832646:=()
def tw18128341838791419282:=()
def tw3803721611745814606:=()
def tw16235268577340172740:=()
def tw9775434442877326036:=()
def tw15525409861855267443:=()
def tw15341752169266317312:=()
def tw1478539266916153930:=()
def tw17479681996421173905:=()
def tw1173019585616914485:=()
def tw3252804687769469306:=()
def tw5289242655861569181:=()
def tw14608375261652372019:=()
def tw9552523371783323257:=()
def tw16162722466115706063:=()
def tw9367661340702614557:=()
def tw5987313021059324196:=()
end PySem.W.Fast
open PySem PySem.W PyProof.Rows
set_option maxRecDepth 100000 in
set_option maxHeartbeats 0 in
theorem PySem.Challenge.cw_floatforge_k76_whole_shortest_holds : PySem.Challenge.rw_floatforge_k76_whole_shortest.Holds := by
  w_on;o_law;k_head;(case hw=>w_witness2)
  k_fill
  refine Mi.law_of (l:=PySem.Challenge.rw_floatforge_k76_whole_shortest) (k:=16) (x:="_law_script") (F:=Cm.q_law_v88) (names:=K76.anames) rfl rfl ⟨rfl,by decide,by decide⟩ (fun w h Y=>PySem.W.kIn_of Y) ?F K76.holds
  case F =>
    intro w mg fa h KX G hmg
    refine' K76.fin KX G hmg ?hcls ?hways ?zdo ?zdn ?z_abs ?z_all ?z_bool ?z_divmod ?z_int ?z_isinstance ?z_len ?z_max ?z_str ?z_tuple ?y_LEAST_E ?y_MOST_E ?y_LEAST_F ?y_MOST_F ?y_MOST_SIGNS ?y_MOST_POWER_FIGURES ?y_GREAT ?y_SMALL ?y_NEAR ?E52_0 ?E53_0 ?E54_0 ?E55_0 ?E56_0 ?E12 ?E20 ?E28 ?E29 ?E34 ?E40 ?E42 ?E44 ?E57 ?E70 ?E74 ?E76 ?E77 ?E78 ?E79 ?E80 ?E81 ?E87 ?E13 ?E41 ?E45 ?E46 ?E61 ?E82 ?E83 ?E85 ?E14 ?E22 ?E39 ?E15 ?E16 ?E17 ?E24 ?E18 ?E21 ?E26 ?E27 ?E63 ?E23 ?E30 ?E31 ?E60 ?E25 ?E32 ?E35 ?E62 ?E66 ?E59 ?E69 ?E67 ?E68 ?E65 ?E73 ?E72 ?E84 ?E71 ?E86 ?E88 ?E89
    (case hcls=>kernel_rfl)
    (case hways=>kernel_rfl)
    (case zdo=>kernel_rfl)
    (case zdn=>k_is)
    (case z_abs=>k_is)
    (case z_all=>k_is)
    (case z_bool=>k_is)
    (case z_divmod=>k_is)
    (case z_int=>k_is)
    (case z_isinstance=>k_is)
    (case z_len=>k_is)
    (case z_max=>k_is)
    (case z_str=>k_is)
    (case z_tuple=>k_is)
    (case y_LEAST_E=>k_is)
    (case y_MOST_E=>k_is)
    (case y_LEAST_F=>k_is)
    (case y_MOST_F=>k_is)
    (case y_MOST_SIGNS=>k_is)
    (case y_MOST_POWER_FIGURES=>k_is)
    (case y_GREAT=>k_is)
    (case y_SMALL=>k_is)
    (case y_NEAR=>k_is)
    (case E52_0=>refine' Mi.meth_mk (all:=K76.anames) (x:="Even") (by decide) (Mi.at_mem 7 rfl) ?a ?b ?i ?l ?d ?k;(case a=>k_is);(case b=>k_is);(case i=>k_is);(case l=>k_is);(case d=>k_is);(case k=>k_is))
    (case E53_0=>refine' Mi.meth_mk (all:=K76.anames) (x:="Away") (by decide) (Mi.at_mem 8 rfl) ?a ?b ?i ?l ?d ?k;(case a=>k_is);(case b=>k_is);(case i=>k_is);(case l=>k_is);(case d=>k_is);(case k=>k_is))
    (case E54_0=>refine' Mi.meth_mk (all:=K76.anames) (x:="Inward") (by decide) (Mi.at_mem 9 rfl) ?a ?b ?i ?l ?d ?k;(case a=>k_is);(case b=>k_is);(case i=>k_is);(case l=>k_is);(case d=>k_is);(case k=>k_is))
    (case E55_0=>refine' Mi.meth_mk (all:=K76.anames) (x:="Upward") (by decide) (Mi.at_mem 10 rfl) ?a ?b ?i ?l ?d ?k;(case a=>k_is);(case b=>k_is);(case i=>k_is);(case l=>k_is);(case d=>k_is);(case k=>k_is))
    (case E56_0=>refine' Mi.meth_mk (all:=K76.anames) (x:="Downward") (by decide) (Mi.at_mem 11 rfl) ?a ?b ?i ?l ?d ?k;(case a=>k_is);(case b=>k_is);(case i=>k_is);(case l=>k_is);(case d=>k_is);(case k=>k_is))
    (case E12=>refine' Mi.def_mk KX G ?_ ?_ ?_ ?_<;>try k_is)
    (case E20=>refine' Mi.def_mk KX G ?_ ?_ ?_ ?_<;>try k_is)
    (case E28=>refine' Mi.def_mk KX G ?_ ?_ ?_ ?_<;>try k_is)
    (case E29=>refine' Mi.def_mk KX G ?_ ?_ ?_ ?_<;>try k_is)
    (case E34=>refine' Mi.def_mk KX G ?_ ?_ ?_ ?_<;>try k_is)
    (case E40=>refine' Mi.def_mk KX G ?_ ?_ ?_ ?_<;>try k_is)
    (case E42=>refine' Mi.def_mk KX G ?_ ?_ ?_ ?_<;>try k_is)
    (case E44=>refine' Mi.def_mk KX G ?_ ?_ ?_ ?_<;>try k_is)
    (case E57=>refine' Mi.def_mk KX G ?_ ?_ ?_ ?_<;>try k_is)
    (case E70=>refine' Mi.def_mk KX G ?_ ?_ ?_ ?_<;>try k_is)
    (case E74=>refine' Mi.def_mk KX G ?_ ?_ ?_ ?_<;>try k_is)
    (case E76=>refine' Mi.def_mk KX G ?_ ?_ ?_ ?_<;>try k_is)
    (case E77=>refine' Mi.def_mk KX G ?_ ?_ ?_ ?_<;>try k_is)
    (case E78=>refine' Mi.def_mk KX G ?_ ?_ ?_ ?_<;>try k_is)
    (case E79=>refine' Mi.def_mk KX G ?_ ?_ ?_ ?_<;>try k_is)
    (case E80=>refine' Mi.def_mk KX G ?_ ?_ ?_ ?_<;>try k_is)
    (case E81=>refine' Mi.def_mk KX G ?_ ?_ ?_ ?_<;>try k_is)
    (case E87=>refine' Mi.def_mk KX G ?_ ?_ ?_ ?_<;>try k_is)
    (case E13=>refine' Mi.def_mk KX G ?_ ?_ ?_ ?_<;>try k_is)
    (case E41=>refine' Mi.def_mk KX G ?_ ?_ ?_ ?_<;>try k_is)
    (case E45=>refine' Mi.def_mk KX G ?_ ?_ ?_ ?_<;>try k_is)
    (case E46=>refine' Mi.def_mk KX G ?_ ?_ ?_ ?_<;>try k_is)
    (case E61=>refine' Mi.def_mk KX G ?_ ?_ ?_ ?_<;>try k_is)
    (case E82=>refine' Mi.def_mk KX G ?_ ?_ ?_ ?_<;>try k_is)
    (case E83=>refine' Mi.def_mk KX G ?_ ?_ ?_ ?_<;>try k_is)
    (case E85=>refine' Mi.def_mk KX G ?_ ?_ ?_ ?_<;>try k_is)
    (case E14=>refine' Mi.def_mk KX G ?_ ?_ ?_ ?_<;>try k_is)
    (case E22=>refine' Mi.def_mk KX G ?_ ?_ ?_ ?_<;>try k_is)
    (case E39=>refine' Mi.def_mk KX G ?_ ?_ ?_ ?_<;>try k_is)
    (case E15=>refine' Mi.def_mk KX G ?_ ?_ ?_ ?_<;>try k_is)
    (case E16=>refine' Mi.def_mk KX G ?_ ?_ ?_ ?_<;>try k_is)
    (case E17=>refine' Mi.def_mk KX G ?_ ?_ ?_ ?_<;>try k_is)
    (case E24=>refine' Mi.def_mk KX G ?_ ?_ ?_ ?_<;>try k_is)
    (case E18=>refine' Mi.def_mk KX G ?_ ?_ ?_ ?_<;>try k_is)
    (case E21=>refine' Mi.def_mk KX G ?_ ?_ ?_ ?_<;>try k_is)
    (case E26=>refine' Mi.def_mk KX G ?_ ?_ ?_ ?_<;>try k_is)
    (case E27=>refine' Mi.def_mk KX G ?_ ?_ ?_ ?_<;>try k_is)
    (case E63=>refine' Mi.def_mk KX G ?_ ?_ ?_ ?_<;>try k_is)
    (case E23=>refine' Mi.def_mk KX G ?_ ?_ ?_ ?_<;>try k_is)
    (case E30=>refine' Mi.def_mk KX G ?_ ?_ ?_ ?_<;>try k_is)
    (case E31=>refine' Mi.def_mk KX G ?_ ?_ ?_ ?_<;>try k_is)
    (case E60=>refine' Mi.def_mk KX G ?_ ?_ ?_ ?_<;>try k_is)
    (case E25=>refine' Mi.def_mk KX G ?_ ?_ ?_ ?_<;>try k_is)
    (case E32=>refine' Mi.def_mk KX G ?_ ?_ ?_ ?_<;>try k_is)
    (case E35=>refine' Mi.def_mk KX G ?_ ?_ ?_ ?_<;>try k_is)
    (case E62=>refine' Mi.def_mk KX G ?_ ?_ ?_ ?_<;>try k_is)
    (case E66=>refine' Mi.def_mk KX G ?_ ?_ ?_ ?_<;>try k_is)
    (case E59=>refine' Mi.def_mkD KX G ?_ ?_ ?_ ?_ ?_<;>try k_is)
    (case E69=>refine' Mi.def_mk KX G ?_ ?_ ?_ ?_<;>try k_is)
    (case E67=>refine' Mi.def_mk KX G ?_ ?_ ?_ ?_<;>try k_is)
    (case E68=>refine' Mi.def_mk KX G ?_ ?_ ?_ ?_<;>try k_is)
    (case E65=>refine' Mi.def_mkD KX G ?_ ?_ ?_ ?_ ?_<;>try k_is)
    (case E73=>refine' Mi.def_mk KX G ?_ ?_ ?_ ?_<;>try k_is)
    (case E72=>refine' Mi.def_mk KX G ?_ ?_ ?_ ?_<;>try k_is)
    (case E84=>refine' Mi.def_mk KX G ?_ ?_ ?_ ?_<;>try k_is)
    (case E71=>refine' Mi.def_mk KX G ?_ ?_ ?_ ?_<;>try k_is)
    (case E86=>refine' Mi.def_mk KX G ?_ ?_ ?_ ?_<;>try k_is)
    (case E88=>refine' Mi.def_mk KX G ?_ ?_ ?_ ?_<;>try k_is)
    (case E89=>refine' Mi.def_mk KX G ?_ ?_ ?_ ?_<;>try k_is)

import PyProof.Rows.All
import Wide.All
import OpenK.AllK
import Wide.FinOn
import PySem.Challenge.RW_floatforge_k91_slate
set_option Elab.async false
set_option linter.all false
set_option maxRecDepth 100000
set_option compiler.extract_closed false
set_option genSizeOf false
set_option genInjectivity false
theorem aq_(h:True:=by first | exact .inl rfl | exact .inr rfl | assumption):True:=h
def q_:=aq_._auto_1
theorem aw_(h:True:=by decide):True:=h
def w_:=aw_._auto_1
theorem az_(h:True:=by intro _;rfl):True:=h
def z_:=az_._auto_1
theorem ar_(h:True:=by with_unfolding_all rfl):True:=h
def r_:=ar_._auto_1
theorem af_(h:True:=by rfl):True:=h
def f_:=af_._auto_1
theorem ag_(h:True:=by intro _ _;rfl):True:=h
def g_:=ag_._auto_1
theorem ak_(h:True:=by first | exact Or.inl rfl | exact Or.inr (Or.inl rfl) | exact Or.inr (Or.inr rfl)):True:=h
def k_:=ak_._auto_1
theorem aj_(h:True:=by decide +kernel):True:=h
def j_:=aj_._auto_1
def Yx:=@if_neg
def Yy:=@if_pos
def YA:=@PySem.wpAny_mono
def YB:=@Int.mul_assoc
def YC:=@List.getElem?_eq_some_iff
def YD:=@Nat.le_refl
def YE:=@PySem.wpAny_bind
def YF:=@Int.le_of_lt
def YG:=@decide_eq_false
def YH:=@Bool.and_eq_true
def YI:=@Int.mul_comm
def YJ:=@Int.mul_le_mul_of_nonneg_right
def YK:=@PySem.Heap.get?_push_of_some
def YL:=@decide_eq_true
def YM:=@List.mem_cons_of_mem
def YN:=@List.size_toArray
def YO:=@PySem.Heap.lt_size
def YQ:=@List.getElem?_append_left
def YR:=@List.getElem?_set_ne
def YS:=@List.length_cons
def YT:=@Int.mul_lt_mul_of_pos_right
def YU:=@Nat.le_trans
def YV:=@List.getElem?_eq_getElem
def YW:=@List.mem_cons_self
def YX:=@Bool.false_eq_true
def YY:=@Nat.lt_of_lt_of_le
def YZ:=@List.mem_append_right
def Y0:=@List.getElem?_set_self
def Y1:=@Int.one_mul
def Y2:=@if_false
def Y3:=@PySem.Heap.get?_push_size
def Y4:=@if_true
def Y5:=@decide_false
def Y6:=@List.getElem?_append_right
def Y7:=@decide_true
def Y8:=@beq_iff_eq
def Y9:=@Int.emod_lt_of_pos
def Za:=@Int.ediv_eq_zero_of_lt
def Zb:=@PySem.wpAny_pure
def Zc:=@Decidable.byContradiction
def Zd:=@Int.mul_ediv_add_emod
def Ze:=@List.append_nil
def Zf:=@Int.emod_nonneg
def Zg:=@Int.mul_nonneg
def Zh:=@Int.mul_le_mul_of_nonneg_left
def Zi:=@List.length_map
def Zj:=@Int.ediv_nonneg
def Zk:=@Int.mul_left_comm
def Zl:=@Int.zero_mul
def Zm:=@List.mem_cons
def Zn:=@List.map_cons
def Zo:=@Bool.false_and
def Zp:=@Int.mul_one
def Zq:=@PySem.wpAny_Call_Name_kw
def Zr:=@Option.some.inj
def Zs:=@PySem.wpAny_truthy_bool
def Zt:=@List.length_append
def Zu:=@List.mem_singleton
def Zv:=@Int.le_ediv_iff_mul_le
def Zw:=@Bool.not_true
def Zx:=@Nat.ne_of_lt
def Zy:=@List.lookup_cons
def Zz:=@Int.emod_eq_of_lt
def ZA:=@PySem.wpAny_passesOwn
def ZC:=@Ne.symm
def ZD:=@List.any_cons
def ZE:=@PySem.wpAny_holding
def ZF:=@Int.ediv_lt_of_lt_mul
def ZG:=@Bool.false_ne_true
def ZH:=@List.any_eq_true
def ZI:=@Nat.lt_irrefl
def ZJ:=@List.mem_map
def ZK:=@Int.add_mul
def ZL:=@List.getElem?_map
def ZM:=@PySem.W.callWith_K
def ZN:=@List.all_eq_true
def ZO:=@List.all_cons
def ZP:=@PySem.wpAny_execs_nil
def ZQ:=@PySem.W.kia_one
def ZT:=@Int.add_mul_emod_self_right
def ZU:=@Int.mul_pos
def ZV:=@Int.zero_add
def ZW:=@Bool.and_self
def ZX:=@Int.lt_of_mul_lt_mul_right
def ZY:=@Int.le_of_mul_le_mul_right
def ZZ:=@PySem.Calls.spliced_cons
def Z1:=@PySem.W.methodCall_KW
def Z2:=@List.nodup_cons
def Z3:=@PySem.codeAny_mono
def Z4:=@Bool.and_eq_true_iff
def Z5:=@Int.toNat_natCast
def Z6:=@PySem.W.mg_of
def Z7:=@List.filterMap_cons
def Z8:=@List.map_congr_left
def Z9:=@congrArg
def aaa:=@Bool.not_false
def aab:=@Int.sub_mul
def aac:=@Int.add_mul_ediv_right
def aad:=@Int.add_zero
def aae:=@List.map_map
def aaf:=@List.mem_append
def aag:=@Nat.two_pow_pos
def aah:=@List.getElem?_set
def aai:=@List.mem_of_getElem?
def aaj:=@PySem.wpAny_call
def aak:=@Nat.eq_of_testBit_eq
def aal:=@Int.neg_mul
def aam:=@Int.ediv_le_self
def aan:=@Option.getD_some
def aao:=@beq_eq_false_iff_ne
def aap:=@PySem.mem_of_lookup
def aaq:=@Int.eq_ofNat_of_zero_le
def aar:=@PySem.W.of_hideAll
def aas:=@PyProof.Rows.callWith_builtin1
def aat:=@Nat.zero_le
def aau:=@PySem.Heap.get?_update_other
def aav:=@Nat.testBit_lt_two_pow
def aaw:=@PySem.Calls.spliced_nil
def aax:=@List.mem_range
def aay:=@List.contains_iff_mem
def aaz:=@Int.add_mul_ediv_left
def aaC:=@PyProof.Rows.callWith_type1
def aaD:=@List.mem_append_left
def aaE:=@PySem.W.looks_findIn
def aaF:=@Nat.lt_succ_self
def aaG:=@PySem.wpAny_execs_cons
def aaH:=@Nat.testBit_succ
def aaI:=@PySem.Calls.Name_function_global
def aaJ:=@Int.eq_of_mul_eq_mul_right
def aaK:=@List.getD_eq_getElem?_getD
def aaL:=@PySem.SeqAt.EqAt.same
def aaM:=@List.drop_eq_getElem_cons
def aaN:=@Nat.testBit_and
def aaO:=@PySem.SeqAt.EqAt.int_str
def aaP:=@PySem.SeqAt.EqAt.str_int
def aaQ:=@Nat.lt_of_le_of_lt
def aaR:=@Nat.sub_self
def aaS:=@and_self
def aaT:=@implies_true
def aaU:=@PySem.typeIs_str
def aaV:=@Bool.and_false
def aaW:=@PySem.boot_len
def aaX:=@List.getElem?_replicate
def aaY:=@PySem.wpAny_assign_Name
def aaZ:=@PySem.Calls.callWith_builtin
def aa0:=@Bool.true_and
def aa1:=@List.length_take
def aa2:=@List.length_drop
def aa3:=@beq_self_eq_true
def aa4:=@PySem.Heap.get?_update_self
def aa5:=@List.length_singleton
def aa6:=@PySem.wpAny_isTrue_Compare1
def aa7:=@List.getElem?_eq_none
def aa8:=@List.mem_filter
def aa9:=@PySem.wpAny_Name
def aba:=@Nat.ne_of_gt
def abb:=@List.length_set
def abc:=@PySem.SeqAt.EqAt.none_bool
def abd:=@PySem.SeqAt.EqAt.bool_none
def abe:=@PySem.SeqAt.EqAt.bool_bool
def abf:=@PySem.call_meets
def abg:=@List.map_nil
def abh:=@PySem.W.binds_K
def abi:=@List.mem_of_mem_take
def abj:=@Nat.pow_le_pow_right
def abk:=@Int.zero_ne_one
def abl:=@Int.mul_eq_zero
def abm:=@PySem.W.hideAll_get
def abo:=@PySem.W.plainGet_of
def abp:=@PySem.SeqAt.EqAt.none_int
def abq:=@PySem.SeqAt.EqAt.none_str
def abr:=@PySem.SeqAt.EqAt.bool_int
def abt:=@PySem.SeqAt.EqAt.bool_str
def abu:=@PySem.SeqAt.EqAt.int_none
def abv:=@PySem.SeqAt.EqAt.int_bool
def abw:=@PySem.SeqAt.EqAt.str_none
def abx:=@PySem.SeqAt.EqAt.str_bool
def aby:=@Int.toNat_of_nonneg
def abz:=@Nat.testBit_two_pow
def abA:=@PySem.Heap.size_push
def abB:=@Nat.pow_add
def abC:=@List.mem_filterMap
def abD:=@PySem.SeqAt.EqAt.int_int
def abE:=@PySem.SeqAt.EqAt.str_str
def abF:=@PyProof.Rows.Constant_none
def abG:=@Bool.or_false
def abH:=@Int.fdiv_eq_ediv_of_nonneg
def abI:=@Array.getElem?_eq_some_iff
def abJ:=@PySem.F.excBase_ValueError
def abK:=@PySem.wpAny_standAt
def abL:=@List.any_eq_false
def abM:=@PySem.wpAny_Assign_Name
def abN:=@PySem.wpAny_pyIter_list
def abO:=@of_decide_eq_true
def abP:=@Bool.not_eq_true'
def abQ:=@List.nodup_append
def abR:=@Int.mul_neg_of_neg_of_pos
def abS:=@List.getElem_inj
def abT:=@PySem.W.makes_of
def abU:=@Option.isSome_iff_exists
def abV:=@List.getElem?_take_of_lt
def abW:=@PySem.F.args_tuple_add_2
def abX:=@PyProof.noPylong_of_log2
def abY:=@List.drop_length
def abZ:=@Nat.le_add_right
def ab0:=@PySem.W.nsMap_none_of_in
def ab1:=@List.getElem_mem
def ab2:=@PySem.wpAny_comp_letGo
def ab3:=@Nat.pow_succ
def ab4:=@Nat.mul_comm
def ab5:=@Int.add_comm
def ab6:=@Int.ediv_le_ediv
def ab8:=@PySem.F.entry_tuple_add
def ab9:=@List.of_mem_zip
def aca:=@List.foldl_cons
def acb:=@Bool.or_eq_true
def acd:=@Int.mul_ne_zero
def ace:=@PySem.W.cellsFrom_some
def acf:=@PySem.F.slot_tuple_add
def ach:=@Int.pow_pos
def aco:=@PySem.wpAny_field
def acp:=@Nat.log2_lt
def acq:=@Int.ediv_lt_iff_lt_mul
def acr:=@List.drop_of_length_le
def acs:=@PySem.wpAny_Compare1
def acC:=@List.nodup_nil
def acD:=@PySem.W.KIN.str_trunc
def acE:=@List.mem_iff_getElem?
def acF:=@PySem.W.hideAll_none
def acS:=@Nat.not_succ_le_self
def acW:=@List.mem_of_mem_drop
def ac0:=@Nat.mul_assoc
def ac1:=@false_implies
def ac4:=@Array.length_toList
def adi:=@PySem.evalArgs_none
def adj:=@PySem.W.callWith_K0
def adk:=@List.getElem_of_mem
def adl:=@PySem.W.KIN.str_int
def adm:=@PySem.W.KIN.str_idx
def adn:=@Int.mul_ediv_cancel
def ado:=@Int.toNat_of_nonpos
def adp:=@Nat.le_of_lt
def adC:=@Bool.or_true
def adE:=@Nat.succ.inj
def adG:=@Int.mul_zero
def adH:=@Int.mul_emod
def adI:=@Int.sub_zero
namespace L2
open PySem PySem.Spec PyProof.Rows
abbrev Key:=Sum Int Str
noncomputable def Gg:Key->Value->Bool
  | .inl k,v=>Value.isInt k v
  | .inr x,v=>Value.isStrOf x v
noncomputable def Rw(w:World):Key->Int
  | .inl k=>hashInt k
  | .inr x=>hashStr w x
theorem eP:∀{k:Key}{v:Value},Gg k v=true->(∃ i t,k=Sum.inl i/\v=Value.int i t)\/(∃ x t,k=Sum.inr x/\v=Value.str x t)
  | .inl i,v,h=>by
    obtain⟨t,e⟩:=Value.isInt_shape (k:=i) (v:=v) h;exact .inl ⟨i,t,rfl,e⟩
  | .inr x,v,h=>by
    obtain⟨t,e⟩:=Value.isStrOf_shape (x:=x) (v:=v) h;exact .inr ⟨x,t,rfl,e⟩
theorem JK(a b:Int):decide ((Sum.inl a:Key)=Sum.inl b)=(a == b):=by
  by_cases e:a=b
  . subst e;simp
  . have h:¬(Sum.inl a:Key)=Sum.inl b:=fun q=>e (Sum.inl.inj q);rw[YG h];exact(aao.mpr e).symm
theorem JL(a b:Str):decide ((Sum.inr a:Key)=Sum.inr b)=decide (a=b):=by
  by_cases e:a=b
  . subst e;simp
  . have h:¬(Sum.inr a:Key)=Sum.inr b:=fun q=>e (Sum.inr.inj q);rw[YG h,YG e]
theorem JM(a:Int)(b:Str):decide ((Sum.inl a:Key)=Sum.inr b)=false:=YG (fun q=>nomatch q)
theorem JN(a:Str)(b:Int):decide ((Sum.inr a:Key)=Sum.inl b)=false:=YG (fun q=>nomatch q)
noncomputable def yD(prog:Program)(w:World):PySem.KeyKind prog w Key where
  is:=Gg
  hash:=Rw w
  inj:=fun v a b ha hb=>by
    rcases eP ha with⟨i,t,rfl,rfl⟩ | ⟨x,t,rfl,rfl⟩
    . rcases eP hb with⟨j,u,rfl,e⟩ | ⟨y,u,rfl,e⟩
      . injection e with e1 _;rw[e1]
      . exact nomatch e
    . rcases eP hb with⟨j,u,rfl,e⟩ | ⟨y,u,rfl,e⟩
      . exact nomatch e
      . injection e with e1 _;rw[e1]
  byValue:=fun k v h=>by
    rcases eP h with⟨i,t,rfl,rfl⟩ | ⟨x,t,rfl,rfl⟩<;>rfl
  pyHash:=fun hv h=>by
    rcases eP hv with⟨i,t,rfl,rfl⟩ | ⟨x,t,rfl,rfl⟩
    . exact wpAny_pyHash_int h
    . exact wpAny_pyHash_str h
  eqBool:=fun hu hv h=>by
    rcases eP hu with⟨i,t,rfl,rfl⟩ | ⟨x,t,rfl,rfl⟩
    . rcases eP hv with⟨j,u,rfl,rfl⟩ | ⟨y,u,rfl,rfl⟩
      . rw[JK]at h;exact wpAny_eqBool_int h
      . rw[JM]at h;exact aaO i t y u _ _ _ _ h
    . rcases eP hv with⟨j,u,rfl,rfl⟩ | ⟨y,u,rfl,rfl⟩
      . rw[JN]at h;exact aaP x t j u _ _ _ _ h
      . rw[JL]at h;exact wpAny_eqBool_str h
  «strs»:=fun k x t v h=>by
    rcases eP h with⟨i,u,rfl,e⟩ | ⟨y,u,rfl,e⟩
    . exact nomatch e
    . injection e with e1 _
      subst e1;cases v<;>rfl
inductive V where
  | bf | bl (b:Bool) | int (i:Int) | str (x:Str) | BP (b:Array UInt8) | BQ (b:UInt64) | ref (a:Addr) | ty (n:String)
  deriving DecidableEq
def RelV:V->Value->Prop
  | .bf,u=>u=Value.none
  | .bl b,u=>u=Value.bool b
  | .int i,u=>∃ t,u=Value.int i t
  | .str x,u=>∃ t,u=Value.str x t
  | .BP b,u=>∃ t,u=Value.bytes b t
  | .BQ b,u=>∃ t,u=Value.float b t
  | .ref a,u=>u=Value.ref a
  | .ty n,u=>u=Value.type n
abbrev Vals:List V->List Value->Prop:=Paired RelV
theorem Vals.length{xs:List V}{us:List Value}(r:Vals xs us):xs.length=us.length:=Paired.length r
theorem Vals.get:∀{xs:List V}{us:List Value}{i:Nat}{x:V},Vals xs us->xs[i]?=some x->∃ u,us[i]?=some u/\RelV x u
  | _,_,_,_,.nil,e=>by simp at e
  | _,_,0,_,.cons r _,e=>by simp at e;subst e;exact⟨_,rfl,r⟩
  | _,_,i+1,x,.cons _ t,e=>by
    obtain⟨u,h1,h2⟩:=Vals.get (i:=i) (x:=x) t (by simpa using e);exact⟨u,by simpa using h1,h2⟩
theorem Vals.set{x:V}{u:Value}(r:RelV x u):∀{xs:List V}{us:List Value}(i:Nat),Vals xs us->Vals (xs.set i x) (us.set i u)
  | _,_,_,.nil=>.nil
  | _,_,0,.cons _ t=>.cons r t
  | _,_,i+1,.cons q t=>.cons q (Vals.set r i t)
theorem Vals.append:∀{xs ys:List V}{us ws:List Value},Vals xs us->Vals ys ws->Vals (xs++ys) (us++ws)
  | _,_,_,_,.nil,s=>s
  | _,_,_,_,.cons r t,s=>.cons r (Vals.append t s)
theorem Vals.take:∀{xs:List V}{us:List Value}(n:Nat),Vals xs us->Vals (xs.take n) (us.take n)
  | _,_,0,_=>.nil
  | _,_,_+1,.nil=>.nil
  | _,_,n+1,.cons r t=>.cons r (Vals.take n t)
theorem Vals.drop:∀{xs:List V}{us:List Value}(n:Nat),Vals xs us->Vals (xs.drop n) (us.drop n)
  | _,_,0,r=>r
  | _,_,_+1,.nil=>.nil
  | _,_,n+1,.cons _ t=>Vals.drop n t
def mh:Option V->Option Value->Prop
  | some v,some u=>RelV v u
  | none,none=>True
  | _,_=>False
def KV{κ:Type}:List (κ×V)->List (κ×Value)->Prop:=Paired fun(p:κ×V) (q:κ×Value)=>p.1=q.1/\RelV p.2 q.2
noncomputable def kV:Key->V
  | .inl i=>.int i
  | .inr x=>.str x
inductive HO where
  | lst (xs:List V)
  | tup (xs:List V)
  | dK (lS:List (Key×V)) | dT (lS:List (List Key×V))
  | set (S:Int->Bool) (n:Nat)
  | ins (C dx:Addr) (fs:List (Str×V))
  | own (x:Addr)
  | xd (fs:List (Str×V))
  | met (f x:Addr)
  | Gh (lo hi:Int)
  | cj (o:Obj) (u:HO)
  | fF (ps:Array Value)
  | ext (φ:Heap->Prop)
abbrev Hp:=Addr->Option HO
noncomputable def upd(H:Hp)(a:Addr)(o:HO):Hp:=fun b=>if b=a then some o else H b
theorem bU{H:Hp}{a:Addr}{o:HO}:upd H a o a=some o:=by unfold upd;rw[Yy rfl]
theorem bJ{H:Hp}{a b:Addr}{o:HO}(h:b≠a):upd H a o b=H b:=by unfold upd;rw[Yx h]
theorem gF{H:Hp}{a b:Addr}{o:HO}(h:H a=some o)(h':H b=none):a≠b:=by
  intro e;subst e;rw[h]at h';cases h'
section
variable (P:Program) (w:World)
def fJ(H:Hp)(h:Heap)(a:Addr):HO->Prop
  | .lst xs=>xs.length<=sizeLine/\∃(its:List Value)(n:Nat),Vals xs its/\h.get? a=some { cls:=.type "list",data:=.seq its.toArray n }
  | .tup xs=>xs.length<=sizeLine/\∃ its:List Value,Vals xs its/\IsTup h a its.toArray
  | .dK lS=>lS.length<=sizeLine/\(a == sysModules)=false/\∃ vs,KV lS vs/\h.DictOf (yD P w) a vs
  | .dT lS=>lS.length<=sizeLine/\(a == sysModules)=false/\∃ xs:List (List Key×Addr×Value),
      Paired (fun(p:List Key×V) (q:List Key×Addr×Value)=>p.1=q.1/\H q.2.1=some (.tup (p.1.map kV))/\RelV p.2 q.2.2) lS xs /\
      ∃ o es ep,h.get? a=some o/\o.ExactDict/\o.data=.dict es ep/\es.toList=xs.map (entryOfKey (tupleKind (yD P w)))/\(xs.map (·.1)).Nodup
  | .set S n=>h.SetOf (intKind P w) a S n
  | .ins C dx fs=>H dx=some (.own a)/\fs.length<=1000/\dx≠a/\h.get? a=some (PySem.W.instObj C dx) /\
      ∃ mA,h.Ns1 dx mA/\(∀ f,mh (fs.lookup f) (mA f))/\PySem.Within mA (fs.map (·.1))
  | .own _=>∃ o,h.get? a=some o
  | .xd fs=>∃ mA,h.Ns1 a mA/\∀ f,mh (fs.lookup f) (mA f)
  | .Gh lo hi=>∃ t u v,h.get? a=some { cls:=.type "range",data:=.fields #[.int lo t,.int hi u,.int 1 v] }
  | .cj o u=>h.get? a=some o/\fJ H h a u
  | .fF ps=>h.get? a=some { cls:=.none,data:=.fields ps }
  | .met f x=>h.get? a=some (PySem.W.methodObj (.ref f) (.ref x))
  | .ext φ=>φ h/\(∃ o,h.get? a=some o)/\∀ h1 h2:Heap,φ h1->(∀ o,h1.get? a=some o->h2.get? a=some o)->φ h2
def gi(H:Hp)(h:Heap):Prop:=∀ a o,H a=some o->fJ P w H h a o
end
section
variable {P:Program}{w:World}{H H':Hp}{h h':Heap}{a:Addr}{o:HO}
theorem fJ.lt(x:fJ P w H h a o):a<h.objs.size:=by
  cases o with
  | lst xs=>obtain⟨_,_,_,_,e⟩:=x;exact YO e
  | tup xs=>obtain⟨_,_,_,p⟩:=x;exact p.lt
  | dK lS=>obtain⟨_,_,_,_,o,_,_,e,_⟩:=x;exact YO e
  | dT lS=>obtain⟨_,_,_,_,o,_,_,e,_⟩:=x;exact YO e
  | set S n=>obtain⟨o,_,_,_,e,_⟩:=x;exact YO e
  | ins C dx fs=>obtain⟨_,_,_,e,_⟩:=x;exact YO e
  | own y=>obtain⟨_,e⟩:=x;exact YO e
  | xd fs=>obtain⟨_,⟨_,_,_,e,_⟩,_⟩:=x;exact YO e
  | Gh lo hi=>obtain⟨_,_,_,e⟩:=x;exact YO e
  | cj ob u=>obtain⟨e,_⟩:=x;exact YO e
  | fF ps=>exact YO (show h.get? a=some _ from x)
  | met f y=>exact YO (show h.get? a=some _ from x)
  | ext φ=>obtain⟨_,⟨_,e⟩,_⟩:=x;exact YO e
theorem Paired.JO{α β:Type}{F G:α->β->Prop}:∀{l₁:List α}{l₂:List β},Paired F l₁ l₂->(∀ a b,F a b->G a b)->Paired G l₁ l₂
  | _,_,.nil,_=>.nil
  | _,_,.cons r t,f=>.cons (f _ _ r) (Paired.JO t f)
theorem fJ.oq(x:fJ P w H h a o)(k:∀ b u,(b=a\/H b=some (.own a))->h.get? b=some u->h'.get? b=some u)
    (ho:∀ b,H b=some (.own a)->H' b=some (.own a)) (ht:∀ b xs,H b=some (.tup xs)->H' b=some (.tup xs)):fJ P w H' h' a o:=by
  induction o with
  | lst xs=>obtain⟨z,its,n,r,e⟩:=x;exact⟨z,its,n,r,k _ _ (.inl rfl) e⟩
  | tup xs=>obtain⟨z,its,r,ob,e,c⟩:=x;exact⟨z,its,r,ob,k _ _ (.inl rfl) e,c⟩
  | dK lS=>obtain⟨z,y,vs,r,ob,es,ep,e,c⟩:=x;exact⟨z,y,vs,r,ob,es,ep,k _ _ (.inl rfl) e,c⟩
  | dT lS =>
    obtain⟨z,y,xs,r,ob,es,ep,e,c⟩:=x;exact⟨z,y,xs,Paired.JO r fun p q z=>⟨z.1,ht _ _ z.2.1,z.2.2⟩,ob,es,ep,k _ _ (.inl rfl) e,c⟩
  | set S n=>obtain⟨ob,es,ep,t,e,c⟩:=x;exact⟨ob,es,ep,t,k _ _ (.inl rfl) e,c⟩
  | ins C dx fs =>
    obtain⟨d,z,ne,e,mA,⟨od,es,ep,e2,c⟩,r⟩:=x;exact⟨ho _ d,z,ne,k _ _ (.inl rfl) e,mA,⟨od,es,ep,k _ _ (.inr d) e2,c⟩,r⟩
  | own y=>obtain⟨ob,e⟩:=x;exact⟨ob,k _ _ (.inl rfl) e⟩
  | xd fs=>obtain⟨mA,⟨od,es,ep,e,c⟩,r⟩:=x;exact⟨mA,⟨od,es,ep,k _ _ (.inl rfl) e,c⟩,r⟩
  | Gh lo hi=>obtain⟨t,u,v,e⟩:=x;exact⟨t,u,v,k _ _ (.inl rfl) e⟩
  | cj ob u ih=>obtain⟨e,q⟩:=x;exact⟨k _ _ (.inl rfl) e,ih q⟩
  | fF ps =>
    have e:h.get? a=some { cls:=.none,data:=.fields ps }:=x;show h'.get? a=some { cls:=.none,data:=.fields ps }
    exact k a _ (.inl rfl) e
  | met f y =>
    have e:h.get? a=some (PySem.W.methodObj (.ref f) (.ref y)):=x;show h'.get? a=some (PySem.W.methodObj (.ref f) (.ref y))
    exact k a _ (.inl rfl) e
  | ext φ=>obtain⟨p,⟨o,e⟩,st⟩:=x;exact⟨st _ _ p fun o q=>k _ _ (.inl rfl) q,⟨o,k _ _ (.inl rfl) e⟩,st⟩
theorem gi.lt(x:gi P w H h)(e:H a=some o):a<h.objs.size:=(x a o e).lt
theorem gi.fresh(x:gi P w H h)(e:h.objs.size<=a):H a=none:=by
  cases q:H a with
  | none=>rfl
  | some u=>exact absurd (YY (x.lt q) e) (ZI _)
theorem gi.kept(x:gi P w H h)(k:∀ b u,h.get? b=some u->h'.get? b=some u):gi P w H h':=fun a o e =>
  (x a o e).oq (fun b u _ q=>k b u q) (fun _ q=>q) fun _ _ q=>q
theorem gi.laid(x:gi P w H h)(k:∀ b u,h.get? b=some u->h'.get? b=some u)(hp:h.objs.size<=a)(new:fJ P w (upd H a o) h' a o):gi P w (upd H a o) h':=fun b u e=>by
  have hn:=x.fresh hp;by_cases hb:b=a
  . subst hb;rw[bU]at e;cases e;exact new
  . rw[bJ hb]at e;exact(x b u e).oq (fun c v _ q=>k c v q) (fun c q=>by rw[bJ (gF q hn)];exact q) fun c xs q=>by rw[bJ (gF q hn)];exact q
end
def Rd(H:Hp)(a:Addr)(u:HO):Prop:=H a=some u\/∃ o,H a=some (.cj o u)
theorem Rd.ok{P:Program}{w:World}{H:Hp}{h:Heap}{a:Addr}{u:HO}(r:Rd H a u)(x:gi P w H h):fJ P w H h a u:=by
  rcases r with r | ⟨o,r⟩
  . exact x a u r
  . obtain⟨_,q⟩:=x a _ r;exact q
def Gi:Option HO->Prop
  | some (.lst _)=>True
  | some (.dK _)=>True
  | some (.dT _)=>True
  | some (.set _ _)=>True
  | some (.ins _ _ _)=>True
  | some (.ext _)=>True
  | _=>False
section
variable {P:Program}{w:World}{H:Hp}{h h':Heap}{x e:Addr}{o':HO}
theorem gi.write(ok:gi P w H h)(mu:Gi (H x))(he:e=x\/H e=some (.own x))(k:∀ b u,b≠e->h.get? b=some u->h'.get? b=some u)(yE:∃ u,h'.get? e=some u)
    (new:fJ P w (upd H x o') h' x o'):gi P w (upd H x o') h':=fun b u q=>by
  have JP:∀ c y,H c=some (.own y)->c≠x:=fun c y r z=>by subst z;rw[r]at mu;exact mu
  have Rx:∀ c xs,H c=some (.tup xs)->c≠x:=fun c xs r z=>by subst z;rw[r]at mu;exact mu
  by_cases hb:b=x
  . subst hb;rw[bU]at q;cases q;exact new
  . rw[bJ hb]at q;by_cases vR:b=e
    . have q':H b=some (.own x):=by
        rcases he with z | z
        . exact absurd (vR.trans z) hb
        . rw[vR];exact z
      rw[q]at q';cases q';obtain⟨v,hv⟩:=yE;exact⟨v,by rw[vR];exact hv⟩
    . refine(ok b u q).oq (fun c v hc r=>k c v ?_ r) (fun c r=>by rw[bJ (JP c b r)];exact r) fun c xs r=>by rw[bJ (Rx c xs r)];exact r
      rcases hc with rfl | hc
      . exact vR
      . rintro rfl;rcases he with z | z
        . exact JP c b hc z
        . rw[hc]at z;cases z;exact hb rfl
end
structure Un(fs ex:List Addr)(H H':Hp)(h h':Heap):Prop where
  keep:∀ b o,h.get? b=some o->H b=none->b ∉ fs->b ∉ ex->h'.get? b=some o
  slot:∀ b o,h.get? b=some o->H b=none->b∈fs->b ∉ ex->∃ sl,h'.get? b=some { o with slots:=sl }
  free:∀ b o,h.get? b=some o->H b=none->b ∉ ex->H' b=none
  there:∀ b o,h.get? b=some o->b ∉ ex->∃ o',h'.get? b=some o'
  kT:∀ b xs,H b=some (.tup xs)->H' b=some (.tup xs)
  kr:∀ b o u,H b=some (.cj o u)->H' b=some (.cj o u)
  kU:∀ b ps,H b=some (.fF ps)->∃ more,H' b=some (.fF (ps++more))
section
variable {fs TL ex X2:List Addr}{H H1 H2:Hp}{h h1 h2 h':Heap}{a x e:Addr}{o:HO}
theorem Un.any(u:Un fs ex H H1 h h1){b:Addr}{ob:Obj}(q:h.get? b=some ob)(n:H b=none)(hx:b ∉ ex):∃ sl,h1.get? b=some { ob with slots:=sl }:=by
  by_cases hb:b∈fs
  . exact u.slot b ob q n hb hx
  . exact⟨ob.slots,u.keep b ob q n hb hx⟩
theorem Un.kept(k:∀ b u,h.get? b=some u->h'.get? b=some u):Un fs ex H H h h' :=
  ⟨fun b ob q _ _ _=>k b ob q,fun b ob q _ _ _=>⟨ob.slots,k b ob q⟩,fun _ _ _ n _=>n,fun b ob q _=>⟨ob,k b ob q⟩,fun _ _ q=>q,fun _ _ _ q=>q,fun _ ps q=>⟨#[],by rw[q];simp⟩⟩
theorem Un.refl:Un fs ex H H h h:=Un.kept fun _ _ q=>q
theorem Un.laid(k:∀ b u,h.get? b=some u->h'.get? b=some u)(hp:h.objs.size<=a)(hn:H a=none):Un fs ex H (upd H a o) h h' where
  keep:=fun b u q _ _ _=>k b u q
  slot:=fun b u q _ _ _=>⟨u.slots,k b u q⟩
  free:=fun b u q n _=>by rw[bJ (Zx (YY (YO q) hp))];exact n
  there:=fun b u q _=>⟨u,k b u q⟩
  kT:=fun b xs q=>by rw[bJ (gF q hn)];exact q
  kr:=fun b u xs q=>by rw[bJ (gF q hn)];exact q
  kU:=fun b ps q=>⟨#[],by rw[bJ (gF q hn),q];simp⟩
theorem Un.write(mu:Gi (H x))(he:e=x\/H e=some (.own x))(k:∀ b u,b≠e->h.get? b=some u->h'.get? b=some u)(yE:∃ u,h'.get? e=some u):Un fs ex H (upd H x o) h h':=by
  have hx:∀ b,H b=none->b≠x:=fun b n z=>by subst z;rw[n]at mu;exact mu
  have hb:∀ b,H b=none->b≠e:=fun b n z=>by
    subst z;rcases he with r | r
    . exact hx b n r
    . rw[n]at r;cases r
  have hm:∀ b u,H b=some u->¬ Gi (some u)->b≠x:=fun b u q nm z=>by subst z;rw[q]at mu;exact nm mu
  refine⟨fun b u q n _ _=>k b u (hb b n) q,fun b u q n _ _=>⟨u.slots,k b u (hb b n) q⟩,fun b u q n _=>by rw[bJ (hx b n)];exact n,fun b u q _=>?_,
    fun b xs q=>by rw[bJ (hm b _ q fun z=>z)];exact q,fun b u xs q=>by rw[bJ (hm b _ q fun z=>z)];exact q,fun b ps q=>⟨#[],by rw[bJ (hm b _ q fun z=>z),q];simp⟩⟩
  by_cases vR:b=e
  . subst vR;exact yE
  . exact⟨u,k b u vR q⟩
end
noncomputable def Gj(h:Heap)(H:Hp):List Addr:=(List.range h.objs.size).filter fun a=>(H a).isSome
noncomputable def m6(h:Heap)(H:Hp):Heap:=PySem.W.hideAll h (Gj h H)
theorem BR(h:Heap)(H:Hp):(m6 h H).objs.size=h.objs.size:=PySem.W.hideAll_size _ _
theorem Ez{h:Heap}{H:Hp}{b:Addr}{o:Obj}(e:h.get? b=some o)(n:H b=none):(m6 h H).get? b=some o :=
  abm _ e fun hm=>by
    have q:(H b).isSome=true:=(aa8.mp hm).2;rw[n]at q;simp at q
theorem Ip{h:Heap}{H:Hp}{b:Addr}{o:Obj}(e:(m6 h H).get? b=some o):h.get? b=some o/\H b=none:=by
  have e':h.get? b=some o:=aar (Gj h H) e;refine⟨e',?_⟩;cases q:H b with
  | none=>rfl
  | some x =>
    have hm:b∈Gj h H:=aa8.mpr ⟨aax.mpr (YO e'),by simp[q]⟩;have z:(m6 h H).get? b=none:=acF (Gj h H) hm
    rw[z]at e;cases e
noncomputable def Iq(g h:Heap)(L:Addr):List (Addr×Obj):=(List.range h.objs.size).filterMap fun a=>if a=L\/(g.get? a).isSome=true then none else (h.get? a).map fun o=>(a,o)
noncomputable def rest(g h:Heap)(L d:Addr):List (Addr×Obj):=(Iq g h L).filter fun p=>decide (p.1≠d)
structure Mod(K:PySem.W.Frag)(mg:Str->Option Value)(base:Heap):Prop where
  ot:K.In base
  glob:base.Ns mainGlobals mg
  blt:∃ mb,base.Ns builtinsNs mb/\∀ x:Str,x≠"__name__"->mb x=bootBuiltins x
  nolimit:base.NoLimit
structure Cx where
  prog:Program
  w:World
  K:PySem.W.Frag
  mg:Str->Option Value
  base:Heap
  A:Around
  N:List Str
  s₀:Shared
  H₀:Hp
  env:Env
  outer:List Env
  stack:List Env
  ex:List Addr
  fn:Str->Bool
  calm:Bool
  pn:List (Addr×Obj)
  xe:Value->Shared->Prop
noncomputable def fq(l:List Env):List Addr:=l.filterMap (·.frame)
noncomputable abbrev Cx.fs(X:Cx):List Addr:=fq X.outer
def ou(sc:Scope)(x:Str):Prop:=sc.names.lookup x=some .local\/sc.names.lookup x=some .cell\/sc.names.lookup x=some .free
def Loc(sc:Scope)(x:Str):Prop:=sc.names.lookup x=some .local\/sc.names.lookup x=some .cell
def Look(env:Env)(h:Heap)(m:Str->Option Value)(x:Str)(u:Value):Prop :=
  (env.kindOf x=some .local/\m x=some u)\/((env.kindOf x=some .cell\/env.kindOf x=some .free)/\∃ c,env.cells.lookup x=some c/\h.IsCell c (some u))
structure Cx.Ok(X:Cx):Prop where
  mod:Mod X.K X.mg X.base
  kind:X.env.scope.kind=.function
  glob:X.env.globals=mainGlobals
  blt:X.env.builtins=builtinsNs
  above:X.s₀.heap.objs.size<=X.env.locals
  inj:∀ x y c,X.env.cells.lookup x=some c->X.env.cells.lookup y=some c->x=y
  has:∀ x,(X.env.kindOf x=some .cell\/X.env.kindOf x=some .free)->∃ c,X.env.cells.lookup x=some c
  um:∀ x c,X.fn x=true->X.env.cells.lookup x=some c->X.s₀.heap.objs.size<=c
  hd:X.calm=true->X.A.handled=none
  frames:X.A.frames=some X.stack
  rn:X.stack=X.outer\/(X.stack=X.env::X.outer/\X.env.frame=some X.env.locals)
  Gk:∀ b∈X.ex,b≠X.env.locals/\∀ x c,X.env.cells.lookup x=some c->c≠b
  bs:∀ b o,X.base.get? b=some o->X.s₀.heap.get? b=some o/\X.H₀ b=none
  mx:X.base.objs.size<=X.s₀.heap.objs.size
  qJ:∀ b o,X.base.get? b=some o->b ∉ X.ex
  tI:∀ b∈X.ex,b ∉ X.fs
  iG:X.s₀.heap.FunFrames X.base X.outer
  pZ:∀ b∈X.fs,X.H₀ b=none
structure Inv(X:Cx)(pins:List (Addr×Obj))(σ:List (Option V))(H:Hp)(s:Shared):Prop where
  ok:X.Ok
  os:s.os=X.s₀.os
  bare:AllBare s.gens
  base:Un X.fs X.ex X.H₀ H X.s₀.heap s.heap
  loc:∃ m,s.heap.Ns X.env.locals m/\∀(i:Nat)(x:Str)(v:V),X.N[i]?=some x->σ[i]?=some (some v)->ou X.env.scope x->∃ u,RelV v u/\Look X.env s.heap m x u
  cell:∀ x c,X.env.cells.lookup x=some c->∃ v,s.heap.IsCell c v
  free:H X.env.locals=none
  gG:∀ x c,X.env.cells.lookup x=some c->H c=none
  pin:∀ p∈X.pn++pins,s.heap.get? p.1=some p.2/\H p.1=none/\p.1≠X.env.locals/\p.1 ∉ X.fs/\∀ v,p.2.data≠.cell v
  bQ:gi X.prog X.w H s.heap
  len:σ.length=X.N.length
section
variable {X:Cx}{pins:List (Addr×Obj)}{σ:List (Option V)}{H H':Hp}{s:Shared}{h':Heap}
theorem Cx.Ok.Ry(ok:X.Ok){b:Addr}{o:Obj}(e:X.base.get? b=some o):b ∉ X.fs:=fun hb=>by
  have:=(ok.iG.mem hb).1;rw[e]at this;cases this
theorem Inv.bs(I:Inv X pins σ H s):∀ b o,X.base.get? b=some o->s.heap.get? b=some o/\H b=none:=fun b o e =>
  ⟨I.base.keep b o (I.ok.bs b o e).1 (I.ok.bs b o e).2 (I.ok.Ry e) (I.ok.qJ b o e),I.base.free b o (I.ok.bs b o e).1 (I.ok.bs b o e).2 (I.ok.qJ b o e)⟩
theorem Inv.bk(I:Inv X pins σ H s):∀ b o,X.base.get? b=some o->s.heap.get? b=some o:=fun b o e=>(I.bs b o e).1
theorem Inv.mod(I:Inv X pins σ H s):Mod X.K X.mg X.base:=I.ok.mod
theorem Inv.eT(I:Inv X pins σ H s):X.K.In s.heap:=I.ok.mod.ot.keeps I.bk
theorem Inv.nolimit(I:Inv X pins σ H s):s.heap.NoLimit:=I.ok.mod.nolimit.keeps I.bk
theorem Inv.fr(I:Inv X pins σ H s):∃ m,Fr X.base X.env.locals s.heap m :=
  let ⟨m,hn,_⟩:=I.loc
  ⟨m,hn,I.bk,YU I.ok.mx I.ok.above⟩
theorem Inv.lt(I:Inv X pins σ H s):X.env.locals<s.heap.objs.size:=let ⟨_,hn,_⟩:=I.loc;hn.lt
theorem Inv.sz(I:Inv X pins σ H s):X.s₀.heap.objs.size<=s.heap.objs.size:=YU I.ok.above (adp I.lt)
theorem Inv.Rz(I:Inv X pins σ H s){a:Addr}(h:s.heap.objs.size<=a):a ∉ X.fs:=fun hb=>by
  obtain⟨_,o,ho,_⟩:=I.ok.iG.mem hb;exact absurd (YY (YO ho) (YU I.sz h)) (ZI _)
theorem Inv.qa(I:Inv X pins σ H s):∀ x c,X.env.cells.lookup x=some c->c≠X.env.locals:=fun x c e z=>by
  obtain⟨v,o,ho,hd⟩:=I.cell x c e;obtain⟨m,⟨o',es,ep,lT,nU,_⟩,_⟩:=I.loc;rw[z,lT]at ho;cases ho;rw[nU]at hd;cases hd
theorem Inv.iG(I:Inv X pins σ H s):s.heap.FunFrames X.base X.outer:=by
  have all:∀(l:List Env),(∀ b∈fq l,b∈X.fs)->X.s₀.heap.FunFrames X.base l->s.heap.FunFrames X.base l:=by
    intro l
    induction l with
    | nil=>intro _ _;trivial
    | cons env r ih =>
      intro hs hl;obtain⟨hk,⟨L,o,hf,hn,ho,hd⟩,hr⟩:=hl;have hL:L∈X.fs:=hs L (by unfold fq;rw[Z7,hf];exact YW)
      obtain⟨sl,e⟩:=I.base.slot L o ho (I.ok.pZ L hL) hL fun z=>I.ok.tI L z hL;exact⟨hk,⟨L,_,hf,hn,e,hd⟩,ih (fun b hb=>hs b (by unfold fq;rw[Z7,hf];exact YM _ hb)) hr⟩
  exact all X.outer (fun _ hb=>hb) I.ok.iG
theorem Inv.stack(I:Inv X pins σ H s):s.heap.FunFrames X.base X.stack:=by
  rcases I.ok.rn with e | ⟨e,hf⟩
  . rw[e];exact I.iG
  . rw[e];obtain⟨m,hn,_⟩:=I.loc;refine .cons (by rw[I.ok.kind];decide) hf hn ?_ I.iG;exact Heap.get?_none_of_le (YU I.ok.mx I.ok.above)
theorem Inv.rz(I:Inv X pins σ H s):∀ b∈fq X.stack,b∈X.env.locals::X.fs:=fun b hb=>by
  rcases I.ok.rn with e | ⟨e,hf⟩
  . rw[e]at hb;exact YM _ hb
  . rw[e]at hb;unfold fq at hb;rw[Z7,hf]at hb;exact hb
theorem Inv.pJ(I:Inv X pins σ H s):∀ b∈fq X.stack,H b=none:=fun b hb=>by
  rcases Zm.mp (I.rz b hb)with e | hb
  . rw[e];exact I.free
  . obtain⟨_,o,ho,_⟩:=I.ok.iG.mem hb;exact I.base.free b o ho (I.ok.pZ b hb) fun z=>I.ok.tI b z hb
theorem Inv.step{g':Array GenState}{t':Nat}{d':Drawn}{ch:List Addr}(I:Inv X pins σ H s)
    (qb:∀ b∈ch,(b∈X.ex\/X.s₀.heap.objs.size<=b)/\b≠X.env.locals/\(∀ x c,X.env.cells.lookup x=some c->c≠b)/\∀ p∈X.pn++pins,p.1≠b)
    (keep:∀ b o,b≠X.env.locals->b ∉ X.fs->b ∉ ch->s.heap.get? b=some o->H b=none->h'.get? b=some o)
    (slot:∀ b o,b≠X.env.locals->b∈X.fs->b ∉ ch->s.heap.get? b=some o->H b=none->∃ sl,h'.get? b=some { o with slots:=sl }) (free:∀ b o,b ∉ ch->s.heap.get? b=some o->H b=none->H' b=none)
    (there:∀ b o,b ∉ ch->s.heap.get? b=some o->∃ o',h'.get? b=some o')
    (kT:∀ b xs,H b=some (.tup xs)->H' b=some (.tup xs)) (kr:∀ b o u,H b=some (.cj o u)->H' b=some (.cj o u)) (kU:∀ b ps,H b=some (.fF ps)->∃ more,H' b=some (.fF (ps++more)))
    (ns:∀ m,s.heap.Ns X.env.locals m->h'.Ns X.env.locals m) (bQ:gi X.prog X.w H' h') (hg:AllBare g') :
    Inv X pins σ H' { s with heap:=h',gens:=g',drawn:=d',toks:=t' }:=by
  have OC:∀ b o,X.s₀.heap.get? b=some o->b≠X.env.locals:=fun b o e=>Zx (YY (YO e) I.ok.above);have uo:∀ b o,X.s₀.heap.get? b=some o->b ∉ X.ex->b ∉ ch:=fun b o e hx hb=>by
    rcases(qb b hb).1 with z | z
    . exact hx z
    . exact absurd (YY (YO e) z) (ZI _)
  have cellK:∀ x c,X.env.cells.lookup x=some c->∀ v,s.heap.IsCell c v->h'.IsCell c v:=fun x c e v ⟨o,ho,hd⟩=>by
    have BS:c ∉ ch:=fun z=>(qb c z).2.2.1 x c e rfl;by_cases hc:c∈X.fs
    . obtain⟨sl,q⟩:=slot c o (I.qa x c e) hc BS ho (I.gG x c e);exact⟨_,q,hd⟩
    . exact⟨o,keep c o (I.qa x c e) hc BS ho (I.gG x c e),hd⟩
  refine⟨I.ok,I.os,hg,⟨fun b o e n hb hx=>?_,fun b o e n hb hx=>?_,fun b o e n hx=>?_,fun b o e hx=>?_,fun b xs e=>kT b xs (I.base.kT b xs e),fun b o xs e=>kr b o xs (I.base.kr b o xs e),fun b ps e=>?_⟩,?_,fun x c e=>?_,?_,fun x c e=>?_,fun p hp=>?_,bQ,I.len⟩
  . exact keep b o (OC b o e) hb (uo b o e hx) (I.base.keep b o e n hb hx) (I.base.free b o e n hx)
  . obtain⟨sl,e1⟩:=I.base.slot b o e n hb hx;obtain⟨rA,e2⟩:=slot b _ (OC b o e) hb (uo b o e hx) e1 (I.base.free b o e n hx);exact⟨rA,e2⟩
  . obtain⟨o',e1⟩:=I.base.there b o e hx;exact free b o' (uo b o e hx) e1 (I.base.free b o e n hx)
  . obtain⟨o',e1⟩:=I.base.there b o e hx;exact there b o' (uo b o e hx) e1
  . obtain⟨m1,e1⟩:=I.base.kU b ps e;obtain⟨m2,e2⟩:=kU b _ e1;exact⟨m1++m2,by rw[e2,Array.append_assoc]⟩
  . obtain⟨m,hn,hl⟩:=I.loc;refine⟨m,ns m hn,fun i x v e1 e2 e3=>?_⟩;obtain⟨u,r,l⟩:=hl i x v e1 e2 e3;refine⟨u,r,?_⟩;rcases l with l | ⟨k,c,e,z⟩
    . exact .inl l
    . exact .inr ⟨k,c,e,cellK x c e _ z⟩
  . obtain⟨v,z⟩:=I.cell x c e;exact⟨v,cellK x c e v z⟩
  . obtain⟨m,⟨o,_,_,ho,_⟩,_⟩:=I.loc;exact free _ o (fun z=>(qb _ z).2.1 rfl) ho I.free
  . obtain⟨v,o,ho,hd⟩:=I.cell x c e;exact free c o (fun z=>(qb c z).2.2.1 x c e rfl) ho (I.gG x c e)
  . obtain⟨e,n,ne,nf,d⟩:=I.pin p hp;have BS:p.1 ∉ ch:=fun z=>(qb p.1 z).2.2.2 p hp rfl
    exact⟨keep p.1 p.2 ne nf BS e n,free p.1 p.2 BS e n,ne,nf,d⟩
theorem Inv.un{t':Nat}(I:Inv X pins σ H s)(u:Un X.fs [] H H' s.heap h')(bQ:gi X.prog X.w H' h'):Inv X pins σ H' { s with heap:=h',toks:=t' }:=by
  obtain⟨m,⟨o,es,ep,ho,r⟩,_⟩:=id I.loc;obtain⟨sl,hL⟩:=u.any ho I.free (by simp);exact I.step (g':=s.gens) (d':=s.drawn) (ch:=[]) (fun _ z=>nomatch z) (fun b o _ hb _ e n=>u.keep b o e n hb (by simp)) (fun b o _ hb _ e n=>u.slot b o e n hb (by simp)) (fun b o _ e n=>u.free b o e n (by simp)) (fun b o _ e=>u.there b o e (by simp)) u.kT u.kr u.kU (fun m' hm=>by
    obtain⟨o',JQ,JR,lT,r'⟩:=hm;rw[ho]at lT;cases lT;exact⟨_,JQ,JR,hL,r'⟩) bQ I.bare
theorem Inv.call{g':Array GenState}{t':Nat}{d':Drawn}{ch:List Addr}(I:Inv X pins σ H s)(u:Un (fq X.stack) ch H H' s.heap h')(bQ:gi X.prog X.w H' h')(hg:AllBare g')
    (qb:∀ b∈ch,(b∈X.ex\/X.s₀.heap.objs.size<=b)/\b≠X.env.locals/\(∀ x c,X.env.cells.lookup x=some c->c≠b)/\∀ p∈X.pn++pins,p.1≠b) :
    Inv X pins σ H' { s with heap:=h',gens:=g',drawn:=d',toks:=t' }:=by
  obtain⟨m,⟨o,es,ep,ho,r⟩,_⟩:=id I.loc;obtain⟨sl,hL⟩:=u.any ho I.free fun z=>(qb _ z).2.1 rfl;exact I.step (ch:=ch) qb (fun b o hL hb hc e n=>u.keep b o e n (fun z=>(Zm.mp (I.rz b z)).elim hL hb) hc) (fun b o _ _ hc e n=>u.any e n hc) (fun b o hc e n=>u.free b o e n hc) (fun b o hc e=>u.there b o e hc) u.kT u.kr u.kU (fun m' hm=>by
    obtain⟨o',JQ,JR,lT,r'⟩:=hm;rw[ho]at lT;cases lT;exact⟨_,JQ,JR,hL,r'⟩) bQ hg
theorem Inv.turned{t':Nat}{it:Addr}(I:Inv X pins σ H s)(k:∀ b o,b≠it->s.heap.get? b=some o->h'.get? b=some o)(hn:H it=none)(hL:it≠X.env.locals)
    (h1:it∈X.ex\/X.s₀.heap.objs.size<=it) (h2:∀ x c,X.env.cells.lookup x=some c->c≠it) (h3:∀ p∈X.pn++pins,p.1≠it):Inv X pins σ H { s with heap:=h',toks:=t' }:=by
  have OD:∀ b u,H b=some u->b≠it:=fun b u e z=>by rw[z,hn]at e;cases e
  refine I.step (g':=s.gens) (d':=s.drawn) (ch:=[it]) (fun b hb=>?_) (fun b o _ _ hc e _=>k b o (fun z=>hc (by simp[z])) e) (fun b o _ _ hc e _=>⟨o.slots,k b o (fun z=>hc (by simp[z])) e⟩) (fun _ _ _ _ n=>n)
    (fun b o hc e=>⟨o,k b o (fun z=>hc (by simp[z])) e⟩) (fun _ _ e=>e) (fun _ _ _ e=>e) (fun b ps e=>⟨#[],by rw[e];simp⟩) (fun m hm=>?_) (fun b u e=>?_) I.bare
  . have e:b=it:=by simpa using hb
    subst e;exact⟨h1,hL,h2,h3⟩
  . obtain⟨o,es,ep,ho,r⟩:=hm;exact⟨o,es,ep,k _ o (ZC hL) ho,r⟩
  . refine(I.bQ b u e).oq (fun c v hc q=>k c v ?_ q) (fun _ q=>q) fun _ _ q=>q;rcases hc with z | z
    . rw[z];exact OD b u e
    . exact OD c _ z
theorem Inv.tok(I:Inv X pins σ H s)(t:Nat):Inv X pins σ H { s with toks:=t }:=I.un (h':=s.heap) (t':=t) Un.refl I.bQ
theorem Inv.kept{t':Nat}(I:Inv X pins σ H s)(k:∀ b u,s.heap.get? b=some u->h'.get? b=some u):Inv X pins σ H { s with heap:=h',toks:=t' }:=I.un (Un.kept k) (I.bQ.kept k)
theorem Inv.laid{a:Addr}{o:HO}{t':Nat}(I:Inv X pins σ H s)(k:∀ b u,s.heap.get? b=some u->h'.get? b=some u)(hp:s.heap.objs.size<=a)(new:fJ X.prog X.w (upd H a o) h' a o) :
    Inv X pins σ (upd H a o) { s with heap:=h',toks:=t' }:=I.un (Un.laid k hp (I.bQ.fresh hp)) (I.bQ.laid k hp new)
theorem Inv.write{x e:Addr}{o:HO}{t':Nat}(I:Inv X pins σ H s)(mu:Gi (H x))(he:e=x\/H e=some (.own x))(k:∀ b u,b≠e->s.heap.get? b=some u->h'.get? b=some u)(yE:∃ u,h'.get? e=some u)
    (new:fJ X.prog X.w (upd H x o) h' x o):Inv X pins σ (upd H x o) { s with heap:=h',toks:=t' }:=I.un (Un.write mu he k yE) (I.bQ.write mu he k yE new)
theorem Inv.yF{Gm:List (Addr×Obj)}(I:Inv X pins σ H s)(h:∀ p∈Gm,s.heap.get? p.1=some p.2/\H p.1=none/\p.1≠X.env.locals/\p.1 ∉ X.fs/\∀ v,p.2.data≠.cell v):Inv X Gm σ H s :=
  ⟨I.ok,I.os,I.bare,I.base,I.loc,I.cell,I.free,I.gG,fun p hp=>(aaf.mp hp).elim (fun z=>I.pin p (aaD _ z)) (h p),I.bQ,I.len⟩
theorem qK{N:List Str}(hN:N.Nodup){i j:Nat}{x:Str}(a:N[i]?=some x)(b:N[j]?=some x):i=j:=by
  obtain⟨h1,e1⟩:=YC.mp a;obtain⟨h2,e2⟩:=YC.mp b;exact(abS hN).mp (e1.trans e2.symm)
theorem uq{M:Model}{A:Around}{E:Value->Shared->Prop}{i:Nat}{x:Str}{v:V}{u:Value}{Q:Unit->Shared->Prop}(I:Inv X pins σ H s)(hN:X.N.Nodup)(hi:X.N[i]?=some x)(hx:Loc X.env.scope x)(r:RelV v u)
    (h:∀ s',Inv X pins (σ.set i (some v)) H s'->(∃ a,Heap.SameBut a s.heap s'.heap/\(a=X.env.locals\/X.env.cells.lookup x=some a))->Q () s') (hf:autoParam (X.fn x=true\/X.env.scope.names.lookup x=some .local) q_):wpAny M A (storeName X.env x u) Q E s:=by
  obtain⟨m,hn,hl⟩:=id I.loc;have hcls:(X.env.scope.kind == .class||(X.env.scope.kind == .module&&X.env.locals != X.env.globals))=false:=by rw[I.ok.kind];rfl
  have OE:i<σ.length:=by rw[I.len];exact(YC.mp hi).1
  have qa:=I.qa;have tracked:∀{a:Addr}{h':Heap},(∃ o,s.heap.get? a=some o/\H a=none)->Heap.SameBut a s.heap h'->gi X.prog X.w H h':=fun{a h'} ha hs b ob e=>by
    obtain⟨_,_,Gn⟩:=ha;refine(I.bQ b ob e).oq (fun c w' hc q=>(hs.2 c ?_).trans q) (fun _ q=>q) fun _ _ q=>q;rintro rfl;rcases hc with rfl | hc
    . rw[Gn]at e;cases e
    . rw[Gn]at hc;cases hc
  rcases hx with hk | hk
  . refine wpAny_storeName_local hk hn (fun h' vS hs=>?_) hcls;obtain⟨oL,_,_,OF,_⟩:=id hn;refine h _ ⟨I.ok,I.os,I.bare,⟨fun b o e n hb hx=>?_,fun b o e n hb hx=>?_,I.base.free,fun b o e hx=>?_,I.base.kT,I.base.kr,I.base.kU⟩,⟨_,vS,fun j y v' e1 e2 e3=>?_⟩,fun y c e=>?_,I.free,I.gG,fun p hp=>?_,tracked ⟨oL,OF,I.free⟩ hs,by simpa using I.len⟩ ⟨_,hs,.inl rfl⟩
    . exact(hs.2 b (Zx (YY (YO e) I.ok.above))).trans (I.base.keep b o e n hb hx)
    . obtain⟨sl,e1⟩:=I.base.slot b o e n hb hx;exact⟨sl,(hs.2 b (Zx (YY (YO e) I.ok.above))).trans e1⟩
    . obtain⟨o',e1⟩:=I.base.there b o e hx;exact⟨o',(hs.2 b (Zx (YY (YO e) I.ok.above))).trans e1⟩
    . by_cases hj:j=i
      . subst hj;rw[hi]at e1;cases e1;rw[Y0 OE]at e2;cases e2;exact⟨u,r,.inl ⟨hk,by simp⟩⟩
      . rw[YR (ZC hj)]at e2;obtain⟨u',r',q⟩:=hl j y v' e1 e2 e3;refine⟨u',r',?_⟩;rcases q with⟨k,e⟩ | ⟨k,c,e,z⟩
        . refine .inl ⟨k,?_⟩;have:y≠x:=fun e=>hj (qK hN e1 (e ▸ hi))
          simp[this,e]
        . exact .inr ⟨k,c,e,z.sameBut hs (qa y c e)⟩
    . obtain⟨w',z⟩:=I.cell y c e;exact⟨w',z.sameBut hs (qa y c e)⟩
    . obtain⟨e,n,ne,nf,d⟩:=I.pin p hp;exact⟨(hs.2 p.1 ne).trans e,n,ne,nf,d⟩
  . have BU:X.fn x=true:=by
      rcases hf with z | z
      . exact z
      . rw[z]at hk;cases hk
    obtain⟨c,hc⟩:=I.ok.has x (.inl hk);obtain⟨w',z⟩:=I.cell x c hc;refine wpAny_storeName_cell I.ok.kind hk hc z (fun h' Gp hs=>?_);obtain⟨oc,OG,RA⟩:=id z;refine h { s with heap:=h' } ⟨I.ok,I.os,I.bare,⟨fun b o e n hb hx=>?_,fun b o e n hb hx=>?_,I.base.free,fun b o e hx=>?_,I.base.kT,I.base.kr,I.base.kU⟩,⟨m,hn.sameBut hs (ZC (qa x c hc)),fun j y v' e1 e2 e3=>?_⟩,fun y c' e=>?_,I.free,I.gG,fun p hp=>?_,tracked ⟨oc,OG,I.gG x c hc⟩ hs,by simpa using I.len⟩ ⟨c,hs,.inr hc⟩
    . exact(hs.2 b (Zx (YY (YO e) (I.ok.um x c BU hc)))).trans (I.base.keep b o e n hb hx)
    . obtain⟨sl,e1⟩:=I.base.slot b o e n hb hx;exact⟨sl,(hs.2 b (Zx (YY (YO e) (I.ok.um x c BU hc)))).trans e1⟩
    . obtain⟨o',e1⟩:=I.base.there b o e hx;exact⟨o',(hs.2 b (Zx (YY (YO e) (I.ok.um x c BU hc)))).trans e1⟩
    . by_cases hj:j=i
      . subst hj;rw[hi]at e1;cases e1;rw[Y0 OE]at e2;cases e2;exact⟨u,r,.inr ⟨.inl hk,c,hc,Gp⟩⟩
      . rw[YR (ZC hj)]at e2;obtain⟨u',r',q⟩:=hl j y v' e1 e2 e3;refine⟨u',r',?_⟩;rcases q with q | ⟨k,c',e,z'⟩
        . exact .inl q
        . refine .inr ⟨k,c',e,z'.sameBut hs ?_⟩;rintro rfl;exact hj (qK hN e1 (I.ok.inj _ _ _ e hc ▸ hi))
    . by_cases OH:c'=c
      . subst OH;exact⟨_,Gp⟩
      . obtain⟨w2,z2⟩:=I.cell y c' e;exact⟨w2,z2.sameBut hs OH⟩
    . obtain⟨e,n,ne,nf,d⟩:=I.pin p hp;refine⟨(hs.2 p.1 ?_).trans e,n,ne,nf,d⟩;intro q;rw[q,OG]at e;have q':oc=p.2:=Zr e
      exact d w' (by rw[<- q'];exact RA)
theorem jd{M:Model}{A:Around}{E:Value->Shared->Prop}{i:Nat}{x:Str}{v:V}{u:Value}{Q:Unit->Shared->Prop}(I:Inv X pins σ H s)(hN:X.N.Nodup)(hi:X.N[i]?=some x)(hx:Loc X.env.scope x)(r:RelV v u)
    (h:∀ s',Inv X pins (σ.set i (some v)) H s'->Q () s') (hf:autoParam (X.fn x=true\/X.env.scope.names.lookup x=some .local) q_):wpAny M A (storeName X.env x u) Q E s :=
  uq I hN hi hx r (fun s' I' _=>h s' I') hf
theorem Inv.rB{s':Shared}{ch:List Addr}(I:Inv X pins σ H s)(ho:s'.os=s.os)(u:Un (fq X.stack) ch H H' s.heap s'.heap)(bQ:gi X.prog X.w H' s'.heap)(hg:AllBare s'.gens)
    (qb:∀ b∈ch,(b∈X.ex\/X.s₀.heap.objs.size<=b)/\b≠X.env.locals/\(∀ x c,X.env.cells.lookup x=some c->c≠b)/\∀ p∈X.pn++pins,p.1≠b):Inv X pins σ H' s':=by
  obtain⟨h',g',d',t',o'⟩:=s';have e:o'=s.os:=ho
  subst e;exact I.call (g':=g') (t':=t') (d':=d') u bQ hg qb
end
abbrev XK:=Value->Option Addr->Hp->Prop
abbrev St:=List (Option V)
abbrev VK:=V->Hp->Prop
abbrev TE:=St->Hp->VK->Prop
abbrev TT:=St->Hp->(Bool->Hp->Prop)->Prop
abbrev TA:=St->Hp->(List V->Hp->Prop)->Prop
structure Ends where
  nx:St->Hp->Prop
  rt:VK
  bk:St->Hp->Prop:=fun _ _=>False
  ct:St->Hp->Prop:=fun _ _=>False
abbrev TS:=Ends->St->Hp->Prop
def EP(X:Cx)(pins:List (Addr×Obj))(σ:St)(Q:VK)(u:Value)(s':Shared):Prop:=∃ v H',Inv X pins σ H' s'/\RelV v u/\Q v H'
def SP(X:Cx)(pins:List (Addr×Obj))(D:Ends)(f:Flow)(s':Shared):Prop :=
  match f with
  | .next=>∃ σ' H',Inv X pins σ' H' s'/\D.nx σ' H'
  | .brk=>∃ σ' H',Inv X pins σ' H' s'/\D.bk σ' H'
  | .cont=>∃ σ' H',Inv X pins σ' H' s'/\D.ct σ' H'
  | .ret u=>∃ v σ' H',Inv X pins σ' H' s'/\RelV v u/\D.rt v H'
def PE(X:Cx)(e:Expr)(t:TE):Prop :=
  ∀(pins:List (Addr×Obj))(s:Shared)(σ:St)(H:Hp)(Q:VK),Inv X pins σ H s->t σ H Q->wpAny (model X.prog X.w) X.A (eval e X.env) (EP X pins σ Q) X.xe s
def TM(X:Cx)(st:List Stmt)(t:TS):Prop :=
  ∀(pins:List (Addr×Obj))(s:Shared)(σ:St)(H:Hp)(D:Ends),Inv X pins σ H s->t D σ H->wpAny (model X.prog X.w) X.A (execs st X.env) (SP X pins D) X.xe s
theorem ie{α:Type}{t:Sem α}{Q Q':α->Shared->Prop}{M:Model}{A:Around}{E:Value->Shared->Prop}{s:Shared}(h:wpAny M A t Q E s)(hQ:∀ a s,Q a s->Q' a s):wpAny M A t Q' E s:=YA h hQ fun _ _ x=>x
section
variable {X:Cx}
def RB(i:Nat):TE:=fun σ H Q=>∃ v,σ[i]?=some (some v)/\Q v H
def tC(v:V):TE:=fun _ H Q=>Q v H
theorem JS{i:Nat}{x:Str}{pos:Pos}(hN:X.N[i]?=some x)(hv:ou X.env.scope x) (hd:autoParam ((x ==("__debug__" : Str))=false) w_) (ey:autoParam ((x ==("__classdict__" : Str))=false) w_):PE X (.Name x pos) (RB i):=by
  intro pins s σ H Q I h;obtain⟨v,e,h⟩:=h;obtain⟨m,hn,hl⟩:=I.loc;obtain⟨u,r,l⟩:=hl i x v hN e hv;have fin:EP X pins σ Q u s:=⟨v,H,I,r,h⟩
  rcases l with⟨hk,hm⟩ | ⟨hk,c,hc,jY⟩
  . exact aa9 (wpAny_loadName_local I.ok.kind hk hn hm fin) hd
  . rcases hk with hk | hk
    . exact aa9 (wpAny_loadName_cell I.ok.kind hk hc jY fin) hd
    . exact aa9 (wpAny_loadName_free I.ok.kind hk hc jY fin ey) hd
theorem JT{i j pos}:PE X (.Constant (.int i) j pos) (tC (.int i)):=fun _ _ _ H _ I h=>wpAny_Constant_int ⟨.int i,H,I.tok _,⟨_,rfl⟩,h⟩
theorem NW{b j pos}:PE X (.Constant (.bool b) j pos) (tC (.bl b)):=fun _ _ _ H _ I h=>Constant_bool ⟨.bl b,H,I,rfl,h⟩
theorem JU{j pos}:PE X (.Constant .none j pos) (tC .bf):=fun _ _ _ H _ I h=>abF ⟨.bf,H,I,rfl,h⟩
theorem JV{x j pos}:PE X (.Constant (.str x) j pos) (tC (.str x)):=fun _ _ _ H _ I h=>Calls.Constant_str ⟨.str x,H,I.tok _,⟨_,rfl⟩,h⟩
def Gl(X:Cx)(x:Str):Prop:=X.env.kindOf x=some .globalImplicit
theorem gj{E:Value->Shared->Prop}{pins:List (Addr×Obj)}{s:Shared}{σ:St}{H:Hp}{x:Str}{u:Value}{pos:Pos}{Q:Value->Shared->Prop}(I:Inv X pins σ H s)(hg:Gl X x)(hm:X.mg x=some u)(h:Q u s)
    (hd:autoParam ((x ==("__debug__" : Str))=false) w_):wpAny (model X.prog X.w) X.A (eval (.Name x pos) X.env) Q E s :=
  aaI I.ok.kind hg (Calls.loadGlobal_global (by rw[I.ok.glob];exact I.mod.glob.keeps I.bk) hm h) hd
theorem kW{E:Value->Shared->Prop}{pins:List (Addr×Obj)}{s:Shared}{σ:St}{H:Hp}{x:Str}{u:Value}{pos:Pos}{Q:Value->Shared->Prop}(I:Inv X pins σ H s)(hg:Gl X x)(hm:X.mg x=none)(hv:bootBuiltins x=some u)(h:Q u s)
    (hn:autoParam (x≠"__name__") w_) (hd:autoParam ((x ==("__debug__" : Str))=false) w_):wpAny (model X.prog X.w) X.A (eval (.Name x pos) X.env) Q E s:=by
  obtain⟨mb,h1,h2⟩:=I.mod.blt;exact aaI I.ok.kind hg (Calls.loadGlobal_builtin (by rw[I.ok.glob];exact I.mod.glob.keeps I.bk) hm (by rw[I.ok.blt];exact h1.keeps I.bk) ((h2 x hn).trans hv) h) hd
theorem Ir{x:Str}{v:V}{u:Value}{pos:Pos}(hg:Gl X x)(hm:X.mg x=some u)(r:RelV v u) (hd:autoParam ((x ==("__debug__" : Str))=false) w_):PE X (.Name x pos) (tC v) :=
  fun _ _ _ H _ I h=>gj I hg hm ⟨v,H,I,r,h⟩ hd
variable {a b:Expr}{ta tb:TE}{pos:Pos}
theorem qL(b:Expr){op:CmpOp}(h:op≠.In)(h2:op≠.NotIn):behindInMarks op b=false:=by
  have e1:(op == CmpOp.In)=false:=by cases op<;>first | rfl | exact absurd rfl h
  have e2:(op == CmpOp.NotIn)=false:=by cases op<;>first | rfl | exact absurd rfl h2
  cases b<;>simp[behindInMarks,e1,e2]
theorem RelV.qM{x:V}{v:Value}(r:RelV x v):(v == Value.none)=decide (x=.bf):=by
  cases x with
  | bf=>cases r;rfl
  | bl _=>cases r;rfl
  | int _=>obtain⟨t,rfl⟩:=r;rfl
  | str _=>obtain⟨t,rfl⟩:=r;rfl
  | BP _=>obtain⟨t,rfl⟩:=r;rfl
  | BQ _=>obtain⟨t,rfl⟩:=r;rfl
  | ref _=>cases r;rfl
  | ty _=>cases r;rfl
variable {tA X3:TT}{rest:List Expr}
end
def f7(K:PySem.W.Frag)(H:Hp)(a:Addr)(xs:List V):Prop :=
  Rd H a (.lst xs) \/
    ∃(o:Obj)(its:Array Value)(n:Nat),K.lookup a=some o/\o.cls=.type "list"/\o.dict=none/\o.data=.seq its n/\its.size<=sizeLine/\Vals xs its.toList
def jk(K:PySem.W.Frag)(H:Hp)(a:Addr)(xs:List V):Prop :=
  Rd H a (.tup xs) \/
    ∃(o:Obj)(its:Array Value)(n:Nat),K.lookup a=some o/\o.cls=.type "tuple"/\o.data=.seq its n/\its.size<=sizeLine/\Vals xs its.toList
noncomputable def RC:Value->Option V
  | .none=>some .bf
  | .bool b=>some (.bl b)
  | .int i _=>some (.int i)
  | .str x _=>some (.str x)
  | .bytes b _=>some (.BP b)
  | .float b _=>some (.BQ b)
  | .ref a=>some (.ref a)
  | .type n=>some (.ty n)
  | _=>none
theorem RelV.abs{x:V}{u:Value}(r:RelV x u):RC u=some x:=by
  cases x with
  | bf=>cases r;rfl
  | bl _=>cases r;rfl
  | int _=>obtain⟨t,rfl⟩:=r;rfl
  | str _=>obtain⟨t,rfl⟩:=r;rfl
  | BP _=>obtain⟨t,rfl⟩:=r;rfl
  | BQ _=>obtain⟨t,rfl⟩:=r;rfl
  | ref _=>cases r;rfl
  | ty _=>cases r;rfl
theorem RelV.inj{x y:V}{u:Value}(r:RelV x u)(q:RelV y u):x=y:=Zr (r.abs.symm.trans q.abs)
theorem Vals.inj:∀{xs ys:List V}{us:List Value},Vals xs us->Vals ys us->xs=ys
  | _,_,_,.nil,.nil=>rfl
  | _,_,_,.cons r t,.cons r' t'=>by rw[r.inj r',Vals.inj t t']
section
variable {X:Cx}{pins:List (Addr×Obj)}{σ:St}{H:Hp}{s:Shared}{a:Addr}{xs ys:List V}
theorem f7.of{K:PySem.W.Frag}(h:H a=some (.lst xs)):f7 K H a xs:=.inl (.inl h)
theorem jk.of{K:PySem.W.Frag}(h:H a=some (.tup xs)):jk K H a xs:=.inl (.inl h)
theorem Inv.list(I:Inv X pins σ H s)(h:f7 X.K H a xs):∃ its:List Value,Vals xs its/\PlainL s.heap a its.toArray/\xs.length<=sizeLine:=by
  rcases h with h | ⟨o,its,n,hk,hc,hd,hs,hz,r⟩
  . obtain⟨z,its,n,r,e⟩:=h.ok I.bQ;exact⟨its,r,⟨_,n,e,rfl,rfl,rfl⟩,z⟩
  . refine⟨its.toList,r,⟨o,n,I.eT a o hk,hc,hd,by simpa using hs⟩,?_⟩;have e:=r.length
    simp only[ac4]at e;omega
theorem Inv.tuple(I:Inv X pins σ H s)(h:jk X.K H a xs):∃ its:List Value,Vals xs its/\IsTup s.heap a its.toArray/\xs.length<=sizeLine:=by
  rcases h with h | ⟨o,its,n,hk,hc,hs,hz,r⟩
  . obtain⟨z,its,r,p⟩:=h.ok I.bQ;exact⟨its,r,p,z⟩
  . refine⟨its.toList,r,⟨o,I.eT a o hk,hc,n,by simpa using hs⟩,?_⟩;have e:=r.length
    simp only[ac4]at e;omega
theorem Inv.vU(I:Inv X pins σ H s)(h:f7 X.K H a xs)(h':f7 X.K H a ys):xs=ys:=by
  obtain⟨its,r,⟨o,n,e,_,_,d⟩,_⟩:=I.list h;obtain⟨its',r',⟨o',n',e',_,_,d'⟩,_⟩:=I.list h';rw[e]at e';cases e';rw[d]at d';injection d' with d1 _;have:its=its':=by simpa using Z9 Array.toList d1
  subst this;exact r.inj r'
theorem Inv.ur(I:Inv X pins σ H s)(h:jk X.K H a xs)(h':jk X.K H a ys):xs=ys:=by
  obtain⟨its,r,⟨o,e,_,n,d⟩,_⟩:=I.tuple h;obtain⟨its',r',⟨o',e',_,n',d'⟩,_⟩:=I.tuple h';rw[e]at e';cases e';rw[d]at d';injection d' with d1 _;have:its=its':=by simpa using Z9 Array.toList d1
  subst this;exact r.inj r'
end
noncomputable abbrev Cx.bP(X:Cx)(E:Value->Shared->Prop):Cx:={ X with xe:=E }
theorem Cx.Ok.bP{X:Cx}(ok:X.Ok)(E:Value->Shared->Prop):(X.bP E).Ok :=
  ⟨ok.mod,ok.kind,ok.glob,ok.blt,ok.above,ok.inj,ok.has,ok.um,ok.hd,ok.frames,ok.rn,ok.Gk,ok.bs,ok.mx,ok.qJ,ok.tI,ok.iG,ok.pZ⟩
theorem Cx.Ok.kX{X:Cx}{E:Value->Shared->Prop}(ok:(X.bP E).Ok):X.Ok :=
  ⟨ok.mod,ok.kind,ok.glob,ok.blt,ok.above,ok.inj,ok.has,ok.um,ok.hd,ok.frames,ok.rn,ok.Gk,ok.bs,ok.mx,ok.qJ,ok.tI,ok.iG,ok.pZ⟩
section
variable {X:Cx}{pins:List (Addr×Obj)}{σ:St}{H:Hp}{s:Shared}{E:Value->Shared->Prop}
theorem Inv.bP(I:Inv X pins σ H s)(E:Value->Shared->Prop):Inv (X.bP E) pins σ H s:=⟨I.ok.bP E,I.os,I.bare,I.base,I.loc,I.cell,I.free,I.gG,I.pin,I.bQ,I.len⟩
theorem Inv.kX(I:Inv (X.bP E) pins σ H s):Inv X pins σ H s:=⟨I.ok.kX,I.os,I.bare,I.base,I.loc,I.cell,I.free,I.gG,I.pin,I.bQ,I.len⟩
end
section
variable {X:Cx}{st:Stmt}{rest:List Stmt}{t u:TS}{e:Expr}{te:TE}{pos:Pos}
theorem Inv.quiet{pins:List (Addr×Obj)}{σ:St}{H:Hp}{s:Shared}(I:Inv X pins σ H s):interactive X.env=false:=by simp[interactive,I.ok.kind]
end
abbrev RD:=V->V->V->Hp->(Hp->Prop)->Prop
def RE(X:Cx)(t:RD):Prop :=
  ∀(pins:List (Addr×Obj))(s:Shared)(σ:St)(H:Hp)(o i v:V)(ov iv u:Value)(Q:Hp->Prop),Inv X pins σ H s->RelV o ov->RelV i iv->RelV v u->t o i v H Q ->
    wpAny (model X.prog X.w) X.A (setItem ov iv u) (fun _ s'=>∃ H',Inv X pins σ H' s'/\Q H') X.xe s
structure It where
  go:Nat->Hp->Prop
  JW:Nat->Hp->V->Hp->Prop
  stop:Nat->Hp->Prop
def iH(X:Cx)(pins:List (Addr×Obj))(H:Hp)(b:Addr):Prop :=
  H b=none/\b≠X.env.locals/\b ∉ X.fs/\(b∈X.ex\/X.s₀.heap.objs.size<=b)/\(∀ x c,X.env.cells.lookup x=some c->c≠b)/\∀ p∈X.pn++pins,p.1≠b
theorem Inv.tJ{X:Cx}{pins:List (Addr×Obj)}{σ:St}{H H':Hp}{s:Shared}{b:Addr}(I:Inv X pins σ H s)(hb:s.heap.objs.size<=b)(hn:H' b=none):iH X pins H' b:=by
  refine⟨hn,aba (YY I.lt hb),I.Rz hb,.inr (YU I.sz hb),fun x c e z=>?_,fun p hp z=>?_⟩
  . obtain⟨v,q⟩:=I.cell x c e;exact absurd (YY q.lt (by rw[z];exact hb)) (ZI _)
  . exact absurd (YY (YO (I.pin p hp).1) (by rw[z];exact hb)) (ZI _)
structure Turn(P:Program)(w:World)(K:PySem.W.Frag)(tg:Expr)(J:It)(fp:List Addr)(it:Addr)(tn:Nat->Heap->Prop):Prop where
  mem:it∈fp
  obj:∀ i h,tn i h->∀ b∈fp,∃ o,h.get? b=some o/\∀ v,o.data≠.cell v
  keep:∀ i h h',tn i h->(∀ b∈fp,∀ o,h.get? b=some o->h'.get? b=some o)->tn i h'
  item:∀(X:Cx),X.prog=P->X.w=w->X.K=K->X.calm=true->∀(i:Nat)(pins:List (Addr×Obj))(s:Shared)(σ:St)(H:Hp)(E:Value->Shared->Prop),Inv X pins σ H s->(∀ b∈fp,iH X pins H b)->tn i s.heap->J.go i H ->
    wpAny (model P w) X.A (pyNext (.ref it)) (fun r s1=>∃ u,r=some u /\
      wpAny (model P w) X.A (letOwnedTupleGo tg (.ref it) u) (fun _ s2=>∃ x H',Inv X pins σ H' s2/\RelV x u/\J.JW i H x H'/\tn (i+1) s2.heap/\∀ b∈fp,H' b=none) E s1) E s
  done:∀(X:Cx),X.prog=P->X.w=w->X.K=K->X.calm=true->∀(i:Nat)(pins:List (Addr×Obj))(s:Shared)(σ:St)(H:Hp)(E:Value->Shared->Prop),Inv X pins σ H s->(∀ b∈fp,iH X pins H b)->tn i s.heap->J.stop i H ->
    wpAny (model P w) X.A (pyNext (.ref it)) (fun r s1=>r=none/\Inv X pins σ H s1) E s
  self:∀(A:Around)(i:Nat)(s:Shared)(Q:Value->Shared->Prop)(E:Value->Shared->Prop),tn i s.heap->Q (.ref it) s->wpAny (model P w) A (pyIter (.ref it)) Q E s
abbrev TI:=St->Hp->(It->Hp->Prop)->Prop
def TN(X:Cx)(pins:List (Addr×Obj))(σ:St)(tg:Expr)(R:It->Hp->Prop)(vV:Value)(s2:Shared):Prop :=
  ∃(it:Addr)(fp:List Addr)(tn:Nat->Heap->Prop)(J:It)(H':Hp),vV=.ref it/\Inv X pins σ H' s2/\Turn X.prog X.w X.K tg J fp it tn/\tn 0 s2.heap/\(∀ b∈fp,iH X pins H' b)/\R J H'
theorem vI{M:Model}{A:Around}{E:Value->Shared->Prop}{s:Shared}{tg:Expr}{it:Addr}{u:Value}{o:Obj}{n:String}{vs:Array Value}{Q:Unit->Shared->Prop}(ho:s.heap.get? it=some o)(hc:o.cls=.type n)(hd:o.data=.fields vs)
    (hn:["enumerate","zip","dict_itemiterator","dict_reverseitemiterator","odict_iterator","itertools.zip_longest","itertools.pairwise"].contains n=false) (hQ:Q () s):wpAny M A (letOwnedTupleGo tg (.ref it) u) Q E s:=by
  unfold letOwnedTupleGo;cases tg<;>first
    | exact Zb hQ
    | (cases u<;>first
        | exact Zb hQ
        | (
           refine YE (wpAny_load ho ?_);rw[hc,hd];show wpAny M A (if (["enumerate","zip","dict_itemiterator","dict_reverseitemiterator","odict_iterator","itertools.zip_longest","itertools.pairwise"].contains n&&vs[0]? == some (rawInt _))=true then _ else _) Q E s
           rw[Yx (by intro h;rw[hn,Zo]at h;cases h)];exact Zb hQ))
noncomputable def OI(K:PySem.W.Frag)(a:Addr):It :=
  ⟨fun i H=>∃ xs x,f7 K H a xs/\xs[i]?=some x,fun i H x H'=>H'=H/\∀ xs,f7 K H a xs->xs[i]?=some x,fun i H=>∃ xs,f7 K H a xs/\xs.length<=i⟩
noncomputable def OJ(K:PySem.W.Frag)(a:Addr):It :=
  ⟨fun i H=>∃ xs x,jk K H a xs/\xs[i]?=some x,fun i H x H'=>H'=H/\∀ xs,jk K H a xs->xs[i]?=some x,fun i H=>∃ xs,jk K H a xs/\xs.length<=i⟩
theorem BV{P:Program}{w:World}{K:PySem.W.Frag}{tg:Expr}(a it:Addr):Turn P w K tg (OI K a) [it] it (fun i h=>h.IsListIter it a i) where
  mem:=by simp
  obj:=fun i h st b hb=>by
    have e:b=it:=by simpa using hb
    subst e;obtain⟨o,e,c,d⟩:=st;exact⟨o,e,fun v z=>by rw[d]at z;cases z⟩
  keep:=fun i h h' st k=>st.at fun o e=>k it (by simp) o e
  item:=by
    intro X hP hw hK hc i pins s σ H E I hf st hg;subst hP hw hK;obtain⟨xs,x,hq,hx⟩:=hg;obtain⟨its,rv,p,hz⟩:=I.list hq;obtain⟨u,hu,ru⟩:=rv.get hx;obtain⟨f0,f1,f2,f3,f4,f5⟩:=hf it (by simp);refine wpAny_pyNext_list_item st p.isList (x:=u) (by simpa using hu) fun h' iD sb=>?_;have I1:Inv X pins σ H { s with heap:=h' }:=I.turned (t':=s.toks) (fun b o hb e=>(sb.2 b hb).trans e) f0 f1 f3 f4 f5
    obtain⟨o,e,c,d⟩:=id iD;exact⟨u,rfl,vI (s:={ s with heap:=h' }) e c d (by decide) ⟨x,H,I1,ru,⟨rfl,fun ys hy=>by rw[I.vU hy hq];exact hx⟩,iD,fun b hb=>(hf b hb).1⟩⟩
  done:=by
    intro X hP hw hK hc i pins s σ H E I hf st hg;subst hP hw hK;obtain⟨xs,hq,hx⟩:=hg;obtain⟨its,rv,p,hz⟩:=I.list hq;obtain⟨f0,f1,f2,f3,f4,f5⟩:=hf it (by simp);have hl:=rv.length
    exact wpAny_pyNext_list_end (I.ok.hd hc) st p.isList (by simp;omega) fun h' eb=>⟨rfl,I.turned (t':=s.toks) (fun b o hb e=>eb b o hb e) f0 f1 f3 f4 f5⟩
  self:=fun _ _ _ _ _ st h=>wpAny_pyIter_listiter st h
theorem AK{P:Program}{w:World}{K:PySem.W.Frag}{tg:Expr}(a it:Addr):Turn P w K tg (OJ K a) [it] it (fun i h=>h.IsTupleIter it a i) where
  mem:=by simp
  obj:=fun i h st b hb=>by
    have e:b=it:=by simpa using hb
    subst e;obtain⟨o,e,c,d⟩:=st;exact⟨o,e,fun v z=>by rw[d]at z;cases z⟩
  keep:=fun i h h' st k=>st.at fun o e=>k it (by simp) o e
  item:=by
    intro X hP hw hK hc i pins s σ H E I hf st hg;subst hP hw hK;obtain⟨xs,x,hq,hx⟩:=hg;obtain⟨its,rv,p,hz⟩:=I.tuple hq;obtain⟨u,hu,ru⟩:=rv.get hx;obtain⟨f0,f1,f2,f3,f4,f5⟩:=hf it (by simp);refine wpAny_pyNext_tuple_item st (show s.heap.IsTuple a its.toArray from p) (x:=u) (by simpa using hu) fun h' iD sb=>?_;have I1:Inv X pins σ H { s with heap:=h' }:=I.turned (t':=s.toks) (fun b o hb e=>(sb.2 b hb).trans e) f0 f1 f3 f4 f5
    obtain⟨o,e,c,d⟩:=id iD;exact⟨u,rfl,vI (s:={ s with heap:=h' }) e c d (by decide) ⟨x,H,I1,ru,⟨rfl,fun ys hy=>by rw[I.ur hy hq];exact hx⟩,iD,fun b hb=>(hf b hb).1⟩⟩
  done:=by
    intro X hP hw hK hc i pins s σ H E I hf st hg;subst hP hw hK;obtain⟨xs,hq,hx⟩:=hg;obtain⟨its,rv,p,hz⟩:=I.tuple hq;obtain⟨f0,f1,f2,f3,f4,f5⟩:=hf it (by simp);have hl:=rv.length
    exact wpAny_pyNext_tuple_end (I.ok.hd hc) st (show s.heap.IsTuple a its.toArray from p) (by simp;omega) fun h' eb=>⟨rfl,I.turned (t':=s.toks) (fun b o hb e=>eb b o hb e) f0 f1 f3 f4 f5⟩
  self:=fun _ _ _ _ _ st h=>wpAny_pyIter_tupleiter st h
section
variable {X:Cx}{tg:Expr}
noncomputable def kY(fp:List Addr)(h:Heap):List (Addr×Obj):=fp.filterMap fun b=>(h.get? b).map fun o=>(b,o)
theorem gH{fp:List Addr}{h:Heap}{b:Addr}{o:Obj}(hb:b∈fp)(e:h.get? b=some o):(b,o)∈kY fp h:=abC.mpr ⟨b,hb,by rw[e];rfl⟩
theorem BW{fp:List Addr}{h:Heap}{p:Addr×Obj}(hp:p∈kY fp h):p.1∈fp/\h.get? p.1=some p.2:=by
  obtain⟨b,hb,e⟩:=abC.mp hp;cases q:h.get? b with
  | none=>rw[q]at e;cases e
  | some o =>
    rw[q]at e;have e':(b,o)=p:=Zr e
    subst e';exact⟨hb,q⟩
theorem Inv.pinned{pins:List (Addr×Obj)}{σ:St}{H:Hp}{s:Shared}{fp:List Addr}(I:Inv X pins σ H s)(hf:∀ b∈fp,iH X pins H b)(ho:∀ b∈fp,∃ o,s.heap.get? b=some o/\∀ v,o.data≠.cell v):Inv X (pins++kY fp s.heap) σ H s :=
  I.yF fun p hp=>(aaf.mp hp).elim (fun z=>I.pin p (YZ _ z)) fun z=>by
    obtain⟨hb,e⟩:=BW z;obtain⟨f0,f1,f2,_⟩:=hf p.1 hb;obtain⟨o,e',d⟩:=ho p.1 hb;rw[e]at e';cases e';exact⟨e,f0,f1,f2,d⟩
theorem Inv.gI{pins pl:List (Addr×Obj)}{σ:St}{H:Hp}{s:Shared}(I:Inv X (pins++pl) σ H s):Inv X pins σ H s:=I.yF fun p hp=>I.pin p (YZ _ (aaD _ hp))
end
abbrev R2:=V->V->Hp->VK->Prop
def BX(X:Cx)(f:Value->Value->Sem Value)(r:R2):Prop :=
  ∀(pins:List (Addr×Obj))(s:Shared)(σ:St)(H:Hp)(x y:V)(v u:Value)(Q:VK),Inv X pins σ H s->RelV x v->RelV y u->r x y H Q ->
    wpAny (model X.prog X.w) X.A (f v u) (EP X pins σ Q) X.xe s
def m7(X:Cx)(f:Value)(r:List V->Hp->VK->Prop):Prop :=
  ∀(pins:List (Addr×Obj))(s:Shared)(σ:St)(H:Hp)(xs:List V)(us:List Value)(Q:VK),Inv X pins σ H s->Vals xs us->r xs H Q ->
    wpAny (model X.prog X.w) X.A (call f us) (EP X pins σ Q) X.xe s
section
variable {X:Cx}{a b c:Expr}{ta tb tc:TE}{pos:Pos}
theorem JX{pins:List (Addr×Obj)}{σ:St}{H:Hp}{s:Shared}{Q:VK}{k k':Bool}(I:Inv X pins σ H s)(q:Q (.bl k) H)(e:k=k'):EP X pins σ Q (.bool k') s:=by
  subst e;exact⟨.bl k,H,I,rfl,q⟩
theorem BY:BX X (compareOp .In) (fun x y H Q=>∃ i j,x=.str i/\y=.str j/\Q (.bl (!(Builtin.Str.occurrences j i 0 j.length 1).isEmpty)) H):=by
  intro pins s σ H x y v u Q I rx ry h;obtain⟨i,j,rfl,rfl,q⟩:=h;obtain⟨t,rfl⟩:=rx;obtain⟨t',rfl⟩:=ry;exact in_str (JX I q rfl)
theorem aG(b:Expr){op:CmpOp}(h:autoParam (op≠.In) w_)(h2:autoParam (op≠.NotIn) w_):behindInMarks op b=false:=by
  have e1:(op == CmpOp.In)=false:=by cases op<;>first | rfl | exact absurd rfl h
  have e2:(op == CmpOp.NotIn)=false:=by cases op<;>first | rfl | exact absurd rfl h2
  cases b<;>simp[behindInMarks,e1,e2]
theorem my:(sizeLine:Nat)<2 ^ 63:=by rw[sizeLine_eq];decide
theorem AL:BX X (binaryOp .Add) (fun x y H Q=>∃ i j,x=.str i/\y=.str j/\i.length+j.length<=sizeLine/\Q (.str (i++j)) H):=by
  intro pins s σ H x y v u Q I rx ry h;obtain⟨i,j,rfl,rfl,hz,q⟩:=h;obtain⟨t,rfl⟩:=rx;obtain⟨t',rfl⟩:=ry;exact add_str (fun t' tk=>⟨.str (i++j),H,I.tok _,⟨_,rfl⟩,q⟩) hz
theorem vals1{x:V}{us:List Value}(r:Vals [x] us):∃ u,us=[u]/\RelV x u:=by
  cases r with
  | cons r1 r2=>cases r2;exact⟨_,rfl,r1⟩
theorem vals2{x y:V}{us:List Value}(r:Vals [x,y] us):∃ u w',us=[u,w']/\RelV x u/\RelV y w':=by
  cases r with
  | cons r1 r2 =>
    cases r2 with
    | cons r3 r4=>cases r4;exact⟨_,_,rfl,r1,r3⟩
theorem EA:m7 X (.builtin "abs") (fun xs H Q=>∃ i,xs=[.int i]/\Q (.int (if i<0 then -i else i)) H):=by
  intro pins s σ H xs us Q I r h;obtain⟨i,rfl,q⟩:=h;obtain⟨u,rfl,t,rfl⟩:=vals1 r;exact call_abs_int fun u tk=>⟨.int (if i<0 then -i else i),H,I.tok _,⟨_,rfl⟩,q⟩
theorem BZ(hc:X.calm=true):m7 X (.builtin "max") (fun xs H Q=>∃ i j,xs=[.int i,.int j]/\Q (.int (if j>i then j else i)) H):=by
  intro pins s σ H xs us Q I r h;obtain⟨i,j,rfl,q⟩:=h;obtain⟨u,w',rfl,⟨t,rfl⟩,⟨t',rfl⟩⟩:=vals2 r;refine max_two_ints (I.ok.hd hc) fun h' tk k=>⟨_,H,I.kept k,?_,q⟩;by_cases hj:j>i
  . rw[Yy hj,Yy hj];exact⟨_,rfl⟩
  . rw[Yx hj,Yx hj];exact⟨_,rfl⟩
theorem B0(hc:X.calm=true):m7 X (.builtin "min") (fun xs H Q=>∃ i j,xs=[.int i,.int j]/\Q (.int (if j<i then j else i)) H):=by
  intro pins s σ H xs us Q I r h;obtain⟨i,j,rfl,q⟩:=h;obtain⟨u,w',rfl,⟨t,rfl⟩,⟨t',rfl⟩⟩:=vals2 r;refine min_two_ints (I.ok.hd hc) fun h' tk k=>⟨_,H,I.kept k,?_,q⟩;by_cases hj:j<i
  . rw[Yy hj,Yy hj];exact⟨_,rfl⟩
  . rw[Yx hj,Yx hj];exact⟨_,rfl⟩
theorem uv:m7 X (.type "int") (fun xs H Q=>(∃ i,xs=[.int i]/\Q (.int i) H)\/∃ k,xs=[.bl k]/\Q (.int (if k then 1 else 0)) H):=by
  intro pins s σ H xs us Q I r h;rcases h with⟨i,rfl,q⟩ | ⟨k,rfl,q⟩
  . obtain⟨u,rfl,t,rfl⟩:=vals1 r;exact call_int_int ⟨.int i,H,I,⟨_,rfl⟩,q⟩
  . obtain⟨u,rfl,r1⟩:=vals1 r;cases r1;exact call_int_bool ⟨.int (if k then 1 else 0),H,I.tok _,⟨_,rfl⟩,q⟩
end
structure qN(h:Heap)(x dx C:Addr)(mA:Str->Option Value):Prop where
  obj:h.get? x=some (PySem.W.instObj C dx)
  ns:h.Ns1 dx mA
  ne:dx≠x
theorem B1{h:Heap}{dx:Addr}{mA:Str->Option Value}(n:h.Ns1 dx mA):∃ od,h.get? dx=some od/\∀ name,PySem.W.lookIn name od=some (mA name):=by
  obtain⟨o,es,ep,ho,hd,hk,_,hm⟩:=n;refine⟨o,ho,fun name=>?_⟩;have e:=hm name
  unfold nsFind findBy at e;rw[<- Array.find?_toList]at e;unfold PySem.W.lookIn;rw[hd];dsimp only;split
  . rename_i y q;rw[q]at e;exact Z9 some e
  . rename_i q;rw[q]at e;have a:es.toList.any (·.refKey)=false:=by
      rw[abL];intro y hy;obtain⟨z,t,RF⟩:=hk y (Array.mem_toList_iff.mp hy);simp[DictEntry.refKey,RF]
    have a':¬ es.toList.any (·.refKey)=true:=by rw[a];exact ZG
    rw[Yx a'];exact Z9 some e
theorem qN.look{h:Heap}{x dx C:Addr}{mA:Str->Option Value}(I:qN h x dx C mA):∃ od,PySem.W.InstAt h x (PySem.W.instObj C dx) C (some od)/\∀ name,PySem.W.lookIn name od=some (mA name) :=
  let ⟨od,ho,hl⟩:=B1 I.ns
  ⟨od,⟨I.obj,rfl,rfl,ho⟩,hl⟩
section
variable {prog:Program}{w:World}{A:Around}{E:Value->Shared->Prop}{s:Shared}{K:PySem.W.Frag}{x dx C f:Addr}{mA:Str->Option Value}{name:Str}{v:Value}
theorem get_map{expr:Bool}{Q:Value->Shared->Prop}(X:K.In s.heap)(I:qN s.heap x dx C mA)(hg:PySem.W.plainGet K C name=true)(hh:PySem.W.hasDictIn K C=true)
    (ha:PySem.W.findIn K (.ref C) name=some none) (hv:mA name=some v) (B2:PySem.W.handedIn v=true) (h:Q v { s with toks:=s.toks+1 }) :
    wpAny (model prog w) A (getAttr (.ref x) name expr) Q E s:=by
  obtain⟨od,J,hl⟩:=I.look;exact PySem.W.get_value X J (abo hg).1 (PySem.W.findObj_own hh ha rfl (by rw[hl,hv])) B2 h
theorem EB{pl:Sem Bool}{Q:Value×List Value->Shared->Prop}(X:K.In s.heap)(I:qN s.heap x dx C mA)(hg:PySem.W.plainGet K C name=true)
    (hf:PySem.W.findIn K (.ref C) name=some (some (.ref f))) (ht:PySem.W.isFn K (.ref f)=true) (hv:mA name=none) (h:Q (.ref f,[.ref x]) s) :
    wpAny (model prog w) A (getMethod (.ref x) name pl) Q E s:=by
  obtain⟨od,J,hl⟩:=I.look;exact PySem.W.method_fn X J (abo hg).1 (abo hg).2 hf (Y8.mp ht) (by show(PySem.W.lookIn name od).map (·.isSome)=some false;rw[hl,hv];rfl) h
theorem Iu{ns:List Str}{Q:Unit->Shared->Prop}(X:K.In s.heap)(I:qN s.heap x dx C mA)
    (hs:PySem.W.findIn K (.ref C) "__setattr__"=some (some (.builtin "object.__setattr__"))) (hp:PySem.W.plainOver K C=true) (ht:PySem.W.takerIn K C name=some none) (hh:PySem.W.hasDictIn K C=true)
    (hw:PySem.Within mA ns) (Gq:ns.length<=sizeLine)
    (h:∀ h',qN h' x dx C (fun y=>if y=name then some v else mA y)->Heap.SameBut dx s.heap h'->Q () { s with heap:=h',toks:=s.toks+2 }) :
    wpAny (model prog w) A (setAttr (.ref x) name v) Q E s:=by
  obtain⟨od,J,hl⟩:=I.look;refine PySem.W.set_plain X J hs (PySem.W.osa_open (s:={ s with toks:=s.toks+1 }) (r:=none) X J hp ht fun b=>?_);obtain⟨cd,hc,nU⟩:=PySem.W.any_some hh;have hx:s.heap.get? x=some ⟨.ref C,some dx,.plain,#[]⟩:=I.obj
  refine YE (Zb (YE (YE (wpAny_loadPart hx (YE (PySem.W.Looks.here (s:={ s with toks:=s.toks+1 }) (PySem.W.looks_clsIn X hc) ?_))))));rw[nU];refine Zb (a:=some dx) (YE (Zb (YE ?_)));refine wpAny_nsSet1 (s:={ s with toks:=s.toks+1 }) I.ns fun h' Gr B3=>?_;obtain⟨oD,X4,X5,TP,TQ,TR⟩:=Gr.count (PySem.Within.cons name v hw);refine YE (wpAny_lookBehind TP (by rw[TQ];exact pastItsLine_dict (YU TR (by rw[YS];omega))) ?_);exact Zb (h _ ⟨(B3.2 _ (ZC I.ne)).trans I.obj,Gr,I.ne⟩ B3)
theorem EC{R:Result->Shared->Prop}{vs:List Value}{kw:List (Str×Value)}(X:K.In s.heap)(hm:PySem.W.makesIn K C=true)
    (hi:PySem.W.findIn K (.ref C) "__init__"=some (some (.ref f))) (hf:PySem.W.typeIn K (.ref f)=some (.type "function"))
    (h:codeAny (model prog w) (A.under (.builtin "type.__call__" ⟨.ref C::vs,kw⟩)) (.call (.ref f) ⟨.ref (s.heap.objs.size+1)::vs,kw⟩) (PySem.W.InitBack (s.heap.objs.size+1) R)
      { s with heap:=(s.heap.push PySem.W.emptyDict).push (PySem.W.instObj C s.heap.objs.size) }) :
    codeAny (model prog w) A (.call (.ref C) ⟨vs,kw⟩) R s:=by
  obtain⟨hh,g,d,t,os⟩:=s;exact PySem.W.make_core (abT X hm) (aaE X hi) (fun self=>PySem.W.bind_fn X self hf) (.inl rfl) h
theorem B4{R:Result->Shared->Prop}(X:K.In s.heap)(hm:PySem.W.makesIn K C=true)
    (hi:PySem.W.findIn K (.ref C) "__init__"=some (some (.builtin "object.__init__")))
    (hb:∀ self,PySem.W.Looks (model prog w) s.heap (bindSpecial (.builtin "object.__init__") self) (.builtin "object.__init__",[self]))
    (h:codeAny (model prog w) (A.under (.builtin "type.__call__" ⟨[.ref C],[]⟩)) (.call (.builtin "object.__init__") ⟨[.ref (s.heap.objs.size+1)],[]⟩) (PySem.W.InitBack (s.heap.objs.size+1) R)
      { s with heap:=(s.heap.push PySem.W.emptyDict).push (PySem.W.instObj C s.heap.objs.size) }) :
    codeAny (model prog w) A (.call (.ref C) ⟨[],[]⟩) R s:=by
  obtain⟨hh,g,d,t,os⟩:=s;exact PySem.W.make_core (abT X hm) (aaE X hi) hb (.inr ⟨rfl,rfl⟩) h
end
noncomputable def ig(f:Str)(v:V):List (Str×V)->List (Str×V)
  | []=>[(f,v)]
  | (g,x)::r=>if g=f then (g,v)::r else (g,x)::ig f v r
theorem qd(f g:Str)(v:V):∀ fs:List (Str×V),(ig f v fs).lookup g=if g=f then some v else fs.lookup g
  | []=>by
    show List.lookup g [(f,v)]=_;by_cases h:g=f
    . have hb:(g == f)=true:=Y8.mpr h;simp only[List.lookup,hb,Yy h]
    . have hb:(g == f)=false:=aao.mpr h;simp only[List.lookup,hb,Yx h]
  | (k,x)::r=>by
    have ih:=qd f g v r;rw[show ig f v ((k,x)::r)=(if k=f then (k,v)::r else (k,x)::ig f v r) from rfl]
    by_cases hk:k=f
    . rw[Yy hk];by_cases h:g=k
      . have hb:(g == k)=true:=Y8.mpr h;simp only[List.lookup,hb,Yy (h.trans hk)]
      . have hb:(g == k)=false:=aao.mpr h;simp only[List.lookup,hb,Yx (fun e:g=f=>h (e.trans hk.symm))]
    . rw[Yx hk];by_cases h:g=k
      . have hb:(g == k)=true:=Y8.mpr h;simp only[List.lookup,hb,Yx (fun e:g=f=>hk (h.symm.trans e))]
      . have hb:(g == k)=false:=aao.mpr h;simp only[List.lookup,hb];exact ih
theorem ow(f:Str)(v:V):∀ fs:List (Str×V),f∈(ig f v fs).map (·.1)/\∀ g,g∈fs.map (·.1)->g∈(ig f v fs).map (·.1)
  | []=>⟨by simp[ig],fun g h=>by simp at h⟩
  | (k,x)::r=>by
    obtain⟨i1,i2⟩:=ow f v r;rw[show ig f v ((k,x)::r)=(if k=f then (k,v)::r else (k,x)::ig f v r) from rfl]
    by_cases hk:k=f
    . rw[Yy hk];subst hk;exact⟨by simp,fun g h=>by simpa using h⟩
    . rw[Yx hk];refine⟨?_,fun g h=>?_⟩
      . rw[Zn];exact YM _ i1
      . rw[Zn]at h ⊢;rcases Zm.mp h with e | e
        . exact Zm.mpr (.inl e)
        . exact YM _ (i2 g e)
theorem qe(f:Str)(v:V):∀ fs:List (Str×V),(ig f v fs).length<=fs.length+1
  | []=>by simp[ig]
  | (k,x)::r=>by
    have ih:=qe f v r;rw[show ig f v ((k,x)::r)=(if k=f then (k,v)::r else (k,x)::ig f v r) from rfl]
    by_cases hk:k=f
    . rw[Yy hk,YS,YS];omega
    . rw[Yx hk,YS,YS];omega
theorem mh.some_of{v:V}{o:Option Value}(r:mh (some v) o):∃ u,o=some u/\RelV v u:=by
  cases o with
  | none=>exact(show False from r).elim
  | some u=>exact⟨u,rfl,r⟩
theorem mh.none_of{o:Option Value}(r:mh none o):o=none:=by
  cases o with
  | none=>rfl
  | some u=>exact(show False from r).elim
theorem B5{v:V}{u:Value}(r:RelV v u):PySem.W.handedIn u=true:=by
  cases v with
  | bf=>cases (show u=Value.none from r);rfl
  | bl b=>cases (show u=Value.bool b from r);rfl
  | int i=>obtain⟨t,e⟩:=(show ∃ t,u=Value.int i t from r);cases e;rfl
  | str x=>obtain⟨t,e⟩:=(show ∃ t,u=Value.str x t from r);cases e;rfl
  | BP b=>obtain⟨t,e⟩:=(show ∃ t,u=Value.bytes b t from r);cases e;rfl
  | BQ b=>obtain⟨t,e⟩:=(show ∃ t,u=Value.float b t from r);cases e;rfl
  | ref a=>cases (show u=Value.ref a from r);rfl
  | ty n=>cases (show u=Value.type n from r);rfl
section
variable {P:Program}{w:World}{H H':Hp}{h h':Heap}{a C dx:Addr}{fs TL:List (Str×V)}
theorem tK(bQ:gi P w H h)(e:H a=some (.ins C dx fs)):∃ mA,qN h a dx C mA/\(∀ f,mh (fs.lookup f) (mA f))/\PySem.Within mA (fs.map (·.1))/\fs.length<=1000/\H dx=some (.own a):=by
  obtain⟨d,z,ne,ob,mA,n,r,q⟩:=(show fJ P w H h a (.ins C dx fs) from bQ a _ e)
  exact⟨mA,⟨ob,n,ne⟩,r,q,z,d⟩
end
structure iP(K:PySem.W.Frag)(C:Addr):Prop where
  pg:PySem.W.plainGet K C Str.empty=true
  hd:PySem.W.hasDictIn K C=true
  po:PySem.W.plainOver K C=true
  sa:PySem.W.findIn K (.ref C) "__setattr__"=some (some (.builtin "object.__setattr__"))
theorem iP.get{K:PySem.W.Frag}{C:Addr}(c:iP K C)(f:Str):PySem.W.plainGet K C f=true:=c.pg
def iQ(K:PySem.W.Frag)(C:Addr)(f:Str):Prop:=PySem.W.findIn K (.ref C) f=some none
theorem iQ.NX{K:PySem.W.Frag}{C:Addr}{f:Str}(n:iQ K C f):PySem.W.takerIn K C f=some none:=by
  unfold PySem.W.takerIn;rw[show PySem.W.findIn K (.ref C) f=some none from n]
  rfl
structure Meth(K:PySem.W.Frag)(C:Addr)(m:Str)(f:Addr):Prop where
  at_:PySem.W.findIn K (.ref C) m=some (some (.ref f))
  fn:PySem.W.isFn K (.ref f)=true
  kp:PySem.W.keepIn K (.ref f)=true
section
variable {X:Cx}{pins:List (Addr×Obj)}{σ:St}{H:Hp}{s:Shared}{a C dx:Addr}{fs:List (Str×V)}{f:Str}{v:V}{A:Around}{E:Value->Shared->Prop}
theorem AM{b:Bool}{Q:Value->Shared->Prop}(I:Inv X pins σ H s)(e:H a=some (.ins C dx fs))(c:iP X.K C)(n:iQ X.K C f)(l:fs.lookup f=some v)
    (h:∀ u s',Inv X pins σ H s'->RelV v u->Q u s'):wpAny (model X.prog X.w) A (getAttr (.ref a) f b) Q E s:=by
  obtain⟨mA,O,r,_,_,_⟩:=tK I.bQ e;obtain⟨u,hu,ru⟩:=mh.some_of (v:=v) (o:=mA f) (by rw[<- l];exact r f);exact get_map I.eT O (c.get f) c.hd n hu (B5 ru) (h u _ (I.tok _) ru)
theorem m8{m:Str}{g:Addr}{pl:Sem Bool}{Q:Value×List Value->Shared->Prop}(I:Inv X pins σ H s)(e:H a=some (.ins C dx fs))(c:iP X.K C)(k:Meth X.K C m g)(l:fs.lookup m=none)
    (h:Q (.ref g,[.ref a]) s):wpAny (model X.prog X.w) A (getMethod (.ref a) m pl) Q E s:=by
  obtain⟨mA,O,r,_,_,_⟩:=tK I.bQ e;have hn:mA m=none:=mh.none_of (by rw[<- l];exact r m)
  exact EB I.eT O (c.get m) k.at_ k.fn hn h
theorem AN{y:V}{u:Value}{Q:Unit->Shared->Prop}(I:Inv X pins σ H s)(e:H a=some (.ins C dx fs))(c:iP X.K C)(n:iQ X.K C f)(hl:fs.length<1000)(ry:RelV y u)
    (h:∀ s',Inv X pins σ (upd H a (.ins C dx (ig f y fs))) s'->Q () s'):wpAny (model X.prog X.w) A (setAttr (.ref a) f u) Q E s:=by
  obtain⟨mA,O,r,wi,_,ho⟩:=tK I.bQ e;have hz:(fs.map (·.1)).length<=sizeLine:=by rw[Zi,sizeLine_eq];omega
  refine Iu I.eT O c.sa c.po n.NX c.hd wi hz fun h' O' sb=>h _ ?_;have hd:∃ o,h'.get? dx=some o:=let ⟨o,_,_,e',_⟩:=O'.ns;⟨o,e'⟩
  refine I.write (x:=a) (e:=dx) (by rw[e];exact True.intro) (.inr ho) (fun b q hb z=>(sb.2 b hb).trans z) hd ?_;refine⟨by rw[bJ O.ne];exact ho,?_,O.ne,O'.obj,_,O'.ns,fun g=>?_,fun g hg=>?_⟩
  . have:=qe f y fs;omega
  . show mh ((ig f y fs).lookup g) (if g=f then some u else mA g);rw[qd];by_cases q:g=f
    . rw[Yy q,Yy q];exact ry
    . rw[Yx q,Yx q];exact r g
  . by_cases q:g=f
    . rw[q];exact(ow f y fs).1
    . refine(ow f y fs).2 g (wi g fun z=>hg ?_);show(if g=f then some u else mA g)=none
      rw[Yx q];exact z
theorem Inv.made(I:Inv X pins σ H s):Inv X pins σ (upd (upd H s.heap.objs.size (.own (s.heap.objs.size+1))) (s.heap.objs.size+1) (.ins C s.heap.objs.size []))
    { s with heap:=(s.heap.push PySem.W.emptyDict).push (PySem.W.instObj C s.heap.objs.size) }:=by
  have e1:(s.heap.push PySem.W.emptyDict).get? s.heap.objs.size=some PySem.W.emptyDict:=Y3 s.heap rfl;have e2:((s.heap.push PySem.W.emptyDict).push (PySem.W.instObj C s.heap.objs.size)).get? (s.heap.objs.size+1)=some (PySem.W.instObj C s.heap.objs.size):=by
    have:=Y3 (s.heap.push PySem.W.emptyDict) (o:=PySem.W.instObj C s.heap.objs.size) rfl
    rwa [abA]at this
  have e3:(s.heap.push PySem.W.emptyDict).Ns s.heap.objs.size (fun _=>none):=⟨PySem.W.emptyDict,#[],_,e1,rfl,(fun e he=>absurd he (by simp)),fun _=>rfl⟩;have I1:=I.laid (a:=s.heap.objs.size) (o:=.own (s.heap.objs.size+1)) (h':=s.heap.push PySem.W.emptyDict) (t':=s.toks) (fun b u q=>YK _ q) (YD _) ⟨_,e1⟩
  refine I1.laid (a:=s.heap.objs.size+1) (o:=.ins C s.heap.objs.size []) (t':=s.toks) (fun b u q=>YK _ q) (Nat.le_of_eq (abA _ _)) ?_;have ne:s.heap.objs.size≠s.heap.objs.size+1:=Zx (aaF _)
  refine⟨by rw[bJ ne,bU],aat _,ne,e2,fun _=>none,(Heap.Ns1.of_empty e3).at fun o q=>YK _ q,fun _=>True.intro,fun y hy=>absurd rfl hy⟩
theorem Iv{prog:Program}{w:World}{env:Env}{e:Expr}{f:Str}{pos:Pos}{s:Shared}{Q:Value->Shared->Prop}(hb:attributeBase e f env (eval e env)=eval e env)
    (h:wpAny (model prog w) A (eval e env) (fun o s₁=>wpAny (model prog w) A (getAttr o f true) Q E s₁) E s):wpAny (model prog w) A (eval (.Attribute e f pos) env) Q E s :=
  Attribute_any_ h (by rw[arm_eval_Attribute,hb])
end
structure cE(k:Nat)(A:Around):Prop where
  hd:A.handled=none
  dp:A.depth+3*k+5<recursionLimit
  un:A.units+16*k+200<cLine
theorem cE.mono{j k:Nat}{A:Around}(r:cE k A)(h:j<=k):cE j A:=⟨r.hd,by have:=r.dp;omega,by have:=r.un;omega⟩
theorem cE.deeper{k:Nat}{A:Around}(r:cE (k+1) A)(env:Env):cE k (A.deeper env) :=
  ⟨r.hd,by have:=r.dp;show A.depth+1+3*k+5<_;omega,by have:=r.un;show A.units+3+16*k+200<_;omega⟩
theorem cE.in1{k:Nat}{A:Around}(r:cE (k+1) A):cE k A.in1 :=
  ⟨r.hd,by have:=r.dp;show A.depth+3*k+5<_;omega,by have:=r.un;show A.units+1+16*k+200<_;omega⟩
theorem AO{A:Around}{C:Addr}{us:List Value}{kw:List (Str×Value)}:(A.under (.builtin "type.__call__" ⟨.ref C::us,kw⟩)).depth=A.depth+1:=by
  first | rfl | simp[Around.under,Code.weight,Code.isCreation,Code.isGuard,Code.isCaller,Code.frames,Code.isFrame,guardIds]
theorem AP{A:Around}{C:Addr}{us:List Value}{kw:List (Str×Value)}:(A.under (.builtin "type.__call__" ⟨.ref C::us,kw⟩)).units=A.units+1:=by
  first | rfl | simp[Around.under,Code.cUnits,Code.frames,Code.isFrame]
theorem cE.make{k:Nat}{A:Around}(r:cE (k+1) A)(C:Addr)(us:List Value)(kw:List (Str×Value)):cE k (A.under (.builtin "type.__call__" ⟨.ref C::us,kw⟩)) :=
  ⟨r.hd,by have:=r.dp;rw[AO];omega,by have:=r.un;rw[AP];omega⟩
theorem cE.depth{k:Nat}{A:Around}(r:cE k A):A.depth<recursionLimit:=by have:=r.dp;omega
theorem cE.units{k:Nat}{A:Around}(r:cE k A):A.units+64<cLine:=by have:=r.un;omega
abbrev Sp:=List V->Hp->VK->XK->Prop
abbrev rC:=List Env->Hp->Shared->XK->Value->Shared->Prop
structure mi(P:Program)(w:World)(K:PySem.W.Frag)(mg:Str->Option Value)(base:Heap)(A:Around)(outer:List Env)(s:Shared)(H:Hp):Prop where
  frames:A.frames=some outer
  mod:Mod K mg base
  bs:∀ b o,base.get? b=some o->s.heap.get? b=some o/\H b=none
  mx:base.objs.size<=s.heap.objs.size
  iG:s.heap.FunFrames base outer
  pZ:∀ b∈fq outer,H b=none
  bQ:gi P w H s.heap
  bare:AllBare s.gens
def CE(outer:List Env)(P:Program)(w:World)(H:Hp)(s:Shared)(Q:VK)(u:Value)(s':Shared):Prop :=
  ∃ v H',s'.os=s.os/\AllBare s'.gens/\Un (fq outer) [] H H' s.heap s'.heap/\gi P w H' s'.heap/\RelV v u/\Q v H'
def CR(CX:rC)(outer:List Env)(P:Program)(w:World)(H:Hp)(s:Shared)(Q:VK)(E:XK)(r:Result)(s':Shared):Prop :=
  match r with
  | .ok (.ret u)=>CE outer P w H s Q u s'
  | .ok _=>False
  | .error e=>CX outer H s E e s'
structure fO(P:Program)(w:World)(K:PySem.W.Frag)(mg:Str->Option Value)(base:Heap)(CX:rC)(k:Nat)(f:Addr)(fd:FuncData)(ps:List Str)(sp:Sp):Prop where
  len:∀ vs H Q E,sp vs H Q E->vs.length=ps.length
  run:∀(A:Around)(outer:List Env)(s:Shared)(H:Hp)(args:Args)(us:List Value)(vs:List V)(Q:VK)(E:XK),cE k A->mi P w K mg base A outer s H->BindsTo s fd args (ps.zip us)->Vals vs us->sp vs H Q E ->
    codeAny (model P w) A (.call (.ref f) args) (CR CX outer P w H s Q E) s
theorem fO.mono{P:Program}{w:World}{K:PySem.W.Frag}{mg:Str->Option Value}{base:Heap}{CX:rC}{j k:Nat}{f:Addr}{fd:FuncData}{ps:List Str}{sp:Sp}(F:fO P w K mg base CX j f fd ps sp)(h:j<=k) :
    fO P w K mg base CX k f fd ps sp:=⟨F.len,fun A outer s H args us vs Q E hr=>F.run A outer s H args us vs Q E (hr.mono h)⟩
theorem mi.make{P:Program}{w:World}{K:PySem.W.Frag}{mg:Str->Option Value}{base:Heap}{A:Around}{outer:List Env}{s:Shared}{H:Hp}(e:mi P w K mg base A outer s H)(C:Addr)(us:List Value)(kw:List (Str×Value)) :
    mi P w K mg base (A.under (.builtin "type.__call__" ⟨.ref C::us,kw⟩)) outer s H:=⟨by first | exact e.frames | (simpa [Around.under,Code.envs,Code.isFrame,pushEnvs]using e.frames),e.mod,e.bs,e.mx,e.iG,e.pZ,e.bQ,e.bare⟩
theorem mi.in1{P:Program}{w:World}{K:PySem.W.Frag}{mg:Str->Option Value}{base:Heap}{A:Around}{outer:List Env}{s:Shared}{H:Hp}(e:mi P w K mg base A outer s H) :
    mi P w K mg base A.in1 outer s H:=⟨e.frames,e.mod,e.bs,e.mx,e.iG,e.pZ,e.bQ,e.bare⟩
section
variable {X:Cx}{pins:List (Addr×Obj)}{σ:St}{H:Hp}{s s':Shared}
theorem Inv.qO(I:Inv X pins σ H s):mi X.prog X.w X.K X.mg X.base X.A X.stack s H :=
  ⟨I.ok.frames,I.ok.mod,I.bs,YU I.ok.mx I.sz,I.stack,I.pJ,I.bQ,I.bare⟩
theorem Inv.after{Q:VK}{u:Value}(I:Inv X pins σ H s)(h:CE X.stack X.prog X.w H s Q u s'):EP X pins σ Q u s':=by
  obtain⟨v,H',os,bare,un,bQ,r,q⟩:=h;obtain⟨hh,g,d,t,TU⟩:=s';obtain rfl:TU=s.os:=os;exact⟨v,H',I.call (h':=hh) (g':=g) (d':=d) (t':=t) (ch:=[]) un bQ bare (fun b z=>absurd z (by simp)),r,q⟩
end
def Binds(K:PySem.W.Frag)(fd:FuncData)(ps:List Str)(ds:List Value):Prop :=
  ∀(s:Shared)(us:List Value),K.In s.heap->(us++ds).length=ps.length->BindsTo s fd ⟨us,[]⟩ (ps.zip (us++ds))
theorem Binds.all{K:PySem.W.Frag}{fd:FuncData}{ps:List Str}(h:∀ us:List Value,us.length=ps.length->bindArgs fd ⟨us,[]⟩=pure (ps.zip us)):Binds K fd ps []:=fun s us _ hl=>by
  rw[Ze]at hl ⊢;exact .of_eq (h us hl)
section
variable {X:Cx}{CX:rC}{k:Nat}{f C:Addr}{fd:FuncData}{ps:List Str}{sp:Sp}{uw:List V}{ds:List Value}{E:XK}{x m:Str}{p pos apos:Pos}{e o:Expr}{es:List Expr}{ta:TE}{t:TA}
structure Mk(K:PySem.W.Frag)(C f:Addr):Prop where
  makes:PySem.W.makesIn K C=true
  init:PySem.W.findIn K (.ref C) "__init__"=some (some (.ref f))
  fn:PySem.W.isFn K (.ref f)=true
  kp:PySem.W.keepIn K (.ref C)=true
end
structure fD(N P:List Str)(sc:Scope):Prop where
  kind:sc.kind=.function
  co:sc.isCoroutine=false
  gen:sc.isGenerator=false
  nd:N.Nodup
  pre:N.take P.length=P
  par:∀ x∈P,sc.names.lookup x=some .local\/sc.names.lookup x=some .cell
  JY:∀ y∈sc.names,y.2≠.free
theorem ux{kindOf:Str->Option NameKind}{x:Str}:∀{binds:List (Str×Value)}{m:Str->Option Value},(∀ v,(x,v) ∉ binds)->bindL kindOf binds m x=m x
  | [],_,_=>rfl
  | (n,v)::r,m,h=>by
    unfold bindL;rw[ux fun w hw=>h w (YM _ hw)];split
    . have:x≠n:=by rintro rfl;exact h v YW
      simp[this]
    . rfl
theorem uy{kindOf:Str->Option NameKind}{x:Str}:∀{binds:List (Str×Value)}{m:Str->Option Value},(∀ v,(x,v) ∉ binds)->bindC kindOf binds m x=m x
  | [],_,_=>rfl
  | (n,v)::r,m,h=>by
    unfold bindC;rw[uy fun w hw=>h w (YM _ hw)];split
    . rfl
    . have:x≠n:=by rintro rfl;exact h v YW
      simp[this]
theorem uz{kindOf:Str->Option NameKind}{x:Str}{v:Value}:∀{P:List Str}{vs:List Value}{i:Nat}{m:Str->Option Value},P.Nodup->P[i]?=some x->vs[i]?=some v->kindOf x=some .local ->
    bindL kindOf (P.zip vs) m x=some v
  | [],_,_,_,_,h,_,_=>by simp at h
  | _::_,[],_,_,_,_,h,_=>by simp at h
  | p::P,w::vs,0,m,nd,h1,h2,hk=>by
    simp at h1 h2;subst h1;subst h2;show bindL kindOf ((p,w)::P.zip vs) m p=_
    unfold bindL;rw[ux fun v hv=>(Z2.mp nd).1 (ab9 hv).1,Yy hk];simp
  | p::P,w::vs,i+1,m,nd,h1,h2,hk=>by
    show bindL kindOf ((p,w)::P.zip vs) m x=_;unfold bindL;exact uz (i:=i) (Z2.mp nd).2 (by simpa using h1) (by simpa using h2) hk
theorem uA{kindOf:Str->Option NameKind}{x:Str}{v:Value}:∀{P:List Str}{vs:List Value}{i:Nat}{m:Str->Option Value},P.Nodup->P[i]?=some x->vs[i]?=some v->kindOf x≠some .local ->
    bindC kindOf (P.zip vs) m x=some v
  | [],_,_,_,_,h,_,_=>by simp at h
  | _::_,[],_,_,_,_,h,_=>by simp at h
  | p::P,w::vs,0,m,nd,h1,h2,hk=>by
    simp at h1 h2;subst h1;subst h2;show bindC kindOf ((p,w)::P.zip vs) m p=_
    unfold bindC;rw[uy fun v hv=>(Z2.mp nd).1 (ab9 hv).1,Yx hk];simp
  | p::P,w::vs,i+1,m,nd,h1,h2,hk=>by
    show bindC kindOf ((p,w)::P.zip vs) m x=_;unfold bindC;exact uA (i:=i) (Z2.mp nd).2 (by simpa using h1) (by simpa using h2) hk
noncomputable def start(N:List Str)(vs:List V):St:=vs.map some++List.replicate (N.length - vs.length) none
noncomputable def tL(CX:rC)(P:Program)(w:World)(K:PySem.W.Frag)(mg:Str->Option Value)(base:Heap)(N:List Str)(qual:Str)(scope:Scope)(f:Addr)(cd:Value)(A:Around)(outer:List Env)(s:Shared)(H:Hp)(E:XK):Cx where
  prog:=P
  w:=w
  K:=K
  mg:=mg
  base:=base
  A:=A.deeper (envOfC qual scope s.heap.objs.size f cd)
  N:=N
  s₀:=s
  H₀:=H
  env:=envOfC qual scope s.heap.objs.size f cd
  outer:=outer
  stack:=envOfC qual scope s.heap.objs.size f cd::outer
  ex:=[]
  calm:=true
  fn:=fun _=>true
  pn:=[]
  xe:=fun e s'=>wpAny (model P w) (A.deeper (envOfC qual scope s.heap.objs.size f cd)) (leaving (envOfC qual scope s.heap.objs.size f cd) e) (fun _ B6=>CX outer H s E e B6) (fun e' B6=>CX outer H s E e' B6) s'
theorem vW{sc:Scope}{n:Nat}{x:Str}(h:sc.names.lookup x=some .cell):∃ c,(cellsFrom n sc.names []).lookup x=some c:=by
  have q:=ace sc.names n [] (.inl h);exact abU.mp q
theorem B7{CX:rC}{P:Program}{w:World}{K:PySem.W.Frag}{mg:Str->Option Value}{base:Heap}{N ps:List Str}{qual:Str}{scope:Scope}{f:Addr}{cd:Value}{A:Around}{outer:List Env}{s s1:Shared}{H:Hp}{E:XK}{us:List Value}{vs:List V}
    (S:fD N ps scope) (hd:A.handled=none) (e0:mi P w K mg base A outer s H) (hl:vs.length=ps.length) (r:Vals vs us)
    (x:InCallC s s.heap.objs.size (bindL (envOfC qual scope s.heap.objs.size f cd).kindOf (ps.zip us) fun _=>none) (cellsFrom (s.heap.objs.size+1) scope.names []) (bindC (envOfC qual scope s.heap.objs.size f cd).kindOf (ps.zip us) fun _=>none) s1) :
    Inv (tL CX P w K mg base N qual scope f cd A outer s H E) [] (start N vs) H s1:=by
  have eC:ps.length<=N.length:=by have:=Z9 List.length S.pre;rw[aa1]at this;omega
  obtain⟨h1,tk,rfl,hk⟩:=x.done;have B8:∀ b:Addr,b ∉ (tL CX P w K mg base N qual scope f cd A outer s H E).ex:=fun b z=>absurd (show b∈([]:List Addr) from z) (by simp)
  refine⟨⟨e0.mod,S.kind,rfl,rfl,YD _,fun y z c h1 h2=>?_,fun y hy=>?_,fun y c _ h=>?_,fun _=>hd,Around.frames_deeper e0.frames,.inr ⟨rfl,rfl⟩,fun b z=>absurd z (B8 b),e0.bs,e0.mx,fun b _ _=>B8 b,fun b z=>absurd z (B8 b),e0.iG,e0.pZ⟩,
    rfl,e0.bare,Un.kept hk,⟨_,x.toInCall.ns,fun i y v h1 h2 h3=>?_⟩,fun y c h=>⟨_,x.cell y c h⟩,e0.bQ.fresh (YD _),fun y c h=>?_,fun p hp=>absurd (show p∈([]:List (Addr×Obj)) from hp) (by simp),e0.bQ.kept hk,?_⟩
  . exact name_of_addr x.apart (aap h1) (aap h2)
  . have hy:scope.names.lookup y=some .cell\/scope.names.lookup y=some .free:=hy;rcases hy with hy | hy
    . exact vW hy
    . exact absurd rfl (S.JY _ (aap hy))
  . exact adp (x.above y c (aap h))
  . have hi:i<vs.length:=by
      unfold start at h2;by_cases hi:i<vs.length
      . exact hi
      . rw[Y6 (by simpa using hi)]at h2;rw[aaX]at h2;split at h2<;>cases h2
    have ha:vs[i]?=some v:=by
      unfold start at h2;rw[YQ (by simpa using hi),ZL]at h2;cases e:vs[i]? with
      | none=>rw[e]at h2;cases h2
      | some a=>rw[e]at h2;cases h2;rfl
    obtain⟨u,hu,rv⟩:=r.get ha;have hp:ps[i]?=some y:=by
      rw[<- S.pre,abV (by omega)];exact h1
    have OK:ps.Nodup:=by rw[<- S.pre];exact S.nd.sublist (List.take_sublist _ _)
    refine⟨u,rv,?_⟩;rcases S.par y (aai hp)with k | k
    . exact .inl ⟨k,uz OK hp hu k⟩
    . obtain⟨c,e⟩:=vW (n:=s.heap.objs.size+1) k;refine .inr ⟨.inl k,c,e,?_⟩;have q:=x.cell y c e
      rw[uA OK hp hu (by show scope.names.lookup y≠_;rw[k];decide)]at q;exact q
  . exact e0.bQ.fresh (adp (x.above y c (aap h)))
  . unfold start;show _=N.length
    rw[Zt,Zi,List.length_replicate];omega
theorem AQ{CX:rC}{P:Program}{w:World}{K:PySem.W.Frag}{mg:Str->Option Value}{base:Heap}{k:Nat}{f:Addr}{name qual:Str}{params:Arguments}{body:List Stmt}{scope:Scope}{dV kV doc pm aU ct oc:Value}{an od:Option Addr}
    {fM:Array (Option Value)}{N ps:List Str}{sp:Sp} (lk:K.lookup f=some ⟨oc,od,.func (PySem.W.fnOf name qual params body scope dV kV doc pm an aU ct),fM⟩) (ey:PySem.W.codeIn K aU qual=true) (S:fD N ps scope)
    (len:∀ vs H Q E,sp vs H Q E->vs.length=ps.length)
    (eG:∀(A:Around)(outer:List Env)(s:Shared)(H:Hp)(vs:List V)(Q:VK)(E:XK),cE k (A.deeper (envOfC qual scope s.heap.objs.size f aU))->sp vs H Q E ->
      ∃ t,TM (tL CX P w K mg base N qual scope f aU A outer s H E) body t/\t { nx:=fun _ H'=>Q .bf H',rt:=Q } (start N vs) H) :
    fO P w K mg base CX (k+1) f (PySem.W.fnOf name qual params body scope dV kV doc pm an aU ct) ps sp:=by
  refine⟨len,fun A outer s H args us vs Q E hr e0 hb r hG=>?_⟩;have hl:=len _ _ _ _ hG
  have KX:K.In s.heap:=e0.mod.ot.keeps fun b o e=>(e0.bs b o e).1;have lim:s.heap.NoLimit:=e0.mod.nolimit.keeps fun b o e=>(e0.bs b o e).1
  have rD:∀ y∈ps.zip us,scope.names.lookup y.1=some .local\/(scope.names.lookup y.1=some .cell/\((cellsFrom (s.heap.objs.size+1) scope.names []).lookup y.1).isSome=true):=fun⟨n,v⟩ hy=>by
    rcases S.par n (ab9 hy).1 with q | q
    . exact .inl q
    . exact .inr ⟨q,ace _ _ _ (.inl q)⟩
  refine codeAny_call_function hr.depth (KX _ _ lk) rfl S.co S.gen rfl (PySem.W.codeRec_of KX ey) (hb _ _ _ _ ?_);refine wpAny_newFunctionEnv_cells S.kind rD fun env he s1 x=>?_;subst he;refine⟨lim.keeps x.toInCall.keep,codeAny_func ?_⟩;obtain⟨t,ht,hq⟩:=eG A outer s H vs Q E (hr.deeper _) hG;have I:Inv (tL CX P w K mg base N qual scope f aU A outer s H E) [] (start N vs) H s1:=B7 S hr.hd e0 hl r x
  refine YA (ht [] s1 (start N vs) H _ I hq) (fun fl s' hs=>?_) fun e s' hs=>hs;have fin:∀{σ':St}{H':Hp}{v:V}{u:Value},Inv (tL CX P w K mg base N qual scope f aU A outer s H E) [] σ' H' s'->RelV v u->Q v H'->CE outer P w H s Q u s' :=
    fun{σ' H' v u} J rv q=>⟨v,H',J.os,J.bare,J.base,J.bQ,rv,q⟩
  cases fl with
  | ret u =>
    obtain⟨v,σ',H',J,rv,q⟩:=hs;exact fin J rv q
  | next =>
    obtain⟨σ',H',J,q⟩:=hs;exact fin (v:=V.bf) (u:=Value.none) J rfl q
  | brk =>
    obtain⟨_,_,_,q⟩:=hs;exact False.elim q
  | cont =>
    obtain⟨_,_,_,q⟩:=hs;exact False.elim q
end L2
namespace HT
open PySem PyProof.Rows
section
variable {prog:Program}{w:World}{A:Around}{E:Value->Shared->Prop}{s:Shared}
theorem Iw{t b:Addr}{vs ws:List Value}{Q:Value->Shared->Prop}(ht:IsTup s.heap t vs.toArray)(hb:IsTup s.heap b ws.toArray)(hv:vs≠[])
    (h1:ws=[]->Q (.ref t) s) (h2:ws≠[]->Q (.ref s.heap.objs.size) { s with heap:=s.heap.push { cls:=.type "tuple",data:=.seq (vs++ws).toArray } })
    (Gq:vs.length+ws.length<=sizeLine):wpAny (model prog w) A (binaryOp .Add (.ref t) (.ref b)) Q E s:=by
  obtain⟨⟨cls,dd,data,sl⟩,ho,hc,n,hd⟩:=id ht;obtain⟨⟨RG,Gs,data2,Gu⟩,rE,B9,n2,hd2⟩:=id hb;simp only at hc hd B9 hd2;subst hc hd B9 hd2;have e:vs.toArray++ws.toArray=(vs++ws).toArray:=by simp
  by_cases hw:ws=[]
  . exact concat_meets ⟨_,ho,rfl⟩ ⟨_,rE,rfl⟩ noFill_tuple_add seq_tuple_add acf ab8 (abW _ _)
      (tuple_addW1 t b vs.toArray ws.toArray n n2 dd Gs sl Gu (by simpa using hv) (by simp[hw])) ⟨ho,rE,h1 hw⟩
  . refine concat_meets ⟨_,ho,rfl⟩ ⟨_,rE,rfl⟩ noFill_tuple_add seq_tuple_add acf ab8 (abW _ _)
      (tuple_addW2 t b vs.toArray ws.toArray n n2 dd Gs sl Gu (by simpa using hv) (by simpa using hw) (by rw[YN,YN];exact Gq)) ⟨ho,rE,?_⟩
    rw[e];exact h2 hw
noncomputable def kZ(n d:Nat):Option Int->Nat
  | none=>d
  | some v=>if v<0 then (v+(n:Int)).toNat else min v.toNat n
end
end HT
namespace L2
open PySem PySem.Spec PyProof.Rows
abbrev TO:=St->Hp->(Option Int->Hp->Prop)->Prop
section
variable {X:Cx}{e:Expr}{te:TE}{lo hi:Option Expr}{tl th:TO}{pos p2:Pos}
def TV(X:Cx)(r:V->Option Int->Option Int->Hp->VK->Prop):Prop :=
  ∀(pins:List (Addr×Obj))(s:Shared)(σ:St)(H:Hp)(x:V)(v vl vu:Value)(lo hi:Option Int)(sl:Addr)(Q:VK),Inv X pins σ H s->RelV x v->s.heap.IsSliceOf sl vl vu .none->IsPart vl lo->IsPart vu hi->r x lo hi H Q ->
    ∃ T id,typeLookup (.type T) "__getitem__"=pure (some (.builtin id))/\s.TypeIs v T/\wpAny (model X.prog X.w) X.A (getItem v (.ref sl)) (EP X pins σ Q) X.xe s
noncomputable def tM(xs:List V)(lo hi:Option Int):List V:=(xs.drop (HT.kZ xs.length 0 lo)).take (HT.kZ xs.length xs.length hi - HT.kZ xs.length 0 lo)
theorem yo(xs:List V)(lo hi:Option Int):(tM xs lo hi).length<=xs.length:=by
  unfold tM;rw[aa1,aa2];omega
end
noncomputable def qf(n:Nat)(i:Int):Option Nat:=if 0<=i then (if i<n then some i.toNat else none) else if -(n:Int)<=i then some (i+n).toNat else none
noncomputable def oy{α:Type}(xs:List α)(i:Int):Option α:=(qf xs.length i).bind fun j=>xs[j]?
theorem yG{n:Nat}{i:Int}{j:Nat}(h:qf n i=some j):seqIndex? i n=some j/\j<n/\-(n:Int)<=i/\i<n:=by
  unfold qf at h;by_cases h0:0<=i
  . rw[Yy h0]at h;by_cases h1:i<n
    . rw[Yy h1]at h;have e:i.toNat=j:=Zr h
      exact⟨by rw[seqIndex_of h0 h1,e],by omega,by omega,h1⟩
    . rw[Yx h1]at h;cases h
  . rw[Yx h0]at h;by_cases h1 : -(n:Int)<=i
    . rw[Yy h1]at h;have e:(i+n).toNat=j:=Zr h
      exact⟨by rw[seqIndex_neg (by omega) h1,e],by omega,h1,by omega⟩
    . rw[Yx h1]at h;cases h
theorem tN{α:Type}{xs:List α}{i:Int}{v:α}(h:oy xs i=some v):∃ j,seqIndex? i xs.length=some j/\xs[j]?=some v/\j<xs.length/\-(xs.length:Int)<=i/\i<xs.length:=by
  unfold oy at h;cases e:qf xs.length i with
  | none=>rw[e]at h;cases h
  | some j =>
    rw[e]at h;obtain⟨h1,h2,h3,h4⟩:=yG e;exact⟨j,h1,h,h2,h3,h4⟩
def tO(b:Expr):Prop:=∀ o i,subscripted b false o i=operate [o,i] (getItem o i)
def JZ(X:Cx)(r:R2):Prop :=
  ∀(value slice:Expr)(pins:List (Addr×Obj))(s:Shared)(σ:St)(H:Hp)(x y:V)(v u:Value)(Q:VK),Inv X pins σ H s->RelV x v->RelV y u->r x y H Q ->
    subscripted slice false v u=operate [v,u] (getItem v u)->wpAny (model X.prog X.w) X.A (subscriptTail value slice v u) (EP X pins σ Q) X.xe s
section
variable {X:Cx}{a b:Expr}{ta tb:TE}{pos:Pos}
def RH(K:PySem.W.Frag):R2:=fun x y H Q=>∃ p xs i v,x=.ref p/\y=.int i/\f7 K H p xs/\oy xs i=some v/\Q v H
def RI(K:PySem.W.Frag):R2:=fun x y H Q=>∃ p xs i v,x=.ref p/\y=.int i/\jk K H p xs/\oy xs i=some v/\Q v H
def RJ:R2:=fun x y H Q=>∃ z i c,x=.str z/\y=.int i/\z.length<=sizeLine/\oy z.cps.toList i=some c/\Q (.str ⟨#[c]⟩) H
theorem tP:JZ X (RH X.K):=by
  intro value slice pins s σ H x y v u Q I rx ry h hs;obtain⟨p,xs,i,z,rfl,rfl,hq,he,q⟩:=h;cases rx;obtain⟨t,rfl⟩:=ry;obtain⟨its,r,pl,hz⟩:=I.list hq;obtain⟨j,h1,h2,h3,h4,h5⟩:=tN he;obtain⟨w,ew,vX⟩:=r.get h2;have hl:=r.length
  have hn:=my;have fin:EP X pins σ Q w s:=⟨z,H,I,vX,q⟩
  by_cases h0:0<=i
  . have hj:i.toNat=j:=by
      rw[seqIndex_of h0 h5]at h1;exact Zr h1
    exact item_listR pl.isList h0 (by omega) (by rw[hj];simpa using ew) fin hs
  . have hj:(i+(its.toArray.size:Int)).toNat=j:=by
      rw[seqIndex_neg (by omega) h4]at h1;rw[YN,<- hl];exact Zr h1
    exact subscriptTail_builtinR (x:=w) pl.isList.typeIs slot_list_getitem.lookup
      (wpAny_getItem_list_neg (Q:=fun r s'=>r=w/\EP X pins σ Q r s') pl.isList (by omega) (by rw[YN]<;>omega) (by omega) (by rw[hj];simpa using ew) ⟨rfl,fin⟩) hs
theorem Ca:JZ X (RI X.K):=by
  intro value slice pins s σ H x y v u Q I rx ry h hs;obtain⟨p,xs,i,z,rfl,rfl,hq,he,q⟩:=h;cases rx;obtain⟨t,rfl⟩:=ry;obtain⟨its,r,pl,hz⟩:=I.tuple hq;obtain⟨j,h1,h2,h3,h4,h5⟩:=tN he;obtain⟨w,ew,vX⟩:=r.get h2;have hl:=r.length
  have hn:=my;have fin:EP X pins σ Q w s:=⟨z,H,I,vX,q⟩
  exact subscriptTail_builtinR (x:=w) pl.typeIs slot_tuple_getitem.lookup
    (getItem_tuple (j:=j) (Q:=fun r s'=>r=w/\EP X pins σ Q r s') pl (by omega) (by omega) (by rw[YN,<- hl];exact h1) (by simpa using ew) ⟨rfl,fin⟩) hs
theorem Cb:JZ X RJ:=by
  intro value slice pins s σ H x y v u Q I rx ry h hs;obtain⟨z,i,c,rfl,rfl,hz,he,q⟩:=h;obtain⟨t,rfl⟩:=rx;obtain⟨t',rfl⟩:=ry;obtain⟨j,h1,h2,h3,h4,h5⟩:=tN he;have hl:z.cps.toList.length=z.length:=by simp[Str.length]
  rw[hl]at h1 h4 h5;have hn:=my
  exact tail_any (aaU s z t) slot_str_getitem.lookup (getItem_str (c:=c) (by
    have e1:decide (i < -(2 ^ 63:Int))=false:=YG (by omega);have e2:decide (i ≥ 2 ^ 63)=false:=YG (by omega)
    rw[e1,e2,abG]) (by rw[h1];simpa using h2) ⟨.str ⟨#[c]⟩,H,I.tok _,⟨_,rfl⟩,q⟩) hs
theorem AR(its:List Value)(n j:Nat)(u:Value):Obj.mapSeq (·.setIfInBounds j u) { cls:=.type "list",data:=.seq its.toArray n }={ cls:=.type "list",data:=.seq (its.set j u).toArray n }:=by
  simp[Obj.mapSeq]
theorem Inv.lst{pins:List (Addr×Obj)}{σ:St}{H:Hp}{s:Shared}{p:Addr}{xs:List V}(I:Inv X pins σ H s)(h:H p=some (.lst xs)) :
    ∃(its:List Value)(n:Nat),Vals xs its/\s.heap.get? p=some { cls:=.type "list",data:=.seq its.toArray n }/\xs.length<=sizeLine:=by
  obtain⟨z,its,n,r,e⟩:=I.bQ p _ h;exact⟨its,n,r,e,z⟩
theorem Inv.J0{pins:List (Addr×Obj)}{σ:St}{H:Hp}{s:Shared}{p:Addr}{xs ys:List V}{its its':List Value}{n n':Nat}{f:Obj->Obj}(I:Inv X pins σ H s)(h:H p=some (.lst xs))
    (ho:s.heap.get? p=some { cls:=.type "list",data:=.seq its.toArray n }) (hf:f { cls:=.type "list",data:=.seq its.toArray n }={ cls:=.type "list",data:=.seq its'.toArray n' }) (r:Vals ys its') (hz:ys.length<=sizeLine) (t:Nat) :
    Inv X pins σ (upd H p (.lst ys)) { s with heap:=s.heap.update p f,toks:=t }:=by
  have e:(s.heap.update p f).get? p=some { cls:=.type "list",data:=.seq its'.toArray n' }:=by
    rw[aa4 f ho (by rw[hf]<;>rfl),hf]
  refine I.write (x:=p) (e:=p) (by rw[h];trivial) (.inl rfl) (fun b u hb q=>(aau _ _ (ZC hb)).trans q) ⟨_,e⟩ ?_;exact⟨hz,its',n',r,e⟩
def NY:V->V->V->Hp->(Hp->Prop)->Prop:=fun o i v H Q=>∃ p xs k j,o=.ref p/\i=.int k/\H p=some (.lst xs)/\qf xs.length k=some j/\Q (upd H p (.lst (xs.set j v)))
theorem set_list:RE X NY:=by
  intro pins s σ H o i v ov iv u Q I ro ri rv h;obtain⟨p,xs,k,j,rfl,rfl,hp,hj,q⟩:=h;cases ro;obtain⟨t,rfl⟩:=ri;obtain⟨its,n,r,ho,hz⟩:=I.lst hp;obtain⟨h1,h2,h3,h4⟩:=yG hj;have hl:=r.length
  have hn:=my;have I':Inv X pins σ (upd H p (.lst (xs.set j v))) { s with heap:=s.heap.update p (Obj.mapSeq (·.setIfInBounds j u)) } :=
    I.J0 hp ho (AR its n j u) (r.set rv j) (by rw[abb];exact hz) s.toks
  by_cases h0:0<=k
  . have hk:k.toNat=j:=by
      rw[seqIndex_of h0 h4]at h1;exact Zr h1
    exact PySem.W.ki_setAt ho h0 (by omega) (by rw[YN,<- hl];exact h4) (by rw[hk];exact⟨_,I',q⟩)
  . have hk:(k+(its.toArray.size:Int)).toNat=j:=by
      rw[seqIndex_neg (by omega) h3]at h1;rw[YN,<- hl];exact Zr h1
    exact PySem.W.ki_setBack ho (by omega) (by rw[YN,<- hl];exact h3) (by omega) (by rw[hk];exact⟨_,I',q⟩)
theorem vY(lo hi:Option Int)(n:Nat):(sliceBounds lo hi none n).1=((HT.kZ n 0 lo:Nat):Int)/\(sliceBounds lo hi none n).2.1=((HT.kZ n n hi:Nat):Int)/\(sliceBounds lo hi none n).2.2=1:=by
  refine⟨?_,?_,rfl⟩
  . cases lo with
    | none=>simp[sliceBounds,HT.kZ]
    | some i =>
      simp only[sliceBounds,HT.kZ,Option.getD_none,show(1:Int)>0 by decide,Y4]
      by_cases h:i<0
      . simp only[h,Y4]<;>omega
      . simp only[h,Y2]<;>omega
  . cases hi with
    | none=>simp[sliceBounds,HT.kZ]
    | some i =>
      simp only[sliceBounds,HT.kZ,Option.getD_none,show(1:Int)>0 by decide,Y4]
      by_cases h:i<0
      . simp only[h,Y4]<;>omega
      . simp only[h,Y2]<;>omega
theorem vE(its:List Value)(lo hi:Option Int):slicePick its.toArray lo hi none=((its.drop (HT.kZ its.length 0 lo)).take (HT.kZ its.length its.length hi - HT.kZ its.length 0 lo)).toArray:=by
  obtain⟨h1,h2,h3⟩:=vY lo hi its.toArray.size;unfold slicePick;rw[h1,h2,h3];simp only[sliceRange_one,pick_run,YN]<;>rfl
def RK(K:PySem.W.Frag):V->Option Int->Option Int->Hp->VK->Prop:=fun x lo hi H Q=>∃ a xs,x=.ref a/\f7 K H a xs/\∀ p,H p=none->Q (.ref p) (upd H p (.lst (tM xs lo hi)))
theorem Iy:TV X (RK X.K):=by
  intro pins s σ H x v vl vu lo hi sl Q I rx hs pl pu h;obtain⟨a,xs,rfl,hx,q⟩:=h;cases rx;obtain⟨its,r,ht,hz⟩:=I.list hx;have hlen:=r.length
  refine⟨"list",_,slot_list_getitem.lookup,ht.isList.typeIs,?_⟩;refine wpAny_getItem_list_slice ht.isList hs pl pu .none (by simp) ?_ (by rw[YN]<;>omega)
  rw[vE,<- hlen];refine⟨.ref s.heap.objs.size,_,I.laid (t':=s.toks) (o:=.lst (tM xs lo hi)) (fun b ob q=>YK _ q) (YD _) ?_,rfl,q _ (I.bQ.fresh (YD _))⟩;exact⟨YU (yo xs lo hi) hz,_,0,(r.drop (HT.kZ xs.length 0 lo)).take (HT.kZ xs.length xs.length hi - HT.kZ xs.length 0 lo),Y3 _ rfl⟩
noncomputable def jZ:V->Bool
  | .bf=>true
  | .bl _=>true
  | .int _=>true
  | .str _=>true
  | _=>false
noncomputable def qg:V->V->Bool
  | .bf,.bf=>true
  | .bl a,.bl b=>a == b
  | .bl a,.int b=>(if a then 1 else 0) == b
  | .int a,.bl b=>a ==(if b then 1 else 0)
  | .int a,.int b=>a == b
  | .str a,.str b=>a == b
  | _,_=>false
theorem J1{A:Around}{s:Shared}{y x:V}{u v:Value}(ry:RelV y u)(rx:RelV x v)(fy:jZ y=true)(fx:jZ x=true):SeqAt.EqAt A s u v (qg y x):=by
  cases y with
  | bf =>
    cases ry;cases x with
    | bf=>cases rx;exact aaL _
    | bl b=>cases rx;exact abc b
    | int b=>obtain⟨t,rfl⟩:=rx;exact abp b t
    | str b=>obtain⟨t,rfl⟩:=rx;exact abq b t
    | _=>exact absurd (show false=true from fx) ZG
  | bl a =>
    cases ry;cases x with
    | bf=>cases rx;exact abd a
    | bl b=>cases rx;exact abe a b
    | int b=>obtain⟨t,rfl⟩:=rx;exact abr a b t
    | str b=>obtain⟨t,rfl⟩:=rx;exact abt a b t
    | _=>exact absurd (show false=true from fx) ZG
  | int a =>
    obtain⟨t',rfl⟩:=ry;cases x with
    | bf=>cases rx;exact abu a t'
    | bl b=>cases rx;exact abv a t' b
    | int b=>obtain⟨t,rfl⟩:=rx;exact abD a t' b t
    | str b=>obtain⟨t,rfl⟩:=rx;exact aaO a t' b t
    | _=>exact absurd (show false=true from fx) ZG
  | str a =>
    obtain⟨t',rfl⟩:=ry;cases x with
    | bf=>cases rx;exact abw a t'
    | bl b=>cases rx;exact abx a t' b
    | int b=>obtain⟨t,rfl⟩:=rx;exact aaP a t' b t
    | str b=>obtain⟨t,rfl⟩:=rx;exact abE a t' b t
    | _=>exact absurd (show false=true from fx) ZG
  | _=>exact absurd (show false=true from fy) ZG
noncomputable def k6(x:V)(u:Value):Bool:=match u with
  | .none=>qg .bf x
  | .bool b=>qg (.bl b) x
  | .int i _=>qg (.int i) x
  | .str z _=>qg (.str z) x
  | _=>false
theorem Cc{x y:V}{u:Value}(r:RelV y u)(f:jZ y=true):k6 x u=qg y x:=by
  cases y with
  | bf=>cases r;rfl
  | bl b=>cases r;rfl
  | int i=>obtain⟨t,rfl⟩:=r;rfl
  | str z=>obtain⟨t,rfl⟩:=r;rfl
  | _=>exact absurd (show false=true from f) ZG
theorem mB{x:V}:∀{xs:List V}{us:List Value},Vals xs us->xs.all jZ=true->us.any (k6 x)=xs.any fun y=>qg y x
  | _,_,.nil,_=>rfl
  | y::xs,u::us,.cons r t,f=>by
    rw[ZO,YH]at f;rw[ZD,ZD,Cc r f.1,mB t f.2]
theorem k7{A:Around}{s:Shared}{x:V}{v:Value}(rx:RelV x v)(fx:jZ x=true):∀{xs:List V}{us:List Value},Vals xs us->xs.all jZ=true->∀ u∈us,SeqAt.EqAt A s u v (k6 x u)
  | _,_,.nil,_=>fun u hu=>by cases hu
  | y::xs,u::us,.cons r t,f=>fun u' hu=>by
    rw[ZO,YH]at f;rcases Zm.mp hu with rfl | hu
    . rw[Cc r f.1];exact J1 r rx f.1 fx
    . exact k7 rx fx t f.2 u' hu
noncomputable def qh(x:V)(xs:List V):Bool:=xs.any fun y=>qg y x
def OL(K:PySem.W.Frag)(neg:Bool):R2:=fun x y H Q=>∃ p xs,y=.ref p/\(f7 K H p xs\/jk K H p xs)/\jZ x=true/\xs.all jZ=true/\Q (.bl (if neg then !qh x xs else qh x xs)) H
theorem uB:BX X (compareOp .In) (OL X.K false):=by
  intro pins s σ H x y v u Q I rx ry h;obtain⟨p,xs,rfl,hq,fx,fs,q⟩:=h;cases ry;rcases hq with hq | hq
  . obtain⟨its,r,pl,hz⟩:=I.list hq;refine SeqAt.in_listAt (k6 x) pl.isList (fun w hw=>k7 rx fx r fs w (by simpa using hw)) ⟨.bl _,H,I,rfl,?_⟩;rw[show its.toArray.any (k6 x)=its.any (k6 x) by simp,mB r fs]
    exact q
  . obtain⟨its,r,pl,hz⟩:=I.tuple hq;refine SeqAt.in_tupleAt (k6 x) pl (fun w hw=>k7 rx fx r fs w (by simpa using hw)) ⟨.bl _,H,I,rfl,?_⟩;rw[show its.toArray.any (k6 x)=its.any (k6 x) by simp,mB r fs]
    exact q
theorem oz:BX X (compareOp .NotIn) (OL X.K true):=by
  intro pins s σ H x y v u Q I rx ry h;obtain⟨p,xs,rfl,hq,fx,fs,q⟩:=h;cases ry;rcases hq with hq | hq
  . obtain⟨its,r,pl,hz⟩:=I.list hq;refine SeqAt.notIn_listAt (k6 x) pl.isList (fun w hw=>k7 rx fx r fs w (by simpa using hw)) ⟨.bl _,H,I,rfl,?_⟩;rw[show its.toArray.any (k6 x)=its.any (k6 x) by simp,mB r fs]
    exact q
  . obtain⟨its,r,pl,hz⟩:=I.tuple hq;refine SeqAt.notIn_tupleAt (k6 x) pl (fun w hw=>k7 rx fx r fs w (by simpa using hw)) ⟨.bl _,H,I,rfl,?_⟩;rw[show its.toArray.any (k6 x)=its.any (k6 x) by simp,mB r fs]
    exact q
theorem vZ:BX X (compareOp .NotIn) (fun x y H Q=>∃ i j,x=.str i/\y=.str j/\Q (.bl (!(!(Builtin.Str.occurrences j i 0 j.length 1).isEmpty))) H):=by
  intro pins s σ H x y v u Q I rx ry h;obtain⟨i,j,rfl,rfl,q⟩:=h;obtain⟨t,rfl⟩:=rx;obtain⟨t',rfl⟩:=ry;exact notIn_str ⟨.bl _,H,I,rfl,q⟩
theorem oA:m7 X (.builtin "len") (fun xs H Q=>∃ p ys,xs=[.ref p]/\(f7 X.K H p ys\/jk X.K H p ys)/\Q (.int ys.length) H):=by
  intro pins s σ H xs us Q I r h;obtain⟨p,ys,rfl,hq,q⟩:=h;obtain⟨u,rfl,rx⟩:=vals1 r;cases rx;have hn:=my
  rcases hq with hq | hq
  . obtain⟨its,r',pl,hz⟩:=I.list hq;have hlen:=r'.length
    exact Calls.call_len_list pl.isList (by simp only[YN]<;>omega) ⟨.int ys.length,H,I.tok _,⟨s.toks+1,by rw[YN,hlen]⟩,q⟩
  . obtain⟨its,r',pl,hz⟩:=I.tuple hq;have hlen:=r'.length
    exact len_tuple pl (by simp only[YN]<;>omega) ⟨.int ys.length,H,I.tok _,⟨s.toks+1,by rw[YN,hlen]⟩,q⟩
theorem v8:m7 X (.builtin "len") (fun xs H Q=>∃ z,xs=[.str z]/\z.length<=sizeLine/\Q (.int z.length) H):=by
  intro pins s σ H xs us Q I r h;obtain⟨z,rfl,hz,q⟩:=h;obtain⟨u,rfl,t,rfl⟩:=vals1 r;have hn:=my
  exact len_str (by omega) ⟨.int z.length,H,I.tok _,⟨_,rfl⟩,q⟩
theorem jq:m7 X (.type "list") (fun xs H Q=>∃ p ys,xs=[.ref p]/\(f7 X.K H p ys\/jk X.K H p ys)/\∀ l,H l=none->Q (.ref l) (upd H l (.lst ys))):=by
  intro pins s σ H xs us Q I r h;obtain⟨p,ys,rfl,hq,q⟩:=h;obtain⟨u,rfl,rx⟩:=vals1 r;cases rx;have fin:∀(its:List Value),Vals ys its->ys.length<=sizeLine->∀(h':Heap)(c':Nat),(∀ b o',s.heap.get? b=some o'->h'.get? b=some o') ->
      h'.get? s.heap.objs.size=some { cls:=.type "list",dict:=none,data:=.seq its.toArray c',slots:=#[] }->EP X pins σ Q (.ref s.heap.objs.size) { s with heap:=h' }:=fun its r' hz h' c' kp e =>
    ⟨.ref s.heap.objs.size,_,I.laid (t':=s.toks) kp (YD _) (show fJ X.prog X.w _ h' _ (.lst ys) from⟨hz,its,c',r',e⟩),rfl,q _ (I.bQ.fresh (YD _))⟩
  rcases hq with hq | hq
  . obtain⟨its,r',pl,hz⟩:=I.list hq;have hlen:=r'.length
    obtain⟨o,ho,hc,n,hd⟩:=pl.isList;exact call_list_seq p (.inl rfl) ho hc hd (fun h' c' kp e=>fin its r' hz h' c' kp e) (by simp only[YN]<;>omega)
  . obtain⟨its,r',pl,hz⟩:=I.tuple hq;have hlen:=r'.length
    obtain⟨o,ho,hc,n,hd⟩:=pl;exact call_list_seq p (.inr rfl) ho hc hd (fun h' c' kp e=>fin its r' hz h' c' kp e) (by simp only[YN]<;>omega)
variable {o e:Expr}{es:List Expr}{to:TE}{t:TA}{name:Str}{apos ED:Pos}{T id:String}{r:V->List V->Hp->VK->Prop}
end
def TX(X:Cx)(id:String)(r:V->List V->Hp->VK->Prop):Prop :=
  ∀(pins:List (Addr×Obj))(s:Shared)(σ:St)(H:Hp)(x:V)(xs:List V)(v:Value)(us:List Value)(Q:VK),Inv X pins σ H s->RelV x v->Vals xs us->r x xs H Q ->
    wpAny (model X.prog X.w) X.A (call (.builtin id) (v::us)) (EP X pins σ Q) X.xe s
theorem Vals.one:∀{x:V}{us:List Value},Vals [x] us->∃ u,us=[u]/\RelV x u
  | _,_,.cons r .nil=>⟨_,rfl,r⟩
theorem Vals.zero:∀{us:List Value},Vals [] us->us=[]
  | _,.nil=>rfl
theorem Vals.reverse{xs:List V}{us:List Value}(h:Vals xs us):Vals xs.reverse us.reverse:=by
  induction h with
  | nil=>exact .nil
  | cons r t ih=>rw[List.reverse_cons,List.reverse_cons];exact Vals.append ih (.cons r .nil)
section
variable {X:Cx}{pins:List (Addr×Obj)}{σ:St}{H:Hp}{s:Shared}{l b:Addr}{xs ys zs:List V}
theorem Inv.RL{its its':List Value}{n:Nat}{f:Array Value->Array Value}{t':Nat}(I:Inv X pins σ H s)(hH:H l=some (.lst xs))
    (e:s.heap.get? l=some { cls:=.type "list",data:=.seq its.toArray n }) (hf:f its.toArray=its'.toArray) (hv:Vals ys its') (hz:ys.length<=sizeLine) :
    Inv X pins σ (upd H l (.lst ys)) { s with heap:=s.heap.update l (Obj.mapSeq f),toks:=t' }:=by
  have q:=PySem.IsL.update e f;rw[hf]at q;refine I.write (x:=l) (e:=l) (by rw[hH];exact trivial) (.inl rfl) (fun b' u hb hu=>(aau s.heap (Obj.mapSeq f) (ZC hb)).trans hu) ⟨_,q⟩ ?_;exact⟨hz,its',_,hv,q⟩
theorem Inv.RM{its:List Value}{t':Nat}(I:Inv X pins σ H s)(hv:Vals ys its)(hz:ys.length<=sizeLine) :
    Inv X pins σ (upd H s.heap.objs.size (.lst ys)) { s with heap:=s.heap.push { cls:=.type "list",data:=.seq its.toArray },toks:=t' } :=
  I.laid (fun _ _ q=>YK _ q) (YD _) ⟨hz,its,0,hv,Y3 _ rfl⟩
theorem Inv.fresh(I:Inv X pins σ H s):H s.heap.objs.size=none:=I.bQ.fresh (YD _)
theorem Inv.RN(I:Inv X pins σ H s)(hH:H l=some (.lst xs)):xs.length<=sizeLine/\∃(its:List Value)(n:Nat),Vals xs its/\xs.length=its.length/\s.heap.get? l=some { cls:=.type "list",data:=.seq its.toArray n }:=by
  obtain⟨z,its,n,r,e⟩:=I.bQ l _ hH;exact⟨z,its,n,r,r.length,e⟩
end
section
variable {X:Cx}
def Iz:V->List V->Hp->VK->Prop:=fun x vs H Q=>∃ l xs y,x=.ref l/\vs=[y]/\H l=some (.lst xs)/\xs.length<sizeLine/\Q .bf (upd H l (.lst (xs ++[y])))
theorem Cd:TX X "list.append" Iz:=by
  intro pins s σ H x vs v us Q I rx rv h;obtain⟨l,xs,y,rfl,rfl,hH,hz,q⟩:=h;cases rx;obtain⟨u,rfl,ru⟩:=rv.one;obtain⟨z,its,n,r,hl,e⟩:=I.RN hH;refine abf F.slot_list_append ⟨_,e,rfl⟩ F.entry_list_append (F.args_list_append_2 _ _) (PySem.list_append l its.toArray n u (by rw[YN];omega)) ⟨e,?_⟩;refine⟨.bf,_,I.RL (its':=its ++[u]) hH e (by simp) (r.append (.cons ru .nil)) ?_,rfl,q⟩;rw[Zt,aa5];omega
end
end L2
namespace J2
open PySem PySem.W PySem.Calls PyProof.Rows
theorem rF{P:Params}{h:Heap}:∀(ns:List Int)(vs:List Value),WellAll P h vs (ns.map WData.int)->IntsAre vs ns:=by
  intro ns
  induction ns with
  | nil =>
    intro vs w;rw[abg]at w;cases w;exact .nil
  | cons n ns ih =>
    intro vs w;rw[Zn]at w;cases w with
    | cons a b =>
      cases a;exact .cons _ _ (ih _ b)
theorem Ce{l:OpenLaw}{n:Nat}(hn:l.most=some n){P:Params}{h:Heap}{args:List WData}{vals:List Value}
    (AS:l.row.toRowW.claim.pre args=true) (J3:WellAll P h vals args) :
    ∃ a vs ns,vals=[Value.ref a]/\args=[WData.list (ns.map WData.int)]/\h.get? a=some { cls:=.type "list",data:=.seq vs.toArray }/\IntsAre vs ns/\ns.length<=n:=by
  have TY:WShape.hasAll [] args [.list .int]=true:=(pre_splitW AS).1;have hc:l.pre.holds [] { args:=args }=true:=(pre_splitW AS).2
  obtain⟨d,r,rfl,h1,h2⟩:=hasAllW_cons TY;obtain rfl:=hasAllW_nil h2;obtain⟨xs,rfl,h3⟩:=hasW_list h1;obtain⟨ns,rfl⟩:=items_int h3;have hlen:ns.length<=n:=by
    unfold OpenLaw.pre at hc;have h4:(WTm.not (.lt (.lit (.int (n:Int))) (.len (.arg 0)))).holds [] { args:=[.list (ns.map .int)] }=true:=by
      have h4:=(holds_andW hc).1;rw[hn]at h4;exact h4
    have h5:=condW_of h4 (w_not (w_lt w_lit (w_len_list (w_arg rfl))));rw[Zi]at h5;refine Nat.le_of_not_lt fun q=>?_;have q':(n:Int)<((ns.length:Nat):Int):=by omega
    first
      | (rw[YL q']at h5;exact absurd h5 (by decide))
      | (simp at h5;omega)
  cases J3 with
  | cons w1 w2 =>
    cases w2;cases w1 with
    | list ho RO=>exact⟨_,_,ns,rfl,rfl,ho,rF ns _ RO,hlen⟩
theorem Cf(l:OpenLaw)(args:List WData):l.row.toRowW.claim.post args (.bool true) args=true :=
  postW_of (r:=l.row.toRowW) (X:=(true == true))
    (show WShape.has [] (.bool true) .bool=true by first | rfl | decide | simp[WShape.has,WShape.arms,WShape.armsAll])
    (show(WTm.eq .res (.lit (.bool true))).value [] { args:=args,res:=some (.bool true),after:=args }=some (.bool (true == true)) from w_eq_bool (w_res rfl) w_lit) rfl
end J2
namespace L2
open PySem PySem.Spec PyProof.Rows
theorem uC:∀{vs:List Value}{ns:List Int},IntsAre vs ns->Vals (ns.map V.int) vs
  | _,_,.nil=>.nil
  | _,_,.cons n t h=>.cons ⟨t,rfl⟩ (uC h)
def J4(H:Hp):Prop:=∀ b,H b=none\/∃ o xs,H b=some (.cj o (.lst xs))
theorem EE{P:Program}{w:World}{K:PySem.W.Frag}{mg mb:Str->Option Value}{CX:rC}{k:Nat}{fa a:Addr}{fd:FuncData}{x:Str}{sp:Sp}{s₁:Shared}{vs:List Value}{ns:List Int}
    (KX:K.In s₁.heap) (yH:s₁.heap.Ns mainGlobals mg) (hb:s₁.heap.Ns builtinsNs mb) (gk:∀ x:Str,x≠"__name__"->mb x=bootBuiltins x) (RP:s₁.heap.NoLimit) (hg:s₁.gens=#[])
    (ha:s₁.heap.get? a=some { cls:=.type "list",data:=.seq vs.toArray }) (hi:IntsAre vs ns) (hl:ns.length<=sizeLine) (hr:cE k callerA)
    (F:∀ base:Heap,K.In base->base.Ns mainGlobals mg->fO P w K mg base CX k fa fd [x] sp) (NZ:∀(s:Shared)(u:Value),BindsTo s fd ⟨[u],[]⟩ [(x,u)])
    (hG:∀ H:Hp,J4 H->f7 K H a (ns.map V.int)->sp [.ref a] H (fun v _=>v=.bl true) fun _ _ _=>False)
    (TZ:∀ H e s',CX [] H s₁ (fun _ _ _=>False) e s'->False) :
    codeAny (model P w) callerA (.call (.ref fa) ⟨[.ref a],[]⟩) (fun r s'=>r=.ok (.ret (.bool true))/\OldK s₁.heap s'.heap/\s'.os=s₁.os/\AllBare s'.gens) s₁:=by
  have rv:=uC hi;have RQ:=hi.length
  have core:∀ H:Hp,J4 H->f7 K H a (ns.map V.int)->gi P w H s₁.heap->(∀ b,H b≠none->b=a)->(H a≠none->K.lookup a=none) ->
      codeAny (model P w) callerA (.call (.ref fa) ⟨[.ref a],[]⟩) (fun r s'=>r=.ok (.ret (.bool true))/\OldK s₁.heap s'.heap/\s'.os=s₁.os/\AllBare s'.gens) s₁:=by
    intro H hO hS bQ hA hK;have yI:∀{b:Addr}{o:Obj},s₁.heap.get? b=some o->H b=none->(m6 s₁.heap H).get? b=some o:=fun e n=>Ez e n
    have B8:∀{b:Addr}{o:Obj}{es:Array DictEntry}{ep:Nat},s₁.heap.get? b=some o->o.data=.dict es ep->H b=none:=fun{b o es ep} e d=>by
      cases q:H b with
      | none=>rfl
      | some u =>
        have e':b=a:=hA b (by rw[q];simp);subst e';rw[ha]at e;cases e;have d':Data.seq vs.toArray _=Data.dict es ep:=d
        cases d'
    have Gv:∀{b:Addr}{m:Str->Option Value},s₁.heap.Ns b m->(m6 s₁.heap H).Ns b m:=fun{b m} ⟨o,es,ep,e,d,r⟩=>⟨o,es,ep,yI e (B8 e d),d,r⟩;have OM:K.In (m6 s₁.heap H):=fun b o e=>yI (KX b o e) (by
      cases q:H b with
      | none=>rfl
      | some u =>
        have e':b=a:=hA b (by rw[q];simp);subst e';rw[hK (by rw[q];simp)]at e;cases e)
    have hM:Mod K mg (m6 s₁.heap H):=⟨OM,Gv yH,⟨mb,Gv hb,gk⟩,let ⟨mc,h1,h2⟩:=RP;⟨mc,Gv h1,h2⟩⟩;have e0:mi P w K mg (m6 s₁.heap H) callerA [] s₁ H:=⟨rfl,hM,fun b o e=>Ip e,Nat.le_of_eq (BR _ _),trivial,fun b hb=>absurd (show b∈([]:List Addr) from hb) (by simp),bQ,.of_eq hg⟩
    refine Z3 ((F _ OM (Gv yH)).run callerA [] s₁ H ⟨[.ref a],[]⟩ [.ref a] [.ref a] _ _ hr e0 (NZ s₁ (.ref a)) (.cons rfl .nil) (hG H hO hS)) fun r s' h=>?_;cases r with
    | error e=>exact(TZ H e s' h).elim
    | ok fl =>
      cases fl with
      | next=>exact False.elim h
      | brk=>exact False.elim h
      | cont=>exact False.elim h
      | ret u =>
        obtain⟨v,H',os,bare,un,RR,r',q⟩:=h;have q':v=.bl true:=q
        subst q';obtain rfl:u=Value.bool true:=r';refine⟨rfl,OldK.of_keep fun b o e=>?_,os,bare⟩;cases q:H b with
        | none=>exact un.keep b o e q (by intro z;exact absurd (show b∈([]:List Addr) from z) (by simp)) (by simp)
        | some u =>
          rcases hO b with z | ⟨ob,xs,z⟩
          . rw[q]at z;cases z
          . have z2:=un.kr b ob _ z;obtain⟨e1,_⟩:=bQ b _ z;obtain⟨e2,_⟩:=RR b _ z2;rw[e]at e1;cases e1;exact e2
  cases hk:K.lookup a with
  | some o =>
    have e:=KX a o hk;rw[ha]at e;cases e;refine core (fun _=>none) (fun _=>.inl rfl) (.inr ⟨_,vs.toArray,_,hk,rfl,rfl,rfl,by rw[YN,RQ];exact hl,by simpa using rv⟩) (fun b u z=>by have z':(none:Option HO)=some u:=z;cases z') (fun b z=>absurd rfl z) fun z=>absurd rfl z
  | none =>
    refine core (fun b=>if b=a then some (.cj { cls:=.type "list",data:=.seq vs.toArray } (.lst (ns.map V.int))) else none) (fun b=>?_) (.inl (.inr ⟨{ cls:=.type "list",data:=.seq vs.toArray },Yy rfl⟩)) (fun b u z=>?_) (fun b z=>?_) fun _=>hk
    . by_cases hb:b=a
      . exact .inr ⟨_,_,Yy hb⟩
      . exact .inl (Yx hb)
    . by_cases hb:b=a
      . have z':=(Yy hb).symm.trans z;cases z';subst hb;exact⟨ha,by rw[Zi];exact hl,vs,_,rv,ha⟩
      . have z':=(Yx hb).symm.trans z;cases z'
    . by_cases hb:b=a
      . exact hb
      . exact absurd (Yx hb) z
noncomputable def inClass(s:Stmt)(j:Nat):Stmt:=match s with
  | .ClassDef _ _ _ body _ _ _ _ _ _ _=>body.getD j (.Pass ⟨0,0,0,0⟩)
  | _=>.Pass ⟨0,0,0,0⟩
noncomputable def cT(s:Stmt):Arguments:=match s with
  | .FunctionDef _ a _ _ _ _ _ _ _ _=>a
  | _=>{ posonlyargs:=[],args:=[],vararg:=none,kwonlyargs:=[],kw_defaults:=[],kwarg:=none,defaults:=[] }
noncomputable def bF(s:Stmt):List Stmt:=match s with
  | .FunctionDef _ _ b _ _ _ _ _ _ _=>b
  | _=>[]
noncomputable def aI(s:Stmt):Scope:=match s with
  | .FunctionDef _ _ _ _ _ _ sc _ _ _=>sc
  | _=>{ kind:=.function,names:=[],isGenerator:=false,isCoroutine:=false }
structure yJ(K:PySem.W.Frag)(x qual:Str)(st:Stmt)(f:Addr)(fd:FuncData):Prop where
  ex:∃(oc:Value)(od:Option Addr)(kV doc pm:Value)(an:Option Addr)(aU ct:Value)(fM:Array (Option Value)),
    fd=PySem.W.fnOf x qual (cT st) (bF st) (aI st) .none kV doc pm an aU ct/\K.lookup f=some ⟨oc,od,.func fd,fM⟩/\PySem.W.codeIn K aU qual=true
  kp:PySem.W.keepIn K (.ref f)=true
section
variable {P:Program}{w:World}{K:PySem.W.Frag}{mg:Str->Option Value}{base:Heap}
theorem yJ.binds{x qual:Str}{st:Stmt}{f:Addr}{fd:FuncData}{ps:List Str}(F:yJ K x qual st f fd)
    (h:∀(kV doc pm:Value)(an:Option Addr)(aU ct:Value)(us:List Value),us.length=ps.length->bindArgs (PySem.W.fnOf x qual (cT st) (bF st) (aI st) .none kV doc pm an aU ct) ⟨us,[]⟩=pure (ps.zip us)):Binds K fd ps []:=by
  obtain⟨oc,od,kV,doc,pm,an,aU,ct,fM,rfl,lk,ey⟩:=F.ex;exact .all (h kV doc pm an aU ct)
theorem Cg{x qual:Str}{st:Stmt}{f:Addr}{oc:Value}{od an:Option Addr}{fM:Array (Option Value)}{kV doc pm aU ct:Value}(l:K.lookup f=some ⟨oc,od,.func (PySem.W.fnOf x qual (cT st) (bF st) (aI st) .none kV doc pm an aU ct),fM⟩)
    (c:PySem.W.codeIn K aU qual=true) (k:PySem.W.keepIn K (.ref f)=true):yJ K x qual st f (PySem.W.fnOf x qual (cT st) (bF st) (aI st) .none kV doc pm an aU ct):=⟨⟨oc,od,kV,doc,pm,an,aU,ct,fM,rfl,l,c⟩,k⟩
end
def bc(H H':Hp):Prop:=∀ b o,H b=some o->H' b=some o
theorem bc.refl(H:Hp):bc H H:=fun _ _ h=>h
theorem bc.trans{H H1 H2:Hp}(a:bc H H1)(b:bc H1 H2):bc H H2:=fun c o h=>b c o (a c o h)
theorem bc.free{H H':Hp}(e:bc H H'){l:Addr}(h:H' l=Option.none):H l=Option.none:=by
  cases q:H l with
  | none=>rfl
  | some o =>
    rw[e l o q]at h;cases h
theorem bc.seq{K:PySem.W.Frag}{H H':Hp}{a:Addr}{xs:List V}(e:bc H H')(h:f7 K H a xs):f7 K H' a xs:=by
  rcases h with(h | ⟨o,h⟩) | h
  . exact .inl (.inl (e _ _ h))
  . exact .inl (.inr ⟨o,e _ _ h⟩)
  . exact .inr h
end L2
set_option maxHeartbeats 4000000
namespace Mi
open PySem
inductive PV where
  | bf | bl (b:Bool) | int (i:Int) | str (x:Str) | tup (l:List PV) | lst (l:List PV)
  | exc (c:Nat)            -- an exception RT X6 T4,by its class
  | iI                     -- an empty dict
  | ins (c:Nat)            -- an instance without attributes,by its class
  | own (l:List PV)        -- a list RT one name alone holds (a T5 value,never an J5)
set_option genInjectivity true in
inductive R (α:Type) where
  | ok (a:α) | exc (c:Nat) | stuck
noncomputable def R.bind{α β:Type}(r:R α)(f:α->R β):R β:=match r with
  | .ok a=>f a
  | .exc c=>.exc c
  | .stuck=>.stuck
@[simp] theorem R.bind_ok {α β:Type} (a:α) (f:α->R β):(R.ok a).bind f=f a:=rfl
abbrev aJ:=List (Option PV)
abbrev FE:=aJ->R PV
abbrev FA:=aJ->R (List PV)
abbrev FT:=aJ->R Bool
inductive SR where
  | next (ρ:aJ) | ret (v:PV) | brk (ρ:aJ) | cont (ρ:aJ) | exc (c:Nat) (ρ:aJ) | stuck
abbrev FS:=aJ->SR
noncomputable def cI:Option PV->R PV
  | some (.own _)=>.stuck
  | some v=>.ok v
  | none=>.stuck
noncomputable def jr:aJ->Nat->R PV
  | [],_=>.stuck
  | o::_,0=>cI o
  | _::r,n+1=>jr r n
noncomputable abbrev nb(i:Int):Nat:=Builtin.Int.intBits i
mutual
noncomputable def dj:PV->PV->Bool
  | .bf,.bf=>true
  | .bl a,.bl b=>a == b
  | .bl a,.int b=>(if a then 1 else 0) == b
  | .int a,.bl b=>a ==(if b then 1 else 0)
  | .int a,.int b=>a == b
  | .str a,.str b=>a == b
  | .tup a,.tup b=>dJ a b
  | .lst a,.lst b=>dJ a b
  | _,_=>false
noncomputable def dJ:List PV->List PV->Bool
  | [],[]=>true
  | x::xs,y::ys=>dj x y&&dJ xs ys
  | _,_=>false
end
noncomputable def bW:Nat->PV->Bool
  | _,.bf=>true
  | _,.bl _=>true
  | _,.int _=>true
  | _,.str _=>true
  | n+1,.tup l=>l.all (bW n)
  | n+1,.lst l=>l.all (bW n)
  | _,_=>false
noncomputable abbrev pL(p:PV):Bool:=bW 6 p
noncomputable def iR:PV->R Bool
  | .bl b=>.ok b
  | .int i=>.ok (i != 0)
  | .bf=>.ok false
  | .lst l=>.ok (!l.isEmpty)
  | .str z=>if z.length<=sizeLine then .ok ((z.length:Int) != 0) else .stuck
  | _=>.stuck
noncomputable abbrev tQ:Nat:=134217728
noncomputable def cV:PV->PV->R PV
  | .int a,.int b=>.ok (.int (a+b))
  | .str a,.str b=>if a.length+b.length<=sizeLine then .ok (.str (a++b)) else .stuck
  | .lst a,.lst b=>if a.length+b.length<=sizeLine then .ok (.lst (a++b)) else .stuck
  | .tup a,.tup b=>if (a.length≠0/\b.length≠0)/\a.length+b.length<=sizeLine then .ok (.tup (a++b)) else .stuck
  | _,_=>.stuck
noncomputable def dB:PV->PV->R PV
  | .int a,.int b=>.ok (.int (a - b))
  | _,_=>.stuck
noncomputable def js:PV->PV->R PV
  | .int a,.int b=>if nb a<=64\/nb b<=64\/nb a+nb b<=tQ then .ok (.int (a*b)) else .stuck
  | _,_=>.stuck
noncomputable def oDiv:PV->PV->R PV
  | .int a,.int b=>if 0<b/\nb b<=9000 then .ok (.int (a/b)) else .stuck
  | _,_=>.stuck
noncomputable def oMod:PV->PV->R PV
  | .int a,.int b=>if 0<b then .ok (.int (a%b)) else .stuck
  | _,_=>.stuck
noncomputable def AU:PV->PV->R PV
  | .int a,.int b=>if 0<=b/\b<=1000000/\nb a<=64 then .ok (.int (a ^ b.toNat)) else .stuck
  | _,_=>.stuck
noncomputable def fA:PV->PV->R PV
  | .int a,.int b=>if 0<=b/\nb a+b<=134217728 then .ok (.int (a*2 ^ b.toNat)) else .stuck
  | _,_=>.stuck
noncomputable def wa:PV->PV->R PV
  | .int a,.int b=>if 0<=b then .ok (.int (a/2 ^ b.toNat)) else .stuck
  | _,_=>.stuck
noncomputable def qP:PV->PV->R PV
  | .int a,.int b=>.ok (.int (Builtin.bitAnd a b))
  | _,_=>.stuck
noncomputable def Ci:PV->PV->R PV
  | .int a,.int b=>.ok (.int (Builtin.bitOr a b))
  | _,_=>.stuck
noncomputable def EF:PV->PV->R PV
  | .int a,.int b=>.ok (.int (Builtin.bitXor a b))
  | _,_=>.stuck
noncomputable def iJ:PV->R PV
  | .int a=>.ok (.int (-a))
  | _=>.stuck
noncomputable def jt:PV->PV->R PV
  | .int a,.int b=>.ok (.bl (decide (a<b)))
  | _,_=>.stuck
noncomputable def Cj:PV->PV->R PV
  | .int a,.int b=>.ok (.bl (decide (a<=b)))
  | _,_=>.stuck
noncomputable def qi:PV->PV->R PV
  | .int a,.int b=>.ok (.bl (decide (b<a)))
  | _,_=>.stuck
noncomputable def Ck:PV->PV->R PV
  | .int a,.int b=>.ok (.bl (decide (b<=a)))
  | _,_=>.stuck
noncomputable def Cn:PV->PV->Bool
  | .iI,.str _=>true
  | _,_=>false
noncomputable def bD(a b:PV):R PV:=if pL a&&pL b then .ok (.bl (dj a b)) else if Cn a b then .ok (.bl false) else .stuck
noncomputable def mC(a b:PV):R PV:=if pL a&&pL b then .ok (.bl (!dj a b)) else .stuck
noncomputable def isNone:PV->Bool
  | .bf=>true
  | _=>false
noncomputable def wc(a:PV):R PV:=.ok (.bl (isNone a))
noncomputable def j2(a:PV):R PV:=.ok (.bl (!isNone a))
mutual
noncomputable def dz:PV->Bool
  | .bf=>true
  | .bl _=>true
  | .int _=>true
  | .str _=>true
  | _=>false
end
noncomputable def iE(x y:PV):R PV:=match y with
  | .tup l=>if dz x&&l.all dz then .ok (.bl (l.any fun z=>dj z x)) else .stuck
  | .lst l=>if dz x&&l.all dz then .ok (.bl (l.any fun z=>dj z x)) else .stuck
  | .str z=>(match x with
    | .str y=>.ok (.bl (!(Builtin.Str.occurrences z y 0 z.length 1).isEmpty))
    | _=>.stuck)
  | _=>.stuck
noncomputable def tR:PV->Bool
  | .str _=>true
  | _=>false
noncomputable def pM:PV->Bool
  | .lst _=>true
  | .tup _=>true
  | .iI=>true
  | _=>false
noncomputable def gO(x y:PV):R PV:=match y with
  | .tup l=>if dz x&&l.all dz then .ok (.bl (!l.any fun z=>dj z x)) else .stuck
  | .lst l=>if dz x&&l.all dz then .ok (.bl (!l.any fun z=>dj z x)) else if pM x&&l.all tR then .ok (.bl true) else .stuck
  | .str z=>(match x with
    | .str y=>.ok (.bl (!(!(Builtin.Str.occurrences z y 0 z.length 1).isEmpty)))
    | _=>.stuck)
  | _=>.stuck
noncomputable def oB(n:Nat)(i:Int):Option Nat:=if 0<=i then (if i<n then some i.toNat else none) else if -(n:Int)<=i then some (i+n).toNat else none
noncomputable def fK(l:List PV)(i:Int):R PV:=match oB l.length i with
  | some j=>(match l[j]? with | some v=>.ok v | none=>.stuck)
  | none=>.stuck
noncomputable def ar:PV->PV->R PV
  | .tup l,.int i=>fK l i
  | .lst l,.int i=>fK l i
  | .str z,.int i=>(match oB z.cps.toList.length i with
    | some j=>(match z.cps.toList[j]? with | some c=>if z.length<=sizeLine then .ok (.str ⟨#[c]⟩) else .stuck | none=>.stuck)
    | none=>.stuck)
  | _,_=>.stuck
noncomputable def mj:List PV->R PV
  | [.tup l]=>.ok (.int l.length)
  | [.lst l]=>.ok (.int l.length)
  | [.str z]=>if z.length<=sizeLine then .ok (.int z.length) else .stuck
  | _=>.stuck
noncomputable def tS:List PV->R PV
  | [.int i]=>.ok (.int (if i<0 then -i else i))
  | _=>.stuck
noncomputable def AV:List PV->R PV
  | [.int i,.int j]=>.ok (.int (if j<i then j else i))
  | _=>.stuck
noncomputable def wg:List PV->R PV
  | [.int i,.int j]=>.ok (.int (if j>i then j else i))
  | _=>.stuck
noncomputable def wj:List PV->R PV
  | [.int i]=>.ok (.int i)
  | [.bl k]=>.ok (.int (if k then 1 else 0))
  | _=>.stuck
noncomputable def gJ:PV->R PV
  | .int i=>.ok (.int (nb i))
  | _=>.stuck
noncomputable def lU:List PV->R PV
  | [.tup l]=>.ok (.lst l)
  | [.lst l]=>.ok (.lst l)
  | _=>.stuck
noncomputable def Co:List PV->R PV
  | [.tup l]=>.ok (.tup l)
  | [.lst l]=>.ok (.tup l)
  | _=>.stuck
inductive Ty where | int | bool | str | tuple | list | dict
noncomputable def fj:PV->Ty->Option Bool
  | .bf,_=>some false
  | .bl _,.int=>some true
  | .bl _,.bool=>some true
  | .bl _,_=>some false
  | .int _,.int=>some true
  | .int _,_=>some false
  | .str _,.str=>some true
  | .str _,_=>some false
  | .tup _,.tuple=>some true
  | .tup _,_=>some false
  | .lst _,.list=>some true
  | .lst _,_=>some false
  | .iI,.dict=>some true
  | .iI,_=>some false
  | _,_=>none
noncomputable def ae(i:Nat):FE:=fun ρ=>jr ρ i
noncomputable def fC(v:PV):FE:=fun _=>.ok v
noncomputable def ah(o:PV->PV->R PV)(a b:FE):FE:=fun ρ=>(a ρ).bind fun x=>(b ρ).bind fun y=>o x y
noncomputable def eU(o:PV->R PV)(a:FE):FE:=fun ρ=>(a ρ).bind o
noncomputable def iZ:PV->R Bool
  | .bl b=>.ok b
  | _=>.stuck
noncomputable def je(a b:FE):FE:=fun ρ=>(a ρ).bind fun x=>(iZ x).bind fun c=>if c then b ρ else .ok (.bl false)
noncomputable def Gw(a b:FE):FE:=fun ρ=>(a ρ).bind fun x=>(iZ x).bind fun c=>if c then .ok (.bl true) else b ρ
noncomputable def oC(a:FE):FE:=fun ρ=>(a ρ).bind fun x=>(iZ x).bind fun c=>.ok (.bl (!c))
noncomputable def rG(o o':PV->PV->R PV)(a b c:FE):FE:=fun ρ=>(a ρ).bind fun x=>(b ρ).bind fun y=>(o x y).bind fun r=>(iZ r).bind fun k =>
  if k then (c ρ).bind fun z=>o' y z else .ok (.bl false)
noncomputable def f9(t:FT)(a b:FE):FE:=fun ρ=>(t ρ).bind fun c=>if c then a ρ else b ρ
noncomputable def aq:FA:=fun _=>.ok []
noncomputable def af(a:FE)(r:FA):FA:=fun ρ=>(a ρ).bind fun x=>(r ρ).bind fun xs=>.ok (x::xs)
noncomputable def ck(a:FA):FE:=fun ρ=>(a ρ).bind fun xs=>if xs.length<=sizeLine then .ok (.tup xs) else .stuck
noncomputable def gm(a:FA):FE:=fun ρ=>(a ρ).bind fun xs=>if xs.length<=sizeLine then .ok (.lst xs) else .stuck
noncomputable def au(F:List PV->R PV)(a:FA):FE:=fun ρ=>(a ρ).bind F
noncomputable def iA(t:Ty)(a:FE):FE:=fun ρ=>(a ρ).bind fun x=>match fj x t with | some b=>.ok (.bl b) | none=>.stuck
noncomputable def under(c d:Nat):Bool:=c == d||d == 0
noncomputable def ij(ks:List Nat)(d:Nat)(a:FE):FE:=fun ρ=>(a ρ).bind fun x=>match x with
  | .exc c=>if ks.contains c then .ok (.bl (under c d)) else .stuck
  | .bf=>.ok (.bl false)
  | _=>.stuck
noncomputable def J6(ks:List Nat)(a:FE):FE:=fun ρ=>(a ρ).bind fun x=>match x with
  | .exc c=>if ks.contains c then .ok (.bl true) else .stuck
  | .bf=>.ok (.bl false)
  | _=>.stuck
noncomputable def aH(a:FE):FT:=fun ρ=>(a ρ).bind iR
noncomputable def oE(a b:FT):FT:=fun ρ=>(a ρ).bind fun c=>if c then b ρ else .ok false
noncomputable def k8(a b:FT):FT:=fun ρ=>(a ρ).bind fun c=>if c then .ok true else b ρ
noncomputable def ju(a:FT):FT:=fun ρ=>(a ρ).bind fun c=>.ok (!c)
noncomputable def gC(n d:Nat):Option Int->Nat
  | none=>d
  | some v=>if v<0 then (v+(n:Int)).toNat else min v.toNat n
noncomputable def jv(l:List PV)(lo hi:Option Int):List PV:=(l.drop (gC l.length 0 lo)).take (gC l.length l.length hi - gC l.length 0 lo)
abbrev FO:=aJ->R (Option Int)
noncomputable def nc:FO:=fun _=>.ok none
noncomputable def j3(a:FE):FO:=fun ρ=>(a ρ).bind fun x=>match x with | .int i=>.ok (some i) | _=>.stuck
noncomputable def oF(z:Str)(lo hi:Option Int):Str:=⟨((z.cps.toList.drop (gC z.cps.toList.length 0 lo)).take (gC z.cps.toList.length z.cps.toList.length hi - gC z.cps.toList.length 0 lo)).toArray⟩
noncomputable def ng(x:PV)(lo hi:Option Int):R PV:=match x with
  | .str z=>if z.length<=sizeLine then .ok (.str (oF z lo hi)) else .stuck
  | .lst l=>.ok (.lst (jv l lo hi))
  | _=>.stuck
noncomputable def nh(a:FE)(l h:FO):FE:=fun ρ=>(a ρ).bind fun x=>(l ρ).bind fun lo=>(h ρ).bind fun hi=>ng x lo hi
noncomputable def aV:FS:=fun ρ=>.next ρ
noncomputable def aD(f g:FS):FS:=fun ρ=>match f ρ with
  | .next ρ'=>g ρ'
  | o=>o
noncomputable def J7:FS:=fun ρ=>.brk ρ
noncomputable def N3:FS:=fun ρ=>.cont ρ
noncomputable def mD(r:R PV)(ρ:aJ)(k:PV->SR):SR:=match r with
  | .ok v=>k v
  | .exc c=>.exc c ρ
  | .stuck=>.stuck
noncomputable def aP(a:FE):FS:=fun ρ=>mD (a ρ) ρ fun v=>.ret v
noncomputable def N4:FS:=fun _=>.ret .bf
noncomputable def dR(a:FE):FS:=fun ρ=>mD (a ρ) ρ fun _=>.next ρ
noncomputable def aX(i:Nat)(a:FE):FS:=fun ρ=>mD (a ρ) ρ fun v=>.next (ρ.set i (some v))
noncomputable def Cp:List Nat->List PV->aJ->Option aJ
  | [],[],ρ=>some ρ
  | i::r,v::vs,ρ=>Cp r vs (ρ.set i (some v))
  | _,_,_=>none
noncomputable def bO(t:FT)(f g:FS):FS:=fun ρ=>match t ρ with
  | .ok c=>if c then f ρ else g ρ
  | .exc c=>.exc c ρ
  | .stuck=>.stuck
noncomputable def J8(c:Nat):FS:=fun ρ=>.exc c ρ
noncomputable def fY:R PV->Bool
  | .ok (.int i)=>decide (i.natAbs<18446744073709551616)
  | _=>false
noncomputable def d6(k:aJ->Bool)(c:Nat):FS:=fun ρ=>if k ρ then .exc c ρ else .stuck
noncomputable def forL(i:Nat)(body:FS):List PV->FS
  | [],ρ=>.next ρ
  | x::r,ρ=>match body (ρ.set i (some x))with
    | .next ρ'=>forL i body r ρ'
    | .cont ρ'=>forL i body r ρ'
    | .brk ρ'=>.next ρ'
    | o=>o
noncomputable def nk(i:Nat)(it:FA)(body:FS):FS:=fun ρ=>match it ρ with
  | .ok l=>forL i body l ρ
  | .exc c=>.exc c ρ
  | .stuck=>.stuck
noncomputable def k9(a:FE):FA:=fun ρ=>(a ρ).bind fun x=>match x with
  | .lst l=>.ok l
  | .tup l=>.ok l
  | _=>.stuck
noncomputable def j9(lo hi st:Int):Nat:=(if st>0 then (if lo<hi then (hi - lo - 1)/st+1 else 0) else (if lo>hi then (lo - hi - 1)/(-st)+1 else 0)).toNat
noncomputable def fG(lo hi st:Int):List PV:=(List.range (j9 lo hi st)).map fun(k:Nat)=>.int (lo+(k:Int)*st)
def df(i:Int):Prop:=-(2 ^ 60)<=i/\i<2 ^ 60
noncomputable instance (i:Int):Decidable (df i):=inferInstanceAs (Decidable (_/\_))
noncomputable def rH(a:FA):FA:=fun ρ=>(a ρ).bind fun xs=>match xs with
  | [.int hi]=>if df hi then .ok (fG 0 hi 1) else .stuck
  | [.int lo,.int hi]=>if df lo/\df hi then .ok (fG lo hi 1) else .stuck
  | [.int lo,.int hi,.int st]=>if df lo/\df hi/\df st/\st≠0 then .ok (fG lo hi st) else .stuck
  | _=>.stuck
noncomputable def tT(a:FE):FA:=fun ρ=>(a ρ).bind fun x=>match x with
  | .str z=>.ok (z.cps.toList.map fun c=>.str ⟨#[c]⟩)
  | _=>.stuck
noncomputable def eK(t:FT)(body:FS):Nat->FS
  | 0,_=>.stuck
  | n+1,ρ=>match t ρ with
    | .ok true=>(match body ρ with
      | .next ρ'=>eK t body n ρ'
      | .cont ρ'=>eK t body n ρ'
      | .brk ρ'=>.next ρ'
      | o=>o)
    | .ok false=>.next ρ
    | .exc c=>.exc c ρ
    | .stuck=>.stuck
noncomputable def la:Nat:=100000
noncomputable def iS(t:FT)(body:FS):FS:=fun ρ=>eK t body la ρ
noncomputable def J9(body:FS)(ks:List Nat)(d n x:Nat):FS:=fun ρ=>match body ρ with
  | .exc c ρ'=>if ks.contains c&&under c d then .next (((ρ'.set n (some (.exc c))).set x (some (.exc c))).set n none) else .stuck
  | o=>o
noncomputable def start(n:Nat)(vs:List PV):aJ:=vs.map some++List.replicate (n - vs.length) none
noncomputable def aY(n:Nat)(b:FS)(vs:List PV):R PV:=match b (start n vs)with
  | .next _=>.ok .bf
  | .ret v=>.ok v
  | .exc c _=>.exc c
  | _=>.stuck
end Mi
namespace Mi
open PySem
def wm(f:Obj->Obj):Prop:=∀ o,(f o).cls=o.cls/\(f o).dict=o.dict/\(f o).isFreed=o.isFreed
def Kd(e:Addr)(h h':Heap):Prop:=∀ o,h.get? e=some o->∃ o',h'.get? e=some o'/\o'.cls=o.cls/\o'.dict=o.dict
theorem Kd.refl(e:Addr)(h:Heap):Kd e h h:=fun o q=>⟨o,q,rfl,rfl⟩
theorem Kd.trans(a:Kd e h h1)(b:Kd e h1 h2):Kd e h h2:=fun o q=>by
  obtain⟨o1,q1,c1,d1⟩:=a o q;obtain⟨o2,q2,c2,d2⟩:=b o1 q1;exact⟨o2,q2,c2.trans c1,d2.trans d1⟩
inductive Tame:{α:Type}->Sem α->Prop where
  | pure {α:Type} (a:α):Tame (.pure a)
  | raise {α:Type} (e:Value):Tame (.raise e:Sem α)
  | unsupported {α:Type} (w:String):Tame (.unsupported w:Sem α)
  | rule {α:Type}{t:String}{k:Unit->Sem α} (h:Tame (k ())):Tame (.rule t k)
  | load {α:Type}{a:Addr}{p:Option Value}{k:Obj->Sem α} (h:∀ o,Tame (k o)):Tame (.load a p k)
  | update {α:Type}{a:Addr}{p:Option Value}{f:Obj->Obj}{k:Unit->Sem α} (hf:wm f) (h:Tame (k ())):Tame (.update a p f k)
  | alloc {α:Type}{o:Obj}{k:Addr->Sem α} (h:∀ a,Tame (k a)):Tame (.alloc o k)
  | register {α:Type}{a:Addr}{k:Unit->Sem α}:Tame (.register a k)
  | stack {α:Type}{k:List (Code×Pos)->Sem α} (h:∀ a,Tame (k a)):Tame (.stack k)
theorem Tame.bind{α β:Type}{t:Sem α}{f:α->Sem β}(h:Tame t)(g:∀ a,Tame (f a)):Tame (t >>= f):=by
  show Tame (t.bind f)
  induction h with
  | pure a=>exact g a
  | raise e=>exact .raise e
  | unsupported w=>exact .unsupported w
  | rule _ ih=>exact .rule ih
  | load _ ih=>exact .load fun o=>ih o
  | update hf _ ih=>exact .update hf ih
  | alloc _ ih=>exact .alloc fun a=>ih a
  | register=>exact .register
  | stack _ ih=>exact .stack fun a=>ih a
theorem uD{h:Heap}{f:Obj->Obj} (hf:wm f):Kd e h (h.update a f):=fun o q=>by
  by_cases ha:a=e
  . subst ha;have nf:o.isFreed=false:=(Heap.get?_some_iff.mp q).2
    exact⟨f o,aa4 f q (by rw[(hf o).2.2];exact nf),(hf o).1,(hf o).2.1⟩
  . exact⟨o,(aau _ _ ha).trans q,rfl,rfl⟩
theorem Tame.keep{α:Type}{t:Sem α}(h:Tame t)(e:Addr):∀{Q:α->Pos->Shared->Prop}{E:Value->Pos->Shared->Prop}{p:Pos}{s:Shared},Sem.wp M Γ t Q E p s ->
    Sem.wp M Γ t (fun a p s'=>Q a p s'/\Kd e s.heap s'.heap) (fun x p s'=>E x p s'/\Kd e s.heap s'.heap) p s:=by
  induction h with
  | pure a=>intro Q E p s w;exact⟨w,Kd.refl _ _⟩
  | raise x=>intro Q E p s w;exact⟨w,Kd.refl _ _⟩
  | unsupported x=>intro Q E p s w;exact w.elim
  | rule _ ih=>intro Q E p s w;exact ih w
  | load _ ih=>intro Q E p s w;obtain⟨o,h1,h2⟩:=w;exact⟨o,h1,ih o h2⟩
  | update hf _ ih =>
    intro Q E p s w;obtain⟨h1,h2⟩:=w;exact⟨h1,Sem.wp_mono M Γ _ (fun a p s' ⟨q,k⟩=>⟨q,(uD hf).trans k⟩) (fun x p s' ⟨q,k⟩=>⟨q,(uD hf).trans k⟩) _ _ (ih h2)⟩
  | alloc _ ih =>
    intro Q E p s w;have k0:∀(o:Obj),Kd e s.heap (s.heap.push o):=fun o o' q=>⟨o',YK _ q,rfl,rfl⟩
    exact Sem.wp_mono M Γ _ (fun a p s' ⟨q,k⟩=>⟨q,(k0 _).trans k⟩) (fun x p s' ⟨q,k⟩=>⟨q,(k0 _).trans k⟩) _ _ (ih _ w)
  | register=>intro Q E p s w;exact w.elim
  | stack _ ih=>intro Q E p s w;exact ih _ w
theorem Tame.any{α:Type}{t:Sem α}(h:Tame t)(e:Addr){Q:α->Shared->Prop}{E:Value->Shared->Prop}{s:Shared}(w:wpAny M A t Q E s) :
    wpAny M A t (fun a s'=>Q a s'/\Kd e s.heap s'.heap) (fun x s'=>E x s'/\Kd e s.heap s'.heap) s:=fun Γ p hΓ=>h.keep e (w Γ p hΓ)
theorem yp(g:Array Value->Array Value):wm (Obj.mapFields g):=fun o=>by
  obtain⟨c,d,dt,sl⟩:=o;cases dt<;>exact⟨rfl,rfl,rfl⟩
theorem AX(g:Obj->Array (Option Value)):wm (fun o=>{ o with slots:=g o }):=fun o=>by
  obtain⟨c,d,dt,sl⟩:=o;cases dt<;>exact⟨rfl,rfl,rfl⟩
theorem oG(a:Addr):Tame (PySem.load a):=.load fun o=>.pure o
theorem qj(a:Addr){f:Obj->Obj}(h:wm f):Tame (PySem.update a f):=.update h (.pure ())
theorem vF(v:Value):Tame (fieldsOf v):=by
  unfold fieldsOf;cases v<;>first | exact .unsupported _ | skip
  refine Tame.bind (oG _) fun o=>?_;cases o.data<;>first | exact .unsupported _ | exact .pure _
theorem kG(v:Value)(i:Nat):Tame (field v i):=by
  unfold field;refine Tame.bind (vF v) fun vs=>?_;split
  . exact .pure _
  . exact .unsupported _
theorem i6(v:Value)(i:Nat)(x:Value):Tame (setField v i x):=by
  unfold setField;cases v<;>first | exact .unsupported _ | skip
  unfold updateField;refine Tame.bind (oG _) fun o=>?_;cases o.data<;>first | exact .unsupported _ | skip
  dsimp only;split
  . exact qj _ (yp _)
  . exact .unsupported _
theorem jN(e:Value)(f:Option Addr):Tame (setFlight e f):=by
  unfold setFlight;refine Tame.bind (kG _ _) fun tb=>?_;split
  . exact i6 _ _ _
  . exact .pure _
theorem nu:Tame PySem.stack:=.stack fun a=>.pure a
theorem yq(env:Env)(outer:List Env):Tame (behindIsImport env outer):=by
  unfold behindIsImport;split
  . exact .pure _
  . split
    . exact .pure _
    . exact Tame.bind (kG _ _) fun _=>.pure _
theorem Cq(env:Env)(b:Bool):∀ l,Tame (keptBack env b l)
  | []=>by
    show Tame (if (env.scope.isGenerator||env.scope.isCoroutine)=true then Pure.pure Value.none else _);split
    . exact .pure _
    . refine Tame.bind ?_ fun x=>?_
      . unfold underTheClaimsCaller;exact Tame.bind nu fun _=>.pure _
      . exact .pure _
  | c::r=>.pure _
theorem rI:∀ l,Tame (readyFrames l)
  | []=>.pure _
  | env::outer=>by
    unfold readyFrames;split
    . refine Tame.bind (oG _) fun o=>?_;split
      . exact .pure _
      . refine Tame.bind (yq _ _) fun _=>Tame.bind (Cq _ _ _) fun _=>Tame.bind (qj _ (AX _)) fun _=>rI outer
    . exact .unsupported _
theorem qQ:∀ l,Tame (frameObject l)
  | []=>.pure _
  | env::outer=>by unfold frameObject;exact Tame.bind (rI _) fun _=>.pure _
theorem oH(env:Env):Tame (frameOf env):=by
  unfold frameOf;refine Tame.bind (Tame.bind nu fun _=>.pure _) fun l=>Tame.bind (qQ _) fun x=>?_;split
  . exact .pure _
  . exact .unsupported _
theorem rJ(f:Addr)(b:Bool):Tame (entryPlaceOf f b):=by
  unfold entryPlaceOf;refine Tame.bind nu fun a=>?_;split<;>exact .pure _
theorem rK(a b c d e:Value)(l:List Value):Tame (EntryCells.newEntry a b c d e l):=by
  have al:∀ o:Obj,Tame (do let a <- PySem.alloc o;Pure.pure (Value.ref a)):=fun o=>Tame.bind (.alloc fun a=>.pure a) fun a=>.pure _;unfold EntryCells.newEntry newFields newObj newObjAsIs;dsimp only;generalize (if l.isEmpty=true then List.replicate 6 Value.none else l)=l';split
  . exact Tame.bind (.unsupported _) fun _=>al _
  . exact al _
theorem Cr(e:Value)(env:Env):Tame (noteFrame e env):=by
  unfold noteFrame;split
  . refine Tame.bind (kG _ _) fun head=>?_;split
    . refine Tame.bind (kG _ _) fun x=>?_;split
      . exact .pure _
      . refine Tame.bind (i6 _ _ _) fun _=>Tame.bind (oH _) fun _=>Tame.bind (rJ _ _) fun _=>Tame.bind (rK ..) fun _=>i6 _ _ _
    . refine Tame.bind (oH _) fun _=>Tame.bind (rJ _ _) fun _=>Tame.bind (rK ..) fun _=>i6 _ _ _
  . exact .unsupported _
open PySem.Spec PyProof.Rows L2
abbrev SV:=L2.St
noncomputable def wq(a C:Addr):HO:=.ext fun h=>∃ o vs,h.get? a=some o/\o.cls=.ref C/\o.dict=none/\o.data=.fields vs
mutual
inductive Rp (K:PySem.W.Frag) (cl:Nat->Addr) (Hf:Hp):V->PV->Prop where
  | bf:Rp K cl Hf .bf .bf
  | bl (b:Bool):Rp K cl Hf (.bl b) (.bl b)
  | int (i:Int):Rp K cl Hf (.int i) (.int i)
  | str (x:Str):Rp K cl Hf (.str x) (.str x)
  | tup {a:Addr}{xs:List V}{ps:List PV} (h:jk K Hf a xs) (r:cy K cl Hf xs ps):Rp K cl Hf (.ref a) (.tup ps)
  | lst {a:Addr}{xs:List V}{ps:List PV} (h:f7 K Hf a xs) (r:cy K cl Hf xs ps):Rp K cl Hf (.ref a) (.lst ps)
  | exc {a:Addr}{c:Nat} (h:Hf a=some (wq a (cl c))):Rp K cl Hf (.ref a) (.exc c)
  | iI {a:Addr} (h:Hf a=some (.dK [])):Rp K cl Hf (.ref a) .iI
  | ins {a dx:Addr}{c:Nat} (h:Hf a=some (.ins (cl c) dx [])):Rp K cl Hf (.ref a) (.ins c)
inductive cy (K:PySem.W.Frag) (cl:Nat->Addr) (Hf:Hp):List V->List PV->Prop where
  | nil:cy K cl Hf [] []
  | cons {v:V}{p:PV}{vs:List V}{ps:List PV} (r:Rp K cl Hf v p) (t:cy K cl Hf vs ps):cy K cl Hf (v::vs) (p::ps)
end
section
variable {K:PySem.W.Frag}{cl:Nat->Addr}{Hf az:Hp}
theorem bc.dZ(e:bc H H')(h:jk K H a xs):jk K H' a xs:=by
  rcases h with(h | ⟨o,h⟩) | h
  . exact .inl (.inl (e _ _ h))
  . exact .inl (.inr ⟨o,e _ _ h⟩)
  . exact .inr h
mutual
theorem Rp.keep(s:bc Hf az):∀{v:V}{p:PV},Rp K cl Hf v p->Rp K cl az v p
  | _,_,.bf=>.bf
  | _,_,.bl b=>.bl b
  | _,_,.int i=>.int i
  | _,_,.str x=>.str x
  | _,_,.tup h r=>.tup (bc.dZ s h) (cy.keep s r)
  | _,_,.lst h r=>.lst (s.seq h) (cy.keep s r)
  | _,_,.exc h=>.exc (s _ _ h)
  | _,_,.iI h=>.iI (s _ _ h)
  | _,_,.ins h=>.ins (s _ _ h)
theorem cy.keep(s:bc Hf az):∀{vs:List V}{ps:List PV},cy K cl Hf vs ps->cy K cl az vs ps
  | _,_,.nil=>.nil
  | _,_,.cons r t=>.cons (Rp.keep s r) (cy.keep s t)
end
theorem cy.length:∀{vs:List V}{ps:List PV},cy K cl Hf vs ps->vs.length=ps.length
  | _,_,.nil=>rfl
  | _,_,.cons _ t=>Z9 (·+1) (cy.length t)
theorem cy.get:∀{vs:List V}{ps:List PV}{i:Nat}{p:PV},cy K cl Hf vs ps->ps[i]?=some p->∃ v,vs[i]?=some v/\Rp K cl Hf v p
  | _,_,_,_,.nil,e=>by simp at e
  | _,_,0,_,.cons r _,e=>by simp at e;subst e;exact⟨_,rfl,r⟩
  | _,_,i+1,p,.cons _ t,e=>by
    obtain⟨v,h1,h2⟩:=cy.get (i:=i) (p:=p) t (by simpa using e);exact⟨v,by simpa using h1,h2⟩
theorem cy.get':∀{vs:List V}{ps:List PV}{i:Nat}{v:V},cy K cl Hf vs ps->vs[i]?=some v->∃ p,ps[i]?=some p/\Rp K cl Hf v p
  | _,_,_,_,.nil,e=>by simp at e
  | _,_,0,_,.cons r _,e=>by simp at e;subst e;exact⟨_,rfl,r⟩
  | _,_,i+1,v,.cons _ t,e=>by
    obtain⟨p,h1,h2⟩:=cy.get' (i:=i) (v:=v) t (by simpa using e);exact⟨p,by simpa using h1,h2⟩
theorem cy.append:∀{vs ws:List V}{ps qs:List PV},cy K cl Hf vs ps->cy K cl Hf ws qs->cy K cl Hf (vs++ws) (ps++qs)
  | _,_,_,_,.nil,s=>s
  | _,_,_,_,.cons r t,s=>.cons r (cy.append t s)
theorem cy.take:∀{vs:List V}{ps:List PV}(n:Nat),cy K cl Hf vs ps->cy K cl Hf (vs.take n) (ps.take n)
  | _,_,0,_=>.nil
  | _,_,_+1,.nil=>.nil
  | _,_,n+1,.cons r t=>.cons r (cy.take n t)
theorem cy.drop:∀{vs:List V}{ps:List PV}(n:Nat),cy K cl Hf vs ps->cy K cl Hf (vs.drop n) (ps.drop n)
  | _,_,0,r=>r
  | _,_,_+1,.nil=>.nil
  | _,_,n+1,.cons _ t=>cy.drop n t
theorem cy.ints:∀(ns:List Int),cy K cl Hf (ns.map V.int) (ns.map PV.int)
  | []=>.nil
  | n::r=>.cons (.int n) (cy.ints r)
end
structure Ext(Hf H az H':Hp):Prop where
  all:bc H H'
  cj:bc Hf az
  sub:bc az H'
  old:∀ b,H b≠none->az b=Hf b
theorem Ext.refl(s:bc Hf H):Ext Hf H Hf H:=⟨bc.refl _,bc.refl _,s,fun _ _=>rfl⟩
theorem Ext.trans(a:Ext Hf H aM H1)(b:Ext aM H1 cX H2):Ext Hf H cX H2 :=
  ⟨a.all.trans b.all,a.cj.trans b.cj,b.sub,fun c n=>by
    have n1:H1 c≠none:=by
      cases e:H c with
      | none=>exact absurd e n
      | some o=>rw[a.all c o e];intro z;cases z
    rw[b.old c n1,a.old c n]⟩
theorem ez{H:Hp}{p:Addr}(h:H p=none)(o:HO):bc H (upd H p o):=fun b u q=>by rw[bJ (gF q h)];exact q
theorem Ext.new(s:bc Hf H){p:Addr}(h:H p=none)(o:HO):Ext Hf H (upd Hf p o) (upd H p o):=by
  have hf:Hf p=none:=s.free h;refine⟨ez h o,ez hf o,fun b u q=>?_,fun b n=>?_⟩
  . by_cases e:b=p
    . subst e;rw[bU]at q ⊢;exact q
    . rw[bJ e]at q ⊢;exact s b u q
  . rw[bJ (fun e=>n (by rw[e];exact h))]
theorem Ext.wt(s:bc Hf H){p:Addr}(h:H p=none)(o:HO):Ext Hf H Hf (upd H p o) :=
  ⟨ez h o,bc.refl _,fun b u q=>ez h o b u (s b u q),fun _ _=>rfl⟩
def Slot(K:PySem.W.Frag)(cl:Nat->Addr)(H0 Hf H:Hp)(v:V):PV->Prop
  | .own ps=>∃ a xs,v=.ref a/\H a=some (.lst xs)/\Hf a=none/\H0 a=none/\cy K cl Hf xs ps
  | p=>Rp K cl Hf v p
structure Rep(K:PySem.W.Frag)(cl:Nat->Addr)(aK H0 Hf H:Hp)(σ:SV)(ρ:aJ):Prop where
  ext:Ext aK H0 Hf H
  slot:∀(i:Nat)(p:PV),ρ[i]?=some (some p)->∃ v,σ[i]?=some (some v)/\Slot K cl H0 Hf H v p
  dist:∀(i j:Nat)(ps qs:List PV)(a:Addr),ρ[i]?=some (some (.own ps))->ρ[j]?=some (some (.own qs))->σ[i]?=some (some (.ref a))->σ[j]?=some (some (.ref a))->i=j
section
variable {K:PySem.W.Frag}{cl:Nat->Addr}{aK H0 Hf H az H':Hp}{σ:SV}{ρ:aJ}
theorem Rep.sub(r:Rep K cl aK H0 Hf H σ ρ):bc Hf H:=r.ext.sub
theorem Slot.keep(e:Ext Hf H az H')(h:Slot K cl H0 Hf H v p):Slot K cl H0 az H' v p:=by
  cases p with
  | own ps =>
    obtain⟨a,xs,e1,e2,e3,e4,e5⟩:=h;exact⟨a,xs,e1,e.all _ _ e2,by rw[e.old a (by rw[e2];intro z;cases z)];exact e3,e4,e5.keep e.cj⟩
  | _=>exact Rp.keep e.cj h
theorem Rep.keep(r:Rep K cl aK H0 Hf H σ ρ)(e:Ext Hf H az H'):Rep K cl aK H0 az H' σ ρ :=
  ⟨r.ext.trans e,fun i p h=>by
    obtain⟨v,h1,h2⟩:=r.slot i p h;exact⟨v,h1,h2.keep e⟩,r.dist⟩
theorem uE:∀{ρ:aJ}{i:Nat}{p:PV},jr ρ i=.ok p->ρ[i]?=some (some p)/\∀ l,p≠.own l
  | [],_,_,h=>by simp[jr]at h
  | o::r,0,p,h=>by
    have h':cI o=.ok p:=h;cases o with
    | none=>simp[cI]at h'
    | some q =>
      cases q<;>first
        | (simp[cI]at h';done)
        | (simp only[cI]at h';cases h';exact⟨rfl,fun l z=>by cases z⟩)
  | o::r,i+1,p,h=>by
    obtain⟨a,b⟩:=uE (ρ:=r) (i:=i) (p:=p) h;exact⟨by simpa using a,b⟩
theorem rL:∀{ρ:aJ}{i:Nat}{c:Nat},jr ρ i≠.exc c
  | [],_,_,h=>by simp[jr]at h
  | o::r,0,c,h=>by
    have h':cI o=.exc c:=h;cases o with
    | none=>simp[cI]at h'
    | some q=>cases q<;>simp[cI]at h'
  | o::r,i+1,c,h=>rL (ρ:=r) (i:=i) (c:=c) h
theorem Rep.var(r:Rep K cl aK H0 Hf H σ ρ){p:PV}(h:jr ρ i=.ok p):∃ v,σ[i]?=some (some v)/\Rp K cl Hf v p:=by
  obtain⟨e,n⟩:=uE h;obtain⟨v,h1,h2⟩:=r.slot i p e;refine⟨v,h1,?_⟩;cases p with
  | own l=>exact absurd rfl (n l)
  | _=>exact h2
theorem Rep.set(r:Rep K cl aK H0 Hf H σ ρ)(i:Nat)(h:Rp K cl Hf v p)(hl:i<σ.length):Rep K cl aK H0 Hf H (σ.set i (some v)) (ρ.set i (some p)):=by
  have np:∀ l,p≠.own l:=fun l z=>by subst z;cases h
  refine⟨r.ext,fun j q hq=>?_,fun j k ps qs a h1 h2 h3 h4=>?_⟩
  . by_cases e:i=j
    . subst e;have hi:i<ρ.length:=by
        rw[aah]at hq;by_cases hh:i<ρ.length
        . exact hh
        . simp[hh]at hq
      rw[Y0 hi]at hq;cases hq;refine⟨v,by rw[Y0 hl],?_⟩;cases p with
      | own l=>exact absurd rfl (np l)
      | _=>exact h
    . rw[YR e]at hq;obtain⟨w,a,b⟩:=r.slot j q hq;exact⟨w,by rw[YR e];exact a,b⟩
  . have ne:∀{m:Nat}{l:List PV},(ρ.set i (some p))[m]?=some (some (.own l))->i≠m:=fun{m l} hm z=>by
      subst z;have hi:i<ρ.length:=by
        rw[aah]at hm;by_cases hh:i<ρ.length
        . exact hh
        . simp[hh]at hm
      rw[Y0 hi]at hm;cases hm;exact np l rfl
    have n1:=ne h1;have n2:=ne h2
    rw[YR n1]at h1 h3;rw[YR n2]at h2 h4;exact r.dist j k ps qs a h1 h2 h3 h4
end
def iT(X:Cx)(pins:List (Addr×Obj))(H:Hp)(b:Addr):Prop :=
  H b≠none\/(∃ p∈X.pn++pins,p.1=b)\/(∃ o,X.s₀.heap.get? b=some o)\/∃ x,X.env.cells.lookup x=some b
def lV(X:Cx)(pins:List (Addr×Obj))(H:Hp)(B h:Heap):Prop:=∀ b o,h.get? b=some o->iT X pins H b->b ∉ fq X.stack->B.get? b=some o
def wu(B:Heap)(l:List Env)(e:Addr)(cls a0:Value)(h:Heap):Prop :=
  B.StaysIn h/\B.get? e=none/\h.FunFrames B l/\∃ oe vs,h.get? e=some oe/\oe.cls=cls/\oe.dict=none/\oe.data=.fields vs/\vs[0]?=some a0/\vs[1]?=some .none
def kz(e:Addr)(h:Heap):Prop:=∃ o,h.get? e=some o/\o.dict=none
def nV(X:Cx)(pins:List (Addr×Obj))(H:Hp)(e C:Addr)(h:Heap):Prop :=
  ∃ B a0,lV X pins H B h/\kz e h/\(wu B X.stack e (.ref C) a0 h\/Heap.HeldW B X.stack e (.ref C) a0 X.env.locals h\/Heap.FlyingW B X.stack e (.ref C) a0 h)
def Cs(X:Cx)(cl:Nat->Addr)(pins:List (Addr×Obj))(σ:SV)(Hf H:Hp)(c:Nat)(u:Value)(s:Shared):Prop :=
  ∃ e az H',u=.ref e/\Inv X pins σ H' s/\Ext Hf H az H'/\nV X pins H' e (cl c) s.heap
theorem Cs.from{cl:Nat->Addr} (e:Ext Hf H aM H1) (x:Cs X cl pins σ aM H1 c u s):Cs X cl pins σ Hf H c u s:=by
  obtain⟨a,az,H',h1,h2,h3,h4⟩:=x;exact⟨a,az,H',h1,h2,e.trans h3,h4⟩
section
variable (X:Cx) (cl:Nat->Addr)
def gb(pins:List (Addr×Obj))(σ:SV)(Hf H:Hp)(r:R PV)(u:Value)(s:Shared):Prop :=
  ∃ p v az H',r=.ok p/\Inv X pins σ H' s/\RelV v u/\Ext Hf H az H'/\Rp X.K cl az v p
def dk{α:Type}(pins:List (Addr×Obj))(σ:SV)(Hf H:Hp)(r:R α)(u:Value)(s:Shared):Prop :=
  ∃ c,r=.exc c/\Cs X cl pins σ Hf H c u s
def qk(pins:List (Addr×Obj))(σ:SV)(Hf H:Hp)(r:R Bool)(b:Bool)(s:Shared):Prop :=
  ∃ az H',r=.ok b/\Inv X pins σ H' s/\Ext Hf H az H'
def T6(pins:List (Addr×Obj))(σ:SV)(Hf H:Hp)(r:R (List PV))(us:List Value)(s:Shared):Prop :=
  ∃ ps vs az H',r=.ok ps/\Inv X pins σ H' s/\Vals vs us/\Ext Hf H az H'/\cy X.K cl az vs ps
structure ME(e:Expr)(f:FE):Prop where
  run':∀(pins:List (Addr×Obj))(s:Shared)(σ:SV)(aK H0 Hf H:Hp)(ρ:aJ),Inv X pins σ H s->Rep X.K cl aK H0 Hf H σ ρ->f ρ≠.stuck ->
    wpAny (model X.prog X.w) X.A (eval e X.env) (gb X cl pins σ Hf H (f ρ)) (dk X cl pins σ Hf H (f ρ)) s
noncomputable instance {e:Expr}{f:FE}:CoeFun (ME X cl e f) fun _=>∀(pins:List (Addr×Obj))(s:Shared)(σ:SV)(aK H0 Hf H:Hp)(ρ:aJ),Inv X pins σ H s->Rep X.K cl aK H0 Hf H σ ρ->f ρ≠.stuck ->
    wpAny (model X.prog X.w) X.A (eval e X.env) (gb X cl pins σ Hf H (f ρ)) (dk X cl pins σ Hf H (f ρ)) s:=⟨ME.run'⟩
structure MT(e:Expr)(f:FT):Prop where
  run':∀(pins:List (Addr×Obj))(s:Shared)(σ:SV)(aK H0 Hf H:Hp)(ρ:aJ),Inv X pins σ H s->Rep X.K cl aK H0 Hf H σ ρ->f ρ≠.stuck ->
    wpAny (model X.prog X.w) X.A (isTrue e X.env (eval e X.env)) (qk X pins σ Hf H (f ρ)) (dk X cl pins σ Hf H (f ρ)) s
noncomputable instance {e:Expr}{f:FT}:CoeFun (MT X cl e f) fun _=>∀(pins:List (Addr×Obj))(s:Shared)(σ:SV)(aK H0 Hf H:Hp)(ρ:aJ),Inv X pins σ H s->Rep X.K cl aK H0 Hf H σ ρ->f ρ≠.stuck ->
    wpAny (model X.prog X.w) X.A (isTrue e X.env (eval e X.env)) (qk X pins σ Hf H (f ρ)) (dk X cl pins σ Hf H (f ρ)) s:=⟨MT.run'⟩
end
section
variable {X:Cx}{cl:Nat->Addr}{pins:List (Addr×Obj)}{s:Shared}{σ:SV}{aK H0 Hf H aM H1:Hp}{ρ:aJ}{α:Type}
theorem ME.run(h:ME X cl e f)(I:Inv X pins σ H1 s)(r:Rep X.K cl aK H0 aM H1 σ ρ)(e0:Ext Hf H aM H1){k:PV->R α}(hs:(f ρ).bind k≠.stuck){Q:Value->Shared->Prop}
    (ok:∀ p v u s' az H',(f ρ).bind k=k p->Inv X pins σ H' s'->RelV v u->Ext aM H1 az H'->Rp X.K cl az v p->Q u s') :
    wpAny (model X.prog X.w) X.A (eval e X.env) Q (dk X cl pins σ Hf H ((f ρ).bind k)) s:=by
  have hf:f ρ≠.stuck:=fun z=>hs (by rw[z];rfl);refine YA (h pins s σ aK H0 aM H1 ρ I r hf) (fun u s' q=>?_) fun u s' q=>?_
  . obtain⟨p,v,az,H',e1,I',rv,ex,rp⟩:=q;exact ok p v u s' az H' (by rw[e1];rfl) I' rv ex rp
  . obtain⟨c,e1,x⟩:=q;exact⟨c,by rw[e1];rfl,x.from e0⟩
theorem Gx{E:Value->Shared->Prop}
    (h:wpAny (model X.prog X.w) X.A t (EP (X.bP E) pins σ fun v H'=>∃ az,Ext Hf H az H'/\Rp X.K cl az v p) E s):wpAny (model X.prog X.w) X.A t (gb X cl pins σ Hf H (.ok p)) E s :=
  ie h fun u s' ⟨v,H',I',rv,az,ex,rp⟩=>⟨p,v,az,H',rfl,I'.kX,rv,ex,rp⟩
theorem gb.from{e0:Ext Hf H aM H1}(h:gb X cl pins σ aM H1 r u s'):gb X cl pins σ Hf H r u s':=by
  obtain⟨p,v,az,H',e1,I',rv,ex,rp⟩:=h;exact⟨p,v,az,H',e1,I',rv,e0.trans ex,rp⟩
theorem dk.from{e0:Ext Hf H aM H1}{r:R α}(h:dk X cl pins σ aM H1 r u s'):dk X cl pins σ Hf H r u s':=by
  obtain⟨c,e1,x⟩:=h;exact⟨c,e1,x.from e0⟩
theorem Ka{i:Nat}{x:Str}{pos:Pos}(hN:X.N[i]?=some x)(hv:ou X.env.scope x) (hd:autoParam ((x ==("__debug__" : Str))=false) w_) (ey:autoParam ((x ==("__classdict__" : Str))=false) w_) :
    ME X cl (.Name x pos) (ae i):=by
  refine⟨?_⟩;intro pins s σ aK H0 Hf H ρ I r hs;unfold ae at hs ⊢;cases e:jr ρ i with
  | stuck=>exact absurd e hs
  | exc c=>exact absurd e rL
  | ok p =>
    obtain⟨v,h1,h2⟩:=r.var e;generalize dk X cl pins σ Hf H (R.ok p)=E;refine Gx ?_;refine(JS (X:=X.bP E) hN hv hd ey) pins s σ H _ (I.bP E) ?_;exact⟨v,h1,Hf,Ext.refl r.sub,h2⟩
theorem lb(h:∀ E,PE (X.bP E) e (tC v))(r:∀ Hf,Rp X.K cl Hf v p):ME X cl e (fC p):=by
  refine⟨?_⟩;intro pins s σ aK H0 Hf H ρ I rr hs;generalize dk X cl pins σ Hf H (fC p ρ)=E;refine Gx ?_;refine h E pins s σ H _ (I.bP E) ?_;exact⟨Hf,Ext.refl rr.sub,r Hf⟩
theorem ag{i:Int}{j:Nat}{pos:Pos}:ME X cl (.Constant (.int i) j pos) (fC (.int i)):=lb (fun _=>JT) fun _=>.int i
theorem i7{b:Bool}{j:Nat}{pos:Pos}:ME X cl (.Constant (.bool b) j pos) (fC (.bl b)):=lb (fun _=>NW) fun _=>.bl b
theorem ka{j:Nat}{pos:Pos}:ME X cl (.Constant .none j pos) (fC .bf):=lb (fun _=>JU) fun _=>.bf
theorem aR{x:Str}{j:Nat}{pos:Pos}:ME X cl (.Constant (.str x) j pos) (fC (.str x)):=lb (fun _=>JV) fun _=>.str x
theorem IA{u:Value}{pos:Pos} (hg:Gl X x) (hm:X.mg x=some u) (rv:RelV v u) (r:∀ Hf,Rp X.K cl Hf v p) (hd:autoParam ((x ==("__debug__" : Str))=false) w_):ME X cl (.Name x pos) (fC p) :=
  lb (fun _=>Ir hg hm rv hd) r
def dQ(X:Cx)(cl:Nat->Addr)(f:Value->Value->Sem Value)(o:PV->PV->R PV):Prop :=
  ∀(pins:List (Addr×Obj))(s:Shared)(σ:SV)(Hf H:Hp)(x y:V)(v u:Value)(p q:PV),Inv X pins σ H s->bc Hf H->RelV x v->RelV y u->Rp X.K cl Hf x p->Rp X.K cl Hf y q->o p q≠.stuck ->
    wpAny (model X.prog X.w) X.A (f v u) (gb X cl pins σ Hf H (o p q)) (dk X cl pins σ Hf H (o p q)) s
theorem two{f:Value->Value->Sem Value}{o:PV->PV->R PV} (ha:ME X cl a fa) (hb:ME X cl b fb) (rule:dQ X cl f o) (I:Inv X pins σ H s) (r:Rep X.K cl aK H0 Hf H σ ρ) (hs:ah o fa fb ρ≠.stuck) :
    wpAny (model X.prog X.w) X.A (eval a X.env) (fun v s₁=>wpAny (model X.prog X.w) X.A (eval b X.env) (fun u s₂=>wpAny (model X.prog X.w) X.A (f v u)
      (gb X cl pins σ Hf H (ah o fa fb ρ)) (dk X cl pins σ Hf H (ah o fa fb ρ)) s₂) (dk X cl pins σ Hf H (ah o fa fb ρ)) s₁) (dk X cl pins σ Hf H (ah o fa fb ρ)) s:=by
  unfold ah at hs ⊢;refine ha.run I r (Ext.refl r.sub) hs fun p v u s1 aM H1 e1 I1 rv x1 rp=>?_;rw[e1]at hs ⊢;refine hb.run I1 (r.keep x1) x1 hs fun q v' u' s2 cX H2 e2 I2 fN x2 rq=>?_;rw[e2]at hs ⊢;exact YA (rule pins s2 σ cX H2 v v' u u' p q I2 x2.sub rv fN (rp.keep x2.cj) rq hs) (fun _ _ h=>h.from (e0:=x1.trans x2)) fun _ _ h=>h.from (e0:=x1.trans x2)
theorem aA{o:PV->PV->R PV}{pos:Pos} (rule:dQ X cl (binaryOp op) o) (ha:ME X cl a fa) (hb:ME X cl b fb):ME X cl (.BinOp a op b pos) (ah o fa fb):=by
  refine⟨?_⟩;intro pins s σ aK H0 Hf H ρ I r hs;exact wpAny_BinOp (two ha hb rule I r hs)
theorem dh{a b:Expr}{o:PV->PV->R PV}{pos:Pos}(rule:dQ X cl (compareOp op) o)(ha:ME X cl a fa)(hb:ME X cl b fb)(hm:behindInMarks op b=false):ME X cl (.Compare a [op] [b] pos) (ah o fa fb):=by
  refine⟨?_⟩;intro pins s σ aK H0 Hf H ρ I r hs;exact acs (two ha hb rule I r hs) hm
def Kb(X:Cx)(cl:Nat->Addr)(f:Value->Sem Value)(o:PV->R PV):Prop :=
  ∀(pins:List (Addr×Obj))(s:Shared)(σ:SV)(Hf H:Hp)(x:V)(v:Value)(p:PV),Inv X pins σ H s->bc Hf H->RelV x v->Rp X.K cl Hf x p->o p≠.stuck ->
    wpAny (model X.prog X.w) X.A (f v) (gb X cl pins σ Hf H (o p)) (dk X cl pins σ Hf H (o p)) s
theorem fU{o:PV->R PV}{pos:Pos} (rule:Kb X cl (unaryOp op) o) (ha:ME X cl a fa):ME X cl (.UnaryOp op a pos) (eU o fa):=by
  refine⟨?_⟩;intro pins s σ aK H0 Hf H ρ I r hs;unfold eU at hs ⊢;refine UnaryOp_ (ha.run I r (Ext.refl r.sub) hs fun p v u s1 aM H1 e1 I1 rv x1 rp=>?_);rw[e1]at hs ⊢;exact YA (rule pins s1 σ aM H1 v u p I1 x1.sub rv rp hs) (fun _ _ h=>h.from (e0:=x1)) fun _ _ h=>h.from (e0:=x1)
theorem mn{f:Value->Value->Sem Value}{o:PV->PV->R PV}(C:Int->Int->Prop)(g:Int->Int->Int)(ho:∀ p q,o p q≠.stuck->∃ i j,p=.int i/\q=.int j/\C i j/\o p q=.ok (.int (g i j)))
    (rule:∀(i j:Int)(t u:Tok)(s:Shared)(Q:Value->Shared->Prop)(E:Value->Shared->Prop),C i j->Q (.int (g i j) s.toks) { s with toks:=s.toks+1 }->wpAny (model X.prog X.w) X.A (f (.int i t) (.int j u)) Q E s):dQ X cl f o:=by
  intro pins s σ Hf H x y v u p q I sm rv ru rp rq hs;obtain⟨i,j,rfl,rfl,hc,e⟩:=ho p q hs;rw[e];cases rp;cases rq;obtain⟨t,rfl⟩:=rv;obtain⟨t',rfl⟩:=ru;exact rule i j t t' s _ _ hc ⟨_,.int (g i j),Hf,H,rfl,I.tok _,⟨_,rfl⟩,Ext.refl sm,.int _⟩
theorem AY{f:Value->Value->Sem Value}{o:PV->PV->R PV}(g:Int->Int->Bool)(ho:∀ p q,o p q≠.stuck->∃ i j,p=.int i/\q=.int j/\o p q=.ok (.bl (g i j)))
    (rule:∀(i j:Int)(t u:Tok)(s:Shared)(Q:Value->Shared->Prop)(E:Value->Shared->Prop),Q (.bool (g i j)) s->wpAny (model X.prog X.w) X.A (f (.int i t) (.int j u)) Q E s):dQ X cl f o:=by
  intro pins s σ Hf H x y v u p q I sm rv ru rp rq hs;obtain⟨i,j,rfl,rfl,e⟩:=ho p q hs;rw[e];cases rp;cases rq;obtain⟨t,rfl⟩:=rv;obtain⟨t',rfl⟩:=ru;exact rule i j t t' s _ _ ⟨_,.bl (g i j),Hf,H,rfl,I,rfl,Ext.refl sm,.bl _⟩
end
theorem two_pow_pos'(k:Nat):(0:Int)<2 ^ k:=ach (by decide)
section
variable {X:Cx}{cl:Nat->Addr}
theorem cY:dQ X cl (binaryOp .Sub) dB:=mn (fun _ _=>True) (fun i j=>i - j)
  (fun p q h=>by cases p<;>cases q<;>first | exact⟨_,_,rfl,rfl,trivial,rfl⟩ | exact absurd rfl h) fun _ _ _ _ _ _ _ _ q=>sub_int q
theorem eo{c:Prop}[Decidable c]{a:PV}(h:(if c then R.ok a else R.stuck)≠.stuck):c/\(if c then R.ok a else R.stuck)=.ok a:=by
  by_cases hc:c
  . exact⟨hc,Yy hc⟩
  . rw[Yx hc]at h;exact absurd rfl h
theorem i8:dQ X cl (binaryOp .Mult) js:=mn (fun i j=>nb i<=64\/nb j<=64\/nb i+nb j<=tQ) (fun i j=>i*j)
  (fun p q h=>by
    cases p<;>cases q<;>first
      | exact absurd rfl h
      | exact⟨_,_,rfl,rfl,(eo h).1,(eo h).2⟩) fun i j _ _ _ _ _ hc q=>mul_int q (by
    rcases hc with hc | hc | hc
    . exact .of_left hc
    . exact .of_right hc
    . exact .of_le (YD _) (YD _) hc)
theorem eI:dQ X cl (binaryOp .Mod) oMod:=mn (fun _ j=>0<j) (fun i j=>i%j)
  (fun p q h=>by
    cases p<;>cases q<;>first
      | exact absurd rfl h
      | exact⟨_,_,rfl,rfl,(eo h).1,(eo h).2⟩) fun i j _ _ _ _ _ hc q=>mod_int' (by omega) (by rw[Int.fmod_eq_emod_of_nonneg i (by omega)];exact q)
theorem AZ{j:Int}{k:Nat}(h0:j≠0)(h:nb j<=k):j.natAbs.log2<k:=by
  have e:nb j=j.natAbs.log2+1:=by
    show(if j == 0 then 0 else j.natAbs.log2+1)=_;rw[Yx (by simpa using h0)]
  omega
theorem gK:dQ X cl (binaryOp .FloorDiv) oDiv:=mn (fun _ j=>0<j/\nb j<=9000) (fun i j=>i/j)
  (fun p q h=>by
    cases p<;>cases q<;>first
      | exact absurd rfl h
      | exact⟨_,_,rfl,rfl,(eo h).1,(eo h).2⟩) fun i j _ _ _ _ _ hc q=>floordiv_int (by omega) (by rw[abH i (by omega)];exact q)
        (.inl (abX (AZ (by omega) hc.2)))
theorem wA{j:Int}{k:Nat}(h:nb j<=k):j.natAbs<2 ^ k:=PySem.intBits_le_iff.mp h
theorem Gy:dQ X cl (binaryOp .Pow) AU:=mn (fun i j=>0<=j/\j<=1000000/\nb i<=64) (fun i j=>i ^ j.toNat)
  (fun p q h=>by
    cases p<;>cases q<;>first
      | exact absurd rfl h
      | exact⟨_,_,rfl,rfl,(eo h).1,(eo h).2⟩) fun i j _ _ _ _ _ hc q=>pow_int_small hc.1 hc.2.1 (wA hc.2.2) q
theorem eJ:dQ X cl (binaryOp .LShift) fA:=mn (fun i j=>0<=j/\nb i+j<=134217728) (fun i j=>i*2 ^ j.toNat)
  (fun p q h=>by
    cases p<;>cases q<;>first
      | exact absurd rfl h
      | exact⟨_,_,rfl,rfl,(eo h).1,(eo h).2⟩) fun i j _ _ _ _ _ hc q=>lshift_int hc.1 hc.2 q
theorem A0:dQ X cl (binaryOp .RShift) wa:=mn (fun _ j=>0<=j) (fun i j=>i/2 ^ j.toNat)
  (fun p q h=>by
    cases p<;>cases q<;>first
      | exact absurd rfl h
      | exact⟨_,_,rfl,rfl,(eo h).1,(eo h).2⟩) fun i j _ _ _ _ _ hc q=>rshift_int hc (by rw[abH i (YF (two_pow_pos' _))];exact q)
theorem rM:dQ X cl (binaryOp .BitAnd) qP:=mn (fun _ _=>True) (fun i j=>Builtin.bitAnd i j)
  (fun p q h=>by cases p<;>cases q<;>first | exact⟨_,_,rfl,rfl,trivial,rfl⟩ | exact absurd rfl h) fun _ _ _ _ _ _ _ _ q=>and_int q
theorem EG:dQ X cl (binaryOp .BitOr) Ci:=mn (fun _ _=>True) (fun i j=>Builtin.bitOr i j)
  (fun p q h=>by cases p<;>cases q<;>first | exact⟨_,_,rfl,rfl,trivial,rfl⟩ | exact absurd rfl h) fun _ _ _ _ _ _ _ _ q=>or_int q
theorem N5:dQ X cl (binaryOp .BitXor) EF:=mn (fun _ _=>True) (fun i j=>Builtin.bitXor i j)
  (fun p q h=>by cases p<;>cases q<;>first | exact⟨_,_,rfl,rfl,trivial,rfl⟩ | exact absurd rfl h) fun _ _ _ _ _ _ _ _ q=>xor_int q
theorem iK:dQ X cl (compareOp .Lt) jt:=AY (fun i j=>decide (i<j))
  (fun p q h=>by cases p<;>cases q<;>first | exact⟨_,_,rfl,rfl,rfl⟩ | exact absurd rfl h) fun _ _ _ _ _ _ _ q=>lt_int q
theorem EH:dQ X cl (compareOp .LtE) Cj:=AY (fun i j=>decide (i<=j))
  (fun p q h=>by cases p<;>cases q<;>first | exact⟨_,_,rfl,rfl,rfl⟩ | exact absurd rfl h) fun _ _ _ _ _ _ _ q=>le_int q
theorem A1:dQ X cl (compareOp .Gt) qi:=AY (fun i j=>decide (j<i))
  (fun p q h=>by cases p<;>cases q<;>first | exact⟨_,_,rfl,rfl,rfl⟩ | exact absurd rfl h) fun _ _ _ _ _ _ _ q=>gt_int q
theorem EI:dQ X cl (compareOp .GtE) Ck:=AY (fun i j=>decide (j<=i))
  (fun p q h=>by cases p<;>cases q<;>first | exact⟨_,_,rfl,rfl,rfl⟩ | exact absurd rfl h) fun _ _ _ _ _ _ _ q=>ge_int q
theorem hJ:Kb X cl (unaryOp .USub) iJ:=by
  intro pins s σ Hf H x v p I sm rv rp hs;cases p with
  | int i =>
    cases rp;obtain⟨t,rfl⟩:=rv;exact neg_int ⟨_,.int (-i),Hf,H,rfl,I.tok _,⟨_,rfl⟩,Ext.refl sm,.int _⟩
  | _=>exact absurd rfl hs
end
section
variable {X:Cx}{cl:Nat->Addr}{pins:List (Addr×Obj)}{s:Shared}{σ:SV}{aK H0 Hf H aM H1:Hp}{ρ:aJ}{α:Type}
structure MW(X:Cx)(cl:Nat->Addr)(e:Expr)(f:FT):Prop where
  run':∀(whole:Sem Value)(pins:List (Addr×Obj))(s:Shared)(σ:SV)(aK H0 Hf H:Hp)(ρ:aJ),Inv X pins σ H s->Rep X.K cl aK H0 Hf H σ ρ->f ρ≠.stuck ->
    wpAny (model X.prog X.w) X.A (isTrue e X.env whole) (qk X pins σ Hf H (f ρ)) (dk X cl pins σ Hf H (f ρ)) s
noncomputable instance {X:Cx}{cl:Nat->Addr}{e:Expr}{f:FT}:CoeFun (MW X cl e f) fun _=>∀(whole:Sem Value)(pins:List (Addr×Obj))(s:Shared)(σ:SV)(aK H0 Hf H:Hp)(ρ:aJ),Inv X pins σ H s->Rep X.K cl aK H0 Hf H σ ρ->f ρ≠.stuck ->
    wpAny (model X.prog X.w) X.A (isTrue e X.env whole) (qk X pins σ Hf H (f ρ)) (dk X cl pins σ Hf H (f ρ)) s:=⟨MW.run'⟩
theorem MW.mt(h:MW X cl e f):MT X cl e f:=⟨h.run' _⟩
theorem MT.run(h:MT X cl e f)(I:Inv X pins σ H1 s)(r:Rep X.K cl aK H0 aM H1 σ ρ)(e0:Ext Hf H aM H1){k:Bool->R α}(hs:(f ρ).bind k≠.stuck){Q:Bool->Shared->Prop}
    (ok:∀ c s' az H',(f ρ).bind k=k c->Inv X pins σ H' s'->Ext aM H1 az H'->Q c s') :
    wpAny (model X.prog X.w) X.A (isTrue e X.env (eval e X.env)) Q (dk X cl pins σ Hf H ((f ρ).bind k)) s:=by
  have hf:f ρ≠.stuck:=fun z=>hs (by rw[z];rfl);refine YA (h pins s σ aK H0 aM H1 ρ I r hf) (fun c s' q=>?_) fun u s' q=>?_
  . obtain⟨az,H',e1,I',ex⟩:=q;exact ok c s' az H' (by rw[e1];rfl) I' ex
  . obtain⟨c,e1,x⟩:=q;exact⟨c,by rw[e1];rfl,x.from e0⟩
theorem qk.from{e0:Ext Hf H aM H1}(h:qk X pins σ aM H1 r b s'):qk X pins σ Hf H r b s':=by
  obtain⟨az,H',e1,I',ex⟩:=h;exact⟨az,H',e1,I',e0.trans ex⟩
theorem qR{E:Value->Shared->Prop} (I:Inv X pins σ H s) (sm:bc Hf H) (rv:RelV v u) (rp:Rp X.K cl Hf v p) (hs:iR p≠.stuck) :
    wpAny (model X.prog X.w) X.A (truthy u) (qk X pins σ Hf H (iR p)) E s:=by
  cases p with
  | bf=>cases rp;cases rv;exact truthy_none ⟨Hf,H,rfl,I,Ext.refl sm⟩
  | bl b=>cases rp;cases rv;exact Zs ⟨Hf,H,rfl,I,Ext.refl sm⟩
  | int i=>cases rp;obtain⟨t,rfl⟩:=rv;exact PySem.P.truthy_int ⟨Hf,H,rfl,I,Ext.refl sm⟩
  | lst l =>
    cases rp with
    | lst h r =>
      cases rv;obtain⟨its,w,pl,z⟩:=I.list (sm.seq h);have hl:its.length=l.length:=by rw[<- w.length,r.length]
      have hz:l.length<=sizeLine:=by rw[<- r.length];exact z
      refine wpAny_truthy_list pl.isList (by
                                             rw[YN,hl];have:sizeLine<2 ^ 63:=by decide
                                             omega) ⟨Hf,H,?_,I.tok _,Ext.refl sm⟩
      show R.ok (!l.isEmpty)=R.ok _;congr 1;cases its with
      | nil=>cases l with
        | nil=>rfl
        | cons=>simp at hl
      | cons=>cases l with
        | nil=>simp at hl
        | cons=>simp
  | str z =>
    cases rp;obtain⟨t,rfl⟩:=rv;have cZ:(if z.length<=sizeLine then R.ok ((z.length:Int) != 0) else R.stuck)≠.stuck:=hs
    have hz:z.length<=sizeLine:=Zc fun c=>cZ (by rw[Yx c]);refine PySem.P.truthy_str (by
                                  have:sizeLine<2 ^ 63:=by decide
                                  omega) ⟨Hf,H,?_,I.tok _,Ext.refl sm⟩
    show(if z.length<=sizeLine then R.ok ((z.length:Int) != 0) else R.stuck)=_;rw[Yy hz]
  | _=>exact absurd rfl hs
theorem bX{e:Expr}(h:ME X cl e f)(he:autoParam (∀ whole,isTrue e X.env whole=(do let v <- whole;standAt e.pos;holding [v] (truthy v))) z_):MT X cl e (aH f):=by
  refine⟨?_⟩;intro pins s σ aK H0 Hf H ρ I r hs;unfold aH at hs ⊢;refine isTrue_plain (h.run I r (Ext.refl r.sub) hs fun p v u s1 aM H1 e1 I1 rv x1 rp=>?_) (he _);rw[e1]at hs ⊢;exact ie (qR I1 x1.sub rv rp hs) fun _ _ q=>q.from (e0:=x1)
theorem two_t{f:Value->Value->Sem Value}{o:PV->PV->R PV} (ha:ME X cl a fa) (hb:ME X cl b fb) (rule:dQ X cl f o) (I:Inv X pins σ H s) (r:Rep X.K cl aK H0 Hf H σ ρ) (hs:aH (ah o fa fb) ρ≠.stuck) :
    wpAny (model X.prog X.w) X.A (eval a X.env) (fun v s₁=>wpAny (model X.prog X.w) X.A (eval b X.env) (fun u s₂=>wpAny (model X.prog X.w) X.A (f v u)
      (fun c s₃=>wpAny (model X.prog X.w) X.A (truthy c) (qk X pins σ Hf H (aH (ah o fa fb) ρ)) (dk X cl pins σ Hf H (aH (ah o fa fb) ρ)) s₃)
      (dk X cl pins σ Hf H (aH (ah o fa fb) ρ)) s₂) (dk X cl pins σ Hf H (aH (ah o fa fb) ρ)) s₁) (dk X cl pins σ Hf H (aH (ah o fa fb) ρ)) s:=by
  unfold aH at hs ⊢;have cZ:ah o fa fb ρ≠.stuck:=fun z=>hs (by rw[z];rfl)
  refine YA (two ha hb rule I r cZ) (fun v s1 h1=>YA h1 (fun u s2 h2=>YA h2 (fun c s3 h3=>?_) ?_) ?_) ?_
  . obtain⟨p,v',az,H',e1,I',rv,ex,rp⟩:=h3;rw[e1]at hs ⊢;exact ie (qR I' ex.sub rv rp hs) fun _ _ q=>q.from (e0:=ex)
  all_goals
    intro u s' q;obtain⟨c,e1,x⟩:=q;exact⟨c,by rw[e1];rfl,x⟩
theorem aL{a b:Expr}{o:PV->PV->R PV}{pos:Pos}(rule:dQ X cl (compareOp op) o)(ha:ME X cl a fa)(hb:ME X cl b fb)(hm:behindInMarks op b=false):MT X cl (.Compare a [op] [b] pos) (aH (ah o fa fb)):=by
  refine⟨?_⟩;intro pins s σ aK H0 Hf H ρ I r hs;exact aa6 (two_t ha hb rule I r hs) hm
theorem ik{pos:Pos} (h:MT X cl a f):MT X cl (.UnaryOp .Not a pos) (ju f):=by
  refine⟨?_⟩;intro pins s σ aK H0 Hf H ρ I r hs;unfold ju at hs ⊢;refine isTrue_not (h.run I r (Ext.refl r.sub) hs fun c s1 aM H1 e1 I1 x1=>?_);rw[e1];exact⟨aM,H1,rfl,I1,x1⟩
theorem mE{pos:Pos} (h:MT X cl a f):MW X cl (.BoolOp .And [a] pos) f:=by
  refine⟨?_⟩;intro wh pins s σ aK H0 Hf H ρ I r hs;refine isTrue_and (ie (h pins s σ aK H0 Hf H ρ I r hs) fun c s1 q=>?_);cases c with
  | true=>exact isTrue_and_nil q
  | false=>exact q
theorem gQ{pos:Pos} (h:MT X cl a f):MW X cl (.BoolOp .Or [a] pos) f:=by
  refine⟨?_⟩;intro wh pins s σ aK H0 Hf H ρ I r hs;refine isTrue_or (ie (h pins s σ aK H0 Hf H ρ I r hs) fun c s1 q=>?_);cases c with
  | false=>exact isTrue_or_nil q
  | true=>exact q
theorem oI{a b:Expr}{rest:List Expr}{pos:Pos}(h:MT X cl a f)(hb:MW X cl (.BoolOp .And (b::rest) pos) g):MW X cl (.BoolOp .And (a::b::rest) pos) (oE f g):=by
  refine⟨?_⟩;intro wh pins s σ aK H0 Hf H ρ I r hs;unfold oE at hs ⊢;refine isTrue_and (h.run I r (Ext.refl r.sub) hs fun c s1 aM H1 e1 I1 x1=>?_);rw[e1]at hs ⊢;cases c with
  | true=>exact YA (hb wh pins s1 σ aK H0 aM H1 ρ I1 (r.keep x1) hs) (fun _ _ q=>q.from (e0:=x1)) fun _ _ q=>q.from (e0:=x1)
  | false=>exact⟨aM,H1,rfl,I1,x1⟩
theorem i9{a b:Expr}{rest:List Expr}{pos:Pos}(h:MT X cl a f)(hb:MW X cl (.BoolOp .Or (b::rest) pos) g):MW X cl (.BoolOp .Or (a::b::rest) pos) (k8 f g):=by
  refine⟨?_⟩;intro wh pins s σ aK H0 Hf H ρ I r hs;unfold k8 at hs ⊢;refine isTrue_or (h.run I r (Ext.refl r.sub) hs fun c s1 aM H1 e1 I1 x1=>?_);rw[e1]at hs ⊢;cases c with
  | false=>exact YA (hb wh pins s1 σ aK H0 aM H1 ρ I1 (r.keep x1) hs) (fun _ _ q=>q.from (e0:=x1)) fun _ _ q=>q.from (e0:=x1)
  | true=>exact⟨aM,H1,rfl,I1,x1⟩
theorem kH(h:iZ p≠.stuck):∃ b,p=.bl b/\iZ p=.ok b:=by
  cases p with
  | bl b=>exact⟨b,rfl,rfl⟩
  | _=>exact absurd rfl h
theorem gn{op:BoolOp}{pos:Pos} (h:ME X cl a f):ME X cl (.BoolOp op [a] pos) f:=⟨fun pins s σ aK H0 Hf H ρ I r hs=>BoolOp_one (h pins s σ aK H0 Hf H ρ I r hs)⟩
theorem gR{a b:Expr}{rest:List Expr}{pos:Pos}(h:ME X cl a f)(hb:ME X cl (.BoolOp .And (b::rest) pos) g):ME X cl (.BoolOp .And (a::b::rest) pos) (je f g):=by
  refine⟨?_⟩;intro pins s σ aK H0 Hf H ρ I r hs;unfold je at hs ⊢;refine BoolOp_and (h.run I r (Ext.refl r.sub) hs fun p v u s1 aM H1 e1 I1 rv x1 rp=>?_);rw[e1]at hs ⊢;obtain⟨c,rfl,e2⟩:=kH (p:=p) fun z=>hs (by rw[z];rfl);rw[e2]at hs ⊢;cases rp;cases rv;refine Zs ?_;cases c with
  | true=>exact YA (hb pins s1 σ aK H0 aM H1 ρ I1 (r.keep x1) hs) (fun _ _ q=>q.from (e0:=x1)) fun _ _ q=>q.from (e0:=x1)
  | false=>exact⟨_,.bl false,aM,H1,rfl,I1,rfl,x1,.bl false⟩
theorem N6{a b:Expr}{rest:List Expr}{pos:Pos}(h:ME X cl a f)(hb:ME X cl (.BoolOp .Or (b::rest) pos) g):ME X cl (.BoolOp .Or (a::b::rest) pos) (Gw f g):=by
  refine⟨?_⟩;intro pins s σ aK H0 Hf H ρ I r hs;unfold Gw at hs ⊢;refine BoolOp_or (h.run I r (Ext.refl r.sub) hs fun p v u s1 aM H1 e1 I1 rv x1 rp=>?_);rw[e1]at hs ⊢;obtain⟨c,rfl,e2⟩:=kH (p:=p) fun z=>hs (by rw[z];rfl);rw[e2]at hs ⊢;cases rp;cases rv;refine Zs ?_;cases c with
  | false=>exact YA (hb pins s1 σ aK H0 aM H1 ρ I1 (r.keep x1) hs) (fun _ _ q=>q.from (e0:=x1)) fun _ _ q=>q.from (e0:=x1)
  | true=>exact⟨_,.bl true,aM,H1,rfl,I1,rfl,x1,.bl true⟩
theorem oJ{pos:Pos} (h:ME X cl a f):ME X cl (.UnaryOp .Not a pos) (oC f):=by
  refine⟨?_⟩;intro pins s σ aK H0 Hf H ρ I r hs;unfold oC at hs ⊢;refine UnaryOp_ (h.run I r (Ext.refl r.sub) hs fun p v u s1 aM H1 e1 I1 rv x1 rp=>?_);rw[e1]at hs ⊢;obtain⟨c,rfl,e2⟩:=kH (p:=p) fun z=>hs (by rw[z];rfl);rw[e2];cases rp;cases rv;exact not_of (Zs ⟨_,.bl (!c),aM,H1,rfl,I1,rfl,x1,.bl _⟩)
theorem d7{pos:Pos} (hc:MT X cl c t) (ha:ME X cl a f) (hb:ME X cl b g):ME X cl (.IfExp c a b pos) (f9 t f g):=by
  refine⟨?_⟩;intro pins s σ aK H0 Hf H ρ I r hs;unfold f9 at hs ⊢;refine wpAny_IfExp (hc.run I r (Ext.refl r.sub) hs fun d s1 aM H1 e1 I1 x1=>?_);rw[e1]at hs ⊢;cases d with
  | true=>exact YA (ha pins s1 σ aK H0 aM H1 ρ I1 (r.keep x1) hs) (fun _ _ q=>q.from (e0:=x1)) fun _ _ q=>q.from (e0:=x1)
  | false=>exact YA (hb pins s1 σ aK H0 aM H1 ρ I1 (r.keep x1) hs) (fun _ _ q=>q.from (e0:=x1)) fun _ _ q=>q.from (e0:=x1)
theorem EJ{a b c:Expr}{o o':PV->PV->R PV}{pos:Pos}(h1:dQ X cl (compareOp op) o)(h2:dQ X cl (compareOp ON) o')(ha:ME X cl a fa)(hb:ME X cl b fb)(hc:ME X cl c fc)
    (hm:autoParam (lastMarks [op,ON] [b,c]=false) r_):ME X cl (.Compare a [op,ON] [b,c] pos) (rG o o' fa fb fc):=by
  refine⟨?_⟩;intro pins s σ aK H0 Hf H ρ I r hs;unfold rG at hs ⊢;refine Compare_chain (ha.run I r (Ext.refl r.sub) hs fun p v u s1 aM H1 e1 I1 rv x1 rp=>chain_link ?_) hm;rw[e1]at hs ⊢;refine hb.run I1 (r.keep x1) x1 hs fun q v' u' s2 cX H2 e2 I2 fN x2 rq=>?_;rw[e2]at hs ⊢;have oK:=x1.trans x2
  have ho:o p q≠.stuck:=fun z=>hs (by rw[z];rfl);refine YA (h1 pins s2 σ cX H2 v v' u u' p q I2 x2.sub rv fN (rp.keep x2.cj) rq ho) (fun d s3 h3=>?_) fun d s3 h3=>?_
  . obtain⟨z,v3,jI,H3,e3,I3,T7,x3,Kc⟩:=h3;rw[e3]at hs ⊢;have OO:(iZ z).bind (fun k=>if k=true then (fc ρ).bind fun w=>o' q w else R.ok (PV.bl false))≠.stuck:=hs
    obtain⟨k,rfl,e4⟩:=kH (p:=z) fun y=>OO (by rw[y];rfl);cases Kc;cases T7;refine Zs ?_;have uF:=oK.trans x3
    cases k with
    | false=>exact ite_ff ⟨_,.bl false,jI,H3,rfl,I3,rfl,uF,.bl false⟩
    | true =>
      have wB:(fc ρ).bind (fun w=>o' q w)≠.stuck:=hs;refine ite_tt (chain_last ?_);show wpAny _ _ _ (fun b s₁=>wpAny _ _ _ (gb X cl pins σ Hf H ((fc ρ).bind fun w=>o' q w)) (dk X cl pins σ Hf H ((fc ρ).bind fun w=>o' q w)) s₁) (dk X cl pins σ Hf H ((fc ρ).bind fun w=>o' q w)) s3
      refine hc.run I3 (r.keep uF) uF wB fun w v5 u5 s5 uG H5 e5 I5 T8 x5 vX=>?_;rw[e5]at wB ⊢;exact YA (h2 pins s5 σ uG H5 v' v5 u' u5 q w I5 x5.sub fN T8 (rq.keep (x3.trans x5).cj) vX wB) (fun _ _ q=>q.from (e0:=uF.trans x5)) fun _ _ q=>q.from (e0:=uF.trans x5)
  . obtain⟨c,e3,y⟩:=h3;exact⟨c,by rw[e3];rfl,y.from oK⟩
structure MA(X:Cx)(cl:Nat->Addr)(es:List Expr)(f:FA):Prop where
  len:∀ ρ ps,f ρ=.ok ps->ps.length=es.length
  run':∀(pos:Pos)(pins:List (Addr×Obj))(s:Shared)(σ:SV)(aK H0 Hf H:Hp)(ρ:aJ),Inv X pins σ H s->Rep X.K cl aK H0 Hf H σ ρ->f ρ≠.stuck ->
    wpAny (model X.prog X.w) X.A (spliced (backTo pos (starEach es X.env))) (T6 X cl pins σ Hf H (f ρ)) (dk X cl pins σ Hf H (f ρ)) s
theorem ai:MA X cl [] aq:=⟨fun _ ps h=>by cases h;rfl,fun pos pins s σ aK H0 Hf H ρ I r _=>aaw ⟨[],[],Hf,H,rfl,I,.nil,Ext.refl r.sub,.nil⟩⟩
theorem aa(h:ME X cl e f)(hr:MA X cl es g)(fB:autoParam (starEach (e::es) X.env=(false,eval e X.env)::starEach es X.env) f_):MA X cl (e::es) (af f g):=by
  refine⟨fun ρ ps q=>?_,?_⟩
  . unfold af at q;cases e1:f ρ with
    | stuck=>rw[e1]at q;cases q
    | exc c=>rw[e1]at q;cases q
    | ok p =>
      rw[e1]at q;cases e2:g ρ with
      | stuck=>rw[R.bind_ok,e2]at q;cases q
      | exc c=>rw[R.bind_ok,e2]at q;cases q
      | ok qs =>
        rw[R.bind_ok,e2]at q;cases q;have:=hr.1 ρ qs e2
        rw[YS,YS,this]
  intro pos pins s σ aK H0 Hf H ρ I r hs;unfold af at hs ⊢;rw[fB];show wpAny _ _ (spliced ((false,eval e X.env)::backTo pos (starEach es X.env))) _ _ s
  refine ZZ (h.run I r (Ext.refl r.sub) hs fun p v u s1 aM H1 e1 I1 rv x1 rp=>?_);rw[e1]at hs ⊢;have hg:g ρ≠.stuck:=fun z=>hs (by rw[z];rfl)
  refine YA (hr.2 pos pins s1 σ aK H0 aM H1 ρ I1 (r.keep x1) hg) (fun us s2 h2=>?_) fun u2 s2 h2=>?_
  . obtain⟨ps,vs,cX,H2,e2,I2,Ke,x2,bA⟩:=h2;exact⟨p::ps,v::vs,cX,H2,by rw[e2];rfl,I2,.cons rv Ke,x1.trans x2,.cons (rp.keep x2.cj) bA⟩
  . obtain⟨c,e2,y⟩:=h2;exact⟨c,by rw[e2];rfl,y.from x1⟩
theorem MA.run{es:List Expr}(h:MA X cl es f)(pos:Pos)(I:Inv X pins σ H1 s)(r:Rep X.K cl aK H0 aM H1 σ ρ)(e0:Ext Hf H aM H1){k:List PV->R α}(hs:(f ρ).bind k≠.stuck){Q:List Value->Shared->Prop}
    (ok:∀ ps vs us s' az H',ps.length=es.length->(f ρ).bind k=k ps->Inv X pins σ H' s'->Vals vs us->Ext aM H1 az H'->cy X.K cl az vs ps->Q us s') :
    wpAny (model X.prog X.w) X.A (spliced (backTo pos (starEach es X.env))) Q (dk X cl pins σ Hf H ((f ρ).bind k)) s:=by
  have hf:f ρ≠.stuck:=fun z=>hs (by rw[z];rfl);refine YA (h.2 pos pins s σ aK H0 aM H1 ρ I r hf) (fun u s' q=>?_) fun u s' q=>?_
  . obtain⟨ps,vs,az,H',e1,I',rv,ex,rp⟩:=q;exact ok ps vs u s' az H' (h.1 ρ ps e1) (by rw[e1];rfl) I' rv ex rp
  . obtain⟨c,e1,x⟩:=q;exact⟨c,by rw[e1];rfl,x.from e0⟩
theorem lg(hn:H s.heap.objs.size=none)(sm:bc Hf H){h':Heap}{tk:Nat}(I:Inv X pins σ (upd H s.heap.objs.size o) { s with heap:=h',toks:=tk })
    (rp:Rp X.K cl (upd Hf s.heap.objs.size o) (.ref s.heap.objs.size) p):gb X cl pins σ Hf H (.ok p) (.ref s.heap.objs.size) { s with heap:=h',toks:=tk } :=
  ⟨p,.ref s.heap.objs.size,_,_,rfl,I,rfl,Ext.new sm hn o,rp⟩
theorem bE{k:Nat}{pos:Pos} (h:MA X cl es f):ME X cl (.Tuple es k pos) (ck f):=by
  refine⟨?_⟩;intro pins s σ aK H0 Hf H ρ I r hs;unfold ck at hs ⊢;refine wpAny_Tuple_spliced (h.run pos I r (Ext.refl r.sub) hs fun ps vs us s1 aM H1 _ e1 I1 rv x1 bA=>?_);rw[e1]at hs ⊢;obtain⟨hz,e2⟩:=eo hs;rw[e2];have z:vs.length<=sizeLine:=by rw[bA.length];exact hz
  refine⟨by rw[<- rv.length];exact z,?_⟩;have hf:H1 s1.heap.objs.size=none:=I1.bQ.fresh (YD _)
  refine gb.from (e0:=x1) (lg (tk:=s1.toks) hf x1.sub (I1.laid (t':=s1.toks) (o:=.tup vs) (fun b u e=>YK _ e) (YD _) ?_) (.tup (jk.of bU) (bA.keep (ez (x1.sub.free hf) _))));exact⟨z,us,rv,⟨_,Y3 _ rfl,rfl,_,rfl⟩⟩
theorem eV{pos:Pos} (h:MA X cl es f):ME X cl (.List es pos) (gm f):=by
  refine⟨?_⟩;intro pins s σ aK H0 Hf H ρ I r hs;unfold gm at hs ⊢;refine wpAny_List_spliced (h.run pos I r (Ext.refl r.sub) hs fun ps vs us s1 aM H1 _ e1 I1 rv x1 bA=>?_);rw[e1]at hs ⊢;obtain⟨hz,e2⟩:=eo hs;rw[e2];have z:vs.length<=sizeLine:=by rw[bA.length];exact hz
  refine⟨by rw[<- rv.length];exact z,?_⟩;have hf:H1 s1.heap.objs.size=none:=I1.bQ.fresh (YD _)
  refine gb.from (e0:=x1) (lg (tk:=s1.toks) hf x1.sub (I1.laid (t':=s1.toks) (o:=.lst vs) (fun b u e=>YK _ e) (YD _) ?_) (.lst (f7.of bU) (bA.keep (ez (x1.sub.free hf) _))));exact⟨z,us,0,rv,Y3 _ rfl⟩
def jl(cl:Nat->Addr)(P:Program)(w:World):rC:=fun outer H s E e s' =>
  ∃(a:Addr)(c:Nat)(H':Hp)(B:Heap)(a0:Value),e=.ref a/\s'.os=s.os/\AllBare s'.gens/\Un (fq outer) [] H H' s.heap s'.heap/\gi P w H' s'.heap/\Heap.FlyingW B outer a (.ref (cl c)) a0 s'.heap /\
    (∀ b o,s'.heap.get? b=some o->(H' b≠none\/∃ o₀,s.heap.get? b=some o₀)->b ∉ fq outer->B.get? b=some o)/\kz a s'.heap/\E (.ref (cl c)) none H'
def mF(K:PySem.W.Frag)(cl:Nat->Addr)(n:Nat)(F:List PV->R PV):Sp:=fun vs H Q E=>vs.length=n/\∃ Hf ps,bc Hf H/\cy K cl Hf vs ps/\F ps≠.stuck /\
  (∀ p v az H',F ps=.ok p->Ext Hf H az H'->Rp K cl az v p->Q v H')/\∀ c az H',F ps=.exc c->Ext Hf H az H'->E (.ref (cl c)) none H'
structure Fn(X:Cx)(cl:Nat->Addr)(k:Nat)(x:Str)(n:Nat)(F:List PV->R PV):Prop where
  ex:∃(f:Addr)(fd:FuncData)(ps:List Str),X.mg x=some (.ref f)/\PySem.W.keepIn X.K (.ref f)=true/\ps.length=n/\fO X.prog X.w X.K X.mg X.base (jl cl X.prog X.w) k f fd ps (mF X.K cl n F)/\Binds X.K fd ps []
theorem wC{ps:List PV}{F:List PV->R PV} (I:Inv X pins σ H s) (sm:bc Hf H) (fB:X.stack=X.env::X.outer)
    (h:jl cl X.prog X.w X.stack H s (fun u o H'=>∃ c az,F ps=.exc c/\Ext Hf H az H'/\u=.ref (cl c)) e s') (inj:∀ c d,cl c=cl d->c=d) (hex:∀ b,b ∉ X.ex):dk X cl pins σ Hf H (F ps) e s':=by
  obtain⟨a,c,H',B,a0,rfl,ho,hg,un,bQ,fl,mG,nd,c',az,e1,ex,e2⟩:=h;have ec:c'=c:=inj _ _ (by injection e2 with e2;exact e2.symm)
  subst ec;refine⟨c',e1,a,az,H',rfl,I.rB ho un bQ hg (fun b z=>absurd z (by simp)),ex,B,a0,?_,nd,.inr (.inr fl)⟩;intro b o hb hc hn;refine mG b o hb ?_ hn;rcases hc with hc | ⟨p,hp,e⟩ | ⟨o₀,hc⟩ | ⟨x,hc⟩
  . exact .inl hc
  . right;rw[<- e];exact⟨_,(I.pin p hp).1⟩
  . right;by_cases hx:b∈X.ex
    . exact absurd hx (hex b)
    . exact I.base.there b o₀ hc hx
  . right;obtain⟨v,o',q,_⟩:=I.cell x b hc;exact⟨o',q⟩
theorem IC{e:Expr}{es:List Expr}{p pos:Pos}{F:List PV->R PV}(hF:Fn X cl k x n F)(hr:cE k X.A)(hg:Gl X x)(fB:X.stack=X.env::X.outer)(inj:∀ c d,cl c=cl d->c=d)(hex:∀ b,b ∉ X.ex)
    (ha:MA X cl (e::es) g) (hl:(e::es).length=n) (eW:autoParam ((x ==("__debug__" : Str))=false) w_) (he:autoParam (starEach (e::es) X.env=(false,eval e X.env)::starEach es X.env) f_) (eC:autoParam ((backTo pos (starEach es X.env)).any (·.1)=false) f_) :
    ME X cl (.Call (.Name x p) (e::es) [] pos) (au F g):=by
  obtain⟨f,fd,ps,hm,hk,hn,hf,hb⟩:=hF.ex;refine⟨?_⟩;intro pins s σ aK H0 Hf H ρ I r hs;unfold au at hs ⊢;refine Zq (gj I hg hm ?_ eW);refine ZM (h₀:=X.base) I.ok.mod.ot hk (ha.run pos I r (Ext.refl r.sub) hs fun qs vs us s1 aM H1 hq e1 I1 rv x1 bA=>⟨I1.eT,?_⟩) he eC;rw[e1]at hs ⊢;have hv:vs.length=n:=by rw[bA.length,hq,hl]
  have hG:mF X.K cl n F vs H1 (fun v H'=>∃ p az,F qs=.ok p/\Ext aM H1 az H'/\Rp X.K cl az v p) (fun u o H'=>∃ c az,F qs=.exc c/\Ext aM H1 az H'/\u=.ref (cl c)) :=
    ⟨hv,aM,qs,x1.sub,bA,hs,fun p v az H' a b c=>⟨p,az,a,b,c⟩,fun c az H' a b=>⟨c,az,a,b,rfl⟩⟩
  have mH:(us ++[]).length=ps.length:=by rw[Ze,<- rv.length,hv,hn]
  have gk:=hb s1 us I1.eT mH;rw[Ze]at gk;refine aaj (Z3 (hf.run X.A X.stack s1 H1 ⟨us,[]⟩ us vs _ _ hr I1.qO gk rv hG) fun r s' dU=>?_);cases r with
  | error e=>exact dk.from (e0:=x1) (wC I1 x1.sub fB dU inj hex)
  | ok fl =>
    cases fl with
    | ret u =>
      obtain⟨v,H',I',fN,p,az,e2,ex,rp⟩:=I1.after dU;exact⟨p,v,az,H',e2,I',fN,x1.trans ex,rp⟩
    | next=>exact False.elim dU
    | brk=>exact False.elim dU
    | cont=>exact False.elim dU
def iL(X:Cx)(cl:Nat->Addr)(f:Value)(F:List PV->R PV):Prop :=
  ∀(pins:List (Addr×Obj))(s:Shared)(σ:SV)(Hf H:Hp)(xs:List V)(us:List Value)(ps:List PV),Inv X pins σ H s->bc Hf H->Vals xs us->cy X.K cl Hf xs ps->F ps≠.stuck ->
    wpAny (model X.prog X.w) X.A (call f us) (gb X cl pins σ Hf H (F ps)) (dk X cl pins σ Hf H (F ps)) s
theorem dy{id:String}{e:Expr}{es:List Expr}{p pos:Pos}{F:List PV->R PV} (hc:iL X cl (.builtin id) F) (hg:Gl X x) (hm:X.mg x=none) (hv:bootBuiltins x=some (.builtin id)) (ha:MA X cl (e::es) g)
    (hn:autoParam (x≠"__name__") w_) (eW:autoParam ((x ==("__debug__" : Str))=false) w_) (he:autoParam (starEach (e::es) X.env=(false,eval e X.env)::starEach es X.env) f_) (eC:autoParam ((backTo pos (starEach es X.env)).any (·.1)=false) f_) :
    ME X cl (.Call (.Name x p) (e::es) [] pos) (au F g):=by
  refine⟨?_⟩;intro pins s σ aK H0 Hf H ρ I r hs;unfold au at hs ⊢;refine Zq (kW I hg hm hv ?_ hn eW);refine aas (ha.run pos I r (Ext.refl r.sub) hs fun qs vs us s1 aM H1 _ e1 I1 rv x1 bA=>?_) he eC;rw[e1]at hs ⊢;exact YA (hc pins s1 σ aM H1 vs us qs I1 x1.sub rv bA hs) (fun _ _ q=>q.from (e0:=x1)) fun _ _ q=>q.from (e0:=x1)
theorem kb{T:String}{e:Expr}{es:List Expr}{p pos:Pos}{F:List PV->R PV} (hc:iL X cl (.type T) F) (hg:Gl X x) (hm:X.mg x=none) (hv:bootBuiltins x=some (.type T)) (ha:MA X cl (e::es) g)
    (hn:autoParam (x≠"__name__") w_) (eW:autoParam ((x ==("__debug__" : Str))=false) w_) (he:autoParam (starEach (e::es) X.env=(false,eval e X.env)::starEach es X.env) f_) (eC:autoParam ((backTo pos (starEach es X.env)).any (·.1)=false) f_) :
    ME X cl (.Call (.Name x p) (e::es) [] pos) (au F g):=by
  refine⟨?_⟩;intro pins s σ aK H0 Hf H ρ I r hs;unfold au at hs ⊢;refine Zq (kW I hg hm hv ?_ hn eW);refine aaC (ha.run pos I r (Ext.refl r.sub) hs fun qs vs us s1 aM H1 _ e1 I1 rv x1 bA=>?_) he eC;rw[e1]at hs ⊢;exact YA (hc pins s1 σ aM H1 vs us qs I1 x1.sub rv bA hs) (fun _ _ q=>q.from (e0:=x1)) fun _ _ q=>q.from (e0:=x1)
theorem fH{p:PV}{E:Value->Shared->Prop}{rr:R PV} (hr:rr=.ok p)
    (h:∀ E,wpAny (model X.prog X.w) X.A t (EP (X.bP E) pins σ fun v H'=>∃ az,Ext Hf H az H'/\Rp X.K cl az v p) E s):wpAny (model X.prog X.w) X.A t (gb X cl pins σ Hf H rr) E s:=by
  rw[hr];exact Gx (h E)
theorem gL{p:PV}{vs:List V}{K:PySem.W.Frag}(h:cy K cl Hf vs [p]):∃ v,vs=[v]/\Rp K cl Hf v p:=by
  cases h with
  | cons r t=>cases t;exact⟨_,rfl,r⟩
theorem vJ{p q:PV}{vs:List V}{K:PySem.W.Frag}(h:cy K cl Hf vs [p,q]):∃ v w,vs=[v,w]/\Rp K cl Hf v p/\Rp K cl Hf w q:=by
  cases h with
  | cons r t =>
    cases t with
    | cons r' t'=>cases t';exact⟨_,_,rfl,r,r'⟩
theorem rN:iL X cl (.builtin "len") mj:=by
  intro pins s σ Hf H xs us ps I sm rv bA hs
  match ps,bA,hs with
  | [.tup l],bA,hs =>
    obtain⟨v,rfl,rp⟩:=gL bA;cases rp with
    | tup h r =>
      refine fH (p:=.int l.length) rfl fun E=>(oA (X:=X.bP E)) pins s σ H _ us _ (I.bP E) rv ?_;exact⟨_,_,rfl,.inr (bc.dZ sm h),Hf,Ext.refl sm,by rw[r.length];exact .int _⟩
  | [.lst l],bA,hs =>
    obtain⟨v,rfl,rp⟩:=gL bA;cases rp with
    | lst h r =>
      refine fH (p:=.int l.length) rfl fun E=>(oA (X:=X.bP E)) pins s σ H _ us _ (I.bP E) rv ?_;exact⟨_,_,rfl,.inl (sm.seq h),Hf,Ext.refl sm,by rw[r.length];exact .int _⟩
  | [.str z],bA,hs =>
    obtain⟨v,rfl,rp⟩:=gL bA;cases rp;obtain⟨hz,e⟩:=eo hs;refine fH (p:=.int z.length) e fun E=>(v8 (X:=X.bP E)) pins s σ H _ us _ (I.bP E) rv ?_;exact⟨_,rfl,hz,Hf,Ext.refl sm,.int _⟩
  | [],_,hs=>exact absurd rfl hs
  | [.bf],_,hs=>exact absurd rfl hs
  | [.bl _],_,hs=>exact absurd rfl hs
  | [.int _],_,hs=>exact absurd rfl hs
  | [.exc _],_,hs=>exact absurd rfl hs
  | [.iI],_,hs=>exact absurd rfl hs
  | [.own _],_,hs=>exact absurd rfl hs
  | _::_::_,_,hs=>exact absurd (by unfold mj;split<;>first | rfl | (rename_i h;cases h)) hs
theorem A2:iL X cl (.builtin "abs") tS:=by
  intro pins s σ Hf H xs us ps I sm rv bA hs;have:∃ i,ps=[.int i]:=by
    unfold tS at hs;split at hs
    . exact⟨_,rfl⟩
    . exact absurd rfl hs
  obtain⟨i,rfl⟩:=this;obtain⟨v,rfl,rp⟩:=gL bA;cases rp;refine fH rfl fun E=>(EA (X:=X.bP E)) pins s σ H _ us _ (I.bP E) rv ?_;exact⟨i,rfl,Hf,Ext.refl sm,.int _⟩
theorem N7(hc:X.calm=true):iL X cl (.builtin "min") AV:=by
  intro pins s σ Hf H xs us ps I sm rv bA hs;have:∃ i j,ps=[.int i,.int j]:=by
    unfold AV at hs;split at hs
    . exact⟨_,_,rfl⟩
    . exact absurd rfl hs
  obtain⟨i,j,rfl⟩:=this;obtain⟨v,w,rfl,rp,rq⟩:=vJ bA;cases rp;cases rq;refine fH rfl fun E=>(B0 (X:=X.bP E) hc) pins s σ H _ us _ (I.bP E) rv ?_;exact⟨i,j,rfl,Hf,Ext.refl sm,.int _⟩
theorem Gz(hc:X.calm=true):iL X cl (.builtin "max") wg:=by
  intro pins s σ Hf H xs us ps I sm rv bA hs;have:∃ i j,ps=[.int i,.int j]:=by
    unfold wg at hs;split at hs
    . exact⟨_,_,rfl⟩
    . exact absurd rfl hs
  obtain⟨i,j,rfl⟩:=this;obtain⟨v,w,rfl,rp,rq⟩:=vJ bA;cases rp;cases rq;refine fH rfl fun E=>(BZ (X:=X.bP E) hc) pins s σ H _ us _ (I.bP E) rv ?_;exact⟨i,j,rfl,Hf,Ext.refl sm,.int _⟩
theorem N8:iL X cl (.type "int") wj:=by
  intro pins s σ Hf H xs us ps I sm rv bA hs;have:(∃ i,ps=[.int i])\/∃ k,ps=[.bl k]:=by
    unfold wj at hs;split at hs
    . exact .inl ⟨_,rfl⟩
    . exact .inr ⟨_,rfl⟩
    . exact absurd rfl hs
  rcases this with⟨i,rfl⟩ | ⟨k,rfl⟩
  . obtain⟨v,rfl,rp⟩:=gL bA;cases rp;refine fH rfl fun E=>(uv (X:=X.bP E)) pins s σ H _ us _ (I.bP E) rv ?_;exact .inl ⟨i,rfl,Hf,Ext.refl sm,.int _⟩
  . obtain⟨v,rfl,rp⟩:=gL bA;cases rp;refine fH rfl fun E=>(uv (X:=X.bP E)) pins s σ H _ us _ (I.bP E) rv ?_;exact .inr ⟨k,rfl,Hf,Ext.refl sm,.int _⟩
theorem Kf:iL X cl (.type "list") lU:=by
  intro pins s σ Hf H xs us ps I sm rv bA hs;have:(∃ l,ps=[.tup l])\/∃ l,ps=[.lst l]:=by
    unfold lU at hs;split at hs
    . exact .inl ⟨_,rfl⟩
    . exact .inr ⟨_,rfl⟩
    . exact absurd rfl hs
  rcases this with⟨l,rfl⟩ | ⟨l,rfl⟩
  . obtain⟨v,rfl,rp⟩:=gL bA;cases rp with
    | tup h r =>
      refine fH rfl fun E=>(jq (X:=X.bP E)) pins s σ H _ us _ (I.bP E) rv ?_;exact⟨_,_,rfl,.inr (bc.dZ sm h),fun q hq=>⟨_,Ext.new sm hq _,.lst (f7.of bU) (r.keep (ez (sm.free hq) _))⟩⟩
  . obtain⟨v,rfl,rp⟩:=gL bA;cases rp with
    | lst h r =>
      refine fH rfl fun E=>(jq (X:=X.bP E)) pins s σ H _ us _ (I.bP E) rv ?_;exact⟨_,_,rfl,.inl (sm.seq h),fun q hq=>⟨_,Ext.new sm hq _,.lst (f7.of bU) (r.keep (ez (sm.free hq) _))⟩⟩
theorem cM:dQ X cl (binaryOp .Add) cV:=by
  intro pins s σ Hf H x y v u p q I sm rv ru rp rq hs;cases p<;>cases q<;>first
    | exact absurd rfl hs
    | skip
  . rename_i i j;cases rp;cases rq;obtain⟨t,rfl⟩:=rv;obtain⟨t',rfl⟩:=ru;exact add_int ⟨_,.int (i+j),Hf,H,rfl,I.tok _,⟨_,rfl⟩,Ext.refl sm,.int _⟩
  . rename_i i j;obtain⟨hz,e⟩:=eo hs;cases rp;cases rq;refine fH e fun E=>(AL (X:=X.bP E)) pins s σ H _ _ v u _ (I.bP E) rv ru ?_;exact⟨i,j,rfl,rfl,hz,Hf,Ext.refl sm,.str _⟩
  . rename_i i j;obtain⟨⟨⟨X7,X8⟩,hz⟩,e⟩:=eo hs;cases rp with
    | tup h1 r1 =>
      cases rq with
      | tup h2 r2 =>
        cases rv;cases ru;obtain⟨its,w1,p1,z1⟩:=I.tuple (bc.dZ sm h1);obtain⟨fP,w2,p2,z2⟩:=I.tuple (bc.dZ sm h2);have l1:=w1.length
        have l2:=w2.length;have l3:=r1.length
        have l4:=r2.length;rw[show cV (.tup i) (.tup j)=_ from e]
        refine HT.Iw p1 p2 (fun q=>by rw[q]at l1;simp only[List.length_nil]at l1;omega) (fun q=>by rw[q]at l2;simp only[List.length_nil]at l2;omega) (fun _=>?_) (by omega);exact lg (tk:=s.toks) I.fresh sm (I.laid (t':=s.toks) (o:=.tup _) (fun b u e=>YK _ e) (YD _) ⟨by rw[Zt];omega,its++fP,w1.append w2,⟨_,Y3 _ rfl,rfl,0,rfl⟩⟩) (.tup (jk.of bU) ((r1.append r2).keep (ez (sm.free I.fresh) _)))
  . rename_i i j;obtain⟨hz,e⟩:=eo hs;cases rp with
    | lst h1 r1 =>
      cases rq with
      | lst h2 r2 =>
        cases rv;cases ru;obtain⟨its,w1,p1,z1⟩:=I.list (sm.seq h1);obtain⟨fP,w2,p2,z2⟩:=I.list (sm.seq h2);have l1:=w1.length
        have l2:=w2.length;have l3:=r1.length
        have l4:=r2.length;have e0:its.toArray++fP.toArray=(its++fP).toArray:=by simp
        obtain⟨⟨cls,dd,data,sl⟩,ho,hc,n,hd⟩:=id p1.isList;obtain⟨⟨RG,Gs,data2,Gu⟩,rE,B9,n2,hd2⟩:=id p2.isList;simp only at hc hd B9 hd2;subst hc hd B9 hd2;rw[show cV (.lst i) (.lst j)=_ from e]
        refine concat_meets ⟨_,ho,rfl⟩ ⟨_,rE,rfl⟩ noFill_list_add seq_list_add PySem.F.slot_list_add PySem.F.entry_list_add (PySem.F.args_list_add_2 _ _) (list_addW _ _ its.toArray fP.toArray n n2 dd Gs sl Gu (by simp only[YN];omega)) ⟨ho,rE,?_⟩;rw[e0];exact lg (tk:=s.toks) I.fresh sm (I.RM (t':=s.toks) (w1.append w2) (by rw[Zt];omega)) (.lst (f7.of bU) ((r1.append r2).keep (ez (sm.free I.fresh) _)))
theorem OP{a:Expr}{j:Nat}{pos pos':Pos}(ha:ME X cl a fa):MT X cl (.Compare a [.Is] [.Constant .none j pos'] pos) (aH (eU wc fa)):=by
  refine⟨?_⟩;intro pins s σ aK H0 Hf H ρ I r hs;have assoc:∀{β γ δ:Type}(x:R β)(f:β->R γ)(g:γ->R δ),(x.bind f).bind g=x.bind fun y=>(f y).bind g:=fun x f g=>by cases x<;>rfl
  unfold aH eU at hs ⊢;rw[assoc]at hs ⊢;refine aa6 (ha.run I r (Ext.refl r.sub) hs fun p v u s1 aM H1 e1 I1 rv x1 rp=>?_) (qL _ (by decide) (by decide));rw[e1];refine abF (is_none_gen (Zs ⟨aM,H1,?_,I1,x1⟩));rw[rv.qM];cases rp<;>rfl
theorem Ct{a:Expr}{j:Nat}{pos pos':Pos}(ha:ME X cl a fa):MT X cl (.Compare a [.IsNot] [.Constant .none j pos'] pos) (aH (eU j2 fa)):=by
  refine⟨?_⟩;intro pins s σ aK H0 Hf H ρ I r hs;have assoc:∀{β γ δ:Type}(x:R β)(f:β->R γ)(g:γ->R δ),(x.bind f).bind g=x.bind fun y=>(f y).bind g:=fun x f g=>by cases x<;>rfl
  unfold aH eU at hs ⊢;rw[assoc]at hs ⊢;refine aa6 (ha.run I r (Ext.refl r.sub) hs fun p v u s1 aM H1 e1 I1 rv x1 rp=>?_) (qL _ (by decide) (by decide));rw[e1];refine abF (isnot_none_gen (Zs ⟨aM,H1,?_,I1,x1⟩));rw[rv.qM];cases rp<;>rfl
theorem mI{K:PySem.W.Frag}{v:V}{p:PV}(h:Rp K cl Hf v p)(f:dz p=true):jZ v=true:=by
  cases h<;>first | rfl | (simp[dz]at f)
theorem Kg{K:PySem.W.Frag}{v w:V}{p q:PV}(h:Rp K cl Hf v p)(h':Rp K cl Hf w q)(f:dz p=true)(g:dz q=true):qg v w=dj p q:=by
  cases h<;>cases h'<;>first | rfl | (simp[dz]at f;done) | (simp[dz]at g;done)
theorem kc{K:PySem.W.Frag}{w:V}{q:PV}(h':Rp K cl Hf w q)(g:dz q=true):∀{vs:List V}{ps:List PV},cy K cl Hf vs ps->ps.all dz=true->vs.all jZ=true/\(vs.any fun y=>qg y w)=ps.any fun z=>dj z q
  | _,_,.nil,_=>⟨rfl,rfl⟩
  | _,_,.cons r t,f=>by
    rw[ZO,YH]at f;obtain⟨a,b⟩:=kc h' g t f.2;exact⟨by rw[ZO,mI r f.1,a];rfl,by rw[ZD,ZD,Kg r h' f.1 g,b]⟩
theorem qm(b:Str)(u:Tok)(l:Addr)(o:Obj){es:Array DictEntry}{ep:Nat} (hc:o.cls=.type "dict") (hd:o.data=.dict es ep):Meets (Builtin.«str.__eq__» ⟨[.str b u,.ref l],[]⟩) (fun _ R s=>s.heap.get? l=some o/\R (.ok (.ret .notImplemented)) s):=by
  refine .of_wp fun prog w A R s h=>?_;obtain⟨hp,g,d,tk,os⟩:=s;obtain⟨hl,h⟩:=h;obtain⟨c,dd,dt,sl⟩:=o;cases hc;cases hd;have f1:=F.sub_dict_str
  wp_walk using wpAny_loadPart' hl,wpAny_load hl
  exact⟨_,rfl,h⟩
theorem qo(b:Str)(u:Tok)(l:Addr)(o:Obj) (hc:o.cls=.type "dict"):Meets (Builtin.«dict.__eq__» ⟨[.ref l,.str b u],[]⟩) (fun _ R s=>s.heap.get? l=some o/\R (.ok (.ret .notImplemented)) s):=by
  refine .of_wp fun prog w A R s h=>?_;obtain⟨hp,g,d,tk,os⟩:=s;obtain⟨hl,h⟩:=h;obtain⟨c,dd,dt,sl⟩:=o;cases hc;have f1:=F.sub_str_dict
  wp_walk using wpAny_loadPart' hl,wpAny_load hl
  exact⟨_,rfl,h⟩
theorem yr{A:Around}{b:Str}{u:Tok}{o:Obj}{es:Array DictEntry}{ep:Nat}(hl:s.heap.get? l=some o) (hc:o.cls=.type "dict") (hd:o.data=.dict es ep) (hu:A.units<cLine):SeqAt.RcAt A s (.str b u) (.ref l) false:=fun prog w E Q h=>by
  have ty:s.TypeIs (.ref l) "dict":=⟨o,hl,hc⟩;refine SeqAt.rc_eq_decline_or (k:=false) (aaU s b u) ty (by decide) F.sub_dict_str F.slot_str_eq F.slot_dict_eq_refl (fun _ q=>?_) (fun _ q=>?_) (fun _ q=>?_) (.inr hu) h
  . exact abf F.slot_str_eq (aaU s b u) F.entry_str_eq (F.args_str_eq_2 _ _) (qm b u l o hc hd) ⟨hl,q⟩
  . exact abf F.slot_dict_eq_refl ty F.entry_dict_eq (F.args_dict_eq_2 _ _) (qo b u l o hc) ⟨hl,q⟩
  . exact wpAny_of_eq (rfl:isSame (.str b u) (.ref l)=pure false) q
theorem yt{A:Around}{b:Str}{u:Tok}{o:Obj}{es:Array DictEntry}{ep:Nat}(hl:s.heap.get? l=some o) (hc:o.cls=.type "dict") (hd:o.data=.dict es ep) (hu:A.units<cLine):SeqAt.RcAt A s (.ref l) (.str b u) false:=fun prog w E Q h=>by
  have ty:s.TypeIs (.ref l) "dict":=⟨o,hl,hc⟩;refine SeqAt.rc_eq_decline_or (k:=false) ty (aaU s b u) (by decide) F.sub_str_dict F.slot_dict_eq F.slot_str_eq_refl (fun _ q=>?_) (fun _ q=>?_) (fun _ q=>?_) (.inr hu) h
  . exact abf F.slot_dict_eq ty F.entry_dict_eq (F.args_dict_eq_2 _ _) (qo b u l o hc) ⟨hl,q⟩
  . exact abf F.slot_str_eq_refl (aaU s b u) F.entry_str_eq (F.args_str_eq_2 _ _) (qm b u l o hc hd) ⟨hl,q⟩
  . exact wpAny_of_eq (rfl:isSame (.ref l) (.str b u)=pure false) q
theorem Cu(I:Inv X pins σ H s)(sm:bc Hf H)(h:Hf l=some (.dK [])):∃ o es ep,s.heap.get? l=some o/\o.cls=.type "dict"/\o.data=.dict es ep:=by
  obtain⟨_,_,vs,_,p⟩:=(show fJ X.prog X.w H s.heap l (.dK []) from I.bQ l _ (sm _ _ h))
  obtain⟨o,es,ep,h1,h2,h3,_⟩:=p;exact⟨o,es,ep,h1,h2.1,h3⟩
theorem EK{A:Around}{b:Str}{t:Tok}(I:Inv X pins σ H s)(sm:bc Hf H)(rv:RelV x v)(rp:Rp X.K cl Hf x p)(hp:pM p=true)(hu:A.units<cLine):SeqAt.EqAt A s (.str b t) v false:=by
  cases p<;>first
    | (simp[pM]at hp;done)
    | skip
  . cases rp with
    | tup h r=>cases rv;obtain⟨its,w,pl,z⟩:=I.tuple (bc.dZ sm h);exact SeqAt.EqAt.str_tuple _ _ pl hu
  . cases rp with
    | lst h r=>cases rv;obtain⟨its,w,pl,z⟩:=I.list (sm.seq h);exact SeqAt.EqAt.str_list _ _ pl.isList hu
  . cases rp with
    | iI h =>
      cases rv;obtain⟨o,es,ep,h1,h2,h3⟩:=Cu I sm h;intro prog w E Q hq;unfold eqBool;refine ZE (wpAny_ite_split (fun qp=>absurd (eq_of_beq qp) nofun) fun _=>?_);exact YE (yr h1 h2 h3 hu prog w E _ (Zs hq))
theorem yK:∀{l:List PV}{vs:List V}{us:List Value},cy X.K cl Hf vs l->Vals vs us->l.all tR=true->∀ y∈us,∃ b t,y=Value.str b t
  | [],_,_,r,w,_,y,hy=>by cases r;cases w;cases hy
  | p::l,_,_,r,w,h,y,hy=>by
    cases r with
    | cons r1 r2 =>
      cases w with
      | cons w1 w2 =>
        rw[ZO,YH]at h;rcases Zm.mp hy with rfl | hy
        . cases p<;>first | (simp[tR]at h;done) | skip
          cases r1;obtain⟨t,rfl⟩:=w1;exact⟨_,_,rfl⟩
        . exact yK r2 w2 h.2 y hy
theorem qS:dQ X cl (compareOp .In) iE:=by
  intro pins s σ Hf H x y v u p q I sm rv ru rp rq hs;cases q<;>first
    | exact absurd rfl hs
    | skip
  . rename_i z;cases p<;>first
      | exact absurd rfl hs
      | skip
    cases rp;cases rq;refine fH rfl fun E=>(BY (X:=X.bP E)) pins s σ H _ _ v u _ (I.bP E) rv ru ?_;exact⟨_,_,rfl,rfl,Hf,Ext.refl sm,.bl _⟩
  . rename_i l;obtain⟨hc,e⟩:=eo hs;rw[YH]at hc;cases rq with
    | tup h r =>
      obtain⟨f1,f2⟩:=kc rp hc.1 r hc.2;refine fH e fun E=>(uB (X:=X.bP E)) pins s σ H _ _ v u _ (I.bP E) rv ru ?_;exact⟨_,_,rfl,.inr (bc.dZ sm h),mI rp hc.1,f1,Hf,Ext.refl sm,by show Rp _ _ _ (.bl (qh x _)) _;unfold qh;rw[f2];exact .bl _⟩
  . rename_i l;obtain⟨hc,e⟩:=eo hs;rw[YH]at hc;cases rq with
    | lst h r =>
      obtain⟨f1,f2⟩:=kc rp hc.1 r hc.2;refine fH e fun E=>(uB (X:=X.bP E)) pins s σ H _ _ v u _ (I.bP E) rv ru ?_;exact⟨_,_,rfl,.inl (sm.seq h),mI rp hc.1,f1,Hf,Ext.refl sm,by show Rp _ _ _ (.bl (qh x _)) _;unfold qh;rw[f2];exact .bl _⟩
theorem tV(hu:X.A.units+64<cLine):dQ X cl (compareOp .NotIn) gO:=by
  intro pins s σ Hf H x y v u p q I sm rv ru rp rq hs;cases q<;>first
    | exact absurd rfl hs
    | skip
  . rename_i z;cases p<;>first
      | exact absurd rfl hs
      | skip
    cases rp;cases rq;refine fH rfl fun E=>(vZ (X:=X.bP E)) pins s σ H _ _ v u _ (I.bP E) rv ru ?_;exact⟨_,_,rfl,rfl,Hf,Ext.refl sm,.bl _⟩
  . rename_i l;obtain⟨hc,e⟩:=eo hs;rw[YH]at hc;cases rq with
    | tup h r =>
      obtain⟨f1,f2⟩:=kc rp hc.1 r hc.2;refine fH e fun E=>(oz (X:=X.bP E)) pins s σ H _ _ v u _ (I.bP E) rv ru ?_;exact⟨_,_,rfl,.inr (bc.dZ sm h),mI rp hc.1,f1,Hf,Ext.refl sm,by show Rp _ _ _ (.bl (!qh x _)) _;unfold qh;rw[f2];exact .bl _⟩
  . rename_i l;by_cases uH:(dz p&&l.all dz)=true;rotate_left
    . have B3:(if (dz p&&l.all dz)=true then R.ok (PV.bl (!l.any fun z=>dj z p)) else if (pM p&&l.all tR)=true then R.ok (PV.bl true) else R.stuck)≠.stuck:=hs;rw[Yx uH]at B3;obtain⟨hc,e⟩:=eo B3;rw[YH]at hc;have e':gO p (.lst l)=.ok (.bl true):=by
        show(if (dz p&&l.all dz)=true then R.ok (PV.bl (!l.any fun z=>dj z p)) else if (pM p&&l.all tR)=true then R.ok (PV.bl true) else R.stuck)=_;rw[Yx uH];exact e
      rw[e'];cases rq with
      | lst h r =>
        cases ru;obtain⟨its,w,pl,z⟩:=I.list (sm.seq h);refine SeqAt.notIn_listAt (fun _=>false) pl.isList (fun y hy=>?_) ⟨_,.bl true,Hf,H,rfl,I,?_,Ext.refl sm,.bl _⟩
        . obtain⟨b,t,rfl⟩:=yK r w hc.2 y (by simpa using hy);exact EK I sm rv rp hc.1 (by show X.A.units+1<cLine;omega)
        . show(_:Value)=_;simp
    have wB:(if (dz p&&l.all dz)=true then R.ok (PV.bl (!l.any fun z=>dj z p)) else if (pM p&&l.all tR)=true then R.ok (PV.bl true) else R.stuck)≠.stuck:=hs;have hc:=uH
    have e:gO p (.lst l)=.ok (.bl (!l.any fun z=>dj z p)):=Yy uH;rw[YH]at hc;cases rq with
    | lst h r =>
      obtain⟨f1,f2⟩:=kc rp hc.1 r hc.2;refine fH e fun E=>(oz (X:=X.bP E)) pins s σ H _ _ v u _ (I.bP E) rv ru ?_;exact⟨_,_,rfl,.inl (sm.seq h),mI rp hc.1,f1,Hf,Ext.refl sm,by show Rp _ _ _ (.bl (!qh x _)) _;unfold qh;rw[f2];exact .bl _⟩
theorem nA{K:PySem.W.Frag}{l:List PV}{i:Int}{vs:List V}(h:fK l i≠.stuck)(r:cy K cl Hf vs l):∃ v p,fK l i=.ok p/\oy vs i=some v/\Rp K cl Hf v p:=by
  unfold fK at h ⊢;unfold oy;have e:qf vs.length i=oB l.length i:=by rw[r.length];rfl
  rw[e];cases q:oB l.length i with
  | none=>rw[q]at h;exact absurd rfl h
  | some j =>
    rw[q]at h;dsimp only at h ⊢;cases w:l[j]? with
    | none=>rw[w]at h;exact absurd rfl h
    | some p =>
      obtain⟨v,h1,h2⟩:=r.get w;exact⟨v,p,rfl,h1,h2⟩
theorem ak{a b:Expr}{fa fb:FE}{pos:Pos}(ha:ME X cl a fa)(hb:ME X cl b fb)(hx:autoParam (tO b) g_):ME X cl (.Subscript a b pos) (ah ar fa fb):=by
  refine⟨?_⟩;intro pins s σ aK H0 Hf H ρ I r hs;refine Subscript_ ?_;have rule:dQ X cl (fun v u=>subscriptTail a b v u) ar:=by
    intro pins s σ Hf H x y v u p q I sm rv ru rp rq hs;cases q<;>first
      | (cases p<;>exact absurd rfl hs)
      | skip
    rename_i i;cases rq;cases p<;>first
      | exact absurd rfl hs
      | skip
    . rename_i z;cases rp;have cZ:ar (.str z) (.int i)≠.stuck:=hs
      unfold ar at cZ ⊢;dsimp only at cZ ⊢;cases w:oB z.cps.toList.length i with
      | none=>rw[w]at cZ;exact absurd rfl cZ
      | some j =>
        rw[w]at cZ;dsimp only at cZ ⊢;cases w2:z.cps.toList[j]? with
        | none=>rw[w2]at cZ;exact absurd rfl cZ
        | some c =>
          rw[w2]at cZ;dsimp only at cZ ⊢;obtain⟨hz,e⟩:=eo cZ;refine fH e fun E=>(Cb (X:=X.bP E)) a b pins s σ H _ _ v u _ (I.bP E) rv ru ?_ (hx _ _);refine⟨z,i,c,rfl,rfl,hz,?_,Hf,Ext.refl sm,.str _⟩;unfold oy;have e2:qf z.cps.toList.length i=some j:=w
          rw[e2];exact w2
    . rename_i l;cases rp with
      | tup h r =>
        obtain⟨v',p',e1,e2,e3⟩:=nA (show fK l i≠.stuck from hs) r;refine fH (show ar (.tup l) (.int i)=.ok p' from e1) fun E=>(Ca (X:=X.bP E)) a b pins s σ H _ _ v u _ (I.bP E) rv ru ?_ (hx _ _)
        exact⟨_,_,i,v',rfl,rfl,bc.dZ sm h,e2,Hf,Ext.refl sm,e3⟩
    . rename_i l;cases rp with
      | lst h r =>
        obtain⟨v',p',e1,e2,e3⟩:=nA (show fK l i≠.stuck from hs) r;refine fH (show ar (.lst l) (.int i)=.ok p' from e1) fun E=>(tP (X:=X.bP E)) a b pins s σ H _ _ v u _ (I.bP E) rv ru ?_ (hx _ _)
        exact⟨_,_,i,v',rfl,rfl,sm.seq h,e2,Hf,Ext.refl sm,e3⟩
  exact two ha hb rule I r hs
structure MO(X:Cx)(cl:Nat->Addr)(e:Option Expr)(f:FO):Prop where
  run':∀(pins:List (Addr×Obj))(s:Shared)(σ:SV)(aK H0 Hf H:Hp)(ρ:aJ),Inv X pins σ H s->Rep X.K cl aK H0 Hf H σ ρ->f ρ≠.stuck ->
    wpAny (model X.prog X.w) X.A (evalPart e X.env) (fun u s'=>∃ o az H',f ρ=.ok o/\Inv X pins σ H' s'/\IsPart u o/\Ext Hf H az H') (dk X cl pins σ Hf H (f ρ)) s
noncomputable instance {X:Cx}{cl:Nat->Addr}{e:Option Expr}{f:FO}:CoeFun (MO X cl e f) fun _=>∀(pins:List (Addr×Obj))(s:Shared)(σ:SV)(aK H0 Hf H:Hp)(ρ:aJ),Inv X pins σ H s->Rep X.K cl aK H0 Hf H σ ρ->f ρ≠.stuck ->
    wpAny (model X.prog X.w) X.A (evalPart e X.env) (fun u s'=>∃ o az H',f ρ=.ok o/\Inv X pins σ H' s'/\IsPart u o/\Ext Hf H az H') (dk X cl pins σ Hf H (f ρ)) s:=⟨MO.run'⟩
theorem pN:MO X cl none nc:=by
  refine⟨?_⟩;intro pins s σ aK H0 Hf H ρ I r hs;rw[evalPart_none];exact Zb ⟨none,Hf,H,rfl,I,.none,Ext.refl r.sub⟩
theorem kN(h:ME X cl e f):MO X cl (some e) (j3 f):=by
  refine⟨?_⟩;intro pins s σ aK H0 Hf H ρ I r hs;rw[evalPart_some];unfold j3 at hs ⊢;refine h.run I r (Ext.refl r.sub) hs fun p v u s1 aM H1 e1 I1 rv x1 rp=>?_;rw[e1]at hs ⊢;cases p<;>first
    | exact absurd rfl hs
    | skip
  rename_i i;cases rp;obtain⟨t,rfl⟩:=rv;exact⟨some i,aM,H1,rfl,I1,.int i t,x1⟩
theorem MO.run(h:MO X cl e f)(I:Inv X pins σ H1 s)(r:Rep X.K cl aK H0 aM H1 σ ρ)(e0:Ext Hf H aM H1){k:Option Int->R α}(hs:(f ρ).bind k≠.stuck){Q:Value->Shared->Prop}
    (ok:∀ o u s' az H',(f ρ).bind k=k o->Inv X pins σ H' s'->IsPart u o->Ext aM H1 az H'->Q u s') :
    wpAny (model X.prog X.w) X.A (evalPart e X.env) Q (dk X cl pins σ Hf H ((f ρ).bind k)) s:=by
  have hf:f ρ≠.stuck:=fun z=>hs (by rw[z];rfl);refine YA (h pins s σ aK H0 aM H1 ρ I r hf) (fun u s' q=>?_) fun u s' q=>?_
  . obtain⟨o,az,H',e1,I',hp,ex⟩:=q;exact ok o u s' az H' (by rw[e1];rfl) I' hp ex
  . obtain⟨c,e1,x⟩:=q;exact⟨c,by rw[e1];rfl,x.from e0⟩
theorem Cv(n d:Nat)(hd:d<=n)(o:Option Int):gC n d o<=n:=by
  cases o with
  | none=>exact hd
  | some v=>unfold gC;simp only;split<;>omega
theorem A3(n:Nat)(lo hi:Option Int):Builtin.Str.strSliceIndices lo hi 1 n=(List.range (gC n n hi - gC n 0 lo)).map (gC n 0 lo+·):=by
  have clip:∀(o:Option Int)(d:Nat),d<=n->(match o with
      | none=>(d:Int)
      | some i=>if (1:Int)>0 then max 0 (min (if i<0 then i+(n:Int) else i) (n:Int)) else max (-1) (min (if i<0 then i+(n:Int) else i) ((n:Int) - 1)))=(gC n d o:Int):=by
    intro o d hd;cases o with
    | none=>rfl
    | some i =>
      simp only[gC];rw[Yy (by decide)];by_cases h:i<0
      . rw[Yy h,Yy h];omega
      . rw[Yx h,Yx h];omega
  have c1:=clip lo 0 (aat n);have c2:=clip hi n (YD n)
  refine(congr (Z9 (fun p q=>sliceRange p q 1) c1) c2:Builtin.Str.strSliceIndices lo hi 1 n=sliceRange (gC n 0 lo:Int) (gC n n hi:Int) 1).trans ?_;generalize gC n 0 lo=a;generalize gC n n hi=b;unfold sliceRange;simp only[show(1:Int)>0 from by decide,Y4]
  have hc:(if (a:Int)<(b:Int) then ((b:Int) - (a:Int)+1 - 1)/1 else 0).toNat=b - a:=by
    by_cases h:(a:Int)<(b:Int)
    . rw[Yy h,Int.ediv_one];omega
    . rw[Yx h];omega
  rw[hc];refine Z8 fun k _=>?_;omega
theorem ID(z:Str)(lo hi:Option Int):Txt.slice z lo hi=oF z lo hi:=by
  have hn:z.length=z.cps.toList.length:=by show z.cps.size=_;simp
  have OQ:=Cv z.cps.toList.length 0 (aat _) lo;have Kh:=Cv z.cps.toList.length z.cps.toList.length (YD _) hi
  unfold Txt.slice oF;rw[hn,A3];generalize gC z.cps.toList.length 0 lo=a at OQ ⊢;generalize gC z.cps.toList.length z.cps.toList.length hi=b at Kh ⊢;split
  . rename_i h;simp only[Zi,List.length_range,aa3,aa0,Y8]at h;by_cases hz:z.cps.toList.length=0
    . have e:z.cps.toList=[]:=List.length_eq_zero_iff.mp hz;rw[e];simp only[List.drop_nil,List.take_nil];cases z with | mk c=>simp at e ⊢;exact e
    . have ha:a=0:=by omega
      have hb:b=z.cps.toList.length:=by omega
      subst ha;subst hb;rw[List.drop_zero,Nat.sub_zero,List.take_length]
  . congr 1;congr 1;by_cases qp:a<=b
    . have:=StrLaws.sliced_plain z (a:=a) (b:=b) qp (by rw[hn];exact Kh);rw[StrLaws.strSliceIndices_plain qp (by rw[hn];exact Kh)]at this;exact this
    . rw[show b - a=0 by omega];simp
theorem oM{e:Expr}{lo hi:Option Expr}{f:FE}{l h:FO}{p2 pos:Pos}(he:ME X cl e f)(hl:MO X cl lo l)(hh:MO X cl hi h):ME X cl (.Subscript e (.Slice lo hi none p2) pos) (nh f l h):=by
  refine⟨?_⟩;intro pins s σ aK H0 Hf H ρ I r hs;unfold nh at hs ⊢;refine Subscript_ (he.run I r (Ext.refl r.sub) hs fun p v u s1 aM H1 e1 I1 rv x1 rp=>?_);rw[e1]at hs ⊢;refine wpAny_Slice (hl.run I1 (r.keep x1) x1 hs fun o vl s2 cX H2 e2 I2 Ki x2=>?_);rw[e2]at hs ⊢;have oK:=x1.trans x2
  refine hh.run I2 (r.keep oK) oK hs fun o' vu s3 jI H3 e3 I3 Kj x3=>?_;rw[e3]at hs ⊢;have uF:=oK.trans x3
  rw[evalPart_none];refine Zb ?_;have I4:Inv X pins σ H3 { s3 with heap:=s3.heap.push { cls:=.type "slice",data:=.fields #[vl,vu,.none] } }:=I3.kept (t':=s3.toks) fun b ob q=>YK _ q
  cases p<;>first
    | exact absurd rfl hs
    | skip
  . rename_i z;obtain⟨hz,e⟩:=eo hs;rw[show ng (.str z) o o'=.ok (.str (oF z o o')) from e]
    cases rp;obtain⟨t,rfl⟩:=rv;generalize dk X cl pins σ Hf H _=E;have fin:∀(l u:Option (Int×Tok)),l.map (·.1)=o->u.map (·.1)=o'->∀{E:Value->Shared->Prop},vl=partValue l->vu=partValue u->wpAny (model X.prog X.w) X.A (getItem (.str z t) (.ref s3.heap.objs.size)) (gb X cl pins σ Hf H (.ok (.str (oF z o o')))) E { s3 with heap:=s3.heap.push { cls:=.type "slice",data:=.fields #[vl,vu,.none] } }:=by
      intro l u hl hu E el eu;subst el eu;refine wpAny_getItem_str_slice (l:=l) (u:=u) (st:=none) ⟨_,Y3 _ rfl,rfl,rfl⟩ rfl ?_;have e2:Txt.slice z (l.map (·.1)) (u.map (·.1))=oF z o o':=by rw[hl,hu];exact ID z o o'
      refine post_val_or_str ⟨YU (Txt.slice_le z (l.map (·.1)) (u.map (·.1))) hz,fun t' k=>?_⟩;refine⟨_,.str (oF z o o'),jI,H3,rfl,I4.tok _,⟨t',?_⟩,uF,.str _⟩;rw[<- e2];rfl
    refine tail_any (ops:=[.ref s3.heap.objs.size,.str z t]) (aaU _ _ _) F.slot_str_getitem.lookup ?_ (by with_unfolding_all rfl);cases Ki with
    | none=>cases Kj with
      | none=>exact fin none none rfl rfl rfl rfl
      | int j tj=>exact fin none (some (j,tj)) rfl rfl rfl rfl
    | int i ti=>cases Kj with
      | none=>exact fin (some (i,ti)) none rfl rfl rfl rfl
      | int j tj=>exact fin (some (i,ti)) (some (j,tj)) rfl rfl rfl rfl
  rename_i l';have Kc:=rp.keep (x2.trans x3).cj
  cases Kc with
  | lst hq rr =>
    have RU:∀ xs:List V,cy X.K cl jI xs l'->cy X.K cl jI (tM xs o o') (jv l' o o'):=fun xs rx=>by
      unfold tM jv;have hl:=rx.length
      rw[hl];exact(rx.drop _).take _
    generalize dk X cl pins σ Hf H (ng (.lst l') o o')=E;obtain⟨T,id,hT,ht,hg⟩:=(Iy (X:=X.bP E)) pins { s3 with heap:=s3.heap.push { cls:=.type "slice",data:=.fields #[vl,vu,.none] } } σ H3 _ u vl vu o o' s3.heap.objs.size
      (fun w H'=>∃ az,Ext jI H3 az H'/\Rp X.K cl az w (.lst (jv l' o o'))) (I4.bP E) rv (Heap.IsSliceOf.new ..) Ki Kj
      ⟨_,_,rfl,x3.sub.seq hq,fun a ha=>⟨_,Ext.new x3.sub ha _,.lst (f7.of bU) ((RU _ rr).keep (ez (x3.sub.free ha) _))⟩⟩
    refine tail_any (ops:=[.ref s3.heap.objs.size,u]) ht hT ?_ (by with_unfolding_all rfl);refine ie (Gx hg) fun _ _ q=>gb.from (e0:=uF) q
noncomputable def nW(ps qs:List PV)(j:Nat):Bool:=match ps[j]?,qs[j]? with
  | some a,some b=>dj a b
  | _,_=>false
theorem EL(a b:PV)(ps qs:List PV)(j:Nat):nW (a::ps) (b::qs) (j+1)=nW ps qs j:=by simp[nW]
theorem tW(n:Nat)(e:Nat->Bool):(List.range (n+1)).all e=(e 0&&(List.range n).all fun j=>e (j+1)):=by
  rw[List.range_succ_eq_map,ZO,List.all_map];rfl
theorem nB:∀(ps qs:List PV),dJ ps qs=((List.range (min ps.length qs.length)).all (nW ps qs)&&ps.length == qs.length)
  | [],[]=>by simp[dJ]
  | [],_::_=>by simp[dJ]
  | _::_,[]=>by simp[dJ]
  | a::ps,b::qs=>by
    have ih:=nB ps qs;show(dj a b&&dJ ps qs)=_
    have h1:min (a::ps).length (b::qs).length=min ps.length qs.length+1:=by simp only[YS];omega
    rw[h1,tW,ih];have h2:nW (a::ps) (b::qs) 0=dj a b:=rfl
    have h3:(fun j=>nW (a::ps) (b::qs) (j+1))=nW ps qs:=by funext j;exact EL a b ps qs j
    rw[h2,h3];have h4:((a::ps).length ==(b::qs).length)=(ps.length == qs.length):=by simp
    rw[h4,Bool.and_assoc]
theorem Cw{ps qs:List PV}(h:ps.length=qs.length):dJ ps qs=(List.range ps.length).all (nW ps qs):=by
  rw[nB,<- h];simp
theorem EM{ps qs:List PV}(h:ps.length≠qs.length):dJ ps qs=false:=by
  rw[nB];have:(ps.length == qs.length)=false:=by simpa using h
  rw[this,aaV]
theorem uI{ps:List PV}{j:Nat}{p:PV} (h:ps.all (bW n)=true) (e:ps[j]?=some p):bW n p=true:=by
  rw[ZN]at h;exact h p (aai e)
theorem yL(I:Inv X pins σ H s)(sm:bc Hf H):∀(n:Nat){v:V}{p q:PV},Rp X.K cl Hf v p->Rp X.K cl Hf v q->bW n p=true->bW n q=true->dj p q=true:=by
  intro n
  induction n with
  | zero =>
    intro v p q hp hq cp cq;cases hp<;>cases hq<;>first | (simp[dj];done) | (simp[bW]at cp;done)
  | succ n ih =>
    have all:∀{vs:List V}{ps qs:List PV},cy X.K cl Hf vs ps->cy X.K cl Hf vs qs->ps.all (bW n)=true->qs.all (bW n)=true->dJ ps qs=true:=by
      intro vs
      induction vs with
      | nil=>intro ps qs r1 r2 _ _;cases r1;cases r2;rfl
      | cons v vs T9 =>
        intro ps qs r1 r2 c1 c2;cases r1 with
        | cons a1 t1 =>
          cases r2 with
          | cons a2 t2 =>
            rw[ZO,YH]at c1 c2;show(dj _ _&&dJ _ _)=true
            rw[ih a1 a2 c1.1 c2.1,T9 t1 t2 c1.2 c2.2];rfl
    intro v p q hp hq cp cq;have Kk:∀{a:Addr}{xs ys:List V},f7 X.K Hf a xs->jk X.K Hf a ys->False:=fun{a xs ys} h1 h2=>by
      obtain⟨its,_,⟨o,n1,e1,c1,_⟩,_⟩:=I.list (sm.seq h1);obtain⟨fP,_,⟨o2,e2,c2,_⟩,_⟩:=I.tuple (bc.dZ sm h2);rw[e1]at e2;cases e2;rw[c1]at c2;injection c2 with c3;exact absurd c3 (by decide)
    cases hp with
    | tup h1 r1 =>
      cases hq with
      | tup h2 r2 =>
        have e:=I.ur (bc.dZ sm h1) (bc.dZ sm h2);subst e;exact all r1 r2 cp cq
      | lst h2 r2=>exact(Kk h2 h1).elim
      | _=>simp[bW]at cq
    | lst h1 r1 =>
      cases hq with
      | tup h2 r2=>exact(Kk h1 h2).elim
      | lst h2 r2 =>
        have e:=I.vU (sm.seq h1) (sm.seq h2);subst e;exact all r1 r2 cp cq
      | _=>simp[bW]at cq
    | _=>cases hq<;>first | (simp[dj];done) | (simp[bW]at cp;done)
theorem yM(I:Inv X pins σ H s)(sm:bc Hf H):∀(n:Nat){A:Around}{x y:V}{v u:Value}{p q:PV},A.units+n<cLine->RelV x v->RelV y u->Rp X.K cl Hf x p->Rp X.K cl Hf y q->bW n p=true->bW n q=true ->
    SeqAt.RcAt A s v u (dj p q)/\SeqAt.EqAt A s v u (dj p q)/\SeqAt.RcNeAt A s v u (!dj p q):=by
  intro n
  induction n with
  | zero =>
    intro A x y v u p q hu rv ru rp rq cp cq;cases rp<;>first | (simp[bW]at cp;done) | skip
    all_goals (cases rq<;>first | (simp[bW]at cq;done) | skip)
    . cases rv;cases ru;exact⟨SeqAt.RcAt.none_none,aaL _,SeqAt.RcNeAt.none_none⟩
    . cases rv;cases ru;exact⟨SeqAt.RcAt.none_bool _,abc _,SeqAt.RcNeAt.none_bool _⟩
    . cases rv;obtain⟨t,rfl⟩:=ru;exact⟨SeqAt.RcAt.none_int _ _,abp _ _,SeqAt.RcNeAt.none_int _ _⟩
    . cases rv;obtain⟨t,rfl⟩:=ru;exact⟨SeqAt.RcAt.none_str _ _,abq _ _,SeqAt.RcNeAt.none_str _ _⟩
    . cases rv;cases ru;exact⟨SeqAt.RcAt.bool_none _,abd _,SeqAt.RcNeAt.bool_none _⟩
    . cases rv;cases ru;exact⟨SeqAt.RcAt.bool_bool _ _,abe _ _,SeqAt.RcNeAt.bool_bool _ _⟩
    . cases rv;obtain⟨t,rfl⟩:=ru;exact⟨SeqAt.RcAt.bool_int _ _ _,abr _ _ _,SeqAt.RcNeAt.bool_int _ _ _⟩
    . cases rv;obtain⟨t,rfl⟩:=ru;exact⟨SeqAt.RcAt.bool_str _ _ _,abt _ _ _,SeqAt.RcNeAt.bool_str _ _ _⟩
    . obtain⟨t,rfl⟩:=rv;cases ru;exact⟨SeqAt.RcAt.int_none _ _,abu _ _,SeqAt.RcNeAt.int_none _ _⟩
    . obtain⟨t,rfl⟩:=rv;cases ru;exact⟨SeqAt.RcAt.int_bool _ _ _,abv _ _ _,SeqAt.RcNeAt.int_bool _ _ _⟩
    . obtain⟨t,rfl⟩:=rv;obtain⟨t',rfl⟩:=ru;exact⟨SeqAt.RcAt.int_int _ _ _ _,abD _ _ _ _,SeqAt.RcNeAt.int_int _ _ _ _⟩
    . obtain⟨t,rfl⟩:=rv;obtain⟨t',rfl⟩:=ru;exact⟨SeqAt.RcAt.int_str _ _ _ _,aaO _ _ _ _,SeqAt.RcNeAt.int_str _ _ _ _⟩
    . obtain⟨t,rfl⟩:=rv;cases ru;exact⟨SeqAt.RcAt.str_none _ _,abw _ _,SeqAt.RcNeAt.str_none _ _⟩
    . obtain⟨t,rfl⟩:=rv;cases ru;exact⟨SeqAt.RcAt.str_bool _ _ _,abx _ _ _,SeqAt.RcNeAt.str_bool _ _ _⟩
    . obtain⟨t,rfl⟩:=rv;obtain⟨t',rfl⟩:=ru;exact⟨SeqAt.RcAt.str_int _ _ _ _,aaP _ _ _ _,SeqAt.RcNeAt.str_int _ _ _ _⟩
    . obtain⟨t,rfl⟩:=rv;obtain⟨t',rfl⟩:=ru;exact⟨SeqAt.RcAt.str_str _ _ _ _,abE _ _ _ _,SeqAt.RcNeAt.str_str _ _ _ _⟩
  | succ n ih =>
    intro A x y v u p q hu rv ru rp rq cp cq;have cL:A.units<cLine:=by omega
    have Ua:A.in1.units+n<cLine:=by show A.units+1+n<cLine;omega
    have items:∀{xs ys:List V}{its fP:List Value}{ps qs:List PV},cy X.K cl Hf xs ps->cy X.K cl Hf ys qs->Vals xs its->Vals ys fP->ps.all (bW n)=true->qs.all (bW n)=true ->
        ∀ j (h1:j<its.toArray.size) (h2:j<fP.toArray.size),SeqAt.EqAt A.in1 s its.toArray[j] fP.toArray[j] (nW ps qs j):=by
      intro xs ys its fP ps qs r1 r2 w1 w2 c1 c2 j h1 h2;have g1:j<ps.length:=by rw[<- r1.length,w1.length];simpa using h1
      have g2:j<qs.length:=by rw[<- r2.length,w2.length];simpa using h2
      obtain⟨a,ea,ra⟩:=r1.get (YV g1);obtain⟨b,eb,rb⟩:=r2.get (YV g2);obtain⟨ua,OR,Ub⟩:=w1.get ea;obtain⟨ub,OS,Uc⟩:=w2.get eb;have f1:its.toArray[j]=ua:=by
        have:its[j]?=some its.toArray[j]:=by simp
        rw[this]at OR;exact Zr OR
      have f2:fP.toArray[j]=ub:=by
        have:fP[j]?=some fP.toArray[j]:=by simp
        rw[this]at OS;exact Zr OS
      rw[f1,f2];have e:nW ps qs j=dj ps[j] qs[j]:=by
        unfold nW;rw[YV g1,YV g2]
      rw[e];exact(ih Ua Ub Uc ra rb (uI c1 (YV g1)) (uI c2 (YV g2))).2.1
    cases rp<;>first | (simp[bW]at cp;done) | skip
    all_goals (cases rq<;>first | (simp[bW]at cq;done) | skip)
    . cases rv;cases ru;exact⟨SeqAt.RcAt.none_none,aaL _,SeqAt.RcNeAt.none_none⟩
    . cases rv;cases ru;exact⟨SeqAt.RcAt.none_bool _,abc _,SeqAt.RcNeAt.none_bool _⟩
    . cases rv;obtain⟨t,rfl⟩:=ru;exact⟨SeqAt.RcAt.none_int _ _,abp _ _,SeqAt.RcNeAt.none_int _ _⟩
    . cases rv;obtain⟨t,rfl⟩:=ru;exact⟨SeqAt.RcAt.none_str _ _,abq _ _,SeqAt.RcNeAt.none_str _ _⟩
    . rename_i h r;cases rv;cases ru;obtain⟨its,w,pl,z⟩:=I.tuple (bc.dZ sm h);exact⟨SeqAt.RcAt.none_tuple pl cL,SeqAt.EqAt.none_tuple pl cL,SeqAt.RcNeAt.none_tuple pl cL⟩
    . rename_i h r;cases rv;cases ru;obtain⟨its,w,pl,z⟩:=I.list (sm.seq h);exact⟨SeqAt.RcAt.none_list pl.isList cL,SeqAt.EqAt.none_list pl.isList cL,SeqAt.RcNeAt.none_list pl.isList cL⟩
    . cases rv;cases ru;exact⟨SeqAt.RcAt.bool_none _,abd _,SeqAt.RcNeAt.bool_none _⟩
    . cases rv;cases ru;exact⟨SeqAt.RcAt.bool_bool _ _,abe _ _,SeqAt.RcNeAt.bool_bool _ _⟩
    . cases rv;obtain⟨t,rfl⟩:=ru;exact⟨SeqAt.RcAt.bool_int _ _ _,abr _ _ _,SeqAt.RcNeAt.bool_int _ _ _⟩
    . cases rv;obtain⟨t,rfl⟩:=ru;exact⟨SeqAt.RcAt.bool_str _ _ _,abt _ _ _,SeqAt.RcNeAt.bool_str _ _ _⟩
    . rename_i h r;cases rv;cases ru;obtain⟨its,w,pl,z⟩:=I.tuple (bc.dZ sm h);exact⟨SeqAt.RcAt.bool_tuple _ pl cL,SeqAt.EqAt.bool_tuple _ pl cL,SeqAt.RcNeAt.bool_tuple _ pl cL⟩
    . rename_i h r;cases rv;cases ru;obtain⟨its,w,pl,z⟩:=I.list (sm.seq h);exact⟨SeqAt.RcAt.bool_list _ pl.isList cL,SeqAt.EqAt.bool_list _ pl.isList cL,SeqAt.RcNeAt.bool_list _ pl.isList cL⟩
    . obtain⟨t,rfl⟩:=rv;cases ru;exact⟨SeqAt.RcAt.int_none _ _,abu _ _,SeqAt.RcNeAt.int_none _ _⟩
    . obtain⟨t,rfl⟩:=rv;cases ru;exact⟨SeqAt.RcAt.int_bool _ _ _,abv _ _ _,SeqAt.RcNeAt.int_bool _ _ _⟩
    . obtain⟨t,rfl⟩:=rv;obtain⟨t',rfl⟩:=ru;exact⟨SeqAt.RcAt.int_int _ _ _ _,abD _ _ _ _,SeqAt.RcNeAt.int_int _ _ _ _⟩
    . obtain⟨t,rfl⟩:=rv;obtain⟨t',rfl⟩:=ru;exact⟨SeqAt.RcAt.int_str _ _ _ _,aaO _ _ _ _,SeqAt.RcNeAt.int_str _ _ _ _⟩
    . rename_i h r;obtain⟨t,rfl⟩:=rv;cases ru;obtain⟨its,w,pl,z⟩:=I.tuple (bc.dZ sm h);exact⟨SeqAt.RcAt.int_tuple _ _ pl cL,SeqAt.EqAt.int_tuple _ _ pl cL,SeqAt.RcNeAt.int_tuple _ _ pl cL⟩
    . rename_i h r;obtain⟨t,rfl⟩:=rv;cases ru;obtain⟨its,w,pl,z⟩:=I.list (sm.seq h);exact⟨SeqAt.RcAt.int_list _ _ pl.isList cL,SeqAt.EqAt.int_list _ _ pl.isList cL,SeqAt.RcNeAt.int_list _ _ pl.isList cL⟩
    . obtain⟨t,rfl⟩:=rv;cases ru;exact⟨SeqAt.RcAt.str_none _ _,abw _ _,SeqAt.RcNeAt.str_none _ _⟩
    . obtain⟨t,rfl⟩:=rv;cases ru;exact⟨SeqAt.RcAt.str_bool _ _ _,abx _ _ _,SeqAt.RcNeAt.str_bool _ _ _⟩
    . obtain⟨t,rfl⟩:=rv;obtain⟨t',rfl⟩:=ru;exact⟨SeqAt.RcAt.str_int _ _ _ _,aaP _ _ _ _,SeqAt.RcNeAt.str_int _ _ _ _⟩
    . obtain⟨t,rfl⟩:=rv;obtain⟨t',rfl⟩:=ru;exact⟨SeqAt.RcAt.str_str _ _ _ _,abE _ _ _ _,SeqAt.RcNeAt.str_str _ _ _ _⟩
    . rename_i h r;obtain⟨t,rfl⟩:=rv;cases ru;obtain⟨its,w,pl,z⟩:=I.tuple (bc.dZ sm h);exact⟨SeqAt.RcAt.str_tuple _ _ pl cL,SeqAt.EqAt.str_tuple _ _ pl cL,SeqAt.RcNeAt.str_tuple _ _ pl cL⟩
    . rename_i h r;obtain⟨t,rfl⟩:=rv;cases ru;obtain⟨its,w,pl,z⟩:=I.list (sm.seq h);exact⟨SeqAt.RcAt.str_list _ _ pl.isList cL,SeqAt.EqAt.str_list _ _ pl.isList cL,SeqAt.RcNeAt.str_list _ _ pl.isList cL⟩
    . rename_i h r;cases rv;cases ru;obtain⟨its,w,pl,z⟩:=I.tuple (bc.dZ sm h);exact⟨SeqAt.RcAt.tuple_none pl cL,SeqAt.EqAt.tuple_none pl cL,SeqAt.RcNeAt.tuple_none pl cL⟩
    . rename_i h r _;cases rv;cases ru;obtain⟨its,w,pl,z⟩:=I.tuple (bc.dZ sm h);exact⟨SeqAt.RcAt.tuple_bool _ pl cL,SeqAt.EqAt.tuple_bool _ pl cL,SeqAt.RcNeAt.tuple_bool _ pl cL⟩
    . rename_i h r _;cases rv;obtain⟨t',rfl⟩:=ru;obtain⟨its,w,pl,z⟩:=I.tuple (bc.dZ sm h);exact⟨SeqAt.RcAt.tuple_int _ _ pl cL,SeqAt.EqAt.tuple_int _ _ pl cL,SeqAt.RcNeAt.tuple_int _ _ pl cL⟩
    . rename_i h r _;cases rv;obtain⟨t',rfl⟩:=ru;obtain⟨its,w,pl,z⟩:=I.tuple (bc.dZ sm h);exact⟨SeqAt.RcAt.tuple_str _ _ pl cL,SeqAt.EqAt.tuple_str _ _ pl cL,SeqAt.RcNeAt.tuple_str _ _ pl cL⟩
    . rename_i a xs ps h r b ys qs h' r';cases rv;cases ru;obtain⟨its,w,pl,z⟩:=I.tuple (bc.dZ sm h);obtain⟨fP,w2,lh,z2⟩:=I.tuple (bc.dZ sm h');have it:=items r r' w w2 cp cq
      have e:((List.range (min its.toArray.size fP.toArray.size)).all (nW ps qs)&&its.toArray.size == fP.toArray.size)=dj (.tup ps) (.tup qs):=by
        show _=dJ ps qs;rw[nB,YN,YN,<- w.length,<- w2.length,r.length,r'.length]
      have c1:=SeqAt.RcAt.tuples (A:=A) pl lh cL it;have c2:=SeqAt.RcNeAt.tuples (A:=A) pl lh cL it
      rw[e]at c1 c2;refine⟨c1,?_,c2⟩;by_cases qp:a=b
      . subst qp;rw[yL I sm (n+1) (Rp.tup h r) (Rp.tup h' r') cp cq];exact aaL _
      . exact .of_refs qp c1
    . rename_i a xs ps h r b ys qs h' r';cases rv;cases ru;obtain⟨its,w,pl,z⟩:=I.tuple (bc.dZ sm h);obtain⟨fP,w2,lh,z2⟩:=I.list (sm.seq h');exact⟨SeqAt.RcAt.tuple_list pl lh.isList cL,SeqAt.EqAt.tuple_list pl lh.isList cL,SeqAt.RcNeAt.tuple_list pl lh.isList cL⟩
    . rename_i h r;cases rv;cases ru;obtain⟨its,w,pl,z⟩:=I.list (sm.seq h);exact⟨SeqAt.RcAt.list_none pl.isList cL,SeqAt.EqAt.list_none pl.isList cL,SeqAt.RcNeAt.list_none pl.isList cL⟩
    . rename_i h r _;cases rv;cases ru;obtain⟨its,w,pl,z⟩:=I.list (sm.seq h);exact⟨SeqAt.RcAt.list_bool _ pl.isList cL,SeqAt.EqAt.list_bool _ pl.isList cL,SeqAt.RcNeAt.list_bool _ pl.isList cL⟩
    . rename_i h r _;cases rv;obtain⟨t',rfl⟩:=ru;obtain⟨its,w,pl,z⟩:=I.list (sm.seq h);exact⟨SeqAt.RcAt.list_int _ _ pl.isList cL,SeqAt.EqAt.list_int _ _ pl.isList cL,SeqAt.RcNeAt.list_int _ _ pl.isList cL⟩
    . rename_i h r _;cases rv;obtain⟨t',rfl⟩:=ru;obtain⟨its,w,pl,z⟩:=I.list (sm.seq h);exact⟨SeqAt.RcAt.list_str _ _ pl.isList cL,SeqAt.EqAt.list_str _ _ pl.isList cL,SeqAt.RcNeAt.list_str _ _ pl.isList cL⟩
    . rename_i a xs ps h r b ys qs h' r';cases rv;cases ru;obtain⟨its,w,pl,z⟩:=I.list (sm.seq h);obtain⟨fP,w2,lh,z2⟩:=I.tuple (bc.dZ sm h');exact⟨SeqAt.RcAt.list_tuple pl.isList lh cL,SeqAt.EqAt.list_tuple pl.isList lh cL,SeqAt.RcNeAt.list_tuple pl.isList lh cL⟩
    . rename_i a xs ps h r b ys qs h' r';cases rv;cases ru;obtain⟨its,w,pl,z⟩:=I.list (sm.seq h);obtain⟨fP,w2,lh,z2⟩:=I.list (sm.seq h');have it:=items r r' w w2 cp cq
      have l1:its.toArray.size=ps.length:=by rw[YN,<- w.length,r.length]
      have l2:fP.toArray.size=qs.length:=by rw[YN,<- w2.length,r'.length]
      have both:SeqAt.RcAt A s (.ref a) (.ref b) (dJ ps qs)/\SeqAt.RcNeAt A s (.ref a) (.ref b) (!dJ ps qs):=by
        by_cases hl:ps.length=qs.length
        . have c1:=SeqAt.RcAt.lists (A:=A) pl.isList lh.isList (by rw[l1,l2,hl]) cL it;have c2:=SeqAt.RcNeAt.lists (A:=A) pl.isList lh.isList (by rw[l1,l2,hl]) cL it
          rw[l1,<- Cw hl]at c1 c2;exact⟨c1,c2⟩
        . rw[EM hl];have Cy:(its.toArray.size != fP.toArray.size)=true:=by rw[l1,l2];simpa using hl
          exact⟨SeqAt.RcAt.lists_lengths pl.isList lh.isList Cy cL,SeqAt.RcNeAt.lists_lengths pl.isList lh.isList Cy cL⟩
      refine⟨both.1,?_,both.2⟩;by_cases qp:a=b
      . subst qp;rw[yL I sm (n+1) (Rp.lst h r) (Rp.lst h' r') cp cq];exact aaL _
      . exact .of_refs qp both.1
theorem bt(hu:X.A.units+64<cLine):dQ X cl (compareOp .Eq) bD:=by
  intro pins s σ Hf H x y v u p q I sm rv ru rp rq hs;unfold bD at hs ⊢;by_cases uH:(pL p&&pL q)=true;rotate_left
  . rw[Yx uH]at hs ⊢;obtain⟨hd,e⟩:=eo hs;rw[e];cases p<;>cases q<;>first
      | (simp[Cn]at hd;done)
      | skip
    cases rp with
    | iI h =>
      cases rq;cases rv;obtain⟨t,rfl⟩:=ru;obtain⟨o,es,ep,h1,h2,h3⟩:=Cu I sm h;exact yt h1 h2 h3 (by omega) _ _ _ _ ⟨_,.bl false,Hf,H,rfl,I,rfl,Ext.refl sm,.bl _⟩
  rw[Yy uH]at hs ⊢;have e:(R.ok (PV.bl (dj p q)):R PV)=.ok (.bl (dj p q)):=rfl
  have hc:=uH;rw[e];rw[YH]at hc;exact(yM I sm 6 (by omega) rv ru rp rq hc.1 hc.2).1 _ _ _ _ ⟨_,.bl _,Hf,H,rfl,I,rfl,Ext.refl sm,.bl _⟩
theorem tX(hu:X.A.units+64<cLine):dQ X cl (compareOp .NotEq) mC:=by
  intro pins s σ Hf H x y v u p q I sm rv ru rp rq hs;unfold mC at hs ⊢;obtain⟨hc,e⟩:=eo hs;rw[e];rw[YH]at hc;exact(yM I sm 6 (by omega) rv ru rp rq hc.1 hc.2).2.2 _ _ _ _ ⟨_,.bl _,Hf,H,rfl,I,rfl,Ext.refl sm,.bl _⟩
end
theorem yu{h:Heap} (x:fJ P w H h a o):∃ ob,h.get? a=some ob:=by
  cases o with
  | lst xs=>obtain⟨_,_,_,_,e⟩:=x;exact⟨_,e⟩
  | tup xs=>obtain⟨_,_,_,ob,e,_⟩:=x;exact⟨_,e⟩
  | dK lS=>obtain⟨_,_,_,_,o,_,_,e,_⟩:=x;exact⟨_,e⟩
  | dT lS=>obtain⟨_,_,_,_,o,_,_,e,_⟩:=x;exact⟨_,e⟩
  | set S n=>obtain⟨o,_,_,_,e,_⟩:=x;exact⟨_,e⟩
  | ins C dx fs=>obtain⟨_,_,_,e,_⟩:=x;exact⟨_,e⟩
  | own y=>exact x
  | xd fs=>obtain⟨_,⟨_,_,_,e,_⟩,_⟩:=x;exact⟨_,e⟩
  | Gh lo hi=>obtain⟨_,_,_,e⟩:=x;exact⟨_,e⟩
  | cj ob u=>exact⟨_,x.1⟩
  | fF ps=>exact⟨_,(show h.get? a=some _ from x)⟩
  | met f y=>exact⟨_,(show h.get? a=some _ from x)⟩
  | ext φ=>exact x.2.1
section
variable {X:Cx}{cl:Nat->Addr}{pins:List (Addr×Obj)}{s:Shared}{σ:SV}{aK H0 Hf H aM H1:Hp}{ρ:aJ}{α:Type}{B h':Heap}
structure Own(X:Cx):Prop where
  rn:X.stack=X.env::X.outer
  fr:X.env.frame=some X.env.locals
  ex:∀ b,b ∉ X.ex
  fn:∀ x,X.fn x=true
theorem oN(W:Own X)(I:Inv X pins σ H s)(h:iT X pins H b):∃ o,s.heap.get? b=some o:=by
  rcases h with h | ⟨p,hp,e⟩ | ⟨o,h⟩ | ⟨x,h⟩
  . cases e:H b with
    | none=>exact absurd e h
    | some u=>exact yu (I.bQ b u e)
  . rw[<- e];exact⟨_,(I.pin p hp).1⟩
  . exact I.base.there b o h (W.ex b)
  . obtain⟨v,o',q,_⟩:=I.cell x b h;exact⟨o',q⟩
theorem jO(W:Own X){b:Addr}:b∈fq X.stack↔b=X.env.locals\/b∈X.fs:=by
  rw[W.rn];unfold fq;rw[Z7,W.fr];exact Zm
theorem lV.gq(W:Own X)(I:Inv X pins σ H s)(c:lV X pins H B s.heap)(st:B.StaysIn h'):lV X pins H B h':=by
  intro b o e hs hn;obtain⟨o',e'⟩:=oN W I hs;have q:=c b o' e' hs hn
  have:=st b o' q;rw[e]at this;cases this;exact q
theorem Inv.gq(W:Own X)(I:Inv X pins σ H s)(c:lV X pins H B s.heap)(st:B.StaysIn h')(u:s.heap.UpToSlots h'){tk:Nat}:Inv X pins σ H { s with heap:=h',toks:=tk }:=by
  have keep:∀ b o,s.heap.get? b=some o->iT X pins H b->b ∉ fq X.stack->h'.get? b=some o:=fun b o e hs hn=>st b o (c b o e hs hn);have fr:∀ b∈fq X.stack,∃ o,s.heap.get? b=some o/\∀ vs,o.data≠.fields vs:=fun b hb=>((I.stack).mem hb).2
  have X9:X.env.locals∈fq X.stack:=(jO W).mpr (.inl rfl);have EN:gi X.prog X.w H h':=fun a o e=>by
    have na:a ∉ fq X.stack:=fun z=>by rw[I.pJ a z]at e;cases e
    refine(I.bQ a o e).oq (fun b v hb q=>?_) (fun _ q=>q) fun _ _ q=>q;rcases hb with rfl | hb
    . exact keep _ v q (.inl (by rw[e];intro z;cases z)) na
    . have nb:b ∉ fq X.stack:=fun z=>by rw[I.pJ b z]at hb;cases hb
      exact keep b v q (.inl (by rw[hb];intro z;cases z)) nb
  obtain⟨m,hn,hl⟩:=I.loc;have old:∀ b o,X.s₀.heap.get? b=some o->b≠X.env.locals:=fun b o e z=>by
    have:=YO e;rw[z]at this;exact absurd (YY this I.ok.above) (ZI _)
  have cells:∀ x cc v,X.env.cells.lookup x=some cc->s.heap.IsCell cc v->h'.IsCell cc v:=fun x cc v e q=>by
    obtain⟨o,ho,hd⟩:=q;have nf:cc ∉ fq X.stack:=fun z=>by
      rcases(jO W).mp z with z | z
      . exact I.qa x cc e z
      . obtain⟨_,o',lT,_⟩:=I.ok.iG.mem z;exact absurd (YY (YO lT) (I.ok.um x cc (W.fn x) e)) (ZI _)
    exact⟨o,keep cc o ho (.inr (.inr (.inr ⟨x,e⟩))) nf,hd⟩
  refine⟨I.ok,I.os,I.bare,⟨fun b o e n hb hx=>?_,fun b o e n hb hx=>?_,I.base.free,fun b o e hx=>?_,I.base.kT,I.base.kr,I.base.kU⟩,⟨m,u.ns hn,fun i x v e1 e2 e3=>?_⟩,fun x cc e=>?_,I.free,I.gG,fun p hp=>?_,EN,I.len⟩
  . exact keep b o (I.base.keep b o e n hb hx) (.inr (.inr (.inl ⟨o,e⟩))) fun z=>((jO W).mp z).elim (old b o e) hb
  . obtain⟨sl,q⟩:=I.base.slot b o e n hb hx;obtain⟨o',lT,oO⟩:=fr b ((jO W).mpr (.inr hb));rw[q]at lT;cases lT;obtain⟨rA,q'⟩:=u b _ q oO;exact⟨rA,q'⟩
  . obtain⟨o',q⟩:=I.base.there b o e hx;by_cases hb:b∈fq X.stack
    . obtain⟨o2,rE,oO⟩:=fr b hb;obtain⟨rA,q'⟩:=u b _ rE oO;exact⟨_,q'⟩
    . exact⟨o',keep b o' q (.inr (.inr (.inl ⟨o,e⟩))) hb⟩
  . obtain⟨uu,r,l⟩:=hl i x v e1 e2 e3;refine⟨uu,r,?_⟩;rcases l with l | ⟨hk,cc,hc,jY⟩
    . exact .inl l
    . exact .inr ⟨hk,cc,hc,cells x cc _ hc jY⟩
  . obtain⟨v,q⟩:=I.cell x cc e;exact⟨v,cells x cc v e q⟩
  . obtain⟨p1,p2,p3,p4,p5⟩:=I.pin p hp;exact⟨keep p.1 p.2 p1 (.inr (.inl ⟨p,hp,rfl⟩)) fun z=>((jO W).mp z).elim p3 p4,p2,p3,p4,p5⟩
theorem lV.vL{pl:List (Addr×Obj)}(c:lV X (pins++pl) H B h'):lV X pins H B h':=fun b o e hs hn=>c b o e (by
  rcases hs with h | ⟨p,hp,q⟩ | h | h
  . exact .inl h
  . refine .inr (.inl ⟨p,?_,q⟩);rcases aaf.mp hp with z | z
    . exact aaD _ z
    . exact YZ _ (aaD _ z)
  . exact .inr (.inr (.inl h))
  . exact .inr (.inr (.inr h))) hn
theorem nV.vL{pl:List (Addr×Obj)}(x:nV X (pins++pl) H e C h'):nV X pins H e C h':=by
  obtain⟨B,a0,c,d,r⟩:=x;exact⟨B,a0,c.vL,d,r⟩
theorem kz.keep{h h':Heap} (d:kz e h) (k:Kd e h h'):kz e h':=by
  obtain⟨o,h1,h2⟩:=d;obtain⟨o',h3,_,h4⟩:=k o h1;exact⟨o',h3,h4.trans h2⟩
theorem EO{A:Around}{E:Value->Shared->Prop}{e C:Addr}{Q:Unit->Shared->Prop} (W:Own X) (oQ:A.frames=some X.stack)
    (x:wu B X.stack e (.ref C) a0 s.heap\/Heap.HeldW B X.stack e (.ref C) a0 X.env.locals s.heap\/Heap.FlyingW B X.stack e (.ref C) a0 s.heap)
    (h:∀ h',Heap.HeldW B X.stack e (.ref C) a0 X.env.locals h'->s.heap.UpToSlots h'->Q () { s with heap:=h' }):wpAny M A (noteFrame (.ref e) X.env) Q E s:=by
  rw[W.rn]at x h oQ;rcases x with⟨f1,f2,f3,oe,vs,he,hc,Ya,hd,h0,h1⟩ | x | x
  . unfold noteFrame;simp only[W.fr];refine YE (aco he hd h1 ?_);rw[Yx (by decide)];refine wpAny_entryW oQ f3 W.fr he f1 f2 hd (abI.mp h1).1 h0 fun h' hN=>?_;obtain⟨k1,k2,k3,k4⟩:=hN;rw[hc]at k3;exact h h' ⟨k1,f2,k2,k3⟩ k4
  . exact wpAny_noteFrame_againW W.fr x.2.2.2 (h s.heap x (Heap.UpToSlots.refl _))
  . exact wpAny_looks_onW oQ W.fr x h
theorem pO{A:Around}{E:Value->Shared->Prop}{e C:Addr}{Q:Unit->Shared->Prop} (W:Own X) (oQ:A.frames=some X.stack) (nd:kz e s.heap)
    (x:wu B X.stack e (.ref C) a0 s.heap\/Heap.HeldW B X.stack e (.ref C) a0 X.env.locals s.heap\/Heap.FlyingW B X.stack e (.ref C) a0 s.heap)
    (h:∀ h',Heap.HeldW B X.stack e (.ref C) a0 X.env.locals h'->s.heap.UpToSlots h'->kz e h'->Q () { s with heap:=h' }):wpAny M A (noteFrame (.ref e) X.env) Q E s :=
  YA ((Cr (.ref e) X.env).any e (EO (E:=fun _ _=>False) (Q:=fun _ s'=>∃ h',s'={ s with heap:=h' }/\Heap.HeldW B X.stack e (.ref C) a0 X.env.locals h'/\s.heap.UpToSlots h') W oQ x fun h' a b=>⟨h',rfl,a,b⟩))
    (fun _ s' ⟨⟨h',e1,a,b⟩,k⟩=>by subst e1;exact h h' a b (nd.keep k)) fun _ _ ⟨z,_⟩=>z.elim
theorem wD{E:Value->Shared->Prop}{e C:Addr}{Q:Unit->Shared->Prop} (nd:kz e s.heap) (R:Heap.HeldW B l e (.ref C) a0 L s.heap)
    (h:∀ h',Heap.FlyingW B l e (.ref C) a0 h'->s.heap.UpToSlots h'->kz e h'->Q () { s with heap:=h' }):wpAny M A (setFlight (.ref e) none) Q E s :=
  YA ((jN (.ref e) none).any e (wpAny_landsW (E:=fun _ _=>False) (Q:=fun _ s'=>∃ h',s'={ s with heap:=h' }/\Heap.FlyingW B l e (.ref C) a0 h'/\s.heap.UpToSlots h') R fun h' a b=>⟨h',rfl,a,b⟩))
    (fun _ s' ⟨⟨h',e1,a,b⟩,k⟩=>by subst e1;exact h h' a b (nd.keep k)) fun _ _ ⟨z,_⟩=>z.elim
theorem ER{E:Value->Shared->Prop}{e C:Addr}{Q:Unit->Shared->Prop} (nd:kz e s.heap) (R:Heap.FlyingW B l e (.ref C) a0 s.heap)
    (h:∀ h',Heap.FlyingW B l e (.ref C) a0 h'->s.heap.UpToSlots h'->kz e h'->Q () { s with heap:=h' }):wpAny M A (setFlight (.ref e) none) Q E s :=
  YA ((jN (.ref e) none).any e (lands_againW (E:=fun _ _=>False) (Q:=fun _ s'=>∃ h',s'={ s with heap:=h' }/\Heap.FlyingW B l e (.ref C) a0 h'/\s.heap.UpToSlots h') R fun h' a b=>⟨h',rfl,a,b⟩))
    (fun _ s' ⟨⟨h',e1,a,b⟩,k⟩=>by subst e1;exact h h' a b (nd.keep k)) fun _ _ ⟨z,_⟩=>z.elim
theorem A4{E:Value->Shared->Prop}{e C:Addr}{Q:Unit->Shared->Prop} (R:Heap.HeldW B l e (.ref C) a0 L s.heap)
    (h:∀ h',Heap.HeldW B l e (.ref C) a0 L h'->s.heap.UpToSlots h'->Q () { s with heap:=h' }):wpAny M A (setFlight (.ref e) (some L)) Q E s:=by
  obtain⟨Ud,Ue,hl,oe,vs,T,oT,ts,he,hcls,hd,h1,OT,OU,hT,GB,h3⟩:=R;have Kl:3<ts.size:=(abI.mp h3).1
  have other:∀ b,b≠T->(s.heap.update T (Obj.mapFields (·.setIfInBounds 3 ((some L).elim Value.none fun f=>rawInt f)))).get? b=s.heap.get? b :=
    fun b hb=>aau _ _ (ZC hb)
  have wF:∀ b o,s.heap.get? b=some o->(∀ vs,o.data≠.fields vs)->b≠T:=fun b o hb oO q=>by
    rw[q,hT]at hb;injection hb with hb;subst hb;exact oO ts GB
  unfold setFlight;refine YE (aco he hd h1 ?_);rw[Yy (show(Value.ref T != Value.none)=true from by simp)]
  refine wpAny_setField hT GB Kl (h _ ⟨fun b o Km=>(other b fun q=>by rw[q,OT]at Km;cases Km).trans (Ud b o Km),Ue,
    hl.of_keeps fun b o hb oO=>⟨o,(other b (wF b o hb oO)).trans hb,rfl⟩,?_⟩ fun b o hb oO=>⟨o.slots,(other b (wF b o hb oO)).trans hb⟩)
  exact⟨oe,vs,T,_,_,(other e (ZC OU)).trans he,hcls,hd,h1,OT,OU,aa4 _ hT (Obj.isFreed_of_fields (Obj.data_mapFields GB _)),Obj.data_mapFields GB _,by simp[Kl]⟩
theorem uJ{E:Value->Shared->Prop}{e C:Addr}{Q:Unit->Shared->Prop} (nd:kz e s.heap) (R:Heap.HeldW B l e (.ref C) a0 L s.heap)
    (h:∀ h',Heap.HeldW B l e (.ref C) a0 L h'->s.heap.UpToSlots h'->kz e h'->Q () { s with heap:=h' }):wpAny M A (setFlight (.ref e) (some L)) Q E s :=
  YA ((jN (.ref e) (some L)).any e (A4 (E:=fun _ _=>False) (Q:=fun _ s'=>∃ h',s'={ s with heap:=h' }/\Heap.HeldW B l e (.ref C) a0 L h'/\s.heap.UpToSlots h') R fun h' a b=>⟨h',rfl,a,b⟩))
    (fun _ s' ⟨⟨h',e1,a,b⟩,k⟩=>by subst e1;exact h h' a b (nd.keep k)) fun _ _ ⟨z,_⟩=>z.elim
theorem uK(W:Own X){E:Value->Shared->Prop}(hE:∀ u s,E u s->∃ pins σ H e C,u=.ref e/\Inv X pins σ H s/\nV X pins H e C s.heap/\∀ h',Inv X pins σ H { s with heap:=h' }->nV X pins H e C h'->E u { s with heap:=h' }) :
    PassesOwn (model X.prog X.w) X.A X.env E:=by
  intro u s hu;obtain⟨pins,σ,H,e,C,rfl,I,⟨B,a0,c,nd,x⟩,k⟩:=hE u s hu;refine pO W I.ok.frames nd x fun h1 hh u1 Cz=>?_;have I1:=Inv.gq W I c hh.1 u1 (tk:=s.toks)
  have c1:=c.gq W I hh.1;show wpAny _ _ _ _ _ _
  have CA:=hh;obtain⟨k1,k2,k3,oe,vs,T,oT,ts,he,hcls,hd,wG,_⟩:=CA;refine YE (aco he hd wG ?_);rw[Yx (show ¬((Value.ref T == Value.none)=true) from by simp)]
  rw[W.fr]
  first
    | refine YE (Zb ?_)
    | skip
  refine uJ (s:={ s with heap:=h1 }) Cz hh fun h2 Kn u2 CB=>?_;have I2:=Inv.gq W I1 c1 Kn.1 u2 (tk:=s.toks)
  exact k h2 I2 ⟨B,a0,c1.gq W I1 Kn.1,CB,.inr (.inl Kn)⟩
end
section
variable (X:Cx) (cl:Nat->Addr)
def uL(pins:List (Addr×Obj))(aK H0 Hg:Hp)(r:SR)(f:Flow)(s:Shared):Prop:=match f with
  | .next=>∃ ρ σ Hf H,r=.next ρ/\Inv X pins σ H s/\Rep X.K cl aK H0 Hf H σ ρ/\bc Hg Hf
  | .brk=>∃ ρ σ Hf H,r=.brk ρ/\Inv X pins σ H s/\Rep X.K cl aK H0 Hf H σ ρ/\bc Hg Hf
  | .cont=>∃ ρ σ Hf H,r=.cont ρ/\Inv X pins σ H s/\Rep X.K cl aK H0 Hf H σ ρ/\bc Hg Hf
  | .ret u=>∃ p v σ Hf H,r=.ret p/\Inv X pins σ H s/\Ext aK H0 Hf H/\RelV v u/\Rp X.K cl Hf v p
def kA(pins:List (Addr×Obj))(aK H0 Hg:Hp)(r:SR)(u:Value)(s:Shared):Prop :=
  ∃ c ρ σ Hf H e,r=.exc c ρ/\u=.ref e/\Inv X pins σ H s/\Rep X.K cl aK H0 Hf H σ ρ/\bc Hg Hf/\nV X pins H e (cl c) s.heap
structure MS(st:Stmt)(f:FS):Prop where
  run':∀(pins:List (Addr×Obj))(s:Shared)(σ:SV)(aK H0 Hf H:Hp)(ρ:aJ),Inv X pins σ H s->Rep X.K cl aK H0 Hf H σ ρ->f ρ≠.stuck ->
    wpAny (model X.prog X.w) X.A (exec st X.env) (uL X cl pins aK H0 Hf (f ρ)) (kA X cl pins aK H0 Hf (f ρ)) s
noncomputable instance {st:Stmt}{f:FS}:CoeFun (MS X cl st f) fun _=>∀(pins:List (Addr×Obj))(s:Shared)(σ:SV)(aK H0 Hf H:Hp)(ρ:aJ),Inv X pins σ H s->Rep X.K cl aK H0 Hf H σ ρ->f ρ≠.stuck ->
    wpAny (model X.prog X.w) X.A (exec st X.env) (uL X cl pins aK H0 Hf (f ρ)) (kA X cl pins aK H0 Hf (f ρ)) s:=⟨MS.run'⟩
structure jJ(st:List Stmt)(f:FS):Prop where
  run':∀(pins:List (Addr×Obj))(s:Shared)(σ:SV)(aK H0 Hf H:Hp)(ρ:aJ),Inv X pins σ H s->Rep X.K cl aK H0 Hf H σ ρ->f ρ≠.stuck ->
    wpAny (model X.prog X.w) X.A (execs st X.env) (uL X cl pins aK H0 Hf (f ρ)) (kA X cl pins aK H0 Hf (f ρ)) s
noncomputable instance {st:List Stmt}{f:FS}:CoeFun (jJ X cl st f) fun _=>∀(pins:List (Addr×Obj))(s:Shared)(σ:SV)(aK H0 Hf H:Hp)(ρ:aJ),Inv X pins σ H s->Rep X.K cl aK H0 Hf H σ ρ->f ρ≠.stuck ->
    wpAny (model X.prog X.w) X.A (execs st X.env) (uL X cl pins aK H0 Hf (f ρ)) (kA X cl pins aK H0 Hf (f ρ)) s:=⟨jJ.run'⟩
end
section
variable {X:Cx}{cl:Nat->Addr}{pins:List (Addr×Obj)}{s:Shared}{σ:SV}{aK H0 Hf H aM H1:Hp}{ρ:aJ}{α:Type}
theorem oR(r:Rep X.K cl aK H0 Hf H σ ρ)(x:Cs X cl pins σ Hf H c u s'):kA X cl pins aK H0 Hf (.exc c ρ) u s':=by
  obtain⟨e,az,H',rfl,I,ex,st⟩:=x;exact⟨c,ρ,σ,az,H',e,rfl,rfl,I,r.keep ex,ex.cj,st⟩
theorem uL.from(g:bc Hg Ko)(h:uL X cl pins aK H0 Ko r fl s'):uL X cl pins aK H0 Hg r fl s':=by
  cases fl with
  | next=>obtain⟨ρ,σ,Hf,H,a,b,c,d⟩:=h;exact⟨ρ,σ,Hf,H,a,b,c,g.trans d⟩
  | brk=>obtain⟨ρ,σ,Hf,H,a,b,c,d⟩:=h;exact⟨ρ,σ,Hf,H,a,b,c,g.trans d⟩
  | cont=>obtain⟨ρ,σ,Hf,H,a,b,c,d⟩:=h;exact⟨ρ,σ,Hf,H,a,b,c,g.trans d⟩
  | ret u=>exact h
theorem kA.from(g:bc Hg Ko)(h:kA X cl pins aK H0 Ko r u s'):kA X cl pins aK H0 Hg r u s':=by
  obtain⟨c,ρ,σ,Hf,H,e,a,b,d,f,k,l⟩:=h;exact⟨c,ρ,σ,Hf,H,e,a,b,d,f,g.trans k,l⟩
theorem ME.nX(h:ME X cl e f)(I:Inv X pins σ H s)(r:Rep X.K cl aK H0 Hf H σ ρ){k:PV->SR}(hs:mD (f ρ) ρ k≠.stuck){Q:Value->Shared->Prop}
    (ok:∀ p v u s' az H',mD (f ρ) ρ k=k p->Inv X pins σ H' s'->RelV v u->Ext Hf H az H'->Rp X.K cl az v p->Q u s') :
    wpAny (model X.prog X.w) X.A (eval e X.env) Q (kA X cl pins aK H0 Hf (mD (f ρ) ρ k)) s:=by
  have hf:f ρ≠.stuck:=fun z=>hs (by rw[z];rfl);refine YA (h pins s σ aK H0 Hf H ρ I r hf) (fun u s' q=>?_) fun u s' q=>?_
  . obtain⟨p,v,az,H',e1,I',rv,ex,rp⟩:=q;exact ok p v u s' az H' (by rw[e1];rfl) I' rv ex rp
  . obtain⟨c,e1,x⟩:=q;rw[e1];exact oR r x
theorem aN:jJ X cl [] aV:=⟨fun pins s σ aK H0 Hf H ρ I r _=>ZP ⟨ρ,σ,Hf,H,rfl,I,r,bc.refl _⟩⟩
theorem aj{st:Stmt}{rest:List Stmt}{f g:FS}(h1:MS X cl st f)(h2:jJ X cl rest g):jJ X cl (st::rest) (aD f g):=by
  refine⟨?_⟩;intro pins s σ aK H0 Hf H ρ I r hs;have hf:f ρ≠.stuck:=fun z=>hs (by unfold aD;rw[z])
  refine aaG (YA (h1 pins s σ aK H0 Hf H ρ I r hf) (fun fl s1 q=>?_) fun u s1 q=>?_)
  . cases fl with
    | next =>
      obtain⟨ρ',σ',az,H',e1,I',r',sm⟩:=q;have e2:aD f g ρ=g ρ':=by unfold aD;rw[e1]
      rw[e2]at hs ⊢;exact YA (h2 pins s1 σ' aK H0 az H' ρ' I' r' hs) (fun _ _ q=>q.from sm) fun _ _ q=>q.from sm
    | brk =>
      obtain⟨ρ',σ',az,H',e1,I',r',sm⟩:=q;have e2:aD f g ρ=.brk ρ':=by unfold aD;rw[e1]
      rw[e2];exact⟨ρ',σ',az,H',rfl,I',r',sm⟩
    | cont =>
      obtain⟨ρ',σ',az,H',e1,I',r',sm⟩:=q;have e2:aD f g ρ=.cont ρ':=by unfold aD;rw[e1]
      rw[e2];exact⟨ρ',σ',az,H',rfl,I',r',sm⟩
    | ret u =>
      obtain⟨p,v,σ',az,H',e1,I',ex,rv,rp⟩:=q;have e2:aD f g ρ=.ret p:=by unfold aD;rw[e1]
      rw[e2];exact⟨p,v,σ',az,H',rfl,I',ex,rv,rp⟩
  . obtain⟨c,ρ',σ',az,H',e,e1,eu,I',r',sm,x⟩:=q;have e2:aD f g ρ=.exc c ρ':=by unfold aD;rw[e1]
    rw[e2];exact⟨c,ρ',σ',az,H',e,rfl,eu,I',r',sm,x⟩
theorem ay{st:Stmt}{f:FS}(h1:MS X cl st f):jJ X cl [st] f:=by
  refine⟨?_⟩;intro pins s σ aK H0 Hf H ρ I r hs;refine aaG (ie (h1 pins s σ aK H0 Hf H ρ I r hs) fun fl s1 q=>?_);cases fl with
  | next=>exact ZP q
  | ret v=>exact q
  | brk=>exact q
  | cont=>exact q
theorem c8{pos:Pos} (h:ME X cl e f) (lj:autoParam (swapsWith e none pos.line X.env=pure false) f_):MS X cl (.Expr e pos) (dR f):=by
  refine⟨?_⟩;intro pins s σ aK H0 Hf H ρ I r hs;unfold dR at hs ⊢;refine wpAny_Expr_any (h.nX I r hs fun p v u s1 aM H1 e1 I1 rv x1 rp=>?_) I.quiet lj;rw[e1];exact⟨ρ,σ,aM,H1,rfl,I1,r.keep x1,x1.cj⟩
theorem aC{pos:Pos} (h:ME X cl e f):MS X cl (.Return (some e) pos) (aP f):=by
  refine⟨?_⟩;intro pins s σ aK H0 Hf H ρ I r hs;unfold aP at hs ⊢;refine wpAny_Return_some (h.nX I r hs fun p v u s1 aM H1 e1 I1 rv x1 rp=>?_);rw[e1];exact⟨p,v,σ,aM,H1,rfl,I1,r.ext.trans x1,rv,rp⟩
theorem aO{i:Nat}{x:Str}{pos pos':Pos}(hN:X.N.Nodup)(hi:X.N[i]?=some x)(hx:Loc X.env.scope x)(he:ME X cl e f)(lj:autoParam (swapsWith e (some (.Name x pos')) pos.line X.env=pure false) f_)
    (hf:autoParam (X.fn x=true\/X.env.scope.names.lookup x=some .local) q_):MS X cl (.Assign [.Name x pos'] e pos) (aX i f):=by
  refine⟨?_⟩;intro pins s σ aK H0 Hf H ρ I r hs;unfold aX at hs ⊢;refine abM (he.nX I r hs fun p v u s1 aM H1 e1 I1 rv x1 rp=>?_) lj;rw[e1];have hl:i<σ.length:=by rw[I.len];exact(YC.mp hi).1
  exact jd I1 hN hi hx rv (fun s2 I2=>⟨_,_,aM,H1,rfl,I2,(r.keep x1).set i rp hl,x1.cj⟩) hf
theorem ba{pos:Pos} (hc:MT X cl c t) (ha:jJ X cl a f) (hb:jJ X cl b g):MS X cl (.If c a b pos) (bO t f g):=by
  refine⟨?_⟩;intro pins s σ aK H0 Hf H ρ I r hs;have ht:t ρ≠.stuck:=fun z=>hs (by unfold bO;rw[z])
  refine wpAny_If (YA (hc pins s σ aK H0 Hf H ρ I r ht) (fun d s1 q=>?_) fun u s1 q=>?_)
  . obtain⟨aM,H1,e1,I1,x1⟩:=q;cases d with
    | true =>
      have e2:bO t f g ρ=f ρ:=by unfold bO;rw[e1];rfl
      rw[e2]at hs ⊢;exact YA (ha pins s1 σ aK H0 aM H1 ρ I1 (r.keep x1) hs) (fun _ _ q=>q.from x1.cj) fun _ _ q=>q.from x1.cj
    | false =>
      have e2:bO t f g ρ=g ρ:=by unfold bO;rw[e1];rfl
      rw[e2]at hs ⊢;exact YA (hb pins s1 σ aK H0 aM H1 ρ I1 (r.keep x1) hs) (fun _ _ q=>q.from x1.cj) fun _ _ q=>q.from x1.cj
  . obtain⟨c,e1,x⟩:=q;have e2:bO t f g ρ=.exc c ρ:=by unfold bO;rw[e1]
    rw[e2];exact oR r x
def Over(J:It)(Hg:Hp)(vs:List V):Prop:=∀ H i,bc Hg H->(i<vs.length->J.go i H/\∀ x H',J.JW i H x H'->H'=H/\vs[i]?=some x)/\(vs.length<=i->J.stop i H)
def GC(X:Cx)(cl:Nat->Addr)(tg:Expr)(pins:List (Addr×Obj))(σ:SV)(Hf H:Hp)(r:R (List PV))(vV:Value)(s2:Shared):Prop :=
  ∃(ps:List PV)(vs:List V)(az:Hp),r=.ok ps/\TN X pins σ tg (fun J H'=>Ext Hf H az H'/\Over J az vs/\cy X.K cl az vs ps) vV s2
structure MI(X:Cx)(cl:Nat->Addr)(tg iter:Expr)(f:FA):Prop where
  run':∀(pins:List (Addr×Obj))(s:Shared)(σ:SV)(aK H0 Hf H:Hp)(ρ:aJ),Inv X pins σ H s->Rep X.K cl aK H0 Hf H σ ρ->f ρ≠.stuck ->
    wpAny (model X.prog X.w) X.A (eval iter X.env) (fun v s1=>wpAny (model X.prog X.w) X.A (pyIter v) (GC X cl tg pins σ Hf H (f ρ)) (dk X cl pins σ Hf H (f ρ)) s1) (dk X cl pins σ Hf H (f ρ)) s
noncomputable instance {X:Cx}{cl:Nat->Addr}{tg iter:Expr}{f:FA}:CoeFun (MI X cl tg iter f) fun _=>∀(pins:List (Addr×Obj))(s:Shared)(σ:SV)(aK H0 Hf H:Hp)(ρ:aJ),Inv X pins σ H s->Rep X.K cl aK H0 Hf H σ ρ->f ρ≠.stuck ->
    wpAny (model X.prog X.w) X.A (eval iter X.env) (fun v s1=>wpAny (model X.prog X.w) X.A (pyIter v) (GC X cl tg pins σ Hf H (f ρ)) (dk X cl pins σ Hf H (f ρ)) s1) (dk X cl pins σ Hf H (f ρ)) s:=⟨MI.run'⟩
theorem ES{K:PySem.W.Frag}{a:Addr}{xs:List V}{Hg:Hp}(h:jk K Hg a xs):Over (OJ K a) Hg xs:=fun H i sm =>
  ⟨fun hi=>⟨⟨xs,xs[i],bc.dZ sm h,by simp[hi]⟩,fun x H' ⟨e,y⟩=>⟨e,y xs (bc.dZ sm h)⟩⟩,fun hi=>⟨xs,bc.dZ sm h,hi⟩⟩
theorem A5{K:PySem.W.Frag}{a:Addr}{xs:List V}{Hg:Hp}(h:f7 K Hg a xs):Over (OI K a) Hg xs:=fun H i sm =>
  ⟨fun hi=>⟨⟨xs,xs[i],sm.seq h,by simp[hi]⟩,fun x H' ⟨e,y⟩=>⟨e,y xs (sm.seq h)⟩⟩,fun hi=>⟨xs,sm.seq h,hi⟩⟩
theorem ke{tg iter:Expr}(h:ME X cl iter f):MI X cl tg iter (k9 f):=by
  refine⟨?_⟩;intro pins s σ aK H0 Hf H ρ I r hs;unfold k9 at hs ⊢;refine h.run I r (Ext.refl r.sub) hs fun p v u s1 aM H1 e1 I1 rv x1 rp=>?_;rw[e1]at hs ⊢;cases p<;>first
    | exact absurd rfl hs
    | skip
  . rename_i l;cases rp with
    | tup hq rr =>
      cases rv;obtain⟨its,w,pl,hz⟩:=I1.tuple (bc.dZ x1.sub hq);refine wpAny_pyIter_tuple (show s1.heap.IsTuple _ its.toArray from pl) ?_;refine⟨l,_,aM,rfl,s1.heap.objs.size,[s1.heap.objs.size],_,_,H1,rfl,I1.kept (t':=s1.toks) fun b o e=>YK _ e,AK _ _,⟨_,Y3 _ rfl,rfl,rfl⟩,fun b hb=>?_,x1,ES hq,rr⟩;have e:b=s1.heap.objs.size:=by simpa using hb
      subst e;exact I1.tJ (YD _) (I1.bQ.fresh (YD _))
  . rename_i l;cases rp with
    | lst hq rr =>
      cases rv;obtain⟨its,w,pl,hz⟩:=I1.list (x1.sub.seq hq);refine abN pl.isList ?_;refine⟨l,_,aM,rfl,s1.heap.objs.size,[s1.heap.objs.size],_,_,H1,rfl,I1.kept (t':=s1.toks) fun b o e=>YK _ e,BV _ _,⟨_,Y3 _ rfl,rfl,rfl⟩,fun b hb=>?_,x1,A5 hq,rr⟩;have e:b=s1.heap.objs.size:=by simpa using hb
      subst e;exact I1.tJ (YD _) (I1.bQ.fresh (YD _))
theorem rO(W:Own X):PassesOwn (model X.prog X.w) X.A X.env (kA X cl pins aK H0 Hg r):=uK W fun u s ⟨c,ρ,σ,Hf,H,e,e1,eu,I,rr,sm,x⟩ =>
  ⟨pins,σ,H,e,cl c,eu,I,x,fun h' I' x'=>⟨c,ρ,σ,Hf,H,e,e1,eu,I',rr,sm,x'⟩⟩
theorem Kp{i:Nat}{x:Str}{iter:Expr}{body:List Stmt}{pos pos':Pos}(W:Own X)(hc:X.calm=true)(hN:X.N.Nodup)(hi:X.N[i]?=some x)(hx:Loc X.env.scope x)(h:MI X cl (.Name x pos') iter f)(hb:jJ X cl body g)
    (hf:autoParam (X.fn x=true\/X.env.scope.names.lookup x=some .local) q_) (ll:autoParam (∀ y,foldedSetIterable iter X.env y=pure y) z_) :
    MS X cl (.For (.Name x pos') iter body [] pos) (nk i f g):=by
  refine⟨?_⟩;intro pins s σ aK H0 Hf H ρ I r hs;have oQ:f ρ≠.stuck:=fun z=>hs (by unfold nk;rw[z])
  have hE:∀ u s',dk X cl pins σ Hf H (f ρ) u s'->kA X cl pins aK H0 Hf (nk i f g ρ) u s':=fun u s' ⟨c,e1,y⟩=>by
    have e2:nk i f g ρ=.exc c ρ:=by unfold nk;rw[e1]
    rw[e2];exact oR r y
  refine wpAny_For (YA (h pins s σ aK H0 Hf H ρ I r oQ) (fun v s1 h1=>YA h1 (fun vV s2 h2=>?_) hE) hE) ll;obtain⟨ps,vs,cX,e1,it,fp,tn,J,H2,e,I2,T,gS,f2,x2,ov,bA⟩:=h2;subst e;have e2:nk i f g ρ=forL i g ps ρ:=by unfold nk;rw[e1]
  rw[e2]at hs ⊢;have hp:PassesOwn (model X.prog X.w) X.A X.env (kA X cl pins aK H0 Hf (forL i g ps ρ)):=rO W
  have lq:∀{H':Hp},(∀ b∈fp,H' b=none)->∀ b∈fp,iH X pins H' b:=fun hn b hb=>⟨hn b hb,(f2 b hb).2⟩;have CC:∀{σ':SV}{H':Hp}{s':Shared},Inv X pins σ' H' s'->i<σ'.length:=fun I'=>by rw[I'.len];exact(YC.mp hi).1
  refine codeAny_forLoop_any (fun n s'=>∃ k ρ' σ' az H',Inv X pins σ' H' s'/\tn k s'.heap/\(∀ b∈fp,H' b=none)/\Rep X.K cl aK H0 az H' σ' ρ'/\bc cX az/\n=ps.length - k/\k<=ps.length/\forL i g (ps.drop k) ρ'=forL i g ps ρ) ?_ ps.length
    ⟨0,ρ,σ,cX,H2,I2,gS,fun b hb=>(f2 b hb).1,r.keep x2,bc.refl _,rfl,aat _,rfl⟩
  rintro n s3 ⟨k,ρ3,σ3,jI,H3,I3,rP,CD,r3,yN,rfl,hk,e3⟩;have uM:=bA.length
  have uN:bc cX H3:=yN.trans r3.sub;by_cases iF:k<ps.length
  . obtain⟨go,yl⟩:=(ov H3 k uN).1 (by rw[uM];exact iF);refine ZA hp (YA (T.item X rfl rfl rfl hc k pins s3 σ3 H3 (kA X cl pins aK H0 Hf (forL i g ps ρ)) I3 (lq CD) rP go) (fun rr s4 ⟨u,hr,h4⟩=>?_) fun _ _ z=>z);subst hr;refine ZA hp (ie h4 fun _ s5 ⟨x5,H5,I5,r5,y5,wH,Kq⟩=>?_);obtain⟨eH,Kr⟩:=yl x5 H5 y5;subst eH;obtain⟨p5,CF,Ks⟩:=bA.get' Kr;have ET:=Ks.keep yN
    have rQ:ps.drop k=p5::ps.drop (k+1):=by
      rw[aaM iF];rw[YV iF]at CF;rw[Zr CF]
    have Kt:=I5.pinned (lq Kq) (T.obj _ _ wH);refine ZA hp (aaY (jd Kt hN hi hx r5 (fun s6 I6=>?_) hf));have r6:=r3.set i ET (CC I3)
    rw[rQ]at e3;have step:forL i g (p5::ps.drop (k+1)) ρ3=(match g (ρ3.set i (some p5))with | .next ρ'=>forL i g (ps.drop (k+1)) ρ' | .cont ρ'=>forL i g (ps.drop (k+1)) ρ' | .brk ρ'=>.next ρ' | o=>o):=rfl
    rw[step]at e3;have hg:g (ρ3.set i (some p5))≠.stuck:=fun z=>hs (by rw[<- e3,z])
    have Ku:bc Hf jI:=x2.cj.trans yN;refine ZA hp (YA (hb _ s6 _ aK H0 jI H5 _ I6 r6 hg) (fun fl s7 q7=>?_) fun u s7 q7=>?_)
    . have again:∀{ρ7:aJ}{σ7:SV}{eX H7:Hp},Inv X (pins++kY fp s5.heap) σ7 H7 s7->Rep X.K cl aK H0 eX H7 σ7 ρ7->bc cX eX->forL i g (ps.drop (k+1)) ρ7=forL i g ps ρ ->
          ∃ m,m<ps.length - k/\∃ k ρ' σ' az H',Inv X pins σ' H' s7/\tn k s7.heap/\(∀ b∈fp,H' b=none)/\Rep X.K cl aK H0 az H' σ' ρ'/\bc cX az/\m=ps.length - k/\k<=ps.length/\forL i g (ps.drop k) ρ'=forL i g ps ρ:=fun{ρ7 σ7 eX H7} I7 r7 kf e7=>by
        refine⟨ps.length - (k+1),by omega,k+1,ρ7,σ7,eX,H7,I7.gI,T.keep _ _ _ wH fun b hb o e=>(I7.pin (b,o) (YZ _ (YZ _ (gH hb e)))).1,fun b hb=>?_,r7,kf,rfl,iF,e7⟩;obtain⟨o,e,d⟩:=T.obj _ _ wH b hb;exact(I7.pin (b,o) (YZ _ (YZ _ (gH hb e)))).2.1
      cases fl with
      | next =>
        obtain⟨ρ7,σ7,eX,H7,e7,I7,r7,kf⟩:=q7;rw[e7]at e3;exact again I7 r7 (yN.trans kf) e3
      | cont =>
        obtain⟨ρ7,σ7,eX,H7,e7,I7,r7,kf⟩:=q7;rw[e7]at e3;exact again I7 r7 (yN.trans kf) e3
      | brk =>
        obtain⟨ρ7,σ7,eX,H7,e7,I7,r7,kf⟩:=q7;rw[e7]at e3;rw[<- e3];exact⟨ρ7,σ7,eX,H7,rfl,I7.gI,r7,Ku.trans kf⟩
      | ret u =>
        obtain⟨p7,v7,σ7,eX,H7,e7,I7,Kv,CG,CH⟩:=q7;rw[e7]at e3;rw[<- e3];exact⟨p7,v7,σ7,eX,H7,rfl,I7.gI,Kv,CG,CH⟩
    . obtain⟨c7,ρ7,σ7,eX,H7,CI,e7,CJ,I7,r7,kf,x7⟩:=q7;rw[e7]at e3;rw[<- e3];exact⟨c7,ρ7,σ7,eX,H7,CI,rfl,CJ,I7.gI,r7,Ku.trans kf,x7.vL⟩
  . have CK:k=ps.length:=by omega
    subst CK;refine ZA hp (ie (T.done X rfl rfl rfl hc ps.length pins s3 σ3 H3 _ I3 (lq CD) rP ((ov H3 ps.length uN).2 (by rw[uM];exact YD _))) fun rr s4 ⟨hr,I4⟩=>?_);subst hr;rw[abY]at e3;rw[<- e3];exact ZP ⟨ρ3,σ3,jI,H3,rfl,I4,r3,x2.cj.trans yN⟩
theorem wI{body:List Stmt}{pos:Pos} (W:Own X) (hc:MT X cl c t) (hb:jJ X cl body g):MS X cl (.While c body [] pos) (iS t g):=by
  refine⟨?_⟩;intro pins s σ aK H0 Hf H ρ I r hs;have hp:PassesOwn (model X.prog X.w) X.A X.env (kA X cl pins aK H0 Hf (iS t g ρ)):=rO W
  refine wpAny_While (codeAny_whileLoop (fun n s'=>∃ ρ' σ' az H',Inv X pins σ' H' s'/\Rep X.K cl aK H0 az H' σ' ρ'/\bc Hf az/\eK t g n ρ'=iS t g ρ) ?_ la ⟨ρ,σ,Hf,H,I,r,bc.refl _,rfl⟩);rintro n s1 ⟨ρ1,σ1,aM,H1,I1,r1,OV,e1⟩;cases n with
  | zero=>exact absurd e1.symm hs
  | succ n =>
    have step:eK t g (n+1) ρ1=(match t ρ1 with | .ok true=>(match g ρ1 with | .next ρ'=>eK t g n ρ' | .cont ρ'=>eK t g n ρ' | .brk ρ'=>.next ρ' | o=>o) | .ok false=>.next ρ1 | .exc c=>.exc c ρ1 | .stuck=>.stuck):=rfl;rw[step]at e1;have ht:t ρ1≠.stuck:=fun z=>hs (by rw[<- e1,z])
    refine ZA hp (YA (hc pins s1 σ1 aK H0 aM H1 ρ1 I1 r1 ht) (fun b s2 q=>?_) fun u s2 q=>?_)
    . obtain⟨cX,H2,e2,I2,x2⟩:=q;rw[e2]at e1;have r2:=r1.keep x2
      have CL:=OV.trans x2.cj;cases b with
      | true =>
        rw[Yy rfl];have iU:(match g ρ1 with | .next ρ'=>eK t g n ρ' | .cont ρ'=>eK t g n ρ' | .brk ρ'=>.next ρ' | o=>o)=iS t g ρ:=e1
        have hg:g ρ1≠.stuck:=fun z=>hs (by rw[<- iU,z]);refine ZA hp (YA (hb pins s2 σ1 aK H0 cX H2 ρ1 I2 r2 hg) (fun fl s3 q3=>?_) fun u s3 q3=>?_)
        . cases fl with
          | next =>
            obtain⟨ρ7,σ7,eX,H7,e7,I7,r7,kf⟩:=q3;rw[e7]at iU;exact⟨n,aaF n,ρ7,σ7,eX,H7,I7,r7,CL.trans kf,iU⟩
          | cont =>
            obtain⟨ρ7,σ7,eX,H7,e7,I7,r7,kf⟩:=q3;rw[e7]at iU;exact⟨n,aaF n,ρ7,σ7,eX,H7,I7,r7,CL.trans kf,iU⟩
          | brk =>
            obtain⟨ρ7,σ7,eX,H7,e7,I7,r7,kf⟩:=q3;rw[e7]at iU;rw[<- iU];exact⟨ρ7,σ7,eX,H7,rfl,I7,r7,CL.trans kf⟩
          | ret u =>
            obtain⟨p7,v7,σ7,eX,H7,e7,I7,Kv,CG,CH⟩:=q3;rw[e7]at iU;rw[<- iU];exact⟨p7,v7,σ7,eX,H7,rfl,I7,Kv,CG,CH⟩
        . obtain⟨c7,ρ7,σ7,eX,H7,CI,e7,CJ,I7,r7,kf,x7⟩:=q3;rw[e7]at iU;rw[<- iU];exact⟨c7,ρ7,σ7,eX,H7,CI,rfl,CJ,I7,r7,CL.trans kf,x7⟩
      | false =>
        rw[Yx ZG];have iU:SR.next ρ1=iS t g ρ:=e1
        rw[<- iU];exact ZP ⟨ρ1,σ1,cX,H2,rfl,I2,r2,CL⟩
    . obtain⟨c,e2,y⟩:=q;rw[e2]at e1;have iU:SR.exc c ρ1=iS t g ρ:=e1
      rw[<- iU];exact kA.from OV (oR r1 y)
end
section
variable {K:PySem.W.Frag}{cl:Nat->Addr}{Hf H:Hp}
theorem uO{n:Nat}{N:List Str}(hn:N.length=n)(sm:bc Hf H)(r:cy K cl Hf vs ps):Rep K cl Hf H Hf H (L2.start N vs) (Mi.start n ps):=by
  have hl:=r.length;have get:∀{i:Nat}{p:PV},(Mi.start n ps)[i]?=some (some p)->ps[i]?=some p:=fun{i p} h=>by
    unfold Mi.start at h;by_cases hi:i<ps.length
    . rw[YQ (by simpa using hi),ZL]at h;cases e:ps[i]? with
      | none=>rw[e]at h;cases h
      | some q=>rw[e]at h;cases h;rfl
    . rw[Y6 (by simpa using hi),aaX]at h;split at h<;>cases h
  have A6:∀{i:Nat}{l:List PV},ps[i]?≠some (.own l):=fun{i l} e=>by
    obtain⟨v,_,h⟩:=r.get e;cases h
  refine⟨Ext.refl sm,fun i p h=>?_,fun i j a b _ h _ _ _=>absurd (get h) A6⟩;have e:=get h
  obtain⟨v,h1,h2⟩:=r.get e;refine⟨v,?_,?_⟩
  . unfold L2.start;have hi:i<vs.length:=(YC.mp h1).1
    rw[YQ (by simpa using hi),ZL,h1];rfl
  . cases p with
    | own l=>exact absurd e A6
    | _=>exact h2
end
section
variable {P:Program}{w:World}{K:PySem.W.Frag}{mg:Str->Option Value}{base:Heap}{cl:Nat->Addr}
noncomputable abbrev bG(P:Program)(w:World)(K:PySem.W.Frag)(mg:Str->Option Value)(base:Heap)(cl:Nat->Addr)(N:List Str)(qual:Str)(scope:Scope)(f:Addr)(cd:Value)(A:Around)(outer:List Env)(s:Shared)(H:Hp)(E:XK):Cx :=
  tL (jl cl P w) P w K mg base N qual scope f cd A outer s H E
theorem dA:Own (bG P w K mg base cl N qual scope f cd A outer s H E) :=
  ⟨rfl,rfl,fun b z=>absurd (show b∈([]:List Addr) from z) (by simp),fun _=>rfl⟩
theorem oS{s s':Shared}
    (I:Inv (bG P w K mg base cl N qual scope f cd A outer s H E) pins σ H' s') (x:nV (bG P w K mg base cl N qual scope f cd A outer s H E) pins H' e (cl c) s'.heap) (hE:E (.ref (cl c)) none H') :
    (bG P w K mg base cl N qual scope f cd A outer s H E).xe (.ref e) s':=by
  have W:=dA (P:=P) (w:=w) (K:=K) (mg:=mg) (base:=base) (cl:=cl) (N:=N) (qual:=qual) (scope:=scope) (f:=f) (cd:=cd) (A:=A) (outer:=outer) (s:=s) (H:=H) (E:=E);obtain⟨B,a0,mG,nd,st⟩:=x;show wpAny _ _ (leaving _ _) _ _ s'
  unfold leaving;refine YE (pO W I.ok.frames nd st fun h1 hh u1 Cz=>?_);have I1:=Inv.gq W I mG hh.1 u1 (tk:=s'.toks)
  have c1:=mG.gq W I hh.1;refine wD (s:={ s' with heap:=h1 }) Cz hh fun h2 hf u2 CB=>?_;have I2:=Inv.gq W I1 c1 hf.1 u2 (tk:=s'.toks)
  have c2:=c1.gq W I1 hf.1;refine⟨e,c,H',B,a0,rfl,I2.os,I2.bare,I2.base,I2.bQ,?_,fun b o hb hc hn=>?_,CB,hE⟩
  . have Ug:Heap.FlyingW B ((bG P w K mg base cl N qual scope f cd A outer s H E).env::outer) e (.ref (cl c)) a0 h2:=hf;obtain⟨k1,k2,⟨_,_,k3⟩,k4⟩:=Ug;exact⟨k1,k2,k3,k4⟩
  . refine c2 b o hb ?_ fun z=>?_
    . rcases hc with hc | hc
      . exact .inl hc
      . exact .inr (.inr (.inl hc))
    . rcases(jO W).mp z with z | z
      . rcases hc with hc | ⟨o₀,hc⟩
        . exact hc (by rw[z];exact I2.free)
        . have h1:=YO hc;rw[z]at h1;exact absurd (YY h1 I2.ok.above) (ZI _)
      . exact hn z
theorem uP{x qual:Str}{st:Stmt}{f:Addr}{fd:FuncData}{N ps:List Str}{k n:Nat}{b:FS}(F:yJ K x qual st f fd)(S:fD N ps (aI st))(hn:ps.length=n)
    (eG:∀(aU:Value)(A:Around)(outer:List Env)(s:Shared)(H:Hp)(E:XK),cE k (A.deeper (envOfC qual (aI st) s.heap.objs.size f aU)) ->
      jJ (bG P w K mg base cl N qual (aI st) f aU A outer s H E) cl (bF st) b):fO P w K mg base (jl cl P w) (k+1) f fd ps (mF K cl n (aY N.length b)):=by
  obtain⟨oc,od,kV,doc,pm,an,aU,ct,fM,rfl,lk,ey⟩:=F.ex;refine AQ lk ey S (fun vs H Q E h=>by rw[h.1,hn]) fun A outer s H vs Q E hr hG=>?_;obtain⟨hl,Hf,qs,sm,bA,hs,bQ,hex⟩:=hG;have hb:=eG aU A outer s H E hr
  have cZ:b (Mi.start N.length qs)≠.stuck:=fun z=>hs (by unfold aY;rw[z]);refine⟨fun D σ H1=>σ=L2.start N vs/\H1=H/\D={ nx:=fun _ H'=>Q .bf H',rt:=Q },fun pins s1 σ H1 D I h=>?_,rfl,rfl,rfl⟩;obtain⟨rfl,rfl,rfl⟩:=h;refine YA (hb pins s1 _ Hf H1 Hf H1 _ I (uO rfl sm bA) cZ) (fun fl s2 q=>?_) fun u s2 q=>?_
  . cases fl with
    | next =>
      obtain⟨ρ',σ',az,H',e1,I',r',_⟩:=q;exact⟨σ',H',I',bQ .bf .bf az H' (by unfold aY;rw[e1]) r'.ext .bf⟩
    | ret u =>
      obtain⟨p,v,σ',az,H',e1,I',ex,rv,rp⟩:=q;exact⟨v,σ',H',I',rv,bQ p v az H' (by unfold aY;rw[e1]) ex rp⟩
    | brk =>
      obtain⟨ρ',σ',az,H',e1,I',r',_⟩:=q;exact absurd (by unfold aY;rw[e1]) hs
    | cont =>
      obtain⟨ρ',σ',az,H',e1,I',r',_⟩:=q;exact absurd (by unfold aY;rw[e1]) hs
  . obtain⟨c,ρ',σ',az,H',e,e1,rfl,I',r',_,x⟩:=q;exact oS I' x (hex c az H' (by unfold aY;rw[e1]) r'.ext)
end
noncomputable def qq:Ty->String
  | .int=>"int" | .bool=>"bool" | .str=>"str" | .tuple=>"tuple" | .list=>"list" | .dict=>"dict"
noncomputable def nY:Ty->Str
  | .int=>"int" | .bool=>"bool" | .str=>"str" | .tuple=>"tuple" | .list=>"list" | .dict=>"dict"
theorem EU(t:Ty):bootBuiltins (nY t)=some (.type (qq t)):=by
  cases t
  . exact boot_int
  . exact boot_bool
  . exact boot_str
  . exact boot_tuple
  . exact boot_list
  . exact boot_dict
section
variable {K:PySem.W.Frag}
theorem EV(t:Ty):PySem.W.kitOne K (.type "NoneType") (.type (qq t))=some false:=by cases t<;>rfl
theorem EW(t:Ty):PySem.W.kitOne K (.type "bool") (.type (qq t))=some (match t with | .int=>true | .bool=>true | _=>false):=by cases t<;>rfl
theorem IE(t:Ty):PySem.W.kitOne K (.type "int") (.type (qq t))=some (match t with | .int=>true | _=>false):=by cases t<;>rfl
theorem IF(t:Ty):PySem.W.kitOne K (.type "str") (.type (qq t))=some (match t with | .str=>true | _=>false):=by cases t<;>rfl
theorem kit_tuple(t:Ty):PySem.W.kitOne K (.type "tuple") (.type (qq t))=some (match t with | .tuple=>true | _=>false):=by cases t<;>rfl
theorem EX(t:Ty):PySem.W.kitOne K (.type "list") (.type (qq t))=some (match t with | .list=>true | _=>false):=by cases t<;>rfl
theorem EY(t:Ty):PySem.W.kitOne K (.type "dict") (.type (qq t))=some (match t with | .dict=>true | _=>false):=by cases t<;>rfl
end
section
variable {X:Cx}{cl:Nat->Addr}{pins:List (Addr×Obj)}{s:Shared}{σ:SV}{aK H0 Hf H aM H1:Hp}{ρ:aJ}{α:Type}
theorem A7{b:Bool}{E:Value->Shared->Prop} (I:Inv X pins σ H s) (sm:bc Hf H) (rv:RelV v u) (rp:Rp X.K cl Hf v p) (h:fj p t=some b) :
    wpAny (model X.prog X.w) X.A (call (.builtin "isinstance") [u,.type (qq t)]) (gb X cl pins σ Hf H (.ok (.bl b))) E s:=by
  have fin:∀ tk,gb X cl pins σ Hf H (.ok (.bl b)) (.bool b) { s with toks:=tk }:=fun tk=>⟨.bl b,.bl b,Hf,H,rfl,I.tok _,rfl,Ext.refl sm,.bl b⟩;cases rp with
  | bf=>cases rv;exact ZQ PySem.W.kitx_none I.eT True.intro (by rw[EV];cases t<;>exact h) (fun z=>nomatch z) fin
  | bl c=>cases rv;exact ZQ PySem.W.kitx_bool I.eT True.intro (by rw[EW];cases t<;>exact h) (fun z=>nomatch z) fin
  | int c=>obtain⟨tk,rfl⟩:=rv;exact ZQ PySem.W.kitx_int I.eT True.intro (by rw[IE];cases t<;>exact h) (fun z=>nomatch z) fin
  | str c=>obtain⟨tk,rfl⟩:=rv;exact ZQ PySem.W.kitx_str I.eT True.intro (by rw[IF];cases t<;>exact h) (fun z=>nomatch z) fin
  | tup hq r =>
    cases rv;obtain⟨its,w,⟨o,h1,h2,_⟩,_⟩:=I.tuple (bc.dZ sm hq);exact ZQ PySem.W.kitx_tuple I.eT ⟨o,h1,h2⟩ (by rw[kit_tuple];cases t<;>exact h) (fun z=>nomatch z) fin
  | lst hq r =>
    cases rv;obtain⟨its,w,⟨o,n,h1,h2,_⟩,_⟩:=I.list (sm.seq hq);exact ZQ PySem.W.kitx_list I.eT ⟨o,h1,h2⟩ (by rw[EX];cases t<;>exact h) (fun z=>nomatch z) fin
  | exc hq=>cases t<;>cases h
  | ins hq=>cases t<;>cases h
  | iI hq =>
    cases rv;obtain⟨_,_,vs,_,o,es,ep,h1,h2,_⟩:=I.bQ _ _ (sm _ _ hq);exact ZQ PySem.W.kitx_dict I.eT ⟨o,h1,h2.1⟩ (by rw[EY];cases t<;>exact h) (fun z=>nomatch z) fin
theorem jm(t:Ty){p p2 pos:Pos}(he:ME X cl e f) (hg:Gl X "isinstance") (hm:X.mg "isinstance"=none) (Kw:Gl X (nY t)) (Uh:X.mg (nY t)=none)
    (fB:autoParam (starEach [e,.Name (nY t) p2] X.env=[(false,eval e X.env),(false,eval (.Name (nY t) p2) X.env)]) f_) (wJ:autoParam (starEach [.Name (nY t) p2] X.env=[(false,eval (.Name (nY t) p2) X.env)]) f_) :
    ME X cl (.Call (.Name "isinstance" p) [e,.Name (nY t) p2] [] pos) (iA t f):=by
  refine⟨?_⟩;intro pins s σ aK H0 Hf H ρ I r hs;unfold iA at hs ⊢;refine Zq (kW I hg hm boot_isinstance ?_);refine aas ?_ (by rw[fB,wJ]) (by rw[wJ];rfl);rw[fB];show wpAny _ _ (spliced ((false,eval e X.env)::backTo pos [(false,eval (.Name (nY t) p2) X.env)])) _ _ s
  refine ZZ (he.run I r (Ext.refl r.sub) hs fun q v u s1 aM H1 e1 I1 rv x1 rp=>?_);rw[e1]at hs ⊢;cases hb:fj q t with
  | none=>rw[hb]at hs;exact absurd rfl hs
  | some b =>
    have hn:nY t≠"__name__":=by cases t<;>decide
    have hd:(nY t ==("__debug__" : Str))=false:=by cases t<;>decide
    show wpAny _ _ (spliced ((false,eval (.Name (nY t) p2) X.env)::[])) _ _ s1;refine ZZ (kW I1 Kw Uh (EU t) (aaw ?_) hn hd);show wpAny _ _ (call (.builtin "isinstance") [u,.type (qq t)]) (gb X cl pins σ Hf H (.ok (.bl b))) _ s1
    exact ie (A7 I1 x1.sub rv rp hb) fun _ _ q=>q.from (e0:=x1)
theorem kg{apos pos:Pos} (he:ME X cl e f)
    (ht:autoParam (eval (.Call (.Attribute e "bit_length" apos) [] [] pos) X.env=(do
      let ov <- eval e X.env
      standAt apos.atName
      let (f,first) <- holding [ov] (getMethod ov "bit_length" pl)
      callWith pos f first (backTo pos (starEach [] X.env)) (backToKw pos (keywordEach [] X.env)))) f_):ME X cl (.Call (.Attribute e "bit_length" apos) [] [] pos) (eU gJ f):=by
  refine⟨?_⟩;intro pins s σ aK H0 Hf H ρ I r hs;unfold eU at hs ⊢;refine Z1 (pl:=pl) (he.run I r (Ext.refl r.sub) hs fun q v u s1 aM H1 e1 I1 rv x1 rp=>?_) ht;rw[e1]at hs ⊢;cases q<;>first
    | exact absurd rfl hs
    | skip
  rename_i i;cases rp;obtain⟨t,rfl⟩:=rv;refine getMethod_int_bit_length ?_;exact aaZ rfl (adi (call_int_bit_length ⟨_,.int (nb i),aM,H1,rfl,I1.tok _,⟨_,rfl⟩,x1,.int _⟩))
theorem CM(ha:df a)(hb:df b)(hc:df c)(h0:c≠0):Builtin.Range.small a b c=true:=by
  obtain⟨a1,a2⟩:=ha;obtain⟨b1,b2⟩:=hb;obtain⟨c1,c2⟩:=hc;have key : -(2 ^ 63)<=Builtin.Range.rangeSize a b c/\Builtin.Range.rangeSize a b c<2 ^ 63:=by
    unfold Builtin.Range.rangeSize;by_cases hp:c>0
    . rw[Yy hp];by_cases hl:a<b
      . rw[Yy hl];have h1:0<=(b - a - 1)/c:=Zj (by omega) (by omega)
        have h2:(b - a - 1)/c<=b - a - 1:=aam _ (by omega);omega
      . rw[Yx hl];omega
    . rw[Yx hp];by_cases hl:a>b
      . rw[Yy hl];have h1:0<=(a - b - 1)/(-c):=Zj (by omega) (by omega)
        have h2:(a - b - 1)/(-c)<=a - b - 1:=aam _ (by omega);omega
      . rw[Yx hl];omega
  have fit:∀ i:Int,-(2 ^ 63)<=i->i<2 ^ 63->Builtin.Range.rangeFitsLong i=true:=fun i h1 h2=>by
    unfold Builtin.Range.rangeFitsLong;rw[YL h1,YL h2];rfl
  unfold Builtin.Range.small;rw[fit a (by omega) (by omega),fit b (by omega) (by omega),fit c (by omega) (by omega),fit _ key.1 key.2];have last:(if c>0 then Builtin.Range.rangeFitsLong (b+(c - 1)) else Builtin.Range.rangeFitsLong (b+(c+1)))=true:=by
    by_cases hp:c>0
    . rw[Yy hp];exact fit _ (by omega) (by omega)
    . rw[Yx hp];exact fit _ (by omega) (by omega)
  rw[last,adC];rfl
noncomputable def Kx(lo:Int)(st:Int)(n:Nat):It:=⟨fun i _=>i<n,fun i H x H'=>H'=H/\x=.int (lo+i*st),fun i _=>n<=i⟩
theorem yv{P:Program}{w:World}{K:PySem.W.Frag}{tg:Expr}(it:Addr)(lo st:Int)(n:Nat):Turn P w K tg (Kx lo st n) [it] it (fun i h=>IsRangeIter h it (lo+(i:Nat)*st) ((n:Int) - (i:Nat)) st) where
  mem:=by simp
  obj:=fun i h st b hb=>by
    have e:b=it:=by simpa using hb
    subst e;exact⟨_,st,fun v z=>by
      have z':Data.fields _=Data.cell v:=z;cases z'⟩
  keep:=fun i h h' st k=>k it (by simp) _ st
  item:=by
    intro X hP hw hK hc i pins s σ H E I hf qr hg;subst hP hw hK;obtain⟨f0,f1,f2,f3,f4,f5⟩:=hf it (by simp);have W:=Walks.range (prog:=X.prog) (w:=X.w) (I.ok.hd hc) it lo st n
    refine W.item i s _ _ hg qr fun v h' tk hv iD kk=>?_;obtain⟨t,rfl⟩:=hv;have I1:Inv X pins σ H { s with heap:=h',toks:=tk }:=I.turned (fun b o hb e=>kk b o (by simpa using hb) e) f0 f1 f3 f4 f5
    exact⟨_,rfl,vI (s:={ s with heap:=h',toks:=tk }) (n:="range_iterator") iD rfl rfl (by decide) ⟨.int (lo+i*st),H,I1,⟨t,rfl⟩,⟨rfl,rfl⟩,iD,fun b hb=>(hf b hb).1⟩⟩
  done:=by
    intro X hP hw hK hc i pins s σ H E I hf qr hg;subst hP hw hK;obtain⟨f0,f1,f2,f3,f4,f5⟩:=hf it (by simp);exact wpAny_pyNext_range_end (I.ok.hd hc) qr (by have:n<=i:=hg;omega) fun h' eb=>⟨rfl,I.turned (t':=s.toks) (fun b o hb e=>eb b o hb e) f0 f1 f3 f4 f5⟩
  self:=fun _ _ _ _ _ st h=>wpAny_pyIter_rangeiter st h
noncomputable def wK(lo hi st:Int):List V:=(List.range (j9 lo hi st)).map fun(k:Nat)=>.int (lo+(k:Int)*st)
theorem qT(lo hi st:Int):(wK lo hi st).length=j9 lo hi st:=by unfold wK;rw[Zi,List.length_range]
theorem A8{lo hi st:Int}{Hg:Hp}:Over (Kx lo st (j9 lo hi st)) Hg (wK lo hi st):=fun H i sm =>
  ⟨fun h=>⟨by rw[qT]at h;exact h,fun x H' ⟨e1,e2⟩=>⟨e1,by
    rw[qT]at h;subst e2;unfold wK;rw[ZL,List.getElem?_range h];rfl⟩⟩,fun h=>by rw[qT]at h;exact h⟩
theorem yO{K:PySem.W.Frag}(g:Nat->V)(h:Nat->PV)(e:∀ i,Rp K cl Hf (g i) (h i)):∀ l:List Nat,cy K cl Hf (l.map g) (l.map h)
  | []=>.nil
  | a::r=>.cons (e a) (yO g h e r)
theorem CN{tg:Expr}{E:Value->Shared->Prop}{lo hi st:Int}{t u v:Tok}{tk:Nat}(I:Inv X pins σ H s)(sm:bc Hf H)(h1:df lo)(h2:df hi)(h3:df st)(h0:st≠0) :
    wpAny (model X.prog X.w) X.A (pyIter (.ref s.heap.objs.size)) (GC X cl tg pins σ Hf H (.ok (fG lo hi st))) E { s with heap:=s.heap.push { cls:=.type "range",data:=.fields #[.int lo t,.int hi u,.int st v] },toks:=tk }:=by
  refine wpAny_pyIter_range (IsRange.new ..) (CM h1 h2 h3 h0) ?_;have I1:Inv X pins σ H { s with heap:=s.heap.push { cls:=.type "range",data:=.fields #[.int lo t,.int hi u,.int st v] },toks:=tk }:=I.kept fun b o e=>YK _ e
  refine⟨_,wK lo hi st,Hf,rfl,(s.heap.push { cls:=.type "range",data:=.fields #[.int lo t,.int hi u,.int st v] }).objs.size,[(s.heap.push { cls:=.type "range",data:=.fields #[.int lo t,.int hi u,.int st v] }).objs.size],_,_,H,rfl,
    I1.kept (t':=tk) fun b o e=>YK _ e,yv _ lo st (j9 lo hi st),?_,fun b hb=>?_,Ext.refl sm,A8,yO _ _ (fun i=>.int _) _⟩
  . have e1:lo+((0:Nat):Int)*st=lo:=by simp
    have nn:0<=Builtin.Range.rangeSize lo hi st:=by
      unfold Builtin.Range.rangeSize;by_cases hp:st>0
      . rw[Yy hp];by_cases hl:lo<hi
        . rw[Yy hl];have:0<=(hi - lo - 1)/st:=Zj (by omega) (by omega)
          omega
        . rw[Yx hl];omega
      . rw[Yx hp];by_cases hl:lo>hi
        . rw[Yy hl];have:0<=(lo - hi - 1)/(-st):=Zj (by omega) (by omega)
          omega
        . rw[Yx hl];omega
    have e2:((j9 lo hi st:Nat):Int) - ((0:Nat):Int)=Builtin.Range.rangeSize lo hi st:=by
      show(((Builtin.Range.rangeSize lo hi st).toNat:Nat):Int) - _=_;omega
    show IsRangeIter _ _ (lo+((0:Nat):Int)*st) (((j9 lo hi st:Nat):Int) - ((0:Nat):Int)) st;rw[e1,e2];exact Y3 _ rfl
  . have e:b=(s.heap.push { cls:=.type "range",data:=.fields #[.int lo t,.int hi u,.int st v] }).objs.size:=by simpa using hb
    subst e;exact I1.tJ (YD _) (I1.bQ.fresh (YD _))
theorem CO{st:Int}(h:df st)(h0:st≠0):st.natAbs.log2<9000:=by
  obtain⟨h1,h2⟩:=h;have:st.natAbs<2 ^ 61:=by omega
  have:=(acp (by omega:st.natAbs≠0)).mpr this;omega
theorem EZ{tg:Expr}{e:Expr}{es:List Expr}{g:FA}{p pos:Pos} (hg:Gl X "range") (hm:X.mg "range"=none) (ha:MA X cl (e::es) g)
    (he:autoParam (starEach (e::es) X.env=(false,eval e X.env)::starEach es X.env) f_) (eC:autoParam ((backTo pos (starEach es X.env)).any (·.1)=false) f_):MI X cl tg (.Call (.Name "range" p) (e::es) [] pos) (rH g):=by
  refine⟨?_⟩;intro pins s σ aK H0 Hf H ρ I r hs;unfold rH at hs ⊢;refine Call_ (kW I hg hm boot_range (aaC (ha.run pos I r (Ext.refl r.sub) hs fun qs vs us s1 aM H1 _ e1 I1 rv x1 bA=>?_) he eC));rw[e1]at hs ⊢;have fin:∀{lo hi st:Int}{t u v:Tok}{tk:Nat}{rr:R (List PV)}{E:Value->Shared->Prop},df lo->df hi->df st->st≠0->rr=.ok (fG lo hi st) ->
      wpAny (model X.prog X.w) X.A (pyIter (.ref s1.heap.objs.size)) (GC X cl tg pins σ Hf H rr) E { s1 with heap:=s1.heap.push { cls:=.type "range",data:=.fields #[.int lo t,.int hi u,.int st v] },toks:=tk }:=fun h1 h2 h3 h0 er=>by
    rw[er];refine ie (CN (cl:=cl) (tg:=tg) I1 x1.sub h1 h2 h3 h0) fun vV s2 q=>?_;obtain⟨ps,ws,az,a1,it,fp,tn,J,H',b1,b2,b3,b4,b5,b6,b7,b8⟩:=q;exact⟨ps,ws,az,a1,it,fp,tn,J,H',b1,b2,b3,b4,b5,x1.trans b6,b7,b8⟩
  have one:df 1:=by decide
  have zero:df 0:=by decide
  have Ky:∀{c:Prop}[Decidable c]{a:List PV},(if c then R.ok a else R.stuck)≠.stuck->c/\(if c then R.ok a else R.stuck)=.ok a:=fun{c _ a} h=>by
    by_cases hc:c
    . exact⟨hc,Yy hc⟩
    . rw[Yx hc]at h;exact absurd rfl h
  split at hs
  . obtain⟨hc,er⟩:=Ky hs;obtain⟨v,rfl,rp⟩:=gL bA;cases rp;obtain⟨u,rfl,t,rfl⟩:=vals1 rv;exact call_range_1 (fin zero hc one (by decide) er)
  . obtain⟨hc,er⟩:=Ky hs;obtain⟨v,w,rfl,rp,rq⟩:=vJ bA;cases rp;cases rq;obtain⟨u,w',rfl,⟨t,rfl⟩,⟨t',rfl⟩⟩:=vals2 rv;exact call_range_2 (fin hc.1 hc.2 one (by decide) er)
  . obtain⟨hc,er⟩:=Ky hs;cases bA with
    | cons r1 q1 =>
      cases q1 with
      | cons r2 q2 =>
        cases q2 with
        | cons r3 q3 =>
          cases q3;cases r1;cases r2;cases r3;cases rv with
          | cons w1 m1 =>
            cases m1 with
            | cons w2 m2 =>
              cases m2 with
              | cons w3 m3 =>
                cases m3;obtain⟨t1,rfl⟩:=w1;obtain⟨t2,rfl⟩:=w2;obtain⟨t3,rfl⟩:=w3;exact call_range_3 hc.2.2.2 (fin hc.1 hc.2.1 hc.2.2.1 hc.2.2.2 er) (.inl (abX (CO hc.2.2.1 hc.2.2.2)))
  . exact absurd rfl hs
structure OW(X:Cx)(ts:List Expr)(is:List Nat):Prop where
  run':∀(pins:List (Addr×Obj))(s:Shared)(σ:SV)(H:Hp)(vs:List V)(us:List Value)(E:Value->Shared->Prop),Inv X pins σ H s->Vals vs us->vs.length=is.length ->
    wpAny (model X.prog X.w) X.A (assignInOrder ((assignEach ts X.env).map (·.2)) us) (fun _ s'=>Inv X pins ((is.zip vs).foldl (fun σ q=>σ.set q.1 (some q.2)) σ) H s') E s
noncomputable instance {X:Cx}{ts:List Expr}{is:List Nat}:CoeFun (OW X ts is) fun _=>∀(pins:List (Addr×Obj))(s:Shared)(σ:SV)(H:Hp)(vs:List V)(us:List Value)(E:Value->Shared->Prop),Inv X pins σ H s->Vals vs us->vs.length=is.length ->
    wpAny (model X.prog X.w) X.A (assignInOrder ((assignEach ts X.env).map (·.2)) us) (fun _ s'=>Inv X pins ((is.zip vs).foldl (fun σ q=>σ.set q.1 (some q.2)) σ) H s') E s:=⟨OW.run'⟩
end
section
variable {X:Cx}{cl:Nat->Addr}
theorem mv(i:Nat){x:Str}{pos:Pos}(hN:autoParam (X.N[i]?=some x) f_)(hv:autoParam (ou X.env.scope x) k_) (hd:autoParam ((x ==("__debug__" : Str))=false) w_)
    (ey:autoParam ((x ==("__classdict__" : Str))=false) w_):ME X cl (.Name x pos) (ae i):=Ka hN hv hd ey
end
theorem bh{A:Around}(hr:cE k A):A.units+64<cLine:=by have:=hr.un;omega
section
variable {P:Program}{w:World}{K:PySem.W.Frag}{mg:Str->Option Value}{base:Heap}{cl:Nat->Addr}
structure FG(P:Program)(w:World)(K:PySem.W.Frag)(mg:Str->Option Value)(base:Heap)(cl:Nat->Addr)(k:Nat)(x:Str)(n:Nat)(F:List PV->R PV):Prop where
  ex:∃(f:Addr)(fd:FuncData)(ps:List Str),mg x=some (.ref f)/\PySem.W.keepIn K (.ref f)=true/\ps.length=n/\fO P w K mg base (jl cl P w) k f fd ps (mF K cl n F)/\Binds K fd ps []
theorem FG.fn{F:List PV->R PV} (h:FG P w K mg base cl k x n F) :
    Fn (bG P w K mg base cl N qual scope f cd A outer s H E) cl k x n F:=⟨h.ex⟩
theorem mc{A:Around}{s:Shared}{F:List PV->R PV}{e:Expr}{es:List Expr}{p pos:Pos}
    (h:FG P w K mg base cl k x n F) (hr:cE k' (A.deeper (envOfC qual scope s.heap.objs.size f cd))) (inj:∀ c d,cl c=cl d->c=d) (ha:MA (bG P w K mg base cl N qual scope f cd A outer s H E) cl (e::es) g) (hk:autoParam (k<=k') w_)
    (hl:autoParam ((e::es).length=n) f_) (hg:autoParam (Gl (bG P w K mg base cl N qual scope f cd A outer s H E) x) f_) (eW:autoParam ((x ==("__debug__" : Str))=false) w_)
    (he:autoParam (starEach (e::es) (bG P w K mg base cl N qual scope f cd A outer s H E).env=(false,eval e (bG P w K mg base cl N qual scope f cd A outer s H E).env)::starEach es (bG P w K mg base cl N qual scope f cd A outer s H E).env) f_)
    (eC:autoParam ((backTo pos (starEach es (bG P w K mg base cl N qual scope f cd A outer s H E).env)).any (·.1)=false) f_) :
    ME (bG P w K mg base cl N qual scope f cd A outer s H E) cl (.Call (.Name x p) (e::es) [] pos) (au F g) :=
  IC h.fn (hr.mono hk) hg rfl inj (fun b z=>absurd (show b∈([]:List Addr) from z) (by simp)) ha hl eW he eC
structure bq(K:PySem.W.Frag)(mg:Str->Option Value)(x:Str)(st:Stmt)(f:Addr)(fd:FuncData):Prop where
  fn:yJ K x x st f fd
  mg:mg x=some (.ref f)
theorem def_mk{h:Heap}{x:Str}{st:Stmt}{f:Addr}{oc:Value}{od an:Option Addr}{fM:Array (Option Value)}{kV doc pm aU ct:Value}(X:K.In h)(G:h.Ns mainGlobals mg)(a:PySem.W.nsIn K mainGlobals x=some (some (.ref f)))
    (l:K.lookup f=some ⟨oc,od,.func (PySem.W.fnOf x x (cT st) (bF st) (aI st) .none kV doc pm an aU ct),fM⟩) (c:PySem.W.codeIn K aU x=true) (k:PySem.W.keepIn K (.ref f)=true) :
    ∃ f fd,bq K mg x st f fd:=⟨f,_,Cg l c k,Z6 X G a⟩
theorem bq.fg{x:Str}{st:Stmt}{f:Addr}{fd:FuncData}{N ps:List Str}{k n:Nat}{b:FS}(D:bq K mg x st f fd)(S:fD N ps (aI st))(hn:ps.length=n)
    (hb:∀(kV doc pm:Value)(an:Option Addr)(aU ct:Value)(us:List Value),us.length=ps.length->bindArgs (PySem.W.fnOf x x (cT st) (bF st) (aI st) .none kV doc pm an aU ct) ⟨us,[]⟩=pure (ps.zip us))
    (eG:∀(aU:Value)(A:Around)(outer:List Env)(s:Shared)(H:Hp)(E:XK),cE k (A.deeper (envOfC x (aI st) s.heap.objs.size f aU)) ->
      jJ (bG P w K mg base cl N x (aI st) f aU A outer s H E) cl (bF st) b):FG P w K mg base cl (k+1) x n (aY N.length b) :=
  ⟨⟨f,fd,ps,D.mg,D.fn.kp,hn,uP D.fn S hn eG,D.fn.binds hb⟩⟩
noncomputable def cW(K:PySem.W.Frag)(x:Str):Addr:=match PySem.W.nsIn K mainGlobals x with
  | some (some (.ref a))=>a
  | _=>0
noncomputable def sumOf(K:PySem.W.Frag):List (Nat×Str)->Nat
  | []=>0
  | x::r=>cW K x.2+sumOf K r
noncomputable def iM(K:PySem.W.Frag)(names:List (Nat×Str))(c:Nat):Addr:=match names.lookup c with
  | some x=>cW K x
  | none=>sumOf K names+1+c
theorem lookup_mem:∀{names:List (Nat×Str)}{c:Nat}{x:Str},names.lookup c=some x->(c,x)∈names
  | [],_,_,h=>by cases h
  | (d,y)::r,c,x,h=>by
    rw[Zy]at h;by_cases e:c=d
    . subst e;simp at h;subst h;exact YW
    . have:(c == d)=false:=by simpa using e
      rw[this]at h;exact YM _ (lookup_mem h)
theorem mem_lookup:∀{names:List (Nat×Str)}{c:Nat}{x:Str},(names.map (·.1)).Nodup->(c,x)∈names->names.lookup c=some x
  | (d,y)::r,c,x,hn,h=>by
    rw[Zn,Z2]at hn;rw[Zy];rcases Zm.mp h with e | h2
    . cases e;simp
    . have:(c == d)=false:=by
        by_cases e:c=d
        . subst e;exact absurd (ZJ.mpr ⟨(c,x),h2,rfl⟩) hn.1
        . simpa using e
      rw[this];exact mem_lookup hn.2 h2
theorem qV{K:PySem.W.Frag}:∀{names:List (Nat×Str)}{c:Nat}{x:Str},(c,x)∈names->cW K x<=sumOf K names
  | y::r,c,x,h=>by
    rcases Zm.mp h with e | h
    . subst e;exact abZ _ _
    . exact YU (qV h) (Nat.le_add_left _ _)
theorem yP{α β:Type}{f:α->β}:∀{l:List α},(l.map f).Nodup->∀ a∈l,∀ b∈l,f a=f b->a=b
  | y::r,hn,a,ha,b,hb,e=>by
    rw[Zn,Z2]at hn;rcases Zm.mp ha with rfl | OX
    . rcases Zm.mp hb with rfl | yQ
      . rfl
      . exact absurd (ZJ.mpr ⟨b,yQ,e.symm⟩) hn.1
    . rcases Zm.mp hb with rfl | yQ
      . exact absurd (ZJ.mpr ⟨a,OX,e⟩) hn.1
      . exact yP hn.2 a OX b yQ e
theorem E0{K:PySem.W.Frag}{names:List (Nat×Str)}(h:(names.map fun p=>cW K p.2).Nodup):∀ c d,iM K names c=iM K names d->c=d:=by
  intro c d e;unfold iM at e;cases ec:names.lookup c with
  | none =>
    rw[ec]at e;cases ed:names.lookup d with
    | none=>rw[ed]at e;have e':sumOf K names+1+c=sumOf K names+1+d:=e;omega
    | some y=>rw[ed]at e;have e':sumOf K names+1+c=cW K y:=e;have:cW K y<=sumOf K names:=qV (K:=K) (lookup_mem ed);rw[<- e']at this;exact absurd (YU (abZ _ _) this) (acS _)
  | some x =>
    rw[ec]at e;cases ed:names.lookup d with
    | none=>rw[ed]at e;have e':sumOf K names+1+d=cW K x:=e.symm;have:cW K x<=sumOf K names:=qV (K:=K) (lookup_mem ec);rw[<- e']at this;exact absurd (YU (abZ _ _) this) (acS _)
    | some y =>
      rw[ed]at e;have:=yP h (c,x) (lookup_mem ec) (d,y) (lookup_mem ed) e
      cases this;rfl
theorem uQ:∀{ns:List Int}{x:Int},x∈ns->nb x<=PySem.W.WData.weightAll (ns.map PySem.W.WData.int)
  | y::r,x,h=>by
    have e:PySem.W.WData.weightAll ((y::r).map PySem.W.WData.int)=nb y+1+PySem.W.WData.weightAll (r.map PySem.W.WData.int):=by
      rw[Zn];simp only[PySem.W.WData.weightAll,PySem.W.WData.weight,Builtin.Int.intBits]
    rw[e];rcases Zm.mp h with rfl | h
    . omega
    . have:=uQ h;omega
theorem yw{ns:List Int}(h:PySem.W.WData.layableAll [PySem.W.WData.list (ns.map PySem.W.WData.int)]=true):∀ x∈ns,nb x<=1048576:=by
  intro x hx;have h1:PySem.W.WData.layable (PySem.W.WData.list (ns.map PySem.W.WData.int))=true:=by
    simpa [PySem.W.WData.layableAll]using h
  have h2:PySem.W.WData.weight (PySem.W.WData.list (ns.map PySem.W.WData.int))<=2 ^ 20:=abO (Z4.mp h1).2;have e:PySem.W.WData.weight (PySem.W.WData.list (ns.map PySem.W.WData.int))=PySem.W.WData.weightAll (ns.map PySem.W.WData.int):=by simp only[PySem.W.WData.weight]
  rw[e]at h2;have:=uQ hx
  omega
end
noncomputable abbrev OY:List Value:=[.type "ValueError",.type "Exception",.type "BaseException",.type "object"]
noncomputable def attrOk(K:PySem.W.Frag)(D:Addr):Bool:=(PySem.W.findIn K (.ref D) "__getattribute__" == some (some (.builtin "BaseException.__getattribute__")))&&(PySem.W.findIn K (.ref D) "__getattr__" == some none)&&(PySem.W.subIn K (.ref D) (.type "BaseException") == some true)&&(PySem.W.clsIn K D).isSome&&(PySem.W.findIn K (.ref D) "__class__" == some (some (.builtin "object.__class__"))) &&
  (PySem.W.specialIn K (.builtin "object.__class__") "__get__" == some (some (.builtin "getset_descriptor.__get__")))&&(PySem.W.takesIn K (.builtin "object.__class__") == some true)&&(PySem.W.mroIn K D (.type "object") == some true)
structure OZ(K:PySem.W.Frag)(mg:Str->Option Value)(cl:Nat->Addr)(c:Nat)(x:Str):Prop where
  mg:mg x=some (.ref (cl c))
  ex:PySem.W.excIn K (cl c) OY "ValueError.__new__"=true
  at_:attrOk K (cl c)=true
theorem CP{K:PySem.W.Frag}{h:Heap}(X:K.In h)(q:PySem.W.excIn K C Ui newId=true) :
    ∃ bm N nm q bs hdct sn sub ab col dd k0 k1 k2 k3 k5 mN,h.get? C=some (excClassObj nm q C N bs bm hdct sn sub ab col dd k0 k1 k2 k3 k5 newId)/\h.Ns N mN/\mN "__init__"=none/\OwnTail h Ui bm:=by
  unfold PySem.W.excIn at q;split at q
  . rename_i dd cd sl ho;split at q
    . rename_i C' bm k0 k1 k2 k3 n k5 hm hs;simp only[YH,Y8,abP]at q;obtain⟨⟨⟨⟨⟨rfl,rfl⟩,Kz⟩,ht⟩,bQ⟩,GD⟩:=q;obtain⟨nm,bs,mro,ns,qn,hd,sn,sub,ab,col,del⟩:=cd;dsimp only at hm Kz bQ GD;subst hm Kz;have es:sl=#[k0,k1,k2,k3,some (.builtin n),k5]:=by
        cases sl with | mk l=>simp only at hs;rw[hs]
      subst es;exact⟨bm,ns,nm,qn,bs,hd,sn,sub,ab,col,dd,k0,k1,k2,k3,k5,_,X _ _ ho,.of_isNs (PySem.W.isNs_of_in X bQ),ab0 X bQ GD,PySem.W.tail_of_in X ht⟩
    . cases q
  . cases q
theorem yx(h:fY r=true):∃ i:Int,r=.ok (.int i)/\i.natAbs<18446744073709551616:=by
  cases r with
  | ok p=>cases p<;>first | (cases h;done) | (rename_i i;exact⟨i,rfl,abO h⟩)
  | exc c=>cases h
  | stuck=>cases h
theorem digits_le(a:Int)(h:a.natAbs<18446744073709551616):(Str.ofString (toString a)).length<=21:=by
  have h1:a.natAbs<10 ^ 20:=Nat.lt_trans h (by decide);have:=int_text_length_le10 (k:=20) (by decide) h1
  rw[PySem.ofString_length];omega
section
variable {X:Cx}{cl:Nat->Addr}{pins:List (Addr×Obj)}{s:Shared}{σ:SV}{aK H0 Hf H aM H1:Hp}{ρ:aJ}{α:Type}
structure MV(X:Cx)(cl:Nat->Addr)(e:Expr)(n:Nat)(c:aJ->Bool):Prop where
  run':∀(pins:List (Addr×Obj))(s:Shared)(σ:SV)(aK H0 Hf H:Hp)(ρ:aJ)(E:Value->Shared->Prop),Inv X pins σ H s->Rep X.K cl aK H0 Hf H σ ρ->c ρ=true ->
    wpAny (model X.prog X.w) X.A (eval e X.env) (fun u s'=>∃ x t az H',u=.str x t/\x.length<=n/\Inv X pins σ H' s'/\Ext Hf H az H') E s
noncomputable instance {X:Cx}{cl:Nat->Addr}{e:Expr}{n:Nat}{c:aJ->Bool}:CoeFun (MV X cl e n c) fun _=>∀(pins:List (Addr×Obj))(s:Shared)(σ:SV)(aK H0 Hf H:Hp)(ρ:aJ)(E:Value->Shared->Prop),Inv X pins σ H s->Rep X.K cl aK H0 Hf H σ ρ->c ρ=true ->
    wpAny (model X.prog X.w) X.A (eval e X.env) (fun u s'=>∃ x t az H',u=.str x t/\x.length<=n/\Inv X pins σ H' s'/\Ext Hf H az H') E s:=⟨MV.run'⟩
theorem eY{x:Str}{j:Nat}{pos:Pos}(n:Nat)(h:autoParam (x.length<=n) j_):MV X cl (.Constant (.str x) j pos) n (fun _=>true):=⟨fun pins s σ aK H0 Hf H ρ E I r _ =>
  Calls.Constant_str ⟨x,_,Hf,H,rfl,h,I.tok _,Ext.refl r.sub⟩⟩
theorem lr{pos:Pos} (he:ME X cl e f):MV X cl (.FormattedValue e (-1) none pos) 21 (fun ρ=>fY (f ρ)):=by
  refine⟨?_⟩;intro pins s σ aK H0 Hf H ρ E I r hc;obtain⟨i,ei,hi⟩:=yx hc;refine FormattedValue_plain (YA (he pins s σ aK H0 Hf H ρ I r (by rw[ei];intro z;cases z)) (fun u s1 q=>?_) fun u s1 q=>?_)
  . obtain⟨p,v,aM,H1,e1,I1,rv,x1,rp⟩:=q;rw[ei]at e1;cases e1;cases rp;obtain⟨t,rfl⟩:=rv;have hl:i.natAbs.log2<1920:=by
      by_cases h0:i.natAbs=0
      . rw[h0];decide
      . have:=(acp h0).mpr (show i.natAbs<2 ^ 64 from hi);omega
    exact formatField_int_small hl ⟨_,_,aM,H1,rfl,digits_le i hi,I1.tok _,x1⟩
  . obtain⟨c,e1,_⟩:=q;rw[ei]at e1;cases e1
structure yR(X:Cx)(cl:Nat->Addr)(es:List Expr)(n:Nat)(c:aJ->Bool):Prop where
  run':∀(pins:List (Addr×Obj))(s:Shared)(σ:SV)(aK H0 Hf H:Hp)(ρ:aJ)(E:Value->Shared->Prop)(acc:Str)(Q:Str->Shared->Prop),Inv X pins σ H s->Rep X.K cl aK H0 Hf H σ ρ->c ρ=true->acc.length+n<=sizeLine ->
    (∀ out s' az H',out.length<=acc.length+n->Inv X pins σ H' s'->Ext Hf H az H'->Q out s')->Joins (model X.prog X.w) X.A E (evalEach es X.env) acc Q s
noncomputable instance {X:Cx}{cl:Nat->Addr}{es:List Expr}{n:Nat}{c:aJ->Bool}:CoeFun (yR X cl es n c) fun _=>∀(pins:List (Addr×Obj))(s:Shared)(σ:SV)(aK H0 Hf H:Hp)(ρ:aJ)(E:Value->Shared->Prop)(acc:Str)(Q:Str->Shared->Prop),Inv X pins σ H s->Rep X.K cl aK H0 Hf H σ ρ->c ρ=true->acc.length+n<=sizeLine ->
    (∀ out s' az H',out.length<=acc.length+n->Inv X pins σ H' s'->Ext Hf H az H'->Q out s')->Joins (model X.prog X.w) X.A E (evalEach es X.env) acc Q s:=⟨yR.run'⟩
theorem mJ:yR X cl [] 0 (fun _=>true):=⟨fun pins s σ aK H0 Hf H ρ E acc Q I r _ _ k=>k acc s Hf H (YD _) I (Ext.refl r.sub)⟩
theorem dF{c d:aJ->Bool} (h:MV X cl e n c) (ht:yR X cl es m d) (he:autoParam (evalEach (e::es) X.env=eval e X.env::evalEach es X.env) f_):yR X cl (e::es) (n+m) (fun ρ=>c ρ&&d ρ):=by
  refine⟨?_⟩;intro pins s σ aK H0 Hf H ρ E acc Q I r hc hz k;rw[YH]at hc;rw[he];refine YA (h pins s σ aK H0 Hf H ρ E I r hc.1) (fun u s1 q=>?_) fun _ _ z=>z;obtain⟨x,t,aM,H1,rfl,hl,I1,x1⟩:=q;have e1:(acc++x).length=acc.length+x.length:=strLen_append ..
  refine⟨x,t,rfl,by rw[e1];omega,ht pins s1 σ aK H0 aM H1 ρ E (acc++x) Q I1 (r.keep x1) hc.2 (by rw[e1];omega) fun out s' az H' Uj I' x'=>k out s' az H' (by rw[e1]at Uj;omega) I' (x1.trans x')⟩
theorem mK{a b:Expr}{es:List Expr}{c:aJ->Bool}{pos:Pos}(h:yR X cl (a::b::es) n c)(hn:autoParam (n<=1000) w_):MV X cl (.JoinedStr (a::b::es) pos) n c:=by
  refine⟨?_⟩;intro pins s σ aK H0 Hf H ρ E I r hc;have h0:(Str.empty).length=0:=rfl
  have hs:n<=sizeLine:=YU hn (by decide);refine wpAny_JoinedStr (h pins s σ aK H0 Hf H ρ E _ _ I r hc (by rw[h0];omega) fun out s' az H' hl I' x'=>?_);rw[h0]at hl;exact⟨by omega,out,_,az,H',rfl,by omega,I'.tok _,x'⟩
theorem CQ(W:Own X)(I:Inv X pins σ H s){h':Heap}(k:∀ b o,s.heap.get? b=some o->h'.get? b=some o):lV X pins H (PySem.W.hideAll s.heap (fq X.stack)) h':=by
  intro b o e hs hn;obtain⟨o',q⟩:=oN W I hs;have:=k b o' q
  rw[e]at this;cases this;exact abm _ q hn
theorem E1(W:Own X)(I:Inv X pins σ H s){e C:Addr}(hm:Heap.MadeExcOf s.heap h' e (.ref C) vs):nV X pins H e C h':=by
  obtain⟨t,he,_,_⟩:=hm.there;refine⟨PySem.W.hideAll s.heap (fq X.stack),.ref t,CQ W I hm.keeps,⟨_,he,rfl⟩,.inl ⟨fun b o q=>hm.keeps b o (aar _ q),?_,?_,_,_,he,rfl,rfl,rfl,rfl,rfl⟩⟩
  . cases q:(PySem.W.hideAll s.heap (fq X.stack)).get? e with
    | none=>rfl
    | some o=>have:=aar _ q;rw[hm.new]at this;cases this
  . refine Heap.FunFrames.of_keeps (fun b o q _=>⟨o,hm.keeps b o q,rfl⟩) (PySem.W.funFrames_hide I.stack fun env he a ha=>?_);exact abC.mpr ⟨env,he,ha⟩
theorem fm{k:aJ->Bool}{np ED pos:Pos} (hc:OZ X.K X.mg cl c x) (W:Own X) (hg:Gl X x) (hh:X.A.handled=none) (he:MV X cl e n k)
    (fB:autoParam (starEach [e] X.env=[(false,eval e X.env)]) f_) (eW:autoParam ((x ==("__debug__" : Str))=false) w_) :
    MS X cl (.Raise (some (.Call (.Name x np) [e] [] ED)) none pos) (d6 k c):=by
  refine⟨?_⟩;intro pins s σ aK H0 Hf H ρ I r hs;have hk:k ρ=true:=by
    cases q:k ρ with
    | true=>rfl
    | false=>exact absurd (by unfold d6;rw[q];rfl) hs
  have e0:d6 k c ρ=.exc c ρ:=by unfold d6;rw[hk];rfl
  rw[e0];obtain⟨bm,N,nm,q,bs,hdct,sn,sub,ab,col,dd,k0,k1,k2,k3,k5,mN,hC,hN,GD,T⟩:=CP I.ok.mod.ot hc.ex;refine wpAny_Raise_call_subT (C:=cl c) (nm:=nm) (q:=q) (N:=N) (bs:=bs) (bm:=bm) (hdct:=hdct) (sn:=sn) (sub:=sub) (ab:=ab) (col:=col) (dd:=dd) (k0:=k0) (k1:=k1) (k2:=k2) (k3:=k3) (k5:=k5)
    abJ (mN:=mN) (T.hasType abJ.hasBase) hh (by rw[fB];rfl) GD (gj I hg hc.mg ⟨rfl,?_⟩ eW)
  rw[fB];refine Calls.evalArgs_plain ?_;show wpAny _ _ (spliced ((false,eval e X.env)::backTo ED [])) _ _ s
  refine ZZ (YA (he pins s σ aK H0 Hf H ρ _ I r hk) (fun u s1 q1=>aaw ?_) fun _ _ z=>z);obtain⟨y,t,aM,H1,rfl,hl,I1,x1⟩:=q1;refine⟨rfl,by show 1<=sizeLine;decide,I1.bk _ _ hC,hN.keeps I1.bk,T.keeps I1.bk,fun h' ee hm=>?_⟩
  exact⟨c,ρ,σ,aM,H1,ee,rfl,rfl,I1.kept (t':=s1.toks) hm.keeps,r.keep x1,x1.cj,E1 W I1 hm⟩
end
structure iP(K:PySem.W.Frag)(mg:Str->Option Value)(cl:Nat->Addr)(names:List (Nat×Str)):Prop where
  cls:∀ c x,(c,x)∈names->OZ K mg cl c x
  O0:∀ c x d y,(c,x)∈names->(d,y)∈names->PySem.W.kitOne K (.ref (cl c)) (.ref (cl d))=some (under c d)
  Uk:∀ c x d y,(c,x)∈names->(d,y)∈names->PySem.W.exmOne K (.ref (cl c)) (.ref (cl d))=some (under c d)
  bf:∀ d y,(d,y)∈names->PySem.W.kitOne K (.type "NoneType") (.ref (cl d))=some false
  val:∀ c x,(c,x)∈names->PySem.W.kitOne K (.ref (cl c)) (.type "ValueError")=some true
theorem CS{names:List (Nat×Str)}{c:Nat}(h:(names.map (·.1)).contains c=true):∃ x,(c,x)∈names:=by
  rw[aay,ZJ]at h;obtain⟨⟨a,b⟩,h1,h2⟩:=h;cases h2;exact⟨b,h1⟩
section
variable {prog:Program}{w:World}{A:Around}{E:Value->Shared->Prop}{s:Shared}{K:PySem.W.Frag}{x D:Addr}{ox:Obj}
theorem CT{Q:Option Value->Shared->Prop}(X:K.In s.heap)(I:PySem.W.InstAt s.heap x ox D none) (KA:PySem.W.findIn K (.ref D) "__getattribute__"=some (some (.builtin "BaseException.__getattribute__")))
    (KC:PySem.W.findIn K (.ref D) "__getattr__"=some none) (CU:PySem.W.subIn K (.ref D) (.type "BaseException")=some true)
    (hf:PySem.W.findObj K D none "__class__"=some (.bind (.builtin "getset_descriptor.__get__") (.builtin "object.__class__"))) (hm:PySem.W.mroIn K D (.type "object")=some true)
    (h:Q (some (.ref D)) { s with toks:=s.toks+1 }):wpAny (model prog w) A (getAttr? (.ref x) "__class__") Q E s:=by
  obtain⟨hh,g,d,t,os⟩:=s;have L0:=I.type (M:=model prog w)
  have L1:=aaE (M:=model prog w) X KA;have L2:=aaE (M:=model prog w) X KC
  have L3:=PySem.W.looks_subIn (M:=model prog w) X CU;have L4:=PySem.W.looks_find (M:=model prog w) X I hf
  have slot:=PySem.F.attr_ValueError.ga;unfold getAttr? getAttrBy? getAttrBy;refine YE (wpAny_mkText (YE (wpAny_attempt (ZE (YE (L0.at (YE (L1.at ?_))))))));have CV:(onTheHeap (Value.ref D)&&Value.builtin "BaseException.__getattribute__" == Value.builtin "object.__getattribute__")=false:=by
    have:(Value.builtin "BaseException.__getattribute__" == Value.builtin "object.__getattribute__")=false:=by decide +kernel
    rw[this];rfl
  show wpAny _ _ (if (onTheHeap (Value.ref D)&&Value.builtin "BaseException.__getattribute__" == Value.builtin "object.__getattribute__")=true then _ else getAttrByItsOwn _ _ _ _ _ _) _ _ _;rw[CV,Yx ZG];unfold getAttrByItsOwn;refine YE ?_;show wpAny _ _ (typeLookup (.ref D) "__getattr__") _ _ _
  refine L2.at ?_;refine YE (wpAny_attempt (ZE ?_));show wpAny _ _ (boundAndCalled _ _ _) _ _ _
  unfold boundAndCalled;rw[slot.bind];refine YE (Zb ?_);show wpAny _ _ (call (.builtin "BaseException.__getattribute__") [.ref x,.str "__class__" t]) _ _ _
  refine aaj (codeAny_call_builtin slot.plain PySem.F.entry_bexc_ga ?_);have hk:builtinKind "BaseException.__getattribute__"=some .slot:=by decide +kernel
  have KD:splitId "BaseException.__getattribute__"=some ("BaseException","__getattribute__"):=by decide +kernel
  have O1:=PySem.F.args_bexc_ga (.ref x) (.str "__class__" t);simp only[checkBuiltinCall,hk,KD];unfold isInstance;refine YE ?_;refine YE (L0.at ?_);refine L3.at ?_;simp only[Zw,YX,Y2];unfold argsOk at O1
  first
    | rw[O1]
    | skip
  refine Zb ?_;refine YE (Zb (YE (Zb (YE (L0.at (YE (L4.at ?_)))))));show wpAny _ _ (holding _ (call (.builtin "getset_descriptor.__get__") [.builtin "object.__class__",.ref x,.ref D]) >>= _) _ _ _
  refine YE (ZE (aaj (PySem.W.class_get (ox:=ox) (od:=none) X I hm ?_)));exact Zb (PySem.W.handed_on rfl (Zb h))
end
section
variable {K:PySem.W.Frag}{D x:Addr}
theorem E2(hD:attrOk K D=true):PySem.W.KitX K (.ref x) (.ref D) (fun h=>∃ ox,PySem.W.InstAt h x ox D none):=by
  unfold attrOk at hD;simp only[YH,Y8]at hD;obtain⟨⟨⟨⟨⟨⟨⟨KA,KC⟩,CU⟩,hc⟩,ha⟩,hn⟩,Ul⟩,hm⟩:=hD;obtain⟨cd,ey⟩:=abU.mp hc;have obj:∃ c' d' rA,K.lookup D=some ⟨c',d',.cls cd,rA⟩:=by
    unfold PySem.W.clsIn at ey;split at ey
    . rename_i c' d' Yb rA ho;cases ey;exact⟨c',d',rA,ho⟩
    . cases ey
  obtain⟨c',d',rA,ho⟩:=obj;have hf:PySem.W.findObj K D none "__class__"=some (.bind (.builtin "getset_descriptor.__get__") (.builtin "object.__class__")):=by
    unfold PySem.W.findObj;rw[ey,Option.bind_some,ha,Option.bind_some];simp[hn,Ul]
  refine⟨fun M h _ ⟨ox,I⟩=>I.type,fun M h X _ A Q E s k q=>?_,fun h tp dd its n sl X Um=>?_,fun{prog w A E Q s} X ⟨ox,I⟩ k=>?_⟩
  . unfold isType loadHead;exact YE (wpAny_loadPart (k _ _ (X _ _ ho)) (Zb q))
  . refine Bool.eq_false_iff.mpr fun q=>?_;have e:D=tp:=Value.ref.inj (Y8.mp q)
    subst e;have z:=(X _ _ ho).symm.trans Um
    cases z
  . exact CT X I KA KC CU hf hm k
end
section
variable {X:Cx}{cl:Nat->Addr}{pins:List (Addr×Obj)}{s:Shared}{σ:SV}{aK H0 Hf H aM H1:Hp}{ρ:aJ}{α:Type}
theorem IG(I:Inv X pins σ H s)(sm:bc Hf H)(h:Hf a=some (wq a (cl c))):∃ ox,PySem.W.InstAt s.heap a ox (cl c) none:=by
  obtain⟨⟨o,vs,h1,h2,h3,h4⟩,_,_⟩:=I.bQ a _ (sm _ _ h);refine⟨o,h1,h2,?_,?_⟩
  . unfold PySem.W.notCls;rw[h4]
  . rw[h3];trivial
theorem uR{b:Bool}{E:Value->Shared->Prop} (I:Inv X pins σ H s) (sm:bc Hf H) (rv:RelV v u) (rp:Rp X.K cl Hf v p)
    (hb:(∃ c,p=.exc c/\attrOk X.K (cl c)=true/\PySem.W.kitOne X.K (.ref (cl c)) cv=some b)\/(p=.bf/\PySem.W.kitOne X.K (.type "NoneType") cv=some b)) :
    wpAny (model X.prog X.w) X.A (call (.builtin "isinstance") [u,cv]) (gb X cl pins σ Hf H (.ok (.bl b))) E s:=by
  have fin:∀ tk,gb X cl pins σ Hf H (.ok (.bl b)) (.bool b) { s with toks:=tk }:=fun tk=>⟨.bl b,.bl b,Hf,H,rfl,I.tok _,rfl,Ext.refl sm,.bl b⟩;rcases hb with⟨c,rfl,ha,hk⟩ | ⟨rfl,hk⟩
  . cases rp with
    | exc hq =>
      cases rv;exact ZQ (E2 ha) I.eT (IG I sm hq) hk (fun z=>nomatch z) fin
  . cases rp;cases rv;exact ZQ PySem.W.kitx_none I.eT True.intro hk (fun z=>nomatch z) fin
theorem il{names:List (Nat×Str)} (C:iP X.K X.mg cl names) {d:Nat}{y:Str}{p p2 pos:Pos} (hy:(d,y)∈names) (he:ME X cl e f) (hg:Gl X "isinstance") (hm:X.mg "isinstance"=none) (Kw:Gl X y)
    (eW:autoParam ((y ==("__debug__" : Str))=false) w_)
    (fB:autoParam (starEach [e,.Name y p2] X.env=[(false,eval e X.env),(false,eval (.Name y p2) X.env)]) f_) (wJ:autoParam (starEach [.Name y p2] X.env=[(false,eval (.Name y p2) X.env)]) f_) :
    ME X cl (.Call (.Name "isinstance" p) [e,.Name y p2] [] pos) (ij (names.map (·.1)) d f):=by
  refine⟨?_⟩;intro pins s σ aK H0 Hf H ρ I r hs;unfold ij at hs ⊢;refine Zq (kW I hg hm boot_isinstance ?_);refine aas ?_ (by rw[fB,wJ]) (by rw[wJ];rfl);rw[fB];show wpAny _ _ (spliced ((false,eval e X.env)::backTo pos [(false,eval (.Name y p2) X.env)])) _ _ s
  refine ZZ (he.run I r (Ext.refl r.sub) hs fun q v u s1 aM H1 e1 I1 rv x1 rp=>?_);rw[e1]at hs ⊢;show wpAny _ _ (spliced ((false,eval (.Name y p2) X.env)::[])) _ _ s1
  refine ZZ (gj I1 Kw (C.cls d y hy).mg (aaw ?_) eW);cases q<;>first
    | exact absurd rfl hs
    | skip
  . exact ie (uR I1 x1.sub rv rp (.inr ⟨rfl,C.bf d y hy⟩)) fun _ _ q=>q.from (e0:=x1)
  . rename_i c;have cZ:(if (names.map (·.1)).contains c=true then R.ok (PV.bl (under c d)) else R.stuck)≠.stuck:=hs
    obtain⟨hc,e2⟩:=eo cZ;obtain⟨x,hx⟩:=CS hc;show wpAny _ _ _ (gb X cl pins σ Hf H (if (names.map (·.1)).contains c=true then R.ok (PV.bl (under c d)) else R.stuck)) _ s1
    rw[e2];exact ie (uR I1 x1.sub rv rp (.inl ⟨c,rfl,(C.cls c x hx).at_,C.O0 c x d y hx hy⟩)) fun _ _ q=>q.from (e0:=x1)
theorem yS{E:Value->Shared->Prop}{i:Nat}{x:Str}{pos:Pos}{v:V}{Q:Value->Shared->Prop} (I:Inv X pins σ H s) (hN:X.N[i]?=some x) (hv:ou X.env.scope x) (e:σ[i]?=some (some v)) (h:∀ u,RelV v u->Q u s)
    (hd:autoParam ((x ==("__debug__" : Str))=false) w_) (ey:autoParam ((x ==("__classdict__" : Str))=false) w_):wpAny M A (eval (.Name x pos) X.env) Q E s:=by
  obtain⟨m,hn,hl⟩:=I.loc;obtain⟨u,r,l⟩:=hl i x v hN e hv;rcases l with⟨hk,hm⟩ | ⟨hk,c,hc,jY⟩
  . exact aa9 (wpAny_loadName_local I.ok.kind hk hn hm (h u r)) hd
  . rcases hk with hk | hk
    . exact aa9 (wpAny_loadName_cell I.ok.kind hk hc jY (h u r)) hd
    . exact aa9 (wpAny_loadName_free I.ok.kind hk hc jY (h u r) ey) hd
theorem E3{E:Value->Shared->Prop}{i:Nat}{x:Str}{Q:Unit->Shared->Prop} (I:Inv X pins σ H s) (hN:X.N.Nodup) (hi:X.N[i]?=some x) (hk:X.env.scope.names.lookup x=some .local)
    (h:∀ s',Inv X pins (σ.set i none) H s'->Q () s'):wpAny M A (do bindName X.env x .none;unbindBehindTheSuite X.env x pos) Q E s:=by
  obtain⟨m,hn,hl⟩:=id I.loc;have hcls:(X.env.scope.kind == .class||(X.env.scope.kind == .module&&X.env.locals != X.env.globals))=false:=by rw[I.ok.kind];rfl
  refine wpAny_nameGoes_keeps hk hn hcls fun h' v vS hs=>?_;obtain⟨oL,_,_,OF,_⟩:=id hn;have old:∀ b o,X.s₀.heap.get? b=some o->h'.get? b=s.heap.get? b:=fun b o e=>hs.2 b (Zx (YY (YO e) I.ok.above))
  have EN:gi X.prog X.w H h':=fun b ob e=>by
    have nl:∀ c,(c=b\/H c=some (.own b))->c≠X.env.locals:=fun c hc z=>by
      subst z;rcases hc with rfl | hc
      . rw[I.free]at e;cases e
      . rw[I.free]at hc;cases hc
    exact(I.bQ b ob e).oq (fun c w' hc q=>by rw[hs.2 c (nl c hc)];exact q) (fun _ q=>q) fun _ _ q=>q
  refine h _ ⟨I.ok,I.os,I.bare,⟨fun b o e n hb hx=>?_,fun b o e n hb hx=>?_,I.base.free,fun b o e hx=>?_,I.base.kT,I.base.kr,I.base.kU⟩,⟨_,vS,fun j y v' e1 e2 e3=>?_⟩,fun y c e=>?_,I.free,I.gG,fun p hp=>?_,EN,by simpa using I.len⟩
  . show h'.get? b=_;rw[old b o e];exact I.base.keep b o e n hb hx
  . obtain⟨sl,q⟩:=I.base.slot b o e n hb hx;exact⟨sl,by show h'.get? b=_;rw[old b o e];exact q⟩
  . obtain⟨o',q⟩:=I.base.there b o e hx;exact⟨o',by show h'.get? b=_;rw[old b o e];exact q⟩
  . by_cases hj:j=i
    . subst hj;rw[aah]at e2;by_cases hh:j<σ.length<;>simp[hh]at e2
    . rw[YR (ZC hj)]at e2;obtain⟨u',r',q⟩:=hl j y v' e1 e2 e3;have ny:y≠x:=fun e=>hj (qK hN e1 (e ▸ hi))
      refine⟨u',r',?_⟩;rcases q with⟨k,e⟩ | ⟨k,c,e,z⟩
      . exact .inl ⟨k,by simp[ny,e]⟩
      . exact .inr ⟨k,c,e,z.sameBut hs (I.qa y c e)⟩
  . obtain⟨w',z⟩:=I.cell y c e;exact⟨w',z.sameBut hs (I.qa y c e)⟩
  . obtain⟨p1,p2,p3,p4,p5⟩:=I.pin p hp;exact⟨by show h'.get? p.1=_;rw[hs.2 p.1 p3];exact p1,p2,p3,p4,p5⟩
theorem Inv.adopt{e:Addr}(I:Inv X pins σ H s)(hH:H e=none)(h0:X.s₀.heap.get? e=none)(hL:e≠X.env.locals)(hC:∀ x c,X.env.cells.lookup x=some c->c≠e)(hP:∀ p∈X.pn++pins,p.1≠e)
    (new:fJ X.prog X.w (upd H e o) s.heap e o):Inv X pins σ (upd H e o) s:=by
  have up:∀{b:Addr}{u:HO},H b=some u->(upd H e o) b=some u:=fun{b u} q=>by rw[bJ (gF q hH)];exact q
  refine⟨I.ok,I.os,I.bare,⟨I.base.keep,I.base.slot,fun b ob q n hx=>?_,I.base.there,fun b xs q=>up (I.base.kT b xs q),fun b ob u q=>up (I.base.kr b ob u q),fun b ps q=>?_⟩,I.loc,I.cell,?_,fun x c q=>?_,fun p hp=>?_,fun b u q=>?_,I.len⟩
  . rw[bJ (fun z=>by rw[z,h0]at q;cases q)];exact I.base.free b ob q n hx
  . obtain⟨more,q'⟩:=I.base.kU b ps q;exact⟨more,up q'⟩
  . rw[bJ (ZC hL)];exact I.free
  . rw[bJ (hC x c q)];exact I.gG x c q
  . obtain⟨p1,p2,p3⟩:=I.pin p hp;exact⟨p1,by rw[bJ (hP p hp)];exact p2,p3⟩
  . by_cases hb:b=e
    . subst hb;rw[bU]at q;cases q;exact new
    . rw[bJ hb]at q;exact(I.bQ b u q).oq (fun c v _ q=>q) (fun c q=>up q) fun c xs q=>up q
theorem CW(W:Own X)(I:Inv X pins σ H s)(mG:lV X pins H B s.heap)(nd:kz e s.heap)(fl:Heap.FlyingW B X.stack e (.ref (cl c)) a0 s.heap) :
    H e=none/\Inv X pins σ (upd H e (wq e (cl c))) s:=by
  obtain⟨f1,f2,f3,f4⟩:=fl;obtain⟨oe,vs,T,oT,ts,he,hc,hd,_⟩:=f4;obtain⟨o',q1,q2⟩:=nd;rw[he]at q1;cases q1;have O2:e ∉ fq X.stack:=fun z=>by
    obtain⟨_,o,ho,oO⟩:=I.stack.mem z;rw[he]at ho;cases ho;exact oO vs hd
  have ns:¬ iT X pins H e:=fun z=>by
    have:=mG e oe he z O2;rw[f2]at this;cases this
  have nH:H e=none:=by
    cases q:H e with
    | none=>rfl
    | some u=>exact absurd (.inl (by rw[q];intro z;cases z)) ns
  refine⟨nH,Mi.Inv.adopt I nH ?_ (fun z=>O2 ((jO W).mpr (.inl z))) (fun x c' q z=>ns (.inr (.inr (.inr ⟨x,z ▸ q⟩)))) (fun p hp z=>ns (.inr (.inl ⟨p,hp,z⟩))) ⟨⟨oe,vs,he,hc.1,q2,hd⟩,⟨oe,he⟩,?_⟩⟩
  . cases q:X.s₀.heap.get? e with
    | none=>rfl
    | some u=>exact absurd (.inr (.inr (.inl ⟨u,q⟩))) ns
  . rintro h1 h2 ⟨o,ws,a1,a2,a3,a4⟩ k;exact⟨o,ws,k o a1,a2,a3,a4⟩
end
noncomputable def rR(K:PySem.W.Frag)(x:Str):Bool:=match PySem.W.nsIn K mainGlobals x with
  | some (some (.ref _))=>true
  | _=>false
theorem qW{K:PySem.W.Frag}{x:Str}(h:rR K x=true):PySem.W.nsIn K mainGlobals x=some (some (.ref (cW K x))):=by
  unfold rR at h;unfold cW;split at h
  . rename_i a e;rw[e]
  . cases h
noncomputable def rS(K:PySem.W.Frag)(p q:Nat×Str):Bool:=PySem.W.kitOne K (.ref (cW K p.2)) (.ref (cW K q.2)) == some (under p.1 q.1)&&PySem.W.exmOne K (.ref (cW K p.2)) (.ref (cW K q.2)) == some (under p.1 q.1)
noncomputable def rT(K:PySem.W.Frag)(p:Nat×Str):Bool:=rR K p.2&&PySem.W.excIn K (cW K p.2) OY "ValueError.__new__" && attrOk K (cW K p.2)&&PySem.W.kitOne K (.ref (cW K p.2)) (.type "ValueError") == some true &&
  PySem.W.kitOne K (.type "NoneType") (.ref (cW K p.2)) == some false
noncomputable def A9:List Nat->Bool
  | []=>true
  | a::r=>!r.contains a&&A9 r
theorem GF:∀{l:List Nat},A9 l=true->l.Nodup
  | [],_=>acC
  | a::r,h=>by
    unfold A9 at h;rw[YH]at h;refine Z2.mpr ⟨fun z=>?_,GF h.2⟩;have:=aay.mpr z
    rw[this]at h;exact absurd h.1 (by decide)
section
variable {K:PySem.W.Frag}{mg:Str->Option Value}{names:List (Nat×Str)}{h:Heap}
theorem eB{c:Nat}{x:Str}(hn:(names.map (·.1)).Nodup)(hx:(c,x)∈names):iM K names c=cW K x:=by
  unfold iM;rw[mem_lookup hn hx]
end
section
variable {X:Cx}{cl:Nat->Addr}
theorem cD{i:Int}{pos:Pos} (hg:Gl X x) (hm:∃ t,X.mg x=some (.int i t)) (hd:autoParam ((x ==("__debug__" : Str))=false) w_):ME X cl (.Name x pos) (fC (.int i)):=by
  obtain⟨t,hm⟩:=hm;exact IA (v:=.int i) hg hm ⟨t,rfl⟩ (fun _=>.int i) hd
theorem at_mem{names:List (Nat×Str)}(i:Nat){p:Nat×Str}(h:names[i]?=some p):p∈names:=aai h
end
section
variable {K:PySem.W.Frag}{cl:Nat->Addr}{aK H0 Hf H az H':Hp}{σ:SV}{ρ:aJ}
theorem Rep.own(r:Rep K cl aK H0 Hf H σ ρ)(i:Nat){a:Addr}{xs:List V}(ha:H a=some (.lst xs))(CY:Hf a=none)(Uo:H0 a=none)(bA:cy K cl Hf xs l)(hl:i<σ.length)
    (nw:∀(j:Nat)(qs:List PV),ρ[j]?=some (some (.own qs))->σ[j]?≠some (some (.ref a))):Rep K cl aK H0 Hf H (σ.set i (some (.ref a))) (ρ.set i (some (.own l))):=by
  refine⟨r.ext,fun j p hp=>?_,fun j k ps qs b h1 h2 h3 h4=>?_⟩
  . by_cases e:i=j
    . subst e;have hi:i<ρ.length:=by
        rw[aah]at hp;by_cases hh:i<ρ.length
        . exact hh
        . simp[hh]at hp
      rw[Y0 hi]at hp;cases hp;exact⟨_,Y0 hl,a,xs,rfl,ha,CY,Uo,bA⟩
    . rw[YR e]at hp;obtain⟨w,hw,sl⟩:=r.slot j p hp;exact⟨w,by rw[YR e];exact hw,sl⟩
  . by_cases e:i=j
    . by_cases e':i=k
      . exact e.symm.trans e'
      . subst e;rw[Y0 hl]at h3;cases h3;rw[YR e']at h2 h4;exact absurd h4 (nw k _ h2)
    . by_cases e':i=k
      . subst e';rw[Y0 hl]at h4;cases h4;rw[YR e]at h1 h3;exact absurd h3 (nw j _ h1)
      . rw[YR e]at h1 h3;rw[YR e']at h2 h4;exact r.dist j k _ _ b h1 h2 h3 h4
end
def yT(X:Cx)(cl:Nat->Addr)(pins:List (Addr×Obj))(σ:SV)(Hf H:Hp)(r:R PV)(u:Value)(s:Shared):Prop :=
  ∃ ps a xs az H',r=.ok (.lst ps)/\Inv X pins σ H' s/\u=.ref a/\Ext Hf H az H'/\H' a=some (.lst xs)/\az a=none/\H a=none/\cy X.K cl az xs ps
structure MF(X:Cx)(cl:Nat->Addr)(e:Expr)(f:FE):Prop where
  run':∀(pins:List (Addr×Obj))(s:Shared)(σ:SV)(aK H0 Hf H:Hp)(ρ:aJ),Inv X pins σ H s->Rep X.K cl aK H0 Hf H σ ρ->f ρ≠.stuck ->
    wpAny (model X.prog X.w) X.A (eval e X.env) (yT X cl pins σ Hf H (f ρ)) (dk X cl pins σ Hf H (f ρ)) s
section
variable {X:Cx}{cl:Nat->Addr}
theorem E4(e:Ext Hf H aM H1){a:Addr}(h:H1 a=none):H a=none:=by
  cases q:H a with
  | none=>rfl
  | some o=>rw[e.all a o q]at h;cases h
theorem yT.from{e0:Ext Hf H aM H1} (h:yT X cl pins σ aM H1 r u s'):yT X cl pins σ Hf H r u s':=by
  obtain⟨ps,a,xs,az,H',e1,I',e2,ex,g1,g2,g3,bA⟩:=h;exact⟨ps,a,xs,az,H',e1,I',e2,e0.trans ex,g1,g2,E4 e0 g3,bA⟩
theorem IH{e:Expr}{p pos:Pos} (hg:Gl X x) (hm:X.mg x=none) (hv:bootBuiltins x=some (.type "list")) (ha:MA X cl [e] g)
    (hn:autoParam (x≠"__name__") w_) (eW:autoParam ((x ==("__debug__" : Str))=false) w_) (he:autoParam (starEach [e] X.env=(false,eval e X.env)::starEach [] X.env) f_) (eC:autoParam ((backTo pos (starEach [] X.env)).any (·.1)=false) f_) :
    MF X cl (.Call (.Name x p) [e] [] pos) (au lU g):=by
  refine⟨?_⟩;intro pins s σ aK H0 Hf H ρ I r hs;unfold au at hs ⊢;refine Zq (kW I hg hm hv ?_ hn eW);refine aaC (ha.run pos I r (Ext.refl r.sub) hs fun qs vs us s1 aM H1 _ e1 I1 rv x1 bA=>?_) he eC;rw[e1]at hs ⊢;have:(∃ l,qs=[.tup l])\/∃ l,qs=[.lst l]:=by
    unfold lU at hs;split at hs
    . exact .inl ⟨_,rfl⟩
    . exact .inr ⟨_,rfl⟩
    . exact absurd rfl hs
  generalize hE:dk X cl pins σ Hf H _=E;rcases this with⟨l,rfl⟩ | ⟨l,rfl⟩
  . obtain⟨v,rfl,rp⟩:=gL bA;cases rp with
    | tup h r' =>
      refine ie ((jq (X:=X.bP E)) pins s1 σ H1 _ us (fun v H'=>∃ q,H1 q=none/\v=.ref q/\H'=upd H1 q (.lst _)) (I1.bP E) rv ⟨_,_,rfl,.inr (bc.dZ x1.sub h),fun q hq=>⟨q,hq,rfl,rfl⟩⟩) fun u s' ⟨v,H',I',fN,q,hq,e2,e3⟩=>?_;subst e2;subst e3;cases fN;exact yT.from (e0:=x1) ⟨_,q,_,aM,_,rfl,I'.kX,rfl,Ext.wt x1.sub hq _,bU,x1.sub.free hq,hq,r'⟩
  . obtain⟨v,rfl,rp⟩:=gL bA;cases rp with
    | lst h r' =>
      refine ie ((jq (X:=X.bP E)) pins s1 σ H1 _ us (fun v H'=>∃ q,H1 q=none/\v=.ref q/\H'=upd H1 q (.lst _)) (I1.bP E) rv ⟨_,_,rfl,.inl (x1.sub.seq h),fun q hq=>⟨q,hq,rfl,rfl⟩⟩) fun u s' ⟨v,H',I',fN,q,hq,e2,e3⟩=>?_;subst e2;subst e3;cases fN;exact yT.from (e0:=x1) ⟨_,q,_,aM,_,rfl,I'.kX,rfl,Ext.wt x1.sub hq _,bU,x1.sub.free hq,hq,r'⟩
end
mutual
inductive iN (K:PySem.W.Frag):Value->PV->Prop where
  | bf:iN K .none .bf
  | bl (b:Bool):iN K (.bool b) (.bl b)
  | int (i:Int) (t:Tok):iN K (.int i t) (.int i)
  | str (x:Str) (t:Tok):iN K (.str x t) (.str x)
  | tup {a:Addr}{o:Obj}{its:Array Value}{n:Nat}{ps:List PV} (h:K.lookup a=some o) (c:o.cls=.type "tuple") (d:o.data=.seq its n) (z:its.size<=sizeLine) (r:kI K its.toList ps):iN K (.ref a) (.tup ps)
inductive kI (K:PySem.W.Frag):List Value->List PV->Prop where
  | nil:kI K [] []
  | cons {u:Value}{p:PV}{us:List Value}{ps:List PV} (r:iN K u p) (t:kI K us ps):kI K (u::us) (p::ps)
end
section
variable {K:PySem.W.Frag}{cl:Nat->Addr}
mutual
theorem iN.rp(Hf:Hp):∀{u:Value}{p:PV},iN K u p->∃ v,RelV v u/\Rp K cl Hf v p
  | _,_,.bf=>⟨.bf,rfl,.bf⟩
  | _,_,.bl b=>⟨.bl b,rfl,.bl b⟩
  | _,_,.int i t=>⟨.int i,⟨t,rfl⟩,.int i⟩
  | _,_,.str x t=>⟨.str x,⟨t,rfl⟩,.str x⟩
  | _,_,.tup (a:=a) (o:=o) (its:=its) (n:=n) h c d z r=>by
    obtain⟨vs,h1,h2⟩:=kI.bA Hf r;exact⟨.ref a,rfl,.tup (.inr ⟨o,its,n,h,c,d,z,h1⟩) h2⟩
theorem kI.bA(Hf:Hp):∀{us:List Value}{ps:List PV},kI K us ps->∃ vs,Vals vs us/\cy K cl Hf vs ps
  | _,_,.nil=>⟨[],.nil,.nil⟩
  | _,_,.cons r t=>by
    obtain⟨v,a,b⟩:=iN.rp Hf r;obtain⟨vs,c,d⟩:=kI.bA Hf t;exact⟨v::vs,.cons a c,.cons b d⟩
end
noncomputable def rU(K:PySem.W.Frag):Nat->Value->PV->Bool
  | _,.none,.bf=>true
  | _,.bool a,.bl b=>a == b
  | _,.int a _,.int b=>a == b
  | _,.str a _,.str b=>a == b
  | n+1,.ref a,.tup ps=>(match K.lookup a with
    | some o=>o.cls == .type "tuple" && (match o.data with
      | .seq its _=>decide (its.size<=sizeLine)&&decide (its.toList.length=ps.length)&&(its.toList.zip ps).all fun q=>rU K n q.1 q.2
      | _=>false)
    | none=>false)
  | _,_,_=>false
theorem wL{K:PySem.W.Frag}{f:Value->PV->Bool}(hf:∀ u p,f u p=true->iN K u p):∀{us:List Value}{ps:List PV},us.length=ps.length->((us.zip ps).all fun q=>f q.1 q.2)=true->kI K us ps
  | [],[],_,_=>.nil
  | [],_::_,h,_=>by cases h
  | _::_,[],h,_=>by cases h
  | u::us,p::ps,h,e=>by
    simp only[List.zip_cons_cons,ZO,YH]at e;exact .cons (hf u p e.1) (wL hf (by simpa using h) e.2)
theorem II:∀{n:Nat}{u:Value}{p:PV},rU K n u p=true->iN K u p:=by
  intro n
  induction n with
  | zero =>
    intro u p h;unfold rU at h;split at h
    . exact .bf
    . cases Y8.mp h;exact .bl _
    . cases Y8.mp h;exact .int _ _
    . cases Y8.mp h;exact .str _ _
    . rename_i n' a ps hn;cases hn
    . cases h
  | succ n ih =>
    intro u p h;unfold rU at h;split at h
    . exact .bf
    . cases Y8.mp h;exact .bl _
    . cases Y8.mp h;exact .int _ _
    . cases Y8.mp h;exact .str _ _
    . rename_i n' a ps hn;cases hn;split at h
      . rename_i o ho;rw[YH]at h;obtain⟨h1,h2⟩:=h;split at h2
        . rename_i its m hd;simp only[YH,decide_eq_true_eq]at h2;exact .tup ho (Y8.mp h1) hd h2.1.1 (wL (fun u p e=>ih e) h2.1.2 h2.2)
        . cases h2
      . cases h
    . cases h
end
section
variable {X:Cx}{cl:Nat->Addr}
theorem fZ{pos:Pos} (hg:Gl X x) (hm:∃ u,X.mg x=some u/\iN X.K u q) (hd:autoParam ((x ==("__debug__" : Str))=false) w_):ME X cl (.Name x pos) (fC q):=by
  obtain⟨u,hm,k⟩:=hm;obtain⟨v,rv,_⟩:=k.rp (cl:=cl) (fun _=>none);refine⟨?_⟩;intro pins s σ aK H0 Hf H ρ I r hs;obtain⟨v,rv,rp⟩:=k.rp (cl:=cl) Hf;exact gj I hg hm ⟨q,v,Hf,H,rfl,I,rv,Ext.refl r.sub,rp⟩ hd
end
structure KG(K:PySem.W.Frag)(x qual:Str)(st:Stmt)(f:Addr)(fd:FuncData)(y:Str):Prop where
  ex:∃(oc:Value)(od:Option Addr)(kV doc pm:Value)(an:Option Addr)(aU ct:Value)(fM:Array (Option Value))(T:Addr)(o:Obj)(n:Nat)(t:Tok),
    fd=PySem.W.fnOf x qual (cT st) (bF st) (aI st) (.ref T) kV doc pm an aU ct/\K.lookup f=some ⟨oc,od,.func fd,fM⟩/\PySem.W.codeIn K aU qual=true/\K.lookup T=some o/\o.data=.seq #[.str y t] n
  kp:PySem.W.keepIn K (.ref f)=true
section
variable {P:Program}{w:World}{K:PySem.W.Frag}{mg:Str->Option Value}{base:Heap}{cl:Nat->Addr}
theorem Ba{x qual:Str}{st:Stmt}{f:Addr}{N ps:List Str}{k n:Nat}{b:FS}{dV kV doc pm aU ct oc:Value}{an od:Option Addr}{fM:Array (Option Value)}
    (lk:K.lookup f=some ⟨oc,od,.func (PySem.W.fnOf x qual (cT st) (bF st) (aI st) dV kV doc pm an aU ct),fM⟩) (ey:PySem.W.codeIn K aU qual=true) (S:fD N ps (aI st)) (hn:ps.length=n)
    (eG:∀(aU:Value)(A:Around)(outer:List Env)(s:Shared)(H:Hp)(E:XK),cE k (A.deeper (envOfC qual (aI st) s.heap.objs.size f aU)) ->
      jJ (bG P w K mg base cl N qual (aI st) f aU A outer s H E) cl (bF st) b):fO P w K mg base (jl cl P w) (k+1) f (PySem.W.fnOf x qual (cT st) (bF st) (aI st) dV kV doc pm an aU ct) ps (mF K cl n (aY N.length b)):=by
  refine AQ lk ey S (fun vs H Q E h=>by rw[h.1,hn]) fun A outer s H vs Q E hr hG=>?_;obtain⟨hl,Hf,qs,sm,bA,hs,bQ,hex⟩:=hG;have hb:=eG aU A outer s H E hr
  have cZ:b (Mi.start N.length qs)≠.stuck:=fun z=>hs (by unfold aY;rw[z]);refine⟨fun D σ H1=>σ=L2.start N vs/\H1=H/\D={ nx:=fun _ H'=>Q .bf H',rt:=Q },fun pins s1 σ H1 D I h=>?_,rfl,rfl,rfl⟩;obtain⟨rfl,rfl,rfl⟩:=h;refine YA (hb pins s1 _ Hf H1 Hf H1 _ I (uO rfl sm bA) cZ) (fun fl s2 q=>?_) fun u s2 q=>?_
  . cases fl with
    | next =>
      obtain⟨ρ',σ',az,H',e1,I',r',_⟩:=q;exact⟨σ',H',I',bQ .bf .bf az H' (by unfold aY;rw[e1]) r'.ext .bf⟩
    | ret u =>
      obtain⟨p,v,σ',az,H',e1,I',ex,rv,rp⟩:=q;exact⟨v,σ',H',I',rv,bQ p v az H' (by unfold aY;rw[e1]) ex rp⟩
    | brk =>
      obtain⟨ρ',σ',az,H',e1,I',r',_⟩:=q;exact absurd (by unfold aY;rw[e1]) hs
    | cont =>
      obtain⟨ρ',σ',az,H',e1,I',r',_⟩:=q;exact absurd (by unfold aY;rw[e1]) hs
  . obtain⟨c,ρ',σ',az,H',e,e1,rfl,I',r',_,x⟩:=q;exact oS I' x (hex c az H' (by unfold aY;rw[e1]) r'.ext)
structure fu(K:PySem.W.Frag)(mg:Str->Option Value)(x:Str)(st:Stmt)(f:Addr)(fd:FuncData)(y:Str):Prop where
  fn:KG K x x st f fd y
  mg:mg x=some (.ref f)
theorem def_mkD{h:Heap}{x:Str}{st:Stmt}{f:Addr}{oc:Value}{od an:Option Addr}{fM:Array (Option Value)}{kV doc pm aU ct:Value}{T:Addr}{KH:Value}{KI:Option Addr}{E5:Array (Option Value)}{n:Nat}{t:Tok}{y:Str}(X:K.In h)(G:h.Ns mainGlobals mg)(a:PySem.W.nsIn K mainGlobals x=some (some (.ref f)))
    (l:K.lookup f=some ⟨oc,od,.func (PySem.W.fnOf x x (cT st) (bF st) (aI st) (.ref T) kV doc pm an aU ct),fM⟩) (c:PySem.W.codeIn K aU x=true) (k:PySem.W.keepIn K (.ref f)=true) (d:K.lookup T=some ⟨KH,KI,.seq #[.str y t] n,E5⟩) :
    ∃ f fd,fu K mg x st f fd y:=⟨f,_,⟨⟨oc,od,kV,doc,pm,an,aU,ct,fM,T,_,n,t,rfl,l,c,d,rfl⟩,k⟩,Z6 X G a⟩
structure jw(P:Program)(w:World)(K:PySem.W.Frag)(mg:Str->Option Value)(base:Heap)(cl:Nat->Addr)(k:Nat)(x:Str)(n:Nat)(F:List PV->R PV)(y:Str):Prop where
  ex:∃(f:Addr)(fd:FuncData)(ps:List Str)(d:Value),mg x=some (.ref f)/\PySem.W.keepIn K (.ref f)=true/\ps.length=n/\fO P w K mg base (jl cl P w) k f fd ps (mF K cl n F)/\Binds K fd ps []/\Binds K fd ps [d]/\RelV (.str y) d
theorem jw.fg{F:List PV->R PV} (h:jw P w K mg base cl k x n F y):FG P w K mg base cl k x n F:=by
  obtain⟨f,fd,ps,d,a,b,c,e,g,_⟩:=h.ex;exact⟨⟨f,fd,ps,a,b,c,e,g⟩⟩
theorem fu.fg{x:Str}{st:Stmt}{f:Addr}{fd:FuncData}{y:Str}{N ps:List Str}{k n:Nat}{b:FS}(D:fu K mg x st f fd y)(S:fD N ps (aI st))(hn:ps.length=n)
    (hb:∀(T:Addr)(t:Tok)(kV doc pm:Value)(an:Option Addr)(aU ct:Value)(us:List Value),us.length=ps.length->∃ k,bindArgs (PySem.W.fnOf x x (cT st) (bF st) (aI st) (.ref T) kV doc pm an aU ct) ⟨us,[]⟩=seqItems? (.ref T) >>= k/\k (some #[.str y t])=pure (ps.zip us))
    (qu:∀(T:Addr)(t:Tok)(kV doc pm:Value)(an:Option Addr)(aU ct:Value)(us:List Value),us.length+1=ps.length->∃ k,bindArgs (PySem.W.fnOf x x (cT st) (bF st) (aI st) (.ref T) kV doc pm an aU ct) ⟨us,[]⟩=seqItems? (.ref T) >>= k/\k (some #[.str y t])=pure (ps.zip (us ++[.str y t])))
    (eG:∀(aU:Value)(A:Around)(outer:List Env)(s:Shared)(H:Hp)(E:XK),cE k (A.deeper (envOfC x (aI st) s.heap.objs.size f aU)) ->
      jJ (bG P w K mg base cl N x (aI st) f aU A outer s H E) cl (bF st) b):jw P w K mg base cl (k+1) x n (aY N.length b) y:=by
  obtain⟨oc,od,kV,doc,pm,an,aU,ct,fM,T,o,m,t,rfl,lk,ey,lt,dt⟩:=D.fn.ex;refine⟨⟨f,_,ps,.str y t,D.mg,D.fn.kp,hn,Ba lk ey S hn eG,fun s us X hl=>?_,fun s us X hl=>?_,⟨t,rfl⟩⟩⟩
  . rw[Ze]at hl ⊢;obtain⟨k,e1,e2⟩:=hb T t kV doc pm an aU ct us hl;exact abh X rfl lt dt e1 e2
  . obtain⟨k,e1,e2⟩:=qu T t kV doc pm an aU ct us (by simpa using hl);exact abh X rfl lt dt e1 e2
end
structure KJ(K:PySem.W.Frag)(mg:Str->Option Value)(cl:Nat->Addr)(c:Nat)(x:Str):Prop where
  mg:mg x=some (.ref (cl c))
  makes:PySem.W.makesIn K (cl c)=true
  init:PySem.W.findIn K (.ref (cl c)) "__init__"=some (some (.builtin "object.__init__"))
  kp:PySem.W.keepIn K (.ref (cl c))=true
  cls:L2.iP K (cl c)
  hc:PySem.W.findIn K (.ref (cl c)) "__class__"=some (some (.builtin "object.__class__"))
  hn:PySem.W.specialIn K (.builtin "object.__class__") "__get__"=some (some (.builtin "getset_descriptor.__get__"))
  ht:PySem.W.takesIn K (.builtin "object.__class__")=some true
  hm:PySem.W.mroIn K (cl c) (.type "object")=some true
noncomputable def kJ(c:Nat):FE:=fun _=>.ok (.ins c)
section
variable {X:Cx}{cl:Nat->Addr}
theorem IJ{p pos:Pos} (M:KJ X.K X.mg cl c x) (hg:Gl X x) (eW:autoParam ((x ==("__debug__" : Str))=false) w_):ME X cl (.Call (.Name x p) [] [] pos) (kJ c):=by
  refine⟨?_⟩;intro pins s σ aK H0 Hf H ρ I r hs;refine Zq (gj I hg M.mg ?_ eW);refine adj I.eT M.kp (aaj (B4 I.eT M.makes M.init (fun self=>PySem.W.Looks.of_pure (PySem.W.oi_bind self)) ?_));have I2:=Inv.made (C:=cl c) I
  have n1:H s.heap.objs.size=none:=I.bQ.fresh (YD _);have n2:H (s.heap.objs.size+1)=none:=I.bQ.fresh (Nat.le_succ _)
  have e1:=Ext.wt r.sub n1 (.own (s.heap.objs.size+1));have n3:upd H s.heap.objs.size (.own (s.heap.objs.size+1)) (s.heap.objs.size+1)=none:=by rw[bJ (aba (aaF _))];exact n2
  have e2:=Ext.new e1.sub n3 (.ins (cl c) s.heap.objs.size []);obtain⟨hh,g,d,t,os⟩:=s;have Y:=abT (M:=model X.prog X.w) I.eT M.makes
  have hx:((hh.push PySem.W.emptyDict).push (PySem.W.instObj (cl c) hh.objs.size)).get? (hh.objs.size+1)=some (PySem.W.instObj (cl c) hh.objs.size):=by
    have:=Y3 (hh.push PySem.W.emptyDict) (o:=PySem.W.instObj (cl c) hh.objs.size) rfl
    rwa [abA]at this
  have t1:PySem.W.Looks (model X.prog X.w) ((hh.push PySem.W.emptyDict).push (PySem.W.instObj (cl c) hh.objs.size)) (typeOf (.ref (hh.objs.size+1))) (.ref (cl c)):=(PySem.W.Looks.ld hx).andThen .now;have t2:PySem.W.Looks (model X.prog X.w) ((hh.push PySem.W.emptyDict).push (PySem.W.instObj (cl c) hh.objs.size)) (isInstance (.ref (hh.objs.size+1)) (.type "object")) true:=t1.andThen (Y.top.keeps fun b o e=>YK _ (YK _ e))
  refine codeAny_call_builtin PySem.W.oi_plain PySem.W.entry_oi (@PySem.W.check_slot (model X.prog X.w) _ _ _ "object.__init__" "object" "__init__" (.ref (hh.objs.size+1)) [] [] _ PySem.W.oi_kind PySem.W.oi_split t2 (PySem.W.oi_args (.ref (hh.objs.size+1))) ?_);rw[PySem.W.oi_run];exact Zb (And.intro rfl ⟨.ins c,.ref (hh.objs.size+1),_,_,rfl,I2,rfl,e1.trans e2,.ins bU⟩)
end
noncomputable def lu(c:Nat):List (Nat×(List PV->R PV))->Option (List PV->R PV)
  | []=>none
  | (d,F)::r=>if c=d then some F else lu c r
noncomputable def CZ(fF:List (Nat×(List PV->R PV)))(gv:R (List PV)):PV->R PV
  | .ins c=>(match lu c fF with
    | some F=>gv.bind fun vs=>F (.ins c::vs)
    | none=>.stuck)
  | _=>.stuck
theorem yU(fF:List (Nat×(List PV->R PV)))(gv:R (List PV))(c:Nat):CZ fF gv (.ins c)=match lu c fF with
    | some F=>gv.bind fun vs=>F (.ins c::vs)
    | none=>.stuck:=rfl
theorem KL{fF:List (Nat×(List PV->R PV))}{gv:R (List PV)}(h:CZ fF gv q≠.stuck):∃ c F,q=.ins c/\lu c fF=some F/\CZ fF gv q=gv.bind fun vs=>F (.ins c::vs):=by
  cases q with
  | ins c =>
    cases em:lu c fF with
    | none=>exact absurd (by rw[yU,em]) h
    | some F=>exact⟨c,F,rfl,em,by rw[yU,em]⟩
  | _=>exact absurd rfl h
noncomputable def pP(fF:List (Nat×(List PV->R PV)))(o:FE)(g:FA):FE:=fun ρ=>(o ρ).bind (CZ fF (g ρ))
structure FM(P:Program)(w:World)(K:PySem.W.Frag)(mg:Str->Option Value)(base:Heap)(cl:Nat->Addr)(k:Nat)(m:Str)(n:Nat)(fF:List (Nat×(List PV->R PV))):Prop where
  ex:∀ c F,lu c fF=some F->∃(f:Addr)(fd:FuncData)(ps:List Str),L2.iP K (cl c)/\Meth K (cl c) m f/\ps.length=n+1/\fO P w K mg base (jl cl P w) k f fd ps (mF K cl (n+1) F)/\Binds K fd ps []
section
variable {X:Cx}{cl:Nat->Addr}
theorem IK{e:Expr}{es:List Expr}{apos pos:Pos}{fF:List (Nat×(List PV->R PV))} (hF:FM X.prog X.w X.K X.mg X.base cl k m n fF) (hr:cE k X.A) (RV:X.stack=X.env::X.outer) (inj:∀ c d,cl c=cl d->c=d) (hex:∀ b,b ∉ X.ex)
    (ho:ME X cl o fo) (ha:MA X cl (e::es) g) (hl:(e::es).length=n)
    (fB:autoParam (starEach (e::es) X.env=(false,eval e X.env)::starEach es X.env) f_) (eC:autoParam ((backTo pos (starEach es X.env)).any (·.1)=false) f_)
    (ht:autoParam (eval (.Call (.Attribute o m apos) (e::es) [] pos) X.env=(do
      let ov <- eval o X.env
      standAt apos.atName
      let (f,first) <- holding [ov] (getMethod ov m pl)
      callWith pos f first (backTo pos (starEach (e::es) X.env)) (backToKw pos (keywordEach [] X.env)))) f_) :
    ME X cl (.Call (.Attribute o m apos) (e::es) [] pos) (pP fF fo g):=by
  refine⟨?_⟩;intro pins s σ aK H0 Hf H ρ I r hs;unfold pP at hs ⊢;refine Z1 (pl:=pl) (ho.run I r (Ext.refl r.sub) hs fun q v u s1 aM H1 e1 I1 rv x1 rp=>?_) ht;rw[e1]at hs ⊢;obtain⟨c,F,rfl,em,red⟩:=KL hs;rw[red]at hs ⊢;obtain⟨f,fd,ps,hc,hm,hn,hf,hb⟩:=hF.ex c F em;cases rp with
  | ins hq =>
    rename_i a dx;obtain rfl:u=Value.ref a:=rv;refine m8 I1 (x1.sub _ _ hq) hc hm rfl ?_;refine ZM (first:=[.ref a]) (h₀:=X.base) I.ok.mod.ot hm.kp (ha.run pos I1 (r.keep x1) x1 hs fun qs vs us s2 cX H2 GG e2 I2 uS x2 bA=>⟨I2.eT,?_⟩) fB eC;rw[e2]at hs ⊢;have oK:bc aM cX:=x2.cj
    have RW:cy X.K cl cX (.ref a::vs) (.ins c::qs):=.cons (.ins (oK _ _ hq)) bA;have hv:(V.ref a::vs).length=n+1:=by rw[YS,bA.length,GG,hl]
    have fN:Vals (.ref a::vs) (.ref a::us):=.cons rfl uS;have hG:mF X.K cl (n+1) F (.ref a::vs) H2 (fun v H'=>∃ p az,F (.ins c::qs)=.ok p/\Ext cX H2 az H'/\Rp X.K cl az v p) (fun u o H'=>∃ d az,F (.ins c::qs)=.exc d/\Ext cX H2 az H'/\u=.ref (cl d)) :=
      ⟨hv,cX,.ins c::qs,x2.sub,RW,hs,fun p v az H' a b c=>⟨p,az,a,b,c⟩,fun c az H' a b=>⟨c,az,a,b,rfl⟩⟩
    have mH:(Value.ref a::us ++[]).length=ps.length:=by rw[Ze,<- fN.length,hv,hn]
    have gk:=hb s2 (.ref a::us) I2.eT mH;rw[Ze]at gk;refine aaj (Z3 (hf.run X.A X.stack s2 H2 ⟨.ref a::us,[]⟩ (.ref a::us) (.ref a::vs) _ _ hr I2.qO gk fN hG) fun r s' dU=>?_);cases r with
    | error e=>exact dk.from (e0:=x1.trans x2) (wC (F:=fun _=>F (.ins c::qs)) (ps:=[]) I2 x2.sub RV dU inj hex)
    | ok fl =>
      cases fl with
      | ret u =>
        obtain⟨v,H',I',fN,p,az,e2,ex,rp⟩:=I2.after dU;exact⟨p,v,az,H',e2,I',fN,(x1.trans x2).trans ex,rp⟩
      | next=>exact False.elim dU
      | brk=>exact False.elim dU
      | cont=>exact False.elim dU
end
noncomputable def wM(c d:Nat):Bool:=c == d||d == 20
structure E6(K:PySem.W.Frag)(mg:Str->Option Value)(cl:Nat->Addr)(wn:List (Nat×Str)):Prop where
  cls:∀ c x,(c,x)∈wn->KJ K mg cl c x
  O0:∀ c x d y,(c,x)∈wn->(d,y)∈wn->PySem.W.kitOne K (.ref (cl c)) (.ref (cl d))=some (wM c d)
section
variable {P:Program}{w:World}{K:PySem.W.Frag}{mg:Str->Option Value}{base:Heap}{cl:Nat->Addr}
theorem yV{c:Nat}{x:Str}{p pos:Pos}{wn:List (Nat×Str)}
    (C:E6 K mg cl wn) (hx:(c,x)∈wn) (hg:autoParam (Gl (bG P w K mg base cl N qual scope f cd A outer s H E) x) f_) (eW:autoParam ((x ==("__debug__" : Str))=false) w_) :
    ME (bG P w K mg base cl N qual scope f cd A outer s H E) cl (.Call (.Name x p) [] [] pos) (kJ c):=IJ (C.cls c x hx) hg eW
theorem mm{A:Around}{s:Shared}{fF:List (Nat×(List PV->R PV))}{o e:Expr}{es:List Expr}{apos pos:Pos}
    (h:FM P w K mg base cl k m n fF) (hr:cE k' (A.deeper (envOfC qual scope s.heap.objs.size f cd))) (inj:∀ c d,cl c=cl d->c=d) (ho:ME (bG P w K mg base cl N qual scope f cd A outer s H E) cl o fo) (ha:MA (bG P w K mg base cl N qual scope f cd A outer s H E) cl (e::es) g) (hk:autoParam (k<=k') w_)
    (hl:autoParam ((e::es).length=n) f_)
    (he:autoParam (starEach (e::es) (bG P w K mg base cl N qual scope f cd A outer s H E).env=(false,eval e (bG P w K mg base cl N qual scope f cd A outer s H E).env)::starEach es (bG P w K mg base cl N qual scope f cd A outer s H E).env) f_)
    (eC:autoParam ((backTo pos (starEach es (bG P w K mg base cl N qual scope f cd A outer s H E).env)).any (·.1)=false) f_)
    (ht:autoParam (eval (.Call (.Attribute o m apos) (e::es) [] pos) (bG P w K mg base cl N qual scope f cd A outer s H E).env=(do
      let ov <- eval o (bG P w K mg base cl N qual scope f cd A outer s H E).env
      standAt apos.atName
      let (f',first) <- holding [ov] (getMethod ov m pl)
      callWith pos f' first (backTo pos (starEach (e::es) (bG P w K mg base cl N qual scope f cd A outer s H E).env)) (backToKw pos (keywordEach [] (bG P w K mg base cl N qual scope f cd A outer s H E).env)))) f_) :
    ME (bG P w K mg base cl N qual scope f cd A outer s H E) cl (.Call (.Attribute o m apos) (e::es) [] pos) (pP fF fo g) :=
  IK h (hr.mono hk) rfl inj (fun b z=>absurd (show b∈([]:List Addr) from z) (by simp)) ho ha hl he eC ht
structure MethAt(K:PySem.W.Frag)(cl:Nat->Addr)(c:Nat)(m qual:Str)(st:Stmt)(f:Addr)(fd:FuncData):Prop where
  fn:yJ K m qual st f fd
  at_:Meth K (cl c) m f
structure MG(P:Program)(w:World)(K:PySem.W.Frag)(mg:Str->Option Value)(base:Heap)(cl:Nat->Addr)(k:Nat)(c:Nat)(m:Str)(n:Nat)(F:List PV->R PV):Prop where
  ex:∃(f:Addr)(fd:FuncData)(ps:List Str),L2.iP K (cl c)/\Meth K (cl c) m f/\ps.length=n+1/\fO P w K mg base (jl cl P w) k f fd ps (mF K cl (n+1) F)/\Binds K fd ps []
theorem MethAt.Up{c:Nat}{m qual:Str}{st:Stmt}{f:Addr}{fd:FuncData}{N ps:List Str}{k n:Nat}{b:FS}(D:MethAt K cl c m qual st f fd)(hc:L2.iP K (cl c))(S:fD N ps (aI st))(hn:ps.length=n+1)
    (hb:∀(kV doc pm:Value)(an:Option Addr)(aU ct:Value)(us:List Value),us.length=ps.length->bindArgs (PySem.W.fnOf m qual (cT st) (bF st) (aI st) .none kV doc pm an aU ct) ⟨us,[]⟩=pure (ps.zip us))
    (eG:∀(aU:Value)(A:Around)(outer:List Env)(s:Shared)(H:Hp)(E:XK),cE k (A.deeper (envOfC qual (aI st) s.heap.objs.size f aU)) ->
      jJ (bG P w K mg base cl N qual (aI st) f aU A outer s H E) cl (bF st) b):MG P w K mg base cl (k+1) c m n (aY N.length b) :=
  ⟨⟨f,fd,ps,hc,D.at_,hn,uP D.fn S hn eG,D.fn.binds hb⟩⟩
theorem KN{k n:Nat}:FM P w K mg base cl k m n []:=⟨fun c F h=>by cases h⟩
theorem mL{F:List PV->R PV}{fF:List (Nat×(List PV->R PV))} (h:MG P w K mg base cl j c m n F) (t:FM P w K mg base cl k m n fF) (hk:autoParam (j<=k) w_):FM P w K mg base cl k m n ((c,F)::fF):=by
  refine⟨fun d G e=>?_⟩;unfold lu at e;by_cases z:d=c
  . subst z;rw[Yy rfl]at e;cases e;obtain⟨f,fd,ps,a,b,c,g,i⟩:=h.ex;exact⟨f,fd,ps,a,b,c,g.mono hk,i⟩
  . rw[Yx z]at e;exact t.ex d G e
noncomputable def Bb(K:PySem.W.Frag)(x:Str):Bool :=
  rR K x&&PySem.W.makesIn K (cW K x)&&PySem.W.findIn K (.ref (cW K x)) "__init__" == some (some (.builtin "object.__init__"))&&PySem.W.keepIn K (.ref (cW K x)) &&
  PySem.W.plainGet K (cW K x) Str.empty&&PySem.W.hasDictIn K (cW K x)&&PySem.W.plainOver K (cW K x)&&PySem.W.findIn K (.ref (cW K x)) "__setattr__" == some (some (.builtin "object.__setattr__")) &&
  PySem.W.findIn K (.ref (cW K x)) "__class__" == some (some (.builtin "object.__class__"))&&PySem.W.specialIn K (.builtin "object.__class__") "__get__" == some (some (.builtin "getset_descriptor.__get__")) &&
  PySem.W.takesIn K (.builtin "object.__class__") == some true&&PySem.W.mroIn K (cW K x) (.type "object") == some true
noncomputable def KO(K:PySem.W.Frag)(wn:List (Nat×Str)):Bool:=wn.all fun p=>Bb K p.2&&wn.all fun q=>PySem.W.kitOne K (.ref (cW K p.2)) (.ref (cW K q.2)) == some (wM p.1 q.1)
noncomputable def C0(K:PySem.W.Frag)(all names:List (Nat×Str)):Bool:=A9 (all.map fun p=>cW K p.2)&&names.all fun p=>rT K p&&names.all fun q=>rS K p q
theorem cls_inj2{all names:List (Nat×Str)}(e:C0 K all names=true):∀ c d,iM K all c=iM K all d->c=d:=E0 (GF (Z4.mp e).1)
theorem cls_of2{h:Heap}{all names:List (Nat×Str)}(X:K.In h)(G:h.Ns mainGlobals mg)(hn:(all.map (·.1)).Nodup)(hs:∀ p∈names,p∈all)(e:C0 K all names=true):iP K mg (iM K all) names:=by
  have a:=(Z4.mp e).2;have one:∀ c x,(c,x)∈names->rT K (c,x)=true/\∀ d y,(d,y)∈names->rS K (c,x) (d,y)=true:=fun c x hx=>by
    have:=ZN.mp a (c,x) hx;rw[YH]at this;exact⟨this.1,fun d y hy=>ZN.mp this.2 (d,y) hy⟩
  refine⟨fun c x hx=>?_,fun c x d y hx hy=>?_,fun c x d y hx hy=>?_,fun d y hy=>?_,fun c x hx=>?_⟩
  . obtain⟨o,_⟩:=one c x hx;unfold rT at o;simp only[YH,Y8]at o;exact⟨by rw[eB hn (hs _ hx)];exact Z6 X G (qW o.1.1.1.1),by rw[eB hn (hs _ hx)];exact o.1.1.1.2,by rw[eB hn (hs _ hx)];exact o.1.1.2⟩
  . have o:=(one c x hx).2 d y hy;unfold rS at o;simp only[YH,Y8]at o;rw[eB hn (hs _ hx),eB hn (hs _ hy)];exact o.1
  . have o:=(one c x hx).2 d y hy;unfold rS at o;simp only[YH,Y8]at o;rw[eB hn (hs _ hx),eB hn (hs _ hy)];exact o.2
  . obtain⟨o,_⟩:=one d y hy;unfold rT at o;simp only[YH,Y8]at o;rw[eB hn (hs _ hy)];exact o.2
  . obtain⟨o,_⟩:=one c x hx;unfold rT at o;simp only[YH,Y8]at o;rw[eB hn (hs _ hx)];exact o.1.2
theorem ways_of{h:Heap}{all wn:List (Nat×Str)}(X:K.In h)(G:h.Ns mainGlobals mg)(hn:(all.map (·.1)).Nodup)(hs:∀ p∈wn,p∈all)(e:KO K wn=true):E6 K mg (iM K all) wn:=by
  have one:∀ c x,(c,x)∈wn->Bb K x=true/\∀ d y,(d,y)∈wn->PySem.W.kitOne K (.ref (cW K x)) (.ref (cW K y))=some (wM c d):=fun c x hx=>by
    have:=ZN.mp e (c,x) hx;rw[YH]at this;exact⟨this.1,fun d y hy=>Y8.mp (ZN.mp this.2 (d,y) hy)⟩
  refine⟨fun c x hx=>?_,fun c x d y hx hy=>?_⟩
  . obtain⟨o,_⟩:=one c x hx;have ec:=eB (K:=K) hn (hs _ hx)
    unfold Bb at o;simp only[YH,Y8]at o;obtain⟨⟨⟨⟨⟨⟨⟨⟨⟨⟨⟨o1,o2⟩,o3⟩,o4⟩,o5⟩,o6⟩,o7⟩,o8⟩,o9⟩,Uq⟩,Ur⟩,Us⟩:=o;exact⟨by rw[ec];exact Z6 X G (qW o1),by rw[ec];exact o2,by rw[ec];exact o3,by rw[ec];exact o4,by rw[ec];exact⟨o5,o6,o7,o8⟩,by rw[ec];exact o9,Uq,Ur,by rw[ec];exact Us⟩
  . rw[eB hn (hs _ hx),eB hn (hs _ hy)];exact(one c x hx).2 d y hy
theorem yW{C:Addr} (a:PySem.W.nsIn K mainGlobals x=some (some (.ref C))):cW K x=C:=by unfold cW;rw[a]
theorem meth_mk{all:List (Nat×Str)}{c:Nat}{x m qual:Str}{st:Stmt}{C f:Addr}{oc:Value}{od an:Option Addr}{fM:Array (Option Value)}{kV doc pm aU ct:Value}(hn:(all.map (·.1)).Nodup)(hx:(c,x)∈all)(a:PySem.W.nsIn K mainGlobals x=some (some (.ref C)))
    (b:PySem.W.findIn K (.ref C) m=some (some (.ref f))) (i:PySem.W.isFn K (.ref f)=true) (l:K.lookup f=some ⟨oc,od,.func (PySem.W.fnOf m qual (cT st) (bF st) (aI st) .none kV doc pm an aU ct),fM⟩) (d:PySem.W.codeIn K aU qual=true) (k:PySem.W.keepIn K (.ref f)=true) :
    ∃ f fd,MethAt K (iM K all) c m qual st f fd:=⟨f,_,Cg l d k,by rw[eB hn hx,yW a];exact⟨b,i,k⟩⟩
end
noncomputable def cA:Nat->aJ->aJ
  | 0,_=>[]
  | n+1,[]=>none::cA n []
  | n+1,o::r=>o::cA n r
noncomputable def gf(n:Nat)(t:FT)(f:FE)(ρ:aJ):List PV->R (List PV)
  | []=>.ok []
  | p::r=>match t (cA n ρ ++[some p])with
    | .ok true=>(match f (cA n ρ ++[some p])with
      | .ok v=>(match gf n t f ρ r with
        | .ok vs=>.ok (v::vs)
        | _=>.stuck)
      | _=>.stuck)
    | .ok false=>gf n t f ρ r
    | _=>.stuck
noncomputable def d8:FT:=fun _=>.ok true
noncomputable def j4(n:Nat)(t:FT)(f:FE)(ρ:aJ)(l:List PV):R PV:=if l.length<=1000000 then (match gf n t f ρ l with
  | .ok vs=>.ok (.lst vs)
  | _=>.stuck) else .stuck
noncomputable def hU(n:Nat)(it:FA)(t:FT)(f:FE):FE:=fun ρ=>(it ρ).bind (j4 n t f ρ)
theorem kh:∀(n:Nat)(ρ:aJ),(cA n ρ).length=n
  | 0,_=>rfl
  | n+1,[]=>Z9 (·+1) (kh n [])
  | n+1,_::r=>Z9 (·+1) (kh n r)
theorem oU:∀{n:Nat}{ρ:aJ}{i:Nat}{p:PV},(cA n ρ)[i]?=some (some p)->ρ[i]?=some (some p)
  | 0,_,_,_,h=>by simp[cA]at h
  | n+1,[],0,_,h=>by simp[cA]at h
  | n+1,[],i+1,p,h=>by
    have:(cA n [])[i]?=some (some p):=by simpa [cA]using h
    have:=oU this;simp at this
  | n+1,o::r,0,p,h=>by simpa [cA]using h
  | n+1,o::r,i+1,p,h=>by
    have:(cA n r)[i]?=some (some p):=by simpa [cA]using h
    simpa using oU this
theorem Rep.snoc{K:PySem.W.Frag}{cl:Nat->Addr}{aK H0 Hf H:Hp}{σ:SV}{ρ:aJ}(r:Rep K cl aK H0 Hf H σ ρ){v:V}{p:PV}(hr:Rp K cl Hf v p):Rep K cl aK H0 Hf H (σ ++[some v]) (cA σ.length ρ ++[some p]):=by
  have np:∀ l,p≠.own l:=fun l z=>by subst z;cases hr
  have at_:∀{i:Nat}{q:PV},(cA σ.length ρ ++[some p])[i]?=some (some q)->(i<σ.length/\ρ[i]?=some (some q))\/(i=σ.length/\q=p):=fun{i q} h=>by
    by_cases hi:i<σ.length
    . rw[YQ (by rw[kh];exact hi)]at h;exact .inl ⟨hi,oU h⟩
    . rw[Y6 (by rw[kh];omega),kh]at h;by_cases z:i=σ.length
      . subst z;simp at h;exact .inr ⟨rfl,h.symm⟩
      . rw[aa7 (by simp;omega)]at h;cases h
  refine⟨r.ext,fun i q h=>?_,fun i j ps qs a h1 h2 h3 h4=>?_⟩
  . rcases at_ h with⟨hi,h'⟩ | ⟨rfl,rfl⟩
    . obtain⟨w,h1,h2⟩:=r.slot i q h';exact⟨w,by rw[YQ hi];exact h1,h2⟩
    . refine⟨v,by simp,?_⟩;cases q with
      | own l=>exact absurd rfl (np l)
      | _=>exact hr
  . rcases at_ h1 with⟨hi,wG⟩ | ⟨rfl,e⟩
    . rcases at_ h2 with⟨hj,Ut⟩ | ⟨rfl,e⟩
      . rw[YQ hi]at h3;rw[YQ hj]at h4;exact r.dist i j ps qs a wG Ut h3 h4
      . exact absurd e.symm (np qs)
    . exact absurd e.symm (np ps)
noncomputable def ip(X:Cx)(Ns:List Str)(x:Str)(sc:Scope)(cs:List (Str×Addr))(C:Addr)(s:Shared)(H:Hp)(fp:List Addr):Cx :=
  { X with N:=Ns ++[x],s₀:=s,H₀:=H,env:=compEnvC sc cs C X.env,outer:=X.stack,stack:=X.stack,ex:=fp,fn:=fun _=>false,pn:=[],xe:=fun _ _=>False }
structure wN(X:Cx)(Ns:List Str)(x:Str)(sc:Scope)(cs:List (Str×Addr)):Prop where
  RX:closureFor sc X.env=pure cs
  kind:sc.kind=.function
  KP:∀ y∈sc.names,y.2≠.cell
  names:∀ y∈sc.names,y.2=.local->sc.names.lookup y.1=some .local
  here:sc.names.lookup x=some .local
  sub:∀ y c,cs.lookup y=some c->X.env.cells.lookup y=some c
  has:∀ y,((relabel sc X.env).names.lookup y=some .cell\/(relabel sc X.env).names.lookup y=some .free)->∃ c,cs.lookup y=some c
  Uu:∀ y∈Ns,ou (relabel sc X.env) y->((relabel sc X.env).names.lookup y=some .cell\/(relabel sc X.env).names.lookup y=some .free)/\(X.env.kindOf y=some .cell\/X.env.kindOf y=some .free)
  new:x ∉ Ns
  len:Ns.length=X.N.length
  same:∀(i:Nat)(y:Str),Ns[i]?=some y->ou (relabel sc X.env) y->X.N[i]?=some y
section
variable {X:Cx}{cl:Nat->Addr}{pins:List (Addr×Obj)}{σ:SV}{H:Hp}{s:Shared}{Ns:List Str}{x:Str}{sc:Scope}{cs:List (Str×Addr)}{fp:List Addr}
theorem KQ(I:Inv X pins σ H s)(c:wN X Ns x sc cs)(hf:∀ b∈fp,iH X pins H b)(hl:∀ b∈fp,b<s.heap.objs.size):(ip X Ns x sc cs s.heap.objs.size s H fp).Ok where
  mod:=I.ok.mod
  kind:=c.kind
  glob:=I.ok.glob
  blt:=I.ok.blt
  above:=YD _
  inj:=fun y z d e1 e2=>I.ok.inj y z d (c.sub y d e1) (c.sub z d e2)
  has:=fun y h=>c.has y h
  um:=fun y d h=>by cases h
  hd:=I.ok.hd
  frames:=I.ok.frames
  rn:=.inl rfl
  Gk:=fun b hb=>⟨Zx (hl b hb),fun y d e=>(hf b hb).2.2.2.2.1 y d (c.sub y d e)⟩
  bs:=I.bs
  mx:=YU I.ok.mx I.sz
  qJ:=fun b o e hb=>by
    rcases(hf b hb).2.2.2.1 with z | z
    . exact I.ok.qJ b o e z
    . exact absurd (YY (YO e) (YU I.ok.mx z)) (ZI _)
  tI:=fun b hb z=>by
    rcases Zm.mp (I.rz b z)with e | e
    . exact(hf b hb).2.1 e
    . exact(hf b hb).2.2.1 e
  iG:=I.stack
  pZ:=I.pJ
theorem IL{h1:Heap}{tk:Nat}(I:Inv X pins σ H s)(c:wN X Ns x sc cs)(hf:∀ b∈fp,iH X pins H b)(hl:∀ b∈fp,b<s.heap.objs.size)(hn:h1.Ns s.heap.objs.size (fun _=>none))(k:∀ b o,s.heap.get? b=some o->h1.get? b=some o) :
    Inv (ip X Ns x sc cs s.heap.objs.size s H fp) [] (σ ++[none]) H { s with heap:=h1,toks:=tk } where
  ok:=KQ I c hf hl
  os:=rfl
  bare:=I.bare
  base:=Un.kept k
  loc:=by
    refine⟨_,hn,fun i y v e1 e2 e3=>?_⟩;obtain⟨m,_,lk⟩:=I.loc;have hi:i<σ.length:=by
      by_cases z:i<σ.length
      . exact z
      . rw[Y6 (by omega)]at e2;by_cases z2:i=σ.length
        . subst z2;simp at e2
        . rw[aa7 (by simp;omega)]at e2;cases e2
    rw[YQ hi]at e2;have KR:Ns[i]?=some y:=by
      have:(Ns ++[x])[i]?=some y:=e1;rw[YQ (by rw[c.len,<- I.len];exact hi)]at this;exact this
    have iU:=c.same i y KR e3;obtain⟨k1,k2⟩:=c.Uu y (aai KR) e3;have v':ou X.env.scope y:=.inr k2
    obtain⟨u,ru,l⟩:=lk i y v iU e2 v';refine⟨u,ru,.inr ⟨k1,?_⟩⟩;rcases l with⟨kl,_⟩ | ⟨_,d,ed,z⟩
    . rcases k2 with k2 | k2<;>(rw[k2]at kl;cases kl)
    . obtain⟨d',O3⟩:=c.has y k1;have:=c.sub y d' O3
      rw[ed]at this;cases this;obtain⟨o,ho,hd⟩:=z;exact⟨d,O3,o,k _ _ ho,hd⟩
  cell:=fun y d e=>by
    obtain⟨v,o,ho,hd⟩:=I.cell y d (c.sub y d e);exact⟨v,o,k _ _ ho,hd⟩
  free:=I.bQ.fresh (YD _)
  gG:=fun y d e=>I.gG y d (c.sub y d e)
  pin:=fun p hp=>by cases hp
  bQ:=I.bQ.kept k
  len:=by show(σ ++[none]).length=(Ns ++[x]).length;rw[Zt,Zt,I.len,c.len];rfl
theorem KU(c:wN X Ns x sc cs)(I:Inv X pins σ H s){H':Hp}{C:Addr}(hC:∀ b∈fp,b≠C)(hf:∀ b∈fp,iH X pins H b)(hn:∀ b∈fp,H' b=none):∀ b∈fp,iH (ip X Ns x sc cs C s0 H0 fp) [] H' b:=fun b hb =>
  ⟨hn b hb,hC b hb,fun z=>(Zm.mp (I.rz b z)).elim (hf b hb).2.1 (hf b hb).2.2.1,.inl hb,fun y d e=>(hf b hb).2.2.2.2.1 y d (c.sub y d e),fun p hp=>by cases hp⟩
end
inductive MC (X:Cx) (cl:Nat->Addr):List Expr->FT->Prop where
  | nil:MC X cl [] d8
  | one {c:Expr}{t:FT} (h:MT X cl c t):MC X cl [c] t
section
variable {X:Cx}{cl:Nat->Addr}
theorem wO(h:MC X cl ifs t){b:Bool}(I:Inv X pins σ H s)(r:Rep X.K cl aK H0 Hf H σ ρ)(e:t ρ=.ok b){Q:Bool->Shared->Prop}
    (ok:∀ s' az H',Inv X pins σ H' s'->Ext Hf H az H'->Q b s') :
    wpAny (model X.prog X.w) X.A (forIn ifs true fun c r=>if r=true then do let ok <- isTrue c X.env (eval c X.env);pure (ForInStep.yield ok) else pure (ForInStep.yield r)) Q (fun _ _=>False) s:=by
  cases h with
  | nil =>
    cases e;exact wpAny_tests_nil (ok s Hf H I (Ext.refl r.sub))
  | one h =>
    refine wpAny_tests_one (YA (h pins s σ aK H0 Hf H ρ I r (by rw[e];intro z;cases z)) (fun b' s' q=>?_) fun u s' q=>?_)
    . obtain⟨az,H',e1,I',x⟩:=q;rw[e]at e1;cases e1;exact ok s' az H' I' x
    . obtain⟨c,e1,_⟩:=q;rw[e]at e1;cases e1
theorem Ext.freeze(x:Ext Hf H aM H1){l:Addr}{o:HO}(h1:H1 l=some o)(h2:aM l=none)(h3:H l=none):Ext Hf H (upd aM l o) H1:=by
  refine⟨x.all,fun b u q=>?_,fun b u q=>?_,fun b n=>?_⟩
  . have:=x.cj b u q;by_cases e:b=l
    . subst e;rw[h2]at this;cases this
    . rw[bJ e];exact this
  . by_cases e:b=l
    . subst e;rw[bU]at q;cases q;exact h1
    . rw[bJ e]at q;exact x.sub b u q
  . have e:b≠l:=fun z=>n (by rw[z];exact h3);rw[bJ e];exact x.old b n
theorem oV{s:Shared} (I:Inv X pins σ H s) (hf:iH X pins H C) (hs:Heap.SameBut C s.heap h'):Inv X pins σ H { s with heap:=h' } :=
  I.turned (t':=s.toks) (fun b o hb e=>(hs.2 b hb).trans e) hf.1 hf.2.1 hf.2.2.2.1 hf.2.2.2.2.1 hf.2.2.2.2.2
end
noncomputable def nC(sc:Scope)(env:Env):List (Str×Addr):=sc.names.foldl (fun cs y=>if y.2 == .free then (y.1,(env.cells.lookup y.1).getD 0)::cs else cs) []
theorem IM{sc:Scope}{env:Env}(h:∀ y∈sc.names,y.2=.free->∃ c,env.cells.lookup y.1=some c):closureFor sc env=pure (nC sc env):=by
  unfold closureFor nC;generalize sc.names=l at h;have go:∀(l:List (Str×NameKind))(cs:List (Str×Addr)),(∀ y∈l,y.2=.free->∃ c,env.cells.lookup y.1=some c) ->
      (forIn l cs (fun(x:Str×NameKind) (r:List (Str×Addr))=>match x with
        | (name,kind)=>if (kind == NameKind.free)=true then do
            let a <- cellOf env name
            pure (ForInStep.yield ((name,a)::r)) else pure (ForInStep.yield r)):Sem (List (Str×Addr)))=pure (l.foldl (fun cs y=>if y.2 == .free then (y.1,(env.cells.lookup y.1).getD 0)::cs else cs) cs):=by
    intro l
    induction l with
    | nil=>intro cs _;rfl
    | cons y r ih =>
      intro cs hl;obtain⟨n,k⟩:=y;rw[List.forIn_cons,aca];by_cases hk:(k == NameKind.free)=true
      . obtain⟨d,hd⟩:=hl (n,k) YW (by simpa using hk);have e:cellOf env n=pure d:=by
          have nU:env.cells.lookup n=some d:=hd;unfold cellOf;rw[nU]
        have nU:env.cells.lookup n=some d:=hd;dsimp only;rw[Yy hk,Yy hk,e,nU];exact ih _ fun z hz=>hl z (YM _ hz)
      . dsimp only;rw[Yx hk,Yx hk];exact ih _ fun z hz=>hl z (YM _ hz)
  exact(Z9 (fun(m:Sem (List (Str×Addr)))=>m >>= fun cs=>pure cs) (go l [] h)).trans rfl
theorem yX{env:Env}:∀(l:List (Str×NameKind))(cs:List (Str×Addr))(y:Str)(c:Addr),(∀ z∈l,z.2=.free->∃ c,env.cells.lookup z.1=some c) ->
    (l.foldl (fun cs y=>if y.2 == .free then (y.1,(env.cells.lookup y.1).getD 0)::cs else cs) cs).lookup y=some c->cs.lookup y=some c\/env.cells.lookup y=some c
  | [],_,_,_,_,h=>.inl h
  | (n,k)::r,cs,y,c,hl,h=>by
    rw[aca]at h;rcases yX r _ y c (fun z hz=>hl z (YM _ hz)) h with q | q
    . by_cases hk:(k == NameKind.free)=true
      . rw[Yy hk]at q;obtain⟨d,hd⟩:=hl (n,k) YW (by simpa using hk);have nU:env.cells.lookup n=some d:=hd
        rw[nU,Zy]at q;by_cases e:y == n
        . rw[e]at q;have e':=Y8.mp e
          subst e';exact .inr (by rw[nU];exact q)
        . have e2:(y == n)=false:=by simpa using e
          rw[e2]at q;exact .inl q
      . rw[Yx hk]at q;exact .inl q
    . exact .inr q
theorem wQ{env:Env}:∀(l:List (Str×NameKind))(cs:List (Str×Addr))(y:Str),((∃ c,cs.lookup y=some c)\/(y,NameKind.free)∈l) ->
    ∃ c,(l.foldl (fun cs y=>if y.2 == .free then (y.1,(env.cells.lookup y.1).getD 0)::cs else cs) cs).lookup y=some c
  | [],cs,y,h=>by
    rcases h with h | h
    . exact h
    . cases h
  | (n,k)::r,cs,y,h=>by
    rw[aca];refine wQ r _ y ?_;rcases h with⟨c,h⟩ | h
    . left;by_cases hk:(k == NameKind.free)=true
      . rw[Yy hk,Zy];by_cases e:(y == n)=true
        . rw[e];exact⟨_,rfl⟩
        . have e2:(y == n)=false:=by simpa using e
          rw[e2];exact⟨c,h⟩
      . rw[Yx hk];exact⟨c,h⟩
    . rcases Zm.mp h with e | e
      . left;have e1:y=n:=Z9 Prod.fst e
        have e2:NameKind.free=k:=Z9 Prod.snd e;subst e1 e2;rw[Yy (by rfl),Zy];have:(y == y)=true:=aa3 y
        rw[this];exact⟨_,rfl⟩
      . exact .inr e
noncomputable def qX(N:List Str)(x:Str)(sc es:Scope):Bool :=
  sc.kind == .function&&es.kind == .function&&(sc.names.all fun y=>y.2 != .cell)&&(sc.names.all fun y=>y.2 != .local||sc.names.lookup y.1 == some .local)&&(sc.names.lookup x == some .local) &&
  (sc.names.all fun y=>y.2 != .free||es.names.lookup y.1 == some .cell||es.names.lookup y.1 == some .free)&&(N.all fun y=>sc.names.lookup y != some .local) && !N.contains x
theorem j5{α:Type}:∀{l:List (Str×α)}{y:Str}{k:α},l.lookup y=some k->(y,k)∈l
  | [],_,_,h=>by cases h
  | (n,j)::r,y,k,h=>by
    rw[Zy]at h;by_cases e:(y == n)=true
    . rw[e]at h;cases h;rw[Y8.mp e];exact YW
    . have e2:(y == n)=false:=by simpa using e
      rw[e2]at h;exact YM _ (j5 h)
theorem nD(cond:Str->NameKind->Bool)(Bc:∀ n k,cond n k=true->k=.free):∀{l:List (Str×NameKind)}{y:Str}{k:NameKind},
    (l.map fun z=>if cond z.1 z.2 then (z.1,NameKind.cell) else (z.1,z.2)).lookup y=some k->(l.lookup y=some k)\/(k=.cell/\l.lookup y=some .free)
  | [],_,_,h=>by cases h
  | (n,j)::r,y,k,h=>by
    rw[Zn]at h;dsimp only at h;by_cases hc:cond n j=true
    . rw[Yy hc,Zy]at h;rw[Zy];by_cases e:(y == n)=true
      . rw[e]at h ⊢;cases h;right;exact⟨rfl,by rw[Bc n j hc]⟩
      . have e2:(y == n)=false:=by simpa using e
        rw[e2]at h ⊢;exact nD cond Bc h
    . rw[Yx hc,Zy]at h;rw[Zy];by_cases e:(y == n)=true
      . rw[e]at h ⊢;exact .inl h
      . have e2:(y == n)=false:=by simpa using e
        rw[e2]at h ⊢;exact nD cond Bc h
theorem lx{sc:Scope}{y:Str}{k:NameKind}(h:(relabel sc env).names.lookup y=some k):(sc.names.lookup y=some k)\/(k=.cell/\sc.names.lookup y=some .free) :=
  nD (fun n k=>k == NameKind.free&&env.scope.kind == .function&&env.kindOf n == some .cell) (fun n k h=>Y8.mp (Z4.mp (Z4.mp h).1).1) h
theorem wR{X:Cx}{Ns:List Str}(h:qX Ns x sc X.env.scope=true)(hl:Ns.length=X.N.length)(Uv:∀ (i:Nat) (y:Str),Ns[i]?=some y->ou (relabel sc X.env) y->X.N[i]?=some y)(ok:X.Ok):wN X Ns x sc (nC sc X.env):=by
  unfold qX at h;simp only[YH,Y8,ZN,acb,bne_iff_ne,ne_eq,abP]at h;obtain⟨⟨⟨⟨⟨⟨⟨h1,h2⟩,h3⟩,h4⟩,h5⟩,h6⟩,h7⟩,h8⟩:=h;have free:∀ y∈sc.names,y.2=.free->(X.env.kindOf y.1=some .cell\/X.env.kindOf y.1=some .free):=fun y hy e=>by
    rcases h6 y hy with(z | z) | z
    . exact absurd e z
    . exact .inl z
    . exact .inr z
  have cells:∀ y∈sc.names,y.2=.free->∃ c,X.env.cells.lookup y.1=some c:=fun y hy e=>ok.has y.1 (free y hy e);have kinds:∀ y,((relabel sc X.env).names.lookup y=some .cell\/(relabel sc X.env).names.lookup y=some .free)->(y,NameKind.free)∈sc.names:=fun y hy=>by
    rcases hy with hy | hy
    . rcases lx hy with z | ⟨_,z⟩
      . exact absurd rfl (h3 (y,.cell) (j5 z))
      . exact j5 z
    . rcases lx hy with z | ⟨z,_⟩
      . exact j5 z
      . cases z
  refine⟨IM cells,h1,fun y hy=>h3 y hy,fun y hy e=>?_,h5,fun y c e=>?_,fun y hy=>wQ _ _ y (.inr (kinds y hy)),fun y hy v=>?_,fun z=>?_,hl,Uv⟩
  . rcases h4 y hy with z | z
    . exact absurd e z
    . exact z
  . rcases yX _ _ y c cells e with q | q
    . cases q
    . exact q
  . rcases v with v | v
    . exfalso;rcases lx v with z | ⟨z,_⟩
      . exact h7 y hy z
      . cases z
    . exact⟨v,free _ (kinds y v) rfl⟩
  . rw[aay.mpr z]at h8;cases h8
noncomputable def rV(F:List PV->R PV):List PV->R PV:=fun vs=>match F vs with
  | .ok v=>.ok v
  | _=>.stuck
section
variable {X:Cx}{cl:Nat->Addr}
theorem Uw{e:Expr}{es:List Expr}{p pos:Pos}{F:List PV->R PV}(hF:FG X.prog X.w X.K X.mg X.base cl k x n F)(hr:cE k' X.A)(ha:MA X cl (e::es) g)(hk:autoParam (k<=k') w_)(hl:autoParam ((e::es).length=n) f_)(hg:autoParam (Gl X x) f_)
    (eW:autoParam ((x ==("__debug__" : Str))=false) w_) (he:autoParam (starEach (e::es) X.env=(false,eval e X.env)::starEach es X.env) f_) (eC:autoParam ((backTo pos (starEach es X.env)).any (·.1)=false) f_) :
    ME X cl (.Call (.Name x p) (e::es) [] pos) (au (rV F) g):=by
  obtain⟨f,fd,ps,hm,KW,hn,hf,hb⟩:=hF.ex;refine⟨?_⟩;intro pins s σ aK H0 Hf H ρ I r hs;unfold au at hs ⊢;refine Zq (gj I hg hm ?_ eW);refine ZM (h₀:=X.base) I.ok.mod.ot KW (ha.run pos I r (Ext.refl r.sub) hs fun qs vs us s1 aM H1 hq e1 I1 rv x1 bA=>⟨I1.eT,?_⟩) he eC;rw[e1]at hs ⊢;obtain⟨v0,GH⟩:∃ v,F qs=.ok v:=by
    unfold rV at hs;cases ef:F qs with
    | ok v=>exact⟨v,rfl⟩
    | exc c=>rw[ef]at hs;exact absurd rfl hs
    | stuck=>rw[ef]at hs;exact absurd rfl hs
  have en:rV F qs=.ok v0:=by unfold rV;rw[GH]
  rw[en];have hv:vs.length=n:=by rw[bA.length,hq,hl]
  have hG:mF X.K cl n F vs H1 (fun v H'=>∃ p az,F qs=.ok p/\Ext aM H1 az H'/\Rp X.K cl az v p) (fun u o H'=>False) :=
    ⟨hv,aM,qs,x1.sub,bA,(by rw[GH];intro z;cases z),fun p v az H' a b c=>⟨p,az,a,b,c⟩,fun c az H' a b=>(by rw[GH]at a;cases a)⟩
  have mH:(us ++[]).length=ps.length:=by rw[Ze,<- rv.length,hv,hn]
  have gk:=hb s1 us I1.eT mH;rw[Ze]at gk;refine aaj (Z3 (hf.run X.A X.stack s1 H1 ⟨us,[]⟩ us vs _ _ (hr.mono hk) I1.qO gk rv hG) fun r s' dU=>?_);cases r with
  | error e =>
    obtain⟨a,c,H',B,a0,_,_,_,_,_,_,_,_,z⟩:=dU;exact z.elim
  | ok fl =>
    cases fl with
    | ret u =>
      obtain⟨v,H',I',fN,p,az,e2,ex,rp⟩:=I1.after dU;rw[GH]at e2;cases e2;exact⟨v0,v,az,H',rfl,I',fN,x1.trans ex,rp⟩
    | next=>exact False.elim dU
    | brk=>exact False.elim dU
    | cont=>exact False.elim dU
end
def wU(m:Str)(id:String):Prop:=∀{M:Model}{A:Around}{E:Value->Shared->Prop}{s:Shared}{x:Str}{t:Tok}{pl:Sem Bool}{Q:Value×List Value->Shared->Prop},
  Q (Value.builtin id,[Value.str x t]) s->wpAny M A (getMethod (Value.str x t) m pl) Q E s
noncomputable def tY(F:List PV->R PV)(gv:R (List PV)):PV->R PV
  | .str z=>gv.bind fun vs=>F (.str z::vs)
  | _=>.stuck
theorem yY{F:List PV->R PV}(h:tY F gv q≠.stuck):∃ z,q=.str z:=by
  cases q with
  | str z=>exact⟨z,rfl⟩
  | _=>exact absurd rfl h
noncomputable def jx(F:List PV->R PV)(o:FE)(g:FA):FE:=fun ρ=>(o ρ).bind (tY F (g ρ))
section
variable {X:Cx}{cl:Nat->Addr}{pins:List (Addr×Obj)}{s:Shared}{σ:SV}{aK H0 Hf H aM H1:Hp}{ρ:aJ}{α:Type}
theorem pQ{o:Expr}{fo:FE}{e:Expr}{es:List Expr}{g:FA}{m:Str}{id:String}{F:List PV->R PV}{apos pos:Pos}{pl:Sem Bool}(hg:wU m id)(hc:iL X cl (.builtin id) F)
    (ho:ME X cl o fo) (ha:MA X cl (e::es) g)
    (fB:autoParam (starEach (e::es) X.env=(false,eval e X.env)::starEach es X.env) f_) (eC:autoParam ((backTo pos (starEach (e::es) X.env)).any (·.1)=false) f_)
    (ht:autoParam (eval (.Call (.Attribute o m apos) (e::es) [] pos) X.env=(do
      let ov <- eval o X.env
      standAt apos.atName
      let (f,first) <- holding [ov] (getMethod ov m pl)
      callWith pos f first (backTo pos (starEach (e::es) X.env)) (backToKw pos (keywordEach [] X.env)))) f_) :
    ME X cl (.Call (.Attribute o m apos) (e::es) [] pos) (jx F fo g):=by
  refine⟨?_⟩;intro pins s σ aK H0 Hf H ρ I r hs;unfold jx at hs ⊢;refine Z1 (pl:=pl) (ho.run I r (Ext.refl r.sub) hs fun q v u s1 aM H1 e1 I1 rv x1 rp=>?_) ht;rw[e1]at hs ⊢;obtain⟨z,rfl⟩:=yY hs;cases rp;obtain⟨t,rfl⟩:=rv;refine hg ?_;refine aaZ eC ?_;have cZ:(g ρ).bind (fun vs=>F (.str z::vs))≠.stuck:=hs
  show wpAny _ _ _ _ (dk X cl pins σ Hf H ((g ρ).bind fun vs=>F (.str z::vs))) s1;have run:=ha.run (Q:=fun us s2=>wpAny (model X.prog X.w) X.A (call (Value.builtin id) ([Value.str z t]++us)) (gb X cl pins σ Hf H ((g ρ).bind fun vs=>F (.str z::vs))) (dk X cl pins σ Hf H ((g ρ).bind fun vs=>F (.str z::vs))) s2) pos I1 (r.keep x1) x1 cZ fun qs vs us s2 cX H2 GG e2 I2 uS x2 bA=>?_
  . rw[fB]at run ⊢;exact Calls.evalArgs_plain run
  . rw[e2]at cZ ⊢;have oK:=x1.trans x2
    exact YA (hc pins s2 σ cX H2 (.str z::vs) (.str z t::us) (.str z::qs) I2 x2.sub (.cons ⟨t,rfl⟩ uS) (.cons (.str z) bA) cZ) (fun _ _ q=>q.from (e0:=oK)) fun _ _ q=>q.from (e0:=oK)
theorem E7{o:Expr}{fo:FE}{m:Str}{id:String}{F:List PV->R PV}{apos pos:Pos}{pl:Sem Bool}(hg:wU m id)(hc:iL X cl (.builtin id) F)
    (ho:ME X cl o fo)
    (ht:autoParam (eval (.Call (.Attribute o m apos) [] [] pos) X.env=(do
      let ov <- eval o X.env
      standAt apos.atName
      let (f,first) <- holding [ov] (getMethod ov m pl)
      callWith pos f first (backTo pos (starEach [] X.env)) (backToKw pos (keywordEach [] X.env)))) f_) :
    ME X cl (.Call (.Attribute o m apos) [] [] pos) (jx F fo aq):=by
  refine⟨?_⟩;intro pins s σ aK H0 Hf H ρ I r hs;unfold jx at hs ⊢;refine Z1 (pl:=pl) (ho.run I r (Ext.refl r.sub) hs fun q v u s1 aM H1 e1 I1 rv x1 rp=>?_) ht;rw[e1]at hs ⊢;obtain⟨z,rfl⟩:=yY hs;cases rp;obtain⟨t,rfl⟩:=rv;refine hg ?_;refine aaZ rfl (adi ?_);have cZ:F [.str z]≠.stuck:=hs
  show wpAny _ _ (call (Value.builtin id) [Value.str z t]) (gb X cl pins σ Hf H (F [.str z])) (dk X cl pins σ Hf H (F [.str z])) s1;exact YA (hc pins s1 σ aM H1 [.str z] [.str z t] [.str z] I1 x1.sub (.cons ⟨t,rfl⟩ .nil) (.cons (.str z) .nil) cZ) (fun _ _ q=>q.from (e0:=x1)) fun _ _ q=>q.from (e0:=x1)
noncomputable def mM:List PV->R PV
  | [.str z]=>if (Txt.upper z).length<=sizeLine then .ok (.str (Txt.upper z)) else .stuck
  | _=>.stuck
theorem E8{n:Nat}(h:n<=sizeLine):Builtin.Str.tooLong n=false:=by
  unfold Builtin.Str.tooLong;simpa using h
theorem IP:iL X cl (.builtin "str.upper") mM:=by
  intro pins s σ Hf H xs us ps I sm rv bA hs;have:∃ z,ps=[.str z]/\(Txt.upper z).length<=sizeLine/\mM ps=.ok (.str (Txt.upper z)):=by
    unfold mM at hs ⊢;split at hs
    . obtain⟨h1,h2⟩:=eo hs;exact⟨_,rfl,h1,h2⟩
    . exact absurd rfl hs
  obtain⟨z,rfl,h1,h2⟩:=this;rw[h2];obtain⟨v,rfl,rp⟩:=gL bA;cases rp;obtain⟨u,rfl,ru⟩:=rv.one;obtain⟨t,rfl⟩:=ru;exact SC.upper (E8 h1) ⟨_,.str _,Hf,H,rfl,I.tok _,⟨_,rfl⟩,Ext.refl sm,.str _⟩
theorem E9:wU "upper" "str.upper":=GM.upper
end
noncomputable def gU:List PV->Option (List Bool)
  | []=>some []
  | .bl b::r=>(gU r).map (b::·)
  | _=>none
noncomputable def jy:List PV->R PV
  | [.lst l]=>(match gU l with
    | some bs=>.ok (.bl (bs.all id))
    | none=>.stuck)
  | _=>.stuck
noncomputable def oW:List PV->R PV
  | [.lst l]=>(match gU l with
    | some bs=>.ok (.bl (bs.any id))
    | none=>.stuck)
  | _=>.stuck
section
variable {X:Cx}{cl:Nat->Addr}{pins:List (Addr×Obj)}{s:Shared}{σ:SV}{aK H0 Hf H aM H1:Hp}{ρ:aJ}{α:Type}
inductive km:List Value->List Bool->Prop
  | nil:km [] []
  | cons (b:Bool) {vs:List Value}{bs:List Bool}:km vs bs->km (.bool b::vs) (b::bs)
theorem km.get:∀{vs:List Value}{bs:List Bool},km vs bs->∀(i:Nat)(v:Value),vs[i]?=some v->∃ b,bs[i]?=some b/\v=.bool b:=by
  intro vs bs h
  induction h with
  | nil=>intro i v e;simp at e
  | cons b _ ih =>
    intro i v e;cases i with
    | zero=>simp at e;subst e;exact⟨b,rfl,rfl⟩
    | succ i=>simpa using ih i v (by simpa using e)
theorem km.len:∀{vs:List Value}{bs:List Bool},km vs bs->vs.length=bs.length:=by
  intro vs bs h
  induction h with
  | nil=>rfl
  | cons b _ ih=>simp[ih]
theorem nF:∀{l:List PV}{bs:List Bool}{vs:List V}{us:List Value},gU l=some bs->cy X.K cl Hf vs l->Vals vs us->km us bs
  | [],bs,vs,us,h,r,w=>by
    cases r;cases w;cases h;exact .nil
  | p::l,bs,vs,us,h,r,w=>by
    cases r with
    | cons r1 r2 =>
      cases w with
      | cons w1 w2 =>
        cases p<;>first | (simp[gU]at h;done) | skip
        rename_i z;cases r1;cases w1;simp only[gU,Option.map_eq_some_iff]at h;obtain⟨Yc,h1,rfl⟩:=h;exact .cons _ (nF h1 r2 w2)
theorem IQ(bs:List Bool):((List.range bs.length).all fun i=>(bs[i]?).getD true)=bs.all id:=by
  rw[Bool.eq_iff_iff,ZN,ZN];constructor
  . intro h b hb;obtain⟨i,hi,e⟩:=adk hb;have:=h i (aax.mpr hi)
    simp only[YV hi,aan,e]at this;exact this
  . intro h i hi;have ly:=aax.mp hi
    simp only[YV ly,aan];exact h _ (ab1 ly)
theorem IS(bs:List Bool):((List.range bs.length).any fun i=>(bs[i]?).getD false)=bs.any id:=by
  rw[Bool.eq_iff_iff,ZH,ZH];constructor
  . rintro⟨i,hi,e⟩;have ly:=aax.mp hi
    simp only[YV ly,aan]at e;exact⟨_,ab1 ly,e⟩
  . rintro⟨b,hb,e⟩;obtain⟨i,hi,rfl⟩:=adk hb;exact⟨i,aax.mpr hi,by simp only[YV hi,aan];exact e⟩
theorem yZ{h':Heap}{s:Shared}(hk:∀ b x,b ∉ [s.heap.objs.size]->(s.heap.push o).get? b=some x->h'.get? b=some x):∀ b x,s.heap.get? b=some x->h'.get? b=some x :=
  fun b x e=>hk b x (fun hm=>by rw[Zu.mp hm]at e;exact ZI _ (YO e)) (YK _ e)
theorem IT(hs:jy ps≠.stuck):∃ l bs,ps=[.lst l]/\gU l=some bs/\jy ps=.ok (.bl (bs.all id)):=by
  unfold jy at hs ⊢;split at hs
  . next l =>
    split at hs
    . next bs e=>exact⟨l,bs,rfl,e,by simp only[e]⟩
    . exact absurd rfl hs
  . exact absurd rfl hs
theorem IU(hs:oW ps≠.stuck):∃ l bs,ps=[.lst l]/\gU l=some bs/\oW ps=.ok (.bl (bs.any id)):=by
  unfold oW at hs ⊢;split at hs
  . next l =>
    split at hs
    . next bs e=>exact⟨l,bs,rfl,e,by simp only[e]⟩
    . exact absurd rfl hs
  . exact absurd rfl hs
theorem rW(hc:X.calm=true):iL X cl (.builtin "all") jy:=by
  intro pins s σ Hf H xs us ps I sm rv bA hs;obtain⟨l,bs,rfl,e1,e2⟩:=IT hs;rw[e2];obtain⟨v,rfl,rp⟩:=gL bA;cases rp with
  | lst h r =>
    obtain⟨u,rfl,ru⟩:=rv.one;cases ru;obtain⟨its,wl,pl,z⟩:=I.list (sm.seq h);have hb:=nF e1 r wl
    have hl:=pl.isList;have iF:=(by obtain⟨_,e,_⟩:=hl;exact YO e:_<s.heap.objs.size)
    refine call_all_walk (abN hl ?_);refine⟨s.heap.objs.size,[s.heap.objs.size,_],[s.heap.objs.size],its.toArray.size,_,_,fun i=>(bs[i]?).getD true,rfl,Walks.list (A:=X.A.in1) (I.ok.hd hc) _ _ (Zx iF) its.toArray,
      ⟨⟨_,Y3 _ rfl,rfl,rfl⟩,hl.push _⟩,fun i v s' Q' E' hP hQ=>?_,fun h' tk hk=>?_⟩
    . obtain⟨b,e,rfl⟩:=hb.get i v (by simpa using hP);simp only[e,aan]at hQ;exact Zs hQ
    . have e:((List.range its.toArray.size).all fun i=>(bs[i]?).getD true)=bs.all id:=by
        rw[YN,hb.len];exact IQ bs
      rw[e];exact⟨_,.bl _,Hf,H,rfl,I.kept (yZ hk),rfl,Ext.refl sm,.bl _⟩
theorem GI(hc:X.calm=true):iL X cl (.builtin "any") oW:=by
  intro pins s σ Hf H xs us ps I sm rv bA hs;obtain⟨l,bs,rfl,e1,e2⟩:=IU hs;rw[e2];obtain⟨v,rfl,rp⟩:=gL bA;cases rp with
  | lst h r =>
    obtain⟨u,rfl,ru⟩:=rv.one;cases ru;obtain⟨its,wl,pl,z⟩:=I.list (sm.seq h);have hb:=nF e1 r wl
    have hl:=pl.isList;have iF:=(by obtain⟨_,e,_⟩:=hl;exact YO e:_<s.heap.objs.size)
    refine call_any_walk (abN hl ?_);refine⟨s.heap.objs.size,[s.heap.objs.size,_],[s.heap.objs.size],its.toArray.size,_,_,fun i=>(bs[i]?).getD false,rfl,Walks.list (A:=X.A.in1) (I.ok.hd hc) _ _ (Zx iF) its.toArray,
      ⟨⟨_,Y3 _ rfl,rfl,rfl⟩,hl.push _⟩,fun i v s' Q' E' hP hQ=>?_,fun h' tk hk=>?_⟩
    . obtain⟨b,e,rfl⟩:=hb.get i v (by simpa using hP);simp only[e,aan]at hQ;exact Zs hQ
    . have e:((List.range its.toArray.size).any fun i=>(bs[i]?).getD false)=bs.any id:=by
        rw[YN,hb.len];exact IS bs
      rw[e];exact⟨_,.bl _,Hf,H,rfl,I.kept (yZ hk),rfl,Ext.refl sm,.bl _⟩
noncomputable def Cx.at(X:Cx)(A:Around):Cx:={ X with A:=A,calm:=false }
theorem Inv.at{A:Around}(I:Inv X pins σ H s)(hf:A.frames=X.A.frames):Inv (Cx.at X A) pins σ H s :=
  ⟨⟨I.ok.mod,I.ok.kind,I.ok.glob,I.ok.blt,I.ok.above,I.ok.inj,I.ok.has,I.ok.um,(fun z=>by cases z),hf.trans I.ok.frames,I.ok.rn,I.ok.Gk,I.ok.bs,I.ok.mx,I.ok.qJ,I.ok.tI,I.ok.iG,I.ok.pZ⟩,I.os,I.bare,I.base,I.loc,I.cell,I.free,I.gG,I.pin,I.bQ,I.len⟩
end
section
variable {K:PySem.W.Frag}{cl:Nat->Addr}{aK H0 Hf H az H':Hp}{σ:SV}{ρ:aJ}
noncomputable def less(Hf:Hp)(a:Addr):Hp:=fun b=>if b=a then none else Hf b
end
noncomputable def bY(n:Nat)(t:FT)(f:FE)(ρ:aJ):List PV->R (List PV)
  | []=>.ok []
  | p::r=>match t (cA n ρ ++[some p])with
    | .ok true=>(match f (cA n ρ ++[some p])with
      | .ok v=>(match bY n t f ρ r with
        | .ok vs=>.ok (v::vs)
        | .exc c=>.exc c
        | .stuck=>.stuck)
      | .exc c=>.exc c
      | .stuck=>.stuck)
    | .ok false=>bY n t f ρ r
    | _=>.stuck
noncomputable def gV(n:Nat)(t:FT)(f:FE)(ρ:aJ)(l:List PV):R PV:=if l.length<=1000000 then (match bY n t f ρ l with
  | .ok vs=>.ok (.lst vs)
  | .exc c=>.exc c
  | .stuck=>.stuck) else .stuck
noncomputable def eZ(n:Nat)(it:FA)(t:FT)(f:FE):FE:=fun ρ=>(it ρ).bind (gV n t f ρ)
noncomputable def jz(F:List PV->R PV)(g:FA):FE:=fun ρ=>match g ρ with
  | .ok qs=>F qs
  | _=>.stuck
noncomputable def kK(qs:List PV):R (List PV)->R (List PV)
  | .ok rest=>.ok (qs++rest)
  | .exc c=>.exc c
  | .stuck=>.stuck
theorem Fb(h:kK qs T≠.stuck):T≠.stuck:=fun z=>h (by rw[z];rfl)
theorem C1(qs rs:List PV)(T:R (List PV)):kK qs (kK rs T)=kK (qs++rs) T:=by
  cases T with
  | ok r=>show R.ok (qs ++(rs++r))=R.ok (qs++rs++r);rw[List.append_assoc]
  | exc c=>rfl
  | stuck=>rfl
theorem C2(T:R (List PV)):kK [] T=T:=by cases T<;>rfl
theorem yy{p:PV}{r:List PV} (h:bY n t f ρ (p::r)≠.stuck) :
    (t (cA n ρ ++[some p])=.ok false/\bY n t f ρ (p::r)=bY n t f ρ r)\/(t (cA n ρ ++[some p])=.ok true/\∃ v,f (cA n ρ ++[some p])=.ok v/\bY n t f ρ (p::r)=kK [v] (bY n t f ρ r)) \/
      (t (cA n ρ ++[some p])=.ok true/\∃ c,f (cA n ρ ++[some p])=.exc c/\bY n t f ρ (p::r)=.exc c):=by
  have e:bY n t f ρ (p::r)=match t (cA n ρ ++[some p])with
    | .ok true=>(match f (cA n ρ ++[some p])with
      | .ok v=>(match bY n t f ρ r with
        | .ok vs=>.ok (v::vs)
        | .exc c=>.exc c
        | .stuck=>.stuck)
      | .exc c=>.exc c
      | .stuck=>.stuck)
    | .ok false=>bY n t f ρ r
    | _=>.stuck:=by rw[bY]
  rw[e]at h ⊢;cases ht:t (cA n ρ ++[some p])with
  | stuck=>rw[ht]at h;exact absurd rfl h
  | exc c=>rw[ht]at h;exact absurd rfl h
  | ok b =>
    cases b with
    | false=>exact .inl ⟨rfl,rfl⟩
    | true =>
      rw[ht]at h;cases hf:f (cA n ρ ++[some p])with
      | stuck=>rw[hf]at h;exact absurd rfl h
      | exc c=>exact .inr (.inr ⟨rfl,c,rfl,rfl⟩)
      | ok v=>exact .inr (.inl ⟨rfl,v,rfl,by cases bY n t f ρ r<;>rfl⟩)
theorem tZ{h h' B B':Heap}:∀{l:List Env},h.FunFrames B l->(∀ b,B.get? b=none->B'.get? b=none)->(∀ b∈fq l,h'.get? b=h.get? b)->h'.FunFrames B' l
  | [],_,_,_=>trivial
  | env::rest,⟨a,⟨L,o,e1,e2,e3,e4⟩,r⟩,k,g=>by
    have hm:L∈fq (env::rest):=by
      unfold fq;rw[Z7,e1];exact YW
    refine⟨a,⟨L,o,e1,k L e2,(g L hm).trans e3,e4⟩,tZ r k fun b hb=>g b ?_⟩;unfold fq at hb ⊢;rw[Z7,e1];exact YM _ hb
theorem y7{h h' B B':Heap}(x:h.TracedAtW B e cls a0 fl)(k:∀ b,B.get? b=none->B'.get? b=none)(g:∀ b o,h.get? b=some o->(∃ vs,o.data=.fields vs)->h'.get? b=some o):h'.TracedAtW B' e cls a0 fl:=by
  obtain⟨oe,vs,T,oT,ts,he,hc,hd,h1,hT,Cy,gT,dT,h3⟩:=x;exact⟨oe,vs,T,oT,ts,g e oe he ⟨_,hd⟩,hc,hd,h1,k T hT,Cy,g T oT gT ⟨_,dT⟩,dT,h3⟩
theorem nG{B:Heap}{C b:Addr}(h:B.get? b=none):(PySem.W.hideAll B [C]).get? b=none:=by
  cases q:(PySem.W.hideAll B [C]).get? b with
  | none=>rfl
  | some o=>have:=aar _ q;rw[h]at this;cases this
theorem C3{h B:Heap}{C e L:Addr}(x:Heap.HeldW B l e cls a0 L h):Heap.HeldW (PySem.W.hideAll B [C]) l e cls a0 L h:=by
  obtain⟨a,b,c,d⟩:=x;exact⟨fun b o q=>a b o (aar _ q),nG b,tZ c (fun _ q=>nG q) fun _ _=>rfl,y7 d (fun _ q=>nG q) fun _ _ q _=>q⟩
theorem IV{h h' B:Heap}{m:Str->Option Value}(x:Heap.HeldW B l e cls a0 L h)(hB:B.get? C=none)(hl:C ∉ fq l)(hn:h.Ns C m)(hs:Heap.SameBut C h h'):Heap.HeldW B l e cls a0 L h':=by
  obtain⟨a,b,c,d⟩:=x;refine⟨fun b o q=>?_,b,tZ c (fun _ q=>q) fun b hb=>hs.2 b fun z=>hl (by rw[<- z];exact hb),y7 d (fun _ q=>q) fun b o q ⟨vs,hv⟩=>?_⟩
  . have hb:b≠C:=fun z=>by rw[z,hB]at q;cases q
    rw[hs.2 b hb];exact a b o q
  . have hb:b≠C:=fun z=>by
      obtain⟨o',es,ep,ho,hd,_⟩:=hn;rw[z,ho]at q;cases q;rw[hd]at hv;cases hv
    rw[hs.2 b hb];exact q
section
variable (X:Cx) (cl:Nat->Addr)
def RY(pins:List (Addr×Obj))(σ:SV)(Hf H:Hp)(r:R PV)(u:Value)(s:Shared):Prop :=
  ∃(c:Nat)(a:Addr)(az H':Hp)(B:Heap)(a0:Value),r=.exc c/\u=.ref a/\Inv X pins σ H' s/\Ext Hf H az H'/\lV X pins H' B s.heap/\kz a s.heap/\Heap.FlyingW B X.stack a (.ref (cl c)) a0 s.heap
structure C4(e:Expr)(f:FE):Prop where
  run:∀(pins:List (Addr×Obj))(s:Shared)(σ:SV)(aK H0 Hf H:Hp)(ρ:aJ),Inv X pins σ H s->Rep X.K cl aK H0 Hf H σ ρ->f ρ≠.stuck->(∀ b∈X.ex,∃ p∈pins,p.1=b) ->
    wpAny (model X.prog X.w) X.A (eval e X.env) (gb X cl pins σ Hf H (f ρ)) (RY X cl pins σ Hf H (f ρ)) s
end
section
variable {X:Cx}{cl:Nat->Addr}
theorem Ux{e:Expr}{es:List Expr}{p pos:Pos}{F:List PV->R PV}(hF:FG X.prog X.w X.K X.mg X.base cl k x n F)(hr:cE k' X.A)(inj:∀ c d,cl c=cl d->c=d)(ha:MA X cl (e::es) g)(hk:autoParam (k<=k') w_)(hl:autoParam ((e::es).length=n) f_)(hg:autoParam (Gl X x) f_)
    (eW:autoParam ((x ==("__debug__" : Str))=false) w_) (he:autoParam (starEach (e::es) X.env=(false,eval e X.env)::starEach es X.env) f_) (eC:autoParam ((backTo pos (starEach es X.env)).any (·.1)=false) f_) :
    C4 X cl (.Call (.Name x p) (e::es) [] pos) (jz F g):=by
  obtain⟨f,fd,ps,hm,KW,hn,hf,hb⟩:=hF.ex;refine⟨?_⟩;intro pins s σ aK H0 Hf H ρ I r hs hex;obtain⟨qs,eg,ef⟩:∃ qs,g ρ=.ok qs/\jz F g ρ=F qs:=by
    unfold jz at hs ⊢;cases q:g ρ with
    | ok qs=>exact⟨qs,rfl,rfl⟩
    | exc c=>rw[q]at hs;exact absurd rfl hs
    | stuck=>rw[q]at hs;exact absurd rfl hs
  rw[ef]at hs ⊢;refine Zq (gj I hg hm ?_ eW);refine ZM (h₀:=X.base) I.ok.mod.ot KW (YA (ha.run' pos pins s σ aK H0 Hf H ρ I r (by rw[eg];intro z;cases z)) (fun us s1 q1=>?_) fun u s1 q1=>?_) he eC;rotate_left
  . obtain⟨c,e1,_⟩:=q1;rw[eg]at e1;cases e1
  obtain⟨Yd,vs,aM,H1,e1,I1,rv,x1,bA⟩:=q1;rw[eg]at e1;cases e1;refine⟨I1.eT,?_⟩;have hq:=ha.len ρ qs eg
  have hv:vs.length=n:=by rw[bA.length,hq,hl]
  have hG:mF X.K cl n F vs H1 (fun v H'=>∃ p az,F qs=.ok p/\Ext aM H1 az H'/\Rp X.K cl az v p) (fun u o H'=>∃ c az,F qs=.exc c/\Ext aM H1 az H'/\u=.ref (cl c)) :=
    ⟨hv,aM,qs,x1.sub,bA,hs,fun p v az H' a b c=>⟨p,az,a,b,c⟩,fun c az H' a b=>⟨c,az,a,b,rfl⟩⟩
  have mH:(us ++[]).length=ps.length:=by rw[Ze,<- rv.length,hv,hn]
  have gk:=hb s1 us I1.eT mH;rw[Ze]at gk;refine aaj (Z3 (hf.run X.A X.stack s1 H1 ⟨us,[]⟩ us vs _ _ (hr.mono hk) I1.qO gk rv hG) fun r s' dU=>?_);cases r with
  | error e =>
    obtain⟨a,c,H',B,a0,rfl,ho,Uy,un,bQ,fl,mG,nd,c',az,e1,ex,e2⟩:=dU;have ec:c'=c:=inj _ _ (by injection e2 with e2;exact e2.symm)
    subst ec;refine⟨c',a,az,H',B,a0,e1,rfl,I1.rB ho un bQ Uy (fun b z=>absurd z (by simp)),x1.trans ex,?_,nd,fl⟩;intro b o hb hc hn;refine mG b o hb ?_ hn;rcases hc with hc | ⟨p,hp,e⟩ | ⟨o₀,hc⟩ | ⟨x,hc⟩
    . exact .inl hc
    . right;rw[<- e];exact⟨_,(I1.pin p hp).1⟩
    . right;by_cases hx:b∈X.ex
      . obtain⟨p,hp,e⟩:=hex b hx;rw[<- e];exact⟨_,(I1.pin p (YZ _ hp)).1⟩
      . exact I1.base.there b o₀ hc hx
    . right;obtain⟨v,o',q,_⟩:=I1.cell x b hc;exact⟨o',q⟩
  | ok fl =>
    cases fl with
    | ret u =>
      obtain⟨v,H',I',fN,p,az,e2,ex,rp⟩:=I1.after dU;exact⟨p,v,az,H',e2,I',fN,x1.trans ex,rp⟩
    | next=>exact False.elim dU
    | brk=>exact False.elim dU
    | cont=>exact False.elim dU
end
section
variable {prog:Program}{w:World}{A:Around}{R:Result->Shared->Prop}{s:Shared}
theorem vG{elt target iter:Expr}{scope:Scope}{pos:Pos}{it acc:Value}(I:Nat->Shared->Prop)
    (turn:∀ n s,I n s->wpAny (model prog w) A (pyNext it) (fun r s₁=>match r with
      | none=>R (.ok .next) s₁
      | some v=>wpAny (model prog w) A (letOwnedTupleGo target it v) (fun _ O4=>wpAny (model prog w) A (assign target env v) (fun _ s₂ =>
          wpAny (model prog w) A (forIn ifs true fun c r=>if r=true then do let ok <- isTrue c env (eval c env);pure (ForInStep.yield ok) else pure (ForInStep.yield r)) (fun ok s₃ =>
            if ok=true then wpAny (model prog w) A (eval elt env) (fun x s₄ =>
              wpAny (model prog w) A (call (.builtin "list.append") [acc,x]) (fun _ s₅=>∃ m,m<n/\I m s₅) (fun _ _=>False) s₄) (notedBy (model prog w) A env fun x s'=>R (.error x) s') s₃
            else ∃ m,m<n/\I m s₃) (fun _ _=>False) s₂) (fun _ _=>False) O4) (fun _ _=>False) s₁) (fun _ _=>False) s)
    (n:Nat) (h:I n s) :
    codeAny (model prog w) A (.compLoop (.ListComp elt [⟨target,iter,ifs,0⟩] scope pos) 0 it acc env) R s:=by
  refine codeAny_loop rfl I (fun n s hI=>?_) n h;show wpAny _ A ((compTurn (.ListComp elt [⟨target,iter,ifs,0⟩] scope pos) 0 it acc env).onRaise (fun x=>do noteFrame x env;theTreesLotGoes x)) _ _ s
  refine wpAny_noted ?_;rw[compTurn_list];refine YE (abK (YE (YA (turn n s hI) (fun r s₁ h₁=>?_) fun _ _ h'=>h'.elim)));cases r with
  | none=>exact Zb h₁
  | some v =>
    refine YE (YA h₁ (fun _ O4 Uz=>?_) fun _ _ h'=>h'.elim);refine YE (YA Uz (fun _ s₂ h₂=>YE (YA h₂ (fun ok s₃ h₃=>?_) fun _ _ h'=>h'.elim)) fun _ _ h'=>h'.elim);cases ok with
    | false=>exact Zb ⟨rfl,h₃⟩
    | true =>
      exact YE (YE (YA h₃ (fun x s₄ h₄=>YE (YA h₄ (fun _ s₅ h₅=>Zb (Zb ⟨rfl,h₅⟩)) fun _ _ h'=>h'.elim)) fun _ _ h'=>h'))
end
noncomputable def iV:List PV->R PV
  | [.str z,.str y]=>.ok (.bl (Txt.startswith z y))
  | _=>.stuck
noncomputable def iB:List PV->R PV
  | [.str z,.str y]=>if z.length<=sizeLine/\(y.length == 0)=false then .ok (.tup [.str (Txt.partition z y).1,.str (Txt.partition z y).2.1,.str (Txt.partition z y).2.2]) else .stuck
  | _=>.stuck
section
variable {X:Cx}{cl:Nat->Addr}{pins:List (Addr×Obj)}{s:Shared}{σ:SV}{Hf H:Hp}
theorem two_strs{xs:List V}{z y:Str}(rv:Vals xs us)(bA:cy X.K cl Hf xs [.str z,.str y]):∃ t u,us=[.str z t,.str y u]:=by
  obtain⟨v,w,rfl,rp,rq⟩:=vJ bA;cases rp;cases rq;cases rv with
  | cons w1 w2 =>
    cases w2 with
    | cons w2 w3 =>
      cases w3;obtain⟨t,rfl⟩:=w1;obtain⟨u,rfl⟩:=w2;exact⟨t,u,rfl⟩
theorem oX:iL X cl (.builtin "str.startswith") iV:=by
  intro pins s σ Hf H xs us ps I sm rv bA hs;have:∃ z y,ps=[.str z,.str y]:=by
    unfold iV at hs;split at hs
    . exact⟨_,_,rfl⟩
    . exact absurd rfl hs
  obtain⟨z,y,rfl⟩:=this;obtain⟨t,u,rfl⟩:=two_strs rv bA;exact SC.startswith ⟨_,.bl _,Hf,H,rfl,I,rfl,Ext.refl sm,.bl _⟩
theorem nZ:wU "startswith" "str.startswith":=GM.startswith
theorem uc{E:Value->Shared->Prop}{s:Shared}{x y:Str}{t u:Tok}{Q:Value->Shared->Prop} (hy:(y.length == 0)=false) (Gq:x.length<=sizeLine)
    (h:∀ ta tb tc k,Q (.ref s.heap.objs.size) { s with heap:=s.heap.push { cls:=.type "tuple",data:=.seq [.str (Txt.partition x y).1 ta,.str (Txt.partition x y).2.1 tb,.str (Txt.partition x y).2.2 tc].toArray },toks:=k }) :
    wpAny (model prog w) A (call (.builtin "str.partition") [.str x t,.str y u]) Q E s:=by
  refine abf F.slot_str_partition (aaU _ _ _) F.entry_str_partition (F.args_str_partition_2 _ _) (meets_str_partition x y t u hy Gq) ?_;have h':=h
  unfold Txt.partition at h'
  revert h'
  cases Builtin.Str.occurrences x y 0 x.length 1 with
  | nil=>intro h';exact h' _ _ _ _
  | cons i r=>intro h';exact h' _ _ _ _
theorem qv:iL X cl (.builtin "str.partition") iB:=by
  intro pins s σ Hf H xs us ps I sm rv bA hs;have:∃ z y,ps=[.str z,.str y]/\(z.length<=sizeLine/\(y.length == 0)=false)/\iB ps=.ok (.tup [.str (Txt.partition z y).1,.str (Txt.partition z y).2.1,.str (Txt.partition z y).2.2]):=by
    unfold iB at hs ⊢;split at hs
    . obtain⟨h1,h2⟩:=eo hs;exact⟨_,_,rfl,h1,h2⟩
    . exact absurd rfl hs
  obtain⟨z,y,rfl,⟨e0,e1⟩,e2⟩:=this;rw[e2];obtain⟨t,u,rfl⟩:=two_strs rv bA;refine uc e1 e0 fun ta tb tc k=>?_;have hf:H s.heap.objs.size=none:=I.bQ.fresh (YD _)
  have RZ:cy X.K cl Hf [.str (Txt.partition z y).1,.str (Txt.partition z y).2.1,.str (Txt.partition z y).2.2] [.str (Txt.partition z y).1,.str (Txt.partition z y).2.1,.str (Txt.partition z y).2.2]:=.cons (.str _) (.cons (.str _) (.cons (.str _) .nil));refine lg (tk:=k) hf sm (I.laid (t':=k) (o:=.tup [.str (Txt.partition z y).1,.str (Txt.partition z y).2.1,.str (Txt.partition z y).2.2]) (fun b u e=>YK _ e) (YD _) ?_) (.tup (jk.of bU) (RZ.keep (ez (sm.free hf) _)));exact⟨YU (show 3<=1000 by decide) (by decide),_,.cons ⟨ta,rfl⟩ (.cons ⟨tb,rfl⟩ (.cons ⟨tc,rfl⟩ .nil)),⟨_,Y3 _ rfl,rfl,_,rfl⟩⟩
theorem oY:wU "partition" "str.partition":=GM.partition
end
noncomputable def ja(x:Str):List V:=x.cps.toList.map fun c=>V.str ⟨#[c]⟩
noncomputable def Bd(x:Str):List PV:=x.cps.toList.map fun c=>PV.str ⟨#[c]⟩
noncomputable def KY(x:Str):It:=⟨fun i _=>i<(ja x).length,fun i H y H'=>H'=H/\(ja x)[i]?=some y,fun i _=>(ja x).length<=i⟩
section
variable {X:Cx}{cl:Nat->Addr}{pins:List (Addr×Obj)}{s:Shared}{σ:SV}{Hf H:Hp}
theorem C5{K:PySem.W.Frag}(x:Str):cy K cl Hf (ja x) (Bd x):=by
  unfold ja Bd
  induction x.cps.toList with
  | nil=>exact .nil
  | cons c r ih=>exact .cons (.str _) ih
theorem Fc{P:Program}{w:World}{K:PySem.W.Frag}{tg:Expr}(it:Addr)(x:Str)(t:Tok):Turn P w K tg (KY x) [it] it (fun i h=>h.IsStrIter it (strIterType x) x t i) where
  mem:=by simp
  obj:=fun i h st b hb=>by
    have e:b=it:=by simpa using hb
    subst e;obtain⟨o,e,c,d⟩:=st;exact⟨o,e,fun v z=>by rw[d]at z;cases z⟩
  keep:=fun i h h' st k=>by
    obtain⟨o,e,c,d⟩:=st;exact⟨o,k it (by simp) o e,c,d⟩
  item:=by
    intro X hP hw hK hc i pins s σ H E I hf st hg;subst hP hw hK;have hi:i<x.cps.toList.length:=by have:i<(ja x).length:=hg;simpa [ja]using this
    have hx:x.cps[i]?=some x.cps.toList[i]:=by simp[hi]
    obtain⟨f0,f1,f2,f3,f4,f5⟩:=hf it (by simp);have fin:∀(ty:String)(h':Heap),["enumerate","zip","dict_itemiterator","dict_reverseitemiterator","odict_iterator","itertools.zip_longest","itertools.pairwise"].contains ty=false->strIterType x=ty->h'.IsStrIter it ty x t (i+1)->Heap.SameBut it s.heap h'->(∃ u,some (Value.str ⟨#[x.cps.toList[i]]⟩ s.toks)=some u /\
        wpAny (model X.prog X.w) X.A (letOwnedTupleGo tg (.ref it) u) (fun _ s2=>∃ y H',Inv X pins σ H' s2/\RelV y u/\(KY x).JW i H y H'/\(fun i h=>h.IsStrIter it (strIterType x) x t i) (i+1) s2.heap/\∀ b∈[it],H' b=none) E { s with heap:=h',toks:=s.toks+1 }):=fun ty h' hn et iD sb=>by
      have I1:Inv X pins σ H { s with heap:=h',toks:=s.toks+1 }:=I.turned (t':=s.toks+1) (fun b o hb e=>(sb.2 b hb).trans e) f0 f1 f3 f4 f5;obtain⟨o,e,c,d⟩:=id iD;refine⟨_,rfl,vI (s:={ s with heap:=h',toks:=s.toks+1 }) e c d hn ⟨.str ⟨#[x.cps.toList[i]]⟩,H,I1,⟨_,rfl⟩,⟨rfl,?_⟩,?_,fun b hb=>(hf b hb).1⟩⟩
      . unfold ja;rw[ZL,YV hi];rfl
      . show h'.IsStrIter it (strIterType x) x t (i+1);rw[et];exact iD
    cases ha:x.cps.all (·<128)
    . have et:strIterType x="str_iterator":=by simp[strIterType,ha]
      have gS:s.heap.IsStrIter it "str_iterator" x t i:=by rw[<- et];exact st
      exact wpAny_pyNext_wide_item gS hx fun h' iD sb=>fin _ h' (by decide) et iD sb
    . have et:strIterType x="str_ascii_iterator":=by simp[strIterType,ha]
      have gS:s.heap.IsStrIter it "str_ascii_iterator" x t i:=by rw[<- et];exact st
      exact wpAny_pyNext_ascii_item gS hx fun h' iD sb=>fin _ h' (by decide) et iD sb
  done:=by
    intro X hP hw hK hc i pins s σ H E I hf st hg;subst hP hw hK;have hi:x.cps.toList.length<=i:=by have:(ja x).length<=i:=hg;simpa [ja]using this
    have hx:x.cps[i]?=none:=by simp;simpa using hi
    obtain⟨f0,f1,f2,f3,f4,f5⟩:=hf it (by simp);cases ha:x.cps.all (·<128)
    . have et:strIterType x="str_iterator":=by simp[strIterType,ha]
      have gS:s.heap.IsStrIter it "str_iterator" x t i:=by rw[<- et];exact st
      exact wpAny_pyNext_wide_end (I.ok.hd hc) gS hx fun h' eb=>⟨rfl,I.turned (t':=s.toks) (fun b o hb e=>eb b o hb e) f0 f1 f3 f4 f5⟩
    . have et:strIterType x="str_ascii_iterator":=by simp[strIterType,ha]
      have gS:s.heap.IsStrIter it "str_ascii_iterator" x t i:=by rw[<- et];exact st
      exact wpAny_pyNext_ascii_end (I.ok.hd hc) gS hx fun h' eb=>⟨rfl,I.turned (t':=s.toks) (fun b o hb e=>eb b o hb e) f0 f1 f3 f4 f5⟩
  self:=fun A i s Q E st h=>by
    cases ha:x.cps.all (·<128)
    . have et:strIterType x="str_iterator":=by simp[strIterType,ha]
      have gS:s.heap.IsStrIter it "str_iterator" x t i:=by rw[<- et];exact st
      exact wpAny_pyIter_striter_wide gS h
    . have et:strIterType x="str_ascii_iterator":=by simp[strIterType,ha]
      have gS:s.heap.IsStrIter it "str_ascii_iterator" x t i:=by rw[<- et];exact st
      exact wpAny_pyIter_striter_ascii gS h
theorem Fd:Over (KY x) Hg (ja x):=fun H i sm=>⟨fun hi=>⟨hi,fun y H' q=>q⟩,fun hi=>hi⟩
theorem KZ{tg iter:Expr}{f:FE}(h:ME X cl iter f):MI X cl tg iter (tT f):=by
  refine⟨?_⟩;intro pins s σ aK H0 Hf H ρ I r hs;unfold tT at hs ⊢;refine h.run I r (Ext.refl r.sub) hs fun p v u s1 aM H1 e1 I1 rv x1 rp=>?_;rw[e1]at hs ⊢;cases p<;>first
    | exact absurd rfl hs
    | skip
  rename_i z;cases rp;obtain⟨t,rfl⟩:=rv;refine wpAny_pyIter_strU ?_;refine⟨Bd z,ja z,aM,rfl,s1.heap.objs.size,[s1.heap.objs.size],_,_,H1,rfl,I1.kept (t':=s1.toks) fun b o e=>YK _ e,Fc _ z t,⟨_,Y3 _ rfl,rfl,rfl⟩,fun b hb=>?_,x1,Fd,C5 z⟩;have e:b=s1.heap.objs.size:=by simpa using hb
  subst e;exact I1.tJ (YD _) (I1.bQ.fresh (YD _))
end
open PySem.Calls PySem.NumText
theorem maxDigits{E:Value->Shared->Prop}{s:Shared}{Q:Nat->Shared->Prop} (hn:s.heap.NoDigits) (h:Q 4300 s):wpAny M A Builtin.intMaxStrDigits Q E s:=by
  obtain⟨mc,yH,N9⟩:=hn;unfold Builtin.intMaxStrDigits;refine YE (wpAny_nsGet yH ?_);rw[N9];exact Zb h
theorem Fe{E:Value->Shared->Prop}{s:Shared}{Q:Value->Shared->Prop}{v:Value}{text:List Nat}{n:Int} (hn:s.heap.NoDigits)
    (hs:¬(text.takeWhile (· != 0)).length<=640) (hr:(int_private% "readNumeral") 4300 10 (text.takeWhile (· != 0))=(int_private% "Numeral.value") n)
    (ha:((text.takeWhile (· != 0)).length == text.length)=true) (h:Q (.int n s.toks) { s with toks:=s.toks+1 }) :
    wpAny M A ((int_private% "intFromText") v text 10) Q E s:=by
  obtain⟨hp,g,d,tk,os⟩:=s
  repeat (any_goals (first
    | assumption
    | (with_reducible refine wpAny_ite_false (YG hs) ?_)
    | (with_reducible refine wpAny_ite_true (YL ha) ?_)
    | (with_reducible refine maxDigits hn ?_)
    | wp_step))
  all_goals (try rw[hr])
  all_goals (try dsimp only)
  repeat (any_goals (first
    | assumption
    | (with_reducible refine wpAny_ite_true (YL ha) ?_)
    | wp_step))
structure Hd(p:Prop):Prop where
  out:p
theorem yz{x:PySem.Str}{u:Tok}{n:Int}(hx:x.length<=sizeLine)(hl:¬(numSeenOf x).length<=640)(hn:PySem.intText? x=some n) :
    Meets (Builtin.«int.__new__» ⟨[.type "int",.str x u],[]⟩) (fun _ R s=>s.heap.NoDigits/\R (.ok (.ret (.int n s.toks))) { s with toks:=s.toks+1 }) :=
  .of_wp fun prog w A R s h=>by
    obtain⟨hp,g,d,tk,os⟩:=s;obtain⟨nd,h⟩:=h;have f1:=F.conv_sub_int
    have f2:=F.madeHere_int;have f3:=adl
    have f4:=adm;have f5:=acD
    have f6:typeOf (.str x u)=pure (.type "str"):=rfl;have hr:(int_private% "readNumeral") 4300 10 (numSeenOf x)=(int_private% "Numeral.value") n/\((numSeenOf x).length ==(numTextOf x).length)=true:=by
      rcases read4300 x hx with⟨m,h1,h2,h3⟩ | ⟨h1,_⟩
      . rw[hn]at h1;injection h1 with h1
        subst h1;exact⟨h3,h2⟩
      . rw[hn]at h1;cases h1
    have hk:=Hd.mk (And.intro hl hr);clear hr hl hn
    repeat (any_goals (first
      | assumption
      | ((with_reducible show wpAny _ _ ((int_private% "intFromText") _ _ _) _ _ _);refine Fe nd hk.out.1 hk.out.2.1 hk.out.2.2 ?_)
      | wp_step))
    all_goals first | exact h | exact⟨_,rfl,h⟩ | skip
theorem yA{u:Tok}{n:Int} (hs:(numSeenOf x).length<=640) (hn:PySem.intText? x=some n) :
    Meets (Builtin.«int.__new__» ⟨[.type "int",.str x u],[]⟩) (fun _ R s=>s.heap.NoDigits/\R (.ok (.ret (.int n s.toks))) { s with toks:=s.toks+1 }) :=
  .of_wp fun prog w A R s h=>by
    obtain⟨hp,g,d,tk,os⟩:=s;obtain⟨nd,h⟩:=h;have f1:=F.conv_sub_int
    have f2:=F.madeHere_int;have f3:=adl
    have f4:=adm;have f5:=acD
    have f6:typeOf (.str x u)=pure (.type "str"):=rfl;have hr:(int_private% "readNumeral") 0 10 (numSeenOf x)=(int_private% "Numeral.value") n/\((numSeenOf x).length ==(numTextOf x).length)=true:=by
      rcases read0 x hs with⟨m,h1,h2,h3⟩ | ⟨h1,_⟩
      . rw[hn]at h1;injection h1 with h1
        subst h1;exact⟨h3,h2⟩
      . rw[hn]at h1;cases h1
    have hk:=Hd.mk (And.intro hs hr);clear hs hr hn
    repeat (any_goals (first
      | assumption
      | ((with_reducible show wpAny _ _ ((int_private% "intFromText") _ _ _) _ _ _);refine PySem.W.KIN.wp_text hk.out.1 hk.out.2.1 hk.out.2.2 ?_)
      | wp_step))
    all_goals first | exact h | exact⟨_,rfl,h⟩ | skip
theorem Be{E:Value->Shared->Prop}{s:Shared}{Q:Value->Shared->Prop}{x:PySem.Str}{t:Tok}{n:Int} (hx:x.length<=sizeLine) (nd:s.heap.NoDigits) (hn:PySem.intText? x=some n)
    (h:Q (.int n s.toks) { s with toks:=s.toks+1 }):wpAny (model prog w) A (call (.type "int") [.str x t]) Q E s:=by
  by_cases c:(numSeenOf x).length<=640
  . exact call_int_1 (yA c hn) ⟨nd,typeIs_int _ _ _,h⟩
  . exact call_int_1 (yz hx c hn) ⟨nd,typeIs_int _ _ _,h⟩
noncomputable def lW:List PV->R PV
  | [.str z]=>if z.length<=sizeLine then (match PySem.intText? z with | some n=>.ok (.int n) | none=>.stuck) else .stuck
  | _=>.stuck
theorem wV{X:Cx}{cl:Nat->Addr}(nd:X.base.NoDigits):iL X cl (.type "int") lW:=by
  intro pins s σ Hf H xs us ps I sm rv bA hs;have:∃ z n,ps=[.str z]/\z.length<=sizeLine/\PySem.intText? z=some n/\lW ps=.ok (.int n):=by
    unfold lW at hs ⊢;split at hs
    . next z =>
      by_cases c:z.length<=sizeLine
      . rw[Yy c]at hs;simp only[Yy c];split at hs
        . next n e=>exact⟨z,n,rfl,c,e,by simp only[e]⟩
        . exact absurd rfl hs
      . rw[Yx c]at hs;exact absurd rfl hs
    . exact absurd rfl hs
  obtain⟨z,n,rfl,h1,h2,h3⟩:=this;rw[h3];obtain⟨v,rfl,rp⟩:=gL bA;cases rp;obtain⟨u,rfl,ru⟩:=rv.one;obtain⟨t,rfl⟩:=ru;exact Be h1 (nd.keeps I.bk) h2 ⟨_,.int _,Hf,H,rfl,I.tok _,⟨_,rfl⟩,Ext.refl sm,.int _⟩
end Mi
namespace Mi
open PySem PySem.Spec PyProof.Rows L2
theorem nodig_of{K:PySem.W.Frag}{h:Heap}(X:K.In h)(e:PySem.W.nsOkIn K cStatics=true) (q:PySem.W.nsIn K cStatics "sys.int_max_str_digits"=some none):h.NoDigits :=
  ⟨_,.of_isNs (PySem.W.isNs_of_in X e),ab0 X e q⟩
open PySem.Builtin PySem.Builtin.Str
noncomputable def Oa(x y z:PySem.Str):PySem.Str:=if ((occurrences x y 0 x.length 1).isEmpty||(y.length == 0&&z.length == 0))=true then x else glued z (partsBetween x (occurrences x y 0 x.length 1) y.length)
def C6(x y z:PySem.Str):Prop:=(y == z)=false/\x.length+(occurrences x y 0 x.length 1).length*z.length<=sizeLine/\(Oa x y z).length<=sizeLine
noncomputable instance {x y z:PySem.Str}:Decidable (C6 x y z):=by unfold C6;infer_instance
end Mi
namespace Mi
open PySem PySem.W PyProof.Rows
section
variable {N:Nat}{key:Nat->Int}{cmp:Nat->Nat->(Bool->Shared->Prop)->Shared->Prop}{s:Shared}
noncomputable def kp(key:Nat->Int)(p:Array Nat)(i:Nat):Int:=key (p.getD i 0)
def Pm(N:Nat)(p:Array Nat):Prop:=p.Perm (List.toArray (List.range N))
theorem Pm.size{p:Array Nat}(h:Pm N p):p.size=N:=by rw[Array.Perm.size_eq h];simp
end
open PySem.Spec L2
noncomputable def big:Int:=2 ^ 200
end Mi
namespace Mi
open PySem PySem.Spec PyProof.Rows L2
def GJ(M:Model)(A:Around)(E:Value->Shared->Prop)(use:Option (Value->Sem Unit))(Q:Value->Shared->Prop)(acc:Value)(cenv:Env)(r:Result)(s':Shared):Prop :=
  match r with
  | .ok f=>compPost M A E use Q acc cenv.locals (.ok f) s'
  | .error x=>∃ m,s'.heap.Ns cenv.locals m/\∀ h',Heap.SameBut cenv.locals s'.heap h'->wpAny M A (PySem.passOn "comprehension.variables-let-go" x cenv:Sem Value) Q E { s' with heap:=h' }
section
variable {M:Model}{A:Around}{E:Value->Shared->Prop}{s:Shared}{env:Env}
theorem Bf{scope:Scope}{C7 first:Sem Value}{g:Comprehension}{gs:List Comprehension}{cl:List (Str×Addr)}{use:Option (Value->Sem Unit)}{Q:Value->Shared->Prop}
    (UA:clausesOf e=g::gs) (hs:∀ x,foldedSetIterable g.iter env x=pure x) (Ob:closureFor scope env=pure cl)
    (rD:scope.kind=.function) (K0:∀ x∈scope.names,x.2=.local->scope.names.lookup x.1=some .local)
    (h:wpAny M A first (fun x s₁=>wpAny M A (pyIter x) (fun it s₂=>wpAny M A C7 (fun acc s₃ =>
      wpAny M A (newFunctionEnv scope env.globals cl [] env.qual none .none (some env)) (fun cenv s₄ =>
        codeAny M A (.compStart e 0 it acc { cenv with scope:=relabel scope env }) (GJ M A E use Q acc { cenv with scope:=relabel scope env }) s₄) E s₃) E s₂) E s₁) E s) :
    wpAny M A (comprehension e scope env pos C7 false first use) Q E s:=by
  unfold comprehension;rw[Ob,UA];refine YE (YA h (fun x s₁ h₁=>YE (abK (YE (wpAny_of_eq (hs x) (YE (ZE (YA h₁ (fun it s₂ h₂ =>
    wpAny_standIf (YE (YA h₂ (fun acc s₃ h₃=>YE (Zb (YE (YA h₃ (fun cenv s₄ h₄=>?_) fun _ _ h'=>h')))) fun _ _ h'=>h')))
      fun _ _ h'=>h'))))))) fun _ _ h'=>h')
  dsimp only;have hv:∀ x∈(scope.names.filter fun x=>(x.2 == .local||x.2 == .cell)&&x.1 !=(".0" : Str)).reverse,x.2=.local ->
      Env.kindOf { cenv with scope:=relabel scope env } x.1=some .local:=fun x hx hl=>lookup_relabel_local (K0 x (aa8.mp (List.mem_reverse.mp hx)).1 hl)
  have B2:∀ x∈(scope.names.filter fun x=>(x.2 == .local||x.2 == .cell)&&x.1 !=(".0" : Str)).reverse.drop 1 ++(scope.names.filter fun x=>(x.2 == .local||x.2 == .cell)&&x.1 !=(".0" : Str)).reverse.take 1,
      x.2=.local->Env.kindOf { cenv with scope:=relabel scope env } x.1=some .local:=fun x hx hl=>by
    rcases aaf.mp hx with h1 | h1
    . exact hv x (acW h1) hl
    . exact hv x (abi h1) hl
  refine ZE (YE (wpAny_attempt (ZE (wpAny_run (Z3 h₄ fun r s' hr=>?_)))));cases r with
  | ok f =>
    cases use with
    | none =>
      obtain⟨m,hn,hr⟩:=hr;exact YE (ZE (ab2 (cenv:={ cenv with scope:=relabel scope env }) rD _ s' m hv hn fun h' m' _ cZ=>Zb (hr h' cZ)))
    | some u =>
      refine YE (wpAny_rule (YE (ZE (YA hr (fun _ B6 K3=>?_) fun _ _ h'=>h'))));obtain⟨m,hn,K3⟩:=K3;exact YE (ab2 (cenv:={ cenv with scope:=relabel scope env }) rD _ B6 m B2 hn fun h' m' _ cZ=>Zb (K3 h' cZ))
  | error x =>
    obtain⟨m,hn,hr⟩:=hr;exact YE (ZE (ab2 (cenv:={ cenv with scope:=relabel scope env }) rD _ s' m hv hn fun h' m' _ cZ=>hr h' cZ))
end
section
variable {X:Cx}{cl:Nat->Addr}
theorem uU{elt iter:Expr}{px pos pos':Pos}{n:Nat}{use:Option (Value->Sem Unit)}{Q:Value->Shared->Prop}{E:Value->Shared->Prop}{s:Shared}{aK H0 Hf H:Hp}(W:Own X)(hc:X.calm=true)(c0:X.Ok->wN X Ns x sc cs)(hn:X.N.length=n)(lX:(Ns ++[x]).Nodup)(hi:MI X cl (.Name x px) iter fa)
    (ht:∀ C s H fp,MC (ip X Ns x sc cs C s H fp) cl ifs t) (hb:∀ C s H fp,C4 (ip X Ns x sc cs C s H fp) cl elt f) (ll:∀ y,foldedSetIterable iter X.env y=pure y)
    (I:Inv X pins σ H s) (r:Rep X.K cl aK H0 Hf H σ ρ) (hs:eZ n fa t f ρ≠.stuck) (hX:∀ u s',dk X cl pins σ Hf H (eZ n fa t f ρ) u s'->E u s')
    (hQ:∀(rs:List PV)(s5:Shared)(uG H5:Hp)(l C:Addr),eZ n fa t f ρ=.ok (.lst rs)->Inv X pins σ H5 s5->Ext Hf H uG H5->Rp X.K cl uG (.ref l) (.lst rs)->iH X pins H5 C->(∃ m,s5.heap.Ns C m)->compPost (model X.prog X.w) X.A E use Q (.ref l) C (.ok .next) s5) :
    wpAny (model X.prog X.w) X.A (comprehension (.ListComp elt [⟨.Name x px,iter,ifs,0⟩] sc pos) sc X.env pos' (newList []) false (eval iter X.env) use) Q E s:=by
  have c:=c0 I.ok;have oQ:fa ρ≠.stuck:=fun z=>hs (by unfold eZ;rw[z];rfl)
  have hE:∀ u s',dk X cl pins σ Hf H (fa ρ) u s'->E u s':=fun u s' ⟨d,e1,y⟩=>hX u s' ⟨d,by unfold eZ;rw[e1];rfl,y⟩;refine Bf (use:=use) rfl ll c.RX c.kind c.names (YA (hi pins s σ aK H0 Hf H ρ I r oQ) (fun xv s1 h1=>YA h1 (fun vV s2 h2=>?_) hE) hE);obtain⟨ps,vs,cX,e1,it,fp,tn,J,H2,e,I2,T,gS,f2,x2,ov,bA⟩:=h2;subst e;have ef:eZ n fa t f ρ=gV n t f ρ ps:=by unfold eZ;rw[e1];rfl
  have cZ:gV n t f ρ ps≠.stuck:=by rw[<- ef];exact hs
  have hz:ps.length<=1000000:=by
    apply Zc;intro z;unfold gV at cZ;rw[Yx z]at cZ;exact absurd rfl cZ
  have ek:gV n t f ρ ps=match bY n t f ρ ps with
    | .ok vs=>.ok (.lst vs)
    | .exc c=>.exc c
    | .stuck=>.stuck:=by unfold gV;exact Yy hz
  have hL:bY n t f ρ ps≠.stuck:=fun z=>cZ (by rw[ek,z]);generalize X1:eZ n fa t f ρ=res at *;have GK:H2 s2.heap.objs.size=none:=I2.bQ.fresh (YD _)
  have O5:∀ b∈fp,b<s2.heap.objs.size:=fun b hb=>by
    obtain⟨o,ho,_⟩:=T.obj _ _ gS b hb;exact YO ho
  refine wpAny_newList ?_;have k3:∀ b u,s2.heap.get? b=some u->(s2.heap.push { cls:=.type "list",data:=.seq ([]:List Value).toArray }).get? b=some u:=fun b u q=>YK _ q
  have I3:Inv X pins σ (upd H2 s2.heap.objs.size (.lst [])) { s2 with heap:=s2.heap.push { cls:=.type "list",data:=.seq ([]:List Value).toArray } } :=
    I2.laid (a:=s2.heap.objs.size) (o:=.lst []) (t':=s2.toks) k3 (YD _) ⟨aat _,[],0,.nil,Y3 _ rfl⟩
  generalize hl:s2.heap.objs.size=l at *;have lz:∀ b∈fp,iH X pins (upd H2 l (.lst [])) b:=fun b hb=>⟨by rw[bJ (Zx (O5 b hb))];exact(f2 b hb).1,(f2 b hb).2⟩
  generalize O6:({ s2 with heap:=s2.heap.push { cls:=.type "list",data:=.seq ([]:List Value).toArray } }:Shared)=s3 at I3 ⊢;have O7:∀ b∈fp,b<s3.heap.objs.size:=fun b hb=>by
    rw[<- O6];show b<(s2.heap.push _).objs.size
    rw[abA,hl];exact Nat.lt_succ_of_lt (O5 b hb)
  have rP:tn 0 s3.heap:=T.keep _ _ _ gS fun b _ o e=>by rw[<- O6];exact k3 b o e
  refine wpAny_newFunctionEnv c.KP (by intro y hy;simp at hy) (fun h1 K4 CU=>?_) c.kind;have kC:∀ b o,s3.heap.get? b=some o->h1.get? b=some o:=fun b o e=>CU.extBut b o (Zx (YO e)) (YK _ e)
  have IB:=IL (tk:=s3.toks+([]:List (Str×Value)).length) I3 c lz O7 K4 kC;have x3:Ext cX H2 cX (upd H2 l (.lst [])):=Ext.wt x2.sub GK (.lst [])
  have R0:cX l=none:=x2.sub.free GK;have O8:tn 0 h1:=T.keep _ _ _ rP fun b _ o e=>kC b o e
  have rk:=r.keep x2;have O9:σ.length=n:=by rw[I.len,hn]
  have uM:=bA.length;have UB:Ns.length=n:=c.len.trans hn
  have UC:(Ns ++[x])[n]?=some x:=by rw[Y6 (by omega),UB];simp
  have Pa:(relabel sc X.env).names.lookup x=some .local:=lookup_relabel_local c.here;have UD:∀ b∈fp,b≠s3.heap.objs.size:=fun b hb=>Zx (O7 b hb)
  have lq:∀{H':Hp},(∀ b∈fp,H' b=none)->∀ b∈fp,iH (ip X Ns x sc cs s3.heap.objs.size s3 (upd H2 l (.lst [])) fp) [] H' b:=fun vS=>KU c I3 UD lz vS;have gk:=hb s3.heap.objs.size s3 (upd H2 l (.lst [])) fp
  have K5:=ht s3.heap.objs.size s3 (upd H2 l (.lst [])) fp;have loop:codeAny (model X.prog X.w) X.A (.compLoop (.ListComp elt [⟨.Name x px,iter,ifs,0⟩] sc pos) 0 (.ref it) (.ref l) (compEnvC sc cs s3.heap.objs.size X.env))
      (GJ (model X.prog X.w) X.A E use Q (.ref l) (compEnvC sc cs s3.heap.objs.size X.env)) { s3 with heap:=h1,toks:=s3.toks+([]:List (Str×Value)).length }:=by
    refine vG (fun m s'=>∃(k:Nat)(ys:List V)(qs:List PV)(az H':Hp)(v:Option V),Inv (ip X Ns x sc cs s3.heap.objs.size s3 (upd H2 l (.lst [])) fp) [] (σ ++[v]) H' s'/\tn k s'.heap/\(∀ b∈fp,H' b=none)/\Ext cX H2 az H'/\H' l=some (.lst ys)/\az l=none /\
      cy X.K cl az ys qs/\m=ps.length - k/\k<=ps.length/\qs.length<=k/\kK qs (bY n t f ρ (ps.drop k))=bY n t f ρ ps) ?_ ps.length
      ⟨0,[],[],cX,upd H2 l (.lst []),none,IB,O8,fun b hb=>(lz b hb).1,x3,bU,R0,.nil,by omega,aat _,aat _,C2 _⟩
    rintro m s4 ⟨k,ys,qs,UE,H4,v4,I4,Pb,Pc,x4,GL,Bg,rq,rfl,hk,Ye,e4⟩;have uN:bc cX H4:=x4.cj.trans x4.sub
    by_cases iF:k<ps.length
    . obtain⟨go,yl⟩:=(ov H4 k uN).1 (by rw[uM];exact iF);refine YA (T.item (ip X Ns x sc cs s3.heap.objs.size s3 (upd H2 l (.lst [])) fp) rfl rfl rfl hc k [] s4 (σ ++[v4]) H4 (fun _ _=>False) I4 (lq Pc) Pb go) (fun rr s5 ⟨u,hr,h5⟩=>?_) fun _ _ z=>z;subst hr;refine ie h5 fun _ s6 ⟨x6,H6,I6,r6,y6,GN,UG⟩=>?_;obtain⟨eH,UH⟩:=yl x6 H6 y6;subst eH;obtain⟨p6,Pd,UI⟩:=bA.get' UH;have R1:=UI.keep x4.cj
      have rQ:ps.drop k=p6::ps.drop (k+1):=by
        rw[aaM iF];rw[YV iF]at Pd;rw[Zr Pd]
      rw[rQ]at e4;have UJ:bY n t f ρ (p6::ps.drop (k+1))≠.stuck:=Fb (by rw[e4];exact hL)
      have UK:=I6.pinned (lq UG) (T.obj _ _ GN);refine aaY (jd (X:=ip X Ns x sc cs s3.heap.objs.size s3 (upd H2 l (.lst [])) fp) UK lX UC (.inl Pa) r6 (fun s7 I7=>?_) (.inr Pa));have eσ:(σ ++[v4]).set n (some x6)=σ ++[some x6]:=by rw[<- O9,List.set_append_right _ _ (YD _)];simp
      rw[eσ]at I7;have r7:=(rk.keep x4).snoc R1
      rw[O9]at r7;have again:∀{s9:Shared}{oZ H9:Hp}{GO:List V}{C8:List PV},Inv (ip X Ns x sc cs s3.heap.objs.size s3 (upd H2 l (.lst [])) fp) ([]++kY fp s6.heap) (σ ++[some x6]) H9 s9->Ext cX H2 oZ H9->H9 l=some (.lst GO)->oZ l=none->cy X.K cl oZ GO C8->C8.length<=k+1 ->
          kK C8 (bY n t f ρ (ps.drop (k+1)))=bY n t f ρ ps ->
          ∃ m,m<ps.length - k/\∃(k:Nat)(ys:List V)(qs:List PV)(az H':Hp)(v:Option V),Inv (ip X Ns x sc cs s3.heap.objs.size s3 (upd H2 l (.lst [])) fp) [] (σ ++[v]) H' s9/\tn k s9.heap/\(∀ b∈fp,H' b=none)/\Ext cX H2 az H'/\H' l=some (.lst ys)/\az l=none /\
            cy X.K cl az ys qs/\m=ps.length - k/\k<=ps.length/\qs.length<=k/\kK qs (bY n t f ρ (ps.drop k))=bY n t f ρ ps:=fun{s9 oZ H9 GO C8} I9 x9 K6 Bh UL UM UN=>by
        refine⟨ps.length - (k+1),by omega,k+1,GO,C8,oZ,H9,some x6,I9.gI,T.keep _ _ _ GN fun b hb o e=>(I9.pin (b,o) (YZ _ (YZ _ (gH hb e)))).1,fun b hb=>?_,x9,K6,Bh,UL,rfl,iF,UM,UN⟩;obtain⟨o,e,d⟩:=T.obj _ _ GN b hb;exact(I9.pin (b,o) (YZ _ (YZ _ (gH hb e)))).2.1
      have Pe:H6 l≠none:=by rw[GL];intro z;cases z
      have Pf:∀ b∈fp,∃ p∈[]++kY fp s6.heap,p.1=b:=fun b hb=>by
        obtain⟨o,e,d⟩:=T.obj _ _ GN b hb;exact⟨(b,o),YZ _ (gH hb e),rfl⟩
      rcases yy UJ with⟨et,e5⟩ | ⟨et,v,ev,e5⟩ | ⟨et,d,ev,e5⟩
      . refine wO K5 I7 r7 et fun s8 GP H8 I8 x8=>?_;rw[Yx (by decide)];exact again I8 (x4.trans x8) (x8.all _ _ GL) (by rw[x8.old l Pe];exact Bg) (rq.keep x8.cj) (by omega) (by rw[<- e5];exact e4)
      . refine wO K5 I7 r7 et fun s8 GP H8 I8 x8=>?_;rw[Yy rfl];have r8:=r7.keep x8
        refine YA (gk.run _ s8 _ aK H0 GP H8 _ I8 r8 (by rw[ev];intro z;cases z) Pf) (fun u s9 q9=>?_) fun u s9 q9=>?_
        . obtain⟨p9,v9,oZ,H9,e9,I9,UO,x9,UP⟩:=q9;rw[ev]at e9;cases e9;have Pg:H8 l=some (.lst ys):=x8.all _ _ GL
          have K6:H9 l=some (.lst ys):=x9.all _ _ Pg;have Bh:oZ l=none:=by rw[x9.old l (by rw[Pg];intro z;cases z),x8.old l Pe];exact Bg
          refine ie (Cd (X:=ip X Ns x sc cs s3.heap.objs.size s3 (upd H2 l (.lst [])) fp) _ s9 _ H9 (.ref l) [v9] (.ref l) [u] (fun w H'=>H'=upd H9 l (.lst (ys ++[v9]))) I9 rfl (.cons UO .nil) ⟨l,ys,v9,rfl,rfl,K6,by rw[rq.length];exact aaQ (show qs.length<=1000000 by omega) (by decide),rfl⟩) fun w Yf ⟨w',Yg,UQ,_,UR⟩=>?_;subst UR;have GQ:=(x4.trans x8).trans x9
          have fV:Ext cX H2 oZ (upd H9 l (.lst (ys ++[v9]))):=by
            refine⟨fun b o q=>?_,GQ.cj,fun b o q=>?_,GQ.old⟩
            . have e:b≠l:=fun z=>by rw[z,GK]at q;cases q
              rw[bJ e];exact GQ.all b o q
            . have e:b≠l:=fun z=>by rw[z,Bh]at q;cases q
              rw[bJ e];exact GQ.sub b o q
          exact again UQ fV bU Bh (((rq.keep x8.cj).keep x9.cj).append (.cons UP .nil)) (by rw[Zt];simp;omega) (by rw[<- C1,<- e5];exact e4)
        . obtain⟨d,_,_,_,_,_,e9,_⟩:=q9;rw[ev]at e9;cases e9
      . refine wO K5 I7 r7 et fun s8 GP H8 I8 x8=>?_;rw[Yy rfl];have r8:=r7.keep x8
        refine YA (gk.run _ s8 _ aK H0 GP H8 _ I8 r8 (by rw[ev];intro z;cases z) Pf) (fun u s9 q9=>?_) fun u s9 q9=>?_
        . obtain⟨p9,v9,oZ,H9,e9,_⟩:=q9;rw[ev]at e9;cases e9
        obtain⟨d',a,oZ,H9,B,a0,e9,rfl,I9,x9,R3,US,UT⟩:=q9;rw[ev]at e9;cases e9;rw[e5]at e4;have Ff:res=.exc d:=by rw[ef,ek,<- e4];rfl
        have IX:Inv X pins σ H9 s9:=I3.rB I9.os I9.base I9.bQ I9.bare fun b hb=>⟨(lz b hb).2.2.2.1,(lz b hb).2.1,(lz b hb).2.2.2.2.1,(lz b hb).2.2.2.2.2⟩;have there:∀ b,iT X pins H9 b->H9 b≠none\/∃ o,s3.heap.get? b=some o:=fun b fB=>by
          rcases fB with h | ⟨p,hp,e⟩ | ⟨o,h⟩ | ⟨y,h⟩
          . exact .inl h
          . exact .inr ⟨_,by rw[<- e];exact(I3.pin p hp).1⟩
          . exact .inr (I3.base.there b o h (W.ex b))
          . obtain⟨v,o',q,_⟩:=I3.cell y b h;exact .inr ⟨o',q⟩
        have uo:∀ b,iT X pins H9 b->b≠s3.heap.objs.size:=fun b fB z=>by
          rcases there b fB with h | ⟨o,h⟩
          . rw[z]at h;exact h I9.free
          . exact absurd (YO h) (by rw[z];exact ZI _)
        have K7:lV X pins H9 (PySem.W.hideAll B [s3.heap.objs.size]) s9.heap:=fun b o e fB hn=>by
          refine abm _ (R3 b o e ?_ hn) (fun z=>uo b fB (Zu.mp z));rcases there b fB with h | h
          . exact .inl h
          . exact .inr (.inr (.inl h))
        have C9:iH X pins H9 s3.heap.objs.size:=I3.tJ (YD _) I9.free;have UU:s3.heap.objs.size ∉ fq X.stack:=fun z=>by
          obtain⟨_,o,ho,_⟩:=I3.stack.mem z;exact absurd (YO ho) (ZI _)
        obtain⟨m9,UW,_⟩:=I9.loc;show wpAny _ X.A (noteFrame (.ref a) X.env) _ _ s9
        refine pO W I.ok.frames US (.inr (.inr UT)) fun h5 hh u5 UX=>?_;have CA:=C3 (C:=s3.heap.objs.size) hh
        have I5:=Inv.gq W IX K7 CA.1 u5 (tk:=s9.toks);have c5:=K7.gq W IX CA.1
        have Dc:h5.Ns s3.heap.objs.size m9:=u5.ns UW;refine⟨m9,Dc,fun h6 wW=>?_⟩;have K8:=IV CA (acF _ YW) UU Dc wW
        have I6:=oV I5 C9 wW;have c6:=lV.gq (s:={ s9 with heap:=h5 }) W I5 c5 K8.1
        have UY:kz a h6:=by
          obtain⟨o,ho,hd⟩:=UX;have na:a≠s3.heap.objs.size:=fun z=>by
            obtain⟨oe,UZ,_,_,_,he,_,Ph,_⟩:=hh.2.2.2;obtain⟨o',es,ep,lT,nU,_⟩:=Dc;rw[z,lT]at he;cases he;rw[nU]at Ph;cases Ph
          exact⟨o,by rw[wW.2 a na];exact ho,hd⟩
        unfold PySem.passOn;have R4:=K8
        obtain⟨k1,k2,Yh,oe,UZ,T',oT,ts,he,hcls,hd,wG,_⟩:=R4;refine YE (aco he hd wG ?_);rw[Yx (show ¬((Value.ref T' == Value.none)=true) from by simp)]
        show wpAny _ X.A (do setFlight (.ref a) X.env.frame;throw (Value.ref a)) _ _ _;rw[W.fr];refine YE (uJ (s:={ s9 with heap:=h6 }) UY K8 fun h7 K9 u7 U1=>wpAny_throw ?_);have I7:=Inv.gq (s:={ s9 with heap:=h6 }) W I6 c6 K9.1 u7 (tk:=s9.toks)
        exact hX _ _ ⟨d,Ff,a,oZ,H9,rfl,I7,((x2.trans x4).trans x8).trans x9,_,a0,lV.gq (s:={ s9 with heap:=h6 }) W I6 c6 K9.1,U1,.inr (.inl K9)⟩
    . have CK:k=ps.length:=by omega
      subst CK;refine YA (T.done (ip X Ns x sc cs s3.heap.objs.size s3 (upd H2 l (.lst [])) fp) rfl rfl rfl hc ps.length [] s4 (σ ++[v4]) H4 (fun _ _=>False) I4 (lq Pc) Pb ((ov H4 ps.length uN).2 (by rw[uM];exact YD _))) (fun rr s5 ⟨hr,I5⟩=>?_) fun _ _ z=>z;subst hr;rw[abY]at e4;have U2:bY n t f ρ ps=.ok qs:=by rw[<- e4];show R.ok (qs ++[])=_;rw[Ze]
      have Ff:res=.ok (.lst qs):=by rw[ef,ek,U2]
      obtain⟨m5,Dc,_⟩:=I5.loc;have xx:=x2.trans x4
      have U3:H l=none:=by
        cases q:H l with
        | none=>rfl
        | some o=>have:=x2.all l o q;rw[GK]at this;cases this
      have IX:Inv X pins σ H4 s5:=I3.rB I5.os I5.base I5.bQ I5.bare fun b hb=>⟨(lz b hb).2.2.2.1,(lz b hb).2.1,(lz b hb).2.2.2.2.1,(lz b hb).2.2.2.2.2⟩;exact hQ qs s5 (upd UE l (.lst ys)) H4 l s3.heap.objs.size Ff IX (xx.freeze GL Bg U3) (.lst (f7.of bU) (rq.keep (ez Bg _))) (I3.tJ (YD _) I5.free) ⟨m5,Dc⟩
  exact codeAny_compStart_list loop (T.self _ 0 _ _ _ O8 loop)
theorem wX{elt iter:Expr}{px pos:Pos}{n:Nat}(W:Own X)(hc:X.calm=true)(c0:X.Ok->wN X Ns x sc cs)(hn:X.N.length=n)(lX:(Ns ++[x]).Nodup)(hi:MI X cl (.Name x px) iter fa)
    (ht:∀ C s H fp,MC (ip X Ns x sc cs C s H fp) cl ifs t) (hb:∀ C s H fp,C4 (ip X Ns x sc cs C s H fp) cl elt f) (ll:autoParam (∀ y,foldedSetIterable iter X.env y=pure y) z_) :
    ME X cl (.ListComp elt [⟨.Name x px,iter,ifs,0⟩] sc pos) (eZ n fa t f):=by
  refine⟨?_⟩;intro pins s σ aK H0 Hf H ρ I r hs;rw[eval_ListComp];refine uU W hc c0 hn lX hi ht hb ll I r hs (fun _ _ h=>h) fun rs s5 uG H5 l C ek I5 x5 rp hf ⟨m,hm⟩=>?_;exact⟨m,hm,fun h' wW=>⟨.lst rs,.ref l,uG,H5,ek,oV I5 hf wW,rfl,x5,rp⟩⟩
noncomputable def nx(f:FE):FE:=fun ρ=>match f ρ with
  | .ok v=>.ok v
  | _=>.stuck
theorem Dd(h:ME X cl e f):C4 X cl e (nx f):=by
  refine⟨fun pins s σ aK H0 Hf H ρ I r hs _=>?_⟩;unfold nx at hs ⊢;cases e1:f ρ with
  | ok v =>
    refine YA (h pins s σ aK H0 Hf H ρ I r (by rw[e1];intro z;cases z)) (fun u s' q=>?_) fun u s' q=>?_
    . rw[e1]at q;exact q
    . obtain⟨d,e2,_⟩:=q;rw[e1]at e2;cases e2
  | exc d=>rw[e1]at hs;exact absurd rfl hs
  | stuck=>rw[e1]at hs;exact absurd rfl hs
theorem uV(n:Nat)(t:FT)(f:FE)(ρ:aJ):∀ l,bY n t (nx f) ρ l=gf n t f ρ l/\∀ c,gf n t f ρ l≠.exc c
  | []=>⟨rfl,fun _ z=>nomatch z⟩
  | p::r=>by
    obtain⟨a,b⟩:=uV n t f ρ r;unfold bY gf nx;cases t (cA n ρ ++[some p])with
    | exc c=>exact⟨rfl,fun _ z=>nomatch z⟩
    | stuck=>exact⟨rfl,fun _ z=>nomatch z⟩
    | ok c =>
      cases c with
      | false=>exact⟨a,b⟩
      | true =>
        cases f (cA n ρ ++[some p])with
        | exc c=>exact⟨rfl,fun _ z=>nomatch z⟩
        | stuck=>exact⟨rfl,fun _ z=>nomatch z⟩
        | ok v =>
          have a':bY n t (fun ρ=>match f ρ with | .ok v=>.ok v | _=>.stuck) ρ r=gf n t f ρ r:=a;simp only[a'];cases q:gf n t f ρ r with
          | ok vs=>exact⟨rfl,fun _ z=>nomatch z⟩
          | exc c=>exact absurd q (b c)
          | stuck=>exact⟨rfl,fun _ z=>nomatch z⟩
theorem y8(n:Nat)(it:FA)(t:FT)(f:FE):eZ n it t (nx f)=hU n it t f:=by
  funext ρ
  unfold eZ hU;congr 1
  funext l
  unfold gV j4;obtain⟨a,b⟩:=uV n t f ρ l;rw[a];cases q:gf n t f ρ l with
  | ok vs=>rfl
  | exc c=>exact absurd q (b c)
  | stuck=>rfl
theorem Fg{i:Nat}{y:Str}{py wY:Pos}{elt iter:Expr}{px pos:Pos}{n:Nat}(hN:X.N.Nodup)(hy:X.N[i]?=some y)(hl:Loc X.env.scope y)(W:Own X)(hc:X.calm=true)(c0:X.Ok->wN X Ns x sc cs)(hn:X.N.length=n)(lX:(Ns ++[x]).Nodup)(hi:MI X cl (.Name x px) iter fa)
    (ht:∀ C s H fp,MC (ip X Ns x sc cs C s H fp) cl ifs t) (hb:∀ C s H fp,ME (ip X Ns x sc cs C s H fp) cl elt f) (ll:autoParam (∀ y,foldedSetIterable iter X.env y=pure y) z_)
    (lj:autoParam (swapsWith (.ListComp elt [⟨.Name x px,iter,ifs,0⟩] sc pos) (some (.Name y py)) wY.line X.env=pure true) f_)
    (hf:autoParam (X.fn y=true\/X.env.scope.names.lookup y=some .local) q_) :
    MS X cl (.Assign [.Name y py] (.ListComp elt [⟨.Name x px,iter,ifs,0⟩] sc pos) wY) (aX i (hU n fa t f)):=by
  refine⟨?_⟩;intro pins s σ aK H0 Hf H ρ I r hs;unfold aX at hs ⊢;have cZ:hU n fa t f ρ≠.stuck:=fun z=>hs (by rw[z];rfl)
  rw[exec_Assign_Name_used _ _ _ _ lj];refine YE (abK (YE ?_));show wpAny _ X.A (do let _ <- comprehension (.ListComp elt [⟨.Name x px,iter,ifs,0⟩] sc pos) sc X.env _ (newList []) false (eval iter X.env) (some (assign (.Name y py) X.env))) _ _ s
  rw[<- y8 n fa t f]at cZ ⊢;have hE:∀ u s',dk X cl pins σ Hf H (eZ n fa t (nx f) ρ) u s'->kA X cl pins aK H0 Hf (mD (eZ n fa t (nx f) ρ) ρ fun v=>.next (ρ.set i (some v))) u s':=fun u s' ⟨d,e1,z⟩=>by
    rw[e1];exact oR r z
  refine YE (YA (uU (use:=some (assign (.Name y py) X.env)) (Q:=fun _ s'=>uL X cl pins aK H0 Hf (mD (eZ n fa t (nx f) ρ) ρ fun v=>.next (ρ.set i (some v))) .next s') W hc c0 hn lX hi ht (fun C s H fp=>Dd (hb C s H fp)) ll I r cZ hE ?_) (fun _ s' hq=>Zb (Zb hq)) fun _ _ e=>e);intro rs s5 uG H5 l C ek I5 x5 rp C9 U4;obtain⟨m,hm⟩:=U4;show wpAny _ X.A (assign (.Name y py) X.env (.ref l)) _ _ s5
  have CC:i<σ.length:=by rw[I.len];exact(YC.mp hy).1
  refine aaY (uq I5 hN hy hl (v:=.ref l) rfl (fun s6 I6 h6=>?_) hf);obtain⟨a,U5,ha⟩:=h6;have uo:C≠a:=by
    rcases ha with rfl | ha
    . exact C9.2.1
    . exact fun z=>C9.2.2.2.2.1 y a ha z.symm
  refine⟨m,hm.sameBut U5 uo,fun h' wW=>?_⟩;rw[ek];exact⟨_,_,uG,H5,rfl,oV I6 C9 wW,(r.keep x5).set i rp CC,x5.cj⟩
end
theorem La{N:List Str}(lX:N.Nodup)(lA:qX N x sc scope=true):(N ++[x]).Nodup:=by
  have hx:x ∉ N:=fun z=>by
    unfold qX at lA;have:=(Z4.mp lA).2
    rw[aay.mpr z]at this;cases this
  exact abQ.mpr ⟨lX,Z2.mpr ⟨List.not_mem_nil,acC⟩,fun a ha b hb e=>hx (by
    rw[Zu]at hb;rw[<- hb,<- e];exact ha)⟩
section
variable {P:Program}{w:World}{K:PySem.W.Frag}{mg:Str->Option Value}{base:Heap}{cl:Nat->Addr}
theorem IW{N:List Str}{elt iter:Expr}{px pos:Pos}{n:Nat}
    (lX:N.Nodup) (lA:qX N x sc scope=true) (hn:N.length=n) (hi:MI (bG P w K mg base cl N qual scope f cd A outer s H E) cl (.Name x px) iter fa)
    (ht:∀ C s' H' fp,MC (ip (bG P w K mg base cl N qual scope f cd A outer s H E) N x sc (nC sc (bG P w K mg base cl N qual scope f cd A outer s H E).env) C s' H' fp) cl ifs t)
    (hb:∀ C s' H' fp,C4 (ip (bG P w K mg base cl N qual scope f cd A outer s H E) N x sc (nC sc (bG P w K mg base cl N qual scope f cd A outer s H E).env) C s' H' fp) cl elt g)
    (ll:autoParam (∀ y,foldedSetIterable iter (bG P w K mg base cl N qual scope f cd A outer s H E).env y=pure y) z_) :
    ME (bG P w K mg base cl N qual scope f cd A outer s H E) cl (.ListComp elt [⟨.Name x px,iter,ifs,0⟩] sc pos) (eZ n fa t g):=wX dA rfl (fun ok=>wR lA rfl (fun _ _ h _=>h) ok) hn (La lX lA) hi ht hb ll
theorem De{N:List Str}{elt iter:Expr}{px pos:Pos}{n:Nat}
    (lX:N.Nodup) (lA:qX N x sc scope=true) (hn:N.length=n) (hi:MI (bG P w K mg base cl N qual scope f cd A outer s H E) cl (.Name x px) iter fa)
    (ht:∀ C s' H' fp,MC (ip (bG P w K mg base cl N qual scope f cd A outer s H E) N x sc (nC sc (bG P w K mg base cl N qual scope f cd A outer s H E).env) C s' H' fp) cl ifs t)
    (hb:∀ C s' H' fp,ME (ip (bG P w K mg base cl N qual scope f cd A outer s H E) N x sc (nC sc (bG P w K mg base cl N qual scope f cd A outer s H E).env) C s' H' fp) cl elt g)
    (ll:autoParam (∀ y,foldedSetIterable iter (bG P w K mg base cl N qual scope f cd A outer s H E).env y=pure y) z_) :
    ME (bG P w K mg base cl N qual scope f cd A outer s H E) cl (.ListComp elt [⟨.Name x px,iter,ifs,0⟩] sc pos) (hU n fa t g):=by
  rw[<- y8];exact wX dA rfl (fun ok=>wR lA rfl (fun _ _ h _=>h) ok) hn (La lX lA) hi ht (fun C s H fp=>Dd (hb C s H fp)) ll
theorem Fh{N:List Str}{i:Nat}{y:Str}{py wY:Pos}{elt iter:Expr}{px pos:Pos}{n:Nat}
    (lX:N.Nodup) (hy:N[i]?=some y) (hl:Loc scope y) (lA:qX N x sc scope=true) (hn:N.length=n) (hi:MI (bG P w K mg base cl N qual scope f cd A outer s H E) cl (.Name x px) iter fa)
    (ht:∀ C s' H' fp,MC (ip (bG P w K mg base cl N qual scope f cd A outer s H E) N x sc (nC sc (bG P w K mg base cl N qual scope f cd A outer s H E).env) C s' H' fp) cl ifs t)
    (hb:∀ C s' H' fp,ME (ip (bG P w K mg base cl N qual scope f cd A outer s H E) N x sc (nC sc (bG P w K mg base cl N qual scope f cd A outer s H E).env) C s' H' fp) cl elt g)
    (ll:autoParam (∀ y,foldedSetIterable iter (bG P w K mg base cl N qual scope f cd A outer s H E).env y=pure y) z_)
    (lj:autoParam (swapsWith (.ListComp elt [⟨.Name x px,iter,ifs,0⟩] sc pos) (some (.Name y py)) wY.line (bG P w K mg base cl N qual scope f cd A outer s H E).env=pure true) f_) :
    MS (bG P w K mg base cl N qual scope f cd A outer s H E) cl (.Assign [.Name y py] (.ListComp elt [⟨.Name x px,iter,ifs,0⟩] sc pos) wY) (aX i (hU n fa t g)):=Fg lX hy hl dA rfl (fun ok=>wR lA rfl (fun _ _ h _=>h) ok) hn (La lX lA) hi ht hb ll lj (.inl rfl)
end
inductive Cell where
  | obj (c:Nat) (fs:List (Str×PV))
  | ls (l:List PV)
  | dc (lS:List (Str×PV))
  | gone
abbrev aW:=List Cell
noncomputable def aS(i:Nat):PV:=.own [.int i]
noncomputable def n5:PV->Option Nat
  | .own [.int i]=>if 0<=i then some i.toNat else none
  | _=>none
theorem jP(i:Nat):n5 (aS i)=some i:=by
  show(if (0:Int)<=(i:Int) then some (i:Int).toNat else none)=_;rw[Yy (by omega)];simp
inductive RS (α:Type) where
  | ok (a:α) (S:aW)
  | exc (c:Nat) (S:aW)
  | stuck
noncomputable def RS.bind{α β:Type}:RS α->(α->aW->RS β)->RS β
  | .ok a S,k=>k a S
  | .exc c S,_=>.exc c S
  | .stuck,_=>.stuck
noncomputable def dC{α:Type}(S:aW):R α->RS α
  | .ok a=>.ok a S
  | .exc c=>.exc c S
  | .stuck=>.stuck
noncomputable def eQ:PV->Bool
  | .own _=>true
  | _=>false
def Vr(K:PySem.W.Frag)(cl:Nat->Addr)(as:List Addr)(Hf:Hp)(v:V)(p:PV):Prop:=match p with
  | .own l=>∃(i:Nat)(a:Addr),l=[.int (i:Int)]/\as[i]?=some a/\v=.ref a
  | p=>Rp K cl Hf v p
inductive fv (K:PySem.W.Frag) (cl:Nat->Addr) (as:List Addr) (Hf:Hp):List V->List PV->Prop where
  | nil:fv K cl as Hf [] []
  | cons {v:V}{p:PV}{vs:List V}{ps:List PV} (r:Vr K cl as Hf v p) (t:fv K cl as Hf vs ps):fv K cl as Hf (v::vs) (p::ps)
inductive iO (K:PySem.W.Frag) (cl:Nat->Addr) (as:List Addr) (Hf:Hp):List (Str×V)->List (Str×PV)->Prop where
  | nil:iO K cl as Hf [] []
  | cons {x:Str}{v:V}{p:PV}{vs:List (Str×V)}{ps:List (Str×PV)} (r:Vr K cl as Hf v p) (t:iO K cl as Hf vs ps):iO K cl as Hf ((x,v)::vs) ((x,p)::ps)
def cf(as:List Addr)(Hf:Hp)(aT:List Addr)(az:Hp):Prop:=(∃ t,aT=as++t)/\bc Hf az
theorem cf.refl(as:List Addr)(Hf:Hp):cf as Hf as Hf:=⟨⟨[],by simp⟩,bc.refl _⟩
theorem cf.trans(a:cf as Hf cz aM)(b:cf cz aM qw cX):cf as Hf qw cX:=by
  obtain⟨⟨t,rfl⟩,s1⟩:=a;obtain⟨⟨t',rfl⟩,s2⟩:=b;exact⟨⟨t++t',by rw[List.append_assoc]⟩,s1.trans s2⟩
theorem cf.at_{as aT:List Addr}(g:cf as Hf aT az){i:Nat}{a:Addr}(h:as[i]?=some a):aT[i]?=some a:=by
  obtain⟨⟨t,rfl⟩,_⟩:=g;rw[YQ (YC.mp h).1];exact h
theorem cf.cj(s:bc Hf az):cf as Hf as az:=⟨⟨[],by simp⟩,s⟩
section
variable {K:PySem.W.Frag}{cl:Nat->Addr}{as aT:List Addr}{Hf az H H':Hp}
theorem Vr.keep(h:Vr K cl as Hf v p)(g:cf as Hf aT az):Vr K cl aT az v p:=by
  cases p with
  | own l=>obtain⟨i,a,e1,e2,e3⟩:=h;exact⟨i,a,e1,g.at_ e2,e3⟩
  | _=>exact Rp.keep g.2 h
theorem Vr.rp(h:Vr K cl as Hf v p)(n:eQ p=false):Rp K cl Hf v p:=by
  cases p with
  | own l=>cases n
  | _=>exact h
theorem Rp.A6(h:Rp K cl Hf v p):eQ p=false:=by cases h<;>rfl
theorem Vr.of(h:Rp K cl Hf v p):Vr K cl as Hf v p:=by
  cases p with
  | own l=>cases h
  | _=>exact h
theorem fv.keep:∀{vs:List V}{ps:List PV},fv K cl as Hf vs ps->cf as Hf aT az->fv K cl aT az vs ps
  | _,_,.nil,_=>.nil
  | _,_,.cons r t,g=>.cons (r.keep g) (t.keep g)
theorem fv.length:∀{vs:List V}{ps:List PV},fv K cl as Hf vs ps->vs.length=ps.length
  | _,_,.nil=>rfl
  | _,_,.cons _ t=>Z9 (·+1) t.length
theorem fv.get:∀{vs:List V}{ps:List PV}{i:Nat}{p:PV},fv K cl as Hf vs ps->ps[i]?=some p->∃ v,vs[i]?=some v/\Vr K cl as Hf v p
  | _,_,_,_,.nil,e=>by simp at e
  | _,_,0,_,.cons r _,e=>by simp at e;subst e;exact⟨_,rfl,r⟩
  | _,_,i+1,p,.cons _ t,e=>by
    obtain⟨v,h1,h2⟩:=fv.get (i:=i) (p:=p) t (by simpa using e);exact⟨v,by simpa using h1,h2⟩
theorem fv.set(h:Vr K cl as Hf v p):∀{vs:List V}{ps:List PV}(j:Nat),fv K cl as Hf vs ps->fv K cl as Hf (vs.set j v) (ps.set j p)
  | _,_,_,.nil=>.nil
  | _,_,0,.cons _ t=>.cons h t
  | _,_,j+1,.cons r t=>.cons r (fv.set h j t)
theorem fv.bA:∀{vs:List V}{ps:List PV},fv K cl as Hf vs ps->ps.any eQ=false->cy K cl Hf vs ps
  | _,_,.nil,_=>.nil
  | _,_,.cons r t,h=>by
    rw[ZD,Bool.or_eq_false_iff]at h;exact .cons (r.rp h.1) (t.bA h.2)
theorem fv.of:∀{vs:List V}{ps:List PV},cy K cl Hf vs ps->fv K cl as Hf vs ps
  | _,_,.nil=>.nil
  | _,_,.cons r t=>.cons (.of r) (.of t)
theorem iO.keep:∀{vs:List (Str×V)}{ps:List (Str×PV)},iO K cl as Hf vs ps->cf as Hf aT az->iO K cl aT az vs ps
  | _,_,.nil,_=>.nil
  | _,_,.cons r t,g=>.cons (r.keep g) (t.keep g)
theorem iO.length:∀{vs:List (Str×V)}{ps:List (Str×PV)},iO K cl as Hf vs ps->vs.length=ps.length
  | _,_,.nil=>rfl
  | _,_,.cons _ t=>Z9 (·+1) t.length
theorem iO.look(f:Str):∀{vs:List (Str×V)}{ps:List (Str×PV)},iO K cl as Hf vs ps->(∀ p,ps.lookup f=some p->∃ v,vs.lookup f=some v/\Vr K cl as Hf v p)/\(ps.lookup f=none->vs.lookup f=none)
  | _,_,.nil=>⟨fun p h=>(by cases h),fun _=>rfl⟩
  | _,_,.cons (x:=x) r t=>by
    have ih:=iO.look f t;rw[Zy,Zy];cases e:f == x with
    | true=>exact⟨fun p h=>(by cases h;exact⟨_,rfl,r⟩),fun h=>(by cases h)⟩
    | false=>exact ih
noncomputable def lB(f:Str)(v:PV):List (Str×PV)->List (Str×PV)
  | []=>[(f,v)]
  | (g,x)::r=>if g=f then (g,v)::r else (g,x)::lB f v r
theorem iO.put(h:Vr K cl as Hf v p):∀{vs:List (Str×V)}{ps:List (Str×PV)},iO K cl as Hf vs ps->iO K cl as Hf (ig f v vs) (lB f p ps)
  | _,_,.nil=>.cons h .nil
  | _,_,.cons (x:=x) r t=>by
    unfold ig lB;by_cases e:x=f
    . rw[Yy e,Yy e];exact .cons h t
    . rw[Yx e,Yx e];exact .cons r (t.put h)
end
noncomputable def kS(p:Str×V):Key×V:=(Sum.inr p.1,p.2)
def lC(K:PySem.W.Frag)(cl:Nat->Addr)(as:List Addr)(Hf H:Hp)(a:Addr):Cell->Prop
  | .obj c fs=>∃ dx vs,H a=some (.ins (cl c) dx vs)/\Hf a=none/\iO K cl as Hf vs fs
  | .ls l=>∃ vs,H a=some (.lst vs)/\Hf a=none/\fv K cl as Hf vs l
  | .dc l=>∃ vs,H a=some (.dK (vs.map kS))/\Hf a=none/\iO K cl as Hf vs l
  | .gone=>True
structure cC(K:PySem.W.Frag)(cl:Nat->Addr)(as:List Addr)(Hf H:Hp)(S:aW):Prop where
  sub:bc Hf H
  nd:as.Nodup
  len:as.length=S.length
  at_:∀(i:Nat)(a:Addr)(c:Cell),as[i]?=some a->S[i]?=some c->lC K cl as Hf H a c
  there:∀ a∈as,H a≠none
section
variable {K:PySem.W.Frag}{cl:Nat->Addr}{as aT:List Addr}{Hf az H H':Hp}{S S':aW}
theorem lC.ext(h:lC K cl as Hf H a c)(x:Ext Hf H az H'):lC K cl as az H' a c:=by
  cases c with
  | obj c fs =>
    obtain⟨dx,vs,h1,h2,h3⟩:=h;exact⟨dx,vs,x.all _ _ h1,by rw[x.old a (by rw[h1];intro z;cases z)];exact h2,h3.keep (.cj x.cj)⟩
  | ls l =>
    obtain⟨vs,h1,h2,h3⟩:=h;exact⟨vs,x.all _ _ h1,by rw[x.old a (by rw[h1];intro z;cases z)];exact h2,h3.keep (.cj x.cj)⟩
  | dc l =>
    obtain⟨vs,h1,h2,h3⟩:=h;exact⟨vs,x.all _ _ h1,by rw[x.old a (by rw[h1];intro z;cases z)];exact h2,h3.keep (.cj x.cj)⟩
  | gone=>trivial
theorem cC.ext(h:cC K cl as Hf H S)(x:Ext Hf H az H'):cC K cl as az H' S :=
  ⟨x.sub,h.nd,h.len,fun i a c h1 h2=>(h.at_ i a c h1 h2).ext x,fun a ha z=>by
    cases e:H a with
    | none=>exact h.there a ha e
    | some o=>rw[x.all _ _ e]at z;cases z⟩
theorem cC.write(h:cC K cl as Hf H S){i:Nat}{a:Addr}(ha:as[i]?=some a)(hf:Hf a=none)(hc:lC K cl as Hf (upd H a o) a c):cC K cl as Hf (upd H a o) (S.set i c):=by
  refine⟨fun b u q=>?_,h.nd,by rw[abb];exact h.len,fun j b d hb hd=>?_,fun b hb z=>?_⟩
  . have:b≠a:=fun z=>by rw[z,hf]at q;cases q
    rw[bJ this];exact h.sub b u q
  . by_cases e:i=j
    . subst e;rw[ha]at hb;cases hb;have hi:i<S.length:=by rw[<- h.len];exact(YC.mp ha).1
      rw[Y0 hi]at hd;cases hd;exact hc
    . rw[YR e]at hd;have ne:b≠a:=fun z=>by
        subst z;have l1:=(YC.mp ha)
        have l2:=(YC.mp hb);exact e ((abS h.nd).mp (l1.2.trans l2.2.symm))
      have:=h.at_ j b d hb hd
      cases d with
      | obj c fs=>obtain⟨dx,vs,h1,h2,h3⟩:=this;exact⟨dx,vs,by rw[bJ ne];exact h1,h2,h3⟩
      | ls l=>obtain⟨vs,h1,h2,h3⟩:=this;exact⟨vs,by rw[bJ ne];exact h1,h2,h3⟩
      | dc l=>obtain⟨vs,h1,h2,h3⟩:=this;exact⟨vs,by rw[bJ ne];exact h1,h2,h3⟩
      | gone=>trivial
  . by_cases e:b=a
    . subst e;rw[bU]at z;cases z
    . rw[bJ e]at z;exact h.there b hb z
theorem cC.new(h:cC K cl as Hf H S){a:Addr}(ha:H a=none)(hc:lC K cl (as ++[a]) Hf (upd H a o) a c):cC K cl (as ++[a]) Hf (upd H a o) (S ++[c]):=by
  have na:a ∉ as:=fun z=>h.there a z ha;have g:cf as Hf (as ++[a]) Hf:=⟨⟨[a],rfl⟩,bc.refl _⟩
  refine⟨fun b u q=>?_,abQ.mpr ⟨h.nd,by simp,fun x hx y hy e=>?_⟩,by simp[h.len],fun j b d hb hd=>?_,fun b hb z=>?_⟩
  . have:b≠a:=fun z=>by rw[z,h.sub.free ha]at q;cases q
    rw[bJ this];exact h.sub b u q
  . rw[Zu]at hy;exact na (by rw[<- hy,<- e];exact hx)
  . by_cases e:j<as.length
    . rw[YQ e]at hb;rw[YQ (by rw[<- h.len];exact e)]at hd;have ne:b≠a:=fun z=>na (by rw[<- z];exact aai hb)
      have:=h.at_ j b d hb hd
      cases d with
      | obj c fs=>obtain⟨dx,vs,h1,h2,h3⟩:=this;exact⟨dx,vs,by rw[bJ ne];exact h1,h2,h3.keep g⟩
      | ls l=>obtain⟨vs,h1,h2,h3⟩:=this;exact⟨vs,by rw[bJ ne];exact h1,h2,h3.keep g⟩
      | dc l=>obtain⟨vs,h1,h2,h3⟩:=this;exact⟨vs,by rw[bJ ne];exact h1,h2,h3.keep g⟩
      | gone=>trivial
    . have ej:j=as.length:=by
        have:=(YC.mp hb).1;rw[Zt,aa5]at this;omega
      subst ej;rw[Y6 (YD _),aaR]at hb;rw[h.len,Y6 (YD _),aaR]at hd;cases hb;cases hd;exact hc
  . rcases aaf.mp hb with hb | hb
    . have ne:b≠a:=fun z=>na (by rw[<- z];exact hb);rw[bJ ne]at z;exact h.there b hb z
    . rw[Zu]at hb;subst hb;rw[bU]at z;cases z
theorem cC.adopt(h:cC K cl as Hf H S){a:Addr}(na:a ∉ as)(ha:H a≠none)(hc:lC K cl (as ++[a]) Hf H a c):cC K cl (as ++[a]) Hf H (S ++[c]):=by
  have g:cf as Hf (as ++[a]) Hf:=⟨⟨[a],rfl⟩,bc.refl _⟩;refine⟨h.sub,abQ.mpr ⟨h.nd,by simp,fun x hx y hy e=>?_⟩,by simp[h.len],fun j b d hb hd=>?_,fun b hb=>?_⟩
  . rw[Zu]at hy;exact na (by rw[<- hy,<- e];exact hx)
  . by_cases e:j<as.length
    . rw[YQ e]at hb;rw[YQ (by rw[<- h.len];exact e)]at hd;have:=h.at_ j b d hb hd
      cases d with
      | obj c fs=>obtain⟨dx,vs,h1,h2,h3⟩:=this;exact⟨dx,vs,h1,h2,h3.keep g⟩
      | ls l=>obtain⟨vs,h1,h2,h3⟩:=this;exact⟨vs,h1,h2,h3.keep g⟩
      | dc l=>obtain⟨vs,h1,h2,h3⟩:=this;exact⟨vs,h1,h2,h3.keep g⟩
      | gone=>trivial
    . have ej:j=as.length:=by
        have:=(YC.mp hb).1;rw[Zt,aa5]at this;omega
      subst ej;rw[Y6 (YD _),aaR]at hb;rw[h.len,Y6 (YD _),aaR]at hd;cases hb;cases hd;exact hc
  . rcases aaf.mp hb with hb | hb
    . exact h.there b hb
    . rw[Zu]at hb;subst hb;exact ha
theorem cC.Df(h:cC K cl as Hf H S){a:Addr}{az:Hp}:Vr K cl (as ++[a]) az (.ref a) (aS S.length):=by
  refine⟨S.length,a,rfl,?_,rfl⟩;rw[<- h.len,Y6 (YD _),aaR];rfl
theorem cC.more(h:cC K cl as Hf H S){b:Addr}(hb:H b=none):cC K cl as Hf (upd H b o) S:=h.ext (Ext.wt h.sub hb o)
theorem cC.cj(h:cC K cl as Hf H S){i:Nat}{a:Addr}{l:List PV}(ha:as[i]?=some a)(hs:S[i]?=some (.ls l))(hn:l.any eQ=false) :
    ∃ az,cf as Hf as az/\cC K cl as az H (S.set i .gone)/\Rp K cl az (.ref a) (.lst l):=by
  obtain⟨vs,h1,h2,h3⟩:=h.at_ i a _ ha hs
  have sm:bc Hf (upd Hf a (.lst vs)):=ez h2 _;refine⟨upd Hf a (.lst vs),.cj sm,⟨fun b u q=>?_,h.nd,by rw[abb];exact h.len,fun j b d hb hd=>?_,h.there⟩,.lst (f7.of bU) ((h3.bA hn).keep sm)⟩
  . by_cases e:b=a
    . subst e;rw[bU]at q;cases q;exact h1
    . rw[bJ e]at q;exact h.sub b u q
  . by_cases e:i=j
    . subst e;have hi:i<S.length:=(YC.mp hs).1
      rw[Y0 hi]at hd;cases hd;trivial
    . rw[YR e]at hd;have ne:b≠a:=fun z=>by
        subst z;have l1:=(YC.mp ha)
        have l2:=(YC.mp hb);exact e ((abS h.nd).mp (l1.2.trans l2.2.symm))
      have:=h.at_ j b d hb hd
      cases d with
      | obj c fs=>obtain⟨dx,vs,g1,g2,g3⟩:=this;exact⟨dx,vs,g1,by rw[bJ ne];exact g2,g3.keep (.cj sm)⟩
      | ls l=>obtain⟨vs,g1,g2,g3⟩:=this;exact⟨vs,g1,by rw[bJ ne];exact g2,g3.keep (.cj sm)⟩
      | dc l=>obtain⟨vs,g1,g2,g3⟩:=this;exact⟨vs,g1,by rw[bJ ne];exact g2,g3.keep (.cj sm)⟩
      | gone=>trivial
end
noncomputable def ko:Option PV->Option PV
  | some (.own _)=>none
  | o=>o
noncomputable def hide(ρ:aJ):aJ:=ρ.map ko
structure dG(K:PySem.W.Frag)(cl:Nat->Addr)(as:List Addr)(Hf H:Hp)(σ:SV)(ρ:aJ)(S:aW):Prop where
  da:cC K cl as Hf H S
  slot:∀(i:Nat)(p:PV),ρ[i]?=some (some p)->∃ v,σ[i]?=some (some v)/\Vr K cl as Hf v p
section
variable {K:PySem.W.Frag}{cl:Nat->Addr}{as aT:List Addr}{Hf az H H':Hp}{σ:SV}{ρ:aJ}{S S':aW}
theorem uW{i:Nat}{p:PV}(h:(hide ρ)[i]?=some (some p)):ρ[i]?=some (some p)/\eQ p=false:=by
  unfold hide at h;rw[ZL]at h;cases e:ρ[i]? with
  | none=>rw[e]at h;cases h
  | some o =>
    rw[e]at h;cases o with
    | none=>cases h
    | some q =>
      cases q<;>first
        | (cases h;exact⟨rfl,rfl⟩)
        | (cases h;done)
theorem dG.rep(r:dG K cl as Hf H σ ρ S):Rep K cl Hf H Hf H σ (hide ρ):=by
  refine⟨Ext.refl r.da.sub,fun i p h=>?_,fun i j ps qs a h1 h2 _ _=>?_⟩
  . obtain⟨e,n⟩:=uW h;obtain⟨v,h1,h2⟩:=r.slot i p e;refine⟨v,h1,?_⟩;cases p with
    | own l=>cases n
    | _=>exact h2
  . have:=(uW h1).2;cases this
theorem dG.keep(r:dG K cl as Hf H σ ρ S)(g:cf as Hf aT az)(s:cC K cl aT az H' S'):dG K cl aT az H' σ ρ S' :=
  ⟨s,fun i p h=>by
    obtain⟨v,h1,h2⟩:=r.slot i p h;exact⟨v,h1,h2.keep g⟩⟩
theorem dG.set(r:dG K cl as Hf H σ ρ S)(i:Nat)(h:Vr K cl as Hf v p)(hl:i<σ.length):dG K cl as Hf H (σ.set i (some v)) (ρ.set i (some p)) S:=by
  refine⟨r.da,fun j q hq=>?_⟩;by_cases e:i=j
  . subst e;have hi:i<ρ.length:=by
      rw[aah]at hq;by_cases hh:i<ρ.length
      . exact hh
      . simp[hh]at hq
    rw[Y0 hi]at hq;cases hq;exact⟨v,by rw[Y0 hl],h⟩
  . rw[YR e]at hq;obtain⟨w,a,b⟩:=r.slot j q hq;exact⟨w,by rw[YR e];exact a,b⟩
theorem dG.forget(r:dG K cl as Hf H σ ρ S)(i:Nat)(w:Option V):dG K cl as Hf H (σ.set i w) (ρ.set i none) S:=by
  refine⟨r.da,fun j q hq=>?_⟩;have e:i≠j:=fun z=>by
    subst z;rw[aah]at hq;by_cases hh:i<ρ.length<;>simp[hh]at hq
  rw[YR e]at hq;obtain⟨v,a,b⟩:=r.slot j q hq;exact⟨v,by rw[YR e];exact a,b⟩
end
abbrev GE:=aJ->aW->RS PV
abbrev GT:=aJ->aW->RS Bool
abbrev GA:=aJ->aW->RS (List PV)
section
variable (X:Cx) (cl:Nat->Addr)
def uX(pins:List (Addr×Obj))(σ:SV)(as:List Addr)(Hf:Hp)(r:RS PV)(u:Value)(s:Shared):Prop :=
  ∃ p v S aT az H',r=.ok p S/\Inv X pins σ H' s/\RelV v u/\cf as Hf aT az/\cC X.K cl aT az H' S/\Vr X.K cl aT az v p
def Dg(pins:List (Addr×Obj))(σ:SV)(as:List Addr)(Hf:Hp)(r:RS Bool)(b:Bool)(s:Shared):Prop :=
  ∃ S aT az H',r=.ok b S/\Inv X pins σ H' s/\cf as Hf aT az/\cC X.K cl aT az H' S
def U6(pins:List (Addr×Obj))(σ:SV)(as:List Addr)(Hf:Hp)(r:RS (List PV))(us:List Value)(s:Shared):Prop :=
  ∃ ps vs S aT az H',r=.ok ps S/\Inv X pins σ H' s/\Vals vs us/\cf as Hf aT az/\cC X.K cl aT az H' S/\fv X.K cl aT az vs ps
def jK{α:Type}(pins:List (Addr×Obj))(σ:SV)(as:List Addr)(Hf:Hp)(r:RS α)(u:Value)(s:Shared):Prop :=
  ∃ c S aT az H' e,r=.exc c S/\u=.ref e/\Inv X pins σ H' s/\cf as Hf aT az/\cC X.K cl aT az H' S/\nV X pins H' e (cl c) s.heap
structure SE(e:Expr)(f:GE):Prop where
  go:∀(pins:List (Addr×Obj))(s:Shared)(σ:SV)(as:List Addr)(Hf H:Hp)(ρ:aJ)(S:aW),Inv X pins σ H s->dG X.K cl as Hf H σ ρ S->f ρ S≠.stuck ->
    wpAny (model X.prog X.w) X.A (eval e X.env) (uX X cl pins σ as Hf (f ρ S)) (jK X cl pins σ as Hf (f ρ S)) s
structure ST(e:Expr)(f:GT):Prop where
  go:∀(pins:List (Addr×Obj))(s:Shared)(σ:SV)(as:List Addr)(Hf H:Hp)(ρ:aJ)(S:aW),Inv X pins σ H s->dG X.K cl as Hf H σ ρ S->f ρ S≠.stuck ->
    wpAny (model X.prog X.w) X.A (isTrue e X.env (eval e X.env)) (Dg X cl pins σ as Hf (f ρ S)) (jK X cl pins σ as Hf (f ρ S)) s
structure SA(es:List Expr)(f:GA):Prop where
  len:∀ ρ S ps S',f ρ S=.ok ps S'->ps.length=es.length
  go:∀(pos:Pos)(pins:List (Addr×Obj))(s:Shared)(σ:SV)(as:List Addr)(Hf H:Hp)(ρ:aJ)(S:aW),Inv X pins σ H s->dG X.K cl as Hf H σ ρ S->f ρ S≠.stuck ->
    wpAny (model X.prog X.w) X.A (spliced (backTo pos (starEach es X.env))) (U6 X cl pins σ as Hf (f ρ S)) (jK X cl pins σ as Hf (f ρ S)) s
end
section
variable {X:Cx}{cl:Nat->Addr}{pins:List (Addr×Obj)}{s:Shared}{σ:SV}{as cz:List Addr}{Hf H aM H1:Hp}{ρ:aJ}{S:aW}{α:Type}
theorem uX.from(g:cf as Hf cz aM)(h:uX X cl pins σ cz aM r u s'):uX X cl pins σ as Hf r u s':=by
  obtain⟨p,v,S,aT,az,H',e1,I,rv,g',st,rp⟩:=h;exact⟨p,v,S,aT,az,H',e1,I,rv,g.trans g',st,rp⟩
theorem Dg.from(g:cf as Hf cz aM)(h:Dg X cl pins σ cz aM r u s'):Dg X cl pins σ as Hf r u s':=by
  obtain⟨S,aT,az,H',e1,I,g',st⟩:=h;exact⟨S,aT,az,H',e1,I,g.trans g',st⟩
theorem jK.from{r:RS α}(g:cf as Hf cz aM)(h:jK X cl pins σ cz aM r u s'):jK X cl pins σ as Hf r u s':=by
  obtain⟨c,S,aT,az,H',e,e1,eu,I,g',st,x⟩:=h;exact⟨c,S,aT,az,H',e,e1,eu,I,g.trans g',st,x⟩
theorem nI{β:Type}{r:RS α}{k:α->aW->RS β}(h:jK X cl pins σ as Hf r u s'):jK X cl pins σ as Hf (r.bind k) u s':=by
  obtain⟨c,S,aT,az,H',e,e1,eu,I,g',st,x⟩:=h;exact⟨c,S,aT,az,H',e,by rw[e1];rfl,eu,I,g',st,x⟩
theorem SE.run(h:SE X cl e f)(I:Inv X pins σ H1 s)(r:dG X.K cl cz aM H1 σ ρ S)(g0:cf as Hf cz aM){k:PV->aW->RS α}(hs:(f ρ S).bind k≠.stuck){Q:Value->Shared->Prop}
    (ok:∀ p v u s' aT az H' S',(f ρ S).bind k=k p S'->Inv X pins σ H' s'->RelV v u->cf cz aM aT az->dG X.K cl aT az H' σ ρ S'->Vr X.K cl aT az v p->Q u s') :
    wpAny (model X.prog X.w) X.A (eval e X.env) Q (jK X cl pins σ as Hf ((f ρ S).bind k)) s:=by
  have hf:f ρ S≠.stuck:=fun z=>hs (by rw[z];rfl);refine YA (h.go pins s σ cz aM H1 ρ S I r hf) (fun u s' q=>?_) fun u s' q=>(nI q).from g0;obtain⟨p,v,S',aT,az,H',e1,I',rv,g,st,rp⟩:=q;exact ok p v u s' aT az H' S' (by rw[e1];rfl) I' rv g (r.keep g st) rp
theorem ST.run(h:ST X cl e f)(I:Inv X pins σ H1 s)(r:dG X.K cl cz aM H1 σ ρ S)(g0:cf as Hf cz aM){k:Bool->aW->RS α}(hs:(f ρ S).bind k≠.stuck){Q:Bool->Shared->Prop}
    (ok:∀ b s' aT az H' S',(f ρ S).bind k=k b S'->Inv X pins σ H' s'->cf cz aM aT az->dG X.K cl aT az H' σ ρ S'->Q b s') :
    wpAny (model X.prog X.w) X.A (isTrue e X.env (eval e X.env)) Q (jK X cl pins σ as Hf ((f ρ S).bind k)) s:=by
  have hf:f ρ S≠.stuck:=fun z=>hs (by rw[z];rfl);refine YA (h.go pins s σ cz aM H1 ρ S I r hf) (fun u s' q=>?_) fun u s' q=>(nI q).from g0;obtain⟨S',aT,az,H',e1,I',g,st⟩:=q;exact ok u s' aT az H' S' (by rw[e1];rfl) I' g (r.keep g st)
theorem SA.run{es:List Expr}(h:SA X cl es f)(pos:Pos)(I:Inv X pins σ H1 s)(r:dG X.K cl cz aM H1 σ ρ S)(g0:cf as Hf cz aM){k:List PV->aW->RS α}(hs:(f ρ S).bind k≠.stuck){Q:List Value->Shared->Prop}
    (ok:∀ ps vs us s' aT az H' S',ps.length=es.length->(f ρ S).bind k=k ps S'->Inv X pins σ H' s'->Vals vs us->cf cz aM aT az->dG X.K cl aT az H' σ ρ S'->fv X.K cl aT az vs ps->Q us s') :
    wpAny (model X.prog X.w) X.A (spliced (backTo pos (starEach es X.env))) Q (jK X cl pins σ as Hf ((f ρ S).bind k)) s:=by
  have hf:f ρ S≠.stuck:=fun z=>hs (by rw[z];rfl);refine YA (h.go pos pins s σ cz aM H1 ρ S I r hf) (fun u s' q=>?_) fun u s' q=>(nI q).from g0;obtain⟨ps,vs,S',aT,az,H',e1,I',rv,g,st,rp⟩:=q;exact ok ps vs u s' aT az H' S' (h.len _ _ _ _ e1) (by rw[e1];rfl) I' rv g (r.keep g st) rp
theorem vM(st:cC X.K cl as Hf H S)(h:gb X cl pins σ Hf H r u s'):uX X cl pins σ as Hf (dC S r) u s':=by
  obtain⟨p,v,az,H',e1,I',rv,ex,rp⟩:=h;exact⟨p,v,S,as,az,H',by rw[e1];rfl,I',rv,.cj ex.cj,st.ext ex,.of rp⟩
theorem rX{r:R α}(st:cC X.K cl as Hf H S)(h:dk X cl pins σ Hf H r u s'):jK X cl pins σ as Hf (dC S r) u s':=by
  obtain⟨c,e1,e,az,H',eu,I',ex,x⟩:=h;exact⟨c,S,as,az,H',e,by rw[e1];rfl,eu,I',.cj ex.cj,st.ext ex,x⟩
theorem GR(st:cC X.K cl as Hf H S)(h:qk X pins σ Hf H r u s'):Dg X cl pins σ as Hf (dC S r) u s':=by
  obtain⟨az,H',e1,I',ex⟩:=h;exact⟨S,as,az,H',by rw[e1];rfl,I',.cj ex.cj,st.ext ex⟩
theorem lD{r:R α}(h:dC S r≠.stuck):r≠.stuck:=fun z=>h (by rw[z];rfl)
noncomputable def gP(f:FE):GE:=fun ρ S=>dC S (f (hide ρ))
noncomputable def iq(f:FT):GT:=fun ρ S=>dC S (f (hide ρ))
theorem aB(h:ME X cl e f):SE X cl e (gP f):=by
  refine⟨fun pins s σ as Hf H ρ S I r hs=>?_⟩;exact YA (h pins s σ Hf H Hf H (hide ρ) I r.rep (lD hs)) (fun _ _ q=>vM r.da q) fun _ _ q=>rX r.da q
theorem dw(h:MT X cl e f):ST X cl e (iq f):=by
  refine⟨fun pins s σ as Hf H ρ S I r hs=>?_⟩;exact YA (h pins s σ Hf H Hf H (hide ρ) I r.rep (lD hs)) (fun _ _ q=>GR r.da q) fun _ _ q=>rX r.da q
noncomputable def bB(i:Nat):GE:=fun ρ S=>match ρ[i]? with
  | some (some p)=>.ok p S
  | _=>.stuck
theorem Lb{i:Nat}{x:Str}{pos:Pos}(hN:X.N[i]?=some x)(hv:ou X.env.scope x) (hd:autoParam ((x ==("__debug__" : Str))=false) w_) (ey:autoParam ((x ==("__classdict__" : Str))=false) w_) :
    SE X cl (.Name x pos) (bB i):=by
  refine⟨fun pins s σ as Hf H ρ S I r hs=>?_⟩;unfold bB at hs ⊢;split at hs
  . next p e =>
    obtain⟨v,h1,h2⟩:=r.slot i p e;exact yS I hN hv h1 (fun u ru=>⟨p,v,S,as,Hf,H,rfl,I,ru,.refl _ _,r.da,h2⟩) hd ey
  . exact absurd rfl hs
theorem lE{K:PySem.W.Frag}{v:V}{p:PV}{i:Nat}(h:Vr K cl as Hf v p)(e:n5 p=some i):∃ a,as[i]?=some a/\v=.ref a:=by
  cases p with
  | own l =>
    obtain⟨j,a,rfl,h2,h3⟩:=h;have:n5 (.own [.int (j:Int)])=some j:=jP j
    rw[this]at e;cases e;exact⟨a,h2,h3⟩
  | _=>cases e
noncomputable def atK(c:Nat)(f:Str)(p:PV)(S:aW):RS PV:=match n5 p with
  | some i=>(match S[i]? with
    | some (.obj d fs)=>if d=c then (match fs.lookup f with
      | some q=>.ok q S
      | none=>.stuck) else .stuck
    | _=>.stuck)
  | none=>.stuck
noncomputable def dM(c:Nat)(f:Str)(a:GE):GE:=fun ρ S=>(a ρ S).bind (atK c f)
theorem Lc(h:atK c f p S≠.stuck):∃ i fs q,n5 p=some i/\S[i]?=some (.obj c fs)/\fs.lookup f=some q/\atK c f p S=.ok q S:=by
  unfold atK at h ⊢;split at h
  . next i e1 =>
    split at h
    . next d fs e2 =>
      split at h
      . next e3 =>
        subst e3;split at h
        . next q e4=>exact⟨i,fs,q,e1,e2,e4,by simp only[e1,e2,Y4,e4]⟩
        . exact absurd rfl h
      . exact absurd rfl h
    . exact absurd rfl h
  . exact absurd rfl h
theorem cU{e:Expr}{g:GE}{c:Nat}{f:Str}{pos:Pos}(hc:L2.iP X.K (cl c))(hn:iQ X.K (cl c) f)(he:SE X cl e g)(hb:autoParam (attributeBase e f X.env (eval e X.env)=eval e X.env) f_):SE X cl (.Attribute e f pos) (dM c f g):=by
  refine⟨fun pins s σ as Hf H ρ S I r hs=>?_⟩;unfold dM at hs ⊢;refine Iv hb (he.run I r (.refl _ _) hs fun p v u s1 cz aM H1 S1 e1 I1 rv g1 r1 rp=>?_);rw[e1]at hs ⊢;obtain⟨i,fs,q,h1,h2,h3,h4⟩:=Lc hs;rw[h4];obtain⟨a,ha,rfl⟩:=lE rp h1;obtain rfl:u=Value.ref a:=rv;obtain⟨dx,vs,k1,k2,k3⟩:=r1.da.at_ i a _ ha h2
  obtain⟨w,l1,l2⟩:=(k3.look f).1 q h3;exact AM I1 k1 hc hn l1 fun u' s2 I2 ru=>⟨q,w,S1,cz,aM,H1,rfl,I2,ru,g1,r1.da,l2⟩
noncomputable def kB(p q:PV)(S:aW):RS PV:=match n5 p with
  | some i=>(match q with
    | .int k=>(match S[i]? with
      | some (.ls l)=>dC S (fK l k)
      | _=>.stuck)
    | _=>.stuck)
  | none=>if eQ p||eQ q then .stuck else dC S (ar p q)
noncomputable def hV(a b:GE):GE:=fun ρ S=>(a ρ S).bind fun p S1=>(b ρ S1).bind fun q S2=>kB p q S2
theorem Fi{K:PySem.W.Frag}{l:List PV}{i:Int}{vs:List V}(h:fK l i≠.stuck)(r:fv K cl as Hf vs l):∃ v p,fK l i=.ok p/\oy vs i=some v/\Vr K cl as Hf v p:=by
  unfold fK at h ⊢;unfold oy;have e:qf vs.length i=oB l.length i:=by rw[r.length];rfl
  rw[e];cases q:oB l.length i with
  | none=>rw[q]at h;exact absurd rfl h
  | some j =>
    rw[q]at h;dsimp only at h ⊢;cases w:l[j]? with
    | none=>rw[w]at h;exact absurd rfl h
    | some p =>
      obtain⟨v,h1,h2⟩:=r.get w;exact⟨v,p,rfl,h1,h2⟩
theorem Dh(a b:Expr)(hx:tO b):dQ X cl (fun v u=>subscriptTail a b v u) ar:=by
  intro pins s σ Hf H x y v u p q I sm rv ru rp rq hs;cases q<;>first
    | (cases p<;>exact absurd rfl hs)
    | skip
  rename_i i;cases rq;cases p<;>first
    | exact absurd rfl hs
    | skip
  . rename_i z;cases rp;have cZ:ar (.str z) (.int i)≠.stuck:=hs
    unfold ar at cZ ⊢;dsimp only at cZ ⊢;cases w:oB z.cps.toList.length i with
    | none=>rw[w]at cZ;exact absurd rfl cZ
    | some j =>
      rw[w]at cZ;dsimp only at cZ ⊢;cases w2:z.cps.toList[j]? with
      | none=>rw[w2]at cZ;exact absurd rfl cZ
      | some c =>
        rw[w2]at cZ;dsimp only at cZ ⊢;obtain⟨hz,e⟩:=eo cZ;refine fH e fun E=>(Cb (X:=X.bP E)) a b pins s σ H _ _ v u _ (I.bP E) rv ru ?_ (hx _ _);refine⟨z,i,c,rfl,rfl,hz,?_,Hf,Ext.refl sm,.str _⟩;unfold oy;have e2:qf z.cps.toList.length i=some j:=w
        rw[e2];exact w2
  . rename_i l;cases rp with
    | tup h r =>
      obtain⟨v',p',e1,e2,e3⟩:=nA (show fK l i≠.stuck from hs) r;refine fH (show ar (.tup l) (.int i)=.ok p' from e1) fun E=>(Ca (X:=X.bP E)) a b pins s σ H _ _ v u _ (I.bP E) rv ru ?_ (hx _ _)
      exact⟨_,_,i,v',rfl,rfl,bc.dZ sm h,e2,Hf,Ext.refl sm,e3⟩
  . rename_i l;cases rp with
    | lst h r =>
      obtain⟨v',p',e1,e2,e3⟩:=nA (show fK l i≠.stuck from hs) r;refine fH (show ar (.lst l) (.int i)=.ok p' from e1) fun E=>(tP (X:=X.bP E)) a b pins s σ H _ _ v u _ (I.bP E) rv ru ?_ (hx _ _)
      exact⟨_,_,i,v',rfl,rfl,sm.seq h,e2,Hf,Ext.refl sm,e3⟩
theorem gY{a b:Expr}{fa fb:GE}{pos:Pos}(ha:SE X cl a fa)(hb:SE X cl b fb)(hx:autoParam (tO b) g_):SE X cl (.Subscript a b pos) (hV fa fb):=by
  refine⟨fun pins s σ as Hf H ρ S I r hs=>?_⟩;unfold hV at hs ⊢;refine Subscript_ (ha.run I r (.refl _ _) hs fun p v u s1 cz aM H1 S1 e1 I1 rv g1 r1 rp=>?_);rw[e1]at hs ⊢;refine hb.run I1 r1 g1 hs fun q v' u' s2 qw cX H2 S2 e2 I2 fN g2 r2 rq=>?_;rw[e2]at hs ⊢;have lY:=g1.trans g2
  have Pj:=rp.keep g2;unfold kB at hs ⊢;split at hs
  . next i h1 =>
    split at hs
    . next k =>
      split at hs;rotate_left
      . exact absurd rfl hs
      next l h2 =>
      obtain⟨a',uY,rfl⟩:=lE Pj h1;obtain⟨vs,k1,k2,k3⟩:=r2.da.at_ i a' _ uY h2
      obtain⟨w,z,e3,e4,e5⟩:=Fi (lD hs) k3;have U7:Rp X.K cl cX v' (.int k):=rq
      cases U7;rw[e3];show wpAny _ _ _ (uX X cl pins σ as Hf (.ok z S2)) _ _
      generalize jK X cl pins σ as Hf (dC S2 (R.ok z))=E;refine ie ((tP (X:=X.bP E)) a b pins s2 σ H2 (.ref a') (.int k) u u' (fun x H'=>x=w/\H'=H2) (I2.bP E) rv fN ⟨a',vs,k,w,rfl,rfl,f7.of k1,e4,rfl,rfl⟩ (hx _ _)) ?_;rintro u3 s3 ⟨x3,H3,I3,r3,rfl,rfl⟩;exact⟨z,x3,S2,qw,cX,H3,rfl,I3.kX,r3,lY,r2.da,e5⟩
    . exact absurd rfl hs
  . next h1 =>
    split at hs
    . exact absurd rfl hs
    . next hn =>
      try rw[Yx hn]
      rw[acb,not_or]at hn;have n1:eQ p=false:=by simpa using hn.1
      have n2:eQ q=false:=by simpa using hn.2
      exact YA (Dh a b hx pins s2 σ cX H2 v v' u u' p q I2 r2.da.sub rv fN (Pj.rp n1) (rq.rp n2) (lD hs)) (fun _ _ h=>(vM r2.da h).from lY) fun _ _ h=>(rX r2.da h).from lY
noncomputable def zA(o:PV->PV->R PV)(p q:PV)(S:aW):RS PV:=if eQ p||eQ q then .stuck else dC S (o p q)
noncomputable def jA(o:PV->PV->R PV)(a b:GE):GE:=fun ρ S=>(a ρ S).bind fun p S1=>(b ρ S1).bind fun q S2=>zA o p q S2
theorem two_s{f:Value->Value->Sem Value}{o:PV->PV->R PV} (ha:SE X cl a fa) (hb:SE X cl b fb) (rule:dQ X cl f o) (I:Inv X pins σ H s) (r:dG X.K cl as Hf H σ ρ S) (hs:jA o fa fb ρ S≠.stuck) :
    wpAny (model X.prog X.w) X.A (eval a X.env) (fun v s₁=>wpAny (model X.prog X.w) X.A (eval b X.env) (fun u s₂=>wpAny (model X.prog X.w) X.A (f v u)
      (uX X cl pins σ as Hf (jA o fa fb ρ S)) (jK X cl pins σ as Hf (jA o fa fb ρ S)) s₂) (jK X cl pins σ as Hf (jA o fa fb ρ S)) s₁) (jK X cl pins σ as Hf (jA o fa fb ρ S)) s:=by
  unfold jA at hs ⊢;refine ha.run I r (.refl _ _) hs fun p v u s1 cz aM H1 S1 e1 I1 rv g1 r1 rp=>?_;rw[e1]at hs ⊢;refine hb.run I1 r1 g1 hs fun q v' u' s2 qw cX H2 S2 e2 I2 fN g2 r2 rq=>?_;rw[e2]at hs ⊢;have lY:=g1.trans g2
  unfold zA at hs ⊢;split at hs
  . exact absurd rfl hs
  . next hn =>
    rw[Yx hn];rw[acb,not_or]at hn;have n1:eQ p=false:=by simpa using hn.1
    have n2:eQ q=false:=by simpa using hn.2
    exact YA (rule pins s2 σ cX H2 v v' u u' p q I2 r2.da.sub rv fN ((rp.keep g2).rp n1) (rq.rp n2) (lD hs)) (fun _ _ h=>(vM r2.da h).from lY) fun _ _ h=>(rX r2.da h).from lY
theorem Di{o:PV->PV->R PV}{pos:Pos} (rule:dQ X cl (binaryOp op) o) (ha:SE X cl a fa) (hb:SE X cl b fb):SE X cl (.BinOp a op b pos) (jA o fa fb) :=
  ⟨fun pins s σ as Hf H ρ S I r hs=>wpAny_BinOp (two_s ha hb rule I r hs)⟩
theorem Dj{a b:Expr}{o:PV->PV->R PV}{pos:Pos}(rule:dQ X cl (compareOp op) o)(ha:SE X cl a fa)(hb:SE X cl b fb)(hm:autoParam (behindInMarks op b=false) r_):SE X cl (.Compare a [op] [b] pos) (jA o fa fb) :=
  ⟨fun pins s σ as Hf H ρ S I r hs=>acs (two_s ha hb rule I r hs) hm⟩
noncomputable def ud(a:GE):GE:=fun ρ S=>(a ρ S).bind fun p S1=>.ok (.bl (isNone p)) S1
theorem Dk{a:Expr}{j:Nat}{pos pos':Pos}(ha:SE X cl a fa):SE X cl (.Compare a [.Is] [.Constant .none j pos'] pos) (ud fa):=by
  refine⟨fun pins s σ as Hf H ρ S I r hs=>?_⟩;unfold ud at hs ⊢;refine acs (ha.run I r (.refl _ _) hs fun p v u s1 cz aM H1 S1 e1 I1 rv g1 r1 rp=>?_) (qL _ (by decide) (by decide));rw[e1];refine abF (is_none_gen ⟨_,.bl (isNone p),S1,cz,aM,H1,rfl,I1,?_,g1,r1.da,Vr.of (.bl _)⟩);show Value.bool _=Value.bool _
  rw[rv.qM];cases p with
  | own l=>obtain⟨i,a,_,_,rfl⟩:=rp;rfl
  | _ =>
    have pa:=rp.rp rfl;cases pa<;>rfl
noncomputable def Dl(g:GE)(ρ:aJ)(p:PV)(S:aW):RS PV:=match p with
  | .bl true=>g ρ S
  | .bl false=>.ok (.bl false) S
  | _=>.stuck
noncomputable def wZ(f g:GE):GE:=fun ρ S=>(f ρ S).bind (Dl g ρ)
theorem Ld{op:BoolOp}{pos:Pos} (h:SE X cl a f):SE X cl (.BoolOp op [a] pos) f:=⟨fun pins s σ as Hf H ρ S I r hs=>BoolOp_one (h.go pins s σ as Hf H ρ S I r hs)⟩
theorem Dm{a b:Expr}{rest:List Expr}{pos:Pos}(h:SE X cl a f)(hb:SE X cl (.BoolOp .And (b::rest) pos) g):SE X cl (.BoolOp .And (a::b::rest) pos) (wZ f g):=by
  refine⟨fun pins s σ as Hf H ρ S I r hs=>?_⟩;unfold wZ at hs ⊢;refine BoolOp_and (h.run I r (.refl _ _) hs fun p v u s1 cz aM H1 S1 e1 I1 rv g1 r1 rp=>?_);rw[e1]at hs ⊢;unfold Dl at hs ⊢;split at hs
  . have pa:=rp.rp rfl;cases pa;cases rv;refine Zs ?_;exact YA (hb.go pins s1 σ cz aM H1 ρ S1 I1 r1 hs) (fun _ _ q=>q.from g1) fun _ _ q=>q.from g1
  . have pa:=rp.rp rfl;cases pa;cases rv;exact Zs ⟨_,.bl false,S1,cz,aM,H1,rfl,I1,rfl,g1,r1.da,Vr.of (.bl false)⟩
  . exact absurd rfl hs
noncomputable def GU(p:PV)(S:aW):RS Bool:=if eQ p then .stuck else dC S (iR p)
noncomputable def ue(f:GE):GT:=fun ρ S=>(f ρ S).bind GU
theorem kq{e:Expr}(h:SE X cl e f)(he:autoParam (∀ whole,isTrue e X.env whole=(do let v <- whole;standAt e.pos;holding [v] (truthy v))) z_):ST X cl e (ue f):=by
  refine⟨fun pins s σ as Hf H ρ S I r hs=>?_⟩;unfold ue at hs ⊢;refine isTrue_plain (h.run I r (.refl _ _) hs fun p v u s1 cz aM H1 S1 e1 I1 rv g1 r1 rp=>?_) (he _);rw[e1]at hs ⊢;unfold GU at hs ⊢;split at hs
  . exact absurd rfl hs
  . next hn =>
    rw[Yx hn];exact ie (qR I1 r1.da.sub rv (rp.rp (by simpa using hn)) (lD hs)) fun _ _ q=>(GR r1.da q).from g1
noncomputable def nJ(f:GT):GT:=fun ρ S=>(f ρ S).bind fun b S1=>.ok (!b) S1
theorem w6{pos:Pos} (h:ST X cl a f):ST X cl (.UnaryOp .Not a pos) (nJ f):=by
  refine⟨fun pins s σ as Hf H ρ S I r hs=>?_⟩;unfold nJ at hs ⊢;refine isTrue_not (h.run I r (.refl _ _) hs fun b s1 cz aM H1 S1 e1 I1 g1 r1=>?_);rw[e1];exact⟨S1,cz,aM,H1,rfl,I1,g1,r1.da⟩
noncomputable def bI:GA:=fun _ S=>.ok [] S
noncomputable def aF(a:GE)(r:GA):GA:=fun ρ S=>(a ρ S).bind fun x S1=>(r ρ S1).bind fun xs S2=>.ok (x::xs) S2
theorem bC:SA X cl [] bI:=⟨fun _ _ ps S' h=>by cases h;rfl,fun pos pins s σ as Hf H ρ S I r _=>aaw ⟨[],[],S,as,Hf,H,rfl,I,.nil,.refl _ _,r.da,.nil⟩⟩
theorem aE(h:SE X cl e f)(hr:SA X cl es g)(fB:autoParam (starEach (e::es) X.env=(false,eval e X.env)::starEach es X.env) f_):SA X cl (e::es) (aF f g):=by
  refine⟨fun ρ S ps S' q=>?_,fun pos pins s σ as Hf H ρ S I r hs=>?_⟩
  . unfold aF at q;cases e1:f ρ S with
    | stuck=>rw[e1]at q;cases q
    | exc c T=>rw[e1]at q;cases q
    | ok p T =>
      rw[e1]at q;have q:(g ρ T).bind (fun xs S2=>RS.ok (p::xs) S2)=.ok ps S':=q
      cases e2:g ρ T with
      | stuck=>rw[e2]at q;cases q
      | exc c T=>rw[e2]at q;cases q
      | ok qs T2 =>
        rw[e2]at q;have q:RS.ok (p::qs) T2=.ok ps S':=q
        cases q;have:=hr.len ρ T qs _ e2
        rw[YS,YS,this]
  . unfold aF at hs ⊢;rw[fB];show wpAny _ _ (spliced ((false,eval e X.env)::backTo pos (starEach es X.env))) _ _ s
    refine ZZ (h.run I r (.refl _ _) hs fun p v u s1 cz aM H1 S1 e1 I1 rv g1 r1 rp=>?_);rw[e1]at hs ⊢;have hg:g ρ S1≠.stuck:=fun z=>hs (by rw[z];rfl)
    refine YA (hr.go pos pins s1 σ cz aM H1 ρ S1 I1 r1 hg) (fun us s2 h2=>?_) fun u2 s2 h2=>(nI h2).from g1;obtain⟨ps,vs,S2,qw,cX,H2,e2,I2,Ke,g2,gS,bA⟩:=h2;exact⟨p::ps,v::vs,S2,qw,cX,H2,by rw[e2];rfl,I2,.cons rv Ke,g1.trans g2,gS,.cons (rp.keep g2) bA⟩
noncomputable def Dn(ps:List PV)(S:aW):RS PV:=if ps.length<=sizeLine then .ok (aS S.length) (S ++[.ls ps]) else .stuck
noncomputable def qY(a:GA):GE:=fun ρ S=>(a ρ S).bind Dn
theorem rY{pos:Pos} (h:SA X cl es f):SE X cl (.List es pos) (qY f):=by
  refine⟨fun pins s σ as Hf H ρ S I r hs=>?_⟩;unfold qY at hs ⊢;refine wpAny_List_spliced (h.run pos I r (.refl _ _) hs fun ps vs us s1 cz aM H1 S1 _ e1 I1 rv g1 r1 bA=>?_);rw[e1]at hs ⊢;unfold Dn at hs ⊢;split at hs
  . next hz =>
    rw[Yy hz];have z:vs.length<=sizeLine:=by rw[bA.length];exact hz
    refine⟨by rw[<- rv.length];exact z,?_⟩;have hf:H1 s1.heap.objs.size=none:=I1.bQ.fresh (YD _)
    have I2:=I1.laid (t':=s1.toks) (o:=.lst vs) (fun b u e=>YK _ e) (YD _) (show fJ X.prog X.w (upd H1 s1.heap.objs.size (.lst vs)) (s1.heap.push { cls:=.type "list",data:=.seq us.toArray 0 }) s1.heap.objs.size (.lst vs) from⟨z,us,0,rv,Y3 _ rfl⟩)
    have g2:cf cz aM (cz ++[s1.heap.objs.size]) aM:=⟨⟨_,rfl⟩,bc.refl _⟩;refine⟨aS S1.length,.ref s1.heap.objs.size,S1 ++[.ls ps],cz ++[s1.heap.objs.size],aM,_,rfl,I2,rfl,g1.trans g2,r1.da.new (c:=.ls ps) hf ⟨vs,bU,r1.da.sub.free hf,bA.keep g2⟩,?_⟩;refine⟨S1.length,s1.heap.objs.size,rfl,?_,rfl⟩;rw[<- r1.da.len,Y6 (YD _),aaR];rfl
  . exact absurd rfl hs
end
inductive ZR where
  | next (ρ:aJ) (S:aW) | ret (v:PV) (S:aW) | brk (ρ:aJ) (S:aW) | cont (ρ:aJ) (S:aW) | exc (c:Nat) (ρ:aJ) (S:aW) | stuck
abbrev GS:=aJ->aW->ZR
noncomputable def dX:GS:=fun ρ S=>.next ρ S
noncomputable def bS(f g:GS):GS:=fun ρ S=>match f ρ S with
  | .next ρ' S'=>g ρ' S'
  | o=>o
noncomputable def lF(r:RS PV)(ρ:aJ)(k:PV->aW->ZR):ZR:=match r with
  | .ok v S=>k v S
  | .exc c S=>.exc c ρ S
  | .stuck=>.stuck
noncomputable def cR(a:GE):GS:=fun ρ S=>lF (a ρ S) ρ fun v S'=>.ret v S'
noncomputable def Oc:GS:=fun _ S=>.ret .bf S
noncomputable def j6(a:GE):GS:=fun ρ S=>lF (a ρ S) ρ fun _ S'=>.next ρ S'
noncomputable def fQ(i:Nat)(a:GE):GS:=fun ρ S=>lF (a ρ S) ρ fun v S'=>.next (ρ.set i (some v)) S'
noncomputable def ff(t:GT)(f g:GS):GS:=fun ρ S=>match t ρ S with
  | .ok c S'=>if c then f ρ S' else g ρ S'
  | .exc c S'=>.exc c ρ S'
  | .stuck=>.stuck
noncomputable def dN(i:Nat)(body:GS):List PV->GS
  | [],ρ,S=>.next ρ S
  | x::r,ρ,S=>match body (ρ.set i (some x)) S with
    | .next ρ' S'=>dN i body r ρ' S'
    | .cont ρ' S'=>dN i body r ρ' S'
    | .brk ρ' S'=>.next ρ' S'
    | o=>o
noncomputable def ku(i:Nat)(it:FA)(body:GS):GS:=fun ρ S=>match it (hide ρ)with
  | .ok l=>dN i body l ρ S
  | .exc c=>.exc c ρ S
  | .stuck=>.stuck
noncomputable def fz(body:GS)(ks:List Nat)(d n x:Nat):GS:=fun ρ S=>match body ρ S with
  | .exc c ρ' S'=>if ks.contains c&&under c d then .next (((ρ'.set n (some (.exc c))).set x (some (.exc c))).set n none) S' else .stuck
  | o=>o
noncomputable def jQ(c:Nat)(f:Str)(ρ:aJ)(q p:PV)(S:aW):ZR:=match n5 p with
  | some i=>(match S[i]? with
    | some (.obj d fs)=>if d=c/\fs.length<1000 then .next ρ (S.set i (.obj d (lB f q fs))) else .stuck
    | _=>.stuck)
  | none=>.stuck
noncomputable def j7(c:Nat)(f:Str)(o v:GE):GS:=fun ρ S=>lF (v ρ S) ρ fun q S1=>lF (o ρ S1) ρ fun p S2=>jQ c f ρ q p S2
noncomputable def lG(ρ:aJ)(q p k:PV)(S:aW):ZR:=match n5 p with
  | some i=>(match k with
    | .int k=>(match S[i]? with
      | some (.ls l)=>(match oB l.length k with
        | some j=>.next ρ (S.set i (.ls (l.set j q)))
        | none=>.stuck)
      | _=>.stuck)
    | _=>.stuck)
  | none=>.stuck
noncomputable def kL(o k v:GE):GS:=fun ρ S=>lF (v ρ S) ρ fun q S1=>lF (o ρ S1) ρ fun p S2=>lF (k ρ S2) ρ fun j S3=>lG ρ q p j S3
noncomputable def Le(is:List Nat)(ρ:aJ)(v:PV)(S:aW):ZR:=match v with
  | .tup l=>(match Cp is l ρ with | some ρ'=>.next ρ' S | none=>.stuck)
  | _=>.stuck
noncomputable def zB(is:List Nat)(a:GE):GS:=fun ρ S=>lF (a ρ S) ρ fun v S'=>Le is ρ v S'
noncomputable def mO(i:Nat)(g:GS):GS:=fun ρ S=>match ρ[i]? with
  | some (some p)=>(match n5 p with
    | some j=>(match S[j]? with
      | some (.ls l)=>if l.any eQ then g ρ S else g (ρ.set i (some (.lst l))) (S.set j .gone)
      | _=>g ρ S)
    | none=>g ρ S)
  | _=>g ρ S
section
variable (X:Cx) (cl:Nat->Addr)
def Dp(pins:List (Addr×Obj))(zC:List Addr)(aK:Hp)(r:ZR)(f:Flow)(s:Shared):Prop:=match f with
  | .next=>∃ ρ S σ as Hf H,r=.next ρ S/\Inv X pins σ H s/\dG X.K cl as Hf H σ ρ S/\cf zC aK as Hf
  | .brk=>∃ ρ S σ as Hf H,r=.brk ρ S/\Inv X pins σ H s/\dG X.K cl as Hf H σ ρ S/\cf zC aK as Hf
  | .cont=>∃ ρ S σ as Hf H,r=.cont ρ S/\Inv X pins σ H s/\dG X.K cl as Hf H σ ρ S/\cf zC aK as Hf
  | .ret u=>∃ p v S σ as Hf H,r=.ret p S/\Inv X pins σ H s/\cC X.K cl as Hf H S/\cf zC aK as Hf/\RelV v u/\Vr X.K cl as Hf v p
def n6(pins:List (Addr×Obj))(zC:List Addr)(aK:Hp)(r:ZR)(u:Value)(s:Shared):Prop :=
  ∃ c ρ S σ as Hf H e,r=.exc c ρ S/\u=.ref e/\Inv X pins σ H s/\dG X.K cl as Hf H σ ρ S/\cf zC aK as Hf/\nV X pins H e (cl c) s.heap
structure ZS(st:Stmt)(f:GS):Prop where
  go:∀(pins:List (Addr×Obj))(s:Shared)(σ:SV)(as:List Addr)(Hf H:Hp)(ρ:aJ)(S:aW),Inv X pins σ H s->dG X.K cl as Hf H σ ρ S->f ρ S≠.stuck ->
    wpAny (model X.prog X.w) X.A (exec st X.env) (Dp X cl pins as Hf (f ρ S)) (n6 X cl pins as Hf (f ρ S)) s
structure jB(st:List Stmt)(f:GS):Prop where
  go:∀(pins:List (Addr×Obj))(s:Shared)(σ:SV)(as:List Addr)(Hf H:Hp)(ρ:aJ)(S:aW),Inv X pins σ H s->dG X.K cl as Hf H σ ρ S->f ρ S≠.stuck ->
    wpAny (model X.prog X.w) X.A (execs st X.env) (Dp X cl pins as Hf (f ρ S)) (n6 X cl pins as Hf (f ρ S)) s
end
section
variable {X:Cx}{cl:Nat->Addr}{pins:List (Addr×Obj)}{s:Shared}{σ:SV}{as cz:List Addr}{Hf H aM H1:Hp}{ρ:aJ}{S:aW}{α:Type}
theorem Dp.from(g:cf as Hf cz aM)(h:Dp X cl pins cz aM r fl s'):Dp X cl pins as Hf r fl s':=by
  cases fl with
  | next=>obtain⟨ρ,S,σ,aT,az,H',a,b,c,d⟩:=h;exact⟨ρ,S,σ,aT,az,H',a,b,c,g.trans d⟩
  | brk=>obtain⟨ρ,S,σ,aT,az,H',a,b,c,d⟩:=h;exact⟨ρ,S,σ,aT,az,H',a,b,c,g.trans d⟩
  | cont=>obtain⟨ρ,S,σ,aT,az,H',a,b,c,d⟩:=h;exact⟨ρ,S,σ,aT,az,H',a,b,c,g.trans d⟩
  | ret u=>obtain⟨p,v,S,σ,aT,az,H',a,b,c,d,e,f⟩:=h;exact⟨p,v,S,σ,aT,az,H',a,b,c,g.trans d,e,f⟩
theorem n6.from(g:cf as Hf cz aM)(h:n6 X cl pins cz aM r u s'):n6 X cl pins as Hf r u s':=by
  obtain⟨c,ρ,S,σ,aT,az,H',e,a,b,d,f,k,l⟩:=h;exact⟨c,ρ,S,σ,aT,az,H',e,a,b,d,f,g.trans k,l⟩
theorem w7{s':Shared} (r:dG X.K cl as Hf H σ ρ S) (I:Inv X pins σ H' s') (g:cf as Hf aT az) (st:cC X.K cl aT az H' S') (x:nV X pins H' e (cl c) s'.heap):n6 X cl pins as Hf (.exc c ρ S') (.ref e) s' :=
  ⟨c,ρ,S',σ,aT,az,H',e,rfl,rfl,I,r.keep g st,g,x⟩
theorem SE.nX(h:SE X cl e f)(I:Inv X pins σ H1 s)(r:dG X.K cl cz aM H1 σ ρ S)(g0:cf as Hf cz aM){k:PV->aW->ZR}(hs:lF (f ρ S) ρ k≠.stuck){Q:Value->Shared->Prop}
    (ok:∀ p v u s' aT az H' S',lF (f ρ S) ρ k=k p S'->Inv X pins σ H' s'->RelV v u->cf cz aM aT az->dG X.K cl aT az H' σ ρ S'->Vr X.K cl aT az v p->Q u s') :
    wpAny (model X.prog X.w) X.A (eval e X.env) Q (n6 X cl pins as Hf (lF (f ρ S) ρ k)) s:=by
  have hf:f ρ S≠.stuck:=fun z=>hs (by rw[z];rfl);refine YA (h.go pins s σ cz aM H1 ρ S I r hf) (fun u s' q=>?_) fun u s' q=>?_
  . obtain⟨p,v,S',aT,az,H',e1,I',rv,g,st,rp⟩:=q;exact ok p v u s' aT az H' S' (by rw[e1];rfl) I' rv g (r.keep g st) rp
  . obtain⟨c,S',aT,az,H',ee,e1,rfl,I',g,st,x⟩:=q;rw[e1];exact(w7 r I' g st x).from g0
theorem c9:jB X cl [] dX:=⟨fun pins s σ as Hf H ρ S I r _=>ZP ⟨ρ,S,σ,as,Hf,H,rfl,I,r,.refl _ _⟩⟩
theorem bb{st:Stmt}{rest:List Stmt}{f g:GS}(h1:ZS X cl st f)(h2:jB X cl rest g):jB X cl (st::rest) (bS f g):=by
  refine⟨fun pins s σ as Hf H ρ S I r hs=>?_⟩;have hf:f ρ S≠.stuck:=fun z=>hs (by unfold bS;rw[z])
  refine aaG (YA (h1.go pins s σ as Hf H ρ S I r hf) (fun fl s1 q=>?_) fun u s1 q=>?_)
  . cases fl with
    | next =>
      obtain⟨ρ',S',σ',aT,az,H',e1,I',r',g'⟩:=q;have e2:bS f g ρ S=g ρ' S':=by unfold bS;rw[e1]
      rw[e2]at hs ⊢;exact YA (h2.go pins s1 σ' aT az H' ρ' S' I' r' hs) (fun _ _ q=>q.from g') fun _ _ q=>q.from g'
    | brk =>
      obtain⟨ρ',S',σ',aT,az,H',e1,I',r',g'⟩:=q;have e2:bS f g ρ S=.brk ρ' S':=by unfold bS;rw[e1]
      rw[e2];exact⟨ρ',S',σ',aT,az,H',rfl,I',r',g'⟩
    | cont =>
      obtain⟨ρ',S',σ',aT,az,H',e1,I',r',g'⟩:=q;have e2:bS f g ρ S=.cont ρ' S':=by unfold bS;rw[e1]
      rw[e2];exact⟨ρ',S',σ',aT,az,H',rfl,I',r',g'⟩
    | ret u =>
      obtain⟨p,v,S',σ',aT,az,H',e1,rest⟩:=q;have e2:bS f g ρ S=.ret p S':=by unfold bS;rw[e1]
      rw[e2];exact⟨p,v,S',σ',aT,az,H',rfl,rest⟩
  . obtain⟨c,ρ',S',σ',aT,az,H',e,e1,rest⟩:=q;have e2:bS f g ρ S=.exc c ρ' S':=by unfold bS;rw[e1]
    rw[e2];exact⟨c,ρ',S',σ',aT,az,H',e,rfl,rest⟩
theorem bu{st:Stmt}(h1:ZS X cl st f):jB X cl [st] f:=by
  refine⟨fun pins s σ as Hf H ρ S I r hs=>?_⟩;refine aaG (ie (h1.go pins s σ as Hf H ρ S I r hs) fun fl s1 q=>?_);cases fl with
  | next=>exact ZP q
  | ret v=>exact q
  | brk=>exact q
  | cont=>exact q
theorem kO{pos:Pos} (h:SE X cl e f) (lj:autoParam (swapsWith e none pos.line X.env=pure false) f_):ZS X cl (.Expr e pos) (j6 f):=by
  refine⟨fun pins s σ as Hf H ρ S I r hs=>?_⟩;unfold j6 at hs ⊢;refine wpAny_Expr_any (h.nX I r (.refl _ _) hs fun p v u s1 cz aM H1 S1 e1 I1 rv g1 r1 rp=>?_) I.quiet lj;rw[e1];exact⟨ρ,S1,σ,cz,aM,H1,rfl,I1,r1,g1⟩
theorem bZ{pos:Pos} (h:SE X cl e f):ZS X cl (.Return (some e) pos) (cR f):=by
  refine⟨fun pins s σ as Hf H ρ S I r hs=>?_⟩;unfold cR at hs ⊢;refine wpAny_Return_some (h.nX I r (.refl _ _) hs fun p v u s1 cz aM H1 S1 e1 I1 rv g1 r1 rp=>?_);rw[e1];exact⟨p,v,S1,σ,cz,aM,H1,rfl,I1,r1.da,g1,rv,rp⟩
theorem eL{i:Nat}{x:Str}{pos pos':Pos}(hN:X.N.Nodup)(hi:X.N[i]?=some x)(hx:Loc X.env.scope x)(he:SE X cl e f)(lj:autoParam (swapsWith e (some (.Name x pos')) pos.line X.env=pure false) f_)
    (hf:autoParam (X.fn x=true\/X.env.scope.names.lookup x=some .local) q_):ZS X cl (.Assign [.Name x pos'] e pos) (fQ i f):=by
  refine⟨fun pins s σ as Hf H ρ S I r hs=>?_⟩;unfold fQ at hs ⊢;refine abM (he.nX I r (.refl _ _) hs fun p v u s1 cz aM H1 S1 e1 I1 rv g1 r1 rp=>?_) lj;rw[e1];have hl:i<σ.length:=by rw[I.len];exact(YC.mp hi).1
  exact jd I1 hN hi hx rv (fun s2 I2=>⟨_,S1,_,cz,aM,H1,rfl,I2,r1.set i rp hl,g1⟩) hf
theorem d9{pos:Pos} (hc:ST X cl c t) (ha:jB X cl a f) (hb:jB X cl b g):ZS X cl (.If c a b pos) (ff t f g):=by
  refine⟨fun pins s σ as Hf H ρ S I r hs=>?_⟩;have ht:t ρ S≠.stuck:=fun z=>hs (by unfold ff;rw[z])
  refine wpAny_If (YA (hc.go pins s σ as Hf H ρ S I r ht) (fun d s1 q=>?_) fun u s1 q=>?_)
  . obtain⟨S1,cz,aM,H1,e1,I1,g1,uZ⟩:=q;have r1:=r.keep g1 uZ
    cases d with
    | true =>
      have e2:ff t f g ρ S=f ρ S1:=by unfold ff;rw[e1];rfl
      rw[e2]at hs ⊢;exact YA (ha.go pins s1 σ cz aM H1 ρ S1 I1 r1 hs) (fun _ _ q=>q.from g1) fun _ _ q=>q.from g1
    | false =>
      have e2:ff t f g ρ S=g ρ S1:=by unfold ff;rw[e1];rfl
      rw[e2]at hs ⊢;exact YA (hb.go pins s1 σ cz aM H1 ρ S1 I1 r1 hs) (fun _ _ q=>q.from g1) fun _ _ q=>q.from g1
  . obtain⟨c,S',aT,az,H',ee,e1,rfl,I',g',st,x⟩:=q;have e2:ff t f g ρ S=.exc c ρ S':=by unfold ff;rw[e1]
    rw[e2];exact w7 r I' g' st x
theorem Bi{st:List Stmt}{g:GS}(i:Nat)(h:jB X cl st g):jB X cl st (mO i g):=by
  refine⟨fun pins s σ as Hf H ρ S I r hs=>?_⟩;unfold mO at hs ⊢;split at hs
  . next p e0 =>
    split at hs
    . next j e1 =>
      split at hs
      . next l e2 =>
        split at hs
        . next hn=>rw[Yy hn];exact h.go pins s σ as Hf H ρ S I r hs
        . next hn =>
          rw[Yx hn];have vS:l.any eQ=false:=by simpa using hn
          obtain⟨v,h1,h2⟩:=r.slot i p e0;obtain⟨a,ha,rfl⟩:=lE h2 e1;obtain⟨az,g',iD,pa⟩:=r.da.cj ha e2 vS;have r':=r.keep g' iD
          have r2:dG X.K cl as az H σ (ρ.set i (some (.lst l))) (S.set j .gone):=by
            refine⟨iD,fun k q hq=>?_⟩;by_cases e:i=k
            . subst e;have hi:i<ρ.length:=(YC.mp e0).1
              rw[Y0 hi]at hq;cases hq;exact⟨_,h1,Vr.of pa⟩
            . rw[YR e]at hq;exact r'.slot k q hq
          exact YA (h.go pins s σ as az H _ _ I r2 hs) (fun _ _ q=>q.from g') fun _ _ q=>q.from g'
      . exact h.go pins s σ as Hf H ρ S I r hs
    . exact h.go pins s σ as Hf H ρ S I r hs
  . exact h.go pins s σ as Hf H ρ S I r hs
theorem kP{pos pos':Pos} (hc:L2.iP X.K (cl c)) (hn:iQ X.K (cl c) f) (ho:SE X cl o fo) (he:SE X cl e fe)
    (lj:autoParam (swapsWith e (some (.Attribute o f pos')) pos.line X.env=pure false) f_):ZS X cl (.Assign [.Attribute o f pos'] e pos) (j7 c f fo fe):=by
  refine⟨fun pins s σ as Hf H ρ S I r hs=>?_⟩;unfold j7 at hs ⊢;refine plainObj_wpAny_Assign_Attribute (he.nX I r (.refl _ _) hs fun q y u s1 cz aM H1 S1 e1 I1 ry g1 r1 rq=>?_) lj;rw[e1]at hs ⊢;refine ho.nX I1 r1 g1 hs fun p v ov s2 qw cX H2 S2 e2 I2 rv g2 r2 rp=>?_;rw[e2]at hs ⊢;have lY:=g1.trans g2
  unfold jQ at hs ⊢;split at hs
  . next i h1 =>
    split at hs
    . next d fs h2 =>
      split at hs
      . next hd =>
        try rw[Yy hd]
        obtain⟨rfl,hlen⟩:=hd;obtain⟨a,ha,rfl⟩:=lE rp h1;obtain rfl:ov=Value.ref a:=rv;obtain⟨dx,vs,k1,k2,k3⟩:=r2.da.at_ i a _ ha h2
        refine AN I2 k1 hc hn (by rw[k3.length];exact hlen) ry fun s3 I3=>?_;exact⟨ρ,_,σ,qw,cX,_,rfl,I3,r2.keep (.refl _ _) (r2.da.write ha k2 ⟨dx,_,bU,k2,k3.put (rq.keep g2)⟩),lY⟩
      . exact absurd rfl hs
    . exact absurd rfl hs
  . exact absurd rfl hs
theorem mP{pos pos':Pos} (ho:SE X cl o fo) (hk:SE X cl k fk) (he:SE X cl e fe)
    (wB:autoParam (swapsWithSole [.Subscript o k pos'] e pos.line X.env=pure false) f_) (hw:autoParam (swappedStores [.Subscript o k pos'] e X.env=pure none) f_)
    (h1:autoParam ((assignEach [.Subscript o k pos'] X.env).map (·.2)=[assign (.Subscript o k pos') X.env]) f_)
    (ha:autoParam (∀ v,assign (.Subscript o k pos') X.env v=(do
      let ov <- holding [v] (eval o X.env)
      let iv <- holding [v,ov] (eval k X.env)
      standAt pos'
      holding [v,ov,iv] (setItem ov iv v)
      release [v,ov,iv] [])) z_):ZS X cl (.Assign [.Subscript o k pos'] e pos) (kL fo fk fe):=by
  refine⟨fun pins s σ as Hf H ρ S I r hs=>?_⟩;unfold kL at hs ⊢;refine wpAny_Assign_stores (he.nX I r (.refl _ _) hs fun q y u s1 cz aM H1 S1 e1 I1 ry g1 r1 rq=>?_) wB hw;rw[e1]at hs ⊢;rw[h1];show wpAny _ _ (assign (.Subscript o k pos') X.env u) _ _ _
  rw[ha];refine YE (ZE (ho.nX I1 r1 g1 hs fun p v ov s2 qw cX H2 S2 e2 I2 rv g2 r2 rp=>?_));rw[e2]at hs ⊢;have lY:=g1.trans g2
  refine YE (ZE (hk.nX I2 r2 lY hs fun j w kv s3 zD jI H3 S3 e3 I3 vX g3 r3 rj=>?_));rw[e3]at hs ⊢;have U8:=lY.trans g3
  unfold lG at hs ⊢;split at hs
  . next i h1 =>
    split at hs
    . next kk =>
      split at hs
      . next l h2 =>
        split at hs
        . next jj h3 =>
          have U9:Rp X.K cl jI w (.int kk):=rj;cases U9;obtain⟨a,uY,rfl⟩:=lE (rp.keep g3) h1;obtain⟨vs,k1,k2,k3⟩:=r3.da.at_ i a _ uY h2
          have rZ:qf vs.length kk=some jj:=by rw[k3.length];exact h3
          generalize n6 X cl pins as Hf _=E;refine YE (abK (YE (ZE (ie (set_list (X:=X.bP E) pins s3 σ H3 (.ref a) (.int kk) y ov kv u (fun H'=>H'=upd H3 a (.lst (vs.set jj y))) (I3.bP E) rv vX ry ⟨a,vs,kk,jj,rfl,rfl,k1,rZ,rfl⟩) fun _ s4 ⟨H4,I4,q4⟩=>?_))));subst q4;refine wpAny_release ⟨ρ,_,σ,zD,jI,_,rfl,I4.kX,r3.keep (.refl _ _) (r3.da.write uY k2 ⟨_,bU,k2,fv.set (rq.keep (g2.trans g3)) jj k3⟩),U8⟩
        . exact absurd rfl hs
      . exact absurd rfl hs
    . exact absurd rfl hs
  . exact absurd rfl hs
theorem Dq{names:List (Nat×Str)}(C:iP X.K X.mg cl names){body:List Stmt}{d:Nat}{y:Str}{n x:Nat}{en ex:Str}{np p1 p2 p3 R5 pos:Pos}(W:Own X)(hy:(d,y)∈names)(hb:jB X cl body f)(hN:X.N.Nodup)
    (hn:X.N[n]?=some en) (hx:X.N[x]?=some ex) (Lf:X.env.scope.names.lookup en=some .local) (Va:Loc X.env.scope ex) (hg:Gl X y) (Cy:n≠x) (eW:autoParam ((y ==("__debug__" : Str))=false) w_)
    (lj:autoParam (swapsWith (.Name en p2) (some (.Name ex p1)) p3.line X.env=pure false) f_) (Vb:autoParam ((en ==("__debug__" : Str))=false) w_) (Vc:autoParam ((en ==("__classdict__" : Str))=false) w_) :
    ZS X cl (.Try body [.ExceptHandler (some (.Name y np)) (some en) [.Assign [.Name ex p1] (.Name en p2) p3] R5] [] [] pos) (fz f (names.map (·.1)) d n x):=by
  refine⟨fun pins s σ as Hf H ρ S I r hs=>?_⟩;have hf:f ρ S≠.stuck:=fun z=>hs (by unfold fz;rw[z])
  refine wpAny_Try_except (YA (hb.go pins s σ as Hf H ρ S I r hf) (fun fl s1 q=>?_) fun u s1 q=>?_)
  . cases fl with
    | next =>
      obtain⟨ρ',S',σ',aT,az,H',e1,I',r',g'⟩:=q;have e2:fz f (names.map (·.1)) d n x ρ S=.next ρ' S':=by unfold fz;rw[e1]
      rw[e2];exact ZP ⟨ρ',S',σ',aT,az,H',rfl,I',r',g'⟩
    | brk =>
      obtain⟨ρ',S',σ',aT,az,H',e1,I',r',g'⟩:=q;have e2:fz f (names.map (·.1)) d n x ρ S=.brk ρ' S':=by unfold fz;rw[e1]
      rw[e2];exact⟨ρ',S',σ',aT,az,H',rfl,I',r',g'⟩
    | cont =>
      obtain⟨ρ',S',σ',aT,az,H',e1,I',r',g'⟩:=q;have e2:fz f (names.map (·.1)) d n x ρ S=.cont ρ' S':=by unfold fz;rw[e1]
      rw[e2];exact⟨ρ',S',σ',aT,az,H',rfl,I',r',g'⟩
    | ret u =>
      obtain⟨p,v,S',σ',aT,az,H',e1,rest⟩:=q;have e2:fz f (names.map (·.1)) d n x ρ S=.ret p S':=by unfold fz;rw[e1]
      rw[e2];exact⟨p,v,S',σ',aT,az,H',rfl,rest⟩
  . obtain⟨c,ρ',S',σ',aT,az,H',e,e1,rfl,I',r',g',B,a0,mG,nd,st⟩:=q;have e2:fz f (names.map (·.1)) d n x ρ S=if (names.map (·.1)).contains c&&under c d then .next (((ρ'.set n (some (.exc c))).set x (some (.exc c))).set n none) S' else .stuck:=by unfold fz;rw[e1]
    rw[e2]at hs ⊢;have hc:((names.map (·.1)).contains c&&under c d)=true:=by
      cases q:((names.map (·.1)).contains c&&under c d)with
      | true=>rfl
      | false=>rw[q]at hs;exact absurd rfl hs
    rw[Yy hc];rw[YH]at hc;obtain⟨cx,Vd⟩:=CS hc.1;refine pO W I'.ok.frames nd st fun h1 hh u1 Cz=>?_;have I1:=Inv.gq W I' mG hh.1 u1 (tk:=s1.toks)
    have c1:=mG.gq W I' hh.1;refine wD (s:={ s1 with heap:=h1 }) Cz hh fun h2 GV u2 CB=>?_;have I2:=Inv.gq W I1 c1 GV.1 u2 (tk:=s1.toks)
    have c2:=c1.gq W I1 GV.1;refine wpAny_handleBy_cons (codeAny_handlers_test (aaI I2.ok.kind hg (Calls.loadGlobal_global (by rw[I2.ok.glob];exact I2.mod.glob.keeps I2.bk) (C.cls d y hy).mg ?_) eW)) (by intro z;cases z);have LT:PySem.W.Looks (model X.prog X.w) h2 (typeOf (.ref e)) (.ref (cl c)):=by
      obtain⟨ob,q1,q2⟩:=GV.there;exact q2 ▸ (PySem.W.Looks.ld q1).andThen .now
    refine(PySem.W.exm_one (M:=model X.prog X.w) (h:=h2) I2.eT LT (C.Uk c cx d y Vd hy)).here ?_;rw[hc.2];refine codeAny_handlers_suite_as ?_;refine ER (s:={ s1 with heap:=h2 }) CB GV fun h3 lz u3 Ve=>?_;have I3:=Inv.gq W I2 c2 lz.1 u3 (tk:=s1.toks)
    have c3:=c2.gq W I2 lz.1;obtain⟨nH,I4⟩:=CW W I3 c3 Ve lz;have x4:=Ext.new r'.da.sub nH (wq e (cl c))
    have Pk:Rp X.K cl (upd az e (wq e (cl c))) (.ref e) (.exc c):=.exc bU;have Pl:n<σ'.length:=by rw[I'.len];exact(YC.mp hn).1
    have Vf:x<(σ'.set n (some (.ref e))).length:=by rw[abb,I'.len];exact(YC.mp hx).1
    refine jd I4 hN hn (.inl Lf) (v:=.ref e) rfl (fun s5 I5=>?_) (.inl (W.fn en));refine aaG (abM (yS I5 hn (.inl Lf) (Y0 Pl) (fun u ru=>?_) Vb Vc) lj);refine jd I5 hN hx Va ru (fun s6 I6=>?_) (.inl (W.fn ex));refine ZP ?_;refine E3 I6 hN hn Lf fun s7 I7=>?_;exact⟨_,S',_,aT,_,_,rfl,I7,((((r'.keep (.cj x4.cj) (r'.da.ext x4)).set n (Vr.of Pk) Pl).set x (Vr.of Pk) Vf).forget n none),g'.trans (.cj x4.cj)⟩
theorem Bj(W:Own X):PassesOwn (model X.prog X.w) X.A X.env (n6 X cl pins as Hf r):=uK W fun u s ⟨c,ρ,S,σ,aT,az,H,e,e1,eu,I,rr,g,x⟩ =>
  ⟨pins,σ,H,e,cl c,eu,I,x,fun h' I' x'=>⟨c,ρ,S,σ,aT,az,H,e,e1,eu,I',rr,g,x'⟩⟩
theorem w8{i:Nat}{x:Str}{iter:Expr}{body:List Stmt}{pos pos':Pos}(W:Own X)(hc:X.calm=true)(hN:X.N.Nodup)(hi:X.N[i]?=some x)(hx:Loc X.env.scope x)(h:MI X cl (.Name x pos') iter f)(hb:jB X cl body g)
    (hf:autoParam (X.fn x=true\/X.env.scope.names.lookup x=some .local) q_) (ll:autoParam (∀ y,foldedSetIterable iter X.env y=pure y) z_) :
    ZS X cl (.For (.Name x pos') iter body [] pos) (ku i f g):=by
  refine⟨fun pins s σ as Hf H ρ S I r hs=>?_⟩;have oQ:f (hide ρ)≠.stuck:=fun z=>hs (by unfold ku;rw[z])
  have hE:∀ u s',dk X cl pins σ Hf H (f (hide ρ)) u s'->n6 X cl pins as Hf (ku i f g ρ S) u s':=fun u s' ⟨c,e1,e,az,H',eu,I',ex,xs⟩=>by
    have e2:ku i f g ρ S=.exc c ρ S:=by unfold ku;rw[e1]
    rw[e2,eu];exact w7 r I' (.cj ex.cj) (r.da.ext ex) xs
  refine wpAny_For (YA (h pins s σ Hf H Hf H (hide ρ) I r.rep oQ) (fun v s1 h1=>YA h1 (fun vV s2 h2=>?_) hE) hE) ll;obtain⟨ps,vs,cX,e1,it,fp,tn,J,H2,e,I2,T,gS,f2,x2,ov,bA⟩:=h2;subst e;have e2:ku i f g ρ S=dN i g ps ρ S:=by unfold ku;rw[e1]
  rw[e2]at hs ⊢;have hp:PassesOwn (model X.prog X.w) X.A X.env (n6 X cl pins as Hf (dN i g ps ρ S)):=Bj W
  have lq:∀{H':Hp},(∀ b∈fp,H' b=none)->∀ b∈fp,iH X pins H' b:=fun hn b hb=>⟨hn b hb,(f2 b hb).2⟩;have CC:∀{σ':SV}{H':Hp}{s':Shared},Inv X pins σ' H' s'->i<σ'.length:=fun I'=>by rw[I'.len];exact(YC.mp hi).1
  have g2:cf as Hf as cX:=.cj x2.cj;refine codeAny_forLoop_any (fun n s'=>∃ k ρ' S' σ' aT az H',Inv X pins σ' H' s'/\tn k s'.heap/\(∀ b∈fp,H' b=none)/\dG X.K cl aT az H' σ' ρ' S'/\cf as cX aT az/\n=ps.length - k/\k<=ps.length/\dN i g (ps.drop k) ρ' S'=dN i g ps ρ S) ?_ ps.length
    ⟨0,ρ,S,σ,as,cX,H2,I2,gS,fun b hb=>(f2 b hb).1,r.keep g2 (r.da.ext x2),.refl _ _,rfl,aat _,rfl⟩
  rintro n s3 ⟨k,ρ3,S3,σ3,zD,jI,H3,I3,rP,CD,r3,g3,rfl,hk,e3⟩;have uM:=bA.length
  have uN:bc cX H3:=g3.2.trans r3.da.sub;by_cases iF:k<ps.length
  . obtain⟨go,yl⟩:=(ov H3 k uN).1 (by rw[uM];exact iF);refine ZA hp (YA (T.item X rfl rfl rfl hc k pins s3 σ3 H3 (n6 X cl pins as Hf (dN i g ps ρ S)) I3 (lq CD) rP go) (fun rr s4 ⟨u,hr,h4⟩=>?_) fun _ _ z=>z);subst hr;refine ZA hp (ie h4 fun _ s5 ⟨x5,H5,I5,r5,y5,wH,Kq⟩=>?_);obtain⟨eH,Kr⟩:=yl x5 H5 y5;subst eH;obtain⟨p5,CF,Ks⟩:=bA.get' Kr;have ET:Vr X.K cl zD jI x5 p5:=Vr.of (Ks.keep g3.2)
    have rQ:ps.drop k=p5::ps.drop (k+1):=by
      rw[aaM iF];rw[YV iF]at CF;rw[Zr CF]
    have Kt:=I5.pinned (lq Kq) (T.obj _ _ wH);refine ZA hp (aaY (jd Kt hN hi hx r5 (fun s6 I6=>?_) hf));have r6:=r3.set i ET (CC I3)
    rw[rQ]at e3;have step:dN i g (p5::ps.drop (k+1)) ρ3 S3=(match g (ρ3.set i (some p5)) S3 with | .next ρ' S'=>dN i g (ps.drop (k+1)) ρ' S' | .cont ρ' S'=>dN i g (ps.drop (k+1)) ρ' S' | .brk ρ' S'=>.next ρ' S' | o=>o):=rfl
    rw[step]at e3;have hg:g (ρ3.set i (some p5)) S3≠.stuck:=fun z=>hs (by rw[<- e3,z])
    have Lg:cf as Hf zD jI:=g2.trans g3;refine ZA hp (YA (hb.go _ s6 _ zD jI H5 _ S3 I6 r6 hg) (fun fl s7 q7=>?_) fun u s7 q7=>?_)
    . have again:∀{ρ7:aJ}{S7:aW}{σ7:SV}{n7:List Addr}{eX H7:Hp},Inv X (pins++kY fp s5.heap) σ7 H7 s7->dG X.K cl n7 eX H7 σ7 ρ7 S7->cf as cX n7 eX->dN i g (ps.drop (k+1)) ρ7 S7=dN i g ps ρ S ->
          ∃ m,m<ps.length - k/\∃ k ρ' S' σ' aT az H',Inv X pins σ' H' s7/\tn k s7.heap/\(∀ b∈fp,H' b=none)/\dG X.K cl aT az H' σ' ρ' S'/\cf as cX aT az/\m=ps.length - k/\k<=ps.length/\dN i g (ps.drop k) ρ' S'=dN i g ps ρ S:=fun{ρ7 S7 σ7 n7 eX H7} I7 r7 g7 e7=>by
        refine⟨ps.length - (k+1),by omega,k+1,ρ7,S7,σ7,n7,eX,H7,I7.gI,T.keep _ _ _ wH fun b hb o e=>(I7.pin (b,o) (YZ _ (YZ _ (gH hb e)))).1,fun b hb=>?_,r7,g7,rfl,iF,e7⟩;obtain⟨o,e,d⟩:=T.obj _ _ wH b hb;exact(I7.pin (b,o) (YZ _ (YZ _ (gH hb e)))).2.1
      cases fl with
      | next =>
        obtain⟨ρ7,S7,σ7,n7,eX,H7,e7,I7,r7,g7⟩:=q7;rw[e7]at e3;exact again I7 r7 (g3.trans g7) e3
      | cont =>
        obtain⟨ρ7,S7,σ7,n7,eX,H7,e7,I7,r7,g7⟩:=q7;rw[e7]at e3;exact again I7 r7 (g3.trans g7) e3
      | brk =>
        obtain⟨ρ7,S7,σ7,n7,eX,H7,e7,I7,r7,g7⟩:=q7;rw[e7]at e3;rw[<- e3];exact⟨ρ7,S7,σ7,n7,eX,H7,rfl,I7.gI,r7,Lg.trans g7⟩
      | ret u =>
        obtain⟨p7,v7,S7,σ7,n7,eX,H7,e7,I7,Vg,g7,CG,CH⟩:=q7;rw[e7]at e3;rw[<- e3];exact⟨p7,v7,S7,σ7,n7,eX,H7,rfl,I7.gI,Vg,Lg.trans g7,CG,CH⟩
    . obtain⟨c7,ρ7,S7,σ7,n7,eX,H7,CI,e7,CJ,I7,r7,g7,x7⟩:=q7;rw[e7]at e3;rw[<- e3];exact⟨c7,ρ7,S7,σ7,n7,eX,H7,CI,rfl,CJ,I7.gI,r7,Lg.trans g7,x7.vL⟩
  . have CK:k=ps.length:=by omega
    subst CK;refine ZA hp (ie (T.done X rfl rfl rfl hc ps.length pins s3 σ3 H3 _ I3 (lq CD) rP ((ov H3 ps.length uN).2 (by rw[uM];exact YD _))) fun rr s4 ⟨hr,I4⟩=>?_);subst hr;rw[abY]at e3;rw[<- e3];exact ZP ⟨ρ3,S3,σ3,zD,jI,H3,rfl,I4,r3,g2.trans g3⟩
end
def spS(K:PySem.W.Frag)(cl:Nat->Addr)(n:Nat)(G:List PV->aW->RS PV):Sp:=fun vs H Q E=>vs.length=n/\∃ as Hf S ps,cC K cl as Hf H S/\fv K cl as Hf vs ps/\G ps S≠.stuck /\
  (∀ p v S' aT az H',G ps S=.ok p S'->cf as Hf aT az->cC K cl aT az H' S'->Vr K cl aT az v p->Q v H') /\
  ∀ c S' aT az H',G ps S=.exc c S'->cf as Hf aT az->cC K cl aT az H' S'->E (.ref (cl c)) none H'
section
variable {X:Cx}{cl:Nat->Addr}{pins:List (Addr×Obj)}{s:Shared}{σ:SV}{as cz:List Addr}{Hf H aM H1:Hp}{ρ:aJ}{S:aW}{α:Type}
theorem GW{r:RS PV} (I:Inv X pins σ H s)
    (h:jl cl X.prog X.w X.stack H s (fun u o H'=>∃ c S' aT az,r=.exc c S'/\cf as Hf aT az/\cC X.K cl aT az H' S'/\u=.ref (cl c)) e s') (inj:∀ c d,cl c=cl d->c=d) (hex:∀ b,b ∉ X.ex):jK X cl pins σ as Hf r e s':=by
  obtain⟨a,c,H',B,a0,rfl,ho,hg,un,bQ,fl,mG,nd,c',S',aT,az,e1,g,st,e2⟩:=h;have ec:c'=c:=inj _ _ (by injection e2 with e2;exact e2.symm)
  subst ec;refine⟨c',S',aT,az,H',a,e1,rfl,I.rB ho un bQ hg (fun b z=>absurd z (by simp)),g,st,B,a0,?_,nd,.inr (.inr fl)⟩;intro b o hb hc hn;refine mG b o hb ?_ hn;rcases hc with hc | ⟨p,hp,e⟩ | ⟨o₀,hc⟩ | ⟨x,hc⟩
  . exact .inl hc
  . right;rw[<- e];exact⟨_,(I.pin p hp).1⟩
  . right;by_cases hx:b∈X.ex
    . exact absurd hx (hex b)
    . exact I.base.there b o₀ hc hx
  . right;obtain⟨v,o',q,_⟩:=I.cell x b hc;exact⟨o',q⟩
theorem Bk{G:List PV->aW->RS PV}{r9:List Str}{qs:List PV}(hf:fO X.prog X.w X.K X.mg X.base (jl cl X.prog X.w) k f fd r9 (spS X.K cl n G))(hb:Binds X.K fd r9 [])(hr:cE k X.A)
    (inj:∀ c d,cl c=cl d->c=d) (hex:∀ b,b ∉ X.ex) (I:Inv X pins σ H s) (st:cC X.K cl as Hf H S) (rv:Vals vs us) (bA:fv X.K cl as Hf vs qs) (hn:r9.length=n) (hq:qs.length=n) (hs:G qs S≠.stuck) :
    wpAny (model X.prog X.w) X.A (call (.ref f) us) (uX X cl pins σ as Hf (G qs S)) (jK X cl pins σ as Hf (G qs S)) s:=by
  have hv:vs.length=n:=by rw[bA.length,hq]
  have hG:spS X.K cl n G vs H (fun v H'=>∃ p S' aT az,G qs S=.ok p S'/\cf as Hf aT az/\cC X.K cl aT az H' S'/\Vr X.K cl aT az v p) (fun u o H'=>∃ c S' aT az,G qs S=.exc c S'/\cf as Hf aT az/\cC X.K cl aT az H' S'/\u=.ref (cl c)) :=
    ⟨hv,as,Hf,S,qs,st,bA,hs,fun p v S' aT az H' a b c d=>⟨p,S',aT,az,a,b,c,d⟩,fun c S' aT az H' a b d=>⟨c,S',aT,az,a,b,d,rfl⟩⟩
  have mH:(us ++[]).length=r9.length:=by rw[Ze,<- rv.length,hv,hn]
  have gk:=hb s us I.eT mH;rw[Ze]at gk;refine aaj (Z3 (hf.run X.A X.stack s H ⟨us,[]⟩ us vs _ _ hr I.qO gk rv hG) fun r s' dU=>?_);cases r with
  | error e=>exact GW I dU inj hex
  | ok fl =>
    cases fl with
    | ret u =>
      obtain⟨v,H',I',fN,p,S',aT,az,e2,g,iD,rp⟩:=I.after dU;exact⟨p,v,S',aT,az,H',e2,I',fN,g,iD,rp⟩
    | next=>exact False.elim dU
    | brk=>exact False.elim dU
    | cont=>exact False.elim dU
theorem Od{F:List PV->R PV}{r9:List Str}{qs:List PV}(hf:fO X.prog X.w X.K X.mg X.base (jl cl X.prog X.w) k f fd r9 (mF X.K cl n F))(hb:Binds X.K fd r9 [])(hr:cE k X.A)(fB:X.stack=X.env::X.outer)
    (inj:∀ c d,cl c=cl d->c=d) (hex:∀ b,b ∉ X.ex) (I:Inv X pins σ H s) (sm:bc Hf H) (rv:Vals vs us) (bA:cy X.K cl Hf vs qs) (hn:r9.length=n) (hq:qs.length=n) (hs:F qs≠.stuck) :
    wpAny (model X.prog X.w) X.A (call (.ref f) us) (gb X cl pins σ Hf H (F qs)) (dk X cl pins σ Hf H (F qs)) s:=by
  have hv:vs.length=n:=by rw[bA.length,hq]
  have hG:mF X.K cl n F vs H (fun v H'=>∃ p az,F qs=.ok p/\Ext Hf H az H'/\Rp X.K cl az v p) (fun u o H'=>∃ c az,F qs=.exc c/\Ext Hf H az H'/\u=.ref (cl c)) :=
    ⟨hv,Hf,qs,sm,bA,hs,fun p v az H' a b c=>⟨p,az,a,b,c⟩,fun c az H' a b=>⟨c,az,a,b,rfl⟩⟩
  have mH:(us ++[]).length=r9.length:=by rw[Ze,<- rv.length,hv,hn]
  have gk:=hb s us I.eT mH;rw[Ze]at gk;refine aaj (Z3 (hf.run X.A X.stack s H ⟨us,[]⟩ us vs _ _ hr I.qO gk rv hG) fun r s' dU=>?_);cases r with
  | error e=>exact wC I sm fB dU inj hex
  | ok fl =>
    cases fl with
    | ret u =>
      obtain⟨v,H',I',fN,p,az,e2,ex,rp⟩:=I.after dU;exact⟨p,v,az,H',e2,I',fN,ex,rp⟩
    | next=>exact False.elim dU
    | brk=>exact False.elim dU
    | cont=>exact False.elim dU
noncomputable def pK(F:List PV->R PV)(ps:List PV)(S:aW):RS PV:=if ps.any eQ then .stuck else dC S (F ps)
noncomputable def e6(F:List PV->R PV)(a:GA):GE:=fun ρ S=>(a ρ S).bind (pK F)
noncomputable def gW(G:List PV->aW->RS PV)(a:GA):GE:=fun ρ S=>(a ρ S).bind G
theorem Fj{e:Expr}{es:List Expr}{p pos:Pos}{F:List PV->R PV}(hF:Fn X cl k x n F)(hr:cE k X.A)(hg:Gl X x)(fB:X.stack=X.env::X.outer)(inj:∀ c d,cl c=cl d->c=d)(hex:∀ b,b ∉ X.ex)
    (ha:SA X cl (e::es) g) (hl:(e::es).length=n) (eW:autoParam ((x ==("__debug__" : Str))=false) w_) (he:autoParam (starEach (e::es) X.env=(false,eval e X.env)::starEach es X.env) f_) (eC:autoParam ((backTo pos (starEach es X.env)).any (·.1)=false) f_) :
    SE X cl (.Call (.Name x p) (e::es) [] pos) (e6 F g):=by
  obtain⟨f,fd,ps,hm,hk,hn,hf,hb⟩:=hF.ex;refine⟨fun pins s σ as Hf H ρ S I r hs=>?_⟩;unfold e6 at hs ⊢;refine Zq (gj I hg hm ?_ eW);refine ZM (h₀:=X.base) I.ok.mod.ot hk (ha.run pos I r (.refl _ _) hs fun qs vs us s1 cz aM H1 S1 hq e1 I1 rv g1 r1 bA=>⟨I1.eT,?_⟩) he eC;rw[e1]at hs ⊢;unfold pK at hs ⊢;split at hs
  . exact absurd rfl hs
  . next ho =>
    rw[Yx ho];exact YA (Od hf hb hr fB inj hex I1 r1.da.sub rv (bA.bA (by simpa using ho)) hn (by rw[hq,hl]) (lD hs)) (fun _ _ q=>(vM r1.da q).from g1) fun _ _ q=>(rX r1.da q).from g1
noncomputable def mq(f:FE):GE:=fun ρ S=>match f (hide ρ)with
  | .ok (.lst l)=>.ok (aS S.length) (S ++[.ls l])
  | .exc c=>.exc c S
  | _=>.stuck
theorem Lh(h:MF X cl e f):SE X cl e (mq f):=by
  refine⟨fun pins s σ as Hf H ρ S I r hs=>?_⟩;have hf:f (hide ρ)≠.stuck:=fun z=>hs (by unfold mq;rw[z])
  refine YA (h.run' pins s σ Hf H Hf H (hide ρ) I r.rep hf) (fun u s1 q=>?_) fun u s1 q=>?_
  . obtain⟨ps,a,xs,az,H',e1,I',rfl,ex,g1,g2,g3,bA⟩:=q;have e2:mq f ρ S=.ok (aS S.length) (S ++[.ls ps]):=by unfold mq;rw[e1]
    rw[e2];have na:a ∉ as:=fun z=>r.da.there a z g3
    have g:cf as Hf (as ++[a]) az:=⟨⟨[a],rfl⟩,ex.cj⟩;have st:=r.da.ext ex
    exact⟨aS S.length,.ref a,_,as ++[a],az,H',rfl,I',rfl,g,st.adopt na (by rw[g1];intro z;cases z) ⟨xs,g1,g2,.of bA⟩,st.Df⟩
  . obtain⟨c,e1,e,az,H',eu,I',ex,x⟩:=q;have e2:mq f ρ S=.exc c S:=by unfold mq;rw[e1]
    rw[e2];exact⟨c,S,as,az,H',e,rfl,eu,I',.cj ex.cj,r.da.ext ex,x⟩
noncomputable def isObj(c:Nat)(m:Str)(p:PV)(S:aW):Bool:=match n5 p with
  | some i=>(match S[i]? with
    | some (.obj d fs)=>d == c&&(fs.lookup m).isNone
    | _=>false)
  | none=>false
theorem w9(h:isObj c m p S=true):∃ i fs,n5 p=some i/\S[i]?=some (.obj c fs)/\fs.lookup m=none:=by
  unfold isObj at h;split at h
  . next i e1 =>
    split at h
    . next d fs e2 =>
      rw[YH,Y8]at h;obtain⟨rfl,h2⟩:=h;exact⟨i,fs,e1,e2,by simpa using h2⟩
    . cases h
  . cases h
noncomputable def zE(c:Nat)(m:Str)(G:List PV->aW->RS PV)(a:GA)(ρ:aJ)(p:PV)(S:aW):RS PV:=if isObj c m p S then (a ρ S).bind fun ps S2=>G (p::ps) S2 else .stuck
noncomputable def de(c:Nat)(m:Str)(G:List PV->aW->RS PV)(o:GE)(a:GA):GE:=fun ρ S=>(o ρ S).bind (zE c m G a ρ)
end
section
variable {P:Program}{w:World}{K:PySem.W.Frag}{mg:Str->Option Value}{base:Heap}{cl:Nat->Addr}
structure sf(P:Program)(w:World)(K:PySem.W.Frag)(mg:Str->Option Value)(base:Heap)(cl:Nat->Addr)(k:Nat)(x:Str)(n:Nat)(G:List PV->aW->RS PV):Prop where
  ex:∃(f:Addr)(fd:FuncData)(ps:List Str),mg x=some (.ref f)/\PySem.W.keepIn K (.ref f)=true/\ps.length=n/\fO P w K mg base (jl cl P w) k f fd ps (spS K cl n G)/\Binds K fd ps []
structure jo(P:Program)(w:World)(K:PySem.W.Frag)(mg:Str->Option Value)(base:Heap)(cl:Nat->Addr)(k:Nat)(c:Nat)(m:Str)(n:Nat)(G:List PV->aW->RS PV):Prop where
  ex:∃(f:Addr)(fd:FuncData)(ps:List Str),L2.iP K (cl c)/\Meth K (cl c) m f/\ps.length=n+1/\fO P w K mg base (jl cl P w) k f fd ps (spS K cl (n+1) G)/\Binds K fd ps []
structure u4(P:Program)(w:World)(K:PySem.W.Frag)(mg:Str->Option Value)(base:Heap)(cl:Nat->Addr)(k:Nat)(c:Nat)(x:Str)(n:Nat)(G:List PV->aW->RS PV)(ds:List PV):Prop where
  ex:∃(f:Addr)(fd:FuncData)(ps:List Str)(uw:List V)(zF:List Value),mg x=some (.ref (cl c))/\Mk K (cl c) f/\ps.length=n+ds.length+1/\fO P w K mg base (jl cl P w) k f fd ps (spS K cl (n+ds.length+1) G)/\Binds K fd ps zF/\Vals uw zF/\(∀ Hf,cy K cl Hf uw ds)
end
section
variable {X:Cx}{cl:Nat->Addr}{pins:List (Addr×Obj)}{s:Shared}{σ:SV}{as cz:List Addr}{Hf H aM H1:Hp}{ρ:aJ}{S:aW}{α:Type}
theorem Fl{e:Expr}{es:List Expr}{p pos:Pos}{G:List PV->aW->RS PV}(hF:sf X.prog X.w X.K X.mg X.base cl k x n G)(hr:cE k X.A)(hg:Gl X x)(inj:∀ c d,cl c=cl d->c=d)(hex:∀ b,b ∉ X.ex)
    (ha:SA X cl (e::es) g) (hl:(e::es).length=n) (eW:autoParam ((x ==("__debug__" : Str))=false) w_) (he:autoParam (starEach (e::es) X.env=(false,eval e X.env)::starEach es X.env) f_) (eC:autoParam ((backTo pos (starEach es X.env)).any (·.1)=false) f_) :
    SE X cl (.Call (.Name x p) (e::es) [] pos) (gW G g):=by
  obtain⟨f,fd,ps,hm,hk,hn,hf,hb⟩:=hF.ex;refine⟨fun pins s σ as Hf H ρ S I r hs=>?_⟩;unfold gW at hs ⊢;refine Zq (gj I hg hm ?_ eW);refine ZM (h₀:=X.base) I.ok.mod.ot hk (ha.run pos I r (.refl _ _) hs fun qs vs us s1 cz aM H1 S1 hq e1 I1 rv g1 r1 bA=>⟨I1.eT,?_⟩) he eC;rw[e1]at hs ⊢;exact YA (Bk hf hb hr inj hex I1 r1.da rv bA hn (by rw[hq,hl]) hs) (fun _ _ q=>q.from g1) fun _ _ q=>q.from g1
theorem IY{e:Expr}{es:List Expr}{apos pos:Pos}{G:List PV->aW->RS PV} (hF:jo X.prog X.w X.K X.mg X.base cl k c m n G) (hr:cE k X.A) (inj:∀ c d,cl c=cl d->c=d) (hex:∀ b,b ∉ X.ex)
    (ho:SE X cl o fo) (ha:SA X cl (e::es) g) (hl:(e::es).length=n)
    (fB:autoParam (starEach (e::es) X.env=(false,eval e X.env)::starEach es X.env) f_) (eC:autoParam ((backTo pos (starEach es X.env)).any (·.1)=false) f_)
    (ht:autoParam (eval (.Call (.Attribute o m apos) (e::es) [] pos) X.env=(do
      let ov <- eval o X.env
      standAt apos.atName
      let (f,first) <- holding [ov] (getMethod ov m pl)
      callWith pos f first (backTo pos (starEach (e::es) X.env)) (backToKw pos (keywordEach [] X.env)))) f_) :
    SE X cl (.Call (.Attribute o m apos) (e::es) [] pos) (de c m G fo g):=by
  obtain⟨f,fd,ps,hc,hm,hn,hf,hb⟩:=hF.ex;refine⟨fun pins s σ as Hf H ρ S I r hs=>?_⟩;unfold de at hs ⊢;refine Z1 (pl:=pl) (ho.run I r (.refl _ _) hs fun q v u s1 cz aM H1 S1 e1 I1 rv g1 r1 rp=>?_) ht;rw[e1]at hs ⊢;unfold zE at hs ⊢;split at hs
  . next hi =>
    rw[Yy hi];obtain⟨i,fs,h1,h2,h3⟩:=w9 hi;obtain⟨a,uY,rfl⟩:=lE rp h1;obtain rfl:u=Value.ref a:=rv;obtain⟨dx,Vh,k1,k2,k3⟩:=r1.da.at_ i a _ uY h2
    refine m8 I1 k1 hc hm ((k3.look m).2 h3) ?_;refine ZM (first:=[.ref a]) (h₀:=X.base) I.ok.mod.ot hm.kp (ha.run pos I1 r1 g1 hs fun qs vs us s2 qw cX H2 S2 GG e2 I2 uS g2 r2 bA=>⟨I2.eT,?_⟩) fB eC;rw[e2]at hs ⊢;have lY:=g1.trans g2
    exact YA (Bk (us:=.ref a::us) (vs:=.ref a::vs) (qs:=q::qs) hf hb hr inj hex I2 r2.da (.cons rfl uS) (.cons (rp.keep g2) bA) hn (by rw[YS,GG,hl]) hs) (fun _ _ q=>q.from lY) fun _ _ q=>q.from lY
  . exact absurd rfl hs
theorem Fm{apos pos:Pos}{G:List PV->aW->RS PV} (hF:jo X.prog X.w X.K X.mg X.base cl k c m 0 G) (hr:cE k X.A) (inj:∀ c d,cl c=cl d->c=d) (hex:∀ b,b ∉ X.ex)
    (ho:SE X cl o fo)
    (ht:autoParam (eval (.Call (.Attribute o m apos) [] [] pos) X.env=(do
      let ov <- eval o X.env
      standAt apos.atName
      let (f,first) <- holding [ov] (getMethod ov m pl)
      callWith pos f first (backTo pos (starEach [] X.env)) (backToKw pos (keywordEach [] X.env)))) f_) :
    SE X cl (.Call (.Attribute o m apos) [] [] pos) (de c m G fo bI):=by
  obtain⟨f,fd,ps,hc,hm,hn,hf,hb⟩:=hF.ex;refine⟨fun pins s σ as Hf H ρ S I r hs=>?_⟩;unfold de at hs ⊢;refine Z1 (pl:=pl) (ho.run I r (.refl _ _) hs fun q v u s1 cz aM H1 S1 e1 I1 rv g1 r1 rp=>?_) ht;rw[e1]at hs ⊢;unfold zE at hs ⊢;split at hs
  . next hi =>
    rw[Yy hi];obtain⟨i,fs,h1,h2,h3⟩:=w9 hi;obtain⟨a,uY,rfl⟩:=lE rp h1;obtain rfl:u=Value.ref a:=rv;obtain⟨dx,Vh,k1,k2,k3⟩:=r1.da.at_ i a _ uY h2
    refine m8 I1 k1 hc hm ((k3.look m).2 h3) ?_;refine adj (first:=[.ref a]) I1.eT hm.kp ?_;exact YA (Bk (us:=[.ref a]) (vs:=[.ref a]) (qs:=[q]) hf hb hr inj hex I1 r1.da (.cons rfl .nil) (.cons rp .nil) hn rfl hs) (fun _ _ q=>q.from g1) fun _ _ q=>q.from g1
  . exact absurd rfl hs
noncomputable def Dr(c:Nat)(G:List PV->aW->RS PV)(ds:List PV)(ps:List PV)(S:aW):RS PV:=match G (aS S.length::(ps++ds)) (S ++[.obj c []])with
  | .ok .bf S'=>.ok (aS S.length) S'
  | .exc d S'=>.exc d S'
  | _=>.stuck
noncomputable def nL(c:Nat)(G:List PV->aW->RS PV)(ds:List PV)(a:GA):GE:=fun ρ S=>(a ρ S).bind (Dr c G ds)
theorem fv.append{K:PySem.W.Frag}:∀{vs ws:List V}{ps qs:List PV},fv K cl as Hf vs ps->fv K cl as Hf ws qs->fv K cl as Hf (vs++ws) (ps++qs)
  | _,_,_,_,.nil,s=>s
  | _,_,_,_,.cons r t,s=>.cons r (fv.append t s)
theorem IZ{e:Expr}{es:List Expr}{p pos:Pos}{G:List PV->aW->RS PV}(hF:u4 X.prog X.w X.K X.mg X.base cl k c x n G ds)(hr:cE (k+1) X.A)(hg:Gl X x)(inj:∀ c d,cl c=cl d->c=d)(hex:∀ b,b ∉ X.ex)
    (ha:SA X cl (e::es) g) (hl:(e::es).length=n) (eW:autoParam ((x ==("__debug__" : Str))=false) w_) (he:autoParam (starEach (e::es) X.env=(false,eval e X.env)::starEach es X.env) f_) (eC:autoParam ((backTo pos (starEach es X.env)).any (·.1)=false) f_) :
    SE X cl (.Call (.Name x p) (e::es) [] pos) (nL c G ds g):=by
  obtain⟨f,fd,ps,uw,zF,hm,M,hn,hf,hb,hd,Vi⟩:=hF.ex;refine⟨fun pins s σ as Hf H ρ S I r hs=>?_⟩;unfold nL at hs ⊢;refine Zq (gj I hg hm ?_ eW);refine ZM (h₀:=X.base) I.ok.mod.ot M.kp (ha.run pos I r (.refl _ _) hs fun qs vs us s1 cz aM H1 S1 hq e1 I1 rv g1 r1 bA=>⟨I1.eT,?_⟩) he eC;rw[e1]at hs ⊢;unfold Dr at hs ⊢;generalize hR:G (aS S1.length::(qs++ds)) (S1 ++[.obj c []])=R' at hs ⊢;have I2:=Inv.made (C:=cl c) I1
  have n1:H1 s1.heap.objs.size=none:=I1.bQ.fresh (YD _);have n2:H1 (s1.heap.objs.size+1)=none:=I1.bQ.fresh (Nat.le_succ _)
  have uZ:=r1.da.more (o:=.own (s1.heap.objs.size+1)) n1;have n3:upd H1 s1.heap.objs.size (.own (s1.heap.objs.size+1)) (s1.heap.objs.size+1)=none:=by rw[bJ (aba (aaF _))];exact n2
  have BU:aM (s1.heap.objs.size+1)=none:=r1.da.sub.free n2;have gS:=uZ.new (o:=.ins (cl c) s1.heap.objs.size []) (c:=.obj c []) n3 ⟨_,_,bU,BU,.nil⟩
  have g2:cf cz aM (cz ++[s1.heap.objs.size+1]) aM:=⟨⟨_,rfl⟩,bc.refl _⟩;have hx:Vr X.K cl (cz ++[s1.heap.objs.size+1]) aM (.ref (s1.heap.objs.size+1)) (aS S1.length):=r1.da.Df
  have Li:fv X.K cl (cz ++[s1.heap.objs.size+1]) aM (.ref (s1.heap.objs.size+1)::(vs++uw)) (aS S1.length::(qs++ds)):=.cons hx ((bA.keep g2).append (.of (Vi aM)));have uS:Vals (V.ref (s1.heap.objs.size+1)::(vs++uw)) (Value.ref (s1.heap.objs.size+1)::(us++zF)):=.cons rfl (rv.append hd)
  have Vj:(aS S1.length::(qs++ds)).length=n+ds.length+1:=by rw[YS,Zt,hq,hl]
  have hv:(V.ref (s1.heap.objs.size+1)::(vs++uw)).length=n+ds.length+1:=by rw[Li.length,Vj]
  have mH:(Value.ref (s1.heap.objs.size+1)::us++zF).length=ps.length:=by
    have e:=uS.length;rw[hv]at e;rw[hn];exact e.symm
  have ns:R'≠.stuck:=fun z=>hs (by rw[z]);have hG:spS X.K cl (n+ds.length+1) G (.ref (s1.heap.objs.size+1)::(vs++uw)) (upd (upd H1 s1.heap.objs.size (.own (s1.heap.objs.size+1))) (s1.heap.objs.size+1) (.ins (cl c) s1.heap.objs.size []))
      (fun v H'=>∃ p S' aT az,R'=.ok p S'/\cf (cz ++[s1.heap.objs.size+1]) aM aT az/\cC X.K cl aT az H' S'/\Vr X.K cl aT az v p)
      (fun u o H'=>∃ c' S' aT az,(match R' with | .ok .bf S'=>RS.ok (aS S1.length) S' | .exc d S'=>.exc d S' | _=>.stuck)=.exc c' S'/\cf (cz ++[s1.heap.objs.size+1]) aM aT az/\cC X.K cl aT az H' S'/\u=.ref (cl c')) :=
    ⟨hv,_,aM,_,_,gS,Li,(by rw[hR];exact ns),fun p v S' aT az H' a b c d=>⟨p,S',aT,az,by rw[<- hR];exact a,b,c,d⟩,fun c S' aT az H' a b d=>⟨c,S',aT,az,by rw[hR]at a;rw[a],b,d,rfl⟩⟩
  refine aaj (EC (f:=f) I1.eT M.makes M.init (Y8.mp M.fn) (Z3 (hf.run _ X.stack _ _ ⟨Value.ref (s1.heap.objs.size+1)::us,[]⟩ (Value.ref (s1.heap.objs.size+1)::(us++zF)) _ _ _ (hr.make (cl c) us [])
    (I2.qO.make (cl c) us []) (hb _ (Value.ref (s1.heap.objs.size+1)::us) I2.eT mH) uS hG) fun rr s' dU=>?_))
  cases rr with
  | error e=>exact(GW I2 dU inj hex).from (g1.trans g2)
  | ok fl =>
    cases fl with
    | ret u =>
      obtain⟨v,H',I3,fN,p,S',aT,az,e2,g3,rP,rp⟩:=I2.after dU;subst e2;cases p<;>first
        | exact absurd rfl hs
        | skip
      have pa:=rp.rp rfl;cases pa;refine⟨fN,?_⟩;exact⟨aS S1.length,V.ref (s1.heap.objs.size+1),S',aT,az,H',rfl,I3,rfl,(g1.trans g2).trans g3,rP,hx.keep g3⟩
    | next=>exact False.elim dU
    | brk=>exact False.elim dU
    | cont=>exact False.elim dU
end
noncomputable def cO(n:Nat)(b:GS)(vs:List PV)(S:aW):RS PV:=match b (start n vs) S with
  | .next _ S'=>.ok .bf S'
  | .ret v S'=>.ok v S'
  | .exc c _ S'=>.exc c S'
  | _=>.stuck
theorem Bl{K:PySem.W.Frag}{cl:Nat->Addr}{as:List Addr}{Hf H:Hp}{S:aW}{n:Nat}{N:List Str}{vs:List V}{ps:List PV}(hn:N.length=n)(st:cC K cl as Hf H S)(r:fv K cl as Hf vs ps):dG K cl as Hf H (L2.start N vs) (Mi.start n ps) S:=by
  have hl:=r.length;refine⟨st,fun i p h=>?_⟩;have e:ps[i]?=some p:=by
    unfold Mi.start at h;by_cases hi:i<ps.length
    . rw[YQ (by simpa using hi),ZL]at h;cases e:ps[i]? with
      | none=>rw[e]at h;cases h
      | some q=>rw[e]at h;cases h;rfl
    . rw[Y6 (by simpa using hi),aaX]at h;split at h<;>cases h
  obtain⟨v,h1,h2⟩:=r.get e;refine⟨v,?_,h2⟩;unfold L2.start;have hi:i<vs.length:=(YC.mp h1).1
  rw[YQ (by simpa using hi),ZL,h1];rfl
section
variable {P:Program}{w:World}{K:PySem.W.Frag}{mg:Str->Option Value}{base:Heap}{cl:Nat->Addr}
theorem jC{x qual:Str}{st:Stmt}{f:Addr}{N ps:List Str}{k n:Nat}{b:GS}{dV kV doc pm aU ct oc:Value}{an od:Option Addr}{fM:Array (Option Value)}
    (lk:K.lookup f=some ⟨oc,od,.func (PySem.W.fnOf x qual (cT st) (bF st) (aI st) dV kV doc pm an aU ct),fM⟩) (ey:PySem.W.codeIn K aU qual=true) (S:fD N ps (aI st)) (hn:ps.length=n)
    (eG:∀(aU:Value)(A:Around)(outer:List Env)(s:Shared)(H:Hp)(E:XK),cE k (A.deeper (envOfC qual (aI st) s.heap.objs.size f aU)) ->
      jB (bG P w K mg base cl N qual (aI st) f aU A outer s H E) cl (bF st) b):fO P w K mg base (jl cl P w) (k+1) f (PySem.W.fnOf x qual (cT st) (bF st) (aI st) dV kV doc pm an aU ct) ps (spS K cl n (cO N.length b)):=by
  refine AQ lk ey S (fun vs H Q E h=>by rw[h.1,hn]) fun A outer s H vs Q E hr hG=>?_;obtain⟨hl,as,Hf,S0,qs,qr,bA,hs,bQ,hex⟩:=hG;have hb:=eG aU A outer s H E hr
  have cZ:b (Mi.start N.length qs) S0≠.stuck:=fun z=>hs (by unfold cO;rw[z]);refine⟨fun D σ H1=>σ=L2.start N vs/\H1=H/\D={ nx:=fun _ H'=>Q .bf H',rt:=Q },fun pins s1 σ H1 D I h=>?_,rfl,rfl,rfl⟩;obtain⟨rfl,rfl,rfl⟩:=h;refine YA (hb.go pins s1 _ as Hf H1 _ S0 I (Bl rfl qr bA) cZ) (fun fl s2 q=>?_) fun u s2 q=>?_
  . cases fl with
    | next =>
      obtain⟨ρ',S',σ',aT,az,H',e1,I',r',g⟩:=q;exact⟨σ',H',I',bQ .bf .bf S' aT az H' (by unfold cO;rw[e1]) g r'.da (Vr.of .bf)⟩
    | ret u =>
      obtain⟨p,v,S',σ',aT,az,H',e1,I',iD,g,rv,rp⟩:=q;exact⟨v,σ',H',I',rv,bQ p v S' aT az H' (by unfold cO;rw[e1]) g iD rp⟩
    | brk =>
      obtain⟨ρ',S',σ',aT,az,H',e1,I',r',g⟩:=q;exact absurd (by unfold cO;rw[e1]) hs
    | cont =>
      obtain⟨ρ',S',σ',aT,az,H',e1,I',r',g⟩:=q;exact absurd (by unfold cO;rw[e1]) hs
  . obtain⟨c,ρ',S',σ',aT,az,H',e,e1,rfl,I',r',g,x⟩:=q;exact oS I' x (hex c S' aT az H' (by unfold cO;rw[e1]) g r'.da)
theorem bq.Vk{x:Str}{st:Stmt}{f:Addr}{fd:FuncData}{N ps:List Str}{k n:Nat}{b:GS}(D:bq K mg x st f fd)(S:fD N ps (aI st))(hn:ps.length=n)
    (hb:∀(kV doc pm:Value)(an:Option Addr)(aU ct:Value)(us:List Value),us.length=ps.length->bindArgs (PySem.W.fnOf x x (cT st) (bF st) (aI st) .none kV doc pm an aU ct) ⟨us,[]⟩=pure (ps.zip us))
    (eG:∀(aU:Value)(A:Around)(outer:List Env)(s:Shared)(H:Hp)(E:XK),cE k (A.deeper (envOfC x (aI st) s.heap.objs.size f aU)) ->
      jB (bG P w K mg base cl N x (aI st) f aU A outer s H E) cl (bF st) b):sf P w K mg base cl (k+1) x n (cO N.length b):=by
  obtain⟨oc,od,kV,doc,pm,an,aU,ct,fM,rfl,lk,ey⟩:=D.fn.ex;exact⟨⟨f,_,ps,D.mg,D.fn.kp,hn,jC lk ey S hn eG,D.fn.binds hb⟩⟩
theorem MethAt.Vl{c:Nat}{m qual:Str}{st:Stmt}{f:Addr}{fd:FuncData}{N ps:List Str}{k n:Nat}{b:GS}(D:MethAt K cl c m qual st f fd)(hc:L2.iP K (cl c))(S:fD N ps (aI st))(hn:ps.length=n+1)
    (hb:∀(kV doc pm:Value)(an:Option Addr)(aU ct:Value)(us:List Value),us.length=ps.length->bindArgs (PySem.W.fnOf m qual (cT st) (bF st) (aI st) .none kV doc pm an aU ct) ⟨us,[]⟩=pure (ps.zip us))
    (eG:∀(aU:Value)(A:Around)(outer:List Env)(s:Shared)(H:Hp)(E:XK),cE k (A.deeper (envOfC qual (aI st) s.heap.objs.size f aU)) ->
      jB (bG P w K mg base cl N qual (aI st) f aU A outer s H E) cl (bF st) b):jo P w K mg base cl (k+1) c m n (cO N.length b):=by
  obtain⟨oc,od,kV,doc,pm,an,aU,ct,fM,rfl,lk,ey⟩:=D.fn.ex;exact⟨⟨f,_,ps,hc,D.at_,hn,jC lk ey S hn eG,D.fn.binds hb⟩⟩
structure Bm(K:PySem.W.Frag)(mg:Str->Option Value)(cl:Nat->Addr)(c:Nat)(x:Str):Prop where
  mg:mg x=some (.ref (cl c))
  makes:PySem.W.makesIn K (cl c)=true
  kp:PySem.W.keepIn K (.ref (cl c))=true
  cls:L2.iP K (cl c)
noncomputable def GX(K:PySem.W.Frag)(x:Str):Bool :=
  rR K x&&PySem.W.makesIn K (cW K x)&&PySem.W.keepIn K (.ref (cW K x)) &&
  PySem.W.plainGet K (cW K x) Str.empty&&PySem.W.hasDictIn K (cW K x)&&PySem.W.plainOver K (cW K x)&&PySem.W.findIn K (.ref (cW K x)) "__setattr__" == some (some (.builtin "object.__setattr__"))
theorem obj_of{h:Heap}{all:List (Nat×Str)}{c:Nat}{x:Str}(X:K.In h)(G:h.Ns mainGlobals mg)(hn:(all.map (·.1)).Nodup)(hx:(c,x)∈all)(o:GX K x=true):Bm K mg (iM K all) c x:=by
  have ec:=eB (K:=K) hn hx;unfold GX at o;simp only[YH,Y8]at o;obtain⟨⟨⟨⟨⟨⟨o1,o2⟩,o3⟩,o4⟩,o5⟩,o6⟩,o7⟩:=o;exact⟨by rw[ec];exact Z6 X G (qW o1),by rw[ec];exact o2,by rw[ec];exact o3,by rw[ec];exact⟨o4,o5,o6,o7⟩⟩
theorem noattr_of{all:List (Nat×Str)}{c:Nat}{x f:Str}(hn:(all.map (·.1)).Nodup)(hx:(c,x)∈all)(o:PySem.W.findIn K (.ref (cW K x)) f=some none):iQ K (iM K all c) f:=by
  show PySem.W.findIn K (.ref (iM K all c)) f=some none;rw[eB hn hx];exact o
structure MethAtD(K:PySem.W.Frag)(cl:Nat->Addr)(c:Nat)(m qual:Str)(st:Stmt)(f:Addr)(fd:FuncData)(y:Str):Prop where
  fn:KG K m qual st f fd y
  at_:Meth K (cl c) m f
theorem meth_mkD{all:List (Nat×Str)}{c:Nat}{x m qual:Str}{st:Stmt}{C f:Addr}{oc:Value}{od an:Option Addr}{fM:Array (Option Value)}{kV doc pm aU ct:Value}{T:Addr}{KH:Value}{KI:Option Addr}{E5:Array (Option Value)}{n:Nat}{t:Tok}{y:Str}(hn:(all.map (·.1)).Nodup)(hx:(c,x)∈all)(a:PySem.W.nsIn K mainGlobals x=some (some (.ref C)))
    (b:PySem.W.findIn K (.ref C) m=some (some (.ref f))) (i:PySem.W.isFn K (.ref f)=true) (l:K.lookup f=some ⟨oc,od,.func (PySem.W.fnOf m qual (cT st) (bF st) (aI st) (.ref T) kV doc pm an aU ct),fM⟩) (d:PySem.W.codeIn K aU qual=true) (k:PySem.W.keepIn K (.ref f)=true)
    (e:K.lookup T=some ⟨KH,KI,.seq #[.str y t] n,E5⟩) :
    ∃ f fd,MethAtD K (iM K all) c m qual st f fd y:=⟨f,_,⟨⟨oc,od,kV,doc,pm,an,aU,ct,fM,T,_,n,t,rfl,l,d,e,rfl⟩,k⟩,by rw[eB hn hx,yW a];exact⟨b,i,k⟩⟩
theorem MethAtD.Vm{c:Nat}{x qual y:Str}{st:Stmt}{f:Addr}{fd:FuncData}{N ps:List Str}{k n:Nat}{b:GS} (D:MethAtD K cl c "__init__" qual st f fd y) (C:Bm K mg cl c x) (S:fD N ps (aI st)) (hn:ps.length=n+2)
    (hb:∀(T:Addr)(t:Tok)(kV doc pm:Value)(an:Option Addr)(aU ct:Value)(us:List Value),us.length=ps.length->∃ k,bindArgs (PySem.W.fnOf "__init__" qual (cT st) (bF st) (aI st) (.ref T) kV doc pm an aU ct) ⟨us,[]⟩=seqItems? (.ref T) >>= k/\k (some #[.str y t])=pure (ps.zip us))
    (qu:∀(T:Addr)(t:Tok)(kV doc pm:Value)(an:Option Addr)(aU ct:Value)(us:List Value),us.length+1=ps.length->∃ k,bindArgs (PySem.W.fnOf "__init__" qual (cT st) (bF st) (aI st) (.ref T) kV doc pm an aU ct) ⟨us,[]⟩=seqItems? (.ref T) >>= k/\k (some #[.str y t])=pure (ps.zip (us ++[.str y t])))
    (eG:∀(aU:Value)(A:Around)(outer:List Env)(s:Shared)(H:Hp)(E:XK),cE k (A.deeper (envOfC qual (aI st) s.heap.objs.size f aU)) ->
      jB (bG P w K mg base cl N qual (aI st) f aU A outer s H E) cl (bF st) b):u4 P w K mg base cl (k+1) c x (n+1) (cO N.length b) []/\u4 P w K mg base cl (k+1) c x n (cO N.length b) [.str y]:=by
  obtain⟨oc,od,kV,doc,pm,an,aU,ct,fM,T,o,m,t,rfl,lk,ey,lt,dt⟩:=D.fn.ex;have M:Mk K (cl c) f:=⟨C.makes,D.at_.at_,D.at_.fn,C.kp⟩
  refine⟨⟨⟨f,_,ps,[],[],C.mg,M,hn,jC lk ey S hn eG,fun s us X hl=>?_,.nil,fun _=>.nil⟩⟩,⟨⟨f,_,ps,[.str y],[.str y t],C.mg,M,hn,jC lk ey S hn eG,fun s us X hl=>?_,.cons ⟨t,rfl⟩ .nil,fun _=>.cons (.str y) .nil⟩⟩⟩
  . rw[Ze]at hl ⊢;obtain⟨k,e1,e2⟩:=hb T t kV doc pm an aU ct us hl;exact abh X rfl lt dt e1 e2
  . obtain⟨k,e1,e2⟩:=qu T t kV doc pm an aU ct us (by simpa using hl);exact abh X rfl lt dt e1 e2
end
section
variable {P:Program}{w:World}{K:PySem.W.Frag}{mg:Str->Option Value}{base:Heap}{cl:Nat->Addr}{N:List Str}{qual:Str}{scope:Scope}{f:Addr}{cd:Value}{A:Around}{outer:List Env}{s:Shared}{H:Hp}{E:XK}
theorem Ds{X:Cx}(h:X.ex=[]):∀ b,b ∉ X.ex:=fun b z=>by rw[h]at z;cases z
theorem mQ{F:List PV->R PV}{e:Expr}{es:List Expr}{p pos:Pos}
    (h:FG P w K mg base cl k x n F) (hr:cE k' (A.deeper (envOfC qual scope s.heap.objs.size f cd))) (inj:∀ c d,cl c=cl d->c=d) (ha:SA (bG P w K mg base cl N qual scope f cd A outer s H E) cl (e::es) g) (hk:autoParam (k<=k') w_)
    (hl:autoParam ((e::es).length=n) f_) (hg:autoParam (Gl (bG P w K mg base cl N qual scope f cd A outer s H E) x) f_) (eW:autoParam ((x ==("__debug__" : Str))=false) w_)
    (he:autoParam (starEach (e::es) (bG P w K mg base cl N qual scope f cd A outer s H E).env=(false,eval e (bG P w K mg base cl N qual scope f cd A outer s H E).env)::starEach es (bG P w K mg base cl N qual scope f cd A outer s H E).env) f_)
    (eC:autoParam ((backTo pos (starEach es (bG P w K mg base cl N qual scope f cd A outer s H E).env)).any (·.1)=false) f_) :
    SE (bG P w K mg base cl N qual scope f cd A outer s H E) cl (.Call (.Name x p) (e::es) [] pos) (e6 F g) :=
  Fj h.fn (hr.mono hk) hg rfl inj (Ds rfl) ha hl eW he eC
theorem u6{G:List PV->aW->RS PV}{e:Expr}{es:List Expr}{p pos:Pos}
    (h:sf P w K mg base cl k x n G) (hr:cE k' (A.deeper (envOfC qual scope s.heap.objs.size f cd))) (inj:∀ c d,cl c=cl d->c=d) (ha:SA (bG P w K mg base cl N qual scope f cd A outer s H E) cl (e::es) g) (hk:autoParam (k<=k') w_)
    (hl:autoParam ((e::es).length=n) f_) (hg:autoParam (Gl (bG P w K mg base cl N qual scope f cd A outer s H E) x) f_) (eW:autoParam ((x ==("__debug__" : Str))=false) w_)
    (he:autoParam (starEach (e::es) (bG P w K mg base cl N qual scope f cd A outer s H E).env=(false,eval e (bG P w K mg base cl N qual scope f cd A outer s H E).env)::starEach es (bG P w K mg base cl N qual scope f cd A outer s H E).env) f_)
    (eC:autoParam ((backTo pos (starEach es (bG P w K mg base cl N qual scope f cd A outer s H E).env)).any (·.1)=false) f_) :
    SE (bG P w K mg base cl N qual scope f cd A outer s H E) cl (.Call (.Name x p) (e::es) [] pos) (gW G g) :=
  Fl h (hr.mono hk) hg inj (Ds rfl) ha hl eW he eC
theorem h9{G:List PV->aW->RS PV}{o e:Expr}{es:List Expr}{apos pos:Pos}
    (h:jo P w K mg base cl k c m n G) (hr:cE k' (A.deeper (envOfC qual scope s.heap.objs.size f cd))) (inj:∀ c d,cl c=cl d->c=d) (ho:SE (bG P w K mg base cl N qual scope f cd A outer s H E) cl o fo) (ha:SA (bG P w K mg base cl N qual scope f cd A outer s H E) cl (e::es) g) (hk:autoParam (k<=k') w_)
    (hl:autoParam ((e::es).length=n) f_)
    (he:autoParam (starEach (e::es) (bG P w K mg base cl N qual scope f cd A outer s H E).env=(false,eval e (bG P w K mg base cl N qual scope f cd A outer s H E).env)::starEach es (bG P w K mg base cl N qual scope f cd A outer s H E).env) f_)
    (eC:autoParam ((backTo pos (starEach es (bG P w K mg base cl N qual scope f cd A outer s H E).env)).any (·.1)=false) f_)
    (ht:autoParam (eval (.Call (.Attribute o m apos) (e::es) [] pos) (bG P w K mg base cl N qual scope f cd A outer s H E).env=(do
      let ov <- eval o (bG P w K mg base cl N qual scope f cd A outer s H E).env
      standAt apos.atName
      let (f',first) <- holding [ov] (getMethod ov m pl)
      callWith pos f' first (backTo pos (starEach (e::es) (bG P w K mg base cl N qual scope f cd A outer s H E).env)) (backToKw pos (keywordEach [] (bG P w K mg base cl N qual scope f cd A outer s H E).env)))) f_) :
    SE (bG P w K mg base cl N qual scope f cd A outer s H E) cl (.Call (.Attribute o m apos) (e::es) [] pos) (de c m G fo g) :=
  IY h (hr.mono hk) inj (Ds rfl) ho ha hl he eC ht
theorem R6{G:List PV->aW->RS PV}{apos pos:Pos}
    (h:jo P w K mg base cl k c m 0 G) (hr:cE k' (A.deeper (envOfC qual scope s.heap.objs.size f cd))) (inj:∀ c d,cl c=cl d->c=d) (ho:SE (bG P w K mg base cl N qual scope f cd A outer s H E) cl o fo) (hk:autoParam (k<=k') w_)
    (ht:autoParam (eval (.Call (.Attribute o m apos) [] [] pos) (bG P w K mg base cl N qual scope f cd A outer s H E).env=(do
      let ov <- eval o (bG P w K mg base cl N qual scope f cd A outer s H E).env
      standAt apos.atName
      let (f',first) <- holding [ov] (getMethod ov m pl)
      callWith pos f' first (backTo pos (starEach [] (bG P w K mg base cl N qual scope f cd A outer s H E).env)) (backToKw pos (keywordEach [] (bG P w K mg base cl N qual scope f cd A outer s H E).env)))) f_) :
    SE (bG P w K mg base cl N qual scope f cd A outer s H E) cl (.Call (.Attribute o m apos) [] [] pos) (de c m G fo bI) :=
  Fm h (hr.mono hk) inj (Ds rfl) ho ht
theorem Lj{G:List PV->aW->RS PV}{e:Expr}{es:List Expr}{p pos:Pos}
    (h:u4 P w K mg base cl k c x n G ds) (hr:cE k' (A.deeper (envOfC qual scope s.heap.objs.size f cd))) (inj:∀ c d,cl c=cl d->c=d) (ha:SA (bG P w K mg base cl N qual scope f cd A outer s H E) cl (e::es) g) (hk:autoParam (k+1<=k') w_)
    (hl:autoParam ((e::es).length=n) f_) (hg:autoParam (Gl (bG P w K mg base cl N qual scope f cd A outer s H E) x) f_) (eW:autoParam ((x ==("__debug__" : Str))=false) w_)
    (he:autoParam (starEach (e::es) (bG P w K mg base cl N qual scope f cd A outer s H E).env=(false,eval e (bG P w K mg base cl N qual scope f cd A outer s H E).env)::starEach es (bG P w K mg base cl N qual scope f cd A outer s H E).env) f_)
    (eC:autoParam ((backTo pos (starEach es (bG P w K mg base cl N qual scope f cd A outer s H E).env)).any (·.1)=false) f_) :
    SE (bG P w K mg base cl N qual scope f cd A outer s H E) cl (.Call (.Name x p) (e::es) [] pos) (nL c G ds g) :=
  IZ h (hr.mono hk) hg inj (Ds rfl) ha hl eW he eC
end
section
variable {X:Cx}{cl:Nat->Addr}
theorem sv(i:Nat){x:Str}{pos:Pos}(hN:autoParam (X.N[i]?=some x) f_)(hv:autoParam (ou X.env.scope x) k_) (hd:autoParam ((x ==("__debug__" : Str))=false) w_)
    (ey:autoParam ((x ==("__classdict__" : Str))=false) w_):SE X cl (.Name x pos) (bB i):=Lb hN hv hd ey
end
theorem law_ofS{l:PySem.W.OpenLaw}{XP:(Str->Option Value)->Heap->Prop}{YP:World->Heap->Prop}{d:DefRec}{K:Params->PySem.W.Frag}{x:Str}{G:List PV->aW->RS PV}{names:List (Nat×Str)}
    (hn:l.most=some 63) (Vn:d.params.defaults=[]) (hr:cE k callerA)
    (hY:∀(w:World)(h:Heap),YP w h->(K w.params).In h)
    (hF:∀(w:World)(mg:Str->Option Value)(fa:Addr)(h:Heap),(K w.params).In h->h.Ns mainGlobals mg->mg d.name=some (.ref fa) ->
      ∃ fd:FuncData,(∀(s:Shared)(u:Value),BindsTo s fd ⟨[u],[]⟩ [(x,u)]) /\
        ∀ base:Heap,(K w.params).In base->base.Ns mainGlobals mg->fO l.prog w (K w.params) mg base (jl (iM (K w.params) names) l.prog w) k fa fd [x] (spS (K w.params) (iM (K w.params) names) 1 G))
    (R7:∀ ns:List Int,ns.length<=63->(∀ x∈ns,nb x<=1048576)->∃ S,G [.lst (ns.map PV.int)] []=.ok (.bl true) S) :
    PySem.W.WalkO q loose XP YP l.row.toRowW d [] (fun f vs=>PySem.call f vs):=by
  intro w s₀ s₁ mg mb G' Y fa o pm cd doc dV kV ho hd ey hD hmg hg args vals as AS R8 Yi J3 OQ;obtain rfl:dV=.none:=PySem.W.Dflts.none hD Vn;obtain rfl:kV=.none:=PySem.W.Dflts.noKw hD;obtain⟨a,vs,ns,rfl,rfl,R9,hints,hlen⟩:=J2.Ce hn AS J3;have KX:=hY w _ Y
  obtain⟨fd,hb,Vo⟩:=hF w mg fa _ KX G'.T.g hmg;obtain⟨S1,e⟩:=R7 ns hlen (yw R8);refine PySem.W.enter_call (Z3 (EE KX G'.T.g G'.T.b G'.T.builtins G'.T.nolimit hg R9 hints (YU hlen (by decide)) hr Vo hb (fun H hO hS=>?_) fun H e s' h=>?_) fun r s' hq=>?_)
  . refine⟨rfl,[],H,[],[.lst (ns.map PV.int)],⟨bc.refl _,acC,rfl,fun i a c h=>(by simp at h),fun a h=>(by simp at h)⟩,.cons (Vr.of (.lst hS (cy.ints ns))) .nil,(by rw[e];intro z;cases z),fun p v S' aT az H' h _ _ rp=>?_,fun c S' aT az H' h _ _=>?_⟩
    . rw[e]at h;cases h;have pa:=rp.rp rfl;cases pa;rfl
    . rw[e]at h;cases h
  . obtain⟨a,c,H',B,a0,_,_,_,_,_,_,_,_,z⟩:=h;exact z
  . obtain⟨rfl,h2,h3,h4⟩:=hq;exact⟨.inl ⟨.bool true,.bool true,[],rfl,fun _=>rfl,.bool true,J2.Cf l _,fun _=>⟨List.Pairwise.nil,fun _ hm=>(nomatch hm)⟩⟩,h2,h3,h4⟩
section
variable {P:Program}{w:World}{K:PySem.W.Frag}{mg:Str->Option Value}{base:Heap}{cl:Nat->Addr}
theorem bq.fns{x:Str}{st:Stmt}{f:Addr}{fd:FuncData}{N ps:List Str}{k n:Nat}{b:GS}(D:bq K mg x st f fd)(S:fD N ps (aI st))(hn:ps.length=n)
    (eG:∀(aU:Value)(A:Around)(outer:List Env)(s:Shared)(H:Hp)(E:XK),cE k (A.deeper (envOfC x (aI st) s.heap.objs.size f aU)) ->
      jB (bG P w K mg base cl N x (aI st) f aU A outer s H E) cl (bF st) b):fO P w K mg base (jl cl P w) (k+1) f fd ps (spS K cl n (cO N.length b)):=by
  obtain⟨oc,od,kV,doc,pm,an,aU,ct,fM,rfl,lk,ey⟩:=D.fn.ex;exact jC lk ey S hn eG
theorem FG.alias{F:List PV->R PV} (h:FG P w K mg base cl k x n F) (e:mg y=mg x):FG P w K mg base cl k y n F:=by
  obtain⟨f,fd,ps,a,b⟩:=h.ex;exact⟨⟨f,fd,ps,e.trans a,b⟩⟩
theorem jw.alias{F:List PV->R PV} (h:jw P w K mg base cl k x n F z) (e:mg y=mg x):jw P w K mg base cl k y n F z:=by
  obtain⟨f,fd,ps,d,a,b⟩:=h.ex;exact⟨⟨f,fd,ps,d,e.trans a,b⟩⟩
theorem alias_of{h:Heap}{u:Value}(X:K.In h)(G:h.Ns mainGlobals mg)(a:PySem.W.nsIn K mainGlobals y=some (some u))(b:PySem.W.nsIn K mainGlobals x=some (some u)):mg y=mg x:=(Z6 X G a).trans (Z6 X G b).symm
end
theorem GY{P:List Value->Prop}(h:∀ a,P [a]):∀ us:List Value,us.length=1->P us
  | [a],_=>h a
theorem ln2{P:List Value->Prop}(h:∀ a b,P [a,b]):∀ us:List Value,us.length=2->P us
  | [a,b],_=>h a b
theorem n8{P:List Value->Prop}(h:∀ a b c,P [a,b,c]):∀ us:List Value,us.length=3->P us
  | [a,b,c],_=>h a b c
theorem sh{P:List Value->Prop}(h:∀ a b c d,P [a,b,c,d]):∀ us:List Value,us.length=4->P us
  | [a,b,c,d],_=>h a b c d
theorem zG{P:List Value->Prop}(h:∀ a b c d e,P [a,b,c,d,e]):∀ us:List Value,us.length=5->P us
  | [a,b,c,d,e],_=>h a b c d e
theorem xa{P:List Value->Prop}(h:∀ a b,P [a,b])(us:List Value)(e:us.length+1=3):P us:=ln2 h us (adE e)
theorem GZ{P:List Value->Prop}(h:∀ a b c,P [a,b,c])(us:List Value)(e:us.length+1=4):P us:=n8 h us (adE e)
theorem Pn{P:List Value->Prop}(h:∀ a b c d,P [a,b,c,d])(us:List Value)(e:us.length+1=5):P us:=sh h us (adE e)
section
variable {P:Program}{w:World}{K:PySem.W.Frag}{mg:Str->Option Value}{base:Heap}{cl:Nat->Addr}{x m qual y:Str}{st:Stmt}{N:List Str}{c k n:Nat}
def si(N:List Str)(n:Nat)(sc:Scope):Prop:=N.Nodup/\(∀ x∈N.take n,sc.names.lookup x=some .local\/sc.names.lookup x=some .cell)/\(∀ y∈sc.names,y.2≠.free)/\(N.take n).length=n
noncomputable instance (N:List Str) (n:Nat) (sc:Scope):Decidable (si N n sc):=inferInstanceAs (Decidable (_/\_/\_/\_))
theorem xc{sc:Scope}(h:si N n sc)(a:sc.kind=.function)(b:sc.isCoroutine=false)(c:sc.isGenerator=false):fD N (N.take n) sc:=⟨a,b,c,h.1,by rw[h.2.2.2],h.2.1,h.2.2.1⟩
noncomputable abbrev xg(P:Program)(w:World)(K:PySem.W.Frag)(mg:Str->Option Value)(base:Heap)(cl:Nat->Addr)(N:List Str)(qual:Str)(st:Stmt)(f:Addr)(aU:Value)(A:Around)(outer:List Env)(s:Shared)(H:Hp)(E:XK):Cx:=bG P w K mg base cl N qual (aI st) f aU A outer s H E
abbrev xh(k:Nat)(qual:Str)(st:Stmt)(f:Addr)(aU:Value)(A:Around)(s:Shared):Prop:=cE k (A.deeper (envOfC qual (aI st) s.heap.objs.size f aU))
abbrev G0(m qual:Str)(st:Stmt)(ps:List Str):Prop:=∀(kV doc pm:Value)(an:Option Addr)(aU ct:Value)(us:List Value),us.length=ps.length->bindArgs (PySem.W.fnOf m qual (cT st) (bF st) (aI st) .none kV doc pm an aU ct) ⟨us,[]⟩=pure (ps.zip us)
abbrev G1(m qual:Str)(st:Stmt)(ps:List Str)(y:Str)(j:Nat)(g:List Value->Tok->List Value):Prop:=∀(T:Addr)(t:Tok)(kV doc pm:Value)(an:Option Addr)(aU ct:Value)(us:List Value),us.length+j=ps.length->∃ k,bindArgs (PySem.W.fnOf m qual (cT st) (bF st) (aI st) (.ref T) kV doc pm an aU ct) ⟨us,[]⟩=seqItems? (.ref T) >>= k/\k (some #[.str y t])=pure (ps.zip (g us t))
theorem cJ(E:∃ f fd,bq K mg x st f fd)(h:∀ {f aU A outer s H E},xh k x st f aU A s->N.Nodup->jJ (xg P w K mg base cl N x st f aU A outer s H E) cl (bF st) b)
    (hb:G0 x x st (N.take n):=by first|exact fun _ _ _ _ _ _=>ln2 fun _ _=>rfl|exact fun _ _ _ _ _ _=>n8 fun _ _ _=>rfl|exact fun _ _ _ _ _ _=>GY fun _=>rfl|exact fun _ _ _ _ _ _=>sh fun _ _ _ _=>rfl|exact fun _ _ _ _ _ _=>zG fun _ _ _ _ _=>rfl)
    (S:autoParam (si N n (aI st)) j_) (a:autoParam ((aI st).kind=.function) f_) (a2:autoParam ((aI st).isCoroutine=false) f_) (a3:autoParam ((aI st).isGenerator=false) f_):FG P w K mg base cl (k+1) x n (aY N.length b):=by
  obtain⟨f,fd,D⟩:=E;exact D.fg (xc S a a2 a3) S.2.2.2 hb fun aU A outer s H E hr=>h hr S.1
theorem xi(E:∃ f fd,bq K mg x st f fd)(h:∀ {f aU A outer s H E},xh k x st f aU A s->N.Nodup->jB (xg P w K mg base cl N x st f aU A outer s H E) cl (bF st) b)
    (hb:autoParam (G0 x x st (N.take n)) cJ._auto_1)
    (S:autoParam (si N n (aI st)) j_) (a:autoParam ((aI st).kind=.function) f_) (a2:autoParam ((aI st).isCoroutine=false) f_) (a3:autoParam ((aI st).isGenerator=false) f_):sf P w K mg base cl (k+1) x n (cO N.length b):=by
  obtain⟨f,fd,D⟩:=E;exact D.Vk (xc S a a2 a3) S.2.2.2 hb fun aU A outer s H E hr=>h hr S.1
theorem kx(E:∃ f fd,fu K mg x st f fd y)(hb:G1 x x st (N.take n) y 0 fun us _=>us)(qu:G1 x x st (N.take n) y 1 fun us t=>us ++[.str y t])(h:∀ {f aU A outer s H E},xh k x st f aU A s->N.Nodup->jJ (xg P w K mg base cl N x st f aU A outer s H E) cl (bF st) b)
    (S:autoParam (si N n (aI st)) j_) (a:autoParam ((aI st).kind=.function) f_) (a2:autoParam ((aI st).isCoroutine=false) f_) (a3:autoParam ((aI st).isGenerator=false) f_):jw P w K mg base cl (k+1) x n (aY N.length b) y:=by
  obtain⟨f,fd,D⟩:=E;exact D.fg (xc S a a2 a3) S.2.2.2 hb qu fun aU A outer s H E hr=>h hr S.1
theorem Dt(E:∃ f fd,MethAt K cl c m qual st f fd)(hc:L2.iP K (cl c))(h:∀ {f aU A outer s H E},xh k qual st f aU A s->N.Nodup->jJ (xg P w K mg base cl N qual st f aU A outer s H E) cl (bF st) b)
    (hb:autoParam (G0 m qual st (N.take (n+1))) cJ._auto_1)
    (S:autoParam (si N (n+1) (aI st)) j_) (a:autoParam ((aI st).kind=.function) f_) (a2:autoParam ((aI st).isCoroutine=false) f_) (a3:autoParam ((aI st).isGenerator=false) f_):MG P w K mg base cl (k+1) c m n (aY N.length b):=by
  obtain⟨f,fd,D⟩:=E;exact D.Up hc (xc S a a2 a3) S.2.2.2 hb fun aU A outer s H E hr=>h hr S.1
theorem jD(E:∃ f fd,MethAt K cl c m qual st f fd)(hc:L2.iP K (cl c))(h:∀ {f aU A outer s H E},xh k qual st f aU A s->N.Nodup->jB (xg P w K mg base cl N qual st f aU A outer s H E) cl (bF st) b)
    (hb:autoParam (G0 m qual st (N.take (n+1))) cJ._auto_1)
    (S:autoParam (si N (n+1) (aI st)) j_) (a:autoParam ((aI st).kind=.function) f_) (a2:autoParam ((aI st).isCoroutine=false) f_) (a3:autoParam ((aI st).isGenerator=false) f_):jo P w K mg base cl (k+1) c m n (cO N.length b):=by
  obtain⟨f,fd,D⟩:=E;exact D.Vl hc (xc S a a2 a3) S.2.2.2 hb fun aU A outer s H E hr=>h hr S.1
theorem Sa (E:∃ f fd,MethAtD K cl c "__init__" qual st f fd y) (C:Bm K mg cl c x) (hb:G1 "__init__" qual st (N.take (n+2)) y 0 fun us _=>us) (qu:G1 "__init__" qual st (N.take (n+2)) y 1 fun us t=>us ++[.str y t]) (h:∀{f aU A outer s H E},xh k qual st f aU A s->N.Nodup->jB (xg P w K mg base cl N qual st f aU A outer s H E) cl (bF st) b)
    (S:autoParam (si N (n+2) (aI st)) j_) (a:autoParam ((aI st).kind=.function) f_) (a2:autoParam ((aI st).isCoroutine=false) f_) (a3:autoParam ((aI st).isGenerator=false) f_):u4 P w K mg base cl (k+1) c x (n+1) (cO N.length b) []/\u4 P w K mg base cl (k+1) c x n (cO N.length b) [.str y]:=by
  obtain⟨f,fd,D⟩:=E;exact D.Vm C (xc S a a2 a3) S.2.2.2 hb qu fun aU A outer s H E hr=>h hr S.1
theorem Sb(E:∃ f fd,bq K mg x st f fd){fa:Addr}(CY:mg x=some (.ref fa)){u:Str}(hN:N.take 1=[u])(gk:∀ (kV doc pm:Value) (an:Option Addr) (aU ct:Value) (s:Shared) (v:Value),BindsTo s (PySem.W.fnOf x x (cT st) (bF st) (aI st) .none kV doc pm an aU ct) ⟨[v],[]⟩ [(u,v)])
    (h:∀ base:Heap,K.In base->∀ f aU A outer s H E,xh k x st f aU A s->N.Nodup->jB (xg P w K mg base cl N x st f aU A outer s H E) cl (bF st) b)
    (S:autoParam (si N 1 (aI st)) j_) (a:autoParam ((aI st).kind=.function) f_) (a2:autoParam ((aI st).isCoroutine=false) f_) (a3:autoParam ((aI st).isGenerator=false) f_) :
    ∃ fd:FuncData,(∀(s:Shared)(v:Value),BindsTo s fd ⟨[v],[]⟩ [(u,v)])/\∀ base:Heap,K.In base->base.Ns mainGlobals mg->fO P w K mg base (jl cl P w) (k+1) fa fd [u] (spS K cl 1 (cO N.length b)):=by
  obtain⟨f,fd,D⟩:=E;have e:=CY.symm.trans D.mg
  cases e;refine⟨fd,?_,fun base KX _=>?_⟩
  . obtain⟨oc,od,kV,doc,pm,an,aU,ct,fM,rfl,lk,ey⟩:=D.fn.ex;exact gk kV doc pm an aU ct
  . have S':=xc S a a2 a3;rw[hN]at S';exact D.fns S' rfl fun aU A outer s H E hr=>h base KX _ aU A outer s H E hr S.1
end
section
variable {K:PySem.W.Frag}{mg:Str->Option Value}{h:Heap}{x:Str}
theorem int_of{i:Int}{t:Tok}(X:K.In h)(G:h.Ns mainGlobals mg)(a:PySem.W.nsIn K mainGlobals x=some (some (.int i t))):∃ t,mg x=some (.int i t):=⟨t,Z6 X G a⟩
theorem kc_of{u:Value}(X:K.In h)(G:h.Ns mainGlobals mg)(a:PySem.W.nsIn K mainGlobals x=some (some u))(k:rU K 4 u p=true):∃ u,mg x=some u/\iN K u p:=⟨u,Z6 X G a,II k⟩
end
end Mi
namespace Mi
open PySem
theorem fVar_e:ae i (x0::ρ0)=jr (x0::ρ0) i:=rfl
theorem getV_0:jr (o::r) 0=cI o:=rfl
theorem getV_s:jr (o::r) (n+1)=jr r n:=rfl
theorem asVal_int:cI (some (.int i))=.ok (.int i):=rfl
theorem asVal_bl:cI (some (.bl i))=.ok (.bl i):=rfl
theorem asVal_str:cI (some (.str i))=.ok (.str i):=rfl
theorem asVal_non:cI (some .bf)=.ok .bf:=rfl
theorem asVal_tup:cI (some (.tup l))=.ok (.tup l):=rfl
theorem asVal_lst:cI (some (.lst l))=.ok (.lst l):=rfl
theorem asVal_exc:cI (some (.exc c))=.ok (.exc c):=rfl
theorem asVal_dic0:cI (some .iI)=.ok .iI:=rfl
theorem fC_e:fC v (x0::ρ0)=.ok v:=rfl
theorem fBin_e:ah o a b (x0::ρ0)=(a (x0::ρ0)).bind fun x=>(b (x0::ρ0)).bind fun y=>o x y:=rfl
theorem fUn_e:eU o a (x0::ρ0)=(a (x0::ρ0)).bind o:=rfl
theorem oBool_e:iZ (.bl b)=.ok b:=rfl
theorem fAnd_e:je a b (x0::ρ0)=(a (x0::ρ0)).bind fun x=>(iZ x).bind fun c=>if c then b (x0::ρ0) else .ok (.bl false):=rfl
theorem fOr_e:Gw a b (x0::ρ0)=(a (x0::ρ0)).bind fun x=>(iZ x).bind fun c=>if c then .ok (.bl true) else b (x0::ρ0):=rfl
theorem fNot_e:oC a (x0::ρ0)=(a (x0::ρ0)).bind fun x=>(iZ x).bind fun c=>.ok (.bl (!c)):=rfl
theorem fChain_e(o o':PV->PV->R PV)(a b c:FE)(x0:Option PV)(ρ0:aJ):rG o o' a b c (x0::ρ0)=(a (x0::ρ0)).bind fun x=>(b (x0::ρ0)).bind fun y=>(o x y).bind fun r=>(iZ r).bind fun k =>
  if k then (c (x0::ρ0)).bind fun z=>o' y z else .ok (.bl false):=rfl
theorem fIf_e:f9 t a b (x0::ρ0)=(t (x0::ρ0)).bind fun c=>if c then a (x0::ρ0) else b (x0::ρ0):=rfl
theorem aNil_e:aq (x0::ρ0)=.ok []:=rfl
theorem aCons_e:af a r (x0::ρ0)=(a (x0::ρ0)).bind fun x=>(r (x0::ρ0)).bind fun xs=>.ok (x::xs):=rfl
noncomputable def pR(xs:List PV):R PV:=if xs.length<=sizeLine then .ok (.tup xs) else .stuck
noncomputable def jb(xs:List PV):R PV:=if xs.length<=sizeLine then .ok (.lst xs) else .stuck
theorem yB:1000<=sizeLine:=by decide
theorem fTup_e:ck a (x0::ρ0)=(a (x0::ρ0)).bind pR:=rfl
theorem fLst_e:gm a (x0::ρ0)=(a (x0::ρ0)).bind jb:=rfl
theorem qZ(n:Nat)(h:n<=1000):n<=sizeLine:=YU h yB
theorem fCall_e:au F a (x0::ρ0)=(a (x0::ρ0)).bind F:=rfl
theorem fIsinst_e:iA t a (x0::ρ0)=(a (x0::ρ0)).bind fun x=>match fj x t with | some b=>.ok (.bl b) | none=>.stuck:=rfl
theorem tVal_e:aH a (x0::ρ0)=(a (x0::ρ0)).bind iR:=rfl
theorem truth_bl:iR (.bl b)=.ok b:=rfl
theorem truth_int:iR (.int i)=.ok (i != 0):=rfl
theorem truth_non:iR .bf=.ok false:=rfl
theorem tAnd_e:oE a b (x0::ρ0)=(a (x0::ρ0)).bind fun c=>if c then b (x0::ρ0) else .ok false:=rfl
theorem tOr_e:k8 a b (x0::ρ0)=(a (x0::ρ0)).bind fun c=>if c then .ok true else b (x0::ρ0):=rfl
theorem tNot_e:ju a (x0::ρ0)=(a (x0::ρ0)).bind fun c=>.ok (!c):=rfl
theorem pS(xs:List PV)(h:xs.length<=1000):pR xs=.ok (.tup xs):=Yy (qZ _ h)
theorem gZ(xs:List PV)(h:xs.length<=1000):jb xs=.ok (.lst xs):=Yy (qZ _ h)
theorem mkTup_1(a:PV):pR [a]=.ok (.tup [a]):=pS _ (by simp)
theorem mkTup_2(a b:PV):pR [a,b]=.ok (.tup [a,b]):=pS _ (by simp)
theorem mkTup_3(a b c:PV):pR [a,b,c]=.ok (.tup [a,b,c]):=pS _ (by simp)
theorem mkTup_4(a b c d:PV):pR [a,b,c,d]=.ok (.tup [a,b,c,d]):=pS _ (by simp)
theorem mkLst_0:jb []=.ok (.lst []):=gZ _ (by simp)
theorem mkLst_1(a:PV):jb [a]=.ok (.lst [a]):=gZ _ (by simp)
theorem mkLst_2(a b:PV):jb [a,b]=.ok (.lst [a,b]):=gZ _ (by simp)
theorem mkLst_3(a b c:PV):jb [a,b,c]=.ok (.lst [a,b,c]):=gZ _ (by simp)
theorem mkLst_4(a b c d:PV):jb [a,b,c,d]=.ok (.lst [a,b,c,d]):=gZ _ (by simp)
theorem mkLst_5(a b c d e:PV):jb [a,b,c,d,e]=.ok (.lst [a,b,c,d,e]):=gZ _ (by simp)
theorem mkLst_6(a b c d e f:PV):jb [a,b,c,d,e,f]=.ok (.lst [a,b,c,d,e,f]):=gZ _ (by simp)
theorem mkLst_7(a b c d e f g:PV):jb [a,b,c,d,e,f,g]=.ok (.lst [a,b,c,d,e,f,g]):=gZ _ (by simp)
theorem mkLst_8(a b c d e f g h:PV):jb [a,b,c,d,e,f,g,h]=.ok (.lst [a,b,c,d,e,f,g,h]):=gZ _ (by simp)
theorem asVal_none:cI none=.stuck:=rfl
noncomputable def G2:List PV->R (List PV)
  | [.int hi]=>if df hi then .ok (fG 0 hi 1) else .stuck
  | [.int lo,.int hi]=>if df lo/\df hi then .ok (fG lo hi 1) else .stuck
  | [.int lo,.int hi,.int st]=>if df lo/\df hi/\df st/\st≠0 then .ok (fG lo hi st) else .stuck
  | _=>.stuck
def sj(i:Int):Prop:=df i
theorem iRange_e(a:FA)(x0:Option PV)(ρ0:aJ):rH a (x0::ρ0)=(a (x0::ρ0)).bind G2:=by
  show R.bind _ _=R.bind _ _;congr 1
theorem rg_1(hi:Int)(h:sj hi):G2 [.int hi]=.ok (fG 0 hi 1):=Yy h
theorem rg_2(lo hi:Int)(h:sj lo)(h2:sj hi):G2 [.int lo,.int hi]=.ok (fG lo hi 1):=Yy ⟨h,h2⟩
theorem rg_3(lo hi st:Int)(h:sj lo)(h2:sj hi)(h3:sj st)(h0:st≠0):G2 [.int lo,.int hi,.int st]=.ok (fG lo hi st):=Yy ⟨h,h2,h3,h0⟩
theorem bind_ok:(R.ok p).bind f=f p:=rfl
theorem bind_okl:(R.ok p).bind f=f p:=rfl
theorem bind_okb:(R.ok p).bind f=f p:=rfl
theorem bind_oko:(R.ok p).bind f=f p:=rfl
theorem bindl_ok:(R.ok p).bind f=f p:=rfl
theorem bindl_okl:(R.ok p).bind f=f p:=rfl
theorem bindb_ok:(R.ok p).bind f=f p:=rfl
theorem bindb_okb:(R.ok p).bind f=f p:=rfl
theorem bindo_ok:(R.ok p).bind f=f p:=rfl
theorem bind_exc:(R.exc c:R PV).bind f=.exc c:=rfl
theorem bind_excl:(R.exc c:R PV).bind f=.exc c:=rfl
theorem bind_excb:(R.exc c:R PV).bind f=.exc c:=rfl
theorem bindl_exc:(R.exc c:R (List PV)).bind f=.exc c:=rfl
theorem bindl_excl:(R.exc c:R (List PV)).bind f=.exc c:=rfl
theorem bindb_exc:(R.exc c:R Bool).bind f=.exc c:=rfl
theorem bindb_excb:(R.exc c:R Bool).bind f=.exc c:=rfl
noncomputable def fin:SR->R PV
  | .next _=>.ok .bf
  | .ret v=>.ok v
  | .exc c _=>.exc c
  | _=>.stuck
theorem fin_next:fin (.next ρ)=.ok .bf:=rfl
theorem fin_ret:fin (.ret v)=.ok v:=rfl
theorem fin_exc:fin (.exc c ρ)=.exc c:=rfl
theorem jR(n:Nat)(b:FS)(vs:List PV):aY n b vs=fin (b (vs.map some++List.replicate (n - vs.length) none)):=by
  show(match b _ with | .next _=>_ | .ret v=>_ | .exc c _=>_ | _=>_)=fin (b _);rfl
theorem run_1(n:Nat)(b:FS)(a1:PV):aY (n+1) b [a1]=fin (b (some a1::List.replicate n none)):=by
  rw[jR,YS];simp
theorem run_2(n:Nat)(b:FS)(a1 a2:PV):aY (n+2) b [a1,a2]=fin (b (some a1::some a2::List.replicate n none)):=by
  rw[jR,YS];simp
theorem run_3(n:Nat)(b:FS)(a1 a2 a3:PV):aY (n+3) b [a1,a2,a3]=fin (b (some a1::some a2::some a3::List.replicate n none)):=by
  rw[jR,YS];simp
theorem run_4(n:Nat)(b:FS)(a1 a2 a3 a4:PV):aY (n+4) b [a1,a2,a3,a4]=fin (b (some a1::some a2::some a3::some a4::List.replicate n none)):=by
  rw[jR,YS];simp
theorem run_5(n:Nat)(b:FS)(a1 a2 a3 a4 a5:PV):aY (n+5) b [a1,a2,a3,a4,a5]=fin (b (some a1::some a2::some a3::some a4::some a5::List.replicate n none)):=by
  rw[jR,YS];simp
theorem run_6(n:Nat)(b:FS)(a1 a2 a3 a4 a5 a6:PV):aY (n+6) b [a1,a2,a3,a4,a5,a6]=fin (b (some a1::some a2::some a3::some a4::some a5::some a6::List.replicate n none)):=by
  rw[jR,YS];simp
noncomputable def p2(b:Int):Int:=2 ^ b.toNat
def fL(a b:Int):Prop:=nb a<=64\/nb b<=64\/nb a+nb b<=tQ
def j8(b:Int):Prop:=0<b/\nb b<=9000
def jc(b:Int):Prop:=0<b
def vO(a b:Int):Prop:=0<=b/\b<=1000000/\nb a<=64
def gM(a b:Int):Prop:=0<=b/\nb a+b<=134217728
def pT(b:Int):Prop:=0<=b
noncomputable def powI(a b:Int):Int:=a ^ b.toNat
theorem oMul_i(a b:Int)(h:fL a b):js (.int a) (.int b)=.ok (.int (a*b)):=Yy h
theorem oDiv_i(a b:Int)(h:j8 b):oDiv (.int a) (.int b)=.ok (.int (a/b)):=Yy h
theorem oMod_i(a b:Int)(h:jc b):oMod (.int a) (.int b)=.ok (.int (a%b)):=Yy h
theorem oPow_i(a b:Int)(h:vO a b):AU (.int a) (.int b)=.ok (.int (powI a b)):=Yy h
theorem oShl_i(a b:Int)(h:gM a b):fA (.int a) (.int b)=.ok (.int (a*p2 b)):=Yy h
theorem oShr_i(a b:Int)(h:pT b):wa (.int a) (.int b)=.ok (.int (a/p2 b)):=Yy h
theorem oAdd_i:cV (.int a) (.int b)=.ok (.int (a+b)):=rfl
theorem oSub_i:dB (.int a) (.int b)=.ok (.int (a - b)):=rfl
theorem oNeg_i:iJ (.int a)=.ok (.int (-a)):=rfl
theorem oAnd_i:qP (.int a) (.int b)=.ok (.int (Builtin.bitAnd a b)):=rfl
theorem oOr_i:Ci (.int a) (.int b)=.ok (.int (Builtin.bitOr a b)):=rfl
theorem oXor_i:EF (.int a) (.int b)=.ok (.int (Builtin.bitXor a b)):=rfl
theorem cLt_i:jt (.int a) (.int b)=.ok (.bl (decide (a<b))):=rfl
theorem cLe_i:Cj (.int a) (.int b)=.ok (.bl (decide (a<=b))):=rfl
theorem cGt_i:qi (.int a) (.int b)=.ok (.bl (decide (b<a))):=rfl
theorem cGe_i:Ck (.int a) (.int b)=.ok (.bl (decide (b<=a))):=rfl
theorem cEq_i:bD (.int a) (.int b)=.ok (.bl (decide (a=b))):=rfl
theorem cNe_i:mC (.int a) (.int b)=.ok (.bl (!decide (a=b))):=rfl
theorem cEq_b:bD (.bl a) (.bl b)=.ok (.bl (a == b)):=rfl
theorem cNe_b:mC (.bl a) (.bl b)=.ok (.bl (!(a == b))):=rfl
theorem cEq_s:bD (.str a) (.str b)=.ok (.bl (a == b)):=rfl
theorem cNe_s:mC (.str a) (.str b)=.ok (.bl (!(a == b))):=rfl
theorem cEq_tup:bD (.tup a) (.tup b)=if (a.all (bW 5)&&b.all (bW 5)) then .ok (.bl (dJ a b)) else .stuck:=rfl
theorem cNe_tup:mC (.tup a) (.tup b)=if (a.all (bW 5)&&b.all (bW 5)) then .ok (.bl (!dJ a b)) else .stuck:=rfl
theorem cEq_lst:bD (.lst a) (.lst b)=if (a.all (bW 5)&&b.all (bW 5)) then .ok (.bl (dJ a b)) else .stuck:=rfl
theorem cNe_lst:mC (.lst a) (.lst b)=if (a.all (bW 5)&&b.all (bW 5)) then .ok (.bl (!dJ a b)) else .stuck:=rfl
theorem cmpOkN_int(n:Nat)(i:Int):bW n (.int i)=true:=by cases n<;>rfl
theorem cmpOkN_bl(n:Nat)(i:Bool):bW n (.bl i)=true:=by cases n<;>rfl
theorem cmpOkN_str(n:Nat)(i:Str):bW n (.str i)=true:=by cases n<;>rfl
theorem cmpOkN_non(n:Nat):bW n .bf=true:=by cases n<;>rfl
theorem cmpOkN_tup:bW (n+1) (.tup l)=l.all (bW n):=rfl
theorem cmpOkN_lst:bW (n+1) (.lst l)=l.all (bW n):=rfl
theorem eqPVs_nil:dJ [] []=true:=rfl
theorem eqPVs_cons:dJ (x::xs) (y::ys)=(dj x y&&dJ xs ys):=rfl
theorem eqPVs_cn:dJ (x::xs) []=false:=rfl
theorem eqPVs_nc:dJ [] (x::xs)=false:=rfl
theorem eqPV_i:dj (.int a) (.int b)=decide (a=b):=rfl
theorem eqPV_b:dj (.bl a) (.bl b)=(a == b):=rfl
theorem eqPV_s:dj (.str a) (.str b)=(a == b):=rfl
theorem eqPV_t:dj (.tup a) (.tup b)=dJ a b:=rfl
theorem eqPV_l:dj (.lst a) (.lst b)=dJ a b:=rfl
theorem eqPV_n:dj .bf .bf=true:=rfl
theorem bLen_tup:mj [.tup l]=.ok (.int l.length):=rfl
theorem bLen_lst:mj [.lst l]=.ok (.int l.length):=rfl
theorem bAbs_i:tS [.int i]=.ok (.int (if i<0 then -i else i)):=rfl
theorem bMin_i:AV [.int i,.int j]=.ok (.int (if j<i then j else i)):=rfl
theorem bMax_i:wg [.int i,.int j]=.ok (.int (if j>i then j else i)):=rfl
theorem bInt_i:wj [.int i]=.ok (.int i):=rfl
theorem bInt_b:wj [.bl b]=.ok (.int (if b then 1 else 0)):=rfl
theorem bBitLength_i:gJ (.int i)=.ok (.int (nb i)):=rfl
theorem bList_l:lU [.lst l]=.ok (.lst l):=rfl
theorem bList_t:lU [.tup l]=.ok (.lst l):=rfl
theorem bTuple_l:Co [.lst l]=.ok (.tup l):=rfl
theorem bTuple_t:Co [.tup l]=.ok (.tup l):=rfl
theorem isTy_int_i:fj (.int i) .int=some true:=rfl
theorem isTy_int_b:fj (.int i) .bool=some false:=rfl
theorem isTy_int_s:fj (.int i) .str=some false:=rfl
theorem isTy_int_t:fj (.int i) .tuple=some false:=rfl
theorem isTy_bl_i:fj (.bl i) .int=some true:=rfl
theorem isTy_bl_b:fj (.bl i) .bool=some true:=rfl
theorem isTy_bl_t:fj (.bl i) .tuple=some false:=rfl
theorem isTy_bl_s:fj (.bl i) .str=some false:=rfl
theorem isTy_tup_t:fj (.tup l) .tuple=some true:=rfl
theorem isTy_tup_i:fj (.tup l) .int=some false:=rfl
theorem isTy_tup_s:fj (.tup l) .str=some false:=rfl
theorem isTy_lst_i:fj (.lst l) .int=some false:=rfl
theorem isTy_lst_l:fj (.lst l) .list=some true:=rfl
theorem isTy_lst_t:fj (.lst l) .tuple=some false:=rfl
theorem isTy_lst_s:fj (.lst l) .str=some false:=rfl
theorem isTy_str_i:fj (.str x) .int=some false:=rfl
theorem isTy_str_s:fj (.str x) .str=some true:=rfl
theorem isTy_str_t:fj (.str x) .tuple=some false:=rfl
theorem isTy_non(t:Ty):fj .bf t=some false:=by cases t<;>rfl
theorem isTy_dic_i:fj .iI .int=some false:=rfl
theorem isTy_dic_s:fj .iI .str=some false:=rfl
theorem lH{l:List PV}{i:Int}{v:PV}(h0:0<=i)(h:l[i.toNat]?=some v):ar (.lst l) (.int i)=.ok v:=by
  have hl:i.toNat<l.length:=(YC.mp h).1;show fK l i=_
  unfold fK oB;rw[Yy h0,Yy (by omega)];simp[h]
theorem pb{l:List PV}{i:Int}{v:PV}(h0:0<=i)(h:l[i.toNat]?=some v):ar (.tup l) (.int i)=.ok v:=lH h0 h
theorem oItem_t0(x:PV)(l:List PV):ar (.tup (x::l)) (.int 0)=.ok x:=pb (by decide) rfl
theorem oItem_t1(x y:PV)(l:List PV):ar (.tup (x::y::l)) (.int 1)=.ok y:=pb (by decide) rfl
theorem oItem_t2(x y z:PV)(l:List PV):ar (.tup (x::y::z::l)) (.int 2)=.ok z:=pb (by decide) rfl
theorem oItem_l0(x:PV)(l:List PV):ar (.lst (x::l)) (.int 0)=.ok x:=lH (by decide) rfl
theorem oItem_l1(x y:PV)(l:List PV):ar (.lst (x::y::l)) (.int 1)=.ok y:=lH (by decide) rfl
theorem oItem_l2(x y z:PV)(l:List PV):ar (.lst (x::y::z::l)) (.int 2)=.ok z:=lH (by decide) rfl
theorem sNext_e:aV (x0::ρ0)=.next (x0::ρ0):=rfl
theorem sSeq_e:aD f g (x0::ρ0)=match f (x0::ρ0)with | .next ρ'=>g ρ' | o=>o:=rfl
theorem ofR_ok:mD (.ok v) ρ k=k v:=rfl
theorem ofR_exc:mD (.exc c) ρ k=.exc c ρ:=rfl
theorem sRet_e:aP a (x0::ρ0)=mD (a (x0::ρ0)) (x0::ρ0) fun v=>.ret v:=rfl
theorem sExpr_e:dR a (x0::ρ0)=mD (a (x0::ρ0)) (x0::ρ0) fun _=>.next (x0::ρ0):=rfl
theorem sSet_e:aX i a (x0::ρ0)=mD (a (x0::ρ0)) (x0::ρ0) fun v=>.next ((x0::ρ0).set i (some v)):=rfl
theorem sIf_e:bO t f g (x0::ρ0)=match t (x0::ρ0)with | .ok c=>if c then f (x0::ρ0) else g (x0::ρ0) | .exc c=>.exc c (x0::ρ0) | .stuck=>.stuck:=rfl
theorem sFor_e:nk i it body (x0::ρ0)=match it (x0::ρ0)with | .ok l=>forL i body l (x0::ρ0) | .exc c=>.exc c (x0::ρ0) | .stuck=>.stuck:=rfl
theorem sBreak_e:J7 (x0::ρ0)=.brk (x0::ρ0):=rfl
theorem sCont_e:N3 (x0::ρ0)=.cont (x0::ρ0):=rfl
theorem sRetN_e:N4 (x0::ρ0)=.ret .bf:=rfl
theorem sRaise_e:J8 c (x0::ρ0)=.exc c (x0::ρ0):=rfl
theorem iSeq_e:k9 a (x0::ρ0)=(a (x0::ρ0)).bind fun x=>match x with | .lst l=>.ok l | .tup l=>.ok l | _=>.stuck:=rfl
theorem forL_nil:forL i body [] ρ=.next ρ:=rfl
theorem forL_cons(i:Nat)(body:FS)(x:PV)(l:List PV)(ρ:aJ):forL i body (x::l) ρ=match body (ρ.set i (some x))with
    | .next ρ'=>forL i body l ρ'
    | .cont ρ'=>forL i body l ρ'
    | .brk ρ'=>.next ρ'
    | o=>o:=rfl
theorem oNone_e:nc (x0::ρ0)=.ok none:=rfl
theorem oSome_e:j3 a (x0::ρ0)=(a (x0::ρ0)).bind fun x=>match x with | .int i=>.ok (some i) | _=>.stuck:=rfl
theorem fCut_e:nh a l h (x0::ρ0)=(a (x0::ρ0)).bind fun x=>(l (x0::ρ0)).bind fun lo=>(h (x0::ρ0)).bind fun hi=>ng x lo hi:=rfl
theorem oCut_lst:ng (.lst l) lo hi=.ok (.lst (jv l lo hi)):=rfl
theorem isSmallI_i:fY (.ok (.int i))=decide (i.natAbs<18446744073709551616):=rfl
theorem sRaiseT_e:d6 k c (x0::ρ0)=if k (x0::ρ0) then .exc c (x0::ρ0) else .stuck:=rfl
theorem sTryAs_e(f:FS)(ks:List Nat)(d n x:Nat)(x0:Option PV)(ρ0:aJ):J9 f ks d n x (x0::ρ0)=match f (x0::ρ0)with
  | .exc c ρ'=>if ks.contains c&&under c d then .next (((ρ'.set n (some (.exc c))).set x (some (.exc c))).set n none) else .stuck
  | o=>o:=rfl
theorem fIsExc_e(ks:List Nat)(d:Nat)(a:FE)(x0:Option PV)(ρ0:aJ):ij ks d a (x0::ρ0)=(a (x0::ρ0)).bind fun x=>match x with
  | .exc c=>if ks.contains c then .ok (.bl (under c d)) else .stuck
  | .bf=>.ok (.bl false)
  | _=>.stuck:=rfl
theorem fIsVal_e(ks:List Nat)(a:FE)(x0:Option PV)(ρ0:aJ):J6 ks a (x0::ρ0)=(a (x0::ρ0)).bind fun x=>match x with
  | .exc c=>if ks.contains c then .ok (.bl true) else .stuck
  | .bf=>.ok (.bl false)
  | _=>.stuck:=rfl
theorem el_1(α:Type)(a b:α):(if (true:Bool)=true then a else b)=a:=rfl
theorem el_2(α:Type)(a b:α):(if (false:Bool)=true then a else b)=b:=rfl
theorem el_3:∀(α:Type)(a b:α),(if True then a else b)=a:=fun _ _ _=>Yy trivial
theorem el_4:∀(α:Type)(a b:α),(if False then a else b)=b:=fun _ _ _=>Yx id
theorem el_5:decide True=true:=by decide
theorem el_6:decide False=false:=by decide
theorem el_7:(!true)=false:=rfl
theorem el_8:(!false)=true:=rfl
theorem el_9:∀ b,(true&&b)=b:=fun b=>by cases b<;>rfl
theorem el_10:∀ b,(false&&b)=false:=fun b=>by cases b<;>rfl
theorem el_11:∀ b,(b&&true)=b:=fun b=>by cases b<;>rfl
theorem el_12:∀ b,(b&&false)=false:=fun b=>by cases b<;>rfl
theorem el_13:∀ b,(true||b)=true:=fun b=>by cases b<;>rfl
theorem el_14:∀ b,(false||b)=b:=fun b=>by cases b<;>rfl
theorem el_15:∀ b:Bool,(b == b)=true:=fun b=>by cases b<;>rfl
theorem el_16(x y:Option PV)(l:aJ):(x::l).set 0 y=y::l:=rfl
theorem el_17(x y:Option PV)(l:aJ)(n:Nat):(x::l).set (n+1) y=x::l.set n y:=rfl
theorem el_18:(List.replicate 0 (none:Option PV))=[]:=rfl
theorem el_19(n:Nat):(List.replicate (n+1) (none:Option PV))=none::List.replicate n none:=rfl
theorem el_20(x:PV)(l:List PV):(x::l).map some=some x::l.map some:=rfl
theorem el_21:([]:List PV).map some=[]:=rfl
theorem el_22(x:Option PV)(l m:aJ):(x::l)++m=x::(l++m):=rfl
theorem el_23(l:aJ):[]++l=l:=rfl
theorem el_24(x:PV)(l:List PV):(x::l).length=l.length+1:=rfl
theorem el_25:([]:List PV).length=0:=rfl
theorem el_26(p:PV->Bool)(x:PV)(l:List PV):(x::l).all p=(p x&&l.all p):=rfl
theorem el_27(p:PV->Bool):([]:List PV).all p=true:=rfl
theorem el_28(p:PV->Bool)(x:PV)(l:List PV):(x::l).any p=(p x||l.any p):=rfl
theorem el_29(p:PV->Bool):([]:List PV).any p=false:=rfl
theorem u9{a:Int}{k:Nat}:nb a<=k↔a.natAbs<2 ^ k:=by
  show(if a == 0 then 0 else a.natAbs.log2+1)<=k↔_;by_cases h:a=0
  . subst h;simp;exact aag k
  . have h0:a.natAbs≠0:=by omega
    rw[Yx (by simpa using h)];rw[<- acp h0];omega
theorem eR{a:Int}{k:Nat}(h:a.natAbs<2 ^ k):nb a<=k:=u9.mpr h
theorem nM{a:Int}{k:Nat}(h:nb a<=k):a.natAbs<2 ^ k:=u9.mp h
theorem I0{a b:Int}(h1 : -18446744073709551616<b)(h2:b<18446744073709551616):fL a b:=.inr (.inl (eR (k:=64) (by omega)))
theorem mR{a b:Int}(h1 : -18446744073709551616<a)(h2:a<18446744073709551616):fL a b:=.inl (eR (k:=64) (by omega))
theorem ir{m n:Nat} (ha:nb a<=m) (hb:nb b<=n) (h:m+n<=134217728):fL a b:=.inr (.inr (by show _<=134217728;omega))
theorem Ja{b:Int}(h0:0<b)(h:b<18446744073709551616):j8 b:=⟨h0,YU (eR (k:=64) (by omega)) (by decide)⟩
theorem jS{b:Int}{n:Nat}(h0:0<b)(h:nb b<=n)(hn:n<=9000):j8 b:=⟨h0,YU h hn⟩
theorem eO{a b:Int}{n:Nat}(h0:0<=b)(ha:nb a<=n)(h:n+b<=134217728):gM a b:=⟨h0,by omega⟩
theorem Jb{a b:Int}(h0:0<=b)(h1:b<=1000000)(h : -18446744073709551616<a)(h2:a<18446744073709551616):vO a b:=⟨h0,h1,eR (k:=64) (by omega)⟩
theorem Jc{b:Int}(h:0<b):jc b:=h
theorem Jd{b:Int}(h:0<=b):pT b:=h
theorem Du{b:Int}(h0 : -1152921504606846976<=b)(h:b<1152921504606846976):sj b:=by
  have e:(2:Int) ^ 60=1152921504606846976:=by decide
  show -(2 ^ 60)<=b/\b<2 ^ 60;rw[e];exact⟨h0,h⟩
theorem ow_1:∀(a b:Int)(h1 : -18446744073709551616<b)(h2:b<18446744073709551616),fL a b:=fun _ _=>I0
theorem ow_2:∀(a b:Int)(h1 : -18446744073709551616<a)(h2:a<18446744073709551616),fL a b:=fun _ _=>mR
theorem ow_3:∀(b:Int)(h0:0<b)(h:b<18446744073709551616),j8 b:=fun _=>Ja
theorem ow_4:∀(a b:Int)(h0:0<=b)(h1:b<=1000000)(h : -18446744073709551616<a)(h2:a<18446744073709551616),vO a b:=fun _ _=>Jb
theorem ow_5:∀(b:Int)(h:0<b),jc b:=fun _=>Jc
theorem ow_6:∀(b:Int)(h:0<=b),pT b:=fun _=>Jd
theorem ow_7:∀(b:Int)(h0 : -1152921504606846976<=b)(h:b<1152921504606846976),sj b:=fun _=>Du
theorem pd(n:Nat):p2 (n:Int)=2 ^ n:=rfl
theorem aQ(b:Int):0<p2 b:=ach (by decide)
theorem xj:p2 0=1:=rfl
theorem Bn:p2 1=2:=rfl
theorem cF{a b:Int}(ha:0<=a)(hb:0<=b):p2 (a+b)=p2 a*p2 b:=by
  obtain⟨m,rfl⟩:=aaq ha;obtain⟨n,rfl⟩:=aaq hb;have e:((m:Int)+(n:Int))=((m+n:Nat):Int):=by omega
  rw[e,pd,pd,pd,Int.pow_add]
theorem dD{a:Int}(ha:0<=a):p2 (a+1)=2*p2 a:=by rw[cF ha (by decide),Bn,YI]
theorem fh{a b:Int}(ha:0<=a)(h:a<=b):p2 a<=p2 b:=by
  have e:b=a+(b - a):=by omega
  rw[e,cF ha (by omega)];have h1:=aQ a
  have h2:=aQ (b - a);have:p2 a*1<=p2 a*p2 (b - a):=Zh (by omega) (by omega)
  omega
theorem ph{b:Int}(hb:0<=b):(p2 b).natAbs=2 ^ b.toNat:=by
  show((2:Int) ^ b.toNat).natAbs=_;rw[Int.natAbs_pow];rfl
theorem lZ{b:Int}(hb:0<=b):nb (p2 b)=b.toNat+1:=by
  have h0:p2 b≠0:=by have:=aQ b;omega
  show(if p2 b == 0 then 0 else (p2 b).natAbs.log2+1)=_;rw[Yx (by simpa using h0),ph hb,Nat.log2_two_pow]
theorem gD(a b:Int):nb (a*b)<=nb a+nb b:=by
  refine eR ?_;have h1:=nM (YD (nb a))
  have h2:=nM (YD (nb b));rw[Int.natAbs_mul,abB];exact Nat.mul_lt_mul'' h1 h2
theorem gX(a:Int):nb (-a)=nb a:=by
  show(if -a == 0 then 0 else (-a).natAbs.log2+1)=(if a == 0 then 0 else a.natAbs.log2+1);rw[Int.natAbs_neg];by_cases h:a=0
  . subst h;rfl
  . have h2 : -a≠0:=by omega
    rw[Yx (by simpa using h2),Yx (by simpa using h)]
theorem Sd:nb 0=0:=rfl
theorem xk{a:Int}(h:a≠0):1<=nb a:=by
  show 1<=(if a == 0 then 0 else a.natAbs.log2+1);rw[Yx (by simpa using h)];omega
theorem sk{a b:Int}(h:a≠0)(hb:0<=b):nb (a*p2 b)=nb a+b.toNat:=by
  have h1:a*p2 b≠0:=acd h (by have:=aQ b;omega);show(if a*p2 b == 0 then 0 else (a*p2 b).natAbs.log2+1)=(if a == 0 then 0 else a.natAbs.log2+1)+_
  rw[Yx (by simpa using h1),Yx (by simpa using h),Int.natAbs_mul,ph hb];have h2:a.natAbs≠0:=by omega
  have:(a.natAbs*2 ^ b.toNat).log2=a.natAbs.log2+b.toNat:=by
    refine Nat.le_antisymm ?_ ?_
    . have h3:a.natAbs<2 ^ (a.natAbs.log2+1):=Nat.lt_log2_self;have h4:a.natAbs*2 ^ b.toNat<2 ^ (a.natAbs.log2+b.toNat+1):=by
        have e:2 ^ (a.natAbs.log2+b.toNat+1)=2 ^ (a.natAbs.log2+1)*2 ^ b.toNat:=by rw[<- abB];congr 1;omega
        rw[e];exact Nat.mul_lt_mul_of_pos_right h3 (aag _)
      have:=(acp (by exact Nat.mul_ne_zero h2 (aba (aag _)))).mpr h4;omega
    . have h3:2 ^ a.natAbs.log2<=a.natAbs:=Nat.log2_self_le h2;refine(Nat.le_log2 (Nat.mul_ne_zero h2 (aba (aag _)))).mpr ?_;rw[abB];exact Nat.mul_le_mul_right _ h3
  omega
theorem Fo(a b:Nat):(2*a) &&& (2*b+1)=2*(a &&& b):=by
  apply aak;intro i;cases i with
  | zero=>simp
  | succ i =>
    rw[aaN,aaH,aaH,aaH];have h1:2*a/2=a:=by omega
    have h2:(2*b+1)/2=b:=by omega
    have h3:2*(a &&& b)/2=a &&& b:=by omega
    rw[h1,h2,h3,aaN]
theorem Je(j:Nat):(2*j+1) &&& (2*j)=2*j:=by
  apply aak;intro i;cases i with
  | zero=>simp
  | succ i =>
    rw[aaN,aaH,aaH];have h1:2*j/2=j:=by omega
    have h2:(2*j+1)/2=j:=by omega
    rw[h1,h2,ZW]
theorem zH(j:Nat):∀ t:Nat,((2*j+1)*2 ^ t) &&& ((2*j+1)*2 ^ t - 1)=2*j*2 ^ t
  | 0=>by simpa using Je j
  | t+1=>by
    have ih:=zH j t;have hp:0<(2*j+1)*2 ^ t:=Nat.mul_pos (by omega) (aag t)
    have e1:(2*j+1)*2 ^ (t+1)=2*((2*j+1)*2 ^ t):=by rw[ab3];rw[ab4 (2 ^ t) 2,<- ac0,<- ac0,ab4 (2*j+1) 2]
    have e2:2*((2*j+1)*2 ^ t) - 1=2*((2*j+1)*2 ^ t - 1)+1:=by omega
    rw[e1,e2,Fo,ih,ab3,ab4 (2 ^ t) 2];exact Nat.mul_left_comm 2 (2*j) (2 ^ t)
noncomputable def tz(n:Int):Int:=(nb (Builtin.bitAnd n (-n)):Int) - 1
theorem Jf{a:Int}{t:Nat}(h:a%2=1):Builtin.bitAnd (a*2 ^ t) (-(a*2 ^ t))=2 ^ t:=by
  have hp:(0:Int)<2 ^ t:=ach (by decide);have key:∀ j:Nat,((2*(j:Int)+1)*2 ^ t) - ((((2*(j:Int)+1)*2 ^ t).toNat &&& (((2*(j:Int)+1)*2 ^ t) - 1).toNat:Nat):Int)=2 ^ t:=by
    intro j;have e1:((2*(j:Int)+1)*2 ^ t)=(((2*j+1)*2 ^ t:Nat):Int):=by push_cast;rfl
    have hq:0<(2*j+1)*2 ^ t:=Nat.mul_pos (by omega) (aag t);have e2:((2*(j:Int)+1)*2 ^ t) - 1=(((2*j+1)*2 ^ t - 1:Nat):Int):=by rw[e1];omega
    rw[e2,e1,Z5,Z5,zH]
    push_cast
    rw[ZK];omega
  by_cases hs:0<=a
  . obtain⟨j,hj⟩:∃ j:Nat,a=2*(j:Int)+1:=⟨((a - 1)/2).toNat,by omega⟩;subst hj;have h1:0<=(2*(j:Int)+1)*2 ^ t:=Zg (by omega) (by omega)
    have wG:0<(2*(j:Int)+1)*2 ^ t:=ZU (by omega) hp;have h2:¬ 0<=-((2*(j:Int)+1)*2 ^ t):=by omega
    unfold Builtin.bitAnd;rw[YL h1,YG h2];show _ - (((_:Nat) &&& (Builtin.bitNot _).toNat:Nat):Int)=_
    have e3:Builtin.bitNot (-((2*(j:Int)+1)*2 ^ t))=((2*(j:Int)+1)*2 ^ t) - 1:=by unfold Builtin.bitNot;omega
    rw[e3];exact key j
  . obtain⟨j,hj⟩:∃ j:Nat,a = -(2*(j:Int)+1):=⟨((-a - 1)/2).toNat,by omega⟩;subst hj;have e0 : -(2*(j:Int)+1)*2 ^ t = -((2*(j:Int)+1)*2 ^ t):=by rw[aal]
    rw[e0,Int.neg_neg];have h1:0<=(2*(j:Int)+1)*2 ^ t:=Zg (by omega) (by omega)
    have wG:0<(2*(j:Int)+1)*2 ^ t:=ZU (by omega) hp;have h2:¬ 0<=-((2*(j:Int)+1)*2 ^ t):=by omega
    unfold Builtin.bitAnd;rw[YL h1,YG h2];show _ - (((_:Nat) &&& (Builtin.bitNot _).toNat:Nat):Int)=_
    have e3:Builtin.bitNot (-((2*(j:Int)+1)*2 ^ t))=((2*(j:Int)+1)*2 ^ t) - 1:=by unfold Builtin.bitNot;omega
    rw[e3];exact key j
theorem vP{a t:Int}(h:a%2=1)(ht:0<=t):tz (a*p2 t)=t:=by
  unfold tz;have e:Builtin.bitAnd (a*p2 t) (-(a*p2 t))=p2 t:=Jf (t:=t.toNat) h
  rw[e,lZ ht];omega
theorem xm:∀(m:Nat)(n:Int),n.natAbs<=m->n≠0->∃ a t,0<=t/\a%2=1/\n=a*p2 t
  | 0,n,h,h0=>by omega
  | m+1,n,h,h0=>by
    by_cases hp:n%2=1
    . exact⟨n,0,by decide,hp,by rw[xj];omega⟩
    . obtain⟨a,t,ht,ha,e⟩:=xm m (n/2) (by omega) (by omega);refine⟨a,t+1,by omega,ha,?_⟩;rw[dD ht,YI 2,<- YB,<- e];omega
theorem iC{n:Int}(h:n≠0):0<=tz n/\(n/p2 (tz n))%2=1/\n/p2 (tz n)*p2 (tz n)=n:=by
  obtain⟨a,t,ht,ha,e⟩:=xm _ n (YD _) h;have e1:tz n=t:=by rw[e];exact vP ha ht
  have e2:n/p2 t=a:=by rw[e];exact adn _ (by have:=aQ t;omega)
  rw[e1,e2];exact⟨ht,ha,e.symm⟩
theorem Bo{a b s t:Int}(ha:a%2=1)(hb:b%2=1)(hs:0<=s)(ht:0<=t)(e:a*p2 s=b*p2 t):a=b/\s=t:=by
  have e1:s=t:=by
    have h1:=vP ha hs;rw[e,vP hb ht]at h1;exact h1.symm
  subst e1;exact⟨aaJ (by have:=aQ s;omega) e,rfl⟩
noncomputable def mr:ZR->RS PV
  | .next _ S'=>.ok .bf S'
  | .ret v S'=>.ok v S'
  | .exc c _ S'=>.exc c S'
  | _=>.stuck
theorem lI(n:Nat)(b:GS)(vs:List PV)(S:aW):cO n b vs S=mr (b (vs.map some++List.replicate (n - vs.length) none) S):=by
  show(match b _ S with | .next _ S'=>_ | .ret v S'=>_ | .exc c _ S'=>_ | _=>_)=mr (b _ S);rfl
theorem runZ_1(n:Nat)(b:GS)(S:aW)(a1:PV):cO (n+1) b [a1] S=mr (b (some a1::List.replicate n none) S):=by
  rw[lI,YS];simp
theorem runZ_2(n:Nat)(b:GS)(S:aW)(a1 a2:PV):cO (n+2) b [a1,a2] S=mr (b (some a1::some a2::List.replicate n none) S):=by
  rw[lI,YS];simp
theorem runZ_3(n:Nat)(b:GS)(S:aW)(a1 a2 a3:PV):cO (n+3) b [a1,a2,a3] S=mr (b (some a1::some a2::some a3::List.replicate n none) S):=by
  rw[lI,YS];simp
theorem runZ_4(n:Nat)(b:GS)(S:aW)(a1 a2 a3 a4:PV):cO (n+4) b [a1,a2,a3,a4] S=mr (b (some a1::some a2::some a3::some a4::List.replicate n none) S):=by
  rw[lI,YS];simp
theorem runZ_5(n:Nat)(b:GS)(S:aW)(a1 a2 a3 a4 a5:PV):cO (n+5) b [a1,a2,a3,a4,a5] S=mr (b (some a1::some a2::some a3::some a4::some a5::List.replicate n none) S):=by
  rw[lI,YS];simp
noncomputable def Po:RS PV->GE->aJ->RS PV
  | .ok p S1,b,ρ=>(b ρ S1).bind (kB p)
  | .exc c S,_,_=>.exc c S
  | .stuck,_,_=>.stuck
noncomputable def Pp(o:PV->PV->R PV):RS PV->GE->aJ->RS PV
  | .ok p S1,b,ρ=>(b ρ S1).bind (zA o p)
  | .exc c S,_,_=>.exc c S
  | .stuck,_,_=>.stuck
noncomputable def Pq:RS PV->RS PV
  | .ok p S=>.ok (.bl (isNone p)) S
  | .exc c S=>.exc c S
  | .stuck=>.stuck
noncomputable def Pr:RS Bool->RS Bool
  | .ok b S=>.ok (!b) S
  | .exc c S=>.exc c S
  | .stuck=>.stuck
noncomputable def Dv(x:PV):RS (List PV)->RS (List PV)
  | .ok xs S=>.ok (x::xs) S
  | .exc c S=>.exc c S
  | .stuck=>.stuck
noncomputable def Lk:RS PV->GA->aJ->RS (List PV)
  | .ok x S1,r,ρ=>Dv x (r ρ S1)
  | .exc c S,_,_=>.exc c S
  | .stuck,_,_=>.stuck
noncomputable def Ll(G:List PV->aW->RS PV)(p:PV):RS (List PV)->RS PV
  | .ok ps S=>G (p::ps) S
  | .exc c S=>.exc c S
  | .stuck=>.stuck
noncomputable def Lm(ρ:aJ):RS PV->ZR
  | .ok v S=>.ret v S
  | .exc c S=>.exc c ρ S
  | .stuck=>.stuck
noncomputable def Ln(ρ:aJ):RS PV->ZR
  | .ok _ S=>.next ρ S
  | .exc c S=>.exc c ρ S
  | .stuck=>.stuck
noncomputable def Lo(i:Nat)(ρ:aJ):RS PV->ZR
  | .ok v S=>.next (ρ.set i (some v)) S
  | .exc c S=>.exc c ρ S
  | .stuck=>.stuck
noncomputable def G3:RS Bool->GS->GS->aJ->ZR
  | .ok true S,f,_,ρ=>f ρ S
  | .ok false S,_,g,ρ=>g ρ S
  | .exc c S,_,_,ρ=>.exc c ρ S
  | .stuck,_,_,_=>.stuck
noncomputable def G4(c:Nat)(f:Str)(ρ:aJ)(q:PV):RS PV->ZR
  | .ok p S=>jQ c f ρ q p S
  | .exc c S=>.exc c ρ S
  | .stuck=>.stuck
noncomputable def Pt(c:Nat)(f:Str):RS PV->GE->aJ->ZR
  | .ok q S,o,ρ=>G4 c f ρ q (o ρ S)
  | .exc c S,_,ρ=>.exc c ρ S
  | .stuck,_,_=>.stuck
noncomputable def G5(ρ:aJ)(q p:PV):RS PV->ZR
  | .ok j S=>lG ρ q p j S
  | .exc c S=>.exc c ρ S
  | .stuck=>.stuck
noncomputable def G6(q:PV):RS PV->GE->aJ->ZR
  | .ok p S,k,ρ=>G5 ρ q p (k ρ S)
  | .exc c S,_,ρ=>.exc c ρ S
  | .stuck,_,_=>.stuck
noncomputable def Pu:RS PV->GE->GE->aJ->ZR
  | .ok q S,o,k,ρ=>G6 q (o ρ S) k ρ
  | .exc c S,_,_,ρ=>.exc c ρ S
  | .stuck,_,_,_=>.stuck
noncomputable def Pw(is:List Nat)(ρ:aJ):RS PV->ZR
  | .ok v S=>Le is ρ v S
  | .exc c S=>.exc c ρ S
  | .stuck=>.stuck
noncomputable def G7:ZR->GS->ZR
  | .next ρ' S',g=>g ρ' S'
  | o,_=>o
noncomputable def G8(ks:List Nat)(d n x:Nat):ZR->ZR
  | .exc c ρ' S'=>if ks.contains c&&under c d then .next (((ρ'.set n (some (.exc c))).set x (some (.exc c))).set n none) S' else .stuck
  | o=>o
noncomputable def Px(i:Nat)(body:GS)(ρ:aJ)(S:aW):R (List PV)->ZR
  | .ok l=>dN i body l ρ S
  | .exc c=>.exc c ρ S
  | .stuck=>.stuck
noncomputable def Py(S:aW):R PV->RS PV
  | .ok (.lst l)=>.ok (aS S.length) (S ++[.ls l])
  | .exc c=>.exc c S
  | _=>.stuck
noncomputable def Lp(n:Nat):RS PV->RS PV
  | .ok .bf S'=>.ok (aS n) S'
  | .exc d S'=>.exc d S'
  | _=>.stuck
noncomputable def va(i:Nat)(g:GS)(r:List PV):ZR->ZR
  | .next ρ' S'=>dN i g r ρ' S'
  | .cont ρ' S'=>dN i g r ρ' S'
  | .brk ρ' S'=>.next ρ' S'
  | o=>o
theorem jT(i:Nat)(body:GS)(x:PV)(r:List PV)(ρ:aJ)(S:aW):dN i body (x::r) ρ S=va i body r (body (ρ.set i (some x)) S):=by
  show(match body (ρ.set i (some x)) S with | .next ρ' S'=>_ | .cont ρ' S'=>_ | .brk ρ' S'=>_ | o=>o)=_;cases body (ρ.set i (some x)) S<;>rfl
theorem es_29:∀(a b:GE)(x0:Option PV)(ρ0:aJ)(S:aW),hV a b (x0::ρ0) S=Po (a (x0::ρ0) S) b (x0::ρ0):=by
  intro a b x0 ρ0 S;unfold hV;cases a (x0::ρ0) S<;>rfl
theorem es_31:∀(o:PV->PV->R PV)(a b:GE)(x0:Option PV)(ρ0:aJ)(S:aW),jA o a b (x0::ρ0) S=Pp o (a (x0::ρ0) S) b (x0::ρ0):=by
  intro o a b x0 ρ0 S;unfold jA;cases a (x0::ρ0) S<;>rfl
theorem es_33:∀(a:GE)(x0:Option PV)(ρ0:aJ)(S:aW),ud a (x0::ρ0) S=Pq (a (x0::ρ0) S):=by
  intro a x0 ρ0 S;unfold ud;cases a (x0::ρ0) S<;>rfl
theorem es_40:∀(a:GT)(x0:Option PV)(ρ0:aJ)(S:aW),nJ a (x0::ρ0) S=Pr (a (x0::ρ0) S):=by
  intro a x0 ρ0 S;unfold nJ;cases a (x0::ρ0) S<;>rfl
theorem es_43:∀(a:GE)(r:GA)(x0:Option PV)(ρ0:aJ)(S:aW),aF a r (x0::ρ0) S=Lk (a (x0::ρ0) S) r (x0::ρ0):=by
  intro a r x0 ρ0 S;unfold aF;cases a (x0::ρ0) S with | ok p S1=>(show(r (x0::ρ0) S1).bind (fun xs S2=>RS.ok (p::xs) S2)=Dv p (r (x0::ρ0) S1);cases r (x0::ρ0) S1<;>rfl) | exc c S1=>rfl | stuck=>rfl
theorem es_51:∀(f:FE)(x0:Option PV)(ρ0:aJ)(S:aW),mq f (x0::ρ0) S=Py S (f (hide (x0::ρ0))):=by
  intro f x0 ρ0 S;show mq f (x0::ρ0) S=_;unfold mq;cases f (hide (x0::ρ0))with | ok p=>cases p<;>rfl | exc c=>rfl | stuck=>rfl
theorem es_57:∀(c:Nat)(G:List PV->aW->RS PV)(ds ps:List PV)(S:aW),Dr c G ds ps S=Lp S.length (G (aS S.length::(ps++ds)) (S ++[.obj c []])):=by
  intro c G ds ps S;unfold Dr;cases G (aS S.length::(ps++ds)) (S ++[.obj c []])with | ok p S'=>cases p<;>rfl | exc c S'=>rfl | stuck=>rfl
theorem es_60:∀(f g:GS)(x0:Option PV)(ρ0:aJ)(S:aW),bS f g (x0::ρ0) S=G7 (f (x0::ρ0) S) g:=by
  intro f g x0 ρ0 S;unfold bS;cases f (x0::ρ0) S<;>rfl
theorem es_64:∀(a:GE)(x0:Option PV)(ρ0:aJ)(S:aW),cR a (x0::ρ0) S=Lm (x0::ρ0) (a (x0::ρ0) S):=by
  intro a x0 ρ0 S;unfold cR;cases a (x0::ρ0) S<;>rfl
theorem es_67:∀(a:GE)(x0:Option PV)(ρ0:aJ)(S:aW),j6 a (x0::ρ0) S=Ln (x0::ρ0) (a (x0::ρ0) S):=by
  intro a x0 ρ0 S;unfold j6;cases a (x0::ρ0) S<;>rfl
theorem es_70:∀(i:Nat)(a:GE)(x0:Option PV)(ρ0:aJ)(S:aW),fQ i a (x0::ρ0) S=Lo i (x0::ρ0) (a (x0::ρ0) S):=by
  intro i a x0 ρ0 S;unfold fQ;cases a (x0::ρ0) S<;>rfl
theorem es_75:∀(t:GT)(f g:GS)(x0:Option PV)(ρ0:aJ)(S:aW),ff t f g (x0::ρ0) S=G3 (t (x0::ρ0) S) f g (x0::ρ0):=by
  intro t f g x0 ρ0 S;unfold ff;cases t (x0::ρ0) S with | ok b S1=>cases b<;>rfl | exc c S1=>rfl | stuck=>rfl
theorem es_79:∀(c:Nat)(f:Str)(o v:GE)(x0:Option PV)(ρ0:aJ)(S:aW),j7 c f o v (x0::ρ0) S=Pt c f (v (x0::ρ0) S) o (x0::ρ0):=by
  intro c f o v x0 ρ0 S;unfold j7;cases v (x0::ρ0) S with | ok q S1=>(show lF (o (x0::ρ0) S1) _ _=G4 c f _ q _;cases o (x0::ρ0) S1<;>rfl) | exc c S1=>rfl | stuck=>rfl
theorem es_82:∀(o k v:GE)(x0:Option PV)(ρ0:aJ)(S:aW),kL o k v (x0::ρ0) S=Pu (v (x0::ρ0) S) o k (x0::ρ0):=by
  intro o k v x0 ρ0 S;unfold kL;cases v (x0::ρ0) S with | ok q S1=>(show lF (o (x0::ρ0) S1) _ _=G6 q _ k _;cases o (x0::ρ0) S1 with | ok p S2=>(show lF (k (x0::ρ0) S2) _ _=G5 _ q p _;cases k (x0::ρ0) S2<;>rfl) | exc c S2=>rfl | stuck=>rfl) | exc c S1=>rfl | stuck=>rfl
theorem es_86:∀(is:List Nat)(a:GE)(x0:Option PV)(ρ0:aJ)(S:aW),zB is a (x0::ρ0) S=Pw is (x0::ρ0) (a (x0::ρ0) S):=by
  intro is a x0 ρ0 S;unfold zB;cases a (x0::ρ0) S<;>rfl
theorem es_88:∀(f:GS)(ks:List Nat)(d n x:Nat)(x0:Option PV)(ρ0:aJ)(S:aW),fz f ks d n x (x0::ρ0) S=G8 ks d n x (f (x0::ρ0) S):=by
  intro f ks d n x x0 ρ0 S;unfold fz;cases f (x0::ρ0) S<;>rfl
theorem es_92:∀(i:Nat)(it:FA)(body:GS)(x0:Option PV)(ρ0:aJ)(S:aW),ku i it body (x0::ρ0) S=Px i body (x0::ρ0) S (it (hide (x0::ρ0))):=by
  intro i it body x0 ρ0 S;unfold ku;cases it (hide (x0::ρ0))<;>rfl
theorem er_1:gP f (x0::ρ0) S=dC S (f (hide (x0::ρ0))):=rfl
theorem er_2:iq f (x0::ρ0) S=dC S (f (hide (x0::ρ0))):=rfl
theorem er_3:dC S (.ok a)=.ok a S:=rfl
theorem er_4:dC S (.exc c:R PV)=.exc c S:=rfl
theorem er_5:dC S (.ok a)=.ok a S:=rfl
theorem er_6:dC S (.exc c:R Bool)=.exc c S:=rfl
theorem er_7:dC S (.ok a)=.ok a S:=rfl
theorem er_8:dC S (.exc c:R (List PV))=.exc c S:=rfl
theorem er_9:hide (o::r)=ko o::hide r:=rfl
theorem er_10:hide []=[]:=rfl
theorem er_11:ko none=none:=rfl
theorem er_12:∀ i,ko (some (aS i))=none:=fun _=>rfl
theorem er_13:∀ i,ko (some (.int i))=some (.int i):=fun _=>rfl
theorem er_14:∀ i,ko (some (.str i))=some (.str i):=fun _=>rfl
theorem er_15:∀ i,ko (some (.bl i))=some (.bl i):=fun _=>rfl
theorem er_16:∀ i,ko (some (.tup i))=some (.tup i):=fun _=>rfl
theorem er_17:∀ i,ko (some (.lst i))=some (.lst i):=fun _=>rfl
theorem er_18:∀ i,ko (some (.exc i))=some (.exc i):=fun _=>rfl
theorem er_19:∀ i,ko (some (.ins i))=some (.ins i):=fun _=>rfl
theorem er_20:ko (some .bf)=some .bf:=rfl
theorem er_21:bB 0 (some p::r) S=.ok p S:=rfl
theorem er_22:bB (n+1) (o::r) S=bB n r S:=rfl
theorem er_23:(RS.ok a S).bind k=k a S:=rfl
theorem er_24:(RS.exc c S:RS (PV)).bind k=.exc c S:=rfl
theorem er_25:(RS.ok a S).bind k=k a S:=rfl
theorem er_26:(RS.exc c S:RS (List PV)).bind k=.exc c S:=rfl
theorem er_27:(RS.ok a S).bind k=k a S:=rfl
theorem er_28:(RS.exc c S:RS (PV)).bind k=.exc c S:=rfl
theorem er_29:dM c f a (x0::ρ0) S=(a (x0::ρ0) S).bind (atK c f):=rfl
theorem er_31:Po (.ok p S) b ρ=(b ρ S).bind (kB p):=rfl
theorem er_33:Pp o (.ok p S) b ρ=(b ρ S).bind (zA o p):=rfl
theorem er_35:Pq (.ok p S)=.ok (.bl (isNone p)) S:=rfl
theorem er_36:wZ a b (x0::ρ0) S=(a (x0::ρ0) S).bind (Dl b (x0::ρ0)):=rfl
theorem er_37:Dl g ρ (.bl true) S=g ρ S:=rfl
theorem er_38:Dl g ρ (.bl false) S=.ok (.bl false) S:=rfl
theorem er_39:ue a (x0::ρ0) S=(a (x0::ρ0) S).bind GU:=rfl
theorem er_40:GU (.bl b) S=.ok b S:=rfl
theorem er_42:Pr (.ok b S)=.ok (!b) S:=rfl
theorem er_43:bI (x0::ρ0) S=.ok [] S:=rfl
theorem er_45:Lk (.ok p S) r ρ=Dv p (r ρ S):=rfl
theorem er_46:Lk (.exc c S) r ρ=.exc c S:=rfl
theorem er_47:Dv x (.ok xs S)=.ok (x::xs) S:=rfl
theorem er_48:Dv x (.exc c S)=.exc c S:=rfl
theorem er_49:qY a (x0::ρ0) S=(a (x0::ρ0) S).bind Dn:=rfl
theorem er_50:e6 F a (x0::ρ0) S=(a (x0::ρ0) S).bind (pK F):=rfl
theorem er_51:gW G a (x0::ρ0) S=(a (x0::ρ0) S).bind G:=rfl
theorem er_53:Py S (.ok (.lst l))=.ok (aS S.length) (S ++[.ls l]):=rfl
theorem er_54:de c m G o a (x0::ρ0) S=(o (x0::ρ0) S).bind (zE c m G a (x0::ρ0)):=rfl
theorem er_55:Ll G p (.ok ps S)=G (p::ps) S:=rfl
theorem er_56:Ll G p (.exc c S)=.exc c S:=rfl
theorem er_57:nL c G ds a (x0::ρ0) S=(a (x0::ρ0) S).bind (Dr c G ds):=rfl
theorem er_59:Lp n (.ok .bf S)=.ok (aS n) S:=rfl
theorem er_60:Lp n (.exc c S)=.exc c S:=rfl
theorem er_62:G7 (.next ρ S) g=g ρ S:=rfl
theorem er_63:G7 (.ret v S) g=.ret v S:=rfl
theorem er_64:G7 (.exc c ρ S) g=.exc c ρ S:=rfl
theorem er_66:Lm ρ (.ok v S)=.ret v S:=rfl
theorem er_67:Lm ρ (.exc c S)=.exc c ρ S:=rfl
theorem er_69:Ln ρ (.ok v S)=.next ρ S:=rfl
theorem er_70:Ln ρ (.exc c S)=.exc c ρ S:=rfl
theorem er_72:Lo i ρ (.ok v S)=.next (ρ.set i (some v)) S:=rfl
theorem er_73:Lo i ρ (.exc c S)=.exc c ρ S:=rfl
theorem er_74:dX (x0::ρ0) S=.next (x0::ρ0) S:=rfl
theorem er_75:Oc (x0::ρ0) S=.ret .bf S:=rfl
theorem er_77:G3 (.ok true S) f g ρ=f ρ S:=rfl
theorem er_78:G3 (.ok false S) f g ρ=g ρ S:=rfl
theorem er_79:G3 (.exc c S) f g ρ=.exc c ρ S:=rfl
theorem er_81:Pt c f (.ok q S) o ρ=G4 c f ρ q (o ρ S):=rfl
theorem er_82:G4 c f ρ q (.ok p S)=jQ c f ρ q p S:=rfl
theorem er_84:Pu (.ok q S) o k ρ=G6 q (o ρ S) k ρ:=rfl
theorem er_85:G6 q (.ok p S) k ρ=G5 ρ q p (k ρ S):=rfl
theorem er_86:G5 ρ q p (.ok j S)=lG ρ q p j S:=rfl
theorem er_88:Pw is ρ (.ok v S)=Le is ρ v S:=rfl
theorem er_90:G8 ks d n x (.next ρ S)=.next ρ S:=rfl
theorem er_91:G8 ks d n x (.ret v S)=.ret v S:=rfl
theorem er_92:G8 ks d n x (.exc c ρ' S')=if ks.contains c&&under c d then .next (((ρ'.set n (some (.exc c))).set x (some (.exc c))).set n none) S' else .stuck:=rfl
theorem er_94:Px i body ρ S (.ok l)=dN i body l ρ S:=rfl
theorem er_95:mr (.next ρ S)=.ok .bf S:=rfl
theorem er_96:mr (.ret v S)=.ok v S:=rfl
theorem er_97:mr (.exc c ρ S)=.exc c S:=rfl
theorem er_103:zA o (.int a) (.int b) S=dC S (o (.int a) (.int b)):=rfl
theorem er_104:zA o (.str a) (.str b) S=dC S (o (.str a) (.str b)):=rfl
theorem eh{F:List PV->R PV}{ps:List PV}(h:ps.any eQ=false):pK F ps S=dC S (F ps):=by unfold pK;rw[h];rfl
theorem bK{G:List PV->aW->RS PV} (h:isObj c m p S=true):zE c m G a ρ p S=Ll G p (a ρ S):=by unfold zE;rw[h,Yy rfl];cases a ρ S<;>rfl
theorem Lq{ps:List PV}{S:aW}(h:ps.length<=1000):Dn ps S=.ok (aS S.length) (S ++[.ls ps]):=Yy (qZ _ h)
theorem iW{i:Nat}{k:Int}{l:List PV}{S:aW}(h:S[i]?=some (.ls l)):kB (aS i) (.int k) S=dC S (fK l k):=by
  unfold kB;rw[jP];simp only[h]
theorem mS{i:Nat}{l:List PV}{S:aW}{j:Nat}(h:S[i]?=some (.ls l))(hj:oB l.length k=some j):lG ρ q (aS i) (.int k) S=.next ρ (S.set i (.ls (l.set j q))):=by
  unfold lG;rw[jP];simp only[h,hj]
theorem bL{c i:Nat}{fs:List (Str×PV)}{q:PV}{S:aW}(h:S[i]?=some (.obj c fs))(hl:fs.lookup f=some q):atK c f (aS i) S=.ok q S:=by
  unfold atK;rw[jP];simp only[h,hl,Y4]
theorem pV{c i:Nat}{fs:List (Str×PV)}{S:aW}(h:S[i]?=some (.obj c fs))(hl:fs.length<1000):jQ c f ρ q (aS i) S=.next ρ (S.set i (.obj c (lB f q fs))):=by
  unfold jQ;rw[jP];simp only[h,hl,aaS,Y4]
theorem br{c i:Nat}{fs:List (Str×PV)}{S:aW}(h:S[i]?=some (.obj c fs))(hl:fs.lookup m=none):isObj c m (aS i) S=true:=by
  unfold isObj;rw[jP];simp only[h,hl,aa3,Option.isNone_none,ZW]
theorem fE{S:aW}{c:Cell}:(S ++[c])[S.length]?=some c:=by simp
theorem jf{S:aW}{c d:Cell}:(S ++[c]).set S.length d=S ++[d]:=by simp
noncomputable def zI(i:Nat)(g:GS)(ρ:aJ)(S:aW):RS PV->ZR
  | .ok p _=>(match n5 p with
    | some j=>(match S[j]? with
      | some (.ls l)=>if l.any eQ then g ρ S else g (ρ.set i (some (.lst l))) (S.set j .gone)
      | _=>g ρ S)
    | none=>g ρ S)
  | _=>g ρ S
theorem l0(i:Nat)(g:GS)(x0:Option PV)(ρ0:aJ)(S:aW):mO i g (x0::ρ0) S=zI i g (x0::ρ0) S (bB i (x0::ρ0) S):=by
  unfold mO bB;cases (x0::ρ0)[i]? with
  | none=>rfl
  | some o =>
    cases o with
    | none=>rfl
    | some p=>rfl
theorem xn{i j:Nat}{ρ:aJ}{S S':aW}{l:List PV}(h:S[j]?=some (.ls l))(hl:l.any eQ=false):zI i g ρ S (.ok (aS j) S')=g (ρ.set i (some (.lst l))) (S.set j .gone):=by
  unfold zI;dsimp only;rw[jP];simp only[h,hl];rfl
theorem dW{S T:aW}{i:Nat}{c:Cell}(h:S[i]?=some c):(S++T)[i]?=some c:=by
  rw[YQ (YC.mp h).1];exact h
theorem mT{S:aW}{i:Nat}{c d:Cell}(h:S[i]?=some c):(S.set i d)[i]?=some d:=Y0 (YC.mp h).1
theorem eD{S:aW}{i j:Nat}{c d:Cell}(h:S[j]?=some c)(n:i≠j):(S.set i d)[j]?=some c:=by rw[YR n];exact h
end Mi
local macro_rules | `(tactic| dsimp! [$l,*])=>do let a ← ("fVar_e getV_0 getV_s asVal_int asVal_bl asVal_str asVal_non asVal_tup asVal_lst asVal_exc asVal_dic0 fC_e fBin_e fUn_e oBool_e fAnd_e fOr_e fNot_e fChain_e fIf_e aNil_e aCons_e fTup_e fLst_e fCall_e fIsinst_e tVal_e truth_bl truth_int truth_non tAnd_e tOr_e tNot_e mkTup_1 mkTup_2 mkTup_3 mkTup_4 mkLst_0 mkLst_1 mkLst_2 mkLst_3 mkLst_4 mkLst_5 mkLst_6 mkLst_7 mkLst_8 asVal_none iRange_e rg_1 rg_2 rg_3 bind_ok bind_okl bind_okb bind_oko bindl_ok bindl_okl bindb_ok bindb_okb bindo_ok bind_exc bind_excl bind_excb bindl_exc bindl_excl bindb_exc bindb_excb fin_next fin_ret fin_exc run_1 run_2 run_3 run_4 run_5 run_6 oMul_i oDiv_i oMod_i oPow_i oShl_i oShr_i oAdd_i oSub_i oNeg_i oAnd_i oOr_i oXor_i cLt_i cLe_i cGt_i cGe_i cEq_i cNe_i cEq_b cNe_b cEq_s cNe_s cEq_tup cNe_tup cEq_lst cNe_lst cmpOkN_int cmpOkN_bl cmpOkN_str cmpOkN_non cmpOkN_tup cmpOkN_lst eqPVs_nil eqPVs_cons eqPVs_cn eqPVs_nc eqPV_i eqPV_b eqPV_s eqPV_t eqPV_l eqPV_n bLen_tup bLen_lst bAbs_i bMin_i bMax_i bInt_i bInt_b bBitLength_i bList_l bList_t bTuple_l bTuple_t isTy_int_i isTy_int_b isTy_int_s isTy_int_t isTy_bl_i isTy_bl_b isTy_bl_t isTy_bl_s isTy_tup_t isTy_tup_i isTy_tup_s isTy_lst_i isTy_lst_l isTy_lst_t isTy_lst_s isTy_str_i isTy_str_s isTy_str_t isTy_non isTy_dic_i isTy_dic_s oItem_t0 oItem_t1 oItem_t2 oItem_l0 oItem_l1 oItem_l2 sNext_e sSeq_e ofR_ok ofR_exc sRet_e sExpr_e sSet_e sIf_e sFor_e sBreak_e sCont_e sRetN_e sRaise_e iSeq_e forL_nil forL_cons oNone_e oSome_e fCut_e oCut_lst isSmallI_i sRaiseT_e sTryAs_e fIsExc_e fIsVal_e el_1 el_2 el_3 el_4 el_5 el_6 el_7 el_8 el_9 el_10 el_11 el_12 el_13 el_14 el_15 el_16 el_17 el_18 el_19 el_20 el_21 el_22 el_23 el_24 el_25 el_26 el_27 el_28 el_29 ow_1 ow_2 ow_3 ow_4 ow_5 ow_6 ow_7 er_1 er_2 er_3 er_4 er_5 er_6 er_7 er_8 er_9 er_10 er_11 er_12 er_13 er_14 er_15 er_16 er_17 er_18 er_19 er_20 er_21 er_22 er_23 er_24 er_25 er_26 er_27 er_28 er_29 es_29 er_31 es_31 er_33 es_33 er_35 er_36 er_37 er_38 er_39 er_40 es_40 er_42 er_43 es_43 er_45 er_46 er_47 er_48 er_49 er_50 er_51 es_51 er_53 er_54 er_55 er_56 er_57 es_57 er_59 er_60 es_60 er_62 er_63 er_64 es_64 er_66 er_67 es_67 er_69 er_70 es_70 er_72 er_73 er_74 er_75 es_75 er_77 er_78 er_79 es_79 er_81 er_82 es_82 er_84 er_85 er_86 es_86 er_88 es_88 er_90 er_91 er_92 es_92 er_94 er_95 er_96 er_97 runZ_1 runZ_2 runZ_3 runZ_4 runZ_5 er_103 er_104".splitOn " ").toArray.mapM fun s=>`(Lean.Parser.Tactic.simpLemma| $(Lean.mkIdent (.mkStr `Mi s)):term);`(tactic| simp only [$[$a],*,Mi.powI,Int.reduceLT,Int.reduceLE,Int.reduceNeg,Int.reduceAdd,Int.reduceSub,Int.reduceMul,Int.reducePow,Int.reduceToNat,Nat.reduceAdd,Nat.reduceSub,ne_eq,not_false_eq_true,not_true_eq_false,Int.reduceEq,reduceCtorEq,$l,*])
local macro_rules|`($a∣$b)=>`(Mi.PV.tup [Mi.PV.int $a,Mi.PV.int $b])
local macro_rules|`(‹$n›)=>`(Mi.fC (Mi.PV.int $n))
local macro_rules | `(tactic| omega)=>`(tactic| first | lia | omega (splitDisjunctions:=true))
namespace Cm
open PySem Mi
noncomputable def Dw:FS:=aP (je (iA .int (ae 0)) (oC (iA .bool (ae 0))))
noncomputable def vc:List PV->R PV:=aY 1 Dw
noncomputable def Lr:FS:=aD (bO (aH (ah jt (ae 1) (au mj (af (ae 0) (aq))))) (aP (ah ar (ae 0) (ae 1))) (aV)) (aP ‹0›)
noncomputable def zJ:List PV->R PV:=aY 2 Lr
noncomputable def Pz:FS:=aP (je (iA .int (ae 0)) (oC (iA .bool (ae 0))))
noncomputable def Dx:List PV->R PV:=aY 1 Pz
noncomputable def G9:FS:=aP (je (au vc (af (ae 0) (aq))) (rG Cj Cj (ae 1) (ae 0) (ae 2)))
noncomputable def pj:List PV->R PV:=aY 3 G9
noncomputable def PA:FS:=aD (bO (ju (aH (au pj (af (ae 0) (af ‹2› (af ‹11› (aq))))))) (d6 (fun ρ=>(fun _=>true) ρ&&(fun ρ=>(fun ρ=>fY (‹2› ρ)) ρ&&(fun ρ=>(fun _=>true) ρ&&(fun ρ=>(fun ρ=>fY (‹11› ρ)) ρ&&(fun _=>true) ρ) ρ) ρ) ρ) 1) (aV)) (aD (bO (ju (aH (au pj (af (ae 1) (af ‹1› (af ‹60› (aq))))))) (d6 (fun ρ=>(fun _=>true) ρ&&(fun ρ=>(fun ρ=>fY (‹1› ρ)) ρ&&(fun ρ=>(fun _=>true) ρ&&(fun ρ=>(fun ρ=>fY (‹60› ρ)) ρ&&(fun _=>true) ρ) ρ) ρ) ρ) 1) (aV)) (aP (ck (af (ae 0) (af (ae 1) (aq))))))
noncomputable def Dy:List PV->R PV:=aY 2 PA
noncomputable def PB:FS:=aD (bO (k8 (ju (aH (iA .tuple (ae 0)))) (aH (ah mC (au mj (af (ae 0) (aq))) ‹2›))) (d6 (fun _=>true) 1) (aV)) (dR (au Dy (af (ah ar (ae 0) ‹0›) (af (ah ar (ae 0) ‹1›) (aq)))))
noncomputable def zt:List PV->R PV:=aY 1 PB
noncomputable def PC:FS:=aD (dR (au zt (af (ae 0) (aq)))) (aP (ah fA ‹1› (ah cV (ah cV ‹1› (ah ar (ae 0) ‹0›)) (ah ar (ae 0) ‹1›))))
noncomputable def Ha:List PV->R PV:=aY 1 PC
noncomputable def PD:FS:=aD (dR (au zt (af (ae 0) (aq)))) (aP (ah dB (ah fA ‹1› (ah dB (ah ar (ae 0) ‹0›) ‹1›)) ‹1›))
noncomputable def zK:List PV->R PV:=aY 1 PD
noncomputable def PF:FS:=aP (ah dB (ah dB ‹1› (au zK (af (ae 0) (aq)))) (ah ar (ae 0) ‹1›))
noncomputable def xq:List PV->R PV:=aY 1 PF
noncomputable def PG:FS:=aP (ah dB (ah fA ‹1› (ae 0)) ‹1›)
noncomputable def so:List PV->R PV:=aY 1 PG
noncomputable def PH:FS:=aD (aX 1 (ah oMod (ah js (ae 0) ‹48271›) ‹999983›)) (aP (ck (af (ah cV ‹2› (ah oMod (ae 1) ‹10›)) (af (ah cV ‹1› (ah oMod (ah oDiv (ae 1) ‹10›) ‹60›)) (aq)))))
noncomputable def Hb:List PV->R PV:=aY 2 PH
noncomputable def Ls:FS:=aD (aX 2 (ah fA ‹1› (ah cV (ah cV ‹1› (ah ar (ae 0) ‹0›)) (ah ar (ae 0) ‹1›)))) (aD (aX 3 (ah oMod (ah js (ae 1) ‹618033988749894848204587›) (ah cV (ah AU ‹10› ‹24›) ‹7›))) (aD (aX 4 (ah fA (ah dB (ah fA ‹1› (ah ar (ae 0) ‹0›)) ‹1›) (ah ar (ae 0) ‹1›))) (aD (aX 5 (gm (af ‹0› (af ‹1› (af (ah dB (ah fA ‹1› (ah ar (ae 0) ‹1›)) ‹1›) (af (ah fA ‹1› (ah ar (ae 0) ‹1›)) (af (ah dB (ae 4) ‹1›) (af (ae 4) (af (ah cV (ae 4) ‹1›) (af (ah cV (ae 4) (ah fA ‹1› (ah dB (ah ar (ae 0) ‹1›) ‹1›))) (aq))))))))))) (aD (aX 6 (ah oMod (ah oDiv (ae 3) (ae 2)) ‹16›)) (aD (bO (aH (ah jt (ae 6) ‹8›)) (aP (ah cV (ah ar (ae 5) (ae 6)) (ah js (ah oMod (ae 3) ‹2›) (ah oDiv (ae 2) ‹2›)))) (aV)) (aP (ah oMod (ae 3) (ae 2))))))))
noncomputable def Dz:List PV->R PV:=aY 7 Ls
noncomputable def PI:FS:=bO (ju (aH (au pj (af (ae 0) (af ‹0› (af (au so (af (ae 1) (aq))) (aq))))))) (d6 (fun ρ=>(fun _=>true) ρ&&(fun ρ=>(fun ρ=>fY ((ae 1) ρ)) ρ&&(fun ρ=>(fun _=>true) ρ&&(fun _=>true) ρ) ρ) ρ) 2) (aV)
noncomputable def zL:List PV->R PV:=aY 2 PI
noncomputable def PJ:FS:=aD (dR (au zt (af (ae 0) (aq)))) (aD (dR (au zL (af (ae 1) (af ‹1› (aq))))) (aD (dR (au zL (af (ae 2) (af (ah ar (ae 0) ‹0›) (aq))))) (aD (dR (au zL (af (ae 3) (af (ah ar (ae 0) ‹1›) (aq))))) (aP (ah cV (ah cV (ah fA (ae 1) (ah cV (ah ar (ae 0) ‹0›) (ah ar (ae 0) ‹1›))) (ah fA (ae 2) (ah ar (ae 0) ‹1›))) (ae 3))))))
noncomputable def DA:List PV->R PV:=aY 4 PJ
noncomputable def Lu:FS:=bO (ju (aH (au pj (af (ae 1) (af ‹0› (af (ah dB (au Ha (af (ae 0) (aq))) ‹1›) (aq))))))) (d6 (fun _=>true) 2) (aV)
noncomputable def sr:List PV->R PV:=aY 2 Lu
noncomputable def DB:FS:=aD (dR (au sr (af (ae 0) (af (ae 1) (aq))))) (aD (aX 2 (ah wa (ae 1) (ah cV (ah ar (ae 0) ‹0›) (ah ar (ae 0) ‹1›)))) (aD (aX 3 (ah qP (ah wa (ae 1) (ah ar (ae 0) ‹1›)) (au so (af (ah ar (ae 0) ‹0›) (aq))))) (aD (aX 4 (ah qP (ae 1) (au so (af (ah ar (ae 0) ‹1›) (aq))))) (aP (ck (af (ae 2) (af (ae 3) (af (ae 4) (aq)))))))))
noncomputable def pk:List PV->R PV:=aY 5 DB
noncomputable def PK:FS:=aP (ah fA ‹1› (ah dB (ah ar (ae 0) ‹1›) ‹1›))
noncomputable def DC:List PV->R PV:=aY 1 PK
noncomputable def PL:FS:=aD (dR (au zt (af (ae 0) (aq)))) (aP (au DA (af (ae 0) (af ‹0› (af (au so (af (ah ar (ae 0) ‹0›) (aq))) (af (au DC (af (ae 0) (aq))) (aq)))))))
noncomputable def qx:List PV->R PV:=aY 1 PL
noncomputable def vd:FS:=aD (aX 2 (au pk (af (ae 0) (af (ae 1) (aq))))) (aD (aX 3 (ah ar (ae 2) ‹1›)) (aD (aX 4 (ah ar (ae 2) ‹2›)) (aD (bO (aH (ah bD (ae 3) ‹0›)) (aP (f9 (aH (ah bD (ae 4) ‹0›)) (fC (.str "nought")) (fC (.str "small")))) (aV)) (aD (bO (aH (ah jt (ae 3) (au so (af (ah ar (ae 0) ‹0›) (aq))))) (aP (fC (.str "plain"))) (aV)) (aD (bO (aH (ah bD (ae 4) ‹0›)) (aP (fC (.str "endless"))) (aV)) (aP (f9 (aH (ah Ck (ae 4) (au DC (af (ae 0) (aq))))) (fC (.str "still")) (fC (.str "loud")))))))))
noncomputable def ze:List PV->R PV:=aY 5 vd
noncomputable def PM:FS:=aP (ah fA ‹1› (ah cV (ah ar (ae 0) ‹0›) (ah ar (ae 0) ‹1›)))
noncomputable def zM:List PV->R PV:=aY 1 PM
noncomputable def Lv:FS:=aD (dR (au sr (af (ae 0) (af (ae 1) (aq))))) (aP (ah EF (ae 1) (au zM (af (ae 0) (aq)))))
noncomputable def ve:List PV->R PV:=aY 2 Lv
noncomputable def PN:FS:=aD (dR (au sr (af (ae 0) (af (ae 1) (aq))))) (aP (ah qP (ae 1) (ah dB (au zM (af (ae 0) (aq))) ‹1›)))
noncomputable def xr:List PV->R PV:=aY 2 PN
noncomputable def PO:FS:=aD (dR (au sr (af (ae 0) (af (ae 2) (aq))))) (aP (ah cV (au xr (af (ae 0) (af (ae 1) (aq)))) (ah qP (ae 2) (au zM (af (ae 0) (aq))))))
noncomputable def zN:List PV->R PV:=aY 3 PO
noncomputable def Lw:FS:=aD (bO (aH (ah bD (ae 0) ‹0›)) (aP (ck (af ‹0› (af ‹0› (aq))))) (aV)) (aD (aX 2 (ah dB (eU gJ (ah qP (ae 0) (eU iJ (ae 0)))) ‹1›)) (aP (ck (af (ah wa (ae 0) (ae 2)) (af (ah cV (ae 1) (ae 2)) (aq))))))
noncomputable def zi:List PV->R PV:=aY 3 Lw
noncomputable def PQ:FS:=aP (ah fA (ah ar (ae 0) ‹0›) (ah dB (ah ar (ae 0) ‹1›) (ae 1)))
noncomputable def Hc:List PV->R PV:=aY 2 PQ
noncomputable def PR:FS:=aD (aX 2 (au AV (af (ah ar (ae 0) ‹1›) (af (ah ar (ae 1) ‹1›) (aq))))) (aP (au zi (af (ah cV (au Hc (af (ae 0) (af (ae 2) (aq)))) (au Hc (af (ae 1) (af (ae 2) (aq))))) (af (ae 2) (aq)))))
noncomputable def xt:List PV->R PV:=aY 3 PR
noncomputable def He:FS:=aP (au zi (af (ah js (ah ar (ae 0) ‹0›) (ah ar (ae 1) ‹0›)) (af (ah cV (ah ar (ae 0) ‹1›) (ah ar (ae 1) ‹1›)) (aq))))
noncomputable def vf:List PV->R PV:=aY 2 He
noncomputable def Hh:FS:=aD (aX 2 (au ze (af (ae 0) (af (ae 1) (aq))))) (aD (bO (aH (ah gO (ae 2) (ck (af (fC (.str "nought")) (af (fC (.str "small")) (af (fC (.str "plain")) (aq))))))) (d6 (fun _=>true) 4) (aV)) (aD (aX 3 (au pk (af (ae 0) (af (ae 1) (aq))))) (aD (aX 4 (ah ar (ae 3) ‹2›)) (aD (aX 5 (au xq (af (ae 0) (aq)))) (aD (bO (aH (ah bD (ae 2) (fC (.str "plain")))) (aD (aX 4 (ah cV (ae 4) (ah fA ‹1› (ah ar (ae 0) ‹1›)))) (aX 5 (ah dB (ah cV (ae 5) (ah ar (ae 3) ‹1›)) ‹1›))) (aV)) (aP (au zi (af (f9 (aH (ah bD (ah ar (ae 3) ‹0›) ‹1›)) (eU iJ (ae 4)) (ae 4)) (af (ae 5) (aq))))))))))
noncomputable def sy:List PV->R PV:=aY 6 Hh
noncomputable def Lx:FS:=aD (aX 2 (au xq (af (ae 0) (aq)))) (aD (bO (aH (ah bD (ah ar (ae 1) ‹0›) ‹0›)) (aP ‹0›) (aV)) (aD (aX 3 (au tS (af (ah ar (ae 1) ‹0›) (aq)))) (aD (aX 4 (ah dB (ah cV (ah ar (ae 1) ‹1›) (eU gJ (ae 3))) ‹1›)) (aD (aX 5 (au wg (af (ah dB (ae 4) (ah ar (ae 0) ‹1›)) (af (ae 2) (aq))))) (aD (bO (k8 (aH (ah jt (ah ar (ae 1) ‹1›) (ae 5))) (aH (ah qi (ae 4) (au zK (af (ae 0) (aq)))))) (aP (fC .bf)) (aV)) (aD (aX 6 (ah cV (ah fA (ah dB (ae 5) (ae 2)) (ah ar (ae 0) ‹1›)) (ah fA (ae 3) (ah dB (ah ar (ae 1) ‹1›) (ae 5))))) (aP (f9 (aH (ah jt (ah ar (ae 1) ‹0›) ‹0›)) (au ve (af (ae 0) (af (ae 6) (aq)))) (ae 6)))))))))
noncomputable def sA:List PV->R PV:=aY 7 Lx
noncomputable def Ly:FS:=aP (f9 (aH (ah Ck (ae 1) ‹0›)) (ck (af (ah fA (ae 0) (ae 1)) (af (ae 2) (aq)))) (ck (af (ae 0) (af (ah fA (ae 2) (eU iJ (ae 1))) (aq)))))
noncomputable def zO:List PV->R PV:=aY 3 Ly
noncomputable def Lz:FS:=aD (bO (aH (ah bD (ae 0) ‹0›)) (d6 (fun _=>true) 4) (aV)) (aD (aX 3 (au tS (af (ae 0) (aq)))) (aD (aX 4 (ah dB (eU gJ (ae 3)) (eU gJ (ae 2)))) (aD (aX 5 (au zO (af (ae 3) (af (eU iJ (ae 4)) (af (ae 2) (aq)))))) (aD (bO (aH (ah jt (ah ar (ae 5) ‹0›) (ah ar (ae 5) ‹1›))) (aX 4 (ah dB (ae 4) ‹1›)) (aV)) (aP (ah cV (ae 4) (ae 1)))))))
noncomputable def vg:List PV->R PV:=aY 6 Lz
noncomputable def DD:FS:=aD (aX 4 (au zO (af (au tS (af (ae 0) (aq))) (af (ah dB (ae 1) (ae 3)) (af (ae 2) (aq)))))) (aD (aX 5 (ah oDiv (ah ar (ae 4) ‹0›) (ah ar (ae 4) ‹1›))) (aD (aX 6 (ah js ‹2› (ah dB (ah ar (ae 4) ‹0›) (ah js (ae 5) (ah ar (ae 4) ‹1›))))) (aD (bO (aH (ah bD (ae 6) ‹0›)) (aP (ck (af (ae 5) (af ‹0› (aq))))) (aV)) (aD (bO (aH (ah jt (ae 6) (ah ar (ae 4) ‹1›))) (aP (ck (af (ae 5) (af ‹1› (aq))))) (aV)) (aP (ck (af (ae 5) (af (f9 (aH (ah bD (ae 6) (ah ar (ae 4) ‹1›))) ‹2› ‹3›) (aq)))))))))
noncomputable def qy:List PV->R PV:=aY 7 DD
noncomputable def PS:FS:=aD (dR (au zt (af (ae 0) (aq)))) (aP (au DA (af (ae 0) (af ‹0› (af (au so (af (ah ar (ae 0) ‹0›) (aq))) (af ‹0› (aq)))))))
noncomputable def vh:List PV->R PV:=aY 1 PS
noncomputable def LA:FS:=aP (f9 (aH (ae 2)) (au ve (af (ae 0) (af (ae 1) (aq)))) (ae 1))
noncomputable def zq:List PV->R PV:=aY 3 LA
noncomputable def DE:FS:=aD (bO (aH (ah iE (au ze (af (ae 0) (af (ae 1) (aq)))) (ck (af (fC (.str "still")) (af (fC (.str "loud")) (aq)))))) (aP (fC .bf)) (aV)) (aD (aX 2 (au xr (af (ae 0) (af (ae 1) (aq))))) (aP (f9 (aH (ah bD (ah ar (au pk (af (ae 0) (af (ae 1) (aq)))) ‹0›) ‹1›)) (eU iJ (ae 2)) (ae 2))))
noncomputable def qz:List PV->R PV:=aY 3 DE
noncomputable def qA:FS:=aD (aX 3 (au qz (af (ae 0) (af (ae 1) (aq))))) (aD (aX 4 (au qz (af (ae 0) (af (ae 2) (aq))))) (aD (bO (k8 (aH (eU wc (ae 3))) (aH (eU wc (ae 4)))) (aD (aX 5 (ah iE (fC (.str "loud")) (ck (af (au ze (af (ae 0) (af (ae 1) (aq)))) (af (au ze (af (ae 0) (af (ae 2) (aq)))) (aq)))))) (aP (ck (af (fC (.str "apart")) (af (f9 (aH (ae 5)) ‹1› ‹0›) (aq)))))) (aV)) (aD (bO (aH (ah bD (ae 3) (ae 4))) (aP (ck (af (fC (.str "same")) (af ‹0› (aq))))) (aV)) (aP (ck (af (f9 (aH (ah jt (ae 3) (ae 4))) (fC (.str "less")) (fC (.str "more"))) (af ‹0› (aq))))))))
noncomputable def za:List PV->R PV:=aY 6 qA
noncomputable def Vp:FS:=aP (Gw (ah bD (ae 2) ‹3›) (je (ah bD (ae 2) ‹2›) (ae 1)))
noncomputable def PT:List PV->R PV:=aY 4 Vp
noncomputable def Vq:FS:=aP (ah Ck (ae 2) ‹2›)
noncomputable def PU:List PV->R PV:=aY 4 Vq
noncomputable def Vs:FS:=aP (fC (.bl false))
noncomputable def PW:List PV->R PV:=aY 4 Vs
noncomputable def Vt:FS:=aP (oC (ae 3))
noncomputable def PX:List PV->R PV:=aY 4 Vt
noncomputable def Vu:FS:=aP (ae 3)
noncomputable def PY:List PV->R PV:=aY 4 Vu
noncomputable def DF:List (Nat×(List PV->R PV)):=[(21,PT),(22,PU),(23,PW),(24,PX),(25,PY)]
noncomputable def Vv:FS:=aD (bO (aH (ah bD (ae 0) (fC (.str "even")))) (aP (kJ 21)) (aV)) (aD (bO (aH (ah bD (ae 0) (fC (.str "away")))) (aP (kJ 22)) (aV)) (aD (bO (aH (ah bD (ae 0) (fC (.str "in")))) (aP (kJ 23)) (aV)) (aD (bO (aH (ah bD (ae 0) (fC (.str "up")))) (aP (kJ 24)) (aV)) (aD (bO (aH (ah bD (ae 0) (fC (.str "down")))) (aP (kJ 25)) (aV)) (d6 (fun _=>true) 3)))))
noncomputable def zk:List PV->R PV:=aY 1 Vv
noncomputable def LB:FS:=aD (aX 3 (je (ah mC (ah ar (ae 1) ‹1›) ‹0›) (pP DF (ae 0) (af (ah bD (ah oMod (ah ar (ae 1) ‹0›) ‹2›) ‹1›) (af (ah ar (ae 1) ‹1›) (af (ae 2) (aq))))))) (aP (f9 (aH (ae 3)) (ah cV (ah ar (ae 1) ‹0›) ‹1›) (ah ar (ae 1) ‹0›)))
noncomputable def xu:List PV->R PV:=aY 4 LB
noncomputable def Hi:FS:=aD (bO (aH (ah bD (ae 2) ‹0›)) (aP ‹0›) (aV)) (aP (f9 (aH (ah jt (ae 1) (ah dB ‹1› (au zK (af (ae 0) (aq)))))) (ah cV ‹16› ‹8›) ‹16›))
noncomputable def zP:List PV->R PV:=aY 3 Hi
noncomputable def DG:FS:=aP (au wg (af (ah dB (ae 1) (ah ar (ae 0) ‹1›)) (af (au xq (af (ae 0) (aq))) (aq))))
noncomputable def pq:List PV->R PV:=aY 2 DG
noncomputable def Hj:FS:=aD (aX 5 (au vh (af (ae 0) (aq)))) (aD (aX 6 (ah dB (au pq (af (ae 0) (af (ae 3) (aq)))) (au xq (af (ae 0) (aq))))) (aD (aX 7 (ah cV (ah fA (ae 6) (ah ar (ae 0) ‹1›)) (au xu (af (ae 1) (af (ae 4) (af (ae 2) (aq))))))) (aD (bO (aH (ah jt (ae 7) (ae 5))) (aP (ck (af (au zq (af (ae 0) (af (ae 7) (af (ae 2) (aq))))) (af (au zP (af (ae 0) (af (ae 3) (af (ah ar (ae 4) ‹1›) (aq))))) (aq))))) (aV)) (aD (aX 7 (f9 (aH (pP DF (ae 1) (af (fC (.bl true)) (af ‹3› (af (ae 2) (aq)))))) (ae 5) (ah dB (ae 5) ‹1›))) (aP (ck (af (au zq (af (ae 0) (af (ae 7) (af (ae 2) (aq))))) (af (ah cV ‹4› ‹16›) (aq)))))))))
noncomputable def xw:List PV->R PV:=aY 8 Hj
noncomputable def PZ:FS:=aD (dR (au zt (af (ae 0) (aq)))) (aD (aX 5 (au zk (af (ae 4) (aq)))) (aD (bO (aH (ah bD (ae 1) ‹0›)) (aP (ck (af ‹0› (af ‹0› (aq))))) (aV)) (aD (aX 6 (au vg (af (ae 1) (af (ae 2) (af (ae 3) (aq)))))) (aD (aX 7 (au qy (af (ae 1) (af (ae 2) (af (ae 3) (af (au pq (af (ae 0) (af (ae 6) (aq)))) (aq))))))) (aP (au xw (af (ae 0) (af (ae 5) (af (ah jt (ae 1) ‹0›) (af (ae 6) (af (ae 7) (aq))))))))))))
noncomputable def zp:List PV->R PV:=aY 8 PZ
noncomputable def LC:FS:=aP (je (ah bD (ah ar (ae 0) ‹0›) (fC (.str "number"))) (ah bD (ah ar (ae 0) ‹2›) (fC (0∣0))))
noncomputable def cG:List PV->R PV:=aY 1 LC
noncomputable def vi:FS:=aD (aX 2 (au ze (af (ae 0) (af (ae 1) (aq))))) (aD (bO (aH (ah bD (ae 2) (fC (.str "loud")))) (aP (fC (.tup [.str "wrong",.bl false,0∣0]))) (aV)) (aD (bO (aH (ah bD (ae 2) (fC (.str "still")))) (aP (fC (.tup [.str "none",.bl false,0∣0]))) (aV)) (aD (aX 3 (ah bD (ah ar (au pk (af (ae 0) (af (ae 1) (aq)))) ‹0›) ‹1›)) (aD (bO (aH (ah bD (ae 2) (fC (.str "endless")))) (aP (ck (af (fC (.str "endless")) (af (ae 3) (af (fC (0∣0)) (aq)))))) (aV)) (aP (ck (af (fC (.str "number")) (af (ae 3) (af (au sy (af (ae 0) (af (au xr (af (ae 0) (af (ae 1) (aq)))) (aq)))) (aq))))))))))
noncomputable def bM:List PV->R PV:=aY 4 vi
noncomputable def zf:FS:=aD (aX 3 (au bM (af (ae 0) (af (ae 1) (aq))))) (aD (aX 4 (au bM (af (ae 0) (af (ae 2) (aq))))) (aD (aX 5 (ck (af (ah ar (ae 3) ‹0›) (af (ah ar (ae 4) ‹0›) (aq))))) (aD (bO (aH (ah iE (fC (.str "wrong")) (ae 5))) (aP (fC (.tup [.str "wrong",.bl false,0∣0]))) (aV)) (aD (bO (aH (ah iE (fC (.str "none")) (ae 5))) (aP (fC (.tup [.str "none",.bl false,0∣0]))) (aV)) (aD (aX 6 (ah mC (ah ar (ae 3) ‹1›) (ah ar (ae 4) ‹1›))) (aD (bO (aH (ah gO (fC (.str "endless")) (ae 5))) (aP (ck (af (fC (.str "number")) (af (ae 6) (af (au vf (af (ah ar (ae 3) ‹2›) (af (ah ar (ae 4) ‹2›) (aq)))) (aq)))))) (aV)) (aD (bO (k8 (aH (au cG (af (ae 3) (aq)))) (aH (au cG (af (ae 4) (aq))))) (aP (fC (.tup [.str "wrong",.bl false,0∣0]))) (aV)) (aP (ck (af (fC (.str "endless")) (af (ae 6) (af (fC (0∣0)) (aq)))))))))))))
noncomputable def z7:List PV->R PV:=aY 7 zf
noncomputable def LD:FS:=aD (aX 1 (ae 2)) (aX 2 (ah oDiv (ah cV (ae 1) (ah oDiv (ae 0) (ae 1))) ‹2›))
noncomputable def LF:FS:=aD (bO (k8 (ju (aH (au vc (af (ae 0) (aq))))) (aH (ah jt (ae 0) ‹0›))) (d6 (fun _=>true) 4) (aV)) (aD (bO (aH (ah bD (ae 0) ‹0›)) (aP ‹0›) (aV)) (aD (aX 1 (ah fA ‹1› (ah oDiv (ah cV (eU gJ (ae 0)) ‹1›) ‹2›))) (aD (aX 2 (ah oDiv (ah cV (ae 1) (ah oDiv (ae 0) (ae 1))) ‹2›)) (aD (iS (aH (ah jt (ae 2) (ae 1))) (LD)) (aP (ae 1))))))
noncomputable def DH:List PV->R PV:=aY 3 LF
noncomputable def Hk:FS:=bO (k8 (aH (ah bD (ae 0) (fC (.str "")))) (ju (aH (au jy (af (hU 1 (tT (ae 0)) (d8) (ah iE (ae 1) (fC (.str "0123456789")))) (aq)))))) (d6 (fun _=>true) 6) (aV)
noncomputable def vj:List PV->R PV:=aY 1 Hk
noncomputable def xy:FS:=aD (aX 1 (jx iV (ae 0) (af (fC (.str "-")) (aq)))) (aD (aX 2 (f9 (aH (ae 1)) (nh (ae 0) (j3 ‹1›) (nc)) (ae 0))) (aD (dR (au vj (af (ae 2) (aq)))) (aD (bO (aH (ah qi (au mj (af (ae 2) (aq))) ‹3›)) (d6 (fun ρ=>(fun _=>true) ρ&&(fun ρ=>(fun ρ=>fY (‹3› ρ)) ρ&&(fun ρ=>(fun _=>true) ρ&&(fun _=>true) ρ) ρ) ρ) 6) (aV)) (aP (f9 (aH (ae 1)) (eU iJ (au lW (af (ae 2) (aq)))) (au lW (af (ae 2) (aq))))))))
noncomputable def sC:List PV->R PV:=aY 3 xy
noncomputable def qB:FS:=aD (bO (k8 (ju (aH (iA .str (ae 0)))) (aH (ah qi (au mj (af (ae 0) (aq))) ‹1200›))) (d6 (fun ρ=>(fun _=>true) ρ&&(fun ρ=>(fun ρ=>fY (‹1200› ρ)) ρ&&(fun ρ=>(fun _=>true) ρ&&(fun _=>true) ρ) ρ) ρ) 6) (aV)) (aD (aX 1 (jx iV (ae 0) (af (fC (.str "-")) (aq)))) (aD (aX 2 (jx iB (f9 (aH (ae 1)) (nh (ae 0) (j3 ‹1›) (nc)) (ae 0)) (af (fC (.str "e")) (aq)))) (aD (aX 3 (jx iB (ah ar (ae 2) ‹0›) (af (fC (.str ".")) (aq)))) (aD (dR (au vj (af (ah ar (ae 3) ‹0›) (aq)))) (aD (bO (aH (ah bD (ah ar (ae 3) ‹1›) (fC (.str ".")))) (dR (au vj (af (ah ar (ae 3) ‹2›) (aq)))) (aV)) (aD (aX 4 (f9 (aH (ah bD (ah ar (ae 2) ‹1›) (fC (.str "e")))) (au sC (af (ah ar (ae 2) ‹2›) (aq))) ‹0›)) (aP (ck (af (ae 1) (af (au lW (af (ah cV (ah ar (ae 3) ‹0›) (ah ar (ae 3) ‹2›)) (aq))) (af (ah dB (ae 4) (au mj (af (ah ar (ae 3) ‹2›) (aq)))) (aq))))))))))))
noncomputable def zn:List PV->R PV:=aY 5 qB
noncomputable def P0:FS:=aD (aX 2 (hU 3 (k9 (ae 1)) (d8) (ah ar (ae 3) ‹0›))) (aD (bO (aH (ah iE (fC (.str "wrong")) (ae 2))) (aP (ck (af (au qx (af (ae 0) (aq))) (af ‹1› (aq))))) (aV)) (aD (bO (aH (ah iE (fC (.str "none")) (ae 2))) (aP (ck (af (au qx (af (ae 0) (aq))) (af ‹0› (aq))))) (aV)) (aP (fC .bf))))
noncomputable def sD:List PV->R PV:=aY 3 P0
noncomputable def LG:FS:=aD (aX 4 (ah mC (ah ar (ae 1) ‹1›) (ah ar (ae 2) ‹1›))) (aD (bO (aH (ah bD (ah ar (ae 1) ‹0›) (fC (.str "endless")))) (aP (ck (af (au zq (af (ae 0) (af (au vh (af (ae 0) (aq))) (af (ae 4) (aq))))) (af ‹0› (aq))))) (aV)) (aD (bO (k8 (aH (ah bD (ah ar (ae 2) ‹0›) (fC (.str "endless")))) (aH (au cG (af (ae 1) (aq))))) (aP (ck (af (au zq (af (ae 0) (af ‹0› (af (ae 4) (aq))))) (af ‹0› (aq))))) (aV)) (aD (bO (aH (au cG (af (ae 2) (aq)))) (aP (ck (af (au zq (af (ae 0) (af (au vh (af (ae 0) (aq))) (af (ae 4) (aq))))) (af ‹2› (aq))))) (aV)) (aD (aX 5 (ah ar (ah ar (ae 1) ‹2›) ‹0›)) (aP (au zp (af (ae 0) (af (f9 (aH (ae 4)) (eU iJ (ae 5)) (ae 5)) (af (ah dB (ah ar (ah ar (ae 1) ‹2›) ‹1›) (ah ar (ah ar (ae 2) ‹2›) ‹1›)) (af (ah ar (ah ar (ae 2) ‹2›) ‹0›) (af (ae 3) (aq))))))))))))
noncomputable def Hl:List PV->R PV:=aY 6 LG
noncomputable def zQ:FS:=aD (aX 4 (au bM (af (ae 0) (af (ae 1) (aq))))) (aD (aX 5 (au bM (af (ae 0) (af (ae 2) (aq))))) (aD (dR (au zk (af (ae 3) (aq)))) (aD (aX 6 (au sD (af (ae 0) (af (gm (af (ae 4) (af (ae 5) (aq)))) (aq))))) (aD (bO (aH (eU j2 (ae 6))) (aP (ae 6)) (aV)) (aD (aX 7 (je (ah bD (ah ar (ae 4) ‹0›) (fC (.str "endless"))) (ah bD (ah ar (ae 5) ‹0›) (fC (.str "endless"))))) (aD (bO (k8 (aH (ae 7)) (oE (aH (au cG (af (ae 4) (aq)))) (aH (au cG (af (ae 5) (aq)))))) (aP (ck (af (au qx (af (ae 0) (aq))) (af ‹1› (aq))))) (aV)) (aP (au Hl (af (ae 0) (af (ae 4) (af (ae 5) (af (ae 3) (aq)))))))))))))
noncomputable def z8:List PV->R PV:=aY 8 zQ
noncomputable def Hm:FS:=aD (aX 2 (ah fA (ah ar (ae 0) ‹0›) (ah dB (ah ar (ae 0) ‹1›) (ah js ‹2› (ae 1))))) (aD (aX 3 (au DH (af (ae 2) (aq)))) (aD (aX 4 (ah dB (ae 2) (ah js (ae 3) (ae 3)))) (aD (bO (aH (ah bD (ae 4) ‹0›)) (aP (ck (af (ae 3) (af ‹0› (aq))))) (aV)) (aP (ck (af (ae 3) (af (f9 (aH (ah Cj (ae 4) (ae 3))) ‹1› ‹3›) (aq))))))))
noncomputable def zR:List PV->R PV:=aY 5 Hm
noncomputable def P1:FS:=aD (aX 3 (ah oDiv (au vg (af (ah ar (ae 2) ‹0›) (af (ah ar (ae 2) ‹1›) (af ‹1› (aq))))) ‹2›)) (aD (aX 4 (au zR (af (ae 2) (af (au pq (af (ae 0) (af (ae 3) (aq)))) (aq))))) (aP (au xw (af (ae 0) (af (ae 1) (af (fC (.bl false)) (af (ae 3) (af (ae 4) (aq)))))))))
noncomputable def Hn:List PV->R PV:=aY 5 P1
noncomputable def sE:FS:=aD (aX 3 (au bM (af (ae 0) (af (ae 1) (aq))))) (aD (aX 4 (au zk (af (ae 2) (aq)))) (aD (aX 5 (au sD (af (ae 0) (af (gm (af (ae 3) (aq))) (aq))))) (aD (bO (aH (eU j2 (ae 5))) (aP (ae 5)) (aV)) (aD (bO (aH (au cG (af (ae 3) (aq)))) (aP (ck (af (ae 1) (af ‹0› (aq))))) (aV)) (aD (bO (aH (ah ar (ae 3) ‹1›)) (aP (ck (af (au qx (af (ae 0) (aq))) (af ‹1› (aq))))) (aV)) (aD (bO (aH (ah bD (ah ar (ae 3) ‹0›) (fC (.str "endless")))) (aP (ck (af (ae 1) (af ‹0› (aq))))) (aV)) (aP (au Hn (af (ae 0) (af (ae 4) (af (ah ar (ae 3) ‹2›) (aq))))))))))))
noncomputable def zb:List PV->R PV:=aY 6 sE
noncomputable def P4:FS:=aD (aX 2 (hU 3 (k9 (ae 0)) (d8) (ah ar (ae 3) ‹1›))) (aD (bO (aH (au jy (af (hU 3 (k9 (ae 0)) (d8) (au (rV cG) (af (ae 3) (aq)))) (aq)))) (aD (bO (ju (aH (au oW (af (ae 2) (aq))))) (aP (fC (.bl false))) (aV)) (bO (aH (au jy (af (ae 2) (aq)))) (aP (fC (.bl true))) (aV))) (aV)) (aP (ah bD (ae 1) (fC (.str "down")))))
noncomputable def Ho:List PV->R PV:=aY 3 P4
noncomputable def vm:FS:=aD (aX 3 (ah ar (ae 2) ‹2›)) (aX 1 (au xt (af (ae 1) (af (f9 (aH (ah ar (ae 2) ‹1›)) (ck (af (eU iJ (ah ar (ae 3) ‹0›)) (af (ah ar (ae 3) ‹1›) (aq)))) (ae 3)) (aq)))))
noncomputable def P5:FS:=aD (aX 1 (fC (0∣0))) (aD (nk 2 (k9 (ae 0)) (vm)) (aP (ae 1)))
noncomputable def Hq:List PV->R PV:=aY 4 P5
noncomputable def LH:FS:=aD (bO (oE (aH (au oW (af (ae 1) (aq)))) (ju (aH (au jy (af (ae 1) (aq)))))) (aP (ck (af (au qx (af (ae 0) (aq))) (af ‹1› (aq))))) (aV)) (aP (ck (af (au zq (af (ae 0) (af (au vh (af (ae 0) (aq))) (af (au jy (af (ae 1) (aq))) (aq))))) (af ‹0› (aq)))))
noncomputable def zS:List PV->R PV:=aY 2 LH
noncomputable def xA:FS:=aD (dR (au zt (af (ae 0) (aq)))) (aD (dR (au zk (af (ae 2) (aq)))) (aD (aX 3 (au sD (af (ae 0) (af (ae 1) (aq))))) (aD (bO (aH (eU j2 (ae 3))) (aP (ae 3)) (aV)) (aD (aX 4 (hU 6 (k9 (ae 1)) (aH (ah bD (ah ar (ae 6) ‹0›) (fC (.str "endless")))) (ah ar (ae 6) ‹1›))) (aD (bO (aH (ae 4)) (aP (au zS (af (ae 0) (af (ae 4) (aq))))) (aV)) (aD (aX 5 (au Hq (af (ae 1) (aq)))) (aD (bO (aH (ah bD (ae 5) (fC (0∣0)))) (aP (ck (af (au zq (af (ae 0) (af ‹0› (af (au Ho (af (ae 1) (af (ae 2) (aq)))) (aq))))) (af ‹0› (aq))))) (aV)) (aP (au zp (af (ae 0) (af (ah ar (ae 5) ‹0›) (af (ah ar (ae 5) ‹1›) (af ‹1› (af (ae 2) (aq)))))))))))))))
noncomputable def zc:List PV->R PV:=aY 6 xA
noncomputable def Hr:FS:=aP (au zc (af (ae 0) (af (gm (af (au bM (af (ae 0) (af (ae 1) (aq)))) (af (au bM (af (ae 0) (af (ae 2) (aq)))) (aq)))) (af (ae 3) (aq)))))
noncomputable def zj:List PV->R PV:=aY 4 Hr
noncomputable def Hs:FS:=aP (au zj (af (ae 0) (af (ae 1) (af (au ve (af (ae 0) (af (ae 2) (aq)))) (af (ae 3) (aq))))))
noncomputable def zm:List PV->R PV:=aY 4 Hs
noncomputable def LI:FS:=aP (au zc (af (ae 0) (af (gm (af (au z7 (af (ae 0) (af (ae 1) (af (ae 2) (aq))))) (aq))) (af (ae 3) (aq)))))
noncomputable def zv:List PV->R PV:=aY 4 LI
noncomputable def LJ:FS:=aP (au zc (af (ae 0) (af (gm (af (au z7 (af (ae 0) (af (ae 1) (af (ae 2) (aq))))) (af (au bM (af (ae 0) (af (ae 3) (aq)))) (aq)))) (af (ae 4) (aq)))))
noncomputable def fS:List PV->R PV:=aY 5 LJ
noncomputable def LK:FS:=aD (aX 2 (ah jt (ah ar (ae 0) ‹0›) ‹0›)) (aD (aX 3 (au xu (af (ae 1) (af (au qy (af (ah ar (ae 0) ‹0›) (af (ah ar (ae 0) ‹1›) (af ‹1› (af ‹0› (aq)))))) (af (ae 2) (aq)))))) (aP (f9 (aH (ae 2)) (eU iJ (ae 3)) (ae 3))))
noncomputable def DI:List PV->R PV:=aY 4 LK
noncomputable def P6:FS:=aP (au zp (af (ae 0) (af (ae 1) (af ‹0› (af ‹1› (af (ae 2) (aq)))))))
noncomputable def Hu:List PV->R PV:=aY 3 P6
noncomputable def qC:FS:=aD (bO (aH (ah gO (au ze (af (ae 0) (af (ae 1) (aq)))) (ck (af (fC (.str "small")) (af (fC (.str "plain")) (aq)))))) (aP (au zc (af (ae 0) (af (gm (af (au bM (af (ae 0) (af (ae 1) (aq)))) (aq))) (af (ae 2) (aq)))))) (aV)) (aD (aX 3 (au sy (af (ae 0) (af (ae 1) (aq))))) (aD (aX 4 (au DI (af (ae 3) (af (au zk (af (ae 2) (aq))) (aq))))) (aD (aX 5 (f9 (aH (ah bD (au zi (af (ae 4) (af ‹0› (aq)))) (ae 3))) ‹0› ‹16›)) (aD (bO (aH (ah bD (ae 4) ‹0›)) (aP (ck (af (au zN (af (ae 0) (af ‹0› (af (ae 1) (aq))))) (af (ae 5) (aq))))) (aV)) (aD (aX 6 (au Hu (af (ae 0) (af (ae 4) (af (ae 2) (aq)))))) (aP (ck (af (ah ar (ae 6) ‹0›) (af (ah Ci (ah ar (ae 6) ‹1›) (ae 5)) (aq))))))))))
noncomputable def z9:List PV->R PV:=aY 7 qC
noncomputable def zT:FS:=aP (au zc (af (ae 0) (af (eZ 3 (k9 (ae 1)) (d8) (jz bM (af (ae 0) (af (ae 3) (aq))))) (af (ae 2) (aq)))))
noncomputable def zo:List PV->R PV:=aY 3 zT
noncomputable def zU:FS:=aD (bO (aH (ah bD (ah oMod (ae 0) ‹2›) ‹1›)) (aX 1 (ah js (ae 1) (ae 2))) (aV)) (aD (aX 2 (ah js (ae 2) (ae 2))) (aX 0 (ah oDiv (ae 0) ‹2›)))
noncomputable def P7:FS:=aD (aX 1 ‹1›) (aD (aX 2 ‹10›) (aD (iS (aH (ah qi (ae 0) ‹0›)) (zU)) (aP (ae 1))))
noncomputable def DJ:List PV->R PV:=aY 3 P7
noncomputable def DK:FS:=aD (bO (aH (ah bD (ae 1) (fC (.str "none")))) (aP (au qx (af (ae 0) (aq)))) (aV)) (aD (bO (k8 (aH (ah bD (ae 1) (fC (.str "endless")))) (aH (ah bD (ae 1) (fC (.str "-endless"))))) (aP (au zq (af (ae 0) (af (au vh (af (ae 0) (aq))) (af (ah bD (ae 1) (fC (.str "-endless"))) (aq)))))) (aV)) (aP (fC .bf)))
noncomputable def sF:List PV->R PV:=aY 2 DK
noncomputable def DL:FS:=aD (bO (aH (ah jt (ae 2) ‹0›)) (aP (au zp (af (ae 0) (af (ae 1) (af ‹0› (af (au DJ (af (eU iJ (ae 2)) (aq))) (af (ae 3) (aq)))))))) (aV)) (aP (au zp (af (ae 0) (af (ah js (ae 1) (au DJ (af (ae 2) (aq)))) (af ‹0› (af ‹1› (af (ae 3) (aq))))))))
noncomputable def zV:List PV->R PV:=aY 4 DL
noncomputable def sG:FS:=aD (dR (au zt (af (ae 0) (aq)))) (aD (aX 3 (au sF (af (ae 0) (af (ae 1) (aq))))) (aD (bO (aH (eU j2 (ae 3))) (aD (dR (au zk (af (ae 2) (aq)))) (aP (ck (af (ae 3) (af ‹0› (aq)))))) (aV)) (aD (aX 4 (au zn (af (ae 1) (aq)))) (aD (bO (aH (ah bD (ah ar (ae 4) ‹1›) ‹0›)) (aD (dR (au zk (af (ae 2) (aq)))) (aP (ck (af (au zq (af (ae 0) (af ‹0› (af (ah ar (ae 4) ‹0›) (aq))))) (af ‹0› (aq)))))) (aV)) (aP (au zV (af (ae 0) (af (f9 (aH (ah ar (ae 4) ‹0›)) (eU iJ (ah ar (ae 4) ‹1›)) (ah ar (ae 4) ‹1›)) (af (ah ar (ae 4) ‹2›) (af (ae 2) (aq)))))))))))
noncomputable def z5:List PV->R PV:=aY 5 sG
noncomputable def P8:GS:=bS (j7 30 "raised" (bB 0) (jA Ci (dM 30 "raised" (bB 0)) (gP (ah ar (ae 1) ‹1›)))) (cR (gP (ah ar (ae 1) ‹0›)))
noncomputable def cH:List PV->aW->RS PV:=cO 2 P8
noncomputable def P9:GS:=j7 30 "raised" (bB 0) (gP ‹0›)
noncomputable def Hv:List PV->aW->RS PV:=cO 1 P9
noncomputable def LL:GS:=bS (j6 (gP (au zk (af (ae 1) (aq))))) (j7 30 "way" (bB 0) (gP (ae 1)))
noncomputable def xB:List PV->aW->RS PV:=cO 2 LL
noncomputable def Qa:GS:=cR (wZ (e6 Dx (aF (dM 30 "raised" (bB 0)) (bI))) (wZ (jA bD (dM 30 "raised" (bB 0)) (gP (ae 2))) (jA bD (dM 30 "way" (bB 0)) (gP (ae 1)))))
noncomputable def Hw:List PV->aW->RS PV:=cO 3 Qa
noncomputable def Qb:FS:=aD (aX 2 (au qy (af (ah ar (ae 0) ‹0›) (af (ah dB (ah ar (ae 0) ‹1›) (ah ar (ae 1) ‹1›)) (af (ah ar (ae 1) ‹0›) (af ‹0› (aq))))))) (aD (aX 3 (au xu (af (kJ 21) (af (ae 2) (af (fC (.bl false)) (aq)))))) (aP (au xt (af (ae 0) (af (au vf (af (au zi (af (eU iJ (ae 3)) (af ‹0› (aq)))) (af (ae 1) (aq)))) (aq))))))
noncomputable def Hx:List PV->R PV:=aY 4 Qb
noncomputable def LM:GS:=bS (j6 (gP (au zt (af (ae 1) (aq))))) (bS (j6 (gP (au zk (af (ae 2) (aq))))) (bS (j7 30 "width" (bB 0) (gP (ae 1))) (bS (j7 30 "way" (bB 0) (gP (ae 2))) (j7 30 "raised" (bB 0) (gP ‹0›)))))
noncomputable def sH:List PV->aW->RS PV:=cO 3 LM
noncomputable def Qc:GS:=bS (fQ 2 (gP (fC .bf))) (bS (fz (j6 (nL 30 sH [] (aF (gP (ae 0)) (aF (gP (ae 1)) (bI))))) [0,1,2,3,4,6] 0 3 2) (cR (gP (je (ij [0,1,2,3,4,6] 3 (ae 2)) (oC (ij [0,1,2,3,4,6] 2 (ae 2)))))))
noncomputable def Hy:List PV->aW->RS PV:=cO 4 Qc
noncomputable def LN:GS:=cR (de 30 "noted" cH (bB 0) (aF (e6 za (aF (dM 30 "width" (bB 0)) (aF (gP (ae 1)) (aF (gP (ae 2)) (bI))))) (bI)))
noncomputable def zW:List PV->aW->RS PV:=cO 3 LN
noncomputable def zx:FS:=aD (aX 3 (au bM (af (ae 0) (af (ae 1) (aq))))) (aD (aX 4 (au bM (af (ae 0) (af (ae 2) (aq))))) (aD (aX 5 (au sD (af (ae 0) (af (gm (af (ae 3) (af (ae 4) (aq)))) (aq))))) (aD (bO (aH (eU j2 (ae 5))) (aP (ae 5)) (aV)) (aD (bO (k8 (aH (ah bD (ah ar (ae 3) ‹0›) (fC (.str "endless")))) (aH (au cG (af (ae 4) (aq))))) (aP (ck (af (au qx (af (ae 0) (aq))) (af ‹1› (aq))))) (aV)) (aD (bO (aH (ah bD (ah ar (ae 4) ‹0›) (fC (.str "endless")))) (aP (ck (af (ae 1) (af ‹0› (aq))))) (aV)) (aD (aX 6 (au Hx (af (ah ar (ae 3) ‹2›) (af (ah ar (ae 4) ‹2›) (aq))))) (aD (bO (aH (ah bD (ah ar (ae 6) ‹0›) ‹0›)) (aP (ck (af (au zN (af (ae 0) (af ‹0› (af (ae 1) (aq))))) (af ‹0› (aq))))) (aV)) (aP (ck (af (au sA (af (ae 0) (af (f9 (aH (ah ar (ae 3) ‹1›)) (ck (af (eU iJ (ah ar (ae 6) ‹0›)) (af (ah ar (ae 6) ‹1›) (aq)))) (ae 6)) (aq)))) (af ‹0› (aq))))))))))))
noncomputable def z4:List PV->R PV:=aY 7 zx
noncomputable def LO:GS:=cR (de 30 "noted" cH (bB 0) (aF (e6 z4 (aF (dM 30 "width" (bB 0)) (aF (gP (ae 1)) (aF (gP (ae 2)) (bI))))) (bI)))
noncomputable def zX:List PV->aW->RS PV:=cO 3 LO
noncomputable def LP:GS:=cR (de 30 "noted" cH (bB 0) (aF (e6 zb (aF (dM 30 "width" (bB 0)) (aF (gP (ae 1)) (aF (dM 30 "way" (bB 0)) (bI))))) (bI)))
noncomputable def zY:List PV->aW->RS PV:=cO 2 LP
noncomputable def LQ:GS:=cR (de 30 "noted" cH (bB 0) (aF (e6 zj (aF (dM 30 "width" (bB 0)) (aF (gP (ae 1)) (aF (gP (ae 2)) (aF (dM 30 "way" (bB 0)) (bI)))))) (bI)))
noncomputable def zZ:List PV->aW->RS PV:=cO 3 LQ
noncomputable def LR:GS:=cR (de 30 "noted" cH (bB 0) (aF (e6 zv (aF (dM 30 "width" (bB 0)) (aF (gP (ae 1)) (aF (gP (ae 2)) (aF (dM 30 "way" (bB 0)) (bI)))))) (bI)))
noncomputable def Aa:List PV->aW->RS PV:=cO 3 LR
noncomputable def LS:GS:=cR (de 30 "noted" cH (bB 0) (aF (e6 z8 (aF (dM 30 "width" (bB 0)) (aF (gP (ae 1)) (aF (gP (ae 2)) (aF (dM 30 "way" (bB 0)) (bI)))))) (bI)))
noncomputable def Ab:List PV->aW->RS PV:=cO 3 LS
noncomputable def LU:GS:=cR (de 30 "noted" cH (bB 0) (aF (e6 z9 (aF (dM 30 "width" (bB 0)) (aF (gP (ae 1)) (aF (dM 30 "way" (bB 0)) (bI))))) (bI)))
noncomputable def Ac:List PV->aW->RS PV:=cO 2 LU
noncomputable def LV:GS:=cR (de 30 "noted" cH (bB 0) (aF (e6 fS (aF (dM 30 "width" (bB 0)) (aF (gP (ae 1)) (aF (gP (ae 2)) (aF (gP (ae 3)) (aF (dM 30 "way" (bB 0)) (bI))))))) (bI)))
noncomputable def Ad:List PV->aW->RS PV:=cO 4 LV
noncomputable def LW:GS:=cR (de 30 "noted" cH (bB 0) (aF (e6 zo (aF (dM 30 "width" (bB 0)) (aF (gP (ae 1)) (aF (dM 30 "way" (bB 0)) (bI))))) (bI)))
noncomputable def Ae:List PV->aW->RS PV:=cO 2 LW
noncomputable def LX:GS:=cR (de 30 "noted" cH (bB 0) (aF (e6 z5 (aF (dM 30 "width" (bB 0)) (aF (gP (ae 1)) (aF (dM 30 "way" (bB 0)) (bI))))) (bI)))
noncomputable def Af:List PV->aW->RS PV:=cO 2 LX
noncomputable def LY:GS:=cR (de 30 "noted" cH (bB 0) (aF (e6 zm (aF (dM 30 "width" (bB 0)) (aF (gP (ae 1)) (aF (gP (ae 2)) (aF (dM 30 "way" (bB 0)) (bI)))))) (bI)))
noncomputable def Ag:List PV->aW->RS PV:=cO 3 LY
noncomputable def zr:FS:=aD (bO (aH (ah bD (ae 2) ‹0›)) (aP (au zj (af (ae 0) (af (ah ar (ae 3) ‹0›) (af (ah ar (ae 3) ‹1›) (af (ae 1) (aq))))))) (aV)) (aD (bO (aH (ah bD (ae 2) ‹1›)) (aP (au zm (af (ae 0) (af (ah ar (ae 3) ‹0›) (af (ah ar (ae 3) ‹1›) (af (ae 1) (aq))))))) (aV)) (aD (bO (aH (ah bD (ae 2) ‹2›)) (aP (au zv (af (ae 0) (af (ah ar (ae 3) ‹0›) (af (ah ar (ae 3) ‹1›) (af (ae 1) (aq))))))) (aV)) (aD (bO (aH (ah bD (ae 2) ‹3›)) (aP (au z8 (af (ae 0) (af (ah ar (ae 3) ‹0›) (af (ah ar (ae 3) ‹1›) (af (ae 1) (aq))))))) (aV)) (aD (bO (aH (ah bD (ae 2) ‹4›)) (aP (au z4 (af (ae 0) (af (ah ar (ae 3) ‹0›) (af (ah ar (ae 3) ‹1›) (aq)))))) (aV)) (aD (bO (aH (ah bD (ae 2) ‹5›)) (aP (au zb (af (ae 0) (af (ah ar (ae 3) ‹0›) (af (ae 1) (aq)))))) (aV)) (aD (bO (aH (ah bD (ae 2) ‹6›)) (aP (au z9 (af (ae 0) (af (ah ar (ae 3) ‹0›) (af (ae 1) (aq)))))) (aV)) (aD (bO (aH (ah bD (ae 2) ‹7›)) (aP (au fS (af (ae 0) (af (ah ar (ae 3) ‹0›) (af (ah ar (ae 3) ‹1›) (af (ah ar (ae 3) ‹2›) (af (ae 1) (aq)))))))) (aV)) (aD (bO (aH (ah bD (ae 2) ‹8›)) (aP (au zo (af (ae 0) (af (nh (ae 3) (nc) (j3 (ah oMod (ah ar (ae 3) ‹2›) ‹4›))) (af (ae 1) (aq)))))) (aV)) (aD (bO (aH (ah bD (ae 2) ‹9›)) (aP (au z5 (af (ae 0) (af (ae 4) (af (ae 1) (aq)))))) (aV)) (aP (au za (af (ae 0) (af (ah ar (ae 3) ‹0›) (af (ah ar (ae 3) ‹1›) (aq)))))))))))))))
noncomputable def bT:List PV->R PV:=aY 5 zr
noncomputable def z6:GS:=bS (ff (iq (aH (ah bD (ae 1) ‹0›))) (cR (de 30 "plus" zZ (bB 0) (aF (gP (ah ar (ae 2) ‹0›)) (aF (gP (ah ar (ae 2) ‹1›)) (bI))))) (dX)) (bS (ff (iq (aH (ah bD (ae 1) ‹1›))) (cR (de 30 "minus" Ag (bB 0) (aF (gP (ah ar (ae 2) ‹0›)) (aF (gP (ah ar (ae 2) ‹1›)) (bI))))) (dX)) (bS (ff (iq (aH (ah bD (ae 1) ‹2›))) (cR (de 30 "times" Aa (bB 0) (aF (gP (ah ar (ae 2) ‹0›)) (aF (gP (ah ar (ae 2) ‹1›)) (bI))))) (dX)) (bS (ff (iq (aH (ah bD (ae 1) ‹3›))) (cR (de 30 "over" Ab (bB 0) (aF (gP (ah ar (ae 2) ‹0›)) (aF (gP (ah ar (ae 2) ‹1›)) (bI))))) (dX)) (bS (ff (iq (aH (ah bD (ae 1) ‹4›))) (cR (de 30 "left_of" zX (bB 0) (aF (gP (ah ar (ae 2) ‹0›)) (aF (gP (ah ar (ae 2) ‹1›)) (bI))))) (dX)) (bS (ff (iq (aH (ah bD (ae 1) ‹5›))) (cR (de 30 "root" zY (bB 0) (aF (gP (ah ar (ae 2) ‹0›)) (bI)))) (dX)) (bS (ff (iq (aH (ah bD (ae 1) ‹6›))) (cR (de 30 "whole" Ac (bB 0) (aF (gP (ah ar (ae 2) ‹0›)) (bI)))) (dX)) (bS (ff (iq (aH (ah bD (ae 1) ‹7›))) (cR (de 30 "fused" Ad (bB 0) (aF (gP (ah ar (ae 2) ‹0›)) (aF (gP (ah ar (ae 2) ‹1›)) (aF (gP (ah ar (ae 2) ‹2›)) (bI)))))) (dX)) (bS (ff (iq (aH (ah bD (ae 1) ‹8›))) (cR (de 30 "total" Ae (bB 0) (aF (gP (nh (ae 2) (nc) (j3 (ah oMod (ah ar (ae 2) ‹2›) ‹4›)))) (bI)))) (dX)) (bS (ff (iq (aH (ah bD (ae 1) ‹9›))) (cR (de 30 "read" Af (bB 0) (aF (gP (ae 3)) (bI)))) (dX)) (cR (de 30 "compared" zW (bB 0) (aF (gP (ah ar (ae 2) ‹0›)) (aF (gP (ah ar (ae 2) ‹1›)) (bI))))))))))))))
noncomputable def bw:List PV->aW->RS PV:=cO 4 z6
noncomputable def sI:GS:=bS (fQ 4 (gP (fC .bf))) (bS (fQ 5 (mq (au lU (af (ae 2) (aq))))) (bS (ff (iq (aH (ah bD (ae 3) ‹1›))) (kL (bB 5) (gP (ah oMod (ah ar (ae 2) ‹1›) (ah cV ‹1› (au wj (af (je (ah mC (ae 1) ‹5›) (ah mC (ae 1) ‹6›)) (aq)))))) (gP (ah dB (eU iJ ‹1›) (ah ar (ae 2) ‹0›)))) (dX)) (bS (ff (iq (oE (aH (ah bD (ae 3) ‹1›)) (aH (ah bD (ae 1) ‹8›)))) (kL (bB 5) (gP ‹2›) (gP ‹3›)) (dX)) (mO 5 (bS (fz (ff (iq (aH (ah bD (ae 3) ‹0›))) (j6 (de 30 "turn_to" xB (bB 0) (aF (gP (ah ar (gm (af (fC (.str "Even")) (af (fC (.str "")) (af (fC (.str "none")) (af (fC .bf) (af (fC (.str "inn")) (aq))))))) (ah oMod (ah ar (ae 2) ‹0›) ‹5›))) (bI)))) (j6 (gW bw (aF (bB 0) (aF (gP (ae 1)) (aF (bB 5) (aF (gP (ah ar (gm (af (fC (.str "1.")) (af (fC (.str "e1")) (af (fC (.str "")) (af (fC (.str "--1")) (af (fC (.str "1e1000")) (aq))))))) (ah oMod (ah ar (ae 2) ‹0›) ‹5›))) (bI)))))))) [0,1,2,3,4,6] 0 6 4) (bS (ff (iq (aH (ah bD (ae 3) ‹0›))) (cR (gP (je (ij [0,1,2,3,4,6] 3 (ae 4)) (oC (ij [0,1,2,3,4,6] 2 (ae 4)))))) (dX)) (bS (ff (iq (k8 (aH (ij [0,1,2,3,4,6] 4 (ae 4))) (aH (ij [0,1,2,3,4,6] 3 (ae 4))))) (cR (gP (fC (.bl false)))) (dX)) (cR (gP (je (ah bD (ij [0,1,2,3,4,6] 6 (ae 4)) (ah bD (ae 3) ‹2›)) (ah bD (ij [0,1,2,3,4,6] 2 (ae 4)) (ah bD (ae 3) ‹1›))))))))))))
noncomputable def zg:List PV->aW->RS PV:=cO 7 sI
noncomputable def sJ:GS:=bS (fQ 5 (gP (gm (af (fC (.str "even")) (af (fC (.str "away")) (af (fC (.str "in")) (af (fC (.str "up")) (af (fC (.str "down")) (aq))))))))) (bS (fQ 6 (gP (ah oMod (ae 4) ‹15›))) (bS (fQ 7 (gP (ah ar (gm (af (fC (.str "none")) (af (fC (.str "-endless")) (af (fC (.str "1e999")) (af (fC (.str "-0")) (af (fC (.str "0.1")) (af (fC (.str "-3e-999")) (af (fC (.str "7.5")) (aq))))))))) (ah oMod (ah ar (ae 3) ‹1›) ‹7›)))) (bS (ff (iq (aH (ah bD (ae 6) ‹11›))) (bS (kL (bB 2) (gP ‹0›) (gP (ah ar (ae 5) (ah oMod (ah oDiv (ae 4) ‹15›) ‹5›)))) (cR (ud (de 30 "turn_to" xB (bB 0) (aF (hV (bB 2) (gP ‹0›)) (bI)))))) (dX)) (bS (ff (iq (oE (aH (ah bD (ae 6) ‹12›)) (aH (ah bD (ah oMod (ah oDiv (ae 4) ‹15›) ‹4›) ‹0›)))) (bS (kL (bB 2) (gP ‹1›) (gP ‹0›)) (cR (ud (de 30 "wipe" Hv (bB 0) (bI))))) (dX)) (bS (ff (iq (aH (ah bD (ae 6) ‹12›))) (cR (gW zg (aF (bB 0) (aF (gP ‹0›) (aF (gP (ae 3)) (aF (gP ‹0›) (bI))))))) (dX)) (bS (ff (iq (aH (ah bD (ae 6) ‹13›))) (cR (gW zg (aF (bB 0) (aF (gP (ah ar (gm (af ‹0› (af ‹1› (af ‹2› (af ‹3› (af ‹4› (af ‹5› (af ‹6› (af ‹7› (af ‹8› (af ‹10› (aq)))))))))))) (ah oMod (ah oDiv (ae 4) ‹15›) ‹10›))) (aF (gP (ae 3)) (aF (gP ‹1›) (bI))))))) (dX)) (bS (ff (iq (aH (ah bD (ae 6) ‹14›))) (cR (gW zg (aF (bB 0) (aF (gP ‹9›) (aF (gP (ae 3)) (aF (gP ‹2›) (bI))))))) (dX)) (bS (fQ 8 (e6 bT (aF (gP (ae 1)) (aF (hV (bB 2) (gP ‹0›)) (aF (gP (ae 6)) (aF (gP (ae 3)) (aF (gP (ae 7)) (bI)))))))) (bS (fQ 9 (gP (au lU (af (ae 3) (aq))))) (bS (fQ 10 (gW bw (aF (bB 0) (aF (gP (ae 6)) (aF (gP (ae 9)) (aF (gP (ae 7)) (bI))))))) (bS (kL (bB 2) (gP ‹1›) (jA Ci (hV (bB 2) (gP ‹1›)) (gP (ah ar (ae 8) ‹1›)))) (bS (ff (iq (oE (aH (ah jt (ae 6) ‹10›)) (ju (aH (au Dx (af (ae 10) (aq))))))) (cR (gP (fC (.bl false)))) (dX)) (cR (gP (je (ah bD (ae 10) (ah ar (ae 8) ‹0›)) (ah bD (ae 9) (ae 3)))))))))))))))))
noncomputable def gu:List PV->aW->RS PV:=cO 11 sJ
noncomputable def zh:GS:=ff (nJ (ue (gW Hy (aF (gP (ae 2)) (aF (gP (ae 4)) (bI)))))) (cR (gP (fC (.bl false)))) (dX)
noncomputable def zw:GS:=ff (nJ (ue (gW Hw (aF (hV (bB 5) (gP (ae 11))) (aF (hV (hV (bB 6) (gP (ae 11))) (gP ‹0›)) (aF (hV (hV (bB 6) (gP (ae 11))) (gP ‹1›)) (bI))))))) (cR (gP (fC (.bl false)))) (dX)
noncomputable def xC:GS:=bS (fQ 7 (gP (gm (af (ah ar (ae 7) ‹1›) (af (ah ar (ae 7) ‹2›) (af (au Dz (af (ae 1) (af (ae 8) (aq)))) (aq))))))) (bS (fQ 9 (gP (ah oMod (ah js (ae 8) ‹414213562373095048801689›) (ah cV (ah AU ‹10› ‹24›) ‹7›)))) (bS (fQ 10 (gP (ah oMod (ae 9) ‹2›))) (bS (ff (nJ (ue (gW gu (aF (hV (bB 5) (gP (ae 10))) (aF (gP (ae 2)) (aF (hV (bB 6) (gP (ae 10))) (aF (gP (ae 7)) (aF (gP (ah oDiv (ae 9) ‹2›)) (bI))))))))) (cR (gP (fC (.bl false)))) (dX)) (ku 11 (rH (af ‹2› (aq))) (zw)))))
noncomputable def Qd:GS:=bS (fQ 1 (gP (au Hb (af (au zJ (af (ae 0) (af ‹0› (aq)))) (aq))))) (bS (fQ 2 (gP (au Dy (af (ah ar (ae 1) ‹0›) (af (ah ar (ae 1) ‹1›) (aq)))))) (bS (fQ 3 (gP (ah ar (gm (af (fC (.str "even")) (af (fC (.str "away")) (af (fC (.str "in")) (af (fC (.str "up")) (af (fC (.str "down")) (aq))))))) (ah oMod (au zJ (af (ae 0) (af ‹0› (aq)))) ‹5›)))) (bS (ku 4 (k9 (gm (af (ah cV (ae 3) (fC (.str "s"))) (af (fC .bf) (af (jx mM (ae 3) aq) (af (fC (.str "")) (aq))))))) (zh)) (bS (fQ 5 (qY (aF (nL 30 sH [] (aF (gP (ae 2)) (aF (gP (ae 3)) (bI)))) (aF (nL 30 sH [.str "even"] (aF (gP (ae 2)) (bI))) (bI))))) (bS (fQ 6 (qY (aF (qY (aF (gP (ae 3)) (aF (gP ‹0›) (bI)))) (aF (qY (aF (gP (fC (.str "even"))) (aF (gP ‹0›) (bI)))) (bI))))) (bS (fQ 7 (gP (gm (af ‹0› (af ‹1› (af ‹2› (aq))))))) (bS (ku 8 (k9 (nh (ae 0) (j3 ‹1›) (j3 ‹41›))) (xC)) (cR (gP (fC (.bl true)))))))))))
noncomputable def q_law_v92:List PV->aW->RS PV:=cO 12 Qd
theorem sL{ns:List Int}{i:Int}(h0:0<=i)(h:i<ns.length):ar (.lst (ns.map PV.int)) (.int i)=.ok (.int (ns.getD i.toNat 0)):=by
  refine lH h0 ?_;have hl:i.toNat<ns.length:=by omega
  rw[ZL,aaK,YV hl];rfl
theorem Vw(ns:List Int)(k:Int)(hk:0<=k):zJ [.lst (ns.map PV.int),.int k]=.ok (.int (ns.getD k.toNat 0)):=by
  by_cases h:k<(ns.length:Int)
  . dsimp![zJ,Lr,Zi,h,sL hk h]
  . have e:ns.getD k.toNat 0=0:=by
      rw[aaK,aa7 (by omega)];rfl
    dsimp![zJ,Lr,Zi,h,e]
theorem Qe(n:Int):Dx [.int n]=.ok (.bl true):=by dsimp![Dx,Pz]
theorem mem_range{x:PV}{lo hi st:Int}(hs:0<st)(h:x∈fG lo hi st):∃ i,x=.int i/\lo<=i/\i<hi:=by
  unfold fG at h;rw[ZJ]at h;obtain⟨k,hk,rfl⟩:=h;rw[aax]at hk;unfold j9 at hk;rw[Yy hs]at hk;refine⟨_,rfl,?_,?_⟩
  . have:=Zg (Int.natCast_nonneg k) (YF hs);omega
  . by_cases hl:lo<hi
    . rw[Yy hl]at hk;have h1:(k:Int)<=(hi - lo - 1)/st:=by
        have:0<=(hi - lo - 1)/st:=Zj (by omega) (by omega);omega
      have h2:=YJ h1 (YF hs);have h3:(hi - lo - 1)/st*st<=hi - lo - 1:=Int.ediv_mul_le _ (by omega)
      omega
    . rw[Yx hl]at hk;omega
theorem DM(k:Int):zi [.int 0,.int k]=.ok (0∣0):=by dsimp![zi,Lw]
theorem Hz{n:Int}(k:Int)(h:n≠0):zi [.int n,.int k]=.ok (.tup [.int (n/p2 (tz n)),.int (k+tz n)]):=by
  have h2:pT (tz n):=(iC h).1;have e:(nb (Builtin.bitAnd n (-n)):Int) - 1=tz n:=rfl
  dsimp![zi,Lw,h,e,h2]
theorem Oe{n:Int}(h:n≠0):tz n<=nb n:=by
  obtain⟨h1,h2,h3⟩:=iC h;have h4:n/p2 (tz n)≠0:=by intro z;rw[z]at h2;omega
  have:=sk h4 h1;rw[h3]at this;omega
theorem LZ{n:Int}(h:n%2=1):tz n=0:=by
  have:=vP (a:=n) (t:=0) h (by decide);rw[xj,Zp]at this;exact this
def Wd(e f:Int):Prop:=2<=e/\e<=11/\1<=f/\f<=60
theorem g5{b:Int}(h0:0<=b)(h:b<=1000):gM 1 b:=eO (n:=1) h0 (by decide) (by omega)
theorem HA{x lo hi:Int}(h0:lo<=x)(h1:x<=hi):pj [.int x,.int lo,.int hi]=.ok (.bl true):=by
  dsimp![pj,G9,vc,Dw,h0,h1]
theorem Qf(h:Wd e f):Dy [.int e,.int f]=.ok (e∣f):=by
  obtain⟨h1,h2,h3,h4⟩:=h;dsimp![Dy,PA,HA h1 h2,HA h3 h4]
theorem cast2:((2:Nat):Int)=2:=rfl
theorem lJ(h:Wd e f):zt [e∣f]=.ok .bf:=by
  dsimp![zt,PB,cast2,Qf h,Y7,Zw,YX,Y2]
theorem Qg(h:Wd e f):Ha [e∣f]=.ok (.int (p2 (1+e+f))):=by
  have:=lJ h;obtain⟨h1,h2,h3,h4⟩:=h;dsimp![Ha,PC,this,g5 (b:=1+e+f) (by omega) (by omega),Y1]
theorem L5(h:Wd e f):zK [e∣f]=.ok (.int (p2 (e - 1) - 1)):=by
  have:=lJ h;obtain⟨h1,h2,h3,h4⟩:=h;dsimp![zK,PD,this,g5 (b:=e - 1) (by omega) (by omega),Y1]
theorem DN(h:Wd e f):xq [e∣f]=.ok (.int (1 - (p2 (e - 1) - 1) - f)):=by
  dsimp![xq,PF,L5 h]
theorem Ah{c:Int}(h0:0<=c)(h:c<=1000):so [.int c]=.ok (.int (p2 c - 1)):=by
  dsimp![so,PG,g5 h0 h,Y1]
theorem HB{e f w:Int}(h:Wd e f)(h0:0<=w)(h1:w<p2 (1+e+f)):sr [e∣f,.int w]=.ok .bf:=by
  dsimp![sr,Lu,Qg h,HA h0 (show w<=p2 (1+e+f) - 1 by omega)]
theorem L6{x c:Int}(hc:0<=c)(Gp:c<=1000)(h0:0<=x)(h1:x<p2 c):zL [.int x,.int c]=.ok .bf:=by
  dsimp![zL,PI,Ah hc Gp,HA h0 (show x<=p2 c - 1 by omega)]
theorem Qh{e f s x y:Int}(h:Wd e f)(s0:0<=s)(s1:s<2)(x0:0<=x)(x1:x<p2 e)(y0:0<=y)(y1:y<p2 f) :
    DA [e∣f,.int s,.int x,.int y]=.ok (.int (s*p2 (e+f)+x*p2 f+y)):=by
  have a:=lJ h;obtain⟨h1,h2,h3,h4⟩:=h;have b:=L6 (x:=s) (c:=1) (by decide) (by decide) s0 (by rw[Bn];exact s1)
  have c:=L6 (by omega) (by omega) x0 x1;have d:=L6 (by omega) (by omega) y0 y1
  have bx:nb x<=11:=eR (by
    have:=fh (a:=e) (b:=11) (by omega) (by omega);have Vx:p2 11=2048:=by decide
    omega)
  have o1:gM s (e+f):=eO (n:=10) (by omega) (eR (by omega)) (by omega);have o2:gM x f:=eO (n:=11) (by omega) bx (by omega)
  dsimp![DA,PJ,a,b,c,d,o1,o2]
theorem and_ones{x c:Int}(h0:0<=x)(hc:0<=c):Builtin.bitAnd x (p2 c - 1)=x%p2 c:=by
  have hp:=aQ c;unfold Builtin.bitAnd;rw[YL h0,YL (show 0<=p2 c - 1 by omega)];show(((x.toNat &&& (p2 c - 1).toNat:Nat)):Int)=_
  have e:(p2 c - 1).toNat=2 ^ c.toNat - 1:=by
    have e1:p2 c=((2 ^ c.toNat:Nat):Int):=by show(2:Int) ^ c.toNat=_;push_cast;rfl
    rw[e1];omega
  rw[e,Nat.and_two_pow_sub_one_eq_mod];have e1:p2 c=((2 ^ c.toNat:Nat):Int):=by show(2:Int) ^ c.toNat=_;push_cast;rfl
  rw[e1]
  push_cast
  rw[aby h0]
theorem L7{e f w:Int}(h:Wd e f)(h0:0<=w)(h1:w<p2 (1+e+f)) :
    pk [e∣f,.int w]=.ok (.tup [.int (w/p2 (e+f)),.int (w/p2 f%p2 e),.int (w%p2 f)]):=by
  have a:=HB h h0 h1;obtain⟨g1,g2,g3,g4⟩:=h;have o1:pT (e+f):=by show 0<=e+f;omega
  have o2:pT f:=by show 0<=f;omega
  have hp:=aQ f;have z:0<=w/p2 f:=Zj h0 (by omega)
  dsimp![pk,DB,a,o1,o2,Ah (show 0<=e by omega) (by omega),Ah (show 0<=f by omega) (by omega),and_ones z (show 0<=e by omega),and_ones h0 (show 0<=f by omega)]
theorem parts{e f w:Int}(h:Wd e f)(h0:0<=w)(h1:w<p2 (1+e+f)):∃ s x y,0<=s/\s<2/\0<=x/\x<p2 e/\0<=y/\y<p2 f/\w=(s*p2 e+x)*p2 f+y/\w/p2 (e+f)=s/\w/p2 f=s*p2 e+x/\w/p2 f%p2 e=x/\w%p2 f=y:=by
  obtain⟨g1,g2,g3,g4⟩:=h;have pf:=aQ f
  have pe:=aQ e;have e1:p2 (e+f)=p2 f*p2 e:=by rw[ab5,cF (by omega) (by omega)]
  have e2:p2 (1+e+f)=2*(p2 f*p2 e):=by rw[<- e1,<- dD (by omega)];congr 1;omega
  have d1:=Zd w (p2 f);have d2:=Zd (w/p2 f) (p2 e)
  have d3:w/p2 (e+f)=w/p2 f/p2 e:=by rw[e1,Int.ediv_ediv_of_nonneg (by omega)]
  have z:0<=w/p2 f:=Zj h0 (by omega);refine⟨w/p2 f/p2 e,w/p2 f%p2 e,w%p2 f,Zj z (by omega),?_,Zf _ (by omega),Y9 _ pe,Zf _ (by omega),Y9 _ pf,?_,d3,?_,rfl,rfl⟩
  . rw[<- d3,e1];refine ZF (ZU pf pe) (by rw[<- e2];exact h1)
  . rw[YI (_/p2 e),d2,YI (w/p2 f)];omega
  . rw[YI (_/p2 e),d2]
theorem pick{l:List Int}{i b:Int}(h0:0<=i)(h1:i<l.length)(hb:∀ x∈l,0<=x/\x<b):∃ x,ar (.lst (l.map PV.int)) (.int i)=.ok (.int x)/\0<=x/\x<b:=by
  refine⟨_,sL h0 h1,?_⟩;rw[aaK,YV (by omega)];exact hb _ (ab1 _)
theorem Vy(c:Int):∃ e f,Hb [.int c]=.ok (e∣f)/\Wd e f:=by
  refine⟨2+c*48271%999983%10,1+c*48271%999983/10%60,?_,by unfold Wd;omega⟩;dsimp![Hb,PH]
theorem gh(h:Wd e f):4<=p2 e/\2<=p2 f/\p2 f=2*p2 (f - 1)/\p2 (e+f)=p2 e*p2 f/\p2 (1+e+f)=2*p2 (e+f)/\nb (p2 e)<=12/\nb (p2 f)<=61/\nb (p2 (e+f))<=72/\nb (p2 (1+e+f))<=73/\1<=p2 (f - 1)/\p2 e<=2048:=by
  obtain⟨g1,g2,g3,g4⟩:=h;have e4:p2 2=4:=by decide
  have a:=fh (a:=2) (b:=e) (by decide) g1;have b:=fh (a:=1) (b:=f) (by decide) g3
  have Vx:p2 11=2048:=by decide
  have c:=fh (a:=e) (b:=11) (by omega) g2;rw[Bn]at b;refine⟨by omega,b,?_,cF (by omega) (by omega),?_,?_,?_,?_,?_,aQ _,by omega⟩
  . rw[<- dD (by omega)];congr 1;omega
  . rw[<- dD (by omega)];congr 1;omega
  all_goals rw[lZ (by omega)];omega
theorem named{P F H S T:Int}(p3:2<=F)(p4:F=2*H)(p7:1<=H)(m1:T=S+F)(m3:3*F<=S):∀ x∈[0,1,F - 1,F,S - 1,S,S+1,S+H],0<=x/\x<T:=by
  simp only[List.forall_mem_cons];exact⟨⟨by omega,by omega⟩,⟨by omega,by omega⟩,⟨by omega,by omega⟩,⟨by omega,by omega⟩,⟨by omega,by omega⟩,⟨by omega,by omega⟩,⟨by omega,by omega⟩,⟨by omega,by omega⟩,fun x h=>absurd h List.not_mem_nil⟩
theorem half{M T r:Int}(h:M=2*T)(h0:0<=T):0<=r%2*(M/2)/\r%2*(M/2)<=T:=by
  have e:M/2=T:=by omega
  rw[e];have hh:r%2=0\/r%2=1:=by omega
  rcases hh with hh | hh<;>rw[hh]<;>omega
theorem q5(h:Wd e f):p2 (e+f)=(p2 e - 1)*p2 f+p2 f/\3*p2 f<=(p2 e - 1)*p2 f:=by
  obtain⟨p1,p3,p4,p5,p6,b1,b2,b3,b4,p7,p8⟩:=gh h;rw[p5];exact⟨by rw[aab];omega,YJ (by omega) (by omega)⟩
theorem Se(hc:nb c<=1048576):fL c 618033988749894848204587:=ir (n:=200) hc (eR (by decide)) (by decide)
theorem Vz(h:Wd e f)(hc:nb c<=1048576):∃ w,Dz [e∣f,.int c]=.ok (.int w)/\0<=w/\w<p2 (1+e+f):=by
  obtain⟨p1,p3,p4,p5,p6,b1,b2,b3,b4,p7,p8⟩:=gh h;obtain⟨m1,m3⟩:=q5 h;obtain⟨g1,g2,g3,g4⟩:=h;have hm:=Se hc
  have o1:=g5 (b:=1+e+f) (by omega) (by omega);have o2:=g5 (b:=e) (by omega) (by omega)
  have o3:=g5 (b:=f) (by omega) (by omega);have o4:=g5 (b:=f - 1) (by omega) (by omega)
  have o5:gM (p2 e - 1) f:=eO (n:=12) (by omega) (eR (by omega)) (by omega);have o6:j8 (p2 (1+e+f)):=jS (aQ _) b4 (by decide)
  have o7:jc (p2 (1+e+f)):=aQ _;have xD:0<=c*618033988749894848204587%1000000000000000000000007:=Zf _ (by decide)
  generalize hr:c*618033988749894848204587%1000000000000000000000007=r at xD;have o8:fL (r%2) (p2 (1+e+f)/2):=mR (by omega) (by omega)
  have w0:0<=r%p2 (1+e+f):=Zf _ (by have:=aQ (1+e+f);omega)
  have w1:r%p2 (1+e+f)<p2 (1+e+f):=Y9 _ (aQ _);generalize hS:(p2 e - 1)*p2 f=S at m1 m3;have k0:0<=r/p2 (1+e+f)%16:=by omega
  generalize hk:r/p2 (1+e+f)%16=k at k0;by_cases h8:k<8
  . obtain⟨x,ex,x0,x1⟩:=pick (l:=[0,1,p2 f - 1,p2 f,S - 1,S,S+1,S+p2 (f - 1)]) (i:=k) k0 h8 (named (P:=0) p3 p4 p7 m1 m3);simp only[Zn,abg]at ex;have hz:=half (r:=r) p6 (by omega)
    refine⟨x+r%2*(p2 (1+e+f)/2),?_,by omega,by omega⟩;dsimp![Dz,Ls,Y1,o1,o2,o3,o4,o5,o6,o7,o8,hm,hr,hk,h8,hS,ex]
  . refine⟨r%p2 (1+e+f),?_,w0,w1⟩;dsimp![Dz,Ls,Y1,o1,o2,o3,o4,o5,o6,o7,o8,hm,hr,hk,h8,hS]
theorem cg(s:Str):(s == s)=true:=aa3 s
noncomputable def l5(e f x y:Int):String:=if x=0 then (if y=0 then "nought" else "small") else if x<p2 e - 1 then "plain" else if y=0 then "endless" else if p2 (f - 1)<=y then "still" else "loud"
theorem Qi(h:Wd e f):DC [e∣f]=.ok (.int (p2 (f - 1))):=by
  obtain⟨g1,g2,g3,g4⟩:=h;dsimp![DC,PK,Y1,g5 (b:=f - 1) (by omega) (by omega)]
theorem Qj{e f w:Int}(h:Wd e f)(h0:0<=w)(h1:w<p2 (1+e+f)):ze [e∣f,.int w]=.ok (.str (l5 e f (w/p2 f%p2 e) (w%p2 f))):=by
  have a:=L7 h h0 h1;have b:=Qi h
  have c:=Ah (c:=e) (by have:=h.1;omega) (by have:=h.2.1;omega);generalize w/p2 f%p2 e=x at *;generalize w%p2 f=y at *;by_cases k1:x=0
  . by_cases k2:y=0<;>dsimp![ze,vd,l5,a,b,c,k1,k2,Y4,Y2]
  . by_cases k3:x<p2 e - 1
    . dsimp![ze,vd,l5,a,b,c,k1,k3,Y4,Y2]
    . by_cases k2:y=0
      . dsimp![ze,vd,l5,a,b,c,k1,k2,k3,Y4,Y2]
      . by_cases k4:p2 (f - 1)<=y<;>dsimp![ze,vd,l5,a,b,c,k1,k2,k3,k4,Y4,Y2]
theorem HC{r n:Nat}(h:r<2 ^ n)(i:Nat):(2 ^ n+r).testBit i=(r.testBit i||decide (n=i)):=by
  by_cases h1:n=i
  . subst h1;rw[Nat.testBit_two_pow_add_eq,aav h,YL rfl];rfl
  . rw[YG h1,abG];by_cases h2:i<n
    . rw[Nat.testBit_two_pow_add_gt h2]
    . have a:r<2 ^ i:=YY h (abj (by decide) (by omega));have b:2 ^ n+r<2 ^ i:=by
        have:2 ^ (n+1)<=2 ^ i:=abj (by decide) (by omega);rw[ab3]at this;omega
      rw[aav a,aav b]
theorem HD{r n:Nat}(h:r<2 ^ n):r ||| 2 ^ n=2 ^ n+r:=by
  apply aak;intro i;rw[Nat.testBit_or,abz,HC h]
theorem Of{r n:Nat}(h:r<2 ^ n):(2 ^ n+r) ||| 2 ^ n=2 ^ n+r:=by
  rw[<- HD h,Nat.or_assoc,Nat.or_self]
theorem L8{r n:Nat}(h:r<2 ^ n):r &&& 2 ^ n=0:=by
  apply aak;intro i;rw[aaN,abz,Nat.zero_testBit];by_cases h1:n=i
  . subst h1;rw[aav h];rfl
  . rw[YG h1,aaV]
theorem L9{r n:Nat}(h:r<2 ^ n):(2 ^ n+r) &&& 2 ^ n=2 ^ n:=by
  apply aak;intro i;rw[aaN,abz,HC h];by_cases h1:n=i
  . rw[YL h1,adC,Bool.and_true]
  . rw[YG h1,aaV]
theorem Ai(c:Int):p2 c=((2 ^ c.toNat:Nat):Int):=by show(2:Int) ^ c.toNat=_;push_cast;rfl
theorem Fp{x y:Int}(hx:0<=x)(hy:0<=y):Builtin.bitOr x y=((x.toNat ||| y.toNat:Nat):Int):=by
  unfold Builtin.bitOr Builtin.bitAnd;have h1:¬ 0<=Builtin.bitNot x:=by unfold Builtin.bitNot;omega
  have h2:¬ 0<=Builtin.bitNot y:=by unfold Builtin.bitNot;omega
  rw[YG h1,YG h2];show Builtin.bitNot (Builtin.bitNot (((Builtin.bitNot (Builtin.bitNot x)).toNat ||| (Builtin.bitNot (Builtin.bitNot y)).toNat:Nat):Int))=_
  have nn:∀ z,Builtin.bitNot (Builtin.bitNot z)=z:=fun z=>by unfold Builtin.bitNot;omega
  rw[nn,nn,nn]
theorem Aj{w c:Int}(h0:0<=w)(h1:w<2*p2 c):Builtin.bitAnd w (p2 c)=w/p2 c*p2 c:=by
  have hp:=aQ c;unfold Builtin.bitAnd;rw[YL h0,YL (YF hp)];show(((w.toNat &&& (p2 c).toNat:Nat)):Int)=_
  rw[Ai]at *;generalize c.toNat=n at *;obtain⟨m,rfl⟩:∃ m:Nat,w=m:=⟨w.toNat,by omega⟩;rw[Z5,Z5];by_cases h:m<2 ^ n
  . rw[L8 h,Za (by omega) (by omega),Zl];rfl
  . obtain⟨r,rfl⟩:∃ r,m=2 ^ n+r:=⟨m - 2 ^ n,by omega⟩;rw[L9 (by omega)];have e:((2 ^ n+r:Nat):Int)=(r:Int)+1*((2 ^ n:Nat):Int):=by omega
    rw[e,aac _ _ (by omega),Za (by omega) (by omega)];omega
theorem Jg{w c:Int}(h0:0<=w)(h1:w<2*p2 c):Builtin.bitXor w (p2 c)=(w+p2 c)%(2*p2 c):=by
  have hp:=aQ c;unfold Builtin.bitXor;rw[Fp h0 (YF hp),Aj h0 h1];clear hp;rw[Ai]at *;have hp:0<2 ^ c.toNat:=aag _
  generalize c.toNat=n at *;obtain⟨m,rfl⟩:∃ m:Nat,w=m:=⟨w.toNat,by omega⟩;rw[Z5,Z5];by_cases h:m<2 ^ n
  . rw[HD h,Zz (by omega) (by omega),Za (by omega) (by omega),Zl];omega
  . obtain⟨r,rfl⟩:∃ r,m=2 ^ n+r:=⟨m - 2 ^ n,by omega⟩;rw[Of (by omega)];have e:(((2 ^ n+r:Nat):Int)+((2 ^ n:Nat):Int))=(r:Int)+1*(2*((2 ^ n:Nat):Int)):=by omega
    have e':((2 ^ n+r:Nat):Int)/((2 ^ n:Nat):Int)=1:=by
      have:((2 ^ n+r:Nat):Int)=(r:Int)+1*((2 ^ n:Nat):Int):=by omega
      rw[this,aac _ _ (by omega),Za (by omega) (by omega)];rfl
    rw[e,ZT,Zz (by omega) (by omega),e'];omega
theorem Ma(h:Wd e f):zM [e∣f]=.ok (.int (p2 (e+f))):=by
  obtain⟨g1,g2,g3,g4⟩:=h;dsimp![zM,PM,Y1,g5 (b:=e+f) (by omega) (by omega)]
theorem Qk{e f w:Int}(h:Wd e f)(h0:0<=w)(h1:w<p2 (1+e+f)):ve [e∣f,.int w]=.ok (.int ((w+p2 (e+f))%(2*p2 (e+f)))):=by
  have a:=HB h h0 h1;have b:=Ma h
  obtain⟨p1,p3,p4,p5,p6,_⟩:=gh h;rw[p6]at h1;dsimp![ve,Lv,a,b,Jg h0 h1]
theorem Ql{e f w:Int}(h:Wd e f)(h0:0<=w)(h1:w<p2 (1+e+f)):xr [e∣f,.int w]=.ok (.int (w%p2 (e+f))):=by
  have a:=HB h h0 h1;have b:=Ma h
  dsimp![xr,PN,a,b,and_ones h0 (show 0<=e+f by have:=h.1;have:=h.2.2.1;omega)]
theorem VA{e f w o:Int}(h:Wd e f)(h0:0<=w)(h1:w<p2 (1+e+f))(k0:0<=o)(k1:o<p2 (1+e+f)):zN [e∣f,.int w,.int o]=.ok (.int (w%p2 (e+f)+o/p2 (e+f)*p2 (e+f))):=by
  have a:=HB h k0 k1;have b:=Ma h
  have c:=Ql h h0 h1;obtain⟨p1,p3,p4,p5,p6,_⟩:=gh h;rw[p6]at k1;dsimp![zN,PO,a,b,c,Aj k0 k1]
theorem DO:gO (.str "nought") (.tup [.str "nought",.str "small",.str "plain"])=.ok (.bl false):=rfl
theorem Fq:gO (.str "small") (.tup [.str "nought",.str "small",.str "plain"])=.ok (.bl false):=rfl
theorem Fs:gO (.str "plain") (.tup [.str "nought",.str "small",.str "plain"])=.ok (.bl false):=rfl
theorem Ft:(Str.ofString "nought" == Str.ofString "plain")=false:=rfl
theorem Jh:(Str.ofString "small" == Str.ofString "plain")=false:=rfl
noncomputable def e8(f x y:Int):Int:=if x=0 then y else y+p2 f
noncomputable def nN(e f x:Int):Int:=if x=0 then 1 - (p2 (e - 1) - 1) - f else 1 - (p2 (e - 1) - 1) - f+x - 1
theorem VB{e f w:Int}(h:Wd e f)(h0:0<=w)(h1:w<p2 (1+e+f))(hx:w/p2 f%p2 e<p2 e - 1) :
    sy [e∣f,.int w]=zi [.int (if w/p2 (e+f)=1 then -(e8 f (w/p2 f%p2 e) (w%p2 f)) else e8 f (w/p2 f%p2 e) (w%p2 f)),.int (nN e f (w/p2 f%p2 e))]:=by
  have a:=L7 h h0 h1;have k:=Qj h h0 h1
  have l:=DN h;have o:=g5 (b:=f) (by have:=h.2.2.1;omega) (by have:=h.2.2.2;omega)
  generalize w/p2 f%p2 e=x at *;generalize w%p2 f=y at *;generalize w/p2 (e+f)=s at *;have ex:∀ a b,∃ n m,zi [.int a,.int b]=.ok (n∣m):=fun a b=>by
    by_cases z:a=0
    . subst z;exact⟨_,_,DM b⟩
    . exact⟨_,_,Hz b z⟩
  have sg:∀ n:Int,(if s=1 then R.ok (PV.int (-n)) else R.ok (PV.int n))=R.ok (PV.int (if s=1 then -n else n)):=fun n=>by split<;>rfl
  unfold e8 nN;unfold l5 at k;by_cases k1:x=0
  . obtain⟨n,m,en⟩:=ex (if s=1 then -y else y) (1 - (p2 (e - 1) - 1) - f);by_cases k2:y=0
    . simp only[k1,k2,Y4]at k a en;by_cases ks:s=1<;>simp only[ks,Y4,Y2]at en<;>dsimp![sy,Hh,Y1,a,k,l,o,k1,k2,ks,DO,Ft,Y4,Y2,en]
    . simp only[k1,k2,Y4,Y2]at k a;by_cases ks:s=1<;>simp only[ks,Y4,Y2]at en<;>dsimp![sy,Hh,Y1,a,k,l,o,k1,k2,ks,Fq,Jh,Y4,Y2,en]
  . obtain⟨n,m,en⟩:=ex (if s=1 then -(y+p2 f) else y+p2 f) (1 - (p2 (e - 1) - 1) - f+x - 1);simp only[k1,hx,Y4,Y2]at k a;by_cases ks:s=1<;>simp only[ks,Y4,Y2]at en<;>dsimp![sy,Hh,Y1,a,k,l,o,k1,ks,Fs,cg,Y4,Y2,en]
theorem HE{v:PV} (h:Wd e f) (av:cI (some v)=.ok v) (hv:pj [v,.int 0,.int (p2 (1+e+f) - 1)]=.ok (.bl false)):sr [e∣f,v]=.exc 2:=by
  dsimp![sr,Lu,Qg h,av,hv]
theorem clip{q d T:Int}(h0:0<=T)(h1:q+d<T)(h2:0<T):0<=(if 0>q+d then (0:Int) else q+d)/\(if 0>q+d then (0:Int) else q+d)<T:=by split<;>omega
theorem min_le{k l:Int}:(if l<k then l else k)<=k/\(if l<k then l else k)<=l/\((if l<k then l else k)=k\/(if l<k then l else k)=l):=by split<;>omega
noncomputable def ab(n:Int):Int:=if n<0 then -n else n
theorem kQ{a b:Int}(h0:0<=a)(h:a<=b):nb a<=nb b:=eR (by have:=nM (a:=b) (YD _);omega)
theorem uf(n:Int):(if n<0 then -n else n)=ab n:=rfl
theorem Bp(n:Int):0<=ab n:=by unfold ab;split<;>omega
theorem xE{n:Int}(h:n≠0):0<ab n:=by unfold ab;split<;>omega
theorem Ji(n:Int):ab (-n)=ab n:=by unfold ab;split<;>split<;>omega
theorem Bq(n:Int):nb (ab n)=nb n:=by unfold ab;split<;>simp only[gX]
theorem pW{n:Int}(h:0<=n):ab n=n:=by unfold ab;rw[Yx (by omega)]
theorem di{a:Int}(h:a<=0):p2 a=1:=by
  show(2:Int) ^ a.toNat=1;rw[ado h];rfl
theorem Qm(n k d:Int)(h1:nb n<=100000)(h2:nb d<=100000)(h3 : -100000<=k)(h4:k<=100000):zO [.int n,.int k,.int d]=.ok (.tup [.int (n*p2 k),.int (d*p2 (-k))]):=by
  by_cases h:0<=k
  . have o:gM n k:=eO h h1 (by omega);have e:d*p2 (-k)=d:=by rw[di (by omega),Zp]
    dsimp![zO,Ly,h,o,e]
  . have o:gM d (-k):=eO (by omega) h2 (by omega);have e:n*p2 k=n:=by rw[di (by omega),Zp]
    dsimp![zO,Ly,h,o,e]
def Ht(s d e:Int):Prop:=d*p2 e<=s*p2 (-e)/\s*p2 (-e)<2*(d*p2 e)
theorem nO{e f:Int}(h:e<=f):p2 f*p2 (-e)=p2 e*p2 (-f)*p2 (f - e):=by
  by_cases h1:0<=e
  . rw[di (a:=-e) (by omega),di (a:=-f) (by omega),Zp,Zp,<- cF h1 (by omega)];congr 1;omega
  . by_cases h2:0<=f
    . rw[di (a:=e) (by omega),di (a:=-f) (by omega),Y1,Y1,<- cF h2 (by omega)];congr 1
    . rw[di (a:=e) (by omega),di (a:=f) (by omega),Y1,Y1,<- cF (by omega) (by omega)];congr 1;omega
theorem sM{j:Int}(h:1<=j):2<=p2 j:=by
  have:=fh (a:=1) (b:=j) (by decide) h;rw[Bn]at this;exact this
theorem HF{s d e f:Int}(hd:0<d)(he:Ht s d e)(hf:Ht s d f):¬ e<f:=by
  intro h;have c:=nO (e:=e) (f:=f) (by omega)
  have c2:=sM (j:=f - e) (by omega);have pe:=aQ e
  have Yj:=aQ (-e);have VC:=aQ (-f)
  have a1:s*p2 (-e)*p2 (-f)<2*(d*p2 e)*p2 (-f):=YT he.2 VC;have a2:d*p2 f*p2 (-e)<=s*p2 (-f)*p2 (-e):=YJ hf.1 (by omega)
  have a3:d*p2 f*p2 (-e)=d*(p2 e*p2 (-f))*p2 (f - e):=by rw[YB,c];exact(YB _ _ _).symm
  have a4:s*p2 (-f)*p2 (-e)=s*p2 (-e)*p2 (-f):=by rw[YB,YB,YI (p2 (-f))]
  have a5:2*(d*p2 e)*p2 (-f)=d*(p2 e*p2 (-f))*2:=by rw[YB,YB,YI]
  have a6:d*(p2 e*p2 (-f))*2<=d*(p2 e*p2 (-f))*p2 (f - e):=Zh c2 (Zg (by omega) (Zg (by omega) (by omega)));omega
theorem DP{s d e f:Int}(hd:0<d)(he:Ht s d e)(hf:Ht s d f):e=f:=by
  have:=HF hd he hf;have:=HF hd hf he
  omega
theorem l6{s:Int}(hs:0<s):p2 ((nb s:Int) - 1)<=s/\s<p2 (nb s):=by
  have h1:=nM (a:=s) (YD _);have e:p2 (nb s:Int)=((2 ^ nb s:Nat):Int):=by rw[pd];push_cast;rfl
  refine⟨?_,by omega⟩;by_cases iF:s<p2 ((nb s:Int) - 1)
  . exfalso;have hp:=xk (a:=s) (by omega)
    have h2:nb s<=nb s - 1:=eR (by
      have e2:(nb s:Int) - 1=((nb s - 1:Nat):Int):=by omega
      rw[e2,pd]at iF;have e3:((2:Int) ^ (nb s - 1))=((2 ^ (nb s - 1):Nat):Int):=by push_cast;rfl
      omega)
    omega
  . omega
theorem Fu{s d:Int}(hs:0<s)(hd:0<d):d*p2 ((nb s:Int) - nb d)<2*(s*p2 (-((nb s:Int) - nb d)))/\s*p2 (-((nb s:Int) - nb d))<2*(d*p2 ((nb s:Int) - nb d)):=by
  obtain⟨s1,s2⟩:=l6 hs;obtain⟨d1,d2⟩:=l6 hd;have Qn:(1:Int)<=nb s:=by have:=xk (a:=s) (by omega);omega
  have Ki:(1:Int)<=nb d:=by have:=xk (a:=d) (by omega);omega
  generalize (nb s:Int)=a at *;generalize (nb d:Int)=b at *;have ea:p2 a=2*p2 (a - 1):=by rw[<- dD (by omega)];congr 1;omega
  have eb:p2 b=2*p2 (b - 1):=by rw[<- dD (by omega)];congr 1;omega
  by_cases h:b<=a
  . have q:=aQ (a - b);have e1:p2 a=p2 b*p2 (a - b):=by rw[<- cF (by omega) (by omega)];congr 1;omega
    have f1:d*p2 (a - b)<p2 b*p2 (a - b):=YT d2 q;have f2:p2 (b - 1)*p2 (a - b)<=d*p2 (a - b):=YJ d1 (by omega)
    have e2:p2 a=2*(p2 (b - 1)*p2 (a - b)):=by rw[e1,eb,YB]
    rw[di (a:=-(a - b)) (by omega),Zp];constructor<;>omega
  . have q:=aQ (-(a - b));have e1:p2 b=p2 a*p2 (-(a - b)):=by rw[<- cF (by omega) (by omega)];congr 1;omega
    have f1:s*p2 (-(a - b))<p2 a*p2 (-(a - b)):=YT s2 q;have f2:p2 (a - 1)*p2 (-(a - b))<=s*p2 (-(a - b)):=YJ s1 (by omega)
    have e2:p2 b=2*(p2 (a - 1)*p2 (-(a - b))):=by rw[e1,ea,YB]
    rw[di (a:=a - b) (by omega),Zp];constructor<;>omega
theorem Jj(e:Int):(p2 (e - 1)*2=p2 e/\p2 (-(e - 1))=p2 (-e))\/(p2 (e - 1)=p2 e/\p2 (-(e - 1))=2*p2 (-e)):=by
  by_cases h:1<=e
  . refine .inl ⟨?_,?_⟩
    . rw[YI,<- dD (by omega)];congr 1;omega
    . rw[di (by omega),di (by omega)]
  . refine .inr ⟨?_,?_⟩
    . rw[di (by omega),di (by omega)]
    . rw[<- dD (by omega)];congr 1;omega
theorem Jk{s d e:Int}(h1:s*p2 (-e)<d*p2 e)(h2:d*p2 e<2*(s*p2 (-e))):Ht s d (e - 1):=by
  unfold Ht;rcases Jj e with⟨a,b⟩ | ⟨a,b⟩
  . rw[b];have:d*p2 e=2*(d*p2 (e - 1)):=by rw[<- a,<- YB,YI]
    constructor<;>omega
  . rw[a,b,Zk];constructor<;>omega
theorem Mb{n k d:Int}(hn:n≠0)(hd:0<d)(b1:nb n<=50000)(b2:nb d<=50000):∃ e,vg [.int n,.int k,.int d]=.ok (.int (e+k))/\Ht (ab n) d e/\-50001<=e/\e<=50000:=by
  have hs:=xE hn;have hb:=Bq n
  obtain⟨g1,g2⟩:=Fu hs hd;have q:=Qm (ab n) (-((nb (ab n):Int) - nb d)) d (by omega) (by omega) (by omega) (by omega)
  rw[Int.neg_neg]at q;by_cases h:ab n*p2 (-((nb (ab n):Int) - nb d))<d*p2 ((nb (ab n):Int) - nb d)
  . refine⟨(nb (ab n):Int) - nb d - 1,?_,Jk h g1,by omega,by omega⟩;dsimp![vg,Lz,hn,uf,q,h]
  . refine⟨(nb (ab n):Int) - nb d,?_,⟨by omega,g2⟩,by omega,by omega⟩;dsimp![vg,Lz,hn,uf,q,h]
noncomputable def cB(r u:Int):Int:=if 2*r=0 then 0 else if 2*r<u then 1 else if 2*r=u then 2 else 3
theorem Mc{n k d g:Int}(hd:0<d)(b1:nb n<=50000)(b2:nb d<=50000)(h1 : -60000<=k - g)(h2:k - g<=60000)(h3:nb (d*p2 (g - k))<=9000) :
    qy [.int n,.int k,.int d,.int g]=.ok (.tup [.int (ab n*p2 (k - g)/(d*p2 (g - k))),.int (cB (ab n*p2 (k - g) - ab n*p2 (k - g)/(d*p2 (g - k))*(d*p2 (g - k))) (d*p2 (g - k)))]):=by
  have hb:=Bq n;have q:=Qm (ab n) (k - g) d (by omega) (by omega) (by omega) (by omega)
  have e : -(k - g)=g - k:=by omega
  rw[e]at q;have hu:0<d*p2 (g - k):=ZU hd (aQ _)
  have hx:nb (ab n*p2 (k - g))<=120001:=YU (gD _ _) (by
    by_cases z:0<=k - g
    . rw[lZ z];omega
    . rw[di (by omega)];have:nb 1=1:=rfl;omega)
  have DQ:0<=ab n*p2 (k - g):=Zg (Bp n) (YF (aQ _));generalize ab n*p2 (k - g)=x at *;generalize d*p2 (g - k)=u at *;have o:j8 u:=jS hu h3 (by decide)
  have hq:nb (x/u)<=120001:=YU (kQ (Zj DQ (YF hu)) (aam _ DQ)) hx;have om:fL (x/u) u:=ir hq h3 (by decide)
  generalize hy:x/u*u=y at *;have o2:fL 2 (x - y):=mR (by decide) (by decide)
  by_cases c1:2*(x - y)=0
  . have z:cB (x - y) u=0:=Yy c1;rw[z];dsimp![qy,DD,uf,q,o,om,hy,o2,c1]
  . by_cases c2:2*(x - y)<u
    . have z:cB (x - y) u=1:=by unfold cB;rw[Yx c1,Yy c2]
      rw[z];dsimp![qy,DD,uf,q,o,om,hy,o2,c1,c2]
    . by_cases c3:2*(x - y)=u
      . have z:cB (x - y) u=2:=by unfold cB;rw[Yx c1,Yx c2,Yy c3]
        rw[z];have n0:¬ u=0:=by omega
        have n1:¬ u<u:=by omega
        dsimp![qy,DD,uf,q,o,om,hy,o2,c3,n0,n1]
      . have z:cB (x - y) u=3:=by unfold cB;rw[Yx c1,Yx c2,Yx c3]
        rw[z];dsimp![qy,DD,uf,q,o,om,hy,o2,c1,c2,c3]
theorem xF{m:Nat} (hx:nb x<=m) (hy:nb y<=m):nb (x+y)<=m+1:=eR (by
  have a:=nM hx;have b:=nM hy
  rw[ab3];omega)
theorem DR(i:Int):j2 (.int i)=.ok (.bl true):=rfl
theorem eN:j2 .bf=.ok (.bl false):=rfl
theorem lK(l:List PV):j2 (.tup l)=.ok (.bl true):=rfl
theorem sN(i:Int):wc (.int i)=.ok (.bl false):=rfl
theorem Br:wc .bf=.ok (.bl true):=rfl
def Wu(e f s u:Int):Prop:=Wd e f/\(s=0\/s=1)/\0<=u/\u<p2 (e+f)
noncomputable abbrev eS(e f:Int):Int:=(p2 e - 1)*p2 f
theorem jU(h:Wu e f s u):0<=u+s*p2 (e+f)/\u+s*p2 (e+f)<p2 (1+e+f)/\(u+s*p2 (e+f))/p2 (e+f)=s/\(u+s*p2 (e+f))%p2 (e+f)=u/\(u+s*p2 (e+f))/p2 f%p2 e=u/p2 f/\(u+s*p2 (e+f))%p2 f=u%p2 f:=by
  obtain⟨hw,hs,u0,u1⟩:=h;obtain⟨p1,p3,p4,p5,p6,_⟩:=gh hw;have st:s*p2 (e+f)=0\/s*p2 (e+f)=p2 (e+f):=by rcases hs with rfl | rfl<;>omega
  have hT:=aQ (e+f);refine⟨by omega,by omega,?_,?_,?_,?_⟩
  . rw[aac _ _ (by omega),Za u0 u1,ZV]
  . rw[ZT,Zz u0 u1]
  . rw[p5,<- YB,aac _ _ (by omega),ZT];exact Zz (Zj u0 (by omega)) (ZF (by omega) (by rw[<- p5];exact u1))
  . rw[p5,<- YB,ZT]
theorem sO{e f w:Int}(h:Wd e f)(h0:0<=w)(h1:w<p2 (1+e+f)):∃ s u,Wu e f s u/\w=u+s*p2 (e+f):=by
  obtain⟨p1,p3,p4,p5,p6,_⟩:=gh h;by_cases c:w<p2 (e+f)
  . exact⟨0,w,⟨h,.inl rfl,h0,c⟩,by omega⟩
  . exact⟨1,w - p2 (e+f),⟨h,.inr rfl,by omega,by omega⟩,by omega⟩
noncomputable def dE(e f u:Int):String:=if u=0 then "nought" else if u<p2 f then "small" else if u<eS e f then "plain" else if u=eS e f then "endless" else if u<eS e f+p2 (f - 1) then "loud" else "still"
theorem Md{e f u:Int}(h:Wd e f)(u0:0<=u)(u1:u<p2 (e+f)):l5 e f (u/p2 f) (u%p2 f)=dE e f u:=by
  obtain⟨p1,p3,p4,p5,p6,b1,b2,b3,b4,p7,p8⟩:=gh h;obtain⟨m1,m3⟩:=q5 h;have d:=Zd u (p2 f)
  have y0:=Zf u (show p2 f≠0 by omega);have y1:=Y9 u (show 0<p2 f by omega)
  have x0:0<=u/p2 f:=Zj u0 (by omega);have xl:u/p2 f<p2 e:=ZF (by omega) (by rw[<- p5];exact u1)
  have z1:u/p2 f=0↔u<p2 f:=by
    constructor
    . intro z;rw[z]at d;omega
    . intro z;exact Za u0 z
  have z2:u/p2 f<p2 e - 1↔u<eS e f:=acq (by omega);have z3:¬ u/p2 f<p2 e - 1->u%p2 f=u - eS e f:=by
    intro z;have:u/p2 f=p2 e - 1:=by omega
    rw[this,YI]at d;show _=u - (p2 e - 1)*p2 f
    omega
  unfold l5 dE;by_cases c1:u/p2 f=0
  . have Ak:=z1.mp c1;have e1:u%p2 f=u:=Zz u0 Ak
    rw[Yy c1,e1];by_cases c2:u=0
    . rw[Yy c2,Yy c2]
    . rw[Yx c2,Yx c2,Yy Ak]
  . have Ak:¬ u<p2 f:=fun z=>c1 (z1.mpr z);have c2:¬ u=0:=by omega
    rw[Yx c1,Yx c2,Yx Ak];by_cases c3:u/p2 f<p2 e - 1
    . rw[Yy c3,Yy (z2.mp c3)]
    . have VD:¬ u<eS e f:=fun z=>c3 (z2.mpr z);rw[Yx c3,Yx VD,z3 c3];by_cases c4:u=eS e f
      . rw[Yy (by omega),Yy c4]
      . rw[Yx (by omega),Yx c4];by_cases c5:u<eS e f+p2 (f - 1)
        . rw[Yx (by omega),Yy c5]
        . rw[Yy (by omega),Yx c5]
theorem xG(h:Wu e f s u):ze [e∣f,.int (u+s*p2 (e+f))]=.ok (.str (dE e f u)):=by
  obtain⟨a,b,_,_,c,d⟩:=jU h;have k:=Qj h.1 a b
  rw[c,d,Md h.1 h.2.2.1 h.2.2.2]at k;exact k
theorem Qo(h:Wu e f s u):pk [e∣f,.int (u+s*p2 (e+f))]=.ok (.tup [.int s,.int (u/p2 f),.int (u%p2 f)]):=by
  obtain⟨a,b,c1,_,c,d⟩:=jU h;have k:=L7 h.1 a b
  rw[c,d,c1]at k;exact k
theorem Qp(h:Wu e f s u):xr [e∣f,.int (u+s*p2 (e+f))]=.ok (.int u):=by
  obtain⟨a,b,c1,c2,c,d⟩:=jU h;have k:=Ql h.1 a b
  rw[c2]at k;exact k
theorem Me(h:Wu e f s u):ve [e∣f,.int (u+s*p2 (e+f))]=.ok (.int (u+(1 - s)*p2 (e+f))):=by
  obtain⟨a,b,c1,c2,c,d⟩:=jU h;have k:=Qk h.1 a b
  have u0:=h.2.2.1;have u1:=h.2.2.2
  have z:(u+s*p2 (e+f)+p2 (e+f))%(2*p2 (e+f))=u+(1 - s)*p2 (e+f):=by
    rcases h.2.1 with rfl | rfl
    . rw[Zz (by omega) (by omega)];omega
    . have e1:u+1*p2 (e+f)+p2 (e+f)=u+1*(2*p2 (e+f)):=by omega
      rw[e1,ZT,Zz (by omega) (by omega)];omega
  rw[z]at k;exact k
theorem Qq(h:Wu e f s u)(g:Wu e f t v):zN [e∣f,.int (u+s*p2 (e+f)),.int (v+t*p2 (e+f))]=.ok (.int (u+t*p2 (e+f))):=by
  obtain⟨a,b,c1,c2,c,d⟩:=jU h;obtain⟨a',b',Ak,Yk,c',d'⟩:=jU g;have k:=VA h.1 a b a' b'
  rw[c2,Ak]at k;exact k
theorem HG(h:Wd e f):vh [e∣f]=.ok (.int (eS e f)):=by
  obtain⟨p1,p3,p4,p5,p6,b1,b2,b3,b4,p7,p8⟩:=gh h;have a:=lJ h
  have b:=Ah (c:=e) (by have:=h.1;omega) (by have:=h.2.1;omega);have c:=Qh (s:=0) (x:=p2 e - 1) (y:=0) h (by decide) (by decide) (by omega) (by omega) (by decide) (by omega)
  rw[Zl,ZV,aad]at c;dsimp![vh,PS,a,b,c]
theorem Al(h:Wd e f):qx [e∣f]=.ok (.int (eS e f+p2 (f - 1))):=by
  obtain⟨p1,p3,p4,p5,p6,b1,b2,b3,b4,p7,p8⟩:=gh h;have a:=lJ h
  have a2:=Qi h;have b:=Ah (c:=e) (by have:=h.1;omega) (by have:=h.2.1;omega)
  have c:=Qh (s:=0) (x:=p2 e - 1) (y:=p2 (f - 1)) h (by decide) (by decide) (by omega) (by omega) (by omega) (by omega);rw[Zl,ZV]at c;dsimp![qx,PL,a,a2,b,c]
theorem dH(h:Wd e f):p2 (e+f)=eS e f+p2 f/\3*p2 f<=eS e f/\2<=p2 f/\p2 f=2*p2 (f - 1)/\1<=p2 (f - 1):=by
  obtain⟨p1,p3,p4,p5,p6,b1,b2,b3,b4,p7,p8⟩:=gh h;obtain⟨m1,m3⟩:=q5 h;exact⟨m1,m3,p3,p4,p7⟩
noncomputable def rk(s u:Int):Int:=if s=1 then -u else u
theorem Fv:iE (.str "still") (.tup [.str "still",.str "loud"])=.ok (.bl true):=rfl
theorem Jl:iE (.str "loud") (.tup [.str "still",.str "loud"])=.ok (.bl true):=rfl
theorem DS:iE (.str "nought") (.tup [.str "still",.str "loud"])=.ok (.bl false):=rfl
theorem Fw:iE (.str "small") (.tup [.str "still",.str "loud"])=.ok (.bl false):=rfl
theorem Fx:iE (.str "plain") (.tup [.str "still",.str "loud"])=.ok (.bl false):=rfl
theorem Bs:iE (.str "endless") (.tup [.str "still",.str "loud"])=.ok (.bl false):=rfl
theorem DT(h:Wd e f):iE (.str (dE e f u)) (.tup [.str "still",.str "loud"])=.ok (.bl (decide (eS e f<u))):=by
  obtain⟨m1,m3,p3,p4,p7⟩:=dH h;unfold dE;by_cases c1:u=0
  . rw[Yy c1,YG (by omega)];exact DS
  . by_cases c2:u<p2 f
    . rw[Yx c1,Yy c2,YG (by omega)];exact Fw
    . by_cases c3:u<eS e f
      . rw[Yx c1,Yx c2,Yy c3,YG (by omega)];exact Fx
      . by_cases c4:u=eS e f
        . rw[Yx c1,Yx c2,Yx c3,Yy c4,YG (by omega)];exact Bs
        . by_cases c5:u<eS e f+p2 (f - 1)
          . rw[Yx c1,Yx c2,Yx c3,Yx c4,Yy c5,YL (by omega)];exact Jl
          . rw[Yx c1,Yx c2,Yx c3,Yx c4,Yx c5,YL (by omega)];exact Fv
theorem HH(h:Wu e f s u)(hu:eS e f<u):qz [e∣f,.int (u+s*p2 (e+f))]=.ok .bf:=by
  have k:=xG h;have i:=DT (u:=u) h.1
  rw[YL hu]at i;dsimp![qz,DE,k,i]
theorem HI(h:Wu e f s u)(hu:u<=eS e f):qz [e∣f,.int (u+s*p2 (e+f))]=.ok (.int (rk s u)):=by
  have k:=xG h;have i:=DT (u:=u) h.1
  rw[YG (by omega)]at i;have a:=Qp h
  have b:=Qo h;unfold rk;rcases h.2.1 with rfl | rfl
  . dsimp![qz,DE,k,i,a,b,Y2,abk]
  . dsimp![qz,DE,k,i,a,b,Y4]
theorem sP(h:Wu e f 0 u)(b:Bool):zq [e∣f,.int u,.bl b]=.ok (.int (u+(if b then 1 else 0)*p2 (e+f))):=by
  have a:=Me h;rw[Zl,aad]at a;cases b
  . have z:u+(if false=true then (1:Int) else 0)*p2 (e+f)=u:=by rw[Yx (by decide)];omega
    rw[z];dsimp![zq,LA]
  . have z:u+(if true=true then (1:Int) else 0)*p2 (e+f)=u+(1 - 0)*p2 (e+f):=by rw[Yy rfl];omega
    rw[z];dsimp![zq,LA,a]
noncomputable def aZ(f u:Int):Int:=if u<p2 f then u else (u%p2 f+p2 f)*p2 (u/p2 f - 1)
theorem fW{f u:Int}(h:u<p2 f):aZ f u=u:=Yy h
theorem sQ{f u:Int}(h:p2 f<=u):p2 f*p2 (u/p2 f - 1)<=aZ f u/\aZ f u<p2 f*p2 (u/p2 f):=by
  have pf:=aQ f;have y0:=Zf u (show p2 f≠0 by omega)
  have y1:=Y9 u (show 0<p2 f by omega);have x1:1<=u/p2 f:=(Zv pf).mpr (by omega)
  have pp:=aQ (u/p2 f - 1);have e:p2 (u/p2 f)=2*p2 (u/p2 f - 1):=by rw[<- dD (by omega)];congr 1;omega
  unfold aZ;rw[Yx (by omega)];constructor
  . exact YJ (by omega) (by omega)
  . rw[e,<- YB];exact YT (by omega) pp
theorem sR{f u v:Int}(u0:0<=u)(h:u<v):aZ f u<aZ f v:=by
  have pf:=aQ f;by_cases c1:v<p2 f
  . rw[fW c1,fW (by omega)];exact h
  . obtain⟨v1,v2⟩:=sQ (f:=f) (u:=v) (by omega);have x1:1<=v/p2 f:=(Zv pf).mpr (by omega)
    by_cases c2:u<p2 f
    . rw[fW c2];have:p2 f*1<=p2 f*p2 (v/p2 f - 1):=Zh (by have:=aQ (v/p2 f - 1);omega) (by omega)
      omega
    . obtain⟨u1,u2⟩:=sQ (f:=f) (u:=u) (by omega);have x2:1<=u/p2 f:=(Zv pf).mpr (by omega)
      have le:u/p2 f<=v/p2 f:=ab6 pf (by omega);by_cases c3:u/p2 f=v/p2 f
      . have d1:=Zd u (p2 f);have d2:=Zd v (p2 f)
        unfold aZ;rw[Yx c2,Yx c1];rw[c3]at d1 ⊢;exact YT (by omega) (aQ _)
      . have:p2 (u/p2 f)<=p2 (v/p2 f - 1):=fh (by omega) (by omega);have:=Zh this (YF pf)
        omega
theorem pz{f u:Int}(u0:0<=u):0<=aZ f u:=by
  have:=aQ f;by_cases c:u=0
  . rw[c,fW (by omega)];decide
  . have:=sR (f:=f) (u:=0) (v:=u) (by decide) (by omega);rw[fW (u:=0) (by omega)]at this;omega
noncomputable def lp(e f:Int):Int:=1 - (p2 (e - 1) - 1) - f
theorem dS(h:Wd e f) : -1082<=lp e f/\lp e f<=-1/\2<=p2 (e - 1)/\p2 (e - 1)<=1024:=by
  obtain⟨h1,h2,h3,h4⟩:=h;have a:=fh (a:=e - 1) (b:=10) (by omega) (by omega)
  have b:=sM (j:=e - 1) (by omega);have Yl:p2 10=1024:=by decide
  unfold lp;omega
def dq(p:Int)(z:Str)(k:Nat):Prop:=(p=0/\z="even"/\k=21)\/(p=1/\z="away"/\k=22)\/(p=2/\z="in"/\k=23)\/(p=3/\z="up"/\k=24)\/(p=4/\z="down"/\k=25)
theorem xH{p:Int}(h0:0<=p)(h1:p<5):∃ z k,dq p z k:=by
  have:p=0\/p=1\/p=2\/p=3\/p=4:=by omega
  rcases this with rfl | rfl | rfl | rfl | rfl
  . exact⟨_,_,.inl ⟨rfl,rfl,rfl⟩⟩
  . exact⟨_,_,.inr (.inl ⟨rfl,rfl,rfl⟩)⟩
  . exact⟨_,_,.inr (.inr (.inl ⟨rfl,rfl,rfl⟩))⟩
  . exact⟨_,_,.inr (.inr (.inr (.inl ⟨rfl,rfl,rfl⟩)))⟩
  . exact⟨_,_,.inr (.inr (.inr (.inr ⟨rfl,rfl,rfl⟩)))⟩
theorem gN(h:dq p z k):zk [.str z]=.ok (.ins k)/\ar (.lst [.str "even",.str "away",.str "in",.str "up",.str "down"]) (.int p)=.ok (.str z):=by
  rcases h with⟨rfl,rfl,rfl⟩ | ⟨rfl,rfl,rfl⟩ | ⟨rfl,rfl,rfl⟩ | ⟨rfl,rfl,rfl⟩ | ⟨rfl,rfl,rfl⟩<;>exact⟨rfl,rfl⟩
theorem bR(c:Nat):cI (some (.ins c))=.ok (.ins c):=rfl
noncomputable def gw(p:Int)(odd:Bool)(sd:Int)(below:Bool):Bool:=if p=0 then decide (sd=3)||(decide (sd=2)&&odd) else if p=1 then decide (2<=sd) else if p=2 then false else if p=3 then !below else below
theorem Qr{sd:Int} (odd below:Bool) (h:dq p z k) (hs:sd=0\/sd=1\/sd=2\/sd=3) {fo:FE}{g:FA}{x0:Option PV}{ρ:aJ} (h1:fo (x0::ρ)=.ok (.ins k)) (h2:g (x0::ρ)=.ok [.bl odd,.int sd,.bl below]):pP DF fo g (x0::ρ)=.ok (.bl (gw p odd sd below)):=by
  show(fo (x0::ρ)).bind (CZ DF (g (x0::ρ)))=_;rw[h1,h2];rcases h with⟨rfl,rfl,rfl⟩ | ⟨rfl,rfl,rfl⟩ | ⟨rfl,rfl,rfl⟩ | ⟨rfl,rfl,rfl⟩ | ⟨rfl,rfl,rfl⟩<;>rcases hs with rfl | rfl | rfl | rfl<;>cases odd<;>cases below<;>rfl
theorem pX(r u:Int):cB r u=0\/cB r u=1\/cB r u=2\/cB r u=3:=by
  unfold cB;split
  . exact .inl rfl
  . split
    . exact .inr (.inl rfl)
    . split
      . exact .inr (.inr (.inl rfl))
      . exact .inr (.inr (.inr rfl))
theorem nP{r u a b:Int}(hu:0<u)(hb:0<b)(h:r*b=a*u):cB r u=cB a b:=by
  have c0:(2*r=0)↔(2*a=0):=by
    constructor
    . intro x;have r0:r=0:=by omega
      rw[r0,Zl]at h;rcases abl.mp h.symm with y | y<;>omega
    . intro x;have a0:a=0:=by omega
      rw[a0,Zl]at h;rcases abl.mp h with y | y<;>omega
  have e:2*r*b=2*a*u:=by rw[YB,h,YB]
  have c1:(2*r<u)↔(2*a<b):=by
    constructor
    . intro x;have y:2*r*b<u*b:=YT x hb
      rw[e,YI u b]at y;exact ZX y (YF hu)
    . intro x;have y:2*a*u<b*u:=YT x hu
      rw[<- e,YI b u]at y;exact ZX y (YF hb)
  have c2:(2*r=u)↔(2*a=b):=by
    constructor
    . intro x;rw[x,YI]at e;exact(aaJ (by omega) e).symm
    . intro x;rw[x,YI b u]at e;exact aaJ (by omega) e
  unfold cB;simp only[c0,c1,c2]
noncomputable def gr(p q sd:Int)(below:Bool):Bool:=decide (sd≠0)&&gw p (decide (q%2=1)) sd below
noncomputable def qD(f p t q sd:Int)(below:Bool):Int:=t*p2 f+(if gr p q sd below then q+1 else q)
noncomputable def HJ(f q sd:Int):Int:=if sd=0 then 0 else if q<p2 f then 24 else 16
noncomputable def sg(below:Bool):Int:=if below then 1 else 0
noncomputable def sT(e f p t q sd:Int)(below:Bool):PV:=if qD f p t q sd below<eS e f then .tup [.int (qD f p t q sd below+sg below*p2 (e+f)),.int (HJ f q sd)] else .tup [.int ((if gw p true 3 below then eS e f else eS e f - 1)+sg below*p2 (e+f)),.int 20]
theorem Mf{p q sd:Int}(below:Bool)(h:dq p z k)(hs:sd=0\/sd=1\/sd=2\/sd=3):xu [.ins k,q∣sd,.bl below]=.ok (.int (if gr p q sd below then q+1 else q)):=by
  have g:=Qr (decide (q%2=1)) below h hs (fo:=ae 0) (g:=af (ah bD (ah oMod (ah ar (ae 1) ‹0›) ‹2›) ‹1›) (af (ah ar (ae 1) ‹1›) (af (ae 2) (aq))))
    (x0:=some (.ins k)) (ρ:=[some (q∣sd),some (.bl below),none]) rfl (by dsimp![])
  unfold gr;by_cases c:sd=0
  . have e1:decide (sd≠0)=false:=YG (by omega);have e2:decide (sd=0)=true:=YL c
    dsimp![xu,LB,List.replicate,List.set,e1,e2,bR,Zo,Zw,YX,Y2]
  . have e1:decide (sd≠0)=true:=YL c;have e2:decide (sd=0)=false:=YG c
    generalize gw p (decide (q%2=1)) sd below=y at *;cases y<;>dsimp![xu,LB,List.replicate,List.set,e1,e2,bR,g,aa0,aaa,YX,Y2,Y4]
theorem Qs{e f p t q sd hh:Int}(below:Bool)(h:Wd e f)(w:dq p z k)(ht:0<=t)(Qt:t<=100000)(q0:0<=q)(q1:q<2*p2 f)(hs:sd=0\/sd=1\/sd=2\/sd=3)
    (sp:pq [e∣f,.int hh]=.ok (.int (lp e f+t))) (hm:hh<lp e f+f↔q<p2 f) :
    xw [e∣f,.ins k,.bl below,.int hh,q∣sd]=.ok (sT e f p t q sd below):=by
  obtain⟨m1,m3,p3,p4,p7⟩:=dH h;have le:=DN h
  have bi:=L5 h;have en:=HG h
  have st:=Mf (q:=q) below w hs;have DU:1 - (p2 (e - 1) - 1) - f=lp e f:=rfl
  rw[DU]at le;have e1:lp e f+t - lp e f=t:=by omega
  have os:gM t f:=eO (n:=20) (by have:=h.2.2.1;omega) (eR (by omega)) (by have:=h.2.2.2;omega);have VE:0<=qD f p t q sd below:=by
    unfold qD;have:=Zg ht (YF (aQ f))
    split<;>omega
  have Mg:t*p2 f+(if gr p q sd below then q+1 else q)=qD f p t q sd below:=rfl;have g3:=fun(x0:Option PV) (ρ:aJ) (a:jr (x0::ρ) 1=.ok (.ins k)) (b:jr (x0::ρ) 2=.ok (.bl below))=>Qr true below w (.inr (.inr (.inr rfl))) (fo:=ae 1) (g:=af (fC (.bl true)) (af ‹3› (af (ae 2) (aq)))) (x0:=x0) (ρ:=ρ) a (by
    show R.bind _ _=_;dsimp![b])
  have mk:zP [e∣f,.int hh,.int sd]=.ok (.int (HJ f q sd)):=by
    unfold HJ;have e5:1 - (p2 (e - 1) - 1)=lp e f+f:=by unfold lp;omega
    by_cases c:sd=0
    . dsimp![zP,Hi,c,Y4]
    . by_cases c2:q<p2 f
      . have c3:=hm.mpr c2;dsimp![zP,Hi,c,bi,e5,c2,c3,Y4,Y2]
      . have c3:¬ hh<lp e f+f:=fun z=>c2 (hm.mp z);dsimp![zP,Hi,c,bi,e5,c2,c3,Y4,Y2]
  unfold sT;by_cases c:qD f p t q sd below<eS e f
  . have ws:=sP (u:=qD f p t q sd below) ⟨h,.inl rfl,VE,by omega⟩ below;have HK:(if below=true then (1:Int) else 0)=sg below:=rfl
    rw[HK]at ws;rw[Yy c];dsimp![xw,Hj,List.replicate,List.set,en,sp,le,e1,os,bR,st,Mg,c,ws,mk]
  . rw[Yx c];have Mh:=g3 (some (e∣f)) [some (.ins k),some (.bl below),some (.int hh),some (q∣sd),some (.int (eS e f)),some (.int t),some (.int (qD f p t q sd below))] rfl rfl
    have HK:(if below=true then (1:Int) else 0)=sg below:=rfl;generalize gw p true 3 below=y at *;cases y with
    | true =>
      have ws:=sP (u:=eS e f) ⟨h,.inl rfl,by omega,by omega⟩ below;rw[HK]at ws;dsimp![xw,Hj,List.replicate,List.set,en,sp,le,e1,os,bR,st,Mg,c,Mh,ws,Y4]
    | false =>
      have ws:=sP (u:=eS e f - 1) ⟨h,.inl rfl,by omega,by omega⟩ below;rw[HK]at ws;dsimp![xw,Hj,List.replicate,List.set,en,sp,le,e1,os,bR,st,Mg,c,Mh,ws,YX,Y2]
noncomputable def tU(f u:Int):Int:=if u<p2 f then 0 else u/p2 f - 1
noncomputable def qU(f u:Int):Int:=u - tU f u*p2 f
theorem Fy{f u:Int}(hf:1<=f)(u0:0<=u):0<=tU f u/\0<=qU f u/\qU f u<2*p2 f/\(tU f u=0\/p2 f<=qU f u)/\aZ f u=qU f u*p2 (tU f u)/\aZ f (u+1)=(qU f u+1)*p2 (tU f u)/\tU f u*p2 f+qU f u=u/\qU f u%2=u%2/\(qU f u<p2 f↔u<p2 f)/\tU f u<=u/p2 f:=by
  have pf:=aQ f;have VF:p2 f=2*p2 (f - 1):=by rw[<- dD (by omega)];congr 1;omega
  have par:(u - tU f u*p2 f)%2=u%2:=by
    have:tU f u*p2 f=2*(tU f u*p2 (f - 1)):=by rw[VF,Zk]
    rw[this];omega
  have dn:0<=u/p2 f:=Zj u0 (YF pf);by_cases h:u<p2 f
  . have et:tU f u=0:=Yy h;have eq:qU f u=u:=by unfold qU;rw[et];omega
    have e0:p2 0=1:=rfl;refine⟨by omega,by omega,by omega,.inl et,?_,?_,?_,?_,?_,by omega⟩
    . rw[eq,et,fW h,e0];omega
    . rw[eq,et,e0];by_cases h2:u+1<p2 f
      . rw[fW h2];omega
      . have e1:u+1=p2 f:=by omega
        unfold aZ;rw[Yx h2,e1,Int.emod_self,Int.ediv_self (by omega)];have:p2 (1 - 1)=1:=rfl
        rw[this];omega
    . rw[eq,et];omega
    . rw[eq]
    . rw[eq]
  . have et:tU f u=u/p2 f - 1:=Yx h;have m1:1<=u/p2 f:=by
      have:=ab6 pf (show p2 f<=u by omega);rw[Int.ediv_self (by omega)]at this;exact this
    have r0:=Zf u (show p2 f≠0 by omega);have r1:=Y9 u pf
    have dm:=Zd u (p2 f);have eq:qU f u=u%p2 f+p2 f:=by
      unfold qU;rw[et,aab,Y1,YI];omega
    refine⟨by omega,by omega,by omega,.inr (by omega),?_,?_,?_,par,?_,by omega⟩
    . rw[eq,et];unfold aZ;rw[Yx h]
    . rw[eq,et];unfold aZ;rw[Yx (by omega)];by_cases c:u%p2 f+1<p2 f
      . have e1:(u+1)%p2 f=u%p2 f+1:=by
          have:u+1=u%p2 f+1+p2 f*(u/p2 f):=by omega
          rw[this,Int.add_mul_emod_self_left,Zz (by omega) c]
        have e2:(u+1)/p2 f=u/p2 f:=by
          have:u+1=u%p2 f+1+p2 f*(u/p2 f):=by omega
          rw[this,aaz _ _ (by omega),Za (by omega) c];omega
        rw[e1,e2];congr 1;omega
      . have e3:u%p2 f+1=p2 f:=by omega
        have e1:(u+1)=p2 f*(u/p2 f+1):=by rw[Int.mul_add,Zp];omega
        have e4:(u+1)%p2 f=0:=by rw[e1];exact Int.mul_emod_right _ _
        have e5:(u+1)/p2 f=u/p2 f+1:=by rw[e1];exact Int.mul_ediv_cancel_left _ (by omega)
        rw[e4,e5,ZV,show u/p2 f+1 - 1=u/p2 f - 1+1 by omega,dD (by omega),<- YB]
        congr 1;omega
    . unfold qU;omega
    . rw[eq];omega
theorem Og(hc:nb c<=1048576):fL c 414213562373095048801689:=ir (n:=200) hc (eR (by decide)) (by decide)
theorem vQ{s d f g:Int}(hf:0<=f):d*p2 (f+g)<=s*p2 (-(f+g))↔p2 f*(d*p2 g)<=s*p2 (-g):=by
  have c:=nO (e:=g) (f:=f+g) (by omega);rw[show f+g - g=f by omega]at c
  have k1:=aQ (-(f+g));have k2:=aQ (-g)
  have e1:d*p2 (f+g)*p2 (-g)=p2 f*(d*p2 g)*p2 (-(f+g)):=by
    rw[YB,c];simp only[YI,Zk,YB]
  have e2:s*p2 (-(f+g))*p2 (-g)=s*p2 (-g)*p2 (-(f+g)):=by rw[YB,YB,YI (p2 (-(f+g)))]
  constructor
  . intro h;have:=YJ h (YF k2)
    rw[e1,e2]at this;exact ZY this k1
  . intro h;have:=YJ h (YF k1)
    rw[<- e1,<- e2]at this;exact ZY this k2
theorem xI{s d f g:Int}(hf:0<=f):s*p2 (-(f+g))<2*(d*p2 (f+g))↔s*p2 (-g)<2*(p2 f*(d*p2 g)):=by
  have h:=vQ (s:=s) (d:=2*d) (g:=g) hf;have e1:2*d*p2 (f+g)=2*(d*p2 (f+g)):=YB _ _ _
  have e2:p2 f*(2*d*p2 g)=2*(p2 f*(d*p2 g)):=by rw[YB,Zk]
  rw[e1,e2]at h;constructor
  . intro x;apply Zc;intro c;have:=h.mpr (by omega)
    omega
  . intro x;apply Zc;intro c;have:=h.mp (by omega)
    omega
theorem Jm{s d x y:Int}(hd:0<d)(h:y<=x)(hx:d*p2 x<=s*p2 (-x)):d*p2 y<=s*p2 (-y):=by
  have c:=nO (e:=y) (f:=x) h;have k1:=aQ (-x)
  have k2:=aQ (-y);have k3:=aQ (x - y)
  have k4:=aQ y;have a1:d*p2 x*p2 (-y)<=s*p2 (-x)*p2 (-y):=YJ hx (YF k2)
  have a2:d*p2 x*p2 (-y)=d*p2 y*p2 (x - y)*p2 (-x):=by rw[YB,c];simp only[YI,Zk,YB]
  have a3:s*p2 (-x)*p2 (-y)=s*p2 (-y)*p2 (-x):=by rw[YB,YB,YI (p2 (-x))]
  rw[a2,a3]at a1;have a4:=ZY a1 k1
  have a5:d*p2 y*1<=d*p2 y*p2 (x - y):=Zh (by omega) (Zg (by omega) (by omega));rw[Zp]at a5;omega
theorem Fz{s d x y:Int}(hd:0<d)(h:x<y)(hx:s*p2 (-x)<2*(d*p2 x)):s*p2 (-y)<d*p2 y:=by
  have c:=nO (e:=x) (f:=y) (by omega);have k1:=aQ (-x)
  have k2:=aQ (-y);have k3:=sM (j:=y - x) (by omega)
  have k4:=aQ x;have a1:s*p2 (-x)*p2 (-y)<2*(d*p2 x)*p2 (-y):=YT hx k2
  have a2:d*p2 y*p2 (-x)=d*p2 x*p2 (-y)*p2 (y - x):=by rw[YB,c];simp only[YI,Zk,YB]
  have a3:s*p2 (-x)*p2 (-y)=s*p2 (-y)*p2 (-x):=by rw[YB,YB,YI (p2 (-x))]
  have a4:2*(d*p2 x)*p2 (-y)=d*p2 x*p2 (-y)*2:=by rw[YB,YI]
  have a5:d*p2 x*p2 (-y)*2<=d*p2 x*p2 (-y)*p2 (y - x):=Zh k3 (Zg (Zg (by omega) (by omega)) (by omega));rw[a3,a4]at a1;have a6:s*p2 (-y)*p2 (-x)<d*p2 y*p2 (-x):=by rw[a2];omega
  exact ZX a6 (YF k1)
theorem ug{S u b a q:Int}(hu:0<u)(hb:0<b)(a0:0<=a)(a1:a<b)(eq:S*b=(q*b+a)*u):∃ r,S=q*u+r/\0<=r/\r<u/\r*b=a*u:=by
  have e2:q*u*b=q*b*u:=by rw[YB,YI u b,<- YB]
  refine⟨S - q*u,by omega,?_,?_,?_⟩
  . have:q*u*b<=S*b:=by
      rw[eq,ZK];have:=Zg a0 (YF hu)
      omega
    have:=ZY this hb;omega
  . have:(S - q*u)*b<u*b:=by
      rw[aab,eq,ZK];have e3:a*u<b*u:=YT a1 hu
      rw[YI u b];omega
    exact ZX this (YF hb)
  . rw[aab,eq,ZK];omega
theorem VG{e f t q a b n k d:Int}(h:Wd e f)(hn:n≠0)(hd:0<d)(b1:nb n<=20000)(b2:nb d<=3900)(ht:0<=t)(hk : -20000<=lp e f+t - k)(Qu:lp e f+t - k<=5000)(hb:0<b)(a0:0<=a)(a1:a<b)
    (q0:0<=q) (q1:q<2*p2 f) (qt:t=0\/p2 f<=q) (eq:ab n*p2 (k - (lp e f+t))*b=(q*b+a)*(d*p2 (lp e f+t - k))) :
    ∃ hh,vg [.int n,.int k,.int d]=.ok (.int hh)/\pq [e∣f,.int hh]=.ok (.int (lp e f+t))/\qy [.int n,.int k,.int d,.int (lp e f+t)]=.ok (.tup [.int q,.int (cB a b)]) /\
      (hh<lp e f+f↔q<p2 f):=by
  obtain⟨g1,g2,g3,g4⟩:=id h;obtain⟨x,e1,hx,x0,x1⟩:=Mb (k:=k) hn hd (by omega) (by omega);have le:=DN h
  have pf:=aQ f;generalize hg:lp e f+t - k=g at *;have Qv:k - (lp e f+t) = -g:=by omega
  rw[Qv]at eq;have hu:0<d*p2 g:=ZU hd (aQ g)
  obtain⟨r,er,r0,r1,r2⟩:=ug hu hb a0 a1 eq;have big:p2 f<=q->x=f+g:=fun hq=>by
    refine DP hd hx ⟨(vQ (by omega)).mpr ?_,(xI (by omega)).mpr ?_⟩
    . rw[er];have:=YJ hq (YF hu)
      omega
    . rw[er];have e3:(q+1)*(d*p2 g)<=2*p2 f*(d*p2 g):=YJ (by omega) (YF hu)
      rw[ZK,Y1,YB]at e3;omega
  have low:q<p2 f->x<f+g:=fun hq=>by
    apply Zc;intro c;have:=(vQ (by omega)).mp (Jm hd (show f+g<=x by omega) hx.1)
    rw[er]at this;have e3:(q+1)*(d*p2 g)<=p2 f*(d*p2 g):=YJ (by omega) (YF hu)
    rw[ZK,Y1]at e3;omega
  refine⟨x+k,e1,?_,?_,?_⟩
  . have DU:1 - (p2 (e - 1) - 1) - f=lp e f:=rfl;rw[DU]at le;have cse:(x+k - f=lp e f+t)\/(t=0/\x+k - f<lp e f):=by
      by_cases hq:p2 f<=q
      . have:=big hq;omega
      . have:=low (by omega);rcases qt with z | z<;>omega
    by_cases c:lp e f>x+k - f
    . have e4:lp e f+t=lp e f:=by omega
      dsimp![pq,DG,le,c,Y4,e4]
    . have e4:x+k - f=lp e f+t:=by omega
      have c':¬ lp e f>lp e f+t:=by omega
      dsimp![pq,DG,le,e4,c',Y2]
  . have VH:nb (d*p2 (lp e f+t - k))<=9000:=by
      rw[hg];refine YU (gD _ _) ?_;by_cases z:0<=g
      . rw[lZ z];omega
      . rw[di (by omega)];have:nb 1=1:=rfl;omega
    have st:=Mc (n:=n) (k:=k) (d:=d) (g:=lp e f+t) hd (by omega) (by omega) (by omega) (by omega) VH;rw[hg,Qv]at st;have dv:ab n*p2 (-g)/(d*p2 g)=q:=by
      rw[er,YI q,ab5,aaz _ _ (by omega),Za r0 r1];omega
    rw[dv]at st;have e5:ab n*p2 (-g) - q*(d*p2 g)=r:=by omega
    rw[e5,nP hu hb r2]at st;exact st
  . constructor
    . intro z;apply Zc;intro c;have:=big (by omega)
      omega
    . intro z;have:=low z
      omega
theorem VI{e f p t q a b n k d:Int}{kk:Nat}(h:Wd e f)(w:dq p z kk)(hn:n≠0)(hd:0<d)(b1:nb n<=20000)(b2:nb d<=3900)(ht:0<=t)(Qt:t<=100000)(hk : -20000<=lp e f+t - k)(Qu:lp e f+t - k<=5000)(hb:0<b)(a0:0<=a)(a1:a<b)
    (q0:0<=q) (q1:q<2*p2 f) (qt:t=0\/p2 f<=q) (eq:ab n*p2 (k - (lp e f+t))*b=(q*b+a)*(d*p2 (lp e f+t - k))) :
    zp [e∣f,.int n,.int k,.int d,.str z]=.ok (sT e f p t q (cB a b) (decide (n<0))):=by
  obtain⟨hh,e1,e2,e3,e4⟩:=VG h hn hd b1 b2 ht hk Qu hb a0 a1 q0 q1 qt eq;have s:=Qs (decide (n<0)) h w ht Qt q0 q1 (pX a b) e2 e4
  have cw:=lJ h;have wy:=(gN w).1
  generalize sT e f p t q (cB a b) (decide (n<0))=v at *;generalize cB a b=sd at *;dsimp![zp,PZ,List.replicate,List.set,cw,wy,hn,e1,e2,e3,bR,s]
structure iT(e f s k d t q a b:Int):Prop where
  t0:0<=t
  b0:0<b
  a0:0<=a
  a1:a<b
  q0:0<=q
  q1:q<2*p2 f
  qt:t=0\/p2 f<=q
  eq:s*p2 (k - (lp e f+t))*b=(q*b+a)*(d*p2 (lp e f+t - k))
  tb:t<=60000/\-20000<=lp e f+t - k/\lp e f+t - k<=5000
theorem Jn{e f s k d:Int}(h:Wd e f)(hs:0<s)(hd:0<d)(b1:nb s<=5000)(b2:nb d<=3900)(k0:lp e f - 5000<=k)(k1:k<=10000):∃ t q a b,iT e f s k d t q a b:=by
  obtain⟨l1,l2,l3,l4⟩:=dS h;obtain⟨g1,g2,g3,g4⟩:=id h;have as:ab s=s:=pW (by omega)
  obtain⟨x,_,hx,_,_⟩:=Mb (n:=s) (k:=0) (d:=d) (by omega) hd (by omega) (by omega);rw[as]at hx;have xb:x<=nb s:=by
    apply Zc;intro c;have h1:=hx.1
    rw[di (a:=-x) (by omega),Zp]at h1;have b3:=(l6 hs).2
    have:=fh (a:=(nb s:Int)) (b:=x) (by omega) (by omega);have s4:p2 x<=d*p2 x:=by
      have:=YJ (show 1<=d by omega) (YF (aQ x));rw[Y1]at this;exact this
    omega
  have pf:=aQ f;have mk:∀ t:Int,0<=t->t<=60000/\-20000<=lp e f+t - k/\lp e f+t - k<=5000->s*p2 (-(lp e f+t - k))<2*(p2 f*(d*p2 (lp e f+t - k)))->(t=0\/p2 f*(d*p2 (lp e f+t - k))<=s*p2 (-(lp e f+t - k)))->∃ t q a b,iT e f s k d t q a b:=by
    intro t t0 tb u1 u2;have hu:0<d*p2 (lp e f+t - k):=ZU hd (aQ _)
    have S0:0<=s*p2 (-(lp e f+t - k)):=Zg (by omega) (YF (aQ _));have e9:k - (lp e f+t) = -(lp e f+t - k):=by omega
    refine⟨t,s*p2 (-(lp e f+t - k))/(d*p2 (lp e f+t - k)),s*p2 (-(lp e f+t - k))%(d*p2 (lp e f+t - k)),d*p2 (lp e f+t - k),t0,hu,Zf _ (by omega),Y9 _ hu,Zj S0 (YF hu),ZF hu (by rw[YB];exact u1),?_,?_,tb⟩
    . rcases u2 with z | z
      . exact .inl z
      . exact .inr (Int.le_ediv_of_mul_le hu z)
    . rw[e9];congr 1;have:=Zd (s*p2 (-(lp e f+t - k))) (d*p2 (lp e f+t - k))
      rw[YI]at this;exact this.symm
  by_cases c:lp e f<=x+k - f
  . refine mk (x+k - f - lp e f) (by omega) (by omega) ?_ (.inr ?_)
    . have:=hx.2;have e9:x=f+(lp e f+(x+k - f - lp e f) - k):=by omega
      rw[e9]at this;exact(xI (by omega)).mp this
    . have:=hx.1;have e9:x=f+(lp e f+(x+k - f - lp e f) - k):=by omega
      rw[e9]at this;exact(vQ (by omega)).mp this
  . refine mk 0 (by omega) (by omega) ?_ (.inl rfl);have:=Fz hd (show x<f+(lp e f+0 - k) by omega) hx.2
    refine(xI (by omega)).mp ?_;have:=ZU hd (aQ (f+(lp e f+0 - k)))
    omega
theorem Jo{e f p t q a b n k d:Int}{kk:Nat}(h:Wd e f)(w:dq p z kk)(hn:n≠0)(hd:0<d)(b1:nb n<=20000)(b2:nb d<=3900)(st:iT e f (ab n) k d t q a b) :
    zp [e∣f,.int n,.int k,.int d,.str z]=.ok (sT e f p t q (cB a b) (decide (n<0))) :=
  VI h w hn hd b1 b2 st.t0 (by have:=st.tb;omega) (by have:=st.tb;omega) (by have:=st.tb;omega) st.b0 st.a0 st.a1 st.q0 st.q1 st.qt st.eq
theorem Oh{f t q:Int}(hf:1<=f)(t0:0<=t)(q0:0<=q)(q1:q<2*p2 f)(qt:t=0\/p2 f<=q) :
    0<=t*p2 f+q/\aZ f (t*p2 f+q)=q*p2 t/\aZ f (t*p2 f+q+1)=(q+1)*p2 t/\(t*p2 f+q)%2=q%2/\(q<p2 f↔t*p2 f+q<p2 f):=by
  have pf:=aQ f;have tp:=Zg t0 (YF pf)
  have u0:0<=t*p2 f+q:=by omega
  have et:tU f (t*p2 f+q)=t:=by
    unfold tU;by_cases c:q<p2 f
    . have VJ:t=0:=by rcases qt with z | z<;>omega
      subst VJ;rw[Zl,ZV,Yy c]
    . have t1:p2 f<=t*p2 f+q:=by omega
      rw[Yx (by omega)];have e1:t*p2 f+q=(q - p2 f)+(t+1)*p2 f:=by rw[ZK,Y1];omega
      rw[e1,aac _ _ (by omega),Za (by omega) (by omega)];omega
  obtain⟨_,_,_,_,e1,e2,e3,e4,e5,_⟩:=Fy (f:=f) (u:=t*p2 f+q) hf u0;have eq:qU f (t*p2 f+q)=q:=by unfold qU;rw[et];omega
  rw[et,eq]at e1 e2;rw[eq]at e4 e5;exact⟨u0,e1,e2,e4.symm,e5⟩
theorem wn:(Str.ofString "away" == Str.ofString "even")=false/\(Str.ofString "in" == Str.ofString "even")=false/\(Str.ofString "up" == Str.ofString "even")=false/\(Str.ofString "down" == Str.ofString "even")=false /\
    (Str.ofString "even" == Str.ofString "away")=false/\(Str.ofString "in" == Str.ofString "away")=false/\(Str.ofString "up" == Str.ofString "away")=false/\(Str.ofString "down" == Str.ofString "away")=false /\
    (Str.ofString "even" == Str.ofString "in")=false/\(Str.ofString "away" == Str.ofString "in")=false/\(Str.ofString "up" == Str.ofString "in")=false/\(Str.ofString "down" == Str.ofString "in")=false /\
    (Str.ofString "even" == Str.ofString "up")=false/\(Str.ofString "away" == Str.ofString "up")=false/\(Str.ofString "in" == Str.ofString "up")=false/\(Str.ofString "down" == Str.ofString "up")=false /\
    (Str.ofString "even" == Str.ofString "down")=false/\(Str.ofString "away" == Str.ofString "down")=false/\(Str.ofString "in" == Str.ofString "down")=false/\(Str.ofString "up" == Str.ofString "down")=false:=⟨rfl,rfl,rfl,rfl,rfl,rfl,rfl,rfl,rfl,rfl,rfl,rfl,rfl,rfl,rfl,rfl,rfl,rfl,rfl,rfl⟩
theorem nQ{e f u:Int}(h:Wd e f)(u0:0<=u)(u1:u<=eS e f):nb (aZ f u)<=2200:=by
  obtain⟨p1,p3,p4,p5,p6,b1,b2,b3,b4,p7,p8⟩:=gh h;obtain⟨m1,m3,_,_,_⟩:=dH h;obtain⟨g1,g2,g3,g4⟩:=h;by_cases c:u<p2 f
  . rw[fW c];have:=kQ u0 (YF c)
    omega
  . have es:aZ f u=(u%p2 f+p2 f)*p2 (u/p2 f - 1):=Yx c;have y0:=Zf u (show p2 f≠0 by omega)
    have y1:=Y9 u (show 0<p2 f by omega);have d1:1<=u/p2 f:=(Zv (by omega)).mpr (by omega)
    have d2:u/p2 f<p2 e:=ZF (by omega) (by rw[<- p5];omega);have z:=gD (u%p2 f+p2 f) (p2 (u/p2 f - 1))
    rw[lZ (show 0<=u/p2 f - 1 by omega)]at z;have z2:nb (u%p2 f+p2 f)<=62:=eR (by
      have:=fh (a:=f) (b:=60) (by omega) g4;have Mj:p2 60=1152921504606846976:=by decide
      omega)
    rw[es];omega
noncomputable def hz(f u:Int):Int:=if u=0 then 0 else aZ f (u - 1)
theorem FC{p q sd:Int}(hp:p=0\/p=1\/p=2\/p=3\/p=4)(hs:sd=0\/sd=1\/sd=2\/sd=3) :
    (gr p q sd below=true/\((p=0/\(sd=3\/(sd=2/\q%2=1)))\/(p=1/\2<=sd)\/(p=3/\below=false/\sd≠0)\/(p=4/\below=true/\sd≠0))) \/
    (gr p q sd below=false/\((p=0/\(sd<=1\/(sd=2/\q%2=0)))\/(p=1/\sd<=1)\/p=2\/(p=3/\(below=true\/sd=0))\/(p=4/\(below=false\/sd=0)))):=by
  by_cases s0:sd=0
  . subst s0;refine .inr ⟨rfl,?_⟩;rcases hp with rfl | rfl | rfl | rfl | rfl
    . exact .inl ⟨rfl,.inl (by decide)⟩
    . exact .inr (.inl ⟨rfl,by decide⟩)
    . exact .inr (.inr (.inl rfl))
    . exact .inr (.inr (.inr (.inl ⟨rfl,.inr rfl⟩)))
    . exact .inr (.inr (.inr (.inr ⟨rfl,.inr rfl⟩)))
  . have eg:gr p q sd below=gw p (decide (q%2=1)) sd below:=by unfold gr;rw[YL s0,aa0]
    rw[eg];rcases hp with rfl | rfl | rfl | rfl | rfl
    . have b:gw 0 (decide (q%2=1)) sd below=decide (sd=3\/(sd=2/\q%2=1)):=by rw[Bool.decide_or,Bool.decide_and];rfl
      rw[b];by_cases c:sd=3\/(sd=2/\q%2=1)
      . exact .inl ⟨YL c,.inl ⟨rfl,c⟩⟩
      . exact .inr ⟨YG c,.inl ⟨rfl,by omega⟩⟩
    . by_cases c:2<=sd
      . exact .inl ⟨YL c,.inr (.inl ⟨rfl,c⟩)⟩
      . exact .inr ⟨YG c,.inr (.inl ⟨rfl,by omega⟩)⟩
    . exact .inr ⟨rfl,.inr (.inr (.inl rfl))⟩
    . cases below
      . exact .inl ⟨rfl,.inr (.inr (.inl ⟨rfl,rfl,s0⟩))⟩
      . exact .inr ⟨rfl,.inr (.inr (.inr (.inl ⟨rfl,.inl rfl⟩)))⟩
    . cases below
      . exact .inr ⟨rfl,.inr (.inr (.inr (.inr ⟨rfl,.inl rfl⟩)))⟩
      . exact .inl ⟨rfl,.inr (.inr (.inr ⟨rfl,rfl,s0⟩))⟩
def Bt(lo hi:Int)(v:PV):Prop:=cI (some v)=.ok v/\pj [v,.int lo,.int hi]=.ok (.bl false)
theorem Sf{x lo hi:Int}(h:¬(lo<=x/\x<=hi)):Bt lo hi (.int x):=by
  refine⟨rfl,?_⟩;by_cases h0:lo<=x
  . have h1:¬ x<=hi:=fun h1=>h ⟨h0,h1⟩;dsimp![pj,G9,vc,Dw,h0,h1]
  . dsimp![pj,G9,vc,Dw,h0]
theorem Qw(h:Wd e f)(hv:Bt 0 (p2 (1+e+f) - 1) v):qz [e∣f,v]=.exc 2:=by
  dsimp![qz,DE,ze,vd,pk,DB,hv.1,HE h hv.1 hv.2]
theorem FD{e f s:Int}(h:Wd e f)(hs:s=0\/s=1):Wu e f s 0:=⟨h,hs,by decide,aQ _⟩
inductive Tm where
  | dO | none | eA (b:Bool) | num (b:Bool) (n k:Int)
noncomputable def Tm.pv:Tm->PV
  | .dO=>.tup [.str "wrong",.bl false,.tup [.int 0,.int 0]]
  | .none=>.tup [.str "none",.bl false,.tup [.int 0,.int 0]]
  | .eA b=>.tup [.str "endless",.bl b,.tup [.int 0,.int 0]]
  | .num b n k=>.tup [.str "number",.bl b,.tup [.int n,.int k]]
def Tm.ok:Tm->Prop
  | .num _ n k=>(n%2=1\/(n=0/\k=0))/\nb n<=1000
  | _=>True
theorem kn:(Str.ofString "nought" == Str.ofString "loud")=false/\(Str.ofString "small" == Str.ofString "loud")=false/\(Str.ofString "plain" == Str.ofString "loud")=false/\(Str.ofString "endless" == Str.ofString "loud")=false/\(Str.ofString "still" == Str.ofString "loud")=false /\
    (Str.ofString "nought" == Str.ofString "still")=false/\(Str.ofString "small" == Str.ofString "still")=false/\(Str.ofString "plain" == Str.ofString "still")=false/\(Str.ofString "endless" == Str.ofString "still")=false /\
    (Str.ofString "nought" == Str.ofString "endless")=false/\(Str.ofString "small" == Str.ofString "endless")=false/\(Str.ofString "plain" == Str.ofString "endless")=false:=⟨rfl,rfl,rfl,rfl,rfl,rfl,rfl,rfl,rfl,rfl,rfl,rfl⟩
noncomputable def vN(f u:Int):Int:=e8 f (u/p2 f) (u%p2 f)
noncomputable def vK(e f u:Int):Int:=nN e f (u/p2 f)
noncomputable def xN(n:Int):Int:=if n=0 then 0 else n/p2 (tz n)
noncomputable def xK(n k:Int):Int:=if n=0 then 0 else k+tz n
theorem Ml(n k:Int):zi [.int n,.int k]=.ok (.tup [.int (xN n),.int (xK n k)]):=by
  unfold xN xK;by_cases h:n=0
  . rw[Yy h,Yy h,h];exact DM k
  . rw[Yx h,Yx h];exact Hz k h
theorem Bu(n k:Int):xN n%2=1\/(xN n=0/\xK n k=0):=by
  unfold xN xK;by_cases h:n=0
  . rw[Yy h,Yy h];exact .inr ⟨rfl,rfl⟩
  . rw[Yx h];exact .inl (iC h).2.1
theorem FF(n:Int):nb (xN n)<=nb n:=by
  unfold xN;by_cases h:n=0
  . rw[Yy h,h];exact YD _
  . rw[Yx h];obtain⟨h1,h2,h3⟩:=iC h;have h4:n/p2 (tz n)≠0:=by intro z;rw[z]at h2;omega
    have:=sk h4 h1;rw[h3]at this;omega
theorem Qx(h:Wu e f s u)(hu:u<eS e f):sy [e∣f,.int (u+s*p2 (e+f))]=zi [.int (if s=1 then -(vN f u) else vN f u),.int (vK e f u)]:=by
  obtain⟨a,b,c1,c2,c,d⟩:=jU h;have hx:u/p2 f<p2 e - 1:=(acq (aQ f)).mpr hu
  have v:=VB h.1 a b (by rw[c];exact hx);rw[c,d,c1]at v;exact v
theorem HL{e f u:Int}(h:Wd e f)(u0:0<=u):nb (vN f u)<=61:=by
  have g3:=h.2.2.1;have g4:=h.2.2.2
  have Mj:p2 60=1152921504606846976:=by decide
  have a:=fh (a:=f) (b:=60) (by omega) (by omega);have y0:=Zf u (show p2 f≠0 by have:=aQ f;omega)
  have y1:=Y9 u (aQ f);unfold vN e8;split
  . exact eR (by omega)
  . exact eR (by omega)
noncomputable def bp(e f s u:Int):Tm:=if eS e f<u then (if eS e f+p2 (f - 1)<=u then .none else .dO) else if u=eS e f then .eA (decide (s=1)) else .num (decide (s=1)) (xN (vN f u)) (xK (vN f u) (vK e f u))
theorem DV(h:Wu e f s u):(bp e f s u).ok:=by
  unfold bp;split
  . split<;>exact True.intro
  . split
    . exact True.intro
    . exact⟨Bu _ _,YU (FF _) (by have:=HL h.1 h.2.2.1;omega)⟩
theorem cP(h:Wu e f s u):bM [e∣f,.int (u+s*p2 (e+f))]=.ok (bp e f s u).pv:=by
  obtain⟨m1,m3,p3,p4,p7⟩:=dH h.1;have k:=xG h
  have c:=Qo h;have un:=Qp h
  have u0:=h.2.2.1;obtain⟨a1,a2,a3,a4,a5,a6,a7,a8,a9,xJ,xM,lL⟩:=kn;unfold bp;by_cases k1:eS e f<u
  . rw[Yy k1];by_cases k2:eS e f+p2 (f - 1)<=u
    . have kk:dE e f u="still":=by unfold dE;rw[Yx (by omega),Yx (by omega),Yx (by omega),Yx (by omega),Yx (by omega)]
      rw[kk]at k;rw[Yy k2];dsimp![bM,vi,k,a5,cg,Tm.pv]
    . have kk:dE e f u="loud":=by unfold dE;rw[Yx (by omega),Yx (by omega),Yx (by omega),Yx (by omega),Yy (by omega)]
      rw[kk]at k;rw[Yx k2];dsimp![bM,vi,k,cg,Tm.pv]
  . rw[Yx k1];by_cases k3:u=eS e f
    . have kk:dE e f u="endless":=by unfold dE;rw[Yx (by omega),Yx (by omega),Yx (by omega),Yy k3]
      rw[kk]at k;rw[Yy k3];dsimp![bM,vi,k,c,a4,a9,cg,Tm.pv]
    . rw[Yx k3];have w0:Wu e f 0 u:=⟨h.1,.inl rfl,u0,h.2.2.2⟩
      have v:=Qx w0 (by omega);rw[Zl,aad,Yx (by decide),Ml]at v;by_cases k4:u=0
      . have kk:dE e f u="nought":=by unfold dE;rw[Yy k4]
        rw[kk]at k;generalize xN (vN f u)=n at *;generalize xK (vN f u) (vK e f u)=m at *;dsimp![bM,vi,k,c,un,v,a1,a6,xJ,Tm.pv]
      . by_cases k5:u<p2 f
        . have kk:dE e f u="small":=by unfold dE;rw[Yx k4,Yy k5]
          rw[kk]at k;generalize xN (vN f u)=n at *;generalize xK (vN f u) (vK e f u)=m at *;dsimp![bM,vi,k,c,un,v,a2,a7,xM,Tm.pv]
        . have kk:dE e f u="plain":=by unfold dE;rw[Yx k4,Yx k5,Yy (by omega)]
          rw[kk]at k;generalize xN (vN f u)=n at *;generalize xK (vN f u) (vK e f u)=m at *;dsimp![bM,vi,k,c,un,v,a3,a8,lL,Tm.pv]
noncomputable def dP:Tm->Tm->Tm
  | .dO,_=>.dO
  | _,.dO=>.dO
  | .none,_=>.none
  | _,.none=>.none
  | .num a n k,.num b m l=>if n=0\/m=0 then .num (!(a == b)) 0 0 else .num (!(a == b)) (n*m) (k+l)
  | .eA a,.eA b=>.eA (!(a == b))
  | .eA a,.num b m l=>if m=0 then .dO else .eA (!(a == b))
  | .num a n k,.eA b=>if n=0 then .dO else .eA (!(a == b))
theorem l7(x a b:Str):iE (.str x) (.tup [.str a,.str b])=.ok (.bl ((a == x)||((b == x)||false))):=rfl
theorem q6(x a b:Str):gO (.str x) (.tup [.str a,.str b])=.ok (.bl (!((a == x)||((b == x)||false)))):=rfl
theorem tn:(Str.ofString "wrong" == Str.ofString "none")=false/\(Str.ofString "wrong" == Str.ofString "endless")=false/\(Str.ofString "wrong" == Str.ofString "number")=false/\(Str.ofString "none" == Str.ofString "wrong")=false/\(Str.ofString "none" == Str.ofString "endless")=false /\
    (Str.ofString "none" == Str.ofString "number")=false/\(Str.ofString "endless" == Str.ofString "wrong")=false/\(Str.ofString "endless" == Str.ofString "none")=false/\(Str.ofString "endless" == Str.ofString "number")=false/\(Str.ofString "number" == Str.ofString "wrong")=false /\
    (Str.ofString "number" == Str.ofString "none")=false/\(Str.ofString "number" == Str.ofString "endless")=false:=⟨rfl,rfl,rfl,rfl,rfl,rfl,rfl,rfl,rfl,rfl,rfl,rfl⟩
theorem Qy{n k m l:Int}(hn:n%2=1\/(n=0/\k=0))(hm:m%2=1\/(m=0/\l=0))(b1:nb n<=100000)(b2:nb m<=100000) :
    vf [n∣k,m∣l]=.ok (if n=0\/m=0 then (0∣0) else .tup [.int (n*m),.int (k+l)]):=by
  have o:fL n m:=ir b1 b2 (by decide);by_cases h:n=0
  . rw[Yy (.inl h)];subst h;dsimp![vf,He,o,Zl,DM]
  . by_cases h':m=0
    . rw[Yy (.inr h')];subst h';dsimp![vf,He,o,adG,DM]
    . rw[Yx (by omega)];have z1:n%2=1:=by omega
      have z2:m%2=1:=by omega
      have z3:n*m%2=1:=by rw[adH,z1,z2];rfl
      have x:=Hz (k+l) (acd h h');rw[LZ z3,xj,Int.ediv_one,aad]at x;dsimp![vf,He,o,x]
theorem mV(t:Tm):cG [t.pv]=.ok (.bl (match t with | .num _ n k=>decide (n=0)&&decide (k=0) | _=>false)):=by
  obtain⟨t1,t2,t3,t4,t5,t6,t7,t8,t9,pA,sU,vn⟩:=tn;cases t with
  | num b n k =>
    by_cases h:n=0<;>by_cases h2:k=0<;>dsimp![cG,LC,Tm.pv,cg,h,h2]<;>rfl
  | _=>dsimp![cG,LC,Tm.pv,t3,t6,t9]
theorem HM(h:(Tm.num b n k).ok):n=0->k=0:=fun z=>by
  rcases h.1 with h1 | h1
  . omega
  . exact h1.2
theorem Qz(h:Wu e f s u)(g:Wu e f t v):z7 [e∣f,.int (u+s*p2 (e+f)),.int (v+t*p2 (e+f))]=.ok (dP (bp e f s u) (bp e f t v)).pv:=by
  have a:=cP h;have b:=cP g
  have ha:=DV h;have hb:=DV g
  obtain⟨t1,t2,t3,t4,t5,t6,t7,t8,t9,pA,sU,vn⟩:=tn;generalize bp e f s u=x at *;generalize bp e f t v=y at *;have ix:=mV x
  have iy:=mV y;cases x with
  | dO=>cases y<;>simp only[Tm.pv]at a b<;>dsimp![z7,zf,a,b,l7,cg,dP,Tm.pv]
  | none=>cases y<;>simp only[Tm.pv]at a b<;>dsimp![z7,zf,a,b,l7,cg,dP,Tm.pv,t4,t7,pA]
  | eA c =>
    cases y with
    | dO=>simp only[Tm.pv]at a b;dsimp![z7,zf,a,b,l7,cg,dP,Tm.pv,t7]
    | none=>simp only[Tm.pv]at a b;dsimp![z7,zf,a,b,l7,cg,dP,Tm.pv,t7,t4,t8]
    | eA d=>simp only[Tm.pv]at a b ix iy;dsimp![z7,zf,a,b,l7,q6,cg,dP,Tm.pv,t7,t8,ix,iy]
    | num d m l =>
      simp only[Tm.pv]at a b ix iy;by_cases z:m=0
      . have z2:=HM hb z;subst z z2;dsimp![z7,zf,a,b,l7,q6,cg,dP,Tm.pv,t7,t8,pA,sU,vn,ix,iy,Y4,Y7,ZW]
      . dsimp![z7,zf,a,b,l7,q6,cg,dP,Tm.pv,t7,t8,pA,sU,vn,ix,iy,z,Y2,Y5,Zo]
  | num c n k =>
    cases y with
    | dO=>simp only[Tm.pv]at a b;dsimp![z7,zf,a,b,l7,cg,dP,Tm.pv,pA]
    | none=>simp only[Tm.pv]at a b;dsimp![z7,zf,a,b,l7,cg,dP,Tm.pv,pA,t4,sU]
    | eA d =>
      simp only[Tm.pv]at a b ix iy;by_cases z:n=0
      . have z2:=HM ha z;subst z z2;dsimp![z7,zf,a,b,l7,q6,cg,dP,Tm.pv,t7,t8,pA,sU,vn,ix,iy,Y4,Y7,ZW]
      . dsimp![z7,zf,a,b,l7,q6,cg,dP,Tm.pv,t7,t8,pA,sU,vn,ix,iy,z,Y2,Y5,Zo]
    | num d m l =>
      simp only[Tm.pv]at a b ix iy;have mu:=Qy ha.1 hb.1 (YU ha.2 (by decide)) (YU hb.2 (by decide))
      by_cases z:n=0\/m=0
      . rw[Yy z]at mu;have e1:dP (.num c n k) (.num d m l)=.num (!(c == d)) 0 0:=Yy z
        rw[e1];dsimp![z7,zf,a,b,l7,q6,Tm.pv,pA,sU,vn,mu]
      . rw[Yx z]at mu;have e1:dP (.num c n k) (.num d m l)=.num (!(c == d)) (n*m) (k+l):=Yx z
        rw[e1];dsimp![z7,zf,a,b,l7,q6,Tm.pv,pA,sU,vn,mu]
theorem jV(n:Nat)(it:FA)(t:FT)(f:FE)(x0:Option PV)(ρ0:aJ):hU n it t f (x0::ρ0)=(it (x0::ρ0)).bind (j4 n t f (x0::ρ0)):=rfl
theorem jW{l vs:List PV} (h:l.length<=1000000) (e:gf n t f ρ l=.ok vs):j4 n t f ρ l=.ok (.lst vs):=by
  unfold j4;rw[Yy h,e]
theorem l8{f:FE} (g:PV->PV):∀{l:List PV},(∀ p∈l,f (cA n ρ ++[some p])=.ok (g p))->gf n d8 f ρ l=.ok (l.map g)
  | [],_=>rfl
  | p::r,h=>by
    have ih:=l8 g (l:=r) fun q hq=>h q (YM _ hq);have e:=h p YW
    show(match f (cA n ρ ++[some p])with
      | .ok v=>(match gf n d8 f ρ r with
        | .ok vs=>R.ok (v::vs)
        | _=>.stuck)
      | _=>.stuck)=_
    rw[e,ih];rfl
theorem lM{t:FT}{f:FE} (q:PV->Bool) (g:PV->PV):∀{l:List PV},(∀ p∈l,t (cA n ρ ++[some p])=.ok (q p))->(∀ p∈l,q p=true->f (cA n ρ ++[some p])=.ok (g p))->gf n t f ρ l=.ok ((l.filter q).map g)
  | [],_,_=>rfl
  | p::r,h,h2=>by
    have ih:=lM q g (l:=r) (fun z hz=>h z (YM _ hz)) (fun z hz=>h2 z (YM _ hz));have e:=h p YW
    unfold gf;rw[e];by_cases hq:q p=true
    . have e2:=h2 p YW hq;rw[hq];dsimp only;rw[e2,ih,List.filter_cons,Yy hq];rfl
    . have dU:q p=false:=by simpa using hq
      rw[dU];dsimp only;rw[ih,List.filter_cons,Yx hq]
theorem Mm{F:List PV->R PV}{vs:List PV}{v:PV}(h:F vs=.ok v):rV F vs=.ok v:=by unfold rV;rw[h]
noncomputable def Tm.tag:Tm->Str
  | .dO=>"wrong"
  | .none=>"none"
  | .eA _=>"endless"
  | .num _ _ _=>"number"
noncomputable def Tm.pB:Tm->Bool
  | .dO=>true
  | _=>false
noncomputable def Tm.pC:Tm->Bool
  | .none=>true
  | _=>false
theorem pE:∀ ts:List Tm,((ts.map fun t=>PV.str t.tag).all dz)=true
  | []=>rfl
  | t::ts=>by rw[Zn,ZO,pE ts];rfl
theorem DW:∀ ts:List Tm,((ts.map fun t=>PV.str t.tag).any fun z=>dj z (.str "wrong"))=ts.any Tm.pB
  | []=>rfl
  | t::ts=>by rw[Zn,ZD,ZD,DW ts];cases t<;>rfl
theorem DX:∀ ts:List Tm,((ts.map fun t=>PV.str t.tag).any fun z=>dj z (.str "none"))=ts.any Tm.pC
  | []=>rfl
  | t::ts=>by rw[Zn,ZD,ZD,DX ts];cases t<;>rfl
theorem Sg(ts:List Tm):iE (.str "wrong") (.lst (ts.map fun t=>PV.str t.tag))=.ok (.bl (ts.any Tm.pB)):=by
  show(if dz (.str "wrong")&&(ts.map fun t=>PV.str t.tag).all dz then R.ok (PV.bl ((ts.map fun t=>PV.str t.tag).any fun z=>dj z (.str "wrong"))) else .stuck)=_;rw[pE,DW];rfl
theorem Sh(ts:List Tm):iE (.str "none") (.lst (ts.map fun t=>PV.str t.tag))=.ok (.bl (ts.any Tm.pC)):=by
  show(if dz (.str "none")&&(ts.map fun t=>PV.str t.tag).all dz then R.ok (PV.bl ((ts.map fun t=>PV.str t.tag).any fun z=>dj z (.str "none"))) else .stuck)=_;rw[pE,DX];rfl
noncomputable def Si:PV->PV
  | .tup (x::_)=>x
  | _=>.bf
noncomputable def dY(e f:Int)(ts:List Tm):PV:=if ts.any Tm.pB then .tup [.int (eS e f+p2 (f - 1)),.int 1] else if ts.any Tm.pC then .tup [.int (eS e f+p2 (f - 1)),.int 0] else .bf
theorem HN(ts:List Tm)(h:Wd e f)(hl:ts.length<=1000000):sD [e∣f,.lst (ts.map Tm.pv)]=.ok (dY e f ts):=by
  have n:=Al h;have aw:=Sg ts
  have an:=Sh ts;have c:j4 3 d8 (ah ar (ae 3) ‹0›) [some (e∣f),some (.lst (ts.map Tm.pv)),none] (ts.map Tm.pv)=.ok (.lst (ts.map fun t=>PV.str t.tag)):=by
    refine jW (by rw[Zi];exact hl) ?_;rw[l8 Si (fun p hp=>by
      obtain⟨t,_,rfl⟩:=ZJ.mp hp;cases t<;>rfl),aae]
    congr 1;apply Z8;intro t _;cases t<;>rfl
  unfold dY;generalize ts.map Tm.pv=l at *;generalize (ts.map fun t=>PV.str t.tag)=l2 at *;generalize ts.any Tm.pB=b1 at *;generalize ts.any Tm.pC=b2 at *;cases b1<;>cases b2<;>dsimp![sD,P0,jV,c,aw,an,n,YX,Y4,Y2]
theorem QA{e f:Int}(t:Tm)(h:Wd e f):sD [e∣f,.lst [t.pv]]=.ok (dY e f [t]):=HN [t] h (by simp)
theorem xO{e f:Int}(t u:Tm)(h:Wd e f):sD [e∣f,.lst [t.pv,u.pv]]=.ok (dY e f [t,u]):=HN [t,u] h (by simp)
def kM(v:PV):Prop:=cI (some v)=.ok v/\zk [v]=.exc 3
theorem Mn{p i:Int}(w:dq p z k)(h0:0<=i)(h1:i<6):cV (.str z) (.str "s")=.ok (.str (z ++ "s"))/\mM [.str z]=.ok (.str (Txt.upper z))/\∃ v,ar (.lst [.str (z ++ "s"),.bf,.str "",.int 3,.lst [.str z],.str (Txt.upper z)]) (.int i)=.ok v/\kM v:=by
  have:i=0\/i=1\/i=2\/i=3\/i=4\/i=5:=by omega
  rcases w with⟨rfl,rfl,rfl⟩ | ⟨rfl,rfl,rfl⟩ | ⟨rfl,rfl,rfl⟩ | ⟨rfl,rfl,rfl⟩ | ⟨rfl,rfl,rfl⟩<;>refine⟨rfl,rfl,?_⟩<;>rcases this with rfl | rfl | rfl | rfl | rfl | rfl<;>exact⟨_,rfl,rfl,rfl⟩
theorem qE(h:Wd e f)(hv:Bt 0 (p2 (1+e+f) - 1) v):bM [e∣f,v]=.exc 2:=by
  dsimp![bM,vi,ze,vd,pk,DB,hv.1,HE h hv.1 hv.2]
theorem Jp(F:List PV->R PV)(o:FE)(g:FA)(x0:Option PV)(ρ0:aJ):jx F o g (x0::ρ0)=(o (x0::ρ0)).bind (tY F (g (x0::ρ0))):=rfl
theorem Mo(F:List PV->R PV)(vs:List PV)(z:Str):tY F (.ok vs) (.str z)=F (.str z::vs):=rfl
theorem uh(f:Int):vN f 0=0:=by unfold vN e8;rw[Int.zero_ediv,Yy rfl,Int.zero_emod]
theorem sV{f u:Int}(u0:0<u):0<vN f u:=by
  have pf:=aQ f;have y0:=Zf u (show p2 f≠0 by omega)
  have dm:=Zd u (p2 f);unfold vN e8;by_cases c:u/p2 f=0
  . rw[Yy c];rw[c,adG]at dm;omega
  . rw[Yx c];omega
theorem Bv{n:Int}(h:n≠0):xN n≠0:=by
  unfold xN;rw[Yx h];obtain⟨h1,h2,h3⟩:=iC h;intro z;rw[z]at h2;omega
theorem jg(t:Tm):cI (some t.pv)=.ok t.pv:=by cases t<;>rfl
theorem kq{e f u:Int}(h:Wd e f)(u0:0<u)(u1:u<eS e f):0<xN (vN f u)/\nb (xN (vN f u))<=61/\lp e f<=xK (vN f u) (vK e f u)/\xK (vN f u) (vK e f u)<=lp e f+2200/\aZ f u=xN (vN f u)*p2 (xK (vN f u) (vK e f u) - lp e f):=by
  obtain⟨p1,p3,p4,p5,p6,b1,b2,b3,b4,p7,p8⟩:=gh h;obtain⟨m1,m3,_⟩:=dH h;have vp:=sV (f:=f) (u:=u) u0
  have vb:=HL (e:=e) h (YF u0);have pf:=aQ f
  have tl:=Oe (show vN f u≠0 by omega);obtain⟨h1,h2,h3⟩:=iC (show vN f u≠0 by omega);have e1:xN (vN f u)=vN f u/p2 (tz (vN f u)):=Yx (by omega)
  have e2:xK (vN f u) (vK e f u)=vK e f u+tz (vN f u):=Yx (by omega);have bx:=FF (vN f u)
  have xp:0<xN (vN f u):=by
    rw[e1];have pp:=aQ (tz (vN f u))
    have:0<=vN f u/p2 (tz (vN f u)):=Zj (by omega) (by omega);have ne:=Bv (show vN f u≠0 by omega)
    rw[e1]at ne;omega
  have d2:u/p2 f<p2 e:=ZF (by omega) (by rw[<- p5];omega);have vk:lp e f<=vK e f u/\vK e f u<=lp e f+2050/\aZ f u=vN f u*p2 (vK e f u - lp e f):=by
    unfold vK vN nN e8;have le:1 - (p2 (e - 1) - 1) - f=lp e f:=rfl
    rw[le];by_cases c:u<p2 f
    . have z:u/p2 f=0:=Za (by omega) c;rw[z,Yy rfl,Yy rfl,fW c,Zz (by omega) c];have:p2 (lp e f - lp e f)=1:=di (by omega)
      rw[this];omega
    . have z:1<=u/p2 f:=(Zv pf).mpr (by omega);rw[Yx (by omega),Yx (by omega)];have es:aZ f u=(u%p2 f+p2 f)*p2 (u/p2 f - 1):=Yx c
      refine⟨by omega,by omega,?_⟩;rw[es];congr 2;omega
  refine⟨xp,by omega,by omega,by omega,?_⟩;rw[vk.2.2,e2,e1,show vK e f u+tz (vN f u) - lp e f=tz (vN f u)+(vK e f u - lp e f) by omega,cF h1 (by omega),<- YB,h3]
theorem Am{A L C D:Int}(hA:0<=A)(hL:0<=L)(hD:0<=D)(h:A+L=C+D):p2 A*p2 L*p2 (-C)=p2 C*p2 D:=by
  by_cases c:0<=C
  . rw[di (a:=-C) (by omega),Zp,<- cF hA hL,<- cF c hD,h]
  . rw[di (a:=C) (by omega),Y1,<- cF hA hL,<- cF (by omega) (by omega)];congr 1;omega
theorem DY{x:Int}(h:x<=5000):nb (p2 x)<=5001:=by
  by_cases c:0<=x
  . rw[lZ c];omega
  . rw[di (by omega)];decide
def Nv(B t n k:Int):Prop:=(n%2=1\/(n=0/\k=0))/\-B<=k/\n*p2 (k+B)=t
theorem xP(h:Nv B t n k)(h0:t≠0):n%2=1:=by
  rcases h.1 with h1 | ⟨h1,_⟩
  . exact h1
  . exact absurd h.2.2 (by rw[h1,Zl];exact ZC h0)
theorem Ao(h:Nv B t n k)(h0:t=0):n=0/\k=0:=by
  rcases h.1 with h1 | h1
  . exact absurd h.2.2 (by
      have:=aQ (k+B);rw[h0];exact acd (by omega) (by omega))
  . exact h1
theorem pF{B t n k:Int}{b:Nat}(hB:0<=B)(h:Nv B t n k)(hb:nb t<=b):nb n<=b/\k<=b:=by
  obtain⟨h1,h2,h3⟩:=h;by_cases hn:n=0
  . subst hn;rcases h1 with h1 | ⟨_,rfl⟩
    . omega
    . exact⟨by rw[Sd];omega,by omega⟩
  . have e:=sk hn (b:=k+B) (by omega);rw[h3]at e;omega
theorem xQ{B s p t:Int}(hB:0<=B)(hp : -B<=p)(e:s*p2 (p+B)=t):∃ n k,zi [.int s,.int p]=.ok (n∣k)/\Nv B t n k:=by
  by_cases hs:s=0
  . subst hs;exact⟨0,0,DM p,.inr ⟨rfl,rfl⟩,by omega,by rw[Zl]at *;exact e⟩
  . obtain⟨h1,h2,h3⟩:=iC hs;refine⟨_,_,Hz p hs,.inl h2,by omega,?_⟩;have a:p+tz s+B=tz s+(p+B):=by omega
    rw[a,cF h1 (by omega),<- YB,h3,e]
theorem xR{k p B:Int}(h:p<=k)(h2:0<=p+B):p2 (k+B)=p2 (k - p)*p2 (p+B):=by
  rw[<- cF (by omega) h2];congr 1;omega
theorem QB(hn:Nv B t n k)(hm:Nv B u m l)(hB:0<=B)(vo:B<=1000000)(b1:nb n<=1000000)(b2:nb m<=1000000)(k2:k<=1000000)(l2:l<=1000000) :
    ∃ a b,xt [n∣k,m∣l]=.ok (a∣b)/\Nv B (t+u) a b:=by
  obtain⟨a1,a2,a3⟩:=min_le (k:=k) (l:=l);have d1:=hn.2.1
  have d2:=hm.2.1;have o1:gM n (k - if l<k then l else k):=eO (by omega) b1 (by omega)
  have o2:gM m (l - if l<k then l else k):=eO (by omega) b2 (by omega);have e:(n*p2 (k - if l<k then l else k)+m*p2 (l - if l<k then l else k))*p2 ((if l<k then l else k)+B)=t+u:=by
    generalize (if l<k then l else k)=p at *;rw[ZK,<- hn.2.2,<- hm.2.2,xR (k:=k) (p:=p) (by omega) (by omega),xR (k:=l) (p:=p) (by omega) (by omega),YB,YB]
  obtain⟨a,b,f1,f2⟩:=xQ hB (by omega) e;exact⟨a,b,by dsimp![xt,PR,Hc,PQ,o1,o2,f1],f2⟩
noncomputable def sgn(x:Int):Int:=if x=0 then 0 else if x<0 then -1 else 1
noncomputable def vT(B:Int):Tm->Int
  | .num b n k=>(if b then -n else n)*p2 (k+B)
  | _=>0
noncomputable def Tm.sg:Tm->Bool
  | .num b _ _=>b
  | .eA b=>b
  | _=>false
noncomputable def Tm.xS:Tm->Bool
  | .num _ n k=>decide (n=0)&&decide (k=0)
  | _=>false
noncomputable def Tm.xT:Tm->Bool
  | .eA _=>true
  | _=>false
def sW(B:Int)(b:Nat):Tm->Prop
  | .num _ n k=>(n%2=1\/(n=0/\k=0))/\-B<=k/\nb (n*p2 (k+B))<=b
  | _=>False
noncomputable def jE(B:Int):List Tm->Int
  | []=>0
  | t::r=>vT B t+jE B r
theorem FH{B:Int}{b c:Nat}{t:Tm}{S N K:Int}{l v2 v3:Option PV}(hB:0<=B)(vo:B<=100000)(ht:sW B b t)(hN:Nv B S N K)(hS:nb S<=c)(hb:b<=c)(hc:c<=500000) :
    ∃ N' K' Mp,vm [l,some (N∣K),some t.pv,v3]=.next [l,some (N'∣K'),some t.pv,Mp]/\Nv B (S+vT B t) N' K'/\nb (S+vT B t)<=c+1:=by
  cases t with
  | num s n k =>
    obtain⟨h1,h2,h3⟩:=ht;obtain⟨n1,n2⟩:=pF hB hN hS;have hv:Nv B (vT B (.num s n k)) (if s then -n else n) k:=by
      refine⟨?_,h2,rfl⟩;cases s
      . exact h1
      . show(-n)%2=1\/(-n=0/\k=0);omega
    have VL:nb (vT B (.num s n k))<=b:=by
      cases s
      . exact h3
      . show nb (-n*p2 (k+B))<=b;rw[aal,gX];exact h3
    obtain⟨m1,m2⟩:=pF hB hv VL;obtain⟨N',K',e1,e2⟩:=QB hN hv hB (by omega) (by omega) (by omega) (by omega) (by omega);have VM:nb (vT B (.num s n k))<=c:=by omega
    refine⟨N',K',some (n∣k),?_,e2,xF hS VM⟩;cases s
    . have iU:xt [N∣K,n∣k]=.ok (N'∣K'):=e1;dsimp![vm,Tm.pv,List.set,iU]
    . have iU:xt [N∣K,.tup [.int (-n),.int k]]=.ok (N'∣K'):=e1;dsimp![vm,Tm.pv,List.set,iU]
  | _=>exact ht.elim
theorem xU{B:Int}(hB:0<=B)(vo:B<=100000)(l:Option PV):∀(ts:List Tm)(c:Nat)(S N K:Int)(v2 v3:Option PV),(∀ t∈ts,sW B b t)->Nv B S N K->nb S<=c->b<=c->c+ts.length<=400000 ->
    ∃ N' K' VN Mp,forL 2 vm (ts.map Tm.pv) [l,some (N∣K),v2,v3]=.next [l,some (N'∣K'),VN,Mp]/\Nv B (S+jE B ts) N' K'/\nb (S+jE B ts)<=c+ts.length
  | [],c,S,N,K,v2,v3,_,h,hS,_,_=>⟨N,K,v2,v3,rfl,by rw[show S+jE B []=S from aad S];exact h,by rw[show S+jE B []=S from aad S];exact hS⟩
  | t::r,c,S,N,K,v2,v3,ht,h,hS,hb,hc=>by
    rw[YS]at hc;obtain⟨N1,K1,w3,e1,e2,e3⟩:=FH (l:=l) (v2:=v2) (v3:=v3) hB vo (ht t YW) h hS hb (by omega);obtain⟨N2,K2,w4,w5,f1,f2,f3⟩:=xU hB vo l r (c+1) _ N1 K1 (some t.pv) w3 (fun x hx=>ht x (YM _ hx)) e2 e3 (by omega) (by omega);have es:S+jE B (t::r)=S+vT B t+jE B r:=by show S+(vT B t+jE B r)=_;omega
    refine⟨N2,K2,w4,w5,?_,by rw[es];exact f2,by rw[es,YS];omega⟩;rw[Zn,forL_cons];show(match vm [l,some (N∣K),some t.pv,v3]with
      | .next ρ'=>forL 2 vm (r.map Tm.pv) ρ'
      | .cont ρ'=>forL 2 vm (r.map Tm.pv) ρ'
      | .brk ρ'=>.next ρ'
      | o=>o)=_
    rw[e1];exact f1
theorem Sj{B:Int}(hB:0<=B):Nv B 0 0 0:=⟨.inr ⟨rfl,rfl⟩,by omega,Zl _⟩
theorem QC{B:Int}{b:Nat}{ts:List Tm}(hB:0<=B)(vo:B<=100000)(hb:b<=100000)(hl:ts.length<=1000)(ht:∀ t∈ts,sW B b t) :
    ∃ N K,Hq [.lst (ts.map Tm.pv)]=.ok (N∣K)/\Nv B (jE B ts) N K/\nb (jE B ts)<=b+ts.length:=by
  obtain⟨N,K,v2,v3,e1,e2,e3⟩:=xU hB vo (some (.lst (ts.map Tm.pv))) ts b 0 0 0 none none ht (Sj hB) (by have:nb 0=0:=rfl;omega) (YD _) (by omega);rw[ZV]at e2 e3;refine⟨N,K,?_,e2,e3⟩;generalize ts.map Tm.pv=l at *;dsimp![Hq,P5,List.replicate,List.set,e1]
theorem q8:∀ bs:List Bool,gU (bs.map PV.bl)=some bs
  | []=>rfl
  | b::r=>by
    show(gU (r.map PV.bl)).map (b::·)=_;rw[q8 r];rfl
theorem xV(bs:List Bool):jy [.lst (bs.map PV.bl)]=.ok (.bl (bs.all id)):=by unfold jy;simp only[q8]
theorem kc(bs:List Bool):oW [.lst (bs.map PV.bl)]=.ok (.bl (bs.any id)):=by unfold oW;simp only[q8]
theorem all_map{α:Type}(f:α->Bool):∀ l:List α,(l.map f).all id=l.all f
  | []=>rfl
  | x::r=>by rw[Zn,ZO,ZO,all_map f r];rfl
theorem any_map{α:Type}(f:α->Bool):∀ l:List α,(l.map f).any id=l.any f
  | []=>rfl
  | x::r=>by rw[Zn,ZD,ZD,any_map f r];rfl
noncomputable def ui(ts:List Tm)(z:Str):Bool:=if ts.all Tm.xS then (if ts.any Tm.sg then (if ts.all Tm.sg then true else z == Str.ofString "down") else false) else z == Str.ofString "down"
theorem VO{ts:List Tm}{z:Str}(hl:ts.length<=1000):Ho [.lst (ts.map Tm.pv),.str z]=.ok (.bl (ui ts z)):=by
  have c1:j4 3 d8 (ah ar (ae 3) ‹1›) [some (.lst (ts.map Tm.pv)),some (.str z),none] (ts.map Tm.pv)=.ok (.lst ((ts.map Tm.sg).map PV.bl)):=by
    refine jW (by rw[Zi];omega) ?_;rw[l8 (fun p=>match ar p (.int 1)with | .ok v=>v | _=>.bf) (fun p hp=>by
      obtain⟨t,_,rfl⟩:=ZJ.mp hp;cases t<;>rfl),aae,aae]
    congr 1;apply Z8;intro t _;cases t<;>rfl
  have c2:j4 3 d8 (au (rV cG) (af (ae 3) (aq))) [some (.lst (ts.map Tm.pv)),some (.str z),some (.lst ((ts.map Tm.sg).map PV.bl))] (ts.map Tm.pv)=.ok (.lst ((ts.map Tm.xS).map PV.bl)):=by
    refine jW (by rw[Zi];omega) ?_;rw[l8 (fun p=>match cG [p]with | .ok v=>v | _=>.bf) (fun p hp=>by
      obtain⟨t,_,rfl⟩:=ZJ.mp hp;have io:=mV t
      show au (rV cG) (af (ae 3) aq) [some (.lst (ts.map Tm.pv)),some (.str z),some (.lst ((ts.map Tm.sg).map PV.bl)),some t.pv]=_;have nx:=Mm io
      rw[io];dsimp![jg,nx]),aae,aae]
    congr 1;apply Z8;intro t _;show(match cG [t.pv]with | .ok v=>v | _=>.bf)=PV.bl t.xS
    rw[mV t];cases t<;>rfl
  have a1:=xV (ts.map Tm.xS);have a2:=xV (ts.map Tm.sg)
  have a3:=kc (ts.map Tm.sg);rw[all_map]at a1 a2;rw[any_map]at a3;unfold ui;generalize ts.map Tm.pv=l at *;generalize (ts.map Tm.sg).map PV.bl=l1 at *;generalize (ts.map Tm.xS).map PV.bl=l2 at *;generalize ts.all Tm.xS=x at *;generalize ts.all Tm.sg=y at *;generalize ts.any Tm.sg=w at *;cases x<;>cases y<;>cases w<;>dsimp![Ho,P4,List.replicate,List.set,jV,c1,c2,a1,a2,a3,Y4,YX,Y2]
theorem DZ{ts:List Tm}{r0 r1 r2 r3 r4 r5:Option PV}(hl:ts.length<=1000)(h:∀ t∈ts,t.xT=false) :
    j4 6 (aH (ah bD (ah ar (ae 6) ‹0›) (fC (.str "endless")))) (ah ar (ae 6) ‹1›) [r0,r1,r2,r3,r4,r5] (ts.map Tm.pv)=.ok (.lst []):=by
  refine jW (by rw[Zi];omega) ?_;have ef:∀ p∈ts.map Tm.pv,(fun _:PV=>false) p=true->ah ar (ae 6) ‹1› (cA 6 [r0,r1,r2,r3,r4,r5] ++[some p])=.ok (.int 0):=fun p _ x=>by cases x
  rw[lM (fun _=>false) (fun _=>.int 0) (fun p hp=>by
    obtain⟨t,ht,rfl⟩:=ZJ.mp hp;have:=h t ht
    cases t with
    | eA b=>cases this
    | _=>rfl) ef]
  have:(ts.map Tm.pv).filter (fun _=>false)=[]:=List.filter_eq_nil_iff.mpr (fun _ _=>by simp);rw[this];rfl
theorem vq:iR (.lst [])=.ok false:=rfl
theorem xW{t:Tm} (h:sW B b t):t.pB=false/\t.pC=false/\t.xT=false:=by
  cases t with
  | num _ _ _=>exact⟨rfl,rfl,rfl⟩
  | _=>exact h.elim
theorem FI{ts:List Tm} (h:∀ t∈ts,t.pB=false/\t.pC=false):dY e f ts=.bf:=by
  have a:ts.any Tm.pB=false:=by
    rw[abL];intro t ht;rw[(h t ht).1];decide
  have b:ts.any Tm.pC=false:=by
    rw[abL];intro t ht;rw[(h t ht).2];decide
  unfold dY;rw[a,b];rfl
theorem VP{e f B p:Int}{b:Nat}{ts:List Tm}(h:Wd e f)(w:dq p z k)(hB:0<=B)(vo:B<=100000)(hb:b<=100000)(hl:ts.length<=1000)(ht:∀ t∈ts,sW B b t) :
    (jE B ts=0->zc [e∣f,.lst (ts.map Tm.pv),.str z]=.ok (.tup [.int (0+(if ui ts z then 1 else 0)*p2 (e+f)),.int 0])) /\
    (jE B ts≠0->∃ N K,Nv B (jE B ts) N K/\N≠0/\∀ W mk,zp [e∣f,.int N,.int K,.int 1,.str z]=.ok (W∣mk)->zc [e∣f,.lst (ts.map Tm.pv),.str z]=.ok (W∣mk)):=by
  have cw:=lJ h;have wy:=(gN w).1
  have nn:=HN ts h (by omega);rw[FI fun t x=>⟨(xW (ht t x)).1,(xW (ht t x)).2.1⟩]at nn;have en:=fun r0 r1 r2 r3 r4 r5=>DZ (ts:=ts) (r0:=r0) (r1:=r1) (r2:=r2) (r3:=r3) (r4:=r4) (r5:=r5) hl fun t x=>(xW (ht t x)).2.2
  obtain⟨N,K,s1,s2,s3⟩:=QC hB vo hb hl ht;have QD:=VO (ts:=ts) (z:=z) hl
  have ws:=sP (u:=0) ⟨h,.inl rfl,by decide,aQ _⟩ (ui ts z);constructor
  . intro h0;obtain⟨n0,k0⟩:=Ao s2 h0;subst n0 k0;generalize ts.map Tm.pv=l at *;generalize ui ts z=y at *;generalize (0+(if y=true then (1:Int) else 0)*p2 (e+f))=W at *;dsimp![zc,xA,List.replicate,List.set,cw,wy,nn,eN,jV,en,vq,s1,QD,ws]
  . intro h0;have no:=xP s2 h0
    have n0:¬ N=0:=by omega
    refine⟨N,K,s2,n0,fun W mk tk=>?_⟩;generalize ts.map Tm.pv=l at *;dsimp![zc,xA,List.replicate,List.set,cw,wy,nn,eN,jV,en,vq,s1,n0,tk,Zo]
theorem gx{e f u:Int}(h:Wd e f)(u0:0<=u)(u1:u<eS e f):0<=xN (vN f u)/\nb (xN (vN f u))<=61/\lp e f<=xK (vN f u) (vK e f u)/\xK (vN f u) (vK e f u)<=lp e f+2200/\aZ f u=xN (vN f u)*p2 (xK (vN f u) (vK e f u) - lp e f)/\(xN (vN f u)=0↔u=0) /\
    (xN (vN f u)%2=1\/(xN (vN f u)=0/\xK (vN f u) (vK e f u)=0))/\0<=aZ f u/\(aZ f u=0↔u=0):=by
  obtain⟨l1,l2,l3,l4⟩:=dS h;by_cases c:u=0
  . subst c;have e1:xN (vN f 0)=0:=by rw[uh];rfl
    have e2:xK (vN f 0) (vK e f 0)=0:=by rw[uh];rfl
    have e3:aZ f 0=0:=fW (aQ f);rw[e1,e2,e3];refine⟨by decide,by decide,by omega,by omega,by rw[Zl],⟨fun _=>rfl,fun _=>rfl⟩,.inr ⟨rfl,rfl⟩,by decide,⟨fun _=>rfl,fun _=>rfl⟩⟩
  . obtain⟨a1,a2,a3,a4,a5⟩:=kq h (show 0<u by omega) u1;have sp:=sR (f:=f) (u:=0) (v:=u) (by decide) (by omega)
    rw[fW (aQ f)]at sp;refine⟨by omega,a2,a3,a4,a5,⟨fun x=>by omega,fun x=>by omega⟩,Bu _ _,by omega,⟨fun x=>by omega,fun x=>by omega⟩⟩
noncomputable def sS(f s u:Int):Int:=if s=1 then -(aZ f u) else aZ f u
theorem Oi{f s u:Int}(u0:0<=u):ab (sS f s u)=aZ f u:=by
  have:=pz (f:=f) u0;unfold sS;split
  . rw[Ji,pW this]
  . exact pW this
theorem iu{e f s u:Int}(hu:u<eS e f):bp e f s u=.num (decide (s=1)) (xN (vN f u)) (xK (vN f u) (vK e f u)):=by
  unfold bp;rw[Yx (by omega),Yx (by omega)]
theorem Mq{e f s u t v:Int}(h:Wd e f)(u0:0<=u)(u1:u<eS e f)(v0:0<=v)(v1:v<eS e f) :
    vT (-(2*lp e f)) (dP (bp e f s u) (bp e f t v))=(if (!(decide (s=1) == decide (t=1))) then -(aZ f u*aZ f v) else aZ f u*aZ f v)/\sW (-(2*lp e f)) 4400 (dP (bp e f s u) (bp e f t v)) /\
      (dP (bp e f s u) (bp e f t v)).sg=(!(decide (s=1) == decide (t=1)))/\(dP (bp e f s u) (bp e f t v)).xS=decide (aZ f u*aZ f v=0):=by
  obtain⟨a1,a2,a3,a4,a5,a6,a7,a8,a9⟩:=gx h u0 u1;obtain⟨b1,b2,b3,b4,b5,b6,b7,b8,b9⟩:=gx h v0 v1;have n1:=nQ h u0 (by omega)
  have n2:=nQ h v0 (by omega);have n3:=gD (aZ f u) (aZ f v)
  obtain⟨l1,l2,l3,l4⟩:=dS h;rw[iu u1,iu v1];generalize (decide (s=1))=x at *;generalize (decide (t=1))=y at *;generalize xN (vN f u)=n at *;generalize xN (vN f v)=m at *;generalize xK (vN f u) (vK e f u)=k at *;generalize xK (vN f v) (vK e f v)=l at *;by_cases c:n=0\/m=0
  . have e1:dP (.num x n k) (.num y m l)=.num (!(x == y)) 0 0:=Yy c;have z:aZ f u*aZ f v=0:=by
      rcases c with c | c
      . rw[a9.mpr (a6.mp c),Zl]
      . rw[b9.mpr (b6.mp c),adG]
    rw[e1,z];refine⟨?_,⟨.inr ⟨rfl,rfl⟩,by omega,by rw[Zl];decide⟩,rfl,rfl⟩;show(if (!(x == y))=true then -(0:Int) else 0)*_=_
    cases (!(x == y))<;>simp
  . have e1:dP (.num x n k) (.num y m l)=.num (!(x == y)) (n*m) (k+l):=Yx c;have z1:n%2=1:=by omega
    have z2:m%2=1:=by omega
    have z3:n*m%2=1:=by rw[adH,z1,z2];rfl
    have pv:n*m*p2 (k+l + -(2*lp e f))=aZ f u*aZ f v:=by
      rw[a5,b5,show k+l + -(2*lp e f)=(k - lp e f)+(l - lp e f) by omega,cF (by omega) (by omega)]
      simp only[YI,Zk,YB]
    have nz:¬ aZ f u*aZ f v=0:=by
      intro z;rcases abl.mp z with z | z
      . exact c (.inl (a6.mpr (a9.mp z)))
      . exact c (.inr (b6.mpr (b9.mp z)))
    rw[e1];refine⟨?_,⟨.inl z3,by omega,by rw[pv];omega⟩,rfl,?_⟩
    . show(if (!(x == y))=true then -(n*m) else n*m)*p2 (k+l + -(2*lp e f))=_;cases (!(x == y))
      . simp only[YX,Y2];exact pv
      . simp only[Y4,aal,pv]
    . show(decide (n*m=0)&&decide (k+l=0))=_;rw[YG nz,YG (by omega)];rfl
end Cm
namespace HP
open PySem Mi Cm
inductive Kd where
  | iz | number | fT | loud | Bw
noncomputable def QE(b:Bool)(n k:Int):Kd->Tm
  | .iz=>.num b 0 0
  | .number=>.num b n k
  | .fT=>.eA b
  | .loud=>.dO
  | .Bw=>.none
def Is(t:Tm)(b:Bool)(i:Kd):Prop:=∃ n k:Int,n≠0/\t=QE b n k i
noncomputable def QF(N S P:Int):Kd->Kd->PV
  | .loud,_=>.tup [.int N,.int 1]
  | _,.loud=>.tup [.int N,.int 1]
  | .fT,.fT=>.tup [.int N,.int 1]
  | .iz,.iz=>.tup [.int N,.int 1]
  | .Bw,_=>.tup [.int N,.int 0]
  | _,.Bw=>.tup [.int N,.int 0]
  | .fT,_=>.tup [.int (S+P),.int 0]
  | _,.iz=>.tup [.int (S+P),.int 2]
  | _,_=>.tup [.int P,.int 0]
theorem Oj{e f s u t v p:Int}{N m:Int}(h:Wu e f s u)(g:Wu e f t v)(w:dq p z k)(nv:dY e f [bp e f s u,bp e f t v]=(N∣m)) :
    z8 [e∣f,.int (u+s*p2 (e+f)),.int (v+t*p2 (e+f)),.str z]=.ok (N∣m):=by
  have t1:=cP h;have t2:=cP g
  have a1:=jg (bp e f s u);have a2:=jg (bp e f t v)
  have nn:=xO (bp e f s u) (bp e f t v) h.1;have wy:=(gN w).1
  rw[nv]at nn;generalize (bp e f s u).pv=T1 at *;generalize (bp e f t v).pv=T2 at *;generalize u+s*p2 (e+f)=w1 at *;generalize v+t*p2 (e+f)=w2 at *;dsimp![z8,zQ,List.replicate,List.set,t1,t2,a1,a2,wy,bR,nn,lK]
theorem Sk(h:Wu e f s u)(g:Wu e f t v)(w:dq p z k)(hi:Is (bp e f s u) (decide (s=1)) i)(hj:Is (bp e f t v) (decide (t=1)) j)(hn:i≠.number\/j≠.number)(ki:i=.iz\/i=.number\/i=.fT)(kj:j=.iz\/j=.number\/j=.fT) :
    z8 [e∣f,.int (u+s*p2 (e+f)),.int (v+t*p2 (e+f)),.str z]=.ok (QF (eS e f+p2 (f - 1)) (eS e f) ((s+t)%2*p2 (e+f)) i j):=by
  have t1:=cP h;have t2:=cP g
  have nn:=xO (bp e f s u) (bp e f t v) h.1;have Ap:=mV (bp e f s u)
  have ia:=mV (bp e f t v);have wy:=(gN w).1
  have nf:=Al h.1;have en:=HG h.1
  obtain⟨m1,m3,q3,q4,q7⟩:=dH h.1;have pf:=aQ (e+f)
  have wS:=sP (u:=eS e f) ⟨h.1,.inl rfl,by omega,by omega⟩ (!(decide (s=1) == decide (t=1)));have w0:=sP (u:=0) ⟨h.1,.inl rfl,by omega,by omega⟩ (!(decide (s=1) == decide (t=1)))
  have sx:(if (!(decide (s=1) == decide (t=1)))=true then (1:Int) else 0)=(s+t)%2:=by
    rcases h.2.1 with rfl | rfl<;>rcases g.2.1 with rfl | rfl<;>rfl
  rw[sx]at wS w0;rw[ZV]at w0;generalize decide (s=1)=b at *;generalize decide (t=1)=c at *;generalize (s+t)%2*p2 (e+f)=P at *;generalize bp e f s u=x at *;generalize bp e f t v=y at *;generalize u+s*p2 (e+f)=w1 at *;generalize v+t*p2 (e+f)=w2 at *;obtain⟨n,n2,K4,rfl⟩:=hi;obtain⟨m,m2,Gr,rfl⟩:=hj;obtain⟨a1,a2,a3,a4,a5,a6,a7,a8,a9,xJ,xM,lL⟩:=tn;rcases ki with rfl | rfl | rfl<;>rcases kj with rfl | rfl | rfl<;>first
    | (exfalso;rcases hn with x | x<;>exact x rfl)
    | (
       simp only[QE,Tm.pv]at t1 t2 nn Ap ia;simp only[dY,ZD,List.any_nil,Tm.pB,Tm.pC,abG,adC,Bool.true_or,Y4,YX,Y2]at nn;dsimp![z8,zQ,Hl,LG,List.replicate,List.set,t1,t2,wy,nn,lK,eN,Ap,ia,K4,Gr,nf,en,wS,w0,cg,a2,a5,a8,a9,lL,Y7,Y5,ZW,Zo,QF])
end HP
namespace Mr
open PySem Mi Cm
noncomputable def FJ(e f s u:Int):PV:=if u=0\/u+s*p2 (e+f)=eS e f then .tup [.int (u+s*p2 (e+f)),.int 0] else if eS e f+p2 (f - 1)<=u then .tup [.int (eS e f+p2 (f - 1)),.int 0] else .tup [.int (eS e f+p2 (f - 1)),.int 1]
theorem Sl(h:Wu e f s u)(w:dq p z k)(hu:u=0\/eS e f<=u\/(s=1/\u<eS e f/\0<u)):zb [e∣f,.int (u+s*p2 (e+f)),.str z]=.ok (FJ e f s u):=by
  have tm:=cP h;have wy:=(gN w).1
  have nf:=Al h.1;have nn:=QA (bp e f s u) h.1
  have io:=mV (bp e f s u);have u0:=h.2.2.1
  have u1:=h.2.2.2;obtain⟨m1,m3,p3,p4,p7⟩:=dH h.1;obtain⟨t1,t2,t3,t4,t5,t6,t7,t8,t9,pA,sU,vn⟩:=tn;have ws:(s=0/\u+s*p2 (e+f)=u)\/(s=1/\u+s*p2 (e+f)=u+p2 (e+f)):=by rcases h.2.1 with rfl | rfl<;>omega
  unfold FJ;generalize hw:u+s*p2 (e+f)=x at *;by_cases k1:eS e f<u
  . by_cases k2:eS e f+p2 (f - 1)<=u
    . have et:bp e f s u=.none:=by unfold bp;rw[Yy k1,Yy k2]
      rw[et]at tm nn;rw[Yx (by omega),Yy k2];simp only[Tm.pv]at tm nn;have e2:dY e f [.none]=.tup [.int (eS e f+p2 (f - 1)),.int 0]:=rfl
      rw[e2]at nn;dsimp![zb,sE,List.replicate,List.set,tm,wy,bR,nn,lK]
    . have et:bp e f s u=.dO:=by unfold bp;rw[Yy k1,Yx k2]
      rw[et]at tm nn;rw[Yx (by omega),Yx k2];simp only[Tm.pv]at tm nn;have e2:dY e f [.dO]=.tup [.int (eS e f+p2 (f - 1)),.int 1]:=rfl
      rw[e2]at nn;dsimp![zb,sE,List.replicate,List.set,tm,wy,bR,nn,lK]
  . by_cases k3:u=eS e f
    . have et:bp e f s u=.eA (decide (s=1)):=by unfold bp;rw[Yx k1,Yy k3]
      rw[et]at tm nn io;simp only[Tm.pv]at tm nn io;have e2:dY e f [.eA (decide (s=1))]=.bf:=rfl
      rw[e2]at nn;rcases ws with⟨ws,wx⟩ | ⟨ws,wx⟩
      . rw[Yy (by omega)];rw[YG (show ¬ s=1 by omega)]at tm nn io;dsimp![zb,sE,List.replicate,List.set,tm,wy,bR,nn,eN,io,cg]
      . rw[Yx (by omega),Yx (by omega)];rw[YL ws]at tm nn io;dsimp![zb,sE,List.replicate,List.set,tm,wy,bR,nn,eN,io,nf]
    . have et:bp e f s u=.num (decide (s=1)) (xN (vN f u)) (xK (vN f u) (vK e f u)):=by unfold bp;rw[Yx k1,Yx k3]
      by_cases k4:u=0
      . have z1:xN (vN f u)=0:=by rw[k4,uh];rfl
        have z2:xK (vN f u) (vK e f u)=0:=by rw[k4,uh];rfl
        rw[z1,z2]at et;rw[et]at tm nn io;simp only[Tm.pv]at tm nn io;have e2:dY e f [.num (decide (s=1)) 0 0]=.bf:=rfl
        rw[e2]at nn;rw[Yy (.inl k4)];generalize decide (s=1)=b at *;dsimp![zb,sE,List.replicate,List.set,tm,wy,bR,nn,eN,io,Y7,ZW]
      . have z1:xN (vN f u)≠0:=Bv (by have:=sV (f:=f) (u:=u) (by omega);omega)
        have s1:s=1:=by omega
        generalize xN (vN f u)=n at *;generalize xK (vN f u) (vK e f u)=m at *;rw[YL s1]at et;rw[et]at tm nn io;simp only[Tm.pv]at tm nn io;have e2:dY e f [.num true n m]=.bf:=rfl
        rw[e2]at nn;rw[Yx (by omega),Yx (by omega)];dsimp![zb,sE,List.replicate,List.set,tm,wy,bR,nn,eN,io,z1,nf,Y5,Zo]
end Mr
namespace Cm
open PySem Mi
theorem VQ{W mk:Int} (h:Wu e f s u) (g:Wu e f t v) (u0:0<u) (u1:u<eS e f) (v0:0<v) (v1:v<eS e f) (w:dq p z k) (x:Bool) (hx:(!(decide (s=1) == decide (t=1)))=x)
    (tk:zp [e∣f,.int (if x then -(xN (vN f u)) else xN (vN f u)),.int (xK (vN f u) (vK e f u) - xK (vN f v) (vK e f v)),.int (xN (vN f v)),.str z]=.ok (W∣mk)) :
    z8 [e∣f,.int (u+s*p2 (e+f)),.int (v+t*p2 (e+f)),.str z]=.ok (W∣mk):=by
  have t1:=cP h;have t2:=cP g
  have nn:=xO (bp e f s u) (bp e f t v) h.1;have Ap:=mV (bp e f s u)
  have ia:=mV (bp e f t v);have wy:=(gN w).1
  have n1:=(kq h.1 u0 u1).1;have n2:=(kq g.1 v0 v1).1
  have et:bp e f s u=.num (decide (s=1)) (xN (vN f u)) (xK (vN f u) (vK e f u)):=by unfold bp;rw[Yx (by omega),Yx (by omega)]
  have qF:bp e f t v=.num (decide (t=1)) (xN (vN f v)) (xK (vN f v) (vK e f v)):=by unfold bp;rw[Yx (by omega),Yx (by omega)]
  rw[et]at t1 nn Ap;rw[qF]at t2 nn ia;have e2:∀(b c:Bool)(n k m l:Int),dY e f [.num b n k,.num c m l]=.bf:=fun _ _ _ _ _ _=>rfl
  rw[e2]at nn;simp only[Tm.pv]at t1 t2 nn Ap ia;obtain⟨a1,a2,a3,a4,a5,a6,a7,a8,a9,xJ,xM,lL⟩:=tn;have z1:¬ xN (vN f u)=0:=by omega
  have z2:¬ xN (vN f v)=0:=by omega
  generalize decide (s=1)=b at *;generalize decide (t=1)=c at *;generalize xN (vN f u)=n at *;generalize xN (vN f v)=m at *;generalize xK (vN f u) (vK e f u)=n' at *;generalize xK (vN f v) (vK e f v)=m' at *;generalize u+s*p2 (e+f)=w1 at *;generalize v+t*p2 (e+f)=w2 at *;cases x<;>simp only[Y4,YX,Y2]at tk<;>dsimp![z8,zQ,Hl,LG,List.replicate,List.set,t1,t2,wy,bR,nn,eN,Ap,ia,z1,z2,lL,Y5,Zo,hx,tk]
theorem HQ{e f u:Int}(h:Wd e f)(u0:0<=u)(u1:u<eS e f):lp e f<=vK e f u/\aZ f u=vN f u*p2 (vK e f u - lp e f):=by
  obtain⟨p1,p3,p4,p5,p6,b1,b2,b3,b4,p7,p8⟩:=gh h;have pf:=aQ f
  unfold vK vN nN e8;have le:1 - (p2 (e - 1) - 1) - f=lp e f:=rfl
  rw[le];by_cases c:u<p2 f
  . have z:u/p2 f=0:=Za u0 c;rw[z,Yy rfl,Yy rfl,fW c,Zz u0 c];have:p2 (lp e f - lp e f)=1:=di (by omega)
    rw[this];omega
  . have z:1<=u/p2 f:=(Zv pf).mpr (by omega);rw[Yx (by omega),Yx (by omega)];have es:aZ f u=(u%p2 f+p2 f)*p2 (u/p2 f - 1):=Yx c
    refine⟨by omega,?_⟩;rw[es];congr 2;omega
theorem VR(h:Wu e f s u)(u1:u<eS e f):∃ n k,sy [e∣f,.int (u+s*p2 (e+f))]=.ok (n∣k)/\Nv (-(lp e f)) (sS f s u) n k:=by
  obtain⟨l1,l2,l3,l4⟩:=dS h.1;obtain⟨a1,a2⟩:=HQ h.1 h.2.2.1 u1;rw[Qx h u1];refine xQ (by omega) (by omega) ?_;rw[show vK e f u + -(lp e f)=vK e f u - lp e f by omega]
  unfold sS;split
  . rw[aal,<- a2]
  . exact a2.symm
noncomputable def vr(e f p s u:Int):Int:=aZ f u/p2 (-(lp e f))+(if gr p (aZ f u/p2 (-(lp e f))) (cB (aZ f u%p2 (-(lp e f))) (p2 (-(lp e f)))) (decide (s=1)) then 1 else 0)
noncomputable def qG(e f p s u:Int):Int:=if s=1 then -(vr e f p s u) else vr e f p s u
theorem VS{kk:Nat} (h:Wu e f s u) (u1:u<eS e f) (w:dq p z kk) (nv:Nv (-(lp e f)) (sS f s u) n k):DI [n∣k,.ins kk]=.ok (.int (qG e f p s u)):=by
  obtain⟨l1,l2,l3,l4⟩:=dS h.1;have u0:=h.2.2.1
  have s0:=pz (f:=f) u0;have HR:=nQ h.1 u0 (YF u1)
  have VT:nb (sS f s u)<=2200:=by
    unfold sS;split
    . rw[gX];exact HR
    . exact HR
  obtain⟨n1,k1⟩:=pF (by omega) nv VT;have k0:=nv.2.1
  have h3:nb (1*p2 (0 - k))<=9000:=by
    rw[Y1];have:=DY (x:=0 - k) (by omega)
    omega
  have ins:=Mc (n:=n) (k:=k) (d:=1) (g:=0) (by decide) (by omega) (by decide) (by omega) (by omega) h3;have pD:=aQ (-(lp e f))
  have pU:0<1*p2 (0 - k):=by rw[Y1];exact aQ _
  have VU:ab n*p2 (k + -(lp e f))=aZ f u:=by
    have:=Oi (f:=f) (s:=s) u0;rw[<- this,<- nv.2.2];have pp:=aQ (k + -(lp e f))
    unfold ab;by_cases c:n<0
    . have:n*p2 (k + -(lp e f))<0:=abR c pp;rw[Yy c,Yy this,aal]
    . have:¬ n*p2 (k + -(lp e f))<0:=by have:=Zg (show 0<=n by omega) (YF pp);omega
      rw[Yx c,Yx this]
  have r0:=Zf (aZ f u) (show p2 (-(lp e f))≠0 by omega)
  have r1:=Y9 (aZ f u) pD;have dm:=Zd (aZ f u) (p2 (-(lp e f)))
  have eq:ab n*p2 (k - 0)*p2 (-(lp e f))=(aZ f u/p2 (-(lp e f))*p2 (-(lp e f))+aZ f u%p2 (-(lp e f)))*(1*p2 (0 - k)):=by
    have p:=Am (A:=k + -(lp e f)) (L:=0) (C:=k) (D:=-(lp e f)) (by omega) (by decide) (by omega) (by omega);rw[xj,Zp]at p;rw[YI (aZ f u/p2 (-(lp e f))),dm,<- VU,adI,Y1,Int.zero_sub,YB,<- p,<- YB]
  obtain⟨r,er,x0,x1,x2⟩:=ug pU pD r0 r1 eq;have dv:ab n*p2 (k - 0)/(1*p2 (0 - k))=aZ f u/p2 (-(lp e f)):=by
    rw[er,YI (aZ f u/p2 (-(lp e f))),ab5,aaz _ _ (by omega),Za x0 x1];omega
  rw[dv]at ins;have e5:ab n*p2 (k - 0) - aZ f u/p2 (-(lp e f))*(1*p2 (0 - k))=r:=by omega
  rw[e5,nP pU pD x2]at ins;have nz:n<0↔sS f s u<0:=by
    rw[<- nv.2.2];have pp:=aQ (k + -(lp e f))
    constructor
    . intro c;exact abR c pp
    . intro c;apply Zc;intro d;have:=Zg (show 0<=n by omega) (YF pp)
      omega
  have sz:aZ f u=0\/decide (n<0)=decide (s=1):=by
    by_cases c:aZ f u=0
    . exact .inl c
    . right;unfold sS at nz;rcases h.2.1 with rfl | rfl
      . rw[Yx (by decide)]at nz;rw[YG (by omega),YG (by decide)]
      . rw[Yy rfl]at nz;rw[YL (by omega),YL rfl]
  have st:=Mf (q:=aZ f u/p2 (-(lp e f))) (decide (n<0)) w (pX (aZ f u%p2 (-(lp e f))) (p2 (-(lp e f))));have fin:(if decide (n<0)=true then -(if gr p (aZ f u/p2 (-(lp e f))) (cB (aZ f u%p2 (-(lp e f))) (p2 (-(lp e f)))) (decide (n<0)) then aZ f u/p2 (-(lp e f))+1 else aZ f u/p2 (-(lp e f))) else (if gr p (aZ f u/p2 (-(lp e f))) (cB (aZ f u%p2 (-(lp e f))) (p2 (-(lp e f)))) (decide (n<0)) then aZ f u/p2 (-(lp e f))+1 else aZ f u/p2 (-(lp e f))))=qG e f p s u:=by
    unfold qG vr;rcases sz with c | c
    . have z0:aZ f u/p2 (-(lp e f))=0:=by rw[c];exact Int.zero_ediv _
      have z1:aZ f u%p2 (-(lp e f))=0:=by rw[c];exact Int.zero_emod _
      have z2:cB 0 (p2 (-(lp e f)))=0:=rfl;have z3:∀ b:Bool,gr p 0 0 b=false:=fun b=>rfl
      rw[z0,z1,z2];simp only[z3,YX,Y2];split<;>split<;>rfl
    . rw[c];generalize gr p (aZ f u/p2 (-(lp e f))) (cB (aZ f u%p2 (-(lp e f))) (p2 (-(lp e f)))) (decide (s=1))=g;by_cases y:s=1
      . rw[YL y,Yy y,Yy rfl];cases g<;>simp
      . rw[YG y,Yx y,Yx (by decide)];cases g<;>simp
  rw[<- fin];generalize (if gr p (aZ f u/p2 (-(lp e f))) (cB (aZ f u%p2 (-(lp e f))) (p2 (-(lp e f)))) (decide (n<0)) then aZ f u/p2 (-(lp e f))+1 else aZ f u/p2 (-(lp e f)))=G at *;generalize aZ f u/p2 (-(lp e f))=Q at *;generalize cB (aZ f u%p2 (-(lp e f))) (p2 (-(lp e f)))=sd at *;by_cases c:n<0
  . rw[YL c]at st ⊢;dsimp![DI,LK,List.replicate,List.set,bR,c,ins,st,Y4]
  . rw[YG c]at st ⊢;dsimp![DI,LK,List.replicate,List.set,bR,c,ins,st,YX,Y2]
theorem Aq:∀ n:Nat,∃ r:Nat,r*r<=n/\n<(r+1)*(r+1)
  | 0=>⟨0,by decide,by decide⟩
  | n+1=>by
    obtain⟨r,h1,h2⟩:=Aq n;by_cases h:n+1<(r+1)*(r+1)
    . exact⟨r,by omega,h⟩
    . refine⟨r+1,by omega,?_⟩;have e:(r+1+1)*(r+1+1)=(r+1)*(r+1)+2*(r+1)+1:=by rw[Nat.add_mul,Nat.mul_add,Nat.one_mul,Nat.mul_one];omega
      omega
theorem FK{n:Int}(h:0<=n):∃ r:Int,0<=r/\r*r<=n/\n<(r+1)*(r+1):=by
  obtain⟨r,a,b⟩:=Aq n.toNat;refine⟨r,by omega,?_,?_⟩
  . have:((r*r:Nat):Int)<=(n.toNat:Int):=by exact_mod_cast a
    push_cast at this;omega
  . have:(n.toNat:Int)<(((r+1)*(r+1):Nat):Int):=by exact_mod_cast b
    push_cast at this;omega
theorem sX{a b:Int}(ha:0<=a)(hb:0<=b)(h:a*a<b*b):a<b:=by
  by_cases c:a<b
  . exact c
  . have:=Int.mul_le_mul (show b<=a by omega) (show b<=a by omega) hb ha;omega
theorem vt{n g r:Int}(hg:0<g)(hr:r*r<=n):r<=(g+n/g)/2:=by
  have sq:0<=(g - r)*(g - r):=by
    by_cases c:0<=g - r
    . exact Zg c c
    . have:=Zg (a:=r - g) (b:=r - g) (by omega) (by omega);have e:(g - r)*(g - r)=(r - g)*(r - g):=by
        have:g - r = -(r - g):=by omega
        rw[this,Int.neg_mul_neg]
      omega
  have e:(g - r)*(g - r)=g*g - 2*(g*r)+r*r:=by
    rw[aab,Int.mul_sub,Int.mul_sub,YI r g];omega
  have h1:(2*r - g)*g<=n:=by
    have:(2*r - g)*g=2*(g*r) - g*g:=by rw[aab,YB,YI r g]
    omega
  have h2:2*r - g<=n/g:=(Zv hg).mpr h1;omega
theorem vv{n g r:Int}(xD:0<=r)(hg:r<g)(hn:n<(r+1)*(r+1)):n/g<=r:=by
  have:n/g<r+1:=by
    refine ZF (by omega) ?_;have:(r+1)*(r+1)<=(r+1)*g:=Zh (by omega) (by omega)
    omega
  omega
theorem Bx{n g r:Int}(hg:0<g)(xD:0<=r)(hn:n<(r+1)*(r+1))(h:¬(g+n/g)/2<g):g<=r:=by
  by_cases c:g<=r
  . exact c
  . have:=vv xD (show r<g by omega) hn;omega
theorem By(t:FT)(b:FS)(n:Nat)(ρ:aJ):eK t b (n+1) ρ=match t ρ with
    | .ok true=>(match b ρ with
      | .next ρ'=>eK t b n ρ'
      | .cont ρ'=>eK t b n ρ'
      | .brk ρ'=>.next ρ'
      | o=>o)
    | .ok false=>.next ρ
    | .exc c=>.exc c ρ
    | .stuck=>.stuck:=rfl
theorem VV(t:FT)(b:FS)(x0:Option PV)(ρ0:aJ):iS t b (x0::ρ0)=eK t b la (x0::ρ0):=rfl
theorem Ms{n r:Int}(xD:0<=r)(hr:r*r<=n)(hn:n<(r+1)*(r+1))(h0:0<n)(hb:nb n<=10000) :
    ∀(j:Nat)(g:Int)(f:Nat),r<=g->g - r<p2 j->nb g<=6000->0<g->j<f ->
      eK (aH (ah jt (ae 2) (ae 1))) LD f [some (.int n),some (.int g),some (.int ((g+n/g)/2))]=.next [some (.int n),some (.int r),some (.int ((r+n/r)/2))]:=by
  intro j
  induction j with
  | zero =>
    intro g f h1 h2 h3 h4 h5;obtain⟨f,rfl⟩:∃ k,f=k+1:=⟨f - 1,by omega⟩;have e:p2 ((0:Nat):Int)=1:=rfl
    have:g=r:=by omega
    subst this;have:=vt h4 hr
    have nl:¬(g+n/g)/2<g:=by omega
    rw[By];dsimp![nl]
  | succ j ih =>
    intro g f h1 h2 h3 h4 h5;obtain⟨f,rfl⟩:∃ k,f=k+1:=⟨f - 1,by omega⟩;have ge:=vt h4 hr
    by_cases c:(g+n/g)/2<g
    . have iF:r<g:=by omega
      have le:=vv xD iF hn;have ej:p2 ((j+1:Nat):Int)=2*p2 (j:Int):=by
        have:((j+1:Nat):Int)=(j:Int)+1:=by omega
        rw[this,dD (by omega)]
      have hp:0<(g+n/g)/2:=by
        by_cases z:r=0
        . subst z;exfalso;have:n<1:=by simpa using hn
          omega
        . omega
      have gk:nb ((g+n/g)/2)<=6000:=YU (kQ (by omega) (by omega)) h3;have i:=ih ((g+n/g)/2) f ge (by omega) gk hp (by omega)
      have od:j8 ((g+n/g)/2):=jS hp gk (by decide);rw[By];generalize (g+n/g)/2=g' at *;dsimp![LD,c,od];exact i
    . have:=Bx h4 xD hn c;have:g=r:=by omega
      subst this;rw[By];dsimp![c]
theorem VW{n:Int}(h0:0<=n)(hb:nb n<=10000):∃ r,DH [.int n]=.ok (.int r)/\0<=r/\r*r<=n/\n<(r+1)*(r+1):=by
  have iw:vc [.int n]=.ok (.bl true):=by dsimp![vc,Dw]
  have nn:¬ n<0:=by omega
  by_cases z:n=0
  . subst z;exact⟨0,by dsimp![DH,LF,iw],by decide,by decide,by decide⟩
  . obtain⟨r,r0,r1,r2⟩:=FK h0;refine⟨r,?_,r0,r1,r2⟩;obtain⟨s1,s2⟩:=l6 (show 0<n by omega);have ha:0<=((nb n:Int)+1)/2:=by omega
    have hs:gM 1 (((nb n:Int)+1)/2):=eO (n:=1) ha (by decide) (by omega);have bg:nb (p2 (((nb n:Int)+1)/2))<=6000:=by rw[lZ ha];omega
    have sq:p2 (nb n)<=p2 (((nb n:Int)+1)/2)*p2 (((nb n:Int)+1)/2):=by
      rw[<- cF ha ha];exact fh (by omega) (by omega)
    have gp:=aQ (((nb n:Int)+1)/2);have lt:r<p2 (((nb n:Int)+1)/2):=sX r0 (by omega) (by omega)
    have VX:p2 (((nb n:Int)+1)/2) - r<p2 (((((nb n:Int)+1)/2).toNat+1:Nat):Int):=by
      have e:((((((nb n:Int)+1)/2).toNat+1:Nat)):Int)=((nb n:Int)+1)/2+1:=by omega
      rw[e,dD ha];omega
    have nw:=Ms r0 r1 r2 (by omega) hb _ _ la (by omega) VX bg gp (by
      have:(((nb n:Int)+1)/2).toNat+1<=5003:=by omega
      exact aaQ this (by decide))
    have od:j8 (p2 (((nb n:Int)+1)/2)):=jS gp bg (by decide);dsimp![DH,LF,iw,nn,z,Y1,hs,od,VV,nw]
def Sq(S L H sd:Int):Prop:=(sd=0/\S=L*L)\/(sd=1/\L*L<S/\4*S<(L+H)*(L+H))\/(sd=3/\(L+H)*(L+H)<4*S/\S<H*H)
theorem FL{Z m T sd:Int}(hT:0<T)(h1:m*m<=Z)(h2:Z<(m+1)*(m+1))(hs:sd=if Z - m*m=0 then 0 else if Z - m*m<=m then 1 else 3):Sq (Z*(T*T)) (m*T) ((m+1)*T) sd:=by
  have hW:=ZU hT hT;have e1:m*T*(m*T)=m*m*(T*T):=by simp only[YI,Zk,YB]
  have e2:(m+1)*T*((m+1)*T)=(m+1)*(m+1)*(T*T):=by
    generalize m+1=x;simp only[YI,Zk,YB]
  have e3:(m*T+(m+1)*T)*(m*T+(m+1)*T)=(2*m+1)*(2*m+1)*(T*T):=by
    have:m*T+(m+1)*T=(2*m+1)*T:=by rw[<- ZK];congr 1;omega
    rw[this];generalize 2*m+1=x;simp only[YI,Zk,YB]
  have e4:(2*m+1)*(2*m+1)=4*(m*m)+4*m+1:=by
    rw[ZK,Int.mul_add,Y1,Zp];have:2*m*(2*m)=4*(m*m):=by rw[YB,Zk m,<- YB];rfl
    omega
  have e5:4*(Z*(T*T))=4*Z*(T*T):=(YB _ _ _).symm;unfold Sq;rw[e1,e2,e3,e5];generalize T*T=W at *;rw[hs];by_cases c0:Z - m*m=0
  . rw[Yy c0];left;refine⟨rfl,?_⟩;congr 1;omega
  . rw[Yx c0];right;by_cases c1:Z - m*m<=m
    . rw[Yy c1];left;exact⟨rfl,YT (by omega) hW,YT (by omega) hW⟩
    . rw[Yx c1];right;exact⟨rfl,YT (by omega) hW,YT (by omega) hW⟩
theorem VY{e f n k p x:Int}{kk:Nat}(h:Wd e f)(w:dq p z kk)(n0:0<n)(nl:n<2*p2 f)(k0:lp e f<=k)(k1:k<=3000)(hx:Ht n 1 x)(x0:0<=x)(Ym:x+k<p2 (e - 1))
    (hh:vg [.int n,.int k,.int 1]=.ok (.int (x+k))) :
    ∃ t q sd,0<=t/\0<=q/\q<2*p2 f/\(t=0\/p2 f<=q)/\t+2<p2 e - 1/\(sd=0\/sd=1\/sd=2\/sd=3)/\Hn [e∣f,.ins kk,n∣k]=.ok (sT e f p t q sd false) /\
      Sq (n*p2 (k - 2*lp e f)) (q*p2 t) ((q+1)*p2 t) sd/\(q<p2 f↔n*p2 (k - 2*lp e f)<p2 f*p2 f):=by
  obtain⟨l1,l2,l3,l4⟩:=dS h;obtain⟨p1,p3,p4,p5,p6,b1,b2,b3,b4,p7,p8⟩:=gh h;obtain⟨g1,g2,g3,g4⟩:=id h;have pe:p2 e=2*p2 (e - 1):=by rw[<- dD (by omega)];congr 1;omega
  have DU:lp e f=2 - p2 (e - 1) - f:=by unfold lp;omega
  obtain⟨DQ,CV⟩:=hx;rw[di (a:=-x) (by omega),Zp,Y1]at DQ CV;have xf:x<=f:=by
    apply Zc;intro c;have:=fh (a:=f+1) (b:=x) (by omega) (by omega)
    rw[dD (by omega)]at this;omega
  have le:=DN h;have Sm:1 - (p2 (e - 1) - 1) - f=lp e f:=rfl
  rw[Sm]at le;generalize hH:(x+k)/2=H;obtain⟨P,hP,sp⟩:∃ P,(P=H - f/\lp e f<=H - f\/P=lp e f/\H - f<lp e f)/\pq [e∣f,.int H]=.ok (.int P):=by
    by_cases c:lp e f>H - f
    . refine⟨lp e f,.inr ⟨rfl,by omega⟩,?_⟩;dsimp![pq,DG,le,c,Y4]
    . refine⟨H - f,.inl ⟨rfl,by omega⟩,?_⟩;dsimp![pq,DG,le,c,Y2]
  have D2:0<=k - 2*P:=by omega
  have Yn:k - 2*P<=6000:=by omega
  have os:gM n (k - 2*P):=eO (n:=62) D2 (eR (by
      have:=fh (a:=f) (b:=60) (by omega) g4;have Mj:p2 60=1152921504606846976:=by decide
      omega)) (by omega)
  have Z0:0<n*p2 (k - 2*P):=ZU n0 (aQ _);have f2:p2 (2*f)=p2 f*p2 f:=by rw[<- cF (by omega) (by omega)];congr 1;omega
  have zu:n*p2 (k - 2*P)<p2 (2*f)*4:=by
    have a1:n*p2 (k - 2*P)<2*p2 x*p2 (k - 2*P):=YT CV (aQ _);have a2:2*p2 x*p2 (k - 2*P)=p2 (x+1+(k - 2*P)):=by rw[cF (by omega) D2,dD x0]
    have a3:=fh (a:=x+1+(k - 2*P)) (b:=2*f+2) (by omega) (by omega);have a4:p2 (2*f+2)=p2 (2*f)*4:=cF (by omega) (by decide)
    omega
  have zl:P=H - f->p2 (2*f)<=n*p2 (k - 2*P):=fun c=>by
    have a1:p2 x*p2 (k - 2*P)<=n*p2 (k - 2*P):=YJ DQ (YF (aQ _));have a2:p2 x*p2 (k - 2*P)=p2 (x+(k - 2*P)):=(cF x0 D2).symm
    have a3:=fh (a:=2*f) (b:=x+(k - 2*P)) (by omega) (by omega);omega
  have zs:H - f<lp e f->P=lp e f->n*p2 (k - 2*P)<p2 (2*f):=fun c c2=>by
    have a1:n*p2 (k - 2*P)<2*p2 x*p2 (k - 2*P):=YT CV (aQ _);have a2:2*p2 x*p2 (k - 2*P)=p2 (x+1+(k - 2*P)):=by rw[cF (by omega) D2,dD x0]
    have a3:=fh (a:=x+1+(k - 2*P)) (b:=2*f) (by omega) (by omega);omega
  have ft:p2 (2*f)<=p2 120:=fh (by omega) (by omega);have bz:nb (n*p2 (k - 2*P))<=10000:=YU (kQ (by omega) (show n*p2 (k - 2*P)<=p2 120*4 by omega)) (by decide)
  obtain⟨m,wr,m0,m1,m2⟩:=VW (YF Z0) bz;have split:n*p2 (k - 2*lp e f)=n*p2 (k - 2*P)*(p2 (P - lp e f)*p2 (P - lp e f)):=by
    rw[YB,<- cF (by omega) (by omega),<- cF D2 (by omega)];congr 2;omega
  generalize hZ:n*p2 (k - 2*P)=Z at *;rw[f2]at zu zl zs;have mu:m<2*p2 f:=by
    refine sX m0 (by omega) ?_;have:2*p2 f*(2*p2 f)=p2 f*p2 f*4:=by rw[YB,Zk (p2 f),<- YB,YI _ (4:Int)];rfl
    omega
  have ml:P=H - f->p2 f<=m:=fun c=>by
    have:=zl c;have:=sX (a:=p2 f) (b:=m+1) (by omega) (by omega) (by omega)
    omega
  have ms:H - f<lp e f->P=lp e f->m<p2 f:=fun c c2=>by
    have:=zs c c2;exact sX m0 (by omega) (by omega)
  have Yo:p2 f<=p2 60:=fh (by omega) g4;have Mj:p2 60=1152921504606846976:=by decide
  have Mt:fL m m:=mR (by omega) (by omega);have oP:fL 2 P:=mR (by decide) (by decide)
  have rs:zR [n∣k,.int P]=.ok (.tup [.int m,.int (if Z - m*m=0 then 0 else if Z - m*m<=m then 1 else 3)]):=by
    by_cases c0:Z - m*m=0
    . rw[Yy c0];dsimp![zR,Hm,List.replicate,List.set,oP,os,hZ,wr,Mt,c0]
    . rw[Yx c0];by_cases c1:Z - m*m<=m
      . rw[Yy c1];dsimp![zR,Hm,List.replicate,List.set,oP,os,hZ,wr,Mt,c0,c1]
      . rw[Yx c1];dsimp![zR,Hm,List.replicate,List.set,oP,os,hZ,wr,Mt,c0,c1]
  have VZ:=FL (T:=p2 (P - lp e f)) (aQ _) m1 m2 rfl;have Mu:(if Z - m*m=0 then (0:Int) else if Z - m*m<=m then 1 else 3)=0\/(if Z - m*m=0 then (0:Int) else if Z - m*m<=m then 1 else 3)=1\/(if Z - m*m=0 then (0:Int) else if Z - m*m<=m then 1 else 3)=2\/(if Z - m*m=0 then (0:Int) else if Z - m*m<=m then 1 else 3)=3:=by
    split
    . exact .inl rfl
    . split
      . exact .inr (.inl rfl)
      . exact .inr (.inr (.inr rfl))
  generalize (if Z - m*m=0 then (0:Int) else if Z - m*m<=m then 1 else 3)=sd at *;have V1:P=lp e f+(P - lp e f):=by omega
  have QG:=sp;rw[V1]at QG;have st:=Qs (t:=P - lp e f) (q:=m) (sd:=sd) (hh:=H) false h w (by omega) (by omega) m0 mu Mu QG (by
    rcases hP with⟨a,b⟩ | ⟨a,b⟩
    . have:=ml a;constructor<;>intro<;>omega
    . have:=ms b a;constructor<;>intro<;>omega)
  refine⟨P - lp e f,m,sd,by omega,m0,mu,?_,?_,Mu,?_,?_,?_⟩
  . rcases hP with⟨a,b⟩ | ⟨a,b⟩
    . exact .inr (ml a)
    . exact .inl (by omega)
  . omega
  . generalize sT e f p (P - lp e f) m sd false=v at *;dsimp![Hn,P1,List.replicate,List.set,hh,hH,sp,rs,bR,st]
  . rw[split];exact VZ
  . rw[split];have T1:=aQ (P - lp e f)
    rcases hP with⟨a,b⟩ | ⟨a,b⟩
    . have z1:=ml a;have z2:=zl a
      have:Z*1<=Z*(p2 (P - lp e f)*p2 (P - lp e f)):=Zh (by have:=ZU T1 T1;omega) (by omega);constructor<;>intro<;>omega
    . have z1:=ms b a;have z2:=zs b a
      have e0:p2 (P - lp e f)=1:=di (by omega);rw[e0,Zp,Zp];exact⟨fun _=>z2,fun _=>z1⟩
end Cm
namespace An
open PySem Mi Cm
def AW(e f:Int)(r:R PV):Prop:=∃ s u m,r=.ok (.tup [.int (u+s*p2 (e+f)),.int m])/\Wu e f s u/\0<=m/\m<32
def TW(e f:Int)(r:R PV):Prop:=∃ s u m,r=.ok (.tup [.int (u+s*p2 (e+f)),.int m])/\Wu e f s u/\(m=0\/m=16\/m=20\/m=24)
theorem TW.aw(h:TW e f r):AW e f r:=by
  obtain⟨s,u,m,a,b,c⟩:=h;exact⟨s,u,m,a,b,by omega,by omega⟩
theorem sY{e f s u m:Int}{r:R PV}(h:Wd e f)(hr:r=.ok (.tup [.int (u+s*p2 (e+f)),.int m]))(hs:s=0\/s=1)(u0:0<=u)(u1:u<p2 (e+f))(m0:0<=m)(m1:m<32):AW e f r:=⟨s,u,m,hr,⟨h,hs,u0,u1⟩,m0,m1⟩
theorem g6{e f m:Int}{r:R PV}(h:Wd e f)(hr:r=.ok (.tup [.int (eS e f+p2 (f - 1)),.int m]))(m0:0<=m)(m1:m<32):AW e f r:=by
  obtain⟨a1,a2,a3,a4,a5⟩:=dH h;exact sY (s:=0) h (by rw[hr,Zl,aad]) (.inl rfl) (by omega) (by omega) m0 m1
section
variable {e f p:Int}{z:Str}{k:Nat}
theorem HS{t q sd:Int}(h:Wd e f)(t0:0<=t)(q0:0<=q)(b:Bool):TW e f (.ok (sT e f p t q sd b)):=by
  obtain⟨a1,a2,a3,a4,a5⟩:=dH h;have hs:sg b=0\/sg b=1:=by cases b<;>simp[sg]
  have tp:0<=t*p2 f:=Zg t0 (YF (aQ f));unfold sT;by_cases c:qD f p t q sd b<eS e f
  . rw[Yy c];refine⟨_,_,_,rfl,⟨h,hs,?_,by omega⟩,?_⟩
    . unfold qD;split<;>omega
    . unfold HJ;split
      . exact .inl rfl
      . split
        . exact .inr (.inr (.inr rfl))
        . exact .inr (.inl rfl)
  . rw[Yx c];refine⟨_,_,_,rfl,⟨h,hs,?_,?_⟩,.inr (.inr (.inl rfl))⟩
    . split<;>omega
    . split<;>omega
theorem nR{n j d:Int}(h:Wd e f)(w:dq p z k)(hn:n≠0)(hd:0<d)(b1:nb n<=5000)(b2:nb d<=3900)(k0:lp e f - 5000<=j)(k1:j<=10000):TW e f (zp [e∣f,.int n,.int j,.int d,.str z]):=by
  obtain⟨t,q,a,b,st⟩:=Jn (s:=ab n) h (xE hn) hd (by rw[Bq];exact b1) b2 k0 k1;rw[Jo h w hn hd (by omega) b2 st];exact HS h st.t0 st.q0 _
def Tg(e f:Int)(t:Tm):Prop:=t=.dO\/t=.none\/(∃ b,t=.eA b)\/sW (-(2*lp e f)) 4400 t
theorem jh(h:Wu e f s u):bp e f s u=.dO\/bp e f s u=.none\/(u=eS e f/\bp e f s u=.eA (decide (s=1)))\/(u<eS e f/\bp e f s u=.num (decide (s=1)) (xN (vN f u)) (xK (vN f u) (vK e f u))):=by
  unfold bp;by_cases c1:eS e f<u
  . rw[Yy c1];by_cases c2:eS e f+p2 (f - 1)<=u
    . rw[Yy c2];exact .inr (.inl rfl)
    . rw[Yx c2];exact .inl rfl
  . rw[Yx c1];by_cases c3:u=eS e f
    . rw[Yy c3];exact .inr (.inr (.inl ⟨c3,rfl⟩))
    . rw[Yx c3];exact .inr (.inr (.inr ⟨by omega,rfl⟩))
theorem Mv(h:Wu e f s u)(hu:u<eS e f):sW (-(2*lp e f)) 4400 (bp e f s u):=by
  obtain⟨l1,l2,l3,l4⟩:=dS h.1;have u0:=h.2.2.1
  obtain⟨a1,a2,a3,a4,a5,a6,a7,a8,a9⟩:=gx h.1 u0 hu;rw[iu hu];refine⟨a7,by omega,?_⟩;have e1:xN (vN f u)*p2 (xK (vN f u) (vK e f u) + -(2*lp e f))=aZ f u*p2 (-(lp e f)):=by
    rw[a5,YB,<- cF (by omega) (by omega)];congr 2;omega
  rw[e1];have x1:=gD (aZ f u) (p2 (-(lp e f)))
  have x2:=nQ h.1 u0 (YF hu);have x3:=lZ (b:=-(lp e f)) (by omega)
  omega
theorem mW(h:Wu e f s u):Tg e f (bp e f s u):=by
  rcases jh h with c | c | ⟨_,c⟩ | ⟨hu,_⟩
  . exact .inl c
  . exact .inr (.inl c)
  . exact .inr (.inr (.inl ⟨_,c⟩))
  . exact .inr (.inr (.inr (Mv h hu)))
theorem Ar(h:Wu e f s u)(g:Wu e f t v):Tg e f (dP (bp e f s u) (bp e f t v)):=by
  rcases jh h with c | c | ⟨_,c⟩ | ⟨hu,c⟩
  . rw[c];exact .inl rfl
  . rcases jh g with d | d | ⟨_,d⟩ | ⟨hv,d⟩<;>rw[c,d]
    . exact .inl rfl
    . exact .inr (.inl rfl)
    . exact .inr (.inl rfl)
    . exact .inr (.inl rfl)
  . rcases jh g with d | d | ⟨_,d⟩ | ⟨hv,d⟩<;>rw[c,d]
    . exact .inl rfl
    . exact .inr (.inl rfl)
    . exact .inr (.inr (.inl ⟨_,rfl⟩))
    . show Tg e f (if xN (vN f v)=0 then .dO else .eA _);split
      . exact .inl rfl
      . exact .inr (.inr (.inl ⟨_,rfl⟩))
  . rcases jh g with d | d | ⟨_,d⟩ | ⟨hv,d⟩
    . rw[c,d];exact .inl rfl
    . rw[c,d];exact .inr (.inl rfl)
    . rw[c,d];show Tg e f (if xN (vN f u)=0 then .dO else .eA _)
      split
      . exact .inl rfl
      . exact .inr (.inr (.inl ⟨_,rfl⟩))
    . exact .inr (.inr (.inr (Mq (s:=s) (t:=t) h.1 h.2.2.1 hu g.2.2.1 hv).2.1))
theorem mX{ts:List Tm}(h:Wd e f)(w:dq p z k)(hl:ts.length<=100)(ht:∀ t∈ts,Tg e f t):AW e f (zc [e∣f,.lst (ts.map Tm.pv),.str z]):=by
  obtain⟨l1,l2,l3,l4⟩:=dS h;obtain⟨m1,m3,p3,p4,p7⟩:=dH h;have cw:=lJ h
  have wy:=(gN w).1;have n1:=HN ts h (by omega)
  unfold dY at n1;by_cases hw:ts.any Tm.pB=true
  . rw[Yy hw]at n1;refine g6 (m:=1) h ?_ (by decide) (by decide);generalize ts.map Tm.pv=L at *;dsimp![zc,xA,List.replicate,List.set,cw,wy,bR,n1,lK]
  . rw[Yx hw]at n1;by_cases hn:ts.any Tm.pC=true
    . rw[Yy hn]at n1;refine g6 (m:=0) h ?_ (by decide) (by decide);generalize ts.map Tm.pv=L at *;dsimp![zc,xA,List.replicate,List.set,cw,wy,bR,n1,lK]
    . rw[Yx hn]at n1;by_cases he:ts.any Tm.xT=true
      . have ce:∀ r0 r1 r2 r3 r4 r5:Option PV,j4 6 (aH (ah bD (ah ar (ae 6) ‹0›) (fC (.str "endless")))) (ah ar (ae 6) ‹1›) [r0,r1,r2,r3,r4,r5] (ts.map Tm.pv)=.ok (.lst (((ts.filter Tm.xT).map Tm.sg).map PV.bl)):=fun r0 r1 r2 r3 r4 r5=>by
          refine jW (by rw[Zi];omega) ?_;rw[lM (fun p=>match p with | .tup [.str z,_,_]=>z == Str.ofString "endless" | _=>false) (fun p=>match ar p (.int 1)with | .ok v=>v | _=>.bf) (fun p hp=>by
            obtain⟨t,_,rfl⟩:=ZJ.mp hp;cases t<;>rfl) (fun p hp _=>by
            obtain⟨t,_,rfl⟩:=ZJ.mp hp;cases t<;>rfl)]
          rw[List.filter_map,aae,aae];have e1:((fun p:PV=>match p with | .tup [.str z,_,_]=>z == Str.ofString "endless" | _=>false) ∘ Tm.pv)=Tm.xT:=by
            funext t;cases t<;>rfl
          rw[e1];congr 1;apply Z8;intro t _;cases t<;>rfl
        generalize hb:(ts.filter Tm.xT).map Tm.sg=bs at *;have ne:bs≠[]:=fun c=>by
          rw[c]at hb;obtain⟨t,h1,h2⟩:=ZH.mp he;have:t∈ts.filter Tm.xT:=aa8.mpr ⟨h1,h2⟩
          rw[List.map_eq_nil_iff.mp hb]at this;cases this
        have tr:iR (.lst (bs.map PV.bl))=.ok true:=by
          cases bs with
          | nil=>exact absurd rfl ne
          | cons x r=>rfl
        have a1:=xV bs;have a2:=kc bs
        have en:=HG h;have nf:=Al h
        have ws:=sP (u:=eS e f) ⟨h,.inl rfl,by omega,by omega⟩ (bs.all id);generalize hL:ts.map Tm.pv=L at *;by_cases c1:(bs.any id && !(bs.all id))=true
        . rw[YH,abP]at c1;rw[c1.1]at a2;rw[c1.2]at a1;refine g6 (m:=1) h ?_ (by decide) (by decide);have et:zS [e∣f,.lst (bs.map PV.bl)]=.ok (.tup [.int (eS e f+p2 (f - 1)),.int 1]):=by
            generalize bs.map PV.bl=l at *;dsimp![zS,LH,a1,a2,nf,aaa]
          generalize bs.map PV.bl=l at *;dsimp![zc,xA,List.replicate,List.set,cw,wy,bR,n1,eN,jV,ce,tr,et]
        . refine sY (s:=if bs.all id=true then 1 else 0) (u:=eS e f) (m:=0) h ?_ (by split<;>simp) (by omega) (by omega) (by decide) (by decide)
          have et:zS [e∣f,.lst (bs.map PV.bl)]=.ok (.tup [.int (eS e f+(if bs.all id=true then 1 else 0)*p2 (e+f)),.int 0]):=by
            generalize eS e f+(if bs.all id=true then (1:Int) else 0)*p2 (e+f)=W at *;generalize bs.map PV.bl=l at *;generalize bs.all id=b1 at *;generalize bs.any id=b2 at *;cases b1<;>cases b2<;>first
              | exact absurd rfl c1
              | dsimp![zS,LH,a1,a2,en,ws]
          generalize eS e f+(if bs.all id=true then (1:Int) else 0)*p2 (e+f)=W at *;generalize bs.map PV.bl=l at *;dsimp![zc,xA,List.replicate,List.set,cw,wy,bR,n1,eN,jV,ce,tr,et]
      . have ok:∀ t∈ts,sW (-(2*lp e f)) 4400 t:=fun t hx=>by
          rcases ht t hx with c | c | ⟨b,c⟩ | c
          . exact absurd (ZH.mpr ⟨t,hx,by rw[c];rfl⟩) hw
          . exact absurd (ZH.mpr ⟨t,hx,by rw[c];rfl⟩) hn
          . exact absurd (ZH.mpr ⟨t,hx,by rw[c];rfl⟩) he
          . exact c
        have gt:=VP h w (B:=-(2*lp e f)) (b:=4400) (ts:=ts) (by omega) (by omega) (by omega) (by omega) ok;by_cases su:jE (-(2*lp e f)) ts=0
        . exact sY (s:=if ui ts z=true then 1 else 0) (u:=0) (m:=0) h (gt.1 su) (by split<;>simp) (by decide) (aQ _) (by decide) (by decide)
        . obtain⟨N,K,nv,n0,gt⟩:=gt.2 su;obtain⟨_,_,_,_,s3⟩:=QC (B:=-(2*lp e f)) (b:=4400) (ts:=ts) (by omega) (by omega) (by omega) (by omega) ok;obtain⟨n1,n2⟩:=pF (by omega) nv s3;obtain⟨s,u,m,a,b,c⟩:=nR (n:=N) (j:=K) (d:=1) h w n0 (by decide) (by omega) (by decide) (by have:=nv.2.1;omega) (by omega);exact⟨s,u,m,gt _ _ a,b,by omega,by omega⟩
variable {s u t v r x:Int}
theorem l1{P:Tm->Prop}{a:Tm}(h:P a):∀ z∈[a],P z:=fun z hz=>by rw[Zu.mp hz];exact h
theorem l2{P:Tm->Prop}{a b:Tm}(h:P a)(g:P b):∀ z∈[a,b],P z:=fun z hz=>by
  rcases Zm.mp hz with e | e
  . rw[e];exact h
  . rw[Zu.mp e];exact g
theorem As(h:Wu e f s u)(g:Wu e f t v)(w:dq p z k):AW e f (zj [e∣f,.int (u+s*p2 (e+f)),.int (v+t*p2 (e+f)),.str z]):=by
  obtain⟨s',u',m,gt,a,b,c⟩:=mX (ts:=[bp e f s u,bp e f t v]) h.1 w (by simp) (l2 (mW h) (mW g));refine⟨s',u',m,?_,a,b,c⟩;simp only[Zn,abg]at gt;have t1:=cP h
  have t2:=cP g;have a1:=jg (bp e f s u)
  have a2:=jg (bp e f t v);generalize (bp e f s u).pv=T at *;generalize (bp e f t v).pv=T2 at *;dsimp![zj,Hr,t1,t2,a1,a2,gt]
theorem FN(h:Wu e f s u)(g:Wu e f t v)(w:dq p z k):AW e f (zm [e∣f,.int (u+s*p2 (e+f)),.int (v+t*p2 (e+f)),.str z]):=by
  have g':Wu e f (1 - t) v:=⟨g.1,by rcases g.2.1 with y | y<;>omega,g.2.2.1,g.2.2.2⟩
  obtain⟨s',u',m,gt,a,b,c⟩:=As h g' w;have tu:=Me g
  refine⟨s',u',m,?_,a,b,c⟩;generalize u+s*p2 (e+f)=y1 at *;generalize v+t*p2 (e+f)=y3 at *;generalize v+(1 - t)*p2 (e+f)=y4 at *;dsimp![zm,Hs,tu,gt]
theorem FP(h:Wu e f s u)(g:Wu e f t v)(w:dq p z k):AW e f (zv [e∣f,.int (u+s*p2 (e+f)),.int (v+t*p2 (e+f)),.str z]):=by
  obtain⟨s',u',m,gt,a,b,c⟩:=mX (ts:=[dP (bp e f s u) (bp e f t v)]) h.1 w (by simp) (l1 (Ar h g));refine⟨s',u',m,?_,a,b,c⟩;simp only[Zn,abg]at gt;have pr:=Qz h g
  have a1:=jg (dP (bp e f s u) (bp e f t v));generalize (dP (bp e f s u) (bp e f t v)).pv=T at *;dsimp![zv,LI,pr,a1,gt]
theorem FQ(h:Wu e f s u)(g:Wu e f t v)(i:Wu e f r x)(w:dq p z k):AW e f (fS [e∣f,.int (u+s*p2 (e+f)),.int (v+t*p2 (e+f)),.int (x+r*p2 (e+f)),.str z]):=by
  obtain⟨s',u',m,gt,a,b,c⟩:=mX (ts:=[dP (bp e f s u) (bp e f t v),bp e f r x]) h.1 w (by simp) (l2 (Ar h g) (mW i));refine⟨s',u',m,?_,a,b,c⟩;simp only[Zn,abg]at gt;have pr:=Qz h g
  have t3:=cP i;have a1:=jg (dP (bp e f s u) (bp e f t v))
  have a3:=jg (bp e f r x);generalize (dP (bp e f s u) (bp e f t v)).pv=T at *;generalize (bp e f r x).pv=T3 at *;dsimp![fS,LJ,pr,t3,a1,a3,gt]
end
section
variable {e f p:Int}{z:Str}{k:Nat}{s u t v r x:Int}
theorem HU{a b:Tm}(h:a=.dO\/a=.none\/b=.dO\/b=.none):∃ m,dY e f [a,b]=.tup [.int (eS e f+p2 (f - 1)),.int m]/\0<=m/\m<32:=by
  unfold dY;by_cases c1:([a,b]:List Tm).any Tm.pB=true
  . rw[Yy c1];exact⟨1,rfl,by decide,by decide⟩
  . rw[Yx c1];by_cases c2:([a,b]:List Tm).any Tm.pC=true
    . rw[Yy c2];exact⟨0,rfl,by decide,by decide⟩
    . exfalso;have m1:a∈[a,b]:=YW
      have m2:b∈[a,b]:=YM _ YW;rcases h with rfl | rfl | rfl | rfl
      . exact c1 (ZH.mpr ⟨_,m1,rfl⟩)
      . exact c2 (ZH.mpr ⟨_,m1,rfl⟩)
      . exact c1 (ZH.mpr ⟨_,m2,rfl⟩)
      . exact c2 (ZH.mpr ⟨_,m2,rfl⟩)
theorem HV(h:Wu e f s u)(hu:u<=eS e f):∃ i,HP.Is (bp e f s u) (decide (s=1)) i/\(i=.iz\/i=.number\/i=.fT)/\(i=.number->0<u/\u<eS e f):=by
  by_cases c:u=eS e f
  . refine⟨.fT,⟨1,0,by decide,?_⟩,.inr (.inr rfl),fun z=>by cases z⟩;unfold bp;rw[Yx (by omega),Yy c];rfl
  . have hl:u<eS e f:=by omega
    obtain⟨a1,a2,a3,a4,a5,a6,a7,a8,a9⟩:=gx h.1 h.2.2.1 hl;by_cases c0:u=0
    . refine⟨.iz,⟨1,0,by decide,?_⟩,.inl rfl,fun z=>by cases z⟩;have z0:=a6.mpr c0
      rw[iu hl,z0];rcases a7 with q | ⟨_,q⟩
      . omega
      . rw[q];rfl
    . exact⟨.number,⟨_,_,fun z=>c0 (a6.mp z),iu hl⟩,.inr (.inl rfl),fun _=>⟨by have:=h.2.2.1;omega,hl⟩⟩
theorem Jq(h:Wu e f s u)(g:Wu e f t v)(w:dq p z k):AW e f (z8 [e∣f,.int (u+s*p2 (e+f)),.int (v+t*p2 (e+f)),.str z]):=by
  obtain⟨m1,m3,p3,p4,p7⟩:=dH h.1;obtain⟨l1,l2,l3,l4⟩:=dS h.1;by_cases cn:bp e f s u=.dO\/bp e f s u=.none\/bp e f t v=.dO\/bp e f t v=.none
  . obtain⟨m,nv,m0,m1⟩:=HU (e:=e) (f:=f) cn;exact g6 h.1 (HP.Oj h g w nv) m0 m1
  . have hu:u<=eS e f:=by
      rcases jh h with c | c | ⟨c,_⟩ | ⟨c,_⟩
      . exact absurd (.inl c) cn
      . exact absurd (.inr (.inl c)) cn
      . omega
      . omega
    have hv:v<=eS e f:=by
      rcases jh g with c | c | ⟨c,_⟩ | ⟨c,_⟩
      . exact absurd (.inr (.inr (.inl c))) cn
      . exact absurd (.inr (.inr (.inr c))) cn
      . omega
      . omega
    obtain⟨i,hi,ki,ni⟩:=HV h hu;obtain⟨j,hj,kj,nj⟩:=HV g hv;by_cases both:i=.number/\j=.number
    . obtain⟨u0,u1⟩:=ni both.1;obtain⟨v0,v1⟩:=nj both.2;obtain⟨a1,a2,a3,a4,a5,a6,a7,a8,a9⟩:=gx h.1 (YF u0) u1;obtain⟨b1,b2,b3,b4,b5,b6,b7,b8,b9⟩:=gx h.1 (YF v0) v1;have nz:xN (vN f u)≠0:=fun z=>by have:=a6.mp z;omega
      have mz:xN (vN f v)≠0:=fun z=>by have:=b6.mp z;omega
      obtain⟨s',u',m,a,b,c⟩:=nR (n:=if (!(decide (s=1) == decide (t=1)))=true then -(xN (vN f u)) else xN (vN f u)) (j:=xK (vN f u) (vK e f u) - xK (vN f v) (vK e f v)) (d:=xN (vN f v)) h.1 w (by split<;>omega) (by omega)
        (by split
            . rw[gX];omega
            . omega) (by omega) (by omega) (by omega)
      exact⟨s',u',m,VQ h g u0 u1 v0 v1 w _ rfl a,b,by omega,by omega⟩
    . have q:=HP.Sk h g w hi hj (by
        by_cases c:i=.number
        . exact .inr fun d=>both ⟨c,d⟩
        . exact .inl c) ki kj
      have hp:(s+t)%2=0\/(s+t)%2=1:=by omega
      have cN:=fun m (hq:z8 [e∣f,.int (u+s*p2 (e+f)),.int (v+t*p2 (e+f)),.str z]=.ok (.tup [.int (eS e f+p2 (f - 1)),.int m])) (m0:0<=m) (m1:m<32)=>g6 h.1 hq m0 m1;have cS:=fun m (hq:z8 [e∣f,.int (u+s*p2 (e+f)),.int (v+t*p2 (e+f)),.str z]=.ok (.tup [.int (eS e f+(s+t)%2*p2 (e+f)),.int m])) (m0:0<=m) (m1:m<32)=>sY h.1 hq hp (by omega) (by omega) m0 m1
      have c0:=fun m (hq:z8 [e∣f,.int (u+s*p2 (e+f)),.int (v+t*p2 (e+f)),.str z]=.ok (.tup [.int ((s+t)%2*p2 (e+f)),.int m])) (m0:0<=m) (m1:m<32)=>sY (u:=0) h.1 (hq.trans (by rw[ZV])) hp (by decide) (aQ _) m0 m1;rcases ki with rfl | rfl | rfl<;>rcases kj with rfl | rfl | rfl
      . exact cN 1 q (by decide) (by decide)
      . exact c0 0 q (by decide) (by decide)
      . exact c0 0 q (by decide) (by decide)
      . exact cS 2 q (by decide) (by decide)
      . exact absurd ⟨rfl,rfl⟩ both
      . exact c0 0 q (by decide) (by decide)
      . exact cS 0 q (by decide) (by decide)
      . exact cS 0 q (by decide) (by decide)
      . exact cN 1 q (by decide) (by decide)
theorem Mw{u:Int}(h:Wd e f)(u0:0<u)(u1:u<eS e f):gO (.str (dE e f u)) (.tup [.str "small",.str "plain"])=.ok (.bl false):=by
  unfold dE;rw[Yx (by omega)];by_cases c:u<p2 f
  . rw[Yy c];rfl
  . rw[Yx c,Yy u1];rfl
theorem My{u:Int}(h:Wd e f)(hu:u=0\/eS e f<=u):gO (.str (dE e f u)) (.tup [.str "small",.str "plain"])=.ok (.bl true):=by
  obtain⟨n1,n3,n4,_⟩:=dH h;unfold dE;by_cases c:u=0
  . rw[Yy c];rfl
  . rw[Yx c,Yx (by omega),Yx (by omega)];by_cases c2:u=eS e f
    . rw[Yy c2];rfl
    . rw[Yx c2];split<;>rfl
theorem Jr(h:Wu e f s u)(w:dq p z k):AW e f (zb [e∣f,.int (u+s*p2 (e+f)),.str z]):=by
  by_cases c:u=0\/eS e f<=u\/(s=1/\u<eS e f/\0<u)
  . have q:=Mr.Sl h w c;unfold Mr.FJ at q;split at q
    . exact⟨s,u,0,q,h,by decide,by decide⟩
    . split at q
      . exact g6 h.1 q (by decide) (by decide)
      . exact g6 h.1 q (by decide) (by decide)
  . have Mz:=h.2.2.1;have s0:s=0:=by rcases h.2.1 with y | y<;>omega
    have u0:0<u:=by omega
    have u1:u<eS e f:=by omega
    subst s0;rw[Zl,aad];have hw:=h
    have h:=h.1;obtain⟨l1,l2,l3,l4⟩:=dS h;obtain⟨m1,m3,_⟩:=dH h;obtain⟨p1,p3,p4,p5,p6,b1,b2,b3,b4,p7,p8⟩:=gh h;obtain⟨g1,g2,g3,g4⟩:=id h;obtain⟨n0,QD,k0,k1,e0⟩:=kq h u0 u1;have tm:=cP hw
    rw[Zl,aad]at tm;have nn:=QA (bp e f 0 u) h
    have io:=mV (bp e f 0 u);have wy:=(gN w).1
    have et:bp e f 0 u=.num (decide ((0:Int)=1)) (xN (vN f u)) (xK (vN f u) (vK e f u)):=iu u1;have ed:decide ((0:Int)=1)=false:=rfl
    rw[ed]at et;rw[et]at tm nn io;have vl:vN f u<2*p2 f:=by
      have y1:=Y9 u (show 0<p2 f by omega);unfold vN e8;split<;>omega
    have xl:xN (vN f u)<=vN f u:=by
      have vp:=sV (f:=f) (u:=u) u0;have e1:xN (vN f u)=vN f u/p2 (tz (vN f u)):=Yx (by omega)
      rw[e1];exact aam _ (by omega)
    have e2:∀(n k:Int),dY e f [.num false n k]=.bf:=fun _ _=>rfl;rw[e2]at nn;simp only[Tm.pv]at tm nn io;have se:aZ f (eS e f)=p2 (f+(p2 e - 2)):=by
      have a1:eS e f%p2 f=0:=Int.mul_emod_left _ _;have a2:eS e f/p2 f=p2 e - 1:=adn _ (by omega)
      unfold aZ;rw[Yx (by omega),a1,a2,ZV,<- cF (by omega) (by omega)];congr 1;omega
    have sl:=sR (f:=f) (u:=u) (v:=eS e f) (by omega) u1;rw[se,e0]at sl;obtain⟨x,hh,hx,x0,x1⟩:=Mb (n:=xN (vN f u)) (k:=xK (vN f u) (vK e f u)) (d:=1) (by omega) (by decide) (by omega) (by decide);rw[pW (by omega)]at hx;generalize xN (vN f u)=n at *;generalize xK (vN f u) (vK e f u)=j at *;have QH:0<=x:=by
      apply Zc;intro c;have a:=hx.2
      rw[di (a:=x) (by omega)]at a;have:=sM (j:=-x) (by omega)
      have:n*2<=n*p2 (-x):=Zh this (by omega);omega
    have xb:x+j<p2 (e - 1):=by
      apply Zc;intro c;have a:=hx.1
      rw[di (a:=-x) (by omega),Zp,Y1]at a;have b:=YJ a (YF (aQ (j - lp e f)))
      rw[<- cF QH (by omega)]at b;have pe:p2 e=2*p2 (e - 1):=by rw[<- dD (by omega)];congr 1;omega
      have DU:lp e f=2 - p2 (e - 1) - f:=by unfold lp;omega
      have:=fh (a:=f+(p2 e - 2)) (b:=x+(j - lp e f)) (by omega) (by omega);omega
    obtain⟨t,q,sd,t0,q0,q1,qt,tb,Mu,nr,Q,hm⟩:=VY h w n0 (by omega) k0 (by omega) hx QH xb hh;obtain⟨s',u',m,a,b,c⟩:=(HS (p:=p) (sd:=sd) h t0 q0 false).aw;refine⟨s',u',m,?_,b,c⟩;rw[R.ok.inj a]at nr;obtain⟨a1,a2,a3,a4,a5,a6,a7,a8,a9,xJ,xM,lL⟩:=tn;have z1:¬ n=0:=by omega
    generalize u'+s'*p2 (e+f)=W at *;dsimp![zb,sE,List.replicate,List.set,tm,wy,bR,nn,eN,io,z1,lL,Y5,Zo,nr]
theorem MB{y:PV}{r:R PV}(h:Wu e f s u)(hu:u=0\/eS e f<=u)(hy:cI (some y)=.ok y)(hr:(∃ v,r=.ok v)\/∃ c,r=.exc c)(g:zc [e∣f,.lst [(bp e f s u).pv],y]=r) :
    z9 [e∣f,.int (u+s*p2 (e+f)),y]=r:=by
  have k:=xG h;have kk:=My h.1 hu
  have tm:=cP h;have ta:=jg (bp e f s u)
  generalize (bp e f s u).pv=t at *;generalize u+s*p2 (e+f)=w at *;generalize dE e f u=K at *;rcases hr with⟨v',rfl⟩ | ⟨c',rfl⟩
  . dsimp![z9,qC,List.replicate,List.set,k,kk,tm,ta,hy,g]
  . dsimp![z9,qC,List.replicate,List.set,k,kk,tm,ta,hy,g]
theorem MD{m c:Int}(hm:m=0\/m=16\/m=20\/m=24)(hc:c=0\/c=16):0<=Builtin.bitOr m c/\Builtin.bitOr m c<32:=by
  rcases hm with rfl | rfl | rfl | rfl<;>rcases hc with rfl | rfl<;>decide
theorem FR(h:Wu e f s u)(w:dq p z k):AW e f (z9 [e∣f,.int (u+s*p2 (e+f)),.str z]):=by
  by_cases c:u=0\/eS e f<=u
  . obtain⟨s',u',m,gt,a,b⟩:=mX (ts:=[bp e f s u]) h.1 w (by simp) (l1 (mW h));exact⟨s',u',m,MB h c rfl (.inl ⟨_,rfl⟩) gt,a,b⟩
  . have Mz:=h.2.2.1;have u0:0<u:=by omega
    have u1:u<eS e f:=by omega
    obtain⟨l1,l2,l3,l4⟩:=dS h.1;obtain⟨n,j,e1,nv⟩:=VR h u1;have nt:=VS h u1 w nv
    have wy:=(gN w).1;have kd:=xG h
    have kn:=Mw h.1 u0 u1;have ex:=Ml (qG e f p s u) 0
    have sgn:=Qq (FD (s:=0) h.1 (.inl rfl)) h;have e0:(0:Int)+0*p2 (e+f)=0:=by omega
    rw[e0]at sgn;have HR:=nQ h.1 Mz (YF u1)
    have s0:=pz (f:=f) Mz;have pD:=aQ (-(lp e f))
    have d0:0<=aZ f u/p2 (-(lp e f)):=Zj s0 (by omega);have d1:aZ f u/p2 (-(lp e f))<=aZ f u:=aam _ s0
    have w0:0<=vr e f p s u:=by unfold vr;split<;>omega
    have w1:vr e f p s u<=aZ f u+1:=by unfold vr;split<;>omega
    have bN:nb (vr e f p s u)<=2202:=by
      have x1:=kQ w0 w1;have x2:=xF (x:=aZ f u) (y:=1) (m:=2200) HR (YU (show nb 1<=1 by decide) (by decide))
      omega
    have bV:nb (qG e f p s u)<=2202:=by
      unfold qG;split
      . rw[gX];exact bN
      . exact bN
    by_cases vz:qG e f p s u=0
    . rw[vz]at nt ex;generalize xN 0=N' at *;generalize xK 0 0=K' at *;have fin:∃ m,(m=0\/m=16)/\z9 [e∣f,.int (u+s*p2 (e+f)),.str z]=.ok (.tup [.int (0+s*p2 (e+f)),.int m]):=by
        generalize u+s*p2 (e+f)=w1 at *;generalize 0+s*p2 (e+f)=w2 at *;generalize dE e f u=K at *;by_cases c1:N'=n
        . by_cases c2:K'=j
          . exact⟨0,.inl rfl,by dsimp![z9,qC,List.replicate,List.set,kd,kn,e1,wy,bR,nt,ex,c1,c2,Y7,ZW,sgn]⟩
          . exact⟨16,.inr rfl,by dsimp![z9,qC,List.replicate,List.set,kd,kn,e1,wy,bR,nt,ex,c1,c2,Y7,Y5,aaV,Zo,aa0,sgn]⟩
        . exact⟨16,.inr rfl,by dsimp![z9,qC,List.replicate,List.set,kd,kn,e1,wy,bR,nt,ex,c1,Y5,Zo,sgn]⟩
      obtain⟨m,hm,q⟩:=fin;exact⟨s,0,m,q,FD h.1 h.2.1,by omega,by omega⟩
    . obtain⟨s',u',m,tk,V2,hm⟩:=nR (n:=qG e f p s u) (j:=0) (d:=1) h.1 w vz (by decide) (by omega) (by decide) (by omega) (by decide);have MH:Hu [e∣f,.int (qG e f p s u),.str z]=.ok (.tup [.int (u'+s'*p2 (e+f)),.int m]):=by
        generalize u'+s'*p2 (e+f)=w2 at *;dsimp![Hu,P6,tk]
      generalize qG e f p s u=V at *;have fin:∃ c,(c=0\/c=16)/\z9 [e∣f,.int (u+s*p2 (e+f)),.str z]=.ok (.tup [.int (u'+s'*p2 (e+f)),.int (Builtin.bitOr m c)]):=by
        generalize u+s*p2 (e+f)=w1 at *;generalize u'+s'*p2 (e+f)=w2 at *;generalize dE e f u=K at *;generalize xN V=N' at *;generalize xK V 0=K' at *;by_cases c1:N'=n
        . by_cases c2:K'=j
          . exact⟨0,.inl rfl,by dsimp![z9,qC,List.replicate,List.set,kd,kn,e1,wy,bR,nt,ex,c1,c2,Y7,ZW,vz,MH]⟩
          . exact⟨16,.inr rfl,by dsimp![z9,qC,List.replicate,List.set,kd,kn,e1,wy,bR,nt,ex,c1,c2,Y7,Y5,aaV,Zo,aa0,vz,MH]⟩
        . exact⟨16,.inr rfl,by dsimp![z9,qC,List.replicate,List.set,kd,kn,e1,wy,bR,nt,ex,c1,Y5,Zo,vz,MH]⟩
      obtain⟨c,hc,q⟩:=fin;exact⟨s',u',_,q,V2,(MD hm hc).1,(MD hm hc).2⟩
end
end An
namespace Cm
open PySem Mi
theorem MJ(z:Int):nb (if z<0 then -z else z)=nb z:=by split<;>simp only[gX]
noncomputable def Bz(e f n k:Int):Int:=if 1 - (p2 (e - 1) - 1) - f>k+nb n - 1 - f then 1 - (p2 (e - 1) - 1) - f else k+nb n - 1 - f
theorem V3{e f n k s:Int}(h:Wd e f)(hn:n≠0)(h5:Bz e f n k=s)(h2:¬ k<s)(h3:¬ p2 (e - 1) - 1<k+nb n - 1)(hb:nb n<=100)(hk:k<=10000)(hs:s - (1 - (p2 (e - 1) - 1) - f)<=10000)(wB : -10000<=s)
    (OO:0<=s - (1 - (p2 (e - 1) - 1) - f)) (w0:0<=(s - (1 - (p2 (e - 1) - 1) - f))*p2 f+(if n<0 then -n else n)*p2 (k - s)) (w1:(s - (1 - (p2 (e - 1) - 1) - f))*p2 f+(if n<0 then -n else n)*p2 (k - s)<p2 (1+e+f)) :
    sA [e∣f,n∣k]=.ok (.int (if n<0 then ((s - (1 - (p2 (e - 1) - 1) - f))*p2 f+(if n<0 then -n else n)*p2 (k - s)+p2 (e+f))%(2*p2 (e+f)) else (s - (1 - (p2 (e - 1) - 1) - f))*p2 f+(if n<0 then -n else n)*p2 (k - s))):=by
  have a:=DN h;have b:=L5 h
  have t:=Qk h w0 w1;have o1:gM (s - (1 - (p2 (e - 1) - 1) - f)) f:=eO (n:=20) (by have:=h.2.2.1;omega) (eR (by omega)) (by have:=h.2.2.2;omega)
  have o2:gM (if n<0 then -n else n) (k - s):=eO (n:=100) (by omega) (by rw[MJ];exact hb) (by omega);unfold Bz at h5;by_cases BA:n<0
  . simp only[BA,Y4]at o2 t w0 w1;dsimp![sA,Lx,a,b,hn,BA,gX,h5,h2,h3,o1,o2,t,Y4]
  . simp only[BA,Y2]at o2 t w0 w1;dsimp![sA,Lx,a,b,hn,BA,h5,h2,h3,o1,o2,t,Y2]
theorem MK{q f:Int}(h0:0<=q)(hf:0<=f):(nb q:Int)<=f↔q<p2 f:=by
  have a:=ph hf;have b:=aQ f
  constructor
  . intro h;have:=nM (a:=q) (k:=f.toNat) (by omega)
    omega
  . intro h;have:=eR (a:=q) (k:=f.toNat) (by omega)
    omega
def Enc(e f x y q s:Int):Prop:=0<=x/\x<p2 e - 1/\0<=y/\y<p2 f/\e8 f x y=q/\nN e f x=s/\(s - (1 - (p2 (e - 1) - 1) - f))*p2 f+q=x*p2 f+y/\0<q/\(((nb q:Int)<=f/\s=1 - (p2 (e - 1) - 1) - f)\/((nb q:Int)=f+1/\1 - (p2 (e - 1) - 1) - f<=s/\s<=1 - (p2 (e - 1) - 1) - f+p2 e - 3))
theorem ML{e f x y:Int}(h:Wd e f)(x0:0<=x)(x1:x<p2 e - 1)(y0:0<=y)(y1:y<p2 f)(hq:e8 f x y≠0):Enc e f x y (e8 f x y) (nN e f x):=by
  have g3:=h.2.2.1;refine⟨x0,x1,y0,y1,rfl,rfl,?_,?_,?_⟩
  . unfold e8 nN;split
    . next k=>rw[k];omega
    . next k =>
      have:1 - (p2 (e - 1) - 1) - f+x - 1 - (1 - (p2 (e - 1) - 1) - f)=x - 1:=by omega
      rw[this,aab];omega
  . revert hq;unfold e8
    have:=aQ f;split<;>omega
  . unfold e8 nN;split
    . next k=>exact .inl ⟨(MK y0 (by omega)).mpr y1,rfl⟩
    . next k =>
      refine .inr ⟨?_,by omega,by omega⟩;have a:=(MK (q:=y+p2 f) (f:=f+1) (by omega) (by omega)).mpr (by rw[dD (by omega)];omega)
      have b:¬(nb (y+p2 f):Int)<=f:=fun c=>by
        have:=(MK (q:=y+p2 f) (f:=f) (by omega) (by omega)).mp c;omega
      omega
theorem FU{e f x y q s N K g w:Int}(h:Wd e f)(E:Enc e f x y q s)(hN:N%2=1)(Yp:0<N)(hK:s<=K)(hq:N*p2 (K - s)=q)(g0:0<=g)(g1:g<2)(hw:w=g*p2 (e+f)+x*p2 f+y) :
    sA [e∣f,.tup [.int (if g=1 then -N else N),.int K]]=.ok (.int w):=by
  obtain⟨x0,x1,y0,y1,e1,e2,e3,q0,e4⟩:=E;obtain⟨p1,p3,p4,p5,p6,b1,b2,b3,b4,p7,p8⟩:=gh h;have pe:p2 e=2*p2 (e - 1):=by rw[<- dD (by have:=h.1;omega)];congr 1;omega
  obtain⟨Yq,QI,Mh,Yr⟩:=id h;have hd:0<=K - s:=by omega
  have nq:=sk (a:=N) (b:=K - s) (by omega) hd;rw[hq]at nq;have Ys:(nb q:Int)=nb N+(K - s):=by omega
  have nn:nb (if g=1 then -N else N)=nb N:=by
    split
    . rw[gX]
    . rfl
  have N0:(if g=1 then -N else N)≠0:=by split<;>omega
  have hv:Bz e f (if g=1 then -N else N) K=s:=by
    unfold Bz;rw[nn];rcases e4 with⟨a,b⟩ | ⟨a,b,c⟩
    . rw[Yy (by omega)];exact b.symm
    . rw[Yx (by omega)];omega
  have sz:(if (if g=1 then -N else N)<0 then -(if g=1 then -N else N) else (if g=1 then -N else N))=N:=by
    by_cases k:g=1
    . rw[Yy k,Yy (by omega)];omega
    . rw[Yx k,Yx (by omega)]
  have xf:0<=x*p2 f:=Zg x0 (by omega);have uT:x*p2 f+y<p2 (e+f):=by
    have m:=YJ (show x+1<=p2 e by omega) (show 0<=p2 f by omega);rw[ZK,Y1,<- p5]at m;omega
  have hT:=aQ (e+f);have B:¬ p2 (e - 1) - 1<K+nb (if g=1 then -N else N) - 1:=by
    rw[nn];rcases e4 with⟨a,b⟩ | ⟨a,b,c⟩<;>omega
  have c1:s - (1 - (p2 (e - 1) - 1) - f)<=10000:=by rcases e4 with⟨a,b⟩ | ⟨a,b,c⟩<;>omega
  have c2:0<=s - (1 - (p2 (e - 1) - 1) - f):=by rcases e4 with⟨a,b⟩ | ⟨a,b,c⟩<;>omega
  have c3:nb N<=100:=by rcases e4 with⟨a,b⟩ | ⟨a,b,c⟩<;>omega
  have c4:K<=10000:=by rcases e4 with⟨a,b⟩ | ⟨a,b,c⟩<;>omega
  have Y:=V3 h N0 hv (by omega) B (by rw[nn];exact c3) c4 c1 (by omega) c2;rw[sz,hq,e3]at Y;rw[Y (by omega) (by omega)];congr 2;have gg:g=0\/g=1:=by omega
  rcases gg with rfl | rfl
  . rw[Yx (by omega),hw];omega
  . rw[Yy (by simp only[Y4];omega),Zz (by omega) (by omega),hw];omega
theorem Ol{e f g w N K:Int}(h:Wd e f)(w0:0<w)(w1:w<eS e f)(g0:g=0\/g=1)(nv:Nv (-(lp e f)) (aZ f w) N K) :
    sA [e∣f,.tup [.int (if g=1 then -N else N),.int K]]=.ok (.int (w+g*p2 (e+f))):=by
  obtain⟨l1,l2,l3,l4⟩:=dS h;have pf:=aQ f
  obtain⟨a1,a2⟩:=HQ h (YF w0) w1;have vp:=sV (f:=f) w0
  have x0:0<=w/p2 f:=Zj (by omega) (by omega);have x1:w/p2 f<p2 e - 1:=ZF pf w1
  have E:=ML h x0 x1 (Zf w (by omega)) (Y9 w pf) (show e8 f (w/p2 f) (w%p2 f)≠0 by show vN f w≠0;omega)
  have qr:0<aZ f w:=by rw[a2];exact ZU vp (aQ _)
  have No:=xP nv (by omega);have nK:=nv.2.1
  have nE:=nv.2.2;have N0:0<N:=by
    have:0<N*p2 (K + -(lp e f)):=by omega
    exact Int.pos_of_mul_pos_left this (aQ _) |> id
  obtain⟨t0,t1,t2⟩:=iC (n:=vN f w) (by omega);have key:(vN f w/p2 (tz (vN f w)))*p2 (tz (vN f w)+(vK e f w - lp e f))=N*p2 (K + -(lp e f)):=by
    rw[nE,a2,cF t0 (by omega),<- YB,t2]
  obtain⟨k1,k2⟩:=Bo t1 No (by omega) (by omega) key;have hK:vK e f w<=K:=by omega
  have hq:N*p2 (K - vK e f w)=vN f w:=by
    rw[<- k1,show K - vK e f w=tz (vN f w) by omega];exact t2
  have dm:=Zd w (p2 f);rw[YI]at dm;exact FU h E No N0 hK hq (by omega) (by omega) (by omega)
theorem BB{f u:Int}(u0:0<=u):0<=tU f u/\0<=u - tU f u*p2 f/\u - tU f u*p2 f<2*p2 f/\(tU f u=0\/p2 f<=u - tU f u*p2 f):=by
  have pf:=aQ f;unfold tU;by_cases c:u<p2 f
  . rw[Yy c];omega
  . rw[Yx c];have z:1<=u/p2 f:=(Zv pf).mpr (by omega)
    have dm:=Zd u (p2 f);have m0:=Zf u (show p2 f≠0 by omega)
    have m1:=Y9 u pf;rw[YI]at dm;rw[aab,Y1];generalize u/p2 f*p2 f=X at *;refine⟨by omega,by omega,by omega,.inr (by omega)⟩
theorem xX{f u:Int}(hf:1<=f)(u0:0<=u):aZ f u=(u - tU f u*p2 f)*p2 (tU f u)/\aZ f (u+1)=(u - tU f u*p2 f)*p2 (tU f u)+p2 (tU f u):=by
  obtain⟨a,b,c,d⟩:=BB (f:=f) u0;obtain⟨_,x,y,_⟩:=Oh hf a b c d;rw[show tU f u*p2 f+(u - tU f u*p2 f)=u by omega]at x y
  rw[ZK,Y1]at y;exact⟨x,y⟩
theorem Js{f u v:Int}(u0:0<=u)(h:u<=v):tU f u<=tU f v:=by
  have pf:=aQ f;unfold tU;have:=ab6 pf h
  by_cases c:v<p2 f
  . rw[Yy c,Yy (by omega)];exact Int.le_refl _
  . rw[Yx c];have z:1<=v/p2 f:=(Zv pf).mpr (by omega)
    split<;>omega
theorem D3{f D:Int}:∀(n:Nat),0<=D->D<=aZ f n->∃ w:Int,0<=w/\w<=n/\aZ f w<=D/\((w=n/\aZ f n=D)\/D<aZ f (w+1))
  | 0,h0,h1=>by
    have pf:=aQ f;have:aZ f ((0:Nat):Int)=0:=fW pf
    exact⟨0,by omega,by omega,by have:aZ f 0=0:=fW pf;omega,.inl ⟨rfl,by omega⟩⟩
  | n+1,h0,h1=>by
    have lt:=sR (f:=f) (u:=(n:Int)) (v:=(n:Int)+1) (by omega) (by omega);have e1:(((n+1:Nat)):Int)=(n:Int)+1:=by omega
    rw[e1]at h1 ⊢;by_cases c:D<=aZ f n
    . obtain⟨w,a,b,d,x⟩:=D3 n h0 c;refine⟨w,a,by omega,d,.inr ?_⟩;rcases x with⟨x,y⟩ | x
      . rw[x];omega
      . exact x
    . by_cases c2:aZ f ((n:Int)+1)=D
      . exact⟨(n:Int)+1,by omega,by omega,by omega,.inl ⟨rfl,c2⟩⟩
      . exact⟨n,by omega,by omega,by omega,.inr (by omega)⟩
theorem D4{f u D c:Int}(hf:1<=f)(u0:0<=u)(D0:0<=D)(D1:D<=aZ f u)(hc:D=c*p2 (tU f u)):∃ w,0<=w/\w<=u/\aZ f w=D:=by
  obtain⟨w,a,b,d,x⟩:=D3 (f:=f) (D:=D) u.toNat D0 (by rw[aby u0];exact D1);rw[aby u0]at b x;refine⟨w,a,b,?_⟩;rcases x with⟨x,y⟩ | x
  . rw[x];exact y
  . obtain⟨g1,g2⟩:=xX (f:=f) hf a;have t0:=(BB (f:=f) a).1
    have tm:=Js (f:=f) a b;have sp:p2 (tU f u)=p2 (tU f u - tU f w)*p2 (tU f w):=by rw[<- cF (by omega) t0];congr 1;omega
    rw[sp,<- YB]at hc;have pt:=aQ (tU f w)
    generalize c*p2 (tU f u - tU f w)=c' at *;generalize w - tU f w*p2 f=q at *;generalize p2 (tU f w)=P at *;have h1:q*P<=c'*P:=by omega
    have h2:c'*P<(q+1)*P:=by rw[ZK,Y1];omega
    have h3:q<=c':=ZY h1 pt;have h4:c'<q+1:=ZX h2 (YF pt)
    have:c'=q:=by omega
    rw[g1,hc,this]
end Cm
namespace xY
open PySem Mi Cm
theorem Jt(c:Nat)(x0:Option PV)(ρ0:aJ):kJ c (x0::ρ0)=.ok (.ins c):=rfl
noncomputable def mU(U V:Int):Int:=if gr 0 (U/V) (cB (U%V) V) false then U/V+1 else U/V
theorem rd{U V:Int}(U0:0<=U)(V0:0<V):0<=mU U V/\2*(U - mU U V*V)<=V/\-V<=2*(U - mU U V*V)/\(2*ab (U - mU U V*V)=V->mU U V%2=0)/\(mU U V=0\/V<=2*U)/\mU U V<=U+1:=by
  have r0:=Zf U (show V≠0 by omega);have r1:=Y9 U V0
  have dm:=Zd U V;have q0:0<=U/V:=Zj U0 (by omega)
  have q1:U/V<=U:=aam _ U0;rw[YI]at dm;unfold mU;have hs:=pX (U%V) V
  have gc:=FC (p:=0) (q:=U/V) (sd:=cB (U%V) V) (below:=false) (.inl rfl) hs;have key:(cB (U%V) V=0/\U%V=0)\/(cB (U%V) V=1/\2*(U%V)<V)\/(cB (U%V) V=2/\2*(U%V)=V)\/(cB (U%V) V=3/\V<2*(U%V)):=by
    unfold cB;by_cases c0:2*(U%V)=0
    . rw[Yy c0];exact .inl ⟨rfl,by omega⟩
    . rw[Yx c0];by_cases c1:2*(U%V)<V
      . rw[Yy c1];exact .inr (.inl ⟨rfl,c1⟩)
      . rw[Yx c1];by_cases c2:2*(U%V)=V
        . rw[Yy c2];exact .inr (.inr (.inl ⟨rfl,c2⟩))
        . rw[Yx c2];exact .inr (.inr (.inr ⟨rfl,by omega⟩))
  have gd:gr 0 (U/V) (cB (U%V) V) false=(decide (cB (U%V) V≠0)&&(decide (cB (U%V) V=3)||(decide (cB (U%V) V=2)&&decide (U/V%2=1)))):=rfl;rw[gd];clear gd gc hs;have QV:1<=U/V->V<=U:=fun c=>by
    have:=YJ c (show 0<=V by omega);omega
  generalize U/V=Q at *;generalize U%V=r at *;generalize cB r V=sd at *;have e1:(Q+1)*V=Q*V+V:=by rw[ZK,Y1]
  have hQ:Q=0\/V<=U:=by
    by_cases c:Q=0
    . exact .inl c
    . exact .inr (QV (by omega))
  clear QV;have z0:Q=0->Q*V=0:=fun c=>by rw[c,Zl]
  generalize hX:Q*V=X at *;rcases key with⟨a,b⟩ | ⟨a,b⟩ | ⟨a,b⟩ | ⟨a,b⟩
  . subst a;rw[Yx (by simp),hX];unfold ab;refine⟨by omega,by omega,by omega,fun z=>?_,by omega,by omega⟩;exfalso
    revert z;split<;>omega
  . subst a;rw[Yx (by simp),hX];unfold ab;refine⟨by omega,by omega,by omega,fun z=>?_,by omega,by omega⟩;exfalso
    revert z;split<;>omega
  . subst a;by_cases o:Q%2=1
    . rw[Yy (by simp[o]),e1];exact⟨by omega,by omega,by omega,fun _=>by omega,by omega,by omega⟩
    . rw[Yx (by simp[o]),hX];exact⟨by omega,by omega,by omega,fun _=>by omega,by omega,by omega⟩
  . subst a;rw[Yy (by simp),e1];unfold ab;refine⟨by omega,by omega,by omega,fun z=>?_,by omega,by omega⟩;exfalso
    revert z;split<;>omega
theorem FV{f u v:Int}(hf:1<=f)(u0:0<=u)(v0:0<v)(V0:0<aZ f v):∃ w,0<=w/\(w<=u\/w<=v)/\aZ f w=ab (aZ f u - mU (aZ f u) (aZ f v)*aZ f v):=by
  have U0:=pz (f:=f) u0;obtain⟨m0,m1,m2,_,m3,_⟩:=rd U0 V0;have uZ:=(xX (f:=f) hf u0).1
  have gS:=(xX (f:=f) hf (YF v0)).1;have t1:=(BB (f:=f) u0).1
  have t2:=(BB (f:=f) (YF v0)).1;generalize hm:mU (aZ f u) (aZ f v)=m at *;have MM:∀ D c P:Int,D=c*P->∃ c',ab D=c'*P:=fun D c P hD=>by
    unfold ab;split
    . exact⟨-c,by rw[hD,aal]⟩
    . exact⟨c,hD⟩
  by_cases c:tU f v<=tU f u
  . obtain⟨c',hc⟩:=MM (aZ f u - m*aZ f v) ((u - tU f u*p2 f)*p2 (tU f u - tU f v) - m*(v - tU f v*p2 f)) (p2 (tU f v)) (by
      rw[aab,YB,<- cF (by omega) t2,show tU f u - tU f v+tU f v=tU f u by omega,<- uZ,YB,<- gS])
    obtain⟨w,a,b,d⟩:=D4 hf (YF v0) (Bp _) (by unfold ab;split<;>omega) hc
    exact⟨w,a,.inr b,d⟩
  . obtain⟨c',hc⟩:=MM (aZ f u - m*aZ f v) ((u - tU f u*p2 f) - m*((v - tU f v*p2 f)*p2 (tU f v - tU f u))) (p2 (tU f u)) (by
      rw[aab,YB m,YB (v - tU f v*p2 f),<- cF (by omega) t1,show tU f v - tU f u+tU f u=tU f v by omega,<- uZ,<- gS])
    have le:ab (aZ f u - m*aZ f v)<=aZ f u:=by
      rcases m3 with z | z
      . rw[z,Zl,adI,pW U0];exact Int.le_refl _
      . unfold ab;split<;>omega
    obtain⟨w,a,b,d⟩:=D4 hf u0 (Bp _) le hc;exact⟨w,a,.inl b,d⟩
theorem MN(h:Nv B t n k):Nv B (-t) (-n) k:=by
  obtain⟨a,b,c⟩:=h;refine⟨by omega,b,by rw[aal,c]⟩
theorem V4{e f u v:Int}(h:Wd e f)(u0:0<=u)(u1:u<eS e f)(v0:0<v)(v1:v<eS e f) :
    ∃ N K,Hx [.tup [.int (xN (vN f u)),.int (xK (vN f u) (vK e f u))],.tup [.int (xN (vN f v)),.int (xK (vN f v) (vK e f v))]]=.ok (N∣K)/\Nv (-(lp e f)) (aZ f u - mU (aZ f u) (aZ f v)*aZ f v) N K:=by
  obtain⟨l1,l2,l3,l4⟩:=dS h;obtain⟨a1,a2,a3,a4,a5,a6,a7,a8,a9⟩:=gx h u0 u1;obtain⟨b1,b2,b3,b4,b5,b6,b7,b8,b9⟩:=gx h (YF v0) v1;have V5:=nQ h u0 (YF u1)
  have Yt:=nQ h (YF v0) (YF v1);generalize xN (vN f u)=n1 at *;generalize xK (vN f u) (vK e f u)=k1 at *;generalize xN (vN f v)=n2 at *;generalize xK (vN f v) (vK e f v)=k2 at *;have V0:0<aZ f v:=by omega
  have U0:=a8;obtain⟨m0,_,_,_,_,m4⟩:=rd U0 V0;generalize aZ f u=U at *;generalize aZ f v=V at *;have QJ:0<n2:=by omega
  have h3:nb (n2*p2 (0 - (k1 - k2)))<=9000:=by
    have x1:=gD n2 (p2 (0 - (k1 - k2)));have x2:nb (p2 (0 - (k1 - k2)))<=8000:=DY (x:=0 - (k1 - k2)) (by omega) |> fun z=>YU z (by omega)
    omega
  have ins:=Mc (n:=n1) (k:=k1 - k2) (d:=n2) (g:=0) QJ (by omega) (by omega) (by omega) (by omega) h3;have r0:=Zf U (show V≠0 by omega)
  have r1:=Y9 U V0;have dm:=Zd U V
  rw[YI]at dm;have pU:0<n2*p2 (0 - (k1 - k2)):=ZU QJ (aQ _)
  have eq:ab n1*p2 (k1 - k2 - 0)*V=(U/V*V+U%V)*(n2*p2 (0 - (k1 - k2))):=by
    have p:=Am (A:=k1 - lp e f) (L:=0) (C:=k1 - k2) (D:=k2 - lp e f) (by omega) (by decide) (by omega) (by omega);rw[xj,Zp]at p;rw[dm,pW a1,a5,b5,adI,Int.zero_sub];have x1:n1*p2 (k1 - k2)*(n2*p2 (k2 - lp e f))=n1*n2*(p2 (k1 - k2)*p2 (k2 - lp e f)):=by
      simp only[YB,Zk,YI]
    have x2:n1*p2 (k1 - lp e f)*(n2*p2 (-(k1 - k2)))=n1*n2*(p2 (k1 - lp e f)*p2 (-(k1 - k2))):=by
      simp only[YB,Zk,YI]
    rw[x1,x2,p]
  obtain⟨r,er,x0,x1,x2⟩:=ug pU V0 r0 r1 eq;have dv:ab n1*p2 (k1 - k2 - 0)/(n2*p2 (0 - (k1 - k2)))=U/V:=by
    rw[er,YI (U/V),ab5,aaz _ _ (by omega),Za x0 x1];omega
  rw[dv]at ins;have e5:ab n1*p2 (k1 - k2 - 0) - U/V*(n2*p2 (0 - (k1 - k2)))=r:=by omega
  rw[e5,nP pU V0 x2]at ins;have st:=Mf (p:=0) (z:="even") (k:=21) (q:=U/V) (sd:=cB (U%V) V) false (.inl ⟨rfl,rfl,rfl⟩) (pX _ _)
  have em:(if gr 0 (U/V) (cB (U%V) V) false=true then U/V+1 else U/V)=mU U V:=rfl;rw[em]at st;generalize mU U V=m at *;have Yu:nb m<=2202:=by
    have x1:=kQ m0 m4;have x2:=xF (x:=U) (y:=1) (m:=2200) V5 (YU (show nb 1<=1 by decide) (by decide))
    omega
  have xo:=Bu (-m) 0;have xb:=FF (-m)
  rw[gX]at xb;have mul:=Qy (n:=xN (-m)) (k:=xK (-m) 0) (m:=n2) (l:=k2) xo b7 (by omega) (by omega)
  have ex:=Ml (-m) 0;have V6:Nv (-(lp e f)) U n1 k1:=⟨a7,by omega,by rw[a5];rfl⟩
  have V7:∃ a b,vf [.tup [.int (xN (-m)),.int (xK (-m) 0)],n2∣k2]=.ok (a∣b)/\Nv (-(lp e f)) (-(m*V)) a b:=by
    by_cases c:m=0
    . have z:xN (-m)=0:=by rw[c];rfl
      rw[mul,Yy (.inl z)];refine⟨0,0,rfl,.inr ⟨rfl,rfl⟩,by omega,?_⟩;rw[c];simp
    . have z:=Bv (n:=-m) (by omega);rw[mul,Yx (by omega)];obtain⟨t0,t1,t2⟩:=iC (n:=-m) (by omega);have e1:xN (-m) = -m/p2 (tz (-m)):=Yx (by omega)
      have e2:xK (-m) 0=0+tz (-m):=Yx (by omega);have V8:n2%2=1:=by rcases b7 with x | ⟨x,_⟩<;>omega
      refine⟨_,_,rfl,.inl ?_,by omega,?_⟩
      . rw[adH,e1,t1,V8];rfl
      . rw[b5,e1,e2,show 0+tz (-m)+k2 + -(lp e f)=tz (-m)+(k2 - lp e f) by omega,cF t0 (by omega)]
        have x1 : -m/p2 (tz (-m))*n2*(p2 (tz (-m))*p2 (k2 - lp e f))=(-m/p2 (tz (-m))*p2 (tz (-m)))*(n2*p2 (k2 - lp e f)):=by
          simp only[YB,Zk,YI]
        rw[x1,t2,aal]
  obtain⟨a,b,V9,HU⟩:=V7;have Sn:nb (-(m*V))<=5000:=by
    rw[gX];have:=gD m V
    omega
  obtain⟨c1,c2⟩:=pF (by omega) HU Sn;obtain⟨N,K,ad,QK⟩:=QB V6 HU (by omega) (by omega) (by omega) (by omega) (by omega) (by omega);rw[<- Int.sub_eq_add_neg]at QK;refine⟨N,K,?_,QK⟩;dsimp![Hx,Qb,List.replicate,List.set,Jt,bR,ins,st,ex,V9,ad]
theorem So(h:Wu e f s u)(g:Wu e f t v)(u1:u<eS e f)(v0:0<v)(v1:v<eS e f) :
    ∃ x w M,(x=0\/x=1)/\0<=w/\w<eS e f/\z4 [e∣f,.int (u+s*p2 (e+f)),.int (v+t*p2 (e+f))]=.ok (.tup [.int (w+x*p2 (e+f)),.int 0]) /\
      sS f s u - sS f x w=M*sS f t v/\2*aZ f w<=aZ f v/\(2*aZ f w=aZ f v->M%2=0)/\(aZ f w=0->x=s):=by
  have hf:=h.1.2.2.1;have u0:=h.2.2.1
  obtain⟨N,K,er,nv⟩:=V4 h.1 u0 u1 v0 v1;have V0:0<aZ f v:=by
    have:=(gx h.1 (YF v0) v1).2.2.2.2.2.2.2;omega
  obtain⟨w,w0,w1,ew⟩:=FV hf u0 v0 V0;have w2:w<eS e f:=by omega
  have mf:=rd (pz (f:=f) u0) V0;obtain⟨m0,m1,m2,m3,_,_⟩:=mf;have t1:=cP h
  have t2:=cP g;have nn:=xO (bp e f s u) (bp e f t v) h.1
  have ia:=mV (bp e f t v);have z2:¬ xN (vN f v)=0:=by
    have:=(gx h.1 (YF v0) v1).2.2.2.2.2.1;omega
  rw[iu u1]at t1 nn;rw[iu v1]at t2 nn ia;have e2:∀(b c:Bool)(n k m l:Int),dY e f [.num b n k,.num c m l]=.bf:=fun _ _ _ _ _ _=>rfl
  rw[e2]at nn;simp only[Tm.pv]at t1 t2 nn ia;obtain⟨a1,a2,a3,a4,a5,a6,a7,a8,a9,xJ,xM,lL⟩:=tn;have QL:=Qq (FD h.1 (.inl rfl) (s:=0)) h
  rw[show(0:Int)+0*p2 (e+f)=0 by omega]at QL;have hs:=h.2.1
  have ht:=g.2.1;generalize hm:mU (aZ f u) (aZ f v)=m at *;have fw:0<w->∀ x,(x=0\/x=1)->∀ N' K',Nv (-(lp e f)) (aZ f w) N' K'->sA [e∣f,.tup [.int (if x=1 then -N' else N'),.int K']]=.ok (.int (w+x*p2 (e+f))):=fun p x hx N' K' hN=>Ol h.1 p w2 hx hN
  have sig:∃ M,sS f s u - (if s=1 then -(aZ f u - m*aZ f v) else aZ f u - m*aZ f v)=M*sS f t v/\(m%2=0->M%2=0):=by
    unfold sS;rcases hs with rfl | rfl<;>rcases ht with rfl | rfl
    . exact⟨m,by simp only[abk,Y2];omega,fun z=>z⟩
    . exact⟨-m,by simp only[abk,Y2,Y4];rw[Int.neg_mul_neg];omega,fun z=>by omega⟩
    . exact⟨-m,by simp only[abk,Y2,Y4];rw[aal];omega,fun z=>by omega⟩
    . exact⟨m,by simp only[Y4];rw[Int.mul_neg];omega,fun z=>z⟩
  obtain⟨M,eM,Wa⟩:=sig;have wz:w=0↔aZ f w=0:=by
    have:=(gx h.1 w0 w2).2.2.2.2.2.2.2.2;omega
  generalize hD:aZ f u - m*aZ f v=D at *;by_cases d0:D=0
  . obtain⟨n0,k0⟩:=Ao nv d0;subst n0;have Wb:w=0:=by rw[wz,ew,d0];rfl
    subst Wb;rw[d0]at eM m3 ew;have qr:aZ f 0=0:=ew
    refine⟨s,0,M,hs,by omega,w2,?_,?_,by omega,fun z=>by omega,fun _=>rfl⟩
    . generalize u+s*p2 (e+f)=x1 at *;generalize v+t*p2 (e+f)=x2 at *;generalize xN (vN f v)=n2 at *;dsimp![z4,zx,List.replicate,List.set,t1,t2,nn,eN,ia,z2,Y5,Zo,cg,a9,lL,er,QL]
    . rw[<- eM];unfold sS;rw[qr]<;>simp
  . have wp:0<w:=by
      have:0<ab D:=xE d0;have:¬ w=0:=fun z=>by have:=wz.mp z;omega
      omega
    have No:=xP nv d0;have Nz:¬ N=0:=by omega
    have fit:∃ x,(x=0\/x=1)/\sA [e∣f,.tup [.int (if s=1 then -N else N),.int K]]=.ok (.int (w+x*p2 (e+f)))/\sS f x w=if s=1 then -D else D:=by
      unfold sS;rw[ew];by_cases c:D<0
      . have D5:=MN nv;have ea:ab D = -D:=Yy c
        rw[<- ea,<- ew]at D5;rcases hs with rfl | rfl
        . have:=fw wp 1 (.inr rfl) (-N) K D5;refine⟨1,.inr rfl,?_,?_⟩
          . rw[<- this]<;>simp
          . rw[ea]<;>simp
        . have:=fw wp 0 (.inl rfl) (-N) K D5;refine⟨0,.inl rfl,?_,?_⟩
          . rw[<- this]<;>simp
          . rw[ea]<;>simp
      . have ea:ab D=D:=Yx c;rw[<- ea,<- ew]at nv;rcases hs with rfl | rfl
        . have:=fw wp 0 (.inl rfl) N K nv;refine⟨0,.inl rfl,?_,?_⟩
          . rw[<- this]<;>simp
          . rw[ea]<;>simp
        . have:=fw wp 1 (.inr rfl) N K nv;refine⟨1,.inr rfl,?_,?_⟩
          . rw[<- this]<;>simp
          . rw[ea]<;>simp
    obtain⟨x,hx,ef,sx⟩:=fit;refine⟨x,w,M,hx,w0,w2,?_,by rw[sx];exact eM,by rw[ew];unfold ab;split<;>omega,fun z=>Wa (m3 (by omega)),fun z=>by omega⟩
    generalize u+s*p2 (e+f)=x1 at *;generalize v+t*p2 (e+f)=x2 at *;generalize w+x*p2 (e+f)=x3 at *;generalize xN (vN f v)=n2 at *;rcases hs with rfl | rfl
    . have b0:decide ((0:Int)=1)=false:=rfl;rw[b0]at t1 nn;rw[Yx (by decide)]at ef;dsimp![z4,zx,List.replicate,List.set,t1,t2,nn,eN,ia,z2,Y5,Zo,cg,a9,lL,er,Nz,ef]
    . have b0:decide ((1:Int)=1)=true:=rfl;rw[b0]at t1 nn;rw[Yy rfl]at ef;dsimp![z4,zx,List.replicate,List.set,t1,t2,nn,eN,ia,z2,Y5,Zo,cg,a9,lL,er,Nz,ef]
theorem Om(h:Wu e f s u)(g:Wu e f t v)(hn:eS e f<u\/eS e f<v) :
    z4 [e∣f,.int (u+s*p2 (e+f)),.int (v+t*p2 (e+f))]=.ok (.tup [.int (eS e f+p2 (f - 1)),.int (if (eS e f<u/\u<eS e f+p2 (f - 1))\/(eS e f<v/\v<eS e f+p2 (f - 1)) then 1 else 0)]):=by
  have t1:=cP h;have t2:=cP g
  have nn:=xO (bp e f s u) (bp e f t v) h.1;have W:∀ s u,(bp e f s u).pB=decide (eS e f<u/\u<eS e f+p2 (f - 1)):=fun s u=>by
    unfold bp;by_cases c:eS e f<u
    . rw[Yy c];by_cases c2:eS e f+p2 (f - 1)<=u
      . rw[Yy c2,YG (by omega)];rfl
      . rw[Yx c2,YL (by omega)];rfl
    . rw[Yx c,show decide (eS e f<u/\u<eS e f+p2 (f - 1))=false from YG (by omega)]
      split<;>rfl
  have Nn:∀ s u,(bp e f s u).pC=decide (eS e f<u/\eS e f+p2 (f - 1)<=u):=fun s u=>by
    unfold bp;by_cases c:eS e f<u
    . rw[Yy c];by_cases c2:eS e f+p2 (f - 1)<=u
      . rw[Yy c2,YL (by omega)];rfl
      . rw[Yx c2,YG (by omega)];rfl
    . rw[Yx c,show decide (eS e f<u/\eS e f+p2 (f - 1)<=u)=false from YG (by omega)]
      split<;>rfl
  have nv:dY e f [bp e f s u,bp e f t v]=.tup [.int (eS e f+p2 (f - 1)),.int (if (eS e f<u/\u<eS e f+p2 (f - 1))\/(eS e f<v/\v<eS e f+p2 (f - 1)) then 1 else 0)]:=by
    unfold dY;simp only[ZD,List.any_nil,W,Nn,abG];by_cases c:(eS e f<u/\u<eS e f+p2 (f - 1))\/(eS e f<v/\v<eS e f+p2 (f - 1))
    . rw[Yy c,Yy (by simpa using c)]
    . rw[Yx c,Yx (by simpa using c),Yy];have:(eS e f<u/\eS e f+p2 (f - 1)<=u)\/(eS e f<v/\eS e f+p2 (f - 1)<=v):=by omega
      simpa using this
  rw[nv]at nn;have Wc:=jg (bp e f s u)
  have We:=jg (bp e f t v);generalize (bp e f s u).pv=T1 at *;generalize (bp e f t v).pv=T2 at *;generalize u+s*p2 (e+f)=x1 at *;generalize v+t*p2 (e+f)=x2 at *;dsimp![z4,zx,List.replicate,List.set,t1,t2,Wc,We,nn,lK]
theorem Sr(h:Wu e f s u)(g:Wu e f t v)(u1:u<=eS e f)(v1:v<=eS e f)(hn:u=eS e f\/v=0) :
    z4 [e∣f,.int (u+s*p2 (e+f)),.int (v+t*p2 (e+f))]=.ok (.tup [.int (eS e f+p2 (f - 1)),.int 1]):=by
  obtain⟨m1,m3,q3,q4,q7⟩:=dH h.1;have t1:=cP h
  have t2:=cP g;have nn:=xO (bp e f s u) (bp e f t v) h.1
  have ia:=mV (bp e f t v);have nf:=Al h.1
  obtain⟨a1,a2,a3,a4,a5,a6,a7,a8,a9,xJ,xM,lL⟩:=tn;have T:∀ s u,u<=eS e f->(u=eS e f/\bp e f s u=.eA (decide (s=1)))\/(u<eS e f/\bp e f s u=.num (decide (s=1)) (xN (vN f u)) (xK (vN f u) (vK e f u))):=fun s u u1=>by
    by_cases c:u=eS e f
    . left;refine⟨c,?_⟩;unfold bp;rw[Yx (by omega),Yy c]
    . right;exact⟨by omega,iu (by omega)⟩
  have z0:xN (vN f 0)=0:=by rw[uh];rfl
  have k0:xK (vN f 0) (vK e f 0)=0:=by rw[uh];rfl
  rcases T s u u1 with⟨c,et⟩ | ⟨c,et⟩
  . rw[et]at t1 nn;rcases T t v v1 with⟨d,qF⟩ | ⟨d,qF⟩
    . rw[qF]at t2 nn ia;have e2:∀(b c:Bool),dY e f [.eA b,.eA c]=.bf:=fun _ _=>rfl
      rw[e2]at nn;simp only[Tm.pv]at t1 t2 nn ia;generalize u+s*p2 (e+f)=x1 at *;generalize v+t*p2 (e+f)=x2 at *;dsimp![z4,zx,List.replicate,List.set,t1,t2,nn,eN,cg,nf]
    . rw[qF]at t2 nn ia;have e2:∀(b c:Bool)(m l:Int),dY e f [.eA b,.num c m l]=.bf:=fun _ _ _ _=>rfl
      rw[e2]at nn;simp only[Tm.pv]at t1 t2 nn ia;generalize u+s*p2 (e+f)=x1 at *;generalize v+t*p2 (e+f)=x2 at *;dsimp![z4,zx,List.replicate,List.set,t1,t2,nn,eN,cg,nf]
  . have v0:v=0:=by omega
    subst v0;rw[et]at t1 nn;have qF:=iu (s:=t) (show(0:Int)<eS e f by omega)
    rw[z0,k0]at qF;rw[qF]at t2 nn ia;have e2:∀(b c:Bool)(n k m l:Int),dY e f [.num b n k,.num c m l]=.bf:=fun _ _ _ _ _ _=>rfl
    rw[e2]at nn;simp only[Tm.pv]at t1 t2 nn ia;generalize u+s*p2 (e+f)=x1 at *;generalize 0+t*p2 (e+f)=x2 at *;dsimp![z4,zx,List.replicate,List.set,t1,t2,nn,eN,cg,nf,ia,a9,lL,Y7,ZW]
theorem Ss(h:Wu e f s u)(g:Wu e f t (eS e f))(u1:u<eS e f) :
    z4 [e∣f,.int (u+s*p2 (e+f)),.int (eS e f+t*p2 (e+f))]=.ok (.tup [.int (u+s*p2 (e+f)),.int 0]):=by
  have t1:=cP h;have t2:=cP g
  have nn:=xO (bp e f s u) (bp e f t (eS e f)) h.1;have ia:=mV (bp e f t (eS e f))
  obtain⟨a1,a2,a3,a4,a5,a6,a7,a8,a9,xJ,xM,lL⟩:=tn;have qF:bp e f t (eS e f)=.eA (decide (t=1)):=by unfold bp;rw[Yx (by omega),Yy rfl]
  rw[iu u1]at t1 nn;rw[qF]at t2 nn ia;have e2:∀(b c:Bool)(m l:Int),dY e f [.num b m l,.eA c]=.bf:=fun _ _ _ _=>rfl
  rw[e2]at nn;simp only[Tm.pv]at t1 t2 nn ia;generalize u+s*p2 (e+f)=x1 at *;generalize eS e f+t*p2 (e+f)=x2 at *;dsimp![z4,zx,List.replicate,List.set,t1,t2,nn,eN,cg,ia,a9,lL]
end xY
namespace MP
open PySem Mi Cm
noncomputable def wd(e f:Int)(p:Int×Int):PV:=.int (p.2+p.1*p2 (e+f))
noncomputable def Au(e f:Int)(p:Int×Int):Tm:=bp e f p.1 p.2
end MP
namespace kD
open PySem Mi Cm
abbrev WP:=Int×Int
noncomputable abbrev wd:=MP.wd
noncomputable abbrev Au:=MP.Au
theorem nS(n:Nat)(it:FA)(t:FT)(f:FE)(x0:Option PV)(ρ0:aJ):eZ n it t f (x0::ρ0)=(it (x0::ρ0)).bind (gV n t f (x0::ρ0)):=rfl
theorem FW(F:List PV->R PV)(g:FA)(x0:Option PV)(ρ0:aJ):jz F g (x0::ρ0)=match g (x0::ρ0)with
  | .ok qs=>F qs
  | _=>.stuck:=rfl
theorem sZ{f:FE} (g:PV->PV):∀{l:List PV},(∀ p∈l,f (cA n ρ ++[some p])=.ok (g p))->bY n d8 f ρ l=.ok (l.map g)
  | [],_=>rfl
  | p::r,h=>by
    have ih:=sZ g (l:=r) fun q hq=>h q (YM _ hq);have e:=h p YW
    unfold bY;show(match f (cA n ρ ++[some p])with
      | .ok v=>(match bY n d8 f ρ r with
        | .ok vs=>R.ok (v::vs)
        | .exc c=>.exc c
        | .stuck=>.stuck)
      | .exc c=>.exc c
      | .stuck=>.stuck)=_
    rw[e,ih];rfl
theorem td{n c:Nat}{f:FE}{y:PV}{B:List PV}(hy:f (cA n ρ ++[some y])=.exc c):∀{A:List PV},(∀ p∈A,∃ v,f (cA n ρ ++[some p])=.ok v)->bY n d8 f ρ (A++y::B)=.exc c
  | [],_=>by
    show bY n d8 f ρ (y::B)=_;unfold bY;show(match f (cA n ρ ++[some y])with
      | .ok v=>(match bY n d8 f ρ B with
        | .ok vs=>R.ok (v::vs)
        | .exc c=>.exc c
        | .stuck=>.stuck)
      | .exc c=>.exc c
      | .stuck=>.stuck)=_
    rw[hy]
  | p::r,h=>by
    have ih:=td (B:=B) hy (A:=r) fun q hq=>h q (YM _ hq);obtain⟨v,e⟩:=h p YW;show bY n d8 f ρ (p::(r++y::B))=_
    unfold bY;show(match f (cA n ρ ++[some p])with
      | .ok v=>(match bY n d8 f ρ (r++y::B)with
        | .ok vs=>R.ok (v::vs)
        | .exc c=>.exc c
        | .stuck=>.stuck)
      | .exc c=>.exc c
      | .stuck=>.stuck)=_
    rw[e,ih]
theorem vw{l:List PV} (h:l.length<=1000000):gV n t f ρ l=match bY n t f ρ l with
  | .ok vs=>.ok (.lst vs)
  | .exc c=>.exc c
  | .stuck=>.stuck:=by
  unfold gV;rw[Yy h]<;>(cases bY n t f ρ l<;>rfl)
section
variable {e f:Int}{L:List WP}{o:PV}
theorem MR{x:PV}{l:List PV}{r:R PV}(hr:bM [e∣f,x]=r)(ax:cI (some x)=.ok x):jz bM (af (ae 0) (af (ae 3) (aq))) (cA 3 [some (e∣f),some (.lst l),some o] ++[some x])=r:=by
  show jz bM (af (ae 0) (af (ae 3) (aq))) [some (e∣f),some (.lst l),some o,some x]=r;dsimp![FW,ax,hr]
theorem Oo(hl:L.length<=1000)(hw:∀ p∈L,Wu e f p.1 p.2)(ao:cI (some o)=.ok o){r:R PV}(hg:zc [e∣f,.lst ((L.map (Au e f)).map Tm.pv),o]=r):zo [e∣f,.lst (L.map (wd e f)),o]=r:=by
  have c:gV 3 d8 (jz bM (af (ae 0) (af (ae 3) (aq)))) [some (e∣f),some (.lst (L.map (wd e f))),some o] (L.map (wd e f))=.ok (.lst ((L.map (Au e f)).map Tm.pv)):=by
    rw[vw (by rw[Zi];omega)];rw[sZ (fun p=>match bM [e∣f,p]with | .ok v=>v | _=>.bf) (fun p hp=>by
      obtain⟨t,ht,rfl⟩:=ZJ.mp hp;have io:bM [e∣f,wd e f t]=.ok (bp e f t.1 t.2).pv:=cP (hw t ht)
      rw[MR io rfl,io])]
    show R.ok (PV.lst _)=_;rw[aae,aae];congr 2;apply Z8;intro t ht;show(match bM [e∣f,wd e f t]with | .ok v=>v | _=>.bf)=(bp e f t.1 t.2).pv
    have io:bM [e∣f,wd e f t]=.ok (bp e f t.1 t.2).pv:=cP (hw t ht);rw[io]
  generalize L.map (wd e f)=l at *;generalize (L.map (Au e f)).map Tm.pv=T at *;cases r with
  | ok v=>dsimp![zo,zT,List.replicate,List.set,nS,c,ao,hg]
  | exc d=>dsimp![zo,zT,List.replicate,List.set,nS,c,ao,hg]
  | stuck =>
    show aY 3 zT _=_;unfold zT;dsimp![List.replicate,List.set,nS,c,ao,hg];rfl
end
theorem MU{l:List PV}{a:Int}(h0:0<=a)(h1:a<=l.length):jv l none (some a)=l.take a.toNat:=by
  show(l.drop 0).take ((if a<0 then (a+(l.length:Int)).toNat else min a.toNat l.length) - 0)=_;rw[Yx (by omega),Nat.min_eq_left (by omega)];rfl
end kD
namespace Cm
open PySem Mi PySem.Builtin.Str PySem.NumText
noncomputable def tx(l:List Nat):PySem.Str:=⟨l.toArray⟩
theorem nT(l:List Nat):(tx l).cps.toList=l:=by simp[tx]
theorem MX(h:tx a=tx b):a=b:=by rw[<- nT a,h,nT]
theorem MY(a b:List Nat):tx a++tx b=tx (a++b):=by
  show(⟨a.toArray++b.toArray⟩:PySem.Str)=_;simp[tx]
theorem iX(a:List Nat):(tx a).length=a.length:=by show(tx a).cps.size=_;simp[tx]
theorem fX(a b:List Nat):(tx a == tx b)=decide (a=b):=by
  by_cases h:a=b
  . subst h;simp
  . rw[YG h];exact aao.mpr fun q=>h (MX q)
theorem mY{n:Nat}(h:n<=16000000):n<=sizeLine:=YU h (by decide)
theorem Su{a b:List Nat}(h:a.length+b.length<=16000000):cV (.str (tx a)) (.str (tx b))=.ok (.str (tx (a++b))):=by
  show(if _ then _ else _)=_;rw[iX,iX,Yy (mY h),MY]
theorem xZ{a:List Nat}(h:a.length<=16000000):mj [.str (tx a)]=.ok (.int a.length):=by
  show(if _ then _ else _)=_;rw[iX,Yy (mY h)]
theorem Sv{z:List Nat}{lo hi:Option Int}(h:z.length<=16000000):ng (.str (tx z)) lo hi=.ok (.str (tx ((z.drop (gC z.length 0 lo)).take (gC z.length z.length hi - gC z.length 0 lo)))):=by
  show(if _ then _ else _)=_;rw[iX,Yy (mY h)];unfold oF;rw[nT];rfl
theorem Oq{k:Int} (h:0<=k):gC n d (some k)=min k.toNat n:=Yx (by omega)
theorem HW{z:List Nat}{k:Int}(h:z.length<=16000000)(h0:0<=k):ng (.str (tx z)) (some k) none=.ok (.str (tx (z.drop k.toNat))):=by
  rw[Sv h,Oq h0];show R.ok (PV.str (tx ((z.drop _).take (z.length - _))))=_
  congr 3;by_cases c:k.toNat<=z.length
  . rw[Nat.min_eq_left c];exact List.take_of_length_le (by rw[aa2];omega)
  . rw[Nat.min_eq_right (by omega),acr (YD _),acr (by omega)];simp
theorem Wg(c:Nat)(l:List Nat):iE (.str (tx [c])) (.str (tx l))=.ok (.bl (decide (c∈l))):=by
  have e:=StrLaws.found_one (tx l) c;rw[nT]at e;show R.ok (PV.bl (!(occurrences (tx l) ⟨#[c]⟩ 0 (tx l).length 1).isEmpty))=_
  rw[e]
theorem Av(c:Nat)(l:List Nat):iV [.str (tx l),.str (tx [c])]=.ok (.bl (decide (l.head?=some c))):=by
  show R.ok (PV.bl (Txt.startswith (tx l) (tx [c])))=_;congr 2;unfold Txt.startswith;simp only[subAt,iX];cases l with
  | nil=>rfl
  | cons x r =>
    have e:(tx (x::r)).cps.extract 0 (0+[c].length)=#[x]:=by apply Array.toList_inj.mp;simp[tx]
    rw[e];show(decide _&&(#[x] == #[c]))=_
    simp;rfl
noncomputable def pt(c:Nat):List Nat->List Nat×List Nat×List Nat
  | []=>([],[],[])
  | x::r=>if x=c then ([],[c],r) else (x::(pt c r).1,(pt c r).2.1,(pt c r).2.2)
theorem BC{c:Nat}:∀{a:List Nat},c ∉ a->pt c a=(a,[],[])
  | [],_=>rfl
  | x::r,h=>by
    have h1:¬ x=c:=fun q=>h (q ▸ YW);have ih:=BC (c:=c) (a:=r) fun q=>h (YM _ q)
    show(if x=c then _ else _)=_;rw[Yx h1,ih]
theorem BD{c:Nat}{b:List Nat}:∀{a:List Nat},c ∉ a->pt c (a++c::b)=(a,[c],b)
  | [],_=>Yy rfl
  | x::r,h=>by
    have h1:¬ x=c:=fun q=>h (q ▸ YW);have ih:=BD (c:=c) (b:=b) (a:=r) fun q=>h (YM _ q)
    show(if x=c then _ else (x::(pt c (r++c::b)).1,(pt c (r++c::b)).2.1,(pt c (r++c::b)).2.2))=_;rw[Yx h1,ih]
theorem HX(c:Nat)(l:List Nat):(c ∉ l/\pt c l=(l,[],[]))\/∃ a b,c ∉ a/\l=a++c::b/\pt c l=(a,[c],b):=by
  induction l with
  | nil=>exact .inl ⟨by simp,rfl⟩
  | cons x r ih =>
    by_cases e:x=c
    . subst e;exact .inr ⟨[],r,by simp,rfl,Yy rfl⟩
    . rcases ih with⟨h,p⟩ | ⟨a,b,h,q,p⟩
      . exact .inl ⟨by simp[h,ZC e],BC (by simp[h,ZC e])⟩
      . subst q;exact .inr ⟨x::a,b,by simp[h,ZC e],rfl,BD (a:=x::a) (by simp[h,ZC e])⟩
theorem D6(c:Nat)(l:List Nat):(pt c l).1.length+(pt c l).2.1.length+(pt c l).2.2.length=l.length:=by
  rcases HX c l with⟨_,p⟩ | ⟨a,b,_,q,p⟩
  . rw[p];simp
  . rw[p,q];simp;omega
theorem Sw(x:PySem.Str)(c i:Nat):StrLaws.At x ⟨#[c]⟩ x.length i↔x.cps.toList[i]?=some c:=StrLaws.subAt_one x c i
theorem Aw(l:List Nat)(i j:Nat):strSub (tx l) i j=tx ((l.take j).drop i):=by
  unfold strSub tx;congr 1;apply Array.toList_inj.mp;simp[List.extract];rw[List.drop_take]
theorem HY{l:List Nat}{c:Nat}(h:l.length<=16000000):iB [.str (tx l),.str (tx [c])]=.ok (.tup [.str (tx (pt c l).1),.str (tx (pt c l).2.1),.str (tx (pt c l).2.2)]):=by
  have g:Txt.partition (tx l) (tx [c])=(tx (pt c l).1,tx (pt c l).2.1,tx (pt c l).2.2):=by
    have el:tx [c]=⟨#[c]⟩:=rfl;rw[el];have oc:∀ i,StrLaws.At (tx l) ⟨#[c]⟩ (tx l).length i↔l[i]?=some c:=fun i=>by rw[Sw,nT]
    rcases PyProof.Rows.partition_whole (tx l) ⟨#[c]⟩with⟨e,n⟩ | ⟨i,e,p,n⟩
    . rw[e];have:c ∉ l:=fun q=>by
        obtain⟨i,hi⟩:=acE.mp q;exact n i ((oc i).mpr hi)
      rw[BC this];rfl
    . rw[e];have p':=(oc i).mp p
      obtain⟨hi,hv⟩:=YC.mp p';have Wh:l=l.take i++c::l.drop (i+1):=by rw[<- hv,List.getElem_cons_drop,List.take_append_drop]
      have nm:c ∉ l.take i:=fun q=>by
        obtain⟨k,hk⟩:=acE.mp q;have QM:k<i:=by
          have:=(YC.mp hk).1;rw[aa1]at this;omega
        rw[abV QM]at hk;exact n k QM ((oc k).mpr hk)
      have q:=BD (b:=l.drop (i+1)) nm;rw[<- Wh]at q;rw[q];refine Prod.ext ?_ (Prod.ext rfl ?_)
      . show strSub (tx l) 0 i=_;rw[Aw,List.drop_zero]
      . show strSub (tx l) (i+1) (tx l).length=_;rw[Aw,iX,List.take_length]
  show(if _ then _ else _)=_;rw[iX,iX,Yy ⟨mY h,rfl⟩,g]
noncomputable def dg(n:Nat):List Nat:=(Nat.toDigits 10 n).map Char.toNat
noncomputable def MZ(a:Int):List Nat:=if a<0 then 45::dg a.natAbs else dg a.natAbs
theorem Ju{a:Int}(h:0<=a):MZ a=dg a.natAbs:=Yx (by omega)
theorem Jv{a:Int}(h:a<0):MZ a=45::dg a.natAbs:=Yy h
theorem str_int(a:Int):PySem.Str.ofString (toString a)=tx (MZ a):=by
  have nat:∀ n:Nat,(toString n).toList=Nat.toDigits 10 n:=fun n=>by
    show(Nat.repr n).toList=_;unfold Nat.repr;simp
  rw[Str.ofString_eq_toList];unfold tx;congr 2;cases a with
  | ofNat n =>
    rw[Ju (a:=Int.ofNat n) (Int.natCast_nonneg n)];show List.map Char.toNat (toString n).toList=_
    rw[nat];rfl
  | negSucc n =>
    rw[Jv (Int.negSucc_lt_zero n)];show List.map Char.toNat ("-" ++ toString (n+1)).toList=_
    rw[String.toList_append,nat];rfl
theorem FX{l:List Nat}(h:AllDigits l)(h1:l≠[])(h2:l.length<=4300):lW [.str (tx l)]=.ok (.int (digitsVal l:Nat)):=by
  have e:=intText_digits (x:=tx l) (by rw[nT];exact h) (by rw[nT];exact h1) (by rw[iX];exact h2);rw[nT]at e;show(if _ then _ else _)=_
  rw[iX,Yy (mY (by omega)),e]
noncomputable def rf(l:List Nat):Bool:=l.all fun c=>decide (48<=c/\c<=57)
theorem FY(l:List Nat):rf l=true↔AllDigits l:=by
  unfold rf;rw[ZN];exact⟨fun h c hc=>abO (h c hc),fun h c hc=>YL (h c hc)⟩
noncomputable def BE:List Nat:=[48,49,50,51,52,53,54,55,56,57]
theorem FZ:PySem.Str.ofString "0123456789"=tx BE:=by decide +kernel
theorem F0(c:Nat):c∈BE↔48<=c/\c<=57:=by
  unfold BE;simp;omega
theorem Jw(c:Nat):iE (.str (tx [c])) (.str (Str.ofString "0123456789"))=.ok (.bl (decide (48<=c/\c<=57))):=by
  rw[FZ,Wg];congr 2;exact decide_eq_decide.mpr (F0 c)
theorem l9:Str.ofString "e"=tx [101]:=by decide +kernel
theorem ib:Str.ofString "-"=tx [45]:=by decide +kernel
theorem ma:Str.ofString "."=tx [46]:=by decide +kernel
theorem BF:Str.ofString ""=tx []:=by decide +kernel
theorem M0(h:AllDigits a)(g:AllDigits b):AllDigits (a++b):=fun c hc=>(aaf.mp hc).elim (h c) (g c)
theorem M1:AllDigits []:=fun c hc=>absurd hc (by simp)
end Cm
namespace Cm
open PySem Mi PySem.NumText
theorem ic(b:List PV->R PV)(a:FE)(r:FA)(x0:Option PV)(ρ0:aJ):jx b a r (x0::ρ0)=(a (x0::ρ0)).bind (tY b (r (x0::ρ0))):=rfl
theorem fi(b:List PV->R PV)(z:Str)(l:List PV):tY b (.ok l) (.str z)=b (.str z::l):=rfl
theorem D7{α:Type}(g:α->Bool)(l:List α):gU (l.map fun c=>PV.bl (g c))=some (l.map g):=by
  induction l with
  | nil=>rfl
  | cons c r ih=>show(gU _).map _=_;rw[ih];rfl
theorem F1{α:Type}(g:α->Bool)(l:List α):jy [.lst (l.map fun c=>PV.bl (g c))]=.ok (.bl (l.all g)):=by
  unfold jy;simp only[D7];congr 2;rw[List.all_map];rfl
noncomputable def g8(l:List Nat):Bool:=!decide (l=[])&&rf l
theorem ji(l:List Nat):g8 l=true↔l≠[]/\AllDigits l:=by
  unfold g8;rw[YH,FY];simp
theorem vx{f:FE} (g:Nat->PV):∀{l:List Nat},(∀ c∈l,f (cA n ρ ++[some (.str (tx [c]))])=.ok (g c))->gf n d8 f ρ (l.map fun c=>PV.str (tx [c]))=.ok (l.map g)
  | [],_=>rfl
  | c::r,h=>by
    have ih:=vx g (l:=r) fun q hq=>h q (YM _ hq);have e:=h c YW
    show(match f (cA n ρ ++[some (.str (tx [c]))])with
      | .ok v=>(match gf n d8 f ρ (r.map fun c=>PV.str (tx [c]))with
        | .ok vs=>R.ok (v::vs)
        | _=>.stuck)
      | _=>.stuck)=_
    rw[e,ih];rfl
theorem HZ{l:List Nat}(hl:l.length<=100000):vj [.str (tx l)]=if g8 l=true then .ok .bf else .exc 6:=by
  have cm:hU 1 (tT (ae 0)) d8 (ah iE (ae 1) (fC (.str "0123456789"))) [some (.str (tx l))]=.ok (.lst (l.map fun c=>PV.bl (decide (48<=c/\c<=57)))):=by
    have e:tT (ae 0) [some (.str (tx l))]=.ok (l.map fun c=>PV.str (tx [c])):=by
      show R.ok ((tx l).cps.toList.map fun c=>PV.str (tx [c]))=_;rw[nT]
    rw[jV,e];refine jW (by rw[Zi];omega) (vx _ fun c _=>?_);exact Jw c
  have al:=F1 (fun c:Nat=>decide (48<=c/\c<=57)) l;have QN:au jy (af (hU 1 (tT (ae 0)) d8 (ah iE (ae 1) (fC (.str "0123456789")))) aq) [some (.str (tx l))]=.ok (.bl (rf l)):=by
    dsimp![cm,al];rfl
  have q:g8 l=(!decide (l=[])&&rf l):=rfl;rw[q];by_cases h:l=[]
  . dsimp![vj,Hk,List.replicate,BF,fX,h]
  . by_cases g:rf l=true
    . dsimp![vj,Hk,List.replicate,BF,fX,h,QN,g]
    . have g':rf l=false:=by simpa using g
      dsimp![vj,Hk,List.replicate,BF,fX,h,QN,g']
noncomputable def rg(l:List Nat):Option Int :=
  let b:=decide (l.head?=some 45)
  let f:=if b then l.drop 1 else l
  if g8 f=true/\f.length<=3 then some (if b then -(digitsVal f:Int) else (digitsVal f:Int)) else none
noncomputable def ky:Option Int->R PV
  | some i=>.ok (.int i)
  | none=>.exc 6
theorem Wi{l:List Nat}(hl:l.length<=100000):sC [.str (tx l)]=ky (rg l):=by
  have st:=Av 45 l;have dr:=HW (z:=l) (k:=1) (by omega) (by decide)
  rw[show(1:Int).toNat=1 from rfl]at dr;unfold rg;cases b:decide (l.head?=some 45)
  . rw[b]at st;have ch:=HZ hl
    have ln:=xZ (a:=l) (by omega);simp only[YX,Y2];by_cases g:g8 l=true
    . by_cases h3:l.length<=3
      . have it:=FX ((ji l).mp g).2 ((ji l).mp g).1 (by omega);have n3:decide ((3:Int)<(l.length:Int))=false:=YG (by omega)
        dsimp![sC,xy,List.replicate,ic,fi,ib,st,ch,g,ln,n3,it,h3,aaS];rfl
      . have n3:decide ((3:Int)<(l.length:Int))=true:=YL (by omega);dsimp![sC,xy,List.replicate,ic,fi,ib,st,ch,g,ln,n3,h3,and_false];rfl
    . have g':g8 l=false:=by simpa using g
      dsimp![sC,xy,List.replicate,ic,fi,ib,st,ch,g',YX,false_and];rfl
  . rw[b]at st;have hf:(l.drop 1).length<=100000:=by rw[aa2];omega
    generalize l.drop 1=f at *;have ch:=HZ hf
    have ln:=xZ (a:=f) (by omega);simp only[Y4];by_cases g:g8 f=true
    . by_cases h3:f.length<=3
      . have it:=FX ((ji f).mp g).2 ((ji f).mp g).1 (by omega);have n3:decide ((3:Int)<(f.length:Int))=false:=YG (by omega)
        dsimp![sC,xy,List.replicate,ic,fi,ib,st,dr,ch,g,ln,n3,it,h3,aaS];rfl
      . have n3:decide ((3:Int)<(f.length:Int))=true:=YL (by omega);dsimp![sC,xy,List.replicate,ic,fi,ib,st,dr,ch,g,ln,n3,h3,and_false];rfl
    . have g':g8 f=false:=by simpa using g
      dsimp![sC,xy,List.replicate,ic,fi,ib,st,dr,ch,g',YX,false_and];rfl
noncomputable def lN(l:List Nat):Option (Bool×Nat×Int) :=
  let b:=decide (l.head?=some 45)
  let h:=pt 101 (if b then l.drop 1 else l)
  let r:=pt 46 h.1
  if 1200<l.length then none else
  if g8 r.1=true/\(r.2.1=[46]->g8 r.2.2=true) then
    (if h.2.1=[101] then rg h.2.2 else some 0).bind fun p=>some (b,digitsVal (r.1++r.2.2),p - r.2.2.length)
  else none
noncomputable def BG:Option (Bool×Nat×Int)->R PV
  | some (b,w,t)=>.ok (.tup [.bl b,.int w,.int t])
  | none=>.exc 6
theorem Ax(h:(pt c l).2.1≠[c]):(pt c l).2.2=[]/\(pt c l).2.1=[]:=by
  rcases HX c l with⟨_,p⟩ | ⟨a,b,_,_,p⟩
  . rw[p];exact⟨rfl,rfl⟩
  . rw[p]at h;exact absurd rfl h
theorem Wj{l:List Nat}(hl:1200<l.length)(h2:l.length<=16000000):zn [.str (tx l)]=.exc 6:=by
  have ln:=xZ h2;have n3:decide ((1200:Int)<(l.length:Int))=true:=YL (by omega)
  dsimp![zn,qB,List.replicate,ln,n3]<;>rfl
theorem Wk{l f:List Nat}{b:Bool}(hl:l.length<=1200)(hb:decide (l.head?=some 45)=b)(hf:(if b then l.drop 1 else l)=f) :
    zn [.str (tx l)]=(if g8 (pt 46 (pt 101 f).1).1=true/\((pt 46 (pt 101 f).1).2.1=[46]->g8 (pt 46 (pt 101 f).1).2.2=true) then
      (ky (if (pt 101 f).2.1=[101] then rg (pt 101 f).2.2 else some 0)).bind fun p=>(dB p (.int ((pt 46 (pt 101 f).1).2.2.length:Nat))).bind fun q=>.ok (.tup [.bl b,.int (digitsVal ((pt 46 (pt 101 f).1).1 ++(pt 46 (pt 101 f).1).2.2):Nat),q])
      else .exc 6):=by
  have st:=Av 45 l;rw[hb]at st;have dr:=HW (z:=l) (k:=1) (by omega) (by decide)
  rw[show(1:Int).toNat=1 from rfl]at dr;have ln:=xZ (a:=l) (by omega)
  have n3:decide ((1200:Int)<(l.length:Int))=false:=YG (by omega);have fl:f.length<=1200:=by
    rw[<- hf];split
    . rw[aa2];omega
    . exact hl
  have p1:=HY (l:=f) (c:=101) (by omega);have pl:=D6 101 f
  have tl:=Ax (c:=101) (l:=f);generalize pt 101 f=H at *;obtain⟨h0,h1,h2⟩:=H;simp only at pl;have p2:=HY (l:=h0) (c:=46) (by omega)
  have ql:=D6 46 h0;have Wl:=Ax (c:=46) (l:=h0)
  generalize pt 46 h0=G at *;obtain⟨r0,r1,r2⟩:=G;simp only at *;have c0:=HZ (l:=r0) (by omega)
  have c2:=HZ (l:=r2) (by omega);have pw:=Wi (l:=h2) (by omega)
  have l2:=xZ (a:=r2) (by omega);have ad:=Su (a:=r0) (b:=r2) (by omega)
  have fst:f9 (aH (ae 1)) (nh (ae 0) (j3 ‹1›) nc) (ae 0) [some (.str (tx l)),some (.bl b),none,none,none]=.ok (.str (tx f)):=by
    cases b
    . simp only[YX,Y2]at hf;dsimp![YX,Y2];rw[hf]
    . simp only[Y4]at hf;dsimp![Y4];rw[dr,hf]
  by_cases g0:g8 r0=true
  . have rest:(r1=[46]->g8 r2=true)->lW [.str (tx (r0++r2))]=.ok (.int (digitsVal (r0++r2):Nat)):=fun g2=>by
      refine FX ?_ ?_ (by rw[Zt];omega)
      . refine M0 ((ji r0).mp g0).2 ?_;by_cases e:r1=[46]
        . exact((ji r2).mp (g2 e)).2
        . rw[(Wl e).1];exact M1
      . intro q;exact((ji r0).mp g0).1 (List.append_eq_nil_iff.mp q).1
    by_cases e1:r1=[46]
    . by_cases g2:g8 r2=true
      . have it:=rest fun _=>g2;by_cases e2:h1=[101]
        . cases hp:rg h2 with
          | none =>
            rw[hp]at pw;simp only[ky]at pw;dsimp![zn,qB,List.replicate,ln,n3,ic,fi,ib,l9,ma,st,fst,p1,p2,c0,g0,fX,e1,c2,g2,e2,pw,hp,ky,aaS,aaT,R.bind]
          | some i =>
            rw[hp]at pw;simp only[ky]at pw;dsimp![zn,qB,List.replicate,ln,n3,ic,fi,ib,l9,ma,st,fst,p1,p2,c0,g0,fX,e1,c2,g2,e2,pw,hp,ky,aaS,aaT,R.bind,ad,it,l2]
        . dsimp![zn,qB,List.replicate,ln,n3,ic,fi,ib,l9,ma,st,fst,p1,p2,c0,g0,fX,e1,c2,g2,e2,ky,aaS,aaT,R.bind,ad,it,l2]
      . have QI:g8 r2=false:=by simpa using g2
        dsimp![zn,qB,List.replicate,ln,n3,ic,fi,ib,l9,ma,st,fst,p1,p2,c0,g0,fX,e1,c2,QI,YX,true_and,imp_false,not_true_eq_false]
    . have it:=rest fun q=>absurd q e1;by_cases e2:h1=[101]
      . cases hp:rg h2 with
        | none =>
          rw[hp]at pw;simp only[ky]at pw;dsimp![zn,qB,List.replicate,ln,n3,ic,fi,ib,l9,ma,st,fst,p1,p2,c0,g0,fX,e1,e2,pw,hp,ky,ac1,aaS,aaT,R.bind]
        | some i =>
          rw[hp]at pw;simp only[ky]at pw;dsimp![zn,qB,List.replicate,ln,n3,ic,fi,ib,l9,ma,st,fst,p1,p2,c0,g0,fX,e1,e2,pw,hp,ky,ac1,aaS,aaT,R.bind,ad,it,l2]
      . dsimp![zn,qB,List.replicate,ln,n3,ic,fi,ib,l9,ma,st,fst,p1,p2,c0,g0,fX,e1,e2,ky,ac1,aaS,aaT,R.bind,ad,it,l2]
  . have Wm:g8 r0=false:=by simpa using g0
    dsimp![zn,qB,List.replicate,ln,n3,ic,fi,ib,l9,ma,st,fst,p1,p2,c0,Wm,YX,false_and]
theorem M3{l:List Nat}(h:l.length<=16000000):zn [.str (tx l)]=BG (lN l):=by
  by_cases hl:1200<l.length
  . rw[Wj hl h];unfold lN;simp only[Yy hl];rfl
  . rw[Wk (by omega) rfl rfl];unfold lN;simp only[Yx hl];generalize pt 101 (if decide (l.head?=some 45)=true then l.drop 1 else l)=H;split
    . cases (if H.2.1=[101] then rg H.2.2 else some 0)<;>rfl
    . rfl
noncomputable def jL(n:Int):Int:=10 ^ n.toNat
theorem Ay(n:Int):0<jL n:=ach (by decide)
theorem uj{a:Int}(h:a<=0):jL a=1:=by
  unfold jL;rw[ado h];rfl
theorem Az(n:Nat):jL (n:Int)=((10 ^ n:Nat):Int):=by
  unfold jL;rw[Z5,Int.natCast_pow];rfl
theorem ya(n:Nat):nb ((10 ^ n:Nat):Int)<=10*((n+2)/3)+1:=by
  by_cases z:n=0
  . subst z;decide
  . refine YU (eR (k:=10*((n+2)/3)) ?_) (by omega);have e:(((10 ^ n:Nat):Int)).natAbs=10 ^ n:=rfl
    rw[e,Nat.pow_mul];have k:n<=3*((n+2)/3):=by omega
    refine aaQ (abj (by decide) k) ?_;rw[Nat.pow_mul];exact Nat.pow_lt_pow_left (by decide) (by omega)
theorem yb{n:Int}{m:Nat}(h:n<=m):nb (jL n)<=10*((m+2)/3)+1:=by
  by_cases c:0<=n
  . obtain⟨k,rfl⟩:=aaq c;rw[Az];have:=ya k
    have:(k+2)/3<=(m+2)/3:=Nat.div_le_div_right (by omega);omega
  . rw[uj (by omega)];have:nb 1=1:=rfl
    omega
theorem F2{n i j:Nat}(hn:0<n)(h:i+j*n<=6000):zU [some (.int (n:Int)),some (.int ((10 ^ i:Nat):Int)),some (.int ((10 ^ j:Nat):Int))] =
    .next [some (.int ((n/2:Nat):Int)),some (.int ((10 ^ (i+j*(n%2)):Nat):Int)),some (.int ((10 ^ (2*j):Nat):Int))]:=by
  have jn:j<=j*n:=Nat.le_mul_of_pos_right j hn;have bi:=ya i
  have bj:=ya j;have o1:fL ((10 ^ i:Nat):Int) ((10 ^ j:Nat):Int):=ir (m:=30000) (n:=30000) (by omega) (by omega) (by decide)
  have o2:fL ((10 ^ j:Nat):Int) ((10 ^ j:Nat):Int):=ir (m:=30000) (n:=30000) (by omega) (by omega) (by decide);have e2:((10 ^ j:Nat):Int)*((10 ^ j:Nat):Int)=((10 ^ (2*j):Nat):Int):=by rw[<- Int.natCast_mul,<- abB,Nat.two_mul]
  have e3:(n:Int)/2=((n/2:Nat):Int):=by omega
  by_cases c:(n:Int)%2=1
  . have m:n%2=1:=by omega
    have e1:((10 ^ i:Nat):Int)*((10 ^ j:Nat):Int)=((10 ^ (i+j*(n%2)):Nat):Int):=by rw[<- Int.natCast_mul,<- abB,m,Nat.mul_one]
    generalize ((10 ^ i:Nat):Int)=P at *;generalize ((10 ^ j:Nat):Int)=S at *;generalize ((10 ^ (2*j):Nat):Int)=S2 at *;generalize ((10 ^ (i+j*(n%2)):Nat):Int)=P2 at *;dsimp![zU,List.set,c,o1,o2,e1,e2,e3]
  . have m:n%2=0:=by omega
    have e1:i+j*(n%2)=i:=by rw[m,Nat.mul_zero,Nat.add_zero]
    rw[e1];generalize ((10 ^ i:Nat):Int)=P at *;generalize ((10 ^ j:Nat):Int)=S at *;generalize ((10 ^ (2*j):Nat):Int)=S2 at *;dsimp![zU,List.set,c,o2,e2,e3]
theorem F3(t:FT)(b:FS)(n:Nat)(ρ:aJ):eK t b (n+1) ρ=match t ρ with
    | .ok true=>(match b ρ with
      | .next ρ'=>eK t b n ρ'
      | .cont ρ'=>eK t b n ρ'
      | .brk ρ'=>.next ρ'
      | o=>o)
    | .ok false=>.next ρ
    | .exc c=>.exc c ρ
    | .stuck=>.stuck:=rfl
theorem F4:∀(n i j fuel:Nat),n<fuel->i+j*n<=6000->∃ s,eK (aH (ah qi (ae 0) ‹0›)) zU fuel [some (.int (n:Int)),some (.int ((10 ^ i:Nat):Int)),some (.int ((10 ^ j:Nat):Int))] =
    .next [some (.int 0),some (.int ((10 ^ (i+j*n):Nat):Int)),s]:=by
  intro n
  induction n using Nat.strongRecOn with
  | _ n ih =>
    intro i j fuel hf h;cases fuel with
    | zero=>omega
    | succ g =>
      rw[F3];by_cases z:n=0
      . subst z;refine⟨some (.int ((10 ^ j:Nat):Int)),?_⟩;have e:aH (ah qi (ae 0) ‹0›) [some (.int ((0:Nat):Int)),some (.int ((10 ^ i:Nat):Int)),some (.int ((10 ^ j:Nat):Int))]=.ok false:=rfl
        rw[e,Nat.mul_zero,Nat.add_zero];rfl
      . have e:aH (ah qi (ae 0) ‹0›) [some (.int (n:Int)),some (.int ((10 ^ i:Nat):Int)),some (.int ((10 ^ j:Nat):Int))]=.ok true:=by
          show R.ok (decide ((0:Int)<(n:Int)))=_;rw[YL (by omega)]
        rw[e,F2 (by omega) h];have k:i+j*(n%2)+2*j*(n/2)=i+j*n:=by
          have:j*n=j*(2*(n/2)+n%2):=by rw[Nat.div_add_mod]
          rw[this,Nat.mul_add,<- ac0,ab4 j 2];omega
        have:=ih (n/2) (by omega) (i+j*(n%2)) (2*j) g (by omega) (by omega);rw[k]at this;exact this
theorem QO{n:Int}(h0:0<=n)(h1:n<=6000):DJ [.int n]=.ok (.int (jL n)):=by
  obtain⟨k,rfl⟩:=aaq h0;obtain⟨s,e⟩:=F4 k 0 1 la (aaQ (show k<=6000 by omega) (by decide)) (by omega);have e':iS (aH (ah qi (ae 0) ‹0›)) zU [some (.int (k:Int)),some (.int 1),some (.int 10)]=.next [some (.int 0),some (.int (jL k)),s]:=by
    rw[Az];have:0+1*k=k:=by omega
    rw[this]at e;exact e
  generalize jL k=v at *;dsimp![DJ,P7,List.replicate,List.set,e']
noncomputable def md:List Nat:=[110,111,110,101]
noncomputable def g9:List Nat:=[101,110,100,108,101,115,115]
theorem lit_none:Str.ofString "none"=tx md:=by decide +kernel
theorem uk:Str.ofString "endless"=tx g9:=by decide +kernel
theorem rh:Str.ofString "-endless"=tx (45::g9):=by decide +kernel
theorem F5:lN md=none:=by decide +kernel
theorem Jx:lN g9=none:=by decide +kernel
theorem F6:lN (45::g9)=none:=by decide +kernel
theorem jX:j2 .bf=.ok (.bl false):=rfl
theorem rl{e f:Int}{l:List Nat}(h1:¬ l=md)(h2:¬ l=g9)(h3:¬ l=45::g9):sF [e∣f,.str (tx l)]=.ok .bf:=by
  dsimp![sF,DK,lit_none,uk,rh,fX,h1,h2,h3]
theorem BH(h:Wd e f):sF [e∣f,.str (tx md)]=.ok (.int (eS e f+p2 (f - 1))):=by
  have q:=Al h;dsimp![sF,DK,lit_none,fX,Y7,q]
theorem D8(h:Wd e f)(b:Bool):sF [e∣f,.str (tx ((if b then [45] else [])++g9))]=.ok (.int (eS e f+sg b*p2 (e+f))):=by
  obtain⟨m1,m3,_,_,_⟩:=dH h;have q:=HG h
  have ws:=sP (u:=eS e f) ⟨h,.inl rfl,by omega,by omega⟩ b;have n1:∀ b:Bool,¬((if b then [45] else [])++g9=md):=by decide
  have n2:∀ b:Bool,decide ((if b then [45] else [])++g9=45::g9)=b:=by decide
  have n3:∀ b:Bool,decide ((if b then [45] else [])++g9=g9) = !b:=by decide
  have e1:=n2 b;have e2:=n3 b
  have e3:=n1 b;generalize (if b then [45] else [])++g9=l at *;have es:(if b=true then (1:Int) else 0)=sg b:=rfl
  rw[es]at ws;cases b
  . dsimp![sF,DK,lit_none,uk,rh,fX,e3,e1,e2,q,ws]
  . dsimp![sF,DK,lit_none,uk,rh,fX,e3,e1,e2,q,ws]
theorem lO{l:List Nat}{v:PV} (h:Wd e f) (hl:l.length<=16000000) (hv:cI (some v)=.ok v) (h1:¬ l=md) (h2:¬ l=g9) (h3:¬ l=45::g9) (hp:lN l=none) :
    z5 [e∣f,.str (tx l),v]=.exc 6:=by
  have cw:=lJ h;have nw:=rl (e:=e) (f:=f) h1 h2 h3
  have q:=M3 hl;rw[hp]at q;simp only[BG]at q;dsimp![z5,sG,List.replicate,List.set,cw,nw,jX,q]
theorem vy{r:Bool×Nat×Int} (hp:lN l=some r):¬ l=md/\¬ l=g9/\¬ l=45::g9:=by
  refine⟨?_,?_,?_⟩<;>intro e<;>subst e
  . rw[F5]at hp;cases hp
  . rw[Jx]at hp;cases hp
  . rw[F6]at hp;cases hp
section
variable {e f p:Int}{z:Str}{k:Nat}{l:List Nat}
theorem D9(h:Wd e f)(wk:dq p z k):z5 [e∣f,.str (tx md),.str z]=.ok (.tup [.int (eS e f+p2 (f - 1)),.int 0]):=by
  have cw:=lJ h;have wy:=(gN wk).1
  have nw:=BH h;dsimp![z5,sG,List.replicate,List.set,cw,nw,DR,wy]
theorem F7(h:Wd e f)(wk:dq p z k)(b:Bool):z5 [e∣f,.str (tx ((if b then [45] else [])++g9)),.str z]=.ok (.tup [.int (eS e f+sg b*p2 (e+f)),.int 0]):=by
  have cw:=lJ h;have wy:=(gN wk).1
  have nw:=D8 h b;dsimp![z5,sG,List.replicate,List.set,cw,nw,DR,wy]
theorem Ea{b:Bool}{t:Int}(h:Wd e f)(wk:dq p z k)(hl:l.length<=16000000)(hp:lN l=some (b,0,t)):z5 [e∣f,.str (tx l),.str z]=.ok (.tup [.int (sg b*p2 (e+f)),.int 0]):=by
  have cw:=lJ h;have wy:=(gN wk).1
  obtain⟨h1,h2,h3⟩:=vy hp;have nw:=rl (e:=e) (f:=f) h1 h2 h3
  have q:=M3 hl;rw[hp]at q;simp only[BG]at q;have ws:=sP (u:=0) ⟨h,.inl rfl,by decide,aQ _⟩ b
  have es:(if b=true then (1:Int) else 0)=sg b:=rfl;rw[es,ZV]at ws;have z0:((0:Nat):Int)=0:=rfl
  dsimp![z5,sG,List.replicate,List.set,cw,nw,jX,q,z0,wy,ws]
theorem F8{b:Bool}{w:Nat}{t:Int}{v:PV}(h:Wd e f)(hl:l.length<=16000000)(hp:lN l=some (b,w,t))(w0:0<w)(t0 : -2300<=t)(t1:t<=2300)(wb:nb w<=5000)
    (tk:zp [e∣f,.int ((if b then -(w:Int) else w)*jL t),.int 0,.int (jL (-t)),.str z]=.ok v):z5 [e∣f,.str (tx l),.str z]=.ok v:=by
  have cw:=lJ h;obtain⟨h1,h2,h3⟩:=vy hp;have nw:=rl (e:=e) (f:=f) h1 h2 h3
  have q:=M3 hl;rw[hp]at q;simp only[BG]at q;have z0:¬(w:Int)=0:=by omega
  by_cases tn:t<0
  . have te:=QO (n:=-t) (by omega) (by omega);rw[uj (a:=t) (by omega)]at tk;generalize jL (-t)=T at *;cases b
    . simp only[YX,Y2,Zp]at tk;dsimp![z5,sG,zV,DL,List.replicate,List.set,cw,nw,jX,q,z0,tn,te,tk]
    . simp only[Y4,Zp]at tk;dsimp![z5,sG,zV,DL,List.replicate,List.set,cw,nw,jX,q,z0,tn,te,tk]
  . have te:=QO (n:=t) (by omega) (by omega);have nt:=yb (n:=t) (m:=2300) (by omega)
    rw[uj (a:=-t) (by omega)]at tk;have o1:fL (w:Int) (jL t):=ir (m:=5000) (n:=10000) wb (by omega) (by decide)
    have o2:fL (-(w:Int)) (jL t):=ir (m:=5000) (n:=10000) (by rw[gX];exact wb) (by omega) (by decide);generalize jL t=T at *;cases b
    . simp only[YX,Y2]at tk;dsimp![z5,sG,zV,DL,List.replicate,List.set,cw,nw,jX,q,z0,tn,te,o1,tk]
    . simp only[Y4]at tk;dsimp![z5,sG,zV,DL,List.replicate,List.set,cw,nw,jX,q,z0,tn,te,o2,tk]
end
end Cm
namespace An
open PySem Mi Cm
section
variable {e f p:Int}{z:Str}{k:Nat}{s u t v r x:Int}
theorem Jy(h:Wu e f s u)(g:Wu e f t v):AW e f (z4 [e∣f,.int (u+s*p2 (e+f)),.int (v+t*p2 (e+f))]):=by
  obtain⟨m1,m3,p3,p4,p7⟩:=dH h.1;have v0:=g.2.2.1
  by_cases c1:eS e f<u\/eS e f<v
  . have q:=xY.Om h g c1;refine g6 h.1 q ?_ ?_<;>split<;>decide
  . by_cases c2:u=eS e f\/v=0
    . exact g6 h.1 (xY.Sr h g (by omega) (by omega) c2) (by decide) (by decide)
    . by_cases c3:v=eS e f
      . subst c3;exact⟨s,u,0,xY.Ss h g (by omega),h,by decide,by decide⟩
      . obtain⟨x,w,M,hx,w0,w1,q,_⟩:=xY.So h g (by omega) (by omega) (by omega);exact⟨x,w,0,q,⟨h.1,hx,w0,by omega⟩,by decide,by decide⟩
theorem F9{L:List kD.WP}(h:Wd e f)(w:dq p z k)(hl:L.length<=100)(hw:∀ q∈L,Wu e f q.1 q.2):AW e f (zo [e∣f,.lst (L.map (kD.wd e f)),.str z]):=by
  obtain⟨s',u',m,gt,a,b⟩:=mX (ts:=L.map (kD.Au e f)) h w (by rw[Zi];omega) (fun t ht=>by
    obtain⟨q,hq,rfl⟩:=ZJ.mp ht;exact mW (hw q hq))
  exact⟨s',u',m,kD.Oo (by omega) hw rfl gt,a,b⟩
theorem Jz(h:Wu e f s u)(g:Wu e f t v):∃ c m,za [e∣f,.int (u+s*p2 (e+f)),.int (v+t*p2 (e+f))]=.ok (.tup [.str c,.int m])/\(m=0\/m=1):=by
  have k1:=xG h;have k2:=xG g
  have i2:=l7 "loud" (dE e f u) (dE e f v);generalize ((Str.ofString (dE e f u) == Str.ofString "loud")||((Str.ofString (dE e f v) == Str.ofString "loud")||false))=b at i2;by_cases c1:eS e f<u
  . have r1:=HH h c1;by_cases c2:eS e f<v
    . have r2:=HH g c2;generalize u+s*p2 (e+f)=w1 at *;generalize v+t*p2 (e+f)=w2 at *;refine⟨"apart",if b then 1 else 0,?_,by cases b<;>simp⟩
      cases b<;>dsimp![za,qA,List.replicate,List.set,r1,r2,k1,k2,i2,Br]
    . have r2:=HI g (by omega);generalize u+s*p2 (e+f)=w1 at *;generalize v+t*p2 (e+f)=w2 at *;refine⟨"apart",if b then 1 else 0,?_,by cases b<;>simp⟩
      cases b<;>dsimp![za,qA,List.replicate,List.set,r1,r2,k1,k2,i2,Br,sN]
  . have r1:=HI h (by omega);by_cases c2:eS e f<v
    . have r2:=HH g c2;generalize u+s*p2 (e+f)=w1 at *;generalize v+t*p2 (e+f)=w2 at *;refine⟨"apart",if b then 1 else 0,?_,by cases b<;>simp⟩
      cases b<;>dsimp![za,qA,List.replicate,List.set,r1,r2,k1,k2,i2,Br,sN]
    . have r2:=HI g (by omega);generalize u+s*p2 (e+f)=w1 at *;generalize v+t*p2 (e+f)=w2 at *;generalize rk s u=a at *;generalize rk t v=b' at *;by_cases c3:a=b'
      . exact⟨"same",0,by dsimp![za,qA,List.replicate,List.set,r1,r2,sN,c3,Y7],.inl rfl⟩
      . by_cases c4:a<b'
        . exact⟨"less",0,by dsimp![za,qA,List.replicate,List.set,r1,r2,sN,c3,c4,Y7,Y5],.inl rfl⟩
        . exact⟨"more",0,by dsimp![za,qA,List.replicate,List.set,r1,r2,sN,c3,c4,Y7,Y5],.inl rfl⟩
theorem mZ{l:List Nat}{b:Bool}{w:Nat}{t:Int}(h:Wd e f)(wk:dq p z k)(hl:l.length<=16000000)(hp:lN l=some (b,w,t))(t0 : -1100<=t)(t1:t<=1100)(wb:nb w<=1000) :
    AW e f (z5 [e∣f,.str (tx l),.str z]):=by
  obtain⟨l1,l2,l3,l4⟩:=dS h;by_cases w0:w=0
  . subst w0;have q:=Ea h wk hl hp
    exact⟨sg b,0,0,by rw[q,ZV],⟨h,by cases b<;>simp[sg],by decide,aQ _⟩,by decide,by decide⟩
  . have np:=yb (n:=t) (m:=1100) (by omega);have nd:=yb (n:=-t) (m:=1100) (by omega)
    have pp:=Ay t;have hw:(w:Int)≠0:=by omega
    obtain⟨s',u',m,a,hu,hm⟩:=nR (n:=(if b then -(w:Int) else w)*jL t) (j:=0) (d:=jL (-t)) h wk (by
        intro c;rcases abl.mp c with c | c
        . split at c<;>omega
        . omega) (Ay _) (by
        have x1:=gD (if b=true then -(w:Int) else w) (jL t);have x2:nb (if b=true then -(w:Int) else w)<=1000:=by split<;>(try rw[gX])<;>exact wb
        omega) (by omega) (by omega) (by decide)
    exact⟨s',u',m,F8 h hl hp (by omega) (by omega) (by omega) (by omega) a,hu,by omega,by omega⟩
abbrev jM(e f:Int)(v:PV):Prop:=Bt 0 (p2 (1+e+f) - 1) v
variable {y y':PV}
theorem Ot(h:Wd e f)(hv:jM e f y):ze [e∣f,y]=.exc 2:=by
  have a:=hv.1;have c:=HE h hv.1 hv.2
  dsimp![ze,vd,pk,DB,List.replicate,List.set,a,c]
theorem Eb(h:Wd e f)(hv:jM e f y)(a':cI (some y')=.ok y'):zj [e∣f,y,y',.str z]=.exc 2:=by
  have a:=hv.1;have t1:=qE h hv
  dsimp![zj,Hr,a,t1]
theorem M4(h:Wu e f s u)(hv:jM e f y):zj [e∣f,.int (u+s*p2 (e+f)),y,.str z]=.exc 2:=by
  have a:=hv.1;have t1:=qE h.1 hv
  have t0:=cP h;have a0:=jg (bp e f s u)
  generalize (bp e f s u).pv=T at *;dsimp![zj,Hr,a,t0,a0,t1]
theorem JA(g:Wu e f t v)(hv:jM e f y):zm [e∣f,y,.int (v+t*p2 (e+f)),.str z]=.exc 2:=by
  have a:=hv.1;have tu:=Me g
  have q:=Eb (z:=z) (y':=.int (v+(1 - t)*p2 (e+f))) g.1 hv rfl;generalize v+t*p2 (e+f)=w1 at *;generalize v+(1 - t)*p2 (e+f)=w2 at *;dsimp![zm,Hs,a,tu,q]
theorem JB(h:Wd e f)(hv:jM e f y){w:Int}:zm [e∣f,.int w,y,.str z]=.exc 2:=by
  have a:=hv.1;have c:=HE h hv.1 hv.2
  dsimp![zm,Hs,ve,Lv,a,c]
theorem Ec(h:Wd e f)(hv:jM e f y)(a':cI (some y')=.ok y'):z7 [e∣f,y,y']=.exc 2:=by
  have a:=hv.1;have t1:=qE h hv
  dsimp![z7,zf,List.replicate,List.set,a,t1]
theorem Ed(h:Wu e f s u)(hv:jM e f y):z7 [e∣f,.int (u+s*p2 (e+f)),y]=.exc 2:=by
  have a:=hv.1;have t1:=qE h.1 hv
  have t0:=cP h;have a0:=jg (bp e f s u)
  generalize (bp e f s u).pv=T at *;dsimp![z7,zf,List.replicate,List.set,a,t0,a0,t1]
theorem Ee{y1 y2:PV}(a1:cI (some y1)=.ok y1)(a2:cI (some y2)=.ok y2)(q:z7 [e∣f,y1,y2]=.exc 2):zv [e∣f,y1,y2,.str z]=.exc 2:=by
  dsimp![zv,LI,a1,a2,q]
theorem Ef{y1 y2 y3:PV}(a1:cI (some y1)=.ok y1)(a2:cI (some y2)=.ok y2)(q:z7 [e∣f,y1,y2]=.exc 2):fS [e∣f,y1,y2,y3,.str z]=.exc 2:=by
  dsimp![fS,LJ,a1,a2,q]
theorem M5(h:Wd e f)(hv:jM e f y)(a':cI (some y')=.ok y'):z8 [e∣f,y,y',.str z]=.exc 2:=by
  have a:=hv.1;have t1:=qE h hv
  dsimp![z8,zQ,List.replicate,List.set,a,t1]
theorem M6(h:Wu e f s u)(hv:jM e f y):z8 [e∣f,.int (u+s*p2 (e+f)),y,.str z]=.exc 2:=by
  have a:=hv.1;have t1:=qE h.1 hv
  have t0:=cP h;have a0:=jg (bp e f s u)
  generalize (bp e f s u).pv=T at *;dsimp![z8,zQ,List.replicate,List.set,a,t0,a0,t1]
theorem M7(h:Wd e f)(hv:jM e f y)(a':cI (some y')=.ok y'):z4 [e∣f,y,y']=.exc 2:=by
  have a:=hv.1;have t1:=qE h hv
  dsimp![z4,zx,List.replicate,List.set,a,t1]
theorem M8(h:Wu e f s u)(hv:jM e f y):z4 [e∣f,.int (u+s*p2 (e+f)),y]=.exc 2:=by
  have a:=hv.1;have t1:=qE h.1 hv
  have t0:=cP h;have a0:=jg (bp e f s u)
  generalize (bp e f s u).pv=T at *;dsimp![z4,zx,List.replicate,List.set,a,t0,a0,t1]
theorem Ou(h:Wd e f)(hv:jM e f y):zb [e∣f,y,.str z]=.exc 2:=by
  have a:=hv.1;have t1:=qE h hv
  dsimp![zb,sE,List.replicate,List.set,a,t1]
theorem M9(h:Wd e f)(hv:jM e f y):z9 [e∣f,y,.str z]=.exc 2:=by
  have a:=hv.1;have t1:=Ot h hv
  dsimp![z9,qC,List.replicate,List.set,a,t1]
theorem Na(h:Wd e f)(hv:jM e f y)(a':cI (some y')=.ok y'):za [e∣f,y,y']=.exc 2:=by
  have a:=hv.1;have t1:=Qw h hv
  dsimp![za,qA,List.replicate,List.set,a,t1]
theorem Nb(h:Wu e f s u)(hv:jM e f y):za [e∣f,.int (u+s*p2 (e+f)),y]=.exc 2:=by
  have a:=hv.1;have t1:=Qw h.1 hv
  by_cases c:eS e f<u
  . have r1:=HH h c;generalize u+s*p2 (e+f)=w1 at *;dsimp![za,qA,List.replicate,List.set,a,r1,t1]
  . have r1:=HI h (by omega);generalize u+s*p2 (e+f)=w1 at *;dsimp![za,qA,List.replicate,List.set,a,r1,t1]
theorem Nc{A B:List PV}(h:Wd e f)(hv:jM e f y)(hA:∀ q∈A,∃ s u,q=.int (u+s*p2 (e+f))/\Wu e f s u)(hl:(A++y::B).length<=1000):zo [e∣f,.lst (A++y::B),.str z]=.exc 2:=by
  have c:gV 3 d8 (jz bM (af (ae 0) (af (ae 3) (aq)))) [some (e∣f),some (.lst (A++y::B)),some (.str z)] (A++y::B)=.exc 2:=by
    rw[kD.vw (by omega)];rw[kD.td (c:=2) (kD.MR (qE h hv) hv.1) (fun p hp=>by
      obtain⟨s,u,rfl,hu⟩:=hA p hp;exact⟨_,kD.MR (cP hu) rfl⟩)]
  generalize A++y::B=l at *;dsimp![zo,zT,List.replicate,List.set,kD.nS,c]
end
end An
namespace Cm
open PySem Mi
noncomputable def gE(W:PV)(z:Str)(r:Int):List (Str×PV):=[("width",W),("way",.str z),("raised",.int r)]
noncomputable abbrev bH(W:PV)(z:Str)(r:Int):Cell:=.obj 30 (gE W z r)
section
variable {W:PV}{z y:Str}{r s:Int}
theorem fR:(gE W z r).lookup ("width" : Str)=some W:=rfl
theorem fI:(gE W z r).lookup ("way" : Str)=some (.str z):=rfl
theorem Nd:(gE W z r).lookup ("raised" : Str)=some (.int r):=rfl
theorem Ia:lB "raised" (.int s) (gE W z r)=gE W z s:=rfl
theorem Ov:lB "way" (.str y) (gE W z r)=gE W y r:=rfl
theorem yc:(gE W z r).length<1000:=by show 3<1000;decide
theorem AA:(gE W z r).lookup ("plus" : Str)=none:=rfl
theorem yd:(gE W z r).lookup ("minus" : Str)=none:=rfl
theorem ye:(gE W z r).lookup ("times" : Str)=none:=rfl
theorem AB:(gE W z r).lookup ("over" : Str)=none:=rfl
theorem tf:(gE W z r).lookup ("left_of" : Str)=none:=rfl
theorem AD:(gE W z r).lookup ("root" : Str)=none:=rfl
theorem yf:(gE W z r).lookup ("whole" : Str)=none:=rfl
theorem yg:(gE W z r).lookup ("fused" : Str)=none:=rfl
theorem yh:(gE W z r).lookup ("total" : Str)=none:=rfl
theorem AE:(gE W z r).lookup ("read" : Str)=none:=rfl
theorem qH:(gE W z r).lookup ("compared" : Str)=none:=rfl
theorem cK:(gE W z r).lookup ("noted" : Str)=none:=rfl
theorem tq:(gE W z r).lookup ("turn_to" : Str)=none:=rfl
theorem JC:(gE W z r).lookup ("wipe" : Str)=none:=rfl
end
section
variable {W:PV}{S:aW}{i:Nat}{z:Str}{r e f:Int}
theorem gy(h:S[i]?=some (bH W z r))(x:PV)(m:Int):cH [aS i,.tup [x,.int m]] S=.ok x (S.set i (bH W z (Builtin.bitOr r m))):=by
  have a1:=bL h Nd;have a2:∀(ρ:aJ)(q:PV),jQ 30 "raised" ρ q (aS i) S=.next ρ (S.set i (.obj 30 (lB "raised" q (gE W z r)))):=fun ρ q=>pV h yc
  dsimp![cH,P8,a1,a2,Ia,List.replicate,List.set]
theorem Nf(h:S[i]?=some (bH W z r)){y:Str}{v:PV}(hy:zk [.str y]=.ok v):xB [aS i,.str y] S=.ok .bf (S.set i (bH W y r)):=by
  have a2:∀(ρ:aJ)(q:PV),jQ 30 "way" ρ q (aS i) S=.next ρ (S.set i (.obj 30 (lB "way" q (gE W z r)))):=fun ρ q=>pV h yc
  dsimp![xB,LL,a2,Ov,hy,List.replicate,List.set]
theorem JD{v:PV}(av:cI (some v)=.ok v)(ho:ko (some v)=some v)(hy:zk [v]=.exc 3):xB [aS i,v] S=.exc 3 S:=by
  dsimp![xB,LL,ho,av,hy,List.replicate,List.set]
theorem Ng(h:S[i]?=some (bH W z r)):Hv [aS i] S=.ok .bf (S.set i (bH W z 0)):=by
  have a2:∀(ρ:aJ)(q:PV),jQ 30 "raised" ρ q (aS i) S=.next ρ (S.set i (.obj 30 (lB "raised" q (gE W z r)))):=fun ρ q=>pV h yc
  dsimp![Hv,P9,a2,Ia,List.replicate,List.set]
theorem Eg(h:S[i]?=some (bH (e∣f) z r))(a:Int)(b:Int){x:PV}{m:Int}(q:zj [e∣f,.int a,.int b,.str z]=.ok (.tup [x,.int m])):zZ [aS i,.int a,.int b] S=.ok x (S.set i (bH (e∣f) z (Builtin.bitOr r m))):=by
  have a1:=bL h fR;have a2:=bL h fI
  have o1:=br h cK;have n1:=gy h x m
  have p1:∀ F,pK F [e∣f,.int a,.int b,.str z] S=dC S (F [e∣f,.int a,.int b,.str z]):=fun F=>eh rfl;dsimp![zZ,LQ,bK o1,a1,a2,p1,q,n1,List.replicate,List.set]
theorem Ga(h:S[i]?=some (bH (e∣f) z r))(a:Int)(b:Int){d:Nat}(q:zj [e∣f,.int a,.int b,.str z]=.exc d):zZ [aS i,.int a,.int b] S=.exc d S:=by
  have a1:=bL h fR;have a2:=bL h fI
  have o1:=br h cK;have p1:∀ F,pK F [e∣f,.int a,.int b,.str z] S=dC S (F [e∣f,.int a,.int b,.str z]):=fun F=>eh rfl
  dsimp![zZ,LQ,bK o1,a1,a2,p1,q,List.replicate,List.set]
theorem BI(h:S[i]?=some (bH (e∣f) z r))(a:Int)(b:Int){x:PV}{m:Int}(q:zm [e∣f,.int a,.int b,.str z]=.ok (.tup [x,.int m])):Ag [aS i,.int a,.int b] S=.ok x (S.set i (bH (e∣f) z (Builtin.bitOr r m))):=by
  have a1:=bL h fR;have a2:=bL h fI
  have o1:=br h cK;have n1:=gy h x m
  have p1:∀ F,pK F [e∣f,.int a,.int b,.str z] S=dC S (F [e∣f,.int a,.int b,.str z]):=fun F=>eh rfl;dsimp![Ag,LY,bK o1,a1,a2,p1,q,n1,List.replicate,List.set]
theorem Eh(h:S[i]?=some (bH (e∣f) z r))(a:Int)(b:Int){d:Nat}(q:zm [e∣f,.int a,.int b,.str z]=.exc d):Ag [aS i,.int a,.int b] S=.exc d S:=by
  have a1:=bL h fR;have a2:=bL h fI
  have o1:=br h cK;have p1:∀ F,pK F [e∣f,.int a,.int b,.str z] S=dC S (F [e∣f,.int a,.int b,.str z]):=fun F=>eh rfl
  dsimp![Ag,LY,bK o1,a1,a2,p1,q,List.replicate,List.set]
theorem BJ(h:S[i]?=some (bH (e∣f) z r))(a:Int)(b:Int){x:PV}{m:Int}(q:zv [e∣f,.int a,.int b,.str z]=.ok (.tup [x,.int m])):Aa [aS i,.int a,.int b] S=.ok x (S.set i (bH (e∣f) z (Builtin.bitOr r m))):=by
  have a1:=bL h fR;have a2:=bL h fI
  have o1:=br h cK;have n1:=gy h x m
  have p1:∀ F,pK F [e∣f,.int a,.int b,.str z] S=dC S (F [e∣f,.int a,.int b,.str z]):=fun F=>eh rfl;dsimp![Aa,LR,bK o1,a1,a2,p1,q,n1,List.replicate,List.set]
theorem Ei(h:S[i]?=some (bH (e∣f) z r))(a:Int)(b:Int){d:Nat}(q:zv [e∣f,.int a,.int b,.str z]=.exc d):Aa [aS i,.int a,.int b] S=.exc d S:=by
  have a1:=bL h fR;have a2:=bL h fI
  have o1:=br h cK;have p1:∀ F,pK F [e∣f,.int a,.int b,.str z] S=dC S (F [e∣f,.int a,.int b,.str z]):=fun F=>eh rfl
  dsimp![Aa,LR,bK o1,a1,a2,p1,q,List.replicate,List.set]
theorem Ej(h:S[i]?=some (bH (e∣f) z r))(a:Int)(b:Int){x:PV}{m:Int}(q:z8 [e∣f,.int a,.int b,.str z]=.ok (.tup [x,.int m])):Ab [aS i,.int a,.int b] S=.ok x (S.set i (bH (e∣f) z (Builtin.bitOr r m))):=by
  have a1:=bL h fR;have a2:=bL h fI
  have o1:=br h cK;have n1:=gy h x m
  have p1:∀ F,pK F [e∣f,.int a,.int b,.str z] S=dC S (F [e∣f,.int a,.int b,.str z]):=fun F=>eh rfl;dsimp![Ab,LS,bK o1,a1,a2,p1,q,n1,List.replicate,List.set]
theorem Gb(h:S[i]?=some (bH (e∣f) z r))(a:Int)(b:Int){d:Nat}(q:z8 [e∣f,.int a,.int b,.str z]=.exc d):Ab [aS i,.int a,.int b] S=.exc d S:=by
  have a1:=bL h fR;have a2:=bL h fI
  have o1:=br h cK;have p1:∀ F,pK F [e∣f,.int a,.int b,.str z] S=dC S (F [e∣f,.int a,.int b,.str z]):=fun F=>eh rfl
  dsimp![Ab,LS,bK o1,a1,a2,p1,q,List.replicate,List.set]
theorem yi(h:S[i]?=some (bH (e∣f) z r))(a:Int)(b:Int){x:PV}{m:Int}(q:z4 [e∣f,.int a,.int b]=.ok (.tup [x,.int m])):zX [aS i,.int a,.int b] S=.ok x (S.set i (bH (e∣f) z (Builtin.bitOr r m))):=by
  have a1:=bL h fR;have a2:=bL h fI
  have o1:=br h cK;have n1:=gy h x m
  have p1:∀ F,pK F [e∣f,.int a,.int b] S=dC S (F [e∣f,.int a,.int b]):=fun F=>eh rfl;dsimp![zX,LO,bK o1,a1,a2,p1,q,n1,List.replicate,List.set]
theorem yC(h:S[i]?=some (bH (e∣f) z r))(a:Int)(b:Int){d:Nat}(q:z4 [e∣f,.int a,.int b]=.exc d):zX [aS i,.int a,.int b] S=.exc d S:=by
  have a1:=bL h fR;have a2:=bL h fI
  have o1:=br h cK;have p1:∀ F,pK F [e∣f,.int a,.int b] S=dC S (F [e∣f,.int a,.int b]):=fun F=>eh rfl
  dsimp![zX,LO,bK o1,a1,a2,p1,q,List.replicate,List.set]
theorem Ek(h:S[i]?=some (bH (e∣f) z r))(a:Int){x:PV}{m:Int}(q:zb [e∣f,.int a,.str z]=.ok (.tup [x,.int m])):zY [aS i,.int a] S=.ok x (S.set i (bH (e∣f) z (Builtin.bitOr r m))):=by
  have a1:=bL h fR;have a2:=bL h fI
  have o1:=br h cK;have n1:=gy h x m
  have p1:∀ F,pK F [e∣f,.int a,.str z] S=dC S (F [e∣f,.int a,.str z]):=fun F=>eh rfl;dsimp![zY,LP,bK o1,a1,a2,p1,q,n1,List.replicate,List.set]
theorem Gd(h:S[i]?=some (bH (e∣f) z r))(a:Int){d:Nat}(q:zb [e∣f,.int a,.str z]=.exc d):zY [aS i,.int a] S=.exc d S:=by
  have a1:=bL h fR;have a2:=bL h fI
  have o1:=br h cK;have p1:∀ F,pK F [e∣f,.int a,.str z] S=dC S (F [e∣f,.int a,.str z]):=fun F=>eh rfl
  dsimp![zY,LP,bK o1,a1,a2,p1,q,List.replicate,List.set]
theorem BK(h:S[i]?=some (bH (e∣f) z r))(a:Int){x:PV}{m:Int}(q:z9 [e∣f,.int a,.str z]=.ok (.tup [x,.int m])):Ac [aS i,.int a] S=.ok x (S.set i (bH (e∣f) z (Builtin.bitOr r m))):=by
  have a1:=bL h fR;have a2:=bL h fI
  have o1:=br h cK;have n1:=gy h x m
  have p1:∀ F,pK F [e∣f,.int a,.str z] S=dC S (F [e∣f,.int a,.str z]):=fun F=>eh rfl;dsimp![Ac,LU,bK o1,a1,a2,p1,q,n1,List.replicate,List.set]
theorem El(h:S[i]?=some (bH (e∣f) z r))(a:Int){d:Nat}(q:z9 [e∣f,.int a,.str z]=.exc d):Ac [aS i,.int a] S=.exc d S:=by
  have a1:=bL h fR;have a2:=bL h fI
  have o1:=br h cK;have p1:∀ F,pK F [e∣f,.int a,.str z] S=dC S (F [e∣f,.int a,.str z]):=fun F=>eh rfl
  dsimp![Ac,LU,bK o1,a1,a2,p1,q,List.replicate,List.set]
theorem BL(h:S[i]?=some (bH (e∣f) z r))(a:Int)(b:Int)(c:Int){x:PV}{m:Int}(q:fS [e∣f,.int a,.int b,.int c,.str z]=.ok (.tup [x,.int m])):Ad [aS i,.int a,.int b,.int c] S=.ok x (S.set i (bH (e∣f) z (Builtin.bitOr r m))):=by
  have a1:=bL h fR;have a2:=bL h fI
  have o1:=br h cK;have n1:=gy h x m
  have p1:∀ F,pK F [e∣f,.int a,.int b,.int c,.str z] S=dC S (F [e∣f,.int a,.int b,.int c,.str z]):=fun F=>eh rfl;dsimp![Ad,LV,bK o1,a1,a2,p1,q,n1,List.replicate,List.set]
theorem Em(h:S[i]?=some (bH (e∣f) z r))(a:Int)(b:Int)(c:Int){d:Nat}(q:fS [e∣f,.int a,.int b,.int c,.str z]=.exc d):Ad [aS i,.int a,.int b,.int c] S=.exc d S:=by
  have a1:=bL h fR;have a2:=bL h fI
  have o1:=br h cK;have p1:∀ F,pK F [e∣f,.int a,.int b,.int c,.str z] S=dC S (F [e∣f,.int a,.int b,.int c,.str z]):=fun F=>eh rfl
  dsimp![Ad,LV,bK o1,a1,a2,p1,q,List.replicate,List.set]
theorem BM(h:S[i]?=some (bH (e∣f) z r))(l:List PV){x:PV}{m:Int}(q:zo [e∣f,.lst l,.str z]=.ok (.tup [x,.int m])):Ae [aS i,.lst l] S=.ok x (S.set i (bH (e∣f) z (Builtin.bitOr r m))):=by
  have a1:=bL h fR;have a2:=bL h fI
  have o1:=br h cK;have n1:=gy h x m
  have p1:∀ F,pK F [e∣f,.lst l,.str z] S=dC S (F [e∣f,.lst l,.str z]):=fun F=>eh rfl;dsimp![Ae,LW,bK o1,a1,a2,p1,q,n1,List.replicate,List.set]
theorem En(h:S[i]?=some (bH (e∣f) z r))(l:List PV){d:Nat}(q:zo [e∣f,.lst l,.str z]=.exc d):Ae [aS i,.lst l] S=.exc d S:=by
  have a1:=bL h fR;have a2:=bL h fI
  have o1:=br h cK;have p1:∀ F,pK F [e∣f,.lst l,.str z] S=dC S (F [e∣f,.lst l,.str z]):=fun F=>eh rfl
  dsimp![Ae,LW,bK o1,a1,a2,p1,q,List.replicate,List.set]
theorem Eo(h:S[i]?=some (bH (e∣f) z r))(t:Str){x:PV}{m:Int}(q:z5 [e∣f,.str t,.str z]=.ok (.tup [x,.int m])):Af [aS i,.str t] S=.ok x (S.set i (bH (e∣f) z (Builtin.bitOr r m))):=by
  have a1:=bL h fR;have a2:=bL h fI
  have o1:=br h cK;have n1:=gy h x m
  have p1:∀ F,pK F [e∣f,.str t,.str z] S=dC S (F [e∣f,.str t,.str z]):=fun F=>eh rfl;dsimp![Af,LX,bK o1,a1,a2,p1,q,n1,List.replicate,List.set]
theorem Ge(h:S[i]?=some (bH (e∣f) z r))(t:Str){d:Nat}(q:z5 [e∣f,.str t,.str z]=.exc d):Af [aS i,.str t] S=.exc d S:=by
  have a1:=bL h fR;have a2:=bL h fI
  have o1:=br h cK;have p1:∀ F,pK F [e∣f,.str t,.str z] S=dC S (F [e∣f,.str t,.str z]):=fun F=>eh rfl
  dsimp![Af,LX,bK o1,a1,a2,p1,q,List.replicate,List.set]
theorem vH(h:S[i]?=some (bH (e∣f) z r))(a:Int)(b:Int){x:PV}{m:Int}(q:za [e∣f,.int a,.int b]=.ok (.tup [x,.int m])):zW [aS i,.int a,.int b] S=.ok x (S.set i (bH (e∣f) z (Builtin.bitOr r m))):=by
  have a1:=bL h fR;have a2:=bL h fI
  have o1:=br h cK;have n1:=gy h x m
  have p1:∀ F,pK F [e∣f,.int a,.int b] S=dC S (F [e∣f,.int a,.int b]):=fun F=>eh rfl;dsimp![zW,LN,bK o1,a1,a2,p1,q,n1,List.replicate,List.set]
theorem yj(h:S[i]?=some (bH (e∣f) z r))(a:Int)(b:Int){d:Nat}(q:za [e∣f,.int a,.int b]=.exc d):zW [aS i,.int a,.int b] S=.exc d S:=by
  have a1:=bL h fR;have a2:=bL h fI
  have o1:=br h cK;have p1:∀ F,pK F [e∣f,.int a,.int b] S=dC S (F [e∣f,.int a,.int b]):=fun F=>eh rfl
  dsimp![zW,LN,bK o1,a1,a2,p1,q,List.replicate,List.set]
end
end Cm
namespace K91
open PySem Mi Cm
section
variable {S:aW}{i:Nat}{z t:Str}{r e f a b c m:Int}{x:PV}{d:Nat}
theorem Ep:jc 4:=show(0:Int)<4 by decide
theorem tv(l:List PV)(lo hi:Option Int):ng (.lst l) lo hi=.ok (.lst (jv l lo hi)):=rfl
theorem Sx(q:zj [e∣f,.int a,.int b,.str z]=.ok (.tup [x,.int m])):bT [e∣f,.str z,.int 0,.lst [.int a,.int b,.int c],.str t]=.ok (.tup [x,.int m]):=by
  dsimp![bT,zr,q]
theorem Sy(h:S[i]?=some (bH (e∣f) z r))(q:zj [e∣f,.int a,.int b,.str z]=.ok (.tup [x,.int m])):bw [aS i,.int 0,.lst [.int a,.int b,.int c],.str t] S=.ok x (S.set i (bH (e∣f) z (Builtin.bitOr r m))):=by
  have o1:=br h AA;have q1:=Eg h a b q
  dsimp![bw,z6,bK o1,q1]
theorem Nh(h:S[i]?=some (bH (e∣f) z r))(q:zj [e∣f,.int a,.int b,.str z]=.exc d):bw [aS i,.int 0,.lst [.int a,.int b,.int c],.str t] S=.exc d S:=by
  have o1:=br h AA;have q1:=Ga h a b q
  dsimp![bw,z6,bK o1,q1]
theorem Sz(q:zm [e∣f,.int a,.int b,.str z]=.ok (.tup [x,.int m])):bT [e∣f,.str z,.int 1,.lst [.int a,.int b,.int c],.str t]=.ok (.tup [x,.int m]):=by
  dsimp![bT,zr,q]
theorem SD(h:S[i]?=some (bH (e∣f) z r))(q:zm [e∣f,.int a,.int b,.str z]=.ok (.tup [x,.int m])):bw [aS i,.int 1,.lst [.int a,.int b,.int c],.str t] S=.ok x (S.set i (bH (e∣f) z (Builtin.bitOr r m))):=by
  have o1:=br h yd;have q1:=BI h a b q
  dsimp![bw,z6,bK o1,q1]
theorem Ni(h:S[i]?=some (bH (e∣f) z r))(q:zm [e∣f,.int a,.int b,.str z]=.exc d):bw [aS i,.int 1,.lst [.int a,.int b,.int c],.str t] S=.exc d S:=by
  have o1:=br h yd;have q1:=Eh h a b q
  dsimp![bw,z6,bK o1,q1]
theorem SF(q:zv [e∣f,.int a,.int b,.str z]=.ok (.tup [x,.int m])):bT [e∣f,.str z,.int 2,.lst [.int a,.int b,.int c],.str t]=.ok (.tup [x,.int m]):=by
  dsimp![bT,zr,q]
theorem SG(h:S[i]?=some (bH (e∣f) z r))(q:zv [e∣f,.int a,.int b,.str z]=.ok (.tup [x,.int m])):bw [aS i,.int 2,.lst [.int a,.int b,.int c],.str t] S=.ok x (S.set i (bH (e∣f) z (Builtin.bitOr r m))):=by
  have o1:=br h ye;have q1:=BJ h a b q
  dsimp![bw,z6,bK o1,q1]
theorem Nj(h:S[i]?=some (bH (e∣f) z r))(q:zv [e∣f,.int a,.int b,.str z]=.exc d):bw [aS i,.int 2,.lst [.int a,.int b,.int c],.str t] S=.exc d S:=by
  have o1:=br h ye;have q1:=Ei h a b q
  dsimp![bw,z6,bK o1,q1]
theorem SH(q:z8 [e∣f,.int a,.int b,.str z]=.ok (.tup [x,.int m])):bT [e∣f,.str z,.int 3,.lst [.int a,.int b,.int c],.str t]=.ok (.tup [x,.int m]):=by
  dsimp![bT,zr,q]
theorem SI(h:S[i]?=some (bH (e∣f) z r))(q:z8 [e∣f,.int a,.int b,.str z]=.ok (.tup [x,.int m])):bw [aS i,.int 3,.lst [.int a,.int b,.int c],.str t] S=.ok x (S.set i (bH (e∣f) z (Builtin.bitOr r m))):=by
  have o1:=br h AB;have q1:=Ej h a b q
  dsimp![bw,z6,bK o1,q1]
theorem Nk(h:S[i]?=some (bH (e∣f) z r))(q:z8 [e∣f,.int a,.int b,.str z]=.exc d):bw [aS i,.int 3,.lst [.int a,.int b,.int c],.str t] S=.exc d S:=by
  have o1:=br h AB;have q1:=Gb h a b q
  dsimp![bw,z6,bK o1,q1]
theorem SJ(q:z4 [e∣f,.int a,.int b]=.ok (.tup [x,.int m])):bT [e∣f,.str z,.int 4,.lst [.int a,.int b,.int c],.str t]=.ok (.tup [x,.int m]):=by
  dsimp![bT,zr,q]
theorem SK(h:S[i]?=some (bH (e∣f) z r))(q:z4 [e∣f,.int a,.int b]=.ok (.tup [x,.int m])):bw [aS i,.int 4,.lst [.int a,.int b,.int c],.str t] S=.ok x (S.set i (bH (e∣f) z (Builtin.bitOr r m))):=by
  have o1:=br h tf;have q1:=yi h a b q
  dsimp![bw,z6,bK o1,q1]
theorem Nl(h:S[i]?=some (bH (e∣f) z r))(q:z4 [e∣f,.int a,.int b]=.exc d):bw [aS i,.int 4,.lst [.int a,.int b,.int c],.str t] S=.exc d S:=by
  have o1:=br h tf;have q1:=yC h a b q
  dsimp![bw,z6,bK o1,q1]
theorem SM(q:zb [e∣f,.int a,.str z]=.ok (.tup [x,.int m])):bT [e∣f,.str z,.int 5,.lst [.int a,.int b,.int c],.str t]=.ok (.tup [x,.int m]):=by
  dsimp![bT,zr,q]
theorem SN(h:S[i]?=some (bH (e∣f) z r))(q:zb [e∣f,.int a,.str z]=.ok (.tup [x,.int m])):bw [aS i,.int 5,.lst [.int a,.int b,.int c],.str t] S=.ok x (S.set i (bH (e∣f) z (Builtin.bitOr r m))):=by
  have o1:=br h AD;have q1:=Ek h a q
  dsimp![bw,z6,bK o1,q1]
theorem SO(h:S[i]?=some (bH (e∣f) z r))(q:zb [e∣f,.int a,.str z]=.exc d):bw [aS i,.int 5,.lst [.int a,.int b,.int c],.str t] S=.exc d S:=by
  have o1:=br h AD;have q1:=Gd h a q
  dsimp![bw,z6,bK o1,q1]
theorem SQ(q:z9 [e∣f,.int a,.str z]=.ok (.tup [x,.int m])):bT [e∣f,.str z,.int 6,.lst [.int a,.int b,.int c],.str t]=.ok (.tup [x,.int m]):=by
  dsimp![bT,zr,q]
theorem SS(h:S[i]?=some (bH (e∣f) z r))(q:z9 [e∣f,.int a,.str z]=.ok (.tup [x,.int m])):bw [aS i,.int 6,.lst [.int a,.int b,.int c],.str t] S=.ok x (S.set i (bH (e∣f) z (Builtin.bitOr r m))):=by
  have o1:=br h yf;have q1:=BK h a q
  dsimp![bw,z6,bK o1,q1]
theorem SU(h:S[i]?=some (bH (e∣f) z r))(q:z9 [e∣f,.int a,.str z]=.exc d):bw [aS i,.int 6,.lst [.int a,.int b,.int c],.str t] S=.exc d S:=by
  have o1:=br h yf;have q1:=El h a q
  dsimp![bw,z6,bK o1,q1]
theorem SW(q:fS [e∣f,.int a,.int b,.int c,.str z]=.ok (.tup [x,.int m])):bT [e∣f,.str z,.int 7,.lst [.int a,.int b,.int c],.str t]=.ok (.tup [x,.int m]):=by
  dsimp![bT,zr,q]
theorem SX(h:S[i]?=some (bH (e∣f) z r))(q:fS [e∣f,.int a,.int b,.int c,.str z]=.ok (.tup [x,.int m])):bw [aS i,.int 7,.lst [.int a,.int b,.int c],.str t] S=.ok x (S.set i (bH (e∣f) z (Builtin.bitOr r m))):=by
  have o1:=br h yg;have q1:=BL h a b c q
  dsimp![bw,z6,bK o1,q1]
theorem Nm(h:S[i]?=some (bH (e∣f) z r))(q:fS [e∣f,.int a,.int b,.int c,.str z]=.exc d):bw [aS i,.int 7,.lst [.int a,.int b,.int c],.str t] S=.exc d S:=by
  have o1:=br h yg;have q1:=Em h a b c q
  dsimp![bw,z6,bK o1,q1]
theorem SY(q:zo [e∣f,.lst (jv [.int a,.int b,.int c] none (some (c%4))),.str z]=.ok (.tup [x,.int m])):bT [e∣f,.str z,.int 8,.lst [.int a,.int b,.int c],.str t]=.ok (.tup [x,.int m]):=by
  dsimp![bT,zr,q,Ep,tv]
theorem S4(h:S[i]?=some (bH (e∣f) z r))(q:zo [e∣f,.lst (jv [.int a,.int b,.int c] none (some (c%4))),.str z]=.ok (.tup [x,.int m])):bw [aS i,.int 8,.lst [.int a,.int b,.int c],.str t] S=.ok x (S.set i (bH (e∣f) z (Builtin.bitOr r m))):=by
  have o1:=br h yh;have q1:=BM h _ q
  dsimp![bw,z6,bK o1,q1,Ep,tv]
theorem Np(h:S[i]?=some (bH (e∣f) z r))(q:zo [e∣f,.lst (jv [.int a,.int b,.int c] none (some (c%4))),.str z]=.exc d):bw [aS i,.int 8,.lst [.int a,.int b,.int c],.str t] S=.exc d S:=by
  have o1:=br h yh;have q1:=En h _ q
  dsimp![bw,z6,bK o1,q1,Ep,tv]
theorem S5(q:z5 [e∣f,.str t,.str z]=.ok (.tup [x,.int m])):bT [e∣f,.str z,.int 9,.lst [.int a,.int b,.int c],.str t]=.ok (.tup [x,.int m]):=by
  dsimp![bT,zr,q]
theorem S6(h:S[i]?=some (bH (e∣f) z r))(q:z5 [e∣f,.str t,.str z]=.ok (.tup [x,.int m])):bw [aS i,.int 9,.lst [.int a,.int b,.int c],.str t] S=.ok x (S.set i (bH (e∣f) z (Builtin.bitOr r m))):=by
  have o1:=br h AE;have q1:=Eo h t q
  dsimp![bw,z6,bK o1,q1]
theorem S8(h:S[i]?=some (bH (e∣f) z r))(q:z5 [e∣f,.str t,.str z]=.exc d):bw [aS i,.int 9,.lst [.int a,.int b,.int c],.str t] S=.exc d S:=by
  have o1:=br h AE;have q1:=Ge h t q
  dsimp![bw,z6,bK o1,q1]
theorem Ow(q:za [e∣f,.int a,.int b]=.ok (.tup [x,.int m])):bT [e∣f,.str z,.int 10,.lst [.int a,.int b,.int c],.str t]=.ok (.tup [x,.int m]):=by
  dsimp![bT,zr,q]
theorem Ox(h:S[i]?=some (bH (e∣f) z r))(q:za [e∣f,.int a,.int b]=.ok (.tup [x,.int m])):bw [aS i,.int 10,.lst [.int a,.int b,.int c],.str t] S=.ok x (S.set i (bH (e∣f) z (Builtin.bitOr r m))):=by
  have o1:=br h qH;have q1:=vH h a b q
  dsimp![bw,z6,bK o1,q1]
theorem Ib(h:S[i]?=some (bH (e∣f) z r))(q:za [e∣f,.int a,.int b]=.exc d):bw [aS i,.int 10,.lst [.int a,.int b,.int c],.str t] S=.exc d S:=by
  have o1:=br h qH;have q1:=yj h a b q
  dsimp![bw,z6,bK o1,q1]
end
section
variable {S:aW}{i:Nat}{z t:Str}{r e f a b c n p:Int}{x:PV}{k:Nat}
abbrev jF(e f w:Int):Prop:=0<=w/\w<p2 (1+e+f)
theorem S9(h0:0<=c%4)(h1:c%4<4){L:List kD.WP}(hL:L.length=3):jv (L.map (kD.wd e f)) none (some (c%4))=(L.take (c%4).toNat).map (kD.wd e f):=by
  rw[kD.MU h0 (by rw[Zi,hL];omega),List.map_take]
theorem act(h:Wd e f)(wk:dq p z k)(ha:jF e f a)(hb:jF e f b)(hc:jF e f c)(ht:An.AW e f (z5 [e∣f,.str t,.str z]))(p0:0<=n)(p1:n<=10)(hS:S[i]?=some (bH (e∣f) z r)) :
    ∃ x m,bT [e∣f,.str z,.int n,.lst [.int a,.int b,.int c],.str t]=.ok (.tup [x,.int m])/\bw [aS i,.int n,.lst [.int a,.int b,.int c],.str t] S=.ok x (S.set i (bH (e∣f) z (Builtin.bitOr r m))) /\
      ((∃ j:Int,x=.int j)\/(n=10/\∃ s:Str,x=.str s)):=by
  obtain⟨s1,u1,w1,rfl⟩:=sO h ha.1 ha.2;obtain⟨s2,u2,w2,rfl⟩:=sO h hb.1 hb.2;obtain⟨s3,u3,w3,rfl⟩:=sO h hc.1 hc.2;have hn:n=0\/n=1\/n=2\/n=3\/n=4\/n=5\/n=6\/n=7\/n=8\/n=9\/n=10:=by omega
  rcases hn with rfl | rfl | rfl | rfl | rfl | rfl | rfl | rfl | rfl | rfl | rfl
  . obtain⟨s,u,m,q,_⟩:=An.As w1 w2 wk;exact⟨_,_,Sx q,Sy hS q,.inl ⟨_,rfl⟩⟩
  . obtain⟨s,u,m,q,_⟩:=An.FN w1 w2 wk;exact⟨_,_,Sz q,SD hS q,.inl ⟨_,rfl⟩⟩
  . obtain⟨s,u,m,q,_⟩:=An.FP w1 w2 wk;exact⟨_,_,SF q,SG hS q,.inl ⟨_,rfl⟩⟩
  . obtain⟨s,u,m,q,_⟩:=An.Jq w1 w2 wk;exact⟨_,_,SH q,SI hS q,.inl ⟨_,rfl⟩⟩
  . obtain⟨s,u,m,q,_⟩:=An.Jy w1 w2;exact⟨_,_,SJ q,SK hS q,.inl ⟨_,rfl⟩⟩
  . obtain⟨s,u,m,q,_⟩:=An.Jr w1 wk;exact⟨_,_,SM q,SN hS q,.inl ⟨_,rfl⟩⟩
  . obtain⟨s,u,m,q,_⟩:=An.FR w1 wk;exact⟨_,_,SQ q,SS hS q,.inl ⟨_,rfl⟩⟩
  . obtain⟨s,u,m,q,_⟩:=An.FQ w1 w2 w3 wk;exact⟨_,_,SW q,SX hS q,.inl ⟨_,rfl⟩⟩
  . have hw:∀ q∈([(s1,u1),(s2,u2),(s3,u3)]:List kD.WP),Wu e f q.1 q.2:=fun q hq=>by
      rcases Zm.mp hq with e | hq
      . rw[e];exact w1
      . rcases Zm.mp hq with e | hq
        . rw[e];exact w2
        . rw[Zu.mp hq];exact w3
    have cu:=S9 (e:=e) (f:=f) (c:=u3+s3*p2 (e+f)) (L:=[(s1,u1),(s2,u2),(s3,u3)]) (by omega) (by omega) rfl;obtain⟨s,u,m,q,_⟩:=An.F9 (L:=([(s1,u1),(s2,u2),(s3,u3)]:List kD.WP).take ((u3+s3*p2 (e+f))%4).toNat) h wk (by rw[aa1];simp;omega) (fun q hq=>hw q (abi hq));rw[<- cu]at q;exact⟨_,_,SY q,S4 hS q,.inl ⟨_,rfl⟩⟩
  . obtain⟨s,u,m,q,_⟩:=ht;exact⟨_,_,S5 q,S6 hS q,.inl ⟨_,rfl⟩⟩
  . obtain⟨c,m,q,_⟩:=An.Jz w1 w2;exact⟨_,_,Ow q,Ox hS q,.inr ⟨rfl,_,rfl⟩⟩
theorem Ta(h0:0<=a):An.jM e f (.int (-1 - a)):=Sf (by omega)
theorem ref(h:Wd e f)(ha:jF e f a)(hb:jF e f b)(hS:S[i]?=some (bH (e∣f) z r))(hn:n=0\/n=1\/n=2\/n=3\/n=4\/n=5\/n=6\/n=7\/(n=8/\c=3)\/n=10) :
    bw [aS i,.int n,.lst [.int (-1 - a),.int b,.int c],.str t] S=.exc 2 S/\(n≠5->n≠6->bw [aS i,.int n,.lst [.int a,.int (-1 - a),.int c],.str t] S=.exc 2 S):=by
  have bd:An.jM e f (.int (-1 - a)):=Ta ha.1;obtain⟨s1,u1,w1,e1⟩:=sO h ha.1 ha.2;obtain⟨s2,u2,w2,e2⟩:=sO h hb.1 hb.2;rcases hn with rfl | rfl | rfl | rfl | rfl | rfl | rfl | rfl | ⟨rfl,rfl⟩ | rfl
  . exact⟨Nh hS (An.Eb h bd rfl),fun _ _=>Nh hS (by have q:=An.M4 (z:=z) w1 bd;rw[<- e1]at q;exact q)⟩
  . exact⟨Ni hS (by have q:=An.JA (z:=z) w2 bd;rw[<- e2]at q;exact q),fun _ _=>Ni hS (An.JB h bd)⟩
  . exact⟨Nj hS (An.Ee rfl rfl (An.Ec h bd rfl)),fun _ _=>Nj hS (An.Ee rfl rfl (by have q:=An.Ed w1 bd;rw[<- e1]at q;exact q))⟩
  . exact⟨Nk hS (An.M5 h bd rfl),fun _ _=>Nk hS (by have q:=An.M6 (z:=z) w1 bd;rw[<- e1]at q;exact q)⟩
  . exact⟨Nl hS (An.M7 h bd rfl),fun _ _=>Nl hS (by have q:=An.M8 w1 bd;rw[<- e1]at q;exact q)⟩
  . exact⟨SO hS (An.Ou h bd),fun c _=>absurd rfl c⟩
  . exact⟨SU hS (An.M9 h bd),fun _ c=>absurd rfl c⟩
  . exact⟨Nm hS (An.Ef rfl rfl (An.Ec h bd rfl)),fun _ _=>Nm hS (An.Ef rfl rfl (by have q:=An.Ed w1 bd;rw[<- e1]at q;exact q))⟩
  . refine⟨Np hS ?_,fun _ _=>Np hS ?_⟩
    . exact An.Nc (A:=[]) (B:=[.int b,.int 3]) h bd (fun q hq=>by cases hq) (by show 3<=1000;decide)
    . refine An.Nc (A:=[.int a]) (B:=[.int 3]) h bd (fun q hq=>?_) (by show 3<=1000;decide);rw[Zu.mp hq,e1];exact⟨s1,u1,rfl,w1⟩
  . exact⟨Ib hS (An.Na h bd rfl),fun _ _=>Ib hS (by have q:=An.Nb w1 bd;rw[<- e1]at q;exact q)⟩
theorem Tb(h:Wd e f)(wk:dq p z k)(h0:0<=n)(h1:n<7):∃ t,ar (.lst [.str "none",.str "-endless",.str "1e999",.str "-0",.str "0.1",.str "-3e-999",.str "7.5"]) (.int n)=.ok (.str t)/\An.AW e f (z5 [e∣f,.str t,.str z]):=by
  obtain⟨m1,m3,p3,p4,p7⟩:=dH h;have hn:n=0\/n=1\/n=2\/n=3\/n=4\/n=5\/n=6:=by omega
  rcases hn with rfl | rfl | rfl | rfl | rfl | rfl | rfl
  . refine⟨_,rfl,?_⟩;have q:=D9 h wk
    exact An.g6 h q (by decide) (by decide)
  . refine⟨_,rfl,?_⟩;have q:=F7 h wk true
    exact⟨1,eS e f,0,q,⟨h,.inr rfl,by omega,by omega⟩,by decide,by decide⟩
  . exact⟨_,rfl,An.mZ (l:=[49,101,57,57,57]) (b:=false) (w:=1) (t:=999) h wk (by decide) (by decide +kernel) (by decide) (by decide) (by decide)⟩
  . exact⟨_,rfl,An.mZ (l:=[45,48]) (b:=true) (w:=0) (t:=0) h wk (by decide) (by decide +kernel) (by decide) (by decide) (by decide)⟩
  . exact⟨_,rfl,An.mZ (l:=[48,46,49]) (b:=false) (w:=1) (t:=-1) h wk (by decide) (by decide +kernel) (by decide) (by decide) (by decide)⟩
  . exact⟨_,rfl,An.mZ (l:=[45,51,101,45,57,57,57]) (b:=true) (w:=3) (t:=-999) h wk (by decide) (by decide +kernel) (by decide) (by decide) (by decide)⟩
  . exact⟨_,rfl,An.mZ (l:=[55,46,53]) (b:=false) (w:=75) (t:=-1) h wk (by decide) (by decide +kernel) (by decide) (by decide) (by decide)⟩
theorem Nq(h:Wd e f)(h0:0<=n)(h1:n<5):∃ t,ar (.lst [.str "1.",.str "e1",.str "",.str "--1",.str "1e1000"]) (.int n)=.ok (.str t)/\z5 [e∣f,.str t,.str z]=.exc 6:=by
  have hn:n=0\/n=1\/n=2\/n=3\/n=4:=by omega
  rcases hn with rfl | rfl | rfl | rfl | rfl
  . exact⟨_,rfl,lO (l:=[49,46]) h (by decide) rfl (by decide) (by decide) (by decide) (by decide +kernel)⟩
  . exact⟨_,rfl,lO (l:=[101,49]) h (by decide) rfl (by decide) (by decide) (by decide) (by decide +kernel)⟩
  . exact⟨_,rfl,lO (l:=[]) h (by decide) rfl (by decide) (by decide) (by decide) (by decide +kernel)⟩
  . exact⟨_,rfl,lO (l:=[45,45,49]) h (by decide) rfl (by decide) (by decide) (by decide) (by decide +kernel)⟩
  . exact⟨_,rfl,lO (l:=[49,101,49,48,48,48]) h (by decide) rfl (by decide) (by decide) (by decide) (by decide +kernel)⟩
theorem Tc(h0:0<=n)(h1:n<5):∃ v,ar (.lst [.str "Even",.str "",.str "none",.bf,.str "inn"]) (.int n)=.ok v/\kM v/\ko (some v)=some v:=by
  have hn:n=0\/n=1\/n=2\/n=3\/n=4:=by omega
  rcases hn with rfl | rfl | rfl | rfl | rfl<;>exact⟨_,rfl,⟨rfl,rfl⟩,rfl⟩
theorem qI:jc 5:=show(0:Int)<5 by decide
theorem QP:jc 1:=show(0:Int)<1 by decide
theorem AF:jc 2:=show(0:Int)<2 by decide
theorem cx:(([0,1,2,3,4,6]:List Nat).contains 2&&under 2 0)=true/\(([0,1,2,3,4,6]:List Nat).contains 3&&under 3 0)=true/\(([0,1,2,3,4,6]:List Nat).contains 6&&under 6 0)=true:=⟨rfl,rfl,rfl⟩
theorem Gf{fs:List (Str×PV)}(hl:fs.length<1000):jQ 30 g ρ q (aS S.length) (S ++[.obj 30 fs])=.next ρ (S ++[.obj 30 (lB g q fs)]):=by
  rw[pV fE hl,jf]
theorem AG{v:PV}(h:Wd e f)(hy:zk [.str z]=.ok v):sH [aS S.length,e∣f,.str z] (S ++[.obj 30 []])=.ok .bf (S ++[bH (e∣f) z 0]):=by
  have cw:=lJ h;have b1:∀(ρ:aJ)(q:PV),jQ 30 "width" ρ q (aS S.length) (S ++[.obj 30 []])=.next ρ (S ++[.obj 30 [("width",q)]]):=fun ρ q=>Gf (by decide)
  have b2:∀(ρ:aJ)(q q1:PV),jQ 30 "way" ρ q (aS S.length) (S ++[.obj 30 [("width",q1)]])=.next ρ (S ++[.obj 30 [("width",q1),("way",q)]]):=fun ρ q q1=>Gf (by show 1<1000;decide)
  have b3:∀(ρ:aJ)(q q1 q2:PV),jQ 30 "raised" ρ q (aS S.length) (S ++[.obj 30 [("width",q1),("way",q2)]])=.next ρ (S ++[.obj 30 [("width",q1),("way",q2),("raised",q)]]):=fun ρ q q1 q2=>Gf (by show 2<1000;decide)
  show _=RS.ok PV.bf (S ++[.obj 30 [("width",e∣f),("way",.str z),("raised",.int 0)]]);dsimp![sH,LM,cw,hy,b1,b2,b3,List.replicate,List.set]
theorem JE(h:Wd e f)(hv:kM v)(hh:ko (some v)=some v):sH [aS j,e∣f,v] T=.exc 3 T:=by
  have cw:=lJ h;have av:=hv.1
  have hy:=hv.2;dsimp![sH,LM,hh,av,cw,hy,List.replicate,List.set]
theorem JF(h:Wd e f)(hv:kM v)(hh:ko (some v)=some v):Hy [e∣f,v] S=.ok (.bl true) (S ++[.obj 30 []]):=by
  have q:=JE (T:=S ++[.obj 30 []]) (j:=S.length) h hv hh;have av:=hv.1
  obtain⟨c2,c3,c6⟩:=cx;dsimp![Hy,Qc,hh,av,Ze,q,c3,List.replicate,List.set];rfl
theorem Td(h:Wd e f)(ha:jF e f a)(hS:S[i]?=some (bH (e∣f) z r)):zg [aS i,.int 0,.lst [.int a,.int b,.int c],.int 0] S=.ok (.bl true) (S ++[.gone]):=by
  obtain⟨v,ei,nw,hh⟩:=Tc (n:=a%5) (by omega) (by omega);have vA:(S ++[.gone])[i]?=some (bH (e∣f) z r):=dW hS
  have o1:=br vA tq;have q:=JD (S:=S ++[.gone]) (i:=i) nw.1 hh nw.2
  have fr:∀(g:GS)(ρ:aJ)(S':aW),zI 5 g ρ (S ++[.ls [.int a,.int b,.int c]]) (.ok (aS S.length) S')=g (ρ.set 5 (some (.lst [.int a,.int b,.int c]))) (S ++[.gone]):=fun g ρ S'=>by
    rw[xn fE rfl,jf]
  obtain⟨c2,c3,c6⟩:=cx;dsimp![zg,sI,l0,fr,bK o1,qI,ei,q,c3,List.replicate,List.set];rfl
theorem Te(h:Wd e f)(ha:jF e f a)(hS:S[i]?=some (bH (e∣f) z r)):zg [aS i,.int 9,.lst [.int a,.int b,.int c],.int 2] S=.ok (.bl true) (S ++[.gone]):=by
  obtain⟨t,ei,q⟩:=Nq (z:=z) (n:=a%5) h (by omega) (by omega);have vA:(S ++[.gone])[i]?=some (bH (e∣f) z r):=dW hS
  have q:=S8 (a:=a) (b:=b) (c:=c) vA q;have fr:∀(g:GS)(ρ:aJ)(S':aW),zI 5 g ρ (S ++[.ls [.int a,.int b,.int c]]) (.ok (aS S.length) S')=g (ρ.set 5 (some (.lst [.int a,.int b,.int c]))) (S ++[.gone]):=fun g ρ S'=>by
    rw[xn fE rfl,jf]
  obtain⟨c2,c3,c6⟩:=cx;dsimp![zg,sI,l0,fr,qI,ei,q,c6,List.replicate,List.set];rfl
theorem Nr{q x0 x1 x2:PV}:lG ρ q (aS S.length) (.int 0) (S ++[.ls [x0,x1,x2]])=.next ρ (S ++[.ls [q,x1,x2]])/\lG ρ q (aS S.length) (.int 1) (S ++[.ls [x0,x1,x2]])=.next ρ (S ++[.ls [x0,q,x2]])/\lG ρ q (aS S.length) (.int 2) (S ++[.ls [x0,x1,x2]])=.next ρ (S ++[.ls [x0,x1,q]]):=by
  refine⟨?_,?_,?_⟩
  . rw[mS (j:=0) fE rfl,jf];rfl
  . rw[mS (j:=1) fE rfl,jf];rfl
  . rw[mS (j:=2) fE rfl,jf];rfl
theorem Tf(h:Wd e f)(ha:jF e f a)(hb:jF e f b)(hS:S[i]?=some (bH (e∣f) z r))(hn:n=0\/n=1\/n=2\/n=3\/n=4\/n=5\/n=6\/n=7\/n=8\/n=10) :
    zg [aS i,.int n,.lst [.int a,.int b,.int c],.int 1] S=.ok (.bl true) (S ++[.gone]):=by
  obtain⟨t,ei,_⟩:=Nq (z:=z) (n:=a%5) h (by omega) (by omega);have vA:(S ++[.gone])[i]?=some (bH (e∣f) z r):=dW hS
  have fr:∀(l:List PV)(hl:l.any eQ=false)(g:GS)(ρ:aJ)(S':aW),zI 5 g ρ (S ++[.ls l]) (.ok (aS S.length) S')=g (ρ.set 5 (some (.lst l))) (S ++[.gone]):=fun l hl g ρ S'=>by
    rw[xn fE hl,jf]
  obtain⟨c2,c3,c6⟩:=cx;have i0:=fun(ρ:aJ) (q x0 x1 x2:PV)=>(Nr (S:=S) (ρ:=ρ) (q:=q) (x0:=x0) (x1:=x1) (x2:=x2)).1
  have i1:=fun(ρ:aJ) (q x0 x1 x2:PV)=>(Nr (S:=S) (ρ:=ρ) (q:=q) (x0:=x0) (x1:=x1) (x2:=x2)).2.1;have i2:=fun(ρ:aJ) (q x0 x1 x2:PV)=>(Nr (S:=S) (ρ:=ρ) (q:=q) (x0:=x0) (x1:=x1) (x2:=x2)).2.2
  have f0:=fun(x0 x1 x2:Int)=>fr [.int x0,.int x1,.int x2] rfl;have yQ:b%2=0\/b%2=1:=by omega
  have qu:b%1=0:=by omega
  have run:∀ n:Int,(n=0\/n=1\/n=2\/n=3\/n=4\/n=7\/n=10)->zg [aS i,.int n,.lst [.int a,.int b,.int c],.int 1] S=.ok (.bl true) (S ++[.gone]):=fun n hn=>by
    have h5:¬ n=5:=by omega
    have h6:¬ n=6:=by omega
    have h8:¬ n=8:=by omega
    obtain⟨q0,q1⟩:=ref (t:=t) (c:=c) h ha hb vA (n:=n) (by omega);have q1:=q1 h5 h6
    rcases yQ with hj | hj
    . dsimp![zg,sI,l0,f0,i0,qI,AF,hj,h5,h6,h8,Y5,aaa,ei,q0,c2,List.replicate,List.set];rfl
    . dsimp![zg,sI,l0,f0,i1,qI,AF,hj,h5,h6,h8,Y5,aaa,ei,q1,c2,List.replicate,List.set];rfl
  rcases hn with hn | hn | hn | hn | hn | rfl | rfl | hn | rfl | hn
  . exact run n (by omega)
  . exact run n (by omega)
  . exact run n (by omega)
  . exact run n (by omega)
  . exact run n (by omega)
  . obtain⟨q0,_⟩:=ref (t:=t) (c:=c) h ha hb vA (n:=5) (by omega);dsimp![zg,sI,l0,f0,i0,qI,QP,qu,Y7,Y5,aaa,Zw,ei,q0,c2,List.replicate,List.set];rfl
  . obtain⟨q0,_⟩:=ref (t:=t) (c:=c) h ha hb vA (n:=6) (by omega);dsimp![zg,sI,l0,f0,i0,qI,QP,qu,Y7,Y5,aaa,Zw,ei,q0,c2,List.replicate,List.set];rfl
  . exact run n (by omega)
  . obtain⟨q0,q1⟩:=ref (t:=t) (c:=3) h ha hb vA (n:=8) (by omega);have q1:=q1 (by decide) (by decide)
    rcases yQ with hj | hj
    . dsimp![zg,sI,l0,f0,i0,i2,qI,AF,hj,Y7,Y5,aaa,Zw,ei,q0,c2,List.replicate,List.set];rfl
    . dsimp![zg,sI,l0,f0,i1,i2,qI,AF,hj,Y7,Y5,aaa,Zw,ei,q1,c2,List.replicate,List.set];rfl
  . exact run n (by omega)
end
section
variable {S:aW}{i j:Nat}{z t:Str}{r e f a b c n p q cell:Int}{x:PV}{k:Nat}
theorem alone(hS:S[i]?=some (bH (e∣f) z r)):Hw [aS i,.str z,.int r] S=.ok (.bl true) S:=by
  have a1:=bL hS Nd;have a2:=bL hS fI
  have p1:∀ F,pK F [.int r] S=dC S (F [.int r]):=fun F=>eh rfl;have wh:=Qe r
  dsimp![Hw,Qa,a1,a2,p1,wh,Y7,cg,List.replicate,List.set]
def Left(e f:Int)(S:aW)(i j:Nat)(R:RS PV):Prop:=∃ T p z k r,R=.ok (.bl true) T/\dq p z k/\T[i]?=some (bH (e∣f) z r)/\T[j]?=some (.ls [.str z,.int r])/\∀ m c,m≠i->m≠j->S[m]?=some c->T[m]?=some c
theorem rm{T:aW}{R:RS PV}(wk:dq p z k)(hi:S[i]?=some (bH (e∣f) z r))(hj:S[j]?=some (.ls [.str z,.int r]))(h:R=.ok (.bl true) (S++T)):Left e f S i j R :=
  ⟨_,p,z,k,r,h,wk,dW hi,dW hj,fun m c _ _ hm=>dW hm⟩
theorem pG:jc 15:=show(0:Int)<15 by decide
theorem vB:jc 7:=show(0:Int)<7 by decide
theorem Th:jc 10:=show(0:Int)<10 by decide
theorem BN:j8 15:=jS (n:=4) (by decide) (by decide) (by decide)
theorem its{z:Str}{r:Int}(hj:S[j]?=some (.ls [.str z,.int r])):kB (aS j) (.int 0) S=.ok (.str z) S/\kB (aS j) (.int 1) S=.ok (.int r) S/\(∀ ρ q,lG ρ q (aS j) (.int 0) S=.next ρ (S.set j (.ls [q,.int r])))/\∀ ρ q,lG ρ q (aS j) (.int 1) S=.next ρ (S.set j (.ls [.str z,q])):=by
  refine⟨by rw[iW hj];rfl,by rw[iW hj];rfl,fun ρ q=>?_,fun ρ q=>?_⟩
  . rw[mS (j:=0) hj rfl];rfl
  . rw[mS (j:=1) hj rfl];rfl
theorem Wn{n:Int}(h0:0<=n)(h1:n<10):∃ m,ar (.lst [.int 0,.int 1,.int 2,.int 3,.int 4,.int 5,.int 6,.int 7,.int 8,.int 10]) (.int n)=.ok (.int m)/\(m=0\/m=1\/m=2\/m=3\/m=4\/m=5\/m=6\/m=7\/m=8\/m=10):=by
  have hn:n=0\/n=1\/n=2\/n=3\/n=4\/n=5\/n=6\/n=7\/n=8\/n=9:=by omega
  rcases hn with rfl | rfl | rfl | rfl | rfl | rfl | rfl | rfl | rfl | rfl<;>exact⟨_,rfl,by decide⟩
theorem eq3:dJ [.int a,.int b,.int c] [.int a,.int b,.int c]=true/\([PV.int a,.int b,.int c].all (bW 5)&&[PV.int a,.int b,.int c].all (bW 5))=true:=by
  constructor
  . simp only[eqPVs_cons,eqPVs_nil,eqPV_i,Y7,ZW]
  . rfl
theorem step(h:Wd e f)(wk:dq p z k)(ha:jF e f a)(hb:jF e f b)(hc:jF e f c)(hi:S[i]?=some (bH (e∣f) z r))(hj:S[j]?=some (.ls [.str z,.int r]))(ne:i≠j)(c0:0<=cell) :
    Left e f S i j (gu [aS i,e∣f,aS j,.lst [.int a,.int b,.int c],.int cell] S):=by
  obtain⟨t,et,ht⟩:=Tb (n:=b%7) h wk (by omega) (by omega);obtain⟨j0,j1,s0,s1⟩:=its hj;have n0:0<=cell%15:=by omega
  have n1:cell%15<15:=by omega
  have QQ:0<=cell/15%5/\cell/15%5<5:=by omega
  have Nt:0<=cell/15%10/\cell/15%10<10:=by omega
  generalize hn:cell%15=n at *;by_cases Nu:n=11
  . subst Nu;obtain⟨z',k',QR⟩:=xH QQ.1 QQ.2;obtain⟨wy,wi⟩:=gN QR;have ly:(S.set j (.ls [.str z',.int r]))[i]?=some (bH (e∣f) z r):=eD hi (ZC ne)
    have rZ:(S.set j (.ls [.str z',.int r]))[j]?=some (.ls [.str z',.int r]):=mT hj;have o1:=br ly tq
    have QS:=(its rZ).1;have q1:=Nf ly wy
    refine⟨_,_,z',k',r,?_,QR,mT ly,eD rZ ne,fun m c m1 m2 hm=>eD (eD hm (ZC m2)) (ZC m1)⟩;dsimp![gu,sJ,pG,vB,qI,BN,hn,et,wi,s0,bK o1,QS,q1,isNone,List.replicate,List.set,Y7]
  . by_cases Nw:n=12
    . subst Nw;by_cases c4:cell/15%4=0
      . have ly:(S.set j (.ls [.str z,.int 0]))[i]?=some (bH (e∣f) z r):=eD hi (ZC ne);have rZ:(S.set j (.ls [.str z,.int 0]))[j]?=some (.ls [.str z,.int 0]):=mT hj
        have o1:=br ly JC;have q1:=Ng ly
        refine⟨_,p,z,k,0,?_,wk,mT ly,eD rZ ne,fun m c m1 m2 hm=>eD (eD hm (ZC m2)) (ZC m1)⟩;dsimp![gu,sJ,pG,vB,Ep,BN,hn,et,c4,s1,bK o1,q1,isNone,List.replicate,List.set,Y7]
      . refine rm (T:=[.gone]) wk hi hj ?_;have q1:=Td (b:=b) (c:=c) h ha hi
        dsimp![gu,sJ,pG,vB,Ep,BN,hn,et,c4,q1,List.replicate,List.set,Y7,Y5]
    . by_cases Nx:n=13
      . subst Nx;obtain⟨m,em,hm⟩:=Wn Nt.1 Nt.2;refine rm (T:=[.gone]) wk hi hj ?_;have q1:=Tf (c:=c) h ha hb hi hm
        have ml:jb [.int 0,.int 1,.int 2,.int 3,.int 4,.int 5,.int 6,.int 7,.int 8,.int 10]=.ok (.lst [.int 0,.int 1,.int 2,.int 3,.int 4,.int 5,.int 6,.int 7,.int 8,.int 10]):=gZ _ (by decide);dsimp![gu,sJ,pG,vB,Th,BN,hn,et,ml,em,q1,List.replicate,List.set,Y7,Y5]
      . by_cases Ny:n=14
        . subst Ny;refine rm (T:=[.gone]) wk hi hj ?_;have q1:=Te (b:=b) (c:=c) h ha hi
          dsimp![gu,sJ,pG,vB,hn,et,q1,List.replicate,List.set,Y7,Y5]
        . obtain⟨x,m,du,dn,hx⟩:=act h wk ha hb hc ht n0 (by omega) hi;have ly:(S.set i (bH (e∣f) z (Builtin.bitOr r m)))[i]?=some (bH (e∣f) z (Builtin.bitOr r m)):=mT hi
          have rZ:(S.set i (bH (e∣f) z (Builtin.bitOr r m)))[j]?=some (.ls [.str z,.int r]):=eD hj ne;obtain⟨QS,NA,Yv,NB⟩:=its rZ;have p1:∀ F,pK F [e∣f,.str z,.int n,.lst [.int a,.int b,.int c],.str t] S=dC S (F [e∣f,.str z,.int n,.lst [.int a,.int b,.int c],.str t]):=fun F=>eh rfl
          obtain⟨e3,e4⟩:=eq3 (a:=a) (b:=b) (c:=c);refine⟨_,p,z,k,Builtin.bitOr r m,?_,wk,eD ly (ZC ne),mT rZ,fun m c m1 m2 hm=>eD (eD hm (ZC m1)) (ZC m2)⟩;rcases hx with⟨y,rfl⟩ | ⟨rfl,y,rfl⟩
          . have wh:=Qe y;by_cases QT:n<10
            . dsimp![gu,sJ,pG,vB,hn,et,Nu,Nw,Nx,Ny,j0,p1,du,dn,NA,NB,QT,wh,e3,e4,List.replicate,List.set,Y7,Y5,Zw]
            . dsimp![gu,sJ,pG,vB,hn,et,Nu,Nw,Nx,Ny,j0,p1,du,dn,NA,NB,QT,wh,e3,e4,List.replicate,List.set,Y7,Y5,Zw]
          . dsimp![gu,sJ,pG,vB,hn,et,j0,p1,du,dn,NA,NB,e3,e4,cg,List.replicate,List.set,Y7,Y5,Zw]
end
section
variable {S:aW}{z:Str}{e f:Int}{i0 i1 i2 i3 i4 i5:Nat}
def Lay(e f:Int)(i0 i1 i2 i3 i4 i5:Nat)(S:aW):Prop:=∃ p z k r p' z' k' r',dq p z k/\dq p' z' k'/\S[i0]?=some (bH (e∣f) z r)/\S[i1]?=some (bH (e∣f) z' r') /\
  S[i2]?=some (.ls [aS i0,aS i1])/\S[i3]?=some (.ls [.str z,.int r])/\S[i4]?=some (.ls [.str z',.int r'])/\S[i5]?=some (.ls [aS i3,aS i4])
structure NC(i0 i1 i2 i3 i4 i5:Nat):Prop where
  a:i0<i1
  b:i1<i2
  c:i2<i3
  d:i3<i4
  e:i4<i5
theorem two(a b:PV):fK [a,b] 0=.ok a/\fK [a,b] 1=.ok b:=⟨rfl,rfl⟩
theorem both(L:Lay e f i0 i1 i2 i3 i4 i5 S)(x0 x1 x2 x3 x4 x7 x8 x9 fV iY:Option PV) :
    ∃ ρ11,dN 11 zw (fG 0 2 1) [x0,x1,x2,x3,x4,some (aS i2),some (aS i5),x7,x8,x9,fV,iY] S=.next [x0,x1,x2,x3,x4,some (aS i2),some (aS i5),x7,x8,x9,fV,ρ11] S:=by
  obtain⟨p,z,k,r,p',z',k',r',w1,w2,h0,h1,h2,h3,h4,h5⟩:=L;have er:fG 0 2 1=[.int 0,.int 1]:=rfl
  have g0:=alone h0;have g1:=alone h1
  have a0:kB (aS i2) (.int 0) S=.ok (aS i0) S:=by rw[iW h2];rfl
  have a1:kB (aS i2) (.int 1) S=.ok (aS i1) S:=by rw[iW h2];rfl
  have b0:kB (aS i5) (.int 0) S=.ok (aS i3) S:=by rw[iW h5];rfl
  have b1:kB (aS i5) (.int 1) S=.ok (aS i4) S:=by rw[iW h5];rfl
  obtain⟨c0,c1,_⟩:=its h3;obtain⟨d0,d1,_⟩:=its h4;refine⟨some (.int 1),?_⟩;have qr:zw [x0,x1,x2,x3,x4,some (aS i2),some (aS i5),x7,x8,x9,fV,some (.int 0)] S=.next [x0,x1,x2,x3,x4,some (aS i2),some (aS i5),x7,x8,x9,fV,some (.int 0)] S:=by
    dsimp![zw,a0,b0,c0,c1,g0,Zw]
  have uZ:zw [x0,x1,x2,x3,x4,some (aS i2),some (aS i5),x7,x8,x9,fV,some (.int 1)] S=.next [x0,x1,x2,x3,x4,some (aS i2),some (aS i5),x7,x8,x9,fV,some (.int 1)] S:=by
    dsimp![zw,a1,b1,d0,d1,g1,Zw]
  rw[er,jT];show va 11 zw [.int 1] (zw [x0,x1,x2,x3,x4,some (aS i2),some (aS i5),x7,x8,x9,fV,some (.int 0)] S)=_
  rw[qr];show dN 11 zw [.int 1] [x0,x1,x2,x3,x4,some (aS i2),some (aS i5),x7,x8,x9,fV,some (.int 0)] S=_
  rw[jT];show va 11 zw [] (zw [x0,x1,x2,x3,x4,some (aS i2),some (aS i5),x7,x8,x9,fV,some (.int 1)] S)=_
  rw[uZ];rfl
theorem Ic:vO 10 24:=⟨by decide,by decide,by decide⟩
theorem QU:jc 1000000000000000000000007:=show(0:Int)<1000000000000000000000007 by decide
theorem QW:j8 2:=jS (n:=2) (by decide) (by decide) (by decide)
noncomputable def Mx(c:Int):Int:=c*414213562373095048801689%1000000000000000000000007
theorem Ie(c:Int):c*414213562373095048801689%1000000000000000000000007=Mx c:=rfl
theorem Oy(c:Int):0<=Mx c:=Zf _ (by decide)
theorem turn(h:Wd e f)(ha:jF e f a)(hb:jF e f b)(hc:jF e f c)(D:NC i0 i1 i2 i3 i4 i5)(L:Lay e f i0 i1 i2 i3 i4 i5 S)(jY:nb cell<=1048576)(x0 x3 x4 x9 fV iY:Option PV) :
    ∃ w y9 ND NF T,jF e f w/\Lay e f i0 i1 i2 i3 i4 i5 T/\xC [x0,some (e∣f),some (e∣f),x3,x4,some (aS i2),some (aS i5),some (.lst [.int a,.int b,.int c]),some (.int cell),x9,fV,iY] S =
      .next [x0,some (e∣f),some (e∣f),x3,x4,some (aS i2),some (aS i5),some (.lst [.int b,.int c,.int w]),some (.int cell),y9,ND,NF] T:=by
  obtain⟨w,ew,w0,w1⟩:=Vz h jY;obtain⟨d1,d2,d3,d4,d5⟩:=D;have om:=Og jY
  have m0:=Oy cell;generalize hm:Mx cell=M at *;have QX:0<=M/2:=by omega
  obtain⟨p,z,k,r,p',z',k',r',y1,y2,h0,h1,h2,h3,h4,h5⟩:=L;have oi:sj (2:Int):=Du (by omega) (by omega)
  by_cases ct:M%2=0
  . obtain⟨T,q,zz,kk,rr,NG,wk,t0,t3,fr⟩:=step h y1 hb hc ⟨w0,w1⟩ h0 h3 (by omega) QX;have L':Lay e f i0 i1 i2 i3 i4 i5 T:=⟨q,zz,kk,rr,p',z',k',r',wk,y2,t0,fr _ _ (by omega) (by omega) h1,fr _ _ (by omega) (by omega) h2,t3,fr _ _ (by omega) (by omega) h4,fr _ _ (by omega) (by omega) h5⟩
    obtain⟨v,bo⟩:=both L' x0 (some (e∣f)) (some (e∣f)) x3 x4 (some (.lst [.int b,.int c,.int w])) (some (.int cell)) (some (.int M)) (some (.int 0)) iY;have a0:kB (aS i2) (.int 0) S=.ok (aS i0) S:=by rw[iW h2];rfl
    have b0:kB (aS i5) (.int 0) S=.ok (aS i3) S:=by rw[iW h5];rfl
    refine⟨w,some (.int M),some (.int 0),v,T,⟨w0,w1⟩,L',?_⟩;dsimp![xC,List.set,ew,om,Ic,QU,AF,QW,Ie,hm,ct,a0,b0,NG,oi,bo,Zw]
  . have ct:M%2=1:=by omega
    obtain⟨T,q,zz,kk,rr,NG,wk,t1,t4,fr⟩:=step h y2 hb hc ⟨w0,w1⟩ h1 h4 (by omega) QX;have L':Lay e f i0 i1 i2 i3 i4 i5 T:=⟨p,z,k,r,q,zz,kk,rr,y1,wk,fr _ _ (by omega) (by omega) h0,t1,fr _ _ (by omega) (by omega) h2,fr _ _ (by omega) (by omega) h3,t4,fr _ _ (by omega) (by omega) h5⟩
    obtain⟨v,bo⟩:=both L' x0 (some (e∣f)) (some (e∣f)) x3 x4 (some (.lst [.int b,.int c,.int w])) (some (.int cell)) (some (.int M)) (some (.int 1)) iY;have a0:kB (aS i2) (.int 1) S=.ok (aS i1) S:=by rw[iW h2];rfl
    have b0:kB (aS i5) (.int 1) S=.ok (aS i4) S:=by rw[iW h5];rfl
    refine⟨w,some (.int M),some (.int 1),v,T,⟨w0,w1⟩,L',?_⟩;dsimp![xC,List.set,ew,om,Ic,QU,AF,QW,Ie,hm,ct,a0,b0,NG,oi,bo,Zw]
theorem loop(h:Wd e f)(D:NC i0 i1 i2 i3 i4 i5)(x0 x3 x4:Option PV):∀(l:List Int){a b c:Int}{S:aW}(x8 x9 fV iY:Option PV),(∀ x∈l,nb x<=1048576)->jF e f a->jF e f b->jF e f c->Lay e f i0 i1 i2 i3 i4 i5 S ->
    ∃ ρ T,dN 8 xC (l.map PV.int) [x0,some (e∣f),some (e∣f),x3,x4,some (aS i2),some (aS i5),some (.lst [.int a,.int b,.int c]),x8,x9,fV,iY] S=.next (x0::ρ) T
  | [],_,_,_,_,_,_,_,_,_,_,_,_,_=>⟨_,_,rfl⟩
  | x::l,a,b,c,S,x8,x9,fV,iY,hl,ha,hb,hc,L=>by
    obtain⟨w,y9,ND,NF,T,hw,L',bo⟩:=turn h ha hb hc D L (hl x YW) x0 x3 x4 x9 fV iY;obtain⟨ρ,T',q⟩:=loop h D x0 x3 x4 l (some (.int x)) y9 ND NF (fun y hy=>hl y (YM _ hy)) hb hc hw L';refine⟨ρ,T',?_⟩;rw[Zn,jT];show va 8 xC (l.map PV.int) (xC [x0,some (e∣f),some (e∣f),x3,x4,some (aS i2),some (aS i5),some (.lst [.int a,.int b,.int c]),some (.int x),x9,fV,iY] S)=_
    rw[bo];exact q
theorem Ti(w:dq p z k):cV (.str z) (.str "s")=.ok (.str (z ++ "s"))/\mM [.str z]=.ok (.str (Txt.upper z))/\kM (.str (z ++ "s"))/\kM (.str (Txt.upper z))/\kM .bf/\kM (.str ""):=by
  obtain⟨a1,a2,v,hv,nv⟩:=Mn (i:=0) w (by decide) (by decide);obtain⟨_,_,v',B2,D5⟩:=Mn (i:=5) w (by decide) (by decide);have e1:R.ok (PV.str (z ++ "s"))=R.ok v:=hv
  have e2:R.ok (PV.str (Txt.upper z))=R.ok v':=B2;cases e1;cases e2;exact⟨a1,a2,nv,D5,⟨rfl,rfl⟩,⟨rfl,rfl⟩⟩
theorem Ig(h:Wd e f)(hv:kM v)(hh:ko (some v)=some v)(x0 x1 x3 x5 x6 x7 x8 x9 fV iY:Option PV):zh [x0,x1,some (e∣f),x3,some v,x5,x6,x7,x8,x9,fV,iY] S=.next [x0,x1,some (e∣f),x3,some v,x5,x6,x7,x8,x9,fV,iY] (S ++[.obj 30 []]):=by
  have q:=JF (S:=S) h hv hh;have av:=hv.1
  dsimp![zh,hh,av,q,Zw]
theorem Oz(h:Wd e f):8<=p2 (1+e+f):=by
  obtain⟨h1,h2,h3,h4⟩:=h;have:=fh (a:=3) (b:=1+e+f) (by decide) (by omega)
  exact this
theorem holds:∀ ns:List Int,ns.length<=63->(∀ x∈ns,nb x<=1048576)->∃ S,q_law_v92 [.lst (ns.map PV.int)] []=.ok (.bl true) S:=by
  intro ns hlen yH;have qc:=Vw ns 0 (by decide)
  obtain⟨e,f,wd,hw⟩:=Vy (ns.getD (0:Int).toNat 0);have wo:=Qf hw
  generalize ns.getD (0:Int).toNat 0=c0 at *;have Wo:0<=c0%5:=Zf _ (by decide)
  have Qn:c0%5<5:=Y9 _ (by decide);obtain⟨z,k,wk⟩:=xH Wo Qn;obtain⟨wy,wi⟩:=gN wk;obtain⟨o1,o2,n1,n2,n3,n4⟩:=Ti wk;have we:dq 0 "even" 21:=.inl ⟨rfl,rfl,rfl⟩
  have Wq:=(gN we).1;have Yw:=Oz hw
  have fl:∀(x0 x1 x5 x6 x7 x8 x9 fV iY:Option PV),∃ J,dN 4 zh [.str (z ++ "s"),.bf,.str (Txt.upper z),.str ""] [x0,x1,some (e∣f),some (.str z),none,x5,x6,x7,x8,x9,fV,iY] []=.next [x0,x1,some (e∣f),some (.str z),some (.str ""),x5,x6,x7,x8,x9,fV,iY] J:=fun x0 x1 x5 x6 x7 x8 x9 fV iY=>by
    refine⟨(([] ++[.obj 30 []]) ++[.obj 30 []] ++[.obj 30 []]) ++[.obj 30 []],?_⟩;rw[jT];show va 4 zh _ (zh [x0,x1,some (e∣f),some (.str z),some (.str (z ++ "s")),x5,x6,x7,x8,x9,fV,iY] _)=_
    rw[Ig hw n1 rfl];show dN 4 zh _ _ _=_
    rw[jT];show va 4 zh _ (zh [x0,x1,some (e∣f),some (.str z),some .bf,x5,x6,x7,x8,x9,fV,iY] _)=_
    rw[Ig hw n3 rfl];show dN 4 zh _ _ _=_
    rw[jT];show va 4 zh _ (zh [x0,x1,some (e∣f),some (.str z),some (.str (Txt.upper z)),x5,x6,x7,x8,x9,fV,iY] _)=_
    rw[Ig hw n2 rfl];show dN 4 zh _ _ _=_
    rw[jT];show va 4 zh _ (zh [x0,x1,some (e∣f),some (.str z),some (.str ""),x5,x6,x7,x8,x9,fV,iY] _)=_
    rw[Ig hw n4 rfl];rfl
  obtain⟨J,fl⟩:=fl (some (.lst (ns.map PV.int))) (some (e∣f)) none none none none none none none;have m1:=AG (S:=J) hw wy
  have m2:=AG (S:=J ++[bH (e∣f) z 0]) hw Wq;have l1:∀(x y:PV)(S:aW),Dn [x,y] S=.ok (aS S.length) (S ++[.ls [x,y]]):=fun x y S=>Lq (by show 2<=1000;decide)
  generalize hA:bH (e∣f) z 0=A at *;generalize hB:bH (e∣f) "even" 0=B at *;have cut:jv (ns.map PV.int) (some 1) (some 41)=((ns.drop 1).take 40).map PV.int\/True:=.inr trivial
  have Tj:∃ l:List Int,jv (ns.map PV.int) (some 1) (some 41)=l.map PV.int/\∀ x∈l,nb x<=1048576:=by
    unfold jv;refine⟨(ns.drop (gC (ns.map PV.int).length 0 (some 1))).take (gC (ns.map PV.int).length (ns.map PV.int).length (some 41) - gC (ns.map PV.int).length 0 (some 1)),by rw[List.map_take,List.map_drop],fun x hx=>yH x (acW (abi hx))⟩
  obtain⟨l,ec,hl⟩:=Tj;have D:NC J.length (J ++[A]).length (J ++[A] ++[B]).length (J ++[A] ++[B] ++[Cell.ls [aS J.length,aS (J ++[A]).length]]).length (J ++[A] ++[B] ++[Cell.ls [aS J.length,aS (J ++[A]).length]] ++[Cell.ls [.str z,.int 0]]).length
      (J ++[A] ++[B] ++[Cell.ls [aS J.length,aS (J ++[A]).length]] ++[Cell.ls [.str z,.int 0]] ++[Cell.ls [.str "even",.int 0]]).length:=by
    constructor<;>simp
  generalize QY:(J ++[A]).length=i1 at *;generalize NH:J ++[A] ++[B]=S2 at *;have L:Lay e f J.length i1 S2.length (S2 ++[Cell.ls [aS J.length,aS i1]]).length (S2 ++[Cell.ls [aS J.length,aS i1]] ++[Cell.ls [.str z,.int 0]]).length (S2 ++[Cell.ls [aS J.length,aS i1]] ++[Cell.ls [.str z,.int 0]] ++[Cell.ls [.str "even",.int 0]]).length
      (S2 ++[Cell.ls [aS J.length,aS i1]] ++[Cell.ls [.str z,.int 0]] ++[Cell.ls [.str "even",.int 0]] ++[Cell.ls [aS (S2 ++[Cell.ls [aS J.length,aS i1]]).length,aS (S2 ++[Cell.ls [aS J.length,aS i1]] ++[Cell.ls [.str z,.int 0]]).length]]):=by
    have gA:S2[J.length]?=some A:=by rw[<- NH];exact dW fE
    have gB:S2[i1]?=some B:=by rw[<- NH,<- QY];exact fE
    refine⟨_,z,k,0,0,"even",21,0,wk,we,?_,?_,dW (dW (dW fE)),dW (dW fE),dW fE,fE⟩
    . rw[hA];exact dW (dW (dW (dW gA)))
    . rw[hB];exact dW (dW (dW (dW gB)))
  obtain⟨ρ,T,lp⟩:=loop hw D (some (.lst (ns.map PV.int))) (some (.str z)) (some (.str "")) l (a:=0) (b:=1) (c:=2) none none none none hl ⟨by decide,by omega⟩ ⟨by decide,by omega⟩ ⟨by decide,by omega⟩ L;refine⟨T,?_⟩;have oc:ng (.lst (ns.map PV.int)) (some 1) (some 41)=.ok (.lst (l.map PV.int)):=by rw[tv,ec]
  generalize ns.map PV.int=NS at *;dsimp![q_law_v92,Qd,List.replicate,List.set,qc,wd,wo,qI,wi,o1,Jp,Mo,o2,fl,Ze,List.cons_append,List.nil_append,m1,m2,QY,NH,l1,oc,lp]
end
open PySem.Spec PyProof.Rows L2
noncomputable def names:List (Nat×Str):=[(0,"FloatError"),(1,"NoWidth"),(2,"NoWord"),(3,"NoWay"),(4,"NoNumber"),(6,"NoText")]
noncomputable def Er:List (Nat×Str):=[(20,"Way"),(21,"Even"),(22,"Away"),(23,"Inward"),(24,"Upward"),(25,"Downward")]
noncomputable def onames:List (Nat×Str):=[(30,"Slate")]
noncomputable def anames:List (Nat×Str):=names++Er++onames
noncomputable def top(i:Nat):Stmt:=PySem.Challenge.pw_floatforge_k91_slate.main.body.getD i (.Pass ⟨0,0,0,0⟩)
abbrev a_(K:PySem.W.Frag)(mg:Str->Option Value)(x:Str)(i:Nat):Prop:=∃ f fd,bq K mg x (top i) f fd
abbrev b_(K:PySem.W.Frag)(cl:Nat->Addr)(c:Nat)(m q:Str)(i j:Nat):Prop:=∃ f fd,MethAt K cl c m q (inClass (top i) j) f fd
abbrev c_(K:PySem.W.Frag)(mg:Str->Option Value)(x:Str)(i:Nat):Prop:=∃ f fd,fu K mg x (top i) f fd "even"
abbrev d_(mg:Str->Option Value)(x:Str):Prop:=mg x=none
abbrev e_(mg:Str->Option Value)(x:Str)(i:Int):Prop:=∃ t,mg x=some (.int i t)
abbrev h_(mg:Str->Option Value)(x y:Str):Prop:=mg x=mg y
structure Tx(K:PySem.W.Frag)(mg:Str->Option Value)(cl:Nat->Addr):Prop where
  inj:∀ c d,cl c=cl d->c=d
  cls:iP K mg cl names
  lP:E6 K mg cl Er
  BO:d_ mg "abs"
  tw:d_ mg "all"
  Ih:d_ mg "any"
  Es:d_ mg "bool"
  pY:d_ mg "int"
  cQ:d_ mg "isinstance"
  tB:d_ mg "len"
  Et:d_ mg "list"
  Ii:d_ mg "max"
  OA:d_ mg "min"
  JG:d_ mg "range"
  OB:d_ mg "str"
  JH:d_ mg "tuple"
  kR:e_ mg "WRONG" 1
  NI:e_ mg "POLE" 2
  JI:e_ mg "GREAT" 4
  JJ:e_ mg "SMALL" 8
  tD:e_ mg "NEAR" 16
  vC:e_ mg "LEAST_E" 2
  yk:e_ mg "MOST_E" 11
  vD:e_ mg "LEAST_F" 1
  ym:e_ mg "MOST_F" 60
  pH:e_ mg "MOST_SIGNS" 1200
  jG:e_ mg "MOST_POWER_FIGURES" 3
  cb:Bm K mg cl 30 "Slate"
  gz:iQ K (cl 30) "raised"
  eE:iQ K (cl 30) "way"
  dI:iQ K (cl 30) "width"
  kE:h_ mg "compared_order" "compared"
  n9:h_ mg "fused_sums" "fused"
  jH:h_ mg "left_of_quotients" "left_of"
  oa:h_ mg "minus_sums" "minus"
  kF:h_ mg "over_quotients" "over"
  lQ:h_ mg "plus_sums" "plus"
  og:h_ mg "read_texts" "read"
  oh:h_ mg "root_roots" "root"
  oj:h_ mg "times_sums" "times"
  oo:h_ mg "total_sums" "total"
  me:h_ mg "whole_wholes" "whole"
  lR:∃ u,mg "NOUGHT"=some u/\iN K u (0∣0)
  mw:∃ u,mg "LOUD_TERM"=some u/\iN K u (.tup [.str "wrong",.bl false,0∣0])
  pI:∃ u,mg "STILL_TERM"=some u/\iN K u (.tup [.str "none",.bl false,0∣0])
  zd:∀{b:Heap},K.In b->b.NoDigits
  d56_0:b_ K cl 21 "grows" "Even.grows" 56 0
  d57_0:b_ K cl 22 "grows" "Away.grows" 57 0
  d58_0:b_ K cl 23 "grows" "Inward.grows" 58 0
  d59_0:b_ K cl 24 "grows" "Upward.grows" 59 0
  d60_0:b_ K cl 25 "grows" "Downward.grows" 60 0
  d122_1:b_ K cl 30 "noted" "Slate.noted" 122 1
  d122_14:b_ K cl 30 "wipe" "Slate.wipe" 122 14
  Wr:a_ K mg "is_whole" 17
  Ws:a_ K mg "all_ones" 25
  Wt:a_ K mg "highest_of_fraction" 33
  Wv:a_ K mg "sign_bit" 34
  Ww:a_ K mg "exact" 44
  Wx:a_ K mg "steps_of" 45
  Wy:a_ K mg "as_quotient" 51
  Wz:a_ K mg "way_of" 61
  WA:a_ K mg "is_nought" 73
  Tn:a_ K mg "check_figures" 108
  To:a_ K mg "ten_power" 110
  Tp:a_ K mg "_law_cell_at" 124
  Tq:a_ K mg "_law_whole" 125
  Tr:a_ K mg "_law_wide" 126
  Ts:a_ K mg "_law_word" 127
  d122_13:b_ K cl 30 "turn_to" "Slate.turn_to" 122 13
  WB:a_ K mg "is_within" 18
  WC:a_ K mg "added" 46
  WD:a_ K mg "multiplied" 47
  WE:a_ K mg "height_of" 52
  WG:a_ K mg "in_steps" 53
  WH:a_ K mg "steps_taken" 65
  WI:a_ K mg "is_nought_below" 79
  WJ:a_ K mg "whole_root" 88
  Tt:a_ K mg "power_written" 109
  Tu:a_ K mg "_law_left_alone" 132
  WK:a_ K mg "width_of" 19
  WL:a_ K mg "check_part" 27
  WM:a_ K mg "summed" 78
  WN:a_ K mg "rest_of" 86
  WO:a_ K mg "root_in_steps" 92
  Tv:a_ K mg "parts_of" 107
  Tw:a_ K mg "number_taken" 119
  WQ:a_ K mg "check_width" 20
  d122_0:∃ f fd,MethAtD K cl 30 "__init__" "Slate.__init__" (inClass (top 122) 0) f fd "even"
  WR:a_ K mg "many_words" 21
  WS:a_ K mg "bias_of" 22
  WT:a_ K mg "joined" 29
  WU:a_ K mg "least_power" 23
  WV:a_ K mg "check_word" 26
  WW:a_ K mg "none_of" 31
  WX:a_ K mg "endless_of" 32
  WY:a_ K mg "marks_of" 67
  WZ:a_ K mg "cut" 28
  W0:a_ K mg "turned" 35
  W2:a_ K mg "unsigned" 36
  W3:a_ K mg "step_power" 64
  W4:a_ K mg "nones_told" 76
  Tz:a_ K mg "_law_no_slate" 131
  W5:a_ K mg "kind_of" 30
  W6:a_ K mg "signed" 37
  W7:a_ K mg "with_sign" 38
  W8:a_ K mg "fitting" 49
  W9:a_ K mg "rank_of" 40
  Xa:a_ K mg "value_of" 48
  Xb:a_ K mg "settled" 66
  Xc:a_ K mg "ends_told" 77
  TB:a_ K mg "named_word" 114
  Xd:a_ K mg "compared" 41
  d63:c_ K mg "taken" 63
  Xe:a_ K mg "term_of" 72
  Xf:a_ K mg "number_root" 91
  d122_12:b_ K cl 30 "compared" "Slate.compared" 122 12
  Xg:a_ K mg "product" 74
  d75:c_ K mg "gathered" 75
  Xh:a_ K mg "quotient_of" 83
  Xi:a_ K mg "left_of" 84
  d89:c_ K mg "root" 89
  TC:a_ K mg "decimal_taken" 115
  d120:c_ K mg "of_number" 120
  d122_6:b_ K cl 30 "left_of" "Slate.left_of" 122 6
  d122_7:b_ K cl 30 "root" "Slate.root" 122 7
  d81:c_ K mg "over" 81
  d94:c_ K mg "plus" 94
  d98:c_ K mg "times" 98
  d100:c_ K mg "fused" 100
  d102:c_ K mg "total" 102
  d112:c_ K mg "read" 112
  d117:c_ K mg "whole" 117
  d122_2:b_ K cl 30 "plus" "Slate.plus" 122 2
  d122_4:b_ K cl 30 "times" "Slate.times" 122 4
  d122_5:b_ K cl 30 "over" "Slate.over" 122 5
  d122_8:b_ K cl 30 "whole" "Slate.whole" 122 8
  d122_9:b_ K cl 30 "fused" "Slate.fused" 122 9
  d122_10:b_ K cl 30 "total" "Slate.total" 122 10
  d122_11:b_ K cl 30 "read" "Slate.read" 122 11
  d96:c_ K mg "minus" 96
  d122_3:b_ K cl 30 "minus" "Slate.minus" 122 3
  TF:a_ K mg "_law_due" 128
  TG:a_ K mg "_law_done" 129
  TH:a_ K mg "_law_refused" 130
  TJ:a_ K mg "_law_step" 133
  TK:a_ K mg "law" 134
section
variable {P:Program}{w:World}{K:PySem.W.Frag}{mg:Str->Option Value}{base:Heap}{cl:Nat->Addr} (T:Tx K mg cl) (KX:K.In base)
include T
theorem Xj:MG P w K mg base cl 1 21 "grows" 3 PT:=Dt (N:=["self","odd","side","below"]) T.d56_0 (T.lP.cls 21 "Even" (at_mem 1 rfl)).cls fun hr nd=>ay (aC (N6 (dh (bt (bh hr)) (mv 2) (ag) (aG _)) (gn (gR (dh (bt (bh hr)) (mv 2) (ag) (aG _)) (gn (mv 1))))))
theorem Xk:MG P w K mg base cl 1 22 "grows" 3 PU:=Dt (N:=["self","odd","side","below"]) T.d57_0 (T.lP.cls 22 "Away" (at_mem 2 rfl)).cls fun hr nd=>ay (aC (dh EI (mv 2) (ag) (aG _)))
theorem Xl:MG P w K mg base cl 1 23 "grows" 3 PW:=Dt (N:=["self","odd","side","below"]) T.d58_0 (T.lP.cls 23 "Inward" (at_mem 3 rfl)).cls fun hr nd=>ay (aC (i7))
theorem Xm:MG P w K mg base cl 1 24 "grows" 3 PX:=Dt (N:=["self","odd","side","below"]) T.d59_0 (T.lP.cls 24 "Upward" (at_mem 4 rfl)).cls fun hr nd=>ay (aC (oJ (mv 3)))
theorem Xn:MG P w K mg base cl 1 25 "grows" 3 PY:=Dt (N:=["self","odd","side","below"]) T.d60_0 (T.lP.cls 25 "Downward" (at_mem 5 rfl)).cls fun hr nd=>ay (aC (mv 3))
theorem zy:jo P w K mg base cl 1 30 "noted" 1 cH:=jD (N:=["self","answer"]) T.d122_1 T.cb.cls fun hr nd=>bb (kP T.cb.cls T.gz (sv 0) (Di EG (cU T.cb.cls T.gz (sv 0)) (aB (ak (mv 1) (ag))))) (bu (bZ (aB (ak (mv 1) (ag)))))
theorem Xo:jo P w K mg base cl 1 30 "wipe" 0 Hv:=jD (N:=["self"]) T.d122_14 T.cb.cls fun hr nd=>bu (kP T.cb.cls T.gz (sv 0) (aB (ag)))
theorem QZ:FG P w K mg base cl 1 "is_whole" 1 vc:=cJ (N:=["value"]) T.Wr fun hr nd=>ay (aC (gR (jm .int (mv 0) (by rfl) T.cQ (by rfl) T.pY) (gn (oJ (jm .bool (mv 0) (by rfl) T.cQ (by rfl) T.Es)))))
theorem AH:FG P w K mg base cl 1 "all_ones" 1 so:=cJ (N:=["count"]) T.Ws fun hr nd=>ay (aC (aA cY (aA eJ (ag) (mv 0)) (ag)))
theorem Q0:FG P w K mg base cl 1 "highest_of_fraction" 1 DC:=cJ (N:=["width"]) T.Wt fun hr nd=>ay (aC (aA eJ (ag) (aA cY (ak (mv 0) (ag)) (ag))))
theorem NJ:FG P w K mg base cl 1 "sign_bit" 1 zM:=cJ (N:=["width"]) T.Wv fun hr nd=>ay (aC (aA eJ (ag) (aA cM (ak (mv 0) (ag)) (ak (mv 0) (ag)))))
theorem Eu:FG P w K mg base cl 1 "exact" 2 zi:=cJ (N:=["n","k","spare"]) T.Ww fun hr nd=>aj (ba (aL (bt (bh hr)) (mv 0) (ag) (aG _)) (ay (aC (bE (aa (ag) (aa (ag) (ai)))))) (aN)) (aj (aO (i:=2) nd rfl (Or.inl rfl) (aA cY (kg (aA rM (mv 0) (fU hJ (mv 0)))) (ag))) (ay (aC (bE (aa (aA A0 (mv 0) (mv 2)) (aa (aA cM (mv 1) (mv 2)) (ai)))))))
theorem Q1:FG P w K mg base cl 1 "steps_of" 2 Hc:=cJ (N:=["number","power"]) T.Wx fun hr nd=>ay (aC (aA eJ (ak (mv 0) (ag)) (aA cY (ak (mv 0) (ag)) (mv 1))))
theorem Q2:FG P w K mg base cl 1 "as_quotient" 3 zO:=cJ (N:=["n","k","d"]) T.Wy fun hr nd=>ay (aC (d7 (aL EI (mv 1) (ag) (aG _)) (bE (aa (aA eJ (mv 0) (mv 1)) (aa (mv 2) (ai)))) (bE (aa (mv 0) (aa (aA eJ (mv 2) (fU hJ (mv 1))) (ai))))))
theorem tE:FG P w K mg base cl 1 "way_of" 1 zk:=cJ (N:=["name"]) T.Wz fun hr nd=>aj (ba (aL (bt (bh hr)) (mv 0) (aR) (aG _)) (ay (aC (yV T.lP (at_mem 1 rfl)))) (aN)) (aj (ba (aL (bt (bh hr)) (mv 0) (aR) (aG _)) (ay (aC (yV T.lP (at_mem 2 rfl)))) (aN)) (aj (ba (aL (bt (bh hr)) (mv 0) (aR) (aG _)) (ay (aC (yV T.lP (at_mem 3 rfl)))) (aN)) (aj (ba (aL (bt (bh hr)) (mv 0) (aR) (aG _)) (ay (aC (yV T.lP (at_mem 4 rfl)))) (aN)) (aj (ba (aL (bt (bh hr)) (mv 0) (aR) (aG _)) (ay (aC (yV T.lP (at_mem 5 rfl)))) (aN)) (ay (fm (c:=3) (T.cls.cls 3 "NoWay" (at_mem 3 rfl)) dA (by rfl) hr.hd (eY 40)))))))
theorem tF:FG P w K mg base cl 1 "is_nought" 1 cG:=cJ (N:=["term"]) T.WA fun hr nd=>ay (aC (gR (dh (bt (bh hr)) (ak (mv 0) (ag)) (aR) (aG _)) (gn (dh (bt (bh hr)) (ak (mv 0) (ag)) (fZ (by rfl) T.lR) (aG _)))))
theorem NK:FG P w K mg base cl 1 "check_figures" 1 vj:=cJ (N:=["text"]) T.Tn fun hr nd=>ay (ba ((i9 (aL (bt (bh hr)) (mv 0) (aR) (aG _)) (gQ (ik (bX (dy (rW rfl) (by rfl) T.tw boot_all (aa (De nd (by decide +kernel) rfl (KZ (mv 0)) (fun _ _ _ _=>MC.nil) (fun _ _ _ _=>dh qS (mv 1) (aR) (by with_unfolding_all rfl))) (ai))))))).mt) (ay (fm (c:=6) (T.cls.cls 6 "NoText" (at_mem 5 rfl)) dA (by rfl) hr.hd (eY 86))) (aN))
theorem Q3:FG P w K mg base cl 1 "ten_power" 1 DJ:=cJ (N:=["count","power","square"]) T.To fun hr nd=>aj (aO (i:=1) nd rfl (Or.inl rfl) (ag)) (aj (aO (i:=2) nd rfl (Or.inl rfl) (ag)) (aj (wI dA (aL A1 (mv 0) (ag) (aG _)) (aj (ba (aL (bt (bh hr)) (aA eI (mv 0) (ag)) (ag) (aG _)) (ay (aO (i:=1) nd rfl (Or.inl rfl) (aA i8 (mv 1) (mv 2)))) (aN)) (aj (aO (i:=2) nd rfl (Or.inl rfl) (aA i8 (mv 2) (mv 2))) (ay (aO (i:=0) nd rfl (Or.inl rfl) (aA gK (mv 0) (ag))))))) (ay (aC (mv 1)))))
theorem Q4:FG P w K mg base cl 1 "_law_cell_at" 2 zJ:=cJ (N:=["_law_script","_law_k"]) T.Tp fun hr nd=>aj (ba (aL iK (mv 1) (dy rN (by rfl) T.tB aaW (aa (mv 0) (ai))) (aG _)) (ay (aC (ak (mv 0) (mv 1)))) (aN)) (ay (aC (ag)))
theorem Q5:FG P w K mg base cl 1 "_law_whole" 1 Dx:=cJ (N:=["_law_found"]) T.Tq fun hr nd=>ay (aC (gR (jm .int (mv 0) (by rfl) T.cQ (by rfl) T.pY) (gn (oJ (jm .bool (mv 0) (by rfl) T.cQ (by rfl) T.Es)))))
theorem Xp:FG P w K mg base cl 1 "_law_wide" 1 Hb:=cJ (N:=["_law_cell","_law_mixed"]) T.Tr fun hr nd=>aj (aO (i:=1) nd rfl (Or.inl rfl) (aA eI (aA i8 (mv 0) (ag)) (ag))) (ay (aC (bE (aa (aA cM (ag) (aA eI (mv 1) (ag))) (aa (aA cM (ag) (aA eI (aA gK (mv 1) (ag)) (ag))) (ai))))))
theorem Xq:FG P w K mg base cl 1 "_law_word" 2 Dz:=cJ (N:=["_law_wide_here","_law_cell","_law_many","_law_mixed","_law_last","_law_some","_law_pick"]) T.Ts fun hr nd=>aj (aO (i:=2) nd rfl (Or.inl rfl) (aA eJ (ag) (aA cM (aA cM (ag) (ak (mv 0) (ag))) (ak (mv 0) (ag))))) (aj (aO (i:=3) nd rfl (Or.inl rfl) (aA eI (aA i8 (mv 1) (ag)) (aA cM (aA Gy (ag) (ag)) (ag)))) (aj (aO (i:=4) nd rfl (Or.inl rfl) (aA eJ (aA cY (aA eJ (ag) (ak (mv 0) (ag))) (ag)) (ak (mv 0) (ag)))) (aj (aO (i:=5) nd rfl (Or.inl rfl) (eV (aa (ag) (aa (ag) (aa (aA cY (aA eJ (ag) (ak (mv 0) (ag))) (ag)) (aa (aA eJ (ag) (ak (mv 0) (ag))) (aa (aA cY (mv 4) (ag)) (aa (mv 4) (aa (aA cM (mv 4) (ag)) (aa (aA cM (mv 4) (aA eJ (ag) (aA cY (ak (mv 0) (ag)) (ag)))) (ai))))))))))) (aj (aO (i:=6) nd rfl (Or.inl rfl) (aA eI (aA gK (mv 3) (mv 2)) (ag))) (aj (ba (aL iK (mv 6) (ag) (aG _)) (ay (aC (aA cM (ak (mv 5) (mv 6)) (aA i8 (aA eI (mv 3) (ag)) (aA gK (mv 2) (ag)))))) (aN)) (ay (aC (aA eI (mv 3) (mv 2)))))))))
theorem Q6:jo P w K mg base cl 2 30 "turn_to" 1 xB:=jD (N:=["self","way"]) T.d122_13 T.cb.cls fun hr nd=>bb (kO (aB (mc (tE T) hr T.inj (aa (mv 1) (ai))))) (bu (kP T.cb.cls T.eE (sv 0) (aB (mv 1))))
theorem Ij:FG P w K mg base cl 2 "is_within" 3 pj:=cJ (N:=["value","low","high"]) T.WB fun hr nd=>ay (aC (gR (mc (QZ T) hr T.inj (aa (mv 0) (ai))) (gn (EJ EH EH (mv 1) (mv 0) (mv 2)))))
theorem Q7:FG P w K mg base cl 2 "added" 2 xt:=cJ (N:=["one","other","power"]) T.WC fun hr nd=>aj (aO (i:=2) nd rfl (Or.inl rfl) (dy (N7 rfl) (by rfl) T.OA boot_min (aa (ak (mv 0) (ag)) (aa (ak (mv 1) (ag)) (ai))))) (ay (aC (mc (Eu T) hr T.inj (aa (aA cM (mc (Q1 T) hr T.inj (aa (mv 0) (aa (mv 2) (ai)))) (mc (Q1 T) hr T.inj (aa (mv 1) (aa (mv 2) (ai))))) (aa (mv 2) (ai))))))
theorem Q8:FG P w K mg base cl 2 "multiplied" 2 vf:=cJ (N:=["one","other"]) T.WD fun hr nd=>ay (aC (mc (Eu T) hr T.inj (aa (aA i8 (ak (mv 0) (ag)) (ak (mv 1) (ag))) (aa (aA cM (ak (mv 0) (ag)) (ak (mv 1) (ag))) (ai)))))
theorem Q9:FG P w K mg base cl 2 "height_of" 3 vg:=cJ (N:=["n","k","d","size","height","parts"]) T.WE fun hr nd=>aj (ba (aL (bt (bh hr)) (mv 0) (ag) (aG _)) (ay (fm (c:=4) (T.cls.cls 4 "NoNumber" (at_mem 4 rfl)) dA (by rfl) hr.hd (eY 20))) (aN)) (aj (aO (i:=3) nd rfl (Or.inl rfl) (dy A2 (by rfl) T.BO boot_abs (aa (mv 0) (ai)))) (aj (aO (i:=4) nd rfl (Or.inl rfl) (aA cY (kg (mv 3)) (kg (mv 2)))) (aj (aO (i:=5) nd rfl (Or.inl rfl) (mc (Q2 T) hr T.inj (aa (mv 3) (aa (fU hJ (mv 4)) (aa (mv 2) (ai)))))) (aj (ba (aL iK (ak (mv 5) (ag)) (ak (mv 5) (ag)) (aG _)) (ay (aO (i:=4) nd rfl (Or.inl rfl) (aA cY (mv 4) (ag)))) (aN)) (ay (aC (aA cM (mv 4) (mv 1))))))))
theorem NL:FG P w K mg base cl 2 "in_steps" 4 qy:=cJ (N:=["n","k","d","g","parts","m","twice_the_rest"]) T.WG fun hr nd=>aj (aO (i:=4) nd rfl (Or.inl rfl) (mc (Q2 T) hr T.inj (aa (dy A2 (by rfl) T.BO boot_abs (aa (mv 0) (ai))) (aa (aA cY (mv 1) (mv 3)) (aa (mv 2) (ai)))))) (aj (aO (i:=5) nd rfl (Or.inl rfl) (aA gK (ak (mv 4) (ag)) (ak (mv 4) (ag)))) (aj (aO (i:=6) nd rfl (Or.inl rfl) (aA i8 (ag) (aA cY (ak (mv 4) (ag)) (aA i8 (mv 5) (ak (mv 4) (ag)))))) (aj (ba (aL (bt (bh hr)) (mv 6) (ag) (aG _)) (ay (aC (bE (aa (mv 5) (aa (ag) (ai)))))) (aN)) (aj (ba (aL iK (mv 6) (ak (mv 4) (ag)) (aG _)) (ay (aC (bE (aa (mv 5) (aa (ag) (ai)))))) (aN)) (ay (aC (bE (aa (mv 5) (aa (d7 (aL (bt (bh hr)) (mv 6) (ak (mv 4) (ag)) (aG _)) (ag) (ag)) (ai))))))))))
theorem AI:FM P w K mg base cl 1 "grows" 3 DF:=mL (Xj T) (mL (Xk T) (mL (Xl T) (mL (Xm T) (mL (Xn T) (KN)))))
theorem NM:FG P w K mg base cl 2 "steps_taken" 3 xu:=cJ (N:=["chosen","place","below","grown"]) T.WH fun hr nd=>aj (aO (i:=3) nd rfl (Or.inl rfl) (gR (dh (tX (bh hr)) (ak (mv 1) (ag)) (ag) (aG _)) (gn (mm (AI T) hr T.inj (mv 0) (aa (dh (bt (bh hr)) (aA eI (ak (mv 1) (ag)) (ag)) (ag) (aG _)) (aa (ak (mv 1) (ag)) (aa (mv 2) (ai)))))))) (ay (aC (d7 (bX (mv 3)) (aA cM (ak (mv 1) (ag)) (ag)) (ak (mv 1) (ag)))))
theorem Xr:FG P w K mg base cl 2 "is_nought_below" 2 Ho:=cJ (N:=["terms","way","signs"]) T.WI fun hr nd=>aj (Fh (i:=2) nd rfl (Or.inl rfl) (by decide +kernel) rfl (ke (mv 0)) (fun _ _ _ _=>MC.nil) (fun _ _ _ _=>ak (mv 3) (ag))) (aj (ba (bX (dy (rW rfl) (by rfl) T.tw boot_all (aa (De nd (by decide +kernel) rfl (ke (mv 0)) (fun _ _ _ _=>MC.nil) (fun _ _ _ _=>Uw (tF T) hr (aa (mv 3) (ai)))) (ai)))) (aj (ba (ik (bX (dy (GI rfl) (by rfl) T.Ih boot_any (aa (mv 2) (ai))))) (ay (aC (i7))) (aN)) (ay (ba (bX (dy (rW rfl) (by rfl) T.tw boot_all (aa (mv 2) (ai)))) (ay (aC (i7))) (aN)))) (aN)) (ay (aC (dh (bt (bh hr)) (mv 1) (aR) (aG _)))))
theorem Xs:FG P w K mg base cl 2 "whole_root" 1 DH:=cJ (N:=["n","guess","better"]) T.WJ fun hr nd=>aj (ba ((i9 (ik (bX (mc (QZ T) hr T.inj (aa (mv 0) (ai))))) (gQ (aL iK (mv 0) (ag) (aG _)))).mt) (ay (fm (c:=4) (T.cls.cls 4 "NoNumber" (at_mem 4 rfl)) dA (by rfl) hr.hd (eY 48))) (aN)) (aj (ba (aL (bt (bh hr)) (mv 0) (ag) (aG _)) (ay (aC (ag))) (aN)) (aj (aO (i:=1) nd rfl (Or.inl rfl) (aA eJ (ag) (aA gK (aA cM (kg (mv 0)) (ag)) (ag)))) (aj (aO (i:=2) nd rfl (Or.inl rfl) (aA gK (aA cM (mv 1) (aA gK (mv 0) (mv 1))) (ag))) (aj (wI dA (aL iK (mv 2) (mv 1) (aG _)) (aj (aO (i:=1) nd rfl (Or.inl rfl) (mv 2)) (ay (aO (i:=2) nd rfl (Or.inl rfl) (aA gK (aA cM (mv 1) (aA gK (mv 0) (mv 1))) (ag)))))) (ay (aC (mv 1)))))))
include KX in
theorem Xt:FG P w K mg base cl 2 "power_written" 1 sC:=cJ (N:=["text","below","figures"]) T.Tt fun hr nd=>aj (aO (i:=1) nd rfl (Or.inl rfl) (pQ nZ oX (mv 0) (aa (aR) (ai)))) (aj (aO (i:=2) nd rfl (Or.inl rfl) (d7 (bX (mv 1)) (oM (mv 0) (kN (ag)) (pN)) (mv 0))) (aj (c8 (mc (NK T) hr T.inj (aa (mv 2) (ai)))) (aj (ba (aL A1 (dy rN (by rfl) T.tB aaW (aa (mv 2) (ai))) (cD (by rfl) T.jG) (aG _)) (ay (fm (c:=6) (T.cls.cls 6 "NoText" (at_mem 5 rfl)) dA (by rfl) hr.hd (mK (dF (eY 32) (dF (lr (cD (by rfl) T.jG)) (dF (eY 8) (mJ))))))) (aN)) (ay (aC (d7 (bX (mv 1)) (fU hJ (kb (wV (T.zd KX)) (by rfl) T.pY boot_int (aa (mv 2) (ai)))) (kb (wV (T.zd KX)) (by rfl) T.pY boot_int (aa (mv 2) (ai)))))))))
theorem Xu:sf P w K mg base cl 2 "_law_left_alone" 3 Hw:=xi (N:=["_law_slate","_law_way","_law_raised"]) T.Tu fun hr nd=>bu (bZ (Dm (mQ (Q5 T) hr T.inj (aE (cU T.cb.cls T.gz (sv 0)) (bC))) (Dm (Dj (bt (bh hr)) (cU T.cb.cls T.gz (sv 0)) (aB (mv 2))) (Ld (Dj (bt (bh hr)) (cU T.cb.cls T.eE (sv 0)) (aB (mv 1)))))))
theorem Ra:FG P w K mg base cl 3 "width_of" 2 Dy:=cJ (N:=["e","f"]) T.WK fun hr nd=>aj (ba (ik (bX (mc (Ij T) hr T.inj (aa (mv 0) (aa (cD (by rfl) T.vC) (aa (cD (by rfl) T.yk) (ai))))))) (ay (fm (c:=1) (T.cls.cls 1 "NoWidth" (at_mem 1 rfl)) dA (by rfl) hr.hd (mK (dF (eY 44) (dF (lr (cD (by rfl) T.vC)) (dF (eY 4) (dF (lr (cD (by rfl) T.yk)) (mJ)))))))) (aN)) (aj (ba (ik (bX (mc (Ij T) hr T.inj (aa (mv 1) (aa (cD (by rfl) T.vD) (aa (cD (by rfl) T.ym) (ai))))))) (ay (fm (c:=1) (T.cls.cls 1 "NoWidth" (at_mem 1 rfl)) dA (by rfl) hr.hd (mK (dF (eY 44) (dF (lr (cD (by rfl) T.vD)) (dF (eY 4) (dF (lr (cD (by rfl) T.ym)) (mJ)))))))) (aN)) (ay (aC (bE (aa (mv 0) (aa (mv 1) (ai)))))))
theorem NN:FG P w K mg base cl 3 "check_part" 2 zL:=cJ (N:=["part","count"]) T.WL fun hr nd=>ay (ba (ik (bX (mc (Ij T) hr T.inj (aa (mv 0) (aa (ag) (aa (mc (AH T) hr T.inj (aa (mv 1) (ai))) (ai))))))) (ay (fm (c:=2) (T.cls.cls 2 "NoWord" (at_mem 2 rfl)) dA (by rfl) hr.hd (mK (dF (eY 59) (dF (lr (mv 1)) (dF (eY 5) (mJ))))))) (aN))
theorem Xv:FG P w K mg base cl 3 "summed" 1 Hq:=cJ (N:=["terms","number","term","size"]) T.WM fun hr nd=>aj (aO (i:=1) nd rfl (Or.inl rfl) (fZ (by rfl) T.lR)) (aj (Kp (i:=2) dA rfl nd rfl (Or.inl rfl) (ke (mv 0)) (aj (aO (i:=3) nd rfl (Or.inl rfl) (ak (mv 2) (ag))) (ay (aO (i:=1) nd rfl (Or.inl rfl) (mc (Q7 T) hr T.inj (aa (mv 1) (aa (d7 (bX (ak (mv 2) (ag))) (bE (aa (fU hJ (ak (mv 3) (ag))) (aa (ak (mv 3) (ag)) (ai)))) (mv 3)) (ai)))))))) (ay (aC (mv 1))))
theorem Xw:FG P w K mg base cl 3 "rest_of" 2 Hx:=cJ (N:=["one","other","place","multiple"]) T.WN fun hr nd=>aj (aO (i:=2) nd rfl (Or.inl rfl) (mc (NL T) hr T.inj (aa (ak (mv 0) (ag)) (aa (aA cY (ak (mv 0) (ag)) (ak (mv 1) (ag))) (aa (ak (mv 1) (ag)) (aa (ag) (ai))))))) (aj (aO (i:=3) nd rfl (Or.inl rfl) (mc (NM T) hr T.inj (aa (yV T.lP (at_mem 1 rfl)) (aa (mv 2) (aa (i7) (ai)))))) (ay (aC (mc (Q7 T) hr T.inj (aa (mv 0) (aa (mc (Q8 T) hr T.inj (aa (mc (Eu T) hr T.inj (aa (fU hJ (mv 3)) (aa (ag) (ai)))) (aa (mv 1) (ai)))) (ai)))))))
theorem Xx:FG P w K mg base cl 3 "root_in_steps" 2 zR:=cJ (N:=["number","power","square","m","rest"]) T.WO fun hr nd=>aj (aO (i:=2) nd rfl (Or.inl rfl) (aA eJ (ak (mv 0) (ag)) (aA cY (ak (mv 0) (ag)) (aA i8 (ag) (mv 1))))) (aj (aO (i:=3) nd rfl (Or.inl rfl) (mc (Xs T) hr T.inj (aa (mv 2) (ai)))) (aj (aO (i:=4) nd rfl (Or.inl rfl) (aA cY (mv 2) (aA i8 (mv 3) (mv 3)))) (aj (ba (aL (bt (bh hr)) (mv 4) (ag) (aG _)) (ay (aC (bE (aa (mv 3) (aa (ag) (ai)))))) (aN)) (ay (aC (bE (aa (mv 3) (aa (d7 (aL EH (mv 4) (mv 3) (aG _)) (ag) (ag)) (ai)))))))))
include KX in
theorem Xy:FG P w K mg base cl 3 "parts_of" 1 zn:=cJ (N:=["text","below","halves","rows","power"]) T.Tv fun hr nd=>aj (ba ((i9 (ik (bX (jm .str (mv 0) (by rfl) T.cQ (by rfl) T.OB))) (gQ (aL A1 (dy rN (by rfl) T.tB aaW (aa (mv 0) (ai))) (cD (by rfl) T.pH) (aG _)))).mt) (ay (fm (c:=6) (T.cls.cls 6 "NoText" (at_mem 5 rfl)) dA (by rfl) hr.hd (mK (dF (eY 41) (dF (lr (cD (by rfl) T.pH)) (dF (eY 6) (mJ))))))) (aN)) (aj (aO (i:=1) nd rfl (Or.inl rfl) (pQ nZ oX (mv 0) (aa (aR) (ai)))) (aj (aO (i:=2) nd rfl (Or.inl rfl) (pQ oY qv (d7 (bX (mv 1)) (oM (mv 0) (kN (ag)) (pN)) (mv 0)) (aa (aR) (ai)))) (aj (aO (i:=3) nd rfl (Or.inl rfl) (pQ oY qv (ak (mv 2) (ag)) (aa (aR) (ai)))) (aj (c8 (mc (NK T) hr T.inj (aa (ak (mv 3) (ag)) (ai)))) (aj (ba (aL (bt (bh hr)) (ak (mv 3) (ag)) (aR) (aG _)) (ay (c8 (mc (NK T) hr T.inj (aa (ak (mv 3) (ag)) (ai))))) (aN)) (aj (aO (i:=4) nd rfl (Or.inl rfl) (d7 (aL (bt (bh hr)) (ak (mv 2) (ag)) (aR) (aG _)) (mc (Xt T KX) hr T.inj (aa (ak (mv 2) (ag)) (ai))) (ag))) (ay (aC (bE (aa (mv 1) (aa (kb (wV (T.zd KX)) (by rfl) T.pY boot_int (aa (aA cM (ak (mv 3) (ag)) (ak (mv 3) (ag))) (ai))) (aa (aA cY (mv 4) (dy rN (by rfl) T.tB aaW (aa (ak (mv 3) (ag)) (ai)))) (ai)))))))))))))
theorem Xz:FG P w K mg base cl 3 "number_taken" 2 DI:=cJ (N:=["value","chosen","below","steps"]) T.Tw fun hr nd=>aj (aO (i:=2) nd rfl (Or.inl rfl) (dh iK (ak (mv 0) (ag)) (ag) (aG _))) (aj (aO (i:=3) nd rfl (Or.inl rfl) (mc (NM T) hr T.inj (aa (mv 1) (aa (mc (NL T) hr T.inj (aa (ak (mv 0) (ag)) (aa (ak (mv 0) (ag)) (aa (ag) (aa (ag) (ai)))))) (aa (mv 2) (ai)))))) (ay (aC (d7 (bX (mv 2)) (fU hJ (mv 3)) (mv 3)))))
theorem tG:FG P w K mg base cl 4 "check_width" 1 zt:=cJ (N:=["width"]) T.WQ fun hr nd=>aj (ba ((i9 (ik (bX (jm .tuple (mv 0) (by rfl) T.cQ (by rfl) T.JH))) (gQ (aL (tX (bh hr)) (dy rN (by rfl) T.tB aaW (aa (mv 0) (ai))) (ag) (aG _)))).mt) (ay (fm (c:=1) (T.cls.cls 1 "NoWidth" (at_mem 1 rfl)) dA (by rfl) hr.hd (eY 39))) (aN)) (ay (c8 (mc (Ra T) hr T.inj (aa (ak (mv 0) (ag)) (aa (ak (mv 0) (ag)) (ai))))))
theorem NO:u4 P w K mg base cl 5 30 "Slate" 2 sH []/\u4 P w K mg base cl 5 30 "Slate" 1 sH [.str "even"]:=Sa (N:=["self","width","way"]) T.d122_0 T.cb (fun _ _ _ _ _ _ _ _=>n8 fun _ _ _=>⟨_,rfl,rfl⟩) (fun _ _ _ _ _ _ _ _=>xa fun _ _=>⟨_,rfl,rfl⟩) fun hr nd=>bb (kO (aB (mc (tG T) hr T.inj (aa (mv 1) (ai))))) (bb (kO (aB (mc (tE T) hr T.inj (aa (mv 2) (ai))))) (bb (kP T.cb.cls T.dI (sv 0) (aB (mv 1))) (bb (kP T.cb.cls T.eE (sv 0) (aB (mv 2))) (bu (kP T.cb.cls T.gz (sv 0) (aB (ag)))))))
theorem XA:FG P w K mg base cl 5 "many_words" 1 Ha:=cJ (N:=["width"]) T.WR fun hr nd=>aj (c8 (mc (tG T) hr T.inj (aa (mv 0) (ai)))) (ay (aC (aA eJ (ag) (aA cM (aA cM (ag) (ak (mv 0) (ag))) (ak (mv 0) (ag))))))
theorem NP:FG P w K mg base cl 5 "bias_of" 1 zK:=cJ (N:=["width"]) T.WS fun hr nd=>aj (c8 (mc (tG T) hr T.inj (aa (mv 0) (ai)))) (ay (aC (aA cY (aA eJ (ag) (aA cY (ak (mv 0) (ag)) (ag))) (ag))))
theorem Rb:FG P w K mg base cl 5 "joined" 4 DA:=cJ (N:=["width","sign","exponent","fraction"]) T.WT fun hr nd=>aj (c8 (mc (tG T) hr T.inj (aa (mv 0) (ai)))) (aj (c8 (mc (NN T) hr T.inj (aa (mv 1) (aa (ag) (ai))))) (aj (c8 (mc (NN T) hr T.inj (aa (mv 2) (aa (ak (mv 0) (ag)) (ai))))) (aj (c8 (mc (NN T) hr T.inj (aa (mv 3) (aa (ak (mv 0) (ag)) (ai))))) (ay (aC (aA cM (aA cM (aA eJ (mv 1) (aA cM (ak (mv 0) (ag)) (ak (mv 0) (ag)))) (aA eJ (mv 2) (ak (mv 0) (ag)))) (mv 3)))))))
theorem Ik:FG P w K mg base cl 6 "least_power" 1 xq:=cJ (N:=["width"]) T.WU fun hr nd=>ay (aC (aA cY (aA cY (ag) (mc (NP T) hr T.inj (aa (mv 0) (ai)))) (ak (mv 0) (ag))))
theorem Il:FG P w K mg base cl 6 "check_word" 2 sr:=cJ (N:=["width","word"]) T.WV fun hr nd=>ay (ba (ik (bX (mc (Ij T) hr T.inj (aa (mv 1) (aa (ag) (aa (aA cY (mc (XA T) hr T.inj (aa (mv 0) (ai))) (ag)) (ai))))))) (ay (fm (c:=2) (T.cls.cls 2 "NoWord" (at_mem 2 rfl)) dA (by rfl) hr.hd (eY 71))) (aN))
theorem yn:FG P w K mg base cl 6 "none_of" 1 qx:=cJ (N:=["width"]) T.WW fun hr nd=>aj (c8 (mc (tG T) hr T.inj (aa (mv 0) (ai)))) (ay (aC (mc (Rb T) hr T.inj (aa (mv 0) (aa (ag) (aa (mc (AH T) hr T.inj (aa (ak (mv 0) (ag)) (ai))) (aa (mc (Q0 T) hr T.inj (aa (mv 0) (ai))) (ai))))))))
theorem Ew:FG P w K mg base cl 6 "endless_of" 1 vh:=cJ (N:=["width"]) T.WX fun hr nd=>aj (c8 (mc (tG T) hr T.inj (aa (mv 0) (ai)))) (ay (aC (mc (Rb T) hr T.inj (aa (mv 0) (aa (ag) (aa (mc (AH T) hr T.inj (aa (ak (mv 0) (ag)) (ai))) (aa (ag) (ai))))))))
theorem XB:FG P w K mg base cl 6 "marks_of" 3 zP:=cJ (N:=["width","height","side"]) T.WY fun hr nd=>aj (ba (aL (bt (bh hr)) (mv 2) (ag) (aG _)) (ay (aC (ag))) (aN)) (ay (aC (d7 (aL iK (mv 1) (aA cY (ag) (mc (NP T) hr T.inj (aa (mv 0) (ai)))) (aG _)) (aA cM (cD (by rfl) T.tD) (cD (by rfl) T.JJ)) (cD (by rfl) T.tD))))
theorem Im:FG P w K mg base cl 7 "cut" 2 pk:=cJ (N:=["width","word","sign","exponent","fraction"]) T.WZ fun hr nd=>aj (c8 (mc (Il T) hr T.inj (aa (mv 0) (aa (mv 1) (ai))))) (aj (aO (i:=2) nd rfl (Or.inl rfl) (aA A0 (mv 1) (aA cM (ak (mv 0) (ag)) (ak (mv 0) (ag))))) (aj (aO (i:=3) nd rfl (Or.inl rfl) (aA rM (aA A0 (mv 1) (ak (mv 0) (ag))) (mc (AH T) hr T.inj (aa (ak (mv 0) (ag)) (ai))))) (aj (aO (i:=4) nd rfl (Or.inl rfl) (aA rM (mv 1) (mc (AH T) hr T.inj (aa (ak (mv 0) (ag)) (ai))))) (ay (aC (bE (aa (mv 2) (aa (mv 3) (aa (mv 4) (ai))))))))))
theorem NQ:FG P w K mg base cl 7 "turned" 2 ve:=cJ (N:=["width","word"]) T.W0 fun hr nd=>aj (c8 (mc (Il T) hr T.inj (aa (mv 0) (aa (mv 1) (ai))))) (ay (aC (aA N5 (mv 1) (mc (NJ T) hr T.inj (aa (mv 0) (ai))))))
theorem NR:FG P w K mg base cl 7 "unsigned" 2 xr:=cJ (N:=["width","word"]) T.W2 fun hr nd=>aj (c8 (mc (Il T) hr T.inj (aa (mv 0) (aa (mv 1) (ai))))) (ay (aC (aA rM (mv 1) (aA cY (mc (NJ T) hr T.inj (aa (mv 0) (ai))) (ag)))))
theorem NT:FG P w K mg base cl 7 "step_power" 2 pq:=cJ (N:=["width","height"]) T.W3 fun hr nd=>ay (aC (dy (Gz rfl) (by rfl) T.Ii boot_max (aa (aA cY (mv 1) (ak (mv 0) (ag))) (aa (mc (Ik T) hr T.inj (aa (mv 0) (ai))) (ai)))))
theorem Io:FG P w K mg base cl 7 "nones_told" 2 sD:=cJ (N:=["width","terms","kinds"]) T.W4 fun hr nd=>aj (Fh (i:=2) nd rfl (Or.inl rfl) (by decide +kernel) rfl (ke (mv 1)) (fun _ _ _ _=>MC.nil) (fun _ _ _ _=>ak (mv 3) (ag))) (aj (ba (aL qS (aR) (mv 2) (by with_unfolding_all rfl)) (ay (aC (bE (aa (mc (yn T) hr T.inj (aa (mv 0) (ai))) (aa (cD (by rfl) T.kR) (ai)))))) (aN)) (aj (ba (aL qS (aR) (mv 2) (by with_unfolding_all rfl)) (ay (aC (bE (aa (mc (yn T) hr T.inj (aa (mv 0) (ai))) (aa (ag) (ai)))))) (aN)) (ay (aC (ka)))))
theorem XC:sf P w K mg base cl 7 "_law_no_slate" 2 Hy:=xi (N:=["_law_width","_law_way","_law_found","error"]) T.Tz fun hr nd=>bb (eL (i:=2) nd rfl (Or.inl rfl) (aB (ka))) (bb (Dq (names:=names) (d:=0) (n:=3) (x:=2) T.cls dA (at_mem 0 rfl) (bu (kO (Lj (NO T).1 hr T.inj (aE (aB (mv 0)) (aE (aB (mv 1)) (bC)))))) nd rfl rfl rfl (Or.inl rfl) (by rfl) (by decide)) (bu (bZ (aB (gR (il (names:=names) (d:=3) T.cls (at_mem 3 rfl) (mv 2) (by rfl) T.cQ (by rfl)) (gn (oJ (il (names:=names) (d:=2) T.cls (at_mem 2 rfl) (mv 2) (by rfl) T.cQ (by rfl)))))))))
theorem AJ:FG P w K mg base cl 8 "kind_of" 2 ze:=cJ (N:=["width","word","parts","exponent","fraction"]) T.W5 fun hr nd=>aj (aO (i:=2) nd rfl (Or.inl rfl) (mc (Im T) hr T.inj (aa (mv 0) (aa (mv 1) (ai))))) (aj (aO (i:=3) nd rfl (Or.inl rfl) (ak (mv 2) (ag))) (aj (aO (i:=4) nd rfl (Or.inl rfl) (ak (mv 2) (ag))) (aj (ba (aL (bt (bh hr)) (mv 3) (ag) (aG _)) (ay (aC (d7 (aL (bt (bh hr)) (mv 4) (ag) (aG _)) (aR) (aR)))) (aN)) (aj (ba (aL iK (mv 3) (mc (AH T) hr T.inj (aa (ak (mv 0) (ag)) (ai))) (aG _)) (ay (aC (aR))) (aN)) (aj (ba (aL (bt (bh hr)) (mv 4) (ag) (aG _)) (ay (aC (aR))) (aN)) (ay (aC (d7 (aL EI (mv 4) (mc (Q0 T) hr T.inj (aa (mv 0) (ai))) (aG _)) (aR) (aR)))))))))
theorem Rc:FG P w K mg base cl 8 "signed" 3 zN:=cJ (N:=["width","word","other"]) T.W6 fun hr nd=>aj (c8 (mc (Il T) hr T.inj (aa (mv 0) (aa (mv 2) (ai))))) (ay (aC (aA cM (mc (NR T) hr T.inj (aa (mv 0) (aa (mv 1) (ai)))) (aA rM (mv 2) (mc (NJ T) hr T.inj (aa (mv 0) (ai)))))))
theorem tH:FG P w K mg base cl 8 "with_sign" 3 zq:=cJ (N:=["width","word","below"]) T.W7 fun hr nd=>ay (aC (d7 (bX (mv 2)) (mc (NQ T) hr T.inj (aa (mv 0) (aa (mv 1) (ai)))) (mv 1)))
theorem XD:FG P w K mg base cl 8 "fitting" 2 sA:=cJ (N:=["width","number","least","size","height","power","word"]) T.W8 fun hr nd=>aj (aO (i:=2) nd rfl (Or.inl rfl) (mc (Ik T) hr T.inj (aa (mv 0) (ai)))) (aj (ba (aL (bt (bh hr)) (ak (mv 1) (ag)) (ag) (aG _)) (ay (aC (ag))) (aN)) (aj (aO (i:=3) nd rfl (Or.inl rfl) (dy A2 (by rfl) T.BO boot_abs (aa (ak (mv 1) (ag)) (ai)))) (aj (aO (i:=4) nd rfl (Or.inl rfl) (aA cY (aA cM (ak (mv 1) (ag)) (kg (mv 3))) (ag))) (aj (aO (i:=5) nd rfl (Or.inl rfl) (dy (Gz rfl) (by rfl) T.Ii boot_max (aa (aA cY (mv 4) (ak (mv 0) (ag))) (aa (mv 2) (ai))))) (aj (ba ((i9 (aL iK (ak (mv 1) (ag)) (mv 5) (aG _)) (gQ (aL A1 (mv 4) (mc (NP T) hr T.inj (aa (mv 0) (ai))) (aG _)))).mt) (ay (aC (ka))) (aN)) (aj (aO (i:=6) nd rfl (Or.inl rfl) (aA cM (aA eJ (aA cY (mv 5) (mv 2)) (ak (mv 0) (ag))) (aA eJ (mv 3) (aA cY (ak (mv 1) (ag)) (mv 5))))) (ay (aC (d7 (aL iK (ak (mv 1) (ag)) (ag) (aG _)) (mc (NQ T) hr T.inj (aa (mv 0) (aa (mv 6) (ai)))) (mv 6))))))))))
theorem Rf:FG P w K mg base cl 9 "rank_of" 2 qz:=cJ (N:=["width","word","rank"]) T.W9 fun hr nd=>aj (ba (aL qS (mc (AJ T) hr T.inj (aa (mv 0) (aa (mv 1) (ai)))) (bE (aa (aR) (aa (aR) (ai)))) (by with_unfolding_all rfl)) (ay (aC (ka))) (aN)) (aj (aO (i:=2) nd rfl (Or.inl rfl) (mc (NR T) hr T.inj (aa (mv 0) (aa (mv 1) (ai))))) (ay (aC (d7 (aL (bt (bh hr)) (ak (mc (Im T) hr T.inj (aa (mv 0) (aa (mv 1) (ai)))) (ag)) (ag) (aG _)) (fU hJ (mv 2)) (mv 2)))))
theorem Rg:FG P w K mg base cl 9 "value_of" 2 sy:=cJ (N:=["width","word","kind","parts","steps","power"]) T.Xa fun hr nd=>aj (aO (i:=2) nd rfl (Or.inl rfl) (mc (AJ T) hr T.inj (aa (mv 0) (aa (mv 1) (ai))))) (aj (ba (aL (tV (bh hr)) (mv 2) (bE (aa (aR) (aa (aR) (aa (aR) (ai))))) (by with_unfolding_all rfl)) (ay (fm (c:=4) (T.cls.cls 4 "NoNumber" (at_mem 4 rfl)) dA (by rfl) hr.hd (eY 31))) (aN)) (aj (aO (i:=3) nd rfl (Or.inl rfl) (mc (Im T) hr T.inj (aa (mv 0) (aa (mv 1) (ai))))) (aj (aO (i:=4) nd rfl (Or.inl rfl) (ak (mv 3) (ag))) (aj (aO (i:=5) nd rfl (Or.inl rfl) (mc (Ik T) hr T.inj (aa (mv 0) (ai)))) (aj (ba (aL (bt (bh hr)) (mv 2) (aR) (aG _)) (aj (aO (i:=4) nd rfl (Or.inl rfl) (aA cM (mv 4) (aA eJ (ag) (ak (mv 0) (ag))))) (ay (aO (i:=5) nd rfl (Or.inl rfl) (aA cY (aA cM (mv 5) (ak (mv 3) (ag))) (ag))))) (aN)) (ay (aC (mc (Eu T) hr T.inj (aa (d7 (aL (bt (bh hr)) (ak (mv 3) (ag)) (ag) (aG _)) (fU hJ (mv 4)) (mv 4)) (aa (mv 5) (ai)))))))))))
theorem Rh:FG P w K mg base cl 9 "settled" 5 xw:=cJ (N:=["width","chosen","below","height","place","endless","above_least","size"]) T.Xb fun hr nd=>aj (aO (i:=5) nd rfl (Or.inl rfl) (mc (Ew T) hr T.inj (aa (mv 0) (ai)))) (aj (aO (i:=6) nd rfl (Or.inl rfl) (aA cY (mc (NT T) hr T.inj (aa (mv 0) (aa (mv 3) (ai)))) (mc (Ik T) hr T.inj (aa (mv 0) (ai))))) (aj (aO (i:=7) nd rfl (Or.inl rfl) (aA cM (aA eJ (mv 6) (ak (mv 0) (ag))) (mc (NM T) hr T.inj (aa (mv 1) (aa (mv 4) (aa (mv 2) (ai))))))) (aj (ba (aL iK (mv 7) (mv 5) (aG _)) (ay (aC (bE (aa (mc (tH T) hr T.inj (aa (mv 0) (aa (mv 7) (aa (mv 2) (ai))))) (aa (mc (XB T) hr T.inj (aa (mv 0) (aa (mv 3) (aa (ak (mv 4) (ag)) (ai))))) (ai)))))) (aN)) (aj (aO (i:=7) nd rfl (Or.inl rfl) (d7 (bX (mm (AI T) hr T.inj (mv 1) (aa (i7) (aa (ag) (aa (mv 2) (ai)))))) (mv 5) (aA cY (mv 5) (ag)))) (ay (aC (bE (aa (mc (tH T) hr T.inj (aa (mv 0) (aa (mv 7) (aa (mv 2) (ai))))) (aa (aA cM (cD (by rfl) T.JI) (cD (by rfl) T.tD)) (ai))))))))))
theorem XE:FG P w K mg base cl 9 "ends_told" 2 zS:=cJ (N:=["width","ends"]) T.Xc fun hr nd=>aj (ba ((oI (bX (dy (GI rfl) (by rfl) T.Ih boot_any (aa (mv 1) (ai)))) (mE (ik (bX (dy (rW rfl) (by rfl) T.tw boot_all (aa (mv 1) (ai))))))).mt) (ay (aC (bE (aa (mc (yn T) hr T.inj (aa (mv 0) (ai))) (aa (cD (by rfl) T.kR) (ai)))))) (aN)) (ay (aC (bE (aa (mc (tH T) hr T.inj (aa (mv 0) (aa (mc (Ew T) hr T.inj (aa (mv 0) (ai))) (aa (dy (rW rfl) (by rfl) T.tw boot_all (aa (mv 1) (ai))) (ai))))) (aa (ag) (ai))))))
theorem XF:FG P w K mg base cl 9 "named_word" 2 sF:=cJ (N:=["width","text"]) T.TB fun hr nd=>aj (ba (aL (bt (bh hr)) (mv 1) (aR) (aG _)) (ay (aC (mc (yn T) hr T.inj (aa (mv 0) (ai))))) (aN)) (aj (ba ((i9 (aL (bt (bh hr)) (mv 1) (aR) (aG _)) (gQ (aL (bt (bh hr)) (mv 1) (aR) (aG _)))).mt) (ay (aC (mc (tH T) hr T.inj (aa (mv 0) (aa (mc (Ew T) hr T.inj (aa (mv 0) (ai))) (aa (dh (bt (bh hr)) (mv 1) (aR) (aG _)) (ai))))))) (aN)) (ay (aC (ka))))
theorem Ri:FG P w K mg base cl 10 "compared" 3 za:=cJ (N:=["width","one","other","first","second","loud"]) T.Xd fun hr nd=>aj (aO (i:=3) nd rfl (Or.inl rfl) (mc (Rf T) hr T.inj (aa (mv 0) (aa (mv 1) (ai))))) (aj (aO (i:=4) nd rfl (Or.inl rfl) (mc (Rf T) hr T.inj (aa (mv 0) (aa (mv 2) (ai))))) (aj (ba ((i9 (OP (mv 3)) (gQ (OP (mv 4)))).mt) (aj (aO (i:=5) nd rfl (Or.inl rfl) (dh qS (aR) (bE (aa (mc (AJ T) hr T.inj (aa (mv 0) (aa (mv 1) (ai)))) (aa (mc (AJ T) hr T.inj (aa (mv 0) (aa (mv 2) (ai)))) (ai)))) (by with_unfolding_all rfl))) (ay (aC (bE (aa (aR) (aa (d7 (bX (mv 5)) (cD (by rfl) T.kR) (ag)) (ai))))))) (aN)) (aj (ba (aL (bt (bh hr)) (mv 3) (mv 4) (aG _)) (ay (aC (bE (aa (aR) (aa (ag) (ai)))))) (aN)) (ay (aC (bE (aa (d7 (aL iK (mv 3) (mv 4) (aG _)) (aR) (aR)) (aa (ag) (ai)))))))))
theorem Ex:jw P w K mg base cl 10 "taken" 5 zp "even":=kx (N:=["width","n","k","d","way","chosen","height","place"]) T.d63 (fun _ _ _ _ _ _ _ _=>zG fun _ _ _ _ _=>⟨_,rfl,rfl⟩) (fun _ _ _ _ _ _ _ _=>Pn fun _ _ _ _=>⟨_,rfl,rfl⟩) fun hr nd=>aj (c8 (mc (tG T) hr T.inj (aa (mv 0) (ai)))) (aj (aO (i:=5) nd rfl (Or.inl rfl) (mc (tE T) hr T.inj (aa (mv 4) (ai)))) (aj (ba (aL (bt (bh hr)) (mv 1) (ag) (aG _)) (ay (aC (bE (aa (ag) (aa (ag) (ai)))))) (aN)) (aj (aO (i:=6) nd rfl (Or.inl rfl) (mc (Q9 T) hr T.inj (aa (mv 1) (aa (mv 2) (aa (mv 3) (ai)))))) (aj (aO (i:=7) nd rfl (Or.inl rfl) (mc (NL T) hr T.inj (aa (mv 1) (aa (mv 2) (aa (mv 3) (aa (mc (NT T) hr T.inj (aa (mv 0) (aa (mv 6) (ai)))) (ai))))))) (ay (aC (mc (Rh T) hr T.inj (aa (mv 0) (aa (mv 5) (aa (dh iK (mv 1) (ag) (aG _)) (aa (mv 6) (aa (mv 7) (ai)))))))))))))
theorem eF:FG P w K mg base cl 10 "term_of" 2 bM:=cJ (N:=["width","word","kind","below"]) T.Xe fun hr nd=>aj (aO (i:=2) nd rfl (Or.inl rfl) (mc (AJ T) hr T.inj (aa (mv 0) (aa (mv 1) (ai))))) (aj (ba (aL (bt (bh hr)) (mv 2) (aR) (aG _)) (ay (aC (fZ (by rfl) T.mw))) (aN)) (aj (ba (aL (bt (bh hr)) (mv 2) (aR) (aG _)) (ay (aC (fZ (by rfl) T.pI))) (aN)) (aj (aO (i:=3) nd rfl (Or.inl rfl) (dh (bt (bh hr)) (ak (mc (Im T) hr T.inj (aa (mv 0) (aa (mv 1) (ai)))) (ag)) (ag) (aG _))) (aj (ba (aL (bt (bh hr)) (mv 2) (aR) (aG _)) (ay (aC (bE (aa (aR) (aa (mv 3) (aa (fZ (by rfl) T.lR) (ai))))))) (aN)) (ay (aC (bE (aa (aR) (aa (mv 3) (aa (mc (Rg T) hr T.inj (aa (mv 0) (aa (mc (NR T) hr T.inj (aa (mv 0) (aa (mv 1) (ai)))) (ai)))) (ai)))))))))))
theorem XG:FG P w K mg base cl 10 "number_root" 3 Hn:=cJ (N:=["width","chosen","number","height","place"]) T.Xf fun hr nd=>aj (aO (i:=3) nd rfl (Or.inl rfl) (aA gK (mc (Q9 T) hr T.inj (aa (ak (mv 2) (ag)) (aa (ak (mv 2) (ag)) (aa (ag) (ai))))) (ag))) (aj (aO (i:=4) nd rfl (Or.inl rfl) (mc (Xx T) hr T.inj (aa (mv 2) (aa (mc (NT T) hr T.inj (aa (mv 0) (aa (mv 3) (ai)))) (ai))))) (ay (aC (mc (Rh T) hr T.inj (aa (mv 0) (aa (mv 1) (aa (i7) (aa (mv 3) (aa (mv 4) (ai))))))))))
theorem XH:jo P w K mg base cl 11 30 "compared" 2 zW:=jD (N:=["self","one","other"]) T.d122_12 T.cb.cls fun hr nd=>bu (bZ (h9 (zy T) hr T.inj (sv 0) (aE (mQ ((Ri T).alias T.kE) hr T.inj (aE (cU T.cb.cls T.dI (sv 0)) (aE (aB (mv 1)) (aE (aB (mv 2)) (bC))))) (bC))))
theorem Rj:FG P w K mg base cl 11 "product" 3 z7:=cJ (N:=["width","one","other","first","second","kinds","below"]) T.Xg fun hr nd=>aj (aO (i:=3) nd rfl (Or.inl rfl) (mc (eF T) hr T.inj (aa (mv 0) (aa (mv 1) (ai))))) (aj (aO (i:=4) nd rfl (Or.inl rfl) (mc (eF T) hr T.inj (aa (mv 0) (aa (mv 2) (ai))))) (aj (aO (i:=5) nd rfl (Or.inl rfl) (bE (aa (ak (mv 3) (ag)) (aa (ak (mv 4) (ag)) (ai))))) (aj (ba (aL qS (aR) (mv 5) (by with_unfolding_all rfl)) (ay (aC (fZ (by rfl) T.mw))) (aN)) (aj (ba (aL qS (aR) (mv 5) (by with_unfolding_all rfl)) (ay (aC (fZ (by rfl) T.pI))) (aN)) (aj (aO (i:=6) nd rfl (Or.inl rfl) (dh (tX (bh hr)) (ak (mv 3) (ag)) (ak (mv 4) (ag)) (aG _))) (aj (ba (aL (tV (bh hr)) (aR) (mv 5) (by with_unfolding_all rfl)) (ay (aC (bE (aa (aR) (aa (mv 6) (aa (mc (Q8 T) hr T.inj (aa (ak (mv 3) (ag)) (aa (ak (mv 4) (ag)) (ai)))) (ai))))))) (aN)) (aj (ba ((i9 (bX (mc (tF T) hr T.inj (aa (mv 3) (ai)))) (gQ (bX (mc (tF T) hr T.inj (aa (mv 4) (ai)))))).mt) (ay (aC (fZ (by rfl) T.mw))) (aN)) (ay (aC (bE (aa (aR) (aa (mv 6) (aa (fZ (by rfl) T.lR) (ai))))))))))))))
theorem Ey:jw P w K mg base cl 11 "gathered" 3 zc "even":=kx (N:=["width","terms","way","nones","ends","number"]) T.d75 (fun _ _ _ _ _ _ _ _=>n8 fun _ _ _=>⟨_,rfl,rfl⟩) (fun _ _ _ _ _ _ _ _=>xa fun _ _=>⟨_,rfl,rfl⟩) fun hr nd=>aj (c8 (mc (tG T) hr T.inj (aa (mv 0) (ai)))) (aj (c8 (mc (tE T) hr T.inj (aa (mv 2) (ai)))) (aj (aO (i:=3) nd rfl (Or.inl rfl) (mc (Io T) hr T.inj (aa (mv 0) (aa (mv 1) (ai))))) (aj (ba (Ct (mv 3)) (ay (aC (mv 3))) (aN)) (aj (Fh (i:=4) nd rfl (Or.inl rfl) (by decide +kernel) rfl (ke (mv 1)) (fun _ _ _ _=>MC.one (aL (bt (bh hr)) (ak (mv 6) (ag)) (aR) (aG _))) (fun _ _ _ _=>ak (mv 6) (ag))) (aj (ba (bX (mv 4)) (ay (aC (mc (XE T) hr T.inj (aa (mv 0) (aa (mv 4) (ai)))))) (aN)) (aj (aO (i:=5) nd rfl (Or.inl rfl) (mc (Xv T) hr T.inj (aa (mv 1) (ai)))) (aj (ba (aL (bt (bh hr)) (mv 5) (fZ (by rfl) T.lR) (aG _)) (ay (aC (bE (aa (mc (tH T) hr T.inj (aa (mv 0) (aa (ag) (aa (mc (Xr T) hr T.inj (aa (mv 1) (aa (mv 2) (ai)))) (ai))))) (aa (ag) (ai)))))) (aN)) (ay (aC (mc (Ex T).fg hr T.inj (aa (mv 0) (aa (ak (mv 5) (ag)) (aa (ak (mv 5) (ag)) (aa (ag) (aa (mv 2) (ai))))))))))))))))
theorem XI:FG P w K mg base cl 11 "quotient_of" 4 Hl:=cJ (N:=["width","first","second","way","below","n"]) T.Xh fun hr nd=>aj (aO (i:=4) nd rfl (Or.inl rfl) (dh (tX (bh hr)) (ak (mv 1) (ag)) (ak (mv 2) (ag)) (aG _))) (aj (ba (aL (bt (bh hr)) (ak (mv 1) (ag)) (aR) (aG _)) (ay (aC (bE (aa (mc (tH T) hr T.inj (aa (mv 0) (aa (mc (Ew T) hr T.inj (aa (mv 0) (ai))) (aa (mv 4) (ai))))) (aa (ag) (ai)))))) (aN)) (aj (ba ((i9 (aL (bt (bh hr)) (ak (mv 2) (ag)) (aR) (aG _)) (gQ (bX (mc (tF T) hr T.inj (aa (mv 1) (ai)))))).mt) (ay (aC (bE (aa (mc (tH T) hr T.inj (aa (mv 0) (aa (ag) (aa (mv 4) (ai))))) (aa (ag) (ai)))))) (aN)) (aj (ba (bX (mc (tF T) hr T.inj (aa (mv 2) (ai)))) (ay (aC (bE (aa (mc (tH T) hr T.inj (aa (mv 0) (aa (mc (Ew T) hr T.inj (aa (mv 0) (ai))) (aa (mv 4) (ai))))) (aa (cD (by rfl) T.NI) (ai)))))) (aN)) (aj (aO (i:=5) nd rfl (Or.inl rfl) (ak (ak (mv 1) (ag)) (ag))) (ay (aC (mc (Ex T).fg hr T.inj (aa (mv 0) (aa (d7 (bX (mv 4)) (fU hJ (mv 5)) (mv 5)) (aa (aA cY (ak (ak (mv 1) (ag)) (ag)) (ak (ak (mv 2) (ag)) (ag))) (aa (ak (ak (mv 2) (ag)) (ag)) (aa (mv 3) (ai)))))))))))))
theorem Rk:FG P w K mg base cl 11 "left_of" 3 z4:=cJ (N:=["width","one","other","first","second","nones","rest"]) T.Xi fun hr nd=>aj (aO (i:=3) nd rfl (Or.inl rfl) (mc (eF T) hr T.inj (aa (mv 0) (aa (mv 1) (ai))))) (aj (aO (i:=4) nd rfl (Or.inl rfl) (mc (eF T) hr T.inj (aa (mv 0) (aa (mv 2) (ai))))) (aj (aO (i:=5) nd rfl (Or.inl rfl) (mc (Io T) hr T.inj (aa (mv 0) (aa (eV (aa (mv 3) (aa (mv 4) (ai)))) (ai))))) (aj (ba (Ct (mv 5)) (ay (aC (mv 5))) (aN)) (aj (ba ((i9 (aL (bt (bh hr)) (ak (mv 3) (ag)) (aR) (aG _)) (gQ (bX (mc (tF T) hr T.inj (aa (mv 4) (ai)))))).mt) (ay (aC (bE (aa (mc (yn T) hr T.inj (aa (mv 0) (ai))) (aa (cD (by rfl) T.kR) (ai)))))) (aN)) (aj (ba (aL (bt (bh hr)) (ak (mv 4) (ag)) (aR) (aG _)) (ay (aC (bE (aa (mv 1) (aa (ag) (ai)))))) (aN)) (aj (aO (i:=6) nd rfl (Or.inl rfl) (mc (Xw T) hr T.inj (aa (ak (mv 3) (ag)) (aa (ak (mv 4) (ag)) (ai))))) (aj (ba (aL (bt (bh hr)) (ak (mv 6) (ag)) (ag) (aG _)) (ay (aC (bE (aa (mc (Rc T) hr T.inj (aa (mv 0) (aa (ag) (aa (mv 1) (ai))))) (aa (ag) (ai)))))) (aN)) (ay (aC (bE (aa (mc (XD T) hr T.inj (aa (mv 0) (aa (d7 (bX (ak (mv 3) (ag))) (bE (aa (fU hJ (ak (mv 6) (ag))) (aa (ak (mv 6) (ag)) (ai)))) (mv 6)) (ai)))) (aa (ag) (ai)))))))))))))
theorem Rl:jw P w K mg base cl 11 "root" 3 zb "even":=kx (N:=["width","word","way","term","chosen","nones"]) T.d89 (fun _ _ _ _ _ _ _ _=>n8 fun _ _ _=>⟨_,rfl,rfl⟩) (fun _ _ _ _ _ _ _ _=>xa fun _ _=>⟨_,rfl,rfl⟩) fun hr nd=>aj (aO (i:=3) nd rfl (Or.inl rfl) (mc (eF T) hr T.inj (aa (mv 0) (aa (mv 1) (ai))))) (aj (aO (i:=4) nd rfl (Or.inl rfl) (mc (tE T) hr T.inj (aa (mv 2) (ai)))) (aj (aO (i:=5) nd rfl (Or.inl rfl) (mc (Io T) hr T.inj (aa (mv 0) (aa (eV (aa (mv 3) (ai))) (ai))))) (aj (ba (Ct (mv 5)) (ay (aC (mv 5))) (aN)) (aj (ba (bX (mc (tF T) hr T.inj (aa (mv 3) (ai)))) (ay (aC (bE (aa (mv 1) (aa (ag) (ai)))))) (aN)) (aj (ba (bX (ak (mv 3) (ag))) (ay (aC (bE (aa (mc (yn T) hr T.inj (aa (mv 0) (ai))) (aa (cD (by rfl) T.kR) (ai)))))) (aN)) (aj (ba (aL (bt (bh hr)) (ak (mv 3) (ag)) (aR) (aG _)) (ay (aC (bE (aa (mv 1) (aa (ag) (ai)))))) (aN)) (ay (aC (mc (XG T) hr T.inj (aa (mv 0) (aa (mv 4) (aa (ak (mv 3) (ag)) (ai)))))))))))))
theorem XJ:FG P w K mg base cl 11 "decimal_taken" 4 zV:=cJ (N:=["width","whole","ten","way"]) T.TC fun hr nd=>aj (ba (aL iK (mv 2) (ag) (aG _)) (ay (aC (mc (Ex T).fg hr T.inj (aa (mv 0) (aa (mv 1) (aa (ag) (aa (mc (Q3 T) hr T.inj (aa (fU hJ (mv 2)) (ai))) (aa (mv 3) (ai))))))))) (aN)) (ay (aC (mc (Ex T).fg hr T.inj (aa (mv 0) (aa (aA i8 (mv 1) (mc (Q3 T) hr T.inj (aa (mv 2) (ai)))) (aa (ag) (aa (ag) (aa (mv 3) (ai)))))))))
theorem XM:jw P w K mg base cl 11 "of_number" 3 Hu "even":=kx (N:=["width","n","way"]) T.d120 (fun _ _ _ _ _ _ _ _=>n8 fun _ _ _=>⟨_,rfl,rfl⟩) (fun _ _ _ _ _ _ _ _=>xa fun _ _=>⟨_,rfl,rfl⟩) fun hr nd=>ay (aC (mc (Ex T).fg hr T.inj (aa (mv 0) (aa (mv 1) (aa (ag) (aa (ag) (aa (mv 2) (ai))))))))
theorem XN:jo P w K mg base cl 12 30 "left_of" 2 zX:=jD (N:=["self","one","other"]) T.d122_6 T.cb.cls fun hr nd=>bu (bZ (h9 (zy T) hr T.inj (sv 0) (aE (mQ ((Rk T).alias T.jH) hr T.inj (aE (cU T.cb.cls T.dI (sv 0)) (aE (aB (mv 1)) (aE (aB (mv 2)) (bC))))) (bC))))
theorem XO:jo P w K mg base cl 12 30 "root" 1 zY:=jD (N:=["self","word"]) T.d122_7 T.cb.cls fun hr nd=>bu (bZ (h9 (zy T) hr T.inj (sv 0) (aE (mQ ((Rl T).alias T.oh).fg hr T.inj (aE (cU T.cb.cls T.dI (sv 0)) (aE (aB (mv 1)) (aE (cU T.cb.cls T.eE (sv 0)) (bC))))) (bC))))
theorem Rm:jw P w K mg base cl 12 "over" 4 z8 "even":=kx (N:=["width","one","other","way","first","second","nones","both_endless"]) T.d81 (fun _ _ _ _ _ _ _ _=>sh fun _ _ _ _=>⟨_,rfl,rfl⟩) (fun _ _ _ _ _ _ _ _=>GZ fun _ _ _=>⟨_,rfl,rfl⟩) fun hr nd=>aj (aO (i:=4) nd rfl (Or.inl rfl) (mc (eF T) hr T.inj (aa (mv 0) (aa (mv 1) (ai))))) (aj (aO (i:=5) nd rfl (Or.inl rfl) (mc (eF T) hr T.inj (aa (mv 0) (aa (mv 2) (ai))))) (aj (c8 (mc (tE T) hr T.inj (aa (mv 3) (ai)))) (aj (aO (i:=6) nd rfl (Or.inl rfl) (mc (Io T) hr T.inj (aa (mv 0) (aa (eV (aa (mv 4) (aa (mv 5) (ai)))) (ai))))) (aj (ba (Ct (mv 6)) (ay (aC (mv 6))) (aN)) (aj (aO (i:=7) nd rfl (Or.inl rfl) (gR (dh (bt (bh hr)) (ak (mv 4) (ag)) (aR) (aG _)) (gn (dh (bt (bh hr)) (ak (mv 5) (ag)) (aR) (aG _))))) (aj (ba ((i9 (bX (mv 7)) (gQ ((oI (bX (mc (tF T) hr T.inj (aa (mv 4) (ai)))) (mE (bX (mc (tF T) hr T.inj (aa (mv 5) (ai)))))).mt))).mt) (ay (aC (bE (aa (mc (yn T) hr T.inj (aa (mv 0) (ai))) (aa (cD (by rfl) T.kR) (ai)))))) (aN)) (ay (aC (mc (XI T) hr T.inj (aa (mv 0) (aa (mv 4) (aa (mv 5) (aa (mv 3) (ai))))))))))))))
theorem NU:jw P w K mg base cl 12 "plus" 4 zj "even":=kx (N:=["width","one","other","way"]) T.d94 (fun _ _ _ _ _ _ _ _=>sh fun _ _ _ _=>⟨_,rfl,rfl⟩) (fun _ _ _ _ _ _ _ _=>GZ fun _ _ _=>⟨_,rfl,rfl⟩) fun hr nd=>ay (aC (mc (Ey T).fg hr T.inj (aa (mv 0) (aa (eV (aa (mc (eF T) hr T.inj (aa (mv 0) (aa (mv 1) (ai)))) (aa (mc (eF T) hr T.inj (aa (mv 0) (aa (mv 2) (ai)))) (ai)))) (aa (mv 3) (ai))))))
theorem Rn:jw P w K mg base cl 12 "times" 4 zv "even":=kx (N:=["width","one","other","way"]) T.d98 (fun _ _ _ _ _ _ _ _=>sh fun _ _ _ _=>⟨_,rfl,rfl⟩) (fun _ _ _ _ _ _ _ _=>GZ fun _ _ _=>⟨_,rfl,rfl⟩) fun hr nd=>ay (aC (mc (Ey T).fg hr T.inj (aa (mv 0) (aa (eV (aa (mc (Rj T) hr T.inj (aa (mv 0) (aa (mv 1) (aa (mv 2) (ai))))) (ai))) (aa (mv 3) (ai))))))
theorem Ro:jw P w K mg base cl 12 "fused" 5 fS "even":=kx (N:=["width","one","other","third","way"]) T.d100 (fun _ _ _ _ _ _ _ _=>zG fun _ _ _ _ _=>⟨_,rfl,rfl⟩) (fun _ _ _ _ _ _ _ _=>Pn fun _ _ _ _=>⟨_,rfl,rfl⟩) fun hr nd=>ay (aC (mc (Ey T).fg hr T.inj (aa (mv 0) (aa (eV (aa (mc (Rj T) hr T.inj (aa (mv 0) (aa (mv 1) (aa (mv 2) (ai))))) (aa (mc (eF T) hr T.inj (aa (mv 0) (aa (mv 3) (ai)))) (ai)))) (aa (mv 4) (ai))))))
theorem Rq:jw P w K mg base cl 12 "total" 3 zo "even":=kx (N:=["width","words","way"]) T.d102 (fun _ _ _ _ _ _ _ _=>n8 fun _ _ _=>⟨_,rfl,rfl⟩) (fun _ _ _ _ _ _ _ _=>xa fun _ _=>⟨_,rfl,rfl⟩) fun hr nd=>ay (aC (mc (Ey T).fg hr T.inj (aa (mv 0) (aa (IW nd (by decide +kernel) rfl (ke (mv 1)) (fun _ _ _ _=>MC.nil) (fun _ _ _ _=>Ux (eF T) hr T.inj (aa (mv 0) (aa (mv 3) (ai))))) (aa (mv 2) (ai))))))
include KX in
theorem Rr:jw P w K mg base cl 12 "read" 3 z5 "even":=kx (N:=["width","text","way","word","parts"]) T.d112 (fun _ _ _ _ _ _ _ _=>n8 fun _ _ _=>⟨_,rfl,rfl⟩) (fun _ _ _ _ _ _ _ _=>xa fun _ _=>⟨_,rfl,rfl⟩) fun hr nd=>aj (c8 (mc (tG T) hr T.inj (aa (mv 0) (ai)))) (aj (aO (i:=3) nd rfl (Or.inl rfl) (mc (XF T) hr T.inj (aa (mv 0) (aa (mv 1) (ai))))) (aj (ba (Ct (mv 3)) (aj (c8 (mc (tE T) hr T.inj (aa (mv 2) (ai)))) (ay (aC (bE (aa (mv 3) (aa (ag) (ai))))))) (aN)) (aj (aO (i:=4) nd rfl (Or.inl rfl) (mc (Xy T KX) hr T.inj (aa (mv 1) (ai)))) (aj (ba (aL (bt (bh hr)) (ak (mv 4) (ag)) (ag) (aG _)) (aj (c8 (mc (tE T) hr T.inj (aa (mv 2) (ai)))) (ay (aC (bE (aa (mc (tH T) hr T.inj (aa (mv 0) (aa (ag) (aa (ak (mv 4) (ag)) (ai))))) (aa (ag) (ai))))))) (aN)) (ay (aC (mc (XJ T) hr T.inj (aa (mv 0) (aa (d7 (bX (ak (mv 4) (ag))) (fU hJ (ak (mv 4) (ag))) (ak (mv 4) (ag))) (aa (ak (mv 4) (ag)) (aa (mv 2) (ai))))))))))))
theorem Rt:jw P w K mg base cl 12 "whole" 3 z9 "even":=kx (N:=["width","word","way","value","number","marks","answer"]) T.d117 (fun _ _ _ _ _ _ _ _=>n8 fun _ _ _=>⟨_,rfl,rfl⟩) (fun _ _ _ _ _ _ _ _=>xa fun _ _=>⟨_,rfl,rfl⟩) fun hr nd=>aj (ba (aL (tV (bh hr)) (mc (AJ T) hr T.inj (aa (mv 0) (aa (mv 1) (ai)))) (bE (aa (aR) (aa (aR) (ai)))) (by with_unfolding_all rfl)) (ay (aC (mc (Ey T).fg hr T.inj (aa (mv 0) (aa (eV (aa (mc (eF T) hr T.inj (aa (mv 0) (aa (mv 1) (ai)))) (ai))) (aa (mv 2) (ai))))))) (aN)) (aj (aO (i:=3) nd rfl (Or.inl rfl) (mc (Rg T) hr T.inj (aa (mv 0) (aa (mv 1) (ai))))) (aj (aO (i:=4) nd rfl (Or.inl rfl) (mc (Xz T) hr T.inj (aa (mv 3) (aa (mc (tE T) hr T.inj (aa (mv 2) (ai))) (ai))))) (aj (aO (i:=5) nd rfl (Or.inl rfl) (d7 (aL (bt (bh hr)) (mc (Eu T) hr T.inj (aa (mv 4) (aa (ag) (ai)))) (mv 3) (aG _)) (ag) (cD (by rfl) T.tD))) (aj (ba (aL (bt (bh hr)) (mv 4) (ag) (aG _)) (ay (aC (bE (aa (mc (Rc T) hr T.inj (aa (mv 0) (aa (ag) (aa (mv 1) (ai))))) (aa (mv 5) (ai)))))) (aN)) (aj (aO (i:=6) nd rfl (Or.inl rfl) (mc (XM T).fg hr T.inj (aa (mv 0) (aa (mv 4) (aa (mv 2) (ai)))))) (ay (aC (bE (aa (ak (mv 6) (ag)) (aa (aA EG (ak (mv 6) (ag)) (mv 5)) (ai)))))))))))
theorem XQ:jo P w K mg base cl 13 30 "plus" 2 zZ:=jD (N:=["self","one","other"]) T.d122_2 T.cb.cls fun hr nd=>bu (bZ (h9 (zy T) hr T.inj (sv 0) (aE (mQ ((NU T).alias T.lQ).fg hr T.inj (aE (cU T.cb.cls T.dI (sv 0)) (aE (aB (mv 1)) (aE (aB (mv 2)) (aE (cU T.cb.cls T.eE (sv 0)) (bC)))))) (bC))))
theorem XR:jo P w K mg base cl 13 30 "times" 2 Aa:=jD (N:=["self","one","other"]) T.d122_4 T.cb.cls fun hr nd=>bu (bZ (h9 (zy T) hr T.inj (sv 0) (aE (mQ ((Rn T).alias T.oj).fg hr T.inj (aE (cU T.cb.cls T.dI (sv 0)) (aE (aB (mv 1)) (aE (aB (mv 2)) (aE (cU T.cb.cls T.eE (sv 0)) (bC)))))) (bC))))
theorem XS:jo P w K mg base cl 13 30 "over" 2 Ab:=jD (N:=["self","one","other"]) T.d122_5 T.cb.cls fun hr nd=>bu (bZ (h9 (zy T) hr T.inj (sv 0) (aE (mQ ((Rm T).alias T.kF).fg hr T.inj (aE (cU T.cb.cls T.dI (sv 0)) (aE (aB (mv 1)) (aE (aB (mv 2)) (aE (cU T.cb.cls T.eE (sv 0)) (bC)))))) (bC))))
theorem XT:jo P w K mg base cl 13 30 "whole" 1 Ac:=jD (N:=["self","word"]) T.d122_8 T.cb.cls fun hr nd=>bu (bZ (h9 (zy T) hr T.inj (sv 0) (aE (mQ ((Rt T).alias T.me).fg hr T.inj (aE (cU T.cb.cls T.dI (sv 0)) (aE (aB (mv 1)) (aE (cU T.cb.cls T.eE (sv 0)) (bC))))) (bC))))
theorem XU:jo P w K mg base cl 13 30 "fused" 3 Ad:=jD (N:=["self","one","other","third"]) T.d122_9 T.cb.cls fun hr nd=>bu (bZ (h9 (zy T) hr T.inj (sv 0) (aE (mQ ((Ro T).alias T.n9).fg hr T.inj (aE (cU T.cb.cls T.dI (sv 0)) (aE (aB (mv 1)) (aE (aB (mv 2)) (aE (aB (mv 3)) (aE (cU T.cb.cls T.eE (sv 0)) (bC))))))) (bC))))
theorem XW:jo P w K mg base cl 13 30 "total" 1 Ae:=jD (N:=["self","words"]) T.d122_10 T.cb.cls fun hr nd=>bu (bZ (h9 (zy T) hr T.inj (sv 0) (aE (mQ ((Rq T).alias T.oo).fg hr T.inj (aE (cU T.cb.cls T.dI (sv 0)) (aE (aB (mv 1)) (aE (cU T.cb.cls T.eE (sv 0)) (bC))))) (bC))))
include KX in
theorem XX:jo P w K mg base cl 13 30 "read" 1 Af:=jD (N:=["self","text"]) T.d122_11 T.cb.cls fun hr nd=>bu (bZ (h9 (zy T) hr T.inj (sv 0) (aE (mQ ((Rr T KX).alias T.og).fg hr T.inj (aE (cU T.cb.cls T.dI (sv 0)) (aE (aB (mv 1)) (aE (cU T.cb.cls T.eE (sv 0)) (bC))))) (bC))))
theorem Ru:jw P w K mg base cl 13 "minus" 4 zm "even":=kx (N:=["width","one","other","way"]) T.d96 (fun _ _ _ _ _ _ _ _=>sh fun _ _ _ _=>⟨_,rfl,rfl⟩) (fun _ _ _ _ _ _ _ _=>GZ fun _ _ _=>⟨_,rfl,rfl⟩) fun hr nd=>ay (aC (mc ((NU T).alias T.lQ).fg hr T.inj (aa (mv 0) (aa (mv 1) (aa (mc (NQ T) hr T.inj (aa (mv 0) (aa (mv 2) (ai)))) (aa (mv 3) (ai)))))))
theorem XY:jo P w K mg base cl 14 30 "minus" 2 Ag:=jD (N:=["self","one","other"]) T.d122_3 T.cb.cls fun hr nd=>bu (bZ (h9 (zy T) hr T.inj (sv 0) (aE (mQ ((Ru T).alias T.oa).fg hr T.inj (aE (cU T.cb.cls T.dI (sv 0)) (aE (aB (mv 1)) (aE (aB (mv 2)) (aE (cU T.cb.cls T.eE (sv 0)) (bC)))))) (bC))))
include KX in
theorem XZ:FG P w K mg base cl 14 "_law_due" 5 bT:=cJ (N:=["_law_width","_law_way","_law_pick","_law_words","_law_text"]) T.TF fun hr nd=>aj (ba (aL (bt (bh hr)) (mv 2) (ag) (aG _)) (ay (aC (mc ((NU T).alias T.lQ).fg hr T.inj (aa (mv 0) (aa (ak (mv 3) (ag)) (aa (ak (mv 3) (ag)) (aa (mv 1) (ai)))))))) (aN)) (aj (ba (aL (bt (bh hr)) (mv 2) (ag) (aG _)) (ay (aC (mc ((Ru T).alias T.oa).fg hr T.inj (aa (mv 0) (aa (ak (mv 3) (ag)) (aa (ak (mv 3) (ag)) (aa (mv 1) (ai)))))))) (aN)) (aj (ba (aL (bt (bh hr)) (mv 2) (ag) (aG _)) (ay (aC (mc ((Rn T).alias T.oj).fg hr T.inj (aa (mv 0) (aa (ak (mv 3) (ag)) (aa (ak (mv 3) (ag)) (aa (mv 1) (ai)))))))) (aN)) (aj (ba (aL (bt (bh hr)) (mv 2) (ag) (aG _)) (ay (aC (mc ((Rm T).alias T.kF).fg hr T.inj (aa (mv 0) (aa (ak (mv 3) (ag)) (aa (ak (mv 3) (ag)) (aa (mv 1) (ai)))))))) (aN)) (aj (ba (aL (bt (bh hr)) (mv 2) (ag) (aG _)) (ay (aC (mc ((Rk T).alias T.jH) hr T.inj (aa (mv 0) (aa (ak (mv 3) (ag)) (aa (ak (mv 3) (ag)) (ai))))))) (aN)) (aj (ba (aL (bt (bh hr)) (mv 2) (ag) (aG _)) (ay (aC (mc ((Rl T).alias T.oh).fg hr T.inj (aa (mv 0) (aa (ak (mv 3) (ag)) (aa (mv 1) (ai))))))) (aN)) (aj (ba (aL (bt (bh hr)) (mv 2) (ag) (aG _)) (ay (aC (mc ((Rt T).alias T.me).fg hr T.inj (aa (mv 0) (aa (ak (mv 3) (ag)) (aa (mv 1) (ai))))))) (aN)) (aj (ba (aL (bt (bh hr)) (mv 2) (ag) (aG _)) (ay (aC (mc ((Ro T).alias T.n9).fg hr T.inj (aa (mv 0) (aa (ak (mv 3) (ag)) (aa (ak (mv 3) (ag)) (aa (ak (mv 3) (ag)) (aa (mv 1) (ai))))))))) (aN)) (aj (ba (aL (bt (bh hr)) (mv 2) (ag) (aG _)) (ay (aC (mc ((Rq T).alias T.oo).fg hr T.inj (aa (mv 0) (aa (oM (mv 3) (pN) (kN (aA eI (ak (mv 3) (ag)) (ag)))) (aa (mv 1) (ai))))))) (aN)) (aj (ba (aL (bt (bh hr)) (mv 2) (ag) (aG _)) (ay (aC (mc ((Rr T KX).alias T.og).fg hr T.inj (aa (mv 0) (aa (mv 4) (aa (mv 1) (ai))))))) (aN)) (ay (aC (mc ((Ri T).alias T.kE) hr T.inj (aa (mv 0) (aa (ak (mv 3) (ag)) (aa (ak (mv 3) (ag)) (ai))))))))))))))))
include KX in
theorem Rv:sf P w K mg base cl 15 "_law_done" 4 bw:=xi (N:=["_law_slate","_law_pick","_law_words","_law_text"]) T.TG fun hr nd=>bb (d9 (dw (aL (bt (bh hr)) (mv 1) (ag) (aG _))) (bu (bZ (h9 (XQ T) hr T.inj (sv 0) (aE (aB (ak (mv 2) (ag))) (aE (aB (ak (mv 2) (ag))) (bC)))))) (c9)) (bb (d9 (dw (aL (bt (bh hr)) (mv 1) (ag) (aG _))) (bu (bZ (h9 (XY T) hr T.inj (sv 0) (aE (aB (ak (mv 2) (ag))) (aE (aB (ak (mv 2) (ag))) (bC)))))) (c9)) (bb (d9 (dw (aL (bt (bh hr)) (mv 1) (ag) (aG _))) (bu (bZ (h9 (XR T) hr T.inj (sv 0) (aE (aB (ak (mv 2) (ag))) (aE (aB (ak (mv 2) (ag))) (bC)))))) (c9)) (bb (d9 (dw (aL (bt (bh hr)) (mv 1) (ag) (aG _))) (bu (bZ (h9 (XS T) hr T.inj (sv 0) (aE (aB (ak (mv 2) (ag))) (aE (aB (ak (mv 2) (ag))) (bC)))))) (c9)) (bb (d9 (dw (aL (bt (bh hr)) (mv 1) (ag) (aG _))) (bu (bZ (h9 (XN T) hr T.inj (sv 0) (aE (aB (ak (mv 2) (ag))) (aE (aB (ak (mv 2) (ag))) (bC)))))) (c9)) (bb (d9 (dw (aL (bt (bh hr)) (mv 1) (ag) (aG _))) (bu (bZ (h9 (XO T) hr T.inj (sv 0) (aE (aB (ak (mv 2) (ag))) (bC))))) (c9)) (bb (d9 (dw (aL (bt (bh hr)) (mv 1) (ag) (aG _))) (bu (bZ (h9 (XT T) hr T.inj (sv 0) (aE (aB (ak (mv 2) (ag))) (bC))))) (c9)) (bb (d9 (dw (aL (bt (bh hr)) (mv 1) (ag) (aG _))) (bu (bZ (h9 (XU T) hr T.inj (sv 0) (aE (aB (ak (mv 2) (ag))) (aE (aB (ak (mv 2) (ag))) (aE (aB (ak (mv 2) (ag))) (bC))))))) (c9)) (bb (d9 (dw (aL (bt (bh hr)) (mv 1) (ag) (aG _))) (bu (bZ (h9 (XW T) hr T.inj (sv 0) (aE (aB (oM (mv 2) (pN) (kN (aA eI (ak (mv 2) (ag)) (ag))))) (bC))))) (c9)) (bb (d9 (dw (aL (bt (bh hr)) (mv 1) (ag) (aG _))) (bu (bZ (h9 (XX T KX) hr T.inj (sv 0) (aE (aB (mv 3)) (bC))))) (c9)) (bu (bZ (h9 (XH T) hr T.inj (sv 0) (aE (aB (ak (mv 2) (ag))) (aE (aB (ak (mv 2) (ag))) (bC)))))))))))))))
include KX in
theorem NV:sf P w K mg base cl 16 "_law_refused" 4 zg:=xi (N:=["_law_slate","_law_pick","_law_words","_law_kind","_law_found","_law_odd","error"]) T.TH fun hr nd=>bb (eL (i:=4) nd rfl (Or.inl rfl) (aB (ka))) (bb (eL (i:=5) nd rfl (Or.inl rfl) (Lh (IH (by rfl) T.Et boot_list (aa (mv 2) (ai))))) (bb (d9 (dw (aL (bt (bh hr)) (mv 3) (ag) (aG _))) (bu (mP (sv 5) (aB (aA eI (ak (mv 2) (ag)) (aA cM (ag) (kb N8 (by rfl) T.pY boot_int (aa (gR (dh (tX (bh hr)) (mv 1) (ag) (aG _)) (gn (dh (tX (bh hr)) (mv 1) (ag) (aG _)))) (ai)))))) (aB (aA cY (fU hJ (ag)) (ak (mv 2) (ag)))))) (c9)) (bb (d9 (dw ((oI (aL (bt (bh hr)) (mv 3) (ag) (aG _)) (mE (aL (bt (bh hr)) (mv 1) (ag) (aG _)))).mt)) (bu (mP (sv 5) (aB (ag)) (aB (ag)))) (c9)) (Bi 5 (bb (Dq (names:=names) (d:=0) (n:=6) (x:=4) T.cls dA (at_mem 0 rfl) (bu (d9 (dw (aL (bt (bh hr)) (mv 3) (ag) (aG _))) (bu (kO (h9 (Q6 T) hr T.inj (sv 0) (aE (aB (ak (eV (aa (aR) (aa (aR) (aa (aR) (aa (ka) (aa (aR) (ai))))))) (aA eI (ak (mv 2) (ag)) (ag)))) (bC))))) (bu (kO (u6 (Rv T KX) hr T.inj (aE (sv 0) (aE (aB (mv 1)) (aE (sv 5) (aE (aB (ak (eV (aa (aR) (aa (aR) (aa (aR) (aa (aR) (aa (aR) (ai))))))) (aA eI (ak (mv 2) (ag)) (ag)))) (bC)))))))))) nd rfl rfl rfl (Or.inl rfl) (by rfl) (by decide)) (bb (d9 (dw (aL (bt (bh hr)) (mv 3) (ag) (aG _))) (bu (bZ (aB (gR (il (names:=names) (d:=3) T.cls (at_mem 3 rfl) (mv 4) (by rfl) T.cQ (by rfl)) (gn (oJ (il (names:=names) (d:=2) T.cls (at_mem 2 rfl) (mv 4) (by rfl) T.cQ (by rfl)))))))) (c9)) (bb (d9 (dw ((i9 (bX (il (names:=names) (d:=4) T.cls (at_mem 4 rfl) (mv 4) (by rfl) T.cQ (by rfl))) (gQ (bX (il (names:=names) (d:=3) T.cls (at_mem 3 rfl) (mv 4) (by rfl) T.cQ (by rfl))))).mt)) (bu (bZ (aB (i7)))) (c9)) (bu (bZ (aB (gR (dh (bt (bh hr)) (il (names:=names) (d:=6) T.cls (at_mem 5 rfl) (mv 4) (by rfl) T.cQ (by rfl)) (dh (bt (bh hr)) (mv 3) (ag) (aG _)) (aG _)) (gn (dh (bt (bh hr)) (il (names:=names) (d:=2) T.cls (at_mem 2 rfl) (mv 4) (by rfl) T.cQ (by rfl)) (dh (bt (bh hr)) (mv 3) (ag) (aG _)) (aG _))))))))))))))
include KX in
theorem X0:sf P w K mg base cl 17 "_law_step" 5 gu:=xi (N:=["_law_slate","_law_width","_law_state","_law_words","_law_cell","_law_names","_law_pick","_law_text","_law_due_here","_law_handed","_law_found"]) T.TJ fun hr nd=>bb (eL (i:=5) nd rfl (Or.inl rfl) (aB (eV (aa (aR) (aa (aR) (aa (aR) (aa (aR) (aa (aR) (ai))))))))) (bb (eL (i:=6) nd rfl (Or.inl rfl) (aB (aA eI (mv 4) (ag)))) (bb (eL (i:=7) nd rfl (Or.inl rfl) (aB (ak (eV (aa (aR) (aa (aR) (aa (aR) (aa (aR) (aa (aR) (aa (aR) (aa (aR) (ai))))))))) (aA eI (ak (mv 3) (ag)) (ag))))) (bb (d9 (dw (aL (bt (bh hr)) (mv 6) (ag) (aG _))) (bb (mP (sv 2) (aB (ag)) (aB (ak (mv 5) (aA eI (aA gK (mv 4) (ag)) (ag))))) (bu (bZ (Dk (h9 (Q6 T) hr T.inj (sv 0) (aE (gY (sv 2) (aB (ag))) (bC))))))) (c9)) (bb (d9 (dw ((oI (aL (bt (bh hr)) (mv 6) (ag) (aG _)) (mE (aL (bt (bh hr)) (aA eI (aA gK (mv 4) (ag)) (ag)) (ag) (aG _)))).mt)) (bb (mP (sv 2) (aB (ag)) (aB (ag))) (bu (bZ (Dk (R6 (Xo T) hr T.inj (sv 0)))))) (c9)) (bb (d9 (dw (aL (bt (bh hr)) (mv 6) (ag) (aG _))) (bu (bZ (u6 (NV T KX) hr T.inj (aE (sv 0) (aE (aB (ag)) (aE (aB (mv 3)) (aE (aB (ag)) (bC)))))))) (c9)) (bb (d9 (dw (aL (bt (bh hr)) (mv 6) (ag) (aG _))) (bu (bZ (u6 (NV T KX) hr T.inj (aE (sv 0) (aE (aB (ak (eV (aa (ag) (aa (ag) (aa (ag) (aa (ag) (aa (ag) (aa (ag) (aa (ag) (aa (ag) (aa (ag) (aa (ag) (ai)))))))))))) (aA eI (aA gK (mv 4) (ag)) (ag)))) (aE (aB (mv 3)) (aE (aB (ag)) (bC)))))))) (c9)) (bb (d9 (dw (aL (bt (bh hr)) (mv 6) (ag) (aG _))) (bu (bZ (u6 (NV T KX) hr T.inj (aE (sv 0) (aE (aB (ag)) (aE (aB (mv 3)) (aE (aB (ag)) (bC)))))))) (c9)) (bb (eL (i:=8) nd rfl (Or.inl rfl) (mQ (XZ T KX) hr T.inj (aE (aB (mv 1)) (aE (gY (sv 2) (aB (ag))) (aE (aB (mv 6)) (aE (aB (mv 3)) (aE (aB (mv 7)) (bC)))))))) (bb (eL (i:=9) nd rfl (Or.inl rfl) (aB (kb Kf (by rfl) T.Et boot_list (aa (mv 3) (ai))))) (bb (eL (i:=10) nd rfl (Or.inl rfl) (u6 (Rv T KX) hr T.inj (aE (sv 0) (aE (aB (mv 6)) (aE (aB (mv 9)) (aE (aB (mv 7)) (bC))))))) (bb (mP (sv 2) (aB (ag)) (Di EG (gY (sv 2) (aB (ag))) (aB (ak (mv 8) (ag))))) (bb (d9 (dw ((oI (aL iK (mv 6) (ag) (aG _)) (mE (ik (bX (mc (Q5 T) hr T.inj (aa (mv 10) (ai))))))).mt)) (bu (bZ (aB (i7)))) (c9)) (bu (bZ (aB (gR (dh (bt (bh hr)) (mv 10) (ak (mv 8) (ag)) (aG _)) (gn (dh (bt (bh hr)) (mv 9) (mv 3) (aG _)))))))))))))))))))
end
theorem fin{K:PySem.W.Frag}{mg:Str->Option Value}{cl:Nat->Addr}{fa:Addr} (CY:mg "law"=some (.ref fa)) (T:Tx K mg cl):∃ fd:FuncData,(∀(s:Shared)(v:Value),BindsTo s fd ⟨[v],[]⟩ [("_law_script",v)])/\∀ base:Heap,K.In base->base.Ns mainGlobals mg->fO P w K mg base (jl cl P w) 18 fa fd ["_law_script"] (spS K cl 1 q_law_v92) :=
  Sb (N:=["_law_script","_law_wide_here","_law_width","_law_way","_law_odd","_law_slates","_law_states","_law_words","_law_cell","_law_mixed","_law_at","_law_k"]) T.TK CY rfl (fun _ _ _ _ _ _ _ _=>.of_eq rfl) fun base KX f aU A outer s H E hr nd=>bb (eL (i:=1) nd rfl (Or.inl rfl) (aB (mc (Xp T) hr T.inj (aa (mc (Q4 T) hr T.inj (aa (mv 0) (aa (ag) (ai)))) (ai))))) (bb (eL (i:=2) nd rfl (Or.inl rfl) (aB (mc (Ra T) hr T.inj (aa (ak (mv 1) (ag)) (aa (ak (mv 1) (ag)) (ai)))))) (bb (eL (i:=3) nd rfl (Or.inl rfl) (aB (ak (eV (aa (aR) (aa (aR) (aa (aR) (aa (aR) (aa (aR) (ai))))))) (aA eI (mc (Q4 T) hr T.inj (aa (mv 0) (aa (ag) (ai)))) (ag))))) (bb (w8 (i:=4) dA rfl nd rfl (Or.inl rfl) (ke (eV (aa (aA cM (mv 3) (aR)) (aa (ka) (aa (E7 E9 IP (mv 3)) (aa (aR) (ai))))))) (bu (d9 (w6 (kq (u6 (XC T) hr T.inj (aE (aB (mv 2)) (aE (aB (mv 4)) (bC)))))) (bu (bZ (aB (i7)))) (c9)))) (bb (eL (i:=5) nd rfl (Or.inl rfl) (rY (aE (Lj (NO T).1 hr T.inj (aE (aB (mv 2)) (aE (aB (mv 3)) (bC)))) (aE (Lj (NO T).2 hr T.inj (aE (aB (mv 2)) (bC))) (bC))))) (bb (eL (i:=6) nd rfl (Or.inl rfl) (rY (aE (rY (aE (aB (mv 3)) (aE (aB (ag)) (bC)))) (aE (rY (aE (aB (aR)) (aE (aB (ag)) (bC)))) (bC))))) (bb (eL (i:=7) nd rfl (Or.inl rfl) (aB (eV (aa (ag) (aa (ag) (aa (ag) (ai))))))) (bb (w8 (i:=8) dA rfl nd rfl (Or.inl rfl) (ke (oM (mv 0) (kN (ag)) (kN (ag)))) (bb (eL (i:=7) nd rfl (Or.inl rfl) (aB (eV (aa (ak (mv 7) (ag)) (aa (ak (mv 7) (ag)) (aa (mc (Xq T) hr T.inj (aa (mv 1) (aa (mv 8) (ai)))) (ai))))))) (bb (eL (i:=9) nd rfl (Or.inl rfl) (aB (aA eI (aA i8 (mv 8) (ag)) (aA cM (aA Gy (ag) (ag)) (ag))))) (bb (eL (i:=10) nd rfl (Or.inl rfl) (aB (aA eI (mv 9) (ag)))) (bb (d9 (w6 (kq (u6 (X0 T KX) hr T.inj (aE (gY (sv 5) (aB (mv 10))) (aE (aB (mv 2)) (aE (gY (sv 6) (aB (mv 10))) (aE (aB (mv 7)) (aE (aB (aA gK (mv 9) (ag))) (bC))))))))) (bu (bZ (aB (i7)))) (c9)) (bu (w8 (i:=11) dA rfl nd rfl (Or.inl rfl) (EZ (by rfl) T.JG (aa (ag) (ai))) (bu (d9 (w6 (kq (u6 (Xu T) hr T.inj (aE (gY (sv 5) (aB (mv 11))) (aE (gY (gY (sv 6) (aB (mv 11))) (aB (ag))) (aE (gY (gY (sv 6) (aB (mv 11))) (aB (ag))) (bC))))))) (bu (bZ (aB (i7)))) (c9)))))))))) (bu (bZ (aB (i7)))))))))))
end K91
namespace PySem.W.Fast
local macro_rules|`(command|#check[$l,*])=>do return Lean.mkNullNode (←l.getElems.mapM fun x=>`(command|def $(Lean.mkIdent (.mkSimple s!"tw{x.raw.isNatLit?.get!}")):ident:=Nat))
#check[9554705184336180656,8176070222536273419,1135568158449783862,16049100478346063614,10180860584175104855,11501262274899078817,17317622676249560124,7152592838022513962,17913624883833863499,5254633871067245751,15964703567086643565,4133081513821671607,432644112940903133,7960895206065544990,1234460656476701901,4657296614732841680,14329171018292325390,17543255620339280036,14660231273148433369,256023141328897667,12296737933882369677,13708596829861892956,14225630087105953111,4476109427900586809,4208187188339629714,13802029732786442841,1660718336731384154,9401195307531977500,4165713386879421284,15811215222168856131,11415793192091957020,13561547000420092734,12190198391869286053,8496358717287695647,7296825554168975414,17949669331405945898,2199502120951724640,10366737405042817109,1517727894120494754,16437064752711076588,1908865867909834314,2430710397022097186,5994629650561671244,10493663446036776916,15023660941931209110,2258395500922994244,10334728734061798849,10085508822274738438,10544499741186455220,6221969775579252066,5590654934201311640,11805332793833073179,13814255299552657708,10136646073721736864,12316778723783797997,4769795602743647547,1052223106802324950,7224152004731181343,14933343812428374781,7842112977104494973,2471412050975802093,10760327327086776453,7965451050335757174,3229095625667870624,10068423300777866805,10505729737993823100,6706151647448272742,9099213714945133066,10141172635178889195,17953648079706688937,9288691302352919466,11092772975614731480,3618613919115699429,16372790750360392674,8397498049885265202,307745432088450822,5691123235415816329,15740848468137075696,6409921946579683150,14136733815304514243,1693339093074109818,11362111352312257131,12641827462142087603,14583880444714373805,17752994202140154067,7754161779020284254,14022727097932329405,16544848825818940131,16956583873853513924,9393300571484865272,1288647090335669419,3881218463316162649,2709558674877523942,2186808457688977168,3927811163128856995,3509797644683241606,204161625143081003,8449212778231841144,7698826949356113972,2970866297939853764,9530517371325400579,3417530680309197393,11933801450495220878,11130967712223386673,16451067909995844617,13320938494102947590,3525897246252144174,9763523044076048478,1316465328062403050,11676554491760679294,3099191672802842923,3025977263105670171,15488554144464136062,8807741639745421923,14703561543904626724,230094989503804216,9099994182042112627,5597461589835566543,228703793312582632,7782711062211891635,2975316468847828398,2037010259189872762,8241202526903502829,3637288222768123560,2878379070389428495,5476218741382459484,10404282894393466715,11343056640751462245,9190312691811974527,4797171631712917545,508222802119971764,8576779569389123021,16232512062612772112,5645150901517900373,13924653568592119953,16831941932666522333,1667878267413853671,15502835471816848646,1736433867482500213,11100123885896958231,706188614738883572,1622599054430825424,8006026428629218260,1965087311956408007,14297338316399775479,13579711404921318538,8067385167984434252,6013667578522513207,478752552145443290,18342825100947552365,3741386620109857441,9908694717896305784,2583857352505377016,4100195425841377381,10220021761646445526,15722018824303445105,5150938640826395885,2480967225551789758,16496439679783922261,10679238871163766254,17770289077276523863,5036470123532780499,8331068880305825879,3580327013793861377,112752952068609529,8931165611430158616,6552448549976090448,5554774792189865432,3266453268222463877,17316700650248250386,16317655930289543811,11746988002488535766,1635181396800561919,3911189229751046553,15046938694304645037,2622613652879822228,3353902726170064716,800282724897151397,14530967078272736859,3013427432778225357,7956176186193272425,1356497600357775580,1843055377767500035,6429516184970606012,669040137290740418,7081866269145851180,1651803031935886135,10606289941465247377,16699010901519134313,17197387722560936870,204801495997750022,1308660959833748248,6608797766835300114,6746681276545464465,14959564463290852464,1027534170594871601,10245536255033593016,9038968576403672103,16182842749397303115,1833729418875110187,5731490936503144628,3766340234624776202,12604430166721779945,2555295236935229049,9318615311921421826,8924224582939283370,5924357724743760666,10148456124668147188,7458820446844630219,16366202499310672540,8556343401838418528,9053521444823227402,18409512165171178688,12484552641008466168,8089583576056247342,16963613890267544171,5724611328992531421,10422307821414412055,3952223061178699723,5163177771419076164,7967076192647491448,6217598442173197803,4542857965490619168,9796540332149799980,3869864958267777148,15186017439493548875,17465688283183135696,16724692906717344265,11486262752929171260,17937862476883886890,10618414652893874178,1153344984990696534,279425822019665612,17747217145469404186,9072449612083901929,11861382443813415002,13619442221278292569,15121497088951561579,16144275674462651137,14054506389906393437,9899649577225519034,5978721503341945958,3718660661292349623,12455175459186839549,5808940604357936722,8765472508321583709,8866022857278821625,12976942340862178935,5015402476990624226,13969305061965038358,540907049779518088,4194021502019306943,14900550800040567765,5681231244609447738,13436587960302399787,5909668643035185953,6153322578226811253,6769000424298713076,4928673852712751564,9768686347128325810,3810602037168056732,6691808616746138289,4749953348809944262,11518374828889477687,15455979570186654256,8719513605499970728,11082428868285985726,5701747655038177802,14301339404151691491,17711284419468519115,3806012239542436811,11086023895019695377,5509625415877546773,5601178312908408277,5786275966992407851,11106781306980912511,15808317236745767941,15384970241681335414,17958216988321296984,16419165814018199946,6685210130607529730,3498546781800233826,13827980534966429629,869198644635159730,15428586409299094141,3761622050219803585,9300678248043307762,2073542191358933684,11215153464420366451,6004737021789216064,1608740146357133478,2050007158036548407,4011552840612835577,3607874214872750530,6137352116061367992,15810117511366667575,7412503198238835417,650805500148252447,287857382798486518,4901657679534726582,13483038211984326011,12193048534331171722,9027548142442186377,175597533147175208,11255977275769224701,7732200515576534586,361827669474822994,9004009599850400951,6876338595073986921,12507963239806737618,2908809065009993746,16236497491654187325,6707450310419293744,6489018770683396465,10050975069263930617,5528263009458037795,5187082443601423899,5369615946874843898,7727904502762241003,16439490632622118016,8532958966561369490,4846777783742201767,14082603929714323733,715107938709773250,3110476621800463726,16134702249666535584,10604925651337955405,7723698615695298235,3863890213323788440,15791009332191632307,12114004990423374453,3390248542947006410,15931909308620157194,6953677709278684547,10381503047113869154,9703664310103610300,16190215487827315479,572035692865604233,5201829399331735772,11718376788817918826,5706850396041954463,14276483708657746273,3635661742729874709,113995433741858510,3287352418620426142,10178490323085954331,9099602737431954695,6974426883545415327,7561404167677445965,7790478738672654136,13255282177650945853,5916355617872103774,14185894264746883311,2138966833282187932,2983226401189785794,636185802796842167,8296028868802151621,4098016737588146685,10454831717338945487,6338651734050269554,16492923990928836854,5886050887601026644,13421530204071963268,9130000630217360201,7625747747074678099,13266307240258573837,7793176444263712983,9883168065981015446,1625141314201031827,3463659302503128331,13406209380243002428,8498735249215876152,3485928624852133361,8114625552495660996,5731424754818961619,13302392774728974773,6203324778940082443,5492520211865795155,12594812195797256598,16338929645345158746,6230553468453102030,5130204503754765643,14512975771014875603,15373663346529947587,5201057546954299579,17028353161333025332,4203495969256507808,13909822859707353355,1839844401508130990,3854507917412395705,16393968761866877941,18369954454183816886,8616125250249806462,2806366267981992516,18023731428538416676,7812292574657501476,10747482665522618109,6804662749215226827,2936595284362145319,8907197717484894863,1823467402388499275,13717054365106395962,5146605629480210735,12444810972769304649,15330932609559945238,5067950423011044704,3322768637383207904,8287869605731123412,1925932481862541682,12284686206601029266,3913434659851484356,8107502472240990861,9669121550539401417,9520726799892539835,13276847231881948612,3692672455964874056,12068312692610503132,109443201501229464,16605272038850039095,7703394958552611030,1744143218226005060,17830712248466278331,15572053210334446810,7526236451368131126,16376785202933687023,6347930601149602709,15122827311627710910,5483983215353006267,16203415708562373016,4280804170484809517,6326508054323380656,2807612782242222533,9719162448016039137,6010204238129433446,3652746473390457062,7400208810062845446,6500150479002013822,4575082501197787806,16554428782477114651,16783815206039645066,13685810913023676833,16122087188655607883,11498934537226281539,10779118374199965832,8177446083462040239,6417233851394448069,5253726305775370684,14665556529549078406,2005486695767515676,1025205167807518059,14235049164951496837,5112042574786802216,14300272904023676458,11496699940659797667,415125891224926482,5558384028100344697,6152695072252376598,18000867433966194546,6698107765009358742,17691840745498492774,7256515884530172724,7123093671897502048,18381206198083482618,3873358468757906356,9127709004657170342,447928465885579176,12412897215863810051,13459482767084867478,12719387897928435098,16581469024465094657,12233511654415817352,5059515272147434523,18388944620972688950,3551417726760246611,6395017355901213170,635245489529753794,3967593282837320750,677344365986756224,2294421729211412264,6558270432599491327,1485686770054783414,8961564495392709314,13143560832099441765,9765606868453350093,3747774165810528983,13508387835545713043,17954459115621350958,8701189861220317691,13846543176591128675,11920468261809260840,854683412073272108,11121632302701158644,9550609393613801269,14951810022292784338,7207833177570161788,3086658574546038495,1310626306691554597,10793223206930752692,14460565061463852130,8823475077170450637,11038562457111293135,13120612310618511325,1613153139058751875,933124412393117662,15557487837750277367,7289876052900194739,10005746183892966121,3854395661119562338,4739296109040120109,9434158475782513725,10622990871504448516,12254202076662183373,16671729172397132993,5999787026350726519,570568579971739264,14655190825209122684,8352124766383411657,11981307906897181223,5664317071183964035,3602984225746145347,9354831766607729998,10425850621064717128,8307553502912172546,18252608190382134254,2651897861940103360,499202826107860022,2144514385127641920,11005867121836394796,7352821825079687731,15982783892550391914,1290522574569027175,16300902521741978825,6789157021239406226,15964271788530137148,10438517498007697289,9341926810986289061,18068935183581038824,6561047034763010058,10464699467516181743,9849981127803502145,11466116111888548691,3002497417211871807,16702497372895264787,2812685816902468132,10953698264572368558,2402918036153340640,14109035513045831588,4033063550686646519,5651558085076087429,4944033473566311168,5856513202034156129,9024592778890534854,8816862186345092873,5649464606189164726,2065428965365501581,7891262445289384464,2888565836827142644,12703282145011703596,11083852823324365614,14144133530708986735,11765868194441852889,1297840538574249083,2805675181633582249,1354366364703553864,4826387618174415459,15198544959942429614,17889661346705118294,14900868977842425250,7884208451480013564,422537987193570404,8102127017224017900,1982418955664571365,17484835669898474305,18282800293819333900,3018002146447726517,15402336735118575629,2573209013621588619,7433711156747529685,7930247531811286983,6329076252422513807,1192467666950593475,16667215663723161064,377353861277661704,6672840847513369151,1892210873152051023,7449694625323123065,3545400663154709366,10699847636418861041,5719952261372865756,14858917950168878626,9739492580868880445,10707453214200326226,10623959325171088193,17475905832682284909,12175618094551810584,6064765337309588036,243432545369353376,196266553558745540,9859402841146360246,17138971385628338969,5749103753540025158,14521498192854435587,6859761529055053639,1198551654016488660,18018105360707231804,5039600736898802774,8654713164810554558,2222537583161567987,3832281841550403068,17164857685638716830,10122122638344700774,18234062518413896911,16133051294390207528,17093444794863918148,11858327121904136386,17298755219366190614,513037157260577997,2168837071030399415,12862968739068883048,924890688681410109,2684639320673425707,11661945836484166318,14571663894621318057,595871529570607165,11797707342993168448,10096098575513787349,4531507847980905901,50543123227523039,7243079020575362262,17188373967868034388,16315705709965159871,14879810008086321061,16897540841164193745,4868545458490556031,9096284929322046650,1581960977651205675,14754201485919797766,8517614922579829510,16257336771176275367,7301418017211836124,4726212720971836432,13856750746772657275,10044809682316268732,10284090883137961488,10712472214497764388,11079328164386074820,17775372982137758025,9965367797371409489,9888990000410327507,18215630747480215488,1573921992537122060,16823245202637959138,17790433960691133378,16180419361927513521,13693178950089783684,4508005960042641448,4159196626192845647,7647068945325150577,3187390822745774687,10323659735708968810,2209746539701124007,29961720216337767,13321763962383084383,10477558725066420112,15264960515285747213,9072854702159097544,18394039175661341796,18312849302239747159,18118580048877952541,12860426503086085958,7706993746409375551,12779088320123419067,2640809024005675494,9971531337316323221,14825604051401694848,1123583252175172702,4608191705488000587,3584427876259072756,2943741970958392675,3297729699205909880,8371461512723576597,14012787384417518079,1079454467375772512,17876444102605753087,542173139270768719,1266254200513628266,14559410230721872507,15670192542776383450,15977579702373499014,16712609938832118194,14967988315330609224,17061662589984109762,2538381356682223003,17592704545110526650,2150481087128674625,8564541777718989950,13185348788008729803,18099145286049937588,8246718070424047220,9778911232556511782,3909689087579804110,4298882173255049600,5959485056595403988,18086529629062403673,334759651334643330,2003918147546970515,4322664033090959955,2575518532781649625,13541317090274660698,8611649493669287757,13131309852418174794,3338827315904884300,15829181492271061721,9696627660345123201,12566702114711376508,2972091444207944293,17638154018574397281,11605905700099245960,10169607798911107620,17153943948062422283,3766723819275866523,14867218944782615115,12036401823605786756,12135035637696442327,9151773231398041390,8607317590162087890,4162452697467720041,7536637367986898995,9027975766386605985,11247259660085336115,15662390293799705976,4203078936414076602,156418254846046020,16688651906279811935,5847812657113071809,8874789557268738438,5342032160978667723,11975463139844881705,3003164267354703451,14961280408814219705,10138879865657603261,8236974616059444156,15720343995205396566,9941570152053752268,9683856215098851105,2371589924039361857,2596759644268723393,14773179191285607956,15806162734303512419,2976474771802244008,5301431816274706976,9745966058464147239,14450163555633677922,861921711070611800,16091459542509171206,544751749627403037,15450816485478332833,17074592182324781205,16636446477776070512,4973802547460510883,8557615849984471949,16380945449127626452,6490340977083522632,6225618854543276717,636842075983982114,15299028449404073116,11444006661937384345,17653991538797736818,14982238699189936746,4370557944493740256,14535483061280690405,49714699019429129,10383627352690436517,4539624075680146358,16151104617861149653,5649476955122518976,14534643503562022731,8470283030922028553,5212971448196337373,15024106768497531786,18242006951130995826,4226604934223471821,7477968889332499871,18281556258737441354,17646613920894244797,6210484897618973796,16939254778491086871,380504991916978614,129957917703028158,18291496264237156667,18116826527911105782,6379914022594362469,15986970954646754212,17316353689168031232,12539420264408433423,6810752701741762170,14737864535691246073,15237487144642624879,405742307273641501,6293650593939950460,1733811646894481439,7080701920160271228,11562969829143038667,9775668839098698837,15448367048851309384,3832263619234592305,8450843583149154623,10650152494343017874,12792820414620879951,13302798187670277353,15327869561338708188,6208519263370432570,18021879089032497265,5516214333954645963,9211698493304973174,15015650002860149389,4466033299084550240,16167429755890566125,17689083019537866065,17304921512831323629,3249212055650009973,17160301546549927524,6562329883289397652,8641523942781284489,6989960818404684129,402499609394443871,12179513834727791585,11194040530619991214,17796734997793425736,7451913181585159163,1446336825088784001,6444906291066728335,7433480234032788,11446992194301783787,3144226732875348006,9283326370488502663,306099624038427610,7321632186039674027,10462904377576701861,3362480476433877710,17279523516218229189,10489399556185396731,4979355512448637112,12230654026582524567,6004518159247658753,9879139154295111365,10730535295538126271,968458354944129383,1299045784002609968,8761975613425314972,14794885224537760807,11899146037427013206,7193253302123780662,1795307349133804118,17612886628849948821,9018296600269964116,8032989893420002541,15573744852407710984,16551380225403485389,17407624942482972453,2919369559707115307,15389229420603270178,14887865611141616021,16784488151193150263,15772775407564367378,3278103223432534739,10534340247055874787,10469293280830476249,15286044677926854242,12258479238146942637,8956658321768145323,10205354846113934862,12298056860577176819,3841232596121029612,18157133977415088569,3929803029629300735,7932729438022032274,1111639322148379554,17714446892910255665,18050053326342343271,6600691601949945867,320234369393000726,10534748274741301341,6407657170466004363,12846879824120038948,7258959420042539435,14758738574441361168,12196877652412554421,1745095121766297687,1077679712348755187,15366467572487154882,12211912033295633160,13930633561204161214,10728946517864127899,1347448335193695357,4521548758435712398,6378856474908767400,8677944401501040916,4882157214625910886,7783155403275141164,12840288790217831516,11309355720151618686,12842251744430350889,17649725749991966155,6356685312869400768,10379242108647699642,185965966346144549,13294184033673686852,4234321413388910120,7307535406371435356,7099913484284342697,9872173554066136061,15668853801852046265,14614034714627061211,15757976731150524993,9990007904636758122,15258386589443097466,11863561498026693603,15668044863079460876,10201537679955452262,8650274642346647989,6365195797143331673,8027494356259594881,4779095507825359969,11015562377067927177,9299120262203936619,14530900414865662390,14288570135012643480,15487580257120741012,2229068858387378309,11157654027827787154,5931811973752025739,6935367272979992724,6957609657691455384,10799395528935580429,9368983911963075498,15738514438462614316,10143884234907765975,12225446851485437250,1690256190538121259,12237722196926484858,15162926002968150682,3624366793174653558,4232434594516792434,2628295906234049187,1678263822798390551,711067647305803320,8894905393590914893,839489708498769949,13339149619873451427,17250685615821069770,15778073962590754540,14930841190910601800,16210021340842623154,12963370532481565439,8048923466515183956,11416582024028377294,6198018747439481764,12192438301422849798,7423380953908821970,7108292275381738237,17033251396181009032,3639289063156731013,669585813803226896,17174470586581789219,287682220175708605,7742874823951811244,4868929086572950765,15467144035072061428,11975297810174968950,14145785693648525646,18217633562796629071,4008482158441744574,1449437795986015169,15397796772204107415,12739887391208132076,8142518684876742546,1715925641509847817,13567685492380610723,7653460743542710015,11245984632336058235,1913993095689713188,13531015626583272595,10441733711629696920,13781225757534868121,6506878708870780661,17458265090398521985,15334081235239029521,17476415730879223286,17861100839542413075,8130222827516974146,5519676647537911616,6024729855487723478,5293612739186203236,4624521789717524567,9078118298405722993,7343465977695343501,17885112718833292872,4963187341785802376,2924372760544794836,12126607610796899957,12563662966996974406,4847928007151686592,15117110639249755497,10810902139467482219,3073098806837492853,15585171105615084492,895090970918860673,16713490748065584379,10780269009607491433,13799151761219603231,5679498484730688197,2957916676359002771,17716023540503877644,8508588020168428369,13353548569723295323,8017811226043432597,16428904984196456937,11708977541733068667,14461385372426059043,2824966362070476574,14272589427072006975,11511582804179238519,3476438125144195838,2348279535936976239,7475607096379049158,5778523968897448834,16051272889155730490,3323390365992931930,8434841261641791461,17171752477838764735,10207056842533992024,800328010859946459,3771898127240976404,11937464947425525182,6568964570989772042,3952589230797017230,4537308121513583710,6988296031659289007,8658008124162574075,8821162024562480855,4311791147186667105,4394315681903406797,4017493145833056236,5827985330470009008,12372080225734493034,272929188640236551,12224393761143487201,224616817785896424,18274294318654501748,3489403268209966392,14761206164375685175,7924854249988076980,3522879008749186845,7520480570935908793,8240712486057811995,2319115016900572178,521951037584754866]
end PySem.W.Fast
open PySem PySem.W PyProof.Rows Mi
set_option maxRecDepth 100000 in
set_option maxHeartbeats 0 in
theorem PySem.Challenge.cw_floatforge_k91_slate_holds : PySem.Challenge.rw_floatforge_k91_slate.Holds := by
  w_on;o_law;k_head;(case hw=>w_witness2)
  k_fill
  refine Mi.law_ofS (l:=PySem.Challenge.rw_floatforge_k91_slate) (k:=18) (x:="_law_script") (G:=Cm.q_law_v92) (names:=K91.anames) rfl rfl ⟨rfl,by decide,by decide⟩ (fun w h Y=>PySem.W.kIn_of Y) ?F K91.holds
  case F =>
    intro w mg fa h KX G hmg
    refine' K91.fin hmg ⟨cls_inj2 ?hcls,cls_of2 KX G (by decide) (fun p h=>List.mem_append_left _ (List.mem_append_left _ h)) ?hcls,ways_of KX G (by decide) (fun p h=>List.mem_append_left _ (List.mem_append_right _ h)) ?hways,mg_none_of KX G ?z_abs,mg_none_of KX G ?z_all,mg_none_of KX G ?z_any,mg_none_of KX G ?z_bool,mg_none_of KX G ?z_int,mg_none_of KX G ?z_isinstance,mg_none_of KX G ?z_len,mg_none_of KX G ?z_list,mg_none_of KX G ?z_max,mg_none_of KX G ?z_min,mg_none_of KX G ?z_range,mg_none_of KX G ?z_str,mg_none_of KX G ?z_tuple,int_of KX G ?y_WRONG,int_of KX G ?y_POLE,int_of KX G ?y_GREAT,int_of KX G ?y_SMALL,int_of KX G ?y_NEAR,int_of KX G ?y_LEAST_E,int_of KX G ?y_MOST_E,int_of KX G ?y_LEAST_F,int_of KX G ?y_MOST_F,int_of KX G ?y_MOST_SIGNS,int_of KX G ?y_MOST_POWER_FIGURES,obj_of KX G (by decide) (at_mem 12 rfl) ?ho_30,noattr_of (by decide) (at_mem 12 rfl) ?hn_30_raised,noattr_of (by decide) (at_mem 12 rfl) ?hn_30_way,noattr_of (by decide) (at_mem 12 rfl) ?hn_30_width,alias_of KX G ?ya_compared_order ?yb_compared_order,alias_of KX G ?ya_fused_sums ?yb_fused_sums,alias_of KX G ?ya_left_of_quotients ?yb_left_of_quotients,alias_of KX G ?ya_minus_sums ?yb_minus_sums,alias_of KX G ?ya_over_quotients ?yb_over_quotients,alias_of KX G ?ya_plus_sums ?yb_plus_sums,alias_of KX G ?ya_read_texts ?yb_read_texts,alias_of KX G ?ya_root_roots ?yb_root_roots,alias_of KX G ?ya_times_sums ?yb_times_sums,alias_of KX G ?ya_total_sums ?yb_total_sums,alias_of KX G ?ya_whole_wholes ?yb_whole_wholes,kc_of KX G ?y_NOUGHT ?k_NOUGHT,kc_of KX G ?y_LOUD_TERM ?k_LOUD_TERM,kc_of KX G ?y_STILL_TERM ?k_STILL_TERM,fun X=>nodig_of X ?zdo ?zdn,meth_mk (x:="Even") (by decide) (at_mem 7 rfl) ?a56_0 ?b56_0 ?i56_0 ?l56_0 ?d56_0 ?k56_0,meth_mk (x:="Away") (by decide) (at_mem 8 rfl) ?a57_0 ?b57_0 ?i57_0 ?l57_0 ?d57_0 ?k57_0,meth_mk (x:="Inward") (by decide) (at_mem 9 rfl) ?a58_0 ?b58_0 ?i58_0 ?l58_0 ?d58_0 ?k58_0,meth_mk (x:="Upward") (by decide) (at_mem 10 rfl) ?a59_0 ?b59_0 ?i59_0 ?l59_0 ?d59_0 ?k59_0,meth_mk (x:="Downward") (by decide) (at_mem 11 rfl) ?a60_0 ?b60_0 ?i60_0 ?l60_0 ?d60_0 ?k60_0,meth_mk (x:="Slate") (by decide) (at_mem 12 rfl) ?a122_1 ?b122_1 ?i122_1 ?l122_1 ?d122_1 ?k122_1,meth_mk (x:="Slate") (by decide) (at_mem 12 rfl) ?a122_14 ?b122_14 ?i122_14 ?l122_14 ?d122_14 ?k122_14,def_mk KX G ?a17 ?l17 ?c17 ?k17,def_mk KX G ?a25 ?l25 ?c25 ?k25,def_mk KX G ?a33 ?l33 ?c33 ?k33,def_mk KX G ?a34 ?l34 ?c34 ?k34,def_mk KX G ?a44 ?l44 ?c44 ?k44,def_mk KX G ?a45 ?l45 ?c45 ?k45,def_mk KX G ?a51 ?l51 ?c51 ?k51,def_mk KX G ?a61 ?l61 ?c61 ?k61,def_mk KX G ?a73 ?l73 ?c73 ?k73,def_mk KX G ?a108 ?l108 ?c108 ?k108,def_mk KX G ?a110 ?l110 ?c110 ?k110,def_mk KX G ?a124 ?l124 ?c124 ?k124,def_mk KX G ?a125 ?l125 ?c125 ?k125,def_mk KX G ?a126 ?l126 ?c126 ?k126,def_mk KX G ?a127 ?l127 ?c127 ?k127,meth_mk (x:="Slate") (by decide) (at_mem 12 rfl) ?a122_13 ?b122_13 ?i122_13 ?l122_13 ?d122_13 ?k122_13,def_mk KX G ?a18 ?l18 ?c18 ?k18,def_mk KX G ?a46 ?l46 ?c46 ?k46,def_mk KX G ?a47 ?l47 ?c47 ?k47,def_mk KX G ?a52 ?l52 ?c52 ?k52,def_mk KX G ?a53 ?l53 ?c53 ?k53,def_mk KX G ?a65 ?l65 ?c65 ?k65,def_mk KX G ?a79 ?l79 ?c79 ?k79,def_mk KX G ?a88 ?l88 ?c88 ?k88,def_mk KX G ?a109 ?l109 ?c109 ?k109,def_mk KX G ?a132 ?l132 ?c132 ?k132,def_mk KX G ?a19 ?l19 ?c19 ?k19,def_mk KX G ?a27 ?l27 ?c27 ?k27,def_mk KX G ?a78 ?l78 ?c78 ?k78,def_mk KX G ?a86 ?l86 ?c86 ?k86,def_mk KX G ?a92 ?l92 ?c92 ?k92,def_mk KX G ?a107 ?l107 ?c107 ?k107,def_mk KX G ?a119 ?l119 ?c119 ?k119,def_mk KX G ?a20 ?l20 ?c20 ?k20,meth_mkD (x:="Slate") (by decide) (at_mem 12 rfl) ?a122_0 ?b122_0 ?i122_0 ?l122_0 ?d122_0 ?k122_0 ?e122_0,def_mk KX G ?a21 ?l21 ?c21 ?k21,def_mk KX G ?a22 ?l22 ?c22 ?k22,def_mk KX G ?a29 ?l29 ?c29 ?k29,def_mk KX G ?a23 ?l23 ?c23 ?k23,def_mk KX G ?a26 ?l26 ?c26 ?k26,def_mk KX G ?a31 ?l31 ?c31 ?k31,def_mk KX G ?a32 ?l32 ?c32 ?k32,def_mk KX G ?a67 ?l67 ?c67 ?k67,def_mk KX G ?a28 ?l28 ?c28 ?k28,def_mk KX G ?a35 ?l35 ?c35 ?k35,def_mk KX G ?a36 ?l36 ?c36 ?k36,def_mk KX G ?a64 ?l64 ?c64 ?k64,def_mk KX G ?a76 ?l76 ?c76 ?k76,def_mk KX G ?a131 ?l131 ?c131 ?k131,def_mk KX G ?a30 ?l30 ?c30 ?k30,def_mk KX G ?a37 ?l37 ?c37 ?k37,def_mk KX G ?a38 ?l38 ?c38 ?k38,def_mk KX G ?a49 ?l49 ?c49 ?k49,def_mk KX G ?a40 ?l40 ?c40 ?k40,def_mk KX G ?a48 ?l48 ?c48 ?k48,def_mk KX G ?a66 ?l66 ?c66 ?k66,def_mk KX G ?a77 ?l77 ?c77 ?k77,def_mk KX G ?a114 ?l114 ?c114 ?k114,def_mk KX G ?a41 ?l41 ?c41 ?k41,def_mkD KX G ?a63 ?l63 ?c63 ?k63 ?d63,def_mk KX G ?a72 ?l72 ?c72 ?k72,def_mk KX G ?a91 ?l91 ?c91 ?k91,meth_mk (x:="Slate") (by decide) (at_mem 12 rfl) ?a122_12 ?b122_12 ?i122_12 ?l122_12 ?d122_12 ?k122_12,def_mk KX G ?a74 ?l74 ?c74 ?k74,def_mkD KX G ?a75 ?l75 ?c75 ?k75 ?d75,def_mk KX G ?a83 ?l83 ?c83 ?k83,def_mk KX G ?a84 ?l84 ?c84 ?k84,def_mkD KX G ?a89 ?l89 ?c89 ?k89 ?d89,def_mk KX G ?a115 ?l115 ?c115 ?k115,def_mkD KX G ?a120 ?l120 ?c120 ?k120 ?d120,meth_mk (x:="Slate") (by decide) (at_mem 12 rfl) ?a122_6 ?b122_6 ?i122_6 ?l122_6 ?d122_6 ?k122_6,meth_mk (x:="Slate") (by decide) (at_mem 12 rfl) ?a122_7 ?b122_7 ?i122_7 ?l122_7 ?d122_7 ?k122_7,def_mkD KX G ?a81 ?l81 ?c81 ?k81 ?d81,def_mkD KX G ?a94 ?l94 ?c94 ?k94 ?d94,def_mkD KX G ?a98 ?l98 ?c98 ?k98 ?d98,def_mkD KX G ?a100 ?l100 ?c100 ?k100 ?d100,def_mkD KX G ?a102 ?l102 ?c102 ?k102 ?d102,def_mkD KX G ?a112 ?l112 ?c112 ?k112 ?d112,def_mkD KX G ?a117 ?l117 ?c117 ?k117 ?d117,meth_mk (x:="Slate") (by decide) (at_mem 12 rfl) ?a122_2 ?b122_2 ?i122_2 ?l122_2 ?d122_2 ?k122_2,meth_mk (x:="Slate") (by decide) (at_mem 12 rfl) ?a122_4 ?b122_4 ?i122_4 ?l122_4 ?d122_4 ?k122_4,meth_mk (x:="Slate") (by decide) (at_mem 12 rfl) ?a122_5 ?b122_5 ?i122_5 ?l122_5 ?d122_5 ?k122_5,meth_mk (x:="Slate") (by decide) (at_mem 12 rfl) ?a122_8 ?b122_8 ?i122_8 ?l122_8 ?d122_8 ?k122_8,meth_mk (x:="Slate") (by decide) (at_mem 12 rfl) ?a122_9 ?b122_9 ?i122_9 ?l122_9 ?d122_9 ?k122_9,meth_mk (x:="Slate") (by decide) (at_mem 12 rfl) ?a122_10 ?b122_10 ?i122_10 ?l122_10 ?d122_10 ?k122_10,meth_mk (x:="Slate") (by decide) (at_mem 12 rfl) ?a122_11 ?b122_11 ?i122_11 ?l122_11 ?d122_11 ?k122_11,def_mkD KX G ?a96 ?l96 ?c96 ?k96 ?d96,meth_mk (x:="Slate") (by decide) (at_mem 12 rfl) ?a122_3 ?b122_3 ?i122_3 ?l122_3 ?d122_3 ?k122_3,def_mk KX G ?a128 ?l128 ?c128 ?k128,def_mk KX G ?a129 ?l129 ?c129 ?k129,def_mk KX G ?a130 ?l130 ?c130 ?k130,def_mk KX G ?a133 ?l133 ?c133 ?k133,def_mk KX G ?a134 ?l134 ?c134 ?k134⟩
    (case hcls=>kernel_rfl);(case hways=>kernel_rfl);(case zdo=>kernel_rfl);(case ho_30=>kernel_rfl);(case hn_30_raised=>kernel_rfl);(case hn_30_way=>kernel_rfl);(case hn_30_width=>kernel_rfl)
    (case y_NOUGHT=>k_is);(case k_NOUGHT=>kernel_rfl);(case y_LOUD_TERM=>k_is);(case k_LOUD_TERM=>kernel_rfl);(case y_STILL_TERM=>k_is);(case k_STILL_TERM=>kernel_rfl)
    all_goals try k_is

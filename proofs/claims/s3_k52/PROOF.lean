import PyProof.Rows.All
import Wide.All
import OpenK.AllK
import Wide.FinOn
import Lean
import PyProof.EqAt
import PyProof.EqKinds
import PyProof.TupleCall
import PyProof.NeKinds
import KE.BitLaws
import PyProof.SumWalkG
import PyProof.ConsumeWalk
import PyProof.WalksMore
import KE.KSortedM
import PyProof.Rows.SetFrom
import PyProof.CompUse
import PyProof.ZipIter
import PyProof.SliceList
import KE.KSortTup
import PyProof.DictRoadsH
import PyProof.DictKinds
import KE.KRevSl
import PyProof.NsDelKeeps
import PyProof.ExcBaseAll.ValueError
import PyProof.ExcAttrAll.ValueError
import PySem.Challenge.RW_sharesample_k52_refused_weights_put_righ
set_option bootstrap.genMatcherCode false
set_option genSizeOf false
set_option genSizeOfSpec false
set_option Elab.async false
set_option linter.all false
set_option maxRecDepth 100000
local macro_rules | `(tactic| left) => `(tactic| first | assumption | exact Nat.zero_le _ | exact Int.natCast_nonneg _ | exact Int.ofNat_lt.mpr (by assumption) | exact Nat.le_of_lt (by assumption) | exact Nat.le_trans (by assumption) (by assumption) | exact Nat.lt_of_lt_of_le (by assumption) (by assumption) | lia | omega)
noncomputable section
abbrev Xd:=@of_decide_eq_true
abbrev Xe:=@Bool.false_ne_true
abbrev Xf:=@PySem.wpAny_bind
abbrev Xg:=@PySem.Heap.lt_size
abbrev Xh:=@PySem.wpAny_pure
abbrev Xi:=@PySem.Heap.get?_push_of_some
abbrev Xj:=@Nat.le_refl
abbrev Xk:=@List.mem_append_right
abbrev Xl:=@Nat.lt_of_lt_of_le
abbrev Xm:=@List.mem_cons_of_mem
abbrev Xn:=@List.mem_cons_self
abbrev Xo:=@Nat.ne_of_lt
abbrev Xp:=@Option.some.inj
abbrev Xq:=@List.getElem?_eq_getElem
abbrev Xr:=@PySem.Heap.get?_push_size
abbrev Xs:=@PySem.wpAny_mono
abbrev Xt:=@List.mem_of_getElem?
abbrev Xu:=@List.mem_append_left
abbrev Xv:=@PySem.wpAny_newObj_type
abbrev Xw:=@Nat.lt_succ_of_lt
abbrev Xx:=@Nat.lt_irrefl
abbrev Xy:=@if_pos
abbrev Xz:=@Nat.le_trans
abbrev XA:=@Nat.pow_le_pow_right
abbrev XB:=@PyProof.Rows.callWith_type1
abbrev XD:=@PyProof.Rows.slot_tuple_getitem
abbrev XE:=@PySem.W.kia_one
abbrev XF:=@PySem.wpAny_truthy_bool
abbrev XG:=@PySem.wpAny_loadPart_at
abbrev XH:=@PySem.mem_of_lookup
abbrev XI:=@congrArg
abbrev XJ:=@Nat.lt_succ_self
abbrev XM:=@PySem.wpAny_passesOwn
abbrev XN:=@PySem.Calls.Name_function_global
abbrev XO:=@PySem.W.mg_of
abbrev XQ:=@if_neg
abbrev XR:=@beq_self_eq_true
abbrev XS:=@Int.mul_fdiv_cancel_left
abbrev XT:=@PySem.wpAny_Call_Name_kw
abbrev XU:=@Int.mul_ne_zero
abbrev XW:=@Nat.mul_le_mul_right
abbrev XX:=@PySem.wpAny_holding
abbrev XY:=@PySem.sizeLine_eq
abbrev XZ:=@List.length_take_le
abbrev X0:=@PySem.wpAny_execs_nil
abbrev X1:=@PySem.SeqAt.EqAt.same
abbrev X3:=@PySem.SeqAt.EqAt.int_str
abbrev X4:=@PySem.SeqAt.EqAt.str_int
abbrev X5:=@Nat.ne_of_gt
abbrev X6:=@PySem.F.args_tuple_add_2
abbrev X7:=@Nat.lt_of_le_of_lt
abbrev X8:=@PySem.Calls.loadGlobal_global
abbrev X9:=@PySem.F.entry_tuple_add
abbrev X_:=@Nat.zero_le
abbrev Ya:=@PySem.F.slot_tuple_add
abbrev Yb:=@PySem.wpAny_field
abbrev Yc:=@PySem.Heap.get?_update_other
abbrev Yd:=@Int.fmod_nonneg_of_pos
abbrev Ye:=@PySem.F.typeOf_object_class
abbrev Yf:=@Eq.symm
abbrev Yg:=@decide_eq_false
abbrev Yh:=@PySem.codeAny_mono
abbrev Yi:=@List.of_mem_zip
abbrev Yj:=@PySem.SeqAt.EqAt.none_bool
abbrev Yk:=@PySem.SeqAt.EqAt.bool_none
abbrev Ym:=@PySem.SeqAt.EqAt.bool_bool
abbrev Yn:=@PySem.call_meets
abbrev Yo:=@PySem.codeAny_builtin
abbrev Yp:=@PySem.codeAny_call_builtin
abbrev Yq:=@PySem.SeqAt.EqAt.none_int
abbrev Yr:=@PySem.SeqAt.EqAt.none_str
abbrev Ys:=@PySem.SeqAt.EqAt.bool_int
abbrev Yt:=@PySem.SeqAt.EqAt.bool_str
abbrev Yu:=@PySem.SeqAt.EqAt.int_none
abbrev Yv:=@PySem.SeqAt.EqAt.int_bool
abbrev Yw:=@PySem.SeqAt.EqAt.str_none
abbrev Yx:=@PySem.SeqAt.EqAt.str_bool
abbrev Yy:=@List.map_congr_left
abbrev Yz:=@Nat.le_succ
abbrev YA:=@PySem.SeqAt.EqAt.int_int
abbrev YB:=@PySem.SeqAt.EqAt.str_str
abbrev YC:=@PySem.Code.quiet_builtin
abbrev YD:=@Int.fmod_lt_of_pos
abbrev YE:=@PySem.wpAny_standAt
abbrev YF:=@Ne.symm
abbrev YG:=@List.getElem_mem
abbrev YH:=@Nat.succ.inj
abbrev YI:=@List.length_map
abbrev cj:=List (List Int)
abbrev ai:=List Int
abbrev aR:=List Nat
abbrev av:=List PySem.Str
abbrev aq:=List PySem.Value
abbrev au:=List PySem.Expr
abbrev bt:=List PySem.Addr
abbrev aO:=List PySem.Stmt
abbrev aK:=List Rat
abbrev bx:=Array PySem.Value
abbrev ak:=PySem.W.Frag
abbrev aF:=PySem.Value->PySem.Shared->Prop
abbrev aj:=List (PySem.Addr×PySem.Obj)
abbrev ag:=PySem.Addr->Prop
abbrev aP:=PySem.Str->Option PySem.Value
abbrev aJ:=PySem.Program
abbrev aQ:=PySem.Around
namespace L2
open PySem PySem.Spec PyProof.Rows
noncomputable abbrev Key:=Sum Int Str
def Dz:Key->Value->Bool
 |.inl k,v=>Value.isInt k v
 |.inr x,v=>Value.isStrOf x v
def Pc(w:World):Key->Int
 |.inl k=>hashInt k
 |.inr x=>hashStr w x
theorem b0:∀{k:Key} {v:Value},Dz k v=true->(∃i t,k=Sum.inl i/\v=Value.int i t)\/(∃x t,k=Sum.inr x/\v=Value.str x t)
 |.inl i,v,h=>by
  obtain⟨t,e⟩:=Value.isInt_shape (k:=i) (v:=v) h;exact .inl ⟨i,t,rfl,e⟩
 |.inr x,v,h=>by
  obtain⟨t,e⟩:=Value.isStrOf_shape (x:=x) (v:=v) h;exact .inr ⟨x,t,rfl,e⟩
theorem FR(a b:Int):decide ((Sum.inl a:Key)=Sum.inl b)=(a==b):=by
 by_cases e:a=b
 ·subst e;simp
 ·have h:¬ (Sum.inl a:Key)=Sum.inl b:=λq=>e (Sum.inl.inj q);rw[decide_eq_false h];exact(beq_eq_false_iff_ne.mpr e).symm
theorem FO(a b:Str):decide ((Sum.inr a:Key)=Sum.inr b)=decide (a=b):=by
 by_cases e:a=b
 ·subst e;simp
 ·have h:¬ (Sum.inr a:Key)=Sum.inr b:=λq=>e (Sum.inr.inj q);rw[decide_eq_false h,decide_eq_false e]
theorem FQ(a:Int)(b:Str):decide ((Sum.inl a:Key)=Sum.inr b)=false:=Yg (λq=>nomatch q)
theorem FP(a:Str)(b:Int):decide ((Sum.inr a:Key)=Sum.inl b)=false:=Yg (λq=>nomatch q)
def uM(prog:aJ)(w:World):PySem.KeyKind prog w Key where
 is:=Dz
 hash:=Pc w
 inj:=λv a b ha hb=>by
  rcases b0 ha with ⟨i,t,rfl,rfl⟩|⟨x,t,rfl,rfl⟩
  ·rcases b0 hb with ⟨j,u,rfl,e⟩|⟨y,u,rfl,e⟩
   ·injection e with e1 _;rw[e1]
   ·exact nomatch e
  ·rcases b0 hb with ⟨j,u,rfl,e⟩|⟨y,u,rfl,e⟩
   ·exact nomatch e
   ·injection e with e1 _;rw[e1]
 byValue:=λk v h=>by
  rcases b0 h with ⟨i,t,rfl,rfl⟩|⟨x,t,rfl,rfl⟩<;>rfl
 pyHash:=λhv h=>by
  rcases b0 hv with ⟨i,t,rfl,rfl⟩|⟨x,t,rfl,rfl⟩
  ·exact wpAny_pyHash_int h
  ·exact wpAny_pyHash_str h
 eqBool:=λhu hv h=>by
  rcases b0 hu with ⟨i,t,rfl,rfl⟩|⟨x,t,rfl,rfl⟩
  ·rcases b0 hv with ⟨j,u,rfl,rfl⟩|⟨y,u,rfl,rfl⟩
   ·rw[FR]at h;exact wpAny_eqBool_int h
   ·rw[FQ]at h;exact X3 i t y u _ _ _ _ h
  ·rcases b0 hv with ⟨j,u,rfl,rfl⟩|⟨y,u,rfl,rfl⟩
   ·rw[FP]at h;exact X4 x t j u _ _ _ _ h
   ·rw[FO]at h;exact wpAny_eqBool_str h
 «strs»:=λk x t v h=>by
  rcases b0 h with ⟨i,u,rfl,e⟩|⟨y,u,rfl,e⟩
  ·exact nomatch e
  ·injection e with e1 _
   subst e1;cases v<;>rfl
end L2
namespace L2
open PySem PySem.Spec PyProof.Rows
inductive V where
 |bB|bl (b:Bool)|int (i:Int)|str (x:Str)|Nc (b:Array UInt8)|Iy (b:UInt64)|ref (a:Addr)|ty (n:String)
 deriving DecidableEq
abbrev ae:=List V
noncomputable def RelV:V->Value->Prop
 |.bB,u=>u=Value.none
 |.bl b,u=>u=Value.bool b
 |.int i,u=>∃t,u=Value.int i t
 |.str x,u=>∃t,u=Value.str x t
 |.Nc b,u=>∃t,u=Value.bytes b t
 |.Iy b,u=>∃t,u=Value.float b t
 |.ref a,u=>u=Value.ref a
 |.ty n,u=>u=Value.type n
abbrev Vals:ae->aq->Prop:=Paired RelV
theorem Vals.length{xs:ae}{us:aq}(r:Vals xs us):xs.length=us.length:=Paired.length r
theorem Vals.get:∀{xs:ae} {us:aq} {i:Nat} {x:V},Vals xs us->xs[i]?=some x->∃u,us[i]?=some u/\RelV x u
 |_,_,_,_,.nil,e=>by simp at e
 |_,_,0,_,.cons r _,e=>by simp at e;subst e;exact⟨_,rfl,r⟩
 |_,_,i+1,x,.cons _ t,e=>by
  obtain⟨u,h1,h2⟩:=Vals.get (i:=i) (x:=x) t (by simpa using e);exact⟨u,by simpa using h1,h2⟩
theorem Vals.set{x:V}{u:Value}(r:RelV x u):∀{xs:ae} {us:aq} (i:Nat),Vals xs us->Vals (xs.set i x) (us.set i u)
 |_,_,_,.nil=>.nil
 |_,_,0,.cons _ t=>.cons r t
 |_,_,i+1,.cons q t=>.cons q (Vals.set r i t)
theorem Vals.append:∀{xs ys:ae} {us ws:aq},Vals xs us->Vals ys ws->Vals (xs++ys) (us++ws)
 |_,_,_,_,.nil,s=>s
 |_,_,_,_,.cons r t,s=>.cons r (Vals.append t s)
theorem Vals.take:∀{xs:ae} {us:aq} (n:Nat),Vals xs us->Vals (xs.take n) (us.take n)
 |_,_,0,_=>.nil
 |_,_,_+1,.nil=>.nil
 |_,_,n+1,.cons r t=>.cons r (Vals.take n t)
theorem Vals.drop:∀{xs:ae} {us:aq} (n:Nat),Vals xs us->Vals (xs.drop n) (us.drop n)
 |_,_,0,r=>r
 |_,_,_+1,.nil=>.nil
 |_,_,n+1,.cons _ t=>Vals.drop n t
def L7:Option V->Option Value->Prop
 |some v,some u=>RelV v u
 |none,none=>True
 |_,_=>False
def KV{κ:Type}:List (κ×V)->List (κ×Value)->Prop:=Paired λ(p:κ×V) (q:κ×Value)=>p.1=q.1/\RelV p.2 q.2
def kV:Key->V
 |.inl i=>.int i
 |.inr x=>.str x
inductive HO where
 |lst (xs:ae)
 |tup (xs:ae)
 |dK (mi:List (Key×V))|dT (mi:List (List Key×V))
 |set (S:Int->Bool) (n:Nat)
 |ins (C dx:Addr) (fs:List (Str×V))
 |own (x:Addr)
 |xd (fs:List (Str×V))
 |met (f x:Addr)
 |kc (lo hi:Int)
 |iE (o:Obj) (u:HO)
 |CN (ps:bx)
 |ext (φ:Heap->Prop)
noncomputable abbrev Hp:=Addr->Option HO
noncomputable def upd(H:Hp)(a:Addr)(o:HO):Hp:=λb=>if b=a then some o else H b
variable {H:Hp}
theorem bh{a:Addr}{o:HO}:upd H a o a=some o:=by unfold upd;rw[if_pos rfl]
theorem aY{a b:Addr}{o:HO}(h:b≠a):upd H a o b=H b:=by unfold upd;rw[if_neg h]
theorem bU{a b:Addr}{o:HO}(h:H a=some o)(h':H b=none):a≠b:=by
 intro e;subst e;rw[h]at h';cases h'
section
variable (P:aJ)(w:World)
def dj(H:Hp)(h:Heap)(a:Addr):HO->Prop
 |.lst xs=>xs.length<=sizeLine/\∃(aN:aq) (n:Nat),Vals xs aN/\h.get? a=some { cls:=.type "list",data:=.seq aN.toArray n }
 |.tup xs=>xs.length<=sizeLine/\∃aN:aq,Vals xs aN/\IsTup h a aN.toArray
 |.dK mi=>mi.length<=sizeLine/\(a==sysModules)=false/\∃vs,KV mi vs/\h.DictOf (uM P w) a vs
 |.dT mi=>mi.length<=sizeLine/\(a==sysModules)=false/\∃xs:List (List Key×Addr×Value),
   Paired (λ(p:List Key×V) (q:List Key×Addr×Value)=>p.1=q.1/\H q.2.1=some (.tup (p.1.map kV))/\RelV p.2 q.2.2) mi xs /\
   ∃o es ep,h.get? a=some o/\o.ExactDict/\o.data=.dict es ep/\es.toList=xs.map (entryOfKey (tupleKind (uM P w)))/\(xs.map (·.1)).Nodup
 |.set S n=>h.SetOf (intKind P w) a S n
 |.ins C dx fs=>H dx=some (.own a)/\fs.length<=1000/\dx≠a/\h.get? a=some (PySem.W.instObj C dx) /\
   ∃mA,h.Ns1 dx mA/\(∀f,L7 (fs.lookup f) (mA f))/\PySem.Within mA (fs.map (·.1))
 |.own _=>∃o,h.get? a=some o
 |.xd fs=>∃mA,h.Ns1 a mA/\∀f,L7 (fs.lookup f) (mA f)
 |.kc lo hi=>∃t u v,h.get? a=some { cls:=.type "range",data:=.fields #[.int lo t,.int hi u,.int 1 v] }
 |.iE o u=>h.get? a=some o/\dj H h a u
 |.CN ps=>h.get? a=some { cls:=.none,data:=.fields ps }
 |.met f x=>h.get? a=some (PySem.W.methodObj (.ref f) (.ref x))
 |.ext φ=>φ h/\(∃o,h.get? a=some o)/\∀h1 h2:Heap,φ h1->(∀o,h1.get? a=some o->h2.get? a=some o)->φ h2
def iI(H:Hp)(h:Heap):Prop:=∀a o,H a=some o->dj P w H h a o
end
section
variable {P:aJ}{w:World}{H H':Hp}{h h':Heap}{a:Addr}{o:HO}
theorem dj.lt(x:dj P w H h a o):a<h.objs.size:=by
 cases o with
 |lst xs=>obtain⟨_,_,_,_,e⟩:=x;exact Xg e
 |tup xs=>obtain⟨_,_,_,p⟩:=x;exact p.lt
 |dK mi=>obtain⟨_,_,_,_,o,_,_,e,_⟩:=x;exact Xg e
 |dT mi=>obtain⟨_,_,_,_,o,_,_,e,_⟩:=x;exact Xg e
 |set S n=>obtain⟨o,_,_,_,e,_⟩:=x;exact Xg e
 |ins C dx fs=>obtain⟨_,_,_,e,_⟩:=x;exact Xg e
 |own y=>obtain⟨_,e⟩:=x;exact Xg e
 |xd fs=>obtain⟨_,⟨_,_,_,e,_⟩,_⟩:=x;exact Xg e
 |kc lo hi=>obtain⟨_,_,_,e⟩:=x;exact Xg e
 |iE ob u=>obtain⟨e,_⟩:=x;exact Xg e
 |CN ps=>exact Xg (show h.get? a=some _ from x)
 |met f y=>exact Xg (show h.get? a=some _ from x)
 |ext φ=>obtain⟨_,⟨_,e⟩,_⟩:=x;exact Xg e
theorem Paired.J9{α β:Type}{F G:α->β->Prop}:∀{l₁:List α} {l₂:List β},Paired F l₁ l₂->(∀a b,F a b->G a b)->Paired G l₁ l₂
 |_,_,.nil,_=>.nil
 |_,_,.cons r t,f=>.cons (f _ _ r) (Paired.J9 t f)
theorem dj.kW(x:dj P w H h a o)(k:∀b u,(b=a\/H b=some (.own a))->h.get? b=some u->h'.get? b=some u)
  (ho:∀b,H b=some (.own a)->H' b=some (.own a)) (ht:∀b xs,H b=some (.tup xs)->H' b=some (.tup xs)):dj P w H' h' a o:=by
 induction o with
 |lst xs=>obtain⟨z,aN,n,r,e⟩:=x;exact⟨z,aN,n,r,k _ _ (.inl rfl) e⟩
 |tup xs=>obtain⟨z,aN,r,ob,e,c⟩:=x;exact⟨z,aN,r,ob,k _ _ (.inl rfl) e,c⟩
 |dK mi=>obtain⟨z,y,vs,r,ob,es,ep,e,c⟩:=x;exact⟨z,y,vs,r,ob,es,ep,k _ _ (.inl rfl) e,c⟩
 |dT mi =>
  obtain⟨z,y,xs,r,ob,es,ep,e,c⟩:=x;exact⟨z,y,xs,Paired.J9 r λp q z=>⟨z.1,ht _ _ z.2.1,z.2.2⟩,ob,es,ep,k _ _ (.inl rfl) e,c⟩
 |set S n=>obtain⟨ob,es,ep,t,e,c⟩:=x;exact⟨ob,es,ep,t,k _ _ (.inl rfl) e,c⟩
 |ins C dx fs =>
  obtain⟨d,z,ne,e,mA,⟨od,es,ep,e2,c⟩,r⟩:=x;exact⟨ho _ d,z,ne,k _ _ (.inl rfl) e,mA,⟨od,es,ep,k _ _ (.inr d) e2,c⟩,r⟩
 |own y=>obtain⟨ob,e⟩:=x;exact⟨ob,k _ _ (.inl rfl) e⟩
 |xd fs=>obtain⟨mA,⟨od,es,ep,e,c⟩,r⟩:=x;exact⟨mA,⟨od,es,ep,k _ _ (.inl rfl) e,c⟩,r⟩
 |kc lo hi=>obtain⟨t,u,v,e⟩:=x;exact⟨t,u,v,k _ _ (.inl rfl) e⟩
 |iE ob u ih=>obtain⟨e,q⟩:=x;exact⟨k _ _ (.inl rfl) e,ih q⟩
 |CN ps =>
  have e:h.get? a=some { cls:=.none,data:=.fields ps }:=x;show h'.get? a=some { cls:=.none,data:=.fields ps };exact k a _ (.inl rfl) e
 |met f y =>
  have e:h.get? a=some (PySem.W.methodObj (.ref f) (.ref y)):=x;show h'.get? a=some (PySem.W.methodObj (.ref f) (.ref y));exact k a _ (.inl rfl) e
 |ext φ=>obtain⟨p,⟨o,e⟩,st⟩:=x;exact⟨st _ _ p λo q=>k _ _ (.inl rfl) q,⟨o,k _ _ (.inl rfl) e⟩,st⟩
theorem iI.lt(x:iI P w H h)(e:H a=some o):a<h.objs.size:=(x a o e).lt
theorem iI.fresh(x:iI P w H h)(e:h.objs.size<=a):H a=none:=by
 cases q:H a with
 |none=>rfl
 |some u=>exact absurd (Xl (x.lt q) e) (Xx _)
theorem iI.kept(x:iI P w H h)(k:∀b u,h.get? b=some u->h'.get? b=some u):iI P w H h':=λa o e =>
 (x a o e).kW (λb u _ q=>k b u q) (λ_ q=>q) λ_ _ q=>q
theorem iI.laid(x:iI P w H h)(k:∀b u,h.get? b=some u->h'.get? b=some u)(hp:h.objs.size<=a)(new:dj P w (upd H a o) h' a o):iI P w (upd H a o) h':=λb u e=>by
 have hn:=x.fresh hp;by_cases hb:b=a
 ·subst hb;rw[bh]at e;cases e;exact new
 ·rw[aY hb]at e;exact(x b u e).kW (λc v _ q=>k c v q) (λc q=>by rw[aY (bU q hn)];exact q) λc xs q=>by rw[aY (bU q hn)];exact q
end
def Rd(H:Hp)(a:Addr)(u:HO):Prop:=H a=some u\/∃o,H a=some (.iE o u)
theorem Rd.ok{P:aJ}{w:World}{h:Heap}{a:Addr}{u:HO}(r:Rd H a u)(x:iI P w H h):dj P w H h a u:=by
 rcases r with r|⟨o,r⟩
 ·exact x a u r
 ·obtain⟨_,q⟩:=x a _ r;exact q
noncomputable def Nq:Option HO->Prop
 |some (.lst _)=>True
 |some (.dK _)=>True
 |some (.dT _)=>True
 |some (.set _ _)=>True
 |some (.ins _ _ _)=>True
 |some (.ext _)=>True
 |_=>False
section
variable {P:aJ}{w:World}{H:Hp}{h h':Heap}{x e:Addr}{o':HO}
theorem iI.write(ok:iI P w H h)(mu:Nq (H x))(he:e=x\/H e=some (.own x))(k:∀b u,b≠e->h.get? b=some u->h'.get? b=some u)(Io:∃u,h'.get? e=some u)
  (new:dj P w (upd H x o') h' x o'):iI P w (upd H x o') h':=λb u q=>by
 have J0:∀c y,H c=some (.own y)->c≠x:=λc y r z=>by subst z;rw[r]at mu;exact mu
 have OZ:∀c xs,H c=some (.tup xs)->c≠x:=λc xs r z=>by subst z;rw[r]at mu;exact mu
 by_cases hb:b=x
 ·subst hb;rw[bh]at q;cases q;exact new
 ·rw[aY hb]at q;by_cases Gp:b=e
  ·have q':H b=some (.own x):=by
    rcases he with z|z
    ·exact absurd (Gp.trans z) hb
    ·rw[Gp];exact z
   rw[q]at q';cases q';obtain⟨v,hv⟩:=Io;exact⟨v,by rw[Gp];exact hv⟩
  ·refine(ok b u q).kW (λc v hc r=>k c v ?_ r) (λc r=>by rw[aY (J0 c b r)];exact r) λc xs r=>by rw[aY (OZ c xs r)];exact r
   rcases hc with rfl|hc
   ·exact Gp
   ·rintro rfl;rcases he with z|z
    ·exact J0 c b hc z
    ·rw[hc]at z;cases z;exact hb rfl
end
structure Un(fs ex:bt)(H H':Hp)(h h':Heap):Prop where
 keep:∀b o,h.get? b=some o->H b=none->b∉fs->b∉ex->h'.get? b=some o
 slot:∀b o,h.get? b=some o->H b=none->b∈fs->b∉ex->∃sl,h'.get? b=some { o with slots:=sl }
 free:∀b o,h.get? b=some o->H b=none->b∉ex->H' b=none
 there:∀b o,h.get? b=some o->b∉ex->∃o',h'.get? b=some o'
 kR:∀b xs,H b=some (.tup xs)->H' b=some (.tup xs)
 ku:∀b o u,H b=some (.iE o u)->H' b=some (.iE o u)
 kU:∀b ps,H b=some (.CN ps)->∃more,H' b=some (.CN (ps++more))
section
variable {fs VY ex QS:bt}{H H1 H2:Hp}{h h1 h2 h':Heap}{a x e:Addr}{o:HO}
theorem Un.any(u:Un fs ex H H1 h h1){b:Addr}{ob:Obj}(q:h.get? b=some ob)(n:H b=none)(hx:b∉ex):∃sl,h1.get? b=some { ob with slots:=sl }:=by
 by_cases hb:b∈fs
 ·exact u.slot b ob q n hb hx
 ·exact⟨ob.slots,u.keep b ob q n hb hx⟩
theorem Un.kept(k:∀b u,h.get? b=some u->h'.get? b=some u):Un fs ex H H h h' :=
 ⟨λb ob q _ _ _=>k b ob q,λb ob q _ _ _=>⟨ob.slots,k b ob q⟩,λ_ _ _ n _=>n,λb ob q _=>⟨ob,k b ob q⟩,λ_ _ q=>q,λ_ _ _ q=>q,λ_ ps q=>⟨#[],by rw[q];simp⟩⟩
theorem Un.refl:Un fs ex H H h h:=Un.kept λ_ _ q=>q
theorem Un.laid(k:∀b u,h.get? b=some u->h'.get? b=some u)(hp:h.objs.size<=a)(hn:H a=none):Un fs ex H (upd H a o) h h' where
 keep:=λb u q _ _ _=>k b u q
 slot:=λb u q _ _ _=>⟨u.slots,k b u q⟩
 free:=λb u q n _=>by rw[aY (Nat.ne_of_lt (Nat.lt_of_lt_of_le (Heap.lt_size q) hp))];exact n
 there:=λb u q _=>⟨u,k b u q⟩
 kR:=λb xs q=>by rw[aY (bU q hn)];exact q
 ku:=λb u xs q=>by rw[aY (bU q hn)];exact q
 kU:=λb ps q=>⟨#[],by rw[aY (bU q hn),q];simp⟩
theorem Un.write(mu:Nq (H x))(he:e=x\/H e=some (.own x))(k:∀b u,b≠e->h.get? b=some u->h'.get? b=some u)(Io:∃u,h'.get? e=some u):Un fs ex H (upd H x o) h h':=by
 have hx:∀b,H b=none->b≠x:=λb n z=>by subst z;rw[n]at mu;exact mu
 have hb:∀b,H b=none->b≠e:=λb n z=>by
  subst z;rcases he with r|r
  ·exact hx b n r
  ·rw[n]at r;cases r
 have hm:∀b u,H b=some u->¬ Nq (some u)->b≠x:=λb u q nm z=>by subst z;rw[q]at mu;exact nm mu
 refine⟨λb u q n _ _=>k b u (hb b n) q,λb u q n _ _=>⟨u.slots,k b u (hb b n) q⟩,λb u q n _=>by rw[aY (hx b n)];exact n,λb u q _=>?_,
  λb xs q=>by rw[aY (hm b _ q λz=>z)];exact q,λb u xs q=>by rw[aY (hm b _ q λz=>z)];exact q,λb ps q=>⟨#[],by rw[aY (hm b _ q λz=>z),q];simp⟩⟩
 by_cases Gp:b=e
 ·subst Gp;exact Io
 ·exact⟨u,k b u Gp q⟩
end
noncomputable def Mf(h:Heap)(H:Hp):bt:=(List.range h.objs.size).filter λa=>(H a).isSome
def pH(h:Heap)(H:Hp):Heap:=PySem.W.hideAll h (Mf h H)
theorem wz(h:Heap)(H:Hp):(pH h H).objs.size=h.objs.size:=PySem.W.hideAll_size _ _
variable {o:Obj}
theorem zb{h:Heap}{b:Addr}(e:h.get? b=some o)(n:H b=none):(pH h H).get? b=some o :=
 PySem.W.hideAll_get _ e λhm=>by
  have q:(H b).isSome=true:=(List.mem_filter.mp hm).2;rw[n]at q;simp at q
theorem Bo{h:Heap}{b:Addr}(e:(pH h H).get? b=some o):h.get? b=some o/\H b=none:=by
 have e':h.get? b=some o:=PySem.W.of_hideAll (Mf h H) e;refine⟨e',?_⟩;cases q:H b with
 |none=>rfl
 |some x =>
  have hm:b∈Mf h H:=List.mem_filter.mpr ⟨List.mem_range.mpr (Xg e'),by simp[q]⟩;have z:(pH h H).get? b=none:=PySem.W.hideAll_none (Mf h H) hm;rw[z]at e;cases e
noncomputable def Cv(g h:Heap)(L:Addr):aj:=(List.range h.objs.size).filterMap λa=>if a=L\/(g.get? a).isSome=true then none else(h.get? a).map λo=>(a,o)
def rest(g h:Heap)(L d:Addr):aj:=(Cv g h L).filter λp=>decide (p.1≠d)
end L2
namespace L2
open PySem PySem.Spec PyProof.Rows
structure Mod(K:ak)(mg:aP)(base:Heap):Prop where
 Pb:K.In base
 glob:base.Ns mainGlobals mg
 blt:∃mb,base.Ns builtinsNs mb/\∀x:Str,x ≠ "__name__" -> mb x=bootBuiltins x
 nolimit:base.NoLimit
structure Cx where
 prog:aJ
 w:World
 K:ak
 mg:aP
 base:Heap
 A:aQ
 N:av
 s₀:Shared
 H₀:Hp
 env:Env
 outer:List Env
 stack:List Env
 ex:bt
 fn:Str->Bool
 calm:Bool
 pn:aj
 xe:aF
noncomputable def kv(l:List Env):bt:=l.filterMap (·.frame)
abbrev Cx.fs(X:Cx):bt:=kv X.outer
def D2(sc:Scope)(x:Str):Prop:=sc.names.lookup x=some .local\/sc.names.lookup x=some .cell\/sc.names.lookup x=some .free
def Loc(sc:Scope)(x:Str):Prop:=sc.names.lookup x=some .local\/sc.names.lookup x=some .cell
noncomputable def Look(env:Env)(h:Heap)(m:aP)(x:Str)(u:Value):Prop :=
 (env.kindOf x=some .local/\m x=some u)\/((env.kindOf x=some .cell\/env.kindOf x=some .free)/\∃c,env.cells.lookup x=some c/\h.IsCell c (some u))
structure Cx.Ok(X:Cx):Prop where
 mod:Mod X.K X.mg X.base
 kind:X.env.scope.kind=.function
 glob:X.env.globals=mainGlobals
 blt:X.env.builtins=builtinsNs
 above:X.s₀.heap.objs.size<=X.env.locals
 inj:∀x y c,X.env.cells.lookup x=some c->X.env.cells.lookup y=some c->x=y
 has:∀x,(X.env.kindOf x=some .cell\/X.env.kindOf x=some .free)->∃c,X.env.cells.lookup x=some c
 DR:∀x c,X.fn x=true->X.env.cells.lookup x=some c->X.s₀.heap.objs.size<=c
 hd:X.calm=true->X.A.handled=none
 frames:X.A.frames=some X.stack
 En:X.stack=X.outer\/(X.stack=X.env::X.outer/\X.env.frame=some X.env.locals)
 Lu:∀b∈X.ex,b≠X.env.locals/\∀x c,X.env.cells.lookup x=some c->c≠b
 bs:∀b o,X.base.get? b=some o->X.s₀.heap.get? b=some o/\X.H₀ b=none
 zS:X.base.objs.size<=X.s₀.heap.objs.size
 qX:∀b o,X.base.get? b=some o->b∉X.ex
 tP:∀b∈X.ex,b∉X.fs
 jb:X.s₀.heap.FunFrames X.base X.outer
 xh:∀b∈X.fs,X.H₀ b=none
structure Inv(X:Cx)(pins:aj)(σ:List (Option V))(H:Hp)(s:Shared):Prop where
 ok:X.Ok
 os:s.os=X.s₀.os
 bare:AllBare s.gens
 base:Un X.fs X.ex X.H₀ H X.s₀.heap s.heap
 loc:∃m,s.heap.Ns X.env.locals m/\∀(i:Nat) (x:Str) (v:V),X.N[i]?=some x->σ[i]?=some (some v)->D2 X.env.scope x->∃u,RelV v u/\Look X.env s.heap m x u
 cell:∀x c,X.env.cells.lookup x=some c->∃v,s.heap.IsCell c v
 free:H X.env.locals=none
 eR:∀x c,X.env.cells.lookup x=some c->H c=none
 pin:∀p∈X.pn++pins,s.heap.get? p.1=some p.2/\H p.1=none/\p.1≠X.env.locals/\p.1∉X.fs/\∀v,p.2.data≠.cell v
 cn:iI X.prog X.w H s.heap
 len:σ.length=X.N.length
variable {A:aQ}{E:Value->Shared->Prop}{Q:Unit->Shared->Prop}{ch:bt}{t':Nat}
section
variable {X:Cx}{pins:aj}{σ:List (Option V)}{H H':Hp}{s:Shared}{h':Heap}
theorem Cx.Ok.O1(ok:X.Ok){b:Addr}{o:Obj}(e:X.base.get? b=some o):b∉X.fs:=λhb=>by
 have:=(ok.jb.mem hb).1;rw[e]at this;cases this
theorem Inv.bs(I:Inv X pins σ H s):∀b o,X.base.get? b=some o->s.heap.get? b=some o/\H b=none:=λb o e =>
 ⟨I.base.keep b o (I.ok.bs b o e).1 (I.ok.bs b o e).2 (I.ok.O1 e) (I.ok.qX b o e),I.base.free b o (I.ok.bs b o e).1 (I.ok.bs b o e).2 (I.ok.qX b o e)⟩
theorem Inv.bk(I:Inv X pins σ H s):∀b o,X.base.get? b=some o->s.heap.get? b=some o:=λb o e=>(I.bs b o e).1
theorem Inv.mod(I:Inv X pins σ H s):Mod X.K X.mg X.base:=I.ok.mod
theorem Inv.uQ(I:Inv X pins σ H s):X.K.In s.heap:=I.ok.mod.Pb.keeps I.bk
theorem Inv.lt(I:Inv X pins σ H s):X.env.locals<s.heap.objs.size:=let ⟨_,hn,_⟩:=I.loc;hn.lt
theorem Inv.sz(I:Inv X pins σ H s):X.s₀.heap.objs.size<=s.heap.objs.size:=Xz I.ok.above (Nat.le_of_lt I.lt)
theorem Inv.Fy(I:Inv X pins σ H s){a:Addr}(h:s.heap.objs.size<=a):a∉X.fs:=λhb=>by
 obtain⟨_,o,ho,_⟩:=I.ok.jb.mem hb;exact absurd (Xl (Xg ho) (Xz I.sz h)) (Xx _)
theorem Inv.Cm(I:Inv X pins σ H s):∀x c,X.env.cells.lookup x=some c->c≠X.env.locals:=λx c e z=>by
 obtain⟨v,o,ho,hd⟩:=I.cell x c e;obtain⟨m,⟨o',es,ep,eX,Qm,_⟩,_⟩:=I.loc;rw[z,eX]at ho;cases ho;rw[Qm]at hd;cases hd
theorem Inv.jb(I:Inv X pins σ H s):s.heap.FunFrames X.base X.outer:=by
 have all:∀(l:List Env),(∀b∈kv l,b∈X.fs)->X.s₀.heap.FunFrames X.base l->s.heap.FunFrames X.base l:=by
  intro l;induction l with
  |nil=>intro _ _;trivial
  |cons env r ih =>
   intro hs hl;obtain⟨hk,⟨L,o,hf,hn,ho,hd⟩,hr⟩:=hl;have hL:L∈X.fs:=hs L (by unfold kv;rw[List.filterMap_cons,hf];exact Xn);obtain⟨sl,e⟩:=I.base.slot L o ho (I.ok.xh L hL) hL λz=>I.ok.tP L z hL;exact⟨hk,⟨L,_,hf,hn,e,hd⟩,ih (λb hb=>hs b (by unfold kv;rw[List.filterMap_cons,hf];exact Xm _ hb)) hr⟩
 exact all X.outer (λ_ hb=>hb) I.ok.jb
theorem Inv.stack(I:Inv X pins σ H s):s.heap.FunFrames X.base X.stack:=by
 rcases I.ok.En with e|⟨e,hf⟩
 ·rw[e];exact I.jb
 ·rw[e];obtain⟨m,hn,_⟩:=I.loc;refine .cons (by rw[I.ok.kind];decide) hf hn ?_ I.jb;exact Heap.get?_none_of_le (Xz I.ok.zS I.ok.above)
theorem Inv.iW(I:Inv X pins σ H s):∀b∈kv X.stack,b∈X.env.locals::X.fs:=λb hb=>by
 rcases I.ok.En with e|⟨e,hf⟩
 ·rw[e]at hb;exact Xm _ hb
 ·rw[e]at hb;unfold kv at hb;rw[List.filterMap_cons,hf]at hb;exact hb
theorem Inv.jC(I:Inv X pins σ H s):∀b∈kv X.stack,H b=none:=λb hb=>by
 rcases List.mem_cons.mp (I.iW b hb)with e|hb
 ·rw[e];exact I.free
 ·obtain⟨_,o,ho,_⟩:=I.ok.jb.mem hb;exact I.base.free b o ho (I.ok.xh b hb) λz=>I.ok.tP b z hb
theorem Inv.step{g':Array GenState}{d':Drawn}(I:Inv X pins σ H s)
  (Af:∀b∈ch,(b∈X.ex\/X.s₀.heap.objs.size<=b)/\b≠X.env.locals/\(∀x c,X.env.cells.lookup x=some c->c≠b)/\∀p∈X.pn++pins,p.1≠b)
  (keep:∀b o,b≠X.env.locals->b∉X.fs->b∉ch->s.heap.get? b=some o->H b=none->h'.get? b=some o)
  (slot:∀b o,b≠X.env.locals->b∈X.fs->b∉ch->s.heap.get? b=some o->H b=none->∃sl,h'.get? b=some { o with slots:=sl }) (free:∀b o,b∉ch->s.heap.get? b=some o->H b=none->H' b=none)
  (there:∀b o,b∉ch->s.heap.get? b=some o->∃o',h'.get? b=some o')
  (kR:∀b xs,H b=some (.tup xs)->H' b=some (.tup xs)) (ku:∀b o u,H b=some (.iE o u)->H' b=some (.iE o u)) (kU:∀b ps,H b=some (.CN ps)->∃more,H' b=some (.CN (ps++more)))
  (ns:∀m,s.heap.Ns X.env.locals m->h'.Ns X.env.locals m) (cn:iI X.prog X.w H' h') (hg:AllBare g') :
  Inv X pins σ H' { s with heap:=h',gens:=g',drawn:=d',toks:=t' }:=by
 have R5:∀b o,X.s₀.heap.get? b=some o->b≠X.env.locals:=λb o e=>Xo (Xl (Xg e) I.ok.above);have Dx:∀b o,X.s₀.heap.get? b=some o->b∉X.ex->b∉ch:=λb o e hx hb=>by
  rcases(Af b hb).1 with z|z
  ·exact hx z
  ·exact absurd (Xl (Xg e) z) (Xx _)
 have cellK:∀x c,X.env.cells.lookup x=some c->∀v,s.heap.IsCell c v->h'.IsCell c v:=λx c e v bK=>by
  obtain⟨o,ho,hd⟩:=bK;have J5:c∉ch:=λz=>(Af c z).2.2.1 x c e rfl;by_cases hc:c∈X.fs
  ·obtain⟨sl,q⟩:=slot c o (I.Cm x c e) hc J5 ho (I.eR x c e);exact⟨_,q,hd⟩
  ·exact⟨o,keep c o (I.Cm x c e) hc J5 ho (I.eR x c e),hd⟩
 refine⟨I.ok,I.os,hg,⟨λb o e n hb hx=>?_,λb o e n hb hx=>?_,λb o e n hx=>?_,λb o e hx=>?_,λb xs e=>kR b xs (I.base.kR b xs e),λb o xs e=>ku b o xs (I.base.ku b o xs e),λb ps e=>?_⟩,?_,λx c e=>?_,?_,λx c e=>?_,λp hp=>?_,cn,I.len⟩
 ·exact keep b o (R5 b o e) hb (Dx b o e hx) (I.base.keep b o e n hb hx) (I.base.free b o e n hx)
 ·obtain⟨sl,e1⟩:=I.base.slot b o e n hb hx;obtain⟨Oo,e2⟩:=slot b _ (R5 b o e) hb (Dx b o e hx) e1 (I.base.free b o e n hx);exact⟨Oo,e2⟩
 ·obtain⟨o',e1⟩:=I.base.there b o e hx;exact free b o' (Dx b o e hx) e1 (I.base.free b o e n hx)
 ·obtain⟨o',e1⟩:=I.base.there b o e hx;exact there b o' (Dx b o e hx) e1
 ·obtain⟨m1,e1⟩:=I.base.kU b ps e;obtain⟨m2,e2⟩:=kU b _ e1;exact⟨m1++m2,by rw[e2,Array.append_assoc]⟩
 ·obtain⟨m,hn,hl⟩:=I.loc;refine⟨m,ns m hn,λi x v e1 e2 e3=>?_⟩;obtain⟨u,r,l⟩:=hl i x v e1 e2 e3;refine⟨u,r,?_⟩;rcases l with l|⟨k,c,e,z⟩
  ·exact .inl l
  ·exact .inr ⟨k,c,e,cellK x c e _ z⟩
 ·obtain⟨v,z⟩:=I.cell x c e;exact⟨v,cellK x c e v z⟩
 ·obtain⟨m,⟨o,_,_,ho,_⟩,_⟩:=I.loc;exact free _ o (λz=>(Af _ z).2.1 rfl) ho I.free
 ·obtain⟨v,o,ho,hd⟩:=I.cell x c e;exact free c o (λz=>(Af c z).2.2.1 x c e rfl) ho (I.eR x c e)
 ·obtain⟨e,n,ne,nf,d⟩:=I.pin p hp;have J5:p.1∉ch:=λz=>(Af p.1 z).2.2.2 p hp rfl;exact⟨keep p.1 p.2 ne nf J5 e n,free p.1 p.2 J5 e n,ne,nf,d⟩
theorem Inv.un(I:Inv X pins σ H s)(u:Un X.fs [] H H' s.heap h')(cn:iI X.prog X.w H' h'):Inv X pins σ H' { s with heap:=h',toks:=t' }:=by
 obtain⟨m,⟨o,es,ep,ho,r⟩,_⟩:=id I.loc;obtain⟨sl,hL⟩:=u.any ho I.free (by simp);exact I.step (g':=s.gens) (d':=s.drawn) (ch:=[]) (λ_ z=>nomatch z) (λb o _ hb _ e n=>u.keep b o e n hb (by simp)) (λb o _ hb _ e n=>u.slot b o e n hb (by simp)) (λb o _ e n=>u.free b o e n (by simp)) (λb o _ e=>u.there b o e (by simp)) u.kR u.ku u.kU (λm' hm=>by
  obtain⟨o',QU,QX,eX,r'⟩:=hm;rw[ho]at eX;cases eX;exact⟨_,QU,QX,hL,r'⟩) cn I.bare
theorem Inv.call{g':Array GenState}{d':Drawn}(I:Inv X pins σ H s)(u:Un (kv X.stack) ch H H' s.heap h')(cn:iI X.prog X.w H' h')(hg:AllBare g')
  (Af:∀b∈ch,(b∈X.ex\/X.s₀.heap.objs.size<=b)/\b≠X.env.locals/\(∀x c,X.env.cells.lookup x=some c->c≠b)/\∀p∈X.pn++pins,p.1≠b) :
  Inv X pins σ H' { s with heap:=h',gens:=g',drawn:=d',toks:=t' }:=by
 obtain⟨m,⟨o,es,ep,ho,r⟩,_⟩:=id I.loc;obtain⟨sl,hL⟩:=u.any ho I.free λz=>(Af _ z).2.1 rfl;exact I.step (ch:=ch) Af (λb o hL hb hc e n=>u.keep b o e n (λz=>(List.mem_cons.mp (I.iW b z)).elim hL hb) hc) (λb o _ _ hc e n=>u.any e n hc) (λb o hc e n=>u.free b o e n hc) (λb o hc e=>u.there b o e hc) u.kR u.ku u.kU (λm' hm=>by
  obtain⟨o',QU,QX,eX,r'⟩:=hm;rw[ho]at eX;cases eX;exact⟨_,QU,QX,hL,r'⟩) cn hg
theorem Inv.turned{it:Addr}(I:Inv X pins σ H s)(k:∀b o,b≠it->s.heap.get? b=some o->h'.get? b=some o)(hn:H it=none)(hL:it≠X.env.locals)
  (h1:it∈X.ex\/X.s₀.heap.objs.size<=it) (h2:∀x c,X.env.cells.lookup x=some c->c≠it) (h3:∀p∈X.pn++pins,p.1≠it):Inv X pins σ H { s with heap:=h',toks:=t' }:=by
 have Dw:∀b u,H b=some u->b≠it:=λb u e z=>by rw[z,hn]at e;cases e
 refine I.step (g':=s.gens) (d':=s.drawn) (ch:=[it]) (λb hb=>?_) (λb o _ _ hc e _=>k b o (λz=>hc (by simp[z])) e) (λb o _ _ hc e _=>⟨o.slots,k b o (λz=>hc (by simp[z])) e⟩) (λ_ _ _ _ n=>n)
  (λb o hc e=>⟨o,k b o (λz=>hc (by simp[z])) e⟩) (λ_ _ e=>e) (λ_ _ _ e=>e) (λb ps e=>⟨#[],by rw[e];simp⟩) (λm hm=>?_) (λb u e=>?_) I.bare
 ·have e:b=it:=by simpa using hb
  subst e;exact⟨h1,hL,h2,h3⟩
 ·obtain⟨o,es,ep,ho,r⟩:=hm;exact⟨o,es,ep,k _ o (YF hL) ho,r⟩
 ·refine(I.cn b u e).kW (λc v hc q=>k c v ?_ q) (λ_ q=>q) λ_ _ q=>q;rcases hc with z|z
  ·rw[z];exact Dw b u e
  ·exact Dw c _ z
theorem Inv.tok(I:Inv X pins σ H s)(t:Nat):Inv X pins σ H { s with toks:=t }:=I.un (h':=s.heap) (t':=t) Un.refl I.cn
theorem Inv.kept{t':Nat}(I:Inv X pins σ H s)(k:∀b u,s.heap.get? b=some u->h'.get? b=some u):Inv X pins σ H { s with heap:=h',toks:=t' }:=I.un (Un.kept k) (I.cn.kept k)
theorem Inv.laid{a:Addr}{o:HO}{t':Nat}(I:Inv X pins σ H s)(k:∀b u,s.heap.get? b=some u->h'.get? b=some u)(hp:s.heap.objs.size<=a)(new:dj X.prog X.w (upd H a o) h' a o):
  Inv X pins σ (upd H a o) { s with heap:=h',toks:=t' }:=I.un (Un.laid k hp (I.cn.fresh hp)) (I.cn.laid k hp new)
theorem Inv.write{x e:Addr}{o:HO}{t':Nat}(I:Inv X pins σ H s)(mu:Nq (H x))(he:e=x\/H e=some (.own x))(k:∀b u,b≠e->s.heap.get? b=some u->h'.get? b=some u)(Io:∃u,h'.get? e=some u)
  (new:dj X.prog X.w (upd H x o) h' x o):Inv X pins σ (upd H x o) { s with heap:=h',toks:=t' }:=I.un (Un.write mu he k Io) (I.cn.write mu he k Io new)
theorem Inv.iA{yj:aj}(I:Inv X pins σ H s)(h:∀p∈yj,s.heap.get? p.1=some p.2/\H p.1=none/\p.1≠X.env.locals/\p.1∉X.fs/\∀v,p.2.data≠.cell v):Inv X yj σ H s :=
 ⟨I.ok,I.os,I.bare,I.base,I.loc,I.cell,I.free,I.eR,λp hp=>(List.mem_append.mp hp).elim (λz=>I.pin p (Xu _ z)) (h p),I.cn,I.len⟩
theorem qY{N:av}(hN:N.Nodup){i j:Nat}{x:Str}(a:N[i]?=some x)(b:N[j]?=some x):i=j:=by
 obtain⟨h1,e1⟩:=List.getElem?_eq_some_iff.mp a;obtain⟨h2,e2⟩:=List.getElem?_eq_some_iff.mp b;exact(List.getElem_inj hN).mp (e1.trans e2.symm)
theorem vT{M:Model}{i:Nat}{x:Str}{v:V}{u:Value}(I:Inv X pins σ H s)(hN:X.N.Nodup)(hi:X.N[i]?=some x)(hx:Loc X.env.scope x)(r:RelV v u)
  (h:∀s',Inv X pins (σ.set i (some v)) H s'->(∃a,Heap.SameBut a s.heap s'.heap/\(a=X.env.locals\/X.env.cells.lookup x=some a))->Q () s') (hf:X.fn x=true\/X.env.scope.names.lookup x=some .local:=by first|exact .inl rfl|exact .inr rfl|assumption):wpAny M A (storeName X.env x u) Q E s:=by
 obtain⟨m,hn,hl⟩:=id I.loc;have zc:(X.env.scope.kind==.class||(X.env.scope.kind==.module&&X.env.locals != X.env.globals))=false:=by rw[I.ok.kind];rfl
 have K3:i<σ.length:=by rw[I.len];exact(List.getElem?_eq_some_iff.mp hi).1
 have Cm:=I.Cm;have tracked:∀{a:Addr} {h':Heap},(∃o,s.heap.get? a=some o/\H a=none)->Heap.SameBut a s.heap h'->iI X.prog X.w H h':=λ{a h'} ha hs b ob e=>by
  obtain⟨_,_,DF⟩:=ha;refine(I.cn b ob e).kW (λc w' hc q=>(hs.2 c ?_).trans q) (λ_ q=>q) λ_ _ q=>q;rintro rfl;rcases hc with rfl|hc
  ·rw[DF]at e;cases e
  ·rw[DF]at hc;cases hc
 rcases hx with hk|hk
 ·refine wpAny_storeName_local hk hn (λh' xg hs=>?_) zc;obtain⟨oL,_,_,Vh,_⟩:=id hn;refine h _ ⟨I.ok,I.os,I.bare,⟨λb o e n hb hx=>?_,λb o e n hb hx=>?_,I.base.free,λb o e hx=>?_,I.base.kR,I.base.ku,I.base.kU⟩,⟨_,xg,λj y v' e1 e2 e3=>?_⟩,λy c e=>?_,I.free,I.eR,λp hp=>?_,tracked ⟨oL,Vh,I.free⟩ hs,by simpa using I.len⟩ ⟨_,hs,.inl rfl⟩
  ·exact(hs.2 b (Xo (Xl (Xg e) I.ok.above))).trans (I.base.keep b o e n hb hx)
  ·obtain⟨sl,e1⟩:=I.base.slot b o e n hb hx;exact⟨sl,(hs.2 b (Xo (Xl (Xg e) I.ok.above))).trans e1⟩
  ·obtain⟨o',e1⟩:=I.base.there b o e hx;exact⟨o',(hs.2 b (Xo (Xl (Xg e) I.ok.above))).trans e1⟩
  ·by_cases hj:j=i
   ·subst hj;rw[hi]at e1;cases e1;rw[List.getElem?_set_self K3]at e2;cases e2;exact⟨u,r,.inl ⟨hk,by simp⟩⟩
   ·rw[List.getElem?_set_ne (Ne.symm hj)]at e2;obtain⟨u',r',q⟩:=hl j y v' e1 e2 e3;refine⟨u',r',?_⟩;rcases q with ⟨k,e⟩|⟨k,c,e,z⟩
    ·refine .inl ⟨k,?_⟩;have:y≠x:=λe=>hj (qY hN e1 (e▸hi));simp[this,e]
    ·exact .inr ⟨k,c,e,z.sameBut hs (Cm y c e)⟩
  ·obtain⟨w',z⟩:=I.cell y c e;exact⟨w',z.sameBut hs (Cm y c e)⟩
  ·obtain⟨e,n,ne,nf,d⟩:=I.pin p hp;exact⟨(hs.2 p.1 ne).trans e,n,ne,nf,d⟩
 ·have uY:X.fn x=true:=by
   rcases hf with z|z
   ·exact z
   ·rw[z]at hk;cases hk
  obtain⟨c,hc⟩:=I.ok.has x (.inl hk);obtain⟨w',z⟩:=I.cell x c hc;refine wpAny_storeName_cell I.ok.kind hk hc z (λh' Ag hs=>?_);obtain⟨oc,SG,PY⟩:=id z;refine h { s with heap:=h' } ⟨I.ok,I.os,I.bare,⟨λb o e n hb hx=>?_,λb o e n hb hx=>?_,I.base.free,λb o e hx=>?_,I.base.kR,I.base.ku,I.base.kU⟩,⟨m,hn.sameBut hs (YF (Cm x c hc)),λj y v' e1 e2 e3=>?_⟩,λy c' e=>?_,I.free,I.eR,λp hp=>?_,tracked ⟨oc,SG,I.eR x c hc⟩ hs,by simpa using I.len⟩ ⟨c,hs,.inr hc⟩
  ·exact(hs.2 b (Xo (Xl (Xg e) (I.ok.DR x c uY hc)))).trans (I.base.keep b o e n hb hx)
  ·obtain⟨sl,e1⟩:=I.base.slot b o e n hb hx;exact⟨sl,(hs.2 b (Xo (Xl (Xg e) (I.ok.DR x c uY hc)))).trans e1⟩
  ·obtain⟨o',e1⟩:=I.base.there b o e hx;exact⟨o',(hs.2 b (Xo (Xl (Xg e) (I.ok.DR x c uY hc)))).trans e1⟩
  ·by_cases hj:j=i
   ·subst hj;rw[hi]at e1;cases e1;rw[List.getElem?_set_self K3]at e2;cases e2;exact⟨u,r,.inr ⟨.inl hk,c,hc,Ag⟩⟩
   ·rw[List.getElem?_set_ne (Ne.symm hj)]at e2;obtain⟨u',r',q⟩:=hl j y v' e1 e2 e3;refine⟨u',r',?_⟩;rcases q with q|⟨k,c',e,z'⟩
    ·exact .inl q
    ·refine .inr ⟨k,c',e,z'.sameBut hs ?_⟩;rintro rfl;exact hj (qY hN e1 (I.ok.inj _ _ _ e hc▸hi))
  ·by_cases SW:c'=c
   ·subst SW;exact⟨_,Ag⟩
   ·obtain⟨w2,z2⟩:=I.cell y c' e;exact⟨w2,z2.sameBut hs SW⟩
  ·obtain⟨e,n,ne,nf,d⟩:=I.pin p hp;refine⟨(hs.2 p.1 ?_).trans e,n,ne,nf,d⟩;intro q;rw[q,SG]at e;have q':oc=p.2:=Xp e;exact d w' (by rw[<- q'];exact PY)
theorem fM{M:Model}{i:Nat}{x:Str}{v:V}{u:Value}(I:Inv X pins σ H s)(hN:X.N.Nodup)(hi:X.N[i]?=some x)(hx:Loc X.env.scope x)(r:RelV v u)
  (h:∀s',Inv X pins (σ.set i (some v)) H s'->Q () s') (hf:X.fn x=true\/X.env.scope.names.lookup x=some .local:=by first|exact .inl rfl|exact .inr rfl|assumption):wpAny M A (storeName X.env x u) Q E s :=
 vT I hN hi hx r (λs' I' _=>h s' I') hf
theorem Inv.vt{s':Shared}(I:Inv X pins σ H s)(ho:s'.os=s.os)(u:Un (kv X.stack) ch H H' s.heap s'.heap)(cn:iI X.prog X.w H' s'.heap)(hg:AllBare s'.gens)
  (Af:∀b∈ch,(b∈X.ex\/X.s₀.heap.objs.size<=b)/\b≠X.env.locals/\(∀x c,X.env.cells.lookup x=some c->c≠b)/\∀p∈X.pn++pins,p.1≠b):Inv X pins σ H' s':=by
 obtain⟨h',g',d',t',o'⟩:=s';have e:o'=s.os:=ho;subst e;exact I.call (g':=g') (t':=t') (d':=d') u cn hg Af
end
noncomputable abbrev XK:=Value->Option Addr->Hp->Prop
noncomputable abbrev St:=List (Option V)
noncomputable abbrev VK:=V->Hp->Prop
noncomputable abbrev TE:=St->Hp->VK->Prop
noncomputable abbrev TT:=St->Hp->(Bool->Hp->Prop)->Prop
noncomputable abbrev TA:=St->Hp->(ae->Hp->Prop)->Prop
structure Ends where
 nx:St->Hp->Prop
 rt:VK
 bk:St->Hp->Prop:=λ_ _=>False
 ct:St->Hp->Prop:=λ_ _=>False
noncomputable abbrev TS:=Ends->St->Hp->Prop
def EP(X:Cx)(pins:aj)(σ:St)(Q:VK)(u:Value)(s':Shared):Prop:=∃v H',Inv X pins σ H' s'/\RelV v u/\Q v H'
def TP(X:Cx)(pins:aj)(σ:St)(Q:Bool->Hp->Prop)(b:Bool)(s':Shared):Prop:=∃H',Inv X pins σ H' s'/\Q b H'
def AP(X:Cx)(pins:aj)(σ:St)(Q:ae->Hp->Prop)(us:aq)(s':Shared):Prop:=∃vs H',Inv X pins σ H' s'/\Vals vs us/\Q vs H'
def SP(X:Cx)(pins:aj)(D:Ends)(f:Flow)(s':Shared):Prop :=
 match f with
 |.next=>∃σ' H',Inv X pins σ' H' s'/\D.nx σ' H'
 |.brk=>∃σ' H',Inv X pins σ' H' s'/\D.bk σ' H'
 |.cont=>∃σ' H',Inv X pins σ' H' s'/\D.ct σ' H'
 |.ret u=>∃v σ' H',Inv X pins σ' H' s'/\RelV v u/\D.rt v H'
noncomputable def PE(X:Cx)(e:Expr)(t:TE):Prop :=
 ∀(pins:aj) (s:Shared) (σ:St) (H:Hp) (Q:VK),Inv X pins σ H s->t σ H Q->wpAny (model X.prog X.w) X.A (eval e X.env) (EP X pins σ Q) X.xe s
noncomputable def PT(X:Cx)(e:Expr)(t:TT):Prop :=
 ∀(pins:aj) (s:Shared) (σ:St) (H:Hp) (Q:Bool->Hp->Prop),Inv X pins σ H s->t σ H Q->wpAny (model X.prog X.w) X.A (isTrue e X.env (eval e X.env)) (TP X pins σ Q) X.xe s
noncomputable def PW(X:Cx)(e:Expr)(t:TT):Prop :=
 ∀(whole:Sem Value) (pins:aj) (s:Shared) (σ:St) (H:Hp) (Q:Bool->Hp->Prop),Inv X pins σ H s->t σ H Q->wpAny (model X.prog X.w) X.A (isTrue e X.env whole) (TP X pins σ Q) X.xe s
theorem PW.pt{X:Cx}{e:Expr}{t:TT}(h:PW X e t):PT X e t:=h _
noncomputable def PA(X:Cx)(es:au)(t:TA):Prop :=
 ∀(pos:Pos) (pins:aj) (s:Shared) (σ:St) (H:Hp) (Q:ae->Hp->Prop),Inv X pins σ H s->t σ H Q->wpAny (model X.prog X.w) X.A (spliced (backTo pos (starEach es X.env))) (AP X pins σ Q) X.xe s
noncomputable def PS(X:Cx)(st:Stmt)(t:TS):Prop :=
 ∀(pins:aj) (s:Shared) (σ:St) (H:Hp) (D:Ends),Inv X pins σ H s->t D σ H->wpAny (model X.prog X.w) X.A (exec st X.env) (SP X pins D) X.xe s
noncomputable def fJ(X:Cx)(st:aO)(t:TS):Prop :=
 ∀(pins:aj) (s:Shared) (σ:St) (H:Hp) (D:Ends),Inv X pins σ H s->t D σ H->wpAny (model X.prog X.w) X.A (execs st X.env) (SP X pins D) X.xe s
theorem cS{α:Type}{t:Sem α}{Q Q':α->Shared->Prop}{M:Model}{s:Shared}(h:wpAny M A t Q E s)(hQ:∀a s,Q a s->Q' a s):wpAny M A t Q' E s:=Xs h hQ λ_ _ x=>x
end L2
namespace L2
open PySem PySem.Spec PyProof.Rows
variable {E Q:Value->Shared->Prop}{H:Hp}{pos:Pos}{σ:L2.St}
section
variable {X:Cx}
theorem bin{a b:Expr}{ta tb:TE}(ha:PE X a ta)(hb:PE X b tb){pins:aj}{s:Shared}{R:V->V->Hp->Prop}(I:Inv X pins σ H s)(h:ta σ H λx H1=>tb σ H1 λy H2=>R x y H2)
  {α:Type} {Q:α->Shared->Prop} {f:Value->Value->Sem α}
  (hf:∀v u s2 x y H2,Inv X pins σ H2 s2->RelV x v->RelV y u->R x y H2->wpAny (model X.prog X.w) X.A (f v u) Q X.xe s2) :
  wpAny (model X.prog X.w) X.A (eval a X.env) (λv s₁=>wpAny (model X.prog X.w) X.A (eval b X.env) (λu s₂=>wpAny (model X.prog X.w) X.A (f v u) Q X.xe s₂) X.xe s₁) X.xe s:=by
 refine cS (ha pins s σ H _ I h) λv s1 bK=>?_;obtain⟨x,H1,I1,r1,q1⟩:=bK;refine cS (hb pins s1 σ H1 _ I1 q1) λu s2 bK=>?_;obtain⟨y,H2,I2,r2,q2⟩:=bK;exact hf v u s2 x y H2 I2 r1 r2 q2
noncomputable def lZ(i:Nat):TE:=λσ H Q=>∃v,σ[i]?=some (some v)/\Q v H
noncomputable def tC(v:V):TE:=λ_ H Q=>Q v H
theorem gh{i:Nat}{x:Str}(hN:X.N[i]?=some x)(hv:D2 X.env.scope x)(hd:(x==("__debug__" : Str))=false:=by decide)(wA:(x==("__classdict__" : Str))=false:=by decide):PE X (.Name x pos) (lZ i):=by
 intro pins s σ H Q I h;obtain⟨v,e,h⟩:=h;obtain⟨m,hn,hl⟩:=I.loc;obtain⟨u,r,l⟩:=hl i x v hN e hv;have fin:EP X pins σ Q u s:=⟨v,H,I,r,h⟩
 rcases l with ⟨hk,hm⟩|⟨hk,c,hc,hcell⟩
 ·exact wpAny_Name (wpAny_loadName_local I.ok.kind hk hn hm fin) hd
 ·rcases hk with hk|hk
  ·exact wpAny_Name (wpAny_loadName_cell I.ok.kind hk hc hcell fin) hd
  ·exact wpAny_Name (wpAny_loadName_free I.ok.kind hk hc hcell fin wA) hd
theorem Fc{i j pos}:PE X (.Constant (.int i) j pos) (tC (.int i)):=λ_ _ _ H _ I h=>wpAny_Constant_int ⟨.int i,H,I.tok _,⟨_,rfl⟩,h⟩
theorem Dp{b j pos}:PE X (.Constant (.bool b) j pos) (tC (.bl b)):=λ_ _ _ H _ I h=>Constant_bool ⟨.bl b,H,I,rfl,h⟩
theorem yt{j pos}:PE X (.Constant .none j pos) (tC .bB):=λ_ _ _ H _ I h=>Constant_none ⟨.bB,H,I,rfl,h⟩
theorem me{x j pos}:PE X (.Constant (.str x) j pos) (tC (.str x)):=λ_ _ _ H _ I h=>Calls.Constant_str ⟨.str x,H,I.tok _,⟨_,rfl⟩,h⟩
def Gl(X:Cx)(x:Str):Prop:=X.env.kindOf x=some .globalImplicit
theorem pz{pins:aj}{s:Shared}{x:Str}{u:Value}(I:Inv X pins σ H s)(hg:Gl X x)(hm:X.mg x=some u)(h:Q u s)
  (hd:(x==("__debug__" : Str))=false:=by decide):wpAny (model X.prog X.w) X.A (eval (.Name x pos) X.env) Q E s :=
 XN I.ok.kind hg (X8 (by rw[I.ok.glob];exact I.mod.glob.keeps I.bk) hm h) hd
theorem hJ{pins:aj}{s:Shared}{x:Str}{u:Value}(I:Inv X pins σ H s)(hg:Gl X x)(hm:X.mg x=none)(hv:bootBuiltins x=some u)(h:Q u s)
  (hn:x ≠ "__name__":=by decide) (hd:(x==("__debug__" : Str))=false:=by decide):wpAny (model X.prog X.w) X.A (eval (.Name x pos) X.env) Q E s:=by
 obtain⟨mb,h1,h2⟩:=I.mod.blt;exact XN I.ok.kind hg (Calls.loadGlobal_builtin (by rw[I.ok.glob];exact I.mod.glob.keeps I.bk) hm (by rw[I.ok.blt];exact h1.keeps I.bk) ((h2 x hn).trans hv) h) hd
theorem uH{x:Str}{v:V}{u:Value}(hg:Gl X x)(hm:X.mg x=some u)(r:RelV v u)(hd:(x==("__debug__" : Str))=false:=by decide):PE X (.Name x pos) (tC v) :=
 λ_ _ _ H _ I h=>pz I hg hm ⟨v,H,I,r,h⟩ hd
theorem uI{x:Str}{v:V}{u:Value}(hg:Gl X x)(hm:X.mg x=none)(hv:bootBuiltins x=some u)(r:RelV v u)(hn:x ≠ "__name__":=by decide)(hd:(x==("__debug__" : Str))=false:=by decide):PE X (.Name x pos) (tC v) :=
 λ_ _ _ H _ I h=>hJ I hg hm hv ⟨v,H,I,r,h⟩ hn hd
variable {a b:Expr}{ta tb:TE}{pos:Pos}
noncomputable def PC(X:Cx)(op:CmpOp)(a b:Expr)(t:TE):Prop :=
 ∀(pins:aj) (s:Shared) (σ:St) (H:Hp) (Q:VK),Inv X pins σ H s->t σ H Q ->
  wpAny (model X.prog X.w) X.A (eval a X.env) (λv s₁=>wpAny (model X.prog X.w) X.A (eval b X.env) (λu s₂=>wpAny (model X.prog X.w) X.A (compareOp op v u) (EP X pins σ Q) X.xe s₂) X.xe s₁) X.xe s
theorem yH(b:Expr){op:CmpOp}(h:op≠.In)(h2:op≠.NotIn):behindInMarks op b=false:=by
 have e1:(op==CmpOp.In)=false:=by cases op<;>first|rfl|exact absurd rfl h
 have e2:(op==CmpOp.NotIn)=false:=by cases op<;>first|rfl|exact absurd rfl h2
 cases b<;>simp[behindInMarks,e1,e2]
noncomputable def Jd(ta:TE):TE:=λσ H Q=>ta σ H λx H1=>Q (.bl (!decide (x=.bB))) H1
theorem RelV.yF{x:V}{v:Value}(r:RelV x v):(v==Value.none)=decide (x=.bB):=by
 cases x with
 |bB=>cases r;rfl
 |bl _=>cases r;rfl
 |int _=>obtain⟨t,rfl⟩:=r;rfl
 |str _=>obtain⟨t,rfl⟩:=r;rfl
 |Nc _=>obtain⟨t,rfl⟩:=r;rfl
 |Iy _=>obtain⟨t,rfl⟩:=r;rfl
 |ref _=>cases r;rfl
 |ty _=>cases r;rfl
theorem Bb{j pos'}(ha:PE X a ta):PC X .IsNot a (.Constant .none j pos') (Jd ta):=by
 intro pins s σ H Q I h;refine cS (ha pins s σ H _ I h) λv s1 bK=>?_;obtain⟨x,H1,I1,r1,q1⟩:=bK;exact Constant_none (isnot_none_gen ⟨.bl _,H1,I1,by rw[r1.yF];rfl,q1⟩)
noncomputable def tB(t:TE):TT:=λσ H Q=>t σ H λx H1=>∃c,x=.bl c/\Q c H1
theorem EX{op:CmpOp}{t:TE}(h:PC X op a b t)(h1:behindInMarks op b=false:=by first|exact yH _ (by decide) (by decide)|rfl):PT X (.Compare a [op] [b] pos) (tB t):=by
 intro pins s σ H Q I hw;refine wpAny_isTrue_Compare1 (cS (h pins s σ H _ I hw) λv s1 h1=>cS h1 λu s2 h2=>cS h2 λc s3 bK=>?_) h1;obtain⟨x,H1,I1,r1,q1⟩:=bK;obtain⟨d,rfl,q⟩:=q1;cases r1;exact XF ⟨H1,I1,q⟩
theorem oU{e:Expr}{t:TE}(h:PE X e t)(he:∀whole,isTrue e X.env whole=(do let v <- whole;standAt e.pos;holding [v] (truthy v)):=by intro _;rfl):PT X e (tB t):=by
 intro pins s σ H Q I hw;refine isTrue_plain (cS (h pins s σ H _ I hw) λv s1 bK=>?_) (he _);obtain⟨x,H1,I1,r1,q1⟩:=bK;obtain⟨d,rfl,q⟩:=q1;cases r1;exact XF ⟨H1,I1,q⟩
variable {tA Mg:TT}{rest:au}
noncomputable def Jl(t u:TT):TT:=λσ H Q=>t σ H λc H1=>if c=true then u σ H1 Q else Q false H1
noncomputable def RL(t u:TT):TT:=λσ H Q=>t σ H λc H1=>if c=true then Q true H1 else u σ H1 Q
noncomputable def NU(t:TT):TT:=λσ H Q=>t σ H λc H1=>Q (!c) H1
theorem uD(ha:PT X a tA):PW X (.BoolOp .And [a] pos) tA:=by
 intro wh pins s σ H Q I h;refine isTrue_and (cS (ha pins s σ H Q I h) λc s1 e=>?_);cases c with
 |true=>exact isTrue_and_nil e
 |false=>exact e
theorem ye(ha:PT X a tA):PW X (.BoolOp .Or [a] pos) tA:=by
 intro wh pins s σ H Q I h;refine isTrue_or (cS (ha pins s σ H Q I h) λc s1 e=>?_);cases c with
 |false=>exact isTrue_or_nil e
 |true=>exact e
theorem yf(ha:PT X a tA)(hb:PW X (.BoolOp .And (b::rest) pos) Mg):PW X (.BoolOp .And (a::b::rest) pos) (Jl tA Mg):=by
 intro wh pins s σ H Q I h;refine isTrue_and (cS (ha pins s σ H _ I h) λc s1 ⟨H1,I1,q1⟩=>?_);cases c with
 |true=>exact hb wh pins s1 σ H1 Q I1 q1
 |false=>exact⟨H1,I1,q1⟩
theorem C6(ha:PT X a tA)(hb:PW X (.BoolOp .Or (b::rest) pos) Mg):PW X (.BoolOp .Or (a::b::rest) pos) (RL tA Mg):=by
 intro wh pins s σ H Q I h;refine isTrue_or (cS (ha pins s σ H _ I h) λc s1 ⟨H1,I1,q1⟩=>?_);cases c with
 |true=>exact⟨H1,I1,q1⟩
 |false=>exact hb wh pins s1 σ H1 Q I1 q1
theorem oV(ha:PT X a tA):PT X (.UnaryOp .Not a pos) (NU tA):=by
 intro pins s σ H Q I h;exact isTrue_not (ha pins s σ H (λc H1=>Q (!c) H1) I h)
noncomputable def CU(ta tb:TE):TE:=λσ H Q=>ta σ H λx H1=>∃c,x=.bl c/\if c=true then tb σ H1 Q else Q (.bl false) H1
noncomputable def Jb(ta tb:TE):TE:=λσ H Q=>ta σ H λx H1=>∃c,x=.bl c/\if c=true then Q (.bl true) H1 else tb σ H1 Q
noncomputable def Jc(ta:TE):TE:=λσ H Q=>ta σ H λx H1=>∃c,x=.bl c/\Q (.bl (!c)) H1
theorem yr{op}{t:TE}(h:PE X a t):PE X (.BoolOp op [a] pos) t:=λpins s σ H Q I hw=>BoolOp_one (h pins s σ H Q I hw)
theorem Fd(ha:PE X a ta)(hb:PE X (.BoolOp .And (b::rest) pos) tb):PE X (.BoolOp .And (a::b::rest) pos) (CU ta tb):=by
 intro pins s σ H Q I h;refine BoolOp_and (cS (ha pins s σ H _ I h) λv s1 bK=>?_);obtain⟨x,H1,I1,r1,q1⟩:=bK;obtain⟨c,rfl,q1⟩:=q1;cases r1;refine XF ?_;cases c with
 |true=>exact hb pins s1 σ H1 Q I1 q1
 |false=>exact⟨.bl false,H1,I1,rfl,q1⟩
theorem JQ(ha:PE X a ta)(hb:PE X (.BoolOp .Or (b::rest) pos) tb):PE X (.BoolOp .Or (a::b::rest) pos) (Jb ta tb):=by
 intro pins s σ H Q I h;refine BoolOp_or (cS (ha pins s σ H _ I h) λv s1 bK=>?_);obtain⟨x,H1,I1,r1,q1⟩:=bK;obtain⟨c,rfl,q1⟩:=q1;cases r1;refine XF ?_;cases c with
 |false=>exact hb pins s1 σ H1 Q I1 q1
 |true=>exact⟨.bl true,H1,I1,rfl,q1⟩
theorem Fb(ha:PE X a ta):PE X (.UnaryOp .Not a pos) (Jc ta):=by
 intro pins s σ H Q I h;refine UnaryOp_ (cS (ha pins s σ H _ I h) λv s1 bK=>?_);obtain⟨x,H1,I1,r1,q1⟩:=bK;obtain⟨c,rfl,q1⟩:=q1;cases r1;exact not_of (XF ⟨.bl (!c),H1,I1,rfl,q1⟩)
noncomputable def T5(t:TT)(ta tb:TE):TE:=λσ H Q=>t σ H λc H1=>if c=true then ta σ H1 Q else tb σ H1 Q
theorem JR{c:Expr}(hc:PT X c tA)(ha:PE X a ta)(hb:PE X b tb):PE X (.IfExp c a b pos) (T5 tA ta tb):=by
 intro pins s σ H Q I h;refine wpAny_IfExp (cS (hc pins s σ H _ I h) λd s1 ⟨H1,I1,q1⟩=>?_);cases d with
 |true=>exact ha pins s1 σ H1 Q I1 q1
 |false=>exact hb pins s1 σ H1 Q I1 q1
end
end L2
namespace L2
open PySem PySem.Spec PyProof.Rows
def dF(K:ak)(H:Hp)(a:Addr)(xs:ae):Prop :=
 Rd H a (.lst xs) \/
  ∃(o:Obj) (aN:bx) (n:Nat),K.lookup a=some o/\o.cls=.type "list" /\ o.dict=none/\o.data=.seq aN n/\aN.size<=sizeLine/\Vals xs aN.toList
def a_(K:ak)(H:Hp)(a:Addr)(xs:ae):Prop :=
 Rd H a (.tup xs) \/
  ∃(o:Obj) (aN:bx) (n:Nat),K.lookup a=some o/\o.cls=.type "tuple" /\ o.data=.seq aN n/\aN.size<=sizeLine/\Vals xs aN.toList
noncomputable def Ro:Value->Option V
 |.none=>some .bB
 |.bool b=>some (.bl b)
 |.int i _=>some (.int i)
 |.str x _=>some (.str x)
 |.bytes b _=>some (.Nc b)
 |.float b _=>some (.Iy b)
 |.ref a=>some (.ref a)
 |.type n=>some (.ty n)
 |_=>none
theorem RelV.abs{x:V}{u:Value}(r:RelV x u):Ro u=some x:=by
 cases x with
 |bB=>cases r;rfl
 |bl _=>cases r;rfl
 |int _=>obtain⟨t,rfl⟩:=r;rfl
 |str _=>obtain⟨t,rfl⟩:=r;rfl
 |Nc _=>obtain⟨t,rfl⟩:=r;rfl
 |Iy _=>obtain⟨t,rfl⟩:=r;rfl
 |ref _=>cases r;rfl
 |ty _=>cases r;rfl
theorem RelV.inj{x y:V}{u:Value}(r:RelV x u)(q:RelV y u):x=y:=Xp (r.abs.symm.trans q.abs)
theorem Vals.inj:∀{xs ys:ae} {us:aq},Vals xs us->Vals ys us->xs=ys
 |_,_,_,.nil,.nil=>rfl
 |_,_,_,.cons r t,.cons r' t'=>by rw[r.inj r',Vals.inj t t']
variable {K:ak}
section
variable {X:Cx}{pins:aj}{σ:St}{H:Hp}{s:Shared}{a:Addr}{xs ys:ae}
theorem dF.of(h:H a=some (.lst xs)):dF K H a xs:=.inl (.inl h)
theorem a_.of(h:H a=some (.tup xs)):a_ K H a xs:=.inl (.inl h)
theorem Inv.list(I:Inv X pins σ H s)(h:dF X.K H a xs):∃aN:aq,Vals xs aN/\PlainL s.heap a aN.toArray/\xs.length<=sizeLine:=by
 rcases h with h|⟨o,aN,n,hk,hc,hd,hs,hz,r⟩
 ·obtain⟨z,aN,n,r,e⟩:=h.ok I.cn;exact⟨aN,r,⟨_,n,e,rfl,rfl,rfl⟩,z⟩
 ·refine⟨aN.toList,r,⟨o,n,I.uQ a o hk,hc,hd,by simpa using hs⟩,?_⟩;have e:=r.length;simp only[Array.length_toList]at e;left
theorem Inv.tuple(I:Inv X pins σ H s)(h:a_ X.K H a xs):∃aN:aq,Vals xs aN/\IsTup s.heap a aN.toArray/\xs.length<=sizeLine:=by
 rcases h with h|⟨o,aN,n,hk,hc,hs,hz,r⟩
 ·obtain⟨z,aN,r,p⟩:=h.ok I.cn;exact⟨aN,r,p,z⟩
 ·refine⟨aN.toList,r,⟨o,I.uQ a o hk,hc,n,by simpa using hs⟩,?_⟩;have e:=r.length;simp only[Array.length_toList]at e;left
theorem Inv.jJ(I:Inv X pins σ H s)(h:dF X.K H a xs)(h':dF X.K H a ys):xs=ys:=by
 obtain⟨aN,r,⟨o,n,e,_,_,d⟩,_⟩:=I.list h;obtain⟨its',r',⟨o',n',e',_,_,d'⟩,_⟩:=I.list h';rw[e]at e';cases e';rw[d]at d';injection d' with d1 _;have:aN=its':=by simpa using congrArg Array.toList d1
 subst this;exact r.inj r'
theorem Inv.nH(I:Inv X pins σ H s)(h:a_ X.K H a xs)(h':a_ X.K H a ys):xs=ys:=by
 obtain⟨aN,r,⟨o,e,_,n,d⟩,_⟩:=I.tuple h;obtain⟨its',r',⟨o',e',_,n',d'⟩,_⟩:=I.tuple h';rw[e]at e';cases e';rw[d]at d';injection d' with d1 _;have:aN=its':=by simpa using congrArg Array.toList d1
 subst this;exact r.inj r'
end
noncomputable abbrev Cx.lV(X:Cx)(E:aF):Cx:={ X with xe:=E }
abbrev Cx.sY(X:Cx):Cx:=X.lV λ_ _=>False
theorem Cx.Ok.lV{X:Cx}(ok:X.Ok)(E:aF):(X.lV E).Ok :=
 ⟨ok.mod,ok.kind,ok.glob,ok.blt,ok.above,ok.inj,ok.has,ok.DR,ok.hd,ok.frames,ok.En,ok.Lu,ok.bs,ok.zS,ok.qX,ok.tP,ok.jb,ok.xh⟩
variable {E:Value->Shared->Prop}{X:Cx}
theorem Cx.Ok.gf(ok:(X.lV E).Ok):X.Ok :=
 ⟨ok.mod,ok.kind,ok.glob,ok.blt,ok.above,ok.inj,ok.has,ok.DR,ok.hd,ok.frames,ok.En,ok.Lu,ok.bs,ok.zS,ok.qX,ok.tP,ok.jb,ok.xh⟩
section
variable {X:Cx}{pins:aj}{σ:St}{H:Hp}{s:Shared}{E:aF}
theorem Inv.lV(I:Inv X pins σ H s)(E:aF):Inv (X.lV E) pins σ H s:=⟨I.ok.lV E,I.os,I.bare,I.base,I.loc,I.cell,I.free,I.eR,I.pin,I.cn,I.len⟩
theorem Inv.gf(I:Inv (X.lV E) pins σ H s):Inv X pins σ H s:=⟨I.ok.gf,I.os,I.bare,I.base,I.loc,I.cell,I.free,I.eR,I.pin,I.cn,I.len⟩
theorem SP.gf{D:Ends}{f:Flow}{s':Shared}(h:SP (X.lV E) pins D f s'):SP X pins D f s':=by
 cases f with
 |next=>obtain⟨σ',H',I,q⟩:=h;exact⟨σ',H',I.gf,q⟩
 |brk=>obtain⟨σ',H',I,q⟩:=h;exact⟨σ',H',I.gf,q⟩
 |cont=>obtain⟨σ',H',I,q⟩:=h;exact⟨σ',H',I.gf,q⟩
 |ret u=>obtain⟨v,σ',H',I,r,q⟩:=h;exact⟨v,σ',H',I.gf,r,q⟩
theorem fJ.sY{st:aO}{t:TS}(h:fJ X.sY st t):fJ X st t:=λpins s σ H D I hw =>
 Xs (h pins s σ H D (I.lV _) hw) (λ_ _ q=>q.gf) λ_ _ z=>False.elim z
end
variable {H:Hp}{σ:L2.St}
section
variable {X:Cx}{st:Stmt}{rest:aO}{t u:TS}{e:Expr}{te:TE}{pos:Pos}
noncomputable def CQ:TS:=λD σ H=>D.nx σ H
noncomputable def NQ(t u:TS):TS:=λD σ H=>t { D with nx:=u D } σ H
theorem oX:fJ X [] CQ:=λ_ _ σ H _ I h=>X0 ⟨σ,H,I,h⟩
theorem bZ(h1:PS X st t)(h2:fJ X rest u):fJ X (st::rest) (NQ t u):=by
 intro pins s σ H D I h;refine wpAny_execs_cons (cS (h1 pins s σ H { D with nx:=u D } I h) λf s1 q=>?_);cases f with
 |next =>
  obtain⟨σ',H',I',q⟩:=q;exact h2 pins s1 σ' H' D I' q
 |ret v=>exact q
 |brk=>exact q
 |cont=>exact q
theorem fg(h1:PS X st t):fJ X [st] t:=by
 intro pins s σ H D I h;refine wpAny_execs_cons (cS (h1 pins s σ H D I h) λf s1 q=>?_);cases f with
 |next=>exact X0 q
 |ret v=>exact q
 |brk=>exact q
 |cont=>exact q
noncomputable def Em:TS:=λD σ H=>D.bk σ H
noncomputable def Jh:TS:=λD σ H=>D.ct σ H
theorem Mw:PS X (.Pass pos) CQ:=λ_ _ σ H _ I h=>wpAny_Pass ⟨σ,H,I,h⟩
theorem JO:PS X (.Break pos) Em:=λ_ _ σ H _ I h=>wpAny_Break ⟨σ,H,I,h⟩
theorem Dc:PS X (.Continue pos) Jh:=λ_ _ σ H _ I h=>wpAny_Continue ⟨σ,H,I,h⟩
theorem Inv.quiet{pins:aj}{s:Shared}(I:Inv X pins σ H s):interactive X.env=false:=by simp[interactive,I.ok.kind]
noncomputable def Jg(te:TE):TS:=λD σ H=>te σ H λ_ H1=>D.nx σ H1
theorem oY(he:PE X e te)(hs:swapsWith e none pos.line X.env=pure false:=by rfl):PS X (.Expr e pos) (Jg te):=by
 intro pins s σ H D I h;exact wpAny_Expr_any (cS (he pins s σ H _ I h) λv s1 ⟨x,H1,I1,r1,q1⟩=>⟨σ,H1,I1,q1⟩) I.quiet hs
noncomputable def NS(te:TE):TS:=λD σ H=>te σ H D.rt
theorem kg(he:PE X e te):PS X (.Return (some e) pos) (NS te):=by
 intro pins s σ H D I h;exact wpAny_Return_some (cS (he pins s σ H _ I h) λv s1 ⟨x,H1,I1,r1,q1⟩=>⟨x,σ,H1,I1,r1,q1⟩)
noncomputable def I_:TS:=λD _ H=>D.rt .bB H
theorem Mv:PS X (.Return none pos) I_:=λ_ _ σ H _ I h=>wpAny_Return_none ⟨.bB,σ,H,I,rfl,h⟩
noncomputable def NX(c:TT)(t u:TS):TS:=λD σ H=>c σ H λb H1=>if b=true then t D σ H1 else u D σ H1
theorem qQ{c:Expr}{a b:aO}{tc:TT}(hc:PT X c tc)(ha:fJ X a t)(hb:fJ X b u):PS X (.If c a b pos) (NX tc t u):=by
 intro pins s σ H D I h;refine wpAny_If (cS (hc pins s σ H _ I h) λd s1 ⟨H1,I1,q1⟩=>?_);cases d with
 |true=>exact ha pins s1 σ H1 D I1 q1
 |false=>exact hb pins s1 σ H1 D I1 q1
noncomputable def El:TS:=λ_ _ _=>False
end
noncomputable abbrev TG:=V->St->Hp->(St->Hp->Prop)->Prop
noncomputable abbrev Cz:=ae->St->Hp->(St->Hp->Prop)->Prop
def PG(X:Cx)(target:Expr)(t:TG):Prop :=
 ∀(pins:aj) (s:Shared) (σ:St) (H:Hp) (v:V) (u:Value) (Q:St->Hp->Prop),Inv X pins σ H s->RelV v u->t v σ H Q ->
  wpAny (model X.prog X.w) X.A (assign target X.env u) (λ_ s'=>∃σ' H',Inv X pins σ' H' s'/\Q σ' H') X.xe s
def IC(X:Cx)(ts:au)(t:Cz):Prop :=
 ∀(pins:aj) (s:Shared) (σ:St) (H:Hp) (vs:ae) (us:aq) (Q:St->Hp->Prop),Inv X pins σ H s->Vals vs us->t vs σ H Q ->
  wpAny (model X.prog X.w) X.A (assignInOrder ((assignEach ts X.env).map (·.2)) us) (λ_ s'=>∃σ' H',Inv X pins σ' H' s'/\Q σ' H') X.xe s
noncomputable abbrev HA:=V->V->V->Hp->(Hp->Prop)->Prop
def L8(X:Cx)(t:HA):Prop :=
 ∀(pins:aj) (s:Shared) (σ:St) (H:Hp) (o i v:V) (ov iv u:Value) (Q:Hp->Prop),Inv X pins σ H s->RelV o ov->RelV i iv->RelV v u->t o i v H Q ->
  wpAny (model X.prog X.w) X.A (setItem ov iv u) (λ_ s'=>∃H',Inv X pins σ H' s'/\Q H') X.xe s
noncomputable abbrev Nn:=V->V->Hp->VK->Prop
def Rv(X:Cx)(op:Operator)(t:Nn):Prop :=
 ∀(pins:aj) (s:Shared) (σ:St) (H:Hp) (x y:V) (v u:Value) (Q:VK),Inv X pins σ H s->RelV x v->RelV y u->t x y H Q ->
  wpAny (model X.prog X.w) X.A (inplaceOp op v u) (EP X pins σ Q) X.xe s
variable {es:au}{pos':Pos}{te:TE}{tg:Expr}
section
variable {X:Cx}{pos:Pos}
noncomputable def mx(i:Nat):TG:=λv σ H Q=>Q (σ.set i (some v)) H
theorem o6{i:Nat}{x:Str}(hN:X.N.Nodup)(hi:X.N[i]?=some x)(hx:Loc X.env.scope x)(hf:X.fn x=true\/X.env.scope.names.lookup x=some .local:=by first|exact .inl rfl|exact .inr rfl|assumption):PG X (.Name x pos) (mx i):=by
 intro pins s σ H v u Q I r h;exact wpAny_assign_Name (fM I hN hi hx r (λs' I'=>⟨_,H,I',h⟩) hf)
noncomputable def GD:Cz:=λvs σ H Q=>vs=[]/\Q σ H
noncomputable def zA(t:TG)(u:Cz):Cz:=λvs σ H Q=>∃v r,vs=v::r/\t v σ H λσ' H'=>u r σ' H' Q
theorem uE:IC X [] GD:=by
 intro pins s σ H vs us Q I r h;obtain⟨e,h⟩:=h;subst e;cases r;exact assignInOrder_nil ⟨σ,H,I,h⟩
theorem qR{e:Expr}{t:TG}{u:Cz}(h1:PG X e t)(h2:IC X es u)
  (hs:(assignEach (e::es) X.env).map (·.2)=assign e X.env::(assignEach es X.env).map (·.2):=by rfl):IC X (e::es) (zA t u):=by
 intro pins s σ H vs us Q I r h;obtain⟨v,vr,e1,h⟩:=h;subst e1;cases r with
 |cons r rr =>
  rw[hs];refine assignInOrder_cons (cS (h1 pins s σ H _ _ _ I r h) λ_ s1 bK=>?_);obtain⟨σ1,H1,I1,q1⟩:=bK;exact h2 pins s1 σ1 H1 _ _ Q I1 rr q1
def QG(K:ak)(n:Nat)(t:Cz):TG:=λv σ H Q=>∃a xs,v=.ref a/\a_ K H a xs/\xs.length=n/\t xs σ H Q
theorem yn{k:Nat}{t:Cz}{n:Nat}(hc:X.calm=true)(h:IC X es t)
  (hn:(assignEach es X.env).length=n:=by rfl) (la:(assignEach es X.env).findIdx? (·.1)=none:=by rfl):PG X (.Tuple es k pos) (QG X.K n t):=by
 intro pins s σ H v u Q I r hw;obtain⟨a,xs,e1,hq,hl,hw⟩:=hw;subst e1;cases r;obtain⟨aN,rv,ht,hz⟩:=I.tuple hq;refine assign_Tuple_tuple (I.ok.hd hc) ht (by simp[hn,<- hl,rv.length]) la λh' hx=>?_;have I1:Inv X pins σ H { s with heap:=h' }:=I.kept (t':=s.toks) λb o e=>hx b o (Xo (Xg e)) e;exact h pins _ σ H xs _ Q I1 (by simpa using rv) hw
noncomputable def QH(to ti:TE)(t:HA):TG:=λv σ H Q=>to σ H λo H1=>ti σ H1 λi H2=>t o i v H2 λH3=>Q σ H3
theorem yo{o i:Expr}{to ti:TE}{t:HA}(ho:PE X o to)(hi:PE X i ti)(hs:L8 X t)
  (ha:∀v,assign (.Subscript o i pos) X.env v=(do
   let ov <- holding [v] (eval o X.env)
   let iv <- holding [v,ov] (eval i X.env)
   standAt pos
   holding [v,ov,iv] (setItem ov iv v)
   release [v,ov,iv] []):=by intro _;rfl):PG X (.Subscript o i pos) (QH to ti t):=by
 intro pins s σ H v u Q I r h;rw[ha];refine Xf (XX (cS (ho pins s σ H _ I h) λov s1 bK=>?_));obtain⟨x,H1,I1,r1,q1⟩:=bK;refine Xf (XX (cS (hi pins s1 σ H1 _ I1 q1) λiv s2 bK=>?_));obtain⟨y,H2,I2,r2,q2⟩:=bK;refine Xf (YE (Xf (XX (cS (hs pins s2 σ H2 x y v ov iv u _ I2 r1 r2 r q2) λ_ s3 bK=>?_))));obtain⟨H3,I3,q3⟩:=bK;exact wpAny_release ⟨σ,H3,I3,q3⟩
noncomputable def Jk(te:TE)(g:TG):TS:=λD σ H=>te σ H λx H1=>g x σ H1 D.nx
theorem sO{e:Expr}{g:TG}(he:PE X e te)(hg:PG X tg g)(hs:swapsWithSole [tg] e pos.line X.env=pure false:=by rfl)(hw:swappedStores [tg] e X.env=pure none:=by rfl)
  (h1:(assignEach [tg] X.env).map (·.2)=[assign tg X.env]:=by rfl):PS X (.Assign [tg] e pos) (Jk te g):=by
 intro pins s σ H D I h;refine wpAny_Assign_stores (cS (he pins s σ H _ I h) λv s1 bK=>?_) hs hw;obtain⟨x,H1,I1,r1,q1⟩:=bK;rw[h1];exact cS (hg pins s1 σ H1 x v _ I1 r1 q1) λ_ s2 q=>q
theorem iY{i:Nat}{x:Str}{e:Expr}(hN:X.N.Nodup)(hi:X.N[i]?=some x)(hx:Loc X.env.scope x)(he:PE X e te)(hs:swapsWith e (some (.Name x pos')) pos.line X.env=pure false:=by rfl)(hf:X.fn x=true\/X.env.scope.names.lookup x=some .local:=by first|exact .inl rfl|exact .inr rfl|assumption):
  PS X (.Assign [.Name x pos'] e pos) (Jk te (mx i)):=by
 intro pins s σ H D I h;refine wpAny_Assign_Name (cS (he pins s σ H _ I h) λv s1 bK=>?_) hs;obtain⟨y,H1,I1,r1,q1⟩:=bK;exact fM I1 hN hi hx r1 (λs2 I2=>⟨_,H1,I2,q1⟩) hf
noncomputable def NT(i j:Nat)(ta:TA):TS:=λD σ H=>ta σ H λvs H1=>∃v w,vs=[v,w]/\D.nx ((σ.set i (some v)).set j (some w)) H1
theorem EY{i j:Nat}{x y:Str}{a b:Expr}{ta:TA}{px py pt:Pos}{kt k2 HS}(hc:X.calm=true)(hN:X.N.Nodup)(hi:X.N[i]?=some x)(hj:X.N[j]?=some y)(m5:i≠j)
  (hx:X.env.scope.names.lookup x=some .local) (hy:X.env.scope.names.lookup y=some .local) (ha:PA X [a,b] ta)
  (hw:swappedStores [.Tuple [.Name x px,.Name y py] kt pt] (.Tuple [a,b] k2 HS) X.env=pure (some [x,y]))
  (hs:swapsWithSole [.Tuple [.Name x px,.Name y py] kt pt] (.Tuple [a,b] k2 HS) pos.line X.env=pure false:=by rfl) :
  PS X (.Assign [.Tuple [.Name x px,.Name y py] kt pt] (.Tuple [a,b] k2 HS) pos) (NT i j ta):=by
 intro pins s σ H D I h;rw[exec_Assign_arm];refine Xf (YE ?_);rw[hs];refine Xf (Xh ?_);rw[if_neg (by decide)];refine Xf (Tuple_ (cS (ha _ pins s σ H _ I h) λus s1 bK=>?_));obtain⟨vs,H1,I1,r1,q1⟩:=bK;obtain⟨v,w,e1,q1⟩:=q1;subst e1;obtain⟨u1,u2,rfl,rv,k7⟩:∃u1 u2,us=[u1,u2]/\RelV v u1/\RelV w u2:=by
  cases r1 with
  |cons p q =>
   cases q with
   |cons p' q' =>
    cases q';exact⟨_,_,rfl,p,p'⟩
 refine Xv ?_ (by show 2<=sizeLine;decide);have I2:Inv X pins σ H1 { s1 with heap:=s1.heap.push { cls:=.type "tuple",data:=.seq [u1,u2].toArray } }:=I1.kept (t':=s1.toks) λb o e=>Xi _ e;rw[hw];refine Xf (Xh ?_);show wpAny (model X.prog X.w) X.A (do rule "assign.swapped-stores";let items <- unpackItems (.ref s1.heap.objs.size) 2 none;assignInOrder [λv=>bindName X.env y v,λv=>bindName X.env x v] items.reverse;pure Flow.next) _ _ _;refine Xf (wpAny_rule (Xf (unpackItems_tuple (items:=#[u1,u2]) (I.ok.hd hc) (IsTup.new s1.heap _) λh' Ga=>?_)));have I3:=I2.kept (h':=h') (t':=s1.toks) λb o e=>Ga b o (Xo (Xg e)) e;show wpAny _ _ (assignInOrder [λv=>bindName X.env y v,λv=>bindName X.env x v] [u2,u1] >>= λ_=>pure Flow.next) _ _ _;refine Xf (assignInOrder_cons (wpAny_bindName (fM I3 hN hj (.inl hy) k7 (λs2 I4=>?_) (.inr hy))));refine assignInOrder_cons (wpAny_bindName (fM I4 hN hi (.inl hx) rv (λs3 I5=>assignInOrder_nil (Xh ?_)) (.inr hx)));rw[List.set_comm _ _ (Ne.symm m5)]at I5;exact⟨_,H1,I5,q1⟩
noncomputable def N1(i:Nat)(te:TE)(ti:Nn):TS:=λD σ H=>∃x,σ[i]?=some (some x)/\te σ H λy H1=>ti x y H1 λz H2=>D.nx (σ.set i (some z)) H2
theorem ON{i:Nat}{x:Str}{e:Expr}{op:Operator}{ti:Nn}(hN:X.N.Nodup)(hi:X.N[i]?=some x)(hx:Loc X.env.scope x)(he:PE X e te)(ho:Rv X op ti)(hf:X.fn x=true\/X.env.scope.names.lookup x=some .local:=by first|exact .inl rfl|exact .inr rfl|assumption):
  PS X (.AugAssign (.Name x pos') op e pos) (N1 i te ti):=by
 intro pins s σ H D I h;obtain⟨v,e1,h⟩:=h;obtain⟨m,hn,hl⟩:=I.loc;have Md:D2 X.env.scope x:=by rcases hx with k|k;exact .inl k;exact .inr (.inl k)
 obtain⟨u,r,l⟩:=hl i x v hi e1 Md;refine wpAny_AugAssign_Name ?_;have go:wpAny (model X.prog X.w) X.A (eval e X.env) (λw s₂=>wpAny (model X.prog X.w) X.A (inplaceOp op u w) (λr s₃=>wpAny (model X.prog X.w) X.A (storeName X.env x r) (λ_=>SP X pins D .next) X.xe s₃) X.xe s₂) X.xe s:=by
  refine cS (he pins s σ H _ I h) λw s1 bK=>?_;obtain⟨y,H1,I1,r1,q1⟩:=bK;refine cS (ho pins s1 σ H1 v y u w _ I1 r r1 q1) λz s2 bK=>?_;obtain⟨zv,H2,I2,r2,q2⟩:=bK;exact fM I2 hN hi hx r2 (λs3 I3=>⟨_,H2,I3,q2⟩) hf
 rcases l with ⟨hk,hm⟩|⟨hk,c,hc,hcell⟩
 ·exact wpAny_loadName_local I.ok.kind hk hn hm go
 ·rcases hk with hk|hk
  ·exact wpAny_loadName_cell I.ok.kind hk hc hcell go
  ·rcases hx with k|k
   ·have:X.env.scope.names.lookup x=some .free:=hk;rw[k]at this;cases this
   ·have:X.env.scope.names.lookup x=some .free:=hk;rw[k]at this;cases this
noncomputable def Su(f:Int->Int->Int):Nn:=λx y H Q=>∃i j,x=.int i/\y=.int j/\Q (.int (f i j)) H
theorem Pt:Rv X .Add (Su λi j=>i+j):=by
 intro pins s σ H x y v u Q I r1 r2 h;obtain⟨i,j,e1,e2,q⟩:=h;subst e1;subst e2;obtain⟨t,rfl⟩:=r1;obtain⟨t',rfl⟩:=r2;exact iadd_int ⟨.int _,H,I.tok _,⟨_,rfl⟩,q⟩
theorem Pr:Rv X .Sub (Su λi j=>i - j):=by
 intro pins s σ H x y v u Q I r1 r2 h;obtain⟨i,j,e1,e2,q⟩:=h;subst e1;subst e2;obtain⟨t,rfl⟩:=r1;obtain⟨t',rfl⟩:=r2;exact isub_int ⟨.int _,H,I.tok _,⟨_,rfl⟩,q⟩
end
section
variable {X:Cx}{pos:Pos}
noncomputable def Ei(c:TT)(tb:TS):TS:=λD σ H=>∃W:Nat->St->Hp->Prop,(∃m,W m σ H)/\∀m σ H,W m σ H ->
 c σ H λb H1=>if b=true then ∃N:St->Hp->Prop,(∀σ' H',N σ' H'->∃m',m'<m/\W m' σ' H')/\tb { D with nx:=N,ct:=N,bk:=D.nx } σ H1 else D.nx σ H1
theorem yg{c:Expr}{body:aO}{tc:TT}{tb:TS}(hp:PassesOwn (model X.prog X.w) X.A X.env X.xe)(hc:PT X c tc)(hb:fJ X body tb):PS X (.While c body [] pos) (Ei tc tb):=by
 intro pins s σ H D I h;obtain⟨W,⟨m0,w0⟩,turn⟩:=h;refine wpAny_While (codeAny_whileLoop (λn s'=>∃σ' H',Inv X pins σ' H' s'/\W n σ' H') ?_ m0 ⟨σ,H,I,w0⟩);rintro n s1 ⟨σ1,H1,I1,w1⟩;refine XM hp (cS (hc pins s1 σ1 H1 _ I1 (turn n σ1 H1 w1)) λb s2 ⟨H2,I2,q2⟩=>?_);cases b with
 |true =>
  obtain⟨N,hN,q2⟩:=q2;rw[if_pos rfl];refine XM hp (cS (hb pins s2 σ1 H2 _ I2 q2) λf s3 q3=>?_);cases f with
  |next =>
   obtain⟨σ3,H3,I3,n3⟩:=q3;obtain⟨m',hm,w3⟩:=hN σ3 H3 n3;exact⟨m',hm,σ3,H3,I3,w3⟩
  |cont =>
   obtain⟨σ3,H3,I3,n3⟩:=q3;obtain⟨m',hm,w3⟩:=hN σ3 H3 n3;exact⟨m',hm,σ3,H3,I3,w3⟩
  |brk=>exact q3
  |ret v=>exact q3
 |false =>
  rw[if_neg Bool.false_ne_true];exact X0 ⟨σ1,H2,I2,q2⟩
end
structure It where
 go:Nat->Hp->Prop
 sj:Nat->Hp->V->Hp->Prop
 stop:Nat->Hp->Prop
noncomputable def mX(X:Cx)(pins:aj)(H:Hp)(b:Addr):Prop :=
 H b=none/\b≠X.env.locals/\b∉X.fs/\(b∈X.ex\/X.s₀.heap.objs.size<=b)/\(∀x c,X.env.cells.lookup x=some c->c≠b)/\∀p∈X.pn++pins,p.1≠b
theorem Inv.B5{pins:aj}{H':Hp}{s:Shared}{b:Addr}(I:Inv X pins σ H s)(hb:s.heap.objs.size<=b)(hn:H' b=none):mX X pins H' b:=by
 refine⟨hn,X5 (Xl I.lt hb),I.Fy hb,.inr (Xz I.sz hb),λx c e z=>?_,λp hp z=>?_⟩
 ·obtain⟨v,q⟩:=I.cell x c e;exact absurd (Xl q.lt (by rw[z];exact hb)) (Xx _)
 ·exact absurd (Xl (Xg (I.pin p hp).1) (by rw[z];exact hb)) (Xx _)
structure Turn(P:aJ)(w:World)(K:ak)(tg:Expr)(J:It)(fp:bt)(it:Addr)(tn:Nat->Heap->Prop):Prop where
 mem:it∈fp
 obj:∀i h,tn i h->∀b∈fp,∃o,h.get? b=some o/\∀v,o.data≠.cell v
 keep:∀i h h',tn i h->(∀b∈fp,∀o,h.get? b=some o->h'.get? b=some o)->tn i h'
 item:∀(X:Cx),X.prog=P->X.w=w->X.K=K->X.calm=true->∀(i:Nat) (pins:aj) (s:Shared) (σ:St) (H:Hp) (E:aF),Inv X pins σ H s->(∀b∈fp,mX X pins H b)->tn i s.heap->J.go i H ->
  wpAny (model P w) X.A (pyNext (.ref it)) (λr s1=>∃u,r=some u /\
   wpAny (model P w) X.A (letOwnedTupleGo tg (.ref it) u) (λ_ s2=>∃x H',Inv X pins σ H' s2/\RelV x u/\J.sj i H x H'/\tn (i+1) s2.heap/\∀b∈fp,H' b=none) E s1) E s
 done:∀(X:Cx),X.prog=P->X.w=w->X.K=K->X.calm=true->∀(i:Nat) (pins:aj) (s:Shared) (σ:St) (H:Hp) (E:aF),Inv X pins σ H s->(∀b∈fp,mX X pins H b)->tn i s.heap->J.stop i H ->
  wpAny (model P w) X.A (pyNext (.ref it)) (λr s1=>r=none/\Inv X pins σ H s1) E s
 self:∀(A:aQ) (i:Nat) (s:Shared) (Q:aF) (E:aF),tn i s.heap->Q (.ref it) s->wpAny (model P w) A (pyIter (.ref it)) Q E s
noncomputable abbrev TI:=St->Hp->(It->Hp->Prop)->Prop
def z6(X:Cx)(pins:aj)(σ:St)(tg:Expr)(R:It->Hp->Prop)(Pj:Value)(s2:Shared):Prop :=
 ∃(it:Addr) (fp:bt) (tn:Nat->Heap->Prop) (J:It) (H':Hp),Pj=.ref it/\Inv X pins σ H' s2/\Turn X.prog X.w X.K tg J fp it tn/\tn 0 s2.heap/\(∀b∈fp,mX X pins H' b)/\R J H'
def PI(X:Cx)(tg iter:Expr)(wi:TI):Prop :=
 ∀(pins:aj) (s:Shared) (σ:St) (H:Hp) (R:It->Hp->Prop),Inv X pins σ H s->wi σ H R ->
  wpAny (model X.prog X.w) X.A (eval iter X.env) (λv s1=>wpAny (model X.prog X.w) X.A (pyIter v) (z6 X pins σ tg R) X.xe s1) X.xe s
theorem zq{M:Model}{A:aQ}{s:Shared}{it:Addr}{u:Value}{o:Obj}{n:String}{vs:bx}{Q:Unit->Shared->Prop}(ho:s.heap.get? it=some o)(hc:o.cls=.type n)(hd:o.data=.fields vs)
    (hn:["enumerate","zip","dict_itemiterator","dict_reverseitemiterator","odict_iterator","itertools.zip_longest","itertools.pairwise"].contains n=false) (hQ:Q () s):wpAny M A (letOwnedTupleGo tg (.ref it) u) Q E s:=by
  unfold letOwnedTupleGo;cases tg<;>first
    |exact Xh hQ
    | (cases u<;>first
        |exact Xh hQ
        | (refine Xf (wpAny_load ho ?_)
           rw[hc,hd];show wpAny M A (if (["enumerate","zip","dict_itemiterator","dict_reverseitemiterator","odict_iterator","itertools.zip_longest","itertools.pairwise"].contains n&&vs[0]?==some (rawInt _))=true then _ else _) Q E s;rw[if_neg (by intro h;rw[hn,Bool.false_and]at h;cases h)];exact Xh hQ))
def IE(K:ak)(a:Addr):It :=
 ⟨λi H=>∃xs x,dF K H a xs/\xs[i]?=some x,λi H x H'=>H'=H/\∀xs,dF K H a xs->xs[i]?=some x,λi H=>∃xs,dF K H a xs/\xs.length<=i⟩
def ID(K:ak)(a:Addr):It :=
 ⟨λi H=>∃xs x,a_ K H a xs/\xs[i]?=some x,λi H x H'=>H'=H/\∀xs,a_ K H a xs->xs[i]?=some x,λi H=>∃xs,a_ K H a xs/\xs.length<=i⟩
noncomputable def wX(lo:Int)(n:Nat):It:=⟨λi _=>i<n,λi H x H'=>H'=H/\x=.int (lo+i),λi _=>n<=i⟩
variable {P:aJ}{w:World}
theorem vP(a it:Addr):Turn P w K tg (IE K a) [it] it (λi h=>h.IsListIter it a i) where
 mem:=by simp
 obj:=λi h st b hb=>by
  have e:b=it:=by simpa using hb
  subst e;obtain⟨o,e,c,d⟩:=st;exact⟨o,e,λv z=>by rw[d]at z;cases z⟩
 keep:=λi h h' st k=>st.at λo e=>k it (by simp) o e
 item:=by
  intro X hP hw hK hc i pins s σ H E I hf st hg;subst hP hw hK;obtain⟨xs,x,hq,hx⟩:=hg;obtain⟨aN,rv,p,hz⟩:=I.list hq;obtain⟨u,hu,ru⟩:=rv.get hx;obtain⟨f0,f1,f2,f3,f4,f5⟩:=hf it (by simp);refine wpAny_pyNext_list_item st p.isList (x:=u) (by simpa using hu) λh' xO sb=>?_;have I1:Inv X pins σ H { s with heap:=h' }:=I.turned (t':=s.toks) (λb o hb e=>(sb.2 b hb).trans e) f0 f1 f3 f4 f5;obtain⟨o,e,c,d⟩:=id xO;exact⟨u,rfl,zq (s:={ s with heap:=h' }) e c d (by decide) ⟨x,H,I1,ru,⟨rfl,λys hy=>by rw[I.jJ hy hq];exact hx⟩,xO,λb hb=>(hf b hb).1⟩⟩
 done:=by
  intro X hP hw hK hc i pins s σ H E I hf st hg;subst hP hw hK;obtain⟨xs,hq,hx⟩:=hg;obtain⟨aN,rv,p,hz⟩:=I.list hq;obtain⟨f0,f1,f2,f3,f4,f5⟩:=hf it (by simp);have hl:=rv.length;exact wpAny_pyNext_list_end (I.ok.hd hc) st p.isList (by simp;left) λh' eb=>⟨rfl,I.turned (t':=s.toks) (λb o hb e=>eb b o hb e) f0 f1 f3 f4 f5⟩
 self:=λ_ _ _ _ _ st h=>wpAny_pyIter_listiter st h
theorem sx(a it:Addr):Turn P w K tg (ID K a) [it] it (λi h=>h.IsTupleIter it a i) where
 mem:=by simp
 obj:=λi h st b hb=>by
  have e:b=it:=by simpa using hb
  subst e;obtain⟨o,e,c,d⟩:=st;exact⟨o,e,λv z=>by rw[d]at z;cases z⟩
 keep:=λi h h' st k=>st.at λo e=>k it (by simp) o e
 item:=by
  intro X hP hw hK hc i pins s σ H E I hf st hg;subst hP hw hK;obtain⟨xs,x,hq,hx⟩:=hg;obtain⟨aN,rv,p,hz⟩:=I.tuple hq;obtain⟨u,hu,ru⟩:=rv.get hx;obtain⟨f0,f1,f2,f3,f4,f5⟩:=hf it (by simp);refine wpAny_pyNext_tuple_item st (show s.heap.IsTuple a aN.toArray from p) (x:=u) (by simpa using hu) λh' xO sb=>?_;have I1:Inv X pins σ H { s with heap:=h' }:=I.turned (t':=s.toks) (λb o hb e=>(sb.2 b hb).trans e) f0 f1 f3 f4 f5;obtain⟨o,e,c,d⟩:=id xO;exact⟨u,rfl,zq (s:={ s with heap:=h' }) e c d (by decide) ⟨x,H,I1,ru,⟨rfl,λys hy=>by rw[I.nH hy hq];exact hx⟩,xO,λb hb=>(hf b hb).1⟩⟩
 done:=by
  intro X hP hw hK hc i pins s σ H E I hf st hg;subst hP hw hK;obtain⟨xs,hq,hx⟩:=hg;obtain⟨aN,rv,p,hz⟩:=I.tuple hq;obtain⟨f0,f1,f2,f3,f4,f5⟩:=hf it (by simp);have hl:=rv.length;exact wpAny_pyNext_tuple_end (I.ok.hd hc) st (show s.heap.IsTuple a aN.toArray from p) (by simp;left) λh' eb=>⟨rfl,I.turned (t':=s.toks) (λb o hb e=>eb b o hb e) f0 f1 f3 f4 f5⟩
 self:=λ_ _ _ _ _ st h=>wpAny_pyIter_tupleiter st h
theorem sy(it:Addr)(lo:Int)(n:Nat):Turn P w K tg (wX lo n) [it] it (λi h=>IsRangeIter h it (lo+(i:Nat)*1) ((n:Int) - (i:Nat)) 1) where
 mem:=by simp
 obj:=λi h st b hb=>by
  have e:b=it:=by simpa using hb
  subst e;exact⟨_,st,λv z=>by
   have z':Data.fields _=Data.cell v:=z;cases z'⟩
 keep:=λi h h' st k=>k it (by simp) _ st
 item:=by
  intro X hP hw hK hc i pins s σ H E I hf st hg;subst hP hw hK;obtain⟨f0,f1,f2,f3,f4,f5⟩:=hf it (by simp);have W:=Walks.range (prog:=X.prog) (w:=X.w) (I.ok.hd hc) it lo 1 n;refine W.item i s _ _ hg st λv h' tk hv xO kk=>?_;obtain⟨t,rfl⟩:=hv;have I1:Inv X pins σ H { s with heap:=h',toks:=tk }:=I.turned (λb o hb e=>kk b o (by simpa using hb) e) f0 f1 f3 f4 f5;refine⟨_,rfl,zq (s:={ s with heap:=h',toks:=tk }) (n:="range_iterator") xO rfl rfl (by decide) ⟨.int (lo+i),H,I1,⟨t,?_⟩,⟨rfl,rfl⟩,xO,λb hb=>(hf b hb).1⟩⟩;rw[Int.mul_one]
 done:=by
  intro X hP hw hK hc i pins s σ H E I hf st hg;subst hP hw hK;obtain⟨f0,f1,f2,f3,f4,f5⟩:=hf it (by simp);exact wpAny_pyNext_range_end (I.ok.hd hc) st (by have:n<=i:=hg;left) λh' eb=>⟨rfl,I.turned (t':=s.toks) (λb o hb e=>eb b o hb e) f0 f1 f3 f4 f5⟩
 self:=λ_ _ _ _ _ st h=>wpAny_pyIter_rangeiter st h
end L2
namespace L2
open PySem PySem.Spec PyProof.Rows
variable {H:Hp}{fp:bt}{lo:Int}{pos:Pos}{ta:TA}{σ:L2.St}
section
variable {X:Cx}{tg:Expr}
def Kv(K:ak)(tl:TE):TI:=λσ H R=>tl σ H λx H1=>∃a,x=.ref a/\(∃xs,dF K H1 a xs)/\R (IE K a) H1
def Pw(K:ak)(tl:TE):TI:=λσ H R=>tl σ H λx H1=>∃a,x=.ref a/\(∃xs,a_ K H1 a xs)/\R (ID K a) H1
theorem o5{l:Expr}{tl:TE}(hl:PE X l tl):PI X tg l (Kv X.K tl):=by
 intro pins s σ H R I h;refine cS (hl pins s σ H _ I h) λv s1 bK=>?_;obtain⟨x,H1,I1,r1,q1⟩:=bK;obtain⟨a,e,⟨xs,hq⟩,q⟩:=q1;subst e;cases r1;obtain⟨aN,rv,p,hz⟩:=I1.list hq;refine wpAny_pyIter_list p.isList ?_;refine⟨s1.heap.objs.size,[s1.heap.objs.size],_,_,H1,rfl,I1.kept (t':=s1.toks) λb o e=>Xi _ e,vP a _,⟨_,Xr _ rfl,rfl,rfl⟩,λb hb=>?_,q⟩;have e:b=s1.heap.objs.size:=by simpa using hb
 subst e;exact I1.B5 (Xj _) (I1.cn.fresh (Xj _))
theorem sQ{l:Expr}{tl:TE}(hl:PE X l tl):PI X tg l (Pw X.K tl):=by
 intro pins s σ H R I h;refine cS (hl pins s σ H _ I h) λv s1 bK=>?_;obtain⟨x,H1,I1,r1,q1⟩:=bK;obtain⟨a,e,⟨xs,hq⟩,q⟩:=q1;subst e;cases r1;obtain⟨aN,rv,p,hz⟩:=I1.tuple hq;refine wpAny_pyIter_tuple (show s1.heap.IsTuple a aN.toArray from p) ?_;refine⟨s1.heap.objs.size,[s1.heap.objs.size],_,_,H1,rfl,I1.kept (t':=s1.toks) λb o e=>Xi _ e,sx a _,⟨_,Xr _ rfl,rfl,rfl⟩,λb hb=>?_,q⟩;have e:b=s1.heap.objs.size:=by simpa using hb
 subst e;exact I1.B5 (Xj _) (I1.cn.fresh (Xj _))
theorem qN{pins:aj}{s:Shared}{R:It->Hp->Prop}{E:aF}{hi:Int}{t u v:Tok}{tk:Nat}(I:Inv X pins σ H s)(h1:-(2 ^ 62)<=lo)(h2:lo<2 ^ 62)(h3:-(2 ^ 62)<=hi)(h4:hi<2 ^ 62)
  (q:R (wX lo (hi - lo).toNat) H):wpAny (model X.prog X.w) X.A (pyIter (.ref s.heap.objs.size)) (z6 X pins σ tg R) E { s with heap:=s.heap.push { cls:=.type "range",data:=.fields #[.int lo t,.int hi u,.int 1 v] },toks:=tk }:=by
 refine wpAny_pyIter_range (IsRange.new ..) (small_one h1 h2 h3 h4) ?_;have I1:Inv X pins σ H { s with heap:=s.heap.push { cls:=.type "range",data:=.fields #[.int lo t,.int hi u,.int 1 v] },toks:=tk }:=I.kept λb o e=>Xi _ e;refine⟨(s.heap.push { cls:=.type "range",data:=.fields #[.int lo t,.int hi u,.int 1 v] }).objs.size,[(s.heap.push { cls:=.type "range",data:=.fields #[.int lo t,.int hi u,.int 1 v] }).objs.size],_,_,H,rfl,
  I1.kept (t':=tk) λb o e=>Xi _ e,sy _ lo (hi - lo).toNat,?_,λb hb=>?_,q⟩
 ·have e1:lo+((0:Nat):Int)*1=lo:=by simp
  have e2:(((hi - lo).toNat:Nat):Int) - ((0:Nat):Int)=Builtin.Range.rangeSize lo hi 1:=by rw[rangeSize_one];split<;>left
  show IsRangeIter _ _ (lo+((0:Nat):Int)*1) ((((hi - lo).toNat:Nat):Int) - ((0:Nat):Int)) 1;rw[e1,e2];exact Xr _ rfl
 ·have e:b=(s.heap.push { cls:=.type "range",data:=.fields #[.int lo t,.int hi u,.int 1 v] }).objs.size:=by simpa using hb
  subst e;exact I1.B5 (Xj _) (I1.cn.fresh (Xj _))
def Ku(ta:TA):TI:=λσ H R=>ta σ H λvs H1=>∃j:Int,vs=[.int j] /\ -(2 ^ 62)<=j/\j<2 ^ 62/\R (wX 0 j.toNat) H1
def Kt(ta:TA):TI:=λσ H R=>ta σ H λvs H1=>∃i j:Int,vs=[.int i,.int j]/\(-(2 ^ 62)<=i/\i<2 ^ 62 /\ -(2 ^ 62)<=j/\j<2 ^ 62)/\R (wX i (j - i).toNat) H1
theorem ki{a:Expr}{p:Pos}(hg:Gl X "range")(hm:X.mg "range" = none)(ha:PA X [a] ta)(hs:starEach [a] X.env=[(false,eval a X.env)]:=by rfl):PI X tg (.Call (.Name "range" p) [a] [] pos) (Ku ta):=by
 intro pins s σ H R I h;refine Call_ (hJ I hg hm boot_range (XB (cS (ha pos pins s σ H _ I h) λus s1 bK=>?_) hs rfl));obtain⟨vs,H1,I1,r1,q1⟩:=bK;obtain⟨j,e,q1,q2,q⟩:=q1;subst e;cases r1 with
 |cons r rr =>
  cases rr;obtain⟨t,rfl⟩:=r;exact call_range_1 (qN I1 (by left) (by left) q1 q2 (by simpa using q))
theorem nK{a b:Expr}{p:Pos}(hg:Gl X "range")(hm:X.mg "range" = none)(ha:PA X [a,b] ta)(hs:starEach [a,b] X.env=[(false,eval a X.env),(false,eval b X.env)]:=by rfl)(MQ:starEach [b] X.env=[(false,eval b X.env)]:=by rfl):
  PI X tg (.Call (.Name "range" p) [a,b] [] pos) (Kt ta):=by
 intro pins s σ H R I h;refine Call_ (hJ I hg hm boot_range (XB (cS (ha pos pins s σ H _ I h) λus s1 bK=>?_) (by rw[hs,MQ]) (by rw[MQ];rfl)));obtain⟨vs,H1,I1,r1,q1⟩:=bK;obtain⟨i,j,e,⟨q1,q2,q3,q4⟩,q⟩:=q1;subst e;cases r1 with
 |cons r rr =>
  cases rr with
  |cons r' rr =>
   cases rr;obtain⟨t,rfl⟩:=r;obtain⟨t',rfl⟩:=r';exact call_range_2 (qN I1 q1 q2 q3 q4 q)
noncomputable def NY(wi:TI)(g:TG)(tb:TS):TS:=λD σ H=>wi σ H λJ H1=>∃W:Nat->Nat->St->Hp->Prop,(∃m,W 0 m σ H1)/\∀i m σ H,W i m σ H ->
 (J.stop i H/\D.nx σ H)\/(J.go i H/\∃N:St->Hp->Prop,(∀σ' H',N σ' H'->∃m',m'<m/\W (i+1) m' σ' H')/\∀x H',J.sj i H x H'->g x σ H' λσ2 H2=>tb { D with nx:=N,ct:=N,bk:=D.nx } σ2 H2)
noncomputable def gZ(fp:bt)(h:Heap):aj:=fp.filterMap λb=>(h.get? b).map λo=>(b,o)
theorem gk{h:Heap}{b:Addr}{o:Obj}(hb:b∈fp)(e:h.get? b=some o):(b,o)∈gZ fp h:=List.mem_filterMap.mpr ⟨b,hb,by rw[e];rfl⟩
theorem nM{h:Heap}{p:Addr×Obj}(hp:p∈gZ fp h):p.1∈fp/\h.get? p.1=some p.2:=by
 obtain⟨b,hb,e⟩:=List.mem_filterMap.mp hp;cases q:h.get? b with
 |none=>rw[q]at e;cases e
 |some o =>
  rw[q]at e;have e':(b,o)=p:=Xp e;subst e';exact⟨hb,q⟩
theorem Inv.pinned{pins:aj}{s:Shared}(I:Inv X pins σ H s)(hf:∀b∈fp,mX X pins H b)(ho:∀b∈fp,∃o,s.heap.get? b=some o/\∀v,o.data≠.cell v):Inv X (pins++gZ fp s.heap) σ H s :=
 I.iA λp hp=>(List.mem_append.mp hp).elim (λz=>I.pin p (Xk _ z)) λz=>by
  obtain⟨hb,e⟩:=nM z;obtain⟨f0,f1,f2,_⟩:=hf p.1 hb;obtain⟨o,e',d⟩:=ho p.1 hb;rw[e]at e';cases e';exact⟨e,f0,f1,f2,d⟩
theorem Inv.jA{pins pl:aj}{s:Shared}(I:Inv X (pins++pl) σ H s):Inv X pins σ H s:=I.iA λp hp=>I.pin p (Xk _ (Xu _ hp))
theorem iZ{iter:Expr}{body:aO}{wi:TI}{g:TG}{tb:TS}(hp:PassesOwn (model X.prog X.w) X.A X.env X.xe)(hc:X.calm=true)(hi:PI X tg iter wi)(hg:PG X tg g)(hb:fJ X body tb)
  (hs:∀x,foldedSetIterable iter X.env x=pure x:=by intro _;rfl):PS X (.For tg iter body [] pos) (NY wi g tb):=by
 intro pins s σ H D I h;refine wpAny_For (cS (hi pins s σ H _ I h) λv s1 h1=>cS h1 λPj s2 h2=>?_) hs;obtain⟨it,fp,tn,J,H2,e,I2,T,Jr,f2,W,⟨m0,w0⟩,turn⟩:=h2;subst e;have Eo:∀{H':Hp},(∀b∈fp,H' b=none)->∀b∈fp,mX X pins H' b:=λhn b hb=>⟨hn b hb,(f2 b hb).2⟩
 refine codeAny_forLoop_any (λn s'=>∃i σ' H',Inv X pins σ' H' s'/\tn i s'.heap/\(∀b∈fp,H' b=none)/\W i n σ' H') ?_ m0 ⟨0,σ,H2,I2,Jr,λb hb=>(f2 b hb).1,w0⟩;rintro n s3 ⟨i,σ3,H3,I3,st3,fr3,w3⟩;rcases turn i n σ3 H3 w3 with ⟨stop,qn⟩|⟨go,N,hN,step⟩
 ·refine XM hp (cS (T.done X rfl rfl rfl hc i pins s3 σ3 H3 X.xe I3 (Eo fr3) st3 stop) λr s4 bK=>?_);obtain⟨hr,I4⟩:=bK;subst hr;exact X0 ⟨σ3,H3,I4,qn⟩
 ·refine XM hp (cS (T.item X rfl rfl rfl hc i pins s3 σ3 H3 X.xe I3 (Eo fr3) st3 go) λr s4 bK=>?_);obtain⟨u,hr,h4⟩:=bK;subst hr;refine XM hp (cS h4 λ_ s5 bK=>?_);obtain⟨x,H5,I5,r5,y5,Et,QL⟩:=bK;have RA:=I5.pinned (Eo QL) (T.obj _ _ Et);refine XM hp (cS (hg _ s5 σ3 H5 x u _ RA r5 (step x H5 y5)) λ_ s6 bK=>?_);obtain⟨σ6,H6,I6,q6⟩:=bK;refine XM hp (cS (hb _ s6 σ6 H6 _ I6 q6) λf s7 q7=>?_);have again:∀{σ7:St} {H7:Hp},Inv X (pins++gZ fp s5.heap) σ7 H7 s7->N σ7 H7->∃m,m<n/\∃i σ' H',Inv X pins σ' H' s7/\tn i s7.heap/\(∀b∈fp,H' b=none)/\W i m σ' H':=λ{σ7 H7} I7 n7=>by
   obtain⟨m',hm,w7⟩:=hN σ7 H7 n7;refine⟨m',hm,i+1,σ7,H7,I7.jA,T.keep _ _ _ Et λb hb o e=>(I7.pin (b,o) (Xk _ (Xk _ (gk hb e)))).1,λb hb=>?_,w7⟩;obtain⟨o,e,d⟩:=T.obj _ _ Et b hb;exact(I7.pin (b,o) (Xk _ (Xk _ (gk hb e)))).2.1
  cases f with
  |next=>obtain⟨σ7,H7,I7,n7⟩:=q7;exact again I7 n7
  |cont=>obtain⟨σ7,H7,I7,n7⟩:=q7;exact again I7 n7
  |brk=>obtain⟨σ7,H7,I7,q7⟩:=q7;exact⟨σ7,H7,I7.jA,q7⟩
  |ret v=>obtain⟨x7,σ7,H7,I7,r7,q7⟩:=q7;exact⟨x7,σ7,H7,I7.jA,r7,q7⟩
end
variable {K:ak}{xs:ae}
theorem rE{a:Addr}{g:TG}{tb:TS}{D:Ends}(Pv:Nat->St->Hp->Prop)(h0:Pv 0 σ H)(hl:∀i σ H,i<=xs.length->Pv i σ H->dF K H a xs)
  (hs:∀i x σ H,xs[i]?=some x->Pv i σ H->g x σ H λσ2 H2=>tb { D with nx:=Pv (i+1),ct:=Pv (i+1),bk:=D.nx } σ2 H2) (hd:∀σ H,Pv xs.length σ H->D.nx σ H) :
  ∃W:Nat->Nat->St->Hp->Prop,(∃m,W 0 m σ H)/\∀i m σ H,W i m σ H ->
   ((IE K a).stop i H/\D.nx σ H)\/((IE K a).go i H/\∃N:St->Hp->Prop,(∀σ' H',N σ' H'->∃m',m'<m/\W (i+1) m' σ' H')/\∀x H',(IE K a).sj i H x H'->g x σ H' λσ2 H2=>tb { D with nx:=N,ct:=N,bk:=D.nx } σ2 H2):=by
 refine⟨λi m σ H=>m=xs.length - i/\i<=xs.length/\Pv i σ H,⟨xs.length,by simp,X_ _,h0⟩,?_⟩;rintro i m σ H ⟨rfl,hi,p⟩;have q:=hl i σ H hi p;by_cases m4:i<xs.length
 ·refine .inr ⟨⟨xs,xs[i],q,by simp[m4]⟩,Pv (i+1),λσ' H' p'=>⟨xs.length - (i+1),by left,rfl,m4,p'⟩,λx H' y=>?_⟩;obtain⟨e,y⟩:=y;subst e;exact hs i x σ _ (y xs q) p
 ·have e:i=xs.length:=by left
  subst e;exact .inl ⟨⟨xs,q,Xj _⟩,hd σ H p⟩
theorem vh{a:Addr}{g:TG}{tb:TS}{D:Ends}(Pv:Nat->St->Hp->Prop)(h0:Pv 0 σ H)(hl:∀i σ H,i<=xs.length->Pv i σ H->a_ K H a xs)
  (hs:∀i x σ H,xs[i]?=some x->Pv i σ H->g x σ H λσ2 H2=>tb { D with nx:=Pv (i+1),ct:=Pv (i+1),bk:=D.nx } σ2 H2) (hd:∀σ H,Pv xs.length σ H->D.nx σ H) :
  ∃W:Nat->Nat->St->Hp->Prop,(∃m,W 0 m σ H)/\∀i m σ H,W i m σ H ->
   ((ID K a).stop i H/\D.nx σ H)\/((ID K a).go i H/\∃N:St->Hp->Prop,(∀σ' H',N σ' H'->∃m',m'<m/\W (i+1) m' σ' H')/\∀x H',(ID K a).sj i H x H'->g x σ H' λσ2 H2=>tb { D with nx:=N,ct:=N,bk:=D.nx } σ2 H2):=by
 refine⟨λi m σ H=>m=xs.length - i/\i<=xs.length/\Pv i σ H,⟨xs.length,by simp,X_ _,h0⟩,?_⟩;rintro i m σ H ⟨rfl,hi,p⟩;have q:=hl i σ H hi p;by_cases m4:i<xs.length
 ·refine .inr ⟨⟨xs,xs[i],q,by simp[m4]⟩,Pv (i+1),λσ' H' p'=>⟨xs.length - (i+1),by left,rfl,m4,p'⟩,λx H' y=>?_⟩;obtain⟨e,y⟩:=y;subst e;exact hs i x σ _ (y xs q) p
 ·have e:i=xs.length:=by left
  subst e;exact .inl ⟨⟨xs,q,Xj _⟩,hd σ H p⟩
theorem nZ{n:Nat}{g:TG}{tb:TS}{D:Ends}(Pv:Nat->St->Hp->Prop)(h0:Pv 0 σ H)
  (hs:∀i σ H,i<n->Pv i σ H->g (.int (lo+i)) σ H λσ2 H2=>tb { D with nx:=Pv (i+1),ct:=Pv (i+1),bk:=D.nx } σ2 H2) (hd:∀σ H,Pv n σ H->D.nx σ H) :
  ∃W:Nat->Nat->St->Hp->Prop,(∃m,W 0 m σ H)/\∀i m σ H,W i m σ H ->
   ((wX lo n).stop i H/\D.nx σ H)\/((wX lo n).go i H/\∃N:St->Hp->Prop,(∀σ' H',N σ' H'->∃m',m'<m/\W (i+1) m' σ' H')/\∀x H',(wX lo n).sj i H x H'->g x σ H' λσ2 H2=>tb { D with nx:=N,ct:=N,bk:=D.nx } σ2 H2):=by
 refine⟨λi m σ H=>m=n - i/\i<=n/\Pv i σ H,⟨n,by simp,X_ _,h0⟩,?_⟩;rintro i m σ H ⟨rfl,hi,p⟩;by_cases m4:i<n
 ·refine .inr ⟨m4,Pv (i+1),λσ' H' p'=>⟨n - (i+1),by left,rfl,m4,p'⟩,λx H' y=>?_⟩;obtain⟨e,y⟩:=y;subst e y;exact hs i σ _ m4 p
 ·have e:i=n:=by left
  subst e;exact .inl ⟨Xj _,hd σ H p⟩
end L2
namespace L2
open PySem PySem.Spec PyProof.Rows
noncomputable abbrev R2:=V->V->Hp->VK->Prop
def jt(X:Cx)(f:Value->Value->Sem Value)(r:R2):Prop :=
 ∀(pins:aj) (s:Shared) (σ:St) (H:Hp) (x y:V) (v u:Value) (Q:VK),Inv X pins σ H s->RelV x v->RelV y u->r x y H Q ->
  wpAny (model X.prog X.w) X.A (f v u) (EP X pins σ Q) X.xe s
def Rq(X:Cx)(f:Value->Sem Value)(r:V->Hp->VK->Prop):Prop :=
 ∀(pins:aj) (s:Shared) (σ:St) (H:Hp) (x:V) (v:Value) (Q:VK),Inv X pins σ H s->RelV x v->r x H Q ->
  wpAny (model X.prog X.w) X.A (f v) (EP X pins σ Q) X.xe s
def fq(X:Cx)(f:Value)(r:ae->Hp->VK->Prop):Prop :=
 ∀(pins:aj) (s:Shared) (σ:St) (H:Hp) (xs:ae) (us:aq) (Q:VK),Inv X pins σ H s->Vals xs us->r xs H Q ->
  wpAny (model X.prog X.w) X.A (call f us) (EP X pins σ Q) X.xe s
noncomputable def Ek(r:R2)(ta tb:TE):TE:=λσ H Q=>ta σ H λx H1=>tb σ H1 λy H2=>r x y H2 Q
noncomputable def T3(r:V->Hp->VK->Prop)(ta:TE):TE:=λσ H Q=>ta σ H λx H1=>r x H1 Q
noncomputable def rI(C:Int->Int->Prop)(g:Int->Int->V):R2:=λx y H Q=>∃i j,x=.int i/\y=.int j/\C i j/\Q (g i j) H
noncomputable def yc(g:Int->Int->V):R2:=λx y H Q=>∃i j,x=.int i/\y=.int j/\Q (g i j) H
noncomputable def rU(g:Int->V):V->Hp->VK->Prop:=λx H Q=>∃i,x=.int i/\Q (g i) H
variable {H:Hp}{σ:L2.St}
section
variable {X:Cx}{a b c:Expr}{ta tb tc:TE}{pos:Pos}
theorem Hu(ha:PE X a ta)(hb:PE X b tb){pins:aj}{s:Shared}{R:V->V->Hp->Prop}(I:Inv X pins σ H s)
  (h:ta σ H λx H1=>tb σ H1 λy H2=>R x y H2) {Q:aF} {f:Value->Value->Sem Value}
  (hf:∀v u s2 x y H2,Inv X pins σ H2 s2->RelV x v->RelV y u->R x y H2->wpAny (model X.prog X.w) X.A (f v u) Q X.xe s2) :
  wpAny (model X.prog X.w) X.A (eval a X.env) (λv s₁=>wpAny (model X.prog X.w) X.A (eval b X.env) (λu s₂=>wpAny (model X.prog X.w) X.A (f v u) Q X.xe s₂) X.xe s₁) X.xe s:=by
 refine cS (ha pins s σ H _ I h) λv s1 bK=>?_;obtain⟨x,H1,I1,r1,q1⟩:=bK;refine cS (hb pins s1 σ H1 _ I1 q1) λu s2 bK=>?_;obtain⟨y,H2,I2,r2,q2⟩:=bK;exact hf v u s2 x y H2 I2 r1 r2 q2
theorem uG{op:Operator}{r:R2}(ho:jt X (binaryOp op) r)(ha:PE X a ta)(hb:PE X b tb):PE X (.BinOp a op b pos) (Ek r ta tb):=by
 intro pins s σ H Q I h;exact wpAny_BinOp (Hu ha hb I h λv u s2 x y H2 I2 rx ry q=>ho pins s2 σ H2 x y v u Q I2 rx ry q)
theorem JP{op:UnaryOp}{r:V->Hp->VK->Prop}(ho:Rq X (unaryOp op) r)(ha:PE X a ta):PE X (.UnaryOp op a pos) (T3 r ta):=by
 intro pins s σ H Q I h;exact UnaryOp_ (cS (ha pins s σ H _ I h) λv s1 ⟨x,H1,I1,r1,q1⟩=>ho pins s1 σ H1 x v Q I1 r1 q1)
theorem Fv{f:Value->Value->Sem Value}{C:Int->Int->Prop}{g:Int->Int->Int}
  (rule:∀(i j:Int) (t u:Tok) (s:Shared) (Q:aF) (E:aF),C i j->Q (.int (g i j) s.toks) { s with toks:=s.toks+1 }->wpAny (model X.prog X.w) X.A (f (.int i t) (.int j u)) Q E s) :
  jt X f (rI C λi j=>.int (g i j)):=by
 intro pins s σ H x y v u Q I rx ry h;obtain⟨i,j,rfl,rfl,hc,q⟩:=h;obtain⟨t,rfl⟩:=rx;obtain⟨t',rfl⟩:=ry;exact rule i j t t' s _ _ hc ⟨.int (g i j),H,I.tok _,⟨_,rfl⟩,q⟩
theorem OU{f:Value->Value->Sem Value}{g:Int->Int->Int}
  (rule:∀(i j:Int) (t u:Tok) (s:Shared) (Q:aF) (E:aF),Q (.int (g i j) s.toks) { s with toks:=s.toks+1 }->wpAny (model X.prog X.w) X.A (f (.int i t) (.int j u)) Q E s) :
  jt X f (yc λi j=>.int (g i j)):=by
 intro pins s σ H x y v u Q I rx ry h;obtain⟨i,j,rfl,rfl,q⟩:=h;obtain⟨t,rfl⟩:=rx;obtain⟨t',rfl⟩:=ry;exact rule i j t t' s _ _ ⟨.int (g i j),H,I.tok _,⟨_,rfl⟩,q⟩
theorem Bm{f:Value->Value->Sem Value}{g:Int->Int->Bool}
  (rule:∀(i j:Int) (t u:Tok) (s:Shared) (Q:aF) (E:aF),Q (.bool (g i j)) s->wpAny (model X.prog X.w) X.A (f (.int i t) (.int j u)) Q E s) :
  jt X f (yc λi j=>.bl (g i j)):=by
 intro pins s σ H x y v u Q I rx ry h;obtain⟨i,j,rfl,rfl,q⟩:=h;obtain⟨t,rfl⟩:=rx;obtain⟨t',rfl⟩:=ry;exact rule i j t t' s _ _ ⟨.bl (g i j),H,I,rfl,q⟩
theorem su(k:Nat):(0:Int)<=2 ^ k:=by
 rw[two_pow_cast];exact Int.natCast_nonneg _
theorem Ft:jt X (binaryOp .Add) (yc λi j=>.int (i+j)):=OU λ_ _ _ _ _ _ _ q=>add_int q
theorem Bj:jt X (binaryOp .Mod) (rI (λ_ j=>j≠0) λi j=>.int (i.fmod j)):=Fv λ_ _ _ _ _ _ _ hc q=>mod_int' hc q
theorem OR:jt X (binaryOp .RShift) (rI (λ_ j=>0<=j) λi j=>.int (i / 2 ^ j.toNat)):=Fv λi j _ _ _ _ _ hc q =>
 rshift_int hc (by rw[Int.fdiv_eq_ediv_of_nonneg i (su _)];exact q)
theorem TU{f:Value->Sem Value}{g:Int->Int}
  (rule:∀(i:Int) (t:Tok) (s:Shared) (Q:aF) (E:aF),Q (.int (g i) s.toks) { s with toks:=s.toks+1 }->wpAny (model X.prog X.w) X.A (f (.int i t)) Q E s) :
  Rq X f (rU λi=>.int (g i)):=by
 intro pins s σ H x v Q I rx h;obtain⟨i,rfl,q⟩:=h;obtain⟨t,rfl⟩:=rx;exact rule i t s _ _ ⟨.int (g i),H,I.tok _,⟨_,rfl⟩,q⟩
theorem Eg:Rq X (unaryOp .USub) (rU λi=>.int (-i)):=TU λ_ _ _ _ _ q=>neg_int q
end
variable {us:aq}
section
variable {X:Cx}{a b c:Expr}{ta tb tc:TE}{pos:Pos}
theorem zC{pins:aj}{s:Shared}{Q:VK}{k k':Bool}(I:Inv X pins σ H s)(q:Q (.bl k) H)(e:k=k'):EP X pins σ Q (.bool k') s:=by
 subst e;exact⟨.bl k,H,I,rfl,q⟩
theorem JU:jt X (compareOp .Lt) (yc λi j=>.bl (decide (i<j))):=Bm λ_ _ _ _ _ _ _ q=>lt_int q
theorem JV:jt X (compareOp .LtE) (yc λi j=>.bl (decide (i<=j))):=Bm λ_ _ _ _ _ _ _ q=>le_int q
theorem JW:jt X (compareOp .Gt) (yc λi j=>.bl (decide (j<i))):=Bm λ_ _ _ _ _ _ _ q=>gt_int q
theorem JX:jt X (compareOp .GtE) (yc λi j=>.bl (decide (j<=i))):=Bm λ_ _ _ _ _ _ _ q=>ge_int q
theorem OT:jt X (compareOp .Is) (λx y H Q=>y=.bB/\Q (.bl (decide (x=.bB))) H):=by
 intro pins s σ H x y v u Q I rx ry h;obtain⟨rfl,q⟩:=h;cases ry;refine is_none_gen (zC I q ?_);cases x<;>first
  | (cases rx;rfl)
  | (obtain⟨t,rfl⟩:=rx;rfl)
theorem MA:jt X (compareOp .IsNot) (λx y H Q=>y=.bB/\Q (.bl (!decide (x=.bB))) H):=by
 intro pins s σ H x y v u Q I rx ry h;obtain⟨rfl,q⟩:=h;cases ry;refine isnot_none_gen (zC I q ?_);cases x<;>first
  | (cases rx;rfl)
  | (obtain⟨t,rfl⟩:=rx;rfl)
theorem jt.or{f:Value->Value->Sem Value}{r r':R2}(h:jt X f r)(h':jt X f r'):jt X f (λx y H Q=>r x y H Q\/r' x y H Q):=by
 intro pins s σ H x y v u Q I rx ry q;rcases q with q|q
 ·exact h pins s σ H x y v u Q I rx ry q
 ·exact h' pins s σ H x y v u Q I rx ry q
theorem O0(b:Expr){op:CmpOp}(h:op≠.In:=by decide)(h2:op≠.NotIn:=by decide):behindInMarks op b=false:=by
 have e1:(op==CmpOp.In)=false:=by cases op<;>first|rfl|exact absurd rfl h
 have e2:(op==CmpOp.NotIn)=false:=by cases op<;>first|rfl|exact absurd rfl h2
 cases b<;>simp[behindInMarks,e1,e2]
theorem Ba{op:CmpOp}{r:R2}(ho:jt X (compareOp op) r)(ha:PE X a ta)(hb:PE X b tb)(hm:behindInMarks op b=false):PE X (.Compare a [op] [b] pos) (Ek r ta tb):=by
 intro pins s σ H Q I h;exact wpAny_Compare1 (Hu ha hb I h λv u s2 x y H2 I2 rx ry q=>ho pins s2 σ H2 x y v u Q I2 rx ry q) hm
noncomputable def CP(t:TE):TT:=λσ H Q=>t σ H λx H'=>∃k,x=.bl k/\Q k H'
theorem A2{op:CmpOp}{r:R2}(ho:jt X (compareOp op) r)(ha:PE X a ta)(hb:PE X b tb)(hm:behindInMarks op b=false):PT X (.Compare a [op] [b] pos) (CP (Ek r ta tb)):=by
 intro pins s σ H Q I h;refine wpAny_isTrue_Compare1 (cS (ha pins s σ H _ I h) λv s1 ⟨x,H1,I1,r1,q1⟩=>cS (hb pins s1 σ H1 _ I1 q1) λu s2 ⟨y,H2,I2,r2,q2⟩ =>
  cS (ho pins s2 σ H2 x y v u _ I2 r1 r2 q2) λc s3 ⟨z,H3,I3,r3,k,e,q3⟩=>?_) hm
 subst e;cases r3;exact XF ⟨H3,I3,q3⟩
theorem pv:(sizeLine:Nat)<2 ^ 63:=by rw[sizeLine_eq];decide
theorem vals1{x:V}(r:Vals [x] us):∃u,us=[u]/\RelV x u:=by
 cases r with
 |cons r1 r2=>cases r2;exact⟨_,rfl,r1⟩
theorem vals2{x y:V}(r:Vals [x,y] us):∃u w',us=[u,w']/\RelV x u/\RelV y w':=by
 cases r with
 |cons r1 r2 =>
  cases r2 with
  |cons r3 r4=>cases r4;exact⟨_,_,rfl,r1,r3⟩
theorem zR:fq X (.builtin "abs") (λxs H Q=>∃i,xs=[.int i]/\Q (.int (if i<0 then -i else i)) H):=by
 intro pins s σ H xs us Q I r h;obtain⟨i,rfl,q⟩:=h;obtain⟨u,rfl,t,rfl⟩:=vals1 r;exact call_abs_int λu tk=>⟨.int (if i<0 then -i else i),H,I.tok _,⟨_,rfl⟩,q⟩
theorem wU(hc:X.calm=true):fq X (.builtin "max") (λxs H Q=>∃i j,xs=[.int i,.int j]/\Q (.int (if j>i then j else i)) H):=by
 intro pins s σ H xs us Q I r h;obtain⟨i,j,rfl,q⟩:=h;obtain⟨u,w',rfl,⟨t,rfl⟩,⟨t',rfl⟩⟩:=vals2 r;refine max_two_ints (I.ok.hd hc) λh' tk k=>⟨_,H,I.kept k,?_,q⟩
 by_cases hj:j>i
 ·rw[if_pos hj,if_pos hj];exact⟨_,rfl⟩
 ·rw[if_neg hj,if_neg hj];exact⟨_,rfl⟩
theorem wR(hc:X.calm=true):fq X (.builtin "min") (λxs H Q=>∃i j,xs=[.int i,.int j]/\Q (.int (if j<i then j else i)) H):=by
 intro pins s σ H xs us Q I r h;obtain⟨i,j,rfl,q⟩:=h;obtain⟨u,w',rfl,⟨t,rfl⟩,⟨t',rfl⟩⟩:=vals2 r;refine min_two_ints (I.ok.hd hc) λh' tk k=>⟨_,H,I.kept k,?_,q⟩
 by_cases hj:j<i
 ·rw[if_pos hj,if_pos hj];exact⟨_,rfl⟩
 ·rw[if_neg hj,if_neg hj];exact⟨_,rfl⟩
theorem IA:fq X (.type "int") (λxs H Q=>(∃i,xs=[.int i]/\Q (.int i) H)\/∃k,xs=[.bl k]/\Q (.int (if k then 1 else 0)) H):=by
 intro pins s σ H xs us Q I r h;rcases h with ⟨i,rfl,q⟩|⟨k,rfl,q⟩
 ·obtain⟨u,rfl,t,rfl⟩:=vals1 r;exact call_int_int ⟨.int i,H,I,⟨_,rfl⟩,q⟩
 ·obtain⟨u,rfl,r1⟩:=vals1 r;cases r1;exact call_int_bool ⟨.int (if k then 1 else 0),H,I.tok _,⟨_,rfl⟩,q⟩
end
end L2
namespace L2
open PySem PySem.Spec PyProof.Rows
structure Wv(h:Heap)(x dx C:Addr)(mA:aP):Prop where
 obj:h.get? x=some (PySem.W.instObj C dx)
 ns:h.Ns1 dx mA
 ne:dx≠x
section
variable {prog:aJ}{w:World}{A:aQ}{E:aF}{s:Shared}{K:ak}{x dx C f:Addr}{mA:aP}{name:Str}{v:Value}
end
section
variable {P:aJ}{w:World}{H H':Hp}{h h':Heap}{a C dx:Addr}{fs VY:List (Str×V)}
end
structure HK(K:ak)(C:Addr):Prop where
 pg:PySem.W.plainGet K C Str.empty=true
 hd:PySem.W.hasDictIn K C=true
 po:PySem.W.plainOver K C=true
 sa:PySem.W.findIn K (.ref C) "__setattr__" = some (some (.builtin "object.__setattr__"))
structure Xc(K:ak)(C:Addr)(f:Str)(v:V)(u:Value):Prop where
 at_:PySem.W.findIn K (.ref C) f=some (some u)
 rel:RelV v u
 get:PySem.W.specialIn K u "__get__" = some none
 cp:PySem.W.copiedNames.contains f=false
structure Meth(K:ak)(C:Addr)(m:Str)(f:Addr):Prop where
 at_:PySem.W.findIn K (.ref C) m=some (some (.ref f))
 fn:PySem.W.isFn K (.ref f)=true
 kp:PySem.W.keepIn K (.ref f)=true
section
variable {X:Cx}{pins:aj}{σ:St}{H:Hp}{s:Shared}{a C dx:Addr}{fs:List (Str×V)}{f:Str}{v:V}{A:aQ}{E:aF}
end
section
variable {X:Cx}{o e value:Expr}{f:Str}{pos pos' T1:Pos}{ta tv:TE}
end
section
variable {X:Cx}{pins:aj}{σ:St}{H:Hp}{s:Shared}{A:aQ}{E:aF}{Q:aF}{c:Value}{b:Bool}
inductive mT(K:ak)(H:Hp):V->Value->Prop where
 |bB:mT K H .bB (.type "NoneType")
 |bl (x:Bool):mT K H (.bl x) (.type "bool")
 |int (i:Int):mT K H (.int i) (.type "int")
 |str (x:Str):mT K H (.str x) (.type "str")
 |Iy (x:UInt64):mT K H (.Iy x) (.type "float")
 |lst {a:Addr} {xs:ae} (e:H a=some (.lst xs)):mT K H (.ref a) (.type "list")
 |iE {a:Addr} {o:Obj} {xs:ae} (e:H a=some (.iE o (.lst xs))):mT K H (.ref a) (.type "list")
 |tup {a:Addr} {xs:ae} (e:H a=some (.tup xs)):mT K H (.ref a) (.type "tuple")
 |dK {a:Addr} {mi:List (Key×V)} (e:H a=some (.dK mi)):mT K H (.ref a) (.type "dict")
 |dT {a:Addr} {mi:List (List Key×V)} (e:H a=some (.dT mi)):mT K H (.ref a) (.type "dict")
 |ins {a C dx:Addr} {fs:List (Str×V)} (e:H a=some (.ins C dx fs)) (cl:HK K C) (ha:PySem.W.findIn K (.ref C) "__class__" = some (some (.builtin "object.__class__")))
   (hn:PySem.W.specialIn K (.builtin "object.__class__") "__get__" = some (some (.builtin "getset_descriptor.__get__"))) (WY:PySem.W.takesIn K (.builtin "object.__class__")=some true)
   (hm:PySem.W.mroIn K C (.type "object")=some true):mT K H (.ref a) (.ref C)
end
end L2
namespace L2
open PySem PySem.Spec PyProof.Rows
structure f_(k:Nat)(A:aQ):Prop where
 hd:A.handled=none
 dp:A.depth+3*k+5<recursionLimit
 un:A.units+16*k+200<cLine
variable {A:aQ}
theorem f_.mono{j k:Nat}(r:f_ k A)(h:j<=k):f_ j A:=⟨r.hd,by have:=r.dp;left,by have:=r.un;left⟩
theorem f_.deeper{k:Nat}{A:aQ}(r:f_ (k+1) A)(env:Env):f_ k (A.deeper env) :=
 ⟨r.hd,by have:=r.dp;show A.depth+1+3*k+5<_;left,by have:=r.un;show A.units+3+16*k+200<_;left⟩
theorem f_.depth{k:Nat}{A:aQ}(r:f_ k A):A.depth<recursionLimit:=by have:=r.dp;left
theorem f_.units{k:Nat}{A:aQ}(r:f_ k A):A.units+64<cLine:=by have:=r.un;left
noncomputable def Je:TA:=λ_ H Q=>Q [] H
noncomputable def CT(ta:TE)(tr:TA):TA:=λσ H Q=>ta σ H λx H1=>tr σ H1 λxs H2=>Q (x::xs) H2
section
variable {X:Cx}{e:Expr}{es:au}{te:TE}{t:TA}{pos:Pos}
theorem eM:PA X [] Je:=λ_ _ _ _ H Q I h=>Calls.spliced_nil ⟨[],H,I,.nil,h⟩
theorem cA(ha:PE X e te)(hr:PA X es t)(hs:starEach (e::es) X.env=(false,eval e X.env)::starEach es X.env:=by rfl):PA X (e::es) (CT te t):=by
 intro pos pins s σ H Q I h;rw[hs];show wpAny _ _ (spliced ((false,eval e X.env)::backTo pos (starEach es X.env))) _ _ s;refine Calls.spliced_cons (cS (ha pins s σ H _ I h) λu s1 bK=>?_);obtain⟨x,H1,I1,r1,q1⟩:=bK;exact cS (hr pos pins s1 σ H1 _ I1 q1) λus s2 ⟨xs,H2,I2,r2,q2⟩=>⟨x::xs,H2,I2,.cons r1 r2,q2⟩
def NP(t:TA):TE:=λσ H Q=>t σ H λxs H1=>xs.length<=sizeLine/\∀p,H1 p=none->Q (.ref p) (upd H1 p (.tup xs))
def NV(t:TA):TE:=λσ H Q=>t σ H λxs H1=>xs.length<=sizeLine/\∀p,H1 p=none->Q (.ref p) (upd H1 p (.lst xs))
theorem E_{x1}(h:PA X es t):PE X (.Tuple es x1 pos) (NP t):=by
 intro pins s σ H Q I hq;refine wpAny_Tuple_spliced (cS (h pos pins s σ H _ I hq) λus s1 ⟨xs,H1,I1,r,z,q⟩=>⟨by rw[<- r.length];exact z,?_⟩);have hf:H1 s1.heap.objs.size=none:=I1.cn.fresh (Xj _);refine⟨.ref s1.heap.objs.size,upd H1 s1.heap.objs.size (.tup xs),I1.laid (t':=s1.toks) (λb u e=>Xi _ e) (Xj _) ?_,rfl,q _ hf⟩;exact⟨z,us,r,⟨_,Xr _ rfl,rfl,_,rfl⟩⟩
theorem sR(h:PA X es t):PE X (.List es pos) (NV t):=by
 intro pins s σ H Q I hq;refine wpAny_List_spliced (cS (h pos pins s σ H _ I hq) λus s1 ⟨xs,H1,I1,r,z,q⟩=>⟨by rw[<- r.length];exact z,?_⟩);have hf:H1 s1.heap.objs.size=none:=I1.cn.fresh (Xj _);refine⟨.ref s1.heap.objs.size,upd H1 s1.heap.objs.size (.lst xs),I1.laid (t':=s1.toks) (λb u e=>Xi _ e) (Xj _) ?_,rfl,q _ hf⟩;exact⟨z,us,0,r,Xr _ rfl⟩
end
noncomputable abbrev Sp:=ae->Hp->VK->XK->Prop
noncomputable abbrev vI:=List Env->Hp->Shared->XK->aF
structure CD(P:aJ)(w:World)(K:ak)(mg:aP)(base:Heap)(A:aQ)(outer:List Env)(s:Shared)(H:Hp):Prop where
 frames:A.frames=some outer
 mod:Mod K mg base
 bs:∀b o,base.get? b=some o->s.heap.get? b=some o/\H b=none
 zS:base.objs.size<=s.heap.objs.size
 jb:s.heap.FunFrames base outer
 xh:∀b∈kv outer,H b=none
 cn:iI P w H s.heap
 bare:AllBare s.gens
def CE(outer:List Env)(P:aJ)(w:World)(H:Hp)(s:Shared)(Q:VK)(u:Value)(s':Shared):Prop :=
 ∃v H',s'.os=s.os/\AllBare s'.gens/\Un (kv outer) [] H H' s.heap s'.heap/\iI P w H' s'.heap/\RelV v u/\Q v H'
noncomputable def CR(CX:vI)(outer:List Env)(P:aJ)(w:World)(H:Hp)(s:Shared)(Q:VK)(E:XK)(r:Result)(s':Shared):Prop :=
 match r with
 |.ok (.ret u)=>CE outer P w H s Q u s'
 |.ok _=>False
 |.error e=>CX outer H s E e s'
structure eF(P:aJ)(w:World)(K:ak)(mg:aP)(base:Heap)(CX:vI)(k:Nat)(f:Addr)(fd:FuncData)(ps:av)(sp:Sp):Prop where
 len:∀vs H Q E,sp vs H Q E->vs.length=ps.length
 run:∀(A:aQ) (outer:List Env) (s:Shared) (H:Hp) (args:Args) (us:aq) (vs:ae) (Q:VK) (E:XK),f_ k A->CD P w K mg base A outer s H->BindsTo s fd args (ps.zip us)->Vals vs us->sp vs H Q E ->
  codeAny (model P w) A (.call (.ref f) args) (CR CX outer P w H s Q E) s
theorem eF.mono{P:aJ}{w:World}{K:ak}{mg:aP}{base:Heap}{CX:vI}{j k:Nat}{f:Addr}{fd:FuncData}{ps:av}{sp:Sp}(F:eF P w K mg base CX j f fd ps sp)(h:j<=k):
  eF P w K mg base CX k f fd ps sp:=⟨F.len,λA outer s H args us vs Q E hr=>F.run A outer s H args us vs Q E (hr.mono h)⟩
variable {Q:VK}
section
variable {X:Cx}{pins:aj}{σ:St}{H:Hp}{s s':Shared}
theorem Inv.QY(I:Inv X pins σ H s):CD X.prog X.w X.K X.mg X.base X.A X.stack s H :=
 ⟨I.ok.frames,I.ok.mod,I.bs,Xz I.ok.zS I.sz,I.stack,I.jC,I.cn,I.bare⟩
theorem Inv.after{u:Value}(I:Inv X pins σ H s)(h:CE X.stack X.prog X.w H s Q u s'):EP X pins σ Q u s':=by
 obtain⟨v,H',os,bare,un,cn,r,q⟩:=h;obtain⟨hh,g,d,t,OQ⟩:=s';obtain rfl:OQ=s.os:=os;exact⟨v,H',I.call (h':=hh) (g':=g) (d':=d) (t':=t) (ch:=[]) un cn bare (λb z=>absurd z (by simp)),r,q⟩
end
noncomputable def Ji(sp:Sp)(e_:ae)(E:XK)(t:TA):TE:=λσ H Q=>t σ H λvs H1=>sp (vs++e_) H1 Q E
noncomputable def Binds(K:ak)(fd:FuncData)(ps:av)(ds:aq):Prop :=
 ∀(s:Shared) (us:aq),K.In s.heap->(us++ds).length=ps.length->BindsTo s fd ⟨us,[]⟩ (ps.zip (us++ds))
variable {K:ak}{ps:av}
theorem Binds.all{fd:FuncData}(h:∀us:aq,us.length=ps.length->bindArgs fd ⟨us,[]⟩=pure (ps.zip us)):Binds K fd ps []:=λs us _ hl=>by
 rw[List.append_nil]at hl ⊢;exact .of_eq (h us hl)
def Passes(CX:vI)(X:Cx)(E:XK):Prop:=∀(pins:aj) (σ:St) (H:Hp) (s:Shared) (e:Value) (s':Shared),Inv X pins σ H s->CX X.stack H s E e s'->X.xe e s'
variable {H:Hp}{us:aq}{vs:ae}
section
variable {X:Cx}{CX:vI}{k:Nat}{f C:Addr}{fd:FuncData}{ps:av}{sp:Sp}{e_:ae}{ds:aq}{E:XK}{x m:Str}{p pos apos:Pos}{e o:Expr}{es:au}{ta:TE}{t:TA}
theorem ET{pins:aj}{σ:St}{s:Shared}(F:eF X.prog X.w X.K X.mg X.base CX k f fd ps sp)(hr:f_ k X.A)(hb:Binds X.K fd ps ds)(hd:Vals e_ ds)(hx:Passes CX X E)
  (I:Inv X pins σ H s) (r:Vals vs us) (h:sp (vs++e_) H Q E):wpAny (model X.prog X.w) X.A (call (.ref f) us) (EP X pins σ Q) X.xe s:=by
 have r2:Vals (vs++e_) (us++ds):=r.append hd;have hl:(us++ds).length=ps.length:=by rw[<- r2.length];exact F.len _ _ _ _ h
 refine wpAny_call (Yh (F.run X.A X.stack s H ⟨us,[]⟩ (us++ds) (vs++e_) Q E hr I.QY (hb s us I.uQ hl) r2 h) λr s' hq=>?_);cases r with
 |error e=>exact hx pins σ H s e s' I hq
 |ok fl =>
  cases fl with
  |ret u=>exact I.after hq
  |next=>exact False.elim hq
  |brk=>exact False.elim hq
  |cont=>exact False.elim hq
theorem o7(F:eF X.prog X.w X.K X.mg X.base CX k f fd ps sp)(hr:f_ k X.A)(hg:Gl X x)(hm:X.mg x=some (.ref f))(hk:PySem.W.keepIn X.K (.ref f)=true)(hb:Binds X.K fd ps ds)(hd:Vals e_ ds)(hx:Passes CX X E)
  (ha:PA X (e::es) t) (K8:(x==("__debug__" : Str))=false:=by decide) (he:starEach (e::es) X.env=(false,eval e X.env)::starEach es X.env:=by rfl) (hpl:(backTo pos (starEach es X.env)).any (·.1)=false:=by rfl) :
  PE X (.Call (.Name x p) (e::es) [] pos) (Ji sp e_ E t):=by
 intro pins s σ H Q I h;refine XT (pz I hg hm ?_ K8);refine PySem.W.callWith_K (h₀:=X.base) I.ok.mod.Pb hk (cS (ha pos pins s σ H _ I h) λus s1 ⟨vs,H1,I1,r,q⟩=>⟨I1.uQ,?_⟩) he hpl;exact ET F hr hb hd hx I1 r q
structure Mk(K:ak)(C f:Addr):Prop where
 makes:PySem.W.makesIn K C=true
 init:PySem.W.findIn K (.ref C) "__init__" = some (some (.ref f))
 fn:PySem.W.isFn K (.ref f)=true
 kp:PySem.W.keepIn K (.ref C)=true
end
section
variable {X:Cx}{CX:vI}{k:Nat}{f C:Addr}{fd:FuncData}{ps ks:av}{sp:Sp}{E:XK}{x m:Str}{p pos apos UP:Pos}{e o:Expr}{es:au}{WS:List Keyword}{te ta:TE}{t tk:TA}{nm:Option Str}
structure Ry(K:ak)(fd:FuncData)(ps ks:av)(g:aq->aq->aq)(gV:ae->ae->ae):Prop where
 to:∀(s:Shared) (us ws:aq),K.In s.heap->(g us ws).length=ps.length->BindsTo s fd ⟨us,ks.zip ws⟩ (ps.zip (g us ws))
 rel:∀{vs:ae} {us:aq} {zs:ae} {ws:aq},Vals vs us->Vals zs ws->Vals (gV vs zs) (g us ws)
variable {g:aq->aq->aq}{gV:ae->ae->ae}
end
structure dX(N P:av)(sc:Scope):Prop where
 kind:sc.kind=.function
 co:sc.isCoroutine=false
 gen:sc.isGenerator=false
 nd:N.Nodup
 pre:N.take P.length=P
 par:∀x∈P,sc.names.lookup x=some .local\/sc.names.lookup x=some .cell
 Fz:∀y∈sc.names,y.2≠.free
theorem om{kindOf:Str->Option NameKind}{x:Str}:∀{binds:List (Str×Value)} {m:aP},(∀v,(x,v)∉binds)->bindL kindOf binds m x=m x
 |[],_,_=>rfl
 | (n,v)::r,m,h=>by
  unfold bindL;rw[om λw hw=>h w (List.mem_cons_of_mem _ hw)];split
  ·have:x≠n:=by rintro rfl;exact h v Xn
   simp[this]
  ·rfl
theorem oq{kindOf:Str->Option NameKind}{x:Str}:∀{binds:List (Str×Value)} {m:aP},(∀v,(x,v)∉binds)->bindC kindOf binds m x=m x
 |[],_,_=>rfl
 | (n,v)::r,m,h=>by
  unfold bindC;rw[oq λw hw=>h w (List.mem_cons_of_mem _ hw)];split
  ·rfl
  ·have:x≠n:=by rintro rfl;exact h v Xn
   simp[this]
theorem oo{kindOf:Str->Option NameKind}{x:Str}{v:Value}:∀{P:av} {vs:aq} {i:Nat} {m:aP},P.Nodup->P[i]?=some x->vs[i]?=some v->kindOf x=some .local ->
  bindL kindOf (P.zip vs) m x=some v
 |[],_,_,_,_,h,_,_=>by simp at h
 |_::_,[],_,_,_,_,h,_=>by simp at h
 |p::P,w::vs,0,m,nd,h1,h2,hk=>by
  simp at h1 h2;subst h1;subst h2;show bindL kindOf ((p,w)::P.zip vs) m p=_;unfold bindL;rw[om λv hv=>(List.nodup_cons.mp nd).1 (List.of_mem_zip hv).1,if_pos hk];simp
 |p::P,w::vs,i+1,m,nd,h1,h2,hk=>by
  show bindL kindOf ((p,w)::P.zip vs) m x=_;unfold bindL;exact oo (i:=i) (List.nodup_cons.mp nd).2 (by simpa using h1) (by simpa using h2) hk
theorem ou{kindOf:Str->Option NameKind}{x:Str}{v:Value}:∀{P:av} {vs:aq} {i:Nat} {m:aP},P.Nodup->P[i]?=some x->vs[i]?=some v->kindOf x≠some .local ->
  bindC kindOf (P.zip vs) m x=some v
 |[],_,_,_,_,h,_,_=>by simp at h
 |_::_,[],_,_,_,_,h,_=>by simp at h
 |p::P,w::vs,0,m,nd,h1,h2,hk=>by
  simp at h1 h2;subst h1;subst h2;show bindC kindOf ((p,w)::P.zip vs) m p=_;unfold bindC;rw[oq λv hv=>(List.nodup_cons.mp nd).1 (List.of_mem_zip hv).1,if_neg hk];simp
 |p::P,w::vs,i+1,m,nd,h1,h2,hk=>by
  show bindC kindOf ((p,w)::P.zip vs) m x=_;unfold bindC;exact ou (i:=i) (List.nodup_cons.mp nd).2 (by simpa using h1) (by simpa using h2) hk
noncomputable def start(N:av)(vs:ae):St:=vs.map some++List.replicate (N.length - vs.length) none
noncomputable def gN(CX:vI)(P:aJ)(w:World)(K:ak)(mg:aP)(base:Heap)(N:av)(qual:Str)(scope:Scope)(f:Addr)(cd:Value)(A:aQ)(outer:List Env)(s:Shared)(H:Hp)(E:XK):Cx where
 prog:=P
 w:=w
 K:=K
 mg:=mg
 base:=base
 A:=A.deeper (envOfC qual scope s.heap.objs.size f cd)
 N:=N
 s₀:=s
 H₀:=H
 env:=envOfC qual scope s.heap.objs.size f cd
 outer:=outer
 stack:=envOfC qual scope s.heap.objs.size f cd::outer
 ex:=[]
 calm:=true
 fn:=λ_=>true
 pn:=[]
 xe:=λe s'=>wpAny (model P w) (A.deeper (envOfC qual scope s.heap.objs.size f cd)) (leaving (envOfC qual scope s.heap.objs.size f cd) e) (λ_ Ov=>CX outer H s E e Ov) (λe' Ov=>CX outer H s E e' Ov) s'
theorem rW{sc:Scope}{n:Nat}{x:Str}(h:sc.names.lookup x=some .cell):∃c,(cellsFrom n sc.names []).lookup x=some c:=by
 have q:=PySem.W.cellsFrom_some sc.names n [] (.inl h);exact Option.isSome_iff_exists.mp q
variable {P:aJ}{base:Heap}{f:Addr}{mg:Str->Option Value}{qual:Str}{scope:Scope}{w:World}
theorem wy{CX:vI}{N:av}{cd:Value}{outer:List Env}{s s1:Shared}{E:XK}  
  (S:dX N ps scope) (hd:A.handled=none) (e0:CD P w K mg base A outer s H) (hl:vs.length=ps.length) (r:Vals vs us)
  (x:InCallC s s.heap.objs.size (bindL (envOfC qual scope s.heap.objs.size f cd).kindOf (ps.zip us) λ_=>none) (cellsFrom (s.heap.objs.size+1) scope.names []) (bindC (envOfC qual scope s.heap.objs.size f cd).kindOf (ps.zip us) λ_=>none) s1) :
  Inv (gN CX P w K mg base N qual scope f cd A outer s H E) [] (start N vs) H s1:=by
 have hpl:ps.length<=N.length:=by have:=XI List.length S.pre;rw[List.length_take]at this;left
 obtain⟨h1,tk,rfl,hk⟩:=x.done;have J3:∀b:Addr,b∉(gN CX P w K mg base N qual scope f cd A outer s H E).ex:=λb z=>absurd (show b∈([]:bt) from z) (by simp);refine⟨⟨e0.mod,S.kind,rfl,rfl,Xj _,λy z c h1 h2=>?_,λy hy=>?_,λy c _ h=>?_,λ_=>hd,Around.frames_deeper e0.frames,.inr ⟨rfl,rfl⟩,λb z=>absurd z (J3 b),e0.bs,e0.zS,λb _ _=>J3 b,λb z=>absurd z (J3 b),e0.jb,e0.xh⟩,
  rfl,e0.bare,Un.kept hk,⟨_,x.toInCall.ns,λi y v h1 h2 h3=>?_⟩,λy c h=>⟨_,x.cell y c h⟩,e0.cn.fresh (Xj _),λy c h=>?_,λp hp=>absurd (show p∈([]:aj) from hp) (by simp),e0.cn.kept hk,?_⟩
 ·exact name_of_addr x.apart (XH h1) (XH h2)
 ·have hy:scope.names.lookup y=some .cell\/scope.names.lookup y=some .free:=hy;rcases hy with hy|hy
  ·exact rW hy
  ·exact absurd rfl (S.Fz _ (XH hy))
 ·exact Nat.le_of_lt (x.above y c (XH h))
 ·have hi:i<vs.length:=by
   unfold start at h2;by_cases hi:i<vs.length
   ·exact hi
   ·rw[List.getElem?_append_right (by simpa using hi)]at h2;rw[List.getElem?_replicate]at h2;split at h2<;>cases h2
  have ha:vs[i]?=some v:=by
   unfold start at h2;rw[List.getElem?_append_left (by simpa using hi),List.getElem?_map]at h2;cases e:vs[i]? with
   |none=>rw[e]at h2;cases h2
   |some a=>rw[e]at h2;cases h2;rfl
  obtain⟨u,hu,rv⟩:=r.get ha;have hp:ps[i]?=some y:=by
   rw[<- S.pre,List.getElem?_take_of_lt (by left)];exact h1
  have R6:ps.Nodup:=by rw[<- S.pre];exact S.nd.sublist (List.take_sublist _ _)
  refine⟨u,rv,?_⟩;rcases S.par y (Xt hp)with k|k
  ·exact .inl ⟨k,oo R6 hp hu k⟩
  ·obtain⟨c,e⟩:=rW (n:=s.heap.objs.size+1) k;refine .inr ⟨.inl k,c,e,?_⟩;have q:=x.cell y c e;rw[ou R6 hp hu (by show scope.names.lookup y≠_;rw[k];decide)]at q;exact q
 ·exact e0.cn.fresh (Nat.le_of_lt (x.above y c (XH h)))
 ·unfold start;show _=N.length;rw[List.length_append,List.length_map,List.length_replicate];left
theorem DK{CX:vI}{k:Nat}{name:Str}{params:Arguments}{body:aO}{dV kV doc pm eD ct oc:Value}{an od:Option Addr}
  {yy:Array (Option Value)} {N:av} {sp:Sp} (lk:K.lookup f=some ⟨oc,od,.func (PySem.W.fnOf name qual params body scope dV kV doc pm an eD ct),yy⟩) (wA:PySem.W.codeIn K eD qual=true) (S:dX N ps scope)
  (len:∀vs H Q E,sp vs H Q E->vs.length=ps.length)
  (rm:∀(A:aQ) (outer:List Env) (s:Shared) (H:Hp) (vs:ae) (Q:VK) (E:XK),f_ k (A.deeper (envOfC qual scope s.heap.objs.size f eD))->sp vs H Q E ->
   ∃t,fJ (gN CX P w K mg base N qual scope f eD A outer s H E) body t/\t { nx:=λ_ H'=>Q .bB H',rt:=Q } (start N vs) H) :
  eF P w K mg base CX (k+1) f (PySem.W.fnOf name qual params body scope dV kV doc pm an eD ct) ps sp:=by
 refine⟨len,λA outer s H args us vs Q E hr e0 hb r qm=>?_⟩;have hl:=len _ _ _ _ qm;have KX:K.In s.heap:=e0.mod.Pb.keeps λb o e=>(e0.bs b o e).1;have lim:s.heap.NoLimit:=e0.mod.nolimit.keeps λb o e=>(e0.bs b o e).1;have KY:∀y∈ps.zip us,scope.names.lookup y.1=some .local\/(scope.names.lookup y.1=some .cell/\((cellsFrom (s.heap.objs.size+1) scope.names []).lookup y.1).isSome=true):=λ⟨n,v⟩ hy=>by
  rcases S.par n (Yi hy).1 with q|q
  ·exact .inl q
  ·exact .inr ⟨q,PySem.W.cellsFrom_some _ _ _ (.inl q)⟩
 refine codeAny_call_function hr.depth (KX _ _ lk) rfl S.co S.gen rfl (PySem.W.codeRec_of KX wA) (hb _ _ _ _ ?_);refine wpAny_newFunctionEnv_cells S.kind KY λenv he s1 x=>?_;subst he;refine⟨lim.keeps x.toInCall.keep,codeAny_func ?_⟩;obtain⟨t,ht,hq⟩:=rm A outer s H vs Q E (hr.deeper _) qm;have I:Inv (gN CX P w K mg base N qual scope f eD A outer s H E) [] (start N vs) H s1:=wy S hr.hd e0 hl r x;refine Xs (ht [] s1 (start N vs) H _ I hq) (λfl s' hs=>?_) λe s' hs=>hs;have fin:∀{σ':St} {H':Hp} {v:V} {u:Value},Inv (gN CX P w K mg base N qual scope f eD A outer s H E) [] σ' H' s'->RelV v u->Q v H'->CE outer P w H s Q u s' :=
  λ{σ' H' v u} J rv q=>⟨v,H',J.os,J.bare,J.base,J.cn,rv,q⟩
 cases fl with
 |ret u =>
  obtain⟨v,σ',H',J,rv,q⟩:=hs;exact fin J rv q
 |next =>
  obtain⟨σ',H',J,q⟩:=hs;exact fin (v:=V.bB) (u:=Value.none) J rfl q
 |brk =>
  obtain⟨_,_,_,q⟩:=hs;exact False.elim q
 |cont =>
  obtain⟨_,_,_,q⟩:=hs;exact False.elim q
end L2
namespace L2
open PySem PySem.Spec PyProof.Rows
section
variable {X:Cx}{x:Str}{p pos:Pos}{e:Expr}{es:au}{t:TA}{id T:String}{r:ae->Hp->VK->Prop}
noncomputable def Jj(r:ae->Hp->VK->Prop)(t:TA):TE:=λσ H Q=>t σ H λvs H1=>r vs H1 Q
theorem dw(hc:fq X (.builtin id) r)(hg:Gl X x)(hm:X.mg x=none)(hv:bootBuiltins x=some (.builtin id))(ha:PA X (e::es) t)(hn:x ≠ "__name__":=by decide)(K8:(x==("__debug__" : Str))=false:=by decide)
  (he:starEach (e::es) X.env=(false,eval e X.env)::starEach es X.env:=by rfl) (hpl:(backTo pos (starEach es X.env)).any (·.1)=false:=by rfl):PE X (.Call (.Name x p) (e::es) [] pos) (Jj r t):=by
 intro pins s σ H Q I h;refine XT (hJ I hg hm hv ?_ hn K8);exact PyProof.Rows.callWith_builtin1 (cS (ha pos pins s σ H _ I h) λus s1 ⟨vs,H1,I1,r1,q1⟩=>hc pins s1 σ H1 vs us Q I1 r1 q1) he hpl
theorem nL(hc:fq X (.type T) r)(hg:Gl X x)(hm:X.mg x=none)(hv:bootBuiltins x=some (.type T))(ha:PA X (e::es) t)(hn:x ≠ "__name__":=by decide)(K8:(x==("__debug__" : Str))=false:=by decide)
  (he:starEach (e::es) X.env=(false,eval e X.env)::starEach es X.env:=by rfl) (hpl:(backTo pos (starEach es X.env)).any (·.1)=false:=by rfl):PE X (.Call (.Name x p) (e::es) [] pos) (Jj r t):=by
 intro pins s σ H Q I h;refine XT (hJ I hg hm hv ?_ hn K8);exact XB (cS (ha pos pins s σ H _ I h) λus s1 ⟨vs,H1,I1,r1,q1⟩=>hc pins s1 σ H1 vs us Q I1 r1 q1) he hpl
end
end L2
namespace HT
open PySem PyProof.Rows
section
open PySem.SeqAt
open PySem.AutoSeq1 (wpAny_loadPart')
open PySem.MeetsSeq PySem.MeetsSeq2 PySem.MeetsSeq3
end
variable {Q:Value->Shared->Prop}{sl:Addr}{vl vu:Value}
section
variable {prog:aJ}{w:World}{A:aQ}{E:aF}{s:Shared}
theorem Cp{t b:Addr}{vs ws:aq}(ht:IsTup s.heap t vs.toArray)(hb:IsTup s.heap b ws.toArray)(hv:vs≠[])
  (h1:ws=[]->Q (.ref t) s) (h2:ws≠[]->Q (.ref s.heap.objs.size) { s with heap:=s.heap.push { cls:=.type "tuple",data:=.seq (vs++ws).toArray } })
  (Ig:vs.length+ws.length<=sizeLine):wpAny (model prog w) A (binaryOp .Add (.ref t) (.ref b)) Q E s:=by
 obtain⟨⟨cls,dd,data,sl⟩,ho,hc,n,hd⟩:=id ht;obtain⟨⟨Rc,LI,data2,HP⟩,y_,hc2,n2,hd2⟩:=id hb;simp only at hc hd hc2 hd2;subst hc hd hc2 hd2;have e:vs.toArray++ws.toArray=(vs++ws).toArray:=by simp
 by_cases hw:ws=[]
 ·exact concat_meets ⟨_,ho,rfl⟩ ⟨_,y_,rfl⟩ noFill_tuple_add seq_tuple_add Ya X9 (X6 _ _)
   (tuple_addW1 t b vs.toArray ws.toArray n n2 dd LI sl HP (by simpa using hv) (by simp[hw])) ⟨ho,y_,h1 hw⟩
 ·refine concat_meets ⟨_,ho,rfl⟩ ⟨_,y_,rfl⟩ noFill_tuple_add seq_tuple_add Ya X9 (X6 _ _)
   (tuple_addW2 t b vs.toArray ws.toArray n n2 dd LI sl HP (by simpa using hv) (by simpa using hw) (by rw[List.size_toArray,List.size_toArray];exact Ig)) ⟨ho,y_,?_⟩
  rw[e];exact h2 hw
noncomputable def dH(n d:Nat):Option Int->Nat
 |none=>d
 |some v=>if v<0 then(v+(n:Int)).toNat else min v.toNat n
theorem md(n d:Nat):dH n d none=d:=rfl
theorem ES(n d:Nat)(hd:d<=n)(o:Option Int):dH n d o<=n:=by
 cases o with
 |none=>exact hd
 |some v =>
  show(if v<0 then(v+(n:Int)).toNat else min v.toNat n)<=n;by_cases hv:v<0
  ·rw[if_pos hv];left
  ·rw[if_neg hv];exact Nat.min_le_right _ _
theorem vo(v:Int)(n d:Nat):(if v<0 then max (v+(n:Int)) 0 else min v (n:Int))=((dH n d (some v):Nat):Int):=by
 show(if v<0 then max (v+(n:Int)) 0 else min v (n:Int))=(((if v<0 then(v+(n:Int)).toNat else min v.toNat n):Nat):Int)
 by_cases hv:v<0
 ·simp only[if_pos hv];left
 ·simp only[if_neg hv];left
theorem ue(lo hi:Option Int)(n:Nat):Builtin.Slice.sliceAdjust lo hi 1 (n:Int)=(((dH n 0 lo:Nat):Int),((dH n n hi:Nat):Int)):=by
 have h1:¬ ((1:Int)<0):=by left
 unfold Builtin.Slice.sliceAdjust;simp only[h1,if_false];refine Prod.ext ?_ ?_
 ·cases lo with
  |none=>rfl
  |some v=>exact vo v n 0
 ·cases hi with
  |none=>rfl
  |some v=>exact vo v n n
theorem sP(i j:Nat):Builtin.Slice.slicePlaces (i:Int) (j:Int) 1=j - i:=by
 unfold Builtin.Slice.slicePlaces;have h1:(1:Int)>0:=by left
 simp only[h1,if_true,Int.ediv_one];split<;>left
theorem iX{v:Value}{o:Option Int}{Q:Option Int->Shared->Prop}(p:IsPart v o)(h:Q o s):wpAny (model prog w) A (Builtin.Slice.slicePartIndex v) Q E s:=by
 cases p with
 |none=>exact slicePart_none h
 |int i t=>exact slicePart_int h
theorem j9{lo hi:Option Int}{n:Nat}{Q:Int×Int×Nat->Shared->Prop}(hs:s.heap.IsSliceOf sl vl vu .none)(pl:IsPart vl lo)(pu:IsPart vu hi)
  (h:Q (((dH n 0 lo:Nat):Int),1,dH n n hi - dH n 0 lo) s):wpAny (model prog w) A (Builtin.Slice.sliceApplied (.ref sl) (pure (n:Int))) Q E s:=by
 obtain⟨os,y9,jO,BR⟩:=id hs;unfold Builtin.Slice.sliceApplied Builtin.Slice.sliceFields;refine Xf (Xf (Yb y9 BR (x:=vl) rfl (Xf (Yb y9 BR (x:=vu) rfl (Xf (Yb y9 BR (x:=.none) rfl (Xh ?_)))))));refine Xf (slicePart_none ?_);show wpAny _ _ (if ((1:Int)==0)=true then _ else _) _ _ s;rw[if_neg (by decide)];refine Xf (iX pl (Xf (iX pu (Xf (Xh ?_)))));show wpAny _ _ (match Builtin.Slice.sliceAdjust lo hi 1 (n:Int)with | (lo,hi)=>pure (lo,(1:Int),Builtin.Slice.slicePlaces lo hi 1)) _ _ s;rw[ue lo hi n];show wpAny _ _ (pure (((dH n 0 lo:Nat):Int),(1:Int),Builtin.Slice.slicePlaces ((dH n 0 lo:Nat):Int) ((dH n n hi:Nat):Int) 1)) _ _ s;rw[sP];exact Xh h
theorem ym(xs:bx)(i k:Nat):((List.range k).filterMap λ(m:Nat)=>xs[((i:Int)+(m:Int)*1).toNat]?).toArray=((xs.toList.drop i).take k).toArray:=by
 have e:(λ(m:Nat)=>xs[((i:Int)+(m:Int)*1).toNat]?)=λm=>xs[i+m]?:=by
  funext m;have:((i:Int)+(m:Int)*1).toNat=i+m:=by left
  rw[this]
 rw[e];have:=pick_run xs i k;rw[List.filterMap_map]at this;have e2:((λx=>xs[x]?)∘λx=>i+x)=λm=>xs[i+m]?:=rfl;rw[e2]at this;rw[this]
theorem jQ{t:Addr}{items:bx}{lo hi:Option Int}(ht:IsTup s.heap t items)(hs:s.heap.IsSliceOf sl vl vu .none)(pl:IsPart vl lo)(pu:IsPart vu hi)
  (hw:¬ (dH items.size 0 lo=0/\dH items.size items.size hi=items.size))
  (h:Q (.ref s.heap.objs.size) { s with heap:=s.heap.push { cls:=.type "tuple",data:=.seq ((items.toList.drop (dH items.size 0 lo)).take (dH items.size items.size hi - dH items.size 0 lo)).toArray } })
  (Ig:items.size<=sizeLine):wpAny (model prog w) A (getItem (.ref t) (.ref sl)) Q E s:=by
 have jM:sizeOk (.seq ((items.toList.drop (dH items.size 0 lo)).take (dH items.size items.size hi - dH items.size 0 lo)).toArray):=by
  show((items.toList.drop (dH items.size 0 lo)).take (dH items.size items.size hi - dH items.size 0 lo)).toArray.size<=sizeLine;rw[List.size_toArray,List.length_take,List.length_drop,Array.length_toList];left
 have hj:dH items.size items.size hi<=items.size:=ES _ _ (Xj _) hi;obtain⟨os,y9,jO,BR⟩:=id hs;have Qt:s.TypeIs (.ref sl) "slice":=⟨os,y9,jO⟩
 unfold getItem
 try with_reducible refine XX ?_
 first|refine Xf (Xh ?_)|skip
 refine Xf (wpAny_sequenceKey ht.typeIs (by decide) ?_);refine Xf (wpAny_callSpecial?_slot (name:=Str.ofString "__getitem__") ht.typeIs XD
  (wpAny_call_entry XD ht.typeIs entry_tuple_getitem ?_ (args_tuple_getitem _ _)))
 show wpAny _ _ (Builtin.Tuple.tupleItemsOf (.ref t) >>= _) _ _ s;refine Xf (tupleItemsOf_ ht ?_);refine Xf (wpAny_typeOf Qt ?_);rw[if_pos (by decide)];refine Xf (j9 hs pl pu ?_);have P0:¬ ((((dH items.size 0 lo:Nat):Int)==0&&(1:Int)==1&&(dH items.size items.size hi - dH items.size 0 lo)==items.size)=true):=by
  intro q;rw[Bool.and_eq_true,Bool.and_eq_true]at q;have q1:((dH items.size 0 lo:Nat):Int)=0:=eq_of_beq q.1.1;have q2:dH items.size items.size hi - dH items.size 0 lo=items.size:=eq_of_beq q.2;exact hw ⟨by left,by left⟩
 show wpAny _ _ (if (((dH items.size 0 lo:Nat):Int)==0&&(1:Int)==1&&(dH items.size items.size hi - dH items.size 0 lo)==items.size)=true then _ else _) _ _ s;rw[if_neg P0,ym]
 first
  |exact Xf (m:=Builtin.Tuple.tupleExact _) (Xv (Xh ⟨_,rfl,Xh h⟩) jM)
  |exact Xf (m:=Builtin.Tuple.tupleExact _) (Xv (Xf (Xh (Xh ⟨_,rfl,Xh h⟩))) jM)
  |exact Xf (Xf (m:=Builtin.Tuple.tupleExact _) (Xv (Xh (Xh ⟨_,rfl,Xh h⟩)) jM))
  |exact Xf (Xf (m:=Builtin.Tuple.tupleExact _) (Xv (Xh ⟨_,rfl,Xh h⟩) jM))
end
end HT
namespace L2
open PySem PySem.Spec PyProof.Rows
noncomputable abbrev TO:=St->Hp->(Option Int->Hp->Prop)->Prop
noncomputable def PO(X:Cx)(e:Option Expr)(t:TO):Prop :=
 ∀(pins:aj) (s:Shared) (σ:St) (H:Hp) (Q:Option Int->Hp->Prop),Inv X pins σ H s->t σ H Q ->
  wpAny (model X.prog X.w) X.A (evalPart e X.env) (λu s'=>∃o H',Inv X pins σ H' s'/\IsPart u o/\Q o H') X.xe s
noncomputable def AF:TO:=λ_ H Q=>Q none H
noncomputable def Ja(t:TE):TO:=λσ H Q=>t σ H λx H1=>∃i,x=.int i/\Q (some i) H1
section
variable {X:Cx}{e:Expr}{te:TE}{lo hi:Option Expr}{tl th:TO}{pos p2:Pos}
theorem o4:PO X none AF:=by
 intro pins s σ H Q I h;rw[evalPart_none];exact Xh ⟨none,H,I,.none,h⟩
theorem oZ(h:PE X e te):PO X (some e) (Ja te):=by
 intro pins s σ H Q I hw;rw[evalPart_some];refine cS (h pins s σ H _ I hw) λu s1 bK=>?_;obtain⟨x,H1,I1,r1,q1⟩:=bK;obtain⟨i,rfl,q⟩:=q1;obtain⟨t,rfl⟩:=r1;exact⟨some i,H1,I1,.int i t,q⟩
def Np(X:Cx)(r:V->Option Int->Option Int->Hp->VK->Prop):Prop :=
 ∀(pins:aj) (s:Shared) (σ:St) (H:Hp) (x:V) (v vl vu:Value) (lo hi:Option Int) (sl:Addr) (Q:VK),Inv X pins σ H s->RelV x v->s.heap.IsSliceOf sl vl vu .none->IsPart vl lo->IsPart vu hi->r x lo hi H Q ->
  ∃T id,typeLookup (.type T) "__getitem__" = pure (some (.builtin id))/\s.TypeIs v T/\wpAny (model X.prog X.w) X.A (getItem v (.ref sl)) (EP X pins σ Q) X.xe s
noncomputable def T4(r:V->Option Int->Option Int->Hp->VK->Prop)(te:TE)(tl th:TO):TE:=λσ H Q=>te σ H λx H1=>tl σ H1 λl H2=>th σ H2 λu H3=>r x l u H3 Q
theorem qS{r:V->Option Int->Option Int->Hp->VK->Prop}(hr:Np X r)(he:PE X e te)(hl:PO X lo tl)(hu:PO X hi th):PE X (.Subscript e (.Slice lo hi none p2) pos) (T4 r te tl th):=by
 intro pins s σ H Q I h;refine Subscript_ (cS (he pins s σ H _ I h) λv s1 bK=>?_);obtain⟨x,H1,I1,r1,q1⟩:=bK;refine wpAny_Slice (cS (hl pins s1 σ H1 _ I1 q1) λvl s2 ⟨l,H2,I2,pl,q2⟩=>cS (hu pins s2 σ H2 _ I2 q2) λvu s3 bK=>?_);obtain⟨u,H3,I3,pu,q3⟩:=bK;rw[evalPart_none];refine Xh ?_;have I4:Inv X pins σ H3 { s3 with heap:=s3.heap.push { cls:=.type "slice",data:=.fields #[vl,vu,.none] } }:=I3.kept (t':=s3.toks) λb ob q=>Xi _ q;obtain⟨T,id,hT,ht,hg⟩:=hr pins { s3 with heap:=s3.heap.push { cls:=.type "slice",data:=.fields #[vl,vu,.none] } } σ H3 x v vl vu l u s3.heap.objs.size Q I4 r1 (Heap.IsSliceOf.new ..) pl pu q3;show wpAny (model X.prog X.w) X.A (subscriptTail e (.Slice lo hi none p2) v (.ref s3.heap.objs.size)) (EP X pins σ Q) X.xe { s3 with heap:=s3.heap.push { cls:=.type "slice",data:=.fields #[vl,vu,.none] } };exact tail_any (ops:=[.ref s3.heap.objs.size,v]) ht hT hg (by with_unfolding_all rfl)
def rP(xs:ae)(lo hi:Option Int):ae:=(xs.drop (HT.dH xs.length 0 lo)).take (HT.dH xs.length xs.length hi - HT.dH xs.length 0 lo)
theorem kL(xs:ae)(lo hi:Option Int):(rP xs lo hi).length<=xs.length:=by
 unfold rP;rw[List.length_take,List.length_drop];left
def Ox(K:ak):V->Option Int->Option Int->Hp->VK->Prop:=λx lo hi H Q=>∃a xs,x=.ref a/\a_ K H a xs /\
 ¬ (HT.dH xs.length 0 lo=0/\HT.dH xs.length xs.length hi=xs.length)/\∀p,H p=none->Q (.ref p) (upd H p (.tup (rP xs lo hi)))
theorem EB:Np X (Ox X.K):=by
 intro pins s σ H x v vl vu lo hi sl Q I rx hs pl pu h;obtain⟨a,xs,rfl,hx,hw,q⟩:=h;cases rx;obtain⟨aN,r,ht,hz⟩:=I.tuple hx;have hlen:aN.toArray.size=xs.length:=by rw[List.size_toArray];exact r.length.symm
 refine⟨"tuple",_,PyProof.Rows.slot_tuple_getitem.lookup,ht.typeIs,?_⟩;refine HT.jQ ht hs pl pu (by rw[hlen];exact hw) ?_ (by rw[hlen];exact hz);rw[hlen];refine⟨.ref s.heap.objs.size,_,I.laid (t':=s.toks) (o:=.tup (rP xs lo hi)) (λb ob q=>Xi _ q) (Xj _) ?_,rfl,q _ (I.cn.fresh (Xj _))⟩;exact⟨Xz (kL xs lo hi) hz,_,(r.drop (HT.dH xs.length 0 lo)).take (HT.dH xs.length xs.length hi - HT.dH xs.length 0 lo),IsTup.new _ _⟩
def JJ(K:ak):R2:=λx y H Q=>∃a b xs ys,x=.ref a/\y=.ref b/\a_ K H a xs/\a_ K H b ys/\xs≠[]/\xs.length+ys.length<=sizeLine /\
 (ys=[]->Q (.ref a) H)/\(ys≠[]->∀p,H p=none->Q (.ref p) (upd H p (.tup (xs++ys))))
theorem Vals.o_{xs:ae}{us:aq}(r:Vals xs us):us=[] ↔ xs=[]:=by
 cases r with
 |nil=>simp
 |cons _ _=>simp
theorem Bk:jt X (binaryOp .Add) (JJ X.K):=by
 intro pins s σ H x y v u Q I rx ry h;obtain⟨a,b,xs,ys,rfl,rfl,ha,hb,hx,hz,q1,q2⟩:=h;cases rx;cases ry;obtain⟨aN,r1,p1,_⟩:=I.tuple ha;obtain⟨yV,r2,p2,_⟩:=I.tuple hb;refine HT.Cp p1 p2 (λz=>hx (r1.o_.mp z)) (λz=>⟨.ref a,H,I,rfl,q1 (r2.o_.mp z)⟩) (λz=>?_) (by rw[<- r1.length,<- r2.length];exact hz);refine⟨.ref s.heap.objs.size,_,I.laid (t':=s.toks) (o:=.tup (xs++ys)) (λb ob q=>Xi _ q) (Xj _) ?_,rfl,q2 (λw=>z (r2.o_.mpr w)) _ (I.cn.fresh (Xj _))⟩;exact⟨by rw[List.length_append];exact hz,_,r1.append r2,IsTup.new _ _⟩
end
end L2
namespace L2
open PySem PySem.Spec PyProof.Rows
noncomputable def pB(n:Nat)(i:Int):Option Nat:=if 0<=i then(if i<n then some i.toNat else none)else if -(n:Int)<=i then some (i+n).toNat else none
def DW{α:Type}(xs:List α)(i:Int):Option α:=(pB xs.length i).bind λj=>xs[j]?
theorem uS{n:Nat}{i:Int}{j:Nat}(h:pB n i=some j):seqIndex? i n=some j/\j<n /\ -(n:Int)<=i/\i<n:=by
 unfold pB at h;by_cases h0:0<=i
 ·rw[if_pos h0]at h;by_cases h1:i<n
  ·rw[if_pos h1]at h;have e:i.toNat=j:=Xp h;exact⟨by rw[seqIndex_of h0 h1,e],by left,by left,h1⟩
  ·rw[if_neg h1]at h;cases h
 ·rw[if_neg h0]at h;by_cases h1:-(n:Int)<=i
  ·rw[if_pos h1]at h;have e:(i+n).toNat=j:=Xp h;exact⟨by rw[seqIndex_neg (by left) h1,e],by left,h1,by left⟩
  ·rw[if_neg h1]at h;cases h
theorem vz{α:Type}{xs:List α}{i:Int}{v:α}(h:DW xs i=some v):∃j,seqIndex? i xs.length=some j/\xs[j]?=some v/\j<xs.length /\ -(xs.length:Int)<=i/\i<xs.length:=by
 unfold DW at h;cases e:pB xs.length i with
 |none=>rw[e]at h;cases h
 |some j =>
  rw[e]at h;obtain⟨h1,h2,h3,h4⟩:=uS e;exact⟨j,h1,h,h2,h3,h4⟩
def j4(b:Expr):Prop:=∀o i,subscripted b false o i=operate [o,i] (getItem o i)
def HF(X:Cx)(r:R2):Prop :=
 ∀(value slice:Expr) (pins:aj) (s:Shared) (σ:St) (H:Hp) (x y:V) (v u:Value) (Q:VK),Inv X pins σ H s->RelV x v->RelV y u->r x y H Q ->
  subscripted slice false v u=operate [v,u] (getItem v u)->wpAny (model X.prog X.w) X.A (subscriptTail value slice v u) (EP X pins σ Q) X.xe s
def Rw(X:Cx)(id:String)(r:V->ae->Hp->VK->Prop):Prop :=
 ∀(pins:aj) (s:Shared) (σ:St) (H:Hp) (x:V) (xs:ae) (v:Value) (us:aq) (Q:VK),Inv X pins σ H s->RelV x v->Vals xs us->r x xs H Q ->
  wpAny (model X.prog X.w) X.A (call (.builtin id) (v::us)) (EP X pins σ Q) X.xe s
variable {H:Hp}{σ:L2.St}
section
variable {X:Cx}{a b:Expr}{ta tb:TE}{pos:Pos}
theorem HF.or{r r':R2}(h:HF X r)(h':HF X r'):HF X (λx y H Q=>r x y H Q\/r' x y H Q):=by
 intro value slice pins s σ H x y v u Q I rx ry q hs;rcases q with q|q
 ·exact h value slice pins s σ H x y v u Q I rx ry q hs
 ·exact h' value slice pins s σ H x y v u Q I rx ry q hs
theorem Dn{r:R2}(hr:HF X r)(ha:PE X a ta)(hb:PE X b tb)(hs:j4 b):PE X (.Subscript a b pos) (Ek r ta tb):=by
 intro pins s σ H Q I h;exact Subscript_ (Hu ha hb I h λv u s2 x y H2 I2 rx ry q=>hr a b pins s2 σ H2 x y v u Q I2 rx ry q (hs _ _))
def OC(K:ak):R2:=λx y H Q=>∃p xs i v,x=.ref p/\y=.int i/\dF K H p xs/\DW xs i=some v/\Q v H
def OB(K:ak):R2:=λx y H Q=>∃p xs i v,x=.ref p/\y=.int i/\a_ K H p xs/\DW xs i=some v/\Q v H
theorem uR:HF X (OC X.K):=by
 intro value slice pins s σ H x y v u Q I rx ry h hs;obtain⟨p,xs,i,z,rfl,rfl,hq,he,q⟩:=h;cases rx;obtain⟨t,rfl⟩:=ry;obtain⟨aN,r,pl,hz⟩:=I.list hq;obtain⟨j,h1,h2,h3,h4,h5⟩:=vz he;obtain⟨w,ew,k7⟩:=r.get h2;have hl:=r.length;have hn:=pv;have fin:EP X pins σ Q w s:=⟨z,H,I,k7,q⟩
 by_cases h0:0<=i
 ·have hj:i.toNat=j:=by
   rw[seqIndex_of h0 h5]at h1;exact Xp h1
  exact item_listR pl.isList h0 (by left) (by rw[hj];simpa using ew) fin hs
 ·have hj:(i+(aN.toArray.size:Int)).toNat=j:=by
   rw[seqIndex_neg (by left) h4]at h1;rw[List.size_toArray,<- hl];exact Xp h1
  exact subscriptTail_builtinR (x:=w) pl.isList.typeIs slot_list_getitem.lookup
   (wpAny_getItem_list_neg (Q:=λr s'=>r=w/\EP X pins σ Q r s') pl.isList (by left) (by rw[List.size_toArray]<;>omega) (by left) (by rw[hj];simpa using ew) ⟨rfl,fin⟩) hs
theorem FU:HF X (OB X.K):=by
 intro value slice pins s σ H x y v u Q I rx ry h hs;obtain⟨p,xs,i,z,rfl,rfl,hq,he,q⟩:=h;cases rx;obtain⟨t,rfl⟩:=ry;obtain⟨aN,r,pl,hz⟩:=I.tuple hq;obtain⟨j,h1,h2,h3,h4,h5⟩:=vz he;obtain⟨w,ew,k7⟩:=r.get h2;have hl:=r.length;have hn:=pv;have fin:EP X pins σ Q w s:=⟨z,H,I,k7,q⟩
 exact subscriptTail_builtinR (x:=w) pl.typeIs slot_tuple_getitem.lookup
  (getItem_tuple (j:=j) (Q:=λr s'=>r=w/\EP X pins σ Q r s') pl (by left) (by left) (by rw[List.size_toArray,<- hl];exact h1) (by simpa using ew) ⟨rfl,fin⟩) hs
theorem tf(aN:aq)(n j:Nat)(u:Value):Obj.mapSeq (·.setIfInBounds j u) { cls:=.type "list",data:=.seq aN.toArray n }={ cls:=.type "list",data:=.seq (aN.set j u).toArray n }:=by
 simp[Obj.mapSeq]
theorem Inv.lst{pins:aj}{σ:St}{H:Hp}{s:Shared}{p:Addr}{xs:ae}(I:Inv X pins σ H s)(h:H p=some (.lst xs)):
  ∃(aN:aq) (n:Nat),Vals xs aN/\s.heap.get? p=some { cls:=.type "list",data:=.seq aN.toArray n }/\xs.length<=sizeLine:=by
 obtain⟨z,aN,n,r,e⟩:=I.cn p _ h;exact⟨aN,n,r,e,z⟩
theorem Inv.FI{pins:aj}{s:Shared}{p:Addr}{xs ys:ae}{aN its':aq}{n n':Nat}{f:Obj->Obj}(I:Inv X pins σ H s)(h:H p=some (.lst xs))
  (ho:s.heap.get? p=some { cls:=.type "list",data:=.seq aN.toArray n }) (hf:f { cls:=.type "list",data:=.seq aN.toArray n }={ cls:=.type "list",data:=.seq its'.toArray n' }) (r:Vals ys its') (hz:ys.length<=sizeLine) (t:Nat) :
  Inv X pins σ (upd H p (.lst ys)) { s with heap:=s.heap.update p f,toks:=t }:=by
 have e:(s.heap.update p f).get? p=some { cls:=.type "list",data:=.seq its'.toArray n' }:=by
  rw[Heap.get?_update_self f ho (by rw[hf]<;>rfl),hf]
 refine I.write (x:=p) (e:=p) (by rw[h];trivial) (.inl rfl) (λb u hb q=>(Yc _ _ (YF hb)).trans q) ⟨_,e⟩ ?_;exact⟨hz,its',n',r,e⟩
def JH:V->V->V->Hp->(Hp->Prop)->Prop:=λo i v H Q=>∃p xs k j,o=.ref p/\i=.int k/\H p=some (.lst xs)/\pB xs.length k=some j/\Q (upd H p (.lst (xs.set j v)))
theorem set_list:L8 X JH:=by
 intro pins s σ H o i v ov iv u Q I ro ri rv h;obtain⟨p,xs,k,j,rfl,rfl,hp,hj,q⟩:=h;cases ro;obtain⟨t,rfl⟩:=ri;obtain⟨aN,n,r,ho,hz⟩:=I.lst hp;obtain⟨h1,h2,h3,h4⟩:=uS hj;have hl:=r.length;have hn:=pv;have I':Inv X pins σ (upd H p (.lst (xs.set j v))) { s with heap:=s.heap.update p (Obj.mapSeq (·.setIfInBounds j u)) } :=
  I.FI hp ho (tf aN n j u) (r.set rv j) (by rw[List.length_set];exact hz) s.toks
 by_cases h0:0<=k
 ·have hk:k.toNat=j:=by
   rw[seqIndex_of h0 h4]at h1;exact Xp h1
  exact PySem.W.ki_setAt ho h0 (by left) (by rw[List.size_toArray,<- hl];exact h4) (by rw[hk];exact⟨_,I',q⟩)
 ·have hk:(k+(aN.toArray.size:Int)).toNat=j:=by
   rw[seqIndex_neg (by left) h3]at h1;rw[List.size_toArray,<- hl];exact Xp h1
  exact PySem.W.ki_setBack ho (by left) (by rw[List.size_toArray,<- hl];exact h3) (by left) (by rw[hk];exact⟨_,I',q⟩)
theorem oM(lo hi:Option Int)(n:Nat):(sliceBounds lo hi none n).1=((HT.dH n 0 lo:Nat):Int)/\(sliceBounds lo hi none n).2.1=((HT.dH n n hi:Nat):Int)/\(sliceBounds lo hi none n).2.2=1:=by
 refine⟨?_,?_,rfl⟩
 ·cases lo with
  |none=>simp[sliceBounds,HT.dH]
  |some i =>
   simp only[sliceBounds,HT.dH,Option.getD_none,show(1:Int)>0 by decide,if_true];by_cases h:i<0
   ·simp only[h,if_true]<;>left
   ·simp only[h,if_false]<;>left
 ·cases hi with
  |none=>simp[sliceBounds,HT.dH]
  |some i =>
   simp only[sliceBounds,HT.dH,Option.getD_none,show(1:Int)>0 by decide,if_true];by_cases h:i<0
   ·simp only[h,if_true]<;>left
   ·simp only[h,if_false]<;>left
theorem nh(aN:aq)(lo hi:Option Int):slicePick aN.toArray lo hi none=((aN.drop (HT.dH aN.length 0 lo)).take (HT.dH aN.length aN.length hi - HT.dH aN.length 0 lo)).toArray:=by
 obtain⟨h1,h2,h3⟩:=oM lo hi aN.toArray.size;unfold slicePick;rw[h1,h2,h3];simp only[sliceRange_one,pick_run,List.size_toArray]<;>rfl
def Oy(K:ak):V->Option Int->Option Int->Hp->VK->Prop:=λx lo hi H Q=>∃a xs,x=.ref a/\dF K H a xs/\∀p,H p=none->Q (.ref p) (upd H p (.lst (rP xs lo hi)))
theorem uB:Np X (Oy X.K):=by
 intro pins s σ H x v vl vu lo hi sl Q I rx hs pl pu h;obtain⟨a,xs,rfl,hx,q⟩:=h;cases rx;obtain⟨aN,r,ht,hz⟩:=I.list hx;have hlen:=r.length;refine⟨"list",_,slot_list_getitem.lookup,ht.isList.typeIs,?_⟩;refine wpAny_getItem_list_slice ht.isList hs pl pu .none (by simp) ?_ (by rw[List.size_toArray]<;>omega);rw[nh,<- hlen];refine⟨.ref s.heap.objs.size,_,I.laid (t':=s.toks) (o:=.lst (rP xs lo hi)) (λb ob q=>Xi _ q) (Xj _) ?_,rfl,q _ (I.cn.fresh (Xj _))⟩;exact⟨Xz (kL xs lo hi) hz,_,0,(r.drop (HT.dH xs.length 0 lo)).take (HT.dH xs.length xs.length hi - HT.dH xs.length 0 lo),Xr _ rfl⟩
noncomputable def h_:V->Bool
 |.bB=>true
 |.bl _=>true
 |.int _=>true
 |.str _=>true
 |_=>false
noncomputable def Cb:V->V->Bool
 |.bB,.bB=>true
 |.bl a,.bl b=>a==b
 |.bl a,.int b=>(if a then 1 else 0)==b
 |.int a,.bl b=>a==(if b then 1 else 0)
 |.int a,.int b=>a==b
 |.str a,.str b=>a==b
 |_,_=>false
theorem Hd{A:aQ}{s:Shared}{y x:V}{u v:Value}(ry:RelV y u)(rx:RelV x v)(fy:h_ y=true)(fx:h_ x=true):SeqAt.EqAt A s u v (Cb y x):=by
 cases y with
 |bB =>
  cases ry;cases x with
  |bB=>cases rx;exact X1 _
  |bl b=>cases rx;exact Yj b
  |int b=>obtain⟨t,rfl⟩:=rx;exact Yq b t
  |str b=>obtain⟨t,rfl⟩:=rx;exact Yr b t
  |_=>exact absurd (show false=true from fx) Xe
 |bl a =>
  cases ry;cases x with
  |bB=>cases rx;exact Yk a
  |bl b=>cases rx;exact Ym a b
  |int b=>obtain⟨t,rfl⟩:=rx;exact Ys a b t
  |str b=>obtain⟨t,rfl⟩:=rx;exact Yt a b t
  |_=>exact absurd (show false=true from fx) Xe
 |int a =>
  obtain⟨t',rfl⟩:=ry;cases x with
  |bB=>cases rx;exact Yu a t'
  |bl b=>cases rx;exact Yv a t' b
  |int b=>obtain⟨t,rfl⟩:=rx;exact YA a t' b t
  |str b=>obtain⟨t,rfl⟩:=rx;exact X3 a t' b t
  |_=>exact absurd (show false=true from fx) Xe
 |str a =>
  obtain⟨t',rfl⟩:=ry;cases x with
  |bB=>cases rx;exact Yw a t'
  |bl b=>cases rx;exact Yx a t' b
  |int b=>obtain⟨t,rfl⟩:=rx;exact X4 a t' b t
  |str b=>obtain⟨t,rfl⟩:=rx;exact YB a t' b t
  |_=>exact absurd (show false=true from fx) Xe
 |_=>exact absurd (show false=true from fy) Xe
def tT(x:V)(u:Value):Bool:=match u with
 |.none=>Cb .bB x
 |.bool b=>Cb (.bl b) x
 |.int i _=>Cb (.int i) x
 |.str z _=>Cb (.str z) x
 |_=>false
theorem zE{x y:V}{u:Value}(r:RelV y u)(f:h_ y=true):tT x u=Cb y x:=by
 cases y with
 |bB=>cases r;rfl
 |bl b=>cases r;rfl
 |int i=>obtain⟨t,rfl⟩:=r;rfl
 |str z=>obtain⟨t,rfl⟩:=r;rfl
 |_=>exact absurd (show false=true from f) Xe
theorem jW{x:V}:∀{xs:ae} {us:aq},Vals xs us->xs.all h_=true->us.any (tT x)=xs.any λy=>Cb y x
 |_,_,.nil,_=>rfl
 |y::xs,u::us,.cons r t,f=>by
  rw[List.all_cons,Bool.and_eq_true]at f;rw[List.any_cons,List.any_cons,zE r f.1,jW t f.2]
theorem hG{A:aQ}{s:Shared}{x:V}{v:Value}(rx:RelV x v)(fx:h_ x=true):∀{xs:ae} {us:aq},Vals xs us->xs.all h_=true->∀u∈us,SeqAt.EqAt A s u v (tT x u)
 |_,_,.nil,_=>λu hu=>by cases hu
 |y::xs,u::us,.cons r t,f=>λu' hu=>by
  rw[List.all_cons,Bool.and_eq_true]at f;rcases List.mem_cons.mp hu with rfl|hu
  ·rw[zE r f.1];exact Hd r rx f.1 fx
  ·exact hG rx fx t f.2 u' hu
def ML(x:V)(xs:ae):Bool:=xs.any λy=>Cb y x
def OD(K:ak)(neg:Bool):R2:=λx y H Q=>∃p xs,y=.ref p/\(dF K H p xs\/a_ K H p xs)/\h_ x=true/\xs.all h_=true/\Q (.bl (if neg then !ML x xs else ML x xs)) H
theorem v_:jt X (compareOp .In) (OD X.K false):=by
 intro pins s σ H x y v u Q I rx ry h;obtain⟨p,xs,rfl,hq,fx,fs,q⟩:=h;cases ry;rcases hq with hq|hq
 ·obtain⟨aN,r,pl,hz⟩:=I.list hq;refine SeqAt.in_listAt (tT x) pl.isList (λw hw=>hG rx fx r fs w (by simpa using hw)) ⟨.bl _,H,I,rfl,?_⟩;rw[show aN.toArray.any (tT x)=aN.any (tT x) by simp,jW r fs];exact q
 ·obtain⟨aN,r,pl,hz⟩:=I.tuple hq;refine SeqAt.in_tupleAt (tT x) pl (λw hw=>hG rx fx r fs w (by simpa using hw)) ⟨.bl _,H,I,rfl,?_⟩;rw[show aN.toArray.any (tT x)=aN.any (tT x) by simp,jW r fs];exact q
theorem Bi:jt X (compareOp .NotIn) (OD X.K true):=by
 intro pins s σ H x y v u Q I rx ry h;obtain⟨p,xs,rfl,hq,fx,fs,q⟩:=h;cases ry;rcases hq with hq|hq
 ·obtain⟨aN,r,pl,hz⟩:=I.list hq;refine SeqAt.notIn_listAt (tT x) pl.isList (λw hw=>hG rx fx r fs w (by simpa using hw)) ⟨.bl _,H,I,rfl,?_⟩;rw[show aN.toArray.any (tT x)=aN.any (tT x) by simp,jW r fs];exact q
 ·obtain⟨aN,r,pl,hz⟩:=I.tuple hq;refine SeqAt.notIn_tupleAt (tT x) pl (λw hw=>hG rx fx r fs w (by simpa using hw)) ⟨.bl _,H,I,rfl,?_⟩;rw[show aN.toArray.any (tT x)=aN.any (tT x) by simp,jW r fs];exact q
theorem p7:fq X (.builtin "len") (λxs H Q=>∃p ys,xs=[.ref p]/\(dF X.K H p ys\/a_ X.K H p ys)/\Q (.int ys.length) H):=by
 intro pins s σ H xs us Q I r h;obtain⟨p,ys,rfl,hq,q⟩:=h;obtain⟨u,rfl,rx⟩:=vals1 r;cases rx;have hn:=pv;rcases hq with hq|hq
 ·obtain⟨aN,r',pl,hz⟩:=I.list hq;have hlen:=r'.length;exact Calls.call_len_list pl.isList (by simp only[List.size_toArray]<;>omega) ⟨.int ys.length,H,I.tok _,⟨s.toks+1,by rw[List.size_toArray,hlen]⟩,q⟩
 ·obtain⟨aN,r',pl,hz⟩:=I.tuple hq;have hlen:=r'.length;exact len_tuple pl (by simp only[List.size_toArray]<;>omega) ⟨.int ys.length,H,I.tok _,⟨s.toks+1,by rw[List.size_toArray,hlen]⟩,q⟩
theorem p6:fq X (.type "list") (λxs H Q=>∃p ys,xs=[.ref p]/\(dF X.K H p ys\/a_ X.K H p ys)/\∀l,H l=none->Q (.ref l) (upd H l (.lst ys))):=by
 intro pins s σ H xs us Q I r h;obtain⟨p,ys,rfl,hq,q⟩:=h;obtain⟨u,rfl,rx⟩:=vals1 r;cases rx;have fin:∀(aN:aq),Vals ys aN->ys.length<=sizeLine->∀(h':Heap) (c':Nat),(∀b o',s.heap.get? b=some o'->h'.get? b=some o') ->
   h'.get? s.heap.objs.size=some { cls:=.type "list",dict:=none,data:=.seq aN.toArray c',slots:=#[] }->EP X pins σ Q (.ref s.heap.objs.size) { s with heap:=h' }:=λaN r' hz h' c' kp e =>
  ⟨.ref s.heap.objs.size,_,I.laid (t':=s.toks) kp (Xj _) (show dj X.prog X.w _ h' _ (.lst ys) from⟨hz,aN,c',r',e⟩),rfl,q _ (I.cn.fresh (Xj _))⟩
 rcases hq with hq|hq
 ·obtain⟨aN,r',pl,hz⟩:=I.list hq;have hlen:=r'.length;obtain⟨o,ho,hc,n,hd⟩:=pl.isList;exact call_list_seq p (.inl rfl) ho hc hd (λh' c' kp e=>fin aN r' hz h' c' kp e) (by simp only[List.size_toArray]<;>omega)
 ·obtain⟨aN,r',pl,hz⟩:=I.tuple hq;have hlen:=r'.length;obtain⟨o,ho,hc,n,hd⟩:=pl;exact call_list_seq p (.inr rfl) ho hc hd (λh' c' kp e=>fin aN r' hz h' c' kp e) (by simp only[List.size_toArray]<;>omega)
theorem nB:fq X (.type "tuple") (λxs H Q=>∃p ys,xs=[.ref p]/\((dF X.K H p ys/\∀l,H l=none->Q (.ref l) (upd H l (.tup ys)))\/(a_ X.K H p ys/\Q (.ref p) H))):=by
 intro pins s σ H xs us Q I r h;obtain⟨p,ys,rfl,h⟩:=h;obtain⟨u,rfl,rx⟩:=vals1 r;cases rx;rcases h with ⟨hq,q⟩|⟨hq,q⟩
 ·obtain⟨aN,r',pl,hz⟩:=I.list hq;have hlen:=r'.length;refine call_tuple_list pl.isList (λh' kp=>?_) (by simp only[List.size_toArray]<;>omega);have I1:Inv X pins σ H { s with heap:=h' }:=I.kept (t':=s.toks) kp;have I2:Inv X pins σ (upd H h'.objs.size (.tup ys)) { s with heap:=h'.push { cls:=.type "tuple",data:=.seq aN.toArray } } :=
   I1.laid (t':=s.toks) (λb o e=>Xi _ e) (Xj _) (show dj X.prog X.w _ _ _ (.tup ys) from⟨hz,aN,r',IsTup.new _ _⟩)
  exact⟨.ref h'.objs.size,_,I2,rfl,q _ (I1.cn.fresh (Xj _))⟩
 ·obtain⟨aN,r',pl,hz⟩:=I.tuple hq;exact call_tuple_same pl ⟨.ref p,H,I,rfl,q⟩
def NM(K:ak)(T:String)(x:V)(H:Hp):Prop:=match x with
 |.str _=>T = "str"
 |.int _=>T = "int"
 |.ref p=>(T = "list" /\ ∃xs,dF K H p xs)\/(T = "tuple" /\ ∃o,K.lookup p=some o/\o.cls=.type "tuple" /\ o.dict=none) \/
   (T = "dict" /\ ((∃mi,H p=some (.dK mi))\/∃mi,H p=some (.dT mi)))\/(T = "set" /\ ∃S n,H p=some (.set S n))
 |_=>False
theorem xE{pins:aj}{s:Shared}{T:String}{x:V}{v:Value}(I:Inv X pins σ H s)(r:RelV x v)(ty:NM X.K T x H):
  s.TypeIs v T/\∀a,v=.ref a->∃ob,s.heap.get? a=some ob/\ob.dict=none:=by
 cases x with
 |str z =>
  obtain⟨t,rfl⟩:=r;cases (show T = "str" from ty);exact⟨typeIs_str s z t,λ_ e=>nomatch e⟩
 |int i =>
  obtain⟨t,rfl⟩:=r;cases (show T = "int" from ty);exact⟨typeIs_int s i t,λ_ e=>nomatch e⟩
 |ref p =>
  cases r;rcases ty with ⟨rfl,xs,hq⟩|⟨rfl,o,hk,hc,hd⟩|⟨rfl,hk⟩|⟨rfl,S,n,hk⟩
  ·obtain⟨aN,_,pl,_⟩:=I.list hq;refine⟨pl.isList.typeIs,λa e=>?_⟩;cases e;obtain⟨o,n,e,c,hd,_⟩:=pl;exact⟨o,e,hd⟩
  ·refine⟨⟨o,I.uQ p o hk,hc⟩,λa e=>?_⟩;cases e;exact⟨o,I.uQ _ o hk,hd⟩
  ·have z:∃o,s.heap.get? p=some o/\o.ExactDict:=by
    rcases hk with ⟨mi,hk⟩|⟨mi,hk⟩
    ·obtain⟨_,_,_,_,o,_,_,e,ex,_⟩:=I.cn p _ hk;exact⟨o,e,ex⟩
    ·obtain⟨_,_,_,_,o,_,_,e,ex,_⟩:=I.cn p _ hk;exact⟨o,e,ex⟩
   obtain⟨o,e,ex⟩:=z;refine⟨⟨o,e,ex.1⟩,λa e2=>?_⟩;cases e2;exact⟨o,e,ex.2.1⟩
  ·obtain⟨o,_,_,_,e,ex,_⟩:=I.cn p _ hk;refine⟨⟨o,e,ex.1⟩,λa e2=>?_⟩;cases e2;exact⟨o,e,ex.2.1⟩
 |_=>exact False.elim ty
def N0(K:ak)(T:String)(r:V->ae->Hp->VK->Prop)(to:TE):TE:=λσ H Q=>to σ H λx H1=>NM K T x H1/\r x [] H1 Q
def T6(K:ak)(T:String)(r:V->ae->Hp->VK->Prop)(to:TE)(t:TA):TE:=λσ H Q=>to σ H λx H1=>NM K T x H1/\t σ H1 λxs H2=>r x xs H2 Q
variable {o e:Expr}{es:au}{to:TE}{t:TA}{name:Str}{apos cpos:Pos}{T id:String}{r:V->ae->Hp->VK->Prop}
theorem OO(pa:PlainAttrs T)(slot:Slot T name id)(PH:typeOf (.builtin id)=pure (.type "method_descriptor"))(hm:Rw X id r)(ho:PE X o to)
  (rn:attributeBase o name X.env (eval o X.env)=eval o X.env:=by rfl) (hline:(apos.endLine==cpos.line)=true:=by rfl):PE X (.Call (.Attribute o name apos) [] [] cpos) (N0 X.K T r to):=by
 intro pins s σ H Q I h;refine wpAny_Call_method0_late rn hline (cS (ho pins s σ H _ I h) λv s1 bK=>?_);obtain⟨x,H1,I1,r1,ty,q1⟩:=bK;obtain⟨h1,h2⟩:=xE I1 r1 ty;exact⟨T,id,pa,slot,PH,h1,h2,Calls.callWith_builtin rfl (PySem.evalArgs_none (hm pins s1 σ H1 x [] v [] Q I1 r1 .nil q1))⟩
theorem JS(pa:PlainAttrs T)(slot:Slot T name id)(PH:typeOf (.builtin id)=pure (.type "method_descriptor"))(hm:Rw X id r)(ho:PE X o to)(ha:PA X (e::es) t)
  (rn:attributeBase o name X.env (eval o X.env)=eval o X.env:=by rfl)
  (hfew:((backTo cpos (starEach (e::es) X.env)).all (λx=>!x.1)&&(backToKw cpos (keywordEach [] X.env)).all (λx=>x.1.isSome)
   && decide ((e::es).length+([]:List Keyword).length+(if ([]:List Keyword).isEmpty then 0 else 1)<30))=true:=by rfl)
  (hline:(apos.endLine==cpos.line)=true:=by rfl) (hs:starEach (e::es) X.env=(false,eval e X.env)::starEach es X.env:=by rfl) (Gg:(backTo cpos (starEach es X.env)).any (·.1)=false:=by rfl) :
  PE X (.Call (.Attribute o name apos) (e::es) [] cpos) (T6 X.K T r to t):=by
 intro pins s σ H Q I h;refine wpAny_Call_method_late rn hfew hline rfl (cS (ho pins s σ H _ I h) λv s1 bK=>?_);obtain⟨x,H1,I1,r1,ty,q1⟩:=bK;obtain⟨h1,h2⟩:=xE I1 r1 ty;refine⟨T,id,pa,slot,PH,h1,h2,?_⟩;have hA:=ha cpos pins s1 σ H1 _ I1 q1;rw[hs]at hA ⊢;refine Calls.callWith_builtin (by show(false||(backTo cpos (starEach es X.env)).any (·.1))=false;rw[Gg]<;>rfl) (Calls.evalArgs_plain ?_);exact cS hA λus s2 ⟨vs,H2,I2,r2,q2⟩=>hm pins s2 σ H2 x vs v us Q I2 r1 r2 q2
/- xs.append(e),list.index on a module's tuple .. are Rw facts of 06m -/
end
end L2
namespace L2
open PySem PySem.Spec PyProof.Rows
def Rx(X:Cx)(id:String)(r:V->ae->Hp->VK->Prop):Prop :=
 ∀(pins:aj) (s:Shared) (σ:St) (H:Hp) (x:V) (xs:ae) (v:Value) (us:aq) (Q:VK),Inv X pins σ H s->RelV x v->Vals xs us->r x xs H Q ->
  wpAny (model X.prog X.w) X.A (call (.builtin id) (v::us)) (EP X pins σ Q) X.xe s
theorem Vals.one:∀{x:V} {us:aq},Vals [x] us->∃u,us=[u]/\RelV x u
 |_,_,.cons r .nil=>⟨_,rfl,r⟩
theorem Vals.zero:∀{us:aq},Vals [] us->us=[]
 |_,.nil=>rfl
theorem Vals.dropLast{xs:ae}{us:aq}(h:Vals xs us):Vals xs.dropLast us.dropLast:=by
 induction h with
 |nil=>exact .nil
 |cons r t ih =>
  cases t with
  |nil=>exact .nil
  |cons q t'=>exact .cons r ih
theorem Vals.eraseIdx:∀{xs:ae} {us:aq} (i:Nat),Vals xs us->Vals (xs.eraseIdx i) (us.eraseIdx i)
 |_,_,_,.nil=>.nil
 |_,_,0,.cons _ t=>t
 |_,_,i+1,.cons r t=>.cons r (Vals.eraseIdx i t)
theorem Vals.reverse{xs:ae}{us:aq}(h:Vals xs us):Vals xs.reverse us.reverse:=by
 induction h with
 |nil=>exact .nil
 |cons r t ih=>rw[List.reverse_cons,List.reverse_cons];exact Vals.append ih (.cons r .nil)
theorem Vals.rep{xs:ae}{us:aq}(h:Vals xs us):∀k:Nat,Vals (List.replicate k xs).flatten (List.replicate k us).flatten
 |0=>.nil
 |k+1=>by
  rw[List.replicate_succ,List.replicate_succ,List.flatten_cons,List.flatten_cons];exact Vals.append h (Vals.rep h k)
theorem tQ{α:Type}(l:List α):l.eraseIdx (l.length - 1)=l.dropLast:=by
 induction l with
 |nil=>rfl
 |cons a r ih =>
  cases r with
  |nil=>rfl
  |cons b r =>
   have e:(a::b::r).length - 1=((b::r).length - 1)+1:=by
    have h1:(a::b::r).length=r.length+2:=rfl;have h2:(b::r).length=r.length+1:=rfl;left
   rw[e,List.eraseIdx_cons_succ,ih]
   all_goals rfl
theorem nQ{α:Type}:∀(l:List α) (i:Nat),(l.eraseIdx i).length<=l.length
 |[],_=>Xj _
 |_::_,0=>Yz _
 |_::r,i+1=>Nat.succ_le_succ (nQ r i)
theorem foldl_rep(aN:aq):∀(k:Nat) (acc:aq),
  List.foldl (λx1 x2=>x1++x2) acc.toArray (List.replicate k aN.toArray)=(acc++(List.replicate k aN).flatten).toArray
 |0,acc=>by simp
 |k+1,acc=>by
  have e:acc.toArray++aN.toArray=(acc++aN).toArray:=by simp
  have e2:(acc++aN)++(List.replicate k aN).flatten=acc++(List.replicate (k+1) aN).flatten:=by
   rw[List.replicate_succ,List.flatten_cons,List.append_assoc]
  rw[<- e2,<- foldl_rep aN k (acc++aN),<- e,List.replicate_succ,List.foldl_cons]
variable {aN:aq}{t':Nat}
section
variable {X:Cx}{pins:aj}{σ:St}{H:Hp}{s:Shared}{l b:Addr}{xs ys zs:ae}
theorem Inv.jI{its':aq}{n:Nat}{f:bx->bx}(I:Inv X pins σ H s)(hH:H l=some (.lst xs))
  (e:s.heap.get? l=some { cls:=.type "list",data:=.seq aN.toArray n }) (hf:f aN.toArray=its'.toArray) (hv:Vals ys its') (hz:ys.length<=sizeLine) :
  Inv X pins σ (upd H l (.lst ys)) { s with heap:=s.heap.update l (Obj.mapSeq f),toks:=t' }:=by
 have q:=PySem.IsL.update e f;rw[hf]at q;refine I.write (x:=l) (e:=l) (by rw[hH];exact trivial) (.inl rfl) (λb' u hb hu=>(Yc s.heap (Obj.mapSeq f) (YF hb)).trans hu) ⟨_,q⟩ ?_;exact⟨hz,its',_,hv,q⟩
theorem Inv.FK(I:Inv X pins σ H s)(hv:Vals ys aN)(hz:ys.length<=sizeLine):
  Inv X pins σ (upd H s.heap.objs.size (.lst ys)) { s with heap:=s.heap.push { cls:=.type "list",data:=.seq aN.toArray },toks:=t' } :=
 I.laid (λ_ _ q=>Xi _ q) (Xj _) ⟨hz,aN,0,hv,Xr _ rfl⟩
theorem Inv.fresh(I:Inv X pins σ H s):H s.heap.objs.size=none:=I.cn.fresh (Xj _)
theorem Inv.wk(I:Inv X pins σ H s)(hH:H l=some (.lst xs)):xs.length<=sizeLine/\∃(aN:aq) (n:Nat),Vals xs aN/\xs.length=aN.length/\s.heap.get? l=some { cls:=.type "list",data:=.seq aN.toArray n }:=by
 obtain⟨z,aN,n,r,e⟩:=I.cn l _ hH;exact⟨z,aN,n,r,r.length,e⟩
theorem yE{n:Nat}(h:n<=sizeLine):Builtin.List.listTooLong n=false:=by
 unfold Builtin.List.listTooLong;exact Yg (by left)
end
section
variable {X:Cx}
def AX:V->ae->Hp->VK->Prop:=λx vs H Q=>∃l xs y,x=.ref l/\vs=[y]/\H l=some (.lst xs)/\xs.length<sizeLine/\Q .bB (upd H l (.lst (xs++[y])))
theorem wd:Rx X "list.append" AX:=by
 intro pins s σ H x vs v us Q I rx rv h;obtain⟨l,xs,y,rfl,rfl,hH,hz,q⟩:=h;cases rx;obtain⟨u,rfl,ru⟩:=rv.one;obtain⟨z,aN,n,r,hl,e⟩:=I.wk hH;refine Yn F.slot_list_append ⟨_,e,rfl⟩ F.entry_list_append (F.args_list_append_2 _ _) (PySem.list_append l aN.toArray n u (by rw[List.size_toArray];left)) ⟨e,?_⟩;refine⟨.bB,_,I.jI (its':=aN++[u]) hH e (by simp) (r.append (.cons ru .nil)) ?_,rfl,q⟩;rw[List.length_append,List.length_singleton];left
def OA:V->ae->Hp->VK->Prop:=λx vs H Q=>∃l xs y,x=.ref l/\vs=[]/\H l=some (.lst xs)/\xs[xs.length - 1]?=some y/\Q y (upd H l (.lst xs.dropLast))
theorem O_:Rx X "list.pop" OA:=by
 intro pins s σ H x vs v us Q I rx rv h;obtain⟨l,xs,y,rfl,rfl,hH,hy,q⟩:=h;cases rx;have U7:=rv.zero;subst U7;obtain⟨z,aN,n,r,hl,e⟩:=I.wk hH;obtain⟨u,hu,ru⟩:=r.get hy;have U1:aN.toArray[aN.toArray.size - 1]?=some u:=by
  show aN.toArray[aN.length - 1]?=some u;rw[<- Array.getElem?_toList,<- hl];exact hu
 refine Yn F.slot_list_pop ⟨_,e,rfl⟩ F.entry_list_pop (F.args_list_pop_1 _) (MeetsSeq.list_pop_last l aN.toArray n u U1 (by rw[List.size_toArray];left)) ⟨e,?_⟩;refine⟨y,_,I.jI (its':=aN.dropLast) hH e ?_ r.dropLast ?_,ru,q⟩
 ·show aN.toArray.eraseIdxIfInBounds (aN.toArray.size - 1)=aN.dropLast.toArray;rw[List.size_toArray,List.eraseIdxIfInBounds_toArray,tQ]
 ·rw[List.length_dropLast];left
def EV:V->ae->Hp->VK->Prop:=λx vs H Q=>∃l xs i k y,x=.ref l/\vs=[.int i]/\H l=some (.lst xs) /\ -(2 ^ 63)<=i/\i<2 ^ 63/\seqIndex? i xs.length=some k/\xs[k]?=some y/\Q y (upd H l (.lst (xs.eraseIdx k)))
theorem J6:Rx X "list.pop" EV:=by
 intro pins s σ H x vs v us Q I rx rv h;obtain⟨l,xs,i,k,y,rfl,rfl,hH,h1,h2,hk,hy,q⟩:=h;cases rx;obtain⟨u,rfl,ru⟩:=rv.one;obtain⟨t,rfl⟩:=ru;obtain⟨z,aN,n,r,hl,e⟩:=I.wk hH;obtain⟨w,hw,k7⟩:=r.get hy;refine Yn F.slot_list_pop ⟨_,e,rfl⟩ F.entry_list_pop (F.args_list_pop_2 _ _)
  (MeetsSeq.list_pop_at l aN.toArray n i t k w (fitsIndex_both h1 h2) (by rw[List.size_toArray,<- hl];exact hk) (by rw[<- Array.getElem?_toList];exact hw) (by rw[List.size_toArray];left)) ⟨e,?_⟩
 refine⟨y,_,I.jI (its':=aN.eraseIdx k) hH e ?_ (r.eraseIdx k) ?_,k7,q⟩
 ·show aN.toArray.eraseIdxIfInBounds k=(aN.eraseIdx k).toArray;rw[List.eraseIdxIfInBounds_toArray]
 ·have:=nQ xs k;left
def OE:R2:=λx y H Q=>∃l b xs zs,x=.ref l/\y=.ref b/\H l=some (.lst xs)/\H b=some (.lst zs)/\xs.length+zs.length<=sizeLine/\∀p,H p=none->Q (.ref p) (upd H p (.lst (xs++zs)))
theorem yC:jt X (binaryOp .Add) OE:=by
 intro pins s σ H x y v u Q I rx ry h;obtain⟨l,b,xs,zs,rfl,rfl,hH,hB,hz,q⟩:=h;cases rx;cases ry;obtain⟨z,aN,n,r,hl,e⟩:=I.wk hH;obtain⟨z2,yV,n2,r2,Il,e2⟩:=I.wk hB;refine PySem.P.add_list e e2 ?_ (by rw[List.size_toArray,List.size_toArray];left);have ea:aN.toArray++yV.toArray=(aN++yV).toArray:=by simp
 rw[ea];exact⟨.ref _,_,I.FK (t':=s.toks) (r.append r2) (by rw[List.length_append];left),rfl,q _ I.fresh⟩
def Oz:R2:=λx y H Q=>∃l k xs,x=.ref l/\y=.int k/\H l=some (.lst xs) /\ -(2 ^ 63)<=k/\k<2 ^ 63/\xs.length*k.toNat<=sizeLine /\
 ∀p,H p=none->Q (.ref p) (upd H p (.lst (List.replicate k.toNat xs).flatten))
theorem len_rep{α:Type}(xs:List α)(k:Nat):(List.replicate k xs).flatten.length=k*xs.length:=by
 induction k with
 |zero=>simp
 |succ k ih=>rw[List.replicate_succ,List.flatten_cons,List.length_append,ih,Nat.succ_mul,Nat.add_comm]
theorem Fp:jt X (binaryOp .Mult) Oz:=by
 intro pins s σ H x y v u Q I rx ry h;obtain⟨l,k,xs,rfl,rfl,hH,h1,h2,hz,q⟩:=h;cases rx;obtain⟨t,rfl⟩:=ry;obtain⟨z,aN,n,r,hl,e⟩:=I.wk hH;have hlen:aN.toArray.size*k.toNat<=sizeLine:=by rw[List.size_toArray,<- hl];exact hz
 have lg:¬ aN.toArray.size*k.toNat>(2 ^ 63 - 1) / 8:=by
  have:(sizeLine:Nat)<=(2 ^ 63 - 1) / 8:=by decide
  left
 have Qh:¬ (!Builtin.List.listFitsIndex k)=true:=by
  rw[fitsIndex_both h1 h2];exact Xe
 have KW:¬ Builtin.List.listTooLong (aN.toArray.size*k.toNat)=true:=by
  rw[yE hlen];exact Xe
 have P4:List.foldl (λx1 x2=>x1++x2) #[] (List.replicate (if aN.toArray.isEmpty=true then 0 else k.toNat) aN.toArray)=(List.replicate k.toNat aN).flatten.toArray:=by
  have f0:∀m:Nat,List.foldl (λx1 x2=>x1++x2) #[] (List.replicate m aN.toArray)=(List.replicate m aN).flatten.toArray:=λm=>by
   have:=foldl_rep aN m [];rw[List.nil_append]at this;exact this
  rw[f0];cases aN with
  |nil=>simp
  |cons a r'=>rw[if_neg (by simp)]
 refine wpAny_binaryOp_repeat_ref (T:="list") (U:="int") (by decide) ⟨_,e,rfl⟩ (λs'=>typeIs_int s' k t) noFill_list_mul F.fills_int_mul F.slot_int_rmul repeat_list F.slot_int_index.lookup
  (Yn F.slot_int_rmul (typeIs_int s k t) F.entry_int_rmul (F.args_int_rmul_2 _ _) (int___rmul___int_list k t l aN.toArray n)
   ⟨e,rfl,⟨_,e,rfl⟩,Yn F.slot_list_mul ⟨_,e,rfl⟩ F.entry_list_mul (F.args_list_mul_2 _ _) (AutoListH.list___mul___list_int_3 l aN.toArray n k t Qh lg KW) ⟨e,?_⟩⟩)
 rw[P4];exact⟨.ref _,_,I.FK (t':=s.toks) (r.rep k.toNat) (by rw[len_rep,Nat.mul_comm];exact hz),rfl,q _ I.fresh⟩
end
section
variable {prog:aJ}{w:World}{A:aQ}{E:aF}{s:Shared}
set_option maxRecDepth 100000 in
end
section
variable {X:Cx}
end
end L2
namespace Att
open PySem PySem.W PySem.Calls PyProof.Rows
theorem k9{P:Params}{h:Heap}:∀(ns:ai) (vs:aq),WellAll P h vs (ns.map WData.int)->IntsAre vs ns:=by
 intro ns;induction ns with
 |nil =>
  intro vs w;rw[List.map_nil]at w;cases w;exact .nil
 |cons n ns ih =>
  intro vs w;rw[List.map_cons]at w;cases w with
  |cons a b =>
   cases a;exact .cons _ _ (ih _ b)
theorem vX{l:OpenLaw}{n:Nat}(hn:l.most=some n){P:Params}{h:Heap}{args:List WData}{vals:aq}
  (BN:l.row.toRowW.claim.pre args=true) (PD:WellAll P h vals args) :
  ∃a vs ns,vals=[Value.ref a]/\args=[WData.list (ns.map WData.int)]/\h.get? a=some { cls:=.type "list",data:=.seq vs.toArray }/\IntsAre vs ns/\ns.length<=n:=by
 have BK:WShape.hasAll [] args [.list .int]=true:=(pre_splitW BN).1;have hc:l.pre.holds [] { args:=args }=true:=(pre_splitW BN).2;obtain⟨d,r,rfl,h1,h2⟩:=hasAllW_cons BK;obtain rfl:=hasAllW_nil h2;obtain⟨xs,rfl,h3⟩:=hasW_list h1;obtain⟨ns,rfl⟩:=items_int h3;have hlen:ns.length<=n:=by
  unfold OpenLaw.pre at hc;have h4:(WTm.not (.lt (.lit (.int (n:Int))) (.len (.arg 0)))).holds [] { args:=[.list (ns.map .int)] }=true:=by
   have h4:=(holds_andW hc).1;rw[hn]at h4;exact h4
  have h5:=condW_of h4 (w_not (w_lt w_lit (w_len_list (w_arg rfl))));rw[List.length_map]at h5;refine Nat.le_of_not_lt λq=>?_;have q':(n:Int)<((ns.length:Nat):Int):=by left
  first
   | (rw[decide_eq_true q']at h5;exact absurd h5 (by decide))
   | (simp at h5;left)
 cases PD with
 |cons w1 w2 =>
  cases w2;cases w1 with
  |list ho hall=>exact⟨_,_,ns,rfl,rfl,ho,k9 ns _ hall,hlen⟩
theorem v5(l:OpenLaw)(args:List WData):l.row.toRowW.claim.post args (.bool true) args=true :=
 postW_of (r:=l.row.toRowW) (X:=(true==true))
  (show WShape.has [] (.bool true) .bool=true by first|rfl|decide|simp[WShape.has,WShape.arms,WShape.armsAll])
  (show(WTm.eq .res (.lit (.bool true))).value [] { args:=args,res:=some (.bool true),after:=args }=some (.bool (true==true)) from w_eq_bool (w_res rfl) w_lit) rfl
theorem r6{l:OpenLaw}{n:Nat}{q:aJ}{loose:av}{XP:(aP)->Heap->Prop}{YP:World->Heap->Prop}{d:DefRec}
  (hn:l.most=some n) (K6:d.params.defaults=[])
  (call:∀(w:World) (s₀ s₁:Shared) (mg mb:aP) (fa:Addr) (o:Obj) (pm cd doc:Value) (a:Addr) (vs:aq) (ns:ai),
   Ground q loose [] XP w s₀ mg mb s₁.heap->YP w s₁.heap ->
   s₁.heap.get? fa=some o->o.data=.func (docDef d.name d.params d.body d.scope pm cd doc)->s₁.heap.CodeRec cd d.name->mg d.name=some (.ref fa) ->
   s₁.heap.get? a=some { cls:=.type "list",data:=.seq vs.toArray }->IntsAre vs ns->ns.length<=n->s₁.gens = #[] ->
   codeAny (model l.prog w) callerA (.call (.ref fa) ⟨[.ref a],[]⟩) (λr s'=>r=.ok (.ret (.bool true))/\OldK s₁.heap s'.heap/\s'.os=s₁.os/\AllBare s'.gens) s₁) :
  WalkO q loose XP YP l.row.toRowW d [] (λf vs=>PySem.call f vs):=by
 intro w s₀ s₁ mg mb G Y fa o pm cd doc dV kV ho hd wA hD hmg hg args vals as BN Vo WZ PD W3;obtain rfl:dV=.none:=Dflts.none hD K6;obtain rfl:kV=.none:=Dflts.noKw hD;obtain⟨a,vs,ns,rfl,rfl,Gh,hints,hlen⟩:=vX hn BN PD;refine enter_call (Yh (call w s₀ s₁ mg mb fa o pm cd doc a vs ns G Y ho (fd_plain hd) wA hmg Gh hints hlen hg) λr s' hq=>?_);obtain⟨rfl,h2,h3,h4⟩:=hq;exact⟨.inl ⟨.bool true,.bool true,[],rfl,λ_=>rfl,.bool true,v5 l _,λ_=>⟨List.Pairwise.nil,λ_ hm=>(nomatch hm)⟩⟩,h2,h3,h4⟩
section
variable {prog:aJ}{w:World}{A:aQ}{E:aF}{s:Shared}{K:Frag}
noncomputable def ledger(h:Heap)(L d:Addr):aj:=(List.range h.objs.size).filterMap λa=>if a=L\/a=d then none else(h.get? a).map λo=>(a,o)
end
end Att
namespace L2
open PySem PySem.Spec PyProof.Rows
theorem j6:∀{vs:aq} {ns:ai},IntsAre vs ns->Vals (ns.map V.int) vs
 |_,_,.nil=>.nil
 |_,_,.cons n t h=>.cons ⟨t,rfl⟩ (j6 h)
def CB(H:Hp):Prop:=∀b,H b=none\/∃o xs,H b=some (.iE o (.lst xs))
theorem yS{P:aJ}{w:World}{K:ak}{mg mb:aP}{CX:vI}{k:Nat}{fa a:Addr}{fd:FuncData}{x:Str}{sp:Sp}{s₁:Shared}{vs:aq}{ns:ai}
  (KX:K.In s₁.heap) (xf:s₁.heap.Ns mainGlobals mg) (hb:s₁.heap.Ns builtinsNs mb) (VF:∀x:Str,x ≠ "__name__" -> mb x=bootBuiltins x) (P8:s₁.heap.NoLimit) (hg:s₁.gens = #[])
  (ha:s₁.heap.get? a=some { cls:=.type "list",data:=.seq vs.toArray }) (hi:IntsAre vs ns) (hl:ns.length<=sizeLine) (hr:f_ k callerA)
  (F:∀base:Heap,K.In base->base.Ns mainGlobals mg->eF P w K mg base CX k fa fd [x] sp) (Lb:∀(s:Shared) (u:Value),BindsTo s fd ⟨[u],[]⟩ [(x,u)])
  (qm:∀H:Hp,CB H->dF K H a (ns.map V.int)->sp [.ref a] H (λv _=>v=.bl true) λ_ _ _=>False)
  (Qx:∀H e s',CX [] H s₁ (λ_ _ _=>False) e s'->False) :
  codeAny (model P w) callerA (.call (.ref fa) ⟨[.ref a],[]⟩) (λr s'=>r=.ok (.ret (.bool true))/\OldK s₁.heap s'.heap/\s'.os=s₁.os/\AllBare s'.gens) s₁:=by
 have rv:=j6 hi;have Pa:=hi.length;have core:∀H:Hp,CB H->dF K H a (ns.map V.int)->iI P w H s₁.heap->(∀b,H b≠none->b=a)->(H a≠none->K.lookup a=none) ->
   codeAny (model P w) callerA (.call (.ref fa) ⟨[.ref a],[]⟩) (λr s'=>r=.ok (.ret (.bool true))/\OldK s₁.heap s'.heap/\s'.os=s₁.os/\AllBare s'.gens) s₁:=by
  intro H hO hS cn hA hK;have vw:∀{b:Addr} {o:Obj},s₁.heap.get? b=some o->H b=none->(pH s₁.heap H).get? b=some o:=λe n=>zb e n;have J3:∀{b:Addr} {o:Obj} {es:Array DictEntry} {ep:Nat},s₁.heap.get? b=some o->o.data=.dict es ep->H b=none:=λ{b o es ep} e d=>by
   cases q:H b with
   |none=>rfl
   |some u =>
    have e':b=a:=hA b (by rw[q];simp);subst e';rw[ha]at e;cases e;have d':Data.seq vs.toArray _=Data.dict es ep:=d;cases d'
  have MF:∀{b:Addr} {m:aP},s₁.heap.Ns b m->(pH s₁.heap H).Ns b m:=λ{b m} ⟨o,es,ep,e,d,r⟩=>⟨o,es,ep,vw e (J3 e d),d,r⟩
  have S_:K.In (pH s₁.heap H):=λb o e=>vw (KX b o e) (by
   cases q:H b with
   |none=>rfl
   |some u =>
    have e':b=a:=hA b (by rw[q];simp);subst e';rw[hK (by rw[q];simp)]at e;cases e)
  have hM:Mod K mg (pH s₁.heap H):=⟨S_,MF xf,⟨mb,MF hb,VF⟩,let ⟨mc,h1,h2⟩:=P8;⟨mc,MF h1,h2⟩⟩
  have e0:CD P w K mg (pH s₁.heap H) callerA [] s₁ H:=⟨rfl,hM,λb o e=>Bo e,Nat.le_of_eq (wz _ _),trivial,λb hb=>absurd (show b∈([]:bt) from hb) (by simp),cn,.of_eq hg⟩
  refine Yh ((F _ S_ (MF xf)).run callerA [] s₁ H ⟨[.ref a],[]⟩ [.ref a] [.ref a] _ _ hr e0 (Lb s₁ (.ref a)) (.cons rfl .nil) (qm H hO hS)) λr s' h=>?_;cases r with
  |error e=>exact(Qx H e s' h).elim
  |ok fl =>
   cases fl with
   |next=>exact False.elim h
   |brk=>exact False.elim h
   |cont=>exact False.elim h
   |ret u =>
    obtain⟨v,H',os,bare,un,PV,r',q⟩:=h;have q':v=.bl true:=q;subst q';obtain rfl:u=Value.bool true:=r';refine⟨rfl,OldK.of_keep λb o e=>?_,os,bare⟩;cases q:H b with
    |none=>exact un.keep b o e q (by intro z;exact absurd (show b∈([]:bt) from z) (by simp)) (by simp)
    |some u =>
     rcases hO b with z|⟨ob,xs,z⟩
     ·rw[q]at z;cases z
     ·have z2:=un.ku b ob _ z;obtain⟨e1,_⟩:=cn b _ z;obtain⟨e2,_⟩:=PV b _ z2;rw[e]at e1;cases e1;exact e2
 cases hk:K.lookup a with
 |some o =>
  have e:=KX a o hk;rw[ha]at e;cases e;refine core (λ_=>none) (λ_=>.inl rfl) (.inr ⟨_,vs.toArray,_,hk,rfl,rfl,rfl,by rw[List.size_toArray,Pa];exact hl,by simpa using rv⟩) (λb u z=>by have z':(none:Option HO)=some u:=z;cases z') (λb z=>absurd rfl z) λz=>absurd rfl z
 |none =>
  refine core (λb=>if b=a then some (.iE { cls:=.type "list",data:=.seq vs.toArray } (.lst (ns.map V.int)))else none) (λb=>?_) (.inl (.inr ⟨{ cls:=.type "list",data:=.seq vs.toArray },Xy rfl⟩)) (λb u z=>?_) (λb z=>?_) λ_=>hk
  ·by_cases hb:b=a
   ·exact .inr ⟨_,_,Xy hb⟩
   ·exact .inl (XQ hb)
  ·by_cases hb:b=a
   ·have z':=(Xy hb).symm.trans z;cases z';subst hb;exact⟨ha,by rw[List.length_map];exact hl,vs,_,rv,ha⟩
   ·have z':=(XQ hb).symm.trans z;cases z'
  ·by_cases hb:b=a
   ·exact hb
   ·exact absurd (XQ hb) z
end L2
namespace L2
open PySem PySem.Spec PyProof.Rows
theorem Ao{l:PySem.W.OpenLaw}{n k:Nat}{q:aJ}{loose:av}{XP:(aP)->Heap->Prop}{YP:World->Heap->Prop}{d:DefRec}{K:Params->ak}{CX:World->vI}{sp:World->Sp}{x:Str}
  (hn:l.most=some n) (Ij:n<=sizeLine) (K6:d.params.defaults=[]) (hr:f_ k callerA)
  (hY:∀(w:World) (h:Heap),YP w h->(K w.params).In h)
  (F:∀(w:World) (mg:aP) (fa:Addr) (h:Heap),(K w.params).In h->h.Ns mainGlobals mg->mg d.name=some (.ref fa) ->
   ∃fd:FuncData,(∀(s:Shared) (u:Value),BindsTo s fd ⟨[u],[]⟩ [(x,u)]) /\
    ∀base:Heap,(K w.params).In base->base.Ns mainGlobals mg->eF l.prog w (K w.params) mg base (CX w) k fa fd [x] (sp w))
  (qm:∀(w:World) (H:Hp) (a:Addr) (ns:ai),ns.length<=n->CB H->dF (K w.params) H a (ns.map V.int)->sp w [.ref a] H (λv _=>v=.bl true) λ_ _ _=>False)
  (Qx:∀(w:World) (H:Hp) (s:Shared) (e:Value) (s':Shared),CX w [] H s (λ_ _ _=>False) e s'->False) :
  PySem.W.WalkO q loose XP YP l.row.toRowW d [] (λf vs=>PySem.call f vs):=by
 refine Att.r6 hn K6 λw s₀ s₁ mg mb fa o pm cd doc a vs ns G Y ho hd wA hmg Gh hints hlen hg=>?_;have KX:=hY w _ Y;obtain⟨fd,hb,hF⟩:=F w mg fa _ KX G.T.g hmg;exact yS KX G.T.g G.T.b G.T.builtins G.T.nolimit hg Gh hints (Xz hlen Ij) hr hF hb (λH hO hS=>qm w H a ns hlen hO hS) λH e s'=>Qx w H s₁ e s'
end L2
namespace L2
open PySem PySem.Spec PyProof.Rows
noncomputable def dD(s:Stmt):Arguments:=match s with
 |.FunctionDef _ a _ _ _ _ _ _ _ _=>a
 |_=>{ posonlyargs:=[],args:=[],vararg:=none,kwonlyargs:=[],kw_defaults:=[],kwarg:=none,defaults:=[] }
noncomputable def bg(s:Stmt):aO:=match s with
 |.FunctionDef _ _ b _ _ _ _ _ _ _=>b
 |_=>[]
noncomputable def ay(s:Stmt):Scope:=match s with
 |.FunctionDef _ _ _ _ _ _ sc _ _ _=>sc
 |_=>{ kind:=.function,names:=[],isGenerator:=false,isCoroutine:=false }
noncomputable abbrev qr:vI:=λ_ _ _ _ _ _=>False
noncomputable abbrev E0:XK:=λ_ _ _=>False
theorem Dt{X:Cx}:Passes qr X E0:=λ_ _ _ _ _ _ _ h=>h.elim
structure wY(K:ak)(x qual:Str)(st:Stmt)(f:Addr)(fd:FuncData):Prop where
 ex:∃(oc:Value) (od:Option Addr) (kV doc pm:Value) (an:Option Addr) (eD ct:Value) (yy:Array (Option Value)),
  fd=PySem.W.fnOf x qual (dD st) (bg st) (ay st) .none kV doc pm an eD ct/\K.lookup f=some ⟨oc,od,.func fd,yy⟩/\PySem.W.codeIn K eD qual=true
 kp:PySem.W.keepIn K (.ref f)=true
variable {f:Addr}{ps:av}{qual:Str}{st:Stmt}
section
variable {P:aJ}{w:World}{K:ak}{mg:aP}{base:Heap}
theorem wY.ok{x:Str}{fd:FuncData}{N:av}{k:Nat}{sp:Sp}(F:wY K x qual st f fd)(S:dX N ps (ay st))(len:∀vs H Q E,sp vs H Q E->vs.length=ps.length)
  (rm:∀(eD:Value) (A:aQ) (outer:List Env) (s:Shared) (H:Hp) (vs:ae) (Q:VK) (E:XK),f_ k (A.deeper (envOfC qual (ay st) s.heap.objs.size f eD))->sp vs H Q E ->
   ∃t,fJ (gN qr P w K mg base N qual (ay st) f eD A outer s H E).sY (bg st) t/\t { nx:=λ_ H'=>Q .bB H',rt:=Q } (start N vs) H):eF P w K mg base qr (k+1) f fd ps sp:=by
 obtain⟨oc,od,kV,doc,pm,an,eD,ct,yy,rfl,lk,wA⟩:=F.ex;refine DK lk wA S len λA outer s H vs Q E hr qm=>?_;obtain⟨t,h,q⟩:=rm eD A outer s H vs Q E hr qm;exact⟨t,h.sY,q⟩
theorem wY.binds{x:Str}{fd:FuncData}(F:wY K x qual st f fd)
  (h:∀(kV doc pm:Value) (an:Option Addr) (eD ct:Value) (us:aq),us.length=ps.length->bindArgs (PySem.W.fnOf x qual (dD st) (bg st) (ay st) .none kV doc pm an eD ct) ⟨us,[]⟩=pure (ps.zip us)):Binds K fd ps []:=by
 obtain⟨oc,od,kV,doc,pm,an,eD,ct,yy,rfl,lk,wA⟩:=F.ex;exact .all (h kV doc pm an eD ct)
theorem GF{x:Str}{oc:Value}{od an:Option Addr}{yy:Array (Option Value)}{kV doc pm eD ct:Value}(l:K.lookup f=some ⟨oc,od,.func (PySem.W.fnOf x qual (dD st) (bg st) (ay st) .none kV doc pm an eD ct),yy⟩)
  (c:PySem.W.codeIn K eD qual=true) (k:PySem.W.keepIn K (.ref f)=true):wY K x qual st f (PySem.W.fnOf x qual (dD st) (bg st) (ay st) .none kV doc pm an eD ct):=⟨⟨oc,od,kV,doc,pm,an,eD,ct,yy,rfl,l,c⟩,k⟩
end
section
variable {X:Cx}
end
theorem BC{A B:Prop}(h:B):if false=true then A else B:=by
 rw[if_neg Bool.false_ne_true];exact h
theorem Kk{A B:Prop}(h:A):if true=true then A else B:=by
 rw[if_pos rfl];exact h
def aI(H H':Hp):Prop:=∀b o,H b=some o->H' b=some o
theorem aI.refl(H:Hp):aI H H:=λ_ _ h=>h
variable {H H':Hp}
theorem aI.trans{H1 H2:Hp}(a:aI H H1)(b:aI H1 H2):aI H H2:=λc o h=>b c o (a c o h)
theorem aI.free(e:aI H H'){l:Addr}(h:H' l=Option.none):H l=Option.none:=by
 cases q:H l with
 |none=>rfl
 |some o =>
  rw[e l o q]at h;cases h
theorem aI.seq{K:ak}{a:Addr}{xs:ae}(e:aI H H')(h:dF K H a xs):dF K H' a xs:=by
 rcases h with (h|⟨o,h⟩)|h
 ·exact .inl (.inl (e _ _ h))
 ·exact .inl (.inr ⟨o,e _ _ h⟩)
 ·exact .inr h
end L2
set_option autoImplicit false
set_option linter.all false
set_option Elab.async false
set_option maxRecDepth 100000
set_option maxHeartbeats 4000000
section
namespace DI
open PySem (Str Expr Stmt Scope NameKind)
inductive Fl where|ow|fz|al|sc
 deriving DecidableEq
inductive D where
 |bB|bl (b:Bool)|int (i:Int)|str (s:Str)
 |tup (ds:List D)
 |lst (f:Fl) (ds:List D)
 |gr (f:Fl) (ks:cj) (vs:List D)
abbrev aM:=Option D
abbrev aa:=List D
mutual
noncomputable def af(g:Fl->Fl):D->D
 |.tup ds=>.tup (aw g ds)
 |.lst f ds=>.lst (g f) (aw g ds)
 |.gr f ks vs=>.gr (g f) ks (aw g vs)
 |.bB=>.bB
 |.bl b=>.bl b
 |.int i=>.int i
 |.str s=>.str s
noncomputable def aw(g:Fl->Fl):aa->aa
 |[]=>[]
 |d::ds=>af g d::aw g ds
end
theorem aE(g:Fl->Fl):∀ds:aa,aw g ds=ds.map (af g)
 |[]=>rfl
 |d::ds=>by rw[aw,aE g ds];rfl
noncomputable def aG:Fl->Fl|.ow=>.al|f=>f
noncomputable def cq:Fl->Fl|.fz=>.al|f=>f
noncomputable def aA:Fl->Fl|.sc=>.sc|_=>.fz
noncomputable def ja:Fl->Bool|.sc=>true|_=>false
mutual
noncomputable def aW(p:Fl->Bool):D->Bool
 |.tup ds=>aS p ds
 |.lst f ds=>p f||aS p ds
 |.gr f ks vs=>p f||aS p vs
 |_=>false
noncomputable def aS(p:Fl->Bool):aa->Bool
 |[]=>false
 |d::ds=>aW p d||aS p ds
end
noncomputable def bG:Fl->Bool|.al=>true|_=>false
noncomputable def eA:Fl->Bool|.ow=>true|_=>false
noncomputable def anyF:Fl->Bool:=λ_=>true
mutual
noncomputable def eZ:D->D->Bool
 |.bB,.bB=>true
 |.bl a,.bl b=>a==b
 |.bl a,.int b=>(if a then 1 else 0)==b
 |.int a,.bl b=>a==(if b then 1 else 0)
 |.int a,.int b=>a==b
 |.str a,.str b=>a==b
 |.tup a,.tup b=>dq a b
 |.lst _ a,.lst _ b=>dq a b
 |_,_=>false
noncomputable def dq:aa->aa->Bool
 |[],[]=>true
 |a::as,b::bs=>eZ a b&&dq as bs
 |_,_=>false
end
noncomputable def bR:Nat->D->Bool
 |_,.bB=>true
 |_,.bl _=>true
 |_,.int _=>true
 |_,.str _=>true
 |n+1,.tup ds=>ds.all (bR n)
 |n+1,.lst _ ds=>ds.all (bR n)
 |_,_=>false
noncomputable abbrev O(α:Type):=Option (Except Nat α)
abbrev aD:=aa->O D
noncomputable def ok{α:Type}(a:α):O α:=some (.ok a)
noncomputable def bd{α β:Type}(x:O α)(f:α->O β):O β:=match x with
 |some (.ok a)=>f a
 |some (.error c)=>some (.error c)
 |none=>none
@[simp]theorem MH{α:Type}{a:α}:((none:O α)=ok a)=False:=by simp[ok]
@[simp]theorem OX{α:Type}{a b:α}:(ok a=ok b)=(a=b):=by simp[ok]
@[simp]theorem QV{α:Type}{a:α}{c:Nat}:((some (.error c):O α)=ok a)=False:=by simp[ok]
@[simp]theorem DD{α:Type}{p:Prop}[Decidable p]{a b:α}:((if p then ok a else none)=ok b)=(p/\a=b):=by
 by_cases h:p<;>simp[h]
@[simp]theorem Pu{α:Type}{p:Prop}[Decidable p]{a b:α}:((if p then none else ok a)=ok b)=(¬ p/\a=b):=by
 by_cases h:p<;>simp[h]
theorem kN{α β:Type}(a:α)(f:α->O β):bd (ok a) f=f a:=rfl
theorem nk{α:Type}{a:α}{P:Prop}(h:(none:Option α)=some a):P:=nomatch h
theorem aH{α β:Type}{x:O α}{f:α->O β}{b:β}(h:bd x f=ok b):∃a,x=ok a/\f a=ok b:=by
 unfold bd at h
 match x,h with
 |some (.ok a),h=>exact⟨a,rfl,h⟩
 |some (.error c),h=>cases h
 |none,h=>cases h
inductive CF where|add|sub|mul|fdiv|mod|pow|shl
 deriving DecidableEq
inductive xo where|eq|ne|lt|le|gt|ge|F9
 deriving DecidableEq
inductive Ty where|int|bool|str|list|tuple
 deriving DecidableEq
inductive Bf where|len|abs|min2|max2|list1|tuple1|sG|all1|gg
 deriving DecidableEq
inductive Tg where|nm(i:Nat)|tp(is:aR)
 deriving DecidableEq
inductive IK where|kc|jE|seq|eG(p:Nat)
 deriving DecidableEq
inductive GK where|i(z:Int)
 deriving DecidableEq
inductive CE where
 |bB|bl (b:Bool)|int (i:Int)|str (s:Str)|glo (x:Str) (i:Int)
 |v (i:Nat)
 |bin (op:CF) (a b:CE)
 |neg (a:CE)|not (a:CE)|and (es:List CE)|or (es:List CE)
 |cmp (op:xo) (a b:CE)
 |sg (a:CE) (t:Ty)
 |call (f:Nat) (es:List CE)
 |bf (f:Bf) (es:List CE)
 |ix (a b:CE)
 |jI (a:CE)
 |tup (es:List CE)|lst (es:List CE)
 |eG (p:Nat) (es:List CE)
 |comp (n:Nat) (t:Tg) (caps:aR) (ik:IK) (es bF:List CE) (elt:CE)
abbrev aC:=List CE
inductive CI where|kc(a:CE)|jE(a b:CE)|seq(a:CE)
inductive CS where
 |asg (t:Tg) (e:CE)|par (i j:Nat) (a b:CE)|ret (e:CE)|rs (c:Nat)|ex (e:CE)
 |mut (p i:Nat) (es:aC)|app (i:Nat) (e:CE)|setI (i:Nat) (k e:CE)
 |ifs (c:CE) (a b:List CS)
 |CJ (c:CE) (b:List CS)
 |fr (t:Tg) (it:CI) (b:List CS)
abbrev ah:=List CS
noncomputable abbrev aU:=List (aM)
noncomputable abbrev aV:=Nat->aD
noncomputable def big:Nat:=2 ^ 9000
def g_(i j:Int):Bool:=decide (i.natAbs<2 ^ 64)||decide (j.natAbs<2 ^ 64)||(decide (i.natAbs<big)&&decide (j.natAbs<big))
def n9(j:Int):Bool:=decide (j≠0)&&decide (j.natAbs<big)
noncomputable def jH(i j:Int):Bool:=decide (0<=j)&&decide (j<=1000000)&&decide (i.natAbs<2 ^ 64)
noncomputable def cY:Nat:=1000000
theorem ql{α:Type}{c:Prop}[inst:Decidable c]{v d:α}(h:(if c then ok v else none)=ok d):c/\v=d:=by
 cases inst with
 |isTrue hc=>exact⟨hc,Except.ok.inj (Xp h)⟩
 |isFalse hc=>cases h
def cg:CF->D->D->O D
 |.add,.int i,.int j=>ok (.int (i+j))
 |.add,.lst f a,.lst g b=>if ja f=false/\ja g=false/\a.length+b.length<=cY then ok (.lst .ow (aw aG (a++b)))else none
 |.add,.tup a,.tup b=>if a.length+b.length<=cY then ok (.tup (aw aG (a++b)))else none
 |.sub,.int i,.int j=>ok (.int (i - j))
 |.mul,.int i,.int j=>if g_ i j then ok (.int (i*j))else none
 |.mul,.lst f a,.int k=>if ja f=false/\a.length*k.toNat<=cY/\k<=cY /\ -cY<=k then ok (.lst .ow (aw aG (List.replicate k.toNat a).flatten))else none
 |.fdiv,.int i,.int j=>if n9 j then ok (.int (i.fdiv j))else none
 |.mod,.int i,.int j=>if j≠0 then ok (.int (i.fmod j))else none
 |.pow,.int i,.int j=>if jH i j then ok (.int (i ^ j.toNat))else none
 |.shl,.int i,.int j=>if jH i j then ok (.int (i*2 ^ j.toNat))else none
 |_,_,_=>none
def inD(x:D):aa->Bool
 |[]=>false
 |y::ys=>eZ y x||inD x ys
noncomputable def mC:D->Bool
 |.bB=>true|.bl _=>true|.int _=>true|.str _=>true|_=>false
noncomputable def FY:D->Option (aa)
 |.tup ds=>some ds
 |.lst _ ds=>some ds
 |_=>none
def ic:xo->D->D->O D
 |.eq,a,b=>if bR 40 a&&bR 40 b then ok (.bl (eZ a b))else none
 |.ne,a,b=>if bR 40 a&&bR 40 b then ok (.bl (!eZ a b))else none
 |.lt,.int i,.int j=>ok (.bl (decide (i<j)))
 |.le,.int i,.int j=>ok (.bl (decide (i<=j)))
 |.gt,.int i,.int j=>ok (.bl (decide (j<i)))
 |.ge,.int i,.int j=>ok (.bl (decide (j<=i)))
 |.F9,a,b=>match FY b with
  |some ds=>if mC a&&ds.all mC then ok (.bl (inD a ds))else none
  |none=>none
 |_,_,_=>none
noncomputable def cX:Ty->D->Bool
 |.int,.int _=>true|.int,.bl _=>true
 |.bool,.bl _=>true
 |.str,.str _=>true
 |.list,.lst _ _=>true
 |.tuple,.tup _=>true
 |_,_=>false
noncomputable def pB(n:Nat)(i:Int):Option Nat:=if 0<=i then(if i<n then some i.toNat else none)else if -(n:Int)<=i then some (i+n).toNat else none
def m7(ds:aa)(i:Int):O D:=match(pB ds.length i).bind λj=>ds[j]? with
 |some d=>ok (af aG d)
 |none=>none
def FX:D->D->O D
 |.tup ds,.int i=>m7 ds i
 |.lst _ ds,.int i=>m7 ds i
 |_,_=>none
noncomputable def intsOf:aa->Option (ai)
 |[]=>some []
 |.int i::ds=>(intsOf ds).map (i :: ·)
 |_::_=>none
noncomputable def iP:aa->Option (List Bool)
 |[]=>some []
 |.bl i::ds=>(iP ds).map (i :: ·)
 |_::_=>none
theorem iC:∀{ds:aa} {ns:ai},intsOf ds=some ns->ds=ns.map D.int
 |[],ns,h=>by simp[intsOf]at h;subst h;rfl
 |d::ds,ns,h=>by
  cases d<;>simp[intsOf]at h;obtain⟨ms,h1,rfl⟩:=h;rw[iC h1];rfl
theorem rY:∀{ds:aa} {bs:List Bool},iP ds=some bs->ds=bs.map D.bl
 |[],bs,h=>by simp[iP]at h;subst h;rfl
 |d::ds,bs,h=>by
  cases d<;>simp[iP]at h;obtain⟨ms,h1,rfl⟩:=h;rw[rY h1];rfl
theorem eQ:∀ns:ai,intsOf (ns.map D.int)=some ns
 |[]=>rfl
 |n::ns=>by simp[intsOf,eQ ns]
theorem oj:∀bs:List Bool,iP (bs.map D.bl)=some bs
 |[]=>rfl
 |b::bs=>by simp[iP,oj bs]
noncomputable def sortI(ns:ai):ai:=ns.mergeSort (λa b=>decide (a<=b))
def qB(ds:aa):O D:=match intsOf ds with
 |some ns=>if ns.length<64 then ok (.lst .ow ((sortI ns).map D.int))else none
 |none=>none
def nC:Bf->aD
 |.len,xs=>match xs with
  |[.tup ds]=>ok (.int ds.length)
  |[.lst _ ds]=>ok (.int ds.length)
  |_=>none
 |.abs,xs=>match xs with
  |[.int i]=>ok (.int (if i<0 then -i else i))
  |_=>none
 |.min2,xs=>match xs with
  |[.int i,.int j]=>ok (.int (if j<i then j else i))
  |_=>none
 |.max2,xs=>match xs with
  |[.int i,.int j]=>ok (.int (if j>i then j else i))
  |_=>none
 |.list1,xs=>match xs with
  |[.lst _ ds]=>ok (.lst .ow (aw aG ds))
  |[.tup ds]=>ok (.lst .ow (aw aG ds))
  |_=>none
 |.tuple1,xs=>match xs with
  |[.lst _ ds]=>ok (.tup (aw aG ds))
  |_=>none
 |.sG,xs=>match xs with
  |[.lst _ ds]=>(match intsOf ds with
   |some ns=>ok (.int ns.sum)
   |none=>none)
  |_=>none
 |.all1,xs=>match xs with
  |[.lst _ ds]=>(match iP ds with
   |some bs=>ok (.bl (bs.all id))
   |none=>none)
  |_=>none
 |.gg,xs=>match xs with
  |[.tup ds]=>qB ds
  |_=>none
noncomputable def kA(ns:ai):ai:=ns.foldl (λ(m:ai) (k:Int)=>if m.any (· == k)then m else m++[k]) []
def uN:D->O D
 |.tup ds=>(match intsOf ds with
  |some ns=>if ns.length<4000 then ok (.int (kA ns).length)else none
  |none=>none)
 |_=>none
noncomputable def gK:D->O Bool
 |.bl b=>ok b
 |_=>none
noncomputable def intD:D->O Int
 |.int i=>ok i
 |_=>none
noncomputable def sU:Option (aM)->Option (aa)
 |some (some (.lst .ow ds))=>some ds
 |_=>none
theorem uJ{o:Option (aM)}{ds:aa}(h:sU o=some ds):o=some (some (.lst .ow ds)):=by
 unfold sU at h;split at h<;>cases h;rfl
theorem BH{d:D}{i:Int}(h:intD d=ok i):d=.int i:=by
 cases d<;>simp[intD]at h;rw[h]
noncomputable def Bq:D->O D
 |.int i=>ok (.int (-i))
 |_=>none
def fO:aR->aa->aU->O aU
 |[],[],ρ=>ok ρ
 |i::is,d::ds,ρ=>if i<ρ.length then fO is ds (ρ.set i (some d))else none
 |_,_,_=>none
def cE:Tg->D->aU->O aU
 |.nm i,d,ρ=>if i<ρ.length then ok (ρ.set i (some d))else none
 |.tp is,.tup ds,ρ=>if aS eA ds then none else fO is ds ρ
 |_,_,_=>none
def qH:D->O (aa)
 |.lst _ ds=>ok (aw aA ds)
 |_=>none
def dB(Φ:aV):IK->aa->O (aa)
 |.eG p,xs=>bd (Φ p xs) qH
 |.kc,[.int n]=>if n<=cY /\ -cY<=n then ok ((List.range n.toNat).map λ(k:Nat)=>D.int (k:Int))else none
 |.jE,[.int m,.int n]=>if n<=cY /\ -cY<=n/\m<=cY /\ -cY<=m then ok ((List.range (n - m).toNat).map λ(k:Nat)=>D.int (m+(k:Int)))else none
 |.seq,[.tup ds]=>ok (aw aA ds)
 |.seq,[.lst _ ds]=>ok (aw aA ds)
 |_,_=>none
def gF(bind:D->O aU)(test:aU->O Bool)(el:aU->O D):aa->O (aa)
 |[]=>ok []
 |x::xs=>bd (bind x) λρ=>bd (test ρ) λb=>if b then bd (el ρ) λy=>bd (gF bind test el xs) λys=>ok (y::ys)else gF bind test el xs
def bN(n:Nat)(caps:aR)(ρ:aU):aU:=List.replicate n none++caps.map λi=>(ρ[i]?.getD none).map (af aA)
def qC(o:Option (aM)):O D:=match o with
 |some (some d)=>ok (af aG d)
 |_=>none
theorem xV{o:Option (aM)}{d:D}(h:qC o=ok d):∃d',o=some (some d')/\d=af aG d':=by
 cases o with
 |none=>cases h
 |some z=>cases z with
  |none=>cases h
  |some z=>cases h;exact⟨z,rfl,rfl⟩
mutual
noncomputable def aX(Φ:aV):CE->aU->O D
 |.bB,_=>ok .bB
 |.bl b,_=>ok (.bl b)
 |.int i,_=>ok (.int i)
 |.str s,_=>ok (.str s)
 |.glo _ i,_=>ok (.int i)
 |.v i,ρ=>qC ρ[i]?
 |.bin op a b,ρ=>bd (aX Φ a ρ) λx=>bd (aX Φ b ρ) λy=>cg op x y
 |.neg a,ρ=>bd (aX Φ a ρ) Bq
 |.not a,ρ=>bd (bd (aX Φ a ρ) gK) λb=>ok (.bl (!b))
 |.and es,ρ=>n8 Φ es ρ
 |.or es,ρ=>wJ Φ es ρ
 |.cmp op a b,ρ=>bd (aX Φ a ρ) λx=>bd (aX Φ b ρ) λy=>ic op x y
 |.sg a t,ρ=>bd (aX Φ a ρ) λx=>ok (.bl (cX t x))
 |.call f es,ρ=>bd (b8 Φ es ρ) λxs=>bd (Φ f (aw aA xs)) λr=>ok (af cq r)
 |.bf f es,ρ=>bd (b8 Φ es ρ) λxs=>nC f xs
 |.ix a b,ρ=>bd (aX Φ a ρ) λx=>bd (aX Φ b ρ) λy=>FX x y
 |.jI a,ρ=>bd (aX Φ a ρ) λx=>uN x
 |.eG p es,ρ=>bd (b8 Φ es ρ) λxs=>Φ p xs
 |.tup es,ρ=>bd (b8 Φ es ρ) λxs=>ok (.tup xs)
 |.lst es,ρ=>bd (b8 Φ es ρ) λxs=>ok (.lst .ow xs)
 |.comp n t caps ik es bF elt,ρ=>bd (b8 Φ es ρ) λxs=>bd (dB Φ ik xs) λitems =>
   bd (gF (λd=>cE t d (bN n caps ρ)) (λρ'=>gE Φ bF ρ') (λρ'=>aX Φ elt ρ') items) λds=>if ds.length<=cY then ok (.lst .ow (aw cq ds))else none
noncomputable def b8(Φ:aV):aC->aU->O (aa)
 |[],_=>ok []
 |e::es,ρ=>bd (aX Φ e ρ) λx=>bd (b8 Φ es ρ) λxs=>ok (x::xs)
noncomputable def gE(Φ:aV):aC->aU->O Bool
 |[],_=>ok true
 |e::es,ρ=>bd (bd (aX Φ e ρ) gK) λb=>if b then gE Φ es ρ else ok false
noncomputable def n8(Φ:aV):aC->aU->O D
 |[],_=>none
 |e::es,ρ=>bd (bd (aX Φ e ρ) gK) λc=>match es with
  |[]=>ok (.bl c)
  |_::_=>if c then n8 Φ es ρ else ok (.bl false)
noncomputable def wJ(Φ:aV):aC->aU->O D
 |[],_=>none
 |e::es,ρ=>bd (bd (aX Φ e ρ) gK) λc=>match es with
  |[]=>ok (.bl c)
  |_::_=>if c then ok (.bl true)else wJ Φ es ρ
end
def rK(Φ:aV)(e:CE)(ρ:aU):O Bool:=bd (aX Φ e ρ) gK
inductive Fo where|nx|rt(d:D)
noncomputable def cG{α β:Type}(n:Nat)(step:α->O (α ⊕ β))(a:α):O β:=match n with
 |0=>none
 |n+1=>bd (step a) λr=>match r with
  |.inl a'=>cG n step a'
  |.inr b=>ok b
open Classical in
noncomputable def eJ{α β:Type}(step:α->O (α ⊕ β))(a:α):O β :=
 if h:∃n,cG n step a≠none then cG (Classical.choose h) step a else none
theorem hU{α β:Type}(step:α->O (α ⊕ β)):∀(n m:Nat) (a:α),n<=m->cG n step a≠none->cG m step a=cG n step a
 |0,_,_,_,h=>absurd rfl h
 |n+1,0,_,hl,_=>by left
 |n+1,m+1,a,hl,h=>by
  unfold cG at h ⊢
  match hs:step a with
  |none=>rw[hs]at h;exact absurd rfl h
  |some (.error c)=>rfl
  |some (.ok (.inr b))=>rfl
  |some (.ok (.inl a')) =>
   rw[hs]at h;exact hU step n m a' (by left) h
theorem j5{α β:Type}{step:α->O (α ⊕ β)}{a:α}{n:Nat}{r:Except Nat β}(h:cG n step a=some r):eJ step a=some r:=by
 have hx:∃n,cG n step a≠none:=⟨n,by rw[h];simp⟩
 unfold eJ;rw[dif_pos hx];have hc:=Classical.choose_spec hx;rcases Nat.le_total n (Classical.choose hx)with hl|hl
 ·rw[hU step _ _ a hl (by rw[h];simp),h]
 ·rw[<- hU step _ _ a hl hc,h]
theorem km{α β:Type}{step:α->O (α ⊕ β)}{a:α}{r:Except Nat β}(h:eJ step a=some r):∃n,cG n step a=some r:=by
 unfold eJ at h;split at h
 ·exact⟨_,h⟩
 ·cases h
theorem lX{α β:Type}{step:α->O (α ⊕ β)}{a a':α}(h:step a=ok (.inl a')):eJ step a=eJ step a':=by
 match hr:eJ step a' with
 |some r =>
  obtain⟨n,hn⟩:=km hr;refine j5 (n:=n+1) ?_;unfold cG;rw[h];exact hn
 |none =>
  match hq:eJ step a with
  |none=>rfl
  |some r =>
   obtain⟨n,hn⟩:=km hq
   match n,hn with
   |n+1,hn =>
    unfold cG at hn;rw[h]at hn;rw[j5 (n:=n) hn]at hr;cases hr
theorem gd{α β:Type}{step:α->O (α ⊕ β)}{a:α}{b:β}(h:step a=ok (.inr b)):eJ step a=ok b :=
 j5 (n:=1) (by unfold cG;rw[h];rfl)
mutual
noncomputable def gb:CE->aR
 |.v i=>[i]
 |.bin _ a b=>gb a++gb b
 |.neg a=>gb a
 |.not a=>gb a
 |.and es=>dk es
 |.or es=>dk es
 |.cmp _ a b=>gb a++gb b
 |.sg a _=>gb a
 |.call _ es=>dk es
 |.bf _ es=>dk es
 |.ix a b=>gb a++gb b
 |.jI a=>gb a
 |.tup es=>dk es
 |.lst es=>dk es
 |.eG _ es=>dk es
 |.comp _ _ caps _ es _ _=>caps++dk es
 |_=>[]
noncomputable def dk:aC->aR
 |[]=>[]
 |e::es=>gb e++dk es
end
def iE(is:aR)(ρ:aU):aU:=ρ.mapIdx λi d=>if i∈is then d.map (af aA)else d
def keep(e:CE)(d:D)(ρ:aU):D×aU:=if aW bG d then(af aA d,iE (gb e) ρ)else(d,ρ)
def eY(Φ:aV)(e:CE)(ρ:aU):O (D×aU):=match e with
 |.v i=>match ρ[i]? with
  |some (some d)=>if aW eA d then ok (d,ρ.set i none)else ok (d,ρ)
  |_=>none
 |_=>bd (aX Φ e ρ) λd=>ok (keep e d ρ)
def dQ(Φ:aV)(it:CI)(ρ:aU):O (aa×aU):=match it with
 |.kc a=>bd (aX Φ a ρ) λx=>match x with
  |.int n=>if n<=cY /\ -cY<=n then ok ((List.range n.toNat).map λ(k:Nat)=>D.int (k:Int),ρ)else none
  |_=>none
 |.jE a b=>bd (aX Φ a ρ) λx=>bd (aX Φ b ρ) λy=>match x,y with
  |.int m,.int n=>if n<=cY /\ -cY<=n/\m<=cY /\ -cY<=m then ok ((List.range (n - m).toNat).map λ(k:Nat)=>D.int (m+(k:Int)),ρ)else none
  |_,_=>none
 |.seq a=>bd (aX Φ a ρ) λx=>match x with
  |.tup ds=>ok (aw aA ds,if aW bG x then iE (gb a) ρ else ρ)
  |.lst f ds=>ok (aw aA ds,if aW bG x then iE (gb a) ρ else ρ)
  |_=>none
def mj(es:aC)(xs:aa)(ρ:aU):aa×aU:=if aS bG xs then(aw aA xs,iE (dk es) ρ)else(xs,ρ)
noncomputable def s_(Φ:aV)(p i:Nat)(r:aa×aU):O (Fo×aU):=match r.2[i]? with
 |some (some d)=>bd (Φ p (d::r.1)) λd'=>ok (.nx,r.2.set i (some d'))
 |_=>none
def fT(bind:D->aU->O aU)(body:aU->O (Fo×aU)):aa->aU->O (Fo×aU)
 |[],ρ=>ok (.nx,ρ)
 |d::ds,ρ=>bd (bind d ρ) λρ1=>bd (body ρ1) λr=>match r with
  | (.nx,ρ2)=>fT bind body ds ρ2
  | (.rt d,ρ2)=>ok (.rt d,ρ2)
mutual
noncomputable def gM(Φ:aV):CS->aU->O (Fo×aU)
 |.asg t e,ρ=>bd (eY Φ e ρ) λr=>bd (cE t r.1 r.2) λρ'=>ok (.nx,ρ')
 |.par i j a b,ρ=>bd (aX Φ a ρ) λx=>bd (aX Φ b ρ) λy=>if aW anyF x=false/\aW anyF y=false/\i<ρ.length/\j<ρ.length then ok (.nx,(ρ.set i (some x)).set j (some y))else none
 |.ret e,ρ=>bd (eY Φ e ρ) λr=>ok (.rt r.1,r.2)
 |.rs c,_=>some (.error c)
 |.ex e,ρ=>bd (aX Φ e ρ) λ_=>ok (.nx,ρ)
 |.mut p i es,ρ=>bd (b8 Φ es ρ) λxs=>s_ Φ p i (mj es xs ρ)
 |.app i e,ρ=>bd (eY Φ e ρ) λr=>match sU r.2[i]? with
  |some ds=>if ds.length<cY then ok (.nx,r.2.set i (some (.lst .ow (ds++[r.1]))))else none
  |none=>none
 |.setI i k e,ρ=>bd (eY Φ e ρ) λr=>bd (bd (aX Φ k r.2) intD) λz=>match sU r.2[i]? with
  |some ds=>match pB ds.length z with
   |some j=>ok (.nx,r.2.set i (some (.lst .ow (ds.set j r.1))))
   |none=>none
  |none=>none
 |.ifs c a b,ρ=>bd (rK Φ c ρ) λk=>if k then bE Φ a ρ else bE Φ b ρ
 |.CJ c b,ρ=>eJ (λρ=>bd (rK Φ c ρ) λk=>if k then bd (bE Φ b ρ) λr=>match r with
   | (.nx,ρ')=>ok (.inl ρ')
   | (.rt d,ρ')=>ok (.inr (.rt d,ρ'))
  else ok (.inr (.nx,ρ))) ρ
 |.fr t it b,ρ=>bd (dQ Φ it ρ) λr=>fT (λd ρ=>cE t d ρ) (λρ=>bE Φ b ρ) r.1 r.2
noncomputable def bE(Φ:aV):ah->aU->O (Fo×aU)
 |[],ρ=>ok (.nx,ρ)
 |s::ss,ρ=>bd (gM Φ s ρ) λr=>match r with
  | (.nx,ρ')=>bE Φ ss ρ'
  |r=>ok r
end
noncomputable def oR(Φ:aV)(n:Nat)(b:ah)(ds:aa):O D:=bd (bE Φ b (ds.map some++List.replicate (n - ds.length) none)) λr=>match r.1 with
 |.nx=>ok .bB
 |.rt d=>ok d
noncomputable def vJ:aD
 |[.lst _ a,.lst _ b]=>ok (.lst .ow (List.zipWith (λx y=>.tup [x,y]) a b))
 |_=>none
end DI
end
section
namespace DI
open PySem PySem.Spec PyProof.Rows L2
noncomputable abbrev bo:=aR
noncomputable abbrev St:=L2.St
noncomputable abbrev mU:=Addr->ae->Prop
inductive Nd where|l(xs:ae)|d(cs:cj)(as:bt)(xs:ae)(ep:Nat)
abbrev gc:=bo->Addr->Nd->Fl->Prop
structure vG(T:mU)(as:bt)(cs:cj):Prop where
 len:as.length=cs.length
 tup:∀(j:Nat) (a:Addr) (c:ai),as[j]?=some a->cs[j]?=some c->T a (c.map V.int)
variable {T T':mU}{as ch fp:bt}
theorem vG.imp{cs:cj}(h:vG T as cs)(hT:∀p xs,T p xs->T' p xs):vG T' as cs:=⟨h.len,λj a c h1 h2=>hT _ _ (h.tup j a c h1 h2)⟩
mutual
inductive Rep(T:mU)(N:gc):bo->V->D->Prop where
 |bB {q:bo}:Rep T N q .bB .bB
 |bl {q:bo} (b:Bool):Rep T N q (.bl b) (.bl b)
 |int {q:bo} (i:Int):Rep T N q (.int i) (.int i)
 |str {q:bo} (s:Str):Rep T N q (.str s) (.str s)
 |tup {q:bo} {p:Addr} {xs:ae} {ds:aa} (h:T p xs) (r:aB T N q 0 xs ds):Rep T N q (.ref p) (.tup ds)
 |lst {q:bo} {p:Addr} {xs:ae} {f:Fl} {ds:aa} (h:N q p (.l xs) f) (r:aB T N q 0 xs ds):Rep T N q (.ref p) (.lst f ds)
 |gr {q:bo} {p:Addr} {cs:cj} {as:bt} {xs:ae} {ep:Nat} {f:Fl} {ds:aa} (h:N q p (.d cs as xs ep) f) (k:vG T as cs) (r:aB T N q 0 xs ds):Rep T N q (.ref p) (.gr f cs ds)
inductive aB(T:mU)(N:gc):bo->Nat->ae->aa->Prop where
 |nil {q:bo} {n:Nat}:aB T N q n [] []
 |cons {q:bo} {n:Nat} {v:V} {d:D} {vs:ae} {ds:aa} (h:Rep T N (n::q) v d) (t:aB T N q (n+1) vs ds):aB T N q n (v::vs) (d::ds)
end
variable {ds fV items:aa}
theorem Rep.IJ{N:gc}{q:bo}{v:V}(h:Rep T N q v (.tup ds)):∃p xs,v=.ref p/\T p xs/\aB T N q 0 xs ds:=by
 cases h with
 |tup a b=>exact⟨_,_,rfl,a,b⟩
variable {f:Fl}
theorem Rep.qv{N:gc}{q:bo}{v:V}(h:Rep T N q v (.lst f ds)):∃p xs,v=.ref p/\N q p (.l xs) f/\aB T N q 0 xs ds:=by
 cases h with
 |lst a b=>exact⟨_,_,rfl,a,b⟩
mutual
theorem pJ:∀d:D,aW (λ_=>false) d=false
 |.bB=>rfl
 |.bl _=>rfl
 |.int _=>rfl
 |.str _=>rfl
 |.tup ds=>fS ds
 |.lst _ ds=>fS ds
 |.gr _ _ ds=>fS ds
theorem fS:∀ds:aa,aS (λ_=>false) ds=false
 |[]=>rfl
 |d::ds=>by show(aW _ d||aS _ ds)=false;rw[pJ d,fS ds];rfl
end
theorem w8{a b:Bool}(h:(a||b)=false):a=false/\b=false:=by cases a<;>cases b<;>first|exact⟨rfl,rfl⟩|cases h
variable {k' q':bo}{vs xs vK ys:ae}
section
variable {T T':mU}{N N':gc}{g:Fl->Fl}{P:Fl->Bool}{C:bo->bo->Prop}{I:Nat->Nat->Prop}
mutual
theorem Rep.gen(hT:∀p xs,T p xs->T' p xs)(h0:I 0 0)(hI:∀n n',I n n'->I (n+1) (n'+1))(hC:∀k k' n n',C k k'->I n n'->C (n::k) (n'::k'))(hN:∀k k' p xs f,C k k'->P f=false->N k p xs f->N' k' p xs (g f)):
  ∀{k:bo} {v:V} {d:D},Rep T N k v d->∀{k':bo},C k k'->aW P d=false->Rep T' N' k' v (af g d)
 |_,_,_,.bB,_,_,_=>.bB
 |_,_,_,.bl b,_,_,_=>.bl b
 |_,_,_,.int i,_,_,_=>.int i
 |_,_,_,.str s,_,_,_=>.str s
 |_,_,_,.tup h r,_,c,e=>.tup (hT _ _ h) (aB.gen hT h0 hI hC hN r c h0 e)
 |_,_,_,.lst h r,_,c,e=>.lst (hN _ _ _ _ _ c (w8 e).1 h) (aB.gen hT h0 hI hC hN r c h0 (w8 e).2)
 |_,_,_,.gr h k r,_,c,e=>.gr (hN _ _ _ _ _ c (w8 e).1 h) (k.imp hT) (aB.gen hT h0 hI hC hN r c h0 (w8 e).2)
theorem aB.gen(hT:∀p xs,T p xs->T' p xs)(h0:I 0 0)(hI:∀n n',I n n'->I (n+1) (n'+1))(hC:∀k k' n n',C k k'->I n n'->C (n::k) (n'::k'))(hN:∀k k' p xs f,C k k'->P f=false->N k p xs f->N' k' p xs (g f)):
  ∀{k:bo} {n:Nat} {vs:ae} {ds:aa},aB T N k n vs ds->∀{k':bo} {n':Nat},C k k'->I n n'->aS P ds=false->aB T' N' k' n' vs (aw g ds)
 |_,_,_,_,.nil,_,_,_,_,_=>.nil
 |_,_,_,_,.cons h t,_,_,c,i,e=>.cons (Rep.gen hT h0 hI hC hN h (hC _ _ _ _ c i) (w8 e).1) (aB.gen hT h0 hI hC hN t c (hI _ _ i) (w8 e).2)
end
theorem Rep.map{q:bo}(hT:∀p xs,T p xs->T' p xs)(hN:∀c p xs f,N (c++q) p xs f->N' (c++q') p xs (g f)){k:bo}{v:V}{d:D}(h:Rep T N k v d)(c:bo)(e:k=c++q):Rep T' N' (c++q') v (af g d) :=
 Rep.gen (P:=λ_=>false) (C:=λk k'=>∃c,k=c++q/\k'=c++q') (I:=λn n'=>n=n') hT rfl (λ_ _ e=>by rw[e]) (λ_ _ n _ ⟨c,e1,e2⟩ e=>⟨n::c,by rw[e1];rfl,by rw[e2,<- e];rfl⟩) (λ_ _ p xs f ⟨c,e1,e2⟩ _ h=>by subst e1;subst e2;exact hN c p xs f h) h ⟨c,e,rfl⟩ (pJ d)
theorem aB.map{q:bo}(hT:∀p xs,T p xs->T' p xs)(hN:∀c p xs f,N (c++q) p xs f->N' (c++q') p xs (g f)){k:bo}{n:Nat}(h:aB T N k n vs ds)(c:bo)(e:k=c++q):aB T' N' (c++q') n vs (aw g ds) :=
 aB.gen (P:=λ_=>false) (C:=λk k'=>∃c,k=c++q/\k'=c++q') (I:=λn n'=>n=n') hT rfl (λ_ _ e=>by rw[e]) (λ_ _ n _ ⟨c,e1,e2⟩ e=>⟨n::c,by rw[e1];rfl,by rw[e2,<- e];rfl⟩) (λ_ _ p xs f ⟨c,e1,e2⟩ _ h=>by subst e1;subst e2;exact hN c p xs f h) h ⟨c,e,rfl⟩ rfl (fS ds)
theorem Rep.iL(hT:∀p xs,T p xs->T' p xs)(hN:∀k k' p xs f,N k p xs f->N' k' p xs (g f)){k:bo}{v:V}{d:D}(h:Rep T N k v d)(k':bo):Rep T' N' k' v (af g d) :=
 Rep.gen (P:=λ_=>false) (C:=λ_ _=>True) (I:=λ_ _=>True) hT trivial (λ_ _ e=>e) (λ_ _ _ _ e _=>e) (λk k' p xs f _ _ h=>hN k k' p xs f h) h trivial (pJ d)
theorem aB.iL(hT:∀p xs,T p xs->T' p xs)(hN:∀k k' p xs f,N k p xs f->N' k' p xs (g f)){k:bo}{n:Nat}(h:aB T N k n vs ds)(k':bo)(n':Nat):aB T' N' k' n' vs (aw g ds) :=
 aB.gen (P:=λ_=>false) (C:=λ_ _=>True) (I:=λ_ _=>True) hT trivial (λ_ _ e=>e) (λ_ _ _ _ e _=>e) (λk k' p xs f _ _ h=>hN k k' p xs f h) h trivial trivial (fS ds)
end
mutual
theorem cB:∀d:D,af id d=d
 |.bB=>rfl
 |.bl _=>rfl
 |.int _=>rfl
 |.str _=>rfl
 |.tup ds=>by rw[af,dZ ds]
 |.lst f ds=>by rw[af,dZ ds];rfl
 |.gr f ks vs=>by rw[af,dZ vs];rfl
theorem dZ:∀ds:aa,aw id ds=ds
 |[]=>rfl
 |d::ds=>by rw[aw,cB d,dZ ds]
end
section
variable {T T':mU}{N N':gc}
theorem Rep.imp{q:bo}(hT:∀p xs,T p xs->T' p xs)(hN:∀c p xs f,N (c++q) p xs f->N' (c++q') p xs f){v:V}{d:D}(h:Rep T N q v d):Rep T' N' q' v d:=by
 have:=Rep.map (g:=id) hT hN h [] rfl;rw[cB]at this;exact this
theorem aB.imp{q:bo}{n:Nat}(hT:∀p xs,T p xs->T' p xs)(hN:∀c p xs f,N (c++q) p xs f->N' (c++q') p xs f)(h:aB T N q n vs ds):aB T' N' q' n vs ds:=by
 have:=aB.map (g:=id) hT hN h [] rfl;rw[dZ]at this;exact this
theorem aB.length:∀{k:bo} {n:Nat} {vs:ae} {ds:aa},aB T N k n vs ds->vs.length=ds.length
 |_,_,_,_,.nil=>rfl
 |_,_,_,_,.cons _ t=>by simp[aB.length t]
theorem aB.get:∀{k:bo} {n j:Nat} {vs:ae} {ds:aa} {d:D},aB T N k n vs ds->ds[j]?=some d->∃v,vs[j]?=some v/\Rep T N ((n+j)::k) v d
 |_,_,_,_,_,_,.nil,e=>by simp at e
 |_,_,0,_,_,_,.cons h t,e=>by simp at e;subst e;exact⟨_,rfl,h⟩
 |_,n,j+1,_,_,_,.cons h t,e=>by
  obtain⟨v,h1,h2⟩:=aB.get (j:=j) t (by simpa using e);refine⟨v,by simpa using h1,?_⟩;have:n+1+j=n+(j+1):=by left
  rw[<- this];exact h2
theorem aB.tL:∀{k:bo} {n j:Nat} {vs:ae} {ds:aa} {v:V},aB T N k n vs ds->vs[j]?=some v->∃d,ds[j]?=some d/\Rep T N ((n+j)::k) v d
 |_,_,_,_,_,_,.nil,e=>by simp at e
 |_,_,0,_,_,_,.cons h t,e=>by simp at e;subst e;exact⟨_,rfl,h⟩
 |_,n,j+1,_,_,_,.cons h t,e=>by
  obtain⟨v,h1,h2⟩:=aB.tL (j:=j) t (by simpa using e);refine⟨v,by simpa using h1,?_⟩;have:n+1+j=n+(j+1):=by left
  rw[<- this];exact h2
theorem aB.lP{k:bo}(hN:∀k k' p xs f,N k p xs f->N k' p xs f):∀{n m l:Nat} {vs ws:ae} {ds es:aa},aB T N k n vs ds->aB T N k m ws es->aB T N k l (vs++ws) (ds++es)
 |_,_,_,_,_,_,_,.nil,t=>by
  have:=aB.iL (T':=T) (N':=N) (g:=id) (λ_ _ h=>h) hN t;rw[dZ]at this;exact this _ _
 |_,_,_,_,_,_,_,.cons h t,u=>.cons (by
  have:=Rep.iL (T':=T) (N':=N) (g:=id) (λ_ _ h=>h) hN h;rw[cB]at this;exact this _) (aB.lP hN t u)
end
def KL(K:ak)(a:Addr)(xs:ae):Prop :=
 ∃(o:Obj) (aN:bx) (n:Nat),K.lookup a=some o/\o.cls=.type "list" /\ o.dict=none/\o.data=.seq aN n/\aN.size<=sizeLine/\Vals xs aN.toList
def DO(p:Addr)(cs:cj)(as:bt)(xs:ae)(ep:Nat)(h:Heap):Prop :=
 ∃(zs:List (ai×Addr×Value)) (o:Obj) (es:Array DictEntry),zs.map (·.1)=cs/\zs.map (·.2.1)=as/\Vals xs (zs.map (·.2.2))/\h.get? p=some o/\o.ExactDict/\o.data=.dict es ep /\
  es.toList=zs.map (λz=>⟨reduceHash (Builtin.Tuple.tupleHashOf (z.1.map hashInt)),.ref z.2.1,z.2.2⟩)/\cs.Nodup/\cs.length<=sizeLine/\(p==sysModules)=false
noncomputable abbrev d6(H:Hp)(p:Addr)(n:Nd):Prop:=match n with
 |.l xs=>H p=some (.lst xs)
 |.d cs as xs ep=>H p=some (.ext (DO p cs as xs ep))
variable {H H' H1 H2:Hp}
theorem d6.ne{p:Addr}{n:Nd}(h:d6 H p n):H p≠none:=by
 cases n with
 |l xs=>intro z;rw[show H p=some (.lst xs) from h]at z;cases z
 |d cs as xs ep=>intro z;rw[show H p=some (.ext (DO p cs as xs ep)) from h]at z;cases z
theorem d6.at{p:Addr}{n:Nd}(e:∀o,H p=some o->H' p=some o)(h:d6 H p n):d6 H' p n:=by
 cases n with
 |l xs=>exact e _ h
 |d cs as xs ep=>exact e _ h
theorem d6.same{p:Addr}{n:Nd}(e:aI H H')(h:d6 H p n):d6 H' p n:=h.at (e p)
theorem d6.some{H:Hp}{p:Addr}{n:Nd}(h:d6 H p n):∃o,H p=some o/\(∀xs,o≠.tup xs)/\(∀a u,o≠.iE a u):=by
 cases n with
 |l xs=>exact⟨_,h,λ_ z=>(nomatch z),λ_ _ z=>(nomatch z)⟩
 |d cs as xs ep=>exact⟨_,h,λ_ z=>(nomatch z),λ_ _ z=>(nomatch z)⟩
def nd(K:ak)(R A:ag)(τ:Addr->Option bo)(H:Hp):gc:=λq p n f=>match f with
 |.ow=>d6 H p n/\τ p=some q
 |.fz=>d6 H p n/\R p
 |.al=>d6 H p n/\A p
 |.sc=>match n with
  |.l xs=>(∃o,H p=some (.iE o (.lst xs)))\/KL K p xs
  |.d _ _ _ _=>False
variable {A F G R R' R1:Addr->Prop}{K:ak}{τ τ' τt:Addr->Option bo}
theorem nd.x4{q:bo}{p:Addr}{n:Nd}(h:nd K R A τ H q p n .sc):∃xs,n=.l xs/\((∃o,H p=some (.iE o (.lst xs)))\/KL K p xs):=by
 cases n with
 |l xs=>exact⟨xs,rfl,h⟩
 |d _ _ _ _=>exact h.elim
theorem nd.sq{q:bo}{p:Addr}(h:nd K R A τ H q p (.l xs) f):dF K H p xs:=by
 cases f with
 |ow=>exact dF.of h.1
 |fz=>exact dF.of h.1
 |al=>exact dF.of h.1
 |sc=>exact h.elim (λh=>.inl (.inr h)) .inr
theorem nd.lst{K:ak}{R A:ag}{τ:Addr->Option bo}{H:Hp}{q:bo}{p:Addr}{xs:ae}{f:Fl}(h:nd K R A τ H q p (.l xs) f)(hf:ja f=false):H p=some (.lst xs):=by
 cases f with
 |ow=>exact h.1
 |fz=>exact h.1
 |al=>exact h.1
 |sc=>cases hf
variable {ep n1 t':Nat}
theorem nd.dat{q:bo}{p:Addr}{cs:cj}(h:nd K R A τ H q p (.d cs as xs ep) f):H p=some (.ext (DO p cs as xs ep)):=by
 cases f with
 |ow=>exact h.1
 |fz=>exact h.1
 |al=>exact h.1
 |sc=>exact h.elim
theorem Rd.same{a:Addr}{u:HO}(e:aI H H')(h:Rd H a u):Rd H' a u:=h.elim (λh=>.inl (e _ _ h)) λ⟨o,h⟩=>.inr ⟨o,e _ _ h⟩
theorem a_.same{K:ak}{H H':Hp}{a:Addr}{xs:ae}(e:aI H H')(h:a_ K H a xs):a_ K H' a xs:=h.elim (λh=>.inl (Rd.same e h)) .inr
theorem nd.same{K:ak}{R A:ag}{τ:Addr->Option bo}{H H':Hp}{q:bo}{p:Addr}{n:Nd}{f:Fl}(e:aI H H')(h:nd K R A τ H q p n f):nd K R A τ H' q p n f:=by
 cases f with
 |ow=>exact⟨h.1.same e,h.2⟩
 |fz=>exact⟨h.1.same e,h.2⟩
 |al=>exact⟨h.1.same e,h.2⟩
 |sc=>cases n with
  |l xs=>exact h.elim (λ⟨o,h⟩=>.inl ⟨o,e _ _ h⟩) .inr
  |d _ _ _ _=>exact h.elim
theorem Rd.there{a:Addr}{u:HO}(h:Rd H a u):H a≠none:=by
 rcases h with h|⟨o,h⟩<;>(rw[h];simp)
theorem aI.ne(e:aI H H'){a:Addr}(h:H a≠none):H' a≠none:=by
 cases q:H a with
 |none=>exact absurd q h
 |some o=>rw[e a o q];simp
structure SI(X:Cx)(F R:ag)(τ:Addr->Option bo)(ρ:aU)(σ:St)(H:Hp):Prop where
 len:ρ.length=σ.length
 rep:∀(i:Nat) (d:D),ρ[i]?=some (some d)->∃v,σ[i]?=some (some v)/\Rep (a_ X.K H) (nd X.K R (λ_=>False) τ H) [i] v d
 rt:∀p,R p->τ p=none
 rh:∀p,R p->H p≠none
 rf:∀p,R p->F p\/X.H₀ p=none
 th:∀p q,τ p=some q->H p≠none
 t0:∀p q,τ p=some q->X.H₀ p=none
 same:aI X.H₀ H
variable {X:Cx}{ρ:aU}{σ:L2.St}
theorem SI.go(S:SI X F R τ ρ σ H)(e:aI H H'):SI X F R τ ρ σ H' :=
 ⟨S.len,λi d h=>let ⟨v,h1,h2⟩:=S.rep i d h;⟨v,h1,h2.imp (λ_ _ h=>a_.same e h) λ_ _ _ _ h=>nd.same e h⟩,S.rt,λp h=>aI.ne e (S.rh p h),S.rf,λp q h=>aI.ne e (S.th p q h),S.t0,S.same.trans e⟩
def jm(G:ag)(τ:Addr->Option bo)(fv:aR)(p:Addr):Prop:=G p/\∀c i,τ p=some (c++[i])->i∈fv
variable {caps fv fv':aR}
theorem jm.mono{p:Addr}(h:jm G τ fv p)(hs:∀i∈fv,i∈fv'):jm G τ fv' p:=⟨h.1,λc i e=>hs i (h.2 c i e)⟩
def gP(X:Cx)(F:ag)(p:Addr):Prop:=F p\/X.H₀ p=none
def b_(K:ak)(G R:ag)(τ:Addr->Option bo)(fv:aR)(H H':Hp)(v:V)(d:D):Prop :=
 ∃τt:Addr->Option bo,(∀p q,τt p=some q->H p=none)/\Rep (a_ K H') (nd K R (jm G τ fv) τt H') [] v d
def cm(K:ak)(G R:ag)(τ:Addr->Option bo)(fv:aR)(H H':Hp)(vs:ae)(ds:aa):Prop :=
 ∃τt:Addr->Option bo,(∀p q,τt p=some q->H p=none)/\aB (a_ K H') (nd K R (jm G τ fv) τt H') [] 0 vs ds
section
variable {K:ak}{G R:ag}{τ:Addr->Option bo}{fv fv':aR}{H H1 H2:Hp}{v:V}{d:D}{vs:ae}{ds:aa}
theorem b_.go(h:b_ K G R τ fv H H1 v d)(e:aI H1 H2):b_ K G R τ fv H H2 v d :=
 let ⟨τt,h1,h2⟩:=h;⟨τt,h1,h2.imp (λ_ _ h=>a_.same e h) λ_ _ _ _ h=>nd.same e h⟩
theorem nd.mono{A':Addr->Prop}{τ:Addr->Option bo}{q:bo}{p:Addr}{xs:Nd}(h:nd K R A τ H q p xs f)(hR:R p->R' p)(hA:A p->A' p)(ht:τ p=some q->τ' p=some q'):nd K R' A' τ' H q' p xs f:=by
 cases f with
 |ow=>exact⟨h.1,ht h.2⟩
 |fz=>exact⟨h.1,hR h.2⟩
 |al=>exact⟨h.1,hA h.2⟩
 |sc=>exact h
theorem b_.mono(h:b_ K G R τ fv H H1 v d)(hs:∀i∈fv,i∈fv'):b_ K G R τ fv' H H1 v d :=
 let ⟨τt,h1,h2⟩:=h;⟨τt,h1,h2.imp (λ_ _ h=>h) λ_ _ _ _ h=>h.mono id (λh=>h.mono hs) id⟩
theorem cm.mono(h:cm K G R τ fv H H1 vs ds)(hs:∀i∈fv,i∈fv'):cm K G R τ fv' H H1 vs ds :=
 let ⟨τt,h1,h2⟩:=h;⟨τt,h1,h2.imp (λ_ _ h=>h) λ_ _ _ _ h=>h.mono id (λh=>h.mono hs) id⟩
theorem b_.old{H0:Hp}(h:b_ K G R τ fv H H1 v d)(e:aI H0 H):b_ K G R τ fv H0 H1 v d :=
 let ⟨τt,h1,h2⟩:=h;⟨τt,λp q z=>e.free (h1 p q z),h2⟩
theorem b_.int{i:Int}:b_ K G R τ fv H H1 (.int i) (.int i):=⟨λ_=>none,λ_ _ h=>by simp at h,.int i⟩
theorem b_.bl{b:Bool}:b_ K G R τ fv H H1 (.bl b) (.bl b):=⟨λ_=>none,λ_ _ h=>by simp at h,.bl b⟩
theorem b_.str{s:Str}:b_ K G R τ fv H H1 (.str s) (.str s):=⟨λ_=>none,λ_ _ h=>by simp at h,.str s⟩
theorem b_.bB:b_ K G R τ fv H H1 .bB .bB:=⟨λ_=>none,λ_ _ h=>by simp at h,.bB⟩
theorem b_.isInt{i:Int}(h:b_ K G R τ fv H H1 v (.int i)):v=.int i:=by obtain⟨_,_,h⟩:=h;cases h;rfl
theorem b_.wx{i:Bool}(h:b_ K G R τ fv H H1 v (.bl i)):v=.bl i:=by obtain⟨_,_,h⟩:=h;cases h;rfl
def oN:bo->bo
 |[]=>[]
 |[n]=>[n+1]
 |a::b::r=>a::oN (b::r)
theorem qF(c:bo)(n:Nat):oN (c++[n])=c++[n+1]:=by
 induction c with
 |nil=>rfl
 |cons a c ih =>
  cases c with
  |nil=>rfl
  |cons b c=>show a::oN (b::c++[n])=_;rw[ih];rfl
theorem aB.shift{T:mU}{N N':gc}(hN:∀c n p xs f,N (c++[n]) p xs f->N' (c++[n+1]) p xs f):∀{n:Nat} {vs:ae} {ds:aa},aB T N [] n vs ds->aB T N' [] (n+1) vs ds
 |_,_,_,.nil=>.nil
 |n,_,_,.cons h t=>.cons (h.imp (q:=[n]) (q':=[n+1]) (λ_ _ h=>h) λc p xs f h=>hN c n p xs f h) (aB.shift hN t)
theorem cm.nil:cm K G R τ fv H H1 [] []:=⟨λ_=>none,λ_ _ h=>by simp at h,.nil⟩
open Classical in
theorem cm.cons(e1:aI H H1)(e2:aI H1 H2)(h:b_ K G R τ fv H H1 v d)(t:cm K G R τ fv H1 H2 vs ds):cm K G R τ fv H H2 (v::vs) (d::ds):=by
 obtain⟨τ1,f1,h1⟩:=h;obtain⟨τ2,f2,h2⟩:=t;refine⟨λp=>if H1 p=none then(τ2 p).map oN else(τ1 p).map (· ++ [0]),λp q hq=>?_,.cons (h1.imp (q':=[0]) (λ_ _ h=>a_.same e2 h) λc p xs f h=>?_) (aB.shift (λc n p xs f h=>?_) h2)⟩
 ·by_cases hp:H1 p=none
  ·exact e1.free hp
  ·simp only[hp,if_false]at hq;cases q1:τ1 p with
   |none=>rw[q1]at hq;simp at hq
   |some k=>exact f1 p k q1
 ·have h':nd K R (jm G τ fv) τ1 H2 (c++[]) p xs f:=nd.same e2 h;cases f with
  |ow =>
   have hp:H1 p≠none:=h.1.ne;refine⟨h'.1,?_⟩;simp only[hp,if_false];rw[h.2];simp
  |fz=>exact h'
  |al=>exact h'
  |sc=>exact h'
 ·cases f with
  |ow =>
   have hp:H1 p=none:=f2 p _ h.2;refine⟨h.1,?_⟩;simp only[hp,if_true];rw[h.2];simp[qF]
  |fz=>exact h
  |al=>exact h
  |sc=>exact h
end
def tD(X:Cx)(F:ag)(Φ:aV)(c:CE):TE:=λσ H Q=>∃R τ ρ d,SI X F R τ ρ σ H/\aX Φ c ρ=ok d/\∀v H',aI H H'->b_ X.K (gP X F) R τ (gb c) H H' v d->Q v H'
def qk(X:Cx)(F:ag)(Φ:aV)(cs:aC):TA:=λσ H Q=>∃R τ ρ ds,SI X F R τ ρ σ H/\b8 Φ cs ρ=ok ds/\∀vs H',aI H H'->cm X.K (gP X F) R τ (dk cs) H H' vs ds->Q vs H'
def iJ(X:Cx)(F:ag)(Φ:aV)(c:CE):TT:=λσ H Q=>∃R τ ρ b,SI X F R τ ρ σ H/\rK Φ c ρ=ok b/\∀H',aI H H'->Q b H'
theorem PE.imp{e:Expr}{t t':TE}(h:PE X e t)(hi:∀σ H Q,t' σ H Q->t σ H Q):PE X e t':=λpins s σ H Q I hw=>h pins s σ H Q I (hi σ H Q hw)
theorem PT.imp{e:Expr}{t t':TT}(h:PT X e t)(hi:∀σ H Q,t' σ H Q->t σ H Q):PT X e t':=λpins s σ H Q I hw=>h pins s σ H Q I (hi σ H Q hw)
theorem PW.imp{e:Expr}{t t':TT}(h:PW X e t)(hi:∀σ H Q,t' σ H Q->t σ H Q):PW X e t':=λwh pins s σ H Q I hw=>h wh pins s σ H Q I (hi σ H Q hw)
theorem PA.imp{es:au}{t t':TA}(h:PA X es t)(hi:∀σ H Q,t' σ H Q->t σ H Q):PA X es t':=λpos pins s σ H Q I hw=>h pos pins s σ H Q I (hi σ H Q hw)
variable {st:Stmt}
theorem PS.imp{t t':TS}(h:PS X st t)(hi:∀D σ H,t' D σ H->t D σ H):PS X st t':=λpins s σ H D I hw=>h pins s σ H D I (hi D σ H hw)
theorem fJ.imp{st:aO}{t t':TS}(h:fJ X st t)(hi:∀D σ H,t' D σ H->t D σ H):fJ X st t':=λpins s σ H D I hw=>h pins s σ H D I (hi D σ H hw)
theorem mH:∀(as bs:aa),dq as bs=true ↔ as.length=bs.length/\∀(j:Nat) (a b:D),as[j]?=some a->bs[j]?=some b->eZ a b=true
 |[],[]=>by simp[dq]
 |[],b::bs=>by simp[dq]
 |a::as,[]=>by simp[dq]
 |a::as,b::bs=>by
  rw[dq,Bool.and_eq_true,mH as bs];constructor
  ·rintro ⟨h1,h2,h3⟩;refine⟨by simp[h2],λj x y hx hy=>?_⟩;cases j with
   |zero=>simp at hx hy;subst hx hy;exact h1
   |succ j=>exact h3 j x y (by simpa using hx) (by simpa using hy)
  ·rintro ⟨h2,h3⟩;exact⟨h3 0 a b rfl rfl,by simpa using h2,λj x y hx hy=>h3 (j+1) x y (by simpa using hx) (by simpa using hy)⟩
def LF(as bs:aa)(j:Nat):Bool:=match as[j]?,bs[j]? with
 |some a,some b=>eZ a b
 |_,_=>false
theorem je(as bs:aa):((List.range (min as.length bs.length)).all (LF as bs)&&as.length==bs.length)=dq as bs:=by
 rw[Bool.eq_iff_iff,mH,Bool.and_eq_true,List.all_eq_true,beq_iff_eq];constructor
 ·rintro ⟨h1,h2⟩;refine⟨h2,λj a b ha hb=>?_⟩;have hj:j<as.length:=by
   by_cases h:j<as.length
   ·exact h
   ·rw[List.getElem?_eq_none (by left)]at ha;cases ha
  have:=h1 j (by rw[List.mem_range];left);unfold LF at this;rw[ha,hb]at this;exact this
 ·rintro ⟨h2,h1⟩;refine⟨λj hj=>?_,h2⟩;rw[List.mem_range]at hj;unfold LF;have ha:as[j]?=some as[j]:=Xq (by left);have hb:bs[j]?=some bs[j]:=Xq (by left);rw[ha,hb];exact h1 j _ _ ha hb
section
variable {X:Cx}{pins:aj}{σ:St}{H:Hp}{s:Shared}{N N':gc}
theorem dU{n:Nat}(h:bR n (.tup ds)=true):∃m,n=m+1/\∀d∈ds,bR m d=true:=by
 cases n with
 |zero=>cases h
 |succ m=>exact⟨m,rfl,List.all_eq_true.mp h⟩
theorem dW{n:Nat}(h:bR n (.lst f ds)=true):∃m,n=m+1/\∀d∈ds,bR m d=true:=by
 cases n with
 |zero=>cases h
 |succ m=>exact⟨m,rfl,List.all_eq_true.mp h⟩
theorem uO(I:Inv X pins σ H s){p:Addr}(h:dF X.K H p xs)(h':a_ X.K H p ys):False:=by
 obtain⟨aN,_,pl,_⟩:=I.list h;obtain⟨its',_,pt,_⟩:=I.tuple h';exact SeqAt.ne_of_list_tuple pl.isList pt rfl
theorem xX(I:Inv X pins σ H s)(hN:∀q p xs f,N q p (.l xs) f->dF X.K H p xs)(zg:∀q p xs f,N' q p (.l xs) f->dF X.K H p xs):
  ∀(n:Nat) {k k':bo} {v:V} {d d':D},Rep (a_ X.K H) N k v d->Rep (a_ X.K H) N' k' v d'->bR n d=true->bR n d'=true->eZ d d'=true:=by
 intro n;induction n with
 |zero =>
  intro k k' v d d' h h' ho eX;cases h with
  |bB=>cases h';rfl
  |bl b=>cases h';exact XR b
  |int i=>cases h';exact XR i
  |str t=>cases h';exact XR t
  |tup _ _=>obtain⟨m,hm,_⟩:=dU ho;left
  |lst _ _=>obtain⟨m,hm,_⟩:=dW ho;left
  |gr _ _=>cases ho
 |succ n ih =>
  have sub:∀{q q':bo} {xs:ae} {ds fV:aa},aB (a_ X.K H) N q 0 xs ds->aB (a_ X.K H) N' q' 0 xs fV->(∀d∈ds,bR n d=true)->(∀d∈fV,bR n d=true)->dq ds fV=true:=by
   intro q q' xs ds fV r r' ho eX;rw[mH];refine⟨by rw[<- r.length,<- r'.length],λj a b ha hb=>?_⟩;obtain⟨v1,h1,r1⟩:=r.get ha;obtain⟨v2,h2,r2⟩:=r'.get hb;rw[h1]at h2;cases h2;exact ih r1 r2 (ho a (Xt ha)) (eX b (Xt hb))
  intro k k' v d d' h h' ho eX;cases h with
  |bB=>cases h';rfl
  |bl b=>cases h';exact XR b
  |int i=>cases h';exact XR i
  |str t=>cases h';exact XR t
  |tup h r =>
   obtain⟨m,hm,ho⟩:=dU ho;obtain rfl:n=m:=by left
   cases h' with
   |tup h' r' =>
    obtain⟨m,hm,eX⟩:=dU eX;obtain rfl:n=m:=by left
    obtain rfl:=I.nH h h';exact sub r r' ho eX
   |lst h' r'=>exact(uO I (zg _ _ _ _ h') h).elim
   |gr _ _=>cases eX
  |lst h r =>
   obtain⟨m,hm,ho⟩:=dW ho;obtain rfl:n=m:=by left
   cases h' with
   |tup h' r'=>exact(uO I (hN _ _ _ _ h) h').elim
   |lst h' r' =>
    obtain⟨m,hm,eX⟩:=dW eX;obtain rfl:n=m:=by left
    obtain rfl:=I.jJ (hN _ _ _ _ h) (zg _ _ _ _ h');exact sub r r' ho eX
   |gr _ _=>cases eX
  |gr _ _=>cases ho
structure Alike(A:aQ)(s:Shared)(u u':Value)(b:Bool):Prop where
 eq:SeqAt.EqAt A s u u' b
 rc:SeqAt.RcAt A s u u' b
 ne:SeqAt.RcNeAt A s u u' (!b)
theorem alike(I:Inv X pins σ H s)(hN:∀q p xs f,N q p (.l xs) f->dF X.K H p xs)(zg:∀q p xs f,N' q p (.l xs) f->dF X.K H p xs):
  ∀(n:Nat) (A:aQ) {k k':bo} {v v':V} {u u':Value} {d d':D},Rep (a_ X.K H) N k v d->Rep (a_ X.K H) N' k' v' d'->bR n d=true->bR n d'=true->RelV v u->RelV v' u'->A.units+n<cLine ->
   Alike A s u u' (eZ d d'):=by
 intro n;induction n with
 |zero =>
  intro A k k' v v' u u' d d' h h' ho eX r r' hu;cases h with
  |tup _ _=>obtain⟨m,hm,_⟩:=dU ho;left
  |lst _ _=>obtain⟨m,hm,_⟩:=dW ho;left
  |gr _ _=>cases ho
  |bB =>
   cases r;cases h' with
   |tup _ _=>obtain⟨m,hm,_⟩:=dU eX;left
   |lst _ _=>obtain⟨m,hm,_⟩:=dW eX;left
   |gr _ _=>cases eX
   |bB=>cases r';exact⟨X1 _,SeqAt.RcAt.none_none,SeqAt.RcNeAt.none_none⟩
   |bl b=>cases r';exact⟨Yj b,SeqAt.RcAt.none_bool b,SeqAt.RcNeAt.none_bool b⟩
   |int b=>obtain⟨t,rfl⟩:=r';exact⟨Yq b t,SeqAt.RcAt.none_int b t,SeqAt.RcNeAt.none_int b t⟩
   |str b=>obtain⟨t,rfl⟩:=r';exact⟨Yr b t,SeqAt.RcAt.none_str b t,SeqAt.RcNeAt.none_str b t⟩
  |bl a =>
   cases r;cases h' with
   |tup _ _=>obtain⟨m,hm,_⟩:=dU eX;left
   |lst _ _=>obtain⟨m,hm,_⟩:=dW eX;left
   |gr _ _=>cases eX
   |bB=>cases r';exact⟨Yk a,SeqAt.RcAt.bool_none a,SeqAt.RcNeAt.bool_none a⟩
   |bl b=>cases r';exact⟨Ym a b,SeqAt.RcAt.bool_bool a b,SeqAt.RcNeAt.bool_bool a b⟩
   |int b=>obtain⟨t,rfl⟩:=r';exact⟨Ys a b t,SeqAt.RcAt.bool_int a b t,SeqAt.RcNeAt.bool_int a b t⟩
   |str b=>obtain⟨t,rfl⟩:=r';exact⟨Yt a b t,SeqAt.RcAt.bool_str a b t,SeqAt.RcNeAt.bool_str a b t⟩
  |int a =>
   obtain⟨t',rfl⟩:=r;cases h' with
   |tup _ _=>obtain⟨m,hm,_⟩:=dU eX;left
   |lst _ _=>obtain⟨m,hm,_⟩:=dW eX;left
   |gr _ _=>cases eX
   |bB=>cases r';exact⟨Yu a t',SeqAt.RcAt.int_none a t',SeqAt.RcNeAt.int_none a t'⟩
   |bl b=>cases r';exact⟨Yv a t' b,SeqAt.RcAt.int_bool a t' b,SeqAt.RcNeAt.int_bool a t' b⟩
   |int b=>obtain⟨t,rfl⟩:=r';exact⟨YA a t' b t,SeqAt.RcAt.int_int a t' b t,SeqAt.RcNeAt.int_int a t' b t⟩
   |str b=>obtain⟨t,rfl⟩:=r';exact⟨X3 a t' b t,SeqAt.RcAt.int_str a t' b t,SeqAt.RcNeAt.int_str a t' b t⟩
  |str a =>
   obtain⟨t',rfl⟩:=r;cases h' with
   |tup _ _=>obtain⟨m,hm,_⟩:=dU eX;left
   |lst _ _=>obtain⟨m,hm,_⟩:=dW eX;left
   |gr _ _=>cases eX
   |bB=>cases r';exact⟨Yw a t',SeqAt.RcAt.str_none a t',SeqAt.RcNeAt.str_none a t'⟩
   |bl b=>cases r';exact⟨Yx a t' b,SeqAt.RcAt.str_bool a t' b,SeqAt.RcNeAt.str_bool a t' b⟩
   |int b=>obtain⟨t,rfl⟩:=r';exact⟨X4 a t' b t,SeqAt.RcAt.str_int a t' b t,SeqAt.RcNeAt.str_int a t' b t⟩
   |str b=>obtain⟨t,rfl⟩:=r';exact⟨YB a t' b t,SeqAt.RcAt.str_str a t' b t,SeqAt.RcNeAt.str_str a t' b t⟩
 |succ n ih =>
  intro A k k' v v' u u' d d' h h' ho eX r r' hu;have dt:A.units<cLine:=by left
  have U8:A.in1.units+n<cLine:=by show A.units+1+n<cLine;left
  have sub:∀{q q':bo} {xs vK:ae} {ds fV:aa} {aN its':aq},aB (a_ X.K H) N q 0 xs ds->aB (a_ X.K H) N' q' 0 vK fV->(∀d∈ds,bR n d=true)->(∀d∈fV,bR n d=true)->Vals xs aN->Vals vK its' ->
    ∀(j:Nat) (h1:j<aN.toArray.size) (h2:j<its'.toArray.size),SeqAt.EqAt A.in1 s aN.toArray[j] its'.toArray[j] (LF ds fV j):=by
   intro q q' xs vK ds fV aN its' rs w6 hd Qm rv w5 j h1 h2;have l1:ds.length=aN.length:=by rw[<- rs.length,rv.length]
   have l2:fV.length=its'.length:=by rw[<- w6.length,w5.length]
   simp only[List.size_toArray]at h1 h2;have ea:ds[j]?=some ds[j]:=Xq (by left);have eb:fV[j]?=some fV[j]:=Xq (by left);obtain⟨w1,g1,p1⟩:=rs.get ea;obtain⟨w2,g2,p2⟩:=w6.get eb;obtain⟨u1,k1,z1⟩:=rv.get g1;obtain⟨u2,k2,z2⟩:=w5.get g2;have:=(ih A.in1 p1 p2 (hd _ (YG _)) (Qm _ (YG _)) z1 z2 U8).eq;unfold LF;rw[ea,eb];rw[List.getElem?_eq_getElem h1]at k1;rw[List.getElem?_eq_getElem h2]at k2;cases k1;cases k2;simpa using this
  cases h with
  |bB =>
   cases r;cases h' with
   |gr _ _=>cases eX
   |bB=>cases r';exact⟨X1 _,SeqAt.RcAt.none_none,SeqAt.RcNeAt.none_none⟩
   |bl b=>cases r';exact⟨Yj b,SeqAt.RcAt.none_bool b,SeqAt.RcNeAt.none_bool b⟩
   |int b=>obtain⟨t,rfl⟩:=r';exact⟨Yq b t,SeqAt.RcAt.none_int b t,SeqAt.RcNeAt.none_int b t⟩
   |str b=>obtain⟨t,rfl⟩:=r';exact⟨Yr b t,SeqAt.RcAt.none_str b t,SeqAt.RcNeAt.none_str b t⟩
   |tup h' rr=>cases r';obtain⟨aN,_,pt,_⟩:=I.tuple h';exact⟨SeqAt.EqAt.none_tuple pt dt,SeqAt.RcAt.none_tuple pt dt,SeqAt.RcNeAt.none_tuple pt dt⟩
   |lst h' rr=>cases r';obtain⟨aN,_,pt,_⟩:=I.list (zg _ _ _ _ h');exact⟨SeqAt.EqAt.none_list pt.isList dt,SeqAt.RcAt.none_list pt.isList dt,SeqAt.RcNeAt.none_list pt.isList dt⟩
  |bl a =>
   cases r;cases h' with
   |gr _ _=>cases eX
   |bB=>cases r';exact⟨Yk a,SeqAt.RcAt.bool_none a,SeqAt.RcNeAt.bool_none a⟩
   |bl b=>cases r';exact⟨Ym a b,SeqAt.RcAt.bool_bool a b,SeqAt.RcNeAt.bool_bool a b⟩
   |int b=>obtain⟨t,rfl⟩:=r';exact⟨Ys a b t,SeqAt.RcAt.bool_int a b t,SeqAt.RcNeAt.bool_int a b t⟩
   |str b=>obtain⟨t,rfl⟩:=r';exact⟨Yt a b t,SeqAt.RcAt.bool_str a b t,SeqAt.RcNeAt.bool_str a b t⟩
   |tup h' rr=>cases r';obtain⟨aN,_,pt,_⟩:=I.tuple h';exact⟨SeqAt.EqAt.bool_tuple a pt dt,SeqAt.RcAt.bool_tuple a pt dt,SeqAt.RcNeAt.bool_tuple a pt dt⟩
   |lst h' rr=>cases r';obtain⟨aN,_,pt,_⟩:=I.list (zg _ _ _ _ h');exact⟨SeqAt.EqAt.bool_list a pt.isList dt,SeqAt.RcAt.bool_list a pt.isList dt,SeqAt.RcNeAt.bool_list a pt.isList dt⟩
  |int a =>
   obtain⟨t',rfl⟩:=r;cases h' with
   |gr _ _=>cases eX
   |bB=>cases r';exact⟨Yu a t',SeqAt.RcAt.int_none a t',SeqAt.RcNeAt.int_none a t'⟩
   |bl b=>cases r';exact⟨Yv a t' b,SeqAt.RcAt.int_bool a t' b,SeqAt.RcNeAt.int_bool a t' b⟩
   |int b=>obtain⟨t,rfl⟩:=r';exact⟨YA a t' b t,SeqAt.RcAt.int_int a t' b t,SeqAt.RcNeAt.int_int a t' b t⟩
   |str b=>obtain⟨t,rfl⟩:=r';exact⟨X3 a t' b t,SeqAt.RcAt.int_str a t' b t,SeqAt.RcNeAt.int_str a t' b t⟩
   |tup h' rr=>cases r';obtain⟨aN,_,pt,_⟩:=I.tuple h';exact⟨SeqAt.EqAt.int_tuple a t' pt dt,SeqAt.RcAt.int_tuple a t' pt dt,SeqAt.RcNeAt.int_tuple a t' pt dt⟩
   |lst h' rr=>cases r';obtain⟨aN,_,pt,_⟩:=I.list (zg _ _ _ _ h');exact⟨SeqAt.EqAt.int_list a t' pt.isList dt,SeqAt.RcAt.int_list a t' pt.isList dt,SeqAt.RcNeAt.int_list a t' pt.isList dt⟩
  |str a =>
   obtain⟨t',rfl⟩:=r;cases h' with
   |gr _ _=>cases eX
   |bB=>cases r';exact⟨Yw a t',SeqAt.RcAt.str_none a t',SeqAt.RcNeAt.str_none a t'⟩
   |bl b=>cases r';exact⟨Yx a t' b,SeqAt.RcAt.str_bool a t' b,SeqAt.RcNeAt.str_bool a t' b⟩
   |int b=>obtain⟨t,rfl⟩:=r';exact⟨X4 a t' b t,SeqAt.RcAt.str_int a t' b t,SeqAt.RcNeAt.str_int a t' b t⟩
   |str b=>obtain⟨t,rfl⟩:=r';exact⟨YB a t' b t,SeqAt.RcAt.str_str a t' b t,SeqAt.RcNeAt.str_str a t' b t⟩
   |tup h' rr=>cases r';obtain⟨aN,_,pt,_⟩:=I.tuple h';exact⟨SeqAt.EqAt.str_tuple a t' pt dt,SeqAt.RcAt.str_tuple a t' pt dt,SeqAt.RcNeAt.str_tuple a t' pt dt⟩
   |lst h' rr=>cases r';obtain⟨aN,_,pt,_⟩:=I.list (zg _ _ _ _ h');exact⟨SeqAt.EqAt.str_list a t' pt.isList dt,SeqAt.RcAt.str_list a t' pt.isList dt,SeqAt.RcNeAt.str_list a t' pt.isList dt⟩
  | @tup _ p xs ds h rs =>
   cases r;obtain⟨aN,rv,pt,_⟩:=I.tuple h;have pt:s.heap.IsTuple p aN.toArray:=pt;cases h' with
   |gr _ _=>cases eX
   |bB=>cases r';exact⟨SeqAt.EqAt.tuple_none pt dt,SeqAt.RcAt.tuple_none pt dt,SeqAt.RcNeAt.tuple_none pt dt⟩
   |bl b=>cases r';exact⟨SeqAt.EqAt.tuple_bool b pt dt,SeqAt.RcAt.tuple_bool b pt dt,SeqAt.RcNeAt.tuple_bool b pt dt⟩
   |int b=>obtain⟨t,rfl⟩:=r';exact⟨SeqAt.EqAt.tuple_int b t pt dt,SeqAt.RcAt.tuple_int b t pt dt,SeqAt.RcNeAt.tuple_int b t pt dt⟩
   |str b=>obtain⟨t,rfl⟩:=r';exact⟨SeqAt.EqAt.tuple_str b t pt dt,SeqAt.RcAt.tuple_str b t pt dt,SeqAt.RcNeAt.tuple_str b t pt dt⟩
   |lst h' rr=>cases r';obtain⟨its',_,pl,_⟩:=I.list (zg _ _ _ _ h');exact⟨SeqAt.EqAt.tuple_list pt pl.isList dt,SeqAt.RcAt.tuple_list pt pl.isList dt,SeqAt.RcNeAt.tuple_list pt pl.isList dt⟩
   | @tup _ p' vK fV h' w6 =>
    cases r';obtain⟨m,hm,PZ⟩:=dU ho;obtain rfl:n=m:=by left
    obtain⟨m,hm,y_⟩:=dU eX;obtain rfl:n=m:=by left
    obtain⟨its',w5,Mu,_⟩:=I.tuple h';have Mu:s.heap.IsTuple p' its'.toArray:=Mu;have key:=sub rs w6 PZ y_ rv w5;have l1:ds.length=aN.toArray.size:=by rw[List.size_toArray,<- rs.length,rv.length]
    have l2:fV.length=its'.toArray.size:=by rw[List.size_toArray,<- w6.length,w5.length]
    have rc:SeqAt.RcAt A s (.ref p) (.ref p') (eZ (.tup ds) (.tup fV)):=by
     have:=SeqAt.RcAt.tuples pt Mu dt key;rw[<- l1,<- l2,je]at this;exact this
    refine⟨?_,rc,?_⟩
    ·by_cases hp:p=p'
     ·subst hp;rw[xX I hN zg (n+1) (Rep.tup h rs) (Rep.tup h' w6) ho eX];exact X1 _
     ·exact SeqAt.EqAt.of_refs hp rc
    ·have:=SeqAt.RcNeAt.tuples pt Mu dt key;rw[<- l1,<- l2,je]at this;exact this
  | @lst _ p xs f ds h rs =>
   cases r;obtain⟨aN,rv,pl,_⟩:=I.list (hN _ _ _ _ h);have pl:=pl.isList;cases h' with
   |gr _ _=>cases eX
   |bB=>cases r';exact⟨SeqAt.EqAt.list_none pl dt,SeqAt.RcAt.list_none pl dt,SeqAt.RcNeAt.list_none pl dt⟩
   |bl b=>cases r';exact⟨SeqAt.EqAt.list_bool b pl dt,SeqAt.RcAt.list_bool b pl dt,SeqAt.RcNeAt.list_bool b pl dt⟩
   |int b=>obtain⟨t,rfl⟩:=r';exact⟨SeqAt.EqAt.list_int b t pl dt,SeqAt.RcAt.list_int b t pl dt,SeqAt.RcNeAt.list_int b t pl dt⟩
   |str b=>obtain⟨t,rfl⟩:=r';exact⟨SeqAt.EqAt.list_str b t pl dt,SeqAt.RcAt.list_str b t pl dt,SeqAt.RcNeAt.list_str b t pl dt⟩
   |tup h' rr=>cases r';obtain⟨its',_,pt,_⟩:=I.tuple h';exact⟨SeqAt.EqAt.list_tuple pl pt dt,SeqAt.RcAt.list_tuple pl pt dt,SeqAt.RcNeAt.list_tuple pl pt dt⟩
   | @lst _ p' vK f' fV h' w6 =>
    cases r';obtain⟨m,hm,PZ⟩:=dW ho;obtain rfl:n=m:=by left
    obtain⟨m,hm,y_⟩:=dW eX;obtain rfl:n=m:=by left
    obtain⟨its',w5,Dm,_⟩:=I.list (zg _ _ _ _ h');have Dm:=Dm.isList;have key:=sub rs w6 PZ y_ rv w5;have l1:ds.length=aN.toArray.size:=by rw[List.size_toArray,<- rs.length,rv.length]
    have l2:fV.length=its'.toArray.size:=by rw[List.size_toArray,<- w6.length,w5.length]
    have two:SeqAt.RcAt A s (.ref p) (.ref p') (eZ (.lst f ds) (.lst f' fV))/\SeqAt.RcNeAt A s (.ref p) (.ref p') (!eZ (.lst f ds) (.lst f' fV)):=by
     show SeqAt.RcAt A s (.ref p) (.ref p') (dq ds fV)/\SeqAt.RcNeAt A s (.ref p) (.ref p') (!dq ds fV);rw[<- je];by_cases hl:ds.length=fV.length
     ·have e1:(ds.length==fV.length)=true:=by simp[hl]
      rw[e1,Bool.and_true,<- hl,Nat.min_self];have hz:aN.toArray.size=its'.toArray.size:=by rw[<- l1,<- l2,hl]
      refine⟨?_,?_⟩
      ·have:=SeqAt.RcAt.lists pl Dm hz dt key;rw[<- l1]at this;exact this
      ·have:=SeqAt.RcNeAt.lists pl Dm hz dt key;rw[<- l1]at this;exact this
     ·have e1:(ds.length==fV.length)=false:=by simp[hl]
      rw[e1,Bool.and_false];have hz:(aN.toArray.size != its'.toArray.size)=true:=by rw[<- l1,<- l2];simp[hl]
      exact⟨SeqAt.RcAt.lists_lengths pl Dm hz dt,SeqAt.RcNeAt.lists_lengths pl Dm hz dt⟩
    refine⟨?_,two.1,two.2⟩;by_cases hp:p=p'
    ·subst hp;rw[xX I hN zg (n+1) (Rep.lst h rs) (Rep.lst h' w6) ho eX];exact X1 _
    ·exact SeqAt.EqAt.of_refs hp two.1
  |gr _ _=>cases ho
end
structure Px where
 pe:Nat->Scope->av->Expr->Option (au)
 pi:Nat->Scope->av->Expr->Option (au)
 pm:Nat->Scope->av->Stmt->Option (Expr×au)
structure Sx where
 sc:Scope
 N:av
 fn:Nat->Option Str
 bl:av
 cs:List (Str×GK)
 px:Px
noncomputable def JY:CF->Operator
 |.add=>.Add|.sub=>.Sub|.mul=>.Mult|.fdiv=>.FloorDiv|.mod=>.Mod|.pow=>.Pow|.shl=>.LShift
noncomputable def OV:xo->CmpOp
 |.eq=>.Eq|.ne=>.NotEq|.lt=>.Lt|.le=>.LtE|.gt=>.Gt|.ge=>.GtE|.F9=>.In
noncomputable def tyName:Ty->String
 |.int=>"int" |.bool=>"bool" |.str=>"str" |.list=>"list" |.tuple=>"tuple"
noncomputable def qa:Bf->String
 |.len=>"len" |.abs=>"abs" |.min2=>"min" |.max2=>"max" |.list1=>"list" |.tuple1=>"tuple" |.sG=>"sum" |.all1=>"all" |.gg=>"sorted"
noncomputable def Ea(sc:Scope)(x:Str):Bool:=decide (sc.names.lookup x=some .local)||decide (sc.names.lookup x=some .cell)||decide (sc.names.lookup x=some .free)
noncomputable def fj(sc:Scope)(x:Str):Bool:=decide (sc.names.lookup x=some .globalImplicit)
noncomputable def k8(x:Str):Bool:=!(x==("__debug__" : Str))&&!(x==("__classdict__" : Str))&&decide (x≠("__name__" : Str))
noncomputable def nP:Expr->Bool
 |.Set _ _ _=>false
 |_=>true
noncomputable def qM(sc outer:Scope):Scope :=
 { sc with names:=sc.names.map λ(n,k)=>if (k==.free&&outer.kind==.function&&outer.names.lookup n==some .cell)then(n,.cell)else(n,k) }
noncomputable def bV:Expr->av
 |.Name x _=>[x]
 |.Tuple es _ _=>es.filterMap λe=>match e with|.Name x _=>some x|_=>none
 |_=>[]
noncomputable def fD(S:Sx)(caps:aR):av:=caps.filterMap λi=>S.N[i]?
def Sx.inner(S:Sx)(target:Expr)(caps:aR)(sc:Scope):Sx:=⟨qM sc S.sc,bV target++fD S caps,S.fn,S.bl,S.cs,S.px⟩
noncomputable def i_:Expr->Bool
 |.Tuple _ _ _=>true
 |_=>false
noncomputable def isNm(e:Expr):Bool:=decide (e.ctorIdx=23)
theorem pE{e:Expr}(h:isNm e=true):∃x p,e=.Name x p:=Expr.Name.elim (motive_1:=λe=>∃x p,e=.Name x p) e (Xd h) λx p=>⟨x,p,rfl⟩
noncomputable def UB:Expr->Bool
 |.Call ..=>true
 |.BinOp ..=>true
 |.Subscript ..=>true
 |.Compare ..=>true
 |.Dict ..=>true
 |_=>false
noncomputable def RV:Expr->Bool
 |.Call ..=>true
 |.Name ..=>true
 |_=>false
theorem az{a b:Bool}(h:(a&&b)=true):a=true/\b=true:=by
 cases a<;>cases b<;>first|exact⟨rfl,rfl⟩|cases h
noncomputable def bp{α:Type}(o:Option α)(f:α->Bool):Bool:=match o with
 |some a=>f a
 |none=>false
theorem bc{α:Type}{o:Option α}{f:α->Bool}(h:bp o f=true):∃a,o=some a/\f a=true:=by
 cases o with
 |some a=>exact⟨a,rfl,h⟩
 |none=>cases h
theorem dI{α:Type}{c:Prop}[Decidable c]{f:c->Option α}{x:α}(h:(if h:c then f h else none)=some x):∃k:c,f k=some x:=by
 by_cases k:c
 ·rw[dif_pos k]at h;exact⟨k,h⟩
 ·rw[dif_neg k]at h;cases h
theorem bT{α β:Type}{o:Option α}{f:α->Option β}{b:β}(h:o.bind f=some b):∃a,o=some a/\f a=some b:=Option.bind_eq_some_iff.mp h
theorem gT{α:Type}{c:Prop}[Decidable c]{o:Option α}{b:α}(h:(if c then o else none)=some b):c/\o=some b:=by
 by_cases k:c
 ·rw[if_pos k]at h;exact⟨k,h⟩
 ·rw[if_neg k]at h;cases h
noncomputable def vC(e:Expr):Option Const:=if h:e.ctorIdx=19 then Expr.Constant.elim (motive_1:=λ_=>Option Const) e h (λc _ _=>some c)else none
theorem uw{e:Expr}{c:Const}(h:vC e=some c):∃j p,e=.Constant c j p:=by
 obtain⟨k,h⟩:=dI h;exact Expr.Constant.elim (motive_1:=λe=>∀k:e.ctorIdx=19,Expr.Constant.elim (motive_1:=λ_=>Option Const) e k (λc _ _=>some c)=some c->∃j p,e=.Constant c j p) e k (λ_ _ _ _ h=>by cases h;exact⟨_,_,rfl⟩) k h
noncomputable def yZ:Const->Bool
 |.none=>true
 |_=>false
theorem wq{c:Const}(h:yZ c=true):c=.none:=by cases c<;>first|rfl|cases h
noncomputable def DC(b:Bool):Const->Bool
 |.bool c=>decide (b=c)
 |_=>false
theorem y3{b:Bool}{c:Const}(h:DC b c=true):c=.bool b:=by cases c<;>first | (cases h;done)|rw[of_decide_eq_true h]
noncomputable def y2(b:Int):Const->Bool
 |.int c=>decide (b=c)
 |_=>false
theorem wt{b:Int}{c:Const}(h:y2 b c=true):c=.int b:=by cases c<;>first | (cases h;done)|rw[of_decide_eq_true h]
noncomputable def yY(b:Str):Const->Bool
 |.str c=>decide (b=c)
 |_=>false
theorem wo{b:Str}{c:Const}(h:yY b c=true):c=.str b:=by cases c<;>first | (cases h;done)|rw[of_decide_eq_true h]
noncomputable def Ed(e:Expr):Option Str:=if h:e.ctorIdx=23 then Expr.Name.elim (motive_1:=λ_=>Option Str) e h (λx _=>some x)else none
theorem iU{e:Expr}{x:Str}(h:Ed e=some x):∃p,e=.Name x p:=by
 obtain⟨k,h⟩:=dI h;exact Expr.Name.elim (motive_1:=λe=>∀k:e.ctorIdx=23,Expr.Name.elim (motive_1:=λ_=>Option Str) e k (λx _=>some x)=some x->∃p,e=.Name x p) e k (λ_ _ _ h=>by cases h;exact⟨_,rfl⟩) k h
noncomputable def IV(e:Expr):Option (Expr×Operator×Expr):=if h:e.ctorIdx=2 then Expr.BinOp.elim (motive_1:=λ_=>Option (Expr×Operator×Expr)) e h (λl o r _=>some (l,o,r))else none
theorem Aw{e l r:Expr}{o:Operator}(h:IV e=some (l,o,r)):∃p,e=.BinOp l o r p:=by
 obtain⟨k,h⟩:=dI h;exact Expr.BinOp.elim (motive_1:=λe=>∀k:e.ctorIdx=2,Expr.BinOp.elim (motive_1:=λ_=>Option (Expr×Operator×Expr)) e k (λl o r _=>some (l,o,r))=some (l,o,r)->∃p,e=.BinOp l o r p) e k (λ_ _ _ _ _ h=>by cases h;exact⟨_,rfl⟩) k h
noncomputable def NG(e:Expr):Option (UnaryOp×Expr):=if h:e.ctorIdx=3 then Expr.UnaryOp.elim (motive_1:=λ_=>Option (UnaryOp×Expr)) e h (λo e _=>some (o,e))else none
theorem xw{e x:Expr}{o:UnaryOp}(h:NG e=some (o,x)):∃p,e=.UnaryOp o x p:=by
 obtain⟨k,h⟩:=dI h;exact Expr.UnaryOp.elim (motive_1:=λe=>∀k:e.ctorIdx=3,Expr.UnaryOp.elim (motive_1:=λ_=>Option (UnaryOp×Expr)) e k (λo e _=>some (o,e))=some (o,x)->∃p,e=.UnaryOp o x p) e k (λ_ _ _ _ h=>by cases h;exact⟨_,rfl⟩) k h
noncomputable def vBool(e:Expr):Option (BoolOp×au):=if h:e.ctorIdx=0 then Expr.BoolOp.elim (motive_1:=λ_=>Option (BoolOp×au)) e h (λo vs _=>some (o,vs))else none
theorem qw{e:Expr}{o:BoolOp}{vs:au}(h:vBool e=some (o,vs)):∃p,e=.BoolOp o vs p:=by
 obtain⟨k,h⟩:=dI h;exact Expr.BoolOp.elim (motive_1:=λe=>∀k:e.ctorIdx=0,Expr.BoolOp.elim (motive_1:=λ_=>Option (BoolOp×au)) e k (λo vs _=>some (o,vs))=some (o,vs)->∃p,e=.BoolOp o vs p) e k (λ_ _ _ _ h=>by cases h;exact⟨_,rfl⟩) k h
noncomputable def TR(e:Expr):Option (Expr×Expr×Expr):=if h:e.ctorIdx=5 then Expr.IfExp.elim (motive_1:=λ_=>Option (Expr×Expr×Expr)) e h (λt x y _=>some (t,x,y))else none
theorem NH{e t x y:Expr}(h:TR e=some (t,x,y)):∃p,e=.IfExp t x y p:=by
 obtain⟨k,h⟩:=dI h;exact Expr.IfExp.elim (motive_1:=λe=>∀k:e.ctorIdx=5,Expr.IfExp.elim (motive_1:=λ_=>Option (Expr×Expr×Expr)) e k (λt x y _=>some (t,x,y))=some (t,x,y)->∃p,e=.IfExp t x y p) e k (λ_ _ _ _ _ h=>by cases h;exact⟨_,rfl⟩) k h
noncomputable def one{α:Type}:List α->Option α
 |[]=>none
 |x::xs=>match xs with
  |[]=>some x
  |_::_=>none
theorem cF{α:Type}{l:List α}{x:α}(h:one l=some x):l=[x]:=by
 cases l with
 |nil=>cases h
 |cons y ys=>cases ys with
  |nil=>cases h;rfl
  |cons _ _=>cases h
def two{α:Type}:List α->Option (α×α)
 |[]=>none
 |x::xs=>(one xs).map λy=>(x,y)
theorem iV{α:Type}{l:List α}{x y:α}(h:two l=some (x,y)):l=[x,y]:=by
 cases l with
 |nil=>cases h
 |cons z zs=>cases zs with
  |nil=>cases h
  |cons w ws=>cases ws with
   |nil=>cases h;rfl
   |cons _ _=>cases h
noncomputable def NL{α:Type}:List α->Option (α×List α)
 |[]=>none
 |x::xs=>some (x,xs)
theorem so{α:Type}{l xs:List α}{x:α}(h:NL l=some (x,xs)):l=x::xs:=by
 cases l with
 |nil=>cases h
 |cons y ys=>cases h;rfl
noncomputable def IU(e:Expr):Option (Expr×List CmpOp×au):=if h:e.ctorIdx=15 then Expr.Compare.elim (motive_1:=λ_=>Option (Expr×List CmpOp×au)) e h (λl os rs _=>some (l,os,rs))else none
theorem Av{e l:Expr}{os:List CmpOp}{rs:au}(h:IU e=some (l,os,rs)):∃p,e=.Compare l os rs p:=by
 obtain⟨k,h⟩:=dI h;exact Expr.Compare.elim (motive_1:=λe=>∀k:e.ctorIdx=15,Expr.Compare.elim (motive_1:=λ_=>Option (Expr×List CmpOp×au)) e k (λl os rs _=>some (l,os,rs))=some (l,os,rs)->∃p,e=.Compare l os rs p) e k (λ_ _ _ _ _ h=>by cases h;exact⟨_,rfl⟩) k h
noncomputable def xB(e:Expr):Option (Expr×au×List Keyword):=if h:e.ctorIdx=16 then Expr.Call.elim (motive_1:=λ_=>Option (Expr×au×List Keyword)) e h (λf as ks _=>some (f,as,ks))else none
theorem vO{e f:Expr}{as:au}{ks:List Keyword}(h:xB e=some (f,as,ks)):∃p,e=.Call f as ks p:=by
 obtain⟨k,h⟩:=dI h;exact Expr.Call.elim (motive_1:=λe=>∀k:e.ctorIdx=16,Expr.Call.elim (motive_1:=λ_=>Option (Expr×au×List Keyword)) e k (λf as ks _=>some (f,as,ks))=some (f,as,ks)->∃p,e=.Call f as ks p) e k (λ_ _ _ _ _ h=>by cases h;exact⟨_,rfl⟩) k h
def eK(e:Expr):Option (Str×au):=(xB e).bind λz=>if z.2.2.isEmpty=true then(Ed z.1).bind λx=>some (x,z.2.1)else none
theorem O8{α:Type}{l:List α}(h:l.isEmpty=true):l=[]:=List.isEmpty_iff.mp h
theorem bS{e:Expr}{x:Str}{as:au}(h:eK e=some (x,as)):∃p pos,e=.Call (.Name x p) as [] pos:=by
 obtain⟨⟨f,as',ks⟩,hv,h⟩:=bT h;obtain⟨hc,h⟩:=gT h;obtain⟨y,hn,h⟩:=bT h;cases h;obtain⟨pos,rfl⟩:=vO hv;obtain⟨p,rfl⟩:=iU hn;obtain rfl:=O8 hc;exact⟨p,pos,rfl⟩
noncomputable def oA(e:Expr):Option (Expr×Expr):=if h:e.ctorIdx=21 then Expr.Subscript.elim (motive_1:=λ_=>Option (Expr×Expr)) e h (λa b _=>some (a,b))else none
theorem fc{e a b:Expr}(h:oA e=some (a,b)):∃p,e=.Subscript a b p:=by
 obtain⟨k,h⟩:=dI h;exact Expr.Subscript.elim (motive_1:=λe=>∀k:e.ctorIdx=21,Expr.Subscript.elim (motive_1:=λ_=>Option (Expr×Expr)) e k (λa b _=>some (a,b))=some (a,b)->∃p,e=.Subscript a b p) e k (λ_ _ _ _ h=>by cases h;exact⟨_,rfl⟩) k h
noncomputable def vM(e:Expr):Option (au):=if h:e.ctorIdx=25 then Expr.Tuple.elim (motive_1:=λ_=>Option (au)) e h (λes _ _=>some es)else none
theorem jy{e:Expr}{es:au}(h:vM e=some es):∃n p,e=.Tuple es n p:=by
 obtain⟨k,h⟩:=dI h;exact Expr.Tuple.elim (motive_1:=λe=>∀k:e.ctorIdx=25,Expr.Tuple.elim (motive_1:=λ_=>Option (au)) e k (λes _ _=>some es)=some es->∃n p,e=.Tuple es n p) e k (λ_ _ _ _ h=>by cases h;exact⟨_,_,rfl⟩) k h
noncomputable def IS(e:Expr):Option (au):=if h:e.ctorIdx=24 then Expr.List.elim (motive_1:=λ_=>Option (au)) e h (λes _=>some es)else none
theorem Ar{e:Expr}{es:au}(h:IS e=some es):∃p,e=.List es p:=by
 obtain⟨k,h⟩:=dI h;exact Expr.List.elim (motive_1:=λe=>∀k:e.ctorIdx=24,Expr.List.elim (motive_1:=λ_=>Option (au)) e k (λes _=>some es)=some es->∃p,e=.List es p) e k (λ_ _ _ h=>by cases h;exact⟨_,rfl⟩) k h
noncomputable def CL(e:Expr):Option (Expr×List Comprehension×Scope):=if h:e.ctorIdx=8 then Expr.ListComp.elim (motive_1:=λ_=>Option (Expr×List Comprehension×Scope)) e h (λe gs sc _=>some (e,gs,sc))else none
theorem xy{e x:Expr}{gs:List Comprehension}{sc:Scope}(h:CL e=some (x,gs,sc)):∃p,e=.ListComp x gs sc p:=by
 obtain⟨k,h⟩:=dI h;exact Expr.ListComp.elim (motive_1:=λe=>∀k:e.ctorIdx=8,Expr.ListComp.elim (motive_1:=λ_=>Option (Expr×List Comprehension×Scope)) e k (λe gs sc _=>some (e,gs,sc))=some (x,gs,sc)->∃p,e=.ListComp x gs sc p) e k (λ_ _ _ _ _ h=>by cases h;exact⟨_,rfl⟩) k h
theorem dA{a:Bool}(h:(!a)=true):a=false:=by cases a<;>first|rfl|cases h
def pY(S:Sx)(n:Nat)(t:Tg)(caps:aR)(target:Expr)(sc:Scope):Bool :=
 decide (sc.kind=.function)&&sc.names.all (λ(x,k)=>decide (k≠.cell)&&(decide (k≠.local)||decide (sc.names.lookup x=some .local))&&(decide (k≠.free)||decide (S.sc.names.lookup x=some .cell)||decide (S.sc.names.lookup x=some .free))) &&
 decide (n=(bV target).length)&&(bV target).all (λx=>decide (sc.names.lookup x=some .local))&&decide (bV target++fD S caps).Nodup &&
 caps.all (λi=>match S.N[i]? with|some x=>decide (sc.names.lookup x=some .free)|none=>false) &&
 (match t with
  |.nm i=>decide (i=0)&&isNm target
  |.tp is=>bp (vM target) λes=>decide (is=List.range es.length)&&es.all isNm)
mutual
noncomputable def bM(S:Sx):CE->Expr->Bool
 |.eG p es,e0=>UB e0&&bp (S.px.pe p S.sc S.bl e0) λxs=>bL S es xs
 |.bB,e0=>bp (vC e0) λc=>yZ c
 |.bl b,e0=>bp (vC e0) λc=>DC b c
 |.int i,e0=>bp (vC e0) λc=>y2 i c
 |.str s,e0=>bp (vC e0) λc=>yY s c
 |.v i,e0=>bp (Ed e0) λx=>decide (S.N[i]?=some x)&&Ea S.sc x&&k8 x
 |.glo x i,e0=>bp (Ed e0) λy=>decide (y=x)&&fj S.sc x&&decide ((x,GK.i i)∈S.cs)&&!(x==("__debug__" : Str))
 |.bin op a b,e0=>bp (IV e0) λz=>decide (z.2.1=JY op)&&bM S a z.1&&bM S b z.2.2
 |.neg a,e0=>bp (NG e0) λz=>decide (z.1=.USub)&&bM S a z.2
 |.not a,e0=>bp (NG e0) λz=>decide (z.1=.Not)&&bM S a z.2
 |.and es,e0=>bp (vBool e0) λz=>decide (z.1=.And)&&bL S es z.2
 |.or es,e0=>bp (vBool e0) λz=>decide (z.1=.Or)&&bL S es z.2
 |.cmp op a b,e0=>bp (IU e0) λz=>decide (z.2.1=[OV op])&&bM S a z.1&&bp (one z.2.2) λr=>bM S b r&&nP r
 |.sg a t,e0=>bp (eK e0) λz=>decide (z.1=("isinstance" : Str))&&fj S.sc z.1&&decide (z.1∈S.bl)&&bp (two z.2) λy=>bM S a y.1&&bp (Ed y.2) λx=>decide (x=(tyName t:Str))&&fj S.sc x&&decide (x∈S.bl)
 |.call f es,e0=>bp (eK e0) λz=>decide (S.fn f=some z.1)&&fj S.sc z.1&&k8 z.1&&bp (NL z.2) λy=>bL S es (y.1::y.2)
 |.bf f es,e0=>bp (eK e0) λz=>decide (z.1=(qa f:Str))&&fj S.sc z.1&&decide (z.1∈S.bl)&&bp (NL z.2) λy=>bL S es (y.1::y.2)
 |.jI a,e0=>bp (eK e0) λz=>decide (z.1=("len" : Str))&&fj S.sc z.1&&decide (z.1∈S.bl)&&bp (one z.2) λy=>bp (eK y) λw=>decide (w.1=("set" : Str))&&fj S.sc w.1&&decide (w.1∈S.bl)&&bp (one w.2) λu=>bM S a u
 |.ix a b,e0=>bp (oA e0) λz=>bM S a z.1&&bM S b z.2
 |.tup es,e0=>bp (vM e0) λxs=>bL S es xs&&decide (es.length<=1000)
 |.lst es,e0=>bp (IS e0) λxs=>bL S es xs&&decide (es.length<=1000)
 |.comp n t caps ik es bF elt,e0=>bp (CL e0) λz=>bp (one z.2.1) λg=>decide (g.is_async=0)&&pY S n t caps g.target z.2.2&&nP g.iter&&decide (bF.length<=1)&&bL (S.inner g.target caps z.2.2) bF g.ifs&&bM (S.inner g.target caps z.2.2) elt z.1 &&
     (match ik with
      |.kc=>bp (eK g.iter) λw=>decide (w.1=("range" : Str))&&fj S.sc w.1&&decide (w.1∈S.bl)&&bp (one w.2) λy=>bL S es [y]
      |.jE=>bp (eK g.iter) λw=>decide (w.1=("range" : Str))&&fj S.sc w.1&&decide (w.1∈S.bl)&&bp (two w.2) λy=>bL S es [y.1,y.2]
      |.seq=>bL S es [g.iter]
      |.eG p=>RV g.iter&&(decide (1100<=p)||i_ g.target)&&bp (S.px.pi p S.sc S.bl g.iter) λxs=>bL S es xs)
noncomputable def bL(S:Sx):aC->au->Bool
 |[],es=>match es with
  |[]=>true
  |_::_=>false
 |c::cs,es=>match es with
  |[]=>false
  |e::es=>bM S c e&&bL S cs es
end
def Ad(K:ak)(n:Nat)(m:aD):Sp:=λvs H Q _=>∃(F:ag) (ds:aa) (r:D),vs.length=n/\aB (a_ K H) (nd K F (λ_=>False) (λ_=>none) H) [] 0 vs ds/\m ds=ok r /\
 ∀v H',aI H H'->(∃τt:Addr->Option bo,(∀p q,τt p=some q->H p=none)/\Rep (a_ K H') (nd K (λp=>F p\/H p=none) (λ_=>False) τt H') [] v r)->Q v H'
structure HG(X:Cx)(k:Nat)(x:Str)(m:aD):Prop where
 ex:∃(f:Addr) (fd:FuncData) (ps:av),eF X.prog X.w X.K X.mg X.base qr k f fd ps (Ad X.K ps.length m)/\X.mg x=some (.ref f)/\PySem.W.keepIn X.K (.ref f)=true/\Binds X.K fd ps []/\∀ds r,m ds=ok r->ds.length=ps.length
noncomputable def kinds:List String:=["NoneType","bool","int","str","list","tuple","dict"]
def Ko:Ty->String->Bool
 |.int,s=>s == "int" ||s == "bool"
 |t,s=>s==tyName t
theorem aI.upd{H:Hp}{p:Addr}{o:HO}(h:H p=none):aI H (upd H p o):=λb u e=>by
 rw[aY (by rintro rfl;rw[h]at e;cases e)];exact e
theorem yK{i j:Int}(h:g_ i j=true):IntMulOk i j:=by
 unfold g_ at h;simp only[Bool.or_eq_true,Bool.and_eq_true,decide_eq_true_eq]at h;rcases h with (h|h)|⟨h1,h2⟩
 ·exact .of_left (intBits_le h)
 ·exact .of_right (intBits_le h)
 ·have b1:Builtin.Int.intBits i<=9000:=intBits_le h1;have b2:Builtin.Int.intBits j<=9000:=intBits_le h2;unfold IntMulOk;have hb:Builtin.Int.intTooBig ((Builtin.Int.intBits i:Int)+(Builtin.Int.intBits j:Int))=false:=by
   unfold Builtin.Int.intTooBig;have:(bitsLine:Int)=134217728:=by decide
   exact Yg (by left)
  rw[hb];simp
section
variable {K:ak}{R:ag}{τ τt:Addr->Option bo}{fv:aR}{H H':Hp}
theorem Bl:jt X (binaryOp .Add) (λx y H Q=>∃a b xs ys,x=.ref a/\y=.ref b/\a_ X.K H a xs/\a_ X.K H b ys/\xs.length+ys.length<=sizeLine/\(xs=[]->Q (.ref b) H)/\(ys=[]->Q (.ref a) H)/\∀p,H p=none->Q (.ref p) (upd H p (.tup (xs++ys)))):=by
 intro pins s σ H x y v u Q I rx ry h;obtain⟨a,b,xs,ys,rfl,rfl,ha,hb,hz,q0,q1,q2⟩:=h;cases rx;cases ry;by_cases hx:xs=[]
 ·subst hx;obtain⟨aN,r1,p1,_⟩:=I.tuple ha;obtain⟨yV,r2,p2,_⟩:=I.tuple hb;cases r1;obtain⟨⟨cls,dd,data,sl⟩,ho,hc,n,hd⟩:=id p1;obtain⟨⟨Rc,LI,data2,HP⟩,y_,hc2,n2,hd2⟩:=id p2;simp only at hc hd hc2 hd2;subst hc hd hc2 hd2;exact concat_meets ⟨_,ho,rfl⟩ ⟨_,y_,rfl⟩ noFill_tuple_add seq_tuple_add Ya X9 (X6 _ _)
   (tuple_addW0 a b [].toArray yV.toArray n n2 dd LI sl HP rfl) ⟨ho,y_,⟨.ref b,H,I,rfl,q0 rfl⟩⟩
 ·exact Bk pins s σ H (.ref a) (.ref b) _ _ Q I rfl rfl ⟨a,b,xs,ys,rfl,rfl,ha,hb,hx,hz,q1,λ_=>q2⟩
theorem nd.nX(k k':bo)(p:Addr)(xs:Nd)(f:Fl)(h:nd K R A (λ_=>none) H k p xs f):nd K R A (λ_=>none) H k' p xs f:=by
 cases f with
 |ow=>exact nomatch h.2
 |fz=>exact h
 |al=>exact h
 |sc=>exact h
theorem J4(Si:SI X F R τ ρ σ H)(fr:∀p q,τt p=some q->H p=none)(k k':bo)(p:Addr)(xs:Nd)(f:Fl)(h:nd K R (jm (gP X F) τ fv) τt H' k p xs f):
  nd K R (jm (gP X F) τ fv) (λ_=>none) H' k' p xs (aG f):=by
 cases f with
 |ow=>exact⟨h.1,.inr (Si.same.free (fr p _ h.2)),λc i e=>absurd (fr p _ h.2) (Si.th p _ e)⟩
 |fz=>exact h
 |al=>exact h
 |sc=>exact h
theorem aB.f9{k:bo}{n:Nat}(h:aB (a_ K H') (nd K R (jm (gP X F) τ fv) τt H') k n xs ds)(Si:SI X F R τ ρ σ H)(fr:∀p q,τt p=some q->H p=none){n':Nat}:
  aB (a_ K H') (nd K R (jm (gP X F) τ fv) (λ_=>none) H') k' n' xs (aw aG ds):=aB.iL (λ_ _ h=>h) (J4 Si fr) h _ _
theorem Rep.f9{k:bo}{v:V}{d:D}(h:Rep (a_ K H') (nd K R (jm (gP X F) τ fv) τt H') k v d)(Si:SI X F R τ ρ σ H)(fr:∀p q,τt p=some q->H p=none):
  Rep (a_ K H') (nd K R (jm (gP X F) τ fv) (λ_=>none) H') k' v (af aG d):=Rep.iL (λ_ _ h=>h) (J4 Si fr) h _
theorem aB.rep{A:ag}{xs:ae}{ds:aa}(h:aB (a_ K H) (nd K R A (λ_=>none) H) [] 0 xs (aw aG ds)):∀n:Nat,aB (a_ K H) (nd K R A (λ_=>none) H) [] 0 (List.replicate n xs).flatten (aw aG (List.replicate n ds).flatten)
 |0=>.nil
 |n+1=>by
  rw[List.replicate_succ,List.replicate_succ,List.flatten_cons,List.flatten_cons,aE,List.map_append,<- aE,<- aE];exact aB.lP nd.nX h (aB.rep h n)
theorem b_.wb{p:Addr}(hp:H p=none)(e:aI H H')(hl:H' p=some (.lst xs))(r:aB (a_ K H') (nd K R (jm G τ fv) (λ_=>none) H') [] 0 xs ds):b_ K G R τ fv H H' (.ref p) (.lst .ow ds):=by
 refine⟨λq=>if q=p then some []else none,λq k hq=>?_,.lst ⟨hl,by simp⟩ (r.imp (λ_ _ h=>h) λc q xs f h=>?_)⟩
 ·by_cases w_:q=p
  ·subst w_;exact hp
  ·simp[w_]at hq
 ·cases f with
  |ow=>exact nomatch h.2
  |fz=>exact h
  |al=>exact h
  |sc=>exact h
end
theorem BA(K:ak):∀t:Ty,∀s∈kinds,PySem.W.kitOne K (.type s) (.type (tyName t))=some (Ko t s):=by
 intro t s hs;simp only[kinds,List.mem_cons,List.not_mem_nil,or_false]at hs;cases t<;>rcases hs with rfl|rfl|rfl|rfl|rfl|rfl|rfl<;>rfl
structure PX(X:Cx)(sc:Scope)(bl:av)(k:Nat):Prop where
 sc:X.env.scope=sc
 calm:X.calm=true
 room:f_ k X.A
 bl:∀x∈bl,X.mg x=none
theorem PX.gl{sc:Scope}{bl:av}{k:Nat}(L:PX X sc bl k){x:Str}(h:fj sc x=true):Gl X x:=by
 unfold Gl;show X.env.scope.names.lookup x=some .globalImplicit;rw[L.sc];exact Xd h
def uk(X:Cx)(F:ag)(Φ:aV):aC->au->Prop
 |[],[]=>True
 |c::cs,a::as=>PE X a (tD X F Φ c)/\(∀es,starEach (a::es) X.env=(false,eval a X.env)::starEach es X.env)/\j4 a/\uk X F Φ cs as
 |_,_=>False
structure vF(K:ak)(H2:Hp)(vs:ae)(xs:aa)(H':Hp):Prop where
 n0:∃R0:ag,aB (a_ K H2) (nd K R0 (λ_=>False) (λ_=>none) H2) [] 0 vs (aw aA xs)/\∀p o,R0 p->H2 p=some o->H' p=some o
 tp:∀a ys,a_ K H2 a ys->a_ K H' a ys
structure LW(K:ak)(J:It)(H2:Hp)(vs:ae)(xs items:aa):Prop where
 go:∀i H' R',vF K H2 vs xs H'->aB (a_ K H') (nd K R' (λ_=>False) (λ_=>none) H') [] 0 vs (aw aA xs)->i<items.length->J.go i H'
 sj:∀i H' R' x iN,vF K H2 vs xs H'->aB (a_ K H') (nd K R' (λ_=>False) (λ_=>none) H') [] 0 vs (aw aA xs)->i<items.length->J.sj i H' x iN->aI H' iN/\∃d,items[i]?=some d/\Rep (a_ K iN) (nd K R' (λ_=>False) (λ_=>none) iN) [] x d
 stop:∀i H' R',vF K H2 vs xs H'->aB (a_ K H') (nd K R' (λ_=>False) (λ_=>none) H') [] 0 vs (aw aA xs)->items.length<=i->J.stop i H'
structure lx(px:Px)(Φ:aV):Prop where
 e:∀(X:Cx) (sc:Scope) (bl:av) (k:Nat),PX X sc bl k->∀(p:Nat) (e:Expr) (args:au),px.pe p sc bl e=some args->∀(F:ag) (cs:aC),uk X F Φ cs args->PE X e (tD X F Φ (.eG p cs))/\PT X e (iJ X F Φ (.eG p cs))
 i:∀(X:Cx) (sc:Scope) (bl:av) (k:Nat),PX X sc bl k->∀(p:Nat) (e:Expr) (args:au),px.pi p sc bl e=some args->∀(F:ag) (cs:aC) (tg:Expr),(decide (1100<=p)||i_ tg)=true->uk X F Φ cs args ->
  ∀(pins:aj) (s:Shared) (σ:St) (H:Hp) (R:ag) (τ:Addr->Option bo) (ρ:aU) (xs:aa) (d:D) (items:aa),Inv X pins σ H s->SI X F R τ ρ σ H->b8 Φ cs ρ=ok xs->Φ p xs=ok d->qH d=ok items->∀Rr:It->Hp->Prop,
   (∀J H2 vs,aI H H2->cm X.K (gP X F) R τ (dk cs) H H2 vs xs->LW X.K J H2 vs xs items->Rr J H2) ->
   wpAny (model X.prog X.w) X.A (eval e X.env) (λv s1=>wpAny (model X.prog X.w) X.A (pyIter v) (z6 X pins σ tg Rr) X.xe s1) X.xe s
def uo(K:ak):GK->Value->Prop
 |.i i,u=>RelV (.int i) u
structure Lk(X:Cx)(S:Sx)(k:Nat)(Φ:aV):Prop where
 sc:X.env.scope=S.sc
 N:X.N=S.N
 nd:X.N.Nodup
 calm:X.calm=true
 room:f_ k X.A
 bl:∀x∈S.bl,X.mg x=none
 fn:∀f x,S.fn f=some x->HG X k x (Φ f)
 cs:∀x i,(x,i)∈S.cs->∃u,X.mg x=some u/\uo X.K i u
 pr:lx S.px Φ
variable {S:Sx}{Φ:aV}
theorem Lk.pX{k:Nat}(L:Lk X S k Φ):PX X S.sc S.bl k:=⟨L.sc,L.calm,L.room,L.bl⟩
variable {Q:VK}{tE p' p1 pos pos':Pos}
section
variable {X:Cx}{S:Sx}{k:Nat}{F:ag}{Φ:aV}
theorem Lk.gl(L:Lk X S k Φ){x:Str}(h:fj S.sc x=true):Gl X x:=by
 unfold Gl;show X.env.scope.names.lookup x=some .globalImplicit;rw[L.sc];exact Xd h
theorem Lk.Md(L:Lk X S k Φ){x:Str}(h:Ea S.sc x=true):D2 X.env.scope x:=by
 unfold D2;rw[L.sc];unfold Ea at h;rw[Bool.or_eq_true,Bool.or_eq_true]at h;rcases h with (h|h)|h
 ·exact .inl (Xd h)
 ·exact .inr (.inl (Xd h))
 ·exact .inr (.inr (Xd h))
theorem tD.intro{c:CE}{d:D}(Si:SI X F R τ ρ σ H)(e:aX Φ c ρ=ok d)(h:∀v H',aI H H'->b_ X.K (gP X F) R τ (gb c) H H' v d->Q v H'):tD X F Φ c σ H Q:=⟨R,τ,ρ,d,Si,e,h⟩
theorem Ot(L:Lk X S k Φ){i:Nat}{x:Str}(h:bM S (.v i) (.Name x pos)=true):PE X (.Name x pos) (tD X F Φ (.v i)):=by
 replace h:=az h;replace h:=And.intro (az h.1) h.2;obtain⟨⟨h1,h2⟩,h3⟩:=h;unfold k8 at h3;simp only[Bool.and_eq_true,Bool.not_eq_true']at h3;refine PE.imp (gh (i:=i) (by rw[L.N];exact Xd h1) (L.Md h2) h3.1.1 h3.1.2) λσ H Q hq=>?_;obtain⟨R,τ,ρ,d,Si,ev,hq⟩:=hq;obtain⟨d',hd,rfl⟩:=xV ev
 ·obtain⟨v,hv,hr⟩:=Si.rep i d' hd;refine⟨v,hv,hq v H (aI.refl H) ⟨λ_=>none,λ_ _ h=>by simp at h,?_⟩⟩;refine Rep.map (q:=[i]) (q':=[]) (λ_ _ h=>h) (λc p xs f h=>?_) hr [] rfl;cases f with
  |ow =>
   refine⟨h.1,.inr (Si.t0 p _ h.2),λc' j e=>?_⟩;rw[h.2]at e;have e':=Xp e;have:=XI List.getLast? e';simp at this;show _∈[i];simp[this]
  |fz=>exact h
  |al=>exact h.2.elim
  |sc=>exact h
theorem jT{op:CF}{x y d:D}(KO:op≠.add/\op≠.mul)(h:cg op x y=ok d):∃i j,x=.int i/\y=.int j:=by
 cases x with
 |int i=>cases y with
  |int j=>exact⟨i,j,rfl,rfl⟩
  |_=>cases op<;>first|exact nk h | (simp at KO;done)
 |_=>cases op<;>first|exact nk h | (simp at KO;done)
theorem EI(L:Lk X S k Φ){op:CF}{a b:CE}{l r:Expr}(ha:PE X l (tD X F Φ a))(hb:PE X r (tD X F Φ b)):PE X (.BinOp l (JY op) r pos) (tD X F Φ (.bin op a b)):=by
 have two:∀{σ:St} {H:Hp} {Q:VK} {r2:R2},(∃R τ ρ d,SI X F R τ ρ σ H/\aX Φ (.bin op a b) ρ=ok d/\(∀v H',aI H H'->b_ X.K (gP X F) R τ (gb (.bin op a b)) H H' v d->Q v H') /\
   ∀x y v u H',cg op x y=ok d->aI H H'->b_ X.K (gP X F) R τ (gb (.bin op a b)) H H' v x->b_ X.K (gP X F) R τ (gb (.bin op a b)) H H' u y->r2 v u H' Q)->Ek r2 (tD X F Φ a) (tD X F Φ b) σ H Q:=by
  rintro σ H Q r2 ⟨R,τ,ρ,d,Si,ev,hq,hr⟩;obtain⟨x,ex,ev⟩:=aH ev;obtain⟨y,ey,ev⟩:=aH ev;refine tD.intro Si ex λv H1 e1 r1=>tD.intro (Si.go e1) ey λu H2 e2 r2=>?_;exact hr x y v u H2 ev (e1.trans e2) ((r1.go e2).mono λi hi=>Xu _ hi) ((r2.old e1).mono λi hi=>Xk _ hi)
 have y7:∀{C:Int->Int->Prop} {g:Int->Int->Int},jt X (binaryOp (JY op)) (rI C λi j=>.int (g i j))->(∀x y d,cg op x y=ok d->∃i j,x=.int i/\y=.int j/\C i j/\d=.int (g i j)) ->
   PE X (.BinOp l (JY op) r pos) (tD X F Φ (.bin op a b)):=by
  intro C g ho hd;refine PE.imp (uG ho ha hb) λσ H Q hq=>?_;obtain⟨R,τ,ρ,d,Si,ev,hq⟩:=hq;refine two ⟨R,τ,ρ,d,Si,ev,hq,λx y v u H' eb e rv ru=>?_⟩;obtain⟨i,j,rfl,rfl,c,rfl⟩:=hd x y d eb;exact⟨i,j,rv.isInt,ru.isInt,c,hq _ H' e .int⟩
 cases op with
 |sub =>
  refine y7 (C:=λ_ _=>True) (g:=λi j=>i - j) (Fv λ_ _ _ _ _ _ _ _ q=>sub_int q) λx y d h=>?_;obtain⟨i,j,rfl,rfl⟩:=jT (by simp) h;cases h;exact⟨_,_,rfl,rfl,trivial,rfl⟩
 |mod =>
  refine y7 (C:=λ_ j=>j≠0) (g:=λi j=>i.fmod j) Bj λx y d h=>?_;obtain⟨i,j,rfl,rfl⟩:=jT (by simp) h;obtain⟨h1,h⟩:=ql h;subst h;exact⟨_,_,rfl,rfl,h1,rfl⟩
 |fdiv =>
  refine y7 (C:=λ_ j=>n9 j=true) (g:=λi j=>i.fdiv j) (Fv λi j _ _ _ _ _ hc q=>?_) λx y d h=>?_
  ·unfold n9 at hc;rw[Bool.and_eq_true]at hc;have h1:j≠0:=Xd hc.1;have h2:j.natAbs<big:=Xd hc.2;exact floordiv_int h1 q (.inl (PyProof.noPylong_of_log2 ((Nat.log2_lt (by left)).mpr h2)))
  ·obtain⟨i,j,rfl,rfl⟩:=jT (by simp) h;obtain⟨h1,h⟩:=ql h;subst h;exact⟨_,_,rfl,rfl,h1,rfl⟩
 |pow =>
  refine y7 (C:=λi j=>jH i j=true) (g:=λi j=>i ^ j.toNat) (Fv λi j _ _ _ _ _ hc q=>?_) λx y d h=>?_
  ·unfold jH at hc;simp only[Bool.and_eq_true,decide_eq_true_eq]at hc;exact pow_int_small hc.1.1 hc.1.2 hc.2 q
  ·obtain⟨i,j,rfl,rfl⟩:=jT (by simp) h;obtain⟨h1,h⟩:=ql h;subst h;exact⟨_,_,rfl,rfl,h1,rfl⟩
 |shl =>
  refine y7 (C:=λi j=>jH i j=true) (g:=λi j=>i*2 ^ j.toNat) (Fv λi j _ _ _ _ _ hc q=>?_) λx y d h=>?_
  ·unfold jH at hc;simp only[Bool.and_eq_true,decide_eq_true_eq]at hc;exact lshift_int_small hc.1.1 hc.1.2 hc.2 q
  ·obtain⟨i,j,rfl,rfl⟩:=jT (by simp) h;obtain⟨h1,h⟩:=ql h;subst h;exact⟨_,_,rfl,rfl,h1,rfl⟩
 |mul =>
  have hi:jt X (binaryOp .Mult) (rI (λi j=>g_ i j=true) λi j=>.int (i*j)):=Fv λi j _ _ _ _ _ hc q=>mul_int q (yK hc);refine PE.imp (uG (hi.or Fp) ha hb) λσ H Q hq=>?_;obtain⟨R,τ,ρ,d,Si,ev,hq⟩:=hq;refine two ⟨R,τ,ρ,d,Si,ev,hq,λx y v u H' eb e rv ru=>?_⟩;cases y with
  |int j =>
   cases x with
   |int i =>
    obtain⟨h1,eb⟩:=ql eb;subst eb;exact .inl ⟨i,j,rv.isInt,ru.isInt,h1,hq _ H' e .int⟩
   |lst f a =>
    obtain⟨hc,eb⟩:=ql eb
    ·subst eb;obtain⟨τt,fr,rp⟩:=rv;obtain⟨p,xs,rfl,hn,rs⟩:=rp.qv;have hz:sizeLine=16777216:=XY;have lg:cY=1000000:=rfl;refine .inr ⟨p,j,xs,rfl,ru.isInt,hn.lst hc.1,by left,by left,by rw[rs.length];left,λp' qp=>?_⟩;have es:aI H' (upd H' p' (.lst (List.replicate j.toNat xs).flatten)):=aI.upd qp;refine hq _ _ (e.trans es) (b_.wb (e.free qp) (e.trans es) (bh) ?_);exact(aB.rep (rs.f9 Si fr) j.toNat).imp (λ_ _ h=>a_.same es h) λ_ _ _ _ h=>nd.same es h
   |_=>cases eb
  |_=>cases x<;>cases eb
 |add =>
  refine PE.imp (uG ((Ft.or yC).or Bl) ha hb) λσ H Q hq=>?_;obtain⟨R,τ,ρ,d,Si,ev,hq⟩:=hq;refine two ⟨R,τ,ρ,d,Si,ev,hq,λx y v u H' eb e rv ru=>?_⟩;have hz:sizeLine=16777216:=XY;have lg:cY=1000000:=rfl;cases x with
  |int i =>
   cases y with
   |int j =>
    cases eb;exact .inl (.inl ⟨i,j,rv.isInt,ru.isInt,hq _ H' e .int⟩)
   |_=>cases eb
  |lst f a =>
   cases y with
   |lst g b =>
    obtain⟨hc,eb⟩:=ql eb
    ·subst eb;obtain⟨τt,fr,rp⟩:=rv;obtain⟨NC,Iw,Ow⟩:=ru;obtain⟨p,xs,rfl,hn,rs⟩:=rp.qv;cases Ow with
     | @lst _ p2 D8 _ _ Ij AS =>
      refine .inl (.inr ⟨p,p2,xs,D8,rfl,rfl,hn.lst hc.1,Ij.lst hc.2.1,by rw[rs.length,AS.length];left,λp' qp=>?_⟩);have es:aI H' (upd H' p' (.lst (xs++D8))):=aI.upd qp;refine hq _ _ (e.trans es) (b_.wb (e.free qp) (e.trans es) (bh) ?_);rw[aE,List.map_append,<- aE,<- aE];exact(aB.lP nd.nX (n:=0) (m:=0) (rs.f9 Si fr) (AS.f9 Si Iw)).imp (λ_ _ h=>a_.same es h) λ_ _ _ _ h=>nd.same es h
   |_=>cases eb
  |tup a =>
   cases y with
   |tup b =>
    obtain⟨hc,eb⟩:=ql eb;subst eb;obtain⟨τt,fr,rp⟩:=rv;obtain⟨NC,Iw,Ow⟩:=ru;cases rp with
    | @tup _ p xs _ hn rs =>
     cases Ow with
     | @tup _ p2 D8 _ Ij AS =>
      have hl:=rs.length;have Il:=AS.length;refine .inr ⟨p,p2,xs,D8,rfl,rfl,hn,Ij,by rw[hl,Il];left,λz=>?_,λz=>?_,λp' qp=>?_⟩
      ·subst z;cases rs;exact hq _ H' e ⟨λ_=>none,λ_ _ h=>by simp at h,.tup Ij (AS.f9 Si Iw)⟩
      ·subst z;cases AS;refine hq _ H' e ⟨λ_=>none,λ_ _ h=>by simp at h,.tup hn ?_⟩;rw[List.append_nil];exact rs.f9 Si fr
      ·have es:aI H' (upd H' p' (.tup (xs++D8))):=aI.upd qp;refine hq _ _ (e.trans es) ⟨λ_=>none,λ_ _ h=>by simp at h,.tup (a_.of bh) ?_⟩;rw[aE,List.map_append,<- aE,<- aE];exact(aB.lP nd.nX (n:=0) (m:=0) (rs.f9 Si fr) (AS.f9 Si Iw)).imp (λ_ _ h=>a_.same es h) λ_ _ _ _ h=>nd.same es h
   |_=>cases eb
  |_=>cases y<;>cases eb
end
section
variable {T T':mU}{N N':gc}{P:Fl->Bool}
theorem Rep.without(hT:∀p xs,T p xs->T' p xs)(hN:∀k k' p xs f,P f=false->N k p xs f->N' k' p xs f){k:bo}{v:V}{d:D}(h:Rep T N k v d)(e:aW P d=false)(k':bo):Rep T' N' k' v d:=by
 have:=Rep.gen (g:=id) (P:=P) (N':=N') (C:=λ_ _=>True) (I:=λ_ _=>True) hT trivial (λ_ _ e=>e) (λ_ _ _ _ e _=>e) (λk k' p xs f _ e h=>hN k k' p xs f e h) h (k':=k') trivial e;rw[cB]at this;exact this
theorem aB.without(hT:∀p xs,T p xs->T' p xs)(hN:∀k k' p xs f,P f=false->N k p xs f->N' k' p xs f){k:bo}{n:Nat}(h:aB T N k n vs ds)(e:aS P ds=false)(k':bo)(n':Nat):aB T' N' k' n' vs ds:=by
 have:=aB.gen (g:=id) (P:=P) (N':=N') (C:=λ_ _=>True) (I:=λ_ _=>True) hT trivial (λ_ _ e=>e) (λ_ _ _ _ e _=>e) (λk k' p xs f _ e h=>hN k k' p xs f e h) h (k':=k') (n':=n') trivial trivial e;rw[dZ]at this;exact this
theorem Rep.jw(hT:∀p xs,T p xs->T' p xs)(hN:∀k p xs f,P f=false->N k p xs f->N' k p xs f){k:bo}{v:V}{d:D}(h:Rep T N k v d)(e:aW P d=false):Rep T' N' k v d:=by
 have:=Rep.gen (g:=id) (P:=P) (N':=N') (C:=λa b=>a=b) (I:=λa b=>a=b) hT rfl (λ_ _ e=>by rw[e]) (λ_ _ _ _ a b=>by rw[a,b]) (λk k' p xs f c e h=>by subst c;exact hN k p xs f e h) h rfl e;rw[cB]at this;exact this
theorem aB.jw(hT:∀p xs,T p xs->T' p xs)(hN:∀k p xs f,P f=false->N k p xs f->N' k p xs f){k:bo}{n:Nat}(h:aB T N k n vs ds)(e:aS P ds=false):aB T' N' k n vs ds:=by
 have:=aB.gen (g:=id) (P:=P) (N':=N') (C:=λa b=>a=b) (I:=λa b=>a=b) hT rfl (λ_ _ e=>by rw[e]) (λ_ _ _ _ a b=>by rw[a,b]) (λk k' p xs f c e h=>by subst c;exact hN k p xs f e h) h rfl rfl e;rw[dZ]at this;exact this
end
theorem Rep.ko{k:bo}{v:V}{d:D}(h:Rep (a_ K H) (nd K R (λ_=>False) (λ_=>none) H) k v d):Rep (a_ K H) (nd K R (λ_=>False) (λ_=>none) H) k' v d:=by
 have:=Rep.iL (g:=id) (λ_ _ h=>h) nd.nX h k';rw[cB]at this;exact this
def gO(X:Cx)(R:ag)(τ:Addr->Option bo)(H:Hp)(v:V)(d:D):Prop :=
 ∃τt:Addr->Option bo,(∀p q,τt p=some q->τ p=none/\¬ R p/\X.H₀ p=none/\H p≠none)/\Rep (a_ X.K H) (nd X.K R (λ_=>False) τt H) [] v d
section
variable {X:Cx}{F R:ag}{τ:Addr->Option bo}{ρ:aU}{σ:St}{H H':Hp}
noncomputable def sD(i:Nat)(τt τ:Addr->Option bo):Addr->Option bo:=λp=>match τt p with|some q=>some (q++[i])|none=>τ p
theorem SI.Jz{i:Nat}{v:V}{d:D}(Si:SI X F R τ ρ σ H)(ht:∀p q,τt p=some q->τ p=none/\¬ R p/\X.H₀ p=none/\H p≠none)(rp:Rep (a_ X.K H) (nd X.K R (λ_=>False) τt H) [] v d)(hi:i<ρ.length):SI X F R (sD i τt τ) (ρ.set i (some d)) (σ.set i (some v)) H:=by
 refine⟨by simp[Si.len],λj d' hj=>?_,λp hp=>?_,Si.rh,Si.rf,λp q hq=>?_,λp q hq=>?_,Si.same⟩
 ·by_cases m5:j=i
  ·subst m5;rw[List.getElem?_set_self hi]at hj;cases hj;refine⟨v,List.getElem?_set_self (by rw[<- Si.len];exact hi),rp.imp (q':=[j]) (λ_ _ h=>h) λc p xs f h=>?_⟩;cases f with
   |ow=>rw[List.append_nil]at h;exact⟨h.1,by simp only[sD,h.2]⟩
   |fz=>exact h
   |al=>exact h
   |sc=>exact h
  ·rw[List.getElem?_set_ne (Ne.symm m5)]at hj;obtain⟨w,hw,k7⟩:=Si.rep j d' hj;refine⟨w,by rw[List.getElem?_set_ne (Ne.symm m5)];exact hw,k7.imp (λ_ _ h=>h) λc p xs f h=>?_⟩;cases f with
   |ow =>
    refine⟨h.1,?_⟩;cases q:τt p with
    |none=>simp only[sD,q];exact h.2
    |some k=>have:=(ht p k q).1;rw[h.2]at this;cases this
   |fz=>exact h
   |al=>exact h
   |sc=>exact h
 ·cases q:τt p with
  |none=>simp only[sD,q];exact Si.rt p hp
  |some k=>exact absurd hp (ht p k q).2.1
 ·cases z:τt p with
  |none=>simp only[sD,z]at hq;exact Si.th p q hq
  |some k=>exact(ht p k z).2.2.2
 ·cases z:τt p with
  |none=>simp only[sD,z]at hq;exact Si.t0 p q hq
  |some k=>exact(ht p k z).2.2.1
theorem SI.set{i:Nat}{v:V}{d:D}(Si:SI X F R τ ρ σ H)(r:gO X R τ H v d)(hi:i<ρ.length):∃τ',SI X F R τ' (ρ.set i (some d)) (σ.set i (some v)) H:=by
 obtain⟨τt,ht,rp⟩:=r;exact⟨_,Si.Jz ht rp hi⟩
theorem wB{k:bo}{v:V}{d:D}(h:Rep (a_ X.K H) (nd X.K R (λ_=>False) τ H) k v d)(ho:aW eA d=false):gO X R τ H v d :=
 ⟨λ_=>none,λ_ _ h=>by simp at h,Rep.without (P:=eA) (λ_ _ h=>h) (λk k' p xs f hf h=>by
  cases f with
  |ow=>cases hf
  |fz=>exact h
  |al=>exact h.2.elim
  |sc=>exact h) h ho _⟩
open Classical in
theorem SI.move{i:Nat}{d:D}(Si:SI X F R τ ρ σ H)(hd:ρ[i]?=some (some d)):∃v τ',σ[i]?=some (some v)/\SI X F R τ' (ρ.set i none) σ H/\gO X R τ' H v d:=by
 obtain⟨v,hv,rp⟩:=Si.rep i d hd;refine⟨v,λp=>match τ p with|some q=>if q.getLast?=some i then none else some q|none=>none,hv,⟨by simp[Si.len],λj d' hj=>?_,λp hp=>?_,Si.rh,Si.rf,λp q hq=>?_,λp q hq=>?_,Si.same⟩,
  λp=>match τ p with|some q=>if q.getLast?=some i then(if H p=none then none else some q.dropLast)else none|none=>none,λp q hq=>?_,rp.imp (q:=[i]) (q':=[]) (λ_ _ h=>h) λc p xs f h=>?_⟩
 ·by_cases m5:j=i
  ·subst m5;rw[List.getElem?_set]at hj;simp at hj
  ·rw[List.getElem?_set_ne (Ne.symm m5)]at hj;obtain⟨w,hw,k7⟩:=Si.rep j d' hj;refine⟨w,hw,k7.imp (q:=[j]) (q':=[j]) (λ_ _ h=>h) λc p xs f h=>?_⟩;cases f with
   |ow =>
    refine⟨h.1,?_⟩;simp only[h.2];rw[if_neg (by simp;exact m5)]
   |fz=>exact h
   |al=>exact h
   |sc=>exact h
 ·simp only[Si.rt p hp]
 ·cases z:τ p with
  |none=>simp only[z]at hq;cases hq
  |some k=>exact Si.th p k z
 ·cases z:τ p with
  |none=>simp only[z]at hq;cases hq
  |some k=>exact Si.t0 p k z
 ·cases z:τ p with
  |none=>simp only[z]at hq;cases hq
  |some k =>
   simp only[z]at hq ⊢;by_cases hl:k.getLast?=some i
   ·rw[if_pos hl];exact⟨rfl,(λhR=>by have:=Si.rt p hR;rw[z]at this;cases this),Si.t0 p k z,Si.th p k z⟩
   ·rw[if_neg hl]at hq;cases hq
 ·cases f with
  |ow =>
   refine⟨h.1,?_⟩;have hn:H p≠none:=h.1.ne;simp only[h.2];rw[if_pos (by simp),if_neg hn];simp
  |fz=>exact h
  |al=>exact h.2.elim
  |sc=>exact h
theorem vf(is:aR)(ρ:aU)(j:Nat)(d:D)(h:(iE is ρ)[j]?=some (some d)):∃d',ρ[j]?=some (some d')/\d=(if j∈is then af aA d' else d'):=by
 unfold iE at h;rw[List.getElem?_mapIdx]at h;cases q:ρ[j]? with
 |none=>rw[q]at h;exact nk h
 |some o =>
  rw[q]at h;cases o with
  |none=>simp at h
  |some d' =>
   refine⟨d',rfl,?_⟩;by_cases hj:j∈is
   ·simp[hj]at h ⊢;exact h.symm
   ·simp[hj]at h ⊢;exact h.symm
open Classical in
theorem vg(Si:SI X F R τ ρ σ H)(es:aI H H'):
  ∃R' τ',(∀p,R p->R' p)/\SI X F R' τ' (iE fv ρ) σ H'/\∀τt:Addr->Option bo,(∀p q,τt p=some q->H p=none)->∀(k k':bo) (p:Addr) (xs:Nd) (f:Fl),nd X.K R (jm (gP X F) τ fv) τt H' k p xs f->nd X.K R' (λ_=>False) (λ_=>none) H' k' p xs (aA f):=by
 have d8:=Si.go es;have fresh:∀p,H p=none->jm (gP X F) τ fv p:=λp hp=>⟨.inr (Si.same.free hp),λc i e=>absurd hp (Si.th p _ e)⟩
 refine⟨λp=>R p\/(H' p≠none/\jm (gP X F) τ fv p),λp=>if jm (gP X F) τ fv p then none else τ p,λp h=>.inl h,⟨by simp[iE,Si.len],λj d' hj=>?_,λp hp=>?_,λp hp=>?_,λp hp=>?_,λp q hq=>?_,λp q hq=>?_,d8.same⟩,λτt fr k k' p xs f h=>?_⟩
 ·obtain⟨d0,h0,e0⟩:=vf _ _ _ _ hj;obtain⟨w,hw,k7⟩:=d8.rep j d0 h0;refine⟨w,hw,?_⟩;by_cases MT:j∈fv
  ·rw[if_pos MT]at e0;subst e0;refine Rep.map (q:=[j]) (q':=[j]) (λ_ _ h=>h) (λc p xs f h=>?_) k7 [] rfl;cases f with
   |ow =>
    refine⟨h.1,.inr ⟨h.1.ne,.inr (Si.t0 p _ h.2),λc' i' e'=>?_⟩⟩;rw[h.2]at e';have:=XI List.getLast? (Xp e');simp at this;subst this;exact MT
   |fz=>exact⟨h.1,.inl h.2⟩
   |al=>exact h.2.elim
   |sc=>exact h
  ·rw[if_neg MT]at e0;subst e0;refine k7.imp (q:=[j]) (q':=[j]) (λ_ _ h=>h) λc p xs f h=>?_;cases f with
   |ow =>
    refine⟨h.1,?_⟩;show(if jm (gP X F) τ fv p then none else τ p)=some (c++[j]);rw[if_neg (λz=>MT (z.2 c j h.2))];exact h.2
   |fz=>exact⟨h.1,.inl h.2⟩
   |al=>exact h.2.elim
   |sc=>exact h
 ·rcases hp with hp|hp
  ·simp only[Si.rt p hp];split<;>rfl
  ·rw[if_pos hp.2]
 ·rcases hp with hp|hp
  ·exact d8.rh p hp
  ·exact hp.1
 ·rcases hp with hp|hp
  ·exact Si.rf p hp
  ·exact hp.2.1
 ·split at hq
  ·cases hq
  ·exact d8.th p q hq
 ·split at hq
  ·cases hq
  ·exact Si.t0 p q hq
 ·cases f with
  |ow=>exact⟨h.1,.inr ⟨h.1.ne,fresh p (fr p _ h.2)⟩⟩
  |fz=>exact⟨h.1,.inl h.2⟩
  |al=>exact⟨h.1,.inr ⟨h.1.ne,h.2⟩⟩
  |sc=>exact h
theorem pN{v:V}{d:D}(Si:SI X F R τ ρ σ H)(es:aI H H')(r:b_ X.K (gP X F) R τ fv H H' v d):
  ∃R' τ',(∀p,R p->R' p)/\SI X F R' τ' (iE fv ρ) σ H'/\Rep (a_ X.K H') (nd X.K R' (λ_=>False) (λ_=>none) H') [] v (af aA d):=by
 obtain⟨τt,fr,rp⟩:=r;obtain⟨R',τ',h1,h2,h3⟩:=vg (fv:=fv) Si es;exact⟨R',τ',h1,h2,Rep.iL (λ_ _ h=>h) (h3 τt fr) rp _⟩
theorem rD(Si:SI X F R τ ρ σ H)(es:aI H H')(r:cm X.K (gP X F) R τ fv H H' vs ds):
  ∃R' τ',(∀p,R p->R' p)/\SI X F R' τ' (iE fv ρ) σ H'/\aB (a_ X.K H') (nd X.K R' (λ_=>False) (λ_=>none) H') [] 0 vs (aw aA ds):=by
 obtain⟨τt,fr,rp⟩:=r;obtain⟨R',τ',h1,h2,h3⟩:=vg (fv:=fv) Si es;exact⟨R',τ',h1,h2,aB.iL (λ_ _ h=>h) (h3 τt fr) rp _ _⟩
theorem jF{v:V}{d:D}(h:Rep (a_ X.K H) (nd X.K R (λ_=>False) (λ_=>none) H) [] v d):gO X R τ' H v d:=⟨λ_=>none,λ_ _ h=>by simp at h,h⟩
open Classical in
theorem DA{e:CE}{v:V}{d:D}(Si:SI X F R τ ρ σ H)(es:aI H H')(r:b_ X.K (gP X F) R τ (gb e) H H' v d):
  ∃R' τ',(∀p,R p->R' p)/\SI X F R' τ' (keep e d ρ).2 σ H'/\gO X R' τ' H' v (keep e d ρ).1:=by
 unfold keep;by_cases ha:aW bG d=true
 ·rw[if_pos ha];obtain⟨R',τ',h1,h2,h3⟩:=pN Si es r;exact⟨R',τ',h1,h2,jF h3⟩
 ·obtain⟨τt,fr,rp⟩:=r;rw[if_neg ha];refine⟨R,τ,λ_ h=>h,Si.go es,λp=>if H' p=none then none else τt p,λp q hq=>?_,?_⟩
  ·dsimp only at hq;split at hq
   ·cases hq
   ·rename_i hn;have hf:=fr p q hq;refine⟨?_,λhR=>Si.rh p hR hf,Si.same.free hf,hn⟩;cases z:τ p with
    |none=>rfl
    |some k=>exact absurd hf (Si.th p k z)
  ·have Gv:aW bG d=false:=by simpa using ha
   have st:∀{k:bo} {v:V} {d:D},Rep (a_ X.K H') (nd X.K R (jm (gP X F) τ (gb e)) τt H') k v d->aW bG d=false->Rep (a_ X.K H') (nd X.K R (λ_=>False) (λp=>if H' p=none then none else τt p) H') k v d:=by
    intro k v d h ha;exact Rep.jw (P:=bG) (λ_ _ h=>h) (λk p xs f hf h=>by
     cases f with
     |ow=>exact⟨h.1,by show(if H' p=none then none else τt p)=_;rw[if_neg (h.1.ne)];exact h.2⟩
     |fz=>exact h
     |al=>cases hf
     |sc=>exact h) h ha
   exact st rp Gv
open Classical in
def tK(X:Cx)(F:ag)(Φ:aV)(c:CE):TE:=λσ H Q=>∃R τ ρ r,SI X F R τ ρ σ H/\eY Φ c ρ=ok r/\∀v H' R' τ',aI H H'->(∀p,R p->R' p)->SI X F R' τ' r.2 σ H'->gO X R' τ' H' v r.1->Q v H'
end
theorem ji{env:Env}:∀(names:List (Str×NameKind)) (acc:List (Str×Addr)),(∀x,(x,NameKind.free)∈names->∃c,env.cells.lookup x=some c) ->
  ∃cl,(forIn names acc (λ(y:Str×NameKind) (cs:List (Str×Addr))=>do
    let (name,kind):=y
    let mut cs:=cs
    if kind==.free then cs:=(name,<- cellOf env name)::cs
    pure (ForInStep.yield cs)):Sem (List (Str×Addr)))=pure cl /\
   (∀x c,cl.lookup x=some c->acc.lookup x=some c\/(env.cells.lookup x=some c/\(x,NameKind.free)∈names))/\(∀x,((x,NameKind.free)∈names\/(∃c,acc.lookup x=some c))->∃c,cl.lookup x=some c)
 |[],acc,_=>⟨acc,rfl,λx c h=>.inl h,λx h=>h.elim (λh=>nomatch h) id⟩
 | (n,kd)::names,acc,h=>by
  by_cases hk:kd=.free
  ·subst hk;obtain⟨c,hc⟩:=h n Xn;obtain⟨cl,e,h1,h2⟩:=ji names ((n,c)::acc) (λx hx=>h x (Xm _ hx));refine⟨cl,?_,λx c' hx=>?_,λx hx=>?_⟩
   ·rw[List.forIn_cons];have e0:cellOf env n=pure c:=by unfold cellOf;rw[hc]
    simp only[beq_self_eq_true,if_true,e0,pure_bind];exact e
   ·rcases h1 x c' hx with z|z
    ·by_cases KA:x=n
     ·subst KA;simp at z;subst z;exact .inr ⟨hc,Xn⟩
     ·rw[List.lookup_cons]at z;have:(x==n)=false:=by simpa using KA
      rw[this]at z;exact .inl z
    ·exact .inr ⟨z.1,Xm _ z.2⟩
   ·refine h2 x ?_;rcases hx with hx|⟨c',hx⟩
    ·rcases List.mem_cons.mp hx with z|z
     ·cases z;exact .inr ⟨c,by simp⟩
     ·exact .inl z
    ·by_cases KA:x=n
     ·subst KA;exact .inr ⟨c,by simp⟩
     ·refine .inr ⟨c',?_⟩;rw[List.lookup_cons];have:(x==n)=false:=by simpa using KA
      rw[this];exact hx
  ·obtain⟨cl,e,h1,h2⟩:=ji names acc (λx hx=>h x (Xm _ hx));have hb:(kd==NameKind.free)=false:=by simpa using hk
   refine⟨cl,?_,λx c' hx=>(h1 x c' hx).imp id λz=>⟨z.1,Xm _ z.2⟩,λx hx=>h2 x ?_⟩
   ·rw[List.forIn_cons];simp only[hb,Bool.false_eq_true,if_false,pure_bind];exact e
   ·rcases hx with hx|hx
    ·rcases List.mem_cons.mp hx with z|z
     ·cases z;exact absurd rfl hk
     ·exact .inl z
    ·exact .inr hx
variable {env:Env}
theorem tY{sc:Scope}(h:∀x,(x,NameKind.free)∈sc.names->∃c,env.cells.lookup x=some c):
  ∃cl,closureFor sc env=pure cl/\(∀x c,cl.lookup x=some c->env.cells.lookup x=some c)/\(∀x,(x,NameKind.free)∈sc.names->∃c,cl.lookup x=some c):=by
 obtain⟨cl,e,h1,h2⟩:=ji (env:=env) sc.names [] h;refine⟨cl,?_,λx c hx=>(h1 x c hx).elim (λz=>by simp at z) (·.1),λx hx=>h2 x (.inl hx)⟩;unfold closureFor;simp only[bind_pure];exact e
variable {P prog:aJ}{iM iter target tg:Expr}{w:World}
theorem pV{A:aQ}{R:Result->Shared->Prop}{s:Shared}{elt:Expr}{ifs:au}{scope:Scope}{it acc:Value}(I:Nat->Shared->Prop)
  (turn:∀n s,I n s->wpAny (model prog w) A (pyNext it) (λr s₁=>match r with
   |none=>R (.ok .next) s₁
   |some v=>wpAny (model prog w) A (letOwnedTupleGo target it v) (λ_ s₁=>wpAny (model prog w) A (assign target env v) (λ_ s₂ =>
     wpAny (model prog w) A (forIn ifs true λc r=>if r=true then do let ok <- isTrue c env (eval c env);pure (ForInStep.yield ok)else pure (ForInStep.yield r)) (λok s₃ =>
      if ok=true then wpAny (model prog w) A (eval elt env) (λx s₄ =>
       wpAny (model prog w) A (call (.builtin "list.append") [acc,x]) (λ_ s₅=>∃m,m<n/\I m s₅) (λ_ _=>False) s₄) (λ_ _=>False) s₃
      else ∃m,m<n/\I m s₃) (λ_ _=>False) s₂) (λ_ _=>False) s₁) (λ_ _=>False) s₁) (λ_ _=>False) s)
  (n:Nat) (h:I n s) :
  codeAny (model prog w) A (.compLoop (.ListComp elt [⟨target,iter,ifs,0⟩] scope pos) 0 it acc env) R s:=by
 refine codeAny_loop rfl I (λn s hI=>?_) n h;show wpAny _ A ((compTurn (.ListComp elt [⟨target,iter,ifs,0⟩] scope pos) 0 it acc env).onRaise (λx=>do noteFrame x env;theTreesLotGoes x)) _ _ s;refine wpAny_noted ?_;rw[compTurn_list];refine Xf (YE (Xf (Xs (turn n s hI) (λr s₁ h₁=>?_) λ_ _ h'=>h'.elim)));cases r with
 |none=>exact Xh h₁
 |some v =>
  refine Xf (Xs h₁ (λ_ s₂ h₂=>?_) λ_ _ h'=>h'.elim);refine Xf (Xs h₂ (λ_ s₂ h₂=>Xf (Xs h₂ (λok s₃ h₃=>?_) λ_ _ h'=>h'.elim)) λ_ _ h'=>h'.elim);cases ok with
  |false=>exact Xh ⟨rfl,h₃⟩
  |true =>
   exact Xf (Xf (Xs h₃ (λx s₄ h₄=>Xf (Xs h₄ (λ_ s₅ h₅=>Xh (Xh ⟨rfl,h₅⟩)) λ_ _ h'=>h'.elim)) λ_ _ h'=>h'.elim))
noncomputable def dR(X:Cx)(N':av)(scope:Scope)(cl:List (Str×Addr))(C:Addr)(s₀:Shared)(H₀:Hp)(fp:bt):Cx :=
 { X with N:=N',s₀:=s₀,H₀:=H₀,env:=compEnvC scope cl C X.env,outer:=X.stack,stack:=X.stack,ex:=fp,fn:=λ_=>false,pn:=[],xe:=λ_ _=>False }
theorem eO{env:Env}:∀{names:List (Str×NameKind)} {x:Str} {kd:NameKind},(names.map λ(n,k)=>if (k==NameKind.free&&env.scope.kind==.function&&env.kindOf n==some .cell)then(n,NameKind.cell)else(n,k)).lookup x=some kd ->
  names.lookup x=some kd\/(kd=.cell/\names.lookup x=some .free)
 |[],_,_,h=>by simp at h
 | (n,k)::r,x,kd,h=>by
  rw[List.map_cons]at h;cases hx:x==n with
  |true =>
   by_cases hc:(k==NameKind.free&&env.scope.kind==.function&&env.kindOf n==some .cell)=true
   ·simp only[hc,if_true,List.lookup_cons,hx]at h;cases h;simp only[Bool.and_eq_true,beq_iff_eq]at hc;refine .inr ⟨rfl,?_⟩;rw[List.lookup_cons,hx,hc.1.1]
   ·have Ag:(k==NameKind.free&&env.scope.kind==.function&&env.kindOf n==some .cell)=false:=by simpa using hc
    simp only[Ag,Bool.false_eq_true,if_false,List.lookup_cons,hx]at h;cases h;exact .inl (by rw[List.lookup_cons,hx])
  |false =>
   have:List.lookup x (r.map λ(n,k)=>if (k==NameKind.free&&env.scope.kind==.function&&env.kindOf n==some .cell)then(n,NameKind.cell)else(n,k))=some kd:=by
    by_cases hc:(k==NameKind.free&&env.scope.kind==.function&&env.kindOf n==some .cell)=true
    ·simp only[hc,if_true,List.lookup_cons,hx]at h;exact h
    ·have Ag:(k==NameKind.free&&env.scope.kind==.function&&env.kindOf n==some .cell)=false:=by simpa using hc
     simp only[Ag,Bool.false_eq_true,if_false,List.lookup_cons,hx]at h;exact h
   rw[List.lookup_cons,hx];exact eO this
theorem cV{env:Env}:∀{names:List (Str×NameKind)} {x:Str},names.lookup x=some .free ->
  (names.map λ(n,k)=>if (k==NameKind.free&&env.scope.kind==.function&&env.kindOf n==some .cell)then(n,NameKind.cell)else(n,k)).lookup x=some .free \/
  (names.map λ(n,k)=>if (k==NameKind.free&&env.scope.kind==.function&&env.kindOf n==some .cell)then(n,NameKind.cell)else(n,k)).lookup x=some .cell
 |[],_,h=>by simp at h
 | (n,k)::r,x,h=>by
  rw[List.map_cons];cases hx:x==n with
  |true =>
   rw[List.lookup_cons,hx]at h;cases h;by_cases hc:(NameKind.free==NameKind.free&&env.scope.kind==.function&&env.kindOf n==some .cell)=true
   ·simp only[hc,if_true,List.lookup_cons,hx];exact .inr trivial
   ·have Ag:(NameKind.free==NameKind.free&&env.scope.kind==.function&&env.kindOf n==some .cell)=false:=by simpa using hc
    simp only[Ag,Bool.false_eq_true,if_false,List.lookup_cons,hx];exact .inl trivial
  |false =>
   rw[List.lookup_cons,hx]at h;by_cases hc:(k==NameKind.free&&env.scope.kind==.function&&env.kindOf n==some .cell)=true
   ·simp only[hc,if_true,List.lookup_cons,hx];exact cV h
   ·have Ag:(k==NameKind.free&&env.scope.kind==.function&&env.kindOf n==some .cell)=false:=by simpa using hc
    simp only[Ag,Bool.false_eq_true,if_false,List.lookup_cons,hx];exact cV h
theorem dg{names:List (Str×NameKind)}{x:Str}{kd:NameKind}(h:names.lookup x=some kd):(x,kd)∈names:=XH h
structure js(S:Sx)(n:Nat)(t:Tg)(caps:aR)(target:Expr)(sc:Scope):Prop where
 kind:sc.kind=.function
 yG:∀y∈sc.names,y.2≠.cell
 loc:∀y∈sc.names,y.2=.local->sc.names.lookup y.1=some .local
 free:∀x,(x,NameKind.free)∈sc.names->S.sc.names.lookup x=some .cell\/S.sc.names.lookup x=some .free
 n:n=(bV target).length
 tl:∀x∈bV target,sc.names.lookup x=some .local
 nd:(bV target++fD S caps).Nodup
 cY:∀i∈caps,∃x,S.N[i]?=some x/\sc.names.lookup x=some .free
 tg:(∃x p,t=.nm 0/\target=.Name x p)\/(∃es k p,t=.tp (List.range es.length)/\target=.Tuple es k p/\es.all isNm=true)
theorem n_{n:Nat}{t:Tg}{sc:Scope}(h:pY S n t caps target sc=true):js S n t caps target sc:=by
 unfold pY at h;simp only[Bool.and_eq_true,decide_eq_true_eq,List.all_eq_true,Bool.or_eq_true]at h;obtain⟨⟨⟨⟨⟨⟨h1,h2⟩,h3⟩,h4⟩,h5⟩,h6⟩,h7⟩:=h;refine⟨h1,λy hy=>(h2 y hy).1.1,λy hy hk=>?_,λx hx=>?_,h3,h4,h5,λi hi=>?_,?_⟩
 ·rcases(h2 y hy).1.2 with z|z
  ·exact absurd hk z
  ·exact z
 ·rcases(h2 _ hx).2 with (z|z)|z
  ·exact absurd rfl z
  ·exact .inl z
  ·exact .inr z
 ·have:=h6 i hi;split at this
  ·rename_i x e;exact⟨x,e,Xd this⟩
  ·cases this
 ·cases t with
  |nm i =>
   obtain⟨g1,g2⟩:=az h7;obtain rfl:i=0:=Xd g1;obtain⟨x,p,rfl⟩:=pE g2;exact .inl ⟨x,p,rfl,rfl⟩
  |tp is =>
   obtain⟨es,hv,g⟩:=bc h7;obtain⟨k,p,rfl⟩:=jy hv;obtain⟨g1,g2⟩:=az g;obtain rfl:is=_:=Xd g1;exact .inr ⟨es,k,p,rfl,rfl,g2⟩
theorem rX{S:Sx}:∀{caps:aR},(∀i∈caps,∃x,S.N[i]?=some x)->(fD S caps).length=caps.length/\∀(j i:Nat),caps[j]?=some i->(fD S caps)[j]?=S.N[i]?
 |[],_=>⟨rfl,λj i h=>by simp at h⟩
 |i::caps,h=>by
  obtain⟨x,hx⟩:=h i Xn;obtain⟨h1,h2⟩:=rX (caps:=caps) λj hj=>h j (Xm _ hj);have e:fD S (i::caps)=x::fD S caps:=by unfold fD;rw[List.filterMap_cons,hx]
  rw[e];refine⟨by simp[h1],λj k hj=>?_⟩;cases j with
  |zero=>simp at hj;subst hj;simp[hx]
  |succ j=>simp at hj ⊢;exact h2 j k hj
section
variable {X:Cx}{S:Sx}{k:Nat}{Φ:aV}{pins:aj}{σ:St}{H2:Hp}{s₂:Shared}
noncomputable def nj(n:Nat)(caps:aR)(σ:St):St:=List.replicate n none++caps.map λi=>σ[i]?.getD none
noncomputable def d_(aN:aq)(n:Nat):Obj:={ cls:=.type "list",data:=.seq aN.toArray n }
theorem Ck{n:Nat}{t:Tg}{sc:Scope}{cl:List (Str×Addr)}(L:Lk X S k Φ)(co:js S n t caps target sc)(I2:Inv X pins σ H2 s₂)
  (lb:∀x c,cl.lookup x=some c->X.env.cells.lookup x=some c) (tI:∀x,(x,NameKind.free)∈sc.names->∃c,cl.lookup x=some c) (BQ:∀b∈fp,mX X pins H2 b) (Gk:∀b∈fp,b<s₂.heap.objs.size) :
  (dR X (bV target++fD S caps) sc cl (s₂.heap.objs.size+1) s₂ H2 fp).Ok:=by
 have PL:=I2.iW;refine⟨I2.ok.mod,co.kind,I2.ok.glob,I2.ok.blt,Yz _,λx y c h1 h2=>I2.ok.inj x y c (lb x c h1) (lb y c h2),λx hx=>?_,(λ_ _ z=>by cases z),I2.ok.hd,I2.ok.frames,.inl rfl,λb hb=>⟨?_,λx c e=>(BQ b hb).2.2.2.2.1 x c (lb x c e)⟩,I2.bs,Xz I2.ok.zS I2.sz,λb o e hb=>?_,λb hb z=>?_,I2.stack,I2.jC⟩
 ·have Ga:(relabel sc X.env).names.lookup x=some .cell\/(relabel sc X.env).names.lookup x=some .free:=hx;rcases Ga with Ga|Ga
  ·rcases eO Ga with z|z
   ·exact absurd rfl (co.yG _ (dg z))
   ·exact tI x (dg z.2)
  ·rcases eO Ga with z|z
   ·exact tI x (dg z)
   ·cases z.1
 ·exact Xo (Xw (Gk b hb))
 ·rcases(BQ b hb).2.2.2.1 with z|z
  ·exact I2.ok.qX b o e z
  ·exact absurd (Xl (Xg e) (Xz I2.ok.zS z)) (Xx _)
 ·rcases List.mem_cons.mp (PL b z)with w|w
  ·exact(BQ b hb).2.1 w
  ·exact(BQ b hb).2.2.1 w
theorem y6{n:Nat}{t:Tg}{sc:Scope}{cl:List (Str×Addr)}{h₁:Heap}{tk:Nat}(L:Lk X S k Φ)(co:js S n t caps target sc)(I2:Inv X pins σ H2 s₂)
  (lb:∀x c,cl.lookup x=some c->X.env.cells.lookup x=some c) (tI:∀x,(x,NameKind.free)∈sc.names->∃c,cl.lookup x=some c) (BQ:∀b∈fp,mX X pins H2 b) (Gk:∀b∈fp,b<s₂.heap.objs.size)
  (xf:h₁.Ns (s₂.heap.objs.size+1) λ_=>none) (old:∀b o,s₂.heap.get? b=some o->h₁.get? b=some o) (Gu:h₁.get? s₂.heap.objs.size=some (d_ [] 0)) :
  Inv (dR X (bV target++fD S caps) sc cl (s₂.heap.objs.size+1) s₂ H2 fp) [(s₂.heap.objs.size,d_ [] 0)] (nj n caps σ) H2 { s₂ with heap:=h₁,toks:=tk }:=by
 have lg:∀i∈caps,∃x,S.N[i]?=some x:=λi hi=>let ⟨x,e,_⟩:=co.cY i hi;⟨x,e⟩;obtain⟨Wi,Wh⟩:=rX lg;refine⟨Ck L co I2 lb tI BQ Gk,rfl,I2.bare,Un.kept old,⟨_,xf,λi x v e1 e2 e3=>?_⟩,λx c e=>?_,I2.cn.fresh (Yz _),λx c e=>I2.eR x c (lb x c e),λp hp=>?_,I2.cn.kept old,?_⟩
 ·unfold nj at e2;have hi:n<=i:=by
   by_cases hi:i<n
   ·rw[List.getElem?_append_left (by simpa using hi),List.getElem?_replicate,if_pos hi]at e2;cases e2
   ·left
  have Na:(bV target++fD S caps)[i]?=some x:=e1;rw[List.getElem?_append_right (by rw[<- co.n];exact hi),<- co.n]at Na;rw[List.getElem?_append_right (by simpa using hi),List.length_replicate,List.getElem?_map]at e2;cases hc:caps[i - n]? with
  |none=>rw[hc]at e2;cases e2
  |some ci =>
   rw[hc]at e2;rw[Wh _ _ hc]at Na;obtain⟨x',QS,Im⟩:=co.cY ci (Xt hc);rw[QS]at Na;cases Na;have Wb:σ[ci]?=some (some v):=by
    have LG:σ[ci]?.getD none=some v:=Xp e2;cases q:σ[ci]? with
    |none=>rw[q]at LG;cases LG
    |some o=>rw[q]at LG;simp at LG;rw[LG]
   have U4:D2 X.env.scope x:=by
    unfold D2;rw[L.sc];rcases co.free x (dg Im)with z|z
    ·exact .inr (.inl z)
    ·exact .inr (.inr z)
   obtain⟨m,hn,hl⟩:=I2.loc;obtain⟨u,r,lk⟩:=hl ci x v (by rw[L.N];exact QS) Wb U4;refine⟨u,r,.inr ⟨?_,?_⟩⟩
   ·rcases cV (env:=X.env) Im with z|z
    ·exact .inr z
    ·exact .inl z
   ·have VB:∃c,X.env.cells.lookup x=some c/\s₂.heap.IsCell c (some u):=by
     rcases lk with ⟨z,_⟩|⟨_,z⟩
     ·have z':X.env.scope.names.lookup x=some .local:=z;rw[L.sc]at z';rcases co.free x (dg Im)with w|w<;>(rw[w]at z';cases z')
     ·exact z
    obtain⟨c,ec,o,ho,hd⟩:=VB;obtain⟨c',Tj⟩:=tI x (dg Im);have:=lb x c' Tj;rw[ec]at this;cases this;exact⟨c,Tj,o,old _ _ ho,hd⟩
 ·obtain⟨v,o,ho,hd⟩:=I2.cell x c (lb x c e);exact⟨v,o,old _ _ ho,hd⟩
 ·have qp:p=(s₂.heap.objs.size,d_ [] 0):=by simpa [dR]using hp
  subst qp;refine⟨Gu,I2.cn.fresh (Xj _),Xo (XJ _),λz=>?_,λv z=>by cases z⟩;rcases List.mem_cons.mp (I2.iW _ z)with w|w
  ·exact absurd w (X5 I2.lt)
  ·exact I2.Fy (Xj _) w
 ·show(nj n caps σ).length=(bV target++fD S caps).length;unfold nj;rw[List.length_append,List.length_append,List.length_replicate,List.length_map,Wi,co.n]
end
theorem aB.snoc{T:mU}{N:gc}{k:bo}:∀{n:Nat} {vs:ae} {ds:aa} {v:V} {d:D},aB T N k n vs ds->Rep T N ((n+ds.length)::k) v d->aB T N k n (vs++[v]) (ds++[d])
 |n,_,_,_,_,.nil,h=>.cons h .nil
 |n,_,_,_,_,.cons (ds:=ds) h t,r=>.cons h (aB.snoc t (by
  have e:n+(ds.length+1)=n+1+ds.length:=by left
  rw[List.length_cons,e]at r;exact r))
open Classical in
theorem cm.snoc{K:ak}{G R:ag}{τ:Addr->Option bo}{fv:aR}{H H1 H2:Hp}{v:V}{d:D}{vs:ae}{ds:aa}(e1:aI H H1)(e2:aI H1 H2)(h:cm K G R τ fv H H1 vs ds)(t:b_ K G R τ fv H1 H2 v d):
  cm K G R τ fv H H2 (vs++[v]) (ds++[d]):=by
 obtain⟨τ1,f1,h1⟩:=h;obtain⟨τ2,f2,h2⟩:=t;refine⟨λp=>if H1 p=none then(τ2 p).map (· ++ [ds.length])else τ1 p,λp q hq=>?_,aB.snoc (h1.imp (q:=[]) (q':=[]) (λ_ _ h=>a_.same e2 h) λc p xs f h=>?_) ((Nat.zero_add ds.length).symm▸h2.imp (q:=[]) (q':=[ds.length]) (λ_ _ h=>h) λc p xs f h=>?_)⟩
 ·dsimp only at hq;by_cases hp:H1 p=none
  ·exact e1.free hp
  ·rw[if_neg hp]at hq;exact f1 p q hq
 ·have h':=nd.same e2 h;cases f with
  |ow =>
   refine⟨h'.1,?_⟩;show(if H1 p=none then(τ2 p).map (· ++ [ds.length])else τ1 p)=_;rw[if_neg (h.1.ne)];exact h.2
  |fz=>exact h'
  |al=>exact h'
  |sc=>exact h'
 ·cases f with
  |ow =>
   refine⟨h.1,?_⟩;show(if H1 p=none then(τ2 p).map (· ++ [ds.length])else τ1 p)=_;rw[if_pos (f2 p _ h.2),h.2];simp
  |fz=>exact h
  |al=>exact h
  |sc=>exact h
structure Yl(K:ak)(J:It)(R:ag)(H1:Hp)(items:aa):Prop where
 go:∀i H',aI H1 H'->i<items.length->J.go i H'
 sj:∀i H' x iN,aI H1 H'->i<items.length->J.sj i H' x iN->aI H' iN/\∃d,items[i]?=some d/\Rep (a_ K iN) (nd K R (λ_=>False) (λ_=>none) iN) [] x d
 stop:∀i H',aI H1 H'->items.length<=i->J.stop i H'
variable {C:Addr}{s₂:Shared}
section
variable {X:Cx}{S:Sx}{k:Nat}{F:ag}{Φ:aV}
def jD(X:Cx)(F:ag)(τ:Addr->Option bo)(fv:aR)(H2:Hp)(p:Addr):Prop:=H2 p≠none/\jm (gP X F) τ fv p
theorem sJ(Si:SI X F R τ ρ σ H)(fr:∀p q,τt p=some q->H p=none)(hs:∀i∈fv,i∈fv')(kp kq:bo)(p:Addr)(xs:Nd)(f:Fl)
  (h:nd X.K R (jm (gP X F) τ fv) τt H2 kp p xs f):nd X.K (jD X F τ fv' H2) (λ_=>False) (λ_=>none) H2 kq p xs (aA f):=by
 cases f with
 |ow=>exact⟨h.1,h.1.ne,.inr (Si.same.free (fr p _ h.2)),λc i e=>absurd (fr p _ h.2) (Si.th p _ e)⟩
 |fz=>exact⟨h.1,h.1.ne,Si.rf p h.2,λc i e=>by rw[Si.rt p h.2]at e;cases e⟩
 |al=>exact⟨h.1,h.1.ne,h.2.mono hs⟩
 |sc=>exact h
theorem Al{a:Addr}{q:bo}(hl:dF X.K H1 a xs)(rs:aB (a_ X.K H1) (nd X.K R (λ_=>False) (λ_=>none) H1) q 0 xs items):Yl X.K (IE X.K a) R H1 items where
 go:=λi H' e hi=>⟨xs,xs[i]'(by rw[rs.length];exact hi),e.seq hl,Xq _⟩
 sj:=λi H' x iN e hi y=>by
  obtain⟨rfl,y⟩:=y;obtain⟨d,hd,rd⟩:=rs.tL (y xs (e.seq hl));refine⟨aI.refl _,d,hd,?_⟩;have:=Rep.iL (g:=id) (λ_ _ h=>h) nd.nX rd [];rw[cB]at this;exact this.imp (λ_ _ h=>a_.same e h) λ_ _ _ _ h=>nd.same e h
 stop:=λi H' e hi=>⟨xs,e.seq hl,by rw[rs.length];exact hi⟩
theorem D7{a:Addr}{q:bo}(hl:a_ X.K H1 a xs)(rs:aB (a_ X.K H1) (nd X.K R (λ_=>False) (λ_=>none) H1) q 0 xs items):Yl X.K (ID X.K a) R H1 items where
 go:=λi H' e hi=>⟨xs,xs[i]'(by rw[rs.length];exact hi),a_.same e hl,Xq _⟩
 sj:=λi H' x iN e hi y=>by
  obtain⟨rfl,y⟩:=y;obtain⟨d,hd,rd⟩:=rs.tL (y xs (a_.same e hl));refine⟨aI.refl _,d,hd,?_⟩;have:=Rep.iL (g:=id) (λ_ _ h=>h) nd.nX rd [];rw[cB]at this;exact this.imp (λ_ _ h=>a_.same e h) λ_ _ _ _ h=>nd.same e h
 stop:=λi H' e hi=>⟨xs,a_.same e hl,by rw[rs.length];exact hi⟩
theorem xq{lo:Int}{n:Nat}:Yl X.K (wX lo n) R H1 ((List.range n).map λ(k:Nat)=>D.int (lo+(k:Int))) where
 go:=λi H' e hi=>by simpa [wX]using hi
 sj:=λi H' x iN e hi y=>by
  obtain⟨rfl,rfl⟩:=y;have qq:i<n:=by simpa using hi
  exact⟨aI.refl _,.int (lo+i),by rw[List.getElem?_map,List.getElem?_range qq];rfl,.int _⟩
 stop:=λi H' e hi=>by simpa [wX]using hi
theorem xW{n:Nat}{t:Tg}{sc:Scope}{cl:List (Str×Addr)}(Si:SI X F R τ ρ σ H2)(hs:∀i∈caps,i∈fv):
  SI (dR X (bV target++fD S caps) sc cl C s₂ H2 fp) (jm (gP X F) τ fv) (jD X F τ fv H2) (λ_=>none) (bN n caps ρ) (nj n caps σ) H2:=by
 refine⟨by simp[bN,nj],λi d hi=>?_,λ_ _=>rfl,λp h=>h.1,λp h=>.inl h.2,λ_ _ h=>by simp at h,λ_ _ h=>by simp at h,aI.refl _⟩;unfold bN at hi;have hn:n<=i:=by
  by_cases hn:i<n
  ·rw[List.getElem?_append_left (by simpa using hn),List.getElem?_replicate,if_pos hn]at hi;cases hi
  ·left
 rw[List.getElem?_append_right (by simpa using hn),List.length_replicate,List.getElem?_map]at hi;cases hc:caps[i - n]? with
 |none=>rw[hc]at hi;exact nk hi
 |some ci =>
  rw[hc]at hi;have qq:(ρ[ci]?.getD none).map (af aA)=some d:=Xp hi;have hr:∃d0,ρ[ci]?=some (some d0)/\af aA d0=d:=by
   cases q:ρ[ci]? with
   |none=>rw[q]at qq;cases qq
   |some o =>
    cases o with
    |none=>rw[q]at qq;cases qq
    |some d0=>rw[q]at qq;exact⟨d0,rfl,Xp qq⟩
  obtain⟨d0,h0,rfl⟩:=hr;obtain⟨v,hv,rv⟩:=Si.rep ci d0 h0;refine⟨v,?_,Rep.iL (λ_ _ h=>h) (λkp kq p xs f h=>?_) ((rv.imp (q:=[ci]) (q':=[ci]) (N':=λq p xs f=>nd X.K R (λ_=>False) τ H2 q p xs f/\(f=.ow->∃c,q=c++[ci])) (λ_ _ h=>h) λc p xs f h=>⟨h,λ_=>⟨c,rfl⟩⟩)) [i]⟩
  ·unfold nj;rw[List.getElem?_append_right (by simpa using hn),List.length_replicate,List.getElem?_map,hc];simp[hv]
  ·obtain⟨h,hq⟩:=h;cases f with
   |ow =>
    obtain⟨c,rfl⟩:=hq rfl;refine⟨h.1,h.1.ne,.inr (Si.t0 p _ h.2),λc' i' e=>?_⟩;rw[h.2]at e;have:=XI List.getLast? (Xp e);simp at this;subst this;exact hs _ (Xt hc)
   |fz=>exact⟨h.1,h.1.ne,Si.rf p h.2,λc i e=>by rw[Si.rt p h.2]at e;cases e⟩
   |al=>exact h.2.elim
   |sc=>exact h
theorem yJ:∀{es:au},es.all isNm=true->∃xs:List (Str×Pos),es=xs.map λx=>Expr.Name x.1 x.2
 |[],_=>⟨[],rfl⟩
 |e::es,h=>by
  rw[List.all_cons,Bool.and_eq_true]at h;obtain⟨xs,rfl⟩:=yJ h.2;obtain⟨x,p,rfl⟩:=pE h.1;exact⟨(x,p)::xs,rfl⟩
theorem sE(xs:List (Str×Pos)):(xs.map λx=>Expr.Name x.1 x.2).filterMap (λe=>match e with|.Name x _=>some x|_=>none)=xs.map (·.1):=by
 induction xs with
 |nil=>rfl
 |cons x xs ih=>simp[ih]
def zy(i:Nat):Nat->Cz
 |0=>GD
 |n+1=>zA (mx i) (zy (i+1) n)
theorem uF{X:Cx}(hN:X.N.Nodup):∀(xs:List (Str×Pos)) (i:Nat),(∀(j:Nat) x,xs[j]?=some x->X.N[i+j]?=some x.1/\X.env.scope.names.lookup x.1=some .local) ->
  IC X (xs.map λx=>Expr.Name x.1 x.2) (zy i xs.length)/\(assignEach (xs.map λx=>Expr.Name x.1 x.2) X.env).length=xs.length/\(assignEach (xs.map λx=>Expr.Name x.1 x.2) X.env).findIdx? (·.1)=none
 |[],_,_=>⟨uE,rfl,rfl⟩
 |x::xs,i,h=>by
  obtain⟨h1,h2,h3⟩:=uF hN xs (i+1) λj y hy=>by
   have:=h (j+1) y (by simpa using hy)
   rwa [show i+(j+1)=i+1+j by left]at this
  obtain⟨g1,g2⟩:=h 0 x rfl;refine⟨qR (o6 hN g1 (.inl g2) (.inr g2)) h1 rfl,?_,?_⟩
  ·show(_::assignEach _ X.env).length=_;rw[List.length_cons,h2];rfl
  ·show(((false,assign (.Name x.1 x.2) X.env)::assignEach (xs.map λx=>Expr.Name x.1 x.2) X.env)).findIdx? (·.1)=none;rw[List.findIdx?_cons];simp[h3]
end
section
variable {X:Cx}{F R:ag}{τ:Addr->Option bo}{ρ:aU}{σ σ':St}{H:Hp}
theorem SI.JA{i:Nat}{v:V}{d:D}(Si:SI X F R τ ρ σ H)(rp:Rep (a_ X.K H) (nd X.K R (λ_=>False) (λ_=>none) H) [] v d)(hi:i<ρ.length):SI X F R τ (ρ.set i (some d)) (σ.set i (some v)) H:=by
 refine⟨by simp[Si.len],λj d' hj=>?_,Si.rt,Si.rh,Si.rf,Si.th,Si.t0,Si.same⟩;by_cases m5:j=i
 ·subst m5;rw[List.getElem?_set_self hi]at hj;cases hj;refine⟨v,List.getElem?_set_self (by rw[<- Si.len];exact hi),rp.imp (q':=[j]) (λ_ _ h=>h) λc p xs f h=>?_⟩;cases f with
  |ow=>exact nomatch h.2
  |fz=>exact h
  |al=>exact h
  |sc=>exact h
 ·rw[List.getElem?_set_ne (Ne.symm m5)]at hj;obtain⟨w,hw,k7⟩:=Si.rep j d' hj;exact⟨w,by rw[List.getElem?_set_ne (Ne.symm m5)];exact hw,k7⟩
theorem SI.sig(Si:SI X F R τ ρ σ H)(hl:σ'.length=σ.length)(h:∀(i:Nat) d,ρ[i]?=some (some d)->σ'[i]?=σ[i]?):SI X F R τ ρ σ' H :=
 ⟨by rw[hl];exact Si.len,λi d hi=>let ⟨v,hv,r⟩:=Si.rep i d hi;⟨v,by rw[h i d hi];exact hv,r⟩,Si.rt,Si.rh,Si.rf,Si.th,Si.t0,Si.same⟩
theorem l8{Q:St->Hp->Prop}(σ0:St)(hi:Nat):∀{m i:Nat} {vs:ae} {ds:aa} {kp:bo} {q:Nat} {σ:St} {ρ ρ':aU},i+m=hi->aB (a_ X.K H) (nd X.K R (λ_=>False) (λ_=>none) H) kp q vs ds->SI X F R τ ρ σ H->fO (List.range' i m) ds ρ=ok ρ' ->
  σ.length=σ0.length->(∀j,hi<=j->σ[j]?=σ0[j]?)->(∀σ',σ'.length=σ0.length->(∀j,hi<=j->σ'[j]?=σ0[j]?)->SI X F R τ ρ' σ' H->Q σ' H)->zy i m vs σ H Q
 |0,_,_,_,_,_,σ,_,_,_,.nil,Si,e,h1,h2,hq=>by
  cases e;exact⟨rfl,hq σ h1 h2 Si⟩
 |0,_,_,_,_,_,_,_,_,_,.cons _ _,_,e,_,_,_=>by cases e
 |m+1,_,_,_,_,_,_,_,_,_,.nil,_,e,_,_,_=>by cases e
 |m+1,i,_,_,_,_,σ,ρ,_,him,.cons (v:=v) (d:=d) h t,Si,e,h1,h2,hq=>by
  change (if _ then _ else _)=_ at e;split at e
  ·rename_i qq;have d8:=Si.JA (i:=i) (Rep.ko h) qq;refine⟨_,_,rfl,l8 σ0 hi (by left) t d8 e (by simpa using h1) (λj hj=>?_) hq⟩;rw[List.getElem?_set_ne (by left)];exact h2 j hj
  ·cases e
end
section
variable {X:Cx}{S:Sx}{k:Nat}{F:ag}{Φ:aV}
theorem Eh{n:Nat}{t:Tg}{sc:Scope}{cl:List (Str×Addr)}(La:X.calm=true)(co:js S n t caps target sc):
  ∃g,PG (dR X (bV target++fD S caps) sc cl C s₂ H2 fp) target g/\∀(F' R':ag) (x:V) (d:D) (σ':St) (iN:Hp) (Q:St->Hp->Prop) (ρb ρ1:aU),
   SI (dR X (bV target++fD S caps) sc cl C s₂ H2 fp) F' R' (λ_=>none) ρb σ' iN->Rep (a_ X.K iN) (nd X.K R' (λ_=>False) (λ_=>none) iN) [] x d->aW eA d=false->cE t d ρb=ok ρ1 ->
   (∀σ2,σ2.length=σ'.length->(∀j,n<=j->σ2[j]?=σ'[j]?)->SI (dR X (bV target++fD S caps) sc cl C s₂ H2 fp) F' R' (λ_=>none) ρ1 σ2 iN->Q σ2 iN)->g x σ' iN Q:=by
 have Gi:∀x∈bV target,(relabel sc X.env).names.lookup x=some .local:=λx hx=>lookup_relabel_local (co.tl x hx);rcases co.tg with ⟨x,p,rfl,rfl⟩|⟨es,kk,p,rfl,rfl,jN⟩
 ·have hn:n=1:=co.n;subst hn;refine⟨mx 0,o6 co.nd rfl (.inl (Gi x (List.mem_singleton.mpr rfl:x∈[x]))) (.inr (Gi x (List.mem_singleton.mpr rfl:x∈[x]))),λF' R' v d σ' iN Q ρb ρ1 Si rp _ e hq=>?_⟩;simp only[cE]at e;split at e
  ·rename_i hi;cases e;refine hq _ (by simp) (λj hj=>?_) (Si.JA rp hi);rw[List.getElem?_set_ne (by left)]
  ·cases e
 ·obtain⟨xs,rfl⟩:=yJ jN;have hN:bV (.Tuple (xs.map λx=>Expr.Name x.1 x.2) kk p)=xs.map (·.1):=sE xs;have hn:n=xs.length:=by rw[co.n,hN,List.length_map]
  have:=uF (X:=dR X (bV (.Tuple (xs.map λx=>Expr.Name x.1 x.2) kk p)++fD S caps) sc cl C s₂ H2 fp) co.nd xs 0 (λj y hy=>by
   refine⟨?_,Gi y.1 (by rw[hN];exact List.mem_map.mpr ⟨y,Xt hy,rfl⟩)⟩;show(bV (.Tuple (xs.map λx=>Expr.Name x.1 x.2) kk p)++fD S caps)[0+j]?=_;have hj:j<xs.length:=by
    by_cases hj:j<xs.length
    ·exact hj
    ·rw[List.getElem?_eq_none (by left)]at hy;cases hy
   rw[hN,Nat.zero_add,List.getElem?_append_left (by simpa using hj),List.getElem?_map,hy];rfl)
  obtain⟨h1,h2,h3⟩:=this;refine⟨_,yn La h1 h2 h3,λF' R' v d σ' iN Q ρb ρ1 Si rp ho e hq=>?_⟩;cases d<;>try (simp[cE]at e;done)
  rename_i ds;simp only[cE]at e;split at e
  ·cases e
  ·cases rp with
   | @tup _ a ys _ hp rs =>
    rw[List.length_map]at e;have e':fO (List.range' 0 xs.length) ds ρb=ok ρ1:=by rw[<- List.range_eq_range'];exact e
    refine⟨a,ys,rfl,hp,?_,l8 (X:=dR X (bV (.Tuple (xs.map λx=>Expr.Name x.1 x.2) kk p)++fD S caps) sc cl C s₂ H2 fp) σ' n (by left) rs Si e' rfl (λ_ _=>rfl) hq⟩;rw[rs.length];have:∀(is:aR) (ds:aa) (ρ ρ':aU),fO is ds ρ=ok ρ'->ds.length=is.length:=by
     intro is;induction is with
     |nil=>intro ds ρ ρ' e;cases ds with|nil=>rfl|cons _ _=>cases e
     |cons i is ih=>intro ds ρ ρ' e;cases ds with
      |nil=>cases e
      |cons d ds =>
       change (if _ then _ else _)=_ at e;split at e
       ·simp[ih ds _ _ e]
       ·cases e
    rw[this _ _ _ _ e',List.length_range']
theorem RW:∀f:Fl,eA (aA f)=false:=by intro f;cases f<;>rfl
mutual
theorem uL:∀d:D,aW eA (af aA d)=false
 |.bB=>by simp[af,aW]
 |.bl _=>by simp[af,aW]
 |.int _=>by simp[af,aW]
 |.str _=>by simp[af,aW]
 |.tup ds=>by simp[af,aW,fQ ds]
 |.lst f ds=>by simp[af,aW,fQ ds,RW]
 |.gr f ks vs=>by simp[af,aW,fQ vs,RW]
theorem fQ:∀ds:aa,aS eA (aw aA ds)=false
 |[]=>by simp[aw,aS]
 |d::ds=>by simp[aw,aS,uL d,fQ ds]
end
theorem uW{h:Heap}{a:Addr}{o:HO}(x:iI P w H h)(hn:H a=none)(new:dj P w (upd H a o) h a o):iI P w (upd H a o) h:=λb u e=>by
 by_cases hb:b=a
 ·subst hb;rw[bh]at e;cases e;exact new
 ·rw[aY hb]at e;exact(x b u e).kW (λc v _ q=>q) (λc q=>by rw[aY (bU q hn)];exact q) λc xs q=>by rw[aY (bU q hn)];exact q
structure WH(X X':Cx)(F' R':ag)(n:Nat)(base:aU)(σ0:St)(fp:bt)(tn:Nat->Heap->Prop)(H2:Hp)(D:Addr)(items:List DI.D)(bind:DI.D->O aU)(test:aU->O Bool)(el:aU->O DI.D)(all:List DI.D)(m:Nat)(s':Shared):Prop where
 ex:∃(i:Nat) (vs:ae) (aN:aq) (nn:Nat) (σ':St) (H':Hp) (dn rest:List DI.D),m=items.length - i/\i<=items.length/\Inv X' [(D,d_ aN nn)] σ' H' s'/\tn i s'.heap/\(∀b∈fp,H' b=none)/\Vals vs aN/\aI H2 H' /\
  SI X' F' R' (λ_=>none) base σ' H'/\cm X.K (gP X' F') R' (λ_=>none) [] H2 H' vs dn/\gF bind test el (items.drop i)=ok rest/\dn++rest=all
end
theorem cm.go(h:cm K G R τ fv H H1 vs ds)(e:aI H1 H2):cm K G R τ fv H H2 vs ds :=
 let ⟨τt,h1,h2⟩:=h;⟨τt,h1,h2.imp (λ_ _ h=>a_.same e h) λ_ _ _ _ h=>nd.same e h⟩
theorem mf:∀{ds:aa} {d:D},aS eA ds=false->d∈ds->aW eA d=false
 |[],_,_,h=>nomatch h
 |e::ds,d,h,hm=>by
  rw[aS,Bool.or_eq_false_iff]at h;rcases List.mem_cons.mp hm with rfl|z
  ·exact h.1
  ·exact mf h.2 z
theorem vW{d:D}(h:qH d=ok items):∀d∈items,aW eA d=false:=by
 unfold qH at h;split at h
 ·cases h;exact λd hd=>mf (fQ _) hd
 ·cases h
theorem tx{ik:IK}{xs:aa}(h:dB Φ ik xs=ok items):∀d∈items,aW eA d=false:=by
 cases ik with
 |eG p=>obtain⟨d,_,h⟩:=aH h;exact vW h
 |kc =>
  cases xs with
  |nil=>cases h
  |cons x t=>cases x<;>first | (cases h;done) | (cases t with
   |cons _ _=>cases h
   |nil =>
    obtain⟨_,h⟩:=ql h;subst h;intro d hd;obtain⟨k,_,rfl⟩:=List.mem_map.mp hd;rfl)
 |jE =>
  cases xs with
  |nil=>cases h
  |cons x t=>cases x<;>first | (cases h;done) | (cases t with
   |nil=>cases h
   |cons y u=>cases y<;>first | (cases h;done) | (cases u with
    |cons _ _=>cases h
    |nil =>
     obtain⟨_,h⟩:=ql h;subst h;intro d hd;obtain⟨k,_,rfl⟩:=List.mem_map.mp hd;rfl))
 |seq =>
  cases xs with
  |nil=>cases h
  |cons x t=>cases x<;>first | (cases h;done) | (cases t with
   |cons _ _=>cases h
   |nil=>cases h;exact λd hd=>mf (fQ _) hd)
theorem tG{n:Nat}{i:Nat}{d:D}(h:(bN n caps ρ)[i]?=some (some d)):n<=i:=by
 unfold bN at h;by_cases hn:i<n
 ·rw[List.getElem?_append_left (by simpa using hn),List.getElem?_replicate,if_pos hn]at h;cases h
 ·left
variable {c' elt:CE}{bF cs es:aC}
section
variable {X:Cx}{S:Sx}{k:Nat}{F:ag}{Φ:aV}
theorem yQ{n:Nat}{t:Tg}{sc:Scope}{cl:List (Str×Addr)}(L:Lk X S k Φ)(co:js S n t caps target sc):
  Lk (dR X (bV target++fD S caps) sc cl C s₂ H2 fp) (S.inner target caps sc) k Φ:=by
 refine⟨?_,rfl,co.nd,L.calm,L.room,L.bl,λf x h=>⟨(L.fn f x h).ex⟩,L.cs,L.pr⟩;show relabel sc X.env=qM sc S.sc;rw[<- L.sc];rfl
theorem rT(L:Lk X S k Φ){n:Nat}{t:Tg}{ik:IK}{ifs:au}{sc:Scope}(co:js S n t caps target sc)(xf:nP iter=true)
    (hE:∀(X':Cx) (F':ag),Lk X' (S.inner target caps sc) k Φ->PE X' iM (tD X' F' Φ elt))
    (hC:(bF=[]/\ifs=[])\/∃c e,bF=[c]/\ifs=[e]/\∀(X':Cx) (F':ag),Lk X' (S.inner target caps sc) k Φ->PT X' e (iJ X' F' Φ c))
    (hI:∀(pins:aj) (s:Shared) (σ:St) (H:Hp) (R:ag) (τ:Addr->Option bo) (ρ:aU) (xs items:aa),Inv X pins σ H s->SI X F R τ ρ σ H->b8 Φ es ρ=ok xs->dB Φ ik xs=ok items->∀Rr:It->Hp->Prop,
      (∀J H2,aI H H2->Yl X.K J (jD X F τ (caps++dk es) H2) H2 items->Rr J H2)->wpAny (model X.prog X.w) X.A (eval iter X.env) (λv s1=>wpAny (model X.prog X.w) X.A (pyIter v) (z6 X pins σ target Rr) X.xe s1) X.xe s)
    {use:Option (Value->Sem Unit)} {Post:aF} {pins:aj} {s:Shared} {d:D} {QM:Pos} (I:Inv X pins σ H s) (Si:SI X F R τ ρ σ H) (ev:aX Φ (.comp n t caps ik es bF elt) ρ=ok d)
    (KN:∀(acc C:Addr) (H1:Hp) (s1:Shared) (m:aP),s1.heap.Ns C m->(C≠X.env.locals/\X.s₀.heap.objs.size<=C/\(∀x c,X.env.cells.lookup x=some c->c≠C)/\(∀p∈X.pn++pins,p.1≠C)/\H1 C=none)->(∀h',Heap.SameBut C s1.heap h'->Inv X pins σ H1 { s1 with heap:=h' })->aI H H1 ->
      b_ X.K (gP X F) R τ (gb (.comp n t caps ik es bF elt)) H H1 (.ref acc) d->compPost (model X.prog X.w) X.A X.xe use Post (.ref acc) C (.ok .next) s1) :
    wpAny (model X.prog X.w) X.A (comprehension (.ListComp iM [⟨target,iter,ifs,0⟩] sc pos) sc X.env QM (newList []) false (eval iter X.env) use) Post X.xe s:=by
  obtain⟨xs,eH,ev⟩:=aH ev;obtain⟨items,lI,ev⟩:=aH ev;obtain⟨ds,Hf,ev⟩:=aH ev;simp only[DD]at ev;obtain⟨lg,rfl⟩:=ev;have KS:=tx lI;obtain⟨cl,K9,lb,tI⟩:=tY (env:=X.env) (sc:=sc) (λx hx=>I.ok.has x (by
    show X.env.scope.names.lookup x=some .cell\/X.env.scope.names.lookup x=some .free;rw[L.sc];exact co.free x hx))
  have hV:∀x,foldedSetIterable iter X.env x=pure x:=by intro x;cases iter<;>first|rfl | (cases xf;done)
  refine wpAny_comprehension_free (use:=use) rfl hV K9 co.kind co.loc (Xs (hI pins s σ H R τ ρ xs items I Si eH lI (λJ H2=>aI H H2/\Yl X.K J (jD X F τ (caps++dk es) H2) H2 items) (λJ H2 e y=>⟨e,y⟩)) (λxv s₁ h₁=>Xs h₁ (λPj s₂ h₂=>?_) λ_ _ e=>e) λ_ _ e=>e);obtain⟨it,fp,tn,J,H2,rfl,I2,T,Jr,f2,e2,yl⟩:=h₂;have sd:=Si.go e2;have Gk:∀b∈fp,b<s₂.heap.objs.size:=λb hb=>let ⟨o,ho,_⟩:=T.obj 0 _ Jr b hb;Xg ho;refine Xv (wpAny_newFunctionEnv co.yG (by intro y hy;simp at hy) (λh₁ pF mn=>?_) co.kind);dsimp only at pF mn ⊢;generalize Qv:s₂.heap.push { cls:=.type "list",dict:=none,data:=.seq ([]:aq).toArray }=G2 at pF mn ⊢;have Ta:G2.objs.size=s₂.heap.objs.size+1:=by rw[<- Qv,Heap.size_push]
  have MU:s₂.heap.objs.size≠s₂.heap.objs.size+1:=Xo (XJ _);rw[Ta]at pF mn;have old:∀b o,s₂.heap.get? b=some o->h₁.get? b=some o:=λb o e=>mn.extBut b o (Xo (Xw (Xg e))) (Xi _ (Qv▸Xi _ e));have Gu:h₁.get? s₂.heap.objs.size=some (d_ [] 0):=mn.extBut _ _ MU (Xi _ (Qv▸Xr _ rfl))
  let X':=dR X (bV target++fD S caps) sc cl (s₂.heap.objs.size+1) s₂ H2 fp
  let F':=jm (gP X F) τ (caps++dk es)
  let R':=jD X F τ (caps++dk es) H2
  have L':Lk X' (S.inner target caps sc) k Φ:=yQ L co;have I4:=λtk=>y6 (h₁:=h₁) (tk:=tk) L co I2 lb tI f2 Gk (by simpa using pF) old Gu;have S4:SI X' F' R' (λ_=>none) (bN n caps ρ) (nj n caps σ) H2:=xW (t:=t) sd (λi hi=>by simp[hi]);obtain⟨g,hg,rj⟩:=Eh (X:=X) (S:=S) (cl:=cl) (fp:=fp) (s₂:=s₂) (H2:=H2) (C:=s₂.heap.objs.size+1) L.calm co;have Qw:s₂.heap.objs.size∉X'.fs:=λz=>by
    rcases List.mem_cons.mp (I2.iW _ z)with w|w
    · exact absurd w (X5 I2.lt)
    · exact I2.Fy (Xj _) w
  have Gm:∀x c,cl.lookup x=some c->c≠s₂.heap.objs.size:=λx c e=>by
    obtain⟨v,q⟩:=I2.cell x c (lb x c e);exact Xo q.lt
  have BP:∀b∈fp,b≠X'.env.locals/\b∉X'.fs/\(b∈X'.ex\/X'.s₀.heap.objs.size<=b)/\(∀x c,X'.env.cells.lookup x=some c->c≠b):=λb hb =>
    ⟨Xo (Xw (Gk b hb)),λz=>by
      rcases List.mem_cons.mp (I2.iW b z)with w|w
      · exact(f2 b hb).2.1 w
      · exact(f2 b hb).2.2.1 w,.inl hb,λx c e=>(f2 b hb).2.2.2.2.1 x c (lb x c e)⟩
  have K5:∀b∈fp,b≠s₂.heap.objs.size:=λb hb=>Xo (Gk b hb);have fin:∀(vs:ae) (aN:aq) (nn:Nat) (σ':St) (H':Hp) (s1:Shared),Inv X' [(s₂.heap.objs.size,d_ aN nn)] σ' H' s1->Vals vs aN->aI H2 H'->cm X.K (gP X' F') R' (λ_=>none) [] H2 H' vs ds ->
      compPost (model X.prog X.w) X.A X.xe use Post (.ref s₂.heap.objs.size) (s₂.heap.objs.size+1) (.ok .next) s1:=by
    intro vs aN nn σ' H' s1 I1 rv sm EU;obtain⟨m,hn,_⟩:=I1.loc;obtain⟨pD,nD,_,_,_⟩:=I1.pin (s₂.heap.objs.size,d_ aN nn) (Xk _ Xn);have bs:=I1.base;have Dx:∀b o,s₂.heap.get? b=some o->b≠s₂.heap.objs.size+1:=λb o e=>Xo (Xw (Xg e));have UK:∀b o,s₂.heap.get? b=some o->b≠s₂.heap.objs.size:=λb o e=>Xo (Xg e);have NK:∀b u,H' b=some u->upd H' s₂.heap.objs.size (.lst vs) b=some u:=λb u e=>by rw[aY (bU e nD)];exact e
    have hlen:vs.length<=sizeLine:=by
      obtain⟨_,_,rr⟩:=EU;have hz:sizeLine=16777216:=XY;have hc:cY=1000000:=rfl;rw[rr.length];left
    have IX:∀h',Heap.SameBut (s₂.heap.objs.size+1) s1.heap h'->Inv X pins σ (upd H' s₂.heap.objs.size (.lst vs)) { s1 with heap:=h' }:=λh' BM=>by
      have un:Un (kv X.stack) fp H2 (upd H' s₂.heap.objs.size (.lst vs)) s₂.heap h' :=
        ⟨λb o e n hb hx=>BM.extBut b o (Dx b o e) (bs.keep b o e n hb hx),
         λb o e n hb hx=>let ⟨sl,q⟩:=bs.slot b o e n hb hx;⟨sl,BM.extBut b _ (Dx b o e) q⟩,
         λb o e n hx=>by rw[aY (UK b o e)];exact bs.free b o e n hx,
         λb o e hx=>let ⟨o',q⟩:=bs.there b o e hx;⟨o',BM.extBut b _ (Dx b o e) q⟩,
         λb xs e=>NK b _ (bs.kR b xs e),λb o u e=>NK b _ (bs.ku b o u e),λb ps e=>let ⟨more,q⟩:=bs.kU b ps e;⟨more,NK b _ q⟩⟩
      have PU:iI X.prog X.w H' h':=λa o e=>(I1.cn a o e).kW (λb u hb q=>BM.extBut b u (by
        rintro rfl;have hf:H' (s₂.heap.objs.size+1)=none:=I1.free;rcases hb with z|z
        · rw[<- z,hf]at e;cases e
        · rw[hf]at z;cases z) q) (λ_ q=>q) λ_ _ q=>q
      have PR:iI X.prog X.w (upd H' s₂.heap.objs.size (.lst vs)) h':=uW PU nD ⟨hlen,aN,nn,rv,BM.extBut _ _ MU pD⟩;exact I2.vt (ch:=fp) I1.os un PR I1.bare λb hb=>⟨(f2 b hb).2.2.2.1,(f2 b hb).2.1,(f2 b hb).2.2.2.2.1,(f2 b hb).2.2.2.2.2⟩
    have eS:aI H' (upd H' s₂.heap.objs.size (.lst vs)):=aI.upd nD;obtain⟨τt,fr,rs⟩:=EU;have O9:s₂.heap.objs.size+1≠s₂.heap.objs.size:=Nat.succ_ne_self _;refine KN s₂.heap.objs.size (s₂.heap.objs.size+1) _ s1 m hn ⟨X5 (Xw I2.lt),Nat.le_succ_of_le I2.sz,λx c e=>?_,λp hp=>?_,?_⟩ IX ((e2.trans sm).trans eS) ⟨λq=>if q=s₂.heap.objs.size then some []else τt q,λq z hz=>?_,.lst ⟨bh,by simp⟩ (aB.map (q:=[]) (q':=[]) (λ_ _ h=>a_.same eS h) (λc p ys f h=>?_) rs [] rfl)⟩
    · obtain⟨v,z⟩:=I2.cell x c e
      exact Xo (Xw z.lt)
    · exact Xo (Xw (Xg (I2.pin p hp).1))
    · rw[aY O9];exact I1.free
    · by_cases w_:q=s₂.heap.objs.size
      · rw[w_];exact e2.free (sm.free nD)
      · simp only[w_,if_false]at hz;exact e2.free (fr q z hz)
    · have h':=nd.same eS h
      have Rn:∀p,gP X' F' p->jm (gP X F) τ (caps++dk es) p:=λp hp=>hp.elim id λz=>⟨.inr (sd.same.free z),λc i e=>absurd z (sd.th p _ e)⟩
      cases f with
      |ow =>
        have w_:p≠s₂.heap.objs.size:=by
          intro z;subst z;exact h.1.ne nD
        refine⟨h'.1,?_⟩;show(if p=s₂.heap.objs.size then some []else τt p)=_;rw[if_neg w_];exact h'.2
      |fz=>exact⟨h'.1,h'.2.2⟩
      |al=>exact⟨h'.1,Rn p h'.2.1⟩
      |sc=>exact h'
  have TZ:∀(P:aj) (ρ1:aU) (b:Bool) (σ2:St) (H5:Hp) (s6:Shared),gE Φ bF ρ1=ok b->Inv X' P σ2 H5 s6->SI X' F' R' (λ_=>none) ρ1 σ2 H5 ->
      wpAny (model X.prog X.w) X.A (forIn ifs true λc r=>if r=true then do let ok <- isTrue c X'.env (eval c X'.env);pure (ForInStep.yield ok)else pure (ForInStep.yield r)) (λOW s7=>OW=b/\∃H7,Inv X' P σ2 H7 s7/\aI H5 H7) (λ_ _=>False) s6:=by
    intro P ρ1 b σ2 H5 s6 eb I6 S6;rcases hC with ⟨rfl,rfl⟩|⟨c,e,rfl,rfl,hPT⟩
    · rw[gE]at eb;cases eb
      exact wpAny_tests_nil ⟨rfl,H5,I6,aI.refl _⟩
    · rw[gE]at eb
      obtain⟨b',V9,eb⟩:=aH eb;have hb:b'=b:=by
        cases b' with
        |true=>rw[if_pos rfl,gE]at eb;cases eb;rfl
        |false=>rw[if_neg (by simp)]at eb;cases eb;rfl
      subst hb;refine wpAny_tests_one (Xs (hPT X' F' L' P s6 σ2 H5 (λTw H7=>Tw=b'/\aI H5 H7) I6 ⟨R',_,ρ1,b',S6,V9,λH7 e7=>⟨rfl,e7⟩⟩) (λTw s7 ⟨H7,I7,hb,e7⟩=>⟨hb,H7,I7,e7⟩) λ_ _ e=>e)
  have loop:∀tk,codeAny (model X.prog X.w) X.A (.compLoop (.ListComp iM [⟨target,iter,ifs,0⟩] sc pos) 0 (.ref it) (.ref s₂.heap.objs.size) X'.env)
      (compPost (model X.prog X.w) X.A X.xe use Post (.ref s₂.heap.objs.size) (s₂.heap.objs.size+1)) { s₂ with heap:=h₁,toks:=tk }:=by
    intro tk;refine pV (WH X X' F' R' n (bN n caps ρ) (nj n caps σ) fp tn H2 s₂.heap.objs.size items (λd=>cE t d (bN n caps ρ)) (λρ'=>gE Φ bF ρ') (λρ'=>aX Φ elt ρ') ds) ?_ items.length
      ⟨0,[],[],0,nj n caps σ,H2,[],ds,rfl,X_ _,I4 tk,T.keep _ _ _ Jr (λb _ o e=>old b o e),λb hb=>(f2 b hb).1,.nil,aI.refl _,S4,.nil,by rw[List.drop_zero];exact Hf,rfl⟩
    rintro m s' ⟨i,vs,aN,nn,σ',H',dn,rest,hm,hi,I',xO,fr',rv,sm,d8,EU,eT,eall⟩;have GG:∀b∈fp,mX X' [(s₂.heap.objs.size,d_ aN nn)] H' b:=λb hb=>⟨fr' b hb,(BP b hb).1,(BP b hb).2.1,(BP b hb).2.2.1,(BP b hb).2.2.2,λp hp=>by
      have qp:p=(s₂.heap.objs.size,d_ aN nn):=by simpa [X',dR]using hp
      rw[qp];exact(K5 b hb).symm⟩
    by_cases m4:i<items.length
    · refine Xs (T.item X' rfl rfl rfl L.calm i _ s' σ' H' (λ_ _=>False) I' GG xO (yl.go i H' sm m4)) (λr s1 h4=>?_) λ_ _ e=>e
      obtain⟨u,hr,h4⟩:=h4;subst hr;refine Xs h4 (λ_ s5 h5=>?_) λ_ _ e=>e;obtain⟨x,H5,I5,r5,y5,Et,QL⟩:=h5;obtain⟨e5,dd,hd,rd⟩:=yl.sj i H' x H5 sm m4 y5;have RA:=I5.pinned (fp:=fp) (λb hb=>⟨QL b hb,(GG b hb).2⟩) (T.obj _ _ Et);have rl:items.drop i=dd::items.drop (i+1):=by
        rw[List.drop_eq_getElem_cons m4];rw[List.getElem?_eq_getElem m4]at hd;cases hd;rfl
      rw[rl,gF]at eT;obtain⟨ρ1,eb,eT⟩:=aH eT;obtain⟨bb,et,eT⟩:=aH eT;refine Xs (hg _ s5 σ' H5 x u (λσ2 H6=>H6=H5/\σ2.length=σ'.length/\(∀j,n<=j->σ2[j]?=σ'[j]?)/\SI X' F' R' (λ_=>none) ρ1 σ2 H5) RA r5
        (rj F' R' x dd σ' H5 _ (bN n caps ρ) ρ1 (d8.go e5) rd (KS dd (Xt hd)) eb λσ2 g1 g2 g3=>⟨rfl,g1,g2,g3⟩)) (λ_ s6 h6=>?_) λ_ _ e=>e
      obtain⟨σ2,H6,I6,rfl,g1,g2,S6⟩:=h6;refine Xs (TZ _ ρ1 bb σ2 H6 s6 et I6 S6) (λOW s7 h7=>?_) λ_ _ e=>e;obtain⟨rfl,H7,I7,e7⟩:=h7;have NN:∀{P:aj} {σ3:St} {H8:Hp} {s8:Shared},Inv X' (P++gZ fp s5.heap) σ3 H8 s8->tn (i+1) s8.heap/\∀b∈fp,H8 b=none:=λ{P σ3 H8 s8} I8 =>
        ⟨T.keep _ _ _ Et λb hb o e=>(I8.pin (b,o) (Xk _ (Xk _ (gk hb e)))).1,λb hb=>by
          obtain⟨o,e,_⟩:=T.obj _ _ Et b hb;exact(I8.pin (b,o) (Xk _ (Xk _ (gk hb e)))).2.1⟩
      have DT:∀{H8:Hp},aI H7 H8->SI X' F' R' (λ_=>none) (bN n caps ρ) σ2 H8:=λ{H8} e8=>(d8.go ((e5.trans e7).trans e8)).sig g1 λj d hj=>g2 j (tG hj);cases OW with
      |false =>
        rw[if_neg (by simp)]at eT ⊢;exact⟨items.length - (i+1),by left,i+1,vs,aN,nn,σ2,H7,dn,rest,rfl,m4,I7.jA,(NN I7).1,(NN I7).2,rv,(sm.trans e5).trans e7,DT (aI.refl _),EU.go (e5.trans e7),eT,eall⟩
      |true =>
        rw[if_pos rfl]at eT ⊢;obtain⟨y,ey,eT⟩:=aH eT;obtain⟨ys,pP,eT⟩:=aH eT;cases eT;refine Xs (hE X' F' L' _ s7 σ2 H7 (λv H8=>aI H7 H8/\b_ X.K (gP X' F') R' (λ_=>none) [] H7 H8 v y) I7 ⟨R',_,ρ1,y,S6.go e7,ey,λv H8 e8 r8=>⟨e8,?_⟩⟩) (λu8 s8 h8=>?_) λ_ _ e=>e
        · obtain⟨τt,fr,rr⟩:=r8
          exact⟨τt,fr,rr.imp (q:=[]) (q':=[]) (λ_ _ h=>h) λc p ys f h=>h.mono id (λh=>⟨h.1,λ_ _ e=>by cases e⟩) id⟩
        · obtain⟨v8,H8,I8,Uh,e8,r8⟩:=h8
          obtain⟨pD,nD,_,_,_⟩:=I8.pin (s₂.heap.objs.size,d_ aN nn) (Xk _ (Xu _ Xn));have hlen:aN.length<=1000000:=by
            obtain⟨_,_,rr⟩:=EU;have h1:dn.length<=ds.length:=by rw[<- eall,List.length_append];left
            have hc:cY=1000000:=rfl;rw[<- rv.length,rr.length];left
          have hz:sizeLine=16777216:=XY;refine Yn PySem.F.slot_list_append ⟨_,pD,rfl⟩ PySem.F.entry_list_append (PySem.F.args_list_append_2 _ _) (PySem.list_append s₂.heap.objs.size aN.toArray nn u8 (by rw[List.size_toArray];left)) ⟨pD,?_⟩;have q:=PySem.IsL.update pD (λx=>x.push u8);have KI:aN.toArray.push u8=(aN++[u8]).toArray:=by simp
          rw[KI]at q;obtain⟨MI,q'⟩:∃MI,(s8.heap.update s₂.heap.objs.size (Obj.mapSeq λx=>x.push u8)).get? s₂.heap.objs.size=some (d_ (aN++[u8]) MI):=⟨_,q⟩
          have Ww:Inv X' (gZ fp s5.heap) σ2 H8 s8:=I8.iA λp hp=>I8.pin p (Xk _ (Xk _ hp));have Tz:Inv X' (gZ fp s5.heap) σ2 H8 { s8 with heap:=s8.heap.update s₂.heap.objs.size (Obj.mapSeq λx=>x.push u8),toks:=s8.toks } :=
            Ww.turned (it:=s₂.heap.objs.size) (λb o hb e=>(Yc s8.heap (Obj.mapSeq λx=>x.push u8) (YF hb)).trans e) nD MU (.inr (Xj _)) Gm λp hp=>by
              have qp:p∈gZ fp s5.heap:=by simpa [X',dR]using hp
              exact K5 p.1 (nM qp).1
          have kp:=NN (P:=[]) (by rw[List.nil_append];exact Tz);refine⟨items.length - (i+1),by left,i+1,vs++[v8],aN++[u8],MI,σ2,H8,dn++[y],ys,rfl,m4,Tz.iA (λp hp=>?_),kp.1,kp.2,rv.append (.cons Uh .nil),((sm.trans e5).trans e7).trans e8,DT e8,cm.snoc ((sm.trans e5).trans e7) e8 (EU.go (e5.trans e7)) r8,pP,by rw[List.append_assoc];exact eall⟩;have qp:p=(s₂.heap.objs.size,d_ (aN++[u8]) MI):=by simpa using hp
          rw[qp];exact⟨q',nD,MU,Qw,λv z=>by cases z⟩
    · refine Xs (T.done X' rfl rfl rfl L.calm i _ s' σ' H' (λ_ _=>False) I' GG xO (yl.stop i H' sm (by left))) (λr s1 h1=>?_) λ_ _ e=>e
      obtain⟨hr,I1⟩:=h1;subst hr;have P2:items.drop i=[]:=List.drop_eq_nil_of_le (by left);rw[P2,gF]at eT;cases eT;rw[List.append_nil]at eall;subst eall;exact fin vs aN nn σ' H' s1 I1 rv sm EU
  have key:=λtk=>codeAny_compStart_list (loop tk) (T.self X.A 0 _ _ _ (T.keep _ _ _ Jr λb _ o e=>old b o e) (loop tk));rw[Ta];exact key _
theorem AL(L:Lk X S k Φ){n:Nat}{t:Tg}{ik:IK}{ifs:au}{sc:Scope}(co:js S n t caps target sc)(xf:nP iter=true)
  (hE:∀(X':Cx) (F':ag),Lk X' (S.inner target caps sc) k Φ->PE X' iM (tD X' F' Φ elt))
  (hC:(bF=[]/\ifs=[])\/∃c e,bF=[c]/\ifs=[e]/\∀(X':Cx) (F':ag),Lk X' (S.inner target caps sc) k Φ->PT X' e (iJ X' F' Φ c))
  (hI:∀(pins:aj) (s:Shared) (σ:St) (H:Hp) (R:ag) (τ:Addr->Option bo) (ρ:aU) (xs items:aa),Inv X pins σ H s->SI X F R τ ρ σ H->b8 Φ es ρ=ok xs->dB Φ ik xs=ok items->∀Rr:It->Hp->Prop,
   (∀J H2,aI H H2->Yl X.K J (jD X F τ (caps++dk es) H2) H2 items->Rr J H2)->wpAny (model X.prog X.w) X.A (eval iter X.env) (λv s1=>wpAny (model X.prog X.w) X.A (pyIter v) (z6 X pins σ target Rr) X.xe s1) X.xe s) :
  PE X (.ListComp iM [⟨target,iter,ifs,0⟩] sc pos) (tD X F Φ (.comp n t caps ik es bF elt)):=by
 intro pins s σ H Q I hq;obtain⟨R,τ,ρ,d,Si,ev,hq⟩:=hq;rw[eval_ListComp];refine rT L co xf hE hC hI (use:=none) (Post:=EP X pins σ Q) I Si ev λacc C H1 s1 m hn _ IX sm rt=>?_;exact⟨m,hn,λh' BM=>⟨.ref acc,H1,IX h' BM,rfl,hq _ _ sm rt⟩⟩
end
variable {base h':Heap}
section
variable {X:Cx}{pins:aj}{s:Shared}{σ:L2.St}{H:Hp}
theorem ra{A:aQ}{E:aF}{l:Addr}{items:bx}{Q:aF}{s:Shared}(hl:s.heap.IsList l items)
  (h:∀s₂:Shared,s₂={ s with heap:=s.heap.push { cls:=.type "list_iterator",data:=.fields #[.ref l,.int 0 0] } }->s₂.heap.IsListIter s.heap.objs.size l 0/\s₂.heap.IsList l items->(∀b∈[s.heap.objs.size,l],b<s₂.heap.objs.size)->l≠s.heap.objs.size->Q (.ref s.heap.objs.size) s₂) :
  wpAny (model prog w) A (pyIter (.ref l)) Q E s:=by
 have m4:l<s.heap.objs.size:=by obtain⟨_,e,_⟩:=hl;exact Xg e
 refine wpAny_pyIter_list hl (h _ rfl ⟨⟨_,Xr _ rfl,rfl,rfl⟩,hl.push _⟩ (λb hb=>?_) (Xo m4));have hz:(s.heap.push { cls:=.type "list_iterator",data:=.fields #[.ref l,.int 0 0] }).objs.size=s.heap.objs.size+1:=Heap.size_push ..;have Ip:b=s.heap.objs.size\/b=l:=by simpa using hb
 show b<_;rw[hz];rcases Ip with e|e
 ·rw[e];exact XJ _
 ·rw[e];exact Xw m4
theorem q_{o₀:Obj}{s:Shared}(hk:∀b o,b∉[s.heap.objs.size]->(s.heap.push o₀).get? b=some o->h'.get? b=some o):∀b o,s.heap.get? b=some o->h'.get? b=some o:=λb o e =>
 hk b o (λhm=>absurd ((by simpa using hm:b=s.heap.objs.size)▸Xg e) (Xx _)) (Xi _ e)
theorem dS{h:Heap}{a:Addr}{aN:bx}(p:PlainL h a aN):h.IsList a aN:=let ⟨o,n,h1,h2,_,h4⟩:=p;⟨o,h1,h2,n,h4⟩
theorem kI(val:Nat->Int)(ns:ai)(hv:∀i,val i=ns.getD i 0):∀k,k<=ns.length->preSum val k=(ns.take k).sum
 |0,_=>by simp[preSum]
 |k+1,h=>by
  have hk:k<ns.length:=by left
  rw[preSum,kI val ns hv k (by left),hv k,List.take_add_one,List.sum_append];simp[List.getD,hk]
theorem wQ(hc:X.calm=true):fq X (.builtin "sum") (λxs H Q=>∃(p:Addr) (ns:ai),xs=[.ref p]/\dF X.K H p (ns.map V.int)/\Q (.int ns.sum) H):=by
 intro pins s σ H xs us Q I r h;obtain⟨p,ns,rfl,hq,q⟩:=h;obtain⟨u,rfl,ru⟩:=r.one;cases ru;obtain⟨aN,rv,pl,hz⟩:=I.list hq;have hlen:aN.length=ns.length:=by have:=rv.length;simpa using this.symm
 refine call_sum_walkG (ra (dS pl) λs₂ e st BQ P9=>?_);subst e;refine⟨_,_,_,_,_,_,λi=>ns.getD i 0,rfl,Walks.list (A:=X.A.in1) (I.ok.hd hc) _ p P9 aN.toArray,st,BQ,λi v hP=>?_,λh' tk t' hk=>?_⟩
 ·have hv:aN[i]?=some v:=by simpa using hP
  have hi:i<aN.length:=by
   by_cases z:i<aN.length
   ·exact z
   ·rw[List.getElem?_eq_none (by left)]at hv;cases hv
  have hn:(ns.map V.int)[i]?=some (.int (ns.getD i 0)):=by
   rw[List.getElem?_map,List.getElem?_eq_getElem (by left)];simp[List.getD,show i<ns.length by left]
  obtain⟨u,hu,ru⟩:=rv.get hn;rw[hv]at hu;cases hu;exact ru
 ·refine⟨.int ns.sum,H,I.kept (t':=tk) (q_ hk),⟨t',?_⟩,q⟩;have hz:preSum (λi=>ns.getD i 0) aN.toArray.size=ns.sum:=by
   rw[List.size_toArray,hlen,kI _ ns (λ_=>rfl) _ (Nat.le_refl _),List.take_length]
  rw[hz]
theorem range_all{α:Type}(l:List α)(f:α->Bool)(tr:Nat->Bool)(h:∀i a,l[i]?=some a->tr i=f a):(List.range l.length).all tr=l.all f:=by
 rw[Bool.eq_iff_iff,List.all_eq_true,List.all_eq_true];constructor
 ·intro z a ha;obtain⟨i,hi,e⟩:=List.mem_iff_getElem.mp ha;have:=z i (List.mem_range.mpr hi);rw[h i a (by rw[List.getElem?_eq_getElem hi,e])]at this;exact this
 ·intro z i hi;have hi:=List.mem_range.mp hi;rw[h i l[i] (List.getElem?_eq_getElem hi)];exact z _ (YG hi)
theorem wV(hc:X.calm=true):fq X (.builtin "all") (λxs H Q=>∃(p:Addr) (bs:List Bool),xs=[.ref p]/\dF X.K H p (bs.map V.bl)/\Q (.bl (bs.all id)) H):=by
 intro pins s σ H xs us Q I r h;obtain⟨p,bs,rfl,hq,q⟩:=h;obtain⟨u,rfl,ru⟩:=r.one;cases ru;obtain⟨aN,rv,pl,hz⟩:=I.list hq;have hlen:aN.length=bs.length:=by have:=rv.length;simpa using this.symm
 refine call_all_walk (ra (dS pl) λs₂ e st BQ P9=>?_);subst e;refine⟨_,_,_,_,_,_,λi=>bs.getD i false,rfl,Walks.list (A:=X.A.in1) (I.ok.hd hc) _ p P9 aN.toArray,st,λi v s' Q' E' hP hQ=>?_,λh' tk hk=>?_⟩
 ·have hv:aN[i]?=some v:=by simpa using hP
  have hi:i<aN.length:=by
   by_cases z:i<aN.length
   ·exact z
   ·rw[List.getElem?_eq_none (by left)]at hv;cases hv
  have hn:(bs.map V.bl)[i]?=some (.bl (bs.getD i false)):=by
   rw[List.getElem?_map,List.getElem?_eq_getElem (by left)];simp[List.getD,show i<bs.length by left]
  obtain⟨u,hu,ru⟩:=rv.get hn;rw[hv]at hu;cases hu;cases ru;exact XF hQ
 ·refine⟨.bl (bs.all id),H,I.kept (t':=tk) (q_ hk),?_,q⟩;show Value.bool _=Value.bool _;rw[List.size_toArray,hlen,range_all bs id _ λi a e=>by simp[List.getD,e]]
end
variable {ns:ai}{o:Obj}
section
variable {prog:aJ}{w:World}{A:aQ}{E:aF}{s:Shared}
theorem mL{l:Addr}{vs:aq}{Q:aq->Shared->Prop}{n:Nat}(ho:s.heap.get? l=some o)(hc:o.cls=.type "tuple")(hd:o.data=.seq vs.toArray n)
  (h:Q vs { s with heap:=(s.heap.push (seqObj "list" #[] 0)).update s.heap.objs.size (Obj.mapSeq (· ++ vs.toArray)) }) (Ig:vs.length<=sizeLine):wpAny (model prog w) A (collect (.ref l)) Q E s:=by
 unfold collect;refine Xf (wpAny_runValue (Yo entry_proto_collect' ?_));show wpAny _ _ (newList [] >>= λz=>again (.builtin "list.__iadd__" ⟨[z,.ref l],[]⟩)) _ _ s;refine Xf (wpAny_newList (Xh ⟨YC _ (by decide +kernel),Yo entry_list_iadd' ?_⟩));have z1:(s.heap.push (seqObj "list" #[] 0)).get? l=some o:=Xi _ ho;have z2:(s.heap.push (seqObj "list" #[] 0)).get? s.heap.objs.size=some (seqObj "list" #[] 0):=Xr _ rfl;show wpAny _ _ (Builtin.List.listExtendWith (.ref s.heap.objs.size) (.ref l) (.ref s.heap.objs.size)) _ _ ({ s with heap:=s.heap.push (seqObj "list" #[] 0) }:Shared);unfold Builtin.List.listExtendWith;refine Xf (wpAny_typeOf (T:="tuple") ⟨o,z1,hc⟩ ?_);rw[Xy (by rw[show(Value.type "tuple" == Value.type "tuple")=true from rfl,Bool.or_true])];refine Xf (listItems_at z1 hd (Xf (listItems_at z2 rfl ?_)));rw[if_neg (by simp)];refine Xf (listUpdate_at z2 rfl ?_ (X_ _) (by
  show(#[]++vs.toArray).size<=sizeLine+1;rw[Array.size_append,List.size_toArray];exact Nat.le_succ_of_le (by simpa using Ig)))
 refine Xh ?_;show wpAny (model prog w) A (load s.heap.objs.size >>= λo=>match o.data with
   |.seq xs _=>pure xs.toList
   |_=>unsupported "internal:collect") Q E ({ s with heap:=(s.heap.push (seqObj "list" #[] 0)).update s.heap.objs.size (Obj.mapSeq (· ++ vs.toArray)) }:Shared)
 refine Xf (wpAny_load (get?_update_seq z2 _) ?_);show wpAny _ _ (pure ((#[]:bx)++vs.toArray).toList) Q E _;rw[show((#[]:bx)++vs.toArray).toList=vs by simp];exact Xh h
theorem ng{l:Addr}{vs:aq}{Q:aF}{n:Nat}(ho:s.heap.get? l=some o)(hc:o.cls=.type "tuple")(hd:o.data=.seq vs.toArray n)(hI:IntsAre vs ns)(DH:vs.length<64)
  (h:∀(out:bx) (sX:ai),IntsAre out.toList sX->sX.Perm ns->sX.Pairwise (· <= ·)->Q (.ref (s.heap.objs.size+1)) { s with heap:=sortedAll s.heap vs out }):wpAny (model prog w) A (call (.builtin "sorted") [.ref l]) Q E s:=by
 refine Calls.call_function_entry kind_sorted plain_sorted entry_sorted (args_sorted1 _) ?_;unfold Builtin.«sorted»;have hz:vs.length<=sizeLine:=by rw[sizeLine_eq];left
 refine Xf (m:=checkCount "sorted" 1 1 _) (Xh (Xf (mL ho hc hd (Xf (wpAny_newList ?_)) hz)));have e1:((s.heap.push (seqObj "list" #[] 0)).update s.heap.objs.size (Obj.mapSeq (· ++ vs.toArray))).objs.size=s.heap.objs.size+1:=by rw[Heap.size_update,size_push']
 have e2:(((s.heap.push (seqObj "list" #[] 0)).update s.heap.objs.size (Obj.mapSeq (· ++ vs.toArray))).push (seqObj "list" vs.toArray 0)).get? (s.heap.objs.size+1)=some (seqObj "list" vs.toArray 0):=by
  rw[<- e1];exact Xr _ rfl
 show wpAny _ _ _ _ _ ({ s with heap:=((s.heap.push (seqObj "list" #[] 0)).update s.heap.objs.size (Obj.mapSeq (· ++ vs.toArray))).push (seqObj "list" vs.toArray 0) }:Shared);rw[e1];refine Xf (XX (wpAny_call_entry slot_list_sort ⟨_,e2,rfl⟩ entry_list_sort (list_sort_tree e2 hI DH λout sX a1 a2 a3=>⟨_,rfl,Xh ⟨_,rfl,h out sX a1 a2 a3⟩⟩) (args_list_sort _)))
end
theorem sortI_perm(ns:ai):(sortI ns).Perm ns:=List.mergeSort_perm ..
theorem xS(ns:ai):(sortI ns).Pairwise (· <= ·):=by
 have:=List.pairwise_mergeSort (le:=λa b:Int=>decide (a<=b)) (by intro a b c;simp;left) (by intro a b;simp;left) ns;unfold sortI;simpa using this
theorem eB:∀{vs:aq} {ns:ai},Vals (ns.map V.int) vs->IntsAre vs ns
 |_,[],h=>by cases h;exact .nil
 |_,n::ns,h=>by
  cases h with
  |cons r t=>obtain⟨tk,rfl⟩:=r;exact .cons n tk (eB t)
theorem pZ:fq X (.builtin "sorted") (λxs H Q=>∃(p:Addr) (ns:ai),xs=[.ref p]/\(dF X.K H p (ns.map V.int)\/a_ X.K H p (ns.map V.int))/\ns.length<64/\∀l,H l=none->Q (.ref l) (upd H l (.lst ((sortI ns).map V.int)))):=by
 intro pins s σ H xs us Q I r h;obtain⟨p,ns,rfl,hq,DH,q⟩:=h;obtain⟨u,rfl,ru⟩:=r.one;cases ru;have fin:∀(vs:aq) (out:bx) (sX:ai),IntsAre out.toList sX->sX.Perm ns->sX.Pairwise (· <= ·)->EP X pins σ Q (.ref (s.heap.objs.size+1)) { s with heap:=sortedAll s.heap vs out }:=by
  intro vs out sX h1 h2 h3;obtain rfl:sX=sortI ns:=PySem.W.ksm_same (h2.trans (sortI_perm ns).symm) h3 (xS ns);obtain⟨e,he⟩:=sortedAll_at s.heap vs out;have hn:H (s.heap.objs.size+1)=none:=I.cn.fresh (Yz _);refine⟨.ref (s.heap.objs.size+1),upd H (s.heap.objs.size+1) (.lst ((sortI ns).map V.int)),I.laid (t':=s.toks) (λb u z=>sortedAll_old z) (Yz _) ⟨?_,out.toList,e,j6 h1,by simpa using he⟩,rfl,q _ hn⟩;rw[List.length_map,(sortI_perm ns).length_eq,sizeLine_eq];left
 rcases hq with hq|hq
 ·obtain⟨aN,rv,pl,hz⟩:=I.list hq;have hl:aN.length<64:=by rw[<- rv.length];simpa using DH
  exact sorted_ints (dS pl) (eB rv) hl λout sX h1 h2 h3=>fin aN out sX h1 h2 h3
 ·obtain⟨aN,rv,⟨o,ho,hc,n,hd⟩,hz⟩:=I.tuple hq;have hl:aN.length<64:=by rw[<- rv.length];simpa using DH
  exact ng ho hc hd (eB rv) hl λout sX h1 h2 h3=>fin aN out sX h1 h2 h3
theorem xH:isSubtype (.type "tuple") (.type "set")=pure false:=by rw[isSubtype_type];kernel_rfl
theorem qx:isSubtype (.type "tuple") (.type "frozenset")=pure false:=by rw[isSubtype_type];kernel_rfl
noncomputable abbrev kX(led:Bool):Obj:={ cls:=.type "set",dict:=none,data:=.set #[] 0 (.fresh 0 0 led) }
noncomputable abbrev dist(ns:ai):ai:=firstMet (λi=>ns.getD i 0) ns.length
section
variable {prog:aJ}{w:World}{A:aQ}{E:aF}{s:Shared}
theorem sI{l:Addr}{aN:aq}{Q:aF}(hh:A.handled=none)(hl:s.heap.IsTuple l aN.toArray)(hi:IntsAre aN ns)(hb:aN.length+1<scanBound)
  (h:∀(h':Heap) (tk:Nat),h'.SetOf (intKind prog w) s.heap.objs.size (λk=>(dist ns).any (· == k)) (dist ns).length->(∀b o,b<s.heap.objs.size->s.heap.get? b=some o->h'.get? b=some o)->Q (.ref s.heap.objs.size) { s with heap:=h',toks:=tk }) :
  wpAny (model prog w) A (call (.type "set") [.ref l]) Q E s:=by
 have Vj:aN.length=ns.length:=hi.length;obtain⟨c,tl,k1⟩:=F.called_set.mro;have k2:=F.called_set.made;have k3:=F.called_set.sub;have k4:=F.called_set.notType;have k5:=F.called_set.canCreate;have k6:=F.typeCall_set_1 (.ref l);refine wpAny_call (codeAny_of_tree (show wpAny _ _ (callAny (.type "set") _) _ _ _ from Xh ⟨YC _ (by decide +kernel),Yo F.entry_type_call ?_⟩));rw[Around.under_plain (weight_type_call_type "set" [.ref l] []) rfl]
 repeat (any_goals (first|assumption|wp_step))
 refine Yh (code_set_new_1 (.ref l) (E:=E) (Q₁:=λz s₁=>∃led:Bool,z=.ref s.heap.objs.size/\s₁={ s with heap:=s.heap.push (kX led) }) λled=>⟨led,rfl,rfl⟩) λr s₁ hr=>?_;cases r with
 |error e=>exact hr
 |ok fl =>
  cases fl with
  |next=>exact hr.elim
  |brk=>exact hr.elim
  |cont=>exact hr.elim
  |ret z =>
   obtain⟨led,rfl,rfl⟩:=hr;have g1:(s.heap.push (kX led)).get? s.heap.objs.size=some (kX led):=Xr _ rfl;have g2:Shared.TypeIs { s with heap:=s.heap.push (kX led) } (.ref s.heap.objs.size) "set":=⟨_,g1,rfl⟩
   have g3:=F.called_set.init.lookup;have g4:=F.called_set.init.bind (.ref s.heap.objs.size)
   repeat (any_goals (first|assumption|wp_step))
   refine Yh (Yp (R:=wants (λr s₂=>r=.none/\∃h' tk,s₂={ s with heap:=h',toks:=tk }/\h'.SetOf (intKind prog w) s.heap.objs.size (λk=>(dist ns).any (· == k)) (dist ns).length/\∀b o,b<s.heap.objs.size->s.heap.get? b=some o->h'.get? b=some o) E) F.called_set.init.plain F.entry_set_init (check_set_init_1 g2 ?_)) λr₂ s₂ rg=>?_
   ·obtain⟨ot,SF,SV,nt,SQ⟩:=hl;obtain⟨oc,od,WQ,yy⟩:=ot;simp only at SV SQ;subst SV;subst SQ;have u1:(s.heap.push (kX led)).get? l=some { cls:=.type "tuple",dict:=od,data:=.seq aN.toArray nt,slots:=yy }:=Xi _ SF;have u2:=xH;have u3:=qx;have u4:(Value.type "tuple" == Value.type "dict")=false:=by decide
    have u5:(s.heap.push (kX led)).IsTuple l aN.toArray:=⟨_,u1,rfl,nt,rfl⟩
    unfold Builtin.«set.__init__» noKeywords Builtin.Frozenset.updateFrom;generalize VP:pyIter=PI
    wp_walk
    subst VP;refine wpAny_pyIter_tuple u5 (Xf (wpAny_runValue ?_));have u6:l<s.heap.objs.size:=Xg SF;have u7:A.in1.in1.in1.handled=none:=by simp[hh]
    have hz:(s.heap.push (kX led)).objs.size=s.heap.objs.size+1:=Heap.size_push ..;have u8:l≠(s.heap.push (kX led)).objs.size:=by rw[hz];exact Xo (Xw u6)
    have u9:s.heap.objs.size∉[(s.heap.push (kX led)).objs.size,l]:=by
     rw[hz];intro m;simp at m;exact absurd m (X5 u6)
    have v1:∀(i:Nat) (v:Value),aN.toArray[i]?=some v->∃t,v=.int ((λi=>ns.getD i 0) i) t:=λi v hv=>hi.int_at i v (by simpa using hv);refine codeAny_set_update_loopS ((Walks.tuple u7 _ l u8 aN.toArray).toS) s.heap.objs.size u9 (λi=>ns.getD i 0) v1 (by rw[List.size_toArray];exact hb) (aN.toArray.size - 0) 0 _ (by left) (X_ _) ⟨⟨_,Xr _ rfl,rfl,rfl⟩,u5.push _⟩ ?hS0 ?hR
    case hS0 =>
     have y1:((s.heap.push (kX led)).push { cls:=.type "tuple_iterator",data:=.fields #[.ref l,.int 0 0] }).get? s.heap.objs.size=some (kX led):=Xi _ g1;exact SetOf_congr ((setObjOf_fresh (knd:=intKind prog w) led).setOf y1 (by unfold scanBound;left)) (λ_=>rfl) rfl
    case hR =>
     intro s' hm Ir;obtain⟨h',g',d',T2,OQ⟩:=s';cases (show g'=s.gens from hm.gens);cases (show d'=s.drawn from hm.drawn);cases (show OQ=s.os from hm.os);have Ir:h'.SetOf (intKind prog w) s.heap.objs.size (λk=>(dist ns).any (· == k)) (dist ns).length:=by
      have e:aN.toArray.size=ns.length:=by rw[List.size_toArray,Vj]
      rw[e]at Ir;exact Ir
     refine Xh (show wpAny _ _ (ret Value.none) _ _ _ from Xh ⟨rfl,h',T2,rfl,Ir,λb o hb e=>hm.heap b o (λm=>?_) (Xi _ (Xi _ e))⟩);rcases List.mem_cons.mp m with m|m
     ·exact Xo hb m
     ·have m:b=(s.heap.push (kX led)).objs.size:=by simpa using m
      rw[hz]at m;exact Xo (Xw hb) m
   ·cases r₂ with
    |error e=>exact rg
    |ok Lo =>
     cases Lo with
     |ret r =>
      obtain⟨rfl,h',tk,rfl,Ir,KZ⟩:=rg
      repeat (any_goals (first|assumption|wp_step))
      exact h _ _ Ir KZ
     |next=>exact rg.elim
     |brk=>exact rg.elim
     |cont=>exact rg.elim
end
theorem zJ(ns:ai):dist ns=kA ns:=by
 unfold dist firstMet kA;have e:(List.range ns.length).map (λi=>ns.getD i 0)=ns:=by
  refine List.ext_getElem (by simp) λi h1 h2=>?_;simp at h1;simp[h1]
 rw[e];rfl
def Uq(K:ak):ae->Hp->VK->Prop:=λxs H Q=>∃(p:Addr) (ns:ai),xs=[.ref p]/\a_ K H p (ns.map V.int)/\ns.length<4000/\Q (.int (kA ns).length) H
theorem boot_set:bootBuiltins ("set" : Str)=some (.type "set"):=by decide +kernel
theorem A_{e:Expr}{t:TA}{p:Pos}(hc:X.calm=true)(Qg:Gl X ("len" : Str))(SH:X.mg ("len" : Str)=none)(Vw:Gl X ("set" : Str))(Vm:X.mg ("set" : Str)=none)(ha:PA X [e] t)
  (la:∀es,starEach (e::es) X.env=(false,eval e X.env)::starEach es X.env):PE X (.Call (.Name ("len" : Str) p) [.Call (.Name ("set" : Str) p') [e] [] pos'] [] pos) (Jj (Uq X.K) t):=by
 intro pins s σ H Q I h;refine XT (hJ I Qg SH PySem.boot_len ?_ (by decide) (by decide));refine PyProof.Rows.callWith_builtin1 ?_ rfl rfl;show wpAny _ _ (spliced ((false,eval (.Call (.Name ("set" : Str) p') [e] [] pos') X.env)::[])) _ _ s;refine Calls.spliced_cons ?_;refine XT (hJ I Vw Vm boot_set ?_ (by decide) (by decide));refine XB (cS (ha pos' pins s σ H _ I h) λus s1 bK=>?_) (la _) rfl;obtain⟨vs,H1,I1,r1,q1⟩:=bK;obtain⟨a,ns,rfl,hq,hl,q⟩:=q1;obtain⟨u,rfl,ru⟩:=r1.one;cases ru;obtain⟨aN,rv,it,hz⟩:=I1.tuple hq;have hle:aN.length=ns.length:=by rw[<- rv.length];simp
 refine sI (I1.ok.hd hc) it (eB rv) (by unfold scanBound;left) λh' tk hS kp=>Calls.spliced_nil ?_;rw[zJ]at hS;obtain⟨o,es,ep,tb,g1,g2,g3,_,_,g6,g7,g8⟩:=hS;refine call_len_set g1 g2 g3 g7 (by unfold scanBound at g6;omega) ?_;exact⟨.int (kA ns).length,H1,I1.kept (t':=tk+1+1) λb u z=>kp b u (Xg z) z,⟨_,by rw[g8]⟩,q⟩
variable {N':gc}{args elts:au}
section
variable {X:Cx}{S:Sx}{k:Nat}{F:ag}{Φ:aV}
theorem Lk.RJ(L:Lk X S k Φ):X.A.units+40<cLine:=by have:=L.room.units;left
def Mq(K:ak)(neg:Bool):R2:=λv u H Q=>∃(d d':D) (N N':gc) (k k':bo),Rep (a_ K H) N k v d/\Rep (a_ K H) N' k' u d'/\(∀q p xs f,N q p (.l xs) f->dF K H p xs)/\(∀q p xs f,N' q p (.l xs) f->dF K H p xs)/\bR 40 d=true/\bR 40 d'=true /\
 Q (.bl (if neg then !eZ d d' else eZ d d')) H
theorem Fs(hu:X.A.units+40<cLine):jt X (compareOp .Eq) (Mq X.K false):=by
 intro pins s σ H x y v u Q I rx ry h;obtain⟨d,d',N,N',k,k',r1,r2,n1,n2,o1,o2,q⟩:=h;exact(alike I n1 n2 40 X.A r1 r2 o1 o2 rx ry hu).rc X.prog X.w X.xe _ ⟨.bl _,H,I,rfl,q⟩
theorem Fq(hu:X.A.units+40<cLine):jt X (compareOp .NotEq) (Mq X.K true):=by
 intro pins s σ H x y v u Q I rx ry h;obtain⟨d,d',N,N',k,k',r1,r2,n1,n2,o1,o2,q⟩:=h;exact(alike I n1 n2 40 X.A r1 r2 o1 o2 rx ry hu).ne X.prog X.w X.xe _ ⟨.bl _,H,I,rfl,q⟩
theorem x9{N:gc}{k:bo}{v v':V}{d d':D}(h:Rep T N k v d)(h':Rep T' N' k' v' d')(f:mC d=true)(f':mC d'=true):h_ v=true/\Cb v v'=eZ d d':=by
 cases h<;>first | (cases f;done) | (cases h'<;>first | (cases f';done)|exact⟨rfl,rfl⟩)
theorem nJ{N:gc}{k:bo}{v:V}{d:D}(h:Rep T N k v d)(f:mC d=true):h_ v=true:=by
 cases h<;>first | (cases f;done)|rfl
theorem oS{T T':mU}{N N':gc}{k':bo}{v:V}{d:D}(hv:Rep T' N' k' v d)(f:mC d=true):∀{k:bo} {n:Nat} {xs:ae} {ds:aa},aB T N k n xs ds->ds.all mC=true->xs.all h_=true/\ML v xs=inD d ds
 |_,_,_,_,.nil,_=>⟨rfl,rfl⟩
 |_,_,_,_,.cons h t,fs=>by
  rw[List.all_cons,Bool.and_eq_true]at fs;obtain⟨h1,h2⟩:=oS hv f t fs.2;obtain⟨g1,g2⟩:=x9 h hv fs.1 f;refine⟨by rw[List.all_cons,g1,h1];rfl,?_⟩;unfold ML at h2 ⊢;rw[List.any_cons,g2,h2];rfl
def EW(K:ak)(op:xo):R2:=match op with
 |.eq=>Mq K false
 |.ne=>Mq K true
 |.lt=>yc λi j=>.bl (decide (i<j))
 |.le=>yc λi j=>.bl (decide (i<=j))
 |.gt=>yc λi j=>.bl (decide (j<i))
 |.ge=>yc λi j=>.bl (decide (j<=i))
 |.F9=>OD K false
theorem yB(L:Lk X S k Φ)(op:xo):jt X (compareOp (OV op)) (EW X.K op):=by
 cases op with
 |eq=>exact Fs L.RJ
 |ne=>exact Fq L.RJ
 |lt=>exact JU
 |le=>exact JV
 |gt=>exact JW
 |ge=>exact JX
 |F9=>exact v_
theorem yI{op:CmpOp}{r:Expr}(h:nP r=true):behindInMarks op r=false:=by
 cases r<;>first|rfl | (cases h;done)
theorem lM{op:xo}{x y d:D}(KO:op=.lt\/op=.le\/op=.gt\/op=.ge)(h:ic op x y=ok d):∃i j,x=.int i/\y=.int j:=by
 cases x with
 |int i=>cases y with
  |int j=>exact⟨i,j,rfl,rfl⟩
  |_=>rcases KO with rfl|rfl|rfl|rfl<;>exact nk h
 |_=>rcases KO with rfl|rfl|rfl|rfl<;>exact nk h
theorem rV{op:xo}{a b:CE}(hq:tD X F Φ (.cmp op a b) σ H Q):Ek (EW X.K op) (tD X F Φ a) (tD X F Φ b) σ H Q:=by
 obtain⟨R,τ,ρ,d,Si,ev,hq⟩:=hq;obtain⟨x,ex,ev⟩:=aH ev;obtain⟨y,ey,ev⟩:=aH ev;refine tD.intro Si ex λv H1 e1 r1=>tD.intro (Si.go e1) ey λu H2 e2 r2=>?_;have e:=e1.trans e2;have rv:=r1.go e2;have ru:=r2;obtain⟨τ1,f1,p1⟩:=rv;obtain⟨τ2,f2,p2⟩:=ru;have sq:∀{A:ag} {τ:Addr->Option bo} (q:bo) (p:Addr) (xs:ae) (f:Fl),nd X.K R A τ H2 q p (.l xs) f->dF X.K H2 p xs:=λq p xs f h=>h.sq;cases op with
 |eq =>
  obtain⟨hc,ev⟩:=ql ev
  ·subst ev;rw[Bool.and_eq_true]at hc;exact⟨x,y,_,_,_,_,p1,p2,sq,sq,hc.1,hc.2,hq _ H2 e .bl⟩
 |ne =>
  obtain⟨hc,ev⟩:=ql ev
  ·subst ev;rw[Bool.and_eq_true]at hc;exact⟨x,y,_,_,_,_,p1,p2,sq,sq,hc.1,hc.2,hq _ H2 e .bl⟩
 |lt=>obtain⟨i,j,rfl,rfl⟩:=lM (by simp) ev;cases ev;exact⟨_,_,(r1.go e2).isInt,r2.isInt,hq _ H2 e .bl⟩
 |le=>obtain⟨i,j,rfl,rfl⟩:=lM (by simp) ev;cases ev;exact⟨_,_,(r1.go e2).isInt,r2.isInt,hq _ H2 e .bl⟩
 |gt=>obtain⟨i,j,rfl,rfl⟩:=lM (by simp) ev;cases ev;exact⟨_,_,(r1.go e2).isInt,r2.isInt,hq _ H2 e .bl⟩
 |ge=>obtain⟨i,j,rfl,rfl⟩:=lM (by simp) ev;cases ev;exact⟨_,_,(r1.go e2).isInt,r2.isInt,hq _ H2 e .bl⟩
 |F9 =>
  simp only[ic]at ev;split at ev
  ·rename_i ds hi;split at ev
   ·rename_i hc;rw[Bool.and_eq_true]at hc;cases ev;cases p2 with
    |tup h rs=>cases hi;obtain⟨g1,g2⟩:=oS p1 hc.1 rs hc.2;exact⟨_,_,rfl,.inr h,nJ p1 hc.1,g1,by rw[g2];exact hq _ H2 e .bl⟩
    |lst h rs=>cases hi;obtain⟨g1,g2⟩:=oS p1 hc.1 rs hc.2;exact⟨_,_,rfl,.inl h.sq,nJ p1 hc.1,g1,by rw[g2];exact hq _ H2 e .bl⟩
    |_=>cases hi
   ·cases ev
  ·cases ev
theorem xM{c:CE}{Q:Bool->Hp->Prop}(h:iJ X F Φ c σ H Q):tB (tD X F Φ c) σ H Q:=by
 obtain⟨R,τ,ρ,b,Si,ev,hq⟩:=h;unfold rK at ev;obtain⟨d,ed,et⟩:=aH ev;refine tD.intro Si ed λv H' e r=>?_;cases d<;>simp[gK]at et;cases et;exact⟨_,r.wx,hq H' e⟩
theorem dv{c:CE}{e:Expr}(h:PE X e (tD X F Φ c))(he:∀whole,isTrue e X.env whole=(do let v <- whole;standAt e.pos;holding [v] (truthy v))):PT X e (iJ X F Φ c) :=
 PT.imp (oU h he) λ_ _ _ h=>xM h
theorem vQ{op:xo}{a b:CE}{Q:Bool->Hp->Prop}(h:iJ X F Φ (.cmp op a b) σ H Q):CP (Ek (EW X.K op) (tD X F Φ a) (tD X F Φ b)) σ H Q :=
 rV (xM h)
theorem dictAt{pins:aj}{s:Shared}{p:Addr}{cs:cj}(I:Inv X pins σ H s)(h:H p=some (.ext (DO p cs as xs ep))):∃o,s.heap.get? p=some o/\o.cls=.type "dict":=by
 obtain⟨⟨zs,o,es,_,_,_,ho,hx,_⟩,_⟩:=(show dj X.prog X.w H s.heap p (.ext (DO p cs as xs ep)) from I.cn p _ h)
 exact⟨o,ho,hx.1⟩
theorem FN(L:Lk X S k Φ)(t:Ty):fq X (.builtin "isinstance") (λxs H Q=>∃(x:V) (d:D) (N:gc) (k:bo),xs=[x,.ty (tyName t)]/\Rep (a_ X.K H) N k x d/\(∀q p xs f,N q p (.l xs) f->dF X.K H p xs)/\(∀q p cs as xs ep f,N q p (.d cs as xs ep) f->H p=some (.ext (DO p cs as xs ep)))/\Q (.bl (cX t d)) H):=by
 intro pins s σ H xs us Q I r h;obtain⟨x,d,N,k,rfl,rp,hN,VQ,q⟩:=h;obtain⟨u,w',rfl,ru,k7⟩:=vals2 r;cases (show w'=Value.type (tyName t) from k7);have kt:=BA X.K t;have fin:∀b:Bool,b=cX t d->∀tk,EP X pins σ Q (.bool b) { s with toks:=tk }:=λb e tk=>⟨.bl b,H,I.tok tk,rfl,by rw[e];exact q⟩
 cases rp with
 |bB=>cases ru;exact XE PySem.W.kitx_none I.uQ True.intro (kt "NoneType" (by simp[kinds])) (λz=>nomatch z) (fin _ (by cases t<;>rfl))
 |bl b=>cases ru;exact XE PySem.W.kitx_bool I.uQ True.intro (kt "bool" (by simp[kinds])) (λz=>nomatch z) (fin _ (by cases t<;>rfl))
 |int i=>obtain⟨t',rfl⟩:=ru;exact XE PySem.W.kitx_int I.uQ True.intro (kt "int" (by simp[kinds])) (λz=>nomatch z) (fin _ (by cases t<;>rfl))
 |str y=>obtain⟨t',rfl⟩:=ru;exact XE PySem.W.kitx_str I.uQ True.intro (kt "str" (by simp[kinds])) (λz=>nomatch z) (fin _ (by cases t<;>rfl))
 |tup h _ =>
  cases ru;obtain⟨aN,_,⟨o,h1,h2,_⟩,_⟩:=I.tuple h;exact XE PySem.W.kitx_tuple I.uQ ⟨o,h1,h2⟩ (kt "tuple" (by simp[kinds])) (λz=>nomatch z) (fin _ (by cases t<;>rfl))
 |lst h _ =>
  cases ru;obtain⟨aN,_,⟨o,n,h1,h2,_⟩,_⟩:=I.list (hN _ _ _ _ h);exact XE PySem.W.kitx_list I.uQ ⟨o,h1,h2⟩ (kt "list" (by simp[kinds])) (λz=>nomatch z) (fin _ (by cases t<;>rfl))
 |gr h _ _ =>
  cases ru;obtain⟨o,h1,h2⟩:∃o,s.heap.get? _=some o/\o.cls=.type "dict":=dictAt I (VQ _ _ _ _ _ _ _ h);exact XE PySem.W.kitx_dict I.uQ ⟨o,h1,h2⟩ (kt "dict" (by simp[kinds])) (λz=>nomatch z) (fin _ (by cases t<;>rfl))
theorem Cr(t:Ty):bootBuiltins (tyName t:Str)=some (.type (tyName t)):=by
 cases t<;>decide +kernel
theorem nG(t:Ty):(tyName t:Str) ≠ "__name__" /\ ((tyName t:Str)==("__debug__" : Str))=false:=by
 cases t<;>decide +kernel
theorem EH(L:Lk X S k Φ){a:CE}{t:Ty}{e:Expr}{p:Pos}(hf:fj S.sc ("isinstance" : Str)=true)(Qj:("isinstance" : Str)∈S.bl)(hg:fj S.sc (tyName t:Str)=true)(Qf:(tyName t:Str)∈S.bl)
  (ha:PE X e (tD X F Φ a)) (la:∀es,starEach (e::es) X.env=(false,eval e X.env)::starEach es X.env):PE X (.Call (.Name ("isinstance" : Str) p) [e,.Name (tyName t:Str) p'] [] pos) (tD X F Φ (.sg a t)):=by
 have hT:PE X (.Name (tyName t:Str) p') (tC (.ty (tyName t))):=uI (L.gl hg) (L.bl _ Qf) (Cr t) rfl (nG t).1 (nG t).2;refine PE.imp (dw (FN L t) (L.gl hf) (L.bl _ Qj) PyProof.Rows.boot_isinstance (cA ha (cA hT eM) (la _)) (he:=la _)) λσ H Q hq=>?_;obtain⟨R,τ,ρ,d,Si,ev,hq⟩:=hq;obtain⟨x,ex,ev⟩:=aH ev;cases ev;refine tD.intro Si ex λv H1 e1 r1=>?_;obtain⟨τ1,f1,p1⟩:=r1;exact⟨v,x,_,_,rfl,p1,λq p xs f h=>h.sq,λq p cs as xs ep f h=>h.dat,hq _ H1 e1 .bl⟩
theorem FW:@DI.pB=@L2.pB:=rfl
theorem JB(L:Lk X S k Φ){a b:CE}{e i:Expr}(ha:PE X e (tD X F Φ a))(hb:PE X i (tD X F Φ b))(hp:j4 i):PE X (.Subscript e i pos) (tD X F Φ (.ix a b)):=by
 refine PE.imp (Dn (uR.or FU) ha hb hp) λσ H Q hq=>?_;obtain⟨R,τ,ρ,d,Si,ev,hq⟩:=hq;obtain⟨x,ex,ev⟩:=aH ev;obtain⟨y,ey,ev⟩:=aH ev;refine tD.intro Si ex λv H1 e1 r1=>tD.intro (Si.go e1) ey λu H2 e2 r2=>?_;have ee:=e1.trans e2;have rv:=(r1.go e2).mono (fv':=gb (.ix a b)) λj hj=>Xu _ hj;have item:∀{q:bo} {xs:ae} {ds:aa} {τt:Addr->Option bo} {j:Int},(∀p q,τt p=some q->H p=none)->aB (a_ X.K H2) (nd X.K R (jm (gP X F) τ (gb (.ix a b))) τt H2) q 0 xs ds->m7 ds j=ok d->∃w,L2.DW xs j=some w/\Q w H2:=by
  intro q xs ds τt j fr rs h;unfold m7 at h;split at h
  ·rename_i d' hd;cases h;cases hx:DI.pB ds.length j with
   |none=>rw[hx]at hd;cases hd
   |some m =>
    rw[hx]at hd;obtain⟨w,hw,k7⟩:=rs.get (show ds[m]?=some d' from hd);refine⟨w,?_,hq w H2 ee ⟨λ_=>none,λ_ _ h=>by simp at h,k7.f9 Si fr⟩⟩;unfold L2.DW;rw[<- FW,rs.length,hx];exact hw
  ·cases h
 cases y with
 |int j =>
  obtain⟨τt,fr,rp⟩:=rv;cases r2.isInt;cases x with
  |tup ds =>
   cases rp with
   | @tup _ p xs _ h rs=>obtain⟨w,h1,h2⟩:=item fr rs ev;exact .inr ⟨p,xs,j,w,rfl,rfl,h,h1,h2⟩
  |lst f ds =>
   cases rp with
   | @lst _ p xs _ _ h rs=>obtain⟨w,h1,h2⟩:=item fr rs ev;exact .inl ⟨p,xs,j,w,rfl,rfl,h.sq,h1,h2⟩
  |_=>exact nk ev
 |_=>cases x<;>cases ev
theorem mD:∀(cs:aC) {ρ:aU} {ds:aa},b8 Φ cs ρ=ok ds->ds.length=cs.length
 |[],_,_,h=>by cases h;rfl
 |c::cs,_,_,h=>by
  obtain⟨x,_,h⟩:=aH h;obtain⟨xs,hx,h⟩:=aH h;cases h;simp[mD cs hx]
theorem ED{es:au}{n:Nat}(h:PA X es (qk X F Φ cs))(hl:cs.length<=1000):PE X (.Tuple es n pos) (tD X F Φ (.tup cs)):=by
 refine PE.imp (E_ h) λσ H Q hq=>?_;obtain⟨R,τ,ρ,d,Si,ev,hq⟩:=hq;obtain⟨ds,Hf,ev⟩:=aH ev;cases ev;refine⟨R,τ,ρ,ds,Si,Hf,λvs H1 e1 r1=>?_⟩;obtain⟨τt,fr,rs⟩:=r1;have hz:sizeLine=16777216:=XY;refine⟨by rw[rs.length,mD cs Hf];left,λp hp=>?_⟩;have es:aI H1 (upd H1 p (.tup vs)):=aI.upd hp;exact hq _ _ (e1.trans es) ⟨τt,fr,.tup (a_.of bh) (rs.imp (λ_ _ h=>a_.same es h) λ_ _ _ _ h=>nd.same es h)⟩
theorem EG{es:au}(h:PA X es (qk X F Φ cs))(hl:cs.length<=1000):PE X (.List es pos) (tD X F Φ (.lst cs)):=by
 refine PE.imp (sR h) λσ H Q hq=>?_;obtain⟨R,τ,ρ,d,Si,ev,hq⟩:=hq;obtain⟨ds,Hf,ev⟩:=aH ev;cases ev;refine⟨R,τ,ρ,ds,Si,Hf,λvs H1 e1 r1=>?_⟩;obtain⟨τt,fr,rs⟩:=r1;have hz:sizeLine=16777216:=XY;refine⟨by rw[rs.length,mD cs Hf];left,λp hp=>?_⟩;have es:aI H1 (upd H1 p (.lst vs)):=aI.upd hp;refine hq _ _ (e1.trans es) ⟨λq=>if q=p then some []else τt q,λq z hq=>?_,.lst ⟨bh,by simp⟩ (rs.imp (λ_ _ h=>a_.same es h) λc q xs f h=>?_)⟩
 ·by_cases w_:q=p
  ·subst w_;exact e1.free hp
  ·simp only[w_,if_false]at hq;exact fr q z hq
 ·have h':=nd.same es h;cases f with
  |ow =>
   have w_:q≠p:=by
    intro z;subst z;exact h.1.ne hp
   exact⟨h'.1,by simp only[w_,if_false];exact h'.2⟩
  |fz=>exact h'
  |al=>exact h'
  |sc=>exact h'
theorem AM(L:Lk X S k Φ){f:Nat}{x:Str}{y:Expr}{ys:au}{p:Pos}(hf:S.fn f=some x)(hg:fj S.sc x=true)(hn:k8 x=true)(ha:PA X (y::ys) (qk X F Φ cs))
  (la:∀es,starEach (y::es) X.env=(false,eval y X.env)::starEach es X.env) (hpl:∀pos,(backTo pos (starEach ys X.env)).any (·.1)=false):PE X (.Call (.Name x p) (y::ys) [] pos) (tD X F Φ (.call f cs)):=by
 obtain⟨a,fd,ps,Fo,hm,hk,hb,hl⟩:=(L.fn f x hf).ex;unfold k8 at hn;simp only[Bool.and_eq_true,Bool.not_eq_true']at hn;refine PE.imp (o7 Fo L.room (L.gl hg) hm hk hb .nil (Dt (X:=X)) ha hn.1.1 (la _) (hpl _)) λσ H Q hq=>?_;obtain⟨R,τ,ρ,d,Si,ev,hq⟩:=hq;obtain⟨xs,eH,ev⟩:=aH ev;obtain⟨r,er,ev⟩:=aH ev;cases ev;refine⟨R,τ,ρ,xs,Si,eH,λvs H1 e1 r1=>?_⟩;obtain⟨τt,fr,rs⟩:=r1;have fresh:∀p,H p=none->jm (gP X F) τ (dk cs) p:=λp hp=>⟨.inr (Si.same.free hp),λc i e=>absurd hp (Si.th p _ e)⟩
 have hR:∀p,R p->jm (gP X F) τ (dk cs) p:=λp hp=>⟨Si.rf p hp,λc i e=>by rw[Si.rt p hp]at e;cases e⟩
 rw[List.append_nil];refine⟨jm (gP X F) τ (dk cs),aw aA xs,r,by rw[rs.length,<- hl _ _ er,aE,List.length_map],aB.iL (λ_ _ h=>h) (λk k' p xs f h=>?_) rs _ _,er,λv H2 e2 rr=>?_⟩
 ·cases f with
  |ow=>exact⟨h.1,fresh p (fr p _ h.2)⟩
  |fz=>exact⟨h.1,hR p h.2⟩
  |al=>exact h
  |sc=>exact h
 ·obtain⟨τ2,Iw,rp⟩:=rr;refine hq v H2 (e1.trans e2) ⟨τ2,λp q h=>e1.free (Iw p q h),Rep.map (q:=[]) (q':=[]) (λ_ _ h=>h) (λc p xs f h=>?_) rp [] rfl⟩;cases f with
  |ow=>exact h
  |fz=>exact⟨h.1,h.2.elim id λz=>fresh p (e1.free z)⟩
  |al=>exact h.2.elim
  |sc=>exact h
def RU(K:ak)(f:Bf):ae->Hp->VK->Prop:=match f with
 |.len=>λxs H Q=>∃p ys,xs=[.ref p]/\(dF K H p ys\/a_ K H p ys)/\Q (.int ys.length) H
 |.abs=>λxs H Q=>∃i,xs=[.int i]/\Q (.int (if i<0 then -i else i)) H
 |.min2=>λxs H Q=>∃i j,xs=[.int i,.int j]/\Q (.int (if j<i then j else i)) H
 |.max2=>λxs H Q=>∃i j,xs=[.int i,.int j]/\Q (.int (if j>i then j else i)) H
 |.list1=>λxs H Q=>∃p ys,xs=[.ref p]/\(dF K H p ys\/a_ K H p ys)/\∀l,H l=none->Q (.ref l) (upd H l (.lst ys))
 |.tuple1=>λxs H Q=>∃p ys,xs=[.ref p]/\((dF K H p ys/\∀l,H l=none->Q (.ref l) (upd H l (.tup ys)))\/(a_ K H p ys/\Q (.ref p) H))
 |.sG=>λxs H Q=>∃(p:Addr) (ns:ai),xs=[.ref p]/\dF K H p (ns.map V.int)/\Q (.int ns.sum) H
 |.all1=>λxs H Q=>∃(p:Addr) (bs:List Bool),xs=[.ref p]/\dF K H p (bs.map V.bl)/\Q (.bl (bs.all id)) H
 |.gg=>λxs H Q=>∃(p:Addr) (ns:ai),xs=[.ref p]/\(dF K H p (ns.map V.int)\/a_ K H p (ns.map V.int))/\ns.length<64/\∀l,H l=none->Q (.ref l) (upd H l (.lst ((sortI ns).map V.int)))
theorem aB.one{N:gc}{k:bo}{n:Nat}{d:D}(h:aB T N k n vs [d]):∃v,vs=[v]/\Rep T N (n::k) v d:=by
 cases h with
 |cons h t=>cases t;exact⟨_,rfl,h⟩
theorem aB.two{N:gc}{k:bo}{n:Nat}{d e:D}(h:aB T N k n vs [d,e]):∃v w,vs=[v,w]/\Rep T N (n::k) v d/\Rep T N ((n+1)::k) w e:=by
 cases h with
 |cons h t=>obtain⟨w,rfl,h'⟩:=t.one;exact⟨_,_,rfl,h,h'⟩
theorem aB.ints1{N:gc}{k:bo}{n:Nat}{i:Int}(h:aB T N k n vs [.int i]):vs=[.int i]:=by
 obtain⟨v,rfl,z⟩:=h.one;cases z;rfl
theorem aB.ints2{N:gc}{k:bo}{n:Nat}{i j:Int}(h:aB T N k n vs [.int i,.int j]):vs=[.int i,.int j]:=by
 obtain⟨v,w,rfl,z,z'⟩:=h.two;cases z;cases z';rfl
noncomputable def Bf.one:Bf->Bool
 |.min2=>false
 |.max2=>false
 |_=>true
theorem Hv{f:Bf}{xs:aa}{d:D}(hf:f.one=true)(h:nC f xs=ok d):∃x,xs=[x]:=by
 cases xs with
 |nil=>cases f<;>exact nk h
 |cons x xs=>cases xs with
  |nil=>exact⟨x,rfl⟩
  |cons y ys=>cases f<;>first | (cases hf;done) | (cases x<;>exact nk h)
theorem Wq{xs:aa}{d:D}(h:nC .min2 xs=ok d):∃i j,xs=[.int i,.int j]:=by
 cases xs with
 |nil=>cases h
 |cons x xs=>cases xs with
  |nil=>cases x<;>cases h
  |cons y ys=>cases ys with
   |cons z zs=>cases x<;>first | (cases h;done) | (cases y<;>cases h)
   |nil=>cases x<;>first | (cases h;done) | (cases y<;>first|exact⟨_,_,rfl⟩ | (cases h;done))
theorem Wo{xs:aa}{d:D}(h:nC .max2 xs=ok d):∃i j,xs=[.int i,.int j]:=by
 cases xs with
 |nil=>cases h
 |cons x xs=>cases xs with
  |nil=>cases x<;>cases h
  |cons y ys=>cases ys with
   |cons z zs=>cases x<;>first | (cases h;done) | (cases y<;>cases h)
   |nil=>cases x<;>first | (cases h;done) | (cases y<;>first|exact⟨_,_,rfl⟩ | (cases h;done))
theorem aB.ofInts{T:mU}{N:gc}{k:bo}:∀{ns:ai} {n:Nat} {vs:ae},aB T N k n vs (ns.map D.int)->vs=ns.map V.int
 |[],_,_,h=>by cases h;rfl
 |i::ns,_,_,h=>by
  cases h with
  |cons h t=>cases h;rw[aB.ofInts t];rfl
theorem aB.Dv{T:mU}{N:gc}{k:bo}:∀{ns:List Bool} {n:Nat} {vs:ae},aB T N k n vs (ns.map D.bl)->vs=ns.map V.bl
 |[],_,_,h=>by cases h;rfl
 |i::ns,_,_,h=>by
  cases h with
  |cons h t=>cases h;rw[aB.Dv t];rfl
theorem nS{T:mU}{N:gc}{k:bo}:∀(ns:ai) {n:Nat},aB T N k n (ns.map V.int) (ns.map D.int)
 |[],_=>.nil
 |i::ns,_=>.cons (.int i) (nS ns)
theorem Cs{f:Bf}(hq:tD X F Φ (.bf f cs) σ H Q):Jj (RU X.K f) (qk X F Φ cs) σ H Q:=by
 obtain⟨R,τ,ρ,d,Si,ev,hq⟩:=hq;obtain⟨xs,eH,ev⟩:=aH ev;refine⟨R,τ,ρ,xs,Si,eH,λvs H1 e1 r1=>?_⟩;obtain⟨τt,fr,rs⟩:=r1;cases f with
 |len =>
  obtain⟨x,rfl⟩:=Hv rfl ev;obtain⟨v,rfl,rv⟩:=rs.one;cases x with
  |tup ds=>cases ev;obtain⟨_,_,rfl,h,r⟩:=rv.IJ;exact⟨_,_,rfl,.inr h,by rw[r.length];exact hq _ H1 e1 .int⟩
  |lst f ds=>cases ev;obtain⟨_,_,rfl,h,r⟩:=rv.qv;exact⟨_,_,rfl,.inl h.sq,by rw[r.length];exact hq _ H1 e1 .int⟩
  |_=>exact nk ev
 |abs =>
  obtain⟨x,rfl⟩:=Hv rfl ev;cases x with
  |int i=>cases ev;cases rs.ints1;exact⟨_,rfl,hq _ H1 e1 .int⟩
  |_=>exact nk ev
 |min2 =>
  obtain⟨i,j,rfl⟩:=Wq ev;cases ev;cases rs.ints2;exact⟨_,_,rfl,hq _ H1 e1 .int⟩
 |max2 =>
  obtain⟨i,j,rfl⟩:=Wo ev;cases ev;cases rs.ints2;exact⟨_,_,rfl,hq _ H1 e1 .int⟩
 |list1 =>
  obtain⟨x,rfl⟩:=Hv rfl ev;obtain⟨v,rfl,rv⟩:=rs.one;cases x with
  |tup ds =>
   cases ev;obtain⟨_,_,rfl,h,r⟩:=rv.IJ;refine⟨_,_,rfl,.inr h,λl hl=>?_⟩;exact hq _ _ (e1.trans (aI.upd hl)) (b_.wb (e1.free hl) (e1.trans (aI.upd hl)) bh ((r.f9 Si fr).imp (λ_ _ h=>a_.same (aI.upd hl) h) λ_ _ _ _ h=>nd.same (aI.upd hl) h))
  |lst f ds =>
   cases ev;obtain⟨_,_,rfl,h,r⟩:=rv.qv;refine⟨_,_,rfl,.inl h.sq,λl hl=>?_⟩;exact hq _ _ (e1.trans (aI.upd hl)) (b_.wb (e1.free hl) (e1.trans (aI.upd hl)) bh ((r.f9 Si fr).imp (λ_ _ h=>a_.same (aI.upd hl) h) λ_ _ _ _ h=>nd.same (aI.upd hl) h))
  |_=>exact nk ev
 |tuple1 =>
  obtain⟨x,rfl⟩:=Hv rfl ev;obtain⟨v,rfl,rv⟩:=rs.one;cases x with
  |lst f ds =>
   cases ev;obtain⟨_,_,rfl,h,r⟩:=rv.qv;refine⟨_,_,rfl,.inl ⟨h.sq,λl hl=>?_⟩⟩;exact hq _ _ (e1.trans (aI.upd hl)) ⟨λ_=>none,λ_ _ h=>by simp at h,.tup (a_.of bh) ((r.f9 Si fr).imp (λ_ _ h=>a_.same (aI.upd hl) h) λ_ _ _ _ h=>nd.same (aI.upd hl) h)⟩
  |_=>exact nk ev
 |sG =>
  obtain⟨x,rfl⟩:=Hv rfl ev;obtain⟨v,rfl,rv⟩:=rs.one;cases x with
  |lst f ds =>
   have ev:(match intsOf ds with|some ns=>ok (.int ns.sum)|none=>none)=ok d:=ev;cases hn:intsOf ds with
   |none=>rw[hn]at ev;cases ev
   |some ns =>
    rw[hn]at ev;cases ev;cases iC hn;cases rv with
    |lst h r=>cases r.ofInts;exact⟨_,ns,rfl,h.sq,hq _ H1 e1 .int⟩
  |_=>exact nk ev
 |all1 =>
  obtain⟨x,rfl⟩:=Hv rfl ev;obtain⟨v,rfl,rv⟩:=rs.one;cases x with
  |lst f ds =>
   have ev:(match iP ds with|some bs=>ok (.bl (bs.all id))|none=>none)=ok d:=ev;cases hn:iP ds with
   |none=>rw[hn]at ev;cases ev
   |some ns =>
    rw[hn]at ev;cases ev;cases rY hn;cases rv with
    |lst h r=>cases r.Dv;exact⟨_,ns,rfl,h.sq,hq _ H1 e1 .bl⟩
  |_=>exact nk ev
 |gg =>
  obtain⟨x,rfl⟩:=Hv rfl ev;obtain⟨v,rfl,rv⟩:=rs.one;have fin:∀ds,qB ds=ok d->∃ns:ai,ds=ns.map D.int/\ns.length<64/\∀l,H1 l=none->Q (.ref l) (upd H1 l (.lst ((sortI ns).map V.int))):=by
   intro ds e;unfold qB at e;split at e
   ·rename_i ns hn;split at e
    ·rename_i DH;cases e;refine⟨ns,iC hn,DH,λl hl=>hq _ _ (e1.trans (aI.upd hl)) (b_.wb (e1.free hl) (e1.trans (aI.upd hl)) bh (nS _))⟩
    ·cases e
   ·cases e
  cases x with
  |tup ds =>
   obtain⟨ns,rfl,DH,q⟩:=fin ds ev;cases rv with
   |tup h r=>cases r.ofInts;exact⟨_,ns,rfl,.inr h,DH,q⟩
  |_=>exact nk ev
theorem JC(L:Lk X S k Φ){f:Bf}{y:Expr}{ys:au}{p:Pos}(hg:fj S.sc (qa f:Str)=true)(hb:(qa f:Str)∈S.bl)(ha:PA X (y::ys) (qk X F Φ cs))
  (la:∀es,starEach (y::es) X.env=(false,eval y X.env)::starEach es X.env) (hpl:∀pos,(backTo pos (starEach ys X.env)).any (·.1)=false):PE X (.Call (.Name (qa f:Str) p) (y::ys) [] pos) (tD X F Φ (.bf f cs)):=by
 refine PE.imp (t:=Jj (RU X.K f) (qk X F Φ cs)) ?_ λσ H Q hq=>Cs hq;cases f with
 |len=>exact dw p7 (L.gl hg) (L.bl _ hb) PySem.boot_len ha (he:=la _) (hpl:=hpl _)
 |abs=>exact dw zR (L.gl hg) (L.bl _ hb) (by decide +kernel) ha (he:=la _) (hpl:=hpl _)
 |min2=>exact dw (wR L.calm) (L.gl hg) (L.bl _ hb) (by decide +kernel) ha (he:=la _) (hpl:=hpl _)
 |max2=>exact dw (wU L.calm) (L.gl hg) (L.bl _ hb) (by decide +kernel) ha (he:=la _) (hpl:=hpl _)
 |list1=>exact nL p6 (L.gl hg) (L.bl _ hb) (by decide +kernel) ha (he:=la _) (hpl:=hpl _)
 |tuple1=>exact nL nB (L.gl hg) (L.bl _ hb) (by decide +kernel) ha (he:=la _) (hpl:=hpl _)
 |sG=>exact dw (wQ L.calm) (L.gl hg) (L.bl _ hb) (by decide +kernel) ha (he:=la _) (hpl:=hpl _)
 |gg=>exact dw pZ (L.gl hg) (L.bl _ hb) (by decide +kernel) ha (he:=la _) (hpl:=hpl _)
 |all1=>exact dw (wV L.calm) (L.gl hg) (L.bl _ hb) (by decide +kernel) ha (he:=la _) (hpl:=hpl _)
theorem AK(L:Lk X S k Φ){a:CE}{e:Expr}{p:Pos}(hf:fj S.sc ("len" : Str)=true)(Qj:("len" : Str)∈S.bl)(hg:fj S.sc ("set" : Str)=true)(Qf:("set" : Str)∈S.bl)
  (ha:PE X e (tD X F Φ a)) (la:∀es,starEach (e::es) X.env=(false,eval e X.env)::starEach es X.env):PE X (.Call (.Name ("len" : Str) p) [.Call (.Name ("set" : Str) p') [e] [] pos'] [] pos) (tD X F Φ (.jI a)):=by
 refine PE.imp (A_ L.calm (L.gl hf) (L.bl _ Qj) (L.gl hg) (L.bl _ Qf) (cA ha eM (la _)) la) λσ H Q hq=>?_;obtain⟨R,τ,ρ,d,Si,ev,hq⟩:=hq;obtain⟨x,ex,ev⟩:=aH ev;refine tD.intro Si ex λv H1 e1 r1=>?_;obtain⟨τ1,f1,rv⟩:=r1;cases x with
 |tup ds =>
  simp only[uN]at ev;split at ev
  ·rename_i ns hn;split at ev
   ·rename_i hl;cases ev;cases iC hn;cases rv with
    |tup h r=>cases r.ofInts;exact⟨_,ns,rfl,h,hl,hq _ H1 e1 .int⟩
   ·cases ev
  ·cases ev
 |_=>exact nk ev
theorem EE{a:CE}{e:Expr}(h:PE X e (tD X F Φ a)):PE X (.UnaryOp .Not e pos) (tD X F Φ (.not a)):=by
 refine PE.imp (Fb h) λσ H Q hq=>?_;obtain⟨R,τ,ρ,d,Si,ev,hq⟩:=hq;obtain⟨b,eb,ev⟩:=aH ev;obtain⟨x,ex,eb⟩:=aH eb;cases ev;refine tD.intro Si ex λv H1 e1 r1=>?_;cases x<;>simp[gK]at eb;cases eb;exact⟨_,r1.wx,hq _ H1 e1 .bl⟩
theorem Ep{a:CE}{e:Expr}(h:PT X e (iJ X F Φ a)):PT X (.UnaryOp .Not e pos) (iJ X F Φ (.not a)):=by
 refine PT.imp (oV h) λσ H Q hq=>?_;obtain⟨R,τ,ρ,b,Si,ev,hq⟩:=hq;unfold rK at ev;obtain⟨d,ed,ev⟩:=aH ev;obtain⟨c,ec,ed⟩:=aH ed;cases ed;have QT:b=!c:=by
  have e2:ok (!c)=ok b:=ev;exact(Except.ok.inj (Xp e2)).symm
 subst QT;exact⟨R,τ,ρ,c,Si,ec,λH' e=>hq H' e⟩
theorem EF{a:CE}{e:Expr}(h:PE X e (tD X F Φ a)):PE X (.UnaryOp .USub e pos) (tD X F Φ (.neg a)):=by
 refine PE.imp (JP Eg h) λσ H Q hq=>?_;obtain⟨R,τ,ρ,d,Si,ev,hq⟩:=hq;obtain⟨x,ex,ev⟩:=aH ev;refine tD.intro Si ex λv H1 e1 r1=>?_;cases x<;>simp[Bq]at ev;cases ev;exact⟨_,r1.isInt,hq _ H1 e1 .int⟩
theorem Ct{c:CE}(hq:tD X F Φ (.and [c]) σ H Q):tD X F Φ c σ H Q:=by
 obtain⟨R,τ,ρ,d,Si,ev,hq⟩:=hq;obtain⟨b,eb,ev⟩:=aH ev;obtain⟨x,ex,eb⟩:=aH eb;cases ev;refine tD.intro Si ex λv H1 e1 r1=>?_;cases x<;>simp[gK]at eb;cases eb;rw[r1.wx];exact hq _ H1 e1 .bl
theorem Fn{c:CE}(hq:tD X F Φ (.or [c]) σ H Q):tD X F Φ c σ H Q:=by
 obtain⟨R,τ,ρ,d,Si,ev,hq⟩:=hq;obtain⟨b,eb,ev⟩:=aH ev;obtain⟨x,ex,eb⟩:=aH eb;cases ev;refine tD.intro Si ex λv H1 e1 r1=>?_;cases x<;>simp[gK]at eb;cases eb;rw[r1.wx];exact hq _ H1 e1 .bl
theorem zU{c:CE}{Q:Bool->Hp->Prop}(hq:iJ X F Φ (.and [c]) σ H Q):iJ X F Φ c σ H Q:=by
 obtain⟨R,τ,ρ,d,Si,ev,hq⟩:=hq;unfold rK at ev;obtain⟨b,eb,ev⟩:=aH ev;obtain⟨x,ex,eb⟩:=aH eb;cases eb;cases ev;exact⟨R,τ,ρ,_,Si,ex,hq⟩
theorem Bg{c:CE}{Q:Bool->Hp->Prop}(hq:iJ X F Φ (.or [c]) σ H Q):iJ X F Φ c σ H Q:=by
 obtain⟨R,τ,ρ,d,Si,ev,hq⟩:=hq;unfold rK at ev;obtain⟨b,eb,ev⟩:=aH ev;obtain⟨x,ex,eb⟩:=aH eb;cases eb;cases ev;exact⟨R,τ,ρ,_,Si,ex,hq⟩
theorem zV{c:CE}(hq:tD X F Φ (.and (c::c'::cs)) σ H Q):CU (tD X F Φ c) (tD X F Φ (.and (c'::cs))) σ H Q:=by
 obtain⟨R,τ,ρ,d,Si,ev,hq⟩:=hq;obtain⟨b,eb,ev⟩:=aH ev;obtain⟨x,ex,eb⟩:=aH eb;refine tD.intro Si ex λv H1 e1 r1=>?_;cases x<;>simp[gK]at eb;cases eb;refine⟨_,r1.wx,?_⟩;cases b with
 |true =>
  rw[if_pos rfl]at ev ⊢;exact tD.intro (Si.go e1) ev λv H' e r=>hq v H' (e1.trans e) ((r.old e1).mono λi hi=>Xk _ hi)
 |false =>
  rw[if_neg (by simp)]at ev ⊢;cases ev;exact hq _ H1 e1 .bl
theorem Bh{c:CE}(hq:tD X F Φ (.or (c::c'::cs)) σ H Q):Jb (tD X F Φ c) (tD X F Φ (.or (c'::cs))) σ H Q:=by
 obtain⟨R,τ,ρ,d,Si,ev,hq⟩:=hq;obtain⟨b,eb,ev⟩:=aH ev;obtain⟨x,ex,eb⟩:=aH eb;refine tD.intro Si ex λv H1 e1 r1=>?_;cases x<;>simp[gK]at eb;cases eb;refine⟨_,r1.wx,?_⟩;cases b with
 |false =>
  rw[if_neg (by simp)]at ev ⊢;exact tD.intro (Si.go e1) ev λv H' e r=>hq v H' (e1.trans e) ((r.old e1).mono λi hi=>Xk _ hi)
 |true =>
  rw[if_pos rfl]at ev ⊢;cases ev;exact hq _ H1 e1 .bl
theorem wW{c:CE}{Q:Bool->Hp->Prop}(hq:iJ X F Φ (.and (c::c'::cs)) σ H Q):Jl (iJ X F Φ c) (iJ X F Φ (.and (c'::cs))) σ H Q:=by
 obtain⟨R,τ,ρ,d,Si,ev,hq⟩:=hq;unfold rK at ev;obtain⟨x,ex,et⟩:=aH ev;obtain⟨b,eb,ev⟩:=aH ex;refine⟨R,τ,ρ,b,Si,eb,λH1 e1=>?_⟩;cases b with
 |true =>
  rw[if_pos rfl]at ev ⊢;exact⟨R,τ,ρ,d,Si.go e1,by unfold rK;rw[show aX Φ (.and (c'::cs)) ρ=ok x from ev];exact et,λH' e=>hq H' (e1.trans e)⟩
 |false =>
  rw[if_neg (by simp)]at ev ⊢;cases ev;cases et;exact hq H1 e1
theorem yA{c:CE}{Q:Bool->Hp->Prop}(hq:iJ X F Φ (.or (c::c'::cs)) σ H Q):RL (iJ X F Φ c) (iJ X F Φ (.or (c'::cs))) σ H Q:=by
 obtain⟨R,τ,ρ,d,Si,ev,hq⟩:=hq;unfold rK at ev;obtain⟨x,ex,et⟩:=aH ev;obtain⟨b,eb,ev⟩:=aH ex;refine⟨R,τ,ρ,b,Si,eb,λH1 e1=>?_⟩;cases b with
 |false =>
  rw[if_neg (by simp)]at ev ⊢;exact⟨R,τ,ρ,d,Si.go e1,by unfold rK;rw[show aX Φ (.or (c'::cs)) ρ=ok x from ev];exact et,λH' e=>hq H' (e1.trans e)⟩
 |true =>
  rw[if_pos rfl]at ev ⊢;cases ev;cases et;exact hq H1 e1
theorem lC{Q:ae->Hp->Prop}(hq:qk X F Φ [] σ H Q):Je σ H Q:=by
 obtain⟨R,τ,ρ,d,Si,ev,hq⟩:=hq;cases ev;exact hq _ H (aI.refl H) .nil
theorem gS{c:CE}{Q:ae->Hp->Prop}(hq:qk X F Φ (c::cs) σ H Q):CT (tD X F Φ c) (qk X F Φ cs) σ H Q:=by
 obtain⟨R,τ,ρ,d,Si,ev,hq⟩:=hq;obtain⟨x,ex,ev⟩:=aH ev;obtain⟨xs,eH,ev⟩:=aH ev;cases ev;refine tD.intro Si ex λv H1 e1 r1=>⟨R,τ,ρ,xs,Si.go e1,eH,λvs H2 e2 r2=>hq _ H2 (e1.trans e2) (cm.cons e1 e2 (r1.mono λi hi=>Xu _ hi) (r2.mono λi hi=>Xk _ hi))⟩
theorem bq{c:CE}{e:Expr}(h:bM S c e=true)(es:au)(env:Env):starEach (e::es) env=(false,eval e env)::starEach es env:=by
 cases e<;>first|rfl | (cases c<;>exact(Xe h).elim)
theorem tZ:∀{cs:aC} {es:au},bL S cs es=true->∀(pos:Pos) (env:Env),(backTo pos (starEach es env)).any (·.1)=false
 |[],[],_,_,_=>rfl
 |[],_::_,h,_,_=>by exact(Xe h).elim
 |_::_,[],h,_,_=>by exact(Xe h).elim
 |c::cs,e::es,h,pos,env=>by
  replace h:=az h;rw[bq h.1];have:=tZ h.2 pos env;unfold backTo at this ⊢;simp only[List.map_cons,List.any_cons,Bool.false_or];exact this
theorem og{c:CE}{e:Expr}(h:bM S c e=true):j4 e:=by
 intro o i;cases e<;>first|rfl | (cases c<;>exact(Xe h).elim)
theorem xZ{j:Nat}:PE X (.Constant .none j pos) (tD X F Φ .bB):=PE.imp yt λσ H Q bK=>by obtain⟨R,τ,ρ,d,Si,ev,hq⟩:=bK;cases ev;exact hq _ H (aI.refl H) .bB
theorem CZ{b:Bool}{j:Nat}:PE X (.Constant (.bool b) j pos) (tD X F Φ (.bl b)):=PE.imp Dp λσ H Q bK=>by obtain⟨R,τ,ρ,d,Si,ev,hq⟩:=bK;cases ev;exact hq _ H (aI.refl H) .bl
theorem x3{i:Int}{j:Nat}:PE X (.Constant (.int i) j pos) (tD X F Φ (.int i)):=PE.imp Fc λσ H Q bK=>by obtain⟨R,τ,ρ,d,Si,ev,hq⟩:=bK;cases ev;exact hq _ H (aI.refl H) .int
theorem xY{i:Str}{j:Nat}:PE X (.Constant (.str i) j pos) (tD X F Φ (.str i)):=PE.imp me λσ H Q bK=>by obtain⟨R,τ,ρ,d,Si,ev,hq⟩:=bK;cases ev;exact hq _ H (aI.refl H) .str
theorem F1(L:Lk X S k Φ){y:Expr}{p:Pos}(g1:fj S.sc ("range" : Str)=true)(g2:("range" : Str)∈S.bl)(pa:PA X [y] (qk X F Φ es))(jN:bL S es [y]=true)
  (pins:aj) (s:Shared) (σ:St) (H:Hp) (R:ag) (τ:Addr->Option bo) (ρ:aU) (xs items:aa) (I:Inv X pins σ H s) (Si:SI X F R τ ρ σ H) (eH:b8 Φ es ρ=ok xs) (lI:dB Φ .kc xs=ok items) (Rr:It->Hp->Prop)
  (hR:∀J H2,aI H H2->Yl X.K J (jD X F τ (caps++dk es) H2) H2 items->Rr J H2) :
  wpAny (model X.prog X.w) X.A (eval (.Call (.Name ("range" : Str) p) [y] [] tE) X.env) (λv s1=>wpAny (model X.prog X.w) X.A (pyIter v) (z6 X pins σ target Rr) X.xe s1) X.xe s:=by
 match es,jN with
 |[c],jN =>
  replace jN:=az jN;refine ki (L.gl g1) (L.bl _ g2) pa (bq jN.1 _ _) pins s σ H Rr I ⟨R,τ,ρ,xs,Si,eH,λvs H1 e1 rv=>?_⟩;obtain⟨τt,fr,rs⟩:=rv;obtain⟨n,rfl⟩:∃n,xs=[.int n]:=by
   cases xs with
   |nil=>cases lI
   |cons x t=>cases x<;>first | (cases lI;done) | (cases t with|nil=>exact⟨_,rfl⟩|cons _ _=>cases lI)
  cases rs.ints1
  ·obtain⟨⟨c1,c2⟩,lI⟩:=ql lI;subst lI;have lg:(cY:Int)=1000000:=rfl;refine⟨n,rfl,by left,by left,hR _ H1 e1 ?_⟩;have:=xq (X:=X) (lo:=0) (n:=n.toNat) (R:=jD X F τ (caps++dk [c]) H1) (H1:=H1);simpa using this
 |[],jN=>exact(Xe jN).elim
 |_::_::_,jN=>exact(Xe (az jN).2).elim
theorem BD(L:Lk X S k Φ){y z:Expr}{p:Pos}(g1:fj S.sc ("range" : Str)=true)(g2:("range" : Str)∈S.bl)(pa:PA X [y,z] (qk X F Φ es))(jN:bL S es [y,z]=true)
  (pins:aj) (s:Shared) (σ:St) (H:Hp) (R:ag) (τ:Addr->Option bo) (ρ:aU) (xs items:aa) (I:Inv X pins σ H s) (Si:SI X F R τ ρ σ H) (eH:b8 Φ es ρ=ok xs) (lI:dB Φ .jE xs=ok items) (Rr:It->Hp->Prop)
  (hR:∀J H2,aI H H2->Yl X.K J (jD X F τ (caps++dk es) H2) H2 items->Rr J H2) :
  wpAny (model X.prog X.w) X.A (eval (.Call (.Name ("range" : Str) p) [y,z] [] tE) X.env) (λv s1=>wpAny (model X.prog X.w) X.A (pyIter v) (z6 X pins σ target Rr) X.xe s1) X.xe s:=by
 match es,jN with
 |[c,c'],jN =>
  replace jN:=And.intro (az jN).1 (az (az jN).2);refine nK (L.gl g1) (L.bl _ g2) pa (by rw[bq jN.1,bq jN.2.1];rfl) (bq jN.2.1 _ _) pins s σ H Rr I ⟨R,τ,ρ,xs,Si,eH,λvs H1 e1 rv=>?_⟩;obtain⟨τt,fr,rs⟩:=rv;obtain⟨m,n,rfl⟩:∃m n,xs=[.int m,.int n]:=by
   cases xs with
   |nil=>cases lI
   |cons x t=>cases x<;>first | (cases lI;done) | (cases t with
    |nil=>cases lI
    |cons y u=>cases y<;>first | (cases lI;done) | (cases u with|nil=>exact⟨_,_,rfl⟩|cons _ _=>cases lI))
  cases rs.ints2
  ·obtain⟨⟨c1,c2,c3,c4⟩,lI⟩:=ql lI;subst lI;have lg:(cY:Int)=1000000:=rfl;exact⟨m,n,rfl,⟨by left,by left,by left,by left⟩,hR _ H1 e1 xq⟩
 |[],jN=>exact(Xe jN).elim
 |[_],jN=>exact(Xe (az jN).2).elim
 |_::_::_::_,jN=>exact(Xe (az (az jN).2).2).elim
theorem F0(L:Lk X S k Φ){c:CE}{y:Expr}(pe:PE X y (tD X F Φ c))
  (pins:aj) (s:Shared) (σ:St) (H:Hp) (R:ag) (τ:Addr->Option bo) (ρ:aU) (xs items:aa) (I:Inv X pins σ H s) (Si:SI X F R τ ρ σ H) (eH:b8 Φ [c] ρ=ok xs) (lI:dB Φ .seq xs=ok items) (Rr:It->Hp->Prop)
  (hR:∀J H2,aI H H2->Yl X.K J (jD X F τ (caps++dk [c]) H2) H2 items->Rr J H2) :
  wpAny (model X.prog X.w) X.A (eval y X.env) (λv s1=>wpAny (model X.prog X.w) X.A (pyIter v) (z6 X pins σ target Rr) X.xe s1) X.xe s:=by
 obtain⟨x,ex,eH⟩:=aH eH;obtain⟨vK,QP,eH⟩:=aH eH;cases QP;cases eH;have SO:∀i∈gb c,i∈caps++dk [c]:=λi hi=>Xk _ (Xu _ hi);cases x with
 |tup ds =>
  cases lI;refine sQ pe pins s σ H Rr I (tD.intro Si ex λv H1 e1 rv=>?_);obtain⟨τt,fr,rp⟩:=rv;cases rp with
  | @tup _ p ys _ hp rs=>exact⟨p,rfl,⟨ys,hp⟩,hR _ H1 e1 (D7 (q:=[]) hp (aB.iL (λ_ _ h=>h) (sJ Si fr SO) rs _ _))⟩
 |lst f ds =>
  cases lI;refine o5 pe pins s σ H Rr I (tD.intro Si ex λv H1 e1 rv=>?_);obtain⟨τt,fr,rp⟩:=rv;cases rp with
  | @lst _ p ys _ _ hp rs=>exact⟨p,rfl,⟨ys,hp.sq⟩,hR _ H1 e1 (Al (q:=[]) hp.sq (aB.iL (λ_ _ h=>h) (sJ Si fr SO) rs _ _))⟩
 |_=>cases lI
theorem IF{xs:aa}{J:It}(Si:SI X F R τ ρ σ H)(hs:∀i∈fv,i∈fv')(r:cm X.K (gP X F) R τ fv H H2 vs xs)(y:LW X.K J H2 vs xs items):
  Yl X.K J (jD X F τ fv' H2) H2 items:=by
 obtain⟨τt,fr,rs⟩:=r;have at':∀H',aI H2 H'->aB (a_ X.K H') (nd X.K (jD X F τ fv' H2) (λ_=>False) (λ_=>none) H') [] 0 vs (aw aA xs):=λH' e =>
  (aB.iL (T':=a_ X.K H2) (λ_ _ h=>h) (sJ Si fr hs) rs [] 0).imp (λ_ _ h=>a_.same e h) λ_ _ _ _ h=>nd.same e h
 have st:∀H',aI H2 H'->vF X.K H2 vs xs H':=λH' e=>⟨⟨_,at' H2 (aI.refl H2),λp o _ h=>e p o h⟩,λ_ _ h=>a_.same e h⟩
 exact⟨λi H' e hi=>y.go i H' _ (st H' e) (at' H' e) hi,λi H' x iN e hi hy=>y.sj i H' _ x iN (st H' e) (at' H' e) hi hy,λi H' e hi=>y.stop i H' _ (st H' e) (at' H' e) hi⟩
theorem F2(L:Lk X S k Φ){p:Nat}{y:Expr}(hp:S.px.pi p S.sc S.bl y=some args)(ht:(decide (1100<=p)||i_ target)=true)(hs:uk X F Φ es args)
  (pins:aj) (s:Shared) (σ:St) (H:Hp) (R:ag) (τ:Addr->Option bo) (ρ:aU) (xs items:aa) (I:Inv X pins σ H s) (Si:SI X F R τ ρ σ H) (eH:b8 Φ es ρ=ok xs) (lI:dB Φ (.eG p) xs=ok items) (Rr:It->Hp->Prop)
  (hR:∀J H2,aI H H2->Yl X.K J (jD X F τ (caps++dk es) H2) H2 items->Rr J H2) :
  wpAny (model X.prog X.w) X.A (eval y X.env) (λv s1=>wpAny (model X.prog X.w) X.A (pyIter v) (z6 X pins σ target Rr) X.xe s1) X.xe s:=by
 obtain⟨d,ed,ei⟩:=aH (show bd (Φ p xs) qH=ok items from lI);exact L.pr.i X _ _ k L.pX p y args hp F es target ht hs pins s σ H R τ ρ xs d items I Si eH ed ei Rr λJ H2 vs e2 r yz=>hR J H2 e2 (IF Si (λi hi=>by simp[hi]) r yz)
theorem rR{S':Sx}{ifs:au}(h3:bF.length<=1)(h4:bL S' bF ifs=true)
  (jO:∀(X':Cx) (F':ag),Lk X' S' k Φ->∀(j:Nat) (c:CE) (e:Expr),bF[j]?=some c->ifs[j]?=some e->PE X' e (tD X' F' Φ c)/\PT X' e (iJ X' F' Φ c)) :
  (bF=[]/\ifs=[])\/∃c e,bF=[c]/\ifs=[e]/\∀(X':Cx) (F':ag),Lk X' S' k Φ->PT X' e (iJ X' F' Φ c):=by
 cases bF with
 |nil=>cases ifs with
  |nil=>exact .inl ⟨rfl,rfl⟩
  |cons _ _=>exact(Xe h4).elim
 |cons c cs=>cases cs with
  |cons _ _=>simp at h3
  |nil=>cases ifs with
   |nil=>exact(Xe h4).elim
   |cons e ifs=>cases ifs with
    |cons _ _=>exact(Xe (az h4).2).elim
    |nil=>exact .inr ⟨c,e,rfl,rfl,λX' F' L'=>(jO X' F' L' 0 c e rfl rfl).2⟩
def LL(S:Sx)(ik:IK)(es:aC)(target iter:Expr):Bool:=match ik with
 |.kc=>bp (eK iter) λw=>decide (w.1=("range" : Str))&&fj S.sc w.1&&decide (w.1∈S.bl)&&bp (one w.2) λy=>bL S es [y]
 |.jE=>bp (eK iter) λw=>decide (w.1=("range" : Str))&&fj S.sc w.1&&decide (w.1∈S.bl)&&bp (two w.2) λy=>bL S es [y.1,y.2]
 |.seq=>bL S es [iter]
 |.eG p=>RV iter&&(decide (1100<=p)||i_ target)&&bp (S.px.pi p S.sc S.bl iter) λxs=>bL S es xs
theorem yX(L:Lk X S k Φ){ik:IK}(jN:∀l,bL S es l=true->PA X l (qk X F Φ es))
  (jO:∀l,bL S es l=true->∀(j:Nat) (c:CE) (e:Expr),es[j]?=some c->l[j]?=some e->PE X e (tD X F Φ c)/\PT X e (iJ X F Φ c)) (Vg:∀l,bL S es l=true->uk X F Φ es l) (h6:LL S ik es target iter=true) :
  ∀(pins:aj) (s:Shared) (σ:St) (H:Hp) (R:ag) (τ:Addr->Option bo) (ρ:aU) (xs items:aa),Inv X pins σ H s->SI X F R τ ρ σ H->b8 Φ es ρ=ok xs->dB Φ ik xs=ok items->∀(Rr:It->Hp->Prop),
   (∀J H2,aI H H2->Yl X.K J (jD X F τ (caps++dk es) H2) H2 items->Rr J H2) ->
   wpAny (model X.prog X.w) X.A (eval iter X.env) (λv s1=>wpAny (model X.prog X.w) X.A (pyIter v) (z6 X pins σ target Rr) X.xe s1) X.xe s:=by
 cases ik with
 |kc =>
  obtain⟨⟨x,as⟩,hv,h6⟩:=bc h6;obtain⟨p,tE,rfl⟩:=bS hv;obtain⟨zj,g3⟩:=az h6;obtain⟨zi,g2⟩:=az zj;obtain⟨zh,g1⟩:=az zi;obtain rfl:x=_:=Xd zh;obtain⟨y,hu,tM⟩:=bc g3;obtain rfl:as=[y]:=cF hu;exact F1 L g1 (Xd g2) (jN _ tM) tM
 |jE =>
  obtain⟨⟨x,as⟩,hv,h6⟩:=bc h6;obtain⟨p,tE,rfl⟩:=bS hv;obtain⟨zj,g3⟩:=az h6;obtain⟨zi,g2⟩:=az zj;obtain⟨zh,g1⟩:=az zi;obtain rfl:x=_:=Xd zh;obtain⟨⟨y,z⟩,hu,tM⟩:=bc g3;obtain rfl:as=[y,z]:=iV hu;exact BD L g1 (Xd g2) (jN _ tM) tM
 |seq =>
  have tH:=jO _ h6;cases es with
  |nil=>exact(Xe h6).elim
  |cons c cs=>cases cs with
   |cons _ _=>exact(Xe (az h6).2).elim
   |nil=>exact F0 L (tH 0 c _ rfl rfl).1
 |eG p =>
  obtain⟨h6,g3⟩:=az h6;obtain⟨xs,ha,tM⟩:=bc g3;exact F2 L ha (az h6).2 (Vg _ tM)
mutual
theorem bu:∀(c:CE) (X:Cx) (S:Sx) (F:ag) (L:Lk X S k Φ) (e:Expr),bM S c e=true->PE X e (tD X F Φ c)/\PT X e (iJ X F Φ c)
 |.eG p cs,X,S,F,L,e,h=>by
  obtain⟨args,ha,hb⟩:=bc (az h).2;exact L.pr.e X _ _ k L.pX p e args ha F cs (iz cs X S F L args hb)
 |.bB,X,S,F,L,e,h=>by
  obtain⟨c,hv,h_1⟩:=bc h;obtain⟨j,p,rfl⟩:=uw hv;obtain rfl:=wq h_1;exact⟨xZ,dv xZ λ_=>rfl⟩
 |.bl b,X,S,F,L,e,h=>by
  obtain⟨c,hv,h_1⟩:=bc h;obtain⟨j,p,rfl⟩:=uw hv;obtain rfl:=y3 h_1;exact⟨CZ,dv CZ λ_=>rfl⟩
 |.int i,X,S,F,L,e,h=>by
  obtain⟨c,hv,h_1⟩:=bc h;obtain⟨j,p,rfl⟩:=uw hv;obtain rfl:=wt h_1;exact⟨x3,dv x3 λ_=>rfl⟩
 |.str t,X,S,F,L,e,h=>by
  obtain⟨c,hv,h_1⟩:=bc h;obtain⟨j,p,rfl⟩:=uw hv;obtain rfl:=wo h_1;exact⟨xY,dv xY λ_=>rfl⟩
 |.v i,X,S,F,L,e,h=>by
  obtain⟨x,hv,h'⟩:=bc h;obtain⟨p,rfl⟩:=iU hv;have:=Ot (F:=F) L h;exact⟨this,dv this λ_=>rfl⟩
 |.glo x i,X,S,F,L,e,h=>by
  obtain⟨y,hv,h_1⟩:=bc h;obtain⟨pos,rfl⟩:=iU hv;obtain⟨h_2,h3⟩:=az h_1;obtain⟨pK,h2⟩:=az h_2;obtain⟨BU,h1⟩:=az pK;obtain rfl:=Xd BU;obtain⟨u,hm,r⟩:=L.cs _ _ (Xd h2);have this:PE X (.Name y pos) (tD X F Φ (.glo y i)):=PE.imp (uH (v:=.int i) (L.gl h1) hm r (dA h3)) λσ H Q bK=>by obtain⟨R,τ,ρ,d,Si,ev,hq⟩:=bK;cases ev;exact hq _ H (aI.refl H) .int
  exact⟨this,dv this λ_=>rfl⟩
 |.bin op a b,X,S,F,L,e,h=>by
  obtain⟨⟨l,o,r⟩,hv,h_1⟩:=bc h;obtain⟨pos,rfl⟩:=Aw hv;obtain⟨h_2,h2⟩:=az h_1;obtain⟨pK,h1⟩:=az h_2;obtain rfl:o=JY op:=Xd pK;have:=EI (F:=F) (pos:=pos) L (op:=op) (bu a X S F L _ h1).1 (bu b X S F L _ h2).1;exact⟨this,dv this λ_=>rfl⟩
 |.neg a,X,S,F,L,e,h=>by
  obtain⟨⟨o,x⟩,hv,h_1⟩:=bc h;obtain⟨pos,rfl⟩:=xw hv;obtain⟨h_2,h1⟩:=az h_1;obtain rfl:o=.USub:=Xd h_2;have:=EF (F:=F) (Φ:=Φ) (pos:=pos) (bu a X S F L _ h1).1;exact⟨this,dv this λ_=>rfl⟩
 |.not a,X,S,F,L,e,h=>by
  obtain⟨⟨o,x⟩,hv,h_1⟩:=bc h;obtain⟨pos,rfl⟩:=xw hv;obtain⟨h_2,h1⟩:=az h_1;obtain rfl:o=.Not:=Xd h_2;exact⟨EE (bu a X S F L _ h1).1,Ep (bu a X S F L _ h1).2⟩
 |.and cs,X,S,F,L,e,h=>by
  obtain⟨⟨o,vs⟩,hv,h_1⟩:=bc h;obtain⟨pos,rfl⟩:=qw hv;obtain⟨h_2,h1⟩:=az h_1;obtain rfl:o=.And:=Xd h_2;exact⟨(j7 cs X S F L vs h1 pos).1,(j7 cs X S F L vs h1 pos).2.pt⟩
 |.or cs,X,S,F,L,e,h=>by
  obtain⟨⟨o,vs⟩,hv,h_1⟩:=bc h;obtain⟨pos,rfl⟩:=qw hv;obtain⟨h_2,h1⟩:=az h_1;obtain rfl:o=.Or:=Xd h_2;exact⟨(l7 cs X S F L vs h1 pos).1,(l7 cs X S F L vs h1 pos).2.pt⟩
 |.cmp op a b,X,S,F,L,e,h=>by
  obtain⟨⟨l,os,rs⟩,hv,h_1⟩:=bc h;obtain⟨pos,rfl⟩:=Av hv;obtain⟨h_2,h2⟩:=az h_1;obtain⟨pK,h1⟩:=az h_2;obtain⟨r,hr,QD⟩:=bc h2;obtain⟨Li,h3⟩:=az QD;obtain rfl:os=[OV op]:=Xd pK;obtain rfl:rs=[r]:=cF hr;exact⟨PE.imp (Ba (yB L op) (bu a X S F L _ h1).1 (bu b X S F L _ Li).1 (yI h3)) λ_ _ _ pK=>rV pK,PT.imp (A2 (yB L op) (bu a X S F L _ h1).1 (bu b X S F L _ Li).1 (yI h3)) λ_ _ _ pK=>vQ pK⟩
 |.sg a t,X,S,F,L,e,h=>by
  obtain⟨⟨f,as⟩,hv,h_1⟩:=bc h;obtain⟨p,pos,rfl⟩:=bS hv;obtain⟨h_2,h5⟩:=az h_1;obtain⟨pK,h2⟩:=az h_2;obtain⟨BU,h1⟩:=az pK;obtain rfl:f=_:=Xd BU;obtain⟨⟨e,g⟩,hw,BV⟩:=bc h5;obtain rfl:as=[e,g]:=iV hw;obtain⟨Lg,h6⟩:=az BV;obtain⟨x,hn,zj⟩:=bc h6;obtain⟨p',rfl⟩:∃p,g=.Name x p:=iU hn;obtain⟨zi,h4⟩:=az zj;obtain⟨zh,h3⟩:=az zi;obtain rfl:=Xd zh;have:=EH (F:=F) (p:=p) (p':=p') (pos:=pos) L h1 (Xd h2) h3 (Xd h4) (bu a X S F L _ Lg).1 (λes=>bq Lg es _);exact⟨this,dv this λ_=>rfl⟩
 |.call f cs,X,S,F,L,e,h=>by
  obtain⟨⟨x,as⟩,hv,h_1⟩:=bc h;obtain⟨p,pos,rfl⟩:=bS hv;obtain⟨h_2,h4⟩:=az h_1;obtain⟨pK,h3⟩:=az h_2;obtain⟨h1,h2⟩:=az pK;obtain⟨⟨y,ys⟩,hu,pL⟩:=bc h4;obtain rfl:as=y::ys:=so hu;cases cs with
  |nil=>exact(Xe pL).elim
  |cons c cs' =>
   have Lh:=az pL;have:=AM (F:=F) (p:=p) (pos:=pos) L (Xd h1) h2 h3 (eL (c::cs') X S F L (y::ys) pL) (λes=>bq Lh.1 es _) (λpos=>tZ Lh.2 pos _);exact⟨this,dv this λ_=>rfl⟩
 |.bf f cs,X,S,F,L,e,h=>by
  obtain⟨⟨x,as⟩,hv,h_1⟩:=bc h;obtain⟨p,pos,rfl⟩:=bS hv;obtain⟨h_2,h4⟩:=az h_1;obtain⟨pK,h3⟩:=az h_2;obtain⟨BU,h2⟩:=az pK;obtain rfl:x=_:=Xd BU;obtain⟨⟨y,ys⟩,hu,pL⟩:=bc h4;obtain rfl:as=y::ys:=so hu;cases cs with
  |nil=>exact(Xe pL).elim
  |cons c cs' =>
   have Lh:=az pL;have:=JC (F:=F) (p:=p) (pos:=pos) L h2 (Xd h3) (eL (c::cs') X S F L (y::ys) pL) (λes=>bq Lh.1 es _) (λpos=>tZ Lh.2 pos _);exact⟨this,dv this λ_=>rfl⟩
 |.jI a,X,S,F,L,e,h=>by
  obtain⟨⟨x,as⟩,hv,h_1⟩:=bc h;obtain⟨p,pos,rfl⟩:=bS hv;obtain⟨h_2,h4⟩:=az h_1;obtain⟨pK,h2⟩:=az h_2;obtain⟨BU,h1⟩:=az pK;obtain rfl:x=_:=Xd BU;obtain⟨y,hu,pL⟩:=bc h4;obtain rfl:as=[y]:=cF hu;obtain⟨⟨z,bs⟩,hw,h4_3⟩:=bc pL;obtain⟨p',pos',rfl⟩:=bS hw;obtain⟨QA,h5⟩:=az h4_3;obtain⟨Qz,h6⟩:=az QA;obtain⟨Qy,h3⟩:=az Qz;obtain rfl:z=_:=Xd Qy;obtain⟨u,PF,BV⟩:=bc h5;obtain rfl:bs=[u]:=cF PF;have:=AK (F:=F) (p:=p) (p':=p') (pos:=pos) (pos':=pos') L h1 (Xd h2) h3 (Xd h6) (bu a X S F L _ BV).1 (λes=>bq BV es _);exact⟨this,dv this λ_=>rfl⟩
 |.ix a b,X,S,F,L,e,h=>by
  obtain⟨⟨l,r⟩,hv,h_1⟩:=bc h;obtain⟨pos,rfl⟩:=fc hv;obtain⟨h1,h2⟩:=az h_1;have:=JB (F:=F) (pos:=pos) L (bu a X S F L _ h1).1 (bu b X S F L _ h2).1 (og h2);exact⟨this,dv this λ_=>rfl⟩
 |.tup cs,X,S,F,L,e,h=>by
  obtain⟨es,hv,h_1⟩:=bc h;obtain⟨n,pos,rfl⟩:=jy hv;obtain⟨h1,h2⟩:=az h_1;have:=ED (F:=F) (n:=n) (pos:=pos) (eL cs X S F L es h1) (Xd h2);exact⟨this,dv this λ_=>rfl⟩
 |.lst cs,X,S,F,L,e,h=>by
  obtain⟨es,hv,h_1⟩:=bc h;obtain⟨pos,rfl⟩:=Ar hv;obtain⟨h1,h2⟩:=az h_1;have:=EG (F:=F) (pos:=pos) (eL cs X S F L es h1) (Xd h2);exact⟨this,dv this λ_=>rfl⟩
 |.comp n t caps ik es bF elt,X,S,F,L,e,h=>by
  obtain⟨⟨iM,gens,sc⟩,hv,h_1⟩:=bc h;obtain⟨pos,rfl⟩:=xy hv;obtain⟨⟨target,iter,ifs,a⟩,hg,h_2⟩:=bc h_1;obtain rfl:gens=_:=cF hg;obtain⟨pK,h6⟩:=az h_2;obtain⟨BU,h5⟩:=az pK;obtain⟨VL,h4⟩:=az BU;obtain⟨VJ,h3⟩:=az VL;obtain⟨VI,h2⟩:=az VJ;obtain⟨VH,h1⟩:=az VI;obtain rfl:a=0:=Xd VH;have jO:=λ(X':Cx) (F':ag) (L':Lk X' (S.inner target caps sc) k Φ)=>gU bF X' _ F' L' ifs h4;have this:PE X (.ListComp iM [⟨target,iter,ifs,0⟩] sc pos) (tD X F Φ (.comp n t caps ik es bF elt)) :=
   AL L (n_ h1) h2 (λX' F' L'=>(bu elt X' _ F' L' iM h5).1) (rR (Xd h3) h4 jO) (yX L (λl=>eL es X S F L l) (λl=>gU es X S F L l) (λl=>iz es X S F L l) h6)
  exact⟨this,dv this λ_=>rfl⟩
theorem gU:∀(cs:aC) (X:Cx) (S:Sx) (F:ag) (L:Lk X S k Φ) (es:au),bL S cs es=true->∀(j:Nat) (c:CE) (e:Expr),cs[j]?=some c->es[j]?=some e->PE X e (tD X F Φ c)/\PT X e (iJ X F Φ c)
 |[],X,S,F,L,_,_=>λj c e h _=>by simp at h
 |_::_,X,S,F,L,[],h=>by exact(Xe h).elim
 |c::cs,X,S,F,L,e::es,h=>λj c' e' hc he=>by
  replace h:=az h;cases j with
  |zero=>simp at hc he;subst hc he;exact bu c X S F L e h.1
  |succ j=>exact gU cs X S F L es h.2 j c' e' (by simpa using hc) (by simpa using he)
theorem iz:∀(cs:aC) (X:Cx) (S:Sx) (F:ag) (L:Lk X S k Φ) (es:au),bL S cs es=true->uk X F Φ cs es
 |[],X,S,F,L,[],_=>trivial
 |[],X,S,F,L,_::_,h=>by exact(Xe h).elim
 |_::_,X,S,F,L,[],h=>by exact(Xe h).elim
 |c::cs,X,S,F,L,e::es,h=>by
  replace h:=az h;exact⟨(bu c X S F L e h.1).1,λl=>bq h.1 l _,og h.1,iz cs X S F L es h.2⟩
theorem eL:∀(cs:aC) (X:Cx) (S:Sx) (F:ag) (L:Lk X S k Φ) (es:au),bL S cs es=true->PA X es (qk X F Φ cs)
 |[],X,S,F,L,[],_=>PA.imp eM λ_ _ _ h=>lC h
 |[],X,S,F,L,_::_,h=>by exact(Xe h).elim
 |_::_,X,S,F,L,[],h=>by exact(Xe h).elim
 |c::cs,X,S,F,L,e::es,h=>by
  replace h:=az h;exact PA.imp (cA (bu c X S F L e h.1).1 (eL cs X S F L es h.2) (bq h.1 es _)) λ_ _ _ h=>gS h
theorem j7:∀(cs:aC) (X:Cx) (S:Sx) (F:ag) (L:Lk X S k Φ) (es:au),bL S cs es=true->∀pos,PE X (.BoolOp .And es pos) (tD X F Φ (.and cs))/\PW X (.BoolOp .And es pos) (iJ X F Φ (.and cs))
 |[],X,S,F,L,_,_,pos=>⟨λ_ _ _ _ _ _ ⟨_,_,_,_,_,ev,_⟩=>(by cases ev),λ_ _ _ _ _ _ _ bK=>by obtain⟨_,_,_,_,_,ev,_⟩:=bK;cases ev⟩
 |[c],X,S,F,L,[e],h,pos=>by
  replace h:=az h;exact⟨PE.imp (yr (bu c X S F L e h.1).1) λ_ _ _ h=>Ct h,PW.imp (uD (bu c X S F L e h.1).2) λ_ _ _ h=>zU h⟩
 |[_],X,S,F,L,[],h,_=>by exact(Xe h).elim
 |[_],X,S,F,L,_::_::_,h,_=>by exact(Xe (az h).2).elim
 |_::_::_,X,S,F,L,[],h,_=>by exact(Xe h).elim
 |_::_::_,X,S,F,L,[_],h,_=>by exact(Xe (az h).2).elim
 |c::c'::cs,X,S,F,L,e::e'::es,h,pos=>by
  replace h:=az h;have r:=j7 (c'::cs) X S F L (e'::es) h.2 pos;exact⟨PE.imp (Fd (bu c X S F L e h.1).1 r.1) λ_ _ _ h=>zV h,PW.imp (yf (bu c X S F L e h.1).2 r.2) λ_ _ _ h=>wW h⟩
theorem l7:∀(cs:aC) (X:Cx) (S:Sx) (F:ag) (L:Lk X S k Φ) (es:au),bL S cs es=true->∀pos,PE X (.BoolOp .Or es pos) (tD X F Φ (.or cs))/\PW X (.BoolOp .Or es pos) (iJ X F Φ (.or cs))
 |[],X,S,F,L,_,_,pos=>⟨λ_ _ _ _ _ _ ⟨_,_,_,_,_,ev,_⟩=>(by cases ev),λ_ _ _ _ _ _ _ bK=>by obtain⟨_,_,_,_,_,ev,_⟩:=bK;cases ev⟩
 |[c],X,S,F,L,[e],h,pos=>by
  replace h:=az h;exact⟨PE.imp (yr (bu c X S F L e h.1).1) λ_ _ _ h=>Fn h,PW.imp (ye (bu c X S F L e h.1).2) λ_ _ _ h=>Bg h⟩
 |[_],X,S,F,L,[],h,_=>by exact(Xe h).elim
 |[_],X,S,F,L,_::_::_,h,_=>by exact(Xe (az h).2).elim
 |_::_::_,X,S,F,L,[],h,_=>by exact(Xe h).elim
 |_::_::_,X,S,F,L,[_],h,_=>by exact(Xe (az h).2).elim
 |c::c'::cs,X,S,F,L,e::e'::es,h,pos=>by
  replace h:=az h;have r:=l7 (c'::cs) X S F L (e'::es) h.2 pos;exact⟨PE.imp (JQ (bu c X S F L e h.1).1 r.1) λ_ _ _ h=>Bh h,PW.imp (C6 (bu c X S F L e h.1).2 r.2) λ_ _ _ h=>yA h⟩
end
theorem dN(L:Lk X S k Φ)(c:CE)(e:Expr)(h:bM S c e=true):PE X e (tD X F Φ c)/\PT X e (iJ X F Φ c):=bu c X S F L e h
theorem qA(L:Lk X S k Φ)(cs:aC)(es:au)(h:bL S cs es=true):uk X F Φ cs es:=iz cs X S F L es h
theorem lE(L:Lk X S k Φ)(cs:aC)(es:au)(h:bL S cs es=true):PA X es (qk X F Φ cs):=eL cs X S F L es h
end
section
variable {T T':mU}{N N':gc}
theorem aB.child{q:bo}(hT:∀p xs,T p xs->T' p xs)(hN:∀c m p xs f,N (c++(m::q)) p xs f->N' (c++(m::q)) p xs f):∀{n:Nat} {vs:ae} {ds:aa},aB T N q n vs ds->aB T' N' q n vs ds
 |_,_,_,.nil=>.nil
 |n,_,_,.cons h t=>.cons (Rep.imp (q:=n::q) (q':=n::q) hT (λc p xs f h=>hN c n p xs f h) h) (aB.child hT hN t)
theorem aB.uA{q:bo}{v:V}{d:D}:∀{n:Nat} {vs:ae} {ds:aa},aB T N q n vs ds->Rep T N ((n+ds.length)::q) v d->aB T N q n (vs++[v]) (ds++[d])
 |n,_,_,.nil,h=>.cons (by simpa using h) .nil
 |n,_,_,.cons (ds:=ds) h t,h'=>.cons h (aB.uA t (by
   have e:n+(ds.length+1)=n+1+ds.length:=by left
   rw[List.length_cons,e]at h';exact h'))
theorem aB.setAt{q:bo}{v:V}{d:D}:∀{n j:Nat} {vs:ae} {ds:aa},aB T N q n vs ds->Rep T N ((n+j)::q) v d->aB T N q n (vs.set j v) (ds.set j d)
 |_,_,_,_,.nil,_=>by simp;exact .nil
 |_,0,_,_,.cons _ t,h'=>.cons (by simpa using h') t
 |n,j+1,_,_,.cons h t,h'=>.cons h (aB.setAt (j:=j) t (by
   have e:n+(j+1)=n+1+j:=by left
   rw[e]at h';exact h'))
end
variable {d0 d1:D}{n':Nd}
section
variable {X:Cx}{F R:ag}{τ:Addr->Option bo}{ρ:aU}{σ:St}{H:Hp}
theorem SI.own{i:Nat}(Si:SI X F R τ ρ σ H)(hi:ρ[i]?=some (some (.lst .ow ds))):∃p xs,σ[i]?=some (some (.ref p))/\H p=some (.lst xs)/\xs.length=ds.length/\τ p=some [i]/\aB (a_ X.K H) (nd X.K R (λ_=>False) τ H) [i] 0 xs ds:=by
 obtain⟨v,hv,rp⟩:=Si.rep i _ hi;cases rp with
 |lst h r=>exact⟨_,_,hv,h.1,r.length,h.2,r⟩
theorem Ol{H:Hp}{p:Addr}{n:Nd}{o:HO}(hp:d6 H p n){a:Addr}(h:a_ K H a ys):a_ K (upd H p o) a ys:=by
 obtain⟨o0,Ii,KJ,Ih⟩:=d6.some hp;have nO:∀a u,H a=some u->u≠o0->a≠p:=λa u e h z=>by subst z;rw[Ii]at e;cases e;exact h rfl
 rcases h with (h|⟨o',h⟩)|h
 ·exact .inl (.inl (by rw[aY (nO a _ h λz=>KJ _ z.symm)];exact h))
 ·exact .inl (.inr ⟨o',by rw[aY (nO a _ h λz=>Ih _ _ z.symm)];exact h⟩)
 ·exact .inr h
theorem SI.OL{i m:Nat}{v:V}{d:D}{p:Addr}{n:Nd}{o:HO}(Si:SI X F R τ ρ σ H)(hi:ρ[i]?=some (some d0))(hv:σ[i]?=some (some (.ref p)))(hp:d6 H p n)(ht:τ p=some [i])
  (rs:aB (a_ X.K H) (nd X.K R (λ_=>False) τ H) [i] 0 xs ds) (rk:gO X R τ H v d) (xg:d6 (upd H p o) p n')
  (mk:∀{N:gc},N [i] p n' .ow->aB (a_ X.K (upd H p o)) N [i] 0 vK fV->Rep (a_ X.K (upd H p o)) N [i] (.ref p) d1)
  (hb:∀{N:gc},aB (a_ X.K (upd H p o)) N [i] 0 xs ds->Rep (a_ X.K (upd H p o)) N (m::[i]) v d->aB (a_ X.K (upd H p o)) N [i] 0 vK fV) :
  ∃τ',SI X F R τ' (ρ.set i (some d1)) σ (upd H p o)/\τ' p=some [i]/\aB (a_ X.K (upd H p o)) (nd X.K R (λ_=>False) τ' (upd H p o)) [i] 0 vK fV:=by
 obtain⟨τt,hτ,rp⟩:=rk;have Qb:i<ρ.length:=by
  by_cases z:i<ρ.length
  ·exact z
  ·rw[List.getElem?_eq_none (by left)]at hi;cases hi
 obtain⟨o0,Ii,KJ,Ih⟩:=d6.some hp;have nR:∀a,R a->a≠p:=λa ha e=>by subst e;rw[Si.rt _ ha]at ht;cases ht
 have nT:∀a q,τt a=some q->a≠p:=λa q e z=>by subst z;rw[(hτ _ q e).1]at ht;cases ht
 have nO:∀a u,H a=some u->u≠o0->a≠p:=λa u e h z=>by subst z;rw[Ii]at e;cases e;exact h rfl
 have keep:∀a,a≠p->(upd H p o) a=H a:=λa h=>aY h;have Gx:∀a ys,a_ X.K H a ys->a_ X.K (upd H p o) a ys:=λa ys h=>by
  rcases h with (h|⟨o',h⟩)|h
  ·exact .inl (.inl (by rw[keep a (nO a _ h λz=>KJ _ z.symm)];exact h))
  ·exact .inl (.inr ⟨o',by rw[keep a (nO a _ h λz=>Ih _ _ z.symm)];exact h⟩)
  ·exact .inr h
 have MV:∀a (z:Nd),a≠p->d6 H a z->d6 (upd H p o) a z:=λa z ne h=>h.at λu e=>by rw[keep a ne];exact e
 have S0:∀{τ1:Addr->Option bo} q q' a (z:Nd),nd X.K R (λ_=>False) τ1 H q a z .sc->∀τ2,nd X.K R (λ_=>False) τ2 (upd H p o) q' a z .sc:=λq q' a z h τ2=>by
  obtain⟨ys,rfl,h⟩:=h.x4;exact h.elim (λ⟨o',w⟩=>.inl ⟨o',by rw[keep a (nO a _ w λz=>Ih _ _ z.symm)];exact w⟩) .inr
 have S8:∀q a ys f,q≠[i]->nd X.K R (λ_=>False) τ H q a ys f->nd X.K R (λ_=>False) (λa=>match τt a with|some q=>some (q++[m,i])|none=>τ a) (upd H p o) q a ys f:=λq a ys f hq h=>by
  cases f with
  |ow =>
   have ne:a≠p:=λz=>by
    subst z;have:=h.2.symm.trans ht;exact hq (Xp this)
   refine⟨MV a ys ne h.1,?_⟩;cases z:τt a with
   |none=>simp only[z];exact h.2
   |some k=>have:=(hτ a k z).1;rw[h.2]at this;cases this
  |fz=>exact⟨MV a ys (nR a h.2) h.1,h.2⟩
  |al=>exact h.2.elim
  |sc=>exact S0 q q a ys h _
 have MP:(match τt p with|some q=>some (q++[m,i])|none=>τ p)=some [i]:=by
  cases z:τt p with
  |none=>exact ht
  |some k=>exact absurd rfl (nT p k z)
 have S7:aB (a_ X.K (upd H p o)) (nd X.K R (λ_=>False) (λa=>match τt a with|some q=>some (q++[m,i])|none=>τ a) (upd H p o)) [i] 0 vK fV:=hb (aB.child Gx (λc n a ys f h=>S8 _ a ys f (λz=>by
  have:=XI List.length z;simp at this) h) rs) (rp.imp (q:=[]) (q':=[m,i]) Gx λc a ys f h=>by
  cases f with
  |ow =>
   rw[List.append_nil]at h;exact⟨MV a ys (nT a _ h.2) h.1,by simp only[h.2]⟩
  |fz=>exact⟨MV a ys (nR a h.2) h.1,h.2⟩
  |al=>exact h.2.elim
  |sc=>exact S0 _ _ a ys h _)
 refine⟨λa=>match τt a with|some q=>some (q++[m,i])|none=>τ a,⟨by simp[Si.len],λj d' hj=>?_,λa ha=>?_,λa ha=>?_,Si.rf,λa q hq=>?_,λa q hq=>?_,?_⟩,MP,S7⟩
 ·by_cases m5:j=i
  ·subst m5;rw[List.getElem?_set_self Qb]at hj;cases hj;exact⟨.ref p,hv,mk ⟨xg,MP⟩ S7⟩
  ·rw[List.getElem?_set_ne (Ne.symm m5)]at hj;obtain⟨u,hu,ru⟩:=Si.rep j d' hj;refine⟨u,hu,ru.imp (q:=[j]) (q':=[j]) Gx λc a ys f h=>S8 _ a ys f (λz=>?_) h⟩;have:=XI List.getLast? z;simp at this;exact m5 this
 ·cases z:τt a with
  |none=>simp only[z];exact Si.rt a ha
  |some k=>exact absurd ha (hτ a k z).2.1
 ·rw[keep a (nR a ha)];exact Si.rh a ha
 ·by_cases SY:a=p
  ·subst SY;rw[bh];simp
  ·rw[keep a SY];cases z:τt a with
   |none=>simp only[z]at hq;exact Si.th a q hq
   |some k=>exact(hτ a k z).2.2.2
 ·cases z:τt a with
  |none=>simp only[z]at hq;exact Si.t0 a q hq
  |some k=>exact(hτ a k z).2.2.1
 ·intro a u e;have ne:a≠p:=λz=>by subst z;rw[Si.t0 _ _ ht]at e;cases e
  rw[keep a ne];exact Si.same a u e
theorem SI.OM{i m:Nat}{v:V}{d:D}{p:Addr}{n:Nd}{o:HO}(Si:SI X F R τ ρ σ H)(hi:ρ[i]?=some (some d0))(hv:σ[i]?=some (some (.ref p)))(hp:d6 H p n)(ht:τ p=some [i])
  (rs:aB (a_ X.K H) (nd X.K R (λ_=>False) τ H) [i] 0 xs ds) (rk:gO X R τ H v d) (xg:d6 (upd H p o) p n')
  (mk:∀{N:gc},N [i] p n' .ow->aB (a_ X.K (upd H p o)) N [i] 0 vK fV->Rep (a_ X.K (upd H p o)) N [i] (.ref p) d1)
  (hb:∀{N:gc},aB (a_ X.K (upd H p o)) N [i] 0 xs ds->Rep (a_ X.K (upd H p o)) N (m::[i]) v d->aB (a_ X.K (upd H p o)) N [i] 0 vK fV) :
  ∃τ',SI X F R τ' (ρ.set i (some d1)) σ (upd H p o):=(Si.OL hi hv hp ht rs rk xg mk hb).imp λ_ h=>h.1
theorem SI.put{i m:Nat}{v:V}{d:D}{g:ae->ae}{p:Addr}(Si:SI X F R τ ρ σ H)(hi:ρ[i]?=some (some (.lst .ow ds)))(hv:σ[i]?=some (some (.ref p)))(hp:H p=some (.lst xs))(ht:τ p=some [i])
  (rs:aB (a_ X.K H) (nd X.K R (λ_=>False) τ H) [i] 0 xs ds) (rk:gO X R τ H v d)
  (hb:∀{N:gc},aB (a_ X.K (upd H p (.lst (g xs)))) N [i] 0 xs ds->Rep (a_ X.K (upd H p (.lst (g xs)))) N (m::[i]) v d->aB (a_ X.K (upd H p (.lst (g xs)))) N [i] 0 (g xs) fV) :
  ∃τ',SI X F R τ' (ρ.set i (some (.lst .ow fV))) σ (upd H p (.lst (g xs))) :=
 Si.OM (n:=.l xs) (n':=.l (g xs)) hi hv hp ht rs rk bh (λh r=>.lst h r) hb
end
section
variable {X:Cx}{S:Sx}{k:Nat}{F:ag}{Φ:aV}
theorem oK(L:Lk X S k Φ)(c:CE)(e:Expr)(h:bM S c e=true):PE X e (tK X F Φ c):=by
 by_cases hv:∃i,c=.v i
 ·obtain⟨i,rfl⟩:=hv;obtain⟨x,hx,ha⟩:=bc h;obtain⟨p,rfl⟩:=iU hx;obtain⟨hb,h3⟩:=az ha;obtain⟨h1,h2⟩:=az hb;unfold k8 at h3;simp only[Bool.and_eq_true,Bool.not_eq_true']at h3;refine PE.imp (gh (i:=i) (by rw[L.N];exact Xd h1) (L.Md h2) h3.1.1 h3.1.2) λσ H Q hq=>?_;obtain⟨R,τ,ρ,r,Si,ev,hq⟩:=hq;simp only[eY]at ev;split at ev
  ·rename_i d hd;split at ev
   ·cases ev;obtain⟨v,τ',hv,d8,rk⟩:=Si.move hd;exact⟨v,hv,hq v H R τ' (aI.refl H) (λ_ h=>h) d8 rk⟩
   ·rename_i ho;cases ev;obtain⟨v,hv,rp⟩:=Si.rep i d hd;exact⟨v,hv,hq v H R τ (aI.refl H) (λ_ h=>h) Si (wB rp (by simpa using ho))⟩
  ·cases ev
 ·refine PE.imp (dN (F:=F) L c e h).1 λσ H Q hq=>?_;obtain⟨R,τ,ρ,r,Si,ev,hq⟩:=hq;have QT:bd (aX Φ c ρ) (λd=>ok (keep c d ρ))=ok r:=by
   cases c<;>first|exact ev|exact absurd ⟨_,rfl⟩ hv
  obtain⟨d,ed,er⟩:=aH QT;cases er;refine tD.intro Si ed λv H' e' r'=>?_;obtain⟨R',τ',h1,h2,h3⟩:=DA Si e' r';exact hq v H' R' τ' e' h1 h2 h3
end
structure Kp(R:ag)(H:Hp)(R':ag)(H':Hp):Prop where
 r:∀p,R p->R' p
 l:∀p (o:HO),R p->H p=some o->H' p=some o
 t:∀p xs,H p=some (.tup xs)->H' p=some (.tup xs)
 z:∀p o u,H p=some (.iE o u)->H' p=some (.iE o u)
theorem Kp.refl(R:ag)(H:Hp):Kp R H R H:=⟨λ_ h=>h,λ_ _ _ h=>h,λ_ _ h=>h,λ_ _ _ h=>h⟩
theorem Kp.of(e:aI H H')(h:∀p,R p->R' p):Kp R H R' H':=⟨h,λp xs _ h=>e _ _ h,λp xs h=>e _ _ h,λp o u h=>e _ _ h⟩
theorem Kp.trans{R2:Addr->Prop}(a:Kp R H R1 H1)(b:Kp R1 H1 R2 H2):Kp R H R2 H2 :=
 ⟨λp h=>b.r p (a.r p h),λp xs h e=>b.l p xs (a.r p h) (a.l p xs h e),λp xs h=>b.t p xs (a.t p xs h),λp o u h=>b.z p o u (a.z p o u h)⟩
theorem Kp.Mj(a:Kp R H R' H'){p:Addr}(h:a_ K H p xs):a_ K H' p xs:=by
 rcases h with (h|⟨o,h⟩)|h
 ·exact .inl (.inl (a.t p xs h))
 ·exact .inl (.inr ⟨o,a.z p o _ h⟩)
 ·exact .inr h
theorem Kp.nd{K:ak}{R R':ag}{H H':Hp}(a:Kp R H R' H'){q:bo}{p:Addr}{xs:Nd}{f:Fl}(h:DI.nd K R (λ_=>False) (λ_=>none) H q p xs f):DI.nd K R' (λ_=>False) (λ_=>none) H' q p xs f:=by
 cases f with
 |ow=>exact nomatch h.2
 |fz=>exact⟨h.1.at λo e=>a.l p o h.2 e,a.r p h.2⟩
 |al=>exact h.2.elim
 |sc =>
  obtain⟨ys,rfl,h⟩:=h.x4;exact h.elim (λ⟨o,h⟩=>.inl ⟨o,a.z p o _ h⟩) .inr
theorem Kp.rep(a:Kp R H R' H'){k:bo}{v:V}{d:D}(h:Rep (a_ K H) (DI.nd K R (λ_=>False) (λ_=>none) H) k v d):Rep (a_ K H') (DI.nd K R' (λ_=>False) (λ_=>none) H') k v d :=
 h.imp (λ_ _ h=>a.Mj h) λ_ _ _ _ h=>a.nd h
theorem Kp.Up(a:Kp R H R' H'){k:bo}{n:Nat}{v:ae}{d:aa}(h:aB (a_ K H) (DI.nd K R (λ_=>False) (λ_=>none) H) k n v d):aB (a_ K H') (DI.nd K R' (λ_=>False) (λ_=>none) H') k n v d :=
 h.imp (λ_ _ h=>a.Mj h) λ_ _ _ _ h=>a.nd h
def z4(X:Cx)(F:ag)(H':Hp)(v:V)(d:D):Prop:=∃τt:Addr->Option bo,(∀p q,τt p=some q->X.H₀ p=none)/\Rep (a_ X.K H') (nd X.K (gP X F) (λ_=>False) τt H') [] v d
theorem gO.ret{v:V}{d:D}(Si:SI X F R τ ρ σ H)(h:gO X R τ H v d):z4 X F H v d:=by
 obtain⟨τt,ht,rp⟩:=h;exact⟨τt,λp q e=>(ht p q e).2.2.1,rp.imp (λ_ _ h=>h) λ_ _ _ _ h=>h.mono (λh=>Si.rf _ h) id id⟩
def kP(X:Cx)(F:ag)(D:Ends)(R:ag)(H:Hp):Fo×aU->Prop
 | (.nx,ρ')=>∀σ' H' R' τ',SI X F R' τ' ρ' σ' H'->Kp R H R' H'->D.nx σ' H'
 | (.rt d,_)=>∀v H',aI X.H₀ H'->z4 X F H' v d->D.rt v H'
def oE(X:Cx)(F:ag)(Φ:aV)(c:CS):TS:=λD σ H=>∃R τ ρ r,SI X F R τ ρ σ H/\gM Φ c ρ=ok r/\kP X F D R H r
def nc(X:Cx)(F:ag)(Φ:aV)(cs:ah):TS:=λD σ H=>∃R τ ρ r,SI X F R τ ρ σ H/\bE Φ cs ρ=ok r/\kP X F D R H r
noncomputable def FJ(sc:Scope)(x:Str):Bool:=decide (sc.names.lookup x=some .local)||decide (sc.names.lookup x=some .cell)
def lr(S:Sx)(i:Nat):Expr->Bool
 |.Name x _=>decide (S.N[i]?=some x)&&FJ S.sc x
 |_=>false
def O6:Expr->Bool
 |.Name x _=>k8 x
 |_=>true
def zQ(S:Sx):aR->au->Bool
 |[],es=>match es with
  |[]=>true
  |_::_=>false
 |i::is,es=>match es with
  |[]=>false
  |e::es=>lr S i e&&zQ S is es
def t_(S:Sx):Tg->Expr->Bool
 |.nm i,e=>lr S i e
 |.tp is,e=>bp (vM e) λes=>zQ S is es
noncomputable def fA(e:Expr):Bool:=decide (e.ctorIdx=8)
noncomputable def isTup:Expr->Bool
 |.Tuple _ _ _=>true
 |_=>false
noncomputable def Ob(S:Sx)(tg v:Expr):Bool:=match tg,v with
 |.Name x p,.ListComp _ _ sc pos=>(S.sc.names.lookup x==some .local)&&(p.line==pos.line)&&!(sc.names.any λ(n,k)=>n==x&&(k==.local||k==.cell))
 |_,_=>false
noncomputable def Ec(e:Expr):Option (Str×Pos):=if h:e.ctorIdx=23 then Expr.Name.elim (motive_1:=λ_=>Option (Str×Pos)) e h (λx p=>some (x,p))else none
theorem uu{e:Expr}{x:Str}{p:Pos}(h:Ec e=some (x,p)):e=.Name x p:=by
 obtain⟨k,h⟩:=dI h;exact Expr.Name.elim (motive_1:=λe=>∀k:e.ctorIdx=23,Expr.Name.elim (motive_1:=λ_=>Option (Str×Pos)) e k (λx p=>some (x,p))=some (x,p)->e=.Name x p) e k (λ_ _ _ h=>by cases h;rfl) k h
def zP(S:Sx)(i j:Nat)(tg v:Expr):Bool :=
 bp (vM tg) λts=>bp (two ts) λt=>bp (Ec t.1) λx=>bp (Ec t.2) λy=>bp (vM v) λvs=>bp (two vs) λw =>
  decide (S.N[i]?=some x.1)&&decide (S.N[j]?=some y.1)&&decide (i≠j)&&decide (S.sc.names.lookup x.1=some .local)&&decide (S.sc.names.lookup y.1=some .local)&&decide (x.1≠y.1) &&
   decide (x.2.line=y.2.line)&&!([w.1,w.2].all (foldedForSure 8))&&!([w.1,w.2].all (constantsAlone 8))&&decide (([w.1,w.2].any λe=>match e with|.Starred ..=>true|_=>false)=false)
def Cn(S:Sx)(it:CI)(e:Expr):Bool:=match it with
 |.kc a=>bp (eK e) λw=>decide (w.1=("range" : Str))&&fj S.sc w.1&&decide (w.1∈S.bl)&&bp (one w.2) λy=>bM S a y
 |.jE a b=>bp (eK e) λw=>decide (w.1=("range" : Str))&&fj S.sc w.1&&decide (w.1∈S.bl)&&bp (two w.2) λy=>bM S a y.1&&bM S b y.2
 |.seq a=>bM S a e&&nP e
noncomputable def yD:CI->Bool
 |_=>true
noncomputable def xD(s:Stmt):Option (au×Expr):=if h:s.ctorIdx=5 then Stmt.Assign.elim (motive_2:=λ_=>Option (au×Expr)) s h (λts v _=>some (ts,v))else none
theorem jz{s:Stmt}{ts:au}{v:Expr}(h:xD s=some (ts,v)):∃p,s=.Assign ts v p:=by
 obtain⟨k,h⟩:=dI h;exact Stmt.Assign.elim (motive_2:=λs=>∀k:s.ctorIdx=5,Stmt.Assign.elim (motive_2:=λ_=>Option (au×Expr)) s k (λts v _=>some (ts,v))=some (ts,v)->∃p,s=.Assign ts v p) s k (λ_ _ _ _ h=>by cases h;exact⟨_,rfl⟩) k h
noncomputable def IQ(s:Stmt):Option (Option Expr):=if h:s.ctorIdx=3 then Stmt.Return.elim (motive_2:=λ_=>Option (Option Expr)) s h (λv _=>some v)else none
theorem ur{s:Stmt}{v:Option Expr}(h:IQ s=some v):∃p,s=.Return v p:=by
 obtain⟨k,h⟩:=dI h;exact Stmt.Return.elim (motive_2:=λs=>∀k:s.ctorIdx=3,Stmt.Return.elim (motive_2:=λ_=>Option (Option Expr)) s k (λv _=>some v)=some v->∃p,s=.Return v p) s k (λ_ _ _ h=>by cases h;exact⟨_,rfl⟩) k h
noncomputable def NI(s:Stmt):Option Expr:=if h:s.ctorIdx=24 then Stmt.Expr.elim (motive_2:=λ_=>Option Expr) s h (λv _=>some v)else none
theorem oD{s:Stmt}{v:Expr}(h:NI s=some v):∃p,s=.Expr v p:=by
 obtain⟨k,h⟩:=dI h;exact Stmt.Expr.elim (motive_2:=λs=>∀k:s.ctorIdx=24,Stmt.Expr.elim (motive_2:=λ_=>Option Expr) s k (λv _=>some v)=some v->∃p,s=.Expr v p) s k (λ_ _ _ h=>by cases h;exact⟨_,rfl⟩) k h
noncomputable def NJ(s:Stmt):Option (Expr×Operator×Expr):=if h:s.ctorIdx=7 then Stmt.AugAssign.elim (motive_2:=λ_=>Option (Expr×Operator×Expr)) s h (λo p v _=>some (o,p,v))else none
theorem Me{s:Stmt}{o v:Expr}{p:Operator}(h:NJ s=some (o,p,v)):∃q,s=.AugAssign o p v q:=by
 obtain⟨k,h⟩:=dI h;exact Stmt.AugAssign.elim (motive_2:=λs=>∀k:s.ctorIdx=7,Stmt.AugAssign.elim (motive_2:=λ_=>Option (Expr×Operator×Expr)) s k (λo p v _=>some (o,p,v))=some (o,p,v)->∃q,s=.AugAssign o p v q) s k (λ_ _ _ _ _ h=>by cases h;exact⟨_,rfl⟩) k h
noncomputable def Ee(s:Stmt):Option (Expr×aO×aO):=if h:s.ctorIdx=12 then Stmt.If.elim (motive_2:=λ_=>Option (Expr×aO×aO)) s h (λt x y _=>some (t,x,y))else none
theorem oB{s:Stmt}{t:Expr}{x y:aO}(h:Ee s=some (t,x,y)):∃q,s=.If t x y q:=by
 obtain⟨k,h⟩:=dI h;exact Stmt.If.elim (motive_2:=λs=>∀k:s.ctorIdx=12,Stmt.If.elim (motive_2:=λ_=>Option (Expr×aO×aO)) s k (λt x y _=>some (t,x,y))=some (t,x,y)->∃q,s=.If t x y q) s k (λ_ _ _ _ _ h=>by cases h;exact⟨_,rfl⟩) k h
noncomputable def IM(s:Stmt):Option (Expr×aO×aO):=if h:s.ctorIdx=11 then Stmt.While.elim (motive_2:=λ_=>Option (Expr×aO×aO)) s h (λt x y _=>some (t,x,y))else none
theorem Ap{s:Stmt}{t:Expr}{x y:aO}(h:IM s=some (t,x,y)):∃q,s=.While t x y q:=by
 obtain⟨k,h⟩:=dI h;exact Stmt.While.elim (motive_2:=λs=>∀k:s.ctorIdx=11,Stmt.While.elim (motive_2:=λ_=>Option (Expr×aO×aO)) s k (λt x y _=>some (t,x,y))=some (t,x,y)->∃q,s=.While t x y q) s k (λ_ _ _ _ _ h=>by cases h;exact⟨_,rfl⟩) k h
noncomputable def Ef(s:Stmt):Option (Expr×Expr×aO×aO):=if h:s.ctorIdx=9 then Stmt.For.elim (motive_2:=λ_=>Option (Expr×Expr×aO×aO)) s h (λtg it x y _=>some (tg,it,x,y))else none
theorem uv{s:Stmt}{it:Expr}{x y:aO}(h:Ef s=some (tg,it,x,y)):∃q,s=.For tg it x y q:=by
 obtain⟨k,h⟩:=dI h;exact Stmt.For.elim (motive_2:=λs=>∀k:s.ctorIdx=9,Stmt.For.elim (motive_2:=λ_=>Option (Expr×Expr×aO×aO)) s k (λtg it x y _=>some (tg,it,x,y))=some (tg,it,x,y)->∃q,s=.For tg it x y q) s k (λ_ _ _ _ _ _ h=>by cases h;exact⟨_,rfl⟩) k h
noncomputable def CM(e:Expr):Option (Expr×Str×Pos):=if h:e.ctorIdx=20 then Expr.Attribute.elim (motive_1:=λ_=>Option (Expr×Str×Pos)) e h (λo a p=>some (o,a,p))else none
theorem xC{e o:Expr}{a:Str}{p:Pos}(h:CM e=some (o,a,p)):e=.Attribute o a p:=by
 obtain⟨k,h⟩:=dI h;exact Expr.Attribute.elim (motive_1:=λe=>∀k:e.ctorIdx=20,Expr.Attribute.elim (motive_1:=λ_=>Option (Expr×Str×Pos)) e k (λo a p=>some (o,a,p))=some (o,a,p)->e=.Attribute o a p) e k (λ_ _ _ _ h=>by cases h;rfl) k h
noncomputable def xA(e:Expr):Option (Expr×au×List Keyword×Pos):=if h:e.ctorIdx=16 then Expr.Call.elim (motive_1:=λ_=>Option (Expr×au×List Keyword×Pos)) e h (λf as ks p=>some (f,as,ks,p))else none
theorem vN{e f:Expr}{as:au}{ks:List Keyword}{p:Pos}(h:xA e=some (f,as,ks,p)):e=.Call f as ks p:=by
 obtain⟨k,h⟩:=dI h;exact Expr.Call.elim (motive_1:=λe=>∀k:e.ctorIdx=16,Expr.Call.elim (motive_1:=λ_=>Option (Expr×au×List Keyword×Pos)) e k (λf as ks p=>some (f,as,ks,p))=some (f,as,ks,p)->e=.Call f as ks p) e k (λ_ _ _ _ _ h=>by cases h;rfl) k h
noncomputable def isNil{α:Type}:List α->Bool
 |[]=>true
 |_::_=>false
theorem jL{α:Type}{l:List α}(h:isNil l=true):l=[]:=by cases l<;>first|rfl|cases h
noncomputable def BF:Stmt->Bool
 |.Raise _ _ _=>true
 |_=>false
noncomputable def F5(s:Stmt):Bool:=decide (s.ctorIdx=25)
theorem Ib{s:Stmt}(h:F5 s=true):∃p,s=.Pass p:=Stmt.Pass.elim (motive_2:=λs=>∃p,s=.Pass p) s (Xd h) λp=>⟨p,rfl⟩
noncomputable def Ks(s:Stmt):Bool:=decide (s.ctorIdx=26)
theorem Kr{s:Stmt}(h:Ks s=true):∃p,s=.Break p:=Stmt.Break.elim (motive_2:=λs=>∃p,s=.Break p) s (Xd h) λp=>⟨p,rfl⟩
noncomputable def Pq(s:Stmt):Bool:=decide (s.ctorIdx=27)
theorem MK{s:Stmt}(h:Pq s=true):∃p,s=.Continue p:=Stmt.Continue.elim (motive_2:=λs=>∃p,s=.Continue p) s (Xd h) λp=>⟨p,rfl⟩
theorem pW{i:Nat}{e:Expr}(h:lr S i e=true):∃x p,e=.Name x p:=by
 cases e<;>first|exact⟨_,_,rfl⟩|exact(Xe h).elim
theorem wu{e:Expr}(h:fA e=true):∃x g sc p,e=.ListComp x g sc p:=Expr.ListComp.elim (motive_1:=λe=>∃x g sc p,e=.ListComp x g sc p) e (Xd h) λ_ _ _ _=>⟨_,_,_,_,rfl⟩
mutual
noncomputable def mO(S:Sx):CS->Stmt->Bool
 |.asg t e,s0=>bp (xD s0) λz=>bp (one z.1) λtg=>bM S e z.2&&t_ S t tg&&!(isTup z.2&&isTup tg)&&(!fA z.2||isNm tg)
 |.par i j a b,s0=>bp (xD s0) λz=>bp (one z.1) λtg=>bM S (.tup [a,b]) z.2&&zP S i j tg z.2
 |.ret e,s0=>bp (IQ s0) λz=>bp z λv=>bM S e v
 |.rs _,s0=>BF s0
 |.mut p i es,s0=>bp (S.px.pm p S.sc S.bl s0) λz=>lr S i z.1&&O6 z.1&&bL S es z.2
 |.app i e,s0=>bp (NI s0) λc=>bp (xA c) λz=>isNil z.2.2.1&&bp (CM z.1) λa=>decide (a.2.1=("append" : Str))&&lr S i a.1&&O6 a.1&&(a.2.2.endLine==z.2.2.2.line)&&bp (one z.2.1) λv=>bM S e v
 |.setI i k e,s0=>bp (xD s0) λz=>bp (one z.1) λtg=>bp (oA tg) λw=>lr S i w.1&&O6 w.1&&bM S k w.2&&bM S e z.2&&!fA z.2
 |.ex e,s0=>bp (NI s0) λv=>bM S e v&&!fA v
 |.ifs c a b,s0=>bp (Ee s0) λz=>bM S c z.1&&gI S a z.2.1&&gI S b z.2.2
 |.CJ c b,s0=>bp (IM s0) λz=>isNil z.2.2&&bM S c z.1&&gI S b z.2.1
 |.fr t it b,s0=>bp (Ef s0) λz=>isNil z.2.2.2&&t_ S t z.1&&Cn S it z.2.1&&(i_ z.1||yD it)&&gI S b z.2.2.1
noncomputable def gI(S:Sx):ah->aO->Bool
 |[],ss=>match ss with
  |[]=>true
  |_::_=>false
 |c::cs,ss=>match ss with
  |[]=>false
  |s::ss=>mO S c s&&gI S cs ss
end
structure z5(px:Px)(Φ:aV):Prop where
 m:∀(X:Cx) (sc:Scope) (bl:av) (k:Nat),PX X sc bl k->X.N.Nodup->(∀x,X.fn x=true)->∀(p:Nat) (st:Stmt) (x:Str) (pos:Pos) (args:au),px.pm p sc bl st=some (.Name x pos,args)->∀(i:Nat),X.N[i]?=some x->L2.Loc X.env.scope x->PE X (.Name x pos) (lZ i) ->
  ∀(F:ag) (cs:aC),uk X F Φ cs args->PS X st (oE X F Φ (.mut p i cs))
structure lB(X:Cx)(S:Sx)(k:Nat)(Φ:aV):Prop extends Lk X S k Φ where
 m6:∀x,X.fn x=true
 px:PassesOwn (model X.prog X.w) X.A X.env X.xe
 fk:S.sc.kind=.function
 pm:z5 S.px Φ
section
variable {X:Cx}{S:Sx}{k:Nat}{F:ag}{Φ:aV}
theorem lB.loc(L:lB X S k Φ){x:Str}(h:FJ S.sc x=true):L2.Loc X.env.scope x:=by
 unfold L2.Loc;rw[L.sc];unfold FJ at h;rw[Bool.or_eq_true]at h;exact h.imp Xd Xd
theorem CY(L:lB X S k Φ){x:Str}{p:Pos}{l:Nat}{elt:Expr}{gens:List Comprehension}{sc:Scope}:swapsWith (.ListComp elt gens sc pos) (some (.Name x p)) l X.env=pure (Ob S (.Name x p) (.ListComp elt gens sc pos)):=by
 have hb:X.env.blockKind=.function:=by unfold Env.blockKind;rw[L.sc,L.fk];rfl
 have hk:(X.env.kindOf x==some .local)=(S.sc.names.lookup x==some .local):=by
  unfold Env.kindOf;rw[L.sc]
 unfold swapsWith Ob;simp only[hb,hk];rfl
theorem fY{c:CE}{e:Expr}(h:bM S c e=true)(hc:fA e=false)(t:Option Expr)(l:Nat)(env:Env):swapsWith e t l env=pure false:=by
 cases e<;>first|rfl | (cases hc;done) | (cases c<;>exact(Xe h).elim)
def MX:aR->Cz
 |[]=>GD
 |i::is=>zA (mx i) (MX is)
theorem yq(L:lB X S k Φ){i:Nat}{e:Expr}(h:lr S i e=true):PG X e (mx i):=by
 cases e<;>try (exact(Xe h).elim;done)
 replace h:=az h;exact o6 L.nd (by rw[L.N];exact Xd h.1) (L.loc h.2) (.inl (L.m6 _))
theorem Bp{i:Nat}{e:Expr}(h:lr S i e=true)(es:au)(env:Env):assignEach (e::es) env=(false,assign e env)::assignEach es env:=by
 cases e<;>first|rfl | (exact(Xe h).elim;done)
theorem yp(L:lB X S k Φ):∀{is:aR} {es:au},zQ S is es=true->IC X es (MX is)/\(assignEach es X.env).length=is.length/\(assignEach es X.env).findIdx? (·.1)=none
 |[],[],_=>⟨uE,rfl,rfl⟩
 |[],_::_,h=>by exact(Xe h).elim
 |_::_,[],h=>by exact(Xe h).elim
 |i::is,e::es,h=>by
  replace h:=az h;obtain⟨h1,h2,h3⟩:=yp L h.2;have he:=Bp h.1 es X.env;refine⟨qR (yq L h.1) h1 (by rw[he];rfl),by rw[he];simp[h2],?_⟩;rw[he,List.findIdx?_cons];simp[h3]
theorem qG{H:Hp}{R:ag}{Q:St->Hp->Prop}:∀{is:aR} {vs:ae} {ds:aa} {kp:bo} {n:Nat} {σ:St} {τ:Addr->Option bo} {ρ ρ':aU},aB (a_ X.K H) (nd X.K R (λ_=>False) (λ_=>none) H) kp n vs ds->SI X F R τ ρ σ H->fO is ds ρ=ok ρ' ->
  (∀σ' τ',SI X F R τ' ρ' σ' H->Q σ' H)->MX is vs σ H Q
 |[],_,_,_,_,σ,τ,_,_,.nil,Si,e,hq=>by
  cases e;exact⟨rfl,hq σ τ Si⟩
 |[],_,_,_,_,_,_,_,_,.cons _ _,_,e,_=>by cases e
 |_::_,_,_,_,_,_,_,_,_,.nil,_,e,_=>by cases e
 |i::is,_,_,_,_,σ,τ,ρ,_,.cons (v:=v) (d:=d) h t,Si,e,hq=>by
  change (if _ then _ else _)=_ at e;split at e
  ·rename_i hi;obtain⟨τ',d8⟩:=Si.set (i:=i) (jF (τ':=τ) (Rep.ko h)) hi;exact⟨_,_,rfl,qG t d8 e hq⟩
  ·cases e
noncomputable def xK(n:Nat)(τt:Addr->Option bo):Addr->Option bo:=λp=>match τt p with|some q=>if q.getLast?=some n then some q.dropLast else none|none=>none
noncomputable def xJ(n:Nat)(τt:Addr->Option bo):Addr->Option bo:=λp=>match τt p with|some q=>if q.getLast?=some n then none else some q|none=>none
theorem AE{n:Nat}{p:Addr}{q:bo}(h:xK n τt p=some q):τt p=some (q++[n]):=by
 unfold xK at h;cases e:τt p with
 |none=>rw[e]at h;cases h
 |some k =>
  rw[e]at h;by_cases c:k.getLast?=some n
  ·simp only[c,if_true]at h;cases h;obtain⟨ys,rfl⟩:=List.getLast?_eq_some_iff.mp c;simp
  ·simp only[c,if_false]at h;cases h
theorem AD{n:Nat}{p:Addr}{q:bo}(h:xJ n τt p=some q):τt p=some q/\q.getLast?≠some n:=by
 unfold xJ at h;cases e:τt p with
 |none=>rw[e]at h;cases h
 |some k =>
  rw[e]at h;by_cases c:k.getLast?=some n
  ·simp only[c,if_true]at h;cases h
  ·simp only[c,if_false]at h;cases h;exact⟨rfl,c⟩
theorem nI{H:Hp}{R:ag}{τt:Addr->Option bo}{n:Nat}:∀{vs:ae} {ds:aa} {m:Nat},n<m->aB (a_ X.K H) (nd X.K R (λ_=>False) τt H) [] m vs ds->aB (a_ X.K H) (nd X.K R (λ_=>False) (xJ n τt) H) [] m vs ds
 |_,_,_,_,.nil=>.nil
 |_,_,m,hm,.cons h t=>.cons (h.imp (q':=[m]) (λ_ _ h=>h) λc p xs f h=>by
   cases f with
   |ow =>
    refine⟨h.1,?_⟩;have e:=h.2;unfold xJ;rw[e];have:(c++[m]).getLast?≠some n:=by rw[List.getLast?_append];simp;left
    simp only[this,if_false]
   |fz=>exact h
   |al=>exact h
   |sc=>exact h) (nI (by left) t)
theorem vV{H:Hp}{R:ag}{Q:St->Hp->Prop}:∀{is:aR} {vs:ae} {ds:aa} {n:Nat} {σ:St} {τ τt:Addr->Option bo} {ρ ρ':aU},(∀p q,τt p=some q->τ p=none/\¬ R p/\X.H₀ p=none/\H p≠none)->aB (a_ X.K H) (nd X.K R (λ_=>False) τt H) [] n vs ds->SI X F R τ ρ σ H->fO is ds ρ=ok ρ' ->
  (∀σ' τ',SI X F R τ' ρ' σ' H->Q σ' H)->MX is vs σ H Q
 |[],_,_,_,σ,τ,_,_,_,_,.nil,Si,e,hq=>by
  cases e;exact⟨rfl,hq σ τ Si⟩
 |[],_,_,_,_,_,_,_,_,_,.cons _ _,_,e,_=>by cases e
 |_::_,_,_,_,_,_,_,_,_,_,.nil,_,e,_=>by cases e
 |i::is,_,_,n,σ,τ,τt,ρ,_,ht,.cons (v:=v) (d:=d) h t,Si,e,hq=>by
  change (if _ then _ else _)=_ at e;split at e
  ·rename_i hi;have d8:=Si.Jz (i:=i) (τt:=xK n τt) (λp q hp=>ht p _ (AE hp)) (h.imp (q':=[]) (λ_ _ h=>h) λc p xs f h=>by
    cases f with
    |ow =>
     refine⟨h.1,?_⟩;have e:=h.2;unfold xK;rw[e,List.append_nil];simp
    |fz=>exact h
    |al=>exact h
    |sc=>exact h) hi
   refine⟨_,_,rfl,vV (τt:=xJ n τt) (λp q hp=>?_) (nI (XJ n) t) d8 e hq⟩;obtain⟨h1,h2⟩:=AD hp;obtain⟨g1,g2⟩:=ht p q h1;refine⟨?_,g2⟩;unfold sD xK;rw[h1];simp only[h2,if_false];exact g1
  ·cases e
theorem uy(L:lB X S k Φ){t:Tg}(h:t_ S t tg=true):∃g,PG X tg g/\∀(v:V) (σ:St) (H:Hp) (Q:St->Hp->Prop) (R:ag) (τ:Addr->Option bo) (ρ ρ':aU) (d:D),SI X F R τ ρ σ H->gO X R τ H v d->cE t d ρ=ok ρ' ->
  (∀σ' τ',SI X F R τ' ρ' σ' H->Q σ' H)->g v σ H Q:=by
 cases t with
 |nm i =>
  refine⟨mx i,yq L h,λv σ H Q R τ ρ ρ' d Si rk e hq=>?_⟩;simp only[cE]at e;split at e
  ·rename_i hi;cases e;obtain⟨τ',d8⟩:=Si.set rk hi;exact hq _ τ' d8
  ·cases e
 |tp is =>
  obtain⟨es,hx,ha⟩:=bc h;obtain⟨nn,pp,rfl⟩:=jy hx;obtain⟨h1,h2,h3⟩:=yp L ha;refine⟨_,yn L.calm h1 h2 h3,λv σ H Q R τ ρ ρ' d Si rk e hq=>?_⟩;cases d<;>try (simp[cE]at e;done)
  rename_i ds;simp only[cE]at e;split at e
  ·cases e
  ·rename_i ho;obtain⟨τt,ht,rp⟩:=rk;cases rp with
   | @tup _ p xs _ hp rs =>
    have w6:aB (a_ X.K H) (nd X.K R (λ_=>False) (λ_=>none) H) [] 0 xs ds:=aB.without (P:=eA) (λ_ _ h=>h) (λk k' p xs f hf h=>by
     cases f with
     |ow=>cases hf
     |fz=>exact h
     |al=>exact h.2.elim
     |sc=>exact h) rs (by simpa using ho) _ _
    refine⟨p,xs,rfl,hp,?_,qG w6 Si e hq⟩;rw[rs.length];have:∀(is:aR) (ds:aa) (ρ ρ':aU),fO is ds ρ=ok ρ'->ds.length=is.length:=by
     intro is;induction is with
     |nil=>intro ds ρ ρ' e;cases ds with|nil=>rfl|cons _ _=>cases e
     |cons i is ih=>intro ds ρ ρ' e;cases ds with
      |nil=>cases e
      |cons d ds =>
       change (if _ then _ else _)=_ at e;split at e
       ·simp[ih ds _ _ e]
       ·cases e
    exact this _ _ _ _ e
end
section
variable {X:Cx}{S:Sx}{k:Nat}{F:ag}{Φ:aV}
theorem xQ(L:lB X S k Φ){t:Tg}{e:CE}{v:Expr}(he:bM S e v=true)(ht:t_ S t tg=true)(hp:(isTup v&&isTup tg)=false)(PK:swapsWithSole [tg] v pos.line X.env=pure false):PS X (.Assign [tg] v pos) (oE X F Φ (.asg t e)):=by
 obtain⟨g,hg,rj⟩:=uy (F:=F) L ht;have Ac:(∃x p,tg=.Name x p)\/∃es n p,tg=.Tuple es n p:=by
  cases t with
  |nm i=>cases tg<;>first|exact .inl ⟨_,_,rfl⟩|exact(Xe ht).elim
  |tp is=>cases tg<;>first|exact .inr ⟨_,_,_,rfl⟩|exact(Xe ht).elim
 have each:(assignEach [tg] X.env).map (·.2)=[assign tg X.env]:=by
  rcases Ac with ⟨x,p,rfl⟩|⟨es,n,p,rfl⟩<;>rfl
 have hw:swappedStores [tg] v X.env=pure none:=by
  rcases Ac with ⟨x,p,rfl⟩|⟨es,n,p,rfl⟩
  ·first|rfl | (cases v<;>rfl)
  ·cases v<;>first|rfl|exact absurd hp (by simp[isTup])
 refine PS.imp (sO (oK (F:=F) L.toLk e v he) hg PK hw each) λD σ H hq=>?_;obtain⟨R,τ,ρ,r,Si,ev,hq⟩:=hq;obtain⟨r1,tS,ev⟩:=aH ev;obtain⟨ρ',eρ,ev⟩:=aH ev;cases ev;exact⟨R,τ,ρ,r1,Si,tS,λv H' R' τ' es hR d8 rk=>rj v σ H' _ R' τ' r1.2 ρ' r1.1 d8 rk eρ λσ' si Ru=>hq σ' H' R' si Ru (Kp.of es hR)⟩
theorem AH(L:lB X S k Φ){i n:Nat}{t:Tg}{ik:IK}{x:Str}{p Ju:Pos}{gens:List Comprehension}{sc:Scope}
  (he:bM S (.comp n t caps ik es bF elt) (.ListComp iM gens sc pos)=true) (hn:lr S i (.Name x p)=true) (PK:swapsWith (.ListComp iM gens sc pos) (some (.Name x p)) Ju.line X.env=pure true) :
  PS X (.Assign [.Name x p] (.ListComp iM gens sc pos) Ju) (oE X F Φ (.asg (.nm i) (.comp n t caps ik es bF elt))):=by
 intro pins s σ H D I hq;obtain⟨R,τ,ρ,r,Si,ev,hq⟩:=hq;obtain⟨r1,tS,ev⟩:=aH ev;obtain⟨ρ',eρ,ev⟩:=aH ev;cases ev;have tS:bd (aX Φ (.comp n t caps ik es bF elt) ρ) (λd=>ok (keep (.comp n t caps ik es bF elt) d ρ))=ok r1:=tS;obtain⟨d,ed,tS⟩:=aH tS;cases tS;have hg:=yq L hn;rw[exec_Assign_Name_used _ _ _ _ PK];refine Xf (YE (Xf ?_));obtain⟨⟨e0,g0,s0⟩,U6,hz0⟩:=bc he;cases U6;obtain⟨⟨target,iter,ifs,a⟩,Qg,hz⟩:=bc hz0;obtain rfl:gens=_:=cF Qg;obtain⟨hz,h6⟩:=az hz;obtain⟨hz,h5⟩:=az hz;obtain⟨hz,h4⟩:=az hz;obtain⟨hz,h3⟩:=az hz;obtain⟨hz,h2⟩:=az hz;obtain⟨hz,h1⟩:=az hz;obtain rfl:a=0:=Xd hz;have hC:=rR (Xd h3) h4 (λ(X':Cx) (F':ag) (L':Lk X' (S.inner target caps sc) k Φ)=>gU bF X' _ F' L' ifs h4);have run:wpAny (model X.prog X.w) X.A (comprehension (.ListComp iM [⟨target,iter,ifs,0⟩] sc pos) sc X.env (firstIterPos [⟨target,iter,ifs,0⟩] pos) (newList []) false (eval iter X.env) (some (assign (.Name x p) X.env))) (λ_ s'=>SP X pins D .next s') X.xe s:=by
  refine rT (F:=F) (k:=k) L.toLk (n_ h1) h2 (λX' F' L'=>(dN (F:=F') L' elt iM h5).1) hC ?_ (use:=some (assign (.Name x p) X.env)) (Post:=λ_ s'=>SP X pins D .next s') I Si ed ?_
  ·exact yX L.toLk (λl=>lE (F:=F) L.toLk es l) (λl=>gU es X S F L.toLk l) (λl=>qA L.toLk es l) h6
  ·intro acc C H1 s1 m xf hc IX sm rt;obtain⟨c1,c2,c3,c4,c5⟩:=hc;obtain⟨R',τ',hR,d8,rk⟩:=DA (e:=.comp n t caps ik es bF elt) Si sm rt;have I1:Inv X pins σ H1 s1:=IX s1.heap (.refl ..);obtain⟨oC,V1,V3,Vi,SU,Vd⟩:=xf;have Wj:C∉X.fs:=λz=>by
    obtain⟨_,o,ho,_⟩:=I1.ok.jb.mem z;exact absurd (Xl (Xg ho) c2) (Xx _)
   have I2:Inv X ((C,oC)::pins) σ H1 s1:=I1.iA λq hq=>by
    rcases List.mem_cons.mp hq with rfl|hq
    ·exact⟨Vi,c5,c1,Wj,λv z=>by rw[SU]at z;cases z⟩
    ·exact I1.pin q (Xk _ hq)
   simp only[cE]at eρ;split at eρ
   ·rename_i hi;cases eρ;obtain⟨τ2,sd⟩:=d8.set rk hi;show wpAny _ _ (assign (.Name x p) X.env (.ref acc)) _ _ _;refine Xs (hg ((C,oC)::pins) s1 σ H1 (.ref acc) (.ref acc) (λσ' H'=>σ'=σ.set i (some (.ref acc))/\H'=H1) I2 rfl ⟨rfl,rfl⟩) (λ_ s2 h2=>?_) λ_ _ z=>z;obtain⟨σ',H',I3,rfl,rfl⟩:=h2;have VR:=(I3.pin (C,oC) (Xk _ Xn)).1;refine⟨m,⟨oC,V1,V3,VR,SU,Vd⟩,λh' BM=>?_⟩;have I4:Inv X pins (σ.set i (some (.ref acc))) H' s2:=I3.iA λq hq=>I3.pin q (Xk _ (Xm _ hq));have I5:=I4.turned (t':=s2.toks) (h':=h') (it:=C) (λb o hb e=>(BM.2 b hb).trans e) c5 c1 (.inr c2) c3 c4;exact⟨_,H',I5,hq _ H' R' τ2 sd (Kp.of sm hR)⟩
   ·cases eρ
 exact Xf (Xs run (λ_ s' h=>Xh (Xh h)) λ_ _ z=>z)
theorem Eu(L:lB X S k Φ){e:CE}{v:Expr}(he:bM S e v=true):PS X (.Return (some v) pos) (oE X F Φ (.ret e)):=by
 refine PS.imp (kg (oK (F:=F) L.toLk e v he)) λD σ H hq=>?_;obtain⟨R,τ,ρ,r,Si,ev,hq⟩:=hq;obtain⟨r1,tS,ev⟩:=aH ev;cases ev;exact⟨R,τ,ρ,r1,Si,tS,λv H' R' τ' es hR d8 rk=>hq v H' d8.same (rk.ret d8)⟩
theorem Jt(L:lB X S k Φ){e:CE}{v:Expr}(he:bM S e v=true)(P5:fA v=false):PS X (.Expr v pos) (oE X F Φ (.ex e)):=by
 refine PS.imp (oY (dN (F:=F) L.toLk e v he).1 (fY he P5 _ _ _)) λD σ H hq=>?_;obtain⟨R,τ,ρ,r,Si,ev,hq⟩:=hq;obtain⟨d,ed,ev⟩:=aH ev;cases ev;exact tD.intro Si ed λv H' es rv=>hq σ H' R τ (Si.go es) (Kp.of es λ_ h=>h)
theorem kP.from{D:Ends}{r:Fo×aU}(h:kP X F D R H r)(kp:Kp R H R1 H1):kP X F D R1 H1 r:=by
 obtain⟨fo,ρ'⟩:=r;cases fo with
 |nx=>exact λσ' H' R' τ' Si k2=>h σ' H' R' τ' Si (kp.trans k2)
 |rt d=>exact h
theorem Js(L:lB X S k Φ){c:CE}{a b:ah}{t:Expr}{x y:aO}(hc:bM S c t=true)(ha:fJ X x (nc X F Φ a))(hb:fJ X y (nc X F Φ b)):PS X (.If t x y pos) (oE X F Φ (.ifs c a b)):=by
 refine PS.imp (qQ (dN (F:=F) L.toLk c t hc).2 ha hb) λD σ H hq=>?_;obtain⟨R,τ,ρ,r,Si,ev,hq⟩:=hq;obtain⟨w,ew,ev⟩:=aH ev;refine⟨R,τ,ρ,w,Si,ew,λH1 e1=>?_⟩;cases w with
 |true=>rw[if_pos rfl]at ev ⊢;exact⟨R,τ,ρ,r,Si.go e1,ev,hq.from (Kp.of e1 λ_ h=>h)⟩
 |false=>rw[if_neg (by simp)]at ev ⊢;exact⟨R,τ,ρ,r,Si.go e1,ev,hq.from (Kp.of e1 λ_ h=>h)⟩
theorem xP(L:lB X S k Φ){c:CE}{b:ah}{t:Expr}{x:aO}(hc:bM S c t=true)(hb:fJ X x (nc X F Φ b)):PS X (.While t x [] pos) (oE X F Φ (.CJ c b)):=by
 refine PS.imp (yg L.px (dN (F:=F) L.toLk c t hc).2 hb) λD σ H hq=>?_;obtain⟨R,τ,ρ,r,Si,ev,hq⟩:=hq;obtain⟨n,hn⟩:=km ev;refine⟨λm σ' H'=>∃R' τ' ρ',SI X F R' τ' ρ' σ' H'/\Kp R H R' H'/\cG m _ ρ'=ok r,⟨n,R,τ,ρ,Si,Kp.refl R H,hn⟩,?_⟩;rintro m σ1 H1 ⟨R1,τ1,ρ1,xl,k1,e1⟩;cases m with
 |zero=>simp[cG]at e1
 |succ m =>
  rw[cG]at e1;obtain⟨st,es,e1⟩:=aH e1;obtain⟨w,ew,es⟩:=aH es;refine⟨R1,τ1,ρ1,w,xl,ew,λH2 e2=>?_⟩;cases w with
  |false =>
   rw[if_neg (by simp)]at es ⊢;cases es;cases e1;exact hq σ1 H2 R1 τ1 (xl.go e2) (k1.trans (Kp.of e2 λ_ h=>h))
  |true =>
   rw[if_pos rfl]at es ⊢;obtain⟨⟨fo,ρ2⟩,eb,es⟩:=aH es;refine⟨λσ' H'=>∃R' τ' ρ',SI X F R' τ' ρ' σ' H'/\Kp R H R' H'/\cG m _ ρ'=ok r,λσ' H' h=>⟨m,XJ m,h⟩,R1,τ1,ρ1,(fo,ρ2),xl.go e2,eb,?_⟩;have k2:Kp R H R1 H2:=k1.trans (Kp.of e2 λ_ h=>h);cases fo with
   |nx=>cases es;exact λσ' H' R' τ' d8 k3=>⟨R',τ',ρ2,d8,k2.trans k3,e1⟩
   |rt d=>cases es;cases e1;exact hq
def mY(X:Cx)(F:ag)(Φ:aV)(t:Tg)(b:ah)(R1:ag)(H1:Hp)(r:Fo×aU)(items:List DI.D)(i:Nat)(σ:St)(H:Hp):Prop :=
 ∃R' τ' ρ',SI X F R' τ' ρ' σ H/\Kp R1 H1 R' H/\fT (λd ρ=>cE t d ρ) (λρ=>bE Φ b ρ) (items.drop i) ρ'=ok r
theorem mz{g:TG}{t:Tg}{b:ah}{D:Ends}{r:Fo×aU}{items:List DI.D}{q:bo}
  (rj:∀(v:V) (σ:St) (H:Hp) (Q:St->Hp->Prop) (R:ag) (τ:Addr->Option bo) (ρ ρ':aU) (d:DI.D),SI X F R τ ρ σ H->gO X R τ H v d->cE t d ρ=ok ρ'->(∀σ' τ',SI X F R τ' ρ' σ' H->Q σ' H)->g v σ H Q)
  (rs:aB (a_ X.K H1) (nd X.K R1 (λ_=>False) (λ_=>none) H1) q 0 xs items) (hq:kP X F D R1 H1 r) (i:Nat) (x:V) (σ:St) (H:Hp) (hx:xs[i]?=some x) (h:mY X F Φ t b R1 H1 r items i σ H) :
  g x σ H λσ2 H2=>nc X F Φ b { D with nx:=mY X F Φ t b R1 H1 r items (i+1),ct:=mY X F Φ t b R1 H1 r items (i+1),bk:=D.nx } σ2 H2:=by
 obtain⟨R',τ',ρ',Si,kp,ef⟩:=h;obtain⟨d,hd,rd⟩:=rs.tL hx;have hi:i<items.length:=by
  by_cases hi:i<items.length
  ·exact hi
  ·rw[List.getElem?_eq_none (by left)]at hd;cases hd
 have rl:items.drop i=d::items.drop (i+1):=by
  rw[List.drop_eq_getElem_cons hi];rw[List.getElem?_eq_getElem hi]at hd;cases hd;rfl
 rw[rl,fT]at ef;obtain⟨ρ1,e1,ef⟩:=aH ef;obtain⟨⟨fo,ρ2⟩,e2,ef⟩:=aH ef;refine rj x σ H _ R' τ' ρ' ρ1 d Si (jF (Rep.ko (kp.rep rd))) e1 λσ' si d8=>⟨R',si,ρ1,(fo,ρ2),d8,e2,?_⟩
 cases fo with
 |nx=>exact λσ3 H3 R3 τ3 CA k3=>⟨R3,τ3,ρ2,CA,kp.trans k3,ef⟩
 |rt d=>cases ef;exact hq
theorem pO{t:Tg}{b:ah}{D:Ends}{r:Fo×aU}{items:List DI.D}{n:Nat}(hn:n=items.length)(hq:kP X F D R1 H1 r)(σ:St)(H:Hp)(h:mY X F Φ t b R1 H1 r items n σ H):D.nx σ H:=by
 obtain⟨R',τ',ρ',Si,kp,ef⟩:=h;subst hn;rw[List.drop_length,fT]at ef;cases ef;exact hq σ H R' τ' Si kp
theorem ve(ρ:aU):iE [] ρ=ρ:=by
 unfold iE;apply List.ext_getElem?;intro i;rw[List.getElem?_mapIdx];cases ρ[i]? with
 |none=>rfl
 |some o=>simp
theorem lH{v:V}{d:DI.D}(Si:SI X F R τ ρ σ H)(es:aI H H')(r:b_ X.K (gP X F) R τ fv H H' v d):
  ∃R' τ',(∀p,R p->R' p)/\SI X F R' τ' (if aW bG d then iE fv ρ else ρ) σ H'/\Rep (a_ X.K H') (nd X.K R' (λ_=>False) (λ_=>none) H') [] v (af aA d):=by
 by_cases ha:aW bG d=true
 ·rw[if_pos ha];exact pN Si es r
 ·rw[if_neg ha];have r':b_ X.K (gP X F) R τ [] H H' v d:=by
   obtain⟨τt,fr,rp⟩:=r;exact⟨τt,fr,Rep.jw (P:=bG) (λ_ _ h=>h) (λk p xs f hf h=>by
    cases f with
    |ow=>exact h
    |fz=>exact h
    |al=>cases hf
    |sc=>exact h) rp (by simpa using ha)⟩
  have:=pN Si es r';rw[ve]at this;exact this
theorem Ln{ds:List DI.D}(Si:SI X F R τ ρ σ H)(es:aI H H')(r:cm X.K (gP X F) R τ fv H H' vs ds):
  ∃R' τ',(∀p,R p->R' p)/\SI X F R' τ' (if aS bG ds then iE fv ρ else ρ) σ H'/\aB (a_ X.K H') (nd X.K R' (λ_=>False) (λ_=>none) H') [] 0 vs (aw aA ds):=by
 by_cases ha:aS bG ds=true
 ·rw[if_pos ha];exact rD Si es r
 ·rw[if_neg ha];have r':cm X.K (gP X F) R τ [] H H' vs ds:=by
   obtain⟨τt,fr,rp⟩:=r;exact⟨τt,fr,aB.jw (P:=bG) (λ_ _ h=>h) (λk p xs f hf h=>by
    cases f with
    |ow=>exact h
    |fz=>exact h
    |al=>cases hf
    |sc=>exact h) rp (by simpa using ha)⟩
  have:=rD Si es r';rw[ve]at this;exact this
def WJ(X:Cx)(F:ag)(Φ:aV)(p:Nat)(cs:aC):TI:=λσ H Rr=>∃R τ ρ xs d items,SI X F R τ ρ σ H/\b8 Φ cs ρ=ok xs/\Φ p xs=ok d/\qH d=ok items /\
 ∀J H2 vs,aI H H2->cm X.K (gP X F) R τ (dk cs) H H2 vs xs->LW X.K J H2 vs xs items->Rr J H2
theorem aB.ints{T:mU}{N:gc}:∀(is:ai) {k:bo} {n:Nat},aB T N k n (is.map V.int) (is.map DI.D.int)
 |[],_,_=>.nil
 |i::is,_,_=>.cons (.int i) (aB.ints is)
theorem Ex(L:lB X S k Φ){t:Tg}{it:CI}{b:ah}{x:aO}(ht:t_ S t tg=true)(hi:Cn S it iter=true)(W0:(i_ tg||yD it)=true)(hb:fJ X x (nc X F Φ b)):PS X (.For tg iter x [] pos) (oE X F Φ (.fr t it b)):=by
 obtain⟨g,hg,rj⟩:=uy (F:=F) L ht;have hV:∀y,foldedSetIterable iter X.env y=pure y:=by
  intro y;cases iter<;>first|rfl | (cases it<;>first|exact(Xe hi).elim|exact(Xe (az hi).2).elim)
 have kc:∀{lo:Int} {n:Nat} {D:Ends} {R:ag} {τ:Addr->Option bo} {ρ:aU} {σ:St} {H H1:Hp} {r:Fo×aU},SI X F R τ ρ σ H->aI H H1->kP X F D R H r ->
   fT (λd ρ=>cE t d ρ) (λρ=>bE Φ b ρ) ((List.range n).map λ(k:Nat)=>DI.D.int (lo+(k:Int))) ρ=ok r ->
   ∃W:Nat->Nat->L2.St->Hp->Prop,(∃m,W 0 m σ H1)/\∀i m σ H,W i m σ H ->
    ((wX lo n).stop i H/\D.nx σ H)\/((wX lo n).go i H/\∃N:L2.St->Hp->Prop,(∀σ' H',N σ' H'->∃m',m'<m/\W (i+1) m' σ' H')/\∀x H',(wX lo n).sj i H x H'->g x σ H' λσ2 H2=>nc X F Φ b { D with nx:=N,ct:=N,bk:=D.nx } σ2 H2):=by
  intro lo n D R τ ρ σ H H1 r Si e1 hq ef;have rs:aB (a_ X.K H1) (nd X.K R (λ_=>False) (λ_=>none) H1) [] 0 ((List.range n).map λ(k:Nat)=>V.int (lo+(k:Int))) ((List.range n).map λ(k:Nat)=>DI.D.int (lo+(k:Int))):=by
   have:=aB.ints (T:=a_ X.K H1) (N:=nd X.K R (λ_=>False) (λ_=>none) H1) ((List.range n).map λ(k:Nat)=>lo+(k:Int)) (k:=[]) (n:=0);rw[List.map_map,List.map_map]at this;exact this
  have DE:=hq.from (Kp.of e1 (R':=R) λ_ h=>h);refine nZ (mY X F Φ t b R H1 r _) ⟨R,τ,ρ,Si.go e1,Kp.refl R H1,by rw[List.drop_zero];exact ef⟩ (λi σ' H' Gj h=>?_) (λσ' H' h=>pO (by simp) DE σ' H' h);exact mz rj rs DE i (.int (lo+i)) σ' H' (by rw[List.getElem?_map,List.getElem?_range Gj];rfl) h
 intro pins s σ H D I Gd;cases it with
 |kc a =>
  obtain⟨R,τ,ρ,r,Si,ev,hq⟩:=Gd;obtain⟨⟨items,ρ1⟩,ei,ef⟩:=aH ev;obtain⟨⟨y,as⟩,hv,hz⟩:=bc hi;obtain⟨p,tE,rfl⟩:=bS hv;obtain⟨Kz,Ky⟩:=az hz;obtain⟨Kx,h2⟩:=az Kz;obtain⟨Kw,h1⟩:=az Kx;obtain rfl:y=_:=Xd Kw;obtain⟨e,hu,h3⟩:=bc Ky;obtain rfl:as=[e]:=cF hu;have pa:PA X [e] (qk X F Φ [a]):=PA.imp (cA (dN (F:=F) L.toLk a e h3).1 eM (bq h3 _ _)) λ_ _ _ h=>by
   have:=gS h;obtain⟨R,τ,ρ,d,Si,ev,hq⟩:=this;exact⟨R,τ,ρ,d,Si,ev,λv H' e r=>lC (hq v H' e r)⟩
  refine iZ L.px L.calm (ki (L.gl h1) (L.bl _ (Xd h2)) pa (bq h3 _ _)) hg hb hV pins s σ H D I ?_;obtain⟨d,ed,ei⟩:=aH ei;cases d<;>try (simp at ei;done)
  rename_i n;simp at ei;obtain⟨⟨c1,c2⟩,rfl,rfl⟩:=ei;have lg:(cY:Int)=1000000:=rfl;refine⟨R,τ,ρ,[.int n],Si,by show bd (aX Φ a ρ) _=_;rw[ed];rfl,λvs H1 e1 rv=>?_⟩;obtain⟨τt,fr,rs⟩:=rv;cases rs.ints1
  ·refine⟨n,rfl,by left,by left,?_⟩;refine kc (lo:=0) Si e1 hq ?_;simpa using ef
 |jE a c =>
  obtain⟨R,τ,ρ,r,Si,ev,hq⟩:=Gd;obtain⟨⟨items,ρ1⟩,ei,ef⟩:=aH ev;obtain⟨⟨y,as⟩,hv,hz⟩:=bc hi;obtain⟨p,tE,rfl⟩:=bS hv;obtain⟨Kz,Ky⟩:=az hz;obtain⟨Kx,h2⟩:=az Kz;obtain⟨Kw,h1⟩:=az Kx;obtain rfl:y=_:=Xd Kw;obtain⟨⟨e,e'⟩,hu,h34⟩:=bc Ky;obtain rfl:as=[e,e']:=iV hu;obtain⟨h3,h4⟩:=az h34;have pa:PA X [e,e'] (qk X F Φ [a,c]):=lE L.toLk [a,c] [e,e'] (by show(bM S a e&&(bM S c e'&&true))=true;rw[h3,h4];rfl);refine iZ L.px L.calm (nK (L.gl h1) (L.bl _ (Xd h2)) pa (by rw[bq h3,bq h4];rfl) (bq h4 _ _)) hg hb hV pins s σ H D I ?_;obtain⟨d,ed,ei⟩:=aH ei;obtain⟨d',QZ,ei⟩:=aH ei;cases d<;>try (simp at ei;done)
  cases d'<;>try (simp at ei;done)
  rename_i m _ n;simp at ei;obtain⟨⟨c1,c2,c3,c4⟩,rfl,rfl⟩:=ei;have lg:(cY:Int)=1000000:=rfl;refine⟨R,τ,ρ,[.int m,.int n],Si,by show bd (aX Φ a ρ) _=_;rw[ed];show bd (bd (aX Φ c ρ) _) _=_;rw[QZ];rfl,λvs H1 e1 rv=>?_⟩;obtain⟨τt,fr,rs⟩:=rv;cases rs.ints2
  ·refine⟨m,n,rfl,⟨by left,by left,by left,by left⟩,?_⟩;exact kc (lo:=m) Si e1 hq ef
 |seq a =>
  obtain⟨R,τ,ρ,r,Si,ev,hq⟩:=Gd;obtain⟨⟨items,ρ1⟩,ei,ef⟩:=aH ev;replace hi:=az hi;obtain⟨d,ed,ei⟩:=aH ei;have pe:=(dN (F:=F) L.toLk a iter hi.1).1;cases d<;>try (simp at ei;done)
  ·rename_i ds;simp at ei;obtain⟨rfl,rfl⟩:=ei;refine iZ L.px L.calm (sQ pe) hg hb hV pins s σ H D I (tD.intro Si ed λv H1 e1 rv=>?_);obtain⟨R',τ',hR,d8,rp⟩:=lH Si e1 rv;rw[af]at rp;cases rp with
   | @tup _ p xs _ hp rs =>
    have DE:=hq.from (Kp.of e1 hR);refine⟨p,rfl,⟨xs,hp⟩,vh (xs:=xs) (mY X F Φ t b R' H1 r (aw aA ds)) ⟨R',τ',_,d8,Kp.refl R' H1,by rw[List.drop_zero];exact ef⟩ (λi σ' H' _ h=>?_) (λi x σ' H' hx h=>mz rj rs DE i x σ' H' hx h) (λσ' H' h=>pO (rs.length) DE σ' H' h)⟩;obtain⟨R2,τ2,ρ2,_,kp,_⟩:=h;exact kp.Mj hp
  ·rename_i f ds;simp at ei;obtain⟨rfl,rfl⟩:=ei;refine iZ L.px L.calm (o5 pe) hg hb hV pins s σ H D I (tD.intro Si ed λv H1 e1 rv=>?_);obtain⟨R',τ',hR,d8,rp⟩:=lH Si e1 rv;rw[af]at rp;obtain⟨p,xs,rfl,hp,rs⟩:=rp.qv;have DE:=hq.from (Kp.of e1 hR);refine⟨p,rfl,⟨xs,hp.sq⟩,rE (xs:=xs) (mY X F Φ t b R' H1 r (aw aA ds)) ⟨R',τ',_,d8,Kp.refl R' H1,by rw[List.drop_zero];exact ef⟩ (λi σ' H' _ h=>?_) (λi x σ' H' hx h=>mz rj rs DE i x σ' H' hx h) (λσ' H' h=>pO (rs.length) DE σ' H' h)⟩;obtain⟨R2,τ2,ρ2,_,kp,_⟩:=h;exact(kp.nd hp).sq
theorem tu{ρ':aU}{p:Addr}{q:bo}{n:Nd}{o:HO}(Si:SI X F R' τ' ρ' σ H1)(es:aI H H1)(hR:∀p,R p->R' p)(hp:d6 H1 p n)(ht:τ' p=some q):Kp R H R' (upd H1 p o):=by
 obtain⟨o0,Ii,KJ,Ih⟩:=d6.some hp;exact⟨hR,λa u ha e=>by
  have ne:a≠p:=λz=>by subst z;rw[Si.rt _ (hR _ ha)]at ht;cases ht
  rw[aY ne];exact es _ _ e,λa zs e=>by
  have e1:=es _ _ e;have ne:a≠p:=λz=>by subst z;rw[Ii]at e1;cases e1;exact KJ _ rfl
  rw[aY ne];exact e1,λa o u e=>by
  have e1:=es _ _ e;have ne:a≠p:=λz=>by subst z;rw[Ii]at e1;cases e1;exact Ih _ _ rfl
  rw[aY ne];exact e1⟩
theorem gO.go{v:V}{d:DI.D}(h:gO X R τ H v d)(e:aI H H'):gO X R τ H' v d :=
 let ⟨τt,h1,h2⟩:=h;⟨τt,λp q z=>let ⟨a,b,c,d⟩:=h1 p q z;⟨a,b,c,aI.ne e d⟩,h2.imp (λ_ _ h=>a_.same e h) λ_ _ _ _ h=>nd.same e h⟩
theorem O5(L:lB X S k Φ){i:Nat}{o:Expr}(h:lr S i o=true)(hv:∀x p,o=.Name x p->k8 x=true):∃x p,o=.Name x p/\X.N[i]?=some x/\L2.Loc X.env.scope x/\PE X o (lZ i):=by
 cases o<;>try (exact(Xe h).elim;done)
 rename_i x p;have hn:=hv x p rfl;replace h:=az h;unfold k8 at hn;simp only[Bool.and_eq_true,Bool.not_eq_true']at hn;have hN:X.N[i]?=some x:=by rw[L.N];exact Xd h.1
 have hl:=L.loc h.2;exact⟨x,p,rfl,hN,hl,gh hN (hl.imp id .inl) hn.1.1 hn.1.2⟩
theorem vj{e:CE}{r:DI.D×aU}{i:Nat}{ds:List DI.D}(h:eY Φ e ρ=ok r)(ho:r.2[i]?=some (some (.lst .ow ds))):ρ[i]?=some (some (.lst .ow ds)):=by
 by_cases hv:∃j,e=.v j
 ·obtain⟨j,rfl⟩:=hv;simp only[eY]at h;split at h
  ·split at h
   ·cases h;by_cases m5:i=j
    ·subst m5;rw[List.getElem?_set]at ho;simp at ho
    ·rw[List.getElem?_set_ne (Ne.symm m5)]at ho;exact ho
   ·cases h;exact ho
  ·cases h
 ·have h':bd (aX Φ e ρ) (λd=>ok (keep e d ρ))=ok r:=by
   cases e<;>first|exact h|exact absurd ⟨_,rfl⟩ hv
  obtain⟨d,_,er⟩:=aH h';cases er;unfold keep at ho;split at ho
  ·obtain⟨d',h1,h2⟩:=vf _ _ _ _ ho;split at h2
   ·cases d'<;>simp[af]at h2;rename_i f fV;cases f<;>simp[aA]at h2
   ·rw[h2];exact h1
  ·exact ho
theorem Ey(L:lB X S k Φ){i:Nat}{e:CE}{x:Str}{v:Expr}{p p2:Pos}(hn:lr S i (.Name x p)=true)(hx:k8 x=true)(he:bM S e v=true)(Ik:(p1.endLine==p2.line)=true):PS X (.Expr (.Call (.Attribute (.Name x p) ("append" : Str) p1) [v] [] p2) pos) (oE X F Φ (.app i e)):=by
 obtain⟨_,_,z,hN,hl,pe⟩:=O5 L hn (λy q e=>by cases e;exact hx);cases z;refine PS.imp (oY (JS PySem.F.plainAttrs_list PySem.F.slot_list_append PySem.F.type_list_append wd pe (cA (oK (F:=F) L.toLk e v he) eM (bq he _ _)) (hfew:=by rw[bq he];rfl) (hline:=Ik) (hs:=bq he _ _))) λD σ H hq=>?_;obtain⟨R,τ,ρ,r,Si,ev,hq⟩:=hq;obtain⟨r1,tS,ev⟩:=aH ev;split at ev
 ·rename_i ds ho;split at ev
  ·rename_i hc;cases ev;have ho:=uJ ho;obtain⟨a,xs,hv,ha,SA,PJ,_⟩:=Si.own (vj tS ho);refine⟨.ref a,hv,.inl ⟨rfl,_,dF.of ha⟩,R,τ,ρ,r1,Si,tS,λw H1 R1 τ1 es hR xl rk=>?_⟩;obtain⟨a1,TF,MO,Qs,U2,KG,Um⟩:=xl.own ho;rw[hv]at MO;cases MO;have hz:sizeLine=16777216:=XY;have lg:cY=1000000:=rfl;refine⟨a,TF,w,rfl,rfl,Qs,by left,?_⟩;obtain⟨τ2,sd⟩:=xl.put (m:=ds.length) (g:=λys=>ys++[w]) ho hv Qs KG Um rk λrs r=>aB.uA rs (by simpa using r);exact hq σ _ R1 τ2 sd (tu (n:=.l _) xl es hR Qs KG)
  ·cases ev
 ·cases ev
theorem AG(L:lB X S k Φ){i:Nat}{c e:CE}{x:Str}{ke v:Expr}{p:Pos}(hn:lr S i (.Name x p)=true)(hx:k8 x=true)(hk:bM S c ke=true)(he:bM S e v=true)(P5:fA v=false):PS X (.Assign [.Subscript (.Name x p) ke p1] v pos) (oE X F Φ (.setI i c e)):=by
 obtain⟨_,_,z,hN,hl,pe⟩:=O5 L hn (λy q e=>by cases e;exact hx);cases z;have hw:swappedStores [.Subscript (.Name x p) ke p1] v X.env=pure none:=by cases v<;>rfl
 have ha:∀u,assign (.Subscript (.Name x p) ke p1) X.env u=(do
   let ov <- holding [u] (eval (.Name x p) X.env)
   let iv <- holding [u,ov] (eval ke X.env)
   standAt p1
   holding [u,ov,iv] (setItem ov iv u)
   release [u,ov,iv] []):=by
  intro u;cases ke<;>first|rfl | (cases c<;>exact(Xe hk).elim)
 refine PS.imp (sO (oK (F:=F) L.toLk e v he) (yo pe (dN (F:=F) L.toLk c ke hk).1 set_list ha) (by first|rfl | (cases v<;>rfl) | (unfold swapsWithSole;exact fY he P5 _ _ _)) hw rfl) λD σ H hq=>?_;obtain⟨R,τ,ρ,r,Si,ev,hq⟩:=hq;obtain⟨r1,tS,ev⟩:=aH ev;obtain⟨n,en,ev⟩:=aH ev;obtain⟨d,ed,en⟩:=aH en;have en:=BH en;subst en;split at ev
 ·rename_i ds ho;split at ev
  ·rename_i j hj;cases ev;have ho:=uJ ho;obtain⟨a,xs,hv,ha,SA,PJ,_⟩:=Si.own (vj tS ho);refine⟨R,τ,ρ,r1,Si,tS,λw H1 R1 τ1 es hR xl rk=>?_⟩;refine⟨.ref a,hv,tD.intro xl ed λu H2 e2 ru=>?_⟩;cases ru.isInt;have sd:=xl.go e2;obtain⟨a2,D8,MN,Qr,Pz,KD,AS⟩:=sd.own ho;rw[hv]at MN;cases MN;refine⟨a,D8,n,j,rfl,rfl,Qr,by rw[Pz];exact hj,?_⟩;obtain⟨τ3,CA⟩:=sd.put (m:=j) (g:=λys=>ys.set j w) ho hv Qr KD AS (rk.go e2) λrs r=>aB.setAt (j:=j) rs (by simpa using r);exact hq σ _ R1 τ3 CA (tu (n:=.l _) sd (es.trans e2) hR Qr KD)
  ·cases ev
 ·cases ev
end
section
variable {X:Cx}{S:Sx}{k:Nat}{F:ag}{Φ:aV}
theorem EZ(x:Str)(p:Pos):(Expr.Name x p).pos=p:=rfl
theorem sF{x y:Str}{px py pt HS:Pos}{kt k2:Nat}{a b:Expr}(hk:env.scope.kind=.function)(hx:env.scope.names.lookup x=some .local)(hy:env.scope.names.lookup y=some .local)(Sz:x≠y)(hl:px.line=py.line)
  (h1:[a,b].all (foldedForSure 8)=false) (h2:[a,b].all (constantsAlone 8)=false) (h3:([a,b].any λe=>match e with|.Starred ..=>true|_=>false)=false) :
  swappedStores [.Tuple [.Name x px,.Name y py] kt pt] (.Tuple [a,b] k2 HS) env=pure (some [x,y]):=by
 have hb:env.blockKind=.function:=by unfold Env.blockKind;rw[hk];rfl
 have kx:env.kindOf x=some .local:=hx;have ky:env.kindOf y=some .local:=hy;have e1:([x,y].eraseDups.length != [x,y].length)=false:=by
  have:¬ (y==x)=true:=by simp;exact λz=>Sz z.symm
  have h':(y==x)=false:=by simpa using this
  simp[List.eraseDups_cons,List.filter,h',Sz]
 unfold swappedStores;simp only[hb,h3,List.filterMap_cons,List.filterMap_nil,kx,ky,hl,EZ,List.head?_cons,Option.map_some,Option.getD_some,h1,h2];simp only[beq_self_eq_true,Bool.and_self,if_true];rw[if_neg (by simp)];refine(XQ ?_).trans ?_
 ·intro z;exact Xe (h3.symm.trans z)
 rw[if_neg (by
  rw[e1];simp),if_neg Bool.false_ne_true,if_neg Bool.false_ne_true]
theorem qL{kp:bo}{v:V}{d:DI.D}(h:Rep (a_ X.K H) (nd X.K R A τ H) kp v d)(hf:aW anyF d=false):gO X R' τ' H v d :=
 ⟨λ_=>none,λ_ _ h=>by simp at h,Rep.without (P:=anyF) (λ_ _ h=>h) (λk k' p xs f hf h=>by cases hf) h hf _⟩
theorem Ew(L:lB X S k Φ){i j:Nat}{a b:CE}{v:Expr}(he:bM S (.tup [a,b]) v=true)(hp:zP S i j tg v=true):PS X (.Assign [tg] v pos) (oE X F Φ (.par i j a b)):=by
 obtain⟨ts,MO,q1⟩:=bc hp;obtain⟨kt,pt,rfl⟩:=jy MO;obtain⟨⟨t1,t2⟩,MN,q2⟩:=bc q1;obtain rfl:ts=[t1,t2]:=iV MN;obtain⟨⟨x,px⟩,hv3,q3⟩:=bc q2;obtain rfl:t1=_:=uu hv3;obtain⟨⟨y,py⟩,hv4,q4⟩:=bc q3;obtain rfl:t2=_:=uu hv4;obtain⟨vs,U5,q5⟩:=bc q4;obtain⟨k2,HS,rfl⟩:=jy U5;obtain⟨⟨ea,eb⟩,hv6,q6⟩:=bc q5;obtain rfl:vs=[ea,eb]:=iV hv6
 ·obtain⟨q7,Lj⟩:=az q6;obtain⟨q8,h9⟩:=az q7;obtain⟨q9,h8⟩:=az q8;obtain⟨OK,h7⟩:=az q9;obtain⟨Uz,h6⟩:=az OK;obtain⟨Uy,h5⟩:=az Uz;obtain⟨Ux,h4⟩:=az Uy;obtain⟨Uw,h3⟩:=az Ux;obtain⟨h1,h2⟩:=az Uw;replace h1:S.N[i]?=some x:=Xd h1;replace h2:S.N[j]?=some y:=Xd h2;replace h3:=Xd h3;replace h4:=Xd h4;replace h5:=Xd h5;replace h6:=Xd h6;replace h7:=Xd h7;replace h8:=dA h8;replace h9:=dA h9;replace Lj:=Xd Lj;replace he:=az he;have pa:=lE (F:=F) L.toLk [a,b] [ea,eb] he.1;refine PS.imp (EY L.calm L.nd (by rw[L.N];exact h1) (by rw[L.N];exact h2) h3 (by rw[L.sc];exact h4) (by rw[L.sc];exact h5) pa (sF (by rw[L.sc];exact L.fk) (by rw[L.sc];exact h4) (by rw[L.sc];exact h5) h6 h7 h8 h9 Lj)) λD σ H hq=>?_;obtain⟨R,τ,ρ,r,Si,ev,hq⟩:=hq;obtain⟨d1,V8,ev⟩:=aH ev;obtain⟨d2,V7,ev⟩:=aH ev;simp only[DD]at ev;obtain⟨⟨f1,f2,l1,l2⟩,rfl⟩:=ev;refine⟨R,τ,ρ,[d1,d2],Si,by show bd (aX Φ a ρ) _=_;rw[V8];show bd (bd (aX Φ b ρ) _) _=_;rw[V7];rfl,λvs H1 e1 rv=>?_⟩;obtain⟨τt,fr,rs⟩:=rv;obtain⟨v1,v2,rfl,r1,r2⟩:=rs.two
  ·obtain⟨τ1,S1⟩:=(Si.go e1).set (i:=i) (qL r1 f1) l1;obtain⟨τ2,S2⟩:=S1.set (i:=j) (qL r2 f2) (by simpa using l2);exact⟨v1,v2,rfl,hq _ H1 R τ2 S2 (Kp.of e1 λ_ h=>h)⟩
theorem wg{α β:Type}(f:α->β):∀(ms:List α) (m:Nat),(ms.map f).eraseIdx m=(ms.eraseIdx m).map f
 |[],_=>rfl
 |_::_,0=>rfl
 |x::ms,m+1=>by
  show f x::(ms.map f).eraseIdx m=f x::(ms.eraseIdx m).map f;rw[wg f ms m]
theorem aB.LH{T:mU}{N:gc}:∀{k:bo} {n:Nat} {vs:ae} {ds:aa},aB T N k n vs ds->aB T N k n vs.dropLast ds.dropLast
 |_,_,_,_,.nil=>.nil
 |_,_,_,_,.cons _ .nil=>.nil
 |_,_,_,_,.cons h (.cons h' t)=>.cons h (aB.LH (.cons h' t))
mutual
theorem sH(L:lB X S k Φ):∀(c:CS) (st:Stmt),mO S c st=true->PS X st (oE X F Φ c)
 |.asg t e,st,h=>by
  obtain⟨⟨Ac,v⟩,v1,q1⟩:=bc h;obtain⟨pos,rfl⟩:=jz v1;obtain⟨tg,v2,q2⟩:=bc q1;obtain rfl:Ac=[tg]:=cF v2;obtain⟨q3,h4⟩:=az q2;obtain⟨q4,h3⟩:=az q3;obtain⟨h1,h2⟩:=az q4;have h1:bM S e v=true:=h1;replace h3:(isTup v&&isTup tg)=false:=dA h3;cases hc:fA v with
  |false=>exact xQ L h1 h2 h3 (fY h1 hc _ _ _)
  |true =>
   have h4:(!fA v||isNm tg)=true:=h4;rw[hc]at h4;obtain⟨x,p,rfl⟩:=pE h4;obtain⟨iM,gens,sc,IL,rfl⟩:=wu hc;cases e<;>try (exact(Xe h1).elim)
   cases t with
   |tp is=>exact(Xe h2).elim
   |nm i =>
    cases hb:Ob S (.Name x p) (.ListComp iM gens sc IL)with
    |true=>exact AH L h1 h2 (by rw[CY L,hb])
    |false=>exact xQ L h1 h2 h3 (by
      show swapsWith (.ListComp iM gens sc IL) (some (.Name x p)) pos.line X.env=_;rw[CY L,hb])
 |.par i j a b,st,h=>by
  obtain⟨⟨Ac,v⟩,v1,q1⟩:=bc h;obtain⟨pos,rfl⟩:=jz v1;obtain⟨tg,v2,q2⟩:=bc q1;obtain rfl:Ac=[tg]:=cF v2;exact Ew L (az q2).1 (az q2).2
 |.ret e,st,h=>by
  obtain⟨z,v1,q1⟩:=bc h;obtain⟨pos,rfl⟩:=ur v1;obtain⟨v,v2,q2⟩:=bc q1;obtain rfl:z=some v:=v2;exact Eu L q2
 |.rs c,st,h=>λ_ _ _ _ _ _ bK=>by obtain⟨R,τ,ρ,r,Si,ev,hq⟩:=bK;cases ev
 |.ex e,st,h=>by
  obtain⟨v,v1,q1⟩:=bc h;obtain⟨pos,rfl⟩:=oD v1;exact Jt L (az q1).1 (dA (az q1).2)
 |.mut p i es,st,h=>by
  obtain⟨⟨o,args⟩,ha,q1⟩:=bc h;obtain⟨q2,h3⟩:=az q1;obtain⟨h1,h2⟩:=az q2;obtain⟨x,pp,rfl,hN,hl,pe⟩:=O5 L h1 (λy q e=>by cases e;exact h2);exact L.pm.m X _ _ k L.toLk.pX L.nd L.m6 p st x pp args ha i hN hl pe F es (qA L.toLk es args h3)
 |.app i e,st,h=>by
  obtain⟨c,v1,q1⟩:=bc h;obtain⟨pos,rfl⟩:=oD v1;obtain⟨⟨fn,as,ks,p2⟩,v2,q2⟩:=bc q1;obtain rfl:c=_:=vN v2;obtain⟨q3,q4⟩:=az q2;obtain rfl:ks=[]:=jL q3;obtain⟨⟨o,a,p1⟩,v3,q5⟩:=bc q4;obtain rfl:fn=_:=xC v3;obtain⟨q6,q7⟩:=az q5;obtain⟨v,v4,h4⟩:=bc q7;obtain rfl:as=[v]:=cF v4;obtain⟨q8,h5⟩:=az q6;obtain⟨q9,h2⟩:=az q8;obtain⟨OK,h1⟩:=az q9;obtain rfl:a=_:=Xd OK;obtain⟨x,p,rfl⟩:∃x p,o=.Name x p:=pW h1;exact Ey L h1 h2 h4 h5
 |.setI i k e,st,h=>by
  obtain⟨⟨Ac,v⟩,v1,q1⟩:=bc h;obtain⟨pos,rfl⟩:=jz v1;obtain⟨tg,v2,q2⟩:=bc q1;obtain rfl:Ac=[tg]:=cF v2;obtain⟨⟨o,ke⟩,v3,q3⟩:=bc q2;obtain⟨p1,rfl⟩:=fc v3;obtain⟨q4,h5⟩:=az q3;obtain⟨q5,h4⟩:=az q4;obtain⟨q6,h3⟩:=az q5;obtain⟨h1,h2⟩:=az q6;obtain⟨x,p,rfl⟩:∃x p,o=.Name x p:=pW h1;exact AG L h1 h2 h3 h4 (dA h5)
 |.ifs c a b,st,h=>by
  obtain⟨⟨t,x,y⟩,v1,q1⟩:=bc h;obtain⟨pos,rfl⟩:=oB v1;obtain⟨q2,h3⟩:=az q1;obtain⟨h1,h2⟩:=az q2;exact Js L h1 (ff L a _ h2) (ff L b _ h3)
 |.CJ c b,st,h=>by
  obtain⟨⟨t,x,y⟩,v1,q1⟩:=bc h;obtain⟨pos,rfl⟩:=Ap v1;obtain⟨q2,h3⟩:=az q1;obtain⟨h1,h2⟩:=az q2;obtain rfl:y=[]:=jL h1;exact xP L h2 (ff L b _ h3)
 |.fr t it b,st,h=>by
  obtain⟨⟨tg,iter,x,y⟩,v1,q1⟩:=bc h;obtain⟨pos,rfl⟩:=uv v1;obtain⟨q2,h5⟩:=az q1;obtain⟨q3,h4⟩:=az q2;obtain⟨q4,h3⟩:=az q3;obtain⟨h1,h2⟩:=az q4;obtain rfl:y=[]:=jL h1;exact Ex L h2 h3 h4 (ff L b _ h5)
theorem ff(L:lB X S k Φ):∀(cs:ah) (m3:aO),gI S cs m3=true->fJ X m3 (nc X F Φ cs)
 |[],[],_=>fJ.imp oX λD σ H bK=>by obtain⟨R,τ,ρ,r,Si,ev,hq⟩:=bK;cases ev;exact hq σ H R τ Si (Kp.refl R H)
 |[],_::_,h=>by exact(Xe h).elim
 |_::_,[],h=>by exact(Xe h).elim
 |c::cs,st::m3,h=>by
  replace h:=az h;have h1:PS X st (oE X F Φ c):=sH L c st h.1;have h2:fJ X m3 (nc X F Φ cs):=ff L cs m3 h.2;refine fJ.imp (bZ h1 h2) λD σ H hq=>?_;obtain⟨R,τ,ρ,r,Si,ev,hq⟩:=hq;obtain⟨⟨fo,ρ1⟩,e1,ev⟩:=aH ev;refine⟨R,τ,ρ,(fo,ρ1),Si,e1,?_⟩;cases fo with
  |nx=>exact λσ' H' R' τ' d8 kp=>⟨R',τ',ρ1,r,d8,ev,hq.from kp⟩
  |rt d=>cases ev;exact hq
end
end
variable {mg:Str->Option Value}{ps:av}{qual:Str}
theorem rF{x:Str}{f:Addr}{fd:FuncData}{k:Nat}{N bl:av}{cs:List (Str×GK)}{px:Px}{m6:Nat->Option Str}{m:aD}{body:ah}
  (Fu:wY K x qual st f fd) (Sc:dX N ps (ay st)) (zd:gI ⟨ay st,N,m6,bl,cs,px⟩ body (bg st)=true) (Ge:lx px Φ) (Gf:z5 px Φ)
  (pI:∀y∈bl,mg y=none) (jO:∀y i,(y,i)∈cs->∃u,mg y=some u/\uo K i u)
  (uY:∀g y,m6 g=some y->∃(f:Addr) (fd:FuncData) (ps:av),eF P w K mg base qr k f fd ps (Ad K ps.length (Φ g))/\mg y=some (.ref f)/\PySem.W.keepIn K (.ref f)=true/\Binds K fd ps []/\∀ds r,Φ g ds=ok r->ds.length=ps.length)
  (hm:∀ds r,m ds=ok r->ds.length=ps.length/\oR Φ N.length body ds=ok r):eF P w K mg base qr (k+1) f fd ps (Ad K ps.length m):=by
 refine Fu.ok (N:=N) Sc (λvs H Q E ⟨_,_,_,h,_⟩=>h) λeD A outer s H vs Q E hr qm=>?_;obtain⟨F,ds,r,hl,rs,er,hq⟩:=qm;obtain⟨SR,y8⟩:=hm ds r er
 let X:=(gN qr P w K mg base N qual (ay st) f eD A outer s H E).sY
 have L:lB X ⟨ay st,N,m6,bl,cs,px⟩ k Φ:=⟨⟨rfl,rfl,Sc.nd,rfl,hr,pI,λg y h=>⟨uY g y h⟩,jO,Ge⟩,λ_=>rfl,PassesOwn.never,Sc.kind,Gf⟩
 refine⟨nc X F Φ body,ff L body _ zd,?_⟩;unfold oR at y8;obtain⟨⟨fo,ρ'⟩,eb,y8⟩:=aH y8;have hpl:ps.length<=N.length:=by have:=XI List.length Sc.pre;rw[List.length_take]at this;left
 have KC:vs.length=ds.length:=rs.length;refine⟨λp=>F p/\H p≠none,λ_=>none,_,(fo,ρ'),⟨?_,λi d hi=>?_,λ_ _=>rfl,λp h=>h.2,λp h=>.inl h.1,λ_ _ h=>by simp at h,λ_ _ h=>by simp at h,aI.refl H⟩,eb,?_⟩
 ·unfold L2.start;simp[KC]
 ·have K4:i<ds.length:=by
   by_cases qq:i<ds.length
   ·exact qq
   ·rw[List.getElem?_append_right (by simpa using qq)]at hi;rw[List.getElem?_replicate]at hi;split at hi<;>simp at hi
  rw[List.getElem?_append_left (by simpa using K4),List.getElem?_map]at hi;have hd:ds[i]?=some d:=by
   cases q:ds[i]? with
   |none=>rw[q]at hi;cases hi
   |some z=>rw[q]at hi;simp at hi;rw[hi]
  obtain⟨v,hv,rv⟩:=rs.get hd;refine⟨v,?_,rv.imp (q:=[0+i]) (q':=[i]) (λ_ _ h=>h) λc p xs f h=>?_⟩
  ·unfold L2.start;rw[List.getElem?_append_left (by rw[List.length_map,KC];exact K4),List.getElem?_map,hv];rfl
  ·cases f with
   |ow=>exact nomatch h.2
   |fz=>exact⟨h.1,h.2,h.1.ne⟩
   |al=>exact h.2.elim
   |sc=>exact h
 ·cases fo with
  |nx =>
   cases y8;exact λσ' H' R' τ' d8 kp=>hq .bB H' d8.same ⟨λ_=>none,λ_ _ h=>by simp at h,.bB⟩
  |rt d =>
   cases y8;exact λv H' es rr=>hq v H' es rr
structure Ent(P:aJ)(w:World)(K:ak)(mg:aP)(base:Heap)(k:Nat)(y:Str)(m:aD):Prop where
 ex:∃(f:Addr) (fd:FuncData) (ps:av),eF P w K mg base qr k f fd ps (Ad K ps.length m)/\mg y=some (.ref f)/\PySem.W.keepIn K (.ref f)=true/\Binds K fd ps []/\∀ds r,m ds=ok r->ds.length=ps.length
theorem Ent.up{k k':Nat}{y:Str}{m:aD}(h:Ent P w K mg base k y m)(hk:k<=k'):Ent P w K mg base k' y m:=by
 obtain⟨f,fd,ps,h1,h2⟩:=h.ex;exact⟨f,fd,ps,h1.mono hk,h2⟩
theorem ent{x:Str}{f:Addr}{fd:FuncData}{k:Nat}{N bl:av}{cs:List (Str×GK)}{px:Px}{m6:Nat->Option Str}{m:aD}{body:ah}
  (Fu:wY K x qual st f fd) (hmg:mg x=some (.ref f)) (hb:Binds K fd ps []) (Sc:dX N ps (ay st)) (zd:gI ⟨ay st,N,m6,bl,cs,px⟩ body (bg st)=true) (Ge:lx px Φ) (Gf:z5 px Φ) (pI:∀y∈bl,mg y=none) (jO:∀y i,(y,i)∈cs->∃u,mg y=some u/\uo K i u)
  (uY:∀g y,m6 g=some y->Ent P w K mg base k y (Φ g)) (hm:∀ds r,m ds=ok r->ds.length=ps.length/\oR Φ N.length body ds=ok r):Ent P w K mg base (k+1) x m :=
 ⟨f,fd,ps,rF Fu Sc zd Ge Gf pI jO (λg y h=>(uY g y h).ex) hm,hmg,Fu.kp,hb,λds r h=>(hm ds r h).1⟩
noncomputable def bJ{α:Type}(P:α->Prop):List α->Prop
 |[]=>True
 |a::l=>P a/\bJ P l
theorem bJ.mem{α:Type}{P:α->Prop}:∀{l:List α},bJ P l->∀a∈l,P a
 |[],_,_,h=>by cases h
 |_::_,h,_,hm=>(List.mem_cons.mp hm).elim (λe=>e▸h.1) (bJ.mem h.2 _)
theorem bJ.tab{β:Type}{P:Nat->β->Prop}:∀{l:List (Nat×β)},bJ (λp=>P p.1 p.2) l->∀g y,l.lookup g=some y->P g y
 |[],_,_,_,h=>by cases h
 | (k,b)::l,h,g,y,e=>by
  rw[List.lookup_cons]at e;cases hg:g==k with
  |true=>rw[hg]at e;cases e;rw[eq_of_beq hg];exact h.1
  |false=>rw[hg]at e;exact bJ.tab h.2 g y e
theorem bJ.two{β γ:Type}{P:β->γ->Prop}{l:List (β×γ)}(h:bJ (λp=>P p.1 p.2) l)(y:β)(i:γ)(hm:(y,i)∈l):P y i:=bJ.mem h _ hm
theorem Kg{α:Type}{l:List α}(h:l.length=1):∃a,l=[a]:=List.length_eq_one_iff.mp h
theorem Bz{α:Type}{l:List α}(h:l.length=2):∃a b,l=[a,b]:=by
 cases l with
 |nil=>cases h
 |cons a l=>obtain⟨b,rfl⟩:=Kg (YH h);exact⟨a,b,rfl⟩
theorem By{α:Type}{l:List α}(h:l.length=3):∃a b c,l=[a,b,c]:=by
 cases l with
 |nil=>cases h
 |cons a l=>obtain⟨b,c,rfl⟩:=Bz (YH h);exact⟨a,b,c,rfl⟩
theorem Bx{α:Type}{l:List α}(h:l.length=4):∃a b c d,l=[a,b,c,d]:=by
 cases l with
 |nil=>cases h
 |cons a l=>obtain⟨b,c,d,rfl⟩:=By (YH h);exact⟨a,b,c,d,rfl⟩
theorem Kf{α:Type}{l:List α}(h:l.length=5):∃a b c d e,l=[a,b,c,d,e]:=by
 cases l with
 |nil=>cases h
 |cons a l=>obtain⟨b,c,d,e,rfl⟩:=Bx (YH h);exact⟨a,b,c,d,e,rfl⟩
noncomputable def mm:aa->Option (ai)
 |[]=>some []
 |.int i::ds=>(mm ds).map (i :: ·)
 |_::_=>none
theorem ml:∀ns:ai,mm (ns.map D.int)=some ns
 |[]=>rfl
 |n::ns=>by simp[mm,ml ns]
theorem qV:∀{ds:aa} {ns:ai},mm ds=some ns->ds=ns.map D.int
 |[],ns,h=>by simp[mm]at h;subst h;rfl
 |d::ds,ns,h=>by
  cases d<;>simp[mm]at h;obtain⟨ms,h1,rfl⟩:=h;rw[qV h1];rfl
def pk:aD
 |[.lst .sc ds]=>match mm ds with
  |some ns=>if ns.length<=63 then ok (.bl true)else none
  |none=>none
 |_=>none
theorem Bu(h:ns.length<=63):pk [.lst .sc (ns.map D.int)]=ok (.bl true):=by
 simp[pk,ml,h]
theorem yO{n:Nat}{b:ah}(h:∀ns:ai,ns.length<=63->oR Φ n b [.lst .sc (ns.map D.int)]=ok (.bl true)):∀ds r,pk ds=ok r->ds.length=1/\oR Φ n b ds=ok r:=by
 intro ds r e
 match ds,e with
 |[.lst .sc ds],e =>
  simp only[pk]at e;split at e
  ·rename_i ns xf;split at e
   ·rename_i hl;cases e;obtain rfl:=qV xf;exact⟨rfl,h ns hl⟩
   ·cases e
  ·cases e
theorem FL(K:ak)(H:Hp)(a:Addr)(ns:ai)(m:aD)(hm:m [.lst .sc (ns.map D.int)]=ok (.bl true))(hO:CB H)(hS:dF K H a (ns.map V.int)):Ad K 1 m [.ref a] H (λv _=>v=.bl true) λ_ _ _=>False:=by
 refine⟨λ_=>True,_,.bl true,rfl,.cons (.lst ?_ (aB.ints ns)) .nil,hm,λv H' _ bK=>by obtain⟨τt,_,rp⟩:=bK;cases rp;rfl⟩;rcases hS with (h|h)|h
 ·rcases hO a with z|⟨o,xs,z⟩
  ·rw[h]at z;cases z
  ·rw[h]at z;cases z
 ·exact .inl h
 ·exact .inr h
section
variable {X:Cx}{pins:aj}{σ:St}{H:Hp}{s:Shared}{h':Heap}
theorem Ax(I:Inv X pins σ H s)(hf:∀b∈ch,mX X pins H b)(k:∀b u,b∉ch->s.heap.get? b=some u->h'.get? b=some u):Inv X pins σ H { s with heap:=h',toks:=t' }:=by
 have Dw:∀b u,H b=some u->b∉ch:=λb u e z=>by rw[(hf b z).1]at e;cases e
 refine I.step (g':=s.gens) (d':=s.drawn) (ch:=ch) (λb hb=>⟨(hf b hb).2.2.2.1,(hf b hb).2.1,(hf b hb).2.2.2.2.1,(hf b hb).2.2.2.2.2⟩) (λb o _ _ hc e _=>k b o hc e) (λb o _ _ hc e _=>⟨o.slots,k b o hc e⟩) (λ_ _ _ _ n=>n)
  (λb o hc e=>⟨o,k b o hc e⟩) (λ_ _ e=>e) (λ_ _ _ e=>e) (λb ps e=>⟨#[],by rw[e];simp⟩) (λm hm=>?_) (λb u e=>?_) I.bare
 ·obtain⟨o,es,ep,ho,r⟩:=hm;exact⟨o,es,ep,k _ o (λz=>(hf _ z).2.1 rfl) ho,r⟩
 ·refine(I.cn b u e).kW (λc v hc q=>k c v ?_ q) (λ_ q=>q) λ_ _ q=>q;rcases hc with z|z
  ·rw[z];exact Dw b u e
  ·exact Dw c _ z
theorem Ay{T:Addr}{o:HO}(I:Inv X pins σ H s)(hf:∀b∈ch,mX X pins H b)(k:∀b u,b∉ch->s.heap.get? b=some u->h'.get? b=some u)(hT:s.heap.objs.size<=T)(new:dj X.prog X.w (upd H T o) h' T o):
  Inv X pins σ (upd H T o) { s with heap:=h',toks:=t' }:=by
 have Dw:∀b u,H b=some u->b∉ch:=λb u e z=>by rw[(hf b z).1]at e;cases e
 have hn:H T=none:=I.cn.fresh hT;have ne:∀b (u:Obj),s.heap.get? b=some u->b≠T:=λb u e z=>absurd (Xg e) (by rw[z];exact Nat.not_lt.mpr hT);have up:∀b u,H b=some u->upd H T o b=some u:=λb u e=>by rw[aY (bU e hn)];exact e
 refine I.step (g':=s.gens) (d':=s.drawn) (ch:=ch) (λb hb=>⟨(hf b hb).2.2.2.1,(hf b hb).2.1,(hf b hb).2.2.2.2.1,(hf b hb).2.2.2.2.2⟩) (λb o _ _ hc e _=>k b o hc e) (λb o _ _ hc e _=>⟨o.slots,k b o hc e⟩) (λb u _ e n=>by rw[aY (ne b u e)];exact n)
  (λb o hc e=>⟨o,k b o hc e⟩) (λ_ _ e=>up _ _ e) (λ_ _ _ e=>up _ _ e) (λb ps e=>⟨#[],by rw[up _ _ e];simp⟩) (λm hm=>?_) (uW (λb u e=>?_) hn new) I.bare
 ·obtain⟨o,es,ep,ho,r⟩:=hm;exact⟨o,es,ep,k _ o (λz=>(hf _ z).2.1 rfl) ho,r⟩
 ·refine(I.cn b u e).kW (λc v hc q=>k c v ?_ q) (λ_ q=>q) λ_ _ q=>q;rcases hc with z|z
  ·rw[z];exact Dw b u e
  ·exact Dw c _ z
end
def Rz(K:ak)(a b:Addr):It :=
  ⟨λi H=>∃xs ys x y,dF K H a xs/\dF K H b ys/\xs[i]?=some x/\ys[i]?=some y,
   λi H v H'=>∃T x y,(∀xs,dF K H a xs->xs[i]?=some x)/\(∀ys,dF K H b ys->ys[i]?=some y)/\H T=none/\v=.ref T/\H'=upd H T (.tup [x,y]),
   λi H=>∃xs ys,dF K H a xs/\dF K H b ys/\(xs.length<=i\/ys.length<=i)⟩
theorem Az{h:Heap}{T:Addr}{x y:V}{u v:Value}(rx:RelV x u)(ry:RelV y v)(e:h.get? T=some { cls:=.type "tuple",data:=.seq #[u,v] }):dj P w H h T (.tup [x,y]) :=
 ⟨by rw[sizeLine_eq];simp,[u,v],.cons rx (.cons ry .nil),⟨_,e,rfl,_,rfl⟩⟩
theorem cW{h:Heap}{a b:Addr}{u:Obj}(ha:h.get? a=some o)(hb:h.get? b=some u)(hc:o.cls≠u.cls):a≠b:=λz=>by
 subst z;rw[ha]at hb;cases hb;exact hc rfl
theorem xG{tp:Pos}{a b z TI TO i1 i2:Addr}(VN:TI≠TO)(VW:i1≠i2):
  Turn P w K (.Tuple elts n1 tp) (Rz K a b) [z,TI,TO,i1,i2] z (λi h=>IsZip h z TI TO .none/\IsPair h TI (.ref i1) (.ref i2)/\(∃x y,IsPair h TO x y)/\h.IsListIter i1 a i/\h.IsListIter i2 b i):=by
 have apart:∀{h:Heap} {x y:Value} {xs ys:bx} {i:Nat},IsZip h z TI TO .none->IsPair h TI (.ref i1) (.ref i2)->IsPair h TO x y->h.IsListIter i1 a i->h.IsListIter i2 b i->h.IsList a xs->h.IsList b ys->ZipApart z TI TO i1 i2 a b:=by
  intro h x y xs ys i hz hI hO l1 l2 ha hb;obtain⟨o1,e1,c1,_⟩:=l1;obtain⟨o2,e2,c2,_⟩:=l2;obtain⟨oa,ea,ca,_⟩:=ha;obtain⟨ob,eb,cb,_⟩:=hb;exact⟨cW hI hz (by simp),cW hO hz (by simp),cW e1 hz (by rw[c1];simp),cW e2 hz (by rw[c2];simp),VN,cW hI e1 (by rw[c1];simp),cW hI e2 (by rw[c2];simp),cW hO e1 (by rw[c1];simp),cW hO e2 (by rw[c2];simp),VW,
   cW ea hz (by rw[ca];simp),cW ea hO (by rw[ca];simp),cW ea e1 (by rw[ca,c1];simp),cW ea e2 (by rw[ca,c2];simp),cW eb hz (by rw[cb];simp),cW eb hO (by rw[cb];simp),cW eb e1 (by rw[cb,c1];simp),cW eb e2 (by rw[cb,c2];simp)⟩
 refine⟨by simp,λi h st c hc=>?_,λi h h' st k=>?_,?_,?_,λA i s Q E st hQ=>wpAny_pyIter_zip st.1 hQ⟩
 ·obtain⟨hz,hI,⟨x,y,hO⟩,⟨o1,e1,_,d1⟩,⟨o2,e2,_,d2⟩⟩:=st;simp only[List.mem_cons,List.not_mem_nil,or_false]at hc;rcases hc with rfl|rfl|rfl|rfl|rfl
  ·exact⟨_,hz,λv q=>by cases q⟩
  ·exact⟨_,hI,λv q=>by cases q⟩
  ·exact⟨_,hO,λv q=>by cases q⟩
  ·exact⟨o1,e1,λv q=>by rw[d1]at q;cases q⟩
  ·exact⟨o2,e2,λv q=>by rw[d2]at q;cases q⟩
 ·obtain⟨hz,hI,⟨x,y,hO⟩,l1,l2⟩:=st;exact⟨k z (by simp) _ hz,k TI (by simp) _ hI,⟨x,y,k TO (by simp) _ hO⟩,l1.at λo e=>k i1 (by simp) o e,l2.at λo e=>k i2 (by simp) o e⟩
 ·intro X hP hw hK hc i pins s σ H E I hf st hg;subst hP hw hK;obtain⟨xs,ys,x,y,q1,q2,ex,ey⟩:=hg;obtain⟨hz,hI,⟨x0,y0,hO⟩,l1,l2⟩:=st;obtain⟨aN,rv,p,_⟩:=I.list q1;obtain⟨its',w5,p',_⟩:=I.list q2;obtain⟨u,hu,ru⟩:=rv.get ex;obtain⟨u',U9,Uk⟩:=w5.get ey;have D:=apart hz hI hO l1 l2 p.isList p'.isList;refine wpAny_pyNext_zip_item D hz hI hO l1 l2 p.isList p'.isList (x:=u) (y:=u') (by simpa using hu) (by simpa using U9) λh1 z1 o1 a1 b1 t1 WL k1=>⟨_,rfl,?_⟩
  refine wpAny_letOwnedTupleGo_zip z1 λh2 z2 HR=>?_;have TC:s.heap.objs.size≠z:=X5 (Xg hz);have kk:∀c o,c∉[z,TI,TO,i1,i2]->s.heap.get? c=some o->h2.get? c=some o:=λc o hc e=>by
   simp only[List.mem_cons,List.not_mem_nil,or_false,not_or]at hc;exact HR.extBut c o hc.1 (k1 c o hc.1 hc.2.2.1 hc.2.2.2.1 hc.2.2.2.2 e)
  have hT:h2.get? s.heap.objs.size=some { cls:=.type "tuple",data:=.seq #[u,u'] }:=HR.extBut _ _ TC t1;have hn:H s.heap.objs.size=none:=I.cn.fresh (Xj _);refine⟨.ref s.heap.objs.size,upd H s.heap.objs.size (.tup [x,y]),Ay (s:=s) (h':=h2) (t':=s.toks) I hf kk (Xj _) (Az ru Uk hT),rfl,⟨_,x,y,λzs hz=>by rw[I.jJ hz q1];exact ex,λzs hz=>by rw[I.jJ hz q2];exact ey,hn,rfl,rfl⟩,⟨z2,HR.extBut _ _ D.TIz (k1 _ _ D.TIz D.TITO D.TIi1 D.TIi2 hI),⟨_,_,HR.extBut _ _ D.TOz o1⟩,a1.extBut HR.extBut D.i1z,b1.extBut HR.extBut D.i2z⟩,λc hc=>?_⟩;rw[aY]
  ·exact(hf c hc).1
  ·intro z;subst z;simp only[List.mem_cons,List.not_mem_nil,or_false]at hc;rcases hc with e|e|e|e|e
   ·exact absurd (Xg hz) (by rw[<- e];exact Xx _)
   ·exact absurd (Xg hI) (by rw[<- e];exact Xx _)
   ·exact absurd (Xg hO) (by rw[<- e];exact Xx _)
   ·obtain⟨_,w,_⟩:=l1;exact absurd (Xg w) (by rw[<- e];exact Xx _)
   ·obtain⟨_,w,_⟩:=l2;exact absurd (Xg w) (by rw[<- e];exact Xx _)
 ·intro X hP hw hK hc i pins s σ H E I hf st hg;subst hP hw hK;obtain⟨xs,ys,q1,q2,hl⟩:=hg;obtain⟨hz,hI,⟨x0,y0,hO⟩,l1,l2⟩:=st;obtain⟨aN,rv,p,_⟩:=I.list q1;obtain⟨its',w5,p',_⟩:=I.list q2;have e1:=rv.length;have e2:=w5.length;refine wpAny_pyNext_zip_end (I.ok.hd hc) (apart hz hI hO l1 l2 p.isList p'.isList) hz hI hO l1 l2 p.isList p'.isList (by simp;left) λh1 k1=>⟨rfl,Ax (t':=s.toks) I hf λc o hc e=>?_⟩
  simp only[List.mem_cons,List.not_mem_nil,or_false,not_or]at hc;exact k1 c o hc.1 hc.2.2.1 hc.2.2.2.1 hc.2.2.2.2 e
theorem E6{e1 e2:Expr}{ta:TA}{tp p:Pos}(hg:Gl X "zip")(hm:X.mg "zip" = none)(ha:PA X [e1,e2] ta)(hs:∀es,starEach (e1::es) X.env=(false,eval e1 X.env)::starEach es X.env)(MQ:∀es,starEach (e2::es) X.env=(false,eval e2 X.env)::starEach es X.env):
  PI X (.Tuple elts n1 tp) (.Call (.Name "zip" p) [e1,e2] [] pos) (λσ H R=>ta σ H λvs H1=>∃a b,vs=[.ref a,.ref b]/\(∃xs,dF X.K H1 a xs)/\(∃ys,dF X.K H1 b ys)/\R (Rz X.K a b) H1):=by
 intro pins s σ H R I h;refine Call_ (hJ I hg hm boot_zip (XB (cS (ha pos pins s σ H _ I h) λus s1 bK=>?_) (hs _) (by rw[MQ];rfl)));obtain⟨vs,H1,I1,r1,q1⟩:=bK;obtain⟨a,b,e,⟨xs,q1⟩,⟨ys,q2⟩,q⟩:=q1;subst e;obtain⟨u,v,rfl,ru,rv⟩:=vals2 r1;cases ru;cases rv;obtain⟨aN,_,p1,_⟩:=I1.list q1;obtain⟨its',_,p2,_⟩:=I1.list q2;refine call_zip_2 p1.isList p2.isList λh' z t o l1 l2 sz k=>wpAny_pyIter_zip z ?_;refine⟨s1.heap.objs.size+4,[s1.heap.objs.size+4,s1.heap.objs.size+2,s1.heap.objs.size+3,s1.heap.objs.size,s1.heap.objs.size+1],_,_,H1,rfl,I1.kept (t':=s1.toks) k,xG (Xo (XJ _)) (Xo (XJ _)),⟨z,t,⟨_,_,o⟩,l1,l2⟩,λb hb=>?_,q⟩;have Ip:s1.heap.objs.size<=b:=by
  simp only[List.mem_cons,List.not_mem_nil,or_false]at hb;rcases hb with rfl|rfl|rfl|rfl|rfl<;>first|exact Nat.le_add_right .. |exact Xj _
 exact I1.B5 Ip (I1.cn.fresh Ip)
def t8(sc:Scope)(bl:av)(e:Expr):Option (au):=(eK e).bind λz=>(two z.2).bind λ_=>if z.1=("zip" : Str)/\fj sc z.1=true/\z.1∈bl then some z.2 else none
theorem wN{sc:Scope}{bl:av}{e:Expr}(h:t8 sc bl e=some args):∃p pos a b,e=.Call (.Name ("zip" : Str) p) [a,b] [] pos/\args=[a,b]/\fj sc ("zip" : Str)=true/\("zip" : Str)∈bl:=by
 obtain⟨⟨x,as⟩,hv,h⟩:=bT h;obtain⟨⟨a,b⟩,hw,h⟩:=bT h;obtain⟨hc,h⟩:=gT h;cases h;obtain⟨rfl,h1,h2⟩:=hc;obtain⟨p,pos,rfl⟩:=bS hv;obtain rfl:=iV hw;exact⟨p,pos,a,b,rfl,rfl,h1,h2⟩
theorem Ff{a b:Expr}(h:uk X F Φ cs [a,b]):(∃c d,cs=[c,d]/\PE X a (tD X F Φ c)/\PE X b (tD X F Φ d))/\PA X [a,b] (qk X F Φ cs)/\(∀es,starEach (a::es) X.env=(false,eval a X.env)::starEach es X.env)/\(∀es,starEach (b::es) X.env=(false,eval b X.env)::starEach es X.env):=by
 match cs,h with
 |[c,d],h =>
  obtain⟨h1,h2,_,h3,h4,_,_⟩:=h;exact⟨⟨c,d,rfl,h1,h3⟩,PA.imp (cA h1 (PA.imp (cA h3 (PA.imp eM λ_ _ _ h=>lC h) (h4 _)) λ_ _ _ h=>gS h) (h2 _)) λ_ _ _ h=>gS h,h2,h4⟩
 |[],h=>exact h.elim
 |[_],h=>exact h.2.2.2.elim
 |_::_::_::_,h=>exact h.2.2.2.2.2.2.elim
theorem Rep.RK{k:bo}{v:V}{d:D}(e:aI H H')(h:Rep (a_ K H) (nd K R (λ_=>False) (λ_=>none) H) k v d):Rep (a_ K H') (nd K R (λ_=>False) (λ_=>none) H') k' v d :=
 (Rep.ko h (k':=k')).imp (λ_ _ h=>a_.same e h) λ_ _ _ _ h=>nd.same e h
theorem Ak{p q:Addr}{g:Fl}{a b:aa}:LW K (Rz K p q) H2 [.ref p,.ref q] [.lst f a,.lst g b] (aw aA (List.zipWith (λx y=>.tup [x,y]) a b)):=by
 have len:(aw aA (List.zipWith (λx y=>D.tup [x,y]) a b)).length=min a.length b.length:=by rw[aE];simp
 have two:∀{H':Hp} {R':ag},aB (a_ K H') (nd K R' (λ_=>False) (λ_=>none) H') [] 0 [.ref p,.ref q] (aw aA [.lst f a,.lst g b]) ->
   ∃xs ys,dF K H' p xs/\dF K H' q ys/\aB (a_ K H') (nd K R' (λ_=>False) (λ_=>none) H') [0] 0 xs (aw aA a)/\aB (a_ K H') (nd K R' (λ_=>False) (λ_=>none) H') [1] 0 ys (aw aA b):=by
  intro H' R' h;rw[aw,af,aw,af,aw]at h;cases h with
  |cons h t=>cases t with
   |cons h' t=>cases h with
    |lst h r=>cases h' with
     |lst h' r'=>exact⟨_,_,h.sq,h'.sq,r,r'⟩
 refine⟨λi H' R' _ h hi=>?_,λi H' R' x iN _ h hi hy=>?_,λi H' R' _ h hi=>?_⟩
 ·obtain⟨xs,ys,h1,h2,r1,r2⟩:=two h;rw[len]at hi;have l1:=r1.length;have l2:=r2.length;rw[aE,List.length_map]at l1 l2;exact⟨xs,ys,xs[i]'(by left),ys[i]'(by left),h1,h2,Xq _,Xq _⟩
 ·obtain⟨xs,ys,h1,h2,r1,r2⟩:=two h;obtain⟨T,u,v,g1,g2,hn,rfl,rfl⟩:=hy;obtain⟨d1,e1,p1⟩:=r1.tL (g1 xs h1);obtain⟨d2,e2,p2⟩:=r2.tL (g2 ys h2);have es:aI H' (upd H' T (.tup [u,v])):=aI.upd hn;refine⟨es,.tup [d1,d2],?_,.tup (a_.of bh) (.cons (p1.RK es) (.cons (p2.RK es) .nil))⟩;rw[aE,List.getElem?_map]at e1 e2 ⊢;obtain⟨c1,q1,rfl⟩:=Option.map_eq_some_iff.mp e1;obtain⟨c2,q2,rfl⟩:=Option.map_eq_some_iff.mp e2;rw[List.getElem?_zipWith,q1,q2];simp[af,aw]
 ·obtain⟨xs,ys,h1,h2,r1,r2⟩:=two h;rw[len]at hi;have l1:=r1.length;have l2:=r2.length;rw[aE,List.length_map]at l1 l2;exact⟨xs,ys,h1,h2,by left⟩
theorem D6{n:Nat}(hΦ:Φ n=vJ){sc:Scope}{bl:av}{k:Nat}(L:PX X sc bl k){e:Expr}(he:t8 sc bl e=some args)(ht:i_ tg=true)(hs:uk X F Φ cs args)
  {pins:aj} {s:Shared} {xs:aa} {d:D} (I:Inv X pins σ H s) (Si:SI X F R τ ρ σ H) (eH:b8 Φ cs ρ=ok xs) (ed:Φ n xs=ok d) (ei:qH d=ok items) (Rr:It->Hp->Prop)
  (hR:∀J H2 vs,aI H H2->cm X.K (gP X F) R τ (dk cs) H H2 vs xs->LW X.K J H2 vs xs items->Rr J H2) :
  wpAny (model X.prog X.w) X.A (eval e X.env) (λv s1=>wpAny (model X.prog X.w) X.A (pyIter v) (z6 X pins σ tg Rr) X.xe s1) X.xe s:=by
 obtain⟨p,pos,a,b,rfl,rfl,h1,h2⟩:=wN he;cases tg<;>try (cases ht;done)
 obtain⟨_,pa,s1,s2⟩:=Ff hs;refine E6 (L.gl h1) (L.bl _ h2) pa s1 s2 pins s σ H Rr I ⟨R,τ,ρ,xs,Si,eH,λvs H1 e1 rv=>?_⟩;have Mo:=rv;obtain⟨τt,fr,rs⟩:=rv;rw[hΦ]at ed;unfold vJ at ed;split at ed
 ·cases ed;cases ei;obtain⟨v,w,rfl,rx,ry⟩:=rs.two;cases rx with
  |lst hx _=>cases ry with
   |lst hy _=>exact⟨_,_,rfl,⟨_,hx.sq⟩,⟨_,hy.sq⟩,hR _ H1 _ e1 Mo Ak⟩
 ·cases ed
theorem aB.zI{T:mU}{N:gc}{k:bo}:∀(j:Nat) {n:Nat} {vs:ae} {ds:aa},aB T N k n vs ds->aB T N k (n+j) (vs.drop j) (ds.drop j)
 |0,_,_,_,h=>h
 |j+1,_,_,_,.nil=>.nil
 |j+1,n,_,_,.cons h t=>by
  rw[show n+(j+1)=n+1+j by left];exact aB.zI j t
theorem aB.CO{T:mU}{N:gc}{k:bo}:∀(j:Nat) {n:Nat} {vs:ae} {ds:aa},aB T N k n vs ds->aB T N k n (vs.take j) (ds.take j)
 |0,_,_,_,_=>by rw[List.take_zero,List.take_zero];exact .nil
 |j+1,_,_,_,.nil=>.nil
 |j+1,n,_,_,.cons h t=>.cons h (aB.CO j t)
noncomputable def kB{α:Type}(b:Bool)(k:Nat)(xs:List α):List α:=if b then xs.drop k else xs.take k
def JI(K:ak)(b:Bool):V->Option Int->Option Int->Hp->VK->Prop:=λx lo hi H Q=>∃(a:Addr) (xs:ae) (k:Nat),x=.ref a/\dF K H a xs/\lo=(if b then some (k:Int)else none)/\hi=(if b then none else some (k:Int))/\k<=xs.length/\∀p,H p=none->Q (.ref p) (upd H p (.lst (kB b k xs)))
theorem uB(b:Bool):Np X (JI X.K b):=by
 intro pins s σ H x v vl vu lo hi sl Q I rx hs pl pu h;obtain⟨a,xs,k,rfl,hx,rfl,rfl,hk,q⟩:=h;cases rx;obtain⟨aN,r,Dm,hz⟩:=I.list hx;have hl:=dS Dm;have hlen:aN.length=xs.length:=r.length.symm;refine⟨"list",_,slot_list_getitem.lookup,hl.typeIs,wpAny_getItem_list_slice hl hs pl pu .none (by simp) ?_ (by rw[List.size_toArray,hlen];exact hz)⟩;have e:slicePick aN.toArray (if b then some (k:Int)else none) (if b then none else some (k:Int)) none=(kB b k aN).toArray:=by
  cases b with
  |true=>exact slicePick_from aN.toArray k (by simp;left)
  |false=>exact slicePick_upto aN.toArray k (by simp;left)
 have rc:Vals (kB b k xs) (kB b k aN):=by
  cases b with
  |true=>exact r.drop k
  |false=>exact r.take k
 have lc:(kB b k xs).length<=xs.length:=by
  cases b with
  |true=>show(xs.drop k).length<=_;rw[List.length_drop];left
  |false=>show(xs.take k).length<=_;rw[List.length_take];left
 rw[e];exact⟨.ref s.heap.objs.size,_,I.FK (t':=s.toks) rc (Xz lc hz),rfl,q _ I.fresh⟩
def cutD(b:Bool)(xs:aa):O D:=match two xs with
 |some z=>match z.1 with
  |.lst _ ds=>match z.2 with
   |.int k=>if 0<=k/\k<=ds.length then ok (.lst .ow (aw aG (kB b k.toNat ds)))else none
   |_=>none
  |_=>none
 |none=>none
theorem Cg{b:Bool}{x y d:D}(h:cutD b [x,y]=ok d):∃(f:Fl) (ds:aa) (k:Nat),x=.lst f ds/\y=.int k/\k<=ds.length/\d=.lst .ow (aw aG (kB b k ds)):=by
 cases x<;>first|exact nk h | (cases h;done) | (cases y<;>first|exact nk h | (cases h;done)|skip)
 obtain⟨⟨h1,h2⟩,h3⟩:=ql h;rename_i f ds k;exact⟨f,ds,k.toNat,rfl,by rw[Int.toNat_of_nonneg h1],by left,h3.symm⟩
noncomputable def IT(b:Bool)(e:Expr):Option Expr:=match e with
 |.Slice lo hi st _=>match st with
  |none=>match b with
   |true=>match hi with
    |none=>lo
    |some _=>none
   |false=>match lo with
    |none=>hi
    |some _=>none
  |some _=>none
 |_=>none
theorem Au{b:Bool}{e k:Expr}(h:IT b e=some k):∃p,e=.Slice (if b then some k else none) (if b then none else some k) none p:=by
 cases e<;>first|exact nk h | (cases h;done)|skip
 rename_i lo hi st p;cases st with
 |some _=>cases h
 |none=>cases b with
  |true=>cases hi with
   |some _=>cases h
   |none=>cases h;exact⟨p,rfl⟩
  |false=>cases lo with
   |some _=>cases h
   |none=>cases h;exact⟨p,rfl⟩
def kC(b:Bool)(_:Scope)(_:av)(e:Expr):Option (au):=(oA e).bind λz=>(IT b z.2).bind λk=>some [z.1,k]
theorem oh{b:Bool}{sc:Scope}{bl:av}{e:Expr}(h:kC b sc bl e=some args):∃a k p pos,e=.Subscript a (.Slice (if b then some k else none) (if b then none else some k) none p) pos/\args=[a,k]:=by
 obtain⟨⟨a,s⟩,hv,h⟩:=bT h;obtain⟨k,hw,h⟩:=bT h;cases h;obtain⟨pos,rfl⟩:=fc hv;obtain⟨p,rfl⟩:=Au hw;exact⟨a,k,p,pos,rfl,rfl⟩
theorem zK{b:Bool}{n:Nat}(hΦ:Φ n=cutD b){sc:Scope}{bl:av}{k:Nat}(L:PX X sc bl k){e:Expr}(he:kC b sc bl e=some args)(hs:uk X F Φ cs args):PE X e (tD X F Φ (.eG n cs))/\PT X e (iJ X F Φ (.eG n cs)):=by
 obtain⟨a,ke,p,pos,rfl,rfl⟩:=oh he;cases cs with
 |nil=>exact hs.elim
 |cons c cs=>cases cs with
  |nil=>exact hs.2.2.2.elim
  |cons c' cs=>cases cs with
   |cons _ _=>exact hs.2.2.2.2.2.2.elim
   |nil =>
    obtain⟨h1,_,_,h2,_,_,_⟩:=hs;have this:PE X (.Subscript a (.Slice (if b then some ke else none) (if b then none else some ke) none p) pos) (tD X F Φ (.eG n [c,c'])):=by
     have go:∀{tl th:TO},PO X (if b then some ke else none) tl->PO X (if b then none else some ke) th->(∀(H1:Hp) (R:ag) (τ:Addr->Option bo) (ρ:aU) (k:Nat) (σ:St) (Q:Option Int->Option Int->Hp->Prop),SI X F R τ ρ σ H1->aX Φ c' ρ=ok (.int k)->(∀H2,aI H1 H2->Q (if b then some (k:Int)else none) (if b then none else some (k:Int)) H2)->tl σ H1 λl H2=>th σ H2 λu H3=>Q l u H3)->PE X (.Subscript a (.Slice (if b then some ke else none) (if b then none else some ke) none p) pos) (tD X F Φ (.eG n [c,c'])):=by
      intro tl th pl pu hh;refine PE.imp (qS (uB b) h1 pl pu) λσ H Q hq=>?_;obtain⟨R,τ,ρ,d,Si,ev,hq⟩:=hq;obtain⟨xs,eH,ev⟩:=aH ev;obtain⟨x,ex,eH⟩:=aH eH;obtain⟨ys,pP,eH⟩:=aH eH;cases eH;obtain⟨y,ey,pP⟩:=aH pP;cases pP;rw[hΦ]at ev;obtain⟨f,ds,j,rfl,rfl,hj,rfl⟩:=Cg ev;refine tD.intro Si ex λv H1 e1 r1=>hh H1 R τ ρ j σ (λl u H3=>JI X.K b v l u H3 Q) (Si.go e1) ey λH2 e2=>?_;have r2:=(r1.go e2).mono (fv':=gb (.eG n [c,c'])) λi hi=>Xu _ hi;obtain⟨τt,fr,rp⟩:=r2;obtain⟨q,xs,rfl,hn,rs⟩:=rp.qv;have ee:=e1.trans e2;refine⟨q,xs,j,rfl,hn.sq,rfl,rfl,by rw[rs.length];exact hj,λl hl=>hq _ _ (ee.trans (aI.upd hl)) (b_.wb (ee.free hl) (ee.trans (aI.upd hl)) bh ?_)⟩;have rc:∃n',aB (a_ X.K H2) (nd X.K R (jm (gP X F) τ (gb (.eG n [c,c']))) τt H2) [] n' (kB b j xs) (kB b j ds):=by
       cases b with
       |true=>exact⟨_,rs.zI j⟩
       |false=>exact⟨_,rs.CO j⟩
      obtain⟨n',rc⟩:=rc;exact(rc.f9 Si fr).imp (λ_ _ h=>a_.same (aI.upd hl) h) λ_ _ _ _ h=>nd.same (aI.upd hl) h
     cases b with
     |true =>
      refine go (oZ h2) o4 λH1 R τ ρ k σ Q Si ek hk=>tD.intro Si ek λv H2 e2 r2=>?_;cases r2.isInt;exact⟨k,rfl,hk H2 e2⟩
     |false =>
      refine go o4 (oZ h2) λH1 R τ ρ k σ Q Si ek hk=>tD.intro Si ek λv H2 e2 r2=>?_;cases r2.isInt;exact⟨k,rfl,hk H2 e2⟩
    exact⟨this,dv this λ_=>by cases b<;>rfl⟩
section
variable {X:Cx}
end
section
variable {prog:aJ}{w:World}{A:aQ}{E:aF}{s:Shared}
def qe(h:Heap)(vs:aq)(JZ:cj):Prop:=vs.length=JZ.length/\∀(i:Nat) (ns:ai),JZ[i]?=some ns->∃t aN,vs[i]?=some (.ref t)/\IsTup h t aN.toArray/\IntsAre aN ns/\ns≠[]
theorem qe.mono{h:Heap}{vs:aq}{JZ:cj}(k:∀b o,h.get? b=some o->h'.get? b=some o)(t:qe h vs JZ):qe h' vs JZ :=
 ⟨t.1,λi ns e=>let ⟨a,aN,e1,⟨o,ho,r⟩,e3⟩:=t.2 i ns e;⟨a,aN,e1,⟨o,k _ _ ho,r⟩,e3⟩⟩
end
theorem lD{p a:Addr}{o:HO}(hp:H p=some (.lst xs))(h:a_ K H a ys):a_ K (upd H p o) a ys:=by
 rcases h with (h|⟨o',h⟩)|h
 ·exact .inl (.inl (by rw[aY (λz=>by subst z;rw[hp]at h;cases h)];exact h))
 ·exact .inl (.inr ⟨o',by rw[aY (λz=>by subst z;rw[hp]at h;cases h)];exact h⟩)
 ·exact .inr h
theorem Br{n i:Nat}{xs:aa}{r:Fo×aU}(ev:s_ Φ n i (mj cs xs ρ)=ok r)(ha:aS bG xs=false):∃d d',ρ[i]?=some (some d)/\Φ n (d::xs)=ok d'/\r=(.nx,ρ.set i (some d')):=by
 unfold mj at ev;rw[if_neg (by rw[ha];exact Bool.false_ne_true)]at ev;unfold s_ at ev;split at ev
 ·rename_i d hd;obtain⟨d',h1,h2⟩:=aH ev;cases h2;exact⟨d,d',hd,h1,rfl⟩
 ·cases ev
theorem FC{n i:Nat}{xs:aa}{r:Fo×aU}(ev:s_ Φ n i (mj cs xs ρ)=ok r)(ha:aS bG xs=true):∃d d',Φ n (d::aw aA xs)=ok d':=by
 unfold mj at ev;rw[if_pos ha]at ev;unfold s_ at ev;split at ev
 ·rename_i d hd;obtain⟨d',h1,h2⟩:=aH ev;exact⟨d,d',h1⟩
 ·cases ev
def Fm:D->Option (aa)
 |.lst f ds=>if eA f then some ds else none
 |_=>none
theorem yx{d:D}(h:Fm d=some ds):d=.lst .ow ds:=by
 cases d<;>first|exact nk h | (cases h;done)|skip
 rename_i f es;have h:(if eA f then some es else none)=some ds:=h;cases f<;>first | (cases h;rfl) | (cases h;done)
section
variable {α β:Type}
end
section
variable {zs:List (ai×Addr×Value)}{c:ai}
end
section
variable {X:Cx}{pins:aj}{σ:St}{H:Hp}{s:Shared}{p b:Addr}{cs:cj}{as:bt}{xs:ae}{ep:Nat}{c:ai}{A:aQ}{E:aF}
theorem items_int:∀{c:ai} {aN:aq},Vals (c.map V.int) aN->ItemsAre (intKind X.prog X.w) c aN
 |[],_,h=>by cases h;exact .nil
 |i::c,_,h=>by
  cases h with
  |cons h t =>
   obtain⟨t',rfl⟩:=h;exact .cons (by simp[intKind,Value.isInt]) (items_int t)
end
theorem oT{N:gc}{k:bo}{v:V}{d:D}(h:Rep T N k v d)(hf:aW anyF d=false):Rep T N' k' v d:=by
 have:=Rep.gen (T':=T) (N':=N') (g:=id) (P:=anyF) (C:=λ_ _=>True) (I:=λ_ _=>True) (λ_ _ h=>h) trivial (λ_ _ e=>e) (λ_ _ _ _ e _=>e) (λk k' p xs f _ hz _=>nomatch hz) h (k':=k') trivial hf;rw[cB]at this;exact this
theorem kf{T:mU}{N N':gc}:∀{k k':bo} {n n':Nat} {vs:ae} {ds:aa},aB T N k n vs ds->aS anyF ds=false->aB T N' k' n' vs ds
 |_,_,_,_,_,_,.nil,_=>.nil
 |_,_,_,_,_,_,.cons h t,hf=>.cons (oT h (w8 hf).1) (kf t (w8 hf).2)
theorem any_drop:∀(k:Nat) {ds:aa},aS anyF ds=false->aS anyF (ds.drop k)=false
 |0,_,h=>h
 |k+1,[],h=>h
 |k+1,_::_,h=>any_drop k (w8 h).2
theorem md(n m:Nat):HT.dH n m none=m:=by
 unfold HT.dH;rfl
theorem aB.rv{T:mU}{N:gc}{T':mU}{N':gc}{f:D->D}{k k':bo}{m:Nat}(hm:∀{q:bo} {v:V} {d:D},Rep T N q v d->∀q',Rep T' N' q' v (f d)):∀{n:Nat} {vs:ae} {ds:aa},aB T N k n vs ds->aB T' N' k' m vs.reverse (ds.map f).reverse
 |_,_,_,.nil=>.nil
 |_,_,_,.cons h t=>by
  rw[List.reverse_cons,List.map_cons,List.reverse_cons];exact(aB.rv hm t).uA (hm h _)
noncomputable def IP(e:Expr):Option Expr:=match e with
 |.Slice lo hi st _=>match lo with
  |none=>match hi with
   |none=>st
   |some _=>none
  |some _=>none
 |_=>none
theorem Aq{e k:Expr}(h:IP e=some k):∃p,e=.Slice none none (some k) p:=by
 cases e<;>first|exact nk h | (cases h;done)|skip
 rename_i lo hi st p;cases lo with
 |some _=>cases h
 |none=>cases hi with
  |some _=>cases h
  |none=>cases h;exact⟨p,rfl⟩
def zO(_:Scope)(_:av)(e:Expr):Option (au):=(oA e).bind λz=>(IP z.2).bind λk=>some [z.1,k]
end DI
end
section
namespace HT
open PySem PySem.Spec PyProof.Rows
variable {sl:Addr}{vs:Value}
section
variable {prog:aJ}{w:World}{A:aQ}{E:aF}{s:Shared}
theorem j8{n:Nat}{Q:Int×Int×Nat->Shared->Prop}(hs:s.heap.IsSliceOf sl .none .none vs)(ps:IsPart vs (some (-1)))
  (h:Q ((n:Int) - 1,-1,n) s):wpAny (model prog w) A (Builtin.Slice.sliceApplied (.ref sl) (pure (n:Int))) Q E s:=by
 obtain⟨os,y9,jO,BR⟩:=id hs;unfold Builtin.Slice.sliceApplied Builtin.Slice.sliceFields;refine Xf (Xf (Yb y9 BR (x:=.none) rfl (Xf (Yb y9 BR (x:=.none) rfl (Xf (Yb y9 BR (x:=vs) rfl (Xh ?_)))))));refine Xf (iX ps ?_);show wpAny _ _ (if ((-1:Int)==0)=true then _ else _) _ _ s;rw[if_neg (by decide)];refine Xf (slicePart_none (Xf (slicePart_none (Xf (Xh ?_)))));show wpAny _ _ (match Builtin.Slice.sliceAdjust none none (-1) (n:Int)with | (lo,hi)=>pure (lo,(-1:Int),Builtin.Slice.slicePlaces lo hi (-1))) _ _ s;have e:Builtin.Slice.sliceAdjust none none (-1) (n:Int)=((n:Int) - 1,-1):=by
  unfold Builtin.Slice.sliceAdjust;rfl
 rw[e];show wpAny _ _ (pure ((n:Int) - 1,(-1:Int),Builtin.Slice.slicePlaces ((n:Int) - 1) (-1) (-1))) _ _ s;have e2:Builtin.Slice.slicePlaces ((n:Int) - 1) (-1) (-1)=n:=by
  unfold Builtin.Slice.slicePlaces;have h1:¬ ((-1:Int)>0):=by decide
  simp only[h1,if_false];split
  ·rename_i hh;rw[show(- -1:Int)=1 by decide,Int.ediv_one];left
  ·left
 rw[e2];exact Xh h
theorem rG{α β:Type}{f g:α->Option β}:∀{l:List α},(∀m∈l,f m=g m)->l.filterMap f=l.filterMap g
 |[],_=>rfl
 |a::l,h=>by
  rw[List.filterMap_cons,List.filterMap_cons,h a List.mem_cons_self,rG λm hm=>h m (List.mem_cons_of_mem _ hm)]
theorem yk(xs:bx):((List.range xs.size).filterMap λ(m:Nat)=>xs[(((xs.size:Int) - 1)+(m:Int)*(-1)).toNat]?).toArray=xs.toList.reverse.toArray:=by
 have:=W.krv_pick xs;rw[<- this];unfold slicePick;rw[W.krv_bounds];show _=((sliceRange ((xs.size:Int) - 1) (-1) (-1)).filterMap (xs[·]?)).toArray;rw[W.krv_sliceRange,List.filterMap_map];congr 1;refine rG λm hm=>?_;have:=List.mem_range.mp hm;show xs[_]?=xs[xs.size - 1 - m]?;congr 1;left
theorem jP{t:Addr}{items:bx}{Q:aF}(ht:IsTup s.heap t items)(hs:s.heap.IsSliceOf sl .none .none vs)(ps:IsPart vs (some (-1)))
  (h:Q (.ref s.heap.objs.size) { s with heap:=s.heap.push { cls:=.type "tuple",data:=.seq items.toList.reverse.toArray } })
  (Ig:items.size<=sizeLine):wpAny (model prog w) A (getItem (.ref t) (.ref sl)) Q E s:=by
 have jM:sizeOk (.seq items.toList.reverse.toArray):=by
  show items.toList.reverse.toArray.size<=sizeLine;rw[List.size_toArray,List.length_reverse,Array.length_toList];exact Ig
 obtain⟨os,y9,jO,BR⟩:=id hs;have Qt:s.TypeIs (.ref sl) "slice":=⟨os,y9,jO⟩
 unfold getItem
 try with_reducible refine XX ?_
 first|refine Xf (Xh ?_)|skip
 refine Xf (wpAny_sequenceKey ht.typeIs (by decide) ?_);refine Xf (wpAny_callSpecial?_slot (name:=Str.ofString "__getitem__") ht.typeIs XD
  (wpAny_call_entry XD ht.typeIs entry_tuple_getitem ?_ (args_tuple_getitem _ _)))
 show wpAny _ _ (Builtin.Tuple.tupleItemsOf (.ref t) >>= _) _ _ s;refine Xf (tupleItemsOf_ ht ?_);refine Xf (wpAny_typeOf Qt ?_);rw[if_pos (by decide)];refine Xf (j8 hs ps ?_);have P0:¬ ((((items.size:Int) - 1)==0&&(-1:Int)==1&&items.size==items.size)=true):=by
  intro q;rw[Bool.and_eq_true,Bool.and_eq_true]at q;exact absurd q.1.2 (by decide)
 show wpAny _ _ (if (((items.size:Int) - 1)==0&&(-1:Int)==1&&items.size==items.size)=true then _ else _) _ _ s;rw[if_neg P0,yk]
 first
  |exact Xf (m:=Builtin.Tuple.tupleExact _) (Xv (Xh ⟨_,rfl,Xh h⟩) jM)
  |exact Xf (m:=Builtin.Tuple.tupleExact _) (Xv (Xf (Xh (Xh ⟨_,rfl,Xh h⟩))) jM)
  |exact Xf (Xf (m:=Builtin.Tuple.tupleExact _) (Xv (Xh (Xh ⟨_,rfl,Xh h⟩)) jM))
  |exact Xf (Xf (m:=Builtin.Tuple.tupleExact _) (Xv (Xh ⟨_,rfl,Xh h⟩) jM))
end
end HT
namespace DI
open PySem PySem.Spec PyProof.Rows L2
theorem aB.Mo{T:mU}{N:gc}{k k':bo}{m:Nat}:∀{n:Nat} {vs:ae} {ds:aa},aB T N k n vs ds->aS anyF ds=false->aB T N k' m vs.reverse ds.reverse
 |_,_,_,.nil,_=>.nil
 |_,_,_,.cons h t,hf=>by
  rw[List.reverse_cons,List.reverse_cons];exact(aB.Mo t (w8 hf).2).uA (oT h (w8 hf).1)
def NR(K:ak)(te ts:TE):TE:=λσ H Q=>te σ H λx H1=>ts σ H1 λy H2=>∃(a:Addr) (xs:ae),x=.ref a/\y=.int (-1)/\a_ K H2 a xs/\∀p,H2 p=none->Q (.ref p) (upd H2 p (.tup xs.reverse))
variable {X:Cx}{pos:Pos}
theorem A9{e st:Expr}{te ts:TE}{p2:Pos}(he:PE X e te)(hs:PE X st ts):PE X (.Subscript e (.Slice none none (some st) p2) pos) (NR X.K te ts):=by
 intro pins s σ H Q I h;refine Subscript_ (cS (he pins s σ H _ I h) λv s1 bK=>?_);obtain⟨x,H1,I1,r1,q1⟩:=bK;refine wpAny_Slice ?_;rw[evalPart_none];refine Xh (Xh ?_);rw[evalPart_some];refine cS (hs pins s1 σ H1 _ I1 q1) λu s3 bK=>?_;obtain⟨y,H3,I3,r3,a,xs,ea,ey,hx,q⟩:=bK;subst ea;subst ey;cases r1;have pu:IsPart u (some (-1)):=by obtain⟨t,rfl⟩:=r3;exact .int _ _
 have I4:Inv X pins σ H3 { s3 with heap:=s3.heap.push { cls:=.type "slice",data:=.fields #[.none,.none,u] } }:=I3.kept (t':=s3.toks) λb ob q=>Xi _ q;obtain⟨aN,r,ht,hz⟩:=I4.tuple hx;have hlen:aN.toArray.size=xs.length:=by rw[List.size_toArray];exact r.length.symm
 have hg:wpAny (model X.prog X.w) X.A (getItem (.ref a) (.ref s3.heap.objs.size)) (EP X pins σ Q) X.xe { s3 with heap:=s3.heap.push { cls:=.type "slice",data:=.fields #[.none,.none,u] } }:=by
  refine HT.jP ht (Heap.IsSliceOf.new ..) pu ?_ (by rw[hlen];exact hz);refine⟨.ref _,_,I4.laid (t':=s3.toks) (o:=.tup xs.reverse) (λb ob q=>Xi _ q) (Xj _) ?_,rfl,q _ (I4.cn.fresh (Xj _))⟩;exact⟨by rw[List.length_reverse];exact hz,_,r.reverse,IsTup.new _ _⟩
 show wpAny (model X.prog X.w) X.A (subscriptTail e (.Slice none none (some st) p2) (.ref a) (.ref s3.heap.objs.size)) (EP X pins σ Q) X.xe { s3 with heap:=s3.heap.push { cls:=.type "slice",data:=.fields #[.none,.none,u] } };exact tail_any (ops:=[.ref a,.ref s3.heap.objs.size]) ht.typeIs PyProof.Rows.slot_tuple_getitem.lookup hg (by with_unfolding_all rfl)
def qK(xs:aa):O D:=match two xs with
 |some z=>match z.1 with
  |.tup ds=>match z.2 with
   |.int k=>if k = -1/\aS anyF ds=false then ok (.tup ds.reverse)else none
   |_=>none
  |_=>none
 |none=>none
theorem x8{x y d:D}(h:qK [x,y]=ok d):∃(ds:aa),x=.tup ds/\y=.int (-1)/\aS anyF ds=false/\d=.tup ds.reverse:=by
 cases x<;>first|exact nk h | (cases h;done) | (cases y<;>first|exact nk h | (cases h;done)|skip)
 obtain⟨⟨h1,h2⟩,h3⟩:=ql h;subst h1;exact⟨_,rfl,rfl,h2,h3.symm⟩
variable {F:Addr->Prop}{args:au}{cs:aC}{Φ:aV}
theorem AU{n:Nat}(hΦ:Φ n=qK){sc:Scope}{bl:av}{k:Nat}(L:PX X sc bl k){e:Expr}(he:zO sc bl e=some args)(hs:uk X F Φ cs args):PE X e (tD X F Φ (.eG n cs))/\PT X e (iJ X F Φ (.eG n cs)):=by
 obtain⟨⟨a,s⟩,hv,h⟩:=bT he;obtain⟨ke,hw,h⟩:=bT h;cases h;obtain⟨pos,rfl⟩:=fc hv;obtain⟨p,rfl⟩:=Aq hw;cases cs with
 |nil=>exact hs.elim
 |cons c cs=>cases cs with
  |nil=>exact hs.2.2.2.elim
  |cons c' cs=>cases cs with
   |cons _ _=>exact hs.2.2.2.2.2.2.elim
   |nil =>
    obtain⟨h1,_,_,h2,_,_,_⟩:=hs;have this:PE X (.Subscript a (.Slice none none (some ke) p) pos) (tD X F Φ (.eG n [c,c'])):=by
     refine PE.imp (A9 h1 h2) λσ H Q hq=>?_;obtain⟨R,τ,ρ,d,Si,ev,hq⟩:=hq;obtain⟨xs,eH,ev⟩:=aH ev;obtain⟨x,ex,eH⟩:=aH eH;obtain⟨ys,pP,eH⟩:=aH eH;cases eH;obtain⟨y,ey,pP⟩:=aH pP;cases pP;rw[hΦ]at ev;obtain⟨ds,rfl,rfl,hf,rfl⟩:=x8 ev;refine tD.intro Si ex λv H1 e1 r1=>tD.intro (Si.go e1) ey λu H2 e2 r2=>?_;cases r2.isInt;obtain⟨τt,fr,rp⟩:=r1;cases rp with
     | @tup _ q xs _ hT rs =>
      have Qu:a_ X.K H2 q xs:=a_.same e2 hT;have ee:=e1.trans e2;refine⟨q,xs,rfl,rfl,Qu,λl hl=>hq _ _ (ee.trans (aI.upd hl)) ⟨λ_=>none,λ_ _ h=>by simp at h,.tup (a_.of bh) ?_⟩⟩;have r0:=kf (N':=nd X.K R (jm (gP X F) τ (gb (.eG n [c,c']))) (λ_=>none) H1) (k':=[]) (n':=0) rs hf;have r3:=aB.Mo (k':=[]) (m:=0) r0 hf;exact(r3.imp (λ_ _ h=>a_.same (e2.trans (aI.upd hl)) h) λ_ _ _ _ h=>nd.same (e2.trans (aI.upd hl)) h)
    exact⟨this,dv this λ_=>rfl⟩
def rQ(xs:aa):O D:=match two xs with
 |some z=>match z.1 with
  |.tup ds=>match z.2 with
   |.int k=>if k = -1/\2<=ds.length/\aS anyF ds=false then ok (.tup (ds.drop (ds.length - 1)))else none
   |_=>none
  |_=>none
 |none=>none
theorem zL{x y d:D}(h:rQ [x,y]=ok d):∃(ds:aa),x=.tup ds/\y=.int (-1)/\2<=ds.length/\aS anyF ds=false/\d=.tup (ds.drop (ds.length - 1)):=by
 cases x<;>first|exact nk h | (cases h;done) | (cases y<;>first|exact nk h | (cases h;done)|skip)
 obtain⟨⟨h1,h2,h3⟩,h4⟩:=ql h;subst h1;exact⟨_,rfl,rfl,h2,h3,h4.symm⟩
theorem uC{n:Nat}(h:1<=n):HT.dH n 0 (some (-1))=n - 1:=by
 unfold HT.dH;simp;left
theorem Cf{n:Nat}(hΦ:Φ n=rQ){sc:Scope}{bl:av}{k:Nat}(L:PX X sc bl k){e:Expr}(he:kC true sc bl e=some args)(hs:uk X F Φ cs args):PE X e (tD X F Φ (.eG n cs))/\PT X e (iJ X F Φ (.eG n cs)):=by
 obtain⟨a,ke,p,pos,rfl,rfl⟩:=oh he;cases cs with
 |nil=>exact hs.elim
 |cons c cs=>cases cs with
  |nil=>exact hs.2.2.2.elim
  |cons c' cs=>cases cs with
   |cons _ _=>exact hs.2.2.2.2.2.2.elim
   |nil =>
    obtain⟨h1,_,_,h2,_,_,_⟩:=hs;have this:PE X (.Subscript a (.Slice (some ke) none none p) pos) (tD X F Φ (.eG n [c,c'])):=by
     refine PE.imp (qS (EB) h1 (oZ h2) o4) λσ H Q hq=>?_;obtain⟨R,τ,ρ,d,Si,ev,hq⟩:=hq;obtain⟨xs,eH,ev⟩:=aH ev;obtain⟨x,ex,eH⟩:=aH eH;obtain⟨ys,pP,eH⟩:=aH eH;cases eH;obtain⟨y,ey,pP⟩:=aH pP;cases pP;rw[hΦ]at ev;obtain⟨ds,rfl,rfl,j2,hf,rfl⟩:=zL ev;refine tD.intro Si ex λv H1 e1 r1=>tD.intro (Si.go e1) ey λw H2 e2 r2=>?_;cases r2.isInt;refine⟨-1,rfl,?_⟩;obtain⟨τt,fr,rp⟩:=r1;cases rp with
     | @tup _ q xs _ hT rs =>
      have Qu:a_ X.K H2 q xs:=a_.same e2 hT;have hlen:=rs.length;have ee:=e1.trans e2;refine⟨q,xs,rfl,Qu,by rw[uC (by left),md];left,λl hl=>?_⟩;have Qn:rP xs (some (-1)) none=xs.drop (xs.length - 1):=by
       unfold rP;rw[uC (by left),md,<- List.length_drop,List.take_length]
      rw[Qn,hlen];refine hq _ _ (ee.trans (aI.upd hl)) ⟨λ_=>none,λ_ _ h=>by simp at h,.tup (a_.of bh) ?_⟩;have r3:=kf (N':=nd X.K R (jm (gP X F) τ (gb (.eG n [c,c']))) (λ_=>none) H1) (k':=[]) (n':=0) (rs.zI (ds.length - 1)) (any_drop (ds.length - 1) hf);exact(r3.imp (λ_ _ h=>a_.same (e2.trans (aI.upd hl)) h) λ_ _ _ _ h=>nd.same (e2.trans (aI.upd hl)) h)
    exact⟨this,dv this λ_=>rfl⟩
noncomputable def wZ(J:Nat)(d:D):Nat->aa->aa
 |_,[]=>[]
 |n,x::xs=>(if n=J then d else x)::wZ J d (n+1) xs
theorem aB.wZ{T T':mU}{N N':gc}{q:bo}{J:Nat}{d:D}(hT:∀p xs,T p xs->T' p xs)(hN:∀c m p xs f,m≠J->N (c++(m::q)) p xs f->N' (c++(m::q)) p xs f):∀{n:Nat} {vs:ae} {ds:aa},aB T N q n vs ds->(∀k v,vs[k]?=some v->n+k=J->Rep T' N' (J::q) v d)->aB T' N' q n vs (DI.wZ J d n ds)
 |_,_,_,.nil,_=>.nil
 |n,_,_,.cons (d:=x) h t,hj=>by
  refine .cons ?_ (aB.wZ hT hN t λk v e z=>hj (k+1) v e (by left));by_cases hn:n=J
  ·rw[if_pos hn];subst hn;exact hj 0 _ rfl rfl
  ·rw[if_neg hn];exact h.imp (q:=n::q) (q':=n::q) hT λc p xs f h=>hN c n p xs f hn h
variable {xs:ae}
section
variable {X:Cx}{F R:ag}{τ:Addr->Option bo}{ρ:aU}{σ:St}{H:Hp}
theorem SI.MJ{p a:Addr}{q q0:bo}{n:Nd}{f:Fl}{o:HO}(Si:SI X F R τ ρ σ H)(hp:H p=some (.lst xs))(ht:τ p=some q0)(hq:q≠q0)(h:nd X.K R (λ_=>False) τ H q a n f):nd X.K R (λ_=>False) τ (upd H p o) q a n f:=by
 have low:∀{a:Addr} {z:Nd},a≠p->d6 H a z->d6 (upd H p o) a z:=λne h=>h.at λu e=>by rw[aY ne];exact e
 cases f with
 |ow=>exact⟨low (λz=>by subst z;exact hq (Xp (h.2.symm.trans ht))) h.1,h.2⟩
 |fz=>exact⟨low (λz=>by subst z;rw[Si.rt _ h.2]at ht;cases ht) h.1,h.2⟩
 |al=>exact h.2.elim
 |sc =>
  obtain⟨ys,rfl,h⟩:=h.x4;exact h.elim (λ⟨o',w⟩=>.inl ⟨o',by rw[aY (λz=>by subst z;rw[hp]at w;cases w)];exact w⟩) .inr
theorem SI.Wg{i j:Nat}{d0 d1:D}{p:Addr}{ys:ae}(Si:SI X F R τ ρ σ H)(hi:ρ[i]?=some (some d0))(hp:H p=some (.lst xs))(ht:τ p=some [j,i])
  {v:V} (hv:σ[i]?=some (some v)) (hb:Rep (a_ X.K (upd H p (.lst ys))) (nd X.K R (λ_=>False) τ (upd H p (.lst ys))) [i] v d1):SI X F R τ (ρ.set i (some d1)) σ (upd H p (.lst ys)):=by
 have Qb:i<ρ.length:=by
  by_cases z:i<ρ.length
  ·exact z
  ·rw[List.getElem?_eq_none (by left)]at hi;cases hi
 have there:∀a,H a≠none->upd H p (.lst ys) a≠none:=λa h=>by
  by_cases z:a=p
  ·rw[z,bh];simp
  ·rw[aY z];exact h
 refine⟨by simp[Si.len],λm d hm=>?_,Si.rt,λa ha=>there a (Si.rh a ha),Si.rf,λa q e=>there a (Si.th a q e),Si.t0,λa u e=>?_⟩
 ·by_cases z:m=i
  ·subst z;rw[List.getElem?_set_self Qb]at hm;cases hm;exact⟨v,hv,hb⟩
  ·rw[List.getElem?_set_ne (Ne.symm z)]at hm;obtain⟨v,h1,h2⟩:=Si.rep m d hm;refine⟨v,h1,h2.imp (q:=[m]) (q':=[m]) (λ_ _ h=>lD hp h) λc a n f h=>Si.MJ hp ht (λe=>?_) h⟩;have:=XI List.getLast? e;simp at this;exact z this
 ·rw[aY (λz=>by subst z;rw[Si.t0 _ _ ht]at e;cases e)];exact Si.same a u e
end
mutual
theorem any_map(g:Fl->Fl):∀d:D,aW anyF (af g d)=aW anyF d
 |.bB=>rfl
 |.bl _=>rfl
 |.int _=>rfl
 |.str _=>rfl
 |.tup ds=>r9 g ds
 |.lst _ ds=>rfl
 |.gr _ _ ds=>rfl
theorem r9(g:Fl->Fl):∀ds:aa,aS anyF (aw g ds)=aS anyF ds
 |[]=>rfl
 |d::ds=>by show(aW _ _||aS _ _)=(aW _ d||aS _ ds);rw[any_map g d,r9 g ds]
end
mutual
theorem qd:∀d:D,aW anyF d=false->aW bG d=false
 |.bB,_=>rfl
 |.bl _,_=>rfl
 |.int _,_=>rfl
 |.str _,_=>rfl
 |.tup ds,h=>vB ds h
 |.lst _ ds,h=>nomatch h
 |.gr _ _ ds,h=>nomatch h
theorem vB:∀ds:aa,aS anyF ds=false->aS bG ds=false
 |[],_=>rfl
 |d::ds,h=>by
  have h:=w8 h;show(aW _ d||aS _ ds)=false;rw[qd d h.1,vB ds h.2];rfl
end
def Ml(ds:aa)(e:D):D->D->O D
 |.int k,.int j=>if 0<=k then(match(ds[k.toNat]?).bind Fm with
  |some gs=>if 0<=j/\j<gs.length/\aW anyF e=false then ok (.lst .ow (wZ k.toNat (.lst .ow (gs.set j.toNat e)) 0 ds))else none
  |none=>none)else none
 |_,_=>none
variable {z:D}
theorem Ez{ds:aa}{e y d:D}(h:Ml ds e y z=ok d):∃(k j:Int) (gs:aa),y=.int k/\z=.int j/\0<=k/\ds[k.toNat]?=some (.lst .ow gs)/\0<=j/\j<gs.length/\aW anyF e=false/\d=.lst .ow (wZ k.toNat (.lst .ow (gs.set j.toNat e)) 0 ds):=by
 cases y<;>first|exact nk h | (cases h;done)|skip
 rename_i k;cases z<;>first|exact nk h | (cases h;done)|skip
 rename_i j;replace h:(if 0<=k then(match(ds[k.toNat]?).bind Fm with
  |some gs=>if 0<=j/\j<gs.length/\aW anyF e=false then ok (D.lst .ow (wZ k.toNat (.lst .ow (gs.set j.toNat e)) 0 ds))else none
  |none=>none)else none)=ok d:=h
 by_cases hk:0<=k
 ·rw[if_pos hk]at h;cases h1:(ds[k.toNat]?).bind Fm with
  |none=>rw[h1]at h;exact nk h
  |some gs =>
   rw[h1]at h;obtain⟨c,rfl⟩:=ql h;obtain⟨d0,h2,h3⟩:=Option.bind_eq_some_iff.mp h1;exact⟨k,j,gs,rfl,rfl,hk,by rw[h2,yx h3],c.1,c.2.1,c.2.2,rfl⟩
 ·rw[if_neg hk]at h;exact nk h
def Jw(xs:aa):O D:=match xs with
 |[x,e,y,z]=>(match Fm x with
  |some ds=>Ml ds e y z
  |none=>none)
 |_=>none
theorem xT{x e y d:D}(h:Jw [x,e,y,z]=ok d):∃(ds:aa) (k j:Int) (gs:aa),x=.lst .ow ds/\y=.int k/\z=.int j/\0<=k/\ds[k.toNat]?=some (.lst .ow gs)/\0<=j/\j<gs.length/\aW anyF e=false/\d=.lst .ow (wZ k.toNat (.lst .ow (gs.set j.toNat e)) 0 ds):=by
 replace h:(match Fm x with|some ds=>Ml ds e y z|none=>none)=ok d:=h;cases h1:Fm x with
 |none=>rw[h1]at h;exact nk h
 |some ds =>
  rw[h1]at h;obtain⟨k,j,gs,a⟩:=Ez (show Ml ds e y z=ok d from h);exact⟨ds,k,j,gs,yx h1,a⟩
def zN(_:Scope)(_:av)(st:Stmt):Option (Expr×au):=(xD st).bind λz=>(one z.1).bind λt=>(oA t).bind λu=>(oA u.1).bind λy=>(oA z.2).bind λ_=>(oA u.2).bind λ_=>some (y.1,[z.2,y.2,u.2])
variable {st:Stmt}
theorem zM{sc:Scope}{bl:av}{o:Expr}(h:zN sc bl st=some (o,args)):∃e1 e2 q k j1 j2 q' p0 p1 pos,args=[.Subscript e1 e2 q,k,.Subscript j1 j2 q']/\st=.Assign [.Subscript (.Subscript o k p0) (.Subscript j1 j2 q') p1] (.Subscript e1 e2 q) pos:=by
 obtain⟨⟨ts,e⟩,h1,h⟩:=Option.bind_eq_some_iff.mp h;obtain⟨t,h2,h⟩:=Option.bind_eq_some_iff.mp h;obtain⟨⟨u,j⟩,h3,h⟩:=Option.bind_eq_some_iff.mp h;obtain⟨⟨o',k⟩,h4,h⟩:=Option.bind_eq_some_iff.mp h;obtain⟨⟨e1,e2⟩,h5,h⟩:=Option.bind_eq_some_iff.mp h;obtain⟨⟨j1,j2⟩,h6,h⟩:=Option.bind_eq_some_iff.mp h;cases h;obtain⟨pos,rfl⟩:=jz h1;obtain rfl:ts=[t]:=cF h2;obtain⟨p1,rfl⟩:=fc h3;obtain⟨p0,rfl⟩:=fc h4;obtain⟨q,rfl⟩:=fc h5;obtain⟨q',rfl⟩:=fc h6;exact⟨e1,e2,q,k,j1,j2,q',p0,p1,pos,rfl,rfl⟩
theorem v7{a b c:Expr}(h:uk X F Φ cs [a,b,c]):∃x y z,cs=[x,y,z]/\PE X a (tD X F Φ x)/\PE X b (tD X F Φ y)/\j4 b/\PE X c (tD X F Φ z):=by
 match cs,h with
 |[x,y,z],h=>exact⟨x,y,z,rfl,h.1,h.2.2.2.1,h.2.2.2.2.2.1,h.2.2.2.2.2.2.1⟩
 |[],h=>exact h.elim
 |[_],h=>exact h.2.2.2.elim
 |[_,_],h=>exact h.2.2.2.2.2.2.elim
 |_::_::_::_::_,h=>exact h.2.2.2.2.2.2.2.2.2.elim
theorem Jv{n:Nat}(hΦ:Φ n=Jw){sc:Scope}{bl:av}{k:Nat}(L:PX X sc bl k)(hN:X.N.Nodup)(uY:∀x,X.fn x=true){x:Str}(he:zN sc bl st=some (.Name x pos,args))
  {i:Nat} (hi:X.N[i]?=some x) (hl:L2.Loc X.env.scope x) (pe:PE X (.Name x pos) (lZ i)) (hs:uk X F Φ cs args):PS X st (oE X F Φ (.mut n i cs)):=by
 obtain⟨e1,e2,q,ke,j1,j2,q',p0,p1,pos',rfl,rfl⟩:=zM he;obtain⟨c1,c2,c3,rfl,h1,h2,Vf,h3⟩:=v7 hs;refine PS.imp (sO h1 (yo (Dn uR pe h2 Vf) h3 set_list (by intro _;rfl)) rfl rfl rfl) λD σ H hq=>?_;obtain⟨R,τ,ρ,r,Si,ev,hq⟩:=hq;obtain⟨xs,eH,ev⟩:=aH ev;obtain⟨d,ed,eH⟩:=aH eH;obtain⟨ys,pP,eH⟩:=aH eH;cases eH;obtain⟨y,ey,pP⟩:=aH pP;obtain⟨WI,QO,pP⟩:=aH pP;cases pP;obtain⟨z,ez,QO⟩:=aH QO;cases QO;have key:∃(k j:Int) (ds gs:List DI.D),y=.int k/\z=.int j/\ρ[i]?=some (some (.lst .ow ds))/\0<=k/\ds[k.toNat]?=some (.lst .ow gs)/\0<=j/\j<gs.length/\aW anyF d=false/\r=(.nx,ρ.set i (some (.lst .ow (wZ k.toNat (.lst .ow (gs.set j.toNat d)) 0 ds)))):=by
  cases hz:aS bG [d,y,z]with
  |true =>
   obtain⟨x0,d',h⟩:=FC ev hz;rw[hΦ]at h;obtain⟨ds,k,j,gs,_,h3,QC,_,_,_,_,h4,_⟩:=xT (x:=x0) (e:=af aA d) (y:=af aA y) (z:=af aA z) h;have a1:aW bG d=false:=qd d (by rw[<- any_map aA d];exact h4);have a2:aW bG y=false:=qd y (by rw[<- any_map aA y,h3];rfl);have a3:aW bG z=false:=qd z (by rw[<- any_map aA z,QC];rfl);have:aS bG [d,y,z]=false:=by show(aW bG d||(aW bG y||(aW bG z||false)))=false;rw[a1,a2,a3];rfl
   rw[this]at hz;cases hz
  |false =>
   obtain⟨x0,d',h,h',rfl⟩:=Br ev hz;rw[hΦ]at h';obtain⟨ds,k,j,gs,rfl,h3,QC,h4,h5,h6,h7,h8,rfl⟩:=xT h';exact⟨k,j,ds,gs,h3,QC,h,h4,h5,h6,h7,h8,rfl⟩
 obtain⟨k,j,ds,gs,rfl,rfl,ho,hk,hg,Vs,Qa,Vx,rfl⟩:=key;obtain⟨v,hv,_⟩:=Si.rep i _ ho;refine tD.intro Si ed λu2 H2 e2 Uj=>?_;obtain⟨τ2,f2,q2⟩:=Uj;have sd:=Si.go e2;refine⟨v,hv,tD.intro sd ey λu H3 e3 ru=>?_⟩;cases ru.isInt;have CA:=sd.go e3;obtain⟨a,xs,SE,ha,SA,PJ,rs⟩:=CA.own ho;rw[hv]at SE;cases SE;obtain⟨w,hw,k7⟩:=rs.get hg;rw[Nat.zero_add]at k7;obtain⟨p,zs,rfl,hp,rz⟩:=k7.qv;have m4:k.toNat<xs.length:=by
  by_cases z:k.toNat<xs.length
  ·exact z
  ·rw[List.getElem?_eq_none (by left)]at hw;cases hw
 have h4:DW xs k=some (.ref p):=by
  unfold DW L2.pB;rw[if_pos hk,if_pos (by left)];exact hw
 refine⟨a,xs,k,_,rfl,rfl,dF.of ha,h4,tD.intro CA ez λu4 H4 e4 Ui=>?_⟩;cases Ui.isInt;have L6:=CA.go e4;have BO:H4 p=some (.lst zs):=e4 _ _ hp.1;have Ul:aB (a_ X.K H4) (nd X.K R (λ_=>False) τ H4) [i] 0 xs ds:=rs.imp (λ_ _ h=>a_.same e4 h) λ_ _ _ _ h=>nd.same e4 h;have Ug:aB (a_ X.K H4) (nd X.K R (λ_=>False) τ H4) [k.toNat,i] 0 zs gs:=rz.imp (λ_ _ h=>a_.same e4 h) λ_ _ _ _ h=>nd.same e4 h;have WV:zs.length=gs.length:=rz.length;refine⟨p,zs,j,j.toNat,rfl,rfl,BO,by unfold L2.pB;rw[if_pos Vs,if_pos (by left)],?_⟩;have Q8:aI H2 H4:=e3.trans e4;refine hq σ _ R τ (L6.Wg ho BO hp.2 hv (.lst (L6.MJ (n:=.l xs) (f:=.ow) BO hp.2 (λz=>?_) ⟨e4 _ _ ha,PJ⟩) (aB.wZ (λ_ _ h=>lD BO h) (λc m a n f hm h=>L6.MJ BO hp.2 (λz=>?_) h) Ul λm w SD hm=>?_))) (tu (n:=.l _) L6 (e2.trans Q8) (λ_ h=>h) BO hp.2)
 ·have:=XI List.length z;simp at this
 ·have:=XI List.reverse z;simp at this;exact hm this.1
 ·rw[Nat.zero_add]at hm;subst hm;rw[hw]at SD;cases SD;refine .lst ⟨bh,hp.2⟩ (aB.setAt (j:=j.toNat) (aB.child (λ_ _ h=>lD BO h) (λc n a ys f h=>L6.MJ BO hp.2 (λz=>?_) h) Ug) (by
   have q4:=q2.imp (λ_ _ h=>a_.same Q8 h) λ_ _ _ _ h=>nd.same Q8 h;exact(oT (N':=nd X.K R (λ_=>False) τ (upd H4 p (.lst (zs.set j.toNat u2)))) q4 Vx).imp (λ_ _ h=>lD BO h) λ_ _ _ _ h=>h))
  have:=XI List.length z;simp at this
end DI
end
section
namespace DI
open PySem PySem.Spec PyProof.Rows PySem.W
structure XC(K:Frag)(C:Addr):Prop where
 ga:findIn K (.ref C) "__getattribute__" = some (some (.builtin "BaseException.__getattribute__"))
 gt:findIn K (.ref C) "__getattr__" = some none
 cl:findIn K (.ref C) "__class__" = some (some (.builtin "object.__class__"))
 be:mroIn K C (.type "BaseException")=some true
 ob:mroIn K C (.type "object")=some true
 cs:(clsIn K C).isSome=true
section
variable {prog:aJ}{w:World}{A:aQ}{E:aF}{h:Heap}{g:Array GenState}{d:Drawn}{t:Nat}{os:OsState}{K:Frag}{x C:Addr}{o:Obj}
theorem ND{R:Result->Shared->Prop}(Z:XC K C)(X:K.In h)(hx:h.get? x=some o)(hc:o.cls=.ref C)(hq:R (.ok (.ret (.ref C))) ⟨h,g,d,t,os⟩):
  codeAny (model prog w) A (.call (.builtin "getset_descriptor.__get__") ⟨[.builtin "object.__class__",.ref x,.ref C],[]⟩) R ⟨h,g,d,t,os⟩:=by
 have L1:=looks_mroIn (M:=model prog w) X Z.ob;refine Yp KF.slot_gs.plain KF.entry_gs (KF.slot_gs.check _ _ _ _ _ _ _ _ KF.type_class (KF.args_gs _ _ _) ?_);have VO:(⟨h,g,d,t,os⟩:Shared).TypeIs (.builtin "object.__class__") "getset_descriptor":=Ye;have e1:(".".intercalate ("object.__class__".cutAt '.').dropLast) = "object":=F.owner_object_class
 repeat (any_goals (first|assumption | (with_reducible refine XG hx ?_;rw[hc]) | (with_reducible refine L1.at ?_) | (rw[e1];with_reducible refine L1.at ?_)|wp_step))
 refine⟨YC _ (by decide +kernel),Yo F.entry_object_class ?_⟩
 repeat (any_goals (first|assumption | (with_reducible refine XG hx ?_;rw[hc])|wp_step))
theorem D9{tk:Tok}{Q:Fin->Shared->Prop}(Z:XC K C)(X:K.In h)(hx:h.get? x=some o)(hc:o.cls=.ref C)(hq:Q (.done (.ret (.ref C))) ⟨h,g,d,t,os⟩):
  wpAny (model prog w) A (Builtin.«object.__getattribute__» ⟨[.ref x,.str "__class__" tk],[]⟩) Q E ⟨h,g,d,t,os⟩:=by
 have VO:(⟨h,g,d,t,os⟩:Shared).TypeIs (.builtin "object.__class__") "getset_descriptor":=Ye;have f5:=Ye;have f6:=F.slot_gs_get.lookup;have f7:=F.slot_gs_set.lookup;have L1:=looks_findIn (M:=model prog w) X Z.cl
 repeat (any_goals (first|assumption | (with_reducible refine XG hx ?_;rw[hc]) | (with_reducible refine L1.at ?_)|wp_step))
 refine ND Z X hx hc ?_
 repeat (any_goals (first|assumption|wp_step))
theorem D_{M:Model}{Dy:Value}{Q:Unit->Shared->Prop}(Z:XC K C)(X:K.In h)(hx:h.get? x=some o)(hc:o.cls=.ref C)(hq:Q () ⟨h,g,d,t,os⟩):
  wpAny M A (checkBuiltinCall "BaseException.__getattribute__" ⟨[.ref x,Dy],[]⟩) Q E ⟨h,g,d,t,os⟩:=by
 have hk:builtinKind "BaseException.__getattribute__" = some .slot:=by decide +kernel
 have Gb:splitId "BaseException.__getattribute__" = some ("BaseException","__getattribute__"):=by decide +kernel
 have L1:=looks_mroIn (M:=M) X Z.be;have ha:=F.args_bexc_ga (.ref x) Dy;simp only[checkBuiltinCall,hk,Gb];refine Xf ?_
 ·unfold isInstance
  repeat (first | (with_reducible refine XG hx ?_;rw[hc]) | (with_reducible refine L1.at ?_)|wp_step)
  exact hq
theorem IG{tk:Tok}{R:Result->Shared->Prop}(B:ExcAttrFacts "ValueError")(Z:XC K C)(X:K.In h)(hx:h.get? x=some o)(hc:o.cls=.ref C)(hq:R (.ok (.ret (.ref C))) ⟨h,g,d,t,os⟩):
  codeAny (model prog w) A (.call (.builtin "BaseException.__getattribute__") ⟨[.ref x,.str "__class__" tk],[]⟩) R ⟨h,g,d,t,os⟩ :=
 Yp B.ga.plain F.entry_bexc_ga (D_ Z X hx hc (D9 Z X hx hc hq))
theorem TM{tk:Tok}{Q:aF}(B:ExcAttrFacts "ValueError")(Z:XC K C)(X:K.In h)(hx:h.get? x=some o)(hc:o.cls=.ref C)(hq:Q (.ref C) ⟨h,g,d,t,os⟩):
  wpAny (model prog w) A (getAttrBy (.ref x) (.str "__class__" tk) false) Q E ⟨h,g,d,t,os⟩:=by
 have f3:=B.ga.bind (.ref x);have WX:(false&&onTheHeap (Value.builtin "BaseException.__getattribute__"))=false:=rfl;have U3:(Value.builtin "BaseException.__getattribute__" == Value.builtin "object.__getattribute__")=false:=by decide +kernel
 have WW:(onTheHeap (Value.ref C)&&Value.builtin "BaseException.__getattribute__" == Value.builtin "object.__getattribute__")=false:=by rw[U3];rfl
 have L1:=looks_findIn (M:=model prog w) X Z.ga;have L2:=looks_findIn (M:=model prog w) X Z.gt
 repeat (any_goals (first|assumption | (with_reducible refine XG hx ?_;rw[hc]) | (with_reducible refine L1.at ?_) | (with_reducible refine L2.at ?_)|wp_step))
 refine IG B Z X hx hc ?_
 repeat (any_goals (first|assumption|wp_step))
theorem IH{Q:Option Value->Shared->Prop}(B:ExcAttrFacts "ValueError")(Z:XC K C)(X:K.In h)(hx:h.get? x=some o)(hc:o.cls=.ref C)(hq:Q (some (.ref C)) ⟨h,g,d,t+1,os⟩):
  wpAny (model prog w) A (getAttr? (.ref x) "__class__") Q E ⟨h,g,d,t,os⟩:=by
 unfold getAttr? getAttrBy?
 repeat (any_goals (first|assumption|with_reducible apply TM B Z X hx hc|wp_step))
end
def vE(x C:Addr)(h:Heap):Prop:=∃o,h.get? x=some o/\o.cls=.ref C
theorem yU{K:Frag}{x C:Addr}(B:ExcAttrFacts "ValueError")(Z:XC K C):KitX K (.ref x) (.ref C) (vE x C) where
 ty:=λM h _ p=>by
  obtain⟨o,h1,h2⟩:=p;exact h2▸(Looks.ld h1).andThen .now
 it:=λ_ _ X _=>by
  obtain⟨Wk,Gn⟩:=Option.isSome_iff_exists.mp Z.cs;unfold clsIn at Gn;split at Gn
  ·rename_i c' d' Wl Oo ho;intro A' Q' E' s' k q;unfold isType loadHead;exact Xf (wpAny_loadPart (k _ _ (X _ _ ho)) (Xh q))
  ·cases Gn
 ne:=λh tp dd aN n sl X MP=>by
  obtain⟨Wk,Gn⟩:=Option.isSome_iff_exists.mp Z.cs;refine Bool.eq_false_iff.mpr λq=>?_;have e:C=tp:=Value.ref.inj (beq_iff_eq.mp q);subst e;unfold clsIn at Gn;split at Gn
  ·rename_i c' d' Wl Oo ho;have z:=(X _ _ ho).symm.trans MP;cases z
  ·cases Gn
 ca:=λ{prog w A E Q s} X p k=>by
  obtain⟨o,h1,h2⟩:=p;obtain⟨h,g,d,t,os⟩:=s;exact IH B Z X h1 h2 k
end DI
end
section
namespace DI
open PySem PySem.Spec PyProof.Rows L2
variable {H H' H1:Hp}{P:aJ}{w:World}
theorem kJ{h:Heap}{a:Addr}{o:HO}(x:dj P w H h a o):∃u,h.get? a=some u:=by
 cases o with
 |lst xs=>obtain⟨_,_,_,_,e⟩:=x;exact⟨_,e⟩
 |tup xs=>obtain⟨_,_,_,o,e,_⟩:=x;exact⟨_,e⟩
 |dK mi=>obtain⟨_,_,_,_,o,_,_,e,_⟩:=x;exact⟨_,e⟩
 |dT mi=>obtain⟨_,_,_,_,o,_,_,e,_⟩:=x;exact⟨_,e⟩
 |set S n=>obtain⟨o,_,_,_,e,_⟩:=x;exact⟨_,e⟩
 |ins C dx fs=>obtain⟨_,_,_,e,_⟩:=x;exact⟨_,e⟩
 |own y=>obtain⟨_,e⟩:=x;exact⟨_,e⟩
 |xd fs=>obtain⟨_,⟨_,_,_,e,_⟩,_⟩:=x;exact⟨_,e⟩
 |kc lo hi=>obtain⟨_,_,_,e⟩:=x;exact⟨_,e⟩
 |iE ob u=>obtain⟨e,_⟩:=x;exact⟨_,e⟩
 |CN ps=>exact⟨_,(show h.get? a=some _ from x)⟩
 |met f y=>exact⟨_,(show h.get? a=some _ from x)⟩
 |ext φ=>obtain⟨_,⟨_,e⟩,_⟩:=x;exact⟨_,e⟩
def NB(l:List Env)(H':Hp)(h h' B:Heap):Prop:=∀b o,h'.get? b=some o->b∉kv l->(H' b≠none\/h.get? b≠none)->B.get? b=some o
variable {B base h' h2 h3:Heap}
theorem moved{l:List Env}{h:Heap}(un:Un (kv l) [] H H' h h2)(cn:iI P w H' h2)(Ai:NB l H' h h2 B)(fu:h.FunFrames base l)(xh:∀b∈kv l,H b=none)
  (st:B.StaysIn h3) (sl:h2.UpToSlots h3):Un (kv l) [] H H' h h3/\iI P w H' h3/\NB l H' h h3 B:=by
 have fr:∀b∈kv l,H' b=none:=λb hb=>by
  obtain⟨_,o,ho,_⟩:=fu.mem hb;exact un.free b o ho (xh b hb) (by simp)
 have keep:∀b o,h2.get? b=some o->b∉kv l->(H' b≠none\/h.get? b≠none)->h3.get? b=some o:=λb o e hb hc=>st b o (Ai b o e hb hc);have slot:∀b o,h.get? b=some o->b∈kv l->∃sl,h3.get? b=some { o with slots:=sl }:=λb o e hb=>by
  obtain⟨WN,e1⟩:=un.slot b o e (xh b hb) hb (by simp);obtain⟨_,o',eX,nf⟩:=fu.mem hb;rw[e]at eX;cases eX;obtain⟨HP,e2⟩:=sl b _ e1 (λvs z=>nf vs z);exact⟨HP,e2⟩
 refine⟨⟨λb o e n hb _=>keep b o (un.keep b o e n hb (by simp)) hb (.inr (by rw[e];simp)),λb o e n hb _=>slot b o e hb,un.free,λb o e _=>?_,un.kR,un.ku,un.kU⟩,λa o e=>?_,λb o e hb hc=>?_⟩
 ·by_cases hb:b∈kv l
  ·obtain⟨s1,e1⟩:=slot b o e hb;exact⟨_,e1⟩
  ·obtain⟨o',e1⟩:=un.there b o e (by simp);exact⟨o',keep b o' e1 hb (.inr (by rw[e];simp))⟩
 ·refine(cn a o e).kW (λb u hb q=>?_) (λ_ q=>q) λ_ _ q=>q;have ht:H' b≠none:=by
   rcases hb with rfl|hb
   ·rw[e];simp
   ·rw[hb];simp
  exact keep b u q (λz=>ht (fr b z)) (.inl ht)
 ·have:∃o2,h2.get? b=some o2:=by
   rcases hc with hc|hc
   ·cases q:H' b with
    |none=>exact absurd q hc
    |some u=>exact kJ (cn b u q)
   ·cases q:h.get? b with
    |none=>exact absurd q hc
    |some u=>exact un.there b u q (by simp)
  obtain⟨o2,e2⟩:=this;have e3:=keep b o2 e2 hb hc;rw[e]at e3;cases e3;exact Ai b _ e2 hb hc
structure Nt(P:aJ)(w:World)(C:Addr)(l:List Env)(H:Hp)(s:Shared)(e:Addr)(H':Hp)(s':Shared):Prop where
 VZ:∃t B,Heap.FlyingW B l e (.ref C) (.ref t) s'.heap/\NB l H' s.heap s'.heap B
 os:s'.os=s.os
 bare:AllBare s'.gens
 un:Un (kv l) [] H H' s.heap s'.heap
 cn:iI P w H' s'.heap
noncomputable abbrev qj(P:aJ)(w:World)(C:Addr):vI:=λl H s E e s'=>∃ea H',e=.ref ea/\Nt P w C l H s ea H' s'/\E (.ref C) none H'
theorem rH{l:List Env}{e:Addr}{cls a0:Value}{h:Heap}(f:Heap.FlyingW B l e cls a0 h):e∉kv l:=λhm=>by
 obtain⟨_,o,ho,nf⟩:=f.2.2.1.mem hm;obtain⟨oe,vs,he,_,hd,_⟩:=f.first;rw[ho]at he;cases he;exact nf vs hd
variable {C ea f:Addr}
theorem Nt.new{l:List Env}{s s':Shared}{e:Addr}(f:Nt P w C l H s e H' s'):H' e=none/\s.heap.get? e=none:=by
 obtain⟨t,B,fw,Ai⟩:=f.VZ;obtain⟨oe,vs,he,_⟩:=fw.first;have key:¬ (H' e≠none\/s.heap.get? e≠none):=λz=>by
  have:=Ai e oe he (rH fw) z;rw[fw.2.1]at this;cases this
 exact⟨Classical.not_not.mp λz=>key (.inl z),Classical.not_not.mp λz=>key (.inr z)⟩
variable {s1:Shared}{σ:L2.St}
section
variable {P:aJ}{w:World}{C:Addr}{K:ak}{mg:aP}{base:Heap}{N:av}{qual:Str}{scope:Scope}{f:Addr}{cd:Value}{A:aQ}{outer:List Env}{s:Shared}{H:Hp}{E:XK}
theorem left{pins:aj}{s2:Shared}{t:Addr}
  (I:Inv (gN (qj P w C) P w K mg base N qual scope f cd A outer s H E) pins σ H1 s1)
  (un:Un (kv (gN (qj P w C) P w K mg base N qual scope f cd A outer s H E).stack) [] H1 H' s1.heap h2) (cn:iI P w H' h2) (Ai:NB (gN (qj P w C) P w K mg base N qual scope f cd A outer s H E).stack H' s1.heap h2 B)
  (fw:Heap.FlyingW B outer ea (.ref C) (.ref t) h3) (sl:h2.UpToSlots h3) (os:s2.os=s1.os) (bare:AllBare s2.gens):Nt P w C outer H s ea H' { s2 with heap:=h3 }:=by
 obtain⟨TY,KQ,Ra⟩:=moved un cn Ai I.stack I.jC fw.1 sl;have J:=I.vt (s':={ s2 with heap:=h3 }) (ch:=[]) os TY KQ bare λ_ z=>nomatch z;refine⟨⟨t,B,fw,λb o e hb hc=>?_⟩,J.os,bare,J.base,KQ⟩;have VG:b≠s.heap.objs.size:=by
  rcases hc with hc|hc
  ·rintro rfl;exact hc J.free
  ·rintro rfl;exact hc (Heap.get?_none_of_le (Xj _))
 refine Ra b o e (λz=>?_) ?_
 ·rcases List.mem_cons.mp (I.iW b z)with z|z
  ·exact VG z
  ·exact hb z
 ·rcases hc with hc|hc
  ·exact .inl hc
  ·right;cases q:s.heap.get? b with
   |none=>exact absurd q hc
   |some u =>
    obtain⟨o',e'⟩:=I.base.there b u q (by intro z;cases z);rw[e'];simp
theorem JT{E1:XK}(hE:∀H',E1 (.ref C) none H'->E (.ref C) none H'):Passes (qj P w C) (gN (qj P w C) P w K mg base N qual scope f cd A outer s H E) E1:=by
 intro pins σ H1 s1 e s2 I hx;obtain⟨ea,H',rfl,⟨⟨t,B,fw,Ai⟩,os,bare,un,cn⟩,he⟩:=hx;show wpAny (model P w) _ (leaving _ (.ref ea)) _ _ s2;refine wpAny_leaves_onW (L:=s.heap.objs.size) I.ok.frames rfl fw λh' VX sl=>?_;exact⟨ea,H',rfl,left I un cn Ai VX sl os bare,hE H' he⟩
theorem AW{pins:aj}{vs:aq}
  (I:Inv (gN (qj P w C) P w K mg base N qual scope f cd A outer s H E) pins σ H1 s1) (hm:Heap.MadeExcOf s1.heap h' ea (.ref C) vs) (he:E (.ref C) none H1) :
  (gN (qj P w C) P w K mg base N qual scope f cd A outer s H E).xe (.ref ea) { s1 with heap:=h' }:=by
 show wpAny (model P w) _ (leaving _ (.ref ea)) _ _ _
 let l:=(gN (qj P w C) P w K mg base N qual scope f cd A outer s H E).stack
 let B:=PySem.W.hideAll s1.heap (kv l)
 have hB:B.StaysIn s1.heap:=λb o e=>PySem.W.of_hideAll _ e;refine wpAny_leaves_madeW (h:=s1.heap) (base:=B) (L:=s.heap.objs.size) I.ok.frames rfl hB (PySem.W.funFrames_hide (as:=kv l) I.stack λenv he a ha=>List.mem_filterMap.mpr ⟨env,he,ha⟩) hm λW8 t fw _ _ sl=>?_;refine⟨ea,H1,rfl,left (s2:=s1) (H':=H1) I (Un.kept hm.keeps) (I.cn.kept hm.keeps) (λb o e hb hc=>?_) fw sl rfl I.bare,he⟩;have:∃o1,s1.heap.get? b=some o1:=by
  rcases hc with hc|hc
  ·cases q:H1 b with
   |none=>exact absurd q hc
   |some u=>exact kJ (I.cn b u q)
  ·cases q:s1.heap.get? b with
   |none=>exact absurd q hc
   |some u=>exact⟨u,rfl⟩
 obtain⟨o1,e1⟩:=this;have e2:=hm.keeps b o1 e1;have e:h'.get? b=some o:=e;rw[e]at e2;cases e2;exact PySem.W.hideAll_get _ e1 hb
end
abbrev CK:aq:=[.type "ValueError",.type "Exception",.type "BaseException",.type "object"]
noncomputable abbrev lA(x:Str)(C:Addr)(mg:aP)(h:Heap):Prop:=OwnCls x C CK "ValueError.__new__" mg h
variable {K:ak}
theorem vi(q:PySem.W.excIn K C CK "ValueError.__new__" = true):∃(dd:Option Addr) (nm:Str) (bs bm:aq) (ns:Addr) (qn:Str) (hd:Bool) (sn:av) (sub:aq) (ab:Bool) (col:Option Bool) (k0 k1 k2 k3 k5:Option Value),
  K.lookup C=some (excClassObj nm qn C ns bs bm hd sn sub ab col dd k0 k1 k2 k3 k5 "ValueError.__new__")/\PySem.W.tailIn K CK bm=true/\PySem.W.nsOkIn K ns=true/\PySem.W.nsIn K ns "__init__" = some none:=by
 unfold PySem.W.excIn at q;split at q
 case h_2=>cases q
 case h_1 dd cd sl ho =>
  split at q
  case h_2=>cases q
  case h_1 C' bm k0 k1 k2 k3 n k5 hm hs =>
   rw[Bool.and_eq_true,Bool.and_eq_true,Bool.and_eq_true,Bool.and_eq_true,Bool.and_eq_true]at q;obtain⟨⟨⟨⟨⟨e1,e2⟩,e3⟩,e4⟩,e5⟩,e6⟩:=q;have e1:=beq_iff_eq.mp e1;have e2:=beq_iff_eq.mp e2;have e6:=beq_iff_eq.mp e6;subst e1;subst e2;cases cd with
   |mk nm bs mro ns qn hd sn sub ab col del =>
    cases hm;have e3:del=false:=by simpa using e3
    subst e3;cases sl with
    |mk l =>
     cases hs;exact⟨_,_,_,_,_,_,_,_,_,_,_,_,_,_,_,_,ho,e4,e5,e6⟩
variable {mg:Str->Option Value}
theorem o8{h:Heap}{x:Str}(X:K.In h)(G:h.Ns mainGlobals mg)(e:PySem.W.nsIn K mainGlobals x=some (some (.ref C)))(q:PySem.W.excIn K C CK "ValueError.__new__" = true):lA x C mg h:=by
 obtain⟨_,_,_,_,_,_,_,_,_,_,_,_,_,_,_,_,ho,e4,e5,e6⟩:=vi q;exact⟨XO X G e,_,_,_,_,_,_,_,_,_,_,_,_,_,_,_,_,_,X _ _ ho,.of_isNs (PySem.W.isNs_of_in X e5),PySem.W.nsMap_none_of_in X e5 e6,PySem.W.tail_of_in X e4⟩
variable {cpos np pos:Pos}
section
variable {X:Cx}{C:Addr}{x:Str}
noncomputable def Ej(X:Cx)(C:Addr):TS:=λD σ H=>∀pins s h' ea vs,Inv X pins σ H s->Heap.MadeExcOf s.heap h' ea (.ref C) vs->X.xe (.ref ea) { s with heap:=h' }
theorem yh{m:Str}{j:Nat}{p:Pos}(hc:X.calm=true)(O:lA x C X.mg X.base)(hg:Gl X x)(hd:(x==("__debug__" : Str))=false):
  PS X (.Raise (some (.Call (.Name x np) [.Constant (.str m) j p] [] cpos)) none pos) (Ej X C):=by
 intro pins s σ H D I hw;obtain⟨tl,N,nm,q,bs,hdct,sn,sub,ab,col,dd,k0,k1,k2,k3,k5,mN,hC,hN,Vk,T⟩:=O.obj;refine wpAny_Raise_call_subT (C:=C) (nm:=nm) (q:=q) (N:=N) (bs:=bs) (bm:=tl) (hdct:=hdct) (sn:=sn) (sub:=sub) (ab:=ab) (col:=col) (dd:=dd) (k0:=k0) (k1:=k1) (k2:=k2) (k3:=k3) (k5:=k5)
  F.excBase_ValueError (mN:=mN) (T.hasType F.excBase_ValueError.hasBase) (I.ok.hd hc) rfl Vk (pz I hg O.bound ⟨rfl,?_⟩ hd)
 have he:starEach [.Constant (.str m) j p] X.env=(false,eval (.Constant (.str m) j p) X.env)::starEach [] X.env:=rfl;have hp:=cA (me (X:=X) (x:=m) (j:=j) (pos:=p)) eM he cpos pins s σ H (λvs H'=>H'=H/\vs.length<=1) I ⟨rfl,Xj 1⟩;rw[he]at hp ⊢;refine Calls.evalArgs_plain (cS hp λus s2 bK=>?_);obtain⟨vs,H2,I2,r,q2,q3⟩:=bK;subst q2;exact⟨rfl,by rw[<- r.length];exact Xz q3 (by decide),I2.bk _ _ hC,hN.keeps I2.bk,T.keeps I2.bk,λh' e hm=>hw pins s2 h' e us I2 hm⟩
end
variable {X:Cx}
theorem Cx.Ok.mk'(ok:X.Ok)(e:Value)(E:aF):Cx.Ok { X with A:=X.A.mark (some e),calm:=false,xe:=E } :=
 ⟨ok.mod,ok.kind,ok.glob,ok.blt,ok.above,ok.inj,ok.has,ok.DR,(λh=>by cases h),ok.frames,ok.En,ok.Lu,ok.bs,ok.zS,ok.qX,ok.tP,ok.jb,ok.xh⟩
theorem y4{pins:aj}{s:Shared}(I:Inv X pins σ H s)(e:Value)(E:aF):Inv { X with A:=X.A.mark (some e),calm:=false,xe:=E } pins σ H s :=
 ⟨Cx.Ok.mk' I.ok e E,I.os,I.bare,I.base,I.loc,I.cell,I.free,I.eR,I.pin,I.cn,I.len⟩
variable {E:Value->Shared->Prop}
theorem tF{pins:aj}{s:Shared}{e:Value}(ok:X.Ok)(I:Inv { X with A:=X.A.mark (some e),calm:=false,xe:=E } pins σ H s):Inv X pins σ H s :=
 ⟨ok,I.os,I.bare,I.base,I.loc,I.cell,I.free,I.eR,I.pin,I.cn,I.len⟩
theorem A8{i:Nat}{x:Str}(hN:X.N[i]?=some x)(hv:D2 X.env.scope x)(hd:(x==("__debug__" : Str))=false)(wA:(x==("__classdict__" : Str))=false):PE X (.Name x pos) (lZ i):=gh hN hv hd wA
noncomputable def only(n j:Nat)(v:V):St:=(List.replicate n none).set j (some v)
section
variable {X:Cx}{C:Addr}{x n y:Str}{i j:Nat}{E1:XK}
end
noncomputable abbrev Cx.kS(X:Cx)(pins:aj)(E:aF):Cx:={ X with xe:=E,pn:=X.pn++pins }
section
variable {X:Cx}{C:Addr}{x n y:Str}{i j:Nat}{E1:XK}
theorem BG{pins:aj}{s:Shared}(I:Inv X pins σ H s)(E:aF):Inv (Cx.kS X pins E) [] σ H s :=
 ⟨⟨I.ok.mod,I.ok.kind,I.ok.glob,I.ok.blt,I.ok.above,I.ok.inj,I.ok.has,I.ok.DR,I.ok.hd,I.ok.frames,I.ok.En,I.ok.Lu,I.ok.bs,I.ok.zS,I.ok.qX,I.ok.tP,I.ok.jb,I.ok.xh⟩,I.os,I.bare,I.base,I.loc,I.cell,I.free,I.eR,λp hp=>I.pin p (by simpa using hp),I.cn,I.len⟩
theorem fR{pins q:aj}{s:Shared}(I:Inv (Cx.kS X pins E) q σ H s):Inv X pins σ H s :=
 ⟨⟨I.ok.mod,I.ok.kind,I.ok.glob,I.ok.blt,I.ok.above,I.ok.inj,I.ok.has,I.ok.DR,I.ok.hd,I.ok.frames,I.ok.En,I.ok.Lu,I.ok.bs,I.ok.zS,I.ok.qX,I.ok.tP,I.ok.jb,I.ok.xh⟩,I.os,I.bare,I.base,I.loc,I.cell,I.free,I.eR,λp hp=>I.pin p (Xu _ hp),I.cn,I.len⟩
theorem tracked{l:List Env}{h:Heap}(un:Un (kv l) [] H H' h h')(cn:iI P w H' h')(n1:H' ea=none)(n2:h.get? ea=none)(at_:vE ea C h'):
  Un (kv l) [] H (upd H' ea (.ext (vE ea C))) h h'/\iI P w (upd H' ea (.ext (vE ea C))) h':=by
 have ne:∀b u,H' b=some u->b≠ea:=λb u q=>bU q n1;refine⟨⟨un.keep,un.slot,λb o e n hx=>?_,un.there,λb xs q=>?_,λb o u q=>?_,λb ps q=>?_⟩,λb u q=>?_⟩
 ·have:b≠ea:=by rintro rfl;rw[n2]at e;cases e
  rw[aY this];exact un.free b o e n hx
 ·have:=un.kR b xs q;rw[aY (ne _ _ this)];exact this
 ·have:=un.ku b o u q;rw[aY (ne _ _ this)];exact this
 ·obtain⟨m,this⟩:=un.kU b ps q;exact⟨m,by rw[aY (ne _ _ this)];exact this⟩
 ·by_cases hb:b=ea
  ·subst hb;rw[bh]at q;cases q;obtain⟨o,e1,e2⟩:=at_;exact⟨⟨o,e1,e2⟩,⟨o,e1⟩,λh1 h2 ⟨o,e1,e2⟩ k=>⟨o,k o e1,e2⟩⟩
  ·rw[aY hb]at q;exact(cn b u q).kW (λ_ _ _ q=>q) (λc r=>by rw[aY (ne _ _ r)];exact r) λc xs r=>by rw[aY (ne _ _ r)];exact r
end
variable {ps:av}{qual told:Str}{st:Stmt}
theorem Q9{CX:vI}{x:Str}{fd:FuncData}{N:av}{k:Nat}{sp:Sp}(F:wY K x qual st f fd)(S:dX N ps (ay st))(len:∀vs H Q E,sp vs H Q E->vs.length=ps.length)
  (rm:∀(eD:Value) (A:aQ) (outer:List Env) (s:Shared) (H:Hp) (vs:ae) (Q:VK) (E:XK),f_ k (A.deeper (envOfC qual (ay st) s.heap.objs.size f eD))->sp vs H Q E ->
   ∃t,fJ (gN CX P w K mg base N qual (ay st) f eD A outer s H E) (bg st) t/\t { nx:=λ_ H'=>Q .bB H',rt:=Q } (L2.start N vs) H):eF P w K mg base CX (k+1) f fd ps sp:=by
 obtain⟨oc,od,kV,doc,pm,an,eD,ct,yy,rfl,lk,wA⟩:=F.ex;exact DK lk wA S len λA outer s H vs Q E hr qm=>rm eD A outer s H vs Q E hr qm
def Om(K:ak)(C:Addr)(n:Nat)(mr:aa->Prop):Sp:=λvs H _ E=>∃(F:ag) (ds:aa),vs.length=n/\aB (a_ K H) (nd K F (λ_=>False) (λ_=>none) H) [] 0 vs ds/\mr ds/\∀H',aI H H'->E (.ref C) none H'
variable {F R1:Addr->Prop}
theorem qE{N:av}{vs:ae}{ds:aa}(h0:X.H₀=H)(hl:ds.length<=N.length)(rs:aB (a_ X.K H) (nd X.K F (λ_=>False) (λ_=>none) H) [] 0 vs ds):
  SI X F (λp=>F p/\H p≠none) (λ_=>none) (ds.map some++List.replicate (N.length - ds.length) none) (L2.start N vs) H:=by
 have KC:vs.length=ds.length:=rs.length;refine⟨?_,λi d hi=>?_,λ_ _=>rfl,λp h=>h.2,λp h=>.inl h.1,λ_ _ h=>by simp at h,λ_ _ h=>by simp at h,h0▸aI.refl H⟩
 ·unfold L2.start;simp[KC]
 ·have K4:i<ds.length:=by
   by_cases qq:i<ds.length
   ·exact qq
   ·rw[List.getElem?_append_right (by simpa using qq),List.getElem?_replicate]at hi;split at hi<;>simp at hi
  rw[List.getElem?_append_left (by simpa using K4),List.getElem?_map]at hi;have hd:ds[i]?=some d:=by
   cases q:ds[i]? with
   |none=>rw[q]at hi;exact nk hi
   |some z=>rw[q]at hi;simp at hi;rw[hi]
  obtain⟨v,hv,rv⟩:=rs.get hd;refine⟨v,?_,rv.imp (q:=[0+i]) (q':=[i]) (λ_ _ h=>h) λc p xs f h=>?_⟩
  ·unfold L2.start;rw[List.getElem?_append_left (by rw[List.length_map,KC];exact K4),List.getElem?_map,hv];rfl
  ·cases f with
   |ow=>exact nomatch h.2
   |fz=>exact⟨h.1,h.2,h.1.ne⟩
   |al=>exact h.2.elim
   |sc=>exact h
noncomputable def jB(X:Cx)(F:ag)(bad:aU->Prop):TS:=λ_ σ H=>∃R τ ρ,SI X F R τ ρ σ H/\bad ρ
theorem PS.sY{X:Cx}{st:Stmt}{t:TS}(h:PS X.sY st t):PS X st t:=λpins s σ H D I hw =>
 Xs (h pins s σ H D (I.lV _) hw) (λ_ _ q=>q.gf) λ_ _ q=>q.elim
theorem SI.sY{X:Cx}{F R:ag}{τ:Addr->Option bo}{ρ:aU}{σ:St}{H:Hp}(S:SI X F R τ ρ σ H):SI X.sY F R τ ρ σ H:=⟨S.len,S.rep,S.rt,S.rh,S.rf,S.th,S.t0,S.same⟩
variable {ρ:aU}
theorem SI.IW{R:Addr->Prop}{τ:Addr->Option bo}(S:SI X.sY F R τ ρ σ H):SI X F R τ ρ σ H:=⟨S.len,S.rep,S.rt,S.rh,S.rf,S.th,S.t0,S.same⟩
noncomputable def vR(X:Cx)(F:ag)(bad:aU->Prop):TE:=λσ H _=>∃R τ ρ,SI X F R τ ρ σ H/\bad ρ
section
variable {X:Cx}{S:Sx}{k:Nat}{Φ:aV}{F:ag}{bad:aU->Prop}{C:Addr}
theorem B_{f':Addr}{Te:FuncData}{Mx:av}{R8:aa->Prop}{ce:aC}{g:Str}{e:Expr}{es:au}(L:Lk X S k Φ)(hx:Passes (qj X.prog X.w C) X (λc _ H'=>c=.ref C/\aI X.H₀ H'))
  (F':eF X.prog X.w X.K X.mg X.base (qj X.prog X.w C) k f' Te Mx (Om X.K C Mx.length R8)) (h2:fj S.sc g=true) (hg:X.mg g=some (.ref f')) (hk:PySem.W.keepIn X.K (.ref f')=true) (hb:Binds X.K Te Mx []) (hd:(g==("__debug__" : Str))=false)
  (h3:bL S ce (e::es)=true) (la:∀r,starEach (e::r) X.env=(false,eval e X.env)::starEach r X.env) (hpl:(backTo cpos (starEach es X.env)).any (·.1)=false) :
  PE X (.Call (.Name g np) (e::es) [] cpos) (vR X F λρ=>∃fV,b8 Φ ce ρ=ok fV/\R8 (aw aA fV)/\fV.length=Mx.length):=by
 refine PE.imp (o7 (X:=X) (p:=np) (pos:=cpos) F' L.room (L.gl h2) hg hk hb .nil hx (lE (F:=F) L ce (e::es) h3) hd (la _) hpl) λσ H Q hq=>?_;obtain⟨R,τ,ρ,Si,fV,Qk,P6,Ql⟩:=hq;refine⟨R,τ,ρ,fV,Si,Qk,λWK H2 e2 rv=>?_⟩;obtain⟨τt,ft,RT⟩:=rv;rw[List.append_nil];refine⟨λ_=>True,aw aA fV,by rw[RT.length,Ql],aB.iL (λ_ _ h=>h) (λk k' p xs f h=>?_) RT _ _,P6,λH' e'=>⟨rfl,(Si.same.trans e2).trans e'⟩⟩;cases f with
 |ow=>exact⟨h.1,trivial⟩
 |fz=>exact⟨h.1,trivial⟩
 |al=>exact⟨h.1,trivial⟩
 |sc=>exact h
theorem Hb{e:Expr}(h:PE X e (vR X F bad)):PS X (.Return (some e) pos) (jB X F bad):=PS.imp (kg h) λ_ _ _ q=>q
theorem DM{e:Expr}(h:PE X e (vR X F bad))(hs:swapsWith e none pos.line X.env=pure false):PS X (.Expr e pos) (jB X F bad):=PS.imp (oY h hs) λ_ _ _ q=>q
theorem Ha{i:Nat}{x:Str}{e:Expr}{p:Pos}(hN:X.N.Nodup)(hi:X.N[i]?=some x)(hx:L2.Loc X.env.scope x)(hf:X.fn x=true)(h:PE X e (vR X F bad))(hs:swapsWith e (some (.Name x p)) pos.line X.env=pure false):PS X (.Assign [.Name x p] e pos) (jB X F bad) :=
 PS.imp (iY hN hi hx h hs (.inl hf)) λ_ _ _ q=>q
end
def NW(C:Addr)(i:Nat)(b:Bool):TE:=λσ H Q=>∃ea,σ[i]?=some (some (.ref ea))/\H ea=some (.ext (vE ea C))/\Q (.bl b) H
def Jf(C:Addr)(i:Nat)(bs:List Bool):TA:=λσ H Q=>∃ea,σ[i]?=some (some (.ref ea))/\H ea=some (.ext (vE ea C))/\Q (bs.map V.bl) H
section
variable {X:Cx}{C:Addr}{i:Nat}
theorem F3{cv:V}{cu:Value}{b:Bool}(Z:XC X.K C)(hr:∀u,RelV cv u->u=cu)(hk:PySem.W.kitOne X.K (.ref C) cu=some b):
  fq X (.builtin "isinstance") (λxs H Q=>∃ea,xs=[.ref ea,cv]/\H ea=some (.ext (vE ea C))/\Q (.bl b) H):=by
 intro pins s σ H xs us Q I r h;obtain⟨ea,rfl,hH,q⟩:=h;obtain⟨u,w',rfl,ru,k7⟩:=vals2 r;cases ru;cases hr w' k7;obtain⟨⟨o,e1,e2⟩,_⟩:=(show dj X.prog X.w H s.heap ea (.ext (vE ea C)) from I.cn ea _ hH)
 exact XE (yU PySem.F.attr_ValueError Z) I.uQ ⟨o,e1,e2⟩ hk (λz=>nomatch z) λtk=>⟨.bl b,H,I.tok tk,rfl,q⟩
structure HK(X:Cx)(C:Addr)(cl:Str->Option Bool):Prop where
 xc:XC X.K C
 UU:Gl X "isinstance"
 UT:X.mg "isinstance" = none
 ex:∀x b,cl x=some b->∀p,∃cv cu,PE X (.Name x p) (tC cv)/\(∀u,RelV cv u->u=cu)/\PySem.W.kitOne X.K (.ref C) cu=some b
def rb(err:Str)(cl:Str->Option Bool)(e:Expr):Option Bool:=(eK e).bind λz=>(two z.2).bind λw=>(Ed w.1).bind λy=>(Ed w.2).bind λx=>if z.1 = "isinstance" /\ y=err then cl x else none
def dC(err:Str)(cl:Str->Option Bool):au->Option (List Bool)
 |[]=>some []
 |e::es=>match rb err cl e,dC err cl es with
  |some b,some bs=>some (b::bs)
  |_,_=>none
theorem sS{err:Str}{cl:Str->Option Bool}(Z:HK X C cl)(he:∀p,PE X (.Name err p) (lZ i)){e:Expr}{b:Bool}(h:rb err cl e=some b):PE X e (NW C i b)/\(∀es,starEach (e::es) X.env=(false,eval e X.env)::starEach es X.env)/\∀whole,isTrue e X.env whole=(do let v <- whole;standAt e.pos;holding [v] (truthy v)):=by
 obtain⟨⟨f,as⟩,hv,g1⟩:=Option.bind_eq_some_iff.mp h;obtain⟨p0,pos,rfl⟩:=bS hv;obtain⟨⟨ey,ex⟩,hw,g2⟩:=Option.bind_eq_some_iff.mp g1;obtain rfl:as=[ey,ex]:=iV hw;obtain⟨y,hy,g3⟩:=Option.bind_eq_some_iff.mp g2;obtain⟨p1,rfl⟩:=iU hy;obtain⟨x,hx,g4⟩:=Option.bind_eq_some_iff.mp g3;obtain⟨p2,rfl⟩:=iU hx;by_cases hh:f = "isinstance" /\ y=err
 ·rw[if_pos hh]at g4;obtain⟨rfl,rfl⟩:=hh;refine⟨?_,λ_=>rfl,λ_=>rfl⟩;obtain⟨cv,cu,h1,h2,h3⟩:=Z.ex x b g4 p2;refine PE.imp (dw (F3 Z.xc h2 h3) Z.UU Z.UT PyProof.Rows.boot_isinstance (cA (he p1) (cA h1 eM))) λσ H Q hq=>?_;obtain⟨ea,e1,e2,q⟩:=hq;exact⟨_,e1,ea,rfl,e2,q⟩
 ·rw[if_neg hh]at g4;cases g4
theorem sT{err:Str}{cl:Str->Option Bool}(Z:HK X C cl)(he:∀p,PE X (.Name err p) (lZ i)):∀{es:au} {bs:List Bool},dC err cl es=some bs->PA X es (Jf C i bs)
 |[],bs,h=>by
  cases h;exact PA.imp eM λσ H Q ⟨ea,_,_,q⟩=>q
 |e::es,bs,h=>by
  rw[dC]at h;split at h
  ·rename_i b bs' h1 h2;cases h;obtain⟨p1,p2,_⟩:=sS Z he h1;refine PA.imp (cA p1 (sT Z he h2) (p2 es)) λσ H Q hq=>?_;obtain⟨ea,e1,e2,q⟩:=hq;exact⟨ea,e1,e2,ea,e1,e2,q⟩
  ·cases h
end
noncomputable def ua:CE:=.cmp .eq (.bf .len [.comp 1 (.nm 0) [] .seq [.v 1] [.v 0] (.v 0)]) (.int 1)
noncomputable def lF(told:Str)(a b r:Expr)(l1 l2 l3 l4 l5:au)(pa pb po:Pos)(j:Nat)(pj pr A7 p1 A6 A5 p2 C_ Dl Ds Dh p3 C9 Dk Ae Dg p4 C8 Dj Dr De p5 C7 Di Dq Dd A4:Pos):aO :=
 [.If (.BoolOp .Or [.UnaryOp .Not a pa,.UnaryOp .Not b pb] po) [.Return (some (.Constant (.bool false) j pj)) pr] [] A7,.Assign [.Name told p1] (.List l1 A6) A5,.Assign [.Name told p2] (.BinOp (.Name told C_) .Add (.List l2 Dl) Ds) Dh,
   .Assign [.Name told p3] (.BinOp (.Name told C9) .Add (.List l3 Dk) Ae) Dg,.Assign [.Name told p4] (.BinOp (.Name told C8) .Add (.List l4 Dj) Dr) De,.Assign [.Name told p5] (.BinOp (.Name told C7) .Add (.List l5 Di) Dq) Dd,.Return (some r) A4]
def oJ(C:Addr):Sp:=λvs H Q _=>∃ea,vs=[.ref ea]/\H ea=some (.ext (vE ea C))/\∀H',aI H H'->Q (.bl true) H'
theorem Cq{i j:Nat}{err:Str}{cl:Str->Option Bool}{es:au}{bs bs':List Bool}{p1 p2 p3 p4 p5:Pos}(Z:HK X C cl)(he:∀p,PE X (.Name err p) (lZ i))(ht:∀p,PE X (.Name told p) (lZ j))(nd:X.N.Nodup)(hj:X.N[j]?=some told)(hl:X.env.scope.names.lookup told=some .local)(m5:i≠j)
  (h:dC err cl es=some bs) (hlen:bs'.length+bs.length<=sizeLine):PS X (.Assign [.Name told p1] (.BinOp (.Name told p2) .Add (.List es p3) p4) p5)
   (λD σ H=>∃ea l,σ[i]?=some (some (.ref ea))/\H ea=some (.ext (vE ea C))/\σ[j]?=some (some (.ref l))/\H l=some (.lst (bs'.map V.bl))/\∀σ' H' l',aI H H'->H l'=none->σ'[i]?=some (some (.ref ea))->σ'[j]?=some (some (.ref l'))->H' l'=some (.lst ((bs'++bs).map V.bl))->σ'.length=σ.length->D.nx σ' H'):=by
 refine PS.imp (iY (i:=j) nd hj (.inl hl) (uG yC (ht p2) (sR (sT Z he h))) (hf:=.inr hl)) λD σ H hq=>?_;obtain⟨ea,l,e1,e2,e3,e4,q⟩:=hq;have Qa:j<σ.length:=by
  by_cases z:j<σ.length
  ·exact z
  ·rw[List.getElem?_eq_none (by left)]at e3;cases e3
 refine⟨_,e3,ea,e1,e2,by simp;left,λp hp=>?_⟩;refine⟨l,p,_,_,rfl,rfl,by rw[aY (bU e4 hp)];exact e4,bh,by simpa using hlen,λp' qp=>?_⟩;have s1:aI H (upd H p (.lst (bs.map V.bl))):=aI.upd hp;have s2:=s1.trans (aI.upd (o:=.lst (bs'.map V.bl++bs.map V.bl)) qp);refine q _ _ p' s2 (aI.free s1 qp) ?_ ?_ ?_ ?_
 ·rw[List.getElem?_set_ne (Ne.symm m5)];exact e1
 ·rw[List.getElem?_set_self Qa]
 ·rw[bh,List.map_append]
 ·simp
variable {Φ:aV}
theorem uc{S:Sx}{k:Nat}{err:Str}{cl:Str->Option Bool}{b1 b2 b3 b4 b5:List Bool}(L:Lk X S k Φ)(Z:HK X C cl)(S9:X.N=[err,told])(he:X.env.scope.names.lookup err=some .local)(hl:X.env.scope.names.lookup told=some .local)
  (d1:(err==("__debug__" : Str))=false) (d2:(err==("__classdict__" : Str))=false) (d3:(told==("__debug__" : Str))=false) (d4:(told==("__classdict__" : Str))=false) (nd:X.N.Nodup)
  (hlen:b1.length+b2.length+b3.length+b4.length+b5.length<=sizeLine)
  (tH:aX Φ ua [none,some (.lst .fz ((b1++b2++b3++b4++b5).map DI.D.bl))]=ok (.bl true)) :
  ∀{a b r:Expr} {l1 l2 l3 l4 l5:au} {pa pb po:Pos} {j:Nat} {pj pr A7 p1 A6 A5 p2 C_ Dl Ds Dh p3 C9 Dk Ae Dg p4 C8 Dj Dr De p5 C7 Di Dq Dd A4:Pos},rb err cl a=some true->rb err cl b=some true->dC err cl l1=some b1->dC err cl l2=some b2->dC err cl l3=some b3->dC err cl l4=some b4->dC err cl l5=some b5->bM S ua r=true ->
   fJ X (lF told a b r l1 l2 l3 l4 l5 pa pb po j pj pr A7 p1 A6 A5 p2 C_ Dl Ds Dh p3 C9 Dk Ae Dg p4 C8 Dj Dr De p5 C7 Di Dq Dd A4) (λD σ H=>∃ea,σ=[some (.ref ea),none]/\H=X.H₀/\H ea=some (.ext (vE ea C))/\∀H',aI H H'->D.rt (.bl true) H'):=by
 intro a b r l1 l2 l3 l4 l5 pa pb po j pj pr A7 p1 A6 A5 p2 C_ Dl Ds Dh p3 C9 Dk Ae Dg p4 C8 Dj Dr De p5 C7 Di Dq Dd A4 ha hb i1 i2 i3 i4 i5 hr;have h0:X.N[0]?=some err:=by rw[S9];rfl
 have h1:X.N[1]?=some told:=by rw[S9];rfl
 have pe:∀p,PE X (.Name err p) (lZ 0):=λp=>gh h0 (.inl he) d1 d2;have pt:∀p,PE X (.Name told p) (lZ 1):=λp=>gh h1 (.inl hl) d3 d4;unfold lF;obtain⟨UG,_,UE⟩:=sS Z pe ha;obtain⟨UD,_,Ae⟩:=sS Z pe hb;have T:=C6 (pos:=po) (rest:=[]) (oV (pos:=pa) (oU UG UE)) (ye (pos:=po) (oV (pos:=pb) (oU UD Ae)));have P1:=iY (X:=X) (pos:=A5) (pos':=p1) (i:=1) nd h1 (.inl hl) (sR (pos:=A6) (sT Z pe i1)) (hf:=.inr hl);have R:=(dN (F:=λ_=>False) L ua r hr).1;refine fJ.imp (bZ (qQ (pos:=A7) T.pt (fg (kg (pos:=pr) Dp)) oX) (bZ P1 (bZ (Cq (bs':=b1) Z pe pt nd h1 hl (by decide) i2 (by left)) (bZ (Cq (bs':=b1++b2) Z pe pt nd h1 hl (by decide) i3 (by simp;left))
  (bZ (Cq (bs':=b1++b2++b3) Z pe pt nd h1 hl (by decide) i4 (by simp;left)) (bZ (Cq (bs':=b1++b2++b3++b4) Z pe pt nd h1 hl (by decide) i5 (by simp;left)) (fg (kg (pos:=A4) R)))))))) λD σ H hq=>?_
 obtain⟨ea,rfl,rfl,hx,q⟩:=hq;refine⟨ea,rfl,hx,true,rfl,?_⟩;refine⟨ea,rfl,hx,true,rfl,?_⟩;refine⟨ea,rfl,hx,by simp;left,λR_ n1=>?_⟩;have s1:aI X.H₀ (upd X.H₀ R_ (.lst (b1.map V.bl))):=aI.upd n1;refine⟨ea,R_,rfl,s1 _ _ hx,rfl,bh,λσ2 H2 UO s2 n2 e2 f2 g2 Bz=>?_⟩;have s2:=s1.trans s2;refine⟨ea,UO,e2,s2 _ _ hx,f2,g2,λσ3 H3 UN s3 n3 e3 f3 g3 By=>?_⟩;have s3:=s2.trans s3;refine⟨ea,UN,e3,s3 _ _ hx,f3,g3,λσ4 H4 UM s4 n4 e4 f4 g4 Bx=>?_⟩;have Ou:=s3.trans s4;refine⟨ea,UM,e4,Ou _ _ hx,f4,g4,λσ5 H5 R9 s5 n5 e5 f5 g5 Kf=>?_⟩;have RR:=Ou.trans s5;refine⟨λp=>p=R9,λ_=>none,[none,some (.lst .fz ((b1++b2++b3++b4++b5).map DI.D.bl))],_,⟨?_,λi d hi=>?_,λ_ _=>rfl,λp hp=>?_,λp hp=>?_,λ_ _ h=>by simp at h,λ_ _ h=>by simp at h,RR⟩,tH,λv H' sv rv=>?_⟩
 ·rw[Kf,Bx,By,Bz];rfl
 ·match i,hi with
  |1,hi =>
   cases hi;refine⟨_,f5,.lst ⟨g5,rfl⟩ ?_⟩;have:∀(bs:List Bool) (n:Nat),aB (a_ X.K H5) (DI.nd X.K (λp=>p=R9) (λ_=>False) (λ_=>none) H5) [1] n (bs.map V.bl) (bs.map DI.D.bl):=by
    intro bs;induction bs with
    |nil=>intro n;exact .nil
    |cons b bs ih=>intro n;exact .cons (.bl b) (ih _)
   exact this _ _
  |0,hi=>cases hi
  |n+2,hi=>simp at hi
 ·subst hp;rw[g5];simp
 ·subst hp;exact .inr (aI.free Ou n5)
 ·obtain⟨τt,_,rp⟩:=rv;cases rp;exact q H' (RR.trans sv)
structure Nr where
 ps:av
 err:Str
 ex:Str
 cls:Str
 f:Str
 al:Str
noncomputable def Nr.N(n:Nr):av:=n.ps++[n.err,n.ex]
noncomputable def tX(x:Str):Bool:=!(x==("__debug__" : Str))&&!(x==("__classdict__" : Str))
theorem SI.kS{X:Cx}{F R:ag}{τ:Addr->Option bo}{ρ:aU}{σ:St}{H:Hp}{pn:aj}{E:aF}(S:SI X F R τ ρ σ H):SI (Cx.kS X pn E) F R τ ρ σ H:=⟨S.len,S.rep,S.rt,S.rh,S.rf,S.th,S.t0,S.same⟩
theorem yi{S:Sx}{env:Env}{pos:Pos}:∀{es:au} {cs:aC},bL S cs es=true->(backTo pos (starEach es env)).any (·.1)=false
 |[],_,_=>rfl
 |e::es,[],h=>by exact(Xe h).elim
 |e::es,c::cs,h=>by
  replace h:=az h;rw[bq h.1 es env];show(false||(backTo pos (starEach es env)).any (·.1))=false;rw[yi h.2];rfl
noncomputable def J1:CI->Bool
 |.jE _ _=>false
 |_=>true
mutual
inductive kQ(Φ:aV)(Ψ:Nat->aa->Prop)(n:Nat):CS->aU->Prop
 |ex {g:Nat} {es:aC} {ρ:aU} {xs:aa} (h1:b8 Φ es ρ=ok xs) (h2:Ψ g (aw aA xs)):kQ Φ Ψ n (.ex (.call g es)) ρ
 |asg {i g:Nat} {es:aC} {ρ:aU} {xs:aa} (h1:b8 Φ es ρ=ok xs) (h2:Ψ g (aw aA xs)):kQ Φ Ψ n (.asg (.nm i) (.call g es)) ρ
 |ret {g:Nat} {es:aC} {ρ:aU} {xs:aa} (h1:b8 Φ es ρ=ok xs) (h2:Ψ g (aw aA xs)):kQ Φ Ψ n (.ret (.call g es)) ρ
 |rs {ρ:aU}:kQ Φ Ψ n (.rs n) ρ
 |BJ {c:CE} {a b:ah} {ρ:aU} (h1:rK Φ c ρ=ok true) (h2:Er Φ Ψ n a ρ):kQ Φ Ψ n (.ifs c a b) ρ
 |iff {c:CE} {a b:ah} {ρ:aU} (h1:rK Φ c ρ=ok false) (h2:Er Φ Ψ n b ρ):kQ Φ Ψ n (.ifs c a b) ρ
 |fr {t:Tg} {a:CI} {b:ah} {ρ ρ1:aU} {items:aa} (h1:dQ Φ a ρ=ok (items,ρ1)) (h2:Aj Φ Ψ n t b items ρ1) (h3:J1 a=true):kQ Φ Ψ n (.fr t a b) ρ
inductive Er(Φ:aV)(Ψ:Nat->aa->Prop)(n:Nat):ah->aU->Prop
 |hd {c:CS} {cs:ah} {ρ:aU} (h:kQ Φ Ψ n c ρ):Er Φ Ψ n (c::cs) ρ
 |tl {c:CS} {cs:ah} {ρ ρ':aU} (h1:gM Φ c ρ=ok (.nx,ρ')) (h2:Er Φ Ψ n cs ρ'):Er Φ Ψ n (c::cs) ρ
inductive Aj(Φ:aV)(Ψ:Nat->aa->Prop)(n:Nat):Tg->ah->aa->aU->Prop
 |hd {t:Tg} {b:ah} {d:D} {ds:aa} {ρ ρ1:aU} (h1:cE t d ρ=ok ρ1) (h2:Er Φ Ψ n b ρ1):Aj Φ Ψ n t b (d::ds) ρ
 |tl {t:Tg} {b:ah} {d:D} {ds:aa} {ρ ρ1 ρ2:aU} (h1:cE t d ρ=ok ρ1) (h2:bE Φ b ρ1=ok (.nx,ρ2)) (h3:Aj Φ Ψ n t b ds ρ2):Aj Φ Ψ n t b (d::ds) ρ
end
noncomputable def RG:Stmt->Option Expr
 |.Raise e c _=>match c with
  |none=>e
  |some _=>none
 |_=>none
theorem Eb{s:Stmt}{e:Expr}(h:RG s=some e):∃p,s=.Raise (some e) none p:=by
 cases s<;>first|exact nk h | (cases h;done)|skip
 rename_i a c p;cases c with
 |some _=>cases h
 |none=>cases h;exact⟨p,rfl⟩
noncomputable def Kq:Expr->Bool
 |.Constant c _ _=>match c with|.str _=>true|_=>false
 |_=>false
theorem BE{e:Expr}(h:Kq e=true):∃m j p,e=.Constant (.str m) j p:=by
 cases e<;>first|exact(Xe h).elim|skip
 rename_i c _ _;cases c<;>first|exact(Xe h).elim|exact⟨_,_,_,rfl⟩
def RS(y:Str)(st:Stmt):Bool:=bp (RG st) λe=>bp (eK e) λz=>(z.1==y)&&bp (one z.2) Kq
mutual
noncomputable def xk(gl:Bool)(n:Nat)(y:Str):CS->Stmt->Bool
 |.rs m,st=>!(m==n)||(gl&&RS y st)
 |.ifs _ a b,st=>bp (Ee st) λz=>m8 gl n y a z.2.1&&m8 gl n y b z.2.2
 |.fr _ _ b,st=>bp (Ef st) λz=>m8 gl n y b z.2.2.1
 |_,_=>true
noncomputable def m8(gl:Bool)(n:Nat)(y:Str):ah->aO->Bool
 |c::cs,st::m3=>xk gl n y c st&&m8 gl n y cs m3
 |_,_=>true
end
structure iu(P:aJ)(w:World)(K:ak)(mg:aP)(base:Heap)(k:Nat)(C:Addr)(y:Str)(mr:aa->Prop):Prop where
 ex:∃(f:Addr) (fd:FuncData) (ps:av),eF P w K mg base (qj P w C) k f fd ps (Om K C ps.length mr)/\mg y=some (.ref f)/\PySem.W.keepIn K (.ref f)=true/\Binds K fd ps []/\∀ds,mr ds->ds.length=ps.length
structure HE(X:Cx)(S:Sx)(k:Nat)(Φ:aV)(Ψ:Nat->aa->Prop)(C:Addr)(y:Str)(gl:Bool):Prop where
 ls:lB X S k Φ
 hR:∀pins σ H1 s1 h' ea vs,Inv X pins σ H1 s1->aI X.H₀ H1->Heap.MadeExcOf s1.heap h' ea (.ref C) vs->X.xe (.ref ea) { s1 with heap:=h' }
 hx:Passes (qj X.prog X.w C) X (λc _ H'=>c=.ref C/\aI X.H₀ H')
 fe:∀g x,S.fn g=some x->(∃ds,Ψ g ds)->iu X.prog X.w X.K X.mg X.base k C x (Ψ g)
 gy:gl=true->Gl X y/\(y==("__debug__" : Str))=false
 own:lA y C X.mg X.base
variable {es:aC}{g:Nat}{iter tg:Expr}{xs:aa}
section
variable {X:Cx}{S:Sx}{k n:Nat}{Φ:aV}{Ψ:Nat->aa->Prop}{F:ag}{C:Addr}{y:Str}{gl:Bool}
theorem rL(L:Lk X S k Φ)(hx:Passes (qj X.prog X.w C) X (λc _ H'=>c=.ref C/\aI X.H₀ H'))(fe:∀g x,S.fn g=some x->(∃ds,Ψ g ds)->iu X.prog X.w X.K X.mg X.base k C x (Ψ g)){e:Expr}(h:bM S (.call g es) e=true):PE X e (vR X F λρ=>∃xs,b8 Φ es ρ=ok xs/\Ψ g (aw aA xs)):=by
 obtain⟨⟨x,as⟩,hv,q1⟩:=bc h;obtain⟨p,pos,rfl⟩:=bS hv;obtain⟨q2,q3⟩:=az q1;obtain⟨q4,h3⟩:=az q2;obtain⟨h1,h2⟩:=az q4;obtain⟨⟨a,as'⟩,hu,h4⟩:=bc q3;obtain rfl:as=a::as':=so hu;by_cases pG:∃ds,Ψ g ds
 case neg=>exact λ_ _ _ _ _ _ ⟨_,_,_,_,xs,_,e2⟩=>absurd ⟨_,e2⟩ pG
 obtain⟨f,fd,ps,Fo,hm,hk,hb,hl⟩:=(fe g x (Xd h1) pG).ex;unfold k8 at h3;simp only[Bool.and_eq_true,Bool.not_eq_true']at h3;have la:∀r,starEach (a::r) X.env=(false,eval a X.env)::starEach r X.env:=λr=>by
  cases es with
  |nil=>exact(Xe h4).elim
  |cons c cs=>exact bq (az h4).1 r _
 have hpl:(backTo pos (starEach as' X.env)).any (·.1)=false:=by
  cases es with
  |nil=>exact(Xe h4).elim
  |cons c cs=>exact yi (az h4).2
 refine PE.imp (B_ (F:=F) (C:=C) (np:=p) (cpos:=pos) L hx Fo h2 hm hk hb h3.1.1 h4 la hpl) λσ H Q hq=>?_;obtain⟨R,τ,ρ,Si,xs,e1,e2⟩:=hq;exact⟨R,τ,ρ,Si,xs,e1,e2,by have:=hl _ e2;rw[aE,List.length_map]at this;exact this⟩
theorem pQ(L:HE X S k Φ Ψ C y gl){e:Expr}(h:bM S (.call g es) e=true):PE X e (vR X F λρ=>∃xs,b8 Φ es ρ=ok xs/\Ψ g (aw aA xs)):=rL L.ls.toLk L.hx L.fe h
def uq(X:Cx)(F:ag)(Φ:aV)(Ψ:Nat->aa->Prop)(n:Nat)(t:Tg)(b:ah)(R1:ag)(H1:Hp)(items:aa)(i:Nat)(σ:St)(H:Hp):Prop:=∃R' τ' ρ',SI X F R' τ' ρ' σ H/\Kp R1 H1 R' H/\Aj Φ Ψ n t b (items.drop i) ρ'
def NZ(X:Cx)(F:ag)(Φ:aV)(Ψ:Nat->aa->Prop)(n:Nat)(b:ah):TS:=λD σ H=>nc X F Φ b D σ H\/jB X F (Er Φ Ψ n b) D σ H
theorem pR{g:TG}{t:Tg}{b:ah}{D:L2.Ends}{items:List DI.D}{xs:ae}{q:bo}
  (rj:∀(v:V) (σ:St) (H:Hp) (Q:St->Hp->Prop) (R:ag) (τ:Addr->Option bo) (ρ ρ':aU) (d:DI.D),SI X F R τ ρ σ H->gO X R τ H v d->cE t d ρ=ok ρ'->(∀σ' τ',SI X F R τ' ρ' σ' H->Q σ' H)->g v σ H Q)
  (rs:aB (a_ X.K H1) (nd X.K R1 (λ_=>False) (λ_=>none) H1) q 0 xs items) (i:Nat) (x:V) (σ:St) (H:Hp) (hx:xs[i]?=some x) (h:uq X F Φ Ψ n t b R1 H1 items i σ H) :
  g x σ H λσ2 H2=>NZ X F Φ Ψ n b { D with nx:=uq X F Φ Ψ n t b R1 H1 items (i+1),ct:=uq X F Φ Ψ n t b R1 H1 items (i+1),bk:=D.nx } σ2 H2:=by
 obtain⟨R',τ',ρ',Si,kp,ef⟩:=h;obtain⟨d,hd,rd⟩:=rs.tL hx;have hi:i<items.length:=by
  by_cases hi:i<items.length
  ·exact hi
  ·rw[List.getElem?_eq_none (by left)]at hd;cases hd
 have rl:items.drop i=d::items.drop (i+1):=by
  rw[List.drop_eq_getElem_cons hi];rw[List.getElem?_eq_getElem hi]at hd;cases hd;rfl
 rw[rl]at ef;cases ef with
 |hd e1 e2=>exact rj x σ H _ R' τ' ρ' _ d Si (jF (Rep.ko (kp.rep rd))) e1 λσ' si d8=>.inr ⟨R',si,_,d8,e2⟩
 |tl e1 e2 e3=>exact rj x σ H _ R' τ' ρ' _ d Si (jF (Rep.ko (kp.rep rd))) e1 λσ' si d8=>.inl ⟨R',si,_,(.nx,_),d8,e2,λσ3 H3 R3 τ3 CA k3=>⟨R3,τ3,_,CA,kp.trans k3,e3⟩⟩
theorem tR{t:Tg}{b:ah}{items:List DI.D}{m:Nat}{P:Prop}(hn:m=items.length)(σ:St)(H:Hp)(h:uq X F Φ Ψ n t b R1 H1 items m σ H):P:=by
 obtain⟨_,_,_,_,_,ef⟩:=h;subst hn;rw[List.drop_length]at ef;cases ef
theorem G9(L:lB X S k Φ){t:Tg}{a:CE}{b:ah}{x:aO}(ht:t_ S t tg=true)(hi:Cn S (.seq a) iter=true)(hb:fJ X x (NZ X F Φ Ψ n b)):PS X (.For tg iter x [] pos) (jB X F (kQ Φ Ψ n (.fr t (.seq a) b))):=by
 obtain⟨g,hg,rj⟩:=uy (F:=F) L ht;have hV:∀y,foldedSetIterable iter X.env y=pure y:=by
  intro y;cases iter<;>first|rfl|exact(Xe hi).elim|exact(Xe (az hi).2).elim
 intro pins s σ H D I Gd;obtain⟨R,τ,ρ,Si,Qq⟩:=Gd;cases Qq with
 |fr ei ef _ =>
  replace hi:=az hi;obtain⟨d,ed,ei⟩:=aH ei;have pe:=(dN (F:=F) L.toLk a iter hi.1).1;cases d<;>try (simp at ei;done)
  ·rename_i ds;simp at ei;obtain⟨rfl,rfl⟩:=ei;refine iZ L.px L.calm (sQ pe) hg hb hV pins s σ H D I (tD.intro Si ed λv H1 e1 rv=>?_);obtain⟨R',τ',hR,d8,rp⟩:=lH Si e1 rv;rw[af]at rp;cases rp with
   | @tup _ p xs _ hp rs =>
    refine⟨p,rfl,⟨xs,hp⟩,vh (xs:=xs) (uq X F Φ Ψ n t b R' H1 (aw aA ds)) ⟨R',τ',_,d8,Kp.refl R' H1,by rw[List.drop_zero];exact ef⟩ (λi σ' H' _ h=>?_) (λi x σ' H' hx h=>pR rj rs i x σ' H' hx h) (λσ' H' h=>tR (rs.length) σ' H' h)⟩;obtain⟨R2,τ2,ρ2,_,kp,_⟩:=h;exact kp.Mj hp
  ·rename_i f ds;simp at ei;obtain⟨rfl,rfl⟩:=ei;refine iZ L.px L.calm (o5 pe) hg hb hV pins s σ H D I (tD.intro Si ed λv H1 e1 rv=>?_);obtain⟨R',τ',hR,d8,rp⟩:=lH Si e1 rv;rw[af]at rp;cases rp with
   | @lst _ p xs _ _ hp rs =>
    refine⟨p,rfl,⟨xs,hp.sq⟩,rE (xs:=xs) (uq X F Φ Ψ n t b R' H1 (aw aA ds)) ⟨R',τ',_,d8,Kp.refl R' H1,by rw[List.drop_zero];exact ef⟩ (λi σ' H' _ h=>?_) (λi x σ' H' hx h=>pR rj rs i x σ' H' hx h) (λσ' H' h=>tR (rs.length) σ' H' h)⟩;obtain⟨R2,τ2,ρ2,_,kp,_⟩:=h;exact(kp.nd hp).sq
theorem B8(L:lB X S k Φ){t:Tg}{a:CE}{b:ah}{x:aO}(ht:t_ S t tg=true)(hi:Cn S (.kc a) iter=true)(hb:fJ X x (NZ X F Φ Ψ n b)):PS X (.For tg iter x [] pos) (jB X F (kQ Φ Ψ n (.fr t (.kc a) b))):=by
 obtain⟨g,hg,rj⟩:=uy (F:=F) L ht;have hV:∀y,foldedSetIterable iter X.env y=pure y:=by
  intro y;cases iter<;>first|rfl|exact(Xe hi).elim
 obtain⟨⟨z,as⟩,hv,hz⟩:=bc hi;obtain⟨p,tE,rfl⟩:=bS hv;obtain⟨Kz,Ky⟩:=az hz;obtain⟨Kx,h2⟩:=az Kz;obtain⟨Kw,h1⟩:=az Kx;obtain rfl:z=_:=Xd Kw;obtain⟨e,hu,h3⟩:=bc Ky;obtain rfl:as=[e]:=cF hu;have pa:PA X [e] (qk X F Φ [a]):=PA.imp (cA (dN (F:=F) L.toLk a e h3).1 eM (bq h3 _ _)) λ_ _ _ h=>by
  have:=gS h;obtain⟨R,τ,ρ,d,Si,ev,hq⟩:=this;exact⟨R,τ,ρ,d,Si,ev,λv H' e r=>lC (hq v H' e r)⟩
 intro pins s σ H D I Gd;obtain⟨R,τ,ρ,Si,Qq⟩:=Gd;cases Qq with
 | @fr _ _ _ _ ρ1 items ei ef _ =>
  refine iZ L.px L.calm (ki (L.gl h1) (L.bl _ (Xd h2)) pa (bq h3 _ _)) hg hb hV pins s σ H D I ?_;obtain⟨d,ed,ei⟩:=aH ei;cases d<;>try (simp at ei;done)
  rename_i m;simp at ei;obtain⟨⟨c1,c2⟩,rfl,rfl⟩:=ei;have lg:(cY:Int)=1000000:=rfl;refine⟨R,τ,ρ,[.int m],Si,by show bd (aX Φ a ρ) _=_;rw[ed];rfl,λvs H1 e1 rv=>?_⟩;obtain⟨τt,fr,Uo⟩:=rv;cases Uo.ints1;refine⟨m,rfl,by left,by left,?_⟩;have rs:aB (a_ X.K H1) (nd X.K R (λ_=>False) (λ_=>none) H1) [] 0 ((List.range m.toNat).map λ(k:Nat)=>V.int (0+(k:Int))) ((List.range m.toNat).map λ(k:Nat)=>DI.D.int (k:Int)):=by
   have:=aB.ints (T:=a_ X.K H1) (N:=nd X.K R (λ_=>False) (λ_=>none) H1) ((List.range m.toNat).map λ(k:Nat)=>(k:Int)) (k:=[]) (n:=0);rw[List.map_map,List.map_map]at this;have e:((List.range m.toNat).map λ(k:Nat)=>V.int (0+(k:Int)))=(List.range m.toNat).map (V.int∘λ(k:Nat)=>(k:Int)):=Yy λk _=>by show V.int (0+(k:Int))=V.int k;rw[Int.zero_add]
   rw[e];exact this
  refine nZ (uq X F Φ Ψ n t b R H1 _) ⟨R,τ,_,Si.go e1,Kp.refl R H1,by rw[List.drop_zero];exact ef⟩ (λi σ' H' Gj h=>?_) (λσ' H' h=>tR (by simp) σ' H' h);exact pR rj rs i (.int (0+i)) σ' H' (by rw[List.getElem?_map,List.getElem?_range Gj];rfl) h
theorem jd{c:CS}(h:∀ρ,kQ Φ Ψ n c ρ->False):PS X st (jB X F (kQ Φ Ψ n c)):=λ_ _ _ _ _ _ hq=>by
 obtain⟨_,_,ρ,_,hb⟩:=hq;exact(h ρ hb).elim
theorem zD{c:CS}(h:∀ρ,kQ Φ Ψ n c ρ->PS X st (λ_ σ H=>∃R τ,SI X F R τ ρ σ H)):PS X st (jB X F (kQ Φ Ψ n c)):=λpins s σ H D I hq=>by
 obtain⟨R,τ,ρ,Si,hb⟩:=hq;exact h ρ hb pins s σ H D I ⟨R,τ,Si⟩
theorem Hc(L:HE X S k Φ Ψ C y gl)(h:mO S (.ex (.call g es)) st=true)(a:b8 Φ es ρ=ok xs)(b:Ψ g (aw aA xs)):PS X st (λ_ σ H=>∃R τ,SI X F R τ ρ σ H):=by
 obtain⟨v,v1,q1⟩:=bc h;obtain⟨pos,rfl⟩:=oD v1;obtain⟨h1,h2⟩:=az q1;exact PS.imp (DM (pQ (F:=F) L h1) (fY h1 (dA h2) _ _ _)) λD σ H hq=>by obtain⟨R,τ,Si⟩:=hq;exact⟨R,τ,ρ,Si,_,a,b⟩
theorem B9(L:HE X S k Φ Ψ C y gl)(h:mO S (.ret (.call g es)) st=true)(a:b8 Φ es ρ=ok xs)(b:Ψ g (aw aA xs)):PS X st (λ_ σ H=>∃R τ,SI X F R τ ρ σ H):=by
 obtain⟨z,v1,q1⟩:=bc h;obtain⟨pos,rfl⟩:=ur v1;obtain⟨v,v2,q2⟩:=bc q1;obtain rfl:z=some v:=v2;exact PS.imp (Hb (pQ (F:=F) L q2)) λD σ H hq=>by obtain⟨R,τ,Si⟩:=hq;exact⟨R,τ,ρ,Si,_,a,b⟩
theorem Ca(L:HE X S k Φ Ψ C y gl){i:Nat}(h:mO S (.asg (.nm i) (.call g es)) st=true)(a:b8 Φ es ρ=ok xs)(b:Ψ g (aw aA xs)):PS X st (λ_ σ H=>∃R τ,SI X F R τ ρ σ H):=by
 obtain⟨⟨Ac,v⟩,v1,q1⟩:=bc h;obtain⟨pos,rfl⟩:=jz v1;obtain⟨tg,v2,q2⟩:=bc q1;obtain rfl:Ac=[tg]:=cF v2;obtain⟨q3,h4⟩:=az q2;obtain⟨q4,h3⟩:=az q3;obtain⟨h1,h2⟩:=az q4;obtain⟨x,p,rfl⟩:∃x p,tg=.Name x p:=pW h2;have Tb:=az (show _=true from h2);have hc:fA v=false:=by
  obtain⟨⟨x,as⟩,hv,_⟩:=bc h1;obtain⟨p,pos,rfl⟩:=bS hv;rfl
 exact PS.imp (Ha L.ls.nd (by rw[L.ls.N];exact Xd Tb.1) (L.ls.loc Tb.2) (L.ls.m6 _) (pQ (F:=F) L h1) (fY h1 hc _ _ _)) λD σ H hq=>by obtain⟨R,τ,Si⟩:=hq;exact⟨R,τ,ρ,Si,_,a,b⟩
mutual
theorem V2(L:HE X S k Φ Ψ C y gl):∀(c:CS) (st:Stmt),mO S c st=true->xk gl n y c st=true->PS X st (jB X F (kQ Φ Ψ n c))
 |.ex e,st,h,_=>zD λρ hb=>by cases hb with|ex a b=>exact Hc L h a b
 |.ret e,st,h,_=>zD λρ hb=>by cases hb with|ret a b=>exact B9 L h a b
 |.asg t e,st,h,_=>zD λρ hb=>by cases hb with|asg a b=>exact Ca L h a b
 |.rs m,st,h,hk=>by
  by_cases hm:m=n
  ·subst hm;have hk:(!(m==m)||(gl&&RS y st))=true:=hk;rw[beq_self_eq_true,Bool.not_true,Bool.false_or]at hk;obtain⟨hg,hk⟩:=az hk;obtain⟨gy,dy⟩:=L.gy hg;obtain⟨e,v1,q1⟩:=bc hk;obtain⟨pos,rfl⟩:=Eb v1;obtain⟨⟨x,as⟩,v2,q2⟩:=bc q1;obtain⟨p,pos',rfl⟩:=bS v2;obtain⟨q3,q4⟩:=az q2;obtain⟨c,v3,q5⟩:=bc q4;obtain rfl:as=[c]:=cF v3;obtain⟨m',j,p',rfl⟩:=BE q5;obtain rfl:x=y:=eq_of_beq q3;exact PS.imp (yh L.ls.calm L.own gy dy) λD σ H hq=>by
    obtain⟨R,τ,ρ,Si,hb⟩:=hq;exact λpins s h' ea us I za=>L.hR pins _ H s h' ea us I Si.same za
  ·exact jd λ_ hb=>by cases hb;exact absurd rfl hm
 |.ifs c a b,st,h,hk=>by
  obtain⟨⟨t,x,z⟩,v1,q1⟩:=bc h;obtain⟨pos,rfl⟩:=oB v1;obtain⟨q2,h3⟩:=az q1;obtain⟨h1,h2⟩:=az q2;obtain⟨k1,k2⟩:=az (show(m8 gl n y a x&&m8 gl n y b z)=true from hk);refine PS.imp (qQ (pos:=pos) (dN (F:=F) L.ls.toLk c t h1).2 (wK L a x h2 k1) (wK L b z h3 k2)) λD σ H hq=>?_;obtain⟨R,τ,ρ,Si,hb⟩:=hq;cases hb with
  |BJ e1 e2=>exact⟨R,τ,ρ,true,Si,e1,λH2 es=>Kk ⟨R,τ,ρ,Si.go es,e2⟩⟩
  |iff e1 e2=>exact⟨R,τ,ρ,false,Si,e1,λH2 es=>BC ⟨R,τ,ρ,Si.go es,e2⟩⟩
 |.par _ _ _ _,st,h,_=>jd λ_ hb=>by cases hb
 |.mut _ _ _,st,h,_=>jd λ_ hb=>by cases hb
 |.app _ _,st,h,_=>jd λ_ hb=>by cases hb
 |.setI _ _ _,st,h,_=>jd λ_ hb=>by cases hb
 |.CJ _ _,st,h,_=>jd λ_ hb=>by cases hb
 |.fr t it b,st,h,hk=>by
  obtain⟨⟨tg,iter,x,z⟩,v1,q1⟩:=bc h;obtain⟨pos,rfl⟩:=uv v1;obtain⟨q2,h5⟩:=az q1;obtain⟨q3,h4⟩:=az q2;obtain⟨q4,h3⟩:=az q3;obtain⟨h1,h2⟩:=az q4;obtain rfl:z=[]:=jL h1;have hk:m8 gl n y b x=true:=hk;cases it with
  |seq a =>
   have p1:=ff (F:=F) L.ls b x h5;have p2:=wK L b x h5 hk;exact G9 L.ls h2 h3 λpins s σ H D I hq=>hq.elim (p1 pins s σ H D I) (p2 pins s σ H D I)
  |kc a =>
   have p1:=ff (F:=F) L.ls b x h5;have p2:=wK L b x h5 hk;exact B8 L.ls h2 h3 λpins s σ H D I hq=>hq.elim (p1 pins s σ H D I) (p2 pins s σ H D I)
  |jE a c=>exact jd λ_ hb=>by cases hb with|fr _ _ h=>cases h
theorem wK(L:HE X S k Φ Ψ C y gl):∀(cs:ah) (m3:aO),gI S cs m3=true->m8 gl n y cs m3=true->fJ X m3 (jB X F (Er Φ Ψ n cs))
 |[],_,_,_=>λ_ _ _ _ _ _ bK=>by obtain⟨_,_,_,_,hb⟩:=bK;cases hb
 |_::_,[],h,_=>by exact(Xe h).elim
 |c::cs,st::m3,h,hk=>by
  replace h:=az h;obtain⟨k1,k2⟩:=az (show(xk gl n y c st&&m8 gl n y cs m3)=true from hk);have hN:fJ X m3 El:=λ_ _ _ _ _ _ z=>z.elim;have h1:PS X st (oE X F Φ c):=sH (F:=F) L.ls c st h.1;have A:fJ X (st::m3) _:=bZ (V2 L c st h.1 k1) hN;have B:fJ X (st::m3) _:=bZ h1 (wK L cs m3 h.2 k2);intro pins s σ H D I hq;obtain⟨R,τ,ρ,Si,hb⟩:=hq;cases hb with
  |hd e=>exact A pins s σ H D I ⟨R,τ,ρ,Si,e⟩
  |tl e1 e2=>exact B pins s σ H D I ⟨R,τ,ρ,(.nx,_),Si,e1,λσ' H' R' τ' d8 kp=>⟨R',τ',_,d8,e2⟩⟩
end
end
theorem G_{x:Str}{fd:FuncData}{k n:Nat}{N bl:av}{cs:List (Str×GK)}{px:Px}{m6:Nat->Option Str}{Ψ:Nat->aa->Prop}{mr:aa->Prop}{b:ah}{y:Str}
  (Fu:wY K x qual st f fd) (Sc:dX N ps (ay st)) (zd:gI ⟨ay st,N,m6,bl,cs,px⟩ b (bg st)=true) (PB:m8 (fj (ay st) y&&!(y==("__debug__" : Str))) n y b (bg st)=true) (Ge:lx px Φ) (Gf:z5 px Φ)
  (pI:∀y∈bl,mg y=none) (jO:∀y i,(y,i)∈cs->∃u,mg y=some u/\uo K i u) (uY:∀g y,m6 g=some y->Ent P w K mg base k y (Φ g)) (Qi:∀g y,m6 g=some y->(∃ds,Ψ g ds)->iu P w K mg base k C y (Ψ g))
  (O:lA y C mg base) (hm:∀ds,mr ds->ds.length=ps.length/\Er Φ Ψ n b (ds.map some++List.replicate (N.length - ds.length) none)):eF P w K mg base (qj P w C) (k+1) f fd ps (Om K C ps.length mr):=by
 refine Q9 (N:=N) Fu Sc (λvs H Q E ⟨_,_,h,_⟩=>h) λeD A outer s H vs Q E hr qm=>?_;obtain⟨F,ds,hl,rs,Vl,hE⟩:=qm;obtain⟨SR,Qk⟩:=hm ds Vl
 let X:=gN (qj P w C) P w K mg base N qual (ay st) f eD A outer s H E
 have Ls:lB X ⟨ay st,N,m6,bl,cs,px⟩ k Φ:=⟨⟨rfl,rfl,Sc.nd,rfl,hr,pI,λg y h=>⟨(uY g y h).ex⟩,jO,Ge⟩,λ_=>rfl,PassesOwn.leaving,Sc.kind,Gf⟩
 have hpl:ps.length<=N.length:=by have:=XI List.length Sc.pre;rw[List.length_take]at this;left
 have Lx:HE X ⟨ay st,N,m6,bl,cs,px⟩ k Φ Ψ C y (fj (ay st) y&&!(y==("__debug__" : Str))):=⟨Ls,λpins σ H1 s1 h' ea vs I es za=>AW I za (hE H1 es),JT λH' h=>hE H' h.2,Qi,λz=>⟨Ls.gl (az z).1,by simpa using (az z).2⟩,O⟩
 exact⟨_,wK (F:=F) Lx b _ zd PB,_,_,_,qE (X:=X) rfl (by left) rs,Qk⟩
end DI
end
section
namespace DI
open PySem (Str)
section
variable {α β:Type}
@[simp]theorem de(a:α)(f:α->O β):bd (ok a) f=f a:=rfl
@[simp]theorem Ng(c:Nat)(f:α->O β):bd (some (.error c)) f=some (.error c):=rfl
noncomputable def DX(f:α->O β)(x:O α):O β:=bd x f
@[simp]theorem Rj(f:α->O β)(a:α):DX f (ok a)=f a:=rfl
@[simp]theorem Nl(f:α->O β)(c:Nat):DX f (some (.error c))=some (.error c):=rfl
end
def LP(op:CF)(x y:O D):O D:=bd x λx=>bd y λy=>cg op x y
@[simp]theorem Nf(op:CF)(x y:D):LP op (ok x) (ok y)=cg op x y:=rfl
def LK(op:xo)(x y:O D):O D:=bd x λx=>bd y λy=>ic op x y
@[simp]theorem Nb(op:xo)(x y:D):LK op (ok x) (ok y)=ic op x y:=rfl
def Sr(x y:O D):O D:=bd x λx=>bd y λy=>FX x y
@[simp]theorem Ph(x y:D):Sr (ok x) (ok y)=FX x y:=rfl
def J2(x:O D):O D:=bd (bd x gK) λb=>ok (.bl (!b))
@[simp]theorem MG(b:Bool):J2 (ok (.bl b))=ok (.bl (!b)):=rfl
@[simp]theorem IZ(b:Bool):gK (.bl b)=ok b:=rfl
def sC(x:O D):O Bool:=bd x gK
@[simp]theorem ux(b:Bool):sC (ok (.bl b))=ok b:=rfl
@[simp]theorem IY(c:Nat):sC (some (.error c))=some (.error c):=rfl
def Ss(t:Ty)(x:O D):O D:=bd x λx=>ok (.bl (cX t x))
@[simp]theorem Pp(t:Ty)(x:D):Ss t (ok x)=ok (.bl (cX t x)):=rfl
def oi(m:aD)(xs:O (aa)):O D:=bd xs λxs=>bd (m (aw aA xs)) λr=>ok (af cq r)
def Iu(x:O D):O D:=bd x λr=>ok (af cq r)
@[simp]theorem QI(r:D):Iu (ok r)=ok (af cq r):=rfl
@[simp]theorem M3(c:Nat):Iu (some (.error c))=some (.error c):=rfl
@[simp]theorem mP(m:aD)(xs:aa):oi m (ok xs)=Iu (m (aw aA xs)):=rfl
@[simp]theorem IB(m:aD)(c:Nat):oi m (some (.error c))=some (.error c):=rfl
noncomputable def vn(x:O D)(xs:O (aa)):O (aa):=bd x λx=>bd xs λxs=>ok (x::xs)
@[simp]theorem LJ(x:D)(xs:aa):vn (ok x) (ok xs)=ok (x::xs):=rfl
@[simp]theorem Iz(c:Nat)(xs:O (aa)):vn (some (.error c)) xs=some (.error c):=rfl
@[simp]theorem Hk(x:D)(c:Nat):vn (ok x) (some (.error c))=some (.error c):=rfl
noncomputable def Km(x:O Bool)(a b:O D):O D:=bd x λk=>if k then a else b
@[simp]theorem Pl(a b:O D):Km (ok true) a b=a:=rfl
@[simp]theorem Pm(a b:O D):Km (ok false) a b=b:=rfl
def Cu(x y:O D):O D:=bd (bd x gK) λc=>if c then y else ok (.bl false)
@[simp]theorem Rk(y:O D):Cu (ok (.bl true)) y=y:=rfl
@[simp]theorem Rl(y:O D):Cu (ok (.bl false)) y=ok (.bl false):=rfl
@[simp]theorem Rm(a b:Bool):Cu (ok (.bl a)) (ok (.bl b))=ok (.bl (a&&b)):=by cases a<;>rfl
def Mz(x y:O D):O D:=bd (bd x gK) λc=>if c then ok (.bl true)else y
@[simp]theorem RX(y:O D):Mz (ok (.bl true)) y=ok (.bl true):=rfl
@[simp]theorem RY(y:O D):Mz (ok (.bl false)) y=y:=rfl
@[simp]theorem RZ(a b:Bool):Mz (ok (.bl a)) (ok (.bl b))=ok (.bl (a||b)):=by cases a<;>rfl
def yT(x:O D):O D:=bd (bd x gK) λc=>ok (.bl c)
@[simp]theorem Kj(c:Bool):yT (ok (.bl c))=ok (.bl c):=rfl
@[simp]theorem Jx(d:D):qC (some (some d))=ok (af aG d):=rfl
section
variable (Φ:aV)(ρ:aU)
@[simp]theorem Tp:aX Φ .bB ρ=ok .bB:=rfl
@[simp]theorem V_(b:Bool):aX Φ (.bl b) ρ=ok (.bl b):=rfl
@[simp]theorem vm(i:Int):aX Φ (.int i) ρ=ok (.int i):=rfl
@[simp]theorem LA(i:Str):aX Φ (.str i) ρ=ok (.str i):=rfl
@[simp]theorem Ts(x:Str)(i:Int):aX Φ (.glo x i) ρ=ok (.int i):=rfl
@[simp]theorem Q0(i:Nat):aX Φ (.v i) ρ=qC ρ[i]?:=rfl
@[simp]theorem DP(op:CF)(a b:CE):aX Φ (.bin op a b) ρ=LP op (aX Φ a ρ) (aX Φ b ρ):=rfl
@[simp]theorem LD(op:xo)(a b:CE):aX Φ (.cmp op a b) ρ=LK op (aX Φ a ρ) (aX Φ b ρ):=rfl
@[simp]theorem Tq(a:CE):aX Φ (.neg a) ρ=DX Bq (aX Φ a ρ):=rfl
@[simp]theorem To(a:CE):aX Φ (.not a) ρ=J2 (aX Φ a ρ):=rfl
@[simp]theorem Tr(a:CE)(t:Ty):aX Φ (.sg a t) ρ=Ss t (aX Φ a ρ):=rfl
@[simp]theorem tV(f:Nat)(es:aC):aX Φ (.call f es) ρ=oi (Φ f) (b8 Φ es ρ):=rfl
@[simp]theorem Wa(f:Bf)(es:aC):aX Φ (.bf f es) ρ=DX (nC f) (b8 Φ es ρ):=rfl
@[simp]theorem Tn(f:Nat)(es:aC):aX Φ (.eG f es) ρ=DX (Φ f) (b8 Φ es ρ):=rfl
@[simp]theorem tU(a b:CE):aX Φ (.ix a b) ρ=Sr (aX Φ a ρ) (aX Φ b ρ):=rfl
@[simp]theorem Q2(a:CE):aX Φ (.jI a) ρ=DX uN (aX Φ a ρ):=rfl
@[simp]theorem Lz(es:aC):aX Φ (.tup es) ρ=DX (λxs=>ok (.tup xs)) (b8 Φ es ρ):=rfl
@[simp]theorem zH(es:aC):aX Φ (.lst es) ρ=DX (λxs=>ok (.lst .ow xs)) (b8 Φ es ρ):=rfl
@[simp]theorem Tt(es:aC):aX Φ (.and es) ρ=n8 Φ es ρ:=rfl
@[simp]theorem Q1(es:aC):aX Φ (.or es) ρ=wJ Φ es ρ:=rfl
@[simp]theorem Q4(e:CE):n8 Φ [e] ρ=yT (aX Φ e ρ):=rfl
@[simp]theorem Q3(e e':CE)(es:aC):n8 Φ (e::e'::es) ρ=Cu (aX Φ e ρ) (n8 Φ (e'::es) ρ):=rfl
@[simp]theorem LC(e:CE):wJ Φ [e] ρ=yT (aX Φ e ρ):=rfl
@[simp]theorem LB(e e':CE)(es:aC):wJ Φ (e::e'::es) ρ=Mz (aX Φ e ρ) (wJ Φ (e'::es) ρ):=rfl
@[simp]theorem mK:b8 Φ [] ρ=ok []:=rfl
@[simp]theorem c_(e:CE)(es:aC):b8 Φ (e::es) ρ=vn (aX Φ e ρ) (b8 Φ es ρ):=rfl
@[simp]theorem W9(e:CE):rK Φ e ρ=sC (aX Φ e ρ):=rfl
theorem Q7(e:CE):bd (aX Φ e ρ) gK=sC (aX Φ e ρ):=rfl
@[simp]theorem Q6:gE Φ [] ρ=ok true:=rfl
@[simp]theorem Q5(e:CE):gE Φ [e] ρ=sC (aX Φ e ρ):=by
 rw[gE,Q7];cases h:sC (aX Φ e ρ)with
 |none=>rfl
 |some r=>cases r with
  |error c=>rfl
  |ok b=>cases b<;>simp[gE,bd,ok]
end
def lj(is:aR):Nat->aU->aU
 |_,[]=>[]
 |n,d::ρ=>(if n∈is then d.map (af aA)else d)::lj is (n+1) ρ
theorem DJ(is:aR):∀(ρ:aU) (n:Nat),ρ.mapIdx (λi d=>if i+n∈is then d.map (af aA)else d)=lj is n ρ
 |[],_=>rfl
 |d::ρ,n=>by
  rw[List.mapIdx_cons,lj,<- DJ is ρ (n+1)];simp only[Nat.zero_add,Nat.add_assoc,Nat.add_comm 1 n]
theorem tN(is:aR)(ρ:aU):iE is ρ=lj is 0 ρ:=by rw[<- DJ];rfl
@[simp]theorem Lm(is:aR)(n:Nat):lj is n []=[]:=rfl
@[simp]theorem Iv(is:aR)(n:Nat)(d:aM)(ρ:aU):lj is n (d::ρ)=(if n∈is then d.map (af aA)else d)::lj is (n+1) ρ:=rfl
def bI(e:CE)(ρ:aU)(x:O D):O (D×aU):=bd x λd=>ok (keep e d ρ)
variable {ρ ρ1:aU}
@[simp]theorem eP{e:CE}{d:D}(h:aW bG d=false):bI e ρ (ok d)=ok (d,ρ):=by
 show ok (keep e d ρ)=_;rw[keep,h];rfl
@[simp]theorem jK{e:CE}{d:D}(h:aW bG d=true):bI e ρ (ok d)=ok (af aA d,lj (gb e) 0 ρ):=by
 show ok (keep e d ρ)=_;rw[keep,h,<- tN];rfl
@[simp]theorem H_(e:CE)(ρ:aU)(c:Nat):bI e ρ (some (.error c))=some (.error c):=rfl
def yL(i:Nat)(ρ:aU)(o:Option (aM)):O (D×aU):=match o with
 |some (some d)=>if aW eA d then ok (d,ρ.set i none)else ok (d,ρ)
 |_=>none
@[simp]theorem J7{i:Nat}{d:D}(h:aW eA d=true):yL i ρ (some (some d))=ok (d,ρ.set i none):=Xy h
@[simp]theorem J8{i:Nat}{d:D}(h:aW eA d=false):yL i ρ (some (some d))=ok (d,ρ):=XQ (by rw[h];exact Xe)
@[simp]theorem WT(Φ:aV)(i:Nat)(ρ:aU):eY Φ (.v i) ρ=yL i ρ ρ[i]?:=rfl
noncomputable def UW:CE->Bool
 |.v _=>true
 |_=>false
@[simp]theorem Sl(Φ:aV)(ρ:aU)(op:CF)(a b:CE):eY Φ (.bin op a b) ρ=bI (.bin op a b) ρ (aX Φ (.bin op a b) ρ):=rfl
@[simp]theorem Sk(Φ:aV)(ρ:aU)(op:xo)(a b:CE):eY Φ (.cmp op a b) ρ=bI (.cmp op a b) ρ (aX Φ (.cmp op a b) ρ):=rfl
@[simp]theorem Pg(Φ:aV)(ρ:aU)(f:Nat)(es:aC):eY Φ (.call f es) ρ=bI (.call f es) ρ (aX Φ (.call f es) ρ):=rfl
@[simp]theorem US(Φ:aV)(ρ:aU)(f:Bf)(es:aC):eY Φ (.bf f es) ρ=bI (.bf f es) ρ (aX Φ (.bf f es) ρ):=rfl
@[simp]theorem Sd(Φ:aV)(ρ:aU)(f:Nat)(es:aC):eY Φ (.eG f es) ρ=bI (.eG f es) ρ (aX Φ (.eG f es) ρ):=rfl
@[simp]theorem Pe(Φ:aV)(ρ:aU)(a b:CE):eY Φ (.ix a b) ρ=bI (.ix a b) ρ (aX Φ (.ix a b) ρ):=rfl
@[simp]theorem Sa(Φ:aV)(ρ:aU)(es:aC):eY Φ (.tup es) ρ=bI (.tup es) ρ (aX Φ (.tup es) ρ):=rfl
@[simp]theorem Sh(Φ:aV)(ρ:aU)(es:aC):eY Φ (.lst es) ρ=bI (.lst es) ρ (aX Φ (.lst es) ρ):=rfl
@[simp]theorem DB(Φ:aV)(ρ:aU)(i:Int):eY Φ (.int i) ρ=bI (.int i) ρ (aX Φ (.int i) ρ):=rfl
@[simp]theorem UR(Φ:aV)(ρ:aU)(i:Bool):eY Φ (.bl i) ρ=bI (.bl i) ρ (aX Φ (.bl i) ρ):=rfl
@[simp]theorem Sf(Φ:aV)(ρ:aU): eY Φ (.bB) ρ=bI (.bB) ρ (aX Φ (.bB) ρ):=rfl
@[simp]theorem Sg(Φ:aV)(ρ:aU)(a:CE):eY Φ (.neg a) ρ=bI (.neg a) ρ (aX Φ (.neg a) ρ):=rfl
@[simp]theorem Se(Φ:aV)(ρ:aU)(a:CE):eY Φ (.not a) ρ=bI (.not a) ρ (aX Φ (.not a) ρ):=rfl
@[simp]theorem Sn(Φ:aV)(ρ:aU)(es:aC):eY Φ (.and es) ρ=bI (.and es) ρ (aX Φ (.and es) ρ):=rfl
@[simp]theorem UQ(Φ:aV)(ρ:aU)(es:aC):eY Φ (.or es) ρ=bI (.or es) ρ (aX Φ (.or es) ρ):=rfl
@[simp]theorem Pf(Φ:aV)(ρ:aU)(n:Nat)(t:Tg)(caps:aR)(ik:IK)(es bF:aC)(elt:CE):eY Φ (.comp n t caps ik es bF elt) ρ=bI (.comp n t caps ik es bF elt) ρ (aX Φ (.comp n t caps ik es bF elt) ρ):=rfl
@[simp]theorem Sb(Φ:aV)(ρ:aU)(s:Str):eY Φ (.str s) ρ=bI (.str s) ρ (aX Φ (.str s) ρ):=rfl
@[simp]theorem Sj(Φ:aV)(ρ:aU)(a:CE)(t:Ty):eY Φ (.sg a t) ρ=bI (.sg a t) ρ (aX Φ (.sg a t) ρ):=rfl
@[simp]theorem Pd(Φ:aV)(ρ:aU)(a:CE):eY Φ (.jI a) ρ=bI (.jI a) ρ (aX Φ (.jI a) ρ):=rfl
theorem FT(Φ:aV)(e:CE)(ρ:aU)(h:UW e=false):eY Φ e ρ=bI e ρ (aX Φ e ρ):=by cases e<;>first|rfl|cases h
@[simp]theorem HQ(ρ:aU):fO [] [] ρ=ok ρ:=rfl
variable {ds xs:aa}{is:aR}
@[simp]theorem EC{i:Nat}{d:D}(h:i<ρ.length):fO (i::is) (d::ds) ρ=fO is ds (ρ.set i (some d)):=Xy h
@[simp]theorem Mn{i:Nat}{d:D}(h:i<ρ.length):cE (.nm i) d ρ=ok (ρ.set i (some d)):=Xy h
@[simp]theorem Mm(h:aS eA ds=false):cE (.tp is) (.tup ds) ρ=fO is ds ρ:=XQ (by rw[h];exact Xe)
def Hw(i:Nat)(r:O (D×aU)):O (Fo×aU):=bd r λr=>bd (cE (.nm i) r.1 r.2) λρ'=>ok (.nx,ρ')
@[simp]theorem vA{i:Nat}{d:D}(h:i<ρ.length):Hw i (ok (d,ρ))=ok (.nx,ρ.set i (some d)):=by
 show bd (cE (.nm i) d ρ) _=_;rw[cE,if_pos h];rfl
@[simp]theorem LU(i:Nat)(c:Nat):Hw i (some (.error c))=some (.error c):=rfl
def LS(is:aR)(r:O (D×aU)):O (Fo×aU):=bd r λr=>bd (cE (.tp is) r.1 r.2) λρ'=>ok (.nx,ρ')
@[simp]theorem Nj(h:aS eA ds=false):LS is (ok (.tup ds,ρ))=bd (fO is ds ρ) λρ'=>ok (.nx,ρ'):=by
 show bd (cE (.tp is) (.tup ds) ρ) _=_;rw[cE,h];rfl
noncomputable def retS(r:O (D×aU)):O (Fo×aU):=bd r λr=>ok (.rt r.1,r.2)
@[simp]theorem Mp(d:D)(ρ:aU):retS (ok (d,ρ))=ok (.rt d,ρ):=rfl
@[simp]theorem JG(c:Nat):retS (some (.error c))=some (.error c):=rfl
noncomputable def QR(ρ:aU)(x:O D):O (Fo×aU):=bd x λ_=>ok (.nx,ρ)
@[simp]theorem QQ(ρ:aU)(d:D):QR ρ (ok d)=ok (.nx,ρ):=rfl
@[simp]theorem M7(ρ:aU)(c:Nat):QR ρ (some (.error c))=some (.error c):=rfl
noncomputable def lY(Φ:aV)(ss:ah)(r:O (Fo×aU)):O (Fo×aU):=bd r λr=>match r with
 | (.nx,ρ')=>bE Φ ss ρ'
 |r=>ok r
@[simp]theorem gR(Φ:aV)(ss:ah)(ρ:aU):lY Φ ss (ok (.nx,ρ))=bE Φ ss ρ:=rfl
@[simp]theorem I0(Φ:aV)(ss:ah)(d:D)(ρ:aU):lY Φ ss (ok (.rt d,ρ))=ok (.rt d,ρ):=rfl
@[simp]theorem HM(Φ:aV)(ss:ah)(c:Nat):lY Φ ss (some (.error c))=some (.error c):=rfl
noncomputable def BB(Φ:aV)(a b:ah)(ρ:aU)(x:O Bool):O (Fo×aU):=bd x λk=>if k then bE Φ a ρ else bE Φ b ρ
@[simp]theorem yW(Φ:aV)(a b:ah)(ρ:aU):BB Φ a b ρ (ok true)=bE Φ a ρ:=rfl
@[simp]theorem Pk(Φ:aV)(a b:ah)(ρ:aU):BB Φ a b ρ (ok false)=bE Φ b ρ:=rfl
@[simp]theorem Kl(Φ:aV)(a b:ah)(ρ:aU)(c:Nat):BB Φ a b ρ (some (.error c))=some (.error c):=rfl
def LV(i:Nat)(r:O (D×aU)):O (Fo×aU):=bd r λr=>match sU r.2[i]? with
  |some ds=>if ds.length<cY then ok (.nx,r.2.set i (some (.lst .ow (ds++[r.1]))))else none
  |none=>none
@[simp]theorem Nk{i:Nat}{d:D}(h:ρ[i]?=some (some (.lst .ow ds)))(hl:ds.length<cY):LV i (ok (d,ρ))=ok (.nx,ρ.set i (some (.lst .ow (ds++[d])))):=by
 show(match sU ρ[i]? with|some ds=>_|none=>_)=_;rw[h];exact Xy hl
section
variable (Φ:aV)(ρ:aU)
@[simp]theorem CH:bE Φ [] ρ=ok (.nx,ρ):=rfl
@[simp]theorem c0(s:CS)(ss:ah):bE Φ (s::ss) ρ=lY Φ ss (gM Φ s ρ):=rfl
@[simp]theorem qt(i:Nat)(e:CE):gM Φ (.asg (.nm i) e) ρ=Hw i (eY Φ e ρ):=rfl
@[simp]theorem NF(is:aR)(e:CE):gM Φ (.asg (.tp is) e) ρ=LS is (eY Φ e ρ):=rfl
@[simp]theorem CG(e:CE):gM Φ (.ret e) ρ=retS (eY Φ e ρ):=rfl
theorem nE(c:CE)(b:ah):gM Φ (.CJ c b) ρ=eJ (λρ=>bd (rK Φ c ρ) λk=>if k then bd (bE Φ b ρ) λr=>match r with
   | (.nx,ρ')=>ok (.inl ρ')
   | (.rt d,ρ')=>ok (.inr (.rt d,ρ'))
  else ok (.inr (.nx,ρ))) ρ:=rfl
theorem II(i j:Nat)(a b:CE):gM Φ (.par i j a b) ρ=bd (aX Φ a ρ) λx=>bd (aX Φ b ρ) λy=>if aW anyF x=false/\aW anyF y=false/\i<ρ.length/\j<ρ.length then ok (.nx,(ρ.set i (some x)).set j (some y))else none:=rfl
@[simp]theorem TN(c:Nat):gM Φ (.rs c) ρ=some (.error c):=rfl
@[simp]theorem TQ(e:CE):gM Φ (.ex e) ρ=QR ρ (aX Φ e ρ):=rfl
@[simp]theorem sk(c:CE)(a b:ah):gM Φ (.ifs c a b) ρ=BB Φ a b ρ (sC (aX Φ c ρ)):=rfl
@[simp]theorem RE(i:Nat)(e:CE):gM Φ (.app i e) ρ=LV i (eY Φ e ρ):=rfl
end
noncomputable def mk(Φ:aV)(ar n:Nat)(b:ah):aD:=λds=>if ds.length=ar then oR Φ n b ds else none
noncomputable def lq(r:O (Fo×aU)):O D:=bd r λr=>match r.1 with
 |.nx=>ok .bB
 |.rt d=>ok d
@[simp]theorem M_(ρ:aU):lq (ok (.nx,ρ))=ok .bB:=rfl
@[simp]theorem M9(d:D)(ρ:aU):lq (ok (.rt d,ρ))=ok d:=rfl
@[simp]theorem Ly(c:Nat):lq (some (.error c))=some (.error c):=rfl
variable {ar:Nat}{Φ:aV}
theorem mk_eq{n:Nat}{b:ah}(h:ds.length=ar):mk Φ ar n b ds=lq (bE Φ b (ds.map some++List.replicate (n - ds.length) none)):=Xy h
theorem td{n:Nat}{b:ah}(ds:aa)(r:D)(h:mk Φ ar n b ds=ok r):ds.length=ar/\oR Φ n b ds=ok r:=by
 unfold mk at h;split at h
 ·rename_i hl;exact⟨hl,h⟩
 ·cases h
theorem Int.beq_eq_decide_eq(i j:Int):(i==j)=decide (i=j):=rfl
section
variable (g:Fl->Fl)(p:Fl->Bool)
@[simp]theorem Bt(b:Bool):af g (.bl b)=.bl b:=rfl
@[simp]theorem yN(b:Int):af g (.int b)=.int b:=rfl
@[simp]theorem Kb:af g .bB=.bB:=rfl
@[simp]theorem Ka(s:Str):af g (.str s)=.str s:=rfl
@[simp]theorem yM(ds:aa):af g (.tup ds)=.tup (aw g ds):=rfl
@[simp]theorem Kc(f:Fl)(ds:aa):af g (.lst f ds)=.lst (g f) (aw g ds):=rfl
@[simp]theorem Kd(f:Fl)(ks:cj)(vs:aa):af g (.gr f ks vs)=.gr (g f) ks (aw g vs):=rfl
@[simp]theorem HX:aw g []=[]:=rfl
@[simp]theorem FF(d:D)(ds:aa):aw g (d::ds)=af g d::aw g ds:=rfl
@[simp]theorem HZ(a b:aa):aw g (a++b)=aw g a++aw g b:=by simp only[aE,List.map_append]
@[simp]theorem HY(ds:aa):(aw g ds).length=ds.length:=by rw[aE,List.length_map]
theorem kn{α:Type}{e:α->D}(h:∀x,af g (e x)=e x)(xs:List α):aw g (xs.map e)=xs.map e:=by
 rw[aE,List.map_map];exact Yy λx _=>h x
theorem iD{α:Type}{e:α->D}(h:∀x,aW p (e x)=false):∀xs:List α,aS p (xs.map e)=false
 |[]=>by rw[List.map_nil,aS]
 |x::xs=>by rw[List.map_cons,aS,h x,iD h xs];rfl
@[simp]theorem BS(b:Bool):aW p (.bl b)=false:=Yf rfl
@[simp]theorem mq(b:Int):aW p (.int b)=false:=Yf rfl
@[simp]theorem Le:aW p .bB=false:=Yf rfl
@[simp]theorem Ld(s:Str):aW p (.str s)=false:=Yf rfl
@[simp]theorem ze(ds:aa):aW p (.tup ds)=aS p ds:=Yf rfl
@[simp]theorem zf(f:Fl)(ds:aa):aW p (.lst f ds)=(p f||aS p ds):=Yf rfl
@[simp]theorem Lf(f:Fl)(ks:cj)(vs:aa):aW p (.gr f ks vs)=(p f||aS p vs):=Yf rfl
@[simp]theorem Iq:aS p []=false:=Yf rfl
@[simp]theorem Gq(d:D)(ds:aa):aS p (d::ds)=(aW p d||aS p ds):=Yf rfl
@[simp]theorem wD:∀a b:aa,aS p (a++b)=(aS p a||aS p b)
 |[],b=>by simp
 |d::a,b=>by simp[wD a b,Bool.or_assoc]
@[simp]theorem tj(ns:ai):aw g (ns.map D.int)=ns.map D.int:=kn g (yN g) ns
@[simp]theorem tJ(ns:ai):aS p (ns.map D.int)=false:=iD p (mq p) ns
@[simp]theorem wj(ns:List Bool):aw g (ns.map D.bl)=ns.map D.bl:=kn g (Bt g) ns
@[simp]theorem wC(ns:List Bool):aS p (ns.map D.bl)=false:=iD p (BS p) ns
@[simp]theorem Ia(t:Ty)(d:D):cX t (af g d)=cX t d:=by cases d<;>cases t<;>rfl
end
@[simp]theorem GO:aG .ow=.al:=rfl
@[simp]theorem GP:aG .fz=.fz:=rfl
@[simp]theorem GQ:aG .al=.al:=rfl
@[simp]theorem GN:aG .sc=.sc:=rfl
@[simp]theorem GI:aA .ow=.fz:=rfl
@[simp]theorem GJ:aA .fz=.fz:=rfl
@[simp]theorem GL:aA .al=.fz:=rfl
@[simp]theorem GH:aA .sc=.sc:=rfl
@[simp]theorem G5:cq .ow=.ow:=rfl
@[simp]theorem G6:cq .fz=.al:=rfl
@[simp]theorem G7:cq .al=.al:=rfl
@[simp]theorem G4:cq .sc=.sc:=rfl
@[simp]theorem G0:bG .ow=false:=rfl
@[simp]theorem G1:bG .fz=false:=rfl
@[simp]theorem G3:bG .al=true:=rfl
@[simp]theorem GZ:bG .sc=false:=rfl
@[simp]theorem GW:eA .ow=true:=rfl
@[simp]theorem GX:eA .fz=false:=rfl
@[simp]theorem GY:eA .al=false:=rfl
@[simp]theorem GV:eA .sc=false:=rfl
@[simp]theorem GR:ja .ow=false:=rfl
@[simp]theorem GS:ja .fz=false:=rfl
@[simp]theorem GU:ja .al=false:=rfl
noncomputable def ao(ns:ai):aa:=ns.map D.int
noncomputable def p_(ns:List Bool):aa:=ns.map D.bl
@[simp]theorem Ie(ns:ai):(ao ns).length=ns.length:=YI ..
@[simp]theorem LO(ns:List Bool):(p_ ns).length=ns.length:=YI ..
@[simp]theorem Ic:ao []=[]:=rfl
@[simp]theorem F8(n:Int)(ns:ai):ao (n::ns)=.int n::ao ns:=rfl
@[simp]theorem F7(ns:ai)(n:Int):ao ns++[.int n]=ao (ns++[n]):=by simp[ao]
@[simp]theorem nU(ns:ai)(i:Nat):(ao ns)[i]?=ns[i]?.map D.int:=List.getElem?_map ..
@[simp]theorem fi(g:Fl->Fl)(ns:ai):aw g (ao ns)=ao ns:=tj g ns
@[simp]theorem DG(p:Fl->Bool)(ns:ai):aS p (ao ns)=false:=tJ p ns
@[simp]theorem FG(g:Fl->Fl)(ns:List Bool):aw g (p_ ns)=p_ ns:=wj g ns
@[simp]theorem Gr(p:Fl->Bool)(ns:List Bool):aS p (p_ ns)=false:=wC p ns
@[simp]theorem Tv(i j:Int):cg .add (.int i) (.int j)=ok (.int (i+j)):=rfl
@[simp]theorem Tu(i j:Int):cg .sub (.int i) (.int j)=ok (.int (i - j)):=rfl
theorem iQ{i j:Int}(h:g_ i j=true):cg .mul (.int i) (.int j)=ok (.int (i*j)):=Xy h
theorem kD{i j:Int}(h:n9 j=true):cg .fdiv (.int i) (.int j)=ok (.int (i.fdiv j)):=Xy h
@[simp]theorem DV{i j:Int}(h:j≠0):cg .mod (.int i) (.int j)=ok (.int (i.fmod j)):=Xy h
theorem LQ{i j:Int}(h:jH i j=true):cg .shl (.int i) (.int j)=ok (.int (i*2 ^ j.toNat)):=Xy h
theorem DU{i j:Int}(h:jH i j=true):cg .pow (.int i) (.int j)=ok (.int (i ^ j.toNat)):=Xy h
@[simp]theorem R7(i:Int):Bq (.int i)=ok (.int (-i)):=rfl
theorem mulOk_of{i j:Int}(h:i.natAbs<2 ^ 9000)(h':j.natAbs<2 ^ 9000):g_ i j=true:=by
 simp only[g_,big,h,h',decide_true,Bool.and_self,Bool.or_true]
theorem pq{n:Nat}(h:n<2 ^ 64):n<2 ^ 9000:=Xl h (XA (by decide) (by decide))
theorem pd{i:Int}(j:Int)(h:i.natAbs<2 ^ 64):g_ i j=true:=by simp only[g_,h,decide_true,Bool.true_or]
theorem Bs{j:Int}(i:Int)(h:j.natAbs<2 ^ 64):g_ i j=true:=by simp only[g_,h,decide_true,Bool.true_or,Bool.or_true]
theorem fW{j:Int}(h0:j≠0)(h:j.natAbs<2 ^ 9000):n9 j=true:=by
 simp only[n9,big,h,decide_true,Bool.and_true,decide_eq_true_eq];exact h0
@[simp]theorem Nh{i j:Int}(h:j.natAbs<2 ^ 64):cg .mul (.int i) (.int j)=ok (.int (i*j)):=iQ (Bs i h)
@[simp]theorem Ni{i j:Int}(h:i.natAbs<2 ^ 64):cg .mul (.int i) (.int j)=ok (.int (i*j)):=iQ (pd j h)
@[simp]theorem LR{i j:Int}(h0:j≠0)(h:j.natAbs<2 ^ 64):cg .fdiv (.int i) (.int j)=ok (.int (i.fdiv j)):=kD (fW h0 (pq h))
theorem LM{a b:D}(ha:bR 40 a=true)(hb:bR 40 b=true):ic .eq a b=ok (.bl (eZ a b)):=by
 show(if bR 40 a&&bR 40 b then _ else _)=_;rw[ha,hb];rfl
theorem Rf{a b:D}(ha:bR 40 a=true)(hb:bR 40 b=true):ic .ne a b=ok (.bl (!eZ a b)):=by
 show(if bR 40 a&&bR 40 b then _ else _)=_;rw[ha,hb];rfl
@[simp]theorem gj(n:Nat)(i:Int):bR n (.int i)=true:=by cases n<;>rfl
@[simp]theorem OY(n:Nat)(i:Bool):bR n (.bl i)=true:=by cases n<;>rfl
@[simp]theorem MD(n:Nat):bR n .bB=true:=by cases n<;>rfl
@[simp]theorem MC(n:Nat)(i:Str):bR n (.str i)=true:=by cases n<;>rfl
@[simp]theorem Bn(n:Nat)(ds:aa):bR (n+1) (.tup ds)=ds.all (bR n):=rfl
@[simp]theorem MB(n:Nat)(f:Fl)(ds:aa):bR (n+1) (.lst f ds)=ds.all (bR n):=rfl
@[simp]theorem OJ(i j:Int):ic .eq (.int i) (.int j)=ok (.bl (decide (i=j))):=by rw[LM (gj _ _) (gj _ _)];show ok (D.bl (i==j))=_;rw[Int.beq_eq_decide_eq]
@[simp]theorem OI(i j:Int):ic .ne (.int i) (.int j)=ok (.bl (!decide (i=j))):=by rw[Rf (gj _ _) (gj _ _)];show ok (D.bl (!(i==j)))=_;rw[Int.beq_eq_decide_eq]
@[simp]theorem Us(i j:Int):ic .lt (.int i) (.int j)=ok (.bl (decide (i<j))):=rfl
@[simp]theorem Ut(i j:Int):ic .le (.int i) (.int j)=ok (.bl (decide (i<=j))):=rfl
@[simp]theorem Uu(i j:Int):ic .gt (.int i) (.int j)=ok (.bl (decide (j<i))):=rfl
@[simp]theorem Uv(i j:Int):ic .ge (.int i) (.int j)=ok (.bl (decide (j<=i))):=rfl
@[simp]theorem Sw(ds:aa)(i:Int):FX (.tup ds) (.int i)=m7 ds i:=rfl
@[simp]theorem Sy(f:Fl)(ds:aa)(i:Int):FX (.lst f ds) (.int i)=m7 ds i:=rfl
theorem qc{n:Nat}{d:D}(h:ds[n]?=some d):m7 ds (n:Int)=ok (af aG d):=by
 have hn:n<ds.length:=(List.getElem?_eq_some_iff.mp h).1;have e:pB ds.length (n:Int)=some n:=by unfold pB;rw[if_pos (by left),if_pos (by left)];rfl
 unfold m7;rw[e,Option.bind_some,h]
theorem at_of{i:Int}{d:D}(h0:0<=i)(h:ds[i.toNat]?=some d):m7 ds i=ok (af aG d):=by
 have:=qc h
 rwa [show((i.toNat:Nat):Int)=i by left]at this
@[simp]theorem Wt(d:D)(ds:aa):m7 (d::ds) 0=ok (af aG d):=qc (n:=0) rfl
@[simp]theorem Ws(a d:D)(ds:aa):m7 (a::d::ds) 1=ok (af aG d):=qc (n:=1) rfl
@[simp]theorem Wr(a b d:D)(ds:aa):m7 (a::b::d::ds) 2=ok (af aG d):=qc (n:=2) rfl
@[simp]theorem M5(ds:aa):nC .len [.tup ds]=ok (.int ds.length):=rfl
@[simp]theorem M6(f:Fl)(ds:aa):nC .len [.lst f ds]=ok (.int ds.length):=rfl
@[simp]theorem Ti(i:Int):nC .abs [.int i]=ok (.int i.natAbs):=by
 show ok (D.int (if i<0 then -i else i))=_;congr 2;split<;>left
@[simp]theorem Lr(f:Fl)(ds:aa):nC .list1 [.lst f ds]=ok (.lst .ow (aw aG ds)):=rfl
@[simp]theorem Lq(ds:aa):nC .list1 [.tup ds]=ok (.lst .ow (aw aG ds)):=rfl
@[simp]theorem M4(f:Fl)(ds:aa):nC .tuple1 [.lst f ds]=ok (.tup (aw aG ds)):=rfl
@[simp]theorem Tf(f:Fl)(ns:ai):nC .sG [.lst f (ao ns)]=ok (.int ns.sum):=by
 show(match intsOf (ns.map D.int)with|some ns=>_|none=>_)=_;rw[eQ]
@[simp]theorem Th(f:Fl)(bs:List Bool):nC .all1 [.lst f (p_ bs)]=ok (.bl (bs.all id)):=by
 show(match iP (bs.map D.bl)with|some ns=>_|none=>_)=_;rw[oj]
variable {ns:ai}
@[simp]theorem B6(h:ns.length<64):nC .gg [.tup (ao ns)]=ok (.lst .ow (ao (sortI ns))):=by
 show qB _=_;unfold qB ao;rw[eQ];exact Xy h
@[simp]theorem G8(h:ns.length<4000):uN (.tup (ao ns))=ok (.int (kA ns).length):=by
 show(match intsOf (ns.map D.int)with|some ns=>_|none=>_)=_;rw[eQ];exact Xy h
@[simp]theorem Cd(i j:Int):eZ (.int i) (.int j)=decide (i=j):=by show(i==j)=_;rw[Int.beq_eq_decide_eq]
@[simp]theorem QW(i j:Bool):eZ (.bl i) (.bl j)=(i==j):=rfl
@[simp]theorem M8(a b:aa):eZ (.tup a) (.tup b)=dq a b:=rfl
@[simp]theorem Cc(f g:Fl)(a b:aa):eZ (.lst f a) (.lst g b)=dq a b:=rfl
@[simp]theorem Lw:dq [] []=true:=rfl
@[simp]theorem wM(a b:D)(as bs:aa):dq (a::as) (b::bs)=(eZ a b&&dq as bs):=rfl
theorem mG:∀{as bs:aa},dq as bs=true->as.length=bs.length
 |[],[],_=>rfl
 |[],_::_,h=>(Xe h).elim
 |_::_,[],h=>(Xe h).elim
 |a::as,b::bs,h=>by
  replace h:(_&&_)=true:=h;rw[Bool.and_eq_true]at h;rw[List.length_cons,List.length_cons,mG h.2]
theorem rN{α:Type}{e:α->D}[DecidableEq α](h:∀x y,eZ (e x) (e y)=decide (x=y)):∀xs ys:List α,dq (xs.map e) (ys.map e)=decide (xs=ys)
 |[],[]=>by simp
 |[],y::ys=>by
  cases z:dq ([].map e) ((y::ys).map e)with
  |true=>have:=mG z;simp at this
  |false=>simp
 |x::xs,[]=>by
  cases z:dq ((x::xs).map e) ([].map e)with
  |true=>have:=mG z;simp at this
  |false=>simp
 |x::xs,y::ys=>by
  rw[List.map_cons,List.map_cons,wM,h,rN h xs ys];by_cases e1:x=y<;>by_cases e2:xs=ys<;>simp[e1,e2]
theorem uK{α:Type}{e:α->D}{n:Nat}(h:∀x,bR n (e x)=true)(xs:List α):(xs.map e).all (bR n)=true:=by
 rw[List.all_map];exact List.all_eq_true.mpr λx _=>h x
theorem cH{bind:D->O aU}{test:aU->O Bool}{el:aU->O D}{α:Type}{e:α->D}{g:α->D}:∀{xs:List α},(∀x∈xs,∃ρ,bind (e x)=ok ρ/\test ρ=ok true/\el ρ=ok (g x))->gF bind test el (xs.map e)=ok (xs.map g)
 |[],_=>rfl
 |x::xs,h=>by
  obtain⟨ρ,h1,h2,h3⟩:=h x (Xn ..);have ih:=cH (xs:=xs) λy hy=>h y (Xm _ hy);rw[List.map_cons,gF,h1,de,h2,de,if_pos rfl,h3,de,ih];rfl
theorem kM{bind:D->O aU}{test:aU->O Bool}{el:aU->O D}{α:Type}{e:α->D}{g:α->D}{t:α->Bool}:∀{xs:List α},(∀x∈xs,∃ρ,bind (e x)=ok ρ/\test ρ=ok (t x)/\(t x=true->el ρ=ok (g x)))->gF bind test el (xs.map e)=ok ((xs.filter t).map g)
 |[],_=>rfl
 |x::xs,h=>by
  obtain⟨ρ,h1,h2,h3⟩:=h x (Xn ..);have ih:=kM (xs:=xs) λy hy=>h y (Xm _ hy);rw[List.map_cons,gF,h1,de,h2,de,List.filter_cons];cases ht:t x with
  |true=>rw[if_pos rfl,h3 ht,de,ih,if_pos rfl];rfl
  |false=>rw[if_neg Bool.false_ne_true,ih,if_neg Bool.false_ne_true]
section
variable {Φ:aV}{n:Nat}{t:Tg}{caps:aR}{ik:IK}{es bF:aC}{elt:CE}{ρ:aU}{xs items ds:aa}
theorem eh(h1:b8 Φ es ρ=ok xs)(h2:dB Φ ik xs=ok items)
  (h3:gF (λd=>cE t d (bN n caps ρ)) (λρ'=>gE Φ bF ρ') (λρ'=>aX Φ elt ρ') items=ok ds) (hl:ds.length<=cY):aX Φ (.comp n t caps ik es bF elt) ρ=ok (.lst .ow (aw cq ds)):=by
 show bd (b8 Φ es ρ) _=_;rw[h1,de,h2,de,h3,de,if_pos hl]
end
theorem lG(Φ:aV)(ds:aa):dB Φ .seq [.tup ds]=ok (aw aA ds):=rfl
theorem uT(Φ:aV)(f:Fl)(ds:aa):dB Φ .seq [.lst f ds]=ok (aw aA ds):=rfl
theorem pC(Φ:aV){n:Int}(h0:0<=n)(h:n<=1000000):dB Φ .kc [.int n]=ok ((List.range n.toNat).map λ(k:Nat)=>D.int (k:Int)):=by
 show(if n<=(cY:Int) /\ -(cY:Int)<=n then _ else _)=_;have:(cY:Int)=1000000:=rfl;rw[if_pos (by left)]
theorem cc{n:Nat}(h:n<=1000000):n<=cY:=h
theorem nF{t:Tg}{it:CI}{b:ah}{items:aa}{r:O (Fo×aU)}(h:dQ Φ it ρ=ok (items,ρ1))(h':fT (λd ρ=>cE t d ρ) (λρ=>bE Φ b ρ) items ρ1=r):gM Φ (.fr t it b) ρ=r:=by
 show bd (dQ Φ it ρ) _=_;rw[h];exact h'
theorem kz{bind:D->aU->O aU}{body:aU->O (Fo×aU)}{x:D}{ρ2:aU}{r:O (Fo×aU)}(h1:bind x ρ=ok ρ1)(h2:body ρ1=ok (.nx,ρ2))(h3:fT bind body xs ρ2=r):fT bind body (x::xs) ρ=r:=by
 rw[fT,h1,de,h2];exact h3
theorem Pn{a:CE}{n:Int}(h:aX Φ a ρ=ok (.int n))(h0:0<=n)(h1:n<=1000000):dQ Φ (.kc a) ρ=ok ((List.range n.toNat).map λ(k:Nat)=>D.int (k:Int),ρ):=by
 show bd (aX Φ a ρ) _=_;rw[h];show(if n<=(cY:Int) /\ -(cY:Int)<=n then _ else _)=_;have:(cY:Int)=1000000:=rfl;rw[if_pos (by left)]
theorem FZ{a:CE}(h:aX Φ a ρ=ok (.tup ds)):dQ Φ (.seq a) ρ=ok (aw aA ds,if aS bG ds then lj (gb a) 0 ρ else ρ):=by
 show bd (aX Φ a ρ) _=_;rw[h,<- tN];show ok (_,if aW bG (.tup ds)then _ else _)=_;rw[ze]
theorem Po{a:CE}{f:Fl}(h:aX Φ a ρ=ok (.lst f ds)):dQ Φ (.seq a) ρ=ok (aw aA ds,if (bG f||aS bG ds)then lj (gb a) 0 ρ else ρ):=by
 show bd (aX Φ a ρ) _=_;rw[h,<- tN];show ok (_,if aW bG (.lst f ds)then _ else _)=_;rw[zf]
noncomputable def e_(t b:Int):Int:=if b<0 then -(Int.gcd t b:Int)else(Int.gcd t b:Int)
def Fw(t b:Int):Int:=t.fdiv (e_ t b)
def Fx(t b:Int):Int:=b.fdiv (e_ t b)
theorem u_{t b:Int}(h:b≠0):0<Int.gcd t b:=Int.gcd_pos_of_ne_zero_right t h
theorem jg{t b:Int}(h:b≠0):e_ t b≠0:=by
 have:=u_ (t:=t) h;unfold e_;split<;>left
theorem GC{t b:Int}(h:b≠0):Int.gcd t b<=b.natAbs:=Nat.le_of_dvd (by left) (Nat.gcd_dvd_right _ _)
theorem Ce{t b:Int}(h:b≠0):(e_ t b).natAbs<=b.natAbs:=by
 have:=GC (t:=t) h;unfold e_;split<;>left
theorem qW{t b:Int}(h:b≠0):∃t' b':Int,t=e_ t b*t'/\b=e_ t b*b'/\Fw t b=t'/\Fx t b=b'/\1<=b'/\Int.gcd t' b'=1:=by
 have hg:=u_ (t:=t) h;obtain⟨t1,ht⟩:(Int.gcd t b:Int)∣t:=Int.gcd_dvd_left ..;obtain⟨b1,hb⟩:(Int.gcd t b:Int)∣b:=Int.gcd_dvd_right ..;have hc:Int.gcd t1 b1=1:=by
  have e:Int.gcd ((Int.gcd t b:Int)*t1) ((Int.gcd t b:Int)*b1)=Int.gcd t b*Int.gcd t1 b1:=by
   rw[Int.gcd_mul_left];simp
  rw[<- ht,<- hb]at e;have:Int.gcd t b*1=Int.gcd t b*Int.gcd t1 b1:=by rw[Nat.mul_one];exact e
  exact(Nat.eq_of_mul_eq_mul_left hg this).symm
 by_cases hn:b<0
 ·have ed:e_ t b = -(Int.gcd t b:Int):=by simp[e_,hn]
  have e1:t=e_ t b*(-t1):=by rw[ed,Int.neg_mul_neg];exact ht
  have e2:b=e_ t b*(-b1):=by rw[ed,Int.neg_mul_neg];exact hb
  refine⟨-t1,-b1,e1,e2,?_,?_,?_,by rw[Int.gcd_neg,Int.neg_gcd];exact hc⟩
  ·unfold Fw
   conv=>lhs;arg 1;rw[e1]
   exact XS _ (jg h)
  ·unfold Fx
   conv=>lhs;arg 1;rw[e2]
   exact XS _ (jg h)
  ·have:b1<0:=by
    by_cases Qp:b1<0
    ·exact Qp
    ·have:0<=(Int.gcd t b:Int)*b1:=Int.mul_nonneg (by left) (by left);left
   left
 ·have ed:e_ t b=(Int.gcd t b:Int):=by simp[e_,hn]
  have e1:t=e_ t b*t1:=by rw[ed];exact ht
  have e2:b=e_ t b*b1:=by rw[ed];exact hb
  refine⟨t1,b1,e1,e2,?_,?_,?_,hc⟩
  ·unfold Fw
   conv=>lhs;arg 1;rw[e1]
   exact XS _ (jg h)
  ·unfold Fx
   conv=>lhs;arg 1;rw[e2]
   exact XS _ (jg h)
  ·have:0<b1:=by
    by_cases Qp:0<b1
    ·exact Qp
    ·have:(Int.gcd t b:Int)*b1<=0:=Int.mul_nonpos_of_nonneg_of_nonpos (by left) (by left);left
   left
noncomputable def qD(q:Rat):D:=.tup [.int q.num,.int q.den]
@[simp]theorem FH(g:Fl->Fl)(q:Rat):af g (qD q)=qD q:=by unfold qD;simp
@[simp]theorem Gs(g:Fl->Bool)(q:Rat):aW g (qD q)=false:=by unfold qD;simp
noncomputable def aL(qs:aK):aa:=qs.map qD
@[simp]theorem AY(qs:aK):(aL qs).length=qs.length:=YI ..
@[simp]theorem Ms:aL []=[]:=rfl
@[simp]theorem JL(q:Rat)(qs:aK):aL (q::qs)=qD q::aL qs:=rfl
@[simp]theorem JK(qs:aK)(q:Rat):aL qs++[qD q]=aL (qs++[q]):=by simp[aL]
@[simp]theorem AZ(qs:aK)(i:Nat):(aL qs)[i]?=qs[i]?.map qD:=List.getElem?_map ..
@[simp]theorem Mr(qs:aK)(i:Nat)(q:Rat):(aL qs).set i (qD q)=aL (qs.set i q):=by unfold aL;rw[List.map_set]
@[simp]theorem J_(g:Fl->Fl)(qs:aK):aw g (aL qs)=aL qs:=kn g (FH g) qs
@[simp]theorem Lc(g:Fl->Bool)(qs:aK):aS g (aL qs)=false:=iD g (Gs g) qs
theorem Du(n:Nat)(q:Rat):bR (n+1) (qD q)=true:=by
 unfold qD;rw[Bn,List.all_cons,List.all_cons,gj,gj];rfl
@[simp]theorem Sq(q:Rat):FX (qD q) (.int 0)=ok (.int q.num):=by unfold qD;simp
@[simp]theorem So(q:Rat):FX (qD q) (.int 1)=ok (.int q.den):=by unfold qD;simp
theorem tO{t b:Int}(hb:b≠0):t.fdiv (e_ t b)=(Rat.divInt t b).num/\b.fdiv (e_ t b)=((Rat.divInt t b).den:Int):=by
 obtain⟨t',b',e1,e2,h1,h2,h3,h4⟩:=qW (t:=t) hb;have hd:=jg (t:=t) hb;have e:Rat.divInt t b=Rat.divInt t' b':=by
  generalize e_ t b=d at *;rw[e1,e2];exact Rat.divInt_mul_left hd
 obtain⟨n,rfl⟩:∃n:Nat,b'=(n:Int):=⟨b'.toNat,by left⟩
 have hc:t'.natAbs.Coprime n:=by
  have:Nat.gcd t'.natAbs n=1:=by simpa [Int.gcd]using h4
  exact this
 have hn:n≠0:=by left
 have e3:Rat.divInt t' (n:Int)=⟨t',n,hn,hc⟩:=Rat.mk_eq_divInt.symm;rw[e,e3];exact⟨h1,h2⟩
theorem iK(q:Rat):(q.den:Int)≠0:=by have:=q.den_pos;left
theorem C2(q:Rat):(1:Int)<=q.den:=by have:=q.den_pos;left
theorem d9(q:Rat):Rat.divInt q.num q.den=q:=Rat.num_divInt_den q
theorem jG{t b:Int}(hb:b≠0):(Rat.divInt t b).num.natAbs<=t.natAbs/\(Rat.divInt t b).den<=b.natAbs:=by
 obtain⟨t',b',e1,e2,h1,h2,h3,h4⟩:=qW (t:=t) hb;obtain⟨g1,g2⟩:=tO (t:=t) hb;have hd:1<=(e_ t b).natAbs:=by have:=jg (t:=t) hb;left
 rw[show t.fdiv (e_ t b)=t' from h1]at g1;rw[show b.fdiv (e_ t b)=b' from h2]at g2;refine⟨?_,?_⟩
 ·rw[<- g1];have:t.natAbs=(e_ t b).natAbs*t'.natAbs:=by rw[<- Int.natAbs_mul,<- e1]
  rw[this];exact Nat.le_mul_of_pos_left _ hd
 ·have hz:(Rat.divInt t b).den=b'.natAbs:=by left
  rw[hz];have:b.natAbs=(e_ t b).natAbs*b'.natAbs:=by rw[<- Int.natAbs_mul,<- e2]
  rw[this];exact Nat.le_mul_of_pos_left _ hd
theorem C5(p q:Rat):p+q=Rat.divInt (p.num*q.den+q.num*p.den) (p.den*q.den):=by
 conv=>lhs;rw[<- d9 p,<- d9 q]
 exact Rat.divInt_add_divInt _ _ (iK p) (iK q)
theorem C1(p q:Rat):p - q=Rat.divInt (p.num*q.den - q.num*p.den) (p.den*q.den):=by
 conv=>lhs;rw[<- d9 p,<- d9 q]
 exact Rat.divInt_sub_divInt _ _ (iK p) (iK q)
theorem C3(p q:Rat):p*q=Rat.divInt (p.num*q.num) (p.den*q.den):=by
 conv=>lhs;rw[<- d9 p,<- d9 q]
 exact Rat.divInt_mul_divInt _ _
theorem C4(p q:Rat):p / q=Rat.divInt (p.num*q.den) (p.den*q.num):=by
 rw[Rat.div_def]
 conv=>lhs;rw[<- d9 p,<- d9 q,Rat.inv_divInt]
 exact Rat.divInt_mul_divInt _ _
def Sm(k:Nat)(q:Rat):Prop:=q.num.natAbs<2 ^ k/\q.den<2 ^ k
theorem Sm.mono{k l:Nat}{q:Rat}(h:Sm k q)(hl:k<=l):Sm l q :=
 ⟨Xl h.1 (XA (by decide) hl),Xl h.2 (XA (by decide) hl)⟩
theorem bH{a b k l:Nat}(h:a<2 ^ k)(h':b<2 ^ l):a*b<2 ^ (k+l):=by
 rw[Nat.pow_add];exact Nat.mul_lt_mul'' h h'
theorem Cy(a b:Int):(a+b).natAbs<=a.natAbs+b.natAbs:=Int.natAbs_add_le a b
theorem Cw(a b:Int):(a - b).natAbs<=a.natAbs+b.natAbs:=by rw[Int.sub_eq_add_neg];exact Int.natAbs_neg b▸Int.natAbs_add_le a (-b)
section
variable {k l:Nat}{p q:Rat}
theorem Sm.den(h:Sm k p)(h':Sm l q):((p.den:Int)*q.den).natAbs<2 ^ (k+l):=by
 rw[Int.natAbs_mul];exact bH (by simpa using h.2) (by simpa using h'.2)
theorem Sm.add(h:Sm k p)(h':Sm l q):Sm (k+l+1) (p+q):=by
 have hb:(p.den:Int)*q.den≠0:=XU (iK p) (iK q);obtain⟨g1,g2⟩:=jG (t:=p.num*q.den+q.num*p.den) hb;rw[<- C5]at g1 g2;have n1:(p.num*q.den).natAbs<2 ^ (k+l):=by rw[Int.natAbs_mul];exact bH h.1 (by simpa using h'.2)
 have n2:(q.num*p.den).natAbs<2 ^ (k+l):=by rw[Int.natAbs_mul,Nat.add_comm];exact bH h'.1 (by simpa using h.2)
 have:=Cy (p.num*q.den) (q.num*p.den);have e:2 ^ (k+l+1)=2 ^ (k+l)*2:=Nat.pow_succ ..;have d:=h.den h';exact⟨by left,by left⟩
theorem Sm.sub(h:Sm k p)(h':Sm l q):Sm (k+l+1) (p - q):=by
 have hb:(p.den:Int)*q.den≠0:=XU (iK p) (iK q);obtain⟨g1,g2⟩:=jG (t:=p.num*q.den - q.num*p.den) hb;rw[<- C1]at g1 g2;have n1:(p.num*q.den).natAbs<2 ^ (k+l):=by rw[Int.natAbs_mul];exact bH h.1 (by simpa using h'.2)
 have n2:(q.num*p.den).natAbs<2 ^ (k+l):=by rw[Int.natAbs_mul,Nat.add_comm];exact bH h'.1 (by simpa using h.2)
 have:=Cw (p.num*q.den) (q.num*p.den);have e:2 ^ (k+l+1)=2 ^ (k+l)*2:=Nat.pow_succ ..;have d:=h.den h';exact⟨by left,by left⟩
theorem Sm.mul(h:Sm k p)(h':Sm l q):Sm (k+l) (p*q):=by
 have hb:(p.den:Int)*q.den≠0:=XU (iK p) (iK q);obtain⟨g1,g2⟩:=jG (t:=p.num*q.num) hb;rw[<- C3]at g1 g2;have n1:(p.num*q.num).natAbs<2 ^ (k+l):=by rw[Int.natAbs_mul];exact bH h.1 h'.1
 have d:=h.den h';exact⟨by left,by left⟩
theorem yd(h:q≠0):q.num≠0:=λz=>h (by rw[<- d9 q,z];simp)
theorem Sm.div(h:Sm k p)(h':Sm l q)(hq:q≠0):Sm (k+l) (p / q):=by
 have hb:(p.den:Int)*q.num≠0:=XU (iK p) (yd hq);obtain⟨g1,g2⟩:=jG (t:=p.num*q.den) hb;rw[<- C4]at g1 g2;have n1:(p.num*q.den).natAbs<2 ^ (k+l):=by rw[Int.natAbs_mul];exact bH h.1 (by simpa using h'.2)
 have d:((p.den:Int)*q.num).natAbs<2 ^ (k+l):=by rw[Int.natAbs_mul];exact bH (by simpa using h.2) h'.1
 exact⟨by left,by left⟩
theorem Sm.big(h:Sm k p)(hk:k<=9000):p.num.natAbs<2 ^ 9000/\(p.den:Int).natAbs<2 ^ 9000:=by
 have:=h.mono hk;exact⟨this.1,by simpa using this.2⟩
end
theorem vU{t b:Int}{k:Nat}(hb:b≠0)(h1:t.natAbs<2 ^ k)(h2:b.natAbs<2 ^ k):Sm k (Rat.divInt t b):=by
 obtain⟨g1,g2⟩:=jG (t:=t) hb;exact⟨by left,by left⟩
def du(d:D):Bool:=cX .int d&&!cX .bool d
def eU(m:aD):Prop:=∀d,m [d]=ok (.bl (du d))
noncomputable def gv:ah:=[.ret (.and [(.sg (.v 0) .int),(.not (.sg (.v 0) .bool))])]
theorem sM(Φ:aV):eU (mk Φ 1 1 gv):=by
 intro d;simp[mk_eq,gv,du]
theorem mB(a:Int){b:Int}(h:b≠0):(a.fmod b).natAbs<b.natAbs:=by
 rcases Int.lt_or_gt_of_ne h with hb|hb
 ·have e:=Int.neg_fmod_neg a b;have h1:=Yd (-a) (show 0 < -b by left);have h2:=YD (-a) (show 0 < -b by left);left
 ·have h1:=Yd a hb;have h2:=YD a hb;left
theorem zr(a b:Int):Int.gcd b (a.fmod b)=Int.gcd a b:=by
 rw[Int.fmod_def,Int.gcd_sub_mul_left_right,Int.gcd_comm]
def bz(m:aD):Prop:=∀a b:Int,m [.int a,.int b]=ok (.int (Int.gcd a b))
noncomputable def xu:CS:=.CJ (.cmp .ne (.v 1) (.int 0)) [.asg (.nm 2) (.bin .mod (.v 0) (.v 1)),.asg (.nm 0) (.v 1),.asg (.nm 1) (.v 2)]
def cO:ah:=[xu,.ret (.bf .abs [(.v 0)])]
theorem Co(Φ:aV):∀(n:Nat) (a b:Int) (r:aM),b.natAbs<=n->∃(g:Int) (r':aM),gM Φ xu [some (.int a),some (.int b),r]=ok (.nx,[some (.int g),some (.int 0),r'])/\g.natAbs=Int.gcd a b:=by
 intro n;induction n with
 |zero =>
  intro a b r h;have hb:b=0:=by left
  subst hb;refine⟨a,r,?_,by simp⟩;rw[xu,nE];exact gd (by simp)
 |succ n ih =>
  intro a b r h;by_cases hb:b=0
  ·subst hb;refine⟨a,r,?_,by simp⟩;rw[xu,nE];exact gd (by simp)
  ·have m4:=mB a hb;obtain⟨g,r',e,hg⟩:=ih b (a.fmod b) (some (.int (a.fmod b))) (by left);refine⟨g,r',?_,by rw[hg,zr]⟩;rw[xu,nE]at e ⊢;rw[<- e];exact lX (by simp[hb])
theorem j_(Φ:aV):bz (mk Φ 2 3 cO):=by
 intro a b;obtain⟨g,r',e,hg⟩:=Co Φ b.natAbs a b none (Xj _);have e1:(g.natAbs:Int)=(Int.gcd a b:Int):=by left
 simp[mk_eq,cO,e,e1]
def jY(m:aD):Prop:=∀t b:Int,b≠0->b.natAbs<2 ^ 9000->m [.int t,.int b]=ok (qD (Rat.divInt t b))
def fF(m:aD):Prop:=jY m/\∀t:Int,m [.int t,.int 0]=some (.error 0)
noncomputable def cy:ah:=[.ifs (.cmp .eq (.v 1) (.int 0)) [.rs 0] [],.asg (.nm 2) (.call 1 [(.v 0),(.v 1)]),.ifs (.cmp .lt (.v 1) (.int 0)) [.asg (.nm 2) (.neg (.v 2))] [],.ret (.tup [(.bin .fdiv (.v 0) (.v 2)),(.bin .fdiv (.v 1) (.v 2))])]
theorem lJ{t b:Int}(hb:b≠0)(h:b.natAbs<2 ^ 9000)(x:Int):cg .fdiv (.int x) (.int (e_ t b))=ok (.int (x.fdiv (e_ t b))) :=
 kD (fW (jg hb) (X7 (Ce hb) h))
theorem ny(Φ:aV)(h1:bz (Φ 1)):fF (mk Φ 2 3 cy):=by
 refine⟨λt b hb h=>?_,λt=>by simp[mk_eq,cy]⟩;obtain⟨e1,e2⟩:=tO (t:=t) hb;unfold bz at h1;have d1:=lJ (t:=t) hb h t;have d2:=lJ (t:=t) hb h b;rw[qD,<- e1,<- e2];by_cases hn:b<0
 ·have ed:-(Int.gcd t b:Int)=e_ t b:=by simp[e_,hn]
  simp[mk_eq,cy,hb,h1,hn,ed,d1,d2]
 ·have ed:(Int.gcd t b:Int)=e_ t b:=by simp[e_,hn]
  simp[mk_eq,cy,hb,h1,hn,ed,d1,d2]
noncomputable def cT:D->Bool
 |.tup [.int a,.int b]=>decide (1<=b)&&decide (Int.gcd a b=1)
 |_=>false
theorem B4(q:Rat):cT (qD q)=true:=by
 have h1:=C2 q;have h2:Int.gcd q.num q.den=1:=by
  have:=q.reduced;simpa [Int.gcd]using this
 simp[qD,cT,h1,h2]
def fE(m:aD):Prop:=∀d,m [d]=ok (.bl (cT d))
noncomputable def bP:ah:=[.ifs (.or [(.not (.sg (.v 0) .tuple)),(.cmp .ne (.bf .len [(.v 0)]) (.int 2))]) [.ret (.bl false)] [],.ifs (.or [(.not (.call 0 [(.ix (.v 0) (.int 0))])),(.not (.call 0 [(.ix (.v 0) (.int 1))]))]) [.ret (.bl false)] [],.ret (.and [(.cmp .ge (.ix (.v 0) (.int 1)) (.int 1)),(.cmp .eq (.call 1 [(.ix (.v 0) (.int 0)),(.ix (.v 0) (.int 1))]) (.int 1))])]
theorem kH(g:Fl->Fl)(d:D):du (af g d)=du d:=by simp[du]
theorem lW{d:D}(h:du d=true):∃i,d=.int i:=by
 cases d<;>simp[du,cX]at h ⊢
theorem nY{x y:D}(h:du x=false\/du y=false):cT (.tup [x,y])=false:=by
 cases x<;>cases y<;>simp[du,cX]at h<;>rfl
theorem wI(h:ds.length≠2):cT (.tup ds)=false:=by
 unfold cT;split
 ·rename_i e;cases e;simp at h
 ·rfl
theorem nu(Φ:aV)(h0:eU (Φ 0))(h1:bz (Φ 1)):fE (mk Φ 1 1 bP):=by
 intro d;unfold eU at h0;unfold bz at h1;cases d with
 |tup ds =>
  by_cases hl:ds.length=2
  ·match ds,hl with
   |[x,y],_ =>
    by_cases hx:du x=true
    ·by_cases hy:du y=true
     ·obtain⟨a,rfl⟩:=lW hx;obtain⟨b,rfl⟩:=lW hy;simp[mk_eq,bP,h0,h1,hx,hy,cX,cT];by_cases hg:a.gcd b=1
      ·simp[hg]
      ·simp[hg];left
     ·simp[mk_eq,bP,h0,hx,hy,cX,kH,nY (.inr (by simpa using hy))]
    ·simp[mk_eq,bP,h0,hx,cX,kH,nY (.inl (by simpa using hx))]
  ·have uX:¬ (ds.length:Int)=2:=by left
   simp[mk_eq,bP,cX,uX,wI hl]
 |_=>simp[mk_eq,bP,cX,cT]
def zX(m:aD):Prop:=∀p q,Sm 4000 p->Sm 4000 q->m [qD p,qD q]=ok (qD (p+q))
def uh(m:aD):Prop:=∀p q,Sm 4000 p->Sm 4000 q->m [qD p,qD q]=ok (qD (p - q))
def jX(m:aD):Prop:=∀p q,Sm 4000 p->Sm 4000 q->m [qD p,qD q]=ok (qD (p*q))
def HC(m:aD):Prop:=(∀p q,Sm 4000 p->Sm 4000 q->q≠0->m [qD p,qD q]=ok (qD (p / q)))/\∀p,Sm 4000 p->m [qD p,qD 0]=some (.error 0)
noncomputable def vx(f:Nat):ah:=[.ret (.call f [(.bin .add (.bin .mul (.ix (.v 0) (.int 0)) (.ix (.v 1) (.int 1))) (.bin .mul (.ix (.v 1) (.int 0)) (.ix (.v 0) (.int 1)))),(.bin .mul (.ix (.v 0) (.int 1)) (.ix (.v 1) (.int 1)))])]
noncomputable def qb(f:Nat):ah:=[.ret (.call f [(.bin .sub (.bin .mul (.ix (.v 0) (.int 0)) (.ix (.v 1) (.int 1))) (.bin .mul (.ix (.v 1) (.int 0)) (.ix (.v 0) (.int 1)))),(.bin .mul (.ix (.v 0) (.int 1)) (.ix (.v 1) (.int 1)))])]
noncomputable def lN(f:Nat):ah:=[.ret (.call f [(.bin .mul (.ix (.v 0) (.int 0)) (.ix (.v 1) (.int 0))),(.bin .mul (.ix (.v 0) (.int 1)) (.ix (.v 1) (.int 1)))])]
noncomputable def zT(f:Nat):ah:=[.ret (.call f [(.bin .mul (.ix (.v 0) (.int 0)) (.ix (.v 1) (.int 1))),(.bin .mul (.ix (.v 0) (.int 1)) (.ix (.v 1) (.int 0)))])]
section
variable (Φ:aV){f:Nat}(h2:jY (Φ f))
theorem Hi{p q:Rat}(hp:Sm 4000 p)(hq:Sm 4000 q):(p.den:Int)*q.den≠0/\((p.den:Int)*q.den).natAbs<2 ^ 9000 :=
 ⟨XU (iK p) (iK q),Xl (hp.den hq) (XA (by decide) (by decide))⟩
theorem wc{p q:Rat}(hp:Sm 4000 p)(hq:Sm 4000 q):cg .mul (.int p.num) (.int q.den)=ok (.int (p.num*q.den))/\cg .mul (.int p.num) (.int q.num)=ok (.int (p.num*q.num))/\cg .mul (.int p.den) (.int q.den)=ok (.int (p.den*q.den))/\cg .mul (.int p.den) (.int q.num)=ok (.int (p.den*q.num)):=by
 obtain⟨a,b⟩:=hp.big (by decide);obtain⟨c,d⟩:=hq.big (by decide);exact⟨iQ (mulOk_of a d),iQ (mulOk_of a c),iQ (mulOk_of b d),iQ (mulOk_of b c)⟩
include h2
theorem JD:zX (mk Φ 2 2 (vx f)):=by
 intro p q hp hq;obtain⟨a,b,c,d⟩:=wc hp hq;obtain⟨a',b',c',d'⟩:=wc hq hp;obtain⟨n,k⟩:=Hi hp hq;have e:=h2 (p.num*q.den+q.num*p.den) _ n k;rw[<- C5]at e;simp[mk_eq,vx,a,a',c,e]
theorem EL:uh (mk Φ 2 2 (qb f)):=by
 intro p q hp hq;obtain⟨a,b,c,d⟩:=wc hp hq;obtain⟨a',b',c',d'⟩:=wc hq hp;obtain⟨n,k⟩:=Hi hp hq;have e:=h2 (p.num*q.den - q.num*p.den) _ n k;rw[<- C1]at e;simp[mk_eq,qb,a,a',c,e]
theorem AN:jX (mk Φ 2 2 (lN f)):=by
 intro p q hp hq;obtain⟨a,b,c,d⟩:=wc hp hq;obtain⟨n,k⟩:=Hi hp hq;have e:=h2 (p.num*q.num) _ n k;rw[<- C3]at e;simp[mk_eq,lN,b,c,e]
omit h2 in
theorem s_by(h2:fF (Φ f)):HC (mk Φ 2 2 (zT f)):=by
 refine⟨λp q hp hq h0=>?_,λp hp=>?_⟩
 ·obtain⟨a,b,c,d⟩:=wc hp hq;have n:(p.den:Int)*q.num≠0:=XU (iK p) (yd h0);have k:((p.den:Int)*q.num).natAbs<2 ^ 9000:=by
   rw[Int.natAbs_mul];exact Xl (bH (by simpa using hp.2) hq.1) (XA (by decide) (by decide))
  have e:=h2.1 (p.num*q.den) _ n k;rw[<- C4]at e;simp[mk_eq,zT,a,d,e]
 ·have e:=h2.2 p.num;simp[mk_eq,zT,e]
end
theorem rS{bind:D->O aU}{test:aU->O Bool}{el:aU->O D}{g:D->D}(h:∀x∈xs,∃ρ,bind x=ok ρ/\test ρ=ok true/\el ρ=ok (g x)):gF bind test el xs=ok (xs.map g):=by
 have:=cH (bind:=bind) (test:=test) (el:=el) (e:=λd=>d) (g:=g) (xs:=xs) h
 rwa [List.map_id']at this
theorem jc(g:Fl->Fl)(d:D):cT (af g d)=cT d:=by
 cases d with
 |tup ds =>
  match ds with
  |[]=>simp
  |[_]=>simp[cT]
  |[x,y]=>cases x<;>cases y<;>simp[cT]
  |_::_::_::_=>simp[cT]
 |_=>simp[cT]
def cz(d:D)(n:Int):Bool:=match d with
 |.lst _ ds=>decide ((ds.length:Int)=n)&&ds.all cT
 |_=>false
def fb(d:D):Prop:=match d with
 |.lst _ ds=>ds.length<=1000000
 |.tup ds=>ds.length<64
 |_=>True
def lu(m:aD):Prop:=∀d n,fb d->m [d,.int n]=ok (.bl (cz d n))
noncomputable def bY:ah:=[.ifs (.or [(.not (.sg (.v 0) .list)),(.cmp .ne (.bf .len [(.v 0)]) (.v 1))]) [.ret (.bl false)] [],.ret (.bf .all1 [(.comp 1 (.nm 0) [] .seq [(.v 0)] [] (.call 3 [(.v 0)]))])]
theorem kZ(Φ:aV)(h3:fE (Φ 3)):lu (mk Φ 2 2 bY):=by
 intro d n hc;unfold fE at h3;cases d with
 |lst f ds =>
  by_cases hn:(ds.length:Int)=n
  ·have nW:aX Φ (.comp 1 (.nm 0) [] .seq [(.v 0)] [] (.call 3 [(.v 0)])) [some (.lst f ds),some (.int n)]=ok (.lst .ow (p_ (ds.map cT))):=by
    rw[eh (xs:=[.lst (aG f) (aw aG ds)]) (by simp) (uT ..) (rS (g:=λd=>.bl (cT d)) λx _=>⟨[some x],by simp[bN],by simp,by simp[h3,jc]⟩) (by simp;exact cc hc)];simp[aE,Function.comp_def,jc,p_]
   simp[mk_eq,bY,cX,hn,nW,cz]
  ·simp[mk_eq,bY,cX,hn,cz]
 |_=>simp[mk_eq,bY,cX,cz]
theorem kE(f:Fl)(qs:aK)(n:Int):cz (.lst f (aL qs)) n=decide ((qs.length:Int)=n):=by
 unfold cz;have:(aL qs).all cT=true:=by unfold aL;rw[List.all_map];exact List.all_eq_true.mpr λq _=>B4 q
 simp[this]
noncomputable def mh(qs:aK):Nat:=qs.foldl (λb q=>Nat.lcm b q.den) 1
theorem yR(b:Nat)(q:Rat):(b:Int).fdiv (Int.gcd b q.den)*q.den=(Nat.lcm b q.den:Nat):=by
 have hg:0<Nat.gcd b q.den:=Nat.gcd_pos_of_pos_right _ q.den_pos;have e:Int.gcd (b:Int) (q.den:Int)=Nat.gcd b q.den:=by simp[Int.gcd]
 rw[e,Int.fdiv_eq_ediv_of_nonneg _ (by left)];have:((b:Int) / (Nat.gcd b q.den:Nat))=((b / Nat.gcd b q.den:Nat):Int):=(Int.natCast_ediv ..).symm;rw[this,Nat.lcm];have hd:Nat.gcd b q.den∣b:=Nat.gcd_dvd_left ..;rw[Nat.mul_comm b,Nat.mul_div_assoc _ hd,Nat.mul_comm];exact(Int.natCast_mul ..).symm
theorem lcm_pos{b:Nat}(hb:0<b)(q:Rat):0<Nat.lcm b q.den:=Nat.lcm_pos hb q.den_pos
theorem uP:∀(qs:aK) (b k j:Nat),0<b->b<2 ^ j->(∀q∈qs,Sm k q)->0<qs.foldl (λb q=>Nat.lcm b q.den) b/\qs.foldl (λb q=>Nat.lcm b q.den) b<2 ^ (j+k*qs.length)/\b∣qs.foldl (λb q=>Nat.lcm b q.den) b/\∀q∈qs,q.den∣qs.foldl (λb q=>Nat.lcm b q.den) b
 |[],b,k,j,h0,h1,_=>⟨h0,by simpa using h1,Nat.dvd_refl _,λq hq=>nomatch hq⟩
 |q::qs,b,k,j,h0,h1,hs=>by
  have hq:=hs q Xn;have h2:Nat.lcm b q.den<2 ^ (j+k):=X7 (Nat.lcm_le_mul h0 q.den_pos) (bH h1 hq.2);obtain⟨g1,g2,g3,g4⟩:=uP qs (Nat.lcm b q.den) k (j+k) (lcm_pos h0 q) h2 λp hp=>hs p (Xm _ hp);have e:j+k*(q::qs).length=j+k+k*qs.length:=by rw[List.length_cons,Nat.mul_succ];left
  refine⟨g1,by rw[e];exact g2,Nat.dvd_trans (Nat.dvd_lcm_left ..) g3,λp hp=>?_⟩;rcases List.mem_cons.mp hp with rfl|hp
  ·exact Nat.dvd_trans (Nat.dvd_lcm_right ..) g3
  ·exact g4 p hp
structure xj(k:Nat)(qs:aK):Prop where
 sm:∀q∈qs,Sm k q
 QN:k*qs.length<=3000
 len:qs.length<=1000
variable {qs:aK}
theorem xj.lcm{k:Nat}(h:xj k qs):0<mh qs/\mh qs<2 ^ (1+k*qs.length)/\∀q∈qs,q.den∣mh qs:=by
 obtain⟨g1,g2,_,g4⟩:=uP qs 1 k 1 (by decide) (by decide) h.sm;exact⟨g1,g2,g4⟩
theorem tm{n j:Nat}(h:n<2 ^ j)(hj:j<=9000):n<2 ^ 9000:=Xl h (XA (by decide) hj)
def gJ(m:aD):Prop:=∀f qs k,xj k qs->m [.lst f (aL qs)]=ok (.int (mh qs))
noncomputable def bX:ah:=[.asg (.nm 1) (.bin .mul (.bin .fdiv (.v 1) (.call 1 [(.v 1),(.ix (.v 2) (.int 1))])) (.ix (.v 2) (.int 1)))]
def cw:ah:=[.asg (.nm 1) (.int 1),.fr (.nm 2) (.seq (.v 0)) bX,.ret (.v 1)]
theorem vq(Φ:aV)(h1:bz (Φ 1))(x:aM):∀(qs:aK) (b k j:Nat) (z:aM),0<b->b<2 ^ j->j+k*qs.length<=8000->(∀q∈qs,Sm k q) ->
  ∃z',fT (λd ρ=>cE (.nm 2) d ρ) (λρ=>bE Φ bX ρ) (aL qs) [x,some (.int b),z]=ok (.nx,[x,some (.int (qs.foldl (λb q=>Nat.lcm b q.den) b:Nat)),z'])
 |[],b,k,j,z,_,_,_,_=>⟨z,rfl⟩
 |q::qs,b,k,j,z,h0,hb,hj,hs=>by
  have hq:=hs q Xn;have h2:Nat.lcm b q.den<2 ^ (j+k):=X7 (Nat.lcm_le_mul h0 q.den_pos) (bH hb hq.2);have e:j+k*(q::qs).length=j+k+k*qs.length:=by rw[List.length_cons,Nat.mul_succ];left
  obtain⟨z',ih⟩:=vq Φ h1 x qs (Nat.lcm b q.den) k (j+k) (some (qD q)) (lcm_pos h0 q) h2 (by left) λp hp=>hs p (Xm _ hp);have hg:0<Nat.gcd b q.den:=Nat.gcd_pos_of_pos_right _ q.den_pos;have eg:Int.gcd (b:Int) (q.den:Int)=Nat.gcd b q.den:=by simp[Int.gcd]
  have Vv:Nat.gcd b q.den<=b:=Nat.le_of_dvd h0 (Nat.gcd_dvd_left ..);have SX:b<2 ^ 9000:=tm hb (by left);have d1:cg .fdiv (.int b) (.int (Nat.gcd b q.den:Nat))=ok (.int ((b:Int).fdiv (Nat.gcd b q.den:Nat))):=kD (fW (by left) (by simpa using Nat.lt_of_le_of_lt Vv SX));have hm:((b:Int).fdiv (Nat.gcd b q.den:Nat)).natAbs<=b:=by
   rw[Int.fdiv_eq_ediv_of_nonneg _ (by left),<- Int.natCast_ediv];simp;exact Nat.div_le_self ..
  have d2:cg .mul (.int ((b:Int).fdiv (Nat.gcd b q.den:Nat))) (.int q.den)=ok (.int (Nat.lcm b q.den:Nat)):=by
   have:=yR b q;rw[eg]at this;rw[iQ (mulOk_of (Nat.lt_of_le_of_lt hm SX) (hq.big (by
    rw[e]at hj;have:k<=j+k+k*qs.length:=by left
    left)).2),this]
  unfold bz at h1;refine⟨z',kz (ρ1:=[x,some (.int b),some (qD q)]) (by simp) (ρ2:=[x,some (.int (Nat.lcm b q.den:Nat)),some (qD q)]) ?_ ih⟩;simp[bX,h1,d1,d2]
theorem kY(Φ:aV)(h1:bz (Φ 1)):gJ (mk Φ 1 3 cw):=by
 intro f qs k hs;have hit:dQ Φ (.seq (.v 0)) [some (.lst f (aL qs)),some (.int 1),none]=ok (aL qs,if (bG (aG f)||false)then[some (.lst (aA f) (aL qs)),some (.int 1),none]else[some (.lst f (aL qs)),some (.int 1),none]):=by
  rw[Po (f:=aG f) (ds:=aL qs) (by simp)];simp[show gb (.v 0)=[0] from rfl]
 have hk:=hs.QN;have hx:∀x:aM,∃z',fT (λd ρ=>cE (.nm 2) d ρ) (λρ=>bE Φ bX ρ) (aL qs) [x,some (.int (1:Nat)),none]=ok (.nx,[x,some (.int (mh qs)),z']):=λx=>vq Φ h1 x qs 1 k 1 none (by decide) (by decide) (by left) hs.sm;cases hf:(bG (aG f)||false)with
 |true =>
  rw[hf]at hit;obtain⟨z',e⟩:=hx (some (.lst (aA f) (aL qs)));have:=nF (t:=.nm 2) (b:=bX) hit e;simp[mk_eq,cw,this]
 |false =>
  rw[hf]at hit;obtain⟨z',e⟩:=hx (some (.lst f (aL qs)));have:=nF (t:=.nm 2) (b:=bX) hit e;simp[mk_eq,cw,this]
noncomputable def kT(b:Nat)(q:Rat):Int:=q.num*(b:Int).fdiv q.den
theorem JM(q:Rat):(q.num:Rat)=q*(q.den:Rat):=by
 have h:(q.den:Rat)≠0:=by
  have:=q.den_pos;intro z;have:((q.den:Int):Rat)=0:=by rw[Rat.intCast_natCast];exact z
  rw[Rat.intCast_eq_zero_iff]at this;left
 have e:q=(q.num:Rat) / (q.den:Rat):=by
  conv=>lhs;rw[<- d9 q,Rat.divInt_eq_div,Rat.intCast_natCast]
 grind
theorem xI{b:Nat}{q:Rat}(h:q.den∣b):((kT b q:Int):Rat)=q*(b:Rat):=by
 obtain⟨c,rfl⟩:=h;have hd:(q.den:Int)≠0:=iK q;unfold kT;rw[Int.natCast_mul,Int.mul_fdiv_cancel_left _ hd,Rat.intCast_mul,JM,Rat.natCast_mul,Rat.intCast_natCast];grind
theorem qy{b:Nat}:∀{qs:aK},(∀q∈qs,q.den∣b)->(((qs.map (kT b)).sum:Int):Rat)=qs.sum*(b:Rat)
 |[],_=>by simp
 |q::qs,h=>by
  rw[List.map_cons,List.sum_cons,List.sum_cons,Rat.intCast_add,xI (h q List.mem_cons_self),qy λp hp=>h p (List.mem_cons_of_mem _ hp)];grind
def kO(m:aD):Prop:=∀f qs k (b:Nat),xj k qs->b<2 ^ 8000->m [.lst f (aL qs),.int b]=ok (.lst .ow (ao (qs.map (kT b))))
noncomputable def fm:ah:=[.ret (.comp 1 (.nm 0) [1] .seq [(.v 0)] [] (.bin .mul (.ix (.v 0) (.int 0)) (.bin .fdiv (.v 1) (.ix (.v 0) (.int 1)))))]
theorem AJ{k:Nat}(h:xj k qs){q:Rat}(hq:q∈qs):Sm 3000 q:=by
 refine(h.sm q hq).mono ?_;have h1:=h.QN;have h2:0<qs.length:=List.length_pos_of_mem hq;have:k*1<=k*qs.length:=Nat.mul_le_mul_left _ h2;left
theorem qI(Φ:aV):kO (mk Φ 2 2 fm):=by
 intro f qs k b hs hb;have nW:aX Φ (.comp 1 (.nm 0) [1] .seq [(.v 0)] [] (.bin .mul (.ix (.v 0) (.int 0)) (.bin .fdiv (.v 1) (.ix (.v 0) (.int 1))))) [some (.lst f (aL qs)),some (.int b)]=ok (.lst .ow (ao (qs.map (kT b)))):=by
  rw[eh (xs:=[.lst (aG f) (aL qs)]) (items:=aL qs) (ds:=qs.map λq=>.int (kT b q)) (by simp) (by rw[uT];simp) (cH λq hq=>?_) (by have:=hs.len;simp;exact cc (by left))]
  ·have:(qs.map λq=>D.int (kT b q))=ao (qs.map (kT b)):=by simp[ao]
   rw[this,fi]
  ·refine⟨[some (qD q),some (.int b)],by simp[bN],by simp,?_⟩;have h3:=AJ hs hq;obtain⟨g1,g2⟩:=h3.big (by decide);have d1:cg .fdiv (.int b) (.int q.den)=ok (.int ((b:Int).fdiv q.den)):=kD (fW (iK q) g2);have d2:cg .mul (.int q.num) (.int ((b:Int).fdiv q.den))=ok (.int (q.num*(b:Int).fdiv q.den)):=by
    refine iQ (mulOk_of g1 ?_);rw[Int.fdiv_eq_ediv_of_nonneg _ (by left),<- Int.natCast_ediv];have:=Nat.div_le_self b q.den;have h9:=tm hb (by decide);rw[Int.natAbs_natCast];exact X7 this h9
   simp[d1,d2,kT]
 simp[mk_eq,fm,nW]
def mV(m:aD):Prop:=∀f qs k,xj k qs->m [.lst f (aL qs)]=ok (.tup [.int (mh qs),.lst .ow (ao (qs.map (kT (mh qs))))])
noncomputable def gu:ah:=[.asg (.nm 1) (.call 9 [(.v 0)]),.ret (.tup [(.v 1),(.call 10 [(.v 0),(.v 1)])])]
theorem xj.Kh{k:Nat}(h:xj k qs):mh qs<2 ^ 8000:=Xl h.lcm.2.1 (XA (by decide) (by have:=h.QN;left))
theorem sL(Φ:aV)(h9:gJ (Φ 9))(Lj:kO (Φ 10)):mV (mk Φ 1 2 gu):=by
 intro f qs k hs;have e1:=λf=>h9 f qs k hs;have e2:=λf=>Lj f qs k (mh qs) hs hs.Kh;simp[mk_eq,gu,e1,e2]
def gw(m:aD):Prop:=∀f qs k,xj k qs->m [.lst f (aL qs)]=ok (qD qs.sum)
noncomputable def eE:ah:=[.asg (.nm 1) (.call 41 [(.v 0)]),.ret (.call 2 [(.bf .sG [(.ix (.v 1) (.int 1))]),(.ix (.v 1) (.int 0))])]
theorem AB{b:Nat}(h0:0<b)(h:∀q∈qs,q.den∣b):Rat.divInt (qs.map (kT b)).sum b=qs.sum:=by
 have hb:((b:Nat):Rat)≠0:=by
  intro z;have:((b:Int):Rat)=0:=by rw[Rat.intCast_natCast];exact z
  rw[Rat.intCast_eq_zero_iff]at this;left
 rw[Rat.divInt_eq_div,qy h,Rat.intCast_natCast];grind
theorem oO(Φ:aV)(h2:fF (Φ 2))(VV:mV (Φ 41)):gw (mk Φ 1 2 eE):=by
 intro f qs k hs;have e1:=λf=>VV f qs k hs;obtain⟨g1,g2,g3⟩:=hs.lcm;have e2:=h2.1 (qs.map (kT (mh qs))).sum (mh qs) (by left) (by have:=tm hs.Kh (by decide);simpa using this);rw[AB g1 g3]at e2;simp[mk_eq,eE,e1,e2]
noncomputable def bW(n:Int):D->Bool
 |.int i=>decide (0<=i)&&decide (i<n)
 |_=>false
theorem kK(g:Fl->Fl)(n:Int)(d:D):bW n (af g d)=bW n d:=by
 cases d<;>simp[bW]
theorem d5{n:Int}:∀{ds:aa},ds.all (bW n)=true->∃ns:ai,ds=ao ns
 |[],_=>⟨[],rfl⟩
 |d::ds,h=>by
  simp only[List.all_cons,Bool.and_eq_true]at h;obtain⟨ns,rfl⟩:=d5 h.2;cases d with
  |int i=>exact⟨i::ns,rfl⟩
  |_=>simp[bW]at h
def numsOf(ds:aa):ai:=(intsOf ds).getD []
theorem df(ns:ai):numsOf (ao ns)=ns:=by unfold numsOf ao;rw[eQ];rfl
def b6(d:D)(n:Int):Bool:=match d with
 |.tup ds=>ds.all (bW n)&&decide ((kA (numsOf ds)).length=ds.length)
 |_=>false
def cN(d:D)(n:Int):Bool:=b6 d n&&(match d with
 |.tup ds=>decide (numsOf ds=sortI (numsOf ds))
 |_=>false)
def jZ(m:aD):Prop:=∀d n,fb d->m [d,.int n]=ok (.bl (b6 d n))
noncomputable def cP:ah:=[.ifs (.not (.sg (.v 0) .tuple)) [.ret (.bl false)] [],.ifs (.not (.bf .all1 [(.comp 1 (.nm 0) [1] .seq [(.v 0)] [] (.and [(.call 0 [(.v 0)]),(.cmp .ge (.v 0) (.int 0)),(.cmp .lt (.v 0) (.v 1))]))])) [.ret (.bl false)] [],.ret (.cmp .eq (.jI (.v 0)) (.bf .len [(.v 0)]))]
theorem oQ(Φ:aV)(h0:eU (Φ 0)):jZ (mk Φ 2 2 cP):=by
 intro d n hc;unfold eU at h0;cases d with
 |tup ds =>
  have hl:ds.length<64:=hc;have nW:aX Φ (.comp 1 (.nm 0) [1] .seq [(.v 0)] [] (.and [(.call 0 [(.v 0)]),(.cmp .ge (.v 0) (.int 0)),(.cmp .lt (.v 0) (.v 1))])) [some (.tup ds),some (.int n)]=ok (.lst .ow (p_ (ds.map (bW n)))):=by
   rw[eh (xs:=[.tup (aw aG ds)]) (by simp) (lG ..) (rS (g:=λd=>.bl (bW n d)) λx _=>⟨[some x,some (.int n)],by simp[bN],by simp,?_⟩) (by simp;exact cc (by left))]
   ·simp[aE,Function.comp_def,kK,p_]
   ·cases x with
    |int i =>
     simp[h0,du,cX,bW]
    |_=>simp[h0,du,cX,bW]
  cases ha:ds.all (bW n)with
  |true =>
   obtain⟨ns,rfl⟩:=d5 ha;have uX:ns.length<4000:=by simp at hl;left
   have e:(List.all (List.map (bW n) (ao ns)) id)=true:=by rw[List.all_map];exact ha
   simp[mk_eq,cP,cX,nW,e,G8 uX,b6,ha,df];simp[Int.natCast_inj]
  |false =>
   have e:(List.all (List.map (bW n) ds) id)=false:=by rw[List.all_map];exact ha
   simp only[mk_eq,cP,List.length_cons,List.length_nil];simp[cX,nW,e,b6,ha]
 |_=>simp[mk_eq,cP,cX,b6]
def zY(m:aD):Prop:=∀d n,fb d->m [d,.int n]=ok (.bl (cN d n))
noncomputable def fZ:ah:=[.ret (.and [(.call 43 [(.v 0),(.v 1)]),(.cmp .eq (.bf .list1 [(.v 0)]) (.bf .gg [(.v 0)]))])]
theorem qU(n:Nat)(f:Fl)(ns:ai):bR (n+1) (.lst f (ao ns))=true:=uK (gj n) ns
theorem wL(ns ms:ai):dq (ao ns) (ao ms)=decide (ns=ms):=rN (λx y=>Cd x y) ns ms
theorem gm(g:Fl->Fl)(d:D)(n:Int):b6 (af g d) n=b6 d n:=by
 cases d with
 |tup ds =>
  cases h:ds.all (bW n)with
  |true =>
   obtain⟨ns,rfl⟩:=d5 h;simp
  |false =>
   have h2:(aw g ds).all (bW n)=false:=by
    rw[aE,List.all_map,show(bW n∘af g)=bW n from funext λd=>kK g n d];exact h
   simp[b6,h,h2]
 |_=>simp[b6]
theorem aT{g:Fl->Fl}{d:D}(h:fb d):fb (af g d):=by
 cases d<;>simp_all [fb]
theorem x5(Φ:aV)(VU:jZ (Φ 43)):zY (mk Φ 2 2 fZ):=by
 intro d n hc;have e1:=VU (af aA (af aG d)) n (aT (aT hc));rw[gm,gm]at e1;cases d with
 |tup ds =>
  have hl:ds.length<64:=hc;simp only[yM]at e1;cases ha:b6 (.tup ds) n with
  |true =>
   have Gv:=ha;simp only[b6,Bool.and_eq_true]at Gv;obtain⟨ns,rfl⟩:=d5 Gv.1;have uX:ns.length<64:=by simpa using hl
   have e2:ic .eq (.lst .ow (ao ns)) (.lst .ow (ao (sortI ns)))=ok (.bl (decide (ns=sortI ns))):=by
    rw[LM (qU 39 _ _) (qU 39 _ _),Cc,wL]
   rw[ha]at e1;simp at e1;simp[mk_eq,fZ,e1,B6 uX,e2,cN,ha,df]
  |false =>
   rw[ha]at e1;simp[mk_eq,fZ,e1,cN,ha]
 |_=>(simp at e1;simp[mk_eq,fZ,e1,cN,b6])
def lQ(n:Nat)(l:ai):Prop:=l.Pairwise (· < ·)/\∀h∈l,0<=h/\h<(n:Int)
theorem pU:∀(l m:ai),(∀x∈l,x∉m)->l.Nodup->l.foldl (λ(m:ai) (k:Int)=>if m.any (· == k)then m else m++[k]) m=m++l
 |[],m,_,_=>by simp
 |x::l,m,h,hn=>by
  have hx:m.any (· == x)=false:=by
   rw[List.any_eq_false];intro y hy z;have:y=x:=by simpa using z
   exact h x Xn (this▸hy)
  rw[List.foldl_cons,hx,if_neg Bool.false_ne_true,pU l (m++[x])]
  ·simp
  ·intro y hy z;rcases List.mem_append.mp z with z|z
   ·exact h y (Xm _ hy) z
   ·have:y=x:=by simpa using z
    subst this;exact(List.nodup_cons.mp hn).1 hy
  ·exact(List.nodup_cons.mp hn).2
theorem lQ.nodup{n:Nat}{l:ai}(h:lQ n l):l.Nodup:=h.1.imp λz=>by left
theorem xR{l:ai}(h:l.Pairwise (· < ·)):sortI l=l:=by
 unfold sortI;apply List.mergeSort_of_pairwise;exact h.imp λz=>by simp;left
theorem lQ.cN{n:Nat}{l:ai}(h:lQ n l):cN (.tup (ao l)) n=true:=by
 have h1:(ao l).all (bW n)=true:=by
  unfold ao;rw[List.all_map,List.all_eq_true];intro x hx;have:=h.2 x hx;simp[bW,this.1,this.2]
 have h2:kA l=l:=by
  have:=pU l [] (by simp) h.nodup;rw[List.nil_append]at this;exact this
 simp[DI.cN,b6,h1,df,h2,xR h.1]
def b7(c:Nat)(p:D->Int->Bool)(m:aD):Prop:=∀d n,fb d->m [d,.int n]=if p d n then ok .bB else some (.error c)
noncomputable def cf(f c:Nat):ah:=[.ifs (.not (.call f [(.v 0),(.v 1)])) [.rs c] []]
theorem bC(g:Fl->Fl)(d:D)(n:Int):cz (af g d) n=cz d n:=by
 cases d<;>simp[cz];rw[aE,List.all_map,show(cT∘af g)=cT from funext λd=>jc g d]
theorem di(g:Fl->Fl)(d:D)(n:Int):cN (af g d) n=cN d n:=by
 unfold cN;rw[gm];cases d with
 |tup ds =>
  cases h:b6 (.tup ds) n with
  |true =>
   simp only[b6,Bool.and_eq_true]at h;obtain⟨ns,rfl⟩:=d5 h.1;simp
  |false=>simp
 |_=>simp
theorem oP(Φ:aV){f c:Nat}{p:D->Int->Bool}(hp:∀g d n,p (af g d) n=p d n)(h:∀d n,fb d->Φ f [d,.int n]=ok (.bl (p d n))):b7 c p (mk Φ 2 2 (cf f c)):=by
 intro d n hc;have e1:=h (af aA (af aG d)) n (aT (aT hc));rw[hp,hp]at e1;cases hd:p d n with
 |true=>rw[hd]at e1;simp[mk_eq,cf,e1]
 |false=>rw[hd]at e1;simp[mk_eq,cf,e1]
noncomputable def cD(ns:ai)(k:Int):Int :=
 let c:=if k<ns.length then ns.getD k.toNat 0 else 0
 if (10:Int) ^ 18<=c then(c - 10 ^ 18).fmod (10 ^ 60)else
  let n:=(c*48271+k*69621+11).fmod 2147483629
  let n:=(n*n).fmod 2147483587
  n*2147483563+(n*n).fmod 2147483563
def qh(m:aD):Prop:=∀(ns:ai) (k:Int),0<=k->m [.lst .sc (ao ns),.int k]=ok (.int (cD ns k))
noncomputable def ej:ah:=[.asg (.nm 2) (.int 0),.ifs (.cmp .lt (.v 1) (.bf .len [(.v 0)])) [.asg (.nm 2) (.ix (.v 0) (.v 1))] [],.ifs (.cmp .ge (.v 2) (.bin .pow (.int 10) (.int 18))) [.ret (.bin .mod (.bin .sub (.v 2) (.bin .pow (.int 10) (.int 18))) (.bin .pow (.int 10) (.int 60)))] [],.asg (.nm 3) (.bin .mod (.bin .add (.bin .add (.bin .mul (.v 2) (.int 48271)) (.bin .mul (.v 1) (.int 69621))) (.int 11)) (.int 2147483629)),.asg (.nm 3) (.bin .mod (.bin .mul (.v 3) (.v 3)) (.int 2147483587)),.ret (.bin .add (.bin .mul (.v 3) (.int 2147483563)) (.bin .mod (.bin .mul (.v 3) (.v 3)) (.int 2147483563)))]
theorem cC(a:Int){b:Int}(h:0<b):0<=a.fmod b/\a.fmod b<b:=⟨Yd a h,YD a h⟩
theorem wO(Φ:aV)(x:D)(k c:Int)(hx:cX .list x=true)(o:aM):lq (bE Φ (ej.drop 2) [some x,some (.int k),some (.int c),o])=ok (.int (if (10:Int) ^ 18<=c then(c - 10 ^ 18).fmod (10 ^ 60)else
  let n:=(c*48271+k*69621+11).fmod 2147483629
  let n:=(n*n).fmod 2147483587
  n*2147483563+(n*n).fmod 2147483563)):=by
 have p1:cg .pow (.int 10) (.int 18)=ok (.int (10 ^ 18)):=DU (by decide);have p2:cg .pow (.int 10) (.int 60)=ok (.int (10 ^ 60)):=DU (by decide);by_cases h:(10:Int) ^ 18<=c
 ·have h':(1000000000000000000:Int)<=c:=h;simp[ej,p1,p2,h']
 ·have h':¬ (1000000000000000000:Int)<=c:=h;obtain⟨a1,a2⟩:=cC (c*48271+k*69621+11) (b:=2147483629) (by decide);generalize hn:(c*48271+k*69621+11).fmod 2147483629=n at *;obtain⟨a3,a4⟩:=cC (n*n) (b:=2147483587) (by decide);have m1:cg .mul (.int n) (.int n)=ok (.int (n*n)):=iQ (pd _ (by left));generalize hm:(n*n).fmod 2147483587=m at *;have m2:cg .mul (.int m) (.int m)=ok (.int (m*m)):=iQ (pd _ (by left));simp[ej,p1,h',hn,m1,hm,m2]
theorem EM(Φ:aV):qh (mk Φ 2 4 ej):=by
 intro ns k hk;have:=λc=>wO Φ (.lst .sc (ao ns)) k c rfl none;by_cases h:k<ns.length
 ·have hg:m7 (ao ns) k=ok (.int (ns.getD k.toNat 0)):=by
   have hl:k.toNat<ns.length:=by left
   rw[at_of hk (d:=.int (ns.getD k.toNat 0)) (by rw[nU,List.getElem?_eq_getElem hl,Option.map_some,List.getD_eq_getElem?_getD,List.getElem?_eq_getElem hl];rfl)];simp
  have e:lq (bE Φ ej ([some (D.lst Fl.sc (ao ns)),some (D.int k)]++[none,none]))=lq (bE Φ (ej.drop 2) [some (.lst .sc (ao ns)),some (.int k),some (.int (ns.getD k.toNat 0)),none]):=by
   rw[ej,c0,qt];simp only[DB,vm,eP,mq];simp only[List.cons_append,List.nil_append,vA,List.length_cons,List.length_nil,Nat.reduceAdd,Nat.reduceLT,gR,List.set_cons_succ,List.set_cons_zero];rw[c0,sk];simp[h,hg]
  rw[mk_eq (ar:=2) (ds:=[_,_]) rfl];refine(show _=_ from e).trans ?_;rw[this,cD,if_pos h]
 ·have e:lq (bE Φ ej ([some (D.lst Fl.sc (ao ns)),some (D.int k)]++[none,none]))=lq (bE Φ (ej.drop 2) [some (.lst .sc (ao ns)),some (.int k),some (.int 0),none]):=by
   rw[ej,c0,qt];simp only[DB,vm,eP,mq];simp only[List.cons_append,List.nil_append,vA,List.length_cons,List.length_nil,Nat.reduceAdd,Nat.reduceLT,gR,List.set_cons_succ,List.set_cons_zero];rw[c0,sk];simp[h]
  rw[mk_eq (ar:=2) (ds:=[_,_]) rfl];refine(show _=_ from e).trans ?_;rw[this,cD,if_neg h]
noncomputable def jx:CS:=.CJ (.cmp .gt (.v 3) (.int 0)) [.par 2 3 (.v 3) (.bin .mod (.v 2) (.v 3))]
def jU:ah:=[.asg (.nm 2) (.bf .abs [(.v 0)]),.asg (.nm 3) (.bf .abs [(.v 1)]),jx,.ifs (.cmp .lt (.v 1) (.int 0)) [.asg (.nm 2) (.bin .sub (.int 0) (.v 2))] [],.ret (.tup [(.bin .fdiv (.v 0) (.v 2)),(.bin .fdiv (.v 1) (.v 2))])]
theorem tq(Φ:aV)(x y:aM):∀(n:Nat) (a b:Nat),b<=n->gM Φ jx [x,y,some (.int a),some (.int b)]=ok (.nx,[x,y,some (.int (Nat.gcd a b)),some (.int 0)]):=by
 intro n;induction n with
 |zero =>
  intro a b h;have hb:b=0:=by left
  subst hb;rw[jx,nE];exact gd (by simp)
 |succ n ih =>
  intro a b h;by_cases hb:b=0
  ·subst hb;rw[jx,nE];exact gd (by simp)
  ·have m4:=Nat.mod_lt a (show 0<b by left);have e:=ih b (a % b) (by left);have eg:Nat.gcd b (a % b)=Nat.gcd a b:=by rw[Nat.gcd_comm a b,Nat.gcd_rec b a,Nat.gcd_comm]
   rw[eg]at e;rw[jx,nE]at e ⊢;rw[<- e];have Ip:0<b:=by left
   have em:((a:Int)).fmod (b:Int)=((a % b:Nat):Int):=by
    rw[Int.fmod_eq_emod_of_nonneg _ (by left)];exact(Int.natCast_emod a b).symm
   have ep:gM Φ (.par 2 3 (.v 3) (.bin .mod (.v 2) (.v 3))) [x,y,some (.int a),some (.int b)]=ok (.nx,[x,y,some (.int b),some (.int ((a % b:Nat):Int))]):=by
    rw[II];simp[hb,em]
   exact lX (by simp[Ip,ep])
theorem AR(Φ:aV):jY (mk Φ 2 4 jU):=by
 intro t b hb h;obtain⟨e1,e2⟩:=tO (t:=t) hb;have d1:=lJ (t:=t) hb h t;have d2:=lJ (t:=t) hb h b;have hl:=tq Φ (some (.int t)) (some (.int b)) b.natAbs t.natAbs b.natAbs (Xj _);rw[qD,<- e1,<- e2];by_cases hn:b<0
 ·have ed:0 - (Nat.gcd t.natAbs b.natAbs:Int)=e_ t b:=by simp[e_,hn,Int.gcd]
  have QZ:-(Nat.gcd t.natAbs b.natAbs:Int)=e_ t b:=by simp[e_,hn,Int.gcd]
  simp[mk_eq,jU,hl,hn,QZ,d1,d2]
 ·have ed:(Nat.gcd t.natAbs b.natAbs:Int)=e_ t b:=by simp[e_,hn,Int.gcd]
  simp[mk_eq,jU,hl,hn,ed,d1,d2]
noncomputable def bw(qs:aK)(h:Int):Rat:=qs.getD h.toNat 0
theorem bO{h:Int}(h0:0<=h)(h1:h<qs.length):qs[h.toNat]?=some (bw qs h)/\bw qs h∈qs:=by
 have hl:h.toNat<qs.length:=by left
 have e:qs[h.toNat]?=some (bw qs h):=by
  unfold bw;rw[List.getD_eq_getElem?_getD,List.getElem?_eq_getElem hl];rfl
 exact⟨e,Xt e⟩
theorem jV{h:Int}(h0:0<=h)(h1:h<qs.length):m7 (aL qs) h=ok (qD (bw qs h)):=by
 rw[at_of h0 (d:=qD (bw qs h)) (by rw[AZ,(bO h0 h1).1];rfl)];simp
theorem sV(n:Nat)(f:Fl)(qs:aK):bR (n+2) (.lst f (aL qs))=true:=uK (Du n) qs
theorem vZ{q:Rat}(h:0<q):0<q.num:=by
 have:=(Rat.lt_iff 0 q).mp h;simpa using this
theorem qO{q:Rat}(h:0<q):¬ q.num<=0:=by have:=vZ h;left
def ck(m:aD):Prop:=∀f qs,1<=qs.length->qs.length<=12->m [.lst f (aL qs)]=ok .bB
noncomputable def aZ:ah:=[.ifs (.or [(.not (.sg (.v 0) .list)),(.cmp .lt (.bf .len [(.v 0)]) (.int 1)),(.cmp .gt (.bf .len [(.v 0)]) (.glo "MOST_HOUSES" 12))]) [.rs 3] [],.ex (.call 46 [(.v 0),(.bf .len [(.v 0)])])]
theorem gW(Φ:aV)(zk:b7 3 cz (Φ 46)):ck (mk Φ 1 1 aZ):=by
 intro f qs h1 h2;have e:=λf=>zk (.lst f (aL qs)) qs.length (by show(aL qs).length<=1000000;simp;left);have a1:¬ (qs.length:Int)<1:=by left
 have a2:¬ (12:Int)<qs.length:=by left
 simp only[kE,decide_true,if_true]at e;simp[mk_eq,aZ,cX,a1,a2,e]
def iH(m:aD):Prop:=∀f qs lot,lQ qs.length lot->(∀h∈lot,0<bw qs h)->m [.lst f (aL qs),.tup (ao lot)]=ok .bB
noncomputable def iy:ah:=[.ifs (.cmp .le (.ix (.ix (.v 0) (.v 2)) (.int 0)) (.int 0)) [.rs 3] []]
def bj:ah:=[.fr (.nm 2) (.seq (.v 1)) iy]
theorem mS(Φ:aV)(f:Fl)(qs:aK)(y:aM):∀(lot:ai) (z:aM),(∀h∈lot,(0<=h/\h<(qs.length:Int))/\0<bw qs h) ->
  ∃z',fT (λd ρ=>cE (.nm 2) d ρ) (λρ=>bE Φ iy ρ) (ao lot) [some (.lst f (aL qs)),y,z]=ok (.nx,[some (.lst f (aL qs)),y,z'])
 |[],z,_=>⟨z,rfl⟩
 |h::lot,z,hs=>by
  obtain⟨⟨a,b⟩,c⟩:=hs h Xn;obtain⟨z',ih⟩:=mS Φ f qs y lot (some (.int h)) λk hk=>hs k (Xm _ hk);refine⟨z',kz (ρ1:=[some (.lst f (aL qs)),y,some (.int h)]) (by simp) (ρ2:=[some (.lst f (aL qs)),y,some (.int h)]) ?_ ih⟩;simp[iy,jV a b,qO c]
theorem gX(Φ:aV):iH (mk Φ 2 3 bj):=by
 intro f qs lot hl hp;obtain⟨z',e⟩:=mS Φ f qs (some (.tup (ao lot))) lot none λh hh=>⟨hl.2 h hh,hp h hh⟩
 have hit:dQ Φ (.seq (.v 1)) [some (.lst f (aL qs)),some (.tup (ao lot)),none]=ok (ao lot,[some (.lst f (aL qs)),some (.tup (ao lot)),none]):=by
  rw[FZ (ds:=ao lot) (by simp)];simp
 have:=nF (t:=.nm 2) (b:=iy) hit e;simp[mk_eq,bj,this]
noncomputable def My(p:Rat×Rat):D:=.tup [qD p.1,qD p.2]
theorem xp(hz:Φ 1000=vJ)(f g:Fl)(ps qs:aK):dB Φ (.eG 1000) [.lst f (aL ps),.lst g (aL qs)]=ok ((ps.zip qs).map My):=by
 show bd (Φ 1000 _) qH=_;rw[hz];show ok (aw aA (List.zipWith (λx y=>D.tup [x,y]) (aL ps) (aL qs)))=_;congr 1;unfold aL;rw[List.zipWith_map,aE,List.map_zipWith,List.zip,List.map_zipWith];simp[My]
noncomputable def iF:CE:=.comp 2 (.tp [0,1]) [] (.eG 1000) [(.v 0),(.v 2)] [] (.call 5 [(.v 1),(.v 0)])
noncomputable def pT:CE:=.comp 1 (.nm 0) [0,3] .seq [(.v 1)] [] (.call 7 [(.call 6 [(.ix (.v 2) (.v 0)),(.ix (.v 2) (.v 0))]),(.ix (.v 1) (.v 0))])
def b9:ah:=[.ex (.call 105 [(.v 0)]),.ex (.call 46 [(.v 2),(.bf .len [(.v 0)])]),.ex (.call 106 [(.v 1),(.bf .len [(.v 0)])]),.ex (.call 107 [(.v 0),(.v 1)]),.asg (.nm 3) iF,.ret (.call 42 [pT])]
theorem lQ.len{n:Nat}{l:ai}(h:lQ n l):l.length<=n:=by
 have hn:(l.map Int.toNat).Nodup:=by
  unfold List.Nodup;rw[List.pairwise_map];refine h.1.imp_of_mem λha hb z e=>?_;have:=h.2 _ ha;have:=h.2 _ hb;left
 have hs:(l.map Int.toNat) ⊆ List.range n:=λx hx=>by
  obtain⟨y,hy,rfl⟩:=List.mem_map.mp hx;have:=h.2 y hy;rw[List.mem_range];left
 have:=hn.length_le_of_subset hs;simpa using this
theorem lQ.cY{n:Nat}{l:ai}(h:lQ n l)(hn:n<=12):fb (.tup (ao l)):=by
 have:=h.len;show(ao l).length<64;simp;left
theorem oz{i j:Nat}{k e:CE}{ρ':aU}{d:D}{z:Int}(h1:eY Φ e ρ=ok (d,ρ'))(h2:aX Φ k ρ'=ok (.int z))(h3:ρ'[i]?=some (some (.lst .ow ds)))(h4:pB ds.length z=some j):
  gM Φ (.setI i k e) ρ=ok (.nx,ρ'.set i (some (.lst .ow (ds.set j d)))):=by
 show bd (eY Φ e ρ) _=_;rw[h1,de];dsimp only;rw[h2];show(match sU ρ'[i]? with|some ds=>_|none=>_)=_;rw[h3];show(match pB ds.length z with|some j=>_|none=>_)=_;rw[h4]
theorem FV{n:Nat}{h:Int}(h0:0<=h)(h1:h<n):pB n h=some h.toNat:=by
 unfold pB;rw[if_pos h0,if_pos h1]
theorem vy{h k:Int}{q:Rat}(h0:0<=h)(h1:h<qs.length)(k0:0<=k):bw (qs.set h.toNat q) k=if h=k then q else bw qs k:=by
 unfold bw;rw[List.getD_eq_getElem?_getD,List.getElem?_set];by_cases e:h=k
 ·subst e;rw[if_pos rfl,if_pos (by left),if_pos rfl];rfl
 ·rw[if_neg (by left),if_neg e,List.getD_eq_getElem?_getD]
theorem xU{t b:Int}{k:Nat}(h0:b≠0)(h1:t.natAbs<2 ^ k)(h2:b.natAbs<2 ^ k):Sm k (Rat.divInt t b):=vU h0 h1 h2
theorem jh{t b:Int}(ht:0<t)(hb:0<b):0<Rat.divInt t b:=by
 rw[Rat.divInt_eq_div];have h1:(0:Rat)<(t:Rat):=by
  have:=Rat.intCast_lt_intCast (a:=0) (b:=t);simpa using this.mpr ht
 have h2:(0:Rat)<(b:Rat):=by
  have:=Rat.intCast_lt_intCast (a:=0) (b:=b);simpa using this.mpr hb
 rw[Rat.div_def];exact Rat.mul_pos h1 (Rat.inv_pos.mpr h2)
theorem Sm.neg{k:Nat}{q:Rat}(h:Sm k q):Sm k (-q):=⟨by simpa using h.1,h.2⟩
theorem Sm.zero(k:Nat)(h:1<=k):Sm k 0:=by
 have:Sm 1 (0:Rat):=by constructor<;>decide
 exact this.mono h
theorem Sm.sum{k:Nat}:∀{qs:aK},(∀q∈qs,Sm k q)->Sm (1+(k+1)*qs.length) qs.sum
 |[],_=>Sm.zero _ (by simp)
 |q::qs,h=>by
  have h1:=h q Xn;have h2:=Sm.sum (qs:=qs) λp hp=>h p (Xm _ hp);rw[List.sum_cons];refine(h1.add h2).mono ?_;rw[List.length_cons,Nat.mul_succ];left
noncomputable def dY(l:ai)(f:Int->Rat):Rat:=(l.map f).sum
@[simp]theorem Jp(f:Int->Rat):dY [] f=0:=rfl
theorem vS(h:Int)(l:ai)(f:Int->Rat):dY (h::l) f=f h+dY l f:=rfl
theorem l6{l:ai}{f g:Int->Rat}(h:∀x∈l,f x=g x):dY l f=dY l g:=by
 unfold dY;rw[List.map_congr_left h]
theorem xN{l:ai}{f:Int->Rat}(hp:∀h∈l,0<f h)(hl:l≠[]):0<dY l f:=by
 induction l with
 |nil=>exact absurd rfl hl
 |cons h l ih =>
  rw[vS];have h1:=hp h Xn;cases l with
  |nil=>simp;grind
  |cons k l =>
   have:=ih (λx hx=>hp x (Xm _ hx)) (by simp);grind
def qg(m:aD):Prop:=∀f g ws lot os a b,1<=ws.length->ws.length<=12->os.length=ws.length->lQ ws.length lot->(∀h∈lot,0<bw ws h)->(∀w∈ws,Sm a w)->(∀w∈os,Sm b w)->(3*a+2*b+2)*lot.length<=3000->a<=500->b<=500 ->
 m [.lst f (aL ws),.tup (ao lot),.lst g (aL os)]=ok (qD (dY lot λh=>(bw os h - bw ws h)*(bw os h - bw ws h) / bw ws h))
theorem AQ(Φ:aV)(h5:uh (Φ 5))(h6:jX (Φ 6))(h7:HC (Φ 7))(MW:gw (Φ 42))(zk:b7 3 cz (Φ 46))(mv:ck (Φ 105))(kr:b7 7 cN (Φ 106))(nA:iH (Φ 107))(hz:Φ 1000=vJ):
  qg (mk Φ 3 4 b9):=by
 intro f g ws lot os ka kb l1 l2 l3 hl hp hw ho hk W6 Vr;have c1:=λf=>mv f ws l1 l2;have c2:=λf=>zk (.lst f (aL os)) ws.length (by show(aL os).length<=1000000;simp;left);have c3:=kr (.tup (ao lot)) ws.length (hl.cY l2);have c4:=λf=>nA f ws lot hl hp;simp only[kE,l3,decide_true,if_true]at c2;simp only[hl.cN,if_true]at c3;have k1:aX Φ iF [some (.lst f (aL ws)),some (.tup (ao lot)),some (.lst g (aL os)),none]=ok (.lst .ow (aL ((ws.zip os).map λp=>p.2 - p.1))):=by
  unfold iF;rw[eh (xs:=[.lst (aG f) (aL ws),.lst (aG g) (aL os)]) (by simp) (xp hz ..) (ds:=(ws.zip os).map λp=>qD (p.2 - p.1)) (cH λp hp=>?_) (by simp;exact cc (by left))]
  ·simp[aL,aE]
  ·have m1:=Yi hp;have e:=h5 p.2 p.1 ((ho _ m1.2).mono (by left)) ((hw _ m1.1).mono (by left));exact⟨[some (qD p.1),some (qD p.2)],by simp[bN,My],by simp,by simp[e]⟩
 have Vu:∀h∈lot,bw ((ws.zip os).map λp=>p.2 - p.1) h=bw os h - bw ws h:=λh hh=>by
  obtain⟨a,b⟩:=hl.2 h hh;obtain⟨g1,_⟩:=bO (qs:=ws) a b;obtain⟨g2,_⟩:=bO (qs:=os) a (by left);unfold bw at *;rw[List.getD_eq_getElem?_getD,List.getElem?_map,List.zip,List.getElem?_zipWith,g1,g2];rfl
 have k2:aX Φ pT [some (.lst f (aL ws)),some (.tup (ao lot)),some (.lst g (aL os)),some (.lst .ow (aL ((ws.zip os).map λp=>p.2 - p.1)))]=ok (.lst .ow (aL (lot.map λh=>(bw os h - bw ws h)*(bw os h - bw ws h) / bw ws h))):=by
  unfold pT;rw[eh (xs:=[.tup (ao lot)]) (items:=lot.map D.int) (ds:=lot.map λh=>qD ((bw os h - bw ws h)*(bw os h - bw ws h) / bw ws h)) (by simp) (by rw[lG,fi];rfl) (cH λh hh=>?_) (by simp;exact cc (by have:=hl.len;left))]
  ·simp[aL,aE]
  ·obtain⟨a,b⟩:=hl.2 h hh;obtain⟨_,m1⟩:=bO (qs:=ws) a b;obtain⟨_,m2⟩:=bO (qs:=os) a (by left);have s1:=hw _ m1;have s2:=ho _ m2;have s3:=s2.sub s1;have e6:=h6 _ _ (s3.mono (by left)) (s3.mono (by left));have pG:bw ws h≠0:=by have:=hp h hh;grind
   have e7:=h7.1 _ _ ((s3.mul s3).mono (by left)) (s1.mono (by left)) pG;have a1:=jV (qs:=ws) a b;have a2:=jV (qs:=(ws.zip os).map λp=>p.2 - p.1) a (by simp;left);rw[Vu h hh]at a2;exact⟨[some (.int h),some (.lst (aA f) (aL ws)),some (.lst .fz (aL ((ws.zip os).map λp=>p.2 - p.1)))],by simp[bN],by simp,by simp[a1,a2,e6,e7]⟩
 have Va:xj (3*ka+2*kb+2) (lot.map λh=>(bw os h - bw ws h)*(bw os h - bw ws h) / bw ws h):=by
  refine⟨λq hq=>?_,by simpa using hk,by have:=hl.len;simp;left⟩;obtain⟨h,hh,rfl⟩:=List.mem_map.mp hq;obtain⟨a,b⟩:=hl.2 h hh;obtain⟨_,m1⟩:=bO (qs:=ws) a b;obtain⟨_,m2⟩:=bO (qs:=os) a (by left);have s3:=(ho _ m2).sub (hw _ m1);exact((s3.mul s3).div (hw _ m1) (by have:=hp h hh;grind)).mono (by left)
 have k3:=λf=>MW f _ _ Va;simp[mk_eq,b9,c1,c2,c3,c4,FT Φ iF _ rfl,k1,k2,k3,dY]
def wa(ws:aK)(lot:ai)(hs:aK)(t:Rat):Rat:=(t - dY lot λh=>bw ws h*bw hs h) / (dY lot λh=>bw ws h*bw hs h*bw hs h)
def ig(m:aD):Prop:=∀f g ps lot hs t k b,hs.length=ps.length->lQ ps.length lot->ps.length<=12->(∀q∈ps,Sm k q)->(∀q∈hs,Sm b q)->Sm 2000 t->(k+b+1)*lot.length<=1500 ->
 (dY lot (λh=>bw ps h*bw hs h)≠0->m [.lst f (aL ps),.tup (ao lot),.lst g (aL hs),qD t]=ok (qD ((t - dY lot λh=>bw ps h) / (dY lot λh=>bw ps h*bw hs h)))) /\
 (dY lot (λh=>bw ps h*bw hs h)=0->m [.lst f (aL ps),.tup (ao lot),.lst g (aL hs),qD t]=some (.error 0))
noncomputable def zG:CE:=.comp 1 (.nm 0) [0] .seq [(.v 1)] [] (.ix (.v 1) (.v 0))
noncomputable def zF:CE:=.comp 1 (.nm 0) [0,2] .seq [(.v 1)] [] (.call 6 [(.ix (.v 1) (.v 0)),(.ix (.v 2) (.v 0))])
def cI:ah:=[.asg (.nm 4) (.call 5 [(.v 3),(.call 42 [zG])]),.ret (.call 7 [(.v 4),(.call 42 [zF])])]
theorem l9(Φ:aV)(h5:uh (Φ 5))(h6:jX (Φ 6))(h7:HC (Φ 7))(MW:gw (Φ 42)):ig (mk Φ 4 5 cI):=by
 intro f g ps lot hs t k b l1 hl l2 hp SN ht Vr;have W5:k*lot.length<=(k+b+1)*lot.length:=XW _ (by left);have Vq:(k+b)*lot.length<=(k+b+1)*lot.length:=XW _ (by left);have W7:(k+1)*lot.length<=(k+b+1)*lot.length:=XW _ (by left);have mem:∀h∈lot,(bw ps h∈ps/\bw hs h∈hs)/\m7 (aL ps) h=ok (qD (bw ps h))/\m7 (aL hs) h=ok (qD (bw hs h)):=λh hh=>by
  obtain⟨a,b⟩:=hl.2 h hh;exact⟨⟨(bO a b).2,(bO a (by left)).2⟩,jV a b,jV a (by left)⟩
 have k1:∀z,aX Φ zG [some (.lst f (aL ps)),some (.tup (ao lot)),some (.lst g (aL hs)),some (qD t),z]=ok (.lst .ow (aL (lot.map (bw ps)))):=λz=>by
  unfold zG;rw[eh (xs:=[.tup (ao lot)]) (items:=lot.map D.int) (ds:=lot.map λh=>qD (bw ps h)) (by simp) (by rw[lG,fi];rfl) (cH λh hh=>?_) (by simp;exact cc (by have:=hl.len;left))]
  ·simp[aL,aE]
  ·obtain⟨_,a1,_⟩:=mem h hh;exact⟨[some (.int h),some (.lst (aA f) (aL ps))],by simp[bN],by simp,by simp[a1]⟩
 have one:∀h∈lot,1<=lot.length:=λh hh=>List.length_pos_of_mem hh;have k2:∀z,aX Φ zF [some (.lst f (aL ps)),some (.tup (ao lot)),some (.lst g (aL hs)),some (qD t),z]=ok (.lst .ow (aL (lot.map λh=>bw ps h*bw hs h))):=λz=>by
  unfold zF;rw[eh (xs:=[.tup (ao lot)]) (items:=lot.map D.int) (ds:=lot.map λh=>qD (bw ps h*bw hs h)) (by simp) (by rw[lG,fi];rfl) (cH λh hh=>?_) (by simp;exact cc (by have:=hl.len;left))]
  ·simp[aL,aE]
  ·obtain⟨⟨m1,m2⟩,a1,a2⟩:=mem h hh;have ho:=one h hh;have hz:(k+b+1)*1<=(k+b+1)*lot.length:=Nat.mul_le_mul_left _ ho;have e6:=h6 _ _ ((hp _ m1).mono (by left)) ((SN _ m2).mono (by left));exact⟨[some (.int h),some (.lst (aA f) (aL ps)),some (.lst (aA g) (aL hs))],by simp[bN],by simp,by simp[a1,a2,e6]⟩
 have RQ:xj k (lot.map (bw ps)):=⟨λq hq=>by
  obtain⟨h,hh,rfl⟩:=List.mem_map.mp hq;exact hp _ (mem h hh).1.1,by simp;left,by have:=hl.len;simp;left⟩
 have RP:xj (k+b) (lot.map λh=>bw ps h*bw hs h):=⟨λq hq=>by
  obtain⟨h,hh,rfl⟩:=List.mem_map.mp hq;exact(hp _ (mem h hh).1.1).mul (SN _ (mem h hh).1.2),by simp;left,by have:=hl.len;simp;left⟩
 have t1:=λf=>MW f _ _ RQ;have t2:=λf=>MW f _ _ RP;have s1:=Sm.sum RQ.sm;have s2:=Sm.sum RP.sm;simp only[List.length_map]at s1 s2;have e5:=h5 t _ (ht.mono (by left)) (s1.mono (by left));have s3:=ht.sub s1;refine⟨λpG=>?_,λhz=>?_⟩
 ·have e7:=h7.1 _ _ (s3.mono (by left)) (s2.mono (by left)) pG;simp[mk_eq,cI,k1,k2,t1,t2,e5,e7];rfl
 ·have e7:=h7.2 _ (s3.mono (by left));have UY:(lot.map λh=>bw ps h*bw hs h).sum=0:=hz;simp[mk_eq,cI,k1,k2,t1,t2,e5,e7,UY]
noncomputable def ib:CE:=.comp 2 (.tp [0,1]) [] (.eG 1000) [(.v 0),(.v 2)] [] (.call 6 [(.v 0),(.v 1)])
noncomputable def uz:ah:=[.setI 6 (.v 7) (.call 4 [(.ix (.v 0) (.v 7)),(.call 6 [(.v 5),(.ix (.v 4) (.v 7))])])]
def bD:ah:=[.ex (.call 105 [(.v 0)]),.ex (.call 106 [(.v 1),(.bf .len [(.v 0)])]),.ex (.call 107 [(.v 0),(.v 1)]),.ex (.call 47 [(.v 2),(.bf .len [(.v 0)])]),.asg (.nm 4) ib,.asg (.nm 5) (.call 108 [(.v 4),(.v 1),(.v 2),(.v 3)]),.asg (.nm 6) (.bf .list1 [(.v 0)]),.fr (.nm 7) (.seq (.v 1)) uz,.ret (.v 6)]
structure D4(ws:aK)(lot:ai)(hs:aK)(t:Rat)(k b c:Nat):Prop where
 l1:1<=ws.length
 l2:ws.length<=12
 l3:hs.length=ws.length
 lt:lQ ws.length lot
 ps:∀h∈lot,0<bw ws h
 s1:∀q∈ws,Sm k q
 s2:∀q∈hs,Sm b q
 s3:Sm c t
 c1:(k+2*b+1)*lot.length<=1500
 c2:c+2*((k+2*b+1)*lot.length)+k+b<=3900
 c3:c<=2000
 c4:k+b<=3000
structure HD(ws:aK)(lot:ai)(hs:aK)(t:Rat)(told:aK):Prop where
 len:told.length=ws.length
 val:∀j:Int,0<=j->j<(ws.length:Int)->bw told j=if j∈lot then bw ws j+wa ws lot hs t*(bw ws j*bw hs j)else bw ws j
def ip(m:aD):Prop:=∀f g ws lot hs t k b c,D4 ws lot hs t k b c ->
 ((dY lot λh=>bw ws h*bw hs h*bw hs h)≠0->∃told,m [.lst f (aL ws),.tup (ao lot),.lst g (aL hs),qD t]=ok (.lst .ow (aL told))/\HD ws lot hs t told) /\
 ((dY lot λh=>bw ws h*bw hs h*bw hs h)=0->m [.lst f (aL ws),.tup (ao lot),.lst g (aL hs),qD t]=some (.error 0))
theorem qP(Φ:aV)(h4:zX (Φ 4))(h6:jX (Φ 6))(f:Fl)(ws ps:aK)(N:Rat)(k b s:Nat)(hl:ps.length=ws.length)(s1:∀q∈ws,Sm k q)(s2:∀q∈ps,Sm (k+b) q)(s3:Sm s N)(Vc:s+k+b<=4000)(y z u:aM):∀(lot:ai) (told:aK) (w:aM),told.length=ws.length->(∀h∈lot,0<=h/\h<(ws.length:Int))->lot.Nodup ->
  ∃(qz:aK) (w':aM),fT (λd ρ=>cE (.nm 7) d ρ) (λρ=>bE Φ uz ρ) (ao lot) [some (.lst f (aL ws)),y,z,u,some (.lst .ow (aL ps)),some (qD N),some (.lst .ow (aL told)),w]=ok (.nx,[some (.lst f (aL ws)),y,z,u,some (.lst .ow (aL ps)),some (qD N),some (.lst .ow (aL qz)),w']) /\
   qz.length=ws.length/\∀j:Int,0<=j->j<(ws.length:Int)->bw qz j=if j∈lot then bw ws j+N*bw ps j else bw told j
 |[],told,w,ht,_,_=>⟨told,w,rfl,ht,λj _ _=>by simp⟩
 |h::lot,told,w,ht,hb,hn=>by
  obtain⟨a,b'⟩:=hb h Xn;obtain⟨_,m1⟩:=bO (qs:=ws) a b';obtain⟨_,m2⟩:=bO (qs:=ps) a (by left);have e6:=h6 N _ (s3.mono (by left)) ((s2 _ m2).mono (by left));have e4:=h4 _ _ ((s1 _ m1).mono (by left)) ((s3.mul (s2 _ m2)).mono (by left));have a1:=jV (qs:=ws) a b';have a2:=jV (qs:=ps) a (by left);have nd:=List.nodup_cons.mp hn;obtain⟨qz,w',e,l,v⟩:=qP Φ h4 h6 f ws ps N k b s hl s1 s2 s3 Vc y z u lot (told.set h.toNat (bw ws h+N*bw ps h)) (some (.int h)) (by simp[ht]) (λj hj=>hb j (Xm _ hj)) nd.2;refine⟨qz,w',kz (ρ1:=[some (.lst f (aL ws)),y,z,u,some (.lst .ow (aL ps)),some (qD N),some (.lst .ow (aL told)),some (.int h)]) (by simp) (ρ2:=[some (.lst f (aL ws)),y,z,u,some (.lst .ow (aL ps)),some (qD N),some (.lst .ow (aL (told.set h.toNat (bw ws h+N*bw ps h)))),some (.int h)]) ?_ e,l,λj h0 h1=>?_⟩
  ·have x1:=oz (Φ:=Φ) (i:=6) (j:=h.toNat) (k:=.v 7) (e:=.call 4 [(.ix (.v 0) (.v 7)),(.call 6 [(.v 5),(.ix (.v 4) (.v 7))])]) (ρ:=[some (.lst f (aL ws)),y,z,u,some (.lst .ow (aL ps)),some (qD N),some (.lst .ow (aL told)),some (.int h)]) (ρ':=[some (.lst f (aL ws)),y,z,u,some (.lst .ow (aL ps)),some (qD N),some (.lst .ow (aL told)),some (.int h)]) (d:=qD (bw ws h+N*bw ps h)) (z:=h) (ds:=aL told) (by simp[a1,a2,e6,e4]) (by simp) (by simp) (by rw[AY];exact FV a (by left));simp[uz,x1]
  ·rw[v j h0 h1,vy a (by left) h0];by_cases hj:j∈lot
   ·rw[if_pos hj,if_pos (List.mem_cons_of_mem _ hj)]
   ·rw[if_neg hj];by_cases e:h=j
    ·subst e;rw[if_pos rfl,if_pos List.mem_cons_self]
    ·rw[if_neg e,if_neg (by
      intro z;rcases List.mem_cons.mp z with z|z
      ·exact e z.symm
      ·exact hj z)]
theorem qJ(Φ:aV)(h4:zX (Φ 4))(h6:jX (Φ 6))(QB:b7 4 cz (Φ 47))(mv:ck (Φ 105))(kr:b7 7 cN (Φ 106))(nA:iH (Φ 107))(QF:ig (Φ 108))(hz:Φ 1000=vJ):
  ip (mk Φ 4 8 bD):=by
 intro f g ws lot hs t k b c P;have l2:=P.l2;have l3:=P.l3;have c1:=λf=>mv f ws P.l1 l2;have c2:=kr (.tup (ao lot)) ws.length (P.lt.cY l2);have c3:=λf=>nA f ws lot P.lt P.ps;have c4:=λf=>QB (.lst f (aL hs)) ws.length (by show(aL hs).length<=1000000;simp;left);simp only[kE,l3,decide_true,if_true]at c4;simp only[P.lt.cN,if_true]at c2;have q4:=P.c4;have q1:=P.c1;have q2:=P.c2;have q3:=P.c3
 let ps:=(ws.zip hs).map λp=>p.1*p.2
 have lp:ps.length=ws.length:=by simp[ps,l3]
 have k1:aX Φ ib [some (.lst f (aL ws)),some (.tup (ao lot)),some (.lst g (aL hs)),some (qD t),none,none,none,none]=ok (.lst .ow (aL ps)):=by
  unfold ib;rw[eh (xs:=[.lst (aG f) (aL ws),.lst (aG g) (aL hs)]) (by simp) (xp hz ..) (ds:=(ws.zip hs).map λp=>qD (p.1*p.2)) (cH λp hp=>?_) (by simp;exact cc (by left))]
  ·simp[ps,aL,aE]
  ·have m1:=Yi hp;have e:=h6 p.1 p.2 ((P.s1 _ m1.1).mono (by left)) ((P.s2 _ m1.2).mono (by left));exact⟨[some (qD p.1),some (qD p.2)],by simp[bN,My],by simp,by simp[e]⟩
 have vp:∀j:Int,0<=j->j<(ws.length:Int)->bw ps j=bw ws j*bw hs j:=λj h0 h1=>by
  obtain⟨g1,_⟩:=bO (qs:=ws) h0 h1;obtain⟨g2,_⟩:=bO (qs:=hs) h0 (by left);unfold bw at *;show((ws.zip hs).map λp=>p.1*p.2).getD j.toNat 0=_;rw[List.getD_eq_getElem?_getD,List.getElem?_map,List.zip,List.getElem?_zipWith,g1,g2];rfl
 have sp:∀q∈ps,Sm (k+b) q:=λq hq=>by
  obtain⟨p,hp,rfl⟩:=List.mem_map.mp hq;have m1:=Yi hp;exact(P.s1 _ m1.1).mul (P.s2 _ m1.2)
 have lt':lQ ps.length lot:=by rw[lp];exact P.lt
 have e1:(dY lot λh=>bw ps h)=dY lot λh=>bw ws h*bw hs h:=l6 λh hh=>vp h (P.lt.2 h hh).1 (P.lt.2 h hh).2;have e2:(dY lot λh=>bw ps h*bw hs h)=dY lot λh=>bw ws h*bw hs h*bw hs h:=l6 λh hh=>by rw[vp h (P.lt.2 h hh).1 (P.lt.2 h hh).2]
 have q5:(k+b+b+1)*lot.length<=1500:=by rw[show k+b+b+1=k+2*b+1 by left];exact q1
 have R:=λf g=>QF f g ps lot hs t (k+b) b (by left) lt' (by left) sp P.s2 (P.s3.mono (by left)) q5;rw[e1,e2]at R;refine⟨λpG=>?_,λh0=>?_⟩
 ·have r1:=λf g=>(R f g).1 pG;have sA:Sm (1+(k+b+1)*lot.length) (dY lot λh=>bw ws h*bw hs h):=by
   have:=Sm.sum (k:=k+b) (qs:=lot.map λh=>bw ws h*bw hs h) λq hq=>by
    obtain⟨h,hh,rfl⟩:=List.mem_map.mp hq;exact(P.s1 _ (bO (P.lt.2 h hh).1 (P.lt.2 h hh).2).2).mul (P.s2 _ (bO (P.lt.2 h hh).1 (by have:=P.lt.2 h hh;left)).2)
   rw[List.length_map]at this;exact this
  have sB:Sm (1+(k+2*b+1)*lot.length) (dY lot λh=>bw ws h*bw hs h*bw hs h):=by
   have:=Sm.sum (k:=k+2*b) (qs:=lot.map λh=>bw ws h*bw hs h*bw hs h) λq hq=>by
    obtain⟨h,hh,rfl⟩:=List.mem_map.mp hq;have sh:=P.s2 _ (bO (qs:=hs) (P.lt.2 h hh).1 (by have:=P.lt.2 h hh;left)).2;exact(((P.s1 _ (bO (P.lt.2 h hh).1 (P.lt.2 h hh).2).2).mul sh).mul sh).mono (by left)
   rw[List.length_map]at this;exact this
  have sN:Sm (c+(1+(k+b+1)*lot.length)+1+(1+(k+2*b+1)*lot.length)) (wa ws lot hs t):=(P.s3.sub sA).div sB pG;have SH:(k+b+1)*lot.length<=(k+2*b+1)*lot.length:=XW _ (by left);obtain⟨told,w',el,l,v⟩:=qP Φ h4 h6 f ws ps (wa ws lot hs t) k b _ lp P.s1 sp sN (by left) (some (.tup (ao lot))) (some (.lst g (aL hs))) (some (qD t)) lot ws none rfl P.lt.2 P.lt.nodup;have hit:dQ Φ (.seq (.v 1)) [some (.lst f (aL ws)),some (.tup (ao lot)),some (.lst g (aL hs)),some (qD t),some (.lst .ow (aL ps)),some (qD (wa ws lot hs t)),some (.lst .ow (aL ws)),none]=ok (ao lot,[some (.lst f (aL ws)),some (.tup (ao lot)),some (.lst g (aL hs)),some (qD t),some (.lst .ow (aL ps)),some (qD (wa ws lot hs t)),some (.lst .ow (aL ws)),none]):=by
   rw[FZ (ds:=ao lot) (by simp)];simp
  have hf:=nF (t:=.nm 7) (b:=uz) hit el;refine⟨told,?_,l,λj h0 h1=>?_⟩
  ·have Ur:∀f g,Φ 108 [.lst f (aL ps),.tup (ao lot),.lst g (aL hs),qD t]=ok (qD (wa ws lot hs t)):=r1;simp[mk_eq,bD,c1,c2,c3,c4,FT Φ ib _ rfl,k1,Ur,hf]
  ·rw[v j h0 h1,vp j h0 h1]
 ·have r1:=λf g=>(R f g).2 h0;simp[mk_eq,bD,c1,c2,c3,c4,FT Φ ib _ rfl,k1,r1]
end DI
end
section
set_option maxHeartbeats 1000000
namespace DI
open PySem (Str)
theorem mQ{α β:Type}{x:O α}{f:α->O β}{n:Nat}(h:x=some (.error n)):bd x f=some (.error n):=by rw[h];rfl
variable {Φ:aV}
theorem p8{g n:Nat}{es:aC}{ρ:aU}{xs:aa}(h1:b8 Φ es ρ=ok xs)(h2:Φ g (aw aA xs)=some (.error n)):aX Φ (.call g es) ρ=some (.error n):=by
 show bd (b8 Φ es ρ) (λxs=>bd (Φ g (aw aA xs)) λr=>ok (af cq r))=_;rw[h1,kN,h2];rfl
mutual
theorem kQ.err{Φ:aV}{Ψ:Nat->aa->Prop}{n:Nat}(hΨ:∀g ds,Ψ g ds->Φ g ds=some (.error n)):∀{c:CS} {ρ:aU},kQ Φ Ψ n c ρ->gM Φ c ρ=some (.error n)
 |_,_,.ex h1 h2=>mQ (p8 h1 (hΨ _ _ h2))
 |_,_,.asg h1 h2=>mQ (mQ (p8 h1 (hΨ _ _ h2)))
 |_,_,.ret h1 h2=>mQ (mQ (p8 h1 (hΨ _ _ h2)))
 |_,_,.rs=>rfl
 |_,_,.BJ (c:=c) (a:=a) (b:=b) (ρ:=ρ) h1 h2=>by
  show bd (rK Φ c ρ) (λk=>if k then bE Φ a ρ else bE Φ b ρ)=_;rw[h1,kN];exact Er.err hΨ h2
 |_,_,.iff (c:=c) (a:=a) (b:=b) (ρ:=ρ) h1 h2=>by
  show bd (rK Φ c ρ) (λk=>if k then bE Φ a ρ else bE Φ b ρ)=_;rw[h1,kN];exact Er.err hΨ h2
 |_,_,.fr (t:=t) (a:=a) (b:=b) (ρ:=ρ) h1 h2 _=>by
  show bd (dQ Φ a ρ) (λr=>fT (λd ρ=>cE t d ρ) (λρ=>bE Φ b ρ) r.1 r.2)=_;rw[h1,kN];exact Aj.err hΨ h2
theorem Er.err{Φ:aV}{Ψ:Nat->aa->Prop}{n:Nat}(hΨ:∀g ds,Ψ g ds->Φ g ds=some (.error n)):∀{cs:ah} {ρ:aU},Er Φ Ψ n cs ρ->bE Φ cs ρ=some (.error n)
 |_,_,.hd (c:=c) (cs:=cs) (ρ:=ρ) h=>by
  rw[c0];unfold lY;exact mQ (kQ.err hΨ h)
 |_,_,.tl (c:=c) (cs:=cs) (ρ:=ρ) h1 h2=>by
  rw[c0];unfold lY;rw[h1,kN];exact Er.err hΨ h2
theorem Aj.err{Φ:aV}{Ψ:Nat->aa->Prop}{n:Nat}(hΨ:∀g ds,Ψ g ds->Φ g ds=some (.error n)):∀{t:Tg} {b:ah} {ds:aa} {ρ:aU},Aj Φ Ψ n t b ds ρ->fT (λd ρ=>cE t d ρ) (λρ=>bE Φ b ρ) ds ρ=some (.error n)
 |_,_,_,_,.hd (ρ:=ρ) h1 h2=>by
  unfold fT;rw[h1,kN];exact mQ (Er.err hΨ h2)
 |_,_,_,_,.tl h1 h2 h3=>by
  unfold fT;rw[h1,kN,h2,kN];exact Aj.err hΨ h3
end
theorem pf{ar n:Nat}{b:ah}{ds:aa}{e:Nat}(h:ds.length=ar)(he:bE Φ b (ds.map some++List.replicate (n - ds.length) none)=some (.error e)):mk Φ ar n b ds=some (.error e):=by
 rw[mk_eq h,he];rfl
end DI
end
section
set_option maxHeartbeats 1000000
namespace DI
open PySem (Str)
def fN(d:D):Bool:=match d with
 |.lst f ds=>decide (1<=ds.length)&&(decide (ds.length<=12)&&cz (.lst f ds) ds.length)
 |_=>false
theorem dO(g:Fl->Fl)(d:D):fN (af g d)=fN d:=by
 cases d<;>simp[fN];rename_i f ds;have:=bC g (.lst f ds) ds.length;simp[aE]at this ⊢;simp[this]
def we(p:D->Int->Bool)(ds:aa):Prop:=∃d n,ds=[d,.int n]/\fb d/\p d n=false
def HU(ds:aa):Prop:=∃d,ds=[d]/\fb d/\fN d=false
def HV(ds:aa):Prop:=∃f ws lot,ds=[.lst f (aL ws),.tup (ao lot)]/\lQ ws.length lot/\∃h∈lot,bw ws h<=0
def Gw(d:D)(ws:aK):Prop:=(∃f,d=.lst f (aL ws))/\1<=ws.length/\ws.length<=12
def FD(e:Nat)(ds:aa):Prop:=∃w l h t,ds=[w,l,h,t] /\
 ((e=3/\fb w/\fN w=false)\/∃ws,Gw w ws/\((e=7/\fb l/\cN l ws.length=false)\/∃lot,l=.tup (ao lot)/\lQ ws.length lot /\
  ((e=3/\∃h∈lot,bw ws h<=0)\/(e=4/\(∀h∈lot,0<bw ws h)/\fb h/\cz h ws.length=false))))
def FE(e:Nat)(ds:aa):Prop:=∃w l o,ds=[w,l,o] /\
 ((e=3/\fb w/\fN w=false)\/∃ws,Gw w ws/\((e=3/\fb o/\cz o ws.length=false)\/(fb o/\cz o ws.length=true/\((e=7/\fb l/\cN l ws.length=false)\/(e=3/\∃lot,l=.tup (ao lot)/\lQ ws.length lot/\∃h∈lot,bw ws h<=0)))))
def iR(e:Nat):Nat->aa->Prop
 |46=>λds=>e=3/\we cz ds
 |47=>λds=>e=4/\we cz ds
 |105=>λds=>e=3/\HU ds
 |106=>λds=>e=7/\we cN ds
 |107=>λds=>e=3/\HV ds
 |109=>FD e
 |110=>FE e
 |_=>λ_=>False
variable {ds:aa}{Φ:aV}
theorem mF{Ψ:Nat->aa->Prop}{f c:Nat}{p:D->Int->Bool}(hp:∀g d n,p (af g d) n=p d n)(h:∀d n,fb d->Φ f [d,.int n]=ok (.bl (p d n)))(hm:we p ds):ds.length=2/\Er Φ Ψ c (cf f c) (ds.map some++List.replicate (2 - ds.length) none):=by
 obtain⟨d,n,rfl,hc,hb⟩:=hm;have e1:=h (af aA (af aG d)) n (aT (aT hc));rw[hp,hp,hb]at e1;exact⟨rfl,.hd (.BJ (by simp[e1]) (.hd .rs))⟩
theorem vk{Ψ:Nat->aa->Prop}(OP:∀ds,we cz ds->Ψ 46 ds)(hm:HU ds):ds.length=1/\Er Φ Ψ 3 aZ (ds.map some++List.replicate (1 - ds.length) none):=by
 obtain⟨d,rfl,hc,hb⟩:=hm;refine⟨rfl,?_⟩;unfold aZ;cases d with
 |lst f ds =>
  by_cases h1:(ds.length:Int)<1
  ·exact .hd (.BJ (by simp[cX,aE,h1]) (.hd .rs))
  ·by_cases h2:(12:Int)<ds.length
   ·exact .hd (.BJ (by simp[cX,aE,h1,h2]) (.hd .rs))
   ·refine .tl (ρ':=[some (.lst f ds)]) (by simp[cX,aE,h1,h2]) (.hd (.ex (xs:=[af aG (.lst f ds),.int ds.length]) (by simp[aE]) ?_));refine OP _ ⟨af aA (af aG (.lst f ds)),ds.length,by simp,aT (aT hc),?_⟩;rw[bC,bC];have a1:1<=ds.length:=by left
    have a2:ds.length<=12:=by left
    simpa [fN,a1,a2]using hb
 |_=>exact .hd (.BJ (by simp[cX]) (.hd .rs))
theorem iO{Φ:aV}{Ψ:Nat->aa->Prop}(f:Fl)(qs:aK)(y:aM):∀(lot:ai) (z:aM),(∀h∈lot,0<=h/\h<(qs.length:Int))->(∃h∈lot,bw qs h<=0)->Aj Φ Ψ 3 (.nm 2) iy (ao lot) [some (.lst f (aL qs)),y,z]
 |[],_,_,h=>by obtain⟨_,h,_⟩:=h;cases h
 |h::lot,z,hs,hb=>by
  obtain⟨a,b⟩:=hs h Xn;by_cases c:0<bw qs h
  ·refine .tl (ρ1:=[some (.lst f (aL qs)),y,some (.int h)]) (ρ2:=[some (.lst f (aL qs)),y,some (.int h)]) (by simp) (by simp[iy,jV a b,qO c]) (iO f qs y lot _ (λk hk=>hs k (Xm _ hk)) ?_);obtain⟨k,hk,KZ⟩:=hb;rcases List.mem_cons.mp hk with rfl|hk
   ·exact absurd c (by grind)
   ·exact⟨k,hk,KZ⟩
  ·have hn:(bw qs h).num<=0:=by
    by_cases z:(bw qs h).num<=0
    ·exact z
    ·have:=jh (t:=(bw qs h).num) (b:=(bw qs h).den) (by left) (by have:=C2 (bw qs h);left);rw[d9]at this;exact absurd this c
   exact .hd (ρ1:=[some (.lst f (aL qs)),y,some (.int h)]) (by simp) (.hd (.BJ (by simp[jV a b,hn]) (.hd .rs)))
theorem rM{Ψ:Nat->aa->Prop}(hm:HV ds):ds.length=2/\Er Φ Ψ 3 bj (ds.map some++List.replicate (3 - ds.length) none):=by
 obtain⟨f,ws,lot,rfl,hl,hb⟩:=hm;have hit:dQ Φ (.seq (.v 1)) [some (.lst f (aL ws)),some (.tup (ao lot)),none]=ok (ao lot,[some (.lst f (aL ws)),some (.tup (ao lot)),none]):=by
  rw[FZ (ds:=ao lot) (by simp)];simp
 exact⟨rfl,.hd (.fr hit (iO f ws _ lot _ hl.2 hb) rfl)⟩
theorem Gw.cY{d:D}{ws:aK}(h:Gw d ws):fb d:=by
 obtain⟨⟨f,rfl⟩,h1,h2⟩:=h;show(aL ws).length<=1000000;simp;left
section
variable {Φ:aV}(zk:b7 3 cz (Φ 46))(mv:ck (Φ 105))(kr:b7 7 cN (Φ 106))(nA:iH (Φ 107))
include mv kr nA
theorem pS{e:Nat}{Ψ:Nat->aa->Prop}(UH:∀ds,e=4->we cz ds->Ψ 47 ds)(Fj:∀ds,e=3->HU ds->Ψ 105 ds)(Fi:∀ds,e=7->we cN ds->Ψ 106 ds)(Fh:∀ds,e=3->HV ds->Ψ 107 ds)(hm:FD e ds):ds.length=4/\Er Φ Ψ e bD (ds.map some++List.replicate (8 - ds.length) none):=by
 obtain⟨w,l,h,t,rfl,hm⟩:=hm;refine⟨rfl,?_⟩;unfold bD;rcases hm with ⟨rfl,hc,hb⟩|⟨ws,⟨⟨f,rfl⟩,l1,l2⟩,hm⟩
 ·refine .hd (.ex (xs:=[af aG w]) (by simp) (Fj _ rfl ⟨_,rfl,?_,?_⟩))
  ·exact aT (aT hc)
  ·rw[dO,dO];exact hb
 ·have c1:=λf=>mv f ws l1 l2;refine .tl (ρ':=[some (.lst f (aL ws)),some l,some h,some t,none,none,none,none]) (by simp[c1]) ?_;rcases hm with ⟨rfl,hc,hb⟩|⟨lot,rfl,hl,hm⟩
  ·refine .hd (.ex (xs:=[af aG l,.int ws.length]) (by simp) (Fi _ rfl ⟨_,ws.length,rfl,aT (aT hc),?_⟩));rw[di,di];exact hb
  ·have c2:=kr (.tup (ao lot)) ws.length (hl.cY l2);simp only[hl.cN,if_true]at c2;refine .tl (ρ':=[some (.lst f (aL ws)),some (.tup (ao lot)),some h,some t,none,none,none,none]) (by simp[c2]) ?_;rcases hm with ⟨rfl,hb⟩|⟨rfl,hp,hc,hb⟩
   ·exact .hd (.ex (xs:=[.lst (aG f) (aL ws),.tup (ao lot)]) (by simp) (Fh _ rfl ⟨_,ws,lot,by simp;rfl,hl,hb⟩))
   ·have c3:=λf=>nA f ws lot hl hp;refine .tl (ρ':=[some (.lst f (aL ws)),some (.tup (ao lot)),some h,some t,none,none,none,none]) (by simp[c3]) ?_;refine .hd (.ex (xs:=[af aG h,.int ws.length]) (by simp) (UH _ rfl ⟨_,ws.length,rfl,aT (aT hc),?_⟩));rw[bC,bC];exact hb
include zk
theorem mE{e:Nat}{Ψ:Nat->aa->Prop}(OP:∀ds,e=3->we cz ds->Ψ 46 ds)(Fj:∀ds,e=3->HU ds->Ψ 105 ds)(Fi:∀ds,e=7->we cN ds->Ψ 106 ds)(Fh:∀ds,e=3->HV ds->Ψ 107 ds)(hm:FE e ds):ds.length=3/\Er Φ Ψ e b9 (ds.map some++List.replicate (4 - ds.length) none):=by
 obtain⟨w,l,o,rfl,hm⟩:=hm;refine⟨rfl,?_⟩;unfold b9;rcases hm with ⟨rfl,hc,hb⟩|⟨ws,⟨⟨f,rfl⟩,l1,l2⟩,hm⟩
 ·refine .hd (.ex (xs:=[af aG w]) (by simp) (Fj _ rfl ⟨_,rfl,?_,?_⟩))
  ·exact aT (aT hc)
  ·rw[dO,dO];exact hb
 ·have c1:=λf=>mv f ws l1 l2;refine .tl (ρ':=[some (.lst f (aL ws)),some l,some o,none]) (by simp[c1]) ?_;rcases hm with ⟨rfl,hc,hb⟩|⟨hc,hb,hm⟩
  ·refine .hd (.ex (xs:=[af aG o,.int ws.length]) (by simp) (OP _ rfl ⟨_,ws.length,rfl,aT (aT hc),?_⟩));rw[bC,bC];exact hb
  ·have c2:=zk (af aA (af aG o)) ws.length (aT (aT hc));rw[bC,bC,hb,if_pos rfl]at c2;refine .tl (ρ':=[some (.lst f (aL ws)),some l,some o,none]) (by simp[c2]) ?_;rcases hm with ⟨rfl,hc,hb⟩|⟨rfl,lot,rfl,hl,hb⟩
   ·refine .hd (.ex (xs:=[af aG l,.int ws.length]) (by simp) (Fi _ rfl ⟨_,ws.length,rfl,aT (aT hc),?_⟩));rw[di,di];exact hb
   ·have c2:=kr (.tup (ao lot)) ws.length (hl.cY l2);simp only[hl.cN,if_true]at c2;refine .tl (ρ':=[some (.lst f (aL ws)),some (.tup (ao lot)),some o,none]) (by simp[c2]) ?_;exact .hd (.ex (xs:=[.lst (aG f) (aL ws),.tup (ao lot)]) (by simp) (Fh _ rfl ⟨_,ws,lot,by simp;rfl,hl,hb⟩))
end
def HB(c:Nat)(p:D->Int->Bool)(m:aD):Prop:=∀ds,we p ds->m ds=some (.error c)
theorem l_{c:Nat}{p:D->Int->Bool}{m:aD}(h:b7 c p m):HB c p m:=by
 rintro ds ⟨d,n,rfl,hc,hb⟩;rw[h d n hc,hb];rfl
def qf(m:aD):Prop:=∀ds,HU ds->m ds=some (.error 3)
theorem AO(Φ:aV)(zk:b7 3 cz (Φ 46)):qf (mk Φ 1 1 aZ):=λds hm=>by
 obtain⟨h1,h2⟩:=vk (Φ:=Φ) (Ψ:=λg ds=>g=46/\we cz ds) (λ_ h=>⟨rfl,h⟩) hm;exact pf h1 (h2.err λg ds bK=>by obtain⟨hg,hd⟩:=bK;subst hg;exact l_ zk ds hd)
def mW(m:aD):Prop:=∀ds,HV ds->m ds=some (.error 3)
theorem x6(Φ:aV):mW (mk Φ 2 3 bj):=λds hm=>by
 obtain⟨h1,h2⟩:=rM (Φ:=Φ) (Ψ:=λ_ _=>False) hm;exact pf h1 (h2.err λ_ _ h=>h.elim)
def Tx(k:Nat)(e:Nat)(g:Nat)(ds:aa):Prop:=(g=k/\e=(if k=46 then 3 else 4)/\we cz ds)\/(g=105/\e=3/\HU ds)\/(g=106/\e=7/\we cN ds)\/(g=107/\e=3/\HV ds)
def uf(m:aD):Prop:=∀e ds,FD e ds->m ds=some (.error e)
theorem EJ(Φ:aV)(QB:b7 4 cz (Φ 47))(mv:ck (Φ 105))(kr:b7 7 cN (Φ 106))(nA:iH (Φ 107))(Hh:qf (Φ 105))(Hg:mW (Φ 107)):uf (mk Φ 4 8 bD):=λe ds hm=>by
 obtain⟨h1,h2⟩:=pS mv kr nA (Ψ:=Tx 47 e) (λ_ a b=>.inl ⟨rfl,a,b⟩) (λ_ a b=>.inr (.inl ⟨rfl,a,b⟩)) (λ_ a b=>.inr (.inr (.inl ⟨rfl,a,b⟩))) (λ_ a b=>.inr (.inr (.inr ⟨rfl,a,b⟩))) hm;refine pf h1 (h2.err λg ds h=>?_);rcases h with ⟨rfl,a,b⟩|⟨rfl,rfl,b⟩|⟨rfl,rfl,b⟩|⟨rfl,rfl,b⟩
 ·rw[if_neg (by decide)]at a;subst a;exact l_ QB _ b
 ·exact Hh _ b
 ·exact l_ kr _ b
 ·exact Hg _ b
def ug(m:aD):Prop:=∀e ds,FE e ds->m ds=some (.error e)
theorem EK(Φ:aV)(zk:b7 3 cz (Φ 46))(mv:ck (Φ 105))(kr:b7 7 cN (Φ 106))(nA:iH (Φ 107))(Hh:qf (Φ 105))(Hg:mW (Φ 107)):ug (mk Φ 3 4 b9):=λe ds hm=>by
 obtain⟨h1,h2⟩:=mE zk mv kr nA (Ψ:=Tx 46 e) (λ_ a b=>.inl ⟨rfl,a,b⟩) (λ_ a b=>.inr (.inl ⟨rfl,a,b⟩)) (λ_ a b=>.inr (.inr (.inl ⟨rfl,a,b⟩))) (λ_ a b=>.inr (.inr (.inr ⟨rfl,a,b⟩))) hm;refine pf h1 (h2.err λg ds h=>?_);rcases h with ⟨rfl,a,b⟩|⟨rfl,rfl,b⟩|⟨rfl,rfl,b⟩|⟨rfl,rfl,b⟩
 ·rw[if_pos rfl]at a;subst a;exact l_ zk _ b
 ·exact Hh _ b
 ·exact l_ kr _ b
 ·exact Hg _ b
noncomputable def DS:CS:=.ifs (.cmp .eq (.v 0) (.int 0)) [.ex (.call 109 [(.v 1),(.v 2),(.v 3),(.tup [(.int 3),(.int 2)])])] [.ex (.call 110 [(.v 1),(.v 2),(.v 3)])]
noncomputable def wordOf(e:Nat):Option Str:=if e=3 then some "weights" else if e=7 then some "lot" else if e=4 then some "worths" else none
def gQ(w:Int)(a b c:D):aa:=if w=0 then[af aA a,af aA b,af aA c,.tup [.int 3,.int 2]]else[af aA a,af aA b,af aA c]
open Classical in
noncomputable def kh(g:Nat)(xs:aa):O D->O D
 |some (.ok _)=>ok (.str "told")
 |some (.error e)=>if iR e g xs then(match wordOf e with|some s=>ok (.str s)|none=>none)else none
 |none=>none
noncomputable def nz(Φ:aV)(ds:aa):O D:=match ds with
 |[.int w,a,b,c]=>kh (if w=0 then 109 else 110) (gQ w a b c) (Φ (if w=0 then 109 else 110) (gQ w a b c))
 |_=>none
mutual
theorem dP(g h:Fl->Fl):∀d:D,af g (af h d)=af (λf=>g (h f)) d
 |.tup ds=>by rw[af,af,af,dh g h ds]
 |.lst f ds=>by rw[af,af,af,dh g h ds]
 |.gr f ks ds=>by rw[af,af,af,dh g h ds]
 |.bB=>rfl
 |.bl _=>rfl
 |.int _=>rfl
 |.str _=>rfl
theorem dh(g h:Fl->Fl):∀ds:aa,aw g (aw h ds)=aw (λf=>g (h f)) ds
 |[]=>rfl
 |d::ds=>by rw[aw,aw,aw,dP g h d,dh g h ds]
end
theorem jS(d:D):af aA (af aG d)=af aA d:=by
 rw[dP];congr 1;funext f;cases f<;>rfl
theorem AV{r:D}(h:nz Φ ds=ok r):∃w a b c,ds=[.int w,a,b,c] /\
  ((r=.str "told" /\ gM Φ DS [some (.int w),some a,some b,some c,some (.str "told"),some .bB,none]=ok (.nx,[some (.int w),some a,some b,some c,some (.str "told"),some .bB,none])) \/
   ∃e s,wordOf e=some s/\r=.str s/\kQ Φ (iR e) e DS [some (.int w),some a,some b,some c,some (.str "told"),some .bB,none]):=by
 unfold nz at h;split at h
 ·rename_i w a b c;refine⟨w,a,b,c,rfl,?_⟩;by_cases hw:w=0
  ·subst hw;simp only[if_true,gQ]at h;cases hr:Φ 109 [af aA a,af aA b,af aA c,.tup [.int 3,.int 2]]with
   |none=>rw[hr]at h;cases h
   |some z=>cases z with
    |ok v=>rw[hr]at h;cases h;exact .inl ⟨rfl,by simp[DS,jS,hr];rfl⟩
    |error e =>
     rw[hr]at h;simp only[kh]at h;split at h
     ·rename_i hp;cases hs:wordOf e with
      |none=>rw[hs]at h;cases h
      |some s=>rw[hs]at h;cases h;exact .inr ⟨e,s,hs,rfl,.BJ (by simp) (.hd (.ex (xs:=[af aG a,af aG b,af aG c,.tup [.int 3,.int 2]]) (by simp) (by simpa [aE,jS,aw]using hp)))⟩
     ·cases h
  ·simp only[if_neg hw,gQ]at h;cases hr:Φ 110 [af aA a,af aA b,af aA c]with
   |none=>rw[hr]at h;cases h
   |some z=>cases z with
    |ok v=>rw[hr]at h;cases h;exact .inl ⟨rfl,by simp[DS,hw,jS,hr];rfl⟩
    |error e =>
     rw[hr]at h;simp only[kh]at h;split at h
     ·rename_i hp;cases hs:wordOf e with
      |none=>rw[hs]at h;cases h
      |some s=>rw[hs]at h;cases h;exact .inr ⟨e,s,hs,rfl,.iff (by simp[hw]) (.hd (.ex (xs:=[af aG a,af aG b,af aG c]) (by simp) (by simpa [aE,jS,aw]using hp)))⟩
     ·cases h
 ·cases h
end DI
end
section
set_option maxHeartbeats 1000000
namespace DI
open PySem (Str)
mutual
theorem ia(g h:Fl->Fl):∀a b:D,eZ (af g a) (af h b)=eZ a b
 |.tup as,b=>by cases b<;>simp[eZ,jf g h as]
 |.lst _ as,b=>by cases b<;>simp[eZ,jf g h as]
 |.gr _ _ _,b=>by cases b<;>simp[eZ,af]
 |.bB,b=>by cases b<;>simp[eZ,af]
 |.bl _,b=>by cases b<;>simp[eZ,af]
 |.int _,b=>by cases b<;>rfl
 |.str _,b=>by cases b<;>simp[eZ,af]
theorem jf(g h:Fl->Fl):∀as bs:aa,dq (aw g as) (aw h bs)=dq as bs
 |[],bs=>by cases bs<;>simp[aw,dq]
 |a::as,bs=>by
  cases bs with
  |nil=>simp[aw,dq]
  |cons b bs=>rw[aw,aw,dq,dq,ia g h a b,jf g h as bs]
end
theorem fP(g:Fl->Fl):∀(n:Nat) (d:D),bR n (af g d)=bR n d
 |0,d=>by cases d<;>rfl
 |n+1,d=>by
  cases d<;>first|rfl|skip
  ·simp only[af,bR,aE,List.all_map];congr 1;funext d;exact fP g n d
  ·simp only[af,bR,aE,List.all_map];congr 1;funext d;exact fP g n d
theorem mI:∀(n:Nat) (d:D),bR n d=true->eZ d d=true
 |n,.bB,_=>rfl
 |n,.bl b,_=>by simp[eZ]
 |n,.int b,_=>by simp[eZ]
 |n,.str b,_=>by simp[eZ]
 |0,.tup ds,h=>by simp[bR]at h
 |0,.lst _ ds,h=>by simp[bR]at h
 |n+1,.tup ds,h=>by
  simp only[bR]at h;rw[eZ];induction ds with
  |nil=>rfl
  |cons d ds ih =>
   rw[List.all_cons,Bool.and_eq_true]at h;rw[dq,mI n d h.1,ih h.2];rfl
 |n+1,.lst _ ds,h=>by
  simp only[bR]at h;rw[eZ];induction ds with
  |nil=>rfl
  |cons d ds ih =>
   rw[List.all_cons,Bool.and_eq_true]at h;rw[dq,mI n d h.1,ih h.2];rfl
 |n,.gr _ _ _,h=>by simp[bR]at h
mutual
theorem BZ:∀d:D,aW bG (af aA d)=false
 |.tup ds=>by rw[af,aW];exact hZ ds
 |.lst f ds=>by rw[af,aW,hZ ds];cases f<;>rfl
 |.gr f ks ds=>by rw[af,aW,hZ ds];cases f<;>rfl
 |.bB=>rfl
 |.bl _=>rfl
 |.int _=>rfl
 |.str _=>rfl
theorem hZ:∀ds:aa,aS bG (aw aA ds)=false
 |[]=>rfl
 |d::ds=>by rw[aw,aS,BZ d,hZ ds];rfl
end
noncomputable def rZ:ah:=[.ifs (.sg (.v 0) .list) [.ret (.bf .list1 [(.v 0)])] [],.ret (.v 0)]
def vH(d d':D):Prop:=eZ d d'=true/\∀n,bR n d'=bR n d
def zZ(m:aD):Prop:=∀d,bR 30 d=true->∃d',m [af aA d]=ok d'/\vH d d'
theorem lL{d:D}{n:Nat}(g:Fl->Fl)(h:bR n d=true):vH d (af g d):=by
 refine⟨?_,λm=>fP g m d⟩;have:=ia id g d d;rw[mI n d h]at this;rw[<- this];congr 1;have hi:∀d:D,af id d=d:=λd=>by
  have:=cB d;exact this
 exact(hi d).symm
theorem DY(d:D):af aG (af aA d)=af aA d:=by
 rw[dP];congr 1;funext f;cases f<;>rfl
theorem ud(ds:aa):aw aG (aw aA ds)=aw aA ds:=by
 rw[dh];congr 1;funext f;cases f<;>rfl
variable {f:Fl}
theorem Cj{f':Fl}{ds:aa}{n:Nat}(g:Fl->Fl)(h:bR n (.lst f ds)=true):vH (.lst f ds) (.lst f' (aw g ds)):=by
 have:=lL g h;refine⟨?_,λm=>?_⟩
 ·have h1:=this.1;rw[af,eZ]at h1;rw[eZ];exact h1
 ·have h2:=this.2 m;cases m with
  |zero=>rfl
  |succ m=>exact h2
theorem JF(Φ:aV):zZ (mk Φ 1 1 rZ):=by
 intro d hd;by_cases hl:∃f ds,d=.lst f ds
 ·obtain⟨f,ds,rfl⟩:=hl;have z:aW bG (.lst .ow (aw aA ds))=false:=by rw[aW,hZ];rfl
  refine⟨.lst .ow (aw aA ds),?_,Cj aA hd⟩;have e1:nC .list1 [.lst (aG (aA f)) (aw aA ds)]=ok (.lst .ow (aw aA ds)):=by
   show ok (D.lst .ow (aw aG (aw aA ds)))=_;rw[ud]
  simp[mk_eq,rZ,cX,ud,e1,z]
 ·have hn:cX .list (af aA d)=false:=by
   cases d<;>first|rfl|exact absurd ⟨_,_,rfl⟩ hl
  refine⟨af aA d,?_,lL aA hd⟩;simp[mk_eq,rZ,DY,hn,uL]
theorem lU(Φ:aV):∀(a b:ah) (ρ ρ':aU),bE Φ a ρ=ok (.nx,ρ')->bE Φ (a++b) ρ=bE Φ b ρ'
 |[],b,ρ,ρ',h=>by rw[CH]at h;cases h;rfl
 |s::a,b,ρ,ρ',h=>by
  rw[List.cons_append,c0];rw[c0]at h;unfold lY at h ⊢;obtain⟨⟨fo,ρ1⟩,e1,h⟩:=aH h;rw[e1,de];cases fo with
  |nx=>exact lU Φ a b ρ1 ρ' h
  |_=>cases h
noncomputable def gL:aa:=[.bB,.int 1,.tup [.int 2,.int 4],.tup [.int 1,.int 0],.tup [.bl true,.int 2],.str "1",.lst .fz [.int 1,.int 2],.tup [.int 1,.int 2,.int 3]]
def k_(qs:aK)(a:Nat)(o:D):aa:=aL (qs.take a)++[o]++aL (qs.drop (a+1))
def oy(qs:aK)(a:Nat):aa:=gL.map (λo=>.lst .fz (k_ qs a o))++[.lst .fz (aL (qs++qs.take 1)),.lst .fz (aL (qs.drop 1)),.tup (aL qs),.bB,.lst .fz [],.int 7,.str "weights",.tup [.lst .fz (aL qs)]]
noncomputable def DN:CE:=.lst [.bB,(.int 1),(.tup [(.int 2),(.int 4)]),(.tup [(.int 1),(.int 0)]),(.tup [(.bl true),(.int 2)]),(.str "1"),(.lst [(.int 1),(.int 2)]),(.tup [(.int 1),(.int 2),(.int 3)])]
def fB:CE:=.comp 1 (.nm 0) [0,2] .seq [DN] [] (.bin .add (.bin .add (.eG 1021 [(.v 1),(.v 2)]) (.lst [(.v 0)])) (.eG 1020 [(.v 1),(.bin .add (.v 2) (.int 1))]))
noncomputable def fC:CE:=.lst [(.bin .add (.v 0) (.eG 1021 [(.v 0),(.int 1)])),(.eG 1020 [(.v 0),(.int 1)]),(.bf .tuple1 [(.v 0)]),.bB,(.lst []),(.int 7),(.str "weights"),(.tup [(.v 0)])]
def mR:ah:=[.asg (.nm 2) (.bin .mod (.bin .fdiv (.v 1) (.int 16)) (.bf .len [(.v 0)])),.asg (.nm 3) fB,.ret (.ix (.bin .add (.v 3) fC) (.bin .mod (.v 1) (.int 16)))]
theorem A1(a b:aK):aL (a++b)=aL a++aL b:=by simp[aL]
variable {qs:aK}
theorem lK{b:Bool}{k:Nat}(h:k<=qs.length):cutD b [.lst f (aL qs),.int k]=ok (.lst .ow (aL (kB b k qs))):=by
 have e:kB b k (aL qs)=aL (kB b k qs):=by
  cases b
  ·show(aL qs).take k=aL (qs.take k);simp[aL,List.map_take]
  ·show(aL qs).drop k=aL (qs.drop k);simp[aL,List.map_drop]
 show(if 0<=(k:Int)/\(k:Int)<=(aL qs).length then ok (D.lst .ow (aw aG (kB b (k:Int).toNat (aL qs))))else none)=_;rw[if_pos (by simp;left),Int.toNat_natCast,e];simp
theorem sW:∀o∈gL,af aG o=o/\af aA o=o:=by
 intro o ho;simp only[gL,List.mem_cons,List.not_mem_nil,or_false]at ho;rcases ho with rfl|rfl|rfl|rfl|rfl|rfl|rfl|rfl<;>exact⟨rfl,rfl⟩
theorem AI(Φ:aV)(u0:Φ 1020=cutD true)(uZ:Φ 1021=cutD false){a:Nat}(ha:a<qs.length)(hq:qs.length<=12)(x y z:aM):aX Φ fB [some (.lst .fz (aL qs)),x,some (.int a),y]=ok (.lst .ow (aw cq (gL.map λo=>.lst .ow (k_ qs a o)))):=by
 unfold fB;refine eh (xs:=[.lst .ow [.bB,.int 1,.tup [.int 2,.int 4],.tup [.int 1,.int 0],.tup [.bl true,.int 2],.str "1",.lst .ow [.int 1,.int 2],.tup [.int 1,.int 2,.int 3]]]) (items:=gL.map id) (by simp[DN]) rfl (cH λo ho=>⟨[some o,some (.lst .fz (aL qs)),some (.int a)],by simp[bN],by simp,?_⟩) (by simp;decide);have c1:Φ 1021 [.lst .fz (aL qs),.int a]=ok (.lst .ow (aL (qs.take a))):=by rw[uZ];exact lK (by left)
 have c2:Φ 1020 [.lst .fz (aL qs),.int ((a:Int)+1)]=ok (.lst .ow (aL (qs.drop (a+1)))):=by
  rw[u0];exact lK (b:=true) (k:=a+1) (by left)
 obtain⟨o1,o2⟩:=sW o ho;have l1:=XZ a qs;have b1:cg .add (.lst .ow (aL (qs.take a))) (.lst .ow [o])=ok (.lst .ow (aL (qs.take a)++[o])):=by
  show(if ja .ow=false/\ja .ow=false/\_<=cY then _ else _)=_;rw[if_pos ⟨rfl,rfl,cc (by simp;left)⟩,aE,List.map_append];simp[o1,<- aE]
 have b2:cg .add (.lst .ow (aL (qs.take a)++[o])) (.lst .ow (aL (qs.drop (a+1))))=ok (.lst .ow (k_ qs a o)):=by
  show(if ja .ow=false/\ja .ow=false/\_<=cY then _ else _)=_;rw[if_pos ⟨rfl,rfl,cc (by simp;left)⟩,aE,List.map_append,List.map_append];simp[o1,<- aE,k_]
 simp[o1,aG,c1,c2,b1,b2]
mutual
theorem r_:∀d:D,aW bG (af aG d)=false->af aG d=af aA d
 |.tup ds,h=>by rw[af,aW]at h;rw[af,af,iG ds h]
 |.lst f ds,h=>by
  rw[af,aW,Bool.or_eq_false_iff]at h;rw[af,af,iG ds h.2];cases f<;>first|rfl|exact absurd h.1 (by decide)
 |.gr f ks ds,h=>by
  rw[af,aW,Bool.or_eq_false_iff]at h;rw[af,af,iG ds h.2];cases f<;>first|rfl|exact absurd h.1 (by decide)
 |.bB,_=>rfl
 |.bl _,_=>rfl
 |.int _,_=>rfl
 |.str _,_=>rfl
theorem iG:∀ds:aa,aS bG (aw aG ds)=false->aw aG ds=aw aA ds
 |[],_=>rfl
 |d::ds,h=>by
  rw[aw,aS,Bool.or_eq_false_iff]at h;rw[aw,aw,r_ d h.1,iG ds h.2]
end
theorem vD(d:D):af aG (af aG d)=af aG d:=by
 rw[dP];congr 1;funext f;cases f<;>rfl
theorem pA(e:CE)(ρ:aU)(d:D):∃ρ',bI e ρ (ok (af aG d))=ok (af aA d,ρ'):=by
 cases h:aW bG (af aG d)with
 |true=>rw[jK h,jS];exact⟨_,rfl⟩
 |false=>rw[eP h,r_ d h];exact⟨_,rfl⟩
theorem gn(p:Fl->Bool):∀ds:aa,aS p ds=ds.any (aW p)
 |[]=>rfl
 |d::ds=>by rw[aS,List.any_cons,gn p ds]
theorem pM{a:Nat}(f:Fl)(hf:aA f=.fz):aw aA (gL.map λo=>.lst f (k_ qs a o))=gL.map λo=>.lst .fz (k_ qs a o):=by
 rw[aE,List.map_map];refine Yy λo ho=>?_;have:=(sW o ho).2;simp[k_,aE,List.map_append,this,hf];simp[<- aE]
theorem B0(ds:aa):aw aA (aw cq ds)=aw aA ds:=by
 rw[dh];congr 1;funext f;cases f<;>rfl
def qi(m:aD):Prop:=∀(qs:aK) (n:Int),1<=qs.length->qs.length<=12->∃(a r:Nat) (d:D),a<qs.length/\n.fmod 16=(r:Int)/\(oy qs a)[r]?=some d/\m [.lst .fz (aL qs),.int n]=ok d
theorem ER(Φ:aV)(u0:Φ 1020=cutD true)(uZ:Φ 1021=cutD false):qi (mk Φ 2 4 mR):=by
 intro qs n l1 l2;have dm:cg .mod (.int (n.fdiv 16)) (.int qs.length)=ok (.int ((n.fdiv 16).fmod qs.length)):=DV (by left);obtain⟨f1,f2⟩:=cC (n.fdiv 16) (b:=(qs.length:Int)) (by left);obtain⟨a,ha⟩:∃a:Nat,(n.fdiv 16).fmod qs.length=(a:Int):=⟨((n.fdiv 16).fmod qs.length).toNat,by left⟩
 rw[ha]at dm f1 f2;obtain⟨g1,g2⟩:=cC n (b:=16) (by decide);obtain⟨r,hr⟩:∃r:Nat,n.fmod 16=(r:Int):=⟨(n.fmod 16).toNat,by left⟩
 have Gv:a<qs.length:=by left
 let A:aa:=gL.map λo=>.lst .fz (k_ qs a o)
 let B:aa:=[.lst .ow (aL (qs++qs.take 1)),.lst .ow (aL (qs.drop 1)),.tup (aL qs),.bB,.lst .ow [],.int 7,.str "weights",.tup [.lst .fz (aL qs)]]
 have VT:(A++B).map (af aA)=oy qs a:=by
  rw[List.map_append,<- aE,show aw aA A=A from pM .fz rfl];unfold oy;congr 1;simp[B,aA]
 have hlen:(A++B).length=16:=rfl;obtain⟨X,hX⟩:∃X,(A++B)[r]?=some X:=⟨_,Xq (by left)⟩
 refine⟨a,r,af aA X,Gv,hr,by rw[<- VT,List.getElem?_map,hX];rfl,?_⟩;have e1:=λx y=>AI Φ u0 uZ Gv l2 x y none;have c1:∀f,Φ 1021 [.lst f (aL qs),.int 1]=ok (.lst .ow (aL (qs.take 1))):=λf=>by rw[uZ];exact lK (k:=1) (by left)
 have c2:∀f,Φ 1020 [.lst f (aL qs),.int 1]=ok (.lst .ow (aL (qs.drop 1))):=λf=>by rw[u0];exact lK (b:=true) (k:=1) (by left)
 have al:aW bG (D.lst .ow (aw cq (gL.map λo=>.lst .ow (k_ qs a o))))=true:=by
  rw[aW,gn,aE,List.map_map,Bool.or_eq_true];refine .inr (List.any_eq_true.mpr ⟨af cq (.lst .ow (k_ qs a (.lst .fz [.int 1,.int 2]))),List.mem_map.mpr ⟨.lst .fz [.int 1,.int 2],by simp[gL],rfl⟩,?_⟩);rw[af,aW,gn,aE,Bool.or_eq_true];exact .inr (List.any_eq_true.mpr ⟨.lst .al [.int 1,.int 2],List.mem_map.mpr ⟨.lst .fz [.int 1,.int 2],by simp[k_],rfl⟩,rfl⟩)
 have fz:af aA (D.lst .ow (aw cq (gL.map λo=>.lst .ow (k_ qs a o))))=.lst .fz A:=by
  rw[af,B0,pM .ow rfl];rfl
 have st:bE Φ [.asg (.nm 2) (.bin .mod (.bin .fdiv (.v 1) (.int 16)) (.bf .len [(.v 0)])),.asg (.nm 3) fB] [some (.lst .fz (aL qs)),some (.int n),none,none]=ok (.nx,[some (.lst .fz (aL qs)),some (.int n),some (.int a),some (.lst .fz A)]):=by
  have k3:eY Φ fB [some (.lst .fz (aL qs)),some (.int n),some (.int a),none]=ok (.lst .fz A,[some (.lst .fz (aL qs)),some (.int n),some (.int a),none]):=by
   show bI fB _ (aX Φ fB _)=_;rw[e1,jK al,fz,show gb fB=[0,2] from rfl];simp[aA]
  simp[ha,dm,k3]
 have b1:cg .add (.lst .fz (aL qs)) (.lst .ow (aL (qs.take 1)))=ok (.lst .ow (aL (qs++qs.take 1))):=by
  have l3:=XZ 1 qs;show(if ja .fz=false/\ja .ow=false/\_<=cY then _ else _)=_;rw[if_pos ⟨rfl,rfl,cc (by simp;left)⟩];rw[<- A1];simp
 have b2:nC .tuple1 [.lst .fz (aL qs)]=ok (.tup (aL qs)):=by
  show ok (D.tup (aw aG (aL qs)))=_;simp
 have hv:∀x,aX Φ (.bin .add (.v 3) fC) [some (.lst .fz (aL qs)),some (.int n),x,some (.lst .fz A)]=ok (.lst .ow (aw aG (A++B))):=λx=>by
  have hA:af aG (.lst .fz A)=.lst .fz A:=by rw[af,show aw aG A=A by rw[<- show aw aA A=A from pM .fz rfl,ud]];rfl
  have hB:aX Φ fC [some (.lst .fz (aL qs)),some (.int n),x,some (.lst .fz A)]=ok (.lst .ow B):=by
   simp[fC,aG,c1,c2,b1,b2,B]
  have hs:qC [some (.lst .fz (aL qs)),some (.int n),x,some (.lst .fz A)][3]?=ok (.lst .fz A):=by
   show ok (af aG (.lst .fz A))=_;rw[hA]
  rw[DP,Q0,hs,hB];show(if ja Fl.fz=false/\ja Fl.ow=false/\A.length+B.length<=cY then ok (D.lst .ow (aw aG (A++B)))else none)=_;rw[if_pos ⟨rfl,rfl,cc (by show 16<=1000000;decide)⟩]
 have hi:aX Φ (.ix (.bin .add (.v 3) fC) (.bin .mod (.v 1) (.int 16))) [some (.lst .fz (aL qs)),some (.int n),some (.int a),some (.lst .fz A)]=ok (af aG X):=by
  rw[tU,hv];have:aX Φ (.bin .mod (.v 1) (.int 16)) [some (.lst .fz (aL qs)),some (.int n),some (.int a),some (.lst .fz A)]=ok (.int r):=by simp[hr]
  rw[this];show m7 (aw aG (A++B)) r=_;rw[at_of (by left) (d:=af aG X) (by rw[Int.toNat_natCast,aE,List.getElem?_map,hX];rfl),vD]
 obtain⟨ρ',hk⟩:=pA (.ix (.bin .add (.v 3) fC) (.bin .mod (.v 1) (.int 16))) [some (.lst .fz (aL qs)),some (.int n),some (.int a),some (.lst .fz A)] X;have sr:bE Φ [.ret (.ix (.bin .add (.v 3) fC) (.bin .mod (.v 1) (.int 16)))] [some (.lst .fz (aL qs)),some (.int n),some (.int a),some (.lst .fz A)]=ok (.rt (af aA X),ρ'):=by
  have:eY Φ (.ix (.bin .add (.v 3) fC) (.bin .mod (.v 1) (.int 16))) [some (.lst .fz (aL qs)),some (.int n),some (.int a),some (.lst .fz A)]=ok (af aA X,ρ'):=by
   show bI _ _ (aX Φ _ _)=_;rw[hi,hk]
  rw[c0,CG,this];rfl
 rw[mk_eq (ar:=2) (ds:=[_,_]) rfl];have:=(lU Φ [.asg (.nm 2) (.bin .mod (.bin .fdiv (.v 1) (.int 16)) (.bf .len [(.v 0)])),.asg (.nm 3) fB] [.ret (.ix (.bin .add (.v 3) fC) (.bin .mod (.v 1) (.int 16)))] _ _ st).trans sr;show lq (bE Φ mR [some (.lst .fz (aL qs)),some (.int n),none,none])=_;rw[show mR=[.asg (.nm 2) (.bin .mod (.bin .fdiv (.v 1) (.int 16)) (.bf .len [(.v 0)])),.asg (.nm 3) fB]++[.ret (.ix (.bin .add (.v 3) fC) (.bin .mod (.v 1) (.int 16)))] from rfl,this];rfl
end DI
end
section
set_option maxHeartbeats 1000000
namespace DI
open PySem (Str)
structure Ab(d:D):Prop where
 cY:fb d
 ok:bR 30 d=true
 fz:af aA d=d
theorem qT(n:Nat)(qs:aK):(aL qs).all (bR (n+1))=true:=by
 unfold aL;rw[List.all_map,List.all_eq_true];intro q _;exact Du n q
theorem o9(n:Nat)(ns:ai):(ao ns).all (bR n)=true:=by
 unfold ao;rw[List.all_map,List.all_eq_true];intro q _;cases n<;>rfl
variable {qs:aK}
theorem BI{a:Nat}{o:D}(h1:cT o=false)(h2:bR 29 o=true)(h3:af aA o=o)(hq:qs.length<=12):Ab (.lst .fz (k_ qs a o))/\(∀n,cz (.lst .fz (k_ qs a o)) n=false)/\fN (.lst .fz (k_ qs a o))=false:=by
 have ar:∀n,cz (.lst .fz (k_ qs a o)) n=false:=λn=>by
  unfold cz k_;simp[h1]
 have l1:=XZ a qs;refine⟨⟨?_,?_,?_⟩,ar,?_⟩
 ·show(k_ qs a o).length<=1000000;unfold k_;simp;left
 ·show(k_ qs a o).all (bR 29)=true;unfold k_;rw[List.all_append,List.all_append,qT 28,qT 28];simp[h2]
 ·unfold k_;simp[aE,List.map_append,h3,aA];simp[<- aE]
 ·unfold fN;simp only[ar,Bool.and_false]
theorem ox{a r:Nat}{d:D}(l1:1<=qs.length)(l2:qs.length<=12)(h:(oy qs a)[r]?=some d):Ab d/\cz d qs.length=false/\(r≠8->r≠9->fN d=false):=by
 have key:∀o,o∈gL->d=.lst .fz (k_ qs a o)->Ab d/\cz d qs.length=false/\(r≠8->r≠9->fN d=false):=by
  rintro o ho rfl;have:cT o=false/\bR 29 o=true:=by
   simp only[gL,List.mem_cons,List.not_mem_nil,or_false]at ho;rcases ho with rfl|rfl|rfl|rfl|rfl|rfl|rfl|rfl<;>exact⟨by decide,by decide⟩
  obtain⟨z1,z2,z3⟩:=BI (a:=a) this.1 this.2 (sW o ho).2 l2;exact⟨z1,z2 _,λ_ _=>z3⟩
 by_cases hr:r<8
 ·have:(gL.map (λo=>D.lst .fz (k_ qs a o)))[r]?=some d:=by
   unfold oy at h
   rwa [List.getElem?_append_left (by simpa [gL]using hr)]at h
  rw[List.getElem?_map]at this;obtain⟨o,h1,h2⟩:=Option.map_eq_some_iff.mp this;exact key o (Xt h1) h2.symm
 ·obtain⟨k,rfl⟩:∃k,r=8+k:=⟨r - 8,by left⟩
  unfold oy at h;rw[List.getElem?_append_right (by simp[gL]),show 8+k - (gL.map λo=>D.lst .fz (k_ qs a o)).length=k by simp[gL]]at h;have l3:=XZ 1 qs;have nq:∀ps:aK,ps.length<=20->Ab (.lst .fz (aL ps)):=λps hp=>⟨by show(aL ps).length<=1000000;simp;left,qT 28 ps,by simp[aA]⟩
  match k,h with
  |0,h =>
   cases h;refine⟨nq _ (by simp;left),?_,λz=>absurd rfl z⟩;rw[kE];simp;left
  |1,h =>
   cases h;refine⟨nq _ (by simp;left),?_,λ_ z=>absurd rfl z⟩;rw[kE];simp;left
  |2,h=>cases h;exact⟨⟨by show(aL qs).length<64;simp;left,qT 28 qs,by simp⟩,rfl,λ_ _=>rfl⟩
  |3,h=>cases h;exact⟨⟨trivial,rfl,rfl⟩,rfl,λ_ _=>rfl⟩
  |4,h =>
   cases h;refine⟨⟨by show 0<=1000000;left,rfl,rfl⟩,?_,λ_ _=>rfl⟩;unfold cz;simp;left
  |5,h=>cases h;exact⟨⟨trivial,rfl,rfl⟩,rfl,λ_ _=>rfl⟩
  |6,h=>cases h;exact⟨⟨trivial,rfl,rfl⟩,rfl,λ_ _=>rfl⟩
  |7,h=>cases h;exact⟨⟨by show 1<64;decide,by show((aL qs).all (bR 28)&&true)=true;rw[qT 27];rfl,by simp[aA]⟩,rfl,λ_ _=>rfl⟩
  |k+8,h=>simp at h
mutual
theorem vc{g:Fl->Fl}(hg:∀f,bG (g f)=false->g f=aA f):∀d:D,aW bG (af g d)=false->af g d=af aA d
 |.tup ds,h=>by rw[af,aW]at h;rw[af,af,jR hg ds h]
 |.lst f ds,h=>by
  rw[af,aW,Bool.or_eq_false_iff]at h;rw[af,af,jR hg ds h.2,hg f h.1]
 |.gr f ks ds,h=>by
  rw[af,aW,Bool.or_eq_false_iff]at h;rw[af,af,jR hg ds h.2,hg f h.1]
 |.bB,_=>rfl
 |.bl _,_=>rfl
 |.int _,_=>rfl
 |.str _,_=>rfl
theorem jR{g:Fl->Fl}(hg:∀f,bG (g f)=false->g f=aA f):∀ds:aa,aS bG (aw g ds)=false->aw g ds=aw aA ds
 |[],_=>rfl
 |d::ds,h=>by
  rw[aw,aS,Bool.or_eq_false_iff]at h;rw[aw,aw,vc hg d h.1,jR hg ds h.2]
end
theorem iB(e:CE)(ρ:aU){d:D}(hd:af aA d=d):∃ρ',bI e ρ (ok (af cq d))=ok (d,ρ')/\(ρ'=ρ\/ρ'=lj (gb e) 0 ρ):=by
 have e1:af cq d=af (λf=>cq (aA f)) d:=by
  conv=>lhs;rw[<- hd,dP]
 cases h:aW bG (af cq d)with
 |true =>
  refine⟨_,jK h |>.trans ?_,.inr rfl⟩;have:af aA (af cq d)=d:=by
   rw[dP]
   conv=>rhs;rw[<- hd]
   congr 1;funext f;cases f<;>rfl
  rw[this]
 |false =>
  refine⟨_,eP h |>.trans ?_,.inl rfl⟩;have:af cq d=d:=by
   rw[e1]at h ⊢;rw[vc (λf hf=>by cases f<;>first|rfl|exact absurd hf (by decide)) d h,hd]
  rw[this]
noncomputable def mJ:CE:=.ix (.lst [(.bin .mul (.lst [(.tup [(.int 1),(.int 2)])]) (.int 13)),(.lst [])]) (.bin .mod (.v 1) (.int 2))
def jk:ah:=[.ifs (.cmp .F9 (.bin .mod (.v 1) (.int 16)) (.tup [(.int 8),(.int 9)])) [.ret mJ] [],.ret (.call 257 [(.v 0),(.v 1)])]
def ui(m:aD):Prop:=∀(qs:aK) (n:Int),1<=qs.length->qs.length<=12->∃d,m [.lst .fz (aL qs),.int n]=ok d/\Ab d/\fN d=false
theorem F_(r:Int):ic .F9 (.int r) (.tup [.int 8,.int 9])=ok (.bl (decide (r=8)||decide (r=9))):=by
 show ok (D.bl (((8:Int)==r)||(((9:Int)==r)||false)))=_;rw[Bool.or_false];congr 2;congr 1
 ·by_cases h:r=8
  ·subst h;rfl
  ·rw[beq_eq_false_iff_ne.mpr (Ne.symm h),decide_eq_false h]
 ·by_cases h:r=9
  ·subst h;rfl
  ·rw[beq_eq_false_iff_ne.mpr (Ne.symm h),decide_eq_false h]
theorem xF(Φ:aV)(x:aM){n:Int}{j:Nat}{d:D}(h:n.fmod 2=(j:Int))(hd:([.lst .ow (List.replicate 13 (.tup [.int 1,.int 2])),.lst .ow []]:aa)[j]?=some d):∃ρ',eY Φ mJ [x,some (.int n)]=ok (af aA d,ρ'):=by
 have mul:cg .mul (.lst .ow [.tup [.int 1,.int 2]]) (.int 13)=ok (.lst .ow (List.replicate 13 (.tup [.int 1,.int 2]))):=rfl;have:aX Φ mJ [x,some (.int n)]=ok (af aG d):=by
  have e1:aX Φ (.lst [(.bin .mul (.lst [(.tup [(.int 1),(.int 2)])]) (.int 13)),(.lst [])]) [x,some (.int n)]=ok (.lst .ow [.lst .ow (List.replicate 13 (.tup [.int 1,.int 2])),.lst .ow []]):=by simp only[zH,c_,DP,Lz,vm,mK];rfl
  have e2:aX Φ (.bin .mod (.v 1) (.int 2)) [x,some (.int n)]=ok (.int j):=by simp[h]
  unfold mJ;rw[tU,e1,e2];exact at_of (by left) (by rw[Int.toNat_natCast];exact hd)
 obtain⟨ρ',hk⟩:=pA mJ [x,some (.int n)] d;exact⟨ρ',by show bI _ _ (aX Φ mJ _)=_;rw[this,hk]⟩
theorem EN(Φ:aV)(zl:qi (Φ 257)):ui (mk Φ 2 2 jk):=by
 intro qs n l1 l2;obtain⟨a,r,d,ha,hr,hd,hm⟩:=zl qs n l1 l2;obtain⟨B1,B2,B3⟩:=ox l1 l2 hd;by_cases h8:r=8
 ·subst h8;have h2:n.fmod 2=((0:Nat):Int):=by rw[Int.fmod_eq_emod_of_nonneg _ (by decide)]at hr ⊢;left
  obtain⟨ρ',hk⟩:=xF Φ (some (.lst .fz (aL qs))) h2 rfl;refine⟨.lst .fz (List.replicate 13 (.tup [.int 1,.int 2])),?_,⟨by show 13<=1000000;decide,rfl,rfl⟩,rfl⟩;have:∀Z ρ',eY Φ mJ [some (.lst .fz (aL qs)),some (.int n)]=ok (Z,ρ')->mk Φ 2 2 jk [.lst .fz (aL qs),.int n]=ok Z:=λZ ρ' hk=>by
   simp[mk_eq,jk,hr,F_,hk]
  exact this _ _ hk
 ·by_cases h9:r=9
  ·subst h9;have h2:n.fmod 2=((1:Nat):Int):=by rw[Int.fmod_eq_emod_of_nonneg _ (by decide)]at hr ⊢;left
   obtain⟨ρ',hk⟩:=xF Φ (some (.lst .fz (aL qs))) h2 rfl;refine⟨.lst .fz [],?_,⟨by show 0<=1000000;decide,rfl,rfl⟩,rfl⟩;simp[mk_eq,jk,hr,F_,hk]
  ·refine⟨d,?_,B1,B3 h8 h9⟩;obtain⟨ρ',hk,_⟩:=iB (.call 257 [(.v 0),(.v 1)]) [some (.lst .fz (aL qs)),some (.int n)] B1.fz;have i8:¬ (r:Int)=8:=by left
   have i9:¬ (r:Int)=9:=by left
   simp[mk_eq,jk,hr,aG,hm,hk,F_,i8,i9]
noncomputable def gp:CE:=.lst [(.bf .list1 [(.v 0)]),(.bin .add (.v 0) (.tup [(.v 1)])),(.bin .add (.tup [(.neg (.int 1))]) (.v 0)),(.bin .add (.v 0) (.eG 1029 [(.v 0),(.neg (.int 1))])),.bB,(.tup [(.bl true)]),(.tup [(.str "0")]),(.eG 1028 [(.v 0),(.neg (.int 1))]),(.tup [.bB]),(.tup [(.int 0),(.int 0)]),(.int 0)]
def ub:ah:=[.asg (.nm 3) gp,.ret (.ix (.v 3) (.bin .mod (.v 2) (.int 11)))]
def cU(lot:ai)(m:Int):aa:=[.lst .ow (ao lot),.tup (ao (lot++[m])),.tup (ao (-1::lot)),.tup (ao (lot++lot.drop (lot.length - 1))),.bB,.tup [.bl true],.tup [.str "0"],.tup (ao lot.reverse),.tup [.bB],.tup [.int 0,.int 0],.int 0]
def uj(m:aD):Prop:=∀(lot:ai) (k:Nat) (n:Int),lQ k lot->2<=lot.length->k<=12->∃d,m [.tup (ao lot),.int k,.int n]=ok d/\Ab d/\cN d k=false
theorem qZ(l:ai):aS anyF (ao l)=false:=by
 rw[gn,ao,List.any_map,List.any_eq_false];intro x _;exact Xe
variable {lot:ai}
theorem Bv(Φ:aV)(zo:Φ 1028=qK)(zm:Φ 1029=rQ){k:Int}(hl:2<=lot.length)(hk:lot.length<=12)(x y:aM):aX Φ gp [some (.tup (ao lot)),some (.int k),x,y]=ok (.lst .ow (cU lot k)):=by
 have c1:Φ 1028 [.tup (ao lot),.int (-1)]=ok (.tup (ao lot.reverse)):=by
  rw[zo];show(if (-1:Int) = -1/\aS anyF (ao lot)=false then ok (D.tup (ao lot).reverse)else none)=_;rw[if_pos ⟨rfl,qZ lot⟩];simp[ao]
 have c2:Φ 1029 [.tup (ao lot),.int (-1)]=ok (.tup (ao (lot.drop (lot.length - 1)))):=by
  rw[zm];show(if (-1:Int) = -1/\2<=(ao lot).length/\aS anyF (ao lot)=false then ok (D.tup ((ao lot).drop ((ao lot).length - 1)))else none)=_;rw[if_pos ⟨rfl,by simpa using hl,qZ lot⟩];simp[ao]
 have cat:∀a b:ai,a.length+b.length<=100->cg .add (.tup (ao a)) (.tup (ao b))=ok (.tup (ao (a++b))):=λa b h=>by
  show(if (ao a).length+(ao b).length<=cY then ok (D.tup (aw aG (ao a++ao b)))else none)=_;rw[if_pos (cc (by simp;left)),show ao a++ao b=ao (a++b) by simp[ao]];simp
 have k1:cg .add (.tup (ao lot)) (.tup [.int k])=ok (.tup (ao (lot++[k]))):=cat lot [k] (by simp;left);have k2:cg .add (.tup [.int (-1)]) (.tup (ao lot))=ok (.tup (ao (-1::lot))):=cat [-1] lot (by simp;left);have k3:=cat lot (lot.drop (lot.length - 1)) (by simp;left);have l1:nC .list1 [.tup (ao lot)]=ok (.lst .ow (ao lot)):=by
  show ok (D.lst .ow (aw aG (ao lot)))=_;simp
 simp[gp,c1,c2,k1,k2,k3,l1,cU]
theorem nV{l:ai}{n:Int}{h:Int}(hh:h∈l)(hb:h<0\/n<=h):cN (.tup (ao l)) n=false:=by
 have:(ao l).all (bW n)=false:=by
  rw[ao,List.all_map,List.all_eq_false];refine⟨h,hh,?_⟩;simp[bW];left
 simp[cN,b6,this]
theorem yP{k:Nat}{r:Nat}{d:D}(hL:lQ k lot)(h2:2<=lot.length)(hk:k<=12)(h:(cU lot k)[r]?=some d):Ab (af aA d)/\cN (af aA d) k=false:=by
 have hlen:lot.length<=k:=hL.len;have nt:∀l:ai,l.length<=30->Ab (.tup (ao l)):=λl hl=>⟨by show(ao l).length<64;simp;left,o9 29 l,by simp⟩
 have mt:∀l:ai,af aA (.tup (ao l))=.tup (ao l):=λl=>by simp
 unfold cU at h
 match r,h with
 |0,h=>cases h;simp[aA];exact⟨⟨by show(ao lot).length<=1000000;simp;left,o9 29 lot,by simp[aA]⟩,rfl⟩
 |1,h =>
  cases h;rw[mt];exact⟨nt _ (by simp;left),nV (h:=(k:Int)) (by simp) (.inr (Int.le_refl _))⟩
 |2,h =>
  cases h;rw[mt];exact⟨nt _ (by simp;left),nV (h:=-1) (by simp) (.inl (by decide))⟩
 |3,h =>
  cases h;rw[mt];refine⟨nt _ (by simp;left),?_⟩;obtain⟨x,hx⟩:∃x,lot.drop (lot.length - 1)=[x]:=by
   have:(lot.drop (lot.length - 1)).length=1:=by simp;left
   match hh:lot.drop (lot.length - 1),this with
   |[x],_=>exact⟨x,rfl⟩
  have hm:x∈lot:=List.mem_of_mem_drop (i:=lot.length - 1) (by rw[hx];simp);rw[hx];have hd:kA lot=lot:=by
   have:=pU lot [] (by simp) hL.nodup
   rwa [List.nil_append]at this
  have:kA (lot++[x])=lot:=by
   unfold kA at hd ⊢;rw[List.foldl_append,hd,List.foldl_cons,List.foldl_nil,if_pos (List.any_eq_true.mpr ⟨x,hm,by simp⟩)]
  simp[cN,b6,df,this]
 |4,h=>cases h;exact⟨⟨trivial,rfl,rfl⟩,rfl⟩
 |5,h=>cases h;exact⟨⟨by show 1<64;decide,rfl,rfl⟩,rfl⟩
 |6,h=>cases h;exact⟨⟨by show 1<64;decide,rfl,rfl⟩,rfl⟩
 |7,h =>
  cases h;rw[mt];refine⟨nt _ (by simp;left),?_⟩;have:lot.reverse≠sortI lot.reverse:=λe=>by
   have hs:(sortI lot.reverse).Pairwise (λa b=>decide (a<=b)=true):=List.pairwise_mergeSort (by intro a b c;simp;left) (by intro a b;simp;left) _;rw[<- e,List.pairwise_reverse]at hs;have hp:=hL.1
   match lot,h2,hs,hp with
   |a::b::l,_,hs,hp =>
    have h1:=(List.pairwise_cons.mp hs).1 b (by simp);have h3:=(List.pairwise_cons.mp hp).1 b (by simp);simp at h1;left
  simp[cN,df,this]
 |8,h=>cases h;exact⟨⟨by show 1<64;decide,rfl,rfl⟩,rfl⟩
 |9,h =>
  cases h;refine⟨⟨by show 2<64;decide,rfl,rfl⟩,?_⟩;have:(kA [0,0]).length=1:=by decide
  show cN (.tup (ao [0,0])) k=false;show(((ao [0,0]).all (bW k)&&decide ((kA (numsOf (ao [0,0]))).length=2))&&decide (numsOf (ao [0,0])=sortI (numsOf (ao [0,0]))))=false;rw[df,this,show decide (1=2)=false from rfl,Bool.and_false,Bool.false_and]
 |10,h=>cases h;exact⟨⟨trivial,rfl,rfl⟩,rfl⟩
 |r+11,h=>simp at h
theorem EO(Φ:aV)(zo:Φ 1028=qK)(zm:Φ 1029=rQ):uj (mk Φ 3 4 ub):=by
 intro lot k n hL h2 hk;have hlen:lot.length<=k:=hL.len;obtain⟨g1,g2⟩:=cC n (b:=11) (by decide);obtain⟨r,hr⟩:∃r:Nat,n.fmod 11=(r:Int):=⟨(n.fmod 11).toNat,by left⟩
 obtain⟨d,hd⟩:∃d,(cU lot k)[r]?=some d:=⟨_,Xq (by show r<11;left)⟩
 obtain⟨B1,B2⟩:=yP hL h2 hk hd;refine⟨af aA d,?_,B1,B2⟩;have e1:=λx y=>Bv Φ zo zm (k:=(k:Int)) h2 (by left) x y;have al:aW bG (.lst .ow (cU lot k))=false:=by simp[cU]
 have k3:eY Φ gp [some (.tup (ao lot)),some (.int k),some (.int n),none]=ok (.lst .ow (cU lot k),[some (.tup (ao lot)),some (.int k),some (.int n),none]):=by
  show bI gp _ (aX Φ gp _)=_;rw[e1,eP al]
 have hi:aX Φ (.ix (.v 3) (.bin .mod (.v 2) (.int 11))) [some (.tup (ao lot)),some (.int k),some (.int n),some (.lst .ow (cU lot k))]=ok (af aG d):=by
  have e2:aX Φ (.bin .mod (.v 2) (.int 11)) [some (.tup (ao lot)),some (.int k),some (.int n),some (.lst .ow (cU lot k))]=ok (.int r):=by simp[hr]
  have e3:aX Φ (.v 3) [some (.tup (ao lot)),some (.int k),some (.int n),some (.lst .ow (cU lot k))]=ok (.lst .al (aw aG (cU lot k))):=rfl;rw[tU,e2,e3];show m7 (aw aG (cU lot k)) r=_;rw[at_of (by left) (d:=af aG d) (by rw[Int.toNat_natCast,aE,List.getElem?_map,hd];rfl),vD]
 obtain⟨ρ',KZ⟩:=pA (.ix (.v 3) (.bin .mod (.v 2) (.int 11))) [some (.tup (ao lot)),some (.int k),some (.int n),some (.lst .ow (cU lot k))] d;have s1:bE Φ [.asg (.nm 3) gp] [some (.tup (ao lot)),some (.int k),some (.int n),none]=ok (.nx,[some (.tup (ao lot)),some (.int k),some (.int n),some (.lst .ow (cU lot k))]):=by simp[k3]
 have s2:bE Φ [.ret (.ix (.v 3) (.bin .mod (.v 2) (.int 11)))] [some (.tup (ao lot)),some (.int k),some (.int n),some (.lst .ow (cU lot k))]=ok (.rt (af aA d),ρ'):=by
  rw[c0,CG,Pe,hi,KZ];rfl
 rw[mk_eq (ar:=3) (ds:=[_,_,_]) rfl];have:=(lU Φ [.asg (.nm 3) gp] [.ret (.ix (.v 3) (.bin .mod (.v 2) (.int 11)))] _ _ s1).trans s2;show lq (bE Φ ([.asg (.nm 3) gp]++[.ret (.ix (.v 3) (.bin .mod (.v 2) (.int 11)))]) [some (.tup (ao lot)),some (.int k),some (.int n),none])=_;rw[this];rfl
end DI
end
section
set_option maxHeartbeats 1000000
namespace DI
open PySem (Str)
variable {w:Int}{Φ:aV}
theorem gY{a b c:D}{e:Nat}{s:Str}(hs:wordOf e=some s)(hP:iR e (if w=0 then 109 else 110) (gQ w a b c))(he:Φ (if w=0 then 109 else 110) (gQ w a b c)=some (.error e)):nz Φ [.int w,a,b,c]=ok (.str s):=by
 show kh _ _ (Φ _ _)=_;rw[he];unfold kh;dsimp only;rw[if_pos hP,hs]
theorem x_{a b c r:D}(he:Φ (if w=0 then 109 else 110) (gQ w a b c)=ok r):nz Φ [.int w,a,b,c]=ok (.str "told"):=by
 show kh _ _ (Φ _ _)=_;rw[he];rfl
noncomputable def gq(b1 b2 b3 b4:Bool):Str:=if b4 then "weights" else if b3 then "lot" else if b2 then "weights" else if b1 then "worths" else "told"
noncomputable def fU(b1 b2 b3 b4:Bool):Str:=if b4 then "weights" else if b3 then(if b1 then "weights" else "lot")else if b2 then "weights" else if b1 then "weights" else "told"
def HW(n:Nat)(lot:ai)(b2 b4:Bool)(W:D):Prop:=if b4 then Ab W/\fN W=false else ∃f ws,W=.lst f (aL ws)/\ws.length=n/\(if b2 then ∃h∈lot,bw ws h<=0 else(∀h∈lot,0<bw ws h)/\∀q∈ws,Sm 4 q)
def HL(n:Nat)(lot:ai)(b3:Bool)(L:D):Prop:=if b3 then Ab L/\cN L n=false else L=.tup (ao lot)
def HH(n:Nat)(b1:Bool)(H:D):Prop:=if b1 then Ab H/\cz H n=false else ∃f hs,H=.lst f (aL hs)/\hs.length=n/\∀q∈hs,0<q/\Sm 4 q
theorem T9:D.tup [.int 3,.int 2]=qD (Rat.divInt 3 2):=by
 have h:(Rat.divInt 3 2).num=3/\(Rat.divInt 3 2).den=2:=by decide
 unfold qD;rw[h.1,h.2];rfl
variable {H L W:D}{b1 b2 b3 b4:Bool}
section
variable {Φ:aV}(rO:uf (Φ 109))(tW:ug (Φ 110))(zB:ip (Φ 109))(BY:qg (Φ 110)){n:Nat}{lot:ai}(hn:2<=n)(xg:n<=5)(hl:lQ n lot)(Il:2<=lot.length)
include rO zB hn xg hl Il
theorem yb(hW:HW n lot b2 b4 W)(hL:HL n lot b3 L)(hH:HH n b1 H):nz Φ [.int 0,W,L,H]=ok (.str (gq b1 b2 b3 b4)):=by
 cases b4 with
 |true =>
  obtain⟨B,hs⟩:=(Xy rfl).mp hW;have m:FD 3 (gQ 0 W L H):=⟨_,_,_,_,rfl,.inl ⟨rfl,aT B.cY,by rw[dO];exact hs⟩⟩
  exact gY (e:=3) rfl m (rO 3 _ m)
 |false =>
  obtain⟨f,ws,rfl,lw,hW⟩:=(XQ Xe).mp hW;have hg:Gw (af aA (.lst f (aL ws))) ws:=⟨⟨aA f,by simp⟩,by left,by left⟩
  cases b3 with
  |true =>
   obtain⟨B,hs⟩:=(Xy rfl).mp hL;have m:FD 7 (gQ 0 (.lst f (aL ws)) L H):=⟨_,_,_,_,rfl,.inr ⟨ws,hg,.inl ⟨rfl,aT B.cY,by rw[di,lw];exact hs⟩⟩⟩
   exact gY (e:=7) rfl m (rO 7 _ m)
  |false =>
   obtain rfl:=(XQ Xe).mp hL;have uX:lQ ws.length lot:=by rw[lw];exact hl
   cases b2 with
   |true =>
    have hb:=(Xy rfl).mp hW;have m:FD 3 (gQ 0 (.lst f (aL ws)) (.tup (ao lot)) H):=⟨_,_,_,_,rfl,.inr ⟨ws,hg,.inr ⟨lot,by simp,uX,.inl ⟨rfl,hb⟩⟩⟩⟩
    exact gY (e:=3) rfl m (rO 3 _ m)
   |false =>
    obtain⟨hp,hs⟩:=(XQ Xe).mp hW;cases b1 with
    |true =>
     obtain⟨B,ha⟩:=(Xy rfl).mp hH;have m:FD 4 (gQ 0 (.lst f (aL ws)) (.tup (ao lot)) H):=⟨_,_,_,_,rfl,.inr ⟨ws,hg,.inr ⟨lot,by simp,uX,.inr ⟨rfl,hp,aT B.cY,by rw[bC,lw];exact ha⟩⟩⟩⟩
     exact gY (e:=4) rfl m (rO 4 _ m)
    |false =>
     obtain⟨f',qo,rfl,lh,hh⟩:=(XQ Xe).mp hH;have ll:=hl.len;have P:D4 ws lot qo (Rat.divInt 3 2) 4 4 4:=⟨by left,by left,by left,uX,hp,hs,λq hq=>(hh q hq).2,xU (by decide) (by decide) (by decide),by left,by left,by left,by left⟩
     have ne:(dY lot λh=>bw ws h*bw qo h*bw qo h)≠0:=by
      have:0<dY lot λh=>bw ws h*bw qo h*bw qo h:=xN (λh hm=>by
       have b:=hl.2 h hm;have m2:=(bO (qs:=qo) b.1 (by left)).2;exact Rat.mul_pos (Rat.mul_pos (hp h hm) (hh _ m2).1) (hh _ m2).1) (by intro z;rw[z]at Il;simp at Il)
      intro z;rw[z]at this;exact absurd this (by decide)
     obtain⟨told,ht,_⟩:=(zB (aA f) (aA f') ws lot qo _ 4 4 4 P).1 ne;refine x_ (r:=.lst .ow (aL told)) ?_;rw[<- ht];simp[gQ,T9]
omit rO zB
include tW BY
theorem ya(hW:HW n lot b2 b4 W)(hL:HL n lot b3 L)(hH:HH n b1 H):nz Φ [.int 1,W,L,H]=ok (.str (fU b1 b2 b3 b4)):=by
 cases b4 with
 |true =>
  obtain⟨B,hs⟩:=(Xy rfl).mp hW;have m:FE 3 (gQ 1 W L H):=⟨_,_,_,rfl,.inl ⟨rfl,aT B.cY,by rw[dO];exact hs⟩⟩
  exact gY (e:=3) rfl m (tW 3 _ m)
 |false =>
  obtain⟨f,ws,rfl,lw,hW⟩:=(XQ Xe).mp hW;have hg:Gw (af aA (.lst f (aL ws))) ws:=⟨⟨aA f,by simp⟩,by left,by left⟩
  have uX:lQ ws.length lot:=by rw[lw];exact hl
  cases b1 with
  |true =>
   obtain⟨B,ha⟩:=(Xy rfl).mp hH;have m:FE 3 (gQ 1 (.lst f (aL ws)) L H):=⟨_,_,_,rfl,.inr ⟨ws,hg,.inl ⟨rfl,aT B.cY,by rw[bC,lw];exact ha⟩⟩⟩
   have e:fU true b2 b3 false = "weights":=by cases b2<;>cases b3<;>rfl
   rw[e];exact gY (e:=3) rfl m (tW 3 _ m)
  |false =>
   obtain⟨f',qo,rfl,lh,hh⟩:=(XQ Xe).mp hH;have hc:fb (af aA (.lst f' (aL qo))):=by
    refine aT ?_;show(aL qo).length<=1000000;simp;left
   have ha:cz (af aA (.lst f' (aL qo))) ws.length=true:=by
    rw[bC,kE];simp;left
   cases b3 with
   |true =>
    obtain⟨B,hs⟩:=(Xy rfl).mp hL;have m:FE 7 (gQ 1 (.lst f (aL ws)) L (.lst f' (aL qo))):=⟨_,_,_,rfl,.inr ⟨ws,hg,.inr ⟨hc,ha,.inl ⟨rfl,aT B.cY,by rw[di,lw];exact hs⟩⟩⟩⟩
    exact gY (e:=7) rfl m (tW 7 _ m)
   |false =>
    obtain rfl:=(XQ Xe).mp hL;cases b2 with
    |true =>
     have hb:=(Xy rfl).mp hW;have m:FE 3 (gQ 1 (.lst f (aL ws)) (.tup (ao lot)) (.lst f' (aL qo))):=⟨_,_,_,rfl,.inr ⟨ws,hg,.inr ⟨hc,ha,.inr ⟨rfl,lot,by simp,uX,hb⟩⟩⟩⟩
     exact gY (e:=3) rfl m (tW 3 _ m)
    |false =>
     obtain⟨hp,hs⟩:=(XQ Xe).mp hW;have ll:=hl.len;have ht:=BY (aA f) (aA f') ws lot qo 4 4 (by left) (by left) (by left) uX hp hs (λq hq=>(hh q hq).2) (by left) (by left) (by left);refine x_ (r:=qD (dY lot λh=>(bw qo h - bw ws h)*(bw qo h - bw ws h) / bw ws h)) ?_;rw[<- ht];simp[gQ]
end
def D3(m:aD):Prop:=∀(n:Nat) (lot:ai) (b1 b2 b3 b4:Bool) (W L H:D),2<=n->n<=5->lQ n lot->2<=lot.length->HW n lot b2 b4 W->HL n lot b3 L->HH n b1 H->m [.int 0,W,L,H]=ok (.str (gq b1 b2 b3 b4))/\m [.int 1,W,L,H]=ok (.str (fU b1 b2 b3 b4))
theorem JE(Φ:aV)(rO:uf (Φ 109))(tW:ug (Φ 110))(zB:ip (Φ 109))(BY:qg (Φ 110)):D3 (nz Φ):=λn lot b1 b2 b3 b4 W L H h1 h2 h3 h4 hW hL hH =>
 ⟨yb rO zB h1 h2 h3 h4 hW hL hH,ya tW BY h1 h2 h3 h4 hW hL hH⟩
end DI
end
section
set_option maxHeartbeats 1000000
namespace DI
open PySem (Str)
theorem An{Φ:aV}{p i:Nat}{es:aC}{xs:aa}{ρ:aU}{d d':D}(h1:b8 Φ es ρ=ok xs)(h2:aS bG xs=false)(h3:ρ[i]?=some (some d))(h4:Φ p (d::xs)=ok d'):gM Φ (.mut p i es) ρ=ok (.nx,ρ.set i (some d')):=by
 show bd (b8 Φ es ρ) (λxs=>s_ Φ p i (mj es xs ρ))=_;rw[h1,de];unfold mj;rw[if_neg (by rw[h2];exact Bool.false_ne_true)];unfold s_;rw[h3];show bd (Φ p (d::xs)) _=_;rw[h4];rfl
noncomputable def rB:CE:=.call 257 [(.v 5),(.v 7)]
noncomputable def rA:CE:=.call 259 [(.v 3),(.v 2),(.bin .fdiv (.v 7) (.int 1024))]
noncomputable def rq:CE:=.call 258 [(.v 4),(.bin .fdiv (.v 7) (.int 11264))]
noncomputable def zu:CE:=.ix (.lst [(.tup [(.int 0),(.int 1)]),(.tup [(.neg (.int 1)),(.int 3)])]) (.bin .mod (.bin .fdiv (.v 7) (.int 512)) (.int 2))
noncomputable def BX:CE:=.ix (.v 3) (.bin .mod (.bin .fdiv (.v 7) (.int 256)) (.bf .len [(.v 3)]))
noncomputable def Be:ah:=[.asg (.nm 7) (.call 200 [(.v 0),(.v 6)]),.asg (.nm 8) (.lst [(.bf .list1 [(.v 4)]),(.v 3),(.bf .list1 [(.v 5)])]),.asg (.nm 9) (.lst [(.str "told"),(.str "told")]),.asg (.nm 10) (.bin .mod (.v 7) (.int 16)),.asg (.nm 7) (.bin .fdiv (.v 7) (.int 16))]
def Bd:CS:=.ifs (.cmp .eq (.bin .mod (.v 10) (.int 2)) (.int 1)) [.setI 8 (.int 2) rB,.asg (.nm 9) (.lst [(.str "worths"),(.str "weights")])] []
def Bc:CS:=.ifs (.cmp .eq (.bin .mod (.bin .fdiv (.v 10) (.int 2)) (.int 2)) (.int 1)) [.mut 1027 8 [zu,(.int 0),BX],.asg (.nm 9) (.lst [(.str "weights"),(.str "weights")])] []
def yw:CS:=.ifs (.cmp .eq (.bin .mod (.bin .fdiv (.v 10) (.int 4)) (.int 2)) (.int 1)) [.setI 8 (.int 1) rA,.asg (.nm 9) (.lst [(.str "lot"),(.ix (.lst [(.str "lot"),(.str "weights")]) (.bin .mod (.v 10) (.int 2)))])] []
def yv:CS:=.ifs (.cmp .eq (.bin .fdiv (.v 10) (.int 8)) (.int 1)) [.setI 8 (.int 0) rq,.asg (.nm 9) (.lst [(.str "weights"),(.str "weights")])] []
noncomputable def mw:CE:=.lst [(.call 215 [(.ix (.v 8) (.int 0))]),(.ix (.v 8) (.int 1)),(.call 215 [(.ix (.v 8) (.int 2))])]
def v9:CS:=.asg (.nm 11) mw
noncomputable def Mh:ah:=[.ifs (.or [(.cmp .ne (.call 253 [(.v 12),(.ix (.v 8) (.int 0)),(.ix (.v 8) (.int 1)),(.ix (.v 8) (.int 2))]) (.ix (.v 9) (.v 12))),(.cmp .ne (.v 8) (.v 11))]) [.ret (.bl false)] []]
def Fg:CS:=.fr (.nm 12) (.kc (.int 2)) Mh
def p9:ah:=Be++[Bd,Bc,yw,yv,v9,Fg]
def cQ(ns:ai)(N:Int)(n:Nat)(lot:ai)(f4:Fl)(ws:aK)(f5:Fl)(hs:aK)(c6 c7 c8 c9 eI dE d7:aM):aU :=
 [some (.lst .sc (ao ns)),some (.int N),some (.int n),some (.tup (ao lot)),some (.lst f4 (aL ws)),some (.lst f5 (aL hs)),c6,c7,c8,c9,eI,dE,d7]
structure z_(n:Nat)(lot:ai)(ws hs:aK):Prop where
 n2:2<=n
 n5:n<=5
 lt:lQ n lot
 l2:2<=lot.length
 lw:ws.length=n
 lh:hs.length=n
 pw:∀q∈ws,0<q/\Sm 4 q
 ph:∀q∈hs,0<q/\Sm 4 q
theorem vd{f:Fl}(h:aA f=.fz):aA (aG f)=.fz/\aA (aA f)=.fz:=by cases f<;>first|exact⟨rfl,rfl⟩|cases h
section
variable {Φ:aV}{ns:ai}{N:Int}{n:Nat}{lot:ai}{f4 f5:Fl}{ws hs:aK}(I:z_ n lot ws hs)
include I
theorem Oj(wH:qh (Φ 200)){k:Int}(hk:0<=k)(c7 c8 c9 eI dE d7:aM):bE Φ Be (cQ ns N n lot f4 ws f5 hs (some (.int k)) c7 c8 c9 eI dE d7)=ok (.nx,cQ ns N n lot f4 ws f5 hs (some (.int k)) (some (.int ((cD ns k).fdiv 16))) (some (.lst .ow [.lst .ow (aL ws),.tup (ao lot),.lst .ow (aL hs)])) (some (.lst .ow [.str "told",.str "told"])) (some (.int ((cD ns k).fmod 16))) dE d7):=by
 have e1:=wH ns k hk;have l1:∀(f:Fl) (qs:aK),nC .list1 [.lst f (aL qs)]=ok (.lst .ow (aL qs)):=λf qs=>by
  show ok (D.lst .ow (aw aG (aL qs)))=_;simp
 simp[cQ,Be,e1,l1]
theorem HH.good(f:Fl):HH n false (.lst f (aL hs)):=⟨f,hs,rfl,I.lh,I.ph⟩
theorem Oi(h5:aA f5=.fz)(zl:qi (Φ 257))(c6 dE d7:aM)(dr mo:Int):∃b1 n6 H,aA n6=.fz/\HH n b1 H/\bR 30 H=true/\(mo.fmod 2=if b1 then 1 else 0) /\
  gM Φ Bd (cQ ns N n lot f4 ws f5 hs c6 (some (.int dr)) (some (.lst .ow [.lst .ow (aL ws),.tup (ao lot),.lst .ow (aL hs)])) (some (.lst .ow [.str "told",.str "told"])) (some (.int mo)) dE d7)=ok (.nx,cQ ns N n lot f4 ws n6 hs c6 (some (.int dr)) (some (.lst .ow [.lst .ow (aL ws),.tup (ao lot),H])) (some (.lst .ow [.str (gq b1 false false false),.str (fU b1 false false false)])) (some (.int mo)) dE d7):=by
 obtain⟨m1,m2⟩:=cC mo (b:=2) (by decide);by_cases hm:mo.fmod 2=1
 ·obtain⟨a,r,d,ha,hr,hd,he⟩:=zl hs dr (by have:=I.lh;have:=I.n2;left) (by have:=I.lh;have:=I.n5;left);obtain⟨B1,B2,_⟩:=ox (by have:=I.lh;have:=I.n2;left) (by have:=I.lh;have:=I.n5;left) hd;rw[I.lh]at B2;obtain⟨ρ',hk,hρ⟩:=iB rB (cQ ns N n lot f4 ws f5 hs c6 (some (.int dr)) (some (.lst .ow [.lst .ow (aL ws),.tup (ao lot),.lst .ow (aL hs)])) (some (.lst .ow [.str "told",.str "told"])) (some (.int mo)) dE d7) B1.fz;obtain⟨n6,hf,rfl⟩:∃n6,aA n6=.fz/\ρ'=cQ ns N n lot f4 ws n6 hs c6 (some (.int dr)) (some (.lst .ow [.lst .ow (aL ws),.tup (ao lot),.lst .ow (aL hs)])) (some (.lst .ow [.str "told",.str "told"])) (some (.int mo)) dE d7:=by
   rcases hρ with rfl|rfl
   ·exact⟨f5,h5,rfl⟩
   ·refine⟨aA f5,(vd h5).2,?_⟩;rw[show gb rB=[5,7] from rfl];simp[cQ]
  have ek:eY Φ rB (cQ ns N n lot f4 ws f5 hs c6 (some (.int dr)) (some (.lst .ow [.lst .ow (aL ws),.tup (ao lot),.lst .ow (aL hs)])) (some (.lst .ow [.str "told",.str "told"])) (some (.int mo)) dE d7)=ok (d,cQ ns N n lot f4 ws n6 hs c6 (some (.int dr)) (some (.lst .ow [.lst .ow (aL ws),.tup (ao lot),.lst .ow (aL hs)])) (some (.lst .ow [.str "told",.str "told"])) (some (.int mo)) dE d7):=by
   show bI rB _ (aX Φ rB _)=_;have:aX Φ rB (cQ ns N n lot f4 ws f5 hs c6 (some (.int dr)) (some (.lst .ow [.lst .ow (aL ws),.tup (ao lot),.lst .ow (aL hs)])) (some (.lst .ow [.str "told",.str "told"])) (some (.int mo)) dE d7)=ok (af cq d):=by
    simp[rB,cQ,(vd h5).1,he]
   rw[this,hk]
  have x1:=oz (Φ:=Φ) (i:=8) (j:=2) (k:=.int 2) (z:=2) (ds:=[.lst .ow (aL ws),.tup (ao lot),.lst .ow (aL hs)]) ek (by simp) rfl rfl;refine⟨true,n6,d,hf,⟨B1,B2⟩,B1.ok,hm,?_⟩;have t1:aX Φ (.cmp .eq (.bin .mod (.v 10) (.int 2)) (.int 1)) (cQ ns N n lot f4 ws f5 hs c6 (some (.int dr)) (some (.lst .ow [.lst .ow (aL ws),.tup (ao lot),.lst .ow (aL hs)])) (some (.lst .ow [.str "told",.str "told"])) (some (.int mo)) dE d7)=ok (.bl true):=by simp[cQ,hm]
  simp only[Bd,sk,t1];simp[x1];simp[cQ,gq,fU]
 ·have h0:mo.fmod 2=0:=by left
  refine⟨false,f5,.lst .ow (aL hs),h5,HH.good I .ow,by rw[sV],h0,?_⟩;simp[Bd,cQ,h0,gq,fU]
end
end DI
end
section
set_option maxHeartbeats 1000000
namespace DI
open PySem (Str)
theorem NO:D.tup [.int (-1),.int 3]=qD (Rat.divInt (-1) 3):=by
 have h:(Rat.divInt (-1) 3).num = -1/\(Rat.divInt (-1) 3).den=3:=by decide
 unfold qD;rw[h.1,h.2];rfl
variable {W:D}
section
variable {Φ:aV}{ns:ai}{N:Int}{n:Nat}{lot:ai}{f4 f5:Fl}{ws hs:aK}(I:z_ n lot ws hs)
include I
theorem Oh(zp:Φ 1027=Jw)(b1:Bool)(L H:D)(c6 dE d7:aM)(dr mo:Int):∃b2 W,HW n lot b2 false W/\bR 30 W=true /\
  gM Φ Bc (cQ ns N n lot f4 ws f5 hs c6 (some (.int dr)) (some (.lst .ow [.lst .ow (aL ws),L,H])) (some (.lst .ow [.str (gq b1 false false false),.str (fU b1 false false false)])) (some (.int mo)) dE d7)=ok (.nx,cQ ns N n lot f4 ws f5 hs c6 (some (.int dr)) (some (.lst .ow [W,L,H])) (some (.lst .ow [.str (gq b1 b2 false false),.str (fU b1 b2 false false)])) (some (.int mo)) dE d7):=by
 obtain⟨m1,m2⟩:=cC (mo.fdiv 2) (b:=2) (by decide);have l2:=I.l2;have lw:=I.lw;by_cases hm:(mo.fdiv 2).fmod 2=1
 ·have dm:cg .mod (.int (dr.fdiv 256)) (.int lot.length)=ok (.int ((dr.fdiv 256).fmod lot.length)):=DV (by left);obtain⟨f1,f2⟩:=cC (dr.fdiv 256) (b:=(lot.length:Int)) (by left);generalize hA:(dr.fdiv 256).fmod lot.length=A at *;have VS:A.toNat<lot.length:=by left
  obtain⟨h,hx⟩:∃x,lot[A.toNat]?=some x:=⟨_,Xq VS⟩
  have ax:m7 (ao lot) A=ok (.int h):=by rw[at_of f1 (d:=.int h) (by rw[nU,hx];rfl)];simp
  have KU:=Xt hx;have hb:=I.lt.2 h KU;obtain⟨g1,g2⟩:=cC (dr.fdiv 512) (b:=2) (by decide);obtain⟨q,hq,hv⟩:∃q:Rat,q<=0/\∀c8 c9 eI:aM,aX Φ zu (cQ ns N n lot f4 ws f5 hs c6 (some (.int dr)) c8 c9 eI dE d7)=ok (qD q):=by
   by_cases h0:(dr.fdiv 512).fmod 2=0
   ·refine⟨0,by decide,λc8 c9 eI=>?_⟩;have:D.tup [.int 0,.int 1]=qD 0:=rfl;simp[zu,cQ,h0];rfl
   ·have h1:(dr.fdiv 512).fmod 2=1:=by left
    refine⟨Rat.divInt (-1) 3,by decide,λc8 c9 eI=>?_⟩;simp[zu,cQ,h1,<- NO]
  have hh:∀c8 c9 eI:aM,aX Φ BX (cQ ns N n lot f4 ws f5 hs c6 (some (.int dr)) c8 c9 eI dE d7)=ok (.int h):=λc8 c9 eI=>by
   simp[BX,cQ,dm,ax]
  have sn:Φ 1027 [.lst .ow [.lst .ow (aL ws),L,H],qD q,.int 0,.int h]=ok (.lst .ow [.lst .ow (aL (ws.set h.toNat q)),L,H]):=by
   rw[zp];show(if (0:Int)<=0 then(if 0<=h/\h<(aL ws).length/\aW anyF (qD q)=false then ok (D.lst .ow (wZ 0 (.lst .ow ((aL ws).set h.toNat (qD q))) 0 [.lst .ow (aL ws),L,H]))else none)else none)=_;rw[if_pos (by decide),if_pos ⟨hb.1,by simp;left,rfl⟩];simp[wZ,aL,List.map_set]
  refine⟨true,.lst .ow (aL (ws.set h.toNat q)),⟨.ow,_,rfl,by simp[lw],?_⟩,by rw[sV],?_⟩
  ·rw[if_pos rfl];refine⟨h,KU,?_⟩;rw[vy hb.1 (by left) hb.1,if_pos rfl];exact hq
  ·have x1:=An (Φ:=Φ) (p:=1027) (i:=8) (es:=[zu,(.int 0),BX]) (xs:=[qD q,.int 0,.int h]) (ρ:=cQ ns N n lot f4 ws f5 hs c6 (some (.int dr)) (some (.lst .ow [.lst .ow (aL ws),L,H])) (some (.lst .ow [.str (gq b1 false false false),.str (fU b1 false false false)])) (some (.int mo)) dE d7) (by rw[c_,hv,c_,vm,c_,hh,mK];rfl) rfl rfl sn;have t1:aX Φ (.cmp .eq (.bin .mod (.bin .fdiv (.v 10) (.int 2)) (.int 2)) (.int 1)) (cQ ns N n lot f4 ws f5 hs c6 (some (.int dr)) (some (.lst .ow [.lst .ow (aL ws),L,H])) (some (.lst .ow [.str (gq b1 false false false),.str (fU b1 false false false)])) (some (.int mo)) dE d7)=ok (.bl true):=by simp[cQ,hm]
   simp only[Bc,sk,t1];simp[x1];simp[cQ,gq,fU]
 ·have h0:(mo.fdiv 2).fmod 2=0:=by left
  refine⟨false,.lst .ow (aL ws),⟨.ow,ws,rfl,lw,?_⟩,by rw[sV],?_⟩
  ·rw[if_neg Bool.false_ne_true];exact⟨λh hm=>(I.pw _ (bO (qs:=ws) (I.lt.2 h hm).1 (by have:=(I.lt.2 h hm).2;left)).2).1,λq hq=>(I.pw q hq).2⟩
  ·simp[Bc,cQ,h0]
theorem Og(Gy:uj (Φ 259))(b1 b2:Bool)(W H:D)(c6 dE d7:aM)(dr mo:Int)(MS:mo.fmod 2=if b1 then 1 else 0):∃b3 L,HL n lot b3 L/\bR 30 L=true /\
  gM Φ yw (cQ ns N n lot f4 ws f5 hs c6 (some (.int dr)) (some (.lst .ow [W,.tup (ao lot),H])) (some (.lst .ow [.str (gq b1 b2 false false),.str (fU b1 b2 false false)])) (some (.int mo)) dE d7)=ok (.nx,cQ ns N n lot f4 ws f5 hs c6 (some (.int dr)) (some (.lst .ow [W,L,H])) (some (.lst .ow [.str (gq b1 b2 b3 false),.str (fU b1 b2 b3 false)])) (some (.int mo)) dE d7):=by
 obtain⟨m1,m2⟩:=cC (mo.fdiv 4) (b:=2) (by decide);by_cases hm:(mo.fdiv 4).fmod 2=1
 ·obtain⟨d,he,B1,B2⟩:=Gy lot n (dr.fdiv 1024) I.lt I.l2 (by have:=I.n5;left)
  let ρ:=cQ ns N n lot f4 ws f5 hs c6 (some (.int dr)) (some (.lst .ow [W,.tup (ao lot),H])) (some (.lst .ow [.str (gq b1 b2 false false),.str (fU b1 b2 false false)])) (some (.int mo)) dE d7
  obtain⟨ρ',hk,hρ⟩:=iB rA ρ B1.fz;obtain rfl:ρ'=ρ:=by
   rcases hρ with rfl|rfl
   ·rfl
   ·rw[show gb rA=[3,2,7] from rfl];simp[ρ,cQ]
  have ek:eY Φ rA ρ=ok (d,ρ):=by
   show bI rA _ (aX Φ rA _)=_;have:aX Φ rA ρ=ok (af cq d):=by simp[rA,ρ,cQ,he]
   rw[this,hk]
  have x1:=oz (Φ:=Φ) (i:=8) (j:=1) (k:=.int 1) (z:=1) (ds:=[W,.tup (ao lot),H]) ek (by simp) rfl rfl;have ix:∀ρ:aU,aX Φ (.bin .mod (.v 10) (.int 2)) ρ=ok (.int (if b1 then 1 else 0))->aX Φ (.ix (.lst [(.str "lot"),(.str "weights")]) (.bin .mod (.v 10) (.int 2))) ρ=ok (.str (if b1 then "weights" else "lot")):=λρ h=>by
   rw[tU,h];cases b1<;>rfl
  refine⟨true,d,⟨B1,B2⟩,B1.ok,?_⟩;have t1:aX Φ (.cmp .eq (.bin .mod (.bin .fdiv (.v 10) (.int 4)) (.int 2)) (.int 1)) ρ=ok (.bl true):=by simp[ρ,cQ,hm]
  show gM Φ yw ρ=_;have i1:=ix (ρ.set 8 (some (.lst .ow [W,d,H]))) (by simp[ρ,cQ,MS]);have i2:aX Φ (.lst [(.str "lot"),(.ix (.lst [(.str "lot"),(.str "weights")]) (.bin .mod (.v 10) (.int 2)))]) (ρ.set 8 (some (.lst .ow [W,d,H])))=ok (.lst .ow [.str "lot",.str (if b1 then "weights" else "lot")]):=by
   rw[zH,c_,LA,c_,i1,mK];rfl
  have i3:eY Φ (.lst [(.str "lot"),(.ix (.lst [(.str "lot"),(.str "weights")]) (.bin .mod (.v 10) (.int 2)))]) (ρ.set 8 (some (.lst .ow [W,d,H])))=ok (.lst .ow [.str "lot",.str (if b1 then "weights" else "lot")],ρ.set 8 (some (.lst .ow [W,d,H]))):=by
   show bI _ _ (aX Φ _ _)=_;rw[i2];exact eP rfl
  simp only[yw,sk,t1,ux,yW];rw[c0,x1,gR];simp only[List.set_cons_zero,List.set_cons_succ]at i3 ⊢;rw[c0,qt,i3];simp[ρ,cQ,gq,fU]
 ·have h0:(mo.fdiv 4).fmod 2=0:=by left
  exact⟨false,.tup (ao lot),rfl,o9 29 lot,by simp[yw,cQ,h0]⟩
theorem Of(h4:aA f4=.fz)(Gz:ui (Φ 258))(b1 b2 b3:Bool)(hW:HW n lot b2 false W)(oW:bR 30 W=true)(L H:D)(c6 dE d7:aM)(dr mo:Int)(MS:0<=mo/\mo<16):∃b4 rJ W',aA rJ=.fz/\HW n lot b2 b4 W'/\bR 30 W'=true /\
  gM Φ yv (cQ ns N n lot f4 ws f5 hs c6 (some (.int dr)) (some (.lst .ow [W,L,H])) (some (.lst .ow [.str (gq b1 b2 b3 false),.str (fU b1 b2 b3 false)])) (some (.int mo)) dE d7)=ok (.nx,cQ ns N n lot rJ ws f5 hs c6 (some (.int dr)) (some (.lst .ow [W',L,H])) (some (.lst .ow [.str (gq b1 b2 b3 b4),.str (fU b1 b2 b3 b4)])) (some (.int mo)) dE d7):=by
 by_cases hm:mo.fdiv 8=1
 ·obtain⟨d,he,B1,B2⟩:=Gz ws (dr.fdiv 11264) (by have:=I.lw;have:=I.n2;left) (by have:=I.lw;have:=I.n5;left)
  let R:=λf4=>cQ ns N n lot f4 ws f5 hs c6 (some (.int dr)) (some (.lst .ow [W,L,H])) (some (.lst .ow [.str (gq b1 b2 b3 false),.str (fU b1 b2 b3 false)])) (some (.int mo)) dE d7
  obtain⟨ρ',hk,hρ⟩:=iB rq (R f4) B1.fz;obtain⟨rJ,hf,rfl⟩:∃rJ,aA rJ=.fz/\ρ'=R rJ:=by
   rcases hρ with rfl|rfl
   ·exact⟨f4,h4,rfl⟩
   ·refine⟨aA f4,(vd h4).2,?_⟩;rw[show gb rq=[4,7] from rfl];simp[R,cQ]
  have ek:eY Φ rq (R f4)=ok (d,R rJ):=by
   show bI rq _ (aX Φ rq _)=_;have:aX Φ rq (R f4)=ok (af cq d):=by simp[rq,R,cQ,(vd h4).1,he]
   rw[this,hk]
  have x1:=oz (Φ:=Φ) (i:=8) (j:=0) (k:=.int 0) (z:=0) (ds:=[W,L,H]) ek (by simp) rfl rfl;refine⟨true,rJ,d,hf,⟨B1,B2⟩,B1.ok,?_⟩;have t1:aX Φ (.cmp .eq (.bin .fdiv (.v 10) (.int 8)) (.int 1)) (R f4)=ok (.bl true):=by simp[R,cQ,hm]
  show gM Φ yv (R f4)=_;simp only[yv,sk,t1,ux,yW];rw[c0,x1,gR];simp[R,cQ,gq,fU]
 ·exact⟨false,f4,W,h4,hW,oW,by simp[yv,cQ,hm]⟩
omit I in
theorem Oe(BW:zZ (Φ 215)){L H:D}(oW:bR 30 W=true)(oL:bR 30 L=true)(oH:bR 30 H=true)(c6 c7 c9 eI dE d7:aM):∃(g:Fl->Fl) (fh fk:Fl) (K0 K1 K2:D),(∀d,af aA (af aG (af g d))=af aA d)/\vH W K0/\vH L K1/\vH H K2 /\
  gM Φ v9 (cQ ns N n lot f4 ws f5 hs c6 c7 (some (.lst .ow [W,L,H])) c9 eI dE d7)=ok (.nx,cQ ns N n lot f4 ws f5 hs c6 c7 (some (.lst fh [af g W,af g L,af g H])) c9 eI (some (.lst fk [K0,K1,K2])) d7):=by
 obtain⟨k0,h0,q0⟩:=BW W oW;obtain⟨k2,h2,q2⟩:=BW H oH
 let ρ:=cQ ns N n lot f4 ws f5 hs c6 c7 (some (.lst .ow [W,L,H])) c9 eI dE d7
 have e8:∀ρ:aU,ρ[8]?=some (some (.lst .ow [W,L,H]))->∀(j:Nat) d,([W,L,H]:aa)[j]?=some d->aX Φ (.ix (.v 8) (.int j)) ρ=ok (af aG d):=λρ hρ j d hd=>by
  rw[tU,Q0,hρ];show m7 (aw aG [W,L,H]) j=_;rw[at_of (by left) (d:=af aG d) (by rw[Int.toNat_natCast,aE,List.getElem?_map,hd];rfl),vD]
 have i0:=e8 ρ rfl 0 W rfl;have i1:=e8 ρ rfl 1 L rfl;have i2:=e8 ρ rfl 2 H rfl;have ev:aX Φ mw ρ=ok (.lst .ow [af cq k0,af aG L,af cq k2]):=by
  have a0:aX Φ (.call 215 [(.ix (.v 8) (.int 0))]) ρ=ok (af cq k0):=by
   rw[tV,c_,show aX Φ (.ix (.v 8) (.int 0)) ρ=ok (af aG W) from i0,mK];show oi (Φ 215) (ok [af aG W])=_;rw[mP];show Iu (Φ 215 [af aA (af aG W)])=_;rw[jS,h0];rfl
  have a2:aX Φ (.call 215 [(.ix (.v 8) (.int 2))]) ρ=ok (af cq k2):=by
   rw[tV,c_,show aX Φ (.ix (.v 8) (.int 2)) ρ=ok (af aG H) from i2,mK];show oi (Φ 215) (ok [af aG H])=_;rw[mP];show Iu (Φ 215 [af aA (af aG H)])=_;rw[jS,h2];rfl
  unfold mw;rw[zH,c_,a0,c_,show aX Φ (.ix (.v 8) (.int 1)) ρ=ok (af aG L) from i1,c_,a2,mK];rfl
 have cp:∀{d k:D} (g:Fl->Fl),vH d k->vH d (af g k):=λ{d k} g h=>by
  refine⟨?_,λm=>(fP g m k).trans (h.2 m)⟩;have:=ia id g d k;rw[cB]at this;rw[this];exact h.1
 cases ha:aW bG (.lst .ow [af cq k0,af aG L,af cq k2])with
 |true =>
  have hk:eY Φ mw ρ=ok (af aA (.lst .ow [af cq k0,af aG L,af cq k2]),lj (gb mw) 0 ρ):=by
   show bI mw _ (aX Φ mw _)=_;rw[ev,jK ha]
  refine⟨aA,.fz,.fz,af aA (af cq k0),af aA (af aG L),af aA (af cq k2),λd=>by rw[DY,dP];congr 1;funext f;cases f<;>rfl,cp _ (cp _ q0),?_,cp _ (cp _ q2),?_⟩
  ·rw[jS];exact lL aA oL
  ·show gM Φ v9 ρ=_;unfold v9;rw[qt,hk,show gb mw=[8,8,8] from rfl];simp[ρ,cQ,aA]
 |false =>
  have hk:eY Φ mw ρ=ok (.lst .ow [af cq k0,af aG L,af cq k2],ρ):=by
   show bI mw _ (aX Φ mw _)=_;rw[ev,eP ha]
  refine⟨id,.ow,.ow,af cq k0,af aG L,af cq k2,λd=>by rw[cB,jS],cp _ q0,lL aG oL,cp _ q2,?_⟩;show gM Φ v9 ρ=_;unfold v9;rw[qt,hk];simp[ρ,cQ,cB]
end
end DI
end
section
set_option maxHeartbeats 1000000
namespace DI
open PySem (Str)
theorem eN:∀(n:Nat) (d:D),bR n d=true->bR (n+1) d=true
 |n,.bB,_=>by cases n<;>rfl
 |n,.bl b,_=>by cases n<;>rfl
 |n,.int b,_=>by cases n<;>rfl
 |n,.str b,_=>by cases n<;>rfl
 |0,.tup ds,h=>by simp[bR]at h
 |0,.lst _ ds,h=>by simp[bR]at h
 |n+1,.tup ds,h=>by
  simp only[bR]at h ⊢;rw[List.all_eq_true]at h ⊢;exact λd hd=>eN n d (h d hd)
 |n+1,.lst _ ds,h=>by
  simp only[bR]at h ⊢;rw[List.all_eq_true]at h ⊢;exact λd hd=>eN n d (h d hd)
 |n,.gr _ _ _,h=>by simp[bR]at h
theorem kl{d:D}(h:bR 30 d=true):bR 39 d=true:=eN _ _ (eN _ _ (eN _ _ (eN _ _ (eN _ _ (eN _ _ (eN _ _ (eN _ _ (eN _ _ h))))))))
theorem HW.fz{n:Nat}{lot:ai}{b2 b4:Bool}{W:D}(h:HW n lot b2 b4 W):HW n lot b2 b4 (af aA W):=by
 cases b4 with
 |true=>obtain⟨B,hs⟩:=(Xy rfl).mp h;rw[B.fz];exact h
 |false=>obtain⟨f,ws,rfl,h1⟩:=(XQ Xe).mp h;exact⟨aA f,ws,by simp,h1⟩
theorem HL.fz{n:Nat}{lot:ai}{b:Bool}{W:D}(h:HL n lot b W):HL n lot b (af aA W):=by
 cases b with
 |true=>obtain⟨B,hs⟩:=(Xy rfl).mp h;rw[B.fz];exact h
 |false=>obtain rfl:=(XQ Xe).mp h;show af aA (.tup (ao lot))=_;simp
theorem HH.fz{n:Nat}{b:Bool}{W:D}(h:HH n b W):HH n b (af aA W):=by
 cases b with
 |true=>obtain⟨B,hs⟩:=(Xy rfl).mp h;rw[B.fz];exact h
 |false=>obtain⟨f,ws,rfl,h1⟩:=(XQ Xe).mp h;exact⟨aA f,ws,by simp,h1⟩
theorem ne_str(s:Str):ic .ne (.str s) (.str s)=ok (.bl false):=by
 show ok (D.bl (!(s==s)))=_;simp
variable {H K0 K1 K2 L W:D}{fh fk:Fl}{s0 s1:Str}
section
variable {Φ:aV}{ns:ai}{N:Int}{n:Nat}{lot:ai}{f4 f5:Fl}{ws hs:aK}
theorem Jq{g:Fl->Fl}(hg:∀d,af aA (af aG (af g d))=af aA d)(oW:bR 30 W=true)(oL:bR 30 L=true)(oH:bR 30 H=true)(q0:vH W K0)(q1:vH L K1)(q2:vH H K2){s:Str}{w:Nat}(qo:[s0,s1][w]?=some s)
  (he:Φ 253 [.int w,af aA W,af aA L,af aA H]=ok (.str s)) (c6 c7 eI:aM) :
  bE Φ Mh (cQ ns N n lot f4 ws f5 hs c6 c7 (some (.lst fh [af g W,af g L,af g H])) (some (.lst .ow [.str s0,.str s1])) eI (some (.lst fk [K0,K1,K2])) (some (.int w)))=ok (.nx,cQ ns N n lot f4 ws f5 hs c6 c7 (some (.lst fh [af g W,af g L,af g H])) (some (.lst .ow [.str s0,.str s1])) eI (some (.lst fk [K0,K1,K2])) (some (.int w))):=by
 let ρ:=cQ ns N n lot f4 ws f5 hs c6 c7 (some (.lst fh [af g W,af g L,af g H])) (some (.lst .ow [.str s0,.str s1])) eI (some (.lst fk [K0,K1,K2])) (some (.int w))
 have e8:∀(j:Nat) d,([af g W,af g L,af g H]:aa)[j]?=some d->aX Φ (.ix (.v 8) (.int j)) ρ=ok (af aG d):=λj d hd=>by
  rw[tU,Q0];show m7 (aw aG [af g W,af g L,af g H]) j=_;rw[at_of (by left) (d:=af aG d) (by rw[Int.toNat_natCast,aE,List.getElem?_map,hd];rfl),vD]
 have i0:aX Φ (.ix (.v 8) (.int 0)) ρ=ok (af aG (af g W)):=e8 0 _ rfl;have i1:aX Φ (.ix (.v 8) (.int 1)) ρ=ok (af aG (af g L)):=e8 1 _ rfl;have i2:aX Φ (.ix (.v 8) (.int 2)) ρ=ok (af aG (af g H)):=e8 2 _ rfl;have iw:aX Φ (.v 12) ρ=ok (.int w):=rfl;have a1:aX Φ (.call 253 [(.v 12),(.ix (.v 8) (.int 0)),(.ix (.v 8) (.int 1)),(.ix (.v 8) (.int 2))]) ρ=ok (.str s):=by
  rw[tV,c_,iw,c_,i0,c_,i1,c_,i2,mK];show oi (Φ 253) (ok [.int w,af aG (af g W),af aG (af g L),af aG (af g H)])=_;rw[mP];show Iu (Φ 253 [.int w,af aA (af aG (af g W)),af aA (af aG (af g L)),af aA (af aG (af g H))])=_;rw[hg,hg,hg,he];rfl
 have a2:aX Φ (.ix (.v 9) (.v 12)) ρ=ok (.str s):=by
  rw[tU,iw];show m7 [.str s0,.str s1] w=_;rw[at_of (by left) (d:=.str s) (by
   rw[Int.toNat_natCast]
   match w,qo with
   |0,h=>cases h;rfl
   |1,h=>cases h;rfl)]
  rfl
 have a3:aX Φ (.cmp .ne (.v 8) (.v 11)) ρ=ok (.bl false):=by
  show ic .ne (.lst (aG fh) [af aG (af g W),af aG (af g L),af aG (af g H)]) (.lst (aG fk) [af aG K0,af aG K1,af aG K2])=_;have o1:bR 40 (.lst (aG fh) [af aG (af g W),af aG (af g L),af aG (af g H)])=true:=by
   show(bR 39 _&&(bR 39 _&&(bR 39 _&&true)))=true;simp only[fP,kl oW,kl oL,kl oH,Bool.and_true]
  have o2:bR 40 (.lst (aG fk) [af aG K0,af aG K1,af aG K2])=true:=by
   show(bR 39 _&&(bR 39 _&&(bR 39 _&&true)))=true;simp only[fP,q0.2,q1.2,q2.2,kl oW,kl oL,kl oH,Bool.and_true]
  have o3:eZ (.lst (aG fh) [af aG (af g W),af aG (af g L),af aG (af g H)]) (.lst (aG fk) [af aG K0,af aG K1,af aG K2])=true:=by
   show(eZ _ _&&(eZ _ _&&(eZ _ _&&true)))=true;have z:∀d k:D,eZ (af aG (af g d)) (af aG k)=eZ d k:=λd k=>by
    have h1:=ia aG aG (af g d) k;have h2:=ia g id d k;rw[cB]at h2;rw[h1,h2]
   rw[z,z,z,q0.1,q1.1,q2.1];rfl
  show(if (bR 40 _&&bR 40 _)=true then ok (D.bl (!eZ _ _))else none)=_;rw[o1,o2,o3];rfl
 have a4:aX Φ (.cmp .ne (.call 253 [(.v 12),(.ix (.v 8) (.int 0)),(.ix (.v 8) (.int 1)),(.ix (.v 8) (.int 2))]) (.ix (.v 9) (.v 12))) ρ=ok (.bl false):=by
  rw[LD,a1,a2];exact ne_str s
 show bE Φ Mh ρ=ok (.nx,ρ);unfold Mh;rw[c0,sk,Q1,LB,a4,LC,a3];rfl
theorem Od{g:Fl->Fl}(hg:∀d,af aA (af aG (af g d))=af aA d)(oW:bR 30 W=true)(oL:bR 30 L=true)(oH:bR 30 H=true)(q0:vH W K0)(q1:vH L K1)(q2:vH H K2) 
  (h0:Φ 253 [.int 0,af aA W,af aA L,af aA H]=ok (.str s0)) (h1:Φ 253 [.int 1,af aA W,af aA L,af aA H]=ok (.str s1)) (c6 c7 eI d7:aM) :
  gM Φ Fg (cQ ns N n lot f4 ws f5 hs c6 c7 (some (.lst fh [af g W,af g L,af g H])) (some (.lst .ow [.str s0,.str s1])) eI (some (.lst fk [K0,K1,K2])) d7)=ok (.nx,cQ ns N n lot f4 ws f5 hs c6 c7 (some (.lst fh [af g W,af g L,af g H])) (some (.lst .ow [.str s0,.str s1])) eI (some (.lst fk [K0,K1,K2])) (some (.int 1))):=by
 unfold Fg;refine nF (Pn (n:=2) rfl (by decide) (by decide)) ?_;show fT _ _ [.int ((0:Nat):Int),.int ((1:Nat):Int)] _=_;refine kz (ρ1:=cQ ns N n lot f4 ws f5 hs c6 c7 (some (.lst fh [af g W,af g L,af g H])) (some (.lst .ow [.str s0,.str s1])) eI (some (.lst fk [K0,K1,K2])) (some (.int ((0:Nat):Int)))) (by simp[cQ]) (by exact Jq (w:=0) hg oW oL oH q0 q1 q2 rfl h0 c6 c7 eI) ?_;refine kz (ρ1:=cQ ns N n lot f4 ws f5 hs c6 c7 (some (.lst fh [af g W,af g L,af g H])) (some (.lst .ow [.str s0,.str s1])) eI (some (.lst fk [K0,K1,K2])) (some (.int ((1:Nat):Int)))) (by simp[cQ]) (by exact Jq (w:=1) hg oW oL oH q0 q1 q2 rfl h1 c6 c7 eI) ?_;rfl
theorem iT{Φ:aV}{c:CS}{cs:ah}{ρ ρ':aU}{r:O (Fo×aU)}(h:gM Φ c ρ=ok (.nx,ρ'))(h':bE Φ cs ρ'=r):bE Φ (c::cs) ρ=r:=by
 rw[c0,h,gR];exact h'
structure Rt(Φ:aV):Prop where
 wH:qh (Φ 200)
 BW:zZ (Φ 215)
 QE:D3 (Φ 253)
 zl:qi (Φ 257)
 Gz:ui (Φ 258)
 Gy:uj (Φ 259)
 zp:Φ 1027=Jw
theorem Es(I:z_ n lot ws hs)(T:Rt Φ)(h4:aA f4=.fz)(h5:aA f5=.fz){k:Int}(hk:0<=k)(c7 c8 c9 eI dE d7:aM):∃rJ n6 LN Rh Rg Ht Hr Hq,aA rJ=.fz/\aA n6=.fz /\
  bE Φ p9 (cQ ns N n lot f4 ws f5 hs (some (.int k)) c7 c8 c9 eI dE d7)=ok (.nx,cQ ns N n lot rJ ws n6 hs (some (.int k)) LN Rh Rg Ht Hr Hq):=by
 have ea:=Oj (ns:=ns) (N:=N) (f4:=f4) (f5:=f5) I T.wH hk c7 c8 c9 eI dE d7;obtain⟨b1,n6,H,Vz,hH,oH,MS,eb⟩:=Oi (Φ:=Φ) (ns:=ns) (N:=N) (f4:=f4) I h5 T.zl (some (.int k)) dE d7 ((cD ns k).fdiv 16) ((cD ns k).fmod 16);obtain⟨b2,W,hW,oW,ec⟩:=Oh (Φ:=Φ) (ns:=ns) (N:=N) (f4:=f4) (f5:=n6) I T.zp b1 (.tup (ao lot)) H (some (.int k)) dE d7 ((cD ns k).fdiv 16) ((cD ns k).fmod 16);obtain⟨b3,L,hL,oL,ed⟩:=Og (Φ:=Φ) (ns:=ns) (N:=N) (f4:=f4) (f5:=n6) I T.Gy b1 b2 W H (some (.int k)) dE d7 ((cD ns k).fdiv 16) ((cD ns k).fmod 16) MS;obtain⟨b4,rJ,W',VA,VM,R4,ee⟩:=Of (Φ:=Φ) (ns:=ns) (N:=N) (f5:=n6) I h4 T.Gz b1 b2 b3 hW oW L H (some (.int k)) dE d7 ((cD ns k).fdiv 16) ((cD ns k).fmod 16) (cC _ (by decide));obtain⟨g,fh,fk,K0,K1,K2,hg,q0,q1,q2,ef⟩:=Oe (Φ:=Φ) (ns:=ns) (N:=N) (n:=n) (lot:=lot) (f4:=rJ) (f5:=n6) (ws:=ws) (hs:=hs) T.BW R4 oL oH (some (.int k)) (some (.int ((cD ns k).fdiv 16))) (some (.lst .ow [.str (gq b1 b2 b3 b4),.str (fU b1 b2 b3 b4)])) (some (.int ((cD ns k).fmod 16))) dE d7;obtain⟨r0,r1⟩:=T.QE n lot b1 b2 b3 b4 _ _ _ I.n2 I.n5 I.lt I.l2 VM.fz hL.fz hH.fz;have eg:=Od (Φ:=Φ) (ns:=ns) (N:=N) (n:=n) (lot:=lot) (f4:=rJ) (f5:=n6) (ws:=ws) (hs:=hs) (fh:=fh) (fk:=fk) hg R4 oL oH q0 q1 q2 r0 r1 (some (.int k)) (some (.int ((cD ns k).fdiv 16))) (some (.int ((cD ns k).fmod 16))) d7;have key:=iT eb (iT ec (iT ed (iT ee (iT ef (iT eg (CH Φ _))))));exact⟨rJ,n6,_,_,_,_,_,_,VA,Vz,(lU Φ Be _ _ _ ea).trans key⟩
theorem Ke(I:z_ n lot ws hs)(T:Rt Φ):∀(ks:ai) (f4 f5:Fl) (c6 c7 c8 c9 eI dE d7:aM),(∀k∈ks,0<=k)->aA f4=.fz->aA f5=.fz->∃ρ',fT (λd ρ=>cE (.nm 6) d ρ) (λρ=>bE Φ p9 ρ) (ks.map D.int) (cQ ns N n lot f4 ws f5 hs c6 c7 c8 c9 eI dE d7)=ok (.nx,ρ')
 |[],f4,f5,c6,c7,c8,c9,eI,dE,d7,_,_,_=>⟨_,rfl⟩
 |k::ks,f4,f5,c6,c7,c8,c9,eI,dE,d7,hk,h4,h5=>by
  obtain⟨rJ,n6,LN,Rh,Rg,Ht,Hr,Hq,g4,g5,e⟩:=Es (ns:=ns) (N:=N) I T h4 h5 (hk k Xn) c7 c8 c9 eI dE d7;obtain⟨ρ',ih⟩:=Ke I T ks rJ n6 (some (.int k)) LN Rh Rg Ht Hr Hq (λx hx=>hk x (Xm _ hx)) g4 g5;exact⟨ρ',kz (ρ1:=cQ ns N n lot f4 ws f5 hs (some (.int k)) c7 c8 c9 eI dE d7) (by simp[cQ]) (by exact e) ih⟩
end
end DI
end
section
set_option maxHeartbeats 1000000
namespace DI
open PySem (Str)
theorem Bw(n:Nat)(t:Nat->Bool):lQ n (((List.range n).filter t).map λ(k:Nat)=>(k:Int)):=by
 refine⟨?_,λh hh=>?_⟩
 ·rw[List.pairwise_map];refine(List.Pairwise.filter _ List.pairwise_lt_range).imp λz=>?_;left
 ·obtain⟨k,hk,rfl⟩:=List.mem_map.mp hh;have:=List.mem_range.mp (List.mem_filter.mp hk).1;left
theorem Oq{k:Nat}(h:k<8):cg .shl (.int 4) (.int k)=ok (.int (4*2 ^ k))/\∀x,cg .fdiv (.int x) (.int (4*2 ^ k))=ok (.int (x.fdiv (4*2 ^ k))):=by
 have h2:(2:Int) ^ k=((2 ^ k:Nat):Int):=by simp
 have h3:2 ^ k<2 ^ 8:=Nat.pow_lt_pow_right (by decide) h;have h4:0<2 ^ k:=Nat.pow_pos (by decide);refine⟨?_,λx=>?_⟩
 ·rw[LQ (by simp[jH];left)];simp
 ·refine kD (fW ?_ (pq ?_))
  ·rw[h2];left
  ·rw[h2];left
noncomputable def zw:CE:=.comp 1 (.nm 0) [1] .kc [(.v 2)] [(.cmp .eq (.bin .mod (.bin .fdiv (.v 1) (.bin .shl (.int 4) (.v 0))) (.int 2)) (.int 1))] (.v 0)
noncomputable def zt:CE:=.comp 1 (.nm 0) [1] .kc [(.v 2)] [] (.tup [(.bin .add (.int 1) (.bin .mod (.bin .fdiv (.v 1) (.bin .add (.int 128) (.v 0))) (.int 9))),(.int 1)])
noncomputable def zx:CE:=.comp 1 (.nm 0) [1] .kc [(.v 2)] [] (.call 201 [(.bin .add (.int 1) (.bin .mod (.bin .fdiv (.v 1) (.bin .add (.int 600) (.v 0))) (.int 9))),(.bin .add (.int 1) (.v 0))])
def yu:ah:=[.asg (.nm 1) (.call 200 [(.v 0),(.int 0)]),.asg (.nm 2) (.bin .add (.int 2) (.bin .mod (.v 1) (.int 4))),.asg (.nm 3) (.bf .tuple1 [zw]),.ifs (.cmp .lt (.bf .len [(.v 3)]) (.int 2)) [.asg (.nm 3) (.tup [(.int 0),(.bin .sub (.v 2) (.int 1))])] [],.asg (.nm 4) zt,.asg (.nm 5) zx]
def lO:ah:=yu++[.fr (.nm 6) (.jE (.int 4) (.bf .max2 [(.int 7),(.bf .min2 [(.int 20),(.bf .len [(.v 0)])])])) p9,.ret (.bl true)]
theorem Td{N:Int}{c k:Nat}(h:c+k<2000)(h0:0<c):cg .fdiv (.int N) (.int ((c:Int)+k))=ok (.int (N.fdiv ((c:Int)+k))):=kD (fW (by left) (pq (by left)))
theorem Fe(Φ:aV)(wH:qh (Φ 200))(GA:jY (Φ 201))(ns:ai)(c6 c7 c8 c9 eI dE d7:aM):∃n lot ws hs,z_ n lot ws hs /\
  bE Φ yu [some (.lst .sc (ao ns)),none,none,none,none,none,c6,c7,c8,c9,eI,dE,d7]=ok (.nx,cQ ns (cD ns 0) n lot .ow ws .ow hs c6 c7 c8 c9 eI dE d7):=by
 have e1:=wH ns 0 (by decide);obtain⟨f1,f2⟩:=cC (cD ns 0) (b:=4) (by decide);obtain⟨n,hn⟩:∃n:Nat,2+(cD ns 0).fmod 4=(n:Int):=⟨(2+(cD ns 0).fmod 4).toNat,by left⟩
 generalize cD ns 0=N at *;have tl:∀x y,aX Φ zw (x::some (.int N)::some (.int n)::y)=ok (.lst .ow (ao (((List.range n).filter λ(k:Nat)=>decide ((N.fdiv (4*2 ^ k)).fmod 2=1)).map λ(k:Nat)=>(k:Int)))):=λx y=>by
  unfold zw;rw[eh (xs:=[.int n]) (ds:=((List.range n).filter λ(k:Nat)=>decide ((N.fdiv (4*2 ^ k)).fmod 2=1)).map λ(k:Nat)=>D.int (k:Int)) (by simp) (pC Φ (by left) (by left)) ?_ ?_]
  ·simp[aE,ao]
  ·rw[Int.toNat_natCast];refine kM λk hk=>⟨[some (.int k),some (.int N)],by simp[bN],?_,λ_=>by simp⟩
   obtain⟨s1,s2⟩:=Oq (k:=k) (by have:=List.mem_range.mp hk;left);simp[s1,s2]
  ·have:=List.length_filter_le (λ(k:Nat)=>decide ((N.fdiv (4*2 ^ k)).fmod 2=1)) (List.range n);simp at this ⊢;exact cc (by left)
 have Vp:=Bw n λ(k:Nat)=>decide ((N.fdiv (4*2 ^ k)).fmod 2=1);generalize (((List.range n).filter λ(k:Nat)=>decide ((N.fdiv (4*2 ^ k)).fmod 2=1)).map λ(k:Nat)=>(k:Int))=lot0 at *
 let wF:Nat->Rat:=λk=>((1+(N.fdiv ((128:Nat)+k)).fmod 9:Int):Rat)
 let hF:Nat->Rat:=λk=>Rat.divInt (1+(N.fdiv ((600:Nat)+k)).fmod 9) (1+k)
 have tw:∀x z y,aX Φ zt (x::some (.int N)::some (.int n)::z::y)=ok (.lst .ow (aL ((List.range n).map wF))):=λx z y=>by
  unfold zt;rw[eh (xs:=[.int n]) (ds:=(List.range n).map λk=>qD (wF k)) (by simp) (pC Φ (by left) (by left)) ?_ (by simp;exact cc (by left))]
  ·simp[aE,aL]
  ·rw[Int.toNat_natCast];refine cH λk hk=>⟨[some (.int k),some (.int N)],by simp[bN],by simp,?_⟩
   have:=Td (N:=N) (c:=128) (k:=k) (by have:=List.mem_range.mp hk;left) (by decide);have t:D.tup [.int (1+(N.fdiv ((128:Nat)+k)).fmod 9),.int 1]=qD (wF k):=rfl;simp at this;simp[this,<- t]
 have th:∀x z u y,aX Φ zx (x::some (.int N)::some (.int n)::z::u::y)=ok (.lst .ow (aL ((List.range n).map hF))):=λx z u y=>by
  unfold zx;rw[eh (xs:=[.int n]) (ds:=(List.range n).map λk=>qD (hF k)) (by simp) (pC Φ (by left) (by left)) ?_ (by simp;exact cc (by left))]
  ·simp[aE,aL]
  ·rw[Int.toNat_natCast];refine cH λk hk=>⟨[some (.int k),some (.int N)],by simp[bN],by simp,?_⟩
   have:=Td (N:=N) (c:=600) (k:=k) (by have:=List.mem_range.mp hk;left) (by decide);have e:=GA (1+(N.fdiv ((600:Nat)+k)).fmod 9) (1+k) (by left) (pq (by have:=List.mem_range.mp hk;left));simp at this e;simp[this,e];rfl
 have pw:∀q∈(List.range n).map wF,0<q/\Sm 4 q:=λq hq=>by
  obtain⟨k,hk,rfl⟩:=List.mem_map.mp hq;obtain⟨a,b⟩:=cC (N.fdiv ((128:Nat)+k)) (b:=9) (by decide);have e:wF k=Rat.divInt (1+(N.fdiv ((128:Nat)+k)).fmod 9) 1:=(d9 (wF k)).symm;rw[e];exact⟨jh (by left) (by decide),xU (by decide) (by left) (by decide)⟩
 have ph:∀q∈(List.range n).map hF,0<q/\Sm 4 q:=λq hq=>by
  obtain⟨k,hk,rfl⟩:=List.mem_map.mp hq;have:=List.mem_range.mp hk;obtain⟨a,b⟩:=cC (N.fdiv ((600:Nat)+k)) (b:=9) (by decide);exact⟨jh (by left) (by left),xU (by left) (by left) (by left)⟩
 have tup:nC .tuple1 [.lst .ow (ao lot0)]=ok (.tup (ao lot0)):=by
  show ok (D.tup (aw aG (ao lot0)))=_;simp
 by_cases h2:(lot0.length:Int)<2
 ·refine⟨n,[0,(n:Int) - 1],_,_,⟨by left,by left,⟨?_,λh hm=>?_⟩,by simp,by simp,by simp,pw,ph⟩,?_⟩
  ·simp;left
  ·simp at hm;left
  ·simp[yu,cQ,e1,hn,tl,tup,h2,FT Φ zt _ rfl,FT Φ zx _ rfl,tw,th]
 ·refine⟨n,lot0,_,_,⟨by left,by left,Vp,by left,by simp,by simp,pw,ph⟩,?_⟩;simp[yu,cQ,e1,hn,tl,tup,h2,FT Φ zt _ rfl,FT Φ zx _ rfl,tw,th]
theorem Kn{Φ:aV}{a b:CE}{ρ:aU}{m n:Int}(h1:aX Φ a ρ=ok (.int m))(h2:aX Φ b ρ=ok (.int n))(hm:0<=m)(W2:m<=1000)(hn:0<=n)(xg:n<=1000):dQ Φ (.jE a b) ρ=ok (((List.range (n - m).toNat).map λ(k:Nat)=>m+(k:Int)).map D.int,ρ):=by
 show bd (aX Φ a ρ) _=_;rw[h1,de,h2,de];show(if n<=(cY:Int) /\ -(cY:Int)<=n/\m<=(cY:Int) /\ -(cY:Int)<=m then _ else _)=_;have:(cY:Int)=1000000:=rfl;rw[if_pos (by left),List.map_map];rfl
theorem Ki(Φ:aV)(T:Rt Φ)(GA:jY (Φ 201))(ns:ai):mk Φ 1 13 lO [.lst .sc (ao ns)]=ok (.bl true):=by
 obtain⟨n,lot,ws,hs,I,e1⟩:=Fe Φ T.wH GA ns none none none none none none none;obtain⟨M,hM,m1,m2⟩:∃M:Int,aX Φ (.bf .max2 [(.int 7),(.bf .min2 [(.int 20),(.bf .len [(.v 0)])])]) (cQ ns (cD ns 0) n lot .ow ws .ow hs none none none none none none none)=ok (.int M)/\0<=M/\M<=1000:=by
  have a1:nC .min2 [.int 20,.int ns.length]=ok (.int (if (ns.length:Int)<20 then ns.length else 20)):=rfl;have a2:∀j:Int,nC .max2 [.int 7,.int j]=ok (.int (if j>7 then j else 7)):=λ_=>rfl;refine⟨_,by simp[cQ,a1,a2];rfl,?_,?_⟩
  ·split<;>left
  ·split<;>(try split)<;>left
 have it:=Kn (Φ:=Φ) (a:=.int 4) (m:=4) rfl hM (by decide) (by decide) m1 m2;obtain⟨ρ',e2⟩:=Ke (Φ:=Φ) (ns:=ns) (N:=cD ns 0) I T ((List.range (M - 4).toNat).map λ(k:Nat)=>(4:Int)+(k:Int)) .ow .ow none none none none none none none (λk hk=>by
  obtain⟨j,_,rfl⟩:=List.mem_map.mp hk;left) rfl rfl
 have e3:=nF (t:=.nm 6) (b:=p9) it e2;rw[mk_eq (ar:=1) (ds:=[_]) rfl];have key:bE Φ lO [some (.lst .sc (ao ns)),none,none,none,none,none,none,none,none,none,none,none,none]=ok (.rt (.bl true),ρ'):=(lU Φ yu _ _ _ e1).trans (iT e3 (by simp));exact XI lq key
end DI
end
section
namespace DI
open PySem PySem.Spec PyProof.Rows L2
section
variable {X:Cx}{C B:Addr}{x n y:Str}{i j:Nat}{E1:XK}
end
variable {A:aQ}{B C C0 f:Addr}{E:Value->Shared->Prop}
theorem B7{M:Model}{nm q UJ q':Str}{N N':Addr}{bs bm bs' Ri:aq}{hdct K7:Bool}{sn Ub:av}{sub Oc:aq}{ab Wu:Bool}{col Rb:Option Bool}{dd Wc:Option Addr}{k0 k1 k2 k3 k5 l0 l1 l2 l3 l5:Option Value}{newId FA:String}
  {h:Heap} {g:Array GenState} {d:Drawn} {t:Nat} {os:OsState} {e:Addr} {oe:Obj} {Q:Bool->Shared->Prop} {b:Bool}
  (hC:h.get? C=some (excClassObj nm q C N bs bm hdct sn sub ab col dd k0 k1 k2 k3 k5 newId)) (hB:h.get? B=some (excClassObj UJ q' B N' bs' Ri K7 Ub Oc Wu Rb Wc l0 l1 l2 l3 l5 FA)) (he:h.get? e=some oe) (zc:oe.cls=.ref C) (rn:Ri.contains (.type "BaseException")=true) (Gj:(Value.ref C::bm).contains (.ref B)=b)
  (hq:Q b ⟨h,g,d,t,os⟩):wpAny M A (excMatches (.ref e) (.ref B)) Q E ⟨h,g,d,t,os⟩:=by
 have VD:(Value.ref B::Ri).contains (.type "BaseException")=true:=by rw[List.contains_cons,rn,Bool.or_true]
 have f:=tc_notTuple;unfold excMatches;cases b
 all_goals
  repeat (first | (with_reducible refine XG he ?_;rw[zc])|with_reducible refine XG hB ?_ | (with_reducible refine wpAny_isSubtype_exc hB ?_;rw[VD]) | (with_reducible refine wpAny_isSubtype_exc hC ?_;rw[Gj])|wp_step)
  exact hq
def kF(C B:Addr)(b:Bool)(h:Heap):Prop:=∃(nm q:Str) (N:Addr) (bs bm:aq) (hdct:Bool) (sn:av) (sub:aq) (ab:Bool) (col:Option Bool) (dd:Option Addr) (k0 k1 k2 k3 k5:Option Value) (newId:String),h.get? C=some (excClassObj nm q C N bs bm hdct sn sub ab col dd k0 k1 k2 k3 k5 newId)/\(Value.ref C::bm).contains (.ref B)=b
noncomputable def As(n y z:Str):ExceptHandler->Option (Str×Str)
 |.ExceptHandler (some (.Name x _)) (some n') [.Assign [.Name y' _] (.Constant (.str w) _ _) _,.Assign [.Name z' _] (.Name n'' _) _] _=>if n'=n/\y'=y/\z'=z/\n''=n then some (x,w)else none
 |_=>none
variable {qual w0 RF w1 z:Str}
theorem xx{n y x w:Str}{h:ExceptHandler}(e:As n y z h=some (x,w)):∃np p1 jj p2 p3 q1 q2 q3 pos,h=.ExceptHandler (some (.Name x np)) (some n) [.Assign [.Name y p1] (.Constant (.str w) jj p2) p3,.Assign [.Name z q1] (.Name n q2) q3] pos:=by
 unfold As at e;split at e
 ·split at e
  ·rename_i hh;obtain⟨rfl,rfl,rfl,rfl⟩:=hh;cases e;exact⟨_,_,_,_,_,_,_,_,_,rfl⟩
  ·cases e
 ·cases e
variable {H:Hp}{a1 a2 a3 b1 b2 b3 c1 eI dE c2 c3 c4 c5 c6 c7 c8 c9 d1 d2 pos:Pos}{σ:L2.St}
section
variable {X:Cx}{C:Addr}{n y z:Str}{i j l:Nat}{E1:XK}
inductive um(X:Cx)(C:Addr)(n y z w:Str):List ExceptHandler->Prop
 |here {h:ExceptHandler} {hs:List ExceptHandler} {x:Str} (v:As n y z h=some (x,w)) (O:lA x C X.mg X.base) (g:Gl X x) (d:(x==("__debug__" : Str))=false):um X C n y z w (h::hs)
 |next {h:ExceptHandler} {hs:List ExceptHandler} {x w':Str} {B:Addr} (v:As n y z h=some (x,w')) (O:lA x B X.mg X.base) (OS:kF C B false X.base) (g:Gl X x) (d:(x==("__debug__" : Str))=false) (r:um X C n y z w hs):um X C n y z w (h::hs)
theorem sZ{M:Model}{pins:aj}{s:Shared}{Q:Unit->Shared->Prop}(I:Inv X pins σ H s)(hl:X.env.kindOf n=some .local)(nd:X.N.Nodup)(hi:X.N[i]?=some n)
  (h:∀s',Inv X pins (σ.set i none) H s'->Q () s'):wpAny M A (do bindName X.env n .none;unbindBehindTheSuite X.env n pos) Q E s:=by
 obtain⟨m,hn,Vn⟩:=id I.loc;have zc:(X.env.scope.kind==.class||(X.env.scope.kind==.module&&X.env.locals != X.env.globals))=false:=by rw[I.ok.kind];rfl
 refine wpAny_nameGoes_keeps hl hn zc λh' u xg hs=>h _ ?_;have tracked:iI X.prog X.w H h':=λb ob e=>by
  refine(I.cn b ob e).kW (λc w' hc q=>(hs.2 c ?_).trans q) (λ_ q=>q) λ_ _ q=>q;rintro rfl;rcases hc with rfl|hc
  ·rw[I.free]at e;cases e
  ·rw[I.free]at hc;cases hc
 refine⟨I.ok,I.os,I.bare,⟨λb o e n hb hx=>?_,λb o e n hb hx=>?_,I.base.free,λb o e hx=>?_,I.base.kR,I.base.ku,I.base.kU⟩,⟨_,xg,λk z v' e1 e2 e3=>?_⟩,λz c e=>?_,I.free,I.eR,λp hp=>?_,tracked,by rw[List.length_set];exact I.len⟩
 ·exact(hs.2 b (Xo (Xl (Xg e) I.ok.above))).trans (I.base.keep b o e n hb hx)
 ·obtain⟨sl,e1⟩:=I.base.slot b o e n hb hx;exact⟨sl,(hs.2 b (Xo (Xl (Xg e) I.ok.above))).trans e1⟩
 ·obtain⟨o',e1⟩:=I.base.there b o e hx;exact⟨o',(hs.2 b (Xo (Xl (Xg e) I.ok.above))).trans e1⟩
 ·have SM:i≠k:=by
   rintro rfl;rw[List.getElem?_set]at e2;simp at e2
  rw[List.getElem?_set_ne SM]at e2;have Py:z≠n:=by
   rintro rfl;obtain⟨h1,h2⟩:=List.getElem?_eq_some_iff.mp e1;obtain⟨h3,h4⟩:=List.getElem?_eq_some_iff.mp hi;exact SM ((List.getElem_inj nd).mp (h4.trans h2.symm))
  obtain⟨u',r',q⟩:=Vn k z _ e1 e2 e3;refine⟨u',r',?_⟩;rcases q with ⟨kk,e⟩|⟨kk,c,e,z'⟩
  ·exact .inl ⟨kk,by show(if z=n then u else m z)=_;rw[if_neg Py];exact e⟩
  ·exact .inr ⟨kk,c,e,z'.sameBut hs (I.Cm z c e)⟩
 ·obtain⟨w',z'⟩:=I.cell z c e;exact⟨w',z'.sameBut hs (I.Cm z c e)⟩
 ·obtain⟨e,n,ne,nf,d⟩:=I.pin p hp;exact⟨(hs.2 p.1 ne).trans e,n,ne,nf,d⟩
theorem wG{Q:Flow->Shared->Prop}{pins:aj}{s:Shared}{ea:Addr}{w:Str}{hs:List ExceptHandler}(I:Inv X pins σ H s)(MR:∃ob,s.heap.get? ea=some ob/\ob.cls=.ref C)(h:um X C n y z w hs)
  (go:∀p1 jj p2 p3 q1 q2 q3 pos,codeAny (model X.prog X.w) (X.A.mark (some (.ref ea))) (.handlers (.ref ea) [.ExceptHandler none (some n) [.Assign [.Name y p1] (.Constant (.str w) jj p2) p3,.Assign [.Name z q1] (.Name n q2) q3] pos] X.env) (λr s₂=>match r with
     |.ok f=>wpAny (model X.prog X.w) X.A (do bindName X.env n .none;unbindBehindTheSuite X.env n pos) (λ_ s₃=>Q f s₃) X.xe s₂
     |.error x=>cameBackBy (model X.prog X.w) X.A X.env X.xe x s₂) s):wpAny (model X.prog X.w) X.A (handleBy (.ref ea) X.env hs) Q X.xe s:=by
 obtain⟨ob,MR,KR⟩:=MR;induction h with
 |here v O g d =>
  obtain⟨np,p1,jj,p2,p3,q1,q2,q3,pos,rfl⟩:=xx v;refine wpAny_handleBy_cons (codeAny_handlers_test (XN I.ok.kind g (X8 (by rw[I.ok.glob];exact I.mod.glob.keeps I.bk) O.bound ?_) d)) (by intro q;cases q);obtain⟨bm,UI,nm,qn,bs,hdct,sn,sub,ab,col,dd,k0,k1,k2,k3,k5,mN,hC,_,_,TL⟩:=(O.keeps I.bk).obj;exact wpAny_excMatches_sub_self hC MR KR (TL.hasType (by decide +kernel)) (go p1 jj p2 p3 q1 q2 q3 pos)
 |next v O OS g d r ih =>
  obtain⟨np,p1,jj,p2,p3,q1,q2,q3,pos,rfl⟩:=xx v;refine wpAny_handleBy_cons (codeAny_handlers_test (XN I.ok.kind g (X8 (by rw[I.ok.glob];exact I.mod.glob.keeps I.bk) O.bound ?_) d)) (by intro q;cases q);obtain⟨bm,UI,nm,qn,bs,hdct,sn,sub,ab,col,dd,k0,k1,k2,k3,k5,mN,hB,_,_,TL⟩:=(O.keeps I.bk).obj;obtain⟨WR,q2,N2,W_,Xa,SS,WM,Ua,Xb,Wf,LI,l0,l1,l2,l3,l5,WU,hC,Gj⟩:=OS;exact B7 (I.bk _ _ hC) hB MR KR (TL.hasType (by decide +kernel)) Gj ih
theorem A3{body:aO}{tb:TS}{w:Str}{h0:ExceptHandler}{hs:List ExceptHandler}(KH:X.stack=X.env::X.outer)(Im:X.env.frame=some X.env.locals)(Hs:um X C n y z w (h0::hs))
  (nd:X.N.Nodup) (hi:X.N[i]?=some n) (hj:X.N[j]?=some y) (hl:X.N[l]?=some z) (U0:y≠n) (Py:z≠n) (UZ:y≠z) (Ik:X.env.scope.names.lookup n=some .local) (SK:X.env.scope.names.lookup y=some .local) (SJ:X.env.scope.names.lookup z=some .local) (dn:(n==("__debug__" : Str))=false) (dc:(n==("__classdict__" : Str))=false)
  (hb:∀pn Am,Passes (qj X.prog X.w C) (Cx.kS X pn Am) E1->fJ (Cx.kS X pn Am) body tb) :
  PS X (.Try body (h0::hs) [] [] pos)
   (λD σ H=>tb D σ H/\∀ea H' σ',E1 (.ref C) none H'->H' ea=none->σ'[j]?=some (some (.str w))->σ'[l]?=some (some (.ref ea))->D.nx σ' (upd H' ea (.ext (vE ea C)))):=by
 intro pins s σ H D I hw;obtain⟨VE,hh⟩:=hw;have ok:=I.ok;have pG:∀{a b:Nat} {u v:Str},X.N[a]?=some u->X.N[b]?=some v->u≠v->a≠b:=λ{a b u v} h1 h2 h3 h4=>by
  subst h4;rw[h1]at h2;cases h2;exact h3 rfl
 refine wpAny_Try_except ?_;refine Xs (hb pins _ ?_ [] s σ H D (BG I (λe s₁=>wpAny (model X.prog X.w) X.A (noteFrame e X.env) (λ_ s₂=>wpAny (model X.prog X.w) X.A (setFlight e none) (λ_ s₃=>wpAny (model X.prog X.w) X.A (handleBy e X.env (h0::hs)) (SP X pins D) X.xe s₃) X.xe s₂) X.xe s₁)) VE) (λf s₁ q=>?_) (λ_ _ q=>q)
 ·intro yj σ1 H1 s1 e s2 I1 hx;obtain⟨ea,H',rfl,fl,he⟩:=hx;obtain⟨n1,n2⟩:=fl.new;obtain⟨⟨t,B,fw,Ai⟩,os,bare,un,cn⟩:=fl;have I1:Inv X pins σ1 H1 s1:=fR I1;have fw:Heap.FlyingW B (X.env::X.outer) ea (.ref C) (.ref t) s2.heap:=KH▸fw;have QK:X.A.frames=some (X.env::X.outer):=KH▸I1.ok.frames;show wpAny (model X.prog X.w) X.A (noteFrame (.ref ea) X.env) _ X.xe s2;refine wpAny_looks_onW QK Im fw λh4 held Ue=>?_;refine wpAny_landsW held λh5 QJ Ud=>?_;obtain⟨RI,KP,Q_⟩:=moved un cn Ai I1.stack I1.jC QJ.1 (Ue.trans Ud);have I5:Inv X pins σ1 H' { s2 with heap:=h5 }:=I1.vt (ch:=[]) os RI KP bare λ_ z=>nomatch z;refine wG I5 QJ.there Hs λp1 jj p2 p3 q1 q2 q3 PM=>codeAny_handlers_suite_as ?_;refine lands_againW QJ λh6 Tc Uc=>?_;obtain⟨TX,PQ,We⟩:=moved RI KP Q_ I1.stack I1.jC Tc.1 Uc;obtain⟨TV,PN⟩:=tracked (C:=C) TX PQ n1 n2 Tc.there;have I7:Inv X pins σ1 (upd H' ea (.ext (vE ea C))) { s2 with heap:=h6 }:=I1.vt (s':={ s2 with heap:=h6 }) (ch:=[]) os TV PN bare λ_ z=>nomatch z;have qq:i<σ1.length:=by rw[I7.len];exact(List.getElem?_eq_some_iff.mp hi).1
  have Vt:j<σ1.length:=by rw[I7.len];exact(List.getElem?_eq_some_iff.mp hj).1
  have uX:l<σ1.length:=by rw[I7.len];exact(List.getElem?_eq_some_iff.mp hl).1
  have ij:=pG hi hj (YF U0);have il:=pG hi hl (YF Py);have jl:=pG hj hl UZ;refine fM I7 nd hi (.inl Ik) (v:=.ref ea) (u:=.ref ea) rfl (λs8 I8=>?_) (.inr Ik)
  let X2:Cx:={ X with A:=X.A.mark (some (.ref ea)),calm:=false,xe:=AsSuiteRaised (model X.prog X.w) (X.A.mark (some (.ref ea))) X.env n PM (notedBy (model X.prog X.w) (X.A.mark (some (.ref ea))) X.env (cameBackBy (model X.prog X.w) X.A X.env X.xe)) }
  have ps:fJ X2 [.Assign [.Name y p1] (.Constant (.str w) jj p2) p3,.Assign [.Name z q1] (.Name n q2) q3] _:=bZ (iY (X:=X2) (i:=j) nd hj (.inl SK) (me (X:=X2) (x:=w) (j:=jj) (pos:=p2)) rfl (hf:=.inr SK)) (fg (iY (X:=X2) (i:=l) nd hl (.inl SJ) (A8 (X:=X2) (i:=i) (pos:=q2) hi (.inl Ik) dn dc) rfl (hf:=.inr SJ)));refine Xs (ps pins s8 _ _ { nx:=λσ' iN=>iN=upd H' ea (.ext (vE ea C))/\σ'[j]?=some (some (.str w))/\σ'[l]?=some (some (.ref ea)),rt:=λ_ _=>False } (y4 I8 _ _) ?_) (λf s9 q9=>?_) (λ_ _ q=>q)
  ·refine⟨.ref ea,?_,rfl,?_,?_⟩
   ·rw[List.getElem?_set_ne (Ne.symm ij),List.getElem?_set_self qq]
   ·rw[List.getElem?_set_ne (Ne.symm jl),List.getElem?_set_self (by simpa using Vt)]
   ·rw[List.getElem?_set_self (by simpa using uX)]
  ·cases f with
   |next =>
    obtain⟨σ9,H9,I9,rfl,e9,e10⟩:=q9;have I9:=tF ok I9;exact sZ I9 Ik nd hi λWO Wx=>⟨_,_,Wx,hh ea H' _ he n1 (by rw[List.getElem?_set_ne ij];exact e9) (by rw[List.getElem?_set_ne il];exact e10)⟩
   |ret v=>obtain⟨_,_,_,_,_,z⟩:=q9;exact z.elim
   |brk=>obtain⟨_,_,_,z⟩:=q9;exact z.elim
   |cont=>obtain⟨_,_,_,z⟩:=q9;exact z.elim
 ·cases f with
  |next=>obtain⟨σ',H',I',q⟩:=q;exact X0 ⟨σ',H',fR I',q⟩
  |ret v=>obtain⟨v,σ',H',I',r,q⟩:=q;exact⟨v,σ',H',fR I',r,q⟩
  |brk=>obtain⟨σ',H',I',q⟩:=q;exact⟨σ',H',fR I',q⟩
  |cont=>obtain⟨σ',H',I',q⟩:=q;exact⟨σ',H',fR I',q⟩
end
variable {st w4:Stmt}
section
variable {X:Cx}{S:Sx}{k n:Nat}{Φ:aV}{Ψ:Nat->aa->Prop}{F:ag}{C B:Addr}
noncomputable def F6:CE->Bool
 |.call _ _=>true
 |_=>false
def F4:CS->Bool
 |.ex e=>F6 e
 |_=>false
def AA:CS->Bool
 |.ex e=>F6 e
 |.ifs _ a b=>bp (one a) λx=>bp (one b) λy=>F4 x&&F4 y
 |_=>false
theorem uV{e:CE}(h:F6 e=true):∃g es,e=.call g es:=by
 cases e<;>first|exact(Xe h).elim|exact⟨_,_,rfl⟩
theorem uU{c:CS}(h:F4 c=true):∃g es,c=.ex (.call g es):=by
 cases c<;>first|exact(Xe h).elim|skip
 obtain⟨g,es,rfl⟩:=uV h;exact⟨g,es,rfl⟩
theorem DL(L:Lk X S k Φ)(hx:Passes (qj X.prog X.w C) X (λc _ H'=>c=.ref C/\aI X.H₀ H'))(fe:∀g x,S.fn g=some x->(∃ds,Ψ g ds)->iu X.prog X.w X.K X.mg X.base k C x (Ψ g)){g:Nat}{es:aC}(h:mO S (.ex (.call g es)) st=true):PS X st (jB X F (kQ Φ Ψ n (.ex (.call g es)))):=by
 obtain⟨v,v1,q1⟩:=bc h;obtain⟨pos,rfl⟩:=oD v1;obtain⟨h1,h2⟩:=az q1;exact PS.imp (DM (rL (F:=F) L hx fe h1) (fY h1 (dA h2) _ _ _)) λD σ H bK=>by obtain⟨R,τ,ρ,Si,hb⟩:=bK;cases hb with|ex a b=>exact⟨R,τ,ρ,Si,_,a,b⟩
theorem Lv(L:Lk X S k Φ)(hx:Passes (qj X.prog X.w C) X (λc _ H'=>c=.ref C/\aI X.H₀ H'))(fe:∀g x,S.fn g=some x->(∃ds,Ψ g ds)->iu X.prog X.w X.K X.mg X.base k C x (Ψ g)){c:CS}(ht:AA c=true)(h:mO S c st=true):PS X st (jB X F (kQ Φ Ψ n c)):=by
 cases c<;>first|exact(Xe ht).elim|skip
 ·obtain⟨g,es,rfl⟩:=uV ht;exact DL L hx fe h
 ·obtain⟨ca,va,ha⟩:=bc ht;obtain⟨cb,vb,hb⟩:=bc ha;obtain⟨xa,xb⟩:=az hb;obtain⟨_,_,rfl⟩:=uU xa;obtain⟨_,_,rfl⟩:=uU xb;cases cF va;cases cF vb;obtain⟨⟨t,x,z⟩,v1,q1⟩:=bc h;obtain⟨pos,rfl⟩:=oB v1;obtain⟨q2,h3⟩:=az q1;obtain⟨h1,h2⟩:=az q2;have one:∀{g:Nat} {es:aC} {m3:aO},gI S [.ex (.call g es)] m3=true->fJ X m3 (jB X F (Er Φ Ψ n [.ex (.call g es)])):=λ{g es m3} hc=>by
   cases m3 with
   |nil=>exact(Xe hc).elim
   |cons s0 rest =>
    have hc:=az hc;cases rest with
    |cons _ _=>exact(Xe hc.2).elim
    |nil =>
     refine fJ.imp (fg (DL (F:=F) (n:=n) L hx fe hc.1)) λD σ H ⟨R,τ,ρ,Si,hb⟩=>?_;cases hb with
     |hd e=>exact⟨R,τ,ρ,Si,e⟩
     |tl _ e=>cases e
  refine PS.imp (qQ (pos:=pos) (dN (F:=F) L _ t h1).2 (one h2) (one h3)) λD σ H hq=>?_;obtain⟨R,τ,ρ,Si,hb⟩:=hq;cases hb with
  |BJ e1 e2=>exact⟨R,τ,ρ,true,Si,e1,λH2 es=>Kk ⟨R,τ,ρ,Si.go es,e2⟩⟩
  |iff e1 e2=>exact⟨R,τ,ρ,false,Si,e1,λH2 es=>BC ⟨R,τ,ρ,Si.go es,e2⟩⟩
end
def Df(K:ak)(x:Str)(st:Stmt):Prop:=∃f fd,wY K x x st f fd/\PySem.W.nsIn K mainGlobals x=some (some (.ref f))
variable {K:ak}
theorem dmk{x:Str}{oc:Value}{od an:Option Addr}{sl:Array (Option Value)}{kV dc pm cd ct:Value}(a:PySem.W.nsIn K mainGlobals x=some (some (.ref f)))(l:K.lookup f=some ⟨oc,od,.func (PySem.W.fnOf x x (dD st) (bg st) (ay st) .none kV dc pm an cd ct),sl⟩)(c:PySem.W.codeIn K cd x=true)(k:PySem.W.keepIn K (.ref f)=true):Df K x st:=⟨f,_,GF l c k,a⟩
noncomputable def Ll(N P:av)(sc:Scope):Bool:=decide (sc.kind=.function)&&(!sc.isCoroutine&&(!sc.isGenerator&&(decide N.Nodup&&(decide (N.take P.length=P)&&(P.all (λx=>decide (sc.names.lookup x=some .local\/sc.names.lookup x=some .cell))&&sc.names.all λy=>decide (y.2≠.free))))))
theorem rC{N P:av}{sc:Scope}(h:Ll N P sc=true):dX N P sc:=by
 obtain⟨h1,h⟩:=az h;obtain⟨h2,h⟩:=az h;obtain⟨h3,h⟩:=az h;obtain⟨h4,h⟩:=az h;obtain⟨h5,h⟩:=az h;obtain⟨h6,h7⟩:=az h;exact⟨Xd h1,dA h2,dA h3,Xd h4,Xd h5,λx hx=>Xd (List.all_eq_true.mp h6 x hx),λy hy=>Xd (List.all_eq_true.mp h7 y hy)⟩
def xi(st:Stmt)(N ps:av)(tb:List (Nat×Str))(bl:av)(cs:List (Str×GK))(px:Px)(b:ah):Bool:=Ll N ps (ay st)&&gI ⟨ay st,N,λn=>List.lookup n tb,bl,cs,px⟩ b (bg st)
theorem u1{α:Type}{P:List α->Prop}(h:∀a,P [a])(us:List α)(e:us.length=1):P us:=by obtain⟨a,rfl⟩:=Kg e;exact h a
theorem u2{α:Type}{P:List α->Prop}(h:∀a b,P [a,b])(us:List α)(e:us.length=2):P us:=by obtain⟨a,b,rfl⟩:=Bz e;exact h a b
theorem u3{α:Type}{P:List α->Prop}(h:∀a b c,P [a,b,c])(us:List α)(e:us.length=3):P us:=by obtain⟨a,b,c,rfl⟩:=By e;exact h a b c
theorem u4{α:Type}{P:List α->Prop}(h:∀a b c d,P [a,b,c,d])(us:List α)(e:us.length=4):P us:=by obtain⟨a,b,c,d,rfl⟩:=Bx e;exact h a b c d
theorem u5{α:Type}{P:List α->Prop}(h:∀a b c d e,P [a,b,c,d,e])(us:List α)(e:us.length=5):P us:=by
 match us,e with
 |[a,b,c,d,e],_=>exact h a b c d e
variable {P:aJ}{base:Heap}{j0 j1 j2 j3 k':Nat}{mg:Str->Option Value}{w:World}
theorem Ent.u{k:Nat}{y:Str}{m:aD}(h:Ent P w K mg base k y m)(hk:k<=k':=by decide):Ent P w K mg base k' y m:=h.up hk
theorem en{h:Heap}(X:K.In h)(G:h.Ns mainGlobals mg)⦃x:Str⦄⦃st:Stmt⦄⦃N ps bl:av⦄⦃tb:List (Nat×Str)⦄⦃cs:List (Str×GK)⦄⦃px:Px⦄⦃b:ah⦄(k:Nat)(Φ:aV)(m:aD)(d:Df K x st)(hc:xi st N ps tb bl cs px b=true)
  (hp:lx px Φ/\z5 px Φ) (pI:bJ (λy=>mg y=none) bl) (jO:bJ (λp:Str×GK=>∃u,mg p.1=some u/\uo K p.2 u) cs)
  (hf:bJ (λp:Nat×Str=>Ent P w K mg base k p.2 (Φ p.1)) tb) (hm:∀ds r,m ds=ok r->ds.length=ps.length/\oR Φ N.length b ds=ok r) (hb:∀(kV doc pm:Value) (an:Option Addr) (eD ct:Value) (us:aq),us.length=ps.length->bindArgs (PySem.W.fnOf x x (dD st) (bg st) (ay st) .none kV doc pm an eD ct) ⟨us,[]⟩=pure (ps.zip us):=by first|exact λ_ _ _ _ _ _=>u1 λ_=>rfl|exact λ_ _ _ _ _ _=>u2 λ_ _=>rfl|exact λ_ _ _ _ _ _=>u3 λ_ _ _=>rfl|exact λ_ _ _ _ _ _=>u4 λ_ _ _ _=>rfl|exact λ_ _ _ _ _ _=>u5 λ_ _ _ _ _=>rfl):Ent P w K mg base (k+1) x m:=by
 obtain⟨f,fd,Fu,a⟩:=d;obtain⟨h1,h2⟩:=az hc;exact ent Fu (XO X G a) (Fu.binds hb) (rC h1) h2 hp.1 hp.2 (bJ.mem pI) (bJ.two (P:=λy i=>∃u,mg y=some u/\uo K i u) jO) (bJ.tab (P:=λg y=>Ent P w K mg base k y (Φ g)) hf) hm
noncomputable def xm(PT F:aV)(i:Nat)(m:aD):aV:=λn=>bif Nat.ble 1000 n then PT n else bif Nat.beq n i then m else F n
theorem Sv{α:Type}{Q:Nat->Prop}(p:Nat){k:Nat}{a b c:α}(h:(if p=k then a else b)=c)(h1:a=c->Q k)(h2:b=c->Q p):Q p:=by
 by_cases e:p=k
 ·subst e;rw[if_pos rfl]at h;exact h1 h
 ·rw[if_neg e]at h;exact h2 h
variable {F:Addr->Prop}{Z:Cx}{cs:aC}{Φ:aV}
theorem MM{α:Type}{e:Expr}{p k:Nat}{a b c:α}(h:(if p=k then a else b)=c)(h1:a=c->PE Z e (tD Z F Φ (.eG k cs))/\L2.PT Z e (iJ Z F Φ (.eG k cs)))(h2:b=c->PE Z e (tD Z F Φ (.eG p cs))/\L2.PT Z e (iJ Z F Φ (.eG p cs))):PE Z e (tD Z F Φ (.eG p cs))/\L2.PT Z e (iJ Z F Φ (.eG p cs)):=Sv (Q:=λp=>PE Z e (tD Z F Φ (.eG p cs))/\L2.PT Z e (iJ Z F Φ (.eG p cs))) p h h1 h2
theorem UX{α:Type}{i p k:Nat}{a b c:α}(h:(if p=k then a else b)=c)(h1:a=c->PS Z st (oE Z F Φ (.mut k i cs)))(h2:b=c->PS Z st (oE Z F Φ (.mut p i cs))):PS Z st (oE Z F Φ (.mut p i cs)):=Sv (Q:=λp=>PS Z st (oE Z F Φ (.mut p i cs))) p h h1 h2
theorem nN{A:Prop}(h:∃_:aa,False):A:=h.elim λ_ z=>z.elim
theorem cM:True:=trivial
theorem bJ.nn{K:ak}{h:Heap}{mg:aP}(X:K.In h)(G:h.Ns mainGlobals mg):∀{l:av},bJ (λy=>PySem.W.nsIn K mainGlobals y=some none) l->bJ (λy=>mg y=none) l
 |[],_=>trivial
 |_::_,z=>⟨PySem.W.mg_none_of X G z.1,bJ.nn X G z.2⟩
theorem V6{P:aJ}{w:World}{K:ak}{h base:Heap}{mg:aP}{bl:av}{cs:List (Str×GK)}{px:Px}{PT:aV}(X:K.In h)(G:h.Ns mainGlobals mg)(hp:∀F i m,lx px (xm PT F i m)/\z5 px (xm PT F i m))(pI:bJ (λy=>mg y=none) bl)(jO:bJ (λp:Str×GK=>∃u,mg p.1=some u/\uo K p.2 u) cs)
  ⦃x:Str⦄ ⦃st:Stmt⦄ (k:Nat) (Φ:aV) (d:Df K x st) (N:av) (a:Nat) (tb:List (Nat×Str)) (b:ah)
  (hf:bJ (λp:Nat×Str=>Ent P w K mg base k p.2 (Φ p.1)) tb) (hc:xi st N (N.take a) tb bl cs px b=true:=by decide +kernel) (e:∃F i m,Φ=xm PT F i m:=by exact⟨_,_,_,rfl⟩) (ha:(N.take a).length=a:=by rfl) (hb:∀(kV doc pm:Value) (an:Option Addr) (eD ct:Value) (us:aq),us.length=a->bindArgs (PySem.W.fnOf x x (dD st) (bg st) (ay st) .none kV doc pm an eD ct) ⟨us,[]⟩=pure ((N.take a).zip us):=by first|exact λ_ _ _ _ _ _=>u1 λ_=>rfl|exact λ_ _ _ _ _ _=>u2 λ_ _=>rfl|exact λ_ _ _ _ _ _=>u3 λ_ _ _=>rfl|exact λ_ _ _ _ _ _=>u4 λ_ _ _ _=>rfl|exact λ_ _ _ _ _ _=>u5 λ_ _ _ _ _=>rfl):Ent P w K mg base (k+1) x (mk Φ a N.length b):=by
 obtain⟨F,i,m,e⟩:=e;exact en X G k Φ _ d hc (e▸hp F i m) pI jO hf (λds r q=>⟨(td ds r q).1.trans ha.symm,(td ds r q).2⟩) (λkV doc pm an eD ct us hu=>hb kV doc pm an eD ct us (hu.trans ha))
variable {ps:av}
theorem V5{x:Str}{N bl:av}{tb:List (Nat×Str)}{cs:List (Str×GK)}{px:Px}{b:ah}{fd:FuncData}(k:Nat)(Φ:aV)(m:aD)(Fu:wY K x x st f fd)(hc:xi st N ps tb bl cs px b=true)
  (hp:lx px Φ/\z5 px Φ) (pI:bJ (λy=>mg y=none) bl) (jO:bJ (λp:Str×GK=>∃u,mg p.1=some u/\uo K p.2 u) cs)
  (hf:bJ (λp:Nat×Str=>Ent P w K mg base k p.2 (Φ p.1)) tb) (hm:∀ds r,m ds=ok r->ds.length=ps.length/\oR Φ N.length b ds=ok r):eF P w K mg base qr (k+1) f fd ps (Ad K ps.length m):=by
 obtain⟨h1,h2⟩:=az hc;exact rF Fu (rC h1) h2 hp.1 hp.2 (bJ.mem pI) (bJ.two (P:=λy i=>∃u,mg y=some u/\uo K i u) jO) (λg y h=>(bJ.tab (P:=λg y=>Ent P w K mg base k y (Φ g)) hf g y h).ex) hm
noncomputable def Mt:Px:=⟨λ_ _ _ _=>none,λ_ _ _ _=>none,λ_ _ _ _=>none⟩
theorem UC:lx Mt Φ:=⟨(λX sc bl k L p e args he F cs hs=>by cases he),(λX sc bl k L p e args he F cs tg ht hs pins s σ H R τ ρ xs d items I Si eH ed ei Rr hR=>by cases he)⟩
def Ma(K:ak)(mg:aP)(sc:Scope)(C:Addr)(x:Str)(b:Bool):Prop :=
 (fj sc x=true/\(x==("__debug__" : Str))=false)/\((∃Ci,mg x=some (.ref Ci)/\PySem.W.kitOne K (.ref C) (.ref Ci)=some b)\/∃T,mg x=none/\bootBuiltins x=some (.type T)/\x ≠ "__name__" /\ PySem.W.kitOne K (.ref C) (.type T)=some b)
theorem zW{x:Str}{fd:FuncData}{k:Nat}{bl:av}{err told:Str}{cl:Str->Option Bool}{b1 b2 b3 b4 b5:List Bool}
  (Fu:wY K x qual st f fd) (Sc:dX [err,told] [err] (ay st)) {a b r:Expr} {l1 l2 l3 l4 l5:au} {pa pb po:Pos} {j:Nat} {pj pr A7 p1 A6 A5 p2 C_ Dl Ds Dh p3 C9 Dk Ae Dg p4 C8 Dj Dr De p5 C7 Di Dq Dd A4:Pos}
  (BK:bg st=lF told a b r l1 l2 l3 l4 l5 pa pb po j pj pr A7 p1 A6 A5 p2 C_ Dl Ds Dh p3 C9 Dk Ae Dg p4 C8 Dj Dr De p5 C7 Di Dq Dd A4) (ha:rb err cl a=some true) (hb:rb err cl b=some true)
  (i1:dC err cl l1=some b1) (i2:dC err cl l2=some b2) (i3:dC err cl l3=some b3) (i4:dC err cl l4=some b4) (i5:dC err cl l5=some b5) (Ve:bM ⟨ay st,[err,told],λ_=>none,bl,[],Mt⟩ ua r=true)
  (he:(ay st).names.lookup err=some .local) (hl:(ay st).names.lookup told=some .local) (d1:(err==("__debug__" : Str))=false) (d2:(err==("__classdict__" : Str))=false) (d3:(told==("__debug__" : Str))=false) (d4:(told==("__classdict__" : Str))=false)
  (pI:∀y∈bl,mg y=none) (xc:XC K C) (gi:fj (ay st) "isinstance" = true) (ni:mg "isinstance" = none) (VC:∀x b,cl x=some b->Ma K mg (ay st) C x b) (hlen:b1.length+b2.length+b3.length+b4.length+b5.length<=sizeLine)
  (tH:aX (λ_ _=>none) ua [none,some (.lst .fz ((b1++b2++b3++b4++b5).map DI.D.bl))]=ok (.bl true)):eF P w K mg base qr (k+1) f fd [err] (oJ C):=by
 refine Fu.ok (N:=[err,told]) Sc (λvs H Q E bK=>by obtain⟨_,h,_⟩:=bK;rw[h];rfl) λeD A outer s H vs Q E hr qm=>?_;obtain⟨ea,rfl,hH,hq⟩:=qm
 let X:=(gN qr P w K mg base [err,told] qual (ay st) f eD A outer s H E).sY
 have L:Lk X ⟨ay st,[err,told],λ_=>none,bl,[],Mt⟩ k (λ_ _=>none):=⟨rfl,rfl,Sc.nd,rfl,hr,pI,(λg y h=>by cases h),(λy i h=>by cases h),UC⟩
 have Z:HK X C cl:=⟨xc,L.gl gi,ni,λx b h p=>by
  obtain⟨⟨h1,h2⟩,h3⟩:=VC x b h;rcases h3 with ⟨Ci,h3,h4⟩|⟨T,h3,h4,h5,h6⟩
  ·exact⟨.ref Ci,.ref Ci,uH (L.gl h1) h3 rfl h2,λu z=>z,h4⟩
  ·exact⟨.ty T,.type T,uI (L.gl h1) h3 h4 rfl h5 h2,λu z=>z,h6⟩⟩
 rw[BK];exact⟨_,uc (X:=X) L Z rfl he hl d1 d2 d3 d4 Sc.nd hlen tH ha hb i1 i2 i3 i4 i5 Ve,ea,rfl,rfl,hH,hq⟩
theorem iu.up{k:Nat}{y:Str}{mr:aa->Prop}(h:iu P w K mg base k C y mr)(hk:k<=k'):iu P w K mg base k' C y mr:=by
 obtain⟨f,fd,ps,h1,h2⟩:=h.ex;exact⟨f,fd,ps,h1.mono hk,h2⟩
theorem iu.u{k:Nat}{y:Str}{mr:aa->Prop}(h:iu P w K mg base k C y mr)(hk:k<=k':=by decide):iu P w K mg base k' C y mr:=h.up hk
section
variable {P:aJ}{w:World}{K:ak}{h base:Heap}{mg:aP}(X:K.In h)(G:h.Ns mainGlobals mg){C:Addr}⦃x:Str⦄⦃st:Stmt⦄⦃N ps bl:av⦄⦃tb:List (Nat×Str)⦄⦃cs:List (Str×GK)⦄⦃px:Px⦄
include X G
theorem Ah{y:Str}(O:lA y C mg base)⦃b:ah⦄(n k:Nat)(Φ:aV)(Ψ:Nat->aa->Prop)(mr:aa->Prop)(d:Df K x st)(hc:xi st N ps tb bl cs px b=true)(PB:m8 (fj (ay st) y&&!(y==("__debug__" : Str))) n y b (bg st)=true)
  (hp:lx px Φ/\z5 px Φ) (pI:bJ (λy=>mg y=none) bl) (jO:bJ (λp:Str×GK=>∃u,mg p.1=some u/\uo K p.2 u) cs)
  (hf:bJ (λp:Nat×Str=>Ent P w K mg base k p.2 (Φ p.1)) tb) (Qi:bJ (λp:Nat×Str=>(∃ds,Ψ p.1 ds)->iu P w K mg base k C p.2 (Ψ p.1)) tb)
  (hm:∀ds,mr ds->ds.length=ps.length/\Er Φ Ψ n b (ds.map some++List.replicate (N.length - ds.length) none)) (hb:∀(kV doc pm:Value) (an:Option Addr) (eD ct:Value) (us:aq),us.length=ps.length->bindArgs (PySem.W.fnOf x x (dD st) (bg st) (ay st) .none kV doc pm an eD ct) ⟨us,[]⟩=pure (ps.zip us):=by first|exact λ_ _ _ _ _ _=>u1 λ_=>rfl|exact λ_ _ _ _ _ _=>u2 λ_ _=>rfl|exact λ_ _ _ _ _ _=>u3 λ_ _ _=>rfl|exact λ_ _ _ _ _ _=>u4 λ_ _ _ _=>rfl|exact λ_ _ _ _ _ _=>u5 λ_ _ _ _ _=>rfl):iu P w K mg base (k+1) C x mr:=by
 obtain⟨f,fd,Fu,a⟩:=d;obtain⟨h1,h2⟩:=az hc;exact⟨f,fd,ps,G_ Fu (rC h1) h2 PB hp.1 hp.2 (bJ.mem pI) (bJ.two (P:=λy i=>∃u,mg y=some u/\uo K i u) jO) (bJ.tab (P:=λg y=>Ent P w K mg base k y (Φ g)) hf) (bJ.tab (P:=λg y=>(∃ds,Ψ g ds)->iu P w K mg base k C y (Ψ g)) Qi) O hm,XO X G a,Fu.kp,Fu.binds hb,λds q=>(hm ds q).1⟩
end
noncomputable def Jy(y z al w0 w1:Str)(w4:Stmt)(hs:List ExceptHandler)(j0 j1 j2 j3:Nat)(a1 a2 a3 b1 b2 b3 pos c1 c2 c3 c4 c5 c6 c7 c8 c9 eI dE d1 d2:Pos):aO :=
 [.Assign [.Name y a1] (.Constant (.str w0) j0 a2) a3,.Assign [.Name z b1] (.Constant .none j1 b2) b3,.Try [w4] hs [] [] pos,.If (.BoolOp .And [.Compare (.Name z c1) [.IsNot] [.Constant .none j2 c2] c3,.UnaryOp .Not (.Call (.Name al c4) [.Name z c5] [] c6) c7] c8) [.Return (some (.Constant (.str w1) j3 c9)) eI] [] dE,.Return (some (.Name y d1)) d2]
def ME(sc:Scope)(N:av)(n y z al:Str)(i j l:Nat):Bool:=(fj sc al&&!(al==("__debug__" : Str)))&&(decide (N[i]?=some n)&&(decide (N[j]?=some y)&&(decide (N[l]?=some z)&&(decide (y≠n/\z≠n/\y≠z)&&(decide (sc.names.lookup n=some .local)&&(decide (sc.names.lookup y=some .local)&&(decide (sc.names.lookup z=some .local)&&(tX n&&(tX y&&tX z)))))))))
theorem Hj{x:Str}(h:tX x=true):(x==("__debug__" : Str))=false/\(x==("__classdict__" : Str))=false:=by
 unfold tX at h;simpa only[Bool.and_eq_true,Bool.not_eq_true']using h
section
variable {X:Cx}{S:Sx}{k i j l:Nat}{Φ:aV}{C Rp:Addr}{n y z al w:Str}{E1:XK}{Lp:FuncData}{JN:av}
theorem qu{tb:TS}{nrm:Prop}{good:St->Hp->Prop}{h0:ExceptHandler}{hs:List ExceptHandler}(L:Lk X S k Φ)(hk:X.stack=X.env::X.outer)(hf:X.env.frame=some X.env.locals)(hn:ME S.sc S.N n y z al i j l=true)(Hs:um X C n y z w (h0::hs))
  (Wy:eF X.prog X.w X.K X.mg X.base qr k Rp Lp JN (oJ C)) (Qo:Binds X.K Lp JN []) (P_:PySem.W.keepIn X.K (.ref Rp)=true) (UL:X.mg al=some (.ref Rp))
  (hb:∀pn Am,Passes (qj X.prog X.w C) (Cx.kS X pn Am) E1->fJ (Cx.kS X pn Am) [w4] tb)
  (U_:∀D σ H,good σ H->(∀σ' H',σ'[j]?=some (some (.str w0))->σ'[l]?=some (some .bB)->aI X.H₀ H'->nrm->D.nx σ' H')->tb D σ H) :
  ∀{j0 j1 j2 j3:Nat} {a1 a2 a3 b1 b2 b3 pos c1 c2 c3 c4 c5 c6 c7 c8 c9 eI dE d1 d2:Pos},fJ X (Jy y z al w0 w1 w4 (h0::hs) j0 j1 j2 j3 a1 a2 a3 b1 b2 b3 pos c1 c2 c3 c4 c5 c6 c7 c8 c9 eI dE d1 d2)
   (λD σ H=>good ((σ.set j (some (.str w0))).set l (some .bB)) H/\(nrm->∀H',aI X.H₀ H'->D.rt (.str w0) H')/\∀H',E1 (.ref C) none H'->∀iN,aI H' iN->D.rt (.str w) iN):=by
 intro j0 j1 j2 j3 a1 a2 a3 b1 b2 b3 pos c1 c2 c3 c4 c5 c6 c7 c8 c9 eI dE d1 d2;unfold Jy;obtain⟨ga,hn⟩:=az hn;obtain⟨ga,da⟩:=az ga;obtain⟨hi,hn⟩:=az hn;obtain⟨hj,hn⟩:=az hn;obtain⟨hl,hn⟩:=az hn;obtain⟨pG,hn⟩:=az hn;obtain⟨ln,hn⟩:=az hn;obtain⟨ly,hn⟩:=az hn;obtain⟨lz,hn⟩:=az hn;obtain⟨dn,hn⟩:=az hn;obtain⟨dy,dz⟩:=az hn;have hi:=Xd hi;have hj:=Xd hj;have hl:=Xd hl;have pG:=Xd pG;have ln:=Xd ln;have ly:=Xd ly;have lz:=Xd lz;rw[<- L.N]at hi hj hl;rw[<- L.sc]at ln ly lz;have dn:=Hj dn;have dy:=Hj dy;have dz:=Hj dz;have S1:=iY (X:=X) (pos:=a3) (pos':=a1) (i:=j) L.nd hj (.inl ly) (me (x:=w0) (j:=j0) (pos:=a2)) (hf:=.inr ly);have S2:=iY (X:=X) (pos:=b3) (pos':=b1) (i:=l) L.nd hl (.inl lz) (yt (j:=j1) (pos:=b2)) (hf:=.inr lz);have S3:=A3 (X:=X) (C:=C) (tb:=tb) (pos:=pos) (i:=i) (j:=j) (l:=l) (E1:=E1) hk hf Hs L.nd hi hj hl pG.1 pG.2.1 pG.2.2 ln ly lz dn.1 dn.2 hb;have T:=yf (pos:=c8) (rest:=[]) (EX (pos:=c3) (Bb (j:=j2) (pos':=c2) (gh (pos:=c1) hl (.inl lz) dz.1 dz.2))) (uD (pos:=c8) (oV (pos:=c7) (oU (o7 (X:=X) (p:=c4) (pos:=c6) (E:=E0) Wy L.room (L.gl ga) UL P_ Qo .nil (Dt (X:=X)) (cA (gh (pos:=c5) hl (.inl lz) dz.1 dz.2) eM) (dA da)))));have S4:=qQ (X:=X) (pos:=dE) T.pt (fg (kg (X:=X) (pos:=eI) (me (x:=w1) (j:=j3) (pos:=c9)))) oX;have S5:=kg (X:=X) (pos:=d2) (gh (X:=X) (i:=j) (pos:=d1) hj (.inl ly) dy.1 dy.2);refine fJ.imp (bZ S1 (bZ S2 (bZ S3 (bZ S4 (fg S5))))) λD σ H hq=>?_;obtain⟨hg,q1,q2⟩:=hq;refine⟨U_ _ _ _ hg λσ' H' e1 e2 sm nr=>?_,λea H' σ' he xg e1 e2=>?_⟩
 ·refine⟨.bB,e2,false,rfl,?_⟩;exact BC ⟨_,e1,q1 nr H' sm⟩
 ·refine⟨.ref ea,e2,true,rfl,?_⟩;show(if true=true then _ else _);rw[if_pos rfl];refine⟨_,e2,ea,rfl,bh,λiN sm=>⟨true,rfl,?_⟩⟩;exact BC ⟨_,e1,q2 H' he iN ((aI.upd xg).trans sm)⟩
end
structure sf(P:aJ)(w:World)(K:ak)(mg:aP)(base:Heap)(k:Nat)(C:Addr)(y:Str):Prop where
 ex:∃(f:Addr) (fd:FuncData) (ps:av),eF P w K mg base qr k f fd ps (oJ C)/\mg y=some (.ref f)/\PySem.W.keepIn K (.ref f)=true/\Binds K fd ps []
theorem sf.u{k:Nat}{y:Str}(h:sf P w K mg base k C y)(hk:k<=k':=by decide):sf P w K mg base k' C y:=by
 obtain⟨f,fd,ps,h1,h2⟩:=h.ex;exact⟨f,fd,ps,h1.mono hk,h2⟩
noncomputable def DQ(l:List (Str×Bool)):Str->Option Bool:=λx=>if x = "ValueError" then some true else l.lookup x
theorem bJ.look{P:Str->Bool->Prop}:∀{l:List (Str×Bool)},bJ (λp=>P p.1 p.2) l->∀x b,l.lookup x=some b->P x b/\(x,b)∈l
 |[],_,x,b,h=>nomatch h
 | (y,c)::l,a,x,b,h=>by
  rw[List.lookup_cons]at h;by_cases e:x=y
  ·subst e;rw[beq_self_eq_true]at h;cases h;exact⟨a.1,Xn⟩
  ·rw[beq_eq_false_iff_ne.mpr e]at h;obtain⟨h1,h2⟩:=bJ.look a.2 x b h;exact⟨h1,Xm _ h2⟩
def gB(sc:Scope)(x:Str):Bool:=fj sc x&&!(x==("__debug__" : Str))
def Nm(sc:Scope)(err told:Str)(l:List (Str×Bool)):Bool:=Ll [err,told] [err] sc&&(decide (sc.names.lookup err=some .local)&&(decide (sc.names.lookup told=some .local)&&(tX err&&(tX told&&(fj sc "isinstance" && (gB sc "ValueError" && l.all λp=>gB sc p.1))))))
inductive Mb(st:Stmt)(err told:Str)(l:List (Str×Bool))(b1 b2 b3 b4 b5:List Bool):Prop
 |mk {a b r:Expr} {l1 l2 l3 l4 l5:au} {pa pb po:Pos} {j:Nat} {pj pr A7 p1 A6 A5 p2 C_ Dl Ds Dh p3 C9 Dk Ae Dg p4 C8 Dj Dr De p5 C7 Di Dq Dd A4:Pos} (hs:bg st=lF told a b r l1 l2 l3 l4 l5 pa pb po j pj pr A7 p1 A6 A5 p2 C_ Dl Ds Dh p3 C9 Dk Ae Dg p4 C8 Dj Dr De p5 C7 Di Dq Dd A4)
  (h0:(decide (rb err (DQ l) a=some true)&&(decide (rb err (DQ l) b=some true)&&(decide (dC err (DQ l) l1=some b1)&&(decide (dC err (DQ l) l2=some b2)&&(decide (dC err (DQ l) l3=some b3)&&(decide (dC err (DQ l) l4=some b4)&&(decide (dC err (DQ l) l5=some b5)&&bM ⟨ay st,[err,told],λ_=>none,["len"],[],Mt⟩ ua r)))))))=true):Mb st err told l b1 b2 b3 b4 b5
section
variable {P:aJ}{w:World}{K:ak}{h base:Heap}{mg:aP}(X:K.In h)(G:h.Ns mainGlobals mg){C:Addr}⦃x:Str⦄⦃st:Stmt⦄
include X G
theorem He⦃err told:Str⦄⦃l:List (Str×Bool)⦄⦃b1 b2 b3 b4 b5:List Bool⦄(xc:XC K C)(k:Nat)(d:Df K x st)(hl:bJ (λp:Str×Bool=>∃g,PySem.W.nsIn K mainGlobals p.1=some (some (.ref g))/\PySem.W.kitOne K (.ref C) (.ref g)=some p.2) l)(vv:PySem.W.kitOne K (.ref C) (.type "ValueError")=some true)(ni:mg "isinstance" = none)(nv:mg "ValueError" = none)(nl:mg "len" = none)
  (hc:Nm (ay st) err told l=true) (BK:Mb st err told l b1 b2 b3 b4 b5) (hlen:b1.length+b2.length+b3.length+b4.length+b5.length<=100) (tH:aX (λ_ _=>none) ua [none,some (.lst .fz ((b1++b2++b3++b4++b5).map DI.D.bl))]=ok (.bl true)) (hb:∀(kV doc pm:Value) (an:Option Addr) (eD ct:Value) (us:aq),us.length=[err].length->bindArgs (PySem.W.fnOf x x (dD st) (bg st) (ay st) .none kV doc pm an eD ct) ⟨us,[]⟩=pure ([err].zip us):=by exact λ_ _ _ _ _ _=>u1 λ_=>rfl):sf P w K mg base (k+1) C x:=by
 obtain⟨f,fd,Fu,a⟩:=d;cases BK with
 |mk hs h0 =>
 obtain⟨i1,h0⟩:=az h0;obtain⟨i2,h0⟩:=az h0;obtain⟨i3,h0⟩:=az h0;obtain⟨i4,h0⟩:=az h0;obtain⟨i5,h0⟩:=az h0;obtain⟨i6,h0⟩:=az h0;obtain⟨i7,i8⟩:=az h0;obtain⟨c1,hc⟩:=az hc;obtain⟨c2,hc⟩:=az hc;obtain⟨c3,hc⟩:=az hc;obtain⟨c4,hc⟩:=az hc;obtain⟨c5,hc⟩:=az hc;obtain⟨c6,hc⟩:=az hc;obtain⟨c7,c8⟩:=az hc;obtain⟨c4,Wn⟩:=az c4;obtain⟨c5,Wm⟩:=az c5;obtain⟨c7,LN⟩:=az c7;refine⟨f,fd,[err],zW (k:=k) Fu (rC c1) hs (Xd i1) (Xd i2) (Xd i3) (Xd i4) (Xd i5) (Xd i6) (Xd i7) i8 (Xd c2) (Xd c3) (dA c4) (dA Wn) (dA c5) (dA Wm) (bJ.mem (l:=[("len" : Str)]) ⟨nl,trivial⟩) xc c6 ni (λy b hy=>?_) (by rw[sizeLine_eq];exact Xz hlen (by decide)) tH,XO X G a,Fu.kp,Fu.binds hb⟩;unfold DQ at hy;by_cases e:y = "ValueError"
 ·subst e;rw[if_pos rfl]at hy;cases hy;exact⟨⟨c7,dA LN⟩,.inr ⟨"ValueError",nv,by decide +kernel,by decide +kernel,vv⟩⟩
 ·rw[if_neg e]at hy;obtain⟨⟨g,h1,h2⟩,h3⟩:=bJ.look (P:=λy b=>∃g,PySem.W.nsIn K mainGlobals y=some (some (.ref g))/\PySem.W.kitOne K (.ref C) (.ref g)=some b) hl y b hy;obtain⟨h4,h5⟩:=az (List.all_eq_true.mp c8 _ h3);exact⟨⟨h4,dA h5⟩,.inl ⟨g,XO X G h1,h2⟩⟩
end
inductive xn(mg:aP)(base:Heap)(sc:Scope)(C:Addr)(n y z w:Str):List ExceptHandler->Prop
 |here {h:ExceptHandler} {hs:List ExceptHandler} {x:Str} (v:As n y z h=some (x,w)) (O:lA x C mg base) (g:gB sc x=true):xn mg base sc C n y z w (h::hs)
 |next {h:ExceptHandler} {hs:List ExceptHandler} {x w':Str} {B:Addr} (v:As n y z h=some (x,w')) (O:lA x B mg base) (OS:kF C B false base) (g:gB sc x=true) (r:xn mg base sc C n y z w hs):xn mg base sc C n y z w (h::hs)
theorem xn.ok{X:Cx}{S:Sx}{k:Nat}{Φ:aV}{C:Addr}{n y z w:Str}(L:Lk X S k Φ):∀{hs:List ExceptHandler},xn X.mg X.base S.sc C n y z w hs->um X C n y z w hs
 |_,.here v O g=>.here v O (L.gl (az g).1) (dA (az g).2)
 |_,.next v O OS g r=>.next v O OS (L.gl (az g).1) (dA (az g).2) (r.ok L)
noncomputable def vY(N:av)(j l:Nat)(w0:Str)(ds:aa):aU:=((ds.map some++List.replicate (N.length - ds.length) none).set j (some (.str w0))).set l (some .bB)
theorem vL{x:Str}{fd:FuncData}{k i j l:Nat}{N bl:av}{cs:List (Str×GK)}{px:Px}{m6:Nat->Option Str}{m:aD}{c:CS}{n y al:Str}{h0:ExceptHandler}{hs:List ExceptHandler}
   
  (Fu:wY K x qual st f fd) (Sc:dX N ps (ay st)) (BK:bg st=Jy y z al w0 w1 w4 (h0::hs) j0 j1 j2 j3 a1 a2 a3 b1 b2 b3 pos c1 c2 c3 c4 c5 c6 c7 c8 c9 eI dE d1 d2) (hn:ME (ay st) N n y z al i j l=true)
  (Ge:lx px Φ) (Gf:z5 px Φ) (pI:∀y∈bl,mg y=none) (jO:∀y i,(y,i)∈cs->∃u,mg y=some u/\uo K i u) (uY:∀g y,m6 g=some y->Ent P w K mg base k y (Φ g)) (ht:AA c=true) (hc:mO ⟨ay st,N,m6,bl,cs,px⟩ c w4=true)
  (H0:xn mg base (ay st) C0 n y z RF (h0::hs)) (A0:sf P w K mg base k C0 al)
  (hm:∀ds r,m ds=ok r->ds.length=ps.length/\((r=.str w0/\∃ρ',gM Φ c (vY N j l w0 ds)=ok (.nx,ρ')/\ρ'[j]?=some (some (.str w0))/\ρ'[l]?=some (some .bB)) \/
   ∃ww C n' Ψ,r=.str ww/\xn mg base (ay st) C n y z ww (h0::hs)/\sf P w K mg base k C al/\(∀g y,m6 g=some y->(∃ds,Ψ g ds)->iu P w K mg base k C y (Ψ g))/\kQ Φ Ψ n' c (vY N j l w0 ds))) :
  eF P w K mg base qr (k+1) f fd ps (Ad K ps.length m):=by
 refine Fu.ok (N:=N) Sc (λvs H Q E ⟨_,_,_,h,_⟩=>h) λeD A outer s H vs Q E hr qm=>?_;obtain⟨F,ds,r,hl,rs,er,hq⟩:=qm;obtain⟨SR,K_⟩:=hm ds r er
 let X:=(gN qr P w K mg base N qual (ay st) f eD A outer s H E).sY
 have L:Lk X ⟨ay st,N,m6,bl,cs,px⟩ k Φ:=⟨rfl,rfl,Sc.nd,rfl,hr,pI,λg y h=>⟨(uY g y h).ex⟩,jO,Ge⟩
 have hpl:ps.length<=N.length:=by have:=XI List.length Sc.pre;rw[List.length_take]at this;left
 have Si:=qE (X:=X) (F:=F) (N:=N) (vs:=vs) (ds:=ds) (H:=H) rfl (by left) rs;have Qa:j<N.length:=(List.getElem?_eq_some_iff.mp (Xd (az (az (az hn).2).2).1)).1;have W4:l<N.length:=(List.getElem?_eq_some_iff.mp (Xd (az (az (az (az hn).2).2).2).1)).1;obtain⟨τ1,xl⟩:=Si.set (i:=j) (v:=.str w0) (d:=.str w0) ⟨λ_=>none,λ_ _ h=>by simp at h,.str w0⟩ (by simp;left);obtain⟨τ2,sd⟩:=xl.set (i:=l) (v:=.bB) (d:=.bB) ⟨λ_=>none,λ_ _ h=>by simp at h,.bB⟩ (by simp;left);rw[BK];rcases K_ with ⟨rfl,ρ',e1,e2,e3⟩|⟨ww,C,n',Ψ,rfl,Hs,EA,fe,e1⟩
 ·obtain⟨fa,V0,UA,Fa,ma,ka,ba⟩:=A0.ex;refine⟨_,qu (X:=X) (nrm:=True) (E1:=λ_ _ _=>False) (good:=λσ H=>∃R τ ρ ρ1,SI X F R τ ρ σ H/\gM Φ c ρ=ok (.nx,ρ1)/\ρ1[j]?=some (some (.str w0))/\ρ1[l]?=some (some .bB))
   (tb:=λD σ H=>∃R τ ρ ρ1,SI X F R τ ρ σ H/\gM Φ c ρ=ok (.nx,ρ1)/\∀σ' H' R' τ',SI X F R' τ' ρ1 σ' H'->D.nx σ' H') L rfl rfl hn (H0.ok L) Fa ba ka ma (λpn Am _=>?_) (λD σ H' hg hd=>?_),⟨_,_,_,_,sd,e1,e2,e3⟩,λ_ H' sm=>?_,λ_ z=>z.elim⟩
  ·have Lt:lB (Cx.kS X pn Am).sY ⟨ay st,N,m6,bl,cs,px⟩ k Φ:=⟨⟨L.sc,L.N,L.nd,L.calm,L.room,L.bl,λf x h=>⟨(L.fn f x h).ex⟩,L.cs,L.pr⟩,λ_=>rfl,PassesOwn.never,Sc.kind,Gf⟩
   refine fJ.imp (fg (PS.sY (sH (F:=F) Lt c w4 hc))) λD σ H ⟨R,τ,ρ,ρ1,Si,ev,hq⟩=>⟨R,τ,ρ,_,Si.kS.sY,ev,λσ' H' R' τ' d8 _=>hq σ' H' R' τ' (by have S:=d8.IW;exact⟨S.len,S.rep,S.rt,S.rh,S.rf,S.th,S.t0,S.same⟩)⟩
  ·obtain⟨R,τ,ρ,ρ1,Si,ev,f2,f3⟩:=hg;refine⟨R,τ,ρ,ρ1,Si,ev,λσ' H' R' τ' d8=>?_⟩;obtain⟨v1,g1,r1⟩:=d8.rep j _ f2;obtain⟨v2,g2,r2⟩:=d8.rep l _ f3;cases r1;cases r2;exact hd σ' H' g1 g2 d8.same trivial
  ·exact hq (.str w0) H' sm ⟨λ_=>none,λ_ _ h=>by simp at h,.str w0⟩
 ·obtain⟨fa,V0,UA,Fa,ma,ka,ba⟩:=EA.ex;refine⟨_,qu (X:=X) (nrm:=False) (E1:=λc _ H'=>c=.ref C/\aI X.H₀ H') (good:=λσ H=>∃R τ ρ,SI X F R τ ρ σ H/\kQ Φ Ψ n' c ρ)
   (tb:=jB X F (kQ Φ Ψ n' c)) L rfl rfl hn (Hs.ok L) Fa ba ka ma (λpn Am hx=>?_) (λD σ H' hg hd=>hg),⟨_,_,_,sd,e1⟩,λz=>z.elim,λH' hE iN sm=>?_⟩
  ·exact fJ.imp (fg (Lv (X:=Cx.kS X pn Am) (F:=F) (n:=n') ⟨L.sc,L.N,L.nd,L.calm,L.room,L.bl,λf x h=>⟨(L.fn f x h).ex⟩,L.cs,L.pr⟩ hx fe ht hc)) λD σ H ⟨R,τ,ρ,Si,hb⟩=>⟨R,τ,ρ,Si.kS,hb⟩
  ·exact hq (.str ww) iN (hE.2.trans sm) ⟨λ_=>none,λ_ _ h=>by simp at h,.str ww⟩
theorem kj{h:Heap}{b:Bool}(X:K.In h)(q:PySem.W.excIn K C CK "ValueError.__new__" = true)(m:PySem.W.mroIn K C (.ref B)=some b):kF C B b h:=by
 obtain⟨dd,nm,bs,bm,ns,qn,hd,sn,sub,ab,col,k0,k1,k2,k3,k5,ho,_,_,_⟩:=vi q;refine⟨_,_,_,_,_,_,_,_,_,_,_,_,_,_,_,_,_,X _ _ ho,?_⟩;unfold PySem.W.mroIn PySem.W.clsIn at m;rw[ho]at m;exact Xp (show some ((Value.ref C::bm).contains (.ref B))=some b from m)
section
variable {P:aJ}{w:World}{K:ak}{h base:Heap}{mg:aP}(X:K.In h)(G:h.Ns mainGlobals mg)⦃x:Str⦄⦃st:Stmt⦄⦃N ps bl:av⦄⦃tb:List (Nat×Str)⦄⦃cs:List (Str×GK)⦄⦃px:Px⦄
include X G
theorem V4{n y al:Str}{h0:ExceptHandler}{hs:List ExceptHandler}{c:CS}{Wd:Nat->Option Str}
    (i j l k:Nat) (Φ:aV) (Ψ:Nat->Nat->aa->Prop) (m:aD) (d:Df K x st) (Vb:Ll N ps (ay st)=true)
  (BK:bg st=Jy y z al w0 w1 w4 (h0::hs) j0 j1 j2 j3 a1 a2 a3 b1 b2 b3 pos c1 c2 c3 c4 c5 c6 c7 c8 c9 eI dE d1 d2/\(ME (ay st) N n y z al i j l&&(mO ⟨ay st,N,λn=>List.lookup n tb,bl,cs,px⟩ c w4&&AA c))=true)
  (hp:lx px Φ/\z5 px Φ) (pI:bJ (λy=>mg y=none) bl) (jO:bJ (λp:Str×GK=>∃u,mg p.1=some u/\uo K p.2 u) cs)
  (hf:bJ (λp:Nat×Str=>Ent P w K mg base k p.2 (Φ p.1)) tb)
  (H0:xn mg base (ay st) C0 n y z RF (h0::hs)) (A0:sf P w K mg base k C0 al)
  (hw:∀e s,Wd e=some s->∃C,xn mg base (ay st) C n y z s (h0::hs)/\sf P w K mg base k C al/\bJ (λp:Nat×Str=>(∃ds,Ψ e p.1 ds)->iu P w K mg base k C p.2 (Ψ e p.1)) tb)
  (hm:∀ds r,m ds=ok r->ds.length=ps.length/\((r=.str w0/\∃ρ',gM Φ c (vY N j l w0 ds)=ok (.nx,ρ')/\ρ'[j]?=some (some (.str w0))/\ρ'[l]?=some (some .bB))\/∃e s,Wd e=some s/\r=.str s/\kQ Φ (Ψ e) e c (vY N j l w0 ds)))
  (hb:∀(kV doc pm:Value) (an:Option Addr) (eD ct:Value) (us:aq),us.length=ps.length->bindArgs (PySem.W.fnOf x x (dD st) (bg st) (ay st) .none kV doc pm an eD ct) ⟨us,[]⟩=pure (ps.zip us):=by first|exact λ_ _ _ _ _ _=>u1 λ_=>rfl|exact λ_ _ _ _ _ _=>u2 λ_ _=>rfl|exact λ_ _ _ _ _ _=>u3 λ_ _ _=>rfl|exact λ_ _ _ _ _ _=>u4 λ_ _ _ _=>rfl|exact λ_ _ _ _ _ _=>u5 λ_ _ _ _ _=>rfl):Ent P w K mg base (k+1) x m:=by
 obtain⟨f,fd,Fu,a⟩:=d;obtain⟨s1,s2⟩:=BK;obtain⟨s2,s3⟩:=az s2;obtain⟨s3,s4⟩:=az s3;refine⟨f,fd,ps,vL Fu (rC Vb) s1 s2 hp.1 hp.2 (bJ.mem pI) (bJ.two (P:=λy i=>∃u,mg y=some u/\uo K i u) jO) (bJ.tab (P:=λg y=>Ent P w K mg base k y (Φ g)) hf) s4 s3 H0 A0 (λds r q=>?_),XO X G a,Fu.kp,Fu.binds hb,λds r q=>(hm ds r q).1⟩;obtain⟨q1,q2⟩:=hm ds r q;refine⟨q1,q2.imp (λz=>z) ?_⟩;rintro ⟨e,s,q3,rfl,q4⟩;obtain⟨C,z1,z2,z3⟩:=hw e s q3;exact⟨s,C,e,Ψ e,rfl,z1,z2,bJ.tab (P:=λg y=>(∃ds,Ψ e g ds)->iu P w K mg base k C y (Ψ e g)) z3,q4⟩
end
theorem xr{e:Nat}{s:Str}(h:wordOf e=some s):(e=3/\s = "weights")\/(e=7/\s = "lot")\/(e=4/\s = "worths"):=by
 unfold wordOf at h;split at h
 ·rename_i z;cases h;exact .inl ⟨z,rfl⟩
 ·split at h
  ·rename_i z;cases h;exact .inr (.inl ⟨z,rfl⟩)
  ·split at h
   ·rename_i z;cases h;exact .inr (.inr ⟨z,rfl⟩)
   ·cases h
theorem w9{A:Prop}{a b:Nat}{P:aa->Prop}(h:∃ds,a=b/\P ds)(hn:(a==b)=false:=by rfl):A:=by
 obtain⟨_,rfl,_⟩:=h;simp at hn
theorem O2{A:Prop}(h:∃ds,iR 4 110 ds):A:=by
 obtain⟨_,_,_,_,_,h⟩:=h;rcases h with ⟨z,_⟩|⟨_,_,⟨z,_⟩|⟨_,_,⟨z,_⟩|⟨z,_⟩⟩⟩<;>exact absurd z (by decide)
theorem P7{a b c d e f g:Str}(ds:aa)(r:D)(h:nz Φ ds=ok r):ds.length=[a,b,c,d].length/\((r=.str "told" /\ ∃ρ',gM Φ DS (vY [a,b,c,d,e,f,g] 4 5 "told" ds)=ok (.nx,ρ')/\ρ'[4]?=some (some (.str "told"))/\ρ'[5]?=some (some .bB))\/∃e' s,wordOf e'=some s/\r=.str s/\kQ Φ (iR e') e' DS (vY [a,b,c,d,e,f,g] 4 5 "told" ds)):=by
 obtain⟨w,x,y,z,rfl,h'⟩:=AV h;exact⟨rfl,h'.imp (λ⟨h1,h2⟩=>⟨h1,_,h2,rfl,rfl⟩) λh=>h⟩
end DI
end
namespace PySem.W.Fast
def tw7877683405498122304:=0
def tw3587310273436898602:=0
def tw17077113017098815489:=0
def tw2232370538760219671:=0
def tw4346815479325555483:=0
def tw107784440603519890:=0
def tw1778591859264054966:=0
def tw12715415702499601907:=0
def tw1180101591769957624:=0
def tw3067418934614320005:=0
def tw12910593309082124281:=0
def tw4503693390982034439:=0
def tw15071477939659805853:=0
def tw14350753203795306212:=0
def tw7822070643660765037:=0
def tw15883557337559721373:=0
def tw2387412785058474209:=0
def tw9760116190999808353:=0
def tw2321367502728328728:=0
def tw2950360116925761657:=0
def tw1729036514728339254:=0
def tw13739361365573308605:=0
def tw11370909684747559697:=0
def tw5265003769956055123:=0
def tw6443143544340771323:=0
def tw12326918011406161142:=0
def tw2442496373522358687:=0
def tw17225306740678853058:=0
def tw6891297373258444141:=0
def tw3995423574308372151:=0
def tw12597415860158040873:=0
def tw10936828119757095434:=0
def tw10778273603837054283:=0
def tw13238148765124100289:=0
def tw2732514022641637356:=0
def tw11711786600324909884:=0
def tw12125554506104336485:=0
def tw1685645502166045839:=0
def tw2582555478474886709:=0
def tw14400220105589395335:=0
def tw6015804063782991820:=0
def tw16035409500439184571:=0
def tw10707156077693404537:=0
def tw11835696594523479126:=0
def tw12671147684122896816:=0
def tw9720367890157704598:=0
def tw11523965263149025143:=0
def tw17804349640398686432:=0
def tw18145398146170214353:=0
def tw12492544642163734302:=0
def tw13755350573688205537:=0
def tw1152932316134836379:=0
def tw2123616408619904005:=0
def tw18257538334428249914:=0
def tw11438908202236572773:=0
def tw4265556971511749002:=0
def tw4832998367237777091:=0
def tw9191531879477509728:=0
def tw14914403871054278846:=0
def tw8176257705478899127:=0
def tw9134865449849700954:=0
def tw6851334225765533565:=0
def tw479363215056895204:=0
def tw14508377627496598741:=0
def tw16828616374907766044:=0
def tw17938168843616412650:=0
def tw13355315308640937645:=0
def tw824659817040551836:=0
def tw16309528214464254332:=0
def tw7163353346895980419:=0
def tw16982539632854109554:=0
def tw10788746701298367195:=0
def tw391757227038272567:=0
def tw10833722374673377506:=0
def tw11874102098069765531:=0
def tw3032813798600967435:=0
def tw8333745615354908098:=0
def tw13484825422810067202:=0
def tw9716202384310304664:=0
def tw782252358048089353:=0
def tw9229826018900587719:=0
def tw735823658959255980:=0
def tw6231954969528958991:=0
def tw10909770071628488663:=0
def tw10253516446094338582:=0
def tw8081001065840978881:=0
def tw15935461292023066635:=0
def tw3861547313795101281:=0
def tw3602048227429994034:=0
def tw6003312475493692666:=0
def tw6857951966466173078:=0
def tw2655517168528392194:=0
def tw14211329133936190893:=0
def tw18157338693162841790:=0
def tw17028600108367842643:=0
def tw2360727139671955618:=0
def tw9633543569486945851:=0
def tw6892473027957510931:=0
def tw3628841418329039691:=0
def tw1139040694534184653:=0
def tw6545653893627298090:=0
def tw6003664934210741477:=0
def tw13364127260954215519:=0
def tw2323948717161021442:=0
def tw14647783707224338411:=0
def tw6384799280035959447:=0
def tw2426385718998525779:=0
def tw3988328445006304026:=0
def tw12622908288301055380:=0
def tw10089306877469571377:=0
def tw13238771037228363892:=0
def tw17203563843031176460:=0
def tw7034007302152020057:=0
def tw15602150073719840119:=0
def tw252208561683884276:=0
def tw5634544246238814086:=0
def tw12085512154210558163:=0
def tw14568576610787758230:=0
def tw2357223577529160610:=0
def tw12832247599718469330:=0
def tw5337108071696999906:=0
def tw9171874098728724251:=0
def tw3870411683906788839:=0
def tw18363956333979463:=0
def tw345190415492163474:=0
def tw5836569329750017027:=0
def tw4655538561071436934:=0
def tw1186574017676254204:=0
def tw17978255123629658041:=0
def tw15172635608385104560:=0
def tw2256904803782746889:=0
def tw6457814127431107628:=0
def tw11247217720956796232:=0
def tw6022850809712243852:=0
def tw8964882117740140667:=0
def tw7096295938935418752:=0
def tw18091104491643130543:=0
def tw17625699981189560193:=0
def tw5811921069309357373:=0
def tw3961057191943447787:=0
def tw5980556147169004131:=0
def tw15788186180427459873:=0
def tw12373400055081442974:=0
def tw1222144184861044444:=0
def tw17994956259611044346:=0
def tw14406105428829930819:=0
def tw14048387300191556380:=0
def tw12522707349527419018:=0
def tw3909156461675280690:=0
def tw8762317129286131745:=0
def tw15926510851150732718:=0
def tw958767568532485932:=0
def tw11411009341470702344:=0
def tw4906209607910711786:=0
def tw17044382867311838572:=0
def tw4786688631611976493:=0
def tw2765194006943609901:=0
def tw7328891812059619989:=0
def tw5638080335293752860:=0
def tw1800995341932398541:=0
def tw8742631477429167080:=0
def tw12805052356956604931:=0
def tw9045395559972590421:=0
def tw10080919508580409085:=0
def tw10641150558909711522:=0
def tw18147217789543988007:=0
def tw10724044582321718754:=0
def tw9697069778359643578:=0
def tw11904707546525786506:=0
def tw16930273408328353491:=0
def tw7007825671719056898:=0
def tw12573134167562168927:=0
def tw4477291779396074250:=0
def tw1431553083112498269:=0
def tw15174657090453218015:=0
def tw9411265109296937024:=0
def tw8623872448130605385:=0
def tw7181335344590110678:=0
end PySem.W.Fast
namespace Asm
open PySem PySem.Spec PyProof.Rows L2 DI
noncomputable def top(i:Nat):Stmt:=PySem.Challenge.pw_sharesample_k52_refused_weights_put_righ.main.body.getD i (.Pass ⟨0,0,0,0⟩)
def px:Px:=⟨λn sc bl e=>if n=1020 then kC true sc bl e else if n=1021 then kC false sc bl e else if n=1028 then zO sc bl e else if n=1029 then kC true sc bl e else none,λn sc bl e=>if n=1000 then t8 sc bl e else none,λn sc bl e=>if n=1027 then zN sc bl e else none⟩
noncomputable def PT:aV
 |1000=>vJ
 |1020=>(cutD true)
 |1021=>(cutD false)
 |1027=>Jw
 |1028=>qK
 |1029=>rQ
 |_=>λ_=>none
theorem pr(F:aV)(i:Nat)(m:aD):lx px (xm PT F i m)/\z5 px (xm PT F i m):=⟨⟨(λX sc bl k L p e args he F cs hs=>MM he (λhe=>zK rfl L he hs) λhe=>MM he (λhe=>zK rfl L he hs) λhe=>MM he (λhe=>AU rfl L he hs) λhe=>MM he (λhe=>Cf rfl L he hs) λhe=>nomatch he),(λX sc bl k L p e args he F cs tg ht hs pins s σ H R τ ρ xs d items I Si eH ed ei Rr hR=>by
  dsimp only[px]at he;by_cases hp:p=1000
  ·subst hp;rw[if_pos rfl]at he;exact D6 rfl L he ht hs I Si eH ed ei Rr hR
  rw[if_neg hp]at he;clear hp;cases he)⟩,⟨(λX sc bl k L hN uY p st x pos args he i hi hl pe F cs hs=>UX he (λhe=>Jv rfl L hN uY he hi hl pe hs) λhe=>nomatch he)⟩⟩
noncomputable def xt(F:aV)(i a b:Nat)(c:ah):aV:=xm PT F i (mk F a b c)
noncomputable def BL:av:=["ValueError","abs","all","bool","int","isinstance","len","list","max","min","range","set","sorted","sum","tuple","zip"]
noncomputable def CC:List (Str×GK):=[("MOST_HOUSES",GK.i 12)]
noncomputable def eW:aV:=xm PT PT 0 λ_=>none
noncomputable def fG:aV:=xt eW 257 2 4 (mR)
noncomputable def dG:aV:=xt fG 259 3 4 (ub)
noncomputable def jq:aV:=xt dG 258 2 2 (jk)
noncomputable def gx:aV:=xt jq 200 2 4 (ej)
noncomputable def jo:aV:=xt gx 215 1 1 (rZ)
noncomputable def se:aV:=xt jo 201 2 4 (jU)
noncomputable def bA:aV:=xm PT se 210 λ_=>none
noncomputable def jr:aV:=xt bA 107 2 3 (bj)
noncomputable def gD:aV:=xt jr 0 1 1 (gv)
noncomputable def mZ:aV:=xt gD 43 2 2 (cP)
noncomputable def cL:aV:=xt mZ 11 2 2 (fZ)
noncomputable def cR:aV:=xt cL 106 2 2 (cf 11 7)
noncomputable def fH:aV:=xt cR 1 2 3 (cO)
noncomputable def eu:aV:=xt fH 3 1 1 (bP)
noncomputable def cx:aV:=xt eu 40 2 2 (bY)
noncomputable def br:aV:=xt cx 46 2 2 (cf 40 3)
noncomputable def fI:aV:=xt br 105 1 1 (aZ)
noncomputable def kG:aV:=xt fI 2 2 3 (cy)
noncomputable def ir:aV:=xt kG 7 2 2 (zT 2)
noncomputable def gA:aV:=xt ir 5 2 2 (qb 2)
noncomputable def eo:aV:=xt gA 6 2 2 (lN 2)
noncomputable def iq:aV:=xt eo 9 1 3 (cw)
noncomputable def jn:aV:=xt iq 10 2 2 (fm)
noncomputable def gz:aV:=xt jn 41 1 2 (gu)
noncomputable def cJ:aV:=xt gz 42 1 2 (eE)
noncomputable def cK:aV:=xt cJ 110 3 4 (b9)
noncomputable def gC:aV:=xt cK 47 2 2 (cf 40 4)
noncomputable def eV:aV:=xt gC 4 2 2 (vx 2)
noncomputable def bQ:aV:=xt eV 108 4 5 (cI)
noncomputable def cZ:aV:=xt bQ 109 4 8 (bD)
noncomputable def Aa:aV:=xm PT cZ 253 (nz cZ)
def t0:=sM jr
def t1:=j_ cR
def t2:=ny fI t1
def t3:=nu fH t0 t1
def Mi:=kZ eu t3
def t4:=JD gC (f:=2) t2.1
def t5:=EL ir (f:=2) t2.1
def t6:=AN gA (f:=2) t2.1
def t7:=s_by kG (f:=2) t2
def t9:=kY eo t1
def T_:=qI iq
def T8:=sL jn t9 T_
def RN:=oO gz t2 T8
def T7:=oQ gD t0
def RO:=x5 mZ T7
theorem HN:b7 3 cz (br 46):=oP cx (f:=40) bC Mi
theorem RM:b7 4 cz (gC 47):=oP cK (f:=40) bC Mi
def oI:=gW br HN
theorem oG:b7 7 cN (cR 106):=oP cL (f:=11) di RO
def oF:=gX bA
def Oa:=l9 eV t5 t6 t7 RN
def N_:=qJ bQ t4 t6 RM oI oG oF Oa rfl
def N9:=AQ cJ t5 t6 t7 RN HN oI oG oF rfl
def N8:=EM jq
def N7:=AR jo
def CW:=AO br HN
def CV:=x6 bA
def Jo:=EJ bQ RM oI oG oF CW CV
def Jn:=EK cJ HN oI oG oF CW CV
def N5:=JE cZ Jo Jn N_ N9
def Jm:=ER eW rfl rfl
def N4:=EN dG Jm
def N3:=EO fG rfl rfl
def N6:=JF gx
theorem wm:∀ns:ai,(mk Aa 1 13 (lO)) [.lst .sc (ao ns)]=ok (.bl true):=Ki Aa ⟨N8,N6,N5,Jm,N4,N3,rfl⟩ N7
noncomputable def z9:List (Str×Bool):=[("ShareError",true),("NoBottom",false),("NoDrawing",false),("NoShares",false),("NoWeights",true),("NoWorths",false),("NoSize",false),("NoPair",false),("NoLot",false),("NoGuess",false),("NoGroups",false),("TooMany",false),("NoText",false),("NoLine",false)]
theorem Hz:Nm (ay (top 48)) "_law_error" "_law_told" z9=true:=by decide +kernel
theorem Ho:Mb (top 48) "_law_error" "_law_told" z9 [false,false,false] [false,false,false] [false,false,false] [false,true,false] [false]:=.mk rfl (by decide +kernel)
noncomputable def z7:List (Str×Bool):=[("ShareError",true),("NoBottom",false),("NoDrawing",false),("NoShares",false),("NoWeights",false),("NoWorths",false),("NoSize",false),("NoPair",false),("NoLot",true),("NoGuess",false),("NoGroups",false),("TooMany",false),("NoText",false),("NoLine",false)]
theorem Hx:Nm (ay (top 48)) "_law_error" "_law_told" z7=true:=by decide +kernel
theorem Hm:Mb (top 48) "_law_error" "_law_told" z7 [false,false,false] [false,false,true] [false,false,false] [false,false,false] [false]:=.mk rfl (by decide +kernel)
noncomputable def z8:List (Str×Bool):=[("ShareError",true),("NoBottom",false),("NoDrawing",false),("NoShares",false),("NoWeights",false),("NoWorths",true),("NoSize",false),("NoPair",false),("NoLot",false),("NoGuess",false),("NoGroups",false),("TooMany",false),("NoText",false),("NoLine",false)]
theorem Hy:Nm (ay (top 48)) "_law_error" "_law_told" z8=true:=by decide +kernel
theorem Hn:Mb (top 48) "_law_error" "_law_told" z8 [false,false,false] [false,false,false] [false,false,false] [false,false,true] [false]:=.mk rfl (by decide +kernel)
theorem fL:m8 (fj (ay (top 39)) "NoWeights" && !(("NoWeights" : Str)==("__debug__" : Str))) 3 "NoWeights" (bj) (bg (top 39))=true:=by decide +kernel
theorem dM:xi (top 39) ["weights","lot","house"] (List.take 2 ["weights","lot","house"]) [] BL CC px (bj)=true:=by decide +kernel
theorem jv:m8 (fj (ay (top 38)) "NoLot" && !(("NoLot" : Str)==("__debug__" : Str))) 7 "NoLot" (cf 11 7) (bg (top 38))=true:=by decide +kernel
theorem gH:xi (top 38) ["thing","many"] (List.take 2 ["thing","many"]) [(11,"is_lot")] BL CC px (cf 11 7)=true:=by decide +kernel
theorem iS:m8 (fj (ay (top 34)) "NoWeights" && !(("NoWeights" : Str)==("__debug__" : Str))) 3 "NoWeights" (cf 40 3) (bg (top 34))=true:=by decide +kernel
theorem fX:xi (top 34) ["thing","many"] (List.take 2 ["thing","many"]) [(40,"are_fractions")] BL CC px (cf 40 3)=true:=by decide +kernel
theorem fK:m8 (fj (ay (top 37)) "NoWeights" && !(("NoWeights" : Str)==("__debug__" : Str))) 3 "NoWeights" (aZ) (bg (top 37))=true:=by decide +kernel
theorem dJ:xi (top 37) ["thing"] (List.take 1 ["thing"]) [(46,"check_weights")] BL CC px (aZ)=true:=by decide +kernel
theorem m_:m8 (fj (ay (top 42)) "NoWeights" && !(("NoWeights" : Str)==("__debug__" : Str))) 3 "NoWeights" (b9) (bg (top 42))=true:=by decide +kernel
theorem m9:m8 (fj (ay (top 42)) "NoLot" && !(("NoLot" : Str)==("__debug__" : Str))) 7 "NoLot" (b9) (bg (top 42))=true:=by decide +kernel
theorem ie:xi (top 42) ["weights","lot","others","changes"] (List.take 3 ["weights","lot","others","changes"]) [(5,"frac_less"),(6,"frac_times"),(7,"frac_by"),(42,"frac_total"),(46,"check_weights"),(105,"check_some_weights"),(106,"check_rising"),(107,"check_above_nought")] BL CC px (b9)=true:=by decide +kernel
theorem ju:m8 (fj (ay (top 35)) "NoWorths" && !(("NoWorths" : Str)==("__debug__" : Str))) 4 "NoWorths" (cf 40 4) (bg (top 35))=true:=by decide +kernel
theorem gG:xi (top 35) ["thing","many"] (List.take 2 ["thing","many"]) [(40,"are_fractions")] BL CC px (cf 40 4)=true:=by decide +kernel
theorem lT:m8 (fj (ay (top 41)) "NoWeights" && !(("NoWeights" : Str)==("__debug__" : Str))) 3 "NoWeights" (bD) (bg (top 41))=true:=by decide +kernel
theorem lR:m8 (fj (ay (top 41)) "NoLot" && !(("NoLot" : Str)==("__debug__" : Str))) 7 "NoLot" (bD) (bg (top 41))=true:=by decide +kernel
theorem lS:m8 (fj (ay (top 41)) "NoWorths" && !(("NoWorths" : Str)==("__debug__" : Str))) 4 "NoWorths" (bD) (bg (top 41))=true:=by decide +kernel
theorem eC:xi (top 41) ["weights","lot","helps","total","helped","number","told","house"] (List.take 4 ["weights","lot","helps","total","helped","number","told","house"]) [(4,"frac_sum"),(6,"frac_times"),(47,"check_worths"),(105,"check_some_weights"),(106,"check_rising"),(107,"check_above_nought"),(108,"right_number")] BL CC px (bD)=true:=by decide +kernel
theorem my:Ll ["_law_word","_law_weights","_law_lot","_law_more","_law_told","_law_error","e"] ["_law_word","_law_weights","_law_lot","_law_more"] (ay (top 49))=true:=by decide +kernel
theorem mM:∃w4 h0 h1 h2 j0 j1 j2 j3 a1 a2 a3 b1 b2 b3 pos c1 c2 c3 c4 c5 c6 c7 c8 c9 eI dE d1 d2,(bg (top 49)=Jy "_law_told" "_law_error" "_law_alone" "told" "none of these" w4 [h0,h1,h2] j0 j1 j2 j3 a1 a2 a3 b1 b2 b3 pos c1 c2 c3 c4 c5 c6 c7 c8 c9 eI dE d1 d2/\(ME (ay (top 49)) ["_law_word","_law_weights","_law_lot","_law_more","_law_told","_law_error","e"] "e" "_law_told" "_law_error" "_law_alone" 6 4 5&&(mO ⟨ay (top 49),["_law_word","_law_weights","_law_lot","_law_more","_law_told","_law_error","e"],λn=>List.lookup n [(109,"put_right"),(110,"moved_by")],BL,CC,px⟩ DS w4&&AA DS))=true)/\As "e" "_law_told" "_law_error" h0=some (("NoWeights" : Str),("weights" : Str))/\As "e" "_law_told" "_law_error" h1=some (("NoLot" : Str),("lot" : Str))/\As "e" "_law_told" "_law_error" h2=some (("NoWorths" : Str),("worths" : Str)):=⟨_,_,_,_,_,_,_,_,_,_,_,_,_,_,_,_,_,_,_,_,_,_,_,_,_,_,_,_,⟨rfl,by decide +kernel⟩,rfl,rfl,rfl⟩
theorem Hl:xi (top 54) ["_law_script","_law_number","_law_many","_law_lot","_law_weights","_law_helps","_law_k","_law_drawn","_law_handed","_law_due","_law_mode","_law_kept","_law_word"] ["_law_script"] [(200,"_law_cell"),(201,"_law_frac"),(215,"_law_copied"),(253,"_law_refusal"),(257,"_law_bad_list"),(258,"_law_bad_weights"),(259,"_law_bad_lot")] BL CC px (lO)=true:=by decide +kernel
theorem all_mk{l:PySem.W.OpenLaw}{w:World}{K:ak}{h:Heap}{mg:aP}{fa g0 g1 g2 g3 g4 g5 g6 g7 g8 g9 M1 M0 MZ MY:Addr}{RH:Value}(X:K.In h)(G:h.Ns mainGlobals mg)(Vy:mg "law" = some (.ref fa))
  (a0:Df K "_law_bad_list" (top 50))
  (a1:Df K "_law_bad_lot" (top 53))
  (a2:Df K "_law_bad_weights" (top 52))
  (a3:Df K "_law_cell" (top 44))
  (a4:Df K "_law_copied" (top 51))
  (a5:Df K "_law_frac" (top 45))
  (a6:Df K "_law_alone" (top 48))
  (a7:Df K "check_above_nought" (top 39))
  (a8:Df K "is_whole" (top 16))
  (a9:Df K "are_houses" (top 31))
  (a10:Df K "is_lot" (top 32))
  (a11:Df K "check_rising" (top 38))
  (a12:Df K "common_divisor" (top 17))
  (a13:Df K "is_fraction" (top 19))
  (a14:Df K "are_fractions" (top 20))
  (a15:Df K "check_weights" (top 34))
  (a16:Df K "check_some_weights" (top 37))
  (a17:Df K "fraction_of" (top 18))
  (a18:Df K "frac_by" (top 24))
  (a19:Df K "frac_less" (top 22))
  (a20:Df K "frac_times" (top 23))
  (a21:Df K "common_bottom" (top 25))
  (a22:Df K "tops_over" (top 26))
  (a23:Df K "over_one" (top 27))
  (a24:Df K "frac_total" (top 28))
  (a25:Df K "moved_by" (top 42))
  (a26:Df K "check_worths" (top 35))
  (a27:Df K "frac_sum" (top 21))
  (a28:Df K "right_number" (top 40))
  (a29:Df K "put_right" (top 41))
  (a30:Df K "_law_refusal" (top 49))
  (a31:Df K "law" (top 54))
  (z:bJ (λy=>PySem.W.nsIn K mainGlobals y=some none) BL)
  (q0:PySem.W.nsIn K mainGlobals "MOST_HOUSES" = some (some RH)) (r0:RelV (.int 12) RH)
  (e0:PySem.W.nsIn K mainGlobals "ShareError" = some (some (.ref g0)))
  (e1:PySem.W.nsIn K mainGlobals "NoBottom" = some (some (.ref g1)))
  (e2:PySem.W.nsIn K mainGlobals "NoDrawing" = some (some (.ref g2)))
  (e3:PySem.W.nsIn K mainGlobals "NoShares" = some (some (.ref g3)))
  (e4:PySem.W.nsIn K mainGlobals "NoWeights" = some (some (.ref g4)))
  (e5:PySem.W.nsIn K mainGlobals "NoWorths" = some (some (.ref g5)))
  (e6:PySem.W.nsIn K mainGlobals "NoSize" = some (some (.ref g6)))
  (e7:PySem.W.nsIn K mainGlobals "NoPair" = some (some (.ref g7)))
  (e8:PySem.W.nsIn K mainGlobals "NoLot" = some (some (.ref g8)))
  (e9:PySem.W.nsIn K mainGlobals "NoGuess" = some (some (.ref g9)))
  (e10:PySem.W.nsIn K mainGlobals "NoGroups" = some (some (.ref M1)))
  (e11:PySem.W.nsIn K mainGlobals "TooMany" = some (some (.ref M0)))
  (e12:PySem.W.nsIn K mainGlobals "NoText" = some (some (.ref MZ)))
  (e13:PySem.W.nsIn K mainGlobals "NoLine" = some (some (.ref MY)))
  (v3_0:PySem.W.kitOne K (.ref g4) (.ref g0)=some true) (v3_1:PySem.W.kitOne K (.ref g4) (.ref g1)=some false) (v3_2:PySem.W.kitOne K (.ref g4) (.ref g2)=some false) (v3_3:PySem.W.kitOne K (.ref g4) (.ref g3)=some false) (v3_4:PySem.W.kitOne K (.ref g4) (.ref g4)=some true) (v3_5:PySem.W.kitOne K (.ref g4) (.ref g5)=some false) (v3_6:PySem.W.kitOne K (.ref g4) (.ref g6)=some false) (v3_7:PySem.W.kitOne K (.ref g4) (.ref g7)=some false) (v3_8:PySem.W.kitOne K (.ref g4) (.ref g8)=some false) (v3_9:PySem.W.kitOne K (.ref g4) (.ref g9)=some false) (v3_10:PySem.W.kitOne K (.ref g4) (.ref M1)=some false) (v3_11:PySem.W.kitOne K (.ref g4) (.ref M0)=some false) (v3_12:PySem.W.kitOne K (.ref g4) (.ref MZ)=some false) (v3_13:PySem.W.kitOne K (.ref g4) (.ref MY)=some false)
  (vv3:PySem.W.kitOne K (.ref g4) (.type "ValueError")=some true) (xx3:PySem.W.excIn K g4 CK "ValueError.__new__" = true)
  (w1_3:PySem.W.findIn K (.ref g4) "__getattribute__" = some (some (.builtin "BaseException.__getattribute__"))) (w2_3:PySem.W.findIn K (.ref g4) "__getattr__" = some none) (w3_3:PySem.W.findIn K (.ref g4) "__class__" = some (some (.builtin "object.__class__"))) (w4_3:PySem.W.mroIn K g4 (.type "BaseException")=some true) (w5_3:PySem.W.mroIn K g4 (.type "object")=some true)
  (v7_0:PySem.W.kitOne K (.ref g8) (.ref g0)=some true) (v7_1:PySem.W.kitOne K (.ref g8) (.ref g1)=some false) (v7_2:PySem.W.kitOne K (.ref g8) (.ref g2)=some false) (v7_3:PySem.W.kitOne K (.ref g8) (.ref g3)=some false) (v7_4:PySem.W.kitOne K (.ref g8) (.ref g4)=some false) (v7_5:PySem.W.kitOne K (.ref g8) (.ref g5)=some false) (v7_6:PySem.W.kitOne K (.ref g8) (.ref g6)=some false) (v7_7:PySem.W.kitOne K (.ref g8) (.ref g7)=some false) (v7_8:PySem.W.kitOne K (.ref g8) (.ref g8)=some true) (v7_9:PySem.W.kitOne K (.ref g8) (.ref g9)=some false) (v7_10:PySem.W.kitOne K (.ref g8) (.ref M1)=some false) (v7_11:PySem.W.kitOne K (.ref g8) (.ref M0)=some false) (v7_12:PySem.W.kitOne K (.ref g8) (.ref MZ)=some false) (v7_13:PySem.W.kitOne K (.ref g8) (.ref MY)=some false)
  (vv7:PySem.W.kitOne K (.ref g8) (.type "ValueError")=some true) (xx7:PySem.W.excIn K g8 CK "ValueError.__new__" = true)
  (w1_7:PySem.W.findIn K (.ref g8) "__getattribute__" = some (some (.builtin "BaseException.__getattribute__"))) (w2_7:PySem.W.findIn K (.ref g8) "__getattr__" = some none) (w3_7:PySem.W.findIn K (.ref g8) "__class__" = some (some (.builtin "object.__class__"))) (w4_7:PySem.W.mroIn K g8 (.type "BaseException")=some true) (w5_7:PySem.W.mroIn K g8 (.type "object")=some true)
  (v4_0:PySem.W.kitOne K (.ref g5) (.ref g0)=some true) (v4_1:PySem.W.kitOne K (.ref g5) (.ref g1)=some false) (v4_2:PySem.W.kitOne K (.ref g5) (.ref g2)=some false) (v4_3:PySem.W.kitOne K (.ref g5) (.ref g3)=some false) (v4_4:PySem.W.kitOne K (.ref g5) (.ref g4)=some false) (v4_5:PySem.W.kitOne K (.ref g5) (.ref g5)=some true) (v4_6:PySem.W.kitOne K (.ref g5) (.ref g6)=some false) (v4_7:PySem.W.kitOne K (.ref g5) (.ref g7)=some false) (v4_8:PySem.W.kitOne K (.ref g5) (.ref g8)=some false) (v4_9:PySem.W.kitOne K (.ref g5) (.ref g9)=some false) (v4_10:PySem.W.kitOne K (.ref g5) (.ref M1)=some false) (v4_11:PySem.W.kitOne K (.ref g5) (.ref M0)=some false) (v4_12:PySem.W.kitOne K (.ref g5) (.ref MZ)=some false) (v4_13:PySem.W.kitOne K (.ref g5) (.ref MY)=some false)
  (vv4:PySem.W.kitOne K (.ref g5) (.type "ValueError")=some true) (xx4:PySem.W.excIn K g5 CK "ValueError.__new__" = true)
  (w1_4:PySem.W.findIn K (.ref g5) "__getattribute__" = some (some (.builtin "BaseException.__getattribute__"))) (w2_4:PySem.W.findIn K (.ref g5) "__getattr__" = some none) (w3_4:PySem.W.findIn K (.ref g5) "__class__" = some (some (.builtin "object.__class__"))) (w4_4:PySem.W.mroIn K g5 (.type "BaseException")=some true) (w5_4:PySem.W.mroIn K g5 (.type "object")=some true)
  (m1_0:PySem.W.mroIn K g8 (.ref g4)=some false)
  (m2_0:PySem.W.mroIn K g5 (.ref g4)=some false)
  (m2_1:PySem.W.mroIn K g5 (.ref g8)=some false) :
  ∃fd:FuncData,(∀(s:Shared) (v:Value),BindsTo s fd ⟨[v],[]⟩ [("_law_script",v)])/\∀base:Heap,K.In base->base.Ns mainGlobals mg->eF l.prog w K mg base qr 33 fa fd ["_law_script"] (Ad K 1 pk):=by
 obtain⟨f,fd,Fu,a⟩:=a31;have e:=Vy.symm.trans (XO X G a);cases e;obtain⟨oc,od,kV,dc,pm,an,cd,ct,sl,rfl,_,_⟩:=id Fu.ex;have Y:=bJ.nn X G z;have x0:∃u,mg "MOST_HOUSES" = some u/\uo K (GK.i 12) u:=⟨_,XO X G q0,r0⟩
 refine⟨PySem.W.fnOf "law" "law" (dD (top 54)) (bg (top 54)) (ay (top 54)) .none kV dc pm an cd ct,λs v=>.of_eq rfl,λbase KB GB=>?_⟩;have N:=@V6 l.prog w K h base mg BL CC px PT X G pr Y ⟨x0,cM⟩;have TK:XC K g4:=⟨w1_3,w2_3,w3_3,w4_3,w5_3,by
  unfold PySem.W.mroIn at w5_3;cases q:PySem.W.clsIn K g4 with
  |none=>rw[q]at w5_3;cases w5_3
  |some _=>rfl⟩
 have O3:lA "NoWeights" g4 mg base:=o8 KB GB e4 xx3;have TH:XC K g8:=⟨w1_7,w2_7,w3_7,w4_7,w5_7,by
  unfold PySem.W.mroIn at w5_7;cases q:PySem.W.clsIn K g8 with
  |none=>rw[q]at w5_7;cases w5_7
  |some _=>rfl⟩
 have O7:lA "NoLot" g8 mg base:=o8 KB GB e8 xx7;have TJ:XC K g5:=⟨w1_4,w2_4,w3_4,w4_4,w5_4,by
  unfold PySem.W.mroIn at w5_4;cases q:PySem.W.clsIn K g5 with
  |none=>rw[q]at w5_4;cases w5_4
  |some _=>rfl⟩
 have O4:lA "NoWorths" g5 mg base:=o8 KB GB e5 xx4;have OH:kF g8 g4 false base:=kj KB xx7 m1_0;have OG:kF g5 g4 false base:=kj KB xx4 m2_0;have OF:kF g5 g8 false base:=kj KB xx4 m2_1;have E0:=N 1 eW a0 ["_law_good","_law_number","_law_at","_law_some"] 2 [] (mR) cM;have E1:=N 2 fG a1 ["_law_lot","_law_many","_law_number","_law_some"] 3 [] (ub) cM;have E2:=N 3 dG a2 ["_law_good","_law_number"] 2 [(257,"_law_bad_list")] (jk) ⟨E0.u,cM⟩;have E3:=N 4 jq a3 ["_law_script","_law_k","_law_cell_here","_law_number"] 2 [] (ej) cM;have E4:=N 5 gx a4 ["_law_thing"] 1 [] (rZ) cM;have E5:=N 6 jo a5 ["_law_top","_law_bottom","_law_one","_law_other"] 2 [] (jU) cM;have Mc:=He (P:=l.prog) (w:=w) (base:=base) X G (l:=z9) TK 7 a6 ⟨⟨_,e0,v3_0⟩,⟨_,e1,v3_1⟩,⟨_,e2,v3_2⟩,⟨_,e3,v3_3⟩,⟨_,e4,v3_4⟩,⟨_,e5,v3_5⟩,⟨_,e6,v3_6⟩,⟨_,e7,v3_7⟩,⟨_,e8,v3_8⟩,⟨_,e9,v3_9⟩,⟨_,e10,v3_10⟩,⟨_,e11,v3_11⟩,⟨_,e12,v3_12⟩,⟨_,e13,v3_13⟩,cM⟩ vv3 (Y.mem _ (by decide)) (Y.mem _ (by decide)) (Y.mem _ (by decide)) Hz Ho (by decide) rfl;have RC:=He (P:=l.prog) (w:=w) (base:=base) X G (l:=z7) TH 7 a6 ⟨⟨_,e0,v7_0⟩,⟨_,e1,v7_1⟩,⟨_,e2,v7_2⟩,⟨_,e3,v7_3⟩,⟨_,e4,v7_4⟩,⟨_,e5,v7_5⟩,⟨_,e6,v7_6⟩,⟨_,e7,v7_7⟩,⟨_,e8,v7_8⟩,⟨_,e9,v7_9⟩,⟨_,e10,v7_10⟩,⟨_,e11,v7_11⟩,⟨_,e12,v7_12⟩,⟨_,e13,v7_13⟩,cM⟩ vv7 (Y.mem _ (by decide)) (Y.mem _ (by decide)) (Y.mem _ (by decide)) Hx Hm (by decide) rfl;have RD:=He (P:=l.prog) (w:=w) (base:=base) X G (l:=z8) TJ 7 a6 ⟨⟨_,e0,v4_0⟩,⟨_,e1,v4_1⟩,⟨_,e2,v4_2⟩,⟨_,e3,v4_3⟩,⟨_,e4,v4_4⟩,⟨_,e5,v4_5⟩,⟨_,e6,v4_6⟩,⟨_,e7,v4_7⟩,⟨_,e8,v4_8⟩,⟨_,e9,v4_9⟩,⟨_,e10,v4_10⟩,⟨_,e11,v4_11⟩,⟨_,e12,v4_12⟩,⟨_,e13,v4_13⟩,cM⟩ vv4 (Y.mem _ (by decide)) (Y.mem _ (by decide)) (Y.mem _ (by decide)) Hy Hn (by decide) rfl;have E7:=N 8 bA a7 ["weights","lot","house"] 2 [] (bj) cM dM;have LX:=Ah (P:=l.prog) (w:=w) X G O3 3 8 bA (iR 3) (iR 3 107) a7 dM fL (pr _ _ _) Y ⟨x0,cM⟩ cM cM (λds h=>rM (Φ:=bA) h.2);have E8:=N 9 jr a8 ["thing"] 1 [] (gv) cM;have E9:=N 10 gD a9 ["thing","many"] 2 [(0,"is_whole")] (cP) ⟨E8.u,cM⟩;have TB:=N 11 mZ a10 ["thing","many"] 2 [(43,"are_houses")] (fZ) ⟨E9.u,cM⟩;have HJ:=N 12 cL a11 ["thing","many"] 2 [(11,"is_lot")] (cf 11 7) ⟨TB.u,cM⟩ gH;have D1:=Ah (P:=l.prog) (w:=w) X G O7 7 12 cL (iR 7) (iR 7 106) a11 gH jv (pr _ _ _) Y ⟨x0,cM⟩ ⟨TB.u,cM⟩ ⟨nN,cM⟩ (λds h=>mF (Φ:=cL) (f:=11) di RO h.2);have RB:=N 13 cR a12 ["one","other","rest"] 2 [] (cO) cM;have WG:=N 14 fH a13 ["thing"] 1 [(0,"is_whole"),(1,"common_divisor")] (bP) ⟨E8.u,RB.u,cM⟩;have NA:=N 15 eu a14 ["thing","many"] 2 [(3,"is_fraction")] (bY) ⟨WG.u,cM⟩;have L_:=N 16 cx a15 ["thing","many"] 2 [(40,"are_fractions")] (cf 40 3) ⟨NA.u,cM⟩ fX;have D0:=Ah (P:=l.prog) (w:=w) X G O3 3 16 cx (iR 3) (iR 3 46) a15 fX iS (pr _ _ _) Y ⟨x0,cM⟩ ⟨NA.u,cM⟩ ⟨nN,cM⟩ (λds h=>mF (Φ:=cx) (f:=40) bC Mi h.2);have HI:=N 17 br a16 ["thing"] 1 [(46,"check_weights")] (aZ) ⟨L_.u,cM⟩ dJ;have DZ:=Ah (P:=l.prog) (w:=w) X G O3 3 17 br (iR 3) (iR 3 105) a16 dJ fK (pr _ _ _) Y ⟨x0,cM⟩ ⟨L_.u,cM⟩ ⟨λ_=>D0.u,cM⟩ (λds h=>vk (Φ:=br) (Ψ:=iR 3) (λ_ h=>⟨rfl,h⟩) h.2);have L9:=N 18 fI a17 ["top","bottom","divisor"] 2 [(1,"common_divisor")] (cy) ⟨RB.u,cM⟩;have Nz:=N 19 kG a18 ["one","other"] 2 [(2,"fraction_of")] (zT 2) ⟨L9.u,cM⟩;have Ny:=N 20 ir a19 ["one","other"] 2 [(2,"fraction_of")] (qb 2) ⟨L9.u,cM⟩;have D5:=N 21 gA a20 ["one","other"] 2 [(2,"fraction_of")] (lN 2) ⟨L9.u,cM⟩;have WE:=N 22 eo a21 ["some","bottom","part"] 1 [(1,"common_divisor")] (cw) ⟨RB.u,cM⟩;have WD:=N 23 iq a22 ["some","bottom"] 2 [] (fm) cM;have WC:=N 24 jn a23 ["some","bottom"] 1 [(9,"common_bottom"),(10,"tops_over")] (gu) ⟨WE.u,WD.u,cM⟩;have Nx:=N 25 gz a24 ["some","tops"] 1 [(2,"fraction_of"),(41,"over_one")] (eE) ⟨L9.u,WC.u,cM⟩;have WB:=N 26 cJ a25 ["weights","lot","others","changes"] 3 [(5,"frac_less"),(6,"frac_times"),(7,"frac_by"),(42,"frac_total"),(46,"check_weights"),(105,"check_some_weights"),(106,"check_rising"),(107,"check_above_nought")] (b9) ⟨Ny.u,D5.u,Nz.u,Nx.u,L_.u,HI.u,HJ.u,E7.u,cM⟩ ie;have L5:=Ah (P:=l.prog) (w:=w) X G O3 3 26 cJ (iR 3) (iR 3 110) a25 ie m_ (pr _ _ _) Y ⟨x0,cM⟩ ⟨Ny.u,D5.u,Nz.u,Nx.u,L_.u,HI.u,HJ.u,E7.u,cM⟩ ⟨nN,nN,nN,nN,λ_=>D0.u,λ_=>DZ.u,(λh=>w9 h),λ_=>LX.u,cM⟩ (λds h=>mE (Φ:=cJ) (Ψ:=iR 3) HN oI oG oF (λ_ a b=>⟨a,b⟩) (λ_ a b=>⟨a,b⟩) (λ_ a b=>⟨a,b⟩) (λ_ a b=>⟨a,b⟩) h);have L4:=Ah (P:=l.prog) (w:=w) X G O7 7 26 cJ (iR 7) (iR 7 110) a25 ie m9 (pr _ _ _) Y ⟨x0,cM⟩ ⟨Ny.u,D5.u,Nz.u,Nx.u,L_.u,HI.u,HJ.u,E7.u,cM⟩ ⟨nN,nN,nN,nN,(λh=>w9 h),(λh=>w9 h),λ_=>D1.u,(λh=>w9 h),cM⟩ (λds h=>mE (Φ:=cJ) (Ψ:=iR 7) HN oI oG oF (λ_ a b=>⟨a,b⟩) (λ_ a b=>⟨a,b⟩) (λ_ a b=>⟨a,b⟩) (λ_ a b=>⟨a,b⟩) h);have Nw:=N 27 cK a26 ["thing","many"] 2 [(40,"are_fractions")] (cf 40 4) ⟨NA.u,cM⟩ gG;have L3:=Ah (P:=l.prog) (w:=w) X G O4 4 27 cK (iR 4) (iR 4 47) a26 gG ju (pr _ _ _) Y ⟨x0,cM⟩ ⟨NA.u,cM⟩ ⟨nN,cM⟩ (λds h=>mF (Φ:=cK) (f:=40) bC Mi h.2);have Nv:=N 28 gC a27 ["one","other"] 2 [(2,"fraction_of")] (vx 2) ⟨L9.u,cM⟩;have Nu:=N 29 eV a28 ["helped","lot","helps","total","short"] 4 [(5,"frac_less"),(6,"frac_times"),(7,"frac_by"),(42,"frac_total")] (cI) ⟨Ny.u,D5.u,Nz.u,Nx.u,cM⟩;have WA:=N 30 bQ a29 ["weights","lot","helps","total","helped","number","told","house"] 4 [(4,"frac_sum"),(6,"frac_times"),(47,"check_worths"),(105,"check_some_weights"),(106,"check_rising"),(107,"check_above_nought"),(108,"right_number")] (bD) ⟨Nv.u,D5.u,Nw.u,HI.u,HJ.u,E7.u,Nu.u,cM⟩ eC;have L0:=Ah (P:=l.prog) (w:=w) X G O3 3 30 bQ (iR 3) (iR 3 109) a29 eC lT (pr _ _ _) Y ⟨x0,cM⟩ ⟨Nv.u,D5.u,Nw.u,HI.u,HJ.u,E7.u,Nu.u,cM⟩ ⟨nN,nN,(λh=>w9 h),λ_=>DZ.u,(λh=>w9 h),λ_=>LX.u,nN,cM⟩ (λds h=>pS (Φ:=bQ) (Ψ:=iR 3) oI oG oF (λ_ a b=>⟨a,b⟩) (λ_ a b=>⟨a,b⟩) (λ_ a b=>⟨a,b⟩) (λ_ a b=>⟨a,b⟩) h);have LY:=Ah (P:=l.prog) (w:=w) X G O7 7 30 bQ (iR 7) (iR 7 109) a29 eC lR (pr _ _ _) Y ⟨x0,cM⟩ ⟨Nv.u,D5.u,Nw.u,HI.u,HJ.u,E7.u,Nu.u,cM⟩ ⟨nN,nN,(λh=>w9 h),(λh=>w9 h),λ_=>D1.u,(λh=>w9 h),nN,cM⟩ (λds h=>pS (Φ:=bQ) (Ψ:=iR 7) oI oG oF (λ_ a b=>⟨a,b⟩) (λ_ a b=>⟨a,b⟩) (λ_ a b=>⟨a,b⟩) (λ_ a b=>⟨a,b⟩) h);have LZ:=Ah (P:=l.prog) (w:=w) X G O4 4 30 bQ (iR 4) (iR 4 109) a29 eC lS (pr _ _ _) Y ⟨x0,cM⟩ ⟨Nv.u,D5.u,Nw.u,HI.u,HJ.u,E7.u,Nu.u,cM⟩ ⟨nN,nN,λ_=>L3.u,(λh=>w9 h),(λh=>w9 h),(λh=>w9 h),nN,cM⟩ (λds h=>pS (Φ:=bQ) (Ψ:=iR 4) oI oG oF (λ_ a b=>⟨a,b⟩) (λ_ a b=>⟨a,b⟩) (λ_ a b=>⟨a,b⟩) (λ_ a b=>⟨a,b⟩) h);obtain⟨_,Qe,Qd,Qc,_,_,_,_,_,_,_,_,_,_,_,_,_,_,_,_,_,_,_,_,_,_,_,_,hT,z0,z1,z2⟩:=mM;have H0:xn mg base (ay (top 49)) _ "e" "_law_told" "_law_error" "weights" [Qe,Qd,Qc]:=.here z0 O3 (by decide +kernel);have H1:xn mg base (ay (top 49)) _ "e" "_law_told" "_law_error" "lot" [Qe,Qd,Qc]:=.next z0 O3 OH (by decide +kernel) (.here z1 O7 (by decide +kernel));have H2:xn mg base (ay (top 49)) _ "e" "_law_told" "_law_error" "worths" [Qe,Qd,Qc]:=.next z0 O3 OG (by decide +kernel) (.next z1 O7 OF (by decide +kernel) (.here z2 O4 (by decide +kernel)));have Wz:=V4 (P:=l.prog) (w:=w) (Wd:=wordOf) X G 6 4 5 31 cZ iR (nz cZ) a30 my hT (pr _ _ _) Y ⟨x0,cM⟩ ⟨WA.u,WB.u,cM⟩ H0 Mc.u (λe s q=>by
  rcases xr q with ⟨rfl,rfl⟩|⟨rfl,rfl⟩|⟨rfl,rfl⟩
  ·exact⟨_,H0,Mc.u,⟨λ_=>L0.u,λ_=>L5.u,cM⟩⟩
  ·exact⟨_,H1,RC.u,⟨λ_=>LY.u,λ_=>L4.u,cM⟩⟩
  ·exact⟨_,H2,RD.u,⟨λ_=>LZ.u,O2,cM⟩⟩) P7
 exact V5 32 Aa pk Fu Hl (pr _ _ _) Y ⟨x0,cM⟩ ⟨E3.u,E5.u,E4.u,Wz.u,E0.u,E2.u,E1.u,cM⟩ (yO λns _=>(td _ _ (wm ns)).2)
theorem walk{l:PySem.W.OpenLaw}{q:aJ}{loose:av}{XP:(aP)->Heap->Prop}{YP:World->Heap->Prop}{d:DefRec}{K:Params->ak}(hn:l.most=some 63)(K6:d.params.defaults=[])
  (hY:∀(w:World) (h:Heap),YP w h->(K w.params).In h)
  (F:∀(w:World) (mg:aP) (fa:Addr) (h:Heap),(K w.params).In h->h.Ns mainGlobals mg->mg d.name=some (.ref fa) ->
   ∃fd:FuncData,(∀(s:Shared) (u:Value),BindsTo s fd ⟨[u],[]⟩ [("_law_script",u)])/\∀base:Heap,(K w.params).In base->base.Ns mainGlobals mg->eF l.prog w (K w.params) mg base qr 33 fa fd ["_law_script"] (Ad (K w.params) 1 pk)) :
  PySem.W.WalkO q loose XP YP l.row.toRowW d [] (λf vs=>PySem.call f vs) :=
 L2.Ao (n:=63) (k:=33) (x:="_law_script") (CX:=λ_=>qr) (sp:=λw=>Ad (K w.params) 1 pk) hn (by decide) K6 ⟨rfl,by decide,by decide⟩ hY F (λw H a ns hl hO hS=>FL (K w.params) H a ns pk (Bu hl) hO hS) λ_ _ _ _ _ z=>z
end Asm
end
open PySem PySem.W PyProof.Rows
set_option maxRecDepth 100000 in
set_option maxHeartbeats 0 in
theorem PySem.Challenge.cw_sharesample_k52_refused_weights_put_righ_holds : PySem.Challenge.rw_sharesample_k52_refused_weights_put_righ.Holds := by
 w_on;o_law;k_head;(case hw=>w_witness2)
 k_fill
 refine Asm.walk (l:=PySem.Challenge.rw_sharesample_k52_refused_weights_put_righ) rfl rfl (fun w h Y=>PySem.W.kIn_of Y) ?F
 case F =>
  intro w mg fa h KX G hmg
  refine' Asm.all_mk KX G hmg ?a0 ?a1 ?a2 ?a3 ?a4 ?a5 ?a6 ?a7 ?a8 ?a9 ?a10 ?a11 ?a12 ?a13 ?a14 ?a15 ?a16 ?a17 ?a18 ?a19 ?a20 ?a21 ?a22 ?a23 ?a24 ?a25 ?a26 ?a27 ?a28 ?a29 ?a30 ?a31 ?zz ?q0 ?r0 ?e0 ?e1 ?e2 ?e3 ?e4 ?e5 ?e6 ?e7 ?e8 ?e9 ?e10 ?e11 ?e12 ?e13 ?v3_0 ?v3_1 ?v3_2 ?v3_3 ?v3_4 ?v3_5 ?v3_6 ?v3_7 ?v3_8 ?v3_9 ?v3_10 ?v3_11 ?v3_12 ?v3_13 ?vv3 ?xx3 ?w1_3 ?w2_3 ?w3_3 ?w4_3 ?w5_3 ?v7_0 ?v7_1 ?v7_2 ?v7_3 ?v7_4 ?v7_5 ?v7_6 ?v7_7 ?v7_8 ?v7_9 ?v7_10 ?v7_11 ?v7_12 ?v7_13 ?vv7 ?xx7 ?w1_7 ?w2_7 ?w3_7 ?w4_7 ?w5_7 ?v4_0 ?v4_1 ?v4_2 ?v4_3 ?v4_4 ?v4_5 ?v4_6 ?v4_7 ?v4_8 ?v4_9 ?v4_10 ?v4_11 ?v4_12 ?v4_13 ?vv4 ?xx4 ?w1_4 ?w2_4 ?w3_4 ?w4_4 ?w5_4 ?m1_0 ?m2_0 ?m2_1
  case a0 | a1 | a2 | a3 | a4 | a5 | a6 | a7 | a8 | a9 | a10 | a11 | a12 | a13 | a14 | a15 | a16 | a17 | a18 | a19 | a20 | a21 | a22 | a23 | a24 | a25 | a26 | a27 | a28 | a29 | a30 | a31 =>
   refine' DI.dmk ?x ?y ?z ?w
   case x | y | z | w=>k_is
  (case zz=>refine' ⟨?_,?_,?_,?_,?_,?_,?_,?_,?_,?_,?_,?_,?_,?_,?_,?_,trivial⟩ <;> show PySem.W.nsIn _ _ _ = some none <;> k_is)
  (case q0=>k_is);(case r0=>exact ⟨_,rfl⟩)
  (case e0=>k_is)
  (case e1=>k_is)
  (case e2=>k_is)
  (case e3=>k_is)
  (case e4=>k_is)
  (case e5=>k_is)
  (case e6=>k_is)
  (case e7=>k_is)
  (case e8=>k_is)
  (case e9=>k_is)
  (case e10=>k_is)
  (case e11=>k_is)
  (case e12=>k_is)
  (case e13=>k_is)
  case v3_0 | v3_1 | v3_2 | v3_3 | v3_4 | v3_5 | v3_6 | v3_7 | v3_8 | v3_9 | v3_10 | v3_11 | v3_12 | v3_13=>kit_is
  (case vv3=>kit_is)
  (case xx3=>k_exc)
  case w1_3 | w2_3 | w3_3 | w4_3 | w5_3=>k_is
  case v7_0 | v7_1 | v7_2 | v7_3 | v7_4 | v7_5 | v7_6 | v7_7 | v7_8 | v7_9 | v7_10 | v7_11 | v7_12 | v7_13=>kit_is
  (case vv7=>kit_is)
  (case xx7=>k_exc)
  case w1_7 | w2_7 | w3_7 | w4_7 | w5_7=>k_is
  case v4_0 | v4_1 | v4_2 | v4_3 | v4_4 | v4_5 | v4_6 | v4_7 | v4_8 | v4_9 | v4_10 | v4_11 | v4_12 | v4_13=>kit_is
  (case vv4=>kit_is)
  (case xx4=>k_exc)
  case w1_4 | w2_4 | w3_4 | w4_4 | w5_4=>k_is
  (case m1_0=>k_is)
  (case m2_0=>k_is)
  (case m2_1=>k_is)

import PyProof.Rows.All
import Wide.All
import OpenK.AllK
import Wide.FinOn
import Lean
import PyProof.EqAt
import PyProof.EqKinds
import PyProof.TupleCall
import PyProof.NeKinds
import KE.BitLaws
import PyProof.SumWalkG
import PyProof.ConsumeWalk
import PyProof.WalksMore
import KE.KSortedM
import PyProof.Rows.SetFrom
import PyProof.CompUse
import KE.KSortTup
import PyProof.ZipIter
import PyProof.ListRange
import PyProof.SliceList
import PyProof.DictRoadsH
import PyProof.DictKinds
import PyProof.DictIter
import PyProof.Rows.DictUnroll
import KE.KDictSum
import PyProof.EnumMake
import PyProof.Draws
import PyProof.DictItems
import PyProof.DictItemsLoops
import PyProof.Rows.TupDisplay
import KE.KDictList
import PyProof.TupleOfGen
import PyProof.TupleOfSeq
import KE.KSortAsk
import KE.KLam
import KE.KSortKey
import PySem.Challenge.RW_sharesample_k12_greatest_taken_off
set_option bootstrap.genMatcherCode false
set_option genSizeOf false
set_option genSizeOfSpec false
set_option Elab.async false
set_option linter.all false
set_option maxRecDepth 100000
local macro_rules | `(tactic| left) => `(tactic| first | assumption | exact Nat.zero_le _ | exact Int.natCast_nonneg _ | exact Int.ofNat_lt.mpr (by assumption) | exact Nat.le_of_lt (by assumption) | exact Nat.le_trans (by assumption) (by assumption) | exact Nat.lt_of_lt_of_le (by assumption) (by assumption) | lia | omega)
noncomputable section
abbrev WN:=@PySem.wpAny_bind
abbrev WO:=@of_decide_eq_true
abbrev WQ:=@PySem.Heap.get?_push_of_some
abbrev WR:=@List.mem_cons_self
abbrev WS:=@Bool.false_ne_true
abbrev WT:=@List.mem_cons_of_mem
abbrev WU:=@PySem.wpAny_pure
abbrev WV:=@Nat.le_refl
abbrev WW:=@List.mem_append_right
abbrev WX:=@PySem.Heap.lt_size
abbrev WY:=@Nat.lt_of_lt_of_le
abbrev WZ:=@PySem.Heap.get?_push_size
abbrev W0:=@List.mem_append_left
abbrev W2:=@Nat.ne_of_lt
abbrev W3:=@List.getElem?_eq_getElem
abbrev W4:=@Option.some.inj
abbrev W5:=@List.map_congr_left
abbrev W6:=@Nat.zero_le
abbrev W7:=@PySem.wpAny_mono
abbrev W8:=@Nat.pow_le_pow_right
abbrev W9:=@PyProof.Rows.callWith_type1
abbrev W_:=@PyProof.Rows.wpS_bind
abbrev Xa:=@Nat.lt_succ_of_lt
abbrev Xb:=@Nat.le_trans
abbrev Xc:=@decide_eq_true
abbrev Xd:=@List.mem_of_getElem?
abbrev Xe:=@Nat.lt_of_le_of_lt
abbrev Xf:=@if_pos
abbrev Xg:=@List.mergeSort_perm
abbrev Xh:=@Nat.lt_irrefl
abbrev Xi:=@PyProof.Rows.wpS_pure
abbrev Xj:=@Int.mul_le_mul_of_nonneg_right
abbrev Xk:=@PySem.F.slot_dict_keyiterator_next
abbrev Xl:=@List.length_pos_of_mem
abbrev Xm:=@Int.le_refl
abbrev Xn:=@PySem.wpAny_Call_Name_kw
abbrev Xo:=@PySem.wpAny_truthy_bool
abbrev Xp:=@PySem.wpAny_holding
abbrev Xq:=@PySem.wpAny_typeNameOfWhole_keyiter
abbrev Xr:=@PySem.mem_of_lookup
abbrev Xs:=@if_neg
abbrev Xt:=@PySem.Heap.SameBut.update
abbrev Xu:=@Rat.intCast_lt_intCast
abbrev Xv:=@Nat.ne_of_gt
abbrev Xw:=@decide_eq_false
abbrev Xx:=@PySem.wpAny_passesOwn
abbrev Xy:=@PySem.wpAny_newObj_type
abbrev Xz:=@List.getElem_mem
abbrev XA:=@Int.mul_fdiv_cancel_left
abbrev XB:=@PySem.wpAny_typeNameOf_keyiter
abbrev XC:=@PyProof.Rows.listUpdate_at
abbrev XD:=@PySem.W.kia_one
abbrev XE:=@congrArg
abbrev XF:=@PySem.sizeLine_eq
abbrev XG:=@Rat.mul_lt_mul_of_pos_right
abbrev XH:=@PySem.call_meets
abbrev XI:=@Nat.lt_succ_self
abbrev XJ:=@PySem.wpAny_call_entry
abbrev XM:=@List.ext_getElem
abbrev XN:=@List.perm_cons_erase
abbrev XO:=@PySem.wpAny_newList
abbrev XQ:=@Nat.le_of_dvd
abbrev XR:=@Nat.mul_le_mul_left
abbrev XS:=@PySem.SeqAt.EqAt.same
abbrev XT:=@PySem.codeAny_builtin
abbrev XU:=@PyProof.Rows.get?_update_seq
abbrev XW:=@List.length_map
abbrev XX:=@PySem.Calls.spliced_cons
abbrev XY:=@PySem.codeAny_mono
abbrev XZ:=@PySem.SeqAt.EqAt.int_int
abbrev X0:=@PySem.F.args_tuple_add_2
abbrev X1:=@PyProof.Rows.listItems_at
abbrev X2:=@PyProof.Rows.wpS_forRange
abbrev X3:=@List.length_erase_of_mem
abbrev X4:=@PySem.F.entry_tuple_add
abbrev X5:=@List.pairwise_mergeSort
abbrev X6:=@PySem.Calls.spliced_nil
abbrev X7:=@Nat.le_succ_of_le
abbrev X8:=@PySem.F.slot_tuple_add
abbrev X9:=@PyProof.Rows.subscriptTail_builtinR
abbrev X_:=@PySem.Heap.get?_update_other
abbrev Ya:=@PySem.Calls.callWith_builtin
abbrev Yb:=@Int.fmod_nonneg_of_pos
abbrev Yc:=@Rat.intCast_le_intCast
abbrev Yd:=@PySem.wpAny_standAt
abbrev Ye:=@List.cons.inj
abbrev Yf:=@beq_self_eq_true
abbrev Yg:=@List.nodup_range
abbrev Yh:=@PySem.F.slot_tuple_lt
abbrev Yi:=@List.length_filter_le
abbrev Yj:=@Nat.le_of_lt
abbrev Yk:=@PySem.wpAny_loadName_local
abbrev Ym:=@PySem.SeqAt.EqAt.none_bool
abbrev Yn:=@PySem.SeqAt.EqAt.bool_none
abbrev Yo:=@PySem.SeqAt.EqAt.bool_bool
abbrev Yp:=@Int.mul_ne_zero
abbrev Yq:=@Nat.div_le_self
abbrev Yr:=@Nat.lt_trans
abbrev Ys:=@PySem.SeqAt.EqAt.none_int
abbrev Yt:=@PySem.SeqAt.EqAt.bool_int
abbrev Yu:=@PySem.SeqAt.EqAt.int_none
abbrev Yv:=@PySem.SeqAt.EqAt.int_bool
abbrev Yw:=@List.mem_map_of_mem
abbrev Yx:=@Eq.symm
abbrev Yy:=@List.nodup_nil
abbrev Yz:=@Int.mul_le_mul
abbrev YA:=@Nat.le_succ
abbrev YB:=@Int.fmod_lt_of_pos
abbrev YC:=@PySem.tupleKind_room_in1
abbrev YD:=@PySem.W.mg_of
abbrev YE:=@PySem.wpAny_dictEntries
abbrev YF:=@PySem.wpAny_Name
abbrev YG:=@PySem.wpAny_rule
abbrev YH:=@Ne.symm
abbrev YI:=@List.getElem_inj
abbrev YJ:=@Int.lt_or_le
abbrev YK:=@Int.mul_nonneg
abbrev aq:=List (List Int)
abbrev aa:=List Int
abbrev aH:=List Nat
abbrev av:=List PySem.Str
abbrev ag:=List PySem.Value
abbrev au:=List PySem.Expr
abbrev aO:=List PySem.Addr
abbrev aL:=List PySem.Stmt
abbrev aM:=List Rat
abbrev aC:=Array PySem.Value
abbrev ao:=PySem.W.Frag
abbrev aw:=PySem.Value->PySem.Shared->Prop
abbrev ak:=List (PySem.Addr×PySem.Obj)
abbrev ai:=PySem.Addr->Prop
abbrev aN:=PySem.Str->Option PySem.Value
abbrev ax:=PySem.Program
abbrev ay:=PySem.Around
namespace L2
open PySem PySem.Spec PyProof.Rows
abbrev Key:=Sum Int Str
noncomputable def Dq:Key->Value->Bool
 |.inl k,v=>Value.isInt k v
 |.inr x,v=>Value.isStrOf x v
noncomputable def Pj(w:World):Key->Int
 |.inl k=>hashInt k
 |.inr x=>hashStr w x
theorem bP:∀{k:Key} {v:Value},Dq k v=true->(∃i t,k=Sum.inl i/\v=Value.int i t)\/(∃x t,k=Sum.inr x/\v=Value.str x t)
 |.inl i,v,h=>by
  obtain⟨t,e⟩:=Value.isInt_shape (k:=i) (v:=v) h;exact .inl ⟨i,t,rfl,e⟩
 |.inr x,v,h=>by
  obtain⟨t,e⟩:=Value.isStrOf_shape (x:=x) (v:=v) h;exact .inr ⟨x,t,rfl,e⟩
theorem Gb(a b:Int):decide ((Sum.inl a:Key)=Sum.inl b)=(a==b):=by
 by_cases e:a=b
 ·subst e;simp
 ·have h:¬ (Sum.inl a:Key)=Sum.inl b:=λq=>e (Sum.inl.inj q);rw[decide_eq_false h];exact(beq_eq_false_iff_ne.mpr e).symm
theorem F9(a b:Str):decide ((Sum.inr a:Key)=Sum.inr b)=decide (a=b):=by
 by_cases e:a=b
 ·subst e;simp
 ·have h:¬ (Sum.inr a:Key)=Sum.inr b:=λq=>e (Sum.inr.inj q);rw[decide_eq_false h,decide_eq_false e]
theorem Ga(a:Int)(b:Str):decide ((Sum.inl a:Key)=Sum.inr b)=false:=Xw (λq=>nomatch q)
theorem F_(a:Str)(b:Int):decide ((Sum.inr a:Key)=Sum.inl b)=false:=Xw (λq=>nomatch q)
def tZ(prog:ax)(w:World):PySem.KeyKind prog w Key where
 is:=Dq
 hash:=Pj w
 inj:=λv a b ha hb=>by
  rcases bP ha with ⟨i,t,rfl,rfl⟩|⟨x,t,rfl,rfl⟩
  ·rcases bP hb with ⟨j,u,rfl,e⟩|⟨y,u,rfl,e⟩
   ·injection e with e1 _;rw[e1]
   ·exact nomatch e
  ·rcases bP hb with ⟨j,u,rfl,e⟩|⟨y,u,rfl,e⟩
   ·exact nomatch e
   ·injection e with e1 _;rw[e1]
 byValue:=λk v h=>by
  rcases bP h with ⟨i,t,rfl,rfl⟩|⟨x,t,rfl,rfl⟩<;>rfl
 pyHash:=λhv h=>by
  rcases bP hv with ⟨i,t,rfl,rfl⟩|⟨x,t,rfl,rfl⟩
  ·exact wpAny_pyHash_int h
  ·exact wpAny_pyHash_str h
 eqBool:=λhu hv h=>by
  rcases bP hu with ⟨i,t,rfl,rfl⟩|⟨x,t,rfl,rfl⟩
  ·rcases bP hv with ⟨j,u,rfl,rfl⟩|⟨y,u,rfl,rfl⟩
   ·rw[Gb]at h;exact wpAny_eqBool_int h
   ·rw[Ga]at h;exact SeqAt.EqAt.int_str i t y u _ _ _ _ h
  ·rcases bP hv with ⟨j,u,rfl,rfl⟩|⟨y,u,rfl,rfl⟩
   ·rw[F_]at h;exact SeqAt.EqAt.str_int x t j u _ _ _ _ h
   ·rw[F9]at h;exact wpAny_eqBool_str h
 «strs»:=λk x t v h=>by
  rcases bP h with ⟨i,u,rfl,e⟩|⟨y,u,rfl,e⟩
  ·exact nomatch e
  ·injection e with e1 _
   subst e1;cases v<;>rfl
end L2
namespace L2
open PySem PySem.Spec PyProof.Rows
inductive V where
 |bz|bl (b:Bool)|int (i:Int)|str (x:Str)|Ra (b:Array UInt8)|LW (b:UInt64)|ref (a:Addr)|ty (n:String)
 deriving DecidableEq
abbrev ae:=List V
def RelV:V->Value->Prop
 |.bz,u=>u=Value.none
 |.bl b,u=>u=Value.bool b
 |.int i,u=>∃t,u=Value.int i t
 |.str x,u=>∃t,u=Value.str x t
 |.Ra b,u=>∃t,u=Value.bytes b t
 |.LW b,u=>∃t,u=Value.float b t
 |.ref a,u=>u=Value.ref a
 |.ty n,u=>u=Value.type n
abbrev Vals:ae->ag->Prop:=Paired RelV
theorem Vals.length{xs:ae}{us:ag}(r:Vals xs us):xs.length=us.length:=Paired.length r
theorem Vals.get:∀{xs:ae} {us:ag} {i:Nat} {x:V},Vals xs us->xs[i]?=some x->∃u,us[i]?=some u/\RelV x u
 |_,_,_,_,.nil,e=>by simp at e
 |_,_,0,_,.cons r _,e=>by simp at e;subst e;exact⟨_,rfl,r⟩
 |_,_,i+1,x,.cons _ t,e=>by
  obtain⟨u,h1,h2⟩:=Vals.get (i:=i) (x:=x) t (by simpa using e);exact⟨u,by simpa using h1,h2⟩
theorem Vals.set{x:V}{u:Value}(r:RelV x u):∀{xs:ae} {us:ag} (i:Nat),Vals xs us->Vals (xs.set i x) (us.set i u)
 |_,_,_,.nil=>.nil
 |_,_,0,.cons _ t=>.cons r t
 |_,_,i+1,.cons q t=>.cons q (Vals.set r i t)
theorem Vals.append:∀{xs ys:ae} {us ws:ag},Vals xs us->Vals ys ws->Vals (xs++ys) (us++ws)
 |_,_,_,_,.nil,s=>s
 |_,_,_,_,.cons r t,s=>.cons r (Vals.append t s)
theorem Vals.take:∀{xs:ae} {us:ag} (n:Nat),Vals xs us->Vals (xs.take n) (us.take n)
 |_,_,0,_=>.nil
 |_,_,_+1,.nil=>.nil
 |_,_,n+1,.cons r t=>.cons r (Vals.take n t)
theorem Vals.drop:∀{xs:ae} {us:ag} (n:Nat),Vals xs us->Vals (xs.drop n) (us.drop n)
 |_,_,0,r=>r
 |_,_,_+1,.nil=>.nil
 |_,_,n+1,.cons _ t=>Vals.drop n t
def lZ:Option V->Option Value->Prop
 |some v,some u=>RelV v u
 |none,none=>True
 |_,_=>False
def KV{κ:Type}:List (κ×V)->List (κ×Value)->Prop:=Paired λ(p:κ×V) (q:κ×Value)=>p.1=q.1/\RelV p.2 q.2
noncomputable def kV:Key->V
 |.inl i=>.int i
 |.inr x=>.str x
inductive HO where
 |lst (xs:ae)
 |tup (xs:ae)
 |dK (lj:List (Key×V))|dT (lj:List (List Key×V))
 |set (S:Int->Bool) (n:Nat)
 |ins (C dx:Addr) (fs:List (Str×V))
 |own (x:Addr)
 |xd (fs:List (Str×V))
 |met (f x:Addr)
 |kW (lo hi:Int)
 |fu (o:Obj) (u:HO)
 |wt (ps:aC)
 |ext (φ:Heap->Prop)
abbrev Hp:=Addr->Option HO
noncomputable def upd(H:Hp)(a:Addr)(o:HO):Hp:=λb=>if b=a then some o else H b
variable {H:Hp}
theorem aV{a:Addr}{o:HO}:upd H a o a=some o:=by unfold upd;rw[if_pos rfl]
theorem aQ{a b:Addr}{o:HO}(h:b≠a):upd H a o b=H b:=by unfold upd;rw[if_neg h]
theorem br{a b:Addr}{o:HO}(h:H a=some o)(h':H b=none):a≠b:=by
 intro e;subst e;rw[h]at h';cases h'
section
variable (P:ax)(w:World)
def cA(H:Hp)(h:Heap)(a:Addr):HO->Prop
 |.lst xs=>xs.length<=sizeLine/\∃(its:ag) (n:Nat),Vals xs its/\h.get? a=some { cls:=.type "list",data:=.seq its.toArray n }
 |.tup xs=>xs.length<=sizeLine/\∃its:ag,Vals xs its/\IsTup h a its.toArray
 |.dK lj=>lj.length<=sizeLine/\(a==sysModules)=false/\∃vs,KV lj vs/\h.DictOf (tZ P w) a vs
 |.dT lj=>lj.length<=sizeLine/\(a==sysModules)=false/\∃xs:List (List Key×Addr×Value),
   Paired (λ(p:List Key×V) (q:List Key×Addr×Value)=>p.1=q.1/\H q.2.1=some (.tup (p.1.map kV))/\RelV p.2 q.2.2) lj xs /\
   ∃o es ep,h.get? a=some o/\o.ExactDict/\o.data=.dict es ep/\es.toList=xs.map (entryOfKey (tupleKind (tZ P w)))/\(xs.map (·.1)).Nodup
 |.set S n=>h.SetOf (intKind P w) a S n
 |.ins C dx fs=>H dx=some (.own a)/\fs.length<=1000/\dx≠a/\h.get? a=some (PySem.W.instObj C dx) /\
   ∃mA,h.Ns1 dx mA/\(∀f,lZ (fs.lookup f) (mA f))/\PySem.Within mA (fs.map (·.1))
 |.own _=>∃o,h.get? a=some o
 |.xd fs=>∃mA,h.Ns1 a mA/\∀f,lZ (fs.lookup f) (mA f)
 |.kW lo hi=>∃t u v,h.get? a=some { cls:=.type "range",data:=.fields #[.int lo t,.int hi u,.int 1 v] }
 |.fu o u=>h.get? a=some o/\cA H h a u
 |.wt ps=>∃more:aC,h.get? a=some { cls:=.none,data:=.fields (ps++more) }
 |.met f x=>h.get? a=some (PySem.W.methodObj (.ref f) (.ref x))
 |.ext φ=>φ h/\(∃o,h.get? a=some o)/\∀h1 h2:Heap,φ h1->(∀o,h1.get? a=some o->h2.get? a=some o)->φ h2
def jB(H:Hp)(h:Heap):Prop:=∀a o,H a=some o->cA P w H h a o
end
section
variable {P:ax}{w:World}{H H':Hp}{h h':Heap}{a:Addr}{o:HO}
theorem cA.lt(x:cA P w H h a o):a<h.objs.size:=by
 cases o with
 |lst xs=>obtain⟨_,_,_,_,e⟩:=x;exact WX e
 |tup xs=>obtain⟨_,_,_,p⟩:=x;exact p.lt
 |dK lj=>obtain⟨_,_,_,_,o,_,_,e,_⟩:=x;exact WX e
 |dT lj=>obtain⟨_,_,_,_,o,_,_,e,_⟩:=x;exact WX e
 |set S n=>obtain⟨o,_,_,_,e,_⟩:=x;exact WX e
 |ins C dx fs=>obtain⟨_,_,_,e,_⟩:=x;exact WX e
 |own y=>obtain⟨_,e⟩:=x;exact WX e
 |xd fs=>obtain⟨_,⟨_,_,_,e,_⟩,_⟩:=x;exact WX e
 |kW lo hi=>obtain⟨_,_,_,e⟩:=x;exact WX e
 |fu ob u=>obtain⟨e,_⟩:=x;exact WX e
 |wt ps=>obtain⟨_,e⟩:=x;exact WX e
 |met f y=>exact WX (show h.get? a=some _ from x)
 |ext φ=>obtain⟨_,⟨_,e⟩,_⟩:=x;exact WX e
theorem Paired.Kn{α β:Type}{F G:α->β->Prop}:∀{l₁:List α} {l₂:List β},Paired F l₁ l₂->(∀a b,F a b->G a b)->Paired G l₁ l₂
 |_,_,.nil,_=>.nil
 |_,_,.cons r t,f=>.cons (f _ _ r) (Paired.Kn t f)
theorem cA.kO(x:cA P w H h a o)(k:∀b u,(b=a\/H b=some (.own a))->h.get? b=some u->h'.get? b=some u)
  (ho:∀b,H b=some (.own a)->H' b=some (.own a)) (ht:∀b xs,H b=some (.tup xs)->H' b=some (.tup xs)):cA P w H' h' a o:=by
 induction o with
 |lst xs=>obtain⟨z,its,n,r,e⟩:=x;exact⟨z,its,n,r,k _ _ (.inl rfl) e⟩
 |tup xs=>obtain⟨z,its,r,ob,e,c⟩:=x;exact⟨z,its,r,ob,k _ _ (.inl rfl) e,c⟩
 |dK lj=>obtain⟨z,y,vs,r,ob,es,ep,e,c⟩:=x;exact⟨z,y,vs,r,ob,es,ep,k _ _ (.inl rfl) e,c⟩
 |dT lj =>
  obtain⟨z,y,xs,r,ob,es,ep,e,c⟩:=x;exact⟨z,y,xs,Paired.Kn r λp q z=>⟨z.1,ht _ _ z.2.1,z.2.2⟩,ob,es,ep,k _ _ (.inl rfl) e,c⟩
 |set S n=>obtain⟨ob,es,ep,t,e,c⟩:=x;exact⟨ob,es,ep,t,k _ _ (.inl rfl) e,c⟩
 |ins C dx fs =>
  obtain⟨d,z,ne,e,mA,⟨od,es,ep,e2,c⟩,r⟩:=x;exact⟨ho _ d,z,ne,k _ _ (.inl rfl) e,mA,⟨od,es,ep,k _ _ (.inr d) e2,c⟩,r⟩
 |own y=>obtain⟨ob,e⟩:=x;exact⟨ob,k _ _ (.inl rfl) e⟩
 |xd fs=>obtain⟨mA,⟨od,es,ep,e,c⟩,r⟩:=x;exact⟨mA,⟨od,es,ep,k _ _ (.inl rfl) e,c⟩,r⟩
 |kW lo hi=>obtain⟨t,u,v,e⟩:=x;exact⟨t,u,v,k _ _ (.inl rfl) e⟩
 |fu ob u ih=>obtain⟨e,q⟩:=x;exact⟨k _ _ (.inl rfl) e,ih q⟩
 |wt ps=>obtain⟨q,e⟩:=x;exact⟨q,k _ _ (.inl rfl) e⟩
 |met f y =>
  have e:h.get? a=some (PySem.W.methodObj (.ref f) (.ref y)):=x;show h'.get? a=some (PySem.W.methodObj (.ref f) (.ref y));exact k a _ (.inl rfl) e
 |ext φ=>obtain⟨p,⟨o,e⟩,st⟩:=x;exact⟨st _ _ p λo q=>k _ _ (.inl rfl) q,⟨o,k _ _ (.inl rfl) e⟩,st⟩
theorem jB.lt(x:jB P w H h)(e:H a=some o):a<h.objs.size:=(x a o e).lt
theorem jB.fresh(x:jB P w H h)(e:h.objs.size<=a):H a=none:=by
 cases q:H a with
 |none=>rfl
 |some u=>exact absurd (WY (x.lt q) e) (Xh _)
theorem jB.kept(x:jB P w H h)(k:∀b u,h.get? b=some u->h'.get? b=some u):jB P w H h':=λa o e =>
 (x a o e).kO (λb u _ q=>k b u q) (λ_ q=>q) λ_ _ q=>q
theorem jB.laid(x:jB P w H h)(k:∀b u,h.get? b=some u->h'.get? b=some u)(hp:h.objs.size<=a)(new:cA P w (upd H a o) h' a o):jB P w (upd H a o) h':=λb u e=>by
 have hn:=x.fresh hp;by_cases hb:b=a
 ·subst hb;rw[aV]at e;cases e;exact new
 ·rw[aQ hb]at e;exact(x b u e).kO (λc v _ q=>k c v q) (λc q=>by rw[aQ (br q hn)];exact q) λc xs q=>by rw[aQ (br q hn)];exact q
end
def Rd(H:Hp)(a:Addr)(u:HO):Prop:=H a=some u\/∃o,H a=some (.fu o u)
theorem Rd.ok{P:ax}{w:World}{h:Heap}{a:Addr}{u:HO}(r:Rd H a u)(x:jB P w H h):cA P w H h a u:=by
 rcases r with r|⟨o,r⟩
 ·exact x a u r
 ·obtain⟨_,q⟩:=x a _ r;exact q
def NZ:Option HO->Prop
 |some (.lst _)=>True
 |some (.dK _)=>True
 |some (.dT _)=>True
 |some (.set _ _)=>True
 |some (.ins _ _ _)=>True
 |some (.ext _)=>True
 |_=>False
section
variable {P:ax}{w:World}{H:Hp}{h h':Heap}{x e:Addr}{o':HO}
theorem jB.write(ok:jB P w H h)(mu:NZ (H x))(he:e=x\/H e=some (.own x))(k:∀b u,b≠e->h.get? b=some u->h'.get? b=some u)(Iw:∃u,h'.get? e=some u)
  (new:cA P w (upd H x o') h' x o'):jB P w (upd H x o') h':=λb u q=>by
 have Kf:∀c y,H c=some (.own y)->c≠x:=λc y r z=>by subst z;rw[r]at mu;exact mu
 have O7:∀c xs,H c=some (.tup xs)->c≠x:=λc xs r z=>by subst z;rw[r]at mu;exact mu
 by_cases hb:b=x
 ·subst hb;rw[aV]at q;cases q;exact new
 ·rw[aQ hb]at q;by_cases GI:b=e
  ·have q':H b=some (.own x):=by
    rcases he with z|z
    ·exact absurd (GI.trans z) hb
    ·rw[GI];exact z
   rw[q]at q';cases q';obtain⟨v,hv⟩:=Iw;exact⟨v,by rw[GI];exact hv⟩
  ·refine(ok b u q).kO (λc v hc r=>k c v ?_ r) (λc r=>by rw[aQ (Kf c b r)];exact r) λc xs r=>by rw[aQ (O7 c xs r)];exact r
   rcases hc with rfl|hc
   ·exact GI
   ·rintro rfl;rcases he with z|z
    ·exact Kf c b hc z
    ·rw[hc]at z;cases z;exact hb rfl
end
noncomputable def df:Addr:=129
noncomputable def eT:Pos:=⟨70,42,0,0⟩
noncomputable def zG:Str:="greatest_lot.<locals>.<lambda>"
noncomputable def Ap(ps:aC):Obj:={ cls:=.none,data:=.fields ps }
structure fZ(p:aC)(H:Hp)(h:Heap):Prop where
 sS:H df=some (.wt p)
 tab:∃more:aC,h.get? df=some (Ap (p++more))/\TriplesOk (p++more).toList/\∀cv,codeAmong eT (p++more).toList=some cv->∃c oc u vs t,cv=.ref c/\H c=some (.fu oc u)/\oc.data=.fields vs/\vs[1]?=some (.str zG t)
theorem fZ.at{p:aC}{h:Heap}(x:fZ p H h):∃o,h.get? df=some o:=let ⟨_,a,_⟩:=x.tab;⟨_,a⟩
theorem fZ.keep{p:aC}{H':Hp}{h h':Heap}(x:fZ p H h)(ht:H df=some (.wt p)->H' df=some (.wt p))(hk:∀o,H df=some (.wt p)->h.get? df=some o->h'.get? df=some o)(hf:∀b o u,H b=some (.fu o u)->H' b=some (.fu o u)):fZ p H' h' :=
 ⟨ht x.sS,let ⟨m,a,b,c⟩:=x.tab;⟨m,hk _ x.sS a,b,λcv e=>let ⟨c1,oc,u,vs,t,e1,e2,e3⟩:=c cv e;⟨c1,oc,u,vs,t,e1,hf _ _ _ e2,e3⟩⟩⟩
structure Un(fs ex:aO)(H H':Hp)(h h':Heap):Prop where
 keep:∀b o,h.get? b=some o->H b=none->b∉fs->b∉ex->h'.get? b=some o
 slot:∀b o,h.get? b=some o->H b=none->b∈fs->b∉ex->∃sl,h'.get? b=some { o with slots:=sl }
 free:∀b o,h.get? b=some o->H b=none->b∉ex->H' b=none
 there:∀b o,h.get? b=some o->b∉ex->∃o',h'.get? b=some o'
 nB:∀b xs,H b=some (.tup xs)->H' b=some (.tup xs)
 mr:∀b o u,H b=some (.fu o u)->H' b=some (.fu o u)
 kN:∀p,fZ p H h->fZ p H' h'
section
variable {fs VD ex L1:aO}{H H1 H2:Hp}{h h1 h2 h':Heap}{a x e:Addr}{o:HO}
theorem Un.any(u:Un fs ex H H1 h h1){b:Addr}{ob:Obj}(q:h.get? b=some ob)(n:H b=none)(hx:b∉ex):∃sl,h1.get? b=some { ob with slots:=sl }:=by
 by_cases hb:b∈fs
 ·exact u.slot b ob q n hb hx
 ·exact⟨ob.slots,u.keep b ob q n hb hx⟩
theorem Un.kept(k:∀b u,h.get? b=some u->h'.get? b=some u):Un fs ex H H h h' :=
 ⟨λb ob q _ _ _=>k b ob q,λb ob q _ _ _=>⟨ob.slots,k b ob q⟩,λ_ _ _ n _=>n,λb ob q _=>⟨ob,k b ob q⟩,λ_ _ q=>q,λ_ _ _ q=>q,λ_ z=>z.keep (λq=>q) (λo _ q=>k _ _ q) λ_ _ _ q=>q⟩
theorem Un.refl:Un fs ex H H h h:=Un.kept λ_ _ q=>q
theorem Un.laid(k:∀b u,h.get? b=some u->h'.get? b=some u)(hp:h.objs.size<=a)(hn:H a=none):Un fs ex H (upd H a o) h h' where
 keep:=λb u q _ _ _=>k b u q
 slot:=λb u q _ _ _=>⟨u.slots,k b u q⟩
 free:=λb u q n _=>by rw[aQ (Nat.ne_of_lt (Nat.lt_of_lt_of_le (Heap.lt_size q) hp))];exact n
 there:=λb u q _=>⟨u,k b u q⟩
 nB:=λb xs q=>by rw[aQ (br q hn)];exact q
 mr:=λb u xs q=>by rw[aQ (br q hn)];exact q
 kN:=λ_ z=>z.keep (λq=>by rw[aQ (br q hn)];exact q) (λo _ q=>k _ _ q) λb u xs q=>by rw[aQ (br q hn)];exact q
theorem Un.write(mu:NZ (H x))(he:e=x\/H e=some (.own x))(k:∀b u,b≠e->h.get? b=some u->h'.get? b=some u)(Iw:∃u,h'.get? e=some u):Un fs ex H (upd H x o) h h':=by
 have hx:∀b,H b=none->b≠x:=λb n z=>by subst z;rw[n]at mu;exact mu
 have hb:∀b,H b=none->b≠e:=λb n z=>by
  subst z;rcases he with r|r
  ·exact hx b n r
  ·rw[n]at r;cases r
 have hm:∀b u,H b=some u->¬ NZ (some u)->b≠x:=λb u q nm z=>by subst z;rw[q]at mu;exact nm mu
 refine⟨λb u q n _ _=>k b u (hb b n) q,λb u q n _ _=>⟨u.slots,k b u (hb b n) q⟩,λb u q n _=>by rw[aQ (hx b n)];exact n,λb u q _=>?_,
  λb xs q=>by rw[aQ (hm b _ q λz=>z)];exact q,λb u xs q=>by rw[aQ (hm b _ q λz=>z)];exact q,λ_ z=>z.keep (λq=>by rw[aQ (hm _ _ q λz=>z)];exact q) (λo tq q=>k _ _ (λze=>by
   rcases he with r|r
   ·exact hm _ _ tq (λz=>z) (ze.trans r)
   ·rw[<- ze,tq]at r;cases r) q) λb u xs q=>by rw[aQ (hm b _ q λz=>z)];exact q⟩
 by_cases GI:b=e
 ·subst GI;exact Iw
 ·exact⟨u,k b u GI q⟩
end
noncomputable def sS(h:Heap)(H:Hp):aO:=(List.range h.objs.size).filter λa=>(H a).isSome
def mn(h:Heap)(H:Hp):Heap:=PySem.W.hideAll h (sS h H)
theorem vM(h:Heap)(H:Hp):(mn h H).objs.size=h.objs.size:=PySem.W.hideAll_size _ _
variable {o:Obj}
theorem yL{h:Heap}{b:Addr}(e:h.get? b=some o)(n:H b=none):(mn h H).get? b=some o :=
 PySem.W.hideAll_get _ e λhm=>by
  have q:(H b).isSome=true:=(List.mem_filter.mp hm).2;rw[n]at q;simp at q
theorem A_{h:Heap}{b:Addr}(e:(mn h H).get? b=some o):h.get? b=some o/\H b=none:=by
 have e':h.get? b=some o:=PySem.W.of_hideAll (sS h H) e;refine⟨e',?_⟩;cases q:H b with
 |none=>rfl
 |some x =>
  have hm:b∈sS h H:=List.mem_filter.mpr ⟨List.mem_range.mpr (WX e'),by simp[q]⟩;have z:(mn h H).get? b=none:=PySem.W.hideAll_none (sS h H) hm;rw[z]at e;cases e
noncomputable def Cv(g h:Heap)(L:Addr):ak:=(List.range h.objs.size).filterMap λa=>if a=L\/(g.get? a).isSome=true then none else(h.get? a).map λo=>(a,o)
def rest(g h:Heap)(L d:Addr):ak:=(Cv g h L).filter λp=>decide (p.1≠d)
end L2
namespace L2
open PySem PySem.Spec PyProof.Rows
structure Mod(K:ao)(mg:aN)(base:Heap):Prop where
 Ph:K.In base
 glob:base.Ns mainGlobals mg
 blt:∃mb,base.Ns builtinsNs mb/\∀x:Str,x ≠ "__name__" -> mb x=bootBuiltins x
 nolimit:base.NoLimit
structure Cx where
 prog:ax
 w:World
 K:ao
 mg:aN
 base:Heap
 A:ay
 N:av
 s₀:Shared
 H₀:Hp
 env:Env
 outer:List Env
 stack:List Env
 ex:aO
 fn:Str->Bool
 calm:Bool
 pn:ak
 xe:aw
noncomputable def wC(l:List Env):aO:=l.filterMap (·.frame)
abbrev Cx.fs(X:Cx):aO:=wC X.outer
def DS(sc:Scope)(x:Str):Prop:=sc.names.lookup x=some .local\/sc.names.lookup x=some .cell\/sc.names.lookup x=some .free
def Loc(sc:Scope)(x:Str):Prop:=sc.names.lookup x=some .local\/sc.names.lookup x=some .cell
def Look(env:Env)(h:Heap)(m:aN)(x:Str)(u:Value):Prop :=
 (env.kindOf x=some .local/\m x=some u)\/((env.kindOf x=some .cell\/env.kindOf x=some .free)/\∃c,env.cells.lookup x=some c/\h.IsCell c (some u))
structure Cx.Ok(X:Cx):Prop where
 mod:Mod X.K X.mg X.base
 kind:X.env.scope.kind=.function
 glob:X.env.globals=mainGlobals
 blt:X.env.builtins=builtinsNs
 above:X.s₀.heap.objs.size<=X.env.locals
 inj:∀x y c,X.env.cells.lookup x=some c->X.env.cells.lookup y=some c->x=y
 has:∀x,(X.env.kindOf x=some .cell\/X.env.kindOf x=some .free)->∃c,X.env.cells.lookup x=some c
 Mm:∀x c,X.fn x=true->X.env.cells.lookup x=some c->X.s₀.heap.objs.size<=c
 hd:X.calm=true->X.A.handled=none
 frames:X.A.frames=some X.stack
 MN:X.stack=X.outer\/(X.stack=X.env::X.outer/\X.env.frame=some X.env.locals)
 SY:∀b∈X.ex,b≠X.env.locals/\∀x c,X.env.cells.lookup x=some c->c≠b
 bs:∀b o,X.base.get? b=some o->X.s₀.heap.get? b=some o/\X.H₀ b=none
 DL:X.base.objs.size<=X.s₀.heap.objs.size
 x9:∀b o,X.base.get? b=some o->b∉X.ex
 BU:∀b∈X.ex,b∉X.fs
 j0:X.s₀.heap.FunFrames X.base X.outer
 IB:∀b∈X.fs,X.H₀ b=none
 tab:∃p,fZ p X.H₀ X.s₀.heap
structure Inv(X:Cx)(pins:ak)(σ:List (Option V))(H:Hp)(s:Shared):Prop where
 ok:X.Ok
 os:s.os=X.s₀.os
 bare:AllBare s.gens
 base:Un X.fs X.ex X.H₀ H X.s₀.heap s.heap
 loc:∃m,s.heap.Ns X.env.locals m/\∀(i:Nat) (x:Str) (v:V),X.N[i]?=some x->σ[i]?=some (some v)->DS X.env.scope x->∃u,RelV v u/\Look X.env s.heap m x u
 cell:∀x c,X.env.cells.lookup x=some c->∃v,s.heap.IsCell c v
 free:H X.env.locals=none
 gp:∀x c,X.env.cells.lookup x=some c->H c=none
 pin:∀p∈X.pn++pins,s.heap.get? p.1=some p.2/\H p.1=none/\p.1≠X.env.locals/\p.1∉X.fs/\∀v,p.2.data≠.cell v
 ck:jB X.prog X.w H s.heap
 len:σ.length=X.N.length
variable {A:ay}{E:Value->Shared->Prop}{Q:Unit->Shared->Prop}{ch:aO}{t':Nat}
section
variable {X:Cx}{pins:ak}{σ:List (Option V)}{H H':Hp}{s:Shared}{h':Heap}
theorem Cx.Ok.O9(ok:X.Ok){b:Addr}{o:Obj}(e:X.base.get? b=some o):b∉X.fs:=λhb=>by
 have:=(ok.j0.mem hb).1;rw[e]at this;cases this
theorem Inv.bs(I:Inv X pins σ H s):∀b o,X.base.get? b=some o->s.heap.get? b=some o/\H b=none:=λb o e =>
 ⟨I.base.keep b o (I.ok.bs b o e).1 (I.ok.bs b o e).2 (I.ok.O9 e) (I.ok.x9 b o e),I.base.free b o (I.ok.bs b o e).1 (I.ok.bs b o e).2 (I.ok.x9 b o e)⟩
theorem Inv.bk(I:Inv X pins σ H s):∀b o,X.base.get? b=some o->s.heap.get? b=some o:=λb o e=>(I.bs b o e).1
theorem Inv.mod(I:Inv X pins σ H s):Mod X.K X.mg X.base:=I.ok.mod
theorem Inv.wu(I:Inv X pins σ H s):X.K.In s.heap:=I.ok.mod.Ph.keeps I.bk
theorem Inv.lt(I:Inv X pins σ H s):X.env.locals<s.heap.objs.size:=let ⟨_,hn,_⟩:=I.loc;hn.lt
theorem Inv.sz(I:Inv X pins σ H s):X.s₀.heap.objs.size<=s.heap.objs.size:=Xb I.ok.above (Yj I.lt)
theorem Inv.FN(I:Inv X pins σ H s){a:Addr}(h:s.heap.objs.size<=a):a∉X.fs:=λhb=>by
 obtain⟨_,o,ho,_⟩:=I.ok.j0.mem hb;exact absurd (WY (WX ho) (Xb I.sz h)) (Xh _)
theorem Inv.HC(I:Inv X pins σ H s):∀x c,X.env.cells.lookup x=some c->c≠X.env.locals:=λx c e z=>by
 obtain⟨v,o,ho,hd⟩:=I.cell x c e;obtain⟨m,⟨o',es,ep,eZ,GG,_⟩,_⟩:=I.loc;rw[z,eZ]at ho;cases ho;rw[GG]at hd;cases hd
theorem Inv.j0(I:Inv X pins σ H s):s.heap.FunFrames X.base X.outer:=by
 have all:∀(l:List Env),(∀b∈wC l,b∈X.fs)->X.s₀.heap.FunFrames X.base l->s.heap.FunFrames X.base l:=by
  intro l;induction l with
  |nil=>intro _ _;trivial
  |cons env r ih =>
   intro hs hl;obtain⟨hk,⟨L,o,hf,hn,ho,hd⟩,hr⟩:=hl;have hL:L∈X.fs:=hs L (by unfold wC;rw[List.filterMap_cons,hf];exact WR);obtain⟨sl,e⟩:=I.base.slot L o ho (I.ok.IB L hL) hL λz=>I.ok.BU L z hL;exact⟨hk,⟨L,_,hf,hn,e,hd⟩,ih (λb hb=>hs b (by unfold wC;rw[List.filterMap_cons,hf];exact WT _ hb)) hr⟩
 exact all X.outer (λ_ hb=>hb) I.ok.j0
theorem Inv.stack(I:Inv X pins σ H s):s.heap.FunFrames X.base X.stack:=by
 rcases I.ok.MN with e|⟨e,hf⟩
 ·rw[e];exact I.j0
 ·rw[e];obtain⟨m,hn,_⟩:=I.loc;refine .cons (by rw[I.ok.kind];decide) hf hn ?_ I.j0;exact Heap.get?_none_of_le (Xb I.ok.DL I.ok.above)
theorem Inv.jg(I:Inv X pins σ H s):∀b∈wC X.stack,b∈X.env.locals::X.fs:=λb hb=>by
 rcases I.ok.MN with e|⟨e,hf⟩
 ·rw[e]at hb;exact WT _ hb
 ·rw[e]at hb;unfold wC at hb;rw[List.filterMap_cons,hf]at hb;exact hb
theorem Inv.tj(I:Inv X pins σ H s):∀b∈wC X.stack,H b=none:=λb hb=>by
 rcases List.mem_cons.mp (I.jg b hb)with e|hb
 ·rw[e];exact I.free
 ·obtain⟨_,o,ho,_⟩:=I.ok.j0.mem hb;exact I.base.free b o ho (I.ok.IB b hb) λz=>I.ok.BU b z hb
theorem Inv.step{g':Array GenState}{d':Drawn}(I:Inv X pins σ H s)
  (zU:∀b∈ch,(b∈X.ex\/X.s₀.heap.objs.size<=b)/\b≠X.env.locals/\(∀x c,X.env.cells.lookup x=some c->c≠b)/\∀p∈X.pn++pins,p.1≠b)
  (keep:∀b o,b≠X.env.locals->b∉X.fs->b∉ch->s.heap.get? b=some o->H b=none->h'.get? b=some o)
  (slot:∀b o,b≠X.env.locals->b∈X.fs->b∉ch->s.heap.get? b=some o->H b=none->∃sl,h'.get? b=some { o with slots:=sl }) (free:∀b o,b∉ch->s.heap.get? b=some o->H b=none->H' b=none)
  (there:∀b o,b∉ch->s.heap.get? b=some o->∃o',h'.get? b=some o')
  (nB:∀b xs,H b=some (.tup xs)->H' b=some (.tup xs)) (mr:∀b o u,H b=some (.fu o u)->H' b=some (.fu o u)) (kN:∀p,fZ p H s.heap->fZ p H' h')
  (ns:∀m,s.heap.Ns X.env.locals m->h'.Ns X.env.locals m) (ck:jB X.prog X.w H' h') (hg:AllBare g') :
  Inv X pins σ H' { s with heap:=h',gens:=g',drawn:=d',toks:=t' }:=by
 have RS:∀b o,X.s₀.heap.get? b=some o->b≠X.env.locals:=λb o e=>W2 (WY (WX e) I.ok.above);have Bg:∀b o,X.s₀.heap.get? b=some o->b∉X.ex->b∉ch:=λb o e hx hb=>by
  rcases(zU b hb).1 with z|z
  ·exact hx z
  ·exact absurd (WY (WX e) z) (Xh _)
 have cellK:∀x c,X.env.cells.lookup x=some c->∀v,s.heap.IsCell c v->h'.IsCell c v:=λx c e v bJ=>by
  obtain⟨o,ho,hd⟩:=bJ;have Kj:c∉ch:=λz=>(zU c z).2.2.1 x c e rfl;by_cases hc:c∈X.fs
  ·obtain⟨sl,q⟩:=slot c o (I.HC x c e) hc Kj ho (I.gp x c e);exact⟨_,q,hd⟩
  ·exact⟨o,keep c o (I.HC x c e) hc Kj ho (I.gp x c e),hd⟩
 refine⟨I.ok,I.os,hg,⟨λb o e n hb hx=>?_,λb o e n hb hx=>?_,λb o e n hx=>?_,λb o e hx=>?_,λb xs e=>nB b xs (I.base.nB b xs e),λb o xs e=>mr b o xs (I.base.mr b o xs e),λp z=>kN p (I.base.kN p z)⟩,?_,λx c e=>?_,?_,λx c e=>?_,λp hp=>?_,ck,I.len⟩
 ·exact keep b o (RS b o e) hb (Bg b o e hx) (I.base.keep b o e n hb hx) (I.base.free b o e n hx)
 ·obtain⟨sl,e1⟩:=I.base.slot b o e n hb hx;obtain⟨Ud,e2⟩:=slot b _ (RS b o e) hb (Bg b o e hx) e1 (I.base.free b o e n hx);exact⟨Ud,e2⟩
 ·obtain⟨o',e1⟩:=I.base.there b o e hx;exact free b o' (Bg b o e hx) e1 (I.base.free b o e n hx)
 ·obtain⟨o',e1⟩:=I.base.there b o e hx;exact there b o' (Bg b o e hx) e1
 ·obtain⟨m,hn,hl⟩:=I.loc;refine⟨m,ns m hn,λi x v e1 e2 e3=>?_⟩;obtain⟨u,r,l⟩:=hl i x v e1 e2 e3;refine⟨u,r,?_⟩;rcases l with l|⟨k,c,e,z⟩
  ·exact .inl l
  ·exact .inr ⟨k,c,e,cellK x c e _ z⟩
 ·obtain⟨v,z⟩:=I.cell x c e;exact⟨v,cellK x c e v z⟩
 ·obtain⟨m,⟨o,_,_,ho,_⟩,_⟩:=I.loc;exact free _ o (λz=>(zU _ z).2.1 rfl) ho I.free
 ·obtain⟨v,o,ho,hd⟩:=I.cell x c e;exact free c o (λz=>(zU c z).2.2.1 x c e rfl) ho (I.gp x c e)
 ·obtain⟨e,n,ne,nf,d⟩:=I.pin p hp;have Kj:p.1∉ch:=λz=>(zU p.1 z).2.2.2 p hp rfl;exact⟨keep p.1 p.2 ne nf Kj e n,free p.1 p.2 Kj e n,ne,nf,d⟩
theorem Inv.un(I:Inv X pins σ H s)(u:Un X.fs [] H H' s.heap h')(ck:jB X.prog X.w H' h'):Inv X pins σ H' { s with heap:=h',toks:=t' }:=by
 obtain⟨m,⟨o,es,ep,ho,r⟩,_⟩:=id I.loc;obtain⟨sl,hL⟩:=u.any ho I.free (by simp);exact I.step (g':=s.gens) (d':=s.drawn) (ch:=[]) (λ_ z=>nomatch z) (λb o _ hb _ e n=>u.keep b o e n hb (by simp)) (λb o _ hb _ e n=>u.slot b o e n hb (by simp)) (λb o _ e n=>u.free b o e n (by simp)) (λb o _ e=>u.there b o e (by simp)) u.nB u.mr u.kN (λm' hm=>by
  obtain⟨o',L4,qR,eZ,r'⟩:=hm;rw[ho]at eZ;cases eZ;exact⟨_,L4,qR,hL,r'⟩) ck I.bare
theorem Inv.call{g':Array GenState}{d':Drawn}(I:Inv X pins σ H s)(u:Un (wC X.stack) ch H H' s.heap h')(ck:jB X.prog X.w H' h')(hg:AllBare g')
  (zU:∀b∈ch,(b∈X.ex\/X.s₀.heap.objs.size<=b)/\b≠X.env.locals/\(∀x c,X.env.cells.lookup x=some c->c≠b)/\∀p∈X.pn++pins,p.1≠b) :
  Inv X pins σ H' { s with heap:=h',gens:=g',drawn:=d',toks:=t' }:=by
 obtain⟨m,⟨o,es,ep,ho,r⟩,_⟩:=id I.loc;obtain⟨sl,hL⟩:=u.any ho I.free λz=>(zU _ z).2.1 rfl;exact I.step (ch:=ch) zU (λb o hL hb hc e n=>u.keep b o e n (λz=>(List.mem_cons.mp (I.jg b z)).elim hL hb) hc) (λb o _ _ hc e n=>u.any e n hc) (λb o hc e n=>u.free b o e n hc) (λb o hc e=>u.there b o e hc) u.nB u.mr u.kN (λm' hm=>by
  obtain⟨o',L4,qR,eZ,r'⟩:=hm;rw[ho]at eZ;cases eZ;exact⟨_,L4,qR,hL,r'⟩) ck hg
theorem Inv.turned{it:Addr}(I:Inv X pins σ H s)(k:∀b o,b≠it->s.heap.get? b=some o->h'.get? b=some o)(hn:H it=none)(hL:it≠X.env.locals)
  (h1:it∈X.ex\/X.s₀.heap.objs.size<=it) (h2:∀x c,X.env.cells.lookup x=some c->c≠it) (h3:∀p∈X.pn++pins,p.1≠it):Inv X pins σ H { s with heap:=h',toks:=t' }:=by
 have yb:∀b u,H b=some u->b≠it:=λb u e z=>by rw[z,hn]at e;cases e
 refine I.step (g':=s.gens) (d':=s.drawn) (ch:=[it]) (λb hb=>?_) (λb o _ _ hc e _=>k b o (λz=>hc (by simp[z])) e) (λb o _ _ hc e _=>⟨o.slots,k b o (λz=>hc (by simp[z])) e⟩) (λ_ _ _ _ n=>n)
  (λb o hc e=>⟨o,k b o (λz=>hc (by simp[z])) e⟩) (λ_ _ e=>e) (λ_ _ _ e=>e) (λ_ z=>z.keep (λq=>q) (λo tq q=>k _ _ (yb _ _ tq) q) λ_ _ _ q=>q) (λm hm=>?_) (λb u e=>?_) I.bare
 ·have e:b=it:=by simpa using hb
  subst e;exact⟨h1,hL,h2,h3⟩
 ·obtain⟨o,es,ep,ho,r⟩:=hm;exact⟨o,es,ep,k _ o (YH hL) ho,r⟩
 ·refine(I.ck b u e).kO (λc v hc q=>k c v ?_ q) (λ_ q=>q) λ_ _ q=>q;rcases hc with z|z
  ·rw[z];exact yb b u e
  ·exact yb c _ z
theorem Inv.tok(I:Inv X pins σ H s)(t:Nat):Inv X pins σ H { s with toks:=t }:=I.un (h':=s.heap) (t':=t) Un.refl I.ck
theorem Inv.kept{t':Nat}(I:Inv X pins σ H s)(k:∀b u,s.heap.get? b=some u->h'.get? b=some u):Inv X pins σ H { s with heap:=h',toks:=t' }:=I.un (Un.kept k) (I.ck.kept k)
theorem Inv.laid{a:Addr}{o:HO}{t':Nat}(I:Inv X pins σ H s)(k:∀b u,s.heap.get? b=some u->h'.get? b=some u)(hp:s.heap.objs.size<=a)(new:cA X.prog X.w (upd H a o) h' a o):
  Inv X pins σ (upd H a o) { s with heap:=h',toks:=t' }:=I.un (Un.laid k hp (I.ck.fresh hp)) (I.ck.laid k hp new)
theorem Inv.write{x e:Addr}{o:HO}{t':Nat}(I:Inv X pins σ H s)(mu:NZ (H x))(he:e=x\/H e=some (.own x))(k:∀b u,b≠e->s.heap.get? b=some u->h'.get? b=some u)(Iw:∃u,h'.get? e=some u)
  (new:cA X.prog X.w (upd H x o) h' x o):Inv X pins σ (upd H x o) { s with heap:=h',toks:=t' }:=I.un (Un.write mu he k Iw) (I.ck.write mu he k Iw new)
theorem Inv.gG{Di:ak}(I:Inv X pins σ H s)(h:∀p∈Di,s.heap.get? p.1=some p.2/\H p.1=none/\p.1≠X.env.locals/\p.1∉X.fs/\∀v,p.2.data≠.cell v):Inv X Di σ H s :=
 ⟨I.ok,I.os,I.bare,I.base,I.loc,I.cell,I.free,I.gp,λp hp=>(List.mem_append.mp hp).elim (λz=>I.pin p (W0 _ z)) (h p),I.ck,I.len⟩
theorem pZ{N:av}(hN:N.Nodup){i j:Nat}{x:Str}(a:N[i]?=some x)(b:N[j]?=some x):i=j:=by
 obtain⟨h1,e1⟩:=List.getElem?_eq_some_iff.mp a;obtain⟨h2,e2⟩:=List.getElem?_eq_some_iff.mp b;exact(YI hN).mp (e1.trans e2.symm)
theorem vg{M:Model}{i:Nat}{x:Str}{v:V}{u:Value}(I:Inv X pins σ H s)(hN:X.N.Nodup)(hi:X.N[i]?=some x)(hx:Loc X.env.scope x)(r:RelV v u)
  (h:∀s',Inv X pins (σ.set i (some v)) H s'->(∃a,Heap.SameBut a s.heap s'.heap/\(a=X.env.locals\/X.env.cells.lookup x=some a))->Q () s') (hf:X.fn x=true\/X.env.scope.names.lookup x=some .local:=by first|exact .inl rfl|exact .inr rfl|assumption):wpAny M A (storeName X.env x u) Q E s:=by
 obtain⟨m,hn,hl⟩:=id I.loc;have Qn:(X.env.scope.kind==.class||(X.env.scope.kind==.module&&X.env.locals != X.env.globals))=false:=by rw[I.ok.kind];rfl
 have Lm:i<σ.length:=by rw[I.len];exact(List.getElem?_eq_some_iff.mp hi).1
 have HC:=I.HC;have tracked:∀{a:Addr} {h':Heap},(∃o,s.heap.get? a=some o/\H a=none)->Heap.SameBut a s.heap h'->jB X.prog X.w H h':=λ{a h'} ha hs b ob e=>by
  obtain⟨_,_,Dz⟩:=ha;refine(I.ck b ob e).kO (λc w' hc q=>(hs.2 c ?_).trans q) (λ_ q=>q) λ_ _ q=>q;rintro rfl;rcases hc with rfl|hc
  ·rw[Dz]at e;cases e
  ·rw[Dz]at hc;cases hc
 rcases hx with hk|hk
 ·refine wpAny_storeName_local hk hn (λh' zS hs=>?_) Qn;obtain⟨oL,_,_,Dw,_⟩:=id hn;refine h _ ⟨I.ok,I.os,I.bare,⟨λb o e n hb hx=>?_,λb o e n hb hx=>?_,I.base.free,λb o e hx=>?_,I.base.nB,I.base.mr,λp z=>(I.base.kN p z).keep (λq=>q) (λo tq q=>(hs.2 _ (λz2=>by rw[z2,I.free]at tq;cases tq)).trans q) λ_ _ _ q=>q⟩,⟨_,zS,λj y v' e1 e2 e3=>?_⟩,λy c e=>?_,I.free,I.gp,λp hp=>?_,tracked ⟨oL,Dw,I.free⟩ hs,by simpa using I.len⟩ ⟨_,hs,.inl rfl⟩
  ·exact(hs.2 b (W2 (WY (WX e) I.ok.above))).trans (I.base.keep b o e n hb hx)
  ·obtain⟨sl,e1⟩:=I.base.slot b o e n hb hx;exact⟨sl,(hs.2 b (W2 (WY (WX e) I.ok.above))).trans e1⟩
  ·obtain⟨o',e1⟩:=I.base.there b o e hx;exact⟨o',(hs.2 b (W2 (WY (WX e) I.ok.above))).trans e1⟩
  ·by_cases hj:j=i
   ·subst hj;rw[hi]at e1;cases e1;rw[List.getElem?_set_self Lm]at e2;cases e2;exact⟨u,r,.inl ⟨hk,by simp⟩⟩
   ·rw[List.getElem?_set_ne (Ne.symm hj)]at e2;obtain⟨u',r',q⟩:=hl j y v' e1 e2 e3;refine⟨u',r',?_⟩;rcases q with ⟨k,e⟩|⟨k,c,e,z⟩
    ·refine .inl ⟨k,?_⟩;have:y≠x:=λe=>hj (pZ hN e1 (e▸hi));simp[this,e]
    ·exact .inr ⟨k,c,e,z.sameBut hs (HC y c e)⟩
  ·obtain⟨w',z⟩:=I.cell y c e;exact⟨w',z.sameBut hs (HC y c e)⟩
  ·obtain⟨e,n,ne,nf,d⟩:=I.pin p hp;exact⟨(hs.2 p.1 ne).trans e,n,ne,nf,d⟩
 ·have r6:X.fn x=true:=by
   rcases hf with z|z
   ·exact z
   ·rw[z]at hk;cases hk
  obtain⟨c,hc⟩:=I.ok.has x (.inl hk);obtain⟨w',z⟩:=I.cell x c hc;refine wpAny_storeName_cell I.ok.kind hk hc z (λh' um hs=>?_);obtain⟨oc,Lb,P9⟩:=id z;refine h { s with heap:=h' } ⟨I.ok,I.os,I.bare,⟨λb o e n hb hx=>?_,λb o e n hb hx=>?_,I.base.free,λb o e hx=>?_,I.base.nB,I.base.mr,λp z=>(I.base.kN p z).keep (λq=>q) (λo tq q=>(hs.2 _ (λz2=>by rw[z2,I.gp x c hc]at tq;cases tq)).trans q) λ_ _ _ q=>q⟩,⟨m,hn.sameBut hs (YH (HC x c hc)),λj y v' e1 e2 e3=>?_⟩,λy c' e=>?_,I.free,I.gp,λp hp=>?_,tracked ⟨oc,Lb,I.gp x c hc⟩ hs,by simpa using I.len⟩ ⟨c,hs,.inr hc⟩
  ·exact(hs.2 b (W2 (WY (WX e) (I.ok.Mm x c r6 hc)))).trans (I.base.keep b o e n hb hx)
  ·obtain⟨sl,e1⟩:=I.base.slot b o e n hb hx;exact⟨sl,(hs.2 b (W2 (WY (WX e) (I.ok.Mm x c r6 hc)))).trans e1⟩
  ·obtain⟨o',e1⟩:=I.base.there b o e hx;exact⟨o',(hs.2 b (W2 (WY (WX e) (I.ok.Mm x c r6 hc)))).trans e1⟩
  ·by_cases hj:j=i
   ·subst hj;rw[hi]at e1;cases e1;rw[List.getElem?_set_self Lm]at e2;cases e2;exact⟨u,r,.inr ⟨.inl hk,c,hc,um⟩⟩
   ·rw[List.getElem?_set_ne (Ne.symm hj)]at e2;obtain⟨u',r',q⟩:=hl j y v' e1 e2 e3;refine⟨u',r',?_⟩;rcases q with q|⟨k,c',e,z'⟩
    ·exact .inl q
    ·refine .inr ⟨k,c',e,z'.sameBut hs ?_⟩;rintro rfl;exact hj (pZ hN e1 (I.ok.inj _ _ _ e hc▸hi))
  ·by_cases Nx:c'=c
   ·subst Nx;exact⟨_,um⟩
   ·obtain⟨w2,z2⟩:=I.cell y c' e;exact⟨w2,z2.sameBut hs Nx⟩
  ·obtain⟨e,n,ne,nf,d⟩:=I.pin p hp;refine⟨(hs.2 p.1 ?_).trans e,n,ne,nf,d⟩;intro q;rw[q,Lb]at e;have q':oc=p.2:=W4 e;exact d w' (by rw[<- q'];exact P9)
theorem iO{M:Model}{i:Nat}{x:Str}{v:V}{u:Value}(I:Inv X pins σ H s)(hN:X.N.Nodup)(hi:X.N[i]?=some x)(hx:Loc X.env.scope x)(r:RelV v u)
  (h:∀s',Inv X pins (σ.set i (some v)) H s'->Q () s') (hf:X.fn x=true\/X.env.scope.names.lookup x=some .local:=by first|exact .inl rfl|exact .inr rfl|assumption):wpAny M A (storeName X.env x u) Q E s :=
 vg I hN hi hx r (λs' I' _=>h s' I') hf
theorem Inv.Ml{s':Shared}(I:Inv X pins σ H s)(ho:s'.os=s.os)(u:Un (wC X.stack) ch H H' s.heap s'.heap)(ck:jB X.prog X.w H' s'.heap)(hg:AllBare s'.gens)
  (zU:∀b∈ch,(b∈X.ex\/X.s₀.heap.objs.size<=b)/\b≠X.env.locals/\(∀x c,X.env.cells.lookup x=some c->c≠b)/\∀p∈X.pn++pins,p.1≠b):Inv X pins σ H' s':=by
 obtain⟨h',g',d',t',o'⟩:=s';have e:o'=s.os:=ho;subst e;exact I.call (g':=g') (t':=t') (d':=d') u ck hg zU
end
abbrev XK:=Value->Option Addr->Hp->Prop
abbrev St:=List (Option V)
abbrev VK:=V->Hp->Prop
abbrev TE:=St->Hp->VK->Prop
abbrev TT:=St->Hp->(Bool->Hp->Prop)->Prop
abbrev TA:=St->Hp->(ae->Hp->Prop)->Prop
structure Ends where
 nx:St->Hp->Prop
 rt:VK
 bk:St->Hp->Prop:=λ_ _=>False
 ct:St->Hp->Prop:=λ_ _=>False
abbrev TS:=Ends->St->Hp->Prop
def EP(X:Cx)(pins:ak)(σ:St)(Q:VK)(u:Value)(s':Shared):Prop:=∃v H',Inv X pins σ H' s'/\RelV v u/\Q v H'
def TP(X:Cx)(pins:ak)(σ:St)(Q:Bool->Hp->Prop)(b:Bool)(s':Shared):Prop:=∃H',Inv X pins σ H' s'/\Q b H'
def AP(X:Cx)(pins:ak)(σ:St)(Q:ae->Hp->Prop)(us:ag)(s':Shared):Prop:=∃vs H',Inv X pins σ H' s'/\Vals vs us/\Q vs H'
def SP(X:Cx)(pins:ak)(D:Ends)(f:Flow)(s':Shared):Prop :=
 match f with
 |.next=>∃σ' H',Inv X pins σ' H' s'/\D.nx σ' H'
 |.brk=>∃σ' H',Inv X pins σ' H' s'/\D.bk σ' H'
 |.cont=>∃σ' H',Inv X pins σ' H' s'/\D.ct σ' H'
 |.ret u=>∃v σ' H',Inv X pins σ' H' s'/\RelV v u/\D.rt v H'
def PE(X:Cx)(e:Expr)(t:TE):Prop :=
 ∀(pins:ak) (s:Shared) (σ:St) (H:Hp) (Q:VK),Inv X pins σ H s->t σ H Q->wpAny (model X.prog X.w) X.A (eval e X.env) (EP X pins σ Q) X.xe s
def PT(X:Cx)(e:Expr)(t:TT):Prop :=
 ∀(pins:ak) (s:Shared) (σ:St) (H:Hp) (Q:Bool->Hp->Prop),Inv X pins σ H s->t σ H Q->wpAny (model X.prog X.w) X.A (isTrue e X.env (eval e X.env)) (TP X pins σ Q) X.xe s
def PW(X:Cx)(e:Expr)(t:TT):Prop :=
 ∀(whole:Sem Value) (pins:ak) (s:Shared) (σ:St) (H:Hp) (Q:Bool->Hp->Prop),Inv X pins σ H s->t σ H Q->wpAny (model X.prog X.w) X.A (isTrue e X.env whole) (TP X pins σ Q) X.xe s
theorem PW.pt{X:Cx}{e:Expr}{t:TT}(h:PW X e t):PT X e t:=h _
def PA(X:Cx)(es:au)(t:TA):Prop :=
 ∀(pos:Pos) (pins:ak) (s:Shared) (σ:St) (H:Hp) (Q:ae->Hp->Prop),Inv X pins σ H s->t σ H Q->wpAny (model X.prog X.w) X.A (spliced (backTo pos (starEach es X.env))) (AP X pins σ Q) X.xe s
def PS(X:Cx)(st:Stmt)(t:TS):Prop :=
 ∀(pins:ak) (s:Shared) (σ:St) (H:Hp) (D:Ends),Inv X pins σ H s->t D σ H->wpAny (model X.prog X.w) X.A (exec st X.env) (SP X pins D) X.xe s
def jc(X:Cx)(st:aL)(t:TS):Prop :=
 ∀(pins:ak) (s:Shared) (σ:St) (H:Hp) (D:Ends),Inv X pins σ H s->t D σ H->wpAny (model X.prog X.w) X.A (execs st X.env) (SP X pins D) X.xe s
theorem cH{α:Type}{t:Sem α}{Q Q':α->Shared->Prop}{M:Model}{s:Shared}(h:wpAny M A t Q E s)(hQ:∀a s,Q a s->Q' a s):wpAny M A t Q' E s:=W7 h hQ λ_ _ x=>x
end L2
namespace L2
open PySem PySem.Spec PyProof.Rows
variable {E Q:Value->Shared->Prop}{H:Hp}{pos:Pos}{σ:L2.St}
section
variable {X:Cx}
theorem bin{a b:Expr}{ta tb:TE}(ha:PE X a ta)(hb:PE X b tb){pins:ak}{s:Shared}{R:V->V->Hp->Prop}(I:Inv X pins σ H s)(h:ta σ H λx H1=>tb σ H1 λy H2=>R x y H2)
  {α:Type} {Q:α->Shared->Prop} {f:Value->Value->Sem α}
  (hf:∀v u s2 x y H2,Inv X pins σ H2 s2->RelV x v->RelV y u->R x y H2->wpAny (model X.prog X.w) X.A (f v u) Q X.xe s2) :
  wpAny (model X.prog X.w) X.A (eval a X.env) (λv s₁=>wpAny (model X.prog X.w) X.A (eval b X.env) (λu s₂=>wpAny (model X.prog X.w) X.A (f v u) Q X.xe s₂) X.xe s₁) X.xe s:=by
 refine cH (ha pins s σ H _ I h) λv s1 bJ=>?_;obtain⟨x,H1,I1,r1,q1⟩:=bJ;refine cH (hb pins s1 σ H1 _ I1 q1) λu s2 bJ=>?_;obtain⟨y,H2,I2,r2,q2⟩:=bJ;exact hf v u s2 x y H2 I2 r1 r2 q2
def xb(i:Nat):TE:=λσ H Q=>∃v,σ[i]?=some (some v)/\Q v H
def tC(v:V):TE:=λ_ H Q=>Q v H
theorem rC{i:Nat}{x:Str}(hN:X.N[i]?=some x)(hv:DS X.env.scope x)(hd:(x==("__debug__" : Str))=false:=by decide)(hcd:(x==("__classdict__" : Str))=false:=by decide):PE X (.Name x pos) (xb i):=by
 intro pins s σ H Q I h;obtain⟨v,e,h⟩:=h;obtain⟨m,hn,hl⟩:=I.loc;obtain⟨u,r,l⟩:=hl i x v hN e hv;have fin:EP X pins σ Q u s:=⟨v,H,I,r,h⟩
 rcases l with ⟨hk,hm⟩|⟨hk,c,hc,jN⟩
 ·exact YF (Yk I.ok.kind hk hn hm fin) hd
 ·rcases hk with hk|hk
  ·exact YF (wpAny_loadName_cell I.ok.kind hk hc jN fin) hd
  ·exact YF (wpAny_loadName_free I.ok.kind hk hc jN fin hcd) hd
theorem Fv{i j pos}:PE X (.Constant (.int i) j pos) (tC (.int i)):=λ_ _ _ H _ I h=>wpAny_Constant_int ⟨.int i,H,I.tok _,⟨_,rfl⟩,h⟩
theorem J4{b j pos}:PE X (.Constant (.bool b) j pos) (tC (.bl b)):=λ_ _ _ H _ I h=>Constant_bool ⟨.bl b,H,I,rfl,h⟩
theorem Fs{j pos}:PE X (.Constant .none j pos) (tC .bz):=λ_ _ _ H _ I h=>Constant_none ⟨.bz,H,I,rfl,h⟩
theorem OY{x j pos}:PE X (.Constant (.str x) j pos) (tC (.str x)):=λ_ _ _ H _ I h=>Calls.Constant_str ⟨.str x,H,I.tok _,⟨_,rfl⟩,h⟩
def Gl(X:Cx)(x:Str):Prop:=X.env.kindOf x=some .globalImplicit
theorem t8{pins:ak}{s:Shared}{x:Str}{u:Value}(I:Inv X pins σ H s)(hg:Gl X x)(hm:X.mg x=some u)(h:Q u s)
  (hd:(x==("__debug__" : Str))=false:=by decide):wpAny (model X.prog X.w) X.A (eval (.Name x pos) X.env) Q E s :=
 Calls.Name_function_global I.ok.kind hg (Calls.loadGlobal_global (by rw[I.ok.glob];exact I.mod.glob.keeps I.bk) hm h) hd
theorem dA{pins:ak}{s:Shared}{x:Str}{u:Value}(I:Inv X pins σ H s)(hg:Gl X x)(hm:X.mg x=none)(hv:bootBuiltins x=some u)(h:Q u s)
  (hn:x ≠ "__name__":=by decide) (hd:(x==("__debug__" : Str))=false:=by decide):wpAny (model X.prog X.w) X.A (eval (.Name x pos) X.env) Q E s:=by
 obtain⟨mb,h1,h2⟩:=I.mod.blt;exact Calls.Name_function_global I.ok.kind hg (Calls.loadGlobal_builtin (by rw[I.ok.glob];exact I.mod.glob.keeps I.bk) hm (by rw[I.ok.blt];exact h1.keeps I.bk) ((h2 x hn).trans hv) h) hd
theorem AV{x:Str}{v:V}{u:Value}(hg:Gl X x)(hm:X.mg x=some u)(r:RelV v u)(hd:(x==("__debug__" : Str))=false:=by decide):PE X (.Name x pos) (tC v) :=
 λ_ _ _ H _ I h=>t8 I hg hm ⟨v,H,I,r,h⟩ hd
theorem AZ{x:Str}{v:V}{u:Value}(hg:Gl X x)(hm:X.mg x=none)(hv:bootBuiltins x=some u)(r:RelV v u)(hn:x ≠ "__name__":=by decide)(hd:(x==("__debug__" : Str))=false:=by decide):PE X (.Name x pos) (tC v) :=
 λ_ _ _ H _ I h=>dA I hg hm hv ⟨v,H,I,r,h⟩ hn hd
variable {a b:Expr}{ta tb:TE}{pos:Pos}
def tB(t:TE):TT:=λσ H Q=>t σ H λx H1=>∃c,x=.bl c/\Q c H1
theorem Ff{e:Expr}{t:TE}(h:PE X e t)(he:∀whole,isTrue e X.env whole=(do let v <- whole;standAt e.pos;holding [v] (truthy v)):=by intro _;rfl):PT X e (tB t):=by
 intro pins s σ H Q I hw;refine isTrue_plain (cH (h pins s σ H _ I hw) λv s1 bJ=>?_) (he _);obtain⟨x,H1,I1,r1,q1⟩:=bJ;obtain⟨d,rfl,q⟩:=q1;cases r1;exact Xo ⟨H1,I1,q⟩
variable {tA MM:TT}{rest:au}
def Jq(t u:TT):TT:=λσ H Q=>t σ H λc H1=>if c=true then u σ H1 Q else Q false H1
def RG(t u:TT):TT:=λσ H Q=>t σ H λc H1=>if c=true then Q true H1 else u σ H1 Q
def Oc(t:TT):TT:=λσ H Q=>t σ H λc H1=>Q (!c) H1
theorem AQ(ha:PT X a tA):PW X (.BoolOp .And [a] pos) tA:=by
 intro wh pins s σ H Q I h;refine isTrue_and (cH (ha pins s σ H Q I h) λc s1 e=>?_);cases c with
 |true=>exact isTrue_and_nil e
 |false=>exact e
theorem Fd(ha:PT X a tA):PW X (.BoolOp .Or [a] pos) tA:=by
 intro wh pins s σ H Q I h;refine isTrue_or (cH (ha pins s σ H Q I h) λc s1 e=>?_);cases c with
 |false=>exact isTrue_or_nil e
 |true=>exact e
theorem Fe(ha:PT X a tA)(hb:PW X (.BoolOp .And (b::rest) pos) MM):PW X (.BoolOp .And (a::b::rest) pos) (Jq tA MM):=by
 intro wh pins s σ H Q I h;refine isTrue_and (cH (ha pins s σ H _ I h) λc s1 ⟨H1,I1,q1⟩=>?_);cases c with
 |true=>exact hb wh pins s1 σ H1 Q I1 q1
 |false=>exact⟨H1,I1,q1⟩
theorem JT(ha:PT X a tA)(hb:PW X (.BoolOp .Or (b::rest) pos) MM):PW X (.BoolOp .Or (a::b::rest) pos) (RG tA MM):=by
 intro wh pins s σ H Q I h;refine isTrue_or (cH (ha pins s σ H _ I h) λc s1 ⟨H1,I1,q1⟩=>?_);cases c with
 |true=>exact⟨H1,I1,q1⟩
 |false=>exact hb wh pins s1 σ H1 Q I1 q1
theorem Fg(ha:PT X a tA):PT X (.UnaryOp .Not a pos) (Oc tA):=by
 intro pins s σ H Q I h;exact isTrue_not (ha pins s σ H (λc H1=>Q (!c) H1) I h)
def CZ(ta tb:TE):TE:=λσ H Q=>ta σ H λx H1=>∃c,x=.bl c/\if c=true then tb σ H1 Q else Q (.bl false) H1
def Jj(ta tb:TE):TE:=λσ H Q=>ta σ H λx H1=>∃c,x=.bl c/\if c=true then Q (.bl true) H1 else tb σ H1 Q
def Jk(ta:TE):TE:=λσ H Q=>ta σ H λx H1=>∃c,x=.bl c/\Q (.bl (!c)) H1
theorem xS{op}{t:TE}(h:PE X a t):PE X (.BoolOp op [a] pos) t:=λpins s σ H Q I hw=>BoolOp_one (h pins s σ H Q I hw)
theorem Fx(ha:PE X a ta)(hb:PE X (.BoolOp .And (b::rest) pos) tb):PE X (.BoolOp .And (a::b::rest) pos) (CZ ta tb):=by
 intro pins s σ H Q I h;refine BoolOp_and (cH (ha pins s σ H _ I h) λv s1 bJ=>?_);obtain⟨x,H1,I1,r1,q1⟩:=bJ;obtain⟨c,rfl,q1⟩:=q1;cases r1;refine Xo ?_;cases c with
 |true=>exact hb pins s1 σ H1 Q I1 q1
 |false=>exact⟨.bl false,H1,I1,rfl,q1⟩
theorem J1(ha:PE X a ta)(hb:PE X (.BoolOp .Or (b::rest) pos) tb):PE X (.BoolOp .Or (a::b::rest) pos) (Jj ta tb):=by
 intro pins s σ H Q I h;refine BoolOp_or (cH (ha pins s σ H _ I h) λv s1 bJ=>?_);obtain⟨x,H1,I1,r1,q1⟩:=bJ;obtain⟨c,rfl,q1⟩:=q1;cases r1;refine Xo ?_;cases c with
 |false=>exact hb pins s1 σ H1 Q I1 q1
 |true=>exact⟨.bl true,H1,I1,rfl,q1⟩
theorem Fq(ha:PE X a ta):PE X (.UnaryOp .Not a pos) (Jk ta):=by
 intro pins s σ H Q I h;refine UnaryOp_ (cH (ha pins s σ H _ I h) λv s1 bJ=>?_);obtain⟨x,H1,I1,r1,q1⟩:=bJ;obtain⟨c,rfl,q1⟩:=q1;cases r1;exact not_of (Xo ⟨.bl (!c),H1,I1,rfl,q1⟩)
def T5(t:TT)(ta tb:TE):TE:=λσ H Q=>t σ H λc H1=>if c=true then ta σ H1 Q else tb σ H1 Q
theorem xU{c:Expr}(hc:PT X c tA)(ha:PE X a ta)(hb:PE X b tb):PE X (.IfExp c a b pos) (T5 tA ta tb):=by
 intro pins s σ H Q I h;refine wpAny_IfExp (cH (hc pins s σ H _ I h) λd s1 ⟨H1,I1,q1⟩=>?_);cases d with
 |true=>exact ha pins s1 σ H1 Q I1 q1
 |false=>exact hb pins s1 σ H1 Q I1 q1
end
end L2
namespace L2
open PySem PySem.Spec PyProof.Rows
def de(K:ao)(H:Hp)(a:Addr)(xs:ae):Prop :=
 Rd H a (.lst xs) \/
  ∃(o:Obj) (its:aC) (n:Nat),K.lookup a=some o/\o.cls=.type "list" /\ o.dict=none/\o.data=.seq its n/\its.size<=sizeLine/\Vals xs its.toList
def aT(K:ao)(H:Hp)(a:Addr)(xs:ae):Prop :=
 Rd H a (.tup xs) \/
  ∃(o:Obj) (its:aC) (n:Nat),K.lookup a=some o/\o.cls=.type "tuple" /\ o.data=.seq its n/\its.size<=sizeLine/\Vals xs its.toList
noncomputable def Rj:Value->Option V
 |.none=>some .bz
 |.bool b=>some (.bl b)
 |.int i _=>some (.int i)
 |.str x _=>some (.str x)
 |.bytes b _=>some (.Ra b)
 |.float b _=>some (.LW b)
 |.ref a=>some (.ref a)
 |.type n=>some (.ty n)
 |_=>none
theorem RelV.abs{x:V}{u:Value}(r:RelV x u):Rj u=some x:=by
 cases x with
 |bz=>cases r;rfl
 |bl _=>cases r;rfl
 |int _=>obtain⟨t,rfl⟩:=r;rfl
 |str _=>obtain⟨t,rfl⟩:=r;rfl
 |Ra _=>obtain⟨t,rfl⟩:=r;rfl
 |LW _=>obtain⟨t,rfl⟩:=r;rfl
 |ref _=>cases r;rfl
 |ty _=>cases r;rfl
theorem RelV.inj{x y:V}{u:Value}(r:RelV x u)(q:RelV y u):x=y:=W4 (r.abs.symm.trans q.abs)
theorem Vals.inj:∀{xs ys:ae} {us:ag},Vals xs us->Vals ys us->xs=ys
 |_,_,_,.nil,.nil=>rfl
 |_,_,_,.cons r t,.cons r' t'=>by rw[r.inj r',Vals.inj t t']
variable {K:ao}
section
variable {X:Cx}{pins:ak}{σ:St}{H:Hp}{s:Shared}{a:Addr}{xs ys:ae}
theorem de.of(h:H a=some (.lst xs)):de K H a xs:=.inl (.inl h)
theorem aT.of(h:H a=some (.tup xs)):aT K H a xs:=.inl (.inl h)
theorem Inv.list(I:Inv X pins σ H s)(h:de X.K H a xs):∃its:ag,Vals xs its/\PlainL s.heap a its.toArray/\xs.length<=sizeLine:=by
 rcases h with h|⟨o,its,n,hk,hc,hd,hs,hz,r⟩
 ·obtain⟨z,its,n,r,e⟩:=h.ok I.ck;exact⟨its,r,⟨_,n,e,rfl,rfl,rfl⟩,z⟩
 ·refine⟨its.toList,r,⟨o,n,I.wu a o hk,hc,hd,by simpa using hs⟩,?_⟩;have e:=r.length;simp only[Array.length_toList]at e;left
theorem Inv.tuple(I:Inv X pins σ H s)(h:aT X.K H a xs):∃its:ag,Vals xs its/\IsTup s.heap a its.toArray/\xs.length<=sizeLine:=by
 rcases h with h|⟨o,its,n,hk,hc,hs,hz,r⟩
 ·obtain⟨z,its,r,p⟩:=h.ok I.ck;exact⟨its,r,p,z⟩
 ·refine⟨its.toList,r,⟨o,I.wu a o hk,hc,n,by simpa using hs⟩,?_⟩;have e:=r.length;simp only[Array.length_toList]at e;left
theorem Inv.lb(I:Inv X pins σ H s)(h:de X.K H a xs)(h':de X.K H a ys):xs=ys:=by
 obtain⟨its,r,⟨o,n,e,_,_,d⟩,_⟩:=I.list h;obtain⟨its',r',⟨o',n',e',_,_,d'⟩,_⟩:=I.list h';rw[e]at e';cases e';rw[d]at d';injection d' with d1 _;have:its=its':=by simpa using congrArg Array.toList d1
 subst this;exact r.inj r'
theorem Inv.mG(I:Inv X pins σ H s)(h:aT X.K H a xs)(h':aT X.K H a ys):xs=ys:=by
 obtain⟨its,r,⟨o,e,_,n,d⟩,_⟩:=I.tuple h;obtain⟨its',r',⟨o',e',_,n',d'⟩,_⟩:=I.tuple h';rw[e]at e';cases e';rw[d]at d';injection d' with d1 _;have:its=its':=by simpa using congrArg Array.toList d1
 subst this;exact r.inj r'
end
noncomputable abbrev Cx.l_(X:Cx)(E:aw):Cx:={ X with xe:=E }
abbrev Cx.rJ(X:Cx):Cx:=X.l_ λ_ _=>False
theorem Cx.Ok.l_{X:Cx}(ok:X.Ok)(E:aw):(X.l_ E).Ok :=
 ⟨ok.mod,ok.kind,ok.glob,ok.blt,ok.above,ok.inj,ok.has,ok.Mm,ok.hd,ok.frames,ok.MN,ok.SY,ok.bs,ok.DL,ok.x9,ok.BU,ok.j0,ok.IB,ok.tab⟩
variable {E:Value->Shared->Prop}{X:Cx}
theorem Cx.Ok.gb(ok:(X.l_ E).Ok):X.Ok :=
 ⟨ok.mod,ok.kind,ok.glob,ok.blt,ok.above,ok.inj,ok.has,ok.Mm,ok.hd,ok.frames,ok.MN,ok.SY,ok.bs,ok.DL,ok.x9,ok.BU,ok.j0,ok.IB,ok.tab⟩
section
variable {X:Cx}{pins:ak}{σ:St}{H:Hp}{s:Shared}{E:aw}
theorem Inv.l_(I:Inv X pins σ H s)(E:aw):Inv (X.l_ E) pins σ H s:=⟨I.ok.l_ E,I.os,I.bare,I.base,I.loc,I.cell,I.free,I.gp,I.pin,I.ck,I.len⟩
theorem Inv.gb(I:Inv (X.l_ E) pins σ H s):Inv X pins σ H s:=⟨I.ok.gb,I.os,I.bare,I.base,I.loc,I.cell,I.free,I.gp,I.pin,I.ck,I.len⟩
theorem SP.gb{D:Ends}{f:Flow}{s':Shared}(h:SP (X.l_ E) pins D f s'):SP X pins D f s':=by
 cases f with
 |next=>obtain⟨σ',H',I,q⟩:=h;exact⟨σ',H',I.gb,q⟩
 |brk=>obtain⟨σ',H',I,q⟩:=h;exact⟨σ',H',I.gb,q⟩
 |cont=>obtain⟨σ',H',I,q⟩:=h;exact⟨σ',H',I.gb,q⟩
 |ret u=>obtain⟨v,σ',H',I,r,q⟩:=h;exact⟨v,σ',H',I.gb,r,q⟩
theorem jc.rJ{st:aL}{t:TS}(h:jc X.rJ st t):jc X st t:=λpins s σ H D I hw =>
 W7 (h pins s σ H D (I.l_ _) hw) (λ_ _ q=>q.gb) λ_ _ z=>False.elim z
end
variable {H:Hp}{σ:L2.St}
section
variable {X:Cx}{st:Stmt}{rest:aL}{t u:TS}{e:Expr}{te:TE}{pos:Pos}
def CW:TS:=λD σ H=>D.nx σ H
def N_(t u:TS):TS:=λD σ H=>t { D with nx:=u D } σ H
theorem AS:jc X [] CW:=λ_ _ σ H _ I h=>wpAny_execs_nil ⟨σ,H,I,h⟩
theorem pU(h1:PS X st t)(h2:jc X rest u):jc X (st::rest) (N_ t u):=by
 intro pins s σ H D I h;refine wpAny_execs_cons (cH (h1 pins s σ H { D with nx:=u D } I h) λf s1 q=>?_);cases f with
 |next =>
  obtain⟨σ',H',I',q⟩:=q;exact h2 pins s1 σ' H' D I' q
 |ret v=>exact q
 |brk=>exact q
 |cont=>exact q
def El:TS:=λD σ H=>D.bk σ H
def Jn:TS:=λD σ H=>D.ct σ H
theorem M0:PS X (.Pass pos) CW:=λ_ _ σ H _ I h=>wpAny_Pass ⟨σ,H,I,h⟩
theorem JW:PS X (.Break pos) El:=λ_ _ σ H _ I h=>wpAny_Break ⟨σ,H,I,h⟩
theorem Dg:PS X (.Continue pos) Jn:=λ_ _ σ H _ I h=>wpAny_Continue ⟨σ,H,I,h⟩
theorem Inv.quiet{pins:ak}{s:Shared}(I:Inv X pins σ H s):interactive X.env=false:=by simp[interactive,I.ok.kind]
def Jm(te:TE):TS:=λD σ H=>te σ H λ_ H1=>D.nx σ H1
theorem nL(he:PE X e te)(hs:swapsWith e none pos.line X.env=pure false:=by rfl):PS X (.Expr e pos) (Jm te):=by
 intro pins s σ H D I h;exact wpAny_Expr_any (cH (he pins s σ H _ I h) λv s1 ⟨x,H1,I1,r1,q1⟩=>⟨σ,H1,I1,q1⟩) I.quiet hs
def Oa(te:TE):TS:=λD σ H=>te σ H D.rt
theorem Fh(he:PE X e te):PS X (.Return (some e) pos) (Oa te):=by
 intro pins s σ H D I h;exact wpAny_Return_some (cH (he pins s σ H _ I h) λv s1 ⟨x,H1,I1,r1,q1⟩=>⟨x,σ,H1,I1,r1,q1⟩)
def Jh:TS:=λD _ H=>D.rt .bz H
theorem MZ:PS X (.Return none pos) Jh:=λ_ _ σ H _ I h=>wpAny_Return_none ⟨.bz,σ,H,I,rfl,h⟩
def Oe(c:TT)(t u:TS):TS:=λD σ H=>c σ H λb H1=>if b=true then t D σ H1 else u D σ H1
theorem JV{c:Expr}{a b:aL}{tc:TT}(hc:PT X c tc)(ha:jc X a t)(hb:jc X b u):PS X (.If c a b pos) (Oe tc t u):=by
 intro pins s σ H D I h;refine wpAny_If (cH (hc pins s σ H _ I h) λd s1 ⟨H1,I1,q1⟩=>?_);cases d with
 |true=>exact ha pins s1 σ H1 D I1 q1
 |false=>exact hb pins s1 σ H1 D I1 q1
end
abbrev TG:=V->St->Hp->(St->Hp->Prop)->Prop
abbrev Cz:=ae->St->Hp->(St->Hp->Prop)->Prop
def PG(X:Cx)(target:Expr)(t:TG):Prop :=
 ∀(pins:ak) (s:Shared) (σ:St) (H:Hp) (v:V) (u:Value) (Q:St->Hp->Prop),Inv X pins σ H s->RelV v u->t v σ H Q ->
  wpAny (model X.prog X.w) X.A (assign target X.env u) (λ_ s'=>∃σ' H',Inv X pins σ' H' s'/\Q σ' H') X.xe s
def IH(X:Cx)(ts:au)(t:Cz):Prop :=
 ∀(pins:ak) (s:Shared) (σ:St) (H:Hp) (vs:ae) (us:ag) (Q:St->Hp->Prop),Inv X pins σ H s->Vals vs us->t vs σ H Q ->
  wpAny (model X.prog X.w) X.A (assignInOrder ((assignEach ts X.env).map (·.2)) us) (λ_ s'=>∃σ' H',Inv X pins σ' H' s'/\Q σ' H') X.xe s
abbrev HS:=V->V->V->Hp->(Hp->Prop)->Prop
def MD(X:Cx)(t:HS):Prop :=
 ∀(pins:ak) (s:Shared) (σ:St) (H:Hp) (o i v:V) (ov iv u:Value) (Q:Hp->Prop),Inv X pins σ H s->RelV o ov->RelV i iv->RelV v u->t o i v H Q ->
  wpAny (model X.prog X.w) X.A (setItem ov iv u) (λ_ s'=>∃H',Inv X pins σ H' s'/\Q H') X.xe s
abbrev NX:=V->V->Hp->VK->Prop
def NY(X:Cx)(op:Operator)(t:NX):Prop :=
 ∀(pins:ak) (s:Shared) (σ:St) (H:Hp) (x y:V) (v u:Value) (Q:VK),Inv X pins σ H s->RelV x v->RelV y u->t x y H Q ->
  wpAny (model X.prog X.w) X.A (inplaceOp op v u) (EP X pins σ Q) X.xe s
variable {es:au}{te:TE}{tg:Expr}
section
variable {X:Cx}{pos:Pos}
def mW(i:Nat):TG:=λv σ H Q=>Q (σ.set i (some v)) H
theorem nM{i:Nat}{x:Str}(hN:X.N.Nodup)(hi:X.N[i]?=some x)(hx:Loc X.env.scope x)(hf:X.fn x=true\/X.env.scope.names.lookup x=some .local:=by first|exact .inl rfl|exact .inr rfl|assumption):PG X (.Name x pos) (mW i):=by
 intro pins s σ H v u Q I r h;exact wpAny_assign_Name (iO I hN hi hx r (λs' I'=>⟨_,H,I',h⟩) hf)
def GZ:Cz:=λvs σ H Q=>vs=[]/\Q σ H
def yZ(t:TG)(u:Cz):Cz:=λvs σ H Q=>∃v r,vs=v::r/\t v σ H λσ' H'=>u r σ' H' Q
theorem tS:IH X [] GZ:=by
 intro pins s σ H vs us Q I r h;obtain⟨e,h⟩:=h;subst e;cases r;exact assignInOrder_nil ⟨σ,H,I,h⟩
theorem pV{e:Expr}{t:TG}{u:Cz}(h1:PG X e t)(h2:IH X es u)
  (hs:(assignEach (e::es) X.env).map (·.2)=assign e X.env::(assignEach es X.env).map (·.2):=by rfl):IH X (e::es) (yZ t u):=by
 intro pins s σ H vs us Q I r h;obtain⟨v,vr,e1,h⟩:=h;subst e1;cases r with
 |cons r rr =>
  rw[hs];refine assignInOrder_cons (cH (h1 pins s σ H _ _ _ I r h) λ_ s1 bJ=>?_);obtain⟨σ1,H1,I1,q1⟩:=bJ;exact h2 pins s1 σ1 H1 _ _ Q I1 rr q1
def QJ(K:ao)(n:Nat)(t:Cz):TG:=λv σ H Q=>∃a xs,v=.ref a/\aT K H a xs/\xs.length=n/\t xs σ H Q
theorem xO{k:Nat}{t:Cz}{n:Nat}(hc:X.calm=true)(h:IH X es t)
  (hn:(assignEach es X.env).length=n:=by rfl) (qf:(assignEach es X.env).findIdx? (·.1)=none:=by rfl):PG X (.Tuple es k pos) (QJ X.K n t):=by
 intro pins s σ H v u Q I r hw;obtain⟨a,xs,e1,hq,hl,hw⟩:=hw;subst e1;cases r;obtain⟨its,rv,ht,hz⟩:=I.tuple hq;refine assign_Tuple_tuple (I.ok.hd hc) ht (by simp[hn,<- hl,rv.length]) qf λh' hx=>?_;have I1:Inv X pins σ H { s with heap:=h' }:=I.kept (t':=s.toks) λb o e=>hx b o (W2 (WX e)) e;exact h pins _ σ H xs _ Q I1 (by simpa using rv) hw
def QK(to ti:TE)(t:HS):TG:=λv σ H Q=>to σ H λo H1=>ti σ H1 λi H2=>t o i v H2 λH3=>Q σ H3
theorem Fn{o i:Expr}{to ti:TE}{t:HS}(ho:PE X o to)(hi:PE X i ti)(hs:MD X t)
  (ha:∀v,assign (.Subscript o i pos) X.env v=(do
   let ov <- holding [v] (eval o X.env)
   let iv <- holding [v,ov] (eval i X.env)
   standAt pos
   holding [v,ov,iv] (setItem ov iv v)
   release [v,ov,iv] []):=by intro _;rfl):PG X (.Subscript o i pos) (QK to ti t):=by
 intro pins s σ H v u Q I r h;rw[ha];refine WN (Xp (cH (ho pins s σ H _ I h) λov s1 bJ=>?_));obtain⟨x,H1,I1,r1,q1⟩:=bJ;refine WN (Xp (cH (hi pins s1 σ H1 _ I1 q1) λiv s2 bJ=>?_));obtain⟨y,H2,I2,r2,q2⟩:=bJ;refine WN (Yd (WN (Xp (cH (hs pins s2 σ H2 x y v ov iv u _ I2 r1 r2 r q2) λ_ s3 bJ=>?_))));obtain⟨H3,I3,q3⟩:=bJ;exact wpAny_release ⟨σ,H3,I3,q3⟩
def Oi(te:TE)(g:TG):TS:=λD σ H=>te σ H λx H1=>g x σ H1 D.nx
theorem rB{e:Expr}{g:TG}(he:PE X e te)(hg:PG X tg g)(hs:swapsWithSole [tg] e pos.line X.env=pure false:=by rfl)(hw:swappedStores [tg] e X.env=pure none:=by rfl)
  (h1:(assignEach [tg] X.env).map (·.2)=[assign tg X.env]:=by rfl):PS X (.Assign [tg] e pos) (Oi te g):=by
 intro pins s σ H D I h;refine wpAny_Assign_stores (cH (he pins s σ H _ I h) λv s1 bJ=>?_) hs hw;obtain⟨x,H1,I1,r1,q1⟩:=bJ;rw[h1];exact cH (hg pins s1 σ H1 x v _ I1 r1 q1) λ_ s2 q=>q
def Ob(i j:Nat)(ta:TA):TS:=λD σ H=>ta σ H λvs H1=>∃v w,vs=[v,w]/\D.nx ((σ.set i (some v)).set j (some w)) H1
theorem Fi{i j:Nat}{x y:Str}{a b:Expr}{ta:TA}{px py pt:Pos}{kt k2 H_}(hc:X.calm=true)(hN:X.N.Nodup)(hi:X.N[i]?=some x)(hj:X.N[j]?=some y)(dN:i≠j)
  (hx:X.env.scope.names.lookup x=some .local) (hy:X.env.scope.names.lookup y=some .local) (ha:PA X [a,b] ta)
  (hw:swappedStores [.Tuple [.Name x px,.Name y py] kt pt] (.Tuple [a,b] k2 H_) X.env=pure (some [x,y]))
  (hs:swapsWithSole [.Tuple [.Name x px,.Name y py] kt pt] (.Tuple [a,b] k2 H_) pos.line X.env=pure false:=by rfl) :
  PS X (.Assign [.Tuple [.Name x px,.Name y py] kt pt] (.Tuple [a,b] k2 H_) pos) (Ob i j ta):=by
 intro pins s σ H D I h;rw[exec_Assign_arm];refine WN (Yd ?_);rw[hs];refine WN (WU ?_);rw[if_neg (by decide)];refine WN (Tuple_ (cH (ha _ pins s σ H _ I h) λus s1 bJ=>?_));obtain⟨vs,H1,I1,r1,q1⟩:=bJ;obtain⟨v,w,e1,q1⟩:=q1;subst e1;obtain⟨u1,u2,rfl,rv,h_⟩:∃u1 u2,us=[u1,u2]/\RelV v u1/\RelV w u2:=by
  cases r1 with
  |cons p q =>
   cases q with
   |cons p' q' =>
    cases q';exact⟨_,_,rfl,p,p'⟩
 refine Xy ?_ (by show 2<=sizeLine;decide);have I2:Inv X pins σ H1 { s1 with heap:=s1.heap.push { cls:=.type "tuple",data:=.seq [u1,u2].toArray } }:=I1.kept (t':=s1.toks) λb o e=>WQ _ e;rw[hw];refine WN (WU ?_);show wpAny (model X.prog X.w) X.A (do rule "assign.swapped-stores";let items <- unpackItems (.ref s1.heap.objs.size) 2 none;assignInOrder [λv=>bindName X.env y v,λv=>bindName X.env x v] items.reverse;pure Flow.next) _ _ _;refine WN (YG (WN (unpackItems_tuple (items:=#[u1,u2]) (I.ok.hd hc) (IsTup.new s1.heap _) λh' ui=>?_)));have I3:=I2.kept (h':=h') (t':=s1.toks) λb o e=>ui b o (W2 (WX e)) e;show wpAny _ _ (assignInOrder [λv=>bindName X.env y v,λv=>bindName X.env x v] [u2,u1] >>= λ_=>pure Flow.next) _ _ _;refine WN (assignInOrder_cons (wpAny_bindName (iO I3 hN hj (.inl hy) h_ (λs2 I4=>?_) (.inr hy))));refine assignInOrder_cons (wpAny_bindName (iO I4 hN hi (.inl hx) rv (λs3 I5=>assignInOrder_nil (WU ?_)) (.inr hx)));rw[List.set_comm _ _ (Ne.symm dN)]at I5;exact⟨_,H1,I5,q1⟩
def Oh(i:Nat)(te:TE)(ti:NX):TS:=λD σ H=>∃x,σ[i]?=some (some x)/\te σ H λy H1=>ti x y H1 λz H2=>D.nx (σ.set i (some z)) H2
theorem Fj{i:Nat}{x:Str}{e:Expr}{op:Operator}{ti:NX}{pos':Pos}(hN:X.N.Nodup)(hi:X.N[i]?=some x)(hx:Loc X.env.scope x)(he:PE X e te)(ho:NY X op ti)(hf:X.fn x=true\/X.env.scope.names.lookup x=some .local:=by first|exact .inl rfl|exact .inr rfl|assumption):
  PS X (.AugAssign (.Name x pos') op e pos) (Oh i te ti):=by
 intro pins s σ H D I h;obtain⟨v,e1,h⟩:=h;obtain⟨m,hn,hl⟩:=I.loc;have HY:DS X.env.scope x:=by rcases hx with k|k;exact .inl k;exact .inr (.inl k)
 obtain⟨u,r,l⟩:=hl i x v hi e1 HY;refine wpAny_AugAssign_Name ?_;have go:wpAny (model X.prog X.w) X.A (eval e X.env) (λw s₂=>wpAny (model X.prog X.w) X.A (inplaceOp op u w) (λr s₃=>wpAny (model X.prog X.w) X.A (storeName X.env x r) (λ_=>SP X pins D .next) X.xe s₃) X.xe s₂) X.xe s:=by
  refine cH (he pins s σ H _ I h) λw s1 bJ=>?_;obtain⟨y,H1,I1,r1,q1⟩:=bJ;refine cH (ho pins s1 σ H1 v y u w _ I1 r r1 q1) λz s2 bJ=>?_;obtain⟨zv,H2,I2,r2,q2⟩:=bJ;exact iO I2 hN hi hx r2 (λs3 I3=>⟨_,H2,I3,q2⟩) hf
 rcases l with ⟨hk,hm⟩|⟨hk,c,hc,jN⟩
 ·exact Yk I.ok.kind hk hn hm go
 ·rcases hk with hk|hk
  ·exact wpAny_loadName_cell I.ok.kind hk hc jN go
  ·rcases hx with k|k
   ·have:X.env.scope.names.lookup x=some .free:=hk;rw[k]at this;cases this
   ·have:X.env.scope.names.lookup x=some .free:=hk;rw[k]at this;cases this
def PB(f:Int->Int->Int):NX:=λx y H Q=>∃i j,x=.int i/\y=.int j/\Q (.int (f i j)) H
theorem Gn:NY X .Add (PB λi j=>i+j):=by
 intro pins s σ H x y v u Q I r1 r2 h;obtain⟨i,j,e1,e2,q⟩:=h;subst e1;subst e2;obtain⟨t,rfl⟩:=r1;obtain⟨t',rfl⟩:=r2;exact iadd_int ⟨.int _,H,I.tok _,⟨_,rfl⟩,q⟩
theorem Gm:NY X .Sub (PB λi j=>i - j):=by
 intro pins s σ H x y v u Q I r1 r2 h;obtain⟨i,j,e1,e2,q⟩:=h;subst e1;subst e2;obtain⟨t,rfl⟩:=r1;obtain⟨t',rfl⟩:=r2;exact isub_int ⟨.int _,H,I.tok _,⟨_,rfl⟩,q⟩
end
section
variable {X:Cx}{pos:Pos}
def Ej(c:TT)(tb:TS):TS:=λD σ H=>∃W:Nat->St->Hp->Prop,(∃m,W m σ H)/\∀m σ H,W m σ H ->
 c σ H λb H1=>if b=true then ∃N:St->Hp->Prop,(∀σ' H',N σ' H'->∃m',m'<m/\W m' σ' H')/\tb { D with nx:=N,ct:=N,bk:=D.nx } σ H1 else D.nx σ H1
theorem xK{c:Expr}{body:aL}{tc:TT}{tb:TS}(hp:PassesOwn (model X.prog X.w) X.A X.env X.xe)(hc:PT X c tc)(hb:jc X body tb):PS X (.While c body [] pos) (Ej tc tb):=by
 intro pins s σ H D I h;obtain⟨W,⟨m0,w0⟩,turn⟩:=h;refine wpAny_While (codeAny_whileLoop (λn s'=>∃σ' H',Inv X pins σ' H' s'/\W n σ' H') ?_ m0 ⟨σ,H,I,w0⟩);rintro n s1 ⟨σ1,H1,I1,w1⟩;refine Xx hp (cH (hc pins s1 σ1 H1 _ I1 (turn n σ1 H1 w1)) λb s2 ⟨H2,I2,q2⟩=>?_);cases b with
 |true =>
  obtain⟨N,hN,q2⟩:=q2;rw[if_pos rfl];refine Xx hp (cH (hb pins s2 σ1 H2 _ I2 q2) λf s3 q3=>?_);cases f with
  |next =>
   obtain⟨σ3,H3,I3,n3⟩:=q3;obtain⟨m',hm,w3⟩:=hN σ3 H3 n3;exact⟨m',hm,σ3,H3,I3,w3⟩
  |cont =>
   obtain⟨σ3,H3,I3,n3⟩:=q3;obtain⟨m',hm,w3⟩:=hN σ3 H3 n3;exact⟨m',hm,σ3,H3,I3,w3⟩
  |brk=>exact q3
  |ret v=>exact q3
 |false =>
  rw[if_neg Bool.false_ne_true];exact wpAny_execs_nil ⟨σ1,H2,I2,q2⟩
end
structure It where
 go:Nat->Hp->Prop
 qM:Nat->Hp->V->Hp->Prop
 stop:Nat->Hp->Prop
def l5(X:Cx)(pins:ak)(H:Hp)(b:Addr):Prop :=
 H b=none/\b≠X.env.locals/\b∉X.fs/\(b∈X.ex\/X.s₀.heap.objs.size<=b)/\(∀x c,X.env.cells.lookup x=some c->c≠b)/\∀p∈X.pn++pins,p.1≠b
theorem Inv.BR{pins:ak}{H':Hp}{s:Shared}{b:Addr}(I:Inv X pins σ H s)(hb:s.heap.objs.size<=b)(hn:H' b=none):l5 X pins H' b:=by
 refine⟨hn,Xv (WY I.lt hb),I.FN hb,.inr (Xb I.sz hb),λx c e z=>?_,λp hp z=>?_⟩
 ·obtain⟨v,q⟩:=I.cell x c e;exact absurd (WY q.lt (by rw[z];exact hb)) (Xh _)
 ·exact absurd (WY (WX (I.pin p hp).1) (by rw[z];exact hb)) (Xh _)
structure Turn(P:ax)(w:World)(K:ao)(tg:Expr)(J:It)(fp:aO)(it:Addr)(tn:Nat->Heap->Prop):Prop where
 mem:it∈fp
 obj:∀i h,tn i h->∀b∈fp,∃o,h.get? b=some o/\∀v,o.data≠.cell v
 keep:∀i h h',tn i h->(∀b∈fp,∀o,h.get? b=some o->h'.get? b=some o)->tn i h'
 item:∀(X:Cx),X.prog=P->X.w=w->X.K=K->X.calm=true->∀(i:Nat) (pins:ak) (s:Shared) (σ:St) (H:Hp) (E:aw),Inv X pins σ H s->(∀b∈fp,l5 X pins H b)->tn i s.heap->J.go i H ->
  wpAny (model P w) X.A (pyNext (.ref it)) (λr s1=>∃u,r=some u /\
   wpAny (model P w) X.A (letOwnedTupleGo tg (.ref it) u) (λ_ s2=>∃x H',Inv X pins σ H' s2/\RelV x u/\J.qM i H x H'/\tn (i+1) s2.heap/\∀b∈fp,H' b=none) E s1) E s
 done:∀(X:Cx),X.prog=P->X.w=w->X.K=K->X.calm=true->∀(i:Nat) (pins:ak) (s:Shared) (σ:St) (H:Hp) (E:aw),Inv X pins σ H s->(∀b∈fp,l5 X pins H b)->tn i s.heap->J.stop i H ->
  wpAny (model P w) X.A (pyNext (.ref it)) (λr s1=>r=none/\Inv X pins σ H s1) E s
 self:∀(A:ay) (i:Nat) (s:Shared) (Q:aw) (E:aw),tn i s.heap->Q (.ref it) s->wpAny (model P w) A (pyIter (.ref it)) Q E s
abbrev TI:=St->Hp->(It->Hp->Prop)->Prop
def zY(X:Cx)(pins:ak)(σ:St)(tg:Expr)(R:It->Hp->Prop)(Po:Value)(s2:Shared):Prop :=
 ∃(it:Addr) (fp:aO) (tn:Nat->Heap->Prop) (J:It) (H':Hp),Po=.ref it/\Inv X pins σ H' s2/\Turn X.prog X.w X.K tg J fp it tn/\tn 0 s2.heap/\(∀b∈fp,l5 X pins H' b)/\R J H'
def PI(X:Cx)(tg iter:Expr)(wi:TI):Prop :=
 ∀(pins:ak) (s:Shared) (σ:St) (H:Hp) (R:It->Hp->Prop),Inv X pins σ H s->wi σ H R ->
  wpAny (model X.prog X.w) X.A (eval iter X.env) (λv s1=>wpAny (model X.prog X.w) X.A (pyIter v) (zY X pins σ tg R) X.xe s1) X.xe s
theorem yV{M:Model}{A:ay}{s:Shared}{it:Addr}{u:Value}{o:Obj}{n:String}{vs:aC}{Q:Unit->Shared->Prop}(ho:s.heap.get? it=some o)(hc:o.cls=.type n)(hd:o.data=.fields vs)
    (hn:["enumerate","zip","dict_itemiterator","dict_reverseitemiterator","odict_iterator","itertools.zip_longest","itertools.pairwise"].contains n=false) (hQ:Q () s):wpAny M A (letOwnedTupleGo tg (.ref it) u) Q E s:=by
  unfold letOwnedTupleGo;cases tg<;>first
    |exact WU hQ
    | (cases u<;>first
        |exact WU hQ
        | (refine WN (wpAny_load ho ?_)
           rw[hc,hd];show wpAny M A (if (["enumerate","zip","dict_itemiterator","dict_reverseitemiterator","odict_iterator","itertools.zip_longest","itertools.pairwise"].contains n&&vs[0]?==some (rawInt _))=true then _ else _) Q E s;rw[if_neg (by intro h;rw[hn,Bool.false_and]at h;cases h)];exact WU hQ))
noncomputable def IJ(K:ao)(a:Addr):It :=
 ⟨λi H=>∃xs x,de K H a xs/\xs[i]?=some x,λi H x H'=>H'=H/\∀xs,de K H a xs->xs[i]?=some x,λi H=>∃xs,de K H a xs/\xs.length<=i⟩
noncomputable def II(K:ao)(a:Addr):It :=
 ⟨λi H=>∃xs x,aT K H a xs/\xs[i]?=some x,λi H x H'=>H'=H/\∀xs,aT K H a xs->xs[i]?=some x,λi H=>∃xs,aT K H a xs/\xs.length<=i⟩
noncomputable def wq(lo:Int)(n:Nat):It:=⟨λi _=>i<n,λi H x H'=>H'=H/\x=.int (lo+i),λi _=>n<=i⟩
variable {P:ax}{w:World}
theorem vd(a it:Addr):Turn P w K tg (IJ K a) [it] it (λi h=>h.IsListIter it a i) where
 mem:=by simp
 obj:=λi h st b hb=>by
  have e:b=it:=by simpa using hb
  subst e;obtain⟨o,e,c,d⟩:=st;exact⟨o,e,λv z=>by rw[d]at z;cases z⟩
 keep:=λi h h' st k=>st.at λo e=>k it (by simp) o e
 item:=by
  intro X hP hw hK hc i pins s σ H E I hf st hg;subst hP hw hK;obtain⟨xs,x,hq,hx⟩:=hg;obtain⟨its,rv,p,hz⟩:=I.list hq;obtain⟨u,hu,ru⟩:=rv.get hx;obtain⟨f0,f1,f2,f3,f4,f5⟩:=hf it (by simp);refine wpAny_pyNext_list_item st p.isList (x:=u) (by simpa using hu) λh' bh sb=>?_;have I1:Inv X pins σ H { s with heap:=h' }:=I.turned (t':=s.toks) (λb o hb e=>(sb.2 b hb).trans e) f0 f1 f3 f4 f5;obtain⟨o,e,c,d⟩:=id bh;exact⟨u,rfl,yV (s:={ s with heap:=h' }) e c d (by decide) ⟨x,H,I1,ru,⟨rfl,λys hy=>by rw[I.lb hy hq];exact hx⟩,bh,λb hb=>(hf b hb).1⟩⟩
 done:=by
  intro X hP hw hK hc i pins s σ H E I hf st hg;subst hP hw hK;obtain⟨xs,hq,hx⟩:=hg;obtain⟨its,rv,p,hz⟩:=I.list hq;obtain⟨f0,f1,f2,f3,f4,f5⟩:=hf it (by simp);have hl:=rv.length;exact wpAny_pyNext_list_end (I.ok.hd hc) st p.isList (by simp;left) λh' eb=>⟨rfl,I.turned (t':=s.toks) (λb o hb e=>eb b o hb e) f0 f1 f3 f4 f5⟩
 self:=λ_ _ _ _ _ st h=>wpAny_pyIter_listiter st h
theorem qZ(a it:Addr):Turn P w K tg (II K a) [it] it (λi h=>h.IsTupleIter it a i) where
 mem:=by simp
 obj:=λi h st b hb=>by
  have e:b=it:=by simpa using hb
  subst e;obtain⟨o,e,c,d⟩:=st;exact⟨o,e,λv z=>by rw[d]at z;cases z⟩
 keep:=λi h h' st k=>st.at λo e=>k it (by simp) o e
 item:=by
  intro X hP hw hK hc i pins s σ H E I hf st hg;subst hP hw hK;obtain⟨xs,x,hq,hx⟩:=hg;obtain⟨its,rv,p,hz⟩:=I.tuple hq;obtain⟨u,hu,ru⟩:=rv.get hx;obtain⟨f0,f1,f2,f3,f4,f5⟩:=hf it (by simp);refine wpAny_pyNext_tuple_item st (show s.heap.IsTuple a its.toArray from p) (x:=u) (by simpa using hu) λh' bh sb=>?_;have I1:Inv X pins σ H { s with heap:=h' }:=I.turned (t':=s.toks) (λb o hb e=>(sb.2 b hb).trans e) f0 f1 f3 f4 f5;obtain⟨o,e,c,d⟩:=id bh;exact⟨u,rfl,yV (s:={ s with heap:=h' }) e c d (by decide) ⟨x,H,I1,ru,⟨rfl,λys hy=>by rw[I.mG hy hq];exact hx⟩,bh,λb hb=>(hf b hb).1⟩⟩
 done:=by
  intro X hP hw hK hc i pins s σ H E I hf st hg;subst hP hw hK;obtain⟨xs,hq,hx⟩:=hg;obtain⟨its,rv,p,hz⟩:=I.tuple hq;obtain⟨f0,f1,f2,f3,f4,f5⟩:=hf it (by simp);have hl:=rv.length;exact wpAny_pyNext_tuple_end (I.ok.hd hc) st (show s.heap.IsTuple a its.toArray from p) (by simp;left) λh' eb=>⟨rfl,I.turned (t':=s.toks) (λb o hb e=>eb b o hb e) f0 f1 f3 f4 f5⟩
 self:=λ_ _ _ _ _ st h=>wpAny_pyIter_tupleiter st h
theorem q_(it:Addr)(lo:Int)(n:Nat):Turn P w K tg (wq lo n) [it] it (λi h=>IsRangeIter h it (lo+(i:Nat)*1) ((n:Int) - (i:Nat)) 1) where
 mem:=by simp
 obj:=λi h st b hb=>by
  have e:b=it:=by simpa using hb
  subst e;exact⟨_,st,λv z=>by
   have z':Data.fields _=Data.cell v:=z;cases z'⟩
 keep:=λi h h' st k=>k it (by simp) _ st
 item:=by
  intro X hP hw hK hc i pins s σ H E I hf st hg;subst hP hw hK;obtain⟨f0,f1,f2,f3,f4,f5⟩:=hf it (by simp);have W:=Walks.range (prog:=X.prog) (w:=X.w) (I.ok.hd hc) it lo 1 n;refine W.item i s _ _ hg st λv h' tk hv bh kk=>?_;obtain⟨t,rfl⟩:=hv;have I1:Inv X pins σ H { s with heap:=h',toks:=tk }:=I.turned (λb o hb e=>kk b o (by simpa using hb) e) f0 f1 f3 f4 f5;refine⟨_,rfl,yV (s:={ s with heap:=h',toks:=tk }) (n:="range_iterator") bh rfl rfl (by decide) ⟨.int (lo+i),H,I1,⟨t,?_⟩,⟨rfl,rfl⟩,bh,λb hb=>(hf b hb).1⟩⟩;rw[Int.mul_one]
 done:=by
  intro X hP hw hK hc i pins s σ H E I hf st hg;subst hP hw hK;obtain⟨f0,f1,f2,f3,f4,f5⟩:=hf it (by simp);exact wpAny_pyNext_range_end (I.ok.hd hc) st (by have:n<=i:=hg;left) λh' eb=>⟨rfl,I.turned (t':=s.toks) (λb o hb e=>eb b o hb e) f0 f1 f3 f4 f5⟩
 self:=λ_ _ _ _ _ st h=>wpAny_pyIter_rangeiter st h
end L2
namespace L2
open PySem PySem.Spec PyProof.Rows
variable {H:Hp}{fp:aO}{lo:Int}{pos:Pos}{ta:TA}{tl:TE}{σ:L2.St}
section
variable {X:Cx}{tg:Expr}
def KS(K:ao)(tl:TE):TI:=λσ H R=>tl σ H λx H1=>∃a,x=.ref a/\(∃xs,de K H1 a xs)/\R (IJ K a) H1
def PD(K:ao)(tl:TE):TI:=λσ H R=>tl σ H λx H1=>∃a,x=.ref a/\(∃xs,aT K H1 a xs)/\R (II K a) H1
theorem tR{l:Expr}(hl:PE X l tl):PI X tg l (KS X.K tl):=by
 intro pins s σ H R I h;refine cH (hl pins s σ H _ I h) λv s1 bJ=>?_;obtain⟨x,H1,I1,r1,q1⟩:=bJ;obtain⟨a,e,⟨xs,hq⟩,q⟩:=q1;subst e;cases r1;obtain⟨its,rv,p,hz⟩:=I1.list hq;refine wpAny_pyIter_list p.isList ?_;refine⟨s1.heap.objs.size,[s1.heap.objs.size],_,_,H1,rfl,I1.kept (t':=s1.toks) λb o e=>WQ _ e,vd a _,⟨_,WZ _ rfl,rfl,rfl⟩,λb hb=>?_,q⟩;have e:b=s1.heap.objs.size:=by simpa using hb
 subst e;exact I1.BR (WV _) (I1.ck.fresh (WV _))
theorem xN{l:Expr}(hl:PE X l tl):PI X tg l (PD X.K tl):=by
 intro pins s σ H R I h;refine cH (hl pins s σ H _ I h) λv s1 bJ=>?_;obtain⟨x,H1,I1,r1,q1⟩:=bJ;obtain⟨a,e,⟨xs,hq⟩,q⟩:=q1;subst e;cases r1;obtain⟨its,rv,p,hz⟩:=I1.tuple hq;refine wpAny_pyIter_tuple (show s1.heap.IsTuple a its.toArray from p) ?_;refine⟨s1.heap.objs.size,[s1.heap.objs.size],_,_,H1,rfl,I1.kept (t':=s1.toks) λb o e=>WQ _ e,qZ a _,⟨_,WZ _ rfl,rfl,rfl⟩,λb hb=>?_,q⟩;have e:b=s1.heap.objs.size:=by simpa using hb
 subst e;exact I1.BR (WV _) (I1.ck.fresh (WV _))
theorem pS{pins:ak}{s:Shared}{R:It->Hp->Prop}{E:aw}{hi:Int}{t u v:Tok}{tk:Nat}(I:Inv X pins σ H s)(h1:-(2 ^ 62)<=lo)(h2:lo<2 ^ 62)(h3:-(2 ^ 62)<=hi)(h4:hi<2 ^ 62)
  (q:R (wq lo (hi - lo).toNat) H):wpAny (model X.prog X.w) X.A (pyIter (.ref s.heap.objs.size)) (zY X pins σ tg R) E { s with heap:=s.heap.push { cls:=.type "range",data:=.fields #[.int lo t,.int hi u,.int 1 v] },toks:=tk }:=by
 refine wpAny_pyIter_range (IsRange.new ..) (small_one h1 h2 h3 h4) ?_;have I1:Inv X pins σ H { s with heap:=s.heap.push { cls:=.type "range",data:=.fields #[.int lo t,.int hi u,.int 1 v] },toks:=tk }:=I.kept λb o e=>WQ _ e;refine⟨(s.heap.push { cls:=.type "range",data:=.fields #[.int lo t,.int hi u,.int 1 v] }).objs.size,[(s.heap.push { cls:=.type "range",data:=.fields #[.int lo t,.int hi u,.int 1 v] }).objs.size],_,_,H,rfl,
  I1.kept (t':=tk) λb o e=>WQ _ e,q_ _ lo (hi - lo).toNat,?_,λb hb=>?_,q⟩
 ·have e1:lo+((0:Nat):Int)*1=lo:=by simp
  have e2:(((hi - lo).toNat:Nat):Int) - ((0:Nat):Int)=Builtin.Range.rangeSize lo hi 1:=by rw[rangeSize_one];split<;>left
  show IsRangeIter _ _ (lo+((0:Nat):Int)*1) ((((hi - lo).toNat:Nat):Int) - ((0:Nat):Int)) 1;rw[e1,e2];exact WZ _ rfl
 ·have e:b=(s.heap.push { cls:=.type "range",data:=.fields #[.int lo t,.int hi u,.int 1 v] }).objs.size:=by simpa using hb
  subst e;exact I1.BR (WV _) (I1.ck.fresh (WV _))
def KR(ta:TA):TI:=λσ H R=>ta σ H λvs H1=>∃j:Int,vs=[.int j] /\ -(2 ^ 62)<=j/\j<2 ^ 62/\R (wq 0 j.toNat) H1
def KQ(ta:TA):TI:=λσ H R=>ta σ H λvs H1=>∃i j:Int,vs=[.int i,.int j]/\(-(2 ^ 62)<=i/\i<2 ^ 62 /\ -(2 ^ 62)<=j/\j<2 ^ 62)/\R (wq i (j - i).toNat) H1
theorem mO{a:Expr}{p:Pos}(hg:Gl X "range")(hm:X.mg "range" = none)(ha:PA X [a] ta)(hs:starEach [a] X.env=[(false,eval a X.env)]:=by rfl):PI X tg (.Call (.Name "range" p) [a] [] pos) (KR ta):=by
 intro pins s σ H R I h;refine Call_ (dA I hg hm boot_range (W9 (cH (ha pos pins s σ H _ I h) λus s1 bJ=>?_) hs rfl));obtain⟨vs,H1,I1,r1,q1⟩:=bJ;obtain⟨j,e,q1,q2,q⟩:=q1;subst e;cases r1 with
 |cons r rr =>
  cases rr;obtain⟨t,rfl⟩:=r;exact call_range_1 (pS I1 (by left) (by left) q1 q2 (by simpa using q))
theorem Ia{a b:Expr}{p:Pos}(hg:Gl X "range")(hm:X.mg "range" = none)(ha:PA X [a,b] ta)(hs:starEach [a,b] X.env=[(false,eval a X.env),(false,eval b X.env)]:=by rfl)(Sr:starEach [b] X.env=[(false,eval b X.env)]:=by rfl):
  PI X tg (.Call (.Name "range" p) [a,b] [] pos) (KQ ta):=by
 intro pins s σ H R I h;refine Call_ (dA I hg hm boot_range (W9 (cH (ha pos pins s σ H _ I h) λus s1 bJ=>?_) (by rw[hs,Sr]) (by rw[Sr];rfl)));obtain⟨vs,H1,I1,r1,q1⟩:=bJ;obtain⟨i,j,e,⟨q1,q2,q3,q4⟩,q⟩:=q1;subst e;cases r1 with
 |cons r rr =>
  cases rr with
  |cons r' rr =>
   cases rr;obtain⟨t,rfl⟩:=r;obtain⟨t',rfl⟩:=r';exact call_range_2 (pS I1 q1 q2 q3 q4 q)
def Of(wi:TI)(g:TG)(tb:TS):TS:=λD σ H=>wi σ H λJ H1=>∃W:Nat->Nat->St->Hp->Prop,(∃m,W 0 m σ H1)/\∀i m σ H,W i m σ H ->
 (J.stop i H/\D.nx σ H)\/(J.go i H/\∃N:St->Hp->Prop,(∀σ' H',N σ' H'->∃m',m'<m/\W (i+1) m' σ' H')/\∀x H',J.qM i H x H'->g x σ H' λσ2 H2=>tb { D with nx:=N,ct:=N,bk:=D.nx } σ2 H2)
noncomputable def gg(fp:aO)(h:Heap):ak:=fp.filterMap λb=>(h.get? b).map λo=>(b,o)
theorem fE{h:Heap}{b:Addr}{o:Obj}(hb:b∈fp)(e:h.get? b=some o):(b,o)∈gg fp h:=List.mem_filterMap.mpr ⟨b,hb,by rw[e];rfl⟩
theorem mQ{h:Heap}{p:Addr×Obj}(hp:p∈gg fp h):p.1∈fp/\h.get? p.1=some p.2:=by
 obtain⟨b,hb,e⟩:=List.mem_filterMap.mp hp;cases q:h.get? b with
 |none=>rw[q]at e;cases e
 |some o =>
  rw[q]at e;have e':(b,o)=p:=W4 e;subst e';exact⟨hb,q⟩
theorem Inv.pinned{pins:ak}{s:Shared}(I:Inv X pins σ H s)(hf:∀b∈fp,l5 X pins H b)(ho:∀b∈fp,∃o,s.heap.get? b=some o/\∀v,o.data≠.cell v):Inv X (pins++gg fp s.heap) σ H s :=
 I.gG λp hp=>(List.mem_append.mp hp).elim (λz=>I.pin p (WW _ z)) λz=>by
  obtain⟨hb,e⟩:=mQ z;obtain⟨f0,f1,f2,_⟩:=hf p.1 hb;obtain⟨o,e',d⟩:=ho p.1 hb;rw[e]at e';cases e';exact⟨e,f0,f1,f2,d⟩
theorem Inv.iL{pins pl:ak}{s:Shared}(I:Inv X (pins++pl) σ H s):Inv X pins σ H s:=I.gG λp hp=>I.pin p (WW _ (W0 _ hp))
theorem nK{iter:Expr}{body:aL}{wi:TI}{g:TG}{tb:TS}(hp:PassesOwn (model X.prog X.w) X.A X.env X.xe)(hc:X.calm=true)(hi:PI X tg iter wi)(hg:PG X tg g)(hb:jc X body tb)
  (hs:∀x,foldedSetIterable iter X.env x=pure x:=by intro _;rfl):PS X (.For tg iter body [] pos) (Of wi g tb):=by
 intro pins s σ H D I h;refine wpAny_For (cH (hi pins s σ H _ I h) λv s1 h1=>cH h1 λPo s2 h2=>?_) hs;obtain⟨it,fp,tn,J,H2,e,I2,T,C2,f2,W,⟨m0,w0⟩,turn⟩:=h2;subst e;have Ep:∀{H':Hp},(∀b∈fp,H' b=none)->∀b∈fp,l5 X pins H' b:=λhn b hb=>⟨hn b hb,(f2 b hb).2⟩
 refine codeAny_forLoop_any (λn s'=>∃i σ' H',Inv X pins σ' H' s'/\tn i s'.heap/\(∀b∈fp,H' b=none)/\W i n σ' H') ?_ m0 ⟨0,σ,H2,I2,C2,λb hb=>(f2 b hb).1,w0⟩;rintro n s3 ⟨i,σ3,H3,I3,Jt,fr3,w3⟩;rcases turn i n σ3 H3 w3 with ⟨stop,qn⟩|⟨go,N,hN,step⟩
 ·refine Xx hp (cH (T.done X rfl rfl rfl hc i pins s3 σ3 H3 X.xe I3 (Ep fr3) Jt stop) λr s4 bJ=>?_);obtain⟨hr,I4⟩:=bJ;subst hr;exact wpAny_execs_nil ⟨σ3,H3,I4,qn⟩
 ·refine Xx hp (cH (T.item X rfl rfl rfl hc i pins s3 σ3 H3 X.xe I3 (Ep fr3) Jt go) λr s4 bJ=>?_);obtain⟨u,hr,h4⟩:=bJ;subst hr;refine Xx hp (cH h4 λ_ s5 bJ=>?_);obtain⟨x,H5,I5,r5,y5,Eu,QN⟩:=bJ;have Rq:=I5.pinned (Ep QN) (T.obj _ _ Eu);refine Xx hp (cH (hg _ s5 σ3 H5 x u _ Rq r5 (step x H5 y5)) λ_ s6 bJ=>?_);obtain⟨σ6,H6,I6,q6⟩:=bJ;refine Xx hp (cH (hb _ s6 σ6 H6 _ I6 q6) λf s7 q7=>?_);have again:∀{σ7:St} {H7:Hp},Inv X (pins++gg fp s5.heap) σ7 H7 s7->N σ7 H7->∃m,m<n/\∃i σ' H',Inv X pins σ' H' s7/\tn i s7.heap/\(∀b∈fp,H' b=none)/\W i m σ' H':=λ{σ7 H7} I7 n7=>by
   obtain⟨m',hm,w7⟩:=hN σ7 H7 n7;refine⟨m',hm,i+1,σ7,H7,I7.iL,T.keep _ _ _ Eu λb hb o e=>(I7.pin (b,o) (WW _ (WW _ (fE hb e)))).1,λb hb=>?_,w7⟩;obtain⟨o,e,d⟩:=T.obj _ _ Eu b hb;exact(I7.pin (b,o) (WW _ (WW _ (fE hb e)))).2.1
  cases f with
  |next=>obtain⟨σ7,H7,I7,n7⟩:=q7;exact again I7 n7
  |cont=>obtain⟨σ7,H7,I7,n7⟩:=q7;exact again I7 n7
  |brk=>obtain⟨σ7,H7,I7,q7⟩:=q7;exact⟨σ7,H7,I7.iL,q7⟩
  |ret v=>obtain⟨x7,σ7,H7,I7,r7,q7⟩:=q7;exact⟨x7,σ7,H7,I7.iL,r7,q7⟩
end
variable {K:ao}{xs:ae}
theorem y6{a:Addr}{g:TG}{tb:TS}{D:Ends}(Pv:Nat->St->Hp->Prop)(h0:Pv 0 σ H)(hl:∀i σ H,i<=xs.length->Pv i σ H->de K H a xs)
  (hs:∀i x σ H,xs[i]?=some x->Pv i σ H->g x σ H λσ2 H2=>tb { D with nx:=Pv (i+1),ct:=Pv (i+1),bk:=D.nx } σ2 H2) (hd:∀σ H,Pv xs.length σ H->D.nx σ H) :
  ∃W:Nat->Nat->St->Hp->Prop,(∃m,W 0 m σ H)/\∀i m σ H,W i m σ H ->
   ((IJ K a).stop i H/\D.nx σ H)\/((IJ K a).go i H/\∃N:St->Hp->Prop,(∀σ' H',N σ' H'->∃m',m'<m/\W (i+1) m' σ' H')/\∀x H',(IJ K a).qM i H x H'->g x σ H' λσ2 H2=>tb { D with nx:=N,ct:=N,bk:=D.nx } σ2 H2):=by
 refine⟨λi m σ H=>m=xs.length - i/\i<=xs.length/\Pv i σ H,⟨xs.length,by simp,W6 _,h0⟩,?_⟩;rintro i m σ H ⟨rfl,hi,p⟩;have q:=hl i σ H hi p;by_cases fj:i<xs.length
 ·refine .inr ⟨⟨xs,xs[i],q,by simp[fj]⟩,Pv (i+1),λσ' H' p'=>⟨xs.length - (i+1),by left,rfl,fj,p'⟩,λx H' y=>?_⟩;obtain⟨e,y⟩:=y;subst e;exact hs i x σ _ (y xs q) p
 ·have e:i=xs.length:=by left
  subst e;exact .inl ⟨⟨xs,q,WV _⟩,hd σ H p⟩
theorem BS{a:Addr}{g:TG}{tb:TS}{D:Ends}(Pv:Nat->St->Hp->Prop)(h0:Pv 0 σ H)(hl:∀i σ H,i<=xs.length->Pv i σ H->aT K H a xs)
  (hs:∀i x σ H,xs[i]?=some x->Pv i σ H->g x σ H λσ2 H2=>tb { D with nx:=Pv (i+1),ct:=Pv (i+1),bk:=D.nx } σ2 H2) (hd:∀σ H,Pv xs.length σ H->D.nx σ H) :
  ∃W:Nat->Nat->St->Hp->Prop,(∃m,W 0 m σ H)/\∀i m σ H,W i m σ H ->
   ((II K a).stop i H/\D.nx σ H)\/((II K a).go i H/\∃N:St->Hp->Prop,(∀σ' H',N σ' H'->∃m',m'<m/\W (i+1) m' σ' H')/\∀x H',(II K a).qM i H x H'->g x σ H' λσ2 H2=>tb { D with nx:=N,ct:=N,bk:=D.nx } σ2 H2):=by
 refine⟨λi m σ H=>m=xs.length - i/\i<=xs.length/\Pv i σ H,⟨xs.length,by simp,W6 _,h0⟩,?_⟩;rintro i m σ H ⟨rfl,hi,p⟩;have q:=hl i σ H hi p;by_cases fj:i<xs.length
 ·refine .inr ⟨⟨xs,xs[i],q,by simp[fj]⟩,Pv (i+1),λσ' H' p'=>⟨xs.length - (i+1),by left,rfl,fj,p'⟩,λx H' y=>?_⟩;obtain⟨e,y⟩:=y;subst e;exact hs i x σ _ (y xs q) p
 ·have e:i=xs.length:=by left
  subst e;exact .inl ⟨⟨xs,q,WV _⟩,hd σ H p⟩
theorem vW{n:Nat}{g:TG}{tb:TS}{D:Ends}(Pv:Nat->St->Hp->Prop)(h0:Pv 0 σ H)
  (hs:∀i σ H,i<n->Pv i σ H->g (.int (lo+i)) σ H λσ2 H2=>tb { D with nx:=Pv (i+1),ct:=Pv (i+1),bk:=D.nx } σ2 H2) (hd:∀σ H,Pv n σ H->D.nx σ H) :
  ∃W:Nat->Nat->St->Hp->Prop,(∃m,W 0 m σ H)/\∀i m σ H,W i m σ H ->
   ((wq lo n).stop i H/\D.nx σ H)\/((wq lo n).go i H/\∃N:St->Hp->Prop,(∀σ' H',N σ' H'->∃m',m'<m/\W (i+1) m' σ' H')/\∀x H',(wq lo n).qM i H x H'->g x σ H' λσ2 H2=>tb { D with nx:=N,ct:=N,bk:=D.nx } σ2 H2):=by
 refine⟨λi m σ H=>m=n - i/\i<=n/\Pv i σ H,⟨n,by simp,W6 _,h0⟩,?_⟩;rintro i m σ H ⟨rfl,hi,p⟩;by_cases fj:i<n
 ·refine .inr ⟨fj,Pv (i+1),λσ' H' p'=>⟨n - (i+1),by left,rfl,fj,p'⟩,λx H' y=>?_⟩;obtain⟨e,y⟩:=y;subst e y;exact hs i σ _ fj p
 ·have e:i=n:=by left
  subst e;exact .inl ⟨WV _,hd σ H p⟩
end L2
namespace L2
open PySem PySem.Spec PyProof.Rows
abbrev R2:=V->V->Hp->VK->Prop
def iF(X:Cx)(f:Value->Value->Sem Value)(r:R2):Prop :=
 ∀(pins:ak) (s:Shared) (σ:St) (H:Hp) (x y:V) (v u:Value) (Q:VK),Inv X pins σ H s->RelV x v->RelV y u->r x y H Q ->
  wpAny (model X.prog X.w) X.A (f v u) (EP X pins σ Q) X.xe s
def Rl(X:Cx)(f:Value->Sem Value)(r:V->Hp->VK->Prop):Prop :=
 ∀(pins:ak) (s:Shared) (σ:St) (H:Hp) (x:V) (v:Value) (Q:VK),Inv X pins σ H s->RelV x v->r x H Q ->
  wpAny (model X.prog X.w) X.A (f v) (EP X pins σ Q) X.xe s
def eJ(X:Cx)(f:Value)(r:ae->Hp->VK->Prop):Prop :=
 ∀(pins:ak) (s:Shared) (σ:St) (H:Hp) (xs:ae) (us:ag) (Q:VK),Inv X pins σ H s->Vals xs us->r xs H Q ->
  wpAny (model X.prog X.w) X.A (call f us) (EP X pins σ Q) X.xe s
def Ek(r:R2)(ta tb:TE):TE:=λσ H Q=>ta σ H λx H1=>tb σ H1 λy H2=>r x y H2 Q
def TY(r:V->Hp->VK->Prop)(ta:TE):TE:=λσ H Q=>ta σ H λx H1=>r x H1 Q
def rI(C:Int->Int->Prop)(g:Int->Int->V):R2:=λx y H Q=>∃i j,x=.int i/\y=.int j/\C i j/\Q (g i j) H
def xH(g:Int->Int->V):R2:=λx y H Q=>∃i j,x=.int i/\y=.int j/\Q (g i j) H
def rU(g:Int->V):V->Hp->VK->Prop:=λx H Q=>∃i,x=.int i/\Q (g i) H
variable {H:Hp}{σ:L2.St}
section
variable {X:Cx}{a b c:Expr}{ta tb tc:TE}{pos:Pos}
theorem HI(ha:PE X a ta)(hb:PE X b tb){pins:ak}{s:Shared}{R:V->V->Hp->Prop}(I:Inv X pins σ H s)
  (h:ta σ H λx H1=>tb σ H1 λy H2=>R x y H2) {Q:aw} {f:Value->Value->Sem Value}
  (hf:∀v u s2 x y H2,Inv X pins σ H2 s2->RelV x v->RelV y u->R x y H2->wpAny (model X.prog X.w) X.A (f v u) Q X.xe s2) :
  wpAny (model X.prog X.w) X.A (eval a X.env) (λv s₁=>wpAny (model X.prog X.w) X.A (eval b X.env) (λu s₂=>wpAny (model X.prog X.w) X.A (f v u) Q X.xe s₂) X.xe s₁) X.xe s:=by
 refine cH (ha pins s σ H _ I h) λv s1 bJ=>?_;obtain⟨x,H1,I1,r1,q1⟩:=bJ;refine cH (hb pins s1 σ H1 _ I1 q1) λu s2 bJ=>?_;obtain⟨y,H2,I2,r2,q2⟩:=bJ;exact hf v u s2 x y H2 I2 r1 r2 q2
theorem Dj{op:Operator}{r:R2}(ho:iF X (binaryOp op) r)(ha:PE X a ta)(hb:PE X b tb):PE X (.BinOp a op b pos) (Ek r ta tb):=by
 intro pins s σ H Q I h;exact wpAny_BinOp (HI ha hb I h λv u s2 x y H2 I2 rx ry q=>ho pins s2 σ H2 x y v u Q I2 rx ry q)
theorem JZ{op:UnaryOp}{r:V->Hp->VK->Prop}(ho:Rl X (unaryOp op) r)(ha:PE X a ta):PE X (.UnaryOp op a pos) (TY r ta):=by
 intro pins s σ H Q I h;exact UnaryOp_ (cH (ha pins s σ H _ I h) λv s1 ⟨x,H1,I1,r1,q1⟩=>ho pins s1 σ H1 x v Q I1 r1 q1)
theorem Ib{f:Value->Value->Sem Value}{C:Int->Int->Prop}{g:Int->Int->Int}
  (rule:∀(i j:Int) (t u:Tok) (s:Shared) (Q:aw) (E:aw),C i j->Q (.int (g i j) s.toks) { s with toks:=s.toks+1 }->wpAny (model X.prog X.w) X.A (f (.int i t) (.int j u)) Q E s) :
  iF X f (rI C λi j=>.int (g i j)):=by
 intro pins s σ H x y v u Q I rx ry h;obtain⟨i,j,rfl,rfl,hc,q⟩:=h;obtain⟨t,rfl⟩:=rx;obtain⟨t',rfl⟩:=ry;exact rule i j t t' s _ _ hc ⟨.int (g i j),H,I.tok _,⟨_,rfl⟩,q⟩
theorem O2{f:Value->Value->Sem Value}{g:Int->Int->Int}
  (rule:∀(i j:Int) (t u:Tok) (s:Shared) (Q:aw) (E:aw),Q (.int (g i j) s.toks) { s with toks:=s.toks+1 }->wpAny (model X.prog X.w) X.A (f (.int i t) (.int j u)) Q E s) :
  iF X f (xH λi j=>.int (g i j)):=by
 intro pins s σ H x y v u Q I rx ry h;obtain⟨i,j,rfl,rfl,q⟩:=h;obtain⟨t,rfl⟩:=rx;obtain⟨t',rfl⟩:=ry;exact rule i j t t' s _ _ ⟨.int (g i j),H,I.tok _,⟨_,rfl⟩,q⟩
theorem A8{f:Value->Value->Sem Value}{g:Int->Int->Bool}
  (rule:∀(i j:Int) (t u:Tok) (s:Shared) (Q:aw) (E:aw),Q (.bool (g i j)) s->wpAny (model X.prog X.w) X.A (f (.int i t) (.int j u)) Q E s) :
  iF X f (xH λi j=>.bl (g i j)):=by
 intro pins s σ H x y v u Q I rx ry h;obtain⟨i,j,rfl,rfl,q⟩:=h;obtain⟨t,rfl⟩:=rx;obtain⟨t',rfl⟩:=ry;exact rule i j t t' s _ _ ⟨.bl (g i j),H,I,rfl,q⟩
theorem qY(k:Nat):(0:Int)<=2 ^ k:=by
 rw[two_pow_cast];exact Int.natCast_nonneg _
theorem FI:iF X (binaryOp .Add) (xH λi j=>.int (i+j)):=O2 λ_ _ _ _ _ _ _ q=>add_int q
theorem A5:iF X (binaryOp .Mod) (rI (λ_ j=>j≠0) λi j=>.int (i.fmod j)):=Ib λ_ _ _ _ _ _ _ hc q=>mod_int' hc q
theorem O0:iF X (binaryOp .RShift) (rI (λ_ j=>0<=j) λi j=>.int (i / 2 ^ j.toNat)):=Ib λi j _ _ _ _ _ hc q =>
 rshift_int hc (by rw[Int.fdiv_eq_ediv_of_nonneg i (qY _)];exact q)
theorem TM{f:Value->Sem Value}{g:Int->Int}
  (rule:∀(i:Int) (t:Tok) (s:Shared) (Q:aw) (E:aw),Q (.int (g i) s.toks) { s with toks:=s.toks+1 }->wpAny (model X.prog X.w) X.A (f (.int i t)) Q E s) :
  Rl X f (rU λi=>.int (g i)):=by
 intro pins s σ H x v Q I rx h;obtain⟨i,rfl,q⟩:=h;obtain⟨t,rfl⟩:=rx;exact rule i t s _ _ ⟨.int (g i),H,I.tok _,⟨_,rfl⟩,q⟩
theorem D9:Rl X (unaryOp .USub) (rU λi=>.int (-i)):=TM λ_ _ _ _ _ q=>neg_int q
end
variable {us:ag}
section
variable {X:Cx}{a b c:Expr}{ta tb tc:TE}{pos:Pos}
theorem y7{pins:ak}{s:Shared}{Q:VK}{k k':Bool}(I:Inv X pins σ H s)(q:Q (.bl k) H)(e:k=k'):EP X pins σ Q (.bool k') s:=by
 subst e;exact⟨.bl k,H,I,rfl,q⟩
theorem J9:iF X (compareOp .Lt) (xH λi j=>.bl (decide (i<j))):=A8 λ_ _ _ _ _ _ _ q=>lt_int q
theorem J_:iF X (compareOp .LtE) (xH λi j=>.bl (decide (i<=j))):=A8 λ_ _ _ _ _ _ _ q=>le_int q
theorem Ka:iF X (compareOp .Gt) (xH λi j=>.bl (decide (j<i))):=A8 λ_ _ _ _ _ _ _ q=>gt_int q
theorem Kb:iF X (compareOp .GtE) (xH λi j=>.bl (decide (j<=i))):=A8 λ_ _ _ _ _ _ _ q=>ge_int q
theorem FE:iF X (compareOp .Is) (λx y H Q=>y=.bz/\Q (.bl (decide (x=.bz))) H):=by
 intro pins s σ H x y v u Q I rx ry h;obtain⟨rfl,q⟩:=h;cases ry;refine is_none_gen (y7 I q ?_);cases x<;>first
  | (cases rx;rfl)
  | (obtain⟨t,rfl⟩:=rx;rfl)
theorem A4:iF X (compareOp .IsNot) (λx y H Q=>y=.bz/\Q (.bl (!decide (x=.bz))) H):=by
 intro pins s σ H x y v u Q I rx ry h;obtain⟨rfl,q⟩:=h;cases ry;refine isnot_none_gen (y7 I q ?_);cases x<;>first
  | (cases rx;rfl)
  | (obtain⟨t,rfl⟩:=rx;rfl)
theorem iF.or{f:Value->Value->Sem Value}{r r':R2}(h:iF X f r)(h':iF X f r'):iF X f (λx y H Q=>r x y H Q\/r' x y H Q):=by
 intro pins s σ H x y v u Q I rx ry q;rcases q with q|q
 ·exact h pins s σ H x y v u Q I rx ry q
 ·exact h' pins s σ H x y v u Q I rx ry q
theorem O8(b:Expr){op:CmpOp}(h:op≠.In:=by decide)(h2:op≠.NotIn:=by decide):behindInMarks op b=false:=by
 have e1:(op==CmpOp.In)=false:=by cases op<;>first|rfl|exact absurd rfl h
 have e2:(op==CmpOp.NotIn)=false:=by cases op<;>first|rfl|exact absurd rfl h2
 cases b<;>simp[behindInMarks,e1,e2]
theorem AX{op:CmpOp}{r:R2}(ho:iF X (compareOp op) r)(ha:PE X a ta)(hb:PE X b tb)(hm:behindInMarks op b=false):PE X (.Compare a [op] [b] pos) (Ek r ta tb):=by
 intro pins s σ H Q I h;exact wpAny_Compare1 (HI ha hb I h λv u s2 x y H2 I2 rx ry q=>ho pins s2 σ H2 x y v u Q I2 rx ry q) hm
def CV(t:TE):TT:=λσ H Q=>t σ H λx H'=>∃k,x=.bl k/\Q k H'
theorem AR{op:CmpOp}{r:R2}(ho:iF X (compareOp op) r)(ha:PE X a ta)(hb:PE X b tb)(hm:behindInMarks op b=false):PT X (.Compare a [op] [b] pos) (CV (Ek r ta tb)):=by
 intro pins s σ H Q I h;refine wpAny_isTrue_Compare1 (cH (ha pins s σ H _ I h) λv s1 ⟨x,H1,I1,r1,q1⟩=>cH (hb pins s1 σ H1 _ I1 q1) λu s2 ⟨y,H2,I2,r2,q2⟩ =>
  cH (ho pins s2 σ H2 x y v u _ I2 r1 r2 q2) λc s3 ⟨z,H3,I3,r3,k,e,q3⟩=>?_) hm
 subst e;cases r3;exact Xo ⟨H3,I3,q3⟩
theorem nZ:(sizeLine:Nat)<2 ^ 63:=by rw[sizeLine_eq];decide
theorem vals1{x:V}(r:Vals [x] us):∃u,us=[u]/\RelV x u:=by
 cases r with
 |cons r1 r2=>cases r2;exact⟨_,rfl,r1⟩
theorem vals2{x y:V}(r:Vals [x,y] us):∃u w',us=[u,w']/\RelV x u/\RelV y w':=by
 cases r with
 |cons r1 r2 =>
  cases r2 with
  |cons r3 r4=>cases r4;exact⟨_,_,rfl,r1,r3⟩
theorem zy:eJ X (.builtin "abs") (λxs H Q=>∃i,xs=[.int i]/\Q (.int (if i<0 then -i else i)) H):=by
 intro pins s σ H xs us Q I r h;obtain⟨i,rfl,q⟩:=h;obtain⟨u,rfl,t,rfl⟩:=vals1 r;exact call_abs_int λu tk=>⟨.int (if i<0 then -i else i),H,I.tok _,⟨_,rfl⟩,q⟩
theorem IE(hc:X.calm=true):eJ X (.builtin "max") (λxs H Q=>∃i j,xs=[.int i,.int j]/\Q (.int (if j>i then j else i)) H):=by
 intro pins s σ H xs us Q I r h;obtain⟨i,j,rfl,q⟩:=h;obtain⟨u,w',rfl,⟨t,rfl⟩,⟨t',rfl⟩⟩:=vals2 r;refine max_two_ints (I.ok.hd hc) λh' tk k=>⟨_,H,I.kept k,?_,q⟩
 by_cases hj:j>i
 ·rw[if_pos hj,if_pos hj];exact⟨_,rfl⟩
 ·rw[if_neg hj,if_neg hj];exact⟨_,rfl⟩
theorem wc(hc:X.calm=true):eJ X (.builtin "min") (λxs H Q=>∃i j,xs=[.int i,.int j]/\Q (.int (if j<i then j else i)) H):=by
 intro pins s σ H xs us Q I r h;obtain⟨i,j,rfl,q⟩:=h;obtain⟨u,w',rfl,⟨t,rfl⟩,⟨t',rfl⟩⟩:=vals2 r;refine min_two_ints (I.ok.hd hc) λh' tk k=>⟨_,H,I.kept k,?_,q⟩
 by_cases hj:j<i
 ·rw[if_pos hj,if_pos hj];exact⟨_,rfl⟩
 ·rw[if_neg hj,if_neg hj];exact⟨_,rfl⟩
theorem IF:eJ X (.type "int") (λxs H Q=>(∃i,xs=[.int i]/\Q (.int i) H)\/∃k,xs=[.bl k]/\Q (.int (if k then 1 else 0)) H):=by
 intro pins s σ H xs us Q I r h;rcases h with ⟨i,rfl,q⟩|⟨k,rfl,q⟩
 ·obtain⟨u,rfl,t,rfl⟩:=vals1 r;exact call_int_int ⟨.int i,H,I,⟨_,rfl⟩,q⟩
 ·obtain⟨u,rfl,r1⟩:=vals1 r;cases r1;exact call_int_bool ⟨.int (if k then 1 else 0),H,I.tok _,⟨_,rfl⟩,q⟩
end
end L2
namespace L2
open PySem PySem.Spec PyProof.Rows
structure Wc(h:Heap)(x dx C:Addr)(mA:aN):Prop where
 obj:h.get? x=some (PySem.W.instObj C dx)
 ns:h.Ns1 dx mA
 ne:dx≠x
section
variable {prog:ax}{w:World}{A:ay}{E:aw}{s:Shared}{K:ao}{x dx C f:Addr}{mA:aN}{name:Str}{v:Value}
end
theorem lZ.some_of{v:V}{o:Option Value}(r:lZ (some v) o):∃u,o=some u/\RelV v u:=by
 cases o with
 |none=>exact(show False from r).elim
 |some u=>exact⟨u,rfl,r⟩
theorem lZ.none_of{o:Option Value}(r:lZ none o):o=none:=by
 cases o with
 |none=>rfl
 |some u=>exact(show False from r).elim
section
variable {P:ax}{w:World}{H H':Hp}{h h':Heap}{a C dx:Addr}{fs VD:List (Str×V)}
end
structure Wq(K:ao)(C:Addr):Prop where
 pg:PySem.W.plainGet K C Str.empty=true
 hd:PySem.W.hasDictIn K C=true
 po:PySem.W.plainOver K C=true
 sa:PySem.W.findIn K (.ref C) "__setattr__" = some (some (.builtin "object.__setattr__"))
structure WM(K:ao)(C:Addr)(f:Str)(v:V)(u:Value):Prop where
 at_:PySem.W.findIn K (.ref C) f=some (some u)
 rel:RelV v u
 get:PySem.W.specialIn K u "__get__" = some none
 cp:PySem.W.copiedNames.contains f=false
structure Meth(K:ao)(C:Addr)(m:Str)(f:Addr):Prop where
 at_:PySem.W.findIn K (.ref C) m=some (some (.ref f))
 fn:PySem.W.isFn K (.ref f)=true
 kp:PySem.W.keepIn K (.ref f)=true
section
variable {X:Cx}{pins:ak}{σ:St}{H:Hp}{s:Shared}{a C dx:Addr}{fs:List (Str×V)}{f:Str}{v:V}{A:ay}{E:aw}
end
section
variable {X:Cx}{o e value:Expr}{f:Str}{pos pos' TQ:Pos}{ta tv:TE}
end
section
variable {X:Cx}{pins:ak}{σ:St}{H:Hp}{s:Shared}{A:ay}{E:aw}{Q:aw}{c:Value}{b:Bool}
inductive lY(K:ao)(H:Hp):V->Value->Prop where
 |bz:lY K H .bz (.type "NoneType")
 |bl (x:Bool):lY K H (.bl x) (.type "bool")
 |int (i:Int):lY K H (.int i) (.type "int")
 |str (x:Str):lY K H (.str x) (.type "str")
 |LW (x:UInt64):lY K H (.LW x) (.type "float")
 |lst {a:Addr} {xs:ae} (e:H a=some (.lst xs)):lY K H (.ref a) (.type "list")
 |fu {a:Addr} {o:Obj} {xs:ae} (e:H a=some (.fu o (.lst xs))):lY K H (.ref a) (.type "list")
 |tup {a:Addr} {xs:ae} (e:H a=some (.tup xs)):lY K H (.ref a) (.type "tuple")
 |dK {a:Addr} {lj:List (Key×V)} (e:H a=some (.dK lj)):lY K H (.ref a) (.type "dict")
 |dT {a:Addr} {lj:List (List Key×V)} (e:H a=some (.dT lj)):lY K H (.ref a) (.type "dict")
 |ins {a C dx:Addr} {fs:List (Str×V)} (e:H a=some (.ins C dx fs)) (cl:Wq K C) (ha:PySem.W.findIn K (.ref C) "__class__" = some (some (.builtin "object.__class__")))
   (hn:PySem.W.specialIn K (.builtin "object.__class__") "__get__" = some (some (.builtin "getset_descriptor.__get__"))) (WA:PySem.W.takesIn K (.builtin "object.__class__")=some true)
   (hm:PySem.W.mroIn K C (.type "object")=some true):lY K H (.ref a) (.ref C)
end
end L2
namespace L2
open PySem PySem.Spec PyProof.Rows
structure eN(k:Nat)(A:ay):Prop where
 hd:A.handled=none
 dp:A.depth+3*k+5<recursionLimit
 un:A.units+16*k+200<cLine
variable {A:ay}
theorem eN.mono{j k:Nat}(r:eN k A)(h:j<=k):eN j A:=⟨r.hd,by have:=r.dp;left,by have:=r.un;left⟩
theorem eN.deeper{k:Nat}{A:ay}(r:eN (k+1) A)(env:Env):eN k (A.deeper env) :=
 ⟨r.hd,by have:=r.dp;show A.depth+1+3*k+5<_;left,by have:=r.un;show A.units+3+16*k+200<_;left⟩
theorem eN.depth{k:Nat}{A:ay}(r:eN k A):A.depth<recursionLimit:=by have:=r.dp;left
theorem eN.units{k:Nat}{A:ay}(r:eN k A):A.units+64<cLine:=by have:=r.un;left
def Jl:TA:=λ_ H Q=>Q [] H
def CY(ta:TE)(tr:TA):TA:=λσ H Q=>ta σ H λx H1=>tr σ H1 λxs H2=>Q (x::xs) H2
section
variable {X:Cx}{e:Expr}{es:au}{te:TE}{t:TA}{pos:Pos}
theorem eW:PA X [] Jl:=λ_ _ _ _ H Q I h=>X6 ⟨[],H,I,.nil,h⟩
theorem cO(ha:PE X e te)(hr:PA X es t)(hs:starEach (e::es) X.env=(false,eval e X.env)::starEach es X.env:=by rfl):PA X (e::es) (CY te t):=by
 intro pos pins s σ H Q I h;rw[hs];show wpAny _ _ (spliced ((false,eval e X.env)::backTo pos (starEach es X.env))) _ _ s;refine XX (cH (ha pins s σ H _ I h) λu s1 bJ=>?_);obtain⟨x,H1,I1,r1,q1⟩:=bJ;exact cH (hr pos pins s1 σ H1 _ I1 q1) λus s2 ⟨xs,H2,I2,r2,q2⟩=>⟨x::xs,H2,I2,.cons r1 r2,q2⟩
def N9(t:TA):TE:=λσ H Q=>t σ H λxs H1=>xs.length<=sizeLine/\∀p,H1 p=none->Q (.ref p) (upd H1 p (.tup xs))
def Od(t:TA):TE:=λσ H Q=>t σ H λxs H1=>xs.length<=sizeLine/\∀p,H1 p=none->Q (.ref p) (upd H1 p (.lst xs))
theorem Fp{x1}(h:PA X es t):PE X (.Tuple es x1 pos) (N9 t):=by
 intro pins s σ H Q I hq;refine wpAny_Tuple_spliced (cH (h pos pins s σ H _ I hq) λus s1 ⟨xs,H1,I1,r,z,q⟩=>⟨by rw[<- r.length];exact z,?_⟩);have hf:H1 s1.heap.objs.size=none:=I1.ck.fresh (WV _);refine⟨.ref s1.heap.objs.size,upd H1 s1.heap.objs.size (.tup xs),I1.laid (t':=s1.toks) (λb u e=>WQ _ e) (WV _) ?_,rfl,q _ hf⟩;exact⟨z,us,r,⟨_,WZ _ rfl,rfl,_,rfl⟩⟩
theorem Ft(h:PA X es t):PE X (.List es pos) (Od t):=by
 intro pins s σ H Q I hq;refine wpAny_List_spliced (cH (h pos pins s σ H _ I hq) λus s1 ⟨xs,H1,I1,r,z,q⟩=>⟨by rw[<- r.length];exact z,?_⟩);have hf:H1 s1.heap.objs.size=none:=I1.ck.fresh (WV _);refine⟨.ref s1.heap.objs.size,upd H1 s1.heap.objs.size (.lst xs),I1.laid (t':=s1.toks) (λb u e=>WQ _ e) (WV _) ?_,rfl,q _ hf⟩;exact⟨z,us,0,r,WZ _ rfl⟩
end
abbrev Sp:=ae->Hp->VK->XK->Prop
abbrev wF:=List Env->Hp->Shared->XK->aw
structure CF(P:ax)(w:World)(K:ao)(mg:aN)(base:Heap)(A:ay)(outer:List Env)(s:Shared)(H:Hp):Prop where
 frames:A.frames=some outer
 mod:Mod K mg base
 bs:∀b o,base.get? b=some o->s.heap.get? b=some o/\H b=none
 DL:base.objs.size<=s.heap.objs.size
 j0:s.heap.FunFrames base outer
 IB:∀b∈wC outer,H b=none
 ck:jB P w H s.heap
 bare:AllBare s.gens
 tab:∃p,fZ p H s.heap
def CE(outer:List Env)(P:ax)(w:World)(H:Hp)(s:Shared)(Q:VK)(u:Value)(s':Shared):Prop :=
 ∃v H',s'.os=s.os/\AllBare s'.gens/\Un (wC outer) [] H H' s.heap s'.heap/\jB P w H' s'.heap/\RelV v u/\Q v H'
def CR(CX:wF)(outer:List Env)(P:ax)(w:World)(H:Hp)(s:Shared)(Q:VK)(E:XK)(r:Result)(s':Shared):Prop :=
 match r with
 |.ok (.ret u)=>CE outer P w H s Q u s'
 |.ok _=>False
 |.error e=>CX outer H s E e s'
structure f_(P:ax)(w:World)(K:ao)(mg:aN)(base:Heap)(CX:wF)(k:Nat)(f:Addr)(fd:FuncData)(ps:av)(sp:Sp):Prop where
 len:∀vs H Q E,sp vs H Q E->vs.length=ps.length
 run:∀(A:ay) (outer:List Env) (s:Shared) (H:Hp) (args:Args) (us:ag) (vs:ae) (Q:VK) (E:XK),eN k A->CF P w K mg base A outer s H->BindsTo s fd args (ps.zip us)->Vals vs us->sp vs H Q E ->
  codeAny (model P w) A (.call (.ref f) args) (CR CX outer P w H s Q E) s
theorem f_.mono{P:ax}{w:World}{K:ao}{mg:aN}{base:Heap}{CX:wF}{j k:Nat}{f:Addr}{fd:FuncData}{ps:av}{sp:Sp}(F:f_ P w K mg base CX j f fd ps sp)(h:j<=k):
  f_ P w K mg base CX k f fd ps sp:=⟨F.len,λA outer s H args us vs Q E hr=>F.run A outer s H args us vs Q E (hr.mono h)⟩
variable {Q:VK}
section
variable {X:Cx}{pins:ak}{σ:St}{H:Hp}{s s':Shared}
theorem Inv.BY(I:Inv X pins σ H s):CF X.prog X.w X.K X.mg X.base X.A X.stack s H :=
 ⟨I.ok.frames,I.ok.mod,I.bs,Xb I.ok.DL I.sz,I.stack,I.tj,I.ck,I.bare,let ⟨p,z⟩:=I.ok.tab;⟨p,I.base.kN p z⟩⟩
theorem Inv.after{u:Value}(I:Inv X pins σ H s)(h:CE X.stack X.prog X.w H s Q u s'):EP X pins σ Q u s':=by
 obtain⟨v,H',os,bare,un,ck,r,q⟩:=h;obtain⟨hh,g,d,t,OZ⟩:=s';obtain rfl:OZ=s.os:=os;exact⟨v,H',I.call (h':=hh) (g':=g) (d':=d) (t':=t) (ch:=[]) un ck bare (λb z=>absurd z (by simp)),r,q⟩
end
def Jo(sp:Sp)(eD:ae)(E:XK)(t:TA):TE:=λσ H Q=>t σ H λvs H1=>sp (vs++eD) H1 Q E
def Binds(K:ao)(fd:FuncData)(ps:av)(ds:ag):Prop :=
 ∀(s:Shared) (us:ag),K.In s.heap->(us++ds).length=ps.length->BindsTo s fd ⟨us,[]⟩ (ps.zip (us++ds))
variable {K:ao}{N ps:av}
theorem Binds.all{fd:FuncData}(h:∀us:ag,us.length=ps.length->bindArgs fd ⟨us,[]⟩=pure (ps.zip us)):Binds K fd ps []:=λs us _ hl=>by
 rw[List.append_nil]at hl ⊢;exact .of_eq (h us hl)
def Passes(CX:wF)(X:Cx)(E:XK):Prop:=∀(pins:ak) (σ:St) (H:Hp) (s:Shared) (e:Value) (s':Shared),Inv X pins σ H s->CX X.stack H s E e s'->X.xe e s'
variable {H:Hp}{us:ag}{vs:ae}
section
variable {X:Cx}{CX:wF}{k:Nat}{f C:Addr}{fd:FuncData}{ps:av}{sp:Sp}{eD:ae}{ds:ag}{E:XK}{x m:Str}{p pos apos:Pos}{e o:Expr}{es:au}{ta:TE}{t:TA}
theorem EU{pins:ak}{σ:St}{s:Shared}(F:f_ X.prog X.w X.K X.mg X.base CX k f fd ps sp)(hr:eN k X.A)(hb:Binds X.K fd ps ds)(hd:Vals eD ds)(hx:Passes CX X E)
  (I:Inv X pins σ H s) (r:Vals vs us) (h:sp (vs++eD) H Q E):wpAny (model X.prog X.w) X.A (call (.ref f) us) (EP X pins σ Q) X.xe s:=by
 have r2:Vals (vs++eD) (us++ds):=r.append hd;have hl:(us++ds).length=ps.length:=by rw[<- r2.length];exact F.len _ _ _ _ h
 refine wpAny_call (XY (F.run X.A X.stack s H ⟨us,[]⟩ (us++ds) (vs++eD) Q E hr I.BY (hb s us I.wu hl) r2 h) λr s' hq=>?_);cases r with
 |error e=>exact hx pins σ H s e s' I hq
 |ok fl =>
  cases fl with
  |ret u=>exact I.after hq
  |next=>exact False.elim hq
  |brk=>exact False.elim hq
  |cont=>exact False.elim hq
theorem AY(F:f_ X.prog X.w X.K X.mg X.base CX k f fd ps sp)(hr:eN k X.A)(hg:Gl X x)(hm:X.mg x=some (.ref f))(hk:PySem.W.keepIn X.K (.ref f)=true)(hb:Binds X.K fd ps ds)(hd:Vals eD ds)(hx:Passes CX X E)
  (ha:PA X (e::es) t) (Lu:(x==("__debug__" : Str))=false:=by decide) (he:starEach (e::es) X.env=(false,eval e X.env)::starEach es X.env:=by rfl) (hpl:(backTo pos (starEach es X.env)).any (·.1)=false:=by rfl) :
  PE X (.Call (.Name x p) (e::es) [] pos) (Jo sp eD E t):=by
 intro pins s σ H Q I h;refine Xn (t8 I hg hm ?_ Lu);refine PySem.W.callWith_K (h₀:=X.base) I.ok.mod.Ph hk (cH (ha pos pins s σ H _ I h) λus s1 ⟨vs,H1,I1,r,q⟩=>⟨I1.wu,?_⟩) he hpl;exact EU F hr hb hd hx I1 r q
structure Mk(K:ao)(C f:Addr):Prop where
 makes:PySem.W.makesIn K C=true
 init:PySem.W.findIn K (.ref C) "__init__" = some (some (.ref f))
 fn:PySem.W.isFn K (.ref f)=true
 kp:PySem.W.keepIn K (.ref C)=true
end
section
variable {X:Cx}{CX:wF}{k:Nat}{f C:Addr}{fd:FuncData}{ps ks:av}{sp:Sp}{E:XK}{x m:Str}{p pos apos UA:Pos}{e o:Expr}{es:au}{Ww:List Keyword}{te ta:TE}{t tk:TA}{nm:Option Str}
structure Ro(K:ao)(fd:FuncData)(ps ks:av)(g:ag->ag->ag)(gV:ae->ae->ae):Prop where
 to:∀(s:Shared) (us ws:ag),K.In s.heap->(g us ws).length=ps.length->BindsTo s fd ⟨us,ks.zip ws⟩ (ps.zip (g us ws))
 rel:∀{vs:ae} {us:ag} {zs:ae} {ws:ag},Vals vs us->Vals zs ws->Vals (gV vs zs) (g us ws)
variable {g:ag->ag->ag}{gV:ae->ae->ae}
end
structure fQ(N P:av)(sc:Scope):Prop where
 kind:sc.kind=.function
 co:sc.isCoroutine=false
 gen:sc.isGenerator=false
 nd:N.Nodup
 pre:N.take P.length=P
 par:∀x∈P,sc.names.lookup x=some .local\/sc.names.lookup x=some .cell
 FO:∀y∈sc.names,y.2≠.free
theorem m_{kindOf:Str->Option NameKind}{x:Str}:∀{binds:List (Str×Value)} {m:aN},(∀v,(x,v)∉binds)->bindL kindOf binds m x=m x
 |[],_,_=>rfl
 | (n,v)::r,m,h=>by
  unfold bindL;rw[m_ λw hw=>h w (List.mem_cons_of_mem _ hw)];split
  ·have:x≠n:=by rintro rfl;exact h v WR
   simp[this]
  ·rfl
theorem ng{kindOf:Str->Option NameKind}{x:Str}:∀{binds:List (Str×Value)} {m:aN},(∀v,(x,v)∉binds)->bindC kindOf binds m x=m x
 |[],_,_=>rfl
 | (n,v)::r,m,h=>by
  unfold bindC;rw[ng λw hw=>h w (List.mem_cons_of_mem _ hw)];split
  ·rfl
  ·have:x≠n:=by rintro rfl;exact h v WR
   simp[this]
theorem nc{kindOf:Str->Option NameKind}{x:Str}{v:Value}:∀{P:av} {vs:ag} {i:Nat} {m:aN},P.Nodup->P[i]?=some x->vs[i]?=some v->kindOf x=some .local ->
  bindL kindOf (P.zip vs) m x=some v
 |[],_,_,_,_,h,_,_=>by simp at h
 |_::_,[],_,_,_,_,h,_=>by simp at h
 |p::P,w::vs,0,m,nd,h1,h2,hk=>by
  simp at h1 h2;subst h1;subst h2;show bindL kindOf ((p,w)::P.zip vs) m p=_;unfold bindL;rw[m_ λv hv=>(List.nodup_cons.mp nd).1 (List.of_mem_zip hv).1,if_pos hk];simp
 |p::P,w::vs,i+1,m,nd,h1,h2,hk=>by
  show bindL kindOf ((p,w)::P.zip vs) m x=_;unfold bindL;exact nc (i:=i) (List.nodup_cons.mp nd).2 (by simpa using h1) (by simpa using h2) hk
theorem nh{kindOf:Str->Option NameKind}{x:Str}{v:Value}:∀{P:av} {vs:ag} {i:Nat} {m:aN},P.Nodup->P[i]?=some x->vs[i]?=some v->kindOf x≠some .local ->
  bindC kindOf (P.zip vs) m x=some v
 |[],_,_,_,_,h,_,_=>by simp at h
 |_::_,[],_,_,_,_,h,_=>by simp at h
 |p::P,w::vs,0,m,nd,h1,h2,hk=>by
  simp at h1 h2;subst h1;subst h2;show bindC kindOf ((p,w)::P.zip vs) m p=_;unfold bindC;rw[ng λv hv=>(List.nodup_cons.mp nd).1 (List.of_mem_zip hv).1,if_neg hk];simp
 |p::P,w::vs,i+1,m,nd,h1,h2,hk=>by
  show bindC kindOf ((p,w)::P.zip vs) m x=_;unfold bindC;exact nh (i:=i) (List.nodup_cons.mp nd).2 (by simpa using h1) (by simpa using h2) hk
noncomputable def start(N:av)(vs:ae):St:=vs.map some++List.replicate (N.length - vs.length) none
noncomputable def gO(CX:wF)(P:ax)(w:World)(K:ao)(mg:aN)(base:Heap)(N:av)(qual:Str)(scope:Scope)(f:Addr)(cd:Value)(A:ay)(outer:List Env)(s:Shared)(H:Hp)(E:XK):Cx where
 prog:=P
 w:=w
 K:=K
 mg:=mg
 base:=base
 A:=A.deeper (envOfC qual scope s.heap.objs.size f cd)
 N:=N
 s₀:=s
 H₀:=H
 env:=envOfC qual scope s.heap.objs.size f cd
 outer:=outer
 stack:=envOfC qual scope s.heap.objs.size f cd::outer
 ex:=[]
 calm:=true
 fn:=λ_=>true
 pn:=[]
 xe:=λe s'=>wpAny (model P w) (A.deeper (envOfC qual scope s.heap.objs.size f cd)) (leaving (envOfC qual scope s.heap.objs.size f cd) e) (λ_ MS=>CX outer H s E e MS) (λe' MS=>CX outer H s E e' MS) s'
theorem qC{sc:Scope}{n:Nat}{x:Str}(h:sc.names.lookup x=some .cell):∃c,(cellsFrom n sc.names []).lookup x=some c:=by
 have q:=PySem.W.cellsFrom_some sc.names n [] (.inl h);exact Option.isSome_iff_exists.mp q
variable {P:ax}{base:Heap}{mg:Str->Option Value}{qual:Str}{scope:Scope}{w:World}
theorem vJ{CX:wF}{f:Addr}{cd:Value}{outer:List Env}{s s1:Shared}{E:XK}  
  (S:fQ N ps scope) (hd:A.handled=none) (e0:CF P w K mg base A outer s H) (hl:vs.length=ps.length) (r:Vals vs us)
  (x:InCallC s s.heap.objs.size (bindL (envOfC qual scope s.heap.objs.size f cd).kindOf (ps.zip us) λ_=>none) (cellsFrom (s.heap.objs.size+1) scope.names []) (bindC (envOfC qual scope s.heap.objs.size f cd).kindOf (ps.zip us) λ_=>none) s1) :
  Inv (gO CX P w K mg base N qual scope f cd A outer s H E) [] (start N vs) H s1:=by
 have hpl:ps.length<=N.length:=by have:=XE List.length S.pre;rw[List.length_take]at this;left
 obtain⟨h1,tk,rfl,hk⟩:=x.done;have Kh:∀b:Addr,b∉(gO CX P w K mg base N qual scope f cd A outer s H E).ex:=λb z=>absurd (show b∈([]:aO) from z) (by simp);refine⟨⟨e0.mod,S.kind,rfl,rfl,WV _,λy z c h1 h2=>?_,λy hy=>?_,λy c _ h=>?_,λ_=>hd,Around.frames_deeper e0.frames,.inr ⟨rfl,rfl⟩,λb z=>absurd z (Kh b),e0.bs,e0.DL,λb _ _=>Kh b,λb z=>absurd z (Kh b),e0.j0,e0.IB,e0.tab⟩,
  rfl,e0.bare,Un.kept hk,⟨_,x.toInCall.ns,λi y v h1 h2 h3=>?_⟩,λy c h=>⟨_,x.cell y c h⟩,e0.ck.fresh (WV _),λy c h=>?_,λp hp=>absurd (show p∈([]:ak) from hp) (by simp),e0.ck.kept hk,?_⟩
 ·exact name_of_addr x.apart (Xr h1) (Xr h2)
 ·have hy:scope.names.lookup y=some .cell\/scope.names.lookup y=some .free:=hy;rcases hy with hy|hy
  ·exact qC hy
  ·exact absurd rfl (S.FO _ (Xr hy))
 ·exact Yj (x.above y c (Xr h))
 ·have hi:i<vs.length:=by
   unfold start at h2;by_cases hi:i<vs.length
   ·exact hi
   ·rw[List.getElem?_append_right (by simpa using hi)]at h2;rw[List.getElem?_replicate]at h2;split at h2<;>cases h2
  have ha:vs[i]?=some v:=by
   unfold start at h2;rw[List.getElem?_append_left (by simpa using hi),List.getElem?_map]at h2;cases e:vs[i]? with
   |none=>rw[e]at h2;cases h2
   |some a=>rw[e]at h2;cases h2;rfl
  obtain⟨u,hu,rv⟩:=r.get ha;have hp:ps[i]?=some y:=by
   rw[<- S.pre,List.getElem?_take_of_lt (by left)];exact h1
  have RT:ps.Nodup:=by rw[<- S.pre];exact S.nd.sublist (List.take_sublist _ _)
  refine⟨u,rv,?_⟩;rcases S.par y (Xd hp)with k|k
  ·exact .inl ⟨k,nc RT hp hu k⟩
  ·obtain⟨c,e⟩:=qC (n:=s.heap.objs.size+1) k;refine .inr ⟨.inl k,c,e,?_⟩;have q:=x.cell y c e;rw[nh RT hp hu (by show scope.names.lookup y≠_;rw[k];decide)]at q;exact q
 ·exact e0.ck.fresh (Yj (x.above y c (Xr h)))
 ·unfold start;show _=N.length;rw[List.length_append,List.length_map,List.length_replicate];left
theorem DF{CX:wF}{k:Nat}{f:Addr}{name:Str}{params:Arguments}{body:aL}{dV kV doc pm fX ct oc:Value}{an od:Option Addr}
  {xV:Array (Option Value)} {sp:Sp} (lk:K.lookup f=some ⟨oc,od,.func (PySem.W.fnOf name qual params body scope dV kV doc pm an fX ct),xV⟩) (hcd:PySem.W.codeIn K fX qual=true) (S:fQ N ps scope)
  (len:∀vs H Q E,sp vs H Q E->vs.length=ps.length)
  (yO:∀(A:ay) (outer:List Env) (s:Shared) (H:Hp) (vs:ae) (Q:VK) (E:XK),eN k (A.deeper (envOfC qual scope s.heap.objs.size f fX))->sp vs H Q E ->
   ∃t,jc (gO CX P w K mg base N qual scope f fX A outer s H E) body t/\t { nx:=λ_ H'=>Q .bz H',rt:=Q } (start N vs) H) :
  f_ P w K mg base CX (k+1) f (PySem.W.fnOf name qual params body scope dV kV doc pm an fX ct) ps sp:=by
 refine⟨len,λA outer s H args us vs Q E hr e0 hb r wz=>?_⟩;have hl:=len _ _ _ _ wz;have KX:K.In s.heap:=e0.mod.Ph.keeps λb o e=>(e0.bs b o e).1;have lim:s.heap.NoLimit:=e0.mod.nolimit.keeps λb o e=>(e0.bs b o e).1;have Lj:∀y∈ps.zip us,scope.names.lookup y.1=some .local\/(scope.names.lookup y.1=some .cell/\((cellsFrom (s.heap.objs.size+1) scope.names []).lookup y.1).isSome=true):=λ⟨n,v⟩ hy=>by
  rcases S.par n (List.of_mem_zip hy).1 with q|q
  ·exact .inl q
  ·exact .inr ⟨q,PySem.W.cellsFrom_some _ _ _ (.inl q)⟩
 refine codeAny_call_function hr.depth (KX _ _ lk) rfl S.co S.gen rfl (PySem.W.codeRec_of KX hcd) (hb _ _ _ _ ?_);refine wpAny_newFunctionEnv_cells S.kind Lj λenv he s1 x=>?_;subst he;refine⟨lim.keeps x.toInCall.keep,codeAny_func ?_⟩;obtain⟨t,ht,hq⟩:=yO A outer s H vs Q E (hr.deeper _) wz;have I:Inv (gO CX P w K mg base N qual scope f fX A outer s H E) [] (start N vs) H s1:=vJ S hr.hd e0 hl r x;refine W7 (ht [] s1 (start N vs) H _ I hq) (λfl s' hs=>?_) λe s' hs=>hs;have fin:∀{σ':St} {H':Hp} {v:V} {u:Value},Inv (gO CX P w K mg base N qual scope f fX A outer s H E) [] σ' H' s'->RelV v u->Q v H'->CE outer P w H s Q u s' :=
  λ{σ' H' v u} J rv q=>⟨v,H',J.os,J.bare,J.base,J.ck,rv,q⟩
 cases fl with
 |ret u =>
  obtain⟨v,σ',H',J,rv,q⟩:=hs;exact fin J rv q
 |next =>
  obtain⟨σ',H',J,q⟩:=hs;exact fin (v:=V.bz) (u:=Value.none) J rfl q
 |brk =>
  obtain⟨_,_,_,q⟩:=hs;exact False.elim q
 |cont =>
  obtain⟨_,_,_,q⟩:=hs;exact False.elim q
end L2
namespace L2
open PySem PySem.Spec PyProof.Rows
section
variable {X:Cx}{x:Str}{p pos:Pos}{e:Expr}{es:au}{t:TA}{id T:String}{r:ae->Hp->VK->Prop}
def Jp(r:ae->Hp->VK->Prop)(t:TA):TE:=λσ H Q=>t σ H λvs H1=>r vs H1 Q
theorem cV(hc:eJ X (.builtin id) r)(hg:Gl X x)(hm:X.mg x=none)(hv:bootBuiltins x=some (.builtin id))(ha:PA X (e::es) t)(hn:x ≠ "__name__":=by decide)(Lu:(x==("__debug__" : Str))=false:=by decide)
  (he:starEach (e::es) X.env=(false,eval e X.env)::starEach es X.env:=by rfl) (hpl:(backTo pos (starEach es X.env)).any (·.1)=false:=by rfl):PE X (.Call (.Name x p) (e::es) [] pos) (Jp r t):=by
 intro pins s σ H Q I h;refine Xn (dA I hg hm hv ?_ hn Lu);exact PyProof.Rows.callWith_builtin1 (cH (ha pos pins s σ H _ I h) λus s1 ⟨vs,H1,I1,r1,q1⟩=>hc pins s1 σ H1 vs us Q I1 r1 q1) he hpl
theorem mP(hc:eJ X (.type T) r)(hg:Gl X x)(hm:X.mg x=none)(hv:bootBuiltins x=some (.type T))(ha:PA X (e::es) t)(hn:x ≠ "__name__":=by decide)(Lu:(x==("__debug__" : Str))=false:=by decide)
  (he:starEach (e::es) X.env=(false,eval e X.env)::starEach es X.env:=by rfl) (hpl:(backTo pos (starEach es X.env)).any (·.1)=false:=by rfl):PE X (.Call (.Name x p) (e::es) [] pos) (Jp r t):=by
 intro pins s σ H Q I h;refine Xn (dA I hg hm hv ?_ hn Lu);exact W9 (cH (ha pos pins s σ H _ I h) λus s1 ⟨vs,H1,I1,r1,q1⟩=>hc pins s1 σ H1 vs us Q I1 r1 q1) he hpl
end
end L2
namespace HT
open PySem PyProof.Rows
noncomputable def lexLt:aa->aa->Bool
 |[],[]=>false
 |[],_::_=>true
 |_::_,[]=>false
 |x::xs,y::ys=>if x=y then lexLt xs ys else decide (x<y)
theorem dh(x y:Int)(xs ys:aa):lexLt (x::xs) (y::ys)=if x=y then lexLt xs ys else decide (x<y):=rfl
theorem gU:lexLt [] []=false:=rfl
theorem lg(y:Int)(ys:aa):lexLt [] (y::ys)=true:=rfl
theorem cw(x:Int)(xs:aa):lexLt (x::xs) []=false:=rfl
theorem zf(A:ay)(s:Shared)(a:Int)(t:Tok)(c:Int)(u:Tok):∃e,SeqAt.EqAt A s (.int a t) (.int c u) e/\(e=true ↔ a=c) :=
 ⟨(a==c),XZ a t c u,by simp⟩
theorem xG(A:ay)(s:Shared)(a:Int)(t:Tok)(c:Int)(u:Tok)(prog:ax)(w:World)(E:aw)(Q:aw)(h:Q (.bool (decide (a<c))) s):
  wpAny (model prog w) A (richCompare .Lt (.int a t) (.int c u)) Q E s :=
 (PyProof.Rows.lt_int h:wpAny (model prog w) A (compareOp .Lt (.int a t) (.int c u)) Q E s)
section
open PySem.SeqAt
open PySem.AutoSeq1 (wpAny_loadPart')
open PySem.MeetsSeq PySem.MeetsSeq2 PySem.MeetsSeq3
theorem gS(l b:Addr)(items eY:aC)(n n2:Nat)(dd zW:Option Addr)(sl zR:Array (Option Value))(ns ms:aa)(hi:IntsAre items.toList ns)(hj:IntsAre eY.toList ms):
  Meets (Builtin.«tuple.__lt__» ⟨[.ref l,.ref b],[]⟩)
   (λ_ R s=>s.heap.get? l=some { cls:=.type "tuple",dict:=dd,data:=.seq items n,slots:=sl }/\s.heap.get? b=some { cls:=.type "tuple",dict:=zW,data:=.seq eY n2,slots:=zR } /\
    R (.ok (.ret (.bool (lexLt ns ms)))) s) :=
 .of_wp λprog w A R s h=>by
  obtain⟨hp,g,d,tk,os⟩:=s;obtain⟨hl,hb,h⟩:=h;have f2:=AutoSeq1.sub_tuple_tuple;have z1:items.size=ns.length:=by rw[<- hi.length];simp
  have z2:eY.size=ms.length:=by rw[<- hj.length];simp
  wp_walk using wpAny_loadPart' hl,wpAny_loadPart' hb,wpAny_forIn_list _ (λrest b s'=>b.1=none/\s'=⟨hp,g,d,tk,os⟩/\∃(vs ws:ag) (jK Ic:aa),rest=vs.zip ws /\
   IntsAre vs jK/\IntsAre ws Ic/\jK.length+eY.size=Ic.length+items.size/\R (.ok (.ret (.bool (lexLt jK Ic)))) ⟨hp,g,d,tk,os⟩) _
  case turn =>
   rintro ⟨y,x⟩ rest b s' ⟨wA,rfl,vs,ws,jK,Ic,hz,PL,Nj,hlen,hR⟩;cases PL with
   |nil=>rw[List.zip_nil_left]at hz;cases hz
   |cons a t hvi' =>
    cases Nj with
    |nil=>rw[List.zip_nil_right]at hz;cases hz
    |cons c u hwi' =>
     rw[List.zip_cons_cons]at hz;injection hz with UK K4
     injection UK with hy hx
     subst hy hx;rw[dh]at hR;simp only[List.length_cons]at hlen;obtain⟨e,he,Lo⟩:=zf A.in1 ⟨hp,g,d,tk,os⟩ a t c u;refine WN (he prog w _ _ ?_);cases e with
     |true =>
      rw[if_pos (Lo.mp rfl)]at hR
      wp_walk
      exact⟨rfl,rfl,_,_,_,_,K4,hvi',hwi',by left,hR⟩
     |false =>
      rw[if_neg (λq=>absurd (Lo.mpr q) Bool.false_ne_true)]at hR;have UW:=xG A.in1 ⟨hp,g,d,tk,os⟩ a t c u prog w
      wp_walk using UW
      exact⟨_,rfl,by simpa using hR⟩
  case fin =>
   rintro ⟨b1,b2⟩ s' ⟨wA,rfl,vs,ws,jK,Ic,hz,PL,Nj,hlen,hR⟩;simp only at wA;subst wA;have hv:lexLt jK Ic=decide (items.size<eY.size):=by
    cases PL with
    |nil =>
     cases Nj with
     |nil =>
      simp only[List.length_nil]at hlen;rw[gU];exact(Xw (by left)).symm
     |cons c u hw =>
      simp only[List.length_nil,List.length_cons]at hlen;rw[lg];exact(Xc (by left)).symm
    |cons a t hv =>
     cases Nj with
     |nil =>
      simp only[List.length_nil,List.length_cons]at hlen;rw[cw];exact(Xw (by left)).symm
     |cons c u hw =>
      rw[List.zip_cons_cons]at hz;cases hz
   rw[hv]at hR
   wp_walk
   exact⟨_,rfl,by simpa [Builtin.Tuple.tupleCompareSizes]using hR⟩
  case h =>
   exact⟨rfl,rfl,items.toList,eY.toList,ns,ms,rfl,hi,hj,by left,h⟩
end
variable {Q:Value->Shared->Prop}
section
variable {prog:ax}{w:World}{A:ay}{E:aw}{s:Shared}
theorem rN{l b:Addr}{items eY:aC}{ns ms:aa}(hl:IsTup s.heap l items)(hb:IsTup s.heap b eY)(hi:IntsAre items.toList ns)(hj:IntsAre eY.toList ms)
  (hu:A.units<cLine) (h:Q (.bool (lexLt ns ms)) s):wpAny (model prog w) A (compareOp .Lt (.ref l) (.ref b)) Q E s:=by
 obtain⟨⟨cls,dd,data,sl⟩,ho,hc,n,hd⟩:=id hl;obtain⟨⟨HD,zW,data2,zR⟩,qP,hc2,n2,hd2⟩:=id hb;simp only at hc hd hc2 hd2;subst hc hd hc2 hd2;exact richCompare_meets_room (op:=.Lt) ⟨_,ho,rfl⟩ ⟨_,qP,rfl⟩ Yh PySem.F.entry_tuple_lt (PySem.F.args_tuple_lt_2 _ _) (gS l b items eY n n2 dd zW sl zR ns ms hi hj)
  ⟨ho,qP,show Value.bool (lexLt ns ms)≠Value.notImplemented/\Q (.bool (lexLt ns ms)) s from⟨(λx=>nomatch x),h⟩⟩ hu
theorem Cg{t b:Addr}{vs ws:ag}(ht:IsTup s.heap t vs.toArray)(hb:IsTup s.heap b ws.toArray)(hv:vs≠[])
  (h1:ws=[]->Q (.ref t) s) (h2:ws≠[]->Q (.ref s.heap.objs.size) { s with heap:=s.heap.push { cls:=.type "tuple",data:=.seq (vs++ws).toArray } })
  (hsz:vs.length+ws.length<=sizeLine):wpAny (model prog w) A (binaryOp .Add (.ref t) (.ref b)) Q E s:=by
 obtain⟨⟨cls,dd,data,sl⟩,ho,hc,n,hd⟩:=id ht;obtain⟨⟨HD,zW,data2,zR⟩,qP,hc2,n2,hd2⟩:=id hb;simp only at hc hd hc2 hd2;subst hc hd hc2 hd2;have e:vs.toArray++ws.toArray=(vs++ws).toArray:=by simp
 by_cases hw:ws=[]
 ·exact concat_meets ⟨_,ho,rfl⟩ ⟨_,qP,rfl⟩ noFill_tuple_add seq_tuple_add X8 X4 (X0 _ _)
   (tuple_addW1 t b vs.toArray ws.toArray n n2 dd zW sl zR (by simpa using hv) (by simp[hw])) ⟨ho,qP,h1 hw⟩
 ·refine concat_meets ⟨_,ho,rfl⟩ ⟨_,qP,rfl⟩ noFill_tuple_add seq_tuple_add X8 X4 (X0 _ _)
   (tuple_addW2 t b vs.toArray ws.toArray n n2 dd zW sl zR (by simpa using hv) (by simpa using hw) (by rw[List.size_toArray,List.size_toArray];exact hsz)) ⟨ho,qP,?_⟩
  rw[e];exact h2 hw
noncomputable def rz(n d:Nat):Option Int->Nat
 |none=>d
 |some v=>if v<0 then(v+(n:Int)).toNat else min v.toNat n
end
end HT
namespace L2
open PySem PySem.Spec PyProof.Rows
abbrev TO:=St->Hp->(Option Int->Hp->Prop)->Prop
def PO(X:Cx)(e:Option Expr)(t:TO):Prop :=
 ∀(pins:ak) (s:Shared) (σ:St) (H:Hp) (Q:Option Int->Hp->Prop),Inv X pins σ H s->t σ H Q ->
  wpAny (model X.prog X.w) X.A (evalPart e X.env) (λu s'=>∃o H',Inv X pins σ H' s'/\IsPart u o/\Q o H') X.xe s
def Ar:TO:=λ_ H Q=>Q none H
def Ji(t:TE):TO:=λσ H Q=>t σ H λx H1=>∃i,x=.int i/\Q (some i) H1
section
variable {X:Cx}{e:Expr}{te:TE}{lo hi:Option Expr}{tl th:TO}{pos p2:Pos}
theorem tO:PO X none Ar:=by
 intro pins s σ H Q I h;rw[evalPart_none];exact WU ⟨none,H,I,.none,h⟩
theorem tN(h:PE X e te):PO X (some e) (Ji te):=by
 intro pins s σ H Q I hw;rw[evalPart_some];refine cH (h pins s σ H _ I hw) λu s1 bJ=>?_;obtain⟨x,H1,I1,r1,q1⟩:=bJ;obtain⟨i,rfl,q⟩:=q1;obtain⟨t,rfl⟩:=r1;exact⟨some i,H1,I1,.int i t,q⟩
def Rm(X:Cx)(r:V->Option Int->Option Int->Hp->VK->Prop):Prop :=
 ∀(pins:ak) (s:Shared) (σ:St) (H:Hp) (x:V) (v vl vu:Value) (lo hi:Option Int) (sl:Addr) (Q:VK),Inv X pins σ H s->RelV x v->s.heap.IsSliceOf sl vl vu .none->IsPart vl lo->IsPart vu hi->r x lo hi H Q ->
  ∃T id,typeLookup (.type T) "__getitem__" = pure (some (.builtin id))/\s.TypeIs v T/\wpAny (model X.prog X.w) X.A (getItem v (.ref sl)) (EP X pins σ Q) X.xe s
def TZ(r:V->Option Int->Option Int->Hp->VK->Prop)(te:TE)(tl th:TO):TE:=λσ H Q=>te σ H λx H1=>tl σ H1 λl H2=>th σ H2 λu H3=>r x l u H3 Q
theorem xR{r:V->Option Int->Option Int->Hp->VK->Prop}(hr:Rm X r)(he:PE X e te)(hl:PO X lo tl)(hu:PO X hi th):PE X (.Subscript e (.Slice lo hi none p2) pos) (TZ r te tl th):=by
 intro pins s σ H Q I h;refine Subscript_ (cH (he pins s σ H _ I h) λv s1 bJ=>?_);obtain⟨x,H1,I1,r1,q1⟩:=bJ;refine wpAny_Slice (cH (hl pins s1 σ H1 _ I1 q1) λvl s2 ⟨l,H2,I2,pl,q2⟩=>cH (hu pins s2 σ H2 _ I2 q2) λvu s3 bJ=>?_);obtain⟨u,H3,I3,pu,q3⟩:=bJ;rw[evalPart_none];refine WU ?_;have I4:Inv X pins σ H3 { s3 with heap:=s3.heap.push { cls:=.type "slice",data:=.fields #[vl,vu,.none] } }:=I3.kept (t':=s3.toks) λb ob q=>WQ _ q;obtain⟨T,id,hT,ht,hg⟩:=hr pins { s3 with heap:=s3.heap.push { cls:=.type "slice",data:=.fields #[vl,vu,.none] } } σ H3 x v vl vu l u s3.heap.objs.size Q I4 r1 (Heap.IsSliceOf.new ..) pl pu q3;show wpAny (model X.prog X.w) X.A (subscriptTail e (.Slice lo hi none p2) v (.ref s3.heap.objs.size)) (EP X pins σ Q) X.xe { s3 with heap:=s3.heap.push { cls:=.type "slice",data:=.fields #[vl,vu,.none] } };exact tail_any (ops:=[.ref s3.heap.objs.size,v]) ht hT hg (by with_unfolding_all rfl)
def Cb(xs:ae)(lo hi:Option Int):ae:=(xs.drop (HT.rz xs.length 0 lo)).take (HT.rz xs.length xs.length hi - HT.rz xs.length 0 lo)
theorem qx(xs:ae)(lo hi:Option Int):(Cb xs lo hi).length<=xs.length:=by
 unfold Cb;rw[List.length_take,List.length_drop];left
def JO(K:ao):R2:=λx y H Q=>∃a b xs ys,x=.ref a/\y=.ref b/\aT K H a xs/\aT K H b ys/\xs≠[]/\xs.length+ys.length<=sizeLine /\
 (ys=[]->Q (.ref a) H)/\(ys≠[]->∀p,H p=none->Q (.ref p) (upd H p (.tup (xs++ys))))
theorem Vals.nS{xs:ae}{us:ag}(r:Vals xs us):us=[] ↔ xs=[]:=by
 cases r with
 |nil=>simp
 |cons _ _=>simp
theorem A6:iF X (binaryOp .Add) (JO X.K):=by
 intro pins s σ H x y v u Q I rx ry h;obtain⟨a,b,xs,ys,rfl,rfl,ha,hb,hx,hz,q1,q2⟩:=h;cases rx;cases ry;obtain⟨its,r1,p1,_⟩:=I.tuple ha;obtain⟨yA,r2,p2,_⟩:=I.tuple hb;refine HT.Cg p1 p2 (λz=>hx (r1.nS.mp z)) (λz=>⟨.ref a,H,I,rfl,q1 (r2.nS.mp z)⟩) (λz=>?_) (by rw[<- r1.length,<- r2.length];exact hz);refine⟨.ref s.heap.objs.size,_,I.laid (t':=s.toks) (o:=.tup (xs++ys)) (λb ob q=>WQ _ q) (WV _) ?_,rfl,q2 (λw=>z (r2.nS.mpr w)) _ (I.ck.fresh (WV _))⟩;exact⟨by rw[List.length_append];exact hz,_,r1.append r2,IsTup.new _ _⟩
end
end L2
namespace L2
open PySem PySem.Spec PyProof.Rows
noncomputable def oU(n:Nat)(i:Int):Option Nat:=if 0<=i then(if i<n then some i.toNat else none)else if -(n:Int)<=i then some (i+n).toNat else none
def DR{α:Type}(xs:List α)(i:Int):Option α:=(oU xs.length i).bind λj=>xs[j]?
theorem ud{n:Nat}{i:Int}{j:Nat}(h:oU n i=some j):seqIndex? i n=some j/\j<n /\ -(n:Int)<=i/\i<n:=by
 unfold oU at h;by_cases h0:0<=i
 ·rw[if_pos h0]at h;by_cases h1:i<n
  ·rw[if_pos h1]at h;have e:i.toNat=j:=W4 h;exact⟨by rw[seqIndex_of h0 h1,e],by left,by left,h1⟩
  ·rw[if_neg h1]at h;cases h
 ·rw[if_neg h0]at h;by_cases h1:-(n:Int)<=i
  ·rw[if_pos h1]at h;have e:(i+n).toNat=j:=W4 h;exact⟨by rw[seqIndex_neg (by left) h1,e],by left,h1,by left⟩
  ·rw[if_neg h1]at h;cases h
theorem uS{α:Type}{xs:List α}{i:Int}{v:α}(h:DR xs i=some v):∃j,seqIndex? i xs.length=some j/\xs[j]?=some v/\j<xs.length /\ -(xs.length:Int)<=i/\i<xs.length:=by
 unfold DR at h;cases e:oU xs.length i with
 |none=>rw[e]at h;cases h
 |some j =>
  rw[e]at h;obtain⟨h1,h2,h3,h4⟩:=ud e;exact⟨j,h1,h,h2,h3,h4⟩
def kG(b:Expr):Prop:=∀o i,subscripted b false o i=operate [o,i] (getItem o i)
def DY(X:Cx)(r:R2):Prop :=
 ∀(value slice:Expr) (pins:ak) (s:Shared) (σ:St) (H:Hp) (x y:V) (v u:Value) (Q:VK),Inv X pins σ H s->RelV x v->RelV y u->r x y H Q ->
  subscripted slice false v u=operate [v,u] (getItem v u)->wpAny (model X.prog X.w) X.A (subscriptTail value slice v u) (EP X pins σ Q) X.xe s
def Rn(X:Cx)(id:String)(r:V->ae->Hp->VK->Prop):Prop :=
 ∀(pins:ak) (s:Shared) (σ:St) (H:Hp) (x:V) (xs:ae) (v:Value) (us:ag) (Q:VK),Inv X pins σ H s->RelV x v->Vals xs us->r x xs H Q ->
  wpAny (model X.prog X.w) X.A (call (.builtin id) (v::us)) (EP X pins σ Q) X.xe s
variable {H:Hp}{σ:L2.St}
section
variable {X:Cx}{a b:Expr}{ta tb:TE}{pos:Pos}
theorem DY.or{r r':R2}(h:DY X r)(h':DY X r'):DY X (λx y H Q=>r x y H Q\/r' x y H Q):=by
 intro value slice pins s σ H x y v u Q I rx ry q hs;rcases q with q|q
 ·exact h value slice pins s σ H x y v u Q I rx ry q hs
 ·exact h' value slice pins s σ H x y v u Q I rx ry q hs
theorem xT{r:R2}(hr:DY X r)(ha:PE X a ta)(hb:PE X b tb)(hs:kG b):PE X (.Subscript a b pos) (Ek r ta tb):=by
 intro pins s σ H Q I h;exact Subscript_ (HI ha hb I h λv u s2 x y H2 I2 rx ry q=>hr a b pins s2 σ H2 x y v u Q I2 rx ry q (hs _ _))
def OP(K:ao):R2:=λx y H Q=>∃p xs i v,x=.ref p/\y=.int i/\de K H p xs/\DR xs i=some v/\Q v H
def OO(K:ao):R2:=λx y H Q=>∃p xs i v,x=.ref p/\y=.int i/\aT K H p xs/\DR xs i=some v/\Q v H
theorem uc:DY X (OP X.K):=by
 intro value slice pins s σ H x y v u Q I rx ry h hs;obtain⟨p,xs,i,z,rfl,rfl,hq,he,q⟩:=h;cases rx;obtain⟨t,rfl⟩:=ry;obtain⟨its,r,pl,hz⟩:=I.list hq;obtain⟨j,h1,h2,h3,h4,h5⟩:=uS he;obtain⟨w,ew,h_⟩:=r.get h2;have hl:=r.length;have hn:=nZ;have fin:EP X pins σ Q w s:=⟨z,H,I,h_,q⟩
 by_cases h0:0<=i
 ·have hj:i.toNat=j:=by
   rw[seqIndex_of h0 h5]at h1;exact W4 h1
  exact item_listR pl.isList h0 (by left) (by rw[hj];simpa using ew) fin hs
 ·have hj:(i+(its.toArray.size:Int)).toNat=j:=by
   rw[seqIndex_neg (by left) h4]at h1;rw[List.size_toArray,<- hl];exact W4 h1
  exact X9 (x:=w) pl.isList.typeIs slot_list_getitem.lookup
   (wpAny_getItem_list_neg (Q:=λr s'=>r=w/\EP X pins σ Q r s') pl.isList (by left) (by rw[List.size_toArray]<;>omega) (by left) (by rw[hj];simpa using ew) ⟨rfl,fin⟩) hs
theorem yx:DY X (OO X.K):=by
 intro value slice pins s σ H x y v u Q I rx ry h hs;obtain⟨p,xs,i,z,rfl,rfl,hq,he,q⟩:=h;cases rx;obtain⟨t,rfl⟩:=ry;obtain⟨its,r,pl,hz⟩:=I.tuple hq;obtain⟨j,h1,h2,h3,h4,h5⟩:=uS he;obtain⟨w,ew,h_⟩:=r.get h2;have hl:=r.length;have hn:=nZ;have fin:EP X pins σ Q w s:=⟨z,H,I,h_,q⟩
 exact X9 (x:=w) pl.typeIs slot_tuple_getitem.lookup
  (getItem_tuple (j:=j) (Q:=λr s'=>r=w/\EP X pins σ Q r s') pl (by left) (by left) (by rw[List.size_toArray,<- hl];exact h1) (by simpa using ew) ⟨rfl,fin⟩) hs
theorem rL(its:ag)(n j:Nat)(u:Value):Obj.mapSeq (·.setIfInBounds j u) { cls:=.type "list",data:=.seq its.toArray n }={ cls:=.type "list",data:=.seq (its.set j u).toArray n }:=by
 simp[Obj.mapSeq]
theorem Inv.lst{pins:ak}{σ:St}{H:Hp}{s:Shared}{p:Addr}{xs:ae}(I:Inv X pins σ H s)(h:H p=some (.lst xs)):
  ∃(its:ag) (n:Nat),Vals xs its/\s.heap.get? p=some { cls:=.type "list",data:=.seq its.toArray n }/\xs.length<=sizeLine:=by
 obtain⟨z,its,n,r,e⟩:=I.ck p _ h;exact⟨its,n,r,e,z⟩
theorem Inv.F2{pins:ak}{s:Shared}{p:Addr}{xs ys:ae}{its its':ag}{n n':Nat}{f:Obj->Obj}(I:Inv X pins σ H s)(h:H p=some (.lst xs))
  (ho:s.heap.get? p=some { cls:=.type "list",data:=.seq its.toArray n }) (hf:f { cls:=.type "list",data:=.seq its.toArray n }={ cls:=.type "list",data:=.seq its'.toArray n' }) (r:Vals ys its') (hz:ys.length<=sizeLine) (t:Nat) :
  Inv X pins σ (upd H p (.lst ys)) { s with heap:=s.heap.update p f,toks:=t }:=by
 have e:(s.heap.update p f).get? p=some { cls:=.type "list",data:=.seq its'.toArray n' }:=by
  rw[Heap.get?_update_self f ho (by rw[hf]<;>rfl),hf]
 refine I.write (x:=p) (e:=p) (by rw[h];trivial) (.inl rfl) (λb u hb q=>(X_ _ _ (YH hb)).trans q) ⟨_,e⟩ ?_;exact⟨hz,its',n',r,e⟩
def JM:V->V->V->Hp->(Hp->Prop)->Prop:=λo i v H Q=>∃p xs k j,o=.ref p/\i=.int k/\H p=some (.lst xs)/\oU xs.length k=some j/\Q (upd H p (.lst (xs.set j v)))
theorem set_list:MD X JM:=by
 intro pins s σ H o i v ov iv u Q I ro ri rv h;obtain⟨p,xs,k,j,rfl,rfl,hp,hj,q⟩:=h;cases ro;obtain⟨t,rfl⟩:=ri;obtain⟨its,n,r,ho,hz⟩:=I.lst hp;obtain⟨h1,h2,h3,h4⟩:=ud hj;have hl:=r.length;have hn:=nZ;have I':Inv X pins σ (upd H p (.lst (xs.set j v))) { s with heap:=s.heap.update p (Obj.mapSeq (·.setIfInBounds j u)) } :=
  I.F2 hp ho (rL its n j u) (r.set rv j) (by rw[List.length_set];exact hz) s.toks
 by_cases h0:0<=k
 ·have hk:k.toNat=j:=by
   rw[seqIndex_of h0 h4]at h1;exact W4 h1
  exact PySem.W.ki_setAt ho h0 (by left) (by rw[List.size_toArray,<- hl];exact h4) (by rw[hk];exact⟨_,I',q⟩)
 ·have hk:(k+(its.toArray.size:Int)).toNat=j:=by
   rw[seqIndex_neg (by left) h3]at h1;rw[List.size_toArray,<- hl];exact W4 h1
  exact PySem.W.ki_setBack ho (by left) (by rw[List.size_toArray,<- hl];exact h3) (by left) (by rw[hk];exact⟨_,I',q⟩)
theorem nF(lo hi:Option Int)(n:Nat):(sliceBounds lo hi none n).1=((HT.rz n 0 lo:Nat):Int)/\(sliceBounds lo hi none n).2.1=((HT.rz n n hi:Nat):Int)/\(sliceBounds lo hi none n).2.2=1:=by
 refine⟨?_,?_,rfl⟩
 ·cases lo with
  |none=>simp[sliceBounds,HT.rz]
  |some i =>
   simp only[sliceBounds,HT.rz,Option.getD_none,show(1:Int)>0 by decide,if_true];by_cases h:i<0
   ·simp only[h,if_true]<;>left
   ·simp only[h,if_false]<;>left
 ·cases hi with
  |none=>simp[sliceBounds,HT.rz]
  |some i =>
   simp only[sliceBounds,HT.rz,Option.getD_none,show(1:Int)>0 by decide,if_true];by_cases h:i<0
   ·simp only[h,if_true]<;>left
   ·simp only[h,if_false]<;>left
theorem mf(its:ag)(lo hi:Option Int):slicePick its.toArray lo hi none=((its.drop (HT.rz its.length 0 lo)).take (HT.rz its.length its.length hi - HT.rz its.length 0 lo)).toArray:=by
 obtain⟨h1,h2,h3⟩:=nF lo hi its.toArray.size;unfold slicePick;rw[h1,h2,h3];simp only[sliceRange_one,pick_run,List.size_toArray]<;>rfl
def OL(K:ao):V->Option Int->Option Int->Hp->VK->Prop:=λx lo hi H Q=>∃a xs,x=.ref a/\de K H a xs/\∀p,H p=none->Q (.ref p) (upd H p (.lst (Cb xs lo hi)))
theorem tF:Rm X (OL X.K):=by
 intro pins s σ H x v vl vu lo hi sl Q I rx hs pl pu h;obtain⟨a,xs,rfl,hx,q⟩:=h;cases rx;obtain⟨its,r,ht,hz⟩:=I.list hx;have hlen:=r.length;refine⟨"list",_,slot_list_getitem.lookup,ht.isList.typeIs,?_⟩;refine wpAny_getItem_list_slice ht.isList hs pl pu .none (by simp) ?_ (by rw[List.size_toArray]<;>omega);rw[mf,<- hlen];refine⟨.ref s.heap.objs.size,_,I.laid (t':=s.toks) (o:=.lst (Cb xs lo hi)) (λb ob q=>WQ _ q) (WV _) ?_,rfl,q _ (I.ck.fresh (WV _))⟩;exact⟨Xb (qx xs lo hi) hz,_,0,(r.drop (HT.rz xs.length 0 lo)).take (HT.rz xs.length xs.length hi - HT.rz xs.length 0 lo),WZ _ rfl⟩
noncomputable def gq:V->Bool
 |.bz=>true
 |.bl _=>true
 |.int _=>true
 |.str _=>true
 |_=>false
noncomputable def BV:V->V->Bool
 |.bz,.bz=>true
 |.bl a,.bl b=>a==b
 |.bl a,.int b=>(if a then 1 else 0)==b
 |.int a,.bl b=>a==(if b then 1 else 0)
 |.int a,.int b=>a==b
 |.str a,.str b=>a==b
 |_,_=>false
theorem Ho{A:ay}{s:Shared}{y x:V}{u v:Value}(ry:RelV y u)(rx:RelV x v)(fy:gq y=true)(fx:gq x=true):SeqAt.EqAt A s u v (BV y x):=by
 cases y with
 |bz =>
  cases ry;cases x with
  |bz=>cases rx;exact XS _
  |bl b=>cases rx;exact Ym b
  |int b=>obtain⟨t,rfl⟩:=rx;exact Ys b t
  |str b=>obtain⟨t,rfl⟩:=rx;exact SeqAt.EqAt.none_str b t
  |_=>exact absurd (show false=true from fx) WS
 |bl a =>
  cases ry;cases x with
  |bz=>cases rx;exact Yn a
  |bl b=>cases rx;exact Yo a b
  |int b=>obtain⟨t,rfl⟩:=rx;exact Yt a b t
  |str b=>obtain⟨t,rfl⟩:=rx;exact SeqAt.EqAt.bool_str a b t
  |_=>exact absurd (show false=true from fx) WS
 |int a =>
  obtain⟨t',rfl⟩:=ry;cases x with
  |bz=>cases rx;exact Yu a t'
  |bl b=>cases rx;exact Yv a t' b
  |int b=>obtain⟨t,rfl⟩:=rx;exact XZ a t' b t
  |str b=>obtain⟨t,rfl⟩:=rx;exact SeqAt.EqAt.int_str a t' b t
  |_=>exact absurd (show false=true from fx) WS
 |str a =>
  obtain⟨t',rfl⟩:=ry;cases x with
  |bz=>cases rx;exact SeqAt.EqAt.str_none a t'
  |bl b=>cases rx;exact SeqAt.EqAt.str_bool a t' b
  |int b=>obtain⟨t,rfl⟩:=rx;exact SeqAt.EqAt.str_int a t' b t
  |str b=>obtain⟨t,rfl⟩:=rx;exact SeqAt.EqAt.str_str a t' b t
  |_=>exact absurd (show false=true from fx) WS
 |_=>exact absurd (show false=true from fy) WS
def sh(x:V)(u:Value):Bool:=match u with
 |.none=>BV .bz x
 |.bool b=>BV (.bl b) x
 |.int i _=>BV (.int i) x
 |.str z _=>BV (.str z) x
 |_=>false
theorem za{x y:V}{u:Value}(r:RelV y u)(f:gq y=true):sh x u=BV y x:=by
 cases y with
 |bz=>cases r;rfl
 |bl b=>cases r;rfl
 |int i=>obtain⟨t,rfl⟩:=r;rfl
 |str z=>obtain⟨t,rfl⟩:=r;rfl
 |_=>exact absurd (show false=true from f) WS
theorem i_{x:V}:∀{xs:ae} {us:ag},Vals xs us->xs.all gq=true->us.any (sh x)=xs.any λy=>BV y x
 |_,_,.nil,_=>rfl
 |y::xs,u::us,.cons r t,f=>by
  rw[List.all_cons,Bool.and_eq_true]at f;rw[List.any_cons,List.any_cons,za r f.1,i_ t f.2]
theorem gh{A:ay}{s:Shared}{x:V}{v:Value}(rx:RelV x v)(fx:gq x=true):∀{xs:ae} {us:ag},Vals xs us->xs.all gq=true->∀u∈us,SeqAt.EqAt A s u v (sh x u)
 |_,_,.nil,_=>λu hu=>by cases hu
 |y::xs,u::us,.cons r t,f=>λu' hu=>by
  rw[List.all_cons,Bool.and_eq_true]at f;rcases List.mem_cons.mp hu with rfl|hu
  ·rw[za r f.1];exact Ho r rx f.1 fx
  ·exact gh rx fx t f.2 u' hu
def Nh(x:V)(xs:ae):Bool:=xs.any λy=>BV y x
def MU(K:ao)(neg:Bool):R2:=λx y H Q=>∃p xs,y=.ref p/\(de K H p xs\/aT K H p xs)/\gq x=true/\xs.all gq=true/\Q (.bl (if neg then !Nh x xs else Nh x xs)) H
theorem vv:iF X (compareOp .In) (MU X.K false):=by
 intro pins s σ H x y v u Q I rx ry h;obtain⟨p,xs,rfl,hq,fx,fs,q⟩:=h;cases ry;rcases hq with hq|hq
 ·obtain⟨its,r,pl,hz⟩:=I.list hq;refine SeqAt.in_listAt (sh x) pl.isList (λw hw=>gh rx fx r fs w (by simpa using hw)) ⟨.bl _,H,I,rfl,?_⟩;rw[show its.toArray.any (sh x)=its.any (sh x) by simp,i_ r fs];exact q
 ·obtain⟨its,r,pl,hz⟩:=I.tuple hq;refine SeqAt.in_tupleAt (sh x) pl (λw hw=>gh rx fx r fs w (by simpa using hw)) ⟨.bl _,H,I,rfl,?_⟩;rw[show its.toArray.any (sh x)=its.any (sh x) by simp,i_ r fs];exact q
theorem nN:iF X (compareOp .NotIn) (MU X.K true):=by
 intro pins s σ H x y v u Q I rx ry h;obtain⟨p,xs,rfl,hq,fx,fs,q⟩:=h;cases ry;rcases hq with hq|hq
 ·obtain⟨its,r,pl,hz⟩:=I.list hq;refine SeqAt.notIn_listAt (sh x) pl.isList (λw hw=>gh rx fx r fs w (by simpa using hw)) ⟨.bl _,H,I,rfl,?_⟩;rw[show its.toArray.any (sh x)=its.any (sh x) by simp,i_ r fs];exact q
 ·obtain⟨its,r,pl,hz⟩:=I.tuple hq;refine SeqAt.notIn_tupleAt (sh x) pl (λw hw=>gh rx fx r fs w (by simpa using hw)) ⟨.bl _,H,I,rfl,?_⟩;rw[show its.toArray.any (sh x)=its.any (sh x) by simp,i_ r fs];exact q
theorem oH:eJ X (.builtin "len") (λxs H Q=>∃p ys,xs=[.ref p]/\(de X.K H p ys\/aT X.K H p ys)/\Q (.int ys.length) H):=by
 intro pins s σ H xs us Q I r h;obtain⟨p,ys,rfl,hq,q⟩:=h;obtain⟨u,rfl,rx⟩:=vals1 r;cases rx;have hn:=nZ;rcases hq with hq|hq
 ·obtain⟨its,r',pl,hz⟩:=I.list hq;have hlen:=r'.length;exact Calls.call_len_list pl.isList (by simp only[List.size_toArray]<;>omega) ⟨.int ys.length,H,I.tok _,⟨s.toks+1,by rw[List.size_toArray,hlen]⟩,q⟩
 ·obtain⟨its,r',pl,hz⟩:=I.tuple hq;have hlen:=r'.length;exact len_tuple pl (by simp only[List.size_toArray]<;>omega) ⟨.int ys.length,H,I.tok _,⟨s.toks+1,by rw[List.size_toArray,hlen]⟩,q⟩
theorem oG:eJ X (.type "list") (λxs H Q=>∃p ys,xs=[.ref p]/\(de X.K H p ys\/aT X.K H p ys)/\∀l,H l=none->Q (.ref l) (upd H l (.lst ys))):=by
 intro pins s σ H xs us Q I r h;obtain⟨p,ys,rfl,hq,q⟩:=h;obtain⟨u,rfl,rx⟩:=vals1 r;cases rx;have fin:∀(its:ag),Vals ys its->ys.length<=sizeLine->∀(h':Heap) (c':Nat),(∀b o',s.heap.get? b=some o'->h'.get? b=some o') ->
   h'.get? s.heap.objs.size=some { cls:=.type "list",dict:=none,data:=.seq its.toArray c',slots:=#[] }->EP X pins σ Q (.ref s.heap.objs.size) { s with heap:=h' }:=λits r' hz h' c' kp e =>
  ⟨.ref s.heap.objs.size,_,I.laid (t':=s.toks) kp (WV _) (show cA X.prog X.w _ h' _ (.lst ys) from⟨hz,its,c',r',e⟩),rfl,q _ (I.ck.fresh (WV _))⟩
 rcases hq with hq|hq
 ·obtain⟨its,r',pl,hz⟩:=I.list hq;have hlen:=r'.length;obtain⟨o,ho,hc,n,hd⟩:=pl.isList;exact call_list_seq p (.inl rfl) ho hc hd (λh' c' kp e=>fin its r' hz h' c' kp e) (by simp only[List.size_toArray]<;>omega)
 ·obtain⟨its,r',pl,hz⟩:=I.tuple hq;have hlen:=r'.length;obtain⟨o,ho,hc,n,hd⟩:=pl;exact call_list_seq p (.inr rfl) ho hc hd (λh' c' kp e=>fin its r' hz h' c' kp e) (by simp only[List.size_toArray]<;>omega)
theorem mz:eJ X (.type "tuple") (λxs H Q=>∃p ys,xs=[.ref p]/\((de X.K H p ys/\∀l,H l=none->Q (.ref l) (upd H l (.tup ys)))\/(aT X.K H p ys/\Q (.ref p) H))):=by
 intro pins s σ H xs us Q I r h;obtain⟨p,ys,rfl,h⟩:=h;obtain⟨u,rfl,rx⟩:=vals1 r;cases rx;rcases h with ⟨hq,q⟩|⟨hq,q⟩
 ·obtain⟨its,r',pl,hz⟩:=I.list hq;have hlen:=r'.length;refine call_tuple_list pl.isList (λh' kp=>?_) (by simp only[List.size_toArray]<;>omega);have I1:Inv X pins σ H { s with heap:=h' }:=I.kept (t':=s.toks) kp;have I2:Inv X pins σ (upd H h'.objs.size (.tup ys)) { s with heap:=h'.push { cls:=.type "tuple",data:=.seq its.toArray } } :=
   I1.laid (t':=s.toks) (λb o e=>WQ _ e) (WV _) (show cA X.prog X.w _ _ _ (.tup ys) from⟨hz,its,r',IsTup.new _ _⟩)
  exact⟨.ref h'.objs.size,_,I2,rfl,q _ (I1.ck.fresh (WV _))⟩
 ·obtain⟨its,r',pl,hz⟩:=I.tuple hq;exact call_tuple_same pl ⟨.ref p,H,I,rfl,q⟩
def N7(K:ao)(T:String)(x:V)(H:Hp):Prop:=match x with
 |.str _=>T = "str"
 |.int _=>T = "int"
 |.ref p=>(T = "list" /\ ∃xs,de K H p xs)\/(T = "tuple" /\ ∃o,K.lookup p=some o/\o.cls=.type "tuple" /\ o.dict=none) \/
   (T = "dict" /\ ((∃lj,H p=some (.dK lj))\/∃lj,H p=some (.dT lj)))\/(T = "set" /\ ∃S n,H p=some (.set S n))
 |_=>False
theorem wY{pins:ak}{s:Shared}{T:String}{x:V}{v:Value}(I:Inv X pins σ H s)(r:RelV x v)(ty:N7 X.K T x H):
  s.TypeIs v T/\∀a,v=.ref a->∃ob,s.heap.get? a=some ob/\ob.dict=none:=by
 cases x with
 |str z =>
  obtain⟨t,rfl⟩:=r;cases (show T = "str" from ty);exact⟨typeIs_str s z t,λ_ e=>nomatch e⟩
 |int i =>
  obtain⟨t,rfl⟩:=r;cases (show T = "int" from ty);exact⟨typeIs_int s i t,λ_ e=>nomatch e⟩
 |ref p =>
  cases r;rcases ty with ⟨rfl,xs,hq⟩|⟨rfl,o,hk,hc,hd⟩|⟨rfl,hk⟩|⟨rfl,S,n,hk⟩
  ·obtain⟨its,_,pl,_⟩:=I.list hq;refine⟨pl.isList.typeIs,λa e=>?_⟩;cases e;obtain⟨o,n,e,c,hd,_⟩:=pl;exact⟨o,e,hd⟩
  ·refine⟨⟨o,I.wu p o hk,hc⟩,λa e=>?_⟩;cases e;exact⟨o,I.wu _ o hk,hd⟩
  ·have z:∃o,s.heap.get? p=some o/\o.ExactDict:=by
    rcases hk with ⟨lj,hk⟩|⟨lj,hk⟩
    ·obtain⟨_,_,_,_,o,_,_,e,ex,_⟩:=I.ck p _ hk;exact⟨o,e,ex⟩
    ·obtain⟨_,_,_,_,o,_,_,e,ex,_⟩:=I.ck p _ hk;exact⟨o,e,ex⟩
   obtain⟨o,e,ex⟩:=z;refine⟨⟨o,e,ex.1⟩,λa e2=>?_⟩;cases e2;exact⟨o,e,ex.2.1⟩
  ·obtain⟨o,_,_,_,e,ex,_⟩:=I.ck p _ hk;refine⟨⟨o,e,ex.1⟩,λa e2=>?_⟩;cases e2;exact⟨o,e,ex.2.1⟩
 |_=>exact False.elim ty
def Og(K:ao)(T:String)(r:V->ae->Hp->VK->Prop)(to:TE):TE:=λσ H Q=>to σ H λx H1=>N7 K T x H1/\r x [] H1 Q
def T6(K:ao)(T:String)(r:V->ae->Hp->VK->Prop)(to:TE)(t:TA):TE:=λσ H Q=>to σ H λx H1=>N7 K T x H1/\t σ H1 λxs H2=>r x xs H2 Q
variable {o e:Expr}{es:au}{to:TE}{t:TA}{name:Str}{apos ou:Pos}{T id:String}{r:V->ae->Hp->VK->Prop}
theorem Fw(pa:PlainAttrs T)(slot:Slot T name id)(PN:typeOf (.builtin id)=pure (.type "method_descriptor"))(hm:Rn X id r)(ho:PE X o to)
  (yQ:attributeBase o name X.env (eval o X.env)=eval o X.env:=by rfl) (hline:(apos.endLine==ou.line)=true:=by rfl):PE X (.Call (.Attribute o name apos) [] [] ou) (Og X.K T r to):=by
 intro pins s σ H Q I h;refine wpAny_Call_method0_late yQ hline (cH (ho pins s σ H _ I h) λv s1 bJ=>?_);obtain⟨x,H1,I1,r1,ty,q1⟩:=bJ;obtain⟨h1,h2⟩:=wY I1 r1 ty;exact⟨T,id,pa,slot,PN,h1,h2,Ya rfl (PySem.evalArgs_none (hm pins s1 σ H1 x [] v [] Q I1 r1 .nil q1))⟩
theorem J3(pa:PlainAttrs T)(slot:Slot T name id)(PN:typeOf (.builtin id)=pure (.type "method_descriptor"))(hm:Rn X id r)(ho:PE X o to)(ha:PA X (e::es) t)
  (yQ:attributeBase o name X.env (eval o X.env)=eval o X.env:=by rfl)
  (hfew:((backTo ou (starEach (e::es) X.env)).all (λx=>!x.1)&&(backToKw ou (keywordEach [] X.env)).all (λx=>x.1.isSome)
   && decide ((e::es).length+([]:List Keyword).length+(if ([]:List Keyword).isEmpty then 0 else 1)<30))=true:=by rfl)
  (hline:(apos.endLine==ou.line)=true:=by rfl) (hs:starEach (e::es) X.env=(false,eval e X.env)::starEach es X.env:=by rfl) (Gw:(backTo ou (starEach es X.env)).any (·.1)=false:=by rfl) :
  PE X (.Call (.Attribute o name apos) (e::es) [] ou) (T6 X.K T r to t):=by
 intro pins s σ H Q I h;refine wpAny_Call_method_late yQ hfew hline rfl (cH (ho pins s σ H _ I h) λv s1 bJ=>?_);obtain⟨x,H1,I1,r1,ty,q1⟩:=bJ;obtain⟨h1,h2⟩:=wY I1 r1 ty;refine⟨T,id,pa,slot,PN,h1,h2,?_⟩;have hA:=ha ou pins s1 σ H1 _ I1 q1;rw[hs]at hA ⊢;refine Ya (by show(false||(backTo ou (starEach es X.env)).any (·.1))=false;rw[Gw]<;>rfl) (Calls.evalArgs_plain ?_);exact cH hA λus s2 ⟨vs,H2,I2,r2,q2⟩=>hm pins s2 σ H2 x vs v us Q I2 r1 r2 q2
/- xs.append(e),list.index on a module's tuple .. are Rn facts of 06m -/
end
end L2
namespace L2
open PySem PySem.Spec PyProof.Rows
def N0(X:Cx)(id:String)(r:V->ae->Hp->VK->Prop):Prop :=
 ∀(pins:ak) (s:Shared) (σ:St) (H:Hp) (x:V) (xs:ae) (v:Value) (us:ag) (Q:VK),Inv X pins σ H s->RelV x v->Vals xs us->r x xs H Q ->
  wpAny (model X.prog X.w) X.A (call (.builtin id) (v::us)) (EP X pins σ Q) X.xe s
theorem Vals.one:∀{x:V} {us:ag},Vals [x] us->∃u,us=[u]/\RelV x u
 |_,_,.cons r .nil=>⟨_,rfl,r⟩
theorem Vals.zero:∀{us:ag},Vals [] us->us=[]
 |_,.nil=>rfl
theorem Vals.dropLast{xs:ae}{us:ag}(h:Vals xs us):Vals xs.dropLast us.dropLast:=by
 induction h with
 |nil=>exact .nil
 |cons r t ih =>
  cases t with
  |nil=>exact .nil
  |cons q t'=>exact .cons r ih
theorem Vals.eraseIdx:∀{xs:ae} {us:ag} (i:Nat),Vals xs us->Vals (xs.eraseIdx i) (us.eraseIdx i)
 |_,_,_,.nil=>.nil
 |_,_,0,.cons _ t=>t
 |_,_,i+1,.cons r t=>.cons r (Vals.eraseIdx i t)
theorem Vals.rep{xs:ae}{us:ag}(h:Vals xs us):∀k:Nat,Vals (List.replicate k xs).flatten (List.replicate k us).flatten
 |0=>.nil
 |k+1=>by
  rw[List.replicate_succ,List.replicate_succ,List.flatten_cons,List.flatten_cons];exact Vals.append h (Vals.rep h k)
theorem sg{α:Type}(l:List α):l.eraseIdx (l.length - 1)=l.dropLast:=by
 induction l with
 |nil=>rfl
 |cons a r ih =>
  cases r with
  |nil=>rfl
  |cons b r =>
   have e:(a::b::r).length - 1=((b::r).length - 1)+1:=by
    have h1:(a::b::r).length=r.length+2:=rfl;have h2:(b::r).length=r.length+1:=rfl;left
   rw[e,List.eraseIdx_cons_succ,ih]
   all_goals rfl
theorem mS{α:Type}:∀(l:List α) (i:Nat),(l.eraseIdx i).length<=l.length
 |[],_=>WV _
 |_::_,0=>YA _
 |_::r,i+1=>Nat.succ_le_succ (mS r i)
theorem foldl_rep(its:ag):∀(k:Nat) (acc:ag),
  List.foldl (λx1 x2=>x1++x2) acc.toArray (List.replicate k its.toArray)=(acc++(List.replicate k its).flatten).toArray
 |0,acc=>by simp
 |k+1,acc=>by
  have e:acc.toArray++its.toArray=(acc++its).toArray:=by simp
  have e2:(acc++its)++(List.replicate k its).flatten=acc++(List.replicate (k+1) its).flatten:=by
   rw[List.replicate_succ,List.flatten_cons,List.append_assoc]
  rw[<- e2,<- foldl_rep its k (acc++its),<- e,List.replicate_succ,List.foldl_cons]
variable {its:ag}{t':Nat}
section
variable {X:Cx}{pins:ak}{σ:St}{H:Hp}{s:Shared}{l b:Addr}{xs ys zs:ae}
theorem Inv.Bm{its':ag}{n:Nat}{f:aC->aC}(I:Inv X pins σ H s)(hH:H l=some (.lst xs))
  (e:s.heap.get? l=some { cls:=.type "list",data:=.seq its.toArray n }) (hf:f its.toArray=its'.toArray) (hv:Vals ys its') (hz:ys.length<=sizeLine) :
  Inv X pins σ (upd H l (.lst ys)) { s with heap:=s.heap.update l (Obj.mapSeq f),toks:=t' }:=by
 have q:=PySem.IsL.update e f;rw[hf]at q;refine I.write (x:=l) (e:=l) (by rw[hH];exact trivial) (.inl rfl) (λb' u hb hu=>(X_ s.heap (Obj.mapSeq f) (YH hb)).trans hu) ⟨_,q⟩ ?_;exact⟨hz,its',_,hv,q⟩
theorem Inv.F6(I:Inv X pins σ H s)(hv:Vals ys its)(hz:ys.length<=sizeLine):
  Inv X pins σ (upd H s.heap.objs.size (.lst ys)) { s with heap:=s.heap.push { cls:=.type "list",data:=.seq its.toArray },toks:=t' } :=
 I.laid (λ_ _ q=>WQ _ q) (WV _) ⟨hz,its,0,hv,WZ _ rfl⟩
theorem Inv.fresh(I:Inv X pins σ H s):H s.heap.objs.size=none:=I.ck.fresh (WV _)
theorem Inv.rO(I:Inv X pins σ H s)(hH:H l=some (.lst xs)):xs.length<=sizeLine/\∃(its:ag) (n:Nat),Vals xs its/\xs.length=its.length/\s.heap.get? l=some { cls:=.type "list",data:=.seq its.toArray n }:=by
 obtain⟨z,its,n,r,e⟩:=I.ck l _ hH;exact⟨z,its,n,r,r.length,e⟩
theorem x8{n:Nat}(h:n<=sizeLine):Builtin.List.listTooLong n=false:=by
 unfold Builtin.List.listTooLong;exact Xw (by left)
end
section
variable {X:Cx}
def AM:V->ae->Hp->VK->Prop:=λx vs H Q=>∃l xs y,x=.ref l/\vs=[y]/\H l=some (.lst xs)/\xs.length<sizeLine/\Q .bz (upd H l (.lst (xs++[y])))
theorem vx:N0 X "list.append" AM:=by
 intro pins s σ H x vs v us Q I rx rv h;obtain⟨l,xs,y,rfl,rfl,hH,hz,q⟩:=h;cases rx;obtain⟨u,rfl,ru⟩:=rv.one;obtain⟨z,its,n,r,hl,e⟩:=I.rO hH;refine XH F.slot_list_append ⟨_,e,rfl⟩ F.entry_list_append (F.args_list_append_2 _ _) (PySem.list_append l its.toArray n u (by rw[List.size_toArray];left)) ⟨e,?_⟩;refine⟨.bz,_,I.Bm (its':=its++[u]) hH e (by simp) (r.append (.cons ru .nil)) ?_,rfl,q⟩;rw[List.length_append,List.length_singleton];left
def ON:V->ae->Hp->VK->Prop:=λx vs H Q=>∃l xs y,x=.ref l/\vs=[]/\H l=some (.lst xs)/\xs[xs.length - 1]?=some y/\Q y (upd H l (.lst xs.dropLast))
theorem Pc:N0 X "list.pop" ON:=by
 intro pins s σ H x vs v us Q I rx rv h;obtain⟨l,xs,y,rfl,rfl,hH,hy,q⟩:=h;cases rx;have PM:=rv.zero;subst PM;obtain⟨z,its,n,r,hl,e⟩:=I.rO hH;obtain⟨u,hu,ru⟩:=r.get hy;have UL:its.toArray[its.toArray.size - 1]?=some u:=by
  show its.toArray[its.length - 1]?=some u;rw[<- Array.getElem?_toList,<- hl];exact hu
 refine XH F.slot_list_pop ⟨_,e,rfl⟩ F.entry_list_pop (F.args_list_pop_1 _) (MeetsSeq.list_pop_last l its.toArray n u UL (by rw[List.size_toArray];left)) ⟨e,?_⟩;refine⟨y,_,I.Bm (its':=its.dropLast) hH e ?_ r.dropLast ?_,ru,q⟩
 ·show its.toArray.eraseIdxIfInBounds (its.toArray.size - 1)=its.dropLast.toArray;rw[List.size_toArray,List.eraseIdxIfInBounds_toArray,sg]
 ·rw[List.length_dropLast];left
def EY:V->ae->Hp->VK->Prop:=λx vs H Q=>∃l xs i k y,x=.ref l/\vs=[.int i]/\H l=some (.lst xs) /\ -(2 ^ 63)<=i/\i<2 ^ 63/\seqIndex? i xs.length=some k/\xs[k]?=some y/\Q y (upd H l (.lst (xs.eraseIdx k)))
theorem Kk:N0 X "list.pop" EY:=by
 intro pins s σ H x vs v us Q I rx rv h;obtain⟨l,xs,i,k,y,rfl,rfl,hH,h1,h2,hk,hy,q⟩:=h;cases rx;obtain⟨u,rfl,ru⟩:=rv.one;obtain⟨t,rfl⟩:=ru;obtain⟨z,its,n,r,hl,e⟩:=I.rO hH;obtain⟨w,hw,h_⟩:=r.get hy;refine XH F.slot_list_pop ⟨_,e,rfl⟩ F.entry_list_pop (F.args_list_pop_2 _ _)
  (MeetsSeq.list_pop_at l its.toArray n i t k w (fitsIndex_both h1 h2) (by rw[List.size_toArray,<- hl];exact hk) (by rw[<- Array.getElem?_toList];exact hw) (by rw[List.size_toArray];left)) ⟨e,?_⟩
 refine⟨y,_,I.Bm (its':=its.eraseIdx k) hH e ?_ (r.eraseIdx k) ?_,h_,q⟩
 ·show its.toArray.eraseIdxIfInBounds k=(its.eraseIdx k).toArray;rw[List.eraseIdxIfInBounds_toArray]
 ·have:=mS xs k;left
def E_:V->ae->Hp->VK->Prop:=λx vs H Q=>∃l xs,x=.ref l/\vs=[]/\H l=some (.lst xs)/\Q .bz (upd H l (.lst []))
theorem yf:N0 X "list.clear" E_:=by
 intro pins s σ H x vs v us Q I rx rv h;obtain⟨l,xs,rfl,rfl,hH,q⟩:=h;cases rx;have PM:=rv.zero;subst PM;obtain⟨z,its,n,r,hl,e⟩:=I.rO hH;refine XH F.slot_list_clear ⟨_,e,rfl⟩ F.entry_list_clear (F.args_list_clear_1 _) (AutoSeq1.list_clear_list_0 l its.toArray n (by rw[List.size_toArray];left)) ⟨e,?_⟩;exact⟨.bz,_,I.Bm (its':=[]) (ys:=[]) hH e rfl .nil (W6 _),rfl,q⟩
def OR:R2:=λx y H Q=>∃l b xs zs,x=.ref l/\y=.ref b/\H l=some (.lst xs)/\H b=some (.lst zs)/\xs.length+zs.length<=sizeLine/\∀p,H p=none->Q (.ref p) (upd H p (.lst (xs++zs)))
theorem FH:iF X (binaryOp .Add) OR:=by
 intro pins s σ H x y v u Q I rx ry h;obtain⟨l,b,xs,zs,rfl,rfl,hH,hB,hz,q⟩:=h;cases rx;cases ry;obtain⟨z,its,n,r,hl,e⟩:=I.rO hH;obtain⟨z2,yA,n2,r2,Nn,e2⟩:=I.rO hB;refine PySem.P.add_list e e2 ?_ (by rw[List.size_toArray,List.size_toArray];left);have ea:its.toArray++yA.toArray=(its++yA).toArray:=by simp
 rw[ea];exact⟨.ref _,_,I.F6 (t':=s.toks) (r.append r2) (by rw[List.length_append];left),rfl,q _ I.fresh⟩
def OM:R2:=λx y H Q=>∃l k xs,x=.ref l/\y=.int k/\H l=some (.lst xs) /\ -(2 ^ 63)<=k/\k<2 ^ 63/\xs.length*k.toNat<=sizeLine /\
 ∀p,H p=none->Q (.ref p) (upd H p (.lst (List.replicate k.toNat xs).flatten))
theorem len_rep{α:Type}(xs:List α)(k:Nat):(List.replicate k xs).flatten.length=k*xs.length:=by
 induction k with
 |zero=>simp
 |succ k ih=>rw[List.replicate_succ,List.flatten_cons,List.length_append,ih,Nat.succ_mul,Nat.add_comm]
theorem O1:iF X (binaryOp .Mult) OM:=by
 intro pins s σ H x y v u Q I rx ry h;obtain⟨l,k,xs,rfl,rfl,hH,h1,h2,hz,q⟩:=h;cases rx;obtain⟨t,rfl⟩:=ry;obtain⟨z,its,n,r,hl,e⟩:=I.rO hH;have hlen:its.toArray.size*k.toNat<=sizeLine:=by rw[List.size_toArray,<- hl];exact hz
 have n9:¬ its.toArray.size*k.toNat>(2 ^ 63 - 1) / 8:=by
  have:(sizeLine:Nat)<=(2 ^ 63 - 1) / 8:=by decide
  left
 have Ql:¬ (!Builtin.List.listFitsIndex k)=true:=by
  rw[fitsIndex_both h1 h2];exact WS
 have Lg:¬ Builtin.List.listTooLong (its.toArray.size*k.toNat)=true:=by
  rw[x8 hlen];exact WS
 have Qc:List.foldl (λx1 x2=>x1++x2) #[] (List.replicate (if its.toArray.isEmpty=true then 0 else k.toNat) its.toArray)=(List.replicate k.toNat its).flatten.toArray:=by
  have f0:∀m:Nat,List.foldl (λx1 x2=>x1++x2) #[] (List.replicate m its.toArray)=(List.replicate m its).flatten.toArray:=λm=>by
   have:=foldl_rep its m [];rw[List.nil_append]at this;exact this
  rw[f0];cases its with
  |nil=>simp
  |cons a r'=>rw[if_neg (by simp)]
 refine wpAny_binaryOp_repeat_ref (T:="list") (U:="int") (by decide) ⟨_,e,rfl⟩ (λs'=>typeIs_int s' k t) noFill_list_mul F.fills_int_mul F.slot_int_rmul repeat_list F.slot_int_index.lookup
  (XH F.slot_int_rmul (typeIs_int s k t) F.entry_int_rmul (F.args_int_rmul_2 _ _) (int___rmul___int_list k t l its.toArray n)
   ⟨e,rfl,⟨_,e,rfl⟩,XH F.slot_list_mul ⟨_,e,rfl⟩ F.entry_list_mul (F.args_list_mul_2 _ _) (AutoListH.list___mul___list_int_3 l its.toArray n k t Ql n9 Lg) ⟨e,?_⟩⟩)
 rw[Qc];exact⟨.ref _,_,I.F6 (t':=s.toks) (r.rep k.toNat) (by rw[len_rep,Nat.mul_comm];exact hz),rfl,q _ I.fresh⟩
end
section
variable {prog:ax}{w:World}{A:ay}{E:aw}{s:Shared}
set_option maxRecDepth 100000 in
end
section
variable {X:Cx}
end
end L2
namespace Att
open PySem PySem.W PySem.Calls PyProof.Rows
theorem jX{P:Params}{h:Heap}:∀(ns:aa) (vs:ag),WellAll P h vs (ns.map WData.int)->IntsAre vs ns:=by
 intro ns;induction ns with
 |nil =>
  intro vs w;rw[List.map_nil]at w;cases w;exact .nil
 |cons n ns ih =>
  intro vs w;rw[List.map_cons]at w;cases w with
  |cons a b =>
   cases a;exact .cons _ _ (ih _ b)
theorem vm{l:OpenLaw}{n:Nat}(hn:l.most=some n){P:Params}{h:Heap}{args:List WData}{vals:ag}
  (BC:l.row.toRowW.claim.pre args=true) (PJ:WellAll P h vals args) :
  ∃a vs ns,vals=[Value.ref a]/\args=[WData.list (ns.map WData.int)]/\h.get? a=some { cls:=.type "list",data:=.seq vs.toArray }/\IntsAre vs ns/\ns.length<=n:=by
 have UU:WShape.hasAll [] args [.list .int]=true:=(pre_splitW BC).1;have hc:l.pre.holds [] { args:=args }=true:=(pre_splitW BC).2;obtain⟨d,r,rfl,h1,h2⟩:=hasAllW_cons UU;obtain rfl:=hasAllW_nil h2;obtain⟨xs,rfl,h3⟩:=hasW_list h1;obtain⟨ns,rfl⟩:=items_int h3;have hlen:ns.length<=n:=by
  unfold OpenLaw.pre at hc;have h4:(WTm.not (.lt (.lit (.int (n:Int))) (.len (.arg 0)))).holds [] { args:=[.list (ns.map .int)] }=true:=by
   have h4:=(holds_andW hc).1;rw[hn]at h4;exact h4
  have h5:=condW_of h4 (w_not (w_lt w_lit (w_len_list (w_arg rfl))));rw[List.length_map]at h5;refine Nat.le_of_not_lt λq=>?_;have q':(n:Int)<((ns.length:Nat):Int):=by left
  first
   | (rw[decide_eq_true q']at h5;exact absurd h5 (by decide))
   | (simp at h5;left)
 cases PJ with
 |cons w1 w2 =>
  cases w2;cases w1 with
  |list ho hall=>exact⟨_,_,ns,rfl,rfl,ho,jX ns _ hall,hlen⟩
theorem vp(l:OpenLaw)(args:List WData):l.row.toRowW.claim.post args (.bool true) args=true :=
 postW_of (r:=l.row.toRowW) (X:=(true==true))
  (show WShape.has [] (.bool true) .bool=true by first|rfl|decide|simp[WShape.has,WShape.arms,WShape.armsAll])
  (show(WTm.eq .res (.lit (.bool true))).value [] { args:=args,res:=some (.bool true),after:=args }=some (.bool (true==true)) from w_eq_bool (w_res rfl) w_lit) rfl
theorem qH{l:OpenLaw}{n:Nat}{q:ax}{loose:av}{XP:(aN)->Heap->Prop}{YP:World->Heap->Prop}{d:DefRec}
  (hn:l.most=some n) (Lr:d.params.defaults=[])
  (call:∀(w:World) (s₀ s₁:Shared) (mg mb:aN) (fa:Addr) (o:Obj) (pm cd doc:Value) (a:Addr) (vs:ag) (ns:aa),
   Ground q loose [] XP w s₀ mg mb s₁.heap->YP w s₁.heap ->
   s₁.heap.get? fa=some o->o.data=.func (docDef d.name d.params d.body d.scope pm cd doc)->s₁.heap.CodeRec cd d.name->mg d.name=some (.ref fa) ->
   s₁.heap.get? a=some { cls:=.type "list",data:=.seq vs.toArray }->IntsAre vs ns->ns.length<=n->s₁.gens = #[] ->
   codeAny (model l.prog w) callerA (.call (.ref fa) ⟨[.ref a],[]⟩) (λr s'=>r=.ok (.ret (.bool true))/\OldK s₁.heap s'.heap/\s'.os=s₁.os/\AllBare s'.gens) s₁) :
  WalkO q loose XP YP l.row.toRowW d [] (λf vs=>PySem.call f vs):=by
 intro w s₀ s₁ mg mb G Y fa o pm cd doc dV kV ho hd hcd hD hmg hg args vals as BC U4 WC PJ Gz;obtain rfl:dV=.none:=Dflts.none hD Lr;obtain rfl:kV=.none:=Dflts.noKw hD;obtain⟨a,vs,ns,rfl,rfl,Gx,hints,hlen⟩:=vm hn BC PJ;refine enter_call (XY (call w s₀ s₁ mg mb fa o pm cd doc a vs ns G Y ho (fd_plain hd) hcd hmg Gx hints hlen hg) λr s' hq=>?_);obtain⟨rfl,h2,h3,h4⟩:=hq;exact⟨.inl ⟨.bool true,.bool true,[],rfl,λ_=>rfl,.bool true,vp l _,λ_=>⟨List.Pairwise.nil,λ_ hm=>(nomatch hm)⟩⟩,h2,h3,h4⟩
section
variable {prog:ax}{w:World}{A:ay}{E:aw}{s:Shared}{K:Frag}
noncomputable def ledger(h:Heap)(L d:Addr):ak:=(List.range h.objs.size).filterMap λa=>if a=L\/a=d then none else(h.get? a).map λo=>(a,o)
end
end Att
namespace L2
open PySem PySem.Spec PyProof.Rows
theorem je:∀{vs:ag} {ns:aa},IntsAre vs ns->Vals (ns.map V.int) vs
 |_,_,.nil=>.nil
 |_,_,.cons n t h=>.cons ⟨t,rfl⟩ (je h)
def CD(H:Hp):Prop:=∀b,H b=none\/(∃o xs,H b=some (.fu o (.lst xs)))\/b=df/\∃p,H b=some (.wt p)
structure Tab0(K:ao)(h:Heap)(p:aC):Prop where
 out:K.lookup df=none
 code:∃c,h.TableAt c df p
 ok:TriplesOk p.toList
 bz:codeAmong eT p.toList=none
theorem yp{P:ax}{w:World}{K:ao}{mg mb:aN}{CX:wF}{k:Nat}{fa a:Addr}{fd:FuncData}{x:Str}{sp:Sp}{s₁:Shared}{vs:ag}{ns:aa}
  {tp:aC} (T0:Tab0 K s₁.heap tp) (KX:K.In s₁.heap) (qi:s₁.heap.Ns mainGlobals mg) (hb:s₁.heap.Ns builtinsNs mb) (Vm:∀x:Str,x ≠ "__name__" -> mb x=bootBuiltins x) (Qh:s₁.heap.NoLimit) (hg:s₁.gens = #[])
  (ha:s₁.heap.get? a=some { cls:=.type "list",data:=.seq vs.toArray }) (hi:IntsAre vs ns) (hl:ns.length<=sizeLine) (hr:eN k callerA)
  (Vl:∃bm ob,mg "__builtins__" = some (.ref bm)/\bm≠builtinsNs/\s₁.heap.get? bm=some ob/\ob.cls=.type "module" /\ ob.dict=some builtinsNs/\ob.data=.plain)
  (F:∀base:Heap,K.In base->base.Ns mainGlobals mg->base.BuiltinsAt mg df->f_ P w K mg base CX k fa fd [x] sp) (yP:∀(s:Shared) (u:Value),BindsTo s fd ⟨[u],[]⟩ [(x,u)])
  (wz:∀H:Hp,CD H->de K H a (ns.map V.int)->sp [.ref a] H (λv _=>v=.bl true) λ_ _ _=>False)
  (Qy:∀H e s',CX [] H s₁ (λ_ _ _=>False) e s'->False) :
  codeAny (model P w) callerA (.call (.ref fa) ⟨[.ref a],[]⟩) (λr s'=>r=.ok (.ret (.bool true))/\OldK s₁.heap s'.heap/\s'.os=s₁.os/\AllBare s'.gens) s₁:=by
 have rv:=je hi;have Pd:=hi.length;have CT:s₁.heap.get? df=some (Ap tp):=let ⟨_,z⟩:=T0.code;z.2;have RU:a≠df:=λz=>by rw[z,CT]at ha;cases ha
 have oldK:∀{h h':Heap},(∀b o,h.get? b=some o->h'.get? b=some o\/(isCodeTable h b/\o.cls=.none/\∃vs more,o.data=.fields vs/\h'.get? b=some { o with data:=.fields (vs++more) }))->OldK h h':=λ{h h'} x=>⟨λb o e=>(x b o e).elim .inl λz=>.inr (.inl z),λb o e=>(x b o e).elim (λz=>⟨o,z⟩) λ⟨_,_,_,_,_,z⟩=>⟨_,z⟩⟩
 have core:∀H:Hp,CD H->de K H a (ns.map V.int)->jB P w H s₁.heap->(∀b,H b≠none->b=a\/b=df)->(H a≠none->K.lookup a=none)->H df=some (.wt tp) ->
   codeAny (model P w) callerA (.call (.ref fa) ⟨[.ref a],[]⟩) (λr s'=>r=.ok (.ret (.bool true))/\OldK s₁.heap s'.heap/\s'.os=s₁.os/\AllBare s'.gens) s₁:=by
  intro H hO hS ck hA hK SK;have oK:∀{b:Addr} {o:Obj},s₁.heap.get? b=some o->H b=none->(mn s₁.heap H).get? b=some o:=λe n=>yL e n;have Kh:∀{b:Addr} {o:Obj} {es:Array DictEntry} {ep:Nat},s₁.heap.get? b=some o->o.data=.dict es ep->H b=none:=λ{b o es ep} e d=>by
   cases q:H b with
   |none=>rfl
   |some u =>
    rcases hA b (by rw[q];simp)with e'|e'
    ·subst e';rw[ha]at e;cases e;have d':Data.seq vs.toArray _=Data.dict es ep:=d;cases d'
    ·subst e';rw[CT]at e;cases e;have d':Data.fields tp=Data.dict es ep:=d;cases d'
  have M8:∀{b:Addr} {m:aN},s₁.heap.Ns b m->(mn s₁.heap H).Ns b m:=λ{b m} ⟨o,es,ep,e,d,r⟩=>⟨o,es,ep,oK e (Kh e d),d,r⟩
  have SQ:K.In (mn s₁.heap H):=λb o e=>oK (KX b o e) (by
   cases q:H b with
   |none=>rfl
   |some u =>
    rcases hA b (by rw[q];simp)with e'|e'
    ·subst e';rw[hK (by rw[q];simp)]at e;cases e
    ·subst e';rw[T0.out]at e;cases e)
  have Vw:(mn s₁.heap H).BuiltinsAt mg df:=by
   obtain⟨bm,ob,e1,e2,e3,e4,e5,e6⟩:=Vl;have nT:bm≠df:=λz=>by rw[z,CT]at e3;cases e3;cases e4
   have nA:bm≠a:=λz=>by rw[z,ha]at e3;cases e3;cases e6
   refine⟨bm,ob,e1,e2,λz=>?_,nT,oK e3 ?_,e4,e5,e6⟩
   ·obtain⟨o,es,ep,e,d,_⟩:=qi;rw[z,e]at e3;cases e3;rw[d]at e6;cases e6
   ·cases q:H bm with
    |none=>rfl
    |some u=>exact((hA bm (by rw[q];simp)).elim nA nT).elim
  have hM:Mod K mg (mn s₁.heap H):=⟨SQ,M8 qi,⟨mb,M8 hb,Vm⟩,let ⟨mc,h1,h2⟩:=Qh;⟨mc,M8 h1,h2⟩⟩
  have e0:CF P w K mg (mn s₁.heap H) callerA [] s₁ H:=⟨rfl,hM,λb o e=>A_ e,Nat.le_of_eq (vM _ _),trivial,λb hb=>absurd (show b∈([]:aO) from hb) (by simp),ck,.of_eq hg,⟨tp,SK,#[],by rw[Array.append_empty];exact CT,by rw[Array.append_empty];exact T0.ok,λcv z=>by rw[Array.append_empty,T0.bz]at z;cases z⟩⟩
  refine XY ((F _ SQ (M8 qi) Vw).run callerA [] s₁ H ⟨[.ref a],[]⟩ [.ref a] [.ref a] _ _ hr e0 (yP s₁ (.ref a)) (.cons rfl .nil) (wz H hO hS)) λr s' h=>?_;cases r with
  |error e=>exact(Qy H e s' h).elim
  |ok fl =>
   cases fl with
   |next=>exact False.elim h
   |brk=>exact False.elim h
   |cont=>exact False.elim h
   |ret u =>
    obtain⟨v,H',os,bare,un,P8,r',q⟩:=h;have q':v=.bl true:=q;subst q';obtain rfl:u=Value.bool true:=r';refine⟨rfl,oldK λb o e=>?_,os,bare⟩;cases q:H b with
    |none=>exact .inl (un.keep b o e q (by intro z;exact absurd (show b∈([]:aO) from z) (by simp)) (by simp))
    |some u =>
     rcases hO b with z|⟨ob,xs,z⟩|⟨rfl,_⟩
     ·rw[q]at z;cases z
     rotate_left
     ·rw[CT]at e;cases e;obtain⟨m,y,_⟩:=(un.kN tp ⟨SK,#[],by rw[Array.append_empty];exact CT,by rw[Array.append_empty];exact T0.ok,λcv z=>by rw[Array.append_empty,T0.bz]at z;cases z⟩).tab;obtain⟨c,z⟩:=T0.code;exact .inr ⟨z.isCodeTable,rfl,tp,m,rfl,y⟩
     ·refine .inl ?_;have z2:=un.mr b ob _ z;obtain⟨e1,_⟩:=ck b _ z;obtain⟨e2,_⟩:=P8 b _ z2;rw[e]at e1;cases e1;exact e2
 cases hk:K.lookup a with
 |some o =>
  have e:=KX a o hk;rw[ha]at e;cases e;refine core (λb=>if b=df then some (.wt tp)else none) (λb=>?_) (.inr ⟨_,vs.toArray,_,hk,rfl,rfl,rfl,by rw[List.size_toArray,Pd];exact hl,by simpa using rv⟩) (λb u z=>?_) (λb z=>?_) (λz=>absurd (Xs RU) z) (Xf rfl)
  ·by_cases hb:b=df
   ·exact .inr (.inr ⟨hb,tp,Xf hb⟩)
   ·exact .inl (Xs hb)
  ·by_cases hb:b=df
   ·have z':=(Xf hb).symm.trans z;cases z';subst hb;exact⟨#[],by rw[Array.append_empty];exact CT⟩
   ·have z':=(Xs hb).symm.trans z;cases z'
  ·by_cases hb:b=df
   ·exact .inr hb
   ·exact absurd (Xs hb) z
 |none =>
  refine core (λb=>if b=a then some (.fu { cls:=.type "list",data:=.seq vs.toArray } (.lst (ns.map V.int)))else if b=df then some (.wt tp)else none) (λb=>?_) (.inl (.inr ⟨{ cls:=.type "list",data:=.seq vs.toArray },Xf rfl⟩)) (λb u z=>?_) (λb z=>?_) (λ_=>hk) ((Xs (YH RU)).trans (Xf rfl))
  ·by_cases hb:b=a
   ·exact .inr (.inl ⟨_,_,Xf hb⟩)
   ·by_cases hc:b=df
    ·exact .inr (.inr ⟨hc,tp,(Xs hb).trans (Xf hc)⟩)
    ·exact .inl ((Xs hb).trans (Xs hc))
  ·by_cases hb:b=a
   ·have z':=(Xf hb).symm.trans z;cases z';subst hb;exact⟨ha,by rw[List.length_map];exact hl,vs,_,rv,ha⟩
   ·have z1:=(Xs hb).symm.trans z;by_cases hc:b=df
    ·have z':=(Xf hc).symm.trans z1;cases z';subst hc;exact⟨#[],by rw[Array.append_empty];exact CT⟩
    ·have z':=(Xs hc).symm.trans z1;cases z'
  ·by_cases hb:b=a
   ·exact .inl hb
   ·by_cases hc:b=df
    ·exact .inr hc
    ·exact absurd ((Xs hb).trans (Xs hc)) z
end L2
namespace L2
open PySem PySem.Spec PyProof.Rows
theorem z7{l:PySem.W.OpenLaw}{n k:Nat}{q:ax}{loose:av}{XP:(aN)->Heap->Prop}{YP:World->Heap->Prop}{d:DefRec}{K:Params->ao}{CX:World->wF}{sp:World->Sp}{x:Str}
  (hn:l.most=some n) (BG:n<=sizeLine) (Lr:d.params.defaults=[]) (hr:eN k callerA)
  (hY:∀(w:World) (h:Heap),YP w h->(K w.params).In h) (hT:∀(w:World) (h:Heap),YP w h->∃tp,Tab0 (K w.params) h tp)
  (F:∀(w:World) (mg:aN) (fa:Addr) (h:Heap),(K w.params).In h->h.Ns mainGlobals mg->mg d.name=some (.ref fa) ->
   ∃fd:FuncData,(∀(s:Shared) (u:Value),BindsTo s fd ⟨[u],[]⟩ [(x,u)]) /\
    ∀base:Heap,(K w.params).In base->base.Ns mainGlobals mg->base.BuiltinsAt mg df->f_ l.prog w (K w.params) mg base (CX w) k fa fd [x] (sp w))
  (wz:∀(w:World) (H:Hp) (a:Addr) (ns:aa),ns.length<=n->CD H->de (K w.params) H a (ns.map V.int)->sp w [.ref a] H (λv _=>v=.bl true) λ_ _ _=>False)
  (Qy:∀(w:World) (H:Hp) (s:Shared) (e:Value) (s':Shared),CX w [] H s (λ_ _ _=>False) e s'->False) :
  PySem.W.WalkO q loose XP YP l.row.toRowW d [] (λf vs=>PySem.call f vs):=by
 refine Att.qH hn Lr λw s₀ s₁ mg mb fa o pm cd doc a vs ns G Y ho hd hcd hmg Gx hints hlen hg=>?_;have KX:=hY w _ Y;obtain⟨fd,hb,hF⟩:=F w mg fa _ KX G.T.g hmg;obtain⟨tp,T0⟩:=hT w _ Y;exact yp T0 KX G.T.g G.T.b G.T.builtins G.T.nolimit hg Gx hints (Xb hlen BG) hr G.T.bmain hF hb (λH hO hS=>wz w H a ns hlen hO hS) λH e s'=>Qy w H s₁ e s'
end L2
namespace L2
open PySem PySem.Spec PyProof.Rows
noncomputable def dt(s:Stmt):Arguments:=match s with
 |.FunctionDef _ a _ _ _ _ _ _ _ _=>a
 |_=>{ posonlyargs:=[],args:=[],vararg:=none,kwonlyargs:=[],kw_defaults:=[],kwarg:=none,defaults:=[] }
noncomputable def bK(s:Stmt):aL:=match s with
 |.FunctionDef _ _ b _ _ _ _ _ _ _=>b
 |_=>[]
noncomputable def aF(s:Stmt):Scope:=match s with
 |.FunctionDef _ _ _ _ _ _ sc _ _ _=>sc
 |_=>{ kind:=.function,names:=[],isGenerator:=false,isCoroutine:=false }
abbrev l6:wF:=λ_ _ _ _ _ _=>False
abbrev E0:XK:=λ_ _ _=>False
theorem J5{X:Cx}:Passes l6 X E0:=λ_ _ _ _ _ _ _ h=>h.elim
structure zO(K:ao)(x qual:Str)(st:Stmt)(f:Addr)(fd:FuncData):Prop where
 ex:∃(oc:Value) (od:Option Addr) (kV doc pm:Value) (an:Option Addr) (fX ct:Value) (xV:Array (Option Value)),
  fd=PySem.W.fnOf x qual (dt st) (bK st) (aF st) .none kV doc pm an fX ct/\K.lookup f=some ⟨oc,od,.func fd,xV⟩/\PySem.W.codeIn K fX qual=true
 kp:PySem.W.keepIn K (.ref f)=true
variable {ps:av}{qual:Str}{st:Stmt}
section
variable {P:ax}{w:World}{K:ao}{mg:aN}{base:Heap}
theorem zO.ok{x:Str}{f:Addr}{fd:FuncData}{N:av}{k:Nat}{sp:Sp}(F:zO K x qual st f fd)(S:fQ N ps (aF st))(len:∀vs H Q E,sp vs H Q E->vs.length=ps.length)
  (yO:∀(fX:Value) (A:ay) (outer:List Env) (s:Shared) (H:Hp) (vs:ae) (Q:VK) (E:XK),eN k (A.deeper (envOfC qual (aF st) s.heap.objs.size f fX))->sp vs H Q E ->
   ∃t,jc (gO l6 P w K mg base N qual (aF st) f fX A outer s H E).rJ (bK st) t/\t { nx:=λ_ H'=>Q .bz H',rt:=Q } (start N vs) H):f_ P w K mg base l6 (k+1) f fd ps sp:=by
 obtain⟨oc,od,kV,doc,pm,an,fX,ct,xV,rfl,lk,hcd⟩:=F.ex;refine DF lk hcd S len λA outer s H vs Q E hr wz=>?_;obtain⟨t,h,q⟩:=yO fX A outer s H vs Q E hr wz;exact⟨t,h.rJ,q⟩
theorem zO.binds{x:Str}{f:Addr}{fd:FuncData}(F:zO K x qual st f fd)
  (h:∀(kV doc pm:Value) (an:Option Addr) (fX ct:Value) (us:ag),us.length=ps.length->bindArgs (PySem.W.fnOf x qual (dt st) (bK st) (aF st) .none kV doc pm an fX ct) ⟨us,[]⟩=pure (ps.zip us)):Binds K fd ps []:=by
 obtain⟨oc,od,kV,doc,pm,an,fX,ct,xV,rfl,lk,hcd⟩:=F.ex;exact .all (h kV doc pm an fX ct)
theorem y0{x:Str}{f:Addr}{oc:Value}{od an:Option Addr}{xV:Array (Option Value)}{kV doc pm fX ct:Value}(l:K.lookup f=some ⟨oc,od,.func (PySem.W.fnOf x qual (dt st) (bK st) (aF st) .none kV doc pm an fX ct),xV⟩)
  (c:PySem.W.codeIn K fX qual=true) (k:PySem.W.keepIn K (.ref f)=true):zO K x qual st f (PySem.W.fnOf x qual (dt st) (bK st) (aF st) .none kV doc pm an fX ct):=⟨⟨oc,od,kV,doc,pm,an,fX,ct,xV,rfl,l,c⟩,k⟩
end
theorem yI{A:ay}{k:Nat}(hr:eN k A):A.units+1<cLine:=Xe (Nat.add_le_add_left (by decide:1<=64) _) hr.units
section
variable {X:Cx}
end
def aJ(H H':Hp):Prop:=∀b o,H b=some o->H' b=some o
theorem aJ.refl(H:Hp):aJ H H:=λ_ _ h=>h
variable {H H':Hp}
theorem aJ.trans{H1 H2:Hp}(a:aJ H H1)(b:aJ H1 H2):aJ H H2:=λc o h=>b c o (a c o h)
theorem aJ.free(e:aJ H H'){l:Addr}(h:H' l=Option.none):H l=Option.none:=by
 cases q:H l with
 |none=>rfl
 |some o =>
  rw[e l o q]at h;cases h
theorem aJ.seq{K:ao}{a:Addr}{xs:ae}(e:aJ H H')(h:de K H a xs):de K H' a xs:=by
 rcases h with (h|⟨o,h⟩)|h
 ·exact .inl (.inl (e _ _ h))
 ·exact .inl (.inr ⟨o,e _ _ h⟩)
 ·exact .inr h
end L2
set_option autoImplicit false
set_option linter.all false
set_option Elab.async false
set_option maxRecDepth 100000
set_option maxHeartbeats 4000000
section
namespace DI
open PySem (Str Expr Stmt Scope NameKind)
inductive Fl where|ow|fz|al|sc
 deriving DecidableEq
inductive D where
 |bz|bl (b:Bool)|int (i:Int)
 |tup (ds:List D)
 |lst (f:Fl) (ds:List D)
 |cE (f:Fl) (ks:aq) (vs:List D)
abbrev aK:=Option D
abbrev ab:=List D
mutual
noncomputable def aZ(g:Fl->Fl):D->D
 |.tup ds=>.tup (aG g ds)
 |.lst f ds=>.lst (g f) (aG g ds)
 |.cE f ks vs=>.cE (g f) ks (aG g vs)
 |.bz=>.bz
 |.bl b=>.bl b
 |.int i=>.int i
noncomputable def aG(g:Fl->Fl):ab->ab
 |[]=>[]
 |d::ds=>aZ g d::aG g ds
end
theorem bA(g:Fl->Fl):∀ds:ab,aG g ds=ds.map (aZ g)
 |[]=>rfl
 |d::ds=>by rw[aG,bA g ds];rfl
noncomputable def bH:Fl->Fl|.ow=>.al|f=>f
noncomputable def mq:Fl->Fl|.fz=>.al|f=>f
noncomputable def bo:Fl->Fl|.sc=>.sc|_=>.fz
noncomputable def qb:Fl->Bool|.sc=>true|_=>false
mutual
noncomputable def aS(p:Fl->Bool):D->Bool
 |.tup ds=>aP p ds
 |.lst f ds=>p f||aP p ds
 |.cE f ks vs=>p f||aP p vs
 |_=>false
noncomputable def aP(p:Fl->Bool):ab->Bool
 |[]=>false
 |d::ds=>aS p d||aP p ds
end
noncomputable def bW:Fl->Bool|.al=>true|_=>false
noncomputable def cD:Fl->Bool|.ow=>true|_=>false
noncomputable def anyF:Fl->Bool:=λ_=>true
mutual
noncomputable def ju:D->D->Bool
 |.bz,.bz=>true
 |.bl a,.bl b=>a==b
 |.bl a,.int b=>(if a then 1 else 0)==b
 |.int a,.bl b=>a==(if b then 1 else 0)
 |.int a,.int b=>a==b
 |.tup a,.tup b=>dC a b
 |.lst _ a,.lst _ b=>dC a b
 |_,_=>false
noncomputable def dC:ab->ab->Bool
 |[],[]=>true
 |a::as,b::bs=>ju a b&&dC as bs
 |_,_=>false
end
noncomputable def eX:Nat->D->Bool
 |_,.bz=>true
 |_,.bl _=>true
 |_,.int _=>true
 |n+1,.tup ds=>ds.all (eX n)
 |n+1,.lst _ ds=>ds.all (eX n)
 |_,_=>false
abbrev O(α:Type):=Option (Except Nat α)
abbrev aD:=ab->O D
noncomputable def ok{α:Type}(a:α):O α:=some (.ok a)
noncomputable def bd{α β:Type}(x:O α)(f:α->O β):O β:=match x with
 |some (.ok a)=>f a
 |some (.error c)=>some (.error c)
 |none=>none
@[simp]theorem M_{α:Type}{a:α}:((none:O α)=ok a)=False:=by simp[ok]
@[simp]theorem O5{α:Type}{a b:α}:(ok a=ok b)=(a=b):=by simp[ok]
@[simp]theorem QU{α:Type}{a:α}{c:Nat}:((some (.error c):O α)=ok a)=False:=by simp[ok]
@[simp]theorem Du{α:Type}{p:Prop}[Decidable p]{a b:α}:((if p then ok a else none)=ok b)=(p/\a=b):=by
 by_cases h:p<;>simp[h]
@[simp]theorem PC{α:Type}{p:Prop}[Decidable p]{a b:α}:((if p then none else ok a)=ok b)=(¬ p/\a=b):=by
 by_cases h:p<;>simp[h]
theorem nk{α:Type}{a:α}{P:Prop}(h:(none:Option α)=some a):P:=nomatch h
theorem aA{α β:Type}{x:O α}{f:α->O β}{b:β}(h:bd x f=ok b):∃a,x=ok a/\f a=ok b:=by
 unfold bd at h
 match x,h with
 |some (.ok a),h=>exact⟨a,rfl,h⟩
 |some (.error c),h=>cases h
 |none,h=>cases h
inductive CG where|add|sub|mul|fdiv|mod|pow
 deriving DecidableEq
inductive wG where|eq|ne|lt|le|gt|ge|Bw|x6|wx|FP
 deriving DecidableEq
inductive Ty where|int|bool|list|tuple
 deriving DecidableEq
inductive Bf where|len|abs|min2|list1|tuple1|md|all1|dr
 deriving DecidableEq
inductive Tg where|nm(i:Nat)|tp(is:aH)
 deriving DecidableEq
inductive IK where|kW|seq|bX(p:Nat)
 deriving DecidableEq
inductive GK where|i(z:Int)
 deriving DecidableEq
inductive CE where
 |bz|bl (b:Bool)|int (i:Int)|glo (x:Str) (i:Int)
 |v (i:Nat)
 |bin (op:CG) (a b:CE)
 |neg (a:CE)|not (a:CE)|and (es:List CE)|or (es:List CE)|ite (c a b:CE)
 |cmp (op:wG) (a b:CE)
 |ue (a:CE) (t:Ty)
 |call (f:Nat) (es:List CE)
 |bf (f:Bf) (es:List CE)
 |ix (a b:CE)
 |tup (es:List CE)|lst (es:List CE)
 |bX (p:Nat) (es:List CE)
 |comp (n:Nat) (t:Tg) (caps:aH) (ik:IK) (es bu:List CE) (elt:CE)
abbrev aB:=List CE
inductive CI where|kW(a:CE)|seq(a:CE)|JY(p:Nat)(es:aB)
inductive CS where
 |asg (t:Tg) (e:CE)|par (i j:Nat) (a b:CE)|ret (e:CE)|rs (c:Nat)|ex (e:CE)
 |mut (p i:Nat) (es:aB)|app (i:Nat) (e:CE)|setI (i:Nat) (k e:CE)|aug (i:Nat) (op:Bool) (e:CE)
 |ifs (c:CE) (a b:List CS)
 |CH (c:CE) (b:List CS)
 |fr (t:Tg) (it:CI) (b:List CS)
abbrev aj:=List CS
abbrev aY:=List (aK)
abbrev aU:=Nat->aD
noncomputable def big:Nat:=2 ^ 9000
def fU(i j:Int):Bool:=decide (i.natAbs<2 ^ 64)||decide (j.natAbs<2 ^ 64)||(decide (i.natAbs<big)&&decide (j.natAbs<big))
def m5(j:Int):Bool:=decide (j≠0)&&decide (j.natAbs<big)
noncomputable def tM(i j:Int):Bool:=decide (0<=j)&&decide (j<=1000000)&&decide (i.natAbs<2 ^ 64)
noncomputable def eK:Nat:=1000000
theorem qe{α:Type}{c:Prop}[inst:Decidable c]{v d:α}(h:(if c then ok v else none)=ok d):c/\v=d:=by
 cases inst with
 |isTrue hc=>exact⟨hc,Except.ok.inj (W4 h)⟩
 |isFalse hc=>cases h
def bR:CG->D->D->O D
 |.add,.int i,.int j=>ok (.int (i+j))
 |.add,.lst f a,.lst g b=>if qb f=false/\qb g=false/\a.length+b.length<=eK then ok (.lst .ow (aG bH (a++b)))else none
 |.add,.tup a,.tup b=>if a.length+b.length<=eK then ok (.tup (aG bH (a++b)))else none
 |.sub,.int i,.int j=>ok (.int (i - j))
 |.mul,.int i,.int j=>if fU i j then ok (.int (i*j))else none
 |.fdiv,.int i,.int j=>if m5 j then ok (.int (i.fdiv j))else none
 |.mod,.int i,.int j=>if j≠0 then ok (.int (i.fmod j))else none
 |.pow,.int i,.int j=>if tM i j then ok (.int (i ^ j.toNat))else none
 |_,_,_=>none
def inD(x:D):ab->Bool
 |[]=>false
 |y::ys=>ju y x||inD x ys
noncomputable def dO:D->Bool
 |.bz=>true|.bl _=>true|.int _=>true|_=>false
noncomputable def yB:D->Option (ab)
 |.tup ds=>some ds
 |.lst _ ds=>some ds
 |_=>none
def dE:wG->D->D->O D
 |.eq,a,b=>if eX 40 a&&eX 40 b then ok (.bl (ju a b))else none
 |.ne,a,b=>if eX 40 a&&eX 40 b then ok (.bl (!ju a b))else none
 |.lt,.int i,.int j=>ok (.bl (decide (i<j)))
 |.le,.int i,.int j=>ok (.bl (decide (i<=j)))
 |.gt,.int i,.int j=>ok (.bl (decide (j<i)))
 |.ge,.int i,.int j=>ok (.bl (decide (j<=i)))
 |.Bw,a,.bz=>ok (.bl (match a with|.bz=>true|_=>false))
 |.x6,a,.bz=>ok (.bl (match a with|.bz=>false|_=>true))
 |.wx,a,b=>match yB b with
  |some ds=>if dO a&&ds.all dO then ok (.bl (inD a ds))else none
  |none=>none
 |.FP,a,b=>match yB b with
  |some ds=>if dO a&&ds.all dO then ok (.bl (!inD a ds))else none
  |none=>none
 |_,_,_=>none
noncomputable def fG:Ty->D->Bool
 |.int,.int _=>true|.int,.bl _=>true
 |.bool,.bl _=>true
 |.list,.lst _ _=>true
 |.tuple,.tup _=>true
 |_,_=>false
noncomputable def oU(n:Nat)(i:Int):Option Nat:=if 0<=i then(if i<n then some i.toNat else none)else if -(n:Int)<=i then some (i+n).toNat else none
def ni(ds:ab)(i:Int):O D:=match(oU ds.length i).bind λj=>ds[j]? with
 |some d=>ok (aZ bH d)
 |none=>none
def Ds:D->D->O D
 |.tup ds,.int i=>ni ds i
 |.lst _ ds,.int i=>ni ds i
 |_,_=>none
noncomputable def intsOf:ab->Option (aa)
 |[]=>some []
 |.int i::ds=>(intsOf ds).map (i :: ·)
 |_::_=>none
noncomputable def gX:ab->Option (List Bool)
 |[]=>some []
 |.bl i::ds=>(gX ds).map (i :: ·)
 |_::_=>none
theorem fi:∀{ds:ab} {ns:aa},intsOf ds=some ns->ds=ns.map D.int
 |[],ns,h=>by simp[intsOf]at h;subst h;rfl
 |d::ds,ns,h=>by
  cases d<;>simp[intsOf]at h;obtain⟨ms,h1,rfl⟩:=h;rw[fi h1];rfl
theorem qG:∀{ds:ab} {bs:List Bool},gX ds=some bs->ds=bs.map D.bl
 |[],bs,h=>by simp[gX]at h;subst h;rfl
 |d::ds,bs,h=>by
  cases d<;>simp[gX]at h;obtain⟨ms,h1,rfl⟩:=h;rw[qG h1];rfl
theorem bI:∀ns:aa,intsOf (ns.map D.int)=some ns
 |[]=>rfl
 |n::ns=>by simp[intsOf,bI ns]
theorem m9:∀bs:List Bool,gX (bs.map D.bl)=some bs
 |[]=>rfl
 |b::bs=>by simp[gX,m9 bs]
noncomputable def sortI(ns:aa):aa:=ns.mergeSort (λa b=>decide (a<=b))
def jI(ds:ab):O D:=match intsOf ds with
 |some ns=>if ns.length<64 then ok (.lst .ow ((sortI ns).map D.int))else none
 |none=>none
def qS:Bf->aD
 |.len,xs=>match xs with
  |[.tup ds]=>ok (.int ds.length)
  |[.lst _ ds]=>ok (.int ds.length)
  |_=>none
 |.abs,xs=>match xs with
  |[.int i]=>ok (.int (if i<0 then -i else i))
  |_=>none
 |.min2,xs=>match xs with
  |[.int i,.int j]=>ok (.int (if j<i then j else i))
  |_=>none
 |.list1,xs=>match xs with
  |[.lst _ ds]=>ok (.lst .ow (aG bH ds))
  |[.tup ds]=>ok (.lst .ow (aG bH ds))
  |_=>none
 |.tuple1,xs=>match xs with
  |[.lst _ ds]=>ok (.tup (aG bH ds))
  |_=>none
 |.md,xs=>match xs with
  |[.lst _ ds]=>(match intsOf ds with
   |some ns=>ok (.int ns.sum)
   |none=>none)
  |_=>none
 |.all1,xs=>match xs with
  |[.lst _ ds]=>(match gX ds with
   |some bs=>ok (.bl (bs.all id))
   |none=>none)
  |_=>none
 |.dr,xs=>match xs with
  |[.lst _ ds]=>jI ds
  |[.tup ds]=>jI ds
  |_=>none
noncomputable def qw(ns:aa):aa:=ns.foldl (λ(m:aa) (k:Int)=>if m.any (· == k)then m else m++[k]) []
def Kv:D->O D
 |.tup ds=>(match intsOf ds with
  |some ns=>if ns.length<4000 then ok (.int (qw ns).length)else none
  |none=>none)
 |_=>none
noncomputable def fA:D->O Bool
 |.bl b=>ok b
 |_=>none
noncomputable def intD:D->O Int
 |.int i=>ok i
 |_=>none
noncomputable def rF:Option (aK)->Option (ab)
 |some (some (.lst .ow ds))=>some ds
 |_=>none
theorem tV{o:Option (aK)}{ds:ab}(h:rF o=some ds):o=some (some (.lst .ow ds)):=by
 unfold rF at h;split at h<;>cases h;rfl
theorem ug{d:D}{i:Int}(h:intD d=ok i):d=.int i:=by
 cases d<;>simp[intD]at h;rw[h]
noncomputable def Be:D->O D
 |.int i=>ok (.int (-i))
 |_=>none
noncomputable def fg:aH->ab->aY->O aY
 |[],[],ρ=>ok ρ
 |i::is,d::ds,ρ=>if i<ρ.length then fg is ds (ρ.set i (some d))else none
 |_,_,_=>none
def cm:Tg->D->aY->O aY
 |.nm i,d,ρ=>if i<ρ.length then ok (ρ.set i (some d))else none
 |.tp is,.tup ds,ρ=>if aP cD ds then none else fg is ds ρ
 |_,_,_=>none
def nH:D->O (ab)
 |.lst _ ds=>ok (aG bo ds)
 |_=>none
def dB(Φ:aU):IK->ab->O (ab)
 |.bX p,xs=>bd (Φ p xs) nH
 |.kW,[.int n]=>if n<=eK /\ -eK<=n then ok ((List.range n.toNat).map λ(k:Nat)=>D.int (k:Int))else none
 |.seq,[.tup ds]=>ok (aG bo ds)
 |.seq,[.lst _ ds]=>ok (aG bo ds)
 |_,_=>none
noncomputable def gv(bind:D->O aY)(test:aY->O Bool)(el:aY->O D):ab->O (ab)
 |[]=>ok []
 |x::xs=>bd (bind x) λρ=>bd (test ρ) λb=>if b then bd (el ρ) λy=>bd (gv bind test el xs) λys=>ok (y::ys)else gv bind test el xs
def bE(n:Nat)(caps:aH)(ρ:aY):aY:=List.replicate n none++caps.map λi=>(ρ[i]?.getD none).map (aZ bo)
def tE(o:Option (aK)):O D:=match o with
 |some (some d)=>ok (aZ bH d)
 |_=>none
theorem pC{o:Option (aK)}{d:D}(h:tE o=ok d):∃d',o=some (some d')/\d=aZ bH d':=by
 cases o with
 |none=>cases h
 |some z=>cases z with
  |none=>cases h
  |some z=>cases h;exact⟨z,rfl,rfl⟩
mutual
noncomputable def bg(Φ:aU):CE->aY->O D
 |.bz,_=>ok .bz
 |.bl b,_=>ok (.bl b)
 |.int i,_=>ok (.int i)
 |.glo _ i,_=>ok (.int i)
 |.v i,ρ=>tE ρ[i]?
 |.bin op a b,ρ=>bd (bg Φ a ρ) λx=>bd (bg Φ b ρ) λy=>bR op x y
 |.neg a,ρ=>bd (bg Φ a ρ) Be
 |.not a,ρ=>bd (bd (bg Φ a ρ) fA) λb=>ok (.bl (!b))
 |.and es,ρ=>mY Φ es ρ
 |.or es,ρ=>vZ Φ es ρ
 |.ite c a b,ρ=>bd (bd (bg Φ c ρ) fA) λk=>if k then bg Φ a ρ else bg Φ b ρ
 |.cmp op a b,ρ=>bd (bg Φ a ρ) λx=>bd (bg Φ b ρ) λy=>dE op x y
 |.ue a t,ρ=>bd (bg Φ a ρ) λx=>ok (.bl (fG t x))
 |.call f es,ρ=>bd (cM Φ es ρ) λxs=>bd (Φ f (aG bo xs)) λr=>ok (aZ mq r)
 |.bf f es,ρ=>bd (cM Φ es ρ) λxs=>qS f xs
 |.ix a b,ρ=>bd (bg Φ a ρ) λx=>bd (bg Φ b ρ) λy=>Ds x y
 |.bX p es,ρ=>bd (cM Φ es ρ) λxs=>Φ p xs
 |.tup es,ρ=>bd (cM Φ es ρ) λxs=>ok (.tup xs)
 |.lst es,ρ=>bd (cM Φ es ρ) λxs=>ok (.lst .ow xs)
 |.comp n t caps ik es bu elt,ρ=>bd (cM Φ es ρ) λxs=>bd (dB Φ ik xs) λitems =>
   bd (gv (λd=>cm t d (bE n caps ρ)) (λρ'=>fV Φ bu ρ') (λρ'=>bg Φ elt ρ') items) λds=>if ds.length<=eK then ok (.lst .ow (aG mq ds))else none
noncomputable def cM(Φ:aU):aB->aY->O (ab)
 |[],_=>ok []
 |e::es,ρ=>bd (bg Φ e ρ) λx=>bd (cM Φ es ρ) λxs=>ok (x::xs)
noncomputable def fV(Φ:aU):aB->aY->O Bool
 |[],_=>ok true
 |e::es,ρ=>bd (bd (bg Φ e ρ) fA) λb=>if b then fV Φ es ρ else ok false
noncomputable def mY(Φ:aU):aB->aY->O D
 |[],_=>none
 |e::es,ρ=>bd (bd (bg Φ e ρ) fA) λc=>match es with
  |[]=>ok (.bl c)
  |_::_=>if c then mY Φ es ρ else ok (.bl false)
noncomputable def vZ(Φ:aU):aB->aY->O D
 |[],_=>none
 |e::es,ρ=>bd (bd (bg Φ e ρ) fA) λc=>match es with
  |[]=>ok (.bl c)
  |_::_=>if c then ok (.bl true)else vZ Φ es ρ
end
def qQ(Φ:aU)(e:CE)(ρ:aY):O Bool:=bd (bg Φ e ρ) fA
inductive Fo where|nx|rt(d:D)
noncomputable def cy{α β:Type}(n:Nat)(step:α->O (α ⊕ β))(a:α):O β:=match n with
 |0=>none
 |n+1=>bd (step a) λr=>match r with
  |.inl a'=>cy n step a'
  |.inr b=>ok b
open Classical in
noncomputable def eh{α β:Type}(step:α->O (α ⊕ β))(a:α):O β :=
 if h:∃n,cy n step a≠none then cy (Classical.choose h) step a else none
theorem gk{α β:Type}(step:α->O (α ⊕ β)):∀(n m:Nat) (a:α),n<=m->cy n step a≠none->cy m step a=cy n step a
 |0,_,_,_,h=>absurd rfl h
 |n+1,0,_,hl,_=>by left
 |n+1,m+1,a,hl,h=>by
  unfold cy at h ⊢
  match hs:step a with
  |none=>rw[hs]at h;exact absurd rfl h
  |some (.error c)=>rfl
  |some (.ok (.inr b))=>rfl
  |some (.ok (.inl a')) =>
   rw[hs]at h;exact gk step n m a' (by left) h
theorem jd{α β:Type}{step:α->O (α ⊕ β)}{a:α}{n:Nat}{r:Except Nat β}(h:cy n step a=some r):eh step a=some r:=by
 have hx:∃n,cy n step a≠none:=⟨n,by rw[h];simp⟩
 unfold eh;rw[dif_pos hx];have hc:=Classical.choose_spec hx;rcases Nat.le_total n (Classical.choose hx)with hl|hl
 ·rw[gk step _ _ a hl (by rw[h];simp),h]
 ·rw[<- gk step _ _ a hl hc,h]
theorem jm{α β:Type}{step:α->O (α ⊕ β)}{a:α}{r:Except Nat β}(h:eh step a=some r):∃n,cy n step a=some r:=by
 unfold eh at h;split at h
 ·exact⟨_,h⟩
 ·cases h
theorem hJ{α β:Type}{step:α->O (α ⊕ β)}{a a':α}(h:step a=ok (.inl a')):eh step a=eh step a':=by
 match hr:eh step a' with
 |some r =>
  obtain⟨n,hn⟩:=jm hr;refine jd (n:=n+1) ?_;unfold cy;rw[h];exact hn
 |none =>
  match hq:eh step a with
  |none=>rfl
  |some r =>
   obtain⟨n,hn⟩:=jm hq
   match n,hn with
   |n+1,hn =>
    unfold cy at hn;rw[h]at hn;rw[jd (n:=n) hn]at hr;cases hr
theorem d_{α β:Type}{step:α->O (α ⊕ β)}{a:α}{b:β}(h:step a=ok (.inr b)):eh step a=ok b :=
 jd (n:=1) (by unfold cy;rw[h];rfl)
mutual
noncomputable def fL:CE->aH
 |.v i=>[i]
 |.bin _ a b=>fL a++fL b
 |.neg a=>fL a
 |.not a=>fL a
 |.and es=>cT es
 |.or es=>cT es
 |.ite c a b=>fL c++(fL a++fL b)
 |.cmp _ a b=>fL a++fL b
 |.ue a _=>fL a
 |.call _ es=>cT es
 |.bf _ es=>cT es
 |.ix a b=>fL a++fL b
 |.tup es=>cT es
 |.lst es=>cT es
 |.bX _ es=>cT es
 |.comp _ _ caps _ es _ _=>caps++cT es
 |_=>[]
noncomputable def cT:aB->aH
 |[]=>[]
 |e::es=>fL e++cT es
end
def fu(is:aH)(ρ:aY):aY:=ρ.mapIdx λi d=>if i∈is then d.map (aZ bo)else d
def keep(e:CE)(d:D)(ρ:aY):D×aY:=if aS bW d then(aZ bo d,fu (fL e) ρ)else(d,ρ)
def gL(Φ:aU)(e:CE)(ρ:aY):O (D×aY):=match e with
 |.v i=>match ρ[i]? with
  |some (some d)=>if aS cD d then ok (d,ρ.set i none)else ok (d,ρ)
  |_=>none
 |_=>bd (bg Φ e ρ) λd=>ok (keep e d ρ)
def fF(Φ:aU)(it:CI)(ρ:aY):O (ab×aY):=match it with
 |.JY p es=>bd (cM Φ es ρ) λxs=>bd (Φ p xs) λd=>bd (nH d) λitems=>ok (items,if aP bW xs then fu (cT es) ρ else ρ)
 |.kW a=>bd (bg Φ a ρ) λx=>match x with
  |.int n=>if n<=eK /\ -eK<=n then ok ((List.range n.toNat).map λ(k:Nat)=>D.int (k:Int),ρ)else none
  |_=>none
 |.seq a=>bd (bg Φ a ρ) λx=>match x with
  |.tup ds=>ok (aG bo ds,if aS bW x then fu (fL a) ρ else ρ)
  |.lst f ds=>ok (aG bo ds,if aS bW x then fu (fL a) ρ else ρ)
  |_=>none
def lu(es:aB)(xs:ab)(ρ:aY):ab×aY:=if aP bW xs then(aG bo xs,fu (cT es) ρ)else(xs,ρ)
noncomputable def rK(Φ:aU)(p i:Nat)(r:ab×aY):O (Fo×aY):=match r.2[i]? with
 |some (some d)=>bd (Φ p (d::r.1)) λd'=>ok (.nx,r.2.set i (some d'))
 |_=>none
noncomputable def eM(bind:D->aY->O aY)(body:aY->O (Fo×aY)):ab->aY->O (Fo×aY)
 |[],ρ=>ok (.nx,ρ)
 |d::ds,ρ=>bd (bind d ρ) λρ1=>bd (body ρ1) λr=>match r with
  | (.nx,ρ2)=>eM bind body ds ρ2
  | (.rt d,ρ2)=>ok (.rt d,ρ2)
mutual
noncomputable def lN(Φ:aU):CS->aY->O (Fo×aY)
 |.asg t e,ρ=>bd (gL Φ e ρ) λr=>bd (cm t r.1 r.2) λρ'=>ok (.nx,ρ')
 |.par i j a b,ρ=>bd (bg Φ a ρ) λx=>bd (bg Φ b ρ) λy=>if aS anyF x=false/\aS anyF y=false/\i<ρ.length/\j<ρ.length then ok (.nx,(ρ.set i (some x)).set j (some y))else none
 |.ret e,ρ=>bd (gL Φ e ρ) λr=>ok (.rt r.1,r.2)
 |.rs c,_=>some (.error c)
 |.ex e,ρ=>bd (bg Φ e ρ) λ_=>ok (.nx,ρ)
 |.mut p i es,ρ=>bd (cM Φ es ρ) λxs=>rK Φ p i (lu es xs ρ)
 |.app i e,ρ=>bd (gL Φ e ρ) λr=>match rF r.2[i]? with
  |some ds=>if ds.length<eK then ok (.nx,r.2.set i (some (.lst .ow (ds++[r.1]))))else none
  |none=>none
 |.setI i k e,ρ=>bd (gL Φ e ρ) λr=>bd (bd (bg Φ k r.2) intD) λz=>match rF r.2[i]? with
  |some ds=>match oU ds.length z with
   |some j=>ok (.nx,r.2.set i (some (.lst .ow (ds.set j r.1))))
   |none=>none
  |none=>none
 |.aug i op e,ρ=>bd (bd (bg Φ e ρ) intD) λb=>match ρ[i]? with
  |some (some (.int a))=>ok (.nx,ρ.set i (some (.int (if op then a+b else a - b))))
  |_=>none
 |.ifs c a b,ρ=>bd (qQ Φ c ρ) λk=>if k then bC Φ a ρ else bC Φ b ρ
 |.CH c b,ρ=>eh (λρ=>bd (qQ Φ c ρ) λk=>if k then bd (bC Φ b ρ) λr=>match r with
   | (.nx,ρ')=>ok (.inl ρ')
   | (.rt d,ρ')=>ok (.inr (.rt d,ρ'))
  else ok (.inr (.nx,ρ))) ρ
 |.fr t it b,ρ=>bd (fF Φ it ρ) λr=>eM (λd ρ=>cm t d ρ) (λρ=>bC Φ b ρ) r.1 r.2
noncomputable def bC(Φ:aU):aj->aY->O (Fo×aY)
 |[],ρ=>ok (.nx,ρ)
 |s::ss,ρ=>bd (lN Φ s ρ) λr=>match r with
  | (.nx,ρ')=>bC Φ ss ρ'
  |r=>ok r
end
noncomputable def kU(Φ:aU)(n:Nat)(b:aj)(ds:ab):O D:=bd (bC Φ b (ds.map some++List.replicate (n - ds.length) none)) λr=>match r.1 with
 |.nx=>ok .bz
 |.rt d=>ok d
end DI
end
section
namespace DI
open PySem PySem.Spec PyProof.Rows L2
abbrev aX:=aH
abbrev St:=L2.St
abbrev j6:=Addr->ae->Prop
inductive Nd where|l(xs:ae)|d(cs:aq)(as:aO)(xs:ae)(ep:Nat)
abbrev gx:=aX->Addr->Nd->Fl->Prop
structure dw(T:j6)(as:aO)(cs:aq):Prop where
 len:as.length=cs.length
 tup:∀(j:Nat) (a:Addr) (c:aa),as[j]?=some a->cs[j]?=some c->T a (c.map V.int)
variable {T T':j6}
theorem dw.imp{as:aO}{cs:aq}(h:dw T as cs)(hT:∀p xs,T p xs->T' p xs):dw T' as cs:=⟨h.len,λj a c h1 h2=>hT _ _ (h.tup j a c h1 h2)⟩
mutual
inductive Rep(T:j6)(N:gx):aX->V->D->Prop where
 |bz {q:aX}:Rep T N q .bz .bz
 |bl {q:aX} (b:Bool):Rep T N q (.bl b) (.bl b)
 |int {q:aX} (i:Int):Rep T N q (.int i) (.int i)
 |tup {q:aX} {p:Addr} {xs:ae} {ds:ab} (h:T p xs) (r:az T N q 0 xs ds):Rep T N q (.ref p) (.tup ds)
 |lst {q:aX} {p:Addr} {xs:ae} {f:Fl} {ds:ab} (h:N q p (.l xs) f) (r:az T N q 0 xs ds):Rep T N q (.ref p) (.lst f ds)
 |cE {q:aX} {p:Addr} {cs:aq} {as:aO} {xs:ae} {ep:Nat} {f:Fl} {ds:ab} (h:N q p (.d cs as xs ep) f) (k:dw T as cs) (r:az T N q 0 xs ds):Rep T N q (.ref p) (.cE f cs ds)
inductive az(T:j6)(N:gx):aX->Nat->ae->ab->Prop where
 |nil {q:aX} {n:Nat}:az T N q n [] []
 |cons {q:aX} {n:Nat} {v:V} {d:D} {vs:ae} {ds:ab} (h:Rep T N (n::q) v d) (t:az T N q (n+1) vs ds):az T N q n (v::vs) (d::ds)
end
variable {N:gx}{ds ds' items:ab}
theorem Rep.D5{q:aX}{v:V}(h:Rep T N q v (.tup ds)):∃p xs,v=.ref p/\T p xs/\az T N q 0 xs ds:=by
 cases h with
 |tup a b=>exact⟨_,_,rfl,a,b⟩
theorem Rep.oV{q:aX}{v:V}{f:Fl}(h:Rep T N q v (.lst f ds)):∃p xs,v=.ref p/\N q p (.l xs) f/\az T N q 0 xs ds:=by
 cases h with
 |lst a b=>exact⟨_,_,rfl,a,b⟩
mutual
theorem n_:∀d:D,aS (λ_=>false) d=false
 |.bz=>rfl
 |.bl _=>rfl
 |.int _=>rfl
 |.tup ds=>fm ds
 |.lst _ ds=>fm ds
 |.cE _ _ ds=>fm ds
theorem fm:∀ds:ab,aP (λ_=>false) ds=false
 |[]=>rfl
 |d::ds=>by show(aS _ d||aP _ ds)=false;rw[n_ d,fm ds];rfl
end
theorem Dk{a b:Bool}(h:(a||b)=false):a=false/\b=false:=by cases a<;>cases b<;>first|exact⟨rfl,rfl⟩|cases h
variable {k' q':aX}{vs xs xs' ys:ae}
section
variable {T T':j6}{N N':gx}{g:Fl->Fl}{P:Fl->Bool}{C:aX->aX->Prop}{I:Nat->Nat->Prop}
mutual
theorem Rep.gen(hT:∀p xs,T p xs->T' p xs)(h0:I 0 0)(hI:∀n n',I n n'->I (n+1) (n'+1))(hC:∀k k' n n',C k k'->I n n'->C (n::k) (n'::k'))(hN:∀k k' p xs f,C k k'->P f=false->N k p xs f->N' k' p xs (g f)):
  ∀{k:aX} {v:V} {d:D},Rep T N k v d->∀{k':aX},C k k'->aS P d=false->Rep T' N' k' v (aZ g d)
 |_,_,_,.bz,_,_,_=>.bz
 |_,_,_,.bl b,_,_,_=>.bl b
 |_,_,_,.int i,_,_,_=>.int i
 |_,_,_,.tup h r,_,c,e=>.tup (hT _ _ h) (az.gen hT h0 hI hC hN r c h0 e)
 |_,_,_,.lst h r,_,c,e=>.lst (hN _ _ _ _ _ c (Dk e).1 h) (az.gen hT h0 hI hC hN r c h0 (Dk e).2)
 |_,_,_,.cE h k r,_,c,e=>.cE (hN _ _ _ _ _ c (Dk e).1 h) (k.imp hT) (az.gen hT h0 hI hC hN r c h0 (Dk e).2)
theorem az.gen(hT:∀p xs,T p xs->T' p xs)(h0:I 0 0)(hI:∀n n',I n n'->I (n+1) (n'+1))(hC:∀k k' n n',C k k'->I n n'->C (n::k) (n'::k'))(hN:∀k k' p xs f,C k k'->P f=false->N k p xs f->N' k' p xs (g f)):
  ∀{k:aX} {n:Nat} {vs:ae} {ds:ab},az T N k n vs ds->∀{k':aX} {n':Nat},C k k'->I n n'->aP P ds=false->az T' N' k' n' vs (aG g ds)
 |_,_,_,_,.nil,_,_,_,_,_=>.nil
 |_,_,_,_,.cons h t,_,_,c,i,e=>.cons (Rep.gen hT h0 hI hC hN h (hC _ _ _ _ c i) (Dk e).1) (az.gen hT h0 hI hC hN t c (hI _ _ i) (Dk e).2)
end
theorem Rep.map{q:aX}(hT:∀p xs,T p xs->T' p xs)(hN:∀c p xs f,N (c++q) p xs f->N' (c++q') p xs (g f)){k:aX}{v:V}{d:D}(h:Rep T N k v d)(c:aX)(e:k=c++q):Rep T' N' (c++q') v (aZ g d) :=
 Rep.gen (P:=λ_=>false) (C:=λk k'=>∃c,k=c++q/\k'=c++q') (I:=λn n'=>n=n') hT rfl (λ_ _ e=>by rw[e]) (λ_ _ n _ ⟨c,e1,e2⟩ e=>⟨n::c,by rw[e1];rfl,by rw[e2,<- e];rfl⟩) (λ_ _ p xs f ⟨c,e1,e2⟩ _ h=>by subst e1;subst e2;exact hN c p xs f h) h ⟨c,e,rfl⟩ (n_ d)
theorem az.map{q:aX}(hT:∀p xs,T p xs->T' p xs)(hN:∀c p xs f,N (c++q) p xs f->N' (c++q') p xs (g f)){k:aX}{n:Nat}(h:az T N k n vs ds)(c:aX)(e:k=c++q):az T' N' (c++q') n vs (aG g ds) :=
 az.gen (P:=λ_=>false) (C:=λk k'=>∃c,k=c++q/\k'=c++q') (I:=λn n'=>n=n') hT rfl (λ_ _ e=>by rw[e]) (λ_ _ n _ ⟨c,e1,e2⟩ e=>⟨n::c,by rw[e1];rfl,by rw[e2,<- e];rfl⟩) (λ_ _ p xs f ⟨c,e1,e2⟩ _ h=>by subst e1;subst e2;exact hN c p xs f h) h ⟨c,e,rfl⟩ rfl (fm ds)
theorem Rep.ie(hT:∀p xs,T p xs->T' p xs)(hN:∀k k' p xs f,N k p xs f->N' k' p xs (g f)){k:aX}{v:V}{d:D}(h:Rep T N k v d)(k':aX):Rep T' N' k' v (aZ g d) :=
 Rep.gen (P:=λ_=>false) (C:=λ_ _=>True) (I:=λ_ _=>True) hT trivial (λ_ _ e=>e) (λ_ _ _ _ e _=>e) (λk k' p xs f _ _ h=>hN k k' p xs f h) h trivial (n_ d)
theorem az.ie(hT:∀p xs,T p xs->T' p xs)(hN:∀k k' p xs f,N k p xs f->N' k' p xs (g f)){k:aX}{n:Nat}(h:az T N k n vs ds)(k':aX)(n':Nat):az T' N' k' n' vs (aG g ds) :=
 az.gen (P:=λ_=>false) (C:=λ_ _=>True) (I:=λ_ _=>True) hT trivial (λ_ _ e=>e) (λ_ _ _ _ e _=>e) (λk k' p xs f _ _ h=>hN k k' p xs f h) h trivial trivial (fm ds)
end
mutual
theorem dS:∀d:D,aZ id d=d
 |.bz=>rfl
 |.bl _=>rfl
 |.int _=>rfl
 |.tup ds=>by rw[aZ,dv ds]
 |.lst f ds=>by rw[aZ,dv ds];rfl
 |.cE f ks vs=>by rw[aZ,dv vs];rfl
theorem dv:∀ds:ab,aG id ds=ds
 |[]=>rfl
 |d::ds=>by rw[aG,dS d,dv ds]
end
section
variable {T T':j6}{N N':gx}
theorem Rep.imp{q:aX}(hT:∀p xs,T p xs->T' p xs)(hN:∀c p xs f,N (c++q) p xs f->N' (c++q') p xs f){v:V}{d:D}(h:Rep T N q v d):Rep T' N' q' v d:=by
 have:=Rep.map (g:=id) hT hN h [] rfl;rw[dS]at this;exact this
theorem az.imp{q:aX}{n:Nat}(hT:∀p xs,T p xs->T' p xs)(hN:∀c p xs f,N (c++q) p xs f->N' (c++q') p xs f)(h:az T N q n vs ds):az T' N' q' n vs ds:=by
 have:=az.map (g:=id) hT hN h [] rfl;rw[dv]at this;exact this
theorem az.length:∀{k:aX} {n:Nat} {vs:ae} {ds:ab},az T N k n vs ds->vs.length=ds.length
 |_,_,_,_,.nil=>rfl
 |_,_,_,_,.cons _ t=>by simp[az.length t]
theorem az.get:∀{k:aX} {n j:Nat} {vs:ae} {ds:ab} {d:D},az T N k n vs ds->ds[j]?=some d->∃v,vs[j]?=some v/\Rep T N ((n+j)::k) v d
 |_,_,_,_,_,_,.nil,e=>by simp at e
 |_,_,0,_,_,_,.cons h t,e=>by simp at e;subst e;exact⟨_,rfl,h⟩
 |_,n,j+1,_,_,_,.cons h t,e=>by
  obtain⟨v,h1,h2⟩:=az.get (j:=j) t (by simpa using e);refine⟨v,by simpa using h1,?_⟩;have:n+1+j=n+(j+1):=by left
  rw[<- this];exact h2
theorem az.yW:∀{k:aX} {n j:Nat} {vs:ae} {ds:ab} {v:V},az T N k n vs ds->vs[j]?=some v->∃d,ds[j]?=some d/\Rep T N ((n+j)::k) v d
 |_,_,_,_,_,_,.nil,e=>by simp at e
 |_,_,0,_,_,_,.cons h t,e=>by simp at e;subst e;exact⟨_,rfl,h⟩
 |_,n,j+1,_,_,_,.cons h t,e=>by
  obtain⟨v,h1,h2⟩:=az.yW (j:=j) t (by simpa using e);refine⟨v,by simpa using h1,?_⟩;have:n+1+j=n+(j+1):=by left
  rw[<- this];exact h2
theorem az.oQ{k:aX}(hN:∀k k' p xs f,N k p xs f->N k' p xs f):∀{n m l:Nat} {vs ws:ae} {ds es:ab},az T N k n vs ds->az T N k m ws es->az T N k l (vs++ws) (ds++es)
 |_,_,_,_,_,_,_,.nil,t=>by
  have:=az.ie (T':=T) (N':=N) (g:=id) (λ_ _ h=>h) hN t;rw[dv]at this;exact this _ _
 |_,_,_,_,_,_,_,.cons h t,u=>.cons (by
  have:=Rep.ie (T':=T) (N':=N) (g:=id) (λ_ _ h=>h) hN h;rw[dS]at this;exact this _) (az.oQ hN t u)
end
def KL(K:ao)(a:Addr)(xs:ae):Prop :=
 ∃(o:Obj) (its:aC) (n:Nat),K.lookup a=some o/\o.cls=.type "list" /\ o.dict=none/\o.data=.seq its n/\its.size<=sizeLine/\Vals xs its.toList
def DO(p:Addr)(cs:aq)(as:aO)(xs:ae)(ep:Nat)(h:Heap):Prop :=
 ∃(zs:List (aa×Addr×Value)) (o:Obj) (es:Array DictEntry),zs.map (·.1)=cs/\zs.map (·.2.1)=as/\Vals xs (zs.map (·.2.2))/\h.get? p=some o/\o.ExactDict/\o.data=.dict es ep /\
  es.toList=zs.map (λz=>⟨reduceHash (Builtin.Tuple.tupleHashOf (z.1.map hashInt)),.ref z.2.1,z.2.2⟩)/\cs.Nodup/\cs.length<=sizeLine/\(p==sysModules)=false
abbrev dm(H:Hp)(p:Addr)(n:Nd):Prop:=match n with
 |.l xs=>H p=some (.lst xs)
 |.d cs as xs ep=>H p=some (.ext (DO p cs as xs ep))
variable {H H' H1 H2:Hp}
theorem dm.ne{p:Addr}{n:Nd}(h:dm H p n):H p≠none:=by
 cases n with
 |l xs=>intro z;rw[show H p=some (.lst xs) from h]at z;cases z
 |d cs as xs ep=>intro z;rw[show H p=some (.ext (DO p cs as xs ep)) from h]at z;cases z
theorem dm.at{p:Addr}{n:Nd}(e:∀o,H p=some o->H' p=some o)(h:dm H p n):dm H' p n:=by
 cases n with
 |l xs=>exact e _ h
 |d cs as xs ep=>exact e _ h
theorem dm.same{p:Addr}{n:Nd}(e:aJ H H')(h:dm H p n):dm H' p n:=h.at (e p)
theorem dm.some{H:Hp}{p:Addr}{n:Nd}(h:dm H p n):∃o,H p=some o/\(∀xs,o≠.tup xs)/\(∀a u,o≠.fu a u):=by
 cases n with
 |l xs=>exact⟨_,h,λ_ z=>(nomatch z),λ_ _ z=>(nomatch z)⟩
 |d cs as xs ep=>exact⟨_,h,λ_ z=>(nomatch z),λ_ _ z=>(nomatch z)⟩
def nd(K:ao)(R A:ai)(τ:Addr->Option aX)(H:Hp):gx:=λq p n f=>match f with
 |.ow=>dm H p n/\τ p=some q
 |.fz=>dm H p n/\R p
 |.al=>dm H p n/\A p
 |.sc=>match n with
  |.l xs=>(∃o,H p=some (.fu o (.lst xs)))\/KL K p xs
  |.d _ _ _ _=>False
variable {A F G R R' R1:Addr->Prop}{K:ao}{τ τ' τt:Addr->Option aX}
theorem nd.xA{q:aX}{p:Addr}{n:Nd}(h:nd K R A τ H q p n .sc):∃xs,n=.l xs/\((∃o,H p=some (.fu o (.lst xs)))\/KL K p xs):=by
 cases n with
 |l xs=>exact⟨xs,rfl,h⟩
 |d _ _ _ _=>exact h.elim
theorem nd.sq{q:aX}{p:Addr}{f:Fl}(h:nd K R A τ H q p (.l xs) f):de K H p xs:=by
 cases f with
 |ow=>exact de.of h.1
 |fz=>exact de.of h.1
 |al=>exact de.of h.1
 |sc=>exact h.elim (λh=>.inl (.inr h)) .inr
theorem nd.lst{K:ao}{R A:ai}{τ:Addr->Option aX}{H:Hp}{q:aX}{p:Addr}{xs:ae}{f:Fl}(h:nd K R A τ H q p (.l xs) f)(hf:qb f=false):H p=some (.lst xs):=by
 cases f with
 |ow=>exact h.1
 |fz=>exact h.1
 |al=>exact h.1
 |sc=>cases hf
variable {ep:Nat}
theorem nd.dat{q:aX}{p:Addr}{cs:aq}{as:aO}{f:Fl}(h:nd K R A τ H q p (.d cs as xs ep) f):H p=some (.ext (DO p cs as xs ep)):=by
 cases f with
 |ow=>exact h.1
 |fz=>exact h.1
 |al=>exact h.1
 |sc=>exact h.elim
theorem Rd.same{a:Addr}{u:HO}(e:aJ H H')(h:Rd H a u):Rd H' a u:=h.elim (λh=>.inl (e _ _ h)) λ⟨o,h⟩=>.inr ⟨o,e _ _ h⟩
theorem aT.same{K:ao}{H H':Hp}{a:Addr}{xs:ae}(e:aJ H H')(h:aT K H a xs):aT K H' a xs:=h.elim (λh=>.inl (Rd.same e h)) .inr
theorem nd.same{K:ao}{R A:ai}{τ:Addr->Option aX}{H H':Hp}{q:aX}{p:Addr}{n:Nd}{f:Fl}(e:aJ H H')(h:nd K R A τ H q p n f):nd K R A τ H' q p n f:=by
 cases f with
 |ow=>exact⟨h.1.same e,h.2⟩
 |fz=>exact⟨h.1.same e,h.2⟩
 |al=>exact⟨h.1.same e,h.2⟩
 |sc=>cases n with
  |l xs=>exact h.elim (λ⟨o,h⟩=>.inl ⟨o,e _ _ h⟩) .inr
  |d _ _ _ _=>exact h.elim
theorem Rd.there{a:Addr}{u:HO}(h:Rd H a u):H a≠none:=by
 rcases h with h|⟨o,h⟩<;>(rw[h];simp)
theorem aJ.ne(e:aJ H H'){a:Addr}(h:H a≠none):H' a≠none:=by
 cases q:H a with
 |none=>exact absurd q h
 |some o=>rw[e a o q];simp
structure SI(X:Cx)(F R:ai)(τ:Addr->Option aX)(ρ:aY)(σ:St)(H:Hp):Prop where
 len:ρ.length=σ.length
 rep:∀(i:Nat) (d:D),ρ[i]?=some (some d)->∃v,σ[i]?=some (some v)/\Rep (aT X.K H) (nd X.K R (λ_=>False) τ H) [i] v d
 rt:∀p,R p->τ p=none
 rh:∀p,R p->H p≠none
 rf:∀p,R p->F p\/X.H₀ p=none
 th:∀p q,τ p=some q->H p≠none
 t0:∀p q,τ p=some q->X.H₀ p=none
 same:aJ X.H₀ H
variable {X:Cx}{ρ:aY}{σ:L2.St}
theorem SI.go(S:SI X F R τ ρ σ H)(e:aJ H H'):SI X F R τ ρ σ H' :=
 ⟨S.len,λi d h=>let ⟨v,h1,h2⟩:=S.rep i d h;⟨v,h1,h2.imp (λ_ _ h=>aT.same e h) λ_ _ _ _ h=>nd.same e h⟩,S.rt,λp h=>aJ.ne e (S.rh p h),S.rf,λp q h=>aJ.ne e (S.th p q h),S.t0,S.same.trans e⟩
def gZ(G:ai)(τ:Addr->Option aX)(fv:aH)(p:Addr):Prop:=G p/\∀c i,τ p=some (c++[i])->i∈fv
variable {caps fv fv':aH}
theorem gZ.mono{p:Addr}(h:gZ G τ fv p)(hs:∀i∈fv,i∈fv'):gZ G τ fv' p:=⟨h.1,λc i e=>hs i (h.2 c i e)⟩
def gP(X:Cx)(F:ai)(p:Addr):Prop:=F p\/X.H₀ p=none
def bN(K:ao)(G R:ai)(τ:Addr->Option aX)(fv:aH)(H H':Hp)(v:V)(d:D):Prop :=
 ∃τt:Addr->Option aX,(∀p q,τt p=some q->H p=none)/\Rep (aT K H') (nd K R (gZ G τ fv) τt H') [] v d
def bY(K:ao)(G R:ai)(τ:Addr->Option aX)(fv:aH)(H H':Hp)(vs:ae)(ds:ab):Prop :=
 ∃τt:Addr->Option aX,(∀p q,τt p=some q->H p=none)/\az (aT K H') (nd K R (gZ G τ fv) τt H') [] 0 vs ds
section
variable {K:ao}{G R:ai}{τ:Addr->Option aX}{fv fv':aH}{H H1 H2:Hp}{v:V}{d:D}{vs:ae}{ds:ab}
theorem bN.go(h:bN K G R τ fv H H1 v d)(e:aJ H1 H2):bN K G R τ fv H H2 v d :=
 let ⟨τt,h1,h2⟩:=h;⟨τt,h1,h2.imp (λ_ _ h=>aT.same e h) λ_ _ _ _ h=>nd.same e h⟩
theorem nd.mono{A':Addr->Prop}{τ:Addr->Option aX}{q:aX}{p:Addr}{xs:Nd}{f:Fl}(h:nd K R A τ H q p xs f)(hR:R p->R' p)(hA:A p->A' p)(ht:τ p=some q->τ' p=some q'):nd K R' A' τ' H q' p xs f:=by
 cases f with
 |ow=>exact⟨h.1,ht h.2⟩
 |fz=>exact⟨h.1,hR h.2⟩
 |al=>exact⟨h.1,hA h.2⟩
 |sc=>exact h
theorem bN.mono(h:bN K G R τ fv H H1 v d)(hs:∀i∈fv,i∈fv'):bN K G R τ fv' H H1 v d :=
 let ⟨τt,h1,h2⟩:=h;⟨τt,h1,h2.imp (λ_ _ h=>h) λ_ _ _ _ h=>h.mono id (λh=>h.mono hs) id⟩
theorem bY.mono(h:bY K G R τ fv H H1 vs ds)(hs:∀i∈fv,i∈fv'):bY K G R τ fv' H H1 vs ds :=
 let ⟨τt,h1,h2⟩:=h;⟨τt,h1,h2.imp (λ_ _ h=>h) λ_ _ _ _ h=>h.mono id (λh=>h.mono hs) id⟩
theorem bN.old{H0:Hp}(h:bN K G R τ fv H H1 v d)(e:aJ H0 H):bN K G R τ fv H0 H1 v d :=
 let ⟨τt,h1,h2⟩:=h;⟨τt,λp q z=>e.free (h1 p q z),h2⟩
theorem bN.int{i:Int}:bN K G R τ fv H H1 (.int i) (.int i):=⟨λ_=>none,λ_ _ h=>by simp at h,.int i⟩
theorem bN.bl{b:Bool}:bN K G R τ fv H H1 (.bl b) (.bl b):=⟨λ_=>none,λ_ _ h=>by simp at h,.bl b⟩
theorem bN.bz:bN K G R τ fv H H1 .bz .bz:=⟨λ_=>none,λ_ _ h=>by simp at h,.bz⟩
theorem bN.isInt{i:Int}(h:bN K G R τ fv H H1 v (.int i)):v=.int i:=by obtain⟨_,_,h⟩:=h;cases h;rfl
theorem bN.vI{i:Bool}(h:bN K G R τ fv H H1 v (.bl i)):v=.bl i:=by obtain⟨_,_,h⟩:=h;cases h;rfl
noncomputable def nG:aX->aX
 |[]=>[]
 |[n]=>[n+1]
 |a::b::r=>a::nG (b::r)
theorem pE(c:aX)(n:Nat):nG (c++[n])=c++[n+1]:=by
 induction c with
 |nil=>rfl
 |cons a c ih =>
  cases c with
  |nil=>rfl
  |cons b c=>show a::nG (b::c++[n])=_;rw[ih];rfl
theorem az.shift{T:j6}{N N':gx}(hN:∀c n p xs f,N (c++[n]) p xs f->N' (c++[n+1]) p xs f):∀{n:Nat} {vs:ae} {ds:ab},az T N [] n vs ds->az T N' [] (n+1) vs ds
 |_,_,_,.nil=>.nil
 |n,_,_,.cons h t=>.cons (h.imp (q:=[n]) (q':=[n+1]) (λ_ _ h=>h) λc p xs f h=>hN c n p xs f h) (az.shift hN t)
theorem bY.nil:bY K G R τ fv H H1 [] []:=⟨λ_=>none,λ_ _ h=>by simp at h,.nil⟩
open Classical in
theorem bY.cons(e1:aJ H H1)(e2:aJ H1 H2)(h:bN K G R τ fv H H1 v d)(t:bY K G R τ fv H1 H2 vs ds):bY K G R τ fv H H2 (v::vs) (d::ds):=by
 obtain⟨τ1,f1,h1⟩:=h;obtain⟨τ2,f2,h2⟩:=t;refine⟨λp=>if H1 p=none then(τ2 p).map nG else(τ1 p).map (· ++ [0]),λp q hq=>?_,.cons (h1.imp (q':=[0]) (λ_ _ h=>aT.same e2 h) λc p xs f h=>?_) (az.shift (λc n p xs f h=>?_) h2)⟩
 ·by_cases hp:H1 p=none
  ·exact e1.free hp
  ·simp only[hp,if_false]at hq;cases q1:τ1 p with
   |none=>rw[q1]at hq;simp at hq
   |some k=>exact f1 p k q1
 ·have h':nd K R (gZ G τ fv) τ1 H2 (c++[]) p xs f:=nd.same e2 h;cases f with
  |ow =>
   have hp:H1 p≠none:=h.1.ne;refine⟨h'.1,?_⟩;simp only[hp,if_false];rw[h.2];simp
  |fz=>exact h'
  |al=>exact h'
  |sc=>exact h'
 ·cases f with
  |ow =>
   have hp:H1 p=none:=f2 p _ h.2;refine⟨h.1,?_⟩;simp only[hp,if_true];rw[h.2];simp[pE]
  |fz=>exact h
  |al=>exact h
  |sc=>exact h
end
def tD(X:Cx)(F:ai)(Φ:aU)(c:CE):TE:=λσ H Q=>∃R τ ρ d,SI X F R τ ρ σ H/\bg Φ c ρ=ok d/\∀v H',aJ H H'->bN X.K (gP X F) R τ (fL c) H H' v d->Q v H'
def mJ(X:Cx)(F:ai)(Φ:aU)(cs:aB):TA:=λσ H Q=>∃R τ ρ ds,SI X F R τ ρ σ H/\cM Φ cs ρ=ok ds/\∀vs H',aJ H H'->bY X.K (gP X F) R τ (cT cs) H H' vs ds->Q vs H'
def ff(X:Cx)(F:ai)(Φ:aU)(c:CE):TT:=λσ H Q=>∃R τ ρ b,SI X F R τ ρ σ H/\qQ Φ c ρ=ok b/\∀H',aJ H H'->Q b H'
theorem PE.imp{e:Expr}{t t':TE}(h:PE X e t)(hi:∀σ H Q,t' σ H Q->t σ H Q):PE X e t':=λpins s σ H Q I hw=>h pins s σ H Q I (hi σ H Q hw)
theorem PT.imp{e:Expr}{t t':TT}(h:PT X e t)(hi:∀σ H Q,t' σ H Q->t σ H Q):PT X e t':=λpins s σ H Q I hw=>h pins s σ H Q I (hi σ H Q hw)
theorem PW.imp{e:Expr}{t t':TT}(h:PW X e t)(hi:∀σ H Q,t' σ H Q->t σ H Q):PW X e t':=λwh pins s σ H Q I hw=>h wh pins s σ H Q I (hi σ H Q hw)
theorem PA.imp{es:au}{t t':TA}(h:PA X es t)(hi:∀σ H Q,t' σ H Q->t σ H Q):PA X es t':=λpos pins s σ H Q I hw=>h pos pins s σ H Q I (hi σ H Q hw)
variable {st:Stmt}
theorem PS.imp{t t':TS}(h:PS X st t)(hi:∀D σ H,t' D σ H->t D σ H):PS X st t':=λpins s σ H D I hw=>h pins s σ H D I (hi D σ H hw)
theorem jc.imp{st:aL}{t t':TS}(h:jc X st t)(hi:∀D σ H,t' D σ H->t D σ H):jc X st t':=λpins s σ H D I hw=>h pins s σ H D I (hi D σ H hw)
theorem lQ:∀(as bs:ab),dC as bs=true ↔ as.length=bs.length/\∀(j:Nat) (a b:D),as[j]?=some a->bs[j]?=some b->ju a b=true
 |[],[]=>by simp[dC]
 |[],b::bs=>by simp[dC]
 |a::as,[]=>by simp[dC]
 |a::as,b::bs=>by
  rw[dC,Bool.and_eq_true,lQ as bs];constructor
  ·rintro ⟨h1,h2,h3⟩;refine⟨by simp[h2],λj x y hx hy=>?_⟩;cases j with
   |zero=>simp at hx hy;subst hx hy;exact h1
   |succ j=>exact h3 j x y (by simpa using hx) (by simpa using hy)
  ·rintro ⟨h2,h3⟩;exact⟨h3 0 a b rfl rfl,by simpa using h2,λj x y hx hy=>h3 (j+1) x y (by simpa using hx) (by simpa using hy)⟩
def L8(as bs:ab)(j:Nat):Bool:=match as[j]?,bs[j]? with
 |some a,some b=>ju a b
 |_,_=>false
theorem iq(as bs:ab):((List.range (min as.length bs.length)).all (L8 as bs)&&as.length==bs.length)=dC as bs:=by
 rw[Bool.eq_iff_iff,lQ,Bool.and_eq_true,List.all_eq_true,beq_iff_eq];constructor
 ·rintro ⟨h1,h2⟩;refine⟨h2,λj a b ha hb=>?_⟩;have hj:j<as.length:=by
   by_cases h:j<as.length
   ·exact h
   ·rw[List.getElem?_eq_none (by left)]at ha;cases ha
  have:=h1 j (by rw[List.mem_range];left);unfold L8 at this;rw[ha,hb]at this;exact this
 ·rintro ⟨h2,h1⟩;refine⟨λj hj=>?_,h2⟩;rw[List.mem_range]at hj;unfold L8;have ha:as[j]?=some as[j]:=W3 (by left);have hb:bs[j]?=some bs[j]:=W3 (by left);rw[ha,hb];exact h1 j _ _ ha hb
section
variable {X:Cx}{pins:ak}{σ:St}{H:Hp}{s:Shared}{N N':gx}
theorem dQ{n:Nat}(h:eX n (.tup ds)=true):∃m,n=m+1/\∀d∈ds,eX m d=true:=by
 cases n with
 |zero=>cases h
 |succ m=>exact⟨m,rfl,List.all_eq_true.mp h⟩
theorem dR{n:Nat}{f:Fl}(h:eX n (.lst f ds)=true):∃m,n=m+1/\∀d∈ds,eX m d=true:=by
 cases n with
 |zero=>cases h
 |succ m=>exact⟨m,rfl,List.all_eq_true.mp h⟩
theorem t7(I:Inv X pins σ H s){p:Addr}(h:de X.K H p xs)(h':aT X.K H p ys):False:=by
 obtain⟨its,_,pl,_⟩:=I.list h;obtain⟨its',_,pt,_⟩:=I.tuple h';exact SeqAt.ne_of_list_tuple pl.isList pt rfl
theorem xr(I:Inv X pins σ H s)(hN:∀q p xs f,N q p (.l xs) f->de X.K H p xs)(zV:∀q p xs f,N' q p (.l xs) f->de X.K H p xs):
  ∀(n:Nat) {k k':aX} {v:V} {d d':D},Rep (aT X.K H) N k v d->Rep (aT X.K H) N' k' v d'->eX n d=true->eX n d'=true->ju d d'=true:=by
 intro n;induction n with
 |zero =>
  intro k k' v d d' h h' ho eZ;cases h with
  |bz=>cases h';rfl
  |bl b=>cases h';exact Yf b
  |int i=>cases h';exact Yf i
  |tup _ _=>obtain⟨m,hm,_⟩:=dQ ho;left
  |lst _ _=>obtain⟨m,hm,_⟩:=dR ho;left
  |cE _ _=>cases ho
 |succ n ih =>
  have sub:∀{q q':aX} {xs:ae} {ds ds':ab},az (aT X.K H) N q 0 xs ds->az (aT X.K H) N' q' 0 xs ds'->(∀d∈ds,eX n d=true)->(∀d∈ds',eX n d=true)->dC ds ds'=true:=by
   intro q q' xs ds ds' r r' ho eZ;rw[lQ];refine⟨by rw[<- r.length,<- r'.length],λj a b ha hb=>?_⟩;obtain⟨v1,h1,r1⟩:=r.get ha;obtain⟨v2,h2,r2⟩:=r'.get hb;rw[h1]at h2;cases h2;exact ih r1 r2 (ho a (Xd ha)) (eZ b (Xd hb))
  intro k k' v d d' h h' ho eZ;cases h with
  |bz=>cases h';rfl
  |bl b=>cases h';exact Yf b
  |int i=>cases h';exact Yf i
  |tup h r =>
   obtain⟨m,hm,ho⟩:=dQ ho;obtain rfl:n=m:=by left
   cases h' with
   |tup h' r' =>
    obtain⟨m,hm,eZ⟩:=dQ eZ;obtain rfl:n=m:=by left
    obtain rfl:=I.mG h h';exact sub r r' ho eZ
   |lst h' r'=>exact(t7 I (zV _ _ _ _ h') h).elim
   |cE _ _=>cases eZ
  |lst h r =>
   obtain⟨m,hm,ho⟩:=dR ho;obtain rfl:n=m:=by left
   cases h' with
   |tup h' r'=>exact(t7 I (hN _ _ _ _ h) h').elim
   |lst h' r' =>
    obtain⟨m,hm,eZ⟩:=dR eZ;obtain rfl:n=m:=by left
    obtain rfl:=I.lb (hN _ _ _ _ h) (zV _ _ _ _ h');exact sub r r' ho eZ
   |cE _ _=>cases eZ
  |cE _ _=>cases ho
structure Alike(A:ay)(s:Shared)(u u':Value)(b:Bool):Prop where
 eq:SeqAt.EqAt A s u u' b
 rc:SeqAt.RcAt A s u u' b
 ne:SeqAt.RcNeAt A s u u' (!b)
theorem alike(I:Inv X pins σ H s)(hN:∀q p xs f,N q p (.l xs) f->de X.K H p xs)(zV:∀q p xs f,N' q p (.l xs) f->de X.K H p xs):
  ∀(n:Nat) (A:ay) {k k':aX} {v v':V} {u u':Value} {d d':D},Rep (aT X.K H) N k v d->Rep (aT X.K H) N' k' v' d'->eX n d=true->eX n d'=true->RelV v u->RelV v' u'->A.units+n<cLine ->
   Alike A s u u' (ju d d'):=by
 intro n;induction n with
 |zero =>
  intro A k k' v v' u u' d d' h h' ho eZ r r' hu;cases h with
  |tup _ _=>obtain⟨m,hm,_⟩:=dQ ho;left
  |lst _ _=>obtain⟨m,hm,_⟩:=dR ho;left
  |cE _ _=>cases ho
  |bz =>
   cases r;cases h' with
   |tup _ _=>obtain⟨m,hm,_⟩:=dQ eZ;left
   |lst _ _=>obtain⟨m,hm,_⟩:=dR eZ;left
   |cE _ _=>cases eZ
   |bz=>cases r';exact⟨XS _,SeqAt.RcAt.none_none,SeqAt.RcNeAt.none_none⟩
   |bl b=>cases r';exact⟨Ym b,SeqAt.RcAt.none_bool b,SeqAt.RcNeAt.none_bool b⟩
   |int b=>obtain⟨t,rfl⟩:=r';exact⟨Ys b t,SeqAt.RcAt.none_int b t,SeqAt.RcNeAt.none_int b t⟩
  |bl a =>
   cases r;cases h' with
   |tup _ _=>obtain⟨m,hm,_⟩:=dQ eZ;left
   |lst _ _=>obtain⟨m,hm,_⟩:=dR eZ;left
   |cE _ _=>cases eZ
   |bz=>cases r';exact⟨Yn a,SeqAt.RcAt.bool_none a,SeqAt.RcNeAt.bool_none a⟩
   |bl b=>cases r';exact⟨Yo a b,SeqAt.RcAt.bool_bool a b,SeqAt.RcNeAt.bool_bool a b⟩
   |int b=>obtain⟨t,rfl⟩:=r';exact⟨Yt a b t,SeqAt.RcAt.bool_int a b t,SeqAt.RcNeAt.bool_int a b t⟩
  |int a =>
   obtain⟨t',rfl⟩:=r;cases h' with
   |tup _ _=>obtain⟨m,hm,_⟩:=dQ eZ;left
   |lst _ _=>obtain⟨m,hm,_⟩:=dR eZ;left
   |cE _ _=>cases eZ
   |bz=>cases r';exact⟨Yu a t',SeqAt.RcAt.int_none a t',SeqAt.RcNeAt.int_none a t'⟩
   |bl b=>cases r';exact⟨Yv a t' b,SeqAt.RcAt.int_bool a t' b,SeqAt.RcNeAt.int_bool a t' b⟩
   |int b=>obtain⟨t,rfl⟩:=r';exact⟨XZ a t' b t,SeqAt.RcAt.int_int a t' b t,SeqAt.RcNeAt.int_int a t' b t⟩
 |succ n ih =>
  intro A k k' v v' u u' d d' h h' ho eZ r r' hu;have cZ:A.units<cLine:=by left
  have UQ:A.in1.units+n<cLine:=by show A.units+1+n<cLine;left
  have sub:∀{q q':aX} {xs xs':ae} {ds ds':ab} {its its':ag},az (aT X.K H) N q 0 xs ds->az (aT X.K H) N' q' 0 xs' ds'->(∀d∈ds,eX n d=true)->(∀d∈ds',eX n d=true)->Vals xs its->Vals xs' its' ->
    ∀(j:Nat) (h1:j<its.toArray.size) (h2:j<its'.toArray.size),SeqAt.EqAt A.in1 s its.toArray[j] its'.toArray[j] (L8 ds ds' j):=by
   intro q q' xs xs' ds ds' its its' rs ia hd GG rv C_ j h1 h2;have l1:ds.length=its.length:=by rw[<- rs.length,rv.length]
   have l2:ds'.length=its'.length:=by rw[<- ia.length,C_.length]
   simp only[List.size_toArray]at h1 h2;have ea:ds[j]?=some ds[j]:=W3 (by left);have eb:ds'[j]?=some ds'[j]:=W3 (by left);obtain⟨w1,g1,p1⟩:=rs.get ea;obtain⟨w2,g2,p2⟩:=ia.get eb;obtain⟨u1,k1,z1⟩:=rv.get g1;obtain⟨u2,k2,z2⟩:=C_.get g2;have:=(ih A.in1 p1 p2 (hd _ (Xz _)) (GG _ (Xz _)) z1 z2 UQ).eq;unfold L8;rw[ea,eb];rw[List.getElem?_eq_getElem h1]at k1;rw[List.getElem?_eq_getElem h2]at k2;cases k1;cases k2;simpa using this
  cases h with
  |bz =>
   cases r;cases h' with
   |cE _ _=>cases eZ
   |bz=>cases r';exact⟨XS _,SeqAt.RcAt.none_none,SeqAt.RcNeAt.none_none⟩
   |bl b=>cases r';exact⟨Ym b,SeqAt.RcAt.none_bool b,SeqAt.RcNeAt.none_bool b⟩
   |int b=>obtain⟨t,rfl⟩:=r';exact⟨Ys b t,SeqAt.RcAt.none_int b t,SeqAt.RcNeAt.none_int b t⟩
   |tup h' rr=>cases r';obtain⟨its,_,pt,_⟩:=I.tuple h';exact⟨SeqAt.EqAt.none_tuple pt cZ,SeqAt.RcAt.none_tuple pt cZ,SeqAt.RcNeAt.none_tuple pt cZ⟩
   |lst h' rr=>cases r';obtain⟨its,_,pt,_⟩:=I.list (zV _ _ _ _ h');exact⟨SeqAt.EqAt.none_list pt.isList cZ,SeqAt.RcAt.none_list pt.isList cZ,SeqAt.RcNeAt.none_list pt.isList cZ⟩
  |bl a =>
   cases r;cases h' with
   |cE _ _=>cases eZ
   |bz=>cases r';exact⟨Yn a,SeqAt.RcAt.bool_none a,SeqAt.RcNeAt.bool_none a⟩
   |bl b=>cases r';exact⟨Yo a b,SeqAt.RcAt.bool_bool a b,SeqAt.RcNeAt.bool_bool a b⟩
   |int b=>obtain⟨t,rfl⟩:=r';exact⟨Yt a b t,SeqAt.RcAt.bool_int a b t,SeqAt.RcNeAt.bool_int a b t⟩
   |tup h' rr=>cases r';obtain⟨its,_,pt,_⟩:=I.tuple h';exact⟨SeqAt.EqAt.bool_tuple a pt cZ,SeqAt.RcAt.bool_tuple a pt cZ,SeqAt.RcNeAt.bool_tuple a pt cZ⟩
   |lst h' rr=>cases r';obtain⟨its,_,pt,_⟩:=I.list (zV _ _ _ _ h');exact⟨SeqAt.EqAt.bool_list a pt.isList cZ,SeqAt.RcAt.bool_list a pt.isList cZ,SeqAt.RcNeAt.bool_list a pt.isList cZ⟩
  |int a =>
   obtain⟨t',rfl⟩:=r;cases h' with
   |cE _ _=>cases eZ
   |bz=>cases r';exact⟨Yu a t',SeqAt.RcAt.int_none a t',SeqAt.RcNeAt.int_none a t'⟩
   |bl b=>cases r';exact⟨Yv a t' b,SeqAt.RcAt.int_bool a t' b,SeqAt.RcNeAt.int_bool a t' b⟩
   |int b=>obtain⟨t,rfl⟩:=r';exact⟨XZ a t' b t,SeqAt.RcAt.int_int a t' b t,SeqAt.RcNeAt.int_int a t' b t⟩
   |tup h' rr=>cases r';obtain⟨its,_,pt,_⟩:=I.tuple h';exact⟨SeqAt.EqAt.int_tuple a t' pt cZ,SeqAt.RcAt.int_tuple a t' pt cZ,SeqAt.RcNeAt.int_tuple a t' pt cZ⟩
   |lst h' rr=>cases r';obtain⟨its,_,pt,_⟩:=I.list (zV _ _ _ _ h');exact⟨SeqAt.EqAt.int_list a t' pt.isList cZ,SeqAt.RcAt.int_list a t' pt.isList cZ,SeqAt.RcNeAt.int_list a t' pt.isList cZ⟩
  | @tup _ p xs ds h rs =>
   cases r;obtain⟨its,rv,pt,_⟩:=I.tuple h;have pt:s.heap.IsTuple p its.toArray:=pt;cases h' with
   |cE _ _=>cases eZ
   |bz=>cases r';exact⟨SeqAt.EqAt.tuple_none pt cZ,SeqAt.RcAt.tuple_none pt cZ,SeqAt.RcNeAt.tuple_none pt cZ⟩
   |bl b=>cases r';exact⟨SeqAt.EqAt.tuple_bool b pt cZ,SeqAt.RcAt.tuple_bool b pt cZ,SeqAt.RcNeAt.tuple_bool b pt cZ⟩
   |int b=>obtain⟨t,rfl⟩:=r';exact⟨SeqAt.EqAt.tuple_int b t pt cZ,SeqAt.RcAt.tuple_int b t pt cZ,SeqAt.RcNeAt.tuple_int b t pt cZ⟩
   |lst h' rr=>cases r';obtain⟨its',_,pl,_⟩:=I.list (zV _ _ _ _ h');exact⟨SeqAt.EqAt.tuple_list pt pl.isList cZ,SeqAt.RcAt.tuple_list pt pl.isList cZ,SeqAt.RcNeAt.tuple_list pt pl.isList cZ⟩
   | @tup _ p' xs' ds' h' ia =>
    cases r';obtain⟨m,hm,BE⟩:=dQ ho;obtain rfl:n=m:=by left
    obtain⟨m,hm,qP⟩:=dQ eZ;obtain rfl:n=m:=by left
    obtain⟨its',C_,MY,_⟩:=I.tuple h';have MY:s.heap.IsTuple p' its'.toArray:=MY;have key:=sub rs ia BE qP rv C_;have l1:ds.length=its.toArray.size:=by rw[List.size_toArray,<- rs.length,rv.length]
    have l2:ds'.length=its'.toArray.size:=by rw[List.size_toArray,<- ia.length,C_.length]
    have rc:SeqAt.RcAt A s (.ref p) (.ref p') (ju (.tup ds) (.tup ds')):=by
     have:=SeqAt.RcAt.tuples pt MY cZ key;rw[<- l1,<- l2,iq]at this;exact this
    refine⟨?_,rc,?_⟩
    ·by_cases hp:p=p'
     ·subst hp;rw[xr I hN zV (n+1) (Rep.tup h rs) (Rep.tup h' ia) ho eZ];exact XS _
     ·exact SeqAt.EqAt.of_refs hp rc
    ·have:=SeqAt.RcNeAt.tuples pt MY cZ key;rw[<- l1,<- l2,iq]at this;exact this
  | @lst _ p xs f ds h rs =>
   cases r;obtain⟨its,rv,pl,_⟩:=I.list (hN _ _ _ _ h);have pl:=pl.isList;cases h' with
   |cE _ _=>cases eZ
   |bz=>cases r';exact⟨SeqAt.EqAt.list_none pl cZ,SeqAt.RcAt.list_none pl cZ,SeqAt.RcNeAt.list_none pl cZ⟩
   |bl b=>cases r';exact⟨SeqAt.EqAt.list_bool b pl cZ,SeqAt.RcAt.list_bool b pl cZ,SeqAt.RcNeAt.list_bool b pl cZ⟩
   |int b=>obtain⟨t,rfl⟩:=r';exact⟨SeqAt.EqAt.list_int b t pl cZ,SeqAt.RcAt.list_int b t pl cZ,SeqAt.RcNeAt.list_int b t pl cZ⟩
   |tup h' rr=>cases r';obtain⟨its',_,pt,_⟩:=I.tuple h';exact⟨SeqAt.EqAt.list_tuple pl pt cZ,SeqAt.RcAt.list_tuple pl pt cZ,SeqAt.RcNeAt.list_tuple pl pt cZ⟩
   | @lst _ p' xs' f' ds' h' ia =>
    cases r';obtain⟨m,hm,BE⟩:=dR ho;obtain rfl:n=m:=by left
    obtain⟨m,hm,qP⟩:=dR eZ;obtain rfl:n=m:=by left
    obtain⟨its',C_,Dh,_⟩:=I.list (zV _ _ _ _ h');have Dh:=Dh.isList;have key:=sub rs ia BE qP rv C_;have l1:ds.length=its.toArray.size:=by rw[List.size_toArray,<- rs.length,rv.length]
    have l2:ds'.length=its'.toArray.size:=by rw[List.size_toArray,<- ia.length,C_.length]
    have two:SeqAt.RcAt A s (.ref p) (.ref p') (ju (.lst f ds) (.lst f' ds'))/\SeqAt.RcNeAt A s (.ref p) (.ref p') (!ju (.lst f ds) (.lst f' ds')):=by
     show SeqAt.RcAt A s (.ref p) (.ref p') (dC ds ds')/\SeqAt.RcNeAt A s (.ref p) (.ref p') (!dC ds ds');rw[<- iq];by_cases hl:ds.length=ds'.length
     ·have e1:(ds.length==ds'.length)=true:=by simp[hl]
      rw[e1,Bool.and_true,<- hl,Nat.min_self];have hz:its.toArray.size=its'.toArray.size:=by rw[<- l1,<- l2,hl]
      refine⟨?_,?_⟩
      ·have:=SeqAt.RcAt.lists pl Dh hz cZ key;rw[<- l1]at this;exact this
      ·have:=SeqAt.RcNeAt.lists pl Dh hz cZ key;rw[<- l1]at this;exact this
     ·have e1:(ds.length==ds'.length)=false:=by simp[hl]
      rw[e1,Bool.and_false];have hz:(its.toArray.size != its'.toArray.size)=true:=by rw[<- l1,<- l2];simp[hl]
      exact⟨SeqAt.RcAt.lists_lengths pl Dh hz cZ,SeqAt.RcNeAt.lists_lengths pl Dh hz cZ⟩
    refine⟨?_,two.1,two.2⟩;by_cases hp:p=p'
    ·subst hp;rw[xr I hN zV (n+1) (Rep.lst h rs) (Rep.lst h' ia) ho eZ];exact XS _
    ·exact SeqAt.EqAt.of_refs hp two.1
  |cE _ _=>cases ho
end
structure Px where
 pe:Nat->Scope->av->Expr->Option (au)
 pi:Nat->Scope->av->Expr->Option (au)
 pm:Nat->Scope->av->Stmt->Option (Expr×au)
structure Sx where
 sc:Scope
 N:av
 fn:Nat->Option Str
 bl:av
 cs:List (Str×GK)
 px:Px
noncomputable def Kc:CG->Operator
 |.add=>.Add|.sub=>.Sub|.mul=>.Mult|.fdiv=>.FloorDiv|.mod=>.Mod|.pow=>.Pow
noncomputable def O3:wG->CmpOp
 |.eq=>.Eq|.ne=>.NotEq|.lt=>.Lt|.le=>.LtE|.gt=>.Gt|.ge=>.GtE|.Bw=>.Is|.x6=>.IsNot|.wx=>.In|.FP=>.NotIn
noncomputable def tyName:Ty->String
 |.int=>"int" |.bool=>"bool" |.list=>"list" |.tuple=>"tuple"
noncomputable def oI:Bf->String
 |.len=>"len" |.abs=>"abs" |.min2=>"min" |.list1=>"list" |.tuple1=>"tuple" |.md=>"sum" |.all1=>"all" |.dr=>"sorted"
noncomputable def D6(sc:Scope)(x:Str):Bool:=decide (sc.names.lookup x=some .local)||decide (sc.names.lookup x=some .cell)||decide (sc.names.lookup x=some .free)
noncomputable def jb(sc:Scope)(x:Str):Bool:=decide (sc.names.lookup x=some .globalImplicit)
noncomputable def jW(x:Str):Bool:=!(x==("__debug__" : Str))&&!(x==("__classdict__" : Str))&&decide (x≠("__name__" : Str))
noncomputable def mR:Expr->Bool
 |.Set _ _ _=>false
 |_=>true
noncomputable def pR(sc outer:Scope):Scope :=
 { sc with names:=sc.names.map λ(n,k)=>if (k==.free&&outer.kind==.function&&outer.names.lookup n==some .cell)then(n,.cell)else(n,k) }
noncomputable def bL:Expr->av
 |.Name x _=>[x]
 |.Tuple es _ _=>es.filterMap λe=>match e with|.Name x _=>some x|_=>none
 |_=>[]
noncomputable def e_(S:Sx)(caps:aH):av:=caps.filterMap λi=>S.N[i]?
def Sx.inner(S:Sx)(target:Expr)(caps:aH)(sc:Scope):Sx:=⟨pR sc S.sc,bL target++e_ S caps,S.fn,S.bl,S.cs,S.px⟩
noncomputable def gm:Expr->Bool
 |.Tuple _ _ _=>true
 |_=>false
noncomputable def isNm(e:Expr):Bool:=decide (e.ctorIdx=23)
theorem ki{e:Expr}(h:isNm e=true):∃x p,e=.Name x p:=Expr.Name.elim (motive_1:=λe=>∃x p,e=.Name x p) e (WO h) λx p=>⟨x,p,rfl⟩
noncomputable def Ux:Expr->Bool
 |.Call ..=>true
 |.BinOp ..=>true
 |.Subscript ..=>true
 |.Compare ..=>true
 |.Dict ..=>true
 |_=>false
noncomputable def M1:Expr->Bool
 |.Call ..=>true
 |.Name ..=>true
 |_=>false
theorem aI{a b:Bool}(h:(a&&b)=true):a=true/\b=true:=by
 cases a<;>cases b<;>first|exact⟨rfl,rfl⟩|cases h
noncomputable def bj{α:Type}(o:Option α)(f:α->Bool):Bool:=match o with
 |some a=>f a
 |none=>false
theorem bp{α:Type}{o:Option α}{f:α->Bool}(h:bj o f=true):∃a,o=some a/\f a=true:=by
 cases o with
 |some a=>exact⟨a,rfl,h⟩
 |none=>cases h
theorem dI{α:Type}{c:Prop}[Decidable c]{f:c->Option α}{x:α}(h:(if h:c then f h else none)=some x):∃k:c,f k=some x:=by
 by_cases k:c
 ·rw[dif_pos k]at h;exact⟨k,h⟩
 ·rw[dif_neg k]at h;cases h
theorem bT{α β:Type}{o:Option α}{f:α->Option β}{b:β}(h:o.bind f=some b):∃a,o=some a/\f a=some b:=Option.bind_eq_some_iff.mp h
theorem gT{α:Type}{c:Prop}[Decidable c]{o:Option α}{b:α}(h:(if c then o else none)=some b):c/\o=some b:=by
 by_cases k:c
 ·rw[if_pos k]at h;exact⟨k,h⟩
 ·rw[if_neg k]at h;cases h
noncomputable def vC(e:Expr):Option Const:=if h:e.ctorIdx=19 then Expr.Constant.elim (motive_1:=λ_=>Option Const) e h (λc _ _=>some c)else none
theorem wU{e:Expr}{c:Const}(h:vC e=some c):∃j p,e=.Constant c j p:=by
 obtain⟨k,h⟩:=dI h;exact Expr.Constant.elim (motive_1:=λe=>∀k:e.ctorIdx=19,Expr.Constant.elim (motive_1:=λ_=>Option Const) e k (λc _ _=>some c)=some c->∃j p,e=.Constant c j p) e k (λ_ _ _ _ h=>by cases h;exact⟨_,_,rfl⟩) k h
noncomputable def yD:Const->Bool
 |.none=>true
 |_=>false
theorem vF{c:Const}(h:yD c=true):c=.none:=by cases c<;>first|rfl|cases h
noncomputable def Dt(b:Bool):Const->Bool
 |.bool c=>decide (b=c)
 |_=>false
theorem yF{b:Bool}{c:Const}(h:Dt b c=true):c=.bool b:=by cases c<;>first | (cases h;done)|rw[of_decide_eq_true h]
noncomputable def yE(b:Int):Const->Bool
 |.int c=>decide (b=c)
 |_=>false
theorem vG{b:Int}{c:Const}(h:yE b c=true):c=.int b:=by cases c<;>first | (cases h;done)|rw[of_decide_eq_true h]
noncomputable def Gi(b:Str):Const->Bool
 |_=>false
theorem Il{b:Str}{c:Const}(h:Gi b c=true):c=.str b:=by cases c<;>first | (cases h;done)|rw[of_decide_eq_true h]
noncomputable def IU(e:Expr):Option Str:=if h:e.ctorIdx=23 then Expr.Name.elim (motive_1:=λ_=>Option Str) e h (λx _=>some x)else none
theorem kM{e:Expr}{x:Str}(h:IU e=some x):∃p,e=.Name x p:=by
 obtain⟨k,h⟩:=dI h;exact Expr.Name.elim (motive_1:=λe=>∀k:e.ctorIdx=23,Expr.Name.elim (motive_1:=λ_=>Option Str) e k (λx _=>some x)=some x->∃p,e=.Name x p) e k (λ_ _ _ h=>by cases h;exact⟨_,rfl⟩) k h
noncomputable def I9(e:Expr):Option (Expr×Operator×Expr):=if h:e.ctorIdx=2 then Expr.BinOp.elim (motive_1:=λ_=>Option (Expr×Operator×Expr)) e h (λl o r _=>some (l,o,r))else none
theorem Af{e l r:Expr}{o:Operator}(h:I9 e=some (l,o,r)):∃p,e=.BinOp l o r p:=by
 obtain⟨k,h⟩:=dI h;exact Expr.BinOp.elim (motive_1:=λe=>∀k:e.ctorIdx=2,Expr.BinOp.elim (motive_1:=λ_=>Option (Expr×Operator×Expr)) e k (λl o r _=>some (l,o,r))=some (l,o,r)->∃p,e=.BinOp l o r p) e k (λ_ _ _ _ _ h=>by cases h;exact⟨_,rfl⟩) k h
noncomputable def N5(e:Expr):Option (UnaryOp×Expr):=if h:e.ctorIdx=3 then Expr.UnaryOp.elim (motive_1:=λ_=>Option (UnaryOp×Expr)) e h (λo e _=>some (o,e))else none
theorem wN{e x:Expr}{o:UnaryOp}(h:N5 e=some (o,x)):∃p,e=.UnaryOp o x p:=by
 obtain⟨k,h⟩:=dI h;exact Expr.UnaryOp.elim (motive_1:=λe=>∀k:e.ctorIdx=3,Expr.UnaryOp.elim (motive_1:=λ_=>Option (UnaryOp×Expr)) e k (λo e _=>some (o,e))=some (o,x)->∃p,e=.UnaryOp o x p) e k (λ_ _ _ _ h=>by cases h;exact⟨_,rfl⟩) k h
noncomputable def vBool(e:Expr):Option (BoolOp×au):=if h:e.ctorIdx=0 then Expr.BoolOp.elim (motive_1:=λ_=>Option (BoolOp×au)) e h (λo vs _=>some (o,vs))else none
theorem o3{e:Expr}{o:BoolOp}{vs:au}(h:vBool e=some (o,vs)):∃p,e=.BoolOp o vs p:=by
 obtain⟨k,h⟩:=dI h;exact Expr.BoolOp.elim (motive_1:=λe=>∀k:e.ctorIdx=0,Expr.BoolOp.elim (motive_1:=λ_=>Option (BoolOp×au)) e k (λo vs _=>some (o,vs))=some (o,vs)->∃p,e=.BoolOp o vs p) e k (λ_ _ _ _ h=>by cases h;exact⟨_,rfl⟩) k h
noncomputable def RC(e:Expr):Option (Expr×Expr×Expr):=if h:e.ctorIdx=5 then Expr.IfExp.elim (motive_1:=λ_=>Option (Expr×Expr×Expr)) e h (λt x y _=>some (t,x,y))else none
theorem D8{e t x y:Expr}(h:RC e=some (t,x,y)):∃p,e=.IfExp t x y p:=by
 obtain⟨k,h⟩:=dI h;exact Expr.IfExp.elim (motive_1:=λe=>∀k:e.ctorIdx=5,Expr.IfExp.elim (motive_1:=λ_=>Option (Expr×Expr×Expr)) e k (λt x y _=>some (t,x,y))=some (t,x,y)->∃p,e=.IfExp t x y p) e k (λ_ _ _ _ _ h=>by cases h;exact⟨_,rfl⟩) k h
noncomputable def one{α:Type}:List α->Option α
 |[]=>none
 |x::xs=>match xs with
  |[]=>some x
  |_::_=>none
theorem cW{α:Type}{l:List α}{x:α}(h:one l=some x):l=[x]:=by
 cases l with
 |nil=>cases h
 |cons y ys=>cases ys with
  |nil=>cases h;rfl
  |cons _ _=>cases h
def two{α:Type}:List α->Option (α×α)
 |[]=>none
 |x::xs=>(one xs).map λy=>(x,y)
theorem hV{α:Type}{l:List α}{x y:α}(h:two l=some (x,y)):l=[x,y]:=by
 cases l with
 |nil=>cases h
 |cons z zs=>cases zs with
  |nil=>cases h
  |cons w ws=>cases ws with
   |nil=>cases h;rfl
   |cons _ _=>cases h
noncomputable def N6{α:Type}:List α->Option (α×List α)
 |[]=>none
 |x::xs=>some (x,xs)
theorem wX{α:Type}{l xs:List α}{x:α}(h:N6 l=some (x,xs)):l=x::xs:=by
 cases l with
 |nil=>cases h
 |cons y ys=>cases h;rfl
noncomputable def I0(e:Expr):Option (Expr×List CmpOp×au):=if h:e.ctorIdx=15 then Expr.Compare.elim (motive_1:=λ_=>Option (Expr×List CmpOp×au)) e h (λl os rs _=>some (l,os,rs))else none
theorem Ae{e l:Expr}{os:List CmpOp}{rs:au}(h:I0 e=some (l,os,rs)):∃p,e=.Compare l os rs p:=by
 obtain⟨k,h⟩:=dI h;exact Expr.Compare.elim (motive_1:=λe=>∀k:e.ctorIdx=15,Expr.Compare.elim (motive_1:=λ_=>Option (Expr×List CmpOp×au)) e k (λl os rs _=>some (l,os,rs))=some (l,os,rs)->∃p,e=.Compare l os rs p) e k (λ_ _ _ _ _ h=>by cases h;exact⟨_,rfl⟩) k h
noncomputable def wR(e:Expr):Option (Expr×au×List Keyword):=if h:e.ctorIdx=16 then Expr.Call.elim (motive_1:=λ_=>Option (Expr×au×List Keyword)) e h (λf as ks _=>some (f,as,ks))else none
variable {args as:au}
theorem vb{e f:Expr}{ks:List Keyword}(h:wR e=some (f,as,ks)):∃p,e=.Call f as ks p:=by
 obtain⟨k,h⟩:=dI h;exact Expr.Call.elim (motive_1:=λe=>∀k:e.ctorIdx=16,Expr.Call.elim (motive_1:=λ_=>Option (Expr×au×List Keyword)) e k (λf as ks _=>some (f,as,ks))=some (f,as,ks)->∃p,e=.Call f as ks p) e k (λ_ _ _ _ _ h=>by cases h;exact⟨_,rfl⟩) k h
def gR(e:Expr):Option (Str×au):=(wR e).bind λz=>if z.2.2.isEmpty=true then(IU z.1).bind λx=>some (x,z.2.1)else none
theorem FQ{α:Type}{l:List α}(h:l.isEmpty=true):l=[]:=List.isEmpty_iff.mp h
theorem eu{e:Expr}{x:Str}(h:gR e=some (x,as)):∃p pos,e=.Call (.Name x p) as [] pos:=by
 obtain⟨⟨f,Tv,ks⟩,hv,h⟩:=bT h;obtain⟨hc,h⟩:=gT h;obtain⟨y,hn,h⟩:=bT h;cases h;obtain⟨pos,rfl⟩:=vb hv;obtain⟨p,rfl⟩:=kM hn;obtain rfl:=FQ hc;exact⟨p,pos,rfl⟩
noncomputable def oY(e:Expr):Option (Expr×Expr):=if h:e.ctorIdx=21 then Expr.Subscript.elim (motive_1:=λ_=>Option (Expr×Expr)) e h (λa b _=>some (a,b))else none
theorem gC{e a b:Expr}(h:oY e=some (a,b)):∃p,e=.Subscript a b p:=by
 obtain⟨k,h⟩:=dI h;exact Expr.Subscript.elim (motive_1:=λe=>∀k:e.ctorIdx=21,Expr.Subscript.elim (motive_1:=λ_=>Option (Expr×Expr)) e k (λa b _=>some (a,b))=some (a,b)->∃p,e=.Subscript a b p) e k (λ_ _ _ _ h=>by cases h;exact⟨_,rfl⟩) k h
noncomputable def va(e:Expr):Option (au):=if h:e.ctorIdx=25 then Expr.Tuple.elim (motive_1:=λ_=>Option (au)) e h (λes _ _=>some es)else none
theorem iJ{e:Expr}{es:au}(h:va e=some es):∃n p,e=.Tuple es n p:=by
 obtain⟨k,h⟩:=dI h;exact Expr.Tuple.elim (motive_1:=λe=>∀k:e.ctorIdx=25,Expr.Tuple.elim (motive_1:=λ_=>Option (au)) e k (λes _ _=>some es)=some es->∃n p,e=.Tuple es n p) e k (λ_ _ _ _ h=>by cases h;exact⟨_,_,rfl⟩) k h
noncomputable def IV(e:Expr):Option (au):=if h:e.ctorIdx=24 then Expr.List.elim (motive_1:=λ_=>Option (au)) e h (λes _=>some es)else none
theorem Aa{e:Expr}{es:au}(h:IV e=some es):∃p,e=.List es p:=by
 obtain⟨k,h⟩:=dI h;exact Expr.List.elim (motive_1:=λe=>∀k:e.ctorIdx=24,Expr.List.elim (motive_1:=λ_=>Option (au)) e k (λes _=>some es)=some es->∃p,e=.List es p) e k (λ_ _ _ h=>by cases h;exact⟨_,rfl⟩) k h
noncomputable def CJ(e:Expr):Option (Expr×List Comprehension×Scope):=if h:e.ctorIdx=8 then Expr.ListComp.elim (motive_1:=λ_=>Option (Expr×List Comprehension×Scope)) e h (λe gs sc _=>some (e,gs,sc))else none
theorem wQ{e x:Expr}{gs:List Comprehension}{sc:Scope}(h:CJ e=some (x,gs,sc)):∃p,e=.ListComp x gs sc p:=by
 obtain⟨k,h⟩:=dI h;exact Expr.ListComp.elim (motive_1:=λe=>∀k:e.ctorIdx=8,Expr.ListComp.elim (motive_1:=λ_=>Option (Expr×List Comprehension×Scope)) e k (λe gs sc _=>some (e,gs,sc))=some (x,gs,sc)->∃p,e=.ListComp x gs sc p) e k (λ_ _ _ _ _ h=>by cases h;exact⟨_,rfl⟩) k h
theorem jL{a:Bool}(h:(!a)=true):a=false:=by cases a<;>first|rfl|cases h
def oD(S:Sx)(n:Nat)(t:Tg)(caps:aH)(target:Expr)(sc:Scope):Bool :=
 decide (sc.kind=.function)&&sc.names.all (λ(x,k)=>decide (k≠.cell)&&(decide (k≠.local)||decide (sc.names.lookup x=some .local))&&(decide (k≠.free)||decide (S.sc.names.lookup x=some .cell)||decide (S.sc.names.lookup x=some .free))) &&
 decide (n=(bL target).length)&&(bL target).all (λx=>decide (sc.names.lookup x=some .local))&&decide (bL target++e_ S caps).Nodup &&
 caps.all (λi=>match S.N[i]? with|some x=>decide (sc.names.lookup x=some .free)|none=>false) &&
 (match t with
  |.nm i=>decide (i=0)&&isNm target
  |.tp is=>bj (va target) λes=>decide (is=List.range es.length)&&es.all isNm)
mutual
noncomputable def bM(S:Sx):CE->Expr->Bool
 |.bX p es,e0=>Ux e0&&bj (S.px.pe p S.sc S.bl e0) λxs=>bB S es xs
 |.bz,e0=>bj (vC e0) λc=>yD c
 |.bl b,e0=>bj (vC e0) λc=>Dt b c
 |.int i,e0=>bj (vC e0) λc=>yE i c
 |.v i,e0=>bj (IU e0) λx=>decide (S.N[i]?=some x)&&D6 S.sc x&&jW x
 |.glo x i,e0=>bj (IU e0) λy=>decide (y=x)&&jb S.sc x&&decide ((x,GK.i i)∈S.cs)&&!(x==("__debug__" : Str))
 |.bin op a b,e0=>bj (I9 e0) λz=>decide (z.2.1=Kc op)&&bM S a z.1&&bM S b z.2.2
 |.neg a,e0=>bj (N5 e0) λz=>decide (z.1=.USub)&&bM S a z.2
 |.not a,e0=>bj (N5 e0) λz=>decide (z.1=.Not)&&bM S a z.2
 |.and es,e0=>bj (vBool e0) λz=>decide (z.1=.And)&&bB S es z.2
 |.or es,e0=>bj (vBool e0) λz=>decide (z.1=.Or)&&bB S es z.2
 |.ite c a b,e0=>bj (RC e0) λz=>bM S c z.1&&bM S a z.2.1&&bM S b z.2.2
 |.cmp op a b,e0=>bj (I0 e0) λz=>decide (z.2.1=[O3 op])&&bM S a z.1&&bj (one z.2.2) λr=>bM S b r&&mR r
 |.ue a t,e0=>bj (gR e0) λz=>decide (z.1=("isinstance" : Str))&&jb S.sc z.1&&decide (z.1∈S.bl)&&bj (two z.2) λy=>bM S a y.1&&bj (IU y.2) λx=>decide (x=(tyName t:Str))&&jb S.sc x&&decide (x∈S.bl)
 |.call f es,e0=>bj (gR e0) λz=>decide (S.fn f=some z.1)&&jb S.sc z.1&&jW z.1&&bj (N6 z.2) λy=>bB S es (y.1::y.2)
 |.bf f es,e0=>bj (gR e0) λz=>decide (z.1=(oI f:Str))&&jb S.sc z.1&&decide (z.1∈S.bl)&&bj (N6 z.2) λy=>bB S es (y.1::y.2)
 |.ix a b,e0=>bj (oY e0) λz=>bM S a z.1&&bM S b z.2
 |.tup es,e0=>bj (va e0) λxs=>bB S es xs&&decide (es.length<=1000)
 |.lst es,e0=>bj (IV e0) λxs=>bB S es xs&&decide (es.length<=1000)
 |.comp n t caps ik es bu elt,e0=>bj (CJ e0) λz=>bj (one z.2.1) λg=>decide (g.is_async=0)&&oD S n t caps g.target z.2.2&&mR g.iter&&decide (bu.length<=1)&&bB (S.inner g.target caps z.2.2) bu g.ifs&&bM (S.inner g.target caps z.2.2) elt z.1 &&
     (match ik with
      |.kW=>bj (gR g.iter) λw=>decide (w.1=("range" : Str))&&jb S.sc w.1&&decide (w.1∈S.bl)&&bj (one w.2) λy=>bB S es [y]
      |.seq=>bB S es [g.iter]
      |.bX p=>M1 g.iter&&(decide (1100<=p)||gm g.target)&&bj (S.px.pi p S.sc S.bl g.iter) λxs=>bB S es xs)
noncomputable def bB(S:Sx):aB->au->Bool
 |[],es=>match es with
  |[]=>true
  |_::_=>false
 |c::cs,es=>match es with
  |[]=>false
  |e::es=>bM S c e&&bB S cs es
end
def xk(K:ao)(n:Nat)(m:aD):Sp:=λvs H Q _=>∃(F:ai) (ds:ab) (r:D),vs.length=n/\az (aT K H) (nd K F (λ_=>False) (λ_=>none) H) [] 0 vs ds/\m ds=ok r /\
 ∀v H',aJ H H'->(∃τt:Addr->Option aX,(∀p q,τt p=some q->H p=none)/\Rep (aT K H') (nd K (λp=>F p\/H p=none) (λ_=>False) τt H') [] v r)->Q v H'
structure HX(X:Cx)(k:Nat)(x:Str)(m:aD):Prop where
 ex:∃(f:Addr) (fd:FuncData) (ps:av),f_ X.prog X.w X.K X.mg X.base l6 k f fd ps (xk X.K ps.length m)/\X.mg x=some (.ref f)/\PySem.W.keepIn X.K (.ref f)=true/\Binds X.K fd ps []/\∀ds r,m ds=ok r->ds.length=ps.length
noncomputable def kinds:List String:=["NoneType","bool","int","str","list","tuple","dict"]
def KN:Ty->String->Bool
 |.int,s=>s == "int" ||s == "bool"
 |t,s=>s==tyName t
theorem aJ.upd{H:Hp}{p:Addr}{o:HO}(h:H p=none):aJ H (upd H p o):=λb u e=>by
 rw[aQ (by rintro rfl;rw[h]at e;cases e)];exact e
theorem ye{i j:Int}(h:fU i j=true):IntMulOk i j:=by
 unfold fU at h;simp only[Bool.or_eq_true,Bool.and_eq_true,decide_eq_true_eq]at h;rcases h with (h|h)|⟨h1,h2⟩
 ·exact .of_left (intBits_le h)
 ·exact .of_right (intBits_le h)
 ·have b1:Builtin.Int.intBits i<=9000:=intBits_le h1;have b2:Builtin.Int.intBits j<=9000:=intBits_le h2;unfold IntMulOk;have hb:Builtin.Int.intTooBig ((Builtin.Int.intBits i:Int)+(Builtin.Int.intBits j:Int))=false:=by
   unfold Builtin.Int.intTooBig;have:(bitsLine:Int)=134217728:=by decide
   exact Xw (by left)
  rw[hb];simp
section
variable {K:ao}{R:ai}{τ τt:Addr->Option aX}{fv:aH}{H H':Hp}
theorem A7:iF X (binaryOp .Add) (λx y H Q=>∃a b xs ys,x=.ref a/\y=.ref b/\aT X.K H a xs/\aT X.K H b ys/\xs.length+ys.length<=sizeLine/\(xs=[]->Q (.ref b) H)/\(ys=[]->Q (.ref a) H)/\∀p,H p=none->Q (.ref p) (upd H p (.tup (xs++ys)))):=by
 intro pins s σ H x y v u Q I rx ry h;obtain⟨a,b,xs,ys,rfl,rfl,ha,hb,hz,q0,q1,q2⟩:=h;cases rx;cases ry;by_cases hx:xs=[]
 ·subst hx;obtain⟨its,r1,p1,_⟩:=I.tuple ha;obtain⟨yA,r2,p2,_⟩:=I.tuple hb;cases r1;obtain⟨⟨cls,dd,data,sl⟩,ho,hc,n,hd⟩:=id p1;obtain⟨⟨HD,zW,data2,zR⟩,qP,hc2,n2,hd2⟩:=id p2;simp only at hc hd hc2 hd2;subst hc hd hc2 hd2;exact concat_meets ⟨_,ho,rfl⟩ ⟨_,qP,rfl⟩ noFill_tuple_add seq_tuple_add X8 X4 (X0 _ _)
   (tuple_addW0 a b [].toArray yA.toArray n n2 dd zW sl zR rfl) ⟨ho,qP,⟨.ref b,H,I,rfl,q0 rfl⟩⟩
 ·exact A6 pins s σ H (.ref a) (.ref b) _ _ Q I rfl rfl ⟨a,b,xs,ys,rfl,rfl,ha,hb,hx,hz,q1,λ_=>q2⟩
theorem nd.qp(k k':aX)(p:Addr)(xs:Nd)(f:Fl)(h:nd K R A (λ_=>none) H k p xs f):nd K R A (λ_=>none) H k' p xs f:=by
 cases f with
 |ow=>exact nomatch h.2
 |fz=>exact h
 |al=>exact h
 |sc=>exact h
theorem Ki(Si:SI X F R τ ρ σ H)(fr:∀p q,τt p=some q->H p=none)(k k':aX)(p:Addr)(xs:Nd)(f:Fl)(h:nd K R (gZ (gP X F) τ fv) τt H' k p xs f):
  nd K R (gZ (gP X F) τ fv) (λ_=>none) H' k' p xs (bH f):=by
 cases f with
 |ow=>exact⟨h.1,.inr (Si.same.free (fr p _ h.2)),λc i e=>absurd (fr p _ h.2) (Si.th p _ e)⟩
 |fz=>exact h
 |al=>exact h
 |sc=>exact h
theorem az.fY{k:aX}{n:Nat}(h:az (aT K H') (nd K R (gZ (gP X F) τ fv) τt H') k n xs ds)(Si:SI X F R τ ρ σ H)(fr:∀p q,τt p=some q->H p=none){n':Nat}:
  az (aT K H') (nd K R (gZ (gP X F) τ fv) (λ_=>none) H') k' n' xs (aG bH ds):=az.ie (λ_ _ h=>h) (Ki Si fr) h _ _
theorem Rep.fY{k:aX}{v:V}{d:D}(h:Rep (aT K H') (nd K R (gZ (gP X F) τ fv) τt H') k v d)(Si:SI X F R τ ρ σ H)(fr:∀p q,τt p=some q->H p=none):
  Rep (aT K H') (nd K R (gZ (gP X F) τ fv) (λ_=>none) H') k' v (aZ bH d):=Rep.ie (λ_ _ h=>h) (Ki Si fr) h _
theorem bN.p5{p:Addr}(hp:H p=none)(e:aJ H H')(hl:H' p=some (.lst xs))(r:az (aT K H') (nd K R (gZ G τ fv) (λ_=>none) H') [] 0 xs ds):bN K G R τ fv H H' (.ref p) (.lst .ow ds):=by
 refine⟨λq=>if q=p then some []else none,λq k hq=>?_,.lst ⟨hl,by simp⟩ (r.imp (λ_ _ h=>h) λc q xs f h=>?_)⟩
 ·by_cases rY:q=p
  ·subst rY;exact hp
  ·simp[rY]at hq
 ·cases f with
  |ow=>exact nomatch h.2
  |fz=>exact h
  |al=>exact h
  |sc=>exact h
end
theorem Bn(K:ao):∀t:Ty,∀s∈kinds,PySem.W.kitOne K (.type s) (.type (tyName t))=some (KN t s):=by
 intro t s hs;simp only[kinds,List.mem_cons,List.not_mem_nil,or_false]at hs;cases t<;>rcases hs with rfl|rfl|rfl|rfl|rfl|rfl|rfl<;>rfl
structure PX(X:Cx)(sc:Scope)(bl:av)(k:Nat):Prop where
 sc:X.env.scope=sc
 calm:X.calm=true
 room:eN k X.A
 bl:∀x∈bl,X.mg x=none
theorem PX.gl{sc:Scope}{bl:av}{k:Nat}(L:PX X sc bl k){x:Str}(h:jb sc x=true):Gl X x:=by
 unfold Gl;show X.env.scope.names.lookup x=some .globalImplicit;rw[L.sc];exact WO h
def mC(X:Cx)(F:ai)(Φ:aU):aB->au->Prop
 |[],[]=>True
 |c::cs,a::as=>PE X a (tD X F Φ c)/\(∀es,starEach (a::es) X.env=(false,eval a X.env)::starEach es X.env)/\kG a/\mC X F Φ cs as
 |_,_=>False
structure qK(K:ao)(H2:Hp)(vs:ae)(xs:ab)(H':Hp):Prop where
 n0:∃R0:ai,az (aT K H2) (nd K R0 (λ_=>False) (λ_=>none) H2) [] 0 vs (aG bo xs)/\∀p o,R0 p->H2 p=some o->H' p=some o
 tp:∀a ys,aT K H2 a ys->aT K H' a ys
structure Mz(K:ao)(J:It)(H2:Hp)(vs:ae)(xs items:ab):Prop where
 go:∀i H' R',qK K H2 vs xs H'->az (aT K H') (nd K R' (λ_=>False) (λ_=>none) H') [] 0 vs (aG bo xs)->i<items.length->J.go i H'
 qM:∀i H' R' x kH,qK K H2 vs xs H'->az (aT K H') (nd K R' (λ_=>False) (λ_=>none) H') [] 0 vs (aG bo xs)->i<items.length->J.qM i H' x kH->aJ H' kH/\∃d,items[i]?=some d/\Rep (aT K kH) (nd K R' (λ_=>False) (λ_=>none) kH) [] x d
 stop:∀i H' R',qK K H2 vs xs H'->az (aT K H') (nd K R' (λ_=>False) (λ_=>none) H') [] 0 vs (aG bo xs)->items.length<=i->J.stop i H'
structure oT(px:Px)(Φ:aU):Prop where
 e:∀(X:Cx) (sc:Scope) (bl:av) (k:Nat),PX X sc bl k->∀(p:Nat) (e:Expr) (args:au),px.pe p sc bl e=some args->∀(F:ai) (cs:aB),mC X F Φ cs args->PE X e (tD X F Φ (.bX p cs))/\PT X e (ff X F Φ (.bX p cs))
 i:∀(X:Cx) (sc:Scope) (bl:av) (k:Nat),PX X sc bl k->∀(p:Nat) (e:Expr) (args:au),px.pi p sc bl e=some args->∀(F:ai) (cs:aB) (tg:Expr),(decide (1100<=p)||gm tg)=true->mC X F Φ cs args ->
  ∀(pins:ak) (s:Shared) (σ:St) (H:Hp) (R:ai) (τ:Addr->Option aX) (ρ:aY) (xs:ab) (d:D) (items:ab),Inv X pins σ H s->SI X F R τ ρ σ H->cM Φ cs ρ=ok xs->Φ p xs=ok d->nH d=ok items->∀Rr:It->Hp->Prop,
   (∀J H2 vs,aJ H H2->bY X.K (gP X F) R τ (cT cs) H H2 vs xs->Mz X.K J H2 vs xs items->Rr J H2) ->
   wpAny (model X.prog X.w) X.A (eval e X.env) (λv s1=>wpAny (model X.prog X.w) X.A (pyIter v) (zY X pins σ tg Rr) X.xe s1) X.xe s
def wD(K:ao):GK->Value->Prop
 |.i i,u=>RelV (.int i) u
structure Lk(X:Cx)(S:Sx)(k:Nat)(Φ:aU):Prop where
 sc:X.env.scope=S.sc
 N:X.N=S.N
 nd:X.N.Nodup
 calm:X.calm=true
 room:eN k X.A
 bl:∀x∈S.bl,X.mg x=none
 fn:∀f x,S.fn f=some x->HX X k x (Φ f)
 cs:∀x i,(x,i)∈S.cs->∃u,X.mg x=some u/\wD X.K i u
 pr:oT S.px Φ
variable {S:Sx}{Φ:aU}
theorem Lk.pX{k:Nat}(L:Lk X S k Φ):PX X S.sc S.bl k:=⟨L.sc,L.calm,L.room,L.bl⟩
variable {Q:VK}{p' p1 pos:Pos}
section
variable {X:Cx}{S:Sx}{k:Nat}{F:ai}{Φ:aU}
theorem Lk.gl(L:Lk X S k Φ){x:Str}(h:jb S.sc x=true):Gl X x:=by
 unfold Gl;show X.env.scope.names.lookup x=some .globalImplicit;rw[L.sc];exact WO h
theorem Lk.HY(L:Lk X S k Φ){x:Str}(h:D6 S.sc x=true):DS X.env.scope x:=by
 unfold DS;rw[L.sc];unfold D6 at h;rw[Bool.or_eq_true,Bool.or_eq_true]at h;rcases h with (h|h)|h
 ·exact .inl (WO h)
 ·exact .inr (.inl (WO h))
 ·exact .inr (.inr (WO h))
theorem tD.intro{c:CE}{d:D}(Si:SI X F R τ ρ σ H)(e:bg Φ c ρ=ok d)(h:∀v H',aJ H H'->bN X.K (gP X F) R τ (fL c) H H' v d->Q v H'):tD X F Φ c σ H Q:=⟨R,τ,ρ,d,Si,e,h⟩
theorem OA(L:Lk X S k Φ){i:Nat}{x:Str}(h:bM S (.v i) (.Name x pos)=true):PE X (.Name x pos) (tD X F Φ (.v i)):=by
 replace h:=aI h;replace h:=And.intro (aI h.1) h.2;obtain⟨⟨h1,h2⟩,h3⟩:=h;unfold jW at h3;simp only[Bool.and_eq_true,Bool.not_eq_true']at h3;refine PE.imp (rC (i:=i) (by rw[L.N];exact WO h1) (L.HY h2) h3.1.1 h3.1.2) λσ H Q hq=>?_;obtain⟨R,τ,ρ,d,Si,ev,hq⟩:=hq;obtain⟨d',hd,rfl⟩:=pC ev
 ·obtain⟨v,hv,hr⟩:=Si.rep i d' hd;refine⟨v,hv,hq v H (aJ.refl H) ⟨λ_=>none,λ_ _ h=>by simp at h,?_⟩⟩;refine Rep.map (q:=[i]) (q':=[]) (λ_ _ h=>h) (λc p xs f h=>?_) hr [] rfl;cases f with
  |ow =>
   refine⟨h.1,.inr (Si.t0 p _ h.2),λc' j e=>?_⟩;rw[h.2]at e;have e':=W4 e;have:=XE List.getLast? e';simp at this;show _∈[i];simp[this]
  |fz=>exact h
  |al=>exact h.2.elim
  |sc=>exact h
theorem kv{op:CG}{x y d:D}(K_:op≠.add/\op≠.mul)(h:bR op x y=ok d):∃i j,x=.int i/\y=.int j:=by
 cases x with
 |int i=>cases y with
  |int j=>exact⟨i,j,rfl,rfl⟩
  |_=>cases op<;>first|exact nk h | (simp at K_;done)
 |_=>cases op<;>first|exact nk h | (simp at K_;done)
theorem EN(L:Lk X S k Φ){op:CG}{a b:CE}{l r:Expr}(ha:PE X l (tD X F Φ a))(hb:PE X r (tD X F Φ b)):PE X (.BinOp l (Kc op) r pos) (tD X F Φ (.bin op a b)):=by
 have two:∀{σ:St} {H:Hp} {Q:VK} {r2:R2},(∃R τ ρ d,SI X F R τ ρ σ H/\bg Φ (.bin op a b) ρ=ok d/\(∀v H',aJ H H'->bN X.K (gP X F) R τ (fL (.bin op a b)) H H' v d->Q v H') /\
   ∀x y v u H',bR op x y=ok d->aJ H H'->bN X.K (gP X F) R τ (fL (.bin op a b)) H H' v x->bN X.K (gP X F) R τ (fL (.bin op a b)) H H' u y->r2 v u H' Q)->Ek r2 (tD X F Φ a) (tD X F Φ b) σ H Q:=by
  rintro σ H Q r2 ⟨R,τ,ρ,d,Si,ev,hq,hr⟩;obtain⟨x,ex,ev⟩:=aA ev;obtain⟨y,ey,ev⟩:=aA ev;refine tD.intro Si ex λv H1 e1 r1=>tD.intro (Si.go e1) ey λu H2 e2 r2=>?_;exact hr x y v u H2 ev (e1.trans e2) ((r1.go e2).mono λi hi=>W0 _ hi) ((r2.old e1).mono λi hi=>WW _ hi)
 have yH:∀{C:Int->Int->Prop} {g:Int->Int->Int},iF X (binaryOp (Kc op)) (rI C λi j=>.int (g i j))->(∀x y d,bR op x y=ok d->∃i j,x=.int i/\y=.int j/\C i j/\d=.int (g i j)) ->
   PE X (.BinOp l (Kc op) r pos) (tD X F Φ (.bin op a b)):=by
  intro C g ho hd;refine PE.imp (Dj ho ha hb) λσ H Q hq=>?_;obtain⟨R,τ,ρ,d,Si,ev,hq⟩:=hq;refine two ⟨R,τ,ρ,d,Si,ev,hq,λx y v u H' eb e rv ru=>?_⟩;obtain⟨i,j,rfl,rfl,c,rfl⟩:=hd x y d eb;exact⟨i,j,rv.isInt,ru.isInt,c,hq _ H' e .int⟩
 cases op with
 |sub =>
  refine yH (C:=λ_ _=>True) (g:=λi j=>i - j) (Ib λ_ _ _ _ _ _ _ _ q=>sub_int q) λx y d h=>?_;obtain⟨i,j,rfl,rfl⟩:=kv (by simp) h;cases h;exact⟨_,_,rfl,rfl,trivial,rfl⟩
 |mod =>
  refine yH (C:=λ_ j=>j≠0) (g:=λi j=>i.fmod j) A5 λx y d h=>?_;obtain⟨i,j,rfl,rfl⟩:=kv (by simp) h;obtain⟨h1,h⟩:=qe h;subst h;exact⟨_,_,rfl,rfl,h1,rfl⟩
 |fdiv =>
  refine yH (C:=λ_ j=>m5 j=true) (g:=λi j=>i.fdiv j) (Ib λi j _ _ _ _ _ hc q=>?_) λx y d h=>?_
  ·unfold m5 at hc;rw[Bool.and_eq_true]at hc;have h1:j≠0:=WO hc.1;have h2:j.natAbs<big:=WO hc.2;exact floordiv_int h1 q (.inl (PyProof.noPylong_of_log2 ((Nat.log2_lt (by left)).mpr h2)))
  ·obtain⟨i,j,rfl,rfl⟩:=kv (by simp) h;obtain⟨h1,h⟩:=qe h;subst h;exact⟨_,_,rfl,rfl,h1,rfl⟩
 |pow =>
  refine yH (C:=λi j=>tM i j=true) (g:=λi j=>i ^ j.toNat) (Ib λi j _ _ _ _ _ hc q=>?_) λx y d h=>?_
  ·unfold tM at hc;simp only[Bool.and_eq_true,decide_eq_true_eq]at hc;exact pow_int_small hc.1.1 hc.1.2 hc.2 q
  ·obtain⟨i,j,rfl,rfl⟩:=kv (by simp) h;obtain⟨h1,h⟩:=qe h;subst h;exact⟨_,_,rfl,rfl,h1,rfl⟩
 |mul =>
  have hi:iF X (binaryOp .Mult) (rI (λi j=>fU i j=true) λi j=>.int (i*j)):=Ib λi j _ _ _ _ _ hc q=>mul_int q (ye hc);exact yH (C:=λi j=>fU i j=true) (g:=λi j=>i*j) hi λx y d h=>by
   obtain⟨i,j,rfl,rfl⟩:∃i j,x=.int i/\y=.int j:=by cases x<;>first | (cases h;done) | (cases y<;>first|exact⟨_,_,rfl,rfl⟩ | (cases h;done))
   obtain⟨h1,h⟩:=qe h;subst h;exact⟨_,_,rfl,rfl,h1,rfl⟩
 |add =>
  refine PE.imp (Dj ((FI.or FH).or A7) ha hb) λσ H Q hq=>?_;obtain⟨R,τ,ρ,d,Si,ev,hq⟩:=hq;refine two ⟨R,τ,ρ,d,Si,ev,hq,λx y v u H' eb e rv ru=>?_⟩;have hz:sizeLine=16777216:=XF;have n9:eK=1000000:=rfl;cases x with
  |int i =>
   cases y with
   |int j =>
    cases eb;exact .inl (.inl ⟨i,j,rv.isInt,ru.isInt,hq _ H' e .int⟩)
   |_=>cases eb
  |lst f a =>
   cases y with
   |lst g b =>
    obtain⟨hc,eb⟩:=qe eb
    ·subst eb;obtain⟨τt,fr,rp⟩:=rv;obtain⟨N2,IC,OI⟩:=ru;obtain⟨p,xs,rfl,hn,rs⟩:=rp.oV;cases OI with
     | @lst _ p2 D1 _ _ BG xB =>
      refine .inl (.inr ⟨p,p2,xs,D1,rfl,rfl,hn.lst hc.1,BG.lst hc.2.1,by rw[rs.length,xB.length];left,λp' qO=>?_⟩);have es:aJ H' (upd H' p' (.lst (xs++D1))):=aJ.upd qO;refine hq _ _ (e.trans es) (bN.p5 (e.free qO) (e.trans es) (aV) ?_);rw[bA,List.map_append,<- bA,<- bA];exact(az.oQ nd.qp (n:=0) (m:=0) (rs.fY Si fr) (xB.fY Si IC)).imp (λ_ _ h=>aT.same es h) λ_ _ _ _ h=>nd.same es h
   |_=>cases eb
  |tup a =>
   cases y with
   |tup b =>
    obtain⟨hc,eb⟩:=qe eb;subst eb;obtain⟨τt,fr,rp⟩:=rv;obtain⟨N2,IC,OI⟩:=ru;cases rp with
    | @tup _ p xs _ hn rs =>
     cases OI with
     | @tup _ p2 D1 _ BG xB =>
      have hl:=rs.length;have Nn:=xB.length;refine .inr ⟨p,p2,xs,D1,rfl,rfl,hn,BG,by rw[hl,Nn];left,λz=>?_,λz=>?_,λp' qO=>?_⟩
      ·subst z;cases rs;exact hq _ H' e ⟨λ_=>none,λ_ _ h=>by simp at h,.tup BG (xB.fY Si IC)⟩
      ·subst z;cases xB;refine hq _ H' e ⟨λ_=>none,λ_ _ h=>by simp at h,.tup hn ?_⟩;rw[List.append_nil];exact rs.fY Si fr
      ·have es:aJ H' (upd H' p' (.tup (xs++D1))):=aJ.upd qO;refine hq _ _ (e.trans es) ⟨λ_=>none,λ_ _ h=>by simp at h,.tup (aT.of aV) ?_⟩;rw[bA,List.map_append,<- bA,<- bA];exact(az.oQ nd.qp (n:=0) (m:=0) (rs.fY Si fr) (xB.fY Si IC)).imp (λ_ _ h=>aT.same es h) λ_ _ _ _ h=>nd.same es h
   |_=>cases eb
  |_=>cases y<;>cases eb
end
section
variable {T T':j6}{N N':gx}{P:Fl->Bool}
theorem Rep.without(hT:∀p xs,T p xs->T' p xs)(hN:∀k k' p xs f,P f=false->N k p xs f->N' k' p xs f){k:aX}{v:V}{d:D}(h:Rep T N k v d)(e:aS P d=false)(k':aX):Rep T' N' k' v d:=by
 have:=Rep.gen (g:=id) (P:=P) (N':=N') (C:=λ_ _=>True) (I:=λ_ _=>True) hT trivial (λ_ _ e=>e) (λ_ _ _ _ e _=>e) (λk k' p xs f _ e h=>hN k k' p xs f e h) h (k':=k') trivial e;rw[dS]at this;exact this
theorem az.without(hT:∀p xs,T p xs->T' p xs)(hN:∀k k' p xs f,P f=false->N k p xs f->N' k' p xs f){k:aX}{n:Nat}(h:az T N k n vs ds)(e:aP P ds=false)(k':aX)(n':Nat):az T' N' k' n' vs ds:=by
 have:=az.gen (g:=id) (P:=P) (N':=N') (C:=λ_ _=>True) (I:=λ_ _=>True) hT trivial (λ_ _ e=>e) (λ_ _ _ _ e _=>e) (λk k' p xs f _ e h=>hN k k' p xs f e h) h (k':=k') (n':=n') trivial trivial e;rw[dv]at this;exact this
theorem Rep.iH(hT:∀p xs,T p xs->T' p xs)(hN:∀k p xs f,P f=false->N k p xs f->N' k p xs f){k:aX}{v:V}{d:D}(h:Rep T N k v d)(e:aS P d=false):Rep T' N' k v d:=by
 have:=Rep.gen (g:=id) (P:=P) (N':=N') (C:=λa b=>a=b) (I:=λa b=>a=b) hT rfl (λ_ _ e=>by rw[e]) (λ_ _ _ _ a b=>by rw[a,b]) (λk k' p xs f c e h=>by subst c;exact hN k p xs f e h) h rfl e;rw[dS]at this;exact this
theorem az.iH(hT:∀p xs,T p xs->T' p xs)(hN:∀k p xs f,P f=false->N k p xs f->N' k p xs f){k:aX}{n:Nat}(h:az T N k n vs ds)(e:aP P ds=false):az T' N' k n vs ds:=by
 have:=az.gen (g:=id) (P:=P) (N':=N') (C:=λa b=>a=b) (I:=λa b=>a=b) hT rfl (λ_ _ e=>by rw[e]) (λ_ _ _ _ a b=>by rw[a,b]) (λk k' p xs f c e h=>by subst c;exact hN k p xs f e h) h rfl rfl e;rw[dv]at this;exact this
end
theorem Rep.nW{k:aX}{v:V}{d:D}(h:Rep (aT K H) (nd K R (λ_=>False) (λ_=>none) H) k v d):Rep (aT K H) (nd K R (λ_=>False) (λ_=>none) H) k' v d:=by
 have:=Rep.ie (g:=id) (λ_ _ h=>h) nd.qp h k';rw[dS]at this;exact this
def f9(X:Cx)(R:ai)(τ:Addr->Option aX)(H:Hp)(v:V)(d:D):Prop :=
 ∃τt:Addr->Option aX,(∀p q,τt p=some q->τ p=none/\¬ R p/\X.H₀ p=none/\H p≠none)/\Rep (aT X.K H) (nd X.K R (λ_=>False) τt H) [] v d
section
variable {X:Cx}{F R:ai}{τ:Addr->Option aX}{ρ:aY}{σ:St}{H H':Hp}
noncomputable def ra(i:Nat)(τt τ:Addr->Option aX):Addr->Option aX:=λp=>match τt p with|some q=>some (q++[i])|none=>τ p
theorem SI.JB{i:Nat}{v:V}{d:D}(Si:SI X F R τ ρ σ H)(ht:∀p q,τt p=some q->τ p=none/\¬ R p/\X.H₀ p=none/\H p≠none)(rp:Rep (aT X.K H) (nd X.K R (λ_=>False) τt H) [] v d)(hi:i<ρ.length):SI X F R (ra i τt τ) (ρ.set i (some d)) (σ.set i (some v)) H:=by
 refine⟨by simp[Si.len],λj d' hj=>?_,λp hp=>?_,Si.rh,Si.rf,λp q hq=>?_,λp q hq=>?_,Si.same⟩
 ·by_cases dN:j=i
  ·subst dN;rw[List.getElem?_set_self hi]at hj;cases hj;refine⟨v,List.getElem?_set_self (by rw[<- Si.len];exact hi),rp.imp (q':=[j]) (λ_ _ h=>h) λc p xs f h=>?_⟩;cases f with
   |ow=>rw[List.append_nil]at h;exact⟨h.1,by simp only[ra,h.2]⟩
   |fz=>exact h
   |al=>exact h
   |sc=>exact h
  ·rw[List.getElem?_set_ne (Ne.symm dN)]at hj;obtain⟨w,hw,h_⟩:=Si.rep j d' hj;refine⟨w,by rw[List.getElem?_set_ne (Ne.symm dN)];exact hw,h_.imp (λ_ _ h=>h) λc p xs f h=>?_⟩;cases f with
   |ow =>
    refine⟨h.1,?_⟩;cases q:τt p with
    |none=>simp only[ra,q];exact h.2
    |some k=>have:=(ht p k q).1;rw[h.2]at this;cases this
   |fz=>exact h
   |al=>exact h
   |sc=>exact h
 ·cases q:τt p with
  |none=>simp only[ra,q];exact Si.rt p hp
  |some k=>exact absurd hp (ht p k q).2.1
 ·cases z:τt p with
  |none=>simp only[ra,z]at hq;exact Si.th p q hq
  |some k=>exact(ht p k z).2.2.2
 ·cases z:τt p with
  |none=>simp only[ra,z]at hq;exact Si.t0 p q hq
  |some k=>exact(ht p k z).2.2.1
theorem SI.set{i:Nat}{v:V}{d:D}(Si:SI X F R τ ρ σ H)(r:f9 X R τ H v d)(hi:i<ρ.length):∃τ',SI X F R τ' (ρ.set i (some d)) (σ.set i (some v)) H:=by
 obtain⟨τt,ht,rp⟩:=r;exact⟨_,Si.JB ht rp hi⟩
theorem vQ{k:aX}{v:V}{d:D}(h:Rep (aT X.K H) (nd X.K R (λ_=>False) τ H) k v d)(ho:aS cD d=false):f9 X R τ H v d :=
 ⟨λ_=>none,λ_ _ h=>by simp at h,Rep.without (P:=cD) (λ_ _ h=>h) (λk k' p xs f hf h=>by
  cases f with
  |ow=>cases hf
  |fz=>exact h
  |al=>exact h.2.elim
  |sc=>exact h) h ho _⟩
open Classical in
theorem SI.move{i:Nat}{d:D}(Si:SI X F R τ ρ σ H)(hd:ρ[i]?=some (some d)):∃v τ',σ[i]?=some (some v)/\SI X F R τ' (ρ.set i none) σ H/\f9 X R τ' H v d:=by
 obtain⟨v,hv,rp⟩:=Si.rep i d hd;refine⟨v,λp=>match τ p with|some q=>if q.getLast?=some i then none else some q|none=>none,hv,⟨by simp[Si.len],λj d' hj=>?_,λp hp=>?_,Si.rh,Si.rf,λp q hq=>?_,λp q hq=>?_,Si.same⟩,
  λp=>match τ p with|some q=>if q.getLast?=some i then(if H p=none then none else some q.dropLast)else none|none=>none,λp q hq=>?_,rp.imp (q:=[i]) (q':=[]) (λ_ _ h=>h) λc p xs f h=>?_⟩
 ·by_cases dN:j=i
  ·subst dN;rw[List.getElem?_set]at hj;simp at hj
  ·rw[List.getElem?_set_ne (Ne.symm dN)]at hj;obtain⟨w,hw,h_⟩:=Si.rep j d' hj;refine⟨w,hw,h_.imp (q:=[j]) (q':=[j]) (λ_ _ h=>h) λc p xs f h=>?_⟩;cases f with
   |ow =>
    refine⟨h.1,?_⟩;simp only[h.2];rw[if_neg (by simp;exact dN)]
   |fz=>exact h
   |al=>exact h
   |sc=>exact h
 ·simp only[Si.rt p hp]
 ·cases z:τ p with
  |none=>simp only[z]at hq;cases hq
  |some k=>exact Si.th p k z
 ·cases z:τ p with
  |none=>simp only[z]at hq;cases hq
  |some k=>exact Si.t0 p k z
 ·cases z:τ p with
  |none=>simp only[z]at hq;cases hq
  |some k =>
   simp only[z]at hq ⊢;by_cases hl:k.getLast?=some i
   ·rw[if_pos hl];exact⟨rfl,(λhR=>by have:=Si.rt p hR;rw[z]at this;cases this),Si.t0 p k z,Si.th p k z⟩
   ·rw[if_neg hl]at hq;cases hq
 ·cases f with
  |ow =>
   refine⟨h.1,?_⟩;have hn:H p≠none:=h.1.ne;simp only[h.2];rw[if_pos (by simp),if_neg hn];simp
  |fz=>exact h
  |al=>exact h.2.elim
  |sc=>exact h
theorem ur(is:aH)(ρ:aY)(j:Nat)(d:D)(h:(fu is ρ)[j]?=some (some d)):∃d',ρ[j]?=some (some d')/\d=(if j∈is then aZ bo d' else d'):=by
 unfold fu at h;rw[List.getElem?_mapIdx]at h;cases q:ρ[j]? with
 |none=>rw[q]at h;exact nk h
 |some o =>
  rw[q]at h;cases o with
  |none=>simp at h
  |some d' =>
   refine⟨d',rfl,?_⟩;by_cases hj:j∈is
   ·simp[hj]at h ⊢;exact h.symm
   ·simp[hj]at h ⊢;exact h.symm
open Classical in
theorem uu(Si:SI X F R τ ρ σ H)(es:aJ H H'):
  ∃R' τ',(∀p,R p->R' p)/\SI X F R' τ' (fu fv ρ) σ H'/\∀τt:Addr->Option aX,(∀p q,τt p=some q->H p=none)->∀(k k':aX) (p:Addr) (xs:Nd) (f:Fl),nd X.K R (gZ (gP X F) τ fv) τt H' k p xs f->nd X.K R' (λ_=>False) (λ_=>none) H' k' p xs (bo f):=by
 have eU:=Si.go es;have fresh:∀p,H p=none->gZ (gP X F) τ fv p:=λp hp=>⟨.inr (Si.same.free hp),λc i e=>absurd hp (Si.th p _ e)⟩
 refine⟨λp=>R p\/(H' p≠none/\gZ (gP X F) τ fv p),λp=>if gZ (gP X F) τ fv p then none else τ p,λp h=>.inl h,⟨by simp[fu,Si.len],λj d' hj=>?_,λp hp=>?_,λp hp=>?_,λp hp=>?_,λp q hq=>?_,λp q hq=>?_,eU.same⟩,λτt fr k k' p xs f h=>?_⟩
 ·obtain⟨d0,h0,e0⟩:=ur _ _ _ _ hj;obtain⟨w,hw,h_⟩:=eU.rep j d0 h0;refine⟨w,hw,?_⟩;by_cases Nt:j∈fv
  ·rw[if_pos Nt]at e0;subst e0;refine Rep.map (q:=[j]) (q':=[j]) (λ_ _ h=>h) (λc p xs f h=>?_) h_ [] rfl;cases f with
   |ow =>
    refine⟨h.1,.inr ⟨h.1.ne,.inr (Si.t0 p _ h.2),λc' i' e'=>?_⟩⟩;rw[h.2]at e';have:=XE List.getLast? (W4 e');simp at this;subst this;exact Nt
   |fz=>exact⟨h.1,.inl h.2⟩
   |al=>exact h.2.elim
   |sc=>exact h
  ·rw[if_neg Nt]at e0;subst e0;refine h_.imp (q:=[j]) (q':=[j]) (λ_ _ h=>h) λc p xs f h=>?_;cases f with
   |ow =>
    refine⟨h.1,?_⟩;show(if gZ (gP X F) τ fv p then none else τ p)=some (c++[j]);rw[if_neg (λz=>Nt (z.2 c j h.2))];exact h.2
   |fz=>exact⟨h.1,.inl h.2⟩
   |al=>exact h.2.elim
   |sc=>exact h
 ·rcases hp with hp|hp
  ·simp only[Si.rt p hp];split<;>rfl
  ·rw[if_pos hp.2]
 ·rcases hp with hp|hp
  ·exact eU.rh p hp
  ·exact hp.1
 ·rcases hp with hp|hp
  ·exact Si.rf p hp
  ·exact hp.2.1
 ·split at hq
  ·cases hq
  ·exact eU.th p q hq
 ·split at hq
  ·cases hq
  ·exact Si.t0 p q hq
 ·cases f with
  |ow=>exact⟨h.1,.inr ⟨h.1.ne,fresh p (fr p _ h.2)⟩⟩
  |fz=>exact⟨h.1,.inl h.2⟩
  |al=>exact⟨h.1,.inr ⟨h.1.ne,h.2⟩⟩
  |sc=>exact h
theorem oh{v:V}{d:D}(Si:SI X F R τ ρ σ H)(es:aJ H H')(r:bN X.K (gP X F) R τ fv H H' v d):
  ∃R' τ',(∀p,R p->R' p)/\SI X F R' τ' (fu fv ρ) σ H'/\Rep (aT X.K H') (nd X.K R' (λ_=>False) (λ_=>none) H') [] v (aZ bo d):=by
 obtain⟨τt,fr,rp⟩:=r;obtain⟨R',τ',h1,h2,h3⟩:=uu (fv:=fv) Si es;exact⟨R',τ',h1,h2,Rep.ie (λ_ _ h=>h) (h3 τt fr) rp _⟩
theorem qo(Si:SI X F R τ ρ σ H)(es:aJ H H')(r:bY X.K (gP X F) R τ fv H H' vs ds):
  ∃R' τ',(∀p,R p->R' p)/\SI X F R' τ' (fu fv ρ) σ H'/\az (aT X.K H') (nd X.K R' (λ_=>False) (λ_=>none) H') [] 0 vs (aG bo ds):=by
 obtain⟨τt,fr,rp⟩:=r;obtain⟨R',τ',h1,h2,h3⟩:=uu (fv:=fv) Si es;exact⟨R',τ',h1,h2,az.ie (λ_ _ h=>h) (h3 τt fr) rp _ _⟩
theorem kb{v:V}{d:D}(h:Rep (aT X.K H) (nd X.K R (λ_=>False) (λ_=>none) H) [] v d):f9 X R τ' H v d:=⟨λ_=>none,λ_ _ h=>by simp at h,h⟩
open Classical in
theorem yw{e:CE}{v:V}{d:D}(Si:SI X F R τ ρ σ H)(es:aJ H H')(r:bN X.K (gP X F) R τ (fL e) H H' v d):
  ∃R' τ',(∀p,R p->R' p)/\SI X F R' τ' (keep e d ρ).2 σ H'/\f9 X R' τ' H' v (keep e d ρ).1:=by
 unfold keep;by_cases ha:aS bW d=true
 ·rw[if_pos ha];obtain⟨R',τ',h1,h2,h3⟩:=oh Si es r;exact⟨R',τ',h1,h2,kb h3⟩
 ·obtain⟨τt,fr,rp⟩:=r;rw[if_neg ha];refine⟨R,τ,λ_ h=>h,Si.go es,λp=>if H' p=none then none else τt p,λp q hq=>?_,?_⟩
  ·dsimp only at hq;split at hq
   ·cases hq
   ·rename_i hn;have hf:=fr p q hq;refine⟨?_,λhR=>Si.rh p hR hf,Si.same.free hf,hn⟩;cases z:τ p with
    |none=>rfl
    |some k=>exact absurd hf (Si.th p k z)
  ·have GP:aS bW d=false:=by simpa using ha
   have st:∀{k:aX} {v:V} {d:D},Rep (aT X.K H') (nd X.K R (gZ (gP X F) τ (fL e)) τt H') k v d->aS bW d=false->Rep (aT X.K H') (nd X.K R (λ_=>False) (λp=>if H' p=none then none else τt p) H') k v d:=by
    intro k v d h ha;exact Rep.iH (P:=bW) (λ_ _ h=>h) (λk p xs f hf h=>by
     cases f with
     |ow=>exact⟨h.1,by show(if H' p=none then none else τt p)=_;rw[if_neg (h.1.ne)];exact h.2⟩
     |fz=>exact h
     |al=>cases hf
     |sc=>exact h) h ha
   exact st rp GP
open Classical in
def tK(X:Cx)(F:ai)(Φ:aU)(c:CE):TE:=λσ H Q=>∃R τ ρ r,SI X F R τ ρ σ H/\gL Φ c ρ=ok r/\∀v H' R' τ',aJ H H'->(∀p,R p->R' p)->SI X F R' τ' r.2 σ H'->f9 X R' τ' H' v r.1->Q v H'
end
section
variable {T T':j6}{N N':gx}
theorem az.child{q:aX}(hT:∀p xs,T p xs->T' p xs)(hN:∀c m p xs f,N (c++(m::q)) p xs f->N' (c++(m::q)) p xs f):∀{n:Nat} {vs:ae} {ds:ab},az T N q n vs ds->az T' N' q n vs ds
 |_,_,_,.nil=>.nil
 |n,_,_,.cons h t=>.cons (Rep.imp (q:=n::q) (q':=n::q) hT (λc p xs f h=>hN c n p xs f h) h) (az.child hT hN t)
theorem az.C3{q:aX}{v:V}{d:D}:∀{n:Nat} {vs:ae} {ds:ab},az T N q n vs ds->Rep T N ((n+ds.length)::q) v d->az T N q n (vs++[v]) (ds++[d])
 |n,_,_,.nil,h=>.cons (by simpa using h) .nil
 |n,_,_,.cons (ds:=ds) h t,h'=>.cons h (az.C3 t (by
   have e:n+(ds.length+1)=n+1+ds.length:=by left
   rw[List.length_cons,e]at h';exact h'))
theorem az.setAt{q:aX}{v:V}{d:D}:∀{n j:Nat} {vs:ae} {ds:ab},az T N q n vs ds->Rep T N ((n+j)::q) v d->az T N q n (vs.set j v) (ds.set j d)
 |_,_,_,_,.nil,_=>by simp;exact .nil
 |_,0,_,_,.cons _ t,h'=>.cons (by simpa using h') t
 |n,j+1,_,_,.cons h t,h'=>.cons h (az.setAt (j:=j) t (by
   have e:n+(j+1)=n+1+j:=by left
   rw[e]at h';exact h'))
end
variable {d0:D}{n':Nd}
section
variable {X:Cx}{F R:ai}{τ:Addr->Option aX}{ρ:aY}{σ:St}{H:Hp}
theorem SI.own{i:Nat}(Si:SI X F R τ ρ σ H)(hi:ρ[i]?=some (some (.lst .ow ds))):∃p xs,σ[i]?=some (some (.ref p))/\H p=some (.lst xs)/\xs.length=ds.length/\τ p=some [i]/\az (aT X.K H) (nd X.K R (λ_=>False) τ H) [i] 0 xs ds:=by
 obtain⟨v,hv,rp⟩:=Si.rep i _ hi;cases rp with
 |lst h r=>exact⟨_,_,hv,h.1,r.length,h.2,r⟩
theorem xj{H:Hp}{p:Addr}{n:Nd}{o:HO}(hp:dm H p n){a:Addr}(h:aT K H a ys):aT K (upd H p o) a ys:=by
 obtain⟨o0,yK,K7,Iu⟩:=dm.some hp;have nO:∀a u,H a=some u->u≠o0->a≠p:=λa u e h z=>by subst z;rw[yK]at e;cases e;exact h rfl
 rcases h with (h|⟨o',h⟩)|h
 ·exact .inl (.inl (by rw[aQ (nO a _ h λz=>K7 _ z.symm)];exact h))
 ·exact .inl (.inr ⟨o',by rw[aQ (nO a _ h λz=>Iu _ _ z.symm)];exact h⟩)
 ·exact .inr h
theorem SI.OX{i m:Nat}{v:V}{d d1:D}{p:Addr}{n:Nd}{o:HO}(Si:SI X F R τ ρ σ H)(hi:ρ[i]?=some (some d0))(hv:σ[i]?=some (some (.ref p)))(hp:dm H p n)(ht:τ p=some [i])
  (rs:az (aT X.K H) (nd X.K R (λ_=>False) τ H) [i] 0 xs ds) (rk:f9 X R τ H v d) (zS:dm (upd H p o) p n')
  (mk:∀{N:gx},N [i] p n' .ow->az (aT X.K (upd H p o)) N [i] 0 xs' ds'->Rep (aT X.K (upd H p o)) N [i] (.ref p) d1)
  (hb:∀{N:gx},az (aT X.K (upd H p o)) N [i] 0 xs ds->Rep (aT X.K (upd H p o)) N (m::[i]) v d->az (aT X.K (upd H p o)) N [i] 0 xs' ds') :
  ∃τ',SI X F R τ' (ρ.set i (some d1)) σ (upd H p o)/\τ' p=some [i]/\az (aT X.K (upd H p o)) (nd X.K R (λ_=>False) τ' (upd H p o)) [i] 0 xs' ds':=by
 obtain⟨τt,hτ,rp⟩:=rk;have Nu:i<ρ.length:=by
  by_cases z:i<ρ.length
  ·exact z
  ·rw[List.getElem?_eq_none (by left)]at hi;cases hi
 obtain⟨o0,yK,K7,Iu⟩:=dm.some hp;have nR:∀a,R a->a≠p:=λa ha e=>by subst e;rw[Si.rt _ ha]at ht;cases ht
 have nT:∀a q,τt a=some q->a≠p:=λa q e z=>by subst z;rw[(hτ _ q e).1]at ht;cases ht
 have nO:∀a u,H a=some u->u≠o0->a≠p:=λa u e h z=>by subst z;rw[yK]at e;cases e;exact h rfl
 have keep:∀a,a≠p->(upd H p o) a=H a:=λa h=>aQ h;have GR:∀a ys,aT X.K H a ys->aT X.K (upd H p o) a ys:=λa ys h=>by
  rcases h with (h|⟨o',h⟩)|h
  ·exact .inl (.inl (by rw[keep a (nO a _ h λz=>K7 _ z.symm)];exact h))
  ·exact .inl (.inr ⟨o',by rw[keep a (nO a _ h λz=>Iu _ _ z.symm)];exact h⟩)
  ·exact .inr h
 have ND:∀a (z:Nd),a≠p->dm H a z->dm (upd H p o) a z:=λa z ne h=>h.at λu e=>by rw[keep a ne];exact e
 have SM:∀{τ1:Addr->Option aX} q q' a (z:Nd),nd X.K R (λ_=>False) τ1 H q a z .sc->∀τ2,nd X.K R (λ_=>False) τ2 (upd H p o) q' a z .sc:=λq q' a z h τ2=>by
  obtain⟨ys,rfl,h⟩:=h.xA;exact h.elim (λ⟨o',w⟩=>.inl ⟨o',by rw[keep a (nO a _ w λz=>Iu _ _ z.symm)];exact w⟩) .inr
 have SO:∀q a ys f,q≠[i]->nd X.K R (λ_=>False) τ H q a ys f->nd X.K R (λ_=>False) (λa=>match τt a with|some q=>some (q++[m,i])|none=>τ a) (upd H p o) q a ys f:=λq a ys f hq h=>by
  cases f with
  |ow =>
   have ne:a≠p:=λz=>by
    subst z;have:=h.2.symm.trans ht;exact hq (W4 this)
   refine⟨ND a ys ne h.1,?_⟩;cases z:τt a with
   |none=>simp only[z];exact h.2
   |some k=>have:=(hτ a k z).1;rw[h.2]at this;cases this
  |fz=>exact⟨ND a ys (nR a h.2) h.1,h.2⟩
  |al=>exact h.2.elim
  |sc=>exact SM q q a ys h _
 have Sq:(match τt p with|some q=>some (q++[m,i])|none=>τ p)=some [i]:=by
  cases z:τt p with
  |none=>exact ht
  |some k=>exact absurd rfl (nT p k z)
 have SN:az (aT X.K (upd H p o)) (nd X.K R (λ_=>False) (λa=>match τt a with|some q=>some (q++[m,i])|none=>τ a) (upd H p o)) [i] 0 xs' ds':=hb (az.child GR (λc n a ys f h=>SO _ a ys f (λz=>by
  have:=XE List.length z;simp at this) h) rs) (rp.imp (q:=[]) (q':=[m,i]) GR λc a ys f h=>by
  cases f with
  |ow =>
   rw[List.append_nil]at h;exact⟨ND a ys (nT a _ h.2) h.1,by simp only[h.2]⟩
  |fz=>exact⟨ND a ys (nR a h.2) h.1,h.2⟩
  |al=>exact h.2.elim
  |sc=>exact SM _ _ a ys h _)
 refine⟨λa=>match τt a with|some q=>some (q++[m,i])|none=>τ a,⟨by simp[Si.len],λj d' hj=>?_,λa ha=>?_,λa ha=>?_,Si.rf,λa q hq=>?_,λa q hq=>?_,?_⟩,Sq,SN⟩
 ·by_cases dN:j=i
  ·subst dN;rw[List.getElem?_set_self Nu]at hj;cases hj;exact⟨.ref p,hv,mk ⟨zS,Sq⟩ SN⟩
  ·rw[List.getElem?_set_ne (Ne.symm dN)]at hj;obtain⟨u,hu,ru⟩:=Si.rep j d' hj;refine⟨u,hu,ru.imp (q:=[j]) (q':=[j]) GR λc a ys f h=>SO _ a ys f (λz=>?_) h⟩;have:=XE List.getLast? z;simp at this;exact dN this
 ·cases z:τt a with
  |none=>simp only[z];exact Si.rt a ha
  |some k=>exact absurd ha (hτ a k z).2.1
 ·rw[keep a (nR a ha)];exact Si.rh a ha
 ·by_cases SJ:a=p
  ·subst SJ;rw[aV];simp
  ·rw[keep a SJ];cases z:τt a with
   |none=>simp only[z]at hq;exact Si.th a q hq
   |some k=>exact(hτ a k z).2.2.2
 ·cases z:τt a with
  |none=>simp only[z]at hq;exact Si.t0 a q hq
  |some k=>exact(hτ a k z).2.2.1
 ·intro a u e;have ne:a≠p:=λz=>by subst z;rw[Si.t0 _ _ ht]at e;cases e
  rw[keep a ne];exact Si.same a u e
theorem SI.JU{i m:Nat}{v:V}{d d1:D}{p:Addr}{n:Nd}{o:HO}(Si:SI X F R τ ρ σ H)(hi:ρ[i]?=some (some d0))(hv:σ[i]?=some (some (.ref p)))(hp:dm H p n)(ht:τ p=some [i])
  (rs:az (aT X.K H) (nd X.K R (λ_=>False) τ H) [i] 0 xs ds) (rk:f9 X R τ H v d) (zS:dm (upd H p o) p n')
  (mk:∀{N:gx},N [i] p n' .ow->az (aT X.K (upd H p o)) N [i] 0 xs' ds'->Rep (aT X.K (upd H p o)) N [i] (.ref p) d1)
  (hb:∀{N:gx},az (aT X.K (upd H p o)) N [i] 0 xs ds->Rep (aT X.K (upd H p o)) N (m::[i]) v d->az (aT X.K (upd H p o)) N [i] 0 xs' ds') :
  ∃τ',SI X F R τ' (ρ.set i (some d1)) σ (upd H p o):=(Si.OX hi hv hp ht rs rk zS mk hb).imp λ_ h=>h.1
theorem SI.put{i m:Nat}{v:V}{d:D}{g:ae->ae}{p:Addr}(Si:SI X F R τ ρ σ H)(hi:ρ[i]?=some (some (.lst .ow ds)))(hv:σ[i]?=some (some (.ref p)))(hp:H p=some (.lst xs))(ht:τ p=some [i])
  (rs:az (aT X.K H) (nd X.K R (λ_=>False) τ H) [i] 0 xs ds) (rk:f9 X R τ H v d)
  (hb:∀{N:gx},az (aT X.K (upd H p (.lst (g xs)))) N [i] 0 xs ds->Rep (aT X.K (upd H p (.lst (g xs)))) N (m::[i]) v d->az (aT X.K (upd H p (.lst (g xs)))) N [i] 0 (g xs) ds') :
  ∃τ',SI X F R τ' (ρ.set i (some (.lst .ow ds'))) σ (upd H p (.lst (g xs))) :=
 Si.JU (n:=.l xs) (n':=.l (g xs)) hi hv hp ht rs rk aV (λh r=>.lst h r) hb
end
theorem iu{env:Env}:∀(names:List (Str×NameKind)) (acc:List (Str×Addr)),(∀x,(x,NameKind.free)∈names->∃c,env.cells.lookup x=some c) ->
  ∃cl,(forIn names acc (λ(y:Str×NameKind) (cs:List (Str×Addr))=>do
    let (name,kind):=y
    let mut cs:=cs
    if kind==.free then cs:=(name,<- cellOf env name)::cs
    pure (ForInStep.yield cs)):Sem (List (Str×Addr)))=pure cl /\
   (∀x c,cl.lookup x=some c->acc.lookup x=some c\/(env.cells.lookup x=some c/\(x,NameKind.free)∈names))/\(∀x,((x,NameKind.free)∈names\/(∃c,acc.lookup x=some c))->∃c,cl.lookup x=some c)
 |[],acc,_=>⟨acc,rfl,λx c h=>.inl h,λx h=>h.elim (λh=>nomatch h) id⟩
 | (n,kd)::names,acc,h=>by
  by_cases hk:kd=.free
  ·subst hk;obtain⟨c,hc⟩:=h n WR;obtain⟨cl,e,h1,h2⟩:=iu names ((n,c)::acc) (λx hx=>h x (WT _ hx));refine⟨cl,?_,λx c' hx=>?_,λx hx=>?_⟩
   ·rw[List.forIn_cons];have e0:cellOf env n=pure c:=by unfold cellOf;rw[hc]
    simp only[beq_self_eq_true,if_true,e0,pure_bind];exact e
   ·rcases h1 x c' hx with z|z
    ·by_cases KU:x=n
     ·subst KU;simp at z;subst z;exact .inr ⟨hc,WR⟩
     ·rw[List.lookup_cons]at z;have:(x==n)=false:=by simpa using KU
      rw[this]at z;exact .inl z
    ·exact .inr ⟨z.1,WT _ z.2⟩
   ·refine h2 x ?_;rcases hx with hx|⟨c',hx⟩
    ·rcases List.mem_cons.mp hx with z|z
     ·cases z;exact .inr ⟨c,by simp⟩
     ·exact .inl z
    ·by_cases KU:x=n
     ·subst KU;exact .inr ⟨c,by simp⟩
     ·refine .inr ⟨c',?_⟩;rw[List.lookup_cons];have:(x==n)=false:=by simpa using KU
      rw[this];exact hx
  ·obtain⟨cl,e,h1,h2⟩:=iu names acc (λx hx=>h x (WT _ hx));have hb:(kd==NameKind.free)=false:=by simpa using hk
   refine⟨cl,?_,λx c' hx=>(h1 x c' hx).imp id λz=>⟨z.1,WT _ z.2⟩,λx hx=>h2 x ?_⟩
   ·rw[List.forIn_cons];simp only[hb,Bool.false_eq_true,if_false,pure_bind];exact e
   ·rcases hx with hx|hx
    ·rcases List.mem_cons.mp hx with z|z
     ·cases z;exact absurd rfl hk
     ·exact .inl z
    ·exact .inr hx
variable {env:Env}
theorem sv{sc:Scope}(h:∀x,(x,NameKind.free)∈sc.names->∃c,env.cells.lookup x=some c):
  ∃cl,closureFor sc env=pure cl/\(∀x c,cl.lookup x=some c->env.cells.lookup x=some c)/\(∀x,(x,NameKind.free)∈sc.names->∃c,cl.lookup x=some c):=by
 obtain⟨cl,e,h1,h2⟩:=iu (env:=env) sc.names [] h;refine⟨cl,?_,λx c hx=>(h1 x c hx).elim (λz=>by simp at z) (·.1),λx hx=>h2 x (.inl hx)⟩;unfold closureFor;simp only[bind_pure];exact e
variable {P prog:ax}{gN iter o target tg:Expr}{w:World}
theorem ox{A:ay}{R:Result->Shared->Prop}{s:Shared}{elt:Expr}{ifs:au}{scope:Scope}{it acc:Value}(I:Nat->Shared->Prop)
  (turn:∀n s,I n s->wpAny (model prog w) A (pyNext it) (λr s₁=>match r with
   |none=>R (.ok .next) s₁
   |some v=>wpAny (model prog w) A (letOwnedTupleGo target it v) (λ_ s₁=>wpAny (model prog w) A (assign target env v) (λ_ s₂ =>
     wpAny (model prog w) A (forIn ifs true λc r=>if r=true then do let ok <- isTrue c env (eval c env);pure (ForInStep.yield ok)else pure (ForInStep.yield r)) (λok s₃ =>
      if ok=true then wpAny (model prog w) A (eval elt env) (λx s₄ =>
       wpAny (model prog w) A (call (.builtin "list.append") [acc,x]) (λ_ s₅=>∃m,m<n/\I m s₅) (λ_ _=>False) s₄) (λ_ _=>False) s₃
      else ∃m,m<n/\I m s₃) (λ_ _=>False) s₂) (λ_ _=>False) s₁) (λ_ _=>False) s₁) (λ_ _=>False) s)
  (n:Nat) (h:I n s) :
  codeAny (model prog w) A (.compLoop (.ListComp elt [⟨target,iter,ifs,0⟩] scope pos) 0 it acc env) R s:=by
 refine codeAny_loop rfl I (λn s hI=>?_) n h;show wpAny _ A ((compTurn (.ListComp elt [⟨target,iter,ifs,0⟩] scope pos) 0 it acc env).onRaise (λx=>do noteFrame x env;theTreesLotGoes x)) _ _ s;refine wpAny_noted ?_;rw[compTurn_list];refine WN (Yd (WN (W7 (turn n s hI) (λr s₁ h₁=>?_) λ_ _ h'=>h'.elim)));cases r with
 |none=>exact WU h₁
 |some v =>
  refine WN (W7 h₁ (λ_ s₂ h₂=>?_) λ_ _ h'=>h'.elim);refine WN (W7 h₂ (λ_ s₂ h₂=>WN (W7 h₂ (λok s₃ h₃=>?_) λ_ _ h'=>h'.elim)) λ_ _ h'=>h'.elim);cases ok with
  |false=>exact WU ⟨rfl,h₃⟩
  |true =>
   exact WN (WN (W7 h₃ (λx s₄ h₄=>WN (W7 h₄ (λ_ s₅ h₅=>WU (WU ⟨rfl,h₅⟩)) λ_ _ h'=>h'.elim)) λ_ _ h'=>h'.elim))
noncomputable def di(X:Cx)(N':av)(scope:Scope)(cl:List (Str×Addr))(C:Addr)(s₀:Shared)(H₀:Hp)(fp:aO):Cx :=
 { X with N:=N',s₀:=s₀,H₀:=H₀,env:=compEnvC scope cl C X.env,outer:=X.stack,stack:=X.stack,ex:=fp,fn:=λ_=>false,pn:=[],xe:=λ_ _=>False }
theorem eB{env:Env}:∀{names:List (Str×NameKind)} {x:Str} {kd:NameKind},(names.map λ(n,k)=>if (k==NameKind.free&&env.scope.kind==.function&&env.kindOf n==some .cell)then(n,NameKind.cell)else(n,k)).lookup x=some kd ->
  names.lookup x=some kd\/(kd=.cell/\names.lookup x=some .free)
 |[],_,_,h=>by simp at h
 | (n,k)::r,x,kd,h=>by
  rw[List.map_cons]at h;cases hx:x==n with
  |true =>
   by_cases hc:(k==NameKind.free&&env.scope.kind==.function&&env.kindOf n==some .cell)=true
   ·simp only[hc,if_true,List.lookup_cons,hx]at h;cases h;simp only[Bool.and_eq_true,beq_iff_eq]at hc;refine .inr ⟨rfl,?_⟩;rw[List.lookup_cons,hx,hc.1.1]
   ·have um:(k==NameKind.free&&env.scope.kind==.function&&env.kindOf n==some .cell)=false:=by simpa using hc
    simp only[um,Bool.false_eq_true,if_false,List.lookup_cons,hx]at h;cases h;exact .inl (by rw[List.lookup_cons,hx])
  |false =>
   have:List.lookup x (r.map λ(n,k)=>if (k==NameKind.free&&env.scope.kind==.function&&env.kindOf n==some .cell)then(n,NameKind.cell)else(n,k))=some kd:=by
    by_cases hc:(k==NameKind.free&&env.scope.kind==.function&&env.kindOf n==some .cell)=true
    ·simp only[hc,if_true,List.lookup_cons,hx]at h;exact h
    ·have um:(k==NameKind.free&&env.scope.kind==.function&&env.kindOf n==some .cell)=false:=by simpa using hc
     simp only[um,Bool.false_eq_true,if_false,List.lookup_cons,hx]at h;exact h
   rw[List.lookup_cons,hx];exact eB this
theorem cI{env:Env}:∀{names:List (Str×NameKind)} {x:Str},names.lookup x=some .free ->
  (names.map λ(n,k)=>if (k==NameKind.free&&env.scope.kind==.function&&env.kindOf n==some .cell)then(n,NameKind.cell)else(n,k)).lookup x=some .free \/
  (names.map λ(n,k)=>if (k==NameKind.free&&env.scope.kind==.function&&env.kindOf n==some .cell)then(n,NameKind.cell)else(n,k)).lookup x=some .cell
 |[],_,h=>by simp at h
 | (n,k)::r,x,h=>by
  rw[List.map_cons];cases hx:x==n with
  |true =>
   rw[List.lookup_cons,hx]at h;cases h;by_cases hc:(NameKind.free==NameKind.free&&env.scope.kind==.function&&env.kindOf n==some .cell)=true
   ·simp only[hc,if_true,List.lookup_cons,hx];exact .inr trivial
   ·have um:(NameKind.free==NameKind.free&&env.scope.kind==.function&&env.kindOf n==some .cell)=false:=by simpa using hc
    simp only[um,Bool.false_eq_true,if_false,List.lookup_cons,hx];exact .inl trivial
  |false =>
   rw[List.lookup_cons,hx]at h;by_cases hc:(k==NameKind.free&&env.scope.kind==.function&&env.kindOf n==some .cell)=true
   ·simp only[hc,if_true,List.lookup_cons,hx];exact cI h
   ·have um:(k==NameKind.free&&env.scope.kind==.function&&env.kindOf n==some .cell)=false:=by simpa using hc
    simp only[um,Bool.false_eq_true,if_false,List.lookup_cons,hx];exact cI h
theorem cS{names:List (Str×NameKind)}{x:Str}{kd:NameKind}(h:names.lookup x=some kd):(x,kd)∈names:=Xr h
structure iD(S:Sx)(n:Nat)(t:Tg)(caps:aH)(target:Expr)(sc:Scope):Prop where
 kind:sc.kind=.function
 jn:∀y∈sc.names,y.2≠.cell
 loc:∀y∈sc.names,y.2=.local->sc.names.lookup y.1=some .local
 free:∀x,(x,NameKind.free)∈sc.names->S.sc.names.lookup x=some .cell\/S.sc.names.lookup x=some .free
 n:n=(bL target).length
 tl:∀x∈bL target,sc.names.lookup x=some .local
 nd:(bL target++e_ S caps).Nodup
 eK:∀i∈caps,∃x,S.N[i]?=some x/\sc.names.lookup x=some .free
 tg:(∃x p,t=.nm 0/\target=.Name x p)\/(∃es k p,t=.tp (List.range es.length)/\target=.Tuple es k p/\es.all isNm=true)
set_option tactic.hygienic true in
theorem m7{n:Nat}{t:Tg}{sc:Scope}(h:oD S n t caps target sc=true):iD S n t caps target sc:=by
 unfold oD at h;simp only[Bool.and_eq_true,decide_eq_true_eq,List.all_eq_true,Bool.or_eq_true]at h;obtain⟨⟨⟨⟨⟨⟨h1,h2⟩,h3⟩,h4⟩,h5⟩,h6⟩,h7⟩:=h;refine⟨h1,λy hy=>(h2 y hy).1.1,λy hy hk=>?_,λx hx=>?_,h3,h4,h5,λi hi=>?_,?_⟩
 ·rcases(h2 y hy).1.2 with z|z
  ·exact absurd hk z
  ·exact z
 ·rcases(h2 _ hx).2 with (z|z)|z
  ·exact absurd rfl z
  ·exact .inl z
  ·exact .inr z
 ·have:=h6 i hi;split at this
  ·rename_i x e;exact⟨x,e,WO this⟩
  ·cases this
 ·cases t with
  |nm i =>
   obtain⟨g1,g2⟩:=aI h7;obtain rfl:i=0:=WO g1;obtain⟨x,p,rfl⟩:=ki g2;exact .inl ⟨x,p,rfl,rfl⟩
  |tp is =>
   obtain⟨es,hv,g⟩:=bp h7;obtain⟨k,p,rfl⟩:=iJ hv;obtain⟨g1,g2⟩:=aI g;obtain rfl:is=_:=WO g1;exact .inr ⟨es,k,p,rfl,rfl,g2⟩
theorem qE{S:Sx}:∀{caps:aH},(∀i∈caps,∃x,S.N[i]?=some x)->(e_ S caps).length=caps.length/\∀(j i:Nat),caps[j]?=some i->(e_ S caps)[j]?=S.N[i]?
 |[],_=>⟨rfl,λj i h=>by simp at h⟩
 |i::caps,h=>by
  obtain⟨x,hx⟩:=h i WR;obtain⟨h1,h2⟩:=qE (caps:=caps) λj hj=>h j (WT _ hj);have e:e_ S (i::caps)=x::e_ S caps:=by unfold e_;rw[List.filterMap_cons,hx]
  rw[e];refine⟨by simp[h1],λj k hj=>?_⟩;cases j with
  |zero=>simp at hj;subst hj;simp[hx]
  |succ j=>simp at hj ⊢;exact h2 j k hj
variable {fp:aO}
section
variable {X:Cx}{S:Sx}{k:Nat}{Φ:aU}{pins:ak}{σ:St}{H2:Hp}{s₂:Shared}
noncomputable def mh(n:Nat)(caps:aH)(σ:St):St:=List.replicate n none++caps.map λi=>σ[i]?.getD none
noncomputable def dz(its:ag)(n:Nat):Obj:={ cls:=.type "list",data:=.seq its.toArray n }
theorem Cd{n:Nat}{t:Tg}{sc:Scope}{cl:List (Str×Addr)}(L:Lk X S k Φ)(co:iD S n t caps target sc)(I2:Inv X pins σ H2 s₂)
  (jZ:∀x c,cl.lookup x=some c->X.env.cells.lookup x=some c) (r9:∀x,(x,NameKind.free)∈sc.names->∃c,cl.lookup x=some c) (yM:∀b∈fp,l5 X pins H2 b) (GF:∀b∈fp,b<s₂.heap.objs.size) :
  (di X (bL target++e_ S caps) sc cl (s₂.heap.objs.size+1) s₂ H2 fp).Ok:=by
 have PQ:=I2.jg;refine⟨I2.ok.mod,co.kind,I2.ok.glob,I2.ok.blt,YA _,λx y c h1 h2=>I2.ok.inj x y c (jZ x c h1) (jZ y c h2),λx hx=>?_,(λ_ _ z=>by cases z),I2.ok.hd,I2.ok.frames,.inl rfl,λb hb=>⟨?_,λx c e=>(yM b hb).2.2.2.2.1 x c (jZ x c e)⟩,I2.bs,Xb I2.ok.DL I2.sz,λb o e hb=>?_,λb hb z=>?_,I2.stack,I2.tj,I2.BY.tab⟩
 ·have ui:(relabel sc X.env).names.lookup x=some .cell\/(relabel sc X.env).names.lookup x=some .free:=hx;rcases ui with ui|ui
  ·rcases eB ui with z|z
   ·exact absurd rfl (co.jn _ (cS z))
   ·exact r9 x (cS z.2)
  ·rcases eB ui with z|z
   ·exact r9 x (cS z)
   ·cases z.1
 ·exact W2 (Xa (GF b hb))
 ·rcases(yM b hb).2.2.2.1 with z|z
  ·exact I2.ok.x9 b o e z
  ·exact absurd (WY (WX e) (Xb I2.ok.DL z)) (Xh _)
 ·rcases List.mem_cons.mp (PQ b z)with w|w
  ·exact(yM b hb).2.1 w
  ·exact(yM b hb).2.2.1 w
theorem yG{n:Nat}{t:Tg}{sc:Scope}{cl:List (Str×Addr)}{h₁:Heap}{tk:Nat}(L:Lk X S k Φ)(co:iD S n t caps target sc)(I2:Inv X pins σ H2 s₂)
  (jZ:∀x c,cl.lookup x=some c->X.env.cells.lookup x=some c) (r9:∀x,(x,NameKind.free)∈sc.names->∃c,cl.lookup x=some c) (yM:∀b∈fp,l5 X pins H2 b) (GF:∀b∈fp,b<s₂.heap.objs.size)
  (qi:h₁.Ns (s₂.heap.objs.size+1) λ_=>none) (old:∀b o,s₂.heap.get? b=some o->h₁.get? b=some o) (fJ:h₁.get? s₂.heap.objs.size=some (dz [] 0)) :
  Inv (di X (bL target++e_ S caps) sc cl (s₂.heap.objs.size+1) s₂ H2 fp) [(s₂.heap.objs.size,dz [] 0)] (mh n caps σ) H2 { s₂ with heap:=h₁,toks:=tk }:=by
 have n9:∀i∈caps,∃x,S.N[i]?=some x:=λi hi=>let ⟨x,e,_⟩:=co.eK i hi;⟨x,e⟩;obtain⟨V3,V2⟩:=qE n9;refine⟨Cd L co I2 jZ r9 yM GF,rfl,I2.bare,Un.kept old,⟨_,qi,λi x v e1 e2 e3=>?_⟩,λx c e=>?_,I2.ck.fresh (YA _),λx c e=>I2.gp x c (jZ x c e),λp hp=>?_,I2.ck.kept old,?_⟩
 ·unfold mh at e2;have hi:n<=i:=by
   by_cases hi:i<n
   ·rw[List.getElem?_append_left (by simpa using hi),List.getElem?_replicate,if_pos hi]at e2;cases e2
   ·left
  have DH:(bL target++e_ S caps)[i]?=some x:=e1;rw[List.getElem?_append_right (by rw[<- co.n];exact hi),<- co.n]at DH;rw[List.getElem?_append_right (by simpa using hi),List.length_replicate,List.getElem?_map]at e2;cases hc:caps[i - n]? with
  |none=>rw[hc]at e2;cases e2
  |some ci =>
   rw[hc]at e2;rw[V2 _ _ hc]at DH;obtain⟨x',L1,Nv⟩:=co.eK ci (Xd hc);rw[L1]at DH;cases DH;have VZ:σ[ci]?=some (some v):=by
    have L9:σ[ci]?.getD none=some v:=W4 e2;cases q:σ[ci]? with
    |none=>rw[q]at L9;cases L9
    |some o=>rw[q]at L9;simp at L9;rw[L9]
   have PK:DS X.env.scope x:=by
    unfold DS;rw[L.sc];rcases co.free x (cS Nv)with z|z
    ·exact .inr (.inl z)
    ·exact .inr (.inr z)
   obtain⟨m,hn,hl⟩:=I2.loc;obtain⟨u,r,lk⟩:=hl ci x v (by rw[L.N];exact L1) VZ PK;refine⟨u,r,.inr ⟨?_,?_⟩⟩
   ·rcases cI (env:=X.env) Nv with z|z
    ·exact .inr z
    ·exact .inl z
   ·have Vi:∃c,X.env.cells.lookup x=some c/\s₂.heap.IsCell c (some u):=by
     rcases lk with ⟨z,_⟩|⟨_,z⟩
     ·have z':X.env.scope.names.lookup x=some .local:=z;rw[L.sc]at z';rcases co.free x (cS Nv)with w|w<;>(rw[w]at z';cases z')
     ·exact z
    obtain⟨c,ec,o,ho,hd⟩:=Vi;obtain⟨c',S5⟩:=r9 x (cS Nv);have:=jZ x c' S5;rw[ec]at this;cases this;exact⟨c,S5,o,old _ _ ho,hd⟩
 ·obtain⟨v,o,ho,hd⟩:=I2.cell x c (jZ x c e);exact⟨v,o,old _ _ ho,hd⟩
 ·have qO:p=(s₂.heap.objs.size,dz [] 0):=by simpa [di]using hp
  subst qO;refine⟨fJ,I2.ck.fresh (WV _),W2 (XI _),λz=>?_,λv z=>by cases z⟩;rcases List.mem_cons.mp (I2.jg _ z)with w|w
  ·exact absurd w (Xv I2.lt)
  ·exact I2.FN (WV _) w
 ·show(mh n caps σ).length=(bL target++e_ S caps).length;unfold mh;rw[List.length_append,List.length_append,List.length_replicate,List.length_map,V3,co.n]
end
theorem az.snoc{T:j6}{N:gx}{k:aX}:∀{n:Nat} {vs:ae} {ds:ab} {v:V} {d:D},az T N k n vs ds->Rep T N ((n+ds.length)::k) v d->az T N k n (vs++[v]) (ds++[d])
 |n,_,_,_,_,.nil,h=>.cons h .nil
 |n,_,_,_,_,.cons (ds:=ds) h t,r=>.cons h (az.snoc t (by
  have e:n+(ds.length+1)=n+1+ds.length:=by left
  rw[List.length_cons,e]at r;exact r))
open Classical in
theorem bY.snoc{K:ao}{G R:ai}{τ:Addr->Option aX}{fv:aH}{H H1 H2:Hp}{v:V}{d:D}{vs:ae}{ds:ab}(e1:aJ H H1)(e2:aJ H1 H2)(h:bY K G R τ fv H H1 vs ds)(t:bN K G R τ fv H1 H2 v d):
  bY K G R τ fv H H2 (vs++[v]) (ds++[d]):=by
 obtain⟨τ1,f1,h1⟩:=h;obtain⟨τ2,f2,h2⟩:=t;refine⟨λp=>if H1 p=none then(τ2 p).map (· ++ [ds.length])else τ1 p,λp q hq=>?_,az.snoc (h1.imp (q:=[]) (q':=[]) (λ_ _ h=>aT.same e2 h) λc p xs f h=>?_) ((Nat.zero_add ds.length).symm▸h2.imp (q:=[]) (q':=[ds.length]) (λ_ _ h=>h) λc p xs f h=>?_)⟩
 ·dsimp only at hq;by_cases hp:H1 p=none
  ·exact e1.free hp
  ·rw[if_neg hp]at hq;exact f1 p q hq
 ·have h':=nd.same e2 h;cases f with
  |ow =>
   refine⟨h'.1,?_⟩;show(if H1 p=none then(τ2 p).map (· ++ [ds.length])else τ1 p)=_;rw[if_neg (h.1.ne)];exact h.2
  |fz=>exact h'
  |al=>exact h'
  |sc=>exact h'
 ·cases f with
  |ow =>
   refine⟨h.1,?_⟩;show(if H1 p=none then(τ2 p).map (· ++ [ds.length])else τ1 p)=_;rw[if_pos (f2 p _ h.2),h.2];simp
  |fz=>exact h
  |al=>exact h
  |sc=>exact h
structure Yl(K:ao)(J:It)(R:ai)(H1:Hp)(items:ab):Prop where
 go:∀i H',aJ H1 H'->i<items.length->J.go i H'
 qM:∀i H' x kH,aJ H1 H'->i<items.length->J.qM i H' x kH->aJ H' kH/\∃d,items[i]?=some d/\Rep (aT K kH) (nd K R (λ_=>False) (λ_=>none) kH) [] x d
 stop:∀i H',aJ H1 H'->items.length<=i->J.stop i H'
variable {C:Addr}{s₂:Shared}
section
variable {X:Cx}{S:Sx}{k:Nat}{F:ai}{Φ:aU}
def ji(X:Cx)(F:ai)(τ:Addr->Option aX)(fv:aH)(H2:Hp)(p:Addr):Prop:=H2 p≠none/\gZ (gP X F) τ fv p
theorem rn(Si:SI X F R τ ρ σ H)(fr:∀p q,τt p=some q->H p=none)(hs:∀i∈fv,i∈fv')(kp kq:aX)(p:Addr)(xs:Nd)(f:Fl)
  (h:nd X.K R (gZ (gP X F) τ fv) τt H2 kp p xs f):nd X.K (ji X F τ fv' H2) (λ_=>False) (λ_=>none) H2 kq p xs (bo f):=by
 cases f with
 |ow=>exact⟨h.1,h.1.ne,.inr (Si.same.free (fr p _ h.2)),λc i e=>absurd (fr p _ h.2) (Si.th p _ e)⟩
 |fz=>exact⟨h.1,h.1.ne,Si.rf p h.2,λc i e=>by rw[Si.rt p h.2]at e;cases e⟩
 |al=>exact⟨h.1,h.1.ne,h.2.mono hs⟩
 |sc=>exact h
theorem z4{a:Addr}{q:aX}(hl:de X.K H1 a xs)(rs:az (aT X.K H1) (nd X.K R (λ_=>False) (λ_=>none) H1) q 0 xs items):Yl X.K (IJ X.K a) R H1 items where
 go:=λi H' e hi=>⟨xs,xs[i]'(by rw[rs.length];exact hi),e.seq hl,W3 _⟩
 qM:=λi H' x kH e hi y=>by
  obtain⟨rfl,y⟩:=y;obtain⟨d,hd,rd⟩:=rs.yW (y xs (e.seq hl));refine⟨aJ.refl _,d,hd,?_⟩;have:=Rep.ie (g:=id) (λ_ _ h=>h) nd.qp rd [];rw[dS]at this;exact this.imp (λ_ _ h=>aT.same e h) λ_ _ _ _ h=>nd.same e h
 stop:=λi H' e hi=>⟨xs,e.seq hl,by rw[rs.length];exact hi⟩
theorem DZ{a:Addr}{q:aX}(hl:aT X.K H1 a xs)(rs:az (aT X.K H1) (nd X.K R (λ_=>False) (λ_=>none) H1) q 0 xs items):Yl X.K (II X.K a) R H1 items where
 go:=λi H' e hi=>⟨xs,xs[i]'(by rw[rs.length];exact hi),aT.same e hl,W3 _⟩
 qM:=λi H' x kH e hi y=>by
  obtain⟨rfl,y⟩:=y;obtain⟨d,hd,rd⟩:=rs.yW (y xs (aT.same e hl));refine⟨aJ.refl _,d,hd,?_⟩;have:=Rep.ie (g:=id) (λ_ _ h=>h) nd.qp rd [];rw[dS]at this;exact this.imp (λ_ _ h=>aT.same e h) λ_ _ _ _ h=>nd.same e h
 stop:=λi H' e hi=>⟨xs,aT.same e hl,by rw[rs.length];exact hi⟩
theorem D0{lo:Int}{n:Nat}:Yl X.K (wq lo n) R H1 ((List.range n).map λ(k:Nat)=>D.int (lo+(k:Int))) where
 go:=λi H' e hi=>by simpa [wq]using hi
 qM:=λi H' x kH e hi y=>by
  obtain⟨rfl,rfl⟩:=y;have jM:i<n:=by simpa using hi
  exact⟨aJ.refl _,.int (lo+i),by rw[List.getElem?_map,List.getElem?_range jM];rfl,.int _⟩
 stop:=λi H' e hi=>by simpa [wq]using hi
theorem xp{n:Nat}{t:Tg}{sc:Scope}{cl:List (Str×Addr)}(Si:SI X F R τ ρ σ H2)(hs:∀i∈caps,i∈fv):
  SI (di X (bL target++e_ S caps) sc cl C s₂ H2 fp) (gZ (gP X F) τ fv) (ji X F τ fv H2) (λ_=>none) (bE n caps ρ) (mh n caps σ) H2:=by
 refine⟨by simp[bE,mh],λi d hi=>?_,λ_ _=>rfl,λp h=>h.1,λp h=>.inl h.2,λ_ _ h=>by simp at h,λ_ _ h=>by simp at h,aJ.refl _⟩;unfold bE at hi;have hn:n<=i:=by
  by_cases hn:i<n
  ·rw[List.getElem?_append_left (by simpa using hn),List.getElem?_replicate,if_pos hn]at hi;cases hi
  ·left
 rw[List.getElem?_append_right (by simpa using hn),List.length_replicate,List.getElem?_map]at hi;cases hc:caps[i - n]? with
 |none=>rw[hc]at hi;exact nk hi
 |some ci =>
  rw[hc]at hi;have jM:(ρ[ci]?.getD none).map (aZ bo)=some d:=W4 hi;have hr:∃d0,ρ[ci]?=some (some d0)/\aZ bo d0=d:=by
   cases q:ρ[ci]? with
   |none=>rw[q]at jM;cases jM
   |some o =>
    cases o with
    |none=>rw[q]at jM;cases jM
    |some d0=>rw[q]at jM;exact⟨d0,rfl,W4 jM⟩
  obtain⟨d0,h0,rfl⟩:=hr;obtain⟨v,hv,rv⟩:=Si.rep ci d0 h0;refine⟨v,?_,Rep.ie (λ_ _ h=>h) (λkp kq p xs f h=>?_) ((rv.imp (q:=[ci]) (q':=[ci]) (N':=λq p xs f=>nd X.K R (λ_=>False) τ H2 q p xs f/\(f=.ow->∃c,q=c++[ci])) (λ_ _ h=>h) λc p xs f h=>⟨h,λ_=>⟨c,rfl⟩⟩)) [i]⟩
  ·unfold mh;rw[List.getElem?_append_right (by simpa using hn),List.length_replicate,List.getElem?_map,hc];simp[hv]
  ·obtain⟨h,hq⟩:=h;cases f with
   |ow =>
    obtain⟨c,rfl⟩:=hq rfl;refine⟨h.1,h.1.ne,.inr (Si.t0 p _ h.2),λc' i' e=>?_⟩;rw[h.2]at e;have:=XE List.getLast? (W4 e);simp at this;subst this;exact hs _ (Xd hc)
   |fz=>exact⟨h.1,h.1.ne,Si.rf p h.2,λc i e=>by rw[Si.rt p h.2]at e;cases e⟩
   |al=>exact h.2.elim
   |sc=>exact h
theorem ya:∀{es:au},es.all isNm=true->∃xs:List (Str×Pos),es=xs.map λx=>Expr.Name x.1 x.2
 |[],_=>⟨[],rfl⟩
 |e::es,h=>by
  rw[List.all_cons,Bool.and_eq_true]at h;obtain⟨xs,rfl⟩:=ya h.2;obtain⟨x,p,rfl⟩:=ki h.1;exact⟨(x,p)::xs,rfl⟩
theorem rb(xs:List (Str×Pos)):(xs.map λx=>Expr.Name x.1 x.2).filterMap (λe=>match e with|.Name x _=>some x|_=>none)=xs.map (·.1):=by
 induction xs with
 |nil=>rfl
 |cons x xs ih=>simp[ih]
def yY(i:Nat):Nat->Cz
 |0=>GZ
 |n+1=>yZ (mW i) (yY (i+1) n)
theorem tT{X:Cx}(hN:X.N.Nodup):∀(xs:List (Str×Pos)) (i:Nat),(∀(j:Nat) x,xs[j]?=some x->X.N[i+j]?=some x.1/\X.env.scope.names.lookup x.1=some .local) ->
  IH X (xs.map λx=>Expr.Name x.1 x.2) (yY i xs.length)/\(assignEach (xs.map λx=>Expr.Name x.1 x.2) X.env).length=xs.length/\(assignEach (xs.map λx=>Expr.Name x.1 x.2) X.env).findIdx? (·.1)=none
 |[],_,_=>⟨tS,rfl,rfl⟩
 |x::xs,i,h=>by
  obtain⟨h1,h2,h3⟩:=tT hN xs (i+1) λj y hy=>by
   have:=h (j+1) y (by simpa using hy)
   rwa [show i+(j+1)=i+1+j by left]at this
  obtain⟨g1,g2⟩:=h 0 x rfl;refine⟨pV (nM hN g1 (.inl g2) (.inr g2)) h1 rfl,?_,?_⟩
  ·show(_::assignEach _ X.env).length=_;rw[List.length_cons,h2];rfl
  ·show(((false,assign (.Name x.1 x.2) X.env)::assignEach (xs.map λx=>Expr.Name x.1 x.2) X.env)).findIdx? (·.1)=none;rw[List.findIdx?_cons];simp[h3]
end
section
variable {X:Cx}{F R:ai}{τ:Addr->Option aX}{ρ:aY}{σ σ':St}{H:Hp}
theorem SI.JD{i:Nat}{v:V}{d:D}(Si:SI X F R τ ρ σ H)(rp:Rep (aT X.K H) (nd X.K R (λ_=>False) (λ_=>none) H) [] v d)(hi:i<ρ.length):SI X F R τ (ρ.set i (some d)) (σ.set i (some v)) H:=by
 refine⟨by simp[Si.len],λj d' hj=>?_,Si.rt,Si.rh,Si.rf,Si.th,Si.t0,Si.same⟩;by_cases dN:j=i
 ·subst dN;rw[List.getElem?_set_self hi]at hj;cases hj;refine⟨v,List.getElem?_set_self (by rw[<- Si.len];exact hi),rp.imp (q':=[j]) (λ_ _ h=>h) λc p xs f h=>?_⟩;cases f with
  |ow=>exact nomatch h.2
  |fz=>exact h
  |al=>exact h
  |sc=>exact h
 ·rw[List.getElem?_set_ne (Ne.symm dN)]at hj;obtain⟨w,hw,h_⟩:=Si.rep j d' hj;exact⟨w,by rw[List.getElem?_set_ne (Ne.symm dN)];exact hw,h_⟩
theorem SI.sig(Si:SI X F R τ ρ σ H)(hl:σ'.length=σ.length)(h:∀(i:Nat) d,ρ[i]?=some (some d)->σ'[i]?=σ[i]?):SI X F R τ ρ σ' H :=
 ⟨by rw[hl];exact Si.len,λi d hi=>let ⟨v,hv,r⟩:=Si.rep i d hi;⟨v,by rw[h i d hi];exact hv,r⟩,Si.rt,Si.rh,Si.rf,Si.th,Si.t0,Si.same⟩
theorem kT{Q:St->Hp->Prop}(σ0:St)(hi:Nat):∀{m i:Nat} {vs:ae} {ds:ab} {kp:aX} {q:Nat} {σ:St} {ρ ρ':aY},i+m=hi->az (aT X.K H) (nd X.K R (λ_=>False) (λ_=>none) H) kp q vs ds->SI X F R τ ρ σ H->fg (List.range' i m) ds ρ=ok ρ' ->
  σ.length=σ0.length->(∀j,hi<=j->σ[j]?=σ0[j]?)->(∀σ',σ'.length=σ0.length->(∀j,hi<=j->σ'[j]?=σ0[j]?)->SI X F R τ ρ' σ' H->Q σ' H)->yY i m vs σ H Q
 |0,_,_,_,_,_,σ,_,_,_,.nil,Si,e,h1,h2,hq=>by
  cases e;exact⟨rfl,hq σ h1 h2 Si⟩
 |0,_,_,_,_,_,_,_,_,_,.cons _ _,_,e,_,_,_=>by cases e
 |m+1,_,_,_,_,_,_,_,_,_,.nil,_,e,_,_,_=>by cases e
 |m+1,i,_,_,_,_,σ,ρ,_,him,.cons (v:=v) (d:=d) h t,Si,e,h1,h2,hq=>by
  change (if _ then _ else _)=_ at e;split at e
  ·rename_i jM;have eU:=Si.JD (i:=i) (Rep.nW h) jM;refine⟨_,_,rfl,kT σ0 hi (by left) t eU e (by simpa using h1) (λj hj=>?_) hq⟩;rw[List.getElem?_set_ne (by left)];exact h2 j hj
  ·cases e
end
section
variable {X:Cx}{S:Sx}{k:Nat}{F:ai}{Φ:aU}
set_option tactic.hygienic true in
theorem Eh{n:Nat}{t:Tg}{sc:Scope}{cl:List (Str×Addr)}(Lz:X.calm=true)(co:iD S n t caps target sc):
  ∃g,PG (di X (bL target++e_ S caps) sc cl C s₂ H2 fp) target g/\∀(F' R':ai) (x:V) (d:D) (σ':St) (kH:Hp) (Q:St->Hp->Prop) (ρb ρ1:aY),
   SI (di X (bL target++e_ S caps) sc cl C s₂ H2 fp) F' R' (λ_=>none) ρb σ' kH->Rep (aT X.K kH) (nd X.K R' (λ_=>False) (λ_=>none) kH) [] x d->aS cD d=false->cm t d ρb=ok ρ1 ->
   (∀σ2,σ2.length=σ'.length->(∀j,n<=j->σ2[j]?=σ'[j]?)->SI (di X (bL target++e_ S caps) sc cl C s₂ H2 fp) F' R' (λ_=>none) ρ1 σ2 kH->Q σ2 kH)->g x σ' kH Q:=by
 have Gy:∀x∈bL target,(relabel sc X.env).names.lookup x=some .local:=λx hx=>lookup_relabel_local (co.tl x hx);rcases co.tg with ⟨x,p,rfl,rfl⟩|⟨es,kk,p,rfl,rfl,vO⟩
 ·have hn:n=1:=co.n;subst hn;refine⟨mW 0,nM co.nd rfl (.inl (Gy x (List.mem_singleton.mpr rfl:x∈[x]))) (.inr (Gy x (List.mem_singleton.mpr rfl:x∈[x]))),λF' R' v d σ' kH Q ρb ρ1 Si rp _ e hq=>?_⟩;simp only[cm]at e;split at e
  ·rename_i hi;cases e;refine hq _ (by simp) (λj hj=>?_) (Si.JD rp hi);rw[List.getElem?_set_ne (by left)]
  ·cases e
 ·obtain⟨xs,rfl⟩:=ya vO;have hN:bL (.Tuple (xs.map λx=>Expr.Name x.1 x.2) kk p)=xs.map (·.1):=rb xs;have hn:n=xs.length:=by rw[co.n,hN,List.length_map]
  have:=tT (X:=di X (bL (.Tuple (xs.map λx=>Expr.Name x.1 x.2) kk p)++e_ S caps) sc cl C s₂ H2 fp) co.nd xs 0 (λj y hy=>by
   refine⟨?_,Gy y.1 (by rw[hN];exact List.mem_map.mpr ⟨y,Xd hy,rfl⟩)⟩;show(bL (.Tuple (xs.map λx=>Expr.Name x.1 x.2) kk p)++e_ S caps)[0+j]?=_;have hj:j<xs.length:=by
    by_cases hj:j<xs.length
    ·exact hj
    ·rw[List.getElem?_eq_none (by left)]at hy;cases hy
   rw[hN,Nat.zero_add,List.getElem?_append_left (by simpa using hj),List.getElem?_map,hy];rfl)
  obtain⟨h1,h2,h3⟩:=this;refine⟨_,xO Lz h1 h2 h3,λF' R' v d σ' kH Q ρb ρ1 Si rp ho e hq=>?_⟩;cases d<;>try (simp[cm]at e;done)
  rename_i ds;simp only[cm]at e;split at e
  ·cases e
  ·cases rp with
   | @tup _ a ys _ hp rs =>
    rw[List.length_map]at e;have e':fg (List.range' 0 xs.length) ds ρb=ok ρ1:=by rw[<- List.range_eq_range'];exact e
    refine⟨a,ys,rfl,hp,?_,kT (X:=di X (bL (.Tuple (xs.map λx=>Expr.Name x.1 x.2) kk p)++e_ S caps) sc cl C s₂ H2 fp) σ' n (by left) rs Si e' rfl (λ_ _=>rfl) hq⟩;rw[rs.length];have:∀(is:aH) (ds:ab) (ρ ρ':aY),fg is ds ρ=ok ρ'->ds.length=is.length:=by
     intro is;induction is with
     |nil=>intro ds ρ ρ' e;cases ds with|nil=>rfl|cons _ _=>cases e
     |cons i is ih=>intro ds ρ ρ' e;cases ds with
      |nil=>cases e
      |cons d ds =>
       change (if _ then _ else _)=_ at e;split at e
       ·simp[ih ds _ _ e]
       ·cases e
    rw[this _ _ _ _ e',List.length_range']
theorem RM:∀f:Fl,cD (bo f)=false:=by intro f;cases f<;>rfl
mutual
theorem Bb:∀d:D,aS cD (aZ bo d)=false
 |.bz=>by simp[aZ,aS]
 |.bl _=>by simp[aZ,aS]
 |.int _=>by simp[aZ,aS]
 |.tup ds=>by simp[aZ,aS,fh ds]
 |.lst f ds=>by simp[aZ,aS,fh ds,RM]
 |.cE f ks vs=>by simp[aZ,aS,fh vs,RM]
theorem fh:∀ds:ab,aP cD (aG bo ds)=false
 |[]=>by simp[aG,aP]
 |d::ds=>by simp[aG,aP,Bb d,fh ds]
end
theorem uk{h:Heap}{a:Addr}{o:HO}(x:jB P w H h)(hn:H a=none)(new:cA P w (upd H a o) h a o):jB P w (upd H a o) h:=λb u e=>by
 by_cases hb:b=a
 ·subst hb;rw[aV]at e;cases e;exact new
 ·rw[aQ hb]at e;exact(x b u e).kO (λc v _ q=>q) (λc q=>by rw[aQ (br q hn)];exact q) λc xs q=>by rw[aQ (br q hn)];exact q
structure Wr(X X':Cx)(F' R':ai)(n:Nat)(base:aY)(σ0:St)(fp:aO)(tn:Nat->Heap->Prop)(H2:Hp)(D:Addr)(items:List DI.D)(bind:DI.D->O aY)(test:aY->O Bool)(el:aY->O DI.D)(all:List DI.D)(m:Nat)(s':Shared):Prop where
 ex:∃(i:Nat) (vs:ae) (its:ag) (nn:Nat) (σ':St) (H':Hp) (dn rest:List DI.D),m=items.length - i/\i<=items.length/\Inv X' [(D,dz its nn)] σ' H' s'/\tn i s'.heap/\(∀b∈fp,H' b=none)/\Vals vs its/\aJ H2 H' /\
  SI X' F' R' (λ_=>none) base σ' H'/\bY X.K (gP X' F') R' (λ_=>none) [] H2 H' vs dn/\gv bind test el (items.drop i)=ok rest/\dn++rest=all
end
theorem bY.go(h:bY K G R τ fv H H1 vs ds)(e:aJ H1 H2):bY K G R τ fv H H2 vs ds :=
 let ⟨τt,h1,h2⟩:=h;⟨τt,h1,h2.imp (λ_ _ h=>aT.same e h) λ_ _ _ _ h=>nd.same e h⟩
theorem k_:∀{ds:ab} {d:D},aP cD ds=false->d∈ds->aS cD d=false
 |[],_,_,h=>nomatch h
 |e::ds,d,h,hm=>by
  rw[aP,Bool.or_eq_false_iff]at h;rcases List.mem_cons.mp hm with rfl|z
  ·exact h.1
  ·exact k_ h.2 z
theorem vk{d:D}(h:nH d=ok items):∀d∈items,aS cD d=false:=by
 unfold nH at h;split at h
 ·cases h;exact λd hd=>k_ (fh _) hd
 ·cases h
theorem rT{ik:IK}{xs:ab}(h:dB Φ ik xs=ok items):∀d∈items,aS cD d=false:=by
 cases ik with
 |bX p=>obtain⟨d,_,h⟩:=aA h;exact vk h
 |kW =>
  cases xs with
  |nil=>cases h
  |cons x t=>cases x<;>first | (cases h;done) | (cases t with
   |cons _ _=>cases h
   |nil =>
    obtain⟨_,h⟩:=qe h;subst h;intro d hd;obtain⟨k,_,rfl⟩:=List.mem_map.mp hd;rfl)
 |seq =>
  cases xs with
  |nil=>cases h
  |cons x t=>cases x<;>first | (cases h;done) | (cases t with
   |cons _ _=>cases h
   |nil=>cases h;exact λd hd=>k_ (fh _) hd)
theorem rV{n:Nat}{i:Nat}{d:D}(h:(bE n caps ρ)[i]?=some (some d)):n<=i:=by
 unfold bE at h;by_cases hn:i<n
 ·rw[List.getElem?_append_left (by simpa using hn),List.getElem?_replicate,if_pos hn]at h;cases h
 ·left
variable {c' elt:CE}{bu cs es:aB}
section
variable {X:Cx}{S:Sx}{k:Nat}{F:ai}{Φ:aU}
theorem yn{n:Nat}{t:Tg}{sc:Scope}{cl:List (Str×Addr)}(L:Lk X S k Φ)(co:iD S n t caps target sc):
  Lk (di X (bL target++e_ S caps) sc cl C s₂ H2 fp) (S.inner target caps sc) k Φ:=by
 refine⟨?_,rfl,co.nd,L.calm,L.room,L.bl,λf x h=>⟨(L.fn f x h).ex⟩,L.cs,L.pr⟩;show relabel sc X.env=pR sc S.sc;rw[<- L.sc];rfl
theorem qA(L:Lk X S k Φ){n:Nat}{t:Tg}{ik:IK}{ifs:au}{sc:Scope}(co:iD S n t caps target sc)(qi:mR iter=true)
    (hE:∀(X':Cx) (F':ai),Lk X' (S.inner target caps sc) k Φ->PE X' gN (tD X' F' Φ elt))
    (hC:(bu=[]/\ifs=[])\/∃c e,bu=[c]/\ifs=[e]/\∀(X':Cx) (F':ai),Lk X' (S.inner target caps sc) k Φ->PT X' e (ff X' F' Φ c))
    (hI:∀(pins:ak) (s:Shared) (σ:St) (H:Hp) (R:ai) (τ:Addr->Option aX) (ρ:aY) (xs items:ab),Inv X pins σ H s->SI X F R τ ρ σ H->cM Φ es ρ=ok xs->dB Φ ik xs=ok items->∀Rr:It->Hp->Prop,
      (∀J H2,aJ H H2->Yl X.K J (ji X F τ (caps++cT es) H2) H2 items->Rr J H2)->wpAny (model X.prog X.w) X.A (eval iter X.env) (λv s1=>wpAny (model X.prog X.w) X.A (pyIter v) (zY X pins σ target Rr) X.xe s1) X.xe s)
    {use:Option (Value->Sem Unit)} {Post:aw} {pins:ak} {s:Shared} {d:D} {QO:Pos} (I:Inv X pins σ H s) (Si:SI X F R τ ρ σ H) (ev:bg Φ (.comp n t caps ik es bu elt) ρ=ok d)
    (K8:∀(acc C:Addr) (H1:Hp) (s1:Shared) (m:aN),s1.heap.Ns C m->(C≠X.env.locals/\X.s₀.heap.objs.size<=C/\(∀x c,X.env.cells.lookup x=some c->c≠C)/\(∀p∈X.pn++pins,p.1≠C)/\H1 C=none)->(∀h',Heap.SameBut C s1.heap h'->Inv X pins σ H1 { s1 with heap:=h' })->aJ H H1 ->
      bN X.K (gP X F) R τ (fL (.comp n t caps ik es bu elt)) H H1 (.ref acc) d->compPost (model X.prog X.w) X.A X.xe use Post (.ref acc) C (.ok .next) s1) :
    wpAny (model X.prog X.w) X.A (comprehension (.ListComp gN [⟨target,iter,ifs,0⟩] sc pos) sc X.env QO (newList []) false (eval iter X.env) use) Post X.xe s:=by
  obtain⟨xs,cL,ev⟩:=aA ev;obtain⟨items,si,ev⟩:=aA ev;obtain⟨ds,Hq,ev⟩:=aA ev;simp only[Du]at ev;obtain⟨n9,rfl⟩:=ev;have Lc:=rT si;obtain⟨cl,Ly,jZ,r9⟩:=sv (env:=X.env) (sc:=sc) (λx hx=>I.ok.has x (by
    show X.env.scope.names.lookup x=some .cell\/X.env.scope.names.lookup x=some .free;rw[L.sc];exact co.free x hx))
  have lG:∀x,foldedSetIterable iter X.env x=pure x:=by intro x;cases iter<;>first|rfl | (cases qi;done)
  refine wpAny_comprehension_free (use:=use) rfl lG Ly co.kind co.loc (W7 (hI pins s σ H R τ ρ xs items I Si cL si (λJ H2=>aJ H H2/\Yl X.K J (ji X F τ (caps++cT es) H2) H2 items) (λJ H2 e y=>⟨e,y⟩)) (λxv s₁ h₁=>W7 h₁ (λPo s₂ h₂=>?_) λ_ _ e=>e) λ_ _ e=>e);obtain⟨it,fp,tn,J,H2,rfl,I2,T,C2,f2,e2,yl⟩:=h₂;have sI:=Si.go e2;have GF:∀b∈fp,b<s₂.heap.objs.size:=λb hb=>let ⟨o,ho,_⟩:=T.obj 0 _ C2 b hb;WX ho;refine Xy (wpAny_newFunctionEnv co.jn (by intro y hy;simp at hy) (λh₁ n6 lE=>?_) co.kind);dsimp only at n6 lE ⊢;generalize Qw:s₂.heap.push { cls:=.type "list",dict:=none,data:=.seq ([]:ag).toArray }=G2 at n6 lE ⊢;have SS:G2.objs.size=s₂.heap.objs.size+1:=by rw[<- Qw,Heap.size_push]
  have NB:s₂.heap.objs.size≠s₂.heap.objs.size+1:=W2 (XI _);rw[SS]at n6 lE;have old:∀b o,s₂.heap.get? b=some o->h₁.get? b=some o:=λb o e=>lE.extBut b o (W2 (Xa (WX e))) (WQ _ (Qw▸WQ _ e));have fJ:h₁.get? s₂.heap.objs.size=some (dz [] 0):=lE.extBut _ _ NB (WQ _ (Qw▸WZ _ rfl))
  let X':=di X (bL target++e_ S caps) sc cl (s₂.heap.objs.size+1) s₂ H2 fp
  let F':=gZ (gP X F) τ (caps++cT es)
  let R':=ji X F τ (caps++cT es) H2
  have L':Lk X' (S.inner target caps sc) k Φ:=yn L co;have I4:=λtk=>yG (h₁:=h₁) (tk:=tk) L co I2 jZ r9 f2 GF (by simpa using n6) old fJ;have S4:SI X' F' R' (λ_=>none) (bE n caps ρ) (mh n caps σ) H2:=xp (t:=t) sI (λi hi=>by simp[hi]);obtain⟨g,hg,vN⟩:=Eh (X:=X) (S:=S) (cl:=cl) (fp:=fp) (s₂:=s₂) (H2:=H2) (C:=s₂.heap.objs.size+1) L.calm co;have Qx:s₂.heap.objs.size∉X'.fs:=λz=>by
    rcases List.mem_cons.mp (I2.jg _ z)with w|w
    · exact absurd w (Xv I2.lt)
    · exact I2.FN (WV _) w
  have GH:∀x c,cl.lookup x=some c->c≠s₂.heap.objs.size:=λx c e=>by
    obtain⟨v,q⟩:=I2.cell x c (jZ x c e);exact W2 q.lt
  have BI:∀b∈fp,b≠X'.env.locals/\b∉X'.fs/\(b∈X'.ex\/X'.s₀.heap.objs.size<=b)/\(∀x c,X'.env.cells.lookup x=some c->c≠b):=λb hb =>
    ⟨W2 (Xa (GF b hb)),λz=>by
      rcases List.mem_cons.mp (I2.jg b z)with w|w
      · exact(f2 b hb).2.1 w
      · exact(f2 b hb).2.2.1 w,.inl hb,λx c e=>(f2 b hb).2.2.2.2.1 x c (jZ x c e)⟩
  have Lq:∀b∈fp,b≠s₂.heap.objs.size:=λb hb=>W2 (GF b hb);have fin:∀(vs:ae) (its:ag) (nn:Nat) (σ':St) (H':Hp) (s1:Shared),Inv X' [(s₂.heap.objs.size,dz its nn)] σ' H' s1->Vals vs its->aJ H2 H'->bY X.K (gP X' F') R' (λ_=>none) [] H2 H' vs ds ->
      compPost (model X.prog X.w) X.A X.xe use Post (.ref s₂.heap.objs.size) (s₂.heap.objs.size+1) (.ok .next) s1:=by
    intro vs its nn σ' H' s1 I1 rv sm AK;obtain⟨m,hn,_⟩:=I1.loc;obtain⟨pD,nD,_,_,_⟩:=I1.pin (s₂.heap.objs.size,dz its nn) (WW _ WR);have bs:=I1.base;have Bg:∀b o,s₂.heap.get? b=some o->b≠s₂.heap.objs.size+1:=λb o e=>W2 (Xa (WX e));have Uy:∀b o,s₂.heap.get? b=some o->b≠s₂.heap.objs.size:=λb o e=>W2 (WX e);have MH:∀b u,H' b=some u->upd H' s₂.heap.objs.size (.lst vs) b=some u:=λb u e=>by rw[aQ (br e nD)];exact e
    have hlen:vs.length<=sizeLine:=by
      obtain⟨_,_,rr⟩:=AK;have hz:sizeLine=16777216:=XF;have hc:eK=1000000:=rfl;rw[rr.length];left
    have IX:∀h',Heap.SameBut (s₂.heap.objs.size+1) s1.heap h'->Inv X pins σ (upd H' s₂.heap.objs.size (.lst vs)) { s1 with heap:=h' }:=λh' rX=>by
      have un:Un (wC X.stack) fp H2 (upd H' s₂.heap.objs.size (.lst vs)) s₂.heap h' :=
        ⟨λb o e n hb hx=>rX.extBut b o (Bg b o e) (bs.keep b o e n hb hx),
         λb o e n hb hx=>let ⟨sl,q⟩:=bs.slot b o e n hb hx;⟨sl,rX.extBut b _ (Bg b o e) q⟩,
         λb o e n hx=>by rw[aQ (Uy b o e)];exact bs.free b o e n hx,
         λb o e hx=>let ⟨o',q⟩:=bs.there b o e hx;⟨o',rX.extBut b _ (Bg b o e) q⟩,
         λb xs e=>MH b _ (bs.nB b xs e),λb o u e=>MH b _ (bs.mr b o u e),λp z=>(bs.kN p z).keep (λq=>MH _ _ q) (λo tq q=>rX.extBut _ o (let ⟨_,y⟩:=z.at;Bg _ _ y) q) λb o u e=>MH b _ e⟩
      have P7:jB X.prog X.w H' h':=λa o e=>(I1.ck a o e).kO (λb u hb q=>rX.extBut b u (by
        rintro rfl;have hf:H' (s₂.heap.objs.size+1)=none:=I1.free;rcases hb with z|z
        · rw[<- z,hf]at e;cases e
        · rw[hf]at z;cases z) q) (λ_ q=>q) λ_ _ q=>q
      have P6:jB X.prog X.w (upd H' s₂.heap.objs.size (.lst vs)) h':=uk P7 nD ⟨hlen,its,nn,rv,rX.extBut _ _ NB pD⟩;exact I2.Ml (ch:=fp) I1.os un P6 I1.bare λb hb=>⟨(f2 b hb).2.2.2.1,(f2 b hb).2.1,(f2 b hb).2.2.2.2.1,(f2 b hb).2.2.2.2.2⟩
    have eS:aJ H' (upd H' s₂.heap.objs.size (.lst vs)):=aJ.upd nD;obtain⟨τt,fr,rs⟩:=AK;have O_:s₂.heap.objs.size+1≠s₂.heap.objs.size:=Nat.succ_ne_self _;refine K8 s₂.heap.objs.size (s₂.heap.objs.size+1) _ s1 m hn ⟨Xv (Xa I2.lt),X7 I2.sz,λx c e=>?_,λp hp=>?_,?_⟩ IX ((e2.trans sm).trans eS) ⟨λq=>if q=s₂.heap.objs.size then some []else τt q,λq z hz=>?_,.lst ⟨aV,by simp⟩ (az.map (q:=[]) (q':=[]) (λ_ _ h=>aT.same eS h) (λc p ys f h=>?_) rs [] rfl)⟩
    · obtain⟨v,z⟩:=I2.cell x c e
      exact W2 (Xa z.lt)
    · exact W2 (Xa (WX (I2.pin p hp).1))
    · rw[aQ O_];exact I1.free
    · by_cases rY:q=s₂.heap.objs.size
      · rw[rY];exact e2.free (sm.free nD)
      · simp only[rY,if_false]at hz;exact e2.free (fr q z hz)
    · have h':=nd.same eS h
      have Ri:∀p,gP X' F' p->gZ (gP X F) τ (caps++cT es) p:=λp hp=>hp.elim id λz=>⟨.inr (sI.same.free z),λc i e=>absurd z (sI.th p _ e)⟩
      cases f with
      |ow =>
        have rY:p≠s₂.heap.objs.size:=by
          intro z;subst z;exact h.1.ne nD
        refine⟨h'.1,?_⟩;show(if p=s₂.heap.objs.size then some []else τt p)=_;rw[if_neg rY];exact h'.2
      |fz=>exact⟨h'.1,h'.2.2⟩
      |al=>exact⟨h'.1,Ri p h'.2.1⟩
      |sc=>exact h'
  have TN:∀(P:ak) (ρ1:aY) (b:Bool) (σ2:St) (H5:Hp) (s6:Shared),fV Φ bu ρ1=ok b->Inv X' P σ2 H5 s6->SI X' F' R' (λ_=>none) ρ1 σ2 H5 ->
      wpAny (model X.prog X.w) X.A (forIn ifs true λc r=>if r=true then do let ok <- isTrue c X'.env (eval c X'.env);pure (ForInStep.yield ok)else pure (ForInStep.yield r)) (λO4 s7=>O4=b/\∃H7,Inv X' P σ2 H7 s7/\aJ H5 H7) (λ_ _=>False) s6:=by
    intro P ρ1 b σ2 H5 s6 eb I6 S6;rcases hC with ⟨rfl,rfl⟩|⟨c,e,rfl,rfl,hPT⟩
    · rw[fV]at eb;cases eb
      exact wpAny_tests_nil ⟨rfl,H5,I6,aJ.refl _⟩
    · rw[fV]at eb
      obtain⟨b',VR,eb⟩:=aA eb;have hb:b'=b:=by
        cases b' with
        |true=>rw[if_pos rfl,fV]at eb;cases eb;rfl
        |false=>rw[if_neg (by simp)]at eb;cases eb;rfl
      subst hb;refine wpAny_tests_one (W7 (hPT X' F' L' P s6 σ2 H5 (λTu H7=>Tu=b'/\aJ H5 H7) I6 ⟨R',_,ρ1,b',S6,VR,λH7 e7=>⟨rfl,e7⟩⟩) (λTu s7 ⟨H7,I7,hb,e7⟩=>⟨hb,H7,I7,e7⟩) λ_ _ e=>e)
  have loop:∀tk,codeAny (model X.prog X.w) X.A (.compLoop (.ListComp gN [⟨target,iter,ifs,0⟩] sc pos) 0 (.ref it) (.ref s₂.heap.objs.size) X'.env)
      (compPost (model X.prog X.w) X.A X.xe use Post (.ref s₂.heap.objs.size) (s₂.heap.objs.size+1)) { s₂ with heap:=h₁,toks:=tk }:=by
    intro tk;refine ox (Wr X X' F' R' n (bE n caps ρ) (mh n caps σ) fp tn H2 s₂.heap.objs.size items (λd=>cm t d (bE n caps ρ)) (λρ'=>fV Φ bu ρ') (λρ'=>bg Φ elt ρ') ds) ?_ items.length
      ⟨0,[],[],0,mh n caps σ,H2,[],ds,rfl,W6 _,I4 tk,T.keep _ _ _ C2 (λb _ o e=>old b o e),λb hb=>(f2 b hb).1,.nil,aJ.refl _,S4,.nil,by rw[List.drop_zero];exact Hq,rfl⟩
    rintro m s' ⟨i,vs,its,nn,σ',H',dn,rest,hm,hi,I',bh,fr',rv,sm,eU,AK,eC,eall⟩;have G0:∀b∈fp,l5 X' [(s₂.heap.objs.size,dz its nn)] H' b:=λb hb=>⟨fr' b hb,(BI b hb).1,(BI b hb).2.1,(BI b hb).2.2.1,(BI b hb).2.2.2,λp hp=>by
      have qO:p=(s₂.heap.objs.size,dz its nn):=by simpa [X',di]using hp
      rw[qO];exact(Lq b hb).symm⟩
    by_cases fj:i<items.length
    · refine W7 (T.item X' rfl rfl rfl L.calm i _ s' σ' H' (λ_ _=>False) I' G0 bh (yl.go i H' sm fj)) (λr s1 h4=>?_) λ_ _ e=>e
      obtain⟨u,hr,h4⟩:=h4;subst hr;refine W7 h4 (λ_ s5 h5=>?_) λ_ _ e=>e;obtain⟨x,H5,I5,r5,y5,Eu,QN⟩:=h5;obtain⟨e5,dd,hd,rd⟩:=yl.qM i H' x H5 sm fj y5;have Rq:=I5.pinned (fp:=fp) (λb hb=>⟨QN b hb,(G0 b hb).2⟩) (T.obj _ _ Eu);have qj:items.drop i=dd::items.drop (i+1):=by
        rw[List.drop_eq_getElem_cons fj];rw[List.getElem?_eq_getElem fj]at hd;cases hd;rfl
      rw[qj,gv]at eC;obtain⟨ρ1,eb,eC⟩:=aA eC;obtain⟨bb,et,eC⟩:=aA eC;refine W7 (hg _ s5 σ' H5 x u (λσ2 H6=>H6=H5/\σ2.length=σ'.length/\(∀j,n<=j->σ2[j]?=σ'[j]?)/\SI X' F' R' (λ_=>none) ρ1 σ2 H5) Rq r5
        (vN F' R' x dd σ' H5 _ (bE n caps ρ) ρ1 (eU.go e5) rd (Lc dd (Xd hd)) eb λσ2 g1 g2 g3=>⟨rfl,g1,g2,g3⟩)) (λ_ s6 h6=>?_) λ_ _ e=>e
      obtain⟨σ2,H6,I6,rfl,g1,g2,S6⟩:=h6;refine W7 (TN _ ρ1 bb σ2 H6 s6 et I6 S6) (λO4 s7 h7=>?_) λ_ _ e=>e;obtain⟨rfl,H7,I7,e7⟩:=h7;have N8:∀{P:ak} {σ3:St} {H8:Hp} {s8:Shared},Inv X' (P++gg fp s5.heap) σ3 H8 s8->tn (i+1) s8.heap/\∀b∈fp,H8 b=none:=λ{P σ3 H8 s8} I8 =>
        ⟨T.keep _ _ _ Eu λb hb o e=>(I8.pin (b,o) (WW _ (WW _ (fE hb e)))).1,λb hb=>by
          obtain⟨o,e,_⟩:=T.obj _ _ Eu b hb;exact(I8.pin (b,o) (WW _ (WW _ (fE hb e)))).2.1⟩
      have DM:∀{H8:Hp},aJ H7 H8->SI X' F' R' (λ_=>none) (bE n caps ρ) σ2 H8:=λ{H8} e8=>(eU.go ((e5.trans e7).trans e8)).sig g1 λj d hj=>g2 j (rV hj);cases O4 with
      |false =>
        rw[if_neg (by simp)]at eC ⊢;exact⟨items.length - (i+1),by left,i+1,vs,its,nn,σ2,H7,dn,rest,rfl,fj,I7.iL,(N8 I7).1,(N8 I7).2,rv,(sm.trans e5).trans e7,DM (aJ.refl _),AK.go (e5.trans e7),eC,eall⟩
      |true =>
        rw[if_pos rfl]at eC ⊢;obtain⟨y,ey,eC⟩:=aA eC;obtain⟨ys,y_,eC⟩:=aA eC;cases eC;refine W7 (hE X' F' L' _ s7 σ2 H7 (λv H8=>aJ H7 H8/\bN X.K (gP X' F') R' (λ_=>none) [] H7 H8 v y) I7 ⟨R',_,ρ1,y,S6.go e7,ey,λv H8 e8 r8=>⟨e8,?_⟩⟩) (λu8 s8 h8=>?_) λ_ _ e=>e
        · obtain⟨τt,fr,rr⟩:=r8
          exact⟨τt,fr,rr.imp (q:=[]) (q':=[]) (λ_ _ h=>h) λc p ys f h=>h.mono id (λh=>⟨h.1,λ_ _ e=>by cases e⟩) id⟩
        · obtain⟨v8,H8,I8,Ui,e8,r8⟩:=h8
          obtain⟨pD,nD,_,_,_⟩:=I8.pin (s₂.heap.objs.size,dz its nn) (WW _ (W0 _ WR));have hlen:its.length<=1000000:=by
            obtain⟨_,_,rr⟩:=AK;have h1:dn.length<=ds.length:=by rw[<- eall,List.length_append];left
            have hc:eK=1000000:=rfl;rw[<- rv.length,rr.length];left
          have hz:sizeLine=16777216:=XF;refine XH PySem.F.slot_list_append ⟨_,pD,rfl⟩ PySem.F.entry_list_append (PySem.F.args_list_append_2 _ _) (PySem.list_append s₂.heap.objs.size its.toArray nn u8 (by rw[List.size_toArray];left)) ⟨pD,?_⟩;have q:=PySem.IsL.update pD (λx=>x.push u8);have K6:its.toArray.push u8=(its++[u8]).toArray:=by simp
          rw[K6]at q;obtain⟨Na,q'⟩:∃Na,(s8.heap.update s₂.heap.objs.size (Obj.mapSeq λx=>x.push u8)).get? s₂.heap.objs.size=some (dz (its++[u8]) Na):=⟨_,q⟩
          have Wd:Inv X' (gg fp s5.heap) σ2 H8 s8:=I8.gG λp hp=>I8.pin p (WW _ (WW _ hp));have Tx:Inv X' (gg fp s5.heap) σ2 H8 { s8 with heap:=s8.heap.update s₂.heap.objs.size (Obj.mapSeq λx=>x.push u8),toks:=s8.toks } :=
            Wd.turned (it:=s₂.heap.objs.size) (λb o hb e=>(X_ s8.heap (Obj.mapSeq λx=>x.push u8) (YH hb)).trans e) nD NB (.inr (WV _)) GH λp hp=>by
              have qO:p∈gg fp s5.heap:=by simpa [X',di]using hp
              exact Lq p.1 (mQ qO).1
          have kp:=N8 (P:=[]) (by rw[List.nil_append];exact Tx);refine⟨items.length - (i+1),by left,i+1,vs++[v8],its++[u8],Na,σ2,H8,dn++[y],ys,rfl,fj,Tx.gG (λp hp=>?_),kp.1,kp.2,rv.append (.cons Ui .nil),((sm.trans e5).trans e7).trans e8,DM e8,bY.snoc ((sm.trans e5).trans e7) e8 (AK.go (e5.trans e7)) r8,y_,by rw[List.append_assoc];exact eall⟩;have qO:p=(s₂.heap.objs.size,dz (its++[u8]) Na):=by simpa using hp
          rw[qO];exact⟨q',nD,NB,Qx,λv z=>by cases z⟩
    · refine W7 (T.done X' rfl rfl rfl L.calm i _ s' σ' H' (λ_ _=>False) I' G0 bh (yl.stop i H' sm (by left))) (λr s1 h1=>?_) λ_ _ e=>e
      obtain⟨hr,I1⟩:=h1;subst hr;have Qb:items.drop i=[]:=List.drop_eq_nil_of_le (by left);rw[Qb,gv]at eC;cases eC;rw[List.append_nil]at eall;subst eall;exact fin vs its nn σ' H' s1 I1 rv sm AK
  have key:=λtk=>codeAny_compStart_list (loop tk) (T.self X.A 0 _ _ _ (T.keep _ _ _ C2 λb _ o e=>old b o e) (loop tk));rw[SS];exact key _
theorem AF(L:Lk X S k Φ){n:Nat}{t:Tg}{ik:IK}{ifs:au}{sc:Scope}(co:iD S n t caps target sc)(qi:mR iter=true)
  (hE:∀(X':Cx) (F':ai),Lk X' (S.inner target caps sc) k Φ->PE X' gN (tD X' F' Φ elt))
  (hC:(bu=[]/\ifs=[])\/∃c e,bu=[c]/\ifs=[e]/\∀(X':Cx) (F':ai),Lk X' (S.inner target caps sc) k Φ->PT X' e (ff X' F' Φ c))
  (hI:∀(pins:ak) (s:Shared) (σ:St) (H:Hp) (R:ai) (τ:Addr->Option aX) (ρ:aY) (xs items:ab),Inv X pins σ H s->SI X F R τ ρ σ H->cM Φ es ρ=ok xs->dB Φ ik xs=ok items->∀Rr:It->Hp->Prop,
   (∀J H2,aJ H H2->Yl X.K J (ji X F τ (caps++cT es) H2) H2 items->Rr J H2)->wpAny (model X.prog X.w) X.A (eval iter X.env) (λv s1=>wpAny (model X.prog X.w) X.A (pyIter v) (zY X pins σ target Rr) X.xe s1) X.xe s) :
  PE X (.ListComp gN [⟨target,iter,ifs,0⟩] sc pos) (tD X F Φ (.comp n t caps ik es bu elt)):=by
 intro pins s σ H Q I hq;obtain⟨R,τ,ρ,d,Si,ev,hq⟩:=hq;rw[eval_ListComp];refine qA L co qi hE hC hI (use:=none) (Post:=EP X pins σ Q) I Si ev λacc C H1 s1 m hn _ IX sm rt=>?_;exact⟨m,hn,λh' rX=>⟨.ref acc,H1,IX h' rX,rfl,hq _ _ sm rt⟩⟩
end
variable {base h':Heap}
section
variable {X:Cx}{pins:ak}{s:Shared}{σ:L2.St}{H:Hp}
theorem lx{A:ay}{E:aw}{l:Addr}{items:aC}{Q:aw}{s:Shared}(hl:s.heap.IsList l items)
  (h:∀s₂:Shared,s₂={ s with heap:=s.heap.push { cls:=.type "list_iterator",data:=.fields #[.ref l,.int 0 0] } }->s₂.heap.IsListIter s.heap.objs.size l 0/\s₂.heap.IsList l items->(∀b∈[s.heap.objs.size,l],b<s₂.heap.objs.size)->l≠s.heap.objs.size->Q (.ref s.heap.objs.size) s₂) :
  wpAny (model prog w) A (pyIter (.ref l)) Q E s:=by
 have fj:l<s.heap.objs.size:=by obtain⟨_,e,_⟩:=hl;exact WX e
 refine wpAny_pyIter_list hl (h _ rfl ⟨⟨_,WZ _ rfl,rfl,rfl⟩,hl.push _⟩ (λb hb=>?_) (W2 fj));have hz:(s.heap.push { cls:=.type "list_iterator",data:=.fields #[.ref l,.int 0 0] }).objs.size=s.heap.objs.size+1:=Heap.size_push ..;have wA:b=s.heap.objs.size\/b=l:=by simpa using hb
 show b<_;rw[hz];rcases wA with e|e
 ·rw[e];exact XI _
 ·rw[e];exact Xa fj
theorem lr{o₀:Obj}{s:Shared}(hk:∀b o,b∉[s.heap.objs.size]->(s.heap.push o₀).get? b=some o->h'.get? b=some o):∀b o,s.heap.get? b=some o->h'.get? b=some o:=λb o e =>
 hk b o (λhm=>absurd ((by simpa using hm:b=s.heap.objs.size)▸WX e) (Xh _)) (WQ _ e)
theorem cK{h:Heap}{a:Addr}{its:aC}(p:PlainL h a its):h.IsList a its:=let ⟨o,n,h1,h2,_,h4⟩:=p;⟨o,h1,h2,n,h4⟩
theorem jJ(val:Nat->Int)(ns:aa)(hv:∀i,val i=ns.getD i 0):∀k,k<=ns.length->preSum val k=(ns.take k).sum
 |0,_=>by simp[preSum]
 |k+1,h=>by
  have hk:k<ns.length:=by left
  rw[preSum,jJ val ns hv k (by left),hv k,List.take_add_one,List.sum_append];simp[List.getD,hk]
theorem wb(hc:X.calm=true):eJ X (.builtin "sum") (λxs H Q=>∃(p:Addr) (ns:aa),xs=[.ref p]/\de X.K H p (ns.map V.int)/\Q (.int ns.sum) H):=by
 intro pins s σ H xs us Q I r h;obtain⟨p,ns,rfl,hq,q⟩:=h;obtain⟨u,rfl,ru⟩:=r.one;cases ru;obtain⟨its,rv,pl,hz⟩:=I.list hq;have hlen:its.length=ns.length:=by have:=rv.length;simpa using this.symm
 refine call_sum_walkG (lx (cK pl) λs₂ e st yM Li=>?_);subst e;refine⟨_,_,_,_,_,_,λi=>ns.getD i 0,rfl,Walks.list (A:=X.A.in1) (I.ok.hd hc) _ p Li its.toArray,st,yM,λi v hP=>?_,λh' tk t' hk=>?_⟩
 ·have hv:its[i]?=some v:=by simpa using hP
  have hi:i<its.length:=by
   by_cases z:i<its.length
   ·exact z
   ·rw[List.getElem?_eq_none (by left)]at hv;cases hv
  have hn:(ns.map V.int)[i]?=some (.int (ns.getD i 0)):=by
   rw[List.getElem?_map,List.getElem?_eq_getElem (by left)];simp[List.getD,show i<ns.length by left]
  obtain⟨u,hu,ru⟩:=rv.get hn;rw[hv]at hu;cases hu;exact ru
 ·refine⟨.int ns.sum,H,I.kept (t':=tk) (lr hk),⟨t',?_⟩,q⟩;have hz:preSum (λi=>ns.getD i 0) its.toArray.size=ns.sum:=by
   rw[List.size_toArray,hlen,jJ _ ns (λ_=>rfl) _ (Nat.le_refl _),List.take_length]
  rw[hz]
theorem range_all{α:Type}(l:List α)(f:α->Bool)(tr:Nat->Bool)(h:∀i a,l[i]?=some a->tr i=f a):(List.range l.length).all tr=l.all f:=by
 rw[Bool.eq_iff_iff,List.all_eq_true,List.all_eq_true];constructor
 ·intro z a ha;obtain⟨i,hi,e⟩:=List.mem_iff_getElem.mp ha;have:=z i (List.mem_range.mpr hi);rw[h i a (by rw[List.getElem?_eq_getElem hi,e])]at this;exact this
 ·intro z i hi;have hi:=List.mem_range.mp hi;rw[h i l[i] (List.getElem?_eq_getElem hi)];exact z _ (Xz hi)
theorem we(hc:X.calm=true):eJ X (.builtin "all") (λxs H Q=>∃(p:Addr) (bs:List Bool),xs=[.ref p]/\de X.K H p (bs.map V.bl)/\Q (.bl (bs.all id)) H):=by
 intro pins s σ H xs us Q I r h;obtain⟨p,bs,rfl,hq,q⟩:=h;obtain⟨u,rfl,ru⟩:=r.one;cases ru;obtain⟨its,rv,pl,hz⟩:=I.list hq;have hlen:its.length=bs.length:=by have:=rv.length;simpa using this.symm
 refine call_all_walk (lx (cK pl) λs₂ e st yM Li=>?_);subst e;refine⟨_,_,_,_,_,_,λi=>bs.getD i false,rfl,Walks.list (A:=X.A.in1) (I.ok.hd hc) _ p Li its.toArray,st,λi v s' Q' E' hP hQ=>?_,λh' tk hk=>?_⟩
 ·have hv:its[i]?=some v:=by simpa using hP
  have hi:i<its.length:=by
   by_cases z:i<its.length
   ·exact z
   ·rw[List.getElem?_eq_none (by left)]at hv;cases hv
  have hn:(bs.map V.bl)[i]?=some (.bl (bs.getD i false)):=by
   rw[List.getElem?_map,List.getElem?_eq_getElem (by left)];simp[List.getD,show i<bs.length by left]
  obtain⟨u,hu,ru⟩:=rv.get hn;rw[hv]at hu;cases hu;cases ru;exact Xo hQ
 ·refine⟨.bl (bs.all id),H,I.kept (t':=tk) (lr hk),?_,q⟩;show Value.bool _=Value.bool _;rw[List.size_toArray,hlen,range_all bs id _ λi a e=>by simp[List.getD,e]]
end
variable {ns:aa}
section
variable {prog:ax}{w:World}{A:ay}{E:aw}{s:Shared}
theorem lW{l:Addr}{vs:ag}{Q:ag->Shared->Prop}{o:Obj}{n:Nat}(ho:s.heap.get? l=some o)(hc:o.cls=.type "tuple")(hd:o.data=.seq vs.toArray n)
  (h:Q vs { s with heap:=(s.heap.push (seqObj "list" #[] 0)).update s.heap.objs.size (Obj.mapSeq (· ++ vs.toArray)) }) (hsz:vs.length<=sizeLine):wpAny (model prog w) A (collect (.ref l)) Q E s:=by
 unfold collect;refine WN (wpAny_runValue (XT entry_proto_collect' ?_));show wpAny _ _ (newList [] >>= λz=>again (.builtin "list.__iadd__" ⟨[z,.ref l],[]⟩)) _ _ s;refine WN (XO (WU ⟨Code.quiet_builtin _ (by decide +kernel),XT entry_list_iadd' ?_⟩));have z1:(s.heap.push (seqObj "list" #[] 0)).get? l=some o:=WQ _ ho;have z2:(s.heap.push (seqObj "list" #[] 0)).get? s.heap.objs.size=some (seqObj "list" #[] 0):=WZ _ rfl;show wpAny _ _ (Builtin.List.listExtendWith (.ref s.heap.objs.size) (.ref l) (.ref s.heap.objs.size)) _ _ ({ s with heap:=s.heap.push (seqObj "list" #[] 0) }:Shared);unfold Builtin.List.listExtendWith;refine WN (wpAny_typeOf (T:="tuple") ⟨o,z1,hc⟩ ?_);rw[Xf (by rw[show(Value.type "tuple" == Value.type "tuple")=true from rfl,Bool.or_true])];refine WN (X1 z1 hd (WN (X1 z2 rfl ?_)));rw[if_neg (by simp)];refine WN (XC z2 rfl ?_ (W6 _) (by
  show(#[]++vs.toArray).size<=sizeLine+1;rw[Array.size_append,List.size_toArray];exact X7 (by simpa using hsz)))
 refine WU ?_;show wpAny (model prog w) A (load s.heap.objs.size >>= λo=>match o.data with
   |.seq xs _=>pure xs.toList
   |_=>unsupported "internal:collect") Q E ({ s with heap:=(s.heap.push (seqObj "list" #[] 0)).update s.heap.objs.size (Obj.mapSeq (· ++ vs.toArray)) }:Shared)
 refine WN (wpAny_load (XU z2 _) ?_);show wpAny _ _ (pure ((#[]:aC)++vs.toArray).toList) Q E _;rw[show((#[]:aC)++vs.toArray).toList=vs by simp];exact WU h
theorem me{l:Addr}{vs:ag}{Q:aw}{o:Obj}{n:Nat}(ho:s.heap.get? l=some o)(hc:o.cls=.type "tuple")(hd:o.data=.seq vs.toArray n)(hI:IntsAre vs ns)(c_:vs.length<64)
  (h:∀(out:aC) (jK:aa),IntsAre out.toList jK->jK.Perm ns->jK.Pairwise (· <= ·)->Q (.ref (s.heap.objs.size+1)) { s with heap:=sortedAll s.heap vs out }):wpAny (model prog w) A (call (.builtin "sorted") [.ref l]) Q E s:=by
 refine Calls.call_function_entry kind_sorted plain_sorted entry_sorted (args_sorted1 _) ?_;unfold Builtin.«sorted»;have hz:vs.length<=sizeLine:=by rw[sizeLine_eq];left
 refine WN (m:=checkCount "sorted" 1 1 _) (WU (WN (lW ho hc hd (WN (XO ?_)) hz)));have e1:((s.heap.push (seqObj "list" #[] 0)).update s.heap.objs.size (Obj.mapSeq (· ++ vs.toArray))).objs.size=s.heap.objs.size+1:=by rw[Heap.size_update,size_push']
 have e2:(((s.heap.push (seqObj "list" #[] 0)).update s.heap.objs.size (Obj.mapSeq (· ++ vs.toArray))).push (seqObj "list" vs.toArray 0)).get? (s.heap.objs.size+1)=some (seqObj "list" vs.toArray 0):=by
  rw[<- e1];exact WZ _ rfl
 show wpAny _ _ _ _ _ ({ s with heap:=((s.heap.push (seqObj "list" #[] 0)).update s.heap.objs.size (Obj.mapSeq (· ++ vs.toArray))).push (seqObj "list" vs.toArray 0) }:Shared);rw[e1];refine WN (Xp (XJ slot_list_sort ⟨_,e2,rfl⟩ entry_list_sort (list_sort_tree e2 hI c_ λout jK a1 a2 a3=>⟨_,rfl,WU ⟨_,rfl,h out jK a1 a2 a3⟩⟩) (args_list_sort _)))
end
theorem sortI_perm(ns:aa):(sortI ns).Perm ns:=Xg ..
theorem kR(ns:aa):(sortI ns).Pairwise (· <= ·):=by
 have:=X5 (le:=λa b:Int=>decide (a<=b)) (by intro a b c;simp;left) (by intro a b;simp;left) ns;unfold sortI;simpa using this
theorem cX:∀{vs:ag} {ns:aa},Vals (ns.map V.int) vs->IntsAre vs ns
 |_,[],h=>by cases h;exact .nil
 |_,n::ns,h=>by
  cases h with
  |cons r t=>obtain⟨tk,rfl⟩:=r;exact .cons n tk (cX t)
theorem oF:eJ X (.builtin "sorted") (λxs H Q=>∃(p:Addr) (ns:aa),xs=[.ref p]/\(de X.K H p (ns.map V.int)\/aT X.K H p (ns.map V.int))/\ns.length<64/\∀l,H l=none->Q (.ref l) (upd H l (.lst ((sortI ns).map V.int)))):=by
 intro pins s σ H xs us Q I r h;obtain⟨p,ns,rfl,hq,c_,q⟩:=h;obtain⟨u,rfl,ru⟩:=r.one;cases ru;have fin:∀(vs:ag) (out:aC) (jK:aa),IntsAre out.toList jK->jK.Perm ns->jK.Pairwise (· <= ·)->EP X pins σ Q (.ref (s.heap.objs.size+1)) { s with heap:=sortedAll s.heap vs out }:=by
  intro vs out jK h1 h2 h3;obtain rfl:jK=sortI ns:=PySem.W.ksm_same (h2.trans (sortI_perm ns).symm) h3 (kR ns);obtain⟨e,he⟩:=sortedAll_at s.heap vs out;have hn:H (s.heap.objs.size+1)=none:=I.ck.fresh (YA _);refine⟨.ref (s.heap.objs.size+1),upd H (s.heap.objs.size+1) (.lst ((sortI ns).map V.int)),I.laid (t':=s.toks) (λb u z=>sortedAll_old z) (YA _) ⟨?_,out.toList,e,je h1,by simpa using he⟩,rfl,q _ hn⟩;rw[List.length_map,(sortI_perm ns).length_eq,sizeLine_eq];left
 rcases hq with hq|hq
 ·obtain⟨its,rv,pl,hz⟩:=I.list hq;have hl:its.length<64:=by rw[<- rv.length];simpa using c_
  exact sorted_ints (cK pl) (cX rv) hl λout jK h1 h2 h3=>fin its out jK h1 h2 h3
 ·obtain⟨its,rv,⟨o,ho,hc,n,hd⟩,hz⟩:=I.tuple hq;have hl:its.length<64:=by rw[<- rv.length];simpa using c_
  exact me ho hc hd (cX rv) hl λout jK h1 h2 h3=>fin its out jK h1 h2 h3
theorem wZ:isSubtype (.type "tuple") (.type "set")=pure false:=by rw[isSubtype_type];kernel_rfl
theorem o6:isSubtype (.type "tuple") (.type "frozenset")=pure false:=by rw[isSubtype_type];kernel_rfl
noncomputable abbrev jU(led:Bool):Obj:={ cls:=.type "set",dict:=none,data:=.set #[] 0 (.fresh 0 0 led) }
noncomputable abbrev dist(ns:aa):aa:=firstMet (λi=>ns.getD i 0) ns.length
section
variable {prog:ax}{w:World}{A:ay}{E:aw}{s:Shared}
theorem rm{l:Addr}{its:ag}{Q:aw}(hh:A.handled=none)(hl:s.heap.IsTuple l its.toArray)(hi:IntsAre its ns)(hb:its.length+1<scanBound)
  (h:∀(h':Heap) (tk:Nat),h'.SetOf (intKind prog w) s.heap.objs.size (λk=>(dist ns).any (· == k)) (dist ns).length->(∀b o,b<s.heap.objs.size->s.heap.get? b=some o->h'.get? b=some o)->Q (.ref s.heap.objs.size) { s with heap:=h',toks:=tk }) :
  wpAny (model prog w) A (call (.type "set") [.ref l]) Q E s:=by
 have Ld:its.length=ns.length:=hi.length;obtain⟨c,tl,k1⟩:=F.called_set.mro;have k2:=F.called_set.made;have k3:=F.called_set.sub;have k4:=F.called_set.notType;have k5:=F.called_set.canCreate;have k6:=F.typeCall_set_1 (.ref l);refine wpAny_call (codeAny_of_tree (show wpAny _ _ (callAny (.type "set") _) _ _ _ from WU ⟨Code.quiet_builtin _ (by decide +kernel),XT F.entry_type_call ?_⟩));rw[Around.under_plain (weight_type_call_type "set" [.ref l] []) rfl]
 repeat (any_goals (first|assumption|wp_step))
 refine XY (code_set_new_1 (.ref l) (E:=E) (Q₁:=λz s₁=>∃led:Bool,z=.ref s.heap.objs.size/\s₁={ s with heap:=s.heap.push (jU led) }) λled=>⟨led,rfl,rfl⟩) λr s₁ hr=>?_;cases r with
 |error e=>exact hr
 |ok fl =>
  cases fl with
  |next=>exact hr.elim
  |brk=>exact hr.elim
  |cont=>exact hr.elim
  |ret z =>
   obtain⟨led,rfl,rfl⟩:=hr;have g1:(s.heap.push (jU led)).get? s.heap.objs.size=some (jU led):=WZ _ rfl;have g2:Shared.TypeIs { s with heap:=s.heap.push (jU led) } (.ref s.heap.objs.size) "set":=⟨_,g1,rfl⟩
   have g3:=F.called_set.init.lookup;have g4:=F.called_set.init.bind (.ref s.heap.objs.size)
   repeat (any_goals (first|assumption|wp_step))
   refine XY (codeAny_call_builtin (R:=wants (λr s₂=>r=.none/\∃h' tk,s₂={ s with heap:=h',toks:=tk }/\h'.SetOf (intKind prog w) s.heap.objs.size (λk=>(dist ns).any (· == k)) (dist ns).length/\∀b o,b<s.heap.objs.size->s.heap.get? b=some o->h'.get? b=some o) E) F.called_set.init.plain F.entry_set_init (check_set_init_1 g2 ?_)) λr₂ s₂ qg=>?_
   ·obtain⟨ot,Ss,SF,nt,SD⟩:=hl;obtain⟨oc,od,Wt,xV⟩:=ot;simp only at SF SD;subst SF;subst SD;have u1:(s.heap.push (jU led)).get? l=some { cls:=.type "tuple",dict:=od,data:=.seq its.toArray nt,slots:=xV }:=WQ _ Ss;have u2:=wZ;have u3:=o6;have u4:(Value.type "tuple" == Value.type "dict")=false:=by decide
    have u5:(s.heap.push (jU led)).IsTuple l its.toArray:=⟨_,u1,rfl,nt,rfl⟩
    unfold Builtin.«set.__init__» noKeywords Builtin.Frozenset.updateFrom;generalize Vt:pyIter=PI
    wp_walk
    subst Vt;refine wpAny_pyIter_tuple u5 (WN (wpAny_runValue ?_));have u6:l<s.heap.objs.size:=WX Ss;have u7:A.in1.in1.in1.handled=none:=by simp[hh]
    have hz:(s.heap.push (jU led)).objs.size=s.heap.objs.size+1:=Heap.size_push ..;have u8:l≠(s.heap.push (jU led)).objs.size:=by rw[hz];exact W2 (Xa u6)
    have u9:s.heap.objs.size∉[(s.heap.push (jU led)).objs.size,l]:=by
     rw[hz];intro m;simp at m;exact absurd m (Xv u6)
    have v1:∀(i:Nat) (v:Value),its.toArray[i]?=some v->∃t,v=.int ((λi=>ns.getD i 0) i) t:=λi v hv=>hi.int_at i v (by simpa using hv);refine codeAny_set_update_loopS ((Walks.tuple u7 _ l u8 its.toArray).toS) s.heap.objs.size u9 (λi=>ns.getD i 0) v1 (by rw[List.size_toArray];exact hb) (its.toArray.size - 0) 0 _ (by left) (W6 _) ⟨⟨_,WZ _ rfl,rfl,rfl⟩,u5.push _⟩ ?hS0 ?hR
    case hS0 =>
     have y1:((s.heap.push (jU led)).push { cls:=.type "tuple_iterator",data:=.fields #[.ref l,.int 0 0] }).get? s.heap.objs.size=some (jU led):=WQ _ g1;exact SetOf_congr ((setObjOf_fresh (knd:=intKind prog w) led).setOf y1 (by unfold scanBound;left)) (λ_=>rfl) rfl
    case hR =>
     intro s' hm wB;obtain⟨h',g',d',Eg,OZ⟩:=s';cases (show g'=s.gens from hm.gens);cases (show d'=s.drawn from hm.drawn);cases (show OZ=s.os from hm.os);have wB:h'.SetOf (intKind prog w) s.heap.objs.size (λk=>(dist ns).any (· == k)) (dist ns).length:=by
      have e:its.toArray.size=ns.length:=by rw[List.size_toArray,Ld]
      rw[e]at wB;exact wB
     refine WU (show wpAny _ _ (ret Value.none) _ _ _ from WU ⟨rfl,h',Eg,rfl,wB,λb o hb e=>hm.heap b o (λm=>?_) (WQ _ (WQ _ e))⟩);rcases List.mem_cons.mp m with m|m
     ·exact W2 hb m
     ·have m:b=(s.heap.push (jU led)).objs.size:=by simpa using m
      rw[hz]at m;exact W2 (Xa hb) m
   ·cases r₂ with
    |error e=>exact qg
    |ok LV =>
     cases LV with
     |ret r =>
      obtain⟨rfl,h',tk,rfl,wB,Sv⟩:=qg
      repeat (any_goals (first|assumption|wp_step))
      exact h _ _ wB Sv
     |next=>exact qg.elim
     |brk=>exact qg.elim
     |cont=>exact qg.elim
end
theorem zo(ns:aa):dist ns=qw ns:=by
 unfold dist firstMet qw;have e:(List.range ns.length).map (λi=>ns.getD i 0)=ns:=by
  refine XM (by simp) λi h1 h2=>?_;simp at h1;simp[h1]
 rw[e];rfl
def Um(K:ao):ae->Hp->VK->Prop:=λxs H Q=>∃(p:Addr) (ns:aa),xs=[.ref p]/\aT K H p (ns.map V.int)/\ns.length<4000/\Q (.int (qw ns).length) H
theorem boot_set:bootBuiltins ("set" : Str)=some (.type "set"):=by decide +kernel
theorem M3{e:Expr}{t:TA}{p pos':Pos}(hc:X.calm=true)(Qk:Gl X ("len" : Str))(Qf:X.mg ("len" : Str)=none)(Va:Gl X ("set" : Str))(Qe:X.mg ("set" : Str)=none)(ha:PA X [e] t)
  (qf:∀es,starEach (e::es) X.env=(false,eval e X.env)::starEach es X.env):PE X (.Call (.Name ("len" : Str) p) [.Call (.Name ("set" : Str) p') [e] [] pos'] [] pos) (Jp (Um X.K) t):=by
 intro pins s σ H Q I h;refine Xn (dA I Qk Qf PySem.boot_len ?_ (by decide) (by decide));refine PyProof.Rows.callWith_builtin1 ?_ rfl rfl;show wpAny _ _ (spliced ((false,eval (.Call (.Name ("set" : Str) p') [e] [] pos') X.env)::[])) _ _ s;refine XX ?_;refine Xn (dA I Va Qe boot_set ?_ (by decide) (by decide));refine W9 (cH (ha pos' pins s σ H _ I h) λus s1 bJ=>?_) (qf _) rfl;obtain⟨vs,H1,I1,r1,q1⟩:=bJ;obtain⟨a,ns,rfl,hq,hl,q⟩:=q1;obtain⟨u,rfl,ru⟩:=r1.one;cases ru;obtain⟨its,rv,it,hz⟩:=I1.tuple hq;have hle:its.length=ns.length:=by rw[<- rv.length];simp
 refine rm (I1.ok.hd hc) it (cX rv) (by unfold scanBound;left) λh' tk hS kp=>X6 ?_;rw[zo]at hS;obtain⟨o,es,ep,tb,g1,g2,g3,_,_,g6,g7,g8⟩:=hS;refine call_len_set g1 g2 g3 g7 (by unfold scanBound at g6;omega) ?_;exact⟨.int (qw ns).length,H1,I1.kept (t':=tk+1+1) λb u z=>kp b u (WX z) z,⟨_,by rw[g8]⟩,q⟩
section
variable {X:Cx}{S:Sx}{k:Nat}{F:ai}{Φ:aU}
theorem Lk.RF(L:Lk X S k Φ):X.A.units+40<cLine:=by have:=L.room.units;left
def MV(K:ao)(neg:Bool):R2:=λv u H Q=>∃(d d':D) (N N':gx) (k k':aX),Rep (aT K H) N k v d/\Rep (aT K H) N' k' u d'/\(∀q p xs f,N q p (.l xs) f->de K H p xs)/\(∀q p xs f,N' q p (.l xs) f->de K H p xs)/\eX 40 d=true/\eX 40 d'=true /\
 Q (.bl (if neg then !ju d d' else ju d d')) H
theorem FG(hu:X.A.units+40<cLine):iF X (compareOp .Eq) (MV X.K false):=by
 intro pins s σ H x y v u Q I rx ry h;obtain⟨d,d',N,N',k,k',r1,r2,n1,n2,o1,o2,q⟩:=h;exact(alike I n1 n2 40 X.A r1 r2 o1 o2 rx ry hu).rc X.prog X.w X.xe _ ⟨.bl _,H,I,rfl,q⟩
theorem FD(hu:X.A.units+40<cLine):iF X (compareOp .NotEq) (MV X.K true):=by
 intro pins s σ H x y v u Q I rx ry h;obtain⟨d,d',N,N',k,k',r1,r2,n1,n2,o1,o2,q⟩:=h;exact(alike I n1 n2 40 X.A r1 r2 o1 o2 rx ry hu).ne X.prog X.w X.xe _ ⟨.bl _,H,I,rfl,q⟩
theorem xF{N':gx}{k:aX}{v v':V}{d d':D}(h:Rep T N k v d)(h':Rep T' N' k' v' d')(f:dO d=true)(f':dO d'=true):gq v=true/\BV v v'=ju d d':=by
 cases h<;>first | (cases f;done) | (cases h'<;>first | (cases f';done)|exact⟨rfl,rfl⟩)
theorem gF{k:aX}{v:V}{d:D}(h:Rep T N k v d)(f:dO d=true):gq v=true:=by
 cases h<;>first | (cases f;done)|rfl
theorem iQ{T T':j6}{N N':gx}{k':aX}{v:V}{d:D}(hv:Rep T' N' k' v d)(f:dO d=true):∀{k:aX} {n:Nat} {xs:ae} {ds:ab},az T N k n xs ds->ds.all dO=true->xs.all gq=true/\Nh v xs=inD d ds
 |_,_,_,_,.nil,_=>⟨rfl,rfl⟩
 |_,_,_,_,.cons h t,fs=>by
  rw[List.all_cons,Bool.and_eq_true]at fs;obtain⟨h1,h2⟩:=iQ hv f t fs.2;obtain⟨g1,g2⟩:=xF h hv fs.1 f;refine⟨by rw[List.all_cons,g1,h1];rfl,?_⟩;unfold Nh at h2 ⊢;rw[List.any_cons,g2,h2];rfl
def EZ(K:ao)(op:wG):R2:=match op with
 |.eq=>MV K false
 |.ne=>MV K true
 |.lt=>xH λi j=>.bl (decide (i<j))
 |.le=>xH λi j=>.bl (decide (i<=j))
 |.gt=>xH λi j=>.bl (decide (j<i))
 |.ge=>xH λi j=>.bl (decide (j<=i))
 |.Bw=>λx y H Q=>y=.bz/\Q (.bl (decide (x=.bz))) H
 |.x6=>λx y H Q=>y=.bz/\Q (.bl (!decide (x=.bz))) H
 |.wx=>MU K false
 |.FP=>MU K true
theorem xX(L:Lk X S k Φ)(op:wG):iF X (compareOp (O3 op)) (EZ X.K op):=by
 cases op with
 |eq=>exact FG L.RF
 |ne=>exact FD L.RF
 |lt=>exact J9
 |le=>exact J_
 |gt=>exact Ka
 |ge=>exact Kb
 |Bw=>exact FE
 |x6=>exact A4
 |wx=>exact vv
 |FP=>exact nN
theorem x_{op:CmpOp}{r:Expr}(h:mR r=true):behindInMarks op r=false:=by
 cases r<;>first|rfl | (cases h;done)
theorem ku{op:wG}{x y d:D}(K_:op=.lt\/op=.le\/op=.gt\/op=.ge)(h:dE op x y=ok d):∃i j,x=.int i/\y=.int j:=by
 cases x with
 |int i=>cases y with
  |int j=>exact⟨i,j,rfl,rfl⟩
  |_=>rcases K_ with rfl|rfl|rfl|rfl<;>exact nk h
 |_=>rcases K_ with rfl|rfl|rfl|rfl<;>exact nk h
theorem qB{op:wG}{a b:CE}(hq:tD X F Φ (.cmp op a b) σ H Q):Ek (EZ X.K op) (tD X F Φ a) (tD X F Φ b) σ H Q:=by
 obtain⟨R,τ,ρ,d,Si,ev,hq⟩:=hq;obtain⟨x,ex,ev⟩:=aA ev;obtain⟨y,ey,ev⟩:=aA ev;refine tD.intro Si ex λv H1 e1 r1=>tD.intro (Si.go e1) ey λu H2 e2 r2=>?_;have e:=e1.trans e2;have rv:=r1.go e2;have ru:=r2;obtain⟨τ1,f1,p1⟩:=rv;obtain⟨τ2,f2,p2⟩:=ru;have sq:∀{A:ai} {τ:Addr->Option aX} (q:aX) (p:Addr) (xs:ae) (f:Fl),nd X.K R A τ H2 q p (.l xs) f->de X.K H2 p xs:=λq p xs f h=>h.sq;cases op with
 |eq =>
  obtain⟨hc,ev⟩:=qe ev
  ·subst ev;rw[Bool.and_eq_true]at hc;exact⟨x,y,_,_,_,_,p1,p2,sq,sq,hc.1,hc.2,hq _ H2 e .bl⟩
 |ne =>
  obtain⟨hc,ev⟩:=qe ev
  ·subst ev;rw[Bool.and_eq_true]at hc;exact⟨x,y,_,_,_,_,p1,p2,sq,sq,hc.1,hc.2,hq _ H2 e .bl⟩
 |lt=>obtain⟨i,j,rfl,rfl⟩:=ku (by simp) ev;cases ev;exact⟨_,_,(r1.go e2).isInt,r2.isInt,hq _ H2 e .bl⟩
 |le=>obtain⟨i,j,rfl,rfl⟩:=ku (by simp) ev;cases ev;exact⟨_,_,(r1.go e2).isInt,r2.isInt,hq _ H2 e .bl⟩
 |gt=>obtain⟨i,j,rfl,rfl⟩:=ku (by simp) ev;cases ev;exact⟨_,_,(r1.go e2).isInt,r2.isInt,hq _ H2 e .bl⟩
 |ge=>obtain⟨i,j,rfl,rfl⟩:=ku (by simp) ev;cases ev;exact⟨_,_,(r1.go e2).isInt,r2.isInt,hq _ H2 e .bl⟩
 |Bw =>
  cases y<;>simp[dE]at ev;cases p2;refine⟨rfl,hq _ H2 e ?_⟩;cases ev;cases p1<;>exact .bl
 |x6 =>
  cases y<;>simp[dE]at ev;cases p2;refine⟨rfl,hq _ H2 e ?_⟩;cases ev;cases p1<;>exact .bl
 |wx =>
  simp only[dE]at ev;split at ev
  ·rename_i ds hi;split at ev
   ·rename_i hc;rw[Bool.and_eq_true]at hc;cases ev;cases p2 with
    |tup h rs=>cases hi;obtain⟨g1,g2⟩:=iQ p1 hc.1 rs hc.2;exact⟨_,_,rfl,.inr h,gF p1 hc.1,g1,by rw[g2];exact hq _ H2 e .bl⟩
    |lst h rs=>cases hi;obtain⟨g1,g2⟩:=iQ p1 hc.1 rs hc.2;exact⟨_,_,rfl,.inl h.sq,gF p1 hc.1,g1,by rw[g2];exact hq _ H2 e .bl⟩
    |_=>cases hi
   ·cases ev
  ·cases ev
 |FP =>
  simp only[dE]at ev;split at ev
  ·rename_i ds hi;split at ev
   ·rename_i hc;rw[Bool.and_eq_true]at hc;cases ev;cases p2 with
    |tup h rs=>cases hi;obtain⟨g1,g2⟩:=iQ p1 hc.1 rs hc.2;exact⟨_,_,rfl,.inr h,gF p1 hc.1,g1,by rw[g2];exact hq _ H2 e .bl⟩
    |lst h rs=>cases hi;obtain⟨g1,g2⟩:=iQ p1 hc.1 rs hc.2;exact⟨_,_,rfl,.inl h.sq,gF p1 hc.1,g1,by rw[g2];exact hq _ H2 e .bl⟩
    |_=>cases hi
   ·cases ev
  ·cases ev
theorem xc{c:CE}{Q:Bool->Hp->Prop}(h:ff X F Φ c σ H Q):tB (tD X F Φ c) σ H Q:=by
 obtain⟨R,τ,ρ,b,Si,ev,hq⟩:=h;unfold qQ at ev;obtain⟨d,ed,et⟩:=aA ev;refine tD.intro Si ed λv H' e r=>?_;cases d<;>simp[fA]at et;cases et;exact⟨_,r.vI,hq H' e⟩
theorem cJ{c:CE}{e:Expr}(h:PE X e (tD X F Φ c))(he:∀whole,isTrue e X.env whole=(do let v <- whole;standAt e.pos;holding [v] (truthy v))):PT X e (ff X F Φ c) :=
 PT.imp (Ff h he) λ_ _ _ h=>xc h
theorem vf{op:wG}{a b:CE}{Q:Bool->Hp->Prop}(h:ff X F Φ (.cmp op a b) σ H Q):CV (Ek (EZ X.K op) (tD X F Φ a) (tD X F Φ b)) σ H Q :=
 qB (xc h)
theorem dictAt{pins:ak}{s:Shared}{p:Addr}{cs:aq}{as:aO}(I:Inv X pins σ H s)(h:H p=some (.ext (DO p cs as xs ep))):∃o,s.heap.get? p=some o/\o.cls=.type "dict":=by
 obtain⟨⟨zs,o,es,_,_,_,ho,hx,_⟩,_⟩:=(show cA X.prog X.w H s.heap p (.ext (DO p cs as xs ep)) from I.ck p _ h)
 exact⟨o,ho,hx.1⟩
theorem F8(L:Lk X S k Φ)(t:Ty):eJ X (.builtin "isinstance") (λxs H Q=>∃(x:V) (d:D) (N:gx) (k:aX),xs=[x,.ty (tyName t)]/\Rep (aT X.K H) N k x d/\(∀q p xs f,N q p (.l xs) f->de X.K H p xs)/\(∀q p cs as xs ep f,N q p (.d cs as xs ep) f->H p=some (.ext (DO p cs as xs ep)))/\Q (.bl (fG t d)) H):=by
 intro pins s σ H xs us Q I r h;obtain⟨x,d,N,k,rfl,rp,hN,Vu,q⟩:=h;obtain⟨u,w',rfl,ru,h_⟩:=vals2 r;cases (show w'=Value.type (tyName t) from h_);have kt:=Bn X.K t;have fin:∀b:Bool,b=fG t d->∀tk,EP X pins σ Q (.bool b) { s with toks:=tk }:=λb e tk=>⟨.bl b,H,I.tok tk,rfl,by rw[e];exact q⟩
 cases rp with
 |bz=>cases ru;exact XD PySem.W.kitx_none I.wu True.intro (kt "NoneType" (by simp[kinds])) (λz=>nomatch z) (fin _ (by cases t<;>rfl))
 |bl b=>cases ru;exact XD PySem.W.kitx_bool I.wu True.intro (kt "bool" (by simp[kinds])) (λz=>nomatch z) (fin _ (by cases t<;>rfl))
 |int i=>obtain⟨t',rfl⟩:=ru;exact XD PySem.W.kitx_int I.wu True.intro (kt "int" (by simp[kinds])) (λz=>nomatch z) (fin _ (by cases t<;>rfl))
 |tup h _ =>
  cases ru;obtain⟨its,_,⟨o,h1,h2,_⟩,_⟩:=I.tuple h;exact XD PySem.W.kitx_tuple I.wu ⟨o,h1,h2⟩ (kt "tuple" (by simp[kinds])) (λz=>nomatch z) (fin _ (by cases t<;>rfl))
 |lst h _ =>
  cases ru;obtain⟨its,_,⟨o,n,h1,h2,_⟩,_⟩:=I.list (hN _ _ _ _ h);exact XD PySem.W.kitx_list I.wu ⟨o,h1,h2⟩ (kt "list" (by simp[kinds])) (λz=>nomatch z) (fin _ (by cases t<;>rfl))
 |cE h _ _ =>
  cases ru;obtain⟨o,h1,h2⟩:∃o,s.heap.get? _=some o/\o.cls=.type "dict":=dictAt I (Vu _ _ _ _ _ _ _ h);exact XD PySem.W.kitx_dict I.wu ⟨o,h1,h2⟩ (kt "dict" (by simp[kinds])) (λz=>nomatch z) (fin _ (by cases t<;>rfl))
theorem Cj(t:Ty):bootBuiltins (tyName t:Str)=some (.type (tyName t)):=by
 cases t<;>decide +kernel
theorem mF(t:Ty):(tyName t:Str) ≠ "__name__" /\ ((tyName t:Str)==("__debug__" : Str))=false:=by
 cases t<;>decide +kernel
theorem EM(L:Lk X S k Φ){a:CE}{t:Ty}{e:Expr}{p:Pos}(hf:jb S.sc ("isinstance" : Str)=true)(Vd:("isinstance" : Str)∈S.bl)(hg:jb S.sc (tyName t:Str)=true)(U_:(tyName t:Str)∈S.bl)
  (ha:PE X e (tD X F Φ a)) (qf:∀es,starEach (e::es) X.env=(false,eval e X.env)::starEach es X.env):PE X (.Call (.Name ("isinstance" : Str) p) [e,.Name (tyName t:Str) p'] [] pos) (tD X F Φ (.ue a t)):=by
 have hT:PE X (.Name (tyName t:Str) p') (tC (.ty (tyName t))):=AZ (L.gl hg) (L.bl _ U_) (Cj t) rfl (mF t).1 (mF t).2;refine PE.imp (cV (F8 L t) (L.gl hf) (L.bl _ Vd) PyProof.Rows.boot_isinstance (cO ha (cO hT eW) (qf _)) (he:=qf _)) λσ H Q hq=>?_;obtain⟨R,τ,ρ,d,Si,ev,hq⟩:=hq;obtain⟨x,ex,ev⟩:=aA ev;cases ev;refine tD.intro Si ex λv H1 e1 r1=>?_;obtain⟨τ1,f1,p1⟩:=r1;exact⟨v,x,_,_,rfl,p1,λq p xs f h=>h.sq,λq p cs as xs ep f h=>h.dat,hq _ H1 e1 .bl⟩
theorem Gd:@DI.oU=@L2.oU:=rfl
set_option tactic.hygienic true in
theorem JE(L:Lk X S k Φ){a b:CE}{e i:Expr}(ha:PE X e (tD X F Φ a))(hb:PE X i (tD X F Φ b))(hp:kG i):PE X (.Subscript e i pos) (tD X F Φ (.ix a b)):=by
 refine PE.imp (xT (uc.or yx) ha hb hp) λσ H Q hq=>?_;obtain⟨R,τ,ρ,d,Si,ev,hq⟩:=hq;obtain⟨x,ex,ev⟩:=aA ev;obtain⟨y,ey,ev⟩:=aA ev;refine tD.intro Si ex λv H1 e1 r1=>tD.intro (Si.go e1) ey λu H2 e2 r2=>?_;have ee:=e1.trans e2;have rv:=(r1.go e2).mono (fv':=fL (.ix a b)) λj hj=>W0 _ hj;have item:∀{q:aX} {xs:ae} {ds:ab} {τt:Addr->Option aX} {j:Int},(∀p q,τt p=some q->H p=none)->az (aT X.K H2) (nd X.K R (gZ (gP X F) τ (fL (.ix a b))) τt H2) q 0 xs ds->ni ds j=ok d->∃w,L2.DR xs j=some w/\Q w H2:=by
  intro q xs ds τt j fr rs h;unfold ni at h;split at h
  ·rename_i d' hd;cases h;cases hx:DI.oU ds.length j with
   |none=>rw[hx]at hd;cases hd
   |some m =>
    rw[hx]at hd;obtain⟨w,hw,h_⟩:=rs.get (show ds[m]?=some d' from hd);refine⟨w,?_,hq w H2 ee ⟨λ_=>none,λ_ _ h=>by simp at h,h_.fY Si fr⟩⟩;unfold L2.DR;rw[<- Gd,rs.length,hx];exact hw
  ·cases h
 cases y with
 |int j =>
  obtain⟨τt,fr,rp⟩:=rv;cases r2.isInt;cases x with
  |tup ds =>
   cases rp with
   | @tup _ p xs _ h rs=>obtain⟨w,h1,h2⟩:=item fr rs ev;exact .inr ⟨p,xs,j,w,rfl,rfl,h,h1,h2⟩
  |lst f ds =>
   cases rp with
   | @lst _ p xs _ _ h rs=>obtain⟨w,h1,h2⟩:=item fr rs ev;exact .inl ⟨p,xs,j,w,rfl,rfl,h.sq,h1,h2⟩
  |_=>exact nk ev
 |_=>cases x<;>cases ev
theorem lO:∀(cs:aB) {ρ:aY} {ds:ab},cM Φ cs ρ=ok ds->ds.length=cs.length
 |[],_,_,h=>by cases h;rfl
 |c::cs,_,_,h=>by
  obtain⟨x,_,h⟩:=aA h;obtain⟨xs,hx,h⟩:=aA h;cases h;simp[lO cs hx]
theorem EH{es:au}{n:Nat}(h:PA X es (mJ X F Φ cs))(hl:cs.length<=1000):PE X (.Tuple es n pos) (tD X F Φ (.tup cs)):=by
 refine PE.imp (Fp h) λσ H Q hq=>?_;obtain⟨R,τ,ρ,d,Si,ev,hq⟩:=hq;obtain⟨ds,Hq,ev⟩:=aA ev;cases ev;refine⟨R,τ,ρ,ds,Si,Hq,λvs H1 e1 r1=>?_⟩;obtain⟨τt,fr,rs⟩:=r1;have hz:sizeLine=16777216:=XF;refine⟨by rw[rs.length,lO cs Hq];left,λp hp=>?_⟩;have es:aJ H1 (upd H1 p (.tup vs)):=aJ.upd hp;exact hq _ _ (e1.trans es) ⟨τt,fr,.tup (aT.of aV) (rs.imp (λ_ _ h=>aT.same es h) λ_ _ _ _ h=>nd.same es h)⟩
theorem EK{es:au}(h:PA X es (mJ X F Φ cs))(hl:cs.length<=1000):PE X (.List es pos) (tD X F Φ (.lst cs)):=by
 refine PE.imp (Ft h) λσ H Q hq=>?_;obtain⟨R,τ,ρ,d,Si,ev,hq⟩:=hq;obtain⟨ds,Hq,ev⟩:=aA ev;cases ev;refine⟨R,τ,ρ,ds,Si,Hq,λvs H1 e1 r1=>?_⟩;obtain⟨τt,fr,rs⟩:=r1;have hz:sizeLine=16777216:=XF;refine⟨by rw[rs.length,lO cs Hq];left,λp hp=>?_⟩;have es:aJ H1 (upd H1 p (.lst vs)):=aJ.upd hp;refine hq _ _ (e1.trans es) ⟨λq=>if q=p then some []else τt q,λq z hq=>?_,.lst ⟨aV,by simp⟩ (rs.imp (λ_ _ h=>aT.same es h) λc q xs f h=>?_)⟩
 ·by_cases rY:q=p
  ·subst rY;exact e1.free hp
  ·simp only[rY,if_false]at hq;exact fr q z hq
 ·have h':=nd.same es h;cases f with
  |ow =>
   have rY:q≠p:=by
    intro z;subst z;exact h.1.ne hp
   exact⟨h'.1,by simp only[rY,if_false];exact h'.2⟩
  |fz=>exact h'
  |al=>exact h'
  |sc=>exact h'
theorem AG(L:Lk X S k Φ){f:Nat}{x:Str}{y:Expr}{ys:au}{p:Pos}(hf:S.fn f=some x)(hg:jb S.sc x=true)(hn:jW x=true)(ha:PA X (y::ys) (mJ X F Φ cs))
  (qf:∀es,starEach (y::es) X.env=(false,eval y X.env)::starEach es X.env) (hpl:∀pos,(backTo pos (starEach ys X.env)).any (·.1)=false):PE X (.Call (.Name x p) (y::ys) [] pos) (tD X F Φ (.call f cs)):=by
 obtain⟨a,fd,ps,Fo,hm,hk,hb,hl⟩:=(L.fn f x hf).ex;unfold jW at hn;simp only[Bool.and_eq_true,Bool.not_eq_true']at hn;refine PE.imp (AY Fo L.room (L.gl hg) hm hk hb .nil (J5 (X:=X)) ha hn.1.1 (qf _) (hpl _)) λσ H Q hq=>?_;obtain⟨R,τ,ρ,d,Si,ev,hq⟩:=hq;obtain⟨xs,cL,ev⟩:=aA ev;obtain⟨r,er,ev⟩:=aA ev;cases ev;refine⟨R,τ,ρ,xs,Si,cL,λvs H1 e1 r1=>?_⟩;obtain⟨τt,fr,rs⟩:=r1;have fresh:∀p,H p=none->gZ (gP X F) τ (cT cs) p:=λp hp=>⟨.inr (Si.same.free hp),λc i e=>absurd hp (Si.th p _ e)⟩
 have hR:∀p,R p->gZ (gP X F) τ (cT cs) p:=λp hp=>⟨Si.rf p hp,λc i e=>by rw[Si.rt p hp]at e;cases e⟩
 rw[List.append_nil];refine⟨gZ (gP X F) τ (cT cs),aG bo xs,r,by rw[rs.length,<- hl _ _ er,bA,List.length_map],az.ie (λ_ _ h=>h) (λk k' p xs f h=>?_) rs _ _,er,λv H2 e2 rr=>?_⟩
 ·cases f with
  |ow=>exact⟨h.1,fresh p (fr p _ h.2)⟩
  |fz=>exact⟨h.1,hR p h.2⟩
  |al=>exact h
  |sc=>exact h
 ·obtain⟨τ2,IC,rp⟩:=rr;refine hq v H2 (e1.trans e2) ⟨τ2,λp q h=>e1.free (IC p q h),Rep.map (q:=[]) (q':=[]) (λ_ _ h=>h) (λc p xs f h=>?_) rp [] rfl⟩;cases f with
  |ow=>exact h
  |fz=>exact⟨h.1,h.2.elim id λz=>fresh p (e1.free z)⟩
  |al=>exact h.2.elim
  |sc=>exact h
def RL(K:ao)(f:Bf):ae->Hp->VK->Prop:=match f with
 |.len=>λxs H Q=>∃p ys,xs=[.ref p]/\(de K H p ys\/aT K H p ys)/\Q (.int ys.length) H
 |.abs=>λxs H Q=>∃i,xs=[.int i]/\Q (.int (if i<0 then -i else i)) H
 |.min2=>λxs H Q=>∃i j,xs=[.int i,.int j]/\Q (.int (if j<i then j else i)) H
 |.list1=>λxs H Q=>∃p ys,xs=[.ref p]/\(de K H p ys\/aT K H p ys)/\∀l,H l=none->Q (.ref l) (upd H l (.lst ys))
 |.tuple1=>λxs H Q=>∃p ys,xs=[.ref p]/\((de K H p ys/\∀l,H l=none->Q (.ref l) (upd H l (.tup ys)))\/(aT K H p ys/\Q (.ref p) H))
 |.md=>λxs H Q=>∃(p:Addr) (ns:aa),xs=[.ref p]/\de K H p (ns.map V.int)/\Q (.int ns.sum) H
 |.all1=>λxs H Q=>∃(p:Addr) (bs:List Bool),xs=[.ref p]/\de K H p (bs.map V.bl)/\Q (.bl (bs.all id)) H
 |.dr=>λxs H Q=>∃(p:Addr) (ns:aa),xs=[.ref p]/\(de K H p (ns.map V.int)\/aT K H p (ns.map V.int))/\ns.length<64/\∀l,H l=none->Q (.ref l) (upd H l (.lst ((sortI ns).map V.int)))
theorem az.one{k:aX}{n:Nat}{d:D}(h:az T N k n vs [d]):∃v,vs=[v]/\Rep T N (n::k) v d:=by
 cases h with
 |cons h t=>cases t;exact⟨_,rfl,h⟩
theorem az.two{k:aX}{n:Nat}{d e:D}(h:az T N k n vs [d,e]):∃v w,vs=[v,w]/\Rep T N (n::k) v d/\Rep T N ((n+1)::k) w e:=by
 cases h with
 |cons h t=>obtain⟨w,rfl,h'⟩:=t.one;exact⟨_,_,rfl,h,h'⟩
theorem az.ints1{k:aX}{n:Nat}{i:Int}(h:az T N k n vs [.int i]):vs=[.int i]:=by
 obtain⟨v,rfl,z⟩:=h.one;cases z;rfl
theorem az.ints2{k:aX}{n:Nat}{i j:Int}(h:az T N k n vs [.int i,.int j]):vs=[.int i,.int j]:=by
 obtain⟨v,w,rfl,z,z'⟩:=h.two;cases z;cases z';rfl
noncomputable def Bf.one:Bf->Bool
 |.min2=>false
 |_=>true
theorem HJ{f:Bf}{xs:ab}{d:D}(hf:f.one=true)(h:qS f xs=ok d):∃x,xs=[x]:=by
 cases xs with
 |nil=>cases f<;>exact nk h
 |cons x xs=>cases xs with
  |nil=>exact⟨x,rfl⟩
  |cons y ys=>cases f<;>first | (cases hf;done) | (cases x<;>exact nk h)
theorem V6{xs:ab}{d:D}(h:qS .min2 xs=ok d):∃i j,xs=[.int i,.int j]:=by
 cases xs with
 |nil=>cases h
 |cons x xs=>cases xs with
  |nil=>cases x<;>cases h
  |cons y ys=>cases ys with
   |cons z zs=>cases x<;>first | (cases h;done) | (cases y<;>cases h)
   |nil=>cases x<;>first | (cases h;done) | (cases y<;>first|exact⟨_,_,rfl⟩ | (cases h;done))
theorem az.ofInts{T:j6}{N:gx}{k:aX}:∀{ns:aa} {n:Nat} {vs:ae},az T N k n vs (ns.map D.int)->vs=ns.map V.int
 |[],_,_,h=>by cases h;rfl
 |i::ns,_,_,h=>by
  cases h with
  |cons h t=>cases h;rw[az.ofInts t];rfl
theorem az.Dl{T:j6}{N:gx}{k:aX}:∀{ns:List Bool} {n:Nat} {vs:ae},az T N k n vs (ns.map D.bl)->vs=ns.map V.bl
 |[],_,_,h=>by cases h;rfl
 |i::ns,_,_,h=>by
  cases h with
  |cons h t=>cases h;rw[az.Dl t];rfl
theorem gJ{T:j6}{N:gx}{k:aX}:∀(ns:aa) {n:Nat},az T N k n (ns.map V.int) (ns.map D.int)
 |[],_=>.nil
 |i::ns,_=>.cons (.int i) (gJ ns)
set_option tactic.hygienic true in
theorem Ck{f:Bf}(hq:tD X F Φ (.bf f cs) σ H Q):Jp (RL X.K f) (mJ X F Φ cs) σ H Q:=by
 obtain⟨R,τ,ρ,d,Si,ev,hq⟩:=hq;obtain⟨xs,cL,ev⟩:=aA ev;refine⟨R,τ,ρ,xs,Si,cL,λvs H1 e1 r1=>?_⟩;obtain⟨τt,fr,rs⟩:=r1;cases f with
 |len =>
  obtain⟨x,rfl⟩:=HJ rfl ev;obtain⟨v,rfl,rv⟩:=rs.one;cases x with
  |tup ds=>cases ev;obtain⟨_,_,rfl,h,r⟩:=rv.D5;exact⟨_,_,rfl,.inr h,by rw[r.length];exact hq _ H1 e1 .int⟩
  |lst f ds=>cases ev;obtain⟨_,_,rfl,h,r⟩:=rv.oV;exact⟨_,_,rfl,.inl h.sq,by rw[r.length];exact hq _ H1 e1 .int⟩
  |_=>exact nk ev
 |abs =>
  obtain⟨x,rfl⟩:=HJ rfl ev;cases x with
  |int i=>cases ev;cases rs.ints1;exact⟨_,rfl,hq _ H1 e1 .int⟩
  |_=>exact nk ev
 |min2 =>
  obtain⟨i,j,rfl⟩:=V6 ev;cases ev;cases rs.ints2;exact⟨_,_,rfl,hq _ H1 e1 .int⟩
 |list1 =>
  obtain⟨x,rfl⟩:=HJ rfl ev;obtain⟨v,rfl,rv⟩:=rs.one;cases x with
  |tup ds =>
   cases ev;obtain⟨_,_,rfl,h,r⟩:=rv.D5;refine⟨_,_,rfl,.inr h,λl hl=>?_⟩;exact hq _ _ (e1.trans (aJ.upd hl)) (bN.p5 (e1.free hl) (e1.trans (aJ.upd hl)) aV ((r.fY Si fr).imp (λ_ _ h=>aT.same (aJ.upd hl) h) λ_ _ _ _ h=>nd.same (aJ.upd hl) h))
  |lst f ds =>
   cases ev;obtain⟨_,_,rfl,h,r⟩:=rv.oV;refine⟨_,_,rfl,.inl h.sq,λl hl=>?_⟩;exact hq _ _ (e1.trans (aJ.upd hl)) (bN.p5 (e1.free hl) (e1.trans (aJ.upd hl)) aV ((r.fY Si fr).imp (λ_ _ h=>aT.same (aJ.upd hl) h) λ_ _ _ _ h=>nd.same (aJ.upd hl) h))
  |_=>exact nk ev
 |tuple1 =>
  obtain⟨x,rfl⟩:=HJ rfl ev;obtain⟨v,rfl,rv⟩:=rs.one;cases x with
  |lst f ds =>
   cases ev;obtain⟨_,_,rfl,h,r⟩:=rv.oV;refine⟨_,_,rfl,.inl ⟨h.sq,λl hl=>?_⟩⟩;exact hq _ _ (e1.trans (aJ.upd hl)) ⟨λ_=>none,λ_ _ h=>by simp at h,.tup (aT.of aV) ((r.fY Si fr).imp (λ_ _ h=>aT.same (aJ.upd hl) h) λ_ _ _ _ h=>nd.same (aJ.upd hl) h)⟩
  |_=>exact nk ev
 |md =>
  obtain⟨x,rfl⟩:=HJ rfl ev;obtain⟨v,rfl,rv⟩:=rs.one;cases x with
  |lst f ds =>
   have ev:(match intsOf ds with|some ns=>ok (.int ns.sum)|none=>none)=ok d:=ev;cases hn:intsOf ds with
   |none=>rw[hn]at ev;cases ev
   |some ns =>
    rw[hn]at ev;cases ev;cases fi hn;cases rv with
    |lst h r=>cases r.ofInts;exact⟨_,ns,rfl,h.sq,hq _ H1 e1 .int⟩
  |_=>exact nk ev
 |all1 =>
  obtain⟨x,rfl⟩:=HJ rfl ev;obtain⟨v,rfl,rv⟩:=rs.one;cases x with
  |lst f ds =>
   have ev:(match gX ds with|some bs=>ok (.bl (bs.all id))|none=>none)=ok d:=ev;cases hn:gX ds with
   |none=>rw[hn]at ev;cases ev
   |some ns =>
    rw[hn]at ev;cases ev;cases qG hn;cases rv with
    |lst h r=>cases r.Dl;exact⟨_,ns,rfl,h.sq,hq _ H1 e1 .bl⟩
  |_=>exact nk ev
 |dr =>
  obtain⟨x,rfl⟩:=HJ rfl ev;obtain⟨v,rfl,rv⟩:=rs.one;have fin:∀ds,jI ds=ok d->∃ns:aa,ds=ns.map D.int/\ns.length<64/\∀l,H1 l=none->Q (.ref l) (upd H1 l (.lst ((sortI ns).map V.int))):=by
   intro ds e;unfold jI at e;split at e
   ·rename_i ns hn;split at e
    ·rename_i c_;cases e;refine⟨ns,fi hn,c_,λl hl=>hq _ _ (e1.trans (aJ.upd hl)) (bN.p5 (e1.free hl) (e1.trans (aJ.upd hl)) aV (gJ _))⟩
    ·cases e
   ·cases e
  cases x with
  |tup ds =>
   obtain⟨ns,rfl,c_,q⟩:=fin ds ev;cases rv with
   |tup h r=>cases r.ofInts;exact⟨_,ns,rfl,.inr h,c_,q⟩
  |lst f ds =>
   obtain⟨ns,rfl,c_,q⟩:=fin ds ev;cases rv with
   |lst h r=>cases r.ofInts;exact⟨_,ns,rfl,.inl h.sq,c_,q⟩
  |_=>exact nk ev
theorem JF(L:Lk X S k Φ){f:Bf}{y:Expr}{ys:au}{p:Pos}(hg:jb S.sc (oI f:Str)=true)(hb:(oI f:Str)∈S.bl)(ha:PA X (y::ys) (mJ X F Φ cs))
  (qf:∀es,starEach (y::es) X.env=(false,eval y X.env)::starEach es X.env) (hpl:∀pos,(backTo pos (starEach ys X.env)).any (·.1)=false):PE X (.Call (.Name (oI f:Str) p) (y::ys) [] pos) (tD X F Φ (.bf f cs)):=by
 refine PE.imp (t:=Jp (RL X.K f) (mJ X F Φ cs)) ?_ λσ H Q hq=>Ck hq;cases f with
 |len=>exact cV oH (L.gl hg) (L.bl _ hb) PySem.boot_len ha (he:=qf _) (hpl:=hpl _)
 |abs=>exact cV zy (L.gl hg) (L.bl _ hb) (by decide +kernel) ha (he:=qf _) (hpl:=hpl _)
 |min2=>exact cV (wc L.calm) (L.gl hg) (L.bl _ hb) (by decide +kernel) ha (he:=qf _) (hpl:=hpl _)
 |list1=>exact mP oG (L.gl hg) (L.bl _ hb) (by decide +kernel) ha (he:=qf _) (hpl:=hpl _)
 |tuple1=>exact mP mz (L.gl hg) (L.bl _ hb) (by decide +kernel) ha (he:=qf _) (hpl:=hpl _)
 |md=>exact cV (wb L.calm) (L.gl hg) (L.bl _ hb) (by decide +kernel) ha (he:=qf _) (hpl:=hpl _)
 |dr=>exact cV oF (L.gl hg) (L.bl _ hb) (by decide +kernel) ha (he:=qf _) (hpl:=hpl _)
 |all1=>exact cV (we L.calm) (L.gl hg) (L.bl _ hb) (by decide +kernel) ha (he:=qf _) (hpl:=hpl _)
theorem EI{a:CE}{e:Expr}(h:PE X e (tD X F Φ a)):PE X (.UnaryOp .Not e pos) (tD X F Φ (.not a)):=by
 refine PE.imp (Fq h) λσ H Q hq=>?_;obtain⟨R,τ,ρ,d,Si,ev,hq⟩:=hq;obtain⟨b,eb,ev⟩:=aA ev;obtain⟨x,ex,eb⟩:=aA eb;cases ev;refine tD.intro Si ex λv H1 e1 r1=>?_;cases x<;>simp[fA]at eb;cases eb;exact⟨_,r1.vI,hq _ H1 e1 .bl⟩
theorem Er{a:CE}{e:Expr}(h:PT X e (ff X F Φ a)):PT X (.UnaryOp .Not e pos) (ff X F Φ (.not a)):=by
 refine PT.imp (Fg h) λσ H Q hq=>?_;obtain⟨R,τ,ρ,b,Si,ev,hq⟩:=hq;unfold qQ at ev;obtain⟨d,ed,ev⟩:=aA ev;obtain⟨c,ec,ed⟩:=aA ed;cases ed;have L3:b=!c:=by
  have e2:ok (!c)=ok b:=ev;exact(Except.ok.inj (W4 e2)).symm
 subst L3;exact⟨R,τ,ρ,c,Si,ec,λH' e=>hq H' e⟩
theorem EL{c a b:CE}{t x y:Expr}(hc:PT X t (ff X F Φ c))(ha:PE X x (tD X F Φ a))(hb:PE X y (tD X F Φ b)):PE X (.IfExp t x y pos) (tD X F Φ (.ite c a b)):=by
 refine PE.imp (xU hc ha hb) λσ H Q hq=>?_;obtain⟨R,τ,ρ,d,Si,ev,hq⟩:=hq;obtain⟨w,ew,ev⟩:=aA ev;refine⟨R,τ,ρ,w,Si,ew,λH1 e1=>?_⟩;cases w with
 |true=>exact tD.intro (Si.go e1) ev λv H' e r=>hq v H' (e1.trans e) ((r.old e1).mono λi hi=>by simp[fL,hi])
 |false=>exact tD.intro (Si.go e1) ev λv H' e r=>hq v H' (e1.trans e) ((r.old e1).mono λi hi=>by simp[fL,hi])
theorem Es{c a b:CE}{t x y:Expr}(hc:PT X t (ff X F Φ c))(ha:PT X x (ff X F Φ a))(hb:PT X y (ff X F Φ b)):PT X (.IfExp t x y pos) (ff X F Φ (.ite c a b)):=by
 intro pins s σ H Q I hq;obtain⟨R,τ,ρ,d,Si,ev,hq⟩:=hq;unfold qQ at ev;obtain⟨x',L1,et⟩:=aA ev;obtain⟨w,ew,ev⟩:=aA L1;refine isTrue_IfExp (cH (hc pins s σ H (λw' H1=>w'=w/\aJ H H1) I ⟨R,τ,ρ,w,Si,ew,λH1 e1=>⟨rfl,e1⟩⟩) λw' s1 bJ=>?_);obtain⟨H1,I1,hw,e1⟩:=bJ;subst hw;cases w' with
 |true=>exact ha pins s1 σ H1 Q I1 ⟨R,τ,ρ,d,Si.go e1,by unfold qQ;rw[show bg Φ a ρ=ok x' from ev];exact et,λH' e=>hq H' (e1.trans e)⟩
 |false=>exact hb pins s1 σ H1 Q I1 ⟨R,τ,ρ,d,Si.go e1,by unfold qQ;rw[show bg Φ b ρ=ok x' from ev];exact et,λH' e=>hq H' (e1.trans e)⟩
theorem EJ{a:CE}{e:Expr}(h:PE X e (tD X F Φ a)):PE X (.UnaryOp .USub e pos) (tD X F Φ (.neg a)):=by
 refine PE.imp (JZ D9 h) λσ H Q hq=>?_;obtain⟨R,τ,ρ,d,Si,ev,hq⟩:=hq;obtain⟨x,ex,ev⟩:=aA ev;refine tD.intro Si ex λv H1 e1 r1=>?_;cases x<;>simp[Be]at ev;cases ev;exact⟨_,r1.isInt,hq _ H1 e1 .int⟩
theorem Ct{c:CE}(hq:tD X F Φ (.and [c]) σ H Q):tD X F Φ c σ H Q:=by
 obtain⟨R,τ,ρ,d,Si,ev,hq⟩:=hq;obtain⟨b,eb,ev⟩:=aA ev;obtain⟨x,ex,eb⟩:=aA eb;cases ev;refine tD.intro Si ex λv H1 e1 r1=>?_;cases x<;>simp[fA]at eb;cases eb;rw[r1.vI];exact hq _ H1 e1 .bl
theorem FC{c:CE}(hq:tD X F Φ (.or [c]) σ H Q):tD X F Φ c σ H Q:=by
 obtain⟨R,τ,ρ,d,Si,ev,hq⟩:=hq;obtain⟨b,eb,ev⟩:=aA ev;obtain⟨x,ex,eb⟩:=aA eb;cases ev;refine tD.intro Si ex λv H1 e1 r1=>?_;cases x<;>simp[fA]at eb;cases eb;rw[r1.vI];exact hq _ H1 e1 .bl
theorem zE{c:CE}{Q:Bool->Hp->Prop}(hq:ff X F Φ (.and [c]) σ H Q):ff X F Φ c σ H Q:=by
 obtain⟨R,τ,ρ,d,Si,ev,hq⟩:=hq;unfold qQ at ev;obtain⟨b,eb,ev⟩:=aA ev;obtain⟨x,ex,eb⟩:=aA eb;cases eb;cases ev;exact⟨R,τ,ρ,_,Si,ex,hq⟩
theorem A2{c:CE}{Q:Bool->Hp->Prop}(hq:ff X F Φ (.or [c]) σ H Q):ff X F Φ c σ H Q:=by
 obtain⟨R,τ,ρ,d,Si,ev,hq⟩:=hq;unfold qQ at ev;obtain⟨b,eb,ev⟩:=aA ev;obtain⟨x,ex,eb⟩:=aA eb;cases eb;cases ev;exact⟨R,τ,ρ,_,Si,ex,hq⟩
theorem zF{c:CE}(hq:tD X F Φ (.and (c::c'::cs)) σ H Q):CZ (tD X F Φ c) (tD X F Φ (.and (c'::cs))) σ H Q:=by
 obtain⟨R,τ,ρ,d,Si,ev,hq⟩:=hq;obtain⟨b,eb,ev⟩:=aA ev;obtain⟨x,ex,eb⟩:=aA eb;refine tD.intro Si ex λv H1 e1 r1=>?_;cases x<;>simp[fA]at eb;cases eb;refine⟨_,r1.vI,?_⟩;cases b with
 |true =>
  rw[if_pos rfl]at ev ⊢;exact tD.intro (Si.go e1) ev λv H' e r=>hq v H' (e1.trans e) ((r.old e1).mono λi hi=>WW _ hi)
 |false =>
  rw[if_neg (by simp)]at ev ⊢;cases ev;exact hq _ H1 e1 .bl
theorem A3{c:CE}(hq:tD X F Φ (.or (c::c'::cs)) σ H Q):Jj (tD X F Φ c) (tD X F Φ (.or (c'::cs))) σ H Q:=by
 obtain⟨R,τ,ρ,d,Si,ev,hq⟩:=hq;obtain⟨b,eb,ev⟩:=aA ev;obtain⟨x,ex,eb⟩:=aA eb;refine tD.intro Si ex λv H1 e1 r1=>?_;cases x<;>simp[fA]at eb;cases eb;refine⟨_,r1.vI,?_⟩;cases b with
 |false =>
  rw[if_neg (by simp)]at ev ⊢;exact tD.intro (Si.go e1) ev λv H' e r=>hq v H' (e1.trans e) ((r.old e1).mono λi hi=>WW _ hi)
 |true =>
  rw[if_pos rfl]at ev ⊢;cases ev;exact hq _ H1 e1 .bl
theorem wm{c:CE}{Q:Bool->Hp->Prop}(hq:ff X F Φ (.and (c::c'::cs)) σ H Q):Jq (ff X F Φ c) (ff X F Φ (.and (c'::cs))) σ H Q:=by
 obtain⟨R,τ,ρ,d,Si,ev,hq⟩:=hq;unfold qQ at ev;obtain⟨x,ex,et⟩:=aA ev;obtain⟨b,eb,ev⟩:=aA ex;refine⟨R,τ,ρ,b,Si,eb,λH1 e1=>?_⟩;cases b with
 |true =>
  rw[if_pos rfl]at ev ⊢;exact⟨R,τ,ρ,d,Si.go e1,by unfold qQ;rw[show bg Φ (.and (c'::cs)) ρ=ok x from ev];exact et,λH' e=>hq H' (e1.trans e)⟩
 |false =>
  rw[if_neg (by simp)]at ev ⊢;cases ev;cases et;exact hq H1 e1
theorem xW{c:CE}{Q:Bool->Hp->Prop}(hq:ff X F Φ (.or (c::c'::cs)) σ H Q):RG (ff X F Φ c) (ff X F Φ (.or (c'::cs))) σ H Q:=by
 obtain⟨R,τ,ρ,d,Si,ev,hq⟩:=hq;unfold qQ at ev;obtain⟨x,ex,et⟩:=aA ev;obtain⟨b,eb,ev⟩:=aA ex;refine⟨R,τ,ρ,b,Si,eb,λH1 e1=>?_⟩;cases b with
 |false =>
  rw[if_neg (by simp)]at ev ⊢;exact⟨R,τ,ρ,d,Si.go e1,by unfold qQ;rw[show bg Φ (.or (c'::cs)) ρ=ok x from ev];exact et,λH' e=>hq H' (e1.trans e)⟩
 |true =>
  rw[if_pos rfl]at ev ⊢;cases ev;cases et;exact hq H1 e1
theorem eO{Q:ae->Hp->Prop}(hq:mJ X F Φ [] σ H Q):Jl σ H Q:=by
 obtain⟨R,τ,ρ,d,Si,ev,hq⟩:=hq;cases ev;exact hq _ H (aJ.refl H) .nil
theorem cU{c:CE}{Q:ae->Hp->Prop}(hq:mJ X F Φ (c::cs) σ H Q):CY (tD X F Φ c) (mJ X F Φ cs) σ H Q:=by
 obtain⟨R,τ,ρ,d,Si,ev,hq⟩:=hq;obtain⟨x,ex,ev⟩:=aA ev;obtain⟨xs,cL,ev⟩:=aA ev;cases ev;refine tD.intro Si ex λv H1 e1 r1=>⟨R,τ,ρ,xs,Si.go e1,cL,λvs H2 e2 r2=>hq _ H2 (e1.trans e2) (bY.cons e1 e2 (r1.mono λi hi=>W0 _ hi) (r2.mono λi hi=>WW _ hi))⟩
theorem b_{c:CE}{e:Expr}(h:bM S c e=true)(es:au)(env:Env):starEach (e::es) env=(false,eval e env)::starEach es env:=by
 cases e<;>first|rfl | (cases c<;>exact(WS h).elim)
theorem sx:∀{cs:aB} {es:au},bB S cs es=true->∀(pos:Pos) (env:Env),(backTo pos (starEach es env)).any (·.1)=false
 |[],[],_,_,_=>rfl
 |[],_::_,h,_,_=>by exact(WS h).elim
 |_::_,[],h,_,_=>by exact(WS h).elim
 |c::cs,e::es,h,pos,env=>by
  replace h:=aI h;rw[b_ h.1];have:=sx h.2 pos env;unfold backTo at this ⊢;simp only[List.map_cons,List.any_cons,Bool.false_or];exact this
theorem m8{c:CE}{e:Expr}(h:bM S c e=true):kG e:=by
 intro o i;cases e<;>first|rfl | (cases c<;>exact(WS h).elim)
theorem xx{j:Nat}:PE X (.Constant .none j pos) (tD X F Φ .bz):=PE.imp Fs λσ H Q bJ=>by obtain⟨R,τ,ρ,d,Si,ev,hq⟩:=bJ;cases ev;exact hq _ H (aJ.refl H) .bz
theorem C5{b:Bool}{j:Nat}:PE X (.Constant (.bool b) j pos) (tD X F Φ (.bl b)):=PE.imp J4 λσ H Q bJ=>by obtain⟨R,τ,ρ,d,Si,ev,hq⟩:=bJ;cases ev;exact hq _ H (aJ.refl H) .bl
theorem xy{i:Int}{j:Nat}:PE X (.Constant (.int i) j pos) (tD X F Φ (.int i)):=PE.imp Fv λσ H Q bJ=>by obtain⟨R,τ,ρ,d,Si,ev,hq⟩:=bJ;cases ev;exact hq _ H (aJ.refl H) .int
theorem Gg(L:Lk X S k Φ){y:Expr}{p Gk:Pos}(g1:jb S.sc ("range" : Str)=true)(g2:("range" : Str)∈S.bl)(pa:PA X [y] (mJ X F Φ es))(vO:bB S es [y]=true)
  (pins:ak) (s:Shared) (σ:St) (H:Hp) (R:ai) (τ:Addr->Option aX) (ρ:aY) (xs items:ab) (I:Inv X pins σ H s) (Si:SI X F R τ ρ σ H) (cL:cM Φ es ρ=ok xs) (si:dB Φ .kW xs=ok items) (Rr:It->Hp->Prop)
  (hR:∀J H2,aJ H H2->Yl X.K J (ji X F τ (caps++cT es) H2) H2 items->Rr J H2) :
  wpAny (model X.prog X.w) X.A (eval (.Call (.Name ("range" : Str) p) [y] [] Gk) X.env) (λv s1=>wpAny (model X.prog X.w) X.A (pyIter v) (zY X pins σ target Rr) X.xe s1) X.xe s:=by
 match es,vO with
 |[c],vO =>
  replace vO:=aI vO;refine mO (L.gl g1) (L.bl _ g2) pa (b_ vO.1 _ _) pins s σ H Rr I ⟨R,τ,ρ,xs,Si,cL,λvs H1 e1 rv=>?_⟩;obtain⟨τt,fr,rs⟩:=rv;obtain⟨n,rfl⟩:∃n,xs=[.int n]:=by
   cases xs with
   |nil=>cases si
   |cons x t=>cases x<;>first | (cases si;done) | (cases t with|nil=>exact⟨_,rfl⟩|cons _ _=>cases si)
  cases rs.ints1
  ·obtain⟨⟨c1,c2⟩,si⟩:=qe si;subst si;have n9:(eK:Int)=1000000:=rfl;refine⟨n,rfl,by left,by left,hR _ H1 e1 ?_⟩;have:=D0 (X:=X) (lo:=0) (n:=n.toNat) (R:=ji X F τ (caps++cT [c]) H1) (H1:=H1);simpa using this
 |[],vO=>exact(WS vO).elim
 |_::_::_,vO=>exact(WS (aI vO).2).elim
theorem Gf(L:Lk X S k Φ){c:CE}{y:Expr}(pe:PE X y (tD X F Φ c))
  (pins:ak) (s:Shared) (σ:St) (H:Hp) (R:ai) (τ:Addr->Option aX) (ρ:aY) (xs items:ab) (I:Inv X pins σ H s) (Si:SI X F R τ ρ σ H) (cL:cM Φ [c] ρ=ok xs) (si:dB Φ .seq xs=ok items) (Rr:It->Hp->Prop)
  (hR:∀J H2,aJ H H2->Yl X.K J (ji X F τ (caps++cT [c]) H2) H2 items->Rr J H2) :
  wpAny (model X.prog X.w) X.A (eval y X.env) (λv s1=>wpAny (model X.prog X.w) X.A (pyIter v) (zY X pins σ target Rr) X.xe s1) X.xe s:=by
 obtain⟨x,ex,cL⟩:=aA cL;obtain⟨xs',QR,cL⟩:=aA cL;cases QR;cases cL;have SA:∀i∈fL c,i∈caps++cT [c]:=λi hi=>WW _ (W0 _ hi);cases x with
 |tup ds =>
  cases si;refine xN pe pins s σ H Rr I (tD.intro Si ex λv H1 e1 rv=>?_);obtain⟨τt,fr,rp⟩:=rv;cases rp with
  | @tup _ p ys _ hp rs=>exact⟨p,rfl,⟨ys,hp⟩,hR _ H1 e1 (DZ (q:=[]) hp (az.ie (λ_ _ h=>h) (rn Si fr SA) rs _ _))⟩
 |lst f ds =>
  cases si;refine tR pe pins s σ H Rr I (tD.intro Si ex λv H1 e1 rv=>?_);obtain⟨τt,fr,rp⟩:=rv;cases rp with
  | @lst _ p ys _ _ hp rs=>exact⟨p,rfl,⟨ys,hp.sq⟩,hR _ H1 e1 (z4 (q:=[]) hp.sq (az.ie (λ_ _ h=>h) (rn Si fr SA) rs _ _))⟩
 |_=>cases si
theorem IL{xs:ab}{J:It}(Si:SI X F R τ ρ σ H)(hs:∀i∈fv,i∈fv')(r:bY X.K (gP X F) R τ fv H H2 vs xs)(y:Mz X.K J H2 vs xs items):
  Yl X.K J (ji X F τ fv' H2) H2 items:=by
 obtain⟨τt,fr,rs⟩:=r;have at':∀H',aJ H2 H'->az (aT X.K H') (nd X.K (ji X F τ fv' H2) (λ_=>False) (λ_=>none) H') [] 0 vs (aG bo xs):=λH' e =>
  (az.ie (T':=aT X.K H2) (λ_ _ h=>h) (rn Si fr hs) rs [] 0).imp (λ_ _ h=>aT.same e h) λ_ _ _ _ h=>nd.same e h
 have st:∀H',aJ H2 H'->qK X.K H2 vs xs H':=λH' e=>⟨⟨_,at' H2 (aJ.refl H2),λp o _ h=>e p o h⟩,λ_ _ h=>aT.same e h⟩
 exact⟨λi H' e hi=>y.go i H' _ (st H' e) (at' H' e) hi,λi H' x kH e hi hy=>y.qM i H' _ x kH (st H' e) (at' H' e) hi hy,λi H' e hi=>y.stop i H' _ (st H' e) (at' H' e) hi⟩
theorem Gh(L:Lk X S k Φ){p:Nat}{y:Expr}(hp:S.px.pi p S.sc S.bl y=some args)(ht:(decide (1100<=p)||gm target)=true)(hs:mC X F Φ es args)
  (pins:ak) (s:Shared) (σ:St) (H:Hp) (R:ai) (τ:Addr->Option aX) (ρ:aY) (xs items:ab) (I:Inv X pins σ H s) (Si:SI X F R τ ρ σ H) (cL:cM Φ es ρ=ok xs) (si:dB Φ (.bX p) xs=ok items) (Rr:It->Hp->Prop)
  (hR:∀J H2,aJ H H2->Yl X.K J (ji X F τ (caps++cT es) H2) H2 items->Rr J H2) :
  wpAny (model X.prog X.w) X.A (eval y X.env) (λv s1=>wpAny (model X.prog X.w) X.A (pyIter v) (zY X pins σ target Rr) X.xe s1) X.xe s:=by
 obtain⟨d,ed,ei⟩:=aA (show bd (Φ p xs) nH=ok items from si);exact L.pr.i X _ _ k L.pX p y args hp F es target ht hs pins s σ H R τ ρ xs d items I Si cL ed ei Rr λJ H2 vs e2 r yz=>hR J H2 e2 (IL Si (λi hi=>by simp[hi]) r yz)
theorem qz{S':Sx}{ifs:au}(h3:bu.length<=1)(h4:bB S' bu ifs=true)
  (n8:∀(X':Cx) (F':ai),Lk X' S' k Φ->∀(j:Nat) (c:CE) (e:Expr),bu[j]?=some c->ifs[j]?=some e->PE X' e (tD X' F' Φ c)/\PT X' e (ff X' F' Φ c)) :
  (bu=[]/\ifs=[])\/∃c e,bu=[c]/\ifs=[e]/\∀(X':Cx) (F':ai),Lk X' S' k Φ->PT X' e (ff X' F' Φ c):=by
 cases bu with
 |nil=>cases ifs with
  |nil=>exact .inl ⟨rfl,rfl⟩
  |cons _ _=>exact(WS h4).elim
 |cons c cs=>cases cs with
  |cons _ _=>simp at h3
  |nil=>cases ifs with
   |nil=>exact(WS h4).elim
   |cons e ifs=>cases ifs with
    |cons _ _=>exact(WS (aI h4).2).elim
    |nil=>exact .inr ⟨c,e,rfl,rfl,λX' F' L'=>(n8 X' F' L' 0 c e rfl rfl).2⟩
def Mg(S:Sx)(ik:IK)(es:aB)(target iter:Expr):Bool:=match ik with
 |.kW=>bj (gR iter) λw=>decide (w.1=("range" : Str))&&jb S.sc w.1&&decide (w.1∈S.bl)&&bj (one w.2) λy=>bB S es [y]
 |.seq=>bB S es [iter]
 |.bX p=>M1 iter&&(decide (1100<=p)||gm target)&&bj (S.px.pi p S.sc S.bl iter) λxs=>bB S es xs
theorem yC(L:Lk X S k Φ){ik:IK}(vO:∀l,bB S es l=true->PA X l (mJ X F Φ es))
  (n8:∀l,bB S es l=true->∀(j:Nat) (c:CE) (e:Expr),es[j]?=some c->l[j]?=some e->PE X e (tD X F Φ c)/\PT X e (ff X F Φ c)) (PY:∀l,bB S es l=true->mC X F Φ es l) (h6:Mg S ik es target iter=true) :
  ∀(pins:ak) (s:Shared) (σ:St) (H:Hp) (R:ai) (τ:Addr->Option aX) (ρ:aY) (xs items:ab),Inv X pins σ H s->SI X F R τ ρ σ H->cM Φ es ρ=ok xs->dB Φ ik xs=ok items->∀(Rr:It->Hp->Prop),
   (∀J H2,aJ H H2->Yl X.K J (ji X F τ (caps++cT es) H2) H2 items->Rr J H2) ->
   wpAny (model X.prog X.w) X.A (eval iter X.env) (λv s1=>wpAny (model X.prog X.w) X.A (pyIter v) (zY X pins σ target Rr) X.xe s1) X.xe s:=by
 cases ik with
 |kW =>
  obtain⟨⟨x,as⟩,hv,h6⟩:=bp h6;obtain⟨p,Gk,rfl⟩:=eu hv;obtain⟨GW,g3⟩:=aI h6;obtain⟨GV,g2⟩:=aI GW;obtain⟨GU,g1⟩:=aI GV;obtain rfl:x=_:=WO GU;obtain⟨y,hu,BP⟩:=bp g3;obtain rfl:as=[y]:=cW hu;exact Gg L g1 (WO g2) (vO _ BP) BP
 |seq =>
  have P5:=n8 _ h6;cases es with
  |nil=>exact(WS h6).elim
  |cons c cs=>cases cs with
   |cons _ _=>exact(WS (aI h6).2).elim
   |nil=>exact Gf L (P5 0 c _ rfl rfl).1
 |bX p =>
  obtain⟨h6,g3⟩:=aI h6;obtain⟨xs,ha,BP⟩:=bp g3;exact Gh L ha (aI h6).2 (PY _ BP)
mutual
theorem aW:∀(c:CE) (X:Cx) (S:Sx) (F:ai) (L:Lk X S k Φ) (e:Expr),bM S c e=true->PE X e (tD X F Φ c)/\PT X e (ff X F Φ c)
 |.bX p cs,X,S,F,L,e,h=>by
  obtain⟨args,ha,hb⟩:=bp (aI h).2;exact L.pr.e X _ _ k L.pX p e args ha F cs (gE cs X S F L args hb)
 |.bz,X,S,F,L,e,h=>by
  obtain⟨c,hv,gn⟩:=bp h;obtain⟨j,p,rfl⟩:=wU hv;obtain rfl:=vF gn;exact⟨xx,cJ xx λ_=>rfl⟩
 |.bl b,X,S,F,L,e,h=>by
  obtain⟨c,hv,gn⟩:=bp h;obtain⟨j,p,rfl⟩:=wU hv;obtain rfl:=yF gn;exact⟨C5,cJ C5 λ_=>rfl⟩
 |.int i,X,S,F,L,e,h=>by
  obtain⟨c,hv,gn⟩:=bp h;obtain⟨j,p,rfl⟩:=wU hv;obtain rfl:=vG gn;exact⟨xy,cJ xy λ_=>rfl⟩
 |.v i,X,S,F,L,e,h=>by
  obtain⟨x,hv,h'⟩:=bp h;obtain⟨p,rfl⟩:=kM hv;have:=OA (F:=F) L h;exact⟨this,cJ this λ_=>rfl⟩
 |.glo x i,X,S,F,L,e,h=>by
  obtain⟨y,hv,gn⟩:=bp h;obtain⟨pos,rfl⟩:=kM hv;obtain⟨lI,h3⟩:=aI gn;obtain⟨qk,h2⟩:=aI lI;obtain⟨GQ,h1⟩:=aI qk;obtain rfl:=WO GQ;obtain⟨u,hm,r⟩:=L.cs _ _ (WO h2);have this:PE X (.Name y pos) (tD X F Φ (.glo y i)):=PE.imp (AV (v:=.int i) (L.gl h1) hm r (jL h3)) λσ H Q bJ=>by obtain⟨R,τ,ρ,d,Si,ev,hq⟩:=bJ;cases ev;exact hq _ H (aJ.refl H) .int
  exact⟨this,cJ this λ_=>rfl⟩
 |.bin op a b,X,S,F,L,e,h=>by
  obtain⟨⟨l,o,r⟩,hv,gn⟩:=bp h;obtain⟨pos,rfl⟩:=Af hv;obtain⟨lI,h2⟩:=aI gn;obtain⟨qk,h1⟩:=aI lI;obtain rfl:o=Kc op:=WO qk;have:=EN (F:=F) (pos:=pos) L (op:=op) (aW a X S F L _ h1).1 (aW b X S F L _ h2).1;exact⟨this,cJ this λ_=>rfl⟩
 |.neg a,X,S,F,L,e,h=>by
  obtain⟨⟨o,x⟩,hv,gn⟩:=bp h;obtain⟨pos,rfl⟩:=wN hv;obtain⟨lI,h1⟩:=aI gn;obtain rfl:o=.USub:=WO lI;have:=EJ (F:=F) (Φ:=Φ) (pos:=pos) (aW a X S F L _ h1).1;exact⟨this,cJ this λ_=>rfl⟩
 |.not a,X,S,F,L,e,h=>by
  obtain⟨⟨o,x⟩,hv,gn⟩:=bp h;obtain⟨pos,rfl⟩:=wN hv;obtain⟨lI,h1⟩:=aI gn;obtain rfl:o=.Not:=WO lI;exact⟨EI (aW a X S F L _ h1).1,Er (aW a X S F L _ h1).2⟩
 |.and cs,X,S,F,L,e,h=>by
  obtain⟨⟨o,vs⟩,hv,gn⟩:=bp h;obtain⟨pos,rfl⟩:=o3 hv;obtain⟨lI,h1⟩:=aI gn;obtain rfl:o=.And:=WO lI;exact⟨(jh cs X S F L vs h1 pos).1,(jh cs X S F L vs h1 pos).2.pt⟩
 |.or cs,X,S,F,L,e,h=>by
  obtain⟨⟨o,vs⟩,hv,gn⟩:=bp h;obtain⟨pos,rfl⟩:=o3 hv;obtain⟨lI,h1⟩:=aI gn;obtain rfl:o=.Or:=WO lI;exact⟨(kP cs X S F L vs h1 pos).1,(kP cs X S F L vs h1 pos).2.pt⟩
 |.ite c a b,X,S,F,L,e,h=>by
  obtain⟨⟨t,x,y⟩,hv,gn⟩:=bp h;obtain⟨pos,rfl⟩:=D8 hv;obtain⟨lI,h2⟩:=aI gn;obtain⟨h0,h1⟩:=aI lI;exact⟨EL (aW c X S F L _ h0).2 (aW a X S F L _ h1).1 (aW b X S F L _ h2).1,Es (aW c X S F L _ h0).2 (aW a X S F L _ h1).2 (aW b X S F L _ h2).2⟩
 |.cmp op a b,X,S,F,L,e,h=>by
  obtain⟨⟨l,os,rs⟩,hv,gn⟩:=bp h;obtain⟨pos,rfl⟩:=Ae hv;obtain⟨lI,h2⟩:=aI gn;obtain⟨qk,h1⟩:=aI lI;obtain⟨r,hr,QC⟩:=bp h2;obtain⟨LN,h3⟩:=aI QC;obtain rfl:os=[O3 op]:=WO qk;obtain rfl:rs=[r]:=cW hr;exact⟨PE.imp (AX (xX L op) (aW a X S F L _ h1).1 (aW b X S F L _ LN).1 (x_ h3)) λ_ _ _ qk=>qB qk,PT.imp (AR (xX L op) (aW a X S F L _ h1).1 (aW b X S F L _ LN).1 (x_ h3)) λ_ _ _ qk=>vf qk⟩
 |.ue a t,X,S,F,L,e,h=>by
  obtain⟨⟨f,as⟩,hv,gn⟩:=bp h;obtain⟨p,pos,rfl⟩:=eu hv;obtain⟨lI,h5⟩:=aI gn;obtain⟨qk,h2⟩:=aI lI;obtain⟨GQ,h1⟩:=aI qk;obtain rfl:f=_:=WO GQ;obtain⟨⟨e,g⟩,hw,h5_2⟩:=bp h5;obtain rfl:as=[e,g]:=hV hw;obtain⟨LK,h6⟩:=aI h5_2;obtain⟨x,hn,GW⟩:=bp h6;obtain⟨p',rfl⟩:∃p,g=.Name x p:=kM hn;obtain⟨GV,h4⟩:=aI GW;obtain⟨GU,h3⟩:=aI GV;obtain rfl:=WO GU;have:=EM (F:=F) (p:=p) (p':=p') (pos:=pos) L h1 (WO h2) h3 (WO h4) (aW a X S F L _ LK).1 (λes=>b_ LK es _);exact⟨this,cJ this λ_=>rfl⟩
 |.call f cs,X,S,F,L,e,h=>by
  obtain⟨⟨x,as⟩,hv,gn⟩:=bp h;obtain⟨p,pos,rfl⟩:=eu hv;obtain⟨lI,h4⟩:=aI gn;obtain⟨qk,h3⟩:=aI lI;obtain⟨h1,h2⟩:=aI qk;obtain⟨⟨y,ys⟩,hu,h4_2⟩:=bp h4;obtain rfl:as=y::ys:=wX hu;cases cs with
  |nil=>exact(WS h4_2).elim
  |cons c cs' =>
   have LL:=aI h4_2;have:=AG (F:=F) (p:=p) (pos:=pos) L (WO h1) h2 h3 (eA (c::cs') X S F L (y::ys) h4_2) (λes=>b_ LL.1 es _) (λpos=>sx LL.2 pos _);exact⟨this,cJ this λ_=>rfl⟩
 |.bf f cs,X,S,F,L,e,h=>by
  obtain⟨⟨x,as⟩,hv,gn⟩:=bp h;obtain⟨p,pos,rfl⟩:=eu hv;obtain⟨lI,h4⟩:=aI gn;obtain⟨qk,h3⟩:=aI lI;obtain⟨GQ,h2⟩:=aI qk;obtain rfl:x=_:=WO GQ;obtain⟨⟨y,ys⟩,hu,h4_2⟩:=bp h4;obtain rfl:as=y::ys:=wX hu;cases cs with
  |nil=>exact(WS h4_2).elim
  |cons c cs' =>
   have LL:=aI h4_2;have:=JF (F:=F) (p:=p) (pos:=pos) L h2 (WO h3) (eA (c::cs') X S F L (y::ys) h4_2) (λes=>b_ LL.1 es _) (λpos=>sx LL.2 pos _);exact⟨this,cJ this λ_=>rfl⟩
 |.ix a b,X,S,F,L,e,h=>by
  obtain⟨⟨l,r⟩,hv,gn⟩:=bp h;obtain⟨pos,rfl⟩:=gC hv;obtain⟨h1,h2⟩:=aI gn;have:=JE (F:=F) (pos:=pos) L (aW a X S F L _ h1).1 (aW b X S F L _ h2).1 (m8 h2);exact⟨this,cJ this λ_=>rfl⟩
 |.tup cs,X,S,F,L,e,h=>by
  obtain⟨es,hv,gn⟩:=bp h;obtain⟨n,pos,rfl⟩:=iJ hv;obtain⟨h1,h2⟩:=aI gn;have:=EH (F:=F) (n:=n) (pos:=pos) (eA cs X S F L es h1) (WO h2);exact⟨this,cJ this λ_=>rfl⟩
 |.lst cs,X,S,F,L,e,h=>by
  obtain⟨es,hv,gn⟩:=bp h;obtain⟨pos,rfl⟩:=Aa hv;obtain⟨h1,h2⟩:=aI gn;have:=EK (F:=F) (pos:=pos) (eA cs X S F L es h1) (WO h2);exact⟨this,cJ this λ_=>rfl⟩
 |.comp n t caps ik es bu elt,X,S,F,L,e,h=>by
  obtain⟨⟨gN,gens,sc⟩,hv,gn⟩:=bp h;obtain⟨pos,rfl⟩:=wQ hv;obtain⟨⟨target,iter,ifs,a⟩,hg,lI⟩:=bp gn;obtain rfl:gens=_:=cW hg;obtain⟨qk,h6⟩:=aI lI;obtain⟨GQ,h5⟩:=aI qk;obtain⟨Vs,h4⟩:=aI GQ;obtain⟨Vr,h3⟩:=aI Vs;obtain⟨Vq,h2⟩:=aI Vr;obtain⟨Vp,h1⟩:=aI Vq;obtain rfl:a=0:=WO Vp;have n8:=λ(X':Cx) (F':ai) (L':Lk X' (S.inner target caps sc) k Φ)=>gc bu X' _ F' L' ifs h4;have this:PE X (.ListComp gN [⟨target,iter,ifs,0⟩] sc pos) (tD X F Φ (.comp n t caps ik es bu elt)) :=
   AF L (m7 h1) h2 (λX' F' L'=>(aW elt X' _ F' L' gN h5).1) (qz (WO h3) h4 n8) (yC L (λl=>eA es X S F L l) (λl=>gc es X S F L l) (λl=>gE es X S F L l) h6)
  exact⟨this,cJ this λ_=>rfl⟩
theorem gc:∀(cs:aB) (X:Cx) (S:Sx) (F:ai) (L:Lk X S k Φ) (es:au),bB S cs es=true->∀(j:Nat) (c:CE) (e:Expr),cs[j]?=some c->es[j]?=some e->PE X e (tD X F Φ c)/\PT X e (ff X F Φ c)
 |[],X,S,F,L,_,_=>λj c e h _=>by simp at h
 |_::_,X,S,F,L,[],h=>by exact(WS h).elim
 |c::cs,X,S,F,L,e::es,h=>λj c' e' hc he=>by
  replace h:=aI h;cases j with
  |zero=>simp at hc he;subst hc he;exact aW c X S F L e h.1
  |succ j=>exact gc cs X S F L es h.2 j c' e' (by simpa using hc) (by simpa using he)
theorem gE:∀(cs:aB) (X:Cx) (S:Sx) (F:ai) (L:Lk X S k Φ) (es:au),bB S cs es=true->mC X F Φ cs es
 |[],X,S,F,L,[],_=>trivial
 |[],X,S,F,L,_::_,h=>by exact(WS h).elim
 |_::_,X,S,F,L,[],h=>by exact(WS h).elim
 |c::cs,X,S,F,L,e::es,h=>by
  replace h:=aI h;exact⟨(aW c X S F L e h.1).1,λl=>b_ h.1 l _,m8 h.1,gE cs X S F L es h.2⟩
theorem eA:∀(cs:aB) (X:Cx) (S:Sx) (F:ai) (L:Lk X S k Φ) (es:au),bB S cs es=true->PA X es (mJ X F Φ cs)
 |[],X,S,F,L,[],_=>PA.imp eW λ_ _ _ h=>eO h
 |[],X,S,F,L,_::_,h=>by exact(WS h).elim
 |_::_,X,S,F,L,[],h=>by exact(WS h).elim
 |c::cs,X,S,F,L,e::es,h=>by
  replace h:=aI h;exact PA.imp (cO (aW c X S F L e h.1).1 (eA cs X S F L es h.2) (b_ h.1 es _)) λ_ _ _ h=>cU h
theorem jh:∀(cs:aB) (X:Cx) (S:Sx) (F:ai) (L:Lk X S k Φ) (es:au),bB S cs es=true->∀pos,PE X (.BoolOp .And es pos) (tD X F Φ (.and cs))/\PW X (.BoolOp .And es pos) (ff X F Φ (.and cs))
 |[],X,S,F,L,_,_,pos=>⟨λ_ _ _ _ _ _ ⟨_,_,_,_,_,ev,_⟩=>(by cases ev),λ_ _ _ _ _ _ _ bJ=>by obtain⟨_,_,_,_,_,ev,_⟩:=bJ;cases ev⟩
 |[c],X,S,F,L,[e],h,pos=>by
  replace h:=aI h;exact⟨PE.imp (xS (aW c X S F L e h.1).1) λ_ _ _ h=>Ct h,PW.imp (AQ (aW c X S F L e h.1).2) λ_ _ _ h=>zE h⟩
 |[_],X,S,F,L,[],h,_=>by exact(WS h).elim
 |[_],X,S,F,L,_::_::_,h,_=>by exact(WS (aI h).2).elim
 |_::_::_,X,S,F,L,[],h,_=>by exact(WS h).elim
 |_::_::_,X,S,F,L,[_],h,_=>by exact(WS (aI h).2).elim
 |c::c'::cs,X,S,F,L,e::e'::es,h,pos=>by
  replace h:=aI h;have r:=jh (c'::cs) X S F L (e'::es) h.2 pos;exact⟨PE.imp (Fx (aW c X S F L e h.1).1 r.1) λ_ _ _ h=>zF h,PW.imp (Fe (aW c X S F L e h.1).2 r.2) λ_ _ _ h=>wm h⟩
theorem kP:∀(cs:aB) (X:Cx) (S:Sx) (F:ai) (L:Lk X S k Φ) (es:au),bB S cs es=true->∀pos,PE X (.BoolOp .Or es pos) (tD X F Φ (.or cs))/\PW X (.BoolOp .Or es pos) (ff X F Φ (.or cs))
 |[],X,S,F,L,_,_,pos=>⟨λ_ _ _ _ _ _ ⟨_,_,_,_,_,ev,_⟩=>(by cases ev),λ_ _ _ _ _ _ _ bJ=>by obtain⟨_,_,_,_,_,ev,_⟩:=bJ;cases ev⟩
 |[c],X,S,F,L,[e],h,pos=>by
  replace h:=aI h;exact⟨PE.imp (xS (aW c X S F L e h.1).1) λ_ _ _ h=>FC h,PW.imp (Fd (aW c X S F L e h.1).2) λ_ _ _ h=>A2 h⟩
 |[_],X,S,F,L,[],h,_=>by exact(WS h).elim
 |[_],X,S,F,L,_::_::_,h,_=>by exact(WS (aI h).2).elim
 |_::_::_,X,S,F,L,[],h,_=>by exact(WS h).elim
 |_::_::_,X,S,F,L,[_],h,_=>by exact(WS (aI h).2).elim
 |c::c'::cs,X,S,F,L,e::e'::es,h,pos=>by
  replace h:=aI h;have r:=kP (c'::cs) X S F L (e'::es) h.2 pos;exact⟨PE.imp (J1 (aW c X S F L e h.1).1 r.1) λ_ _ _ h=>A3 h,PW.imp (JT (aW c X S F L e h.1).2 r.2) λ_ _ _ h=>xW h⟩
end
theorem fC(L:Lk X S k Φ)(c:CE)(e:Expr)(h:bM S c e=true):PE X e (tD X F Φ c)/\PT X e (ff X F Φ c):=aW c X S F L e h
theorem iP(L:Lk X S k Φ)(cs:aB)(es:au)(h:bB S cs es=true):mC X F Φ cs es:=gE cs X S F L es h
theorem tx(L:Lk X S k Φ)(cs:aB)(es:au)(h:bB S cs es=true):PA X es (mJ X F Φ cs):=eA cs X S F L es h
end
section
variable {X:Cx}{S:Sx}{k:Nat}{F:ai}{Φ:aU}
set_option tactic.hygienic true in
theorem nE(L:Lk X S k Φ)(c:CE)(e:Expr)(h:bM S c e=true):PE X e (tK X F Φ c):=by
 by_cases hv:∃i,c=.v i
 ·obtain⟨i,rfl⟩:=hv;obtain⟨x,hx,ha⟩:=bp h;obtain⟨p,rfl⟩:=kM hx;obtain⟨hb,h3⟩:=aI ha;obtain⟨h1,h2⟩:=aI hb;unfold jW at h3;simp only[Bool.and_eq_true,Bool.not_eq_true']at h3;refine PE.imp (rC (i:=i) (by rw[L.N];exact WO h1) (L.HY h2) h3.1.1 h3.1.2) λσ H Q hq=>?_;obtain⟨R,τ,ρ,r,Si,ev,hq⟩:=hq;simp only[gL]at ev;split at ev
  ·rename_i d hd;split at ev
   ·cases ev;obtain⟨v,τ',hv,eU,rk⟩:=Si.move hd;exact⟨v,hv,hq v H R τ' (aJ.refl H) (λ_ h=>h) eU rk⟩
   ·rename_i ho;cases ev;obtain⟨v,hv,rp⟩:=Si.rep i d hd;exact⟨v,hv,hq v H R τ (aJ.refl H) (λ_ h=>h) Si (vQ rp (by simpa using ho))⟩
  ·cases ev
 ·refine PE.imp (fC (F:=F) L c e h).1 λσ H Q hq=>?_;obtain⟨R,τ,ρ,r,Si,ev,hq⟩:=hq;have L3:bd (bg Φ c ρ) (λd=>ok (keep c d ρ))=ok r:=by
   cases c<;>first|exact ev|exact absurd ⟨_,rfl⟩ hv
  obtain⟨d,ed,er⟩:=aA L3;cases er;refine tD.intro Si ed λv H' e' r'=>?_;obtain⟨R',τ',h1,h2,h3⟩:=yw Si e' r';exact hq v H' R' τ' e' h1 h2 h3
end
structure Kp(R:ai)(H:Hp)(R':ai)(H':Hp):Prop where
 r:∀p,R p->R' p
 l:∀p (o:HO),R p->H p=some o->H' p=some o
 t:∀p xs,H p=some (.tup xs)->H' p=some (.tup xs)
 z:∀p o u,H p=some (.fu o u)->H' p=some (.fu o u)
theorem Kp.refl(R:ai)(H:Hp):Kp R H R H:=⟨λ_ h=>h,λ_ _ _ h=>h,λ_ _ h=>h,λ_ _ _ h=>h⟩
theorem Kp.of(e:aJ H H')(h:∀p,R p->R' p):Kp R H R' H':=⟨h,λp xs _ h=>e _ _ h,λp xs h=>e _ _ h,λp o u h=>e _ _ h⟩
theorem Kp.trans{R2:Addr->Prop}(a:Kp R H R1 H1)(b:Kp R1 H1 R2 H2):Kp R H R2 H2 :=
 ⟨λp h=>b.r p (a.r p h),λp xs h e=>b.l p xs (a.r p h) (a.l p xs h e),λp xs h=>b.t p xs (a.t p xs h),λp o u h=>b.z p o u (a.z p o u h)⟩
theorem Kp.MO(a:Kp R H R' H'){p:Addr}(h:aT K H p xs):aT K H' p xs:=by
 rcases h with (h|⟨o,h⟩)|h
 ·exact .inl (.inl (a.t p xs h))
 ·exact .inl (.inr ⟨o,a.z p o _ h⟩)
 ·exact .inr h
theorem Kp.nd{K:ao}{R R':ai}{H H':Hp}(a:Kp R H R' H'){q:aX}{p:Addr}{xs:Nd}{f:Fl}(h:DI.nd K R (λ_=>False) (λ_=>none) H q p xs f):DI.nd K R' (λ_=>False) (λ_=>none) H' q p xs f:=by
 cases f with
 |ow=>exact nomatch h.2
 |fz=>exact⟨h.1.at λo e=>a.l p o h.2 e,a.r p h.2⟩
 |al=>exact h.2.elim
 |sc =>
  obtain⟨ys,rfl,h⟩:=h.xA;exact h.elim (λ⟨o,h⟩=>.inl ⟨o,a.z p o _ h⟩) .inr
theorem Kp.rep(a:Kp R H R' H'){k:aX}{v:V}{d:D}(h:Rep (aT K H) (DI.nd K R (λ_=>False) (λ_=>none) H) k v d):Rep (aT K H') (DI.nd K R' (λ_=>False) (λ_=>none) H') k v d :=
 h.imp (λ_ _ h=>a.MO h) λ_ _ _ _ h=>a.nd h
theorem Kp.OK(a:Kp R H R' H'){k:aX}{n:Nat}{v:ae}{d:ab}(h:az (aT K H) (DI.nd K R (λ_=>False) (λ_=>none) H) k n v d):az (aT K H') (DI.nd K R' (λ_=>False) (λ_=>none) H') k n v d :=
 h.imp (λ_ _ h=>a.MO h) λ_ _ _ _ h=>a.nd h
def zL(X:Cx)(F:ai)(H':Hp)(v:V)(d:D):Prop:=∃τt:Addr->Option aX,(∀p q,τt p=some q->X.H₀ p=none)/\Rep (aT X.K H') (nd X.K (gP X F) (λ_=>False) τt H') [] v d
theorem f9.ret{v:V}{d:D}(Si:SI X F R τ ρ σ H)(h:f9 X R τ H v d):zL X F H v d:=by
 obtain⟨τt,ht,rp⟩:=h;exact⟨τt,λp q e=>(ht p q e).2.2.1,rp.imp (λ_ _ h=>h) λ_ _ _ _ h=>h.mono (λh=>Si.rf _ h) id id⟩
def jP(X:Cx)(F:ai)(D:Ends)(R:ai)(H:Hp):Fo×aY->Prop
 | (.nx,ρ')=>∀σ' H' R' τ',SI X F R' τ' ρ' σ' H'->Kp R H R' H'->D.nx σ' H'
 | (.rt d,_)=>∀v H',aJ X.H₀ H'->zL X F H' v d->D.rt v H'
def jS(X:Cx)(F:ai)(Φ:aU)(c:CS):TS:=λD σ H=>∃R τ ρ r,SI X F R τ ρ σ H/\lN Φ c ρ=ok r/\jP X F D R H r
def jf(X:Cx)(F:ai)(Φ:aU)(cs:aj):TS:=λD σ H=>∃R τ ρ r,SI X F R τ ρ σ H/\bC Φ cs ρ=ok r/\jP X F D R H r
noncomputable def F5(sc:Scope)(x:Str):Bool:=decide (sc.names.lookup x=some .local)||decide (sc.names.lookup x=some .cell)
def i7(S:Sx)(i:Nat):Expr->Bool
 |.Name x _=>decide (S.N[i]?=some x)&&F5 S.sc x
 |_=>false
def Nc:Expr->Bool
 |.Name x _=>jW x
 |_=>true
def zw(S:Sx):aH->au->Bool
 |[],es=>match es with
  |[]=>true
  |_::_=>false
 |i::is,es=>match es with
  |[]=>false
  |e::es=>i7 S i e&&zw S is es
def my(S:Sx):Tg->Expr->Bool
 |.nm i,e=>i7 S i e
 |.tp is,e=>bj (va e) λes=>zw S is es
noncomputable def fH(e:Expr):Bool:=decide (e.ctorIdx=8)
noncomputable def isTup:Expr->Bool
 |.Tuple _ _ _=>true
 |_=>false
noncomputable def Ov(S:Sx)(tg v:Expr):Bool:=match tg,v with
 |.Name x p,.ListComp _ _ sc pos=>(S.sc.names.lookup x==some .local)&&(p.line==pos.line)&&!(sc.names.any λ(n,k)=>n==x&&(k==.local||k==.cell))
 |_,_=>false
noncomputable def D7(e:Expr):Option (Str×Pos):=if h:e.ctorIdx=23 then Expr.Name.elim (motive_1:=λ_=>Option (Str×Pos)) e h (λx p=>some (x,p))else none
theorem sQ{e:Expr}{x:Str}{p:Pos}(h:D7 e=some (x,p)):e=.Name x p:=by
 obtain⟨k,h⟩:=dI h;exact Expr.Name.elim (motive_1:=λe=>∀k:e.ctorIdx=23,Expr.Name.elim (motive_1:=λ_=>Option (Str×Pos)) e k (λx p=>some (x,p))=some (x,p)->e=.Name x p) e k (λ_ _ _ h=>by cases h;rfl) k h
def zu(S:Sx)(i j:Nat)(tg v:Expr):Bool :=
 bj (va tg) λts=>bj (two ts) λt=>bj (D7 t.1) λx=>bj (D7 t.2) λy=>bj (va v) λvs=>bj (two vs) λw =>
  decide (S.N[i]?=some x.1)&&decide (S.N[j]?=some y.1)&&decide (i≠j)&&decide (S.sc.names.lookup x.1=some .local)&&decide (S.sc.names.lookup y.1=some .local)&&decide (x.1≠y.1) &&
   decide (x.2.line=y.2.line)&&!([w.1,w.2].all (foldedForSure 8))&&!([w.1,w.2].all (constantsAlone 8))&&decide (([w.1,w.2].any λe=>match e with|.Starred ..=>true|_=>false)=false)
def Mh(S:Sx)(it:CI)(e:Expr):Bool:=match it with
 |.kW a=>bj (gR e) λw=>decide (w.1=("range" : Str))&&jb S.sc w.1&&decide (w.1∈S.bl)&&bj (one w.2) λy=>bM S a y
 |.seq a=>bM S a e&&mR e
 |.JY p es=>M1 e&&bj (S.px.pi p S.sc S.bl e) λxs=>bB S es xs
noncomputable def x5:CI->Bool
 |.JY p _=>decide (1100<=p)
 |_=>true
noncomputable def wW(s:Stmt):Option (au×Expr):=if h:s.ctorIdx=5 then Stmt.Assign.elim (motive_2:=λ_=>Option (au×Expr)) s h (λts v _=>some (ts,v))else none
theorem j7{s:Stmt}{ts:au}{v:Expr}(h:wW s=some (ts,v)):∃p,s=.Assign ts v p:=by
 obtain⟨k,h⟩:=dI h;exact Stmt.Assign.elim (motive_2:=λs=>∀k:s.ctorIdx=5,Stmt.Assign.elim (motive_2:=λ_=>Option (au×Expr)) s k (λts v _=>some (ts,v))=some (ts,v)->∃p,s=.Assign ts v p) s k (λ_ _ _ _ h=>by cases h;exact⟨_,rfl⟩) k h
noncomputable def IT(s:Stmt):Option (Option Expr):=if h:s.ctorIdx=3 then Stmt.Return.elim (motive_2:=λ_=>Option (Option Expr)) s h (λv _=>some v)else none
theorem z_{s:Stmt}{v:Option Expr}(h:IT s=some v):∃p,s=.Return v p:=by
 obtain⟨k,h⟩:=dI h;exact Stmt.Return.elim (motive_2:=λs=>∀k:s.ctorIdx=3,Stmt.Return.elim (motive_2:=λ_=>Option (Option Expr)) s k (λv _=>some v)=some v->∃p,s=.Return v p) s k (λ_ _ _ h=>by cases h;exact⟨_,rfl⟩) k h
noncomputable def MG(s:Stmt):Option Expr:=if h:s.ctorIdx=24 then Stmt.Expr.elim (motive_2:=λ_=>Option Expr) s h (λv _=>some v)else none
theorem qV{s:Stmt}{v:Expr}(h:MG s=some v):∃p,s=.Expr v p:=by
 obtain⟨k,h⟩:=dI h;exact Stmt.Expr.elim (motive_2:=λs=>∀k:s.ctorIdx=24,Stmt.Expr.elim (motive_2:=λ_=>Option Expr) s k (λv _=>some v)=some v->∃p,s=.Expr v p) s k (λ_ _ _ h=>by cases h;exact⟨_,rfl⟩) k h
noncomputable def I_(s:Stmt):Option (Expr×Operator×Expr):=if h:s.ctorIdx=7 then Stmt.AugAssign.elim (motive_2:=λ_=>Option (Expr×Operator×Expr)) s h (λo p v _=>some (o,p,v))else none
theorem Ag{s:Stmt}{v:Expr}{p:Operator}(h:I_ s=some (o,p,v)):∃q,s=.AugAssign o p v q:=by
 obtain⟨k,h⟩:=dI h;exact Stmt.AugAssign.elim (motive_2:=λs=>∀k:s.ctorIdx=7,Stmt.AugAssign.elim (motive_2:=λ_=>Option (Expr×Operator×Expr)) s k (λo p v _=>some (o,p,v))=some (o,p,v)->∃q,s=.AugAssign o p v q) s k (λ_ _ _ _ _ h=>by cases h;exact⟨_,rfl⟩) k h
noncomputable def IW(s:Stmt):Option (Expr×aL×aL):=if h:s.ctorIdx=12 then Stmt.If.elim (motive_2:=λ_=>Option (Expr×aL×aL)) s h (λt x y _=>some (t,x,y))else none
theorem Ab{s:Stmt}{t:Expr}{x y:aL}(h:IW s=some (t,x,y)):∃q,s=.If t x y q:=by
 obtain⟨k,h⟩:=dI h;exact Stmt.If.elim (motive_2:=λs=>∀k:s.ctorIdx=12,Stmt.If.elim (motive_2:=λ_=>Option (Expr×aL×aL)) s k (λt x y _=>some (t,x,y))=some (t,x,y)->∃q,s=.If t x y q) s k (λ_ _ _ _ _ h=>by cases h;exact⟨_,rfl⟩) k h
noncomputable def IS(s:Stmt):Option (Expr×aL×aL):=if h:s.ctorIdx=11 then Stmt.While.elim (motive_2:=λ_=>Option (Expr×aL×aL)) s h (λt x y _=>some (t,x,y))else none
theorem z9{s:Stmt}{t:Expr}{x y:aL}(h:IS s=some (t,x,y)):∃q,s=.While t x y q:=by
 obtain⟨k,h⟩:=dI h;exact Stmt.While.elim (motive_2:=λs=>∀k:s.ctorIdx=11,Stmt.While.elim (motive_2:=λ_=>Option (Expr×aL×aL)) s k (λt x y _=>some (t,x,y))=some (t,x,y)->∃q,s=.While t x y q) s k (λ_ _ _ _ _ h=>by cases h;exact⟨_,rfl⟩) k h
noncomputable def IY(s:Stmt):Option (Expr×Expr×aL×aL):=if h:s.ctorIdx=9 then Stmt.For.elim (motive_2:=λ_=>Option (Expr×Expr×aL×aL)) s h (λtg it x y _=>some (tg,it,x,y))else none
theorem Ac{s:Stmt}{it:Expr}{x y:aL}(h:IY s=some (tg,it,x,y)):∃q,s=.For tg it x y q:=by
 obtain⟨k,h⟩:=dI h;exact Stmt.For.elim (motive_2:=λs=>∀k:s.ctorIdx=9,Stmt.For.elim (motive_2:=λ_=>Option (Expr×Expr×aL×aL)) s k (λtg it x y _=>some (tg,it,x,y))=some (tg,it,x,y)->∃q,s=.For tg it x y q) s k (λ_ _ _ _ _ _ h=>by cases h;exact⟨_,rfl⟩) k h
noncomputable def wV(e:Expr):Option (Expr×Str×Pos):=if h:e.ctorIdx=20 then Expr.Attribute.elim (motive_1:=λ_=>Option (Expr×Str×Pos)) e h (λo a p=>some (o,a,p))else none
theorem o4{e:Expr}{a:Str}{p:Pos}(h:wV e=some (o,a,p)):e=.Attribute o a p:=by
 obtain⟨k,h⟩:=dI h;exact Expr.Attribute.elim (motive_1:=λe=>∀k:e.ctorIdx=20,Expr.Attribute.elim (motive_1:=λ_=>Option (Expr×Str×Pos)) e k (λo a p=>some (o,a,p))=some (o,a,p)->e=.Attribute o a p) e k (λ_ _ _ _ h=>by cases h;rfl) k h
noncomputable def qX(e:Expr):Option (Expr×au×List Keyword×Pos):=if h:e.ctorIdx=16 then Expr.Call.elim (motive_1:=λ_=>Option (Expr×au×List Keyword×Pos)) e h (λf as ks p=>some (f,as,ks,p))else none
theorem mE{e f:Expr}{ks:List Keyword}{p:Pos}(h:qX e=some (f,as,ks,p)):e=.Call f as ks p:=by
 obtain⟨k,h⟩:=dI h;exact Expr.Call.elim (motive_1:=λe=>∀k:e.ctorIdx=16,Expr.Call.elim (motive_1:=λ_=>Option (Expr×au×List Keyword×Pos)) e k (λf as ks p=>some (f,as,ks,p))=some (f,as,ks,p)->e=.Call f as ks p) e k (λ_ _ _ _ _ h=>by cases h;rfl) k h
noncomputable def isNil{α:Type}:List α->Bool
 |[]=>true
 |_::_=>false
theorem ly{α:Type}{l:List α}(h:isNil l=true):l=[]:=by cases l<;>first|rfl|cases h
noncomputable def Bv:Stmt->Bool
 |.Raise _ _ _=>true
 |_=>false
noncomputable def Gj(s:Stmt):Bool:=decide (s.ctorIdx=25)
theorem Io{s:Stmt}(h:Gj s=true):∃p,s=.Pass p:=Stmt.Pass.elim (motive_2:=λs=>∃p,s=.Pass p) s (WO h) λp=>⟨p,rfl⟩
noncomputable def KP(s:Stmt):Bool:=decide (s.ctorIdx=26)
theorem KO{s:Stmt}(h:KP s=true):∃p,s=.Break p:=Stmt.Break.elim (motive_2:=λs=>∃p,s=.Break p) s (WO h) λp=>⟨p,rfl⟩
noncomputable def Pz(s:Stmt):Bool:=decide (s.ctorIdx=27)
theorem Ng{s:Stmt}(h:Pz s=true):∃p,s=.Continue p:=Stmt.Continue.elim (motive_2:=λs=>∃p,s=.Continue p) s (WO h) λp=>⟨p,rfl⟩
theorem oy{i:Nat}{e:Expr}(h:i7 S i e=true):∃x p,e=.Name x p:=by
 cases e<;>first|exact⟨_,_,rfl⟩|exact(WS h).elim
theorem vH{e:Expr}(h:fH e=true):∃x g sc p,e=.ListComp x g sc p:=Expr.ListComp.elim (motive_1:=λe=>∃x g sc p,e=.ListComp x g sc p) e (WO h) λ_ _ _ _=>⟨_,_,_,_,rfl⟩
mutual
noncomputable def Mf(S:Sx):CS->Stmt->Bool
 |.asg t e,s0=>bj (wW s0) λz=>bj (one z.1) λtg=>bM S e z.2&&my S t tg&&!(isTup z.2&&isTup tg)&&(!fH z.2||isNm tg)
 |.par i j a b,s0=>bj (wW s0) λz=>bj (one z.1) λtg=>bM S (.tup [a,b]) z.2&&zu S i j tg z.2
 |.ret e,s0=>bj (IT s0) λz=>bj z λv=>bM S e v
 |.rs _,s0=>Bv s0
 |.mut p i es,s0=>bj (S.px.pm p S.sc S.bl s0) λz=>i7 S i z.1&&Nc z.1&&bB S es z.2
 |.app i e,s0=>bj (MG s0) λc=>bj (qX c) λz=>isNil z.2.2.1&&bj (wV z.1) λa=>decide (a.2.1=("append" : Str))&&i7 S i a.1&&Nc a.1&&(a.2.2.endLine==z.2.2.2.line)&&bj (one z.2.1) λv=>bM S e v
 |.setI i k e,s0=>bj (wW s0) λz=>bj (one z.1) λtg=>bj (oY tg) λw=>i7 S i w.1&&Nc w.1&&bM S k w.2&&bM S e z.2&&!fH z.2
 |.aug i op e,s0=>bj (I_ s0) λz=>i7 S i z.1&&Nc z.1&&decide (z.2.1=if op then .Add else .Sub)&&bM S e z.2.2
 |.ex e,s0=>bj (MG s0) λv=>bM S e v&&!fH v
 |.ifs c a b,s0=>bj (IW s0) λz=>bM S c z.1&&fW S a z.2.1&&fW S b z.2.2
 |.CH c b,s0=>bj (IS s0) λz=>isNil z.2.2&&bM S c z.1&&fW S b z.2.1
 |.fr t it b,s0=>bj (IY s0) λz=>isNil z.2.2.2&&my S t z.1&&Mh S it z.2.1&&(gm z.1||x5 it)&&fW S b z.2.2.1
noncomputable def fW(S:Sx):aj->aL->Bool
 |[],ss=>match ss with
  |[]=>true
  |_::_=>false
 |c::cs,ss=>match ss with
  |[]=>false
  |s::ss=>Mf S c s&&fW S cs ss
end
structure CB(px:Px)(Φ:aU):Prop where
 m:∀(X:Cx) (sc:Scope) (bl:av) (k:Nat),PX X sc bl k->X.N.Nodup->(∀x,X.fn x=true)->∀(p:Nat) (st:Stmt) (x:Str) (pos:Pos) (args:au),px.pm p sc bl st=some (.Name x pos,args)->∀(i:Nat),X.N[i]?=some x->L2.Loc X.env.scope x->PE X (.Name x pos) (xb i) ->
  ∀(F:ai) (cs:aB),mC X F Φ cs args->PS X st (jS X F Φ (.mut p i cs))
structure jQ(X:Cx)(S:Sx)(k:Nat)(Φ:aU):Prop extends Lk X S k Φ where
 sf:∀x,X.fn x=true
 px:PassesOwn (model X.prog X.w) X.A X.env X.xe
 fk:S.sc.kind=.function
 pm:CB S.px Φ
section
variable {X:Cx}{S:Sx}{k:Nat}{F:ai}{Φ:aU}
theorem jQ.loc(L:jQ X S k Φ){x:Str}(h:F5 S.sc x=true):L2.Loc X.env.scope x:=by
 unfold L2.Loc;rw[L.sc];unfold F5 at h;rw[Bool.or_eq_true]at h;exact h.imp WO WO
theorem C1(L:jQ X S k Φ){x:Str}{p:Pos}{l:Nat}{elt:Expr}{gens:List Comprehension}{sc:Scope}:swapsWith (.ListComp elt gens sc pos) (some (.Name x p)) l X.env=pure (Ov S (.Name x p) (.ListComp elt gens sc pos)):=by
 have hb:X.env.blockKind=.function:=by unfold Env.blockKind;rw[L.sc,L.fk];rfl
 have hk:(X.env.kindOf x==some .local)=(S.sc.names.lookup x==some .local):=by
  unfold Env.kindOf;rw[L.sc]
 unfold swapsWith Ov;simp only[hb,hk];rfl
theorem lX{c:CE}{e:Expr}(h:bM S c e=true)(hc:fH e=false)(t:Option Expr)(l:Nat)(env:Env):swapsWith e t l env=pure false:=by
 cases e<;>first|rfl | (cases hc;done) | (cases c<;>exact(WS h).elim)
def NF:aH->Cz
 |[]=>GZ
 |i::is=>yZ (mW i) (NF is)
theorem xQ(L:jQ X S k Φ){i:Nat}{e:Expr}(h:i7 S i e=true):PG X e (mW i):=by
 cases e<;>try (exact(WS h).elim;done)
 replace h:=aI h;exact nM L.nd (by rw[L.N];exact WO h.1) (L.loc h.2) (.inl (L.sf _))
theorem Bc{i:Nat}{e:Expr}(h:i7 S i e=true)(es:au)(env:Env):assignEach (e::es) env=(false,assign e env)::assignEach es env:=by
 cases e<;>first|rfl | (exact(WS h).elim;done)
theorem xP(L:jQ X S k Φ):∀{is:aH} {es:au},zw S is es=true->IH X es (NF is)/\(assignEach es X.env).length=is.length/\(assignEach es X.env).findIdx? (·.1)=none
 |[],[],_=>⟨tS,rfl,rfl⟩
 |[],_::_,h=>by exact(WS h).elim
 |_::_,[],h=>by exact(WS h).elim
 |i::is,e::es,h=>by
  replace h:=aI h;obtain⟨h1,h2,h3⟩:=xP L h.2;have he:=Bc h.1 es X.env;refine⟨pV (xQ L h.1) h1 (by rw[he];rfl),by rw[he];simp[h2],?_⟩;rw[he,List.findIdx?_cons];simp[h3]
theorem pH{H:Hp}{R:ai}{Q:St->Hp->Prop}:∀{is:aH} {vs:ae} {ds:ab} {kp:aX} {n:Nat} {σ:St} {τ:Addr->Option aX} {ρ ρ':aY},az (aT X.K H) (nd X.K R (λ_=>False) (λ_=>none) H) kp n vs ds->SI X F R τ ρ σ H->fg is ds ρ=ok ρ' ->
  (∀σ' τ',SI X F R τ' ρ' σ' H->Q σ' H)->NF is vs σ H Q
 |[],_,_,_,_,σ,τ,_,_,.nil,Si,e,hq=>by
  cases e;exact⟨rfl,hq σ τ Si⟩
 |[],_,_,_,_,_,_,_,_,.cons _ _,_,e,_=>by cases e
 |_::_,_,_,_,_,_,_,_,_,.nil,_,e,_=>by cases e
 |i::is,_,_,_,_,σ,τ,ρ,_,.cons (v:=v) (d:=d) h t,Si,e,hq=>by
  change (if _ then _ else _)=_ at e;split at e
  ·rename_i hi;obtain⟨τ',eU⟩:=Si.set (i:=i) (kb (τ':=τ) (Rep.nW h)) hi;exact⟨_,_,rfl,pH t eU e hq⟩
  ·cases e
noncomputable def w9(n:Nat)(τt:Addr->Option aX):Addr->Option aX:=λp=>match τt p with|some q=>if q.getLast?=some n then some q.dropLast else none|none=>none
noncomputable def w8(n:Nat)(τt:Addr->Option aX):Addr->Option aX:=λp=>match τt p with|some q=>if q.getLast?=some n then none else some q|none=>none
theorem Ao{n:Nat}{p:Addr}{q:aX}(h:w9 n τt p=some q):τt p=some (q++[n]):=by
 unfold w9 at h;cases e:τt p with
 |none=>rw[e]at h;cases h
 |some k =>
  rw[e]at h;by_cases c:k.getLast?=some n
  ·simp only[c,if_true]at h;cases h;obtain⟨ys,rfl⟩:=List.getLast?_eq_some_iff.mp c;simp
  ·simp only[c,if_false]at h;cases h
theorem An{n:Nat}{p:Addr}{q:aX}(h:w8 n τt p=some q):τt p=some q/\q.getLast?≠some n:=by
 unfold w8 at h;cases e:τt p with
 |none=>rw[e]at h;cases h
 |some k =>
  rw[e]at h;by_cases c:k.getLast?=some n
  ·simp only[c,if_true]at h;cases h
  ·simp only[c,if_false]at h;cases h;exact⟨rfl,c⟩
theorem mM{H:Hp}{R:ai}{τt:Addr->Option aX}{n:Nat}:∀{vs:ae} {ds:ab} {m:Nat},n<m->az (aT X.K H) (nd X.K R (λ_=>False) τt H) [] m vs ds->az (aT X.K H) (nd X.K R (λ_=>False) (w8 n τt) H) [] m vs ds
 |_,_,_,_,.nil=>.nil
 |_,_,m,hm,.cons h t=>.cons (h.imp (q':=[m]) (λ_ _ h=>h) λc p xs f h=>by
   cases f with
   |ow =>
    refine⟨h.1,?_⟩;have e:=h.2;unfold w8;rw[e];have:(c++[m]).getLast?≠some n:=by rw[List.getLast?_append];simp;left
    simp only[this,if_false]
   |fz=>exact h
   |al=>exact h
   |sc=>exact h) (mM (by left) t)
theorem vj{H:Hp}{R:ai}{Q:St->Hp->Prop}:∀{is:aH} {vs:ae} {ds:ab} {n:Nat} {σ:St} {τ τt:Addr->Option aX} {ρ ρ':aY},(∀p q,τt p=some q->τ p=none/\¬ R p/\X.H₀ p=none/\H p≠none)->az (aT X.K H) (nd X.K R (λ_=>False) τt H) [] n vs ds->SI X F R τ ρ σ H->fg is ds ρ=ok ρ' ->
  (∀σ' τ',SI X F R τ' ρ' σ' H->Q σ' H)->NF is vs σ H Q
 |[],_,_,_,σ,τ,_,_,_,_,.nil,Si,e,hq=>by
  cases e;exact⟨rfl,hq σ τ Si⟩
 |[],_,_,_,_,_,_,_,_,_,.cons _ _,_,e,_=>by cases e
 |_::_,_,_,_,_,_,_,_,_,_,.nil,_,e,_=>by cases e
 |i::is,_,_,n,σ,τ,τt,ρ,_,ht,.cons (v:=v) (d:=d) h t,Si,e,hq=>by
  change (if _ then _ else _)=_ at e;split at e
  ·rename_i hi;have eU:=Si.JB (i:=i) (τt:=w9 n τt) (λp q hp=>ht p _ (Ao hp)) (h.imp (q':=[]) (λ_ _ h=>h) λc p xs f h=>by
    cases f with
    |ow =>
     refine⟨h.1,?_⟩;have e:=h.2;unfold w9;rw[e,List.append_nil];simp
    |fz=>exact h
    |al=>exact h
    |sc=>exact h) hi
   refine⟨_,_,rfl,vj (τt:=w8 n τt) (λp q hp=>?_) (mM (XI n) t) eU e hq⟩;obtain⟨h1,h2⟩:=An hp;obtain⟨g1,g2⟩:=ht p q h1;refine⟨?_,g2⟩;unfold ra w9;rw[h1];simp only[h2,if_false];exact g1
  ·cases e
set_option tactic.hygienic true in
theorem sU(L:jQ X S k Φ){t:Tg}(h:my S t tg=true):∃g,PG X tg g/\∀(v:V) (σ:St) (H:Hp) (Q:St->Hp->Prop) (R:ai) (τ:Addr->Option aX) (ρ ρ':aY) (d:D),SI X F R τ ρ σ H->f9 X R τ H v d->cm t d ρ=ok ρ' ->
  (∀σ' τ',SI X F R τ' ρ' σ' H->Q σ' H)->g v σ H Q:=by
 cases t with
 |nm i =>
  refine⟨mW i,xQ L h,λv σ H Q R τ ρ ρ' d Si rk e hq=>?_⟩;simp only[cm]at e;split at e
  ·rename_i hi;cases e;obtain⟨τ',eU⟩:=Si.set rk hi;exact hq _ τ' eU
  ·cases e
 |tp is =>
  obtain⟨es,hx,ha⟩:=bp h;obtain⟨nn,pp,rfl⟩:=iJ hx;obtain⟨h1,h2,h3⟩:=xP L ha;refine⟨_,xO L.calm h1 h2 h3,λv σ H Q R τ ρ ρ' d Si rk e hq=>?_⟩;cases d<;>try (simp[cm]at e;done)
  rename_i ds;simp only[cm]at e;split at e
  ·cases e
  ·rename_i ho;obtain⟨τt,ht,rp⟩:=rk;cases rp with
   | @tup _ p xs _ hp rs =>
    have ia:az (aT X.K H) (nd X.K R (λ_=>False) (λ_=>none) H) [] 0 xs ds:=az.without (P:=cD) (λ_ _ h=>h) (λk k' p xs f hf h=>by
     cases f with
     |ow=>cases hf
     |fz=>exact h
     |al=>exact h.2.elim
     |sc=>exact h) rs (by simpa using ho) _ _
    refine⟨p,xs,rfl,hp,?_,pH ia Si e hq⟩;rw[rs.length];have:∀(is:aH) (ds:ab) (ρ ρ':aY),fg is ds ρ=ok ρ'->ds.length=is.length:=by
     intro is;induction is with
     |nil=>intro ds ρ ρ' e;cases ds with|nil=>rfl|cons _ _=>cases e
     |cons i is ih=>intro ds ρ ρ' e;cases ds with
      |nil=>cases e
      |cons d ds =>
       change (if _ then _ else _)=_ at e;split at e
       ·simp[ih ds _ _ e]
       ·cases e
    exact this _ _ _ _ e
end
section
variable {X:Cx}{S:Sx}{k:Nat}{F:ai}{Φ:aU}
theorem xi(L:jQ X S k Φ){t:Tg}{e:CE}{v:Expr}(he:bM S e v=true)(ht:my S t tg=true)(hp:(isTup v&&isTup tg)=false)(BA:swapsWithSole [tg] v pos.line X.env=pure false):PS X (.Assign [tg] v pos) (jS X F Φ (.asg t e)):=by
 obtain⟨g,hg,vN⟩:=sU (F:=F) L ht;have CP:(∃x p,tg=.Name x p)\/∃es n p,tg=.Tuple es n p:=by
  cases t with
  |nm i=>cases tg<;>first|exact .inl ⟨_,_,rfl⟩|exact(WS ht).elim
  |tp is=>cases tg<;>first|exact .inr ⟨_,_,_,rfl⟩|exact(WS ht).elim
 have each:(assignEach [tg] X.env).map (·.2)=[assign tg X.env]:=by
  rcases CP with ⟨x,p,rfl⟩|⟨es,n,p,rfl⟩<;>rfl
 have hw:swappedStores [tg] v X.env=pure none:=by
  rcases CP with ⟨x,p,rfl⟩|⟨es,n,p,rfl⟩
  ·first|rfl | (cases v<;>rfl)
  ·cases v<;>first|rfl|exact absurd hp (by simp[isTup])
 refine PS.imp (rB (nE (F:=F) L.toLk e v he) hg BA hw each) λD σ H hq=>?_;obtain⟨R,τ,ρ,r,Si,ev,hq⟩:=hq;obtain⟨r1,qr,ev⟩:=aA ev;obtain⟨ρ',eρ,ev⟩:=aA ev;cases ev;exact⟨R,τ,ρ,r1,Si,qr,λv H' R' τ' es hR eU rk=>vN v σ H' _ R' τ' r1.2 ρ' r1.1 eU rk eρ λσ' qT zH=>hq σ' H' R' qT zH (Kp.of es hR)⟩
theorem Az(L:jQ X S k Φ){i n:Nat}{t:Tg}{ik:IK}{x:Str}{p Jw:Pos}{gens:List Comprehension}{sc:Scope}
  (he:bM S (.comp n t caps ik es bu elt) (.ListComp gN gens sc pos)=true) (hn:i7 S i (.Name x p)=true) (BA:swapsWith (.ListComp gN gens sc pos) (some (.Name x p)) Jw.line X.env=pure true) :
  PS X (.Assign [.Name x p] (.ListComp gN gens sc pos) Jw) (jS X F Φ (.asg (.nm i) (.comp n t caps ik es bu elt))):=by
 intro pins s σ H D I hq;obtain⟨R,τ,ρ,r,Si,ev,hq⟩:=hq;obtain⟨r1,qr,ev⟩:=aA ev;obtain⟨ρ',eρ,ev⟩:=aA ev;cases ev;have qr:bd (bg Φ (.comp n t caps ik es bu elt) ρ) (λd=>ok (keep (.comp n t caps ik es bu elt) d ρ))=ok r1:=qr;obtain⟨d,ed,qr⟩:=aA qr;cases qr;have hg:=xQ L hn;rw[exec_Assign_Name_used _ _ _ _ BA];refine WN (Yd (WN ?_));obtain⟨⟨e0,g0,s0⟩,UP,hz0⟩:=bp he;cases UP;obtain⟨⟨target,iter,ifs,a⟩,Qk,hz⟩:=bp hz0;obtain rfl:gens=_:=cW Qk;obtain⟨hz,h6⟩:=aI hz;obtain⟨hz,h5⟩:=aI hz;obtain⟨hz,h4⟩:=aI hz;obtain⟨hz,h3⟩:=aI hz;obtain⟨hz,h2⟩:=aI hz;obtain⟨hz,h1⟩:=aI hz;obtain rfl:a=0:=WO hz;have hC:=qz (WO h3) h4 (λ(X':Cx) (F':ai) (L':Lk X' (S.inner target caps sc) k Φ)=>gc bu X' _ F' L' ifs h4);have run:wpAny (model X.prog X.w) X.A (comprehension (.ListComp gN [⟨target,iter,ifs,0⟩] sc pos) sc X.env (firstIterPos [⟨target,iter,ifs,0⟩] pos) (newList []) false (eval iter X.env) (some (assign (.Name x p) X.env))) (λ_ s'=>SP X pins D .next s') X.xe s:=by
  refine qA (F:=F) (k:=k) L.toLk (m7 h1) h2 (λX' F' L'=>(fC (F:=F') L' elt gN h5).1) hC ?_ (use:=some (assign (.Name x p) X.env)) (Post:=λ_ s'=>SP X pins D .next s') I Si ed ?_
  ·exact yC L.toLk (λl=>tx (F:=F) L.toLk es l) (λl=>gc es X S F L.toLk l) (λl=>iP L.toLk es l) h6
  ·intro acc C H1 s1 m qi hc IX sm rt;obtain⟨c1,c2,c3,c4,c5⟩:=hc;obtain⟨R',τ',hR,eU,rk⟩:=yw (e:=.comp n t caps ik es bu elt) Si sm rt;have I1:Inv X pins σ H1 s1:=IX s1.heap (.refl ..);obtain⟨oC,VF,VH,U0,SE,UX⟩:=qi;have V4:C∉X.fs:=λz=>by
    obtain⟨_,o,ho,_⟩:=I1.ok.j0.mem z;exact absurd (WY (WX ho) c2) (Xh _)
   have I2:Inv X ((C,oC)::pins) σ H1 s1:=I1.gG λq hq=>by
    rcases List.mem_cons.mp hq with rfl|hq
    ·exact⟨U0,c5,c1,V4,λv z=>by rw[SE]at z;cases z⟩
    ·exact I1.pin q (WW _ hq)
   simp only[cm]at eρ;split at eρ
   ·rename_i hi;cases eρ;obtain⟨τ2,sI⟩:=eU.set rk hi;show wpAny _ _ (assign (.Name x p) X.env (.ref acc)) _ _ _;refine W7 (hg ((C,oC)::pins) s1 σ H1 (.ref acc) (.ref acc) (λσ' H'=>σ'=σ.set i (some (.ref acc))/\H'=H1) I2 rfl ⟨rfl,rfl⟩) (λ_ s2 h2=>?_) λ_ _ z=>z;obtain⟨σ',H',I3,rfl,rfl⟩:=h2;have Vv:=(I3.pin (C,oC) (WW _ WR)).1;refine⟨m,⟨oC,VF,VH,Vv,SE,UX⟩,λh' rX=>?_⟩;have I4:Inv X pins (σ.set i (some (.ref acc))) H' s2:=I3.gG λq hq=>I3.pin q (WW _ (WT _ hq));have I5:=I4.turned (t':=s2.toks) (h':=h') (it:=C) (λb o hb e=>(rX.2 b hb).trans e) c5 c1 (.inr c2) c3 c4;exact⟨_,H',I5,hq _ H' R' τ2 sI (Kp.of sm hR)⟩
   ·cases eρ
 exact WN (W7 run (λ_ s' h=>WU (WU h)) λ_ _ z=>z)
theorem Ew(L:jQ X S k Φ){e:CE}{v:Expr}(he:bM S e v=true):PS X (.Return (some v) pos) (jS X F Φ (.ret e)):=by
 refine PS.imp (Fh (nE (F:=F) L.toLk e v he)) λD σ H hq=>?_;obtain⟨R,τ,ρ,r,Si,ev,hq⟩:=hq;obtain⟨r1,qr,ev⟩:=aA ev;cases ev;exact⟨R,τ,ρ,r1,Si,qr,λv H' R' τ' es hR eU rk=>hq v H' eU.same (rk.ret eU)⟩
theorem Jv(L:jQ X S k Φ){e:CE}{v:Expr}(he:bM S e v=true)(Qd:fH v=false):PS X (.Expr v pos) (jS X F Φ (.ex e)):=by
 refine PS.imp (nL (fC (F:=F) L.toLk e v he).1 (lX he Qd _ _ _)) λD σ H hq=>?_;obtain⟨R,τ,ρ,r,Si,ev,hq⟩:=hq;obtain⟨d,ed,ev⟩:=aA ev;cases ev;exact tD.intro Si ed λv H' es rv=>hq σ H' R τ (Si.go es) (Kp.of es λ_ h=>h)
theorem jP.from{D:Ends}{r:Fo×aY}(h:jP X F D R H r)(kp:Kp R H R1 H1):jP X F D R1 H1 r:=by
 obtain⟨fo,ρ'⟩:=r;cases fo with
 |nx=>exact λσ' H' R' τ' Si k2=>h σ' H' R' τ' Si (kp.trans k2)
 |rt d=>exact h
theorem Ju(L:jQ X S k Φ){c:CE}{a b:aj}{t:Expr}{x y:aL}(hc:bM S c t=true)(ha:jc X x (jf X F Φ a))(hb:jc X y (jf X F Φ b)):PS X (.If t x y pos) (jS X F Φ (.ifs c a b)):=by
 refine PS.imp (JV (fC (F:=F) L.toLk c t hc).2 ha hb) λD σ H hq=>?_;obtain⟨R,τ,ρ,r,Si,ev,hq⟩:=hq;obtain⟨w,ew,ev⟩:=aA ev;refine⟨R,τ,ρ,w,Si,ew,λH1 e1=>?_⟩;cases w with
 |true=>rw[if_pos rfl]at ev ⊢;exact⟨R,τ,ρ,r,Si.go e1,ev,hq.from (Kp.of e1 λ_ h=>h)⟩
 |false=>rw[if_neg (by simp)]at ev ⊢;exact⟨R,τ,ρ,r,Si.go e1,ev,hq.from (Kp.of e1 λ_ h=>h)⟩
theorem xh(L:jQ X S k Φ){c:CE}{b:aj}{t:Expr}{x:aL}(hc:bM S c t=true)(hb:jc X x (jf X F Φ b)):PS X (.While t x [] pos) (jS X F Φ (.CH c b)):=by
 refine PS.imp (xK L.px (fC (F:=F) L.toLk c t hc).2 hb) λD σ H hq=>?_;obtain⟨R,τ,ρ,r,Si,ev,hq⟩:=hq;obtain⟨n,hn⟩:=jm ev;refine⟨λm σ' H'=>∃R' τ' ρ',SI X F R' τ' ρ' σ' H'/\Kp R H R' H'/\cy m _ ρ'=ok r,⟨n,R,τ,ρ,Si,Kp.refl R H,hn⟩,?_⟩;rintro m σ1 H1 ⟨R1,τ1,ρ1,l8,k1,e1⟩;cases m with
 |zero=>simp[cy]at e1
 |succ m =>
  rw[cy]at e1;obtain⟨st,es,e1⟩:=aA e1;obtain⟨w,ew,es⟩:=aA es;refine⟨R1,τ1,ρ1,w,l8,ew,λH2 e2=>?_⟩;cases w with
  |false =>
   rw[if_neg (by simp)]at es ⊢;cases es;cases e1;exact hq σ1 H2 R1 τ1 (l8.go e2) (k1.trans (Kp.of e2 λ_ h=>h))
  |true =>
   rw[if_pos rfl]at es ⊢;obtain⟨⟨fo,ρ2⟩,eb,es⟩:=aA es;refine⟨λσ' H'=>∃R' τ' ρ',SI X F R' τ' ρ' σ' H'/\Kp R H R' H'/\cy m _ ρ'=ok r,λσ' H' h=>⟨m,XI m,h⟩,R1,τ1,ρ1,(fo,ρ2),l8.go e2,eb,?_⟩;have k2:Kp R H R1 H2:=k1.trans (Kp.of e2 λ_ h=>h);cases fo with
   |nx=>cases es;exact λσ' H' R' τ' eU k3=>⟨R',τ',ρ2,eU,k2.trans k3,e1⟩
   |rt d=>cases es;cases e1;exact hq
def ja(X:Cx)(F:ai)(Φ:aU)(t:Tg)(b:aj)(R1:ai)(H1:Hp)(r:Fo×aY)(items:List DI.D)(i:Nat)(σ:St)(H:Hp):Prop :=
 ∃R' τ' ρ',SI X F R' τ' ρ' σ H/\Kp R1 H1 R' H/\eM (λd ρ=>cm t d ρ) (λρ=>bC Φ b ρ) (items.drop i) ρ'=ok r
theorem lK{g:TG}{t:Tg}{b:aj}{D:Ends}{r:Fo×aY}{items:List DI.D}{q:aX}
  (vN:∀(v:V) (σ:St) (H:Hp) (Q:St->Hp->Prop) (R:ai) (τ:Addr->Option aX) (ρ ρ':aY) (d:DI.D),SI X F R τ ρ σ H->f9 X R τ H v d->cm t d ρ=ok ρ'->(∀σ' τ',SI X F R τ' ρ' σ' H->Q σ' H)->g v σ H Q)
  (rs:az (aT X.K H1) (nd X.K R1 (λ_=>False) (λ_=>none) H1) q 0 xs items) (hq:jP X F D R1 H1 r) (i:Nat) (x:V) (σ:St) (H:Hp) (hx:xs[i]?=some x) (h:ja X F Φ t b R1 H1 r items i σ H) :
  g x σ H λσ2 H2=>jf X F Φ b { D with nx:=ja X F Φ t b R1 H1 r items (i+1),ct:=ja X F Φ t b R1 H1 r items (i+1),bk:=D.nx } σ2 H2:=by
 obtain⟨R',τ',ρ',Si,kp,ef⟩:=h;obtain⟨d,hd,rd⟩:=rs.yW hx;have hi:i<items.length:=by
  by_cases hi:i<items.length
  ·exact hi
  ·rw[List.getElem?_eq_none (by left)]at hd;cases hd
 have qj:items.drop i=d::items.drop (i+1):=by
  rw[List.drop_eq_getElem_cons hi];rw[List.getElem?_eq_getElem hi]at hd;cases hd;rfl
 rw[qj,eM]at ef;obtain⟨ρ1,e1,ef⟩:=aA ef;obtain⟨⟨fo,ρ2⟩,e2,ef⟩:=aA ef;refine vN x σ H _ R' τ' ρ' ρ1 d Si (kb (Rep.nW (kp.rep rd))) e1 λσ' qT eU=>⟨R',qT,ρ1,(fo,ρ2),eU,e2,?_⟩
 cases fo with
 |nx=>exact λσ3 H3 R3 τ3 HU k3=>⟨R3,τ3,ρ2,HU,kp.trans k3,ef⟩
 |rt d=>cases ef;exact hq
theorem ko{t:Tg}{b:aj}{D:Ends}{r:Fo×aY}{items:List DI.D}{n:Nat}(hn:n=items.length)(hq:jP X F D R1 H1 r)(σ:St)(H:Hp)(h:ja X F Φ t b R1 H1 r items n σ H):D.nx σ H:=by
 obtain⟨R',τ',ρ',Si,kp,ef⟩:=h;subst hn;rw[List.drop_length,eM]at ef;cases ef;exact hq σ H R' τ' Si kp
theorem uq(ρ:aY):fu [] ρ=ρ:=by
 unfold fu;apply List.ext_getElem?;intro i;rw[List.getElem?_mapIdx];cases ρ[i]? with
 |none=>rfl
 |some o=>simp
theorem uw{v:V}{d:DI.D}(Si:SI X F R τ ρ σ H)(es:aJ H H')(r:bN X.K (gP X F) R τ fv H H' v d):
  ∃R' τ',(∀p,R p->R' p)/\SI X F R' τ' (if aS bW d then fu fv ρ else ρ) σ H'/\Rep (aT X.K H') (nd X.K R' (λ_=>False) (λ_=>none) H') [] v (aZ bo d):=by
 by_cases ha:aS bW d=true
 ·rw[if_pos ha];exact oh Si es r
 ·rw[if_neg ha];have r':bN X.K (gP X F) R τ [] H H' v d:=by
   obtain⟨τt,fr,rp⟩:=r;exact⟨τt,fr,Rep.iH (P:=bW) (λ_ _ h=>h) (λk p xs f hf h=>by
    cases f with
    |ow=>exact h
    |fz=>exact h
    |al=>cases hf
    |sc=>exact h) rp (by simpa using ha)⟩
  have:=oh Si es r';rw[uq]at this;exact this
theorem y4{ds:List DI.D}(Si:SI X F R τ ρ σ H)(es:aJ H H')(r:bY X.K (gP X F) R τ fv H H' vs ds):
  ∃R' τ',(∀p,R p->R' p)/\SI X F R' τ' (if aP bW ds then fu fv ρ else ρ) σ H'/\az (aT X.K H') (nd X.K R' (λ_=>False) (λ_=>none) H') [] 0 vs (aG bo ds):=by
 by_cases ha:aP bW ds=true
 ·rw[if_pos ha];exact qo Si es r
 ·rw[if_neg ha];have r':bY X.K (gP X F) R τ [] H H' vs ds:=by
   obtain⟨τt,fr,rp⟩:=r;exact⟨τt,fr,az.iH (P:=bW) (λ_ _ h=>h) (λk p xs f hf h=>by
    cases f with
    |ow=>exact h
    |fz=>exact h
    |al=>cases hf
    |sc=>exact h) rp (by simpa using ha)⟩
  have:=qo Si es r';rw[uq]at this;exact this
def TL(X:Cx)(F:ai)(Φ:aU)(p:Nat)(cs:aB):TI:=λσ H Rr=>∃R τ ρ xs d items,SI X F R τ ρ σ H/\cM Φ cs ρ=ok xs/\Φ p xs=ok d/\nH d=ok items /\
 ∀J H2 vs,aJ H H2->bY X.K (gP X F) R τ (cT cs) H H2 vs xs->Mz X.K J H2 vs xs items->Rr J H2
theorem Ay(L:jQ X S k Φ){t:Tg}{p:Nat}{b:aj}{x:aL}(ht:my S t tg=true)(hi:S.px.pi p S.sc S.bl iter=some args)(hc:bB S cs args=true)(BD:M1 iter=true)(UR:(decide (1100<=p)||gm tg)=true)(hb:jc X x (jf X F Φ b)):PS X (.For tg iter x [] pos) (jS X F Φ (.fr t (.JY p cs) b)):=by
 obtain⟨g,hg,vN⟩:=sU (F:=F) L ht;have lG:∀y,foldedSetIterable iter X.env y=pure y:=by
  intro y;cases iter<;>first|rfl | (cases BD;done)
 have pi:PI X tg iter (TL X F Φ p cs):=λpins s σ H Rr I ⟨R,τ,ρ,xs,d,items,Si,cL,ed,ei,hR⟩ =>
  L.pr.i X _ _ k L.toLk.pX p iter args hi F cs tg UR (iP L.toLk cs args hc) pins s σ H R τ ρ xs d items I Si cL ed ei Rr hR
 refine PS.imp (nK L.px L.calm pi hg hb lG) λD σ H hq=>?_;obtain⟨R,τ,ρ,r,Si,ev,hq⟩:=hq;obtain⟨⟨items,ρ1⟩,ei,ef⟩:=aA ev;obtain⟨xs,cL,ei⟩:=aA ei;obtain⟨d,ed,ei⟩:=aA ei;obtain⟨Pp,VN,ei⟩:=aA ei;cases ei;refine⟨R,τ,ρ,xs,d,items,Si,cL,ed,VN,λJ H2 vs e2 AK yz=>?_⟩;obtain⟨R',τ',hR,eU,rs⟩:=y4 Si e2 AK;have yJ:=hq.from (Kp.of e2 hR);refine⟨λi m σ' H'=>m=items.length - i/\i<=items.length/\ja X F Φ t b R' H2 r items i σ' H',⟨_,rfl,W6 _,R',τ',_,eU,Kp.refl R' H2,by rw[List.drop_zero];exact ef⟩,?_⟩;rintro i m σ1 H1 ⟨rfl,Nu,hf⟩;obtain⟨R1,τ1,ρ2,l8,k1,e1⟩:=id hf;have JK:=k1.OK rs;have Ox:qK X.K H2 vs xs H1:=⟨⟨R',rs,k1.l⟩,λa ys h=>k1.MO h⟩
 by_cases fj:i<items.length
 ·refine .inr ⟨yz.go i H1 R1 Ox JK fj,λσ' H'=>ja X F Φ t b R' H2 r items (i+1) σ' H',λσ' H' h=>⟨items.length - (i+1),by left,rfl,fj,h⟩,λv H3 hy=>?_⟩;obtain⟨e3,dd,hd,rd⟩:=yz.qM i H1 R1 v H3 Ox JK fj hy;have qj:items.drop i=dd::items.drop (i+1):=by
   rw[List.drop_eq_getElem_cons fj];rw[List.getElem?_eq_getElem fj]at hd;cases hd;rfl
  rw[qj,eM]at e1;obtain⟨ρ3,eb,e1⟩:=aA e1;obtain⟨⟨fo,ρ4⟩,e4,e1⟩:=aA e1;have k3:Kp R' H2 R1 H3:=k1.trans (Kp.of e3 λ_ h=>h);refine vN v σ1 H3 _ R1 τ1 ρ2 ρ3 dd (l8.go e3) (kb rd) eb λσ' qT zH=>⟨R1,qT,ρ3,(fo,ρ4),zH,e4,?_⟩
  cases fo with
  |nx=>exact λσ3 H4 R3 τ3 HU k4=>⟨R3,τ3,ρ4,HU,k3.trans k4,e1⟩
  |rt d=>cases e1;exact yJ
 ·exact .inl ⟨yz.stop i H1 R1 Ox JK (by left),ko (n:=i) (by left) yJ σ1 H1 hf⟩
theorem az.ints{T:j6}{N:gx}:∀(is:aa) {k:aX} {n:Nat},az T N k n (is.map V.int) (is.map DI.D.int)
 |[],_,_=>.nil
 |i::is,_,_=>.cons (.int i) (az.ints is)
set_option tactic.hygienic true in
theorem Ey(L:jQ X S k Φ){t:Tg}{it:CI}{b:aj}{x:aL}(ht:my S t tg=true)(hi:Mh S it iter=true)(U1:(gm tg||x5 it)=true)(hb:jc X x (jf X F Φ b)):PS X (.For tg iter x [] pos) (jS X F Φ (.fr t it b)):=by
 obtain⟨g,hg,vN⟩:=sU (F:=F) L ht;have lG:∀y,foldedSetIterable iter X.env y=pure y:=by
  intro y;cases iter<;>first|rfl | (cases it<;>first|exact(WS hi).elim|exact(WS (aI hi).2).elim)
 have kW:∀{lo:Int} {n:Nat} {D:Ends} {R:ai} {τ:Addr->Option aX} {ρ:aY} {σ:St} {H H1:Hp} {r:Fo×aY},SI X F R τ ρ σ H->aJ H H1->jP X F D R H r ->
   eM (λd ρ=>cm t d ρ) (λρ=>bC Φ b ρ) ((List.range n).map λ(k:Nat)=>DI.D.int (lo+(k:Int))) ρ=ok r ->
   ∃W:Nat->Nat->L2.St->Hp->Prop,(∃m,W 0 m σ H1)/\∀i m σ H,W i m σ H ->
    ((wq lo n).stop i H/\D.nx σ H)\/((wq lo n).go i H/\∃N:L2.St->Hp->Prop,(∀σ' H',N σ' H'->∃m',m'<m/\W (i+1) m' σ' H')/\∀x H',(wq lo n).qM i H x H'->g x σ H' λσ2 H2=>jf X F Φ b { D with nx:=N,ct:=N,bk:=D.nx } σ2 H2):=by
  intro lo n D R τ ρ σ H H1 r Si e1 hq ef;have rs:az (aT X.K H1) (nd X.K R (λ_=>False) (λ_=>none) H1) [] 0 ((List.range n).map λ(k:Nat)=>V.int (lo+(k:Int))) ((List.range n).map λ(k:Nat)=>DI.D.int (lo+(k:Int))):=by
   have:=az.ints (T:=aT X.K H1) (N:=nd X.K R (λ_=>False) (λ_=>none) H1) ((List.range n).map λ(k:Nat)=>lo+(k:Int)) (k:=[]) (n:=0);rw[List.map_map,List.map_map]at this;exact this
  have yJ:=hq.from (Kp.of e1 (R':=R) λ_ h=>h);refine vW (ja X F Φ t b R H1 r _) ⟨R,τ,ρ,Si.go e1,Kp.refl R H1,by rw[List.drop_zero];exact ef⟩ (λi σ' H' U7 h=>?_) (λσ' H' h=>ko (by simp) yJ σ' H' h);exact lK vN rs yJ i (.int (lo+i)) σ' H' (by rw[List.getElem?_map,List.getElem?_range U7];rfl) h
 intro pins s σ H D I PV;cases it with
 |JY p cs =>
  obtain⟨BD,hz⟩:=aI hi;obtain⟨args,ha,Gu⟩:=bp hz;exact Ay L ht ha Gu BD (by rw[Bool.or_comm];exact U1) hb pins s σ H D I PV
 |kW a =>
  obtain⟨R,τ,ρ,r,Si,ev,hq⟩:=PV;obtain⟨⟨items,ρ1⟩,ei,ef⟩:=aA ev;obtain⟨⟨y,as⟩,hv,hz⟩:=bp hi;obtain⟨p,Gk,rfl⟩:=eu hv;obtain⟨PF,Gu⟩:=aI hz;obtain⟨UJ,h2⟩:=aI PF;obtain⟨UI,h1⟩:=aI UJ;obtain rfl:y=_:=WO UI;obtain⟨e,hu,h3⟩:=bp Gu;obtain rfl:as=[e]:=cW hu;have pa:PA X [e] (mJ X F Φ [a]):=PA.imp (cO (fC (F:=F) L.toLk a e h3).1 eW (b_ h3 _ _)) λ_ _ _ h=>by
   have:=cU h;obtain⟨R,τ,ρ,d,Si,ev,hq⟩:=this;exact⟨R,τ,ρ,d,Si,ev,λv H' e r=>eO (hq v H' e r)⟩
  refine nK L.px L.calm (mO (L.gl h1) (L.bl _ (WO h2)) pa (b_ h3 _ _)) hg hb lG pins s σ H D I ?_;obtain⟨d,ed,ei⟩:=aA ei;cases d<;>try (simp at ei;done)
  rename_i n;simp at ei;obtain⟨⟨c1,c2⟩,rfl,rfl⟩:=ei;have n9:(eK:Int)=1000000:=rfl;refine⟨R,τ,ρ,[.int n],Si,by show bd (bg Φ a ρ) _=_;rw[ed];rfl,λvs H1 e1 rv=>?_⟩;obtain⟨τt,fr,rs⟩:=rv;cases rs.ints1
  ·refine⟨n,rfl,by left,by left,?_⟩;refine kW (lo:=0) Si e1 hq ?_;simpa using ef
 |seq a =>
  obtain⟨R,τ,ρ,r,Si,ev,hq⟩:=PV;obtain⟨⟨items,ρ1⟩,ei,ef⟩:=aA ev;replace hi:=aI hi;obtain⟨d,ed,ei⟩:=aA ei;have pe:=(fC (F:=F) L.toLk a iter hi.1).1;cases d<;>try (simp at ei;done)
  ·rename_i ds;simp at ei;obtain⟨rfl,rfl⟩:=ei;refine nK L.px L.calm (xN pe) hg hb lG pins s σ H D I (tD.intro Si ed λv H1 e1 rv=>?_);obtain⟨R',τ',hR,eU,rp⟩:=uw Si e1 rv;rw[aZ]at rp;cases rp with
   | @tup _ p xs _ hp rs =>
    have yJ:=hq.from (Kp.of e1 hR);refine⟨p,rfl,⟨xs,hp⟩,BS (xs:=xs) (ja X F Φ t b R' H1 r (aG bo ds)) ⟨R',τ',_,eU,Kp.refl R' H1,by rw[List.drop_zero];exact ef⟩ (λi σ' H' _ h=>?_) (λi x σ' H' hx h=>lK vN rs yJ i x σ' H' hx h) (λσ' H' h=>ko (rs.length) yJ σ' H' h)⟩;obtain⟨R2,τ2,ρ2,_,kp,_⟩:=h;exact kp.MO hp
  ·rename_i f ds;simp at ei;obtain⟨rfl,rfl⟩:=ei;refine nK L.px L.calm (tR pe) hg hb lG pins s σ H D I (tD.intro Si ed λv H1 e1 rv=>?_);obtain⟨R',τ',hR,eU,rp⟩:=uw Si e1 rv;rw[aZ]at rp;obtain⟨p,xs,rfl,hp,rs⟩:=rp.oV;have yJ:=hq.from (Kp.of e1 hR);refine⟨p,rfl,⟨xs,hp.sq⟩,y6 (xs:=xs) (ja X F Φ t b R' H1 r (aG bo ds)) ⟨R',τ',_,eU,Kp.refl R' H1,by rw[List.drop_zero];exact ef⟩ (λi σ' H' _ h=>?_) (λi x σ' H' hx h=>lK vN rs yJ i x σ' H' hx h) (λσ' H' h=>ko (rs.length) yJ σ' H' h)⟩;obtain⟨R2,τ2,ρ2,_,kp,_⟩:=h;exact(kp.nd hp).sq
theorem lp{ρ':aY}{p:Addr}{q:aX}{n:Nd}{o:HO}(Si:SI X F R' τ' ρ' σ H1)(es:aJ H H1)(hR:∀p,R p->R' p)(hp:dm H1 p n)(ht:τ' p=some q):Kp R H R' (upd H1 p o):=by
 obtain⟨o0,yK,K7,Iu⟩:=dm.some hp;exact⟨hR,λa u ha e=>by
  have ne:a≠p:=λz=>by subst z;rw[Si.rt _ (hR _ ha)]at ht;cases ht
  rw[aQ ne];exact es _ _ e,λa zs e=>by
  have e1:=es _ _ e;have ne:a≠p:=λz=>by subst z;rw[yK]at e1;cases e1;exact K7 _ rfl
  rw[aQ ne];exact e1,λa o u e=>by
  have e1:=es _ _ e;have ne:a≠p:=λz=>by subst z;rw[yK]at e1;cases e1;exact Iu _ _ rfl
  rw[aQ ne];exact e1⟩
theorem f9.go{v:V}{d:DI.D}(h:f9 X R τ H v d)(e:aJ H H'):f9 X R τ H' v d :=
 let ⟨τt,h1,h2⟩:=h;⟨τt,λp q z=>let ⟨a,b,c,d⟩:=h1 p q z;⟨a,b,c,aJ.ne e d⟩,h2.imp (λ_ _ h=>aT.same e h) λ_ _ _ _ h=>nd.same e h⟩
set_option tactic.hygienic true in
theorem Nb(L:jQ X S k Φ){i:Nat}(h:i7 S i o=true)(hv:∀x p,o=.Name x p->jW x=true):∃x p,o=.Name x p/\X.N[i]?=some x/\L2.Loc X.env.scope x/\PE X o (xb i):=by
 cases o<;>try (exact(WS h).elim;done)
 rename_i x p;have hn:=hv x p rfl;replace h:=aI h;unfold jW at hn;simp only[Bool.and_eq_true,Bool.not_eq_true']at hn;have hN:X.N[i]?=some x:=by rw[L.N];exact WO h.1
 have hl:=L.loc h.2;exact⟨x,p,rfl,hN,hl,rC hN (hl.imp id .inl) hn.1.1 hn.1.2⟩
theorem uy{e:CE}{r:DI.D×aY}{i:Nat}{ds:List DI.D}(h:gL Φ e ρ=ok r)(ho:r.2[i]?=some (some (.lst .ow ds))):ρ[i]?=some (some (.lst .ow ds)):=by
 by_cases hv:∃j,e=.v j
 ·obtain⟨j,rfl⟩:=hv;simp only[gL]at h;split at h
  ·split at h
   ·cases h;by_cases dN:i=j
    ·subst dN;rw[List.getElem?_set]at ho;simp at ho
    ·rw[List.getElem?_set_ne (Ne.symm dN)]at ho;exact ho
   ·cases h;exact ho
  ·cases h
 ·have h':bd (bg Φ e ρ) (λd=>ok (keep e d ρ))=ok r:=by
   cases e<;>first|exact h|exact absurd ⟨_,rfl⟩ hv
  obtain⟨d,_,er⟩:=aA h';cases er;unfold keep at ho;split at ho
  ·obtain⟨d',h1,h2⟩:=ur _ _ _ _ ho;split at h2
   ·cases d'<;>simp[aZ]at h2;rename_i f ds';cases f<;>simp[bo]at h2
   ·rw[h2];exact h1
  ·exact ho
set_option tactic.hygienic true in
theorem EA(L:jQ X S k Φ){i:Nat}{e:CE}{x:Str}{v:Expr}{p p2:Pos}(hn:i7 S i (.Name x p)=true)(hx:jW x=true)(he:bM S e v=true)(Qg:(p1.endLine==p2.line)=true):PS X (.Expr (.Call (.Attribute (.Name x p) ("append" : Str) p1) [v] [] p2) pos) (jS X F Φ (.app i e)):=by
 obtain⟨_,_,z,hN,hl,pe⟩:=Nb L hn (λy q e=>by cases e;exact hx);cases z;refine PS.imp (nL (J3 PySem.F.plainAttrs_list PySem.F.slot_list_append PySem.F.type_list_append vx pe (cO (nE (F:=F) L.toLk e v he) eW (b_ he _ _)) (hfew:=by rw[b_ he];rfl) (hline:=Qg) (hs:=b_ he _ _))) λD σ H hq=>?_;obtain⟨R,τ,ρ,r,Si,ev,hq⟩:=hq;obtain⟨r1,qr,ev⟩:=aA ev;split at ev
 ·rename_i ds ho;split at ev
  ·rename_i hc;cases ev;have ho:=tV ho;obtain⟨a,xs,hv,ha,UN,UT,_⟩:=Si.own (uy qr ho);refine⟨.ref a,hv,.inl ⟨rfl,_,de.of ha⟩,R,τ,ρ,r1,Si,qr,λw H1 R1 τ1 es hR l8 rk=>?_⟩;obtain⟨a1,TF,Nl,Qu,UM,K1,JK⟩:=l8.own ho;rw[hv]at Nl;cases Nl;have hz:sizeLine=16777216:=XF;have n9:eK=1000000:=rfl;refine⟨a,TF,w,rfl,rfl,Qu,by left,?_⟩;obtain⟨τ2,sI⟩:=l8.put (m:=ds.length) (g:=λys=>ys++[w]) ho hv Qu K1 JK rk λrs r=>az.C3 rs (by simpa using r);exact hq σ _ R1 τ2 sI (lp (n:=.l _) l8 es hR Qu K1)
  ·cases ev
 ·cases ev
theorem Ax(L:jQ X S k Φ){i:Nat}{c e:CE}{x:Str}{ke v:Expr}{p:Pos}(hn:i7 S i (.Name x p)=true)(hx:jW x=true)(hk:bM S c ke=true)(he:bM S e v=true)(Qd:fH v=false):PS X (.Assign [.Subscript (.Name x p) ke p1] v pos) (jS X F Φ (.setI i c e)):=by
 obtain⟨_,_,z,hN,hl,pe⟩:=Nb L hn (λy q e=>by cases e;exact hx);cases z;have hw:swappedStores [.Subscript (.Name x p) ke p1] v X.env=pure none:=by cases v<;>rfl
 have ha:∀u,assign (.Subscript (.Name x p) ke p1) X.env u=(do
   let ov <- holding [u] (eval (.Name x p) X.env)
   let iv <- holding [u,ov] (eval ke X.env)
   standAt p1
   holding [u,ov,iv] (setItem ov iv u)
   release [u,ov,iv] []):=by
  intro u;cases ke<;>first|rfl | (cases c<;>exact(WS hk).elim)
 refine PS.imp (rB (nE (F:=F) L.toLk e v he) (Fn pe (fC (F:=F) L.toLk c ke hk).1 set_list ha) (by first|rfl | (cases v<;>rfl) | (unfold swapsWithSole;exact lX he Qd _ _ _)) hw rfl) λD σ H hq=>?_;obtain⟨R,τ,ρ,r,Si,ev,hq⟩:=hq;obtain⟨r1,qr,ev⟩:=aA ev;obtain⟨n,en,ev⟩:=aA ev;obtain⟨d,ed,en⟩:=aA en;have en:=ug en;subst en;split at ev
 ·rename_i ds ho;split at ev
  ·rename_i j hj;cases ev;have ho:=tV ho;obtain⟨a,xs,hv,ha,UN,UT,_⟩:=Si.own (uy qr ho);refine⟨R,τ,ρ,r1,Si,qr,λw H1 R1 τ1 es hR l8 rk=>?_⟩;refine⟨.ref a,hv,tD.intro l8 ed λu H2 e2 ru=>?_⟩;cases ru.isInt;have sI:=l8.go e2;obtain⟨a2,D1,Nk,Qt,PH,K0,xB⟩:=sI.own ho;rw[hv]at Nk;cases Nk;refine⟨a,D1,n,j,rfl,rfl,Qt,by rw[PH];exact hj,?_⟩;obtain⟨τ3,HU⟩:=sI.put (m:=j) (g:=λys=>ys.set j w) ho hv Qt K0 xB (rk.go e2) λrs r=>az.setAt (j:=j) rs (by simpa using r);exact hq σ _ R1 τ3 HU (lp (n:=.l _) sI (es.trans e2) hR Qt K0)
  ·cases ev
 ·cases ev
theorem Ez(L:jQ X S k Φ){i:Nat}{b:Bool}{e:CE}{x:Str}{v:Expr}{p:Pos}(hn:i7 S i (.Name x p)=true)(hx:jW x=true)(he:bM S e v=true):PS X (.AugAssign (.Name x p) (if b then .Add else .Sub) v pos) (jS X F Φ (.aug i b e)):=by
 obtain⟨_,_,z,hN,hl,pe⟩:=Nb L hn (λy q e=>by cases e;exact hx);cases z;have ip:NY X (if b then .Add else .Sub) (PB λy z=>if b then y+z else y - z):=by
  cases b
  ·exact Gm
  ·exact Gn
 refine PS.imp (Fj L.nd hN hl (fC (F:=F) L.toLk e v he).1 ip (.inl (L.sf _))) λD σ H hq=>?_;obtain⟨R,τ,ρ,r,Si,ev,hq⟩:=hq;obtain⟨n,en,ev⟩:=aA ev;obtain⟨d,ed,en⟩:=aA en;have en:=ug en;subst en;split at ev
 ·rename_i a ho;cases ev;obtain⟨w,hw,h_⟩:=Si.rep i _ ho;cases h_;have hi:i<ρ.length:=by
   by_cases z:i<ρ.length
   ·exact z
   ·rw[List.getElem?_eq_none (by left)]at ho;cases ho
  refine⟨_,hw,tD.intro Si ed λu H1 e1 ru=>?_⟩;cases ru.isInt;refine⟨_,_,rfl,rfl,?_⟩;obtain⟨τ1,l8⟩:=(Si.go e1).set (i:=i) (v:=.int (if b then a+n else a - n)) (d:=.int (if b then a+n else a - n)) ⟨λ_=>none,λ_ _ h=>by simp at h,.int _⟩ hi;exact hq _ H1 R τ1 l8 (Kp.of e1 λ_ h=>h)
 ·cases ev
end
section
variable {X:Cx}{S:Sx}{k:Nat}{F:ai}{Φ:aU}
theorem Fm(x:Str)(p:Pos):(Expr.Name x p).pos=p:=rfl
theorem rg{x y:Str}{px py pt H_:Pos}{kt k2:Nat}{a b:Expr}(hk:env.scope.kind=.function)(hx:env.scope.names.lookup x=some .local)(hy:env.scope.names.lookup y=some .local)(So:x≠y)(hl:px.line=py.line)
  (h1:[a,b].all (foldedForSure 8)=false) (h2:[a,b].all (constantsAlone 8)=false) (h3:([a,b].any λe=>match e with|.Starred ..=>true|_=>false)=false) :
  swappedStores [.Tuple [.Name x px,.Name y py] kt pt] (.Tuple [a,b] k2 H_) env=pure (some [x,y]):=by
 have hb:env.blockKind=.function:=by unfold Env.blockKind;rw[hk];rfl
 have kx:env.kindOf x=some .local:=hx;have ky:env.kindOf y=some .local:=hy;have e1:([x,y].eraseDups.length != [x,y].length)=false:=by
  have:¬ (y==x)=true:=by simp;exact λz=>So z.symm
  have h':(y==x)=false:=by simpa using this
  simp[List.eraseDups_cons,List.filter,h',So]
 unfold swappedStores;simp only[hb,h3,List.filterMap_cons,List.filterMap_nil,kx,ky,hl,Fm,List.head?_cons,Option.map_some,Option.getD_some,h1,h2];simp only[beq_self_eq_true,Bool.and_self,if_true];rw[if_neg (by simp)];refine(Xs ?_).trans ?_
 ·intro z;exact WS (h3.symm.trans z)
 rw[if_neg (by
  rw[e1];simp),if_neg Bool.false_ne_true,if_neg Bool.false_ne_true]
theorem kZ{kp:aX}{v:V}{d:DI.D}(h:Rep (aT X.K H) (nd X.K R A τ H) kp v d)(hf:aS anyF d=false):f9 X R' τ' H v d :=
 ⟨λ_=>none,λ_ _ h=>by simp at h,Rep.without (P:=anyF) (λ_ _ h=>h) (λk k' p xs f hf h=>by cases hf) h hf _⟩
theorem Ex(L:jQ X S k Φ){i j:Nat}{a b:CE}{v:Expr}(he:bM S (.tup [a,b]) v=true)(hp:zu S i j tg v=true):PS X (.Assign [tg] v pos) (jS X F Φ (.par i j a b)):=by
 obtain⟨ts,Nl,q1⟩:=bp hp;obtain⟨kt,pt,rfl⟩:=iJ Nl;obtain⟨⟨t1,t2⟩,Nk,q2⟩:=bp q1;obtain rfl:ts=[t1,t2]:=hV Nk;obtain⟨⟨x,px⟩,hv3,q3⟩:=bp q2;obtain rfl:t1=_:=sQ hv3;obtain⟨⟨y,py⟩,hv4,q4⟩:=bp q3;obtain rfl:t2=_:=sQ hv4;obtain⟨vs,UO,q5⟩:=bp q4;obtain⟨k2,H_,rfl⟩:=iJ UO;obtain⟨⟨ea,eb⟩,hv6,q6⟩:=bp q5;obtain rfl:vs=[ea,eb]:=hV hv6
 ·obtain⟨q7,GX⟩:=aI q6;obtain⟨q8,h9⟩:=aI q7;obtain⟨q9,h8⟩:=aI q8;obtain⟨OW,h7⟩:=aI q9;obtain⟨Uw,h6⟩:=aI OW;obtain⟨Uv,h5⟩:=aI Uw;obtain⟨Uu,h4⟩:=aI Uv;obtain⟨Ut,h3⟩:=aI Uu;obtain⟨h1,h2⟩:=aI Ut;replace h1:S.N[i]?=some x:=WO h1;replace h2:S.N[j]?=some y:=WO h2;replace h3:=WO h3;replace h4:=WO h4;replace h5:=WO h5;replace h6:=WO h6;replace h7:=WO h7;replace h8:=jL h8;replace h9:=jL h9;replace GX:=WO GX;replace he:=aI he;have pa:=tx (F:=F) L.toLk [a,b] [ea,eb] he.1;refine PS.imp (Fi L.calm L.nd (by rw[L.N];exact h1) (by rw[L.N];exact h2) h3 (by rw[L.sc];exact h4) (by rw[L.sc];exact h5) pa (rg (by rw[L.sc];exact L.fk) (by rw[L.sc];exact h4) (by rw[L.sc];exact h5) h6 h7 h8 h9 GX)) λD σ H hq=>?_;obtain⟨R,τ,ρ,r,Si,ev,hq⟩:=hq;obtain⟨d1,VP,ev⟩:=aA ev;obtain⟨d2,VO,ev⟩:=aA ev;simp only[Du]at ev;obtain⟨⟨f1,f2,l1,l2⟩,rfl⟩:=ev;refine⟨R,τ,ρ,[d1,d2],Si,by show bd (bg Φ a ρ) _=_;rw[VP];show bd (bd (bg Φ b ρ) _) _=_;rw[VO];rfl,λvs H1 e1 rv=>?_⟩;obtain⟨τt,fr,rs⟩:=rv;obtain⟨v1,v2,rfl,r1,r2⟩:=rs.two
  ·obtain⟨τ1,S1⟩:=(Si.go e1).set (i:=i) (kZ r1 f1) l1;obtain⟨τ2,S2⟩:=S1.set (i:=j) (kZ r2 f2) (by simpa using l2);exact⟨v1,v2,rfl,hq _ H1 R τ2 S2 (Kp.of e1 λ_ h=>h)⟩
theorem vz{α β:Type}(f:α->β):∀(ms:List α) (m:Nat),(ms.map f).eraseIdx m=(ms.eraseIdx m).map f
 |[],_=>rfl
 |_::_,0=>rfl
 |x::ms,m+1=>by
  show f x::(ms.map f).eraseIdx m=f x::(ms.eraseIdx m).map f;rw[vz f ms m]
theorem az.L_{T:j6}{N:gx}:∀{k:aX} {n:Nat} {vs:ae} {ds:ab},az T N k n vs ds->az T N k n vs.dropLast ds.dropLast
 |_,_,_,_,.nil=>.nil
 |_,_,_,_,.cons _ .nil=>.nil
 |_,_,_,_,.cons h (.cons h' t)=>.cons h (az.L_ (.cons h' t))
mutual
theorem EB(L:jQ X S k Φ):∀(c:CS) (st:Stmt),Mf S c st=true->PS X st (jS X F Φ c)
 |.asg t e,st,h=>by
  obtain⟨⟨CP,v⟩,v1,q1⟩:=bp h;obtain⟨pos,rfl⟩:=j7 v1;obtain⟨tg,v2,q2⟩:=bp q1;obtain rfl:CP=[tg]:=cW v2;obtain⟨q3,h4⟩:=aI q2;obtain⟨q4,h3⟩:=aI q3;obtain⟨h1,h2⟩:=aI q4;have h1:bM S e v=true:=h1;replace h3:(isTup v&&isTup tg)=false:=jL h3;cases hc:fH v with
  |false=>exact xi L h1 h2 h3 (lX h1 hc _ _ _)
  |true =>
   have h4:(!fH v||isNm tg)=true:=h4;rw[hc]at h4;obtain⟨x,p,rfl⟩:=ki h4;obtain⟨gN,gens,sc,IQ,rfl⟩:=vH hc;cases e<;>try (exact(WS h1).elim)
   cases t with
   |tp is=>exact(WS h2).elim
   |nm i =>
    cases hb:Ov S (.Name x p) (.ListComp gN gens sc IQ)with
    |true=>exact Az L h1 h2 (by rw[C1 L,hb])
    |false=>exact xi L h1 h2 h3 (by
      show swapsWith (.ListComp gN gens sc IQ) (some (.Name x p)) pos.line X.env=_;rw[C1 L,hb])
 |.par i j a b,st,h=>by
  obtain⟨⟨CP,v⟩,v1,q1⟩:=bp h;obtain⟨pos,rfl⟩:=j7 v1;obtain⟨tg,v2,q2⟩:=bp q1;obtain rfl:CP=[tg]:=cW v2;exact Ex L (aI q2).1 (aI q2).2
 |.ret e,st,h=>by
  obtain⟨z,v1,q1⟩:=bp h;obtain⟨pos,rfl⟩:=z_ v1;obtain⟨v,v2,q2⟩:=bp q1;obtain rfl:z=some v:=v2;exact Ew L q2
 |.rs c,st,h=>λ_ _ _ _ _ _ bJ=>by obtain⟨R,τ,ρ,r,Si,ev,hq⟩:=bJ;cases ev
 |.ex e,st,h=>by
  obtain⟨v,v1,q1⟩:=bp h;obtain⟨pos,rfl⟩:=qV v1;exact Jv L (aI q1).1 (jL (aI q1).2)
 |.mut p i es,st,h=>by
  obtain⟨⟨o,args⟩,ha,q1⟩:=bp h;obtain⟨q2,h3⟩:=aI q1;obtain⟨h1,h2⟩:=aI q2;obtain⟨x,pp,rfl,hN,hl,pe⟩:=Nb L h1 (λy q e=>by cases e;exact h2);exact L.pm.m X _ _ k L.toLk.pX L.nd L.sf p st x pp args ha i hN hl pe F es (iP L.toLk es args h3)
 |.app i e,st,h=>by
  obtain⟨c,v1,q1⟩:=bp h;obtain⟨pos,rfl⟩:=qV v1;obtain⟨⟨fn,as,ks,p2⟩,v2,q2⟩:=bp q1;obtain rfl:c=_:=mE v2;obtain⟨q3,q4⟩:=aI q2;obtain rfl:ks=[]:=ly q3;obtain⟨⟨o,a,p1⟩,v3,q5⟩:=bp q4;obtain rfl:fn=_:=o4 v3;obtain⟨q6,q7⟩:=aI q5;obtain⟨v,v4,h4⟩:=bp q7;obtain rfl:as=[v]:=cW v4;obtain⟨q8,h5⟩:=aI q6;obtain⟨q9,h2⟩:=aI q8;obtain⟨OW,h1⟩:=aI q9;obtain rfl:a=_:=WO OW;obtain⟨x,p,rfl⟩:∃x p,o=.Name x p:=oy h1;exact EA L h1 h2 h4 h5
 |.setI i k e,st,h=>by
  obtain⟨⟨CP,v⟩,v1,q1⟩:=bp h;obtain⟨pos,rfl⟩:=j7 v1;obtain⟨tg,v2,q2⟩:=bp q1;obtain rfl:CP=[tg]:=cW v2;obtain⟨⟨o,ke⟩,v3,q3⟩:=bp q2;obtain⟨p1,rfl⟩:=gC v3;obtain⟨q4,h5⟩:=aI q3;obtain⟨q5,h4⟩:=aI q4;obtain⟨q6,h3⟩:=aI q5;obtain⟨h1,h2⟩:=aI q6;obtain⟨x,p,rfl⟩:∃x p,o=.Name x p:=oy h1;exact Ax L h1 h2 h3 h4 (jL h5)
 |.aug i op e,st,h=>by
  obtain⟨⟨o,p,v⟩,v1,q1⟩:=bp h;obtain⟨pos,rfl⟩:=Ag v1;obtain⟨q2,h4⟩:=aI q1;obtain⟨q3,h3⟩:=aI q2;obtain⟨h1,h2⟩:=aI q3;obtain rfl:p=_:=WO h3;obtain⟨x,pp,rfl⟩:∃x p,o=.Name x p:=oy h1;exact Ez L h1 h2 h4
 |.ifs c a b,st,h=>by
  obtain⟨⟨t,x,y⟩,v1,q1⟩:=bp h;obtain⟨pos,rfl⟩:=Ab v1;obtain⟨q2,h3⟩:=aI q1;obtain⟨h1,h2⟩:=aI q2;exact Ju L h1 (fB L a _ h2) (fB L b _ h3)
 |.CH c b,st,h=>by
  obtain⟨⟨t,x,y⟩,v1,q1⟩:=bp h;obtain⟨pos,rfl⟩:=z9 v1;obtain⟨q2,h3⟩:=aI q1;obtain⟨h1,h2⟩:=aI q2;obtain rfl:y=[]:=ly h1;exact xh L h2 (fB L b _ h3)
 |.fr t it b,st,h=>by
  obtain⟨⟨tg,iter,x,y⟩,v1,q1⟩:=bp h;obtain⟨pos,rfl⟩:=Ac v1;obtain⟨q2,h5⟩:=aI q1;obtain⟨q3,h4⟩:=aI q2;obtain⟨q4,h3⟩:=aI q3;obtain⟨h1,h2⟩:=aI q4;obtain rfl:y=[]:=ly h1;exact Ey L h2 h3 h4 (fB L b _ h5)
theorem fB(L:jQ X S k Φ):∀(cs:aj) (ph:aL),fW S cs ph=true->jc X ph (jf X F Φ cs)
 |[],[],_=>jc.imp AS λD σ H bJ=>by obtain⟨R,τ,ρ,r,Si,ev,hq⟩:=bJ;cases ev;exact hq σ H R τ Si (Kp.refl R H)
 |[],_::_,h=>by exact(WS h).elim
 |_::_,[],h=>by exact(WS h).elim
 |c::cs,st::ph,h=>by
  replace h:=aI h;have h1:PS X st (jS X F Φ c):=EB L c st h.1;have h2:jc X ph (jf X F Φ cs):=fB L cs ph h.2;refine jc.imp (pU h1 h2) λD σ H hq=>?_;obtain⟨R,τ,ρ,r,Si,ev,hq⟩:=hq;obtain⟨⟨fo,ρ1⟩,e1,ev⟩:=aA ev;refine⟨R,τ,ρ,(fo,ρ1),Si,e1,?_⟩;cases fo with
  |nx=>exact λσ' H' R' τ' eU kp=>⟨R',τ',ρ1,r,eU,ev,hq.from kp⟩
  |rt d=>cases ev;exact hq
end
end
variable {mg:Str->Option Value}{ps:av}{qual:Str}
theorem qq{x:Str}{f:Addr}{fd:FuncData}{k:Nat}{N bl:av}{cs:List (Str×GK)}{px:Px}{sf:Nat->Option Str}{m:aD}{body:aj}
  (Fu:zO K x qual st f fd) (Sc:fQ N ps (aF st)) (yN:fW ⟨aF st,N,sf,bl,cs,px⟩ body (bK st)=true) (BD:oT px Φ) (K9:CB px Φ)
  (vP:∀y∈bl,mg y=none) (n8:∀y i,(y,i)∈cs->∃u,mg y=some u/\wD K i u)
  (r6:∀g y,sf g=some y->∃(f:Addr) (fd:FuncData) (ps:av),f_ P w K mg base l6 k f fd ps (xk K ps.length (Φ g))/\mg y=some (.ref f)/\PySem.W.keepIn K (.ref f)=true/\Binds K fd ps []/\∀ds r,Φ g ds=ok r->ds.length=ps.length)
  (hm:∀ds r,m ds=ok r->ds.length=ps.length/\kU Φ N.length body ds=ok r):f_ P w K mg base l6 (k+1) f fd ps (xk K ps.length m):=by
 refine Fu.ok (N:=N) Sc (λvs H Q E ⟨_,_,_,h,_⟩=>h) λfX A outer s H vs Q E hr wz=>?_;obtain⟨F,ds,r,hl,rs,er,hq⟩:=wz;obtain⟨Vh,lF⟩:=hm ds r er
 let X:=(gO l6 P w K mg base N qual (aF st) f fX A outer s H E).rJ
 have L:jQ X ⟨aF st,N,sf,bl,cs,px⟩ k Φ:=⟨⟨rfl,rfl,Sc.nd,rfl,hr,vP,λg y h=>⟨r6 g y h⟩,n8,BD⟩,λ_=>rfl,PassesOwn.never,Sc.kind,K9⟩
 refine⟨jf X F Φ body,fB L body _ yN,?_⟩;unfold kU at lF;obtain⟨⟨fo,ρ'⟩,eb,lF⟩:=aA lF;have hpl:ps.length<=N.length:=by have:=XE List.length Sc.pre;rw[List.length_take]at this;left
 have qN:vs.length=ds.length:=rs.length;refine⟨λp=>F p/\H p≠none,λ_=>none,_,(fo,ρ'),⟨?_,λi d hi=>?_,λ_ _=>rfl,λp h=>h.2,λp h=>.inl h.1,λ_ _ h=>by simp at h,λ_ _ h=>by simp at h,aJ.refl H⟩,eb,?_⟩
 ·unfold L2.start;simp[qN]
 ·have Lp:i<ds.length:=by
   by_cases jM:i<ds.length
   ·exact jM
   ·rw[List.getElem?_append_right (by simpa using jM)]at hi;rw[List.getElem?_replicate]at hi;split at hi<;>simp at hi
  rw[List.getElem?_append_left (by simpa using Lp),List.getElem?_map]at hi;have hd:ds[i]?=some d:=by
   cases q:ds[i]? with
   |none=>rw[q]at hi;cases hi
   |some z=>rw[q]at hi;simp at hi;rw[hi]
  obtain⟨v,hv,rv⟩:=rs.get hd;refine⟨v,?_,rv.imp (q:=[0+i]) (q':=[i]) (λ_ _ h=>h) λc p xs f h=>?_⟩
  ·unfold L2.start;rw[List.getElem?_append_left (by rw[List.length_map,qN];exact Lp),List.getElem?_map,hv];rfl
  ·cases f with
   |ow=>exact nomatch h.2
   |fz=>exact⟨h.1,h.2,h.1.ne⟩
   |al=>exact h.2.elim
   |sc=>exact h
 ·cases fo with
  |nx =>
   cases lF;exact λσ' H' R' τ' eU kp=>hq .bz H' eU.same ⟨λ_=>none,λ_ _ h=>by simp at h,.bz⟩
  |rt d =>
   cases lF;exact λv H' es rr=>hq v H' es rr
structure Ent(P:ax)(w:World)(K:ao)(mg:aN)(base:Heap)(k:Nat)(y:Str)(m:aD):Prop where
 ex:∃(f:Addr) (fd:FuncData) (ps:av),f_ P w K mg base l6 k f fd ps (xk K ps.length m)/\mg y=some (.ref f)/\PySem.W.keepIn K (.ref f)=true/\Binds K fd ps []/\∀ds r,m ds=ok r->ds.length=ps.length
theorem Ent.up{k k':Nat}{y:Str}{m:aD}(h:Ent P w K mg base k y m)(hk:k<=k'):Ent P w K mg base k' y m:=by
 obtain⟨f,fd,ps,h1,h2⟩:=h.ex;exact⟨f,fd,ps,h1.mono hk,h2⟩
theorem ent{x:Str}{f:Addr}{fd:FuncData}{k:Nat}{N bl:av}{cs:List (Str×GK)}{px:Px}{sf:Nat->Option Str}{m:aD}{body:aj}
  (Fu:zO K x qual st f fd) (hmg:mg x=some (.ref f)) (hb:Binds K fd ps []) (Sc:fQ N ps (aF st)) (yN:fW ⟨aF st,N,sf,bl,cs,px⟩ body (bK st)=true) (BD:oT px Φ) (K9:CB px Φ) (vP:∀y∈bl,mg y=none) (n8:∀y i,(y,i)∈cs->∃u,mg y=some u/\wD K i u)
  (r6:∀g y,sf g=some y->Ent P w K mg base k y (Φ g)) (hm:∀ds r,m ds=ok r->ds.length=ps.length/\kU Φ N.length body ds=ok r):Ent P w K mg base (k+1) x m :=
 ⟨f,fd,ps,qq Fu Sc yN BD K9 vP n8 (λg y h=>(r6 g y h).ex) hm,hmg,Fu.kp,hb,λds r h=>(hm ds r h).1⟩
def cB{α:Type}(P:α->Prop):List α->Prop
 |[]=>True
 |a::l=>P a/\cB P l
theorem cB.mem{α:Type}{P:α->Prop}:∀{l:List α},cB P l->∀a∈l,P a
 |[],_,_,h=>by cases h
 |_::_,h,_,hm=>(List.mem_cons.mp hm).elim (λe=>e▸h.1) (cB.mem h.2 _)
theorem cB.tab{β:Type}{P:Nat->β->Prop}:∀{l:List (Nat×β)},cB (λp=>P p.1 p.2) l->∀g y,l.lookup g=some y->P g y
 |[],_,_,_,h=>by cases h
 | (k,b)::l,h,g,y,e=>by
  rw[List.lookup_cons]at e;cases hg:g==k with
  |true=>rw[hg]at e;cases e;rw[eq_of_beq hg];exact h.1
  |false=>rw[hg]at e;exact cB.tab h.2 g y e
theorem cB.two{β γ:Type}{P:β->γ->Prop}{l:List (β×γ)}(h:cB (λp=>P p.1 p.2) l)(y:β)(i:γ)(hm:(y,i)∈l):P y i:=cB.mem h _ hm
theorem KA{α:Type}{l:List α}(h:l.length=1):∃a,l=[a]:=List.length_eq_one_iff.mp h
theorem Kz{α:Type}{l:List α}(h:l.length=2):∃a b,l=[a,b]:=by
 cases l with
 |nil=>cases h
 |cons a l=>obtain⟨b,rfl⟩:=KA (Nat.succ.inj h);exact⟨a,b,rfl⟩
theorem Ky{α:Type}{l:List α}(h:l.length=3):∃a b c,l=[a,b,c]:=by
 cases l with
 |nil=>cases h
 |cons a l=>obtain⟨b,c,rfl⟩:=Kz (Nat.succ.inj h);exact⟨a,b,c,rfl⟩
theorem Pe{α:Type}{l:List α}(h:l.length=4):∃a b c d,l=[a,b,c,d]:=by
 cases l with
 |nil=>cases h
 |cons a l=>obtain⟨b,c,d,rfl⟩:=Ky (Nat.succ.inj h);exact⟨a,b,c,d,rfl⟩
noncomputable def gW:ab->Option (aa)
 |[]=>some []
 |.int i::ds=>(gW ds).map (i :: ·)
 |_::_=>none
theorem ig:∀ns:aa,gW (ns.map D.int)=some ns
 |[]=>rfl
 |n::ns=>by simp[gW,ig ns]
theorem k8:∀{ds:ab} {ns:aa},gW ds=some ns->ds=ns.map D.int
 |[],ns,h=>by simp[gW]at h;subst h;rfl
 |d::ds,ns,h=>by
  cases d<;>simp[gW]at h;obtain⟨ms,h1,rfl⟩:=h;rw[k8 h1];rfl
def nX:aD
 |[.lst .sc ds]=>match gW ds with
  |some ns=>if ns.length<=63 then ok (.bl true)else none
  |none=>none
 |_=>none
theorem Bl(h:ns.length<=63):nX [.lst .sc (ns.map D.int)]=ok (.bl true):=by
 simp[nX,ig,h]
set_option tactic.hygienic true in
theorem yh{n:Nat}{b:aj}(h:∀ns:aa,ns.length<=63->kU Φ n b [.lst .sc (ns.map D.int)]=ok (.bl true)):∀ds r,nX ds=ok r->ds.length=1/\kU Φ n b ds=ok r:=by
 intro ds r e
 match ds,e with
 |[.lst .sc ds],e =>
  simp only[nX]at e;split at e
  ·rename_i ns qi;split at e
   ·rename_i hl;cases e;obtain rfl:=k8 qi;exact⟨rfl,h ns hl⟩
   ·cases e
  ·cases e
theorem F7(K:ao)(H:Hp)(a:Addr)(ns:aa)(m:aD)(hm:m [.lst .sc (ns.map D.int)]=ok (.bl true))(hO:CD H)(hS:de K H a (ns.map V.int)):xk K 1 m [.ref a] H (λv _=>v=.bl true) λ_ _ _=>False:=by
 refine⟨λ_=>True,_,.bl true,rfl,.cons (.lst ?_ (az.ints ns)) .nil,hm,λv H' _ bJ=>by obtain⟨τt,_,rp⟩:=bJ;cases rp;rfl⟩;rcases hS with (h|h)|h
 ·rcases hO a with z|⟨o,xs,z⟩|⟨_,_,z⟩
  ·rw[h]at z;cases z
  ·rw[h]at z;cases z
  ·rw[h]at z;cases z
 ·exact .inl h
 ·exact .inr h
noncomputable def la(ns:aa):Int:=ns.getD (argBest (λi j=>decide (ns.getD i 0<ns.getD j 0)) (ns.length - 1)) 0
section
variable {X:Cx}
theorem wd(hc:X.calm=true):eJ X (.builtin "min") (λxs H Q=>∃(p:Addr) (ns:aa),xs=[.ref p]/\de X.K H p (ns.map V.int)/\0<ns.length/\Q (.int (la ns)) H):=by
 intro pins s σ H xs us Q I r h;obtain⟨p,ns,rfl,hq,BF,q⟩:=h;obtain⟨u,rfl,ru⟩:=r.one;cases ru;obtain⟨its,rv,pl,hz⟩:=I.list hq;have hlen:its.length=ns.length:=by have:=rv.length;simpa using this.symm
 have at_:∀(i:Nat) (v:Value),its[i]?=some v->∃t,v=.int (ns.getD i 0) t:=λi v hv=>by
  have hi:i<its.length:=by
   by_cases z:i<its.length
   ·exact z
   ·rw[List.getElem?_eq_none (by left)]at hv;cases hv
  have hn:(ns.map V.int)[i]?=some (.int (ns.getD i 0)):=by
   rw[List.getElem?_map,List.getElem?_eq_getElem (by left)];simp[List.getD,show i<ns.length by left]
  obtain⟨u,hu,ru⟩:=rv.get hn;rw[hv]at hu;cases hu;exact ru
 refine call_min_walk (lx (cK pl) λs₂ e st yM Li=>?_);subst e;refine⟨_,_,_,_,_,_,_,rfl,Walks.list (A:=X.A.in1) (I.ok.hd hc) _ p Li its.toArray,st,yM,by simp;left,CmpOf.ints_lt (λi=>ns.getD i 0) (λi v hP=>at_ i v (by simpa using hP)),λv h' tk hP hk=>?_⟩;obtain⟨t,rfl⟩:=at_ _ v (by simpa using hP);refine⟨.int (la ns),H,I.kept (t':=tk) (lr hk),⟨t,?_⟩,q⟩;rw[hlen];rfl
end
def minD(xs:ab):O D:=match xs with
 |[]=>none
 |x::xs=>match xs with
  |[]=>match x with
   |.lst _ ds=>match intsOf ds with
    |some ns=>if 0<ns.length then ok (.int (la ns))else none
    |none=>none
   |_=>none
  |_::_=>none
theorem minD_eq{xs:ab}{d:D}(h:minD xs=ok d):∃(f:Fl) (ns:aa),xs=[.lst f (ns.map D.int)]/\0<ns.length/\d=.int (la ns):=by
 cases xs with
 |nil=>cases h
 |cons x t=>cases t with
  |cons _ _=>cases h
  |nil =>
   cases x<;>first|exact nk h | (cases h;done)|skip
   rename_i f ds;have h:(match intsOf ds with|some ns=>if 0<ns.length then ok (D.int (la ns))else none|none=>none)=ok d:=h;cases hn:intsOf ds with
   |none=>rw[hn]at h;exact nk h
   |some ns =>
    rw[hn]at h;obtain⟨h1,h2⟩:=qe h;cases fi hn;exact⟨f,ns,rfl,h1,h2.symm⟩
def eF(f:Str)(sc:Scope)(bl:av)(e:Expr):Option (au):=(gR e).bind λz=>(one z.2).bind λ_=>if z.1=f/\jb sc z.1=true/\z.1∈bl then some z.2 else none
theorem gM{f:Str}{sc:Scope}{bl:av}{e:Expr}(h:eF f sc bl e=some args):∃p pos a,e=.Call (.Name f p) [a] [] pos/\args=[a]/\jb sc f=true/\f∈bl:=by
 obtain⟨⟨x,as⟩,hv,h⟩:=bT h;obtain⟨a,hw,h⟩:=bT h;obtain⟨hc,h⟩:=gT h;cases h;obtain⟨rfl,h1,h2⟩:=hc;obtain⟨p,pos,rfl⟩:=eu hv;obtain rfl:=cW hw;exact⟨_,_,_,rfl,rfl,h1,h2⟩
theorem FV{n:Nat}(hΦ:Φ n=minD){sc:Scope}{bl:av}{k:Nat}(L:PX X sc bl k){e:Expr}(he:eF ("min" : Str) sc bl e=some args)(hs:mC X F Φ cs args):PE X e (tD X F Φ (.bX n cs))/\PT X e (ff X F Φ (.bX n cs)):=by
 obtain⟨p,pos,a,rfl,rfl,h1,h2⟩:=gM he;cases cs with
 |nil=>exact hs.elim
 |cons c cs=>cases cs with
  |cons _ _=>exact hs.2.2.2.elim
  |nil =>
   have pa:PA X [a] (mJ X F Φ [c]):=PA.imp (cO hs.1 (PA.imp eW λ_ _ _ h=>eO h) (hs.2.1 _)) λ_ _ _ h=>cU h;have this:PE X (.Call (.Name ("min" : Str) p) [a] [] pos) (tD X F Φ (.bX n [c])):=by
    refine PE.imp (cV (wd L.calm) (L.gl h1) (L.bl _ h2) PyProof.Rows.boot_min pa (he:=hs.2.1 _)) λσ H Q hq=>?_;obtain⟨R,τ,ρ,d,Si,ev,hq⟩:=hq;obtain⟨xs,cL,ev⟩:=aA ev;rw[hΦ]at ev;obtain⟨f,ns,rfl,hl,rfl⟩:=minD_eq ev;refine⟨R,τ,ρ,_,Si,cL,λvs H1 e1 r1=>?_⟩;obtain⟨τt,fr,rs⟩:=r1;obtain⟨v,rfl,rv⟩:=rs.one;cases rv with
    |lst h r=>cases r.ofInts;exact⟨_,ns,rfl,h.sq,hl,hq _ H1 e1 .int⟩
   exact⟨this,cJ this λ_=>rfl⟩
section
variable {prog:ax}{w:World}{A:ay}{E:aw}{s:Shared}
def oR(h:Heap)(vs:ag)(nss:aq):Prop:=vs.length=nss.length/\∀(i:Nat) (ns:aa),nss[i]?=some ns->∃t its,vs[i]?=some (.ref t)/\IsTup h t its.toArray/\IntsAre its ns/\ns≠[]
theorem p9{fin:Bool}{Q:Bool->Shared->Prop}:∀{its Bo:ag} {ns ms:aa} (i:Nat),IntsAre its ns->IntsAre Bo ms->fin=decide (its.length<Bo.length)->Q (HT.lexLt ns ms) s->PySem.W.KatLex prog w A true fin Q (its.zip Bo) i s
 |_,_,_,_,i,.nil,.nil,hf,h=>by subst hf;exact h
 |_,_,_,_,i,.nil,.cons _ _ _,hf,h=>by subst hf;exact h
 |_,_,_,_,i,.cons _ _ _,.nil,hf,h=>by subst hf;exact h
 |_,_,_,_,i,.cons (ns:=ns) a t h1,.cons (ns:=ms) b u h2,hf,h=>by
  rw[HT.dh]at h;refine PySem.W.kat_cons (wpAny_eqBool_int (PySem.W.kat_go (λe=>?_) λe=>?_))
  ·have e:a=b:=by simpa using e
   rw[if_pos e]at h;exact PySem.W.kat_yes (p9 (i+1) h1 h2 (by rw[hf];simp) h)
  ·have e:¬ a=b:=by simpa using e
   rw[if_neg e]at h;refine PySem.W.kat_no ?_;rw[Bool.true_and];cases i==0 with
   |true=>exact oneLt_int h
   |false=>exact PySem.W.kat_one _ _ (lt_int h)
theorem oR.mono{h:Heap}{vs:ag}{nss:aq}(k:∀b o,h.get? b=some o->h'.get? b=some o)(t:oR h vs nss):oR h' vs nss :=
 ⟨t.1,λi ns e=>let ⟨a,its,e1,⟨o,ho,r⟩,e3⟩:=t.2 i ns e;⟨a,its,e1,⟨o,k _ _ ho,r⟩,e3⟩⟩
end
noncomputable def eL(ns:aa):D:=.tup (ns.map D.int)
theorem nC{p a:Addr}{o:HO}(hp:H p=some (.lst xs))(h:aT K H a ys):aT K (upd H p o) a ys:=by
 rcases h with (h|⟨o',h⟩)|h
 ·exact .inl (.inl (by rw[aQ (λz=>by subst z;rw[hp]at h;cases h)];exact h))
 ·exact .inl (.inr ⟨o',by rw[aQ (λz=>by subst z;rw[hp]at h;cases h)];exact h⟩)
 ·exact .inr h
set_option tactic.hygienic true in
theorem tY{n i:Nat}{xs:ab}{r:Fo×aY}(ev:rK Φ n i (lu cs xs ρ)=ok r)(ha:aP bW xs=false):∃d d',ρ[i]?=some (some d)/\Φ n (d::xs)=ok d'/\r=(.nx,ρ.set i (some d')):=by
 unfold lu at ev;rw[if_neg (by rw[ha];exact Bool.false_ne_true)]at ev;unfold rK at ev;split at ev
 ·rename_i d hd;obtain⟨d',h1,h2⟩:=aA ev;cases h2;exact⟨d,d',hd,h1,rfl⟩
 ·cases ev
set_option tactic.hygienic true in
theorem yd{n i:Nat}{xs:ab}{r:Fo×aY}(ev:rK Φ n i (lu cs xs ρ)=ok r)(ha:aP bW xs=true):∃d d',Φ n (d::aG bo xs)=ok d':=by
 unfold lu at ev;rw[if_pos ha]at ev;unfold rK at ev;split at ev
 ·rename_i d hd;obtain⟨d',h1,h2⟩:=aA ev;exact⟨d,d',h1⟩
 ·cases ev
def M4:D->Option (ab)
 |.lst f ds=>if cD f then some ds else none
 |_=>none
set_option tactic.hygienic true in
theorem Fz{d:D}(h:M4 d=some ds):d=.lst .ow ds:=by
 cases d<;>first|exact nk h | (cases h;done)|skip
 rename_i f es;have h:(if cD f then some es else none)=some ds:=h;cases f<;>first | (cases h;rfl) | (cases h;done)
def wO(m:Str)(st:Stmt):Option (Expr×au):=(MG st).bind λc=>(qX c).bind λz=>(wV z.1).bind λy=>if y.2.1=m/\z.2.2.1.isEmpty=true/\(y.2.2.endLine==z.2.2.2.line)=true then some (y.1,z.2.1)else none
theorem oZ{m:Str}(h:wO m st=some (o,as)):∃p1 p2 pos,st=.Expr (.Call (.Attribute o m p1) as [] p2) pos/\(p1.endLine==p2.line)=true:=by
 obtain⟨c,h1,h⟩:=bT h;obtain⟨⟨f,Tv,ks,p2⟩,h2,h⟩:=bT h;obtain⟨⟨o',a,p1⟩,h3,h⟩:=bT h;obtain⟨hc,h⟩:=gT h;cases h;obtain⟨pos,rfl⟩:=qV h1;obtain rfl:=mE h2;obtain rfl:=o4 h3;obtain rfl:=FQ hc.2.1;obtain rfl:=hc.1;exact⟨p1,p2,pos,rfl,hc.2.2⟩
noncomputable def vc(J:Nat)(d:D):Nat->ab->ab
 |_,[]=>[]
 |n,x::xs=>(if n=J then d else x)::vc J d (n+1) xs
theorem az.vc{T T':j6}{N N':gx}{q:aX}{J:Nat}{d:D}(hT:∀p xs,T p xs->T' p xs)(hN:∀c m p xs f,m≠J->N (c++(m::q)) p xs f->N' (c++(m::q)) p xs f):∀{n:Nat} {vs:ae} {ds:ab},az T N q n vs ds->(∀k v,vs[k]?=some v->n+k=J->Rep T' N' (J::q) v d)->az T' N' q n vs (DI.vc J d n ds)
 |_,_,_,.nil,_=>.nil
 |n,_,_,.cons (d:=x) h t,hj=>by
  refine .cons ?_ (az.vc hT hN t λk v e z=>hj (k+1) v e (by left));by_cases hn:n=J
  ·rw[if_pos hn];subst hn;exact hj 0 _ rfl rfl
  ·rw[if_neg hn];exact h.imp (q:=n::q) (q':=n::q) hT λc p xs f h=>hN c n p xs f hn h
section
variable {X:Cx}{F R:ai}{τ:Addr->Option aX}{ρ:aY}{σ:St}{H:Hp}
theorem SI.Pa{p a:Addr}{q q0:aX}{n:Nd}{f:Fl}{o:HO}(Si:SI X F R τ ρ σ H)(hp:H p=some (.lst xs))(ht:τ p=some q0)(hq:q≠q0)(h:nd X.K R (λ_=>False) τ H q a n f):nd X.K R (λ_=>False) τ (upd H p o) q a n f:=by
 have low:∀{a:Addr} {z:Nd},a≠p->dm H a z->dm (upd H p o) a z:=λne h=>h.at λu e=>by rw[aQ ne];exact e
 cases f with
 |ow=>exact⟨low (λz=>by subst z;exact hq (W4 (h.2.symm.trans ht))) h.1,h.2⟩
 |fz=>exact⟨low (λz=>by subst z;rw[Si.rt _ h.2]at ht;cases ht) h.1,h.2⟩
 |al=>exact h.2.elim
 |sc =>
  obtain⟨ys,rfl,h⟩:=h.xA;exact h.elim (λ⟨o',w⟩=>.inl ⟨o',by rw[aQ (λz=>by subst z;rw[hp]at w;cases w)];exact w⟩) .inr
theorem SI.Ts{i j:Nat}{d1:D}{p:Addr}(Si:SI X F R τ ρ σ H)(hi:ρ[i]?=some (some d0))(hp:H p=some (.lst xs))(ht:τ p=some [j,i])
  {v:V} (hv:σ[i]?=some (some v)) (hb:Rep (aT X.K (upd H p (.lst ys))) (nd X.K R (λ_=>False) τ (upd H p (.lst ys))) [i] v d1):SI X F R τ (ρ.set i (some d1)) σ (upd H p (.lst ys)):=by
 have Nu:i<ρ.length:=by
  by_cases z:i<ρ.length
  ·exact z
  ·rw[List.getElem?_eq_none (by left)]at hi;cases hi
 have there:∀a,H a≠none->upd H p (.lst ys) a≠none:=λa h=>by
  by_cases z:a=p
  ·rw[z,aV];simp
  ·rw[aQ z];exact h
 refine⟨by simp[Si.len],λm d hm=>?_,Si.rt,λa ha=>there a (Si.rh a ha),Si.rf,λa q e=>there a (Si.th a q e),Si.t0,λa u e=>?_⟩
 ·by_cases z:m=i
  ·subst z;rw[List.getElem?_set_self Nu]at hm;cases hm;exact⟨v,hv,hb⟩
  ·rw[List.getElem?_set_ne (Ne.symm z)]at hm;obtain⟨v,h1,h2⟩:=Si.rep m d hm;refine⟨v,h1,h2.imp (q:=[m]) (q':=[m]) (λ_ _ h=>nC hp h) λc a n f h=>Si.Pa hp ht (λe=>?_) h⟩;have:=XE List.getLast? e;simp at this;exact z this
 ·rw[aQ (λz=>by subst z;rw[Si.t0 _ _ ht]at e;cases e)];exact Si.same a u e
end
def j3(ds:ab)(j:Nat):Option (ab):=match ds[j]? with
 |some d=>match M4 d with
  |some _=>some (vc j (.lst .ow []) 0 ds)
  |none=>none
 |none=>none
theorem uI{es:ab}{j:Nat}(h:j3 ds j=some es):∃gs,ds[j]?=some (.lst .ow gs)/\es=vc j (.lst .ow []) 0 ds:=by
 unfold j3 at h;cases h1:ds[j]? with
 |none=>rw[h1]at h;exact nk h
 |some d =>
  rw[h1]at h;have h:(match M4 d with|some _=>some (vc j (.lst .ow []) 0 ds)|none=>none)=some es:=h;cases h2:M4 d with
  |none=>rw[h2]at h;exact nk h
  |some gs =>
   rw[h2]at h;cases h;exact⟨gs,by rw[Fz h2],rfl⟩
def Ce(xs:ab):O D:=match two xs with
 |some z=>match z.2 with
  |.int k=>if 0<=k then(match z.1 with
   |.tup ds=>(match j3 ds k.toNat with|some es=>ok (.tup es)|none=>none)
   |.lst f ds=>if cD f then(match j3 ds k.toNat with|some es=>ok (.lst f es)|none=>none)else none
   |_=>none)else none
  |_=>none
 |none=>none
set_option tactic.hygienic true in
theorem uJ{x y d:D}(h0:Ce [x,y]=ok d):∃(k:Int) (ds gs:ab),y=.int k/\0<=k/\ds[k.toNat]?=some (.lst .ow gs)/\((x=.tup ds/\d=.tup (vc k.toNat (.lst .ow []) 0 ds))\/(x=.lst .ow ds/\d=.lst .ow (vc k.toNat (.lst .ow []) 0 ds))):=by
 cases y<;>first|exact nk h0 | (cases h0;done)|skip
 rename_i k;by_cases hk:0<=k
 ·have h:(if 0<=k then(match x with
   |.tup ds=>(match j3 ds k.toNat with|some es=>ok (.tup es)|none=>none)
   |.lst f ds=>if cD f then(match j3 ds k.toNat with|some es=>ok (.lst f es)|none=>none)else none
   |_=>none)else none)=ok d:=h0
  rw[if_pos hk]at h;clear h0;cases x<;>first|exact nk h | (cases h;done)|skip
  ·rename_i ds;replace h:(match j3 ds k.toNat with|some es=>ok (D.tup es)|none=>none)=ok d:=h;cases hc:j3 ds k.toNat with
   |none=>rw[hc]at h;exact nk h
   |some es =>
    rw[hc]at h;cases h;obtain⟨gs,h1,rfl⟩:=uI hc;exact⟨k,ds,gs,rfl,hk,h1,.inl ⟨rfl,rfl⟩⟩
  ·rename_i f ds;replace h:(if cD f then(match j3 ds k.toNat with|some es=>ok (D.lst f es)|none=>none)else none)=ok d:=h;by_cases hf:cD f=true
   ·rw[if_pos hf]at h;cases hc:j3 ds k.toNat with
    |none=>rw[hc]at h;exact nk h
    |some es =>
     rw[hc]at h;cases h;obtain rfl:f=.ow:=by cases f<;>first|rfl | (cases hf;done)
     obtain⟨gs,h1,rfl⟩:=uI hc;exact⟨k,ds,gs,rfl,hk,h1,.inr ⟨rfl,rfl⟩⟩
   ·rw[if_neg hf]at h;cases h
 ·have h:(if 0<=k then(match x with
   |.tup ds=>(match j3 ds k.toNat with|some es=>ok (.tup es)|none=>none)
   |.lst f ds=>if cD f then(match j3 ds k.toNat with|some es=>ok (.lst f es)|none=>none)else none
   |_=>none)else none)=ok d:=h0
  rw[if_neg hk]at h;cases h
def sE(_:Scope)(_:av)(st:Stmt):Option (Expr×au):=(wO ("clear" : Str) st).bind λz=>if z.2.isEmpty=true then(oY z.1).bind λy=>some (y.1,[y.2])else none
theorem v_{sc:Scope}{bl:av}(h:sE sc bl st=some (o,args)):∃k p0 p1 p2 pos,args=[k]/\st=.Expr (.Call (.Attribute (.Subscript o k p0) ("clear" : Str) p1) [] [] p2) pos/\(p1.endLine==p2.line)=true:=by
 obtain⟨⟨b,as⟩,h1,h⟩:=bT h;obtain⟨ha,h⟩:=gT h;obtain⟨⟨a,k⟩,h2,h⟩:=bT h;cases h;obtain rfl:=FQ ha;obtain⟨p0,rfl⟩:=gC h2;obtain⟨p1,p2,pos,rfl,hl⟩:=oZ h1;exact⟨k,p0,p1,p2,pos,rfl,rfl,hl⟩
theorem HE{n:Nat}(hΦ:Φ n=Ce){sc:Scope}{bl:av}{k:Nat}(L:PX X sc bl k)(hN:X.N.Nodup)(r6:∀x,X.fn x=true){x:Str}(he:sE sc bl st=some (.Name x pos,args))
  {i:Nat} (hi:X.N[i]?=some x) (hl:L2.Loc X.env.scope x) (pe:PE X (.Name x pos) (xb i)) (hs:mC X F Φ cs args):PS X st (jS X F Φ (.mut n i cs)):=by
 obtain⟨ke,p0,p1,p2,pos',rfl,rfl,Qg⟩:=v_ he;cases cs with
 |nil=>exact hs.elim
 |cons c cs=>cases cs with
  |cons _ _=>exact hs.2.2.2.elim
  |nil =>
   refine PS.imp (nL (Fw PySem.F.plainAttrs_list PySem.F.slot_list_clear PySem.F.type_list_clear yf (xT (uc.or yx) pe hs.1 hs.2.2.1) (hline:=Qg))) λD σ H hq=>?_;obtain⟨R,τ,ρ,r,Si,ev,hq⟩:=hq;obtain⟨xs,cL,ev⟩:=aA ev;obtain⟨y,ey,cL⟩:=aA cL;cases cL;have key:∃(k:Int) (d0 d1:DI.D) (ds gs:List DI.D),y=.int k/\ρ[i]?=some (some d0)/\0<=k/\ds[k.toNat]?=some (.lst .ow gs)/\((d0=.tup ds/\d1=.tup (vc k.toNat (.lst .ow []) 0 ds))\/(d0=.lst .ow ds/\d1=.lst .ow (vc k.toNat (.lst .ow []) 0 ds)))/\r=(.nx,ρ.set i (some d1)):=by
    cases hz:aP bW [y]with
    |true =>
     obtain⟨d,d',h⟩:=yd ev hz;rw[hΦ]at h;obtain⟨k,ds,gs,h3,_⟩:=uJ h;cases y<;>first|exact nk h3 | (cases h3;done) | (cases hz;done)
    |false =>
     obtain⟨d,d',h,h',rfl⟩:=tY ev hz;rw[hΦ]at h';obtain⟨k,ds,gs,rfl,h3,h4,h5⟩:=uJ h';exact⟨k,d,d',ds,gs,rfl,h,h3,h4,h5,rfl⟩
   obtain⟨k,d0,d1,ds,gs,rfl,ho,hk,hg,hd,rfl⟩:=key;obtain⟨v,hv,_⟩:=Si.rep i _ ho;refine⟨v,hv,tD.intro Si ey λu H1 e1 ru=>?_⟩;cases ru.isInt;have l8:=Si.go e1;obtain⟨v',KZ,rv⟩:=l8.rep i _ ho;rw[hv]at KZ;cases KZ;have at_:∀{xs:ae},az (aT X.K H1) (nd X.K R (λ_=>False) τ H1) [i] 0 xs ds->∃(p:Addr) (zs:ae),xs[k.toNat]?=some (.ref p)/\H1 p=some (.lst zs)/\τ p=some [k.toNat,i]/\DR xs k=some (.ref p):=by
    intro xs rs;obtain⟨w,hw,h_⟩:=rs.get hg;rw[Nat.zero_add]at h_;cases h_ with
    | @lst _ p zs _ _ h _ =>
     refine⟨p,zs,hw,h.1,h.2,?_⟩;have fj:k.toNat<xs.length:=by
      by_cases z:k.toNat<xs.length
      ·exact z
      ·rw[List.getElem?_eq_none (by left)]at hw;cases hw
     unfold DR L2.oU;rw[if_pos hk,if_pos (by left)];exact hw
   have go:∀{xs:ae} {p:Addr} {zs:ae},az (aT X.K H1) (nd X.K R (λ_=>False) τ H1) [i] 0 xs ds->xs[k.toNat]?=some (.ref p)->H1 p=some (.lst zs)->τ p=some [k.toNat,i]->az (aT X.K (upd H1 p (.lst []))) (nd X.K R (λ_=>False) τ (upd H1 p (.lst []))) [i] 0 xs (vc k.toNat (.lst .ow []) 0 ds):=by
    intro xs p zs rs hx hp ht;refine az.vc (λ_ _ h=>nC hp h) (λc m a n f hm h=>l8.Pa hp ht (λz=>?_) h) rs λm w hw hm=>?_
    ·have:=XE List.reverse z;simp at this;exact hm this.1
    ·rw[Nat.zero_add]at hm;subst hm;rw[hx]at hw;cases hw;exact .lst ⟨aV,ht⟩ .nil
   rcases hd with ⟨rfl,rfl⟩|⟨rfl,rfl⟩
   ·cases rv with
    | @tup _ a xs _ hn rs =>
     obtain⟨p,zs,h1,h2,h3,h4⟩:=at_ rs;refine .inr ⟨a,xs,k,_,rfl,rfl,hn,h4,.inl ⟨rfl,_,de.of h2⟩,p,zs,rfl,rfl,h2,?_⟩;exact hq σ _ R τ (l8.Ts ho h2 h3 hv (.tup (nC h2 hn) (go rs h1 h2 h3))) (lp (n:=.l _) l8 e1 (λ_ h=>h) h2 h3)
   ·obtain⟨a,xs,rfl,hn,rs⟩:=rv.oV;obtain⟨p,zs,h1,h2,h3,h4⟩:=at_ rs;refine .inl ⟨a,xs,k,_,rfl,rfl,hn.sq,h4,.inl ⟨rfl,_,de.of h2⟩,p,zs,rfl,rfl,h2,?_⟩;refine hq σ _ R τ (l8.Ts ho h2 h3 hv (.lst (l8.Pa h2 h3 (λz=>?_) hn) (go rs h1 h2 h3))) (lp (n:=.l _) l8 e1 (λ_ h=>h) h2 h3);have:=XE List.length z;simp at this
end DI
end
section
namespace DI
open PySem (Str)
section
variable {α β:Type}
@[simp]theorem dj(a:α)(f:α->O β):bd (ok a) f=f a:=rfl
@[simp]theorem NS(c:Nat)(f:α->O β):bd (some (.error c)) f=some (.error c):=rfl
noncomputable def HP(f:α->O β)(x:O α):O β:=bd x f
@[simp]theorem Rc(f:α->O β)(a:α):HP f (ok a)=f a:=rfl
@[simp]theorem NW(f:α->O β)(c:Nat):HP f (some (.error c))=some (.error c):=rfl
end
def Mt(op:CG)(x y:O D):O D:=bd x λx=>bd y λy=>bR op x y
@[simp]theorem NR(op:CG)(x y:D):Mt op (ok x) (ok y)=bR op x y:=rfl
def Me(op:wG)(x y:O D):O D:=bd x λx=>bd y λy=>dE op x y
@[simp]theorem NP(op:wG)(x y:D):Me op (ok x) (ok y)=dE op x y:=rfl
def Sg(x y:O D):O D:=bd x λx=>bd y λy=>Ds x y
@[simp]theorem Pn(x y:D):Sg (ok x) (ok y)=Ds x y:=rfl
def Kg(x:O D):O D:=bd (bd x fA) λb=>ok (.bl (!b))
@[simp]theorem M9(b:Bool):Kg (ok (.bl b))=ok (.bl (!b)):=rfl
@[simp]theorem Jc(b:Bool):fA (.bl b)=ok b:=rfl
def o7(x:O D):O Bool:=bd x fA
@[simp]theorem MI(b:Bool):o7 (ok (.bl b))=ok b:=rfl
@[simp]theorem Jb(c:Nat):o7 (some (.error c))=some (.error c):=rfl
def Sh(t:Ty)(x:O D):O D:=bd x λx=>ok (.bl (fG t x))
@[simp]theorem Py(t:Ty)(x:D):Sh t (ok x)=ok (.bl (fG t x)):=rfl
def zA(m:aD)(xs:O (ab)):O D:=bd xs λxs=>bd (m (aG bo xs)) λr=>ok (aZ mq r)
def QM(x:O D):O D:=bd x λr=>ok (aZ mq r)
@[simp]theorem QL(r:D):QM (ok r)=ok (aZ mq r):=rfl
@[simp]theorem NG(c:Nat):QM (some (.error c))=some (.error c):=rfl
@[simp]theorem Mj(m:aD)(xs:ab):zA m (ok xs)=QM (m (aG bo xs)):=rfl
@[simp]theorem IG(m:aD)(c:Nat):zA m (some (.error c))=some (.error c):=rfl
noncomputable def uH(x:O D)(xs:O (ab)):O (ab):=bd x λx=>bd xs λxs=>ok (x::xs)
@[simp]theorem Md(x:D)(xs:ab):uH (ok x) (ok xs)=ok (x::xs):=rfl
@[simp]theorem ID(c:Nat)(xs:O (ab)):uH (some (.error c)) xs=some (.error c):=rfl
@[simp]theorem HB(x:D)(c:Nat):uH (ok x) (some (.error c))=some (.error c):=rfl
noncomputable def Ge(x:O Bool)(a b:O D):O D:=bd x λk=>if k then a else b
@[simp]theorem Pu(a b:O D):Ge (ok true) a b=a:=rfl
@[simp]theorem Pw(a b:O D):Ge (ok false) a b=b:=rfl
def Cu(x y:O D):O D:=bd (bd x fA) λc=>if c then y else ok (.bl false)
@[simp]theorem Rf(y:O D):Cu (ok (.bl true)) y=y:=rfl
@[simp]theorem Rg(y:O D):Cu (ok (.bl false)) y=ok (.bl false):=rfl
@[simp]theorem Rh(a b:Bool):Cu (ok (.bl a)) (ok (.bl b))=ok (.bl (a&&b)):=by cases a<;>rfl
def M5(x y:O D):O D:=bd (bd x fA) λc=>if c then ok (.bl true)else y
@[simp]theorem RN(y:O D):M5 (ok (.bl true)) y=ok (.bl true):=rfl
@[simp]theorem RO(y:O D):M5 (ok (.bl false)) y=y:=rfl
@[simp]theorem RP(a b:Bool):M5 (ok (.bl a)) (ok (.bl b))=ok (.bl (a||b)):=by cases a<;>rfl
def yq(x:O D):O D:=bd (bd x fA) λc=>ok (.bl c)
@[simp]theorem KG(c:Bool):yq (ok (.bl c))=ok (.bl c):=rfl
@[simp]theorem Jy(d:D):tE (some (some d))=ok (aZ bH d):=rfl
section
variable (Φ:aU)(ρ:aY)
@[simp]theorem Tc:bg Φ .bz ρ=ok .bz:=rfl
@[simp]theorem VU(b:Bool):bg Φ (.bl b) ρ=ok (.bl b):=rfl
@[simp]theorem DG(i:Int):bg Φ (.int i) ρ=ok (.int i):=rfl
@[simp]theorem Tj(x:Str)(i:Int):bg Φ (.glo x i) ρ=ok (.int i):=rfl
@[simp]theorem WJ(i:Nat):bg Φ (.v i) ρ=tE ρ[i]?:=rfl
@[simp]theorem To(op:CG)(a b:CE):bg Φ (.bin op a b) ρ=Mt op (bg Φ a ρ) (bg Φ b ρ):=rfl
@[simp]theorem Tn(op:wG)(a b:CE):bg Φ (.cmp op a b) ρ=Me op (bg Φ a ρ) (bg Φ b ρ):=rfl
@[simp]theorem Te(a:CE):bg Φ (.neg a) ρ=HP Be (bg Φ a ρ):=rfl
@[simp]theorem Ta(a:CE):bg Φ (.not a) ρ=Kg (bg Φ a ρ):=rfl
@[simp]theorem Ti(a:CE)(t:Ty):bg Φ (.ue a t) ρ=Sh t (bg Φ a ρ):=rfl
@[simp]theorem Th(c a b:CE):bg Φ (.ite c a b) ρ=Ge (o7 (bg Φ c ρ)) (bg Φ a ρ) (bg Φ b ρ):=rfl
@[simp]theorem QY(f:Nat)(es:aB):bg Φ (.call f es) ρ=zA (Φ f) (cM Φ es ρ):=rfl
@[simp]theorem VV(f:Bf)(es:aB):bg Φ (.bf f es) ρ=HP (qS f) (cM Φ es ρ):=rfl
@[simp]theorem S8(f:Nat)(es:aB):bg Φ (.bX f es) ρ=HP (Φ f) (cM Φ es ρ):=rfl
@[simp]theorem VT(a b:CE):bg Φ (.ix a b) ρ=Sg (bg Φ a ρ) (bg Φ b ρ):=rfl
@[simp]theorem S7(es:aB):bg Φ (.tup es) ρ=HP (λxs=>ok (.tup xs)) (cM Φ es ρ):=rfl
@[simp]theorem Tf(es:aB):bg Φ (.lst es) ρ=HP (λxs=>ok (.lst .ow xs)) (cM Φ es ρ):=rfl
@[simp]theorem Tp(es:aB):bg Φ (.and es) ρ=mY Φ es ρ:=rfl
@[simp]theorem VS(es:aB):bg Φ (.or es) ρ=vZ Φ es ρ:=rfl
@[simp]theorem Q0(e:CE):mY Φ [e] ρ=yq (bg Φ e ρ):=rfl
@[simp]theorem QZ(e e':CE)(es:aB):mY Φ (e::e'::es) ρ=Cu (bg Φ e ρ) (mY Φ (e'::es) ρ):=rfl
@[simp]theorem S_(e:CE):vZ Φ [e] ρ=yq (bg Φ e ρ):=rfl
@[simp]theorem S9(e e':CE)(es:aB):vZ Φ (e::e'::es) ρ=M5 (bg Φ e ρ) (vZ Φ (e'::es) ρ):=rfl
@[simp]theorem Td:cM Φ [] ρ=ok []:=rfl
@[simp]theorem QX(e:CE)(es:aB):cM Φ (e::es) ρ=uH (bg Φ e ρ) (cM Φ es ρ):=rfl
@[simp]theorem WK(e:CE):qQ Φ e ρ=o7 (bg Φ e ρ):=rfl
theorem Q3(e:CE):bd (bg Φ e ρ) fA=o7 (bg Φ e ρ):=rfl
@[simp]theorem Q2:fV Φ [] ρ=ok true:=rfl
@[simp]theorem Q1(e:CE):fV Φ [e] ρ=o7 (bg Φ e ρ):=by
 rw[fV,Q3];cases h:o7 (bg Φ e ρ)with
 |none=>rfl
 |some r=>cases r with
  |error c=>rfl
  |ok b=>cases b<;>simp[fV,bd,ok]
end
def og(is:aH):Nat->aY->aY
 |_,[]=>[]
 |n,d::ρ=>(if n∈is then d.map (aZ bo)else d)::og is (n+1) ρ
theorem DE(is:aH):∀(ρ:aY) (n:Nat),ρ.mapIdx (λi d=>if i+n∈is then d.map (aZ bo)else d)=og is n ρ
 |[],_=>rfl
 |d::ρ,n=>by
  rw[List.mapIdx_cons,og,<- DE is ρ (n+1)];simp only[Nat.zero_add,Nat.add_assoc,Nat.add_comm 1 n]
theorem y3(is:aH)(ρ:aY):fu is ρ=og is 0 ρ:=by rw[<- DE];rfl
@[simp]theorem LU(is:aH)(n:Nat):og is n []=[]:=rfl
@[simp]theorem IA(is:aH)(n:Nat)(d:aK)(ρ:aY):og is n (d::ρ)=(if n∈is then d.map (aZ bo)else d)::og is (n+1) ρ:=rfl
def cG(e:CE)(ρ:aY)(x:O D):O (D×aY):=bd x λd=>ok (keep e d ρ)
variable {ρ ρ1:aY}
@[simp]theorem p_{e:CE}{d:D}(h:aS bW d=false):cG e ρ (ok d)=ok (d,ρ):=by
 show ok (keep e d ρ)=_;rw[keep,h];rfl
@[simp]theorem KH{e:CE}{d:D}(h:aS bW d=true):cG e ρ (ok d)=ok (aZ bo d,og (fL e) 0 ρ):=by
 show ok (keep e d ρ)=_;rw[keep,h,<- y3];rfl
@[simp]theorem Ij(e:CE)(ρ:aY)(c:Nat):cG e ρ (some (.error c))=some (.error c):=rfl
def yg(i:Nat)(ρ:aY)(o:Option (aK)):O (D×aY):=match o with
 |some (some d)=>if aS cD d then ok (d,ρ.set i none)else ok (d,ρ)
 |_=>none
@[simp]theorem Kl{i:Nat}{d:D}(h:aS cD d=true):yg i ρ (some (some d))=ok (d,ρ.set i none):=Xf h
@[simp]theorem Km{i:Nat}{d:D}(h:aS cD d=false):yg i ρ (some (some d))=ok (d,ρ):=Xs (by rw[h];exact WS)
@[simp]theorem Wx(Φ:aU)(i:Nat)(ρ:aY):gL Φ (.v i) ρ=yg i ρ ρ[i]?:=rfl
noncomputable def UH:CE->Bool
 |.v _=>true
 |_=>false
@[simp]theorem Sb(Φ:aU)(ρ:aY)(op:CG)(a b:CE):gL Φ (.bin op a b) ρ=cG (.bin op a b) ρ (bg Φ (.bin op a b) ρ):=rfl
@[simp]theorem Sa(Φ:aU)(ρ:aY)(op:wG)(a b:CE):gL Φ (.cmp op a b) ρ=cG (.cmp op a b) ρ (bg Φ (.cmp op a b) ρ):=rfl
@[simp]theorem Pl(Φ:aU)(ρ:aY)(f:Nat)(es:aB):gL Φ (.call f es) ρ=cG (.call f es) ρ (bg Φ (.call f es) ρ):=rfl
@[simp]theorem UG(Φ:aU)(ρ:aY)(f:Bf)(es:aB):gL Φ (.bf f es) ρ=cG (.bf f es) ρ (bg Φ (.bf f es) ρ):=rfl
@[simp]theorem R4(Φ:aU)(ρ:aY)(f:Nat)(es:aB):gL Φ (.bX f es) ρ=cG (.bX f es) ρ (bg Φ (.bX f es) ρ):=rfl
@[simp]theorem UD(Φ:aU)(ρ:aY)(a b:CE):gL Φ (.ix a b) ρ=cG (.ix a b) ρ (bg Φ (.ix a b) ρ):=rfl
@[simp]theorem RZ(Φ:aU)(ρ:aY)(es:aB):gL Φ (.tup es) ρ=cG (.tup es) ρ (bg Φ (.tup es) ρ):=rfl
@[simp]theorem R8(Φ:aU)(ρ:aY)(es:aB):gL Φ (.lst es) ρ=cG (.lst es) ρ (bg Φ (.lst es) ρ):=rfl
@[simp]theorem Dr(Φ:aU)(ρ:aY)(i:Int):gL Φ (.int i) ρ=cG (.int i) ρ (bg Φ (.int i) ρ):=rfl
@[simp]theorem UE(Φ:aU)(ρ:aY)(i:Bool):gL Φ (.bl i) ρ=cG (.bl i) ρ (bg Φ (.bl i) ρ):=rfl
@[simp]theorem R6(Φ:aU)(ρ:aY): gL Φ (.bz) ρ=cG (.bz) ρ (bg Φ (.bz) ρ):=rfl
@[simp]theorem R7(Φ:aU)(ρ:aY)(a:CE):gL Φ (.neg a) ρ=cG (.neg a) ρ (bg Φ (.neg a) ρ):=rfl
@[simp]theorem R5(Φ:aU)(ρ:aY)(a:CE):gL Φ (.not a) ρ=cG (.not a) ρ (bg Φ (.not a) ρ):=rfl
@[simp]theorem Sd(Φ:aU)(ρ:aY)(es:aB):gL Φ (.and es) ρ=cG (.and es) ρ (bg Φ (.and es) ρ):=rfl
@[simp]theorem UC(Φ:aU)(ρ:aY)(es:aB):gL Φ (.or es) ρ=cG (.or es) ρ (bg Φ (.or es) ρ):=rfl
@[simp]theorem R9(Φ:aU)(ρ:aY)(a b c:CE):gL Φ (.ite a b c) ρ=cG (.ite a b c) ρ (bg Φ (.ite a b c) ρ):=rfl
@[simp]theorem Pk(Φ:aU)(ρ:aY)(n:Nat)(t:Tg)(caps:aH)(ik:IK)(es bu:aB)(elt:CE):gL Φ (.comp n t caps ik es bu elt) ρ=cG (.comp n t caps ik es bu elt) ρ (bg Φ (.comp n t caps ik es bu elt) ρ):=rfl
@[simp]theorem R_(Φ:aU)(ρ:aY)(a:CE)(t:Ty):gL Φ (.ue a t) ρ=cG (.ue a t) ρ (bg Φ (.ue a t) ρ):=rfl
theorem KI(Φ:aU)(e:CE)(ρ:aY)(h:UH e=false):gL Φ e ρ=cG e ρ (bg Φ e ρ):=by cases e<;>first|rfl|cases h
@[simp]theorem H9(ρ:aY):fg [] [] ρ=ok ρ:=rfl
variable {ds:ab}{is:aH}
@[simp]theorem EG{i:Nat}{d:D}(h:i<ρ.length):fg (i::is) (d::ds) ρ=fg is ds (ρ.set i (some d)):=Xf h
@[simp]theorem MR{i:Nat}{d:D}(h:i<ρ.length):cm (.nm i) d ρ=ok (ρ.set i (some d)):=Xf h
@[simp]theorem MQ(h:aP cD ds=false):cm (.tp is) (.tup ds) ρ=fg is ds ρ:=Xs (by rw[h];exact WS)
def HN(i:Nat)(r:O (D×aY)):O (Fo×aY):=bd r λr=>bd (cm (.nm i) r.1 r.2) λρ'=>ok (.nx,ρ')
@[simp]theorem uU{i:Nat}{d:D}(h:i<ρ.length):HN i (ok (d,ρ))=ok (.nx,ρ.set i (some d)):=by
 show bd (cm (.nm i) d ρ) _=_;rw[cm,if_pos h];rfl
@[simp]theorem Mx(i:Nat)(c:Nat):HN i (some (.error c))=some (.error c):=rfl
def Mw(is:aH)(r:O (D×aY)):O (Fo×aY):=bd r λr=>bd (cm (.tp is) r.1 r.2) λρ'=>ok (.nx,ρ')
@[simp]theorem NU(h:aP cD ds=false):Mw is (ok (.tup ds,ρ))=bd (fg is ds ρ) λρ'=>ok (.nx,ρ'):=by
 show bd (cm (.tp is) (.tup ds) ρ) _=_;rw[cm,h];rfl
noncomputable def retS(r:O (D×aY)):O (Fo×aY):=bd r λr=>ok (.rt r.1,r.2)
@[simp]theorem MT(d:D)(ρ:aY):retS (ok (d,ρ))=ok (.rt d,ρ):=rfl
@[simp]theorem JL(c:Nat):retS (some (.error c))=some (.error c):=rfl
noncomputable def QT(ρ:aY)(x:O D):O (Fo×aY):=bd x λ_=>ok (.nx,ρ)
@[simp]theorem QS(ρ:aY)(d:D):QT ρ (ok d)=ok (.nx,ρ):=rfl
@[simp]theorem NM(ρ:aY)(c:Nat):QT ρ (some (.error c))=some (.error c):=rfl
noncomputable def sT(Φ:aU)(ss:aj)(r:O (Fo×aY)):O (Fo×aY):=bd r λr=>match r with
 | (.nx,ρ')=>bC Φ ss ρ'
 |r=>ok r
@[simp]theorem pb(Φ:aU)(ss:aj)(ρ:aY):sT Φ ss (ok (.nx,ρ))=bC Φ ss ρ:=rfl
@[simp]theorem Je(Φ:aU)(ss:aj)(d:D)(ρ:aY):sT Φ ss (ok (.rt d,ρ))=ok (.rt d,ρ):=rfl
@[simp]theorem HZ(Φ:aU)(ss:aj)(c:Nat):sT Φ ss (some (.error c))=some (.error c):=rfl
noncomputable def Br(Φ:aU)(a b:aj)(ρ:aY)(x:O Bool):O (Fo×aY):=bd x λk=>if k then bC Φ a ρ else bC Φ b ρ
@[simp]theorem Pq(Φ:aU)(a b:aj)(ρ:aY):Br Φ a b ρ (ok true)=bC Φ a ρ:=rfl
@[simp]theorem Pt(Φ:aU)(a b:aj)(ρ:aY):Br Φ a b ρ (ok false)=bC Φ b ρ:=rfl
@[simp]theorem KJ(Φ:aU)(a b:aj)(ρ:aY)(c:Nat):Br Φ a b ρ (some (.error c))=some (.error c):=rfl
def My(i:Nat)(r:O (D×aY)):O (Fo×aY):=bd r λr=>match rF r.2[i]? with
  |some ds=>if ds.length<eK then ok (.nx,r.2.set i (some (.lst .ow (ds++[r.1]))))else none
  |none=>none
@[simp]theorem NV{i:Nat}{d:D}(h:ρ[i]?=some (some (.lst .ow ds)))(hl:ds.length<eK):My i (ok (d,ρ))=ok (.nx,ρ.set i (some (.lst .ow (ds++[d])))):=by
 show(match rF ρ[i]? with|some ds=>_|none=>_)=_;rw[h];exact Xf hl
section
variable (Φ:aU)(ρ:aY)
@[simp]theorem RA:bC Φ [] ρ=ok (.nx,ρ):=rfl
@[simp]theorem g_(s:CS)(ss:aj):bC Φ (s::ss) ρ=sT Φ ss (lN Φ s ρ):=rfl
@[simp]theorem sN(i:Nat)(e:CE):lN Φ (.asg (.nm i) e) ρ=HN i (gL Φ e ρ):=rfl
@[simp]theorem N3(is:aH)(e:CE):lN Φ (.asg (.tp is) e) ρ=Mw is (gL Φ e ρ):=rfl
@[simp]theorem Rz(e:CE):lN Φ (.ret e) ρ=retS (gL Φ e ρ):=rfl
theorem jF(c:CE)(b:aj):lN Φ (.CH c b) ρ=eh (λρ=>bd (qQ Φ c ρ) λk=>if k then bd (bC Φ b ρ) λr=>match r with
   | (.nx,ρ')=>ok (.inl ρ')
   | (.rt d,ρ')=>ok (.inr (.rt d,ρ'))
  else ok (.inr (.nx,ρ))) ρ:=rfl
theorem IM(i j:Nat)(a b:CE):lN Φ (.par i j a b) ρ=bd (bg Φ a ρ) λx=>bd (bg Φ b ρ) λy=>if aS anyF x=false/\aS anyF y=false/\i<ρ.length/\j<ρ.length then ok (.nx,(ρ.set i (some x)).set j (some y))else none:=rfl
@[simp]theorem TH(c:Nat):lN Φ (.rs c) ρ=some (.error c):=rfl
@[simp]theorem TJ(e:CE):lN Φ (.ex e) ρ=QT ρ (bg Φ e ρ):=rfl
@[simp]theorem IP(c:CE)(a b:aj):lN Φ (.ifs c a b) ρ=Br Φ a b ρ (o7 (bg Φ c ρ)):=rfl
@[simp]theorem RB(i:Nat)(e:CE):lN Φ (.app i e) ρ=My i (gL Φ e ρ):=rfl
end
noncomputable def mk(Φ:aU)(ar n:Nat)(b:aj):aD:=λds=>if ds.length=ar then kU Φ n b ds else none
noncomputable def lS(r:O (Fo×aY)):O D:=bd r λr=>match r.1 with
 |.nx=>ok .bz
 |.rt d=>ok d
@[simp]theorem NO(ρ:aY):lS (ok (.nx,ρ))=ok .bz:=rfl
@[simp]theorem NN(d:D)(ρ:aY):lS (ok (.rt d,ρ))=ok d:=rfl
@[simp]theorem L6(c:Nat):lS (some (.error c))=some (.error c):=rfl
variable {ar:Nat}{Φ:aU}
theorem mk_eq{n:Nat}{b:aj}(h:ds.length=ar):mk Φ ar n b ds=lS (bC Φ b (ds.map some++List.replicate (n - ds.length) none)):=Xf h
theorem jo{n:Nat}{b:aj}(ds:ab)(r:D)(h:mk Φ ar n b ds=ok r):ds.length=ar/\kU Φ n b ds=ok r:=by
 unfold mk at h;split at h
 ·rename_i hl;exact⟨hl,h⟩
 ·cases h
theorem Int.beq_eq_decide_eq(i j:Int):(i==j)=decide (i=j):=rfl
section
variable (g:Fl->Fl)(p:Fl->Bool)
@[simp]theorem Bk(b:Bool):aZ g (.bl b)=.bl b:=rfl
@[simp]theorem p8(b:Int):aZ g (.int b)=.int b:=rfl
@[simp]theorem Ks:aZ g .bz=.bz:=rfl
@[simp]theorem Kr(ds:ab):aZ g (.tup ds)=.tup (aG g ds):=rfl
@[simp]theorem Kt(f:Fl)(ds:ab):aZ g (.lst f ds)=.lst (g f) (aG g ds):=rfl
@[simp]theorem Ku(f:Fl)(ks:aq)(vs:ab):aZ g (.cE f ks vs)=.cE (g f) ks (aG g vs):=rfl
@[simp]theorem Ig:aG g []=[]:=rfl
@[simp]theorem FX(d:D)(ds:ab):aG g (d::ds)=aZ g d::aG g ds:=rfl
@[simp]theorem Ii(a b:ab):aG g (a++b)=aG g a++aG g b:=by simp only[bA,List.map_append]
@[simp]theorem Ih(ds:ab):(aG g ds).length=ds.length:=by rw[bA,List.length_map]
theorem cf{α:Type}{e:α->D}(h:∀x,aZ g (e x)=e x)(xs:List α):aG g (xs.map e)=xs.map e:=by
 rw[bA,List.map_map];exact W5 λx _=>h x
theorem bU{α:Type}{e:α->D}(h:∀x,aS p (e x)=false):∀xs:List α,aP p (xs.map e)=false
 |[]=>by rw[List.map_nil,aP]
 |x::xs=>by rw[List.map_cons,aP,h x,bU h xs];rfl
@[simp]theorem BN(b:Bool):aS p (.bl b)=false:=Yx rfl
@[simp]theorem iV(b:Int):aS p (.int b)=false:=Yx rfl
@[simp]theorem LF:aS p .bz=false:=Yx rfl
@[simp]theorem LD(ds:ab):aS p (.tup ds)=aP p ds:=Yx rfl
@[simp]theorem yR(f:Fl)(ds:ab):aS p (.lst f ds)=(p f||aP p ds):=Yx rfl
@[simp]theorem LG(f:Fl)(ks:aq)(vs:ab):aS p (.cE f ks vs)=(p f||aP p vs):=Yx rfl
@[simp]theorem Iz:aP p []=false:=Yx rfl
@[simp]theorem GL(d:D)(ds:ab):aP p (d::ds)=(aS p d||aP p ds):=Yx rfl
@[simp]theorem vS:∀a b:ab,aP p (a++b)=(aP p a||aP p b)
 |[],b=>by simp
 |d::a,b=>by simp[vS a b,Bool.or_assoc]
@[simp]theorem ic(ns:aa):aG g (ns.map D.int)=ns.map D.int:=cf g (p8 g) ns
@[simp]theorem r_(ns:aa):aP p (ns.map D.int)=false:=bU p (iV p) ns
@[simp]theorem vD(ns:List Bool):aG g (ns.map D.bl)=ns.map D.bl:=cf g (Bk g) ns
@[simp]theorem vR(ns:List Bool):aP p (ns.map D.bl)=false:=bU p (BN p) ns
@[simp]theorem Ik(t:Ty)(d:D):fG t (aZ g d)=fG t d:=by cases d<;>cases t<;>rfl
end
@[simp]theorem G7:bH .ow=.al:=rfl
@[simp]theorem G8:bH .fz=.fz:=rfl
@[simp]theorem G9:bH .al=.al:=rfl
@[simp]theorem G6:bH .sc=.sc:=rfl
@[simp]theorem G3:bo .ow=.fz:=rfl
@[simp]theorem G4:bo .fz=.fz:=rfl
@[simp]theorem G5:bo .al=.fz:=rfl
@[simp]theorem G1:bo .sc=.sc:=rfl
@[simp]theorem Hl:mq .ow=.ow:=rfl
@[simp]theorem Hm:mq .fz=.al:=rfl
@[simp]theorem Hn:mq .al=.al:=rfl
@[simp]theorem Hk:mq .sc=.sc:=rfl
@[simp]theorem Hh:bW .ow=false:=rfl
@[simp]theorem Hi:bW .fz=false:=rfl
@[simp]theorem Hj:bW .al=true:=rfl
@[simp]theorem Hg:bW .sc=false:=rfl
@[simp]theorem Hd:cD .ow=true:=rfl
@[simp]theorem He:cD .fz=false:=rfl
@[simp]theorem Hf:cD .al=false:=rfl
@[simp]theorem Hc:cD .sc=false:=rfl
@[simp]theorem G_:qb .ow=false:=rfl
@[simp]theorem Ha:qb .fz=false:=rfl
@[simp]theorem Hb:qb .al=false:=rfl
noncomputable def af(ns:aa):ab:=ns.map D.int
noncomputable def sG(ns:List Bool):ab:=ns.map D.bl
@[simp]theorem Iq(ns:aa):(af ns).length=ns.length:=XW ..
@[simp]theorem Ms(ns:List Bool):(sG ns).length=ns.length:=XW ..
@[simp]theorem Ip:af []=[]:=rfl
@[simp]theorem il(n:Int)(ns:aa):af (n::ns)=.int n::af ns:=rfl
@[simp]theorem Gp(ns:aa)(n:Int):af ns++[.int n]=af (ns++[n]):=by simp[af]
@[simp]theorem js(ns:aa)(i:Nat):(af ns)[i]?=ns[i]?.map D.int:=List.getElem?_map ..
@[simp]theorem cu(g:Fl->Fl)(ns:aa):aG g (af ns)=af ns:=ic g ns
@[simp]theorem DA(p:Fl->Bool)(ns:aa):aP p (af ns)=false:=r_ p ns
@[simp]theorem FY(g:Fl->Fl)(ns:List Bool):aG g (sG ns)=sG ns:=vD g ns
@[simp]theorem GN(p:Fl->Bool)(ns:List Bool):aP p (sG ns)=false:=vR p ns
@[simp]theorem DP(i j:Int):bR .add (.int i) (.int j)=ok (.int (i+j)):=rfl
@[simp]theorem Tt(i j:Int):bR .sub (.int i) (.int j)=ok (.int (i - j)):=rfl
theorem gY{i j:Int}(h:fU i j=true):bR .mul (.int i) (.int j)=ok (.int (i*j)):=Xf h
theorem fO{i j:Int}(h:m5 j=true):bR .fdiv (.int i) (.int j)=ok (.int (i.fdiv j)):=Xf h
@[simp]theorem uO{i j:Int}(h:j≠0):bR .mod (.int i) (.int j)=ok (.int (i.fmod j)):=Xf h
theorem DN{i j:Int}(h:tM i j=true):bR .pow (.int i) (.int j)=ok (.int (i ^ j.toNat)):=Xf h
@[simp]theorem RV(i:Int):Be (.int i)=ok (.int (-i)):=rfl
theorem mulOk_of{i j:Int}(h:i.natAbs<2 ^ 9000)(h':j.natAbs<2 ^ 9000):fU i j=true:=by
 simp only[fU,big,h,h',decide_true,Bool.and_self,Bool.or_true]
theorem gj{n:Nat}(h:n<2 ^ 64):n<2 ^ 9000:=WY h (W8 (by decide) (by decide))
theorem nU{i:Int}(j:Int)(h:i.natAbs<2 ^ 64):fU i j=true:=by simp only[fU,h,decide_true,Bool.true_or]
theorem Bh{j:Int}(i:Int)(h:j.natAbs<2 ^ 64):fU i j=true:=by simp only[fU,h,decide_true,Bool.true_or,Bool.or_true]
theorem cY{j:Int}(h0:j≠0)(h:j.natAbs<2 ^ 9000):m5 j=true:=by
 simp only[m5,big,h,decide_true,Bool.and_true,decide_eq_true_eq];exact h0
@[simp]theorem uN{i j:Int}(h:j.natAbs<2 ^ 64):bR .mul (.int i) (.int j)=ok (.int (i*j)):=gY (Bh i h)
@[simp]theorem NT{i j:Int}(h:i.natAbs<2 ^ 64):bR .mul (.int i) (.int j)=ok (.int (i*j)):=gY (nU j h)
@[simp]theorem Mu{i j:Int}(h0:j≠0)(h:j.natAbs<2 ^ 64):bR .fdiv (.int i) (.int j)=ok (.int (i.fdiv j)):=fO (cY h0 (gj h))
theorem Mp{a b:D}(ha:eX 40 a=true)(hb:eX 40 b=true):dE .eq a b=ok (.bl (ju a b)):=by
 show(if eX 40 a&&eX 40 b then _ else _)=_;rw[ha,hb];rfl
theorem Ci{a b:D}(ha:eX 40 a=true)(hb:eX 40 b=true):dE .ne a b=ok (.bl (!ju a b)):=by
 show(if eX 40 a&&eX 40 b then _ else _)=_;rw[ha,hb];rfl
@[simp]theorem gH(n:Nat)(i:Int):eX n (.int i)=true:=by cases n<;>rfl
@[simp]theorem O6(n:Nat)(i:Bool):eX n (.bl i)=true:=by cases n<;>rfl
@[simp]theorem M7(n:Nat):eX n .bz=true:=by cases n<;>rfl
@[simp]theorem nP(n:Nat)(ds:ab):eX (n+1) (.tup ds)=ds.all (eX n):=rfl
@[simp]theorem A9(n:Nat)(f:Fl)(ds:ab):eX (n+1) (.lst f ds)=ds.all (eX n):=rfl
@[simp]theorem OT(i j:Int):dE .eq (.int i) (.int j)=ok (.bl (decide (i=j))):=by rw[Mp (gH _ _) (gH _ _)];show ok (D.bl (i==j))=_;rw[Int.beq_eq_decide_eq]
@[simp]theorem OS(i j:Int):dE .ne (.int i) (.int j)=ok (.bl (!decide (i=j))):=by rw[Ci (gH _ _) (gH _ _)];show ok (D.bl (!(i==j)))=_;rw[Int.beq_eq_decide_eq]
@[simp]theorem Uo(i j:Int):dE .lt (.int i) (.int j)=ok (.bl (decide (i<j))):=rfl
@[simp]theorem Uq(i j:Int):dE .le (.int i) (.int j)=ok (.bl (decide (i<=j))):=rfl
@[simp]theorem Ur(i j:Int):dE .gt (.int i) (.int j)=ok (.bl (decide (j<i))):=rfl
@[simp]theorem Us(i j:Int):dE .ge (.int i) (.int j)=ok (.bl (decide (j<=i))):=rfl
@[simp]theorem Sl(ds:ab)(i:Int):Ds (.tup ds) (.int i)=ni ds i:=rfl
@[simp]theorem Sn(f:Fl)(ds:ab)(i:Int):Ds (.lst f ds) (.int i)=ni ds i:=rfl
theorem jw{n:Nat}{d:D}(h:ds[n]?=some d):ni ds (n:Int)=ok (aZ bH d):=by
 have hn:n<ds.length:=(List.getElem?_eq_some_iff.mp h).1;have e:oU ds.length (n:Int)=some n:=by unfold oU;rw[if_pos (by left),if_pos (by left)];rfl
 unfold ni;rw[e,Option.bind_some,h]
theorem at_of{i:Int}{d:D}(h0:0<=i)(h:ds[i.toNat]?=some d):ni ds i=ok (aZ bH d):=by
 have:=jw h
 rwa [show((i.toNat:Nat):Int)=i by left]at this
@[simp]theorem Rb(d:D)(ds:ab):ni (d::ds) 0=ok (aZ bH d):=jw (n:=0) rfl
@[simp]theorem V_(a d:D)(ds:ab):ni (a::d::ds) 1=ok (aZ bH d):=jw (n:=1) rfl
@[simp]theorem V9(a b d:D)(ds:ab):ni (a::b::d::ds) 2=ok (aZ bH d):=jw (n:=2) rfl
@[simp]theorem NK(ds:ab):qS .len [.tup ds]=ok (.int ds.length):=rfl
@[simp]theorem NL(f:Fl)(ds:ab):qS .len [.lst f ds]=ok (.int ds.length):=rfl
@[simp]theorem SX(i:Int):qS .abs [.int i]=ok (.int i.natAbs):=by
 show ok (D.int (if i<0 then -i else i))=_;congr 2;split<;>left
@[simp]theorem L0(f:Fl)(ds:ab):qS .list1 [.lst f ds]=ok (.lst .ow (aG bH ds)):=rfl
@[simp]theorem LZ(ds:ab):qS .list1 [.tup ds]=ok (.lst .ow (aG bH ds)):=rfl
@[simp]theorem NI(f:Fl)(ds:ab):qS .tuple1 [.lst f ds]=ok (.tup (aG bH ds)):=rfl
@[simp]theorem LY(f:Fl)(ns:aa):qS .md [.lst f (af ns)]=ok (.int ns.sum):=by
 show(match intsOf (ns.map D.int)with|some ns=>_|none=>_)=_;rw[bI]
@[simp]theorem SW(f:Fl)(bs:List Bool):qS .all1 [.lst f (sG bs)]=ok (.bl (bs.all id)):=by
 show(match gX (bs.map D.bl)with|some ns=>_|none=>_)=_;rw[m9]
variable {ns:aa}
@[simp]theorem NJ(h:ns.length<64):qS .dr [.tup (af ns)]=ok (.lst .ow (af (sortI ns))):=by
 show jI _=_;unfold jI af;rw[bI];exact Xf h
@[simp]theorem QP(h:ns.length<4000):Kv (.tup (af ns))=ok (.int (qw ns).length):=by
 show(match intsOf (ns.map D.int)with|some ns=>_|none=>_)=_;rw[bI];exact Xf h
@[simp]theorem oj(i j:Int):ju (.int i) (.int j)=decide (i=j):=by show(i==j)=_;rw[Int.beq_eq_decide_eq]
@[simp]theorem QV(i j:Bool):ju (.bl i) (.bl j)=(i==j):=rfl
@[simp]theorem uz(a b:ab):ju (.tup a) (.tup b)=dC a b:=rfl
@[simp]theorem BX(f g:Fl)(a b:ab):ju (.lst f a) (.lst g b)=dC a b:=rfl
@[simp]theorem zb:dC [] []=true:=rfl
@[simp]theorem ft(a b:D)(as bs:ab):dC (a::as) (b::bs)=(ju a b&&dC as bs):=rfl
theorem lP:∀{as bs:ab},dC as bs=true->as.length=bs.length
 |[],[],_=>rfl
 |[],_::_,h=>(WS h).elim
 |_::_,[],h=>(WS h).elim
 |a::as,b::bs,h=>by
  replace h:(_&&_)=true:=h;rw[Bool.and_eq_true]at h;rw[List.length_cons,List.length_cons,lP h.2]
theorem i4{α:Type}{e:α->D}[DecidableEq α](h:∀x y,ju (e x) (e y)=decide (x=y)):∀xs ys:List α,dC (xs.map e) (ys.map e)=decide (xs=ys)
 |[],[]=>by simp
 |[],y::ys=>by
  cases z:dC ([].map e) ((y::ys).map e)with
  |true=>have:=lP z;simp at this
  |false=>simp
 |x::xs,[]=>by
  cases z:dC ((x::xs).map e) ([].map e)with
  |true=>have:=lP z;simp at this
  |false=>simp
 |x::xs,y::ys=>by
  rw[List.map_cons,List.map_cons,ft,h,i4 h xs ys];by_cases e1:x=y<;>by_cases e2:xs=ys<;>simp[e1,e2]
theorem nQ{α:Type}{e:α->D}{n:Nat}(h:∀x,eX n (e x)=true)(xs:List α):(xs.map e).all (eX n)=true:=by
 rw[List.all_map];exact List.all_eq_true.mpr λx _=>h x
theorem cN{bind:D->O aY}{test:aY->O Bool}{el:aY->O D}{α:Type}{e:α->D}{g:α->D}:∀{xs:List α},(∀x∈xs,∃ρ,bind (e x)=ok ρ/\test ρ=ok true/\el ρ=ok (g x))->gv bind test el (xs.map e)=ok (xs.map g)
 |[],_=>rfl
 |x::xs,h=>by
  obtain⟨ρ,h1,h2,h3⟩:=h x (WR ..);have ih:=cN (xs:=xs) λy hy=>h y (WT _ hy);rw[List.map_cons,gv,h1,dj,h2,dj,if_pos rfl,h3,dj,ih];rfl
theorem eQ{bind:D->O aY}{test:aY->O Bool}{el:aY->O D}{α:Type}{e:α->D}{g:α->D}{t:α->Bool}:∀{xs:List α},(∀x∈xs,∃ρ,bind (e x)=ok ρ/\test ρ=ok (t x)/\(t x=true->el ρ=ok (g x)))->gv bind test el (xs.map e)=ok ((xs.filter t).map g)
 |[],_=>rfl
 |x::xs,h=>by
  obtain⟨ρ,h1,h2,h3⟩:=h x (WR ..);have ih:=eQ (xs:=xs) λy hy=>h y (WT _ hy);rw[List.map_cons,gv,h1,dj,h2,dj,List.filter_cons];cases ht:t x with
  |true=>rw[if_pos rfl,h3 ht,dj,ih,if_pos rfl];rfl
  |false=>rw[if_neg Bool.false_ne_true,ih,if_neg Bool.false_ne_true]
section
variable {Φ:aU}{n:Nat}{t:Tg}{caps:aH}{ik:IK}{es bu:aB}{elt:CE}{ρ:aY}{xs items ds:ab}
theorem dD(h1:cM Φ es ρ=ok xs)(h2:dB Φ ik xs=ok items)
  (h3:gv (λd=>cm t d (bE n caps ρ)) (λρ'=>fV Φ bu ρ') (λρ'=>bg Φ elt ρ') items=ok ds) (hl:ds.length<=eK):bg Φ (.comp n t caps ik es bu elt) ρ=ok (.lst .ow (aG mq ds)):=by
 show bd (cM Φ es ρ) _=_;rw[h1,dj,h2,dj,h3,dj,if_pos hl]
end
theorem Bq(Φ:aU)(ds:ab):dB Φ .seq [.tup ds]=ok (aG bo ds):=rfl
theorem dU(Φ:aU)(f:Fl)(ds:ab):dB Φ .seq [.lst f ds]=ok (aG bo ds):=rfl
theorem cP{n:Nat}(h:n<=1000000):n<=eK:=h
theorem iG{t:Tg}{it:CI}{b:aj}{items:ab}{r:O (Fo×aY)}(h:fF Φ it ρ=ok (items,ρ1))(h':eM (λd ρ=>cm t d ρ) (λρ=>bC Φ b ρ) items ρ1=r):lN Φ (.fr t it b) ρ=r:=by
 show bd (fF Φ it ρ) _=_;rw[h];exact h'
theorem fM{bind:D->aY->O aY}{body:aY->O (Fo×aY)}{x:D}{xs:ab}{ρ2:aY}{r:O (Fo×aY)}(h1:bind x ρ=ok ρ1)(h2:body ρ1=ok (.nx,ρ2))(h3:eM bind body xs ρ2=r):eM bind body (x::xs) ρ=r:=by
 rw[eM,h1,dj,h2];exact h3
theorem Bt{a:CE}{n:Int}(h:bg Φ a ρ=ok (.int n))(h0:0<=n)(h1:n<=1000000):fF Φ (.kW a) ρ=ok ((List.range n.toNat).map λ(k:Nat)=>D.int (k:Int),ρ):=by
 show bd (bg Φ a ρ) _=_;rw[h];show(if n<=(eK:Int) /\ -(eK:Int)<=n then _ else _)=_;have:(eK:Int)=1000000:=rfl;rw[if_pos (by left)]
theorem Bu{a:CE}{f:Fl}(h:bg Φ a ρ=ok (.lst f ds)):fF Φ (.seq a) ρ=ok (aG bo ds,if (bW f||aP bW ds)then og (fL a) 0 ρ else ρ):=by
 show bd (bg Φ a ρ) _=_;rw[h,<- y3];show ok (_,if aS bW (.lst f ds)then _ else _)=_;rw[yR]
noncomputable def eD(t b:Int):Int:=if b<0 then -(Int.gcd t b:Int)else(Int.gcd t b:Int)
def FK(t b:Int):Int:=t.fdiv (eD t b)
def FL(t b:Int):Int:=b.fdiv (eD t b)
theorem uo{t b:Int}(h:b≠0):0<Int.gcd t b:=Int.gcd_pos_of_ne_zero_right t h
theorem ir{t b:Int}(h:b≠0):eD t b≠0:=by
 have:=uo (t:=t) h;unfold eD;split<;>left
theorem GY{t b:Int}(h:b≠0):Int.gcd t b<=b.natAbs:=XQ (by left) (Nat.gcd_dvd_right _ _)
theorem B3{t b:Int}(h:b≠0):(eD t b).natAbs<=b.natAbs:=by
 have:=GY (t:=t) h;unfold eD;split<;>left
theorem k9{t b:Int}(h:b≠0):∃t' b':Int,t=eD t b*t'/\b=eD t b*b'/\FK t b=t'/\FL t b=b'/\1<=b'/\Int.gcd t' b'=1:=by
 have hg:=uo (t:=t) h;obtain⟨t1,ht⟩:(Int.gcd t b:Int)∣t:=Int.gcd_dvd_left ..;obtain⟨b1,hb⟩:(Int.gcd t b:Int)∣b:=Int.gcd_dvd_right ..;have hc:Int.gcd t1 b1=1:=by
  have e:Int.gcd ((Int.gcd t b:Int)*t1) ((Int.gcd t b:Int)*b1)=Int.gcd t b*Int.gcd t1 b1:=by
   rw[Int.gcd_mul_left];simp
  rw[<- ht,<- hb]at e;have:Int.gcd t b*1=Int.gcd t b*Int.gcd t1 b1:=by rw[Nat.mul_one];exact e
  exact(Nat.eq_of_mul_eq_mul_left hg this).symm
 by_cases hn:b<0
 ·have ed:eD t b = -(Int.gcd t b:Int):=by simp[eD,hn]
  have e1:t=eD t b*(-t1):=by rw[ed,Int.neg_mul_neg];exact ht
  have e2:b=eD t b*(-b1):=by rw[ed,Int.neg_mul_neg];exact hb
  refine⟨-t1,-b1,e1,e2,?_,?_,?_,by rw[Int.gcd_neg,Int.neg_gcd];exact hc⟩
  ·unfold FK
   conv=>lhs;arg 1;rw[e1]
   exact XA _ (ir h)
  ·unfold FL
   conv=>lhs;arg 1;rw[e2]
   exact XA _ (ir h)
  ·have:b1<0:=by
    by_cases Qr:b1<0
    ·exact Qr
    ·have:0<=(Int.gcd t b:Int)*b1:=YK (by left) (by left);left
   left
 ·have ed:eD t b=(Int.gcd t b:Int):=by simp[eD,hn]
  have e1:t=eD t b*t1:=by rw[ed];exact ht
  have e2:b=eD t b*b1:=by rw[ed];exact hb
  refine⟨t1,b1,e1,e2,?_,?_,?_,hc⟩
  ·unfold FK
   conv=>lhs;arg 1;rw[e1]
   exact XA _ (ir h)
  ·unfold FL
   conv=>lhs;arg 1;rw[e2]
   exact XA _ (ir h)
  ·have:0<b1:=by
    by_cases Qr:0<b1
    ·exact Qr
    ·have:(Int.gcd t b:Int)*b1<=0:=Int.mul_nonpos_of_nonneg_of_nonpos (by left) (by left);left
   left
noncomputable def qD(q:Rat):D:=.tup [.int q.num,.int q.den]
@[simp]theorem rM(g:Fl->Fl)(q:Rat):aZ g (qD q)=qD q:=by unfold qD;simp
@[simp]theorem lH(g:Fl->Bool)(q:Rat):aS g (qD q)=false:=by unfold qD;simp
noncomputable def a_(qs:aM):ab:=qs.map qD
@[simp]theorem MX(qs:aM):(a_ qs).length=qs.length:=XW ..
@[simp]theorem MW:a_ []=[]:=rfl
@[simp]theorem JQ(q:Rat)(qs:aM):a_ (q::qs)=qD q::a_ qs:=rfl
@[simp]theorem JP(qs:aM)(q:Rat):a_ qs++[qD q]=a_ (qs++[q]):=by simp[a_]
@[simp]theorem AO(qs:aM)(i:Nat):(a_ qs)[i]?=qs[i]?.map qD:=List.getElem?_map ..
@[simp]theorem AN(qs:aM)(i:Nat)(q:Rat):(a_ qs).set i (qD q)=a_ (qs.set i q):=by unfold a_;rw[List.map_set]
@[simp]theorem Kq(g:Fl->Fl)(qs:aM):aG g (a_ qs)=a_ qs:=cf g (rM g) qs
@[simp]theorem LC(g:Fl->Bool)(qs:aM):aP g (a_ qs)=false:=bU g (lH g) qs
theorem tW(n:Nat)(q:Rat):eX (n+1) (qD q)=true:=by
 unfold qD;rw[nP,List.all_cons,List.all_cons,gH,gH];rfl
theorem zc(p q:Rat):ju (qD p) (qD q)=decide (p=q):=by
 unfold qD;rw[uz,ft,ft,zb,oj,oj,Bool.and_true];by_cases h:p=q
 ·subst h;simp
 ·rw[decide_eq_false h];cases e1:decide (p.num=q.num)with
  |false=>rfl
  |true =>
   cases e2:decide ((p.den:Int)=(q.den:Int))with
   |false=>rfl
   |true =>
    refine absurd (Rat.ext (by simpa using e1) ?_) h;have:(p.den:Int)=q.den:=by simpa using e2
    left
@[simp]theorem Sf(q:Rat):Ds (qD q) (.int 0)=ok (.int q.num):=by unfold qD;simp
@[simp]theorem Se(q:Rat):Ds (qD q) (.int 1)=ok (.int q.den):=by unfold qD;simp
theorem oi{t b:Int}(hb:b≠0):t.fdiv (eD t b)=(Rat.divInt t b).num/\b.fdiv (eD t b)=((Rat.divInt t b).den:Int):=by
 obtain⟨t',b',e1,e2,h1,h2,h3,h4⟩:=k9 (t:=t) hb;have hd:=ir (t:=t) hb;have e:Rat.divInt t b=Rat.divInt t' b':=by
  generalize eD t b=d at *;rw[e1,e2];exact Rat.divInt_mul_left hd
 obtain⟨n,rfl⟩:∃n:Nat,b'=(n:Int):=⟨b'.toNat,by left⟩
 have hc:t'.natAbs.Coprime n:=by
  have:Nat.gcd t'.natAbs n=1:=by simpa [Int.gcd]using h4
  exact this
 have hn:n≠0:=by left
 have e3:Rat.divInt t' (n:Int)=⟨t',n,hn,hc⟩:=Rat.mk_eq_divInt.symm;rw[e,e3];exact⟨h1,h2⟩
theorem gf(q:Rat):(q.den:Int)≠0:=by have:=q.den_pos;left
theorem JR(q:Rat):(1:Int)<=q.den:=by have:=q.den_pos;left
theorem ib(q:Rat):Rat.divInt q.num q.den=q:=Rat.num_divInt_den q
theorem kc{t b:Int}(hb:b≠0):(Rat.divInt t b).num.natAbs<=t.natAbs/\(Rat.divInt t b).den<=b.natAbs:=by
 obtain⟨t',b',e1,e2,h1,h2,h3,h4⟩:=k9 (t:=t) hb;obtain⟨g1,g2⟩:=oi (t:=t) hb;have hd:1<=(eD t b).natAbs:=by have:=ir (t:=t) hb;left
 rw[show t.fdiv (eD t b)=t' from h1]at g1;rw[show b.fdiv (eD t b)=b' from h2]at g2;refine⟨?_,?_⟩
 ·rw[<- g1];have:t.natAbs=(eD t b).natAbs*t'.natAbs:=by rw[<- Int.natAbs_mul,<- e1]
  rw[this];exact Nat.le_mul_of_pos_left _ hd
 ·have hz:(Rat.divInt t b).den=b'.natAbs:=by left
  rw[hz];have:b.natAbs=(eD t b).natAbs*b'.natAbs:=by rw[<- Int.natAbs_mul,<- e2]
  rw[this];exact Nat.le_mul_of_pos_left _ hd
theorem Dd(p q:Rat):p+q=Rat.divInt (p.num*q.den+q.num*p.den) (p.den*q.den):=by
 conv=>lhs;rw[<- ib p,<- ib q]
 exact Rat.divInt_add_divInt _ _ (gf p) (gf q)
theorem Dc(p q:Rat):p - q=Rat.divInt (p.num*q.den - q.num*p.den) (p.den*q.den):=by
 conv=>lhs;rw[<- ib p,<- ib q]
 exact Rat.divInt_sub_divInt _ _ (gf p) (gf q)
theorem JS(p q:Rat):p*q=Rat.divInt (p.num*q.num) (p.den*q.den):=by
 conv=>lhs;rw[<- ib p,<- ib q]
 exact Rat.divInt_mul_divInt _ _
def Sm(k:Nat)(q:Rat):Prop:=q.num.natAbs<2 ^ k/\q.den<2 ^ k
theorem Sm.mono{k l:Nat}{q:Rat}(h:Sm k q)(hl:k<=l):Sm l q :=
 ⟨WY h.1 (W8 (by decide) hl),WY h.2 (W8 (by decide) hl)⟩
theorem bF{a b k l:Nat}(h:a<2 ^ k)(h':b<2 ^ l):a*b<2 ^ (k+l):=by
 rw[Nat.pow_add];exact Nat.mul_lt_mul'' h h'
theorem Cy(a b:Int):(a+b).natAbs<=a.natAbs+b.natAbs:=Int.natAbs_add_le a b
theorem Cw(a b:Int):(a - b).natAbs<=a.natAbs+b.natAbs:=by rw[Int.sub_eq_add_neg];exact Int.natAbs_neg b▸Int.natAbs_add_le a (-b)
section
variable {k l:Nat}{p q:Rat}
theorem Sm.den(h:Sm k p)(h':Sm l q):((p.den:Int)*q.den).natAbs<2 ^ (k+l):=by
 rw[Int.natAbs_mul];exact bF (by simpa using h.2) (by simpa using h'.2)
theorem Sm.add(h:Sm k p)(h':Sm l q):Sm (k+l+1) (p+q):=by
 have hb:(p.den:Int)*q.den≠0:=Yp (gf p) (gf q);obtain⟨g1,g2⟩:=kc (t:=p.num*q.den+q.num*p.den) hb;rw[<- Dd]at g1 g2;have n1:(p.num*q.den).natAbs<2 ^ (k+l):=by rw[Int.natAbs_mul];exact bF h.1 (by simpa using h'.2)
 have n2:(q.num*p.den).natAbs<2 ^ (k+l):=by rw[Int.natAbs_mul,Nat.add_comm];exact bF h'.1 (by simpa using h.2)
 have:=Cy (p.num*q.den) (q.num*p.den);have e:2 ^ (k+l+1)=2 ^ (k+l)*2:=Nat.pow_succ ..;have d:=h.den h';exact⟨by left,by left⟩
theorem Sm.sub(h:Sm k p)(h':Sm l q):Sm (k+l+1) (p - q):=by
 have hb:(p.den:Int)*q.den≠0:=Yp (gf p) (gf q);obtain⟨g1,g2⟩:=kc (t:=p.num*q.den - q.num*p.den) hb;rw[<- Dc]at g1 g2;have n1:(p.num*q.den).natAbs<2 ^ (k+l):=by rw[Int.natAbs_mul];exact bF h.1 (by simpa using h'.2)
 have n2:(q.num*p.den).natAbs<2 ^ (k+l):=by rw[Int.natAbs_mul,Nat.add_comm];exact bF h'.1 (by simpa using h.2)
 have:=Cw (p.num*q.den) (q.num*p.den);have e:2 ^ (k+l+1)=2 ^ (k+l)*2:=Nat.pow_succ ..;have d:=h.den h';exact⟨by left,by left⟩
theorem Sm.mul(h:Sm k p)(h':Sm l q):Sm (k+l) (p*q):=by
 have hb:(p.den:Int)*q.den≠0:=Yp (gf p) (gf q);obtain⟨g1,g2⟩:=kc (t:=p.num*q.num) hb;rw[<- JS]at g1 g2;have n1:(p.num*q.num).natAbs<2 ^ (k+l):=by rw[Int.natAbs_mul];exact bF h.1 h'.1
 have d:=h.den h';exact⟨by left,by left⟩
theorem Sm.big(h:Sm k p)(hk:k<=9000):p.num.natAbs<2 ^ 9000/\(p.den:Int).natAbs<2 ^ 9000:=by
 have:=h.mono hk;exact⟨this.1,by simpa using this.2⟩
end
theorem vi{t b:Int}{k:Nat}(hb:b≠0)(h1:t.natAbs<2 ^ k)(h2:b.natAbs<2 ^ k):Sm k (Rat.divInt t b):=by
 obtain⟨g1,g2⟩:=kc (t:=t) hb;exact⟨by left,by left⟩
def dy(d:D):Bool:=fG .int d&&!fG .bool d
def iw(m:aD):Prop:=∀d,m [d]=ok (.bl (dy d))
noncomputable def fN:aj:=[.ret (.and [(.ue (.v 0) .int),(.not (.ue (.v 0) .bool))])]
theorem rq(Φ:aU):iw (mk Φ 1 1 fN):=by
 intro d;simp[mk_eq,fN,dy]
theorem lL(a:Int){b:Int}(h:b≠0):(a.fmod b).natAbs<b.natAbs:=by
 rcases Int.lt_or_gt_of_ne h with hb|hb
 ·have e:=Int.neg_fmod_neg a b;have h1:=Yb (-a) (show 0 < -b by left);have h2:=YB (-a) (show 0 < -b by left);left
 ·have h1:=Yb a hb;have h2:=YB a hb;left
theorem yX(a b:Int):Int.gcd b (a.fmod b)=Int.gcd a b:=by
 rw[Int.fmod_def,Int.gcd_sub_mul_left_right,Int.gcd_comm]
def bq(m:aD):Prop:=∀a b:Int,m [.int a,.int b]=ok (.int (Int.gcd a b))
noncomputable def wK:CS:=.CH (.cmp .ne (.v 1) (.int 0)) [.asg (.nm 2) (.bin .mod (.v 0) (.v 1)),.asg (.nm 0) (.v 1),.asg (.nm 1) (.v 2)]
def cF:aj:=[wK,.ret (.bf .abs [(.v 0)])]
theorem Cf(Φ:aU):∀(n:Nat) (a b:Int) (r:aK),b.natAbs<=n->∃(g:Int) (r':aK),lN Φ wK [some (.int a),some (.int b),r]=ok (.nx,[some (.int g),some (.int 0),r'])/\g.natAbs=Int.gcd a b:=by
 intro n;induction n with
 |zero =>
  intro a b r h;have hb:b=0:=by left
  subst hb;refine⟨a,r,?_,by simp⟩;rw[wK,jF];exact d_ (by simp)
 |succ n ih =>
  intro a b r h;by_cases hb:b=0
  ·subst hb;refine⟨a,r,?_,by simp⟩;rw[wK,jF];exact d_ (by simp)
  ·have fj:=lL a hb;obtain⟨g,r',e,hg⟩:=ih b (a.fmod b) (some (.int (a.fmod b))) (by left);refine⟨g,r',?_,by rw[hg,yX]⟩;rw[wK,jF]at e ⊢;rw[<- e];exact hJ (by simp[hb])
theorem jk(Φ:aU):bq (mk Φ 2 3 cF):=by
 intro a b;obtain⟨g,r',e,hg⟩:=Cf Φ b.natAbs a b none (WV _);have e1:(g.natAbs:Int)=(Int.gcd a b:Int):=by left
 simp[mk_eq,cF,e,e1]
def kE(m:aD):Prop:=∀t b:Int,b≠0->b.natAbs<2 ^ 9000->m [.int t,.int b]=ok (qD (Rat.divInt t b))
def g9(m:aD):Prop:=kE m/\∀t:Int,m [.int t,.int 0]=some (.error 0)
noncomputable def cg:aj:=[.ifs (.cmp .eq (.v 1) (.int 0)) [.rs 0] [],.asg (.nm 2) (.call 1 [(.v 0),(.v 1)]),.ifs (.cmp .lt (.v 1) (.int 0)) [.asg (.nm 2) (.neg (.v 2))] [],.ret (.tup [(.bin .fdiv (.v 0) (.v 2)),(.bin .fdiv (.v 1) (.v 2))])]
theorem kr{t b:Int}(hb:b≠0)(h:b.natAbs<2 ^ 9000)(x:Int):bR .fdiv (.int x) (.int (eD t b))=ok (.int (x.fdiv (eD t b))) :=
 fO (cY (ir hb) (Xe (B3 hb) h))
theorem ml(Φ:aU)(h1:bq (Φ 1)):g9 (mk Φ 2 3 cg):=by
 refine⟨λt b hb h=>?_,λt=>by simp[mk_eq,cg]⟩;obtain⟨e1,e2⟩:=oi (t:=t) hb;unfold bq at h1;have d1:=kr (t:=t) hb h t;have d2:=kr (t:=t) hb h b;rw[qD,<- e1,<- e2];by_cases hn:b<0
 ·have ed:-(Int.gcd t b:Int)=eD t b:=by simp[eD,hn]
  simp[mk_eq,cg,hb,h1,hn,ed,d1,d2]
 ·have ed:(Int.gcd t b:Int)=eD t b:=by simp[eD,hn]
  simp[mk_eq,cg,hb,h1,hn,ed,d1,d2]
noncomputable def jO:D->Bool
 |.tup [.int a,.int b]=>decide (1<=b)&&decide (Int.gcd a b=1)
 |_=>false
theorem BQ(q:Rat):jO (qD q)=true:=by
 have h1:=JR q;have h2:Int.gcd q.num q.den=1:=by
  have:=q.reduced;simpa [Int.gcd]using this
 simp[qD,jO,h1,h2]
def g5(m:aD):Prop:=∀d,m [d]=ok (.bl (jO d))
noncomputable def bG:aj:=[.ifs (.or [(.not (.ue (.v 0) .tuple)),(.cmp .ne (.bf .len [(.v 0)]) (.int 2))]) [.ret (.bl false)] [],.ifs (.or [(.not (.call 0 [(.ix (.v 0) (.int 0))])),(.not (.call 0 [(.ix (.v 0) (.int 1))]))]) [.ret (.bl false)] [],.ret (.and [(.cmp .ge (.ix (.v 0) (.int 1)) (.int 1)),(.cmp .eq (.call 1 [(.ix (.v 0) (.int 0)),(.ix (.v 0) (.int 1))]) (.int 1))])]
theorem jG(g:Fl->Fl)(d:D):dy (aZ g d)=dy d:=by simp[dy]
theorem kJ{d:D}(h:dy d=true):∃i,d=.int i:=by
 cases d<;>simp[dy,fG]at h ⊢
theorem mX{x y:D}(h:dy x=false\/dy y=false):jO (.tup [x,y])=false:=by
 cases x<;>cases y<;>simp[dy,fG]at h<;>rfl
theorem vV(h:ds.length≠2):jO (.tup ds)=false:=by
 unfold jO;split
 ·rename_i e;cases e;simp at h
 ·rfl
theorem mj(Φ:aU)(h0:iw (Φ 0))(h1:bq (Φ 1)):g5 (mk Φ 1 1 bG):=by
 intro d;unfold iw at h0;unfold bq at h1;cases d with
 |tup ds =>
  by_cases hl:ds.length=2
  ·match ds,hl with
   |[x,y],_ =>
    by_cases hx:dy x=true
    ·by_cases hy:dy y=true
     ·obtain⟨a,rfl⟩:=kJ hx;obtain⟨b,rfl⟩:=kJ hy;simp[mk_eq,bG,h0,h1,hx,hy,fG,jO];by_cases hg:a.gcd b=1
      ·simp[hg]
      ·simp[hg];left
     ·simp[mk_eq,bG,h0,hx,hy,fG,jG,mX (.inr (by simpa using hy))]
    ·simp[mk_eq,bG,h0,hx,fG,jG,mX (.inl (by simpa using hx))]
  ·have vL:¬ (ds.length:Int)=2:=by left
   simp[mk_eq,bG,fG,vL,vV hl]
 |_=>simp[mk_eq,bG,fG,jO]
def DT(m:aD):Prop:=∀p q,Sm 4000 p->Sm 4000 q->m [qD p,qD q]=ok (qD (p+q))
def sL(m:aD):Prop:=∀p q,Sm 4000 p->Sm 4000 q->m [qD p,qD q]=ok (qD (p - q))
def fP(m:aD):Prop:=∀p q,Sm 4000 p->Sm 4000 q->m [qD p,qD q]=ok (.bl (decide (p<q)))
noncomputable def uM(f:Nat):aj:=[.ret (.call f [(.bin .add (.bin .mul (.ix (.v 0) (.int 0)) (.ix (.v 1) (.int 1))) (.bin .mul (.ix (.v 1) (.int 0)) (.ix (.v 0) (.int 1)))),(.bin .mul (.ix (.v 0) (.int 1)) (.ix (.v 1) (.int 1)))])]
noncomputable def oO(f:Nat):aj:=[.ret (.call f [(.bin .sub (.bin .mul (.ix (.v 0) (.int 0)) (.ix (.v 1) (.int 1))) (.bin .mul (.ix (.v 1) (.int 0)) (.ix (.v 0) (.int 1)))),(.bin .mul (.ix (.v 0) (.int 1)) (.ix (.v 1) (.int 1)))])]
noncomputable def kD:aj:=[.ret (.cmp .lt (.bin .mul (.ix (.v 0) (.int 0)) (.ix (.v 1) (.int 1))) (.bin .mul (.ix (.v 1) (.int 0)) (.ix (.v 0) (.int 1))))]
section
variable (Φ:aU){f:Nat}(h2:kE (Φ f))
theorem Mb{p q:Rat}(hp:Sm 4000 p)(hq:Sm 4000 q):(p.den:Int)*q.den≠0/\((p.den:Int)*q.den).natAbs<2 ^ 9000 :=
 ⟨Yp (gf p) (gf q),WY (hp.den hq) (W8 (by decide) (by decide))⟩
theorem vw{p q:Rat}(hp:Sm 4000 p)(hq:Sm 4000 q):bR .mul (.int p.num) (.int q.den)=ok (.int (p.num*q.den))/\bR .mul (.int p.num) (.int q.num)=ok (.int (p.num*q.num))/\bR .mul (.int p.den) (.int q.den)=ok (.int (p.den*q.den))/\bR .mul (.int p.den) (.int q.num)=ok (.int (p.den*q.num)):=by
 obtain⟨a,b⟩:=hp.big (by decide);obtain⟨c,d⟩:=hq.big (by decide);exact⟨gY (mulOk_of a d),gY (mulOk_of a c),gY (mulOk_of b d),gY (mulOk_of b c)⟩
include h2
theorem JG:DT (mk Φ 2 2 (uM f)):=by
 intro p q hp hq;obtain⟨a,b,c,d⟩:=vw hp hq;obtain⟨a',b',c',d'⟩:=vw hq hp;obtain⟨n,k⟩:=Mb hp hq;have e:=h2 (p.num*q.den+q.num*p.den) _ n k;rw[<- Dd]at e;simp[mk_eq,uM,a,a',c,e]
theorem ES:sL (mk Φ 2 2 (oO f)):=by
 intro p q hp hq;obtain⟨a,b,c,d⟩:=vw hp hq;obtain⟨a',b',c',d'⟩:=vw hq hp;obtain⟨n,k⟩:=Mb hp hq;have e:=h2 (p.num*q.den - q.num*p.den) _ n k;rw[<- Dc]at e;simp[mk_eq,oO,a,a',c,e]
end
theorem AJ(Φ:aU):fP (mk Φ 2 2 kD):=by
 intro p q hp hq;obtain⟨a,b,c,d⟩:=vw hp hq;obtain⟨a',b',c',d'⟩:=vw hq hp;simp[mk_eq,kD,a,a',Rat.lt_iff]
def Mi(d:D):Prop:=match d with
 |.lst _ ds=>ds.length<=1000000
 |.tup ds=>ds.length<64
 |_=>True
noncomputable def bD(qs:aM):Nat:=qs.foldl (λb q=>Nat.lcm b q.den) 1
theorem yo(b:Nat)(q:Rat):(b:Int).fdiv (Int.gcd b q.den)*q.den=(Nat.lcm b q.den:Nat):=by
 have hg:0<Nat.gcd b q.den:=Nat.gcd_pos_of_pos_right _ q.den_pos;have e:Int.gcd (b:Int) (q.den:Int)=Nat.gcd b q.den:=by simp[Int.gcd]
 rw[e,Int.fdiv_eq_ediv_of_nonneg _ (by left)];have:((b:Int) / (Nat.gcd b q.den:Nat))=((b / Nat.gcd b q.den:Nat):Int):=(Int.natCast_ediv ..).symm;rw[this,Nat.lcm];have hd:Nat.gcd b q.den∣b:=Nat.gcd_dvd_left ..;rw[Nat.mul_comm b,Nat.mul_div_assoc _ hd,Nat.mul_comm];exact(Int.natCast_mul ..).symm
theorem lcm_pos{b:Nat}(hb:0<b)(q:Rat):0<Nat.lcm b q.den:=Nat.lcm_pos hb q.den_pos
theorem t_:∀(qs:aM) (b k j:Nat),0<b->b<2 ^ j->(∀q∈qs,Sm k q)->0<qs.foldl (λb q=>Nat.lcm b q.den) b/\qs.foldl (λb q=>Nat.lcm b q.den) b<2 ^ (j+k*qs.length)/\b∣qs.foldl (λb q=>Nat.lcm b q.den) b/\∀q∈qs,q.den∣qs.foldl (λb q=>Nat.lcm b q.den) b
 |[],b,k,j,h0,h1,_=>⟨h0,by simpa using h1,Nat.dvd_refl _,λq hq=>nomatch hq⟩
 |q::qs,b,k,j,h0,h1,hs=>by
  have hq:=hs q WR;have h2:Nat.lcm b q.den<2 ^ (j+k):=Xe (Nat.lcm_le_mul h0 q.den_pos) (bF h1 hq.2);obtain⟨g1,g2,g3,g4⟩:=t_ qs (Nat.lcm b q.den) k (j+k) (lcm_pos h0 q) h2 λp hp=>hs p (WT _ hp);have e:j+k*(q::qs).length=j+k+k*qs.length:=by rw[List.length_cons,Nat.mul_succ];left
  refine⟨g1,by rw[e];exact g2,Nat.dvd_trans (Nat.dvd_lcm_left ..) g3,λp hp=>?_⟩;rcases List.mem_cons.mp hp with rfl|hp
  ·exact Nat.dvd_trans (Nat.dvd_lcm_right ..) g3
  ·exact g4 p hp
structure zX(k:Nat)(qs:aM):Prop where
 sm:∀q∈qs,Sm k q
 vY:k*qs.length<=3000
 len:qs.length<=1000
variable {qs:aM}
theorem zX.lcm{k:Nat}(h:zX k qs):0<bD qs/\bD qs<2 ^ (1+k*qs.length)/\∀q∈qs,q.den∣bD qs:=by
 obtain⟨g1,g2,_,g4⟩:=t_ qs 1 k 1 (by decide) (by decide) h.sm;exact⟨g1,g2,g4⟩
theorem yi{n j:Nat}(h:n<2 ^ j)(hj:j<=9000):n<2 ^ 9000:=WY h (W8 (by decide) hj)
def dG(m:aD):Prop:=∀f qs k,zX k qs->m [.lst f (a_ qs)]=ok (.int (bD qs))
noncomputable def bO:aj:=[.asg (.nm 1) (.bin .mul (.bin .fdiv (.v 1) (.call 1 [(.v 1),(.ix (.v 2) (.int 1))])) (.ix (.v 2) (.int 1)))]
def cb:aj:=[.asg (.nm 1) (.int 1),.fr (.nm 2) (.seq (.v 0)) bO,.ret (.v 1)]
theorem uL(Φ:aU)(h1:bq (Φ 1))(x:aK):∀(qs:aM) (b k j:Nat) (z:aK),0<b->b<2 ^ j->j+k*qs.length<=8000->(∀q∈qs,Sm k q) ->
  ∃z',eM (λd ρ=>cm (.nm 2) d ρ) (λρ=>bC Φ bO ρ) (a_ qs) [x,some (.int b),z]=ok (.nx,[x,some (.int (qs.foldl (λb q=>Nat.lcm b q.den) b:Nat)),z'])
 |[],b,k,j,z,_,_,_,_=>⟨z,rfl⟩
 |q::qs,b,k,j,z,h0,hb,hj,hs=>by
  have hq:=hs q WR;have h2:Nat.lcm b q.den<2 ^ (j+k):=Xe (Nat.lcm_le_mul h0 q.den_pos) (bF hb hq.2);have e:j+k*(q::qs).length=j+k+k*qs.length:=by rw[List.length_cons,Nat.mul_succ];left
  obtain⟨z',ih⟩:=uL Φ h1 x qs (Nat.lcm b q.den) k (j+k) (some (qD q)) (lcm_pos h0 q) h2 (by left) λp hp=>hs p (WT _ hp);have hg:0<Nat.gcd b q.den:=Nat.gcd_pos_of_pos_right _ q.den_pos;have eg:Int.gcd (b:Int) (q.den:Int)=Nat.gcd b q.den:=by simp[Int.gcd]
  have GC:Nat.gcd b q.den<=b:=XQ h0 (Nat.gcd_dvd_left ..);have SG:b<2 ^ 9000:=yi hb (by left);have d1:bR .fdiv (.int b) (.int (Nat.gcd b q.den:Nat))=ok (.int ((b:Int).fdiv (Nat.gcd b q.den:Nat))):=fO (cY (by left) (by simpa using Nat.lt_of_le_of_lt GC SG));have hm:((b:Int).fdiv (Nat.gcd b q.den:Nat)).natAbs<=b:=by
   rw[Int.fdiv_eq_ediv_of_nonneg _ (by left),<- Int.natCast_ediv];simp;exact Yq ..
  have d2:bR .mul (.int ((b:Int).fdiv (Nat.gcd b q.den:Nat))) (.int q.den)=ok (.int (Nat.lcm b q.den:Nat)):=by
   have:=yo b q;rw[eg]at this;rw[gY (mulOk_of (Nat.lt_of_le_of_lt hm SG) (hq.big (by
    rw[e]at hj;have:k<=j+k+k*qs.length:=by left
    left)).2),this]
  unfold bq at h1;refine⟨z',fM (ρ1:=[x,some (.int b),some (qD q)]) (by simp) (ρ2:=[x,some (.int (Nat.lcm b q.den:Nat)),some (qD q)]) ?_ ih⟩;simp[bO,h1,d1,d2]
theorem jV(Φ:aU)(h1:bq (Φ 1)):dG (mk Φ 1 3 cb):=by
 intro f qs k hs;have hit:fF Φ (.seq (.v 0)) [some (.lst f (a_ qs)),some (.int 1),none]=ok (a_ qs,if (bW (bH f)||false)then[some (.lst (bo f) (a_ qs)),some (.int 1),none]else[some (.lst f (a_ qs)),some (.int 1),none]):=by
  rw[Bu (f:=bH f) (ds:=a_ qs) (by simp)];simp[show fL (.v 0)=[0] from rfl]
 have hk:=hs.vY;have hx:∀x:aK,∃z',eM (λd ρ=>cm (.nm 2) d ρ) (λρ=>bC Φ bO ρ) (a_ qs) [x,some (.int (1:Nat)),none]=ok (.nx,[x,some (.int (bD qs)),z']):=λx=>uL Φ h1 x qs 1 k 1 none (by decide) (by decide) (by left) hs.sm;cases hf:(bW (bH f)||false)with
 |true =>
  rw[hf]at hit;obtain⟨z',e⟩:=hx (some (.lst (bo f) (a_ qs)));have:=iG (t:=.nm 2) (b:=bO) hit e;simp[mk_eq,cb,this]
 |false =>
  rw[hf]at hit;obtain⟨z',e⟩:=hx (some (.lst f (a_ qs)));have:=iG (t:=.nm 2) (b:=bO) hit e;simp[mk_eq,cb,this]
noncomputable def dg(b:Nat)(q:Rat):Int:=q.num*(b:Int).fdiv q.den
theorem tL(q:Rat):(q.num:Rat)=q*(q.den:Rat):=by
 have h:(q.den:Rat)≠0:=by
  have:=q.den_pos;intro z;have:((q.den:Int):Rat)=0:=by rw[Rat.intCast_natCast];exact z
  rw[Rat.intCast_eq_zero_iff]at this;left
 have e:q=(q.num:Rat) / (q.den:Rat):=by
  conv=>lhs;rw[<- ib q,Rat.divInt_eq_div,Rat.intCast_natCast]
 grind
theorem o9{b:Nat}{q:Rat}(h:q.den∣b):((dg b q:Int):Rat)=q*(b:Rat):=by
 obtain⟨c,rfl⟩:=h;have hd:(q.den:Int)≠0:=gf q;unfold dg;rw[Int.natCast_mul,Int.mul_fdiv_cancel_left _ hd,Rat.intCast_mul,tL,Rat.natCast_mul,Rat.intCast_natCast];grind
theorem o8{b:Nat}:∀{qs:aM},(∀q∈qs,q.den∣b)->(((qs.map (dg b)).sum:Int):Rat)=qs.sum*(b:Rat)
 |[],_=>by simp
 |q::qs,h=>by
  rw[List.map_cons,List.sum_cons,List.sum_cons,Rat.intCast_add,o9 (h q List.mem_cons_self),o8 λp hp=>h p (List.mem_cons_of_mem _ hp)];grind
def gw(m:aD):Prop:=∀f qs k (b:Nat),zX k qs->b<2 ^ 8000->m [.lst f (a_ qs),.int b]=ok (.lst .ow (af (qs.map (dg b))))
noncomputable def eR:aj:=[.ret (.comp 1 (.nm 0) [1] .seq [(.v 0)] [] (.bin .mul (.ix (.v 0) (.int 0)) (.bin .fdiv (.v 1) (.ix (.v 0) (.int 1)))))]
theorem AB{k:Nat}(h:zX k qs){q:Rat}(hq:q∈qs):Sm 3000 q:=by
 refine(h.sm q hq).mono ?_;have h1:=h.vY;have h2:0<qs.length:=Xl hq;have:k*1<=k*qs.length:=XR _ h2;left
theorem pO(Φ:aU):gw (mk Φ 2 2 eR):=by
 intro f qs k b hs hb;have Lx:bg Φ (.comp 1 (.nm 0) [1] .seq [(.v 0)] [] (.bin .mul (.ix (.v 0) (.int 0)) (.bin .fdiv (.v 1) (.ix (.v 0) (.int 1))))) [some (.lst f (a_ qs)),some (.int b)]=ok (.lst .ow (af (qs.map (dg b)))):=by
  rw[dD (xs:=[.lst (bH f) (a_ qs)]) (items:=a_ qs) (ds:=qs.map λq=>.int (dg b q)) (by simp) (by rw[dU];simp) (cN λq hq=>?_) (by have:=hs.len;simp;exact cP (by left))]
  ·have:(qs.map λq=>D.int (dg b q))=af (qs.map (dg b)):=by simp[af]
   rw[this,cu]
  ·refine⟨[some (qD q),some (.int b)],by simp[bE],by simp,?_⟩;have h3:=AB hs hq;obtain⟨g1,g2⟩:=h3.big (by decide);have d1:bR .fdiv (.int b) (.int q.den)=ok (.int ((b:Int).fdiv q.den)):=fO (cY (gf q) g2);have d2:bR .mul (.int q.num) (.int ((b:Int).fdiv q.den))=ok (.int (q.num*(b:Int).fdiv q.den)):=by
    refine gY (mulOk_of g1 ?_);rw[Int.fdiv_eq_ediv_of_nonneg _ (by left),<- Int.natCast_ediv];have:=Yq b q.den;have h9:=yi hb (by decide);rw[Int.natAbs_natCast];exact Xe this h9
   simp[d1,d2,dg]
 simp[mk_eq,eR,Lx]
theorem zX.KC{k:Nat}(h:zX k qs):bD qs<2 ^ 8000:=WY h.lcm.2.1 (W8 (by decide) (by have:=h.vY;left))
noncomputable def rZ(n:Int):D->Bool
 |.int i=>decide (0<=i)&&decide (i<n)
 |_=>false
def numsOf(ds:ab):aa:=(intsOf ds).getD []
theorem pY(ns:aa):numsOf (af ns)=ns:=by unfold numsOf af;rw[bI];rfl
def uj(d:D)(n:Int):Bool:=match d with
 |.tup ds=>ds.all (rZ n)&&decide ((qw (numsOf ds)).length=ds.length)
 |_=>false
def zZ(n:Nat)(l:aa):Prop:=l.Pairwise (· < ·)/\∀h∈l,0<=h/\h<(n:Int)
theorem uG:∀(l m:aa),(∀x∈l,x∉m)->l.Nodup->l.foldl (λ(m:aa) (k:Int)=>if m.any (· == k)then m else m++[k]) m=m++l
 |[],m,_,_=>by simp
 |x::l,m,h,hn=>by
  have hx:m.any (· == x)=false:=by
   rw[List.any_eq_false];intro y hy z;have:y=x:=by simpa using z
   exact h x WR (this▸hy)
  rw[List.foldl_cons,hx,if_neg Bool.false_ne_true,uG l (m++[x])]
  ·simp
  ·intro y hy z;rcases List.mem_append.mp z with z|z
   ·exact h y (WT _ hy) z
   ·have:y=x:=by simpa using z
    subst this;exact(List.nodup_cons.mp hn).1 hy
  ·exact(List.nodup_cons.mp hn).2
theorem zZ.nodup{n:Nat}{l:aa}(h:zZ n l):l.Nodup:=h.1.imp λz=>by left
noncomputable def eG(ns:aa)(k:Int):Int :=
 let c:=if k<ns.length then ns.getD k.toNat 0 else 0
 if (10:Int) ^ 18<=c then(c - 10 ^ 18).fmod (10 ^ 60)else
  let n:=(c*48271+k*69621+11).fmod 2147483629
  let n:=(n*n).fmod 2147483587
  n*2147483563+(n*n).fmod 2147483563
def zJ(m:aD):Prop:=∀(ns:aa) (k:Int),0<=k->m [.lst .sc (af ns),.int k]=ok (.int (eG ns k))
noncomputable def dF:aj:=[.asg (.nm 2) (.int 0),.ifs (.cmp .lt (.v 1) (.bf .len [(.v 0)])) [.asg (.nm 2) (.ix (.v 0) (.v 1))] [],.ifs (.cmp .ge (.v 2) (.bin .pow (.int 10) (.int 18))) [.ret (.bin .mod (.bin .sub (.v 2) (.bin .pow (.int 10) (.int 18))) (.bin .pow (.int 10) (.int 60)))] [],.asg (.nm 3) (.bin .mod (.bin .add (.bin .add (.bin .mul (.v 2) (.int 48271)) (.bin .mul (.v 1) (.int 69621))) (.int 11)) (.int 2147483629)),.asg (.nm 3) (.bin .mod (.bin .mul (.v 3) (.v 3)) (.int 2147483587)),.ret (.bin .add (.bin .mul (.v 3) (.int 2147483563)) (.bin .mod (.bin .mul (.v 3) (.v 3)) (.int 2147483563)))]
theorem gK(a:Int){b:Int}(h:0<b):0<=a.fmod b/\a.fmod b<b:=⟨Yb a h,YB a h⟩
theorem wa(Φ:aU)(x:D)(k c:Int)(hx:fG .list x=true)(o:aK):lS (bC Φ (dF.drop 2) [some x,some (.int k),some (.int c),o])=ok (.int (if (10:Int) ^ 18<=c then(c - 10 ^ 18).fmod (10 ^ 60)else
  let n:=(c*48271+k*69621+11).fmod 2147483629
  let n:=(n*n).fmod 2147483587
  n*2147483563+(n*n).fmod 2147483563)):=by
 have p1:bR .pow (.int 10) (.int 18)=ok (.int (10 ^ 18)):=DN (by decide);have p2:bR .pow (.int 10) (.int 60)=ok (.int (10 ^ 60)):=DN (by decide);by_cases h:(10:Int) ^ 18<=c
 ·have h':(1000000000000000000:Int)<=c:=h;simp[dF,p1,p2,h']
 ·have h':¬ (1000000000000000000:Int)<=c:=h;obtain⟨a1,a2⟩:=gK (c*48271+k*69621+11) (b:=2147483629) (by decide);generalize hn:(c*48271+k*69621+11).fmod 2147483629=n at *;obtain⟨a3,a4⟩:=gK (n*n) (b:=2147483587) (by decide);have m1:bR .mul (.int n) (.int n)=ok (.int (n*n)):=gY (nU _ (by left));generalize hm:(n*n).fmod 2147483587=m at *;have m2:bR .mul (.int m) (.int m)=ok (.int (m*m)):=gY (nU _ (by left));simp[dF,p1,h',hn,m1,hm,m2]
theorem ET(Φ:aU):zJ (mk Φ 2 4 dF):=by
 intro ns k hk;have:=λc=>wa Φ (.lst .sc (af ns)) k c rfl none;by_cases h:k<ns.length
 ·have hg:ni (af ns) k=ok (.int (ns.getD k.toNat 0)):=by
   have hl:k.toNat<ns.length:=by left
   rw[at_of hk (d:=.int (ns.getD k.toNat 0)) (by rw[js,List.getElem?_eq_getElem hl,Option.map_some,List.getD_eq_getElem?_getD,List.getElem?_eq_getElem hl];rfl)];simp
  have e:lS (bC Φ dF ([some (D.lst Fl.sc (af ns)),some (D.int k)]++[none,none]))=lS (bC Φ (dF.drop 2) [some (.lst .sc (af ns)),some (.int k),some (.int (ns.getD k.toNat 0)),none]):=by
   rw[dF,g_,sN];simp only[Dr,DG,p_,iV];simp only[List.cons_append,List.nil_append,uU,List.length_cons,List.length_nil,Nat.reduceAdd,Nat.reduceLT,pb,List.set_cons_succ,List.set_cons_zero];rw[g_,IP];simp[h,hg]
  rw[mk_eq (ar:=2) (ds:=[_,_]) rfl];refine(show _=_ from e).trans ?_;rw[this,eG,if_pos h]
 ·have e:lS (bC Φ dF ([some (D.lst Fl.sc (af ns)),some (D.int k)]++[none,none]))=lS (bC Φ (dF.drop 2) [some (.lst .sc (af ns)),some (.int k),some (.int 0),none]):=by
   rw[dF,g_,sN];simp only[Dr,DG,p_,iV];simp only[List.cons_append,List.nil_append,uU,List.length_cons,List.length_nil,Nat.reduceAdd,Nat.reduceLT,pb,List.set_cons_succ,List.set_cons_zero];rw[g_,IP];simp[h]
  rw[mk_eq (ar:=2) (ds:=[_,_]) rfl];refine(show _=_ from e).trans ?_;rw[this,eG,if_neg h]
noncomputable def iI:CS:=.CH (.cmp .gt (.v 3) (.int 0)) [.par 2 3 (.v 3) (.bin .mod (.v 2) (.v 3))]
def i8:aj:=[.asg (.nm 2) (.bf .abs [(.v 0)]),.asg (.nm 3) (.bf .abs [(.v 1)]),iI,.ifs (.cmp .lt (.v 1) (.int 0)) [.asg (.nm 2) (.bin .sub (.int 0) (.v 2))] [],.ret (.tup [(.bin .fdiv (.v 0) (.v 2)),(.bin .fdiv (.v 1) (.v 2))])]
theorem rQ(Φ:aU)(x y:aK):∀(n:Nat) (a b:Nat),b<=n->lN Φ iI [x,y,some (.int a),some (.int b)]=ok (.nx,[x,y,some (.int (Nat.gcd a b)),some (.int 0)]):=by
 intro n;induction n with
 |zero =>
  intro a b h;have hb:b=0:=by left
  subst hb;rw[iI,jF];exact d_ (by simp)
 |succ n ih =>
  intro a b h;by_cases hb:b=0
  ·subst hb;rw[iI,jF];exact d_ (by simp)
  ·have fj:=Nat.mod_lt a (show 0<b by left);have e:=ih b (a % b) (by left);have eg:Nat.gcd b (a % b)=Nat.gcd a b:=by rw[Nat.gcd_comm a b,Nat.gcd_rec b a,Nat.gcd_comm]
   rw[eg]at e;rw[iI,jF]at e ⊢;rw[<- e];have wA:0<b:=by left
   have em:((a:Int)).fmod (b:Int)=((a % b:Nat):Int):=by
    rw[Int.fmod_eq_emod_of_nonneg _ (by left)];exact(Int.natCast_emod a b).symm
   have ep:lN Φ (.par 2 3 (.v 3) (.bin .mod (.v 2) (.v 3))) [x,y,some (.int a),some (.int b)]=ok (.nx,[x,y,some (.int b),some (.int ((a % b:Nat):Int))]):=by
    rw[IM];simp[hb,em]
   exact hJ (by simp[wA,ep])
theorem AI(Φ:aU):kE (mk Φ 2 4 i8):=by
 intro t b hb h;obtain⟨e1,e2⟩:=oi (t:=t) hb;have d1:=kr (t:=t) hb h t;have d2:=kr (t:=t) hb h b;have hl:=rQ Φ (some (.int t)) (some (.int b)) b.natAbs t.natAbs b.natAbs (WV _);rw[qD,<- e1,<- e2];by_cases hn:b<0
 ·have ed:0 - (Nat.gcd t.natAbs b.natAbs:Int)=eD t b:=by simp[eD,hn,Int.gcd]
  have VQ:-(Nat.gcd t.natAbs b.natAbs:Int)=eD t b:=by simp[eD,hn,Int.gcd]
  simp[mk_eq,i8,hl,hn,VQ,d1,d2]
 ·have ed:(Nat.gcd t.natAbs b.natAbs:Int)=eD t b:=by simp[eD,hn,Int.gcd]
  simp[mk_eq,i8,hl,hn,ed,d1,d2]
noncomputable def DQ(qs:aM)(h:Int):Rat:=qs.getD h.toNat 0
theorem uR{h:Int}(h0:0<=h)(h1:h<qs.length):qs[h.toNat]?=some (DQ qs h)/\DQ qs h∈qs:=by
 have hl:h.toNat<qs.length:=by left
 have e:qs[h.toNat]?=some (DQ qs h):=by
  unfold DQ;rw[List.getD_eq_getElem?_getD,List.getElem?_eq_getElem hl];rfl
 exact⟨e,Xd e⟩
theorem vo{q:Rat}(h:0<q):0<q.num:=by
 have:=(Rat.lt_iff 0 q).mp h;simpa using this
theorem zZ.len{n:Nat}{l:aa}(h:zZ n l):l.length<=n:=by
 have hn:(l.map Int.toNat).Nodup:=by
  unfold List.Nodup;rw[List.pairwise_map];refine h.1.imp_of_mem λha hb z e=>?_;have:=h.2 _ ha;have:=h.2 _ hb;left
 have hs:(l.map Int.toNat) ⊆ List.range n:=λx hx=>by
  obtain⟨y,hy,rfl⟩:=List.mem_map.mp hx;have:=h.2 y hy;rw[List.mem_range];left
 have:=hn.length_le_of_subset hs;simpa using this
theorem zZ.eK{n:Nat}{l:aa}(h:zZ n l)(hn:n<=12):Mi (.tup (af l)):=by
 have:=h.len;show(af l).length<64;simp;left
end DI
end
section
namespace DI
open PySem PySem.Spec PyProof.Rows L2
variable {ch:aO}{t':Nat}
section
variable {X:Cx}{pins:ak}{σ:St}{H:Hp}{s:Shared}{h':Heap}
theorem Ai(I:Inv X pins σ H s)(hf:∀b∈ch,l5 X pins H b)(k:∀b u,b∉ch->s.heap.get? b=some u->h'.get? b=some u):Inv X pins σ H { s with heap:=h',toks:=t' }:=by
 have yb:∀b u,H b=some u->b∉ch:=λb u e z=>by rw[(hf b z).1]at e;cases e
 refine I.step (g':=s.gens) (d':=s.drawn) (ch:=ch) (λb hb=>⟨(hf b hb).2.2.2.1,(hf b hb).2.1,(hf b hb).2.2.2.2.1,(hf b hb).2.2.2.2.2⟩) (λb o _ _ hc e _=>k b o hc e) (λb o _ _ hc e _=>⟨o.slots,k b o hc e⟩) (λ_ _ _ _ n=>n)
  (λb o hc e=>⟨o,k b o hc e⟩) (λ_ _ e=>e) (λ_ _ _ e=>e) (λ_ z=>z.keep (λq=>q) (λo tq q=>k _ _ (yb _ _ tq) q) λ_ _ _ q=>q) (λm hm=>?_) (λb u e=>?_) I.bare
 ·obtain⟨o,es,ep,ho,r⟩:=hm;exact⟨o,es,ep,k _ o (λz=>(hf _ z).2.1 rfl) ho,r⟩
 ·refine(I.ck b u e).kO (λc v hc q=>k c v ?_ q) (λ_ q=>q) λ_ _ q=>q;rcases hc with z|z
  ·rw[z];exact yb b u e
  ·exact yb c _ z
theorem Aj{T:Addr}{o:HO}(I:Inv X pins σ H s)(hf:∀b∈ch,l5 X pins H b)(k:∀b u,b∉ch->s.heap.get? b=some u->h'.get? b=some u)(hT:s.heap.objs.size<=T)(new:cA X.prog X.w (upd H T o) h' T o):
  Inv X pins σ (upd H T o) { s with heap:=h',toks:=t' }:=by
 have yb:∀b u,H b=some u->b∉ch:=λb u e z=>by rw[(hf b z).1]at e;cases e
 have hn:H T=none:=I.ck.fresh hT;have ne:∀b (u:Obj),s.heap.get? b=some u->b≠T:=λb u e z=>absurd (WX e) (by rw[z];exact Nat.not_lt.mpr hT);have up:∀b u,H b=some u->upd H T o b=some u:=λb u e=>by rw[aQ (br e hn)];exact e
 refine I.step (g':=s.gens) (d':=s.drawn) (ch:=ch) (λb hb=>⟨(hf b hb).2.2.2.1,(hf b hb).2.1,(hf b hb).2.2.2.2.1,(hf b hb).2.2.2.2.2⟩) (λb o _ _ hc e _=>k b o hc e) (λb o _ _ hc e _=>⟨o.slots,k b o hc e⟩) (λb u _ e n=>by rw[aQ (ne b u e)];exact n)
  (λb o hc e=>⟨o,k b o hc e⟩) (λ_ _ e=>up _ _ e) (λ_ _ _ e=>up _ _ e) (λ_ z=>z.keep (λq=>up _ _ q) (λo tq q=>k _ _ (yb _ _ tq) q) λ_ _ _ q=>up _ _ q) (λm hm=>?_) (uk (λb u e=>?_) hn new) I.bare
 ·obtain⟨o,es,ep,ho,r⟩:=hm;exact⟨o,es,ep,k _ o (λz=>(hf _ z).2.1 rfl) ho,r⟩
 ·refine(I.ck b u e).kO (λc v hc q=>k c v ?_ q) (λ_ q=>q) λ_ _ q=>q;rcases hc with z|z
  ·rw[z];exact yb b u e
  ·exact yb c _ z
end
variable {H H':Hp}
theorem Ak{P:ax}{w:World}{h:Heap}{T:Addr}{x y:V}{u v:Value}(rx:RelV x u)(ry:RelV y v)(e:h.get? T=some { cls:=.type "tuple",data:=.seq #[u,v] }):cA P w H h T (.tup [x,y]) :=
 ⟨by rw[sizeLine_eq];simp,[u,v],.cons rx (.cons ry .nil),⟨_,e,rfl,_,rfl⟩⟩
variable {F R:Addr->Prop}{X:Cx}{cs:aB}{Φ:aU}
theorem rE{a b:Expr}(h:mC X F Φ cs [a,b]):(∃c d,cs=[c,d]/\PE X a (tD X F Φ c)/\PE X b (tD X F Φ d))/\PA X [a,b] (mJ X F Φ cs)/\(∀es,starEach (a::es) X.env=(false,eval a X.env)::starEach es X.env)/\(∀es,starEach (b::es) X.env=(false,eval b X.env)::starEach es X.env):=by
 match cs,h with
 |[c,d],h =>
  obtain⟨h1,h2,_,h3,h4,_,_⟩:=h;exact⟨⟨c,d,rfl,h1,h3⟩,PA.imp (cO h1 (PA.imp (cO h3 (PA.imp eW λ_ _ _ h=>eO h) (h4 _)) λ_ _ _ h=>cU h) (h2 _)) λ_ _ _ h=>cU h,h2,h4⟩
 |[],h=>exact h.elim
 |[_],h=>exact h.2.2.2.elim
 |_::_::_::_,h=>exact h.2.2.2.2.2.2.elim
variable {K:ao}{k':aX}
theorem Rep.TR{k:aX}{v:V}{d:D}(e:aJ H H')(h:Rep (aT K H) (nd K R (λ_=>False) (λ_=>none) H) k v d):Rep (aT K H') (nd K R (λ_=>False) (λ_=>none) H') k' v d :=
 (Rep.nW h (k':=k')).imp (λ_ _ h=>aT.same e h) λ_ _ _ _ h=>nd.same e h
abbrev Rk(h:Heap)(z TI TO a:Addr)(f:Bool):Prop :=
 h.get? z=some { cls:=.type "zip",dict:=none,data:=.fields #[rawInt a,.bool f,.bool false,.ref TI,.ref TO],slots:=#[] }
section
variable {prog:ax}{w:World}{A:ay}{E:aw}{s:Shared}
end
section
variable {prog:ax}{w:World}{A:ay}{E:aw}{s:Shared}
end
structure Zl(h:Heap)(z TI TO i1 i2 l1 l2 S:Addr)(xs ys:aC)(i:Nat):Prop where
 st:(IsZip h z TI TO .none/\∃a b,IsPair h TO a b)\/∃a f oa,Rk h z TI TO a f/\h.get? a=some oa/\S<a
 ti:IsPair h TI (.ref i1) (.ref i2)
 w1:h.IsListIter i1 l1 i
 w2:h.IsListIter i2 l2 i
 q1:h.IsList l1 xs
 q2:h.IsList l2 ys
structure Below(z TI TO i1 i2 l1 l2 S:Addr):Prop where
 D:ZipApart z TI TO i1 i2 l1 l2
 z:z<S
 TI:TI<S
 TO:TO<S
 i1:i1<S
 i2:i2<S
 l1:l1<S
 l2:l2<S
section
variable {prog:ax}{w:World}{A:ay}{E:aw}{s:Shared}{z TI TO i1 i2 l1 l2 S:Addr}{xs ys:aC}{i:Nat}
theorem Zl.keep{h h':Heap}(B:Below z TI TO i1 i2 l1 l2 S)(Z:Zl h z TI TO i1 i2 l1 l2 S xs ys i)(hk:∀b o,b≠S->h.get? b=some o->h'.get? b=some o):Zl h' z TI TO i1 i2 l1 l2 S xs ys i:=by
 have n:∀{b},b<S->b≠S:=λh=>W2 h;refine⟨?_,hk _ _ (n B.TI) Z.ti,Z.w1.at λo e=>hk _ o (n B.i1) e,Z.w2.at λo e=>hk _ o (n B.i2) e,Z.q1.at λo e=>hk _ o (n B.l1) e,Z.q2.at λo e=>hk _ o (n B.l2) e⟩;rcases Z.st with ⟨h1,a,b,h2⟩|⟨a,f,oa,h1,h2,h3⟩
 ·exact .inl ⟨hk _ _ (n B.z) h1,a,b,hk _ _ (n B.TO) h2⟩
 ·exact .inr ⟨a,f,oa,hk _ _ (n B.z) h1,hk _ _ (Xv h3) h2,h3⟩
end
structure WL(xs ys:aC)(lo:Addr)(h:Heap)(as:aO):Prop where
 above:∀a∈as,lo<a
 nd:as.Nodup
 pairs:∀(j:Nat) (a:Addr),as[j]?=some a->∃x y,xs[j]?=some x/\ys[j]?=some y/\IsPair h a x y
section
variable {prog:ax}{w:World}{A:ay}{s:Shared}{R:Result->Shared->Prop}{z TI TO i1 i2 l1 l2 S:Addr}{xs ys:aC}
end
section
variable {prog:ax}{w:World}{A:ay}{E:aw}{s:Shared}{z TI TO i1 i2 l1 l2:Addr}{xs ys:aC}
end
theorem az.DJ{T:j6}{N:gx}{k:aX}:∀(j:Nat) {n:Nat} {vs:ae} {ds:ab},az T N k n vs ds->az T N k (n+j) (vs.drop j) (ds.drop j)
 |0,_,_,_,h=>h
 |j+1,_,_,_,.nil=>.nil
 |j+1,n,_,_,.cons h t=>by
  rw[show n+(j+1)=n+1+j by left];exact az.DJ j t
theorem az.CU{T:j6}{N:gx}{k:aX}:∀(j:Nat) {n:Nat} {vs:ae} {ds:ab},az T N k n vs ds->az T N k n (vs.take j) (ds.take j)
 |0,_,_,_,_=>by rw[List.take_zero,List.take_zero];exact .nil
 |j+1,_,_,_,.nil=>.nil
 |j+1,n,_,_,.cons h t=>.cons h (az.CU j t)
noncomputable def oq{α:Type}(b:Bool)(k:Nat)(xs:List α):List α:=if b then xs.drop k else xs.take k
def JN(K:ao)(b:Bool):V->Option Int->Option Int->Hp->VK->Prop:=λx lo hi H Q=>∃(a:Addr) (xs:ae) (k:Nat),x=.ref a/\de K H a xs/\lo=(if b then some (k:Int)else none)/\hi=(if b then none else some (k:Int))/\k<=xs.length/\∀p,H p=none->Q (.ref p) (upd H p (.lst (oq b k xs)))
theorem tF(b:Bool):Rm X (JN X.K b):=by
 intro pins s σ H x v vl vu lo hi sl Q I rx hs pl pu h;obtain⟨a,xs,k,rfl,hx,rfl,rfl,hk,q⟩:=h;cases rx;obtain⟨its,r,Dh,hz⟩:=I.list hx;have hl:=cK Dh;have hlen:its.length=xs.length:=r.length.symm;refine⟨"list",_,slot_list_getitem.lookup,hl.typeIs,wpAny_getItem_list_slice hl hs pl pu .none (by simp) ?_ (by rw[List.size_toArray,hlen];exact hz)⟩;have e:slicePick its.toArray (if b then some (k:Int)else none) (if b then none else some (k:Int)) none=(oq b k its).toArray:=by
  cases b with
  |true=>exact slicePick_from its.toArray k (by simp;left)
  |false=>exact slicePick_upto its.toArray k (by simp;left)
 have rc:Vals (oq b k xs) (oq b k its):=by
  cases b with
  |true=>exact r.drop k
  |false=>exact r.take k
 have lc:(oq b k xs).length<=xs.length:=by
  cases b with
  |true=>show(xs.drop k).length<=_;rw[List.length_drop];left
  |false=>show(xs.take k).length<=_;rw[List.length_take];left
 rw[e];exact⟨.ref s.heap.objs.size,_,I.F6 (t':=s.toks) rc (Xb lc hz),rfl,q _ I.fresh⟩
def cutD(b:Bool)(xs:ab):O D:=match two xs with
 |some z=>match z.1 with
  |.lst _ ds=>match z.2 with
   |.int k=>if 0<=k/\k<=ds.length then ok (.lst .ow (aG bH (oq b k.toNat ds)))else none
   |_=>none
  |_=>none
 |none=>none
set_option tactic.hygienic true in
theorem Cc{b:Bool}{x y d:D}(h:cutD b [x,y]=ok d):∃(f:Fl) (ds:ab) (k:Nat),x=.lst f ds/\y=.int k/\k<=ds.length/\d=.lst .ow (aG bH (oq b k ds)):=by
 cases x<;>first|exact nk h | (cases h;done) | (cases y<;>first|exact nk h | (cases h;done)|skip)
 obtain⟨⟨h1,h2⟩,h3⟩:=qe h;rename_i f ds k;exact⟨f,ds,k.toNat,rfl,by rw[Int.toNat_of_nonneg h1],by left,h3.symm⟩
noncomputable def IZ(b:Bool)(e:Expr):Option Expr:=match e with
 |.Slice lo hi st _=>match st with
  |none=>match b with
   |true=>match hi with
    |none=>lo
    |some _=>none
   |false=>match lo with
    |none=>hi
    |some _=>none
  |some _=>none
 |_=>none
set_option tactic.hygienic true in
theorem Ad{b:Bool}{e k:Expr}(h:IZ b e=some k):∃p,e=.Slice (if b then some k else none) (if b then none else some k) none p:=by
 cases e<;>first|exact nk h | (cases h;done)|skip
 rename_i lo hi st p;cases st with
 |some _=>cases h
 |none=>cases b with
  |true=>cases hi with
   |some _=>cases h
   |none=>cases h;exact⟨p,rfl⟩
  |false=>cases lo with
   |some _=>cases h
   |none=>cases h;exact⟨p,rfl⟩
def sD(b:Bool)(_:Scope)(_:av)(e:Expr):Option (au):=(oY e).bind λz=>(IZ b z.2).bind λk=>some [z.1,k]
variable {args:au}
theorem v9{b:Bool}{sc:Scope}{bl:av}{e:Expr}(h:sD b sc bl e=some args):∃a k p pos,e=.Subscript a (.Slice (if b then some k else none) (if b then none else some k) none p) pos/\args=[a,k]:=by
 obtain⟨⟨a,s⟩,hv,h⟩:=bT h;obtain⟨k,hw,h⟩:=bT h;cases h;obtain⟨pos,rfl⟩:=gC hv;obtain⟨p,rfl⟩:=Ad hw;exact⟨a,k,p,pos,rfl,rfl⟩
theorem HA{b:Bool}{n:Nat}(hΦ:Φ n=cutD b){sc:Scope}{bl:av}{k:Nat}(L:PX X sc bl k){e:Expr}(he:sD b sc bl e=some args)(hs:mC X F Φ cs args):PE X e (tD X F Φ (.bX n cs))/\PT X e (ff X F Φ (.bX n cs)):=by
 obtain⟨a,ke,p,pos,rfl,rfl⟩:=v9 he;cases cs with
 |nil=>exact hs.elim
 |cons c cs=>cases cs with
  |nil=>exact hs.2.2.2.elim
  |cons c' cs=>cases cs with
   |cons _ _=>exact hs.2.2.2.2.2.2.elim
   |nil =>
    obtain⟨h1,_,_,h2,_,_,_⟩:=hs;have this:PE X (.Subscript a (.Slice (if b then some ke else none) (if b then none else some ke) none p) pos) (tD X F Φ (.bX n [c,c'])):=by
     have go:∀{tl th:TO},PO X (if b then some ke else none) tl->PO X (if b then none else some ke) th->(∀(H1:Hp) (R:ai) (τ:Addr->Option aX) (ρ:aY) (k:Nat) (σ:St) (Q:Option Int->Option Int->Hp->Prop),SI X F R τ ρ σ H1->bg Φ c' ρ=ok (.int k)->(∀H2,aJ H1 H2->Q (if b then some (k:Int)else none) (if b then none else some (k:Int)) H2)->tl σ H1 λl H2=>th σ H2 λu H3=>Q l u H3)->PE X (.Subscript a (.Slice (if b then some ke else none) (if b then none else some ke) none p) pos) (tD X F Φ (.bX n [c,c'])):=by
      intro tl th pl pu hh;refine PE.imp (xR (tF b) h1 pl pu) λσ H Q hq=>?_;obtain⟨R,τ,ρ,d,Si,ev,hq⟩:=hq;obtain⟨xs,cL,ev⟩:=aA ev;obtain⟨x,ex,cL⟩:=aA cL;obtain⟨ys,y_,cL⟩:=aA cL;cases cL;obtain⟨y,ey,y_⟩:=aA y_;cases y_;rw[hΦ]at ev;obtain⟨f,ds,j,rfl,rfl,hj,rfl⟩:=Cc ev;refine tD.intro Si ex λv H1 e1 r1=>hh H1 R τ ρ j σ (λl u H3=>JN X.K b v l u H3 Q) (Si.go e1) ey λH2 e2=>?_;have r2:=(r1.go e2).mono (fv':=fL (.bX n [c,c'])) λi hi=>W0 _ hi;obtain⟨τt,fr,rp⟩:=r2;obtain⟨q,xs,rfl,hn,rs⟩:=rp.oV;have ee:=e1.trans e2;refine⟨q,xs,j,rfl,hn.sq,rfl,rfl,by rw[rs.length];exact hj,λl hl=>hq _ _ (ee.trans (aJ.upd hl)) (bN.p5 (ee.free hl) (ee.trans (aJ.upd hl)) aV ?_)⟩;have rc:∃n',az (aT X.K H2) (nd X.K R (gZ (gP X F) τ (fL (.bX n [c,c']))) τt H2) [] n' (oq b j xs) (oq b j ds):=by
       cases b with
       |true=>exact⟨_,rs.DJ j⟩
       |false=>exact⟨_,rs.CU j⟩
      obtain⟨n',rc⟩:=rc;exact(rc.fY Si fr).imp (λ_ _ h=>aT.same (aJ.upd hl) h) λ_ _ _ _ h=>nd.same (aJ.upd hl) h
     cases b with
     |true =>
      refine go (tN h2) tO λH1 R τ ρ k σ Q Si ek hk=>tD.intro Si ek λv H2 e2 r2=>?_;cases r2.isInt;exact⟨k,rfl,hk H2 e2⟩
     |false =>
      refine go tO (tN h2) λH1 R τ ρ k σ Q Si ek hk=>tD.intro Si ek λv H2 e2 r2=>?_;cases r2.isInt;exact⟨k,rfl,hk H2 e2⟩
    exact⟨this,cJ this λ_=>by cases b<;>rfl⟩
section
open PySem.SeqAt
open PySem.AutoSeq1 (wpAny_loadPart')
open PySem.MeetsSeq PySem.MeetsSeq2 PySem.MeetsSeq3
end
section
variable {α β:Type}
noncomputable def bQ:aq->List α->aa->Option α
 |c'::cs,v::vs,c=>if c'=c then some v else bQ cs vs c
 |_,_,_=>none
noncomputable def setC:aq->List α->aa->α->List α
 |c'::cs,v'::vs,c,v=>(if c'=c then v else v')::setC cs vs c v
 |_,_,_,_=>[]
noncomputable def bc(cs:aq)(c:aa):aq:=if c∈cs then cs else cs++[c]
noncomputable def qJ(cs:aq)(as:List α)(c:aa)(a:α):List α:=if c∈cs then as else as++[a]
def bS(cs:aq)(vs:List α)(c:aa)(v:α):List α:=if c∈cs then setC cs vs c v else vs++[v]
end
section
variable {zs:List (aa×Addr×Value)}{c:aa}
theorem jx:∀(zs:List (aa×Addr×Value)) (c:aa),(atKey zs c).map (·.2)=bQ (zs.map (·.1)) (zs.map (·.2.2)) c
 |[],_=>rfl
 |z::zs,c=>by
  have ih:=jx zs c;unfold atKey at ih ⊢;rw[List.find?_cons];show _=if z.1=c then some z.2.2 else bQ (zs.map (·.1)) (zs.map (·.2.2)) c
  by_cases e:z.1=c
  ·rw[decide_eq_true e,if_pos e];rfl
  ·rw[decide_eq_false e,if_neg e];exact ih
theorem dk:∀(zs:List (aa×Addr×Value)) (c:aa),(atKey zs c).isSome=true ↔ c∈zs.map (·.1)
 |[],c=>by simp[atKey]
 |z::zs,c=>by
  have ih:=dk zs c;unfold atKey at ih ⊢;rw[List.find?_cons,List.map_cons,List.mem_cons];by_cases e:z.1=c
  ·rw[decide_eq_true e];simp[e]
  ·rw[decide_eq_false e];rw[ih];exact⟨.inr,λh=>h.resolve_left λz=>e z.symm⟩
theorem jH(a:Addr)(v:Value):(storedH zs c a v).map (·.1)=bc (zs.map (·.1)) c:=by
 unfold storedH bc;by_cases h:c∈zs.map (·.1)
 ·rw[if_pos ((dk zs c).mpr h),if_pos h,List.map_map];refine W5 λz _=>?_;show(putAt c v z).1=z.1;unfold putAt;split<;>rfl
 ·rw[if_neg (λz=>h ((dk zs c).mp z)),if_neg h,List.map_append];rfl
theorem pv(a:Addr)(v:Value):(storedH zs c a v).map (·.2.1)=qJ (zs.map (·.1)) (zs.map (·.2.1)) c a:=by
 unfold storedH qJ;by_cases h:c∈zs.map (·.1)
 ·rw[if_pos ((dk zs c).mpr h),if_pos h,List.map_map];refine W5 λz _=>?_;show(putAt c v z).2.1=z.2.1;unfold putAt;split<;>rfl
 ·rw[if_neg (λz=>h ((dk zs c).mp z)),if_neg h,List.map_append];rfl
theorem pT(v:Value):∀zs:List (aa×Addr×Value),(zs.map (putAt c v)).map (·.2.2)=setC (zs.map (·.1)) (zs.map (·.2.2)) c v
 |[]=>rfl
 |z::zs=>by
  show(putAt c v z).2.2::((zs.map (putAt c v)).map (·.2.2))=(if z.1=c then v else z.2.2)::setC (zs.map (·.1)) (zs.map (·.2.2)) c v;rw[pT v zs];unfold putAt;by_cases e:z.1=c
  ·rw[if_pos e,if_pos e]
  ·rw[if_neg e,if_neg e]
theorem pj(a:Addr)(v:Value):(storedH zs c a v).map (·.2.2)=bS (zs.map (·.1)) (zs.map (·.2.2)) c v:=by
 unfold storedH bS;by_cases h:c∈zs.map (·.1)
 ·rw[if_pos ((dk zs c).mpr h),if_pos h];exact pT v zs
 ·rw[if_neg (λz=>h ((dk zs c).mp z)),if_neg h,List.map_append];rfl
end
theorem oW{c:aa}{v:V}{u:Value}(r:RelV v u):∀{cs:aq} {xs:ae} {us:ag},Vals xs us->Vals (setC cs xs c v) (setC cs us c u)
 |[],_,_,h=>by cases h<;>exact .nil
 |c'::cs,_,_,h=>by
  cases h with
  |nil=>exact .nil
  |cons h t =>
   refine .cons ?_ (oW r t);show RelV (if c'=c then v else _) (if c'=c then u else _);by_cases e:c'=c
   ·rw[if_pos e,if_pos e];exact r
   ·rw[if_neg e,if_neg e];exact h
theorem mD{v:V}{u:Value}(r:RelV v u):∀{xs:ae} {us:ag},Vals xs us->Vals (xs++[v]) (us++[u])
 |_,_,.nil=>.cons r .nil
 |_,_,.cons h t=>.cons h (mD r t)
theorem wL{cs:aq}{xs:ae}{us:ag}(h:Vals xs us){c:aa}{v:V}{u:Value}(r:RelV v u):Vals (bS cs xs c v) (bS cs us c u):=by
 unfold bS;by_cases e:c∈cs
 ·rw[if_pos e,if_pos e];exact oW r h
 ·rw[if_neg e,if_neg e];exact mD r h
theorem kK:∀{cs:aq} {xs:ae} {us:ag} (_:Vals xs us) (c:aa),lZ (bQ cs xs c) (bQ cs us c)
 |[],_,_,_,_=>by cases ‹Vals _ _› <;> exact True.intro
 |c'::cs,_,_,h,c=>by
  cases h with
  |nil=>exact True.intro
  |cons h t =>
   show lZ (if c'=c then some _ else _) (if c'=c then some _ else _);by_cases e:c'=c
   ·rw[if_pos e,if_pos e];exact h
   ·rw[if_neg e,if_neg e];exact kK t c
variable {pos pos':Pos}
section
variable {X:Cx}{pins:ak}{σ:St}{H:Hp}{s:Shared}{p b:Addr}{cs:aq}{as:aO}{xs:ae}{ep:Nat}{c:aa}{A:ay}{E:aw}
theorem items_int:∀{c:aa} {its:ag},Vals (c.map V.int) its->ItemsAre (intKind X.prog X.w) c its
 |[],_,h=>by cases h;exact .nil
 |i::c,_,h=>by
  cases h with
  |cons h t =>
   obtain⟨t',rfl⟩:=h;exact .cons (by simp[intKind,Value.isInt]) (items_int t)
theorem n5(I:Inv X pins σ H s)(h:aT X.K H b (c.map V.int)):(tupleKind (intKind X.prog X.w)).is s.heap c b:=by
 obtain⟨its,rv,⟨o,h1,h2,n,h3⟩,_⟩:=I.tuple h;exact⟨o,its.toArray,n,h1,h2,h3,by simpa using items_int rv⟩
theorem oo(I:Inv X pins σ H s)(h:H p=some (.ext (DO p cs as xs ep)))(k:dw (aT X.K H) as cs):
  ∃(zs:List (aa×Addr×Value)) (o:Obj) (es:Array DictEntry),zs.map (·.1)=cs/\zs.map (·.2.1)=as/\Vals xs (zs.map (·.2.2))/\s.heap.get? p=some o/\o.ExactDict/\o.data=.dict es ep /\
   s.heap.DictOfH (tupleKind (intKind X.prog X.w)) p zs/\es.toList=zs.map (entryOfKey (tupleKind (intKind X.prog X.w)))/\cs.length<=sizeLine/\(p==sysModules)=false:=by
 obtain⟨⟨zs,o,es,e1,e2,e3,ho,hx,hd,he,hn,hl,hs⟩,_⟩:=(show cA X.prog X.w H s.heap p (.ext (DO p cs as xs ep)) from I.ck p _ h)
 refine⟨zs,o,es,e1,e2,e3,ho,hx,hd,⟨o,es,ep,ho,hx,hd,he,λz hz=>?_,by rw[e1];exact hn⟩,he,hl,hs⟩;obtain⟨j,hj⟩:=List.mem_iff_getElem?.mp hz;exact n5 I (k.tup j z.2.1 z.1 (by rw[<- e2,List.getElem?_map,hj];rfl) (by rw[<- e1,List.getElem?_map,hj];rfl))
theorem dict_cls(I:Inv X pins σ H s)(h:H p=some (.ext (DO p cs as xs ep))):s.TypeIs (.ref p) "dict" /\ ∀b,Value.ref p=.ref b->∃ob,s.heap.get? b=some ob/\ob.dict=none:=by
 obtain⟨⟨zs,o,es,e1,e2,e3,ho,hx,_⟩,_⟩:=(show cA X.prog X.w H s.heap p (.ext (DO p cs as xs ep)) from I.ck p _ h)
 exact⟨⟨o,ho,hx.1⟩,λb q=>by cases q;exact⟨o,ho,hx.2.1⟩⟩
theorem Ca{d:V}{r:Value}{Q:aw}(hu:A.units+1<cLine)(I:Inv X pins σ H s)(h:H p=some (.ext (DO p cs as xs ep)))(k:dw (aT X.K H) as cs)(hb:aT X.K H b (c.map V.int))(rd:RelV d r)(hQ:∀w' s',Inv X pins σ H s'->RelV ((bQ cs xs c).getD d) w'->Q w' s'):
  wpAny (model X.prog X.w) A (call (.builtin "dict.get") [.ref p,.ref b,r]) Q E s:=by
 obtain⟨zs,o,es,e1,e2,e3,ho,hx,hd,dd,_,hl,hs⟩:=oo I h k;refine call_meetsIn PySem.F.slot_dict_get dd.typeIs PySem.F.entry_dict_get (PySem.F.args_dict_get_3 _ _ _) (meetsH_dict_get_default (tupleKind (intKind X.prog X.w)) p b hs r) ⟨YC hu,c,zs,n5 I hb,dd,hQ _ _ (I.tok _) ?_⟩;rw[jx,e1];have hg:=kK (cs:=cs) e3 c;cases q:bQ cs xs c with
 |none =>
  rw[q]at hg;rw[lZ.none_of hg];exact rd
 |some v =>
  rw[q]at hg;obtain⟨u,Ir,ru⟩:=lZ.some_of hg;rw[Ir];exact ru
theorem sr{v:V}{r:Value}{Q:Unit->Shared->Prop}(hu:A.units+1<cLine)(I:Inv X pins σ H s)(h:H p=some (.ext (DO p cs as xs ep)))(k:dw (aT X.K H) as cs)(hb:aT X.K H b (c.map V.int))(rv:RelV v r)(fj:cs.length<sizeLine)
  (hQ:∀qR s',Inv X pins σ (upd H p (.ext (DO p (bc cs c) (qJ cs as c b) (bS cs xs c v) qR))) s'->Q () s') :
  wpAny (model X.prog X.w) A (setItem (.ref p) (.ref b) r) Q E s:=by
 obtain⟨zs,o,es,e1,e2,e3,ho,hx,hd,dd,_,hl,hs⟩:=oo I h k;have hz:zs.length<=sizeLine:=by rw[<- e1,List.length_map]at hl;exact hl
 refine wpAny_setItem_heap (hsz:=hz) (YC hu) (n5 I hb) dd λh' V0 rX=>?_;obtain⟨q,L4,qR,hq,h2,h3,h4,_,h5⟩:=V0;refine hQ qR _ (I.write (x:=p) (e:=p) (by rw[h];exact True.intro) (.inl rfl) (λb q hb z=>(rX.2 b hb).trans z) ⟨q,hq⟩ ⟨⟨storedH zs c b r,q,L4,?_,?_,?_,hq,h2,h3,h4,?_,?_,hs⟩,⟨q,hq⟩,?_⟩)
 ·rw[jH,e1]
 ·rw[pv,e1,e2]
 ·rw[pj,e1];exact wL e3 rv
 ·rw[<- e1,<- jH (zs:=zs) (c:=c) b r];exact h5
 ·unfold bc;split
  ·exact hl
  ·rw[List.length_append,List.length_singleton];left
 ·rintro h1 VB ⟨MF,o',es'',f1,f2,f3,f4,f5⟩ kk;exact⟨MF,o',es'',f1,f2,f3,kk _ f4,f5⟩
theorem AW:PE X (.Dict [] [] pos) (λ_ H Q=>∀p,H p=none->Q (.ref p) (upd H p (.ext (DO p [] [] [] 0)))):=λpins s σ H Q I h=>by
 have Qp:sysModules<s.heap.objs.size:=Yr (by decide) (show mainGlobals<s.heap.objs.size from(I.mod.glob.keeps I.bk).lt);refine wpAny_Dict_empty ⟨.ref s.heap.objs.size,_,I.laid (a:=s.heap.objs.size) (o:=.ext (DO s.heap.objs.size [] [] [] 0)) (t':=s.toks) (λ_ _ q=>WQ _ q) (WV _) ?_,rfl,h _ (I.ck.fresh (WV _))⟩;have hg:(s.heap.push { cls:=.type "dict",data:=.dict #[] }).get? s.heap.objs.size=some { cls:=.type "dict",data:=.dict #[] }:=WZ _ rfl;refine⟨⟨[],_,#[],rfl,rfl,.nil,hg,⟨rfl,rfl,rfl⟩,rfl,rfl,Yy,W6 _,beq_eq_false_iff_ne.mpr (YH (W2 Qp))⟩,⟨_,hg⟩,?_⟩;rintro h1 VB ⟨MF,o',es'',f1,f2,f3,f4,f5⟩ kk;exact⟨MF,o',es'',f1,f2,f3,kk _ f4,f5⟩
end
variable {N:gx}{T:j6}
theorem iR{N':gx}{k:aX}{v:V}{d:D}(h:Rep T N k v d)(hf:aS anyF d=false):Rep T N' k' v d:=by
 have:=Rep.gen (T':=T) (N':=N') (g:=id) (P:=anyF) (C:=λ_ _=>True) (I:=λ_ _=>True) (λ_ _ h=>h) trivial (λ_ _ e=>e) (λ_ _ _ _ e _=>e) (λk k' p xs f _ hz _=>nomatch hz) h (k':=k') trivial hf;rw[dS]at this;exact this
theorem kY{T:j6}{N:gx}:∀{cs:aq} {k:aX} {n:Nat} {xs:ae} {ds:ab} (_:az T N k n xs ds) (c:aa),(bQ cs xs c=none/\bQ cs ds c=none)\/∃v d k',bQ cs xs c=some v/\bQ cs ds c=some d/\Rep T N k' v d/\d∈ds
 |[],_,_,_,_,_,_=>by cases ‹az _ _ _ _ _ _› <;> exact .inl ⟨rfl,rfl⟩
 |c'::cs,_,_,_,_,r,c=>by
  cases r with
  |nil=>exact .inl ⟨rfl,rfl⟩
  | @cons _ _ v d vs ds h t =>
   by_cases e:c'=c
   ·exact .inr ⟨v,d,_,Xf e,Xf e,h,WR⟩
   ·have e1:∀{α:Type} (a:α) (l:List α),bQ (c'::cs) (a::l) c=bQ cs l c:=λa l=>Xs e;rw[e1,e1];rcases kY (cs:=cs) t c with h|⟨v',d',k',h1,h2,h3,h4⟩
    ·exact .inl h
    ·exact .inr ⟨v',d',k',h1,h2,h3,WT _ h4⟩
theorem mU{p:Fl->Bool}:∀{ds:ab},aP p ds=false->∀d∈ds,aS p d=false
 |[],_,_,h=>nomatch h
 |d::ds,h,d',hd=>by
  have h:=Dk h;rcases List.mem_cons.mp hd with rfl|hd
  ·exact h.1
  ·exact mU h.2 d' hd
theorem pQ{T:j6}{N:gx}{c:aa}{v:V}{d:D}(hv:∀k,Rep T N k v d):∀{cs:aq} {k:aX} {n:Nat} {xs:ae} {ds:ab},az T N k n xs ds->az T N k n (setC cs xs c v) (setC cs ds c d)
 |[],_,_,_,_,r=>by cases r<;>exact .nil
 |c'::cs,_,_,_,_,r=>by
  cases r with
  |nil=>exact .nil
  |cons h t =>
   refine .cons ?_ (pQ hv t);show Rep _ _ _ (if c'=c then v else _) (if c'=c then d else _);by_cases e:c'=c
   ·rw[if_pos e,if_pos e];exact hv _
   ·rw[if_neg e,if_neg e];exact h
theorem mL{T:j6}{N:gx}{v:V}{d:D}(hv:∀k,Rep T N k v d):∀{k:aX} {n:Nat} {xs:ae} {ds:ab},az T N k n xs ds->az T N k n (xs++[v]) (ds++[d])
 |_,_,_,_,.nil=>.cons (hv _) .nil
 |_,_,_,_,.cons h t=>.cons h (mL hv t)
variable {ds xs:ab}
theorem xE{c:aa}{v:V}{d:D}(hv:∀k,Rep T N k v d){cs:aq}{k:aX}{n:Nat}{xs:ae}(r:az T N k n xs ds):az T N k n (bS cs xs c v) (bS cs ds c d):=by
 unfold bS;by_cases e:c∈cs
 ·rw[if_pos e,if_pos e];exact pQ hv r
 ·rw[if_neg e,if_neg e];exact mL hv r
theorem yu{as:aO}{cs:aq}(k:dw T as cs){b:Addr}{c:aa}(hb:T b (c.map V.int)):dw T (qJ cs as c b) (bc cs c):=by
 unfold qJ bc;by_cases e:c∈cs
 ·rw[if_pos e,if_pos e];exact k
 ·rw[if_neg e,if_neg e];refine⟨by rw[List.length_append,List.length_append,k.len];rfl,λj a c' ha hc=>?_⟩;by_cases hj:j<as.length
  ·rw[List.getElem?_append_left hj]at ha;rw[List.getElem?_append_left (by rw[<- k.len];exact hj)]at hc;exact k.tup j a c' ha hc
  ·rw[List.getElem?_append_right (by left)]at ha;rw[List.getElem?_append_right (by rw[<- k.len];left),<- k.len]at hc;cases hz:j - as.length with
   |zero =>
    rw[hz]at ha hc;cases ha;cases hc;exact hb
   |succ m=>rw[hz]at ha;cases ha
variable {τ:Addr->Option aX}
theorem bN.newD{G:Addr->Prop}{fv:aH}{p:Addr}(hp:H p=none)(hl:H' p=some (.ext (DO p [] [] [] 0))):bN K G R τ fv H H' (.ref p) (.cE .ow [] []):=by
 refine⟨λq=>if q=p then some []else none,λq k hq=>?_,.cE (ep:=0) (as:=[]) (xs:=[]) ⟨hl,by simp⟩ ⟨rfl,λj a c h=>by simp at h⟩ .nil⟩;by_cases rY:q=p
 ·subst rY;exact hp
 ·simp[rY]at hq
noncomputable def uE(xs:ab):O D:=match xs with
 |[]=>ok (.cE .ow [] [])
 |_::_=>none
noncomputable def oA(_:Scope)(_:av)(e:Expr):Option (au):=match e with
 |.Dict [] [] _=>some []
 |_=>none
theorem B6{n:Nat}(hΦ:Φ n=uE){sc:Scope}{bl:av}{k:Nat}(L:PX X sc bl k){e:Expr}(he:oA sc bl e=some args)(hs:mC X F Φ cs args):PE X e (tD X F Φ (.bX n cs))/\PT X e (ff X F Φ (.bX n cs)):=by
 have h1:∃pos,e=.Dict [] [] pos/\args=[]:=by
  unfold oA at he;split at he
  ·cases he;exact⟨_,rfl,rfl⟩
  ·cases he
 obtain⟨pos,rfl,rfl⟩:=h1;cases cs with
 |cons _ _=>exact hs.elim
 |nil =>
  have this:PE X (.Dict [] [] pos) (tD X F Φ (.bX n [])):=by
   refine PE.imp (AW (X:=X) (pos:=pos)) λσ H Q hq p hp=>?_;obtain⟨R,τ,ρ,d,Si,ev,hq⟩:=hq;have ev:Φ n []=ok d:=ev;rw[hΦ]at ev;cases ev;exact hq _ _ (aJ.upd hp) (bN.newD hp aV)
  exact⟨this,cJ this λ_=>rfl⟩
noncomputable def three{α:Type}:List α->Option (α×α×α)
 |[a,b,c]=>some (a,b,c)
 |_=>none
theorem o_{α:Type}{l:List α}{z:α×α×α}(h:three l=some z):l=[z.1,z.2.1,z.2.2]:=by
 rcases l with _|⟨a,_|⟨b,_|⟨c,_|⟨d,l⟩⟩⟩⟩<;>cases h;rfl
noncomputable def gu:D->Option (aq×ab)
 |.cE _ cs vs=>some (cs,vs)
 |_=>none
def keyOf:D->Option (aa)
 |.tup ks=>intsOf ks
 |_=>none
theorem lV{d:D}{z:aq×ab}(h:gu d=some z):∃f,d=.cE f z.1 z.2:=by
 cases d<;>first | (cases h;done) | (cases h;exact⟨_,rfl⟩)
theorem lq{d:D}{c:aa}(h:keyOf d=some c):d=.tup (c.map D.int):=by
 cases d<;>first | (cases h;done)|skip
 rw[fi (show intsOf _=some c from h)]
def v7(xs:ab):O D:=match two xs with
 |some z=>match gu z.1 with
  |some d=>match keyOf z.2 with
   |some c=>match bQ d.1 d.2 c with
    |some v=>if aS anyF v=false then ok v else none
    |none=>none
   |none=>none
  |none=>none
 |none=>none
theorem B9{r:D}(h:v7 xs=ok r):∃f cs vs c,xs=[.cE f cs vs,.tup (c.map D.int)]/\bQ cs vs c=some r/\aS anyF r=false:=by
 unfold v7 at h;cases h1:two xs with
 |none=>rw[h1]at h;cases h
 |some z =>
  rw[h1]at h;have h:(match gu z.1 with|some d=>(match keyOf z.2 with|some c=>(match bQ d.1 d.2 c with|some v=>if aS anyF v=false then ok v else none|none=>none)|none=>none)|none=>none)=ok r:=h;cases h2:gu z.1 with
  |none=>rw[h2]at h;cases h
  |some d =>
   rw[h2]at h;have h:(match keyOf z.2 with|some c=>(match bQ d.1 d.2 c with|some v=>if aS anyF v=false then ok v else none|none=>none)|none=>none)=ok r:=h;cases h3:keyOf z.2 with
   |none=>rw[h3]at h;cases h
   |some c =>
    rw[h3]at h;have h:(match bQ d.1 d.2 c with|some v=>if aS anyF v=false then ok v else none|none=>none)=ok r:=h;cases h4:bQ d.1 d.2 c with
    |none=>rw[h4]at h;cases h
    |some v =>
     rw[h4]at h;obtain⟨hf,rfl⟩:=qe (show(if aS anyF v=false then ok v else none)=ok r from h);obtain⟨f,e1⟩:=lV h2;exact⟨f,d.1,d.2,c,by rw[hV h1,e1,lq h3],h4,hf⟩
def OQ(K:ao):R2:=λx y H Q=>∃p b cs as xs ep c v,x=.ref p/\y=.ref b/\H p=some (.ext (DO p cs as xs ep))/\dw (aT K H) as cs/\aT K H b (c.map V.int)/\bQ cs xs c=some v/\Q v H
theorem Bp(hu:X.A.units+1<cLine):DY X (OQ X.K):=by
 intro value slice pins s σ H x y v u Q I rx ry h hs;obtain⟨p,b,cs,as,xs,ep,c,w,rfl,rfl,hp,hk,hb,hg,q⟩:=h;cases rx;cases ry;obtain⟨zs,o,es,e1,e2,e3,ho,hx,hd,dd,_,hl,K2⟩:=oo I hp hk;have Sz:=kK (cs:=cs) e3 c;rw[hg]at Sz;obtain⟨u,Ir,ru⟩:=lZ.some_of Sz;have:(atKey zs c).map (·.2)=some u:=by rw[jx,e1];exact Ir
 obtain⟨q',UY,rfl⟩:=Option.map_eq_some_iff.mp this;exact X9 (x:=q'.2) dd.typeIs PySem.F.slot_dict_getitem.lookup
  (wpAny_getItem_heap (Q:=λr s'=>r=q'.2/\EP X pins σ Q r s') (YC hu) (n5 I hb) dd UY ⟨rfl,w,H,I.tok _,ru,q⟩) hs
def sA(_:Scope)(_:av)(e:Expr):Option (au):=match oY e with
 |some z=>some [z.1,z.2]
 |none=>none
theorem Hz{n:Nat}(hΦ:Φ n=v7){sc:Scope}{bl:av}{k:Nat}(L:PX X sc bl k){e:Expr}(he:sA sc bl e=some args)(hs:mC X F Φ cs args):PE X e (tD X F Φ (.bX n cs))/\PT X e (ff X F Φ (.bX n cs)):=by
 unfold sA at he;cases h1:oY e with
 |none=>rw[h1]at he;cases he
 |some z =>
  rw[h1]at he;cases he;obtain⟨pos,rfl⟩:=gC h1;obtain⟨⟨c1,c2,rfl,p1,p2⟩,_⟩:=rE hs;have this:PE X (.Subscript z.1 z.2 pos) (tD X F Φ (.bX n [c1,c2])):=by
   refine PE.imp (xT (Bp (yI L.room)) p1 p2 hs.2.2.2.2.2.1) λσ H Q hq=>?_;obtain⟨R,τ,ρ,d,Si,ev,hq⟩:=hq;obtain⟨xs,cL,ev⟩:=aA ev;rw[hΦ]at ev;obtain⟨f,cs,vs,c,rfl,hg,hf⟩:=B9 ev;obtain⟨x,ex,cL⟩:=aA cL;obtain⟨ys,y_,cL⟩:=aA cL;obtain⟨y,ey,QQ⟩:=aA y_;cases QQ;cases cL;refine tD.intro Si ex λv H1 e1 r1=>tD.intro (Si.go e1) ey λu H2 e2 r2=>?_;obtain⟨τ1,f1,q1⟩:=r1;obtain⟨τ2,f2,q2⟩:=r2;cases q1 with
   |cE hn hk hr=>cases q2 with
    |tup ht K5 =>
     cases K5.ofInts;rcases kY hr c with ⟨_,hz⟩|⟨w,d',k',g1,g2,g3,_⟩
     ·rw[hg]at hz;cases hz
     ·rw[hg]at g2;cases g2;refine⟨_,_,_,_,_,_,c,w,rfl,rfl,e2 _ _ hn.dat,hk.imp λ_ _ h=>aT.same e2 h,ht,g1,hq w H2 (e1.trans e2) ⟨λ_=>none,λ_ _ h=>by simp at h,?_⟩⟩;exact(iR (N':=nd X.K R (gZ (gP X F) τ (fL (.bX n [c1,c2]))) (λ_=>none) H1) (k':=[]) g3 hf).imp (λ_ _ h=>aT.same e2 h) λ_ _ _ _ h=>nd.same e2 h
  exact⟨this,cJ this λ_=>rfl⟩
def m6(xs:ab):O D:=match three xs with
 |some z=>match gu z.1 with
  |some d=>match keyOf z.2.1 with
   |some c=>if aP anyF d.2=false/\aS anyF z.2.2=false then ok ((bQ d.1 d.2 c).getD z.2.2)else none
   |none=>none
  |none=>none
 |none=>none
theorem zp{r:D}(h:m6 xs=ok r):∃f cs vs c x,xs=[.cE f cs vs,.tup (c.map D.int),x]/\aP anyF vs=false/\aS anyF x=false/\r=(bQ cs vs c).getD x:=by
 unfold m6 at h;cases h1:three xs with
 |none=>rw[h1]at h;cases h
 |some z =>
  rw[h1]at h;have h:(match gu z.1 with|some d=>(match keyOf z.2.1 with|some c=>if aP anyF d.2=false/\aS anyF z.2.2=false then ok ((bQ d.1 d.2 c).getD z.2.2)else none|none=>none)|none=>none)=ok r:=h;cases h2:gu z.1 with
  |none=>rw[h2]at h;cases h
  |some d =>
   rw[h2]at h;have h:(match keyOf z.2.1 with|some c=>if aP anyF d.2=false/\aS anyF z.2.2=false then ok ((bQ d.1 d.2 c).getD z.2.2)else none|none=>none)=ok r:=h;cases h3:keyOf z.2.1 with
   |none=>rw[h3]at h;cases h
   |some c =>
    rw[h3]at h;obtain⟨⟨hf,hx⟩,rfl⟩:=qe (show(if aP anyF d.2=false/\aS anyF z.2.2=false then ok ((bQ d.1 d.2 c).getD z.2.2)else none)=ok r from h);obtain⟨f,e1⟩:=lV h2;exact⟨f,d.1,d.2,c,z.2.2,by rw[o_ h1,e1,lq h3],hf,hx,rfl⟩
def oB(_:Scope)(_:av)(e:Expr):Option (au):=(wO ("get" : Str) (.Expr e ⟨0,0,0,0⟩)).bind λz=>(two z.2).bind λy=>if isNm z.1=true then some [z.1,y.1,y.2]else none
theorem sC{sc:Scope}{bl:av}{e:Expr}(h:oB sc bl e=some args):∃x p p1 p2 a b,e=.Call (.Attribute (.Name x p) ("get" : Str) p1) [a,b] [] p2/\args=[.Name x p,a,b]/\(p1.endLine==p2.line)=true:=by
 obtain⟨⟨o,as⟩,h1,h⟩:=bT h;obtain⟨⟨a,b⟩,h3,h⟩:=bT h;obtain⟨hn,h⟩:=gT h;cases h;obtain⟨x,p,rfl⟩:=ki hn;obtain rfl:=hV h3;obtain⟨p1,p2,pos,e1,hl⟩:=oZ h1;cases e1;exact⟨x,p,p1,p2,a,b,rfl,rfl,hl⟩
theorem vt{x:Str}{p p1 p2:Pos}{a b:Expr}{td:TE}{ta:TA}(hu:X.A.units+1<cLine)(ho:PE X (.Name x p) td)(ha:PA X [a,b] ta)(s1:∀es,starEach (a::es) X.env=(false,eval a X.env)::starEach es X.env)(s2:∀es,starEach (b::es) X.env=(false,eval b X.env)::starEach es X.env)(hl:(p1.endLine==p2.line)=true):
  PE X (.Call (.Attribute (.Name x p) ("get" : Str) p1) [a,b] [] p2) (λσ H Q=>td σ H λv H1=>∃q cs as xs ep,v=.ref q/\H1 q=some (.ext (DO q cs as xs ep))/\ta σ H1 λys H2=>∃k c z,ys=[.ref k,z]/\H2 q=some (.ext (DO q cs as xs ep))/\dw (aT X.K H2) as cs/\aT X.K H2 k (c.map V.int)/\Q ((bQ cs xs c).getD z) H2):=by
 intro pins s σ H Q I h;refine wpAny_Call_method rfl (by rw[s1,s2];rfl) hl PySem.F.plainAttrs_dict PySem.F.slot_dict_get PySem.F.type_dict_get (cH (ho pins s σ H _ I h) λu Ue bJ=>?_);obtain⟨v,H1,I1,rx,q,cs,as,xs,ep,ex,hd,q1⟩:=bJ;subst ex;obtain rfl:u=Value.ref q:=rx;obtain⟨t1,t2⟩:=dict_cls I1 hd;refine⟨t1,t2,?_⟩;have hA:=ha p2 pins Ue σ H1 _ I1 q1;rw[s1]at hA ⊢;refine Ya (by show(false||(backTo p2 (starEach [b] X.env)).any (·.1))=false;rw[s2];rfl) (Calls.evalArgs_plain ?_);refine cH hA λus s3 bJ=>?_;obtain⟨ys,H2,I2,r2,k,c,z,ey,hd2,hk,hb,q2⟩:=bJ;subst ey;obtain⟨w1,w2,rfl,Uh,Ug⟩:=vals2 r2;cases Uh;exact Ca hu I2 hd2 hk hb Ug λw' s4 I4 h_=>⟨_,H2,I4,h_,q2⟩
theorem B_{n:Nat}(hΦ:Φ n=m6){sc:Scope}{bl:av}{k:Nat}(L:PX X sc bl k){e:Expr}(he:oB sc bl e=some args)(hs:mC X F Φ cs args):PE X e (tD X F Φ (.bX n cs))/\PT X e (ff X F Φ (.bX n cs)):=by
 obtain⟨x,p,p1,p2,a,b,rfl,rfl,hl⟩:=sC he;cases cs with
 |nil=>exact hs.elim
 |cons c0 cs =>
  obtain⟨h0,_,_,vK⟩:=hs;obtain⟨⟨c1,c2,rfl,_,_⟩,pa,s1,s2⟩:=rE vK;have this:PE X (.Call (.Attribute (.Name x p) ("get" : Str) p1) [a,b] [] p2) (tD X F Φ (.bX n [c0,c1,c2])):=by
   refine PE.imp (vt (yI L.room) h0 pa s1 s2 hl) λσ H Q hq=>?_;obtain⟨R,τ,ρ,d,Si,ev,hq⟩:=hq;obtain⟨xs,cL,ev⟩:=aA ev;rw[hΦ]at ev;obtain⟨f,cs,vs,c,y,rfl,hf,hy,rfl⟩:=zp ev;obtain⟨x0,ex,cL⟩:=aA cL;obtain⟨ys,y_,cL⟩:=aA cL;cases cL;refine tD.intro Si ex λv H1 e1 r1=>?_;obtain⟨τ1,f1,q1⟩:=r1;cases q1 with
   |cE hn hk hr =>
    refine⟨_,_,_,_,_,rfl,hn.dat,R,τ,ρ,_,Si.go e1,y_,λus H2 e2 r2=>?_⟩;obtain⟨τ2,f2,q2⟩:=r2;obtain⟨u1,u2,rfl,Ul,Uk⟩:=q2.two;obtain⟨_,_,rfl,ht,K5⟩:=Ul.D5;cases K5.ofInts;refine⟨_,c,u2,rfl,e2 _ _ hn.dat,hk.imp λ_ _ h=>aT.same e2 h,ht,?_⟩;refine hq _ H2 (e1.trans e2) ⟨λ_=>none,λ_ _ h=>by simp at h,?_⟩;rcases kY hr c with ⟨g1,g2⟩|⟨w,d',k',g1,g2,g3,g4⟩
    ·rw[g1,g2];exact iR (T:=aT X.K H2) Uk hy
    ·rw[g1,g2];exact(iR (N':=nd X.K R (gZ (gP X F) τ (fL (.bX n [c0,c1,c2]))) (λ_=>none) H1) (k':=[]) g3 (mU hf _ g4)).imp (λ_ _ h=>aT.same e2 h) λ_ _ _ _ h=>nd.same e2 h
  exact⟨this,cJ this λ_=>rfl⟩
def mZ(xs:ab):O D:=match three xs with
 |some z=>match z.1 with
  |.cE f cs vs=>match keyOf z.2.2 with
   |some c=>if cD f=true/\aS anyF z.2.1=false/\cs.length<eK then ok (.cE .ow (bc cs c) (bS cs vs c z.2.1))else none
   |none=>none
  |_=>none
 |none=>none
set_option tactic.hygienic true in
theorem qv{d:D}{r:D}(h:mZ (d::xs)=ok r):∃cs vs c x,d=.cE .ow cs vs/\xs=[x,.tup (c.map D.int)]/\aS anyF x=false/\cs.length<eK/\r=.cE .ow (bc cs c) (bS cs vs c x):=by
 unfold mZ at h;cases h1:three (d::xs)with
 |none=>rw[h1]at h;cases h
 |some z =>
  rw[h1]at h;have e0:=o_ h1;obtain⟨d',x,y⟩:=z;obtain⟨rfl,rfl⟩:d=d'/\xs=[x,y]:=Ye e0;cases d<;>first | (cases h;done)|skip
  rename_i f cs vs;have h:(match keyOf y with|some c=>if cD f=true/\aS anyF x=false/\cs.length<eK then ok (D.cE .ow (bc cs c) (bS cs vs c x))else none|none=>none)=ok r:=h;cases h3:keyOf y with
  |none=>rw[h3]at h;cases h
  |some c =>
   rw[h3]at h;obtain⟨⟨hf,hx,hl⟩,rfl⟩:=qe (show(if cD f=true/\aS anyF x=false/\cs.length<eK then ok (D.cE .ow (bc cs c) (bS cs vs c x))else none)=ok r from h);cases f<;>first | (cases hf;done)|exact⟨cs,vs,c,x,rfl,by rw[lq h3],hx,hl,rfl⟩
def oz(_:Scope)(_:av)(st:Stmt):Option (Expr×au):=(wW st).bind λz=>(one z.1).bind λt=>(oY t).bind λy=>some (y.1,[z.2,y.2])
variable {o value:Expr}{st:Stmt}
theorem sy{sc:Scope}{bl:av}(h:oz sc bl st=some (o,args)):∃v i pos' pos,st=.Assign [.Subscript o i pos'] v pos/\args=[v,i]:=by
 obtain⟨⟨ts,v⟩,h1,h⟩:=bT h;obtain⟨t,h3,h⟩:=bT h;obtain⟨⟨o',i⟩,h5,h⟩:=bT h;cases h;obtain rfl:=cW h3;obtain⟨pos,rfl⟩:=j7 h1;obtain⟨pos',rfl⟩:=gC h5;exact⟨v,i,pos',pos,rfl,rfl⟩
mutual
theorem any_map(g:Fl->Fl):∀d:D,aS anyF (aZ g d)=aS anyF d
 |.bz=>rfl
 |.bl _=>rfl
 |.int _=>rfl
 |.tup ds=>qI g ds
 |.lst _ ds=>rfl
 |.cE _ _ ds=>rfl
theorem qI(g:Fl->Fl):∀ds:ab,aP anyF (aG g ds)=aP anyF ds
 |[]=>rfl
 |d::ds=>by show(aS _ _||aP _ _)=(aS _ d||aP _ ds);rw[any_map g d,qI g ds]
end
mutual
theorem sH:∀d:D,aS anyF d=false->aS bW d=false
 |.bz,_=>rfl
 |.bl _,_=>rfl
 |.int _,_=>rfl
 |.tup ds,h=>uV ds h
 |.lst _ ds,h=>nomatch h
 |.cE _ _ ds,h=>nomatch h
theorem uV:∀ds:ab,aP anyF ds=false->aP bW ds=false
 |[],_=>rfl
 |d::ds,h=>by
  have h:=Dk h;show(aS _ d||aP _ ds)=false;rw[sH d h.1,uV ds h.2];rfl
end
theorem any_ints:∀c:aa,aP anyF (c.map D.int)=false
 |[]=>rfl
 |i::c=>any_ints c
theorem En{i:Expr}{l:Nat}{env:Env}:swapsWith value (some (.Subscript o i pos')) l env=pure false:=by
 unfold swapsWith;cases value<;>rfl
theorem xM{x:Str}{p0:Pos}{i:Expr}{tv to ti:TE}(hu:X.A.units+1<cLine)(hv:PE X value tv)(ho:PE X (.Name x p0) to)(hi:PE X i ti):
  PS X (.Assign [.Subscript (.Name x p0) i pos'] value pos) (λD σ H=>tv σ H λv H1=>to σ H1 λo H2=>ti σ H2 λy H3=>∃q b cs as xs ep c,o=.ref q/\y=.ref b/\H3 q=some (.ext (DO q cs as xs ep))/\dw (aT X.K H3) as cs/\aT X.K H3 b (c.map V.int)/\cs.length<sizeLine /\
   ∀qR,D.nx σ (upd H3 q (.ext (DO q (bc cs c) (qJ cs as c b) (bS cs xs c v) qR)))):=by
 intro pins s σ H D I h;refine wpAny_Assign_Subscript (cH (hv pins s σ H _ I h) λr s1 ⟨v,H1,I1,rv,q1⟩=>cH (ho pins s1 σ H1 _ I1 q1) λu s2 ⟨o,H2,I2,rx,q2⟩=>cH (hi pins s2 σ H2 _ I2 q2) λiv s3 bJ=>?_) En;obtain⟨y,H3,I3,ry,q,b,cs,as,xs,ep,c,eo,ey,hd,hk,hb,hl,q3⟩:=bJ;subst eo ey;obtain rfl:u=Value.ref q:=rx;obtain rfl:iv=Value.ref b:=ry;exact sr hu I3 hd hk hb rv hl λqR s4 I4=>⟨σ,_,I4,q3 qR⟩
theorem SI.J8{ρ:aY}{σ:St}{i:Nat}{cs:aq}(Si:SI X F R τ ρ σ H)(hi:ρ[i]?=some (some (.cE .ow cs ds))):
  ∃p as xs ep,σ[i]?=some (some (.ref p))/\H p=some (.ext (DO p cs as xs ep))/\τ p=some [i]/\dw (aT X.K H) as cs/\az (aT X.K H) (nd X.K R (λ_=>False) τ H) [i] 0 xs ds:=by
 obtain⟨v,hv,rp⟩:=Si.rep i _ hi;cases rp with
 |cE h k r=>exact⟨_,_,_,_,hv,h.1,h.2,k,r⟩
theorem B5{n:Nat}(hΦ:Φ n=mZ){sc:Scope}{bl:av}{k:Nat}(L:PX X sc bl k)(hN:X.N.Nodup)(r6:∀x,X.fn x=true){x:Str}(he:oz sc bl st=some (.Name x pos,args))
  {i:Nat} (hi:X.N[i]?=some x) (hl:L2.Loc X.env.scope x) (pe:PE X (.Name x pos) (xb i)) (hs:mC X F Φ cs args):PS X st (jS X F Φ (.mut n i cs)):=by
 obtain⟨v,ix,p1,p2,rfl,rfl⟩:=sy he;obtain⟨⟨c1,c2,rfl,h1,h2⟩,_⟩:=rE hs;refine PS.imp (xM (yI L.room) h1 pe h2) λD σ H hq=>?_;obtain⟨R,τ,ρ,r,Si,ev,hq⟩:=hq;obtain⟨xs,cL,ev⟩:=aA ev;obtain⟨y,ey,cL⟩:=aA cL;obtain⟨ys,y_,cL⟩:=aA cL;cases cL;obtain⟨kd,ek,QQ⟩:=aA y_;cases QQ;have key:∃cs vs c,kd=.tup (c.map DI.D.int)/\ρ[i]?=some (some (.cE .ow cs vs))/\aS anyF y=false/\cs.length<eK/\r=(.nx,ρ.set i (some (.cE .ow (bc cs c) (bS cs vs c y)))):=by
  cases hz:aP bW [y,kd]with
  |true =>
   obtain⟨d,d',h⟩:=yd ev hz;rw[hΦ]at h;obtain⟨cs,vs,c,x',_,e1,e2,_⟩:=qv h;have e3:aZ bo y=x'/\aZ bo kd=.tup (c.map DI.D.int):=by
    have:=Ye e1;exact⟨this.1,(Ye this.2).1⟩
   have a1:aS bW y=false:=sH y (by rw[<- any_map bo y,e3.1];exact e2);have a2:aS bW kd=false:=sH kd (by rw[<- any_map bo kd,e3.2];exact any_ints c);have:aP bW [y,kd]=false:=by show(aS bW y||(aS bW kd||false))=false;rw[a1,a2];rfl
   rw[this]at hz;cases hz
  |false =>
   obtain⟨d,d',h,h',rfl⟩:=tY ev hz;rw[hΦ]at h';obtain⟨cs,vs,c,x',rfl,e1,e2,e3,rfl⟩:=qv h';cases e1;exact⟨cs,vs,c,rfl,h,e2,e3,rfl⟩
 obtain⟨cs,vs,c,rfl,ho,hf,hc,rfl⟩:=key;obtain⟨p,as,zs,ep,hv,hd,ht,hk,rs⟩:=Si.J8 ho;refine tD.intro Si ey λu H1 e1 ru=>⟨.ref p,hv,tD.intro (Si.go e1) ek λw H2 e2 h_=>?_⟩
 obtain⟨τ1,f1,q1⟩:=ru;obtain⟨τ2,f2,q2⟩:=h_;cases q2 with
 | @tup _ b _ _ hb K5 =>
  cases K5.ofInts;have es:=e1.trans e2;have sI:=Si.go es;have hd2:=es _ _ hd;have n9:eK=1000000:=rfl;have hz:sizeLine=16777216:=XF;refine⟨p,b,cs,as,zs,ep,c,rfl,rfl,hd2,hk.imp λ_ _ h=>aT.same es h,hb,by left,λqR=>?_⟩;have hn:dm H2 p (.d cs as zs ep):=hd2;have rk:f9 X R τ H2 u y:=kZ ((iR (N':=nd X.K R (λ_=>False) τ H1) (k':=[]) q1 hf).imp (λ_ _ h=>aT.same e2 h) λ_ _ _ _ h=>nd.same e2 h) hf;obtain⟨p',Tv,MF,VI,KZ,GG,WB,Sv,ia⟩:=sI.J8 ho;rw[hv]at KZ;cases KZ;rw[hd2]at GG;obtain⟨τ3,HU⟩:=sI.JU (m:=0) (n':=.d (bc cs c) (qJ cs as c b) (bS cs zs c u) qR) (o:=.ext (DO p (bc cs c) (qJ cs as c b) (bS cs zs c u) qR)) (d1:=.cE .ow (bc cs c) (bS cs vs c y)) (xs':=bS cs zs c u) (ds':=bS cs vs c y) ho hv hn ht (rs.imp (λ_ _ h=>aT.same es h) λ_ _ _ _ h=>nd.same es h) rk aV
   (λhN r=>.cE hN (yu ((hk.imp λ_ _ h=>aT.same es h).imp λ_ _ h=>xj hn h) (xj hn hb)) r) (λrs r=>xE (λk=>iR r hf) rs)
  exact hq σ _ R τ3 HU (lp sI es (λ_ h=>h) hn ht)
end DI
end
section
namespace DI
open PySem PySem.Spec PyProof.Rows L2 PySem.W
noncomputable def cj{α:Type}(lt:Nat->Nat->Bool):KasT α->α
 |.ret a=>a
 |.ask i j k=>cj lt (k (lt i j))
theorem fq{α β:Type}(lt:Nat->Nat->Bool)(f:α->KasT β):∀t:KasT α,cj lt (t.bind f)=cj lt (f (cj lt t))
 |.ret a=>rfl
 |.ask i j k=>fq lt f (k (lt i j))
section
def gQ{α:Type}(n:Nat)(lt:Nat->Nat->Bool):KasT α->Prop
 |.ret _=>True
 |.ask i j k=>i<n/\j<n/\gQ n lt (k (lt i j))
end
theorem uT{α:Type}{cmp:Nat->Nat->(Bool->Shared->Prop)->Shared->Prop}{lt:Nat->Nat->Bool}{s:Shared}{n:Nat}(hc:∀i j C,i<n->j<n->C (lt i j) s->cmp i j C s){Q:α->Shared->Prop}:
  ∀(t:KasT α),gQ n lt t->Q (cj lt t) s->t.kasWp cmp Q s
 |.ret a,_,h=>h
 |.ask i j k,⟨h1,h2,h3⟩,h=>hc i j _ h1 h2 (uT hc (k (lt i j)) h3 h)
theorem d4{α β:Type}{lt:Nat->Nat->Bool}{n:Nat}{f:α->KasT β}:∀{t:KasT α},gQ n lt t->gQ n lt (f (cj lt t))->gQ n lt (t.bind f)
 |.ret _,_,h=>h
 |.ask i j k,⟨h1,h2,h3⟩,h=>⟨h1,h2,d4 h3 h⟩
structure Ord(lt:Nat->Nat->Bool)(n:Nat):Prop where
 tr:∀a b c,a<n->b<n->c<n->lt a b=true->lt b c=true->lt a c=true
 as:∀a b,a<n->b<n->lt a b=true->lt b a=false
 MJ:∀a b,a<n->b<n->a≠b->lt a b=true\/lt b a=true
structure Arr(p:Array Nat)(n:Nat):Prop where
 sz:p.size=n
 pm:p.toList.Perm (List.range n)
section
variable {lt:Nat->Nat->Bool}{n:Nat}{p:Array Nat}
theorem Arr.bd(h:Arr p n){i:Nat}(hi:i<n):p.getD i 0<n:=by
 have jM:i<p.size:=by rw[h.sz];exact hi
 have:p.getD i 0=p[i]:=by simp[Array.getD,jM]
 rw[this];have hm:p[i]∈p.toList:=Array.getElem_mem_toList jM;exact List.mem_range.mp (h.pm.mem_iff.mp hm)
theorem Arr.inj(h:Arr p n){i j:Nat}(hi:i<n)(hj:j<n)(e:p.getD i 0=p.getD j 0):i=j:=by
 have jM:i<p.toList.length:=by rw[Array.length_toList,h.sz];exact hi
 have Sw:j<p.toList.length:=by rw[Array.length_toList,h.sz];exact hj
 have nd:p.toList.Nodup:=h.pm.nodup_iff.mpr Yg;have e1:p.getD i 0=p.toList[i]:=by simp[Array.getD,show i<p.size by rw[h.sz];exact hi]
 have e2:p.getD j 0=p.toList[j]:=by simp[Array.getD,show j<p.size by rw[h.sz];exact hj]
 rw[e1,e2]at e;exact(YI nd).mp e
def Up(lt:Nat->Nat->Bool)(p:Array Nat)(k:Nat):Prop:=∀i j,i<j->j<k->lt (p.getD i 0) (p.getD j 0)=true
def Dn(lt:Nat->Nat->Bool)(p:Array Nat)(k:Nat):Prop:=∀i j,i<j->j<k->lt (p.getD j 0) (p.getD i 0)=true
theorem Up.snoc(O:Ord lt n)(h:Arr p n){k:Nat}(hk:k<n)(h1:1<=k)(u:Up lt p k)(hl:lt (p.getD (k - 1) 0) (p.getD k 0)=true):Up lt p (k+1):=λi j dN hj=>by
 by_cases e:j=k
 ·subst e;by_cases e2:i=j - 1
  ·subst e2;exact hl
  ·exact O.tr _ _ _ (h.bd (by left)) (h.bd (by left)) (h.bd hk) (u i (j - 1) (by left) (by left)) hl
 ·exact u i j dN (by left)
theorem Dn.snoc(O:Ord lt n)(h:Arr p n){k:Nat}(hk:k<n)(h1:1<=k)(u:Dn lt p k)(hl:lt (p.getD k 0) (p.getD (k - 1) 0)=true):Dn lt p (k+1):=λi j dN hj=>by
 by_cases e:j=k
 ·subst e;by_cases e2:i=j - 1
  ·subst e2;exact hl
  ·exact O.tr _ _ _ (h.bd hk) (h.bd (by left)) (h.bd (by left)) hl (u i (j - 1) (by left) (by left))
 ·exact u i j dN (by left)
theorem oP(O:Ord lt n)(h:Arr p n):∀(f k:Nat),1<=k->k+f<=n->Up lt p k->gQ n lt (kas_asc p f k)/\k<=cj lt (kas_asc p f k)/\cj lt (kas_asc p f k)<=k+f/\Up lt p (cj lt (kas_asc p f k))
 |0,k,_,_,u=>⟨trivial,WV _,WV _,u⟩
 |f+1,k,h1,hf,u=>by
  have a1:p.getD k 0<n:=h.bd (by left);have a2:p.getD (k - 1) 0<n:=h.bd (by left);cases c:lt (p.getD k 0) (p.getD (k - 1) 0)with
  |true =>
   have e:cj lt (kas_asc p (f+1) k)=k:=by
    show cj lt (if lt (p.getD k 0) (p.getD (k - 1) 0)=true then .ret k else kas_asc p f (k+1))=k;rw[c];rfl
   refine⟨⟨a1,a2,?_⟩,by rw[e];exact WV _,by rw[e];left,by rw[e];exact u⟩;show gQ n lt (if lt (p.getD k 0) (p.getD (k - 1) 0)=true then .ret k else kas_asc p f (k+1));rw[c];trivial
  |false =>
   have e:cj lt (kas_asc p (f+1) k)=cj lt (kas_asc p f (k+1)):=by
    show cj lt (if lt (p.getD k 0) (p.getD (k - 1) 0)=true then .ret k else kas_asc p f (k+1))=_;rw[c];rfl
   have hl:lt (p.getD (k - 1) 0) (p.getD k 0)=true:=by
    rcases O.MJ _ _ a2 a1 (λz=>absurd (h.inj (by left) (by left) z) (by left))with z|z
    ·exact z
    ·rw[c]at z;cases z
   obtain⟨b1,b2,b3,b4⟩:=oP O h f (k+1) (by left) (by left) (u.snoc O h (by left) h1 hl);refine⟨⟨a1,a2,?_⟩,by rw[e];left,by rw[e];left,by rw[e];exact b4⟩;show gQ n lt (if lt (p.getD k 0) (p.getD (k - 1) 0)=true then .ret k else kas_asc p f (k+1));rw[c];exact b1
theorem uF(O:Ord lt n)(h:Arr p n):∀(f k:Nat),1<=k->k+f<=n->Dn lt p k->gQ n lt (kas_desc f p k 0)/\∃m,cj lt (kas_desc f p k 0)=(p,m,0)/\k<=m/\m<=k+f/\Dn lt p m
 |0,k,_,_,u=>⟨trivial,k,rfl,WV _,WV _,u⟩
 |f+1,k,h1,hf,u=>by
  have a1:p.getD k 0<n:=h.bd (by left);have a2:p.getD (k - 1) 0<n:=h.bd (by left);cases c:lt (p.getD k 0) (p.getD (k - 1) 0)with
  |true =>
   obtain⟨b1,m,b2,b3,b4,b5⟩:=uF O h f (k+1) (by left) (by left) (u.snoc O h (by left) h1 c);have e:kas_desc (f+1) p k 0=.ask (p.getD k 0) (p.getD (k - 1) 0) λc=>if c=true then(if (0:Nat)>0 then kas_desc f (kas_rev p (k - (0+1)) k) (k+1) 0 else kas_desc f p (k+1) 0)else .ask (p.getD (k - 1) 0) (p.getD k 0) λd=>if d=true then .ret (p,k,0)else kas_desc f p (k+1) (0+1):=rfl
   rw[e];refine⟨⟨a1,a2,?_⟩,m,?_,by left,by left,b5⟩
   ·rw[c];exact b1
   ·show cj lt (if lt (p.getD k 0) (p.getD (k - 1) 0)=true then _ else _)=_;rw[c];exact b2
  |false =>
   have hl:lt (p.getD (k - 1) 0) (p.getD k 0)=true:=by
    rcases O.MJ _ _ a2 a1 (λz=>absurd (h.inj (by left) (by left) z) (by left))with z|z
    ·exact z
    ·rw[c]at z;cases z
   have e:kas_desc (f+1) p k 0=.ask (p.getD k 0) (p.getD (k - 1) 0) λc=>if c=true then(if (0:Nat)>0 then kas_desc f (kas_rev p (k - (0+1)) k) (k+1) 0 else kas_desc f p (k+1) 0)else .ask (p.getD (k - 1) 0) (p.getD k 0) λd=>if d=true then .ret (p,k,0)else kas_desc f p (k+1) (0+1):=rfl
   rw[e];refine⟨⟨a1,a2,?_⟩,k,?_,WV _,by left,u⟩
   ·rw[c];exact⟨a2,a1,by rw[hl];trivial⟩
   ·show cj lt (if lt (p.getD k 0) (p.getD (k - 1) 0)=true then _ else _)=_;rw[c];show cj lt (if lt (p.getD (k - 1) 0) (p.getD k 0)=true then _ else _)=_;rw[hl];rfl
theorem kn{p q:Array Nat}{i j:Nat}(h:p[i]?=q[j]?):p.getD i 0=q.getD j 0:=by
 rw[Array.getD_eq_getD_getElem?,Array.getD_eq_getD_getElem?,h]
theorem EW(h:Arr p n){m:Nat}(hm:m<=n):Arr (kas_rev p 0 m) n/\(Dn lt p m->Up lt (kas_rev p 0 m) m):=by
 have hs:(kas_rev p 0 m).size=p.size:=mirror_size _ _ _ _;refine⟨⟨by rw[hs];exact h.sz,?_⟩,λu i j dN hj=>?_⟩
 ·have:=(mirror_perm p 0 m ((m - 0) / 2)).toList;exact this.trans h.pm
 ·have g:∀k,k<m->(kas_rev p 0 m).getD k 0=p.getD (m - 1 - k) 0:=λk hk=>by
   refine kn ?_;rw[show kas_rev p 0 m=mirror p 0 m ((m - 0) / 2) from rfl,getElem?_mirror_all (by rw[h.sz];exact hm),if_pos ⟨Nat.zero_le _,hk⟩];congr 1;left
  rw[g i (by left),g j hj];exact u (m - 1 - j) (m - 1 - i) (by left) (by left)
theorem w_(O:Ord lt n)(h:Arr p n){m:Nat}(h1:1<=m)(hm:m<=n)(u:Dn lt p m):gQ n lt (kas_tail3 m n p)/\∃r,cj lt (kas_tail3 m n p)=r/\Arr r.2 n/\1<=r.1/\r.1<=n/\Up lt r.2 r.1:=by
 obtain⟨a1,a2⟩:=EW (lt:=lt) h hm;obtain⟨b1,b2,b3,b4⟩:=oP O a1 (n - m) m h1 (by left) (a2 u);unfold kas_tail3;refine⟨d4 b1 trivial,_,rfl,?_⟩;rw[fq];exact⟨a1,Xb h1 b2,by show cj lt _<=n;left,b4⟩
theorem zr(O:Ord lt n)(h:Arr p n)(hn:2<=n):gQ n lt (kas_count n p)/\∃r,cj lt (kas_count n p)=r/\Arr r.2 n/\1<=r.1/\r.1<=n/\Up lt r.2 r.1:=by
 obtain⟨b1,b2,b3,b4⟩:=oP O h (n - 1) 1 (WV _) (by left) (λi j _ _=>by left);generalize hk:cj lt (kas_asc p (n - 1) 1)=k at *;have key:∀t:KasT (Nat×Array Nat),t=(if (k==n)=true then .ret (k,p)else if k>1 then .ask (p.getD 0 0) (p.getD (k - 1) 0) λc=>if c=true then .ret (k,p)else kas_descPart k n (kas_rev p 0 k)else kas_descPart k n p) ->
   gQ n lt t/\∃r,cj lt t=r/\Arr r.2 n/\1<=r.1/\r.1<=n/\Up lt r.2 r.1:=by
  intro t ht;by_cases e:k=n
  ·rw[if_pos (by simpa using e)]at ht;subst ht;exact⟨trivial,(k,p),rfl,h,b2,by show k<=n;left,b4⟩
  ·rw[if_neg (by simpa using e)]at ht;by_cases e1:k>1
   ·rw[if_pos e1]at ht;subst ht;have hl:lt (p.getD 0 0) (p.getD (k - 1) 0)=true:=b4 0 (k - 1) (by left) (by left);refine⟨⟨h.bd (by left),h.bd (by left),by rw[hl];trivial⟩,(k,p),?_,h,b2,by left,b4⟩;show cj lt (if lt (p.getD 0 0) (p.getD (k - 1) 0)=true then _ else _)=_;rw[hl];rfl
   ·rw[if_neg e1]at ht;have Dy:k=1:=by left
    subst Dy;subst ht;have hl:lt (p.getD 1 0) (p.getD 0 0)=true:=by
     have a1:p.getD 1 0<n:=h.bd (by left);have a0:p.getD 0 0<n:=h.bd (by left);cases c:lt (p.getD 1 0) (p.getD 0 0)with
     |true=>rfl
     |false =>
      exfalso;obtain⟨f,hf⟩:∃f,n - 1=f+1:=⟨n - 2,by left⟩
      rw[hf]at hk;have e':cj lt (kas_asc p (f+1) 1)=cj lt (kas_asc p f 2):=by
       show cj lt (if lt (p.getD 1 0) (p.getD (1 - 1) 0)=true then .ret 1 else kas_asc p f 2)=_;rw[show(1 - 1:Nat)=0 from rfl,c];rfl
      rw[e']at hk;have u2:Up lt p 2:=λi j dN hj=>by
       have:i=0/\j=1:=by left
       obtain⟨rfl,rfl⟩:=this;rcases O.MJ _ _ a0 a1 (λz=>absurd (h.inj (by left) (by left) z) (by left))with z|z
       ·exact z
       ·rw[c]at z;cases z
      obtain⟨_,c2,_,_⟩:=oP O h f 2 (by left) (by left) u2;left
    have d2:Dn lt p 2:=λi j dN hj=>by
     have:i=0/\j=1:=by left
     obtain⟨rfl,rfl⟩:=this;exact hl
    obtain⟨c1,m,c2,c3,c4,c5⟩:=uF O h (n - 2) 2 (by left) (by left) d2;obtain⟨t1,r,t2,t3⟩:=w_ O h (m:=m) (by left) (by left) c5;unfold kas_descPart;refine⟨d4 c1 ?_,r,?_,t3⟩
    ·rw[show(1+1:Nat)=2 from rfl,show n - 2=n - 2 from rfl,c2];exact t1
    ·rw[fq,show(1+1:Nat)=2 from rfl,c2];exact t2
 have e:=key _ rfl;refine⟨?_,?_⟩
 ·unfold kas_count;exact d4 b1 (by rw[hk];exact e.1)
 ·unfold kas_count;rw[fq,hk];exact e.2
theorem Arr.or(O:Ord lt n)(h:Arr p n){i j:Nat}(hi:i<n)(hj:j<n)(e:i≠j)(c:lt (p.getD i 0) (p.getD j 0)=false):lt (p.getD j 0) (p.getD i 0)=true:=by
 rcases O.MJ _ _ (h.bd hi) (h.bd hj) (λz=>e (h.inj hi hj z))with z|z
 ·rw[c]at z;cases z
 ·exact z
theorem k0(O:Ord lt n)(h:Arr p n){k:Nat}(hk:k<n)(u:Up lt p k):∀(f l r:Nat),l<=r->r<=k->r - l<=f->(∀i,i<l->lt (p.getD i 0) (p.getD k 0)=true)->(∀i,r<=i->i<k->lt (p.getD k 0) (p.getD i 0)=true) ->
  gQ n lt (kas_place p k f l r)/\∃m,cj lt (kas_place p k f l r)=m/\m<=k/\(∀i,i<m->lt (p.getD i 0) (p.getD k 0)=true)/\∀i,m<=i->i<k->lt (p.getD k 0) (p.getD i 0)=true
 |0,l,r,hl,hr,hf,a,b=>by
  have:l=r:=by left
  subst this;exact⟨trivial,l,rfl,hr,a,b⟩
 |f+1,l,r,hl,hr,hf,a,b=>by
  have e:kas_place p k (f+1) l r=if l ≥ r then .ret l else .ask (p.getD k 0) (p.getD ((l+r) / 2) 0) λc=>if c=true then kas_place p k f l ((l+r) / 2)else kas_place p k f ((l+r) / 2+1) r:=rfl
  rw[e];by_cases Nm:l ≥ r
  ·rw[if_pos Nm];have:l=r:=by left
   subst this;exact⟨trivial,l,rfl,hr,a,b⟩
  ·rw[if_neg Nm];have hm:l<=(l+r) / 2/\(l+r) / 2<r:=by left
   generalize (l+r) / 2=m at *;have b1:p.getD k 0<n:=h.bd hk;have b2:p.getD m 0<n:=h.bd (by left);cases c:lt (p.getD k 0) (p.getD m 0)with
   |true =>
    obtain⟨c1,m',c2,c3⟩:=k0 O h hk u f l m hm.1 (by left) (by left) a λi h1 h2=>by
     by_cases e:i=m
     ·subst e;exact c
     ·exact O.tr _ _ _ b1 b2 (h.bd (by left)) c (u m i (by left) h2)
    refine⟨⟨b1,b2,by rw[c];exact c1⟩,m',?_,c3⟩;show cj lt (if lt (p.getD k 0) (p.getD m 0)=true then _ else _)=_;rw[c];exact c2
   |false =>
    have vL:=h.or O hk (by left) (by left) c;obtain⟨c1,m',c2,c3⟩:=k0 O h hk u f (m+1) r (by left) hr (by left) (λi hi=>by
     by_cases e:i=m
     ·subst e;exact vL
     ·exact O.tr _ _ _ (h.bd (by left)) b2 b1 (u i m (by left) (by left)) vL) b
    refine⟨⟨b1,b2,by rw[c];exact c1⟩,m',?_,c3⟩;show cj lt (if lt (p.getD k 0) (p.getD m 0)=true then _ else _)=_;rw[c];exact c2
theorem wj(h:Arr p n){k m:Nat}(hk:k<n)(hm:m<=k)(u:Up lt p k)(a:∀i,i<m->lt (p.getD i 0) (p.getD k 0)=true)(b:∀i,m<=i->i<k->lt (p.getD k 0) (p.getD i 0)=true):
  Arr (bubble p k (k - m)) n/\Up lt (bubble p k (k - m)) (k+1):=by
 have hs:(bubble p k (k - m)).size=p.size:=bubble_size _ _ _;refine⟨⟨by rw[hs];exact h.sz,(bubble_perm p k (k - m)).toList.trans h.pm⟩,λi j dN hj=>?_⟩;have g:∀t,(bubble p k (k - m)).getD t 0=if t=m then p.getD k 0 else if m<t/\t<=k then p.getD (t - 1) 0 else p.getD t 0:=λt=>by
  have e:=getElem?_bubble (xs:=p) (src:=k) (by rw[h.sz];exact hk) (k - m) (Nat.sub_le _ _) t;rw[show k - (k - m)=m by left]at e;by_cases h1:t=m
  ·rw[if_pos h1]at e ⊢;exact kn e
  ·rw[if_neg h1]at e ⊢;by_cases h2:m<t/\t<=k
   ·rw[if_pos h2]at e ⊢;exact kn e
   ·rw[if_neg h2]at e ⊢;exact kn e
 rw[g i,g j];by_cases i1:i=m
 ·rw[if_pos i1,if_neg (by left),if_pos (by left)];exact b (j - 1) (by left) (by left)
 ·rw[if_neg i1];by_cases i2:m<i/\i<=k
  ·rw[if_pos i2,if_neg (by left),if_pos (by left)];exact u (i - 1) (j - 1) (by left) (by left)
  ·rw[if_neg i2];by_cases j1:j=m
   ·rw[if_pos j1];exact a i (by left)
   ·rw[if_neg j1];by_cases j2:m<j/\j<=k
    ·rw[if_pos j2];by_cases e:i=j - 1
     ·left
     ·exact u i (j - 1) (by left) (by left)
    ·rw[if_neg j2];exact u i j dN (by left)
end
theorem zC{lt:Nat->Nat->Bool}{n:Nat}(O:Ord lt n):∀(f:Nat) {p:Array Nat} {k:Nat},Arr p n->k+f=n->Up lt p k->gQ n lt (kas_bin f p k)/\Arr (cj lt (kas_bin f p k)) n/\Up lt (cj lt (kas_bin f p k)) n
 |0,p,k,h,hk,u=>⟨trivial,h,by rw[<- hk];exact u⟩
 |f+1,p,k,h,hk,u=>by
  obtain⟨a1,m,a2,a3,a4,a5⟩:=k0 O h (k:=k) (by left) u k 0 k (W6 _) (WV _) (WV _) (λi hi=>by left) (λi h1 h2=>by left);obtain⟨b1,b2⟩:=wj h (by left) a3 u a4 a5;obtain⟨c1,c2,c3⟩:=zC O f b1 (by left) b2;have e:kas_bin (f+1) p k=(kas_place p k k 0 k).bind λl=>kas_bin f (bubble p k (k - l)) (k+1):=rfl;rw[e];refine⟨d4 a1 (by rw[a2];exact c1),?_⟩;rw[fq,a2];exact⟨c2,c3⟩
theorem AA{lt:Nat->Nat->Bool}{n:Nat}(O:Ord lt n)(hn:2<=n):gQ n lt (kas_sort n)/\Arr (cj lt (kas_sort n)) n/\Up lt (cj lt (kas_sort n)) n:=by
 have h0:Arr (List.toArray (List.range n)) n:=⟨by simp,by simp⟩
 obtain⟨a1,r,a2,a3,a4,a5,a6⟩:=zr O h0 hn;unfold kas_sort;have key:∀t,t=(if r.1<n then kas_bin (n - max r.1 1) r.2 (max r.1 1)else .ret r.2)->gQ n lt t/\Arr (cj lt t) n/\Up lt (cj lt t) n:=by
  intro t ht;by_cases h:r.1<n
  ·rw[if_pos h]at ht;subst ht;rw[show max r.1 1=r.1 by left];exact zC O _ a3 (by left) a6
  ·rw[if_neg h]at ht;subst ht;have:r.1=n:=by left
   exact⟨trivial,a3,by rw[this]at a6;exact a6⟩
 have e:=key _ rfl;refine⟨d4 a1 (by rw[a2];exact e.1),?_⟩;rw[fq,a2];exact e.2
end DI
end
section
namespace DI
open PySem PySem.Spec PyProof.Rows L2
def mB(h:Heap)(vs:ag)(nss:aq):Prop:=vs.length=nss.length/\∀(i:Nat) (ns:aa),nss[i]?=some ns->∃t its,vs[i]?=some (.ref t)/\IsTup h t its.toArray/\IntsAre its ns
variable {h':Heap}{nss:aq}{vs:ag}
theorem mB.mono{h:Heap}(k:∀b o,h.get? b=some o->h'.get? b=some o)(t:mB h vs nss):mB h' vs nss :=
 ⟨t.1,λi ns e=>let ⟨a,its,e1,⟨o,ho,r⟩,e3⟩:=t.2 i ns e;⟨a,its,e1,⟨o,k _ _ ho,r⟩,e3⟩⟩
theorem mB.mem{h:Heap}(t:mB h vs nss){v:Value}(hv:v∈vs):∃a its ns,v=.ref a/\IsTup h a its.toArray/\IntsAre its ns:=by
 obtain⟨i,hi⟩:=List.mem_iff_getElem?.mp hv;have hl:i<nss.length:=by rw[<- t.1];exact(List.getElem?_eq_some_iff.mp hi).1
 obtain⟨a,its,e1,e2,e3⟩:=t.2 i _ (W3 hl);rw[hi]at e1;cases e1;exact⟨a,its,_,rfl,e2,e3⟩
section
variable {prog:ax}{w:World}{A:ay}{E:aw}{s:Shared}
theorem lM:∀{vs:ag} {nss:aq} {Q:List (Option Value)->Shared->Prop},mB s.heap vs nss->(∀fs:List (Option Value),fs.length=vs.length->(∀f∈fs,∀v,f=some v->∃n t,v=.int n t)->Q fs s)->wpAny (model prog w) A (vs.mapM firstOfTuple') Q E s
 |[],_,_,_,h=>by rw[List.mapM_nil];exact WU (h [] rfl λ_ h=>nomatch h)
 |v::vs,[],_,t,_=>by have:=t.1;simp at this
 |v::vs,ns::nss,Q,t,h=>by
  obtain⟨a,its,e,⟨o,ho,hc,n,hd⟩,hi⟩:=t.2 0 ns rfl;cases e;rw[List.mapM_cons];refine WN ?_;rw[PySem.W.kas_first_eq];refine WN (PySem.W.Looks.here (show PySem.W.Looks (model prog w) s.heap (typeOf (.ref a)) o.cls from(PySem.W.Looks.ld ho).andThen .now) ?_);rw[hc,if_neg (by first|decide|simp)];refine WN (X1 ho hd (WU ?_));refine WN (lM (vs:=vs) (nss:=nss) ⟨by simpa using t.1,λi ms e=>t.2 (i+1) ms e⟩ λfs h1 h2=>WU (h _ (by simp[h1]) λf hf v hv=>?_));rcases List.mem_cons.mp hf with rfl|hf
  ·cases hi with
   |nil=>simp at hv
   |cons a' tk hi=>simp at hv;exact⟨_,_,hv.symm⟩
  ·exact h2 f hf v hv
def DX(κ:SortKind):Prop:=κ=tuples' true\/κ=general'\/κ=oneType'
theorem kind_any{Q:SortKind->Shared->Prop}(t:mB s.heap vs nss)(BF:vs≠[])(h:∀κ,DX κ->Q κ s):wpAny (model prog w) A (keyKind' vs.toArray) Q E s:=by
 obtain⟨v0,vr,rfl⟩:∃v0 vr,vs=v0::vr:=by
  cases vs with
  |nil=>exact absurd rfl BF
  |cons v0 vr=>exact⟨v0,vr,rfl⟩
 rw[kat_kind_eq,List.mapM_toArray,map_eq_pure_bind];refine WN (WN (lM t λfs hl hf=>WU ?_));by_cases ha:(fs.toArray.all λx=>x.isSome)=true
 ·rw[if_pos ha];refine WN (YG ?_);obtain⟨gs,hg,hgi⟩:∃gs:ag,fs=gs.map some/\∀v∈gs,∃n t,v=.int n t:=by
   clear h hl t;induction fs with
   |nil=>exact⟨[],rfl,λ_ h=>nomatch h⟩
   |cons f fs ih =>
    simp only[List.all_toArray,List.all_cons,Bool.and_eq_true]at ha;obtain⟨gs,e1,e2⟩:=ih (λf Iv=>hf f (WT _ Iv)) (by simpa using ha.2);cases f with
    |none=>simp at ha
    |some v =>
     exact⟨v::gs,by rw[e1];rfl,λu hu=>by
      rcases List.mem_cons.mp hu with rfl|hu
      ·exact hf _ WR _ rfl
      ·exact e2 u hu⟩
  subst hg;obtain⟨g0,gr,rfl⟩:∃g0 gr,gs=g0::gr:=by
   cases gs with
   |nil=>simp at hl
   |cons a b=>exact⟨a,b,rfl⟩
  have Vb:(((g0::gr).map some).toArray.filterMap id)=(g0::gr).toArray:=by simp
  rw[Vb,oneTypeOnly'_eq,List.mapM_toArray,map_eq_pure_bind];refine WN (WN (WN (PySem.W.kas_mapM (r:=Value.type "int") _ (λv hv Q' hq=>by
   obtain⟨n,t,rfl⟩:=hgi v hv;exact(PySem.W.Looks.of_pure (M:=model prog w) rfl).here hq) (WU ?_))))
  have yS:((List.map (λ_=>Value.type "int") (g0::gr)).toArray.all λx=>x==Value.type "int")=true:=by
   simp only[List.all_toArray,List.all_map,List.all_eq_true];intro _ _;show(Value.type "int" == Value.type "int")=true;decide
  have h0:(List.map (λ_=>Value.type "int") (g0::gr)).toArray[0]?=some (Value.type "int"):=by simp
  rw[h0];simp only[yS,if_true];exact WU (WU (h _ (.inl rfl)))
 ·rw[if_neg ha];by_cases hb:((fs.toArray[0]?.bind id).isSome)=true
  ·rw[if_pos hb];exact WU (h _ (.inr (.inl rfl)))
  ·rw[if_neg hb];rw[oneTypeOnly'_eq,List.mapM_toArray,map_eq_pure_bind];refine WN (WN (WN (PySem.W.kas_mapM (r:=Value.type "tuple") _ (λv hv Q' hq=>by
    obtain⟨a,its,ns,rfl,⟨o,ho,hc,_⟩,_⟩:=t.mem hv;refine PySem.W.Looks.here (show PySem.W.Looks (model prog w) s.heap (typeOf (.ref a)) o.cls from(PySem.W.Looks.ld ho).andThen .now) ?_;rw[hc];exact hq) (WU ?_))))
   have yS:((List.map (λ_=>Value.type "tuple") (v0::vr)).toArray.all λx=>x==Value.type "tuple")=true:=by
    simp only[List.all_toArray,List.all_map,List.all_eq_true];intro _ _;show(Value.type "tuple" == Value.type "tuple")=true;decide
   have h0:(List.map (λ_=>Value.type "tuple") (v0::vr)).toArray[0]?=some (Value.type "tuple"):=by simp
   rw[h0];simp only[yS,if_true];exact WU (WU (h _ (.inr (.inr rfl))))
theorem F0{κ:SortKind}(hk:DX κ)(hu:A.units<cLine){a b:Addr}{its Bo:ag}{ns ms:aa}{Q:Bool->Shared->Prop}(ha:IsTup s.heap a its.toArray)(hb:IsTup s.heap b Bo.toArray)(hi:IntsAre its ns)(hj:IntsAre Bo ms)(h:Q (HT.lexLt ns ms) s):
  wpAny (model prog w) A (keyLt' κ (.ref a) (.ref b)) Q E s:=by
 rcases hk with rfl|rfl|rfl
 ·obtain⟨o,ho,_,n,hd⟩:=ha;obtain⟨o',eZ,_,n',GG⟩:=hb;exact PySem.W.kat_lt ho hd eZ GG (p9 0 hi hj (by simp) h)
 ·exact PySem.W.kat_one _ _ (HT.rN ha hb (by simpa using hi) (by simpa using hj) hu h)
 ·show wpAny (model prog w) A (oneLt' true (.ref a) (.ref b)) Q E s;rw[oneLt'_eq];simp only[if_true];refine WN (wpAny_cRoomFor hu ?_);obtain⟨⟨cls,dd,data,sl⟩,ho,hc,n,hd⟩:=id ha;obtain⟨⟨HD,zW,data2,zR⟩,qP,hc2,n2,hd2⟩:=id hb;simp only at hc hd hc2 hd2;subst hc hd hc2 hd2;refine WN (wpAny_callSpecialIfBound?_slot (name:=Str.ofString "__lt__") ⟨_,ho,rfl⟩ Yh (XH Yh ⟨_,ho,rfl⟩ PySem.F.entry_tuple_lt (PySem.F.args_tuple_lt_2 _ _) (HT.gS a b _ _ n n2 dd zW sl zR ns ms (by simpa using hi) (by simpa using hj)) ⟨ho,qP,?_⟩));exact Xo h
end
def oS(h:Heap)(d:Addr)(es:Array DictEntry)(ep:Nat):Prop:=∃o,h.get? d=some o/\o.ExactDict/\o.data=.dict es ep
variable {Q:Value->Shared->Prop}
section
variable {prog:ax}{w:World}{A:ay}{E:aw}{s:Shared}{d it:Addr}{es:Array DictEntry}{ep i:Nat}
theorem oS.typeIs(h:oS s.heap d es ep):s.TypeIs (.ref d) "dict":=let ⟨o,ho,hx,_⟩:=h;⟨o,ho,hx.1⟩
theorem B8(hd:(d==sysModules)=false)(hm:oS s.heap d es ep)
  (hQ:Q (.ref s.heap.objs.size) { s with heap:=s.heap.push { cls:=.type "dict_keyiterator",data:=.fields #[.ref d,.int 0 0,.int es.size 0,.int ep 0] } }):wpAny (model prog w) A (pyIter (.ref d)) Q E s:=by
 have hT:=hm.typeIs;obtain⟨o,ho,hx,Lv⟩:=hm;refine wpAny_pyIter_slot hT PySem.F.slot_dict_iter (XJ PySem.F.slot_dict_iter hT PySem.F.entry_dict_iter ?_ (PySem.F.args_dict_iter_1 _));unfold Builtin.«dict.__iter__» Builtin.Dict.dictSlotNone;refine WN (WN (wpAny_notOrdered_dict hT (WU ?_)));show wpAny _ _ (Builtin.Dict.showsAll d >>= _) _ _ s;unfold Builtin.Dict.showsAll;rw[if_neg (by rw[hd];exact Bool.false_ne_true)];refine WN (WU (WN (YE ho Lv (WN (wpAny_dictEpoch ho Lv ?_)))));exact WN (Xy (WU ⟨_,rfl,"dict_keyiterator",_,⟨_,WZ _ rfl,rfl⟩,PySem.F.slot_dict_keyiterator_next.lookup,hQ⟩))
theorem B7{Q:Option Value->Shared->Prop}(hit:s.heap.IsKeyIter it d i es.size ep)(hm:oS s.heap d es ep)(fj:i<es.size)
  (hQ:∀h',h'.IsKeyIter it d (i+1) es.size ep->Heap.SameBut it s.heap h'->Q (some es[i].key) { s with heap:=h' }):wpAny (model prog w) A (pyNext (.ref it)) Q E s:=by
 obtain⟨o,ho,hc,hd⟩:=id hit;obtain⟨od,La,hcd,Ls⟩:=hm;unfold pyNext;refine WN (wpAny_attempt (wpAny_callSpecial?_slot (name:=Str.ofString "__next__") hit.typeIs Xk (XJ Xk hit.typeIs PySem.F.entry_dict_keyiterator_next ?_ (PySem.F.args_dict_keyiterator_next_1 _))));refine WN (WU (WN (WN ?_)))
 first|refine WN (Xq hit.typeIs (WU ?_))|refine WN (XB hit.typeIs (WU ?_))
 refine WN (wpAny_fieldsOf ho hd ?_);simp only[show Builtin.Dict_items.ownsTuple "dict_keyiterator" = false by decide,Bool.false_eq_true,if_false];show wpAny _ _ (if (Value.ref d==Value.none)=true then _ else _) _ _ s;rw[if_neg (show ¬ ((Value.ref d==Value.none)=true) from Bool.false_ne_true)];refine WN (WU (WN (YE La Ls ?_)));rw[if_neg (by simp)];refine WN (WU (WN (wpAny_dictEpoch La Ls ?_)));rw[if_neg (by simp)];refine WU ?_;simp only[show ¬ ((i:Int)<0) from by left,if_false,Int.toNat_natCast,Array.getElem?_eq_getElem fj];refine WN ?_
 first|refine WN (Xq hit.typeIs (WU ?_))|refine WN (XB hit.typeIs (WU ?_))
 refine WN (wpAny_isOneOf_keyiter hit.typeIs ?_);show wpAny _ _ (setField (.ref it) 1 (rawInt ((i:Int)+1)) >>= _) _ _ s;refine WN (wpAny_setField ho hd (by simp) ?_);have BH:(s.heap.update it (Obj.mapFields (·.setIfInBounds 1 (rawInt ((i:Int)+1))))).IsKeyIter it d (i+1) es.size ep :=
  ⟨_,Heap.get?_update_self _ ho (Obj.isFreed_of_fields (Obj.data_mapFields hd _)),(Obj.cls_mapFields ..).trans hc,by rw[Obj.data_mapFields hd];simp[rawInt]⟩
 refine WN (Xp (WN (wpAny_isOneOf_keyiter (s:={ s with heap:=s.heap.update it (Obj.mapFields (·.setIfInBounds 1 (rawInt ((i:Int)+1)))) }) BH.typeIs ?_)));show wpAny _ _ (pure es[i].key) _ _ _;exact WU (WU ⟨_,rfl,WU (hQ _ BH (Xt ..))⟩)
theorem Hy{Q:Option Value->Shared->Prop}(hh:A.handled=none)(hit:s.heap.IsKeyIter it d i es.size ep)(hm:oS s.heap d es ep)(GD:es.size<=i)
  (hQ:∀h',Heap.ExtBut it s.heap h'->Q none { s with heap:=h' }):wpAny (model prog w) A (pyNext (.ref it)) Q E s:=by
 obtain⟨o,ho,hc,hd⟩:=id hit;obtain⟨od,La,hcd,Ls⟩:=hm;unfold pyNext;refine WN (wpAny_attempt (wpAny_callSpecial?_slot (name:=Str.ofString "__next__") hit.typeIs Xk (XJ Xk hit.typeIs PySem.F.entry_dict_keyiterator_next ?_ (PySem.F.args_dict_keyiterator_next_1 _))));refine WN (WU (WN (WN ?_)))
 first|refine WN (Xq hit.typeIs (WU ?_))|refine WN (XB hit.typeIs (WU ?_))
 refine WN (wpAny_fieldsOf ho hd ?_);simp only[show Builtin.Dict_items.ownsTuple "dict_keyiterator" = false by decide,Bool.false_eq_true,if_false];show wpAny _ _ (if (Value.ref d==Value.none)=true then _ else _) _ _ s;rw[if_neg (show ¬ ((Value.ref d==Value.none)=true) from Bool.false_ne_true)];refine WN (WU (WN (YE La Ls ?_)));rw[if_neg (by simp)];refine WN (WU (WN (wpAny_dictEpoch La Ls ?_)));rw[if_neg (by simp)];refine WU ?_;simp only[show ¬ ((i:Int)<0) from by left,if_false,Int.toNat_natCast,Array.getElem?_eq_none GD];refine WN ?_
 first|refine WN (Xq hit.typeIs (WU ?_))|refine WN (XB hit.typeIs (WU ?_))
 show wpAny _ _ (setField (.ref it) 0 .none >>= _) _ _ s;refine WN (wpAny_setField ho hd (by simp) ?_);show wpAny _ _ (newExc (.type "StopIteration") [] >>= _) _ _ _;refine WN ?_;simp only[newExc,newTuple];refine WN (Xy ?_ (by size_fits));refine WN (m:=firstArgMember _ _) (wpAny_of_eq (a:=Value.none) (by first|rfl | (simp only[firstArgMember];rfl)) ?_);refine Xy ?_ (by size_fits);simp only[raiseNew];refine WN (wpAny_handled ?_);rw[show A.in1.handled=none from hh];refine WN (WU (wpAny_throw ?_));refine WN (wpAny_isInstance (T:="StopIteration") (b:=true) ⟨_,WZ _ rfl,rfl⟩ isSubtype_stop ?_);exact WU (hQ _ (((Xt ..).extBut.push _).push _))
end
theorem rR:∀a b c:aa,HT.lexLt a b=true->HT.lexLt b c=true->HT.lexLt a c=true
 |[],[],_,h,_=>by rw[HT.gU]at h;cases h
 |[],_::_,[],_,h=>by rw[HT.cw]at h;cases h
 |[],_::_,_::_,_,_=>rfl
 |_::_,[],_,h,_=>by rw[HT.cw]at h;cases h
 |_::_,_::_,[],_,h=>by rw[HT.cw]at h;cases h
 |x::a,y::b,z::c,h1,h2=>by
  rw[HT.dh]at *;by_cases e1:x=y
  ·subst e1;rw[if_pos rfl]at h1;by_cases e2:x=z
   ·subst e2;rw[if_pos rfl]at h2 ⊢;exact rR a b c h1 h2
   ·rw[if_neg e2]at h2 ⊢;exact h2
  ·rw[if_neg e1]at h1;have l1:x<y:=WO h1;by_cases e2:y=z
   ·subst e2;rw[if_neg (by left)];exact Xc l1
   ·rw[if_neg e2]at h2;have l2:y<z:=WO h2;rw[if_neg (by left)];exact Xc (by left)
theorem n4:∀a b:aa,HT.lexLt a b=true->HT.lexLt b a=false
 |[],[],_=>rfl
 |[],_::_,_=>rfl
 |_::_,[],h=>by rw[HT.cw]at h;cases h
 |x::a,y::b,h=>by
  rw[HT.dh]at *;by_cases e:x=y
  ·subst e;rw[if_pos rfl]at h ⊢;exact n4 a b h
  ·rw[if_neg e]at h;have l:x<y:=WO h;rw[if_neg (by left)];exact Xw (by left)
theorem kh:∀a b:aa,a≠b->HT.lexLt a b=true\/HT.lexLt b a=true
 |[],[],h=>absurd rfl h
 |[],_::_,_=>.inl rfl
 |_::_,[],_=>.inr rfl
 |x::a,y::b,h=>by
  rw[HT.dh,HT.dh];by_cases e:x=y
  ·subst e;rw[if_pos rfl,if_pos rfl];exact kh a b λz=>h (by rw[z])
  ·rw[if_neg e,if_neg (Ne.symm e)];rcases Int.lt_or_gt_of_ne e with l|l
   ·exact .inl (Xc l)
   ·exact .inr (Xc l)
def bw(nss:aq):aq:=nss.mergeSort λa b=>!HT.lexLt b a
def zK(nss:aq):Prop:=nss.Pairwise λa b=>HT.lexLt a b=true
theorem tJ:∀{l m:aq},zK l->zK m->l.Perm m->l=m
 |[],m,_,_,p=>(List.perm_nil.mp p.symm).symm
 |a::l,[],_,_,p=>by have:=p.length_eq;simp at this
 |a::l,b::m,h1,h2,p=>by
  have e:a=b:=by
   have ha:a∈b::m:=p.mem_iff.mp WR;have hb:b∈a::l:=p.mem_iff.mpr WR;rcases List.mem_cons.mp ha with e|ha
   ·exact e
   ·rcases List.mem_cons.mp hb with e|hb
    ·exact e.symm
    ·have l1:=(List.pairwise_cons.mp h2).1 a ha;have l2:=(List.pairwise_cons.mp h1).1 b hb;rw[n4 _ _ l1]at l2;cases l2
  subst e;rw[tJ (List.pairwise_cons.mp h1).2 (List.pairwise_cons.mp h2).2 (List.perm_cons a |>.mp p)]
theorem kQ(h:nss.Nodup):zK (bw nss):=by
 have p:(bw nss).Perm nss:=Xg _ _;have nd:(bw nss).Nodup:=p.nodup_iff.mpr h;have sd:(bw nss).Pairwise λa b=>(!HT.lexLt b a)=true:=X5 (λa b c h1 h2=>by
  cases e:HT.lexLt c a with
  |false=>rfl
  |true =>
   exfalso;by_cases Nz:b=c
   ·subst Nz;rw[e]at h1;cases h1
   ·rcases kh b c Nz with l|l
    ·rw[rR _ _ _ l e]at h1;cases h1
    ·rw[l]at h2;cases h2) (λa b=>by
  cases e:HT.lexLt b a with
  |false=>rfl
  |true=>rw[n4 _ _ e];rfl) nss
 exact(sd.and nd).imp λ{a b} ⟨h1,h2⟩=>by
  rcases kh a b h2 with l|l
  ·exact l
  ·rw[l]at h1;cases h1
theorem pB{l:aq}(h:nss.Nodup)(hr:zK l)(p:l.Perm nss):l=bw nss:=tJ hr (kQ h) (p.trans (Xg _ _).symm)
def ltN(nss:aq)(i j:Nat):Bool:=HT.lexLt (nss.getD i []) (nss.getD j [])
theorem FA(h:nss.Nodup):Ord (ltN nss) nss.length :=
 ⟨λa b c _ _ _ h1 h2=>rR _ _ _ h1 h2,λa b _ _ h=>n4 _ _ h,λa b ha hb Nz=>kh _ _ λe=>Nz (by
  have e1:nss.getD a []=nss[a]:=by simp[ha]
  have e2:nss.getD b []=nss[b]:=by simp[hb]
  rw[e1,e2]at e;exact(YI h).mp e)⟩
theorem mK(h:nss.Nodup){p:Array Nat}(ha:Arr p nss.length)(hu:Up (ltN nss) p nss.length):(p.toList.map λi=>nss.getD i [])=bw nss:=by
 refine pB h ?_ ?_
 ·refine List.pairwise_iff_getElem.mpr λi j hi hj dN=>?_;simp only[List.length_map,Array.length_toList]at hi hj;have:=hu i j dN (by rw[<- ha.sz];exact hj);unfold ltN at this;have e:∀k (hk:k<p.size),p.getD k 0=p[k]:=λk hk=>by simp[Array.getD,hk]
  rw[e i hi,e j hj]at this;simpa using this
 ·have e:nss=(List.range nss.length).map λi=>nss.getD i []:=by
   refine XM (by simp) λi h1 h2=>?_;simp[h1]
  refine(ha.pm.map λi=>nss.getD i []).trans ?_;rw[<- e]
variable {ep:Nat}
section
variable {prog:ax}{w:World}{A:ay}{E:aw}{s:Shared}
theorem xl{a:Addr}{n:Nat}{P:PySem.Fin->Shared->Prop}(hu:A.units<cLine)(ho:s.heap.get? a=some (seqObj "list" vs.toArray n))(c_:vs.length<64)(Le:nss.Nodup)
  (ht:mB (((s.heap.update a (Obj.mapSeq λ_=>#[])).push (seqObj "tuple" vs.toArray 0)).push (seqObj "list" #[] 0)) vs nss)
  (h:∀p:Array Nat,Arr p vs.length->(p.toList.map λi=>nss.getD i [])=bw nss->P (.done (.ret .none)) { s with heap:=sortedHeap s.heap a vs (List.toArray (p.toList.map λi=>vs.getD i Value.none)) }) :
  wpAny (model prog w) A (Builtin.«list.sort» ⟨[.ref a],[]⟩) P E s:=by
 rw[list_sort_plain];have ha:a<s.heap.objs.size:=WX ho;have hsz:vs.toArray.size=vs.length:=by simp
 have hz:vs.length<=sizeLine:=by rw[sizeLine_eq];left
 have hl:=ht.1;refine WN (X1 ho rfl (WN (XC ho rfl ?_ (by rw[hsz];exact hz) (W6 _))));obtain⟨e1,BE⟩:∃e1,(s.heap.update a (Obj.mapSeq λ_=>#[])).get? a=some (seqObj "list" #[] e1):=⟨_,XU ho (λ_=>#[])⟩
 refine WN (seqEpoch_at BE rfl (WN (wpAny_newTuple (WN (XO (Xp ?_) (W6 _))) (by simpa using hz))));have Su:(((s.heap.update a (Obj.mapSeq λ_=>#[])).push (seqObj "tuple" vs.toArray 0)).push (seqObj "list" #[] 0)).get? a=some (seqObj "list" #[] e1):=WQ _ (WQ _ BE);show wpAny (model prog w) A _ P E ({ s with heap:=((s.heap.update a (Obj.mapSeq λ_=>#[])).push (seqObj "tuple" vs.toArray 0)).push (seqObj "list" #[] 0) }:Shared);dsimp only;have fin:∀(bh:SortSt) (p:Array Nat),Arr p vs.length->(p.toList.map λi=>nss.getD i [])=bw nss->(arrOf bh).map (·.2)=List.toArray (p.toList.map λi=>vs.getD i Value.none)->failedOf bh=none->wpAny (model prog w) A (do
   let touched:=(<- seqEpoch a) != e1
   Builtin.List.listUpdate (.ref a) λ_=>(arrOf bh).map (·.2)
   if let some e:=failedOf bh then rule "list.sort.comparison-raised";throw e
   if touched then rule "list.sort.modified";raiseError "ValueError" "list modified during sort"
   ret .none) P E ({ s with heap:=((s.heap.update a (Obj.mapSeq λ_=>#[])).push (seqObj "tuple" vs.toArray 0)).push (seqObj "list" #[] 0) }:Shared):=by
  intro bh p hp hs hA hF;refine WN (seqEpoch_at Su rfl ?_);rw[hA];refine WN (XC Su rfl ?_ (W6 _) (by rw[List.size_toArray,List.length_map,Array.length_toList,hp.sz];exact X7 hz));rw[hF];simp only[bne_self_eq_false,Bool.false_eq_true,if_false];exact WU (h p hp hs)
 by_cases h2:vs.toArray.size<2
 ·rw[if_pos h2,if_pos h2];refine WN (WU ?_);rw[StateT.run_pure];refine WN (WU ?_);rw[hsz]at h2;have Qv:Arr (List.toArray (List.range vs.length)) vs.length:=⟨by simp,by simp⟩
  refine fin (SortSt.mk' general' (vs.toArray.zip vs.toArray) #[] 7 none) (List.toArray (List.range vs.length)) Qv ?_ ?_ rfl
  ·rw[hl]at Qv ⊢;exact mK Le Qv λi j dN hj=>by left
  ·apply Array.toList_inj.mp;show(Array.map (·.2) (vs.toArray.zip vs.toArray)).toList=_;rw[Array.toList_map,show(vs.toArray.zip vs.toArray)=pairsOf vs from rfl,pairsOf_toList,List.map_snd_zip (Nat.le_refl _)];refine XM (by simp) λi h1 h2=>?_;simp[h1]
 ·rw[if_neg h2,if_neg h2];rw[hsz]at h2;refine WN (kind_any ht (λz=>by rw[z]at h2;simp at h2) λκ hk=>?_);have ok:=AA (FA Le) (by rw[<- hl];left);refine WN (W7 (PySem.W.kat_run (ks:=vs) (vs:=vs) (κ:=κ) (Q:=λbh s'=>s'=({ s with heap:=((s.heap.update a (Obj.mapSeq λ_=>#[])).push (seqObj "tuple" vs.toArray 0)).push (seqObj "list" #[] 0) }:Shared)/\∃p,Arr p vs.length/\(p.toList.map λi=>nss.getD i [])=bw nss/\(arrOf bh).map (·.2)=List.toArray (p.toList.map λi=>vs.getD i Value.none)/\failedOf bh=none)
   (G:=λp s'=>s'=({ s with heap:=((s.heap.update a (Obj.mapSeq λ_=>#[])).push (seqObj "tuple" vs.toArray 0)).push (seqObj "list" #[] 0) }:Shared)/\Arr p vs.length/\(p.toList.map λi=>nss.getD i [])=bw nss) rfl (by left) c_ (λp bh s' WD Vn hf hG=>⟨hG.1,p,hG.2.1,hG.2.2,PySem.W.kat_snds rfl Vn,hf⟩) ?_) (λr s' ⟨e,p,hp,hs,hA,hF⟩=>?_) λ_ _ e=>e)
  rotate_left
  ·subst e;exact fin r.2 p hp hs hA hF
  ·rw[hl];refine uT (lt:=ltN nss) (n:=nss.length) (λi j C hi hj hC=>?_) _ ok.1 ⟨rfl,ok.2.1,mK Le ok.2.1 ok.2.2⟩;obtain⟨x,its,e1,i1,i2⟩:=ht.2 i _ (W3 hi);obtain⟨y,Bo,e2,j1,j2⟩:=ht.2 j _ (W3 hj);unfold PySem.W.kas_ask;rw[show vs.getD i Value.none=.ref x by simp[e1],show vs.getD j Value.none=.ref y by simp[e2]];refine F0 hk hu i1 j1 i2 j2 ?_;have e3:nss.getD i []=nss[i]:=by simp[hi]
   have e4:nss.getD j []=nss[j]:=by simp[hj]
   have SU:C (HT.lexLt (nss.getD i []) (nss.getD j [])) _:=hC;rw[e3,e4]at SU;exact SU
theorem zm{es:Array DictEntry}(hh:A.handled=none)(I d:Addr)(BF:d≠I):Walks prog w A I [I,d] [I] es.size (λi v=>∃e,es[i]?=some e/\v=e.key) (λi h=>h.IsKeyIter I d i es.size ep/\oS h d es ep) where
 sub:=λb hb=>by simp at hb;simp[hb]
 frame:=λ_ _ _ st hk=>⟨st.1.at λo e=>hk I (by simp) o e,let ⟨o,ho,r⟩:=st.2;⟨o,hk d (by simp) o ho,r⟩⟩
 item:=λi s Q E hi st hQ=>B7 st.1 st.2 hi λh' BH vK=>hQ _ h' s.toks ⟨es[i],Array.getElem?_eq_getElem hi,rfl⟩ ⟨BH,let ⟨o,ho,r⟩:=st.2;⟨o,vK.extBut d o BF ho,r⟩⟩ λb o hb e=>vK.extBut b o (λh=>hb (by simp[h])) e
 done:=λs Q E st hQ=>Hy hh st.1 st.2 (WV _) λh' Vg=>hQ h' s.toks λb o hb e=>Vg b o (λh=>hb (by simp[h])) e
 self:=λ_ _ _ _ st hQ=>wpAny_pyIter_keyiter st.1 hQ
theorem Hx{d:Addr}{es:Array DictEntry}(lo:(d==sysModules)=false):PySem.W.KdlSrc prog w "dict" d d es.size (λi v=>∃e,es[i]?=some e/\v=e.key) (λh=>oS h d es ep) where
 type:=λ_ hm=>hm.typeIs
 there:=λ_ hm=>let ⟨_,ho,_⟩:=hm;⟨WX ho,WX ho⟩
 keep:=λ_ _ hm hk=>let ⟨o,ho,r⟩:=hm;⟨o,hk d (.inl rfl) o ho,r⟩
 notList:=by decide
 notTuple:=by decide
 hint:=λ_ _ _ _ hm hq=>PySem.W.kdl_hint_dict hm.typeIs hq
 iter:=λ_ _ hh hm=>⟨_,_,(λ_ _ hq=>B8 lo hm hq),zm hh _ d (let ⟨_,ho,_⟩:=hm;W2 (WX ho)),⟨⟨_,WZ _ rfl,rfl,rfl⟩,let ⟨o,ho,r⟩:=hm;⟨o,WQ _ ho,r⟩⟩⟩
theorem pA{d:Addr}{es:Array DictEntry}(hh:A.handled=none)(hu:A.units+2<cLine)(lo:(d==sysModules)=false)(hm:oS s.heap d es ep)(c_:es.size<64)(Le:nss.Nodup)(ht:mB s.heap (es.toList.map (·.key)) nss)
  (h:∀(S:Addr) (h':Heap) (tk e:Nat) (p:Array Nat),s.heap.get? S=none->(∀b o,s.heap.get? b=some o->h'.get? b=some o)->Arr p es.size->(p.toList.map λi=>nss.getD i [])=bw nss ->
   h'.get? S=some (seqObj "list" (List.toArray (p.toList.map λi=>(es.toList.map (·.key)).getD i Value.none)) e)->Q (.ref S) { s with heap:=h',toks:=tk }) :
  wpAny (model prog w) A (call (.builtin "sorted") [.ref d]) Q E s:=by
 refine Calls.call_function_entry kind_sorted plain_sorted entry_sorted (args_sorted1 _) ?_;unfold Builtin.«sorted»;have hz:es.size<=sizeLine:=by rw[sizeLine_eq];left
 refine WN (m:=checkCount "sorted" 1 1 _) (WU (WN (PySem.W.kdu_collect (A:=A.in1) (Hx lo) hh hm hz λh1 tk acc hk fJ=>?_)));have LH:acc.toList=es.toList.map (·.key):=by
  refine List.ext_getElem? λi=>?_;rw[List.getElem?_map,Array.getElem?_toList,Array.getElem?_toList];by_cases hi:i<es.size
  ·have Sy:i<acc.size:=by rw[fJ.1];exact hi
   obtain⟨e,he,hv⟩:=fJ.2 i acc[i] (Array.getElem?_eq_getElem Sy);rw[Array.getElem?_eq_getElem Sy,he,hv];rfl
  ·rw[Array.getElem?_eq_none (by rw[fJ.1];left),Array.getElem?_eq_none (by left)];rfl
 rw[LH];generalize PK:es.toList.map (·.key)=vs at *;have qN:vs.length=es.size:=by rw[<- PK];simp
 refine WN (XO ?_ (by rw[qN];exact hz));show wpAny _ _ _ _ _ ({ s with heap:=h1.push (seqObj "list" vs.toArray 0),toks:=tk }:Shared);have Dw:(h1.push (seqObj "list" vs.toArray 0)).get? h1.objs.size=some (seqObj "list" vs.toArray 0):=WZ _ rfl;have k6:∀b o,s.heap.get? b=some o->((((h1.push (seqObj "list" vs.toArray 0)).update h1.objs.size (Obj.mapSeq λ_=>#[])).push (seqObj "tuple" vs.toArray 0)).push (seqObj "list" #[] 0)).get? b=some o:=λb o e=>by
  refine WQ _ (WQ _ ?_);rw[Heap.get?_update_other _ _ (Nat.ne_of_gt (Heap.lt_size (hk b o e)))];exact WQ _ (hk b o e)
 have hle:s.heap.get? h1.objs.size=none:=by
  cases q:s.heap.get? h1.objs.size with
  |none=>rfl
  |some o=>exact absurd (WX (hk _ o q)) (Xh _)
 refine WN (Xp (XJ slot_list_sort ⟨_,Dw,rfl⟩ entry_list_sort (xl (s:={ s with heap:=h1.push (seqObj "list" vs.toArray 0),toks:=tk }) (nss:=nss) (show A.in1.in1.units<cLine by show A.units+1+1<cLine;left) Dw (by rw[qN];exact c_) Le (ht.mono k6) λp hp hs=>⟨_,rfl,?_⟩) (args_list_sort _)));obtain⟨e,he⟩:=sortedHeap_at (out:=List.toArray (p.toList.map λi=>vs.getD i Value.none)) Dw;refine WU ⟨_,rfl,h h1.objs.size _ tk e p hle (λb o e=>?_) (by rw[<- qN];exact hp) hs he⟩;have fj:=WX (hk b o e);rw[sortedHeap_old (Nat.ne_of_lt fj) (by rw[size_push'];exact Nat.lt_succ_of_lt fj)];exact WQ _ (hk b o e)
end
variable {H:Hp}
theorem FJ{P:ax}{w:World}{h:Heap}{a:Addr}{o:HO}(x:cA P w H h a o):∃u,h.get? a=some u:=by
 cases o with
 |lst xs=>obtain⟨_,_,_,_,e⟩:=x;exact⟨_,e⟩
 |tup xs=>obtain⟨_,_,_,o,e,_⟩:=x;exact⟨_,e⟩
 |dK lj=>obtain⟨_,_,_,_,o,_,_,e,_⟩:=x;exact⟨_,e⟩
 |dT lj=>obtain⟨_,_,_,_,o,_,_,e,_⟩:=x;exact⟨_,e⟩
 |set S n=>obtain⟨o,_,_,_,e,_⟩:=x;exact⟨_,e⟩
 |ins C dx fs=>obtain⟨_,_,_,e,_⟩:=x;exact⟨_,e⟩
 |own y=>exact x
 |xd fs=>obtain⟨_,⟨o,_,_,e,_⟩,_⟩:=x;exact⟨_,e⟩
 |kW lo hi=>obtain⟨_,_,_,e⟩:=x;exact⟨_,e⟩
 |fu o u=>exact⟨_,x.1⟩
 |wt ps=>obtain⟨_,e⟩:=x;exact⟨_,e⟩
 |met f y=>exact⟨_,x⟩
 |ext φ=>exact x.2.1
variable {X:Cx}
theorem Inv.Dm{pins:ak}{σ:St}{s:Shared}{t':Nat}{a:Addr}{o:HO}(I:Inv X pins σ H s)(k:∀b u,s.heap.get? b=some u->h'.get? b=some u)(ha:s.heap.get? a=none)(new:cA X.prog X.w (upd H a o) h' a o):
  H a=none/\Inv X pins σ (upd H a o) { s with heap:=h',toks:=t' }:=by
 have hn:H a=none:=by
  cases q:H a with
  |none=>rfl
  |some u =>
   obtain⟨z,hz⟩:=FJ (I.ck a u q);rw[ha]at hz;exact nk hz
 have up:∀b u,H b=some u->upd H a o b=some u:=λb u e=>by rw[aQ (br e hn)];exact e
 refine⟨hn,I.step (g':=s.gens) (d':=s.drawn) (ch:=[]) (λb hb=>nomatch hb) (λb o _ _ _ e _=>k b o e) (λb o _ _ _ e _=>⟨o.slots,k b o e⟩) (λb u _ e n=>?_)
  (λb o _ e=>⟨o,k b o e⟩) (λ_ _ e=>up _ _ e) (λ_ _ _ e=>up _ _ e) (λ_ z=>z.keep (λq=>up _ _ q) (λo _ q=>k _ _ q) λ_ _ _ q=>up _ _ q) (λm hm=>?_) (λb u e=>?_) I.bare⟩
 ·rw[aQ λz=>by rw[z,ha]at e;cases e];exact n
 ·obtain⟨o,es,ep,ho,r⟩:=hm;exact⟨o,es,ep,k _ o ho,r⟩
 ·by_cases z:b=a
  ·subst z;rw[aV]at e;cases e;exact new
  ·rw[aQ z]at e;exact(I.ck b u e).kO (λc v _ q=>k c v q) (λ_ q=>up _ _ q) λ_ _ q=>up _ _ q
section
variable {X:Cx}{pins:ak}{σ:St}{H:Hp}{s:Shared}{d:Addr}{cs:aq}{as:aO}{xs:ae}{ep:Nat}
theorem EX(I:Inv X pins σ H s)(h:H d=some (.ext (DO d cs as xs ep))):∃es:Array DictEntry,oS s.heap d es ep/\es.size=as.length/\es.toList.map (·.key)=as.map Value.ref/\cs.Nodup/\as.length=cs.length/\(d==sysModules)=false:=by
 obtain⟨⟨zs,o,es,e1,e2,e3,ho,hx,hd,he,hn,hl,hs⟩,_⟩:=(show cA X.prog X.w H s.heap d (.ext (DO d cs as xs ep)) from I.ck d _ h)
 refine⟨es,⟨o,ho,hx,hd⟩,?_,?_,hn,?_,hs⟩
 ·rw[<- Array.length_toList,he,<- e2,List.length_map,List.length_map]
 ·rw[he,<- e2,List.map_map,List.map_map];rfl
 ·rw[<- e1,<- e2,List.length_map,List.length_map]
end
def Hw(xs:ab):O D:=match one xs with
 |some d=>match gu d with
  |some z=>ok (.lst .ow (z.1.map eL))
  |none=>none
 |none=>none
theorem gi(g:Fl->Fl):∀cs:aq,aG g (cs.map eL)=cs.map eL
 |[]=>rfl
 |c::cs=>by
  show aZ g (eL c)::aG g (cs.map eL)=_;rw[gi g cs];have:∀c:aa,aG g (c.map D.int)=c.map D.int:=λc=>by
   induction c with
   |nil=>rfl
   |cons i c ih=>show D.int i::aG g (c.map D.int)=_;rw[ih];rfl
  show D.tup (aG g (c.map D.int))::_=_;rw[this];rfl
theorem AL{T:j6}{N:gx}{k:aX}{a:Addr}{c:aa}(h:T a (c.map V.int)):Rep T N k (.ref a) (eL c):=.tup h (az.ints c)
theorem sF(hc:X.calm=true)(hu:X.A.units+2<cLine):eJ X (.builtin "sorted") (λxs H Q=>∃(d:Addr) (cs:aq) (as:aO) (ys:ae) (ep:Nat),xs=[.ref d]/\H d=some (.ext (DO d cs as ys ep))/\dw (aT X.K H) as cs/\cs.length<64 /\
  ∀(l:Addr) (bs:aO),H l=none->dw (aT X.K H) bs (bw cs)->Q (.ref l) (upd H l (.lst (bs.map V.ref)))):=by
 intro pins s σ H xs us Q I r h;obtain⟨d,cs,as,ys,ep,rfl,hd,hk,c_,q⟩:=h;obtain⟨u,rfl,ru⟩:=r.one;cases ru;obtain⟨es,PU,hz,Dx,P_,hlen,K2⟩:=EX I hd;have ht:mB s.heap (es.toList.map (·.key)) cs:=by
  rw[Dx];refine⟨by rw[List.length_map,hlen],λi ns e=>?_⟩;have hi:i<as.length:=by rw[hlen];exact(List.getElem?_eq_some_iff.mp e).1
  obtain⟨Bo,rj,ij,_⟩:=I.tuple (hk.tup i as[i] ns (W3 hi) e);exact⟨as[i],Bo,by rw[List.getElem?_map,List.getElem?_eq_getElem hi];rfl,ij,cX rj⟩
 refine pA (I.ok.hd hc) hu K2 PU (by rw[hz,hlen];exact c_) P_ ht λS h' tk e p hS U6 hp hs hl=>?_;rw[Dx]at hl;have PZ:(p.toList.map λi=>(as.map Value.ref).getD i Value.none)=(p.toList.map λi=>as.getD i 0).map Value.ref:=by
  rw[List.map_map];refine W5 λi hi=>?_;have jM:i<as.length:=by
   have:=List.mem_range.mp (hp.pm.mem_iff.mp hi);left
  simp[jM]
 rw[PZ]at hl;have Qo:dw (aT X.K H) (p.toList.map λi=>as.getD i 0) (bw cs):=by
  rw[<- hs];refine⟨by simp,λj a c h1 h2=>?_⟩;rw[List.getElem?_map]at h1 h2;cases hj:p.toList[j]? with
  |none=>rw[hj]at h1;exact nk h1
  |some i =>
   rw[hj]at h1 h2;have jM:i<as.length:=by
    have:=List.mem_range.mp (hp.pm.mem_iff.mp (Xd hj));left
   cases h1;cases h2;exact hk.tup i _ _ (by simp[jM]) (by simp[show i<cs.length by left])
 have KY:∀l:aO,Vals (l.map V.ref) (l.map Value.ref):=λl=>by
  induction l with
  |nil=>exact .nil
  |cons a l ih=>exact .cons rfl ih
 have hsz:sizeLine=16777216:=XF;obtain⟨hn,I'⟩:=Inv.Dm (t':=tk) (o:=.lst ((p.toList.map λi=>as.getD i 0).map V.ref)) I U6 hS ⟨by rw[List.length_map,List.length_map,Array.length_toList,hp.sz];left,_,e,KY _,hl⟩;exact⟨.ref S,_,I',rfl,q S _ hn Qo⟩
def jv(xs:ab):O D:=match one xs with
 |some d=>match gu d with
  |some z=>if z.1.length<64 then ok (.lst .ow ((bw z.1).map eL))else none
  |none=>none
 |none=>none
theorem v5{xs:ab}{r:D}(h:jv xs=ok r):∃f cs vs,xs=[.cE f cs vs]/\cs.length<64/\r=.lst .ow ((bw cs).map eL):=by
 unfold jv at h;cases h1:one xs with
 |none=>rw[h1]at h;exact nk h
 |some d =>
  rw[h1]at h;have h:(match gu d with|some z=>if z.1.length<64 then ok (D.lst .ow ((bw z.1).map eL))else none|none=>none)=ok r:=h;cases h2:gu d with
  |none=>rw[h2]at h;exact nk h
  |some z =>
   rw[h2]at h;obtain⟨hl,rfl⟩:=qe (show(if z.1.length<64 then ok (D.lst .ow ((bw z.1).map eL))else none)=ok r from h);obtain⟨f,e⟩:=lV h2;exact⟨f,z.1,z.2,by rw[cW h1,e],hl,rfl⟩
theorem mN{T:j6}{N:gx}:∀{bs:aO} {cs:aq} {k:aX} {n:Nat},dw T bs cs->az T N k n (bs.map V.ref) (cs.map eL)
 |[],[],_,_,_=>.nil
 |[],_::_,_,_,h=>by have:=h.len;simp at this
 |_::_,[],_,_,h=>by have:=h.len;simp at this
 |b::bs,c::cs,_,_,h=>.cons (AL (h.tup 0 b c rfl rfl)) (mN ⟨by have:=h.len;simpa using this,λj a c' h1 h2=>h.tup (j+1) a c' h1 h2⟩)
theorem zk{Φ:aU}{n:Nat}(hΦ:Φ n=jv){sc:Scope}{bl:av}{k:Nat}(L:PX X sc bl k){e:Expr}{args:au}(he:eF ("sorted" : Str) sc bl e=some args){F:ai}{cs:aB}(hs:mC X F Φ cs args):PE X e (tD X F Φ (.bX n cs))/\PT X e (ff X F Φ (.bX n cs)):=by
 obtain⟨p,pos,a,rfl,rfl,h1,h2⟩:=gM he;cases cs with
 |nil=>exact hs.elim
 |cons c cs=>cases cs with
  |cons _ _=>exact hs.2.2.2.elim
  |nil =>
   have pa:PA X [a] (mJ X F Φ [c]):=PA.imp (cO hs.1 (PA.imp eW λ_ _ _ h=>eO h) (hs.2.1 _)) λ_ _ _ h=>cU h;have hu:X.A.units+2<cLine:=Xe (Nat.add_le_add_left (by decide:2<=64) _) L.room.units;have this:PE X (.Call (.Name ("sorted" : Str) p) [a] [] pos) (tD X F Φ (.bX n [c])):=by
    refine PE.imp (cV (sF L.calm hu) (L.gl h1) (L.bl _ h2) (by decide +kernel) pa (he:=hs.2.1 _)) λσ H Q hq=>?_;obtain⟨R,τ,ρ,d,Si,ev,hq⟩:=hq;obtain⟨xs,cL,ev⟩:=aA ev;rw[hΦ]at ev;obtain⟨f,ks,vs,rfl,hl,rfl⟩:=v5 ev;refine⟨R,τ,ρ,_,Si,cL,λus H1 e1 r1=>?_⟩;obtain⟨τt,fr,rs⟩:=r1;obtain⟨v,rfl,rv⟩:=rs.one;cases rv with
    |cE hn hk hr =>
     refine⟨_,ks,_,_,_,rfl,hn.dat,hk,hl,λl bs vL Qo=>hq _ _ (e1.trans (aJ.upd vL)) (bN.p5 (e1.free vL) (e1.trans (aJ.upd vL)) aV ?_)⟩;exact mN (Qo.imp λ_ _ h=>aT.same (aJ.upd vL) h)
   exact⟨this,cJ this λ_=>rfl⟩
end DI
end
section
namespace DI
open PySem (Str)
abbrev Row:=Rat×aa
abbrev aR:=List Row
def rD(r:Row):D:=.tup [qD r.1,.tup (af r.2)]
@[simp]theorem FZ(g:Fl->Fl)(r:Row):aZ g (rD r)=rD r:=by unfold rD;simp
@[simp]theorem GO(g:Fl->Bool)(r:Row):aS g (rD r)=false:=by unfold rD;simp
noncomputable def iE(rs:aR):ab:=rs.map rD
@[simp]theorem ka(rs:aR):(iE rs).length=rs.length:=XW ..
@[simp]theorem p7(g:Fl->Fl)(rs:aR):aG g (iE rs)=iE rs:=cf g (FZ g) rs
@[simp]theorem LB(g:Fl->Bool)(rs:aR):aP g (iE rs)=false:=bU g (GO g) rs
theorem Ke(n:Nat)(r:Row):eX (n+2) (rD r)=true:=by
 unfold rD;rw[nP,List.all_cons,List.all_cons,tW n];have:eX (n+1) (.tup (af r.2))=true:=by
  rw[nP];exact nQ (λ_=>by cases n<;>rfl) r.2
 rw[this];rfl
theorem zd(a b:aa):dC (af a) (af b)=decide (a=b):=i4 (λx y=>by show(x==y)=_;rfl) a b
theorem L5(r s:Row):ju (rD r) (rD s)=decide (r=s):=by
 unfold rD;show(ju (qD r.1) (qD s.1)&&(dC (af r.2) (af s.2)&&true))=_;rw[zc,zd,Bool.and_true];have:decide (r=s)=decide (r.1=s.1/\r.2=s.2):=by
  congr 1;exact propext ⟨λh=>by rw[h];exact⟨rfl,rfl⟩,λh=>Prod.ext h.1 h.2⟩
 rw[this,<- Bool.decide_and]
theorem BW(r s:aR):dC (iE r) (iE s)=decide (r=s):=i4 L5 r s
def Rt(rs:aR):Prop:=∃W:Nat,0<W/\W<64/\∀r∈rs,r.1.den∣W
def Rw(n:Nat)(l:aa):Prop:=l.Nodup/\l.length<=n/\∀h∈l,0<=h/\h<(n:Int)
theorem zZ.rw{n:Nat}{l:aa}(h:zZ n l):Rw n l:=⟨h.nodup,h.len,h.2⟩
structure Dp(P:aa->Prop)(k n:Nat)(rs:aR):Prop where
 n1:1<=n
 n2:n<=12
 vY:k*(rs.length+1)<=66
 fin:k*(rs.length+1)<=60\/Rt rs
 len:rs.length<=1000
 lot:∀r∈rs,P r.2
 pos:∀r∈rs,0<r.1
 sm:∀r∈rs,Sm k r.1
 one:(rs.map (·.1)).sum=1
 rise:zK (rs.map (·.2))
variable {rs:aR}
theorem Dp.imp{P Q:aa->Prop}{k n:Nat}(I:Dp P k n rs)(h:∀r∈rs,P r.2->Q r.2):Dp Q k n rs:=⟨I.n1,I.n2,I.vY,I.fin,I.len,λr hr=>h r hr (I.lot r hr),I.pos,I.sm,I.one,I.rise⟩
noncomputable def oE(rs:aR):aM:=rs.map (·.1)
section
variable {P:aa->Prop}{k n:Nat}{rs:aR}(I:Dp P k n rs)
include I
theorem Dp.EC:zX k (oE rs):=⟨λq hq=>by
 obtain⟨r,hr,rfl⟩:=List.mem_map.mp hq;exact I.sm r hr,by
  have:=I.vY;have h:k*(oE rs).length<=k*(rs.length+1):=XR _ (by simp[oE]);left,by simp[oE];exact I.len⟩
omit I in
theorem iU{W:Nat}:∀(qs:aM) (b:Nat),b∣W->(∀q∈qs,q.den∣W)->qs.foldl (λb q=>Nat.lcm b q.den) b∣W
 |[],_,h,_=>h
 |q::qs,b,h,hq=>iU qs _ (Nat.lcm_dvd h (hq q WR)) λp hp=>hq p (WT _ hp)
theorem Dp.bot:0<bD (oE rs)/\bD (oE rs)<2 ^ 61/\∀q∈oE rs,q.den∣bD (oE rs):=by
 obtain⟨a,b,c⟩:=I.EC.lcm;refine⟨a,?_,c⟩;rcases I.fin with f|⟨W,w0,w1,w2⟩
 ·refine WY b (W8 (by decide) ?_);have h:k*(oE rs).length<=k*(rs.length+1):=XR _ (by simp[oE]);left
 ·have:bD (oE rs)∣W:=iU _ 1 (Nat.one_dvd _) λq hq=>by
   obtain⟨r,hr,rfl⟩:=List.mem_map.mp hq;exact w2 r hr
  exact Xe (XQ w0 this) (WY w1 (by decide))
theorem Dp.top{r:Row}(hr:r∈rs):(dg (bD (oE rs)) r.1).natAbs<2 ^ 64:=by
 obtain⟨a,b,c⟩:=I.EC.lcm;have s:=I.sm r hr;unfold dg;rw[Int.natAbs_mul,Int.fdiv_eq_ediv_of_nonneg _ (by left),<- Int.natCast_ediv,Int.natAbs_natCast];have h4:(oE rs).length=rs.length:=by simp[oE]
 have h3:=I.vY;rcases I.fin with f|⟨W,w0,w1,w2⟩
 ·have h1:bD (oE rs) / r.1.den<2 ^ (1+k*(oE rs).length):=Xe (Yq _ _) b;have h2:=bF s.1 h1;refine WY h2 (W8 (by decide) ?_);rw[h4];rw[Nat.mul_succ]at f;left
 ·have:bD (oE rs)∣W:=iU _ 1 (Nat.one_dvd _) λq hq=>by
   obtain⟨r,hr,rfl⟩:=List.mem_map.mp hq;exact w2 r hr
  have h1:bD (oE rs) / r.1.den<2 ^ 6:=Xe (Yq _ _) (Xe (XQ w0 this) w1);have h2:=bF s.1 h1;refine WY h2 (W8 (by decide) ?_);have hl:1<=rs.length:=Xl hr;have:k*2<=k*(rs.length+1):=XR _ (by left);left
end
theorem Rw.P4{n:Nat}{l:aa}(h:Rw n l):uj (.tup (af l)) n=true:=by
 have h1:(af l).all (rZ n)=true:=by
  unfold af;rw[List.all_map,List.all_eq_true];intro x hx;have:=h.2.2 x hx;simp[rZ,this.1,this.2]
 have h2:qw l=l:=by
  have:=uG l [] (by simp) h.1;rw[List.nil_append]at this;exact this
 simp[uj,h1,pY,h2]
theorem Rw.eK{n:Nat}{l:aa}(h:Rw n l)(hn:n<=12):Mi (.tup (af l)):=by
 have:=h.2.1;show(af l).length<64;simp;left
def yj(rs:aR):ab:=rs.map λr=>.tup (af r.2)
@[simp]theorem FW(g:Fl->Fl)(rs:aR):aG g (yj rs)=yj rs:=cf g (λr=>by simp) rs
@[simp]theorem GJ(g:Fl->Bool)(rs:aR):aP g (yj rs)=false:=bU g (λr=>by simp) rs
def N4(b:Nat)(rs:aR):ab:=rs.map λr=>.tup [.int (dg b r.1),.tup (af r.2)]
@[simp]theorem Ko(g:Fl->Fl)(b:Nat)(rs:aR):aG g (N4 b rs)=N4 b rs:=cf g (λr=>by simp) rs
@[simp]theorem LA(g:Fl->Bool)(b:Nat)(rs:aR):aP g (N4 b rs)=false:=bU g (λr=>by simp) rs
theorem Dp.some{P:aa->Prop}{k n:Nat}(I:Dp P k n rs):1<=rs.length:=by
 cases rs with
 |nil=>have:=I.one;simp at this
 |cons r rs=>simp
variable {Φ:aU}{ρ:aY}
theorem wI{i j:Nat}{k e:CE}{ρ':aY}{d:D}{z:Int}{ds:ab}(h1:gL Φ e ρ=ok (d,ρ'))(h2:bg Φ k ρ'=ok (.int z))(h3:ρ'[i]?=some (some (.lst .ow ds)))(h4:oU ds.length z=some j):
  lN Φ (.setI i k e) ρ=ok (.nx,ρ'.set i (some (.lst .ow (ds.set j d)))):=by
 show bd (gL Φ e ρ) _=_;rw[h1,dj];dsimp only;rw[h2];show(match rF ρ'[i]? with|some ds=>_|none=>_)=_;rw[h3];show(match oU ds.length z with|some j=>_|none=>_)=_;rw[h4]
theorem yy{n:Nat}{h:Int}(h0:0<=h)(h1:h<n):oU n h=some h.toNat:=by
 unfold oU;rw[if_pos h0,if_pos h1]
theorem xn{t b:Int}{k:Nat}(h0:b≠0)(h1:t.natAbs<2 ^ k)(h2:b.natAbs<2 ^ k):Sm k (Rat.divInt t b):=vi h0 h1 h2
theorem lT{t b:Int}(ht:0<t)(hb:0<b):0<Rat.divInt t b:=by
 rw[Rat.divInt_eq_div];have h1:(0:Rat)<(t:Rat):=by
  have:=Xu (a:=0) (b:=t);simpa using this.mpr ht
 have h2:(0:Rat)<(b:Rat):=by
  have:=Xu (a:=0) (b:=b);simpa using this.mpr hb
 rw[Rat.div_def];exact Rat.mul_pos h1 (Rat.inv_pos.mpr h2)
theorem Sm.neg{k:Nat}{q:Rat}(h:Sm k q):Sm k (-q):=⟨by simpa using h.1,h.2⟩
theorem Sm.zero(k:Nat)(h:1<=k):Sm k 0:=by
 have:Sm 1 (0:Rat):=by constructor<;>decide
 exact this.mono h
theorem Sm.sum{k:Nat}:∀{qs:aM},(∀q∈qs,Sm k q)->Sm (1+(k+1)*qs.length) qs.sum
 |[],_=>Sm.zero _ (by simp)
 |q::qs,h=>by
  have h1:=h q WR;have h2:=Sm.sum (qs:=qs) λp hp=>h p (WT _ hp);rw[List.sum_cons];refine(h1.add h2).mono ?_;rw[List.length_cons,Nat.mul_succ];left
noncomputable def Ow(l:aa)(f:Int->Rat):Rat:=(l.map f).sum
@[simp]theorem Js(f:Int->Rat):Ow [] f=0:=rfl
noncomputable def JX(ws xs:aM):aM:=(ws.zip xs).map λp=>p.1*p.2
noncomputable def aE(ts:aa)(h:Int):Int:=ts.getD h.toNat 0
theorem Cq{ts:aa}{h:Int}(h0:0<=h)(h1:h<ts.length):ni (af ts) h=ok (.int (aE ts h)):=by
 have hl:h.toNat<ts.length:=by left
 have:=at_of (ds:=af ts) (d:=.int (aE ts h)) h0 (by
  rw[js,List.getElem?_eq_getElem hl];show some (D.int ts[h.toNat])=_;unfold aE;simp[hl])
 simpa using this
structure Gs(j n:Nat)(ws xs:aM):Prop where
 l1:ws.length=n
 l2:xs.length=n
 s1:∀q∈ws,Sm j q
 s2:∀q∈xs,Sm j q
 jj:j<=100
variable {ws xs:aM}
theorem Gs.EC{j n:Nat}(G:Gs j n ws xs)(hn:n<=12):zX (j+j) (JX ws xs):=by
 have hl:(JX ws xs).length=n:=by unfold JX;rw[List.length_map,List.length_zip,G.l1,G.l2,Nat.min_self]
 have hj:=G.jj;refine⟨λq hq=>?_,?_,by left⟩
 ·obtain⟨p,hp,rfl⟩:=List.mem_map.mp hq;have m:=List.of_mem_zip hp;exact(G.s1 _ m.1).mul (G.s2 _ m.2)
 ·rw[hl];have:(j+j)*n<=200*12:=Nat.mul_le_mul (by left) hn;left
theorem Gs.at{j n:Nat}{ws xs:aM}(G:Gs j n ws xs){h:Int}(h0:0<=h)(h1:h<n):DQ (JX ws xs) h=DQ ws h*DQ xs h:=by
 obtain⟨g1,_⟩:=uR (qs:=ws) h0 (by rw[G.l1];exact h1);obtain⟨g2,_⟩:=uR (qs:=xs) h0 (by rw[G.l2];exact h1);unfold DQ at *;unfold JX;rw[List.getD_eq_getElem?_getD,List.getElem?_map,List.zip,List.getElem?_zipWith,g1,g2];rfl
theorem qU{p i:Nat}{es:aB}{xs:ab}{d d':D}(h1:cM Φ es ρ=ok xs)(h2:aP bW xs=false)(h3:ρ[i]?=some (some d))(h4:Φ p (d::xs)=ok d'):lN Φ (.mut p i es) ρ=ok (.nx,ρ.set i (some d')):=by
 show bd (cM Φ es ρ) (λxs=>rK Φ p i (lu es xs ρ))=_;rw[h1,dj];unfold lu;rw[h2,if_neg Bool.false_ne_true];unfold rK;rw[h3];show bd (Φ p (d::xs)) _=_;rw[h4];rfl
theorem mV(c:aa):∀(cs:aq) (ws:aa),bQ cs (af ws) c=(bQ cs ws c).map D.int
 |[],_=>by cases ‹aa› <;> rfl
 |_::_,[]=>rfl
 |c'::cs,w::ws=>by
  show(if c'=c then some (D.int w)else bQ cs (af ws) c)=Option.map D.int (if c'=c then some w else bQ cs ws c);by_cases e:c'=c
  ·rw[if_pos e,if_pos e];rfl
  ·rw[if_neg e,if_neg e];exact mV c cs ws
def fK(cs:aq)(ws:aa)(c:aa):Int:=(bQ cs ws c).getD 0
theorem lJ{α:Type}{c:aa}:∀{cs:aq} (ws:List α),c∉cs->bQ cs ws c=none
 |[],_,_=>by cases ‹List α› <;> rfl
 |_::_,[],_=>rfl
 |c'::cs,w::ws,h=>by
  show(if c'=c then some w else bQ cs ws c)=none;rw[if_neg λe=>h (by rw[e];exact List.mem_cons_self)];exact lJ ws λz=>h (WT _ z)
theorem oe{α:Type}{c:aa}:∀{cs:aq} {ws:List α},cs.length=ws.length->c∈cs->∃w,bQ cs ws c=some w/\w∈ws
 |[],_,_,h=>nomatch h
 |_::_,[],hl,_=>by simp at hl
 |c'::cs,w::ws,hl,h=>by
  by_cases e:c'=c
  ·exact⟨w,Xf e,WR⟩
  ·have h':c∈cs:=(List.mem_cons.mp h).resolve_left λz=>e z.symm;obtain⟨w',e1,e2⟩:=oe (cs:=cs) (ws:=ws) (by simpa using hl) h';exact⟨w',(Xs e).trans e1,WT _ e2⟩
theorem pJ{c:aa}{v:Int}:∀{cs:aq} {ws:aa},cs.Nodup->cs.length=ws.length->c∈cs->(setC cs ws c v).sum=ws.sum - fK cs ws c+v/\(setC cs ws c v).length=ws.length
 |[],_,_,_,h=>nomatch h
 |_::_,[],_,h,_=>by simp at h
 |c'::cs,w::ws,hn,hl,h=>by
  have zS:=List.nodup_cons.mp hn;have vL:cs.length=ws.length:=by simpa using hl
  have es:setC (c'::cs) (w::ws) c v=(if c'=c then v else w)::setC cs ws c v:=rfl;by_cases e:c'=c
  ·have K3:∀{cs:aq} {ws:aa},cs.length=ws.length->c∉cs->setC cs ws c v=ws:=λ{cs}=>by
    induction cs with
    |nil=>intro ws hl _;cases ws with|nil=>rfl|cons _ _=>simp at hl
    |cons d cs ih =>
     intro ws hl hc;cases ws with
     |nil=>simp at hl
     |cons w ws =>
      show(if d=c then v else w)::setC cs ws c v=_;rw[if_neg λz=>hc (by rw[z];exact List.mem_cons_self),ih (by simpa using hl) λz=>hc (List.mem_cons_of_mem _ z)]
   have Vk:c∉cs:=e▸zS.1;rw[es,if_pos e,K3 vL Vk];have eg:fK (c'::cs) (w::ws) c=w:=by
    show(if c'=c then some w else bQ cs ws c).getD 0=w;rw[if_pos e];rfl
   rw[eg];refine⟨?_,rfl⟩;rw[List.sum_cons,List.sum_cons];left
  ·have h':c∈cs:=(List.mem_cons.mp h).resolve_left λz=>e z.symm;obtain⟨i1,i2⟩:=pJ (v:=v) zS.2 vL h';have eg:fK (c'::cs) (w::ws) c=fK cs ws c:=by
    show(if c'=c then some w else bQ cs ws c).getD 0=_;rw[if_neg e];rfl
   rw[es,if_neg e,eg];refine⟨?_,by rw[List.length_cons,List.length_cons,i2]⟩;rw[List.sum_cons,List.sum_cons,i1];left
theorem pK{c:aa}{v:Int}:∀{cs:aq} {ws:aa} {x:Int},x∈setC cs ws c v->x∈ws\/x=v
 |[],_,_,h=>by cases ‹aa› <;> exact nomatch h
 |_::_,[],_,h=>nomatch h
 |c'::cs,w::ws,x,h=>by
  have h:x∈(if c'=c then v else w)::setC cs ws c v:=h;rcases List.mem_cons.mp h with e|h
  ·by_cases q:c'=c
   ·rw[if_pos q]at e;exact .inr e
   ·rw[if_neg q]at e;rw[e];exact .inl WR
  ·rcases pK h with h|h
   ·exact .inl (WT _ h)
   ·exact .inr h
structure Tab(P:aa->Prop)(j:Nat)(cs:aq)(ws:aa):Prop where
 nd:cs.Nodup
 ln:cs.length=ws.length
 vY:cs.length<=j
 lot:∀c∈cs,P c
 pos:∀w∈ws,1<=w
 sum:ws.sum<=7*j
 ne:1<=j->cs≠[]
variable {cs:aq}
theorem Tab.get{n:aa->Prop}{j:Nat}{ws:aa}(T:Tab n j cs ws)(c:aa):0<=fK cs ws c:=by
 by_cases h:c∈cs
 ·obtain⟨w,e,m⟩:=oe T.ln h;unfold fK;rw[e];have:=T.pos w m;show 0<=w;left
 ·unfold fK;rw[lJ ws h];exact Xm _
theorem Tab.put{n:aa->Prop}{j:Nat}{ws:aa}(T:Tab n j cs ws){c:aa}(hc:n c){i:Int}(h1:1<=i)(h7:i<=7):Tab n (j+1) (bc cs c) (bS cs ws c (fK cs ws c+i)):=by
 have hg:=T.get c;have hf:=T.vY;have hs:=T.sum;by_cases h:c∈cs
 ·obtain⟨s1,s2⟩:=pJ (v:=fK cs ws c+i) T.nd T.ln h;unfold bc bS;rw[if_pos h,if_pos h];refine⟨T.nd,by rw[s2];exact T.ln,by left,T.lot,λw hw=>?_,by rw[s1];left,λ_ z=>by rw[z]at h;cases h⟩;rcases pK hw with hw|rfl
  ·exact T.pos w hw
  ·left
 ·have hz:fK cs ws c=0:=by unfold fK;rw[lJ ws h];rfl
  unfold bc bS;rw[if_neg h,if_neg h,hz];refine⟨?_,by rw[List.length_append,List.length_append,T.ln];rfl,by rw[List.length_append,List.length_singleton];left,λd hd=>?_,λw hw=>?_,by rw[List.sum_append];simp;left,λ_ z=>by simp at z⟩
  ·refine List.nodup_append.mpr ⟨T.nd,List.nodup_cons.mpr ⟨List.not_mem_nil,Yy⟩,λa ha b hb e=>?_⟩;rw[List.mem_singleton.mp hb]at e;exact h (e▸ha)
  ·rcases List.mem_append.mp hd with hd|hd
   ·exact T.lot d hd
   ·rw[List.mem_singleton.mp hd];exact hc
  ·rcases List.mem_append.mp hw with hw|hw
   ·exact T.pos w hw
   ·rw[List.mem_singleton.mp hw];left
theorem s_(W:Int)(hW:W≠0):∀ls:aa,(ls.map λx=>Rat.divInt x W).sum=Rat.divInt ls.sum W
 |[]=>by simp
 |x::ls=>by
  rw[List.map_cons,List.sum_cons,s_ W hW ls,List.sum_cons,Rat.divInt_eq_div,Rat.divInt_eq_div,Rat.divInt_eq_div,Rat.intCast_add];grind
structure Wo(Φ:aU):Prop where
 yU:Φ 1030=uE
 DD:Φ 1031=m6
 yT:Φ 1032=v7
 DC:Φ 1033=mZ
 DB:Φ 1035=jv
 SV:Φ 1100=Hw
theorem so{t b:Int}(hb:b≠0):(Rat.divInt t b).den∣b.natAbs:=by
 obtain⟨t',b',e1,e2,h1,h2,h3,h4⟩:=k9 (t:=t) hb;obtain⟨g1,g2⟩:=oi (t:=t) hb;rw[show b.fdiv (eD t b)=b' from h2]at g2;have hz:(Rat.divInt t b).den=b'.natAbs:=by left
 have:b.natAbs=(eD t b).natAbs*b'.natAbs:=by rw[<- Int.natAbs_mul,<- e2]
 rw[hz,this];exact Nat.dvd_mul_left ..
structure We(i j n:Nat)(ws xs:aM):Prop where
 l1:ws.length=n
 l2:xs.length=n
 s1:∀q∈ws,Sm i q
 s2:∀q∈xs,Sm j q
 jj:i+j<=20
theorem Gs.two{j n:Nat}(G:Gs j n ws xs)(hj:j<=10):We j j n ws xs:=⟨G.l1,G.l2,G.s1,G.s2,by left⟩
noncomputable def Ou:aj:=[.asg (.nm 9) (.call 202 [(.v 9),(.v 10)])]
def RI:aj:=[.asg (.nm 8) (.call 51 [(.ix (.v 6) (.int 0)),(.ix (.v 6) (.int 1)),(.bf .list1 [(.v 7)])]),.ifs (.or [(.not (.call 204 [(.v 8)])),(.cmp .ne (.v 8) (.call 232 [(.v 1),(.v 3),(.v 7)]))]) [.ret (.bl false)] [],.asg (.nm 9) (.tup [(.int 0),(.int 1)]),.fr (.nm 10) (.seq (.v 7)) Ou,.ifs (.or [(.not (.call 204 [(.call 52 [(.v 7)])])),(.cmp .ne (.call 52 [(.v 7)]) (.v 9))]) [.ret (.bl false)] []]
def Hv(f:Fl)(n:Nat)(rs:aR):D:=.tup [.int n,.lst f (iE rs)]
@[simp]theorem Nf(g:Fl->Fl)(f:Fl)(n:Nat)(rs:aR):aZ g (Hv f n rs)=Hv (g f) n rs:=by simp[Hv]
@[simp]theorem Ny(p:Fl->Bool)(f:Fl)(n:Nat)(rs:aR):aS p (Hv f n rs)=p f:=by simp[Hv]
@[simp]theorem Pm(f:Fl)(n:Nat)(rs:aR):Ds (Hv f n rs) (.int 0)=ok (.int n):=by simp[Hv]
end DI
end
section
namespace DI
open PySem PySem.Spec PyProof.Rows L2
def Rp(K:ao)(a:Addr):It :=
  ⟨λi H=>∃xs x,de K H a xs/\xs[i]?=some x,
   λi H v H'=>∃T x,(∀xs,de K H a xs->xs[i]?=some x)/\H T=none/\v=.ref T/\H'=upd H T (.tup [.int i,x]),
   λi H=>∃xs,de K H a xs/\xs.length<=i⟩
variable {K:ao}{elts:au}{n1:Nat}
theorem ve{P:ax}{w:World}{tp:Pos}{a e it:Addr}(BF:e≠it):
  Turn P w K (.Tuple elts n1 tp) (Rp K a) [e,it] e (λi h=>(∃old,IsEnum h e it (i:Int) old)/\h.IsListIter it a i):=by
 refine⟨by simp,λi h st c hc=>?_,λi h h' st k=>?_,?_,?_,λA i s Q E st hQ=>?_⟩
 ·obtain⟨⟨old,he⟩,⟨o1,e1,_,d1⟩⟩:=st;simp only[List.mem_cons,List.not_mem_nil,or_false]at hc;rcases hc with rfl|rfl
  ·exact⟨_,he,λv q=>by cases q⟩
  ·exact⟨o1,e1,λv q=>by rw[d1]at q;cases q⟩
 ·obtain⟨⟨old,he⟩,l1⟩:=st;exact⟨⟨old,k e (by simp) _ he⟩,l1.at λo z=>k it (by simp) o z⟩
 ·intro X hP hw hK hc i pins s σ H E I hf st hg;subst hP hw hK;obtain⟨xs,x,q1,ex⟩:=hg;obtain⟨⟨old,he⟩,l1⟩:=st;obtain⟨its,rv,p,_⟩:=I.list q1;obtain⟨u,hu,ru⟩:=rv.get ex;refine wpAny_pyNext_enum_item he l1 p.isList (x:=u) (by simpa using hu) BF λh1 e1 a1 t1 Ws k1=>⟨_,rfl,?_⟩
  refine wpAny_letOwnedTupleGo_enum e1 λh2 e2 OB=>?_;have VJ:s.heap.objs.size≠e:=Xv (WX he);have kk:∀c o,c∉[e,it]->s.heap.get? c=some o->h2.get? c=some o:=λc o hc z=>by
   simp only[List.mem_cons,List.not_mem_nil,or_false,not_or]at hc;exact OB.extBut c o hc.1 (k1 c o hc.1 hc.2 z)
  have hT:h2.get? s.heap.objs.size=some { cls:=.type "tuple",data:=.seq #[.int i s.toks,u] }:=OB.extBut _ _ VJ t1;have hn:H s.heap.objs.size=none:=I.ck.fresh (WV _);have ci:((i+1:Nat):Int)=(i:Int)+1:=by push_cast;rfl
  refine⟨.ref s.heap.objs.size,upd H s.heap.objs.size (.tup [.int i,x]),Aj (s:=s) (h':=h2) (t':=s.toks+1) I hf kk (WV _) (Ak ⟨_,rfl⟩ ru hT),rfl,⟨_,x,λzs hz=>by rw[I.lb hz q1];exact ex,hn,rfl,rfl⟩,⟨⟨u,by rw[ci];exact e2⟩,a1.extBut OB.extBut BF.symm⟩,λc hc=>?_⟩;rw[aQ]
  ·exact(hf c hc).1
  ·intro z;subst z;simp only[List.mem_cons,List.not_mem_nil,or_false]at hc;rcases hc with z|z
   ·exact absurd (WX he) (by rw[<- z];exact Xh _)
   ·obtain⟨_,w,_⟩:=l1;exact absurd (WX w) (by rw[<- z];exact Xh _)
 ·intro X hP hw hK hc i pins s σ H E I hf st hg;subst hP hw hK;obtain⟨xs,q1,hl⟩:=hg;obtain⟨⟨old,he⟩,l1⟩:=st;obtain⟨its,rv,p,_⟩:=I.list q1;have e1:=rv.length;refine wpAny_pyNext_enum_end (I.ok.hd hc) he l1 p.isList (by simp;left) λh1 k1=>⟨rfl,Ai (t':=s.toks) I hf λc o hc z=>?_⟩
  simp only[List.mem_cons,List.not_mem_nil,or_false,not_or]at hc;exact k1 c o hc.2 z
 ·obtain⟨⟨old,he⟩,_⟩:=st;exact wpAny_pyIter_enum he hQ
theorem wk:bootBuiltins "enumerate" = some (.type "enumerate"):=by decide +kernel
variable {X:Cx}
theorem AU{e1:Expr}{ta:TA}{tp p pos:Pos}(hg:Gl X "enumerate")(hm:X.mg "enumerate" = none)(ha:PA X [e1] ta)(hs:∀es,starEach (e1::es) X.env=(false,eval e1 X.env)::starEach es X.env):
  PI X (.Tuple elts n1 tp) (.Call (.Name "enumerate" p) [e1] [] pos) (λσ H R=>ta σ H λvs H1=>∃a,vs=[.ref a]/\(∃xs,de X.K H1 a xs)/\R (Rp X.K a) H1):=by
 intro pins s σ H R I h;refine Call_ (dA I hg hm wk (W9 (cH (ha pos pins s σ H _ I h) λus s1 bJ=>?_) (hs _) rfl));obtain⟨vs,H1,I1,r1,q1⟩:=bJ;obtain⟨a,e,⟨xs,q1⟩,q⟩:=q1;subst e;obtain⟨u,rfl,ru⟩:=vals1 r1;cases ru;obtain⟨its,_,p1,_⟩:=I1.list q1;refine call_enumerate_list p1.isList λh' z l1 sz k=>wpAny_pyIter_enum z ?_;refine⟨s1.heap.objs.size+1,[s1.heap.objs.size+1,s1.heap.objs.size],_,_,H1,rfl,I1.kept (t':=s1.toks) k,ve (Nat.succ_ne_self _),⟨⟨_,z⟩,l1⟩,λb hb=>?_,q⟩;have wA:s1.heap.objs.size<=b:=by
  simp only[List.mem_cons,List.not_mem_nil,or_false]at hb;rcases hb with rfl|rfl<;>first|exact Nat.le_add_right .. |exact WV _
 exact I1.BR wA (I1.ck.fresh wA)
noncomputable def bV(k:Nat):ab->ab
 |[]=>[]
 |x::xs=>.tup [.int k,x]::bV (k+1) xs
def lR:aD
 |[.lst _ a]=>ok (.lst .ow (bV 0 a))
 |_=>none
theorem i6:∀(a:ab) (k i:Nat),(bV k a)[i]?=(a[i]?).map λx=>.tup [.int ((k+i:Nat):Int),x]
 |[],k,i=>by simp[bV]
 |x::xs,k,0=>by simp[bV]
 |x::xs,k,i+1=>by
  rw[bV,List.getElem?_cons_succ,List.getElem?_cons_succ,i6 xs (k+1) i,show k+1+i=k+(i+1) by left]
theorem i5:∀(a:ab) (k:Nat),(bV k a).length=a.length
 |[],k=>rfl
 |x::xs,k=>by rw[bV,List.length_cons,List.length_cons,i5 xs]
variable {F:Addr->Prop}{cs:aB}{Φ:aU}
theorem A1{a:Expr}(h:mC X F Φ cs [a]):PA X [a] (mJ X F Φ cs)/\(∀es,starEach (a::es) X.env=(false,eval a X.env)::starEach es X.env):=by
 match cs,h with
 |[c],h =>
  obtain⟨h1,h2,_,_⟩:=h;exact⟨PA.imp (cO h1 (PA.imp eW λ_ _ _ h=>eO h) (h2 _)) λ_ _ _ h=>cU h,h2⟩
 |[],h=>exact h.elim
 |_::_::_,h=>exact h.2.2.2.elim
theorem wH{p:Addr}{f:Fl}{a:ab}{H2:Hp}:Mz K (Rp K p) H2 [.ref p] [.lst f a] (aG bo (bV 0 a)):=by
 have len:(aG bo (bV 0 a)).length=a.length:=by rw[bA,List.length_map,i5]
 have two:∀{H':Hp} {R':ai},az (aT K H') (nd K R' (λ_=>False) (λ_=>none) H') [] 0 [.ref p] (aG bo [.lst f a]) ->
   ∃xs,de K H' p xs/\az (aT K H') (nd K R' (λ_=>False) (λ_=>none) H') [0] 0 xs (aG bo a):=by
  intro H' R' h;rw[aG,aZ,aG]at h;cases h with
  |cons h t=>cases h with
   |lst h r=>exact⟨_,h.sq,r⟩
 refine⟨λi H' R' _ h hi=>?_,λi H' R' x kH _ h hi hy=>?_,λi H' R' _ h hi=>?_⟩
 ·obtain⟨xs,h1,r1⟩:=two h;rw[len]at hi;have l1:=r1.length;rw[bA,List.length_map]at l1;exact⟨xs,xs[i]'(by left),h1,W3 _⟩
 ·obtain⟨xs,h1,r1⟩:=two h;obtain⟨T,u,g1,hn,rfl,rfl⟩:=hy;obtain⟨d1,e1,p1⟩:=r1.yW (g1 xs h1);have es:aJ H' (upd H' T (.tup [.int i,u])):=aJ.upd hn;refine⟨es,.tup [.int i,d1],?_,.tup (aT.of aV) (.cons (.int _) (.cons (p1.TR es) .nil))⟩;rw[bA,List.getElem?_map]at e1 ⊢;obtain⟨c1,q1,rfl⟩:=Option.map_eq_some_iff.mp e1;rw[i6,q1];simp[aZ,aG]
 ·obtain⟨xs,h1,r1⟩:=two h;rw[len]at hi;have l1:=r1.length;rw[bA,List.length_map]at l1;exact⟨xs,h1,by left⟩
theorem BZ{n:Nat}(hΦ:Φ n=lR){sc:Scope}{bl:av}{k:Nat}(L:PX X sc bl k){e:Expr}{args:au}(he:eF "enumerate" sc bl e=some args){tg:Expr}(ht:gm tg=true)(hs:mC X F Φ cs args)
  {pins:ak} {s:Shared} {σ:St} {H:Hp} {R:ai} {τ:Addr->Option aX} {ρ:aY} {xs:ab} {d:D} {items:ab} (I:Inv X pins σ H s) (Si:SI X F R τ ρ σ H) (cL:cM Φ cs ρ=ok xs) (ed:Φ n xs=ok d) (ei:nH d=ok items) (Rr:It->Hp->Prop)
  (hR:∀J H2 vs,aJ H H2->bY X.K (gP X F) R τ (cT cs) H H2 vs xs->Mz X.K J H2 vs xs items->Rr J H2) :
  wpAny (model X.prog X.w) X.A (eval e X.env) (λv s1=>wpAny (model X.prog X.w) X.A (pyIter v) (zY X pins σ tg Rr) X.xe s1) X.xe s:=by
 obtain⟨p,pos,a,rfl,rfl,h1,h2⟩:=gM he;cases tg<;>try (cases ht;done)
 obtain⟨pa,s1⟩:=A1 hs;refine AU (L.gl h1) (L.bl _ h2) pa s1 pins s σ H Rr I ⟨R,τ,ρ,xs,Si,cL,λvs H1 e1 rv=>?_⟩;have Uj:=rv;obtain⟨τt,fr,rs⟩:=rv;rw[hΦ]at ed;unfold lR at ed;split at ed
 ·cases ed;cases ei;obtain⟨v,rfl,rx⟩:=rs.one;cases rx with
  |lst hx _=>exact⟨_,rfl,⟨_,hx.sq⟩,hR _ H1 _ e1 Uj wH⟩
 ·cases ed
end DI
end
section
namespace DI
open PySem (Str)
noncomputable def Mr(g h:Int)(r:Row):Bool:=decide (g∈r.2)&&decide (h∈r.2)
def J6(rs:aR)(g h:Int):Rat:=(oE (rs.filter (Mr g h))).sum
theorem lB(h:Int):∀ns:aa,inD (.int h) (af ns)=decide (h∈ns)
 |[]=>rfl
 |x::xs=>by
  show(ju (.int x) (.int h)||inD (.int h) (af xs))=_;rw[oj,lB h xs];by_cases e:h=x<;>simp[e,eq_comm]
theorem jt:∀ns:aa,(af ns).all dO=true
 |[]=>rfl
 |x::xs=>by show(dO (.int x)&&(af xs).all dO)=true;rw[jt xs];rfl
theorem Mo(h:Int)(ns:aa):dE .wx (.int h) (.tup (af ns))=ok (.bl (decide (h∈ns))):=by
 show(if dO (.int h)&&(af ns).all dO then ok (D.bl (inD (.int h) (af ns)))else none)=_;rw[jt,lB];rfl
def RK(n:Nat)(rs:aR):aM:=(List.range n).map λ(k:Nat)=>J6 rs k k
@[simp]theorem MP(n:Nat)(rs:aR):(RK n rs).length=n:=by simp[RK]
noncomputable def C9(q:Rat):D:=if 0<q then qD (1 / q)else .bz
@[simp]theorem Bj(g:Fl->Fl)(q:Rat):aZ g (C9 q)=C9 q:=by
 unfold C9;split
 ·simp
 ·rfl
@[simp]theorem BM(g:Fl->Bool)(q:Rat):aS g (C9 q)=false:=by
 unfold C9;split
 ·simp
 ·rfl
@[simp]theorem Ie(g:Fl->Fl)(qs:aM):aG g (qs.map C9)=qs.map C9:=cf g (λq=>Bj g q) qs
@[simp]theorem Iy(g:Fl->Bool)(qs:aM):aP g (qs.map C9)=false:=bU g (λq=>BM g q) qs
structure l9(most:Nat)(qs:aM)(B:Nat):Prop where
 n1:1<=qs.length
 n2:qs.length<=most
 b1:1<=B
 b2:B<=9
 q0:∀q∈qs,0<=q
 q1:∀q∈qs,q<=1
 qd:∀q∈qs,q.den∣B
 su:∃s:Int,qs.sum=(s:Rat)
variable {B:Nat}{qs:aM}
theorem l9.le{m k:Nat}(h:l9 m qs B)(hk:m<=k):l9 k qs B:=⟨h.n1,Xb h.n2 hk,h.b1,h.b2,h.q0,h.q1,h.qd,h.su⟩
theorem rH{q:Rat}(h:q<=1):q.num<=(q.den:Int):=by
 have h':(q.num:Rat)<=(q.den:Rat):=by
  rw[tL];have h2:(0:Rat)<=(q.den:Rat):=by exact_mod_cast W6 _
  have:=Rat.mul_le_mul_of_nonneg_right h h2
  rwa [Rat.one_mul]at this
 exact_mod_cast h'
theorem x4{q:Rat}(h:0<=q):0<=q.num:=Rat.num_nonneg.mpr h
theorem l9.sm{m:Nat}(h:l9 m qs B){q:Rat}(hq:q∈qs):Sm 4 q:=by
 have h1:=rH (h.q1 q hq);have h2:=x4 (h.q0 q hq);have h3:=XQ (by have:=h.b1;left) (h.qd q hq);have:=h.b2;constructor<;>simp<;>left
theorem l9.EC{m:Nat}(h:l9 m qs B)(hm:m<=12):zX 4 qs:=⟨λ_ hq=>h.sm hq,by have:=h.n2;left,by have:=h.n2;left⟩
def uX(m:aD):Prop:=∀q:Rat,0<=q->q<=1->m [qD q]=ok (.bl true)
noncomputable def kB:aj:=[.ret (.and [(.call 3 [(.v 0)]),(.cmp .ge (.ix (.v 0) (.int 0)) (.int 0)),(.cmp .le (.ix (.v 0) (.int 0)) (.ix (.v 0) (.int 1)))])]
theorem AH(Φ:aU)(h3:g5 (Φ 3)):uX (mk Φ 1 1 kB):=by
 intro q h0 h1;have e1:=h3 (qD q);rw[BQ]at e1;simp[mk_eq,kB,e1,x4 h0,rH h1]
noncomputable def zh:CE:=.comp 1 (.nm 0) [] .seq [(.v 0)] [] (.call 23 [(.v 0)])
def DU(m:aD):Prop:=∀f qs (n:Nat),1<=qs.length->qs.length<=n->n<=1000->(∀q∈qs,0<=q)->(∀q∈qs,q<=1)->m [.lst f (a_ qs),.int n]=ok (.bl true)
def oM:aj:=[.ifs (.or [(.not (.ue (.v 0) .list)),(.cmp .lt (.bf .len [(.v 0)]) (.int 1)),(.cmp .gt (.bf .len [(.v 0)]) (.v 1))]) [.ret (.bl false)] [],.ret (.bf .all1 [zh])]
theorem JH(Φ:aU)(VA:uX (Φ 23)):DU (mk Φ 2 2 oM):=by
 intro f qs n h1 h2 hn q0 q1;have e1:∀f',bg Φ zh [some (.lst f' (a_ qs)),some (.int n)]=ok (.lst .ow (sG (qs.map λ_=>true))):=λf'=>by
  unfold zh;rw[dD (xs:=[.lst (bH f') (a_ qs)]) (items:=a_ qs) (ds:=qs.map λ_=>.bl true) (by simp) (by rw[dU];simp) (cN λq hq=>⟨[some (qD q)],by simp[bE],by simp,by simp[VA q (q0 q hq) (q1 q hq)]⟩) (by simp;exact cP (by left))];simp[sG,bA]
 have e2:((qs.map λ_=>true).all id)=true:=by simp
 have c1:¬ (qs.length:Int)<1:=by left
 have c2:¬ (n:Int)<(qs.length:Int):=by left
 simp[mk_eq,oM,fG,e1,c1,c2]
def uY(m:aD):Prop:=∀f qs B,l9 12 qs B->∃z:Int,m [.lst f (a_ qs)]=ok (.int z)
noncomputable def kC:aj:=[.asg (.nm 1) (.call 9 [(.v 0)]),.asg (.nm 2) (.bf .md [(.call 10 [(.v 0),(.v 1)])]),.ret (.ite (.cmp .eq (.bin .mod (.v 2) (.v 1)) (.int 0)) (.bin .fdiv (.v 2) (.v 1)) .bz)]
theorem iM{b:Nat}(h:∀q∈qs,q.den∣b){s:Int}(hs:qs.sum=(s:Rat)):(qs.map (dg b)).sum=s*(b:Int):=by
 have:=o8 h;rw[hs]at this;have e:((s*(b:Int):Int):Rat)=(s:Rat)*(b:Rat):=by rw[Rat.intCast_mul,Rat.intCast_natCast]
 rw[<- e]at this;exact Rat.intCast_inj.mp this
theorem mv(s b:Int)(hb:b≠0):(s*b).fmod b=0:=by
 rw[Int.fmod_def,Int.mul_fdiv_cancel _ hb,Int.mul_comm b s];left
def DW(m:aD):Prop:=∀f qs B,l9 12 qs B->m [.lst f (a_ qs)]=ok .bz
noncomputable def uQ:aj:=[.ifs (.or [(.not (.call 24 [(.v 0),(.glo "MOST_HOUSES" 12)])),(.cmp .Bw (.call 25 [(.v 0)]) .bz)]) [.rs 2] []]
theorem JJ(Φ:aU)(Vz:DU (Φ 24))(QD:uY (Φ 25)):DW (mk Φ 1 1 uQ):=by
 intro f qs B I;have e1:=λf=>Vz f qs 12 I.n1 I.n2 (by decide) I.q0 I.q1;have e2:∀f,∃z:Int,Φ 25 [.lst f (a_ qs)]=ok (.int z):=λf=>QD f qs B I;obtain⟨z,e2⟩:=e2 (bo (bH f));have e1:=e1 (bo (bH f));have c1:dE .Bw (.int z) .bz=ok (.bl false):=rfl;simp[mk_eq,uQ];have DH:Φ 24 [.lst (bo (bH f)) (a_ qs),.int 12]=ok (.bl true):=e1;simp[DH,e2,c1]
noncomputable def nu(W x:Int):Bool:=decide (0<x)&&decide (x<W)
def o5(W:Int):Int->aa->aa
 |_,[]=>[]
 |j,x::xs=>if nu W x then j::o5 W (j+1) xs else o5 W (j+1) xs
noncomputable def nY(W:Int):Int->aa->aa
 |_,[]=>[]
 |j,x::xs=>if x=W then j::nY W (j+1) xs else nY W (j+1) xs
def vals(W:Int)(p:aa):aa:=p.filter (nu W)
variable {W:Int}
theorem gD{x:Int}:nu W x=true ↔ 0<x/\x<W:=by simp[nu]
theorem j9{W:Int}:∀{p:aa} {j:Int},vals W p=[]->o5 W j p=[]
 |[],_,_=>rfl
 |x::p,j,h=>by
  unfold vals at h;by_cases hx:nu W x=true
  ·rw[List.filter_cons_of_pos hx]at h;cases h
  ·rw[List.filter_cons_of_neg hx]at h;rw[o5,if_neg hx];exact j9 h
theorem nz{W:Int}:∀{p q:aa} {j:Int},o5 W j (p++q)=o5 W j p++o5 W (j+p.length) q
 |[],q,j=>by simp[o5]
 |x::p,q,j=>by
  have e:j+1+(p.length:Int)=j+((x::p).length:Int):=by simp;left
  rw[List.cons_append,o5,o5,nz (p:=p),e];split<;>simp
theorem kL(p q:aa):vals W (p++q)=vals W p++vals W q:=List.filter_append ..
theorem dX(x:Int)(p:aa):vals W (x::p)=if nu W x then x::vals W p else vals W p:=List.filter_cons ..
theorem split1{W:Int}:∀p:aa,vals W p=[]\/∃A a C,p=A++a::C/\vals W A=[]/\nu W a=true
 |[]=>.inl rfl
 |x::p=>by
  by_cases hx:nu W x=true
  ·exact .inr ⟨[],x,p,rfl,rfl,hx⟩
  ·rcases split1 p with h|⟨A,a,C,rfl,h1,h2⟩
   ·exact .inl (by rw[dX,if_neg hx,h])
   ·exact .inr ⟨x::A,a,C,rfl,by rw[dX,if_neg hx,h1],h2⟩
structure jy(n:Nat)(W:Int)(p:aa):Prop where
 len:p.length=n
 lo:∀x∈p,0<=x
 hi:∀x∈p,x<=W
 su:∃s:Int,p.sum=s*W
structure Tw(W:Int)(p A:aa)(a:Int)(B:aa)(b:Int)(C:aa):Prop where
 eq:p=A++a::(B++b::C)
 vA:vals W A=[]
 vB:vals W B=[]
 ua:nu W a=true
 ub:nu W b=true
theorem gd{W:Int}:∀{A:aa},vals W A=[]->(∀x∈A,0<=x)->(∀x∈A,x<=W)->∃k:Int,A.sum=k*W
 |[],_,_,_=>⟨0,by simp⟩
 |x::A,h,l,u=>by
  rw[dX]at h;split at h
  ·cases h
  ·rename_i hx;obtain⟨k,hk⟩:=gd h (λy hy=>l y (WT _ hy)) λy hy=>u y (WT _ hy);have l0:=l x WR;have u0:=u x WR;have ui:¬ (0<x/\x<W):=λz=>hx (gD.mpr z);rw[List.sum_cons,hk];by_cases e:x=0
   ·exact⟨k,by left⟩
   ·exact⟨k+1,by rw[Int.add_mul];left⟩
theorem Ba{a m:Int}(h0:0<a)(h1:a<W)(h:a=m*W):False:=by
 by_cases hm:m<=0
 ·have:=Xj hm (show 0<=W by left);left
 ·have:=Xj (show 1<=m by left) (show 0<=W by left);left
theorem jy.two{n:Nat}{p:aa}(I:jy n W p)(h:vals W p≠[]):∃A a B b C,Tw W p A a B b C:=by
 rcases split1 (W:=W) p with e|⟨A,a,C,rfl,h1,h2⟩
 ·exact absurd e h
 ·rcases split1 (W:=W) C with e|⟨B,b,C',rfl,h3,h4⟩
  ·obtain⟨s,hs⟩:=I.su;obtain⟨k1,e1⟩:=gd h1 (λx hx=>I.lo x (by simp[hx])) λx hx=>I.hi x (by simp[hx]);obtain⟨k2,e2⟩:=gd e (λx hx=>I.lo x (by simp[hx])) λx hx=>I.hi x (by simp[hx]);rw[List.sum_append,List.sum_cons,e1,e2]at hs;obtain⟨u1,u2⟩:=gD.mp h2;exact(Ba u1 u2 (m:=s - k1 - k2) (by rw[Int.sub_mul,Int.sub_mul];left)).elim
  ·exact⟨A,a,B,b,C',rfl,h1,h3,h2,h4⟩
noncomputable def eE(W a b:Int):Rat:=if a+b<=W then Rat.divInt a (a+b)else Rat.divInt (W - b) (2*W - a - b)
noncomputable def jY(W a b:Int):Int:=if W<a+b then W else a+b
def kg(W a b:Int):Int:=a+b - jY W a b
def xZ(W:Int)(p:aa):Option (Rat×aa×aa):=match o5 W 0 p with
 |i::j::_=>some (eE W (p.getD i.toNat 0) (p.getD j.toNat 0),(p.set i.toNat (jY W (p.getD i.toNat 0) (p.getD j.toNat 0))).set j.toNat (kg W (p.getD i.toNat 0) (p.getD j.toNat 0)),(p.set j.toNat (jY W (p.getD i.toNat 0) (p.getD j.toNat 0))).set i.toNat (kg W (p.getD i.toNat 0) (p.getD j.toNat 0)))
 |_=>none
section
variable {W a b:Int}{p A B C:aa}(T:Tw W p A a B b C)
include T
theorem Tw.o5:o5 W 0 p=(A.length:Int)::((A.length+1+B.length:Nat):Int)::o5 W ((A.length+1+B.length:Nat)+1) C:=by
 rw[T.eq,nz,j9 T.vA,List.nil_append,DI.o5,if_pos T.ua,nz,j9 T.vB,List.nil_append,DI.o5,if_pos T.ub];have e:(0:Int)+(A.length:Int)+1+(B.length:Int)=((A.length+1+B.length:Nat):Int):=by push_cast;left
 rw[e,Int.zero_add]
theorem Tw.vals:vals W p=a::b::vals W C:=by
 rw[T.eq,kL,T.vA,List.nil_append,dX,if_pos T.ua,kL,T.vB,List.nil_append,dX,if_pos T.ub]
theorem Tw.Wa:p.getD A.length 0=a:=by rw[T.eq];simp
theorem Tw.at2:p.getD (A.length+1+B.length) 0=b:=by
 rw[T.eq];have:A++a::(B++b::C)=(A++a::B)++b::C:=by simp
 rw[this,show A.length+1+B.length=(A++a::B).length by simp;left];simp
theorem Tw.Oz(x:Int):p.set A.length x=A++x::(B++b::C):=by rw[T.eq];simp[List.set_append]
theorem Tw.Oy(x:Int):p.set (A.length+1+B.length) x=A++a::(B++x::C):=by
 rw[T.eq];have:∀y,A++a::(B++y::C)=(A++a::B)++y::C:=by simp
 rw[this,this,show A.length+1+B.length=(A++a::B).length by simp;left];simp[List.set_append]
omit T in
theorem JC(A:aa)(a:Int)(B:aa)(b:Int)(C:aa)(x:Int):(A++a::(B++b::C)).set (A.length+1+B.length) x=A++a::(B++x::C):=by
 have:∀y,A++a::(B++y::C)=(A++a::B)++y::C:=by simp
 rw[this,this,show A.length+1+B.length=(A++a::B).length by simp;left];simp[List.set_append]
theorem Tw.xZ:xZ W p=some (eE W a b,A++jY W a b::(B++kg W a b::C),A++kg W a b::(B++jY W a b::C)):=by
 unfold DI.xZ;rw[T.o5];dsimp only;rw[Int.toNat_natCast,Int.toNat_natCast,T.Wa,T.at2,T.Oz,T.Oy,JC];have:(A++a::(B++jY W a b::C)).set A.length (kg W a b)=A++kg W a b::(B++jY W a b::C):=by simp[List.set_append]
 rw[this]
theorem Tw.pq:0<a/\a<W/\0<b/\b<W:=⟨(gD.mp T.ua).1,(gD.mp T.ua).2,(gD.mp T.ub).1,(gD.mp T.ub).2⟩
theorem Tw.hl:0<=jY W a b/\jY W a b<=W/\0<=kg W a b/\kg W a b<=W/\jY W a b+kg W a b=a+b/\(nu W (jY W a b)=false\/nu W (kg W a b)=false):=by
 obtain⟨h1,h2,h3,h4⟩:=T.pq;unfold kg jY nu;split<;>refine⟨by left,by left,by left,by left,by left,?_⟩
 ·exact .inl (by simp)
 ·right;simp
end
def nv(W:Int):aa->aa
 |a::b::r=>(if nu W (jY W a b)then[jY W a b]else if nu W (kg W a b)then[kg W a b]else[])++r
 |_=>[]
theorem rG(W a b:Int)(r:aa):(nv W (a::b::r)).length<=r.length+1:=by
 show((if nu W (jY W a b)then[jY W a b]else if nu W (kg W a b)then[kg W a b]else[])++r).length<=_;rw[List.length_append];split
 ·simp;left
 ·split<;>simp;left
section
variable {n:Nat}{W a b:Int}{p A B C:aa}(I:jy n W p)(T:Tw W p A a B b C)
include I T
theorem Tw.RR{x y:Int}(hx:0<=x/\x<=W)(hy:0<=y/\y<=W)(hs:x+y=a+b):jy n W (A++x::(B++y::C)):=by
 have hl:=I.len;have lo:=I.lo;have hi:=I.hi;obtain⟨s,vK⟩:=I.su;rw[T.eq]at hl lo hi vK;refine⟨by rw[<- hl];simp,λz hz=>?_,λz hz=>?_,s,by rw[<- vK];simp;left⟩
 ·simp only[List.mem_append,List.mem_cons]at hz;rcases hz with hz|rfl|hz|rfl|hz
  ·exact lo z (by simp[hz])
  ·exact hx.1
  ·exact lo z (by simp[hz])
  ·exact hy.1
  ·exact lo z (by simp[hz])
 ·simp only[List.mem_append,List.mem_cons]at hz;rcases hz with hz|rfl|hz|rfl|hz
  ·exact hi z (by simp[hz])
  ·exact hx.2
  ·exact hi z (by simp[hz])
  ·exact hy.2
  ·exact hi z (by simp[hz])
theorem Tw.D2:jy n W (A++jY W a b::(B++kg W a b::C)):=by
 obtain⟨h1,h2,h3,h4,h5,_⟩:=T.hl;exact T.RR I ⟨h1,h2⟩ ⟨h3,h4⟩ h5
theorem Tw.F4:jy n W (A++kg W a b::(B++jY W a b::C)):=by
 obtain⟨h1,h2,h3,h4,h5,_⟩:=T.hl;exact T.RR I ⟨h3,h4⟩ ⟨h1,h2⟩ (by left)
omit I in
theorem Tw.D4:DI.vals W (A++jY W a b::(B++kg W a b::C))=nv W (DI.vals W p)/\DI.vals W (A++kg W a b::(B++jY W a b::C))=nv W (DI.vals W p):=by
 obtain⟨_,_,_,_,_,h⟩:=T.hl;rw[T.vals];simp only[kL,dX,T.vA,T.vB,List.nil_append,nv];rcases h with h|h
 ·cases z:nu W (kg W a b)<;>simp[h]
 ·cases z:nu W (jY W a b)<;>simp[h]
end
theorem lU{t b:Int}(hb:0<b)(h:t<b):Rat.divInt t b<1:=by
 have GS:(0:Rat)<(b:Rat):=by have:=Xu (a:=0) (b:=b);simpa using this.mpr hb
 have h1:(t:Rat)<(b:Rat):=Rat.intCast_lt_intCast.mpr h;rw[Rat.divInt_eq_div,Rat.div_def];have:=XG h1 (Rat.inv_pos.mpr GS)
 rwa [Rat.mul_inv_cancel _ (Rat.ne_of_gt GS)]at this
theorem zt{a b:Int}(h1:0<a)(h2:a<W)(h3:0<b)(h4:b<W)(hW:W<=9):0<eE W a b/\eE W a b<1/\Sm 5 (eE W a b):=by
 unfold eE;split
 ·exact⟨lT h1 (by left),lU (by left) (by left),xn (by left) (by show _<32;left) (by show _<32;left)⟩
 ·exact⟨lT (by left) (by left),lU (by left) (by left),xn (by left) (by show _<32;left) (by show _<32;left)⟩
noncomputable def ind(x y:aa):Rat:=if x=y then 1 else 0
def Pr(W:Int):Nat->aa->aa->Rat
 |0,p,l=>ind (nY W 0 p) l
 |n+1,p,l=>match xZ W p with
  |none=>ind (nY W 0 p) l
  |some z=>z.1*Pr W n z.2.1 l+(1 - z.1)*Pr W n z.2.2 l
theorem xY{p:aa}(h:vals W p=[]):xZ W p=none:=by unfold xZ;rw[j9 h]
theorem l4{p:aa}(h:vals W p=[])(k:Nat)(l:aa):Pr W k p l=ind (nY W 0 p) l:=by
 cases k with
 |zero=>rfl
 |succ k=>rw[Pr,xY h]
theorem kF{n:Nat}{W:Int}(l:aa):∀(k:Nat) (p:aa),jy n W p->(vals W p).length<=k->Pr W k p l=Pr W (k+1) p l
 |0,p,I,h=>by
  have:vals W p=[]:=List.length_eq_zero_iff.mp (by left);rw[l4 this,l4 this]
 |k+1,p,I,h=>by
  by_cases e:vals W p=[]
  ·rw[l4 e,l4 e]
  ·obtain⟨A,a,B,b,C,T⟩:=I.two e;obtain⟨v1,v2⟩:=T.D4;have hv:=T.vals;have hn:=rG W a b (vals W C);rw[hv]at h v1 v2;simp only[List.length_cons]at h;rw[Pr,Pr,T.xZ];dsimp only;rw[kF l k _ (T.D2 I) (by rw[v1];left),kF l k _ (T.F4 I) (by rw[v2];left)]
theorem CA{n:Nat}(l:aa){k:Nat}{p A B C:aa}{a b:Int}(I:jy n W p)(T:Tw W p A a B b C)(h:(vals W p).length<=k):
  Pr W k p l=eE W a b*Pr W k (A++jY W a b::(B++kg W a b::C)) l+(1 - eE W a b)*Pr W k (A++kg W a b::(B++jY W a b::C)) l:=by
 obtain⟨v1,v2⟩:=T.D4;have hv:=T.vals;have hn:=rG W a b (vals W C);rw[hv]at h v1 v2;simp only[List.length_cons]at h;obtain⟨k,rfl⟩:∃j,k=j+1:=⟨k - 1,by left⟩
 rw[Pr,T.xZ];dsimp only;rw[kF l k _ (T.D2 I) (by rw[v1];left),kF l k _ (T.F4 I) (by rw[v2];left)]
theorem iY{α:Type}(f:aa->α)(k:aa):∀ks:aq,bQ ks (ks.map f) k=if k∈ks then some (f k)else none
 |[]=>rfl
 |j::ks=>by
  show(if j=k then some (f j)else bQ ks (ks.map f) k)=_;rw[iY f k ks];by_cases e:j=k
  ·subst e;simp
  ·rw[if_neg e];have:k∈j::ks ↔ k∈ks:=by rw[List.mem_cons];exact⟨λh=>h.resolve_left λz=>e z.symm,.inr⟩
   simp only[this]
theorem pM{α:Type}(f:aa->α)(k:aa)(v:α):∀ks:aq,setC ks (ks.map f) k v=ks.map λj=>if j=k then v else f j
 |[]=>rfl
 |j::ks=>by
  show(if j=k then v else f j)::setC ks (ks.map f) k v=_;rw[pM f k v ks,List.map_cons]
theorem u_{α:Type}(f:aa->α)(k:aa)(v:α)(ks:aq):bS ks (ks.map f) k v=(bc ks k).map λj=>if j=k then v else f j:=by
 unfold bS bc;by_cases h:k∈ks
 ·rw[if_pos h,if_pos h,pM]
 ·rw[if_neg h,if_neg h,List.map_append];congr 1
  ·refine W5 λj hj=>?_;rw[if_neg (show ¬ j=k from λz=>h (z▸hj))]
  ·simp
variable {ks:aq}
theorem dY{c k:aa}:k∈bc ks c ↔ k∈ks\/k=c:=by
 unfold bc;split
 ·rename_i h;exact⟨.inl,λz=>z.elim id λe=>e▸h⟩
 ·simp
theorem yv(h:ks.Nodup)(c:aa):(bc ks c).Nodup:=by
 unfold bc;split
 ·exact h
 ·rename_i hc;rw[List.nodup_append];exact⟨h,by simp,λa ha b hb=>by rw[List.mem_singleton.mp hb];exact λz=>hc (z▸ha)⟩
theorem dZ(ks:aq)(c:aa):(bc ks c).length<=ks.length+1:=by
 unfold bc;split<;>simp
structure z0(Φ:aU):Prop where
 yU:Φ 1030=uE
 DD:Φ 1031=m6
 yT:Φ 1032=v7
 DC:Φ 1033=mZ
 DB:Φ 1035=jv
variable {Φ:aU}
theorem Ma(P:z0 Φ)(f:Fl){cs:aq}{ws:aa}(hl:cs.length=ws.length){c:aa}(h:c∈cs):Φ 1032 [.cE f cs (af ws),.tup (af c)]=ok (.int (fK cs ws c)):=by
 obtain⟨w,e,_⟩:=oe hl h;rw[P.yT];show(match intsOf (c.map D.int)with|some c=>(match bQ cs (af ws) c with|some v=>if aS anyF v=false then ok v else none|none=>none)|none=>none)=_;rw[bI];show(match bQ cs (af ws) c with|some v=>if aS anyF v=false then ok v else none|none=>none)=_;rw[mV,e];unfold fK;rw[e];rfl
theorem Jf{α:Type}(P:z0 Φ)(e:α->D)(he:∀a,aS anyF (e a)=false)(f:Fl)(ks:aq)(w:aa->α)(z:α)(c:aa)(h:c∉ks->w c=z):Φ 1031 [.cE f ks (ks.map λk=>e (w k)),.tup (af c),e z]=ok (e (w c)):=by
 rw[P.DD];show(match intsOf (c.map D.int)with|some c=>if aP anyF (ks.map λk=>e (w k))=false/\aS anyF (e z)=false then ok ((bQ ks (ks.map λk=>e (w k)) c).getD (e z))else none|none=>none)=_;rw[bI];show(if aP anyF (ks.map λk=>e (w k))=false/\aS anyF (e z)=false then ok ((bQ ks (ks.map λk=>e (w k)) c).getD (e z))else none)=_;rw[if_pos ⟨bU anyF (λk=>he _) ks,he _⟩,iY (λk=>e (w k))];by_cases hc:c∈ks
 ·rw[if_pos hc];rfl
 ·rw[if_neg hc,h hc];rfl
theorem Jd{α:Type}(P:z0 Φ)(e:α->D)(he:∀a,aS anyF (e a)=false)(hl:ks.length<1000)(w:aa->α)(c:aa)(v:α):Φ 1033 [.cE .ow ks (ks.map λk=>e (w k)),e v,.tup (af c)]=ok (.cE .ow (bc ks c) ((bc ks c).map λk=>e (if k=c then v else w k))):=by
 rw[P.DC];show(match intsOf (c.map D.int)with|some c=>if cD .ow=true/\aS anyF (e v)=false/\ks.length<eK then ok (D.cE .ow (bc ks c) (bS ks (ks.map λk=>e (w k)) c (e v)))else none|none=>none)=_;rw[bI];show(if cD .ow=true/\aS anyF (e v)=false/\ks.length<eK then ok (D.cE .ow (bc ks c) (bS ks (ks.map λk=>e (w k)) c (e v)))else none)=_;rw[if_pos ⟨rfl,he _,by show _<1000000;left⟩,u_ (λk=>e (w k))];congr 2;refine W5 λj _=>?_;by_cases z:j=c
 ·rw[if_pos z,if_pos z]
 ·rw[if_neg z,if_neg z]
theorem TX{α:Type}(P:z0 Φ)(e:α->D)(he:∀a,aS anyF (e a)=false)(f:Fl)(w:aa->α){c:aa}(h:c∈ks):Φ 1032 [.cE f ks (ks.map λk=>e (w k)),.tup (af c)]=ok (e (w c)):=by
 rw[P.yT];show(match intsOf (c.map D.int)with|some c=>(match bQ ks (ks.map λk=>e (w k)) c with|some v=>if aS anyF v=false then ok v else none|none=>none)|none=>none)=_;rw[bI];show(match bQ ks (ks.map λk=>e (w k)) c with|some v=>if aS anyF v=false then ok v else none|none=>none)=_;rw[iY (λk=>e (w k)),if_pos h];exact Xf (he _)
theorem CL(P:z0 Φ)(f:Fl)(vs:ab)(h:ks.length<64):Φ 1035 [.cE f ks vs]=ok (.lst .ow ((bw ks).map eL)):=by
 rw[P.DB];show(if ks.length<64 then ok (D.lst .ow ((bw ks).map eL))else none)=_;rw[if_pos h]
noncomputable def jq(ks:aq)(w F:aa->Rat):Rat:=(ks.map λk=>w k*F k).sum
noncomputable def cR{α:Type}[Add α](w:aa->α)(c:aa)(x:α):aa->α:=λk=>if k=c then w k+x else w k
theorem As(a b:aM):(a++b).sum=a.sum+b.sum:=by
 induction a with
 |nil=>simp;grind
 |cons x a ih=>rw[List.cons_append,List.sum_cons,List.sum_cons,ih];grind
theorem t4(c:aa)(x:Rat)(w F:aa->Rat):∀ks:aq,ks.Nodup->c∈ks->jq ks (cR w c x) F=jq ks w F+x*F c
 |[],_,h=>nomatch h
 |k::ks,hn,h=>by
  obtain⟨h1,h2⟩:=List.nodup_cons.mp hn;unfold jq at *;rw[List.map_cons,List.map_cons,List.sum_cons,List.sum_cons];by_cases e:k=c
  ·have:(ks.map λk=>cR w c x k*F k)=ks.map λk=>w k*F k:=W5 λj hj=>by
    unfold cR;rw[if_neg λz=>h1 (by rw[e,<- z];exact hj)]
   rw[this];unfold cR;rw[if_pos e,e];grind
  ·have ih:=t4 c x w F ks h2 ((List.mem_cons.mp h).resolve_left λz=>e z.symm);unfold jq at ih;rw[ih];unfold cR;rw[if_neg e];grind
theorem p6{c:aa}{x:Rat}{w:aa->Rat}(F:aa->Rat)(hn:ks.Nodup)(h0:c∉ks->w c=0):jq (bc ks c) (cR w c x) F=jq ks w F+x*F c:=by
 unfold bc;split
 ·rename_i h;exact t4 c x w F ks hn h
 ·rename_i h;unfold jq;rw[List.map_append,As];have:(ks.map λk=>cR w c x k*F k)=ks.map λk=>w k*F k:=W5 λj hj=>by
   unfold cR;rw[if_neg λz=>h (by rw[<- z];exact hj)]
  rw[this];simp only[List.map_cons,List.map_nil,List.sum_cons,List.sum_nil,cR,if_pos,h0 h];grind
structure Tb{α:Type}(z:α)(pos:α->Prop)(ks:aq)(w:aa->α):Prop where
 nd:ks.Nodup
 out:∀k,k∉ks->w k=z
 wx:∀k∈ks,pos (w k)
theorem Tb.add{α:Type}[Add α]{z:α}{pos:α->Prop}{w:aa->α}(T:Tb z pos ks w){x:α}(hx:pos (z+x))(hp:∀a,pos a->pos (a+x))(c:aa):Tb z pos (bc ks c) (cR w c x):=by
 refine⟨yv T.nd c,λk hk=>?_,λk hk=>?_⟩
 ·have h:¬ (k∈ks\/k=c):=λz=>hk (dY.mpr z);unfold cR;rw[if_neg λz=>h (.inr z)];exact T.out k λz=>h (.inl z)
 ·unfold cR;by_cases e:k=c
  ·rw[if_pos e];by_cases hc:k∈ks
   ·exact hp _ (T.wx k hc)
   ·rw[T.out k hc];exact hx
  ·rw[if_neg e];exact T.wx k ((dY.mp hk).resolve_right e)
noncomputable def cq(w:aa->Int):aa->Rat:=λk=>(w k:Rat)
theorem zq(w:aa->Int)(c:aa)(x:Int):cq (cR w c x)=cR (cq w) c (x:Rat):=by
 funext k;unfold cq cR;split
 ·rw[Rat.intCast_add]
 ·rfl
def kI(W:Int)(p:aa):aa:=match xZ W p with|some z=>z.2.1|none=>[]
def iT(W:Int)(p:aa):aa:=match xZ W p with|some z=>z.2.2|none=>[]
def po(W cn cd:Int)(w0:aa->Int):aq->aq->(aa->Int)->aq×(aa->Int)
 |[],ks,w=>(ks,w)
 |p::ps,ks,w=>po W cn cd w0 ps (bc (bc ks (kI W p)) (iT W p)) (cR (cR w (kI W p) (w0 p*cn)) (iT W p) (w0 p*(cd - cn)))
structure Wy(n:Nat)(W:Int)(v:aa)(ks:aq)(w:aa->Int):Prop where
 tb:Tb (0:Int) (λx=>1<=x) ks w
 ok:∀p∈ks,jy n W p
 vs:∀p∈ks,vals W p=v
theorem tP(W cn cd:Int)(w0:aa->Int)(F:aa->Rat):∀(ps ks:aq) (w:aa->Int),Tb (0:Int) (λx=>1<=x) ks w->(∀p∈ps,1<=w0 p)->1<=cn->cn<cd ->
  Tb (0:Int) (λx=>1<=x) (po W cn cd w0 ps ks w).1 (po W cn cd w0 ps ks w).2/\(∀k,k∈(po W cn cd w0 ps ks w).1 ↔ k∈ks\/∃p∈ps,k=kI W p\/k=iT W p)/\(po W cn cd w0 ps ks w).1.length<=ks.length+2*ps.length /\
  jq (po W cn cd w0 ps ks w).1 (cq (po W cn cd w0 ps ks w).2) F=jq ks (cq w) F+(ps.map λp=>(w0 p:Rat)*((cn:Rat)*F (kI W p)+((cd - cn:Int):Rat)*F (iT W p))).sum
 |[],ks,w,T,_,_,_=>by
  refine⟨T,λk=>?_,by simp[po],?_⟩
  ·simp[po]
  ·simp[po];grind
 |p::ps,ks,w,T,h0,h1,h2=>by
  have hp:=h0 p WR;have a1:1<=w0 p*cn:=by have:=Yz hp h1 (by decide) (by left);left
  have a2:1<=w0 p*(cd - cn):=by have:=Yz hp (show 1<=cd - cn by left) (by decide) (by left);left
  have T1:=T.add (x:=w0 p*cn) (by left) (λa ha=>by left) (kI W p);have T2:=T1.add (x:=w0 p*(cd - cn)) (by left) (λa ha=>by left) (iT W p);obtain⟨g1,g2,g3,g4⟩:=tP W cn cd w0 F ps _ _ T2 (λq hq=>h0 q (WT _ hq)) h1 h2;refine⟨g1,λk=>?_,?_,?_⟩
  ·rw[po,g2,dY,dY];simp only[List.mem_cons];constructor
   ·rintro (((h|h)|h)|⟨q,hq,h⟩)
    ·exact .inl h
    ·exact .inr ⟨p,.inl rfl,.inl h⟩
    ·exact .inr ⟨p,.inl rfl,.inr h⟩
    ·exact .inr ⟨q,.inr hq,h⟩
   ·rintro (h|⟨q,rfl|hq,h⟩)
    ·exact .inl (.inl (.inl h))
    ·exact .inl (h.elim (λz=>.inl (.inr z)) .inr)
    ·exact .inr ⟨q,hq,h⟩
  ·have l1:=dZ ks (kI W p);have l2:=dZ (bc ks (kI W p)) (iT W p);rw[po];simp only[List.length_cons];left
  ·rw[po,g4,zq,p6 F T1.nd (λh=>by unfold cq;rw[T1.out _ h];rfl),zq,p6 F T.nd (λh=>by unfold cq;rw[T.out _ h];rfl),List.map_cons,List.sum_cons,Rat.intCast_mul,Rat.intCast_mul];grind
theorem Wy.step{n:Nat}{v:aa}{w:aa->Int}(I:Wy n W v ks w)(hW:W<=9)(hv:v≠[])(hk:ks≠[]):
  ∃a b r,v=a::b::r/\0<a/\a<W/\0<b/\b<W/\Wy n W (nv W v) (po W (eE W a b).num (eE W a b).den w ks [] λ_=>0).1 (po W (eE W a b).num (eE W a b).den w ks [] λ_=>0).2/\(po W (eE W a b).num (eE W a b).den w ks [] λ_=>0).1≠[]/\(po W (eE W a b).num (eE W a b).den w ks [] λ_=>0).1.length<=2*ks.length /\
   ∀l k,v.length<=k->jq (po W (eE W a b).num (eE W a b).den w ks [] λ_=>0).1 (cq (po W (eE W a b).num (eE W a b).den w ks [] λ_=>0).2) (λp=>Pr W k p l)=((eE W a b).den:Rat)*jq ks (cq w) (λp=>Pr W k p l):=by
 obtain⟨p0,yK⟩:=List.exists_mem_of_ne_nil ks hk;obtain⟨A0,a,B0,b,C0,T0⟩:=(I.ok p0 yK).two (by rw[I.vs p0 yK];exact hv);have ev:=T0.vals;rw[I.vs p0 yK]at ev;obtain⟨q1,q2,q3,q4⟩:=T0.pq;obtain⟨c0,c1,_⟩:=zt q1 q2 q3 q4 hW;have hn:1<=(eE W a b).num:=by have:=vo c0;left
 have hd:(eE W a b).num<((eE W a b).den:Int):=by
  have h':((eE W a b).num:Rat)<((eE W a b).den:Rat):=by
   rw[tL];have h2:(0:Rat)<((eE W a b).den:Rat):=by exact_mod_cast (eE W a b).den_pos
   have:=XG c1 h2
   rwa [Rat.one_mul]at this
  exact_mod_cast h'
 have tw:∀p∈ks,∃A B C,Tw W p A a B b C:=λp hp=>by
  obtain⟨A,a',B,b',C,T⟩:=(I.ok p hp).two (by rw[I.vs p hp];exact hv);have e:=T.vals;rw[I.vs p hp,ev]at e;obtain⟨h1,e'⟩:=Ye e;obtain⟨h2,_⟩:=Ye e';rw[<- h1,<- h2]at T;exact⟨A,B,C,T⟩
 have D2:∀{p A B C},Tw W p A a B b C->kI W p=A++jY W a b::(B++kg W a b::C)/\iT W p=A++kg W a b::(B++jY W a b::C):=λT=>by
  unfold kI iT;rw[T.xZ];exact⟨rfl,rfl⟩
 have Wb:Tb (0:Int) (λx=>1<=x) [] λ_=>0:=⟨Yy,λ_ _=>rfl,λ_ h=>nomatch h⟩
 have M:=λF=>tP W (eE W a b).num (eE W a b).den w F ks [] (λ_=>0) Wb (λp hp=>I.tb.wx p hp) hn hd;obtain⟨m1,m2,m3,_⟩:=M λ_=>0;refine⟨a,b,vals W C0,ev,q1,q2,q3,q4,⟨m1,λk hk=>?_,λk hk=>?_⟩,?_,by simpa using m3,λl k hl=>?_⟩
 ·rcases(m2 k).mp hk with h|⟨p,hp,h⟩
  ·exact nomatch h
  ·obtain⟨A,B,C,T⟩:=tw p hp;obtain⟨e1,e2⟩:=D2 T;rw[e1,e2]at h;rcases h with rfl|rfl
   ·exact T.D2 (I.ok p hp)
   ·exact T.F4 (I.ok p hp)
 ·rcases(m2 k).mp hk with h|⟨p,hp,h⟩
  ·exact nomatch h
  ·obtain⟨A,B,C,T⟩:=tw p hp;obtain⟨e1,e2⟩:=D2 T;obtain⟨v1,v2⟩:=T.D4;rw[I.vs p hp]at v1 v2;rw[e1,e2]at h;rcases h with rfl|rfl
   ·exact v1
   ·exact v2
 ·intro z;have:=(m2 (kI W p0)).mpr (.inr ⟨p0,yK,.inl rfl⟩);rw[z]at this;exact nomatch this
 ·obtain⟨_,_,_,m4⟩:=M λp=>Pr W k p l;rw[m4];unfold jq;rw[List.map_nil,List.sum_nil,Rat.zero_add];have:∀qs:aq,(∀p∈qs,p∈ks)->(qs.map λp=>(w p:Rat)*(((eE W a b).num:Rat)*Pr W k (kI W p) l+(((eE W a b).den - (eE W a b).num:Int):Rat)*Pr W k (iT W p) l)).sum=((eE W a b).den:Rat)*(qs.map λp=>cq w p*Pr W k p l).sum:=λqs=>by
   induction qs with
   |nil=>intro _;simp
   |cons p qs ih =>
    intro h;rw[List.map_cons,List.map_cons,List.sum_cons,List.sum_cons,ih λq hq=>h q (List.mem_cons_of_mem _ hq)];have hp:=h p WR;obtain⟨A,B,C,T⟩:=tw p hp;obtain⟨e1,e2⟩:=D2 T;rw[e1,e2,CA l (k:=k) (I.ok p hp) T (by rw[I.vs p hp];exact hl)];have en:((eE W a b).num:Rat)=eE W a b*((eE W a b).den:Rat):=tL _;rw[Rat.intCast_sub,Rat.intCast_natCast,en];unfold cq;grind
  exact this ks λ_ h=>h
end DI
end
section
namespace DI
open PySem PySem.Spec PyProof.Rows L2
section
variable {prog:ax}{w:World}{A:ay}{E:aw}{s:Shared}
def Ends(prog:ax)(w:World)(A:ay)(it:Addr)(S:Heap->Prop):Prop:=∀(s:Shared) (Q E:aw),S s.heap->(∀h' e,Heap.ExtBut it s.heap h'->(∃o,h'.get? e=some o/\o.cls=.type "StopIteration")->E (.ref e) { s with heap:=h' })->wpAny (model prog w) A (Builtin.SmallTypes.nextOf (.ref it)) Q E s
structure Rx(z TI TO i1 i2:Addr)(f1 f2:aO):Prop where
 n1:TI≠z/\TO≠z/\i1≠z/\i2≠z
 n2:TI≠TO/\TI≠i1/\TI≠i2/\TO≠i1/\TO≠i2/\i1≠i2
 f1:z∉f1/\TO∉f1/\i2∉f1
 f2:z∉f2/\TO∉f2/\i1∉f2
section
variable {z TI TO i1 i2:Addr}{f1 f2:aO}{n1 n2 k:Nat}{P1 P2:Nat->Value->Prop}{S1 S2:Nat->Heap->Prop}{a b:Value}
end
end
section
variable {prog:ax}{w:World}{A:ay}{E:aw}{s:Shared}
end
section
variable {prog:ax}{w:World}{A:ay}{E:aw}{s:Shared}{d it:Addr}{es:Array DictEntry}{ep i:Nat}
end
section
variable {X:Cx}{pins:ak}{σ:St}{H:Hp}{s:Shared}{d:Addr}{cs:aq}{as:aO}{xs:ae}{ep:Nat}
end
section
variable {X:Cx}{pins:ak}{σ:St}{H:Hp}{s:Shared}{p b:Addr}{c:aa}{A:ay}{E:aw}
end
end DI
end
section
namespace DI
open PySem (Str)
noncomputable def sW:aj:=[.app 6 (.bin .mod (.v 3) (.bin .add (.v 5) (.int 1))),.asg (.nm 3) (.bin .fdiv (.v 3) (.bin .add (.v 5) (.int 1)))]
noncomputable def sV:aj:=[.asg (.nm 9) (.bf .min2 [(.ix (.v 6) (.v 7)),(.v 8)]),.setI 6 (.v 7) (.bin .sub (.ix (.v 6) (.v 7)) (.v 9)),.asg (.nm 8) (.bin .sub (.v 8) (.v 9))]
theorem pG(Φ:aU){B:Nat}(hB:B<=9)(c0 c1 c2 c4 c8 c9:aK):∀(k j:Nat) (N:Int) (ts:aa) (c7:aK),ts.length=j->j+k<=12->(∀t∈ts,0<=t/\t<=(B:Int)) ->
  ∃N' Ja wg,eM (λd ρ=>cm (.nm 7) d ρ) (λρ=>bC Φ sW ρ) ((List.range' j k).map λ(i:Nat)=>D.int (i:Int)) [c0,c1,c2,some (.int N),c4,some (.int B),some (.lst .ow (af ts)),c7,c8,c9]=ok (.nx,[c0,c1,c2,some (.int N'),c4,some (.int B),some (.lst .ow (af Ja)),wg,c8,c9])/\Ja.length=j+k/\∀t∈Ja,0<=t/\t<=(B:Int)
 |0,j,N,ts,c7,h1,_,h2=>⟨N,ts,c7,rfl,by left,h2⟩
 |k+1,j,N,ts,c7,h1,hj,h2=>by
  obtain⟨m1,m2⟩:=gK N (b:=(B:Int)+1) (by left);obtain⟨N',Ja,wg,ih,l1,l2⟩:=pG Φ hB c0 c1 c2 c4 c8 c9 k (j+1) (N.fdiv ((B:Int)+1)) (ts++[N.fmod ((B:Int)+1)]) (some (.int j)) (by simp[h1]) (by left) (λt ht=>by
   rcases List.mem_append.mp ht with ht|ht
   ·exact h2 t ht
   ·rw[List.mem_singleton.mp ht];left)
  rw[List.range'_succ,List.map_cons];have e1:bR .mod (.int N) (.int ((B:Int)+1))=ok (.int (N.fmod ((B:Int)+1))):=uO (by left);have e2:bR .fdiv (.int N) (.int ((B:Int)+1))=ok (.int (N.fdiv ((B:Int)+1))):=fO (cY (by left) (gj (by left)));have hc:ts.length<eK:=by show _<1000000;left
  refine⟨N',Ja,wg,fM (ρ1:=[c0,c1,c2,some (.int N),c4,some (.int B),some (.lst .ow (af ts)),some (.int j),c8,c9]) (by simp) (ρ2:=[c0,c1,c2,some (.int (N.fdiv ((B:Int)+1))),c4,some (.int B),some (.lst .ow (af (ts++[N.fmod ((B:Int)+1)]))),some (.int j),c8,c9]) ?_ ih,by left,l2⟩;simp[sW,e1,e2,hc]
theorem lA(a:aa)(t:Int)(b:aa):ni (af (a++t::b)) (a.length:Int)=ok (.int t):=by
 rw[jw (d:=.int t) (by rw[js];simp)];rfl
theorem qc(a:aa)(t x:Int)(b:aa):(af (a++t::b)).set a.length (.int x)=af ((a++[x])++b):=by
 unfold af;rw[<- List.map_set];congr 1;simp[List.set_append]
theorem pF(Φ:aU){B:Nat}(c0 c1 c2 c3 c4 c5:aK):∀(rest done:aa) (L:Int) (c7 c9:aK),done.length+rest.length<=12->(∀t∈done,0<=t/\t<=(B:Int))->(∀t∈rest,0<=t/\t<=(B:Int))->0<=L->L<=rest.sum ->
  ∃ts wg zB,eM (λd ρ=>cm (.nm 7) d ρ) (λρ=>bC Φ sV ρ) ((List.range' done.length rest.length).map λ(i:Nat)=>D.int (i:Int)) [c0,c1,c2,c3,c4,c5,some (.lst .ow (af (done++rest))),c7,some (.int L),c9]=ok (.nx,[c0,c1,c2,c3,c4,c5,some (.lst .ow (af ts)),wg,some (.int 0),zB])/\ts.length=done.length+rest.length/\(∀t∈ts,0<=t/\t<=(B:Int))/\ts.sum=(done++rest).sum - L
 |[],done,L,c7,c9,h1,h2,h3,h4,h5=>by
  have:L=0:=by simp at h5;left
  subst this;exact⟨done,c7,c9,by simp[eM],by simp,h2,by simp⟩
 |t::rest,done,L,c7,c9,h1,h2,h3,h4,h5=>by
  obtain⟨t0,t1⟩:=h3 t WR;rw[List.sum_cons]at h5;rw[List.length_cons]at h1;have hr:∀x∈rest,0<=x/\x<=(B:Int):=λx hx=>h3 x (WT _ hx);have hs:0<=rest.sum:=by
   have:∀l:aa,(∀x∈l,0<=x)->0<=l.sum:=λl=>by
    induction l with
    |nil=>intro _;exact Xm _
    |cons a l ih=>intro h;have:=ih λx hx=>h x (WT _ hx);have:=h a WR;rw[List.sum_cons];left
   exact this rest λx hx=>(hr x hx).1
  obtain⟨m,hm,m0,m1,m2,m3⟩:∃m:Int,(if L<t then L else t)=m/\0<=m/\m<=t/\m<=L/\(m=L\/m=t):=by
   by_cases h:L<t
   ·exact⟨L,Xf h,h4,by left,Xm _,.inl rfl⟩
   ·exact⟨t,Xs h,t0,Xm _,by left,.inr rfl⟩
  obtain⟨ts,wg,zB,ih,l1,l2,l3⟩:=pF Φ (B:=B) c0 c1 c2 c3 c4 c5 rest (done++[t - m]) (L - m) (some (.int done.length)) (some (.int m)) (by simp;left) (λx hx=>by
   rcases List.mem_append.mp hx with hx|hx
   ·exact h2 x hx
   ·rw[List.mem_singleton.mp hx];left) hr (by left) (by left)
  rw[List.length_cons,List.range'_succ,List.map_cons];have e1:=lA done t rest;have e2:qS .min2 [.int t,.int L]=ok (.int m):=by show ok (D.int (if L<t then L else t))=_;rw[hm]
  have hx:=wI (Φ:=Φ) (i:=6) (j:=done.length) (k:=.v 7) (e:=.bin .sub (.ix (.v 6) (.v 7)) (.v 9)) (ρ:=[c0,c1,c2,c3,c4,c5,some (.lst .ow (af (done++t::rest))),some (.int done.length),some (.int L),some (.int m)]) (ρ':=[c0,c1,c2,c3,c4,c5,some (.lst .ow (af (done++t::rest))),some (.int done.length),some (.int L),some (.int m)]) (d:=.int (t - m)) (z:=done.length) (ds:=af (done++t::rest)) (by simp[e1]) (by simp) rfl (by rw[yy (by left) (by simp;left)];simp);rw[qc]at hx;refine⟨ts,wg,zB,fM (ρ1:=[c0,c1,c2,c3,c4,c5,some (.lst .ow (af (done++t::rest))),some (.int done.length),some (.int L),c9]) (by simp) (ρ2:=[c0,c1,c2,c3,c4,c5,some (.lst .ow (af ((done++[t - m])++rest))),some (.int done.length),some (.int (L - m)),some (.int m)]) ?_ (by simpa using ih),by simp at l1 ⊢;left,l2,by rw[l3];simp;left⟩;simp only[sV];rw[g_,sN];simp[e1,e2];rw[hx];simp
noncomputable def uA:CE:=.comp 1 (.nm 0) [5] .seq [(.v 6)] [] (.call 201 [(.v 0),(.v 1)])
def oN:aj:=[.asg (.nm 3) (.call 200 [(.v 0),(.v 1)]),.asg (.nm 4) (.bin .add (.int 1) (.bin .mod (.v 3) (.v 2))),.asg (.nm 3) (.bin .fdiv (.v 3) (.v 2)),.asg (.nm 5) (.bin .add (.int 1) (.bin .mod (.v 3) (.int 9))),.asg (.nm 3) (.bin .fdiv (.v 3) (.int 9)),.asg (.nm 6) (.lst []),.fr (.nm 7) (.kW (.v 4)) sW,.asg (.nm 8) (.bin .mod (.bf .md [(.v 6)]) (.v 5)),.fr (.nm 7) (.kW (.v 4)) sV,.ret uA]
def zI(m:aD):Prop:=∀(ns:aa) (a:Int) (p:Nat),0<=a->1<=p->p<=12->∃qs B,m [.lst .sc (af ns),.int a,.int p]=ok (.lst .ow (a_ qs))/\l9 p qs B
theorem Eo:∀l:aa,(∀x∈l,0<=x)->0<=l.sum:=λl=>by
 induction l with
 |nil=>intro _;exact Xm _
 |cons a l ih=>intro h;have:=ih λx hx=>h x (WT _ hx);have:=h a WR;rw[List.sum_cons];left
theorem ER(Φ:aU)(QI:zJ (Φ 200))(QH:kE (Φ 201)):zI (mk Φ 3 10 oN):=by
 intro ns a p ha p1 p2;have e1:=QI ns a ha;obtain⟨f1,f2⟩:=gK (eG ns a) (b:=(p:Int)) (by left);obtain⟨n,hn⟩:∃n:Nat,1+(eG ns a).fmod p=(n:Int):=⟨(1+(eG ns a).fmod p).toNat,by left⟩
 obtain⟨g1,g2⟩:=gK ((eG ns a).fdiv p) (b:=9) (by decide);obtain⟨B,hB⟩:∃k:Nat,1+((eG ns a).fdiv p).fmod 9=(k:Int):=⟨(1+((eG ns a).fdiv p).fmod 9).toNat,by left⟩
 have m1:bR .mod (.int (eG ns a)) (.int p)=ok (.int ((eG ns a).fmod p)):=uO (by left);have m2:bR .fdiv (.int (eG ns a)) (.int p)=ok (.int ((eG ns a).fdiv p)):=fO (cY (by left) (gj (by left)));generalize (eG ns a).fdiv p=N at *;obtain⟨N',ts,c7,el,tl,tb⟩:=pG Φ (B:=B) (by left) (some (.lst .sc (af ns))) (some (.int a)) (some (.int p)) (some (.int n)) none none n 0 (N.fdiv 9) [] none rfl (by left) (λ_ h=>nomatch h);have hit:=Bt (Φ:=Φ) (a:=.v 4) (ρ:=[some (.lst .sc (af ns)),some (.int a),some (.int p),some (.int (N.fdiv 9)),some (.int n),some (.int B),some (.lst .ow []),none,none,none]) (n:=n) (by simp) (by left) (by left);rw[Int.toNat_natCast,List.range_eq_range']at hit;have hf:=iG (Φ:=Φ) (t:=.nm 7) (b:=sW) hit el;have s0:=Eo ts λt ht=>(tb t ht).1;obtain⟨k1,k2⟩:=gK ts.sum (b:=(B:Int)) (by left);have k3:ts.sum.fmod B<=ts.sum:=by
  rw[Int.fmod_eq_emod_of_nonneg _ (by left)];have h1:=Int.mul_ediv_add_emod ts.sum (B:Int);have h2:=YK (show(0:Int)<=(B:Int) by left) (Int.ediv_nonneg s0 (show(0:Int)<=(B:Int) by left));left
 have TV:ts.length=n:=by left
 obtain⟨us,d7,d9,S3,ul,ub,RE⟩:=pF Φ (B:=B) (some (.lst .sc (af ns))) (some (.int a)) (some (.int p)) (some (.int N')) (some (.int n)) (some (.int B)) ts [] (ts.sum.fmod B) c7 none (by simp;left) (λ_ h=>nomatch h) tb k1 k3;rw[List.nil_append,List.length_nil,TV]at S3;have Ln:=Bt (Φ:=Φ) (a:=.v 4) (ρ:=[some (.lst .sc (af ns)),some (.int a),some (.int p),some (.int N'),some (.int n),some (.int B),some (.lst .ow (af ts)),c7,some (.int (ts.sum.fmod B)),none]) (n:=n) (by simp) (by left) (by left);rw[Int.toNat_natCast,List.range_eq_range']at Ln;have Vf:=iG (Φ:=Φ) (t:=.nm 7) (b:=sV) Ln S3;have m3:bR .mod (.int ts.sum) (.int (B:Int))=ok (.int (ts.sum.fmod B)):=uO (by left);have Qz:(B:Int)≠0:=by left
 have e3:bg Φ uA [some (.lst .sc (af ns)),some (.int a),some (.int p),some (.int N'),some (.int n),some (.int B),some (.lst .ow (af us)),d7,some (.int 0),d9]=ok (.lst .ow (a_ (us.map λu=>Rat.divInt u B))):=by
  unfold uA;rw[dD (xs:=[.lst .al (af us)]) (items:=us.map D.int) (ds:=us.map λu=>qD (Rat.divInt u B)) (by simp) (by rw[dU,cu];rfl) (cN λu hu=>⟨[some (.int u),some (.int B)],by simp[bE],by simp,?_⟩) (by simp;exact cP (by simp at ul;left))]
  ·simp[a_,bA]
  ·have:=QH u B Qz (gj (by left));simp[this]
 refine⟨us.map λu=>Rat.divInt u B,B,?_,?_⟩
 ·have zS:bR .add (.int 1) (.int ((eG ns a).fmod p))=ok (.int n):=by rw[DP,hn]
  have km:bR .add (.int 1) (.int (N.fmod 9))=ok (.int B):=by rw[DP,hB]
  simp[mk_eq,oN,e1,m1,m2,zS,km,hf,m3,Vf,KI Φ uA _ rfl,e3]
 ·rw[List.nil_append]at RE;have hdiv:(B:Int)∣us.sum:=by
   rw[RE,Int.fmod_eq_emod_of_nonneg _ (by left)];exact Int.dvd_self_sub_emod
  obtain⟨s,hs⟩:=hdiv;have GS:(0:Rat)<(B:Int):=by
   have:=Xu (a:=0) (b:=(B:Int));simpa using this.mpr (by left)
  refine⟨by simp at ul ⊢;left,by simp at ul ⊢;left,by left,by left,λq hq=>?_,λq hq=>?_,λq hq=>?_,s,?_⟩
  ·obtain⟨u,hu,rfl⟩:=List.mem_map.mp hq;have h1:(0:Rat)<=(u:Rat):=by have:=Yc (a:=0) (b:=u);simpa using this.mpr (ub u hu).1
   rw[Rat.divInt_eq_div,Rat.div_def];exact Rat.mul_nonneg h1 (Rat.le_of_lt (Rat.inv_pos.mpr GS))
  ·obtain⟨u,hu,rfl⟩:=List.mem_map.mp hq;have h1:(u:Rat)<=((B:Int):Rat):=Rat.intCast_le_intCast.mpr (ub u hu).2;rw[Rat.divInt_eq_div];have:=Rat.mul_le_mul_of_nonneg_right h1 (Rat.le_of_lt (Rat.inv_pos.mpr GS))
   rwa [Rat.mul_inv_cancel _ (Rat.ne_of_gt GS),<- Rat.div_def]at this
  ·obtain⟨u,hu,rfl⟩:=List.mem_map.mp hq;have:=so (t:=u) Qz;simpa using this
  ·rw[s_ (B:Int) Qz,hs,Rat.divInt_eq_div,Rat.intCast_mul,Rat.mul_comm];exact Rat.mul_div_cancel (Rat.ne_of_gt GS)
noncomputable def fI:Nat->aa->List (Int×Int)
 |_,[]=>[]
 |k,x::p=>((k:Int),x)::fI (k+1) p
noncomputable def rS(z:Int×Int):D:=.tup [.int z.1,.int z.2]
theorem qt:∀(p:aa) (k:Nat),bV k (af p)=(fI k p).map rS
 |[],_=>rfl
 |x::p,k=>by
  show D.tup [.int k,.int x]::bV (k+1) (af p)=_;rw[qt p (k+1)];rfl
theorem lD:∀(p:aa) (k:Nat),(fI k p).length=p.length
 |[],_=>rfl
 |x::p,k=>by rw[fI,List.length_cons,lD,List.length_cons]
variable {A B C:aa}{W:Int}
theorem Tw.d1{a b:Int}{p:aa}(T:Tw W p A a B b C):ni (af p) (A.length:Int)=ok (.int a):=by rw[T.eq];exact lA A a _
theorem Tw.d2{a b:Int}{p:aa}(T:Tw W p A a B b C):ni (af p) ((A.length+1+B.length:Nat):Int)=ok (.int b):=by
 rw[T.eq];have e:A++a::(B++b::C)=(A++a::B)++b::C:=by simp
 have:=lA (A++a::B) b C;rw[e,show A.length+1+B.length=(A++a::B).length by simp;left];exact this
noncomputable def s9(f:Fl)(ks:aq)(w:aa->Int):D:=.cE f ks (ks.map λk=>.int (w k))
theorem t5(g:Fl->Fl)(f:Fl)(ks:aq)(w:aa->Int):aZ g (s9 f ks w)=s9 (g f) ks w:=by
 show D.cE (g f) ks (aG g (ks.map λk=>.int (w k)))=_;rw[cf g (λk=>p8 g _)];rfl
theorem BK(g:Fl->Bool)(f:Fl)(ks:aq)(w:aa->Int):aS g (s9 f ks w)=g f:=by
 show(g f||aP g (ks.map λk=>.int (w k)))=_;rw[bU g (λk=>iV g _),Bool.or_false]
theorem C6(a:Int):aS anyF (D.int a)=false:=rfl
variable {ks:aq}
theorem w4{Φ:aU}(P:z0 Φ)(hl:ks.length<1000)(w:aa->Int)(c:aa)(x:Int):Φ 1033 [s9 .ow ks w,.int (w c+x),.tup (af c)]=ok (s9 .ow (bc ks c) (cR w c x)):=by
 have:=Jd P (e:=D.int) C6 hl w c (w c+x);unfold s9;rw[this];congr 2;refine W5 λk _=>?_;unfold cR;by_cases h:k=c
 ·rw[if_pos h,if_pos h,h]
 ·rw[if_neg h,if_neg h]
noncomputable def zj:CE:=.comp 1 (.nm 0) [1,2] .seq [(.bX 1035 [(.v 1)])] [(.cmp .gt (.bX 1032 [(.v 1),(.v 0)]) (.int 0))] (.tup [(.call 2 [(.bX 1032 [(.v 1),(.v 0)]),(.v 2)]),(.v 0)])
def uP:aj:=[.ret (.tup [(.v 0),zj])]
def sj(cs:aq)(ws:aa)(b:Int):aR:=((bw cs).filter λc=>decide (0<fK cs ws c)).map λc=>(Rat.divInt (fK cs ws c) b,c)
def DV(m:aD):Prop:=∀f (n:Int) (cs:aq) (ws:aa) (b:Int),cs.length=ws.length->cs.length<64->b≠0->b.natAbs<2 ^ 9000->m [.int n,.cE f cs (af ws),.int b]=ok (.tup [.int n,.lst .ow (iE (sj cs ws b))])
theorem JI(Φ:aU)(P:z0 Φ)(h2:g9 (Φ 2)):DV (mk Φ 3 3 uP):=by
 intro f n cs ws b hl c_ hb wA;have hp:(bw cs).Perm cs:=Xg _ _;have e1:bg Φ zj [some (.int n),some (.cE f cs (af ws)),some (.int b)]=ok (.lst .ow (iE (sj cs ws b))):=by
  unfold zj;rw[dD (xs:=[.lst .ow ((bw cs).map eL)]) (items:=(bw cs).map eL) (ds:=iE (sj cs ws b)) (by simp[CL P _ _ c_]) (by rw[dU,gi]) ?_ (by
   have:=List.length_filter_le (λc=>decide (0<fK cs ws c)) (bw cs);have vL:=hp.length_eq;rw[ka];unfold sj;rw[List.length_map];exact cP (by left))]
  ·rw[p7]
  ·unfold iE sj;rw[List.map_map];refine eQ λc hc=>?_;have um:c∈cs:=hp.mem_iff.mp hc;have d1:=λf=>Ma P f hl um;have f1:=h2.1 (fK cs ws c) b hb wA;have m1:aZ bH (eL c)=.tup (af c):=by show D.tup (aG bH (c.map D.int))=_;rw[ic];rfl
   refine⟨[some (eL c),some (.cE (bo f) cs (af ws)),some (.int b)],by simp[bE],by simp[m1,d1],λ_=>?_⟩;simp[m1,d1,f1];rfl
 simp[mk_eq,uP,e1]
noncomputable def lv(u:Nat):Nat:=2 ^ (u - 1)
structure Pg(n:Nat)(W:Int)(p0 v:aa)(ks:aq)(w:aa->Int)(bt:Int):Prop where
 wy:Wy n W v ks w
 ne:ks≠[]
 vY:ks.length*lv v.length<=32
 b1:1<=bt
 b2:bt*32 ^ v.length<=2 ^ 60
 vl:v.length<=12
 ma:∀l,jq ks (cq w) (λp=>Pr W 12 p l)=(bt:Rat)*Pr W 12 p0 l
theorem Pg.next{n:Nat}{p0 v:aa}{w:aa->Int}{bt:Int}(I:Pg n W p0 v ks w bt)(hW:W<=9)(hv:v≠[]):∃a b r,v=a::b::r/\Sm 5 (eE W a b)/\(nv W v).length<v.length/\Pg n W p0 (nv W v) (po W (eE W a b).num (eE W a b).den w ks [] λ_=>0).1 (po W (eE W a b).num (eE W a b).den w ks [] λ_=>0).2 (bt*(eE W a b).den):=by
 obtain⟨a,b,r,ev,q1,q2,q3,q4,g1,g2,g3,g4⟩:=I.wy.step hW hv I.ne;obtain⟨_,_,sm⟩:=zt q1 q2 q3 q4 hW;have WH:=(eE W a b).den_pos;have hd2:=sm.2;have Ld:=rG W a b r;have qN:v.length=r.length+2:=by rw[ev];rfl
 refine⟨a,b,r,ev,sm,by rw[ev]at *;simp only[List.length_cons]at *;left,g1,g2,?_,?_,?_,?_,λl=>?_⟩
 ·have f:=I.vY;have e1:lv v.length=2*2 ^ r.length:=by unfold lv;rw[qN,show r.length+2 - 1=r.length+1 by left,Nat.pow_succ,Nat.mul_comm]
  have e2:lv (nv W v).length<=2 ^ r.length:=by
   unfold lv;refine W8 (by decide) ?_;rw[ev];left
  rw[e1]at f;refine Xb (Nat.mul_le_mul g3 e2) ?_;rw[Nat.mul_comm 2,Nat.mul_assoc];exact f
 ·have:=Yz I.b1 (show(1:Int)<=((eE W a b).den:Int) by left) (by decide) (by have:=I.b1;left);left
 ·have b1:=I.b1;have b2:=I.b2;have e1:(32:Int) ^ (nv W v).length<=32 ^ (r.length+1):=by
   have:32 ^ (nv W v).length<=32 ^ (r.length+1):=W8 (by decide) (by rw[ev];exact Ld)
   exact_mod_cast this
  rw[qN,Int.pow_succ]at b2;have h1:bt*((eE W a b).den:Int)<=bt*32:=Int.mul_le_mul_of_nonneg_left (by left) (by left);have h2:bt*((eE W a b).den:Int)*32 ^ (nv W v).length<=(bt*32)*32 ^ (r.length+1):=Yz h1 e1 (Int.le_of_lt (Int.pow_pos (by decide))) (by left);refine Int.le_trans h2 ?_;rw[Int.mul_assoc,Int.mul_comm 32];exact b2
 ·have:=I.vl;rw[qN]at this;rw[ev];left
 ·rw[g4 l 12 I.vl,I.ma l,Rat.intCast_mul,Rat.intCast_natCast];grind
def Ru(W:Int)(p0:aa)(rs:aR):Prop:=∃ls:aq,ls.Nodup/\(∀l,l∈ls ↔ 0<Pr W 12 p0 l)/\rs=(bw ls).map λl=>(Pr W 12 p0 l,l)
theorem Ru.one{p0:aa}{rs ia:aR}(h:Ru W p0 rs)(h':Ru W p0 ia):rs=ia:=by
 obtain⟨ls,n1,m1,rfl⟩:=h;obtain⟨RY,n2,m2,rfl⟩:=h';have hp:ls.Perm RY:=(List.perm_ext_iff_of_nodup n1 n2).mpr λl=>(m1 l).trans (m2 l).symm;have e:bw ls=bw RY:=pB n2 (kQ n1) ((Xg _ _).trans hp);rw[e]
theorem Bx{x y:aa}(h:x=y):ind x y=1:=Xf h
theorem By{x y:aa}(h:¬ x=y):ind x y=0:=Xs h
theorem w5{b:Nat}(hb:0<b){q:Rat}(hd:q.den∣b)(h0:0<=q)(h1:q<=1):0<=dg b q/\dg b q<=(b:Int):=by
 obtain⟨k,rfl⟩:=hd;have e:(((q.den*k:Nat):Int)).fdiv q.den=(k:Int):=by
  rw[Int.natCast_mul,Int.mul_comm];exact Int.mul_fdiv_cancel _ (gf q)
 unfold dg;rw[e];have n0:=x4 h0;have n1:=rH h1;refine⟨YK n0 (by left),?_⟩;rw[Int.natCast_mul];exact Xj n1 (by left)
variable {qs:aM}
theorem l9.bot{m B:Nat}(I:l9 m qs B)(hm:m<=12):0<bD qs/\bD qs<=9/\∀q∈qs,q.den∣bD qs:=by
 obtain⟨a,_,c⟩:=(I.EC hm).lcm;have:bD qs∣B:=iU qs 1 (Nat.one_dvd _) I.qd;exact⟨a,Xb (XQ (by have:=I.b1;left) this) I.b2,c⟩
def tU(qs:aM):aa:=qs.map (dg (bD qs))
theorem l9.p0{m B:Nat}(I:l9 m qs B)(hm:m<=12):jy qs.length (bD qs) (tU qs):=by
 obtain⟨a,b,c⟩:=I.bot hm;obtain⟨s,hs⟩:=I.su;refine⟨by simp[tU],λx hx=>?_,λx hx=>?_,s,iM c hs⟩
 ·obtain⟨q,hq,rfl⟩:=List.mem_map.mp hx;exact(w5 a (c q hq) (I.q0 q hq) (I.q1 q hq)).1
 ·obtain⟨q,hq,rfl⟩:=List.mem_map.mp hx;exact(w5 a (c q hq) (I.q0 q hq) (I.q1 q hq)).2
noncomputable def qW(W x:Int):Rat:=Rat.divInt x W
noncomputable def toQ(W:Int)(p:aa):aM:=p.map (qW W)
@[simp]theorem MK(W:Int)(p:aa):(toQ W p).length=p.length:=XW ..
theorem Al(W:Int)(p:aa)(i:Nat)(x:Int):(toQ W p).set i (qW W x)=toQ W (p.set i x):=by unfold toQ;rw[List.map_set]
theorem Ef(W:Int){p:aa}{i:Nat}(h:i<p.length):ni (a_ (toQ W p)) (i:Int)=ok (qD (qW W (p.getD i 0))):=by
 rw[jw (d:=qD (qW W (p.getD i 0))) (by rw[AO];unfold toQ;rw[List.getElem?_map,List.getElem?_eq_getElem h,List.getD_eq_getElem?_getD,List.getElem?_eq_getElem h];rfl),rM]
section
variable {W:Int}(h0:0<W)
include h0
theorem uW:(0:Rat)<(W:Rat):=by have:=Xu (a:=0) (b:=W);simpa using this.mpr h0
theorem De(x:Int):qW W x*(W:Rat)=(x:Rat):=by
 unfold qW;rw[Rat.divInt_eq_div,Rat.div_mul_cancel (Rat.ne_of_gt (uW h0))]
theorem Fb{x y:Int}(h:qW W x=qW W y):x=y:=by
 have h1:=De h0 x;have h2:=De h0 y;rw[h,h2]at h1;exact(Rat.intCast_inj.mp h1).symm
theorem xJ:qW W 0=0:=by unfold qW;simp
theorem OV:qW W W=1:=by
 unfold qW;rw[Rat.divInt_eq_div,Rat.div_def,Rat.mul_inv_cancel _ (Rat.ne_of_gt (uW h0))]
theorem Fc(x y:Int):qW W x+qW W y=qW W (x+y):=by
 unfold qW;rw[Rat.divInt_eq_div,Rat.divInt_eq_div,Rat.divInt_eq_div,Rat.intCast_add];grind
theorem rA(x y:Int):qW W x - qW W y=qW W (x - y):=by
 unfold qW;rw[Rat.divInt_eq_div,Rat.divInt_eq_div,Rat.divInt_eq_div,Rat.intCast_sub];grind
theorem OU{x:Int}:qW W x=0 ↔ x=0:=⟨λh=>Fb h0 (h.trans (xJ h0).symm),λh=>by rw[h,xJ h0]⟩
end
theorem Jx{x:Int}(h0:0<W)(h9:W<=9)(h1:-100<=x)(h2:x<=100):Sm 8 (qW W x):=xn (by left) (by show _<256;left) (by show _<256;left)
theorem Kd:D.tup [.int 1,.int 1]=qD 1:=rfl
theorem tX:D.tup [.int 0,.int 1]=qD 0:=rfl
theorem FR(p q:Rat):dE .ne (qD p) (qD q)=ok (.bl (!decide (p=q))):=by rw[Ci (tW 39 p) (tW 39 q),zc]
noncomputable abbrev wo:=Rat×aa
noncomputable def tQ(f:Fl)(ks:aq)(S:aa->Rat):D:=.cE f ks (ks.map λk=>qD (S k))
theorem kf(g:Fl->Fl)(f:Fl)(ks:aq)(S:aa->Rat):aZ g (tQ f ks S)=tQ (g f) ks S:=by
 show D.cE (g f) ks (aG g (ks.map λk=>qD (S k)))=_;rw[cf g (λk=>rM g _)];rfl
theorem BJ(g:Fl->Bool)(f:Fl)(ks:aq)(S:aa->Rat):aS g (tQ f ks S)=g f:=by
 show(g f||aP g (ks.map λk=>qD (S k)))=_;rw[bU g (λk=>lH g _),Bool.or_false]
def uv(W:Int)(z:wo):Nat:=(vals W z.2).length
noncomputable def C4(W:Int)(l:aa)(st:List wo):Rat:=(st.map λz=>z.1*Pr W 12 z.2 l).sum
noncomputable def RX(W:Int)(st:List wo):Nat:=(st.map λz=>lv (uv W z)).sum
structure Lw(n:Nat)(W:Int)(p0:aa)(st:List wo)(ks:aq)(S:aa->Rat)(j:Nat):Prop where
 ok:∀z∈st,jy n W z.2
 pos:∀z∈st,0<z.1
 sm:∀z∈st,Sm (1+5*(12 - uv W z)) z.1
 tb:Tb (0:Rat) (λx=>0<x) ks S
 ss:∀l,Sm (1+80*j) (S l)
 kj:ks.length<=j
 vY:j+RX W st<=32
 ma:∀l,S l+C4 W l st=Pr W 12 p0 l
theorem jy.uv{n:Nat}{p:aa}(I:jy n W p):(vals W p).length<=n:=by rw[<- I.len];exact Yi _ _
theorem Lw.put{n:Nat}{p0:aa}{z:wo}{st:List wo}{S:aa->Rat}{j:Nat}(I:Lw n W p0 (z::st) ks S j)(hv:vals W z.2=[]):Lw n W p0 st (bc ks (nY W 0 z.2)) (cR S (nY W 0 z.2) z.1) (j+1):=by
 have hz:z∈z::st:=WR;have hs:=I.sm z hz;have hp:=I.pos z hz;refine⟨λy hy=>I.ok y (WT _ hy),λy hy=>I.pos y (WT _ hy),λy hy=>I.sm y (WT _ hy),I.tb.add (by grind) (λa ha=>by grind) _,λl=>?_,?_,?_,λl=>?_⟩
 ·unfold cR;split
  ·exact((I.ss l).add hs).mono (by left)
  ·exact(I.ss l).mono (by left)
 ·have:=dZ ks (nY W 0 z.2);have:=I.kj;left
 ·have f:=I.vY;unfold RX at *;rw[List.map_cons,List.sum_cons]at f;have:lv (uv W z)=1:=by unfold uv;rw[hv];rfl
  left
 ·have m:=I.ma l;unfold C4 at *;rw[List.map_cons,List.sum_cons,l4 hv]at m;unfold cR;by_cases e:l=nY W 0 z.2
  ·rw[if_pos e];rw[Bx e.symm]at m;grind
  ·rw[if_neg e];rw[By λh=>e h.symm]at m;grind
theorem fw(Φ:aU):∀(a b:aj) (ρ ρ':aY),bC Φ a ρ=ok (.nx,ρ')->bC Φ (a++b) ρ=bC Φ b ρ'
 |[],b,ρ,ρ',h=>by cases h;rfl
 |s::a,b,ρ,ρ',h=>by
  have h:bd (lN Φ s ρ) (λr=>match r with | (.nx,ρ')=>bC Φ a ρ'|r=>ok r)=ok (.nx,ρ'):=h;show bd (lN Φ s ρ) (λr=>match r with | (.nx,ρ')=>bC Φ (a++b) ρ'|r=>ok r)=_;obtain⟨⟨fo,ρ1⟩,e1,h⟩:=aA h;rw[e1,dj];cases fo with
  |nx=>exact fw Φ a b ρ1 ρ' h
  |rt d=>cases h
end DI
end
section
namespace DI
open PySem PySem.Spec PyProof.Rows L2
def Df(K:ao)(x:Str)(st:Stmt):Prop:=∃f fd,zO K x x st f fd/\PySem.W.nsIn K mainGlobals x=some (some (.ref f))
variable {K:ao}{st:Stmt}
theorem dmk{x:Str}{f:Addr}{oc:Value}{od an:Option Addr}{sl:Array (Option Value)}{kV dc pm cd ct:Value}(a:PySem.W.nsIn K mainGlobals x=some (some (.ref f)))(l:K.lookup f=some ⟨oc,od,.func (PySem.W.fnOf x x (dt st) (bK st) (aF st) .none kV dc pm an cd ct),sl⟩)(c:PySem.W.codeIn K cd x=true)(k:PySem.W.keepIn K (.ref f)=true):Df K x st:=⟨f,_,y0 l c k,a⟩
noncomputable def NH(N P:av)(sc:Scope):Bool:=decide (sc.kind=.function)&&(!sc.isCoroutine&&(!sc.isGenerator&&(decide N.Nodup&&(decide (N.take P.length=P)&&(P.all (λx=>decide (sc.names.lookup x=some .local\/sc.names.lookup x=some .cell))&&sc.names.all λy=>decide (y.2≠.free))))))
variable {N:av}
theorem y2{P:av}{sc:Scope}(h:NH N P sc=true):fQ N P sc:=by
 obtain⟨h1,h⟩:=aI h;obtain⟨h2,h⟩:=aI h;obtain⟨h3,h⟩:=aI h;obtain⟨h4,h⟩:=aI h;obtain⟨h5,h⟩:=aI h;obtain⟨h6,h7⟩:=aI h;exact⟨WO h1,jL h2,jL h3,WO h4,WO h5,λx hx=>WO (List.all_eq_true.mp h6 x hx),λy hy=>WO (List.all_eq_true.mp h7 y hy)⟩
def NQ(st:Stmt)(N ps:av)(tb:List (Nat×Str))(bl:av)(cs:List (Str×GK))(px:Px)(b:aj):Bool:=NH N ps (aF st)&&fW ⟨aF st,N,λn=>List.lookup n tb,bl,cs,px⟩ b (bK st)
theorem u1{α:Type}{P:List α->Prop}(h:∀a,P [a])(us:List α)(e:us.length=1):P us:=by obtain⟨a,rfl⟩:=KA e;exact h a
theorem u2{α:Type}{P:List α->Prop}(h:∀a b,P [a,b])(us:List α)(e:us.length=2):P us:=by obtain⟨a,b,rfl⟩:=Kz e;exact h a b
theorem u3{α:Type}{P:List α->Prop}(h:∀a b c,P [a,b,c])(us:List α)(e:us.length=3):P us:=by obtain⟨a,b,c,rfl⟩:=Ky e;exact h a b c
theorem u4{α:Type}{P:List α->Prop}(h:∀a b c d,P [a,b,c,d])(us:List α)(e:us.length=4):P us:=by obtain⟨a,b,c,d,rfl⟩:=Pe e;exact h a b c d
theorem u5{α:Type}{P:List α->Prop}(h:∀a b c d e,P [a,b,c,d,e])(us:List α)(e:us.length=5):P us:=by
 match us,e with
 |[a,b,c,d,e],_=>exact h a b c d e
variable {P:ax}{base:Heap}{mg:Str->Option Value}{w:World}
theorem Ent.u{k k':Nat}{y:Str}{m:aD}(h:Ent P w K mg base k y m)(hk:k<=k':=by decide):Ent P w K mg base k' y m:=h.up hk
theorem en{h:Heap}(X:K.In h)(G:h.Ns mainGlobals mg)⦃x:Str⦄⦃st:Stmt⦄⦃N ps bl:av⦄⦃tb:List (Nat×Str)⦄⦃cs:List (Str×GK)⦄⦃px:Px⦄⦃b:aj⦄(k:Nat)(Φ:aU)(m:aD)(d:Df K x st)(hc:NQ st N ps tb bl cs px b=true)
  (hp:oT px Φ/\CB px Φ) (vP:cB (λy=>mg y=none) bl) (n8:cB (λp:Str×GK=>∃u,mg p.1=some u/\wD K p.2 u) cs)
  (hf:cB (λp:Nat×Str=>Ent P w K mg base k p.2 (Φ p.1)) tb) (hm:∀ds r,m ds=ok r->ds.length=ps.length/\kU Φ N.length b ds=ok r) (hb:∀(kV doc pm:Value) (an:Option Addr) (fX ct:Value) (us:ag),us.length=ps.length->bindArgs (PySem.W.fnOf x x (dt st) (bK st) (aF st) .none kV doc pm an fX ct) ⟨us,[]⟩=pure (ps.zip us):=by first|exact λ_ _ _ _ _ _=>u1 λ_=>rfl|exact λ_ _ _ _ _ _=>u2 λ_ _=>rfl|exact λ_ _ _ _ _ _=>u3 λ_ _ _=>rfl|exact λ_ _ _ _ _ _=>u4 λ_ _ _ _=>rfl|exact λ_ _ _ _ _ _=>u5 λ_ _ _ _ _=>rfl):Ent P w K mg base (k+1) x m:=by
 obtain⟨f,fd,Fu,a⟩:=d;obtain⟨h1,h2⟩:=aI hc;exact ent Fu (YD X G a) (Fu.binds hb) (y2 h1) h2 hp.1 hp.2 (cB.mem vP) (cB.two (P:=λy i=>∃u,mg y=some u/\wD K i u) n8) (cB.tab (P:=λg y=>Ent P w K mg base k y (Φ g)) hf) hm
noncomputable def xm(PT F:aU)(i:Nat)(m:aD):aU:=λn=>bif Nat.ble 1000 n then PT n else bif Nat.beq n i then m else F n
theorem Sk{α:Type}{Q:Nat->Prop}(p:Nat){k:Nat}{a b c:α}(h:(if p=k then a else b)=c)(h1:a=c->Q k)(h2:b=c->Q p):Q p:=by
 by_cases e:p=k
 ·subst e;rw[if_pos rfl]at h;exact h1 h
 ·rw[if_neg e]at h;exact h2 h
variable {F:Addr->Prop}{X Z:Cx}{cs:aB}{Φ:aU}
theorem Gq{α:Type}{e:Expr}{p k:Nat}{a b c:α}(h:(if p=k then a else b)=c)(h1:a=c->PE Z e (tD Z F Φ (.bX k cs))/\L2.PT Z e (ff Z F Φ (.bX k cs)))(h2:b=c->PE Z e (tD Z F Φ (.bX p cs))/\L2.PT Z e (ff Z F Φ (.bX p cs))):PE Z e (tD Z F Φ (.bX p cs))/\L2.PT Z e (ff Z F Φ (.bX p cs)):=Sk (Q:=λp=>PE Z e (tD Z F Φ (.bX p cs))/\L2.PT Z e (ff Z F Φ (.bX p cs))) p h h1 h2
theorem Sj{α:Type}{i p k:Nat}{a b c:α}(h:(if p=k then a else b)=c)(h1:a=c->PS Z st (jS Z F Φ (.mut k i cs)))(h2:b=c->PS Z st (jS Z F Φ (.mut p i cs))):PS Z st (jS Z F Φ (.mut p i cs)):=Sk (Q:=λp=>PS Z st (jS Z F Φ (.mut p i cs))) p h h1 h2
theorem jR:True:=trivial
theorem cB.nn{K:ao}{h:Heap}{mg:aN}(X:K.In h)(G:h.Ns mainGlobals mg):∀{l:av},cB (λy=>PySem.W.nsIn K mainGlobals y=some none) l->cB (λy=>mg y=none) l
 |[],_=>trivial
 |_::_,z=>⟨PySem.W.mg_none_of X G z.1,cB.nn X G z.2⟩
theorem VM{P:ax}{w:World}{K:ao}{h base:Heap}{mg:aN}{bl:av}{cs:List (Str×GK)}{px:Px}{PT:aU}(X:K.In h)(G:h.Ns mainGlobals mg)(hp:∀F i m,oT px (xm PT F i m)/\CB px (xm PT F i m))(vP:cB (λy=>mg y=none) bl)(n8:cB (λp:Str×GK=>∃u,mg p.1=some u/\wD K p.2 u) cs)
  ⦃x:Str⦄ ⦃st:Stmt⦄ (k:Nat) (Φ:aU) (d:Df K x st) (N:av) (a:Nat) (tb:List (Nat×Str)) (b:aj)
  (hf:cB (λp:Nat×Str=>Ent P w K mg base k p.2 (Φ p.1)) tb) (hc:NQ st N (N.take a) tb bl cs px b=true:=by decide +kernel) (e:∃F i m,Φ=xm PT F i m:=by exact⟨_,_,_,rfl⟩) (ha:(N.take a).length=a:=by rfl) (hb:∀(kV doc pm:Value) (an:Option Addr) (fX ct:Value) (us:ag),us.length=a->bindArgs (PySem.W.fnOf x x (dt st) (bK st) (aF st) .none kV doc pm an fX ct) ⟨us,[]⟩=pure ((N.take a).zip us):=by first|exact λ_ _ _ _ _ _=>u1 λ_=>rfl|exact λ_ _ _ _ _ _=>u2 λ_ _=>rfl|exact λ_ _ _ _ _ _=>u3 λ_ _ _=>rfl|exact λ_ _ _ _ _ _=>u4 λ_ _ _ _=>rfl|exact λ_ _ _ _ _ _=>u5 λ_ _ _ _ _=>rfl):Ent P w K mg base (k+1) x (mk Φ a N.length b):=by
 obtain⟨F,i,m,e⟩:=e;exact en X G k Φ _ d hc (e▸hp F i m) vP n8 hf (λds r q=>⟨(jo ds r q).1.trans ha.symm,(jo ds r q).2⟩) (λkV doc pm an fX ct us hu=>hb kV doc pm an fX ct us (hu.trans ha))
theorem VL{x:Str}{ps bl:av}{tb:List (Nat×Str)}{cs:List (Str×GK)}{px:Px}{b:aj}{f:Addr}{fd:FuncData}(k:Nat)(Φ:aU)(m:aD)(Fu:zO K x x st f fd)(hc:NQ st N ps tb bl cs px b=true)
  (hp:oT px Φ/\CB px Φ) (vP:cB (λy=>mg y=none) bl) (n8:cB (λp:Str×GK=>∃u,mg p.1=some u/\wD K p.2 u) cs)
  (hf:cB (λp:Nat×Str=>Ent P w K mg base k p.2 (Φ p.1)) tb) (hm:∀ds r,m ds=ok r->ds.length=ps.length/\kU Φ N.length b ds=ok r):f_ P w K mg base l6 (k+1) f fd ps (xk K ps.length m):=by
 obtain⟨h1,h2⟩:=aI hc;exact qq Fu (y2 h1) h2 hp.1 hp.2 (cB.mem vP) (cB.two (P:=λy i=>∃u,mg y=some u/\wD K i u) n8) (λg y h=>(cB.tab (P:=λg y=>Ent P w K mg base k y (Φ g)) hf g y h).ex) hm
noncomputable def Ah(n:Int):aa:=(List.range n.toNat).map λ(k:Nat)=>(k:Int)
def Kx(xs:ab):O D:=match one xs with
 |some x=>match x with
  |.int n=>if n<=eK /\ -eK<=n then ok (.lst .ow ((Ah n).map D.int))else none
  |_=>none
 |none=>none
theorem F3{xs:ab}{d:D}(h:Kx xs=ok d):∃n:Int,xs=[.int n]/\n<=eK /\ -eK<=n/\d=.lst .ow ((Ah n).map D.int):=by
 unfold Kx at h;cases hw:one xs with
 |none=>rw[hw]at h;exact nk h
 |some x =>
  obtain rfl:=cW hw;rw[hw]at h;cases x<;>first|exact nk h | (cases h;done)|skip
  rename_i n;obtain⟨⟨h1,h2⟩,h3⟩:=qe h;exact⟨n,rfl,h1,h2,h3.symm⟩
def uK(sc:Scope)(bl:av)(e:Expr):Option (au):=match gR e with
 |some z=>match one z.2 with
  |some i=>if z.1=("list" : Str)/\jb sc z.1=true/\z.1∈bl then eF ("range" : Str) sc bl i else none
  |none=>none
 |none=>none
variable {args:au}
theorem zx{sc:Scope}{bl:av}{e:Expr}(h:uK sc bl e=some args):∃p pos i,e=.Call (.Name ("list" : Str) p) [i] [] pos/\jb sc ("list" : Str)=true/\("list" : Str)∈bl/\eF ("range" : Str) sc bl i=some args:=by
 unfold uK at h;cases hv:gR e with
 |none=>rw[hv]at h;exact nk h
 |some z =>
  obtain⟨x,as⟩:=z;rw[hv]at h;obtain⟨p,pos,rfl⟩:=eu hv;have h2:(match one as with|some i=>if x=("list" : Str)/\jb sc x=true/\x∈bl then eF ("range" : Str) sc bl i else none|none=>none)=some args:=h;clear h;cases hw:one as with
  |none=>rw[hw]at h2;exact nk h2
  |some a =>
   rw[hw]at h2;have h3:(if x=("list" : Str)/\jb sc x=true/\x∈bl then eF ("range" : Str) sc bl a else none)=some args:=h2;clear h2;obtain rfl:=cW hw;by_cases hc:x=("list" : Str)/\jb sc x=true/\x∈bl
   ·rw[if_pos hc]at h3;obtain⟨rfl,h1,h2⟩:=hc;exact⟨_,_,_,rfl,h1,h2,h3⟩
   ·rw[if_neg hc]at h3;cases h3
def T4(ta:TA):TE:=λσ H Q=>ta σ H λvs H1=>∃n:Int,vs=[.int n]/\n<=eK /\ -eK<=n/\∀l,H1 l=none->Q (.ref l) (upd H1 l (.lst ((Ah n).map V.int)))
theorem oX:∀{ns:aa} {us:ag},us.length=ns.length->(∀(i:Nat) (u:Value),us[i]?=some u->∃t,u=.int (ns.getD i 0) t)->Vals (ns.map V.int) us
 |[],[],_,_=>.nil
 |[],_::_,h,_=>by simp at h
 |_::_,[],h,_=>by simp at h
 |n::ns,u::us,h,hu=>.cons (hu 0 u rfl) (oX (by simpa using h) λi v hv=>hu (i+1) v hv)
theorem vq{e1:Expr}{ta:TA}{p pos p' pos':Pos}(hc:X.calm=true)(GC:Gl X "list")(Lf:X.mg "list" = none)(hg:Gl X "range")(hm:X.mg "range" = none)(ha:PA X [e1] ta)(hs:starEach [e1] X.env=[(false,eval e1 X.env)]):
  PE X (.Call (.Name "list" p') [.Call (.Name "range" p) [e1] [] pos] [] pos') (T4 ta):=by
 intro pins s σ H Q I h;refine Xn (dA I GC Lf boot_list ?_);refine W9 ?_;show wpAny _ _ (spliced ((false,eval (.Call (.Name "range" p) [e1] [] pos) X.env)::backTo pos' (starEach [] X.env))) _ _ s;refine XX ?_;refine Call_ (dA I hg hm boot_range (W9 (cH (ha pos pins s σ H _ I h) λus s1 bJ=>?_) hs rfl));obtain⟨vs,H1,I1,r1,q1⟩:=bJ;obtain⟨n,e,n1,n2,hq⟩:=q1;subst e;have Wv:n<=1000000:=n1;have Wu:-1000000<=n:=n2;cases r1 with
 |cons r rr =>
  cases rr;obtain⟨t,rfl⟩:=r;refine call_range_1 (X6 ?_);have e2:Builtin.Range.rangeSize 0 n 1=((n.toNat:Nat):Int):=by rw[rangeSize_one];split<;>left
  refine call_list_range (I1.ok.hd hc) (IsRange.new ..) (small_one (by left) (by left) (by left) (by left)) e2 (by left) λh' tk j5 c' hk hS fJ=>?_;have keep:∀b o,s1.heap.get? b=some o->h'.get? b=some o:=λb o e=>hk b o (WQ _ e);have hsz:j5.size=n.toNat:=fJ.1;refine⟨.ref _,upd H1 _ (.lst ((Ah n).map V.int)),I1.laid (t':=tk) keep ?_ ⟨?_,j5.toList,c',?_,?_⟩,rfl,hq _ (I1.ck.fresh ?_)⟩
  ·show s1.heap.objs.size<=(s1.heap.push _).objs.size;simp[Heap.push]
  ·rw[sizeLine_eq];simp[Ah];left
  ·refine oX (by simp[Ah,hsz]) λi u hu=>?_;have Ir:j5[i]?=some u:=by simpa using hu
   have hi:i<n.toNat:=by rw[<- hsz];exact(Array.getElem?_eq_some_iff.mp Ir).1
   obtain⟨t,rfl⟩:=fJ.2 i u Ir;refine⟨t,?_⟩;have:(Ah n).getD i 0=(i:Int):=by unfold Ah;simp[List.getD,hi]
   rw[this];congr 1;left
  ·rw[Array.toArray_toList];exact hS
  ·show s1.heap.objs.size<=(s1.heap.push _).objs.size;simp[Heap.push]
theorem Kw{n:Nat}(hΦ:Φ n=Kx){sc:Scope}{bl:av}{k:Nat}(L:PX X sc bl k){e:Expr}(he:uK sc bl e=some args)(hs:mC X F Φ cs args):PE X e (tD X F Φ (.bX n cs))/\PT X e (ff X F Φ (.bX n cs)):=by
 obtain⟨p,pos,i,rfl,h1,h2,hz⟩:=zx he;obtain⟨p',pos',a,rfl,rfl,h3,h4⟩:=gM hz;cases cs with
 |nil=>exact hs.elim
 |cons c cs=>cases cs with
  |cons _ _=>exact hs.2.2.2.elim
  |nil =>
   have pa:PA X [a] (mJ X F Φ [c]):=PA.imp (cO hs.1 (PA.imp eW λ_ _ _ h=>eO h) (hs.2.1 _)) λ_ _ _ h=>cU h;have this:PE X (.Call (.Name ("list" : Str) p) [.Call (.Name ("range" : Str) p') [a] [] pos'] [] pos) (tD X F Φ (.bX n [c])):=by
    refine PE.imp (vq L.calm (L.gl h1) (L.bl _ h2) (L.gl h3) (L.bl _ h4) pa (hs.2.1 _)) λσ H Q hq=>?_;obtain⟨R,τ,ρ,d,Si,ev,hq⟩:=hq;obtain⟨xs,cL,ev⟩:=aA ev;rw[hΦ]at ev;obtain⟨m,rfl,m1,m2,rfl⟩:=F3 ev;refine⟨R,τ,ρ,_,Si,cL,λvs H1 e1 r1=>?_⟩;obtain⟨τt,fr,rs⟩:=r1;obtain⟨v,rfl,rv⟩:=rs.one;cases rv;refine⟨m,rfl,m1,m2,λl hl=>hq _ _ ?_ ?_⟩
    ·intro b o e;have e':=e1 b o e;rw[aQ λz=>by rw[z,hl]at e';cases e'];exact e'
    ·refine bN.p5 (e1.free hl) (λb o e=>?_) aV (gJ _);have e':=e1 b o e;rw[aQ λz=>by rw[z,hl]at e';cases e'];exact e'
   exact⟨this,cJ this λ_=>rfl⟩
end DI
end
section
namespace DI
open PySem PySem.Spec PyProof.Rows L2
open AutoSeq1 (wpAny_loadPart')
section
variable {prog:ax}{w:World}{A:ay}{E:aw}{s:Shared}
theorem mw{R:ag->Shared->Prop}{r:Addr}{a b c:Int}{t u v:Tok}{n:Nat}(hh:A.handled=none)(hr:IsRange s.heap r a b c t u v)(rW:Builtin.Range.small a b c=true)(hn:Builtin.Range.rangeSize a b c=n)(hlen:n<=2 ^ 24)
  (h:∀(h':Heap) (tk:Nat) (acc:aC),(∀b o,s.heap.get? b=some o->h'.get? b=some o)->ItemsOf (λi v=>∃t,v=.int (a+i*c) t) acc n->R acc.toList { s with heap:=h',toks:=tk }):wpAny (model prog w) A (collect (.ref r)) R E s:=by
 unfold collect;refine WN (wpAny_runValue (XT entry_proto_collect' ?_));rw[Around.under_plainId PySem.F.plain_proto_collect _];show wpAny _ A.in1 (newList [] >>= λl=>again (.builtin "list.__iadd__" ⟨[l,.ref r],[]⟩)) _ _ s;refine WN (Xy ?_);refine WU ⟨plainId_quiet PySem.F.plain_list_iadd _,XT entry_list_iadd' ?_⟩;rw[Around.under_plainId PySem.F.plain_list_iadd _];have LI:(s.heap.push { cls:=.type "list",data:=.seq ([]:ag).toArray }).get? s.heap.objs.size=some { cls:=.type "list",data:=.seq #[] }:=WZ _ rfl;show wpAny _ A.in1 (Builtin.List.listExtendWith (.ref s.heap.objs.size) (.ref r) (.ref s.heap.objs.size)) _ _ _;have key:=wpAny_extend_range (prog:=prog) (w:=w) (A:=A) (s:={ s with heap:=s.heap.push { cls:=.type "list",data:=.seq ([]:ag).toArray } })
  (R:=λ(q:Result) (s':Shared)=>∃(h':Heap) (tk:Nat) (j5:aC) (c':Nat),q=.ok (.ret (.ref s.heap.objs.size))/\s'={ s with heap:=h',toks:=tk } /\
   (∀b o,s.heap.get? b=some o->h'.get? b=some o)/\h'.get? s.heap.objs.size=some { cls:=.type "list",dict:=none,data:=.seq j5 c',slots:=#[] }/\ItemsOf (λi v=>∃t,v=.int (a+i*c) t) j5 n)
  hh (WQ _ hr) rW hn hlen s.heap.objs.size (.ref s.heap.objs.size) 0 LI
  (λh' tk j5 c' hk wB fJ=>⟨h',tk,j5,c',rfl,rfl,λb o e=>hk b o (W2 (WX e)) (WQ _ e),wB,fJ⟩)
 refine W7 key (λfin s' x=>?_) λe s' x=>?_
 ·cases fin with
  |done f =>
   obtain⟨h',tk,j5,c',e,rfl,hk,wB,fJ⟩:=x;cases e;show wpAny _ A (load s.heap.objs.size >>= _) _ _ _;refine WN (wpAny_load wB ?_);exact WU (h h' tk j5 hk fJ)
  |again c₁ =>
   refine⟨x.1,XY x.2 λq s₂ y=>?_⟩;obtain⟨h',tk,j5,c',rfl,rfl,hk,wB,fJ⟩:=y;show wpAny _ A (load s.heap.objs.size >>= _) _ _ _;refine WN (wpAny_load wB ?_);exact WU (h h' tk j5 hk fJ)
 ·obtain⟨_,_,_,_,e',_⟩:=x;cases e'
end
end DI
end
section
namespace TK
open PySem PyProof.Rows
noncomputable def Im(xs:Array Keyed)(i:Nat):Nat:=match xs[i]? with
 |some p=>(numOf p.2).toNat
 |none=>0
theorem gy{xs ys:Array Keyed}{i j:Nat}(h:xs[i]?=ys[j]?):Im xs i=Im ys j:=by unfold Im;rw[h]
noncomputable def FF(xs:Array Keyed)(i:Nat):Int:=K xs i*64+(Im xs i:Int)
def Tl(n k:Nat)(xs:Array Keyed):Prop:=(∀i,i<k->Im xs i<k)/\∀i,k<=i->i<n->Im xs i=i
def Up(xs:Array Keyed)(k:Nat):Prop:=∀i j,i<j->j<k->FF xs i<FF xs j
def Dn(xs:Array Keyed)(k:Nat):Prop:=∀i j,i<j->j<k->FF xs j<FF xs i
theorem jz{xs:Array Keyed}{i j:Nat}(hj:j<=xs.size)(k:Nat):Im (mirror xs i j ((j - i) / 2)) k=if i<=k/\k<j then Im xs (i+j - 1 - k)else Im xs k:=by
 have e:=getElem?_mirror_all (i:=i) hj k;by_cases h:i<=k/\k<j
 ·rw[if_pos h]at e ⊢;exact gy e
 ·rw[if_neg h]at e ⊢;exact gy e
variable {src:Nat}
theorem jA{xs:Array Keyed}{d:Nat}(hs:src<xs.size)(hd:d<=src)(k:Nat):Im (bubble xs src d) k=if k=src - d then Im xs src else if src - d<k/\k<=src then Im xs (k - 1)else Im xs k:=by
 have e:=getElem?_bubble hs d hd k;by_cases h1:k=src - d
 ·rw[if_pos h1]at e ⊢;exact gy e
 ·rw[if_neg h1]at e ⊢;by_cases h2:src - d<k/\k<=src
  ·rw[if_pos h2]at e ⊢;exact gy e
  ·rw[if_neg h2]at e ⊢;exact gy e
theorem d5{xs:Array Keyed}{i j:Nat}(hj:j<=xs.size)(k:Nat):FF (mirror xs i j ((j - i) / 2)) k=if i<=k/\k<j then FF xs (i+j - 1 - k)else FF xs k:=by
 unfold FF;rw[K_mirror hj,jz hj];split<;>rfl
theorem nr{xs:Array Keyed}{d:Nat}(hs:src<xs.size)(hd:d<=src)(k:Nat):FF (bubble xs src d) k=if k=src - d then FF xs src else if src - d<k/\k<=src then FF xs (k - 1)else FF xs k:=by
 unfold FF;rw[K_bubble hs hd,jA hs hd];split
 ·rfl
 ·split<;>rfl
section
variable {n:Nat}{xs:Array Keyed}
theorem Tl.up{k:Nat}(h:Tl n k xs){k':Nat}(hk:k<=k')(hn:k'<=n):Tl n k' xs:=⟨λi hi=>by
 by_cases h1:i<k
 ·have:=h.1 i h1;left
 ·rw[h.2 i (by left) (by left)];exact hi,λi h1 h2=>h.2 i (by left) h2⟩
theorem Tl.lt{k:Nat}(h:Tl n k xs)(hn:k<=n){i:Nat}(hi:i<n):Im xs i<n:=by
 by_cases h1:i<k
 ·have:=h.1 i h1;left
 ·rw[h.2 i (by left) hi];exact hi
theorem Tl.mirror{k i j:Nat}(h:Tl n k xs)(hj:j<=xs.size)(hk:j<=k):Tl n k (mirror xs i j ((j - i) / 2)):=⟨λx hx=>by
 rw[jz hj];split
 ·exact h.1 _ (by left)
 ·exact h.1 _ hx,λx h1 h2=>by
 rw[jz hj,if_neg (by left)];exact h.2 x h1 h2⟩
theorem Tl.bubble{k src d:Nat}(h:Tl n k xs)(hs:src<xs.size)(hd:d<=src)(hk:src<k):Tl n k (bubble xs src d):=⟨λx hx=>by
 rw[jA hs hd];split
 ·exact h.1 _ hk
 ·split
  ·exact h.1 _ (by left)
  ·exact h.1 _ hx,λx h1 h2=>by
 rw[jA hs hd,if_neg (by left),if_neg (by left)];exact h.2 x h1 h2⟩
theorem y8{i j:Nat}(hk:K xs i<K xs j)(hi:Im xs i<64):FF xs i<FF xs j:=by unfold FF;left
theorem y9{i j:Nat}(hk:K xs i<=K xs j)(hi:Im xs i<64)(h:Im xs i<Im xs j):FF xs i<FF xs j:=by unfold FF;left
theorem Up.key{k:Nat}(h:Up xs k)(hI:∀i,i<k->Im xs i<64){i j:Nat}(dN:i<=j)(hj:j<k):K xs i<=K xs j:=by
 by_cases e:i=j
 ·subst e;exact Xm _
 ·have a:=h i j (by left) hj;have b:=hI i (by left);have c:=hI j hj;unfold FF at a;left
theorem Dn.key{k:Nat}(h:Dn xs k)(hI:∀i,i<k->Im xs i<64){i j:Nat}(dN:i<=j)(hj:j<k):K xs j<=K xs i:=by
 by_cases e:i=j
 ·subst e;exact Xm _
 ·have a:=h i j (by left) hj;have b:=hI i (by left);have c:=hI j hj;unfold FF at a;left
theorem Up.more{k:Nat}(h:Up xs k)(t:Tl n k xs)(c_:n<64)(hk:k<n)(h1:1<=k)(hl:¬ K xs k<K xs (k - 1)):Up xs (k+1):=λi j dN hj=>by
 by_cases e:j<k
 ·exact h i j dN e
 ·have ej:j=k:=by left
  subst ej;have a:=h.key (λi hi=>Yr (t.lt (Yj hk) (i:=i) (by left)) c_) (i:=i) (j:=j - 1) (by left) (by left);have b:=t.1 i dN;have c:=t.2 j (WV _) hk;exact y9 (by left) (by left) (by left)
theorem Dn.turn{k:Nat}(h:Dn xs k)(hk:k<=xs.size):Up (mirror xs 0 k ((k - 0) / 2)) k:=λi j dN hj=>by
 rw[d5 hk,d5 hk,if_pos (by left),if_pos (by left)];exact h _ _ (by left) (by left)
end
structure uZ(n:Nat)(xs:Array Keyed)(x q:Nat):Prop where
 le:q+1<=x
 dn:Dn xs (x - q)
 tl:Tl n (x - q) xs
 less:∀i,i<x - (q+1)->K xs (x - 1)<K xs i
 rP:∀i,x - (q+1)<=i->i<x->K xs i=K xs (x - 1)
section
variable {n:Nat}{xs:Array Keyed}
theorem uZ.next{x:Nat}(hD:Dn xs x)(hT:Tl n x xs)(hx:x<n)(c_:n<64)(hk:∀i,i<x->K xs x<K xs i):uZ n xs (x+1) 0 :=
 ⟨by left,λi j dN hj=>by
  by_cases e:j<x
  ·exact hD i j dN e
  ·have ej:j=x:=by left
   subst ej;exact y8 (hk i dN) (by rw[hT.2 j (Nat.le_refl _) hx];left),hT.up (by left) (by left),λi hi=>hk i (by left),λi h1 h2=>by
  have:i=x:=by left
  subst this;rfl⟩
theorem uZ.turn{x q:Nat}(g:uZ n xs x q)(hx:x<=n)(c_:n<64)(hs:x<=xs.size):Dn (mirror xs (x - (q+1)) x ((x - (x - (q+1))) / 2)) x/\Tl n x (mirror xs (x - (q+1)) x ((x - (x - (q+1))) / 2)):=by
 have gl:=g.le;refine⟨λi j dN hj=>?_,(g.tl.up (by left) hx).mirror hs (WV _)⟩;have h6:∀i,i<x->Im xs i<64:=λi hi=>Yr (g.tl.lt (by left) (i:=i) (by left)) c_;rw[d5 hs,d5 hs];by_cases h1:x - (q+1)<=i
 ·rw[if_pos (by left),if_pos (by left)];refine y9 ?_ (h6 _ (by left)) ?_
  ·rw[g.rP _ (by left) (by left),g.rP (x - (q+1)+x - 1 - i) (by left) (by left)];exact Xm _
  ·have b:=g.tl.2 (x - (q+1)+x - 1 - i) (by left) (by left);by_cases e:x - (q+1)+x - 1 - j<x - q
   ·have a:=g.tl.1 _ e;left
   ·have a:=g.tl.2 (x - (q+1)+x - 1 - j) (by left) (by left);left
 ·rw[if_neg (c:=x - (q+1)<=i/\i<x) (by left)];by_cases h2:x - (q+1)<=j
  ·rw[if_pos (by left)];refine y8 ?_ (h6 _ (by left));rw[g.rP _ (by left) (by left)];exact g.less i (by left)
  ·rw[if_neg (by left)];exact g.dn i j dN (by left)
theorem uZ.low{x q:Nat}(g:uZ n xs x q){i:Nat}(hi:i<x):K xs (x - 1)<=K xs i:=by
 by_cases h:i<x - (q+1)
 ·exact Int.le_of_lt (g.less i h)
 ·rw[g.rP i (by left) hi];exact Xm _
end
section
variable {prog:ax}{w:World}{A:ay}{E:aw}{s:Shared}{a₀:Array Keyed}(h0:IntKeys a₀)(c_:a₀.size<64)
include h0 c_
theorem xg{st:SortSt}{a:Nat}{Q:AscSt->SortSt->Prop}(ha:1<=a)(Vo:a<=a₀.size)(hB:SBase a₀ st)(hT:Tl a₀.size a (arrOf st))(hs:Up (arrOf st) a)
  (h:∀n,a<=n->n<=a₀.size->Up (arrOf st) n->(n=a₀.size\/K (arrOf st) n<K (arrOf st) (n - 1))->Q (none,n) st):wpS (model prog w) A E s (ascLoop a a₀.size) Q st:=by
 unfold ascLoop;refine X2 (I:=λx c bh=>st=bh/\c=(none,x)/\Up (arrOf st) x) ?_ ?_ ⟨rfl,rfl,hs⟩
 ·rintro x c bh KW Ni ⟨rfl,rfl,vK⟩;dsimp only;refine W_ (wpS_ltK hB h0 (by left) (by left) ?_);by_cases hl:K (arrOf st) x<K (arrOf st) (x - 1)
  ·simp only[hl,decide_true,if_true];exact Xi (h x KW (by left) vK (.inr hl))
  ·simp only[hl,decide_false,Bool.false_eq_true,if_false];exact Xi ⟨rfl,rfl,vK.more (hT.up KW (by left)) c_ Ni (by left) hl⟩
 ·rintro c bh ⟨rfl,rfl,vK⟩;rw[show max a a₀.size=a₀.size by left]at vK ⊢;exact h _ Vo (WV _) vK (.inl rfl)
theorem tm{st:SortSt}{n:Nat}{Q:Option Nat->SortSt->Prop}(h1:1<=n)(hn:n<=a₀.size)(hB:SBase a₀ st)(hT:Tl a₀.size n (arrOf st))(hs:Dn (arrOf st) n)
  (h:∀m bh,SBase a₀ bh->1<=m->m<=a₀.size->Tl a₀.size m (arrOf bh)->Up (arrOf bh) m->Q (some m) bh):wpS (model prog w) A E s (tail3 n a₀.size) Q st:=by
 unfold tail3;have hz:n<=(arrOf st).size:=by rw[hB.size];exact hn
 refine W_ (wpS_reverse ?_);have km:SBase a₀ (setArr st (mirror (arrOf st) 0 n ((n - 0) / 2))):=hB.setArr (mirror_perm _ _ _ _);have BO:Tl a₀.size n (arrOf (setArr st (mirror (arrOf st) 0 n ((n - 0) / 2)))):=hT.mirror hz (WV _);exact W_ (xg h0 c_ h1 hn km BO (hs.turn hz) λm m1 m2 u _=>Xi (h m _ km (by left) m2 (BO.up m1 m2) u))
theorem Aw{st:SortSt}{n:Nat}{Q:DescSt->SortSt->Prop}(hn:n<=a₀.size)(hB:SBase a₀ st)(g:uZ a₀.size (arrOf st) n 0)
  (h:∀m q bh,SBase a₀ bh->n<=m->m<=a₀.size->uZ a₀.size (arrOf bh) m q->Q (none,m,q) bh):wpS (model prog w) A E s (descLoop n a₀.size) Q st:=by
 unfold descLoop;have g1:=g.le;refine X2 (I:=λx c bh=>∃q,c=(none,x,q)/\SBase a₀ bh/\uZ a₀.size (arrOf bh) x q) ?_ ?_ ⟨0,rfl,hB,g⟩
 ·rintro x c bh KW Ni ⟨q,rfl,km,g'⟩;dsimp only;have hz:x<=(arrOf bh).size:=by rw[km.size];left
  have gl:=g'.le;refine W_ (wpS_ltK km h0 (by left) (by left) ?_);by_cases hl:K (arrOf bh) x<K (arrOf bh) (x - 1)
  ·simp only[hl,decide_true,if_true];have low:∀i,i<x->K (arrOf bh) x<K (arrOf bh) i:=λi hi=>Int.lt_of_lt_of_le hl (g'.low hi);by_cases hq:q>0
   ·rw[if_pos hq];obtain⟨t1,t2⟩:=g'.turn (by left) c_ hz;refine W_ (wpS_reverse (Xi ⟨0,rfl,km.setArr (mirror_perm _ _ _ _),uZ.next t1 t2 Ni c_ λi hi=>?_⟩));rw[K_mirror_equal hz g'.rP,K_mirror_equal hz g'.rP];exact low i hi
   ·rw[if_neg hq];have q0:q=0:=by left
    subst q0;exact Xi ⟨0,rfl,km,uZ.next g'.dn g'.tl Ni c_ low⟩
  ·simp only[hl,decide_false,Bool.false_eq_true,if_false];refine W_ (wpS_ltK km h0 (by left) (by left) ?_);by_cases hg:K (arrOf bh) (x - 1)<K (arrOf bh) x
   ·simp only[hg,decide_true,if_true];exact Xi (h x q bh km KW (by left) g')
   ·simp only[hg,decide_false,Bool.false_eq_true,if_false];have e:K (arrOf bh) x=K (arrOf bh) (x - 1):=by left
    have ex:x+1 - (q+1)=x - q:=by left
    refine Xi ⟨q+1,rfl,km,by left,by rw[ex];exact g'.dn,by rw[ex];exact g'.tl,λi hi=>?_,λi i1 i2=>?_⟩
    ·rw[Nat.add_sub_cancel,e];exact g'.less i (by left)
    ·rw[Nat.add_sub_cancel,e];by_cases e2:i=x
     ·subst e2;exact e
     ·exact g'.rP i (by left) (by left)
 ·rintro c bh ⟨q,rfl,km,g'⟩;rw[show max n a₀.size=a₀.size by left]at g' ⊢;exact h _ q bh km hn (WV _) g'
theorem tu{st:SortSt}{n:Nat}{Q:Option Nat->SortSt->Prop}(hn:n+1<=a₀.size)(hB:SBase a₀ st)(g:uZ a₀.size (arrOf st) (n+1) 0)
  (h:∀m bh,SBase a₀ bh->1<=m->m<=a₀.size->Tl a₀.size m (arrOf bh)->Up (arrOf bh) m->Q (some m) bh):wpS (model prog w) A E s (descPart n a₀.size) Q st:=by
 unfold descPart;refine W_ (wpS_lift (YG ⟨rfl,?_⟩));refine W_ (Aw h0 c_ hn hB g λm q bh km m1 m2 g'=>?_);dsimp only;have hz:m<=(arrOf bh).size:=by rw[km.size];left
 by_cases hq:q>0
 ·rw[if_pos hq];obtain⟨t1,t2⟩:=g'.turn m2 c_ hz;exact W_ (wpS_reverse (tm h0 c_ (by left) m2 (km.setArr (mirror_perm _ _ _ _)) t2 t1 h))
 ·rw[if_neg hq];have q0:q=0:=by left
  subst q0;exact tm h0 c_ (by left) m2 km g'.tl g'.dn h
theorem xf{st:SortSt}{Q:Option Nat->SortSt->Prop}(h1:1<=a₀.size)(hB:SBase a₀ st)(hT:Tl a₀.size 0 (arrOf st))
  (h:∀m bh,SBase a₀ bh->1<=m->m<=a₀.size->Tl a₀.size m (arrOf bh)->Up (arrOf bh) m->Q (some m) bh):wpS (model prog w) A E s (countRun' 0 a₀.size) Q st:=by
 rw[countRun0_eq];refine W_ (xg h0 c_ (WV 1) h1 hB (hT.up (by left) h1) (λi j dN hj=>by left) λn n1 n2 u UZ=>?_);dsimp only;have NA:=hT.up (W6 n) n2;by_cases Qa:n=a₀.size
 ·rw[if_pos (by simpa using Qa)];exact Xi (h n st hB n1 n2 NA u)
 rw[if_neg (by simpa using Qa)];have hl:=UZ.resolve_left Qa;have h6:∀i,i<n->Im (arrOf st) i<64:=λi hi=>Yr (hT.lt (W6 _) (i:=i) (by left)) c_;by_cases hg:n>1
 ·rw[if_pos hg];refine W_ (wpS_ltK hB h0 (by left) (by left) ?_);by_cases hr:K (arrOf st) 0<K (arrOf st) (n - 1)
  ·simp only[hr,decide_true,if_true];exact Xi (h n st hB n1 n2 NA u)
  ·simp only[hr,decide_false,Bool.false_eq_true,if_false];have hz:n<=(arrOf st).size:=by rw[hB.size];left
   have all:∀k,0<=k->k<n->K (arrOf st) k=K (arrOf st) (n - 1):=λk _ hk=>by
    have a1:=u.key h6 (i:=0) (j:=k) (by left) hk;have a2:=u.key h6 (i:=k) (j:=n - 1) (by left) (by left);left
   refine W_ (wpS_reverse (tu h0 c_ (by left) (hB.setArr (mirror_perm _ _ _ _)) (uZ.next (λi j dN hj=>?_) (NA.mirror hz (WV _)) (by left) c_ λi hi=>?_) h))
   ·show FF (mirror (arrOf st) 0 n ((n - 0) / 2)) j<FF (mirror (arrOf st) 0 n ((n - 0) / 2)) i;rw[d5 hz,d5 hz,if_pos (by left),if_pos (by left)];exact u _ _ (by left) (by left)
   ·show K (mirror (arrOf st) 0 n ((n - 0) / 2)) n<K (mirror (arrOf st) 0 n ((n - 0) / 2)) i;rw[K_mirror_equal hz all,K_mirror_equal hz all,all i (by left) hi];exact hl
 ·rw[if_neg hg];have e1:n=1:=by left
  subst e1;refine tu h0 c_ (by left) hB (uZ.next (λi j dN hj=>by left) NA (by left) c_ λi hi=>?_) h;have:i=0:=by left
  subst this;exact hl
theorem Et{st:SortSt}{ok:Nat}{Q:Bool->SortSt->Prop}(Dy:1<=ok)(ck:ok<=a₀.size)(hB:SBase a₀ st)(hT:Tl a₀.size ok (arrOf st))(hs:Up (arrOf st) ok)
  (h:∀bh,SBase a₀ bh->Tl a₀.size a₀.size (arrOf bh)->Up (arrOf bh) a₀.size->Q true bh):wpS (model prog w) A E s (binarySort' 0 a₀.size ok) Q st:=by
 rw[binarySort'_eq];simp only[Nat.zero_add];refine W_ (wpS_mono (X2 (I:=λk c bh=>c=(none,())/\k<=a₀.size/\SBase a₀ bh/\Tl a₀.size k (arrOf bh)/\Up (arrOf bh) k)
  (Q:=λc bh=>c=(none,())/\SBase a₀ bh/\Tl a₀.size a₀.size (arrOf bh)/\Up (arrOf bh) a₀.size) ?step ?fin ⟨rfl,by left,hB,by rw[show max ok 1=ok by left];exact hT,by rw[show max ok 1=ok by left];exact hs⟩) ?post)
 case post =>
  rintro c bh ⟨rfl,b,t,u⟩;exact Xi (h bh b t u)
 case fin =>
  rintro c bh ⟨hc,_,b,t,u⟩;rw[show max (max ok 1) a₀.size=a₀.size by left]at t u;exact⟨hc,b,t,u⟩
 case step =>
  rintro k c bh WI Np ⟨rfl,_,km,BO,u⟩;have h6:∀i,i<a₀.size->Im (arrOf bh) i<64:=λi hi=>Yr (BO.lt (by left) hi) c_;have ik:=BO.2 k (WV _) Np;refine W_ (wpS_mono (X2 (I:=λx c jT=>bh=jT/\∃l r,c=(none,l,r)/\l<=r/\r<=k/\r - l<=k - x /\
    (∀i,i<l->FF (arrOf bh) i<FF (arrOf bh) k)/\(∀i,r<=i->i<k->FF (arrOf bh) k<FF (arrOf bh) i))
   (Q:=λc jT=>bh=jT/\∃l r,c=(none,l,r)/\l<=k /\
    (∀i,i<l->FF (arrOf bh) i<FF (arrOf bh) k)/\(∀i,l<=i->i<k->FF (arrOf bh) k<FF (arrOf bh) i)) ?istep ?ifin ?iinit) ?ipost)
  case iinit=>exact⟨rfl,0,k,rfl,by left,by left,by left,λi hi=>by left,λi h1 h2=>by left⟩
  case ifin =>
   rintro c jT ⟨rfl,l,r,rfl,Nm,hrk,hm,Gz,hhi⟩;have:l=r:=by left
   subst this;exact⟨rfl,l,l,rfl,hrk,Gz,hhi⟩
  case istep =>
   rintro x c jT _ Wz ⟨rfl,l,r,rfl,Nm,hrk,hm,Gz,hhi⟩;dsimp only;by_cases GD:l ≥ r
   ·rw[if_pos GD];have:l=r:=by left
    subst this;exact Xi ⟨rfl,l,l,rfl,hrk,Gz,hhi⟩
   ·rw[if_neg GD];refine W_ (wpS_ltK km h0 Np (by left) ?_);by_cases hl:K (arrOf bh) k<K (arrOf bh) ((l+r) / 2)
    ·simp only[hl,decide_true,if_true];refine Xi ⟨rfl,l,(l+r) / 2,rfl,by left,by left,by left,Gz,λi h1 h2=>?_⟩;have a:=y8 hl (h6 k Np);by_cases e:i=(l+r) / 2
     ·rw[e];exact a
     ·exact Int.lt_trans a (u _ _ (by left) h2)
    ·simp only[hl,decide_false,Bool.false_eq_true,if_false];refine Xi ⟨rfl,(l+r) / 2+1,r,rfl,by left,by left,by left,λi h1=>?_,hhi⟩;have a:FF (arrOf bh) ((l+r) / 2)<FF (arrOf bh) k:=y9 (Int.not_lt.mp hl) (h6 _ (by left)) (by rw[ik];exact BO.1 _ (by left));by_cases e:i=(l+r) / 2
     ·rw[e];exact a
     ·exact Int.lt_trans (u _ _ (by left) (by left)) a
  case ipost =>
   rintro c jT ⟨rfl,l,r,rfl,hlk,Gz,hhi⟩;show wpS _ _ _ _ (do moveDown' k l;pure (ForInStep.yield (none,()))) _ _;rw[moveDown'_eq];have zT:k<(arrOf bh).size:=by rw[km.size];exact Np
   refine W_ (wpS_modify (Xi ⟨rfl,by left,km.setArr (bubble_perm _ _ _),(BO.up (by left) (by left)).bubble zT (by left) (by left),λi j dN hj=>?_⟩));show FF (bubble (arrOf bh) k (k - l)) i<FF (bubble (arrOf bh) k (k - l)) j;rw[nr zT (by left),nr zT (by left),show k - (k - l)=l by left]
   repeat' split
   all_goals first
    | (exfalso;left)
    |exact Gz _ (by left)
    |exact hhi _ (by left) (by left)
    |exact u _ _ (by left) (by left)
theorem Av{st:SortSt}{Q:Unit->SortSt->Prop}(hB:SBase a₀ st)(h2:2<=a₀.size)(hT:Tl a₀.size 0 (arrOf st))
  (h:∀bh,(arrOf bh).Perm a₀->failedOf bh=none->Tl a₀.size a₀.size (arrOf bh)->Up (arrOf bh) a₀.size->Q () bh):wpS (model prog w) A E s sortRuns' Q st:=by
 rw[sortRuns'_eq];refine W_ (wpS_get ?_);dsimp only;have U3:minRun' a₀.size a₀.size 0=a₀.size:=by
  obtain⟨f,hf⟩:∃f,a₀.size=f+1:=⟨a₀.size - 1,by left⟩
  have:minRun' (f+1) a₀.size 0=a₀.size:=by rw[minRun'_succ,if_pos c_];rfl
  rwa [<- hf]at this
 simp only[hB.size,U3];refine W_ (wpS_mono (X2
  (I:=λx c bh=>(x=0/\c=(none,0)/\SBase a₀ bh/\Tl a₀.size 0 (arrOf bh))\/(1<=x/\c=(none,a₀.size)/\(arrOf bh).Perm a₀/\failedOf bh=none/\pendingOf bh = #[(0,a₀.size,0)]/\Tl a₀.size a₀.size (arrOf bh)/\Up (arrOf bh) a₀.size))
  (Q:=λc bh=>c=(none,a₀.size)/\(arrOf bh).Perm a₀/\failedOf bh=none/\pendingOf bh = #[(0,a₀.size,0)]/\Tl a₀.size a₀.size (arrOf bh)/\Up (arrOf bh) a₀.size) ?step ?fin (.inl ⟨rfl,rfl,hB,hT⟩)) ?post)
 case fin =>
  rintro c bh (⟨hx,_⟩|⟨_,r⟩)
  ·left
  ·exact r
 case step =>
  rintro x c bh _ hx (⟨rfl,rfl,km,BO⟩|⟨KW,rfl,r⟩)
  ·dsimp only;rw[if_neg (by left)];simp only[Nat.sub_zero,Nat.min_self,Nat.zero_add];refine W_ (xf h0 c_ (by left) km BO λm C2 LJ Qf Qe t2 u2=>?_);dsimp only;by_cases fj:m<a₀.size
   ·rw[if_pos fj];refine W_ (wpS_lift (YG ⟨rfl,?_⟩));refine W_ (Et h0 c_ Qf Qe LJ t2 u2 λJt NC t3 u3=>?_);simp only[Bool.not_true,Bool.false_eq_true,if_false];refine W_ (wpS_get ?_);have hb:(pendingOf Jt).back?=none:=by rw[NC.pend];rfl
    rw[hb];dsimp only;exact W_ (wpS_modify (Xi (.inr ⟨by left,rfl,NC.perm,NC.failed,by show(pendingOf Jt).push _=_;rw[NC.pend];rfl,t3,u3⟩)))
   ·rw[if_neg fj];have hm:m=a₀.size:=by left
    subst hm;refine W_ (wpS_get ?_);have hb:(pendingOf C2).back?=none:=by rw[LJ.pend];rfl
    rw[hb];dsimp only;exact W_ (wpS_modify (Xi (.inr ⟨by left,rfl,LJ.perm,LJ.failed,by show(pendingOf C2).push _=_;rw[LJ.pend];rfl,t2,u2⟩)))
  ·dsimp only;rw[if_pos (Nat.le_refl _)];exact Xi ⟨rfl,r⟩
 case post =>
  rintro c bh ⟨rfl,hp,hf,PY,t,u⟩;dsimp only;refine W_ (wpS_mono (X2 (I:=λ_ c jT=>jT=bh/\c=(none,())) (Q:=λc jT=>jT=bh/\c=(none,())) ?_ (λ_ _ hh=>hh) ⟨rfl,rfl⟩) ?_)
  ·rintro x c jT _ _ ⟨rfl,rfl⟩;refine W_ (wpS_get ?_);rw[if_pos (by rw[PY];exact Nat.le_refl 1)];exact Xi ⟨rfl,rfl⟩
  ·rintro c jT ⟨rfl,rfl⟩;exact Xi (h _ hp hf t u)
end
end TK
end
section
namespace DI
open PySem (Str)
noncomputable def f6(n:Nat):aa:=(List.range n).map λ(k:Nat)=>(k:Int)
theorem eV(n:Nat):(f6 n).Nodup:=(Yg).map (f:=λ(k:Nat)=>(k:Int)) λx y (h:x≠y) e=>h (Int.ofNat.inj e)
theorem j8{n:Nat}{x:Int}(h0:0<=x)(h1:x<n):x∈f6 n:=List.mem_map.mpr ⟨x.toNat,List.mem_range.mpr (by left),by left⟩
def nq(p:aa)(k h:Int):Prop:=aE p h<aE p k\/(aE p k=aE p h/\k<h)
instance (p:aa)(k h:Int):Decidable (nq p k h):=by unfold nq;exact inferInstance
theorem HR{p:aa}{k h:Int}(a:nq p k h):¬ nq p h k:=by unfold nq at *;left
theorem HQ(p:aa)(h:Int):¬ nq p h h:=by unfold nq;left
def OJ(n:Nat)(p:aa)(h:Int):Nat:=((f6 n).filter λk=>decide (nq p k h)).length
def bZ(n:Nat)(p:aa)(s:Nat):aa:=(f6 n).filter λh=>decide (OJ n p h<s)
theorem iK(n:Nat):(f6 n).Pairwise (· < ·):=by
 unfold f6;rw[List.pairwise_map];exact(List.pairwise_lt_range).imp λh=>by left
theorem jl:∀{a b:aa},a.Pairwise (· < ·)->b.Pairwise (· < ·)->(∀x,x∈a ↔ x∈b)->a=b
 |[],[],_,_,_=>rfl
 |[],y::b,_,_,h=>nomatch (h y).mpr WR
 |x::a,[],_,_,h=>nomatch (h x).mp WR
 |x::a,y::b,ha,hb,h=>by
  obtain⟨a1,a2⟩:=List.pairwise_cons.mp ha;obtain⟨b1,b2⟩:=List.pairwise_cons.mp hb;have e:x=y:=by
   rcases List.mem_cons.mp ((h x).mp WR)with e|m
   ·exact e
   ·rcases List.mem_cons.mp ((h y).mpr WR)with e|m'
    ·exact e.symm
    ·have:=b1 x m;have:=a1 y m';left
  subst e;congr 1;refine jl a2 b2 λz=>⟨λhz=>?_,λhz=>?_⟩
  ·rcases List.mem_cons.mp ((h z).mp (WT _ hz))with e|m
   ·have:=a1 z hz;left
   ·exact m
  ·rcases List.mem_cons.mp ((h z).mpr (WT _ hz))with e|m
   ·have:=b1 z hz;left
   ·exact m
theorem sub_len{a b:aa}(ha:a.Nodup)(h:∀x∈a,x∈b):a.length<=b.length:=by
 induction a generalizing b with
 |nil=>exact W6 _
 |cons x a ih =>
  obtain⟨h1,h2⟩:=List.nodup_cons.mp ha;have hm:=h x WR;have:=ih (b:=b.erase x) h2 λy hy=>(List.mem_erase_of_ne λ(z:y=x)=>h1 (z▸hy)).mpr (h y (WT _ hy));have hl:=X3 hm;have:0<b.length:=Xl hm;rw[List.length_cons];left
theorem iS{n:Nat}{p lot rest:aa}(hp:(lot++rest).Perm (f6 n))(h:∀a∈lot,∀b∈rest,nq p a b):∀x,x∈bZ n p lot.length ↔ x∈lot:=λx=>by
 have nd:(lot++rest).Nodup:=hp.nodup_iff.mpr (eV n);obtain⟨n1,n2,n3⟩:=List.nodup_append.mp nd;unfold bZ;rw[List.mem_filter];constructor
 ·rintro ⟨hx,hr⟩;have hr:=WO hr;rcases List.mem_append.mp (hp.mem_iff.mpr hx)with m|m
  ·exact m
  ·exfalso;have:=sub_len n1 (b:=(f6 n).filter λk=>decide (nq p k x)) λa ha=>List.mem_filter.mpr ⟨hp.mem_iff.mp (W0 _ ha),Xc (h a ha x m)⟩;unfold OJ at hr;left
 ·intro hx;refine⟨hp.mem_iff.mp (W0 _ hx),Xc ?_⟩;have sub:=sub_len (a:=(f6 n).filter λk=>decide (nq p k x)) (b:=lot.erase x) ((eV n).filter _) λk hk=>by
   obtain⟨Dy,Nq⟩:=List.mem_filter.mp hk;have Nq:=WO Nq;rcases List.mem_append.mp (hp.mem_iff.mpr Dy)with m|m
   ·exact(List.mem_erase_of_ne λ(z:k=x)=>HQ p x (z▸Nq)).mpr m
   ·exact absurd Nq (HR (h x hx k m))
  have hl:=X3 hx;have:0<lot.length:=Xl hx;unfold OJ;left
theorem jr(n:Nat)(p:aa)(s:Nat):(bZ n p s).Pairwise (· < ·):=(iK n).filter _
def cz(p:aa):Int->aa->Int
 |b,[]=>b
 |b,h::l=>cz p (if aE p b<aE p h then h else b) l
theorem oJ{p:aa}:∀{l pre:aa} {b:Int},b∈pre->(∀k∈pre,k≠b->nq p b k)->(pre++l).Pairwise (· < ·)->cz p b l∈pre++l/\∀k∈pre++l,k≠cz p b l->nq p (cz p b l) k
 |[],pre,b,hb,ha,_=>by rw[List.append_nil];exact⟨hb,ha⟩
 |h::l,pre,b,hb,ha,hp=>by
  have fj:b<h:=(List.pairwise_append.mp hp).2.2 b hb h WR;have e:pre++h::l=(pre++[h])++l:=by simp
  rw[e]at hp ⊢;rw[show cz p b (h::l)=cz p (if aE p b<aE p h then h else b) l from rfl];by_cases c:aE p b<aE p h
  ·rw[if_pos c];refine oJ (p:=p) (b:=h) (pre:=pre++[h]) (by simp) (λk hk hn=>?_) hp;rcases List.mem_append.mp hk with hk|hk
   ·by_cases z:k=b
    ·subst z;exact .inl c
    ·have:=ha k hk z;unfold nq at *;left
   ·exact absurd (List.mem_singleton.mp hk) hn
  ·rw[if_neg c];refine oJ (p:=p) (b:=b) (pre:=pre++[h]) (W0 _ hb) (λk hk hn=>?_) hp;rcases List.mem_append.mp hk with hk|hk
   ·exact ha k hk hn
   ·rw[List.mem_singleton.mp hk];unfold nq;left
theorem Cm{p:aa}{r:Int}{l:aa}(hp:(r::l).Pairwise (· < ·)):cz p r (r::l)∈r::l/\∀k∈r::l,k≠cz p r (r::l)->nq p (cz p r (r::l)) k:=by
 have e:cz p r (r::l)=cz p r l:=by
  show cz p (if aE p r<aE p r then r else r) l=_;split<;>rfl
 rw[e];exact oJ (pre:=[r]) (by simp) (λk hk hn=>absurd (List.mem_singleton.mp hk) hn) hp
structure Sel(n:Nat)(p:aa)(lot rest:aa):Prop where
 perm:(lot++rest).Perm (f6 n)
 rise:rest.Pairwise (· < ·)
 ah:∀a∈lot,∀b∈rest,nq p a b
theorem Sel.zero(n:Nat)(p:aa):Sel n p [] (f6 n):=⟨List.Perm.refl _,iK n,λ_ h=>nomatch h⟩
theorem Sel.step{n:Nat}{p lot l:aa}{r:Int}(S:Sel n p lot (r::l)):Sel n p (lot++[cz p r (r::l)]) ((r::l).filter λh=>decide (h≠cz p r (r::l))):=by
 obtain⟨m,ha⟩:=Cm (p:=p) S.rise;generalize cz p r (r::l)=b at *;have nd:(r::l).Nodup:=S.rise.imp λh=>by left
 have pf:(b::(r::l).filter λh=>decide (h≠b)).Perm (r::l):=by
  have e:(r::l).filter (λh=>decide (h≠b))=(r::l).erase b:=by
   rw[nd.erase_eq_filter];congr 1;funext h;by_cases z:h=b<;>simp[z]
  rw[e];exact(XN m).symm
 refine⟨?_,S.rise.filter _,λa GP c hc=>?_⟩
 ·rw[List.append_assoc];exact(List.Perm.append_left lot pf).trans S.perm
 ·obtain⟨c1,c2⟩:=List.mem_filter.mp hc;rcases List.mem_append.mp GP with h|h
  ·exact S.ah a h c c1
  ·rw[List.mem_singleton.mp h];exact ha c c1 (WO c2)
theorem Sel.lot{n:Nat}{p lot rest:aa}(S:Sel n p lot rest):sortI lot=bZ n p lot.length/\(bZ n p lot.length).length=lot.length:=by
 have hc:=iS S.perm S.ah;have nd:lot.Nodup:=(List.nodup_append.mp (S.perm.nodup_iff.mpr (eV n))).1;have hs:=sortI_perm lot;have hr:(sortI lot).Pairwise (· < ·):=by
  have h1:=kR lot;have h2:(sortI lot).Nodup:=hs.nodup_iff.mpr nd;exact(List.pairwise_and_iff.mpr ⟨h1,h2⟩).imp λ⟨a,b⟩=>by left
 have e:=jl hr (jr n p lot.length) λx=>(hs.mem_iff).trans (hc x).symm;exact⟨e,by rw[<- e];exact hs.length_eq⟩
theorem Sel.len{n:Nat}{p lot rest:aa}(S:Sel n p lot rest):lot.length+rest.length=n:=by
 have:=S.perm.length_eq;rw[List.length_append]at this;rw[this];unfold f6;simp
theorem xw(n:Nat)(p:aa):∀s,s<=n->∃lot rest,Sel n p lot rest/\lot.length=s
 |0,_=>⟨[],f6 n,Sel.zero n p,rfl⟩
 |s+1,h=>by
  obtain⟨lot,rest,S,e⟩:=xw n p s (by left);cases rest with
  |nil=>have:=S.len;simp at this;left
  |cons r l=>exact⟨_,_,S.step,by simp[e]⟩
noncomputable def sZ(l:aa)(f:Int->Int):Int:=(l.map f).sum
theorem eP(x:Int)(l:aa)(f:Int->Int):sZ (x::l) f=f x+sZ l f:=rfl
theorem nI(a b:aa)(f:Int->Int):sZ (a++b) f=sZ a f+sZ b f:=by unfold sZ;rw[List.map_append,List.sum_append]
theorem fD{a b:aa}(h:a.Perm b)(f:Int->Int):sZ a f=sZ b f:=by
 unfold sZ;induction h with
 |nil=>rfl
 |cons x _ ih=>rw[List.map_cons,List.map_cons,List.sum_cons,List.sum_cons,ih]
 |swap x y l=>simp only[List.map_cons,List.sum_cons];left
 |trans _ _ i j=>exact i.trans j
theorem C7{l:aa}{f:Int->Int}{u:Int}(h:∀x∈l,f x<=u):sZ l f<=l.length*u:=by
 induction l with
 |nil=>simp[sZ]
 |cons x l ih =>
  have i:=ih λy hy=>h y (WT _ hy);have:=h x WR;rw[eP,List.length_cons,show((l.length+1:Nat):Int)*u=l.length*u+u by rw[Int.natCast_add,Int.add_mul];simp];left
theorem C8{l:aa}{f:Int->Int}{u:Int}(h:∀x∈l,u<=f x):l.length*u<=sZ l f:=by
 induction l with
 |nil=>simp[sZ]
 |cons x l ih =>
  have i:=ih λy hy=>h y (WT _ hy);have:=h x WR;rw[eP,List.length_cons,show((l.length+1:Nat):Int)*u=l.length*u+u by rw[Int.natCast_add,Int.add_mul];simp];left
theorem pP{l:aa}{f g:Int->Int}(h:∀x∈l,f x=g x):sZ l f=sZ l g:=by unfold sZ;rw[List.map_congr_left h]
structure Tk(n s:Nat)(p:aa)(u:Int):Prop where
 len:p.length=n
 sn:s<=n
 lo:∀h:Int,0<=h->h<n->0<=aE p h
 hi:∀h:Int,0<=h->h<n->aE p h<=u
 sum:sZ (f6 n) (aE p)=s*u
theorem cQ{n:Nat}{x:Int}(h:x∈f6 n):0<=x/\x<(n:Int):=by
 obtain⟨k,hk,rfl⟩:=List.mem_map.mp h;have:=List.mem_range.mp hk;left
section
variable {n s:Nat}{p:aa}{u:Int}(T:Tk n s p u)(hu:0<u){lot rest:aa}(S:Sel n p lot rest)(hs:lot.length=s)
include T hu S hs
theorem Tk.inside{h:Int}(hh:h∈lot):0<aE p h:=by
 have mem:∀x,x∈lot++rest->0<=x/\x<(n:Int):=λx hx=>cQ (S.perm.mem_iff.mp hx);have b0:=λx hx=>T.lo x (mem x hx).1 (mem x hx).2;have b1:=λx hx=>T.hi x (mem x hx).1 (mem x hx).2;rcases YJ 0 (aE p h)with c|c
 ·exact c
 ·exfalso;have e:=fD S.perm (aE p);rw[T.sum,nI]at e;have r0:sZ rest (aE p)<=rest.length*0:=C7 λx hx=>by
   have:=S.ah h hh x hx;unfold nq at this;left
  have pl:=fD (XN hh) (aE p);rw[eP]at pl;have l1:sZ (lot.erase h) (aE p)<=(lot.erase h).length*u:=C7 λx hx=>b1 x (W0 _ (List.mem_of_mem_erase hx));have hl:=X3 hh;have hp:0<lot.length:=Xl hh;rw[hl,hs,show((s - 1:Nat):Int)*u=s*u - u by rw[show((s - 1:Nat):Int)=(s:Int) - 1 by left,Int.sub_mul];left]at l1;left
theorem Tk.outside{h:Int}(hh:h∈rest):aE p h<u:=by
 have mem:∀x,x∈lot++rest->0<=x/\x<(n:Int):=λx hx=>cQ (S.perm.mem_iff.mp hx);have b0:=λx hx=>T.lo x (mem x hx).1 (mem x hx).2;have b1:=λx hx=>T.hi x (mem x hx).1 (mem x hx).2;rcases YJ (aE p h) u with c|c
 ·exact c
 ·exfalso;have e:=fD S.perm (aE p);rw[T.sum,nI]at e;have l1:lot.length*u<=sZ lot (aE p):=C8 λx hx=>by
   have:=S.ah x hx h hh;unfold nq at this;left
  have pl:=fD (XN hh) (aE p);rw[eP]at pl;have r1:(rest.erase h).length*0<=sZ (rest.erase h) (aE p):=C8 λx hx=>b0 x (WW _ (List.mem_of_mem_erase hx));rw[hs]at l1;left
end
def zQ(p lot rest:aa)(u w:Int):Prop:=(∀h∈lot,w<=aE p h)/\(∀h∈rest,w<=u - aE p h)/\((∃h∈lot,w=aE p h)\/∃h∈rest,w=u - aE p h)
def du(p lot:aa)(w:Int):aa:=(f6 p.length).map λh=>if h∈lot then aE p h - w else aE p h
theorem tf{p lot:aa}{w h:Int}(h0:0<=h)(h1:h<(p.length:Int)):aE (du p lot w) h=if h∈lot then aE p h - w else aE p h:=by
 have hl:h.toNat<p.length:=by left
 unfold aE du f6;rw[List.map_map,List.getD_eq_getElem?_getD,List.getElem?_map,List.getElem?_range hl];show(if ((h.toNat:Nat):Int)∈lot then p.getD (((h.toNat:Nat):Int)).toNat 0 - w else p.getD (((h.toNat:Nat):Int)).toNat 0)=_;rw[show((h.toNat:Nat):Int)=h by left]
def CO(u x:Int):Prop:=x=0\/x=u
instance (u x:Int):Decidable (CO u x):=by unfold CO;exact inferInstance
def loose(n:Nat)(p:aa)(u:Int):aa:=(f6 n).filter λh=>decide (¬ CO u (aE p h))
section
variable {n s:Nat}{p:aa}{u w:Int}(T:Tk n s p u)(hu:0<u){lot rest:aa}(S:Sel n p lot rest)(hs:lot.length=s)(hw:zQ p lot rest u w)
include T hu S hs hw
theorem Tk.wJ:0<w/\w<=u:=by
 have mem:∀x,x∈lot++rest->0<=x/\x<(n:Int):=λx hx=>cQ (S.perm.mem_iff.mp hx);rcases hw.2.2 with ⟨h,hh,e⟩|⟨h,hh,e⟩
 ·have:=T.inside hu S hs hh;have m:=mem h (W0 _ hh);have:=T.hi h m.1 m.2;left
 ·have:=T.outside hu S hs hh;have m:=mem h (WW _ hh);have:=T.lo h m.1 m.2;left
theorem Tk.next:Tk n s (du p lot w) (u - w):=by
 have nd:(lot++rest).Nodup:=S.perm.nodup_iff.mpr (eV n);obtain⟨n1,n2,n3⟩:=List.nodup_append.mp nd;have inr:∀x,0<=x->x<(n:Int)->x∉lot->x∈rest:=λx h0 h1 hx=>by
  rcases List.mem_append.mp (S.perm.mem_iff.mpr (j8 h0 h1))with m|m
  ·exact absurd m hx
  ·exact m
 have at':∀x,0<=x->x<(n:Int)->aE (du p lot w) x=if x∈lot then aE p x - w else aE p x:=λx h0 h1=>tf h0 (by rw[T.len];exact h1)
 refine⟨by unfold du f6;simp[T.len],T.sn,λx h0 h1=>?_,λx h0 h1=>?_,?_⟩
 ·rw[at' x h0 h1];split
  ·rename_i m;have:=hw.1 x m;left
  ·exact T.lo x h0 h1
 ·rw[at' x h0 h1];have b:=T.hi x h0 h1;split
  ·left
  ·rename_i m;have:=hw.2.1 x (inr x h0 h1 m);left
 ·have mem:∀x,x∈lot++rest->0<=x/\x<(n:Int):=λx hx=>cQ (S.perm.mem_iff.mp hx);rw[<- fD S.perm,nI];have e1:sZ lot (aE (du p lot w))=sZ lot (aE p) - lot.length*w:=by
   have a:sZ lot (aE (du p lot w))=sZ lot λx=>aE p x - w:=pP λx hx=>by
    have m:=mem x (W0 _ hx);rw[at' x m.1 m.2,if_pos hx]
   rw[a];clear a;generalize lot=l;induction l with
   |nil=>simp[sZ]
   |cons y l ih =>
    rw[eP,eP,ih,List.length_cons,show((l.length+1:Nat):Int)*w=l.length*w+w by rw[Int.natCast_add,Int.add_mul];simp];left
  have e2:sZ rest (aE (du p lot w))=sZ rest (aE p):=pP λx hx=>by
   have m:=mem x (WW _ hx);rw[at' x m.1 m.2,if_neg λz=>n3 x z x hx rfl]
  have e3:=T.sum;rw[<- fD S.perm,nI]at e3;rw[e1,e2,hs,Int.mul_sub];left
theorem Tk.LX(hn:0<u - w):(loose n (du p lot w) (u - w)).length<(loose n p u).length:=by
 have nd:(lot++rest).Nodup:=S.perm.nodup_iff.mpr (eV n);obtain⟨n1,n2,n3⟩:=List.nodup_append.mp nd;obtain⟨w0,w1⟩:=T.wJ hu S hs hw;have at':∀x,0<=x->x<(n:Int)->aE (du p lot w) x=if x∈lot then aE p x - w else aE p x:=λx h0 h1=>tf h0 (by rw[T.len];exact h1)
 have inr:∀x,0<=x->x<(n:Int)->x∉lot->x∈rest:=λx h0 h1 hx=>by
  rcases List.mem_append.mp (S.perm.mem_iff.mpr (j8 h0 h1))with m|m
  ·exact absurd m hx
  ·exact m
 have sub:∀x∈loose n (du p lot w) (u - w),x∈loose n p u:=λx hx=>by
  obtain⟨m,t⟩:=List.mem_filter.mp hx;have t:=WO t;obtain⟨h0,h1⟩:=cQ m;refine List.mem_filter.mpr ⟨m,Xc λz=>t ?_⟩;rw[at' x h0 h1];by_cases c:x∈lot
  ·rw[if_pos c];have:=T.inside hu S hs c;rcases z with z|z
   ·left
   ·exact .inr (by left)
  ·rw[if_neg c];have:=T.outside hu S hs (inr x h0 h1 c);rcases z with z|z
   ·exact .inl z
   ·left
 have ex:∃x,x∈loose n p u/\x∉loose n (du p lot w) (u - w):=by
  rcases hw.2.2 with ⟨h,hh,e⟩|⟨h,hh,e⟩
  ·have m:=S.perm.mem_iff.mp (W0 rest hh);obtain⟨h0,h1⟩:=cQ m;refine⟨h,List.mem_filter.mpr ⟨m,Xc λz=>?_⟩,λz=>?_⟩
   ·rcases z with z|z<;>left
   ·have t:=WO (List.mem_filter.mp z).2;rw[at' h h0 h1,if_pos hh]at t;exact t (.inl (by left))
  ·have m:=S.perm.mem_iff.mp (WW lot hh);obtain⟨h0,h1⟩:=cQ m;refine⟨h,List.mem_filter.mpr ⟨m,Xc λz=>?_⟩,λz=>?_⟩
   ·rcases z with z|z<;>left
   ·have t:=WO (List.mem_filter.mp z).2;rw[at' h h0 h1,if_neg λc=>n3 h c h hh rfl]at t;exact t (.inr (by left))
 obtain⟨x,x1,x2⟩:=ex;have:=sub_len (a:=x::loose n (du p lot w) (u - w)) (b:=loose n p u) (List.nodup_cons.mpr ⟨x2,(eV n).filter _⟩) λy hy=>by
  rcases List.mem_cons.mp hy with rfl|hy
  ·exact x1
  ·exact sub y hy
 rw[List.length_cons]at this;left
end
theorem tI{u:Int}:∀{l:aa} {f:Int->Int},(∀x∈l,CO u (f x))->∃c:Int,sZ l f=c*u
 |[],_,_=>⟨0,by simp[sZ]⟩
 |x::l,f,h=>by
  obtain⟨c,e⟩:=tI λy hy=>h y (WT _ hy);rw[eP,e];rcases h x WR with z|z
  ·exact⟨c,by rw[z];left⟩
  ·exact⟨c+1,by rw[z,Int.add_mul,Int.one_mul];left⟩
theorem Tk.ne1{n s:Nat}{p:aa}{u:Int}(T:Tk n s p u)(hu:0<u):(loose n p u).length≠1:=λe=>by
 obtain⟨h,e⟩:=List.length_eq_one_iff.mp e;have hm:h∈loose n p u:=by rw[e];simp
 obtain⟨m,t⟩:=List.mem_filter.mp hm;have t:=WO t;obtain⟨h0,h1⟩:=cQ m;have pe:=fD (XN m) (aE p);rw[eP,T.sum]at pe;obtain⟨c,ec⟩:=tI (u:=u) (l:=(f6 n).erase h) (f:=aE p) λx hx=>by
  have ui:=(eV n).mem_erase_iff.mp hx;by_cases z:CO u (aE p x)
  ·exact z
  ·have:x∈loose n p u:=List.mem_filter.mpr ⟨ui.2,Xc z⟩;rw[e]at this;exact absurd (List.mem_singleton.mp this) ui.1
 rw[ec]at pe;have a:=T.lo h h0 h1;have b:=T.hi h h0 h1;have a':0<aE p h:=by unfold CO at t;left
 have b':aE p h<u:=by unfold CO at t;left
 have q:aE p h=((s:Int) - c)*u:=by rw[Int.sub_mul];left
 rcases YJ 0 ((s:Int) - c)with z|z
 ·have:1*u<=((s:Int) - c)*u:=Xj (by left) (by left);left
 ·have:((s:Int) - c)*u<=0*u:=Xj z (by left);left
def nJ(n:Nat)(p:aa)(s:Nat):aa:=(f6 n).filter λh=>decide (h∉bZ n p s)
theorem Sel.canon{n s:Nat}{p:aa}(hs:s<=n):Sel n p (bZ n p s) (nJ n p s)/\(bZ n p s).length=s:=by
 obtain⟨lot,rest,S,e⟩:=xw n p s hs;obtain⟨_,l2⟩:=S.lot;rw[e]at l2;have hc:=iS S.perm S.ah;rw[e]at hc;have nd:(lot++rest).Nodup:=S.perm.nodup_iff.mpr (eV n);obtain⟨n1,n2,n3⟩:=List.nodup_append.mp nd;refine⟨⟨?_,(iK n).filter _,λa ha b hb=>?_⟩,l2⟩
 ·have e1:bZ n p s=(f6 n).filter λh=>decide (h∈bZ n p s):=jl (jr n p s) ((iK n).filter _) λx=>by
   rw[List.mem_filter];exact⟨λh=>⟨(List.mem_filter.mp h).1,Xc h⟩,λh=>WO h.2⟩
  have:=List.filter_append_perm (λh=>decide (h∈bZ n p s)) (f6 n);rw[<- e1]at this;have e2:(f6 n).filter (λx=>!decide (x∈bZ n p s))=nJ n p s:=by
   unfold nJ;congr 1;funext x;by_cases z:x∈bZ n p s<;>simp[z]
  rw[e2]at this;exact this
 ·obtain⟨b1,b2⟩:=List.mem_filter.mp hb;have b2:=WO b2;refine S.ah a ((hc a).mp ha) b ?_;rcases List.mem_append.mp (S.perm.mem_iff.mpr b1)with m|m
  ·exact absurd ((hc b).mpr m) b2
  ·exact m
inductive Tr(n s:Nat):aa->Int->List (aa×Int)->Prop
 |nil {p:aa}:Tr n s p 0 []
 |cons {p:aa} {u w:Int} {r:List (aa×Int)} (hu:0<u) (hw:zQ p (bZ n p s) (nJ n p s) u w) (t:Tr n s (du p (bZ n p s) w) (u - w) r):Tr n s p u ((bZ n p s,w)::r)
theorem D3{n s:Nat}{p:aa}{u:Int}(h1:1<=n)(hs:s<=n):∃w,zQ p (bZ n p s) (nJ n p s) u w:=by
 obtain⟨S,hl⟩:=Sel.canon (p:=p) hs;have key:∀l:List (Int×Bool),l≠[]->∃x∈l,∀y∈l,(if x.2 then aE p x.1 else u - aE p x.1)<=(if y.2 then aE p y.1 else u - aE p y.1):=λl=>by
  induction l with
  |nil=>intro h;exact absurd rfl h
  |cons a l ih =>
   intro _;by_cases z:l=[]
   ·subst z;exact⟨a,by simp,λy hy=>by rw[List.mem_singleton.mp hy];exact Xm _⟩
   ·obtain⟨x,hx,h⟩:=ih z;rcases Int.le_total (if a.2 then aE p a.1 else u - aE p a.1) (if x.2 then aE p x.1 else u - aE p x.1)with c|c
    ·exact⟨a,by simp,λy hy=>by
      rcases List.mem_cons.mp hy with rfl|hy
      ·exact Xm _
      ·exact Int.le_trans c (h y hy)⟩
    ·exact⟨x,WT _ hx,λy hy=>by
      rcases List.mem_cons.mp hy with rfl|hy
      ·exact c
      ·exact h y hy⟩
 have BF:(bZ n p s).map (λh=>(h,true))++(nJ n p s).map (λh=>(h,false))≠[]:=λz=>by
  have:=S.len;obtain⟨a,b⟩:=List.append_eq_nil_iff.mp z;rw[List.map_eq_nil_iff.mp a,List.map_eq_nil_iff.mp b]at this;simp at this;left
 obtain⟨x,hx,h⟩:=key _ BF;refine⟨if x.2 then aE p x.1 else u - aE p x.1,λa ha=>?_,λa ha=>?_,?_⟩
 ·exact h (a,true) (W0 _ (List.mem_map.mpr ⟨a,ha,rfl⟩))
 ·exact h (a,false) (WW _ (List.mem_map.mpr ⟨a,ha,rfl⟩))
 ·rcases List.mem_append.mp hx with m|m
  ·obtain⟨a,ha,rfl⟩:=List.mem_map.mp m;exact .inl ⟨a,ha,rfl⟩
  ·obtain⟨a,ha,rfl⟩:=List.mem_map.mp m;exact .inr ⟨a,ha,rfl⟩
theorem CM{n s:Nat}(h1:1<=n):∀(k:Nat) {p:aa} {u:Int},Tk n s p u->0<u->(loose n p u).length<=k->∃r,Tr n s p u r/\r.length<=max 1 (loose n p u).length
 |k,p,u,T,hu,hk=>by
  obtain⟨S,hl⟩:=Sel.canon (p:=p) T.sn;obtain⟨w,hw⟩:=D3 (p:=p) (u:=u) h1 T.sn;obtain⟨w0,w1⟩:=T.wJ hu S hl hw;have T':=T.next hu S hl hw;rcases YJ 0 (u - w)with c|c
  ·have f:=T.LX hu S hl hw c;have n1:=T'.ne1 c;have n0:=T.ne1 hu
   match k,hk with
   |0,hk=>left
   |k+1,hk =>
    obtain⟨r,t,l⟩:=CM h1 k T' c (by left);exact⟨_,.cons hu hw t,by rw[List.length_cons];left⟩
  ·have e:u - w=0:=by left
   exact⟨_,.cons hu hw (by rw[e];exact .nil),by simp;left⟩
theorem ym(n:Nat)(p:aa)(u:Int):(loose n p u).length<=n:=by
 have:=Yi (λh=>decide (¬ CO u (aE p h))) (f6 n);unfold loose;have e:(f6 n).length=n:=by unfold f6;simp
 left
theorem Ee{n s:Nat}(h1:1<=n){p:aa}{u:Int}(T:Tk n s p u)(hu:0<u):∃r,Tr n s p u r/\r.length<=n:=by
 obtain⟨r,t,l⟩:=CM h1 _ T hu (WV _);exact⟨r,t,by have:=ym n p u;left⟩
theorem Bi{ns:aa}(h:0<ns.length):la ns∈ns/\∀x∈ns,la ns<=x:=by
 obtain⟨a,b⟩:=PySem.argBest_lt (λi=>ns.getD i 0) (ns.length - 1);have e:la ns=ns.getD (PySem.argBest (λi j=>decide (ns.getD i 0<ns.getD j 0)) (ns.length - 1)) 0:=rfl;rw[e];generalize PySem.argBest (λi j=>decide (ns.getD i 0<ns.getD j 0)) (ns.length - 1)=k at *;have hk:k<ns.length:=by left
 refine⟨by simp[hk],λx hx=>?_⟩;obtain⟨i,hi,rfl⟩:=List.mem_iff_getElem.mp hx;have:=b i (by left);simpa [hi,hk]using this
theorem Mn(h:Int)(ns:aa):dE .FP (.int h) (.tup (af ns))=ok (.bl (!decide (h∈ns))):=by
 show(if dO (.int h)&&(af ns).all dO then ok (D.bl (!inD (.int h) (af ns)))else none)=_;rw[jt,lB];rfl
theorem lC:∀{p:aa} {k:Nat} {z:Int×Int},z∈fI k p ↔ ∃i:Nat,i<p.length/\z=(((k+i:Nat):Int),p.getD i 0)
 |[],k,z=>by simp[fI]
 |x::p,k,z=>by
  rw[fI,List.mem_cons,lC];constructor
  ·rintro (rfl|⟨i,hi,rfl⟩)
   ·exact⟨0,by simp,by simp⟩
   ·exact⟨i+1,by simp;left,by simp;left⟩
  ·rintro ⟨i,hi,rfl⟩;cases i with
   |zero=>exact .inl (by simp)
   |succ i=>exact .inr ⟨i,by simpa using hi,by simp;left⟩
theorem qa{Φ:aU}(h:Φ 1001=lR)(f:Fl)(p:aa):dB Φ (.bX 1001) [.lst f (af p)]=ok ((fI 0 p).map rS):=by
 show bd (Φ 1001 [.lst f (af p)]) nH=_;rw[h];show ok (aG bo (bV 0 (af p)))=_;rw[qt,cf bo (λz=>by simp[rS])]
def OH(n:Nat)(lot:aa):aa:=(f6 n).filter λh=>decide (h∉lot)
def f7(p lot:aa)(u:Int):aa:=((fI 0 p).filter λz=>!decide (z.1∈lot)).map λz=>u - z.2
theorem k7{p lot:aa}{u x:Int}:x∈f7 p lot u ↔ ∃h∈OH p.length lot,x=u - aE p h:=by
 unfold f7 OH;rw[List.mem_map];constructor
 ·rintro ⟨z,hz,rfl⟩;obtain⟨z1,z2⟩:=List.mem_filter.mp hz;obtain⟨i,hi,rfl⟩:=lC.mp z1;refine⟨((0+i:Nat):Int),List.mem_filter.mpr ⟨j8 (by left) (by left),?_⟩,?_⟩
  ·simpa using z2
  ·unfold aE;simp
 ·rintro ⟨h,hh,rfl⟩;obtain⟨m,t⟩:=List.mem_filter.mp hh;obtain⟨h0,h1⟩:=cQ m;refine⟨(h,aE p h),List.mem_filter.mpr ⟨lC.mpr ⟨h.toNat,by left,?_⟩,by simpa using t⟩,rfl⟩;unfold aE;rw[show((0+h.toNat:Nat):Int)=h by left]
noncomputable def uD:CE:=.comp 1 (.nm 0) [0] .seq [(.v 1)] [] (.ix (.v 1) (.v 0))
noncomputable def uC:CE:=.comp 2 (.tp [0,1]) [1,2] (.bX 1001) [(.v 0)] [(.cmp .FP (.v 0) (.v 2))] (.bin .sub (.v 3) (.v 1))
def Co:aj:=[.asg (.nm 3) uD,.asg (.nm 4) uC,.ret (.bX 1011 [(.bin .add (.v 3) (.v 4))])]
def HV(m:aD):Prop:=∀f p lot u,1<=p.length->p.length<=12->zZ p.length lot->∃w,m [.lst f (af p),.tup (af lot),.int u]=ok (.int w)/\zQ p lot (OH p.length lot) u w
theorem OD(Φ:aU)(ql:Φ 1001=lR)(LS:Φ 1011=minD):HV (mk Φ 3 5 Co):=by
 intro f p lot u n1 RW hl;have ll:=hl.len;have lo:=Yi (λz:Int×Int=>!decide (z.1∈lot)) (fI 0 p);rw[lD]at lo;have ne:0<(lot.map (aE p)++f7 p lot u).length:=by
  cases lot with
  |cons x l=>simp
  |nil =>
   have:u - aE p 0∈f7 p [] u:=k7.mpr ⟨0,List.mem_filter.mpr ⟨j8 (by left) (by left),by simp⟩,rfl⟩;have:=Xl this;simp;left
 obtain⟨m1,m2⟩:=Bi ne;refine⟨la (lot.map (aE p)++f7 p lot u),?_,λh hh=>m2 _ (W0 _ (Yw hh)),λh hh=>m2 _ (WW _ (k7.mpr ⟨h,hh,rfl⟩)),?_⟩
 ·have a1:∀c3 c4,bg Φ uD [some (.lst f (af p)),some (.tup (af lot)),some (.int u),c3,c4]=ok (.lst .ow (af (lot.map (aE p)))):=λc3 c4=>by
   unfold uD;rw[dD (xs:=[.tup (af lot)]) (items:=lot.map D.int) (ds:=lot.map λh=>D.int (aE p h)) (by simp) (by rw[Bq];simp[af]) ?_ (by rw[List.length_map];exact cP (by left))]
   ·have:(lot.map λh=>D.int (aE p h))=af (lot.map (aE p)):=by unfold af;rw[List.map_map];rfl
    rw[this];simp
   ·refine cN λh hh=>⟨[some (.int h),some (aZ bo (.lst f (af p)))],by simp[bE],by simp,?_⟩
    have:=Cq (ts:=p) (hl.2 h hh).1 (hl.2 h hh).2;simp[this]
  have a2:∀c3 c4,bg Φ uC [some (.lst f (af p)),some (.tup (af lot)),some (.int u),c3,c4]=ok (.lst .ow (af (f7 p lot u))):=λc3 c4=>by
   unfold uC;rw[dD (xs:=[.lst (bH f) (af p)]) (items:=(fI 0 p).map rS) (ds:=((fI 0 p).filter λz=>!decide (z.1∈lot)).map λz=>D.int (u - z.2)) (by simp) (qa ql _ p) (eQ λz hz=>⟨[some (.int z.1),some (.int z.2),some (.tup (af lot)),some (.int u)],by simp[bE,rS],by simp[Mn],λ_=>by simp⟩) (by rw[List.length_map];exact cP (by left))];have:(((fI 0 p).filter λz=>!decide (z.1∈lot)).map λz=>D.int (u - z.2))=af (f7 p lot u):=by unfold af f7;rw[List.map_map];rfl
   rw[this];simp
  have lz:(f7 p lot u).length<=12:=by unfold f7;rw[List.length_map];left
  have ba:bR .add (.lst .al (af (lot.map (aE p)))) (.lst .al (af (f7 p lot u)))=ok (.lst .ow (af (lot.map (aE p)++f7 p lot u))):=by
   show(if qb .al=false/\qb .al=false/\(af (lot.map (aE p))).length+(af (f7 p lot u)).length<=eK then ok (D.lst .ow (aG bH (af (lot.map (aE p))++af (f7 p lot u))))else none)=_;rw[if_pos ⟨rfl,rfl,by simp;show _<=1000000;left⟩,show af (lot.map (aE p))++af (f7 p lot u)=af (lot.map (aE p)++f7 p lot u) by unfold af;rw[List.map_append]];simp
  have mm:∀ns:aa,0<ns.length->∀f,Φ 1011 [.lst f (af ns)]=ok (.int (la ns)):=λns h f=>by
   rw[LS];show(match intsOf (af ns)with|some ns=>if 0<ns.length then ok (D.int (la ns))else none|none=>none)=_;unfold af;rw[bI];exact Xf h
  have m3:=mm _ ne .ow;generalize lot.map (aE p)++f7 p lot u=Z at *;generalize lot.map (aE p)=A at *;generalize f7 p lot u=B at *;simp[mk_eq,Co,KI Φ uD _ rfl,KI Φ uC _ rfl,a1,a2,ba,m3]
 ·rcases List.mem_append.mp m1 with m|m
  ·obtain⟨h,hh,e⟩:=List.mem_map.mp m;exact .inl ⟨h,hh,e.symm⟩
  ·obtain⟨h,hh,e⟩:=k7.mp m;exact .inr ⟨h,hh,e⟩
end DI
end
section
namespace LM
open PySem PySem.Spec PyProof.Rows L2
noncomputable def lh(x y:Str)(p1 p2 p3 p4:Pos):Expr:=.UnaryOp .USub (.Subscript (.Name x p1) (.Name y p2) p3) p4
section
variable {prog:ax}{w:World}{A:ay}{E:aw}{s:Shared}
theorem yt{f c c' l:Addr}{qual x y:Str}{params:Arguments}{scope:Scope}{pm qy:Value}{p1 p2 p3 p4:Pos}{its:aC}{n:Nat}{i:Int}{t tn:Tok}{Q:aw}
  (qh:A.depth<recursionLimit) (ho:s.heap.get? f=some (PySem.W.kla_obj "<lambda>" qual params (lh x y p1 p2 p3 p4) scope [(x,c)] pm c' qy)) (hcd:s.heap.CodeRec (.ref c') qual) (Ld:s.heap.NoLimit)
  (yP:∀v,bindArgs (PySem.W.kla_fn "<lambda>" qual params (lh x y p1 p2 p3 p4) scope [(x,c)] pm (.ref c') qy) ⟨[v],[]⟩=pure [(y,v)])
  (Vj:scope.isCoroutine=false) (Qj:scope.isGenerator=false) (hk:scope.kind=.function) (jN:∀x∈scope.names,x.2≠.cell) (hy:scope.names.lookup y=some .local) (hx:scope.names.lookup x=some .free)
  (hc:s.heap.IsCell c (some (.ref l))) (hl:s.heap.IsList l its) (hi:its[n]?=some (.int i t)) (hs:its.size<=sizeLine)
  (h:∀h' tk t',(∀b o,s.heap.get? b=some o->h'.get? b=some o)->Q (.int (-i) t') { s with heap:=h',toks:=tk })
  (d1:(x==("__debug__" : Str))=false) (d2:(x==("__classdict__" : Str))=false) (d3:(y==("__debug__" : Str))=false) :
  wpAny (model prog w) A (call (.ref f) [.int n tn]) Q E s:=by
 refine wpAny_call (PySem.W.kla_callFunE qh ho rfl Vj Qj rfl hcd ?_);rw[yP];refine WU (wpAny_newFunctionEnv jN (λz hz=>by rw[List.mem_singleton.mp hz];exact hy) (λh1 qi rX=>⟨Ld.fresh _ rX,?_⟩) hk);have Dy:∀b o,s.heap.get? b=some o->h1.get? b=some o:=λb o e=>rX.extBut b o (W2 (WX e)) (WQ _ e);have hn:n<its.size:=by
  by_cases z:n<its.size
  ·exact z
  ·rw[getElem?_neg its n z]at hi;cases hi
 refine PySem.W.kla_codeExpr (UnaryOp_ (Subscript_ ?_));refine YF (wpAny_loadName_free hk hx (c:=c) ?_ (v:=.ref l) ?_ ?_ d2) d1
 ·show List.lookup x [(x,c)]=some c;simp
 ·obtain⟨o,e,d⟩:=hc;exact⟨o,Dy _ _ e,d⟩
 refine YF (Yk hk hy qi (v:=.int n tn) (by simp) ?_) d3;have U5:Heap.IsList h1 l its:=by
  obtain⟨o,e,d⟩:=hl;exact⟨o,Dy _ _ e,d⟩
 refine item_listR (x:=.int i t) U5 (Int.natCast_nonneg n) ?_ ?_ ?_ rfl
 ·rw[sizeLine_eq]at hs;omega
 ·simpa using hi
 ·exact neg_int (h _ _ _ Dy)
end
section
variable {prog:ax}{w:World}{A:ay}{E:aw}{s:Shared}{a kS:Addr}{vs:ag}{kz:aa}{keys:aC}{e e1:Nat}{P:PySem.Fin->Shared->Prop}
def ME(a kS:Addr)(h g:Heap):Prop:=∀b o,b≠a->b≠kS->h.get? b=some o->g.get? b=some o
theorem tG{st:SortSt}(hk:s.heap.get? kS=some (seqObj "list" keys e))(ha:s.heap.get? a=some (seqObj "list" #[] e1))(GA:kS≠a)(hz:keys.size<=sizeLine)(Gu:(arrOf st).size<=sizeLine)(Vc:failedOf st=none)
  (h:∀g c,ME a kS s.heap g->g.get? a=some (seqObj "list" ((arrOf st).map (·.2)) c)->P (.done (.ret .none)) { s with heap:=g }) :
  wpAny (model prog w) A (ksk_tail a false e1 (.ref kS) st) P E s:=by
 have s1:=Xt s.heap kS (Obj.mapSeq λ_=>(#[]:aC));have Pb:(s.heap.update kS (Obj.mapSeq λ_=>(#[]:aC))).get? a=some (seqObj "list" #[] e1):=(s1.2 a GA.symm).trans ha;have s2:=Xt (s.heap.update kS (Obj.mapSeq λ_=>(#[]:aC))) a (Obj.mapSeq λ_=>(arrOf st).map (·.2));obtain⟨c2,hc2⟩:∃c2,((s.heap.update kS (Obj.mapSeq λ_=>(#[]:aC))).update a (Obj.mapSeq λ_=>(arrOf st).map (·.2))).get? a=some (seqObj "list" ((arrOf st).map (·.2)) c2):=⟨_,XU Pb λ_=>(arrOf st).map (·.2)⟩
 unfold ksk_tail
 try dsimp only
 refine WN (XC hk rfl ?_ hz (W6 _));refine WN (wpAny_letGo ?_);refine WN (seqEpoch_at Pb rfl ?_);refine WN (XC Pb rfl ?_ (W6 _) (by rw[if_neg Bool.false_ne_true,Array.size_map];exact X7 Gu));rw[Vc];simp only[bne_self_eq_false,Bool.false_eq_true,if_false];exact WU (h _ c2 (λb o n1 n2 q=>(s2.2 b n1).trans ((s1.2 b n2).trans q)) hc2)
def qL(keys:aC)(vs:ag)(xs:Array Keyed):Prop:=xs.Perm (keys.zip vs.toArray)/\TK.Tl vs.length vs.length xs/\TK.Up xs vs.length
theorem TU(hk:IntsAre keys.toList kz)(hlen:kz.length=vs.length)(hv:∀(i:Nat) (v:Value),vs[i]?=some v->∃t,v=Value.int i t):TK.Tl vs.length 0 (keys.zip vs.toArray):=by
 refine⟨λi hi=>by left,λi _ hi=>?_⟩;have zT:keys.size=vs.length:=by
  have h1:=hk.length;rw[Array.length_toList]at h1;left
 obtain⟨t,e⟩:=hv i vs[i] (W3 hi);unfold TK.Im;have:(keys.zip vs.toArray)[i]?=some (keys[i],vs[i]):=by
  rw[getElem?_pos _ i (by simp[Array.size_zip,zT,hi])];simp
 rw[this,e];simp[numOf]
theorem ED(Nr:s.heap.get? kS=some (seqObj "list" keys e))(ha:s.heap.get? a=some (seqObj "list" #[] e1))(GA:kS≠a)(hk:IntsAre keys.toList kz)(hlen:kz.length=vs.length)(c_:vs.length<64)(hv:∀(i:Nat) (v:Value),vs[i]?=some v->∃t,v=Value.int i t)
  (h:∀g c xs,ME a kS s.heap g->qL keys vs xs->g.get? a=some (seqObj "list" (xs.map (·.2)) c)->P (.done (.ret .none)) { s with heap:=g }) :
  wpAny (model prog w) A (ksk_end a false vs.toArray e1 (.ref kS) keys) P E s:=by
 have hsz:keys.size=vs.length:=by
  have h1:=hk.length;rw[Array.length_toList]at h1;left
 have Gr:(keys.zip vs.toArray).size=vs.length:=by rw[Array.size_zip,hsz,List.size_toArray,Nat.min_self]
 have hT:=TU hk hlen hv;have Ll:keys.size<=sizeLine:=by rw[hsz,sizeLine_eq];left
 unfold ksk_end
 try dsimp only
 rw[if_neg Bool.false_ne_true];by_cases h2:vs.toArray.size<2
 ·rw[if_pos h2,if_pos h2];refine WN (WU ?_);rw[StateT.run_pure];refine WN (WU ?_)
  try dsimp only
  rw[List.size_toArray]at h2;refine tG Nr ha GA Ll (by show(keys.zip vs.toArray).size<=_;rw[Gr,sizeLine_eq];left) rfl λg c kp ga=>h g c (keys.zip vs.toArray) kp ⟨Array.Perm.refl _,hT.up (W6 _) (WV _),λi j dN hj=>by left⟩ ga
 ·rw[if_neg h2,if_neg h2];rw[List.size_toArray]at h2;rw[ksk_kind hk (by rw[hsz];left)];refine WN (WU ?_);refine WN (W7 (TK.Av (a₀:=keys.zip vs.toArray) (st:=SortSt.mk' oneType' (keys.zip vs.toArray) #[] 7 none)
   (Q:=λ_ bh=>(arrOf bh).Perm (keys.zip vs.toArray)/\failedOf bh=none/\TK.Tl vs.length vs.length (arrOf bh)/\TK.Up (arrOf bh) vs.length)
   (ksk_intKeys hk) (by rw[Gr];exact c_) ⟨Array.Perm.refl _,rfl,rfl,rfl⟩ (by rw[Gr];left) (by rw[Gr];exact hT) λbh a1 a2 a3 a4=>⟨a1,a2,by rw[Gr]at a3;exact a3,by rw[Gr]at a4;exact a4⟩) ?_ λ_ _ e=>e)
  rintro ⟨⟨⟩,bh⟩ s' ⟨rfl,hp,hf,ht,hu⟩
  try dsimp only
  exact tG Nr ha GA Ll (by rw[hp.size_eq,Gr,sizeLine_eq];left) hf λg c kp ga=>h g c _ kp ⟨hp,ht,hu⟩ ga
end
section
variable {prog:ax}{w:World}{A:ay}{E:aw}{s:Shared}{a kS:Addr}{vs:ag}{kz:aa}{e1:Nat}{P:PySem.Fin->Shared->Prop}{f:Value}
noncomputable def Turn(prog:ax)(w:World)(A:ay)(s:Shared)(f:Value)(vs:ag)(kz:aa)(ok:Heap->Prop):Prop :=
 ∀(i:Nat) (v:Value) (k:Int),vs[i]?=some v->kz[i]?=some k->∀(g:Heap) (tk:Nat),ok g ->
  wpAny (model prog w) A (call f [v]) (λu s'=>∃g' Eg t,s'={ s with heap:=g',toks:=Eg }/\u=.int k t/\∀b o,g.get? b=some o->g'.get? b=some o) (λ_ _=>False) { s with heap:=g,toks:=tk }
theorem AE(Nr:s.heap.get? kS=some (seqObj "list" #[] 0))(ha:s.heap.get? a=some (seqObj "list" #[] e1))(GA:kS≠a)(hlen:kz.length=vs.length)(c_:vs.length<64)(hv:∀(i:Nat) (v:Value),vs[i]?=some v->∃t,v=Value.int i t)
  (turn:Turn prog w A s f vs kz (ME a kS s.heap))
  (h:∀g tk c xs keys,ME a kS s.heap g->IntsAre keys.toList kz->qL keys vs xs->g.get? a=some (seqObj "list" (xs.map (·.2)) c)->P (.done (.ret .none)) { s with heap:=g,toks:=tk }) :
  wpAny (model prog w) A (ksk_rest a f false vs.toArray e1 (.ref kS)) P E s:=by
 unfold ksk_rest;refine WN (YG ?_);rw[List.forIn_toArray];refine WN (ksk_fold (λi s'=>∃g tk kA e,s'={ s with heap:=g,toks:=tk }/\ME a kS s.heap g/\g.get? kS=some (seqObj "list" kA e)/\g.get? a=some (seqObj "list" #[] e1)/\IntsAre kA.toList (kz.take i)) vs 0 s
  ⟨s.heap,s.toks,#[],0,rfl,λ_ _ _ _ q=>q,Nr,ha,by simpa using IntsAre.nil⟩ ?step ?done)
 case step =>
  rintro j x s' hx ⟨g,tk,kA,e,rfl,kp,hk,GP,hI⟩;simp only[Nat.zero_add]at hI ⊢;have hj:j<vs.length:=(List.getElem?_eq_some_iff.mp hx).1;obtain⟨k,hkj⟩:∃k,kz[j]?=some k:=⟨_,W3 (by left)⟩
  have hz:kA.size<=vs.length:=by
   have h1:=hI.length;rw[Array.length_toList,List.length_take]at h1;left
  refine WN (wpAny_attempt (W7 (turn j x k hx hkj g tk kp) (λv MS he=>?_) λ_ _ hF=>hF.elim));obtain⟨g2,ML,t2,rfl,rfl,Pf⟩:=he
  try dsimp only
  have nk:=Pf _ _ hk;have na:=Pf _ _ GP;have s1:=Xt g2 kS (Obj.mapSeq (·.push (.int k t2)));obtain⟨c2,hc2⟩:∃c2,(g2.update kS (Obj.mapSeq (·.push (.int k t2)))).get? kS=some (seqObj "list" (kA.push (.int k t2)) c2):=⟨_,XU nk (·.push (.int k t2))⟩
  have ek:kz.take (j+1)=kz.take j++[k]:=by rw[List.take_add_one,hkj];simp
  have ea:(kA.push (Value.int k t2)).toList=kA.toList++[Value.int k t2]:=by simp
  refine WN (XC nk rfl ?_ (by rw[sizeLine_eq];left) (Xb (Nat.le_of_eq (Array.size_push ..)) (by rw[sizeLine_eq];left)));exact WU ⟨rfl,_,_,kA.push (.int k t2),c2,rfl,λb o n1 n2 q=>(s1.2 b n2).trans (Pf _ _ (kp b o n1 n2 q)),hc2,(s1.2 a GA.symm).trans na,by rw[ea,ek];exact ksk_snoc hI⟩
 case done =>
  rintro s' ⟨g,tk,kA,e,rfl,kp,hk,GP,hI⟩;have SR:IntsAre kA.toList kz:=by
   have e3:kz.take (0+vs.length)=kz:=List.take_of_length_le (by left);rw[e3]at hI;exact hI
  try dsimp only
  refine WN (X1 hk rfl ?_);exact ED (s:={ s with heap:=g,toks:=tk }) hk GP GA SR hlen c_ hv λg' c xs UB se ga=>h g' tk c xs kA (λb o n1 n2 q=>UB b o n1 n2 (kp b o n1 n2 q)) SR se ga
theorem AD{n:Nat}(ho:s.heap.get? a=some (seqObj "list" vs.toArray n))(hlen:kz.length=vs.length)(c_:vs.length<64)(hv:∀(i:Nat) (v:Value),vs[i]?=some v->∃t,v=Value.int i t)
  (turn:Turn prog w A s f vs kz λg=>∀b o,b≠a->s.heap.get? b=some o->g.get? b=some o)
  (h:∀g tk c xs keys,(∀b o,b≠a->s.heap.get? b=some o->g.get? b=some o)->IntsAre keys.toList kz->qL keys vs xs->g.get? a=some (seqObj "list" (xs.map (·.2)) c)->P (.done (.ret .none)) { s with heap:=g,toks:=tk }) :
  wpAny (model prog w) A (ksk_tree a f false) P E s:=by
 have ha:a<s.heap.objs.size:=WX ho;have s1:=Xt s.heap a (Obj.mapSeq λ_=>(#[]:aC));obtain⟨e1,BE⟩:∃e1,(s.heap.update a (Obj.mapSeq λ_=>(#[]:aC))).get? a=some (seqObj "list" #[] e1):=⟨_,XU ho λ_=>#[]⟩
 have Qi:((s.heap.update a (Obj.mapSeq λ_=>(#[]:aC))).push (seqObj "tuple" vs.toArray 0)).objs.size=s.heap.objs.size+1:=by rw[size_push',Heap.size_update]
 unfold ksk_tree;refine WN (X1 ho rfl ?_);refine WN (XC ho rfl ?_ (by rw[List.size_toArray,sizeLine_eq];left) (W6 _));refine WN (seqEpoch_at BE rfl ?_);refine WN (wpAny_newTuple ?_ (by show vs.length<=_;rw[sizeLine_eq];left));refine WN (XO ?_ (W6 _));refine Xp ?_;have up:∀b o,b≠a->s.heap.get? b=some o->(((s.heap.update a (Obj.mapSeq λ_=>(#[]:aC))).push (seqObj "tuple" vs.toArray 0)).push (seqObj "list" #[] 0)).get? b=some o/\b≠s.heap.objs.size+1:=λb o nb q =>
  ⟨WQ _ (WQ _ ((s1.2 b nb).trans q)),W2 (Xa (WX q))⟩
 refine AE (s:={ s with heap:=((s.heap.update a (Obj.mapSeq λ_=>(#[]:aC))).push (seqObj "tuple" vs.toArray 0)).push (seqObj "list" #[] 0) }) (kS:=((s.heap.update a (Obj.mapSeq λ_=>(#[]:aC))).push (seqObj "tuple" vs.toArray 0)).objs.size)
  (WZ _ rfl) (WQ _ (WQ _ BE)) (by rw[Qi];exact Xv (Xa ha)) hlen c_ hv (λi v k h1 h2 g tk kp=>?_) λg tk c xs keys kp hI se ga=>?_
 ·exact turn i v k h1 h2 g tk λb o nb q=>kp b o nb (by rw[Qi];exact(up b o nb q).2) (up b o nb q).1
 ·exact h g tk c xs keys (λb o nb q=>kp b o nb (by rw[Qi];exact(up b o nb q).2) (up b o nb q).1) hI se ga
end
end LM
end
section
namespace LM
open PySem PySem.Spec PyProof.Rows L2 PySem.Calls
section
variable {prog:ax}{w:World}{A:ay}{E:aw}{s:Shared}{kz:aa}{Q:aw}
theorem rl{r q:Addr}{b:Int}{t u v:Tok}{n:Nat}(hh:A.handled=none)(hr:IsRange s.heap r 0 b 1 t u v)(rW:Builtin.Range.small 0 b 1=true)(hn:Builtin.Range.rangeSize 0 b 1=n)(c_:n<64)(hlen:kz.length=n)
  (turn:∀vs:ag,(∀(i:Nat) (v:Value),vs[i]?=some v->∃t,v=Value.int i t)->∀s',s'={ s with heap:=s'.heap,toks:=s'.toks }->Turn prog w A.in1.in1 s' (.ref q) vs kz λg=>∀b o,s.heap.get? b=some o->g.get? b=some o)
  (h:∀D g tk c xs keys vs,(∀b o,s.heap.get? b=some o->g.get? b=some o)->s.heap.get? D=none->vs.length=n->(∀(i:Nat) (v:Value),vs[i]?=some v->∃t,v=Value.int i t)->IntsAre keys.toList kz->qL keys vs xs->g.get? D=some (seqObj "list" (xs.map (·.2)) c)->Q (.ref D) { s with heap:=g,toks:=tk }) :
  wpAny (model prog w) A (call (.builtin "sorted") [.ref r] [(Str.ofString "key",.ref q)]) Q E s:=by
 refine call_function_entry_kw kind_sorted plain_sorted entry_sorted (ksk_s1 _ _) ?_;unfold Builtin.«sorted»;refine WN (m:=checkCount "sorted" 1 1 _) (WU ?_);refine WN (DI.mw (n:=n) (by exact hh) hr rW hn (by left) λh1 tk acc k1 fJ=>?_);have hl:acc.toList.length=n:=by rw[Array.length_toList];exact fJ.1
 have hv:∀(i:Nat) (v:Value),acc.toList[i]?=some v->∃t,v=Value.int i t:=λi v e=>by
  obtain⟨t,z⟩:=fJ.2 i v (by simpa using e);exact⟨t,by rw[z];simp⟩
 refine WN (XO ?_ (by rw[hl,sizeLine_eq];left));have Dw:(h1.push (seqObj "list" acc.toList.toArray 0)).get? h1.objs.size=some (seqObj "list" acc.toList.toArray 0):=WZ _ rfl;have hD:s.heap.get? h1.objs.size=none:=by
  cases z:s.heap.get? h1.objs.size with
  |none=>rfl
  |some o=>exact absurd (WX (k1 _ _ z)) (Xh _)
 show wpAny _ _ _ _ _ { s with heap:=h1.push (seqObj "list" acc.toList.toArray 0),toks:=tk };refine WN (Xp (wpAny_call_entry_kw slot_list_sort ⟨_,Dw,rfl⟩ entry_list_sort ?body (ksk_l1 _ _)))
 case body =>
  show wpAny (model prog w) A.in1.in1 (Builtin.«list.sort» ⟨[.ref h1.objs.size],[(Str.ofString "key",.ref q)]⟩) _ _ _;rw[ksk_t1];have up:∀g:Heap,(∀b o,b≠h1.objs.size->(h1.push (seqObj "list" acc.toList.toArray 0)).get? b=some o->g.get? b=some o)->∀b o,s.heap.get? b=some o->g.get? b=some o:=λg kp b o e =>
   kp b o (W2 (WX (k1 _ _ e))) (WQ _ (k1 _ _ e))
  refine AD (s:={ s with heap:=h1.push (seqObj "list" acc.toList.toArray 0),toks:=tk }) Dw (hlen.trans hl.symm) (by rw[hl];exact c_) hv (λi v k e1 e2 g Eg kp=>turn acc.toList hv _ rfl i v k e1 e2 g Eg (up g kp)) λg Eg c xs keys kp hI se ga=>⟨_,rfl,?_⟩
  exact WU ⟨_,rfl,h _ g Eg c xs keys acc.toList (up g kp) hD hl hv hI se ga⟩
end
end LM
end
section
namespace LM
open PySem PySem.Spec PyProof.Rows L2
def l7(kz:aa)(i j:Nat):Prop:=kz.getD i 0<kz.getD j 0\/kz.getD i 0=kz.getD j 0/\i<j
theorem uf:∀{vs:ag} {ns:aa},IntsAre vs ns->∀(i:Nat) (v:Value),vs[i]?=some v->numOf v=ns.getD i 0
 |_,_,.nil,i,v,h=>by simp at h
 |_,_,.cons n t r,0,v,h=>by simp at h;subst h;simp[numOf]
 |_,_,.cons n t r,i+1,v,h=>by
  simp at h;have:=uf r i v h;simpa using this
noncomputable def gI(p:Keyed):Nat:=(numOf p.2).toNat
theorem wM:∀(l:List Keyed),(∀p∈l,∃t,p.2=Value.int (gI p) t)->Vals (l.map λp=>V.int (gI p)) (l.map (·.2))
 |[],_=>.nil
 |p::l,h=>by
  obtain⟨t,e⟩:=h p WR;exact .cons ⟨t,e⟩ (wM l λq hq=>h q (WT _ hq))
theorem JA{keys:aC}{vs:ag}{xs:Array Keyed}{kz:aa}(hI:IntsAre keys.toList kz)(hv:∀(i:Nat) (v:Value),vs[i]?=some v->∃t,v=Value.int i t)(c_:vs.length<64)(hlen:kz.length=vs.length)(se:qL keys vs xs):
  ∃is:aH,is.Perm (List.range vs.length)/\Vals (is.map λi:Nat=>V.int (i:Int)) (xs.map (·.2)).toList/\is.Pairwise (l7 kz):=by
 obtain⟨hp,hT,hU⟩:=se;have zT:keys.size=vs.length:=by
  have h1:=hI.length;rw[Array.length_toList]at h1;left
 have hsz:xs.size=vs.length:=by rw[hp.size_eq,Array.size_zip,zT,List.size_toArray,Nat.min_self]
 have hpl:xs.toList.Perm (keys.toList.zip vs):=by rw[<- ksk_zip];exact Array.perm_iff_toList_perm.mp hp
 have zl:(keys.toList.zip vs).length=vs.length:=by rw[List.length_zip,Array.length_toList,zT,Nat.min_self]
 have Ry:∀i (hi:i<(keys.toList.zip vs).length),∃t,((keys.toList.zip vs)[i]).2=Value.int i t/\gI (keys.toList.zip vs)[i]=i/\numOf ((keys.toList.zip vs)[i]).1=kz.getD i 0:=λi hi=>by
  have U8:i<vs.length:=by left
  have U9:i<keys.toList.length:=by rw[Array.length_toList];left
  obtain⟨t,ht⟩:=hv i vs[i] (W3 U8);rw[List.getElem_zip];refine⟨t,ht,?_,uf hI i _ (W3 U9)⟩;unfold gI;rw[ht];simp[numOf]
 have zg:(keys.toList.zip vs).map gI=List.range vs.length:=by
  refine XM (by rw[List.length_map,zl,List.length_range]) λi h1 h2=>?_;rw[List.getElem_map,List.getElem_range];exact(Ry i (by simpa using h1)).choose_spec.2.1
 have mem:∀p∈xs.toList,(∃t,p.2=Value.int (gI p) t)/\numOf p.1=kz.getD (gI p) 0/\gI p<vs.length:=λp qO=>by
  obtain⟨i,hi,e⟩:=List.mem_iff_getElem.mp (hpl.mem_iff.mp qO);obtain⟨t,a,b,c⟩:=Ry i hi;rw[e]at a b c;rw[b];exact⟨⟨t,a⟩,c,by left⟩
 refine⟨xs.toList.map gI,?_,?_,?_⟩
 ·rw[<- zg];exact hpl.map gI
 ·rw[List.map_map,Array.toList_map];exact wM xs.toList λp qO=>(mem p qO).1
 ·rw[List.pairwise_map,List.pairwise_iff_getElem];intro i j hi hj dN;have Sw:j<xs.size:=by simpa using hj
  have jM:i<xs.size:=by simpa using hi
  have u:=hU i j dN (by left);obtain⟨_,k1,l1⟩:=mem _ (Xz hi);obtain⟨_,k2,l2⟩:=mem _ (Xz hj);have ei:TK.FF xs i=kz.getD (gI xs.toList[i]) 0*64+(gI xs.toList[i]:Int):=by
   unfold TK.FF K TK.Im;rw[getElem?_pos xs i jM];rw[<- k1];simp[gI]
  have ej:TK.FF xs j=kz.getD (gI xs.toList[j]) 0*64+(gI xs.toList[j]:Int):=by
   unfold TK.FF K TK.Im;rw[getElem?_pos xs j Sw];rw[<- k2];simp[gI]
  rw[ei,ej]at u;unfold l7;left
theorem nj{p q:Pos}(h1:p.line=q.line)(h2:p.col=q.col)(l:ag):codeAmong p l=codeAmong q l:=by
 fun_induction codeAmong p l with
 |case1 line t col u c rest h =>
  rw[codeAmong,<- h1,<- h2,if_pos h]
 |case2 line t col u c rest h ih =>
  rw[codeAmong,<- h1,<- h2,if_neg h];exact ih
 |case3 l h =>
  rw[codeAmong];exact h
variable {pos:Pos}
section
variable {X:Cx}{pins:ak}{σ:L2.St}{H:Hp}{s:Shared}{h':Heap}
theorem Inv.grown{p:aC}{ps:aC}{c':Addr}{oc fo:Obj}{vs:aC}{t:Tok}{tk:Nat}(I:Inv X pins σ H s)(hT:fZ p H s.heap)(e0:s.heap.get? df=some (Ap ps))(h1:pos.line=eT.line)(h2:pos.col=eT.col)
  (U2:codeAmong eT ps.toList=none) (hx:Heap.ExtBut df s.heap h') (hc:s.heap.objs.size<=c') (ho:h'.get? c'=some oc) (hd:oc.data=.fields vs) (hq:vs[1]?=some (.str zG t)) (ht:h'.get? df=some (Ap (ps ++ #[rawInt pos.line,rawInt pos.col,.ref c']))) :
  H c'=none/\Inv X pins σ (upd H c' (.fu oc (.own c'))) { s with heap:=h'.push fo,toks:=tk }:=by
 have hn:H c'=none:=I.ck.fresh hc;have nT:∀b,H b=none->b≠df:=λb n z=>by rw[z,hT.sS]at n;cases n
 have k:∀b o,b≠df->s.heap.get? b=some o->(h'.push fo).get? b=some o:=λb o n q=>WQ _ (hx b o n q);have up:∀b u,H b=some u->upd H c' (.fu oc (.own c')) b=some u:=λb u e=>by rw[aQ (br e hn)];exact e
 obtain⟨m,e1,tr,_⟩:=hT.tab;have ep:ps=p++m:=by
  rw[e0]at e1;have z:=W4 e1;injection z with _ _ z3
  injection z3
 refine⟨hn,I.step (g':=s.gens) (d':=s.drawn) (ch:=[]) (λb hb=>nomatch hb) (λb o _ _ _ e n=>k b o (nT b n) e) (λb o _ _ _ e n=>⟨o.slots,k b o (nT b n) e⟩) (λb u _ e n=>?_) (λb o _ e=>?_) (λ_ _ e=>up _ _ e) (λ_ _ _ e=>up _ _ e) (λp' z=>?_) (λm' hm=>?_) (λb u e=>?_) I.bare⟩
 ·rw[aQ (Nat.ne_of_lt (Nat.lt_of_lt_of_le (Heap.lt_size e) hc))];exact n
 ·by_cases hb:b=df
  ·exact⟨_,by rw[hb];exact WQ _ ht⟩
  ·exact⟨o,k b o hb e⟩
 ·have pp:p'=p:=by
   have z1:=z.sS;rw[hT.sS]at z1;have z2:=W4 z1;injection z2 with z3
   exact z3.symm
  subst pp;refine⟨up _ _ hT.sS,m ++ #[rawInt pos.line,rawInt pos.col,.ref c'],by rw[<- Array.append_assoc,<- ep];exact WQ _ ht,?_,λcv q=>?_⟩
  ·rw[<- Array.append_assoc,<- ep,Array.toList_append];rw[<- ep]at tr;exact TriplesOk_snoc _ _ _ _ tr
  ·rw[<- Array.append_assoc,<- ep,Array.toList_append]at q;rw[<- ep]at tr;have q2:codeAmong eT (ps.toList++[rawInt eT.line,rawInt eT.col,.ref c'])=some (.ref c'):=codeAmong_snoc ps.toList tr U2;rw[<- h1,<- h2]at q2;rw[show(#[rawInt pos.line,rawInt pos.col,Value.ref c']:aC).toList=[rawInt pos.line,rawInt pos.col,.ref c'] from rfl,q2]at q;cases q;exact⟨c',oc,.own c',vs,t,rfl,aV,hd,hq⟩
 ·obtain⟨o,es,qR,eZ,r⟩:=hm;exact⟨o,es,qR,k _ o (nT _ I.free) eZ,r⟩
 ·by_cases hb:b=c'
  ·subst hb;rw[aV]at e;cases e;exact⟨WQ _ ho,⟨oc,WQ _ ho⟩⟩
  ·rw[aQ hb]at e;by_cases SH:b=df
   ·subst SH;rw[hT.sS]at e;cases e;exact⟨m ++ #[rawInt pos.line,rawInt pos.col,.ref c'],by rw[<- Array.append_assoc,<- ep];exact WQ _ ht⟩
   ·refine(I.ck b u e).kO (λc v um q=>k c v ?_ q) (λc q=>up _ _ q) λc ys q=>up _ _ q;rcases um with z|z
    ·rw[z];exact SH
    ·rintro rfl;rw[hT.sS]at z;cases z
end
section
variable {X:Cx}{pins:ak}{σ:L2.St}{H:Hp}{s:Shared}
def Made(X:Cx)(pins:ak)(σ:L2.St)(H:Hp)(s:Shared)(params:Arguments)(body:Expr)(scope:Scope)(mx:List (Str×Addr))(Q:aw):Prop :=
 ∀f c' qy pm H' g tk,Inv X pins σ H' { s with heap:=g,toks:=tk }->aJ H H'->g.get? f=some (PySem.W.kla_obj "<lambda>" zG params body scope mx pm c' qy)->H' f=none->s.heap.objs.size<=f->g.CodeRec (.ref c') zG ->
  (∀b o,b≠df->s.heap.get? b=some o->g.get? b=some o)->Q (.ref f) { s with heap:=g,toks:=tk }
theorem yr{cc:Addr}{params:Arguments}{body:Expr}{scope:Scope}{mx:List (Str×Addr)}{Q:aw}(I:Inv X pins σ H s)(mT:X.env.code=.ref cc)(C:PySem.W.CodeHd X.base cc df)(B:X.base.BuiltinsAt X.mg df)
  (Nw:closureFor scope X.env=pure mx) (Qm:defaultsOf params X.env=([],[])) (hq:X.env.qual ++ "<lambda>" = zG) (h1:pos.line=eT.line) (h2:pos.col=eT.col) (h:Made X pins σ H s params body scope mx Q) :
  wpAny (model X.prog X.w) X.A (eval (.Lambda params body scope pos) X.env) Q X.xe s:=by
 refine PySem.W.kla_eval Qm ?_;rw[hq];obtain⟨p,hT⟩:=I.BY.tab;obtain⟨m,e0,tr,fd⟩:=hT.tab;have Cs:=C.keeps I.bk;obtain⟨bm,ob,b1,b2,b3,b4,b5,b6⟩:=B;have Bs:s.heap.BuiltinsAt X.mg df:=⟨bm,ob,b1,b2,b3,b4,I.bk _ _ b5,b6⟩
 have G:=I.mod.glob.keeps I.bk;have gP:mainGlobals≠df:=λz=>by
  obtain⟨o,es,ep,e,_⟩:=I.mod.glob;have n:=(I.bs _ _ e).2;rw[z,hT.sS]at n;cases n
 cases hf:codeAmong pos (p++m).toList with
 |none =>
  refine PySem.W.kla_makeFunction (mg:=X.mg) Nw I.ok.glob G mT Cs e0 tr hf gP Bs λc' qy g tk hx GD fj Gv US=>?_;obtain⟨c2,oc,vs,t,ec,Lb,hd,hv⟩:=Gv;cases ec;rw[nj h1 h2]at hf;obtain⟨hn,J⟩:=LM.Inv.grown (fo:=PySem.W.kla_obj "<lambda>" zG params body scope mx ((X.mg "__name__").getD .none) c' qy) (tk:=tk) I hT e0 h1 h2 hf hx GD Lb hd hv US;have VE:g.objs.size≠c':=Xv fj;have sz:s.heap.objs.size<=g.objs.size:=Xb GD (Yj fj);refine h g.objs.size c' qy _ _ (g.push _) tk J (λb o e=>by rw[aQ (br e hn)];exact e) (WZ _ rfl) ?_ sz ⟨c',oc,vs,t,rfl,WQ _ Lb,hd,hv⟩ λb o nb e=>WQ _ (hx b o nb e);rw[aQ VE];exact I.ck.fresh sz
 |some cv =>
  have Iv:=hf;rw[nj h1 h2]at Iv;obtain⟨c,oc,u,vs,t,ec,hc,hd,hv⟩:=fd cv Iv;subst ec;refine PySem.W.kla_makeFunctionHit (mg:=X.mg) Nw I.ok.glob G mT Cs e0 tr hf Bs λqy g tk hk hsz=>?_;have ho:s.heap.get? c=some oc:=(I.ck _ _ hc).1;have k:∀b o,s.heap.get? b=some o->(g.push (PySem.W.kla_obj "<lambda>" zG params body scope mx ((X.mg "__name__").getD .none) c qy)).get? b=some o:=λb o e=>WQ _ (hk b o e);exact h g.objs.size c qy _ H _ tk (I.un (Un.kept k) (I.ck.kept k)) (aJ.refl H) (WZ _ rfl) (I.ck.fresh hsz) hsz ⟨c,oc,vs,t,rfl,k _ _ ho,hd,hv⟩ λb o _ e=>k b o e
end
def T3(X:Cx)(iX:Nat)(ta:TA):TE:=λσ H Q=>ta σ H λvs H1=>∃(ns:aa) (q:Addr),vs=[.int ns.length]/\ns.length<64/\σ[iX]?=some (some (.ref q))/\de X.K H1 q (ns.map V.int) /\
 ∀l H2 (is:aH),aJ H1 H2->H1 l=none->H2 l=some (.lst (is.map λi:Nat=>V.int (i:Int)))->is.Perm (List.range ns.length)->is.Pairwise (l7 (ns.map λz=>-z))->Q (.ref l) H2
structure zN(X:Cx)(x y:Str)(cx:Addr)(params:Arguments)(sc:Scope)(pos:Pos):Prop where
 code:∃cc,X.env.code=.ref cc/\PySem.W.CodeHd X.base cc df
 blt:X.base.BuiltinsAt X.mg df
 cell:X.env.cells.lookup x=some cx
 kind:X.env.kindOf x=some .cell
 HY:DS X.env.scope x
 mx:closureFor sc X.env=pure [(x,cx)]
 dflt:defaultsOf params X.env=([],[])
 qual:X.env.qual ++ "<lambda>" = zG
 line:pos.line=eT.line
 col:pos.col=eT.col
 bind:∀(body:Expr) (pm qy:Value) (c':Addr) (v:Value),bindArgs (PySem.W.kla_fn "<lambda>" zG params body sc [(x,cx)] pm (.ref c') qy) ⟨[v],[]⟩=pure [(y,v)]
 co:sc.isCoroutine=false
 gen:sc.isGenerator=false
 sk:sc.kind=.function
 jn:∀z∈sc.names,z.2≠.cell
 ny:sc.names.lookup y=some .local
 nx:sc.names.lookup x=some .free
 d1:(x==("__debug__" : Str))=false
 d2:(x==("__classdict__" : Str))=false
 d3:(y==("__debug__" : Str))=false
theorem sP:∀{ns:aa} {its:ag},Vals (ns.map V.int) its->∀(i:Nat) (k:Int),ns[i]?=some k->∃t,its[i]?=some (.int k t)
 |[],_,.nil,i,k,h=>by simp at h
 |n::ns,_,.cons r rs,0,k,h=>by
  obtain⟨t,e⟩:=r;simp at h;subst h;exact⟨t,by simp[e]⟩
 |n::ns,_,.cons r rs,i+1,k,h=>by
  simp at h;obtain⟨t,e⟩:=sP rs i k h;exact⟨t,by simpa using e⟩
theorem J0{X:Cx}{x y:Str}{cx:Addr}{iX:Nat}{e1:Expr}{ta:TA}{params:Arguments}{sc:Scope}{p p' pos' p1 p2 p3 p4 pL pk:Pos}(hX:X.N[iX]?=some x)(hc:X.calm=true)(qh:X.A.depth<recursionLimit)(GC:Gl X "sorted")(Lf:X.mg "sorted" = none)(hg:Gl X "range")(hm:X.mg "range" = none)
  (ha:PA X [e1] ta) (hs:starEach [e1] X.env=[(false,eval e1 X.env)]) (L:zN X x y cx params sc pL) :
  PE X (.Call (.Name "sorted" p') [.Call (.Name "range" p) [e1] [] pos] [{ arg:=some "key",value:=.Lambda params (lh x y p1 p2 p3 p4) sc pL,pos:=pk }] pos') (T3 X iX ta):=by
 intro pins s σ H Q I h;refine Xn (dA I GC Lf (show bootBuiltins "sorted" = some (.builtin "sorted") by decide +kernel) ?_);refine PyProof.Rows.callWith_kw ?_;show wpAny _ _ (spliced ((false,eval (.Call (.Name "range" p) [e1] [] pos) X.env)::backTo pos' (starEach [] X.env))) _ _ s;refine XX ?_;refine Call_ (dA I hg hm boot_range (W9 (cH (ha pos pins s σ H _ I h) λus s1 bJ=>?_) hs rfl));obtain⟨vs,H1,I1,r1,q1⟩:=bJ;obtain⟨ns,q,e,c_,hσ,hq,hQ⟩:=q1;subst e;cases r1 with
 |cons r rr =>
  cases rr;obtain⟨t,rfl⟩:=r;refine call_range_1 (X6 ?_);obtain⟨cc,mT,C⟩:=L.code;refine wpAny_evalAll_cons ?_;show wpAny _ _ (do let v <- eval (.Lambda params (lh x y p1 p2 p3 p4) sc pL) X.env;standAt pos';pure v) _ _ _;have k1:∀b o,s1.heap.get? b=some o->(s1.heap.push { cls:=Value.type "range",data:=Data.fields #[Value.int 0 s1.toks,Value.int ns.length t,Value.int 1 (s1.toks+1)] }).get? b=some o:=λb o e=>WQ _ e;refine WN (yr (I1.un (t':=s1.toks+1+1) (Un.kept k1) (I1.ck.kept k1)) mT C L.blt L.mx L.dflt L.qual L.line L.col ?_);intro f c' qy pm H2 g tk J sm hf r6 WG Gv hk;refine WN (Yd (WU (wpAny_evalAll_nil ?_)));show wpAny _ _ (call (.builtin "sorted") [.ref s1.heap.objs.size] [(Str.ofString "key",.ref f)]) _ _ _;have Uz:s1.heap.objs.size≠df:=λz=>by
   obtain⟨p,hT⟩:=I1.BY.tab;obtain⟨o,e⟩:=hT.at;rw[<- z]at e;exact absurd (WX e) (Xh _)
  have hr:IsRange g s1.heap.objs.size 0 ns.length 1 s1.toks t (s1.toks+1):=hk _ _ Uz (IsRange.new ..);have e2:Builtin.Range.rangeSize 0 (ns.length:Int) 1=((ns.length:Nat):Int):=by rw[rangeSize_one];split<;>left
  obtain⟨m,hn,hl⟩:=J.loc;obtain⟨u,ru,lk⟩:=hl iX x _ hX hσ L.HY;cases ru;have jN:Heap.IsCell g cx (some (.ref q)):=by
   rcases lk with ⟨z,_⟩|⟨_,c2,e3,z⟩
   ·rw[L.kind]at z;cases z
   ·rw[L.cell]at e3;cases e3;exact z
  obtain⟨its,rv,pl,hz⟩:=J.list (hq.elim (λz=>.inl (DI.Rd.same sm z)) .inr);have Lh:Heap.IsList g q its.toArray:=pl.isList;refine rl (kz:=ns.map λz=>-z) (J.ok.hd hc) hr (small_one (by omega) (by omega) (by omega) (by omega)) e2 c_ (by rw[List.length_map]) (λvs hv s' es i v k h1 h2 g2 ML kp=>?_) λD g2 ML c xs keys vs kp hD qN hv hI se ga=>?_
  ·obtain⟨ti,rfl⟩:=hv i v h1;rw[List.getElem?_map]at h2;obtain⟨z,PF,rfl⟩:=Option.map_eq_some_iff.mp h2;obtain⟨tz,Gu⟩:=sP rv i z PF;refine yt (s:={ s' with heap:=g2,toks:=ML }) qh (kp _ _ hf) (Gv.keeps kp) ((J.mod.nolimit.keeps J.bk).keeps kp) (λv=>L.bind _ _ _ _ v) L.co L.gen L.sk L.jn L.ny L.nx (let ⟨o,a,b⟩:=jN;⟨o,kp _ _ a,b⟩) (its:=its.toArray) (let ⟨o,a,b⟩:=Lh;⟨o,kp _ _ a,b⟩) (i:=z) (t:=tz) (by simpa using Gu) ?_ ?_ L.d1 L.d2 L.d3
   ·rw[List.size_toArray,<- rv.length];exact hz
   ·exact λh' tk t' kk=>⟨h',tk,t',rfl,rfl,kk⟩
  ·obtain⟨is,i1,i2,i3⟩:=JA hI hv (by left) (by rw[List.length_map,qN]) se;rw[qN]at i1;have hlen:is.length=ns.length:=by rw[i1.length_eq,List.length_range]
   obtain⟨BG,J2⟩:=DI.Inv.Dm (o:=.lst (is.map λi:Nat=>V.int (i:Int))) (t':=ML) J kp hD ⟨by rw[List.length_map,hlen,sizeLine_eq];left,(xs.map (·.2)).toList,c,i2,by rw[Array.toArray_toList];exact ga⟩;exact⟨.ref D,_,J2,rfl,hQ D _ is (sm.trans (λb o e=>by rw[aQ (br e BG)];exact e)) (sm.free BG) aV i1 i3⟩
noncomputable def i0(ns:aa)(i j:Nat):Bool:=decide (ns.getD j 0<ns.getD i 0\/ns.getD i 0=ns.getD j 0/\i<=j)
def rkL(ns:aa):aH:=(List.range ns.length).mergeSort (i0 ns)
theorem rkL_perm(ns:aa):(rkL ns).Perm (List.range ns.length):=Xg _ _
theorem xC(ns:aa):(rkL ns).Pairwise (λi j=>i0 ns i j=true):=X5 (λa b c h1 h2=>by unfold i0 at *;simp only[decide_eq_true_eq]at *;left) (λa b=>by unfold i0;by_cases h:ns.getD b 0<ns.getD a 0<;>by_cases h':ns.getD a 0<ns.getD b 0<;>simp only[Bool.or_eq_true,decide_eq_true_eq]<;>left) _
theorem yc(ns:aa)(i:Nat):(ns.map λz=>-z).getD i 0 = -(ns.getD i 0):=by
 rw[List.getD_eq_getElem?_getD,List.getD_eq_getElem?_getD,List.getElem?_map];cases ns[i]?<;>simp
theorem vn{ns:aa}{is:aH}(h1:is.Perm (List.range ns.length))(h2:is.Pairwise (l7 (ns.map λz=>-z))):is=rkL ns:=by
 have h3:is.Pairwise (λi j=>i0 ns i j=true):=h2.imp λ{a b} h=>by
  unfold l7 at h;rw[yc,yc]at h;unfold i0;simp only[decide_eq_true_eq];left
 refine List.Perm.eq_of_pairwise (le:=λi j=>i0 ns i j=true) (λa b _ _ x y=>?_) h3 (xC ns) (h1.trans (rkL_perm ns).symm);unfold i0 at x y;simp only[decide_eq_true_eq]at x y;left
end LM
end
section
namespace LM
open PySem PySem.Spec PyProof.Rows L2 DI
noncomputable def two{α:Type}:List α->Option (α×α)
 |[a,b]=>some (a,b)
 |_=>none
theorem hV{α:Type}{l:List α}{z:α×α}(h:two l=some z):l=[z.1,z.2]:=by
 match l,h with
 |[a,b],h=>cases h;rfl
def skD(xs:ab):O D:=match two xs with
 |some z=>match z.1 with
  |.int n=>match z.2 with
   |.lst _ ds=>match gW ds with
    |some ns=>if n=ns.length/\ns.length<64 then ok (.lst .ow ((rkL ns).map λi:Nat=>D.int (i:Int)))else none
    |none=>none
   |_=>none
  |_=>none
 |none=>none
theorem EE{xs:ab}{d:D}(h:skD xs=ok d):∃(ns:aa) (f:Fl),xs=[.int ns.length,.lst f (ns.map D.int)]/\ns.length<64/\d=.lst .ow ((rkL ns).map λi:Nat=>D.int (i:Int)):=by
 unfold skD at h;split at h
 ·rename_i z hz;split at h
  ·rename_i n e1;split at h
   ·rename_i f ds e2;split at h
    ·rename_i ns qi;split at h
     ·rename_i hc;cases h;rw[hV hz,e1,e2,hc.1,k8 qi];exact⟨ns,f,rfl,hc.2,rfl⟩
     ·cases h
    ·cases h
   ·cases h
  ·cases h
 ·cases h
theorem sR:∀{ds:ab} {ns:aa},aG bH ds=ns.map D.int->ds=ns.map D.int
 |[],[],_=>rfl
 |[],n::ns,h=>by cases h
 |d::ds,[],h=>by cases h
 |d::ds,n::ns,h=>by
  have h':aZ bH d::aG bH ds=D.int n::ns.map D.int:=h;injection h' with h1 h2
  rw[sR h2];cases d with
  |int i=>cases h1;rfl
  |_=>cases h1
variable {F:Addr->Prop}{X:Cx}{e1:Expr}{iX:Nat}{p' p1 p2 p3 p4 pL pk pos pos' pz:Pos}{Φ:aU}
theorem Jz{n:Nat}(hΦ:Φ n=skD){x y:Str}{cx:Addr}{c:CE}{params:Arguments}{sc:Scope}{p:Pos}(hX:X.N[iX]?=some x)(hc:X.calm=true)(qh:X.A.depth<recursionLimit)(GC:Gl X "sorted")(Lf:X.mg "sorted" = none)(hg:Gl X "range")(hm:X.mg "range" = none)
  (hs:mC X F Φ [c] [e1]) (L:zN X x y cx params sc pL) :
  PE X (.Call (.Name "sorted" p') [.Call (.Name "range" p) [e1] [] pos] [{ arg:=some "key",value:=.Lambda params (lh x y p1 p2 p3 p4) sc pL,pos:=pk }] pos') (tD X F Φ (.bX n [c,.v iX])):=by
 have pa:PA X [e1] (mJ X F Φ [c]):=PA.imp (cO hs.1 (PA.imp eW λ_ _ _ h=>eO h) (hs.2.1 _)) λ_ _ _ h=>cU h;refine PE.imp (J0 hX hc qh GC Lf hg hm pa (hs.2.1 _) L) λσ H Q hq=>?_;obtain⟨R,τ,ρ,d,Si,ev,hq⟩:=hq;obtain⟨xs,cL,ev⟩:=aA ev;rw[hΦ]at ev;obtain⟨ns,f,rfl,c_,rfl⟩:=EE ev;obtain⟨a,ea,cL⟩:=aA cL;obtain⟨bs,L7,cL⟩:=aA cL;cases cL;obtain⟨b,eb,L7⟩:=aA L7;obtain⟨z,ez,L7⟩:=aA L7;cases ez;cases L7;obtain⟨d',hd,ed⟩:=pC eb;obtain⟨f',hr⟩:∃f',ρ[iX]?=some (some (.lst f' (ns.map D.int))):=by
  cases d' with
  |lst f' ds =>
   have e3:D.lst f (ns.map D.int)=.lst (bH f') (aG bH ds):=ed;injection e3 with _ e4
   exact⟨f',by rw[hd,sR e4.symm]⟩
  |_=>cases ed
 refine⟨R,τ,ρ,[.int ns.length],Si,by show bd (bg Φ c ρ) _=_;rw[ea];rfl,λvs H1 e1 r1=>?_⟩;obtain⟨τt,fr,rs⟩:=r1;obtain⟨v,rfl,rv⟩:=rs.one;cases rv;obtain⟨w,hw,h_⟩:=(Si.go e1).rep iX _ hr;obtain⟨q,ys,rfl,hn,xB⟩:=h_.oV;cases xB.ofInts;refine⟨ns,q,rfl,c_,hw,hn.sq,λl H2 is sm hl Nn i1 i2=>?_⟩;obtain rfl:=vn i1 i2;refine hq _ _ (e1.trans sm) (bN.p5 (e1.free hl) (e1.trans sm) Nn ?_);have:=gJ (T:=aT X.K H2) (N:=nd X.K R (gZ (gP X F) τ (fL (CE.bX n [c,CE.v iX]))) (λx=>none) H2) (k:=[]) ((rkL ns).map λi:Nat=>(i:Int)) (n:=0);rw[List.map_map,List.map_map]at this;exact this
variable {st:Stmt}{ph:aL}
theorem vh{c:CS}{cs:aj}(h1:PS X st (jS X F Φ c))(h2:jc X ph (jf X F Φ cs)):jc X (st::ph) (jf X F Φ (c::cs)):=by
 refine jc.imp (pU h1 h2) λD σ H hq=>?_;obtain⟨R,τ,ρ,r,Si,ev,hq⟩:=hq;obtain⟨⟨fo,ρ1⟩,e1,ev⟩:=aA ev;refine⟨R,τ,ρ,(fo,ρ1),Si,e1,?_⟩;cases fo with
 |nx=>exact λσ' H' R' τ' eU kp=>⟨R',τ',ρ1,r,eU,ev,hq.from kp⟩
 |rt d=>cases ev;exact hq
variable {K:ao}{N:av}{P:ax}{base:Heap}{cc:Addr}{mg:Str->Option Value}{qual:Str}{w:World}
theorem vX{x:Str}{s1:Stmt}{f:Addr}{fd:FuncData}{ps:av}{k:Nat}{bl:av}{cs:List (Str×GK)}{px:Px}{sf:Nat->Option Str}{m:aD}{c1:CS}{body:aj}
  (Fu:zO K x qual st f fd) (Nx:fd.code=.ref cc) (Sc:fQ N ps (aF st)) (Qq:bK st=s1::ph) (yN:fW ⟨aF st,N,sf,bl,cs,px⟩ body ph=true) (BD:oT px Φ) (K9:CB px Φ)
  (vP:∀y∈bl,mg y=none) (n8:∀y i,(y,i)∈cs->∃u,mg y=some u/\wD K i u)
  (r6:∀g y,sf g=some y->∃(f:Addr) (fd:FuncData) (ps:av),f_ P w K mg base l6 k f fd ps (xk K ps.length (Φ g))/\mg y=some (.ref f)/\PySem.W.keepIn K (.ref f)=true/\Binds K fd ps []/\∀ds r,Φ g ds=ok r->ds.length=ps.length)
  (hm:∀ds r,m ds=ok r->ds.length=ps.length/\kU Φ N.length (c1::body) ds=ok r)
  (h1:∀(A:ay) (outer:List Env) (s:Shared) (H:Hp) (E:XK) (F:ai),eN k (A.deeper (envOfC qual (aF st) s.heap.objs.size f (.ref cc))) ->
   jQ (gO l6 P w K mg base N qual (aF st) f (.ref cc) A outer s H E).rJ ⟨aF st,N,sf,bl,cs,px⟩ k Φ->PS (gO l6 P w K mg base N qual (aF st) f (.ref cc) A outer s H E).rJ s1 (jS (gO l6 P w K mg base N qual (aF st) f (.ref cc) A outer s H E).rJ F Φ c1)) :
  f_ P w K mg base l6 (k+1) f fd ps (xk K ps.length m):=by
 obtain⟨oc,od,kV,doc,pm,an,fX,ct,xV,rfl,lk,hcd⟩:=Fu.ex;obtain rfl:fX=.ref cc:=Nx;refine DF lk hcd Sc (λvs H Q E ⟨_,_,_,h,_⟩=>h) λA outer s H vs Q E hr wz=>?_
 suffices z:∃t,jc (gO l6 P w K mg base N qual (aF st) f (.ref cc) A outer s H E).rJ (bK st) t/\t { nx:=λ_ H'=>Q .bz H',rt:=Q } (start N vs) H by
  obtain⟨t,h,q⟩:=z;exact⟨t,h.rJ,q⟩
 obtain⟨F,ds,r,hl,rs,er,hq⟩:=wz;obtain⟨Vh,lF⟩:=hm ds r er
 let X:=(gO l6 P w K mg base N qual (aF st) f (.ref cc) A outer s H E).rJ
 have L:jQ X ⟨aF st,N,sf,bl,cs,px⟩ k Φ:=⟨⟨rfl,rfl,Sc.nd,rfl,hr,vP,λg y h=>⟨r6 g y h⟩,n8,BD⟩,λ_=>rfl,PassesOwn.never,Sc.kind,K9⟩
 refine⟨jf X F Φ (c1::body),by rw[Qq];exact vh (h1 A outer s H E F hr L) (fB L body ph yN),?_⟩;unfold kU at lF;obtain⟨⟨fo,ρ'⟩,eb,lF⟩:=aA lF;have hpl:ps.length<=N.length:=by have:=XE List.length Sc.pre;rw[List.length_take]at this;left
 have qN:vs.length=ds.length:=rs.length;refine⟨λp=>F p/\H p≠none,λ_=>none,_,(fo,ρ'),⟨?_,λi d hi=>?_,λ_ _=>rfl,λp h=>h.2,λp h=>.inl h.1,λ_ _ h=>by simp at h,λ_ _ h=>by simp at h,aJ.refl H⟩,eb,?_⟩
 ·unfold L2.start;simp[qN]
 ·have Lp:i<ds.length:=by
   by_cases jM:i<ds.length
   ·exact jM
   ·rw[List.getElem?_append_right (by simpa using jM)]at hi;rw[List.getElem?_replicate]at hi;split at hi<;>simp at hi
  rw[List.getElem?_append_left (by simpa using Lp),List.getElem?_map]at hi;have hd:ds[i]?=some d:=by
   cases q:ds[i]? with
   |none=>rw[q]at hi;cases hi
   |some z=>rw[q]at hi;simp at hi;rw[hi]
  obtain⟨v,hv,rv⟩:=rs.get hd;refine⟨v,?_,rv.imp (q:=[0+i]) (q':=[i]) (λ_ _ h=>h) λc p xs f h=>?_⟩
  ·unfold L2.start;rw[List.getElem?_append_left (by rw[List.length_map,qN];exact Lp),List.getElem?_map,hv];rfl
  ·cases f with
   |ow=>exact nomatch h.2
   |fz=>exact⟨h.1,h.2,h.1.ne⟩
   |al=>exact h.2.elim
   |sc=>exact h
 ·cases fo with
  |nx =>
   cases lF;exact λσ' H' R' τ' eU kp=>hq .bz H' eU.same ⟨λ_=>none,λ_ _ h=>by simp at h,.bz⟩
  |rt d =>
   cases lF;exact λv H' es rr=>hq v H' es rr
variable {S:Sx}
theorem Cr{k:Nat}(L:jQ X S k Φ){i n:Nat}{cs:aB}{z:Str}{f:Expr}{as:au}{ks:List Keyword}{pc:Pos}(he:PE X (.Call f as ks pc) (tD X F Φ (.bX n cs)))(ht:my S (.nm i) (.Name z pz)=true)
  (BA:swapsWithSole [.Name z pz] (.Call f as ks pc) pos.line X.env=pure false):PS X (.Assign [.Name z pz] (.Call f as ks pc) pos) (jS X F Φ (.asg (.nm i) (.bX n cs))):=by
 obtain⟨g,hg,vN⟩:=sU (F:=F) L ht;have hK:PE X (.Call f as ks pc) (tK X F Φ (.bX n cs)):=by
  refine PE.imp he λσ H Q hq=>?_;obtain⟨R,τ,ρ,r,Si,ev,hq⟩:=hq;have L3:bd (bg Φ (.bX n cs) ρ) (λd=>ok (keep (.bX n cs) d ρ))=ok r:=ev;obtain⟨d,ed,er⟩:=aA L3;cases er;refine tD.intro Si ed λv H' e' r'=>?_;obtain⟨R',τ',h1,h2,h3⟩:=yw Si e' r';exact hq v H' R' τ' e' h1 h2 h3
 refine PS.imp (rB hK hg BA (by rfl) (by rfl)) λD σ H hq=>?_;obtain⟨R,τ,ρ,r,Si,ev,hq⟩:=hq;obtain⟨r1,qr,ev⟩:=aA ev;obtain⟨ρ',eρ,ev⟩:=aA ev;cases ev;exact⟨R,τ,ρ,r1,Si,qr,λv H' R' τ' es hR eU rk=>vN v σ H' _ R' τ' r1.2 ρ' r1.1 eU rk eρ λσ' qT zH=>hq σ' H' R' qT zH (Kp.of es hR)⟩
structure zM(base:Heap)(mg:aN)(qual:Str)(scope:Scope)(f cc:Addr)(x y:Str)(params:Arguments)(sc:Scope)(pos:Pos):Prop where
 code:PySem.W.CodeHd base cc df
 blt:base.BuiltinsAt mg df
 cell:∀L,(cellsFrom (L+1) scope.names []).lookup x=some (L+1)
 kind:scope.names.lookup x=some .cell
 mx:∀L,closureFor sc (envOfC qual scope L f (.ref cc))=pure [(x,L+1)]
 dflt:∀L,defaultsOf params (envOfC qual scope L f (.ref cc))=([],[])
 qual:qual ++ ".<locals>." ++ "<lambda>" = zG
 line:pos.line=eT.line
 col:pos.col=eT.col
 bind:∀(body:Expr) (cx:Addr) (pm qy:Value) (c':Addr) (v:Value),bindArgs (PySem.W.kla_fn "<lambda>" zG params body sc [(x,cx)] pm (.ref c') qy) ⟨[v],[]⟩=pure [(y,v)]
 co:sc.isCoroutine=false
 gen:sc.isGenerator=false
 sk:sc.kind=.function
 jn:∀z∈sc.names,z.2≠.cell
 ny:sc.names.lookup y=some .local
 nx:sc.names.lookup x=some .free
 d1:(x==("__debug__" : Str))=false
 d2:(x==("__classdict__" : Str))=false
 d3:(y==("__debug__" : Str))=false
variable {scope:Scope}
theorem zM.ok{f:Addr}{x y:Str}{params:Arguments}{sc:Scope}(T:zM base mg qual scope f cc x y params sc pos){A:ay}{outer:List Env}{s:Shared}{H:Hp}{E:XK}:
  zN (gO l6 P w K mg base N qual scope f (.ref cc) A outer s H E).rJ x y (s.heap.objs.size+1) params sc pos :=
 ⟨⟨cc,rfl,T.code⟩,T.blt,T.cell _,T.kind,.inr (.inl T.kind),T.mx _,T.dflt _,T.qual,T.line,T.col,λbody pm qy c' v=>T.bind body _ pm qy c' v,T.co,T.gen,T.sk,T.jn,T.ny,T.nx,T.d1,T.d2,T.d3⟩
theorem xo{f:Addr}{k:Nat}{n iZ:Nat}{x y z:Str}{c:CE}{params:Arguments}{sc:Scope}{p pa:Pos}
  (hΦ:Φ n=skD) (T:zM base mg qual scope f cc x y params sc pL) (hS:S.sc=scope) (hX:S.N[iX]?=some x) (hZ:my S (.nm iZ) (.Name z pz)=true) (g1:jb scope "sorted" = true) (b1:("sorted" : Str)∈S.bl) (g2:jb scope "range" = true) (b2:("range" : Str)∈S.bl) (he:bB S [c] [e1]=true)
  (BA:∀L,swapsWithSole [.Name z pz] (.Call (.Name "sorted" p') [.Call (.Name "range" p) [e1] [] pos] [{ arg:=some "key",value:=.Lambda params (lh x y p1 p2 p3 p4) sc pL,pos:=pk }] pos') pa.line (envOfC qual scope L f (.ref cc))=pure false)
  (A:ay) (outer:List Env) (s:Shared) (H:Hp) (E:XK) (F:ai) (hr:eN k (A.deeper (envOfC qual scope s.heap.objs.size f (.ref cc)))) (L:jQ (gO l6 P w K mg base S.N qual scope f (.ref cc) A outer s H E).rJ S k Φ) :
  PS (gO l6 P w K mg base S.N qual scope f (.ref cc) A outer s H E).rJ (.Assign [.Name z pz] (.Call (.Name "sorted" p') [.Call (.Name "range" p) [e1] [] pos] [{ arg:=some "key",value:=.Lambda params (lh x y p1 p2 p3 p4) sc pL,pos:=pk }] pos') pa) (jS (gO l6 P w K mg base S.N qual scope f (.ref cc) A outer s H E).rJ F Φ (.asg (.nm iZ) (.bX n [c,.v iX]))):=by
 refine Cr L (Jz hΦ hX L.calm (by have:=hr.dp;show(A.deeper _).depth<_;left) (L.gl (by rw[hS];exact g1)) (L.bl _ b1) (L.gl (by rw[hS];exact g2)) (L.bl _ b2) (iP L.toLk [c] [e1] he) T.ok) hZ (BA _)
end LM
end
section
namespace LM
open DI
noncomputable def toZ(l:aH):aa:=l.map λi:Nat=>(i:Int)
theorem EV(ns:aa)(s:Nat):Sel ns.length ns (toZ ((rkL ns).take s)) (sortI (toZ ((rkL ns).drop s))) where
 perm:=by
  refine(List.Perm.append_left _ (sortI_perm _)).trans ?_;unfold toZ f6;rw[<- List.map_append,List.take_append_drop];exact(rkL_perm ns).map _
 rise:=by
  have nd:(toZ ((rkL ns).drop s)).Nodup:=by
   have h:(rkL ns).Nodup:=(rkL_perm ns).nodup_iff.mpr Yg;rw[<- List.take_append_drop s (rkL ns)]at h;exact((List.nodup_append.mp h).2.1).map (f:=λi:Nat=>(i:Int)) λx y (h:x≠y) e=>h (Int.ofNat.inj e)
  have h2:(sortI (toZ ((rkL ns).drop s))).Nodup:=(sortI_perm _).nodup_iff.mpr nd;exact(List.pairwise_and_iff.mpr ⟨kR _,h2⟩).imp λ⟨a,b⟩=>by left
 ah:=λa ha b hb=>by
  obtain⟨i,hi,rfl⟩:=List.mem_map.mp ha;obtain⟨j,hj,rfl⟩:=List.mem_map.mp ((sortI_perm _).mem_iff.mp hb);have nd:(rkL ns).Nodup:=(rkL_perm ns).nodup_iff.mpr Yg;have pw:=xC ns;rw[<- List.take_append_drop s (rkL ns)]at nd pw;have h1:=(List.pairwise_append.mp pw).2.2 i hi j hj;have h2:=(List.nodup_append.mp nd).2.2 i hi j hj;unfold i0 at h1;simp only[decide_eq_true_eq]at h1;unfold nq aE;simp only[Int.toNat_natCast];left
theorem rk_lot{ns:aa}{s:Nat}(hs:s<=ns.length):sortI (toZ ((rkL ns).take s))=bZ ns.length ns s:=by
 have hl:(toZ ((rkL ns).take s)).length=s:=by
  unfold toZ;rw[List.length_map,List.length_take,(rkL_perm ns).length_eq,List.length_range];left
 have:=(EV ns s).lot.1
 rwa [hl]at this
end LM
end
section
namespace DI
open PySem (Str)
open LM (skD rkL toZ)
noncomputable def HK:aj:=[.asg (.nm 2) (.bX 1070 [(.bf .len [(.v 0)]),(.v 0)]),.ret (.bf .tuple1 [(.bf .dr [(.bX 1021 [(.v 2),(.v 1)])])])]
theorem EF{f:Fl}{ns:aa}(h:ns.length<64):skD [.int ns.length,.lst f (af ns)]=ok (.lst .ow (af (toZ (rkL ns)))):=by
 have e2:gW (af ns)=some ns:=ig ns;have e:skD [.int ns.length,.lst f (af ns)]=(match gW (af ns)with|some jK=>if (ns.length:Int)=jK.length/\jK.length<64 then ok (D.lst .ow ((rkL jK).map λi:Nat=>D.int (i:Int)))else none|none=>none):=rfl;rw[e,e2];show(if (ns.length:Int)=ns.length/\ns.length<64 then ok (D.lst .ow ((rkL ns).map λi:Nat=>D.int (i:Int)))else none)=_;rw[if_pos ⟨rfl,h⟩];unfold toZ;show ok (D.lst .ow _)=ok (D.lst .ow (((rkL ns).map λi:Nat=>(i:Int)).map D.int));rw[List.map_map];rfl
end DI
end
section
namespace DI
open PySem (Str)
open LM (skD rkL toZ rkL_perm rk_lot)
theorem ux{f:Fl}{ns:aa}(h:ns.length<64):qS .dr [.lst f (af ns)]=ok (.lst .ow (af (sortI ns))):=by
 show jI _=_;unfold jI af;rw[bI];exact Xf h
def HW(m:aD):Prop:=∀f p (s:Nat),p.length<=12->s<=p.length->m [.lst f (af p),.int s]=ok (.tup (af (bZ p.length p s)))
theorem OF(Φ:aU)(LP:Φ 1070=skD)(LR:Φ 1021=cutD false):HW (mk Φ 2 3 HK):=by
 intro f p s RW hs;have a1:∀f,Φ 1070 [.int p.length,.lst f (af p)]=ok (.lst .ow (af (toZ (rkL p)))):=λf=>by rw[LP];exact EF (by left)
 have ll:(toZ (rkL p)).length=p.length:=by unfold toZ;rw[List.length_map,(rkL_perm p).length_eq,List.length_range]
 have a2:∀f,Φ 1021 [.lst f (af (toZ (rkL p))),.int s]=ok (.lst .ow (af (toZ ((rkL p).take s)))):=λf=>by
  rw[LR];have hlen:(af (toZ (rkL p))).length=p.length:=by unfold af;rw[List.length_map];exact ll
  show(if (0:Int)<=s/\(s:Int)<=(af (toZ (rkL p))).length then ok (D.lst .ow (aG bH ((af (toZ (rkL p))).take (s:Int).toNat)))else none)=_;rw[if_pos ⟨by left,by rw[hlen];left⟩,Int.toNat_natCast];have e:(af (toZ (rkL p))).take s=af (toZ ((rkL p).take s)):=by unfold af toZ;rw[List.map_take,List.map_take]
  rw[e,cu]
 have l2:(toZ ((rkL p).take s)).length<64:=by
  have:=List.length_take_le s (rkL p);unfold toZ at *;rw[List.length_map]at *;left
 have a3:=λf=>ux (f:=f) l2;rw[rk_lot hs]at a3;generalize toZ (rkL p)=z at *;generalize toZ ((rkL p).take s)=z' at *;simp[mk_eq,HK,a1,a2,a3]
end DI
end
section
namespace DI
open PySem (Str)
theorem z5{Φ:aU}{i:Nat}{op:Bool}{e:CE}{ρ:aY}{a b:Int}(h1:bg Φ e ρ=ok (.int b))(h2:ρ[i]?=some (some (.int a))):lN Φ (.aug i op e) ρ=ok (.nx,ρ.set i (some (.int (if op then a+b else a - b)))):=by
 show bd (bd (bg Φ e ρ) intD) _=_;rw[h1];show(match ρ[i]? with|some (some (.int a))=>_|_=>_)=_;rw[h2]
def mH:List (aa×Int)->aq->aq
 |[],ks=>ks
 |z::r,ks=>mH r (bc ks z.1)
def pd:List (aa×Int)->(aa->Int)->aa->Int
 |[],w=>w
 |z::r,w=>pd r (cR w z.1 z.2)
theorem j_:∀(r:List (aa×Int)) (ks:aq),(mH r ks).length<=ks.length+r.length
 |[],ks=>WV _
 |z::r,ks=>by
  have:=j_ r (bc ks z.1);have:=dZ ks z.1;rw[mH,List.length_cons];left
theorem CQ:∀(r:List (aa×Int)) (ks:aq) (w:aa->Int),(∀z∈r,1<=z.2)->Tb (0:Int) (λx=>1<=x) ks w->Tb (0:Int) (λx=>1<=x) (mH r ks) (pd r w)
 |[],_,_,_,T=>T
 |z::r,ks,w,h,T=>CQ r _ _ (λy hy=>h y (WT _ hy)) (T.add (by have:=h z WR;left) (λa ha=>by have:=h z WR;left) z.1)
theorem uh:∀(p:aa) (k:Nat),fI k p=(List.range p.length).map λi:Nat=>(((k+i:Nat):Int),p.getD i 0)
 |[],_=>rfl
 |x::p,k=>by
  rw[fI,uh p (k+1),List.length_cons,List.range_succ_eq_map,List.map_cons,List.map_map];congr 1;refine W5 λi _=>?_;show _=(((k+(i+1):Nat):Int),(x::p).getD (i+1) 0)
  rw[List.getD_cons_succ,show k+1+i=k+(i+1) by left]
theorem Bz(p lot:aa)(w:Int):((fI 0 p).map λz=>if z.1∈lot then z.2 - w else z.2)=du p lot w:=by
 unfold du f6;rw[uh,List.map_map,List.map_map];refine W5 λi _=>?_;show(if ((0+i:Nat):Int)∈lot then p.getD i 0 - w else p.getD i 0)=if ((i:Nat):Int)∈lot then p.getD ((i:Int)).toNat 0 - w else p.getD ((i:Int)).toNat 0
 rw[Nat.zero_add,Int.toNat_natCast]
variable {W w:Int}
theorem sO{p lot rest:aa}{u w':Int}(h:zQ p lot rest u w)(h':zQ p lot rest u w'):w=w':=by
 obtain⟨a,b,c⟩:=h;obtain⟨a',b',c'⟩:=h';have h1:w<=w':=by
  rcases c' with ⟨x,hx,e⟩|⟨x,hx,e⟩
  ·have:=a x hx;left
  ·have:=b x hx;left
 have h2:w'<=w:=by
  rcases c with ⟨x,hx,e⟩|⟨x,hx,e⟩
  ·have:=a' x hx;left
  ·have:=b' x hx;left
 left
noncomputable def B1:CE:=.comp 2 (.tp [0,1]) [6,7] (.bX 1001) [(.v 2)] [] (.ite (.cmp .wx (.v 0) (.v 2)) (.bin .sub (.v 1) (.v 3)) (.v 1))
def Jg:aj:=[.asg (.nm 6) (.call 31 [(.v 2),(.v 3)]),.asg (.nm 7) (.call 32 [(.v 2),(.v 6),(.v 4)]),.mut 1033 5 [(.bin .add (.bX 1031 [(.v 5),(.v 6),(.int 0)]) (.v 7)),(.v 6)],.asg (.nm 2) B1,.aug 4 false (.v 7)]
def z8:CS:=.CH (.cmp .gt (.v 4) (.int 0)) Jg
def Cn:aj:=[.ex (.call 26 [(.v 0)]),.asg (.nm 1) (.call 9 [(.v 0)]),.asg (.nm 2) (.call 10 [(.v 0),(.v 1)]),.asg (.nm 3) (.call 25 [(.v 0)]),.asg (.nm 4) (.v 1),.asg (.nm 5) (.bX 1030 []),z8,.ret (.call 18 [(.bf .len [(.v 0)]),(.v 5),(.v 1)])]
theorem yk(n:Nat)(p:aa)(s:Nat):zZ n (bZ n p s):=⟨jr n p s,λh hh=>cQ (List.mem_filter.mp hh).1⟩
theorem Am(Φ:aU)(P:z0 Φ)(QB:HW (Φ 31))(QA:HV (Φ 32))(ql:Φ 1001=lR){n s:Nat}(n1:1<=n)(RW:n<=12)(c0 c1:aK){p:aa}{u:Int}{r:List (aa×Int)}(t:Tr n s p u r):∀(ks:aq) (w:aa->Int) (c6 c7:aK),Tk n s p u->ks.length+r.length<900->(∀k,k∉ks->w k=0) ->
  ∃p' Mq wg,lN Φ z8 [c0,c1,some (.lst .ow (af p)),some (.int s),some (.int u),some (s9 .ow ks w),c6,c7]=ok (.nx,[c0,c1,some (.lst .ow (af p')),some (.int s),some (.int 0),some (s9 .ow (mH r ks) (pd r w)),Mq,wg]):=by
 induction t with
 | @nil p =>
  intro ks w c6 c7 T hl h0;refine⟨p,c6,c7,?_⟩;rw[z8,jF];exact d_ (by simp;rfl)
 | @cons p u x r hu hw t ih =>
  intro ks w c6 c7 T hl h0;obtain⟨S,BB⟩:=Sel.canon (p:=p) T.sn;have T':=T.next hu S BB hw;rw[List.length_cons]at hl;have hlen:=T.len;have Tq:=λf=>QB f p s (by left) (by rw[hlen];exact T.sn);rw[hlen]at Tq;have VW:∀f,Φ 32 [.lst f (af p),.tup (af (bZ n p s)),.int u]=ok (.int x):=λf=>by
   obtain⟨x',e,ui⟩:=QA f p (bZ n p s) u (by left) (by left) (by rw[hlen];exact yk n p s);rw[e];rw[hlen]at ui;rw[sO ui hw]
  have kl:=dZ ks (bZ n p s);obtain⟨p',d6,d7,ih⟩:=ih (bc ks (bZ n p s)) (cR w (bZ n p s) x) (some (.tup (af (bZ n p s)))) (some (.int x)) T' (by left) (λk hk=>by
   have hz:¬ (k∈ks\/k=bZ n p s):=λz=>hk (dY.mpr z);unfold cR;rw[if_neg λz=>hz (.inr z)];exact h0 k λz=>hz (.inl z))
  refine⟨p',d6,d7,?_⟩;rw[z8,jF]at ih ⊢;rw[mH,pd];rw[<- ih];refine hJ ?_;generalize bZ n p s=lot at *;have g1:∀f,Φ 1031 [s9 f ks w,.tup (af lot),.int 0]=ok (.int (w lot)):=λf=>Jf P (e:=D.int) C6 f ks w 0 lot (h0 lot);have x1:=qU (Φ:=Φ) (p:=1033) (i:=5) (es:=[(.bin .add (.bX 1031 [(.v 5),(.v 6),(.int 0)]) (.v 7)),(.v 6)]) (ρ:=[c0,c1,some (.lst .ow (af p)),some (.int s),some (.int u),some (s9 .ow ks w),some (.tup (af lot)),some (.int x)]) (xs:=[.int (w lot+x),.tup (af lot)]) (by simp[t5,g1]) (by simp) rfl (w4 P (by left) w lot x);simp only[List.set]at x1;have e2:∀c5,bg Φ B1 [c0,c1,some (.lst .ow (af p)),some (.int s),some (.int u),c5,some (.tup (af lot)),some (.int x)]=ok (.lst .ow (af (du p lot x))):=λc5=>by
   unfold B1;rw[dD (xs:=[.lst .al (af p)]) (items:=(fI 0 p).map rS) (ds:=(fI 0 p).map λz=>D.int (if z.1∈lot then z.2 - x else z.2)) (by simp) (qa ql _ p) (cN λz hz=>⟨[some (.int z.1),some (.int z.2),some (.tup (af lot)),some (.int x)],by simp[bE,rS],by simp,by
    by_cases c:z.1∈lot<;>simp[Mo,c]⟩) (by rw[List.length_map,lD];exact cP (by left))]
   have:((fI 0 p).map λz=>D.int (if z.1∈lot then z.2 - x else z.2))=af (du p lot x):=by rw[<- Bz];unfold af;rw[List.map_map];rfl
   rw[this];simp
  have x3:=λρ (h:ρ[4]?=some (some (.int u))) (h':bg Φ (.v 7) ρ=ok (.int x))=>z5 (Φ:=Φ) (i:=4) (op:=false) (e:=.v 7) (ρ:=ρ) h' h;simp[Jg,hu,Tq,VW,x1,KI Φ B1 _ rfl,e2,x3]
def sJ(m:aD):Prop:=∀f qs B (s:Int),l9 12 qs B->qs.sum=(s:Rat)->m [.lst f (a_ qs)]=ok (.int s)
theorem EO(Φ:aU)(h9:dG (Φ 9))(GX:gw (Φ 10)):sJ (mk Φ 1 3 kC):=by
 intro f qs B s I es;have hs:=I.EC (WV _);have e9:=λf=>h9 f qs 4 hs;obtain⟨l1,l2,l3⟩:=hs.lcm;have Q5:=λf=>GX f qs 4 (bD qs) hs hs.KC;have et:=iM l3 es;have hb:bD qs<2 ^ 61:=WY l2 (W8 (by decide) (by have:=I.n2;left));generalize bD qs=b at *;have Qs:(b:Int)≠0:=by left
 have hm:(s*(b:Int)).fmod b=0:=mv s b Qs;have d1:bR .fdiv (.int (s*(b:Int))) (.int (b:Int))=ok (.int s):=by
  rw[fO (cY (by left) (gj (by simp;left))),Int.mul_fdiv_cancel _ Qs]
 have m1:bR .mod (.int (s*(b:Int))) (.int (b:Int))=ok (.int 0):=by rw[uO Qs,hm]
 simp[mk_eq,kC,e9,Q5,et,m1,d1]
theorem F1{m:aD}(h:sJ m):uY m:=λf qs B I=>by
 obtain⟨s,es⟩:=I.su;exact⟨s,h f qs B s I es⟩
def CN(W:Int)(r:List (aa×Int)):aR:=(bw (mH r [])).map λl=>(qW W (pd r (λ_=>0) l),l)
theorem CK(p:aa):(f6 p.length).map (aE p)=p:=by
 unfold f6;rw[List.map_map];refine XM (by simp) λi h1 h2=>?_;simp at h1;simp[aE,h1]
variable {B:Nat}{qs:aM}
theorem l9.size{m:Nat}(I:l9 m qs B):∃s:Nat,qs.sum=((s:Int):Rat)/\s<=qs.length:=by
 obtain⟨s,es⟩:=I.su;have h0:∀l:aM,(∀q∈l,0<=q)->0<=l.sum:=λl=>by
  induction l with
  |nil=>intro _;exact Rat.le_refl
  |cons a l ih=>intro h;rw[List.sum_cons];exact Rat.add_nonneg (h a WR) (ih λx hx=>h x (WT _ hx))
 have h1:∀l:aM,(∀q∈l,q<=1)->l.sum<=(l.length:Rat):=λl=>by
  induction l with
  |nil=>intro _;exact Rat.le_refl
  |cons a l ih =>
   intro h;have i:=ih λx hx=>h x (WT _ hx);have j:=h a WR;rw[List.sum_cons,List.length_cons];have e:((l.length+1:Nat):Rat)=(l.length:Rat)+1:=by exact_mod_cast rfl
   rw[e];grind
 have a:=h0 qs I.q0;have b:=h1 qs I.q1;rw[es]at a b;have a':0<=s:=by have:=Yc (a:=0) (b:=s);exact this.mp (by simpa using a)
 have b':s<=(qs.length:Int):=by
  have:=Yc (a:=s) (b:=(qs.length:Int));exact this.mp (by rw[Rat.intCast_natCast];exact b)
 exact⟨s.toNat,by rw[es,show((s.toNat:Nat):Int)=s by left],by left⟩
theorem l9.tk{m:Nat}(I:l9 m qs B)(hm:m<=12){s:Nat}(es:qs.sum=((s:Int):Rat))(hs:s<=qs.length):Tk qs.length s (tU qs) (bD qs):=by
 have P0:=I.p0 hm;obtain⟨a,b,c⟩:=I.bot hm;have hl:=P0.len;have mem:∀h:Int,0<=h->h<(qs.length:Int)->aE (tU qs) h∈tU qs:=λh h0 h1=>by
  have hh:h.toNat<(tU qs).length:=by left
  unfold aE;rw[List.getD_eq_getElem?_getD,List.getElem?_eq_getElem hh];exact Xz hh
 refine⟨hl,hs,λh h0 h1=>P0.lo _ (mem h h0 h1),λh h0 h1=>P0.hi _ (mem h h0 h1),?_⟩;have e:=CK (tU qs);rw[hl]at e;unfold sZ;rw[e];exact iM c es
theorem Ed{n s:Nat}{p:aa}{u:Int}{r:List (aa×Int)}(t:Tr n s p u r):Tk n s p u->∀z∈r,1<=z.2:=by
 induction t with
 |nil=>intro _ z hz;cases hz
 | @cons p u x r hu hw t ih =>
  intro T z hz;obtain⟨S,BB⟩:=Sel.canon (p:=p) T.sn;rcases List.mem_cons.mp hz with rfl|hz
  ·have:=(T.wJ hu S BB hw).1;show 1<=x;left
  ·exact ih (T.next hu S BB hw) z hz
variable {ks:aq}
theorem qm(w:aa->Int){c:aa}(h:c∈ks):fK ks (ks.map w) c=w c:=by
 unfold fK;rw[iY,if_pos h];rfl
def MA(m:aD):Prop:=∀f qs B (s:Nat) r,l9 7 qs B->qs.sum=((s:Int):Rat)->s<=qs.length->Tr qs.length s (tU qs) (bD qs) r->r.length<=qs.length->m [.lst f (a_ qs)]=ok (.tup [.int qs.length,.lst .ow (iE (CN (bD qs) r))])
theorem OC(Φ:aU)(P:z0 Φ)(h9:dG (Φ 9))(GX:gw (Φ 10))(VC:DV (Φ 18))(QD:sJ (Φ 25))(Vy:DW (Φ 26))(QB:HW (Φ 31))(QA:HV (Φ 32))(ql:Φ 1001=lR):MA (mk Φ 1 8 Cn):=by
 intro f qs B s r I es hs t hr;have N1:=I.le (k:=12) (by decide);have PR:=N1.EC (WV _);obtain⟨a1,a2,a3⟩:=N1.bot (WV _);have T:=I.tk (by decide) es hs;have VX:=λf=>Vy f qs B N1;have VY:=λf=>QD f qs B s N1 es;have e9:=λf=>h9 f qs 4 PR;have Q5:∀f,Φ 10 [.lst f (a_ qs),.int (bD qs)]=ok (.lst .ow (af (tU qs))):=λf=>GX f qs 4 (bD qs) PR PR.KC;have n1:=I.n1;have n2:=I.n2;have tp:=Ed t T;generalize tU qs=p0 at *;generalize bD qs=b at *;obtain⟨p',d6,d7,ew⟩:=Am Φ P QB QA ql (by left) (by left) (some (.lst f (a_ qs))) (some (.int b)) t [] (λ_=>0) none none T (by simp;left) (λ_ _=>rfl);have K:=CQ r [] (λ_=>0) tp ⟨Yy,λ_ _=>rfl,λ_ h=>nomatch h⟩;have hl:=j_ r [];have n3:Φ 1030 []=ok (s9 .ow [] λ_=>0):=by rw[P.yU];rfl
 have o2:aS bW (s9 .ow [] λ_=>0)=false:=BK _ _ _ _;rw[List.length_nil]at hl;have Q4:=λf=>VC f qs.length (mH r []) ((mH r []).map (pd r λ_=>0)) b (by simp) (by left) (by left) (gj (by left));have ed:∀f,D.cE f (mH r []) (af ((mH r []).map (pd r λ_=>0)))=s9 f (mH r []) (pd r λ_=>0):=λf=>by
  unfold s9 af;rw[List.map_map];rfl
 have er:sj (mH r []) ((mH r []).map (pd r λ_=>0)) b=CN b r:=by
  unfold sj CN;have hp:(bw (mH r [])).Perm (mH r []):=Xg _ _;rw[List.filter_eq_self.mpr λl hl=>decide_eq_true (by rw[qm _ (hp.mem_iff.mp hl)];have:=K.wx l (hp.mem_iff.mp hl);left)];refine W5 λl hl=>?_;rw[qm _ (hp.mem_iff.mp hl)];rfl
 rw[er]at Q4;simp only[ed]at Q4;simp[mk_eq,Cn,VX,e9,Q5,VY,n3,o2,ew,t5,Q4]
theorem xI(h0:0<W){x y:Int}:qW W x<qW W y ↔ x<y:=by
 have e:∀x y:Int,x<y->qW W x<qW W y:=λx y h=>by
  unfold qW;rw[Rat.divInt_eq_div,Rat.divInt_eq_div,Rat.div_def,Rat.div_def];exact XG (Rat.intCast_lt_intCast.mpr h) (Rat.inv_pos.mpr (uW h0))
 constructor
 ·intro h;by_cases z:x<y
  ·exact z
  ·rcases Int.lt_or_eq_of_le (show y<=x by left)with h'|h'
   ·have:=e _ _ h';grind
   ·rw[h']at h;grind
 ·exact e _ _
noncomputable def vy:Int->aa->Int
 |a,[]=>a
 |a,x::xs=>vy (if x<a then x else a) xs
theorem nV:∀(xs:aa) (a:Int),vy a xs<=a/\(∀x∈xs,vy a xs<=x)/\(vy a xs=a\/vy a xs∈xs)
 |[],a=>⟨Xm _,(λ_ h=>nomatch h),.inl rfl⟩
 |x::xs,a=>by
  obtain⟨h1,h2,h3⟩:=nV xs (if x<a then x else a);rw[vy];generalize vy (if x<a then x else a) xs=m at *;refine⟨by split at h1<;>left,λy hy=>?_,?_⟩
  ·rcases List.mem_cons.mp hy with rfl|hy
   ·split at h1<;>left
   ·exact h2 y hy
  ·rcases h3 with h3|h3
   ·split at h3
    ·exact .inr (by rw[h3];exact WR)
    ·exact .inl h3
   ·exact .inr (WT _ h3)
noncomputable def Aq:aj:=[.ifs (.call 223 [(.v 3),(.v 2)]) [.asg (.nm 2) (.v 3)] []]
def Cp:aj:=[.asg (.nm 2) (.v 1),.fr (.nm 3) (.seq (.v 0)) Aq,.ret (.v 2)]
def Bd(x:Int):Prop:=-100<=x/\x<=100
theorem fT{x:Int}(h0:0<W)(h9:W<=9)(h:Bd x):Sm 4000 (qW W x):=(Jx h0 h9 h.1 h.2).mono (by decide)
theorem t6(Φ:aU)(iW:fP (Φ 223)){W:Int}(h0:0<W)(h9:W<=9)(c0 c1:aK):∀(xs:aa) (a:Int) (c3:aK),(∀x∈xs,Bd x)->Bd a ->
  ∃Q_,eM (λd ρ=>cm (.nm 3) d ρ) (λρ=>bC Φ Aq ρ) (a_ (toQ W xs)) [c0,c1,some (qD (qW W a)),c3]=ok (.nx,[c0,c1,some (qD (qW W (vy a xs))),Q_])
 |[],a,c3,_,_=>⟨c3,rfl⟩
 |x::xs,a,c3,hx,ha=>by
  have bx:=hx x WR;obtain⟨Q_,ih⟩:=t6 Φ iW h0 h9 c0 c1 xs (if x<a then x else a) (some (qD (qW W x))) (λy hy=>hx y (WT _ hy)) (by split<;>assumption);have e:=iW (qW W x) (qW W a) (fT h0 h9 bx) (fT h0 h9 ha);rw[show decide (qW W x<qW W a)=decide (x<a) from decide_eq_decide.mpr (xI h0)]at e;refine⟨Q_,?_⟩;show eM _ _ (qD (qW W x)::a_ (toQ W xs)) _=_;refine fM (ρ1:=[c0,c1,some (qD (qW W a)),some (qD (qW W x))]) (by simp) (ρ2:=[c0,c1,some (qD (qW W (if x<a then x else a))),some (qD (qW W x))]) ?_ ih;by_cases c:x<a<;>simp[Aq,e,c]
def MB(m:aD):Prop:=∀(W:Int) xs a,0<W->W<=9->xs.length<=12->(∀x∈xs,Bd x)->Bd a->m [.lst .fz (a_ (toQ W xs)),qD (qW W a)]=ok (qD (qW W (vy a xs)))
theorem OE(Φ:aU)(iW:fP (Φ 223)):MB (mk Φ 2 4 Cp):=by
 intro W xs a h0 h9 hl hx ha;obtain⟨c3,el⟩:=t6 Φ iW h0 h9 (some (.lst .fz (a_ (toQ W xs)))) (some (qD (qW W a))) xs a none hx ha;have hit:fF Φ (.seq (.v 0)) [some (.lst .fz (a_ (toQ W xs))),some (qD (qW W a)),some (qD (qW W a)),none]=ok (a_ (toQ W xs),[some (.lst .fz (a_ (toQ W xs))),some (qD (qW W a)),some (qD (qW W a)),none]):=by
  rw[Bu (f:=.fz) (ds:=a_ (toQ W xs)) (by simp)];simp
 have hf:=iG (Φ:=Φ) (t:=.nm 3) (b:=Aq) hit el;simp[mk_eq,Cp,hf]
theorem iN(W:Int){p:aa}{h:Int}(h0:0<=h)(h1:h<(p.length:Int)):ni (a_ (toQ W p)) h=ok (qD (qW W (aE p h))):=by
 have:=Ef W (p:=p) (i:=h.toNat) (by left);rw[show((h.toNat:Nat):Int)=h by left]at this;exact this
noncomputable def sY:aj:=[.ifs (.call 223 [(.ix (.v 2) (.v 9)),(.ix (.v 2) (.v 10))]) [.asg (.nm 9) (.v 10)] []]
theorem qF(Φ:aU)(iW:fP (Φ 223)){W:Int}(h0:0<W)(h9:W<=9){p:aa}(hp:∀h:Int,0<=h->h<(p.length:Int)->Bd (aE p h))(c0 c1 c3 c4 c5 c6 c7 c8 dP:aK):∀(xs:aa) (b:Int) (da:aK),(∀x∈xs,0<=x/\x<(p.length:Int))->0<=b/\b<(p.length:Int) ->
  ∃dW,eM (λd ρ=>cm (.nm 10) d ρ) (λρ=>bC Φ sY ρ) (af xs) [c0,c1,some (.lst .ow (a_ (toQ W p))),c3,c4,c5,c6,c7,c8,some (.int b),da,dP]=ok (.nx,[c0,c1,some (.lst .ow (a_ (toQ W p))),c3,c4,c5,c6,c7,c8,some (.int (cz p b xs)),dW,dP])
 |[],b,da,_,_=>⟨da,rfl⟩
 |x::xs,b,da,hx,hb=>by
  obtain⟨x0,x1⟩:=hx x WR;obtain⟨dW,ih⟩:=qF Φ iW h0 h9 hp c0 c1 c3 c4 c5 c6 c7 c8 dP xs (if aE p b<aE p x then x else b) (some (.int x)) (λy hy=>hx y (WT _ hy)) (by split<;>first|exact⟨x0,x1⟩|exact hb);have e:=iW (qW W (aE p b)) (qW W (aE p x)) (fT h0 h9 (hp b hb.1 hb.2)) (fT h0 h9 (hp x x0 x1));rw[show decide (qW W (aE p b)<qW W (aE p x))=decide (aE p b<aE p x) from decide_eq_decide.mpr (xI h0)]at e;have d1:=iN W hb.1 hb.2;have d2:=iN W x0 x1;refine⟨dW,?_⟩;rw[il,cz];refine fM (ρ1:=[c0,c1,some (.lst .ow (a_ (toQ W p))),c3,c4,c5,c6,c7,c8,some (.int b),some (.int x),dP]) (by simp) (ρ2:=[c0,c1,some (.lst .ow (a_ (toQ W p))),c3,c4,c5,c6,c7,c8,some (.int (if aE p b<aE p x then x else b)),some (.int x),dP]) ?_ ih;by_cases c:aE p b<aE p x<;>simp[sY,d1,d2,e,c]
noncomputable def uB:CE:=.comp 1 (.nm 0) [9] .seq [(.v 6)] [(.cmp .ne (.v 0) (.v 1))] (.v 0)
def mI:aj:=[.asg (.nm 9) (.ix (.v 6) (.int 0)),.fr (.nm 10) (.seq (.v 6)) sY,.app 7 (.v 9),.asg (.nm 6) uB]
theorem zi(Φ:aU)(f:Fl)(rest:aa)(b:Int)(hl:rest.length<=12)(c0 c1 c2 c3 c4 c5 c7 c8 da dP:aK):bg Φ uB [c0,c1,c2,c3,c4,c5,some (.lst f (af rest)),c7,c8,some (.int b),da,dP]=ok (.lst .ow (af (rest.filter λh=>decide (h≠b)))):=by
 unfold uB;rw[dD (xs:=[.lst (bH f) (af rest)]) (items:=rest.map D.int) (ds:=(rest.filter λh=>decide (h≠b)).map λh=>D.int h) (by simp) (by rw[dU,cu];rfl) (eQ λh hh=>⟨[some (.int h),some (.int b)],by simp[bE],by simp,λ_=>by simp⟩) (by
  have:=List.length_filter_le (λh=>decide (h≠b)) rest;rw[List.length_map];exact cP (by left))]
 show ok (D.lst .ow (aG _ (af (rest.filter λh=>decide (h≠b)))))=_;rw[cu]
theorem xu(Φ:aU)(iW:fP (Φ 223))(h0:0<W)(h9:W<=9){p:aa}{n:Nat}(hn:p.length=n)(vU:n<=12)(hp:∀h:Int,0<=h->h<(p.length:Int)->Bd (aE p h)){lot l:aa}{r0:Int}(S:Sel n p lot (r0::l))(c0 c1 c3 c4 c5 c8 c9 da dP:aK):
  ∃dW,bC Φ mI [c0,c1,some (.lst .ow (a_ (toQ W p))),c3,c4,c5,some (.lst .ow (af (r0::l))),some (.lst .ow (af lot)),c8,c9,da,dP]=ok (.nx,[c0,c1,some (.lst .ow (a_ (toQ W p))),c3,c4,c5,some (.lst .ow (af ((r0::l).filter λh=>decide (h≠cz p r0 (r0::l))))),some (.lst .ow (af (lot++[cz p r0 (r0::l)]))),c8,some (.int (cz p r0 (r0::l))),dW,dP]):=by
 have mem:∀x∈r0::l,0<=x/\x<(p.length:Int):=λx hx=>by rw[hn];exact cQ (S.perm.mem_iff.mp (WW _ hx))
 have hlen:=S.len;rw[List.length_cons]at hlen;obtain⟨dW,el⟩:=qF Φ iW h0 h9 hp c0 c1 c3 c4 c5 (some (.lst .fz (af (r0::l)))) (some (.lst .ow (af lot))) c8 dP (r0::l) r0 da mem (mem r0 WR);have hit:fF Φ (.seq (.v 6)) [c0,c1,some (.lst .ow (a_ (toQ W p))),c3,c4,c5,some (.lst .ow (af (r0::l))),some (.lst .ow (af lot)),c8,some (.int r0),da,dP]=ok (af (r0::l),[c0,c1,some (.lst .ow (a_ (toQ W p))),c3,c4,c5,some (.lst .fz (af (r0::l))),some (.lst .ow (af lot)),c8,some (.int r0),da,dP]):=by
  rw[Bu (f:=.al) (ds:=af (r0::l)) (by simp)];simp[fL]
 have hf:=iG (Φ:=Φ) (t:=.nm 10) (b:=sY) hit el;have es:=λc7=>zi Φ .fz (r0::l) (cz p r0 (r0::l)) (by simp;left) c0 c1 (some (.lst .ow (a_ (toQ W p)))) c3 c4 c5 c7 c8 dW dP;refine⟨dW,?_⟩;have hd:ni (af (r0::l)) 0=ok (.int r0):=by rw[il,Rb];rfl
 have hc:lot.length<eK:=by show _<1000000;left
 generalize cz p r0 (r0::l)=b at *;generalize r0::l=rest at *;simp[mI,hd,hf,hc,KI Φ uB _ rfl,es]
theorem pN(Φ:aU)(iW:fP (Φ 223)){W:Int}(h0:0<W)(h9:W<=9){p:aa}{n:Nat}(hn:p.length=n)(vU:n<=12)(hp:∀h:Int,0<=h->h<(p.length:Int)->Bd (aE p h))(c0 c1 c3 c4 c5 dP:aK):∀(k j:Nat) (lot rest:aa) (c8 c9 da:aK),Sel n p lot rest->lot.length+k<=n ->
  ∃cC kX HG zB dW,eM (λd ρ=>cm (.nm 8) d ρ) (λρ=>bC Φ mI ρ) ((List.range' j k).map λ(i:Nat)=>D.int (i:Int)) [c0,c1,some (.lst .ow (a_ (toQ W p))),c3,c4,c5,some (.lst .ow (af rest)),some (.lst .ow (af lot)),c8,c9,da,dP]=ok (.nx,[c0,c1,some (.lst .ow (a_ (toQ W p))),c3,c4,c5,some (.lst .ow (af kX)),some (.lst .ow (af cC)),HG,zB,dW,dP])/\Sel n p cC kX/\cC.length=lot.length+k
 |0,j,lot,rest,c8,c9,da,S,_=>⟨lot,rest,c8,c9,da,rfl,S,rfl⟩
 |k+1,j,lot,rest,c8,c9,da,S,hl=>by
  cases rest with
  |nil=>have:=S.len;simp at this;left
  |cons r0 l =>
   obtain⟨dW,e1⟩:=xu Φ iW h0 h9 hn vU hp S c0 c1 c3 c4 c5 (some (.int j)) c9 da dP;obtain⟨cC,kX,d8,d9,DK,ih,S',l'⟩:=pN Φ iW h0 h9 hn vU hp c0 c1 c3 c4 c5 dP k (j+1) _ _ (some (.int j)) (some (.int (cz p r0 (r0::l)))) dW S.step (by simp;left);refine⟨cC,kX,d8,d9,DK,?_,S',by simp at l';left⟩;rw[List.range'_succ,List.map_cons];exact fM (ρ1:=[c0,c1,some (.lst .ow (a_ (toQ W p))),c3,c4,c5,some (.lst .ow (af (r0::l))),some (.lst .ow (af lot)),some (.int j),c9,da,dP]) (by simp) e1 ih
theorem Sel.xD{n:Nat}{p lot rest:aa}(S:Sel n p lot rest)(x:Int):x∈nJ n p lot.length ↔ x∈rest:=by
 have hc:=iS S.perm S.ah;have nd:(lot++rest).Nodup:=S.perm.nodup_iff.mpr (eV n);have n3:=(List.nodup_append.mp nd).2.2;unfold nJ;rw[List.mem_filter];constructor
 ·rintro ⟨h1,h2⟩;have h2:=WO h2;rcases List.mem_append.mp (S.perm.mem_iff.mpr h1)with m|m
  ·exact absurd ((hc x).mpr m) h2
  ·exact m
 ·intro h;exact⟨S.perm.mem_iff.mp (WW _ h),Xc λz=>n3 x ((hc x).mp z) x h rfl⟩
variable {cC:aa}
theorem z6{p lot rest kX:aa}{u:Int}(h:zQ p lot rest u w)(h1:∀x,x∈cC ↔ x∈lot)(h2:∀x,x∈kX ↔ x∈rest):zQ p cC kX u w:=by
 obtain⟨a,b,c⟩:=h;refine⟨λx hx=>a x ((h1 x).mp hx),λx hx=>b x ((h2 x).mp hx),?_⟩;rcases c with ⟨x,hx,e⟩|⟨x,hx,e⟩
 ·exact .inl ⟨x,(h1 x).mpr hx,e⟩
 ·exact .inr ⟨x,(h2 x).mpr hx,e⟩
theorem Au{p lot:aa}(h:∀x,x∈cC ↔ x∈lot):du p cC w=du p lot w:=by
 unfold du;refine W5 λx _=>?_;by_cases c:x∈lot
 ·rw[if_pos c,if_pos ((h x).mpr c)]
 ·rw[if_neg c,if_neg λz=>c ((h x).mp z)]
def FU(p lot rest:aa)(u:Int):Int:=vy (vy u (lot.map (aE p))) (rest.map λh=>u - aE p h)
theorem FT{n s:Nat}{p:aa}{u:Int}(T:Tk n s p u)(n1:1<=n){lot rest:aa}(S:Sel n p lot rest):zQ p lot rest u (FU p lot rest u):=by
 obtain⟨a1,a2,a3⟩:=nV (lot.map (aE p)) u;obtain⟨b1,b2,b3⟩:=nV (rest.map λh=>u - aE p h) (vy u (lot.map (aE p)));have mem:∀x,x∈lot++rest->0<=x/\x<(n:Int):=λx hx=>cQ (S.perm.mem_iff.mp hx);have c1:∀h∈lot,FU p lot rest u<=aE p h:=λh hh=>Int.le_trans b1 (a2 _ (Yw hh));have c2:∀h∈rest,FU p lot rest u<=u - aE p h:=λh hh=>b2 _ (List.mem_map.mpr ⟨h,hh,rfl⟩);refine⟨c1,c2,?_⟩;unfold FU at *;rcases b3 with b3|b3
 ·rcases a3 with a3|a3
  ·have hl:=S.len;cases lot with
   |cons x l =>
    refine .inl ⟨x,WR,?_⟩;obtain⟨m0,m1⟩:=mem x (by simp);have:=T.hi x m0 m1;have:=c1 x WR;have:=a2 (aE p x) (Yw WR);left
   |nil =>
    cases rest with
    |nil=>simp at hl;left
    |cons x l =>
     refine .inr ⟨x,WR,?_⟩;obtain⟨m0,m1⟩:=mem x (by simp);have:=T.lo x m0 m1;have:=c2 x WR;left
  ·obtain⟨h,hh,e⟩:=List.mem_map.mp a3;exact .inl ⟨h,hh,by rw[b3,<- e]⟩
 ·obtain⟨h,hh,e⟩:=List.mem_map.mp b3;exact .inr ⟨h,hh,e.symm⟩
def mi(w:Int):aa->aa->aa
 |[],p=>p
 |h::l,p=>mi w l (p.set h.toNat (aE p h - w))
theorem pI(w:Int):∀(l p:aa),(mi w l p).length=p.length
 |[],_=>rfl
 |h::l,p=>by rw[mi,pI w l,List.length_set]
theorem tH(w:Int){h:Int}(h0:0<=h):∀(l p:aa),(∀x∈l,0<=x/\x<(p.length:Int))->l.Nodup->aE (mi w l p) h=if h∈l then aE p h - w else aE p h
 |[],p,_,_=>by simp[mi]
 |x::l,p,hl,nd=>by
  obtain⟨x0,x1⟩:=hl x WR;obtain⟨n1,n2⟩:=List.nodup_cons.mp nd;rw[mi,tH w h0 l _ (λy hy=>by rw[List.length_set];exact hl y (List.mem_cons_of_mem _ hy)) n2];have hx:x.toNat<p.length:=by left
  by_cases e:h=x
  ·subst e;rw[if_neg n1,if_pos List.mem_cons_self];unfold aE;rw[List.getD_eq_getElem?_getD,List.getElem?_set_self hx];rfl
  ·have ne:x.toNat≠h.toNat:=by left
   have e':aE (p.set x.toNat (aE p x - w)) h=aE p h:=by
    unfold aE;rw[List.getD_eq_getElem?_getD,List.getElem?_set_ne ne,<- List.getD_eq_getElem?_getD]
   rw[e'];by_cases c:h∈l
   ·rw[if_pos c,if_pos (List.mem_cons_of_mem _ c)]
   ·rw[if_neg c,if_neg λz=>(List.mem_cons.mp z).elim e c]
theorem xq(w:Int){l p:aa}(hl:∀x∈l,0<=x/\x<(p.length:Int))(nd:l.Nodup):mi w l p=du p l w:=by
 have e1:=CK (mi w l p);rw[<- e1,pI];unfold du;refine W5 λh hh=>?_;exact tH w (cQ hh).1 l p hl nd
noncomputable def sX:aj:=[.setI 2 (.v 10) (.call 222 [(.ix (.v 2) (.v 10)),(.v 11)])]
theorem pW(Φ:aU)(vT:sL (Φ 222)){W:Int}(h0:0<W)(h9:W<=9){w:Int}(hw:Bd w)(c0 c1 c3 c4 c5 c6 c7 c8 c9:aK):∀(l p:aa) (da:aK),(∀x∈l,0<=x/\x<(p.length:Int))->l.Nodup->(∀x∈l,Bd (aE p x)) ->
  ∃dW,eM (λd ρ=>cm (.nm 10) d ρ) (λρ=>bC Φ sX ρ) (af l) [c0,c1,some (.lst .ow (a_ (toQ W p))),c3,c4,c5,c6,c7,c8,c9,da,some (qD (qW W w))]=ok (.nx,[c0,c1,some (.lst .ow (a_ (toQ W (mi w l p)))),c3,c4,c5,c6,c7,c8,c9,dW,some (qD (qW W w))])
 |[],p,da,_,_,_=>⟨da,rfl⟩
 |x::l,p,da,hl,nd,hb=>by
  obtain⟨x0,x1⟩:=hl x WR;obtain⟨n1,n2⟩:=List.nodup_cons.mp nd;obtain⟨dW,ih⟩:=pW Φ vT h0 h9 hw c0 c1 c3 c4 c5 c6 c7 c8 c9 l (p.set x.toNat (aE p x - w)) (some (.int x)) (λy hy=>by rw[List.length_set];exact hl y (WT _ hy)) n2 (λy hy=>by
   have ne:x.toNat≠y.toNat:=λe=>by
    have:=(hl y (WT _ hy)).1;have:x=y:=by left
    exact n1 (this▸hy)
   have e':aE (p.set x.toNat (aE p x - w)) y=aE p y:=by
    unfold aE;rw[List.getD_eq_getElem?_getD,List.getElem?_set_ne ne,<- List.getD_eq_getElem?_getD]
   rw[e'];exact hb y (WT _ hy))
  have d1:=iN W x0 x1;have e1:=vT (qW W (aE p x)) (qW W w) (fT h0 h9 (hb x WR)) (fT h0 h9 hw);rw[rA h0]at e1;have hx:=wI (Φ:=Φ) (i:=2) (j:=x.toNat) (k:=.v 10) (e:=.call 222 [(.ix (.v 2) (.v 10)),(.v 11)]) (ρ:=[c0,c1,some (.lst .ow (a_ (toQ W p))),c3,c4,c5,c6,c7,c8,c9,some (.int x),some (qD (qW W w))]) (ρ':=[c0,c1,some (.lst .ow (a_ (toQ W p))),c3,c4,c5,c6,c7,c8,c9,some (.int x),some (qD (qW W w))]) (d:=qD (qW W (aE p x - w))) (z:=x) (ds:=a_ (toQ W p)) (by simp[d1,e1]) (by simp) rfl (by
   have:(a_ (toQ W p)).length=p.length:=by simp
   rw[yy (by left) (by rw[this];left)])
  rw[AN,Al]at hx;simp only[List.set]at hx;refine⟨dW,?_⟩;rw[il,mi];refine fM (ρ1:=[c0,c1,some (.lst .ow (a_ (toQ W p))),c3,c4,c5,c6,c7,c8,c9,some (.int x),some (qD (qW W w))]) (by simp) (ρ2:=[c0,c1,some (.lst .ow (a_ (toQ W (p.set x.toNat (aE p x - w))))),c3,c4,c5,c6,c7,c8,c9,some (.int x),some (qD (qW W w))]) ?_ ih;rw[sX,g_,hx];simp
def Ec:aj:=[.asg (.nm 6) (.bX 1041 [(.bf .len [(.v 0)])]),.asg (.nm 7) (.lst []),.fr (.nm 8) (.kW (.v 1)) mI]
noncomputable def Hu:CE:=.comp 1 (.nm 0) [2] .seq [(.v 7)] [] (.ix (.v 1) (.v 0))
noncomputable def Ht:CE:=.comp 1 (.nm 0) [3,2] .seq [(.v 6)] [] (.call 222 [(.v 1),(.ix (.v 2) (.v 0))])
def Eb:aj:=[.asg (.nm 11) (.call 225 [Hu,(.v 3)]),.asg (.nm 11) (.call 225 [Ht,(.v 11)])]
def Ea:aj:=[.fr (.nm 10) (.seq (.v 7)) sX,.asg (.nm 3) (.call 222 [(.v 3),(.v 11)])]
noncomputable def D_:aj:=[.asg (.nm 7) (.bf .tuple1 [(.bf .dr [(.v 7)])]),.mut 1033 4 [(.call 202 [(.bX 1031 [(.v 4),(.v 7),(.tup [(.int 0),(.int 1)])]),(.v 11)]),(.v 7)]]
def Ei:aj:=Ec++(Eb++(Ea++D_))
structure sM(Φ:aU):Prop where
 P:z0 Φ
 QG:DT (Φ 202)
 vT:sL (Φ 222)
 iW:fP (Φ 223)
 LO:MB (Φ 225)
 LQ:Φ 1041=Kx
theorem Q9(Φ:aU)(Q:sM Φ)(h0:0<W)(h9:W<=9){n s:Nat}{p:aa}{u:Int}(T:Tk n s p u)(hu:u<=9)(vU:n<=12)(hq:qs.length=n)(c3 c4 c5 c6 c7 c8 c9 da dP:aK):
  ∃lot rest HG zB dW,bC Φ Ec [some (.lst .fz (a_ qs)),some (.int s),some (.lst .ow (a_ (toQ W p))),c3,c4,c5,c6,c7,c8,c9,da,dP]=ok (.nx,[some (.lst .fz (a_ qs)),some (.int s),some (.lst .ow (a_ (toQ W p))),c3,c4,c5,some (.lst .ow (af rest)),some (.lst .ow (af lot)),HG,zB,dW,dP])/\Sel n p lot rest/\lot.length=s:=by
 have hp:∀h:Int,0<=h->h<(p.length:Int)->Bd (aE p h):=λh a b=>by
  rw[T.len]at b;have:=T.lo h a b;have:=T.hi h a b;exact⟨by left,by left⟩
 have sn:=T.sn;obtain⟨lot,rest,d8,d9,DK,el,S,hl⟩:=pN Φ Q.iW h0 h9 T.len vU hp (some (.lst .fz (a_ qs))) (some (.int s)) c3 c4 c5 dP s 0 [] (f6 n) c8 c9 da (Sel.zero n p) (by simpa using sn);have hit:=Bt (Φ:=Φ) (a:=.v 1) (ρ:=[some (.lst .fz (a_ qs)),some (.int s),some (.lst .ow (a_ (toQ W p))),c3,c4,c5,some (.lst .ow (af (f6 n))),some (.lst .ow (af [])),c8,c9,da,dP]) (n:=s) (by simp) (by left) (by left);rw[Int.toNat_natCast,List.range_eq_range']at hit;have hf:=iG (Φ:=Φ) (t:=.nm 8) (b:=mI) hit el;have e1:Φ 1041 [.int n]=ok (.lst .ow (af (f6 n))):=by
  rw[Q.LQ];show(if (n:Int)<=eK /\ -eK<=(n:Int)then ok (D.lst .ow ((Ah n).map D.int))else none)=_;have:(eK:Int)=1000000:=rfl;rw[if_pos (by left)];rfl
 refine⟨lot,rest,d8,d9,DK,?_,S,by simpa using hl⟩;have Iv:lN Φ (.fr (.nm 8) (.kW (.v 1)) mI) [some (.lst .fz (a_ qs)),some (.int s),some (.lst .ow (a_ (toQ W p))),c3,c4,c5,some (.lst .ow (af (f6 n))),some (.lst .ow []),c8,c9,da,dP]=_:=hf;generalize f6 n=U at *;simp[Ec,hq,e1,Iv]
theorem Q8(Φ:aU)(Q:sM Φ)(h0:0<W)(h9:W<=9){n s:Nat}{p:aa}{u:Int}(T:Tk n s p u)(cZ:0<u)(hu:u<=9)(vU:n<=12){lot rest:aa}(S:Sel n p lot rest)(c0 c1 c4 c5 c8 c9 da dP:aK):
  bC Φ Eb [c0,c1,some (.lst .ow (a_ (toQ W p))),some (qD (qW W u)),c4,c5,some (.lst .ow (af rest)),some (.lst .ow (af lot)),c8,c9,da,dP]=ok (.nx,[c0,c1,some (.lst .ow (a_ (toQ W p))),some (qD (qW W u)),c4,c5,some (.lst .ow (af rest)),some (.lst .ow (af lot)),c8,c9,da,some (qD (qW W (FU p lot rest u)))]):=by
 have mem:∀x,x∈lot++rest->0<=x/\x<(p.length:Int):=λx hx=>by rw[T.len];exact cQ (S.perm.mem_iff.mp hx)
 have bd:∀x,x∈lot++rest->0<=aE p x/\aE p x<=u:=λx hx=>by
  obtain⟨a,b⟩:=mem x hx;rw[T.len]at b;exact⟨T.lo x a b,T.hi x a b⟩
 have hlen:=S.len;have e1:∀dP,bg Φ Hu [c0,c1,some (.lst .ow (a_ (toQ W p))),some (qD (qW W u)),c4,c5,some (.lst .ow (af rest)),some (.lst .ow (af lot)),c8,c9,da,dP]=ok (.lst .ow (a_ (toQ W (lot.map (aE p))))):=λdP=>by
  unfold Hu;rw[dD (xs:=[.lst .al (af lot)]) (items:=lot.map D.int) (ds:=lot.map λh=>qD (qW W (aE p h))) (by simp) (by rw[dU,cu];rfl) (cN λh hh=>⟨[some (.int h),some (.lst .fz (a_ (toQ W p)))],by simp[bE],by simp,by
   obtain⟨a,b⟩:=mem h (List.mem_append_left _ hh);simp[iN W a b]⟩) (by rw[List.length_map];exact cP (by left))]
  have:(lot.map λh=>qD (qW W (aE p h)))=a_ (toQ W (lot.map (aE p))):=by unfold a_ toQ;rw[List.map_map,List.map_map];rfl
  rw[this];simp
 have e2:∀dP,bg Φ Ht [c0,c1,some (.lst .ow (a_ (toQ W p))),some (qD (qW W u)),c4,c5,some (.lst .ow (af rest)),some (.lst .ow (af lot)),c8,c9,da,dP]=ok (.lst .ow (a_ (toQ W (rest.map λh=>u - aE p h)))):=λdP=>by
  unfold Ht;rw[dD (xs:=[.lst .al (af rest)]) (items:=rest.map D.int) (ds:=rest.map λh=>qD (qW W (u - aE p h))) (by simp) (by rw[dU,cu];rfl) (cN λh hh=>⟨[some (.int h),some (qD (qW W u)),some (.lst .fz (a_ (toQ W p)))],by simp[bE],by simp,by
   obtain⟨a,b⟩:=mem h (List.mem_append_right _ hh);obtain⟨b1,b2⟩:=bd h (List.mem_append_right _ hh);have e:=Q.vT (qW W u) (qW W (aE p h)) (fT h0 h9 ⟨by left,by left⟩) (fT h0 h9 ⟨by left,by left⟩);rw[rA h0]at e;simp[iN W a b,e]⟩) (by rw[List.length_map];exact cP (by left))]
  have:(rest.map λh=>qD (qW W (u - aE p h)))=a_ (toQ W (rest.map λh=>u - aE p h)):=by unfold a_ toQ;rw[List.map_map,List.map_map];rfl
  rw[this];simp
 have b1:∀x∈lot.map (aE p),Bd x:=λx hx=>by
  obtain⟨h,hh,rfl⟩:=List.mem_map.mp hx;have:=bd h (W0 _ hh);exact⟨by left,by left⟩
 have b2:∀x∈rest.map (λh=>u - aE p h),Bd x:=λx hx=>by
  obtain⟨h,hh,rfl⟩:=List.mem_map.mp hx;have:=bd h (WW _ hh);exact⟨by left,by left⟩
 have f1:=Q.LO W (lot.map (aE p)) u h0 h9 (by rw[List.length_map];left) b1 ⟨by left,by left⟩;have b3:Bd (vy u (lot.map (aE p))):=by
  obtain⟨a1,a2,a3⟩:=nV (lot.map (aE p)) u;rcases a3 with a3|a3
  ·rw[a3];exact⟨by left,by left⟩
  ·exact b1 _ a3
 have f2:=Q.LO W (rest.map λh=>u - aE p h) _ h0 h9 (by rw[List.length_map];left) b2 b3;unfold FU;simp[Eb,e1,f1,e2,f2]
theorem Q7(Φ:aU)(Q:sM Φ)(h0:0<W)(h9:W<=9){n s:Nat}{p:aa}{u:Int}(T:Tk n s p u)(cZ:0<u)(hu:u<=9){lot rest:aa}(S:Sel n p lot rest){x:Int}(hx:Bd x)(c0 c1 c4 c5 c8 c9 da:aK):
  ∃dW,bC Φ Ea [c0,c1,some (.lst .ow (a_ (toQ W p))),some (qD (qW W u)),c4,c5,some (.lst .ow (af rest)),some (.lst .ow (af lot)),c8,c9,da,some (qD (qW W x))]=ok (.nx,[c0,c1,some (.lst .ow (a_ (toQ W (du p lot x)))),some (qD (qW W (u - x))),c4,c5,some (.lst .ow (af rest)),some (.lst .fz (af lot)),c8,c9,dW,some (qD (qW W x))]):=by
 have mem:∀x,x∈lot->0<=x/\x<(p.length:Int):=λx hx=>by rw[T.len];exact cQ (S.perm.mem_iff.mp (W0 _ hx))
 have nd:lot.Nodup:=(List.nodup_append.mp (S.perm.nodup_iff.mpr (eV n))).1;obtain⟨DK,el⟩:=pW Φ Q.vT h0 h9 hx c0 c1 (some (qD (qW W u))) c4 c5 (some (.lst .ow (af rest))) (some (.lst .fz (af lot))) c8 c9 lot p da mem nd (λx hx=>by
  obtain⟨a,b⟩:=mem x hx;rw[T.len]at b;have:=T.lo x a b;have:=T.hi x a b;exact⟨by left,by left⟩)
 rw[xq x mem nd]at el;have hit:fF Φ (.seq (.v 7)) [c0,c1,some (.lst .ow (a_ (toQ W p))),some (qD (qW W u)),c4,c5,some (.lst .ow (af rest)),some (.lst .ow (af lot)),c8,c9,da,some (qD (qW W x))]=ok (af lot,[c0,c1,some (.lst .ow (a_ (toQ W p))),some (qD (qW W u)),c4,c5,some (.lst .ow (af rest)),some (.lst .fz (af lot)),c8,c9,da,some (qD (qW W x))]):=by
  rw[Bu (f:=.al) (ds:=af lot) (by simp)];simp[fL]
 have hf:=iG (Φ:=Φ) (t:=.nm 10) (b:=sX) hit el;have e:=Q.vT (qW W u) (qW W x) (fT h0 h9 ⟨by left,by left⟩) (fT h0 h9 hx);rw[rA h0]at e;exact⟨DK,by simp[Ea,hf,e]⟩
theorem Q6(Φ:aU)(Q:sM Φ)(h0:0<W)(h9:W<=9){lot:aa}(hl:lot.length<64)(hs:sortI lot=cC){w:aa->Int}(hk:ks.length<900)(hS:∀k,k∉ks->w k=0)(hb:∀l,Bd (w l)){x:Int}(hx:Bd x)(c0 c1 c2 c3 c5 c6 c8 c9 da:aK):
  bC Φ D_ [c0,c1,c2,c3,some (tQ .ow ks λl=>qW W (w l)),c5,c6,some (.lst .fz (af lot)),c8,c9,da,some (qD (qW W x))]=ok (.nx,[c0,c1,c2,c3,some (tQ .ow (bc ks cC) λl=>qW W (cR w cC x l)),c5,c6,some (.tup (af cC)),c8,c9,da,some (qD (qW W x))]):=by
 have a3:=λf=>ux (f:=f) hl;rw[hs]at a3;have g1:∀f,Φ 1031 [tQ f ks λl=>qW W (w l),.tup (af cC),qD 0]=ok (qD (qW W (w cC))):=λf=>Jf Q.P (e:=qD) (lH anyF) f ks (λl=>qW W (w l)) 0 cC (λh=>by
  show qW W (w cC)=0;rw[hS cC h,xJ h0])
 have a1:=Q.QG (qW W (w cC)) (qW W x) (fT h0 h9 (hb cC)) (fT h0 h9 hx);rw[Fc h0]at a1;have g2:Φ 1033 [tQ .ow ks λl=>qW W (w l),qD (qW W (w cC+x)),.tup (af cC)]=ok (tQ .ow (bc ks cC) λl=>qW W (cR w cC x l)):=by
  have:=Jd Q.P (e:=qD) (lH anyF) (by left) (λl=>qW W (w l)) cC (qW W (w cC+x)) (ks:=ks);unfold tQ;rw[this];congr 2;refine W5 λk _=>?_;show qD (if k=cC then qW W (w cC+x)else qW W (w k))=qD (qW W (if k=cC then w k+x else w k));by_cases h:k=cC
  ·rw[if_pos h,if_pos h,h]
  ·rw[if_neg h,if_neg h]
 have x1:=qU (Φ:=Φ) (p:=1033) (i:=4) (es:=[(.call 202 [(.bX 1031 [(.v 4),(.v 7),(.tup [(.int 0),(.int 1)])]),(.v 11)]),(.v 7)]) (ρ:=[c0,c1,c2,c3,some (tQ .ow ks λl=>qW W (w l)),c5,c6,some (.tup (af cC)),c8,c9,da,some (qD (qW W x))]) (xs:=[qD (qW W (w cC+x)),.tup (af cC)]) (by simp[kf,tX,g1,a1]) (by simp) rfl g2;simp only[List.set]at x1;simp only[D_];rw[g_,sN];simp[a3];rw[x1];simp
theorem B4(Φ:aU)(Q:sM Φ)(h0:0<W)(h9:W<=9){n s:Nat}{p:aa}{u:Int}(T:Tk n s p u)(cZ:0<u)(hu:u<=9)(n1:1<=n)(vU:n<=12)(hq:qs.length=n){x:Int}(hw:zQ p (bZ n p s) (nJ n p s) u x){w:aa->Int}(hk:ks.length<900)(hS:∀k,k∉ks->w k=0)(hb:∀l,Bd (w l))(c5 c6 c7 c8 c9 da dP:aK):
  ∃Mq wg HG zB dW HH,bC Φ Ei [some (.lst .fz (a_ qs)),some (.int s),some (.lst .ow (a_ (toQ W p))),some (qD (qW W u)),some (tQ .ow ks λl=>qW W (w l)),c5,c6,c7,c8,c9,da,dP]=ok (.nx,[some (.lst .fz (a_ qs)),some (.int s),some (.lst .ow (a_ (toQ W (du p (bZ n p s) x)))),some (qD (qW W (u - x))),some (tQ .ow (bc ks (bZ n p s)) λl=>qW W (cR w (bZ n p s) x l)),c5,Mq,wg,HG,zB,dW,HH]):=by
 obtain⟨S0,BB⟩:=Sel.canon (p:=p) T.sn;obtain⟨x0,x1⟩:=T.wJ cZ S0 BB hw;obtain⟨lot,rest,d8,d9,DK,e1,S,hl⟩:=Q9 Φ Q h0 h9 T hu vU hq (some (qD (qW W u))) (some (tQ .ow ks λl=>qW W (w l))) c5 c6 c7 c8 c9 da dP;have e2:=Q8 Φ Q h0 h9 T cZ hu vU S (some (.lst .fz (a_ qs))) (some (.int s)) (some (tQ .ow ks λl=>qW W (w l))) c5 d8 d9 DK dP;have hc:=iS S.perm S.ah;have hr:=S.xD;have Dv:=S.lot.1;rw[hl]at hc hr Dv;have hm:FU p lot rest u=x:=sO (z6 (FT T n1 S) hc hr) hw;rw[hm]at e2;obtain⟨Mc,e3⟩:=Q7 Φ Q h0 h9 T cZ hu S (x:=x) ⟨by left,by left⟩ (some (.lst .fz (a_ qs))) (some (.int s)) (some (tQ .ow ks λl=>qW W (w l))) c5 d8 d9 DK;rw[<- Au (p:=p) (w:=x) hc]at e3;have WE:=S.len;have e4:=Q6 Φ Q h0 h9 (lot:=lot) (by left) Dv hk hS hb (x:=x) ⟨by left,by left⟩ (some (.lst .fz (a_ qs))) (some (.int s)) (some (.lst .ow (a_ (toQ W (du p (bZ n p s) x))))) (some (qD (qW W (u - x)))) c5 (some (.lst .ow (af rest))) d8 d9 Mc;refine⟨some (.lst .ow (af rest)),some (.tup (af (bZ n p s))),d8,d9,Mc,some (qD (qW W x)),?_⟩;rw[Ei,fw Φ _ _ _ _ e1,fw Φ _ _ _ _ e2,fw Φ _ _ _ _ e3];exact e4
def xa:aj:=[.ifs (.cmp .ne (.v 3) (.tup [(.int 0),(.int 1)])) Ei []]
theorem om(Φ:aU)(Q:sM Φ){W:Int}(h0:0<W)(h9:W<=9){n s:Nat}(n1:1<=n)(vU:n<=12){qs:aM}(hq:qs.length=n):∀(k j:Nat) (p:aa) (u:Int) (r:List (aa×Int)) (ks:aq) (w:aa->Int) (c5 c6 c7 c8 c9 da dP:aK),Tr n s p u r->Tk n s p u->u<=9->r.length<=k->ks.length+k<900->(∀l,l∉ks->w l=0)->(∀l,0<=w l/\w l+u<=9) ->
  ∃p' V5 Mq wg HG zB dW HH,eM (λd ρ=>cm (.nm 5) d ρ) (λρ=>bC Φ xa ρ) ((List.range' j k).map λ(i:Nat)=>D.int (i:Int)) [some (.lst .fz (a_ qs)),some (.int s),some (.lst .ow (a_ (toQ W p))),some (qD (qW W u)),some (tQ .ow ks λl=>qW W (w l)),c5,c6,c7,c8,c9,da,dP]=ok (.nx,[some (.lst .fz (a_ qs)),some (.int s),some (.lst .ow (a_ (toQ W p'))),some (qD 0),some (tQ .ow (mH r ks) λl=>qW W (pd r w l)),V5,Mq,wg,HG,zB,dW,HH])
 |0,j,p,u,r,ks,w,c5,c6,c7,c8,c9,da,dP,t,T,hu,hr,hk,hS,hb=>by
  obtain rfl:r=[]:=List.length_eq_zero_iff.mp (by left);cases t;exact⟨p,c5,c6,c7,c8,c9,da,dP,by rw[xJ h0];rfl⟩
 |k+1,j,p,u,r,ks,w,c5,c6,c7,c8,c9,da,dP,t,T,hu,hr,hk,hS,hb=>by
  rw[List.range'_succ,List.map_cons];cases t with
  |nil =>
   obtain⟨p',a5,a6,a7,a8,a9,a10,a11,ih⟩:=om Φ Q h0 h9 n1 vU hq k (j+1) p 0 [] ks w (some (.int j)) c6 c7 c8 c9 da dP .nil T hu (by simp) (by left) hS hb;refine⟨p',a5,a6,a7,a8,a9,a10,a11,?_⟩;refine fM (ρ1:=[some (.lst .fz (a_ qs)),some (.int s),some (.lst .ow (a_ (toQ W p))),some (qD (qW W 0)),some (tQ .ow ks λl=>qW W (w l)),some (.int j),c6,c7,c8,c9,da,dP]) (by simp) (ρ2:=[some (.lst .fz (a_ qs)),some (.int s),some (.lst .ow (a_ (toQ W p))),some (qD (qW W 0)),some (tQ .ow ks λl=>qW W (w l)),some (.int j),c6,c7,c8,c9,da,dP]) ?_ ih;simp[xa,tX,FR,xJ h0]
  | @cons _ _ x r cZ hw t =>
   obtain⟨S0,BB⟩:=Sel.canon (p:=p) T.sn;obtain⟨x0,x1⟩:=T.wJ cZ S0 BB hw;have kl:=dZ ks (bZ n p s);rw[List.length_cons]at hr;obtain⟨b6,b7,b8,b9,V8,V7,e1⟩:=B4 Φ Q h0 h9 T cZ hu n1 vU hq hw (ks:=ks) (w:=w) (by left) hS (λl=>by have:=hb l;exact⟨by left,by left⟩) (some (.int j)) c6 c7 c8 c9 da dP;obtain⟨p',a5,a6,a7,a8,a9,a10,a11,ih⟩:=om Φ Q h0 h9 n1 vU hq k (j+1) _ _ r (bc ks (bZ n p s)) (cR w (bZ n p s) x) (some (.int j)) b6 b7 b8 b9 V8 V7 t (T.next cZ S0 BB hw) (by left) (by left) (by left) (λl hl=>by
    have hz:¬ (l∈ks\/l=bZ n p s):=λz=>hl (dY.mpr z);unfold cR;rw[if_neg λz=>hz (.inr z)];exact hS l λz=>hz (.inl z)) (λl=>by
    have:=hb l;unfold cR;split<;>left)
   refine⟨p',a5,a6,a7,a8,a9,a10,a11,?_⟩;refine fM (ρ1:=[some (.lst .fz (a_ qs)),some (.int s),some (.lst .ow (a_ (toQ W p))),some (qD (qW W u)),some (tQ .ow ks λl=>qW W (w l)),some (.int j),c6,c7,c8,c9,da,dP]) (by simp) (ρ2:=_) ?_ ih;have hz:qW W u≠0:=λz=>by have:=(OU h0).mp z;left
   simp[xa,tX,FR,hz,e1]
noncomputable def Hs:CE:=.comp 1 (.nm 0) [] .seq [(.v 0)] [] (.bin .fdiv (.bin .mul (.ix (.v 0) (.int 0)) (.int 2520)) (.ix (.v 0) (.int 1)))
noncomputable def Hr:CE:=.comp 1 (.nm 0) [4] .seq [(.bX 1035 [(.v 4)])] [] (.tup [(.bX 1032 [(.v 1),(.v 0)]),(.v 0)])
def HM:aj:=[.asg (.nm 1) (.bin .fdiv (.bf .md [Hs]) (.int 2520))]
noncomputable def HL:aj:=[.asg (.nm 2) (.bf .list1 [(.v 0)]),.asg (.nm 3) (.tup [(.int 1),(.int 1)]),.asg (.nm 4) (.bX 1030 [])]
def Mv:aj:=[.fr (.nm 5) (.kW (.bin .add (.bin .mul (.int 2) (.bf .len [(.v 0)])) (.int 2))) xa,.ifs (.cmp .ne (.v 3) (.tup [(.int 0),(.int 1)])) [.ret .bz] [],.ret (.tup [(.bf .len [(.v 0)]),Hr])]
def zD:aj:=HM++(HL++Mv)
def MC(m:aD):Prop:=∀qs B (s:Nat) r,l9 7 qs B->qs.sum=((s:Int):Rat)->s<=qs.length->Tr qs.length s (tU qs) (bD qs) r->r.length<=qs.length->m [.lst .fz (a_ qs)]=ok (.tup [.int qs.length,.lst .ow (iE (CN (bD qs) r))])
theorem w6{q:Rat}(h:q.den∣2520):(q.num*2520).fdiv q.den=dg 2520 q:=by
 obtain⟨k,hk⟩:=h;unfold dg;have e:(2520:Int)=(q.den:Int)*(k:Int):=by exact_mod_cast hk
 have e2:((2520:Nat):Int)=(q.den:Int)*(k:Int):=e;rw[e2,e,Int.mul_comm (q.den:Int) (k:Int),<- Int.mul_assoc,Int.mul_fdiv_cancel _ (gf q),Int.mul_fdiv_cancel _ (gf q)]
theorem qu:∀B:Nat,1<=B->B<=9->B∣2520:=by
 intro B h1 h2;have:B=1\/B=2\/B=3\/B=4\/B=5\/B=6\/B=7\/B=8\/B=9:=by left
 rcases this with rfl|rfl|rfl|rfl|rfl|rfl|rfl|rfl|rfl<;>exact Nat.dvd_of_mod_eq_zero rfl
theorem B2(Φ:aU)(I:l9 7 qs B)(n2:qs.length<=7):bg Φ Hs [some (.lst .fz (a_ qs)),none,none,none,none,none,none,none,none,none,none,none]=ok (.lst .ow (af (qs.map (dg 2520)))):=by
  unfold Hs;rw[dD (xs:=[.lst .fz (a_ qs)]) (items:=a_ qs) (ds:=qs.map λq=>.int (dg 2520 q)) (by simp) (by rw[dU];simp) (cN λq hq=>⟨[some (qD q)],by simp[bE],by simp,by
   have hd:=Nat.dvd_trans (I.qd q hq) (qu B I.b1 I.b2);have hp:=q.den_pos;have hle:q.den<=9:=Nat.le_trans (Nat.le_of_dvd (by have:=I.b1;left) (I.qd q hq)) I.b2;have m1:bR .mul (.int q.num) (.int 2520)=ok (.int (q.num*2520)):=uN (by left);have d1:bR .fdiv (.int (q.num*2520)) (.int (q.den:Int))=ok (.int (dg 2520 q)):=by
    rw[fO (cY (by left) (gj (by left))),w6 hd]
   simp[m1,d1]⟩) (by rw[List.length_map];exact cP (by left))]
  have:(qs.map λq=>D.int (dg 2520 q))=af (qs.map (dg 2520)):=by unfold af;rw[List.map_map];rfl
  rw[this];simp
theorem OG(Φ:aU)(Q:sM Φ):MC (mk Φ 1 12 zD):=by
 intro qs B s r I es hs t hr;obtain⟨a1,a2,a3⟩:=I.bot (by decide);have T:=I.tk (by decide) es hs;have n1:=I.n1;have n2:=I.n2;have h0:(0:Int)<(bD qs:Int):=by left
 have VG:toQ (bD qs:Int) (tU qs)=qs:=by
  unfold toQ tU;rw[List.map_map]
  conv=>rhs;rw[<- List.map_id qs]
  refine W5 λq hq=>?_;show qW _ (dg _ q)=q;unfold qW;rw[Rat.divInt_eq_div,o9 (a3 q hq),Rat.intCast_natCast];have:(bD qs:Rat)≠0:=by
   have:=Rat.ne_of_gt (uW h0)
   rwa [Rat.intCast_natCast]at this
  exact Rat.mul_div_cancel this
 have e1:=B2 Φ I n2;have su:=iM (b:=2520) (qs:=qs) (λq hq=>Nat.dvd_trans (I.qd q hq) (qu B I.b1 I.b2)) es;rw[show((2520:Nat):Int)=2520 from by left]at su;have d2:bR .fdiv (.int (s*2520)) (.int 2520)=ok (.int s):=by
  rw[fO (cY (by left) (gj (by left))),Int.mul_fdiv_cancel _ (by left)]
 obtain⟨p',c5,c6,c7,c8,c9,da,dP,el⟩:=om Φ Q h0 (by left) n1 (by left) (qs:=qs) rfl (2*qs.length+2) 0 (tU qs) (bD qs) r [] (λ_=>0) none none none none none none none t T (by left) (by left) (by simp;left) (λ_ _=>rfl) (λ_=>by left);rw[VG,OV h0]at el;have n3:Φ 1030 []=ok (tQ .ow [] λ_=>qW (bD qs:Int) 0):=by rw[Q.P.yU];rfl
 have o2:aS bW (tQ .ow [] λ_=>qW (bD qs:Int) 0)=false:=BJ _ _ _ _;have hit:=Bt (Φ:=Φ) (a:=.bin .add (.bin .mul (.int 2) (.bf .len [(.v 0)])) (.int 2)) (ρ:=[some (.lst .fz (a_ qs)),some (.int s),some (.lst .ow (a_ qs)),some (qD 1),some (tQ .ow [] λ_=>qW (bD qs:Int) 0),none,none,none,none,none,none,none]) (n:=((2*qs.length+2:Nat):Int)) (by
  have m1:bR .mul (.int 2) (.int (qs.length:Int))=ok (.int (2*qs.length)):=uN (by omega);simp[m1]) (by omega) (by omega)
 rw[Int.toNat_natCast,List.range_eq_range']at hit;have hf:=iG (Φ:=Φ) (t:=.nm 5) (b:=xa) hit el;have hl:=j_ r [];rw[List.length_nil]at hl;generalize zT:mH r []=ks at *;have hp:(bw ks).Perm ks:=Xg _ _;have e3:bg Φ Hr [some (.lst .fz (a_ qs)),some (.int s),some (.lst .ow (a_ (toQ (bD qs:Int) p'))),some (qD 0),some (tQ .ow ks λl=>qW (bD qs:Int) (pd r (λ_=>0) l)),c5,c6,c7,c8,c9,da,dP]=ok (.lst .ow (iE ((bw ks).map λl=>(qW (bD qs:Int) (pd r (λ_=>0) l),l)))):=by
  unfold Hr;have e4:∀f S,Φ 1035 [tQ f ks S]=ok (.lst .ow ((bw ks).map eL)):=λf S=>CL Q.P f _ (by left);rw[dD (xs:=[.lst .ow ((bw ks).map eL)]) (items:=(bw ks).map eL) (ds:=iE ((bw ks).map λl=>(qW (bD qs:Int) (pd r (λ_=>0) l),l))) (by simp[kf,e4]) (by rw[dU,gi]) ?_ (by rw[ka,List.length_map];exact cP (by have:=hp.length_eq;left))]
  ·rw[p7]
  ·unfold iE;rw[List.map_map];refine cN λl hl=>?_;have g1:∀f,Φ 1032 [tQ f ks λl=>qW (bD qs:Int) (pd r (λ_=>0) l),.tup (af l)]=ok (qD (qW (bD qs:Int) (pd r (λ_=>0) l))):=λf=>TX Q.P (e:=qD) (lH anyF) f (λl=>qW (bD qs:Int) (pd r (λ_=>0) l)) (hp.mem_iff.mp hl);have m1:aZ bH (eL l)=.tup (af l):=by show D.tup (aG bH (l.map D.int))=_;rw[ic];rfl
   refine⟨[some (eL l),some (tQ .fz ks λl=>qW (bD qs:Int) (pd r (λ_=>0) l))],by simp[bE,kf],by simp,?_⟩;simp[m1,kf,g1];rfl
 unfold CN;rw[zT];have c1:dE .ne (qD 0) (qD 0)=ok (.bl false):=by rw[FR];rfl
 have Uc:qS .md [.lst .ow (af (qs.map (dg 2520)))]=ok (.int (s*2520)):=by rw[LY,su]
 generalize af (qs.map (dg 2520))=z at *;have g0:bC Φ HM [some (.lst .fz (a_ qs)),none,none,none,none,none,none,none,none,none,none,none]=ok (.nx,[some (.lst .fz (a_ qs)),some (.int s),none,none,none,none,none,none,none,none,none,none]):=by
  simp[HM,e1,Uc,d2]
 have g1:bC Φ HL [some (.lst .fz (a_ qs)),some (.int s),none,none,none,none,none,none,none,none,none,none]=ok (.nx,[some (.lst .fz (a_ qs)),some (.int s),some (.lst .ow (a_ qs)),some (qD 1),some (tQ .ow [] λ_=>qW (bD qs:Int) 0),none,none,none,none,none,none,none]):=by
  simp[HL,Kd,n3,o2]
 rw[mk_eq (show[D.lst .fz (a_ qs)].length=1 from rfl)];show lS (bC Φ zD [some (.lst .fz (a_ qs)),none,none,none,none,none,none,none,none,none,none,none])=_;rw[zD,fw Φ _ _ _ _ g0,fw Φ _ _ _ _ g1];simp[Mv,tX,hf,c1,e3]
noncomputable def Fy:aj:=[.asg (.nm 1) (.call 224 [(.v 0),(.int 0),(.int 7)]),.asg (.nm 2) (.call 209 [(.v 1)]),.asg (.nm 3) (.bf .list1 [(.v 1)]),.asg (.nm 4) (.call 30 [(.v 3)])]
noncomputable def J7:aj:=[.ifs (.or [(.cmp .Bw (.v 2) .bz),(.not (.ue (.v 4) .tuple)),(.cmp .ne (.v 4) (.v 2)),(.cmp .ne (.v 3) (.v 1)),(.cmp .gt (.bf .len [(.ix (.v 4) (.int 1))]) (.bf .len [(.v 1)]))]) [.ret (.bl false)] [],.mut 1014 4 [(.int 1)],.ret (.cmp .eq (.call 30 [(.v 3)]) (.v 2))]
def i9:aj:=Fy++J7
theorem KD(Φ:aU)(Vx:MA (Φ 30))(QF:MC (Φ 209))(QE:zI (Φ 224))(Nw:Φ 1014=Ce)(ns:aa):mk Φ 1 5 i9 [.lst .sc (af ns)]=ok (.bl true):=by
 obtain⟨qs,B,e1,I⟩:=QE ns 0 7 (by decide) (by decide) (by decide);obtain⟨s,es,hs⟩:=I.size;obtain⟨a1,a2,a3⟩:=I.bot (by decide);have T:=I.tk (by decide) es hs;obtain⟨r,t,hr⟩:=Ee I.n1 T (by left);have e2:=QF qs B s r I es hs t hr;have e3:=λf=>Vx f qs B s r I es hs t hr;have hl:=j_ r [];have hlen:(iE (CN (bD qs) r)).length<=qs.length:=by
  rw[ka];unfold CN;have hp:(bw (mH r [])).Perm (mH r []):=Xg _ _;rw[List.length_map,hp.length_eq];rw[List.length_nil]at hl;left
 generalize CN (bD qs) r=ia at *;have DH:Φ 224 [.lst .sc (af ns),.int 0,.int 7]=ok (.lst .ow (a_ qs)):=e1;rw[mk_eq (show[D.lst .sc (af ns)].length=1 from rfl)];show lS (bC Φ i9 [some (.lst .sc (af ns)),none,none,none,none])=_;have ga:bC Φ Fy [some (.lst .sc (af ns)),none,none,none,none]=ok (.nx,[some (.lst .sc (af ns)),some (.lst .ow (a_ qs)),some (.tup [.int qs.length,.lst .ow (iE ia)]),some (.lst .ow (a_ qs)),some (.tup [.int qs.length,.lst .ow (iE ia)])]):=by
  simp[Fy,DH,e2,e3]
 have RQ:∀f,eX 40 (.lst f (a_ qs))=true:=λf=>by rw[A9];exact nQ (λq=>tW 38 q) qs
 have M6:∀f,eX 40 (.tup [.int qs.length,.lst f (iE ia)])=true:=λf=>by
  have:(iE ia).all (eX 38)=true:=nQ (λr=>Ke 36 r) ia;simp[this]
 have V1:∀f g,dE .ne (.lst f (a_ qs)) (.lst g (a_ qs))=ok (.bl false):=λf g=>by
  rw[Ci (RQ f) (RQ g)];show ok (D.bl (!dC (qs.map qD) (qs.map qD)))=_;rw[i4 zc];simp
 have ct:∀f g,ju (.tup [.int qs.length,.lst f (iE ia)]) (.tup [.int qs.length,.lst g (iE ia)])=true:=λf g=>by
  rw[uz,ft,ft,BX,BW];simp
 have c1:∀f g,dE .ne (.tup [.int qs.length,.lst f (iE ia)]) (.tup [.int qs.length,.lst g (iE ia)])=ok (.bl false):=λf g=>by rw[Ci (M6 f) (M6 g),ct];rfl
 have c2:∀f g,dE .eq (.tup [.int qs.length,.lst f (iE ia)]) (.tup [.int qs.length,.lst g (iE ia)])=ok (.bl true):=λf g=>by rw[Mp (M6 f) (M6 g),ct]
 have c3:∀a,dE .Bw (.tup a) .bz=ok (.bl false):=λ_=>rfl;have c4:¬ (qs.length:Int)<((iE ia).length:Int):=by left
 have m1:=qU (Φ:=Φ) (p:=1014) (i:=4) (es:=[(.int 1)]) (ρ:=[some (.lst .sc (af ns)),some (.lst .ow (a_ qs)),some (.tup [.int qs.length,.lst .ow (iE ia)]),some (.lst .ow (a_ qs)),some (.tup [.int qs.length,.lst .ow (iE ia)])]) (xs:=[.int 1]) (d':=.tup [.int qs.length,.lst .ow []]) rfl rfl rfl (by rw[Nw];rfl);simp only[List.set]at m1;rw[i9,fw Φ _ _ _ _ ga];simp only[ka]at c4;simp[J7,fG,c1,c3,V1,c4,m1,e3,c2]
end DI
end
section
namespace LM
open PySem PySem.Spec PyProof.Rows L2 DI
def Rv(K:ao)(x:Str)(st:Stmt)(cc:Addr):Prop:=∃f fd,zO K x x st f fd/\PySem.W.nsIn K mainGlobals x=some (some (.ref f))/\fd.code=.ref cc
variable {K:ao}{cc:Addr}{st:Stmt}
theorem dmkC{x:Str}{f:Addr}{oc:Value}{od an:Option Addr}{sl:Array (Option Value)}{kV dc pm ct:Value}(a:PySem.W.nsIn K mainGlobals x=some (some (.ref f)))(l:K.lookup f=some ⟨oc,od,.func (PySem.W.fnOf x x (dt st) (bK st) (aF st) .none kV dc pm an (.ref cc) ct),sl⟩)(c:PySem.W.codeIn K (.ref cc) x=true)(k:PySem.W.keepIn K (.ref f)=true):Rv K x st cc:=⟨f,_,y0 l c k,a,rfl⟩
theorem tab0_of{h:Heap}{c:Addr}(X:K.In h)(e:K.lookup df=none)(hc:PySem.W.codeHdIn K c df=true)(ht:h.get? df=some (PySem.W.tabObj #[])):∃tp,Tab0 K h tp:=⟨#[],e,⟨c,(PySem.W.codeHd_of_K X hc).tab ht⟩,by simp[TriplesOk],rfl⟩
theorem QW{P:ax}{w:World}{h base:Heap}{mg:aN}{bl:av}{cs:List (Str×GK)}{px:Px}(X:K.In h)(G:h.Ns mainGlobals mg)(KB:K.In base)(hB:base.BuiltinsAt mg df)
  {x0 x y z:Str} {e1:Expr} {params:Arguments} {sc:Scope} {p pos p' pos' p1 p2 p3 p4 pL pk pz pa:Pos} {ph:aL} {n iX iZ:Nat} {c:CE} {body:aj} (k:Nat) (Φ:aU) (hΦ:Φ n=skD) (hp:oT px Φ/\CB px Φ) (d:Rv K x0 st cc) (hcd:PySem.W.codeHdIn K cc df=true) (vP:cB (λy=>mg y=none) bl) (n8:cB (λp:Str×GK=>∃u,mg p.1=some u/\wD K p.2 u) cs)
  (N:av) (a:Nat) (Qq:bK st=.Assign [.Name z pz] (.Call (.Name "sorted" p') [.Call (.Name "range" p) [e1] [] pos] [{ arg:=some "key",value:=.Lambda params (lh x y p1 p2 p3 p4) sc pL,pos:=pk }] pos') pa::ph)
  (hc:(NH N (N.take a) (aF st)&&(fW ⟨aF st,N,λn=>List.lookup n [],bl,cs,px⟩ body ph&&(my ⟨aF st,N,λn=>List.lookup n [],bl,cs,px⟩ (.nm iZ) (.Name z pz)&&(bB ⟨aF st,N,λn=>List.lookup n [],bl,cs,px⟩ [c] [e1]&&(jb (aF st) "sorted" && (jb (aF st) "range" && (decide (("sorted" : Str)∈bl)&&(decide (("range" : Str)∈bl)&&decide (N[iX]?=some x)))))))))=true)
  (hT:∀(base:Heap) (mg:aN) (f:Addr),PySem.W.CodeHd base cc df->base.BuiltinsAt mg df->zM base mg x0 (aF st) f cc x y params sc pL)
  (BA:∀(f:Addr) (L:Nat),swapsWithSole [.Name z pz] (.Call (.Name "sorted" p') [.Call (.Name "range" p) [e1] [] pos] [{ arg:=some "key",value:=.Lambda params (lh x y p1 p2 p3 p4) sc pL,pos:=pk }] pos') pa.line (envOfC x0 (aF st) L f (.ref cc))=pure false)
  (ha:(N.take a).length=a:=by rfl) (hb:∀(kV doc pm:Value) (an:Option Addr) (fX ct:Value) (us:ag),us.length=a->bindArgs (PySem.W.fnOf x0 x0 (dt st) (bK st) (aF st) .none kV doc pm an fX ct) ⟨us,[]⟩=pure ((N.take a).zip us):=by first|exact λ_ _ _ _ _ _=>u1 λ_=>rfl|exact λ_ _ _ _ _ _=>u2 λ_ _=>rfl):Ent P w K mg base (k+1) x0 (mk Φ a N.length (.asg (.nm iZ) (.bX n [c,.v iX])::body)):=by
 obtain⟨f,fd,Fu,a',mT⟩:=d;obtain⟨h1,hc⟩:=aI hc;obtain⟨h2,hc⟩:=aI hc;obtain⟨h3,hc⟩:=aI hc;obtain⟨h4,hc⟩:=aI hc;obtain⟨h5,hc⟩:=aI hc;obtain⟨h6,hc⟩:=aI hc;obtain⟨h7,hc⟩:=aI hc;obtain⟨h8,h9⟩:=aI hc;have T:=hT base mg f (PySem.W.codeHd_of_K KB hcd) hB;have F:=vX (P:=P) (w:=w) (base:=base) (k:=k) (m:=mk Φ a N.length (.asg (.nm iZ) (.bX n [c,.v iX])::body)) Fu mT (y2 h1) Qq h2 hp.1 hp.2 (cB.mem vP) (cB.two (P:=λy i=>∃u,mg y=some u/\wD K i u) n8) (λg y h=>nomatch h) (λds r q=>⟨(jo ds r q).1.trans ha.symm,(jo ds r q).2⟩) (λA outer s H E F hr L=>xo hΦ T rfl (WO h9) h3 h5 (WO h7) h6 (WO h8) h4 (BA f) A outer s H E F hr L);exact⟨f,fd,_,F,YD X G a',Fu.kp,Fu.binds (λkV doc pm an fX ct us hu=>hb kV doc pm an fX ct us (hu.trans ha)),λds r q=>(jo ds r q).1.trans ha.symm⟩
end LM
end
namespace PySem.W.Fast
def tw11896753153340603775:=0
def tw15836927412009926174:=0
def tw11222380953267814618:=0
def tw5281690048562261760:=0
def tw9946704240213204696:=0
def tw16005638008234240440:=0
def tw17290511508331326102:=0
def tw2262843637481800657:=0
def tw15037564647089661222:=0
def tw7481367628468847603:=0
def tw1760367241622090488:=0
def tw12088562548932902819:=0
def tw1937519103286073782:=0
def tw14979996380118323474:=0
def tw14827612843048129532:=0
def tw7912099593562579092:=0
def tw15360338242655261240:=0
def tw462265804619745007:=0
def tw10407276879128794158:=0
def tw9786058224138007735:=0
def tw13977813569609057771:=0
def tw8276889626905630341:=0
def tw16215560749820089086:=0
def tw3883406438669665068:=0
def tw13297053838620777764:=0
def tw2945824015273635267:=0
def tw13764227972618013457:=0
def tw11671164842546095474:=0
def tw15087755026739603274:=0
def tw10157583304513607021:=0
def tw12032556770621632795:=0
def tw10229138888635595598:=0
def tw8236602431968942478:=0
def tw7166247291334839600:=0
def tw3126277733364102135:=0
def tw2857273029901103242:=0
def tw7852777631251407780:=0
def tw1839037700681867826:=0
def tw17015515674819180488:=0
def tw13771672148451269570:=0
def tw11427848031934613696:=0
def tw1063268332945887488:=0
def tw2079307159772860668:=0
def tw10922922193597888538:=0
def tw14386336869177334179:=0
def tw11730699334331411435:=0
def tw6641497482487519718:=0
def tw9967456453391394086:=0
def tw11831991526434433354:=0
def tw12864695107591737114:=0
def tw8982366579521046097:=0
def tw6562109590210788189:=0
def tw2155815957890305566:=0
def tw3509145202576409300:=0
def tw4976573380087406308:=0
def tw3795197655885492004:=0
def tw1630681446716588595:=0
def tw15678739684212693089:=0
def tw43194667120416888:=0
def tw604174264947731487:=0
def tw15983678912258381160:=0
def tw3833856275141034223:=0
def tw13398250292926934179:=0
def tw2373822689816561488:=0
def tw13468084651671004567:=0
def tw6651315038871837423:=0
def tw15438508709772133518:=0
def tw12890885501780132638:=0
def tw14610939468482396859:=0
def tw6591916601016957741:=0
def tw249237611398010485:=0
def tw17158298059148913106:=0
def tw5009270349158104423:=0
def tw12702801357780755027:=0
def tw17130474371399056698:=0
def tw993847795188742441:=0
def tw17309036411605261307:=0
def tw4647519155846615030:=0
def tw15838919440488170020:=0
def tw4018673139176854000:=0
def tw16704398165647033749:=0
def tw7798200466076029656:=0
def tw12314513992266859644:=0
def tw561273904591006775:=0
def tw15100485644673997394:=0
def tw11242073351660407995:=0
def tw1311786471011419951:=0
def tw2113860923689560382:=0
def tw6668152613421895384:=0
end PySem.W.Fast
namespace Asm
open PySem PySem.Spec PyProof.Rows L2 DI
noncomputable def top(i:Nat):Stmt:=PySem.Challenge.pw_sharesample_k12_greatest_taken_off.main.body.getD i (.Pass ⟨0,0,0,0⟩)
def px:Px:=⟨λn sc bl e=>if n=1011 then eF "min" sc bl e else if n=1021 then sD false sc bl e else if n=1030 then oA sc bl e else if n=1031 then oB sc bl e else if n=1032 then sA sc bl e else if n=1035 then eF "sorted" sc bl e else if n=1041 then uK sc bl e else none,λn sc bl e=>if n=1001 then eF "enumerate" sc bl e else none,λn sc bl e=>if n=1014 then sE sc bl e else if n=1033 then oz sc bl e else none⟩
def PT:aU
 |1001=>lR
 |1011=>minD
 |1014=>Ce
 |1021=>(cutD false)
 |1030=>uE
 |1031=>m6
 |1032=>v7
 |1033=>mZ
 |1035=>jv
 |1041=>Kx
 |1070=>LM.skD
 |_=>λ_=>none
theorem pr(F:aU)(i:Nat)(m:aD):oT px (xm PT F i m)/\CB px (xm PT F i m):=⟨⟨(λX sc bl k L p e args he F cs hs=>Gq he (λhe=>FV rfl L he hs) λhe=>Gq he (λhe=>HA rfl L he hs) λhe=>Gq he (λhe=>B6 rfl L he hs) λhe=>Gq he (λhe=>B_ rfl L he hs) λhe=>Gq he (λhe=>Hz rfl L he hs) λhe=>Gq he (λhe=>zk rfl L he hs) λhe=>Gq he (λhe=>Kw rfl L he hs) λhe=>nomatch he),(λX sc bl k L p e args he F cs tg ht hs pins s σ H R τ ρ xs d items I Si cL ed ei Rr hR=>by
  dsimp only[px]at he;by_cases hp:p=1001
  ·subst hp;rw[if_pos rfl]at he;exact BZ rfl L he ht hs I Si cL ed ei Rr hR
  rw[if_neg hp]at he;clear hp;cases he)⟩,⟨(λX sc bl k L hN r6 p st x pos args he i hi hl pe F cs hs=>Sj he (λhe=>HE rfl L hN r6 he hi hl pe hs) λhe=>Sj he (λhe=>B5 rfl L hN r6 he hi hl pe hs) λhe=>nomatch he)⟩⟩
noncomputable def xt(F:aU)(i a b:Nat)(c:aj):aU:=xm PT F i (mk F a b c)
noncomputable def BL:av:=["abs","all","bool","enumerate","int","isinstance","len","list","min","range","sorted","sum","tuple"]
noncomputable def CC:List (Str×GK):=[("MOST_HOUSES",GK.i 12)]
noncomputable def iz:aU:=xm PT PT 0 λ_=>none
noncomputable def jE:aU:=xt iz 201 2 4 (i8)
noncomputable def gB:aU:=xt jE 202 2 2 (uM 201)
noncomputable def gA:aU:=xt gB 223 2 2 (kD)
noncomputable def jC:aU:=xt gA 225 2 4 (Cp)
noncomputable def jD:aU:=xt jC 222 2 2 (oO 201)
noncomputable def iA:aU:=xt jD 209 1 12 (zD)
noncomputable def fR:aU:=xt iA 200 2 4 (dF)
noncomputable def dq:aU:=xt fR 224 3 10 (oN)
noncomputable def iB:aU:=xt dq 1 2 3 (cF)
noncomputable def fc:aU:=xt iB 0 1 1 (fN)
noncomputable def iC:aU:=xt fc 3 1 1 (bG)
noncomputable def dJ:aU:=xt iC 23 1 1 (kB)
noncomputable def dM:aU:=xt dJ 24 2 2 (oM)
noncomputable def gz:aU:=xt dM 9 1 3 (cb)
noncomputable def iy:aU:=xt gz 10 2 2 (eR)
noncomputable def eI:aU:=xt iy 25 1 3 (kC)
noncomputable def fe:aU:=xt eI 26 1 1 (uQ)
noncomputable def fS:aU:=xt fe 2 2 3 (cg)
noncomputable def eH:aU:=xt fS 18 3 3 (uP)
noncomputable def fb:aU:=xt eH 31 2 3 (HK)
noncomputable def dH:aU:=xt fb 32 3 5 (Co)
noncomputable def zP:aU:=xt dH 30 1 8 (Cn)
def Em:=AI iz
def Oq:=JG jE (f:=201) Em
def Jr:=AJ gB
def Oj:=OE gA Jr
def Om:=ES jC (f:=201) Em
def Oo:=OG jD ⟨⟨rfl,rfl,rfl,rfl,rfl⟩,Oq,Om,Jr,Oj,rfl⟩
def Ot:=ET iA
def Ol:=ER fR Ot Em
def t1:=jk dq
def t0:=rq iB
def t3:=mj fc t0 t1
def Ub:=AH iC t3
def Ua:=JH dJ Ub
def t9:=jV dM t1
def RJ:=pO gz
def RH:=EO iy t9 RJ
def T_:=JJ eI Ua (F1 RH)
def t2:=ml fe t1
def RI:=JI fS ⟨rfl,rfl,rfl,rfl,rfl⟩ t2
def T8:=OF eH rfl rfl
def T7:=OD fb rfl rfl
def T9:=OC dH ⟨rfl,rfl,rfl,rfl,rfl⟩ t9 RJ RI RH T_ T8 T7 rfl
theorem vE:∀ns:aa,(mk zP 1 5 (i9)) [.lst .sc (af ns)]=ok (.bl true):=KD zP T9 Oo Ol rfl
theorem j4:∃e1 params sc p pos p' pos' p1 p2 p3 p4 pL pk pz pa ph,bK (top 20)=.Assign [.Name "ranked" pz] (.Call (.Name "sorted" p') [.Call (.Name "range" p) [e1] [] pos] [{ arg:=some "key",value:=.Lambda params (LM.lh "left" "house" p1 p2 p3 p4) sc pL,pos:=pk }] pos') pa::ph/\(NH ["left","size","ranked"] (List.take 2 ["left","size","ranked"]) (aF (top 20))&&(fW ⟨aF (top 20),["left","size","ranked"],λn=>List.lookup n [],BL,CC,px⟩ [.ret (.bf .tuple1 [(.bf .dr [(.bX 1021 [(.v 2),(.v 1)])])])] ph&&(my ⟨aF (top 20),["left","size","ranked"],λn=>List.lookup n [],BL,CC,px⟩ (.nm 2) (.Name "ranked" pz)&&(bB ⟨aF (top 20),["left","size","ranked"],λn=>List.lookup n [],BL,CC,px⟩ [(.bf .len [(.v 0)])] [e1]&&(jb (aF (top 20)) "sorted" && (jb (aF (top 20)) "range" && (decide (("sorted" : Str)∈BL)&&(decide (("range" : Str)∈BL)&&decide ((["left","size","ranked"]:av)[0]?=some ("left" : Str))))))))))=true/\∀(cc f:Addr),(∀(base:Heap) (mg:aN),PySem.W.CodeHd base cc df->base.BuiltinsAt mg df->LM.zM base mg "greatest_lot" (aF (top 20)) f cc "left" "house" params sc pL)/\∀L:Nat,swapsWithSole [.Name "ranked" pz] (.Call (.Name "sorted" p') [.Call (.Name "range" p) [e1] [] pos] [{ arg:=some "key",value:=.Lambda params (LM.lh "left" "house" p1 p2 p3 p4) sc pL,pos:=pk }] pos') pa.line (envOfC "greatest_lot" (aF (top 20)) L f (.ref cc))=pure false:=⟨_,_,_,_,_,_,_,_,_,_,_,_,_,_,_,_,rfl,by decide +kernel,λcc f=>⟨λbase mg h1 h2=>⟨h1,h2,λL=>rfl,rfl,λL=>rfl,λL=>rfl,by decide +kernel,rfl,rfl,λ_ _ _ _ _ _=>rfl,rfl,rfl,rfl,by decide,rfl,rfl,by decide,by decide,by decide⟩,λL=>rfl⟩⟩
theorem HF:NQ (top 32) ["_law_script","_law_shares_here","_law_due_here","_law_handed","_law_found"] ["_law_script"] [(30,"taken_drawing"),(209,"_law_due"),(224,"_law_shares")] BL CC px (i9)=true:=by decide +kernel
theorem all_mk{l:PySem.W.OpenLaw}{w:World}{K:ao}{h:Heap}{mg:aN}{fa cc:Addr}{RD:Value}(X:K.In h)(G:h.Ns mainGlobals mg)(Ve:mg "law" = some (.ref fa))
  (a0:Df K "_law_frac" (top 24))
  (a1:Df K "_law_add" (top 25))
  (a2:Df K "_law_below" (top 28))
  (a3:Df K "_law_least" (top 30))
  (a4:Df K "_law_sub" (top 27))
  (a5:Df K "_law_due" (top 31))
  (a6:Df K "_law_cell" (top 23))
  (a7:Df K "_law_shares" (top 29))
  (a8:Df K "common_divisor" (top 6))
  (a9:Df K "is_whole" (top 5))
  (a10:Df K "is_fraction" (top 8))
  (a11:Df K "is_share" (top 15))
  (a12:Df K "is_share_list" (top 16))
  (a13:Df K "common_bottom" (top 9))
  (a14:Df K "tops_over" (top 10))
  (a15:Df K "lot_size" (top 17))
  (a16:Df K "check_shares" (top 18))
  (a17:Df K "fraction_of" (top 7))
  (a18:Df K "drawing_of" (top 13))
  (a19:LM.Rv K "greatest_lot" (top 20) cc)
  (a20:Df K "most_weight" (top 21))
  (a21:Df K "taken_drawing" (top 19))
  (a22:Df K "law" (top 32))
  (z:cB (λy=>PySem.W.nsIn K mainGlobals y=some none) BL)
  (q0:PySem.W.nsIn K mainGlobals "MOST_HOUSES" = some (some RD)) (r0:RelV (.int 12) RD)
  (hcd:PySem.W.codeHdIn K cc df=true) :
  ∃fd:FuncData,(∀(s:Shared) (v:Value),BindsTo s fd ⟨[v],[]⟩ [("_law_script",v)])/\∀base:Heap,K.In base->base.Ns mainGlobals mg->base.BuiltinsAt mg df->f_ l.prog w K mg base l6 24 fa fd ["_law_script"] (xk K 1 nX):=by
 obtain⟨f,fd,Fu,a⟩:=a22;have e:=Ve.symm.trans (YD X G a);cases e;obtain⟨oc,od,kV,dc,pm,an,cd,ct,sl,rfl,_,_⟩:=id Fu.ex;have Y:=cB.nn X G z;have x0:∃u,mg "MOST_HOUSES" = some u/\wD K (GK.i 12) u:=⟨_,YD X G q0,r0⟩
 refine⟨PySem.W.fnOf "law" "law" (dt (top 32)) (bK (top 32)) (aF (top 32)) .none kV dc pm an cd ct,λs v=>.of_eq rfl,λbase KB _ GB=>?_⟩;have N:=@VM l.prog w K h base mg BL CC px PT X G pr Y ⟨x0,jR⟩;have E0:=N 1 iz a0 ["_law_top","_law_bottom","_law_one","_law_other"] 2 [] (i8) jR;have E1:=N 2 jE a1 ["_law_one","_law_other"] 2 [(201,"_law_frac")] (uM 201) ⟨E0.u,jR⟩;have E2:=N 3 gB a2 ["_law_one","_law_other"] 2 [] (kD) jR;have E3:=N 4 gA a3 ["_law_numbers","_law_start","_law_found","_law_number"] 2 [(223,"_law_below")] (Cp) ⟨E2.u,jR⟩;have E4:=N 5 jC a4 ["_law_one","_law_other"] 2 [(201,"_law_frac")] (oO 201) ⟨E0.u,jR⟩;have E5:=N 6 jD a5 ["_law_shares_here","_law_size","_law_left","_law_whole","_law_lots","_law_step","_law_rest","_law_lot","_law_turn","_law_best","_law_house","_law_chance"] 1 [(202,"_law_add"),(222,"_law_sub"),(223,"_law_below"),(225,"_law_least")] (zD) ⟨E1.u,E4.u,E2.u,E3.u,jR⟩;have E6:=N 7 iA a6 ["_law_script","_law_k","_law_cell_here","_law_number"] 2 [] (dF) jR;have E7:=N 8 fR a7 ["_law_script","_law_at","_law_most","_law_number","_law_many","_law_bottom","_law_tops","_law_k","_law_lack","_law_less"] 3 [(200,"_law_cell"),(201,"_law_frac")] (oN) ⟨E6.u,E0.u,jR⟩;have E8:=N 9 dq a8 ["one","other","rest"] 2 [] (cF) jR;have E9:=N 10 iB a9 ["thing"] 1 [] (fN) jR;have Wn:=N 11 fc a10 ["thing"] 1 [(0,"is_whole"),(1,"common_divisor")] (bG) ⟨E9.u,E8.u,jR⟩;have Wm:=N 12 iC a11 ["thing"] 1 [(3,"is_fraction")] (kB) ⟨Wn.u,jR⟩;have Wl:=N 13 dJ a12 ["thing","most"] 2 [(23,"is_share")] (oM) ⟨Wm.u,jR⟩;have TC:=N 14 dM a13 ["some","bottom","part"] 1 [(1,"common_divisor")] (cb) ⟨E8.u,jR⟩;have TB:=N 15 gz a14 ["some","bottom"] 2 [] (eR) jR;have Tz:=N 16 iy a15 ["shares","bottom","total"] 1 [(9,"common_bottom"),(10,"tops_over")] (kC) ⟨TC.u,TB.u,jR⟩;have Wk:=N 17 eI a16 ["thing"] 1 [(24,"is_share_list"),(25,"lot_size")] (uQ) ⟨Wl.u,Tz.u,jR⟩;have Wj:=N 18 fe a17 ["top","bottom","divisor"] 2 [(1,"common_divisor")] (cg) ⟨E8.u,jR⟩;have Wi:=N 19 fS a18 ["many","weights","bottom"] 3 [(2,"fraction_of")] (uP) ⟨Wj.u,jR⟩;obtain⟨_,_,_,_,_,_,_,_,_,_,_,_,_,_,_,_,hL,hK,hT⟩:=j4;have Wh:=LM.QW (P:=l.prog) (w:=w) (base:=base) (bl:=BL) (cs:=CC) (px:=px) (n:=1070) X G KB GB 20 eH rfl (pr _ _ _) a19 hcd Y ⟨x0,jR⟩ ["left","size","ranked"] 2 hL hK (λbase mg f h1 h2=>(hT cc f).1 base mg h1 h2) (λf=>(hT cc f).2);have Wg:=N 21 fb a20 ["left","lot","undealt","inside","outside"] 3 [] (Co) jR;have Wf:=N 22 dH a21 ["shares","whole","left","size","undealt","weights","lot","weight"] 1 [(9,"common_bottom"),(10,"tops_over"),(18,"drawing_of"),(25,"lot_size"),(26,"check_shares"),(31,"greatest_lot"),(32,"most_weight")] (Cn) ⟨TC.u,TB.u,Wi.u,Tz.u,Wk.u,Wh.u,Wg.u,jR⟩;exact VL 23 zP nX Fu HF (pr _ _ _) Y ⟨x0,jR⟩ ⟨Wf.u,E5.u,E7.u,jR⟩ (yh λns _=>(jo _ _ (vE ns)).2)
theorem walk{l:PySem.W.OpenLaw}{q:ax}{loose:av}{XP:(aN)->Heap->Prop}{YP:World->Heap->Prop}{d:DefRec}{K:Params->ao}(hn:l.most=some 63)(Lr:d.params.defaults=[])
  (hY:∀(w:World) (h:Heap),YP w h->(K w.params).In h) (hT:∀(w:World) (h:Heap),YP w h->∃tp,Tab0 (K w.params) h tp)
  (F:∀(w:World) (mg:aN) (fa:Addr) (h:Heap),(K w.params).In h->h.Ns mainGlobals mg->mg d.name=some (.ref fa) ->
   ∃fd:FuncData,(∀(s:Shared) (u:Value),BindsTo s fd ⟨[u],[]⟩ [("_law_script",u)])/\∀base:Heap,(K w.params).In base->base.Ns mainGlobals mg->base.BuiltinsAt mg df->f_ l.prog w (K w.params) mg base l6 24 fa fd ["_law_script"] (xk (K w.params) 1 nX)) :
  PySem.W.WalkO q loose XP YP l.row.toRowW d [] (λf vs=>PySem.call f vs) :=
 L2.z7 (n:=63) (k:=24) (x:="_law_script") (CX:=λ_=>l6) (sp:=λw=>xk (K w.params) 1 nX) hn (by decide) Lr ⟨rfl,by decide,by decide⟩ hY hT F (λw H a ns hl hO hS=>F7 (K w.params) H a ns nX (Bl hl) hO hS) λ_ _ _ _ _ z=>z
end Asm
end
open PySem PySem.W PyProof.Rows
set_option maxRecDepth 100000 in
set_option maxHeartbeats 0 in
theorem PySem.Challenge.cw_sharesample_k12_greatest_taken_off_holds : PySem.Challenge.rw_sharesample_k12_greatest_taken_off.Holds := by
 w_on;o_law;k_head;(case hw=>w_witness2)
 k_fill
 refine Asm.walk (l:=PySem.Challenge.rw_sharesample_k12_greatest_taken_off) rfl rfl (fun w h Y=>PySem.W.km_in_of Y) (fun w h Y=>LM.tab0_of (c:=133) (PySem.W.km_in_of Y) (by kernel_rfl) (by kernel_rfl) (PySem.W.km_tabs_of Y _ (List.mem_singleton.mpr rfl)))  ?F
 case F =>
  intro w mg fa h KX G hmg
  refine' Asm.all_mk KX G hmg ?a0 ?a1 ?a2 ?a3 ?a4 ?a5 ?a6 ?a7 ?a8 ?a9 ?a10 ?a11 ?a12 ?a13 ?a14 ?a15 ?a16 ?a17 ?a18 ?a19 ?a20 ?a21 ?a22 ?zz ?q0 ?r0 ?hcd
  case a0 | a1 | a2 | a3 | a4 | a5 | a6 | a7 | a8 | a9 | a10 | a11 | a12 | a13 | a14 | a15 | a16 | a17 | a18 | a20 | a21 | a22 =>
   refine' DI.dmk ?x ?y ?z ?w
   case x | y | z | w=>k_is
  case a19 =>
   refine' LM.dmkC ?x ?y ?z ?w
   case x | y | z | w=>k_is
  (case zz=>refine' ⟨?_,?_,?_,?_,?_,?_,?_,?_,?_,?_,?_,?_,?_,trivial⟩ <;> show PySem.W.nsIn _ _ _ = some none <;> k_is)
  (case q0=>k_is);(case r0=>exact ⟨_,rfl⟩)
  (case hcd=>kernel_rfl)

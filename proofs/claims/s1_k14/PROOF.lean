import PyProof.Rows.All
import Wide.All
import OpenK.AllK
import Wide.FinOn
import Lean
import PyProof.EqAt
import PyProof.EqKinds
import PyProof.TupleCall
import PyProof.NeKinds
import KE.BitLaws
import PyProof.SumWalkG
import PyProof.ConsumeWalk
import PyProof.WalksMore
import KE.KSortedM
import PyProof.Rows.SetFrom
import PyProof.CompUse
import PyProof.ZipIter
import PyProof.EnumMake
import KE.KSortTup
import PyProof.ListRange
import PyProof.SliceList
import PyProof.DictIter
import PyProof.Rows.DictUnroll
import KE.KDictSum
import KE.KSortAsk
import PyProof.DictRoadsH
import PyProof.DictKinds
import PyProof.DictItems
import PyProof.DictItemsLoops
import PyProof.Rows.TupDisplay
import KE.KDictList
import PySem.Challenge.RW_sharesample_k14_houses_alone
set_option bootstrap.genMatcherCode false
set_option genSizeOf false
set_option genSizeOfSpec false
set_option Elab.async false
set_option linter.all false
set_option maxRecDepth 100000
local macro_rules | `(tactic| left) => `(tactic| first | assumption | exact Nat.zero_le _ | exact Int.natCast_nonneg _ | exact Int.ofNat_lt.mpr (by assumption) | exact Nat.le_of_lt (by assumption) | exact Nat.le_trans (by assumption) (by assumption) | exact Nat.lt_of_lt_of_le (by assumption) (by assumption) | lia | omega)
noncomputable section
abbrev Xf:=@PySem.wpAny_bind
abbrev Xg:=@PySem.wpAny_pure
abbrev Xh:=@of_decide_eq_true
abbrev Xi:=@Bool.false_ne_true
abbrev Xj:=@PySem.Heap.get?_push_of_some
abbrev Xk:=@PySem.Heap.lt_size
abbrev Xl:=@PyProof.Rows.wpS_bind
abbrev Xm:=@List.mem_cons_of_mem
abbrev Xn:=@PyProof.Rows.wpS_pure
abbrev Xo:=@List.mem_cons_self
abbrev Xp:=@Nat.le_refl
abbrev Xq:=@List.getElem?_eq_getElem
abbrev Xr:=@List.mem_append_right
abbrev Xs:=@PySem.Heap.get?_push_size
abbrev Xt:=@Nat.ne_of_lt
abbrev Xu:=@Nat.lt_of_lt_of_le
abbrev Xv:=@Option.some.inj
abbrev Xw:=@List.mem_of_getElem?
abbrev Xx:=@Nat.ne_of_gt
abbrev Xy:=@Nat.pow_le_pow_right
abbrev Xz:=@List.mem_append_left
abbrev XA:=@Nat.lt_irrefl
abbrev XB:=@List.mergeSort_perm
abbrev XC:=@PyProof.Rows.callWith_type1
abbrev XD:=@PyProof.Rows.wpS_forRange
abbrev XE:=@PySem.wpAny_mono
abbrev XF:=@List.getElem_mem
abbrev XG:=@PySem.wpAny_call_entry
abbrev XH:=@Nat.zero_le
abbrev XI:=@PySem.wpAny_holding
abbrev XJ:=@Nat.lt_of_le_of_lt
abbrev XM:=@List.mem_map_of_mem
abbrev XN:=@Nat.lt_succ_of_lt
abbrev XO:=@Nat.le_trans
abbrev XQ:=@PySem.Heap.get?_update_other
abbrev XR:=@PySem.wpAny_newObj_type
abbrev XS:=@PyProof.Rows.wpS_mono
abbrev XT:=@Int.le_trans
abbrev XU:=@decide_eq_true
abbrev XW:=@PySem.wpAny_callSpecial?_slot
abbrev XX:=@PySem.F.slot_dict_keyiterator_next
abbrev XY:=@decide_eq_false
abbrev XZ:=@List.map_congr_left
abbrev X0:=@congrArg
abbrev X1:=@if_pos
abbrev X2:=@Int.le_of_lt
abbrev X3:=@Rat.mul_le_mul_of_nonneg_right
abbrev X4:=@PySem.wpAny_typeNameOfWhole_itemiter
abbrev X5:=@PySem.wpAny_truthy_bool
abbrev X6:=@PySem.wpAny_typeNameOfWhole_keyiter
abbrev X7:=@PySem.F.slot_dict_itemiterator_next
abbrev X8:=@PySem.mem_of_lookup
abbrev X9:=@PySem.wpAny_field
abbrev X_:=@PySem.wpAny_Call_Name_kw
abbrev Ya:=@PySem.wpAny_setField_rec
abbrev Yb:=@List.idxOf_lt_length_of_mem
abbrev Yc:=@PySem.wpAny_passesOwn
abbrev Yd:=@PySem.Heap.get?_update_self
abbrev Ye:=@PySem.wpAny_dictEntries
abbrev Yf:=@Array.getElem?_eq_getElem
abbrev Yh:=@PySem.sizeLine_eq
abbrev Yi:=@Nat.lt_succ_self
abbrev Yk:=@Int.mul_fdiv_cancel_left
abbrev Ym:=@PySem.wpAny_attempt
abbrev Yn:=@PySem.wpAny_rule
abbrev Yo:=@PySem.W.kia_one
abbrev Yp:=@PySem.wpAny_dictEpoch
abbrev Yq:=@Nat.le_succ
abbrev Yr:=@Int.le_refl
abbrev Ys:=@PySem.F.slot_zip_next
abbrev Yt:=@Nat.lt_trans
abbrev Yu:=@List.nodup_nil
abbrev Yv:=@List.Perm.append_left
abbrev Yw:=@List.length_filter_le
abbrev Yx:=@List.getElem_inj
abbrev Yy:=@PySem.call_meets
abbrev Yz:=@List.ext_getElem
abbrev YA:=@List.mem_of_mem_take
abbrev YB:=@Ne.symm
abbrev YC:=@PyProof.Rows.wpS_get
abbrev YD:=@PySem.SeqAt.EqAt.same
abbrev YE:=@PySem.codeAny_builtin
abbrev YF:=@PySem.Calls.call_function_entry
abbrev YG:=@List.length_map
abbrev YH:=@PySem.SeqAt.EqAt.int_int
abbrev YI:=@PySem.F.args_tuple_add_2
abbrev YJ:=@List.getElem_idxOf
abbrev YK:=@PyProof.Rows.wpS_modify
abbrev YL:=@PySem.F.entry_tuple_add
abbrev YM:=@List.ext_getElem?
abbrev YN:=@PySem.F.slot_tuple_add
abbrev YO:=@PyProof.Rows.subscriptTail_builtinR
abbrev YQ:=@List.drop_eq_nil_of_le
abbrev YR:=@PySem.wpAny_nextOf_list_item
abbrev YS:=@List.Perm.append_right
abbrev YT:=@Int.fmod_nonneg_of_pos
abbrev YU:=@PySem.wpAny_isOneOf_itemiter
abbrev YV:=@PySem.wpAny_newList
abbrev YW:=@List.cons.inj
abbrev YX:=@Nat.le_of_dvd
abbrev YY:=@beq_self_eq_true
abbrev YZ:=@PySem.F.slot_tuple_lt
abbrev Y0:=@List.perm_append_comm
abbrev Y1:=@PySem.codeAny_mono
abbrev Y2:=@PySem.SeqAt.EqAt.none_bool
abbrev Y3:=@PySem.SeqAt.EqAt.bool_none
abbrev Y4:=@PySem.SeqAt.EqAt.bool_bool
abbrev Y5:=@if_neg
abbrev Y6:=@PySem.wpAny_updateSeq
abbrev Y7:=@List.mem_of_mem_drop
abbrev Y8:=@Int.mul_ne_zero
abbrev Y9:=@Rat.le_of_lt
abbrev Y_:=@PySem.SeqAt.EqAt.none_int
abbrev Za:=@PySem.SeqAt.EqAt.bool_int
abbrev Zb:=@PySem.SeqAt.EqAt.int_none
abbrev Zc:=@PySem.SeqAt.EqAt.int_bool
abbrev Zd:=@Nat.add_le_add_left
abbrev Ze:=@PySem.Heap.SameBut.update
abbrev Zf:=@Array.length_toList
abbrev Zg:=@PySem.wpAny_fieldsOf
abbrev Zh:=@Eq.symm
abbrev Zi:=@PySem.Calls.spliced_cons
abbrev Zj:=@Int.fmod_lt_of_pos
abbrev Zk:=@PySem.wpAny_standAt
abbrev Zm:=@PySem.W.mg_of
abbrev Zn:=@PySem.Calls.spliced_nil
abbrev Zo:=@Nat.le_succ_of_le
abbrev Zp:=@PySem.wpAny_pyIter_slot
abbrev Zq:=@Nat.le_add_right
abbrev Zr:=@PySem.W.kat_cons
abbrev Zs:=@PySem.W.Looks.ld
abbrev Zt:=@getElem?_pos
abbrev Zu:=@PySem.W.kat_yes
abbrev Zv:=@PySem.W.kat_one
abbrev ak:=List (List Int)
abbrev ab:=List Int
abbrev aK:=List Nat
abbrev ao:=List PySem.Str
abbrev ag:=List PySem.Value
abbrev aw:=List PySem.Expr
abbrev aP:=List PySem.Addr
abbrev bj:=List PySem.Stmt
abbrev aC:=List Rat
abbrev aN:=Array PySem.Value
abbrev ai:=PySem.W.Frag
abbrev aq:=PySem.Value->PySem.Shared->Prop
abbrev ah:=List (PySem.Addr×PySem.Obj)
abbrev af:=PySem.Addr->Prop
abbrev aU:=PySem.Str->Option PySem.Value
abbrev az:=PySem.Program
abbrev av:=PySem.Around
namespace L2
open PySem PySem.Spec PyProof.Rows
noncomputable abbrev Key:=Sum Int Str
def Ee:Key->Value->Bool
 |.inl k,v=>Value.isInt k v
 |.inr x,v=>Value.isStrOf x v
def Po(w:World):Key->Int
 |.inl k=>hashInt k
 |.inr x=>hashStr w x
theorem bO:∀{k:Key} {v:Value},Ee k v=true->(∃i t,k=Sum.inl i/\v=Value.int i t)\/(∃x t,k=Sum.inr x/\v=Value.str x t)
 |.inl i,v,h=>by
  obtain⟨t,e⟩:=Value.isInt_shape (k:=i) (v:=v) h;exact .inl ⟨i,t,rfl,e⟩
 |.inr x,v,h=>by
  obtain⟨t,e⟩:=Value.isStrOf_shape (x:=x) (v:=v) h;exact .inr ⟨x,t,rfl,e⟩
theorem GN(a b:Int):decide ((Sum.inl a:Key)=Sum.inl b)=(a==b):=by
 by_cases e:a=b
 ·subst e;simp
 ·have h:¬ (Sum.inl a:Key)=Sum.inl b:=λq=>e (Sum.inl.inj q);rw[decide_eq_false h];exact(beq_eq_false_iff_ne.mpr e).symm
theorem GI(a b:Str):decide ((Sum.inr a:Key)=Sum.inr b)=decide (a=b):=by
 by_cases e:a=b
 ·subst e;simp
 ·have h:¬ (Sum.inr a:Key)=Sum.inr b:=λq=>e (Sum.inr.inj q);rw[decide_eq_false h,decide_eq_false e]
theorem GL(a:Int)(b:Str):decide ((Sum.inl a:Key)=Sum.inr b)=false:=XY (λq=>nomatch q)
theorem GJ(a:Str)(b:Int):decide ((Sum.inr a:Key)=Sum.inl b)=false:=XY (λq=>nomatch q)
def uP(prog:az)(w:World):PySem.KeyKind prog w Key where
 is:=Ee
 hash:=Po w
 inj:=λv a b ha hb=>by
  rcases bO ha with ⟨i,t,rfl,rfl⟩|⟨x,t,rfl,rfl⟩
  ·rcases bO hb with ⟨j,u,rfl,e⟩|⟨y,u,rfl,e⟩
   ·injection e with e1 _;rw[e1]
   ·exact nomatch e
  ·rcases bO hb with ⟨j,u,rfl,e⟩|⟨y,u,rfl,e⟩
   ·exact nomatch e
   ·injection e with e1 _;rw[e1]
 byValue:=λk v h=>by
  rcases bO h with ⟨i,t,rfl,rfl⟩|⟨x,t,rfl,rfl⟩<;>rfl
 pyHash:=λhv h=>by
  rcases bO hv with ⟨i,t,rfl,rfl⟩|⟨x,t,rfl,rfl⟩
  ·exact wpAny_pyHash_int h
  ·exact wpAny_pyHash_str h
 eqBool:=λhu hv h=>by
  rcases bO hu with ⟨i,t,rfl,rfl⟩|⟨x,t,rfl,rfl⟩
  ·rcases bO hv with ⟨j,u,rfl,rfl⟩|⟨y,u,rfl,rfl⟩
   ·rw[GN]at h;exact wpAny_eqBool_int h
   ·rw[GL]at h;exact SeqAt.EqAt.int_str i t y u _ _ _ _ h
  ·rcases bO hv with ⟨j,u,rfl,rfl⟩|⟨y,u,rfl,rfl⟩
   ·rw[GJ]at h;exact SeqAt.EqAt.str_int x t j u _ _ _ _ h
   ·rw[GI]at h;exact wpAny_eqBool_str h
 «strs»:=λk x t v h=>by
  rcases bO h with ⟨i,u,rfl,e⟩|⟨y,u,rfl,e⟩
  ·exact nomatch e
  ·injection e with e1 _
   subst e1;cases v<;>rfl
end L2
namespace L2
open PySem PySem.Spec PyProof.Rows
inductive V where
 |bN|bl (b:Bool)|int (i:Int)|str (x:Str)|Rz (b:Array UInt8)|Mr (b:UInt64)|ref (a:Addr)|ty (n:String)
 deriving DecidableEq
abbrev ae:=List V
noncomputable def RelV:V->Value->Prop
 |.bN,u=>u=Value.none
 |.bl b,u=>u=Value.bool b
 |.int i,u=>∃t,u=Value.int i t
 |.str x,u=>∃t,u=Value.str x t
 |.Rz b,u=>∃t,u=Value.bytes b t
 |.Mr b,u=>∃t,u=Value.float b t
 |.ref a,u=>u=Value.ref a
 |.ty n,u=>u=Value.type n
abbrev Vals:ae->ag->Prop:=Paired RelV
theorem Vals.length{xs:ae}{us:ag}(r:Vals xs us):xs.length=us.length:=Paired.length r
theorem Vals.get:∀{xs:ae} {us:ag} {i:Nat} {x:V},Vals xs us->xs[i]?=some x->∃u,us[i]?=some u/\RelV x u
 |_,_,_,_,.nil,e=>by simp at e
 |_,_,0,_,.cons r _,e=>by simp at e;subst e;exact⟨_,rfl,r⟩
 |_,_,i+1,x,.cons _ t,e=>by
  obtain⟨u,h1,h2⟩:=Vals.get (i:=i) (x:=x) t (by simpa using e);exact⟨u,by simpa using h1,h2⟩
theorem Vals.append:∀{xs ys:ae} {us ws:ag},Vals xs us->Vals ys ws->Vals (xs++ys) (us++ws)
 |_,_,_,_,.nil,s=>s
 |_,_,_,_,.cons r t,s=>.cons r (Vals.append t s)
theorem Vals.take:∀{xs:ae} {us:ag} (n:Nat),Vals xs us->Vals (xs.take n) (us.take n)
 |_,_,0,_=>.nil
 |_,_,_+1,.nil=>.nil
 |_,_,n+1,.cons r t=>.cons r (Vals.take n t)
theorem Vals.drop:∀{xs:ae} {us:ag} (n:Nat),Vals xs us->Vals (xs.drop n) (us.drop n)
 |_,_,0,r=>r
 |_,_,_+1,.nil=>.nil
 |_,_,n+1,.cons _ t=>Vals.drop n t
def ue:Option V->Option Value->Prop
 |some v,some u=>RelV v u
 |none,none=>True
 |_,_=>False
def KV{κ:Type}:List (κ×V)->List (κ×Value)->Prop:=Paired λ(p:κ×V) (q:κ×Value)=>p.1=q.1/\RelV p.2 q.2
def kV:Key->V
 |.inl i=>.int i
 |.inr x=>.str x
inductive HO where
 |lst (xs:ae)
 |tup (xs:ae)
 |dK (lV:List (Key×V))|dT (lV:List (List Key×V))
 |set (S:Int->Bool) (n:Nat)
 |ins (C dx:Addr) (fs:List (Str×V))
 |own (x:Addr)
 |xd (fs:List (Str×V))
 |met (f x:Addr)
 |kI (lo hi:Int)
 |gp (o:Obj) (u:HO)
 |DR (ps:aN)
 |ext (φ:Heap->Prop)
noncomputable abbrev Hp:=Addr->Option HO
noncomputable def upd(H:Hp)(a:Addr)(o:HO):Hp:=λb=>if b=a then some o else H b
theorem aT{H:Hp}{a:Addr}{o:HO}:upd H a o a=some o:=by unfold upd;rw[if_pos rfl]
theorem aQ{H:Hp}{a b:Addr}{o:HO}(h:b≠a):upd H a o b=H b:=by unfold upd;rw[if_neg h]
theorem bR{H:Hp}{a b:Addr}{o:HO}(h:H a=some o)(h':H b=none):a≠b:=by
 intro e;subst e;rw[h]at h';cases h'
section
variable (P:az)(w:World)
def b8(H:Hp)(h:Heap)(a:Addr):HO->Prop
 |.lst xs=>xs.length<=sizeLine/\∃(aH:ag) (n:Nat),Vals xs aH/\h.get? a=some { cls:=.type "list",data:=.seq aH.toArray n }
 |.tup xs=>xs.length<=sizeLine/\∃aH:ag,Vals xs aH/\IsTup h a aH.toArray
 |.dK lV=>lV.length<=sizeLine/\(a==sysModules)=false/\∃vs,KV lV vs/\h.DictOf (uP P w) a vs
 |.dT lV=>lV.length<=sizeLine/\(a==sysModules)=false/\∃xs:List (List Key×Addr×Value),
   Paired (λ(p:List Key×V) (q:List Key×Addr×Value)=>p.1=q.1/\H q.2.1=some (.tup (p.1.map kV))/\RelV p.2 q.2.2) lV xs /\
   ∃o es ep,h.get? a=some o/\o.ExactDict/\o.data=.dict es ep/\es.toList=xs.map (entryOfKey (tupleKind (uP P w)))/\(xs.map (·.1)).Nodup
 |.set S n=>h.SetOf (intKind P w) a S n
 |.ins C dx fs=>H dx=some (.own a)/\fs.length<=1000/\dx≠a/\h.get? a=some (PySem.W.instObj C dx) /\
   ∃mA,h.Ns1 dx mA/\(∀f,ue (fs.lookup f) (mA f))/\PySem.Within mA (fs.map (·.1))
 |.own _=>∃o,h.get? a=some o
 |.xd fs=>∃mA,h.Ns1 a mA/\∀f,ue (fs.lookup f) (mA f)
 |.kI lo hi=>∃t u v,h.get? a=some { cls:=.type "range",data:=.fields #[.int lo t,.int hi u,.int 1 v] }
 |.gp o u=>h.get? a=some o/\b8 H h a u
 |.DR ps=>h.get? a=some { cls:=.none,data:=.fields ps }
 |.met f x=>h.get? a=some (PySem.W.methodObj (.ref f) (.ref x))
 |.ext φ=>φ h/\(∃o,h.get? a=some o)/\∀h1 h2:Heap,φ h1->(∀o,h1.get? a=some o->h2.get? a=some o)->φ h2
def jU(H:Hp)(h:Heap):Prop:=∀a o,H a=some o->b8 P w H h a o
end
section
variable {P:az}{w:World}{H H':Hp}{h h':Heap}{a:Addr}{o:HO}
theorem b8.lt(x:b8 P w H h a o):a<h.objs.size:=by
 cases o with
 |lst xs=>obtain⟨_,_,_,_,e⟩:=x;exact Xk e
 |tup xs=>obtain⟨_,_,_,p⟩:=x;exact p.lt
 |dK lV=>obtain⟨_,_,_,_,o,_,_,e,_⟩:=x;exact Xk e
 |dT lV=>obtain⟨_,_,_,_,o,_,_,e,_⟩:=x;exact Xk e
 |set S n=>obtain⟨o,_,_,_,e,_⟩:=x;exact Xk e
 |ins C dx fs=>obtain⟨_,_,_,e,_⟩:=x;exact Xk e
 |own y=>obtain⟨_,e⟩:=x;exact Xk e
 |xd fs=>obtain⟨_,⟨_,_,_,e,_⟩,_⟩:=x;exact Xk e
 |kI lo hi=>obtain⟨_,_,_,e⟩:=x;exact Xk e
 |gp ob u=>obtain⟨e,_⟩:=x;exact Xk e
 |DR ps=>exact Xk (show h.get? a=some _ from x)
 |met f y=>exact Xk (show h.get? a=some _ from x)
 |ext φ=>obtain⟨_,⟨_,e⟩,_⟩:=x;exact Xk e
theorem Paired.Le{α β:Type}{F G:α->β->Prop}:∀{l₁:List α} {l₂:List β},Paired F l₁ l₂->(∀a b,F a b->G a b)->Paired G l₁ l₂
 |_,_,.nil,_=>.nil
 |_,_,.cons r t,f=>.cons (f _ _ r) (Paired.Le t f)
theorem b8.i5(x:b8 P w H h a o)(k:∀b u,(b=a\/H b=some (.own a))->h.get? b=some u->h'.get? b=some u)
  (ho:∀b,H b=some (.own a)->H' b=some (.own a)) (ht:∀b xs,H b=some (.tup xs)->H' b=some (.tup xs)):b8 P w H' h' a o:=by
 induction o with
 |lst xs=>obtain⟨z,aH,n,r,e⟩:=x;exact⟨z,aH,n,r,k _ _ (.inl rfl) e⟩
 |tup xs=>obtain⟨z,aH,r,ob,e,c⟩:=x;exact⟨z,aH,r,ob,k _ _ (.inl rfl) e,c⟩
 |dK lV=>obtain⟨z,y,vs,r,ob,es,ep,e,c⟩:=x;exact⟨z,y,vs,r,ob,es,ep,k _ _ (.inl rfl) e,c⟩
 |dT lV =>
  obtain⟨z,y,xs,r,ob,es,ep,e,c⟩:=x;exact⟨z,y,xs,Paired.Le r λp q z=>⟨z.1,ht _ _ z.2.1,z.2.2⟩,ob,es,ep,k _ _ (.inl rfl) e,c⟩
 |set S n=>obtain⟨ob,es,ep,t,e,c⟩:=x;exact⟨ob,es,ep,t,k _ _ (.inl rfl) e,c⟩
 |ins C dx fs =>
  obtain⟨d,z,ne,e,mA,⟨od,es,ep,e2,c⟩,r⟩:=x;exact⟨ho _ d,z,ne,k _ _ (.inl rfl) e,mA,⟨od,es,ep,k _ _ (.inr d) e2,c⟩,r⟩
 |own y=>obtain⟨ob,e⟩:=x;exact⟨ob,k _ _ (.inl rfl) e⟩
 |xd fs=>obtain⟨mA,⟨od,es,ep,e,c⟩,r⟩:=x;exact⟨mA,⟨od,es,ep,k _ _ (.inl rfl) e,c⟩,r⟩
 |kI lo hi=>obtain⟨t,u,v,e⟩:=x;exact⟨t,u,v,k _ _ (.inl rfl) e⟩
 |gp ob u ih=>obtain⟨e,q⟩:=x;exact⟨k _ _ (.inl rfl) e,ih q⟩
 |DR ps =>
  have e:h.get? a=some { cls:=.none,data:=.fields ps }:=x;show h'.get? a=some { cls:=.none,data:=.fields ps };exact k a _ (.inl rfl) e
 |met f y =>
  have e:h.get? a=some (PySem.W.methodObj (.ref f) (.ref y)):=x;show h'.get? a=some (PySem.W.methodObj (.ref f) (.ref y));exact k a _ (.inl rfl) e
 |ext φ=>obtain⟨p,⟨o,e⟩,st⟩:=x;exact⟨st _ _ p λo q=>k _ _ (.inl rfl) q,⟨o,k _ _ (.inl rfl) e⟩,st⟩
theorem jU.lt(x:jU P w H h)(e:H a=some o):a<h.objs.size:=(x a o e).lt
theorem jU.fresh(x:jU P w H h)(e:h.objs.size<=a):H a=none:=by
 cases q:H a with
 |none=>rfl
 |some u=>exact absurd (Xu (x.lt q) e) (XA _)
theorem jU.kept(x:jU P w H h)(k:∀b u,h.get? b=some u->h'.get? b=some u):jU P w H h':=λa o e =>
 (x a o e).i5 (λb u _ q=>k b u q) (λ_ q=>q) λ_ _ q=>q
theorem jU.laid(x:jU P w H h)(k:∀b u,h.get? b=some u->h'.get? b=some u)(hp:h.objs.size<=a)(new:b8 P w (upd H a o) h' a o):jU P w (upd H a o) h':=λb u e=>by
 have hn:=x.fresh hp;by_cases hb:b=a
 ·subst hb;rw[aT]at e;cases e;exact new
 ·rw[aQ hb]at e;exact(x b u e).i5 (λc v _ q=>k c v q) (λc q=>by rw[aQ (bR q hn)];exact q) λc xs q=>by rw[aQ (bR q hn)];exact q
end
def Rd(H:Hp)(a:Addr)(u:HO):Prop:=H a=some u\/∃o,H a=some (.gp o u)
theorem Rd.ok{P:az}{w:World}{H:Hp}{h:Heap}{a:Addr}{u:HO}(r:Rd H a u)(x:jU P w H h):b8 P w H h a u:=by
 rcases r with r|⟨o,r⟩
 ·exact x a u r
 ·obtain⟨_,q⟩:=x a _ r;exact q
noncomputable def Od:Option HO->Prop
 |some (.lst _)=>True
 |some (.dK _)=>True
 |some (.dT _)=>True
 |some (.set _ _)=>True
 |some (.ins _ _ _)=>True
 |some (.ext _)=>True
 |_=>False
section
variable {P:az}{w:World}{H:Hp}{h h':Heap}{x e:Addr}{o':HO}
theorem jU.write(ok:jU P w H h)(mu:Od (H x))(he:e=x\/H e=some (.own x))(k:∀b u,b≠e->h.get? b=some u->h'.get? b=some u)(Jm:∃u,h'.get? e=some u)
  (new:b8 P w (upd H x o') h' x o'):jU P w (upd H x o') h':=λb u q=>by
 have K6:∀c y,H c=some (.own y)->c≠x:=λc y r z=>by subst z;rw[r]at mu;exact mu
 have Pe:∀c xs,H c=some (.tup xs)->c≠x:=λc xs r z=>by subst z;rw[r]at mu;exact mu
 by_cases hb:b=x
 ·subst hb;rw[aT]at q;cases q;exact new
 ·rw[aQ hb]at q;by_cases Hi:b=e
  ·have q':H b=some (.own x):=by
    rcases he with z|z
    ·exact absurd (Hi.trans z) hb
    ·rw[Hi];exact z
   rw[q]at q';cases q';obtain⟨v,hv⟩:=Jm;exact⟨v,by rw[Hi];exact hv⟩
  ·refine(ok b u q).i5 (λc v hc r=>k c v ?_ r) (λc r=>by rw[aQ (K6 c b r)];exact r) λc xs r=>by rw[aQ (Pe c xs r)];exact r
   rcases hc with rfl|hc
   ·exact Hi
   ·rintro rfl;rcases he with z|z
    ·exact K6 c b hc z
    ·rw[hc]at z;cases z;exact hb rfl
end
structure Un(fs ex:aP)(H H':Hp)(h h':Heap):Prop where
 keep:∀b o,h.get? b=some o->H b=none->b∉fs->b∉ex->h'.get? b=some o
 slot:∀b o,h.get? b=some o->H b=none->b∈fs->b∉ex->∃sl,h'.get? b=some { o with slots:=sl }
 free:∀b o,h.get? b=some o->H b=none->b∉ex->H' b=none
 there:∀b o,h.get? b=some o->b∉ex->∃o',h'.get? b=some o'
 oy:∀b xs,H b=some (.tup xs)->H' b=some (.tup xs)
 m6:∀b o u,H b=some (.gp o u)->H' b=some (.gp o u)
 oz:∀b ps,H b=some (.DR ps)->∃more,H' b=some (.DR (ps++more))
section
variable {fs V7 ex Q9:aP}{H H1 H2:Hp}{h h1 h2 h':Heap}{a x e:Addr}{o:HO}
theorem Un.any(u:Un fs ex H H1 h h1){b:Addr}{ob:Obj}(q:h.get? b=some ob)(n:H b=none)(hx:b∉ex):∃sl,h1.get? b=some { ob with slots:=sl }:=by
 by_cases hb:b∈fs
 ·exact u.slot b ob q n hb hx
 ·exact⟨ob.slots,u.keep b ob q n hb hx⟩
theorem Un.kept(k:∀b u,h.get? b=some u->h'.get? b=some u):Un fs ex H H h h' :=
 ⟨λb ob q _ _ _=>k b ob q,λb ob q _ _ _=>⟨ob.slots,k b ob q⟩,λ_ _ _ n _=>n,λb ob q _=>⟨ob,k b ob q⟩,λ_ _ q=>q,λ_ _ _ q=>q,λ_ ps q=>⟨#[],by rw[q];simp⟩⟩
theorem Un.refl:Un fs ex H H h h:=Un.kept λ_ _ q=>q
theorem Un.laid(k:∀b u,h.get? b=some u->h'.get? b=some u)(hp:h.objs.size<=a)(hn:H a=none):Un fs ex H (upd H a o) h h' where
 keep:=λb u q _ _ _=>k b u q
 slot:=λb u q _ _ _=>⟨u.slots,k b u q⟩
 free:=λb u q n _=>by rw[aQ (Nat.ne_of_lt (Nat.lt_of_lt_of_le (Heap.lt_size q) hp))];exact n
 there:=λb u q _=>⟨u,k b u q⟩
 oy:=λb xs q=>by rw[aQ (bR q hn)];exact q
 m6:=λb u xs q=>by rw[aQ (bR q hn)];exact q
 oz:=λb ps q=>⟨#[],by rw[aQ (bR q hn),q];simp⟩
theorem Un.write(mu:Od (H x))(he:e=x\/H e=some (.own x))(k:∀b u,b≠e->h.get? b=some u->h'.get? b=some u)(Jm:∃u,h'.get? e=some u):Un fs ex H (upd H x o) h h':=by
 have hx:∀b,H b=none->b≠x:=λb n z=>by subst z;rw[n]at mu;exact mu
 have hb:∀b,H b=none->b≠e:=λb n z=>by
  subst z;rcases he with r|r
  ·exact hx b n r
  ·rw[n]at r;cases r
 have hm:∀b u,H b=some u->¬ Od (some u)->b≠x:=λb u q nm z=>by subst z;rw[q]at mu;exact nm mu
 refine⟨λb u q n _ _=>k b u (hb b n) q,λb u q n _ _=>⟨u.slots,k b u (hb b n) q⟩,λb u q n _=>by rw[aQ (hx b n)];exact n,λb u q _=>?_,
  λb xs q=>by rw[aQ (hm b _ q λz=>z)];exact q,λb u xs q=>by rw[aQ (hm b _ q λz=>z)];exact q,λb ps q=>⟨#[],by rw[aQ (hm b _ q λz=>z),q];simp⟩⟩
 by_cases Hi:b=e
 ·subst Hi;exact Jm
 ·exact⟨u,k b u Hi q⟩
end
noncomputable def M9(h:Heap)(H:Hp):aP:=(List.range h.objs.size).filter λa=>(H a).isSome
def o6(h:Heap)(H:Hp):Heap:=PySem.W.hideAll h (M9 h H)
theorem wZ(h:Heap)(H:Hp):(o6 h H).objs.size=h.objs.size:=PySem.W.hideAll_size _ _
variable {o:Obj}
theorem zQ{h:Heap}{H:Hp}{b:Addr}(e:h.get? b=some o)(n:H b=none):(o6 h H).get? b=some o :=
 PySem.W.hideAll_get _ e λhm=>by
  have q:(H b).isSome=true:=(List.mem_filter.mp hm).2;rw[n]at q;simp at q
theorem Cd{h:Heap}{H:Hp}{b:Addr}(e:(o6 h H).get? b=some o):h.get? b=some o/\H b=none:=by
 have e':h.get? b=some o:=PySem.W.of_hideAll (M9 h H) e;refine⟨e',?_⟩;cases q:H b with
 |none=>rfl
 |some x =>
  have hm:b∈M9 h H:=List.mem_filter.mpr ⟨List.mem_range.mpr (Xk e'),by simp[q]⟩;have z:(o6 h H).get? b=none:=PySem.W.hideAll_none (M9 h H) hm;rw[z]at e;cases e
end L2
namespace L2
open PySem PySem.Spec PyProof.Rows
structure Mod(K:ai)(mg:aU)(base:Heap):Prop where
 Pn:K.In base
 glob:base.Ns mainGlobals mg
 blt:∃mb,base.Ns builtinsNs mb/\∀x:Str,x ≠ "__name__" -> mb x=bootBuiltins x
 nolimit:base.NoLimit
structure Cx where
 prog:az
 w:World
 K:ai
 mg:aU
 base:Heap
 A:av
 N:ao
 s₀:Shared
 H₀:Hp
 env:Env
 outer:List Env
 stack:List Env
 ex:aP
 fn:Str->Bool
 calm:Bool
 pn:ah
 xe:aq
noncomputable def xM(l:List Env):aP:=l.filterMap (·.frame)
abbrev Cx.fs(X:Cx):aP:=xM X.outer
def IE(sc:Scope)(x:Str):Prop:=sc.names.lookup x=some .local\/sc.names.lookup x=some .cell\/sc.names.lookup x=some .free
def Loc(sc:Scope)(x:Str):Prop:=sc.names.lookup x=some .local\/sc.names.lookup x=some .cell
noncomputable def Look(env:Env)(h:Heap)(m:aU)(x:Str)(u:Value):Prop :=
 (env.kindOf x=some .local/\m x=some u)\/((env.kindOf x=some .cell\/env.kindOf x=some .free)/\∃c,env.cells.lookup x=some c/\h.IsCell c (some u))
structure Cx.Ok(X:Cx):Prop where
 mod:Mod X.K X.mg X.base
 kind:X.env.scope.kind=.function
 glob:X.env.globals=mainGlobals
 blt:X.env.builtins=builtinsNs
 above:X.s₀.heap.objs.size<=X.env.locals
 inj:∀x y c,X.env.cells.lookup x=some c->X.env.cells.lookup y=some c->x=y
 has:∀x,(X.env.kindOf x=some .cell\/X.env.kindOf x=some .free)->∃c,X.env.cells.lookup x=some c
 MN:∀x c,X.fn x=true->X.env.cells.lookup x=some c->X.s₀.heap.objs.size<=c
 hd:X.calm=true->X.A.handled=none
 frames:X.A.frames=some X.stack
 Nc:X.stack=X.outer\/(X.stack=X.env::X.outer/\X.env.frame=some X.env.locals)
 Tt:∀b∈X.ex,b≠X.env.locals/\∀x c,X.env.cells.lookup x=some c->c≠b
 bs:∀b o,X.base.get? b=some o->X.s₀.heap.get? b=some o/\X.H₀ b=none
 ED:X.base.objs.size<=X.s₀.heap.objs.size
 y9:∀b o,X.base.get? b=some o->b∉X.ex
 CT:∀b∈X.ex,b∉X.fs
 kA:X.s₀.heap.FunFrames X.base X.outer
 Js:∀b∈X.fs,X.H₀ b=none
structure Inv(X:Cx)(pins:ah)(σ:List (Option V))(H:Hp)(s:Shared):Prop where
 ok:X.Ok
 os:s.os=X.s₀.os
 bare:AllBare s.gens
 base:Un X.fs X.ex X.H₀ H X.s₀.heap s.heap
 loc:∃m,s.heap.Ns X.env.locals m/\∀(i:Nat) (x:Str) (v:V),X.N[i]?=some x->σ[i]?=some (some v)->IE X.env.scope x->∃u,RelV v u/\Look X.env s.heap m x u
 cell:∀x c,X.env.cells.lookup x=some c->∃v,s.heap.IsCell c v
 free:H X.env.locals=none
 iq:∀x c,X.env.cells.lookup x=some c->H c=none
 pin:∀p∈X.pn++pins,s.heap.get? p.1=some p.2/\H p.1=none/\p.1≠X.env.locals/\p.1∉X.fs/\∀v,p.2.data≠.cell v
 cq:jU X.prog X.w H s.heap
 len:σ.length=X.N.length
variable {A:av}{E:Value->Shared->Prop}{Q:Unit->Shared->Prop}{ch:aP}{t':Nat}
section
variable {X:Cx}{pins:ah}{σ:List (Option V)}{H H':Hp}{s:Shared}{h':Heap}
theorem Cx.Ok.Pf(ok:X.Ok){b:Addr}{o:Obj}(e:X.base.get? b=some o):b∉X.fs:=λhb=>by
 have:=(ok.kA.mem hb).1;rw[e]at this;cases this
theorem Inv.bs(I:Inv X pins σ H s):∀b o,X.base.get? b=some o->s.heap.get? b=some o/\H b=none:=λb o e =>
 ⟨I.base.keep b o (I.ok.bs b o e).1 (I.ok.bs b o e).2 (I.ok.Pf e) (I.ok.y9 b o e),I.base.free b o (I.ok.bs b o e).1 (I.ok.bs b o e).2 (I.ok.y9 b o e)⟩
theorem Inv.bk(I:Inv X pins σ H s):∀b o,X.base.get? b=some o->s.heap.get? b=some o:=λb o e=>(I.bs b o e).1
theorem Inv.mod(I:Inv X pins σ H s):Mod X.K X.mg X.base:=I.ok.mod
theorem Inv.xH(I:Inv X pins σ H s):X.K.In s.heap:=I.ok.mod.Pn.keeps I.bk
theorem Inv.lt(I:Inv X pins σ H s):X.env.locals<s.heap.objs.size:=let ⟨_,hn,_⟩:=I.loc;hn.lt
theorem Inv.sz(I:Inv X pins σ H s):X.s₀.heap.objs.size<=s.heap.objs.size:=XO I.ok.above (Nat.le_of_lt I.lt)
theorem Inv.Gn(I:Inv X pins σ H s){a:Addr}(h:s.heap.objs.size<=a):a∉X.fs:=λhb=>by
 obtain⟨_,o,ho,_⟩:=I.ok.kA.mem hb;exact absurd (Xu (Xk ho) (XO I.sz h)) (XA _)
theorem Inv.Ip(I:Inv X pins σ H s):∀x c,X.env.cells.lookup x=some c->c≠X.env.locals:=λx c e z=>by
 obtain⟨v,o,ho,hd⟩:=I.cell x c e;obtain⟨m,⟨o',es,ep,fB,He,_⟩,_⟩:=I.loc;rw[z,fB]at ho;cases ho;rw[He]at hd;cases hd
theorem Inv.kA(I:Inv X pins σ H s):s.heap.FunFrames X.base X.outer:=by
 have all:∀(l:List Env),(∀b∈xM l,b∈X.fs)->X.s₀.heap.FunFrames X.base l->s.heap.FunFrames X.base l:=by
  intro l;induction l with
  |nil=>intro _ _;trivial
  |cons env r ih =>
   intro hs hl;obtain⟨hk,⟨L,o,hf,hn,ho,hd⟩,hr⟩:=hl;have hL:L∈X.fs:=hs L (by unfold xM;rw[List.filterMap_cons,hf];exact Xo);obtain⟨sl,e⟩:=I.base.slot L o ho (I.ok.Js L hL) hL λz=>I.ok.CT L z hL;exact⟨hk,⟨L,_,hf,hn,e,hd⟩,ih (λb hb=>hs b (by unfold xM;rw[List.filterMap_cons,hf];exact Xm _ hb)) hr⟩
 exact all X.outer (λ_ hb=>hb) I.ok.kA
theorem Inv.stack(I:Inv X pins σ H s):s.heap.FunFrames X.base X.stack:=by
 rcases I.ok.Nc with e|⟨e,hf⟩
 ·rw[e];exact I.kA
 ·rw[e];obtain⟨m,hn,_⟩:=I.loc;refine .cons (by rw[I.ok.kind];decide) hf hn ?_ I.kA;exact Heap.get?_none_of_le (XO I.ok.ED I.ok.above)
theorem Inv.jE(I:Inv X pins σ H s):∀b∈xM X.stack,b∈X.env.locals::X.fs:=λb hb=>by
 rcases I.ok.Nc with e|⟨e,hf⟩
 ·rw[e]at hb;exact Xm _ hb
 ·rw[e]at hb;unfold xM at hb;rw[List.filterMap_cons,hf]at hb;exact hb
theorem Inv.ur(I:Inv X pins σ H s):∀b∈xM X.stack,H b=none:=λb hb=>by
 rcases List.mem_cons.mp (I.jE b hb)with e|hb
 ·rw[e];exact I.free
 ·obtain⟨_,o,ho,_⟩:=I.ok.kA.mem hb;exact I.base.free b o ho (I.ok.Js b hb) λz=>I.ok.CT b z hb
theorem Inv.step{g':Array GenState}{d':Drawn}(I:Inv X pins σ H s)
  (AQ:∀b∈ch,(b∈X.ex\/X.s₀.heap.objs.size<=b)/\b≠X.env.locals/\(∀x c,X.env.cells.lookup x=some c->c≠b)/\∀p∈X.pn++pins,p.1≠b)
  (keep:∀b o,b≠X.env.locals->b∉X.fs->b∉ch->s.heap.get? b=some o->H b=none->h'.get? b=some o)
  (slot:∀b o,b≠X.env.locals->b∈X.fs->b∉ch->s.heap.get? b=some o->H b=none->∃sl,h'.get? b=some { o with slots:=sl }) (free:∀b o,b∉ch->s.heap.get? b=some o->H b=none->H' b=none)
  (there:∀b o,b∉ch->s.heap.get? b=some o->∃o',h'.get? b=some o')
  (oy:∀b xs,H b=some (.tup xs)->H' b=some (.tup xs)) (m6:∀b o u,H b=some (.gp o u)->H' b=some (.gp o u)) (oz:∀b ps,H b=some (.DR ps)->∃more,H' b=some (.DR (ps++more)))
  (ns:∀m,s.heap.Ns X.env.locals m->h'.Ns X.env.locals m) (cq:jU X.prog X.w H' h') (hg:AllBare g') :
  Inv X pins σ H' { s with heap:=h',gens:=g',drawn:=d',toks:=t' }:=by
 have Sd:∀b o,X.s₀.heap.get? b=some o->b≠X.env.locals:=λb o e=>Xt (Xu (Xk e) I.ok.above);have Ed:∀b o,X.s₀.heap.get? b=some o->b∉X.ex->b∉ch:=λb o e hx hb=>by
  rcases(AQ b hb).1 with z|z
  ·exact hx z
  ·exact absurd (Xu (Xk e) z) (XA _)
 have cellK:∀x c,X.env.cells.lookup x=some c->∀v,s.heap.IsCell c v->h'.IsCell c v:=λx c e v bH=>by
  obtain⟨o,ho,hd⟩:=bH;have K_:c∉ch:=λz=>(AQ c z).2.2.1 x c e rfl;by_cases hc:c∈X.fs
  ·obtain⟨sl,q⟩:=slot c o (I.Ip x c e) hc K_ ho (I.iq x c e);exact⟨_,q,hd⟩
  ·exact⟨o,keep c o (I.Ip x c e) hc K_ ho (I.iq x c e),hd⟩
 refine⟨I.ok,I.os,hg,⟨λb o e n hb hx=>?_,λb o e n hb hx=>?_,λb o e n hx=>?_,λb o e hx=>?_,λb xs e=>oy b xs (I.base.oy b xs e),λb o xs e=>m6 b o xs (I.base.m6 b o xs e),λb ps e=>?_⟩,?_,λx c e=>?_,?_,λx c e=>?_,λp hp=>?_,cq,I.len⟩
 ·exact keep b o (Sd b o e) hb (Ed b o e hx) (I.base.keep b o e n hb hx) (I.base.free b o e n hx)
 ·obtain⟨sl,e1⟩:=I.base.slot b o e n hb hx;obtain⟨UI,e2⟩:=slot b _ (Sd b o e) hb (Ed b o e hx) e1 (I.base.free b o e n hx);exact⟨UI,e2⟩
 ·obtain⟨o',e1⟩:=I.base.there b o e hx;exact free b o' (Ed b o e hx) e1 (I.base.free b o e n hx)
 ·obtain⟨o',e1⟩:=I.base.there b o e hx;exact there b o' (Ed b o e hx) e1
 ·obtain⟨m1,e1⟩:=I.base.oz b ps e;obtain⟨m2,e2⟩:=oz b _ e1;exact⟨m1++m2,by rw[e2,Array.append_assoc]⟩
 ·obtain⟨m,hn,hl⟩:=I.loc;refine⟨m,ns m hn,λi x v e1 e2 e3=>?_⟩;obtain⟨u,r,l⟩:=hl i x v e1 e2 e3;refine⟨u,r,?_⟩;rcases l with l|⟨k,c,e,z⟩
  ·exact .inl l
  ·exact .inr ⟨k,c,e,cellK x c e _ z⟩
 ·obtain⟨v,z⟩:=I.cell x c e;exact⟨v,cellK x c e v z⟩
 ·obtain⟨m,⟨o,_,_,ho,_⟩,_⟩:=I.loc;exact free _ o (λz=>(AQ _ z).2.1 rfl) ho I.free
 ·obtain⟨v,o,ho,hd⟩:=I.cell x c e;exact free c o (λz=>(AQ c z).2.2.1 x c e rfl) ho (I.iq x c e)
 ·obtain⟨e,n,ne,nf,d⟩:=I.pin p hp;have K_:p.1∉ch:=λz=>(AQ p.1 z).2.2.2 p hp rfl;exact⟨keep p.1 p.2 ne nf K_ e n,free p.1 p.2 K_ e n,ne,nf,d⟩
theorem Inv.un(I:Inv X pins σ H s)(u:Un X.fs [] H H' s.heap h')(cq:jU X.prog X.w H' h'):Inv X pins σ H' { s with heap:=h',toks:=t' }:=by
 obtain⟨m,⟨o,es,ep,ho,r⟩,_⟩:=id I.loc;obtain⟨sl,hL⟩:=u.any ho I.free (by simp);exact I.step (g':=s.gens) (d':=s.drawn) (ch:=[]) (λ_ z=>nomatch z) (λb o _ hb _ e n=>u.keep b o e n hb (by simp)) (λb o _ hb _ e n=>u.slot b o e n hb (by simp)) (λb o _ e n=>u.free b o e n (by simp)) (λb o _ e=>u.there b o e (by simp)) u.oy u.m6 u.oz (λm' hm=>by
  obtain⟨o',AU,nW,fB,r'⟩:=hm;rw[ho]at fB;cases fB;exact⟨_,AU,nW,hL,r'⟩) cq I.bare
theorem Inv.call{g':Array GenState}{d':Drawn}(I:Inv X pins σ H s)(u:Un (xM X.stack) ch H H' s.heap h')(cq:jU X.prog X.w H' h')(hg:AllBare g')
  (AQ:∀b∈ch,(b∈X.ex\/X.s₀.heap.objs.size<=b)/\b≠X.env.locals/\(∀x c,X.env.cells.lookup x=some c->c≠b)/\∀p∈X.pn++pins,p.1≠b) :
  Inv X pins σ H' { s with heap:=h',gens:=g',drawn:=d',toks:=t' }:=by
 obtain⟨m,⟨o,es,ep,ho,r⟩,_⟩:=id I.loc;obtain⟨sl,hL⟩:=u.any ho I.free λz=>(AQ _ z).2.1 rfl;exact I.step (ch:=ch) AQ (λb o hL hb hc e n=>u.keep b o e n (λz=>(List.mem_cons.mp (I.jE b z)).elim hL hb) hc) (λb o _ _ hc e n=>u.any e n hc) (λb o hc e n=>u.free b o e n hc) (λb o hc e=>u.there b o e hc) u.oy u.m6 u.oz (λm' hm=>by
  obtain⟨o',AU,nW,fB,r'⟩:=hm;rw[ho]at fB;cases fB;exact⟨_,AU,nW,hL,r'⟩) cq hg
theorem Inv.turned{it:Addr}(I:Inv X pins σ H s)(k:∀b o,b≠it->s.heap.get? b=some o->h'.get? b=some o)(hn:H it=none)(hL:it≠X.env.locals)
  (h1:it∈X.ex\/X.s₀.heap.objs.size<=it) (h2:∀x c,X.env.cells.lookup x=some c->c≠it) (h3:∀p∈X.pn++pins,p.1≠it):Inv X pins σ H { s with heap:=h',toks:=t' }:=by
 have Ec:∀b u,H b=some u->b≠it:=λb u e z=>by rw[z,hn]at e;cases e
 refine I.step (g':=s.gens) (d':=s.drawn) (ch:=[it]) (λb hb=>?_) (λb o _ _ hc e _=>k b o (λz=>hc (by simp[z])) e) (λb o _ _ hc e _=>⟨o.slots,k b o (λz=>hc (by simp[z])) e⟩) (λ_ _ _ _ n=>n)
  (λb o hc e=>⟨o,k b o (λz=>hc (by simp[z])) e⟩) (λ_ _ e=>e) (λ_ _ _ e=>e) (λb ps e=>⟨#[],by rw[e];simp⟩) (λm hm=>?_) (λb u e=>?_) I.bare
 ·have e:b=it:=by simpa using hb
  subst e;exact⟨h1,hL,h2,h3⟩
 ·obtain⟨o,es,ep,ho,r⟩:=hm;exact⟨o,es,ep,k _ o (YB hL) ho,r⟩
 ·refine(I.cq b u e).i5 (λc v hc q=>k c v ?_ q) (λ_ q=>q) λ_ _ q=>q;rcases hc with z|z
  ·rw[z];exact Ec b u e
  ·exact Ec c _ z
theorem Inv.tok(I:Inv X pins σ H s)(t:Nat):Inv X pins σ H { s with toks:=t }:=I.un (h':=s.heap) (t':=t) Un.refl I.cq
theorem Inv.kept{t':Nat}(I:Inv X pins σ H s)(k:∀b u,s.heap.get? b=some u->h'.get? b=some u):Inv X pins σ H { s with heap:=h',toks:=t' }:=I.un (Un.kept k) (I.cq.kept k)
theorem Inv.laid{a:Addr}{o:HO}{t':Nat}(I:Inv X pins σ H s)(k:∀b u,s.heap.get? b=some u->h'.get? b=some u)(hp:s.heap.objs.size<=a)(new:b8 X.prog X.w (upd H a o) h' a o):
  Inv X pins σ (upd H a o) { s with heap:=h',toks:=t' }:=I.un (Un.laid k hp (I.cq.fresh hp)) (I.cq.laid k hp new)
theorem Inv.write{x e:Addr}{o:HO}{t':Nat}(I:Inv X pins σ H s)(mu:Od (H x))(he:e=x\/H e=some (.own x))(k:∀b u,b≠e->s.heap.get? b=some u->h'.get? b=some u)(Jm:∃u,h'.get? e=some u)
  (new:b8 X.prog X.w (upd H x o) h' x o):Inv X pins σ (upd H x o) { s with heap:=h',toks:=t' }:=I.un (Un.write mu he k Jm) (I.cq.write mu he k Jm new)
theorem Inv.hJ{D8:ah}(I:Inv X pins σ H s)(h:∀p∈D8,s.heap.get? p.1=some p.2/\H p.1=none/\p.1≠X.env.locals/\p.1∉X.fs/\∀v,p.2.data≠.cell v):Inv X D8 σ H s :=
 ⟨I.ok,I.os,I.bare,I.base,I.loc,I.cell,I.free,I.iq,λp hp=>(List.mem_append.mp hp).elim (λz=>I.pin p (Xz _ z)) (h p),I.cq,I.len⟩
theorem qM{N:ao}(hN:N.Nodup){i j:Nat}{x:Str}(a:N[i]?=some x)(b:N[j]?=some x):i=j:=by
 obtain⟨h1,e1⟩:=List.getElem?_eq_some_iff.mp a;obtain⟨h2,e2⟩:=List.getElem?_eq_some_iff.mp b;exact(Yx hN).mp (e1.trans e2.symm)
theorem wa{M:Model}{i:Nat}{x:Str}{v:V}{u:Value}(I:Inv X pins σ H s)(hN:X.N.Nodup)(hi:X.N[i]?=some x)(hx:Loc X.env.scope x)(r:RelV v u)
  (h:∀s',Inv X pins (σ.set i (some v)) H s'->(∃a,Heap.SameBut a s.heap s'.heap/\(a=X.env.locals\/X.env.cells.lookup x=some a))->Q () s') (hf:X.fn x=true\/X.env.scope.names.lookup x=some .local:=by first|exact .inl rfl|exact .inr rfl|assumption):wpAny M A (storeName X.env x u) Q E s:=by
 obtain⟨m,hn,hl⟩:=id I.loc;have QC:(X.env.scope.kind==.class||(X.env.scope.kind==.module&&X.env.locals != X.env.globals))=false:=by rw[I.ok.kind];rfl
 have LV:i<σ.length:=by rw[I.len];exact(List.getElem?_eq_some_iff.mp hi).1
 have Ip:=I.Ip;have tracked:∀{a:Addr} {h':Heap},(∃o,s.heap.get? a=some o/\H a=none)->Heap.SameBut a s.heap h'->jU X.prog X.w H h':=λ{a h'} ha hs b ob e=>by
  obtain⟨_,_,En⟩:=ha;refine(I.cq b ob e).i5 (λc w' hc q=>(hs.2 c ?_).trans q) (λ_ q=>q) λ_ _ q=>q;rintro rfl;rcases hc with rfl|hc
  ·rw[En]at e;cases e
  ·rw[En]at hc;cases hc
 rcases hx with hk|hk
 ·refine wpAny_storeName_local hk hn (λh' zM hs=>?_) QC;obtain⟨oL,_,_,LP,_⟩:=id hn;refine h _ ⟨I.ok,I.os,I.bare,⟨λb o e n hb hx=>?_,λb o e n hb hx=>?_,I.base.free,λb o e hx=>?_,I.base.oy,I.base.m6,I.base.oz⟩,⟨_,zM,λj y v' e1 e2 e3=>?_⟩,λy c e=>?_,I.free,I.iq,λp hp=>?_,tracked ⟨oL,LP,I.free⟩ hs,by simpa using I.len⟩ ⟨_,hs,.inl rfl⟩
  ·exact(hs.2 b (Xt (Xu (Xk e) I.ok.above))).trans (I.base.keep b o e n hb hx)
  ·obtain⟨sl,e1⟩:=I.base.slot b o e n hb hx;exact⟨sl,(hs.2 b (Xt (Xu (Xk e) I.ok.above))).trans e1⟩
  ·obtain⟨o',e1⟩:=I.base.there b o e hx;exact⟨o',(hs.2 b (Xt (Xu (Xk e) I.ok.above))).trans e1⟩
  ·by_cases hj:j=i
   ·subst hj;rw[hi]at e1;cases e1;rw[List.getElem?_set_self LV]at e2;cases e2;exact⟨u,r,.inl ⟨hk,by simp⟩⟩
   ·rw[List.getElem?_set_ne (Ne.symm hj)]at e2;obtain⟨u',r',q⟩:=hl j y v' e1 e2 e3;refine⟨u',r',?_⟩;rcases q with ⟨k,e⟩|⟨k,c,e,z⟩
    ·refine .inl ⟨k,?_⟩;have:y≠x:=λe=>hj (qM hN e1 (e▸hi));simp[this,e]
    ·exact .inr ⟨k,c,e,z.sameBut hs (Ip y c e)⟩
  ·obtain⟨w',z⟩:=I.cell y c e;exact⟨w',z.sameBut hs (Ip y c e)⟩
  ·obtain⟨e,n,ne,nf,d⟩:=I.pin p hp;exact⟨(hs.2 p.1 ne).trans e,n,ne,nf,d⟩
 ·have tL:X.fn x=true:=by
   rcases hf with z|z
   ·exact z
   ·rw[z]at hk;cases hk
  obtain⟨c,hc⟩:=I.ok.has x (.inl hk);obtain⟨w',z⟩:=I.cell x c hc;refine wpAny_storeName_cell I.ok.kind hk hc z (λh' xK hs=>?_);obtain⟨oc,SQ,Qi⟩:=id z;refine h { s with heap:=h' } ⟨I.ok,I.os,I.bare,⟨λb o e n hb hx=>?_,λb o e n hb hx=>?_,I.base.free,λb o e hx=>?_,I.base.oy,I.base.m6,I.base.oz⟩,⟨m,hn.sameBut hs (YB (Ip x c hc)),λj y v' e1 e2 e3=>?_⟩,λy c' e=>?_,I.free,I.iq,λp hp=>?_,tracked ⟨oc,SQ,I.iq x c hc⟩ hs,by simpa using I.len⟩ ⟨c,hs,.inr hc⟩
  ·exact(hs.2 b (Xt (Xu (Xk e) (I.ok.MN x c tL hc)))).trans (I.base.keep b o e n hb hx)
  ·obtain⟨sl,e1⟩:=I.base.slot b o e n hb hx;exact⟨sl,(hs.2 b (Xt (Xu (Xk e) (I.ok.MN x c tL hc)))).trans e1⟩
  ·obtain⟨o',e1⟩:=I.base.there b o e hx;exact⟨o',(hs.2 b (Xt (Xu (Xk e) (I.ok.MN x c tL hc)))).trans e1⟩
  ·by_cases hj:j=i
   ·subst hj;rw[hi]at e1;cases e1;rw[List.getElem?_set_self LV]at e2;cases e2;exact⟨u,r,.inr ⟨.inl hk,c,hc,xK⟩⟩
   ·rw[List.getElem?_set_ne (Ne.symm hj)]at e2;obtain⟨u',r',q⟩:=hl j y v' e1 e2 e3;refine⟨u',r',?_⟩;rcases q with q|⟨k,c',e,z'⟩
    ·exact .inl q
    ·refine .inr ⟨k,c',e,z'.sameBut hs ?_⟩;rintro rfl;exact hj (qM hN e1 (I.ok.inj _ _ _ e hc▸hi))
  ·by_cases Tb:c'=c
   ·subst Tb;exact⟨_,xK⟩
   ·obtain⟨w2,z2⟩:=I.cell y c' e;exact⟨w2,z2.sameBut hs Tb⟩
  ·obtain⟨e,n,ne,nf,d⟩:=I.pin p hp;refine⟨(hs.2 p.1 ?_).trans e,n,ne,nf,d⟩;intro q;rw[q,SQ]at e;have q':oc=p.2:=Xv e;exact d w' (by rw[<- q'];exact Qi)
theorem i4{M:Model}{i:Nat}{x:Str}{v:V}{u:Value}(I:Inv X pins σ H s)(hN:X.N.Nodup)(hi:X.N[i]?=some x)(hx:Loc X.env.scope x)(r:RelV v u)
  (h:∀s',Inv X pins (σ.set i (some v)) H s'->Q () s') (hf:X.fn x=true\/X.env.scope.names.lookup x=some .local:=by first|exact .inl rfl|exact .inr rfl|assumption):wpAny M A (storeName X.env x u) Q E s :=
 wa I hN hi hx r (λs' I' _=>h s' I') hf
theorem Inv.MM{s':Shared}(I:Inv X pins σ H s)(ho:s'.os=s.os)(u:Un (xM X.stack) ch H H' s.heap s'.heap)(cq:jU X.prog X.w H' s'.heap)(hg:AllBare s'.gens)
  (AQ:∀b∈ch,(b∈X.ex\/X.s₀.heap.objs.size<=b)/\b≠X.env.locals/\(∀x c,X.env.cells.lookup x=some c->c≠b)/\∀p∈X.pn++pins,p.1≠b):Inv X pins σ H' s':=by
 obtain⟨h',g',d',t',o'⟩:=s';have e:o'=s.os:=ho;subst e;exact I.call (g':=g') (t':=t') (d':=d') u cq hg AQ
end
noncomputable abbrev XK:=Value->Option Addr->Hp->Prop
noncomputable abbrev St:=List (Option V)
noncomputable abbrev VK:=V->Hp->Prop
noncomputable abbrev TE:=St->Hp->VK->Prop
noncomputable abbrev TT:=St->Hp->(Bool->Hp->Prop)->Prop
noncomputable abbrev TA:=St->Hp->(ae->Hp->Prop)->Prop
structure Ends where
 nx:St->Hp->Prop
 rt:VK
 bk:St->Hp->Prop:=λ_ _=>False
 ct:St->Hp->Prop:=λ_ _=>False
noncomputable abbrev TS:=Ends->St->Hp->Prop
def EP(X:Cx)(pins:ah)(σ:St)(Q:VK)(u:Value)(s':Shared):Prop:=∃v H',Inv X pins σ H' s'/\RelV v u/\Q v H'
def TP(X:Cx)(pins:ah)(σ:St)(Q:Bool->Hp->Prop)(b:Bool)(s':Shared):Prop:=∃H',Inv X pins σ H' s'/\Q b H'
def AP(X:Cx)(pins:ah)(σ:St)(Q:ae->Hp->Prop)(us:ag)(s':Shared):Prop:=∃vs H',Inv X pins σ H' s'/\Vals vs us/\Q vs H'
def SP(X:Cx)(pins:ah)(D:Ends)(f:Flow)(s':Shared):Prop :=
 match f with
 |.next=>∃σ' H',Inv X pins σ' H' s'/\D.nx σ' H'
 |.brk=>∃σ' H',Inv X pins σ' H' s'/\D.bk σ' H'
 |.cont=>∃σ' H',Inv X pins σ' H' s'/\D.ct σ' H'
 |.ret u=>∃v σ' H',Inv X pins σ' H' s'/\RelV v u/\D.rt v H'
noncomputable def PE(X:Cx)(e:Expr)(t:TE):Prop :=
 ∀(pins:ah) (s:Shared) (σ:St) (H:Hp) (Q:VK),Inv X pins σ H s->t σ H Q->wpAny (model X.prog X.w) X.A (eval e X.env) (EP X pins σ Q) X.xe s
noncomputable def PT(X:Cx)(e:Expr)(t:TT):Prop :=
 ∀(pins:ah) (s:Shared) (σ:St) (H:Hp) (Q:Bool->Hp->Prop),Inv X pins σ H s->t σ H Q->wpAny (model X.prog X.w) X.A (isTrue e X.env (eval e X.env)) (TP X pins σ Q) X.xe s
noncomputable def PW(X:Cx)(e:Expr)(t:TT):Prop :=
 ∀(whole:Sem Value) (pins:ah) (s:Shared) (σ:St) (H:Hp) (Q:Bool->Hp->Prop),Inv X pins σ H s->t σ H Q->wpAny (model X.prog X.w) X.A (isTrue e X.env whole) (TP X pins σ Q) X.xe s
theorem PW.pt{X:Cx}{e:Expr}{t:TT}(h:PW X e t):PT X e t:=h _
noncomputable def PA(X:Cx)(es:aw)(t:TA):Prop :=
 ∀(pos:Pos) (pins:ah) (s:Shared) (σ:St) (H:Hp) (Q:ae->Hp->Prop),Inv X pins σ H s->t σ H Q->wpAny (model X.prog X.w) X.A (spliced (backTo pos (starEach es X.env))) (AP X pins σ Q) X.xe s
noncomputable def PS(X:Cx)(st:Stmt)(t:TS):Prop :=
 ∀(pins:ah) (s:Shared) (σ:St) (H:Hp) (D:Ends),Inv X pins σ H s->t D σ H->wpAny (model X.prog X.w) X.A (exec st X.env) (SP X pins D) X.xe s
noncomputable def lh(X:Cx)(st:bj)(t:TS):Prop :=
 ∀(pins:ah) (s:Shared) (σ:St) (H:Hp) (D:Ends),Inv X pins σ H s->t D σ H->wpAny (model X.prog X.w) X.A (execs st X.env) (SP X pins D) X.xe s
theorem cJ{α:Type}{t:Sem α}{Q Q':α->Shared->Prop}{M:Model}{s:Shared}(h:wpAny M A t Q E s)(hQ:∀a s,Q a s->Q' a s):wpAny M A t Q' E s:=XE h hQ λ_ _ x=>x
end L2
namespace L2
open PySem PySem.Spec PyProof.Rows
variable {E Q:Value->Shared->Prop}{pos:Pos}{σ:L2.St}
section
variable {X:Cx}
noncomputable def v9(i:Nat):TE:=λσ H Q=>∃v,σ[i]?=some (some v)/\Q v H
noncomputable def tC(v:V):TE:=λ_ H Q=>Q v H
theorem sZ{i:Nat}{x:Str}(hN:X.N[i]?=some x)(hv:IE X.env.scope x)(hd:(x==("__debug__" : Str))=false:=by decide)(w5:(x==("__classdict__" : Str))=false:=by decide):PE X (.Name x pos) (v9 i):=by
 intro pins s σ H Q I h;obtain⟨v,e,h⟩:=h;obtain⟨m,hn,hl⟩:=I.loc;obtain⟨u,r,l⟩:=hl i x v hN e hv;have fin:EP X pins σ Q u s:=⟨v,H,I,r,h⟩
 rcases l with ⟨hk,hm⟩|⟨hk,c,hc,hcell⟩
 ·exact wpAny_Name (wpAny_loadName_local I.ok.kind hk hn hm fin) hd
 ·rcases hk with hk|hk
  ·exact wpAny_Name (wpAny_loadName_cell I.ok.kind hk hc hcell fin) hd
  ·exact wpAny_Name (wpAny_loadName_free I.ok.kind hk hc hcell fin w5) hd
theorem F4{i j pos}:PE X (.Constant (.int i) j pos) (tC (.int i)):=λ_ _ _ H _ I h=>wpAny_Constant_int ⟨.int i,H,I.tok _,⟨_,rfl⟩,h⟩
theorem KR{b j pos}:PE X (.Constant (.bool b) j pos) (tC (.bl b)):=λ_ _ _ H _ I h=>Constant_bool ⟨.bl b,H,I,rfl,h⟩
theorem F2{j pos}:PE X (.Constant .none j pos) (tC .bN):=λ_ _ _ H _ I h=>Constant_none ⟨.bN,H,I,rfl,h⟩
def Gl(X:Cx)(x:Str):Prop:=X.env.kindOf x=some .globalImplicit
theorem uT{pins:ah}{s:Shared}{H:Hp}{x:Str}{u:Value}(I:Inv X pins σ H s)(hg:Gl X x)(hm:X.mg x=some u)(h:Q u s)
  (hd:(x==("__debug__" : Str))=false:=by decide):wpAny (model X.prog X.w) X.A (eval (.Name x pos) X.env) Q E s :=
 Calls.Name_function_global I.ok.kind hg (Calls.loadGlobal_global (by rw[I.ok.glob];exact I.mod.glob.keeps I.bk) hm h) hd
theorem eJ{pins:ah}{s:Shared}{H:Hp}{x:Str}{u:Value}(I:Inv X pins σ H s)(hg:Gl X x)(hm:X.mg x=none)(hv:bootBuiltins x=some u)(h:Q u s)
  (hn:x ≠ "__name__":=by decide) (hd:(x==("__debug__" : Str))=false:=by decide):wpAny (model X.prog X.w) X.A (eval (.Name x pos) X.env) Q E s:=by
 obtain⟨mb,h1,h2⟩:=I.mod.blt;exact Calls.Name_function_global I.ok.kind hg (Calls.loadGlobal_builtin (by rw[I.ok.glob];exact I.mod.glob.keeps I.bk) hm (by rw[I.ok.blt];exact h1.keeps I.bk) ((h2 x hn).trans hv) h) hd
theorem uJ{x:Str}{v:V}{u:Value}(hg:Gl X x)(hm:X.mg x=some u)(r:RelV v u)(hd:(x==("__debug__" : Str))=false:=by decide):PE X (.Name x pos) (tC v) :=
 λ_ _ _ H _ I h=>uT I hg hm ⟨v,H,I,r,h⟩ hd
theorem BZ{x:Str}{v:V}{u:Value}(hg:Gl X x)(hm:X.mg x=none)(hv:bootBuiltins x=some u)(r:RelV v u)(hn:x ≠ "__name__":=by decide)(hd:(x==("__debug__" : Str))=false:=by decide):PE X (.Name x pos) (tC v) :=
 λ_ _ _ H _ I h=>eJ I hg hm hv ⟨v,H,I,r,h⟩ hn hd
variable {a b:Expr}{ta tb:TE}{pos:Pos}
noncomputable def tB(t:TE):TT:=λσ H Q=>t σ H λx H1=>∃c,x=.bl c/\Q c H1
theorem FQ{e:Expr}{t:TE}(h:PE X e t)(he:∀whole,isTrue e X.env whole=(do let v <- whole;standAt e.pos;holding [v] (truthy v)):=by intro _;rfl):PT X e (tB t):=by
 intro pins s σ H Q I hw;refine isTrue_plain (cJ (h pins s σ H _ I hw) λv s1 bH=>?_) (he _);obtain⟨x,H1,I1,r1,q1⟩:=bH;obtain⟨d,rfl,q⟩:=q1;cases r1;exact X5 ⟨H1,I1,q⟩
variable {tA Nb:TT}{rest:aw}
noncomputable def Kc(t u:TT):TT:=λσ H Q=>t σ H λc H1=>if c=true then u σ H1 Q else Q false H1
noncomputable def RX(t u:TT):TT:=λσ H Q=>t σ H λc H1=>if c=true then Q true H1 else u σ H1 Q
noncomputable def Ox(t:TT):TT:=λσ H Q=>t σ H λc H1=>Q (!c) H1
theorem BO(ha:PT X a tA):PW X (.BoolOp .And [a] pos) tA:=by
 intro wh pins s σ H Q I h;refine isTrue_and (cJ (ha pins s σ H Q I h) λc s1 e=>?_);cases c with
 |true=>exact isTrue_and_nil e
 |false=>exact e
theorem FO(ha:PT X a tA):PW X (.BoolOp .Or [a] pos) tA:=by
 intro wh pins s σ H Q I h;refine isTrue_or (cJ (ha pins s σ H Q I h) λc s1 e=>?_);cases c with
 |false=>exact isTrue_or_nil e
 |true=>exact e
theorem FP(ha:PT X a tA)(hb:PW X (.BoolOp .And (b::rest) pos) Nb):PW X (.BoolOp .And (a::b::rest) pos) (Kc tA Nb):=by
 intro wh pins s σ H Q I h;refine isTrue_and (cJ (ha pins s σ H _ I h) λc s1 ⟨H1,I1,q1⟩=>?_);cases c with
 |true=>exact hb wh pins s1 σ H1 Q I1 q1
 |false=>exact⟨H1,I1,q1⟩
theorem KC(ha:PT X a tA)(hb:PW X (.BoolOp .Or (b::rest) pos) Nb):PW X (.BoolOp .Or (a::b::rest) pos) (RX tA Nb):=by
 intro wh pins s σ H Q I h;refine isTrue_or (cJ (ha pins s σ H _ I h) λc s1 ⟨H1,I1,q1⟩=>?_);cases c with
 |true=>exact⟨H1,I1,q1⟩
 |false=>exact hb wh pins s1 σ H1 Q I1 q1
theorem FR(ha:PT X a tA):PT X (.UnaryOp .Not a pos) (Ox tA):=by
 intro pins s σ H Q I h;exact isTrue_not (ha pins s σ H (λc H1=>Q (!c) H1) I h)
noncomputable def DX(ta tb:TE):TE:=λσ H Q=>ta σ H λx H1=>∃c,x=.bl c/\if c=true then tb σ H1 Q else Q (.bl false) H1
noncomputable def J6(ta tb:TE):TE:=λσ H Q=>ta σ H λx H1=>∃c,x=.bl c/\if c=true then Q (.bl true) H1 else tb σ H1 Q
noncomputable def J7(ta:TE):TE:=λσ H Q=>ta σ H λx H1=>∃c,x=.bl c/\Q (.bl (!c)) H1
theorem yV{op}{t:TE}(h:PE X a t):PE X (.BoolOp op [a] pos) t:=λpins s σ H Q I hw=>BoolOp_one (h pins s σ H Q I hw)
theorem F6(ha:PE X a ta)(hb:PE X (.BoolOp .And (b::rest) pos) tb):PE X (.BoolOp .And (a::b::rest) pos) (DX ta tb):=by
 intro pins s σ H Q I h;refine BoolOp_and (cJ (ha pins s σ H _ I h) λv s1 bH=>?_);obtain⟨x,H1,I1,r1,q1⟩:=bH;obtain⟨c,rfl,q1⟩:=q1;cases r1;refine X5 ?_;cases c with
 |true=>exact hb pins s1 σ H1 Q I1 q1
 |false=>exact⟨.bl false,H1,I1,rfl,q1⟩
theorem KN(ha:PE X a ta)(hb:PE X (.BoolOp .Or (b::rest) pos) tb):PE X (.BoolOp .Or (a::b::rest) pos) (J6 ta tb):=by
 intro pins s σ H Q I h;refine BoolOp_or (cJ (ha pins s σ H _ I h) λv s1 bH=>?_);obtain⟨x,H1,I1,r1,q1⟩:=bH;obtain⟨c,rfl,q1⟩:=q1;cases r1;refine X5 ?_;cases c with
 |false=>exact hb pins s1 σ H1 Q I1 q1
 |true=>exact⟨.bl true,H1,I1,rfl,q1⟩
theorem F1(ha:PE X a ta):PE X (.UnaryOp .Not a pos) (J7 ta):=by
 intro pins s σ H Q I h;refine UnaryOp_ (cJ (ha pins s σ H _ I h) λv s1 bH=>?_);obtain⟨x,H1,I1,r1,q1⟩:=bH;obtain⟨c,rfl,q1⟩:=q1;cases r1;exact not_of (X5 ⟨.bl (!c),H1,I1,rfl,q1⟩)
end
end L2
namespace L2
open PySem PySem.Spec PyProof.Rows
def cI(K:ai)(H:Hp)(a:Addr)(xs:ae):Prop :=
 Rd H a (.lst xs) \/
  ∃(o:Obj) (aH:aN) (n:Nat),K.lookup a=some o/\o.cls=.type "list" /\ o.dict=none/\o.data=.seq aH n/\aH.size<=sizeLine/\Vals xs aH.toList
def aR(K:ai)(H:Hp)(a:Addr)(xs:ae):Prop :=
 Rd H a (.tup xs) \/
  ∃(o:Obj) (aH:aN) (n:Nat),K.lookup a=some o/\o.cls=.type "tuple" /\ o.data=.seq aH n/\aH.size<=sizeLine/\Vals xs aH.toList
noncomputable def RF:Value->Option V
 |.none=>some .bN
 |.bool b=>some (.bl b)
 |.int i _=>some (.int i)
 |.str x _=>some (.str x)
 |.bytes b _=>some (.Rz b)
 |.float b _=>some (.Mr b)
 |.ref a=>some (.ref a)
 |.type n=>some (.ty n)
 |_=>none
theorem RelV.abs{x:V}{u:Value}(r:RelV x u):RF u=some x:=by
 cases x with
 |bN=>cases r;rfl
 |bl _=>cases r;rfl
 |int _=>obtain⟨t,rfl⟩:=r;rfl
 |str _=>obtain⟨t,rfl⟩:=r;rfl
 |Rz _=>obtain⟨t,rfl⟩:=r;rfl
 |Mr _=>obtain⟨t,rfl⟩:=r;rfl
 |ref _=>cases r;rfl
 |ty _=>cases r;rfl
theorem RelV.inj{x y:V}{u:Value}(r:RelV x u)(q:RelV y u):x=y:=Xv (r.abs.symm.trans q.abs)
theorem Vals.inj:∀{xs ys:ae} {us:ag},Vals xs us->Vals ys us->xs=ys
 |_,_,_,.nil,.nil=>rfl
 |_,_,_,.cons r t,.cons r' t'=>by rw[r.inj r',Vals.inj t t']
variable {K:ai}
section
variable {X:Cx}{pins:ah}{σ:St}{H:Hp}{s:Shared}{a:Addr}{xs ys:ae}
theorem cI.of(h:H a=some (.lst xs)):cI K H a xs:=.inl (.inl h)
theorem aR.of(h:H a=some (.tup xs)):aR K H a xs:=.inl (.inl h)
theorem Inv.list(I:Inv X pins σ H s)(h:cI X.K H a xs):∃aH:ag,Vals xs aH/\PlainL s.heap a aH.toArray/\xs.length<=sizeLine:=by
 rcases h with h|⟨o,aH,n,hk,hc,hd,hs,hz,r⟩
 ·obtain⟨z,aH,n,r,e⟩:=h.ok I.cq;exact⟨aH,r,⟨_,n,e,rfl,rfl,rfl⟩,z⟩
 ·refine⟨aH.toList,r,⟨o,n,I.xH a o hk,hc,hd,by simpa using hs⟩,?_⟩;have e:=r.length;simp only[Array.length_toList]at e;left
theorem Inv.tuple(I:Inv X pins σ H s)(h:aR X.K H a xs):∃aH:ag,Vals xs aH/\IsTup s.heap a aH.toArray/\xs.length<=sizeLine:=by
 rcases h with h|⟨o,aH,n,hk,hc,hs,hz,r⟩
 ·obtain⟨z,aH,r,p⟩:=h.ok I.cq;exact⟨aH,r,p,z⟩
 ·refine⟨aH.toList,r,⟨o,I.xH a o hk,hc,n,by simpa using hs⟩,?_⟩;have e:=r.length;simp only[Array.length_toList]at e;left
theorem Inv.gI(I:Inv X pins σ H s)(h:cI X.K H a xs)(h':cI X.K H a ys):xs=ys:=by
 obtain⟨aH,r,⟨o,n,e,_,_,d⟩,_⟩:=I.list h;obtain⟨its',r',⟨o',n',e',_,_,d'⟩,_⟩:=I.list h';rw[e]at e';cases e';rw[d]at d';injection d' with d1 _;have:aH=its':=by simpa using congrArg Array.toList d1
 subst this;exact r.inj r'
theorem Inv.nr(I:Inv X pins σ H s)(h:aR X.K H a xs)(h':aR X.K H a ys):xs=ys:=by
 obtain⟨aH,r,⟨o,e,_,n,d⟩,_⟩:=I.tuple h;obtain⟨its',r',⟨o',e',_,n',d'⟩,_⟩:=I.tuple h';rw[e]at e';cases e';rw[d]at d';injection d' with d1 _;have:aH=its':=by simpa using congrArg Array.toList d1
 subst this;exact r.inj r'
end
noncomputable abbrev Cx.mL(X:Cx)(E:aq):Cx:={ X with xe:=E }
abbrev Cx.K5(X:Cx):Cx:=X.mL λ_ _=>False
theorem Cx.Ok.mL{X:Cx}(ok:X.Ok)(E:aq):(X.mL E).Ok :=
 ⟨ok.mod,ok.kind,ok.glob,ok.blt,ok.above,ok.inj,ok.has,ok.MN,ok.hd,ok.frames,ok.Nc,ok.Tt,ok.bs,ok.ED,ok.y9,ok.CT,ok.kA,ok.Js⟩
variable {E:Value->Shared->Prop}{X:Cx}
theorem Cx.Ok.gv(ok:(X.mL E).Ok):X.Ok :=
 ⟨ok.mod,ok.kind,ok.glob,ok.blt,ok.above,ok.inj,ok.has,ok.MN,ok.hd,ok.frames,ok.Nc,ok.Tt,ok.bs,ok.ED,ok.y9,ok.CT,ok.kA,ok.Js⟩
section
variable {X:Cx}{pins:ah}{σ:St}{H:Hp}{s:Shared}{E:aq}
theorem Inv.mL(I:Inv X pins σ H s)(E:aq):Inv (X.mL E) pins σ H s:=⟨I.ok.mL E,I.os,I.bare,I.base,I.loc,I.cell,I.free,I.iq,I.pin,I.cq,I.len⟩
theorem Inv.gv(I:Inv (X.mL E) pins σ H s):Inv X pins σ H s:=⟨I.ok.gv,I.os,I.bare,I.base,I.loc,I.cell,I.free,I.iq,I.pin,I.cq,I.len⟩
theorem SP.gv{D:Ends}{f:Flow}{s':Shared}(h:SP (X.mL E) pins D f s'):SP X pins D f s':=by
 cases f with
 |next=>obtain⟨σ',H',I,q⟩:=h;exact⟨σ',H',I.gv,q⟩
 |brk=>obtain⟨σ',H',I,q⟩:=h;exact⟨σ',H',I.gv,q⟩
 |cont=>obtain⟨σ',H',I,q⟩:=h;exact⟨σ',H',I.gv,q⟩
 |ret u=>obtain⟨v,σ',H',I,r,q⟩:=h;exact⟨v,σ',H',I.gv,r,q⟩
theorem lh.K5{st:bj}{t:TS}(h:lh X.K5 st t):lh X st t:=λpins s σ H D I hw =>
 XE (h pins s σ H D (I.mL _) hw) (λ_ _ q=>q.gv) λ_ _ z=>False.elim z
end
variable {σ:L2.St}
section
variable {X:Cx}{st:Stmt}{rest:bj}{t u:TS}{e:Expr}{te:TE}{pos:Pos}
noncomputable def DV:TS:=λD σ H=>D.nx σ H
noncomputable def Ou(t u:TS):TS:=λD σ H=>t { D with nx:=u D } σ H
theorem BP:lh X [] DV:=λ_ _ σ H _ I h=>wpAny_execs_nil ⟨σ,H,I,h⟩
theorem yJ(h1:PS X st t)(h2:lh X rest u):lh X (st::rest) (Ou t u):=by
 intro pins s σ H D I h;refine wpAny_execs_cons (cJ (h1 pins s σ H { D with nx:=u D } I h) λf s1 q=>?_);cases f with
 |next =>
  obtain⟨σ',H',I',q⟩:=q;exact h2 pins s1 σ' H' D I' q
 |ret v=>exact q
 |brk=>exact q
 |cont=>exact q
theorem Inv.quiet{pins:ah}{H:Hp}{s:Shared}(I:Inv X pins σ H s):interactive X.env=false:=by simp[interactive,I.ok.kind]
noncomputable def J9(te:TE):TS:=λD σ H=>te σ H λ_ H1=>D.nx σ H1
theorem oN(he:PE X e te)(hs:swapsWith e none pos.line X.env=pure false:=by rfl):PS X (.Expr e pos) (J9 te):=by
 intro pins s σ H D I h;exact wpAny_Expr_any (cJ (he pins s σ H _ I h) λv s1 ⟨x,H1,I1,r1,q1⟩=>⟨σ,H1,I1,q1⟩) I.quiet hs
noncomputable def Ov(te:TE):TS:=λD σ H=>te σ H D.rt
theorem FT(he:PE X e te):PS X (.Return (some e) pos) (Ov te):=by
 intro pins s σ H D I h;exact wpAny_Return_some (cJ (he pins s σ H _ I h) λv s1 ⟨x,H1,I1,r1,q1⟩=>⟨x,σ,H1,I1,r1,q1⟩)
noncomputable def Oz(c:TT)(t u:TS):TS:=λD σ H=>c σ H λb H1=>if b=true then t D σ H1 else u D σ H1
theorem KG{c:Expr}{a b:bj}{tc:TT}(hc:PT X c tc)(ha:lh X a t)(hb:lh X b u):PS X (.If c a b pos) (Oz tc t u):=by
 intro pins s σ H D I h;refine wpAny_If (cJ (hc pins s σ H _ I h) λd s1 ⟨H1,I1,q1⟩=>?_);cases d with
 |true=>exact ha pins s1 σ H1 D I1 q1
 |false=>exact hb pins s1 σ H1 D I1 q1
end
noncomputable abbrev TG:=V->St->Hp->(St->Hp->Prop)->Prop
noncomputable abbrev DE:=ae->St->Hp->(St->Hp->Prop)->Prop
def PG(X:Cx)(target:Expr)(t:TG):Prop :=
 ∀(pins:ah) (s:Shared) (σ:St) (H:Hp) (v:V) (u:Value) (Q:St->Hp->Prop),Inv X pins σ H s->RelV v u->t v σ H Q ->
  wpAny (model X.prog X.w) X.A (assign target X.env u) (λ_ s'=>∃σ' H',Inv X pins σ' H' s'/\Q σ' H') X.xe s
def JB(X:Cx)(ts:aw)(t:DE):Prop :=
 ∀(pins:ah) (s:Shared) (σ:St) (H:Hp) (vs:ae) (us:ag) (Q:St->Hp->Prop),Inv X pins σ H s->Vals vs us->t vs σ H Q ->
  wpAny (model X.prog X.w) X.A (assignInOrder ((assignEach ts X.env).map (·.2)) us) (λ_ s'=>∃σ' H',Inv X pins σ' H' s'/\Q σ' H') X.xe s
noncomputable abbrev Ob:=V->V->Hp->VK->Prop
def Oc(X:Cx)(op:Operator)(t:Ob):Prop :=
 ∀(pins:ah) (s:Shared) (σ:St) (H:Hp) (x y:V) (v u:Value) (Q:VK),Inv X pins σ H s->RelV x v->RelV y u->t x y H Q ->
  wpAny (model X.prog X.w) X.A (inplaceOp op v u) (EP X pins σ Q) X.xe s
variable {es:aw}{te:TE}{tg:Expr}
section
variable {X:Cx}{pos:Pos}
noncomputable def nP(i:Nat):TG:=λv σ H Q=>Q (σ.set i (some v)) H
theorem oO{i:Nat}{x:Str}(hN:X.N.Nodup)(hi:X.N[i]?=some x)(hx:Loc X.env.scope x)(hf:X.fn x=true\/X.env.scope.names.lookup x=some .local:=by first|exact .inl rfl|exact .inr rfl|assumption):PG X (.Name x pos) (nP i):=by
 intro pins s σ H v u Q I r h;exact wpAny_assign_Name (i4 I hN hi hx r (λs' I'=>⟨_,H,I',h⟩) hf)
noncomputable def Hu:DE:=λvs σ H Q=>vs=[]/\Q σ H
noncomputable def z9(t:TG)(u:DE):DE:=λvs σ H Q=>∃v r,vs=v::r/\t v σ H λσ' H'=>u r σ' H' Q
theorem uH:JB X [] Hu:=by
 intro pins s σ H vs us Q I r h;obtain⟨e,h⟩:=h;subst e;cases r;exact assignInOrder_nil ⟨σ,H,I,h⟩
theorem qG{e:Expr}{t:TG}{u:DE}(h1:PG X e t)(h2:JB X es u)
  (hs:(assignEach (e::es) X.env).map (·.2)=assign e X.env::(assignEach es X.env).map (·.2):=by rfl):JB X (e::es) (z9 t u):=by
 intro pins s σ H vs us Q I r h;obtain⟨v,vr,e1,h⟩:=h;subst e1;cases r with
 |cons r rr =>
  rw[hs];refine assignInOrder_cons (cJ (h1 pins s σ H _ _ _ I r h) λ_ s1 bH=>?_);obtain⟨σ1,H1,I1,q1⟩:=bH;exact h2 pins s1 σ1 H1 _ _ Q I1 rr q1
def QW(K:ai)(n:Nat)(t:DE):TG:=λv σ H Q=>∃a xs,v=.ref a/\aR K H a xs/\xs.length=n/\t xs σ H Q
theorem yP{k:Nat}{t:DE}{n:Nat}(hc:X.calm=true)(h:JB X es t)
  (hn:(assignEach es X.env).length=n:=by rfl) (kr:(assignEach es X.env).findIdx? (·.1)=none:=by rfl):PG X (.Tuple es k pos) (QW X.K n t):=by
 intro pins s σ H v u Q I r hw;obtain⟨a,xs,e1,hq,hl,hw⟩:=hw;subst e1;cases r;obtain⟨aH,rv,ht,hz⟩:=I.tuple hq;refine assign_Tuple_tuple (I.ok.hd hc) ht (by simp[hn,<- hl,rv.length]) kr λh' hx=>?_;have I1:Inv X pins σ H { s with heap:=h' }:=I.kept (t':=s.toks) λb o e=>hx b o (Xt (Xk e)) e;exact h pins _ σ H xs _ Q I1 (by simpa using rv) hw
noncomputable def OD(te:TE)(g:TG):TS:=λD σ H=>te σ H λx H1=>g x σ H1 D.nx
theorem FW{e:Expr}{g:TG}(he:PE X e te)(hg:PG X tg g)(hs:swapsWithSole [tg] e pos.line X.env=pure false:=by rfl)(hw:swappedStores [tg] e X.env=pure none:=by rfl)
  (h1:(assignEach [tg] X.env).map (·.2)=[assign tg X.env]:=by rfl):PS X (.Assign [tg] e pos) (OD te g):=by
 intro pins s σ H D I h;refine wpAny_Assign_stores (cJ (he pins s σ H _ I h) λv s1 bH=>?_) hs hw;obtain⟨x,H1,I1,r1,q1⟩:=bH;rw[h1];exact cJ (hg pins s1 σ H1 x v _ I1 r1 q1) λ_ s2 q=>q
noncomputable def Ow(i j:Nat)(ta:TA):TS:=λD σ H=>ta σ H λvs H1=>∃v w,vs=[v,w]/\D.nx ((σ.set i (some v)).set j (some w)) H1
theorem FU{i j:Nat}{x y:Str}{a b:Expr}{ta:TA}{px py pt:Pos}{kt k2 IP}(hc:X.calm=true)(hN:X.N.Nodup)(hi:X.N[i]?=some x)(hj:X.N[j]?=some y)(cX:i≠j)
  (hx:X.env.scope.names.lookup x=some .local) (hy:X.env.scope.names.lookup y=some .local) (ha:PA X [a,b] ta)
  (hw:swappedStores [.Tuple [.Name x px,.Name y py] kt pt] (.Tuple [a,b] k2 IP) X.env=pure (some [x,y]))
  (hs:swapsWithSole [.Tuple [.Name x px,.Name y py] kt pt] (.Tuple [a,b] k2 IP) pos.line X.env=pure false:=by rfl) :
  PS X (.Assign [.Tuple [.Name x px,.Name y py] kt pt] (.Tuple [a,b] k2 IP) pos) (Ow i j ta):=by
 intro pins s σ H D I h;rw[exec_Assign_arm];refine Xf (Zk ?_);rw[hs];refine Xf (Xg ?_);rw[if_neg (by decide)];refine Xf (Tuple_ (cJ (ha _ pins s σ H _ I h) λus s1 bH=>?_));obtain⟨vs,H1,I1,r1,q1⟩:=bH;obtain⟨v,w,e1,q1⟩:=q1;subst e1;obtain⟨u1,u2,rfl,rv,jJ⟩:∃u1 u2,us=[u1,u2]/\RelV v u1/\RelV w u2:=by
  cases r1 with
  |cons p q =>
   cases q with
   |cons p' q' =>
    cases q';exact⟨_,_,rfl,p,p'⟩
 refine XR ?_ (by show 2<=sizeLine;decide);have I2:Inv X pins σ H1 { s1 with heap:=s1.heap.push { cls:=.type "tuple",data:=.seq [u1,u2].toArray } }:=I1.kept (t':=s1.toks) λb o e=>Xj _ e;rw[hw];refine Xf (Xg ?_);show wpAny (model X.prog X.w) X.A (do rule "assign.swapped-stores";let items <- unpackItems (.ref s1.heap.objs.size) 2 none;assignInOrder [λv=>bindName X.env y v,λv=>bindName X.env x v] items.reverse;pure Flow.next) _ _ _;refine Xf (Yn (Xf (unpackItems_tuple (items:=#[u1,u2]) (I.ok.hd hc) (IsTup.new s1.heap _) λh' zI=>?_)));have I3:=I2.kept (h':=h') (t':=s1.toks) λb o e=>zI b o (Xt (Xk e)) e;show wpAny _ _ (assignInOrder [λv=>bindName X.env y v,λv=>bindName X.env x v] [u2,u1] >>= λ_=>pure Flow.next) _ _ _;refine Xf (assignInOrder_cons (wpAny_bindName (i4 I3 hN hj (.inl hy) jJ (λs2 I4=>?_) (.inr hy))));refine assignInOrder_cons (wpAny_bindName (i4 I4 hN hi (.inl hx) rv (λs3 I5=>assignInOrder_nil (Xg ?_)) (.inr hx)));rw[List.set_comm _ _ (Ne.symm cX)]at I5;exact⟨_,H1,I5,q1⟩
noncomputable def OC(i:Nat)(te:TE)(ti:Ob):TS:=λD σ H=>∃x,σ[i]?=some (some x)/\te σ H λy H1=>ti x y H1 λz H2=>D.nx (σ.set i (some z)) H2
theorem FV{i:Nat}{x:Str}{e:Expr}{op:Operator}{ti:Ob}{pos':Pos}(hN:X.N.Nodup)(hi:X.N[i]?=some x)(hx:Loc X.env.scope x)(he:PE X e te)(ho:Oc X op ti)(hf:X.fn x=true\/X.env.scope.names.lookup x=some .local:=by first|exact .inl rfl|exact .inr rfl|assumption):
  PS X (.AugAssign (.Name x pos') op e pos) (OC i te ti):=by
 intro pins s σ H D I h;obtain⟨v,e1,h⟩:=h;obtain⟨m,hn,hl⟩:=I.loc;have M7:IE X.env.scope x:=by rcases hx with k|k;exact .inl k;exact .inr (.inl k)
 obtain⟨u,r,l⟩:=hl i x v hi e1 M7;refine wpAny_AugAssign_Name ?_;have go:wpAny (model X.prog X.w) X.A (eval e X.env) (λw s₂=>wpAny (model X.prog X.w) X.A (inplaceOp op u w) (λr s₃=>wpAny (model X.prog X.w) X.A (storeName X.env x r) (λ_=>SP X pins D .next) X.xe s₃) X.xe s₂) X.xe s:=by
  refine cJ (he pins s σ H _ I h) λw s1 bH=>?_;obtain⟨y,H1,I1,r1,q1⟩:=bH;refine cJ (ho pins s1 σ H1 v y u w _ I1 r r1 q1) λz s2 bH=>?_;obtain⟨zv,H2,I2,r2,q2⟩:=bH;exact i4 I2 hN hi hx r2 (λs3 I3=>⟨_,H2,I3,q2⟩) hf
 rcases l with ⟨hk,hm⟩|⟨hk,c,hc,hcell⟩
 ·exact wpAny_loadName_local I.ok.kind hk hn hm go
 ·rcases hk with hk|hk
  ·exact wpAny_loadName_cell I.ok.kind hk hc hcell go
  ·rcases hx with k|k
   ·have:X.env.scope.names.lookup x=some .free:=hk;rw[k]at this;cases this
   ·have:X.env.scope.names.lookup x=some .free:=hk;rw[k]at this;cases this
end
section
variable {X:Cx}{pos:Pos}
noncomputable def Fd(c:TT)(tb:TS):TS:=λD σ H=>∃W:Nat->St->Hp->Prop,(∃m,W m σ H)/\∀m σ H,W m σ H ->
 c σ H λb H1=>if b=true then ∃N:St->Hp->Prop,(∀σ' H',N σ' H'->∃m',m'<m/\W m' σ' H')/\tb { D with nx:=N,ct:=N,bk:=D.nx } σ H1 else D.nx σ H1
theorem yK{c:Expr}{body:bj}{tc:TT}{tb:TS}(hp:PassesOwn (model X.prog X.w) X.A X.env X.xe)(hc:PT X c tc)(hb:lh X body tb):PS X (.While c body [] pos) (Fd tc tb):=by
 intro pins s σ H D I h;obtain⟨W,⟨m0,w0⟩,turn⟩:=h;refine wpAny_While (codeAny_whileLoop (λn s'=>∃σ' H',Inv X pins σ' H' s'/\W n σ' H') ?_ m0 ⟨σ,H,I,w0⟩);rintro n s1 ⟨σ1,H1,I1,w1⟩;refine Yc hp (cJ (hc pins s1 σ1 H1 _ I1 (turn n σ1 H1 w1)) λb s2 ⟨H2,I2,q2⟩=>?_);cases b with
 |true =>
  obtain⟨N,hN,q2⟩:=q2;rw[if_pos rfl];refine Yc hp (cJ (hb pins s2 σ1 H2 _ I2 q2) λf s3 q3=>?_);cases f with
  |next =>
   obtain⟨σ3,H3,I3,n3⟩:=q3;obtain⟨m',hm,w3⟩:=hN σ3 H3 n3;exact⟨m',hm,σ3,H3,I3,w3⟩
  |cont =>
   obtain⟨σ3,H3,I3,n3⟩:=q3;obtain⟨m',hm,w3⟩:=hN σ3 H3 n3;exact⟨m',hm,σ3,H3,I3,w3⟩
  |brk=>exact q3
  |ret v=>exact q3
 |false =>
  rw[if_neg Bool.false_ne_true];exact wpAny_execs_nil ⟨σ1,H2,I2,q2⟩
end
structure It where
 go:Nat->Hp->Prop
 sh:Nat->Hp->V->Hp->Prop
 stop:Nat->Hp->Prop
noncomputable def mG(X:Cx)(pins:ah)(H:Hp)(b:Addr):Prop :=
 H b=none/\b≠X.env.locals/\b∉X.fs/\(b∈X.ex\/X.s₀.heap.objs.size<=b)/\(∀x c,X.env.cells.lookup x=some c->c≠b)/\∀p∈X.pn++pins,p.1≠b
theorem Inv.xg{pins:ah}{H H':Hp}{s:Shared}{b:Addr}(I:Inv X pins σ H s)(hb:s.heap.objs.size<=b)(hn:H' b=none):mG X pins H' b:=by
 refine⟨hn,Xx (Xu I.lt hb),I.Gn hb,.inr (XO I.sz hb),λx c e z=>?_,λp hp z=>?_⟩
 ·obtain⟨v,q⟩:=I.cell x c e;exact absurd (Xu q.lt (by rw[z];exact hb)) (XA _)
 ·exact absurd (Xu (Xk (I.pin p hp).1) (by rw[z];exact hb)) (XA _)
structure Turn(P:az)(w:World)(K:ai)(tg:Expr)(J:It)(fp:aP)(it:Addr)(tn:Nat->Heap->Prop):Prop where
 mem:it∈fp
 obj:∀i h,tn i h->∀b∈fp,∃o,h.get? b=some o/\∀v,o.data≠.cell v
 keep:∀i h h',tn i h->(∀b∈fp,∀o,h.get? b=some o->h'.get? b=some o)->tn i h'
 item:∀(X:Cx),X.prog=P->X.w=w->X.K=K->X.calm=true->∀(i:Nat) (pins:ah) (s:Shared) (σ:St) (H:Hp) (E:aq),Inv X pins σ H s->(∀b∈fp,mG X pins H b)->tn i s.heap->J.go i H ->
  wpAny (model P w) X.A (pyNext (.ref it)) (λr s1=>∃u,r=some u /\
   wpAny (model P w) X.A (letOwnedTupleGo tg (.ref it) u) (λ_ s2=>∃x H',Inv X pins σ H' s2/\RelV x u/\J.sh i H x H'/\tn (i+1) s2.heap/\∀b∈fp,H' b=none) E s1) E s
 done:∀(X:Cx),X.prog=P->X.w=w->X.K=K->X.calm=true->∀(i:Nat) (pins:ah) (s:Shared) (σ:St) (H:Hp) (E:aq),Inv X pins σ H s->(∀b∈fp,mG X pins H b)->tn i s.heap->J.stop i H ->
  wpAny (model P w) X.A (pyNext (.ref it)) (λr s1=>r=none/\Inv X pins σ H s1) E s
 self:∀(A:av) (i:Nat) (s:Shared) (Q:aq) (E:aq),tn i s.heap->Q (.ref it) s->wpAny (model P w) A (pyIter (.ref it)) Q E s
noncomputable abbrev TI:=St->Hp->(It->Hp->Prop)->Prop
def xE(X:Cx)(pins:ah)(σ:St)(tg:Expr)(R:It->Hp->Prop)(Py:Value)(s2:Shared):Prop :=
 ∃(it:Addr) (fp:aP) (tn:Nat->Heap->Prop) (J:It) (H':Hp),Py=.ref it/\Inv X pins σ H' s2/\Turn X.prog X.w X.K tg J fp it tn/\tn 0 s2.heap/\(∀b∈fp,mG X pins H' b)/\R J H'
def PI(X:Cx)(tg iter:Expr)(wi:TI):Prop :=
 ∀(pins:ah) (s:Shared) (σ:St) (H:Hp) (R:It->Hp->Prop),Inv X pins σ H s->wi σ H R ->
  wpAny (model X.prog X.w) X.A (eval iter X.env) (λv s1=>wpAny (model X.prog X.w) X.A (pyIter v) (xE X pins σ tg R) X.xe s1) X.xe s
theorem z6{M:Model}{A:av}{s:Shared}{it:Addr}{u:Value}{o:Obj}{n:String}{vs:aN}{Q:Unit->Shared->Prop}(ho:s.heap.get? it=some o)(hc:o.cls=.type n)(hd:o.data=.fields vs)
    (hn:["enumerate","zip","dict_itemiterator","dict_reverseitemiterator","odict_iterator","itertools.zip_longest","itertools.pairwise"].contains n=false) (hQ:Q () s):wpAny M A (letOwnedTupleGo tg (.ref it) u) Q E s:=by
  unfold letOwnedTupleGo;cases tg<;>first
    |exact Xg hQ
    | (cases u<;>first
        |exact Xg hQ
        | (refine Xf (wpAny_load ho ?_)
           rw[hc,hd];show wpAny M A (if (["enumerate","zip","dict_itemiterator","dict_reverseitemiterator","odict_iterator","itertools.zip_longest","itertools.pairwise"].contains n&&vs[0]?==some (rawInt _))=true then _ else _) Q E s;rw[if_neg (by intro h;rw[hn,Bool.false_and]at h;cases h)];exact Xg hQ))
def JE(K:ai)(a:Addr):It :=
 ⟨λi H=>∃xs x,cI K H a xs/\xs[i]?=some x,λi H x H'=>H'=H/\∀xs,cI K H a xs->xs[i]?=some x,λi H=>∃xs,cI K H a xs/\xs.length<=i⟩
def JD(K:ai)(a:Addr):It :=
 ⟨λi H=>∃xs x,aR K H a xs/\xs[i]?=some x,λi H x H'=>H'=H/\∀xs,aR K H a xs->xs[i]?=some x,λi H=>∃xs,aR K H a xs/\xs.length<=i⟩
noncomputable def xF(lo:Int)(n:Nat):It:=⟨λi _=>i<n,λi H x H'=>H'=H/\x=.int (lo+i),λi _=>n<=i⟩
variable {P:az}{w:World}
theorem v5(a it:Addr):Turn P w K tg (JE K a) [it] it (λi h=>h.IsListIter it a i) where
 mem:=by simp
 obj:=λi h st b hb=>by
  have e:b=it:=by simpa using hb
  subst e;obtain⟨o,e,c,d⟩:=st;exact⟨o,e,λv z=>by rw[d]at z;cases z⟩
 keep:=λi h h' st k=>st.at λo e=>k it (by simp) o e
 item:=by
  intro X hP hw hK hc i pins s σ H E I hf st hg;subst hP hw hK;obtain⟨xs,x,hq,hx⟩:=hg;obtain⟨aH,rv,p,hz⟩:=I.list hq;obtain⟨u,hu,ru⟩:=rv.get hx;obtain⟨f0,f1,f2,f3,f4,f5⟩:=hf it (by simp);refine wpAny_pyNext_list_item st p.isList (x:=u) (by simpa using hu) λh' aO sb=>?_;have I1:Inv X pins σ H { s with heap:=h' }:=I.turned (t':=s.toks) (λb o hb e=>(sb.2 b hb).trans e) f0 f1 f3 f4 f5;obtain⟨o,e,c,d⟩:=id aO;exact⟨u,rfl,z6 (s:={ s with heap:=h' }) e c d (by decide) ⟨x,H,I1,ru,⟨rfl,λys hy=>by rw[I.gI hy hq];exact hx⟩,aO,λb hb=>(hf b hb).1⟩⟩
 done:=by
  intro X hP hw hK hc i pins s σ H E I hf st hg;subst hP hw hK;obtain⟨xs,hq,hx⟩:=hg;obtain⟨aH,rv,p,hz⟩:=I.list hq;obtain⟨f0,f1,f2,f3,f4,f5⟩:=hf it (by simp);have hl:=rv.length;exact wpAny_pyNext_list_end (I.ok.hd hc) st p.isList (by simp;left) λh' eb=>⟨rfl,I.turned (t':=s.toks) (λb o hb e=>eb b o hb e) f0 f1 f3 f4 f5⟩
 self:=λ_ _ _ _ _ st h=>wpAny_pyIter_listiter st h
theorem sI(a it:Addr):Turn P w K tg (JD K a) [it] it (λi h=>h.IsTupleIter it a i) where
 mem:=by simp
 obj:=λi h st b hb=>by
  have e:b=it:=by simpa using hb
  subst e;obtain⟨o,e,c,d⟩:=st;exact⟨o,e,λv z=>by rw[d]at z;cases z⟩
 keep:=λi h h' st k=>st.at λo e=>k it (by simp) o e
 item:=by
  intro X hP hw hK hc i pins s σ H E I hf st hg;subst hP hw hK;obtain⟨xs,x,hq,hx⟩:=hg;obtain⟨aH,rv,p,hz⟩:=I.tuple hq;obtain⟨u,hu,ru⟩:=rv.get hx;obtain⟨f0,f1,f2,f3,f4,f5⟩:=hf it (by simp);refine wpAny_pyNext_tuple_item st (show s.heap.IsTuple a aH.toArray from p) (x:=u) (by simpa using hu) λh' aO sb=>?_;have I1:Inv X pins σ H { s with heap:=h' }:=I.turned (t':=s.toks) (λb o hb e=>(sb.2 b hb).trans e) f0 f1 f3 f4 f5;obtain⟨o,e,c,d⟩:=id aO;exact⟨u,rfl,z6 (s:={ s with heap:=h' }) e c d (by decide) ⟨x,H,I1,ru,⟨rfl,λys hy=>by rw[I.nr hy hq];exact hx⟩,aO,λb hb=>(hf b hb).1⟩⟩
 done:=by
  intro X hP hw hK hc i pins s σ H E I hf st hg;subst hP hw hK;obtain⟨xs,hq,hx⟩:=hg;obtain⟨aH,rv,p,hz⟩:=I.tuple hq;obtain⟨f0,f1,f2,f3,f4,f5⟩:=hf it (by simp);have hl:=rv.length;exact wpAny_pyNext_tuple_end (I.ok.hd hc) st (show s.heap.IsTuple a aH.toArray from p) (by simp;left) λh' eb=>⟨rfl,I.turned (t':=s.toks) (λb o hb e=>eb b o hb e) f0 f1 f3 f4 f5⟩
 self:=λ_ _ _ _ _ st h=>wpAny_pyIter_tupleiter st h
theorem sJ(it:Addr)(lo:Int)(n:Nat):Turn P w K tg (xF lo n) [it] it (λi h=>IsRangeIter h it (lo+(i:Nat)*1) ((n:Int) - (i:Nat)) 1) where
 mem:=by simp
 obj:=λi h st b hb=>by
  have e:b=it:=by simpa using hb
  subst e;exact⟨_,st,λv z=>by
   have z':Data.fields _=Data.cell v:=z;cases z'⟩
 keep:=λi h h' st k=>k it (by simp) _ st
 item:=by
  intro X hP hw hK hc i pins s σ H E I hf st hg;subst hP hw hK;obtain⟨f0,f1,f2,f3,f4,f5⟩:=hf it (by simp);have W:=Walks.range (prog:=X.prog) (w:=X.w) (I.ok.hd hc) it lo 1 n;refine W.item i s _ _ hg st λv h' tk hv aO kk=>?_;obtain⟨t,rfl⟩:=hv;have I1:Inv X pins σ H { s with heap:=h',toks:=tk }:=I.turned (λb o hb e=>kk b o (by simpa using hb) e) f0 f1 f3 f4 f5;refine⟨_,rfl,z6 (s:={ s with heap:=h',toks:=tk }) (n:="range_iterator") aO rfl rfl (by decide) ⟨.int (lo+i),H,I1,⟨t,?_⟩,⟨rfl,rfl⟩,aO,λb hb=>(hf b hb).1⟩⟩;rw[Int.mul_one]
 done:=by
  intro X hP hw hK hc i pins s σ H E I hf st hg;subst hP hw hK;obtain⟨f0,f1,f2,f3,f4,f5⟩:=hf it (by simp);exact wpAny_pyNext_range_end (I.ok.hd hc) st (by have:n<=i:=hg;left) λh' eb=>⟨rfl,I.turned (t':=s.toks) (λb o hb e=>eb b o hb e) f0 f1 f3 f4 f5⟩
 self:=λ_ _ _ _ _ st h=>wpAny_pyIter_rangeiter st h
end L2
namespace L2
open PySem PySem.Spec PyProof.Rows
variable {fp:aP}{lo:Int}{pos:Pos}{ta:TA}{σ:L2.St}
section
variable {X:Cx}{tg:Expr}
def LG(K:ai)(tl:TE):TI:=λσ H R=>tl σ H λx H1=>∃a,x=.ref a/\(∃xs,cI K H1 a xs)/\R (JE K a) H1
def PQ(K:ai)(tl:TE):TI:=λσ H R=>tl σ H λx H1=>∃a,x=.ref a/\(∃xs,aR K H1 a xs)/\R (JD K a) H1
theorem uG{l:Expr}{tl:TE}(hl:PE X l tl):PI X tg l (LG X.K tl):=by
 intro pins s σ H R I h;refine cJ (hl pins s σ H _ I h) λv s1 bH=>?_;obtain⟨x,H1,I1,r1,q1⟩:=bH;obtain⟨a,e,⟨xs,hq⟩,q⟩:=q1;subst e;cases r1;obtain⟨aH,rv,p,hz⟩:=I1.list hq;refine wpAny_pyIter_list p.isList ?_;refine⟨s1.heap.objs.size,[s1.heap.objs.size],_,_,H1,rfl,I1.kept (t':=s1.toks) λb o e=>Xj _ e,v5 a _,⟨_,Xs _ rfl,rfl,rfl⟩,λb hb=>?_,q⟩;have e:b=s1.heap.objs.size:=by simpa using hb
 subst e;exact I1.xg (Xp _) (I1.cq.fresh (Xp _))
theorem yO{l:Expr}{tl:TE}(hl:PE X l tl):PI X tg l (PQ X.K tl):=by
 intro pins s σ H R I h;refine cJ (hl pins s σ H _ I h) λv s1 bH=>?_;obtain⟨x,H1,I1,r1,q1⟩:=bH;obtain⟨a,e,⟨xs,hq⟩,q⟩:=q1;subst e;cases r1;obtain⟨aH,rv,p,hz⟩:=I1.tuple hq;refine wpAny_pyIter_tuple (show s1.heap.IsTuple a aH.toArray from p) ?_;refine⟨s1.heap.objs.size,[s1.heap.objs.size],_,_,H1,rfl,I1.kept (t':=s1.toks) λb o e=>Xj _ e,sI a _,⟨_,Xs _ rfl,rfl,rfl⟩,λb hb=>?_,q⟩;have e:b=s1.heap.objs.size:=by simpa using hb
 subst e;exact I1.xg (Xp _) (I1.cq.fresh (Xp _))
theorem qB{pins:ah}{H:Hp}{s:Shared}{R:It->Hp->Prop}{E:aq}{hi:Int}{t u v:Tok}{tk:Nat}(I:Inv X pins σ H s)(h1:-(2 ^ 62)<=lo)(h2:lo<2 ^ 62)(h3:-(2 ^ 62)<=hi)(h4:hi<2 ^ 62)
  (q:R (xF lo (hi - lo).toNat) H):wpAny (model X.prog X.w) X.A (pyIter (.ref s.heap.objs.size)) (xE X pins σ tg R) E { s with heap:=s.heap.push { cls:=.type "range",data:=.fields #[.int lo t,.int hi u,.int 1 v] },toks:=tk }:=by
 refine wpAny_pyIter_range (IsRange.new ..) (small_one h1 h2 h3 h4) ?_;have I1:Inv X pins σ H { s with heap:=s.heap.push { cls:=.type "range",data:=.fields #[.int lo t,.int hi u,.int 1 v] },toks:=tk }:=I.kept λb o e=>Xj _ e;refine⟨(s.heap.push { cls:=.type "range",data:=.fields #[.int lo t,.int hi u,.int 1 v] }).objs.size,[(s.heap.push { cls:=.type "range",data:=.fields #[.int lo t,.int hi u,.int 1 v] }).objs.size],_,_,H,rfl,
  I1.kept (t':=tk) λb o e=>Xj _ e,sJ _ lo (hi - lo).toNat,?_,λb hb=>?_,q⟩
 ·have e1:lo+((0:Nat):Int)*1=lo:=by simp
  have e2:(((hi - lo).toNat:Nat):Int) - ((0:Nat):Int)=Builtin.Range.rangeSize lo hi 1:=by rw[rangeSize_one];split<;>left
  show IsRangeIter _ _ (lo+((0:Nat):Int)*1) ((((hi - lo).toNat:Nat):Int) - ((0:Nat):Int)) 1;rw[e1,e2];exact Xs _ rfl
 ·have e:b=(s.heap.push { cls:=.type "range",data:=.fields #[.int lo t,.int hi u,.int 1 v] }).objs.size:=by simpa using hb
  subst e;exact I1.xg (Xp _) (I1.cq.fresh (Xp _))
def LF(ta:TA):TI:=λσ H R=>ta σ H λvs H1=>∃j:Int,vs=[.int j] /\ -(2 ^ 62)<=j/\j<2 ^ 62/\R (xF 0 j.toNat) H1
theorem nF{a:Expr}{p:Pos}(hg:Gl X "range")(hm:X.mg "range" = none)(ha:PA X [a] ta)(hs:starEach [a] X.env=[(false,eval a X.env)]:=by rfl):PI X tg (.Call (.Name "range" p) [a] [] pos) (LF ta):=by
 intro pins s σ H R I h;refine Call_ (eJ I hg hm boot_range (XC (cJ (ha pos pins s σ H _ I h) λus s1 bH=>?_) hs rfl));obtain⟨vs,H1,I1,r1,q1⟩:=bH;obtain⟨j,e,q1,q2,q⟩:=q1;subst e;cases r1 with
 |cons r rr =>
  cases rr;obtain⟨t,rfl⟩:=r;exact call_range_1 (qB I1 (by left) (by left) q1 q2 (by simpa using q))
noncomputable def OA(wi:TI)(g:TG)(tb:TS):TS:=λD σ H=>wi σ H λJ H1=>∃W:Nat->Nat->St->Hp->Prop,(∃m,W 0 m σ H1)/\∀i m σ H,W i m σ H ->
 (J.stop i H/\D.nx σ H)\/(J.go i H/\∃N:St->Hp->Prop,(∀σ' H',N σ' H'->∃m',m'<m/\W (i+1) m' σ' H')/\∀x H',J.sh i H x H'->g x σ H' λσ2 H2=>tb { D with nx:=N,ct:=N,bk:=D.nx } σ2 H2)
noncomputable def gD(fp:aP)(h:Heap):ah:=fp.filterMap λb=>(h.get? b).map λo=>(b,o)
theorem fQ{h:Heap}{b:Addr}{o:Obj}(hb:b∈fp)(e:h.get? b=some o):(b,o)∈gD fp h:=List.mem_filterMap.mpr ⟨b,hb,by rw[e];rfl⟩
theorem nH{h:Heap}{p:Addr×Obj}(hp:p∈gD fp h):p.1∈fp/\h.get? p.1=some p.2:=by
 obtain⟨b,hb,e⟩:=List.mem_filterMap.mp hp;cases q:h.get? b with
 |none=>rw[q]at e;cases e
 |some o =>
  rw[q]at e;have e':(b,o)=p:=Xv e;subst e';exact⟨hb,q⟩
theorem Inv.pinned{pins:ah}{H:Hp}{s:Shared}(I:Inv X pins σ H s)(hf:∀b∈fp,mG X pins H b)(ho:∀b∈fp,∃o,s.heap.get? b=some o/\∀v,o.data≠.cell v):Inv X (pins++gD fp s.heap) σ H s :=
 I.hJ λp hp=>(List.mem_append.mp hp).elim (λz=>I.pin p (Xr _ z)) λz=>by
  obtain⟨hb,e⟩:=nH z;obtain⟨f0,f1,f2,_⟩:=hf p.1 hb;obtain⟨o,e',d⟩:=ho p.1 hb;rw[e]at e';cases e';exact⟨e,f0,f1,f2,d⟩
theorem Inv.i3{pins pl:ah}{H:Hp}{s:Shared}(I:Inv X (pins++pl) σ H s):Inv X pins σ H s:=I.hJ λp hp=>I.pin p (Xr _ (Xz _ hp))
theorem oM{iter:Expr}{body:bj}{wi:TI}{g:TG}{tb:TS}(hp:PassesOwn (model X.prog X.w) X.A X.env X.xe)(hc:X.calm=true)(hi:PI X tg iter wi)(hg:PG X tg g)(hb:lh X body tb)
  (hs:∀x,foldedSetIterable iter X.env x=pure x:=by intro _;rfl):PS X (.For tg iter body [] pos) (OA wi g tb):=by
 intro pins s σ H D I h;refine wpAny_For (cJ (hi pins s σ H _ I h) λv s1 h1=>cJ h1 λPy s2 h2=>?_) hs;obtain⟨it,fp,tn,J,H2,e,I2,T,eU,f2,W,⟨m0,w0⟩,turn⟩:=h2;subst e;have Fh:∀{H':Hp},(∀b∈fp,H' b=none)->∀b∈fp,mG X pins H' b:=λhn b hb=>⟨hn b hb,(f2 b hb).2⟩
 refine codeAny_forLoop_any (λn s'=>∃i σ' H',Inv X pins σ' H' s'/\tn i s'.heap/\(∀b∈fp,H' b=none)/\W i n σ' H') ?_ m0 ⟨0,σ,H2,I2,eU,λb hb=>(f2 b hb).1,w0⟩;rintro n s3 ⟨i,σ3,H3,I3,uu,fr3,w3⟩;rcases turn i n σ3 H3 w3 with ⟨stop,qn⟩|⟨go,N,hN,step⟩
 ·refine Yc hp (cJ (T.done X rfl rfl rfl hc i pins s3 σ3 H3 X.xe I3 (Fh fr3) uu stop) λr s4 bH=>?_);obtain⟨hr,I4⟩:=bH;subst hr;exact wpAny_execs_nil ⟨σ3,H3,I4,qn⟩
 ·refine Yc hp (cJ (T.item X rfl rfl rfl hc i pins s3 σ3 H3 X.xe I3 (Fh fr3) uu go) λr s4 bH=>?_);obtain⟨u,hr,h4⟩:=bH;subst hr;refine Yc hp (cJ h4 λ_ s5 bH=>?_);obtain⟨x,H5,I5,r5,y5,DZ,Q1⟩:=bH;have RN:=I5.pinned (Fh Q1) (T.obj _ _ DZ);refine Yc hp (cJ (hg _ s5 σ3 H5 x u _ RN r5 (step x H5 y5)) λ_ s6 bH=>?_);obtain⟨σ6,H6,I6,q6⟩:=bH;refine Yc hp (cJ (hb _ s6 σ6 H6 _ I6 q6) λf s7 q7=>?_);have again:∀{σ7:St} {H7:Hp},Inv X (pins++gD fp s5.heap) σ7 H7 s7->N σ7 H7->∃m,m<n/\∃i σ' H',Inv X pins σ' H' s7/\tn i s7.heap/\(∀b∈fp,H' b=none)/\W i m σ' H':=λ{σ7 H7} I7 n7=>by
   obtain⟨m',hm,w7⟩:=hN σ7 H7 n7;refine⟨m',hm,i+1,σ7,H7,I7.i3,T.keep _ _ _ DZ λb hb o e=>(I7.pin (b,o) (Xr _ (Xr _ (fQ hb e)))).1,λb hb=>?_,w7⟩;obtain⟨o,e,d⟩:=T.obj _ _ DZ b hb;exact(I7.pin (b,o) (Xr _ (Xr _ (fQ hb e)))).2.1
  cases f with
  |next=>obtain⟨σ7,H7,I7,n7⟩:=q7;exact again I7 n7
  |cont=>obtain⟨σ7,H7,I7,n7⟩:=q7;exact again I7 n7
  |brk=>obtain⟨σ7,H7,I7,q7⟩:=q7;exact⟨σ7,H7,I7.i3,q7⟩
  |ret v=>obtain⟨x7,σ7,H7,I7,r7,q7⟩:=q7;exact⟨x7,σ7,H7,I7.i3,r7,q7⟩
end
variable {K:ai}{xs:ae}
theorem Ab{a:Addr}{g:TG}{tb:TS}{D:Ends}{H:Hp}(Pv:Nat->St->Hp->Prop)(h0:Pv 0 σ H)(hl:∀i σ H,i<=xs.length->Pv i σ H->cI K H a xs)
  (hs:∀i x σ H,xs[i]?=some x->Pv i σ H->g x σ H λσ2 H2=>tb { D with nx:=Pv (i+1),ct:=Pv (i+1),bk:=D.nx } σ2 H2) (hd:∀σ H,Pv xs.length σ H->D.nx σ H) :
  ∃W:Nat->Nat->St->Hp->Prop,(∃m,W 0 m σ H)/\∀i m σ H,W i m σ H ->
   ((JE K a).stop i H/\D.nx σ H)\/((JE K a).go i H/\∃N:St->Hp->Prop,(∀σ' H',N σ' H'->∃m',m'<m/\W (i+1) m' σ' H')/\∀x H',(JE K a).sh i H x H'->g x σ H' λσ2 H2=>tb { D with nx:=N,ct:=N,bk:=D.nx } σ2 H2):=by
 refine⟨λi m σ H=>m=xs.length - i/\i<=xs.length/\Pv i σ H,⟨xs.length,by simp,XH _,h0⟩,?_⟩;rintro i m σ H ⟨rfl,hi,p⟩;have q:=hl i σ H hi p;by_cases b9:i<xs.length
 ·refine .inr ⟨⟨xs,xs[i],q,by simp[b9]⟩,Pv (i+1),λσ' H' p'=>⟨xs.length - (i+1),by left,rfl,b9,p'⟩,λx H' y=>?_⟩;obtain⟨e,y⟩:=y;subst e;exact hs i x σ _ (y xs q) p
 ·have e:i=xs.length:=by left
  subst e;exact .inl ⟨⟨xs,q,Xp _⟩,hd σ H p⟩
theorem CN{a:Addr}{g:TG}{tb:TS}{D:Ends}{H:Hp}(Pv:Nat->St->Hp->Prop)(h0:Pv 0 σ H)(hl:∀i σ H,i<=xs.length->Pv i σ H->aR K H a xs)
  (hs:∀i x σ H,xs[i]?=some x->Pv i σ H->g x σ H λσ2 H2=>tb { D with nx:=Pv (i+1),ct:=Pv (i+1),bk:=D.nx } σ2 H2) (hd:∀σ H,Pv xs.length σ H->D.nx σ H) :
  ∃W:Nat->Nat->St->Hp->Prop,(∃m,W 0 m σ H)/\∀i m σ H,W i m σ H ->
   ((JD K a).stop i H/\D.nx σ H)\/((JD K a).go i H/\∃N:St->Hp->Prop,(∀σ' H',N σ' H'->∃m',m'<m/\W (i+1) m' σ' H')/\∀x H',(JD K a).sh i H x H'->g x σ H' λσ2 H2=>tb { D with nx:=N,ct:=N,bk:=D.nx } σ2 H2):=by
 refine⟨λi m σ H=>m=xs.length - i/\i<=xs.length/\Pv i σ H,⟨xs.length,by simp,XH _,h0⟩,?_⟩;rintro i m σ H ⟨rfl,hi,p⟩;have q:=hl i σ H hi p;by_cases b9:i<xs.length
 ·refine .inr ⟨⟨xs,xs[i],q,by simp[b9]⟩,Pv (i+1),λσ' H' p'=>⟨xs.length - (i+1),by left,rfl,b9,p'⟩,λx H' y=>?_⟩;obtain⟨e,y⟩:=y;subst e;exact hs i x σ _ (y xs q) p
 ·have e:i=xs.length:=by left
  subst e;exact .inl ⟨⟨xs,q,Xp _⟩,hd σ H p⟩
theorem xh{n:Nat}{g:TG}{tb:TS}{D:Ends}{H:Hp}(Pv:Nat->St->Hp->Prop)(h0:Pv 0 σ H)
  (hs:∀i σ H,i<n->Pv i σ H->g (.int (lo+i)) σ H λσ2 H2=>tb { D with nx:=Pv (i+1),ct:=Pv (i+1),bk:=D.nx } σ2 H2) (hd:∀σ H,Pv n σ H->D.nx σ H) :
  ∃W:Nat->Nat->St->Hp->Prop,(∃m,W 0 m σ H)/\∀i m σ H,W i m σ H ->
   ((xF lo n).stop i H/\D.nx σ H)\/((xF lo n).go i H/\∃N:St->Hp->Prop,(∀σ' H',N σ' H'->∃m',m'<m/\W (i+1) m' σ' H')/\∀x H',(xF lo n).sh i H x H'->g x σ H' λσ2 H2=>tb { D with nx:=N,ct:=N,bk:=D.nx } σ2 H2):=by
 refine⟨λi m σ H=>m=n - i/\i<=n/\Pv i σ H,⟨n,by simp,XH _,h0⟩,?_⟩;rintro i m σ H ⟨rfl,hi,p⟩;by_cases b9:i<n
 ·refine .inr ⟨b9,Pv (i+1),λσ' H' p'=>⟨n - (i+1),by left,rfl,b9,p'⟩,λx H' y=>?_⟩;obtain⟨e,y⟩:=y;subst e y;exact hs i σ _ b9 p
 ·have e:i=n:=by left
  subst e;exact .inl ⟨Xp _,hd σ H p⟩
end L2
namespace L2
open PySem PySem.Spec PyProof.Rows
noncomputable abbrev R2:=V->V->Hp->VK->Prop
def iN(X:Cx)(f:Value->Value->Sem Value)(r:R2):Prop :=
 ∀(pins:ah) (s:Shared) (σ:St) (H:Hp) (x y:V) (v u:Value) (Q:VK),Inv X pins σ H s->RelV x v->RelV y u->r x y H Q ->
  wpAny (model X.prog X.w) X.A (f v u) (EP X pins σ Q) X.xe s
def RG(X:Cx)(f:Value->Sem Value)(r:V->Hp->VK->Prop):Prop :=
 ∀(pins:ah) (s:Shared) (σ:St) (H:Hp) (x:V) (v:Value) (Q:VK),Inv X pins σ H s->RelV x v->r x H Q ->
  wpAny (model X.prog X.w) X.A (f v) (EP X pins σ Q) X.xe s
def eT(X:Cx)(f:Value)(r:ae->Hp->VK->Prop):Prop :=
 ∀(pins:ah) (s:Shared) (σ:St) (H:Hp) (xs:ae) (us:ag) (Q:VK),Inv X pins σ H s->Vals xs us->r xs H Q ->
  wpAny (model X.prog X.w) X.A (call f us) (EP X pins σ Q) X.xe s
noncomputable def DU(r:R2)(ta tb:TE):TE:=λσ H Q=>ta σ H λx H1=>tb σ H1 λy H2=>r x y H2 Q
noncomputable def Um(r:V->Hp->VK->Prop)(ta:TE):TE:=λσ H Q=>ta σ H λx H1=>r x H1 Q
noncomputable def rI(C:Int->Int->Prop)(g:Int->Int->V):R2:=λx y H Q=>∃i j,x=.int i/\y=.int j/\C i j/\Q (g i j) H
noncomputable def yH(g:Int->Int->V):R2:=λx y H Q=>∃i j,x=.int i/\y=.int j/\Q (g i j) H
noncomputable def rU(g:Int->V):V->Hp->VK->Prop:=λx H Q=>∃i,x=.int i/\Q (g i) H
variable {σ:L2.St}
section
variable {X:Cx}{a b c:Expr}{ta tb tc:TE}{pos:Pos}
theorem Iz(ha:PE X a ta)(hb:PE X b tb){pins:ah}{s:Shared}{H:Hp}{R:V->V->Hp->Prop}(I:Inv X pins σ H s)
  (h:ta σ H λx H1=>tb σ H1 λy H2=>R x y H2) {Q:aq} {f:Value->Value->Sem Value}
  (hf:∀v u s2 x y H2,Inv X pins σ H2 s2->RelV x v->RelV y u->R x y H2->wpAny (model X.prog X.w) X.A (f v u) Q X.xe s2) :
  wpAny (model X.prog X.w) X.A (eval a X.env) (λv s₁=>wpAny (model X.prog X.w) X.A (eval b X.env) (λu s₂=>wpAny (model X.prog X.w) X.A (f v u) Q X.xe s₂) X.xe s₁) X.xe s:=by
 refine cJ (ha pins s σ H _ I h) λv s1 bH=>?_;obtain⟨x,H1,I1,r1,q1⟩:=bH;refine cJ (hb pins s1 σ H1 _ I1 q1) λu s2 bH=>?_;obtain⟨y,H2,I2,r2,q2⟩:=bH;exact hf v u s2 x y H2 I2 r1 r2 q2
theorem yU{op:Operator}{r:R2}(ho:iN X (binaryOp op) r)(ha:PE X a ta)(hb:PE X b tb):PE X (.BinOp a op b pos) (DU r ta tb):=by
 intro pins s σ H Q I h;exact wpAny_BinOp (Iz ha hb I h λv u s2 x y H2 I2 rx ry q=>ho pins s2 σ H2 x y v u Q I2 rx ry q)
theorem KJ{op:UnaryOp}{r:V->Hp->VK->Prop}(ho:RG X (unaryOp op) r)(ha:PE X a ta):PE X (.UnaryOp op a pos) (Um r ta):=by
 intro pins s σ H Q I h;exact UnaryOp_ (cJ (ha pins s σ H _ I h) λv s1 ⟨x,H1,I1,r1,q1⟩=>ho pins s1 σ H1 x v Q I1 r1 q1)
theorem D9{f:Value->Value->Sem Value}{C:Int->Int->Prop}{g:Int->Int->Int}
  (rule:∀(i j:Int) (t u:Tok) (s:Shared) (Q:aq) (E:aq),C i j->Q (.int (g i j) s.toks) { s with toks:=s.toks+1 }->wpAny (model X.prog X.w) X.A (f (.int i t) (.int j u)) Q E s) :
  iN X f (rI C λi j=>.int (g i j)):=by
 intro pins s σ H x y v u Q I rx ry h;obtain⟨i,j,rfl,rfl,hc,q⟩:=h;obtain⟨t,rfl⟩:=rx;obtain⟨t',rfl⟩:=ry;exact rule i j t t' s _ _ hc ⟨.int (g i j),H,I.tok _,⟨_,rfl⟩,q⟩
theorem O_{f:Value->Value->Sem Value}{g:Int->Int->Int}
  (rule:∀(i j:Int) (t u:Tok) (s:Shared) (Q:aq) (E:aq),Q (.int (g i j) s.toks) { s with toks:=s.toks+1 }->wpAny (model X.prog X.w) X.A (f (.int i t) (.int j u)) Q E s) :
  iN X f (yH λi j=>.int (g i j)):=by
 intro pins s σ H x y v u Q I rx ry h;obtain⟨i,j,rfl,rfl,q⟩:=h;obtain⟨t,rfl⟩:=rx;obtain⟨t',rfl⟩:=ry;exact rule i j t t' s _ _ ⟨.int (g i j),H,I.tok _,⟨_,rfl⟩,q⟩
theorem Cb{f:Value->Value->Sem Value}{g:Int->Int->Bool}
  (rule:∀(i j:Int) (t u:Tok) (s:Shared) (Q:aq) (E:aq),Q (.bool (g i j)) s->wpAny (model X.prog X.w) X.A (f (.int i t) (.int j u)) Q E s) :
  iN X f (yH λi j=>.bl (g i j)):=by
 intro pins s σ H x y v u Q I rx ry h;obtain⟨i,j,rfl,rfl,q⟩:=h;obtain⟨t,rfl⟩:=rx;obtain⟨t',rfl⟩:=ry;exact rule i j t t' s _ _ ⟨.bl (g i j),H,I,rfl,q⟩
theorem sH(k:Nat):(0:Int)<=2 ^ k:=by
 rw[two_pow_cast];exact Int.natCast_nonneg _
theorem Gi:iN X (binaryOp .Add) (yH λi j=>.int (i+j)):=O_ λ_ _ _ _ _ _ _ q=>add_int q
theorem B9:iN X (binaryOp .Mod) (rI (λ_ j=>j≠0) λi j=>.int (i.fmod j)):=D9 λ_ _ _ _ _ _ _ hc q=>mod_int' hc q
theorem Gd:iN X (binaryOp .RShift) (rI (λ_ j=>0<=j) λi j=>.int (i / 2 ^ j.toNat)):=D9 λi j _ _ _ _ _ hc q =>
 rshift_int hc (by rw[Int.fdiv_eq_ediv_of_nonneg i (sH _)];exact q)
theorem Ue{f:Value->Sem Value}{g:Int->Int}
  (rule:∀(i:Int) (t:Tok) (s:Shared) (Q:aq) (E:aq),Q (.int (g i) s.toks) { s with toks:=s.toks+1 }->wpAny (model X.prog X.w) X.A (f (.int i t)) Q E s) :
  RG X f (rU λi=>.int (g i)):=by
 intro pins s σ H x v Q I rx h;obtain⟨i,rfl,q⟩:=h;obtain⟨t,rfl⟩:=rx;exact rule i t s _ _ ⟨.int (g i),H,I.tok _,⟨_,rfl⟩,q⟩
theorem Fb:RG X (unaryOp .USub) (rU λi=>.int (-i)):=Ue λ_ _ _ _ _ q=>neg_int q
end
variable {us:ag}
section
variable {X:Cx}{a b c:Expr}{ta tb tc:TE}{pos:Pos}
theorem KY:iN X (compareOp .Lt) (yH λi j=>.bl (decide (i<j))):=Cb λ_ _ _ _ _ _ _ q=>lt_int q
theorem KZ:iN X (compareOp .LtE) (yH λi j=>.bl (decide (i<=j))):=Cb λ_ _ _ _ _ _ _ q=>le_int q
theorem K0:iN X (compareOp .Gt) (yH λi j=>.bl (decide (j<i))):=Cb λ_ _ _ _ _ _ _ q=>gt_int q
theorem K2:iN X (compareOp .GtE) (yH λi j=>.bl (decide (j<=i))):=Cb λ_ _ _ _ _ _ _ q=>ge_int q
theorem iN.or{f:Value->Value->Sem Value}{r r':R2}(h:iN X f r)(h':iN X f r'):iN X f (λx y H Q=>r x y H Q\/r' x y H Q):=by
 intro pins s σ H x y v u Q I rx ry q;rcases q with q|q
 ·exact h pins s σ H x y v u Q I rx ry q
 ·exact h' pins s σ H x y v u Q I rx ry q
theorem y8(b:Expr){op:CmpOp}(h:op≠.In:=by decide)(h2:op≠.NotIn:=by decide):behindInMarks op b=false:=by
 have e1:(op==CmpOp.In)=false:=by cases op<;>first|rfl|exact absurd rfl h
 have e2:(op==CmpOp.NotIn)=false:=by cases op<;>first|rfl|exact absurd rfl h2
 cases b<;>simp[behindInMarks,e1,e2]
theorem uK{op:CmpOp}{r:R2}(ho:iN X (compareOp op) r)(ha:PE X a ta)(hb:PE X b tb)(hm:behindInMarks op b=false):PE X (.Compare a [op] [b] pos) (DU r ta tb):=by
 intro pins s σ H Q I h;exact wpAny_Compare1 (Iz ha hb I h λv u s2 x y H2 I2 rx ry q=>ho pins s2 σ H2 x y v u Q I2 rx ry q) hm
noncomputable def DT(t:TE):TT:=λσ H Q=>t σ H λx H'=>∃k,x=.bl k/\Q k H'
theorem uC{op:CmpOp}{r:R2}(ho:iN X (compareOp op) r)(ha:PE X a ta)(hb:PE X b tb)(hm:behindInMarks op b=false):PT X (.Compare a [op] [b] pos) (DT (DU r ta tb)):=by
 intro pins s σ H Q I h;refine wpAny_isTrue_Compare1 (cJ (ha pins s σ H _ I h) λv s1 ⟨x,H1,I1,r1,q1⟩=>cJ (hb pins s1 σ H1 _ I1 q1) λu s2 ⟨y,H2,I2,r2,q2⟩ =>
  cJ (ho pins s2 σ H2 x y v u _ I2 r1 r2 q2) λc s3 ⟨z,H3,I3,r3,k,e,q3⟩=>?_) hm
 subst e;cases r3;exact X5 ⟨H3,I3,q3⟩
theorem oX:(sizeLine:Nat)<2 ^ 63:=by rw[sizeLine_eq];decide
theorem vals1{x:V}(r:Vals [x] us):∃u,us=[u]/\RelV x u:=by
 cases r with
 |cons r1 r2=>cases r2;exact⟨_,rfl,r1⟩
theorem vals2{x y:V}(r:Vals [x,y] us):∃u w',us=[u,w']/\RelV x u/\RelV y w':=by
 cases r with
 |cons r1 r2 =>
  cases r2 with
  |cons r3 r4=>cases r4;exact⟨_,_,rfl,r1,r3⟩
theorem Ax:eT X (.builtin "abs") (λxs H Q=>∃i,xs=[.int i]/\Q (.int (if i<0 then -i else i)) H):=by
 intro pins s σ H xs us Q I r h;obtain⟨i,rfl,q⟩:=h;obtain⟨u,rfl,t,rfl⟩:=vals1 r;exact call_abs_int λu tk=>⟨.int (if i<0 then -i else i),H,I.tok _,⟨_,rfl⟩,q⟩
end
end L2
namespace L2
open PySem PySem.Spec PyProof.Rows
structure Wz(h:Heap)(x dx C:Addr)(mA:aU):Prop where
 obj:h.get? x=some (PySem.W.instObj C dx)
 ns:h.Ns1 dx mA
 ne:dx≠x
section
variable {prog:az}{w:World}{A:av}{E:aq}{s:Shared}{K:ai}{x dx C f:Addr}{mA:aU}{name:Str}{v:Value}
end
theorem ue.some_of{v:V}{o:Option Value}(r:ue (some v) o):∃u,o=some u/\RelV v u:=by
 cases o with
 |none=>exact(show False from r).elim
 |some u=>exact⟨u,rfl,r⟩
section
variable {P:az}{w:World}{H H':Hp}{h h':Heap}{a C dx:Addr}{fs V7:List (Str×V)}
end
structure WR(K:ai)(C:Addr):Prop where
 pg:PySem.W.plainGet K C Str.empty=true
 hd:PySem.W.hasDictIn K C=true
 po:PySem.W.plainOver K C=true
 sa:PySem.W.findIn K (.ref C) "__setattr__" = some (some (.builtin "object.__setattr__"))
structure Xe(K:ai)(C:Addr)(f:Str)(v:V)(u:Value):Prop where
 at_:PySem.W.findIn K (.ref C) f=some (some u)
 rel:RelV v u
 get:PySem.W.specialIn K u "__get__" = some none
 cp:PySem.W.copiedNames.contains f=false
structure Meth(K:ai)(C:Addr)(m:Str)(f:Addr):Prop where
 at_:PySem.W.findIn K (.ref C) m=some (some (.ref f))
 fn:PySem.W.isFn K (.ref f)=true
 kp:PySem.W.keepIn K (.ref f)=true
section
variable {X:Cx}{pins:ah}{σ:St}{H:Hp}{s:Shared}{a C dx:Addr}{fs:List (Str×V)}{f:Str}{v:V}{A:av}{E:aq}
end
section
variable {X:Cx}{o e value:Expr}{f:Str}{pos pos' Uj:Pos}{ta tv:TE}
end
section
variable {X:Cx}{pins:ah}{σ:St}{H:Hp}{s:Shared}{A:av}{E:aq}{Q:aq}{c:Value}{b:Bool}
inductive mD(K:ai)(H:Hp):V->Value->Prop where
 |bN:mD K H .bN (.type "NoneType")
 |bl (x:Bool):mD K H (.bl x) (.type "bool")
 |int (i:Int):mD K H (.int i) (.type "int")
 |str (x:Str):mD K H (.str x) (.type "str")
 |Mr (x:UInt64):mD K H (.Mr x) (.type "float")
 |lst {a:Addr} {xs:ae} (e:H a=some (.lst xs)):mD K H (.ref a) (.type "list")
 |gp {a:Addr} {o:Obj} {xs:ae} (e:H a=some (.gp o (.lst xs))):mD K H (.ref a) (.type "list")
 |tup {a:Addr} {xs:ae} (e:H a=some (.tup xs)):mD K H (.ref a) (.type "tuple")
 |dK {a:Addr} {lV:List (Key×V)} (e:H a=some (.dK lV)):mD K H (.ref a) (.type "dict")
 |dT {a:Addr} {lV:List (List Key×V)} (e:H a=some (.dT lV)):mD K H (.ref a) (.type "dict")
 |ins {a C dx:Addr} {fs:List (Str×V)} (e:H a=some (.ins C dx fs)) (cl:WR K C) (ha:PySem.W.findIn K (.ref C) "__class__" = some (some (.builtin "object.__class__")))
   (hn:PySem.W.specialIn K (.builtin "object.__class__") "__get__" = some (some (.builtin "getset_descriptor.__get__"))) (W3:PySem.W.takesIn K (.builtin "object.__class__")=some true)
   (hm:PySem.W.mroIn K C (.type "object")=some true):mD K H (.ref a) (.ref C)
end
end L2
namespace L2
open PySem PySem.Spec PyProof.Rows
structure fI(k:Nat)(A:av):Prop where
 hd:A.handled=none
 dp:A.depth+3*k+5<recursionLimit
 un:A.units+16*k+200<cLine
variable {A:av}
theorem fI.mono{j k:Nat}(r:fI k A)(h:j<=k):fI j A:=⟨r.hd,by have:=r.dp;left,by have:=r.un;left⟩
theorem fI.deeper{k:Nat}{A:av}(r:fI (k+1) A)(env:Env):fI k (A.deeper env) :=
 ⟨r.hd,by have:=r.dp;show A.depth+1+3*k+5<_;left,by have:=r.un;show A.units+3+16*k+200<_;left⟩
theorem fI.depth{k:Nat}{A:av}(r:fI k A):A.depth<recursionLimit:=by have:=r.dp;left
theorem fI.units{k:Nat}{A:av}(r:fI k A):A.units+64<cLine:=by have:=r.un;left
noncomputable def J8:TA:=λ_ H Q=>Q [] H
noncomputable def DW(ta:TE)(tr:TA):TA:=λσ H Q=>ta σ H λx H1=>tr σ H1 λxs H2=>Q (x::xs) H2
section
variable {X:Cx}{e:Expr}{es:aw}{te:TE}{t:TA}{pos:Pos}
theorem fO:PA X [] J8:=λ_ _ _ _ H Q I h=>Zn ⟨[],H,I,.nil,h⟩
theorem di(ha:PE X e te)(hr:PA X es t)(hs:starEach (e::es) X.env=(false,eval e X.env)::starEach es X.env:=by rfl):PA X (e::es) (DW te t):=by
 intro pos pins s σ H Q I h;rw[hs];show wpAny _ _ (spliced ((false,eval e X.env)::backTo pos (starEach es X.env))) _ _ s;refine Zi (cJ (ha pins s σ H _ I h) λu s1 bH=>?_);obtain⟨x,H1,I1,r1,q1⟩:=bH;exact cJ (hr pos pins s1 σ H1 _ I1 q1) λus s2 ⟨xs,H2,I2,r2,q2⟩=>⟨x::xs,H2,I2,.cons r1 r2,q2⟩
def Ot(t:TA):TE:=λσ H Q=>t σ H λxs H1=>xs.length<=sizeLine/\∀p,H1 p=none->Q (.ref p) (upd H1 p (.tup xs))
def Oy(t:TA):TE:=λσ H Q=>t σ H λxs H1=>xs.length<=sizeLine/\∀p,H1 p=none->Q (.ref p) (upd H1 p (.lst xs))
theorem F0{x1}(h:PA X es t):PE X (.Tuple es x1 pos) (Ot t):=by
 intro pins s σ H Q I hq;refine wpAny_Tuple_spliced (cJ (h pos pins s σ H _ I hq) λus s1 ⟨xs,H1,I1,r,z,q⟩=>⟨by rw[<- r.length];exact z,?_⟩);have hf:H1 s1.heap.objs.size=none:=I1.cq.fresh (Xp _);refine⟨.ref s1.heap.objs.size,upd H1 s1.heap.objs.size (.tup xs),I1.laid (t':=s1.toks) (λb u e=>Xj _ e) (Xp _) ?_,rfl,q _ hf⟩;exact⟨z,us,r,⟨_,Xs _ rfl,rfl,_,rfl⟩⟩
theorem F3(h:PA X es t):PE X (.List es pos) (Oy t):=by
 intro pins s σ H Q I hq;refine wpAny_List_spliced (cJ (h pos pins s σ H _ I hq) λus s1 ⟨xs,H1,I1,r,z,q⟩=>⟨by rw[<- r.length];exact z,?_⟩);have hf:H1 s1.heap.objs.size=none:=I1.cq.fresh (Xp _);refine⟨.ref s1.heap.objs.size,upd H1 s1.heap.objs.size (.lst xs),I1.laid (t':=s1.toks) (λb u e=>Xj _ e) (Xp _) ?_,rfl,q _ hf⟩;exact⟨z,us,0,r,Xs _ rfl⟩
end
noncomputable abbrev Sp:=ae->Hp->VK->XK->Prop
noncomputable abbrev xO:=List Env->Hp->Shared->XK->aq
structure DH(P:az)(w:World)(K:ai)(mg:aU)(base:Heap)(A:av)(outer:List Env)(s:Shared)(H:Hp):Prop where
 frames:A.frames=some outer
 mod:Mod K mg base
 bs:∀b o,base.get? b=some o->s.heap.get? b=some o/\H b=none
 ED:base.objs.size<=s.heap.objs.size
 kA:s.heap.FunFrames base outer
 Js:∀b∈xM outer,H b=none
 cq:jU P w H s.heap
 bare:AllBare s.gens
def CE(outer:List Env)(P:az)(w:World)(H:Hp)(s:Shared)(Q:VK)(u:Value)(s':Shared):Prop :=
 ∃v H',s'.os=s.os/\AllBare s'.gens/\Un (xM outer) [] H H' s.heap s'.heap/\jU P w H' s'.heap/\RelV v u/\Q v H'
noncomputable def CR(CX:xO)(outer:List Env)(P:az)(w:World)(H:Hp)(s:Shared)(Q:VK)(E:XK)(r:Result)(s':Shared):Prop :=
 match r with
 |.ok (.ret u)=>CE outer P w H s Q u s'
 |.ok _=>False
 |.error e=>CX outer H s E e s'
structure ie(P:az)(w:World)(K:ai)(mg:aU)(base:Heap)(CX:xO)(k:Nat)(f:Addr)(fd:FuncData)(ps:ao)(sp:Sp):Prop where
 len:∀vs H Q E,sp vs H Q E->vs.length=ps.length
 run:∀(A:av) (outer:List Env) (s:Shared) (H:Hp) (args:Args) (us:ag) (vs:ae) (Q:VK) (E:XK),fI k A->DH P w K mg base A outer s H->BindsTo s fd args (ps.zip us)->Vals vs us->sp vs H Q E ->
  codeAny (model P w) A (.call (.ref f) args) (CR CX outer P w H s Q E) s
theorem ie.mono{P:az}{w:World}{K:ai}{mg:aU}{base:Heap}{CX:xO}{j k:Nat}{f:Addr}{fd:FuncData}{ps:ao}{sp:Sp}(F:ie P w K mg base CX j f fd ps sp)(h:j<=k):
  ie P w K mg base CX k f fd ps sp:=⟨F.len,λA outer s H args us vs Q E hr=>F.run A outer s H args us vs Q E (hr.mono h)⟩
variable {Q:VK}
section
variable {X:Cx}{pins:ah}{σ:St}{H:Hp}{s s':Shared}
theorem Inv.Rc(I:Inv X pins σ H s):DH X.prog X.w X.K X.mg X.base X.A X.stack s H :=
 ⟨I.ok.frames,I.ok.mod,I.bs,XO I.ok.ED I.sz,I.stack,I.ur,I.cq,I.bare⟩
theorem Inv.after{u:Value}(I:Inv X pins σ H s)(h:CE X.stack X.prog X.w H s Q u s'):EP X pins σ Q u s':=by
 obtain⟨v,H',os,bare,un,cq,r,q⟩:=h;obtain⟨hh,g,d,t,O8⟩:=s';obtain rfl:O8=s.os:=os;exact⟨v,H',I.call (h':=hh) (g':=g) (d':=d) (t':=t) (ch:=[]) un cq bare (λb z=>absurd z (by simp)),r,q⟩
end
noncomputable def Ka(sp:Sp)(eN:ae)(E:XK)(t:TA):TE:=λσ H Q=>t σ H λvs H1=>sp (vs++eN) H1 Q E
noncomputable def Binds(K:ai)(fd:FuncData)(ps:ao)(ds:ag):Prop :=
 ∀(s:Shared) (us:ag),K.In s.heap->(us++ds).length=ps.length->BindsTo s fd ⟨us,[]⟩ (ps.zip (us++ds))
variable {K:ai}{N ps:ao}
theorem Binds.all{fd:FuncData}(h:∀us:ag,us.length=ps.length->bindArgs fd ⟨us,[]⟩=pure (ps.zip us)):Binds K fd ps []:=λs us _ hl=>by
 rw[List.append_nil]at hl ⊢;exact .of_eq (h us hl)
def Passes(CX:xO)(X:Cx)(E:XK):Prop:=∀(pins:ah) (σ:St) (H:Hp) (s:Shared) (e:Value) (s':Shared),Inv X pins σ H s->CX X.stack H s E e s'->X.xe e s'
variable {us:ag}{vs:ae}
section
variable {X:Cx}{CX:xO}{k:Nat}{f C:Addr}{fd:FuncData}{ps:ao}{sp:Sp}{eN:ae}{ds:ag}{E:XK}{x m:Str}{p pos apos:Pos}{e o:Expr}{es:aw}{ta:TE}{t:TA}
theorem FG{pins:ah}{σ:St}{H:Hp}{s:Shared}(F:ie X.prog X.w X.K X.mg X.base CX k f fd ps sp)(hr:fI k X.A)(hb:Binds X.K fd ps ds)(hd:Vals eN ds)(hx:Passes CX X E)
  (I:Inv X pins σ H s) (r:Vals vs us) (h:sp (vs++eN) H Q E):wpAny (model X.prog X.w) X.A (call (.ref f) us) (EP X pins σ Q) X.xe s:=by
 have r2:Vals (vs++eN) (us++ds):=r.append hd;have hl:(us++ds).length=ps.length:=by rw[<- r2.length];exact F.len _ _ _ _ h
 refine wpAny_call (Y1 (F.run X.A X.stack s H ⟨us,[]⟩ (us++ds) (vs++eN) Q E hr I.Rc (hb s us I.xH hl) r2 h) λr s' hq=>?_);cases r with
 |error e=>exact hx pins σ H s e s' I hq
 |ok fl =>
  cases fl with
  |ret u=>exact I.after hq
  |next=>exact False.elim hq
  |brk=>exact False.elim hq
  |cont=>exact False.elim hq
theorem BY(F:ie X.prog X.w X.K X.mg X.base CX k f fd ps sp)(hr:fI k X.A)(hg:Gl X x)(hm:X.mg x=some (.ref f))(hk:PySem.W.keepIn X.K (.ref f)=true)(hb:Binds X.K fd ps ds)(hd:Vals eN ds)(hx:Passes CX X E)
  (ha:PA X (e::es) t) (L0:(x==("__debug__" : Str))=false:=by decide) (he:starEach (e::es) X.env=(false,eval e X.env)::starEach es X.env:=by rfl) (hpl:(backTo pos (starEach es X.env)).any (·.1)=false:=by rfl) :
  PE X (.Call (.Name x p) (e::es) [] pos) (Ka sp eN E t):=by
 intro pins s σ H Q I h;refine X_ (uT I hg hm ?_ L0);refine PySem.W.callWith_K (h₀:=X.base) I.ok.mod.Pn hk (cJ (ha pos pins s σ H _ I h) λus s1 ⟨vs,H1,I1,r,q⟩=>⟨I1.xH,?_⟩) he hpl;exact FG F hr hb hd hx I1 r q
structure Mk(K:ai)(C f:Addr):Prop where
 makes:PySem.W.makesIn K C=true
 init:PySem.W.findIn K (.ref C) "__init__" = some (some (.ref f))
 fn:PySem.W.isFn K (.ref f)=true
 kp:PySem.W.keepIn K (.ref C)=true
end
section
variable {X:Cx}{CX:xO}{k:Nat}{f C:Addr}{fd:FuncData}{ps ks:ao}{sp:Sp}{E:XK}{x m:Str}{p pos apos U3:Pos}{e o:Expr}{es:aw}{WY:List Keyword}{te ta:TE}{t tk:TA}{nm:Option Str}
structure RJ(K:ai)(fd:FuncData)(ps ks:ao)(g:ag->ag->ag)(gV:ae->ae->ae):Prop where
 to:∀(s:Shared) (us ws:ag),K.In s.heap->(g us ws).length=ps.length->BindsTo s fd ⟨us,ks.zip ws⟩ (ps.zip (g us ws))
 rel:∀{vs:ae} {us:ag} {zs:ae} {ws:ag},Vals vs us->Vals zs ws->Vals (gV vs zs) (g us ws)
variable {g:ag->ag->ag}{gV:ae->ae->ae}
end
structure hW(N P:ao)(sc:Scope):Prop where
 kind:sc.kind=.function
 co:sc.isCoroutine=false
 gen:sc.isGenerator=false
 nd:N.Nodup
 pre:N.take P.length=P
 par:∀x∈P,sc.names.lookup x=some .local\/sc.names.lookup x=some .cell
 Gp:∀y∈sc.names,y.2≠.free
theorem n9{kindOf:Str->Option NameKind}{x:Str}:∀{binds:List (Str×Value)} {m:aU},(∀v,(x,v)∉binds)->bindL kindOf binds m x=m x
 |[],_,_=>rfl
 | (n,v)::r,m,h=>by
  unfold bindL;rw[n9 λw hw=>h w (List.mem_cons_of_mem _ hw)];split
  ·have:x≠n:=by rintro rfl;exact h v Xo
   simp[this]
  ·rfl
theorem oe{kindOf:Str->Option NameKind}{x:Str}:∀{binds:List (Str×Value)} {m:aU},(∀v,(x,v)∉binds)->bindC kindOf binds m x=m x
 |[],_,_=>rfl
 | (n,v)::r,m,h=>by
  unfold bindC;rw[oe λw hw=>h w (List.mem_cons_of_mem _ hw)];split
  ·rfl
  ·have:x≠n:=by rintro rfl;exact h v Xo
   simp[this]
theorem n_{kindOf:Str->Option NameKind}{x:Str}{v:Value}:∀{P:ao} {vs:ag} {i:Nat} {m:aU},P.Nodup->P[i]?=some x->vs[i]?=some v->kindOf x=some .local ->
  bindL kindOf (P.zip vs) m x=some v
 |[],_,_,_,_,h,_,_=>by simp at h
 |_::_,[],_,_,_,_,h,_=>by simp at h
 |p::P,w::vs,0,m,nd,h1,h2,hk=>by
  simp at h1 h2;subst h1;subst h2;show bindL kindOf ((p,w)::P.zip vs) m p=_;unfold bindL;rw[n9 λv hv=>(List.nodup_cons.mp nd).1 (List.of_mem_zip hv).1,if_pos hk];simp
 |p::P,w::vs,i+1,m,nd,h1,h2,hk=>by
  show bindL kindOf ((p,w)::P.zip vs) m x=_;unfold bindL;exact n_ (i:=i) (List.nodup_cons.mp nd).2 (by simpa using h1) (by simpa using h2) hk
theorem og{kindOf:Str->Option NameKind}{x:Str}{v:Value}:∀{P:ao} {vs:ag} {i:Nat} {m:aU},P.Nodup->P[i]?=some x->vs[i]?=some v->kindOf x≠some .local ->
  bindC kindOf (P.zip vs) m x=some v
 |[],_,_,_,_,h,_,_=>by simp at h
 |_::_,[],_,_,_,_,h,_=>by simp at h
 |p::P,w::vs,0,m,nd,h1,h2,hk=>by
  simp at h1 h2;subst h1;subst h2;show bindC kindOf ((p,w)::P.zip vs) m p=_;unfold bindC;rw[oe λv hv=>(List.nodup_cons.mp nd).1 (List.of_mem_zip hv).1,if_neg hk];simp
 |p::P,w::vs,i+1,m,nd,h1,h2,hk=>by
  show bindC kindOf ((p,w)::P.zip vs) m x=_;unfold bindC;exact og (i:=i) (List.nodup_cons.mp nd).2 (by simpa using h1) (by simpa using h2) hk
noncomputable def start(N:ao)(vs:ae):St:=vs.map some++List.replicate (N.length - vs.length) none
noncomputable def tY(CX:xO)(P:az)(w:World)(K:ai)(mg:aU)(base:Heap)(N:ao)(qual:Str)(scope:Scope)(f:Addr)(cd:Value)(A:av)(outer:List Env)(s:Shared)(H:Hp)(E:XK):Cx where
 prog:=P
 w:=w
 K:=K
 mg:=mg
 base:=base
 A:=A.deeper (envOfC qual scope s.heap.objs.size f cd)
 N:=N
 s₀:=s
 H₀:=H
 env:=envOfC qual scope s.heap.objs.size f cd
 outer:=outer
 stack:=envOfC qual scope s.heap.objs.size f cd::outer
 ex:=[]
 calm:=true
 fn:=λ_=>true
 pn:=[]
 xe:=λe s'=>wpAny (model P w) (A.deeper (envOfC qual scope s.heap.objs.size f cd)) (leaving (envOfC qual scope s.heap.objs.size f cd) e) (λ_ OL=>CX outer H s E e OL) (λe' OL=>CX outer H s E e' OL) s'
theorem rQ{sc:Scope}{n:Nat}{x:Str}(h:sc.names.lookup x=some .cell):∃c,(cellsFrom n sc.names []).lookup x=some c:=by
 have q:=PySem.W.cellsFrom_some sc.names n [] (.inl h);exact Option.isSome_iff_exists.mp q
variable {P:az}{base:Heap}{f:Addr}{mg:Str->Option Value}{qual:Str}{scope:Scope}{w:World}
theorem wN{CX:xO}{cd:Value}{outer:List Env}{s s1:Shared}{H:Hp}{E:XK}  
  (S:hW N ps scope) (hd:A.handled=none) (e0:DH P w K mg base A outer s H) (hl:vs.length=ps.length) (r:Vals vs us)
  (x:InCallC s s.heap.objs.size (bindL (envOfC qual scope s.heap.objs.size f cd).kindOf (ps.zip us) λ_=>none) (cellsFrom (s.heap.objs.size+1) scope.names []) (bindC (envOfC qual scope s.heap.objs.size f cd).kindOf (ps.zip us) λ_=>none) s1) :
  Inv (tY CX P w K mg base N qual scope f cd A outer s H E) [] (start N vs) H s1:=by
 have hpl:ps.length<=N.length:=by have:=X0 List.length S.pre;rw[List.length_take]at this;left
 obtain⟨h1,tk,rfl,hk⟩:=x.done;have K8:∀b:Addr,b∉(tY CX P w K mg base N qual scope f cd A outer s H E).ex:=λb z=>absurd (show b∈([]:aP) from z) (by simp);refine⟨⟨e0.mod,S.kind,rfl,rfl,Xp _,λy z c h1 h2=>?_,λy hy=>?_,λy c _ h=>?_,λ_=>hd,Around.frames_deeper e0.frames,.inr ⟨rfl,rfl⟩,λb z=>absurd z (K8 b),e0.bs,e0.ED,λb _ _=>K8 b,λb z=>absurd z (K8 b),e0.kA,e0.Js⟩,
  rfl,e0.bare,Un.kept hk,⟨_,x.toInCall.ns,λi y v h1 h2 h3=>?_⟩,λy c h=>⟨_,x.cell y c h⟩,e0.cq.fresh (Xp _),λy c h=>?_,λp hp=>absurd (show p∈([]:ah) from hp) (by simp),e0.cq.kept hk,?_⟩
 ·exact name_of_addr x.apart (X8 h1) (X8 h2)
 ·have hy:scope.names.lookup y=some .cell\/scope.names.lookup y=some .free:=hy;rcases hy with hy|hy
  ·exact rQ hy
  ·exact absurd rfl (S.Gp _ (X8 hy))
 ·exact Nat.le_of_lt (x.above y c (X8 h))
 ·have hi:i<vs.length:=by
   unfold start at h2;by_cases hi:i<vs.length
   ·exact hi
   ·rw[List.getElem?_append_right (by simpa using hi)]at h2;rw[List.getElem?_replicate]at h2;split at h2<;>cases h2
  have ha:vs[i]?=some v:=by
   unfold start at h2;rw[List.getElem?_append_left (by simpa using hi),List.getElem?_map]at h2;cases e:vs[i]? with
   |none=>rw[e]at h2;cases h2
   |some a=>rw[e]at h2;cases h2;rfl
  obtain⟨u,hu,rv⟩:=r.get ha;have hp:ps[i]?=some y:=by
   rw[<- S.pre,List.getElem?_take_of_lt (by left)];exact h1
  have Se:ps.Nodup:=by rw[<- S.pre];exact S.nd.sublist (List.take_sublist _ _)
  refine⟨u,rv,?_⟩;rcases S.par y (Xw hp)with k|k
  ·exact .inl ⟨k,n_ Se hp hu k⟩
  ·obtain⟨c,e⟩:=rQ (n:=s.heap.objs.size+1) k;refine .inr ⟨.inl k,c,e,?_⟩;have q:=x.cell y c e;rw[og Se hp hu (by show scope.names.lookup y≠_;rw[k];decide)]at q;exact q
 ·exact e0.cq.fresh (Nat.le_of_lt (x.above y c (X8 h)))
 ·unfold start;show _=N.length;rw[List.length_append,List.length_map,List.length_replicate];left
theorem Mp{CX:xO}{k:Nat}{name:Str}{params:Arguments}{body:bj}{dV kV doc pm iu ct oc:Value}{an od:Option Addr}
  {AI:Array (Option Value)} {sp:Sp} (lk:K.lookup f=some ⟨oc,od,.func (PySem.W.fnOf name qual params body scope dV kV doc pm an iu ct),AI⟩) (w5:PySem.W.codeIn K iu qual=true) (S:hW N ps scope)
  (len:∀vs H Q E,sp vs H Q E->vs.length=ps.length)
  (zU:∀(A:av) (outer:List Env) (s:Shared) (H:Hp) (vs:ae) (Q:VK) (E:XK),fI k (A.deeper (envOfC qual scope s.heap.objs.size f iu))->sp vs H Q E ->
   ∃t,lh (tY CX P w K mg base N qual scope f iu A outer s H E) body t/\t { nx:=λ_ H'=>Q .bN H',rt:=Q } (start N vs) H) :
  ie P w K mg base CX (k+1) f (PySem.W.fnOf name qual params body scope dV kV doc pm an iu ct) ps sp:=by
 refine⟨len,λA outer s H args us vs Q E hr e0 hb r AM=>?_⟩;have hl:=len _ _ _ _ AM;have KX:K.In s.heap:=e0.mod.Pn.keeps λb o e=>(e0.bs b o e).1;have lim:s.heap.NoLimit:=e0.mod.nolimit.keeps λb o e=>(e0.bs b o e).1;have LU:∀y∈ps.zip us,scope.names.lookup y.1=some .local\/(scope.names.lookup y.1=some .cell/\((cellsFrom (s.heap.objs.size+1) scope.names []).lookup y.1).isSome=true):=λ⟨n,v⟩ hy=>by
  rcases S.par n (List.of_mem_zip hy).1 with q|q
  ·exact .inl q
  ·exact .inr ⟨q,PySem.W.cellsFrom_some _ _ _ (.inl q)⟩
 refine codeAny_call_function hr.depth (KX _ _ lk) rfl S.co S.gen rfl (PySem.W.codeRec_of KX w5) (hb _ _ _ _ ?_);refine wpAny_newFunctionEnv_cells S.kind LU λenv he s1 x=>?_;subst he;refine⟨lim.keeps x.toInCall.keep,codeAny_func ?_⟩;obtain⟨t,ht,hq⟩:=zU A outer s H vs Q E (hr.deeper _) AM;have I:Inv (tY CX P w K mg base N qual scope f iu A outer s H E) [] (start N vs) H s1:=wN S hr.hd e0 hl r x;refine XE (ht [] s1 (start N vs) H _ I hq) (λfl s' hs=>?_) λe s' hs=>hs;have fin:∀{σ':St} {H':Hp} {v:V} {u:Value},Inv (tY CX P w K mg base N qual scope f iu A outer s H E) [] σ' H' s'->RelV v u->Q v H'->CE outer P w H s Q u s' :=
  λ{σ' H' v u} J rv q=>⟨v,H',J.os,J.bare,J.base,J.cq,rv,q⟩
 cases fl with
 |ret u =>
  obtain⟨v,σ',H',J,rv,q⟩:=hs;exact fin J rv q
 |next =>
  obtain⟨σ',H',J,q⟩:=hs;exact fin (v:=V.bN) (u:=Value.none) J rfl q
 |brk =>
  obtain⟨_,_,_,q⟩:=hs;exact False.elim q
 |cont =>
  obtain⟨_,_,_,q⟩:=hs;exact False.elim q
end L2
namespace L2
open PySem PySem.Spec PyProof.Rows
section
variable {X:Cx}{x:Str}{p pos:Pos}{e:Expr}{es:aw}{t:TA}{id T:String}{r:ae->Hp->VK->Prop}
noncomputable def Kb(r:ae->Hp->VK->Prop)(t:TA):TE:=λσ H Q=>t σ H λvs H1=>r vs H1 Q
theorem dC(hc:eT X (.builtin id) r)(hg:Gl X x)(hm:X.mg x=none)(hv:bootBuiltins x=some (.builtin id))(ha:PA X (e::es) t)(hn:x ≠ "__name__":=by decide)(L0:(x==("__debug__" : Str))=false:=by decide)
  (he:starEach (e::es) X.env=(false,eval e X.env)::starEach es X.env:=by rfl) (hpl:(backTo pos (starEach es X.env)).any (·.1)=false:=by rfl):PE X (.Call (.Name x p) (e::es) [] pos) (Kb r t):=by
 intro pins s σ H Q I h;refine X_ (eJ I hg hm hv ?_ hn L0);exact PyProof.Rows.callWith_builtin1 (cJ (ha pos pins s σ H _ I h) λus s1 ⟨vs,H1,I1,r1,q1⟩=>hc pins s1 σ H1 vs us Q I1 r1 q1) he hpl
theorem nG(hc:eT X (.type T) r)(hg:Gl X x)(hm:X.mg x=none)(hv:bootBuiltins x=some (.type T))(ha:PA X (e::es) t)(hn:x ≠ "__name__":=by decide)(L0:(x==("__debug__" : Str))=false:=by decide)
  (he:starEach (e::es) X.env=(false,eval e X.env)::starEach es X.env:=by rfl) (hpl:(backTo pos (starEach es X.env)).any (·.1)=false:=by rfl):PE X (.Call (.Name x p) (e::es) [] pos) (Kb r t):=by
 intro pins s σ H Q I h;refine X_ (eJ I hg hm hv ?_ hn L0);exact XC (cJ (ha pos pins s σ H _ I h) λus s1 ⟨vs,H1,I1,r1,q1⟩=>hc pins s1 σ H1 vs us Q I1 r1 q1) he hpl
end
end L2
namespace HT
open PySem PyProof.Rows
noncomputable def lexLt:ab->ab->Bool
 |[],[]=>false
 |[],_::_=>true
 |_::_,[]=>false
 |x::xs,y::ys=>if x=y then lexLt xs ys else decide (x<y)
theorem cW(x y:Int)(xs ys:ab):lexLt (x::xs) (y::ys)=if x=y then lexLt xs ys else decide (x<y):=rfl
theorem ip:lexLt [] []=false:=rfl
theorem lU(y:Int)(ys:ab):lexLt [] (y::ys)=true:=rfl
theorem cy(x:Int)(xs:ab):lexLt (x::xs) []=false:=rfl
theorem rF(A:av)(s:Shared)(a:Int)(t:Tok)(c:Int)(u:Tok):∃e,SeqAt.EqAt A s (.int a t) (.int c u) e/\(e=true ↔ a=c) :=
 ⟨(a==c),YH a t c u,by simp⟩
theorem yF(A:av)(s:Shared)(a:Int)(t:Tok)(c:Int)(u:Tok)(prog:az)(w:World)(E:aq)(Q:aq)(h:Q (.bool (decide (a<c))) s):
  wpAny (model prog w) A (richCompare .Lt (.int a t) (.int c u)) Q E s :=
 (PyProof.Rows.lt_int h:wpAny (model prog w) A (compareOp .Lt (.int a t) (.int c u)) Q E s)
section
open PySem.SeqAt
open PySem.AutoSeq1 (wpAny_loadPart')
open PySem.MeetsSeq PySem.MeetsSeq2 PySem.MeetsSeq3
theorem ig(l b:Addr)(items cN:aN)(n n2:Nat)(dd vz:Option Addr)(sl uy:Array (Option Value))(ns ms:ab)(hi:IntsAre items.toList ns)(hj:IntsAre cN.toList ms):
  Meets (Builtin.«tuple.__lt__» ⟨[.ref l,.ref b],[]⟩)
   (λ_ R s=>s.heap.get? l=some { cls:=.type "tuple",dict:=dd,data:=.seq items n,slots:=sl }/\s.heap.get? b=some { cls:=.type "tuple",dict:=vz,data:=.seq cN n2,slots:=uy } /\
    R (.ok (.ret (.bool (lexLt ns ms)))) s) :=
 .of_wp λprog w A R s h=>by
  obtain⟨hp,g,d,tk,os⟩:=s;obtain⟨hl,hb,h⟩:=h;have f2:=AutoSeq1.sub_tuple_tuple;have z1:items.size=ns.length:=by rw[<- hi.length];simp
  have z2:cN.size=ms.length:=by rw[<- hj.length];simp
  wp_walk using wpAny_loadPart' hl,wpAny_loadPart' hb,wpAny_forIn_list _ (λrest b s'=>b.1=none/\s'=⟨hp,g,d,tk,os⟩/\∃(vs ws:ag) (hZ qO:ab),rest=vs.zip ws /\
   IntsAre vs hZ/\IntsAre ws qO/\hZ.length+cN.size=qO.length+items.size/\R (.ok (.ret (.bool (lexLt hZ qO)))) ⟨hp,g,d,tk,os⟩) _
  case turn =>
   rintro ⟨y,x⟩ rest b s' ⟨m4,rfl,vs,ws,hZ,qO,hz,G4,El,hlen,hR⟩;cases G4 with
   |nil=>rw[List.zip_nil_left]at hz;cases hz
   |cons a t hvi' =>
    cases El with
    |nil=>rw[List.zip_nil_right]at hz;cases hz
    |cons c u hwi' =>
     rw[List.zip_cons_cons]at hz;injection hz with PR zJ
     injection PR with hy hx
     subst hy hx;rw[cW]at hR;simp only[List.length_cons]at hlen;obtain⟨e,he,zP⟩:=rF A.in1 ⟨hp,g,d,tk,os⟩ a t c u;refine Xf (he prog w _ _ ?_);cases e with
     |true =>
      rw[if_pos (zP.mp rfl)]at hR
      wp_walk
      exact⟨rfl,rfl,_,_,_,_,zJ,hvi',hwi',by left,hR⟩
     |false =>
      rw[if_neg (λq=>absurd (zP.mpr q) Bool.false_ne_true)]at hR;have P_:=yF A.in1 ⟨hp,g,d,tk,os⟩ a t c u prog w
      wp_walk using P_
      exact⟨_,rfl,by simpa using hR⟩
  case fin =>
   rintro ⟨b1,b2⟩ s' ⟨m4,rfl,vs,ws,hZ,qO,hz,G4,El,hlen,hR⟩;simp only at m4;subst m4;have hv:lexLt hZ qO=decide (items.size<cN.size):=by
    cases G4 with
    |nil =>
     cases El with
     |nil =>
      simp only[List.length_nil]at hlen;rw[ip];exact(XY (by left)).symm
     |cons c u hw =>
      simp only[List.length_nil,List.length_cons]at hlen;rw[lU];exact(XU (by left)).symm
    |cons a t hv =>
     cases El with
     |nil =>
      simp only[List.length_nil,List.length_cons]at hlen;rw[cy];exact(XY (by left)).symm
     |cons c u hw =>
      rw[List.zip_cons_cons]at hz;cases hz
   rw[hv]at hR
   wp_walk
   exact⟨_,rfl,by simpa [Builtin.Tuple.tupleCompareSizes]using hR⟩
  case h =>
   exact⟨rfl,rfl,items.toList,cN.toList,ns,ms,rfl,hi,hj,by left,h⟩
end
variable {Q:Value->Shared->Prop}
section
variable {prog:az}{w:World}{A:av}{E:aq}{s:Shared}
theorem lR{l b:Addr}{items cN:aN}{ns ms:ab}(hl:IsTup s.heap l items)(hb:IsTup s.heap b cN)(hi:IntsAre items.toList ns)(hj:IntsAre cN.toList ms)
  (hu:A.units<cLine) (h:Q (.bool (lexLt ns ms)) s):wpAny (model prog w) A (compareOp .Lt (.ref l) (.ref b)) Q E s:=by
 obtain⟨⟨cls,dd,data,sl⟩,ho,hc,n,hd⟩:=id hl;obtain⟨⟨Dm,vz,data2,uy⟩,o4,hc2,n2,hd2⟩:=id hb;simp only at hc hd hc2 hd2;subst hc hd hc2 hd2;exact richCompare_meets_room (op:=.Lt) ⟨_,ho,rfl⟩ ⟨_,o4,rfl⟩ YZ PySem.F.entry_tuple_lt (PySem.F.args_tuple_lt_2 _ _) (ig l b items cN n n2 dd vz sl uy ns ms hi hj)
  ⟨ho,o4,show Value.bool (lexLt ns ms)≠Value.notImplemented/\Q (.bool (lexLt ns ms)) s from⟨(λx=>nomatch x),h⟩⟩ hu
theorem Du{t b:Addr}{vs ws:ag}(ht:IsTup s.heap t vs.toArray)(hb:IsTup s.heap b ws.toArray)(hv:vs≠[])
  (h1:ws=[]->Q (.ref t) s) (h2:ws≠[]->Q (.ref s.heap.objs.size) { s with heap:=s.heap.push { cls:=.type "tuple",data:=.seq (vs++ws).toArray } })
  (hsz:vs.length+ws.length<=sizeLine):wpAny (model prog w) A (binaryOp .Add (.ref t) (.ref b)) Q E s:=by
 obtain⟨⟨cls,dd,data,sl⟩,ho,hc,n,hd⟩:=id ht;obtain⟨⟨Dm,vz,data2,uy⟩,o4,hc2,n2,hd2⟩:=id hb;simp only at hc hd hc2 hd2;subst hc hd hc2 hd2;have e:vs.toArray++ws.toArray=(vs++ws).toArray:=by simp
 by_cases hw:ws=[]
 ·exact concat_meets ⟨_,ho,rfl⟩ ⟨_,o4,rfl⟩ noFill_tuple_add seq_tuple_add YN YL (YI _ _)
   (tuple_addW1 t b vs.toArray ws.toArray n n2 dd vz sl uy (by simpa using hv) (by simp[hw])) ⟨ho,o4,h1 hw⟩
 ·refine concat_meets ⟨_,ho,rfl⟩ ⟨_,o4,rfl⟩ noFill_tuple_add seq_tuple_add YN YL (YI _ _)
   (tuple_addW2 t b vs.toArray ws.toArray n n2 dd vz sl uy (by simpa using hv) (by simpa using hw) (by rw[List.size_toArray,List.size_toArray];exact hsz)) ⟨ho,o4,?_⟩
  rw[e];exact h2 hw
end
end HT
namespace L2
open PySem PySem.Spec PyProof.Rows
noncomputable abbrev TO:=St->Hp->(Option Int->Hp->Prop)->Prop
noncomputable def PO(X:Cx)(e:Option Expr)(t:TO):Prop :=
 ∀(pins:ah) (s:Shared) (σ:St) (H:Hp) (Q:Option Int->Hp->Prop),Inv X pins σ H s->t σ H Q ->
  wpAny (model X.prog X.w) X.A (evalPart e X.env) (λu s'=>∃o H',Inv X pins σ H' s'/\IsPart u o/\Q o H') X.xe s
noncomputable def Bq:TO:=λ_ H Q=>Q none H
noncomputable def J5(t:TE):TO:=λσ H Q=>t σ H λx H1=>∃i,x=.int i/\Q (some i) H1
theorem intsAre_of{ns:ab}:∀{us:ag},Vals (ns.map V.int) us->IntsAre us ns:=by
 induction ns with
 |nil=>intro us r;rw[List.map_nil]at r;cases r;exact .nil
 |cons n ns ih =>
  intro us r;rw[List.map_cons]at r;cases r with
  |cons r1 r2 =>
   obtain⟨t,e⟩:=r1;subst e;exact .cons n t (ih r2)
section
variable {X:Cx}{e:Expr}{te:TE}{lo hi:Option Expr}{tl th:TO}{pos p2:Pos}
theorem uF:PO X none Bq:=by
 intro pins s σ H Q I h;rw[evalPart_none];exact Xg ⟨none,H,I,.none,h⟩
theorem uE(h:PE X e te):PO X (some e) (J5 te):=by
 intro pins s σ H Q I hw;rw[evalPart_some];refine cJ (h pins s σ H _ I hw) λu s1 bH=>?_;obtain⟨x,H1,I1,r1,q1⟩:=bH;obtain⟨i,rfl,q⟩:=q1;obtain⟨t,rfl⟩:=r1;exact⟨some i,H1,I1,.int i t,q⟩
def RH(X:Cx)(r:V->Option Int->Option Int->Hp->VK->Prop):Prop :=
 ∀(pins:ah) (s:Shared) (σ:St) (H:Hp) (x:V) (v vl vu:Value) (lo hi:Option Int) (sl:Addr) (Q:VK),Inv X pins σ H s->RelV x v->s.heap.IsSliceOf sl vl vu .none->IsPart vl lo->IsPart vu hi->r x lo hi H Q ->
  ∃T id,typeLookup (.type T) "__getitem__" = pure (some (.builtin id))/\s.TypeIs v T/\wpAny (model X.prog X.w) X.A (getItem v (.ref sl)) (EP X pins σ Q) X.xe s
noncomputable def Uo(r:V->Option Int->Option Int->Hp->VK->Prop)(te:TE)(tl th:TO):TE:=λσ H Q=>te σ H λx H1=>tl σ H1 λl H2=>th σ H2 λu H3=>r x l u H3 Q
theorem yT{r:V->Option Int->Option Int->Hp->VK->Prop}(hr:RH X r)(he:PE X e te)(hl:PO X lo tl)(hu:PO X hi th):PE X (.Subscript e (.Slice lo hi none p2) pos) (Uo r te tl th):=by
 intro pins s σ H Q I h;refine Subscript_ (cJ (he pins s σ H _ I h) λv s1 bH=>?_);obtain⟨x,H1,I1,r1,q1⟩:=bH;refine wpAny_Slice (cJ (hl pins s1 σ H1 _ I1 q1) λvl s2 ⟨l,H2,I2,pl,q2⟩=>cJ (hu pins s2 σ H2 _ I2 q2) λvu s3 bH=>?_);obtain⟨u,H3,I3,pu,q3⟩:=bH;rw[evalPart_none];refine Xg ?_;have I4:Inv X pins σ H3 { s3 with heap:=s3.heap.push { cls:=.type "slice",data:=.fields #[vl,vu,.none] } }:=I3.kept (t':=s3.toks) λb ob q=>Xj _ q;obtain⟨T,id,hT,ht,hg⟩:=hr pins { s3 with heap:=s3.heap.push { cls:=.type "slice",data:=.fields #[vl,vu,.none] } } σ H3 x v vl vu l u s3.heap.objs.size Q I4 r1 (Heap.IsSliceOf.new ..) pl pu q3;show wpAny (model X.prog X.w) X.A (subscriptTail e (.Slice lo hi none p2) v (.ref s3.heap.objs.size)) (EP X pins σ Q) X.xe { s3 with heap:=s3.heap.push { cls:=.type "slice",data:=.fields #[vl,vu,.none] } };exact tail_any (ops:=[.ref s3.heap.objs.size,v]) ht hT hg (by with_unfolding_all rfl)
def Kw(K:ai):R2:=λx y H Q=>∃a b xs ys,x=.ref a/\y=.ref b/\aR K H a xs/\aR K H b ys/\xs≠[]/\xs.length+ys.length<=sizeLine /\
 (ys=[]->Q (.ref a) H)/\(ys≠[]->∀p,H p=none->Q (.ref p) (upd H p (.tup (xs++ys))))
theorem Vals.oQ{xs:ae}{us:ag}(r:Vals xs us):us=[] ↔ xs=[]:=by
 cases r with
 |nil=>simp
 |cons _ _=>simp
theorem B_:iN X (binaryOp .Add) (Kw X.K):=by
 intro pins s σ H x y v u Q I rx ry h;obtain⟨a,b,xs,ys,rfl,rfl,ha,hb,hx,hz,q1,q2⟩:=h;cases rx;cases ry;obtain⟨aH,r1,p1,_⟩:=I.tuple ha;obtain⟨tw,r2,p2,_⟩:=I.tuple hb;refine HT.Du p1 p2 (λz=>hx (r1.oQ.mp z)) (λz=>⟨.ref a,H,I,rfl,q1 (r2.oQ.mp z)⟩) (λz=>?_) (by rw[<- r1.length,<- r2.length];exact hz);refine⟨.ref s.heap.objs.size,_,I.laid (t':=s.toks) (o:=.tup (xs++ys)) (λb ob q=>Xj _ q) (Xp _) ?_,rfl,q2 (λw=>z (r2.oQ.mpr w)) _ (I.cq.fresh (Xp _))⟩;exact⟨by rw[List.length_append];exact hz,_,r1.append r2,IsTup.new _ _⟩
end
end L2
namespace L2
open PySem PySem.Spec PyProof.Rows
noncomputable def wI(n:Nat)(i:Int):Option Nat:=if 0<=i then(if i<n then some i.toNat else none)else if -(n:Int)<=i then some (i+n).toNat else none
def EH{α:Type}(xs:List α)(i:Int):Option α:=(wI xs.length i).bind λj=>xs[j]?
theorem uX{n:Nat}{i:Int}{j:Nat}(h:wI n i=some j):seqIndex? i n=some j/\j<n /\ -(n:Int)<=i/\i<n:=by
 unfold wI at h;by_cases h0:0<=i
 ·rw[if_pos h0]at h;by_cases h1:i<n
  ·rw[if_pos h1]at h;have e:i.toNat=j:=Xv h;exact⟨by rw[seqIndex_of h0 h1,e],by left,by left,h1⟩
  ·rw[if_neg h1]at h;cases h
 ·rw[if_neg h0]at h;by_cases h1:-(n:Int)<=i
  ·rw[if_pos h1]at h;have e:(i+n).toNat=j:=Xv h;exact⟨by rw[seqIndex_neg (by left) h1,e],by left,h1,by left⟩
  ·rw[if_neg h1]at h;cases h
theorem vM{α:Type}{xs:List α}{i:Int}{v:α}(h:EH xs i=some v):∃j,seqIndex? i xs.length=some j/\xs[j]?=some v/\j<xs.length /\ -(xs.length:Int)<=i/\i<xs.length:=by
 unfold EH at h;cases e:wI xs.length i with
 |none=>rw[e]at h;cases h
 |some j =>
  rw[e]at h;obtain⟨h1,h2,h3,h4⟩:=uX e;exact⟨j,h1,h,h2,h3,h4⟩
def lg(b:Expr):Prop:=∀o i,subscripted b false o i=operate [o,i] (getItem o i)
def EO(X:Cx)(r:R2):Prop :=
 ∀(value slice:Expr) (pins:ah) (s:Shared) (σ:St) (H:Hp) (x y:V) (v u:Value) (Q:VK),Inv X pins σ H s->RelV x v->RelV y u->r x y H Q ->
  subscripted slice false v u=operate [v,u] (getItem v u)->wpAny (model X.prog X.w) X.A (subscriptTail value slice v u) (EP X pins σ Q) X.xe s
def RI(X:Cx)(id:String)(r:V->ae->Hp->VK->Prop):Prop :=
 ∀(pins:ah) (s:Shared) (σ:St) (H:Hp) (x:V) (xs:ae) (v:Value) (us:ag) (Q:VK),Inv X pins σ H s->RelV x v->Vals xs us->r x xs H Q ->
  wpAny (model X.prog X.w) X.A (call (.builtin id) (v::us)) (EP X pins σ Q) X.xe s
variable {σ:L2.St}
section
variable {X:Cx}{a b:Expr}{ta tb:TE}{pos:Pos}
theorem EO.or{r r':R2}(h:EO X r)(h':EO X r'):EO X (λx y H Q=>r x y H Q\/r' x y H Q):=by
 intro value slice pins s σ H x y v u Q I rx ry q hs;rcases q with q|q
 ·exact h value slice pins s σ H x y v u Q I rx ry q hs
 ·exact h' value slice pins s σ H x y v u Q I rx ry q hs
theorem yW{r:R2}(hr:EO X r)(ha:PE X a ta)(hb:PE X b tb)(hs:lg b):PE X (.Subscript a b pos) (DU r ta tb):=by
 intro pins s σ H Q I h;exact Subscript_ (Iz ha hb I h λv u s2 x y H2 I2 rx ry q=>hr a b pins s2 σ H2 x y v u Q I2 rx ry q (hs _ _))
def OU(K:ai):R2:=λx y H Q=>∃p xs i v,x=.ref p/\y=.int i/\cI K H p xs/\EH xs i=some v/\Q v H
def OT(K:ai):R2:=λx y H Q=>∃p xs i v,x=.ref p/\y=.int i/\aR K H p xs/\EH xs i=some v/\Q v H
theorem uW:EO X (OU X.K):=by
 intro value slice pins s σ H x y v u Q I rx ry h hs;obtain⟨p,xs,i,z,rfl,rfl,hq,he,q⟩:=h;cases rx;obtain⟨t,rfl⟩:=ry;obtain⟨aH,r,pl,hz⟩:=I.list hq;obtain⟨j,h1,h2,h3,h4,h5⟩:=vM he;obtain⟨w,ew,jJ⟩:=r.get h2;have hl:=r.length;have hn:=oX;have fin:EP X pins σ Q w s:=⟨z,H,I,jJ,q⟩
 by_cases h0:0<=i
 ·have hj:i.toNat=j:=by
   rw[seqIndex_of h0 h5]at h1;exact Xv h1
  exact item_listR pl.isList h0 (by left) (by rw[hj];simpa using ew) fin hs
 ·have hj:(i+(aH.toArray.size:Int)).toNat=j:=by
   rw[seqIndex_neg (by left) h4]at h1;rw[List.size_toArray,<- hl];exact Xv h1
  exact YO (x:=w) pl.isList.typeIs slot_list_getitem.lookup
   (wpAny_getItem_list_neg (Q:=λr s'=>r=w/\EP X pins σ Q r s') pl.isList (by left) (by rw[List.size_toArray]<;>omega) (by left) (by rw[hj];simpa using ew) ⟨rfl,fin⟩) hs
theorem zB:EO X (OT X.K):=by
 intro value slice pins s σ H x y v u Q I rx ry h hs;obtain⟨p,xs,i,z,rfl,rfl,hq,he,q⟩:=h;cases rx;obtain⟨t,rfl⟩:=ry;obtain⟨aH,r,pl,hz⟩:=I.tuple hq;obtain⟨j,h1,h2,h3,h4,h5⟩:=vM he;obtain⟨w,ew,jJ⟩:=r.get h2;have hl:=r.length;have hn:=oX;have fin:EP X pins σ Q w s:=⟨z,H,I,jJ,q⟩
 exact YO (x:=w) pl.typeIs slot_tuple_getitem.lookup
  (getItem_tuple (j:=j) (Q:=λr s'=>r=w/\EP X pins σ Q r s') pl (by left) (by left) (by rw[List.size_toArray,<- hl];exact h1) (by simpa using ew) ⟨rfl,fin⟩) hs
theorem Inv.lst{pins:ah}{σ:St}{H:Hp}{s:Shared}{p:Addr}{xs:ae}(I:Inv X pins σ H s)(h:H p=some (.lst xs)):
  ∃(aH:ag) (n:Nat),Vals xs aH/\s.heap.get? p=some { cls:=.type "list",data:=.seq aH.toArray n }/\xs.length<=sizeLine:=by
 obtain⟨z,aH,n,r,e⟩:=I.cq p _ h;exact⟨aH,n,r,e,z⟩
noncomputable def gN:V->Bool
 |.bN=>true
 |.bl _=>true
 |.int _=>true
 |.str _=>true
 |_=>false
noncomputable def AV:V->V->Bool
 |.bN,.bN=>true
 |.bl a,.bl b=>a==b
 |.bl a,.int b=>(if a then 1 else 0)==b
 |.int a,.bl b=>a==(if b then 1 else 0)
 |.int a,.int b=>a==b
 |.str a,.str b=>a==b
 |_,_=>false
theorem HX{A:av}{s:Shared}{y x:V}{u v:Value}(ry:RelV y u)(rx:RelV x v)(fy:gN y=true)(fx:gN x=true):SeqAt.EqAt A s u v (AV y x):=by
 cases y with
 |bN =>
  cases ry;cases x with
  |bN=>cases rx;exact YD _
  |bl b=>cases rx;exact Y2 b
  |int b=>obtain⟨t,rfl⟩:=rx;exact Y_ b t
  |str b=>obtain⟨t,rfl⟩:=rx;exact SeqAt.EqAt.none_str b t
  |_=>exact absurd (show false=true from fx) Xi
 |bl a =>
  cases ry;cases x with
  |bN=>cases rx;exact Y3 a
  |bl b=>cases rx;exact Y4 a b
  |int b=>obtain⟨t,rfl⟩:=rx;exact Za a b t
  |str b=>obtain⟨t,rfl⟩:=rx;exact SeqAt.EqAt.bool_str a b t
  |_=>exact absurd (show false=true from fx) Xi
 |int a =>
  obtain⟨t',rfl⟩:=ry;cases x with
  |bN=>cases rx;exact Zb a t'
  |bl b=>cases rx;exact Zc a t' b
  |int b=>obtain⟨t,rfl⟩:=rx;exact YH a t' b t
  |str b=>obtain⟨t,rfl⟩:=rx;exact SeqAt.EqAt.int_str a t' b t
  |_=>exact absurd (show false=true from fx) Xi
 |str a =>
  obtain⟨t',rfl⟩:=ry;cases x with
  |bN=>cases rx;exact SeqAt.EqAt.str_none a t'
  |bl b=>cases rx;exact SeqAt.EqAt.str_bool a t' b
  |int b=>obtain⟨t,rfl⟩:=rx;exact SeqAt.EqAt.str_int a t' b t
  |str b=>obtain⟨t,rfl⟩:=rx;exact SeqAt.EqAt.str_str a t' b t
  |_=>exact absurd (show false=true from fx) Xi
 |_=>exact absurd (show false=true from fy) Xi
def tS(x:V)(u:Value):Bool:=match u with
 |.none=>AV .bN x
 |.bool b=>AV (.bl b) x
 |.int i _=>AV (.int i) x
 |.str z _=>AV (.str z) x
 |_=>false
theorem Ae{x y:V}{u:Value}(r:RelV y u)(f:gN y=true):tS x u=AV y x:=by
 cases y with
 |bN=>cases r;rfl
 |bl b=>cases r;rfl
 |int i=>obtain⟨t,rfl⟩:=r;rfl
 |str z=>obtain⟨t,rfl⟩:=r;rfl
 |_=>exact absurd (show false=true from f) Xi
theorem ju{x:V}:∀{xs:ae} {us:ag},Vals xs us->xs.all gN=true->us.any (tS x)=xs.any λy=>AV y x
 |_,_,.nil,_=>rfl
 |y::xs,u::us,.cons r t,f=>by
  rw[List.all_cons,Bool.and_eq_true]at f;rw[List.any_cons,List.any_cons,Ae r f.1,ju t f.2]
theorem gE{A:av}{s:Shared}{x:V}{v:Value}(rx:RelV x v)(fx:gN x=true):∀{xs:ae} {us:ag},Vals xs us->xs.all gN=true->∀u∈us,SeqAt.EqAt A s u v (tS x u)
 |_,_,.nil,_=>λu hu=>by cases hu
 |y::xs,u::us,.cons r t,f=>λu' hu=>by
  rw[List.all_cons,Bool.and_eq_true]at f;rcases List.mem_cons.mp hu with rfl|hu
  ·rw[Ae r f.1];exact HX r rx f.1 fx
  ·exact gE rx fx t f.2 u' hu
def NF(x:V)(xs:ae):Bool:=xs.any λy=>AV y x
def OW(K:ai)(neg:Bool):R2:=λx y H Q=>∃p xs,y=.ref p/\(cI K H p xs\/aR K H p xs)/\gN x=true/\xs.all gN=true/\Q (.bl (if neg then !NF x xs else NF x xs)) H
theorem wz:iN X (compareOp .In) (OW X.K false):=by
 intro pins s σ H x y v u Q I rx ry h;obtain⟨p,xs,rfl,hq,fx,fs,q⟩:=h;cases ry;rcases hq with hq|hq
 ·obtain⟨aH,r,pl,hz⟩:=I.list hq;refine SeqAt.in_listAt (tS x) pl.isList (λw hw=>gE rx fx r fs w (by simpa using hw)) ⟨.bl _,H,I,rfl,?_⟩;rw[show aH.toArray.any (tS x)=aH.any (tS x) by simp,ju r fs];exact q
 ·obtain⟨aH,r,pl,hz⟩:=I.tuple hq;refine SeqAt.in_tupleAt (tS x) pl (λw hw=>gE rx fx r fs w (by simpa using hw)) ⟨.bl _,H,I,rfl,?_⟩;rw[show aH.toArray.any (tS x)=aH.any (tS x) by simp,ju r fs];exact q
theorem pL:eT X (.builtin "len") (λxs H Q=>∃p ys,xs=[.ref p]/\(cI X.K H p ys\/aR X.K H p ys)/\Q (.int ys.length) H):=by
 intro pins s σ H xs us Q I r h;obtain⟨p,ys,rfl,hq,q⟩:=h;obtain⟨u,rfl,rx⟩:=vals1 r;cases rx;have hn:=oX;rcases hq with hq|hq
 ·obtain⟨aH,r',pl,hz⟩:=I.list hq;have hlen:=r'.length;exact Calls.call_len_list pl.isList (by simp only[List.size_toArray]<;>omega) ⟨.int ys.length,H,I.tok _,⟨s.toks+1,by rw[List.size_toArray,hlen]⟩,q⟩
 ·obtain⟨aH,r',pl,hz⟩:=I.tuple hq;have hlen:=r'.length;exact len_tuple pl (by simp only[List.size_toArray]<;>omega) ⟨.int ys.length,H,I.tok _,⟨s.toks+1,by rw[List.size_toArray,hlen]⟩,q⟩
theorem pK:eT X (.type "list") (λxs H Q=>∃p ys,xs=[.ref p]/\(cI X.K H p ys\/aR X.K H p ys)/\∀l,H l=none->Q (.ref l) (upd H l (.lst ys))):=by
 intro pins s σ H xs us Q I r h;obtain⟨p,ys,rfl,hq,q⟩:=h;obtain⟨u,rfl,rx⟩:=vals1 r;cases rx;have fin:∀(aH:ag),Vals ys aH->ys.length<=sizeLine->∀(h':Heap) (c':Nat),(∀b o',s.heap.get? b=some o'->h'.get? b=some o') ->
   h'.get? s.heap.objs.size=some { cls:=.type "list",dict:=none,data:=.seq aH.toArray c',slots:=#[] }->EP X pins σ Q (.ref s.heap.objs.size) { s with heap:=h' }:=λaH r' hz h' c' kp e =>
  ⟨.ref s.heap.objs.size,_,I.laid (t':=s.toks) kp (Xp _) (show b8 X.prog X.w _ h' _ (.lst ys) from⟨hz,aH,c',r',e⟩),rfl,q _ (I.cq.fresh (Xp _))⟩
 rcases hq with hq|hq
 ·obtain⟨aH,r',pl,hz⟩:=I.list hq;have hlen:=r'.length;obtain⟨o,ho,hc,n,hd⟩:=pl.isList;exact call_list_seq p (.inl rfl) ho hc hd (λh' c' kp e=>fin aH r' hz h' c' kp e) (by simp only[List.size_toArray]<;>omega)
 ·obtain⟨aH,r',pl,hz⟩:=I.tuple hq;have hlen:=r'.length;obtain⟨o,ho,hc,n,hd⟩:=pl;exact call_list_seq p (.inr rfl) ho hc hd (λh' c' kp e=>fin aH r' hz h' c' kp e) (by simp only[List.size_toArray]<;>omega)
theorem m_:eT X (.type "tuple") (λxs H Q=>∃p ys,xs=[.ref p]/\((cI X.K H p ys/\∀l,H l=none->Q (.ref l) (upd H l (.tup ys)))\/(aR X.K H p ys/\Q (.ref p) H))):=by
 intro pins s σ H xs us Q I r h;obtain⟨p,ys,rfl,h⟩:=h;obtain⟨u,rfl,rx⟩:=vals1 r;cases rx;rcases h with ⟨hq,q⟩|⟨hq,q⟩
 ·obtain⟨aH,r',pl,hz⟩:=I.list hq;have hlen:=r'.length;refine call_tuple_list pl.isList (λh' kp=>?_) (by simp only[List.size_toArray]<;>omega);have I1:Inv X pins σ H { s with heap:=h' }:=I.kept (t':=s.toks) kp;have I2:Inv X pins σ (upd H h'.objs.size (.tup ys)) { s with heap:=h'.push { cls:=.type "tuple",data:=.seq aH.toArray } } :=
   I1.laid (t':=s.toks) (λb o e=>Xj _ e) (Xp _) (show b8 X.prog X.w _ _ _ (.tup ys) from⟨hz,aH,r',IsTup.new _ _⟩)
  exact⟨.ref h'.objs.size,_,I2,rfl,q _ (I1.cq.fresh (Xp _))⟩
 ·obtain⟨aH,r',pl,hz⟩:=I.tuple hq;exact call_tuple_same pl ⟨.ref p,H,I,rfl,q⟩
def Om(K:ai)(T:String)(x:V)(H:Hp):Prop:=match x with
 |.str _=>T = "str"
 |.int _=>T = "int"
 |.ref p=>(T = "list" /\ ∃xs,cI K H p xs)\/(T = "tuple" /\ ∃o,K.lookup p=some o/\o.cls=.type "tuple" /\ o.dict=none) \/
   (T = "dict" /\ ((∃lV,H p=some (.dK lV))\/∃lV,H p=some (.dT lV)))\/(T = "set" /\ ∃S n,H p=some (.set S n))
 |_=>False
theorem x8{pins:ah}{H:Hp}{s:Shared}{T:String}{x:V}{v:Value}(I:Inv X pins σ H s)(r:RelV x v)(ty:Om X.K T x H):
  s.TypeIs v T/\∀a,v=.ref a->∃ob,s.heap.get? a=some ob/\ob.dict=none:=by
 cases x with
 |str z =>
  obtain⟨t,rfl⟩:=r;cases (show T = "str" from ty);exact⟨typeIs_str s z t,λ_ e=>nomatch e⟩
 |int i =>
  obtain⟨t,rfl⟩:=r;cases (show T = "int" from ty);exact⟨typeIs_int s i t,λ_ e=>nomatch e⟩
 |ref p =>
  cases r;rcases ty with ⟨rfl,xs,hq⟩|⟨rfl,o,hk,hc,hd⟩|⟨rfl,hk⟩|⟨rfl,S,n,hk⟩
  ·obtain⟨aH,_,pl,_⟩:=I.list hq;refine⟨pl.isList.typeIs,λa e=>?_⟩;cases e;obtain⟨o,n,e,c,hd,_⟩:=pl;exact⟨o,e,hd⟩
  ·refine⟨⟨o,I.xH p o hk,hc⟩,λa e=>?_⟩;cases e;exact⟨o,I.xH _ o hk,hd⟩
  ·have z:∃o,s.heap.get? p=some o/\o.ExactDict:=by
    rcases hk with ⟨lV,hk⟩|⟨lV,hk⟩
    ·obtain⟨_,_,_,_,o,_,_,e,ex,_⟩:=I.cq p _ hk;exact⟨o,e,ex⟩
    ·obtain⟨_,_,_,_,o,_,_,e,ex,_⟩:=I.cq p _ hk;exact⟨o,e,ex⟩
   obtain⟨o,e,ex⟩:=z;refine⟨⟨o,e,ex.1⟩,λa e2=>?_⟩;cases e2;exact⟨o,e,ex.2.1⟩
  ·obtain⟨o,_,_,_,e,ex,_⟩:=I.cq p _ hk;refine⟨⟨o,e,ex.1⟩,λa e2=>?_⟩;cases e2;exact⟨o,e,ex.2.1⟩
 |_=>exact False.elim ty
def OB(K:ai)(T:String)(r:V->ae->Hp->VK->Prop)(to:TE):TE:=λσ H Q=>to σ H λx H1=>Om K T x H1/\r x [] H1 Q
def Us(K:ai)(T:String)(r:V->ae->Hp->VK->Prop)(to:TE)(t:TA):TE:=λσ H Q=>to σ H λx H1=>Om K T x H1/\t σ H1 λxs H2=>r x xs H2 Q
variable {o e:Expr}{es:aw}{to:TE}{t:TA}{name:Str}{apos pz:Pos}{T id:String}{r:V->ae->Hp->VK->Prop}
theorem F5(pa:PlainAttrs T)(slot:Slot T name id)(P5:typeOf (.builtin id)=pure (.type "method_descriptor"))(hm:RI X id r)(ho:PE X o to)
  (zW:attributeBase o name X.env (eval o X.env)=eval o X.env:=by rfl) (hline:(apos.endLine==pz.line)=true:=by rfl):PE X (.Call (.Attribute o name apos) [] [] pz) (OB X.K T r to):=by
 intro pins s σ H Q I h;refine wpAny_Call_method0_late zW hline (cJ (ho pins s σ H _ I h) λv s1 bH=>?_);obtain⟨x,H1,I1,r1,ty,q1⟩:=bH;obtain⟨h1,h2⟩:=x8 I1 r1 ty;exact⟨T,id,pa,slot,P5,h1,h2,Calls.callWith_builtin rfl (PySem.evalArgs_none (hm pins s1 σ H1 x [] v [] Q I1 r1 .nil q1))⟩
theorem KQ(pa:PlainAttrs T)(slot:Slot T name id)(P5:typeOf (.builtin id)=pure (.type "method_descriptor"))(hm:RI X id r)(ho:PE X o to)(ha:PA X (e::es) t)
  (zW:attributeBase o name X.env (eval o X.env)=eval o X.env:=by rfl)
  (hfew:((backTo pz (starEach (e::es) X.env)).all (λx=>!x.1)&&(backToKw pz (keywordEach [] X.env)).all (λx=>x.1.isSome)
   && decide ((e::es).length+([]:List Keyword).length+(if ([]:List Keyword).isEmpty then 0 else 1)<30))=true:=by rfl)
  (hline:(apos.endLine==pz.line)=true:=by rfl) (hs:starEach (e::es) X.env=(false,eval e X.env)::starEach es X.env:=by rfl) (G6:(backTo pz (starEach es X.env)).any (·.1)=false:=by rfl) :
  PE X (.Call (.Attribute o name apos) (e::es) [] pz) (Us X.K T r to t):=by
 intro pins s σ H Q I h;refine wpAny_Call_method_late zW hfew hline rfl (cJ (ho pins s σ H _ I h) λv s1 bH=>?_);obtain⟨x,H1,I1,r1,ty,q1⟩:=bH;obtain⟨h1,h2⟩:=x8 I1 r1 ty;refine⟨T,id,pa,slot,P5,h1,h2,?_⟩;have hA:=ha pz pins s1 σ H1 _ I1 q1;rw[hs]at hA ⊢;refine Calls.callWith_builtin (by show(false||(backTo pz (starEach es X.env)).any (·.1))=false;rw[G6]<;>rfl) (Calls.evalArgs_plain ?_);exact cJ hA λus s2 ⟨vs,H2,I2,r2,q2⟩=>hm pins s2 σ H2 x vs v us Q I2 r1 r2 q2
/- xs.append(e),list.index on a module's tuple .. are RI facts of 06m -/
end
end L2
namespace L2
open PySem PySem.Spec PyProof.Rows
def Oe(X:Cx)(id:String)(r:V->ae->Hp->VK->Prop):Prop :=
 ∀(pins:ah) (s:Shared) (σ:St) (H:Hp) (x:V) (xs:ae) (v:Value) (us:ag) (Q:VK),Inv X pins σ H s->RelV x v->Vals xs us->r x xs H Q ->
  wpAny (model X.prog X.w) X.A (call (.builtin id) (v::us)) (EP X pins σ Q) X.xe s
theorem Vals.one:∀{x:V} {us:ag},Vals [x] us->∃u,us=[u]/\RelV x u
 |_,_,.cons r .nil=>⟨_,rfl,r⟩
theorem Vals.zero:∀{us:ag},Vals [] us->us=[]
 |_,.nil=>rfl
theorem Vals.rep{xs:ae}{us:ag}(h:Vals xs us):∀k:Nat,Vals (List.replicate k xs).flatten (List.replicate k us).flatten
 |0=>.nil
 |k+1=>by
  rw[List.replicate_succ,List.replicate_succ,List.flatten_cons,List.flatten_cons];exact Vals.append h (Vals.rep h k)
theorem foldl_rep(aH:ag):∀(k:Nat) (acc:ag),
  List.foldl (λx1 x2=>x1++x2) acc.toArray (List.replicate k aH.toArray)=(acc++(List.replicate k aH).flatten).toArray
 |0,acc=>by simp
 |k+1,acc=>by
  have e:acc.toArray++aH.toArray=(acc++aH).toArray:=by simp
  have e2:(acc++aH)++(List.replicate k aH).flatten=acc++(List.replicate (k+1) aH).flatten:=by
   rw[List.replicate_succ,List.flatten_cons,List.append_assoc]
  rw[<- e2,<- foldl_rep aH k (acc++aH),<- e,List.replicate_succ,List.foldl_cons]
variable {aH:ag}{t':Nat}
section
variable {X:Cx}{pins:ah}{σ:St}{H:Hp}{s:Shared}{l b:Addr}{xs ys zs:ae}
theorem Inv.iF{its':ag}{n:Nat}{f:aN->aN}(I:Inv X pins σ H s)(hH:H l=some (.lst xs))
  (e:s.heap.get? l=some { cls:=.type "list",data:=.seq aH.toArray n }) (hf:f aH.toArray=its'.toArray) (hv:Vals ys its') (hz:ys.length<=sizeLine) :
  Inv X pins σ (upd H l (.lst ys)) { s with heap:=s.heap.update l (Obj.mapSeq f),toks:=t' }:=by
 have q:=PySem.IsL.update e f;rw[hf]at q;refine I.write (x:=l) (e:=l) (by rw[hH];exact trivial) (.inl rfl) (λb' u hb hu=>(XQ s.heap (Obj.mapSeq f) (YB hb)).trans hu) ⟨_,q⟩ ?_;exact⟨hz,its',_,hv,q⟩
theorem Inv.GC(I:Inv X pins σ H s)(hv:Vals ys aH)(hz:ys.length<=sizeLine):
  Inv X pins σ (upd H s.heap.objs.size (.lst ys)) { s with heap:=s.heap.push { cls:=.type "list",data:=.seq aH.toArray },toks:=t' } :=
 I.laid (λ_ _ q=>Xj _ q) (Xp _) ⟨hz,aH,0,hv,Xs _ rfl⟩
theorem Inv.fresh(I:Inv X pins σ H s):H s.heap.objs.size=none:=I.cq.fresh (Xp _)
theorem Inv.tq(I:Inv X pins σ H s)(hH:H l=some (.lst xs)):xs.length<=sizeLine/\∃(aH:ag) (n:Nat),Vals xs aH/\xs.length=aH.length/\s.heap.get? l=some { cls:=.type "list",data:=.seq aH.toArray n }:=by
 obtain⟨z,aH,n,r,e⟩:=I.cq l _ hH;exact⟨z,aH,n,r,r.length,e⟩
theorem y7{n:Nat}(h:n<=sizeLine):Builtin.List.listTooLong n=false:=by
 unfold Builtin.List.listTooLong;exact XY (by left)
end
section
variable {X:Cx}
def BK:V->ae->Hp->VK->Prop:=λx vs H Q=>∃l xs y,x=.ref l/\vs=[y]/\H l=some (.lst xs)/\xs.length<sizeLine/\Q .bN (upd H l (.lst (xs++[y])))
theorem wC:Oe X "list.append" BK:=by
 intro pins s σ H x vs v us Q I rx rv h;obtain⟨l,xs,y,rfl,rfl,hH,hz,q⟩:=h;cases rx;obtain⟨u,rfl,ru⟩:=rv.one;obtain⟨z,aH,n,r,hl,e⟩:=I.tq hH;refine Yy F.slot_list_append ⟨_,e,rfl⟩ F.entry_list_append (F.args_list_append_2 _ _) (PySem.list_append l aH.toArray n u (by rw[List.size_toArray];left)) ⟨e,?_⟩;refine⟨.bN,_,I.iF (its':=aH++[u]) hH e (by simp) (r.append (.cons ru .nil)) ?_,rfl,q⟩;rw[List.length_append,List.length_singleton];left
def FN:V->ae->Hp->VK->Prop:=λx vs H Q=>∃l xs,x=.ref l/\vs=[]/\H l=some (.lst xs)/\Q .bN (upd H l (.lst []))
theorem ze:Oe X "list.clear" FN:=by
 intro pins s σ H x vs v us Q I rx rv h;obtain⟨l,xs,rfl,rfl,hH,q⟩:=h;cases rx;have P0:=rv.zero;subst P0;obtain⟨z,aH,n,r,hl,e⟩:=I.tq hH;refine Yy F.slot_list_clear ⟨_,e,rfl⟩ F.entry_list_clear (F.args_list_clear_1 _) (AutoSeq1.list_clear_list_0 l aH.toArray n (by rw[List.size_toArray];left)) ⟨e,?_⟩;exact⟨.bN,_,I.iF (its':=[]) (ys:=[]) hH e rfl .nil (XH _),rfl,q⟩
def OX:R2:=λx y H Q=>∃l b xs zs,x=.ref l/\y=.ref b/\H l=some (.lst xs)/\H b=some (.lst zs)/\xs.length+zs.length<=sizeLine/\∀p,H p=none->Q (.ref p) (upd H p (.lst (xs++zs)))
theorem Gh:iN X (binaryOp .Add) OX:=by
 intro pins s σ H x y v u Q I rx ry h;obtain⟨l,b,xs,zs,rfl,rfl,hH,hB,hz,q⟩:=h;cases rx;cases ry;obtain⟨z,aH,n,r,hl,e⟩:=I.tq hH;obtain⟨z2,tw,n2,r2,xJ,e2⟩:=I.tq hB;refine PySem.P.add_list e e2 ?_ (by rw[List.size_toArray,List.size_toArray];left);have ea:aH.toArray++tw.toArray=(aH++tw).toArray:=by simp
 rw[ea];exact⟨.ref _,_,I.GC (t':=s.toks) (r.append r2) (by rw[List.length_append];left),rfl,q _ I.fresh⟩
def OR:R2:=λx y H Q=>∃l k xs,x=.ref l/\y=.int k/\H l=some (.lst xs) /\ -(2 ^ 63)<=k/\k<2 ^ 63/\xs.length*k.toNat<=sizeLine /\
 ∀p,H p=none->Q (.ref p) (upd H p (.lst (List.replicate k.toNat xs).flatten))
theorem len_rep{α:Type}(xs:List α)(k:Nat):(List.replicate k xs).flatten.length=k*xs.length:=by
 induction k with
 |zero=>simp
 |succ k ih=>rw[List.replicate_succ,List.flatten_cons,List.length_append,ih,Nat.succ_mul,Nat.add_comm]
theorem Ge:iN X (binaryOp .Mult) OR:=by
 intro pins s σ H x y v u Q I rx ry h;obtain⟨l,k,xs,rfl,rfl,hH,h1,h2,hz,q⟩:=h;cases rx;obtain⟨t,rfl⟩:=ry;obtain⟨z,aH,n,r,hl,e⟩:=I.tq hH;have hlen:aH.toArray.size*k.toNat<=sizeLine:=by rw[List.size_toArray,<- hl];exact hz
 have m3:¬ aH.toArray.size*k.toNat>(2 ^ 63 - 1) / 8:=by
  have:(sizeLine:Nat)<=(2 ^ 63 - 1) / 8:=by decide
  left
 have QA:¬ (!Builtin.List.listFitsIndex k)=true:=by
  rw[fitsIndex_both h1 h2];exact Xi
 have LS:¬ Builtin.List.listTooLong (aH.toArray.size*k.toNat)=true:=by
  rw[y7 hlen];exact Xi
 have Qo:List.foldl (λx1 x2=>x1++x2) #[] (List.replicate (if aH.toArray.isEmpty=true then 0 else k.toNat) aH.toArray)=(List.replicate k.toNat aH).flatten.toArray:=by
  have f0:∀m:Nat,List.foldl (λx1 x2=>x1++x2) #[] (List.replicate m aH.toArray)=(List.replicate m aH).flatten.toArray:=λm=>by
   have:=foldl_rep aH m [];rw[List.nil_append]at this;exact this
  rw[f0];cases aH with
  |nil=>simp
  |cons a r'=>rw[if_neg (by simp)]
 refine wpAny_binaryOp_repeat_ref (T:="list") (U:="int") (by decide) ⟨_,e,rfl⟩ (λs'=>typeIs_int s' k t) noFill_list_mul F.fills_int_mul F.slot_int_rmul repeat_list F.slot_int_index.lookup
  (Yy F.slot_int_rmul (typeIs_int s k t) F.entry_int_rmul (F.args_int_rmul_2 _ _) (int___rmul___int_list k t l aH.toArray n)
   ⟨e,rfl,⟨_,e,rfl⟩,Yy F.slot_list_mul ⟨_,e,rfl⟩ F.entry_list_mul (F.args_list_mul_2 _ _) (AutoListH.list___mul___list_int_3 l aH.toArray n k t QA m3 LS) ⟨e,?_⟩⟩)
 rw[Qo];exact⟨.ref _,_,I.GC (t':=s.toks) (r.rep k.toNat) (by rw[len_rep,Nat.mul_comm];exact hz),rfl,q _ I.fresh⟩
end
section
variable {prog:az}{w:World}{A:av}{E:aq}{s:Shared}
set_option maxRecDepth 100000 in
end
section
variable {X:Cx}
end
end L2
namespace Att
open PySem PySem.W PySem.Calls PyProof.Rows
theorem ko{P:Params}{h:Heap}:∀(ns:ab) (vs:ag),WellAll P h vs (ns.map WData.int)->IntsAre vs ns:=by
 intro ns;induction ns with
 |nil =>
  intro vs w;rw[List.map_nil]at w;cases w;exact .nil
 |cons n ns ih =>
  intro vs w;rw[List.map_cons]at w;cases w with
  |cons a b =>
   cases a;exact .cons _ _ (ih _ b)
theorem wk{l:OpenLaw}{n:Nat}(hn:l.most=some n){P:Params}{h:Heap}{args:List WData}{vals:ag}
  (Cy:l.row.toRowW.claim.pre args=true) (PV:WellAll P h vals args) :
  ∃a vs ns,vals=[Value.ref a]/\args=[WData.list (ns.map WData.int)]/\h.get? a=some { cls:=.type "list",data:=.seq vs.toArray }/\IntsAre vs ns/\ns.length<=n:=by
 have Vh:WShape.hasAll [] args [.list .int]=true:=(pre_splitW Cy).1;have hc:l.pre.holds [] { args:=args }=true:=(pre_splitW Cy).2;obtain⟨d,r,rfl,h1,h2⟩:=hasAllW_cons Vh;obtain rfl:=hasAllW_nil h2;obtain⟨xs,rfl,h3⟩:=hasW_list h1;obtain⟨ns,rfl⟩:=items_int h3;have hlen:ns.length<=n:=by
  unfold OpenLaw.pre at hc;have h4:(WTm.not (.lt (.lit (.int (n:Int))) (.len (.arg 0)))).holds [] { args:=[.list (ns.map .int)] }=true:=by
   have h4:=(holds_andW hc).1;rw[hn]at h4;exact h4
  have h5:=condW_of h4 (w_not (w_lt w_lit (w_len_list (w_arg rfl))));rw[List.length_map]at h5;refine Nat.le_of_not_lt λq=>?_;have q':(n:Int)<((ns.length:Nat):Int):=by left
  first
   | (rw[decide_eq_true q']at h5;exact absurd h5 (by decide))
   | (simp at h5;left)
 cases PV with
 |cons w1 w2 =>
  cases w2;cases w1 with
  |list ho hall=>exact⟨_,_,ns,rfl,rfl,ho,ko ns _ hall,hlen⟩
theorem wu(l:OpenLaw)(args:List WData):l.row.toRowW.claim.post args (.bool true) args=true :=
 postW_of (r:=l.row.toRowW) (X:=(true==true))
  (show WShape.has [] (.bool true) .bool=true by first|rfl|decide|simp[WShape.has,WShape.arms,WShape.armsAll])
  (show(WTm.eq .res (.lit (.bool true))).value [] { args:=args,res:=some (.bool true),after:=args }=some (.bool (true==true)) from w_eq_bool (w_res rfl) w_lit) rfl
theorem rX{l:OpenLaw}{n:Nat}{q:az}{loose:ao}{XP:(aU)->Heap->Prop}{YP:World->Heap->Prop}{d:DefRec}
  (hn:l.most=some n) (LY:d.params.defaults=[])
  (call:∀(w:World) (s₀ s₁:Shared) (mg mb:aU) (fa:Addr) (o:Obj) (pm cd doc:Value) (a:Addr) (vs:ag) (ns:ab),
   Ground q loose [] XP w s₀ mg mb s₁.heap->YP w s₁.heap ->
   s₁.heap.get? fa=some o->o.data=.func (docDef d.name d.params d.body d.scope pm cd doc)->s₁.heap.CodeRec cd d.name->mg d.name=some (.ref fa) ->
   s₁.heap.get? a=some { cls:=.type "list",data:=.seq vs.toArray }->IntsAre vs ns->ns.length<=n->s₁.gens = #[] ->
   codeAny (model l.prog w) callerA (.call (.ref fa) ⟨[.ref a],[]⟩) (λr s'=>r=.ok (.ret (.bool true))/\OldK s₁.heap s'.heap/\s'.os=s₁.os/\AllBare s'.gens) s₁) :
  WalkO q loose XP YP l.row.toRowW d [] (λf vs=>PySem.call f vs):=by
 intro w s₀ s₁ mg mb G Y fa o pm cd doc dV kV ho hd w5 hD hmg hg args vals as Cy Vw W5 PV Hb;obtain rfl:dV=.none:=Dflts.none hD LY;obtain rfl:kV=.none:=Dflts.noKw hD;obtain⟨a,vs,ns,rfl,rfl,G_,hints,hlen⟩:=wk hn Cy PV;refine enter_call (Y1 (call w s₀ s₁ mg mb fa o pm cd doc a vs ns G Y ho (fd_plain hd) w5 hmg G_ hints hlen hg) λr s' hq=>?_);obtain⟨rfl,h2,h3,h4⟩:=hq;exact⟨.inl ⟨.bool true,.bool true,[],rfl,λ_=>rfl,.bool true,wu l _,λ_=>⟨List.Pairwise.nil,λ_ hm=>(nomatch hm)⟩⟩,h2,h3,h4⟩
section
variable {prog:az}{w:World}{A:av}{E:aq}{s:Shared}{K:Frag}
end
end Att
namespace L2
open PySem PySem.Spec PyProof.Rows
theorem jB:∀{vs:ag} {ns:ab},IntsAre vs ns->Vals (ns.map V.int) vs
 |_,_,.nil=>.nil
 |_,_,.cons n t h=>.cons ⟨t,rfl⟩ (jB h)
def DF(H:Hp):Prop:=∀b,H b=none\/∃o xs,H b=some (.gp o (.lst xs))
theorem zt{P:az}{w:World}{K:ai}{mg mb:aU}{CX:xO}{k:Nat}{fa a:Addr}{fd:FuncData}{x:Str}{sp:Sp}{s₁:Shared}{vs:ag}{ns:ab}
  (KX:K.In s₁.heap) (xI:s₁.heap.Ns mainGlobals mg) (hb:s₁.heap.Ns builtinsNs mb) (VI:∀x:Str,x ≠ "__name__" -> mb x=bootBuiltins x) (Qq:s₁.heap.NoLimit) (hg:s₁.gens = #[])
  (ha:s₁.heap.get? a=some { cls:=.type "list",data:=.seq vs.toArray }) (hi:IntsAre vs ns) (hl:ns.length<=sizeLine) (hr:fI k callerA)
  (F:∀base:Heap,K.In base->base.Ns mainGlobals mg->ie P w K mg base CX k fa fd [x] sp) (L5:∀(s:Shared) (u:Value),BindsTo s fd ⟨[u],[]⟩ [(x,u)])
  (AM:∀H:Hp,DF H->cI K H a (ns.map V.int)->sp [.ref a] H (λv _=>v=.bl true) λ_ _ _=>False)
  (QN:∀H e s',CX [] H s₁ (λ_ _ _=>False) e s'->False) :
  codeAny (model P w) callerA (.call (.ref fa) ⟨[.ref a],[]⟩) (λr s'=>r=.ok (.ret (.bool true))/\OldK s₁.heap s'.heap/\s'.os=s₁.os/\AllBare s'.gens) s₁:=by
 have rv:=jB hi;have Pk:=hi.length;have core:∀H:Hp,DF H->cI K H a (ns.map V.int)->jU P w H s₁.heap->(∀b,H b≠none->b=a)->(H a≠none->K.lookup a=none) ->
   codeAny (model P w) callerA (.call (.ref fa) ⟨[.ref a],[]⟩) (λr s'=>r=.ok (.ret (.bool true))/\OldK s₁.heap s'.heap/\s'.os=s₁.os/\AllBare s'.gens) s₁:=by
  intro H hO hS cq hA hK;have vI:∀{b:Addr} {o:Obj},s₁.heap.get? b=some o->H b=none->(o6 s₁.heap H).get? b=some o:=λe n=>zQ e n;have K8:∀{b:Addr} {o:Obj} {es:Array DictEntry} {ep:Nat},s₁.heap.get? b=some o->o.data=.dict es ep->H b=none:=λ{b o es ep} e d=>by
   cases q:H b with
   |none=>rfl
   |some u =>
    have e':b=a:=hA b (by rw[q];simp);subst e';rw[ha]at e;cases e;have d':Data.seq vs.toArray _=Data.dict es ep:=d;cases d'
  have Nx:∀{b:Addr} {m:aU},s₁.heap.Ns b m->(o6 s₁.heap H).Ns b m:=λ{b m} ⟨o,es,ep,e,d,r⟩=>⟨o,es,ep,vI e (K8 e d),d,r⟩
  have Ti:K.In (o6 s₁.heap H):=λb o e=>vI (KX b o e) (by
   cases q:H b with
   |none=>rfl
   |some u =>
    have e':b=a:=hA b (by rw[q];simp);subst e';rw[hK (by rw[q];simp)]at e;cases e)
  have hM:Mod K mg (o6 s₁.heap H):=⟨Ti,Nx xI,⟨mb,Nx hb,VI⟩,let ⟨mc,h1,h2⟩:=Qq;⟨mc,Nx h1,h2⟩⟩
  have e0:DH P w K mg (o6 s₁.heap H) callerA [] s₁ H:=⟨rfl,hM,λb o e=>Cd e,Nat.le_of_eq (wZ _ _),trivial,λb hb=>absurd (show b∈([]:aP) from hb) (by simp),cq,.of_eq hg⟩
  refine Y1 ((F _ Ti (Nx xI)).run callerA [] s₁ H ⟨[.ref a],[]⟩ [.ref a] [.ref a] _ _ hr e0 (L5 s₁ (.ref a)) (.cons rfl .nil) (AM H hO hS)) λr s' h=>?_;cases r with
  |error e=>exact(QN H e s' h).elim
  |ok fl =>
   cases fl with
   |next=>exact False.elim h
   |brk=>exact False.elim h
   |cont=>exact False.elim h
   |ret u =>
    obtain⟨v,H',os,bare,un,Qh,r',q⟩:=h;have q':v=.bl true:=q;subst q';obtain rfl:u=Value.bool true:=r';refine⟨rfl,OldK.of_keep λb o e=>?_,os,bare⟩;cases q:H b with
    |none=>exact un.keep b o e q (by intro z;exact absurd (show b∈([]:aP) from z) (by simp)) (by simp)
    |some u =>
     rcases hO b with z|⟨ob,xs,z⟩
     ·rw[q]at z;cases z
     ·have z2:=un.m6 b ob _ z;obtain⟨e1,_⟩:=cq b _ z;obtain⟨e2,_⟩:=Qh b _ z2;rw[e]at e1;cases e1;exact e2
 cases hk:K.lookup a with
 |some o =>
  have e:=KX a o hk;rw[ha]at e;cases e;refine core (λ_=>none) (λ_=>.inl rfl) (.inr ⟨_,vs.toArray,_,hk,rfl,rfl,rfl,by rw[List.size_toArray,Pk];exact hl,by simpa using rv⟩) (λb u z=>by have z':(none:Option HO)=some u:=z;cases z') (λb z=>absurd rfl z) λz=>absurd rfl z
 |none =>
  refine core (λb=>if b=a then some (.gp { cls:=.type "list",data:=.seq vs.toArray } (.lst (ns.map V.int)))else none) (λb=>?_) (.inl (.inr ⟨{ cls:=.type "list",data:=.seq vs.toArray },X1 rfl⟩)) (λb u z=>?_) (λb z=>?_) λ_=>hk
  ·by_cases hb:b=a
   ·exact .inr ⟨_,_,X1 hb⟩
   ·exact .inl (Y5 hb)
  ·by_cases hb:b=a
   ·have z':=(X1 hb).symm.trans z;cases z';subst hb;exact⟨ha,by rw[List.length_map];exact hl,vs,_,rv,ha⟩
   ·have z':=(Y5 hb).symm.trans z;cases z'
  ·by_cases hb:b=a
   ·exact hb
   ·exact absurd (Y5 hb) z
end L2
namespace L2
open PySem PySem.Spec PyProof.Rows
theorem Ba{l:PySem.W.OpenLaw}{n k:Nat}{q:az}{loose:ao}{XP:(aU)->Heap->Prop}{YP:World->Heap->Prop}{d:DefRec}{K:Params->ai}{CX:World->xO}{sp:World->Sp}{x:Str}
  (hn:l.most=some n) (Jh:n<=sizeLine) (LY:d.params.defaults=[]) (hr:fI k callerA)
  (hY:∀(w:World) (h:Heap),YP w h->(K w.params).In h)
  (F:∀(w:World) (mg:aU) (fa:Addr) (h:Heap),(K w.params).In h->h.Ns mainGlobals mg->mg d.name=some (.ref fa) ->
   ∃fd:FuncData,(∀(s:Shared) (u:Value),BindsTo s fd ⟨[u],[]⟩ [(x,u)]) /\
    ∀base:Heap,(K w.params).In base->base.Ns mainGlobals mg->ie l.prog w (K w.params) mg base (CX w) k fa fd [x] (sp w))
  (AM:∀(w:World) (H:Hp) (a:Addr) (ns:ab),ns.length<=n->DF H->cI (K w.params) H a (ns.map V.int)->sp w [.ref a] H (λv _=>v=.bl true) λ_ _ _=>False)
  (QN:∀(w:World) (H:Hp) (s:Shared) (e:Value) (s':Shared),CX w [] H s (λ_ _ _=>False) e s'->False) :
  PySem.W.WalkO q loose XP YP l.row.toRowW d [] (λf vs=>PySem.call f vs):=by
 refine Att.rX hn LY λw s₀ s₁ mg mb fa o pm cd doc a vs ns G Y ho hd w5 hmg G_ hints hlen hg=>?_;have KX:=hY w _ Y;obtain⟨fd,hb,hF⟩:=F w mg fa _ KX G.T.g hmg;exact zt KX G.T.g G.T.b G.T.builtins G.T.nolimit hg G_ hints (XO hlen Jh) hr hF hb (λH hO hS=>AM w H a ns hlen hO hS) λH e s'=>QN w H s₁ e s'
end L2
namespace L2
open PySem PySem.Spec PyProof.Rows
noncomputable def eZ(s:Stmt):Arguments:=match s with
 |.FunctionDef _ a _ _ _ _ _ _ _ _=>a
 |_=>{ posonlyargs:=[],args:=[],vararg:=none,kwonlyargs:=[],kw_defaults:=[],kwarg:=none,defaults:=[] }
noncomputable def cU(s:Stmt):bj:=match s with
 |.FunctionDef _ _ b _ _ _ _ _ _ _=>b
 |_=>[]
noncomputable def bz(s:Stmt):Scope:=match s with
 |.FunctionDef _ _ _ _ _ _ sc _ _ _=>sc
 |_=>{ kind:=.function,names:=[],isGenerator:=false,isCoroutine:=false }
noncomputable abbrev xP:xO:=λ_ _ _ _ _ _=>False
noncomputable abbrev E0:XK:=λ_ _ _=>False
theorem KS{X:Cx}:Passes xP X E0:=λ_ _ _ _ _ _ _ h=>h.elim
structure DG(K:ai)(x qual:Str)(st:Stmt)(f:Addr)(fd:FuncData):Prop where
 ex:∃(oc:Value) (od:Option Addr) (kV doc pm:Value) (an:Option Addr) (iu ct:Value) (AI:Array (Option Value)),
  fd=PySem.W.fnOf x qual (eZ st) (cU st) (bz st) .none kV doc pm an iu ct/\K.lookup f=some ⟨oc,od,.func fd,AI⟩/\PySem.W.codeIn K iu qual=true
 kp:PySem.W.keepIn K (.ref f)=true
variable {f:Addr}{ps:ao}{qual:Str}{st:Stmt}
section
variable {P:az}{w:World}{K:ai}{mg:aU}{base:Heap}
theorem DG.ok{x:Str}{fd:FuncData}{N:ao}{k:Nat}{sp:Sp}(F:DG K x qual st f fd)(S:hW N ps (bz st))(len:∀vs H Q E,sp vs H Q E->vs.length=ps.length)
  (zU:∀(iu:Value) (A:av) (outer:List Env) (s:Shared) (H:Hp) (vs:ae) (Q:VK) (E:XK),fI k (A.deeper (envOfC qual (bz st) s.heap.objs.size f iu))->sp vs H Q E ->
   ∃t,lh (tY xP P w K mg base N qual (bz st) f iu A outer s H E).K5 (cU st) t/\t { nx:=λ_ H'=>Q .bN H',rt:=Q } (start N vs) H):ie P w K mg base xP (k+1) f fd ps sp:=by
 obtain⟨oc,od,kV,doc,pm,an,iu,ct,AI,rfl,lk,w5⟩:=F.ex;refine Mp lk w5 S len λA outer s H vs Q E hr AM=>?_;obtain⟨t,h,q⟩:=zU iu A outer s H vs Q E hr AM;exact⟨t,h.K5,q⟩
theorem DG.binds{x:Str}{fd:FuncData}(F:DG K x qual st f fd)
  (h:∀(kV doc pm:Value) (an:Option Addr) (iu ct:Value) (us:ag),us.length=ps.length->bindArgs (PySem.W.fnOf x qual (eZ st) (cU st) (bz st) .none kV doc pm an iu ct) ⟨us,[]⟩=pure (ps.zip us)):Binds K fd ps []:=by
 obtain⟨oc,od,kV,doc,pm,an,iu,ct,AI,rfl,lk,w5⟩:=F.ex;exact .all (h kV doc pm an iu ct)
theorem Hv{x:Str}{oc:Value}{od an:Option Addr}{AI:Array (Option Value)}{kV doc pm iu ct:Value}(l:K.lookup f=some ⟨oc,od,.func (PySem.W.fnOf x qual (eZ st) (cU st) (bz st) .none kV doc pm an iu ct),AI⟩)
  (c:PySem.W.codeIn K iu qual=true) (k:PySem.W.keepIn K (.ref f)=true):DG K x qual st f (PySem.W.fnOf x qual (eZ st) (cU st) (bz st) .none kV doc pm an iu ct):=⟨⟨oc,od,kV,doc,pm,an,iu,ct,AI,rfl,l,c⟩,k⟩
end
theorem Em{A:av}{k:Nat}(hr:fI k A):A.units+1<cLine:=XJ (Zd (by decide:1<=64) _) hr.units
section
variable {X:Cx}
end
def aF(H H':Hp):Prop:=∀b o,H b=some o->H' b=some o
theorem aF.refl(H:Hp):aF H H:=λ_ _ h=>h
theorem aF.trans{H H1 H2:Hp}(a:aF H H1)(b:aF H1 H2):aF H H2:=λc o h=>b c o (a c o h)
variable {H':Hp}
theorem aF.free{H:Hp}(e:aF H H'){l:Addr}(h:H' l=Option.none):H l=Option.none:=by
 cases q:H l with
 |none=>rfl
 |some o =>
  rw[e l o q]at h;cases h
theorem aF.seq{K:ai}{H:Hp}{a:Addr}{xs:ae}(e:aF H H')(h:cI K H a xs):cI K H' a xs:=by
 rcases h with (h|⟨o,h⟩)|h
 ·exact .inl (.inl (e _ _ h))
 ·exact .inl (.inr ⟨o,e _ _ h⟩)
 ·exact .inr h
end L2
set_option autoImplicit false
set_option linter.all false
set_option Elab.async false
set_option maxRecDepth 100000
set_option maxHeartbeats 4000000
section
namespace DI
open PySem (Str Expr Stmt Scope NameKind)
inductive Fl where|ow|fz|al|sc
 deriving DecidableEq
inductive D where
 |bN|bl (b:Bool)|int (i:Int)
 |tup (ds:List D)
 |lst (f:Fl) (ds:List D)
 |cu (f:Fl) (ks:ak) (vs:List D)
abbrev aM:=Option D
abbrev aa:=List D
mutual
noncomputable def aW(g:Fl->Fl):D->D
 |.tup ds=>.tup (aB g ds)
 |.lst f ds=>.lst (g f) (aB g ds)
 |.cu f ks vs=>.cu (g f) ks (aB g vs)
 |.bN=>.bN
 |.bl b=>.bl b
 |.int i=>.int i
noncomputable def aB(g:Fl->Fl):aa->aa
 |[]=>[]
 |d::ds=>aW g d::aB g ds
end
theorem aV(g:Fl->Fl):∀ds:aa,aB g ds=ds.map (aW g)
 |[]=>rfl
 |d::ds=>by rw[aB,aV g ds];rfl
noncomputable def bD:Fl->Fl|.ow=>.al|f=>f
noncomputable def l6:Fl->Fl|.fz=>.al|f=>f
noncomputable def a_:Fl->Fl|.sc=>.sc|_=>.fz
noncomputable def tE:Fl->Bool|.sc=>true|_=>false
mutual
noncomputable def aY(p:Fl->Bool):D->Bool
 |.tup ds=>aS p ds
 |.lst f ds=>p f||aS p ds
 |.cu f ks vs=>p f||aS p vs
 |_=>false
noncomputable def aS(p:Fl->Bool):aa->Bool
 |[]=>false
 |d::ds=>aY p d||aS p ds
end
noncomputable def bG:Fl->Bool|.al=>true|_=>false
noncomputable def ck:Fl->Bool|.ow=>true|_=>false
noncomputable def anyF:Fl->Bool:=λ_=>true
mutual
noncomputable def jy:D->D->Bool
 |.bN,.bN=>true
 |.bl a,.bl b=>a==b
 |.bl a,.int b=>(if a then 1 else 0)==b
 |.int a,.bl b=>a==(if b then 1 else 0)
 |.int a,.int b=>a==b
 |.tup a,.tup b=>dG a b
 |.lst _ a,.lst _ b=>dG a b
 |_,_=>false
noncomputable def dG:aa->aa->Bool
 |[],[]=>true
 |a::as,b::bs=>jy a b&&dG as bs
 |_,_=>false
end
noncomputable def df:Nat->D->Bool
 |_,.bN=>true
 |_,.bl _=>true
 |_,.int _=>true
 |n+1,.tup ds=>ds.all (df n)
 |n+1,.lst _ ds=>ds.all (df n)
 |_,_=>false
noncomputable abbrev O(α:Type):=Option (Except Nat α)
abbrev aG:=aa->O D
noncomputable def ok{α:Type}(a:α):O α:=some (.ok a)
noncomputable def bd{α β:Type}(x:O α)(f:α->O β):O β:=match x with
 |some (.ok a)=>f a
 |some (.error c)=>some (.error c)
 |none=>none
@[simp]theorem Nz{α:Type}{a:α}:((none:O α)=ok a)=False:=by simp[ok]
@[simp]theorem Pc{α:Type}{a b:α}:(ok a=ok b)=(a=b):=by simp[ok]
@[simp]theorem Ra{α:Type}{a:α}{c:Nat}:((some (.error c):O α)=ok a)=False:=by simp[ok]
@[simp]theorem Ei{α:Type}{p:Prop}[Decidable p]{a b:α}:((if p then ok a else none)=ok b)=(p/\a=b):=by
 by_cases h:p<;>simp[h]
@[simp]theorem PM{α:Type}{p:Prop}[Decidable p]{a b:α}:((if p then none else ok a)=ok b)=(¬ p/\a=b):=by
 by_cases h:p<;>simp[h]
theorem nk{α:Type}{a:α}{P:Prop}(h:(none:Option α)=some a):P:=nomatch h
theorem aE{α β:Type}{x:O α}{f:α->O β}{b:β}(h:bd x f=ok b):∃a,x=ok a/\f a=ok b:=by
 unfold bd at h
 match x,h with
 |some (.ok a),h=>exact⟨a,rfl,h⟩
 |some (.error c),h=>cases h
 |none,h=>cases h
inductive DK where|add|sub|mul|fdiv|mod|pow|shl|shr|band
 deriving DecidableEq
inductive xQ where|eq|ne|lt|le|gt|ge|Ct
 deriving DecidableEq
inductive Ty where|int|bool|list|tuple
 deriving DecidableEq
inductive Bf where|len|abs|list1|tuple1|lD|all1|fN
 deriving DecidableEq
inductive Tg where|nm(i:Nat)|tp(is:aK)
 deriving DecidableEq
inductive IK where|kI|seq|cL(p:Nat)
 deriving DecidableEq
inductive GK where|i(z:Int)|t(zs:ab)
 deriving DecidableEq
inductive CE where
 |bN|bl (b:Bool)|int (i:Int)|glo (x:Str) (i:Int)|glt (x:Str) (zs:ab)
 |v (i:Nat)
 |bin (op:DK) (a b:CE)
 |neg (a:CE)|not (a:CE)|and (es:List CE)|or (es:List CE)
 |cmp (op:xQ) (a b:CE)
 |pY (a:CE) (t:Ty)
 |call (f:Nat) (es:List CE)
 |bf (f:Bf) (es:List CE)
 |ix (a b:CE)
 |iF (a:CE)
 |tup (es:List CE)|lst (es:List CE)
 |cL (p:Nat) (es:List CE)
 |comp (n:Nat) (t:Tg) (caps:aK) (ik:IK) (es bC:List CE) (elt:CE)
abbrev aD:=List CE
inductive CI where|kI(a:CE)|seq(a:CE)|wx(p:Nat)(es:aD)
inductive CS where
 |asg (t:Tg) (e:CE)|par (i j:Nat) (a b:CE)|ret (e:CE)|rs (c:Nat)|ex (e:CE)
 |mut (p i:Nat) (es:aD)|app (i:Nat) (e:CE)
 |ifs (c:CE) (a b:List CS)
 |EX (c:CE) (b:List CS)
 |fr (t:Tg) (it:CI) (b:List CS)
abbrev aj:=List CS
noncomputable abbrev aZ:=List (aM)
noncomputable abbrev ba:=Nat->aG
noncomputable def big:Nat:=2 ^ 9000
def eH(i j:Int):Bool:=decide (i.natAbs<2 ^ 64)||decide (j.natAbs<2 ^ 64)||(decide (i.natAbs<big)&&decide (j.natAbs<big))
def nY(j:Int):Bool:=decide (j≠0)&&decide (j.natAbs<big)
noncomputable def i9(i j:Int):Bool:=decide (0<=j)&&decide (j<=1000000)&&decide (i.natAbs<2 ^ 64)
noncomputable def eO:Nat:=1000000
theorem mY{α:Type}{c:Prop}[inst:Decidable c]{v d:α}(h:(if c then ok v else none)=ok d):c/\v=d:=by
 cases inst with
 |isTrue hc=>exact⟨hc,Except.ok.inj (Xv h)⟩
 |isFalse hc=>cases h
def cv:DK->D->D->O D
 |.add,.int i,.int j=>ok (.int (i+j))
 |.add,.lst f a,.lst g b=>if tE f=false/\tE g=false/\a.length+b.length<=eO then ok (.lst .ow (aB bD (a++b)))else none
 |.add,.tup a,.tup b=>if a.length+b.length<=eO then ok (.tup (aB bD (a++b)))else none
 |.sub,.int i,.int j=>ok (.int (i - j))
 |.mul,.int i,.int j=>if eH i j then ok (.int (i*j))else none
 |.mul,.lst f a,.int k=>if tE f=false/\a.length*k.toNat<=eO/\k<=eO /\ -eO<=k then ok (.lst .ow (aB bD (List.replicate k.toNat a).flatten))else none
 |.fdiv,.int i,.int j=>if nY j then ok (.int (i.fdiv j))else none
 |.mod,.int i,.int j=>if j≠0 then ok (.int (i.fmod j))else none
 |.pow,.int i,.int j=>if i9 i j then ok (.int (i ^ j.toNat))else none
 |.shl,.int i,.int j=>if i9 i j then ok (.int (i*2 ^ j.toNat))else none
 |.shr,.int i,.int j=>if 0<=j then ok (.int (i / 2 ^ j.toNat))else none
 |.band,.int i,.int j=>if j=1 then ok (.int (i % 2))else none
 |_,_,_=>none
def inD(x:D):aa->Bool
 |[]=>false
 |y::ys=>jy y x||inD x ys
noncomputable def gc:D->Bool
 |.bN=>true|.bl _=>true|.int _=>true|_=>false
noncomputable def GQ:D->Option (aa)
 |.tup ds=>some ds
 |.lst _ ds=>some ds
 |_=>none
def fg:xQ->D->D->O D
 |.eq,a,b=>if df 40 a&&df 40 b then ok (.bl (jy a b))else none
 |.ne,a,b=>if df 40 a&&df 40 b then ok (.bl (!jy a b))else none
 |.lt,.int i,.int j=>ok (.bl (decide (i<j)))
 |.le,.int i,.int j=>ok (.bl (decide (i<=j)))
 |.gt,.int i,.int j=>ok (.bl (decide (j<i)))
 |.ge,.int i,.int j=>ok (.bl (decide (j<=i)))
 |.Ct,a,b=>match GQ b with
  |some ds=>if gc a&&ds.all gc then ok (.bl (inD a ds))else none
  |none=>none
 |_,_,_=>none
noncomputable def dt:Ty->D->Bool
 |.int,.int _=>true|.int,.bl _=>true
 |.bool,.bl _=>true
 |.list,.lst _ _=>true
 |.tuple,.tup _=>true
 |_,_=>false
noncomputable def wI(n:Nat)(i:Int):Option Nat:=if 0<=i then(if i<n then some i.toNat else none)else if -(n:Int)<=i then some (i+n).toNat else none
def vN(ds:aa)(i:Int):O D:=match(wI ds.length i).bind λj=>ds[j]? with
 |some d=>ok (aW bD d)
 |none=>none
def AJ:D->D->O D
 |.tup ds,.int i=>vN ds i
 |.lst _ ds,.int i=>vN ds i
 |_,_=>none
noncomputable def intsOf:aa->Option (ab)
 |[]=>some []
 |.int i::ds=>(intsOf ds).map (i :: ·)
 |_::_=>none
noncomputable def gT:aa->Option (List Bool)
 |[]=>some []
 |.bl i::ds=>(gT ds).map (i :: ·)
 |_::_=>none
theorem c_:∀{ds:aa} {ns:ab},intsOf ds=some ns->ds=ns.map D.int
 |[],ns,h=>by simp[intsOf]at h;subst h;rfl
 |d::ds,ns,h=>by
  cases d<;>simp[intsOf]at h;obtain⟨ms,h1,rfl⟩:=h;rw[c_ h1];rfl
theorem rV:∀{ds:aa} {bs:List Bool},gT ds=some bs->ds=bs.map D.bl
 |[],bs,h=>by simp[gT]at h;subst h;rfl
 |d::ds,bs,h=>by
  cases d<;>simp[gT]at h;obtain⟨ms,h1,rfl⟩:=h;rw[rV h1];rfl
theorem bx:∀ns:ab,intsOf (ns.map D.int)=some ns
 |[]=>rfl
 |n::ns=>by simp[intsOf,bx ns]
theorem jR:∀bs:List Bool,gT (bs.map D.bl)=some bs
 |[]=>rfl
 |b::bs=>by simp[gT,jR bs]
noncomputable def sortI(ns:ab):ab:=ns.mergeSort (λa b=>decide (a<=b))
def ny(ds:aa):O D:=match intsOf ds with
 |some ns=>if ns.length<64 then ok (.lst .ow ((sortI ns).map D.int))else none
 |none=>none
def rW:Bf->aG
 |.len,xs=>match xs with
  |[.tup ds]=>ok (.int ds.length)
  |[.lst _ ds]=>ok (.int ds.length)
  |_=>none
 |.abs,xs=>match xs with
  |[.int i]=>ok (.int (if i<0 then -i else i))
  |_=>none
 |.list1,xs=>match xs with
  |[.lst _ ds]=>ok (.lst .ow (aB bD ds))
  |[.tup ds]=>ok (.lst .ow (aB bD ds))
  |_=>none
 |.tuple1,xs=>match xs with
  |[.lst _ ds]=>ok (.tup (aB bD ds))
  |[.tup ds]=>ok (.tup (aB bD ds))
  |_=>none
 |.lD,xs=>match xs with
  |[.lst _ ds]=>(match intsOf ds with
   |some ns=>ok (.int ns.sum)
   |none=>none)
  |_=>none
 |.all1,xs=>match xs with
  |[.lst _ ds]=>(match gT ds with
   |some bs=>ok (.bl (bs.all id))
   |none=>none)
  |_=>none
 |.fN,xs=>match xs with
  |[.lst _ ds]=>ny ds
  |[.tup ds]=>ny ds
  |_=>none
noncomputable def pq(ns:ab):ab:=ns.foldl (λ(m:ab) (k:Int)=>if m.any (· == k)then m else m++[k]) []
def uR:D->O D
 |.tup ds=>(match intsOf ds with
  |some ns=>if ns.length<4000 then ok (.int (pq ns).length)else none
  |none=>none)
 |_=>none
noncomputable def gk:D->O Bool
 |.bl b=>ok b
 |_=>none
noncomputable def yZ:Option (aM)->Option (aa)
 |some (some (.lst .ow ds))=>some ds
 |_=>none
theorem B1{o:Option (aM)}{ds:aa}(h:yZ o=some ds):o=some (some (.lst .ow ds)):=by
 unfold yZ at h;split at h<;>cases h;rfl
noncomputable def Cg:D->O D
 |.int i=>ok (.int (-i))
 |_=>none
def gb:aK->aa->aZ->O aZ
 |[],[],ρ=>ok ρ
 |i::is,d::ds,ρ=>if i<ρ.length then gb is ds (ρ.set i (some d))else none
 |_,_,_=>none
def cg:Tg->D->aZ->O aZ
 |.nm i,d,ρ=>if i<ρ.length then ok (ρ.set i (some d))else none
 |.tp is,.tup ds,ρ=>if aS ck ds then none else gb is ds ρ
 |_,_,_=>none
def kh:D->O (aa)
 |.lst _ ds=>ok (aB a_ ds)
 |_=>none
def dM(Φ:ba):IK->aa->O (aa)
 |.cL p,xs=>bd (Φ p xs) kh
 |.kI,[.int n]=>if n<=eO /\ -eO<=n then ok ((List.range n.toNat).map λ(k:Nat)=>D.int (k:Int))else none
 |.seq,[.tup ds]=>ok (aB a_ ds)
 |.seq,[.lst _ ds]=>ok (aB a_ ds)
 |_,_=>none
def gg(bind:D->O aZ)(test:aZ->O Bool)(el:aZ->O D):aa->O (aa)
 |[]=>ok []
 |x::xs=>bd (bind x) λρ=>bd (test ρ) λb=>if b then bd (el ρ) λy=>bd (gg bind test el xs) λys=>ok (y::ys)else gg bind test el xs
def bE(n:Nat)(caps:aK)(ρ:aZ):aZ:=List.replicate n none++caps.map λi=>(ρ[i]?.getD none).map (aW a_)
def uw(o:Option (aM)):O D:=match o with
 |some (some d)=>ok (aW bD d)
 |_=>none
theorem yo{o:Option (aM)}{d:D}(h:uw o=ok d):∃d',o=some (some d')/\d=aW bD d':=by
 cases o with
 |none=>cases h
 |some z=>cases z with
  |none=>cases h
  |some z=>cases h;exact⟨z,rfl,rfl⟩
mutual
noncomputable def bA(Φ:ba):CE->aZ->O D
 |.bN,_=>ok .bN
 |.bl b,_=>ok (.bl b)
 |.int i,_=>ok (.int i)
 |.glo _ i,_=>ok (.int i)
 |.glt _ zs,_=>ok (.tup (zs.map D.int))
 |.v i,ρ=>uw ρ[i]?
 |.bin op a b,ρ=>bd (bA Φ a ρ) λx=>bd (bA Φ b ρ) λy=>cv op x y
 |.neg a,ρ=>bd (bA Φ a ρ) Cg
 |.not a,ρ=>bd (bd (bA Φ a ρ) gk) λb=>ok (.bl (!b))
 |.and es,ρ=>nV Φ es ρ
 |.or es,ρ=>xj Φ es ρ
 |.cmp op a b,ρ=>bd (bA Φ a ρ) λx=>bd (bA Φ b ρ) λy=>fg op x y
 |.pY a t,ρ=>bd (bA Φ a ρ) λx=>ok (.bl (dt t x))
 |.call f es,ρ=>bd (bV Φ es ρ) λxs=>bd (Φ f (aB a_ xs)) λr=>ok (aW l6 r)
 |.bf f es,ρ=>bd (bV Φ es ρ) λxs=>rW f xs
 |.ix a b,ρ=>bd (bA Φ a ρ) λx=>bd (bA Φ b ρ) λy=>AJ x y
 |.iF a,ρ=>bd (bA Φ a ρ) λx=>uR x
 |.cL p es,ρ=>bd (bV Φ es ρ) λxs=>Φ p xs
 |.tup es,ρ=>bd (bV Φ es ρ) λxs=>ok (.tup xs)
 |.lst es,ρ=>bd (bV Φ es ρ) λxs=>ok (.lst .ow xs)
 |.comp n t caps ik es bC elt,ρ=>bd (bV Φ es ρ) λxs=>bd (dM Φ ik xs) λitems =>
   bd (gg (λd=>cg t d (bE n caps ρ)) (λρ'=>gd Φ bC ρ') (λρ'=>bA Φ elt ρ') items) λds=>if ds.length<=eO then ok (.lst .ow (aB l6 ds))else none
noncomputable def bV(Φ:ba):aD->aZ->O (aa)
 |[],_=>ok []
 |e::es,ρ=>bd (bA Φ e ρ) λx=>bd (bV Φ es ρ) λxs=>ok (x::xs)
noncomputable def gd(Φ:ba):aD->aZ->O Bool
 |[],_=>ok true
 |e::es,ρ=>bd (bd (bA Φ e ρ) gk) λb=>if b then gd Φ es ρ else ok false
noncomputable def nV(Φ:ba):aD->aZ->O D
 |[],_=>none
 |e::es,ρ=>bd (bd (bA Φ e ρ) gk) λc=>match es with
  |[]=>ok (.bl c)
  |_::_=>if c then nV Φ es ρ else ok (.bl false)
noncomputable def xj(Φ:ba):aD->aZ->O D
 |[],_=>none
 |e::es,ρ=>bd (bd (bA Φ e ρ) gk) λc=>match es with
  |[]=>ok (.bl c)
  |_::_=>if c then ok (.bl true)else xj Φ es ρ
end
def xi(Φ:ba)(e:CE)(ρ:aZ):O Bool:=bd (bA Φ e ρ) gk
inductive Fo where|nx|rt(d:D)|bk|ct
noncomputable def cz{α β:Type}(n:Nat)(step:α->O (α ⊕ β))(a:α):O β:=match n with
 |0=>none
 |n+1=>bd (step a) λr=>match r with
  |.inl a'=>cz n step a'
  |.inr b=>ok b
open Classical in
noncomputable def eD{α β:Type}(step:α->O (α ⊕ β))(a:α):O β :=
 if h:∃n,cz n step a≠none then cz (Classical.choose h) step a else none
theorem gK{α β:Type}(step:α->O (α ⊕ β)):∀(n m:Nat) (a:α),n<=m->cz n step a≠none->cz m step a=cz n step a
 |0,_,_,_,h=>absurd rfl h
 |n+1,0,_,hl,_=>by left
 |n+1,m+1,a,hl,h=>by
  unfold cz at h ⊢
  match hs:step a with
  |none=>rw[hs]at h;exact absurd rfl h
  |some (.error c)=>rfl
  |some (.ok (.inr b))=>rfl
  |some (.ok (.inl a')) =>
   rw[hs]at h;exact gK step n m a' (by left) h
theorem jA{α β:Type}{step:α->O (α ⊕ β)}{a:α}{n:Nat}{r:Except Nat β}(h:cz n step a=some r):eD step a=some r:=by
 have hx:∃n,cz n step a≠none:=⟨n,by rw[h];simp⟩
 unfold eD;rw[dif_pos hx];have hc:=Classical.choose_spec hx;rcases Nat.le_total n (Classical.choose hx)with hl|hl
 ·rw[gK step _ _ a hl (by rw[h];simp),h]
 ·rw[<- gK step _ _ a hl hc,h]
theorem jK{α β:Type}{step:α->O (α ⊕ β)}{a:α}{r:Except Nat β}(h:eD step a=some r):∃n,cz n step a=some r:=by
 unfold eD at h;split at h
 ·exact⟨_,h⟩
 ·cases h
theorem lz{α β:Type}{step:α->O (α ⊕ β)}{a a':α}(h:step a=ok (.inl a')):eD step a=eD step a':=by
 match hr:eD step a' with
 |some r =>
  obtain⟨n,hn⟩:=jK hr;refine jA (n:=n+1) ?_;unfold cz;rw[h];exact hn
 |none =>
  match hq:eD step a with
  |none=>rfl
  |some r =>
   obtain⟨n,hn⟩:=jK hq
   match n,hn with
   |n+1,hn =>
    unfold cz at hn;rw[h]at hn;rw[jA (n:=n) hn]at hr;cases hr
theorem fL{α β:Type}{step:α->O (α ⊕ β)}{a:α}{b:β}(h:step a=ok (.inr b)):eD step a=ok b :=
 jA (n:=1) (by unfold cz;rw[h];rfl)
mutual
noncomputable def h_:CE->aK
 |.v i=>[i]
 |.bin _ a b=>h_ a++h_ b
 |.neg a=>h_ a
 |.not a=>h_ a
 |.and es=>cA es
 |.or es=>cA es
 |.cmp _ a b=>h_ a++h_ b
 |.pY a _=>h_ a
 |.call _ es=>cA es
 |.bf _ es=>cA es
 |.ix a b=>h_ a++h_ b
 |.iF a=>h_ a
 |.tup es=>cA es
 |.lst es=>cA es
 |.cL _ es=>cA es
 |.comp _ _ caps _ es _ _=>caps++cA es
 |_=>[]
noncomputable def cA:aD->aK
 |[]=>[]
 |e::es=>h_ e++cA es
end
def gp(is:aK)(ρ:aZ):aZ:=ρ.mapIdx λi d=>if i∈is then d.map (aW a_)else d
def keep(e:CE)(d:D)(ρ:aZ):D×aZ:=if aY bG d then(aW a_ d,gp (h_ e) ρ)else(d,ρ)
def iH(Φ:ba)(e:CE)(ρ:aZ):O (D×aZ):=match e with
 |.v i=>match ρ[i]? with
  |some (some d)=>if aY ck d then ok (d,ρ.set i none)else ok (d,ρ)
  |_=>none
 |_=>bd (bA Φ e ρ) λd=>ok (keep e d ρ)
def dJ(Φ:ba)(it:CI)(ρ:aZ):O (aa×aZ):=match it with
 |.wx p es=>bd (bV Φ es ρ) λxs=>bd (Φ p xs) λd=>bd (kh d) λitems=>ok (items,if aS bG xs then gp (cA es) ρ else ρ)
 |.kI a=>bd (bA Φ a ρ) λx=>match x with
  |.int n=>if n<=eO /\ -eO<=n then ok ((List.range n.toNat).map λ(k:Nat)=>D.int (k:Int),ρ)else none
  |_=>none
 |.seq a=>bd (bA Φ a ρ) λx=>match x with
  |.tup ds=>ok (aB a_ ds,if aY bG x then gp (h_ a) ρ else ρ)
  |.lst f ds=>ok (aB a_ ds,if aY bG x then gp (h_ a) ρ else ρ)
  |_=>none
def jd(es:aD)(xs:aa)(ρ:aZ):aa×aZ:=if aS bG xs then(aB a_ xs,gp (cA es) ρ)else(xs,ρ)
noncomputable def oS(Φ:ba)(p i:Nat)(r:aa×aZ):O (Fo×aZ):=match r.2[i]? with
 |some (some d)=>bd (Φ p (d::r.1)) λd'=>ok (.nx,r.2.set i (some d'))
 |_=>none
def eu(bind:D->aZ->O aZ)(body:aZ->O (Fo×aZ)):aa->aZ->O (Fo×aZ)
 |[],ρ=>ok (.nx,ρ)
 |d::ds,ρ=>bd (bind d ρ) λρ1=>bd (body ρ1) λr=>match r with
  | (.nx,ρ2)=>eu bind body ds ρ2
  | (.ct,ρ2)=>eu bind body ds ρ2
  | (.bk,ρ2)=>ok (.nx,ρ2)
  | (.rt d,ρ2)=>ok (.rt d,ρ2)
mutual
noncomputable def nU(Φ:ba):CS->aZ->O (Fo×aZ)
 |.asg t e,ρ=>bd (iH Φ e ρ) λr=>bd (cg t r.1 r.2) λρ'=>ok (.nx,ρ')
 |.par i j a b,ρ=>bd (bA Φ a ρ) λx=>bd (bA Φ b ρ) λy=>if aY anyF x=false/\aY anyF y=false/\i<ρ.length/\j<ρ.length then ok (.nx,(ρ.set i (some x)).set j (some y))else none
 |.ret e,ρ=>bd (iH Φ e ρ) λr=>ok (.rt r.1,r.2)
 |.rs c,_=>some (.error c)
 |.ex e,ρ=>bd (bA Φ e ρ) λ_=>ok (.nx,ρ)
 |.mut p i es,ρ=>bd (bV Φ es ρ) λxs=>oS Φ p i (jd es xs ρ)
 |.app i e,ρ=>bd (iH Φ e ρ) λr=>match yZ r.2[i]? with
  |some ds=>if ds.length<eO then ok (.nx,r.2.set i (some (.lst .ow (ds++[r.1]))))else none
  |none=>none
 |.ifs c a b,ρ=>bd (xi Φ c ρ) λk=>if k then bT Φ a ρ else bT Φ b ρ
 |.EX c b,ρ=>eD (λρ=>bd (xi Φ c ρ) λk=>if k then bd (bT Φ b ρ) λr=>match r with
   | (.nx,ρ')=>ok (.inl ρ')
   | (.ct,ρ')=>ok (.inl ρ')
   | (.bk,ρ')=>ok (.inr (.nx,ρ'))
   | (.rt d,ρ')=>ok (.inr (.rt d,ρ'))
  else ok (.inr (.nx,ρ))) ρ
 |.fr t it b,ρ=>bd (dJ Φ it ρ) λr=>eu (λd ρ=>cg t d ρ) (λρ=>bT Φ b ρ) r.1 r.2
noncomputable def bT(Φ:ba):aj->aZ->O (Fo×aZ)
 |[],ρ=>ok (.nx,ρ)
 |s::ss,ρ=>bd (nU Φ s ρ) λr=>match r with
  | (.nx,ρ')=>bT Φ ss ρ'
  |r=>ok r
end
noncomputable def oJ(Φ:ba)(n:Nat)(b:aj)(ds:aa):O D:=bd (bT Φ b (ds.map some++List.replicate (n - ds.length) none)) λr=>match r.1 with
 |.nx=>ok .bN
 |.rt d=>ok d
 |_=>none
noncomputable def A4:aG
 |[.lst _ a,.lst _ b]=>ok (.lst .ow (List.zipWith (λx y=>.tup [x,y]) a b))
 |_=>none
end DI
end
section
namespace DI
open PySem PySem.Spec PyProof.Rows L2
noncomputable abbrev bg:=aK
noncomputable abbrev St:=L2.St
noncomputable abbrev kC:=Addr->ae->Prop
inductive Nd where|l(xs:ae)|d(cs:ak)(as:aP)(xs:ae)(ep:Nat)
abbrev gu:=bg->Addr->Nd->Fl->Prop
structure eR(T:kC)(as:aP)(cs:ak):Prop where
 len:as.length=cs.length
 tup:∀(j:Nat) (a:Addr) (c:ab),as[j]?=some a->cs[j]?=some c->T a (c.map V.int)
variable {T T':kC}
theorem eR.imp{as:aP}{cs:ak}(h:eR T as cs)(hT:∀p xs,T p xs->T' p xs):eR T' as cs:=⟨h.len,λj a c h1 h2=>hT _ _ (h.tup j a c h1 h2)⟩
mutual
inductive Rep(T:kC)(N:gu):bg->V->D->Prop where
 |bN {q:bg}:Rep T N q .bN .bN
 |bl {q:bg} (b:Bool):Rep T N q (.bl b) (.bl b)
 |int {q:bg} (i:Int):Rep T N q (.int i) (.int i)
 |tup {q:bg} {p:Addr} {xs:ae} {ds:aa} (h:T p xs) (r:aA T N q 0 xs ds):Rep T N q (.ref p) (.tup ds)
 |lst {q:bg} {p:Addr} {xs:ae} {f:Fl} {ds:aa} (h:N q p (.l xs) f) (r:aA T N q 0 xs ds):Rep T N q (.ref p) (.lst f ds)
 |cu {q:bg} {p:Addr} {cs:ak} {as:aP} {xs:ae} {ep:Nat} {f:Fl} {ds:aa} (h:N q p (.d cs as xs ep) f) (k:eR T as cs) (r:aA T N q 0 xs ds):Rep T N q (.ref p) (.cu f cs ds)
inductive aA(T:kC)(N:gu):bg->Nat->ae->aa->Prop where
 |nil {q:bg} {n:Nat}:aA T N q n [] []
 |cons {q:bg} {n:Nat} {v:V} {d:D} {vs:ae} {ds:aa} (h:Rep T N (n::q) v d) (t:aA T N q (n+1) vs ds):aA T N q n (v::vs) (d::ds)
end
variable {N:gu}{ds ds' items:aa}
theorem Rep.sD{q:bg}{v:V}(h:Rep T N q v (.tup ds)):∃p xs,v=.ref p/\T p xs/\aA T N q 0 xs ds:=by
 cases h with
 |tup a b=>exact⟨_,_,rfl,a,b⟩
variable {f:Fl}
theorem Rep.p4{q:bg}{v:V}(h:Rep T N q v (.lst f ds)):∃p xs,v=.ref p/\N q p (.l xs) f/\aA T N q 0 xs ds:=by
 cases h with
 |lst a b=>exact⟨_,_,rfl,a,b⟩
mutual
theorem o7:∀d:D,aY (λ_=>false) d=false
 |.bN=>rfl
 |.bl _=>rfl
 |.int _=>rfl
 |.tup ds=>fC ds
 |.lst _ ds=>fC ds
 |.cu _ _ ds=>fC ds
theorem fC:∀ds:aa,aS (λ_=>false) ds=false
 |[]=>rfl
 |d::ds=>by show(aY _ d||aS _ ds)=false;rw[o7 d,fC ds];rfl
end
theorem Gb{a b:Bool}(h:(a||b)=false):a=false/\b=false:=by cases a<;>cases b<;>first|exact⟨rfl,rfl⟩|cases h
variable {k' q':bg}{vs xs xs' ys:ae}
section
variable {T T':kC}{N N':gu}{g:Fl->Fl}{P:Fl->Bool}{C:bg->bg->Prop}{I:Nat->Nat->Prop}
mutual
theorem Rep.gen(hT:∀p xs,T p xs->T' p xs)(h0:I 0 0)(hI:∀n n',I n n'->I (n+1) (n'+1))(hC:∀k k' n n',C k k'->I n n'->C (n::k) (n'::k'))(hN:∀k k' p xs f,C k k'->P f=false->N k p xs f->N' k' p xs (g f)):
  ∀{k:bg} {v:V} {d:D},Rep T N k v d->∀{k':bg},C k k'->aY P d=false->Rep T' N' k' v (aW g d)
 |_,_,_,.bN,_,_,_=>.bN
 |_,_,_,.bl b,_,_,_=>.bl b
 |_,_,_,.int i,_,_,_=>.int i
 |_,_,_,.tup h r,_,c,e=>.tup (hT _ _ h) (aA.gen hT h0 hI hC hN r c h0 e)
 |_,_,_,.lst h r,_,c,e=>.lst (hN _ _ _ _ _ c (Gb e).1 h) (aA.gen hT h0 hI hC hN r c h0 (Gb e).2)
 |_,_,_,.cu h k r,_,c,e=>.cu (hN _ _ _ _ _ c (Gb e).1 h) (k.imp hT) (aA.gen hT h0 hI hC hN r c h0 (Gb e).2)
theorem aA.gen(hT:∀p xs,T p xs->T' p xs)(h0:I 0 0)(hI:∀n n',I n n'->I (n+1) (n'+1))(hC:∀k k' n n',C k k'->I n n'->C (n::k) (n'::k'))(hN:∀k k' p xs f,C k k'->P f=false->N k p xs f->N' k' p xs (g f)):
  ∀{k:bg} {n:Nat} {vs:ae} {ds:aa},aA T N k n vs ds->∀{k':bg} {n':Nat},C k k'->I n n'->aS P ds=false->aA T' N' k' n' vs (aB g ds)
 |_,_,_,_,.nil,_,_,_,_,_=>.nil
 |_,_,_,_,.cons h t,_,_,c,i,e=>.cons (Rep.gen hT h0 hI hC hN h (hC _ _ _ _ c i) (Gb e).1) (aA.gen hT h0 hI hC hN t c (hI _ _ i) (Gb e).2)
end
theorem Rep.map{q:bg}(hT:∀p xs,T p xs->T' p xs)(hN:∀c p xs f,N (c++q) p xs f->N' (c++q') p xs (g f)){k:bg}{v:V}{d:D}(h:Rep T N k v d)(c:bg)(e:k=c++q):Rep T' N' (c++q') v (aW g d) :=
 Rep.gen (P:=λ_=>false) (C:=λk k'=>∃c,k=c++q/\k'=c++q') (I:=λn n'=>n=n') hT rfl (λ_ _ e=>by rw[e]) (λ_ _ n _ ⟨c,e1,e2⟩ e=>⟨n::c,by rw[e1];rfl,by rw[e2,<- e];rfl⟩) (λ_ _ p xs f ⟨c,e1,e2⟩ _ h=>by subst e1;subst e2;exact hN c p xs f h) h ⟨c,e,rfl⟩ (o7 d)
theorem aA.map{q:bg}(hT:∀p xs,T p xs->T' p xs)(hN:∀c p xs f,N (c++q) p xs f->N' (c++q') p xs (g f)){k:bg}{n:Nat}(h:aA T N k n vs ds)(c:bg)(e:k=c++q):aA T' N' (c++q') n vs (aB g ds) :=
 aA.gen (P:=λ_=>false) (C:=λk k'=>∃c,k=c++q/\k'=c++q') (I:=λn n'=>n=n') hT rfl (λ_ _ e=>by rw[e]) (λ_ _ n _ ⟨c,e1,e2⟩ e=>⟨n::c,by rw[e1];rfl,by rw[e2,<- e];rfl⟩) (λ_ _ p xs f ⟨c,e1,e2⟩ _ h=>by subst e1;subst e2;exact hN c p xs f h) h ⟨c,e,rfl⟩ rfl (fC ds)
theorem Rep.gH(hT:∀p xs,T p xs->T' p xs)(hN:∀k k' p xs f,N k p xs f->N' k' p xs (g f)){k:bg}{v:V}{d:D}(h:Rep T N k v d)(k':bg):Rep T' N' k' v (aW g d) :=
 Rep.gen (P:=λ_=>false) (C:=λ_ _=>True) (I:=λ_ _=>True) hT trivial (λ_ _ e=>e) (λ_ _ _ _ e _=>e) (λk k' p xs f _ _ h=>hN k k' p xs f h) h trivial (o7 d)
theorem aA.gH(hT:∀p xs,T p xs->T' p xs)(hN:∀k k' p xs f,N k p xs f->N' k' p xs (g f)){k:bg}{n:Nat}(h:aA T N k n vs ds)(k':bg)(n':Nat):aA T' N' k' n' vs (aB g ds) :=
 aA.gen (P:=λ_=>false) (C:=λ_ _=>True) (I:=λ_ _=>True) hT trivial (λ_ _ e=>e) (λ_ _ _ _ e _=>e) (λk k' p xs f _ _ h=>hN k k' p xs f h) h trivial trivial (fC ds)
end
mutual
theorem dA:∀d:D,aW id d=d
 |.bN=>rfl
 |.bl _=>rfl
 |.int _=>rfl
 |.tup ds=>by rw[aW,dD ds]
 |.lst f ds=>by rw[aW,dD ds];rfl
 |.cu f ks vs=>by rw[aW,dD vs];rfl
theorem dD:∀ds:aa,aB id ds=ds
 |[]=>rfl
 |d::ds=>by rw[aB,dA d,dD ds]
end
section
variable {T T':kC}{N N':gu}
theorem Rep.imp{q:bg}(hT:∀p xs,T p xs->T' p xs)(hN:∀c p xs f,N (c++q) p xs f->N' (c++q') p xs f){v:V}{d:D}(h:Rep T N q v d):Rep T' N' q' v d:=by
 have:=Rep.map (g:=id) hT hN h [] rfl;rw[dA]at this;exact this
theorem aA.imp{q:bg}{n:Nat}(hT:∀p xs,T p xs->T' p xs)(hN:∀c p xs f,N (c++q) p xs f->N' (c++q') p xs f)(h:aA T N q n vs ds):aA T' N' q' n vs ds:=by
 have:=aA.map (g:=id) hT hN h [] rfl;rw[dD]at this;exact this
theorem aA.length:∀{k:bg} {n:Nat} {vs:ae} {ds:aa},aA T N k n vs ds->vs.length=ds.length
 |_,_,_,_,.nil=>rfl
 |_,_,_,_,.cons _ t=>by simp[aA.length t]
theorem aA.get:∀{k:bg} {n j:Nat} {vs:ae} {ds:aa} {d:D},aA T N k n vs ds->ds[j]?=some d->∃v,vs[j]?=some v/\Rep T N ((n+j)::k) v d
 |_,_,_,_,_,_,.nil,e=>by simp at e
 |_,_,0,_,_,_,.cons h t,e=>by simp at e;subst e;exact⟨_,rfl,h⟩
 |_,n,j+1,_,_,_,.cons h t,e=>by
  obtain⟨v,h1,h2⟩:=aA.get (j:=j) t (by simpa using e);refine⟨v,by simpa using h1,?_⟩;have:n+1+j=n+(j+1):=by left
  rw[<- this];exact h2
theorem aA.tP:∀{k:bg} {n j:Nat} {vs:ae} {ds:aa} {v:V},aA T N k n vs ds->vs[j]?=some v->∃d,ds[j]?=some d/\Rep T N ((n+j)::k) v d
 |_,_,_,_,_,_,.nil,e=>by simp at e
 |_,_,0,_,_,_,.cons h t,e=>by simp at e;subst e;exact⟨_,rfl,h⟩
 |_,n,j+1,_,_,_,.cons h t,e=>by
  obtain⟨v,h1,h2⟩:=aA.tP (j:=j) t (by simpa using e);refine⟨v,by simpa using h1,?_⟩;have:n+1+j=n+(j+1):=by left
  rw[<- this];exact h2
theorem aA.k9{k:bg}(hN:∀k k' p xs f,N k p xs f->N k' p xs f):∀{n m l:Nat} {vs ws:ae} {ds es:aa},aA T N k n vs ds->aA T N k m ws es->aA T N k l (vs++ws) (ds++es)
 |_,_,_,_,_,_,_,.nil,t=>by
  have:=aA.gH (T':=T) (N':=N) (g:=id) (λ_ _ h=>h) hN t;rw[dD]at this;exact this _ _
 |_,_,_,_,_,_,_,.cons h t,u=>.cons (by
  have:=Rep.gH (T':=T) (N':=N) (g:=id) (λ_ _ h=>h) hN h;rw[dA]at this;exact this _) (aA.k9 hN t u)
end
def KL(K:ai)(a:Addr)(xs:ae):Prop :=
 ∃(o:Obj) (aH:aN) (n:Nat),K.lookup a=some o/\o.cls=.type "list" /\ o.dict=none/\o.data=.seq aH n/\aH.size<=sizeLine/\Vals xs aH.toList
def DO(p:Addr)(cs:ak)(as:aP)(xs:ae)(ep:Nat)(h:Heap):Prop :=
 ∃(zs:List (ab×Addr×Value)) (o:Obj) (es:Array DictEntry),zs.map (·.1)=cs/\zs.map (·.2.1)=as/\Vals xs (zs.map (·.2.2))/\h.get? p=some o/\o.ExactDict/\o.data=.dict es ep /\
  es.toList=zs.map (λz=>⟨reduceHash (Builtin.Tuple.tupleHashOf (z.1.map hashInt)),.ref z.2.1,z.2.2⟩)/\cs.Nodup/\cs.length<=sizeLine/\(p==sysModules)=false
noncomputable abbrev dy(H:Hp)(p:Addr)(n:Nd):Prop:=match n with
 |.l xs=>H p=some (.lst xs)
 |.d cs as xs ep=>H p=some (.ext (DO p cs as xs ep))
theorem dy.ne{H:Hp}{p:Addr}{n:Nd}(h:dy H p n):H p≠none:=by
 cases n with
 |l xs=>intro z;rw[show H p=some (.lst xs) from h]at z;cases z
 |d cs as xs ep=>intro z;rw[show H p=some (.ext (DO p cs as xs ep)) from h]at z;cases z
variable {H' H1 H2:Hp}
theorem dy.at{H:Hp}{p:Addr}{n:Nd}(e:∀o,H p=some o->H' p=some o)(h:dy H p n):dy H' p n:=by
 cases n with
 |l xs=>exact e _ h
 |d cs as xs ep=>exact e _ h
theorem dy.same{H:Hp}{p:Addr}{n:Nd}(e:aF H H')(h:dy H p n):dy H' p n:=h.at (e p)
theorem dy.some{H:Hp}{p:Addr}{n:Nd}(h:dy H p n):∃o,H p=some o/\(∀xs,o≠.tup xs)/\(∀a u,o≠.gp a u):=by
 cases n with
 |l xs=>exact⟨_,h,λ_ z=>(nomatch z),λ_ _ z=>(nomatch z)⟩
 |d cs as xs ep=>exact⟨_,h,λ_ z=>(nomatch z),λ_ _ z=>(nomatch z)⟩
def nd(K:ai)(R A:af)(τ:Addr->Option bg)(H:Hp):gu:=λq p n f=>match f with
 |.ow=>dy H p n/\τ p=some q
 |.fz=>dy H p n/\R p
 |.al=>dy H p n/\A p
 |.sc=>match n with
  |.l xs=>(∃o,H p=some (.gp o (.lst xs)))\/KL K p xs
  |.d _ _ _ _=>False
variable {A F G R' R1:Addr->Prop}{K:ai}{τ τ':Addr->Option bg}
theorem nd.yu{R:Addr->Prop}{H:Hp}{q:bg}{p:Addr}{n:Nd}(h:nd K R A τ H q p n .sc):∃xs,n=.l xs/\((∃o,H p=some (.gp o (.lst xs)))\/KL K p xs):=by
 cases n with
 |l xs=>exact⟨xs,rfl,h⟩
 |d _ _ _ _=>exact h.elim
theorem nd.sq{R:Addr->Prop}{H:Hp}{q:bg}{p:Addr}(h:nd K R A τ H q p (.l xs) f):cI K H p xs:=by
 cases f with
 |ow=>exact cI.of h.1
 |fz=>exact cI.of h.1
 |al=>exact cI.of h.1
 |sc=>exact h.elim (λh=>.inl (.inr h)) .inr
theorem nd.lst{K:ai}{R A:af}{τ:Addr->Option bg}{H:Hp}{q:bg}{p:Addr}{xs:ae}{f:Fl}(h:nd K R A τ H q p (.l xs) f)(hf:tE f=false):H p=some (.lst xs):=by
 cases f with
 |ow=>exact h.1
 |fz=>exact h.1
 |al=>exact h.1
 |sc=>cases hf
variable {ep k1 k2 n1 t':Nat}
theorem nd.dat{R:Addr->Prop}{H:Hp}{q:bg}{p:Addr}{cs:ak}{as:aP}(h:nd K R A τ H q p (.d cs as xs ep) f):H p=some (.ext (DO p cs as xs ep)):=by
 cases f with
 |ow=>exact h.1
 |fz=>exact h.1
 |al=>exact h.1
 |sc=>exact h.elim
theorem Rd.same{H:Hp}{a:Addr}{u:HO}(e:aF H H')(h:Rd H a u):Rd H' a u:=h.elim (λh=>.inl (e _ _ h)) λ⟨o,h⟩=>.inr ⟨o,e _ _ h⟩
theorem aR.same{K:ai}{H H':Hp}{a:Addr}{xs:ae}(e:aF H H')(h:aR K H a xs):aR K H' a xs:=h.elim (λh=>.inl (Rd.same e h)) .inr
theorem nd.same{K:ai}{R A:af}{τ:Addr->Option bg}{H H':Hp}{q:bg}{p:Addr}{n:Nd}{f:Fl}(e:aF H H')(h:nd K R A τ H q p n f):nd K R A τ H' q p n f:=by
 cases f with
 |ow=>exact⟨h.1.same e,h.2⟩
 |fz=>exact⟨h.1.same e,h.2⟩
 |al=>exact⟨h.1.same e,h.2⟩
 |sc=>cases n with
  |l xs=>exact h.elim (λ⟨o,h⟩=>.inl ⟨o,e _ _ h⟩) .inr
  |d _ _ _ _=>exact h.elim
theorem aF.ne{H:Hp}(e:aF H H'){a:Addr}(h:H a≠none):H' a≠none:=by
 cases q:H a with
 |none=>exact absurd q h
 |some o=>rw[e a o q];simp
structure SI(X:Cx)(F R:af)(τ:Addr->Option bg)(ρ:aZ)(σ:St)(H:Hp):Prop where
 len:ρ.length=σ.length
 rep:∀(i:Nat) (d:D),ρ[i]?=some (some d)->∃v,σ[i]?=some (some v)/\Rep (aR X.K H) (nd X.K R (λ_=>False) τ H) [i] v d
 rt:∀p,R p->τ p=none
 rh:∀p,R p->H p≠none
 rf:∀p,R p->F p\/X.H₀ p=none
 th:∀p q,τ p=some q->H p≠none
 t0:∀p q,τ p=some q->X.H₀ p=none
 same:aF X.H₀ H
variable {X:Cx}{ρ:aZ}{σ:L2.St}
theorem SI.go{R:Addr->Prop}{H:Hp}(S:SI X F R τ ρ σ H)(e:aF H H'):SI X F R τ ρ σ H' :=
 ⟨S.len,λi d h=>let ⟨v,h1,h2⟩:=S.rep i d h;⟨v,h1,h2.imp (λ_ _ h=>aR.same e h) λ_ _ _ _ h=>nd.same e h⟩,S.rt,λp h=>aF.ne e (S.rh p h),S.rf,λp q h=>aF.ne e (S.th p q h),S.t0,S.same.trans e⟩
def iL(G:af)(τ:Addr->Option bg)(fv:aK)(p:Addr):Prop:=G p/\∀c i,τ p=some (c++[i])->i∈fv
variable {caps fv fv':aK}
theorem iL.mono{p:Addr}(h:iL G τ fv p)(hs:∀i∈fv,i∈fv'):iL G τ fv' p:=⟨h.1,λc i e=>hs i (h.2 c i e)⟩
def gP(X:Cx)(F:af)(p:Addr):Prop:=F p\/X.H₀ p=none
def bJ(K:ai)(G R:af)(τ:Addr->Option bg)(fv:aK)(H H':Hp)(v:V)(d:D):Prop :=
 ∃τt:Addr->Option bg,(∀p q,τt p=some q->H p=none)/\Rep (aR K H') (nd K R (iL G τ fv) τt H') [] v d
def bP(K:ai)(G R:af)(τ:Addr->Option bg)(fv:aK)(H H':Hp)(vs:ae)(ds:aa):Prop :=
 ∃τt:Addr->Option bg,(∀p q,τt p=some q->H p=none)/\aA (aR K H') (nd K R (iL G τ fv) τt H') [] 0 vs ds
section
variable {K:ai}{G R:af}{τ:Addr->Option bg}{fv fv':aK}{H H1 H2:Hp}{v:V}{d:D}{vs:ae}{ds:aa}
theorem bJ.go(h:bJ K G R τ fv H H1 v d)(e:aF H1 H2):bJ K G R τ fv H H2 v d :=
 let ⟨τt,h1,h2⟩:=h;⟨τt,h1,h2.imp (λ_ _ h=>aR.same e h) λ_ _ _ _ h=>nd.same e h⟩
theorem nd.mono{A':Addr->Prop}{τ:Addr->Option bg}{q:bg}{p:Addr}{xs:Nd}(h:nd K R A τ H q p xs f)(hR:R p->R' p)(hA:A p->A' p)(ht:τ p=some q->τ' p=some q'):nd K R' A' τ' H q' p xs f:=by
 cases f with
 |ow=>exact⟨h.1,ht h.2⟩
 |fz=>exact⟨h.1,hR h.2⟩
 |al=>exact⟨h.1,hA h.2⟩
 |sc=>exact h
theorem bJ.mono(h:bJ K G R τ fv H H1 v d)(hs:∀i∈fv,i∈fv'):bJ K G R τ fv' H H1 v d :=
 let ⟨τt,h1,h2⟩:=h;⟨τt,h1,h2.imp (λ_ _ h=>h) λ_ _ _ _ h=>h.mono id (λh=>h.mono hs) id⟩
theorem bP.mono(h:bP K G R τ fv H H1 vs ds)(hs:∀i∈fv,i∈fv'):bP K G R τ fv' H H1 vs ds :=
 let ⟨τt,h1,h2⟩:=h;⟨τt,h1,h2.imp (λ_ _ h=>h) λ_ _ _ _ h=>h.mono id (λh=>h.mono hs) id⟩
theorem bJ.old{H0:Hp}(h:bJ K G R τ fv H H1 v d)(e:aF H0 H):bJ K G R τ fv H0 H1 v d :=
 let ⟨τt,h1,h2⟩:=h;⟨τt,λp q z=>e.free (h1 p q z),h2⟩
theorem bJ.int{i:Int}:bJ K G R τ fv H H1 (.int i) (.int i):=⟨λ_=>none,λ_ _ h=>by simp at h,.int i⟩
theorem bJ.bl{b:Bool}:bJ K G R τ fv H H1 (.bl b) (.bl b):=⟨λ_=>none,λ_ _ h=>by simp at h,.bl b⟩
theorem bJ.bN:bJ K G R τ fv H H1 .bN .bN:=⟨λ_=>none,λ_ _ h=>by simp at h,.bN⟩
theorem bJ.isInt{i:Int}(h:bJ K G R τ fv H H1 v (.int i)):v=.int i:=by obtain⟨_,_,h⟩:=h;cases h;rfl
theorem bJ.wM{i:Bool}(h:bJ K G R τ fv H H1 v (.bl i)):v=.bl i:=by obtain⟨_,_,h⟩:=h;cases h;rfl
def oG:bg->bg
 |[]=>[]
 |[n]=>[n+1]
 |a::b::r=>a::oG (b::r)
theorem qo(c:bg)(n:Nat):oG (c++[n])=c++[n+1]:=by
 induction c with
 |nil=>rfl
 |cons a c ih =>
  cases c with
  |nil=>rfl
  |cons b c=>show a::oG (b::c++[n])=_;rw[ih];rfl
theorem aA.shift{T:kC}{N N':gu}(hN:∀c n p xs f,N (c++[n]) p xs f->N' (c++[n+1]) p xs f):∀{n:Nat} {vs:ae} {ds:aa},aA T N [] n vs ds->aA T N' [] (n+1) vs ds
 |_,_,_,.nil=>.nil
 |n,_,_,.cons h t=>.cons (h.imp (q:=[n]) (q':=[n+1]) (λ_ _ h=>h) λc p xs f h=>hN c n p xs f h) (aA.shift hN t)
theorem bP.nil:bP K G R τ fv H H1 [] []:=⟨λ_=>none,λ_ _ h=>by simp at h,.nil⟩
open Classical in
theorem bP.cons(e1:aF H H1)(e2:aF H1 H2)(h:bJ K G R τ fv H H1 v d)(t:bP K G R τ fv H1 H2 vs ds):bP K G R τ fv H H2 (v::vs) (d::ds):=by
 obtain⟨τ1,f1,h1⟩:=h;obtain⟨τ2,f2,h2⟩:=t;refine⟨λp=>if H1 p=none then(τ2 p).map oG else(τ1 p).map (· ++ [0]),λp q hq=>?_,.cons (h1.imp (q':=[0]) (λ_ _ h=>aR.same e2 h) λc p xs f h=>?_) (aA.shift (λc n p xs f h=>?_) h2)⟩
 ·by_cases hp:H1 p=none
  ·exact e1.free hp
  ·simp only[hp,if_false]at hq;cases q1:τ1 p with
   |none=>rw[q1]at hq;simp at hq
   |some k=>exact f1 p k q1
 ·have h':nd K R (iL G τ fv) τ1 H2 (c++[]) p xs f:=nd.same e2 h;cases f with
  |ow =>
   have hp:H1 p≠none:=h.1.ne;refine⟨h'.1,?_⟩;simp only[hp,if_false];rw[h.2];simp
  |fz=>exact h'
  |al=>exact h'
  |sc=>exact h'
 ·cases f with
  |ow =>
   have hp:H1 p=none:=f2 p _ h.2;refine⟨h.1,?_⟩;simp only[hp,if_true];rw[h.2];simp[qo]
  |fz=>exact h
  |al=>exact h
  |sc=>exact h
end
def tD(X:Cx)(F:af)(Φ:ba)(c:CE):TE:=λσ H Q=>∃R τ ρ d,SI X F R τ ρ σ H/\bA Φ c ρ=ok d/\∀v H',aF H H'->bJ X.K (gP X F) R τ (h_ c) H H' v d->Q v H'
def pW(X:Cx)(F:af)(Φ:ba)(cs:aD):TA:=λσ H Q=>∃R τ ρ ds,SI X F R τ ρ σ H/\bV Φ cs ρ=ok ds/\∀vs H',aF H H'->bP X.K (gP X F) R τ (cA cs) H H' vs ds->Q vs H'
def f_(X:Cx)(F:af)(Φ:ba)(c:CE):TT:=λσ H Q=>∃R τ ρ b,SI X F R τ ρ σ H/\xi Φ c ρ=ok b/\∀H',aF H H'->Q b H'
theorem PE.imp{e:Expr}{t t':TE}(h:PE X e t)(hi:∀σ H Q,t' σ H Q->t σ H Q):PE X e t':=λpins s σ H Q I hw=>h pins s σ H Q I (hi σ H Q hw)
theorem PT.imp{e:Expr}{t t':TT}(h:PT X e t)(hi:∀σ H Q,t' σ H Q->t σ H Q):PT X e t':=λpins s σ H Q I hw=>h pins s σ H Q I (hi σ H Q hw)
theorem PW.imp{e:Expr}{t t':TT}(h:PW X e t)(hi:∀σ H Q,t' σ H Q->t σ H Q):PW X e t':=λwh pins s σ H Q I hw=>h wh pins s σ H Q I (hi σ H Q hw)
theorem PA.imp{es:aw}{t t':TA}(h:PA X es t)(hi:∀σ H Q,t' σ H Q->t σ H Q):PA X es t':=λpos pins s σ H Q I hw=>h pos pins s σ H Q I (hi σ H Q hw)
variable {st:Stmt}
theorem PS.imp{t t':TS}(h:PS X st t)(hi:∀D σ H,t' D σ H->t D σ H):PS X st t':=λpins s σ H D I hw=>h pins s σ H D I (hi D σ H hw)
theorem lh.imp{st:bj}{t t':TS}(h:lh X st t)(hi:∀D σ H,t' D σ H->t D σ H):lh X st t':=λpins s σ H D I hw=>h pins s σ H D I (hi D σ H hw)
theorem mi:∀(as bs:aa),dG as bs=true ↔ as.length=bs.length/\∀(j:Nat) (a b:D),as[j]?=some a->bs[j]?=some b->jy a b=true
 |[],[]=>by simp[dG]
 |[],b::bs=>by simp[dG]
 |a::as,[]=>by simp[dG]
 |a::as,b::bs=>by
  rw[dG,Bool.and_eq_true,mi as bs];constructor
  ·rintro ⟨h1,h2,h3⟩;refine⟨by simp[h2],λj x y hx hy=>?_⟩;cases j with
   |zero=>simp at hx hy;subst hx hy;exact h1
   |succ j=>exact h3 j x y (by simpa using hx) (by simpa using hy)
  ·rintro ⟨h2,h3⟩;exact⟨h3 0 a b rfl rfl,by simpa using h2,λj x y hx hy=>h3 (j+1) x y (by simpa using hx) (by simpa using hy)⟩
def My(as bs:aa)(j:Nat):Bool:=match as[j]?,bs[j]? with
 |some a,some b=>jy a b
 |_,_=>false
theorem iI(as bs:aa):((List.range (min as.length bs.length)).all (My as bs)&&as.length==bs.length)=dG as bs:=by
 rw[Bool.eq_iff_iff,mi,Bool.and_eq_true,List.all_eq_true,beq_iff_eq];constructor
 ·rintro ⟨h1,h2⟩;refine⟨h2,λj a b ha hb=>?_⟩;have hj:j<as.length:=by
   by_cases h:j<as.length
   ·exact h
   ·rw[List.getElem?_eq_none (by left)]at ha;cases ha
  have:=h1 j (by rw[List.mem_range];left);unfold My at this;rw[ha,hb]at this;exact this
 ·rintro ⟨h2,h1⟩;refine⟨λj hj=>?_,h2⟩;rw[List.mem_range]at hj;unfold My;have ha:as[j]?=some as[j]:=Xq (by left);have hb:bs[j]?=some bs[j]:=Xq (by left);rw[ha,hb];exact h1 j _ _ ha hb
section
variable {X:Cx}{pins:ah}{σ:St}{H:Hp}{s:Shared}{N N':gu}
theorem dY{n:Nat}(h:df n (.tup ds)=true):∃m,n=m+1/\∀d∈ds,df m d=true:=by
 cases n with
 |zero=>cases h
 |succ m=>exact⟨m,rfl,List.all_eq_true.mp h⟩
theorem dZ{n:Nat}(h:df n (.lst f ds)=true):∃m,n=m+1/\∀d∈ds,df m d=true:=by
 cases n with
 |zero=>cases h
 |succ m=>exact⟨m,rfl,List.all_eq_true.mp h⟩
theorem uS(I:Inv X pins σ H s){p:Addr}(h:cI X.K H p xs)(h':aR X.K H p ys):False:=by
 obtain⟨aH,_,pl,_⟩:=I.list h;obtain⟨its',_,pt,_⟩:=I.tuple h';exact SeqAt.ne_of_list_tuple pl.isList pt rfl
theorem yq(I:Inv X pins σ H s)(hN:∀q p xs f,N q p (.l xs) f->cI X.K H p xs)(AS:∀q p xs f,N' q p (.l xs) f->cI X.K H p xs):
  ∀(n:Nat) {k k':bg} {v:V} {d d':D},Rep (aR X.K H) N k v d->Rep (aR X.K H) N' k' v d'->df n d=true->df n d'=true->jy d d'=true:=by
 intro n;induction n with
 |zero =>
  intro k k' v d d' h h' ho fB;cases h with
  |bN=>cases h';rfl
  |bl b=>cases h';exact YY b
  |int i=>cases h';exact YY i
  |tup _ _=>obtain⟨m,hm,_⟩:=dY ho;left
  |lst _ _=>obtain⟨m,hm,_⟩:=dZ ho;left
  |cu _ _=>simp[df]at ho
 |succ n ih =>
  have sub:∀{q q':bg} {xs:ae} {ds ds':aa},aA (aR X.K H) N q 0 xs ds->aA (aR X.K H) N' q' 0 xs ds'->(∀d∈ds,df n d=true)->(∀d∈ds',df n d=true)->dG ds ds'=true:=by
   intro q q' xs ds ds' r r' ho fB;rw[mi];refine⟨by rw[<- r.length,<- r'.length],λj a b ha hb=>?_⟩;obtain⟨v1,h1,r1⟩:=r.get ha;obtain⟨v2,h2,r2⟩:=r'.get hb;rw[h1]at h2;cases h2;exact ih r1 r2 (ho a (Xw ha)) (fB b (Xw hb))
  intro k k' v d d' h h' ho fB;cases h with
  |bN=>cases h';rfl
  |bl b=>cases h';exact YY b
  |int i=>cases h';exact YY i
  |tup h r =>
   obtain⟨m,hm,ho⟩:=dY ho;obtain rfl:n=m:=by left
   cases h' with
   |tup h' r' =>
    obtain⟨m,hm,fB⟩:=dY fB;obtain rfl:n=m:=by left
    obtain rfl:=I.nr h h';exact sub r r' ho fB
   |lst h' r'=>exact(uS I (AS _ _ _ _ h') h).elim
   |cu _ _=>simp[df]at fB
  |lst h r =>
   obtain⟨m,hm,ho⟩:=dZ ho;obtain rfl:n=m:=by left
   cases h' with
   |tup h' r'=>exact(uS I (hN _ _ _ _ h) h').elim
   |lst h' r' =>
    obtain⟨m,hm,fB⟩:=dZ fB;obtain rfl:n=m:=by left
    obtain rfl:=I.gI (hN _ _ _ _ h) (AS _ _ _ _ h');exact sub r r' ho fB
   |cu _ _=>simp[df]at fB
  |cu _ _=>simp[df]at ho
structure Alike(A:av)(s:Shared)(u u':Value)(b:Bool):Prop where
 eq:SeqAt.EqAt A s u u' b
 rc:SeqAt.RcAt A s u u' b
 ne:SeqAt.RcNeAt A s u u' (!b)
theorem alike(I:Inv X pins σ H s)(hN:∀q p xs f,N q p (.l xs) f->cI X.K H p xs)(AS:∀q p xs f,N' q p (.l xs) f->cI X.K H p xs):
  ∀(n:Nat) (A:av) {k k':bg} {v v':V} {u u':Value} {d d':D},Rep (aR X.K H) N k v d->Rep (aR X.K H) N' k' v' d'->df n d=true->df n d'=true->RelV v u->RelV v' u'->A.units+n<cLine ->
   Alike A s u u' (jy d d'):=by
 intro n;induction n with
 |zero =>
  intro A k k' v v' u u' d d' h h' ho fB r r' hu;cases h with
  |tup _ _=>obtain⟨m,hm,_⟩:=dY ho;left
  |lst _ _=>obtain⟨m,hm,_⟩:=dZ ho;left
  |cu _ _=>simp[df]at ho
  |bN =>
   cases r;cases h' with
   |tup _ _=>obtain⟨m,hm,_⟩:=dY fB;left
   |lst _ _=>obtain⟨m,hm,_⟩:=dZ fB;left
   |cu _ _=>simp[df]at fB
   |bN=>cases r';exact⟨YD _,SeqAt.RcAt.none_none,SeqAt.RcNeAt.none_none⟩
   |bl b=>cases r';exact⟨Y2 b,SeqAt.RcAt.none_bool b,SeqAt.RcNeAt.none_bool b⟩
   |int b=>obtain⟨t,rfl⟩:=r';exact⟨Y_ b t,SeqAt.RcAt.none_int b t,SeqAt.RcNeAt.none_int b t⟩
  |bl a =>
   cases r;cases h' with
   |tup _ _=>obtain⟨m,hm,_⟩:=dY fB;left
   |lst _ _=>obtain⟨m,hm,_⟩:=dZ fB;left
   |cu _ _=>simp[df]at fB
   |bN=>cases r';exact⟨Y3 a,SeqAt.RcAt.bool_none a,SeqAt.RcNeAt.bool_none a⟩
   |bl b=>cases r';exact⟨Y4 a b,SeqAt.RcAt.bool_bool a b,SeqAt.RcNeAt.bool_bool a b⟩
   |int b=>obtain⟨t,rfl⟩:=r';exact⟨Za a b t,SeqAt.RcAt.bool_int a b t,SeqAt.RcNeAt.bool_int a b t⟩
  |int a =>
   obtain⟨t',rfl⟩:=r;cases h' with
   |tup _ _=>obtain⟨m,hm,_⟩:=dY fB;left
   |lst _ _=>obtain⟨m,hm,_⟩:=dZ fB;left
   |cu _ _=>simp[df]at fB
   |bN=>cases r';exact⟨Zb a t',SeqAt.RcAt.int_none a t',SeqAt.RcNeAt.int_none a t'⟩
   |bl b=>cases r';exact⟨Zc a t' b,SeqAt.RcAt.int_bool a t' b,SeqAt.RcNeAt.int_bool a t' b⟩
   |int b=>obtain⟨t,rfl⟩:=r';exact⟨YH a t' b t,SeqAt.RcAt.int_int a t' b t,SeqAt.RcNeAt.int_int a t' b t⟩
 |succ n ih =>
  intro A k k' v v' u u' d d' h h' ho fB r r' hu;have eC:A.units<cLine:=by left
  have P2:A.in1.units+n<cLine:=by show A.units+1+n<cLine;left
  have sub:∀{q q':bg} {xs xs':ae} {ds ds':aa} {aH its':ag},aA (aR X.K H) N q 0 xs ds->aA (aR X.K H) N' q' 0 xs' ds'->(∀d∈ds,df n d=true)->(∀d∈ds',df n d=true)->Vals xs aH->Vals xs' its' ->
    ∀(j:Nat) (h1:j<aH.toArray.size) (h2:j<its'.toArray.size),SeqAt.EqAt A.in1 s aH.toArray[j] its'.toArray[j] (My ds ds' j):=by
   intro q q' xs xs' ds ds' aH its' rs sX hd He rv xG j h1 h2;have l1:ds.length=aH.length:=by rw[<- rs.length,rv.length]
   have l2:ds'.length=its'.length:=by rw[<- sX.length,xG.length]
   simp only[List.size_toArray]at h1 h2;have ea:ds[j]?=some ds[j]:=Xq (by left);have eb:ds'[j]?=some ds'[j]:=Xq (by left);obtain⟨w1,g1,p1⟩:=rs.get ea;obtain⟨w2,g2,p2⟩:=sX.get eb;obtain⟨u1,k1,z1⟩:=rv.get g1;obtain⟨u2,k2,z2⟩:=xG.get g2;have:=(ih A.in1 p1 p2 (hd _ (XF _)) (He _ (XF _)) z1 z2 P2).eq;unfold My;rw[ea,eb];rw[List.getElem?_eq_getElem h1]at k1;rw[List.getElem?_eq_getElem h2]at k2;cases k1;cases k2;simpa using this
  cases h with
  |bN =>
   cases r;cases h' with
   |cu _ _=>simp[df]at fB
   |bN=>cases r';exact⟨YD _,SeqAt.RcAt.none_none,SeqAt.RcNeAt.none_none⟩
   |bl b=>cases r';exact⟨Y2 b,SeqAt.RcAt.none_bool b,SeqAt.RcNeAt.none_bool b⟩
   |int b=>obtain⟨t,rfl⟩:=r';exact⟨Y_ b t,SeqAt.RcAt.none_int b t,SeqAt.RcNeAt.none_int b t⟩
   |tup h' rr=>cases r';obtain⟨aH,_,pt,_⟩:=I.tuple h';exact⟨SeqAt.EqAt.none_tuple pt eC,SeqAt.RcAt.none_tuple pt eC,SeqAt.RcNeAt.none_tuple pt eC⟩
   |lst h' rr=>cases r';obtain⟨aH,_,pt,_⟩:=I.list (AS _ _ _ _ h');exact⟨SeqAt.EqAt.none_list pt.isList eC,SeqAt.RcAt.none_list pt.isList eC,SeqAt.RcNeAt.none_list pt.isList eC⟩
  |bl a =>
   cases r;cases h' with
   |cu _ _=>simp[df]at fB
   |bN=>cases r';exact⟨Y3 a,SeqAt.RcAt.bool_none a,SeqAt.RcNeAt.bool_none a⟩
   |bl b=>cases r';exact⟨Y4 a b,SeqAt.RcAt.bool_bool a b,SeqAt.RcNeAt.bool_bool a b⟩
   |int b=>obtain⟨t,rfl⟩:=r';exact⟨Za a b t,SeqAt.RcAt.bool_int a b t,SeqAt.RcNeAt.bool_int a b t⟩
   |tup h' rr=>cases r';obtain⟨aH,_,pt,_⟩:=I.tuple h';exact⟨SeqAt.EqAt.bool_tuple a pt eC,SeqAt.RcAt.bool_tuple a pt eC,SeqAt.RcNeAt.bool_tuple a pt eC⟩
   |lst h' rr=>cases r';obtain⟨aH,_,pt,_⟩:=I.list (AS _ _ _ _ h');exact⟨SeqAt.EqAt.bool_list a pt.isList eC,SeqAt.RcAt.bool_list a pt.isList eC,SeqAt.RcNeAt.bool_list a pt.isList eC⟩
  |int a =>
   obtain⟨t',rfl⟩:=r;cases h' with
   |cu _ _=>simp[df]at fB
   |bN=>cases r';exact⟨Zb a t',SeqAt.RcAt.int_none a t',SeqAt.RcNeAt.int_none a t'⟩
   |bl b=>cases r';exact⟨Zc a t' b,SeqAt.RcAt.int_bool a t' b,SeqAt.RcNeAt.int_bool a t' b⟩
   |int b=>obtain⟨t,rfl⟩:=r';exact⟨YH a t' b t,SeqAt.RcAt.int_int a t' b t,SeqAt.RcNeAt.int_int a t' b t⟩
   |tup h' rr=>cases r';obtain⟨aH,_,pt,_⟩:=I.tuple h';exact⟨SeqAt.EqAt.int_tuple a t' pt eC,SeqAt.RcAt.int_tuple a t' pt eC,SeqAt.RcNeAt.int_tuple a t' pt eC⟩
   |lst h' rr=>cases r';obtain⟨aH,_,pt,_⟩:=I.list (AS _ _ _ _ h');exact⟨SeqAt.EqAt.int_list a t' pt.isList eC,SeqAt.RcAt.int_list a t' pt.isList eC,SeqAt.RcNeAt.int_list a t' pt.isList eC⟩
  | @tup _ p xs ds h rs =>
   cases r;obtain⟨aH,rv,pt,_⟩:=I.tuple h;have pt:s.heap.IsTuple p aH.toArray:=pt;cases h' with
   |cu _ _=>simp[df]at fB
   |bN=>cases r';exact⟨SeqAt.EqAt.tuple_none pt eC,SeqAt.RcAt.tuple_none pt eC,SeqAt.RcNeAt.tuple_none pt eC⟩
   |bl b=>cases r';exact⟨SeqAt.EqAt.tuple_bool b pt eC,SeqAt.RcAt.tuple_bool b pt eC,SeqAt.RcNeAt.tuple_bool b pt eC⟩
   |int b=>obtain⟨t,rfl⟩:=r';exact⟨SeqAt.EqAt.tuple_int b t pt eC,SeqAt.RcAt.tuple_int b t pt eC,SeqAt.RcNeAt.tuple_int b t pt eC⟩
   |lst h' rr=>cases r';obtain⟨its',_,pl,_⟩:=I.list (AS _ _ _ _ h');exact⟨SeqAt.EqAt.tuple_list pt pl.isList eC,SeqAt.RcAt.tuple_list pt pl.isList eC,SeqAt.RcNeAt.tuple_list pt pl.isList eC⟩
   | @tup _ p' xs' ds' h' sX =>
    cases r';obtain⟨m,hm,Jg⟩:=dY ho;obtain rfl:n=m:=by left
    obtain⟨m,hm,o4⟩:=dY fB;obtain rfl:n=m:=by left
    obtain⟨its',xG,Nl,_⟩:=I.tuple h';have Nl:s.heap.IsTuple p' its'.toArray:=Nl;have key:=sub rs sX Jg o4 rv xG;have l1:ds.length=aH.toArray.size:=by rw[List.size_toArray,<- rs.length,rv.length]
    have l2:ds'.length=its'.toArray.size:=by rw[List.size_toArray,<- sX.length,xG.length]
    have rc:SeqAt.RcAt A s (.ref p) (.ref p') (jy (.tup ds) (.tup ds')):=by
     have:=SeqAt.RcAt.tuples pt Nl eC key;rw[<- l1,<- l2,iI]at this;exact this
    refine⟨?_,rc,?_⟩
    ·by_cases hp:p=p'
     ·subst hp;rw[yq I hN AS (n+1) (Rep.tup h rs) (Rep.tup h' sX) ho fB];exact YD _
     ·exact SeqAt.EqAt.of_refs hp rc
    ·have:=SeqAt.RcNeAt.tuples pt Nl eC key;rw[<- l1,<- l2,iI]at this;exact this
  | @lst _ p xs f ds h rs =>
   cases r;obtain⟨aH,rv,pl,_⟩:=I.list (hN _ _ _ _ h);have pl:=pl.isList;cases h' with
   |cu _ _=>simp[df]at fB
   |bN=>cases r';exact⟨SeqAt.EqAt.list_none pl eC,SeqAt.RcAt.list_none pl eC,SeqAt.RcNeAt.list_none pl eC⟩
   |bl b=>cases r';exact⟨SeqAt.EqAt.list_bool b pl eC,SeqAt.RcAt.list_bool b pl eC,SeqAt.RcNeAt.list_bool b pl eC⟩
   |int b=>obtain⟨t,rfl⟩:=r';exact⟨SeqAt.EqAt.list_int b t pl eC,SeqAt.RcAt.list_int b t pl eC,SeqAt.RcNeAt.list_int b t pl eC⟩
   |tup h' rr=>cases r';obtain⟨its',_,pt,_⟩:=I.tuple h';exact⟨SeqAt.EqAt.list_tuple pl pt eC,SeqAt.RcAt.list_tuple pl pt eC,SeqAt.RcNeAt.list_tuple pl pt eC⟩
   | @lst _ p' xs' f' ds' h' sX =>
    cases r';obtain⟨m,hm,Jg⟩:=dZ ho;obtain rfl:n=m:=by left
    obtain⟨m,hm,o4⟩:=dZ fB;obtain rfl:n=m:=by left
    obtain⟨its',xG,D7,_⟩:=I.list (AS _ _ _ _ h');have D7:=D7.isList;have key:=sub rs sX Jg o4 rv xG;have l1:ds.length=aH.toArray.size:=by rw[List.size_toArray,<- rs.length,rv.length]
    have l2:ds'.length=its'.toArray.size:=by rw[List.size_toArray,<- sX.length,xG.length]
    have two:SeqAt.RcAt A s (.ref p) (.ref p') (jy (.lst f ds) (.lst f' ds'))/\SeqAt.RcNeAt A s (.ref p) (.ref p') (!jy (.lst f ds) (.lst f' ds')):=by
     show SeqAt.RcAt A s (.ref p) (.ref p') (dG ds ds')/\SeqAt.RcNeAt A s (.ref p) (.ref p') (!dG ds ds');rw[<- iI];by_cases hl:ds.length=ds'.length
     ·have e1:(ds.length==ds'.length)=true:=by simp[hl]
      rw[e1,Bool.and_true,<- hl,Nat.min_self];have hz:aH.toArray.size=its'.toArray.size:=by rw[<- l1,<- l2,hl]
      refine⟨?_,?_⟩
      ·have:=SeqAt.RcAt.lists pl D7 hz eC key;rw[<- l1]at this;exact this
      ·have:=SeqAt.RcNeAt.lists pl D7 hz eC key;rw[<- l1]at this;exact this
     ·have e1:(ds.length==ds'.length)=false:=by simp[hl]
      rw[e1,Bool.and_false];have hz:(aH.toArray.size != its'.toArray.size)=true:=by rw[<- l1,<- l2];simp[hl]
      exact⟨SeqAt.RcAt.lists_lengths pl D7 hz eC,SeqAt.RcNeAt.lists_lengths pl D7 hz eC⟩
    refine⟨?_,two.1,two.2⟩;by_cases hp:p=p'
    ·subst hp;rw[yq I hN AS (n+1) (Rep.lst h rs) (Rep.lst h' sX) ho fB];exact YD _
    ·exact SeqAt.EqAt.of_refs hp two.1
  |cu _ _=>simp[df]at ho
end
structure Px where
 pe:Nat->Scope->ao->Expr->Option (aw)
 pi:Nat->Scope->ao->Expr->Option (aw)
 pm:Nat->Scope->ao->Stmt->Option (Expr×aw)
structure Sx where
 sc:Scope
 N:ao
 fn:Nat->Option Str
 bl:ao
 cs:List (Str×GK)
 px:Px
noncomputable def K3:DK->Operator
 |.add=>.Add|.sub=>.Sub|.mul=>.Mult|.fdiv=>.FloorDiv|.mod=>.Mod|.pow=>.Pow|.shl=>.LShift|.shr=>.RShift|.band=>.BitAnd
noncomputable def Pa:xQ->CmpOp
 |.eq=>.Eq|.ne=>.NotEq|.lt=>.Lt|.le=>.LtE|.gt=>.Gt|.ge=>.GtE|.Ct=>.In
noncomputable def tyName:Ty->String
 |.int=>"int" |.bool=>"bool" |.list=>"list" |.tuple=>"tuple"
noncomputable def pO:Bf->String
 |.len=>"len" |.abs=>"abs" |.list1=>"list" |.tuple1=>"tuple" |.lD=>"sum" |.all1=>"all" |.fN=>"sorted"
noncomputable def EY(sc:Scope)(x:Str):Bool:=decide (sc.names.lookup x=some .local)||decide (sc.names.lookup x=some .cell)||decide (sc.names.lookup x=some .free)
noncomputable def gM(sc:Scope)(x:Str):Bool:=decide (sc.names.lookup x=some .globalImplicit)
noncomputable def mW(x:Str):Bool:=!(x==("__debug__" : Str))&&!(x==("__classdict__" : Str))&&decide (x≠("__name__" : Str))
noncomputable def nI:Expr->Bool
 |.Set _ _ _=>false
 |_=>true
noncomputable def qz(sc outer:Scope):Scope :=
 { sc with names:=sc.names.map λ(n,k)=>if (k==.free&&outer.kind==.function&&outer.names.lookup n==some .cell)then(n,.cell)else(n,k) }
noncomputable def bL:Expr->ao
 |.Name x _=>[x]
 |.Tuple es _ _=>es.filterMap λe=>match e with|.Name x _=>some x|_=>none
 |_=>[]
noncomputable def fh(S:Sx)(caps:aK):ao:=caps.filterMap λi=>S.N[i]?
def Sx.inner(S:Sx)(target:Expr)(caps:aK)(sc:Scope):Sx:=⟨qz sc S.sc,bL target++fh S caps,S.fn,S.bl,S.cs,S.px⟩
noncomputable def ff:Expr->Bool
 |.Tuple _ _ _=>true
 |_=>false
noncomputable def isNm:Expr->Bool
 |.Name _ _=>true
 |_=>false
noncomputable def UX:Expr->Bool
 |.Call ..=>true
 |.BinOp ..=>true
 |.Subscript ..=>true
 |.Compare ..=>true
 |.Dict ..=>true
 |_=>false
noncomputable def Nq:Expr->Bool
 |.Call ..=>true
 |.Name ..=>true
 |_=>false
theorem aJ{a b:Bool}(h:(a&&b)=true):a=true/\b=true:=by
 cases a<;>cases b<;>first|exact⟨rfl,rfl⟩|cases h
noncomputable def br{α:Type}(o:Option α)(f:α->Bool):Bool:=match o with
 |some a=>f a
 |none=>false
theorem bu{α:Type}{o:Option α}{f:α->Bool}(h:br o f=true):∃a,o=some a/\f a=true:=by
 cases o with
 |some a=>exact⟨a,rfl,h⟩
 |none=>cases h
noncomputable def vC:Expr->Option Const
 |.Constant c _ _=>some c
 |_=>none
theorem x3{e:Expr}{c:Const}(h:vC e=some c):∃j p,e=.Constant c j p:=by
 cases e<;>first | (cases h;done) | (cases h;exact⟨_,_,rfl⟩)
noncomputable def zE:Const->Bool
 |.none=>true
 |_=>false
theorem wJ{c:Const}(h:zE c=true):c=.none:=by cases c<;>first|rfl|cases h
noncomputable def Eh(b:Bool):Const->Bool
 |.bool c=>decide (b=c)
 |_=>false
theorem zG{b:Bool}{c:Const}(h:Eh b c=true):c=.bool b:=by cases c<;>first | (cases h;done)|rw[of_decide_eq_true h]
noncomputable def zF(b:Int):Const->Bool
 |.int c=>decide (b=c)
 |_=>false
theorem wK{b:Int}{c:Const}(h:zF b c=true):c=.int b:=by cases c<;>first | (cases h;done)|rw[of_decide_eq_true h]
noncomputable def Bd:Expr->Option Str
 |.Name x _=>some x
 |_=>none
theorem jD{e:Expr}{x:Str}(h:Bd e=some x):∃p,e=.Name x p:=by
 cases e<;>first | (cases h;done) | (cases h;exact⟨_,rfl⟩)
noncomputable def JR:Expr->Option (Expr×Operator×Expr)
 |.BinOp l o r _=>some (l,o,r)
 |_=>none
theorem Bl{e l r:Expr}{o:Operator}(h:JR e=some (l,o,r)):∃p,e=.BinOp l o r p:=by
 cases e<;>first | (cases h;done) | (cases h;exact⟨_,rfl⟩)
noncomputable def Oh:Expr->Option (UnaryOp×Expr)
 |.UnaryOp o e _=>some (o,e)
 |_=>none
theorem xY{e x:Expr}{o:UnaryOp}(h:Oh e=some (o,x)):∃p,e=.UnaryOp o x p:=by
 cases e<;>first | (cases h;done) | (cases h;exact⟨_,rfl⟩)
noncomputable def vBool:Expr->Option (BoolOp×aw)
 |.BoolOp o vs _=>some (o,vs)
 |_=>none
theorem p9{e:Expr}{o:BoolOp}{vs:aw}(h:vBool e=some (o,vs)):∃p,e=.BoolOp o vs p:=by
 cases e<;>first | (cases h;done) | (cases h;exact⟨_,rfl⟩)
noncomputable def one{α:Type}:List α->Option α
 |[]=>none
 |x::xs=>match xs with
  |[]=>some x
  |_::_=>none
theorem cx{α:Type}{l:List α}{x:α}(h:one l=some x):l=[x]:=by
 cases l with
 |nil=>cases h
 |cons y ys=>cases ys with
  |nil=>cases h;rfl
  |cons _ _=>cases h
def two{α:Type}:List α->Option (α×α)
 |[]=>none
 |x::xs=>(one xs).map λy=>(x,y)
theorem gx{α:Type}{l:List α}{x y:α}(h:two l=some (x,y)):l=[x,y]:=by
 cases l with
 |nil=>cases h
 |cons z zs=>cases zs with
  |nil=>cases h
  |cons w ws=>cases ws with
   |nil=>cases h;rfl
   |cons _ _=>cases h
noncomputable def Ol{α:Type}:List α->Option (α×List α)
 |[]=>none
 |x::xs=>some (x,xs)
theorem x6{α:Type}{l xs:List α}{x:α}(h:Ol l=some (x,xs)):l=x::xs:=by
 cases l with
 |nil=>cases h
 |cons y ys=>cases h;rfl
noncomputable def Bk:Expr->Option (Expr×List CmpOp×aw)
 |.Compare l os rs _=>some (l,os,rs)
 |_=>none
theorem uj{e l:Expr}{os:List CmpOp}{rs:aw}(h:Bk e=some (l,os,rs)):∃p,e=.Compare l os rs p:=by
 cases e<;>first | (cases h;done) | (cases h;exact⟨_,rfl⟩)
noncomputable def sG:Expr->Option (Expr×aw×List Keyword)
 |.Call f as ks _=>some (f,as,ks)
 |_=>none
variable {args as elts:aw}
theorem vY{e f:Expr}{ks:List Keyword}(h:sG e=some (f,as,ks)):∃p,e=.Call f as ks p:=by
 cases e<;>first | (cases h;done) | (cases h;exact⟨_,rfl⟩)
def dU(e:Expr):Option (Str×aw):=match sG e with
 |some (f,as,ks)=>match ks with
  |[]=>match Bd f with
   |some x=>some (x,as)
   |none=>none
  |_::_=>none
 |none=>none
theorem cP{e:Expr}{x:Str}(h:dU e=some (x,as)):∃p pos,e=.Call (.Name x p) as [] pos:=by
 unfold dU at h;cases hv:sG e with
 |none=>rw[hv]at h;cases h
 |some z =>
  obtain⟨f,N9,ks⟩:=z;rw[hv]at h;obtain⟨pos,rfl⟩:=vY hv;cases ks with
  |cons _ _=>cases h
  |nil =>
   cases hn:Bd f with
   |none=>replace h:(match Bd f with|some x=>some (x,N9)|none=>none)=some (x,as):=h;rw[hn]at h;cases h
   |some y =>
    replace h:(match Bd f with|some x=>some (x,N9)|none=>none)=some (x,as):=h;rw[hn]at h;obtain⟨p,rfl⟩:=jD hn;cases h;exact⟨p,pos,rfl⟩
noncomputable def jC:Expr->Option (Expr×Expr)
 |.Subscript a b _=>some (a,b)
 |_=>none
theorem i0{e a b:Expr}(h:jC e=some (a,b)):∃p,e=.Subscript a b p:=by
 cases e<;>first | (cases h;done) | (cases h;exact⟨_,rfl⟩)
noncomputable def vX:Expr->Option (aw)
 |.Tuple es _ _=>some es
 |_=>none
theorem iZ{e:Expr}{es:aw}(h:vX e=some es):∃n p,e=.Tuple es n p:=by
 cases e<;>first | (cases h;done) | (cases h;exact⟨_,_,rfl⟩)
noncomputable def JN:Expr->Option (aw)
 |.List es _=>some es
 |_=>none
theorem Be{e:Expr}{es:aw}(h:JN e=some es):∃p,e=.List es p:=by
 cases e<;>first | (cases h;done) | (cases h;exact⟨_,rfl⟩)
noncomputable def DN:Expr->Option (Expr×List Comprehension×Scope)
 |.ListComp e gs sc _=>some (e,gs,sc)
 |_=>none
theorem xZ{e x:Expr}{gs:List Comprehension}{sc:Scope}(h:DN e=some (x,gs,sc)):∃p,e=.ListComp x gs sc p:=by
 cases e<;>first | (cases h;done) | (cases h;exact⟨_,rfl⟩)
theorem j5{a:Bool}(h:(!a)=true):a=false:=by cases a<;>first|rfl|cases h
def pH(S:Sx)(n:Nat)(t:Tg)(caps:aK)(target:Expr)(sc:Scope):Bool :=
 decide (sc.kind=.function)&&sc.names.all (λ(x,k)=>decide (k≠.cell)&&(decide (k≠.local)||decide (sc.names.lookup x=some .local))&&(decide (k≠.free)||decide (S.sc.names.lookup x=some .cell)||decide (S.sc.names.lookup x=some .free))) &&
 decide (n=(bL target).length)&&(bL target).all (λx=>decide (sc.names.lookup x=some .local))&&decide (bL target++fh S caps).Nodup &&
 caps.all (λi=>match S.N[i]? with|some x=>decide (sc.names.lookup x=some .free)|none=>false) &&
 (match t with
  |.nm i=>decide (i=0)&&isNm target
  |.tp is=>br (vX target) λes=>decide (is=List.range es.length)&&es.all isNm)
mutual
noncomputable def cf(S:Sx):CE->Expr->Bool
 |.cL p es,e0=>UX e0&&br (S.px.pe p S.sc S.bl e0) λxs=>bI S es xs
 |.bN,e0=>br (vC e0) λc=>zE c
 |.bl b,e0=>br (vC e0) λc=>Eh b c
 |.int i,e0=>br (vC e0) λc=>zF i c
 |.v i,e0=>br (Bd e0) λx=>decide (S.N[i]?=some x)&&EY S.sc x&&mW x
 |.glo x i,e0=>br (Bd e0) λy=>decide (y=x)&&gM S.sc x&&decide ((x,GK.i i)∈S.cs)&&!(x==("__debug__" : Str))
 |.glt x zs,e0=>br (Bd e0) λy=>decide (y=x)&&gM S.sc x&&decide ((x,GK.t zs)∈S.cs)&&!(x==("__debug__" : Str))
 |.bin op a b,e0=>br (JR e0) λz=>decide (z.2.1=K3 op)&&cf S a z.1&&cf S b z.2.2
 |.neg a,e0=>br (Oh e0) λz=>decide (z.1=.USub)&&cf S a z.2
 |.not a,e0=>br (Oh e0) λz=>decide (z.1=.Not)&&cf S a z.2
 |.and es,e0=>br (vBool e0) λz=>decide (z.1=.And)&&bI S es z.2
 |.or es,e0=>br (vBool e0) λz=>decide (z.1=.Or)&&bI S es z.2
 |.cmp op a b,e0=>br (Bk e0) λz=>decide (z.2.1=[Pa op])&&cf S a z.1&&br (one z.2.2) λr=>cf S b r&&nI r
 |.pY a t,e0=>br (dU e0) λz=>decide (z.1=("isinstance" : Str))&&gM S.sc z.1&&decide (z.1∈S.bl)&&br (two z.2) λy=>cf S a y.1&&br (Bd y.2) λx=>decide (x=(tyName t:Str))&&gM S.sc x&&decide (x∈S.bl)
 |.call f es,e0=>br (dU e0) λz=>decide (S.fn f=some z.1)&&gM S.sc z.1&&mW z.1&&br (Ol z.2) λy=>bI S es (y.1::y.2)
 |.bf f es,e0=>br (dU e0) λz=>decide (z.1=(pO f:Str))&&gM S.sc z.1&&decide (z.1∈S.bl)&&br (Ol z.2) λy=>bI S es (y.1::y.2)
 |.iF a,e0=>br (dU e0) λz=>decide (z.1=("len" : Str))&&gM S.sc z.1&&decide (z.1∈S.bl)&&br (one z.2) λy=>br (dU y) λw=>decide (w.1=("set" : Str))&&gM S.sc w.1&&decide (w.1∈S.bl)&&br (one w.2) λu=>cf S a u
 |.ix a b,e0=>br (jC e0) λz=>cf S a z.1&&cf S b z.2
 |.tup es,e0=>br (vX e0) λxs=>bI S es xs&&decide (es.length<=1000)
 |.lst es,e0=>br (JN e0) λxs=>bI S es xs&&decide (es.length<=1000)
 |.comp n t caps ik es bC elt,e0=>br (DN e0) λz=>br (one z.2.1) λg=>decide (g.is_async=0)&&pH S n t caps g.target z.2.2&&nI g.iter&&decide (bC.length<=1)&&bI (S.inner g.target caps z.2.2) bC g.ifs&&cf (S.inner g.target caps z.2.2) elt z.1 &&
     (match ik with
      |.kI=>br (dU g.iter) λw=>decide (w.1=("range" : Str))&&gM S.sc w.1&&decide (w.1∈S.bl)&&br (one w.2) λy=>bI S es [y]
      |.seq=>bI S es [g.iter]
      |.cL p=>Nq g.iter&&(decide (1100<=p)||ff g.target)&&br (S.px.pi p S.sc S.bl g.iter) λxs=>bI S es xs)
noncomputable def bI(S:Sx):aD->aw->Bool
 |[],es=>match es with
  |[]=>true
  |_::_=>false
 |c::cs,es=>match es with
  |[]=>false
  |e::es=>cf S c e&&bI S cs es
end
def Bu(K:ai)(n:Nat)(m:aG):Sp:=λvs H Q _=>∃(F:af) (ds:aa) (r:D),vs.length=n/\aA (aR K H) (nd K F (λ_=>False) (λ_=>none) H) [] 0 vs ds/\m ds=ok r /\
 ∀v H',aF H H'->(∃τt:Addr->Option bg,(∀p q,τt p=some q->H p=none)/\Rep (aR K H') (nd K (λp=>F p\/H p=none) (λ_=>False) τt H') [] v r)->Q v H'
structure II(X:Cx)(k:Nat)(x:Str)(m:aG):Prop where
 ex:∃(f:Addr) (fd:FuncData) (ps:ao),ie X.prog X.w X.K X.mg X.base xP k f fd ps (Bu X.K ps.length m)/\X.mg x=some (.ref f)/\PySem.W.keepIn X.K (.ref f)=true/\Binds X.K fd ps []/\∀ds r,m ds=ok r->ds.length=ps.length
noncomputable def kinds:List String:=["NoneType","bool","int","str","list","tuple","dict"]
def LA:Ty->String->Bool
 |.int,s=>s == "int" ||s == "bool"
 |t,s=>s==tyName t
theorem aF.upd{H:Hp}{p:Addr}{o:HO}(h:H p=none):aF H (upd H p o):=λb u e=>by
 rw[aQ (by rintro rfl;rw[h]at e;cases e)];exact e
theorem qN{i j:Int}(h:eH i j=true):IntMulOk i j:=by
 unfold eH at h;simp only[Bool.or_eq_true,Bool.and_eq_true,decide_eq_true_eq]at h;rcases h with (h|h)|⟨h1,h2⟩
 ·exact .of_left (intBits_le h)
 ·exact .of_right (intBits_le h)
 ·have b1:Builtin.Int.intBits i<=9000:=intBits_le h1;have b2:Builtin.Int.intBits j<=9000:=intBits_le h2;unfold IntMulOk;have hb:Builtin.Int.intTooBig ((Builtin.Int.intBits i:Int)+(Builtin.Int.intBits j:Int))=false:=by
   unfold Builtin.Int.intTooBig;have:(bitsLine:Int)=134217728:=by decide
   exact XY (by left)
  rw[hb];simp
section
variable {K:ai}{R:af}{τ τt:Addr->Option bg}{fv:aK}{H H':Hp}
theorem Ca:iN X (binaryOp .Add) (λx y H Q=>∃a b xs ys,x=.ref a/\y=.ref b/\aR X.K H a xs/\aR X.K H b ys/\xs.length+ys.length<=sizeLine/\(xs=[]->Q (.ref b) H)/\(ys=[]->Q (.ref a) H)/\∀p,H p=none->Q (.ref p) (upd H p (.tup (xs++ys)))):=by
 intro pins s σ H x y v u Q I rx ry h;obtain⟨a,b,xs,ys,rfl,rfl,ha,hb,hz,q0,q1,q2⟩:=h;cases rx;cases ry;by_cases hx:xs=[]
 ·subst hx;obtain⟨aH,r1,p1,_⟩:=I.tuple ha;obtain⟨tw,r2,p2,_⟩:=I.tuple hb;cases r1;obtain⟨⟨cls,dd,data,sl⟩,ho,hc,n,hd⟩:=id p1;obtain⟨⟨Dm,vz,data2,uy⟩,o4,hc2,n2,hd2⟩:=id p2;simp only at hc hd hc2 hd2;subst hc hd hc2 hd2;exact concat_meets ⟨_,ho,rfl⟩ ⟨_,o4,rfl⟩ noFill_tuple_add seq_tuple_add YN YL (YI _ _)
   (tuple_addW0 a b [].toArray tw.toArray n n2 dd vz sl uy rfl) ⟨ho,o4,⟨.ref b,H,I,rfl,q0 rfl⟩⟩
 ·exact B_ pins s σ H (.ref a) (.ref b) _ _ Q I rfl rfl ⟨a,b,xs,ys,rfl,rfl,ha,hb,hx,hz,q1,λ_=>q2⟩
theorem nd.l8(k k':bg)(p:Addr)(xs:Nd)(f:Fl)(h:nd K R A (λ_=>none) H k p xs f):nd K R A (λ_=>none) H k' p xs f:=by
 cases f with
 |ow=>exact nomatch h.2
 |fz=>exact h
 |al=>exact h
 |sc=>exact h
theorem K9(Si:SI X F R τ ρ σ H)(fr:∀p q,τt p=some q->H p=none)(k k':bg)(p:Addr)(xs:Nd)(f:Fl)(h:nd K R (iL (gP X F) τ fv) τt H' k p xs f):
  nd K R (iL (gP X F) τ fv) (λ_=>none) H' k' p xs (bD f):=by
 cases f with
 |ow=>exact⟨h.1,.inr (Si.same.free (fr p _ h.2)),λc i e=>absurd (fr p _ h.2) (Si.th p _ e)⟩
 |fz=>exact h
 |al=>exact h
 |sc=>exact h
theorem aA.dX{k:bg}{n:Nat}(h:aA (aR K H') (nd K R (iL (gP X F) τ fv) τt H') k n xs ds)(Si:SI X F R τ ρ σ H)(fr:∀p q,τt p=some q->H p=none){n':Nat}:
  aA (aR K H') (nd K R (iL (gP X F) τ fv) (λ_=>none) H') k' n' xs (aB bD ds):=aA.gH (λ_ _ h=>h) (K9 Si fr) h _ _
theorem Rep.dX{k:bg}{v:V}{d:D}(h:Rep (aR K H') (nd K R (iL (gP X F) τ fv) τt H') k v d)(Si:SI X F R τ ρ σ H)(fr:∀p q,τt p=some q->H p=none):
  Rep (aR K H') (nd K R (iL (gP X F) τ fv) (λ_=>none) H') k' v (aW bD d):=Rep.gH (λ_ _ h=>h) (K9 Si fr) h _
theorem aA.rep{A:af}{xs:ae}{ds:aa}(h:aA (aR K H) (nd K R A (λ_=>none) H) [] 0 xs (aB bD ds)):∀n:Nat,aA (aR K H) (nd K R A (λ_=>none) H) [] 0 (List.replicate n xs).flatten (aB bD (List.replicate n ds).flatten)
 |0=>.nil
 |n+1=>by
  rw[List.replicate_succ,List.replicate_succ,List.flatten_cons,List.flatten_cons,aV,List.map_append,<- aV,<- aV];exact aA.k9 nd.l8 h (aA.rep h n)
theorem bJ.oR{p:Addr}(hp:H p=none)(e:aF H H')(hl:H' p=some (.lst xs))(r:aA (aR K H') (nd K R (iL G τ fv) (λ_=>none) H') [] 0 xs ds):bJ K G R τ fv H H' (.ref p) (.lst .ow ds):=by
 refine⟨λq=>if q=p then some []else none,λq k hq=>?_,.lst ⟨hl,by simp⟩ (r.imp (λ_ _ h=>h) λc q xs f h=>?_)⟩
 ·by_cases tI:q=p
  ·subst tI;exact hp
  ·simp[tI]at hq
 ·cases f with
  |ow=>exact nomatch h.2
  |fz=>exact h
  |al=>exact h
  |sc=>exact h
end
theorem Cn(K:ai):∀t:Ty,∀s∈kinds,PySem.W.kitOne K (.type s) (.type (tyName t))=some (LA t s):=by
 intro t s hs;simp only[kinds,List.mem_cons,List.not_mem_nil,or_false]at hs;cases t<;>rcases hs with rfl|rfl|rfl|rfl|rfl|rfl|rfl<;>rfl
structure PX(X:Cx)(sc:Scope)(bl:ao)(k:Nat):Prop where
 sc:X.env.scope=sc
 calm:X.calm=true
 room:fI k X.A
 bl:∀x∈bl,X.mg x=none
theorem PX.gl{sc:Scope}{bl:ao}{k:Nat}(L:PX X sc bl k){x:Str}(h:gM sc x=true):Gl X x:=by
 unfold Gl;show X.env.scope.names.lookup x=some .globalImplicit;rw[L.sc];exact Xh h
def lj(X:Cx)(F:af)(Φ:ba):aD->aw->Prop
 |[],[]=>True
 |c::cs,a::as=>PE X a (tD X F Φ c)/\(∀es,starEach (a::es) X.env=(false,eval a X.env)::starEach es X.env)/\lg a/\lj X F Φ cs as
 |_,_=>False
structure oi(K:ai)(H2:Hp)(vs:ae)(xs:aa)(H':Hp):Prop where
 n0:∃R0:af,aA (aR K H2) (nd K R0 (λ_=>False) (λ_=>none) H2) [] 0 vs (aB a_ xs)/\∀p o,R0 p->H2 p=some o->H' p=some o
 tp:∀a ys,aR K H2 a ys->aR K H' a ys
structure EJ(K:ai)(J:It)(H2:Hp)(vs:ae)(xs items:aa):Prop where
 go:∀i H' R',oi K H2 vs xs H'->aA (aR K H') (nd K R' (λ_=>False) (λ_=>none) H') [] 0 vs (aB a_ xs)->i<items.length->J.go i H'
 sh:∀i H' R' x kf,oi K H2 vs xs H'->aA (aR K H') (nd K R' (λ_=>False) (λ_=>none) H') [] 0 vs (aB a_ xs)->i<items.length->J.sh i H' x kf->aF H' kf/\∃d,items[i]?=some d/\Rep (aR K kf) (nd K R' (λ_=>False) (λ_=>none) kf) [] x d
 stop:∀i H' R',oi K H2 vs xs H'->aA (aR K H') (nd K R' (λ_=>False) (λ_=>none) H') [] 0 vs (aB a_ xs)->items.length<=i->J.stop i H'
structure uf(px:Px)(Φ:ba):Prop where
 e:∀(X:Cx) (sc:Scope) (bl:ao) (k:Nat),PX X sc bl k->∀(p:Nat) (e:Expr) (args:aw),px.pe p sc bl e=some args->∀(F:af) (cs:aD),lj X F Φ cs args->PE X e (tD X F Φ (.cL p cs))/\PT X e (f_ X F Φ (.cL p cs))
 i:∀(X:Cx) (sc:Scope) (bl:ao) (k:Nat),PX X sc bl k->∀(p:Nat) (e:Expr) (args:aw),px.pi p sc bl e=some args->∀(F:af) (cs:aD) (tg:Expr),(decide (1100<=p)||ff tg)=true->lj X F Φ cs args ->
  ∀(pins:ah) (s:Shared) (σ:St) (H:Hp) (R:af) (τ:Addr->Option bg) (ρ:aZ) (xs:aa) (d:D) (items:aa),Inv X pins σ H s->SI X F R τ ρ σ H->bV Φ cs ρ=ok xs->Φ p xs=ok d->kh d=ok items->∀Rr:It->Hp->Prop,
   (∀J H2 vs,aF H H2->bP X.K (gP X F) R τ (cA cs) H H2 vs xs->EJ X.K J H2 vs xs items->Rr J H2) ->
   wpAny (model X.prog X.w) X.A (eval e X.env) (λv s1=>wpAny (model X.prog X.w) X.A (pyIter v) (xE X pins σ tg Rr) X.xe s1) X.xe s
def AX(K:ai):GK->Value->Prop
 |.i i,u=>RelV (.int i) u
 |.t zs,u=>∃(a:Addr) (o:Obj) (aH:aN) (n:Nat),u=.ref a/\K.lookup a=some o/\o.cls=.type "tuple" /\ o.data=.seq aH n/\aH.size<=sizeLine/\Vals (zs.map V.int) aH.toList
structure Lk(X:Cx)(S:Sx)(k:Nat)(Φ:ba):Prop where
 sc:X.env.scope=S.sc
 N:X.N=S.N
 nd:X.N.Nodup
 calm:X.calm=true
 room:fI k X.A
 bl:∀x∈S.bl,X.mg x=none
 fn:∀f x,S.fn f=some x->II X k x (Φ f)
 cs:∀x i,(x,i)∈S.cs->∃u,X.mg x=some u/\AX X.K i u
 pr:uf S.px Φ
variable {S:Sx}{Φ:ba}
theorem Lk.pX{k:Nat}(L:Lk X S k Φ):PX X S.sc S.bl k:=⟨L.sc,L.calm,L.room,L.bl⟩
variable {Q:VK}{p' pos pos':Pos}
section
variable {X:Cx}{S:Sx}{k:Nat}{F:af}{Φ:ba}
theorem Lk.gl(L:Lk X S k Φ){x:Str}(h:gM S.sc x=true):Gl X x:=by
 unfold Gl;show X.env.scope.names.lookup x=some .globalImplicit;rw[L.sc];exact Xh h
theorem Lk.M7(L:Lk X S k Φ){x:Str}(h:EY S.sc x=true):IE X.env.scope x:=by
 unfold IE;rw[L.sc];unfold EY at h;rw[Bool.or_eq_true,Bool.or_eq_true]at h;rcases h with (h|h)|h
 ·exact .inl (Xh h)
 ·exact .inr (.inl (Xh h))
 ·exact .inr (.inr (Xh h))
theorem tD.intro{c:CE}{H:Hp}{R:af}{d:D}(Si:SI X F R τ ρ σ H)(e:bA Φ c ρ=ok d)(h:∀v H',aF H H'->bJ X.K (gP X F) R τ (h_ c) H H' v d->Q v H'):tD X F Φ c σ H Q:=⟨R,τ,ρ,d,Si,e,h⟩
theorem OJ(L:Lk X S k Φ){i:Nat}{x:Str}(h:cf S (.v i) (.Name x pos)=true):PE X (.Name x pos) (tD X F Φ (.v i)):=by
 replace h:=aJ h;replace h:=And.intro (aJ h.1) h.2;obtain⟨⟨h1,h2⟩,h3⟩:=h;unfold mW at h3;simp only[Bool.and_eq_true,Bool.not_eq_true']at h3;refine PE.imp (sZ (i:=i) (by rw[L.N];exact Xh h1) (L.M7 h2) h3.1.1 h3.1.2) λσ H Q hq=>?_;obtain⟨R,τ,ρ,d,Si,ev,hq⟩:=hq;obtain⟨d',hd,rfl⟩:=yo ev
 ·obtain⟨v,hv,hr⟩:=Si.rep i d' hd;refine⟨v,hv,hq v H (aF.refl H) ⟨λ_=>none,λ_ _ h=>by simp at h,?_⟩⟩;refine Rep.map (q:=[i]) (q':=[]) (λ_ _ h=>h) (λc p xs f h=>?_) hr [] rfl;cases f with
  |ow =>
   refine⟨h.1,.inr (Si.t0 p _ h.2),λc' j e=>?_⟩;rw[h.2]at e;have e':=Xv e;have:=X0 List.getLast? e';simp at this;show _∈[i];simp[this]
  |fz=>exact h
  |al=>exact h.2.elim
  |sc=>exact h
theorem fT{op:DK}{x y d:D}(LO:op≠.add/\op≠.mul)(h:cv op x y=ok d):∃i j,x=.int i/\y=.int j:=by
 cases x with
 |int i=>cases y with
  |int j=>exact⟨i,j,rfl,rfl⟩
  |_=>cases op<;>first|exact nk h | (simp at LO;done)
 |_=>cases op<;>first|exact nk h | (simp at LO;done)
theorem FC(L:Lk X S k Φ){op:DK}{a b:CE}{l r:Expr}(ha:PE X l (tD X F Φ a))(hb:PE X r (tD X F Φ b)):PE X (.BinOp l (K3 op) r pos) (tD X F Φ (.bin op a b)):=by
 have two:∀{σ:St} {H:Hp} {Q:VK} {r2:R2},(∃R τ ρ d,SI X F R τ ρ σ H/\bA Φ (.bin op a b) ρ=ok d/\(∀v H',aF H H'->bJ X.K (gP X F) R τ (h_ (.bin op a b)) H H' v d->Q v H') /\
   ∀x y v u H',cv op x y=ok d->aF H H'->bJ X.K (gP X F) R τ (h_ (.bin op a b)) H H' v x->bJ X.K (gP X F) R τ (h_ (.bin op a b)) H H' u y->r2 v u H' Q)->DU r2 (tD X F Φ a) (tD X F Φ b) σ H Q:=by
  rintro σ H Q r2 ⟨R,τ,ρ,d,Si,ev,hq,hr⟩;obtain⟨x,ex,ev⟩:=aE ev;obtain⟨y,ey,ev⟩:=aE ev;refine tD.intro Si ex λv H1 e1 r1=>tD.intro (Si.go e1) ey λu H2 e2 r2=>?_;exact hr x y v u H2 ev (e1.trans e2) ((r1.go e2).mono λi hi=>Xz _ hi) ((r2.old e1).mono λi hi=>Xr _ hi)
 have tF:∀{C:Int->Int->Prop} {g:Int->Int->Int},iN X (binaryOp (K3 op)) (rI C λi j=>.int (g i j))->(∀x y d,cv op x y=ok d->∃i j,x=.int i/\y=.int j/\C i j/\d=.int (g i j)) ->
   PE X (.BinOp l (K3 op) r pos) (tD X F Φ (.bin op a b)):=by
  intro C g ho hd;refine PE.imp (yU ho ha hb) λσ H Q hq=>?_;obtain⟨R,τ,ρ,d,Si,ev,hq⟩:=hq;refine two ⟨R,τ,ρ,d,Si,ev,hq,λx y v u H' eb e rv ru=>?_⟩;obtain⟨i,j,rfl,rfl,c,rfl⟩:=hd x y d eb;exact⟨i,j,rv.isInt,ru.isInt,c,hq _ H' e .int⟩
 cases op with
 |sub =>
  refine tF (C:=λ_ _=>True) (g:=λi j=>i - j) (D9 λ_ _ _ _ _ _ _ _ q=>sub_int q) λx y d h=>?_;obtain⟨i,j,rfl,rfl⟩:=fT (by simp) h;cases h;exact⟨_,_,rfl,rfl,trivial,rfl⟩
 |mod =>
  refine tF (C:=λ_ j=>j≠0) (g:=λi j=>i.fmod j) B9 λx y d h=>?_;obtain⟨i,j,rfl,rfl⟩:=fT (by simp) h;obtain⟨h1,h⟩:=mY h;subst h;exact⟨_,_,rfl,rfl,h1,rfl⟩
 |fdiv =>
  refine tF (C:=λ_ j=>nY j=true) (g:=λi j=>i.fdiv j) (D9 λi j _ _ _ _ _ hc q=>?_) λx y d h=>?_
  ·unfold nY at hc;rw[Bool.and_eq_true]at hc;have h1:j≠0:=Xh hc.1;have h2:j.natAbs<big:=Xh hc.2;exact floordiv_int h1 q (.inl (PyProof.noPylong_of_log2 ((Nat.log2_lt (by left)).mpr h2)))
  ·obtain⟨i,j,rfl,rfl⟩:=fT (by simp) h;obtain⟨h1,h⟩:=mY h;subst h;exact⟨_,_,rfl,rfl,h1,rfl⟩
 |pow =>
  refine tF (C:=λi j=>i9 i j=true) (g:=λi j=>i ^ j.toNat) (D9 λi j _ _ _ _ _ hc q=>?_) λx y d h=>?_
  ·unfold i9 at hc;simp only[Bool.and_eq_true,decide_eq_true_eq]at hc;exact pow_int_small hc.1.1 hc.1.2 hc.2 q
  ·obtain⟨i,j,rfl,rfl⟩:=fT (by simp) h;obtain⟨h1,h⟩:=mY h;subst h;exact⟨_,_,rfl,rfl,h1,rfl⟩
 |shl =>
  refine tF (C:=λi j=>i9 i j=true) (g:=λi j=>i*2 ^ j.toNat) (D9 λi j _ _ _ _ _ hc q=>?_) λx y d h=>?_
  ·unfold i9 at hc;simp only[Bool.and_eq_true,decide_eq_true_eq]at hc;exact lshift_int_small hc.1.1 hc.1.2 hc.2 q
  ·obtain⟨i,j,rfl,rfl⟩:=fT (by simp) h;obtain⟨h1,h⟩:=mY h;subst h;exact⟨_,_,rfl,rfl,h1,rfl⟩
 |shr =>
  refine tF (C:=λ_ j=>0<=j) (g:=λi j=>i / 2 ^ j.toNat) Gd λx y d h=>?_;obtain⟨i,j,rfl,rfl⟩:=fT (by simp) h;obtain⟨h1,h⟩:=mY h;subst h;exact⟨_,_,rfl,rfl,h1,rfl⟩
 |band =>
  refine tF (C:=λ_ j=>j=1) (g:=λi _=>i % 2) (D9 λi j _ _ _ _ _ hc q=>by subst hc;exact and_int (by rw[bitAnd_m1];exact q)) λx y d h=>?_;obtain⟨i,j,rfl,rfl⟩:=fT (by simp) h;obtain⟨h1,h⟩:=mY h;subst h;exact⟨_,_,rfl,rfl,h1,rfl⟩
 |mul =>
  have hi:iN X (binaryOp .Mult) (rI (λi j=>eH i j=true) λi j=>.int (i*j)):=D9 λi j _ _ _ _ _ hc q=>mul_int q (qN hc);refine PE.imp (yU (hi.or Ge) ha hb) λσ H Q hq=>?_;obtain⟨R,τ,ρ,d,Si,ev,hq⟩:=hq;refine two ⟨R,τ,ρ,d,Si,ev,hq,λx y v u H' eb e rv ru=>?_⟩;cases y with
  |int j =>
   cases x with
   |int i =>
    obtain⟨h1,eb⟩:=mY eb;subst eb;exact .inl ⟨i,j,rv.isInt,ru.isInt,h1,hq _ H' e .int⟩
   |lst f a =>
    obtain⟨hc,eb⟩:=mY eb
    ·subst eb;obtain⟨τt,fr,rp⟩:=rv;obtain⟨p,xs,rfl,hn,rs⟩:=rp.p4;have hz:sizeLine=16777216:=Yh;have m3:eO=1000000:=rfl;refine .inr ⟨p,j,xs,rfl,ru.isInt,hn.lst hc.1,by left,by left,by rw[rs.length];left,λp' tJ=>?_⟩;have es:aF H' (upd H' p' (.lst (List.replicate j.toNat xs).flatten)):=aF.upd tJ;refine hq _ _ (e.trans es) (bJ.oR (e.free tJ) (e.trans es) (aT) ?_);exact(aA.rep (rs.dX Si fr) j.toNat).imp (λ_ _ h=>aR.same es h) λ_ _ _ _ h=>nd.same es h
   |_=>cases eb
  |_=>cases x<;>cases eb
 |add =>
  refine PE.imp (yU ((Gi.or Gh).or Ca) ha hb) λσ H Q hq=>?_;obtain⟨R,τ,ρ,d,Si,ev,hq⟩:=hq;refine two ⟨R,τ,ρ,d,Si,ev,hq,λx y v u H' eb e rv ru=>?_⟩;have hz:sizeLine=16777216:=Yh;have m3:eO=1000000:=rfl;cases x with
  |int i =>
   cases y with
   |int j =>
    cases eb;exact .inl (.inl ⟨i,j,rv.isInt,ru.isInt,hq _ H' e .int⟩)
   |_=>cases eb
  |lst f a =>
   cases y with
   |lst g b =>
    obtain⟨hc,eb⟩:=mY eb
    ·subst eb;obtain⟨τt,fr,rp⟩:=rv;obtain⟨Of,Jt,OO⟩:=ru;obtain⟨p,xs,rfl,hn,rs⟩:=rp.p4;cases OO with
     | @lst _ p2 xs2 _ _ Jh FH =>
      refine .inl (.inr ⟨p,p2,xs,xs2,rfl,rfl,hn.lst hc.1,Jh.lst hc.2.1,by rw[rs.length,FH.length];left,λp' tJ=>?_⟩);have es:aF H' (upd H' p' (.lst (xs++xs2))):=aF.upd tJ;refine hq _ _ (e.trans es) (bJ.oR (e.free tJ) (e.trans es) (aT) ?_);rw[aV,List.map_append,<- aV,<- aV];exact(aA.k9 nd.l8 (n:=0) (m:=0) (rs.dX Si fr) (FH.dX Si Jt)).imp (λ_ _ h=>aR.same es h) λ_ _ _ _ h=>nd.same es h
   |_=>cases eb
  |tup a =>
   cases y with
   |tup b =>
    obtain⟨hc,eb⟩:=mY eb;subst eb;obtain⟨τt,fr,rp⟩:=rv;obtain⟨Of,Jt,OO⟩:=ru;cases rp with
    | @tup _ p xs _ hn rs =>
     cases OO with
     | @tup _ p2 xs2 _ Jh FH =>
      have hl:=rs.length;have xJ:=FH.length;refine .inr ⟨p,p2,xs,xs2,rfl,rfl,hn,Jh,by rw[hl,xJ];left,λz=>?_,λz=>?_,λp' tJ=>?_⟩
      ·subst z;cases rs;exact hq _ H' e ⟨λ_=>none,λ_ _ h=>by simp at h,.tup Jh (FH.dX Si Jt)⟩
      ·subst z;cases FH;refine hq _ H' e ⟨λ_=>none,λ_ _ h=>by simp at h,.tup hn ?_⟩;rw[List.append_nil];exact rs.dX Si fr
      ·have es:aF H' (upd H' p' (.tup (xs++xs2))):=aF.upd tJ;refine hq _ _ (e.trans es) ⟨λ_=>none,λ_ _ h=>by simp at h,.tup (aR.of aT) ?_⟩;rw[aV,List.map_append,<- aV,<- aV];exact(aA.k9 nd.l8 (n:=0) (m:=0) (rs.dX Si fr) (FH.dX Si Jt)).imp (λ_ _ h=>aR.same es h) λ_ _ _ _ h=>nd.same es h
   |_=>cases eb
  |_=>cases y<;>cases eb
end
section
variable {T T':kC}{N N':gu}{P:Fl->Bool}
theorem Rep.without(hT:∀p xs,T p xs->T' p xs)(hN:∀k k' p xs f,P f=false->N k p xs f->N' k' p xs f){k:bg}{v:V}{d:D}(h:Rep T N k v d)(e:aY P d=false)(k':bg):Rep T' N' k' v d:=by
 have:=Rep.gen (g:=id) (P:=P) (N':=N') (C:=λ_ _=>True) (I:=λ_ _=>True) hT trivial (λ_ _ e=>e) (λ_ _ _ _ e _=>e) (λk k' p xs f _ e h=>hN k k' p xs f e h) h (k':=k') trivial e;rw[dA]at this;exact this
theorem aA.without(hT:∀p xs,T p xs->T' p xs)(hN:∀k k' p xs f,P f=false->N k p xs f->N' k' p xs f){k:bg}{n:Nat}(h:aA T N k n vs ds)(e:aS P ds=false)(k':bg)(n':Nat):aA T' N' k' n' vs ds:=by
 have:=aA.gen (g:=id) (P:=P) (N':=N') (C:=λ_ _=>True) (I:=λ_ _=>True) hT trivial (λ_ _ e=>e) (λ_ _ _ _ e _=>e) (λk k' p xs f _ e h=>hN k k' p xs f e h) h (k':=k') (n':=n') trivial trivial e;rw[dD]at this;exact this
theorem Rep.iX(hT:∀p xs,T p xs->T' p xs)(hN:∀k p xs f,P f=false->N k p xs f->N' k p xs f){k:bg}{v:V}{d:D}(h:Rep T N k v d)(e:aY P d=false):Rep T' N' k v d:=by
 have:=Rep.gen (g:=id) (P:=P) (N':=N') (C:=λa b=>a=b) (I:=λa b=>a=b) hT rfl (λ_ _ e=>by rw[e]) (λ_ _ _ _ a b=>by rw[a,b]) (λk k' p xs f c e h=>by subst c;exact hN k p xs f e h) h rfl e;rw[dA]at this;exact this
theorem aA.iX(hT:∀p xs,T p xs->T' p xs)(hN:∀k p xs f,P f=false->N k p xs f->N' k p xs f){k:bg}{n:Nat}(h:aA T N k n vs ds)(e:aS P ds=false):aA T' N' k n vs ds:=by
 have:=aA.gen (g:=id) (P:=P) (N':=N') (C:=λa b=>a=b) (I:=λa b=>a=b) hT rfl (λ_ _ e=>by rw[e]) (λ_ _ _ _ a b=>by rw[a,b]) (λk k' p xs f c e h=>by subst c;exact hN k p xs f e h) h rfl rfl e;rw[dD]at this;exact this
end
theorem Rep.oV{R:af}{H:Hp}{k:bg}{v:V}{d:D}(h:Rep (aR K H) (nd K R (λ_=>False) (λ_=>none) H) k v d):Rep (aR K H) (nd K R (λ_=>False) (λ_=>none) H) k' v d:=by
 have:=Rep.gH (g:=id) (λ_ _ h=>h) nd.l8 h k';rw[dA]at this;exact this
def gq(X:Cx)(R:af)(τ:Addr->Option bg)(H:Hp)(v:V)(d:D):Prop :=
 ∃τt:Addr->Option bg,(∀p q,τt p=some q->τ p=none/\¬ R p/\X.H₀ p=none/\H p≠none)/\Rep (aR X.K H) (nd X.K R (λ_=>False) τt H) [] v d
section
variable {X:Cx}{F R:af}{τ:Addr->Option bg}{ρ:aZ}{σ:St}{H H':Hp}
theorem SI.set{i:Nat}{v:V}{d:D}(Si:SI X F R τ ρ σ H)(r:gq X R τ H v d)(hi:i<ρ.length):∃τ',SI X F R τ' (ρ.set i (some d)) (σ.set i (some v)) H:=by
 obtain⟨τt,ht,rp⟩:=r;refine⟨λp=>match τt p with|some q=>some (q++[i])|none=>τ p,⟨by simp[Si.len],λj d' hj=>?_,λp hp=>?_,Si.rh,Si.rf,λp q hq=>?_,λp q hq=>?_,Si.same⟩⟩
 ·by_cases cX:j=i
  ·subst cX;rw[List.getElem?_set_self hi]at hj;cases hj;refine⟨v,List.getElem?_set_self (by rw[<- Si.len];exact hi),rp.imp (q':=[j]) (λ_ _ h=>h) λc p xs f h=>?_⟩;cases f with
   |ow=>rw[List.append_nil]at h;exact⟨h.1,by simp only[h.2]⟩
   |fz=>exact h
   |al=>exact h
   |sc=>exact h
  ·rw[List.getElem?_set_ne (Ne.symm cX)]at hj;obtain⟨w,hw,jJ⟩:=Si.rep j d' hj;refine⟨w,by rw[List.getElem?_set_ne (Ne.symm cX)];exact hw,jJ.imp (λ_ _ h=>h) λc p xs f h=>?_⟩;cases f with
   |ow =>
    refine⟨h.1,?_⟩;cases q:τt p with
    |none=>simp only[q];exact h.2
    |some k=>have:=(ht p k q).1;rw[h.2]at this;cases this
   |fz=>exact h
   |al=>exact h
   |sc=>exact h
 ·cases q:τt p with
  |none=>simp only[q];exact Si.rt p hp
  |some k=>exact absurd hp (ht p k q).2.1
 ·cases z:τt p with
  |none=>simp only[z]at hq;exact Si.th p q hq
  |some k=>exact(ht p k z).2.2.2
 ·cases z:τt p with
  |none=>simp only[z]at hq;exact Si.t0 p q hq
  |some k=>exact(ht p k z).2.2.1
theorem w6{k:bg}{v:V}{d:D}(h:Rep (aR X.K H) (nd X.K R (λ_=>False) τ H) k v d)(ho:aY ck d=false):gq X R τ H v d :=
 ⟨λ_=>none,λ_ _ h=>by simp at h,Rep.without (P:=ck) (λ_ _ h=>h) (λk k' p xs f hf h=>by
  cases f with
  |ow=>cases hf
  |fz=>exact h
  |al=>exact h.2.elim
  |sc=>exact h) h ho _⟩
open Classical in
theorem SI.move{i:Nat}{d:D}(Si:SI X F R τ ρ σ H)(hd:ρ[i]?=some (some d)):∃v τ',σ[i]?=some (some v)/\SI X F R τ' (ρ.set i none) σ H/\gq X R τ' H v d:=by
 obtain⟨v,hv,rp⟩:=Si.rep i d hd;refine⟨v,λp=>match τ p with|some q=>if q.getLast?=some i then none else some q|none=>none,hv,⟨by simp[Si.len],λj d' hj=>?_,λp hp=>?_,Si.rh,Si.rf,λp q hq=>?_,λp q hq=>?_,Si.same⟩,
  λp=>match τ p with|some q=>if q.getLast?=some i then(if H p=none then none else some q.dropLast)else none|none=>none,λp q hq=>?_,rp.imp (q:=[i]) (q':=[]) (λ_ _ h=>h) λc p xs f h=>?_⟩
 ·by_cases cX:j=i
  ·subst cX;rw[List.getElem?_set]at hj;simp at hj
  ·rw[List.getElem?_set_ne (Ne.symm cX)]at hj;obtain⟨w,hw,jJ⟩:=Si.rep j d' hj;refine⟨w,hw,jJ.imp (q:=[j]) (q':=[j]) (λ_ _ h=>h) λc p xs f h=>?_⟩;cases f with
   |ow =>
    refine⟨h.1,?_⟩;simp only[h.2];rw[if_neg (by simp;exact cX)]
   |fz=>exact h
   |al=>exact h
   |sc=>exact h
 ·simp only[Si.rt p hp]
 ·cases z:τ p with
  |none=>simp only[z]at hq;cases hq
  |some k=>exact Si.th p k z
 ·cases z:τ p with
  |none=>simp only[z]at hq;cases hq
  |some k=>exact Si.t0 p k z
 ·cases z:τ p with
  |none=>simp only[z]at hq;cases hq
  |some k =>
   simp only[z]at hq ⊢;by_cases hl:k.getLast?=some i
   ·rw[if_pos hl];exact⟨rfl,(λhR=>by have:=Si.rt p hR;rw[z]at this;cases this),Si.t0 p k z,Si.th p k z⟩
   ·rw[if_neg hl]at hq;cases hq
 ·cases f with
  |ow =>
   refine⟨h.1,?_⟩;have hn:H p≠none:=h.1.ne;simp only[h.2];rw[if_pos (by simp),if_neg hn];simp
  |fz=>exact h
  |al=>exact h.2.elim
  |sc=>exact h
theorem vh(is:aK)(ρ:aZ)(j:Nat)(d:D)(h:(gp is ρ)[j]?=some (some d)):∃d',ρ[j]?=some (some d')/\d=(if j∈is then aW a_ d' else d'):=by
 unfold gp at h;rw[List.getElem?_mapIdx]at h;cases q:ρ[j]? with
 |none=>rw[q]at h;exact nk h
 |some o =>
  rw[q]at h;cases o with
  |none=>simp at h
  |some d' =>
   refine⟨d',rfl,?_⟩;by_cases hj:j∈is
   ·simp[hj]at h ⊢;exact h.symm
   ·simp[hj]at h ⊢;exact h.symm
open Classical in
theorem vk(Si:SI X F R τ ρ σ H)(es:aF H H'):
  ∃R' τ',(∀p,R p->R' p)/\SI X F R' τ' (gp fv ρ) σ H'/\∀τt:Addr->Option bg,(∀p q,τt p=some q->H p=none)->∀(k k':bg) (p:Addr) (xs:Nd) (f:Fl),nd X.K R (iL (gP X F) τ fv) τt H' k p xs f->nd X.K R' (λ_=>False) (λ_=>none) H' k' p xs (a_ f):=by
 have fJ:=Si.go es;have fresh:∀p,H p=none->iL (gP X F) τ fv p:=λp hp=>⟨.inr (Si.same.free hp),λc i e=>absurd hp (Si.th p _ e)⟩
 refine⟨λp=>R p\/(H' p≠none/\iL (gP X F) τ fv p),λp=>if iL (gP X F) τ fv p then none else τ p,λp h=>.inl h,⟨by simp[gp,Si.len],λj d' hj=>?_,λp hp=>?_,λp hp=>?_,λp hp=>?_,λp q hq=>?_,λp q hq=>?_,fJ.same⟩,λτt fr k k' p xs f h=>?_⟩
 ·obtain⟨d0,h0,e0⟩:=vh _ _ _ _ hj;obtain⟨w,hw,jJ⟩:=fJ.rep j d0 h0;refine⟨w,hw,?_⟩;by_cases NL:j∈fv
  ·rw[if_pos NL]at e0;subst e0;refine Rep.map (q:=[j]) (q':=[j]) (λ_ _ h=>h) (λc p xs f h=>?_) jJ [] rfl;cases f with
   |ow =>
    refine⟨h.1,.inr ⟨h.1.ne,.inr (Si.t0 p _ h.2),λc' i' e'=>?_⟩⟩;rw[h.2]at e';have:=X0 List.getLast? (Xv e');simp at this;subst this;exact NL
   |fz=>exact⟨h.1,.inl h.2⟩
   |al=>exact h.2.elim
   |sc=>exact h
  ·rw[if_neg NL]at e0;subst e0;refine jJ.imp (q:=[j]) (q':=[j]) (λ_ _ h=>h) λc p xs f h=>?_;cases f with
   |ow =>
    refine⟨h.1,?_⟩;show(if iL (gP X F) τ fv p then none else τ p)=some (c++[j]);rw[if_neg (λz=>NL (z.2 c j h.2))];exact h.2
   |fz=>exact⟨h.1,.inl h.2⟩
   |al=>exact h.2.elim
   |sc=>exact h
 ·rcases hp with hp|hp
  ·simp only[Si.rt p hp];split<;>rfl
  ·rw[if_pos hp.2]
 ·rcases hp with hp|hp
  ·exact fJ.rh p hp
  ·exact hp.1
 ·rcases hp with hp|hp
  ·exact Si.rf p hp
  ·exact hp.2.1
 ·split at hq
  ·cases hq
  ·exact fJ.th p q hq
 ·split at hq
  ·cases hq
  ·exact Si.t0 p q hq
 ·cases f with
  |ow=>exact⟨h.1,.inr ⟨h.1.ne,fresh p (fr p _ h.2)⟩⟩
  |fz=>exact⟨h.1,.inl h.2⟩
  |al=>exact⟨h.1,.inr ⟨h.1.ne,h.2⟩⟩
  |sc=>exact h
theorem pd{v:V}{d:D}(Si:SI X F R τ ρ σ H)(es:aF H H')(r:bJ X.K (gP X F) R τ fv H H' v d):
  ∃R' τ',(∀p,R p->R' p)/\SI X F R' τ' (gp fv ρ) σ H'/\Rep (aR X.K H') (nd X.K R' (λ_=>False) (λ_=>none) H') [] v (aW a_ d):=by
 obtain⟨τt,fr,rp⟩:=r;obtain⟨R',τ',h1,h2,h3⟩:=vk (fv:=fv) Si es;exact⟨R',τ',h1,h2,Rep.gH (λ_ _ h=>h) (h3 τt fr) rp _⟩
theorem rA(Si:SI X F R τ ρ σ H)(es:aF H H')(r:bP X.K (gP X F) R τ fv H H' vs ds):
  ∃R' τ',(∀p,R p->R' p)/\SI X F R' τ' (gp fv ρ) σ H'/\aA (aR X.K H') (nd X.K R' (λ_=>False) (λ_=>none) H') [] 0 vs (aB a_ ds):=by
 obtain⟨τt,fr,rp⟩:=r;obtain⟨R',τ',h1,h2,h3⟩:=vk (fv:=fv) Si es;exact⟨R',τ',h1,h2,aA.gH (λ_ _ h=>h) (h3 τt fr) rp _ _⟩
theorem kL{v:V}{d:D}(h:Rep (aR X.K H) (nd X.K R (λ_=>False) (λ_=>none) H) [] v d):gq X R τ' H v d:=⟨λ_=>none,λ_ _ h=>by simp at h,h⟩
open Classical in
theorem Ef{e:CE}{v:V}{d:D}(Si:SI X F R τ ρ σ H)(es:aF H H')(r:bJ X.K (gP X F) R τ (h_ e) H H' v d):
  ∃R' τ',(∀p,R p->R' p)/\SI X F R' τ' (keep e d ρ).2 σ H'/\gq X R' τ' H' v (keep e d ρ).1:=by
 unfold keep;by_cases ha:aY bG d=true
 ·rw[if_pos ha];obtain⟨R',τ',h1,h2,h3⟩:=pd Si es r;exact⟨R',τ',h1,h2,kL h3⟩
 ·obtain⟨τt,fr,rp⟩:=r;rw[if_neg ha];refine⟨R,τ,λ_ h=>h,Si.go es,λp=>if H' p=none then none else τt p,λp q hq=>?_,?_⟩
  ·dsimp only at hq;split at hq
   ·cases hq
   ·rename_i hn;have hf:=fr p q hq;refine⟨?_,λhR=>Si.rh p hR hf,Si.same.free hf,hn⟩;cases z:τ p with
    |none=>rfl
    |some k=>exact absurd hf (Si.th p k z)
  ·have NQ:aY bG d=false:=by simpa using ha
   have st:∀{k:bg} {v:V} {d:D},Rep (aR X.K H') (nd X.K R (iL (gP X F) τ (h_ e)) τt H') k v d->aY bG d=false->Rep (aR X.K H') (nd X.K R (λ_=>False) (λp=>if H' p=none then none else τt p) H') k v d:=by
    intro k v d h ha;exact Rep.iX (P:=bG) (λ_ _ h=>h) (λk p xs f hf h=>by
     cases f with
     |ow=>exact⟨h.1,by show(if H' p=none then none else τt p)=_;rw[if_neg (h.1.ne)];exact h.2⟩
     |fz=>exact h
     |al=>cases hf
     |sc=>exact h) h ha
   exact st rp NQ
open Classical in
def tK(X:Cx)(F:af)(Φ:ba)(c:CE):TE:=λσ H Q=>∃R τ ρ r,SI X F R τ ρ σ H/\iH Φ c ρ=ok r/\∀v H' R' τ',aF H H'->(∀p,R p->R' p)->SI X F R' τ' r.2 σ H'->gq X R' τ' H' v r.1->Q v H'
end
section
variable {T T':kC}{N N':gu}
theorem aA.child{q:bg}(hT:∀p xs,T p xs->T' p xs)(hN:∀c m p xs f,N (c++(m::q)) p xs f->N' (c++(m::q)) p xs f):∀{n:Nat} {vs:ae} {ds:aa},aA T N q n vs ds->aA T' N' q n vs ds
 |_,_,_,.nil=>.nil
 |n,_,_,.cons h t=>.cons (Rep.imp (q:=n::q) (q':=n::q) hT (λc p xs f h=>hN c n p xs f h) h) (aA.child hT hN t)
theorem aA.D0{q:bg}{v:V}{d:D}:∀{n:Nat} {vs:ae} {ds:aa},aA T N q n vs ds->Rep T N ((n+ds.length)::q) v d->aA T N q n (vs++[v]) (ds++[d])
 |n,_,_,.nil,h=>.cons (by simpa using h) .nil
 |n,_,_,.cons (ds:=ds) h t,h'=>.cons h (aA.D0 t (by
   have e:n+(ds.length+1)=n+1+ds.length:=by left
   rw[List.length_cons,e]at h';exact h'))
end
variable {d0 d1:D}{n':Nd}
section
variable {X:Cx}{F R:af}{τ:Addr->Option bg}{ρ:aZ}{σ:St}{H:Hp}
theorem SI.own{i:Nat}(Si:SI X F R τ ρ σ H)(hi:ρ[i]?=some (some (.lst .ow ds))):∃p xs,σ[i]?=some (some (.ref p))/\H p=some (.lst xs)/\xs.length=ds.length/\τ p=some [i]/\aA (aR X.K H) (nd X.K R (λ_=>False) τ H) [i] 0 xs ds:=by
 obtain⟨v,hv,rp⟩:=Si.rep i _ hi;cases rp with
 |lst h r=>exact⟨_,_,hv,h.1,r.length,h.2,r⟩
theorem yh{H:Hp}{p:Addr}{n:Nd}{o:HO}(hp:dy H p n){a:Addr}(h:aR K H a ys):aR K (upd H p o) a ys:=by
 obtain⟨o0,Jf,LM,Je⟩:=dy.some hp;have nO:∀a u,H a=some u->u≠o0->a≠p:=λa u e h z=>by subst z;rw[Jf]at e;cases e;exact h rfl
 rcases h with (h|⟨o',h⟩)|h
 ·exact .inl (.inl (by rw[aQ (nO a _ h λz=>LM _ z.symm)];exact h))
 ·exact .inl (.inr ⟨o',by rw[aQ (nO a _ h λz=>Je _ _ z.symm)];exact h⟩)
 ·exact .inr h
theorem SI.O5{i m:Nat}{v:V}{d:D}{p:Addr}{n:Nd}{o:HO}(Si:SI X F R τ ρ σ H)(hi:ρ[i]?=some (some d0))(hv:σ[i]?=some (some (.ref p)))(hp:dy H p n)(ht:τ p=some [i])
  (rs:aA (aR X.K H) (nd X.K R (λ_=>False) τ H) [i] 0 xs ds) (rk:gq X R τ H v d) (zM:dy (upd H p o) p n')
  (mk:∀{N:gu},N [i] p n' .ow->aA (aR X.K (upd H p o)) N [i] 0 xs' ds'->Rep (aR X.K (upd H p o)) N [i] (.ref p) d1)
  (hb:∀{N:gu},aA (aR X.K (upd H p o)) N [i] 0 xs ds->Rep (aR X.K (upd H p o)) N (m::[i]) v d->aA (aR X.K (upd H p o)) N [i] 0 xs' ds') :
  ∃τ',SI X F R τ' (ρ.set i (some d1)) σ (upd H p o)/\τ' p=some [i]/\aA (aR X.K (upd H p o)) (nd X.K R (λ_=>False) τ' (upd H p o)) [i] 0 xs' ds':=by
 obtain⟨τt,hτ,rp⟩:=rk;have wY:i<ρ.length:=by
  by_cases z:i<ρ.length
  ·exact z
  ·rw[List.getElem?_eq_none (by left)]at hi;cases hi
 obtain⟨o0,Jf,LM,Je⟩:=dy.some hp;have nR:∀a,R a->a≠p:=λa ha e=>by subst e;rw[Si.rt _ ha]at ht;cases ht
 have nT:∀a q,τt a=some q->a≠p:=λa q e z=>by subst z;rw[(hτ _ q e).1]at ht;cases ht
 have nO:∀a u,H a=some u->u≠o0->a≠p:=λa u e h z=>by subst z;rw[Jf]at e;cases e;exact h rfl
 have keep:∀a,a≠p->(upd H p o) a=H a:=λa h=>aQ h;have Hn:∀a ys,aR X.K H a ys->aR X.K (upd H p o) a ys:=λa ys h=>by
  rcases h with (h|⟨o',h⟩)|h
  ·exact .inl (.inl (by rw[keep a (nO a _ h λz=>LM _ z.symm)];exact h))
  ·exact .inl (.inr ⟨o',by rw[keep a (nO a _ h λz=>Je _ _ z.symm)];exact h⟩)
  ·exact .inr h
 have NS:∀a (z:Nd),a≠p->dy H a z->dy (upd H p o) a z:=λa z ne h=>h.at λu e=>by rw[keep a ne];exact e
 have Te:∀{τ1:Addr->Option bg} q q' a (z:Nd),nd X.K R (λ_=>False) τ1 H q a z .sc->∀τ2,nd X.K R (λ_=>False) τ2 (upd H p o) q' a z .sc:=λq q' a z h τ2=>by
  obtain⟨ys,rfl,h⟩:=h.yu;exact h.elim (λ⟨o',w⟩=>.inl ⟨o',by rw[keep a (nO a _ w λz=>Je _ _ z.symm)];exact w⟩) .inr
 have Th:∀q a ys f,q≠[i]->nd X.K R (λ_=>False) τ H q a ys f->nd X.K R (λ_=>False) (λa=>match τt a with|some q=>some (q++[m,i])|none=>τ a) (upd H p o) q a ys f:=λq a ys f hq h=>by
  cases f with
  |ow =>
   have ne:a≠p:=λz=>by
    subst z;have:=h.2.symm.trans ht;exact hq (Xv this)
   refine⟨NS a ys ne h.1,?_⟩;cases z:τt a with
   |none=>simp only[z];exact h.2
   |some k=>have:=(hτ a k z).1;rw[h.2]at this;cases this
  |fz=>exact⟨NS a ys (nR a h.2) h.1,h.2⟩
  |al=>exact h.2.elim
  |sc=>exact Te q q a ys h _
 have SK:(match τt p with|some q=>some (q++[m,i])|none=>τ p)=some [i]:=by
  cases z:τt p with
  |none=>exact ht
  |some k=>exact absurd rfl (nT p k z)
 have Tf:aA (aR X.K (upd H p o)) (nd X.K R (λ_=>False) (λa=>match τt a with|some q=>some (q++[m,i])|none=>τ a) (upd H p o)) [i] 0 xs' ds':=hb (aA.child Hn (λc n a ys f h=>Th _ a ys f (λz=>by
  have:=X0 List.length z;simp at this) h) rs) (rp.imp (q:=[]) (q':=[m,i]) Hn λc a ys f h=>by
  cases f with
  |ow =>
   rw[List.append_nil]at h;exact⟨NS a ys (nT a _ h.2) h.1,by simp only[h.2]⟩
  |fz=>exact⟨NS a ys (nR a h.2) h.1,h.2⟩
  |al=>exact h.2.elim
  |sc=>exact Te _ _ a ys h _)
 refine⟨λa=>match τt a with|some q=>some (q++[m,i])|none=>τ a,⟨by simp[Si.len],λj d' hj=>?_,λa ha=>?_,λa ha=>?_,Si.rf,λa q hq=>?_,λa q hq=>?_,?_⟩,SK,Tf⟩
 ·by_cases cX:j=i
  ·subst cX;rw[List.getElem?_set_self wY]at hj;cases hj;exact⟨.ref p,hv,mk ⟨zM,SK⟩ Tf⟩
  ·rw[List.getElem?_set_ne (Ne.symm cX)]at hj;obtain⟨u,hu,ru⟩:=Si.rep j d' hj;refine⟨u,hu,ru.imp (q:=[j]) (q':=[j]) Hn λc a ys f h=>Th _ a ys f (λz=>?_) h⟩;have:=X0 List.getLast? z;simp at this;exact cX this
 ·cases z:τt a with
  |none=>simp only[z];exact Si.rt a ha
  |some k=>exact absurd ha (hτ a k z).2.1
 ·rw[keep a (nR a ha)];exact Si.rh a ha
 ·by_cases Td:a=p
  ·subst Td;rw[aT];simp
  ·rw[keep a Td];cases z:τt a with
   |none=>simp only[z]at hq;exact Si.th a q hq
   |some k=>exact(hτ a k z).2.2.2
 ·cases z:τt a with
  |none=>simp only[z]at hq;exact Si.t0 a q hq
  |some k=>exact(hτ a k z).2.2.1
 ·intro a u e;have ne:a≠p:=λz=>by subst z;rw[Si.t0 _ _ ht]at e;cases e
  rw[keep a ne];exact Si.same a u e
theorem SI.KD{i m:Nat}{v:V}{d:D}{p:Addr}{n:Nd}{o:HO}(Si:SI X F R τ ρ σ H)(hi:ρ[i]?=some (some d0))(hv:σ[i]?=some (some (.ref p)))(hp:dy H p n)(ht:τ p=some [i])
  (rs:aA (aR X.K H) (nd X.K R (λ_=>False) τ H) [i] 0 xs ds) (rk:gq X R τ H v d) (zM:dy (upd H p o) p n')
  (mk:∀{N:gu},N [i] p n' .ow->aA (aR X.K (upd H p o)) N [i] 0 xs' ds'->Rep (aR X.K (upd H p o)) N [i] (.ref p) d1)
  (hb:∀{N:gu},aA (aR X.K (upd H p o)) N [i] 0 xs ds->Rep (aR X.K (upd H p o)) N (m::[i]) v d->aA (aR X.K (upd H p o)) N [i] 0 xs' ds') :
  ∃τ',SI X F R τ' (ρ.set i (some d1)) σ (upd H p o):=(Si.O5 hi hv hp ht rs rk zM mk hb).imp λ_ h=>h.1
theorem SI.put{i m:Nat}{v:V}{d:D}{g:ae->ae}{p:Addr}(Si:SI X F R τ ρ σ H)(hi:ρ[i]?=some (some (.lst .ow ds)))(hv:σ[i]?=some (some (.ref p)))(hp:H p=some (.lst xs))(ht:τ p=some [i])
  (rs:aA (aR X.K H) (nd X.K R (λ_=>False) τ H) [i] 0 xs ds) (rk:gq X R τ H v d)
  (hb:∀{N:gu},aA (aR X.K (upd H p (.lst (g xs)))) N [i] 0 xs ds->Rep (aR X.K (upd H p (.lst (g xs)))) N (m::[i]) v d->aA (aR X.K (upd H p (.lst (g xs)))) N [i] 0 (g xs) ds') :
  ∃τ',SI X F R τ' (ρ.set i (some (.lst .ow ds'))) σ (upd H p (.lst (g xs))) :=
 Si.KD (n:=.l xs) (n':=.l (g xs)) hi hv hp ht rs rk aT (λh r=>.lst h r) hb
end
theorem iK{env:Env}:∀(names:List (Str×NameKind)) (acc:List (Str×Addr)),(∀x,(x,NameKind.free)∈names->∃c,env.cells.lookup x=some c) ->
  ∃cl,(forIn names acc (λ(y:Str×NameKind) (cs:List (Str×Addr))=>do
    let (name,kind):=y
    let mut cs:=cs
    if kind==.free then cs:=(name,<- cellOf env name)::cs
    pure (ForInStep.yield cs)):Sem (List (Str×Addr)))=pure cl /\
   (∀x c,cl.lookup x=some c->acc.lookup x=some c\/(env.cells.lookup x=some c/\(x,NameKind.free)∈names))/\(∀x,((x,NameKind.free)∈names\/(∃c,acc.lookup x=some c))->∃c,cl.lookup x=some c)
 |[],acc,_=>⟨acc,rfl,λx c h=>.inl h,λx h=>h.elim (λh=>nomatch h) id⟩
 | (n,kd)::names,acc,h=>by
  by_cases hk:kd=.free
  ·subst hk;obtain⟨c,hc⟩:=h n Xo;obtain⟨cl,e,h1,h2⟩:=iK names ((n,c)::acc) (λx hx=>h x (Xm _ hx));refine⟨cl,?_,λx c' hx=>?_,λx hx=>?_⟩
   ·rw[List.forIn_cons];have e0:cellOf env n=pure c:=by unfold cellOf;rw[hc]
    simp only[beq_self_eq_true,if_true,e0,pure_bind];exact e
   ·rcases h1 x c' hx with z|z
    ·by_cases G3:x=n
     ·subst G3;simp at z;subst z;exact .inr ⟨hc,Xo⟩
     ·rw[List.lookup_cons]at z;have:(x==n)=false:=by simpa using G3
      rw[this]at z;exact .inl z
    ·exact .inr ⟨z.1,Xm _ z.2⟩
   ·refine h2 x ?_;rcases hx with hx|⟨c',hx⟩
    ·rcases List.mem_cons.mp hx with z|z
     ·cases z;exact .inr ⟨c,by simp⟩
     ·exact .inl z
    ·by_cases G3:x=n
     ·subst G3;exact .inr ⟨c,by simp⟩
     ·refine .inr ⟨c',?_⟩;rw[List.lookup_cons];have:(x==n)=false:=by simpa using G3
      rw[this];exact hx
  ·obtain⟨cl,e,h1,h2⟩:=iK names acc (λx hx=>h x (Xm _ hx));have hb:(kd==NameKind.free)=false:=by simpa using hk
   refine⟨cl,?_,λx c' hx=>(h1 x c' hx).imp id λz=>⟨z.1,Xm _ z.2⟩,λx hx=>h2 x ?_⟩
   ·rw[List.forIn_cons];simp only[hb,Bool.false_eq_true,if_false,pure_bind];exact e
   ·rcases hx with hx|hx
    ·rcases List.mem_cons.mp hx with z|z
     ·cases z;exact absurd rfl hk
     ·exact .inl z
    ·exact .inr hx
variable {env:Env}
theorem t4{sc:Scope}(h:∀x,(x,NameKind.free)∈sc.names->∃c,env.cells.lookup x=some c):
  ∃cl,closureFor sc env=pure cl/\(∀x c,cl.lookup x=some c->env.cells.lookup x=some c)/\(∀x,(x,NameKind.free)∈sc.names->∃c,cl.lookup x=some c):=by
 obtain⟨cl,e,h1,h2⟩:=iK (env:=env) sc.names [] h;refine⟨cl,?_,λx c hx=>(h1 x c hx).elim (λz=>by simp at z) (·.1),λx hx=>h2 x (.inl hx)⟩;unfold closureFor;simp only[bind_pure];exact e
variable {P prog:az}{e1 e2 ic iter o target tg:Expr}{w:World}
theorem pC{A:av}{R:Result->Shared->Prop}{s:Shared}{elt:Expr}{ifs:aw}{scope:Scope}{it acc:Value}(I:Nat->Shared->Prop)
  (turn:∀n s,I n s->wpAny (model prog w) A (pyNext it) (λr s₁=>match r with
   |none=>R (.ok .next) s₁
   |some v=>wpAny (model prog w) A (letOwnedTupleGo target it v) (λ_ s₁=>wpAny (model prog w) A (assign target env v) (λ_ s₂ =>
     wpAny (model prog w) A (forIn ifs true λc r=>if r=true then do let ok <- isTrue c env (eval c env);pure (ForInStep.yield ok)else pure (ForInStep.yield r)) (λok s₃ =>
      if ok=true then wpAny (model prog w) A (eval elt env) (λx s₄ =>
       wpAny (model prog w) A (call (.builtin "list.append") [acc,x]) (λ_ s₅=>∃m,m<n/\I m s₅) (λ_ _=>False) s₄) (λ_ _=>False) s₃
      else ∃m,m<n/\I m s₃) (λ_ _=>False) s₂) (λ_ _=>False) s₁) (λ_ _=>False) s₁) (λ_ _=>False) s)
  (n:Nat) (h:I n s) :
  codeAny (model prog w) A (.compLoop (.ListComp elt [⟨target,iter,ifs,0⟩] scope pos) 0 it acc env) R s:=by
 refine codeAny_loop rfl I (λn s hI=>?_) n h;show wpAny _ A ((compTurn (.ListComp elt [⟨target,iter,ifs,0⟩] scope pos) 0 it acc env).onRaise (λx=>do noteFrame x env;theTreesLotGoes x)) _ _ s;refine wpAny_noted ?_;rw[compTurn_list];refine Xf (Zk (Xf (XE (turn n s hI) (λr s₁ h₁=>?_) λ_ _ h'=>h'.elim)));cases r with
 |none=>exact Xg h₁
 |some v =>
  refine Xf (XE h₁ (λ_ s₂ h₂=>?_) λ_ _ h'=>h'.elim);refine Xf (XE h₂ (λ_ s₂ h₂=>Xf (XE h₂ (λok s₃ h₃=>?_) λ_ _ h'=>h'.elim)) λ_ _ h'=>h'.elim);cases ok with
  |false=>exact Xg ⟨rfl,h₃⟩
  |true =>
   exact Xf (Xf (XE h₃ (λx s₄ h₄=>Xf (XE h₄ (λ_ s₅ h₅=>Xg (Xg ⟨rfl,h₅⟩)) λ_ _ h'=>h'.elim)) λ_ _ h'=>h'.elim))
noncomputable def du(X:Cx)(N':ao)(scope:Scope)(cl:List (Str×Addr))(C:Addr)(s₀:Shared)(H₀:Hp)(fp:aP):Cx :=
 { X with N:=N',s₀:=s₀,H₀:=H₀,env:=compEnvC scope cl C X.env,outer:=X.stack,stack:=X.stack,ex:=fp,fn:=λ_=>false,pn:=[],xe:=λ_ _=>False }
theorem eI{env:Env}:∀{names:List (Str×NameKind)} {x:Str} {kd:NameKind},(names.map λ(n,k)=>if (k==NameKind.free&&env.scope.kind==.function&&env.kindOf n==some .cell)then(n,NameKind.cell)else(n,k)).lookup x=some kd ->
  names.lookup x=some kd\/(kd=.cell/\names.lookup x=some .free)
 |[],_,_,h=>by simp at h
 | (n,k)::r,x,kd,h=>by
  rw[List.map_cons]at h;cases hx:x==n with
  |true =>
   by_cases hc:(k==NameKind.free&&env.scope.kind==.function&&env.kindOf n==some .cell)=true
   ·simp only[hc,if_true,List.lookup_cons,hx]at h;cases h;simp only[Bool.and_eq_true,beq_iff_eq]at hc;refine .inr ⟨rfl,?_⟩;rw[List.lookup_cons,hx,hc.1.1]
   ·have xK:(k==NameKind.free&&env.scope.kind==.function&&env.kindOf n==some .cell)=false:=by simpa using hc
    simp only[xK,Bool.false_eq_true,if_false,List.lookup_cons,hx]at h;cases h;exact .inl (by rw[List.lookup_cons,hx])
  |false =>
   have:List.lookup x (r.map λ(n,k)=>if (k==NameKind.free&&env.scope.kind==.function&&env.kindOf n==some .cell)then(n,NameKind.cell)else(n,k))=some kd:=by
    by_cases hc:(k==NameKind.free&&env.scope.kind==.function&&env.kindOf n==some .cell)=true
    ·simp only[hc,if_true,List.lookup_cons,hx]at h;exact h
    ·have xK:(k==NameKind.free&&env.scope.kind==.function&&env.kindOf n==some .cell)=false:=by simpa using hc
     simp only[xK,Bool.false_eq_true,if_false,List.lookup_cons,hx]at h;exact h
   rw[List.lookup_cons,hx];exact eI this
theorem cM{env:Env}:∀{names:List (Str×NameKind)} {x:Str},names.lookup x=some .free ->
  (names.map λ(n,k)=>if (k==NameKind.free&&env.scope.kind==.function&&env.kindOf n==some .cell)then(n,NameKind.cell)else(n,k)).lookup x=some .free \/
  (names.map λ(n,k)=>if (k==NameKind.free&&env.scope.kind==.function&&env.kindOf n==some .cell)then(n,NameKind.cell)else(n,k)).lookup x=some .cell
 |[],_,h=>by simp at h
 | (n,k)::r,x,h=>by
  rw[List.map_cons];cases hx:x==n with
  |true =>
   rw[List.lookup_cons,hx]at h;cases h;by_cases hc:(NameKind.free==NameKind.free&&env.scope.kind==.function&&env.kindOf n==some .cell)=true
   ·simp only[hc,if_true,List.lookup_cons,hx];exact .inr trivial
   ·have xK:(NameKind.free==NameKind.free&&env.scope.kind==.function&&env.kindOf n==some .cell)=false:=by simpa using hc
    simp only[xK,Bool.false_eq_true,if_false,List.lookup_cons,hx];exact .inl trivial
  |false =>
   rw[List.lookup_cons,hx]at h;by_cases hc:(k==NameKind.free&&env.scope.kind==.function&&env.kindOf n==some .cell)=true
   ·simp only[hc,if_true,List.lookup_cons,hx];exact cM h
   ·have xK:(k==NameKind.free&&env.scope.kind==.function&&env.kindOf n==some .cell)=false:=by simpa using hc
    simp only[xK,Bool.false_eq_true,if_false,List.lookup_cons,hx];exact cM h
theorem cZ{names:List (Str×NameKind)}{x:Str}{kd:NameKind}(h:names.lookup x=some kd):(x,kd)∈names:=X8 h
structure iT(S:Sx)(n:Nat)(t:Tg)(caps:aK)(target:Expr)(sc:Scope):Prop where
 kind:sc.kind=.function
 y_:∀y∈sc.names,y.2≠.cell
 loc:∀y∈sc.names,y.2=.local->sc.names.lookup y.1=some .local
 free:∀x,(x,NameKind.free)∈sc.names->S.sc.names.lookup x=some .cell\/S.sc.names.lookup x=some .free
 n:n=(bL target).length
 tl:∀x∈bL target,sc.names.lookup x=some .local
 nd:(bL target++fh S caps).Nodup
 eO:∀i∈caps,∃x,S.N[i]?=some x/\sc.names.lookup x=some .free
 tg:(∃x p,t=.nm 0/\target=.Name x p)\/(∃es k p,t=.tp (List.range es.length)/\target=.Tuple es k p/\es.all isNm=true)
theorem nZ{n:Nat}{t:Tg}{sc:Scope}(h:pH S n t caps target sc=true):iT S n t caps target sc:=by
 unfold pH at h;simp only[Bool.and_eq_true,decide_eq_true_eq,List.all_eq_true,Bool.or_eq_true]at h;obtain⟨⟨⟨⟨⟨⟨h1,h2⟩,h3⟩,h4⟩,h5⟩,h6⟩,h7⟩:=h;refine⟨h1,λy hy=>(h2 y hy).1.1,λy hy hk=>?_,λx hx=>?_,h3,h4,h5,λi hi=>?_,?_⟩
 ·rcases(h2 y hy).1.2 with z|z
  ·exact absurd hk z
  ·exact z
 ·rcases(h2 _ hx).2 with (z|z)|z
  ·exact absurd rfl z
  ·exact .inl z
  ·exact .inr z
 ·have:=h6 i hi;split at this
  ·rename_i x e;exact⟨x,e,Xh this⟩
  ·cases this
 ·cases t with
  |nm i =>
   obtain⟨g1,g2⟩:=aJ h7;obtain rfl:i=0:=Xh g1;cases target<;>first | (cases g2;done)|exact .inl ⟨_,_,rfl,rfl⟩
  |tp is =>
   obtain⟨es,hv,g⟩:=bu h7;obtain⟨k,p,rfl⟩:=iZ hv;obtain⟨g1,g2⟩:=aJ g;obtain rfl:is=_:=Xh g1;exact .inr ⟨es,k,p,rfl,rfl,g2⟩
theorem rR{S:Sx}:∀{caps:aK},(∀i∈caps,∃x,S.N[i]?=some x)->(fh S caps).length=caps.length/\∀(j i:Nat),caps[j]?=some i->(fh S caps)[j]?=S.N[i]?
 |[],_=>⟨rfl,λj i h=>by simp at h⟩
 |i::caps,h=>by
  obtain⟨x,hx⟩:=h i Xo;obtain⟨h1,h2⟩:=rR (caps:=caps) λj hj=>h j (Xm _ hj);have e:fh S (i::caps)=x::fh S caps:=by unfold fh;rw[List.filterMap_cons,hx]
  rw[e];refine⟨by simp[h1],λj k hj=>?_⟩;cases j with
  |zero=>simp at hj;subst hj;simp[hx]
  |succ j=>simp at hj ⊢;exact h2 j k hj
variable {base h' h₁:Heap}{ch fp:aP}
section
variable {X:Cx}{S:Sx}{k:Nat}{Φ:ba}{pins:ah}{σ:St}{H2:Hp}{s₂:Shared}
noncomputable def mQ(n:Nat)(caps:aK)(σ:St):St:=List.replicate n none++caps.map λi=>σ[i]?.getD none
noncomputable def dI(aH:ag)(n:Nat):Obj:={ cls:=.type "list",data:=.seq aH.toArray n }
theorem Dl{n:Nat}{t:Tg}{sc:Scope}{cl:List (Str×Addr)}(L:Lk X S k Φ)(co:iT S n t caps target sc)(I2:Inv X pins σ H2 s₂)
  (ku:∀x c,cl.lookup x=some c->X.env.cells.lookup x=some c) (tM:∀x,(x,NameKind.free)∈sc.names->∃c,cl.lookup x=some c) (CF:∀b∈fp,mG X pins H2 b) (Hd:∀b∈fp,b<s₂.heap.objs.size) :
  (du X (bL target++fh S caps) sc cl (s₂.heap.objs.size+1) s₂ H2 fp).Ok:=by
 have P8:=I2.jE;refine⟨I2.ok.mod,co.kind,I2.ok.glob,I2.ok.blt,Yq _,λx y c h1 h2=>I2.ok.inj x y c (ku x c h1) (ku y c h2),λx hx=>?_,(λ_ _ z=>by cases z),I2.ok.hd,I2.ok.frames,.inl rfl,λb hb=>⟨?_,λx c e=>(CF b hb).2.2.2.2.1 x c (ku x c e)⟩,I2.bs,XO I2.ok.ED I2.sz,λb o e hb=>?_,λb hb z=>?_,I2.stack,I2.ur⟩
 ·have zI:(relabel sc X.env).names.lookup x=some .cell\/(relabel sc X.env).names.lookup x=some .free:=hx;rcases zI with zI|zI
  ·rcases eI zI with z|z
   ·exact absurd rfl (co.y_ _ (cZ z))
   ·exact tM x (cZ z.2)
  ·rcases eI zI with z|z
   ·exact tM x (cZ z)
   ·cases z.1
 ·exact Xt (XN (Hd b hb))
 ·rcases(CF b hb).2.2.2.1 with z|z
  ·exact I2.ok.y9 b o e z
  ·exact absurd (Xu (Xk e) (XO I2.ok.ED z)) (XA _)
 ·rcases List.mem_cons.mp (P8 b z)with w|w
  ·exact(CF b hb).2.1 w
  ·exact(CF b hb).2.2.1 w
theorem zH{n:Nat}{t:Tg}{sc:Scope}{cl:List (Str×Addr)}{tk:Nat}(L:Lk X S k Φ)(co:iT S n t caps target sc)(I2:Inv X pins σ H2 s₂)
  (ku:∀x c,cl.lookup x=some c->X.env.cells.lookup x=some c) (tM:∀x,(x,NameKind.free)∈sc.names->∃c,cl.lookup x=some c) (CF:∀b∈fp,mG X pins H2 b) (Hd:∀b∈fp,b<s₂.heap.objs.size)
  (xI:h₁.Ns (s₂.heap.objs.size+1) λ_=>none) (old:∀b o,s₂.heap.get? b=some o->h₁.get? b=some o) (fR:h₁.get? s₂.heap.objs.size=some (dI [] 0)) :
  Inv (du X (bL target++fh S caps) sc cl (s₂.heap.objs.size+1) s₂ H2 fp) [(s₂.heap.objs.size,dI [] 0)] (mQ n caps σ) H2 { s₂ with heap:=h₁,toks:=tk }:=by
 have m3:∀i∈caps,∃x,S.N[i]?=some x:=λi hi=>let ⟨x,e,_⟩:=co.eO i hi;⟨x,e⟩;obtain⟨Ws,Wr⟩:=rR m3;refine⟨Dl L co I2 ku tM CF Hd,rfl,I2.bare,Un.kept old,⟨_,xI,λi x v e1 e2 e3=>?_⟩,λx c e=>?_,I2.cq.fresh (Yq _),λx c e=>I2.iq x c (ku x c e),λp hp=>?_,I2.cq.kept old,?_⟩
 ·unfold mQ at e2;have hi:n<=i:=by
   by_cases hi:i<n
   ·rw[List.getElem?_append_left (by simpa using hi),List.getElem?_replicate,if_pos hi]at e2;cases e2
   ·left
  have N2:(bL target++fh S caps)[i]?=some x:=e1;rw[List.getElem?_append_right (by rw[<- co.n];exact hi),<- co.n]at N2;rw[List.getElem?_append_right (by simpa using hi),List.length_replicate,List.getElem?_map]at e2;cases hc:caps[i - n]? with
  |none=>rw[hc]at e2;cases e2
  |some ci =>
   rw[hc]at e2;rw[Wr _ _ hc]at N2;obtain⟨x',Q9,NO⟩:=co.eO ci (Xw hc);rw[Q9]at N2;cases N2;have Wo:σ[ci]?=some (some v):=by
    have Mz:σ[ci]?.getD none=some v:=Xv e2;cases q:σ[ci]? with
    |none=>rw[q]at Mz;cases Mz
    |some o=>rw[q]at Mz;simp at Mz;rw[Mz]
   have PY:IE X.env.scope x:=by
    unfold IE;rw[L.sc];rcases co.free x (cZ NO)with z|z
    ·exact .inr (.inl z)
    ·exact .inr (.inr z)
   obtain⟨m,hn,hl⟩:=I2.loc;obtain⟨u,r,lk⟩:=hl ci x v (by rw[L.N];exact Q9) Wo PY;refine⟨u,r,.inr ⟨?_,?_⟩⟩
   ·rcases cM (env:=X.env) NO with z|z
    ·exact .inr z
    ·exact .inl z
   ·have VF:∃c,X.env.cells.lookup x=some c/\s₂.heap.IsCell c (some u):=by
     rcases lk with ⟨z,_⟩|⟨_,z⟩
     ·have z':X.env.scope.names.lookup x=some .local:=z;rw[L.sc]at z';rcases co.free x (cZ NO)with w|w<;>(rw[w]at z';cases z')
     ·exact z
    obtain⟨c,ec,o,ho,hd⟩:=VF;obtain⟨c',Tv⟩:=tM x (cZ NO);have:=ku x c' Tv;rw[ec]at this;cases this;exact⟨c,Tv,o,old _ _ ho,hd⟩
 ·obtain⟨v,o,ho,hd⟩:=I2.cell x c (ku x c e);exact⟨v,o,old _ _ ho,hd⟩
 ·have tJ:p=(s₂.heap.objs.size,dI [] 0):=by simpa [du]using hp
  subst tJ;refine⟨fR,I2.cq.fresh (Xp _),Xt (Yi _),λz=>?_,λv z=>by cases z⟩;rcases List.mem_cons.mp (I2.jE _ z)with w|w
  ·exact absurd w (Xx I2.lt)
  ·exact I2.Gn (Xp _) w
 ·show(mQ n caps σ).length=(bL target++fh S caps).length;unfold mQ;rw[List.length_append,List.length_append,List.length_replicate,List.length_map,Ws,co.n]
end
theorem aA.snoc{T:kC}{N:gu}{k:bg}:∀{n:Nat} {vs:ae} {ds:aa} {v:V} {d:D},aA T N k n vs ds->Rep T N ((n+ds.length)::k) v d->aA T N k n (vs++[v]) (ds++[d])
 |n,_,_,_,_,.nil,h=>.cons h .nil
 |n,_,_,_,_,.cons (ds:=ds) h t,r=>.cons h (aA.snoc t (by
  have e:n+(ds.length+1)=n+1+ds.length:=by left
  rw[List.length_cons,e]at r;exact r))
open Classical in
theorem bP.snoc{K:ai}{G R:af}{τ:Addr->Option bg}{fv:aK}{H H1 H2:Hp}{v:V}{d:D}{vs:ae}{ds:aa}(e1:aF H H1)(e2:aF H1 H2)(h:bP K G R τ fv H H1 vs ds)(t:bJ K G R τ fv H1 H2 v d):
  bP K G R τ fv H H2 (vs++[v]) (ds++[d]):=by
 obtain⟨τ1,f1,h1⟩:=h;obtain⟨τ2,f2,h2⟩:=t;refine⟨λp=>if H1 p=none then(τ2 p).map (· ++ [ds.length])else τ1 p,λp q hq=>?_,aA.snoc (h1.imp (q:=[]) (q':=[]) (λ_ _ h=>aR.same e2 h) λc p xs f h=>?_) ((Nat.zero_add ds.length).symm▸h2.imp (q:=[]) (q':=[ds.length]) (λ_ _ h=>h) λc p xs f h=>?_)⟩
 ·dsimp only at hq;by_cases hp:H1 p=none
  ·exact e1.free hp
  ·rw[if_neg hp]at hq;exact f1 p q hq
 ·have h':=nd.same e2 h;cases f with
  |ow =>
   refine⟨h'.1,?_⟩;show(if H1 p=none then(τ2 p).map (· ++ [ds.length])else τ1 p)=_;rw[if_neg (h.1.ne)];exact h.2
  |fz=>exact h'
  |al=>exact h'
  |sc=>exact h'
 ·cases f with
  |ow =>
   refine⟨h.1,?_⟩;show(if H1 p=none then(τ2 p).map (· ++ [ds.length])else τ1 p)=_;rw[if_pos (f2 p _ h.2),h.2];simp
  |fz=>exact h
  |al=>exact h
  |sc=>exact h
structure Yl(K:ai)(J:It)(R:af)(H1:Hp)(items:aa):Prop where
 go:∀i H',aF H1 H'->i<items.length->J.go i H'
 sh:∀i H' x kf,aF H1 H'->i<items.length->J.sh i H' x kf->aF H' kf/\∃d,items[i]?=some d/\Rep (aR K kf) (nd K R (λ_=>False) (λ_=>none) kf) [] x d
 stop:∀i H',aF H1 H'->items.length<=i->J.stop i H'
variable {C i1 i2 l1 l2:Addr}{s₂:Shared}
section
variable {X:Cx}{S:Sx}{k:Nat}{F:af}{Φ:ba}
def jH(X:Cx)(F:af)(τ:Addr->Option bg)(fv:aK)(H2:Hp)(p:Addr):Prop:=H2 p≠none/\iL (gP X F) τ fv p
theorem sT{R:af}{τt:Addr->Option bg}{H:Hp}(Si:SI X F R τ ρ σ H)(fr:∀p q,τt p=some q->H p=none)(hs:∀i∈fv,i∈fv')(kp kq:bg)(p:Addr)(xs:Nd)(f:Fl)
  (h:nd X.K R (iL (gP X F) τ fv) τt H2 kp p xs f):nd X.K (jH X F τ fv' H2) (λ_=>False) (λ_=>none) H2 kq p xs (a_ f):=by
 cases f with
 |ow=>exact⟨h.1,h.1.ne,.inr (Si.same.free (fr p _ h.2)),λc i e=>absurd (fr p _ h.2) (Si.th p _ e)⟩
 |fz=>exact⟨h.1,h.1.ne,Si.rf p h.2,λc i e=>by rw[Si.rt p h.2]at e;cases e⟩
 |al=>exact⟨h.1,h.1.ne,h.2.mono hs⟩
 |sc=>exact h
theorem A6{a:Addr}{R:af}{q:bg}(hl:cI X.K H1 a xs)(rs:aA (aR X.K H1) (nd X.K R (λ_=>False) (λ_=>none) H1) q 0 xs items):Yl X.K (JE X.K a) R H1 items where
 go:=λi H' e hi=>⟨xs,xs[i]'(by rw[rs.length];exact hi),e.seq hl,Xq _⟩
 sh:=λi H' x kf e hi y=>by
  obtain⟨rfl,y⟩:=y;obtain⟨d,hd,rd⟩:=rs.tP (y xs (e.seq hl));refine⟨aF.refl _,d,hd,?_⟩;have:=Rep.gH (g:=id) (λ_ _ h=>h) nd.l8 rd [];rw[dA]at this;exact this.imp (λ_ _ h=>aR.same e h) λ_ _ _ _ h=>nd.same e h
 stop:=λi H' e hi=>⟨xs,e.seq hl,by rw[rs.length];exact hi⟩
theorem ET{a:Addr}{R:af}{q:bg}(hl:aR X.K H1 a xs)(rs:aA (aR X.K H1) (nd X.K R (λ_=>False) (λ_=>none) H1) q 0 xs items):Yl X.K (JD X.K a) R H1 items where
 go:=λi H' e hi=>⟨xs,xs[i]'(by rw[rs.length];exact hi),aR.same e hl,Xq _⟩
 sh:=λi H' x kf e hi y=>by
  obtain⟨rfl,y⟩:=y;obtain⟨d,hd,rd⟩:=rs.tP (y xs (aR.same e hl));refine⟨aF.refl _,d,hd,?_⟩;have:=Rep.gH (g:=id) (λ_ _ h=>h) nd.l8 rd [];rw[dA]at this;exact this.imp (λ_ _ h=>aR.same e h) λ_ _ _ _ h=>nd.same e h
 stop:=λi H' e hi=>⟨xs,aR.same e hl,by rw[rs.length];exact hi⟩
theorem EU{lo:Int}{n:Nat}{R:af}:Yl X.K (xF lo n) R H1 ((List.range n).map λ(k:Nat)=>D.int (lo+(k:Int))) where
 go:=λi H' e hi=>by simpa [xF]using hi
 sh:=λi H' x kf e hi y=>by
  obtain⟨rfl,rfl⟩:=y;have dj:i<n:=by simpa using hi
  exact⟨aF.refl _,.int (lo+i),by rw[List.getElem?_map,List.getElem?_range dj];rfl,.int _⟩
 stop:=λi H' e hi=>by simpa [xF]using hi
theorem yp{n:Nat}{t:Tg}{sc:Scope}{cl:List (Str×Addr)}{R:af}(Si:SI X F R τ ρ σ H2)(hs:∀i∈caps,i∈fv):
  SI (du X (bL target++fh S caps) sc cl C s₂ H2 fp) (iL (gP X F) τ fv) (jH X F τ fv H2) (λ_=>none) (bE n caps ρ) (mQ n caps σ) H2:=by
 refine⟨by simp[bE,mQ],λi d hi=>?_,λ_ _=>rfl,λp h=>h.1,λp h=>.inl h.2,λ_ _ h=>by simp at h,λ_ _ h=>by simp at h,aF.refl _⟩;unfold bE at hi;have hn:n<=i:=by
  by_cases hn:i<n
  ·rw[List.getElem?_append_left (by simpa using hn),List.getElem?_replicate,if_pos hn]at hi;cases hi
  ·left
 rw[List.getElem?_append_right (by simpa using hn),List.length_replicate,List.getElem?_map]at hi;cases hc:caps[i - n]? with
 |none=>rw[hc]at hi;exact nk hi
 |some ci =>
  rw[hc]at hi;have dj:(ρ[ci]?.getD none).map (aW a_)=some d:=Xv hi;have hr:∃d0,ρ[ci]?=some (some d0)/\aW a_ d0=d:=by
   cases q:ρ[ci]? with
   |none=>rw[q]at dj;cases dj
   |some o =>
    cases o with
    |none=>rw[q]at dj;cases dj
    |some d0=>rw[q]at dj;exact⟨d0,rfl,Xv dj⟩
  obtain⟨d0,h0,rfl⟩:=hr;obtain⟨v,hv,rv⟩:=Si.rep ci d0 h0;refine⟨v,?_,Rep.gH (λ_ _ h=>h) (λkp kq p xs f h=>?_) ((rv.imp (q:=[ci]) (q':=[ci]) (N':=λq p xs f=>nd X.K R (λ_=>False) τ H2 q p xs f/\(f=.ow->∃c,q=c++[ci])) (λ_ _ h=>h) λc p xs f h=>⟨h,λ_=>⟨c,rfl⟩⟩)) [i]⟩
  ·unfold mQ;rw[List.getElem?_append_right (by simpa using hn),List.length_replicate,List.getElem?_map,hc];simp[hv]
  ·obtain⟨h,hq⟩:=h;cases f with
   |ow =>
    obtain⟨c,rfl⟩:=hq rfl;refine⟨h.1,h.1.ne,.inr (Si.t0 p _ h.2),λc' i' e=>?_⟩;rw[h.2]at e;have:=X0 List.getLast? (Xv e);simp at this;subst this;exact hs _ (Xw hc)
   |fz=>exact⟨h.1,h.1.ne,Si.rf p h.2,λc i e=>by rw[Si.rt p h.2]at e;cases e⟩
   |al=>exact h.2.elim
   |sc=>exact h
theorem zc:∀{es:aw},es.all isNm=true->∃xs:List (Str×Pos),es=xs.map λx=>Expr.Name x.1 x.2
 |[],_=>⟨[],rfl⟩
 |e::es,h=>by
  rw[List.all_cons,Bool.and_eq_true]at h;obtain⟨xs,rfl⟩:=zc h.2;cases e<;>simp[isNm]at h;exact⟨(_,_)::xs,rfl⟩
theorem sO(xs:List (Str×Pos)):(xs.map λx=>Expr.Name x.1 x.2).filterMap (λe=>match e with|.Name x _=>some x|_=>none)=xs.map (·.1):=by
 induction xs with
 |nil=>rfl
 |cons x xs ih=>simp[ih]
def z8(i:Nat):Nat->DE
 |0=>Hu
 |n+1=>z9 (nP i) (z8 (i+1) n)
theorem uI{X:Cx}(hN:X.N.Nodup):∀(xs:List (Str×Pos)) (i:Nat),(∀(j:Nat) x,xs[j]?=some x->X.N[i+j]?=some x.1/\X.env.scope.names.lookup x.1=some .local) ->
  JB X (xs.map λx=>Expr.Name x.1 x.2) (z8 i xs.length)/\(assignEach (xs.map λx=>Expr.Name x.1 x.2) X.env).length=xs.length/\(assignEach (xs.map λx=>Expr.Name x.1 x.2) X.env).findIdx? (·.1)=none
 |[],_,_=>⟨uH,rfl,rfl⟩
 |x::xs,i,h=>by
  obtain⟨h1,h2,h3⟩:=uI hN xs (i+1) λj y hy=>by
   have:=h (j+1) y (by simpa using hy)
   rwa [show i+(j+1)=i+1+j by left]at this
  obtain⟨g1,g2⟩:=h 0 x rfl;refine⟨qG (oO hN g1 (.inl g2) (.inr g2)) h1 rfl,?_,?_⟩
  ·show(_::assignEach _ X.env).length=_;rw[List.length_cons,h2];rfl
  ·show(((false,assign (.Name x.1 x.2) X.env)::assignEach (xs.map λx=>Expr.Name x.1 x.2) X.env)).findIdx? (·.1)=none;rw[List.findIdx?_cons];simp[h3]
end
section
variable {X:Cx}{F R:af}{τ:Addr->Option bg}{ρ:aZ}{σ σ':St}{H:Hp}
theorem SI.Kl{i:Nat}{v:V}{d:D}(Si:SI X F R τ ρ σ H)(rp:Rep (aR X.K H) (nd X.K R (λ_=>False) (λ_=>none) H) [] v d)(hi:i<ρ.length):SI X F R τ (ρ.set i (some d)) (σ.set i (some v)) H:=by
 refine⟨by simp[Si.len],λj d' hj=>?_,Si.rt,Si.rh,Si.rf,Si.th,Si.t0,Si.same⟩;by_cases cX:j=i
 ·subst cX;rw[List.getElem?_set_self hi]at hj;cases hj;refine⟨v,List.getElem?_set_self (by rw[<- Si.len];exact hi),rp.imp (q':=[j]) (λ_ _ h=>h) λc p xs f h=>?_⟩;cases f with
  |ow=>exact nomatch h.2
  |fz=>exact h
  |al=>exact h
  |sc=>exact h
 ·rw[List.getElem?_set_ne (Ne.symm cX)]at hj;obtain⟨w,hw,jJ⟩:=Si.rep j d' hj;exact⟨w,by rw[List.getElem?_set_ne (Ne.symm cX)];exact hw,jJ⟩
theorem SI.sig(Si:SI X F R τ ρ σ H)(hl:σ'.length=σ.length)(h:∀(i:Nat) d,ρ[i]?=some (some d)->σ'[i]?=σ[i]?):SI X F R τ ρ σ' H :=
 ⟨by rw[hl];exact Si.len,λi d hi=>let ⟨v,hv,r⟩:=Si.rep i d hi;⟨v,by rw[h i d hi];exact hv,r⟩,Si.rt,Si.rh,Si.rf,Si.th,Si.t0,Si.same⟩
theorem lH{Q:St->Hp->Prop}(σ0:St)(hi:Nat):∀{m i:Nat} {vs:ae} {ds:aa} {kp:bg} {q:Nat} {σ:St} {ρ ρ':aZ},i+m=hi->aA (aR X.K H) (nd X.K R (λ_=>False) (λ_=>none) H) kp q vs ds->SI X F R τ ρ σ H->gb (List.range' i m) ds ρ=ok ρ' ->
  σ.length=σ0.length->(∀j,hi<=j->σ[j]?=σ0[j]?)->(∀σ',σ'.length=σ0.length->(∀j,hi<=j->σ'[j]?=σ0[j]?)->SI X F R τ ρ' σ' H->Q σ' H)->z8 i m vs σ H Q
 |0,_,_,_,_,_,σ,_,_,_,.nil,Si,e,h1,h2,hq=>by
  cases e;exact⟨rfl,hq σ h1 h2 Si⟩
 |0,_,_,_,_,_,_,_,_,_,.cons _ _,_,e,_,_,_=>by cases e
 |m+1,_,_,_,_,_,_,_,_,_,.nil,_,e,_,_,_=>by cases e
 |m+1,i,_,_,_,_,σ,ρ,_,him,.cons (v:=v) (d:=d) h t,Si,e,h1,h2,hq=>by
  change (if _ then _ else _)=_ at e;split at e
  ·rename_i dj;have fJ:=Si.Kl (i:=i) (Rep.oV h) dj;refine⟨_,_,rfl,lH σ0 hi (by left) t fJ e (by simpa using h1) (λj hj=>?_) hq⟩;rw[List.getElem?_set_ne (by left)];exact h2 j hj
  ·cases e
end
section
variable {X:Cx}{S:Sx}{k:Nat}{F:af}{Φ:ba}
theorem Fc{n:Nat}{t:Tg}{sc:Scope}{cl:List (Str×Addr)}(L3:X.calm=true)(co:iT S n t caps target sc):
  ∃g,PG (du X (bL target++fh S caps) sc cl C s₂ H2 fp) target g/\∀(F' R':af) (x:V) (d:D) (σ':St) (kf:Hp) (Q:St->Hp->Prop) (ρb ρ1:aZ),
   SI (du X (bL target++fh S caps) sc cl C s₂ H2 fp) F' R' (λ_=>none) ρb σ' kf->Rep (aR X.K kf) (nd X.K R' (λ_=>False) (λ_=>none) kf) [] x d->aY ck d=false->cg t d ρb=ok ρ1 ->
   (∀σ2,σ2.length=σ'.length->(∀j,n<=j->σ2[j]?=σ'[j]?)->SI (du X (bL target++fh S caps) sc cl C s₂ H2 fp) F' R' (λ_=>none) ρ1 σ2 kf->Q σ2 kf)->g x σ' kf Q:=by
 have Ha:∀x∈bL target,(relabel sc X.env).names.lookup x=some .local:=λx hx=>lookup_relabel_local (co.tl x hx);rcases co.tg with ⟨x,p,rfl,rfl⟩|⟨es,kk,p,rfl,rfl,w4⟩
 ·have hn:n=1:=co.n;subst hn;refine⟨nP 0,oO co.nd rfl (.inl (Ha x (List.mem_singleton.mpr rfl:x∈[x]))) (.inr (Ha x (List.mem_singleton.mpr rfl:x∈[x]))),λF' R' v d σ' kf Q ρb ρ1 Si rp _ e hq=>?_⟩;simp only[cg]at e;split at e
  ·rename_i hi;cases e;refine hq _ (by simp) (λj hj=>?_) (Si.Kl rp hi);rw[List.getElem?_set_ne (by left)]
  ·cases e
 ·obtain⟨xs,rfl⟩:=zc w4;have hN:bL (.Tuple (xs.map λx=>Expr.Name x.1 x.2) kk p)=xs.map (·.1):=sO xs;have hn:n=xs.length:=by rw[co.n,hN,List.length_map]
  have:=uI (X:=du X (bL (.Tuple (xs.map λx=>Expr.Name x.1 x.2) kk p)++fh S caps) sc cl C s₂ H2 fp) co.nd xs 0 (λj y hy=>by
   refine⟨?_,Ha y.1 (by rw[hN];exact List.mem_map.mpr ⟨y,Xw hy,rfl⟩)⟩;show(bL (.Tuple (xs.map λx=>Expr.Name x.1 x.2) kk p)++fh S caps)[0+j]?=_;have hj:j<xs.length:=by
    by_cases hj:j<xs.length
    ·exact hj
    ·rw[List.getElem?_eq_none (by left)]at hy;cases hy
   rw[hN,Nat.zero_add,List.getElem?_append_left (by simpa using hj),List.getElem?_map,hy];rfl)
  obtain⟨h1,h2,h3⟩:=this;refine⟨_,yP L3 h1 h2 h3,λF' R' v d σ' kf Q ρb ρ1 Si rp ho e hq=>?_⟩;cases d<;>try (simp[cg]at e;done)
  rename_i ds;simp only[cg]at e;split at e
  ·cases e
  ·cases rp with
   | @tup _ a ys _ hp rs =>
    rw[List.length_map]at e;have e':gb (List.range' 0 xs.length) ds ρb=ok ρ1:=by rw[<- List.range_eq_range'];exact e
    refine⟨a,ys,rfl,hp,?_,lH (X:=du X (bL (.Tuple (xs.map λx=>Expr.Name x.1 x.2) kk p)++fh S caps) sc cl C s₂ H2 fp) σ' n (by left) rs Si e' rfl (λ_ _=>rfl) hq⟩;rw[rs.length];have:∀(is:aK) (ds:aa) (ρ ρ':aZ),gb is ds ρ=ok ρ'->ds.length=is.length:=by
     intro is;induction is with
     |nil=>intro ds ρ ρ' e;cases ds with|nil=>rfl|cons _ _=>cases e
     |cons i is ih=>intro ds ρ ρ' e;cases ds with
      |nil=>cases e
      |cons d ds =>
       change (if _ then _ else _)=_ at e;split at e
       ·simp[ih ds _ _ e]
       ·cases e
    rw[this _ _ _ _ e',List.length_range']
theorem R6:∀f:Fl,ck (a_ f)=false:=by intro f;cases f<;>rfl
mutual
theorem Ce:∀d:D,aY ck (aW a_ d)=false
 |.bN=>by simp[aW,aY]
 |.bl _=>by simp[aW,aY]
 |.int _=>by simp[aW,aY]
 |.tup ds=>by simp[aW,aY,fA ds]
 |.lst f ds=>by simp[aW,aY,fA ds,R6]
 |.cu f ks vs=>by simp[aW,aY,fA vs,R6]
theorem fA:∀ds:aa,aS ck (aB a_ ds)=false
 |[]=>by simp[aB,aS]
 |d::ds=>by simp[aB,aS,Ce d,fA ds]
end
theorem va{H:Hp}{h:Heap}{a:Addr}{o:HO}(x:jU P w H h)(hn:H a=none)(new:b8 P w (upd H a o) h a o):jU P w (upd H a o) h:=λb u e=>by
 by_cases hb:b=a
 ·subst hb;rw[aT]at e;cases e;exact new
 ·rw[aQ hb]at e;exact(x b u e).i5 (λc v _ q=>q) (λc q=>by rw[aQ (bR q hn)];exact q) λc xs q=>by rw[aQ (bR q hn)];exact q
structure WS(X X':Cx)(F' R':af)(n:Nat)(base:aZ)(σ0:St)(fp:aP)(tn:Nat->Heap->Prop)(H2:Hp)(D:Addr)(items:List DI.D)(bind:DI.D->O aZ)(test:aZ->O Bool)(el:aZ->O DI.D)(all:List DI.D)(m:Nat)(s':Shared):Prop where
 ex:∃(i:Nat) (vs:ae) (aH:ag) (nn:Nat) (σ':St) (H':Hp) (dn rest:List DI.D),m=items.length - i/\i<=items.length/\Inv X' [(D,dI aH nn)] σ' H' s'/\tn i s'.heap/\(∀b∈fp,H' b=none)/\Vals vs aH/\aF H2 H' /\
  SI X' F' R' (λ_=>none) base σ' H'/\bP X.K (gP X' F') R' (λ_=>none) [] H2 H' vs dn/\gg bind test el (items.drop i)=ok rest/\dn++rest=all
end
theorem bP.go{R:Addr->Prop}{H:Hp}(h:bP K G R τ fv H H1 vs ds)(e:aF H1 H2):bP K G R τ fv H H2 vs ds :=
 let ⟨τt,h1,h2⟩:=h;⟨τt,h1,h2.imp (λ_ _ h=>aR.same e h) λ_ _ _ _ h=>nd.same e h⟩
theorem lO:∀{ds:aa} {d:D},aS ck ds=false->d∈ds->aY ck d=false
 |[],_,_,h=>nomatch h
 |e::ds,d,h,hm=>by
  rw[aS,Bool.or_eq_false_iff]at h;rcases List.mem_cons.mp hm with rfl|z
  ·exact h.1
  ·exact lO h.2 z
theorem wj{d:D}(h:kh d=ok items):∀d∈items,aY ck d=false:=by
 unfold kh at h;split at h
 ·cases h;exact λd hd=>lO (fA _) hd
 ·cases h
theorem tx{ik:IK}{xs:aa}(h:dM Φ ik xs=ok items):∀d∈items,aY ck d=false:=by
 cases ik with
 |cL p=>obtain⟨d,_,h⟩:=aE h;exact wj h
 |kI =>
  cases xs with
  |nil=>cases h
  |cons x t=>cases x<;>first | (cases h;done) | (cases t with
   |cons _ _=>cases h
   |nil =>
    obtain⟨_,h⟩:=mY h;subst h;intro d hd;obtain⟨k,_,rfl⟩:=List.mem_map.mp hd;rfl)
 |seq =>
  cases xs with
  |nil=>cases h
  |cons x t=>cases x<;>first | (cases h;done) | (cases t with
   |cons _ _=>cases h
   |nil=>cases h;exact λd hd=>lO (fA _) hd)
theorem tG{n:Nat}{i:Nat}{d:D}(h:(bE n caps ρ)[i]?=some (some d)):n<=i:=by
 unfold bE at h;by_cases hn:i<n
 ·rw[List.getElem?_append_left (by simpa using hn),List.getElem?_replicate,if_pos hn]at h;cases h
 ·left
variable {c' elt:CE}{bC cs es:aD}
section
variable {X:Cx}{S:Sx}{k:Nat}{F:af}{Φ:ba}
theorem zp{n:Nat}{t:Tg}{sc:Scope}{cl:List (Str×Addr)}(L:Lk X S k Φ)(co:iT S n t caps target sc):
  Lk (du X (bL target++fh S caps) sc cl C s₂ H2 fp) (S.inner target caps sc) k Φ:=by
 refine⟨?_,rfl,co.nd,L.calm,L.room,L.bl,λf x h=>⟨(L.fn f x h).ex⟩,L.cs,L.pr⟩;show relabel sc X.env=qz sc S.sc;rw[<- L.sc];rfl
theorem rL(L:Lk X S k Φ){n:Nat}{t:Tg}{ik:IK}{ifs:aw}{sc:Scope}(co:iT S n t caps target sc)(xI:nI iter=true)
    (hE:∀(X':Cx) (F':af),Lk X' (S.inner target caps sc) k Φ->PE X' ic (tD X' F' Φ elt))
    (hC:(bC=[]/\ifs=[])\/∃c e,bC=[c]/\ifs=[e]/\∀(X':Cx) (F':af),Lk X' (S.inner target caps sc) k Φ->PT X' e (f_ X' F' Φ c))
    (hI:∀(pins:ah) (s:Shared) (σ:St) (H:Hp) (R:af) (τ:Addr->Option bg) (ρ:aZ) (xs items:aa),Inv X pins σ H s->SI X F R τ ρ σ H->bV Φ es ρ=ok xs->dM Φ ik xs=ok items->∀Rr:It->Hp->Prop,
      (∀J H2,aF H H2->Yl X.K J (jH X F τ (caps++cA es) H2) H2 items->Rr J H2)->wpAny (model X.prog X.w) X.A (eval iter X.env) (λv s1=>wpAny (model X.prog X.w) X.A (pyIter v) (xE X pins σ target Rr) X.xe s1) X.xe s)
    {use:Option (Value->Sem Unit)} {Post:aq} {pins:ah} {s:Shared} {H:Hp} {R:af} {d:D} {Q2:Pos} (I:Inv X pins σ H s) (Si:SI X F R τ ρ σ H) (ev:bA Φ (.comp n t caps ik es bC elt) ρ=ok d)
    (LN:∀(acc C:Addr) (H1:Hp) (s1:Shared) (m:aU),s1.heap.Ns C m->(C≠X.env.locals/\X.s₀.heap.objs.size<=C/\(∀x c,X.env.cells.lookup x=some c->c≠C)/\(∀p∈X.pn++pins,p.1≠C)/\H1 C=none)->(∀h',Heap.SameBut C s1.heap h'->Inv X pins σ H1 { s1 with heap:=h' })->aF H H1 ->
      bJ X.K (gP X F) R τ (h_ (.comp n t caps ik es bC elt)) H H1 (.ref acc) d->compPost (model X.prog X.w) X.A X.xe use Post (.ref acc) C (.ok .next) s1) :
    wpAny (model X.prog X.w) X.A (comprehension (.ListComp ic [⟨target,iter,ifs,0⟩] sc pos) sc X.env Q2 (newList []) false (eval iter X.env) use) Post X.xe s:=by
  obtain⟨xs,b6,ev⟩:=aE ev;obtain⟨items,tT,ev⟩:=aE ev;obtain⟨ds,HY,ev⟩:=aE ev;simp only[Ei]at ev;obtain⟨m3,rfl⟩:=ev;have LR:=tx tT;obtain⟨cl,L1,ku,tM⟩:=t4 (env:=X.env) (sc:=sc) (λx hx=>I.ok.has x (by
    show X.env.scope.names.lookup x=some .cell\/X.env.scope.names.lookup x=some .free;rw[L.sc];exact co.free x hx))
  have l4:∀x,foldedSetIterable iter X.env x=pure x:=by intro x;cases iter<;>first|rfl | (cases xI;done)
  refine wpAny_comprehension_free (use:=use) rfl l4 L1 co.kind co.loc (XE (hI pins s σ H R τ ρ xs items I Si b6 tT (λJ H2=>aF H H2/\Yl X.K J (jH X F τ (caps++cA es) H2) H2 items) (λJ H2 e y=>⟨e,y⟩)) (λxv s₁ h₁=>XE h₁ (λPy s₂ h₂=>?_) λ_ _ e=>e) λ_ _ e=>e);obtain⟨it,fp,tn,J,H2,rfl,I2,T,eU,f2,e2,yl⟩:=h₂;have AB:=Si.go e2;have Hd:∀b∈fp,b<s₂.heap.objs.size:=λb hb=>let ⟨o,ho,_⟩:=T.obj 0 _ eU b hb;Xk ho;refine XR (wpAny_newFunctionEnv co.y_ (by intro y hy;simp at hy) (λh₁ o5 l0=>?_) co.kind);dsimp only at o5 l0 ⊢;generalize QL:s₂.heap.push { cls:=.type "list",dict:=none,data:=.seq ([]:ag).toArray }=G2 at o5 l0 ⊢;have Tj:G2.objs.size=s₂.heap.objs.size+1:=by rw[<- QL,Heap.size_push]
  have NR:s₂.heap.objs.size≠s₂.heap.objs.size+1:=Xt (Yi _);rw[Tj]at o5 l0;have old:∀b o,s₂.heap.get? b=some o->h₁.get? b=some o:=λb o e=>l0.extBut b o (Xt (XN (Xk e))) (Xj _ (QL▸Xj _ e));have fR:h₁.get? s₂.heap.objs.size=some (dI [] 0):=l0.extBut _ _ NR (Xj _ (QL▸Xs _ rfl))
  let X':=du X (bL target++fh S caps) sc cl (s₂.heap.objs.size+1) s₂ H2 fp
  let F':=iL (gP X F) τ (caps++cA es)
  let R':=jH X F τ (caps++cA es) H2
  have L':Lk X' (S.inner target caps sc) k Φ:=zp L co;have I4:=λtk=>zH (h₁:=h₁) (tk:=tk) L co I2 ku tM f2 Hd (by simpa using o5) old fR;have S4:SI X' F' R' (λ_=>none) (bE n caps ρ) (mQ n caps σ) H2:=yp (t:=t) AB (λi hi=>by simp[hi]);obtain⟨g,hg,zR⟩:=Fc (X:=X) (S:=S) (cl:=cl) (fp:=fp) (s₂:=s₂) (H2:=H2) (C:=s₂.heap.objs.size+1) L.calm co;have QM:s₂.heap.objs.size∉X'.fs:=λz=>by
    rcases List.mem_cons.mp (I2.jE _ z)with w|w
    · exact absurd w (Xx I2.lt)
    · exact I2.Gn (Xp _) w
  have Hg:∀x c,cl.lookup x=some c->c≠s₂.heap.objs.size:=λx c e=>by
    obtain⟨v,q⟩:=I2.cell x c (ku x c e);exact Xt q.lt
  have CD:∀b∈fp,b≠X'.env.locals/\b∉X'.fs/\(b∈X'.ex\/X'.s₀.heap.objs.size<=b)/\(∀x c,X'.env.cells.lookup x=some c->c≠b):=λb hb =>
    ⟨Xt (XN (Hd b hb)),λz=>by
      rcases List.mem_cons.mp (I2.jE b z)with w|w
      · exact(f2 b hb).2.1 w
      · exact(f2 b hb).2.2.1 w,.inl hb,λx c e=>(f2 b hb).2.2.2.2.1 x c (ku x c e)⟩
  have LW:∀b∈fp,b≠s₂.heap.objs.size:=λb hb=>Xt (Hd b hb);have fin:∀(vs:ae) (aH:ag) (nn:Nat) (σ':St) (H':Hp) (s1:Shared),Inv X' [(s₂.heap.objs.size,dI aH nn)] σ' H' s1->Vals vs aH->aF H2 H'->bP X.K (gP X' F') R' (λ_=>none) [] H2 H' vs ds ->
      compPost (model X.prog X.w) X.A X.xe use Post (.ref s₂.heap.objs.size) (s₂.heap.objs.size+1) (.ok .next) s1:=by
    intro vs aH nn σ' H' s1 I1 rv sm BH;obtain⟨m,hn,_⟩:=I1.loc;obtain⟨pD,nD,_,_,_⟩:=I1.pin (s₂.heap.objs.size,dI aH nn) (Xr _ Xo);have bs:=I1.base;have Ed:∀b o,s₂.heap.get? b=some o->b≠s₂.heap.objs.size+1:=λb o e=>Xt (XN (Xk e));have UY:∀b o,s₂.heap.get? b=some o->b≠s₂.heap.objs.size:=λb o e=>Xt (Xk e);have Oj:∀b u,H' b=some u->upd H' s₂.heap.objs.size (.lst vs) b=some u:=λb u e=>by rw[aQ (bR e nD)];exact e
    have hlen:vs.length<=sizeLine:=by
      obtain⟨_,_,rr⟩:=BH;have hz:sizeLine=16777216:=Yh;have hc:eO=1000000:=rfl;rw[rr.length];left
    have IX:∀h',Heap.SameBut (s₂.heap.objs.size+1) s1.heap h'->Inv X pins σ (upd H' s₂.heap.objs.size (.lst vs)) { s1 with heap:=h' }:=λh' u0=>by
      have un:Un (xM X.stack) fp H2 (upd H' s₂.heap.objs.size (.lst vs)) s₂.heap h' :=
        ⟨λb o e n hb hx=>u0.extBut b o (Ed b o e) (bs.keep b o e n hb hx),
         λb o e n hb hx=>let ⟨sl,q⟩:=bs.slot b o e n hb hx;⟨sl,u0.extBut b _ (Ed b o e) q⟩,
         λb o e n hx=>by rw[aQ (UY b o e)];exact bs.free b o e n hx,
         λb o e hx=>let ⟨o',q⟩:=bs.there b o e hx;⟨o',u0.extBut b _ (Ed b o e) q⟩,
         λb xs e=>Oj b _ (bs.oy b xs e),λb o u e=>Oj b _ (bs.m6 b o u e),λb ps e=>let ⟨more,q⟩:=bs.oz b ps e;⟨more,Oj b _ q⟩⟩
      have Qg:jU X.prog X.w H' h':=λa o e=>(I1.cq a o e).i5 (λb u hb q=>u0.extBut b u (by
        rintro rfl;have hf:H' (s₂.heap.objs.size+1)=none:=I1.free;rcases hb with z|z
        · rw[<- z,hf]at e;cases e
        · rw[hf]at z;cases z) q) (λ_ q=>q) λ_ _ q=>q
      have Qf:jU X.prog X.w (upd H' s₂.heap.objs.size (.lst vs)) h':=va Qg nD ⟨hlen,aH,nn,rv,u0.extBut _ _ NR pD⟩;exact I2.MM (ch:=fp) I1.os un Qf I1.bare λb hb=>⟨(f2 b hb).2.2.2.1,(f2 b hb).2.1,(f2 b hb).2.2.2.2.1,(f2 b hb).2.2.2.2.2⟩
    have eS:aF H' (upd H' s₂.heap.objs.size (.lst vs)):=aF.upd nD;obtain⟨τt,fr,rs⟩:=BH;have Pg:s₂.heap.objs.size+1≠s₂.heap.objs.size:=Nat.succ_ne_self _;refine LN s₂.heap.objs.size (s₂.heap.objs.size+1) _ s1 m hn ⟨Xx (XN I2.lt),Zo I2.sz,λx c e=>?_,λp hp=>?_,?_⟩ IX ((e2.trans sm).trans eS) ⟨λq=>if q=s₂.heap.objs.size then some []else τt q,λq z hz=>?_,.lst ⟨aT,by simp⟩ (aA.map (q:=[]) (q':=[]) (λ_ _ h=>aR.same eS h) (λc p ys f h=>?_) rs [] rfl)⟩
    · obtain⟨v,z⟩:=I2.cell x c e
      exact Xt (XN z.lt)
    · exact Xt (XN (Xk (I2.pin p hp).1))
    · rw[aQ Pg];exact I1.free
    · by_cases tI:q=s₂.heap.objs.size
      · rw[tI];exact e2.free (sm.free nD)
      · simp only[tI,if_false]at hz;exact e2.free (fr q z hz)
    · have h':=nd.same eS h
      have RE:∀p,gP X' F' p->iL (gP X F) τ (caps++cA es) p:=λp hp=>hp.elim id λz=>⟨.inr (AB.same.free z),λc i e=>absurd z (AB.th p _ e)⟩
      cases f with
      |ow =>
        have tI:p≠s₂.heap.objs.size:=by
          intro z;subst z;exact h.1.ne nD
        refine⟨h'.1,?_⟩;show(if p=s₂.heap.objs.size then some []else τt p)=_;rw[if_neg tI];exact h'.2
      |fz=>exact⟨h'.1,h'.2.2⟩
      |al=>exact⟨h'.1,RE p h'.2.1⟩
      |sc=>exact h'
  have Ui:∀(P:ah) (ρ1:aZ) (b:Bool) (σ2:St) (H5:Hp) (s6:Shared),gd Φ bC ρ1=ok b->Inv X' P σ2 H5 s6->SI X' F' R' (λ_=>none) ρ1 σ2 H5 ->
      wpAny (model X.prog X.w) X.A (forIn ifs true λc r=>if r=true then do let ok <- isTrue c X'.env (eval c X'.env);pure (ForInStep.yield ok)else pure (ForInStep.yield r)) (λPb s7=>Pb=b/\∃H7,Inv X' P σ2 H7 s7/\aF H5 H7) (λ_ _=>False) s6:=by
    intro P ρ1 b σ2 H5 s6 eb I6 S6;rcases hC with ⟨rfl,rfl⟩|⟨c,e,rfl,rfl,hPT⟩
    · rw[gd]at eb;cases eb
      exact wpAny_tests_nil ⟨rfl,H5,I6,aF.refl _⟩
    · rw[gd]at eb
      obtain⟨b',Wh,eb⟩:=aE eb;have hb:b'=b:=by
        cases b' with
        |true=>rw[if_pos rfl,gd]at eb;cases eb;rfl
        |false=>rw[if_neg (by simp)]at eb;cases eb;rfl
      subst hb;refine wpAny_tests_one (XE (hPT X' F' L' P s6 σ2 H5 (λT4 H7=>T4=b'/\aF H5 H7) I6 ⟨R',_,ρ1,b',S6,Wh,λH7 e7=>⟨rfl,e7⟩⟩) (λT4 s7 ⟨H7,I7,hb,e7⟩=>⟨hb,H7,I7,e7⟩) λ_ _ e=>e)
  have loop:∀tk,codeAny (model X.prog X.w) X.A (.compLoop (.ListComp ic [⟨target,iter,ifs,0⟩] sc pos) 0 (.ref it) (.ref s₂.heap.objs.size) X'.env)
      (compPost (model X.prog X.w) X.A X.xe use Post (.ref s₂.heap.objs.size) (s₂.heap.objs.size+1)) { s₂ with heap:=h₁,toks:=tk }:=by
    intro tk;refine pC (WS X X' F' R' n (bE n caps ρ) (mQ n caps σ) fp tn H2 s₂.heap.objs.size items (λd=>cg t d (bE n caps ρ)) (λρ'=>gd Φ bC ρ') (λρ'=>bA Φ elt ρ') ds) ?_ items.length
      ⟨0,[],[],0,mQ n caps σ,H2,[],ds,rfl,XH _,I4 tk,T.keep _ _ _ eU (λb _ o e=>old b o e),λb hb=>(f2 b hb).1,.nil,aF.refl _,S4,.nil,by rw[List.drop_zero];exact HY,rfl⟩
    rintro m s' ⟨i,vs,aH,nn,σ',H',dn,rest,hm,hi,I',aO,fr',rv,sm,fJ,BH,eM,eall⟩;have Hw:∀b∈fp,mG X' [(s₂.heap.objs.size,dI aH nn)] H' b:=λb hb=>⟨fr' b hb,(CD b hb).1,(CD b hb).2.1,(CD b hb).2.2.1,(CD b hb).2.2.2,λp hp=>by
      have tJ:p=(s₂.heap.objs.size,dI aH nn):=by simpa [X',du]using hp
      rw[tJ];exact(LW b hb).symm⟩
    by_cases b9:i<items.length
    · refine XE (T.item X' rfl rfl rfl L.calm i _ s' σ' H' (λ_ _=>False) I' Hw aO (yl.go i H' sm b9)) (λr s1 h4=>?_) λ_ _ e=>e
      obtain⟨u,hr,h4⟩:=h4;subst hr;refine XE h4 (λ_ s5 h5=>?_) λ_ _ e=>e;obtain⟨x,H5,I5,r5,y5,DZ,Q1⟩:=h5;obtain⟨e5,dd,hd,rd⟩:=yl.sh i H' x H5 sm b9 y5;have RN:=I5.pinned (fp:=fp) (λb hb=>⟨Q1 b hb,(Hw b hb).2⟩) (T.obj _ _ DZ);have rl:items.drop i=dd::items.drop (i+1):=by
        rw[List.drop_eq_getElem_cons b9];rw[List.getElem?_eq_getElem b9]at hd;cases hd;rfl
      rw[rl,gg]at eM;obtain⟨ρ1,eb,eM⟩:=aE eM;obtain⟨bb,et,eM⟩:=aE eM;refine XE (hg _ s5 σ' H5 x u (λσ2 H6=>H6=H5/\σ2.length=σ'.length/\(∀j,n<=j->σ2[j]?=σ'[j]?)/\SI X' F' R' (λ_=>none) ρ1 σ2 H5) RN r5
        (zR F' R' x dd σ' H5 _ (bE n caps ρ) ρ1 (fJ.go e5) rd (LR dd (Xw hd)) eb λσ2 g1 g2 g3=>⟨rfl,g1,g2,g3⟩)) (λ_ s6 h6=>?_) λ_ _ e=>e
      obtain⟨σ2,H6,I6,rfl,g1,g2,S6⟩:=h6;refine XE (Ui _ ρ1 bb σ2 H6 s6 et I6 S6) (λPb s7 h7=>?_) λ_ _ e=>e;obtain⟨rfl,H7,I7,e7⟩:=h7;have Oq:∀{P:ah} {σ3:St} {H8:Hp} {s8:Shared},Inv X' (P++gD fp s5.heap) σ3 H8 s8->tn (i+1) s8.heap/\∀b∈fp,H8 b=none:=λ{P σ3 H8 s8} I8 =>
        ⟨T.keep _ _ _ DZ λb hb o e=>(I8.pin (b,o) (Xr _ (Xr _ (fQ hb e)))).1,λb hb=>by
          obtain⟨o,e,_⟩:=T.obj _ _ DZ b hb;exact(I8.pin (b,o) (Xr _ (Xr _ (fQ hb e)))).2.1⟩
      have EE:∀{H8:Hp},aF H7 H8->SI X' F' R' (λ_=>none) (bE n caps ρ) σ2 H8:=λ{H8} e8=>(fJ.go ((e5.trans e7).trans e8)).sig g1 λj d hj=>g2 j (tG hj);cases Pb with
      |false =>
        rw[if_neg (by simp)]at eM ⊢;exact⟨items.length - (i+1),by left,i+1,vs,aH,nn,σ2,H7,dn,rest,rfl,b9,I7.i3,(Oq I7).1,(Oq I7).2,rv,(sm.trans e5).trans e7,EE (aF.refl _),BH.go (e5.trans e7),eM,eall⟩
      |true =>
        rw[if_pos rfl]at eM ⊢;obtain⟨y,ey,eM⟩:=aE eM;obtain⟨ys,rC,eM⟩:=aE eM;cases eM;refine XE (hE X' F' L' _ s7 σ2 H7 (λv H8=>aF H7 H8/\bJ X.K (gP X' F') R' (λ_=>none) [] H7 H8 v y) I7 ⟨R',_,ρ1,y,S6.go e7,ey,λv H8 e8 r8=>⟨e8,?_⟩⟩) (λu8 s8 h8=>?_) λ_ _ e=>e
        · obtain⟨τt,fr,rr⟩:=r8
          exact⟨τt,fr,rr.imp (q:=[]) (q':=[]) (λ_ _ h=>h) λc p ys f h=>h.mono id (λh=>⟨h.1,λ_ _ e=>by cases e⟩) id⟩
        · obtain⟨v8,H8,I8,UJ,e8,r8⟩:=h8
          obtain⟨pD,nD,_,_,_⟩:=I8.pin (s₂.heap.objs.size,dI aH nn) (Xr _ (Xz _ Xo));have hlen:aH.length<=1000000:=by
            obtain⟨_,_,rr⟩:=BH;have h1:dn.length<=ds.length:=by rw[<- eall,List.length_append];left
            have hc:eO=1000000:=rfl;rw[<- rv.length,rr.length];left
          have hz:sizeLine=16777216:=Yh;refine Yy PySem.F.slot_list_append ⟨_,pD,rfl⟩ PySem.F.entry_list_append (PySem.F.args_list_append_2 _ _) (PySem.list_append s₂.heap.objs.size aH.toArray nn u8 (by rw[List.size_toArray];left)) ⟨pD,?_⟩;have q:=PySem.IsL.update pD (λx=>x.push u8);have LL:aH.toArray.push u8=(aH++[u8]).toArray:=by simp
          rw[LL]at q;obtain⟨NA,q'⟩:∃NA,(s8.heap.update s₂.heap.objs.size (Obj.mapSeq λx=>x.push u8)).get? s₂.heap.objs.size=some (dI (aH++[u8]) NA):=⟨_,q⟩
          have WA:Inv X' (gD fp s5.heap) σ2 H8 s8:=I8.hJ λp hp=>I8.pin p (Xr _ (Xr _ hp));have T6:Inv X' (gD fp s5.heap) σ2 H8 { s8 with heap:=s8.heap.update s₂.heap.objs.size (Obj.mapSeq λx=>x.push u8),toks:=s8.toks } :=
            WA.turned (it:=s₂.heap.objs.size) (λb o hb e=>(XQ s8.heap (Obj.mapSeq λx=>x.push u8) (YB hb)).trans e) nD NR (.inr (Xp _)) Hg λp hp=>by
              have tJ:p∈gD fp s5.heap:=by simpa [X',du]using hp
              exact LW p.1 (nH tJ).1
          have kp:=Oq (P:=[]) (by rw[List.nil_append];exact T6);refine⟨items.length - (i+1),by left,i+1,vs++[v8],aH++[u8],NA,σ2,H8,dn++[y],ys,rfl,b9,T6.hJ (λp hp=>?_),kp.1,kp.2,rv.append (.cons UJ .nil),((sm.trans e5).trans e7).trans e8,EE e8,bP.snoc ((sm.trans e5).trans e7) e8 (BH.go (e5.trans e7)) r8,rC,by rw[List.append_assoc];exact eall⟩;have tJ:p=(s₂.heap.objs.size,dI (aH++[u8]) NA):=by simpa using hp
          rw[tJ];exact⟨q',nD,NR,QM,λv z=>by cases z⟩
    · refine XE (T.done X' rfl rfl rfl L.calm i _ s' σ' H' (λ_ _=>False) I' Hw aO (yl.stop i H' sm (by left))) (λr s1 h1=>?_) λ_ _ e=>e
      obtain⟨hr,I1⟩:=h1;subst hr;have Qn:items.drop i=[]:=YQ (by left);rw[Qn,gg]at eM;cases eM;rw[List.append_nil]at eall;subst eall;exact fin vs aH nn σ' H' s1 I1 rv sm BH
  have key:=λtk=>codeAny_compStart_list (loop tk) (T.self X.A 0 _ _ _ (T.keep _ _ _ eU λb _ o e=>old b o e) (loop tk));rw[Tj];exact key _
theorem BA(L:Lk X S k Φ){n:Nat}{t:Tg}{ik:IK}{ifs:aw}{sc:Scope}(co:iT S n t caps target sc)(xI:nI iter=true)
  (hE:∀(X':Cx) (F':af),Lk X' (S.inner target caps sc) k Φ->PE X' ic (tD X' F' Φ elt))
  (hC:(bC=[]/\ifs=[])\/∃c e,bC=[c]/\ifs=[e]/\∀(X':Cx) (F':af),Lk X' (S.inner target caps sc) k Φ->PT X' e (f_ X' F' Φ c))
  (hI:∀(pins:ah) (s:Shared) (σ:St) (H:Hp) (R:af) (τ:Addr->Option bg) (ρ:aZ) (xs items:aa),Inv X pins σ H s->SI X F R τ ρ σ H->bV Φ es ρ=ok xs->dM Φ ik xs=ok items->∀Rr:It->Hp->Prop,
   (∀J H2,aF H H2->Yl X.K J (jH X F τ (caps++cA es) H2) H2 items->Rr J H2)->wpAny (model X.prog X.w) X.A (eval iter X.env) (λv s1=>wpAny (model X.prog X.w) X.A (pyIter v) (xE X pins σ target Rr) X.xe s1) X.xe s) :
  PE X (.ListComp ic [⟨target,iter,ifs,0⟩] sc pos) (tD X F Φ (.comp n t caps ik es bC elt)):=by
 intro pins s σ H Q I hq;obtain⟨R,τ,ρ,d,Si,ev,hq⟩:=hq;rw[eval_ListComp];refine rL L co xI hE hC hI (use:=none) (Post:=EP X pins σ Q) I Si ev λacc C H1 s1 m hn _ IX sm rt=>?_;exact⟨m,hn,λh' u0=>⟨.ref acc,H1,IX h' u0,rfl,hq _ _ sm rt⟩⟩
end
section
variable {X:Cx}{pins:ah}{s:Shared}{σ:L2.St}{H:Hp}
theorem qX{A:av}{E:aq}{l:Addr}{items:aN}{Q:aq}{s:Shared}(hl:s.heap.IsList l items)
  (h:∀s₂:Shared,s₂={ s with heap:=s.heap.push { cls:=.type "list_iterator",data:=.fields #[.ref l,.int 0 0] } }->s₂.heap.IsListIter s.heap.objs.size l 0/\s₂.heap.IsList l items->(∀b∈[s.heap.objs.size,l],b<s₂.heap.objs.size)->l≠s.heap.objs.size->Q (.ref s.heap.objs.size) s₂) :
  wpAny (model prog w) A (pyIter (.ref l)) Q E s:=by
 have b9:l<s.heap.objs.size:=by obtain⟨_,e,_⟩:=hl;exact Xk e
 refine wpAny_pyIter_list hl (h _ rfl ⟨⟨_,Xs _ rfl,rfl,rfl⟩,hl.push _⟩ (λb hb=>?_) (Xt b9));have hz:(s.heap.push { cls:=.type "list_iterator",data:=.fields #[.ref l,.int 0 0] }).objs.size=s.heap.objs.size+1:=Heap.size_push ..;have m4:b=s.heap.objs.size\/b=l:=by simpa using hb
 show b<_;rw[hz];rcases m4 with e|e
 ·rw[e];exact Yi _
 ·rw[e];exact XN b9
theorem qV{o₀:Obj}{s:Shared}(hk:∀b o,b∉[s.heap.objs.size]->(s.heap.push o₀).get? b=some o->h'.get? b=some o):∀b o,s.heap.get? b=some o->h'.get? b=some o:=λb o e =>
 hk b o (λhm=>absurd ((by simpa using hm:b=s.heap.objs.size)▸Xk e) (XA _)) (Xj _ e)
theorem cR{h:Heap}{a:Addr}{aH:aN}(p:PlainL h a aH):h.IsList a aH:=let ⟨o,n,h1,h2,_,h4⟩:=p;⟨o,h1,h2,n,h4⟩
theorem j3(val:Nat->Int)(ns:ab)(hv:∀i,val i=ns.getD i 0):∀k,k<=ns.length->preSum val k=(ns.take k).sum
 |0,_=>by simp[preSum]
 |k+1,h=>by
  have hk:k<ns.length:=by left
  rw[preSum,j3 val ns hv k (by left),hv k,List.take_add_one,List.sum_append];simp[List.getD,hk]
theorem xx(hc:X.calm=true):eT X (.builtin "sum") (λxs H Q=>∃(p:Addr) (ns:ab),xs=[.ref p]/\cI X.K H p (ns.map V.int)/\Q (.int ns.sum) H):=by
 intro pins s σ H xs us Q I r h;obtain⟨p,ns,rfl,hq,q⟩:=h;obtain⟨u,rfl,ru⟩:=r.one;cases ru;obtain⟨aH,rv,pl,hz⟩:=I.list hq;have hlen:aH.length=ns.length:=by have:=rv.length;simpa using this.symm
 refine call_sum_walkG (qX (cR pl) λs₂ e st CF Qr=>?_);subst e;refine⟨_,_,_,_,_,_,λi=>ns.getD i 0,rfl,Walks.list (A:=X.A.in1) (I.ok.hd hc) _ p Qr aH.toArray,st,CF,λi v hP=>?_,λh' tk t' hk=>?_⟩
 ·have hv:aH[i]?=some v:=by simpa using hP
  have hi:i<aH.length:=by
   by_cases z:i<aH.length
   ·exact z
   ·rw[List.getElem?_eq_none (by left)]at hv;cases hv
  have hn:(ns.map V.int)[i]?=some (.int (ns.getD i 0)):=by
   rw[List.getElem?_map,List.getElem?_eq_getElem (by left)];simp[List.getD,show i<ns.length by left]
  obtain⟨u,hu,ru⟩:=rv.get hn;rw[hv]at hu;cases hu;exact ru
 ·refine⟨.int ns.sum,H,I.kept (t':=tk) (qV hk),⟨t',?_⟩,q⟩;have hz:preSum (λi=>ns.getD i 0) aH.toArray.size=ns.sum:=by
   rw[List.size_toArray,hlen,j3 _ ns (λ_=>rfl) _ (Nat.le_refl _),List.take_length]
  rw[hz]
theorem range_all{α:Type}(l:List α)(f:α->Bool)(tr:Nat->Bool)(h:∀i a,l[i]?=some a->tr i=f a):(List.range l.length).all tr=l.all f:=by
 rw[Bool.eq_iff_iff,List.all_eq_true,List.all_eq_true];constructor
 ·intro z a ha;obtain⟨i,hi,e⟩:=List.mem_iff_getElem.mp ha;have:=z i (List.mem_range.mpr hi);rw[h i a (by rw[List.getElem?_eq_getElem hi,e])]at this;exact this
 ·intro z i hi;have hi:=List.mem_range.mp hi;rw[h i l[i] (List.getElem?_eq_getElem hi)];exact z _ (XF hi)
theorem xy(hc:X.calm=true):eT X (.builtin "all") (λxs H Q=>∃(p:Addr) (bs:List Bool),xs=[.ref p]/\cI X.K H p (bs.map V.bl)/\Q (.bl (bs.all id)) H):=by
 intro pins s σ H xs us Q I r h;obtain⟨p,bs,rfl,hq,q⟩:=h;obtain⟨u,rfl,ru⟩:=r.one;cases ru;obtain⟨aH,rv,pl,hz⟩:=I.list hq;have hlen:aH.length=bs.length:=by have:=rv.length;simpa using this.symm
 refine call_all_walk (qX (cR pl) λs₂ e st CF Qr=>?_);subst e;refine⟨_,_,_,_,_,_,λi=>bs.getD i false,rfl,Walks.list (A:=X.A.in1) (I.ok.hd hc) _ p Qr aH.toArray,st,λi v s' Q' E' hP hQ=>?_,λh' tk hk=>?_⟩
 ·have hv:aH[i]?=some v:=by simpa using hP
  have hi:i<aH.length:=by
   by_cases z:i<aH.length
   ·exact z
   ·rw[List.getElem?_eq_none (by left)]at hv;cases hv
  have hn:(bs.map V.bl)[i]?=some (.bl (bs.getD i false)):=by
   rw[List.getElem?_map,List.getElem?_eq_getElem (by left)];simp[List.getD,show i<bs.length by left]
  obtain⟨u,hu,ru⟩:=rv.get hn;rw[hv]at hu;cases hu;cases ru;exact X5 hQ
 ·refine⟨.bl (bs.all id),H,I.kept (t':=tk) (qV hk),?_,q⟩;show Value.bool _=Value.bool _;rw[List.size_toArray,hlen,range_all bs id _ λi a e=>by simp[List.getD,e]]
end
variable {ns:ab}
section
variable {prog:az}{w:World}{A:av}{E:aq}{s:Shared}
theorem mv{l:Addr}{vs:ag}{Q:ag->Shared->Prop}{o:Obj}{n:Nat}(ho:s.heap.get? l=some o)(hc:o.cls=.type "tuple")(hd:o.data=.seq vs.toArray n)
  (h:Q vs { s with heap:=(s.heap.push (seqObj "list" #[] 0)).update s.heap.objs.size (Obj.mapSeq (· ++ vs.toArray)) }) (hsz:vs.length<=sizeLine):wpAny (model prog w) A (collect (.ref l)) Q E s:=by
 unfold collect;refine Xf (wpAny_runValue (YE entry_proto_collect' ?_));show wpAny _ _ (newList [] >>= λz=>again (.builtin "list.__iadd__" ⟨[z,.ref l],[]⟩)) _ _ s;refine Xf (YV (Xg ⟨Code.quiet_builtin _ (by decide +kernel),YE entry_list_iadd' ?_⟩));have z1:(s.heap.push (seqObj "list" #[] 0)).get? l=some o:=Xj _ ho;have z2:(s.heap.push (seqObj "list" #[] 0)).get? s.heap.objs.size=some (seqObj "list" #[] 0):=Xs _ rfl;show wpAny _ _ (Builtin.List.listExtendWith (.ref s.heap.objs.size) (.ref l) (.ref s.heap.objs.size)) _ _ ({ s with heap:=s.heap.push (seqObj "list" #[] 0) }:Shared);unfold Builtin.List.listExtendWith;refine Xf (wpAny_typeOf (T:="tuple") ⟨o,z1,hc⟩ ?_);rw[X1 (by rw[show(Value.type "tuple" == Value.type "tuple")=true from rfl,Bool.or_true])];refine Xf (listItems_at z1 hd (Xf (listItems_at z2 rfl ?_)));rw[if_neg (by simp)];refine Xf (listUpdate_at z2 rfl ?_ (XH _) (by
  show(#[]++vs.toArray).size<=sizeLine+1;rw[Array.size_append,List.size_toArray];exact Zo (by simpa using hsz)))
 refine Xg ?_;show wpAny (model prog w) A (load s.heap.objs.size >>= λo=>match o.data with
   |.seq xs _=>pure xs.toList
   |_=>unsupported "internal:collect") Q E ({ s with heap:=(s.heap.push (seqObj "list" #[] 0)).update s.heap.objs.size (Obj.mapSeq (· ++ vs.toArray)) }:Shared)
 refine Xf (wpAny_load (get?_update_seq z2 _) ?_);show wpAny _ _ (pure ((#[]:aN)++vs.toArray).toList) Q E _;rw[show((#[]:aN)++vs.toArray).toList=vs by simp];exact Xg h
theorem mO{l:Addr}{vs:ag}{Q:aq}{o:Obj}{n:Nat}(ho:s.heap.get? l=some o)(hc:o.cls=.type "tuple")(hd:o.data=.seq vs.toArray n)(hI:IntsAre vs ns)(mJ:vs.length<64)
  (h:∀(out:aN) (hZ:ab),IntsAre out.toList hZ->hZ.Perm ns->hZ.Pairwise (· <= ·)->Q (.ref (s.heap.objs.size+1)) { s with heap:=sortedAll s.heap vs out }):wpAny (model prog w) A (call (.builtin "sorted") [.ref l]) Q E s:=by
 refine YF kind_sorted plain_sorted entry_sorted (args_sorted1 _) ?_;unfold Builtin.«sorted»;have hz:vs.length<=sizeLine:=by rw[sizeLine_eq];left
 refine Xf (m:=checkCount "sorted" 1 1 _) (Xg (Xf (mv ho hc hd (Xf (YV ?_)) hz)));have e1:((s.heap.push (seqObj "list" #[] 0)).update s.heap.objs.size (Obj.mapSeq (· ++ vs.toArray))).objs.size=s.heap.objs.size+1:=by rw[Heap.size_update,size_push']
 have e2:(((s.heap.push (seqObj "list" #[] 0)).update s.heap.objs.size (Obj.mapSeq (· ++ vs.toArray))).push (seqObj "list" vs.toArray 0)).get? (s.heap.objs.size+1)=some (seqObj "list" vs.toArray 0):=by
  rw[<- e1];exact Xs _ rfl
 show wpAny _ _ _ _ _ ({ s with heap:=((s.heap.push (seqObj "list" #[] 0)).update s.heap.objs.size (Obj.mapSeq (· ++ vs.toArray))).push (seqObj "list" vs.toArray 0) }:Shared);rw[e1];refine Xf (XI (XG slot_list_sort ⟨_,e2,rfl⟩ entry_list_sort (list_sort_tree e2 hI mJ λout hZ a1 a2 a3=>⟨_,rfl,Xg ⟨_,rfl,h out hZ a1 a2 a3⟩⟩) (args_list_sort _)))
end
theorem sortI_perm(ns:ab):(sortI ns).Perm ns:=XB ..
theorem yn(ns:ab):(sortI ns).Pairwise (· <= ·):=by
 have:=List.pairwise_mergeSort (le:=λa b:Int=>decide (a<=b)) (by intro a b c;simp;left) (by intro a b;simp;left) ns;unfold sortI;simpa using this
theorem bY:∀{vs:ag} {ns:ab},Vals (ns.map V.int) vs->IntsAre vs ns
 |_,[],h=>by cases h;exact .nil
 |_,n::ns,h=>by
  cases h with
  |cons r t=>obtain⟨tk,rfl⟩:=r;exact .cons n tk (bY t)
theorem pJ:eT X (.builtin "sorted") (λxs H Q=>∃(p:Addr) (ns:ab),xs=[.ref p]/\(cI X.K H p (ns.map V.int)\/aR X.K H p (ns.map V.int))/\ns.length<64/\∀l,H l=none->Q (.ref l) (upd H l (.lst ((sortI ns).map V.int)))):=by
 intro pins s σ H xs us Q I r h;obtain⟨p,ns,rfl,hq,mJ,q⟩:=h;obtain⟨u,rfl,ru⟩:=r.one;cases ru;have fin:∀(vs:ag) (out:aN) (hZ:ab),IntsAre out.toList hZ->hZ.Perm ns->hZ.Pairwise (· <= ·)->EP X pins σ Q (.ref (s.heap.objs.size+1)) { s with heap:=sortedAll s.heap vs out }:=by
  intro vs out hZ h1 h2 h3;obtain rfl:hZ=sortI ns:=PySem.W.ksm_same (h2.trans (sortI_perm ns).symm) h3 (yn ns);obtain⟨e,he⟩:=sortedAll_at s.heap vs out;have hn:H (s.heap.objs.size+1)=none:=I.cq.fresh (Yq _);refine⟨.ref (s.heap.objs.size+1),upd H (s.heap.objs.size+1) (.lst ((sortI ns).map V.int)),I.laid (t':=s.toks) (λb u z=>sortedAll_old z) (Yq _) ⟨?_,out.toList,e,jB h1,by simpa using he⟩,rfl,q _ hn⟩;rw[List.length_map,(sortI_perm ns).length_eq,sizeLine_eq];left
 rcases hq with hq|hq
 ·obtain⟨aH,rv,pl,hz⟩:=I.list hq;have hl:aH.length<64:=by rw[<- rv.length];simpa using mJ
  exact sorted_ints (cR pl) (bY rv) hl λout hZ h1 h2 h3=>fin aH out hZ h1 h2 h3
 ·obtain⟨aH,rv,⟨o,ho,hc,n,hd⟩,hz⟩:=I.tuple hq;have hl:aH.length<64:=by rw[<- rv.length];simpa using mJ
  exact mO ho hc hd (bY rv) hl λout hZ h1 h2 h3=>fin aH out hZ h1 h2 h3
theorem x_:isSubtype (.type "tuple") (.type "set")=pure false:=by rw[isSubtype_type];kernel_rfl
theorem qa:isSubtype (.type "tuple") (.type "frozenset")=pure false:=by rw[isSubtype_type];kernel_rfl
noncomputable abbrev kg(led:Bool):Obj:={ cls:=.type "set",dict:=none,data:=.set #[] 0 (.fresh 0 0 led) }
noncomputable abbrev dist(ns:ab):ab:=firstMet (λi=>ns.getD i 0) ns.length
section
variable {prog:az}{w:World}{A:av}{E:aq}{s:Shared}
theorem sS{l:Addr}{aH:ag}{Q:aq}(hh:A.handled=none)(hl:s.heap.IsTuple l aH.toArray)(hi:IntsAre aH ns)(hb:aH.length+1<scanBound)
  (h:∀(h':Heap) (tk:Nat),h'.SetOf (intKind prog w) s.heap.objs.size (λk=>(dist ns).any (· == k)) (dist ns).length->(∀b o,b<s.heap.objs.size->s.heap.get? b=some o->h'.get? b=some o)->Q (.ref s.heap.objs.size) { s with heap:=h',toks:=tk }) :
  wpAny (model prog w) A (call (.type "set") [.ref l]) Q E s:=by
 have SS:aH.length=ns.length:=hi.length;obtain⟨c,tl,k1⟩:=F.called_set.mro;have k2:=F.called_set.made;have k3:=F.called_set.sub;have k4:=F.called_set.notType;have k5:=F.called_set.canCreate;have k6:=F.typeCall_set_1 (.ref l);refine wpAny_call (codeAny_of_tree (show wpAny _ _ (callAny (.type "set") _) _ _ _ from Xg ⟨Code.quiet_builtin _ (by decide +kernel),YE F.entry_type_call ?_⟩));rw[Around.under_plain (weight_type_call_type "set" [.ref l] []) rfl]
 repeat (any_goals (first|assumption|wp_step))
 refine Y1 (code_set_new_1 (.ref l) (E:=E) (Q₁:=λz s₁=>∃led:Bool,z=.ref s.heap.objs.size/\s₁={ s with heap:=s.heap.push (kg led) }) λled=>⟨led,rfl,rfl⟩) λr s₁ hr=>?_;cases r with
 |error e=>exact hr
 |ok fl =>
  cases fl with
  |next=>exact hr.elim
  |brk=>exact hr.elim
  |cont=>exact hr.elim
  |ret z =>
   obtain⟨led,rfl,rfl⟩:=hr;have g1:(s.heap.push (kg led)).get? s.heap.objs.size=some (kg led):=Xs _ rfl;have g2:Shared.TypeIs { s with heap:=s.heap.push (kg led) } (.ref s.heap.objs.size) "set":=⟨_,g1,rfl⟩
   have g3:=F.called_set.init.lookup;have g4:=F.called_set.init.bind (.ref s.heap.objs.size)
   repeat (any_goals (first|assumption|wp_step))
   refine Y1 (codeAny_call_builtin (R:=wants (λr s₂=>r=.none/\∃h' tk,s₂={ s with heap:=h',toks:=tk }/\h'.SetOf (intKind prog w) s.heap.objs.size (λk=>(dist ns).any (· == k)) (dist ns).length/\∀b o,b<s.heap.objs.size->s.heap.get? b=some o->h'.get? b=some o) E) F.called_set.init.plain F.entry_set_init (check_set_init_1 g2 ?_)) λr₂ s₂ ra=>?_
   ·obtain⟨ot,SO,Ta,nt,S9⟩:=hl;obtain⟨oc,od,WV,AI⟩:=ot;simp only at Ta S9;subst Ta;subst S9;have u1:(s.heap.push (kg led)).get? l=some { cls:=.type "tuple",dict:=od,data:=.seq aH.toArray nt,slots:=AI }:=Xj _ SO;have u2:=x_;have u3:=qa;have u4:(Value.type "tuple" == Value.type "dict")=false:=by decide
    have u5:(s.heap.push (kg led)).IsTuple l aH.toArray:=⟨_,u1,rfl,nt,rfl⟩
    unfold Builtin.«set.__init__» noKeywords Builtin.Frozenset.updateFrom;generalize VQ:pyIter=PI
    wp_walk
    subst VQ;refine wpAny_pyIter_tuple u5 (Xf (wpAny_runValue ?_));have u6:l<s.heap.objs.size:=Xk SO;have u7:A.in1.in1.in1.handled=none:=by simp[hh]
    have hz:(s.heap.push (kg led)).objs.size=s.heap.objs.size+1:=Heap.size_push ..;have u8:l≠(s.heap.push (kg led)).objs.size:=by rw[hz];exact Xt (XN u6)
    have u9:s.heap.objs.size∉[(s.heap.push (kg led)).objs.size,l]:=by
     rw[hz];intro m;simp at m;exact absurd m (Xx u6)
    have v1:∀(i:Nat) (v:Value),aH.toArray[i]?=some v->∃t,v=.int ((λi=>ns.getD i 0) i) t:=λi v hv=>hi.int_at i v (by simpa using hv);refine codeAny_set_update_loopS ((Walks.tuple u7 _ l u8 aH.toArray).toS) s.heap.objs.size u9 (λi=>ns.getD i 0) v1 (by rw[List.size_toArray];exact hb) (aH.toArray.size - 0) 0 _ (by left) (XH _) ⟨⟨_,Xs _ rfl,rfl,rfl⟩,u5.push _⟩ ?hS0 ?hR
    case hS0 =>
     have y1:((s.heap.push (kg led)).push { cls:=.type "tuple_iterator",data:=.fields #[.ref l,.int 0 0] }).get? s.heap.objs.size=some (kg led):=Xj _ g1;exact SetOf_congr ((setObjOf_fresh (knd:=intKind prog w) led).setOf y1 (by unfold scanBound;left)) (λ_=>rfl) rfl
    case hR =>
     intro s' hm xc;obtain⟨h',g',d',Ul,O8⟩:=s';cases (show g'=s.gens from hm.gens);cases (show d'=s.drawn from hm.drawn);cases (show O8=s.os from hm.os);have xc:h'.SetOf (intKind prog w) s.heap.objs.size (λk=>(dist ns).any (· == k)) (dist ns).length:=by
      have e:aH.toArray.size=ns.length:=by rw[List.size_toArray,SS]
      rw[e]at xc;exact xc
     refine Xg (show wpAny _ _ (ret Value.none) _ _ _ from Xg ⟨rfl,h',Ul,rfl,xc,λb o hb e=>hm.heap b o (λm=>?_) (Xj _ (Xj _ e))⟩);rcases List.mem_cons.mp m with m|m
     ·exact Xt hb m
     ·have m:b=(s.heap.push (kg led)).objs.size:=by simpa using m
      rw[hz]at m;exact Xt (XN hb) m
   ·cases r₂ with
    |error e=>exact ra
    |ok Mq =>
     cases Mq with
     |ret r =>
      obtain⟨rfl,h',tk,rfl,xc,NK⟩:=ra
      repeat (any_goals (first|assumption|wp_step))
      exact h _ _ xc NK
     |next=>exact ra.elim
     |brk=>exact ra.elim
     |cont=>exact ra.elim
end
theorem Am(ns:ab):dist ns=pq ns:=by
 unfold dist firstMet pq;have e:(List.range ns.length).map (λi=>ns.getD i 0)=ns:=by
  refine Yz (by simp) λi h1 h2=>?_;simp at h1;simp[h1]
 rw[e];rfl
def UN(K:ai):ae->Hp->VK->Prop:=λxs H Q=>∃(p:Addr) (ns:ab),xs=[.ref p]/\aR K H p (ns.map V.int)/\ns.length<4000/\Q (.int (pq ns).length) H
theorem boot_set:bootBuiltins ("set" : Str)=some (.type "set"):=by decide +kernel
theorem BW{e:Expr}{t:TA}{p:Pos}(hc:X.calm=true)(Qz:Gl X ("len" : Str))(Vv:X.mg ("len" : Str)=none)(Vz:Gl X ("set" : Str))(Vu:X.mg ("set" : Str)=none)(ha:PA X [e] t)
  (kr:∀es,starEach (e::es) X.env=(false,eval e X.env)::starEach es X.env):PE X (.Call (.Name ("len" : Str) p) [.Call (.Name ("set" : Str) p') [e] [] pos'] [] pos) (Kb (UN X.K) t):=by
 intro pins s σ H Q I h;refine X_ (eJ I Qz Vv PySem.boot_len ?_ (by decide) (by decide));refine PyProof.Rows.callWith_builtin1 ?_ rfl rfl;show wpAny _ _ (spliced ((false,eval (.Call (.Name ("set" : Str) p') [e] [] pos') X.env)::[])) _ _ s;refine Zi ?_;refine X_ (eJ I Vz Vu boot_set ?_ (by decide) (by decide));refine XC (cJ (ha pos' pins s σ H _ I h) λus s1 bH=>?_) (kr _) rfl;obtain⟨vs,H1,I1,r1,q1⟩:=bH;obtain⟨a,ns,rfl,hq,hl,q⟩:=q1;obtain⟨u,rfl,ru⟩:=r1.one;cases ru;obtain⟨aH,rv,it,hz⟩:=I1.tuple hq;have hle:aH.length=ns.length:=by rw[<- rv.length];simp
 refine sS (I1.ok.hd hc) it (bY rv) (by unfold scanBound;left) λh' tk hS kp=>Zn ?_;rw[Am]at hS;obtain⟨o,es,ep,tb,g1,g2,g3,_,_,g6,g7,g8⟩:=hS;refine call_len_set g1 g2 g3 g7 (by unfold scanBound at g6;omega) ?_;exact⟨.int (pq ns).length,H1,I1.kept (t':=tk+1+1) λb u z=>kp b u (Xk z) z,⟨_,by rw[g8]⟩,q⟩
section
variable {X:Cx}{S:Sx}{k:Nat}{F:af}{Φ:ba}
theorem Lk.RW(L:Lk X S k Φ):X.A.units+40<cLine:=by have:=L.room.units;left
def Ni(K:ai)(neg:Bool):R2:=λv u H Q=>∃(d d':D) (N N':gu) (k k':bg),Rep (aR K H) N k v d/\Rep (aR K H) N' k' u d'/\(∀q p xs f,N q p (.l xs) f->cI K H p xs)/\(∀q p xs f,N' q p (.l xs) f->cI K H p xs)/\df 40 d=true/\df 40 d'=true /\
 Q (.bl (if neg then !jy d d' else jy d d')) H
theorem Gg(hu:X.A.units+40<cLine):iN X (compareOp .Eq) (Ni X.K false):=by
 intro pins s σ H x y v u Q I rx ry h;obtain⟨d,d',N,N',k,k',r1,r2,n1,n2,o1,o2,q⟩:=h;exact(alike I n1 n2 40 X.A r1 r2 o1 o2 rx ry hu).rc X.prog X.w X.xe _ ⟨.bl _,H,I,rfl,q⟩
theorem Gf(hu:X.A.units+40<cLine):iN X (compareOp .NotEq) (Ni X.K true):=by
 intro pins s σ H x y v u Q I rx ry h;obtain⟨d,d',N,N',k,k',r1,r2,n1,n2,o1,o2,q⟩:=h;exact(alike I n1 n2 40 X.A r1 r2 o1 o2 rx ry hu).ne X.prog X.w X.xe _ ⟨.bl _,H,I,rfl,q⟩
theorem yE{N':gu}{k:bg}{v v':V}{d d':D}(h:Rep T N k v d)(h':Rep T' N' k' v' d')(f:gc d=true)(f':gc d'=true):gN v=true/\AV v v'=jy d d':=by
 cases h<;>first | (cases f;done) | (cases h'<;>first | (cases f';done)|exact⟨rfl,by simp[AV,jy]⟩)
theorem nE{k:bg}{v:V}{d:D}(h:Rep T N k v d)(f:gc d=true):gN v=true:=by
 cases h<;>first | (cases f;done)|rfl
theorem oK{T T':kC}{N N':gu}{k':bg}{v:V}{d:D}(hv:Rep T' N' k' v d)(f:gc d=true):∀{k:bg} {n:Nat} {xs:ae} {ds:aa},aA T N k n xs ds->ds.all gc=true->xs.all gN=true/\NF v xs=inD d ds
 |_,_,_,_,.nil,_=>⟨rfl,rfl⟩
 |_,_,_,_,.cons h t,fs=>by
  rw[List.all_cons,Bool.and_eq_true]at fs;obtain⟨h1,h2⟩:=oK hv f t fs.2;obtain⟨g1,g2⟩:=yE h hv fs.1 f;refine⟨by rw[List.all_cons,g1,h1];rfl,?_⟩;unfold NF at h2 ⊢;rw[List.any_cons,g2,h2];rfl
def FL(K:ai)(op:xQ):R2:=match op with
 |.eq=>Ni K false
 |.ne=>Ni K true
 |.lt=>yH λi j=>.bl (decide (i<j))
 |.le=>yH λi j=>.bl (decide (i<=j))
 |.gt=>yH λi j=>.bl (decide (j<i))
 |.ge=>yH λi j=>.bl (decide (j<=i))
 |.Ct=>OW K false
theorem y4(L:Lk X S k Φ)(op:xQ):iN X (compareOp (Pa op)) (FL X.K op):=by
 cases op with
 |eq=>exact Gg L.RW
 |ne=>exact Gf L.RW
 |lt=>exact KY
 |le=>exact KZ
 |gt=>exact K0
 |ge=>exact K2
 |Ct=>exact wz
theorem za{op:CmpOp}{r:Expr}(h:nI r=true):behindInMarks op r=false:=by
 cases r<;>first|rfl | (cases h;done)
theorem kT{op:xQ}{x y d:D}(LO:op=.lt\/op=.le\/op=.gt\/op=.ge)(h:fg op x y=ok d):∃i j,x=.int i/\y=.int j:=by
 cases x with
 |int i=>cases y with
  |int j=>exact⟨i,j,rfl,rfl⟩
  |_=>rcases LO with rfl|rfl|rfl|rfl<;>exact nk h
 |_=>rcases LO with rfl|rfl|rfl|rfl<;>exact nk h
theorem rN{op:xQ}{a b:CE}{H:Hp}(hq:tD X F Φ (.cmp op a b) σ H Q):DU (FL X.K op) (tD X F Φ a) (tD X F Φ b) σ H Q:=by
 obtain⟨R,τ,ρ,d,Si,ev,hq⟩:=hq;obtain⟨x,ex,ev⟩:=aE ev;obtain⟨y,ey,ev⟩:=aE ev;refine tD.intro Si ex λv H1 e1 r1=>tD.intro (Si.go e1) ey λu H2 e2 r2=>?_;have e:=e1.trans e2;have rv:=r1.go e2;have ru:=r2;obtain⟨τ1,f1,p1⟩:=rv;obtain⟨τ2,f2,p2⟩:=ru;have sq:∀{A:af} {τ:Addr->Option bg} (q:bg) (p:Addr) (xs:ae) (f:Fl),nd X.K R A τ H2 q p (.l xs) f->cI X.K H2 p xs:=λq p xs f h=>h.sq;cases op with
 |eq =>
  obtain⟨hc,ev⟩:=mY ev
  ·subst ev;rw[Bool.and_eq_true]at hc;exact⟨x,y,_,_,_,_,p1,p2,sq,sq,hc.1,hc.2,hq _ H2 e .bl⟩
 |ne =>
  obtain⟨hc,ev⟩:=mY ev
  ·subst ev;rw[Bool.and_eq_true]at hc;exact⟨x,y,_,_,_,_,p1,p2,sq,sq,hc.1,hc.2,hq _ H2 e .bl⟩
 |lt=>obtain⟨i,j,rfl,rfl⟩:=kT (by simp) ev;cases ev;exact⟨_,_,(r1.go e2).isInt,r2.isInt,hq _ H2 e .bl⟩
 |le=>obtain⟨i,j,rfl,rfl⟩:=kT (by simp) ev;cases ev;exact⟨_,_,(r1.go e2).isInt,r2.isInt,hq _ H2 e .bl⟩
 |gt=>obtain⟨i,j,rfl,rfl⟩:=kT (by simp) ev;cases ev;exact⟨_,_,(r1.go e2).isInt,r2.isInt,hq _ H2 e .bl⟩
 |ge=>obtain⟨i,j,rfl,rfl⟩:=kT (by simp) ev;cases ev;exact⟨_,_,(r1.go e2).isInt,r2.isInt,hq _ H2 e .bl⟩
 |Ct =>
  simp only[fg]at ev;split at ev
  ·rename_i ds hi;split at ev
   ·rename_i hc;rw[Bool.and_eq_true]at hc;cases ev;cases p2 with
    |tup h rs=>cases hi;obtain⟨g1,g2⟩:=oK p1 hc.1 rs hc.2;exact⟨_,_,rfl,.inr h,nE p1 hc.1,g1,by rw[g2];exact hq _ H2 e .bl⟩
    |lst h rs=>cases hi;obtain⟨g1,g2⟩:=oK p1 hc.1 rs hc.2;exact⟨_,_,rfl,.inl h.sq,nE p1 hc.1,g1,by rw[g2];exact hq _ H2 e .bl⟩
    |_=>cases hi
   ·cases ev
  ·cases ev
theorem ye{c:CE}{H:Hp}{Q:Bool->Hp->Prop}(h:f_ X F Φ c σ H Q):tB (tD X F Φ c) σ H Q:=by
 obtain⟨R,τ,ρ,b,Si,ev,hq⟩:=h;unfold xi at ev;obtain⟨d,ed,et⟩:=aE ev;refine tD.intro Si ed λv H' e r=>?_;cases d<;>simp[gk]at et;cases et;exact⟨_,r.wM,hq H' e⟩
theorem cw{c:CE}{e:Expr}(h:PE X e (tD X F Φ c))(he:∀whole,isTrue e X.env whole=(do let v <- whole;standAt e.pos;holding [v] (truthy v))):PT X e (f_ X F Φ c) :=
 PT.imp (FQ h he) λ_ _ _ h=>ye h
theorem v_{op:xQ}{a b:CE}{H:Hp}{Q:Bool->Hp->Prop}(h:f_ X F Φ (.cmp op a b) σ H Q):DT (DU (FL X.K op) (tD X F Φ a) (tD X F Φ b)) σ H Q :=
 rN (ye h)
theorem dictAt{pins:ah}{H:Hp}{s:Shared}{p:Addr}{cs:ak}{as:aP}(I:Inv X pins σ H s)(h:H p=some (.ext (DO p cs as xs ep))):∃o,s.heap.get? p=some o/\o.cls=.type "dict":=by
 obtain⟨⟨zs,o,es,_,_,_,ho,hx,_⟩,_⟩:=(show b8 X.prog X.w H s.heap p (.ext (DO p cs as xs ep)) from I.cq p _ h)
 exact⟨o,ho,hx.1⟩
theorem GH(L:Lk X S k Φ)(t:Ty):eT X (.builtin "isinstance") (λxs H Q=>∃(x:V) (d:D) (N:gu) (k:bg),xs=[x,.ty (tyName t)]/\Rep (aR X.K H) N k x d/\(∀q p xs f,N q p (.l xs) f->cI X.K H p xs)/\(∀q p cs as xs ep f,N q p (.d cs as xs ep) f->H p=some (.ext (DO p cs as xs ep)))/\Q (.bl (dt t d)) H):=by
 intro pins s σ H xs us Q I r h;obtain⟨x,d,N,k,rfl,rp,hN,VR,q⟩:=h;obtain⟨u,w',rfl,ru,jJ⟩:=vals2 r;cases (show w'=Value.type (tyName t) from jJ);have kt:=Cn X.K t;have fin:∀b:Bool,b=dt t d->∀tk,EP X pins σ Q (.bool b) { s with toks:=tk }:=λb e tk=>⟨.bl b,H,I.tok tk,rfl,by rw[e];exact q⟩
 cases rp with
 |bN=>cases ru;exact Yo PySem.W.kitx_none I.xH True.intro (kt "NoneType" (by simp[kinds])) (λz=>nomatch z) (fin _ (by cases t<;>rfl))
 |bl b=>cases ru;exact Yo PySem.W.kitx_bool I.xH True.intro (kt "bool" (by simp[kinds])) (λz=>nomatch z) (fin _ (by cases t<;>rfl))
 |int i=>obtain⟨t',rfl⟩:=ru;exact Yo PySem.W.kitx_int I.xH True.intro (kt "int" (by simp[kinds])) (λz=>nomatch z) (fin _ (by cases t<;>rfl))
 |tup h _ =>
  cases ru;obtain⟨aH,_,⟨o,h1,h2,_⟩,_⟩:=I.tuple h;exact Yo PySem.W.kitx_tuple I.xH ⟨o,h1,h2⟩ (kt "tuple" (by simp[kinds])) (λz=>nomatch z) (fin _ (by cases t<;>rfl))
 |lst h _ =>
  cases ru;obtain⟨aH,_,⟨o,n,h1,h2,_⟩,_⟩:=I.list (hN _ _ _ _ h);exact Yo PySem.W.kitx_list I.xH ⟨o,h1,h2⟩ (kt "list" (by simp[kinds])) (λz=>nomatch z) (fin _ (by cases t<;>rfl))
 |cu h _ _ =>
  cases ru;obtain⟨o,h1,h2⟩:∃o,s.heap.get? _=some o/\o.cls=.type "dict":=dictAt I (VR _ _ _ _ _ _ _ h);exact Yo PySem.W.kitx_dict I.xH ⟨o,h1,h2⟩ (kt "dict" (by simp[kinds])) (λz=>nomatch z) (fin _ (by cases t<;>rfl))
theorem Dv(t:Ty):bootBuiltins (tyName t:Str)=some (.type (tyName t)):=by
 cases t<;>decide +kernel
theorem nq(t:Ty):(tyName t:Str) ≠ "__name__" /\ ((tyName t:Str)==("__debug__" : Str))=false:=by
 cases t<;>decide +kernel
theorem FA(L:Lk X S k Φ){a:CE}{t:Ty}{e:Expr}{p:Pos}(hf:gM S.sc ("isinstance" : Str)=true)(QB:("isinstance" : Str)∈S.bl)(hg:gM S.sc (tyName t:Str)=true)(Qy:(tyName t:Str)∈S.bl)
  (ha:PE X e (tD X F Φ a)) (kr:∀es,starEach (e::es) X.env=(false,eval e X.env)::starEach es X.env):PE X (.Call (.Name ("isinstance" : Str) p) [e,.Name (tyName t:Str) p'] [] pos) (tD X F Φ (.pY a t)):=by
 have hT:PE X (.Name (tyName t:Str) p') (tC (.ty (tyName t))):=BZ (L.gl hg) (L.bl _ Qy) (Dv t) rfl (nq t).1 (nq t).2;refine PE.imp (dC (GH L t) (L.gl hf) (L.bl _ QB) PyProof.Rows.boot_isinstance (di ha (di hT fO) (kr _)) (he:=kr _)) λσ H Q hq=>?_;obtain⟨R,τ,ρ,d,Si,ev,hq⟩:=hq;obtain⟨x,ex,ev⟩:=aE ev;cases ev;refine tD.intro Si ex λv H1 e1 r1=>?_;obtain⟨τ1,f1,p1⟩:=r1;exact⟨v,x,_,_,rfl,p1,λq p xs f h=>h.sq,λq p cs as xs ep f h=>h.dat,hq _ H1 e1 .bl⟩
theorem GP:@DI.wI=@L2.wI:=rfl
theorem Km(L:Lk X S k Φ){a b:CE}{e i:Expr}(ha:PE X e (tD X F Φ a))(hb:PE X i (tD X F Φ b))(hp:lg i):PE X (.Subscript e i pos) (tD X F Φ (.ix a b)):=by
 refine PE.imp (yW (uW.or zB) ha hb hp) λσ H Q hq=>?_;obtain⟨R,τ,ρ,d,Si,ev,hq⟩:=hq;obtain⟨x,ex,ev⟩:=aE ev;obtain⟨y,ey,ev⟩:=aE ev;refine tD.intro Si ex λv H1 e1 r1=>tD.intro (Si.go e1) ey λu H2 e2 r2=>?_;have ee:=e1.trans e2;have rv:=(r1.go e2).mono (fv':=h_ (.ix a b)) λj hj=>Xz _ hj;have item:∀{q:bg} {xs:ae} {ds:aa} {τt:Addr->Option bg} {j:Int},(∀p q,τt p=some q->H p=none)->aA (aR X.K H2) (nd X.K R (iL (gP X F) τ (h_ (.ix a b))) τt H2) q 0 xs ds->vN ds j=ok d->∃w,L2.EH xs j=some w/\Q w H2:=by
  intro q xs ds τt j fr rs h;unfold vN at h;split at h
  ·rename_i d' hd;cases h;cases hx:DI.wI ds.length j with
   |none=>rw[hx]at hd;cases hd
   |some m =>
    rw[hx]at hd;obtain⟨w,hw,jJ⟩:=rs.get (show ds[m]?=some d' from hd);refine⟨w,?_,hq w H2 ee ⟨λ_=>none,λ_ _ h=>by simp at h,jJ.dX Si fr⟩⟩;unfold L2.EH;rw[<- GP,rs.length,hx];exact hw
  ·cases h
 cases y with
 |int j =>
  obtain⟨τt,fr,rp⟩:=rv;cases r2.isInt;cases x with
  |tup ds =>
   cases rp with
   | @tup _ p xs _ h rs=>obtain⟨w,h1,h2⟩:=item fr rs ev;exact .inr ⟨p,xs,j,w,rfl,rfl,h,h1,h2⟩
  |lst f ds =>
   cases rp with
   | @lst _ p xs _ _ h rs=>obtain⟨w,h1,h2⟩:=item fr rs ev;exact .inl ⟨p,xs,j,w,rfl,rfl,h.sq,h1,h2⟩
  |_=>exact nk ev
 |_=>cases x<;>cases ev
theorem mf:∀(cs:aD) {ρ:aZ} {ds:aa},bV Φ cs ρ=ok ds->ds.length=cs.length
 |[],_,_,h=>by cases h;rfl
 |c::cs,_,_,h=>by
  obtain⟨x,_,h⟩:=aE h;obtain⟨xs,hx,h⟩:=aE h;cases h;simp[mf cs hx]
theorem Fw{es:aw}{n:Nat}(h:PA X es (pW X F Φ cs))(hl:cs.length<=1000):PE X (.Tuple es n pos) (tD X F Φ (.tup cs)):=by
 refine PE.imp (F0 h) λσ H Q hq=>?_;obtain⟨R,τ,ρ,d,Si,ev,hq⟩:=hq;obtain⟨ds,HY,ev⟩:=aE ev;cases ev;refine⟨R,τ,ρ,ds,Si,HY,λvs H1 e1 r1=>?_⟩;obtain⟨τt,fr,rs⟩:=r1;have hz:sizeLine=16777216:=Yh;refine⟨by rw[rs.length,mf cs HY];left,λp hp=>?_⟩;have es:aF H1 (upd H1 p (.tup vs)):=aF.upd hp;exact hq _ _ (e1.trans es) ⟨τt,fr,.tup (aR.of aT) (rs.imp (λ_ _ h=>aR.same es h) λ_ _ _ _ h=>nd.same es h)⟩
theorem Fz{es:aw}(h:PA X es (pW X F Φ cs))(hl:cs.length<=1000):PE X (.List es pos) (tD X F Φ (.lst cs)):=by
 refine PE.imp (F3 h) λσ H Q hq=>?_;obtain⟨R,τ,ρ,d,Si,ev,hq⟩:=hq;obtain⟨ds,HY,ev⟩:=aE ev;cases ev;refine⟨R,τ,ρ,ds,Si,HY,λvs H1 e1 r1=>?_⟩;obtain⟨τt,fr,rs⟩:=r1;have hz:sizeLine=16777216:=Yh;refine⟨by rw[rs.length,mf cs HY];left,λp hp=>?_⟩;have es:aF H1 (upd H1 p (.lst vs)):=aF.upd hp;refine hq _ _ (e1.trans es) ⟨λq=>if q=p then some []else τt q,λq z hq=>?_,.lst ⟨aT,by simp⟩ (rs.imp (λ_ _ h=>aR.same es h) λc q xs f h=>?_)⟩
 ·by_cases tI:q=p
  ·subst tI;exact e1.free hp
  ·simp only[tI,if_false]at hq;exact fr q z hq
 ·have h':=nd.same es h;cases f with
  |ow =>
   have tI:q≠p:=by
    intro z;subst z;exact h.1.ne hp
   exact⟨h'.1,by simp only[tI,if_false];exact h'.2⟩
  |fz=>exact h'
  |al=>exact h'
  |sc=>exact h'
theorem BB(L:Lk X S k Φ){f:Nat}{x:Str}{y:Expr}{ys:aw}{p:Pos}(hf:S.fn f=some x)(hg:gM S.sc x=true)(hn:mW x=true)(ha:PA X (y::ys) (pW X F Φ cs))
  (kr:∀es,starEach (y::es) X.env=(false,eval y X.env)::starEach es X.env) (hpl:∀pos,(backTo pos (starEach ys X.env)).any (·.1)=false):PE X (.Call (.Name x p) (y::ys) [] pos) (tD X F Φ (.call f cs)):=by
 obtain⟨a,fd,ps,Fo,hm,hk,hb,hl⟩:=(L.fn f x hf).ex;unfold mW at hn;simp only[Bool.and_eq_true,Bool.not_eq_true']at hn;refine PE.imp (BY Fo L.room (L.gl hg) hm hk hb .nil (KS (X:=X)) ha hn.1.1 (kr _) (hpl _)) λσ H Q hq=>?_;obtain⟨R,τ,ρ,d,Si,ev,hq⟩:=hq;obtain⟨xs,b6,ev⟩:=aE ev;obtain⟨r,er,ev⟩:=aE ev;cases ev;refine⟨R,τ,ρ,xs,Si,b6,λvs H1 e1 r1=>?_⟩;obtain⟨τt,fr,rs⟩:=r1;have fresh:∀p,H p=none->iL (gP X F) τ (cA cs) p:=λp hp=>⟨.inr (Si.same.free hp),λc i e=>absurd hp (Si.th p _ e)⟩
 have hR:∀p,R p->iL (gP X F) τ (cA cs) p:=λp hp=>⟨Si.rf p hp,λc i e=>by rw[Si.rt p hp]at e;cases e⟩
 rw[List.append_nil];refine⟨iL (gP X F) τ (cA cs),aB a_ xs,r,by rw[rs.length,<- hl _ _ er,aV,List.length_map],aA.gH (λ_ _ h=>h) (λk k' p xs f h=>?_) rs _ _,er,λv H2 e2 rr=>?_⟩
 ·cases f with
  |ow=>exact⟨h.1,fresh p (fr p _ h.2)⟩
  |fz=>exact⟨h.1,hR p h.2⟩
  |al=>exact h
  |sc=>exact h
 ·obtain⟨τ2,Jt,rp⟩:=rr;refine hq v H2 (e1.trans e2) ⟨τ2,λp q h=>e1.free (Jt p q h),Rep.map (q:=[]) (q':=[]) (λ_ _ h=>h) (λc p xs f h=>?_) rp [] rfl⟩;cases f with
  |ow=>exact h
  |fz=>exact⟨h.1,h.2.elim id λz=>fresh p (e1.free z)⟩
  |al=>exact h.2.elim
  |sc=>exact h
def R4(K:ai)(f:Bf):ae->Hp->VK->Prop:=match f with
 |.len=>λxs H Q=>∃p ys,xs=[.ref p]/\(cI K H p ys\/aR K H p ys)/\Q (.int ys.length) H
 |.abs=>λxs H Q=>∃i,xs=[.int i]/\Q (.int (if i<0 then -i else i)) H
 |.list1=>λxs H Q=>∃p ys,xs=[.ref p]/\(cI K H p ys\/aR K H p ys)/\∀l,H l=none->Q (.ref l) (upd H l (.lst ys))
 |.tuple1=>λxs H Q=>∃p ys,xs=[.ref p]/\((cI K H p ys/\∀l,H l=none->Q (.ref l) (upd H l (.tup ys)))\/(aR K H p ys/\Q (.ref p) H))
 |.lD=>λxs H Q=>∃(p:Addr) (ns:ab),xs=[.ref p]/\cI K H p (ns.map V.int)/\Q (.int ns.sum) H
 |.all1=>λxs H Q=>∃(p:Addr) (bs:List Bool),xs=[.ref p]/\cI K H p (bs.map V.bl)/\Q (.bl (bs.all id)) H
 |.fN=>λxs H Q=>∃(p:Addr) (ns:ab),xs=[.ref p]/\(cI K H p (ns.map V.int)\/aR K H p (ns.map V.int))/\ns.length<64/\∀l,H l=none->Q (.ref l) (upd H l (.lst ((sortI ns).map V.int)))
theorem aA.one{k:bg}{n:Nat}{d:D}(h:aA T N k n vs [d]):∃v,vs=[v]/\Rep T N (n::k) v d:=by
 cases h with
 |cons h t=>cases t;exact⟨_,rfl,h⟩
theorem aA.two{k:bg}{n:Nat}{d e:D}(h:aA T N k n vs [d,e]):∃v w,vs=[v,w]/\Rep T N (n::k) v d/\Rep T N ((n+1)::k) w e:=by
 cases h with
 |cons h t=>obtain⟨w,rfl,h'⟩:=t.one;exact⟨_,_,rfl,h,h'⟩
theorem aA.ints1{k:bg}{n:Nat}{i:Int}(h:aA T N k n vs [.int i]):vs=[.int i]:=by
 obtain⟨v,rfl,z⟩:=h.one;cases z;rfl
noncomputable def Bf.one:Bf->Bool
 |_=>true
theorem IA{f:Bf}{xs:aa}{d:D}(hf:f.one=true)(h:rW f xs=ok d):∃x,xs=[x]:=by
 cases xs with
 |nil=>cases f<;>exact nk h
 |cons x xs=>cases xs with
  |nil=>exact⟨x,rfl⟩
  |cons y ys=>cases f<;>first | (cases hf;done) | (cases x<;>exact nk h)
theorem aA.ofInts{T:kC}{N:gu}{k:bg}:∀{ns:ab} {n:Nat} {vs:ae},aA T N k n vs (ns.map D.int)->vs=ns.map V.int
 |[],_,_,h=>by cases h;rfl
 |i::ns,_,_,h=>by
  cases h with
  |cons h t=>cases h;rw[aA.ofInts t];rfl
theorem aA.Eb{T:kC}{N:gu}{k:bg}:∀{ns:List Bool} {n:Nat} {vs:ae},aA T N k n vs (ns.map D.bl)->vs=ns.map V.bl
 |[],_,_,h=>by cases h;rfl
 |i::ns,_,_,h=>by
  cases h with
  |cons h t=>cases h;rw[aA.Eb t];rfl
theorem jN{T:kC}{N:gu}{k:bg}:∀(ns:ab) {n:Nat},aA T N k n (ns.map V.int) (ns.map D.int)
 |[],_=>.nil
 |i::ns,_=>.cons (.int i) (jN ns)
theorem Dw{f:Bf}{H:Hp}(hq:tD X F Φ (.bf f cs) σ H Q):Kb (R4 X.K f) (pW X F Φ cs) σ H Q:=by
 obtain⟨R,τ,ρ,d,Si,ev,hq⟩:=hq;obtain⟨xs,b6,ev⟩:=aE ev;refine⟨R,τ,ρ,xs,Si,b6,λvs H1 e1 r1=>?_⟩;obtain⟨τt,fr,rs⟩:=r1;cases f with
 |len =>
  obtain⟨x,rfl⟩:=IA rfl ev;obtain⟨v,rfl,rv⟩:=rs.one;cases x with
  |tup ds=>cases ev;obtain⟨_,_,rfl,h,r⟩:=rv.sD;exact⟨_,_,rfl,.inr h,by rw[r.length];exact hq _ H1 e1 .int⟩
  |lst f ds=>cases ev;obtain⟨_,_,rfl,h,r⟩:=rv.p4;exact⟨_,_,rfl,.inl h.sq,by rw[r.length];exact hq _ H1 e1 .int⟩
  |_=>exact nk ev
 |abs =>
  obtain⟨x,rfl⟩:=IA rfl ev;cases x with
  |int i=>cases ev;cases rs.ints1;exact⟨_,rfl,hq _ H1 e1 .int⟩
  |_=>exact nk ev
 |list1 =>
  obtain⟨x,rfl⟩:=IA rfl ev;obtain⟨v,rfl,rv⟩:=rs.one;cases x with
  |tup ds =>
   cases ev;obtain⟨_,_,rfl,h,r⟩:=rv.sD;refine⟨_,_,rfl,.inr h,λl hl=>?_⟩;exact hq _ _ (e1.trans (aF.upd hl)) (bJ.oR (e1.free hl) (e1.trans (aF.upd hl)) aT ((r.dX Si fr).imp (λ_ _ h=>aR.same (aF.upd hl) h) λ_ _ _ _ h=>nd.same (aF.upd hl) h))
  |lst f ds =>
   cases ev;obtain⟨_,_,rfl,h,r⟩:=rv.p4;refine⟨_,_,rfl,.inl h.sq,λl hl=>?_⟩;exact hq _ _ (e1.trans (aF.upd hl)) (bJ.oR (e1.free hl) (e1.trans (aF.upd hl)) aT ((r.dX Si fr).imp (λ_ _ h=>aR.same (aF.upd hl) h) λ_ _ _ _ h=>nd.same (aF.upd hl) h))
  |_=>exact nk ev
 |tuple1 =>
  obtain⟨x,rfl⟩:=IA rfl ev;obtain⟨v,rfl,rv⟩:=rs.one;cases x with
  |tup ds =>
   cases ev;obtain⟨_,_,rfl,h,r⟩:=rv.sD;exact⟨_,_,rfl,.inr ⟨h,hq _ H1 e1 ⟨λ_=>none,λ_ _ h=>by simp at h,.tup h (r.dX Si fr)⟩⟩⟩
  |lst f ds =>
   cases ev;obtain⟨_,_,rfl,h,r⟩:=rv.p4;refine⟨_,_,rfl,.inl ⟨h.sq,λl hl=>?_⟩⟩;exact hq _ _ (e1.trans (aF.upd hl)) ⟨λ_=>none,λ_ _ h=>by simp at h,.tup (aR.of aT) ((r.dX Si fr).imp (λ_ _ h=>aR.same (aF.upd hl) h) λ_ _ _ _ h=>nd.same (aF.upd hl) h)⟩
  |_=>exact nk ev
 |lD =>
  obtain⟨x,rfl⟩:=IA rfl ev;obtain⟨v,rfl,rv⟩:=rs.one;cases x with
  |lst f ds =>
   have ev:(match intsOf ds with|some ns=>ok (.int ns.sum)|none=>none)=ok d:=ev;cases hn:intsOf ds with
   |none=>rw[hn]at ev;cases ev
   |some ns =>
    rw[hn]at ev;cases ev;cases c_ hn;cases rv with
    |lst h r=>cases r.ofInts;exact⟨_,ns,rfl,h.sq,hq _ H1 e1 .int⟩
  |_=>exact nk ev
 |all1 =>
  obtain⟨x,rfl⟩:=IA rfl ev;obtain⟨v,rfl,rv⟩:=rs.one;cases x with
  |lst f ds =>
   have ev:(match gT ds with|some bs=>ok (.bl (bs.all id))|none=>none)=ok d:=ev;cases hn:gT ds with
   |none=>rw[hn]at ev;cases ev
   |some ns =>
    rw[hn]at ev;cases ev;cases rV hn;cases rv with
    |lst h r=>cases r.Eb;exact⟨_,ns,rfl,h.sq,hq _ H1 e1 .bl⟩
  |_=>exact nk ev
 |fN =>
  obtain⟨x,rfl⟩:=IA rfl ev;obtain⟨v,rfl,rv⟩:=rs.one;have fin:∀ds,ny ds=ok d->∃ns:ab,ds=ns.map D.int/\ns.length<64/\∀l,H1 l=none->Q (.ref l) (upd H1 l (.lst ((sortI ns).map V.int))):=by
   intro ds e;unfold ny at e;split at e
   ·rename_i ns hn;split at e
    ·rename_i mJ;cases e;refine⟨ns,c_ hn,mJ,λl hl=>hq _ _ (e1.trans (aF.upd hl)) (bJ.oR (e1.free hl) (e1.trans (aF.upd hl)) aT (jN _))⟩
    ·cases e
   ·cases e
  cases x with
  |tup ds =>
   obtain⟨ns,rfl,mJ,q⟩:=fin ds ev;cases rv with
   |tup h r=>cases r.ofInts;exact⟨_,ns,rfl,.inr h,mJ,q⟩
  |lst f ds =>
   obtain⟨ns,rfl,mJ,q⟩:=fin ds ev;cases rv with
   |lst h r=>cases r.ofInts;exact⟨_,ns,rfl,.inl h.sq,mJ,q⟩
  |_=>exact nk ev
theorem Kn(L:Lk X S k Φ){f:Bf}{y:Expr}{ys:aw}{p:Pos}(hg:gM S.sc (pO f:Str)=true)(hb:(pO f:Str)∈S.bl)(ha:PA X (y::ys) (pW X F Φ cs))
  (kr:∀es,starEach (y::es) X.env=(false,eval y X.env)::starEach es X.env) (hpl:∀pos,(backTo pos (starEach ys X.env)).any (·.1)=false):PE X (.Call (.Name (pO f:Str) p) (y::ys) [] pos) (tD X F Φ (.bf f cs)):=by
 refine PE.imp (t:=Kb (R4 X.K f) (pW X F Φ cs)) ?_ λσ H Q hq=>Dw hq;cases f with
 |len=>exact dC pL (L.gl hg) (L.bl _ hb) PySem.boot_len ha (he:=kr _) (hpl:=hpl _)
 |abs=>exact dC Ax (L.gl hg) (L.bl _ hb) (by decide +kernel) ha (he:=kr _) (hpl:=hpl _)
 |list1=>exact nG pK (L.gl hg) (L.bl _ hb) (by decide +kernel) ha (he:=kr _) (hpl:=hpl _)
 |tuple1=>exact nG m_ (L.gl hg) (L.bl _ hb) (by decide +kernel) ha (he:=kr _) (hpl:=hpl _)
 |lD=>exact dC (xx L.calm) (L.gl hg) (L.bl _ hb) (by decide +kernel) ha (he:=kr _) (hpl:=hpl _)
 |fN=>exact dC pJ (L.gl hg) (L.bl _ hb) (by decide +kernel) ha (he:=kr _) (hpl:=hpl _)
 |all1=>exact dC (xy L.calm) (L.gl hg) (L.bl _ hb) (by decide +kernel) ha (he:=kr _) (hpl:=hpl _)
theorem Bz(L:Lk X S k Φ){a:CE}{e:Expr}{p:Pos}(hf:gM S.sc ("len" : Str)=true)(QB:("len" : Str)∈S.bl)(hg:gM S.sc ("set" : Str)=true)(Qy:("set" : Str)∈S.bl)
  (ha:PE X e (tD X F Φ a)) (kr:∀es,starEach (e::es) X.env=(false,eval e X.env)::starEach es X.env):PE X (.Call (.Name ("len" : Str) p) [.Call (.Name ("set" : Str) p') [e] [] pos'] [] pos) (tD X F Φ (.iF a)):=by
 refine PE.imp (BW L.calm (L.gl hf) (L.bl _ QB) (L.gl hg) (L.bl _ Qy) (di ha fO (kr _)) kr) λσ H Q hq=>?_;obtain⟨R,τ,ρ,d,Si,ev,hq⟩:=hq;obtain⟨x,ex,ev⟩:=aE ev;refine tD.intro Si ex λv H1 e1 r1=>?_;obtain⟨τ1,f1,rv⟩:=r1;cases x with
 |tup ds =>
  simp only[uR]at ev;split at ev
  ·rename_i ns hn;split at ev
   ·rename_i hl;cases ev;cases c_ hn;cases rv with
    |tup h r=>cases r.ofInts;exact⟨_,ns,rfl,h,hl,hq _ H1 e1 .int⟩
   ·cases ev
  ·cases ev
 |_=>exact nk ev
theorem Fx{a:CE}{e:Expr}(h:PE X e (tD X F Φ a)):PE X (.UnaryOp .Not e pos) (tD X F Φ (.not a)):=by
 refine PE.imp (F1 h) λσ H Q hq=>?_;obtain⟨R,τ,ρ,d,Si,ev,hq⟩:=hq;obtain⟨b,eb,ev⟩:=aE ev;obtain⟨x,ex,eb⟩:=aE eb;cases ev;refine tD.intro Si ex λv H1 e1 r1=>?_;cases x<;>simp[gk]at eb;cases eb;exact⟨_,r1.wM,hq _ H1 e1 .bl⟩
theorem Fi{a:CE}{e:Expr}(h:PT X e (f_ X F Φ a)):PT X (.UnaryOp .Not e pos) (f_ X F Φ (.not a)):=by
 refine PT.imp (FR h) λσ H Q hq=>?_;obtain⟨R,τ,ρ,b,Si,ev,hq⟩:=hq;unfold xi at ev;obtain⟨d,ed,ev⟩:=aE ev;obtain⟨c,ec,ed⟩:=aE ed;cases ed;have Q_:b=!c:=by
  have e2:ok (!c)=ok b:=ev;exact(Except.ok.inj (Xv e2)).symm
 subst Q_;exact⟨R,τ,ρ,c,Si,ec,λH' e=>hq H' e⟩
theorem Fy{a:CE}{e:Expr}(h:PE X e (tD X F Φ a)):PE X (.UnaryOp .USub e pos) (tD X F Φ (.neg a)):=by
 refine PE.imp (KJ Fb h) λσ H Q hq=>?_;obtain⟨R,τ,ρ,d,Si,ev,hq⟩:=hq;obtain⟨x,ex,ev⟩:=aE ev;refine tD.intro Si ex λv H1 e1 r1=>?_;cases x<;>simp[Cg]at ev;cases ev;exact⟨_,r1.isInt,hq _ H1 e1 .int⟩
theorem Dx{c:CE}{H:Hp}(hq:tD X F Φ (.and [c]) σ H Q):tD X F Φ c σ H Q:=by
 obtain⟨R,τ,ρ,d,Si,ev,hq⟩:=hq;obtain⟨b,eb,ev⟩:=aE ev;obtain⟨x,ex,eb⟩:=aE eb;cases ev;refine tD.intro Si ex λv H1 e1 r1=>?_;cases x<;>simp[gk]at eb;cases eb;rw[r1.wM];exact hq _ H1 e1 .bl
theorem Ga{c:CE}{H:Hp}(hq:tD X F Φ (.or [c]) σ H Q):tD X F Φ c σ H Q:=by
 obtain⟨R,τ,ρ,d,Si,ev,hq⟩:=hq;obtain⟨b,eb,ev⟩:=aE ev;obtain⟨x,ex,eb⟩:=aE eb;cases ev;refine tD.intro Si ex λv H1 e1 r1=>?_;cases x<;>simp[gk]at eb;cases eb;rw[r1.wM];exact hq _ H1 e1 .bl
theorem Az{c:CE}{H:Hp}{Q:Bool->Hp->Prop}(hq:f_ X F Φ (.and [c]) σ H Q):f_ X F Φ c σ H Q:=by
 obtain⟨R,τ,ρ,d,Si,ev,hq⟩:=hq;unfold xi at ev;obtain⟨b,eb,ev⟩:=aE ev;obtain⟨x,ex,eb⟩:=aE eb;cases eb;cases ev;exact⟨R,τ,ρ,_,Si,ex,hq⟩
theorem B6{c:CE}{H:Hp}{Q:Bool->Hp->Prop}(hq:f_ X F Φ (.or [c]) σ H Q):f_ X F Φ c σ H Q:=by
 obtain⟨R,τ,ρ,d,Si,ev,hq⟩:=hq;unfold xi at ev;obtain⟨b,eb,ev⟩:=aE ev;obtain⟨x,ex,eb⟩:=aE eb;cases eb;cases ev;exact⟨R,τ,ρ,_,Si,ex,hq⟩
theorem AA{c:CE}{H:Hp}(hq:tD X F Φ (.and (c::c'::cs)) σ H Q):DX (tD X F Φ c) (tD X F Φ (.and (c'::cs))) σ H Q:=by
 obtain⟨R,τ,ρ,d,Si,ev,hq⟩:=hq;obtain⟨b,eb,ev⟩:=aE ev;obtain⟨x,ex,eb⟩:=aE eb;refine tD.intro Si ex λv H1 e1 r1=>?_;cases x<;>simp[gk]at eb;cases eb;refine⟨_,r1.wM,?_⟩;cases b with
 |true =>
  rw[if_pos rfl]at ev ⊢;exact tD.intro (Si.go e1) ev λv H' e r=>hq v H' (e1.trans e) ((r.old e1).mono λi hi=>Xr _ hi)
 |false =>
  rw[if_neg (by simp)]at ev ⊢;cases ev;exact hq _ H1 e1 .bl
theorem B7{c:CE}{H:Hp}(hq:tD X F Φ (.or (c::c'::cs)) σ H Q):J6 (tD X F Φ c) (tD X F Φ (.or (c'::cs))) σ H Q:=by
 obtain⟨R,τ,ρ,d,Si,ev,hq⟩:=hq;obtain⟨b,eb,ev⟩:=aE ev;obtain⟨x,ex,eb⟩:=aE eb;refine tD.intro Si ex λv H1 e1 r1=>?_;cases x<;>simp[gk]at eb;cases eb;refine⟨_,r1.wM,?_⟩;cases b with
 |false =>
  rw[if_neg (by simp)]at ev ⊢;exact tD.intro (Si.go e1) ev λv H' e r=>hq v H' (e1.trans e) ((r.old e1).mono λi hi=>Xr _ hi)
 |true =>
  rw[if_pos rfl]at ev ⊢;cases ev;exact hq _ H1 e1 .bl
theorem xB{c:CE}{H:Hp}{Q:Bool->Hp->Prop}(hq:f_ X F Φ (.and (c::c'::cs)) σ H Q):Kc (f_ X F Φ c) (f_ X F Φ (.and (c'::cs))) σ H Q:=by
 obtain⟨R,τ,ρ,d,Si,ev,hq⟩:=hq;unfold xi at ev;obtain⟨x,ex,et⟩:=aE ev;obtain⟨b,eb,ev⟩:=aE ex;refine⟨R,τ,ρ,b,Si,eb,λH1 e1=>?_⟩;cases b with
 |true =>
  rw[if_pos rfl]at ev ⊢;exact⟨R,τ,ρ,d,Si.go e1,by unfold xi;rw[show bA Φ (.and (c'::cs)) ρ=ok x from ev];exact et,λH' e=>hq H' (e1.trans e)⟩
 |false =>
  rw[if_neg (by simp)]at ev ⊢;cases ev;cases et;exact hq H1 e1
theorem y2{c:CE}{H:Hp}{Q:Bool->Hp->Prop}(hq:f_ X F Φ (.or (c::c'::cs)) σ H Q):RX (f_ X F Φ c) (f_ X F Φ (.or (c'::cs))) σ H Q:=by
 obtain⟨R,τ,ρ,d,Si,ev,hq⟩:=hq;unfold xi at ev;obtain⟨x,ex,et⟩:=aE ev;obtain⟨b,eb,ev⟩:=aE ex;refine⟨R,τ,ρ,b,Si,eb,λH1 e1=>?_⟩;cases b with
 |false =>
  rw[if_neg (by simp)]at ev ⊢;exact⟨R,τ,ρ,d,Si.go e1,by unfold xi;rw[show bA Φ (.or (c'::cs)) ρ=ok x from ev];exact et,λH' e=>hq H' (e1.trans e)⟩
 |true =>
  rw[if_pos rfl]at ev ⊢;cases ev;cases et;exact hq H1 e1
theorem gY{H:Hp}{Q:ae->Hp->Prop}(hq:pW X F Φ [] σ H Q):J8 σ H Q:=by
 obtain⟨R,τ,ρ,d,Si,ev,hq⟩:=hq;cases ev;exact hq _ H (aF.refl H) .nil
theorem eE{c:CE}{H:Hp}{Q:ae->Hp->Prop}(hq:pW X F Φ (c::cs) σ H Q):DW (tD X F Φ c) (pW X F Φ cs) σ H Q:=by
 obtain⟨R,τ,ρ,d,Si,ev,hq⟩:=hq;obtain⟨x,ex,ev⟩:=aE ev;obtain⟨xs,b6,ev⟩:=aE ev;cases ev;refine tD.intro Si ex λv H1 e1 r1=>⟨R,τ,ρ,xs,Si.go e1,b6,λvs H2 e2 r2=>hq _ H2 (e1.trans e2) (bP.cons e1 e2 (r1.mono λi hi=>Xz _ hi) (r2.mono λi hi=>Xr _ hi))⟩
theorem bU{c:CE}{e:Expr}(h:cf S c e=true)(es:aw)(env:Env):starEach (e::es) env=(false,eval e env)::starEach es env:=by
 cases e<;>first|rfl | (cases c<;>exact(Xi h).elim)
theorem t5:∀{cs:aD} {es:aw},bI S cs es=true->∀(pos:Pos) (env:Env),(backTo pos (starEach es env)).any (·.1)=false
 |[],[],_,_,_=>rfl
 |[],_::_,h,_,_=>by exact(Xi h).elim
 |_::_,[],h,_,_=>by exact(Xi h).elim
 |c::cs,e::es,h,pos,env=>by
  replace h:=aJ h;rw[bU h.1];have:=t5 h.2 pos env;unfold backTo at this ⊢;simp only[List.map_cons,List.any_cons,Bool.false_or];exact this
theorem n4{c:CE}{e:Expr}(h:cf S c e=true):lg e:=by
 intro o i;cases e<;>first|rfl | (cases c<;>exact(Xi h).elim)
theorem yr{j:Nat}:PE X (.Constant .none j pos) (tD X F Φ .bN):=PE.imp F2 λσ H Q bH=>by obtain⟨R,τ,ρ,d,Si,ev,hq⟩:=bH;cases ev;exact hq _ H (aF.refl H) .bN
theorem D2{b:Bool}{j:Nat}:PE X (.Constant (.bool b) j pos) (tD X F Φ (.bl b)):=PE.imp KR λσ H Q bH=>by obtain⟨R,τ,ρ,d,Si,ev,hq⟩:=bH;cases ev;exact hq _ H (aF.refl H) .bl
theorem yt{i:Int}{j:Nat}:PE X (.Constant (.int i) j pos) (tD X F Φ (.int i)):=PE.imp F4 λσ H Q bH=>by obtain⟨R,τ,ρ,d,Si,ev,hq⟩:=bH;cases ev;exact hq _ H (aF.refl H) .int
theorem GS(L:Lk X S k Φ){y:Expr}{p GY:Pos}(g1:gM S.sc ("range" : Str)=true)(g2:("range" : Str)∈S.bl)(pa:PA X [y] (pW X F Φ es))(w4:bI S es [y]=true)
  (pins:ah) (s:Shared) (σ:St) (H:Hp) (R:af) (τ:Addr->Option bg) (ρ:aZ) (xs items:aa) (I:Inv X pins σ H s) (Si:SI X F R τ ρ σ H) (b6:bV Φ es ρ=ok xs) (tT:dM Φ .kI xs=ok items) (Rr:It->Hp->Prop)
  (hR:∀J H2,aF H H2->Yl X.K J (jH X F τ (caps++cA es) H2) H2 items->Rr J H2) :
  wpAny (model X.prog X.w) X.A (eval (.Call (.Name ("range" : Str) p) [y] [] GY) X.env) (λv s1=>wpAny (model X.prog X.w) X.A (pyIter v) (xE X pins σ target Rr) X.xe s1) X.xe s:=by
 match es,w4 with
 |[c],w4 =>
  replace w4:=aJ w4;refine nF (L.gl g1) (L.bl _ g2) pa (bU w4.1 _ _) pins s σ H Rr I ⟨R,τ,ρ,xs,Si,b6,λvs H1 e1 rv=>?_⟩;obtain⟨τt,fr,rs⟩:=rv;obtain⟨n,rfl⟩:∃n,xs=[.int n]:=by
   cases xs with
   |nil=>cases tT
   |cons x t=>cases x<;>first | (cases tT;done) | (cases t with|nil=>exact⟨_,rfl⟩|cons _ _=>cases tT)
  cases rs.ints1
  ·obtain⟨⟨c1,c2⟩,tT⟩:=mY tT;subst tT;have m3:(eO:Int)=1000000:=rfl;refine⟨n,rfl,by left,by left,hR _ H1 e1 ?_⟩;have:=EU (X:=X) (lo:=0) (n:=n.toNat) (R:=jH X F τ (caps++cA [c]) H1) (H1:=H1);simpa using this
 |[],w4=>exact(Xi w4).elim
 |_::_::_,w4=>exact(Xi (aJ w4).2).elim
theorem GR(L:Lk X S k Φ){c:CE}{y:Expr}(pe:PE X y (tD X F Φ c))
  (pins:ah) (s:Shared) (σ:St) (H:Hp) (R:af) (τ:Addr->Option bg) (ρ:aZ) (xs items:aa) (I:Inv X pins σ H s) (Si:SI X F R τ ρ σ H) (b6:bV Φ [c] ρ=ok xs) (tT:dM Φ .seq xs=ok items) (Rr:It->Hp->Prop)
  (hR:∀J H2,aF H H2->Yl X.K J (jH X F τ (caps++cA [c]) H2) H2 items->Rr J H2) :
  wpAny (model X.prog X.w) X.A (eval y X.env) (λv s1=>wpAny (model X.prog X.w) X.A (pyIter v) (xE X pins σ target Rr) X.xe s1) X.xe s:=by
 obtain⟨x,ex,b6⟩:=aE b6;obtain⟨xs',Q4,b6⟩:=aE b6;cases Q4;cases b6;have S8:∀i∈h_ c,i∈caps++cA [c]:=λi hi=>Xr _ (Xz _ hi);cases x with
 |tup ds =>
  cases tT;refine yO pe pins s σ H Rr I (tD.intro Si ex λv H1 e1 rv=>?_);obtain⟨τt,fr,rp⟩:=rv;cases rp with
  | @tup _ p ys _ hp rs=>exact⟨p,rfl,⟨ys,hp⟩,hR _ H1 e1 (ET (q:=[]) hp (aA.gH (λ_ _ h=>h) (sT Si fr S8) rs _ _))⟩
 |lst f ds =>
  cases tT;refine uG pe pins s σ H Rr I (tD.intro Si ex λv H1 e1 rv=>?_);obtain⟨τt,fr,rp⟩:=rv;cases rp with
  | @lst _ p ys _ _ hp rs=>exact⟨p,rfl,⟨ys,hp.sq⟩,hR _ H1 e1 (A6 (q:=[]) hp.sq (aA.gH (λ_ _ h=>h) (sT Si fr S8) rs _ _))⟩
 |_=>cases tT
theorem JG{R:af}{H:Hp}{xs:aa}{J:It}(Si:SI X F R τ ρ σ H)(hs:∀i∈fv,i∈fv')(r:bP X.K (gP X F) R τ fv H H2 vs xs)(y:EJ X.K J H2 vs xs items):
  Yl X.K J (jH X F τ fv' H2) H2 items:=by
 obtain⟨τt,fr,rs⟩:=r;have at':∀H',aF H2 H'->aA (aR X.K H') (nd X.K (jH X F τ fv' H2) (λ_=>False) (λ_=>none) H') [] 0 vs (aB a_ xs):=λH' e =>
  (aA.gH (T':=aR X.K H2) (λ_ _ h=>h) (sT Si fr hs) rs [] 0).imp (λ_ _ h=>aR.same e h) λ_ _ _ _ h=>nd.same e h
 have st:∀H',aF H2 H'->oi X.K H2 vs xs H':=λH' e=>⟨⟨_,at' H2 (aF.refl H2),λp o _ h=>e p o h⟩,λ_ _ h=>aR.same e h⟩
 exact⟨λi H' e hi=>y.go i H' _ (st H' e) (at' H' e) hi,λi H' x kf e hi hy=>y.sh i H' _ x kf (st H' e) (at' H' e) hi hy,λi H' e hi=>y.stop i H' _ (st H' e) (at' H' e) hi⟩
theorem GV(L:Lk X S k Φ){p:Nat}{y:Expr}(hp:S.px.pi p S.sc S.bl y=some args)(ht:(decide (1100<=p)||ff target)=true)(hs:lj X F Φ es args)
  (pins:ah) (s:Shared) (σ:St) (H:Hp) (R:af) (τ:Addr->Option bg) (ρ:aZ) (xs items:aa) (I:Inv X pins σ H s) (Si:SI X F R τ ρ σ H) (b6:bV Φ es ρ=ok xs) (tT:dM Φ (.cL p) xs=ok items) (Rr:It->Hp->Prop)
  (hR:∀J H2,aF H H2->Yl X.K J (jH X F τ (caps++cA es) H2) H2 items->Rr J H2) :
  wpAny (model X.prog X.w) X.A (eval y X.env) (λv s1=>wpAny (model X.prog X.w) X.A (pyIter v) (xE X pins σ target Rr) X.xe s1) X.xe s:=by
 obtain⟨d,ed,ei⟩:=aE (show bd (Φ p xs) kh=ok items from tT);exact L.pr.i X _ _ k L.pX p y args hp F es target ht hs pins s σ H R τ ρ xs d items I Si b6 ed ei Rr λJ H2 vs e2 r yz=>hR J H2 e2 (JG Si (λi hi=>by simp[hi]) r yz)
theorem rK{S':Sx}{ifs:aw}(h3:bC.length<=1)(h4:bI S' bC ifs=true)
  (sv:∀(X':Cx) (F':af),Lk X' S' k Φ->∀(j:Nat) (c:CE) (e:Expr),bC[j]?=some c->ifs[j]?=some e->PE X' e (tD X' F' Φ c)/\PT X' e (f_ X' F' Φ c)) :
  (bC=[]/\ifs=[])\/∃c e,bC=[c]/\ifs=[e]/\∀(X':Cx) (F':af),Lk X' S' k Φ->PT X' e (f_ X' F' Φ c):=by
 cases bC with
 |nil=>cases ifs with
  |nil=>exact .inl ⟨rfl,rfl⟩
  |cons _ _=>exact(Xi h4).elim
 |cons c cs=>cases cs with
  |cons _ _=>simp at h3
  |nil=>cases ifs with
   |nil=>exact(Xi h4).elim
   |cons e ifs=>cases ifs with
    |cons _ _=>exact(Xi (aJ h4).2).elim
    |nil=>exact .inr ⟨c,e,rfl,rfl,λX' F' L'=>(sv X' F' L' 0 c e rfl rfl).2⟩
def MI(S:Sx)(ik:IK)(es:aD)(target iter:Expr):Bool:=match ik with
 |.kI=>br (dU iter) λw=>decide (w.1=("range" : Str))&&gM S.sc w.1&&decide (w.1∈S.bl)&&br (one w.2) λy=>bI S es [y]
 |.seq=>bI S es [iter]
 |.cL p=>Nq iter&&(decide (1100<=p)||ff target)&&br (S.px.pi p S.sc S.bl iter) λxs=>bI S es xs
theorem zD(L:Lk X S k Φ){ik:IK}(w4:∀l,bI S es l=true->PA X l (pW X F Φ es))
  (sv:∀l,bI S es l=true->∀(j:Nat) (c:CE) (e:Expr),es[j]?=some c->l[j]?=some e->PE X e (tD X F Φ c)/\PT X e (f_ X F Φ c)) (Vm:∀l,bI S es l=true->lj X F Φ es l) (h6:MI S ik es target iter=true) :
  ∀(pins:ah) (s:Shared) (σ:St) (H:Hp) (R:af) (τ:Addr->Option bg) (ρ:aZ) (xs items:aa),Inv X pins σ H s->SI X F R τ ρ σ H->bV Φ es ρ=ok xs->dM Φ ik xs=ok items->∀(Rr:It->Hp->Prop),
   (∀J H2,aF H H2->Yl X.K J (jH X F τ (caps++cA es) H2) H2 items->Rr J H2) ->
   wpAny (model X.prog X.w) X.A (eval iter X.env) (λv s1=>wpAny (model X.prog X.w) X.A (pyIter v) (xE X pins σ target Rr) X.xe s1) X.xe s:=by
 cases ik with
 |kI =>
  obtain⟨⟨x,as⟩,hv,h6⟩:=bu h6;obtain⟨p,GY,rfl⟩:=cP hv;obtain⟨Hr,g3⟩:=aJ h6;obtain⟨Hq,g2⟩:=aJ Hr;obtain⟨Ho,g1⟩:=aJ Hq;obtain rfl:x=_:=Xh Ho;obtain⟨y,hu,CM⟩:=bu g3;obtain rfl:as=[y]:=cx hu;exact GS L g1 (Xh g2) (w4 _ CM) CM
 |seq =>
  have Cz:=sv _ h6;cases es with
  |nil=>exact(Xi h6).elim
  |cons c cs=>cases cs with
   |cons _ _=>exact(Xi (aJ h6).2).elim
   |nil=>exact GR L (Cz 0 c _ rfl rfl).1
 |cL p =>
  obtain⟨h6,g3⟩:=aJ h6;obtain⟨xs,ha,CM⟩:=bu g3;exact GV L ha (aJ h6).2 (Vm _ CM)
mutual
theorem bq:∀(c:CE) (X:Cx) (S:Sx) (F:af) (L:Lk X S k Φ) (e:Expr),cf S c e=true->PE X e (tD X F Φ c)/\PT X e (f_ X F Φ c)
 |.cL p cs,X,S,F,L,e,h=>by
  obtain⟨args,ha,hb⟩:=bu (aJ h).2;exact L.pr.e X _ _ k L.pX p e args ha F cs (g_ cs X S F L args hb)
 |.bN,X,S,F,L,e,h=>by
  obtain⟨c,hv,gn⟩:=bu h;obtain⟨j,p,rfl⟩:=x3 hv;obtain rfl:=wJ gn;exact⟨yr,cw yr λ_=>rfl⟩
 |.bl b,X,S,F,L,e,h=>by
  obtain⟨c,hv,gn⟩:=bu h;obtain⟨j,p,rfl⟩:=x3 hv;obtain rfl:=zG gn;exact⟨D2,cw D2 λ_=>rfl⟩
 |.int i,X,S,F,L,e,h=>by
  obtain⟨c,hv,gn⟩:=bu h;obtain⟨j,p,rfl⟩:=x3 hv;obtain rfl:=wK gn;exact⟨yt,cw yt λ_=>rfl⟩
 |.v i,X,S,F,L,e,h=>by
  obtain⟨x,hv,h'⟩:=bu h;obtain⟨p,rfl⟩:=jD hv;have:=OJ (F:=F) L h;exact⟨this,cw this λ_=>rfl⟩
 |.glo x i,X,S,F,L,e,h=>by
  obtain⟨y,hv,gn⟩:=bu h;obtain⟨pos,rfl⟩:=jD hv;obtain⟨kz,h3⟩:=aJ gn;obtain⟨m5,h2⟩:=aJ kz;obtain⟨z4,h1⟩:=aJ m5;obtain rfl:=Xh z4;obtain⟨u,hm,r⟩:=L.cs _ _ (Xh h2);have this:PE X (.Name y pos) (tD X F Φ (.glo y i)):=PE.imp (uJ (v:=.int i) (L.gl h1) hm r (j5 h3)) λσ H Q bH=>by obtain⟨R,τ,ρ,d,Si,ev,hq⟩:=bH;cases ev;exact hq _ H (aF.refl H) .int
  exact⟨this,cw this λ_=>rfl⟩
 |.glt x zs,X,S,F,L,e,h=>by
  obtain⟨y,hv,gn⟩:=bu h;obtain⟨pos,rfl⟩:=jD hv;obtain⟨kz,h3⟩:=aJ gn;obtain⟨m5,h2⟩:=aJ kz;obtain⟨z4,h1⟩:=aJ m5;obtain rfl:=Xh z4;obtain⟨u,hm,a,o,aH,n,rfl,q1,q2,q3,q4,q5⟩:=L.cs _ _ (Xh h2);have this:PE X (.Name y pos) (tD X F Φ (.glt y zs)):=PE.imp (uJ (v:=.ref a) (L.gl h1) hm rfl (j5 h3)) λσ H Q bH=>by
   obtain⟨R,τ,ρ,d,Si,ev,hq⟩:=bH;cases ev;exact hq _ H (aF.refl H) ⟨λ_=>none,λ_ _ h=>by simp at h,.tup (.inr ⟨o,aH,n,q1,q2,q3,q4,q5⟩) (jN zs)⟩
  exact⟨this,cw this λ_=>rfl⟩
 |.bin op a b,X,S,F,L,e,h=>by
  obtain⟨⟨l,o,r⟩,hv,gn⟩:=bu h;obtain⟨pos,rfl⟩:=Bl hv;obtain⟨kz,h2⟩:=aJ gn;obtain⟨m5,h1⟩:=aJ kz;obtain rfl:o=K3 op:=Xh m5;have:=FC (F:=F) (pos:=pos) L (op:=op) (bq a X S F L _ h1).1 (bq b X S F L _ h2).1;exact⟨this,cw this λ_=>rfl⟩
 |.neg a,X,S,F,L,e,h=>by
  obtain⟨⟨o,x⟩,hv,gn⟩:=bu h;obtain⟨pos,rfl⟩:=xY hv;obtain⟨kz,h1⟩:=aJ gn;obtain rfl:o=.USub:=Xh kz;have:=Fy (F:=F) (Φ:=Φ) (pos:=pos) (bq a X S F L _ h1).1;exact⟨this,cw this λ_=>rfl⟩
 |.not a,X,S,F,L,e,h=>by
  obtain⟨⟨o,x⟩,hv,gn⟩:=bu h;obtain⟨pos,rfl⟩:=xY hv;obtain⟨kz,h1⟩:=aJ gn;obtain rfl:o=.Not:=Xh kz;exact⟨Fx (bq a X S F L _ h1).1,Fi (bq a X S F L _ h1).2⟩
 |.and cs,X,S,F,L,e,h=>by
  obtain⟨⟨o,vs⟩,hv,gn⟩:=bu h;obtain⟨pos,rfl⟩:=p9 hv;obtain⟨kz,h1⟩:=aJ gn;obtain rfl:o=.And:=Xh kz;exact⟨(jF cs X S F L vs h1 pos).1,(jF cs X S F L vs h1 pos).2.pt⟩
 |.or cs,X,S,F,L,e,h=>by
  obtain⟨⟨o,vs⟩,hv,gn⟩:=bu h;obtain⟨pos,rfl⟩:=p9 hv;obtain⟨kz,h1⟩:=aJ gn;obtain rfl:o=.Or:=Xh kz;exact⟨(lF cs X S F L vs h1 pos).1,(lF cs X S F L vs h1 pos).2.pt⟩
 |.cmp op a b,X,S,F,L,e,h=>by
  obtain⟨⟨l,os,rs⟩,hv,gn⟩:=bu h;obtain⟨pos,rfl⟩:=uj hv;obtain⟨kz,h2⟩:=aJ gn;obtain⟨m5,h1⟩:=aJ kz;obtain⟨r,hr,QS⟩:=bu h2;obtain⟨Mh,h3⟩:=aJ QS;obtain rfl:os=[Pa op]:=Xh m5;obtain rfl:rs=[r]:=cx hr;exact⟨PE.imp (uK (y4 L op) (bq a X S F L _ h1).1 (bq b X S F L _ Mh).1 (za h3)) λ_ _ _ m5=>rN m5,PT.imp (uC (y4 L op) (bq a X S F L _ h1).1 (bq b X S F L _ Mh).1 (za h3)) λ_ _ _ m5=>v_ m5⟩
 |.pY a t,X,S,F,L,e,h=>by
  obtain⟨⟨f,as⟩,hv,gn⟩:=bu h;obtain⟨p,pos,rfl⟩:=cP hv;obtain⟨kz,h5⟩:=aJ gn;obtain⟨m5,h2⟩:=aJ kz;obtain⟨z4,h1⟩:=aJ m5;obtain rfl:f=_:=Xh z4;obtain⟨⟨e,g⟩,hw,CK⟩:=bu h5;obtain rfl:as=[e,g]:=gx hw;obtain⟨Me,h6⟩:=aJ CK;obtain⟨x,hn,Hr⟩:=bu h6;obtain⟨p',rfl⟩:∃p,g=.Name x p:=jD hn;obtain⟨Hq,h4⟩:=aJ Hr;obtain⟨Ho,h3⟩:=aJ Hq;obtain rfl:=Xh Ho;have:=FA (F:=F) (p:=p) (p':=p') (pos:=pos) L h1 (Xh h2) h3 (Xh h4) (bq a X S F L _ Me).1 (λes=>bU Me es _);exact⟨this,cw this λ_=>rfl⟩
 |.call f cs,X,S,F,L,e,h=>by
  obtain⟨⟨x,as⟩,hv,gn⟩:=bu h;obtain⟨p,pos,rfl⟩:=cP hv;obtain⟨kz,h4⟩:=aJ gn;obtain⟨m5,h3⟩:=aJ kz;obtain⟨h1,h2⟩:=aJ m5;obtain⟨⟨y,ys⟩,hu,o8⟩:=bu h4;obtain rfl:as=y::ys:=x6 hu;cases cs with
  |nil=>exact(Xi o8).elim
  |cons c cs' =>
   have Mf:=aJ o8;have:=BB (F:=F) (p:=p) (pos:=pos) L (Xh h1) h2 h3 (eF (c::cs') X S F L (y::ys) o8) (λes=>bU Mf.1 es _) (λpos=>t5 Mf.2 pos _);exact⟨this,cw this λ_=>rfl⟩
 |.bf f cs,X,S,F,L,e,h=>by
  obtain⟨⟨x,as⟩,hv,gn⟩:=bu h;obtain⟨p,pos,rfl⟩:=cP hv;obtain⟨kz,h4⟩:=aJ gn;obtain⟨m5,h3⟩:=aJ kz;obtain⟨z4,h2⟩:=aJ m5;obtain rfl:x=_:=Xh z4;obtain⟨⟨y,ys⟩,hu,o8⟩:=bu h4;obtain rfl:as=y::ys:=x6 hu;cases cs with
  |nil=>exact(Xi o8).elim
  |cons c cs' =>
   have Mf:=aJ o8;have:=Kn (F:=F) (p:=p) (pos:=pos) L h2 (Xh h3) (eF (c::cs') X S F L (y::ys) o8) (λes=>bU Mf.1 es _) (λpos=>t5 Mf.2 pos _);exact⟨this,cw this λ_=>rfl⟩
 |.iF a,X,S,F,L,e,h=>by
  obtain⟨⟨x,as⟩,hv,gn⟩:=bu h;obtain⟨p,pos,rfl⟩:=cP hv;obtain⟨kz,h4⟩:=aJ gn;obtain⟨m5,h2⟩:=aJ kz;obtain⟨z4,h1⟩:=aJ m5;obtain rfl:x=_:=Xh z4;obtain⟨y,hu,o8⟩:=bu h4;obtain rfl:as=[y]:=cx hu;obtain⟨⟨z,bs⟩,hw,h4_3⟩:=bu o8;obtain⟨p',pos',rfl⟩:=cP hw;obtain⟨QQ,h5⟩:=aJ h4_3;obtain⟨QP,h6⟩:=aJ QQ;obtain⟨QO,h3⟩:=aJ QP;obtain rfl:z=_:=Xh QO;obtain⟨u,P1,CK⟩:=bu h5;obtain rfl:bs=[u]:=cx P1;have:=Bz (F:=F) (p:=p) (p':=p') (pos:=pos) (pos':=pos') L h1 (Xh h2) h3 (Xh h6) (bq a X S F L _ CK).1 (λes=>bU CK es _);exact⟨this,cw this λ_=>rfl⟩
 |.ix a b,X,S,F,L,e,h=>by
  obtain⟨⟨l,r⟩,hv,gn⟩:=bu h;obtain⟨pos,rfl⟩:=i0 hv;obtain⟨h1,h2⟩:=aJ gn;have:=Km (F:=F) (pos:=pos) L (bq a X S F L _ h1).1 (bq b X S F L _ h2).1 (n4 h2);exact⟨this,cw this λ_=>rfl⟩
 |.tup cs,X,S,F,L,e,h=>by
  obtain⟨es,hv,gn⟩:=bu h;obtain⟨n,pos,rfl⟩:=iZ hv;obtain⟨h1,h2⟩:=aJ gn;have:=Fw (F:=F) (n:=n) (pos:=pos) (eF cs X S F L es h1) (Xh h2);exact⟨this,cw this λ_=>rfl⟩
 |.lst cs,X,S,F,L,e,h=>by
  obtain⟨es,hv,gn⟩:=bu h;obtain⟨pos,rfl⟩:=Be hv;obtain⟨h1,h2⟩:=aJ gn;have:=Fz (F:=F) (pos:=pos) (eF cs X S F L es h1) (Xh h2);exact⟨this,cw this λ_=>rfl⟩
 |.comp n t caps ik es bC elt,X,S,F,L,e,h=>by
  obtain⟨⟨ic,gens,sc⟩,hv,gn⟩:=bu h;obtain⟨pos,rfl⟩:=xZ hv;obtain⟨⟨target,iter,ifs,a⟩,hg,kz⟩:=bu gn;obtain rfl:gens=_:=cx hg;obtain⟨m5,h6⟩:=aJ kz;obtain⟨z4,h5⟩:=aJ m5;obtain⟨VN,h4⟩:=aJ z4;obtain⟨VM,h3⟩:=aJ VN;obtain⟨VL,h2⟩:=aJ VM;obtain⟨VJ,h1⟩:=aJ VL;obtain rfl:a=0:=Xh VJ;have sv:=λ(X':Cx) (F':af) (L':Lk X' (S.inner target caps sc) k Φ)=>gz bC X' _ F' L' ifs h4;have this:PE X (.ListComp ic [⟨target,iter,ifs,0⟩] sc pos) (tD X F Φ (.comp n t caps ik es bC elt)) :=
   BA L (nZ h1) h2 (λX' F' L'=>(bq elt X' _ F' L' ic h5).1) (rK (Xh h3) h4 sv) (zD L (λl=>eF es X S F L l) (λl=>gz es X S F L l) (λl=>g_ es X S F L l) h6)
  exact⟨this,cw this λ_=>rfl⟩
theorem gz:∀(cs:aD) (X:Cx) (S:Sx) (F:af) (L:Lk X S k Φ) (es:aw),bI S cs es=true->∀(j:Nat) (c:CE) (e:Expr),cs[j]?=some c->es[j]?=some e->PE X e (tD X F Φ c)/\PT X e (f_ X F Φ c)
 |[],X,S,F,L,_,_=>λj c e h _=>by simp at h
 |_::_,X,S,F,L,[],h=>by exact(Xi h).elim
 |c::cs,X,S,F,L,e::es,h=>λj c' e' hc he=>by
  replace h:=aJ h;cases j with
  |zero=>simp at hc he;subst hc he;exact bq c X S F L e h.1
  |succ j=>exact gz cs X S F L es h.2 j c' e' (by simpa using hc) (by simpa using he)
theorem g_:∀(cs:aD) (X:Cx) (S:Sx) (F:af) (L:Lk X S k Φ) (es:aw),bI S cs es=true->lj X F Φ cs es
 |[],X,S,F,L,[],_=>trivial
 |[],X,S,F,L,_::_,h=>by exact(Xi h).elim
 |_::_,X,S,F,L,[],h=>by exact(Xi h).elim
 |c::cs,X,S,F,L,e::es,h=>by
  replace h:=aJ h;exact⟨(bq c X S F L e h.1).1,λl=>bU h.1 l _,n4 h.1,g_ cs X S F L es h.2⟩
theorem eF:∀(cs:aD) (X:Cx) (S:Sx) (F:af) (L:Lk X S k Φ) (es:aw),bI S cs es=true->PA X es (pW X F Φ cs)
 |[],X,S,F,L,[],_=>PA.imp fO λ_ _ _ h=>gY h
 |[],X,S,F,L,_::_,h=>by exact(Xi h).elim
 |_::_,X,S,F,L,[],h=>by exact(Xi h).elim
 |c::cs,X,S,F,L,e::es,h=>by
  replace h:=aJ h;exact PA.imp (di (bq c X S F L e h.1).1 (eF cs X S F L es h.2) (bU h.1 es _)) λ_ _ _ h=>eE h
theorem jF:∀(cs:aD) (X:Cx) (S:Sx) (F:af) (L:Lk X S k Φ) (es:aw),bI S cs es=true->∀pos,PE X (.BoolOp .And es pos) (tD X F Φ (.and cs))/\PW X (.BoolOp .And es pos) (f_ X F Φ (.and cs))
 |[],X,S,F,L,_,_,pos=>⟨λ_ _ _ _ _ _ ⟨_,_,_,_,_,ev,_⟩=>(by cases ev),λ_ _ _ _ _ _ _ bH=>by obtain⟨_,_,_,_,_,ev,_⟩:=bH;cases ev⟩
 |[c],X,S,F,L,[e],h,pos=>by
  replace h:=aJ h;exact⟨PE.imp (yV (bq c X S F L e h.1).1) λ_ _ _ h=>Dx h,PW.imp (BO (bq c X S F L e h.1).2) λ_ _ _ h=>Az h⟩
 |[_],X,S,F,L,[],h,_=>by exact(Xi h).elim
 |[_],X,S,F,L,_::_::_,h,_=>by exact(Xi (aJ h).2).elim
 |_::_::_,X,S,F,L,[],h,_=>by exact(Xi h).elim
 |_::_::_,X,S,F,L,[_],h,_=>by exact(Xi (aJ h).2).elim
 |c::c'::cs,X,S,F,L,e::e'::es,h,pos=>by
  replace h:=aJ h;have r:=jF (c'::cs) X S F L (e'::es) h.2 pos;exact⟨PE.imp (F6 (bq c X S F L e h.1).1 r.1) λ_ _ _ h=>AA h,PW.imp (FP (bq c X S F L e h.1).2 r.2) λ_ _ _ h=>xB h⟩
theorem lF:∀(cs:aD) (X:Cx) (S:Sx) (F:af) (L:Lk X S k Φ) (es:aw),bI S cs es=true->∀pos,PE X (.BoolOp .Or es pos) (tD X F Φ (.or cs))/\PW X (.BoolOp .Or es pos) (f_ X F Φ (.or cs))
 |[],X,S,F,L,_,_,pos=>⟨λ_ _ _ _ _ _ ⟨_,_,_,_,_,ev,_⟩=>(by cases ev),λ_ _ _ _ _ _ _ bH=>by obtain⟨_,_,_,_,_,ev,_⟩:=bH;cases ev⟩
 |[c],X,S,F,L,[e],h,pos=>by
  replace h:=aJ h;exact⟨PE.imp (yV (bq c X S F L e h.1).1) λ_ _ _ h=>Ga h,PW.imp (FO (bq c X S F L e h.1).2) λ_ _ _ h=>B6 h⟩
 |[_],X,S,F,L,[],h,_=>by exact(Xi h).elim
 |[_],X,S,F,L,_::_::_,h,_=>by exact(Xi (aJ h).2).elim
 |_::_::_,X,S,F,L,[],h,_=>by exact(Xi h).elim
 |_::_::_,X,S,F,L,[_],h,_=>by exact(Xi (aJ h).2).elim
 |c::c'::cs,X,S,F,L,e::e'::es,h,pos=>by
  replace h:=aJ h;have r:=lF (c'::cs) X S F L (e'::es) h.2 pos;exact⟨PE.imp (KN (bq c X S F L e h.1).1 r.1) λ_ _ _ h=>B7 h,PW.imp (KC (bq c X S F L e h.1).2 r.2) λ_ _ _ h=>y2 h⟩
end
theorem iB(L:Lk X S k Φ)(c:CE)(e:Expr)(h:cf S c e=true):PE X e (tD X F Φ c)/\PT X e (f_ X F Φ c):=bq c X S F L e h
theorem lE(L:Lk X S k Φ)(cs:aD)(es:aw)(h:bI S cs es=true):lj X F Φ cs es:=g_ cs X S F L es h
theorem uv(L:Lk X S k Φ)(cs:aD)(es:aw)(h:bI S cs es=true):PA X es (pW X F Φ cs):=eF cs X S F L es h
end
section
variable {X:Cx}{S:Sx}{k:Nat}{F:af}{Φ:ba}
theorem sQ(L:Lk X S k Φ)(c:CE)(e:Expr)(h:cf S c e=true):PE X e (tK X F Φ c):=by
 by_cases hv:∃i,c=.v i
 ·obtain⟨i,rfl⟩:=hv;obtain⟨x,hx,ha⟩:=bu h;obtain⟨p,rfl⟩:=jD hx;obtain⟨hb,h3⟩:=aJ ha;obtain⟨h1,h2⟩:=aJ hb;unfold mW at h3;simp only[Bool.and_eq_true,Bool.not_eq_true']at h3;refine PE.imp (sZ (i:=i) (by rw[L.N];exact Xh h1) (L.M7 h2) h3.1.1 h3.1.2) λσ H Q hq=>?_;obtain⟨R,τ,ρ,r,Si,ev,hq⟩:=hq;simp only[iH]at ev;split at ev
  ·rename_i d hd;split at ev
   ·cases ev;obtain⟨v,τ',hv,fJ,rk⟩:=Si.move hd;exact⟨v,hv,hq v H R τ' (aF.refl H) (λ_ h=>h) fJ rk⟩
   ·rename_i ho;cases ev;obtain⟨v,hv,rp⟩:=Si.rep i d hd;exact⟨v,hv,hq v H R τ (aF.refl H) (λ_ h=>h) Si (w6 rp (by simpa using ho))⟩
  ·cases ev
 ·refine PE.imp (iB (F:=F) L c e h).1 λσ H Q hq=>?_;obtain⟨R,τ,ρ,r,Si,ev,hq⟩:=hq;have Q_:bd (bA Φ c ρ) (λd=>ok (keep c d ρ))=ok r:=by
   cases c<;>first|exact ev|exact absurd ⟨_,rfl⟩ hv
  obtain⟨d,ed,er⟩:=aE Q_;cases er;refine tD.intro Si ed λv H' e' r'=>?_;obtain⟨R',τ',h1,h2,h3⟩:=Ef Si e' r';exact hq v H' R' τ' e' h1 h2 h3
end
structure Kp(R:af)(H:Hp)(R':af)(H':Hp):Prop where
 r:∀p,R p->R' p
 l:∀p (o:HO),R p->H p=some o->H' p=some o
 t:∀p xs,H p=some (.tup xs)->H' p=some (.tup xs)
 z:∀p o u,H p=some (.gp o u)->H' p=some (.gp o u)
theorem Kp.refl(R:af)(H:Hp):Kp R H R H:=⟨λ_ h=>h,λ_ _ _ h=>h,λ_ _ h=>h,λ_ _ _ h=>h⟩
theorem Kp.of{R:Addr->Prop}{H:Hp}(e:aF H H')(h:∀p,R p->R' p):Kp R H R' H':=⟨h,λp xs _ h=>e _ _ h,λp xs h=>e _ _ h,λp o u h=>e _ _ h⟩
theorem Kp.trans{R R2:Addr->Prop}{H:Hp}(a:Kp R H R1 H1)(b:Kp R1 H1 R2 H2):Kp R H R2 H2 :=
 ⟨λp h=>b.r p (a.r p h),λp xs h e=>b.l p xs (a.r p h) (a.l p xs h e),λp xs h=>b.t p xs (a.t p xs h),λp o u h=>b.z p o u (a.z p o u h)⟩
theorem Kp.Nf{R:Addr->Prop}{H:Hp}(a:Kp R H R' H'){p:Addr}(h:aR K H p xs):aR K H' p xs:=by
 rcases h with (h|⟨o,h⟩)|h
 ·exact .inl (.inl (a.t p xs h))
 ·exact .inl (.inr ⟨o,a.z p o _ h⟩)
 ·exact .inr h
theorem Kp.nd{K:ai}{R R':af}{H H':Hp}(a:Kp R H R' H'){q:bg}{p:Addr}{xs:Nd}{f:Fl}(h:DI.nd K R (λ_=>False) (λ_=>none) H q p xs f):DI.nd K R' (λ_=>False) (λ_=>none) H' q p xs f:=by
 cases f with
 |ow=>exact nomatch h.2
 |fz=>exact⟨h.1.at λo e=>a.l p o h.2 e,a.r p h.2⟩
 |al=>exact h.2.elim
 |sc =>
  obtain⟨ys,rfl,h⟩:=h.yu;exact h.elim (λ⟨o,h⟩=>.inl ⟨o,a.z p o _ h⟩) .inr
theorem Kp.rep{R:Addr->Prop}{H:Hp}(a:Kp R H R' H'){k:bg}{v:V}{d:D}(h:Rep (aR K H) (DI.nd K R (λ_=>False) (λ_=>none) H) k v d):Rep (aR K H') (DI.nd K R' (λ_=>False) (λ_=>none) H') k v d :=
 h.imp (λ_ _ h=>a.Nf h) λ_ _ _ _ h=>a.nd h
theorem Kp.OP{R:Addr->Prop}{H:Hp}(a:Kp R H R' H'){k:bg}{n:Nat}{v:ae}{d:aa}(h:aA (aR K H) (DI.nd K R (λ_=>False) (λ_=>none) H) k n v d):aA (aR K H') (DI.nd K R' (λ_=>False) (λ_=>none) H') k n v d :=
 h.imp (λ_ _ h=>a.Nf h) λ_ _ _ _ h=>a.nd h
def AE(X:Cx)(F:af)(H':Hp)(v:V)(d:D):Prop:=∃τt:Addr->Option bg,(∀p q,τt p=some q->X.H₀ p=none)/\Rep (aR X.K H') (nd X.K (gP X F) (λ_=>False) τt H') [] v d
theorem gq.ret{R:Addr->Prop}{H:Hp}{v:V}{d:D}(Si:SI X F R τ ρ σ H)(h:gq X R τ H v d):AE X F H v d:=by
 obtain⟨τt,ht,rp⟩:=h;exact⟨τt,λp q e=>(ht p q e).2.2.1,rp.imp (λ_ _ h=>h) λ_ _ _ _ h=>h.mono (λh=>Si.rf _ h) id id⟩
def kc(X:Cx)(F:af)(D:Ends)(R:af)(H:Hp):Fo×aZ->Prop
 | (.nx,ρ')=>∀σ' H' R' τ',SI X F R' τ' ρ' σ' H'->Kp R H R' H'->D.nx σ' H'
 | (.bk,ρ')=>∀σ' H' R' τ',SI X F R' τ' ρ' σ' H'->Kp R H R' H'->D.bk σ' H'
 | (.ct,ρ')=>∀σ' H' R' τ',SI X F R' τ' ρ' σ' H'->Kp R H R' H'->D.ct σ' H'
 | (.rt d,_)=>∀v H',aF X.H₀ H'->AE X F H' v d->D.rt v H'
def nv(X:Cx)(F:af)(Φ:ba)(c:CS):TS:=λD σ H=>∃R τ ρ r,SI X F R τ ρ σ H/\nU Φ c ρ=ok r/\kc X F D R H r
def mN(X:Cx)(F:af)(Φ:ba)(cs:aj):TS:=λD σ H=>∃R τ ρ r,SI X F R τ ρ σ H/\bT Φ cs ρ=ok r/\kc X F D R H r
noncomputable def GB(sc:Scope)(x:Str):Bool:=decide (sc.names.lookup x=some .local)||decide (sc.names.lookup x=some .cell)
def m9(S:Sx)(i:Nat):Expr->Bool
 |.Name x _=>decide (S.N[i]?=some x)&&GB S.sc x
 |_=>false
def Sb:Expr->Bool
 |.Name x _=>mW x
 |_=>true
def Au(S:Sx):aK->aw->Bool
 |[],es=>match es with
  |[]=>true
  |_::_=>false
 |i::is,es=>match es with
  |[]=>false
  |e::es=>m9 S i e&&Au S is es
def xq(S:Sx):Tg->Expr->Bool
 |.nm i,e=>m9 S i e
 |.tp is,e=>br (vX e) λes=>Au S is es
noncomputable def iG:Expr->Bool
 |.ListComp _ _ _ _=>true
 |_=>false
noncomputable def isTup:Expr->Bool
 |.Tuple _ _ _=>true
 |_=>false
noncomputable def OH(S:Sx)(tg v:Expr):Bool:=match tg,v with
 |.Name x p,.ListComp _ _ sc pos=>(S.sc.names.lookup x==some .local)&&(p.line==pos.line)&&!(sc.names.any λ(n,k)=>n==x&&(k==.local||k==.cell))
 |_,_=>false
noncomputable def EZ:Expr->Option (Str×Pos)
 |.Name x p=>some (x,p)
 |_=>none
theorem ui{e:Expr}{x:Str}{p:Pos}(h:EZ e=some (x,p)):e=.Name x p:=by
 cases e<;>first|exact nk h | (cases h;done) | (cases h;rfl)
def As(S:Sx)(i j:Nat)(tg v:Expr):Bool :=
 br (vX tg) λts=>br (two ts) λt=>br (EZ t.1) λx=>br (EZ t.2) λy=>br (vX v) λvs=>br (two vs) λw =>
  decide (S.N[i]?=some x.1)&&decide (S.N[j]?=some y.1)&&decide (i≠j)&&decide (S.sc.names.lookup x.1=some .local)&&decide (S.sc.names.lookup y.1=some .local)&&decide (x.1≠y.1) &&
   decide (x.2.line=y.2.line)&&!([w.1,w.2].all (foldedForSure 8))&&!([w.1,w.2].all (constantsAlone 8))&&decide (([w.1,w.2].any λe=>match e with|.Starred ..=>true|_=>false)=false)
def MJ(S:Sx)(it:CI)(e:Expr):Bool:=match it with
 |.kI a=>br (dU e) λw=>decide (w.1=("range" : Str))&&gM S.sc w.1&&decide (w.1∈S.bl)&&br (one w.2) λy=>cf S a y
 |.seq a=>cf S a e&&nI e
 |.wx p es=>Nq e&&br (S.px.pi p S.sc S.bl e) λxs=>bI S es xs
noncomputable def y6:CI->Bool
 |.wx p _=>decide (1100<=p)
 |_=>true
noncomputable def x5:Stmt->Option (aw×Expr)
 |.Assign ts v _=>some (ts,v)
 |_=>none
theorem ou{s:Stmt}{ts:aw}{v:Expr}(h:x5 s=some (ts,v)):∃p,s=.Assign ts v p:=by
 cases s<;>first|exact nk h | (cases h;done) | (cases h;exact⟨_,rfl⟩)
noncomputable def JM:Stmt->Option (Option Expr)
 |.Return v _=>some v
 |_=>none
theorem Bc{s:Stmt}{v:Option Expr}(h:JM s=some v):∃p,s=.Return v p:=by
 cases s<;>first|exact nk h | (cases h;done) | (cases h;exact⟨_,rfl⟩)
noncomputable def JQ:Stmt->Option Expr
 |.Expr v _=>some v
 |_=>none
theorem sF{s:Stmt}{v:Expr}(h:JQ s=some v):∃p,s=.Expr v p:=by
 cases s<;>first|exact nk h | (cases h;done) | (cases h;exact⟨_,rfl⟩)
noncomputable def E_:Stmt->Option (Expr×Operator×Expr)
 |.AugAssign o p v _=>some (o,p,v)
 |_=>none
theorem Bm{s:Stmt}{v:Expr}{p:Operator}(h:E_ s=some (o,p,v)):∃q,s=.AugAssign o p v q:=by
 cases s<;>first|exact nk h | (cases h;done) | (cases h;exact⟨_,rfl⟩)
noncomputable def JO:Stmt->Option (Expr×bj×bj)
 |.If t x y _=>some (t,x,y)
 |_=>none
theorem Bg{s:Stmt}{t:Expr}{x y:bj}(h:JO s=some (t,x,y)):∃q,s=.If t x y q:=by
 cases s<;>first|exact nk h | (cases h;done) | (cases h;exact⟨_,rfl⟩)
noncomputable def JL:Stmt->Option (Expr×bj×bj)
 |.While t x y _=>some (t,x,y)
 |_=>none
theorem Bb{s:Stmt}{t:Expr}{x y:bj}(h:JL s=some (t,x,y)):∃q,s=.While t x y q:=by
 cases s<;>first|exact nk h | (cases h;done) | (cases h;exact⟨_,rfl⟩)
noncomputable def JP:Stmt->Option (Expr×Expr×bj×bj)
 |.For tg it x y _=>some (tg,it,x,y)
 |_=>none
theorem Bh{s:Stmt}{it:Expr}{x y:bj}(h:JP s=some (tg,it,x,y)):∃q,s=.For tg it x y q:=by
 cases s<;>first|exact nk h | (cases h;done) | (cases h;exact⟨_,rfl⟩)
noncomputable def uk:Expr->Option (Expr×Str×Pos)
 |.Attribute o a p=>some (o,a,p)
 |_=>none
theorem p_{e:Expr}{a:Str}{p:Pos}(h:uk e=some (o,a,p)):e=.Attribute o a p:=by
 cases e<;>first|exact nk h | (cases h;done) | (cases h;rfl)
noncomputable def oq:Expr->Option (Expr×aw×List Keyword×Pos)
 |.Call f as ks p=>some (f,as,ks,p)
 |_=>none
theorem nj{e f:Expr}{ks:List Keyword}{p:Pos}(h:oq e=some (f,as,ks,p)):e=.Call f as ks p:=by
 cases e<;>first|exact nk h | (cases h;done) | (cases h;rfl)
noncomputable def isNil{α:Type}:List α->Bool
 |[]=>true
 |_::_=>false
theorem je{α:Type}{l:List α}(h:isNil l=true):l=[]:=by cases l<;>first|rfl|cases h
noncomputable def Cs:Stmt->Bool
 |.Raise _ _ _=>true
 |_=>false
theorem Ds{i:Nat}{e:Expr}(h:m9 S i e=true):∃x p,e=.Name x p:=by
 cases e<;>first|exact⟨_,_,rfl⟩|exact(Xi h).elim
theorem uZ{e:Expr}(h:isNm e=true):∃x p,e=.Name x p:=by cases e<;>first|exact nk h | (cases h;done)|exact⟨_,_,rfl⟩
theorem wL{e:Expr}(h:iG e=true):∃x g sc p,e=.ListComp x g sc p:=by cases e<;>first|exact nk h | (cases h;done)|exact⟨_,_,_,_,rfl⟩
mutual
noncomputable def MH(S:Sx):CS->Stmt->Bool
 |.asg t e,s0=>br (x5 s0) λz=>br (one z.1) λtg=>cf S e z.2&&xq S t tg&&!(isTup z.2&&isTup tg)&&(!iG z.2||isNm tg)
 |.par i j a b,s0=>br (x5 s0) λz=>br (one z.1) λtg=>cf S (.tup [a,b]) z.2&&As S i j tg z.2
 |.ret e,s0=>br (JM s0) λz=>br z λv=>cf S e v
 |.rs _,s0=>Cs s0
 |.mut p i es,s0=>br (S.px.pm p S.sc S.bl s0) λz=>m9 S i z.1&&Sb z.1&&bI S es z.2
 |.app i e,s0=>br (JQ s0) λc=>br (oq c) λz=>isNil z.2.2.1&&br (uk z.1) λa=>decide (a.2.1=("append" : Str))&&m9 S i a.1&&Sb a.1&&(a.2.2.endLine==z.2.2.2.line)&&br (one z.2.1) λv=>cf S e v
 |.ex e,s0=>br (JQ s0) λv=>cf S e v&&!iG v
 |.ifs c a b,s0=>br (JO s0) λz=>cf S c z.1&&jm S a z.2.1&&jm S b z.2.2
 |.EX c b,s0=>br (JL s0) λz=>isNil z.2.2&&cf S c z.1&&jm S b z.2.1
 |.fr t it b,s0=>br (JP s0) λz=>isNil z.2.2.2&&xq S t z.1&&MJ S it z.2.1&&(ff z.1||y6 it)&&jm S b z.2.2.1
noncomputable def jm(S:Sx):aj->bj->Bool
 |[],ss=>match ss with
  |[]=>true
  |_::_=>false
 |c::cs,ss=>match ss with
  |[]=>false
  |s::ss=>MH S c s&&jm S cs ss
end
structure IH(px:Px)(Φ:ba):Prop where
 m:∀(X:Cx) (sc:Scope) (bl:ao) (k:Nat),PX X sc bl k->X.N.Nodup->(∀x,X.fn x=true)->∀(p:Nat) (st:Stmt) (x:Str) (pos:Pos) (args:aw),px.pm p sc bl st=some (.Name x pos,args)->∀(i:Nat),X.N[i]?=some x->L2.Loc X.env.scope x->PE X (.Name x pos) (v9 i) ->
  ∀(F:af) (cs:aD),lj X F Φ cs args->PS X st (nv X F Φ (.mut p i cs))
structure oj(X:Cx)(S:Sx)(k:Nat)(Φ:ba):Prop extends Lk X S k Φ where
 CP:∀x,X.fn x=true
 px:PassesOwn (model X.prog X.w) X.A X.env X.xe
 fk:S.sc.kind=.function
 pm:IH S.px Φ
section
variable {X:Cx}{S:Sx}{k:Nat}{F:af}{Φ:ba}
theorem oj.loc(L:oj X S k Φ){x:Str}(h:GB S.sc x=true):L2.Loc X.env.scope x:=by
 unfold L2.Loc;rw[L.sc];unfold GB at h;rw[Bool.or_eq_true]at h;exact h.imp Xh Xh
theorem DY(L:oj X S k Φ){x:Str}{p:Pos}{l:Nat}{elt:Expr}{gens:List Comprehension}{sc:Scope}:swapsWith (.ListComp elt gens sc pos) (some (.Name x p)) l X.env=pure (OH S (.Name x p) (.ListComp elt gens sc pos)):=by
 have hb:X.env.blockKind=.function:=by unfold Env.blockKind;rw[L.sc,L.fk];rfl
 have hk:(X.env.kindOf x==some .local)=(S.sc.names.lookup x==some .local):=by
  unfold Env.kindOf;rw[L.sc]
 unfold swapsWith OH;simp only[hb,hk];rfl
theorem rO{c:CE}{e:Expr}(h:cf S c e=true)(hc:iG e=false)(t:Option Expr)(l:Nat)(env:Env):swapsWith e t l env=pure false:=by
 cases e<;>first|rfl | (cases hc;done) | (cases c<;>exact(Xi h).elim)
def QY:aK->DE
 |[]=>Hu
 |i::is=>z9 (nP i) (QY is)
theorem yR(L:oj X S k Φ){i:Nat}{e:Expr}(h:m9 S i e=true):PG X e (nP i):=by
 cases e<;>try (exact(Xi h).elim;done)
 replace h:=aJ h;exact oO L.nd (by rw[L.N];exact Xh h.1) (L.loc h.2) (.inl (L.CP _))
theorem Cf{i:Nat}{e:Expr}(h:m9 S i e=true)(es:aw)(env:Env):assignEach (e::es) env=(false,assign e env)::assignEach es env:=by
 cases e<;>first|rfl | (exact(Xi h).elim;done)
theorem yQ(L:oj X S k Φ):∀{is:aK} {es:aw},Au S is es=true->JB X es (QY is)/\(assignEach es X.env).length=is.length/\(assignEach es X.env).findIdx? (·.1)=none
 |[],[],_=>⟨uH,rfl,rfl⟩
 |[],_::_,h=>by exact(Xi h).elim
 |_::_,[],h=>by exact(Xi h).elim
 |i::is,e::es,h=>by
  replace h:=aJ h;obtain⟨h1,h2,h3⟩:=yQ L h.2;have he:=Cf h.1 es X.env;refine⟨qG (yR L h.1) h1 (by rw[he];rfl),by rw[he];simp[h2],?_⟩;rw[he,List.findIdx?_cons];simp[h3]
theorem qp{H:Hp}{R:af}{Q:St->Hp->Prop}:∀{is:aK} {vs:ae} {ds:aa} {kp:bg} {n:Nat} {σ:St} {τ:Addr->Option bg} {ρ ρ':aZ},aA (aR X.K H) (nd X.K R (λ_=>False) (λ_=>none) H) kp n vs ds->SI X F R τ ρ σ H->gb is ds ρ=ok ρ' ->
  (∀σ' τ',SI X F R τ' ρ' σ' H->Q σ' H)->QY is vs σ H Q
 |[],_,_,_,_,σ,τ,_,_,.nil,Si,e,hq=>by
  cases e;exact⟨rfl,hq σ τ Si⟩
 |[],_,_,_,_,_,_,_,_,.cons _ _,_,e,_=>by cases e
 |_::_,_,_,_,_,_,_,_,_,.nil,_,e,_=>by cases e
 |i::is,_,_,_,_,σ,τ,ρ,_,.cons (v:=v) (d:=d) h t,Si,e,hq=>by
  change (if _ then _ else _)=_ at e;split at e
  ·rename_i hi;obtain⟨τ',fJ⟩:=Si.set (i:=i) (kL (τ':=τ) (Rep.oV h)) hi;exact⟨_,_,rfl,qp t fJ e hq⟩
  ·cases e
theorem yc(L:oj X S k Φ){t:Tg}(h:xq S t tg=true):∃g,PG X tg g/\∀(v:V) (σ:St) (H:Hp) (Q:St->Hp->Prop) (R:af) (τ:Addr->Option bg) (ρ ρ':aZ) (d:D),SI X F R τ ρ σ H->gq X R τ H v d->cg t d ρ=ok ρ' ->
  (∀σ' τ',SI X F R τ' ρ' σ' H->Q σ' H)->g v σ H Q:=by
 cases t with
 |nm i =>
  refine⟨nP i,yR L h,λv σ H Q R τ ρ ρ' d Si rk e hq=>?_⟩;simp only[cg]at e;split at e
  ·rename_i hi;cases e;obtain⟨τ',fJ⟩:=Si.set rk hi;exact hq _ τ' fJ
  ·cases e
 |tp is =>
  obtain⟨es,hx,ha⟩:=bu h;obtain⟨nn,pp,rfl⟩:=iZ hx;obtain⟨h1,h2,h3⟩:=yQ L ha;refine⟨_,yP L.calm h1 h2 h3,λv σ H Q R τ ρ ρ' d Si rk e hq=>?_⟩;cases d<;>try (simp[cg]at e;done)
  rename_i ds;simp only[cg]at e;split at e
  ·cases e
  ·rename_i ho;obtain⟨τt,ht,rp⟩:=rk;cases rp with
   | @tup _ p xs _ hp rs =>
    have sX:aA (aR X.K H) (nd X.K R (λ_=>False) (λ_=>none) H) [] 0 xs ds:=aA.without (P:=ck) (λ_ _ h=>h) (λk k' p xs f hf h=>by
     cases f with
     |ow=>cases hf
     |fz=>exact h
     |al=>exact h.2.elim
     |sc=>exact h) rs (by simpa using ho) _ _
    refine⟨p,xs,rfl,hp,?_,qp sX Si e hq⟩;rw[rs.length];have:∀(is:aK) (ds:aa) (ρ ρ':aZ),gb is ds ρ=ok ρ'->ds.length=is.length:=by
     intro is;induction is with
     |nil=>intro ds ρ ρ' e;cases ds with|nil=>rfl|cons _ _=>cases e
     |cons i is ih=>intro ds ρ ρ' e;cases ds with
      |nil=>cases e
      |cons d ds =>
       change (if _ then _ else _)=_ at e;split at e
       ·simp[ih ds _ _ e]
       ·cases e
    exact this _ _ _ _ e
end
section
variable {X:Cx}{S:Sx}{k:Nat}{F:af}{Φ:ba}
theorem yg(L:oj X S k Φ){t:Tg}{e:CE}{v:Expr}(he:cf S e v=true)(ht:xq S t tg=true)(hp:(isTup v&&isTup tg)=false)(P7:swapsWithSole [tg] v pos.line X.env=pure false):PS X (.Assign [tg] v pos) (nv X F Φ (.asg t e)):=by
 obtain⟨g,hg,zR⟩:=yc (F:=F) L ht;have IL:(∃x p,tg=.Name x p)\/∃es n p,tg=.Tuple es n p:=by
  cases t with
  |nm i=>cases tg<;>first|exact .inl ⟨_,_,rfl⟩|exact(Xi ht).elim
  |tp is=>cases tg<;>first|exact .inr ⟨_,_,_,rfl⟩|exact(Xi ht).elim
 have each:(assignEach [tg] X.env).map (·.2)=[assign tg X.env]:=by
  rcases IL with ⟨x,p,rfl⟩|⟨es,n,p,rfl⟩<;>rfl
 have hw:swappedStores [tg] v X.env=pure none:=by
  rcases IL with ⟨x,p,rfl⟩|⟨es,n,p,rfl⟩
  ·first|rfl | (cases v<;>rfl)
  ·cases v<;>first|rfl|exact absurd hp (by simp[isTup])
 refine PS.imp (FW (sQ (F:=F) L.toLk e v he) hg P7 hw each) λD σ H hq=>?_;obtain⟨R,τ,ρ,r,Si,ev,hq⟩:=hq;obtain⟨r1,xN,ev⟩:=aE ev;obtain⟨ρ',eρ,ev⟩:=aE ev;cases ev;exact⟨R,τ,ρ,r1,Si,xN,λv H' R' τ' es hR fJ rk=>zR v σ H' _ R' τ' r1.2 ρ' r1.1 fJ rk eρ λσ' xR IG=>hq σ' H' R' xR IG (Kp.of es hR)⟩
theorem Bt(L:oj X S k Φ){i n:Nat}{t:Tg}{ik:IK}{x:Str}{p Ki:Pos}{gens:List Comprehension}{sc:Scope}
  (he:cf S (.comp n t caps ik es bC elt) (.ListComp ic gens sc pos)=true) (hn:m9 S i (.Name x p)=true) (P7:swapsWith (.ListComp ic gens sc pos) (some (.Name x p)) Ki.line X.env=pure true) :
  PS X (.Assign [.Name x p] (.ListComp ic gens sc pos) Ki) (nv X F Φ (.asg (.nm i) (.comp n t caps ik es bC elt))):=by
 intro pins s σ H D I hq;obtain⟨R,τ,ρ,r,Si,ev,hq⟩:=hq;obtain⟨r1,xN,ev⟩:=aE ev;obtain⟨ρ',eρ,ev⟩:=aE ev;cases ev;have xN:bd (bA Φ (.comp n t caps ik es bC elt) ρ) (λd=>ok (keep (.comp n t caps ik es bC elt) d ρ))=ok r1:=xN;obtain⟨d,ed,xN⟩:=aE xN;cases xN;have hg:=yR L hn;rw[exec_Assign_Name_used _ _ _ _ P7];refine Xf (Zk (Xf ?_));obtain⟨⟨e0,g0,s0⟩,Vd,AK⟩:=bu he;cases Vd;obtain⟨⟨target,iter,ifs,a⟩,Qz,hz⟩:=bu AK;obtain rfl:gens=_:=cx Qz;obtain⟨hz,h6⟩:=aJ hz;obtain⟨hz,h5⟩:=aJ hz;obtain⟨hz,h4⟩:=aJ hz;obtain⟨hz,h3⟩:=aJ hz;obtain⟨hz,h2⟩:=aJ hz;obtain⟨hz,h1⟩:=aJ hz;obtain rfl:a=0:=Xh hz;have hC:=rK (Xh h3) h4 (λ(X':Cx) (F':af) (L':Lk X' (S.inner target caps sc) k Φ)=>gz bC X' _ F' L' ifs h4);have run:wpAny (model X.prog X.w) X.A (comprehension (.ListComp ic [⟨target,iter,ifs,0⟩] sc pos) sc X.env (firstIterPos [⟨target,iter,ifs,0⟩] pos) (newList []) false (eval iter X.env) (some (assign (.Name x p) X.env))) (λ_ s'=>SP X pins D .next s') X.xe s:=by
  refine rL (F:=F) (k:=k) L.toLk (nZ h1) h2 (λX' F' L'=>(iB (F:=F') L' elt ic h5).1) hC ?_ (use:=some (assign (.Name x p) X.env)) (Post:=λ_ s'=>SP X pins D .next s') I Si ed ?_
  ·exact zD L.toLk (λl=>uv (F:=F) L.toLk es l) (λl=>gz es X S F L.toLk l) (λl=>lE L.toLk es l) h6
  ·intro acc C H1 s1 m xI hc IX sm rt;obtain⟨c1,c2,c3,c4,c5⟩:=hc;obtain⟨R',τ',hR,fJ,rk⟩:=Ef (e:=.comp n t caps ik es bC elt) Si sm rt;have I1:Inv X pins σ H1 s1:=IX s1.heap (.refl ..);obtain⟨oC,V8,V9,Vq,S_,Vj⟩:=xI;have Wt:C∉X.fs:=λz=>by
    obtain⟨_,o,ho,_⟩:=I1.ok.kA.mem z;exact absurd (Xu (Xk ho) c2) (XA _)
   have I2:Inv X ((C,oC)::pins) σ H1 s1:=I1.hJ λq hq=>by
    rcases List.mem_cons.mp hq with rfl|hq
    ·exact⟨Vq,c5,c1,Wt,λv z=>by rw[S_]at z;cases z⟩
    ·exact I1.pin q (Xr _ hq)
   simp only[cg]at eρ;split at eρ
   ·rename_i hi;cases eρ;obtain⟨τ2,AB⟩:=fJ.set rk hi;show wpAny _ _ (assign (.Name x p) X.env (.ref acc)) _ _ _;refine XE (hg ((C,oC)::pins) s1 σ H1 (.ref acc) (.ref acc) (λσ' H'=>σ'=σ.set i (some (.ref acc))/\H'=H1) I2 rfl ⟨rfl,rfl⟩) (λ_ s2 h2=>?_) λ_ _ z=>z;obtain⟨σ',H',I3,rfl,rfl⟩:=h2;have VS:=(I3.pin (C,oC) (Xr _ Xo)).1;refine⟨m,⟨oC,V8,V9,VS,S_,Vj⟩,λh' u0=>?_⟩;have I4:Inv X pins (σ.set i (some (.ref acc))) H' s2:=I3.hJ λq hq=>I3.pin q (Xr _ (Xm _ hq));have I5:=I4.turned (t':=s2.toks) (h':=h') (it:=C) (λb o hb e=>(u0.2 b hb).trans e) c5 c1 (.inr c2) c3 c4;exact⟨_,H',I5,hq _ H' R' τ2 AB (Kp.of sm hR)⟩
   ·cases eρ
 exact Xf (XE run (λ_ s' h=>Xg (Xg h)) λ_ _ z=>z)
theorem Fj(L:oj X S k Φ){e:CE}{v:Expr}(he:cf S e v=true):PS X (.Return (some v) pos) (nv X F Φ (.ret e)):=by
 refine PS.imp (FT (sQ (F:=F) L.toLk e v he)) λD σ H hq=>?_;obtain⟨R,τ,ρ,r,Si,ev,hq⟩:=hq;obtain⟨r1,xN,ev⟩:=aE ev;cases ev;exact⟨R,τ,ρ,r1,Si,xN,λv H' R' τ' es hR fJ rk=>hq v H' fJ.same (rk.ret fJ)⟩
theorem Kh(L:oj X S k Φ){e:CE}{v:Expr}(he:cf S e v=true)(Vs:iG v=false):PS X (.Expr v pos) (nv X F Φ (.ex e)):=by
 refine PS.imp (oN (iB (F:=F) L.toLk e v he).1 (rO he Vs _ _ _)) λD σ H hq=>?_;obtain⟨R,τ,ρ,r,Si,ev,hq⟩:=hq;obtain⟨d,ed,ev⟩:=aE ev;cases ev;exact tD.intro Si ed λv H' es rv=>hq σ H' R τ (Si.go es) (Kp.of es λ_ h=>h)
theorem kc.from{D:Ends}{R:Addr->Prop}{H:Hp}{r:Fo×aZ}(h:kc X F D R H r)(kp:Kp R H R1 H1):kc X F D R1 H1 r:=by
 obtain⟨fo,ρ'⟩:=r;cases fo with
 |nx=>exact λσ' H' R' τ' Si k2=>h σ' H' R' τ' Si (kp.trans k2)
 |bk=>exact λσ' H' R' τ' Si k2=>h σ' H' R' τ' Si (kp.trans k2)
 |ct=>exact λσ' H' R' τ' Si k2=>h σ' H' R' τ' Si (kp.trans k2)
 |rt d=>exact h
theorem Kg(L:oj X S k Φ){c:CE}{a b:aj}{t:Expr}{x y:bj}(hc:cf S c t=true)(ha:lh X x (mN X F Φ a))(hb:lh X y (mN X F Φ b)):PS X (.If t x y pos) (nv X F Φ (.ifs c a b)):=by
 refine PS.imp (KG (iB (F:=F) L.toLk c t hc).2 ha hb) λD σ H hq=>?_;obtain⟨R,τ,ρ,r,Si,ev,hq⟩:=hq;obtain⟨w,ew,ev⟩:=aE ev;refine⟨R,τ,ρ,w,Si,ew,λH1 e1=>?_⟩;cases w with
 |true=>rw[if_pos rfl]at ev ⊢;exact⟨R,τ,ρ,r,Si.go e1,ev,hq.from (Kp.of e1 λ_ h=>h)⟩
 |false=>rw[if_neg (by simp)]at ev ⊢;exact⟨R,τ,ρ,r,Si.go e1,ev,hq.from (Kp.of e1 λ_ h=>h)⟩
theorem yf(L:oj X S k Φ){c:CE}{b:aj}{t:Expr}{x:bj}(hc:cf S c t=true)(hb:lh X x (mN X F Φ b)):PS X (.While t x [] pos) (nv X F Φ (.EX c b)):=by
 refine PS.imp (yK L.px (iB (F:=F) L.toLk c t hc).2 hb) λD σ H hq=>?_;obtain⟨R,τ,ρ,r,Si,ev,hq⟩:=hq;obtain⟨n,hn⟩:=jK ev;refine⟨λm σ' H'=>∃R' τ' ρ',SI X F R' τ' ρ' σ' H'/\Kp R H R' H'/\cz m _ ρ'=ok r,⟨n,R,τ,ρ,Si,Kp.refl R H,hn⟩,?_⟩;rintro m σ1 H1 ⟨R1,τ1,ρ1,pU,k1,e1⟩;cases m with
 |zero=>simp[cz]at e1
 |succ m =>
  rw[cz]at e1;obtain⟨st,es,e1⟩:=aE e1;obtain⟨w,ew,es⟩:=aE es;refine⟨R1,τ1,ρ1,w,pU,ew,λH2 e2=>?_⟩;cases w with
  |false =>
   rw[if_neg (by simp)]at es ⊢;cases es;cases e1;exact hq σ1 H2 R1 τ1 (pU.go e2) (k1.trans (Kp.of e2 λ_ h=>h))
  |true =>
   rw[if_pos rfl]at es ⊢;obtain⟨⟨fo,ρ2⟩,eb,es⟩:=aE es;refine⟨λσ' H'=>∃R' τ' ρ',SI X F R' τ' ρ' σ' H'/\Kp R H R' H'/\cz m _ ρ'=ok r,λσ' H' h=>⟨m,Yi m,h⟩,R1,τ1,ρ1,(fo,ρ2),pU.go e2,eb,?_⟩;have k2:Kp R H R1 H2:=k1.trans (Kp.of e2 λ_ h=>h);cases fo with
   |nx=>cases es;exact λσ' H' R' τ' fJ k3=>⟨R',τ',ρ2,fJ,k2.trans k3,e1⟩
   |ct=>cases es;exact λσ' H' R' τ' fJ k3=>⟨R',τ',ρ2,fJ,k2.trans k3,e1⟩
   |bk=>cases es;cases e1;exact λσ' H' R' τ' fJ k3=>hq σ' H' R' τ' fJ (k2.trans k3)
   |rt d=>cases es;cases e1;exact hq
def jw(X:Cx)(F:af)(Φ:ba)(t:Tg)(b:aj)(R1:af)(H1:Hp)(r:Fo×aZ)(items:List DI.D)(i:Nat)(σ:St)(H:Hp):Prop :=
 ∃R' τ' ρ',SI X F R' τ' ρ' σ H/\Kp R1 H1 R' H/\eu (λd ρ=>cg t d ρ) (λρ=>bT Φ b ρ) (items.drop i) ρ'=ok r
theorem l9{g:TG}{t:Tg}{b:aj}{D:Ends}{r:Fo×aZ}{items:List DI.D}{q:bg}
  (zR:∀(v:V) (σ:St) (H:Hp) (Q:St->Hp->Prop) (R:af) (τ:Addr->Option bg) (ρ ρ':aZ) (d:DI.D),SI X F R τ ρ σ H->gq X R τ H v d->cg t d ρ=ok ρ'->(∀σ' τ',SI X F R τ' ρ' σ' H->Q σ' H)->g v σ H Q)
  (rs:aA (aR X.K H1) (nd X.K R1 (λ_=>False) (λ_=>none) H1) q 0 xs items) (hq:kc X F D R1 H1 r) (i:Nat) (x:V) (σ:St) (H:Hp) (hx:xs[i]?=some x) (h:jw X F Φ t b R1 H1 r items i σ H) :
  g x σ H λσ2 H2=>mN X F Φ b { D with nx:=jw X F Φ t b R1 H1 r items (i+1),ct:=jw X F Φ t b R1 H1 r items (i+1),bk:=D.nx } σ2 H2:=by
 obtain⟨R',τ',ρ',Si,kp,ef⟩:=h;obtain⟨d,hd,rd⟩:=rs.tP hx;have hi:i<items.length:=by
  by_cases hi:i<items.length
  ·exact hi
  ·rw[List.getElem?_eq_none (by left)]at hd;cases hd
 have rl:items.drop i=d::items.drop (i+1):=by
  rw[List.drop_eq_getElem_cons hi];rw[List.getElem?_eq_getElem hi]at hd;cases hd;rfl
 rw[rl,eu]at ef;obtain⟨ρ1,e1,ef⟩:=aE ef;obtain⟨⟨fo,ρ2⟩,e2,ef⟩:=aE ef;refine zR x σ H _ R' τ' ρ' ρ1 d Si (kL (Rep.oV (kp.rep rd))) e1 λσ' xR fJ=>⟨R',xR,ρ1,(fo,ρ2),fJ,e2,?_⟩
 cases fo with
 |nx=>exact λσ3 H3 R3 τ3 xD k3=>⟨R3,τ3,ρ2,xD,kp.trans k3,ef⟩
 |ct=>exact λσ3 H3 R3 τ3 xD k3=>⟨R3,τ3,ρ2,xD,kp.trans k3,ef⟩
 |bk=>cases ef;exact λσ3 H3 R3 τ3 xD k3=>hq σ3 H3 R3 τ3 xD (kp.trans k3)
 |rt d=>cases ef;exact hq
theorem kQ{t:Tg}{b:aj}{D:Ends}{r:Fo×aZ}{items:List DI.D}{n:Nat}(hn:n=items.length)(hq:kc X F D R1 H1 r)(σ:St)(H:Hp)(h:jw X F Φ t b R1 H1 r items n σ H):D.nx σ H:=by
 obtain⟨R',τ',ρ',Si,kp,ef⟩:=h;subst hn;rw[List.drop_length,eu]at ef;cases ef;exact hq σ H R' τ' Si kp
theorem vg(ρ:aZ):gp [] ρ=ρ:=by
 unfold gp;apply YM;intro i;rw[List.getElem?_mapIdx];cases ρ[i]? with
 |none=>rfl
 |some o=>simp
theorem vm{R:af}{H:Hp}{v:V}{d:DI.D}(Si:SI X F R τ ρ σ H)(es:aF H H')(r:bJ X.K (gP X F) R τ fv H H' v d):
  ∃R' τ',(∀p,R p->R' p)/\SI X F R' τ' (if aY bG d then gp fv ρ else ρ) σ H'/\Rep (aR X.K H') (nd X.K R' (λ_=>False) (λ_=>none) H') [] v (aW a_ d):=by
 by_cases ha:aY bG d=true
 ·rw[if_pos ha];exact pd Si es r
 ·rw[if_neg ha];have r':bJ X.K (gP X F) R τ [] H H' v d:=by
   obtain⟨τt,fr,rp⟩:=r;exact⟨τt,fr,Rep.iX (P:=bG) (λ_ _ h=>h) (λk p xs f hf h=>by
    cases f with
    |ow=>exact h
    |fz=>exact h
    |al=>cases hf
    |sc=>exact h) rp (by simpa using ha)⟩
  have:=pd Si es r';rw[vg]at this;exact this
theorem Aa{R:af}{H:Hp}{ds:List DI.D}(Si:SI X F R τ ρ σ H)(es:aF H H')(r:bP X.K (gP X F) R τ fv H H' vs ds):
  ∃R' τ',(∀p,R p->R' p)/\SI X F R' τ' (if aS bG ds then gp fv ρ else ρ) σ H'/\aA (aR X.K H') (nd X.K R' (λ_=>False) (λ_=>none) H') [] 0 vs (aB a_ ds):=by
 by_cases ha:aS bG ds=true
 ·rw[if_pos ha];exact rA Si es r
 ·rw[if_neg ha];have r':bP X.K (gP X F) R τ [] H H' vs ds:=by
   obtain⟨τt,fr,rp⟩:=r;exact⟨τt,fr,aA.iX (P:=bG) (λ_ _ h=>h) (λk p xs f hf h=>by
    cases f with
    |ow=>exact h
    |fz=>exact h
    |al=>cases hf
    |sc=>exact h) rp (by simpa using ha)⟩
  have:=rA Si es r';rw[vg]at this;exact this
def Uc(X:Cx)(F:af)(Φ:ba)(p:Nat)(cs:aD):TI:=λσ H Rr=>∃R τ ρ xs d items,SI X F R τ ρ σ H/\bV Φ cs ρ=ok xs/\Φ p xs=ok d/\kh d=ok items /\
 ∀J H2 vs,aF H H2->bP X.K (gP X F) R τ (cA cs) H H2 vs xs->EJ X.K J H2 vs xs items->Rr J H2
theorem Bs(L:oj X S k Φ){t:Tg}{p:Nat}{b:aj}{x:bj}(ht:xq S t tg=true)(hi:S.px.pi p S.sc S.bl iter=some args)(hc:bI S cs args=true)(G5:Nq iter=true)(Vf:(decide (1100<=p)||ff tg)=true)(hb:lh X x (mN X F Φ b)):PS X (.For tg iter x [] pos) (nv X F Φ (.fr t (.wx p cs) b)):=by
 obtain⟨g,hg,zR⟩:=yc (F:=F) L ht;have l4:∀y,foldedSetIterable iter X.env y=pure y:=by
  intro y;cases iter<;>first|rfl | (cases G5;done)
 have pi:PI X tg iter (Uc X F Φ p cs):=λpins s σ H Rr I ⟨R,τ,ρ,xs,d,items,Si,b6,ed,ei,hR⟩ =>
  L.pr.i X _ _ k L.toLk.pX p iter args hi F cs tg Vf (lE L.toLk cs args hc) pins s σ H R τ ρ xs d items I Si b6 ed ei Rr hR
 refine PS.imp (oM L.px L.calm pi hg hb l4) λD σ H hq=>?_;obtain⟨R,τ,ρ,r,Si,ev,hq⟩:=hq;obtain⟨⟨items,ρ1⟩,ei,ef⟩:=aE ev;obtain⟨xs,b6,ei⟩:=aE ei;obtain⟨d,ed,ei⟩:=aE ei;obtain⟨Pz,Wd,ei⟩:=aE ei;cases ei;refine⟨R,τ,ρ,xs,d,items,Si,b6,ed,Wd,λJ H2 vs e2 BH yz=>?_⟩;obtain⟨R',τ',hR,fJ,rs⟩:=Aa Si e2 BH;have u_:=hq.from (Kp.of e2 hR);refine⟨λi m σ' H'=>m=items.length - i/\i<=items.length/\jw X F Φ t b R' H2 r items i σ' H',⟨_,rfl,XH _,R',τ',_,fJ,Kp.refl R' H2,by rw[List.drop_zero];exact ef⟩,?_⟩;rintro i m σ1 H1 ⟨rfl,wY,hf⟩;obtain⟨R1,τ1,ρ2,pU,k1,e1⟩:=id hf;have Kr:=k1.OP rs;have g5:oi X.K H2 vs xs H1:=⟨⟨R',rs,k1.l⟩,λa ys h=>k1.Nf h⟩
 by_cases b9:i<items.length
 ·refine .inr ⟨yz.go i H1 R1 g5 Kr b9,λσ' H'=>jw X F Φ t b R' H2 r items (i+1) σ' H',λσ' H' h=>⟨items.length - (i+1),by left,rfl,b9,h⟩,λv H3 hy=>?_⟩;obtain⟨e3,dd,hd,rd⟩:=yz.sh i H1 R1 v H3 g5 Kr b9 hy;have rl:items.drop i=dd::items.drop (i+1):=by
   rw[List.drop_eq_getElem_cons b9];rw[List.getElem?_eq_getElem b9]at hd;cases hd;rfl
  rw[rl,eu]at e1;obtain⟨ρ3,eb,e1⟩:=aE e1;obtain⟨⟨fo,ρ4⟩,e4,e1⟩:=aE e1;have k3:Kp R' H2 R1 H3:=k1.trans (Kp.of e3 λ_ h=>h);refine zR v σ1 H3 _ R1 τ1 ρ2 ρ3 dd (pU.go e3) (kL rd) eb λσ' xR IG=>⟨R1,xR,ρ3,(fo,ρ4),IG,e4,?_⟩
  cases fo with
  |nx=>exact λσ3 H4 R3 τ3 xD k4=>⟨R3,τ3,ρ4,xD,k3.trans k4,e1⟩
  |ct=>exact λσ3 H4 R3 τ3 xD k4=>⟨R3,τ3,ρ4,xD,k3.trans k4,e1⟩
  |bk=>cases e1;exact λσ3 H4 R3 τ3 xD k4=>u_ σ3 H4 R3 τ3 xD (k3.trans k4)
  |rt d=>cases e1;exact u_
 ·exact .inl ⟨yz.stop i H1 R1 g5 Kr (by left),kQ (n:=i) (by left) u_ σ1 H1 hf⟩
theorem aA.ints{T:kC}{N:gu}:∀(is:ab) {k:bg} {n:Nat},aA T N k n (is.map V.int) (is.map DI.D.int)
 |[],_,_=>.nil
 |i::is,_,_=>.cons (.int i) (aA.ints is)
theorem Fq(L:oj X S k Φ){t:Tg}{it:CI}{b:aj}{x:bj}(ht:xq S t tg=true)(hi:MJ S it iter=true)(Vr:(ff tg||y6 it)=true)(hb:lh X x (mN X F Φ b)):PS X (.For tg iter x [] pos) (nv X F Φ (.fr t it b)):=by
 obtain⟨g,hg,zR⟩:=yc (F:=F) L ht;have l4:∀y,foldedSetIterable iter X.env y=pure y:=by
  intro y;cases iter<;>first|rfl | (cases it<;>first|exact(Xi hi).elim|exact(Xi (aJ hi).2).elim)
 have kI:∀{lo:Int} {n:Nat} {D:Ends} {R:af} {τ:Addr->Option bg} {ρ:aZ} {σ:St} {H H1:Hp} {r:Fo×aZ},SI X F R τ ρ σ H->aF H H1->kc X F D R H r ->
   eu (λd ρ=>cg t d ρ) (λρ=>bT Φ b ρ) ((List.range n).map λ(k:Nat)=>DI.D.int (lo+(k:Int))) ρ=ok r ->
   ∃W:Nat->Nat->L2.St->Hp->Prop,(∃m,W 0 m σ H1)/\∀i m σ H,W i m σ H ->
    ((xF lo n).stop i H/\D.nx σ H)\/((xF lo n).go i H/\∃N:L2.St->Hp->Prop,(∀σ' H',N σ' H'->∃m',m'<m/\W (i+1) m' σ' H')/\∀x H',(xF lo n).sh i H x H'->g x σ H' λσ2 H2=>mN X F Φ b { D with nx:=N,ct:=N,bk:=D.nx } σ2 H2):=by
  intro lo n D R τ ρ σ H H1 r Si e1 hq ef;have rs:aA (aR X.K H1) (nd X.K R (λ_=>False) (λ_=>none) H1) [] 0 ((List.range n).map λ(k:Nat)=>V.int (lo+(k:Int))) ((List.range n).map λ(k:Nat)=>DI.D.int (lo+(k:Int))):=by
   have:=aA.ints (T:=aR X.K H1) (N:=nd X.K R (λ_=>False) (λ_=>none) H1) ((List.range n).map λ(k:Nat)=>lo+(k:Int)) (k:=[]) (n:=0);rw[List.map_map,List.map_map]at this;exact this
  have u_:=hq.from (Kp.of e1 (R':=R) λ_ h=>h);refine xh (jw X F Φ t b R H1 r _) ⟨R,τ,ρ,Si.go e1,Kp.refl R H1,by rw[List.drop_zero];exact ef⟩ (λi σ' H' Qv h=>?_) (λσ' H' h=>kQ (by simp) u_ σ' H' h);exact l9 zR rs u_ i (.int (lo+i)) σ' H' (by rw[List.getElem?_map,List.getElem?_range Qv];rfl) h
 intro pins s σ H D I Qb;cases it with
 |wx p cs =>
  obtain⟨G5,hz⟩:=aJ hi;obtain⟨args,ha,NG⟩:=bu hz;exact Bs L ht ha NG G5 (by rw[Bool.or_comm];exact Vr) hb pins s σ H D I Qb
 |kI a =>
  obtain⟨R,τ,ρ,r,Si,ev,hq⟩:=Qb;obtain⟨⟨items,ρ1⟩,ei,ef⟩:=aE ev;obtain⟨⟨y,as⟩,hv,hz⟩:=bu hi;obtain⟨p,GY,rfl⟩:=cP hv;obtain⟨SF,NG⟩:=aJ hz;obtain⟨U_,h2⟩:=aJ SF;obtain⟨U9,h1⟩:=aJ U_;obtain rfl:y=_:=Xh U9;obtain⟨e,hu,h3⟩:=bu NG;obtain rfl:as=[e]:=cx hu;have pa:PA X [e] (pW X F Φ [a]):=PA.imp (di (iB (F:=F) L.toLk a e h3).1 fO (bU h3 _ _)) λ_ _ _ h=>by
   have:=eE h;obtain⟨R,τ,ρ,d,Si,ev,hq⟩:=this;exact⟨R,τ,ρ,d,Si,ev,λv H' e r=>gY (hq v H' e r)⟩
  refine oM L.px L.calm (nF (L.gl h1) (L.bl _ (Xh h2)) pa (bU h3 _ _)) hg hb l4 pins s σ H D I ?_;obtain⟨d,ed,ei⟩:=aE ei;cases d<;>try (simp at ei;done)
  rename_i n;simp at ei;obtain⟨⟨c1,c2⟩,rfl,rfl⟩:=ei;have m3:(eO:Int)=1000000:=rfl;refine⟨R,τ,ρ,[.int n],Si,by show bd (bA Φ a ρ) _=_;rw[ed];rfl,λvs H1 e1 rv=>?_⟩;obtain⟨τt,fr,rs⟩:=rv;cases rs.ints1
  ·refine⟨n,rfl,by left,by left,?_⟩;refine kI (lo:=0) Si e1 hq ?_;simpa using ef
 |seq a =>
  obtain⟨R,τ,ρ,r,Si,ev,hq⟩:=Qb;obtain⟨⟨items,ρ1⟩,ei,ef⟩:=aE ev;replace hi:=aJ hi;obtain⟨d,ed,ei⟩:=aE ei;have pe:=(iB (F:=F) L.toLk a iter hi.1).1;cases d<;>try (simp at ei;done)
  ·rename_i ds;simp at ei;obtain⟨rfl,rfl⟩:=ei;refine oM L.px L.calm (yO pe) hg hb l4 pins s σ H D I (tD.intro Si ed λv H1 e1 rv=>?_);obtain⟨R',τ',hR,fJ,rp⟩:=vm Si e1 rv;rw[aW]at rp;cases rp with
   | @tup _ p xs _ hp rs =>
    have u_:=hq.from (Kp.of e1 hR);refine⟨p,rfl,⟨xs,hp⟩,CN (xs:=xs) (jw X F Φ t b R' H1 r (aB a_ ds)) ⟨R',τ',_,fJ,Kp.refl R' H1,by rw[List.drop_zero];exact ef⟩ (λi σ' H' _ h=>?_) (λi x σ' H' hx h=>l9 zR rs u_ i x σ' H' hx h) (λσ' H' h=>kQ (rs.length) u_ σ' H' h)⟩;obtain⟨R2,τ2,ρ2,_,kp,_⟩:=h;exact kp.Nf hp
  ·rename_i f ds;simp at ei;obtain⟨rfl,rfl⟩:=ei;refine oM L.px L.calm (uG pe) hg hb l4 pins s σ H D I (tD.intro Si ed λv H1 e1 rv=>?_);obtain⟨R',τ',hR,fJ,rp⟩:=vm Si e1 rv;rw[aW]at rp;obtain⟨p,xs,rfl,hp,rs⟩:=rp.p4;have u_:=hq.from (Kp.of e1 hR);refine⟨p,rfl,⟨xs,hp.sq⟩,Ab (xs:=xs) (jw X F Φ t b R' H1 r (aB a_ ds)) ⟨R',τ',_,fJ,Kp.refl R' H1,by rw[List.drop_zero];exact ef⟩ (λi σ' H' _ h=>?_) (λi x σ' H' hx h=>l9 zR rs u_ i x σ' H' hx h) (λσ' H' h=>kQ (rs.length) u_ σ' H' h)⟩;obtain⟨R2,τ2,ρ2,_,kp,_⟩:=h;exact(kp.nd hp).sq
theorem oZ{R:Addr->Prop}{ρ':aZ}{H:Hp}{p:Addr}{q:bg}{n:Nd}{o:HO}(Si:SI X F R' τ' ρ' σ H1)(es:aF H H1)(hR:∀p,R p->R' p)(hp:dy H1 p n)(ht:τ' p=some q):Kp R H R' (upd H1 p o):=by
 obtain⟨o0,Jf,LM,Je⟩:=dy.some hp;exact⟨hR,λa u ha e=>by
  have ne:a≠p:=λz=>by subst z;rw[Si.rt _ (hR _ ha)]at ht;cases ht
  rw[aQ ne];exact es _ _ e,λa zs e=>by
  have e1:=es _ _ e;have ne:a≠p:=λz=>by subst z;rw[Jf]at e1;cases e1;exact LM _ rfl
  rw[aQ ne];exact e1,λa o u e=>by
  have e1:=es _ _ e;have ne:a≠p:=λz=>by subst z;rw[Jf]at e1;cases e1;exact Je _ _ rfl
  rw[aQ ne];exact e1⟩
theorem Sa(L:oj X S k Φ){i:Nat}(h:m9 S i o=true)(hv:∀x p,o=.Name x p->mW x=true):∃x p,o=.Name x p/\X.N[i]?=some x/\L2.Loc X.env.scope x/\PE X o (v9 i):=by
 cases o<;>try (exact(Xi h).elim;done)
 rename_i x p;have hn:=hv x p rfl;replace h:=aJ h;unfold mW at hn;simp only[Bool.and_eq_true,Bool.not_eq_true']at hn;have hN:X.N[i]?=some x:=by rw[L.N];exact Xh h.1
 have hl:=L.loc h.2;exact⟨x,p,rfl,hN,hl,sZ hN (hl.imp id .inl) hn.1.1 hn.1.2⟩
theorem CU{e:CE}{r:DI.D×aZ}{i:Nat}{ds:List DI.D}(h:iH Φ e ρ=ok r)(ho:r.2[i]?=some (some (.lst .ow ds))):ρ[i]?=some (some (.lst .ow ds)):=by
 by_cases hv:∃j,e=.v j
 ·obtain⟨j,rfl⟩:=hv;simp only[iH]at h;split at h
  ·split at h
   ·cases h;by_cases cX:i=j
    ·subst cX;rw[List.getElem?_set]at ho;simp at ho
    ·rw[List.getElem?_set_ne (Ne.symm cX)]at ho;exact ho
   ·cases h;exact ho
  ·cases h
 ·have h':bd (bA Φ e ρ) (λd=>ok (keep e d ρ))=ok r:=by
   cases e<;>first|exact h|exact absurd ⟨_,rfl⟩ hv
  obtain⟨d,_,er⟩:=aE h';cases er;unfold keep at ho;split at ho
  ·obtain⟨d',h1,h2⟩:=vh _ _ _ _ ho;split at h2
   ·cases d'<;>simp[aW]at h2;rename_i f ds';cases f<;>simp[a_]at h2
   ·rw[h2];exact h1
  ·exact ho
theorem Fs(L:oj X S k Φ){i:Nat}{e:CE}{x:Str}{v:Expr}{p p1 p2:Pos}(hn:m9 S i (.Name x p)=true)(hx:mW x=true)(he:cf S e v=true)(Jj:(p1.endLine==p2.line)=true):PS X (.Expr (.Call (.Attribute (.Name x p) ("append" : Str) p1) [v] [] p2) pos) (nv X F Φ (.app i e)):=by
 obtain⟨_,_,z,hN,hl,pe⟩:=Sa L hn (λy q e=>by cases e;exact hx);cases z;refine PS.imp (oN (KQ PySem.F.plainAttrs_list PySem.F.slot_list_append PySem.F.type_list_append wC pe (di (sQ (F:=F) L.toLk e v he) fO (bU he _ _)) (hfew:=by rw[bU he];rfl) (hline:=Jj) (hs:=bU he _ _))) λD σ H hq=>?_;obtain⟨R,τ,ρ,r,Si,ev,hq⟩:=hq;obtain⟨r1,xN,ev⟩:=aE ev;split at ev
 ·rename_i ds ho;split at ev
  ·rename_i hc;cases ev;have ho:=B1 ho;obtain⟨a,xs,hv,ha,W0,W4,_⟩:=Si.own (CU xN ho);refine⟨.ref a,hv,.inl ⟨rfl,_,cI.of ha⟩,R,τ,ρ,r1,Si,xN,λw H1 R1 τ1 es hR pU rk=>?_⟩;obtain⟨a1,T_,NJ,QH,Vb,LI,Kr⟩:=pU.own ho;rw[hv]at NJ;cases NJ;have hz:sizeLine=16777216:=Yh;have m3:eO=1000000:=rfl;refine⟨a,T_,w,rfl,rfl,QH,by left,?_⟩;obtain⟨τ2,AB⟩:=pU.put (m:=ds.length) (g:=λys=>ys++[w]) ho hv QH LI Kr rk λrs r=>aA.D0 rs (by simpa using r);exact hq σ _ R1 τ2 AB (oZ (n:=.l _) pU es hR QH LI)
  ·cases ev
 ·cases ev
end
section
variable {X:Cx}{S:Sx}{k:Nat}{F:af}{Φ:ba}
theorem FY(x:Str)(p:Pos):(Expr.Name x p).pos=p:=rfl
theorem sP{x y:Str}{px py pt IP:Pos}{kt:Nat}{a b:Expr}(hk:env.scope.kind=.function)(hx:env.scope.names.lookup x=some .local)(hy:env.scope.names.lookup y=some .local)(SJ:x≠y)(hl:px.line=py.line)
  (h1:[a,b].all (foldedForSure 8)=false) (h2:[a,b].all (constantsAlone 8)=false) (h3:([a,b].any λe=>match e with|.Starred ..=>true|_=>false)=false) :
  swappedStores [.Tuple [.Name x px,.Name y py] kt pt] (.Tuple [a,b] k2 IP) env=pure (some [x,y]):=by
 have hb:env.blockKind=.function:=by unfold Env.blockKind;rw[hk];rfl
 have kx:env.kindOf x=some .local:=hx;have ky:env.kindOf y=some .local:=hy;have e1:([x,y].eraseDups.length != [x,y].length)=false:=by
  have:¬ (y==x)=true:=by simp;exact λz=>SJ z.symm
  have h':(y==x)=false:=by simpa using this
  simp[List.eraseDups_cons,List.filter,h',SJ]
 unfold swappedStores;simp only[hb,h3,List.filterMap_cons,List.filterMap_nil,kx,ky,hl,FY,List.head?_cons,Option.map_some,Option.getD_some,h1,h2];simp only[beq_self_eq_true,Bool.and_self,if_true];rw[if_neg (by simp)];refine(Y5 ?_).trans ?_
 ·intro z;exact Xi (h3.symm.trans z)
 rw[if_neg (by
  rw[e1];simp),if_neg Bool.false_ne_true,if_neg Bool.false_ne_true]
theorem lJ{R:Addr->Prop}{H:Hp}{kp:bg}{v:V}{d:DI.D}(h:Rep (aR X.K H) (nd X.K R A τ H) kp v d)(hf:aY anyF d=false):gq X R' τ' H v d :=
 ⟨λ_=>none,λ_ _ h=>by simp at h,Rep.without (P:=anyF) (λ_ _ h=>h) (λk k' p xs f hf h=>by cases hf) h hf _⟩
theorem Fp(L:oj X S k Φ){i j:Nat}{a b:CE}{v:Expr}(he:cf S (.tup [a,b]) v=true)(hp:As S i j tg v=true):PS X (.Assign [tg] v pos) (nv X F Φ (.par i j a b)):=by
 obtain⟨ts,NJ,q1⟩:=bu hp;obtain⟨kt,pt,rfl⟩:=iZ NJ;obtain⟨⟨t1,t2⟩,hv2,q2⟩:=bu q1;obtain rfl:ts=[t1,t2]:=gx hv2;obtain⟨⟨x,px⟩,hv3,q3⟩:=bu q2;obtain rfl:t1=_:=ui hv3;obtain⟨⟨y,py⟩,hv4,q4⟩:=bu q3;obtain rfl:t2=_:=ui hv4;obtain⟨vs,Vc,q5⟩:=bu q4;obtain⟨k2,IP,rfl⟩:=iZ Vc;obtain⟨⟨ea,eb⟩,hv6,q6⟩:=bu q5;obtain rfl:vs=[ea,eb]:=gx hv6
 ·obtain⟨q7,Mm⟩:=aJ q6;obtain⟨q8,h9⟩:=aJ q7;obtain⟨q9,h8⟩:=aJ q8;obtain⟨O0,h7⟩:=aJ q9;obtain⟨UW,h6⟩:=aJ O0;obtain⟨UU,h5⟩:=aJ UW;obtain⟨UT,h4⟩:=aJ UU;obtain⟨US,h3⟩:=aJ UT;obtain⟨h1,h2⟩:=aJ US;replace h1:S.N[i]?=some x:=Xh h1;replace h2:S.N[j]?=some y:=Xh h2;replace h3:=Xh h3;replace h4:=Xh h4;replace h5:=Xh h5;replace h6:=Xh h6;replace h7:=Xh h7;replace h8:=j5 h8;replace h9:=j5 h9;replace Mm:=Xh Mm;replace he:=aJ he;have pa:=uv (F:=F) L.toLk [a,b] [ea,eb] he.1;refine PS.imp (FU L.calm L.nd (by rw[L.N];exact h1) (by rw[L.N];exact h2) h3 (by rw[L.sc];exact h4) (by rw[L.sc];exact h5) pa (sP (by rw[L.sc];exact L.fk) (by rw[L.sc];exact h4) (by rw[L.sc];exact h5) h6 h7 h8 h9 Mm)) λD σ H hq=>?_;obtain⟨R,τ,ρ,r,Si,ev,hq⟩:=hq;obtain⟨d1,Wf,ev⟩:=aE ev;obtain⟨d2,We,ev⟩:=aE ev;simp only[Ei]at ev;obtain⟨⟨f1,f2,l1,l2⟩,rfl⟩:=ev;refine⟨R,τ,ρ,[d1,d2],Si,by show bd (bA Φ a ρ) _=_;rw[Wf];show bd (bd (bA Φ b ρ) _) _=_;rw[We];rfl,λvs H1 e1 rv=>?_⟩;obtain⟨τt,fr,rs⟩:=rv;obtain⟨v1,v2,rfl,r1,r2⟩:=rs.two
  ·obtain⟨τ1,S1⟩:=(Si.go e1).set (i:=i) (lJ r1 f1) l1;obtain⟨τ2,S2⟩:=S1.set (i:=j) (lJ r2 f2) (by simpa using l2);exact⟨v1,v2,rfl,hq _ H1 R τ2 S2 (Kp.of e1 λ_ h=>h)⟩
mutual
theorem Ft(L:oj X S k Φ):∀(c:CS) (st:Stmt),MH S c st=true->PS X st (nv X F Φ c)
 |.asg t e,st,h=>by
  obtain⟨⟨IL,v⟩,v1,q1⟩:=bu h;obtain⟨pos,rfl⟩:=ou v1;obtain⟨tg,v2,q2⟩:=bu q1;obtain rfl:IL=[tg]:=cx v2;obtain⟨q3,h4⟩:=aJ q2;obtain⟨q4,h3⟩:=aJ q3;obtain⟨h1,h2⟩:=aJ q4;have h1:cf S e v=true:=h1;replace h3:(isTup v&&isTup tg)=false:=j5 h3;cases hc:iG v with
  |false=>exact yg L h1 h2 h3 (rO h1 hc _ _ _)
  |true =>
   have h4:(!iG v||isNm tg)=true:=h4;rw[hc]at h4;obtain⟨x,p,rfl⟩:=uZ h4;obtain⟨ic,gens,sc,JK,rfl⟩:=wL hc;cases e<;>try (exact(Xi h1).elim)
   cases t with
   |tp is=>exact(Xi h2).elim
   |nm i =>
    cases hb:OH S (.Name x p) (.ListComp ic gens sc JK)with
    |true=>exact Bt L h1 h2 (by rw[DY L,hb])
    |false=>exact yg L h1 h2 h3 (by
      show swapsWith (.ListComp ic gens sc JK) (some (.Name x p)) pos.line X.env=_;rw[DY L,hb])
 |.par i j a b,st,h=>by
  obtain⟨⟨IL,v⟩,v1,q1⟩:=bu h;obtain⟨pos,rfl⟩:=ou v1;obtain⟨tg,v2,q2⟩:=bu q1;obtain rfl:IL=[tg]:=cx v2;exact Fp L (aJ q2).1 (aJ q2).2
 |.ret e,st,h=>by
  obtain⟨z,v1,q1⟩:=bu h;obtain⟨pos,rfl⟩:=Bc v1;obtain⟨v,v2,q2⟩:=bu q1;obtain rfl:z=some v:=v2;exact Fj L q2
 |.rs c,st,h=>λ_ _ _ _ _ _ bH=>by obtain⟨R,τ,ρ,r,Si,ev,hq⟩:=bH;cases ev
 |.ex e,st,h=>by
  obtain⟨v,v1,q1⟩:=bu h;obtain⟨pos,rfl⟩:=sF v1;exact Kh L (aJ q1).1 (j5 (aJ q1).2)
 |.mut p i es,st,h=>by
  obtain⟨⟨o,args⟩,ha,q1⟩:=bu h;obtain⟨q2,h3⟩:=aJ q1;obtain⟨h1,h2⟩:=aJ q2;obtain⟨x,pp,rfl,hN,hl,pe⟩:=Sa L h1 (λy q e=>by cases e;exact h2);exact L.pm.m X _ _ k L.toLk.pX L.nd L.CP p st x pp args ha i hN hl pe F es (lE L.toLk es args h3)
 |.app i e,st,h=>by
  obtain⟨c,v1,q1⟩:=bu h;obtain⟨pos,rfl⟩:=sF v1;obtain⟨⟨fn,as,ks,p2⟩,v2,q2⟩:=bu q1;obtain rfl:c=_:=nj v2;obtain⟨q3,q4⟩:=aJ q2;obtain rfl:ks=[]:=je q3;obtain⟨⟨o,a,p1⟩,v3,q5⟩:=bu q4;obtain rfl:fn=_:=p_ v3;obtain⟨q6,q7⟩:=aJ q5;obtain⟨v,v4,h4⟩:=bu q7;obtain rfl:as=[v]:=cx v4;obtain⟨q8,h5⟩:=aJ q6;obtain⟨q9,h2⟩:=aJ q8;obtain⟨O0,h1⟩:=aJ q9;obtain rfl:a=_:=Xh O0;obtain⟨x,p,rfl⟩:∃x p,o=.Name x p:=Ds h1;exact Fs L h1 h2 h4 h5
 |.ifs c a b,st,h=>by
  obtain⟨⟨t,x,y⟩,v1,q1⟩:=bu h;obtain⟨pos,rfl⟩:=Bg v1;obtain⟨q2,h3⟩:=aJ q1;obtain⟨h1,h2⟩:=aJ q2;exact Kg L h1 (g9 L a _ h2) (g9 L b _ h3)
 |.EX c b,st,h=>by
  obtain⟨⟨t,x,y⟩,v1,q1⟩:=bu h;obtain⟨pos,rfl⟩:=Bb v1;obtain⟨q2,h3⟩:=aJ q1;obtain⟨h1,h2⟩:=aJ q2;obtain rfl:y=[]:=je h1;exact yf L h2 (g9 L b _ h3)
 |.fr t it b,st,h=>by
  obtain⟨⟨tg,iter,x,y⟩,v1,q1⟩:=bu h;obtain⟨pos,rfl⟩:=Bh v1;obtain⟨q2,h5⟩:=aJ q1;obtain⟨q3,h4⟩:=aJ q2;obtain⟨q4,h3⟩:=aJ q3;obtain⟨h1,h2⟩:=aJ q4;obtain rfl:y=[]:=je h1;exact Fq L h2 h3 h4 (g9 L b _ h5)
theorem g9(L:oj X S k Φ):∀(cs:aj) (Kf:bj),jm S cs Kf=true->lh X Kf (mN X F Φ cs)
 |[],[],_=>lh.imp BP λD σ H bH=>by obtain⟨R,τ,ρ,r,Si,ev,hq⟩:=bH;cases ev;exact hq σ H R τ Si (Kp.refl R H)
 |[],_::_,h=>by exact(Xi h).elim
 |_::_,[],h=>by exact(Xi h).elim
 |c::cs,st::Kf,h=>by
  replace h:=aJ h;have h1:PS X st (nv X F Φ c):=Ft L c st h.1;have h2:lh X Kf (mN X F Φ cs):=g9 L cs Kf h.2;refine lh.imp (yJ h1 h2) λD σ H hq=>?_;obtain⟨R,τ,ρ,r,Si,ev,hq⟩:=hq;obtain⟨⟨fo,ρ1⟩,e1,ev⟩:=aE ev;refine⟨R,τ,ρ,(fo,ρ1),Si,e1,?_⟩;cases fo with
  |nx=>exact λσ' H' R' τ' fJ kp=>⟨R',τ',ρ1,r,fJ,ev,hq.from kp⟩
  |bk=>cases ev;exact hq
  |ct=>cases ev;exact hq
  |rt d=>cases ev;exact hq
end
end
variable {mg:Str->Option Value}{ps:ao}{qual:Str}
theorem rB{x:Str}{f:Addr}{fd:FuncData}{k:Nat}{N bl:ao}{cs:List (Str×GK)}{px:Px}{CP:Nat->Option Str}{m:aG}{body:aj}
  (Fu:DG K x qual st f fd) (Sc:hW N ps (bz st)) (Hf:jm ⟨bz st,N,CP,bl,cs,px⟩ body (cU st)=true) (G5:uf px Φ) (Qc:IH px Φ)
  (CG:∀y∈bl,mg y=none) (sv:∀y i,(y,i)∈cs->∃u,mg y=some u/\AX K i u)
  (tL:∀g y,CP g=some y->∃(f:Addr) (fd:FuncData) (ps:ao),ie P w K mg base xP k f fd ps (Bu K ps.length (Φ g))/\mg y=some (.ref f)/\PySem.W.keepIn K (.ref f)=true/\Binds K fd ps []/\∀ds r,Φ g ds=ok r->ds.length=ps.length)
  (hm:∀ds r,m ds=ok r->ds.length=ps.length/\oJ Φ N.length body ds=ok r):ie P w K mg base xP (k+1) f fd ps (Bu K ps.length m):=by
 refine Fu.ok (N:=N) Sc (λvs H Q E ⟨_,_,_,h,_⟩=>h) λiu A outer s H vs Q E hr AM=>?_;obtain⟨F,ds,r,hl,rs,er,hq⟩:=AM;obtain⟨W9,tH⟩:=hm ds r er
 let X:=(tY xP P w K mg base N qual (bz st) f iu A outer s H E).K5
 have L:oj X ⟨bz st,N,CP,bl,cs,px⟩ k Φ:=⟨⟨rfl,rfl,Sc.nd,rfl,hr,CG,λg y h=>⟨tL g y h⟩,sv,G5⟩,λ_=>rfl,PassesOwn.never,Sc.kind,Qc⟩
 refine⟨mN X F Φ body,g9 L body _ Hf,?_⟩;unfold oJ at tH;obtain⟨⟨fo,ρ'⟩,eb,tH⟩:=aE tH;have hpl:ps.length<=N.length:=by have:=X0 List.length Sc.pre;rw[List.length_take]at this;left
 have Jd:vs.length=ds.length:=rs.length;refine⟨λp=>F p/\H p≠none,λ_=>none,_,(fo,ρ'),⟨?_,λi d hi=>?_,λ_ _=>rfl,λp h=>h.2,λp h=>.inl h.1,λ_ _ h=>by simp at h,λ_ _ h=>by simp at h,aF.refl H⟩,eb,?_⟩
 ·unfold L2.start;simp[Jd]
 ·have SW:i<ds.length:=by
   by_cases dj:i<ds.length
   ·exact dj
   ·rw[List.getElem?_append_right (by simpa using dj)]at hi;rw[List.getElem?_replicate]at hi;split at hi<;>simp at hi
  rw[List.getElem?_append_left (by simpa using SW),List.getElem?_map]at hi;have hd:ds[i]?=some d:=by
   cases q:ds[i]? with
   |none=>rw[q]at hi;cases hi
   |some z=>rw[q]at hi;simp at hi;rw[hi]
  obtain⟨v,hv,rv⟩:=rs.get hd;refine⟨v,?_,rv.imp (q:=[0+i]) (q':=[i]) (λ_ _ h=>h) λc p xs f h=>?_⟩
  ·unfold L2.start;rw[List.getElem?_append_left (by rw[List.length_map,Jd];exact SW),List.getElem?_map,hv];rfl
  ·cases f with
   |ow=>exact nomatch h.2
   |fz=>exact⟨h.1,h.2,h.1.ne⟩
   |al=>exact h.2.elim
   |sc=>exact h
 ·cases fo with
  |nx =>
   cases tH;exact λσ' H' R' τ' fJ kp=>hq .bN H' fJ.same ⟨λ_=>none,λ_ _ h=>by simp at h,.bN⟩
  |bk=>simp at tH
  |ct=>simp at tH
  |rt d =>
   cases tH;exact λv H' es rr=>hq v H' es rr
structure Ent(P:az)(w:World)(K:ai)(mg:aU)(base:Heap)(k:Nat)(y:Str)(m:aG):Prop where
 ex:∃(f:Addr) (fd:FuncData) (ps:ao),ie P w K mg base xP k f fd ps (Bu K ps.length m)/\mg y=some (.ref f)/\PySem.W.keepIn K (.ref f)=true/\Binds K fd ps []/\∀ds r,m ds=ok r->ds.length=ps.length
theorem Ent.up{k k':Nat}{y:Str}{m:aG}(h:Ent P w K mg base k y m)(hk:k<=k'):Ent P w K mg base k' y m:=by
 obtain⟨f,fd,ps,h1,h2⟩:=h.ex;exact⟨f,fd,ps,h1.mono hk,h2⟩
theorem ent{x:Str}{f:Addr}{fd:FuncData}{k:Nat}{N bl:ao}{cs:List (Str×GK)}{px:Px}{CP:Nat->Option Str}{m:aG}{body:aj}
  (Fu:DG K x qual st f fd) (hmg:mg x=some (.ref f)) (hb:Binds K fd ps []) (Sc:hW N ps (bz st)) (Hf:jm ⟨bz st,N,CP,bl,cs,px⟩ body (cU st)=true) (G5:uf px Φ) (Qc:IH px Φ) (CG:∀y∈bl,mg y=none) (sv:∀y i,(y,i)∈cs->∃u,mg y=some u/\AX K i u)
  (tL:∀g y,CP g=some y->Ent P w K mg base k y (Φ g)) (hm:∀ds r,m ds=ok r->ds.length=ps.length/\oJ Φ N.length body ds=ok r):Ent P w K mg base (k+1) x m :=
 ⟨f,fd,ps,rB Fu Sc Hf G5 Qc CG sv (λg y h=>(tL g y h).ex) hm,hmg,Fu.kp,hb,λds r h=>(hm ds r h).1⟩
noncomputable def cY{α:Type}(P:α->Prop):List α->Prop
 |[]=>True
 |a::l=>P a/\cY P l
theorem cY.mem{α:Type}{P:α->Prop}:∀{l:List α},cY P l->∀a∈l,P a
 |[],_,_,h=>by cases h
 |_::_,h,_,hm=>(List.mem_cons.mp hm).elim (λe=>e▸h.1) (cY.mem h.2 _)
theorem cY.tab{β:Type}{P:Nat->β->Prop}:∀{l:List (Nat×β)},cY (λp=>P p.1 p.2) l->∀g y,l.lookup g=some y->P g y
 |[],_,_,_,h=>by cases h
 | (k,b)::l,h,g,y,e=>by
  rw[List.lookup_cons]at e;cases hg:g==k with
  |true=>rw[hg]at e;cases e;rw[eq_of_beq hg];exact h.1
  |false=>rw[hg]at e;exact cY.tab h.2 g y e
theorem cY.two{β γ:Type}{P:β->γ->Prop}{l:List (β×γ)}(h:cY (λp=>P p.1 p.2) l)(y:β)(i:γ)(hm:(y,i)∈l):P y i:=cY.mem h _ hm
theorem Lq{α:Type}{l:List α}(h:l.length=1):∃a,l=[a]:=List.length_eq_one_iff.mp h
theorem Lp{α:Type}{l:List α}(h:l.length=2):∃a b,l=[a,b]:=by
 cases l with
 |nil=>cases h
 |cons a l=>obtain⟨b,rfl⟩:=Lq (Nat.succ.inj h);exact⟨a,b,rfl⟩
theorem Lo{α:Type}{l:List α}(h:l.length=3):∃a b c,l=[a,b,c]:=by
 cases l with
 |nil=>cases h
 |cons a l=>obtain⟨b,c,rfl⟩:=Lp (Nat.succ.inj h);exact⟨a,b,c,rfl⟩
noncomputable def lY:aa->Option (ab)
 |[]=>some []
 |.int i::ds=>(lY ds).map (i :: ·)
 |_::_=>none
theorem lX:∀ns:ab,lY (ns.map D.int)=some ns
 |[]=>rfl
 |n::ns=>by simp[lY,lX ns]
theorem qK:∀{ds:aa} {ns:ab},lY ds=some ns->ds=ns.map D.int
 |[],ns,h=>by simp[lY]at h;subst h;rfl
 |d::ds,ns,h=>by
  cases d<;>simp[lY]at h;obtain⟨ms,h1,rfl⟩:=h;rw[qK h1];rfl
def oW:aG
 |[.lst .sc ds]=>match lY ds with
  |some ns=>if ns.length<=63 then ok (.bl true)else none
  |none=>none
 |_=>none
theorem Cj(h:ns.length<=63):oW [.lst .sc (ns.map D.int)]=ok (.bl true):=by
 simp[oW,lX,h]
theorem zm{n:Nat}{b:aj}(h:∀ns:ab,ns.length<=63->oJ Φ n b [.lst .sc (ns.map D.int)]=ok (.bl true)):∀ds r,oW ds=ok r->ds.length=1/\oJ Φ n b ds=ok r:=by
 intro ds r e
 match ds,e with
 |[.lst .sc ds],e =>
  simp only[oW]at e;split at e
  ·rename_i ns xI;split at e
   ·rename_i hl;cases e;obtain rfl:=qK xI;exact⟨rfl,h ns hl⟩
   ·cases e
  ·cases e
theorem GF(K:ai)(H:Hp)(a:Addr)(ns:ab)(m:aG)(hm:m [.lst .sc (ns.map D.int)]=ok (.bl true))(hO:DF H)(hS:cI K H a (ns.map V.int)):Bu K 1 m [.ref a] H (λv _=>v=.bl true) λ_ _ _=>False:=by
 refine⟨λ_=>True,_,.bl true,rfl,.cons (.lst ?_ (aA.ints ns)) .nil,hm,λv H' _ bH=>by obtain⟨τt,_,rp⟩:=bH;cases rp;rfl⟩;rcases hS with (h|h)|h
 ·rcases hO a with z|⟨o,xs,z⟩
  ·rw[h]at z;cases z
  ·rw[h]at z;cases z
 ·exact .inl h
 ·exact .inr h
section
variable {X:Cx}{pins:ah}{σ:St}{H:Hp}{s:Shared}{h':Heap}
theorem um(I:Inv X pins σ H s)(hf:∀b∈ch,mG X pins H b)(k:∀b u,b∉ch->s.heap.get? b=some u->h'.get? b=some u):Inv X pins σ H { s with heap:=h',toks:=t' }:=by
 have Ec:∀b u,H b=some u->b∉ch:=λb u e z=>by rw[(hf b z).1]at e;cases e
 refine I.step (g':=s.gens) (d':=s.drawn) (ch:=ch) (λb hb=>⟨(hf b hb).2.2.2.1,(hf b hb).2.1,(hf b hb).2.2.2.2.1,(hf b hb).2.2.2.2.2⟩) (λb o _ _ hc e _=>k b o hc e) (λb o _ _ hc e _=>⟨o.slots,k b o hc e⟩) (λ_ _ _ _ n=>n)
  (λb o hc e=>⟨o,k b o hc e⟩) (λ_ _ e=>e) (λ_ _ _ e=>e) (λb ps e=>⟨#[],by rw[e];simp⟩) (λm hm=>?_) (λb u e=>?_) I.bare
 ·obtain⟨o,es,ep,ho,r⟩:=hm;exact⟨o,es,ep,k _ o (λz=>(hf _ z).2.1 rfl) ho,r⟩
 ·refine(I.cq b u e).i5 (λc v hc q=>k c v ?_ q) (λ_ q=>q) λ_ _ q=>q;rcases hc with z|z
  ·rw[z];exact Ec b u e
  ·exact Ec c _ z
theorem ox{T:Addr}{o:HO}(I:Inv X pins σ H s)(hf:∀b∈ch,mG X pins H b)(k:∀b u,b∉ch->s.heap.get? b=some u->h'.get? b=some u)(hT:s.heap.objs.size<=T)(new:b8 X.prog X.w (upd H T o) h' T o):
  Inv X pins σ (upd H T o) { s with heap:=h',toks:=t' }:=by
 have Ec:∀b u,H b=some u->b∉ch:=λb u e z=>by rw[(hf b z).1]at e;cases e
 have hn:H T=none:=I.cq.fresh hT;have ne:∀b (u:Obj),s.heap.get? b=some u->b≠T:=λb u e z=>absurd (Xk e) (by rw[z];exact Nat.not_lt.mpr hT);have up:∀b u,H b=some u->upd H T o b=some u:=λb u e=>by rw[aQ (bR e hn)];exact e
 refine I.step (g':=s.gens) (d':=s.drawn) (ch:=ch) (λb hb=>⟨(hf b hb).2.2.2.1,(hf b hb).2.1,(hf b hb).2.2.2.2.1,(hf b hb).2.2.2.2.2⟩) (λb o _ _ hc e _=>k b o hc e) (λb o _ _ hc e _=>⟨o.slots,k b o hc e⟩) (λb u _ e n=>by rw[aQ (ne b u e)];exact n)
  (λb o hc e=>⟨o,k b o hc e⟩) (λ_ _ e=>up _ _ e) (λ_ _ _ e=>up _ _ e) (λb ps e=>⟨#[],by rw[up _ _ e];simp⟩) (λm hm=>?_) (va (λb u e=>?_) hn new) I.bare
 ·obtain⟨o,es,ep,ho,r⟩:=hm;exact⟨o,es,ep,k _ o (λz=>(hf _ z).2.1 rfl) ho,r⟩
 ·refine(I.cq b u e).i5 (λc v hc q=>k c v ?_ q) (λ_ q=>q) λ_ _ q=>q;rcases hc with z|z
  ·rw[z];exact Ec b u e
  ·exact Ec c _ z
end
def RL(K:ai)(a b:Addr):It :=
  ⟨λi H=>∃xs ys x y,cI K H a xs/\cI K H b ys/\xs[i]?=some x/\ys[i]?=some y,
   λi H v H'=>∃T x y,(∀xs,cI K H a xs->xs[i]?=some x)/\(∀ys,cI K H b ys->ys[i]?=some y)/\H T=none/\v=.ref T/\H'=upd H T (.tup [x,y]),
   λi H=>∃xs ys,cI K H a xs/\cI K H b ys/\(xs.length<=i\/ys.length<=i)⟩
theorem kE{H:Hp}{h:Heap}{T:Addr}{x y:V}{u v:Value}(rx:RelV x u)(ry:RelV y v)(e:h.get? T=some { cls:=.type "tuple",data:=.seq #[u,v] }):b8 P w H h T (.tup [x,y]) :=
 ⟨by rw[sizeLine_eq];simp,[u,v],.cons rx (.cons ry .nil),⟨_,e,rfl,_,rfl⟩⟩
theorem cB{h:Heap}{a b:Addr}{o u:Obj}(ha:h.get? a=some o)(hb:h.get? b=some u)(hc:o.cls≠u.cls):a≠b:=λz=>by
 subst z;rw[ha]at hb;cases hb;exact hc rfl
theorem x9{tp:Pos}{a b z TI TO:Addr}(VO:TI≠TO)(Jp:i1≠i2):
  Turn P w K (.Tuple elts n1 tp) (RL K a b) [z,TI,TO,i1,i2] z (λi h=>IsZip h z TI TO .none/\IsPair h TI (.ref i1) (.ref i2)/\(∃x y,IsPair h TO x y)/\h.IsListIter i1 a i/\h.IsListIter i2 b i):=by
 have apart:∀{h:Heap} {x y:Value} {xs ys:aN} {i:Nat},IsZip h z TI TO .none->IsPair h TI (.ref i1) (.ref i2)->IsPair h TO x y->h.IsListIter i1 a i->h.IsListIter i2 b i->h.IsList a xs->h.IsList b ys->ZipApart z TI TO i1 i2 a b:=by
  intro h x y xs ys i hz hI hO l1 l2 ha hb;obtain⟨o1,e1,c1,_⟩:=l1;obtain⟨o2,e2,c2,_⟩:=l2;obtain⟨oa,ea,ca,_⟩:=ha;obtain⟨ob,eb,cb,_⟩:=hb;exact⟨cB hI hz (by simp),cB hO hz (by simp),cB e1 hz (by rw[c1];simp),cB e2 hz (by rw[c2];simp),VO,cB hI e1 (by rw[c1];simp),cB hI e2 (by rw[c2];simp),cB hO e1 (by rw[c1];simp),cB hO e2 (by rw[c2];simp),Jp,
   cB ea hz (by rw[ca];simp),cB ea hO (by rw[ca];simp),cB ea e1 (by rw[ca,c1];simp),cB ea e2 (by rw[ca,c2];simp),cB eb hz (by rw[cb];simp),cB eb hO (by rw[cb];simp),cB eb e1 (by rw[cb,c1];simp),cB eb e2 (by rw[cb,c2];simp)⟩
 refine⟨by simp,λi h st c hc=>?_,λi h h' st k=>?_,?_,?_,λA i s Q E st hQ=>wpAny_pyIter_zip st.1 hQ⟩
 ·obtain⟨hz,hI,⟨x,y,hO⟩,⟨o1,e1,_,d1⟩,⟨o2,e2,_,d2⟩⟩:=st;simp only[List.mem_cons,List.not_mem_nil,or_false]at hc;rcases hc with rfl|rfl|rfl|rfl|rfl
  ·exact⟨_,hz,λv q=>by cases q⟩
  ·exact⟨_,hI,λv q=>by cases q⟩
  ·exact⟨_,hO,λv q=>by cases q⟩
  ·exact⟨o1,e1,λv q=>by rw[d1]at q;cases q⟩
  ·exact⟨o2,e2,λv q=>by rw[d2]at q;cases q⟩
 ·obtain⟨hz,hI,⟨x,y,hO⟩,l1,l2⟩:=st;exact⟨k z (by simp) _ hz,k TI (by simp) _ hI,⟨x,y,k TO (by simp) _ hO⟩,l1.at λo e=>k i1 (by simp) o e,l2.at λo e=>k i2 (by simp) o e⟩
 ·intro X hP hw hK hc i pins s σ H E I hf st hg;subst hP hw hK;obtain⟨xs,ys,x,y,q1,q2,ex,ey⟩:=hg;obtain⟨hz,hI,⟨x0,y0,hO⟩,l1,l2⟩:=st;obtain⟨aH,rv,p,_⟩:=I.list q1;obtain⟨its',xG,p',_⟩:=I.list q2;obtain⟨u,hu,ru⟩:=rv.get ex;obtain⟨u',P4,UL⟩:=xG.get ey;have D:=apart hz hI hO l1 l2 p.isList p'.isList;refine wpAny_pyNext_zip_item D hz hI hO l1 l2 p.isList p'.isList (x:=u) (y:=u') (by simpa using hu) (by simpa using P4) λh1 z1 o1 a1 b1 t1 Kd k1=>⟨_,rfl,?_⟩
  refine wpAny_letOwnedTupleGo_zip z1 λh2 z2 wm=>?_;have T9:s.heap.objs.size≠z:=Xx (Xk hz);have kk:∀c o,c∉[z,TI,TO,i1,i2]->s.heap.get? c=some o->h2.get? c=some o:=λc o hc e=>by
   simp only[List.mem_cons,List.not_mem_nil,or_false,not_or]at hc;exact wm.extBut c o hc.1 (k1 c o hc.1 hc.2.2.1 hc.2.2.2.1 hc.2.2.2.2 e)
  have hT:h2.get? s.heap.objs.size=some { cls:=.type "tuple",data:=.seq #[u,u'] }:=wm.extBut _ _ T9 t1;have hn:H s.heap.objs.size=none:=I.cq.fresh (Xp _);refine⟨.ref s.heap.objs.size,upd H s.heap.objs.size (.tup [x,y]),ox (s:=s) (h':=h2) (t':=s.toks) I hf kk (Xp _) (kE ru UL hT),rfl,⟨_,x,y,λzs hz=>by rw[I.gI hz q1];exact ex,λzs hz=>by rw[I.gI hz q2];exact ey,hn,rfl,rfl⟩,⟨z2,wm.extBut _ _ D.TIz (k1 _ _ D.TIz D.TITO D.TIi1 D.TIi2 hI),⟨_,_,wm.extBut _ _ D.TOz o1⟩,a1.extBut wm.extBut D.i1z,b1.extBut wm.extBut D.i2z⟩,λc hc=>?_⟩;rw[aQ]
  ·exact(hf c hc).1
  ·intro z;subst z;simp only[List.mem_cons,List.not_mem_nil,or_false]at hc;rcases hc with e|e|e|e|e
   ·exact absurd (Xk hz) (by rw[<- e];exact XA _)
   ·exact absurd (Xk hI) (by rw[<- e];exact XA _)
   ·exact absurd (Xk hO) (by rw[<- e];exact XA _)
   ·obtain⟨_,w,_⟩:=l1;exact absurd (Xk w) (by rw[<- e];exact XA _)
   ·obtain⟨_,w,_⟩:=l2;exact absurd (Xk w) (by rw[<- e];exact XA _)
 ·intro X hP hw hK hc i pins s σ H E I hf st hg;subst hP hw hK;obtain⟨xs,ys,q1,q2,hl⟩:=hg;obtain⟨hz,hI,⟨x0,y0,hO⟩,l1,l2⟩:=st;obtain⟨aH,rv,p,_⟩:=I.list q1;obtain⟨its',xG,p',_⟩:=I.list q2;have e1:=rv.length;have e2:=xG.length;refine wpAny_pyNext_zip_end (I.ok.hd hc) (apart hz hI hO l1 l2 p.isList p'.isList) hz hI hO l1 l2 p.isList p'.isList (by simp;left) λh1 k1=>⟨rfl,um (t':=s.toks) I hf λc o hc e=>?_⟩
  simp only[List.mem_cons,List.not_mem_nil,or_false,not_or]at hc;exact k1 c o hc.1 hc.2.2.1 hc.2.2.2.1 hc.2.2.2.2 e
variable {ta:TA}
theorem FZ{tp p:Pos}(hg:Gl X "zip")(hm:X.mg "zip" = none)(ha:PA X [e1,e2] ta)(hs:∀es,starEach (e1::es) X.env=(false,eval e1 X.env)::starEach es X.env)(wR:∀es,starEach (e2::es) X.env=(false,eval e2 X.env)::starEach es X.env):
  PI X (.Tuple elts n1 tp) (.Call (.Name "zip" p) [e1,e2] [] pos) (λσ H R=>ta σ H λvs H1=>∃a b,vs=[.ref a,.ref b]/\(∃xs,cI X.K H1 a xs)/\(∃ys,cI X.K H1 b ys)/\R (RL X.K a b) H1):=by
 intro pins s σ H R I h;refine Call_ (eJ I hg hm boot_zip (XC (cJ (ha pos pins s σ H _ I h) λus s1 bH=>?_) (hs _) (by rw[wR];rfl)));obtain⟨vs,H1,I1,r1,q1⟩:=bH;obtain⟨a,b,e,⟨xs,q1⟩,⟨ys,q2⟩,q⟩:=q1;subst e;obtain⟨u,v,rfl,ru,rv⟩:=vals2 r1;cases ru;cases rv;obtain⟨aH,_,p1,_⟩:=I1.list q1;obtain⟨its',_,p2,_⟩:=I1.list q2;refine call_zip_2 p1.isList p2.isList λh' z t o l1 l2 sz k=>wpAny_pyIter_zip z ?_;refine⟨s1.heap.objs.size+4,[s1.heap.objs.size+4,s1.heap.objs.size+2,s1.heap.objs.size+3,s1.heap.objs.size,s1.heap.objs.size+1],_,_,H1,rfl,I1.kept (t':=s1.toks) k,x9 (Xt (Yi _)) (Xt (Yi _)),⟨z,t,⟨_,_,o⟩,l1,l2⟩,λb hb=>?_,q⟩;have m4:s1.heap.objs.size<=b:=by
  simp only[List.mem_cons,List.not_mem_nil,or_false]at hb;rcases hb with rfl|rfl|rfl|rfl|rfl<;>first|exact Zq .. |exact Xp _
 exact I1.xg m4 (I1.cq.fresh m4)
def gR(sc:Scope)(bl:ao)(e:Expr):Option (aw):=match dU e with
 |some z=>match two z.2 with
  |some _=>if z.1=("zip" : Str)/\gM sc z.1=true/\z.1∈bl then some z.2 else none
  |none=>none
 |none=>none
theorem n5{sc:Scope}{bl:ao}{e:Expr}(h:gR sc bl e=some args):∃p pos a b,e=.Call (.Name ("zip" : Str) p) [a,b] [] pos/\args=[a,b]/\gM sc ("zip" : Str)=true/\("zip" : Str)∈bl:=by
 unfold gR at h;cases hv:dU e with
 |none=>rw[hv]at h;exact nk h
 |some z =>
  obtain⟨x,as⟩:=z;rw[hv]at h;obtain⟨p,pos,rfl⟩:=cP hv;have h:(match two as with|some _=>if x=("zip" : Str)/\gM sc x=true/\x∈bl then some as else none|none=>none)=some args:=h;cases hw:two as with
  |none=>rw[hw]at h;exact nk h
  |some w =>
   obtain⟨a,b⟩:=w;rw[hw]at h;have h:(if x=("zip" : Str)/\gM sc x=true/\x∈bl then some as else none)=some args:=h;obtain rfl:=gx hw;by_cases hc:x=("zip" : Str)/\gM sc x=true/\x∈bl
   ·rw[if_pos hc]at h;cases h;obtain⟨rfl,h1,h2⟩:=hc;exact⟨_,_,_,_,rfl,rfl,h1,h2⟩
   ·rw[if_neg hc]at h;cases h
theorem lL{a b:Expr}(h:lj X F Φ cs [a,b]):(∃c d,cs=[c,d]/\PE X a (tD X F Φ c)/\PE X b (tD X F Φ d))/\PA X [a,b] (pW X F Φ cs)/\(∀es,starEach (a::es) X.env=(false,eval a X.env)::starEach es X.env)/\(∀es,starEach (b::es) X.env=(false,eval b X.env)::starEach es X.env):=by
 match cs,h with
 |[c,d],h =>
  obtain⟨h1,h2,_,h3,h4,_,_⟩:=h;exact⟨⟨c,d,rfl,h1,h3⟩,PA.imp (di h1 (PA.imp (di h3 (PA.imp fO λ_ _ _ h=>gY h) (h4 _)) λ_ _ _ h=>eE h) (h2 _)) λ_ _ _ h=>eE h,h2,h4⟩
 |[],h=>exact h.elim
 |[_],h=>exact h.2.2.2.elim
 |_::_::_::_,h=>exact h.2.2.2.2.2.2.elim
theorem Rep.Oo{R:af}{H:Hp}{k:bg}{v:V}{d:D}(e:aF H H')(h:Rep (aR K H) (nd K R (λ_=>False) (λ_=>none) H) k v d):Rep (aR K H') (nd K R (λ_=>False) (λ_=>none) H') k' v d :=
 (Rep.oV h (k':=k')).imp (λ_ _ h=>aR.same e h) λ_ _ _ _ h=>nd.same e h
theorem A5{p q:Addr}{g:Fl}{a b:aa}:EJ K (RL K p q) H2 [.ref p,.ref q] [.lst f a,.lst g b] (aB a_ (List.zipWith (λx y=>.tup [x,y]) a b)):=by
 have len:(aB a_ (List.zipWith (λx y=>D.tup [x,y]) a b)).length=min a.length b.length:=by rw[aV];simp
 have two:∀{H':Hp} {R':af},aA (aR K H') (nd K R' (λ_=>False) (λ_=>none) H') [] 0 [.ref p,.ref q] (aB a_ [.lst f a,.lst g b]) ->
   ∃xs ys,cI K H' p xs/\cI K H' q ys/\aA (aR K H') (nd K R' (λ_=>False) (λ_=>none) H') [0] 0 xs (aB a_ a)/\aA (aR K H') (nd K R' (λ_=>False) (λ_=>none) H') [1] 0 ys (aB a_ b):=by
  intro H' R' h;rw[aB,aW,aB,aW,aB]at h;cases h with
  |cons h t=>cases t with
   |cons h' t=>cases h with
    |lst h r=>cases h' with
     |lst h' r'=>exact⟨_,_,h.sq,h'.sq,r,r'⟩
 refine⟨λi H' R' _ h hi=>?_,λi H' R' x kf _ h hi hy=>?_,λi H' R' _ h hi=>?_⟩
 ·obtain⟨xs,ys,h1,h2,r1,r2⟩:=two h;rw[len]at hi;have l1:=r1.length;have l2:=r2.length;rw[aV,List.length_map]at l1 l2;exact⟨xs,ys,xs[i]'(by left),ys[i]'(by left),h1,h2,Xq _,Xq _⟩
 ·obtain⟨xs,ys,h1,h2,r1,r2⟩:=two h;obtain⟨T,u,v,g1,g2,hn,rfl,rfl⟩:=hy;obtain⟨d1,e1,p1⟩:=r1.tP (g1 xs h1);obtain⟨d2,e2,p2⟩:=r2.tP (g2 ys h2);have es:aF H' (upd H' T (.tup [u,v])):=aF.upd hn;refine⟨es,.tup [d1,d2],?_,.tup (aR.of aT) (.cons (p1.Oo es) (.cons (p2.Oo es) .nil))⟩;rw[aV,List.getElem?_map]at e1 e2 ⊢;obtain⟨c1,q1,rfl⟩:=Option.map_eq_some_iff.mp e1;obtain⟨c2,q2,rfl⟩:=Option.map_eq_some_iff.mp e2;rw[List.getElem?_zipWith,q1,q2];simp[aW,aB]
 ·obtain⟨xs,ys,h1,h2,r1,r2⟩:=two h;rw[len]at hi;have l1:=r1.length;have l2:=r2.length;rw[aV,List.length_map]at l1 l2;exact⟨xs,ys,h1,h2,by left⟩
theorem ES{n:Nat}(hΦ:Φ n=A4){sc:Scope}{bl:ao}{k:Nat}(L:PX X sc bl k){e:Expr}(he:gR sc bl e=some args)(ht:ff tg=true)(hs:lj X F Φ cs args)
  {pins:ah} {s:Shared} {H:Hp} {R:af} {xs:aa} {d:D} (I:Inv X pins σ H s) (Si:SI X F R τ ρ σ H) (b6:bV Φ cs ρ=ok xs) (ed:Φ n xs=ok d) (ei:kh d=ok items) (Rr:It->Hp->Prop)
  (hR:∀J H2 vs,aF H H2->bP X.K (gP X F) R τ (cA cs) H H2 vs xs->EJ X.K J H2 vs xs items->Rr J H2) :
  wpAny (model X.prog X.w) X.A (eval e X.env) (λv s1=>wpAny (model X.prog X.w) X.A (pyIter v) (xE X pins σ tg Rr) X.xe s1) X.xe s:=by
 obtain⟨p,pos,a,b,rfl,rfl,h1,h2⟩:=n5 he;cases tg<;>try (cases ht;done)
 obtain⟨_,pa,s1,s2⟩:=lL hs;refine FZ (L.gl h1) (L.bl _ h2) pa s1 s2 pins s σ H Rr I ⟨R,τ,ρ,xs,Si,b6,λvs H1 e1 rv=>?_⟩;have OM:=rv;obtain⟨τt,fr,rs⟩:=rv;rw[hΦ]at ed;unfold A4 at ed;split at ed
 ·cases ed;cases ei;obtain⟨v,w,rfl,rx,ry⟩:=rs.two;cases rx with
  |lst hx _=>cases ry with
   |lst hy _=>exact⟨_,_,rfl,⟨_,hx.sq⟩,⟨_,hy.sq⟩,hR _ H1 _ e1 OM A5⟩
 ·cases ed
def lZ(xs:aa):O D:=match xs with
 |[]=>none
 |x::xs=>match x with
  |.int a=>match xs with
   |[]=>none
   |y::ys=>match y with
    |.int b=>match ys with
     |[]=>if eH a b then ok (.int (a*b))else none
     |_::_=>none
    |_=>none
  |_=>none
theorem qZ{x y d:D}(h:lZ [x,y]=ok d):∃a b,x=.int a/\y=.int b/\eH a b=true/\d=.int (a*b):=by
 cases x<;>first|exact nk h | (cases h;done) | (cases y<;>first|exact nk h | (cases h;done)|skip)
 obtain⟨h1,h2⟩:=mY h;exact⟨_,_,rfl,rfl,h1,h2.symm⟩
def kU(_:Scope)(_:ao)(st:Stmt):Option (Expr×aw):=match E_ st with
 |some z=>if z.2.1=.Mult then some (z.1,[z.2.2])else none
 |none=>none
theorem t6{sc:Scope}{bl:ao}(h:kU sc bl st=some (o,args)):∃v pos,st=.AugAssign o .Mult v pos/\args=[v]:=by
 unfold kU at h;cases hv:E_ st with
 |none=>rw[hv]at h;exact nk h
 |some z =>
  obtain⟨o',p,v⟩:=z;rw[hv]at h;obtain⟨pos,rfl⟩:=Bm hv;replace h:(if p=.Mult then some (o',[v])else none)=some (o,args):=h;by_cases hp:p=.Mult
  ·rw[if_pos hp]at h;subst hp;cases h;exact⟨v,pos,rfl,rfl⟩
  ·rw[if_neg hp]at h;cases h
theorem GZ:Oc X .Mult (λx y H Q=>∃i j,x=.int i/\y=.int j/\eH i j=true/\Q (.int (i*j)) H):=by
 intro pins s σ H x y v u Q I r1 r2 h;obtain⟨i,j,e1,e2,hc,q⟩:=h;subst e1;subst e2;obtain⟨t,rfl⟩:=r1;obtain⟨t',rfl⟩:=r2;exact imul_int ⟨.int _,H,I.tok _,⟨_,rfl⟩,q⟩ (qN hc)
theorem Cu{n:Nat}(hΦ:Φ n=lZ){sc:Scope}{bl:ao}{k:Nat}(L:PX X sc bl k)(hN:X.N.Nodup)(tL:∀x,X.fn x=true){x:Str}(he:kU sc bl st=some (.Name x pos,args))
  {i:Nat} (hi:X.N[i]?=some x) (hl:L2.Loc X.env.scope x) (pe:PE X (.Name x pos) (v9 i)) (hs:lj X F Φ cs args):PS X st (nv X F Φ (.mut n i cs)):=by
 obtain⟨v,pos',rfl,rfl⟩:=t6 he;cases cs with
 |nil=>exact hs.elim
 |cons c cs=>cases cs with
  |cons _ _=>exact hs.2.2.2.elim
  |nil =>
   refine PS.imp (FV hN hi hl hs.1 GZ (.inl (tL _))) λD σ H hq=>?_;obtain⟨R,τ,ρ,r,Si,ev,hq⟩:=hq;obtain⟨xs,b6,ev⟩:=aE ev;obtain⟨y,ey,b6⟩:=aE b6;cases b6;have key:∃a b,y=.int b/\ρ[i]?=some (some (.int a))/\eH a b=true/\r=(.nx,ρ.set i (some (.int (a*b)))):=by
    have ev:oS Φ n i (jd [c] [y] ρ)=ok r:=ev;unfold oS at ev;split at ev
    ·rename_i d0 ho;obtain⟨d',h1,h2⟩:=aE ev;rw[hΦ]at h1;unfold jd at h1 ho h2;split at h1
     ·rename_i ha;obtain⟨a,b,e1,e2,_,_⟩:=qZ (y:=aW a_ y) h1;cases y<;>first | (cases e2;done) | (cases ha;done)
     ·rename_i ha;obtain⟨a,b,rfl,rfl,hm,rfl⟩:=qZ h1;rw[if_neg ha]at ho;rw[if_neg ha]at h2;cases h2;exact⟨a,b,rfl,ho,hm,rfl⟩
    ·cases ev
   obtain⟨a,b,rfl,ho,hm,rfl⟩:=key;obtain⟨w,hw,jJ⟩:=Si.rep i _ ho;cases jJ;have dj:i<ρ.length:=by
    by_cases z:i<ρ.length
    ·exact z
    ·rw[List.getElem?_eq_none (by left)]at ho;cases ho
   refine⟨_,hw,tD.intro Si ey λu H1 e1 ru=>?_⟩;cases ru.isInt;refine⟨_,_,rfl,rfl,hm,?_⟩;obtain⟨τ1,pU⟩:=(Si.go e1).set (i:=i) (v:=.int (a*b)) (d:=.int (a*b)) ⟨λ_=>none,λ_ _ h=>by simp at h,.int _⟩ dj;exact hq _ H1 R τ1 pU (Kp.of e1 λ_ h=>h)
section
variable {X:Cx}
end
def gS(f:Str)(sc:Scope)(bl:ao)(e:Expr):Option (aw):=match dU e with
 |some z=>match one z.2 with
  |some _=>if z.1=f/\gM sc z.1=true/\z.1∈bl then some z.2 else none
  |none=>none
 |none=>none
theorem jQ{f:Str}{sc:Scope}{bl:ao}{e:Expr}(h:gS f sc bl e=some args):∃p pos a,e=.Call (.Name f p) [a] [] pos/\args=[a]/\gM sc f=true/\f∈bl:=by
 unfold gS at h;cases hv:dU e with
 |none=>rw[hv]at h;exact nk h
 |some z =>
  obtain⟨x,as⟩:=z;rw[hv]at h;obtain⟨p,pos,rfl⟩:=cP hv;have h:(match one as with|some _=>if x=f/\gM sc x=true/\x∈bl then some as else none|none=>none)=some args:=h;cases hw:one as with
  |none=>rw[hw]at h;exact nk h
  |some a =>
   rw[hw]at h;have h:(if x=f/\gM sc x=true/\x∈bl then some as else none)=some args:=h;obtain rfl:=cx hw;by_cases hc:x=f/\gM sc x=true/\x∈bl
   ·rw[if_pos hc]at h;cases h;obtain⟨rfl,h1,h2⟩:=hc;exact⟨_,_,_,rfl,rfl,h1,h2⟩
   ·rw[if_neg hc]at h;cases h
def RM(K:ai)(a:Addr):It :=
  ⟨λi H=>∃xs x,cI K H a xs/\xs[i]?=some x,
   λi H v H'=>∃T x,(∀xs,cI K H a xs->xs[i]?=some x)/\H T=none/\v=.ref T/\H'=upd H T (.tup [.int i,x]),
   λi H=>∃xs,cI K H a xs/\xs.length<=i⟩
theorem v7{tp:Pos}{a e it:Addr}(sj:e≠it):
  Turn P w K (.Tuple elts n1 tp) (RM K a) [e,it] e (λi h=>(∃old,IsEnum h e it (i:Int) old)/\h.IsListIter it a i):=by
 refine⟨by simp,λi h st c hc=>?_,λi h h' st k=>?_,?_,?_,λA i s Q E st hQ=>?_⟩
 ·obtain⟨⟨old,he⟩,⟨o1,e1,_,d1⟩⟩:=st;simp only[List.mem_cons,List.not_mem_nil,or_false]at hc;rcases hc with rfl|rfl
  ·exact⟨_,he,λv q=>by cases q⟩
  ·exact⟨o1,e1,λv q=>by rw[d1]at q;cases q⟩
 ·obtain⟨⟨old,he⟩,l1⟩:=st;exact⟨⟨old,k e (by simp) _ he⟩,l1.at λo z=>k it (by simp) o z⟩
 ·intro X hP hw hK hc i pins s σ H E I hf st hg;subst hP hw hK;obtain⟨xs,x,q1,ex⟩:=hg;obtain⟨⟨old,he⟩,l1⟩:=st;obtain⟨aH,rv,p,_⟩:=I.list q1;obtain⟨u,hu,ru⟩:=rv.get ex;refine wpAny_pyNext_enum_item he l1 p.isList (x:=u) (by simpa using hu) sj λh1 e1 a1 t1 Kd k1=>⟨_,rfl,?_⟩
  refine wpAny_letOwnedTupleGo_enum e1 λh2 e2 wm=>?_;have NZ:s.heap.objs.size≠e:=Xx (Xk he);have kk:∀c o,c∉[e,it]->s.heap.get? c=some o->h2.get? c=some o:=λc o hc z=>by
   simp only[List.mem_cons,List.not_mem_nil,or_false,not_or]at hc;exact wm.extBut c o hc.1 (k1 c o hc.1 hc.2 z)
  have hT:h2.get? s.heap.objs.size=some { cls:=.type "tuple",data:=.seq #[.int i s.toks,u] }:=wm.extBut _ _ NZ t1;have hn:H s.heap.objs.size=none:=I.cq.fresh (Xp _);have ci:((i+1:Nat):Int)=(i:Int)+1:=by push_cast;rfl
  refine⟨.ref s.heap.objs.size,upd H s.heap.objs.size (.tup [.int i,x]),ox (s:=s) (h':=h2) (t':=s.toks+1) I hf kk (Xp _) (kE ⟨_,rfl⟩ ru hT),rfl,⟨_,x,λzs hz=>by rw[I.gI hz q1];exact ex,hn,rfl,rfl⟩,⟨⟨u,by rw[ci];exact e2⟩,a1.extBut wm.extBut sj.symm⟩,λc hc=>?_⟩;rw[aQ]
  ·exact(hf c hc).1
  ·intro z;subst z;simp only[List.mem_cons,List.not_mem_nil,or_false]at hc;rcases hc with z|z
   ·exact absurd (Xk he) (by rw[<- z];exact XA _)
   ·obtain⟨_,w,_⟩:=l1;exact absurd (Xk w) (by rw[<- z];exact XA _)
 ·intro X hP hw hK hc i pins s σ H E I hf st hg;subst hP hw hK;obtain⟨xs,q1,hl⟩:=hg;obtain⟨⟨old,he⟩,l1⟩:=st;obtain⟨aH,rv,p,_⟩:=I.list q1;have e1:=rv.length;refine wpAny_pyNext_enum_end (I.ok.hd hc) he l1 p.isList (by simp;left) λh1 k1=>⟨rfl,um (t':=s.toks) I hf λc o hc z=>?_⟩
  simp only[List.mem_cons,List.not_mem_nil,or_false,not_or]at hc;exact k1 c o hc.2 z
 ·obtain⟨⟨old,he⟩,_⟩:=st;exact wpAny_pyIter_enum he hQ
theorem xA:bootBuiltins "enumerate" = some (.type "enumerate"):=by decide +kernel
theorem BU{tp p:Pos}(hg:Gl X "enumerate")(hm:X.mg "enumerate" = none)(ha:PA X [e1] ta)(hs:∀es,starEach (e1::es) X.env=(false,eval e1 X.env)::starEach es X.env):
  PI X (.Tuple elts n1 tp) (.Call (.Name "enumerate" p) [e1] [] pos) (λσ H R=>ta σ H λvs H1=>∃a,vs=[.ref a]/\(∃xs,cI X.K H1 a xs)/\R (RM X.K a) H1):=by
 intro pins s σ H R I h;refine Call_ (eJ I hg hm xA (XC (cJ (ha pos pins s σ H _ I h) λus s1 bH=>?_) (hs _) rfl));obtain⟨vs,H1,I1,r1,q1⟩:=bH;obtain⟨a,e,⟨xs,q1⟩,q⟩:=q1;subst e;obtain⟨u,rfl,ru⟩:=vals1 r1;cases ru;obtain⟨aH,_,p1,_⟩:=I1.list q1;refine call_enumerate_list p1.isList λh' z l1 sz k=>wpAny_pyIter_enum z ?_;refine⟨s1.heap.objs.size+1,[s1.heap.objs.size+1,s1.heap.objs.size],_,_,H1,rfl,I1.kept (t':=s1.toks) k,v7 (Nat.succ_ne_self _),⟨⟨_,z⟩,l1⟩,λb hb=>?_,q⟩;have m4:s1.heap.objs.size<=b:=by
  simp only[List.mem_cons,List.not_mem_nil,or_false]at hb;rcases hb with rfl|rfl<;>first|exact Zq .. |exact Xp _
 exact I1.xg m4 (I1.cq.fresh m4)
noncomputable def bB(k:Nat):aa->aa
 |[]=>[]
 |x::xs=>.tup [.int k,x]::bB (k+1) xs
def vt:aG
 |[.lst _ a]=>ok (.lst .ow (bB 0 a))
 |_=>none
theorem jk:∀(a:aa) (k i:Nat),(bB k a)[i]?=(a[i]?).map λx=>.tup [.int ((k+i:Nat):Int),x]
 |[],k,i=>by simp[bB]
 |x::xs,k,0=>by simp[bB]
 |x::xs,k,i+1=>by
  rw[bB,List.getElem?_cons_succ,List.getElem?_cons_succ,jk xs (k+1) i,show k+1+i=k+(i+1) by left]
theorem ji:∀(a:aa) (k:Nat),(bB k a).length=a.length
 |[],k=>rfl
 |x::xs,k=>by rw[bB,List.length_cons,List.length_cons,ji xs]
theorem B0{a:Expr}(h:lj X F Φ cs [a]):PA X [a] (pW X F Φ cs)/\(∀es,starEach (a::es) X.env=(false,eval a X.env)::starEach es X.env):=by
 match cs,h with
 |[c],h =>
  obtain⟨h1,h2,_,_⟩:=h;exact⟨PA.imp (di h1 (PA.imp fO λ_ _ _ h=>gY h) (h2 _)) λ_ _ _ h=>eE h,h2⟩
 |[],h=>exact h.elim
 |_::_::_,h=>exact h.2.2.2.elim
theorem xT{p:Addr}{a:aa}:EJ K (RM K p) H2 [.ref p] [.lst f a] (aB a_ (bB 0 a)):=by
 have len:(aB a_ (bB 0 a)).length=a.length:=by rw[aV,List.length_map,ji]
 have two:∀{H':Hp} {R':af},aA (aR K H') (nd K R' (λ_=>False) (λ_=>none) H') [] 0 [.ref p] (aB a_ [.lst f a]) ->
   ∃xs,cI K H' p xs/\aA (aR K H') (nd K R' (λ_=>False) (λ_=>none) H') [0] 0 xs (aB a_ a):=by
  intro H' R' h;rw[aB,aW,aB]at h;cases h with
  |cons h t=>cases h with
   |lst h r=>exact⟨_,h.sq,r⟩
 refine⟨λi H' R' _ h hi=>?_,λi H' R' x kf _ h hi hy=>?_,λi H' R' _ h hi=>?_⟩
 ·obtain⟨xs,h1,r1⟩:=two h;rw[len]at hi;have l1:=r1.length;rw[aV,List.length_map]at l1;exact⟨xs,xs[i]'(by left),h1,Xq _⟩
 ·obtain⟨xs,h1,r1⟩:=two h;obtain⟨T,u,g1,hn,rfl,rfl⟩:=hy;obtain⟨d1,e1,p1⟩:=r1.tP (g1 xs h1);have es:aF H' (upd H' T (.tup [.int i,u])):=aF.upd hn;refine⟨es,.tup [.int i,d1],?_,.tup (aR.of aT) (.cons (.int _) (.cons (p1.Oo es) .nil))⟩;rw[aV,List.getElem?_map]at e1 ⊢;obtain⟨c1,q1,rfl⟩:=Option.map_eq_some_iff.mp e1;rw[jk,q1];simp[aW,aB]
 ·obtain⟨xs,h1,r1⟩:=two h;rw[len]at hi;have l1:=r1.length;rw[aV,List.length_map]at l1;exact⟨xs,h1,by left⟩
theorem CW{n:Nat}(hΦ:Φ n=vt){sc:Scope}{bl:ao}{k:Nat}(L:PX X sc bl k){e:Expr}(he:gS "enumerate" sc bl e=some args)(ht:ff tg=true)(hs:lj X F Φ cs args)
  {pins:ah} {s:Shared} {H:Hp} {R:af} {xs:aa} {d:D} (I:Inv X pins σ H s) (Si:SI X F R τ ρ σ H) (b6:bV Φ cs ρ=ok xs) (ed:Φ n xs=ok d) (ei:kh d=ok items) (Rr:It->Hp->Prop)
  (hR:∀J H2 vs,aF H H2->bP X.K (gP X F) R τ (cA cs) H H2 vs xs->EJ X.K J H2 vs xs items->Rr J H2) :
  wpAny (model X.prog X.w) X.A (eval e X.env) (λv s1=>wpAny (model X.prog X.w) X.A (pyIter v) (xE X pins σ tg Rr) X.xe s1) X.xe s:=by
 obtain⟨p,pos,a,rfl,rfl,h1,h2⟩:=jQ he;cases tg<;>try (cases ht;done)
 obtain⟨pa,s1⟩:=B0 hs;refine BU (L.gl h1) (L.bl _ h2) pa s1 pins s σ H Rr I ⟨R,τ,ρ,xs,Si,b6,λvs H1 e1 rv=>?_⟩;have OM:=rv;obtain⟨τt,fr,rs⟩:=rv;rw[hΦ]at ed;unfold vt at ed;split at ed
 ·cases ed;cases ei;obtain⟨v,rfl,rx⟩:=rs.one;cases rx with
  |lst hx _=>exact⟨_,rfl,⟨_,hx.sq⟩,hR _ H1 _ e1 OM xT⟩
 ·cases ed
section
variable {prog:az}{w:World}{A:av}{E:aq}{s:Shared}
def pT(h:Heap)(vs:ag)(nss:ak):Prop:=vs.length=nss.length/\∀(i:Nat) (ns:ab),nss[i]?=some ns->∃t aH,vs[i]?=some (.ref t)/\IsTup h t aH.toArray/\IntsAre aH ns/\ns≠[]
theorem qS{fin:Bool}{Q:Bool->Shared->Prop}:∀{aH kn:ag} {ns ms:ab} (i:Nat),IntsAre aH ns->IntsAre kn ms->fin=decide (aH.length<kn.length)->Q (HT.lexLt ns ms) s->PySem.W.KatLex prog w A true fin Q (aH.zip kn) i s
 |_,_,_,_,i,.nil,.nil,hf,h=>by subst hf;exact h
 |_,_,_,_,i,.nil,.cons _ _ _,hf,h=>by subst hf;exact h
 |_,_,_,_,i,.cons _ _ _,.nil,hf,h=>by subst hf;exact h
 |_,_,_,_,i,.cons (ns:=ns) a t h1,.cons (ns:=ms) b u h2,hf,h=>by
  rw[HT.cW]at h;refine Zr (wpAny_eqBool_int (PySem.W.kat_go (λe=>?_) λe=>?_))
  ·have e:a=b:=by simpa using e
   rw[if_pos e]at h;exact Zu (qS (i+1) h1 h2 (by rw[hf];simp) h)
  ·have e:¬ a=b:=by simpa using e
   rw[if_neg e]at h;refine PySem.W.kat_no ?_;rw[Bool.true_and];cases i==0 with
   |true=>exact oneLt_int h
   |false=>exact Zv _ _ (lt_int h)
theorem pT.mono{h:Heap}{vs:ag}{nss:ak}(k:∀b o,h.get? b=some o->h'.get? b=some o)(t:pT h vs nss):pT h' vs nss :=
 ⟨t.1,λi ns e=>let ⟨a,aH,e1,⟨o,ho,r⟩,e3⟩:=t.2 i ns e;⟨a,aH,e1,⟨o,k _ _ ho,r⟩,e3⟩⟩
end
noncomputable def cK(ns:ab):D:=.tup (ns.map D.int)
theorem oB{H:Hp}{p a:Addr}{o:HO}(hp:H p=some (.lst xs))(h:aR K H a ys):aR K (upd H p o) a ys:=by
 rcases h with (h|⟨o',h⟩)|h
 ·exact .inl (.inl (by rw[aQ (λz=>by subst z;rw[hp]at h;cases h)];exact h))
 ·exact .inl (.inr ⟨o',by rw[aQ (λz=>by subst z;rw[hp]at h;cases h)];exact h⟩)
 ·exact .inr h
theorem uN{n i:Nat}{xs:aa}{r:Fo×aZ}(ev:oS Φ n i (jd cs xs ρ)=ok r)(ha:aS bG xs=false):∃d d',ρ[i]?=some (some d)/\Φ n (d::xs)=ok d'/\r=(.nx,ρ.set i (some d')):=by
 unfold jd at ev;rw[if_neg (by rw[ha];exact Bool.false_ne_true)]at ev;unfold oS at ev;split at ev
 ·rename_i d hd;obtain⟨d',h1,h2⟩:=aE ev;cases h2;exact⟨d,d',hd,h1,rfl⟩
 ·cases ev
theorem zd{n i:Nat}{xs:aa}{r:Fo×aZ}(ev:oS Φ n i (jd cs xs ρ)=ok r)(ha:aS bG xs=true):∃d d',Φ n (d::aB a_ xs)=ok d':=by
 unfold jd at ev;rw[if_pos ha]at ev;unfold oS at ev;split at ev
 ·rename_i d hd;obtain⟨d',h1,h2⟩:=aE ev;exact⟨d,d',h1⟩
 ·cases ev
def Nr:D->Option (aa)
 |.lst f ds=>if ck f then some ds else none
 |_=>none
theorem F_{d:D}(h:Nr d=some ds):d=.lst .ow ds:=by
 cases d<;>first|exact nk h | (cases h;done)|skip
 rename_i f es;have h:(if ck f then some es else none)=some ds:=h;cases f<;>first | (cases h;rfl) | (cases h;done)
def ni(m:Str)(st:Stmt):Option (Expr×aw):=match JQ st with
 |some c=>match oq c with
  |some z=>match uk z.1 with
   |some y=>if y.2.1=m/\z.2.2.1=[]/\(y.2.2.endLine==z.2.2.2.line)=true then some (y.1,z.2.1)else none
   |none=>none
  |none=>none
 |none=>none
theorem p8{m:Str}(h:ni m st=some (o,as)):∃p1 p2 pos,st=.Expr (.Call (.Attribute o m p1) as [] p2) pos/\(p1.endLine==p2.line)=true:=by
 unfold ni at h;cases h1:JQ st with
 |none=>rw[h1]at h;exact nk h
 |some c =>
  obtain⟨pos,rfl⟩:=sF h1;rw[h1]at h;cases h2:oq c with
  |none=>simp only[h2]at h;cases h
  |some z =>
   obtain⟨f,N9,ks,p2⟩:=z;obtain rfl:=nj h2;simp only[h2]at h;cases h3:uk f with
   |none=>simp only[h3]at h;cases h
   |some y =>
    obtain⟨o',a,p1⟩:=y;obtain rfl:=p_ h3;simp only[h3]at h;by_cases hc:a=m/\ks=[]/\(p1.endLine==p2.line)=true
    ·rw[if_pos hc]at h;cases h;obtain⟨rfl,rfl,hl⟩:=hc;exact⟨p1,p2,pos,rfl,hl⟩
    ·rw[if_neg hc]at h;cases h
noncomputable def vZ(J:Nat)(d:D):Nat->aa->aa
 |_,[]=>[]
 |n,x::xs=>(if n=J then d else x)::vZ J d (n+1) xs
theorem aA.vZ{T T':kC}{N N':gu}{q:bg}{J:Nat}{d:D}(hT:∀p xs,T p xs->T' p xs)(hN:∀c m p xs f,m≠J->N (c++(m::q)) p xs f->N' (c++(m::q)) p xs f):∀{n:Nat} {vs:ae} {ds:aa},aA T N q n vs ds->(∀k v,vs[k]?=some v->n+k=J->Rep T' N' (J::q) v d)->aA T' N' q n vs (DI.vZ J d n ds)
 |_,_,_,.nil,_=>.nil
 |n,_,_,.cons (d:=x) h t,hj=>by
  refine .cons ?_ (aA.vZ hT hN t λk v e z=>hj (k+1) v e (by left));by_cases hn:n=J
  ·rw[if_pos hn];subst hn;exact hj 0 _ rfl rfl
  ·rw[if_neg hn];exact h.imp (q:=n::q) (q':=n::q) hT λc p xs f h=>hN c n p xs f hn h
section
variable {X:Cx}{F R:af}{τ:Addr->Option bg}{ρ:aZ}{σ:St}{H:Hp}
theorem SI.Ph{p a:Addr}{q q0:bg}{n:Nd}{o:HO}(Si:SI X F R τ ρ σ H)(hp:H p=some (.lst xs))(ht:τ p=some q0)(hq:q≠q0)(h:nd X.K R (λ_=>False) τ H q a n f):nd X.K R (λ_=>False) τ (upd H p o) q a n f:=by
 have low:∀{a:Addr} {z:Nd},a≠p->dy H a z->dy (upd H p o) a z:=λne h=>h.at λu e=>by rw[aQ ne];exact e
 cases f with
 |ow=>exact⟨low (λz=>by subst z;exact hq (Xv (h.2.symm.trans ht))) h.1,h.2⟩
 |fz=>exact⟨low (λz=>by subst z;rw[Si.rt _ h.2]at ht;cases ht) h.1,h.2⟩
 |al=>exact h.2.elim
 |sc =>
  obtain⟨ys,rfl,h⟩:=h.yu;exact h.elim (λ⟨o',w⟩=>.inl ⟨o',by rw[aQ (λz=>by subst z;rw[hp]at w;cases w)];exact w⟩) .inr
theorem SI.T1{i j:Nat}{p:Addr}(Si:SI X F R τ ρ σ H)(hi:ρ[i]?=some (some d0))(hp:H p=some (.lst xs))(ht:τ p=some [j,i])
  {v:V} (hv:σ[i]?=some (some v)) (hb:Rep (aR X.K (upd H p (.lst ys))) (nd X.K R (λ_=>False) τ (upd H p (.lst ys))) [i] v d1):SI X F R τ (ρ.set i (some d1)) σ (upd H p (.lst ys)):=by
 have wY:i<ρ.length:=by
  by_cases z:i<ρ.length
  ·exact z
  ·rw[List.getElem?_eq_none (by left)]at hi;cases hi
 have there:∀a,H a≠none->upd H p (.lst ys) a≠none:=λa h=>by
  by_cases z:a=p
  ·rw[z,aT];simp
  ·rw[aQ z];exact h
 refine⟨by simp[Si.len],λm d hm=>?_,Si.rt,λa ha=>there a (Si.rh a ha),Si.rf,λa q e=>there a (Si.th a q e),Si.t0,λa u e=>?_⟩
 ·by_cases z:m=i
  ·subst z;rw[List.getElem?_set_self wY]at hm;cases hm;exact⟨v,hv,hb⟩
  ·rw[List.getElem?_set_ne (Ne.symm z)]at hm;obtain⟨v,h1,h2⟩:=Si.rep m d hm;refine⟨v,h1,h2.imp (q:=[m]) (q':=[m]) (λ_ _ h=>oB hp h) λc a n f h=>Si.Ph hp ht (λe=>?_) h⟩;have:=X0 List.getLast? e;simp at this;exact z this
 ·rw[aQ (λz=>by subst z;rw[Si.t0 _ _ ht]at e;cases e)];exact Si.same a u e
end
def kB(ds:aa)(j:Nat):Option (aa):=match ds[j]? with
 |some d=>match Nr d with
  |some _=>some (vZ j (.lst .ow []) 0 ds)
  |none=>none
 |none=>none
theorem vB{es:aa}{j:Nat}(h:kB ds j=some es):∃gs,ds[j]?=some (.lst .ow gs)/\es=vZ j (.lst .ow []) 0 ds:=by
 unfold kB at h;cases h1:ds[j]? with
 |none=>rw[h1]at h;exact nk h
 |some d =>
  rw[h1]at h;have h:(match Nr d with|some _=>some (vZ j (.lst .ow []) 0 ds)|none=>none)=some es:=h;cases h2:Nr d with
  |none=>rw[h2]at h;exact nk h
  |some gs =>
   rw[h2]at h;cases h;exact⟨gs,by rw[F_ h2],rfl⟩
def Dq(xs:aa):O D:=match two xs with
 |some z=>match z.2 with
  |.int k=>if 0<=k then(match z.1 with
   |.tup ds=>(match kB ds k.toNat with|some es=>ok (.tup es)|none=>none)
   |.lst f ds=>if ck f then(match kB ds k.toNat with|some es=>ok (.lst f es)|none=>none)else none
   |_=>none)else none
  |_=>none
 |none=>none
theorem vD{x y d:D}(h0:Dq [x,y]=ok d):∃(k:Int) (ds gs:aa),y=.int k/\0<=k/\ds[k.toNat]?=some (.lst .ow gs)/\((x=.tup ds/\d=.tup (vZ k.toNat (.lst .ow []) 0 ds))\/(x=.lst .ow ds/\d=.lst .ow (vZ k.toNat (.lst .ow []) 0 ds))):=by
 cases y<;>first|exact nk h0 | (cases h0;done)|skip
 rename_i k;by_cases hk:0<=k
 ·have h:(if 0<=k then(match x with
   |.tup ds=>(match kB ds k.toNat with|some es=>ok (.tup es)|none=>none)
   |.lst f ds=>if ck f then(match kB ds k.toNat with|some es=>ok (.lst f es)|none=>none)else none
   |_=>none)else none)=ok d:=h0
  rw[if_pos hk]at h;clear h0;cases x<;>first|exact nk h | (cases h;done)|skip
  ·rename_i ds;replace h:(match kB ds k.toNat with|some es=>ok (D.tup es)|none=>none)=ok d:=h;cases hc:kB ds k.toNat with
   |none=>rw[hc]at h;exact nk h
   |some es =>
    rw[hc]at h;cases h;obtain⟨gs,h1,rfl⟩:=vB hc;exact⟨k,ds,gs,rfl,hk,h1,.inl ⟨rfl,rfl⟩⟩
  ·rename_i f ds;replace h:(if ck f then(match kB ds k.toNat with|some es=>ok (D.lst f es)|none=>none)else none)=ok d:=h;by_cases hf:ck f=true
   ·rw[if_pos hf]at h;cases hc:kB ds k.toNat with
    |none=>rw[hc]at h;exact nk h
    |some es =>
     rw[hc]at h;cases h;obtain rfl:f=.ow:=by cases f<;>first|rfl | (cases hf;done)
     obtain⟨gs,h1,rfl⟩:=vB hc;exact⟨k,ds,gs,rfl,hk,h1,.inr ⟨rfl,rfl⟩⟩
   ·rw[if_neg hf]at h;cases h
 ·have h:(if 0<=k then(match x with
   |.tup ds=>(match kB ds k.toNat with|some es=>ok (.tup es)|none=>none)
   |.lst f ds=>if ck f then(match kB ds k.toNat with|some es=>ok (.lst f es)|none=>none)else none
   |_=>none)else none)=ok d:=h0
  rw[if_neg hk]at h;cases h
def pI(_:Scope)(_:ao)(st:Stmt):Option (Expr×aw):=match ni ("clear" : Str) st with
 |some z=>if z.2=[]then(match jC z.1 with
  |some y=>some (y.1,[y.2])
  |none=>none)else none
 |none=>none
theorem xu{sc:Scope}{bl:ao}(h:pI sc bl st=some (o,args)):∃k p0 p1 p2 pos,args=[k]/\st=.Expr (.Call (.Attribute (.Subscript o k p0) ("clear" : Str) p1) [] [] p2) pos/\(p1.endLine==p2.line)=true:=by
 unfold pI at h;cases h1:ni ("clear" : Str) st with
 |none=>rw[h1]at h;exact nk h
 |some z =>
  obtain⟨b,as⟩:=z;rw[h1]at h;have h:(if as=[]then(match jC b with|some y=>some (y.1,[y.2])|none=>none)else none)=some (o,args):=h;by_cases ha:as=[]
  ·rw[if_pos ha]at h;cases h2:jC b with
   |none=>rw[h2]at h;exact nk h
   |some y =>
    obtain⟨a,k⟩:=y;rw[h2]at h;cases h;subst ha;obtain⟨p0,rfl⟩:=i0 h2;obtain⟨p1,p2,pos,rfl,hl⟩:=p8 h1;exact⟨k,p0,p1,p2,pos,rfl,rfl,hl⟩
  ·rw[if_neg ha]at h;cases h
theorem Iq{n:Nat}(hΦ:Φ n=Dq){sc:Scope}{bl:ao}{k:Nat}(L:PX X sc bl k)(hN:X.N.Nodup)(tL:∀x,X.fn x=true){x:Str}(he:pI sc bl st=some (.Name x pos,args))
  {i:Nat} (hi:X.N[i]?=some x) (hl:L2.Loc X.env.scope x) (pe:PE X (.Name x pos) (v9 i)) (hs:lj X F Φ cs args):PS X st (nv X F Φ (.mut n i cs)):=by
 obtain⟨ke,p0,p1,p2,pos',rfl,rfl,Jj⟩:=xu he;cases cs with
 |nil=>exact hs.elim
 |cons c cs=>cases cs with
  |cons _ _=>exact hs.2.2.2.elim
  |nil =>
   refine PS.imp (oN (F5 PySem.F.plainAttrs_list PySem.F.slot_list_clear PySem.F.type_list_clear ze (yW (uW.or zB) pe hs.1 hs.2.2.1) (hline:=Jj))) λD σ H hq=>?_;obtain⟨R,τ,ρ,r,Si,ev,hq⟩:=hq;obtain⟨xs,b6,ev⟩:=aE ev;obtain⟨y,ey,b6⟩:=aE b6;cases b6;have key:∃(k:Int) (d0 d1:DI.D) (ds gs:List DI.D),y=.int k/\ρ[i]?=some (some d0)/\0<=k/\ds[k.toNat]?=some (.lst .ow gs)/\((d0=.tup ds/\d1=.tup (vZ k.toNat (.lst .ow []) 0 ds))\/(d0=.lst .ow ds/\d1=.lst .ow (vZ k.toNat (.lst .ow []) 0 ds)))/\r=(.nx,ρ.set i (some d1)):=by
    cases hz:aS bG [y]with
    |true =>
     obtain⟨d,d',h⟩:=zd ev hz;rw[hΦ]at h;obtain⟨k,ds,gs,h3,_⟩:=vD h;cases y<;>first|exact nk h3 | (cases h3;done) | (cases hz;done)
    |false =>
     obtain⟨d,d',h,h',rfl⟩:=uN ev hz;rw[hΦ]at h';obtain⟨k,ds,gs,rfl,h3,h4,h5⟩:=vD h';exact⟨k,d,d',ds,gs,rfl,h,h3,h4,h5,rfl⟩
   obtain⟨k,d0,d1,ds,gs,rfl,ho,hk,hg,hd,rfl⟩:=key;obtain⟨v,hv,_⟩:=Si.rep i _ ho;refine⟨v,hv,tD.intro Si ey λu H1 e1 ru=>?_⟩;cases ru.isInt;have pU:=Si.go e1;obtain⟨v',LH,rv⟩:=pU.rep i _ ho;rw[hv]at LH;cases LH;have at_:∀{xs:ae},aA (aR X.K H1) (nd X.K R (λ_=>False) τ H1) [i] 0 xs ds->∃(p:Addr) (zs:ae),xs[k.toNat]?=some (.ref p)/\H1 p=some (.lst zs)/\τ p=some [k.toNat,i]/\EH xs k=some (.ref p):=by
    intro xs rs;obtain⟨w,hw,jJ⟩:=rs.get hg;rw[Nat.zero_add]at jJ;cases jJ with
    | @lst _ p zs _ _ h _ =>
     refine⟨p,zs,hw,h.1,h.2,?_⟩;have b9:k.toNat<xs.length:=by
      by_cases z:k.toNat<xs.length
      ·exact z
      ·rw[List.getElem?_eq_none (by left)]at hw;cases hw
     unfold EH L2.wI;rw[if_pos hk,if_pos (by left)];exact hw
   have go:∀{xs:ae} {p:Addr} {zs:ae},aA (aR X.K H1) (nd X.K R (λ_=>False) τ H1) [i] 0 xs ds->xs[k.toNat]?=some (.ref p)->H1 p=some (.lst zs)->τ p=some [k.toNat,i]->aA (aR X.K (upd H1 p (.lst []))) (nd X.K R (λ_=>False) τ (upd H1 p (.lst []))) [i] 0 xs (vZ k.toNat (.lst .ow []) 0 ds):=by
    intro xs p zs rs hx hp ht;refine aA.vZ (λ_ _ h=>oB hp h) (λc m a n f hm h=>pU.Ph hp ht (λz=>?_) h) rs λm w hw hm=>?_
    ·have:=X0 List.reverse z;simp at this;exact hm this.1
    ·rw[Nat.zero_add]at hm;subst hm;rw[hx]at hw;cases hw;exact .lst ⟨aT,ht⟩ .nil
   rcases hd with ⟨rfl,rfl⟩|⟨rfl,rfl⟩
   ·cases rv with
    | @tup _ a xs _ hn rs =>
     obtain⟨p,zs,h1,h2,h3,h4⟩:=at_ rs;refine .inr ⟨a,xs,k,_,rfl,rfl,hn,h4,.inl ⟨rfl,_,cI.of h2⟩,p,zs,rfl,rfl,h2,?_⟩;exact hq σ _ R τ (pU.T1 ho h2 h3 hv (.tup (oB h2 hn) (go rs h1 h2 h3))) (oZ (n:=.l _) pU e1 (λ_ h=>h) h2 h3)
   ·obtain⟨a,xs,rfl,hn,rs⟩:=rv.p4;obtain⟨p,zs,h1,h2,h3,h4⟩:=at_ rs;refine .inl ⟨a,xs,k,_,rfl,rfl,hn.sq,h4,.inl ⟨rfl,_,cI.of h2⟩,p,zs,rfl,rfl,h2,?_⟩;refine hq σ _ R τ (pU.T1 ho h2 h3 hv (.lst (pU.Ph h2 h3 (λz=>?_) hn) (go rs h1 h2 h3))) (oZ (n:=.l _) pU e1 (λ_ h=>h) h2 h3);have:=X0 List.length z;simp at this
noncomputable abbrev pS(h:Heap)(z TI TO a:Addr)(f:Bool):Prop :=
 h.get? z=some { cls:=.type "zip",dict:=none,data:=.fields #[rawInt a,.bool f,.bool false,.ref TI,.ref TO],slots:=#[] }
variable {oa:Obj}
section
variable {prog:az}{w:World}{A:av}{E:aq}{s:Shared}
theorem xS{a:Addr}{o:Obj}{Q:Option Obj->Shared->Prop}(ho:s.heap.get? a=some o)(h:Q (some o) s):wpAny (model prog w) A (loadIfAlive a) Q E s:=by
 have h':Q (s.heap.get? a) s:=by rw[ho];exact h
 exact λ_ _ _=>h'
theorem ug{z TI TO a:Addr}{f:Bool}{Q:Bool->Shared->Prop}(hz:pS s.heap z TI TO a f)(ha:s.heap.get? a=some oa)(hQ:∀h',pS h' z TI TO a true->Heap.SameBut z s.heap h'->Q false { s with heap:=h' }):
  wpAny (model prog w) A (Builtin.SmallTypes.ownedTupleIsFree (.ref z)) Q E s:=by
 unfold Builtin.SmallTypes.ownedTupleIsFree;refine Xf (X9 hz rfl (x:=rawInt a) rfl ?_);show wpAny _ _ (loadIfAlive ((a:Int).toNat) >>= _) _ _ _;rw[Int.toNat_natCast];refine Xf (xS ha ?_);simp only[Option.isNone_some,Bool.false_eq_true,if_false];refine Xf (X9 hz rfl (x:=.bool f) rfl ?_);cases f with
 |true =>
  rw[if_neg (show ¬ ((Value.bool true != Value.bool true)=true) from Bool.false_ne_true)];exact Xg (hQ s.heap hz (Heap.SameBut.refl _ _))
 |false =>
  rw[if_pos (show(Value.bool false != Value.bool true)=true from rfl)];exact Xf (Ya hz (by simp) λh₃ LX j8=>Xg (hQ h₃ LX j8))
theorem p3{z TI TO a:Addr}{f:Bool}{xs ys:aN}{x y:Value}{Q:aq}(D:ZipApart z TI TO i1 i2 l1 l2)
  (hz:pS s.heap z TI TO a f) (ha:s.heap.get? a=some oa) (AR:IsPair s.heap TI (.ref i1) (.ref i2))
  (h1:s.heap.IsListIter i1 l1 k1) (h2:s.heap.IsListIter i2 l2 k2) (AN:s.heap.IsList l1 xs) (xJ:s.heap.IsList l2 ys) (hx:xs[k1]?=some x) (hy:ys[k2]?=some y)
  (hQ:∀h',pS h' z TI TO a true->h'.IsListIter i1 l1 (k1+1)->h'.IsListIter i2 l2 (k2+1)->IsPair h' s.heap.objs.size x y->h'.objs.size=s.heap.objs.size+1 ->
   (∀c o,c≠z->c≠i1->c≠i2->s.heap.get? c=some o->h'.get? c=some o)->Q (.ref s.heap.objs.size) { s with heap:=h' }) :
  wpAny (model prog w) A (Builtin.«zip.__next__» ⟨[.ref z],[]⟩) (λfin s'=>∃v,fin=.done (.ret v)/\Q v s') E s:=by
 show wpAny _ _ (field (.ref z) 2 >>= _) _ _ _;refine Xf (X9 hz rfl (x:=.bool false) rfl ?_);show wpAny _ _ (field (.ref z) 3 >>= _) _ _ _;refine Xf (X9 hz rfl (x:=.ref TI) rfl ?_);refine Xf (wpAny_seqItems AR rfl ?_);show wpAny _ _ (Builtin.SmallTypes.ownedTupleIsFree (.ref z) >>= _) _ _ _;refine Xf (ug hz ha λh₁ Ek eK=>?_);simp only[Bool.false_eq_true,if_false];refine Xf ?_;rw[<- Array.forIn_toList];simp only[List.forIn_cons,List.forIn_nil];refine Xf (Xf (XI ?_));show wpAny _ _ (Builtin.SmallTypes.nextOf (.ref i1) >>= _) _ _ _;refine Xf (YR (h1.extBut eK.extBut D.i1z) (AN.extBut eK.extBut D.l1z) hx λh₂ Ep gL=>Xg ?_);refine Xg ?_;refine Xf (Xf (XI ?_));show wpAny _ _ (Builtin.SmallTypes.nextOf (.ref i2) >>= _) _ _ _;refine Xf (YR ((h2.extBut eK.extBut D.i2z).extBut gL.extBut D.i12.symm) ((xJ.extBut eK.extBut D.l2z).extBut gL.extBut D.l2i1) hy λh₃ Mg j8=>Xg ?_);refine Xg ?_;refine Xg ?_;have hsz:h₃.objs.size=s.heap.objs.size:=by rw[j8.1,gL.1,eK.1]
 refine Xf (wpAny_newTuple ?_ (by show 2<=_;rw[sizeLine_eq];decide));refine Xg ⟨_,rfl,?_⟩;show Q (.ref h₃.objs.size) _;have b9:∀{c o},h₃.get? c=some o->c≠h₃.objs.size:=λe=>Xt (Xk e);have hk:∀c o,c≠z->c≠i1->c≠i2->s.heap.get? c=some o->(h₃.push { cls:=.type "tuple",data:=.seq #[x,y] }).get? c=some o:=λc o c1 c2 c3 e=>Xj _ (j8.extBut _ _ c3 (gL.extBut _ _ c2 (eK.extBut _ _ c1 e)));rw[hsz];refine hQ _ (Xj _ (j8.extBut _ _ D.i2z.symm (gL.extBut _ _ D.i1z.symm Ek))) ((Ep.extBut j8.extBut D.i12).at λo e=>Xj _ e) (Mg.at λo e=>Xj _ e) ?_ (by rw[Heap.size_push,hsz]) hk;rw[<- hsz];exact Xs _ rfl
theorem sx{z TI TO a:Addr}{f:Bool}{xs ys:aN}{Q:Fin->Shared->Prop}(hh:A.handled=none)(D:ZipApart z TI TO i1 i2 l1 l2)
  (hz:pS s.heap z TI TO a f) (ha:s.heap.get? a=some oa) (AR:IsPair s.heap TI (.ref i1) (.ref i2))
  (h1:s.heap.IsListIter i1 l1 k1) (h2:s.heap.IsListIter i2 l2 k2) (AN:s.heap.IsList l1 xs) (xJ:s.heap.IsList l2 ys) (rg:xs[k1]?=none\/ys[k2]?=none)
  (hE:∀h' e,(∀c o,c≠z->c≠i1->c≠i2->s.heap.get? c=some o->h'.get? c=some o)->(∃o,h'.get? e=some o/\o.cls=.type "StopIteration")->E (.ref e) { s with heap:=h' }) :
  wpAny (model prog w) A (Builtin.«zip.__next__» ⟨[.ref z],[]⟩) Q E s:=by
 show wpAny _ _ (field (.ref z) 2 >>= _) _ _ _;refine Xf (X9 hz rfl (x:=.bool false) rfl ?_);show wpAny _ _ (field (.ref z) 3 >>= _) _ _ _;refine Xf (X9 hz rfl (x:=.ref TI) rfl ?_);refine Xf (wpAny_seqItems AR rfl ?_);show wpAny _ _ (Builtin.SmallTypes.ownedTupleIsFree (.ref z) >>= _) _ _ _;refine Xf (ug hz ha λh₁ Ek eK=>?_);simp only[Bool.false_eq_true,if_false];refine Xf ?_;rw[<- Array.forIn_toList];simp only[List.forIn_cons,List.forIn_nil];refine Xf (Xf (XI ?_));show wpAny _ _ (Builtin.SmallTypes.nextOf (.ref i1) >>= _) _ _ _;cases hx:xs[k1]? with
 |none =>
  refine Xf (wpAny_nextOf_list_end hh (h1.extBut eK.extBut D.i1z) (AN.extBut eK.extBut D.l1z) hx λh₂ e gL he=>?_);exact hE h₂ e (λc o c1 c2 c3 x=>gL _ _ c2 (eK.extBut _ _ c1 x)) he
 |some x =>
  have hy:ys[k2]?=none:=by rcases rg with h|h;rw[hx]at h;cases h;exact h
  refine Xf (YR (h1.extBut eK.extBut D.i1z) (AN.extBut eK.extBut D.l1z) hx λh₂ Ep gL=>Xg ?_);refine Xg ?_;refine Xf (Xf (XI ?_));show wpAny _ _ (Builtin.SmallTypes.nextOf (.ref i2) >>= _) _ _ _;refine Xf (wpAny_nextOf_list_end hh ((h2.extBut eK.extBut D.i2z).extBut gL.extBut D.i12.symm) ((xJ.extBut eK.extBut D.l2z).extBut gL.extBut D.l2i1) hy λh₃ e j8 he=>?_);exact hE h₃ e (λc o c1 c2 c3 x=>j8 _ _ c3 (gL.extBut _ _ c2 (eK.extBut _ _ c1 x))) he
theorem ll{z TI TO a:Addr}{f:Bool}{xs ys:aN}{x y:Value}{Q:Option Value->Shared->Prop}(D:ZipApart z TI TO i1 i2 l1 l2)
  (hz:pS s.heap z TI TO a f) (ha:s.heap.get? a=some oa) (AR:IsPair s.heap TI (.ref i1) (.ref i2))
  (h1:s.heap.IsListIter i1 l1 k1) (h2:s.heap.IsListIter i2 l2 k2) (AN:s.heap.IsList l1 xs) (xJ:s.heap.IsList l2 ys) (hx:xs[k1]?=some x) (hy:ys[k2]?=some y)
  (hQ:∀h',pS h' z TI TO a true->h'.IsListIter i1 l1 (k1+1)->h'.IsListIter i2 l2 (k2+1)->IsPair h' s.heap.objs.size x y->h'.objs.size=s.heap.objs.size+1 ->
   (∀c o,c≠z->c≠i1->c≠i2->s.heap.get? c=some o->h'.get? c=some o)->Q (some (.ref s.heap.objs.size)) { s with heap:=h' }) :
  wpAny (model prog w) A (pyNext (.ref z)) Q E s:=by
 have hT:s.TypeIs (.ref z) "zip":=⟨_,hz,rfl⟩
 unfold pyNext;exact Xf (Ym (XW (name:=Str.ofString "__next__") hT Ys
  (XG Ys hT PySem.F.entry_zip_next
   (p3 D hz ha AR h1 h2 AN xJ hx hy λh' a1 a2 a3 a4 a5 a6=>Xg (hQ h' a1 a2 a3 a4 a5 a6)) (PySem.F.args_zip_next_1 _))))
theorem mK{z TI TO a:Addr}{f:Bool}{xs ys:aN}{Q:Option Value->Shared->Prop}(hh:A.handled=none)(D:ZipApart z TI TO i1 i2 l1 l2)
  (hz:pS s.heap z TI TO a f) (ha:s.heap.get? a=some oa) (AR:IsPair s.heap TI (.ref i1) (.ref i2))
  (h1:s.heap.IsListIter i1 l1 k1) (h2:s.heap.IsListIter i2 l2 k2) (AN:s.heap.IsList l1 xs) (xJ:s.heap.IsList l2 ys) (rg:xs[k1]?=none\/ys[k2]?=none)
  (hQ:∀h',(∀c o,c≠z->c≠i1->c≠i2->s.heap.get? c=some o->h'.get? c=some o)->Q none { s with heap:=h' }):wpAny (model prog w) A (pyNext (.ref z)) Q E s:=by
 have hT:s.TypeIs (.ref z) "zip":=⟨_,hz,rfl⟩
 unfold pyNext;refine Xf (Ym (XW (name:=Str.ofString "__next__") hT Ys
  (XG Ys hT PySem.F.entry_zip_next (sx hh D hz ha AR h1 h2 AN xJ rg λh' e hk he=>?_) (PySem.F.args_zip_next_1 _))))
 obtain⟨o,ho,hc⟩:=he;refine Xf (wpAny_isInstance (T:="StopIteration") (b:=true) ⟨o,ho,hc⟩ isSubtype_stop ?_);exact Xg (hQ _ hk)
end
theorem ER:typeLookup (.type "zip") "__len__" = pure none:=by rw[typeLookup_type,builtinLookup_eq_fast];kernel_rfl
theorem JF:typeLookup (.type "zip") "__length_hint__" = pure none:=by rw[typeLookup_type,builtinLookup_eq_fast];kernel_rfl
section
variable {prog:az}{w:World}{A:av}{E:aq}{s:Shared}
theorem A1{z:Addr}(hT:s.TypeIs (.ref z) "zip"){Q:Bool->Shared->Prop}(h:Q true s):wpAny (model prog w) A (Builtin.List.listLengthHint (.ref z)) Q E s:=by
 unfold Builtin.List.listLengthHint;refine Xf (wpAny_specialOf hT ER ?_);refine wpAny_ite_split (λw_=>absurd w_ (by decide)) (λ_=>?_);refine wpAny_ite_split (λw_=>absurd w_ (by decide)) (λ_=>?_);refine Xf (wpAny_specialOf hT JF ?_);exact Xg h
end
structure Zl(h:Heap)(z TI TO i1 i2 l1 l2 S:Addr)(xs ys:aN)(i:Nat):Prop where
 st:(IsZip h z TI TO .none/\∃a b,IsPair h TO a b)\/∃a f oa,pS h z TI TO a f/\h.get? a=some oa/\S<a
 ti:IsPair h TI (.ref i1) (.ref i2)
 w1:h.IsListIter i1 l1 i
 w2:h.IsListIter i2 l2 i
 q1:h.IsList l1 xs
 q2:h.IsList l2 ys
structure Below(z TI TO i1 i2 l1 l2 S:Addr):Prop where
 D:ZipApart z TI TO i1 i2 l1 l2
 z:z<S
 TI:TI<S
 TO:TO<S
 i1:i1<S
 i2:i2<S
 l1:l1<S
 l2:l2<S
section
variable {prog:az}{w:World}{A:av}{E:aq}{s:Shared}{z TI TO i1 i2 l1 l2 S:Addr}{xs ys:aN}{i:Nat}
theorem Zl.keep{h:Heap}(B:Below z TI TO i1 i2 l1 l2 S)(Z:Zl h z TI TO i1 i2 l1 l2 S xs ys i)(hk:∀b o,b≠S->h.get? b=some o->h'.get? b=some o):Zl h' z TI TO i1 i2 l1 l2 S xs ys i:=by
 have n:∀{b},b<S->b≠S:=λh=>Xt h;refine⟨?_,hk _ _ (n B.TI) Z.ti,Z.w1.at λo e=>hk _ o (n B.i1) e,Z.w2.at λo e=>hk _ o (n B.i2) e,Z.q1.at λo e=>hk _ o (n B.l1) e,Z.q2.at λo e=>hk _ o (n B.l2) e⟩;rcases Z.st with ⟨h1,a,b,h2⟩|⟨a,f,oa,h1,h2,h3⟩
 ·exact .inl ⟨hk _ _ (n B.z) h1,a,b,hk _ _ (n B.TO) h2⟩
 ·exact .inr ⟨a,f,oa,hk _ _ (n B.z) h1,hk _ _ (Xx h3) h2,h3⟩
theorem AZ{x y:Value}{Q:Option Value->Shared->Prop}(B:Below z TI TO i1 i2 l1 l2 S)(Z:Zl s.heap z TI TO i1 i2 l1 l2 S xs ys i)(hS:S<s.heap.objs.size)(hx:xs[i]?=some x)(hy:ys[i]?=some y)
  (hQ:∀h',Zl h' z TI TO i1 i2 l1 l2 S xs ys (i+1)->IsPair h' s.heap.objs.size x y->h'.objs.size=s.heap.objs.size+1->(∀c o,c≠z->c≠TO->c≠i1->c≠i2->s.heap.get? c=some o->h'.get? c=some o)->Q (some (.ref s.heap.objs.size)) { s with heap:=h' }) :
  wpAny (model prog w) A (pyNext (.ref z)) Q E s:=by
 have D:=B.D;rcases Z.st with ⟨hz,a,b,Jo⟩|⟨a,f,oa,hz,ha,hSa⟩
 ·refine wpAny_pyNext_zip_item D hz Z.ti Jo Z.w1 Z.w2 Z.q1 Z.q2 hx hy λh' z1 o1 a1 b1 t1 Kd k1=>hQ h' ?_ t1 Kd k1;exact⟨.inr ⟨s.heap.objs.size,false,_,z1,t1,hS⟩,k1 _ _ D.TIz D.TITO D.TIi1 D.TIi2 Z.ti,a1,b1,Z.q1.at λo e=>k1 _ o D.l1z D.l1TO D.l1i1 D.l1i2 e,Z.q2.at λo e=>k1 _ o D.l2z D.l2TO D.l2i1 D.l2i2 e⟩
 ·refine ll D hz ha Z.ti Z.w1 Z.w2 Z.q1 Z.q2 hx hy λh' z1 a1 b1 t1 Kd k1=>hQ h' ?_ t1 Kd λc o c1 _ c3 c4 e=>k1 c o c1 c3 c4 e;have n:∀{b},b<S->a≠b:=λh=>Xx (Yt h hSa);exact⟨.inr ⟨a,true,oa,z1,k1 _ _ (n B.z) (n B.i1) (n B.i2) ha,hSa⟩,k1 _ _ D.TIz D.TIi1 D.TIi2 Z.ti,a1,b1,Z.q1.at λo e=>k1 _ o D.l1z D.l1i1 D.l1i2 e,Z.q2.at λo e=>k1 _ o D.l2z D.l2i1 D.l2i2 e⟩
theorem A2{Q:Option Value->Shared->Prop}(hh:A.handled=none)(B:Below z TI TO i1 i2 l1 l2 S)(Z:Zl s.heap z TI TO i1 i2 l1 l2 S xs ys i)(rg:xs[i]?=none\/ys[i]?=none)
  (hQ:∀h',(∀c o,c≠z->c≠TO->c≠i1->c≠i2->s.heap.get? c=some o->h'.get? c=some o)->Q none { s with heap:=h' }):wpAny (model prog w) A (pyNext (.ref z)) Q E s:=by
 have D:=B.D;rcases Z.st with ⟨hz,a,b,Jo⟩|⟨a,f,oa,hz,ha,hSa⟩
 ·exact wpAny_pyNext_zip_end hh D hz Z.ti Jo Z.w1 Z.w2 Z.q1 Z.q2 rg hQ
 ·exact mK hh D hz ha Z.ti Z.w1 Z.w2 Z.q1 Z.q2 rg λh' k=>hQ h' λc o c1 _ c3 c4 e=>k c o c1 c3 c4 e
end
structure M1(xs ys:aN)(lo:Addr)(h:Heap)(as:aP):Prop where
 above:∀a∈as,lo<a
 nd:as.Nodup
 pairs:∀(j:Nat) (a:Addr),as[j]?=some a->∃x y,xs[j]?=some x/\ys[j]?=some y/\IsPair h a x y
section
variable {prog:az}{w:World}{A:av}{s:Shared}{R:Result->Shared->Prop}{z TI TO i1 i2 l1 l2 S:Addr}{xs ys:aN}
theorem AY(hh:A.handled=none)(B:Below z TI TO i1 i2 l1 l2 S)(hn:min xs.size ys.size<=sizeLine)(res:Value) 
  (hR:∀h' tk acc c as,(∀b o,b≠S->b≠z->b≠TO->b≠i1->b≠i2->h₁.get? b=some o->h'.get? b=some o)->h'.get? S=some { cls:=.type "list",dict:=none,data:=.seq acc c,slots:=#[] }->as.length=min xs.size ys.size->M1 xs ys S h' as ->
   acc.toList=as.map Value.ref->R (.ok (.ret res)) { s with heap:=h',toks:=tk }) :
  ∀(k i:Nat) (h:Heap) (tk c:Nat) (acc:aN) (as:aP),min xs.size ys.size - i=k->i<=min xs.size ys.size->Zl h z TI TO i1 i2 l1 l2 S xs ys i->(∀b o,b≠S->b≠z->b≠TO->b≠i1->b≠i2->h₁.get? b=some o->h.get? b=some o) ->
   h.get? S=some { cls:=.type "list",dict:=none,data:=.seq acc c,slots:=#[] }->acc.toList=as.map Value.ref->as.length=i->M1 xs ys S h as ->
   codeAny (model prog w) A (.builtin "list.extend.loop" ⟨[.ref S,.ref z,res],[]⟩) R { s with heap:=h,toks:=tk }:=by
 have nz:S≠z:=Xx B.z;have nO:S≠TO:=Xx B.TO;have n1:S≠i1:=Xx B.i1;have n2:S≠i2:=Xx B.i2;have RV:∀{a:Addr},S<a->a≠z/\a≠TO/\a≠i1/\a≠i2:=λh=>⟨Xx (Yt B.z h),Xx (Yt B.TO h),Xx (Yt B.i1 h),Xx (Yt B.i2 h)⟩
 intro k;induction k with
 |zero =>
  intro i h tk c acc as hk hi Z zO hS fR Mb hG;refine YE PySem.F.entry_extend_loop ?_;rw[Around.under_plainId PySem.F.plain_extend_loop _];show wpAny _ A.in1 (pyNext (.ref z) >>= _) _ _ _;have rg:xs[i]?=none\/ys[i]?=none:=by
   rcases Nat.le_total xs.size ys.size with q|q
   ·exact .inl (Array.getElem?_eq_none (by left))
   ·exact .inr (Array.getElem?_eq_none (by left))
  refine Xf (A2 (s:={ s with heap:=h,toks:=tk }) (A:=A.in1) hh B Z rg λh' he=>?_);refine Xg (hR h' tk acc c as (λb o h1 h2 h3 h4 h5 e=>he b o h2 h3 h4 h5 (zO b o h1 h2 h3 h4 h5 e)) (he S _ nz nO n1 n2 hS) (by left) ⟨hG.above,hG.nd,λj a hj=>?_⟩ fR);obtain⟨x,y,e1,e2,e3⟩:=hG.pairs j a hj;obtain⟨a1,a2,a3,a4⟩:=RV (hG.above a (Xw hj));exact⟨x,y,e1,e2,he a _ a1 a2 a3 a4 e3⟩
 |succ k ih =>
  intro i h tk c acc as hk hi Z zO hS fR Mb hG;have b9:i<min xs.size ys.size:=by left
  have hx:xs[i]?=some (xs[i]'(by left)):=Yf _;have hy:ys[i]?=some (ys[i]'(by left)):=Yf _;have hsz:acc.size=i:=by rw[<- Array.length_toList,fR,List.length_map,Mb]
  have QK:S<h.objs.size:=Xk hS;refine YE PySem.F.entry_extend_loop ?_;rw[Around.under_plainId PySem.F.plain_extend_loop _];show wpAny _ A.in1 (pyNext (.ref z) >>= _) _ _ _;refine Xf (AZ (s:={ s with heap:=h,toks:=tk }) B Z QK hx hy λh' Z' ht hz Jk=>?_);dsimp only at ht hz Jk ⊢;have xc:=Jk S _ nz nO n1 n2 hS;have up:∀b o,b≠S->h'.get? b=some o->(h'.update S (Obj.mapSeq (·.push (Value.ref h.objs.size)))).get? b=some o:=λb o hb e=>(XQ _ _ (YB hb)).trans e;show wpAny _ A.in1 (updateSeq S (·.push (Value.ref h.objs.size)) >>= _) _ _ _;refine Xf ?_;refine Y6 xc rfl (Xg ⟨plainId_quiet PySem.F.plain_extend_loop _,ih (i+1) _ tk _ (acc.push (Value.ref h.objs.size)) (as++[h.objs.size]) (by left) b9 (Z'.keep B up)
   (λb o h1 h2 h3 h4 h5 e=>up b o h1 (Jk b o h2 h3 h4 h5 (zO b o h1 h2 h3 h4 h5 e))) (Yd _ xc rfl) (by rw[Array.toList_push,fR,List.map_append];rfl) (by rw[List.length_append,Mb];rfl) ⟨?_,?_,?_⟩⟩) (by rw[hsz];left) (by show(acc.push (Value.ref h.objs.size)).size<=sizeLine+1;rw[Array.size_push,hsz];left)
  ·intro a ha;rcases List.mem_append.mp ha with ha|ha
   ·exact hG.above a ha
   ·rw[List.mem_singleton.mp ha];exact QK
  ·refine List.nodup_append.mpr ⟨hG.nd,List.nodup_cons.mpr ⟨List.not_mem_nil,Yu⟩,λa ha b hb e=>?_⟩;rw[List.mem_singleton.mp hb]at e;subst e;obtain⟨j,hj⟩:=List.mem_iff_getElem?.mp ha;obtain⟨_,_,_,_,e⟩:=hG.pairs j _ hj;exact absurd (Xk e) (XA _)
  ·intro j b hj;rcases Nat.lt_trichotomy j as.length with q|q|q
   ·rw[List.getElem?_append_left q]at hj;obtain⟨x',y',e1,e2,e3⟩:=hG.pairs j b hj;have hb:=hG.above b (Xw hj);obtain⟨a1,a2,a3,a4⟩:=RV hb;exact⟨x',y',e1,e2,up b _ (Xx hb) (Jk b _ a1 a2 a3 a4 e3)⟩
   ·subst q;have hb:h.objs.size=b:=by simpa using hj
    subst hb;exact⟨_,_,by rw[Mb];exact hx,by rw[Mb];exact hy,up _ _ (Xx QK) ht⟩
   ·have LQ:(as++[h.objs.size])[j]?=none:=List.getElem?_eq_none (by rw[List.length_append,List.length_singleton];left);rw[LQ]at hj;exact nk hj
theorem vU(hh:A.handled=none)(B:Below z TI TO i1 i2 l1 l2 S)(hn:min xs.size ys.size<=sizeLine)(Z:Zl s.heap z TI TO i1 i2 l1 l2 S xs ys 0)(AK:IsZip s.heap z TI TO .none)(res:Value)(c₀:Nat)(hS:s.heap.get? S=some { cls:=.type "list",data:=.seq #[] c₀ })
  (hR:∀h' tk acc c as,(∀b o,b≠S->b≠z->b≠TO->b≠i1->b≠i2->s.heap.get? b=some o->h'.get? b=some o)->h'.get? S=some { cls:=.type "list",dict:=none,data:=.seq acc c,slots:=#[] }->as.length=min xs.size ys.size->M1 xs ys S h' as ->
   acc.toList=as.map Value.ref->R (.ok (.ret res)) { s with heap:=h',toks:=tk }) :
  wpAny (model prog w) A.in1 (Builtin.List.listExtendWith (.ref S) (.ref z) res)
   (λfin s'=>match fin with|.done f=>R (.ok f) s'|.again c'=>c'.quiet=true/\codeAny (model prog w) A c' R s') (λe s'=>R (.error e) s') s:=by
 have VP:S≠z:=Xx B.z;have hT:s.TypeIs (.ref z) "zip":=⟨_,AK,rfl⟩
 unfold Builtin.List.listExtendWith;refine Xf (wpAny_typeOf (T:="zip") hT ?_);have h1:Builtin.List.listSameRef (.ref S) (.ref z)=false:=by simp[Builtin.List.listSameRef,VP]
 have h2:(Value.type "zip" == Value.type "list")=false:=by decide
 have h3:(Value.type "zip" == Value.type "tuple")=false:=by decide
 simp only[h1,h2,h3,Bool.or_false,Bool.false_eq_true,if_false];refine Xf (wpAny_pyIter_zip AK ?_);refine Xf (XI (A1 hT ?_));refine wpAny_ite_split (λ_=>?_) (λw_=>absurd rfl w_);refine Xf (Yn ?_);refine Xf ?_;show wpAny _ _ (updateSeq S (·.push .none) >>= λ_=>updateSeq S (·.pop)) _ _ _;refine Xf (Y6 hS rfl ?_);have vd:=Yd (Obj.mapSeq (·.push Value.none)) hS rfl;refine Y6 (hz:=by seq_fits) vd rfl ?_;have Md:=Yd (Obj.mapSeq (·.pop)) vd rfl;have IT:∀b o,b≠S->s.heap.get? b=some o->((s.heap.update S (Obj.mapSeq (·.push Value.none))).update S (Obj.mapSeq (·.pop))).get? b=some o:=λb o hb e=>(XQ _ _ (YB hb)).trans ((XQ _ _ (YB hb)).trans e);refine Xg ⟨plainId_quiet PySem.F.plain_extend_loop _,?_⟩;exact AY hh B hn res (s:=s) (h₁:=s.heap) hR (min xs.size ys.size) 0 _ s.toks _ #[] [] (Nat.sub_zero _) (XH _) (Z.keep B IT) (λb o h1 _ _ _ _ e=>IT b o h1 e) Md rfl rfl ⟨(λ_ ha=>nomatch ha),Yu,λj a hj=>by simp at hj⟩
theorem A0(hh:A.handled=none)(B:Below z TI TO i1 i2 l1 l2 S)(hn:min xs.size ys.size<=sizeLine)(Z:Zl s.heap z TI TO i1 i2 l1 l2 S xs ys 0)(AK:IsZip s.heap z TI TO .none)(hS:s.heap.get? S=some { cls:=.type "list",data:=.seq #[] })
  (hR:∀h' tk acc c as,(∀b o,b≠S->b≠z->b≠TO->b≠i1->b≠i2->s.heap.get? b=some o->h'.get? b=some o)->h'.get? S=some { cls:=.type "list",dict:=none,data:=.seq acc c,slots:=#[] }->as.length=min xs.size ys.size->M1 xs ys S h' as ->
   acc.toList=as.map Value.ref->R (.ok (.ret .none)) { s with heap:=h',toks:=tk }) :
  wpAny (model prog w) A.in1 (Builtin.«list.__init__» ⟨[.ref S,.ref z],[]⟩)
   (λfin s'=>match fin with|.done f=>R (.ok f) s'|.again c'=>c'.quiet=true/\codeAny (model prog w) A c' R s') (λe s'=>R (.error e) s') s:=by
 show wpAny _ _ (do let old <- Builtin.List.listItems (.ref S);Builtin.List.listUpdate (.ref S) (λ_=>#[]);letGo old.toList.reverse;Builtin.List.listExtendWith (.ref S) (.ref z) .none) _ _ s;refine Xf ?_;unfold Builtin.List.listItems;refine Xf (wpAny_seqItems hS rfl (Xg ?_));show wpAny _ _ (updateSeq S (λ_=>#[]) >>= λ_=>letGo (#[]:aN).toList.reverse >>= λ_=>Builtin.List.listExtendWith (.ref S) (.ref z) .none) _ _ s;refine Xf (Y6 hS rfl ?_);have vd:=Yd (Obj.mapSeq (λ_=>(#[]:aN))) hS rfl;have IT:∀b o,b≠S->s.heap.get? b=some o->(s.heap.update S (Obj.mapSeq (λ_=>(#[]:aN)))).get? b=some o :=
  λb o hb e=>(XQ _ _ (YB hb)).trans e
 refine Xf (wpAny_letGo ?_);refine vU hh B hn (Z.keep B IT) (IT _ _ (Xt B.z) AK) .none _ vd λh' tk acc c as hk xc hl hG fR=>?_;exact hR h' tk acc c as (λb o h1 h2 h3 h4 h5 e=>hk b o h1 h2 h3 h4 h5 (IT b o h1 e)) xc hl hG fR
end
section
variable {prog:az}{w:World}{A:av}{E:aq}{s:Shared}{z TI TO i1 i2 l1 l2:Addr}{xs ys:aN}
theorem A3{Q:aq}(hh:A.handled=none)(D:ZipApart z TI TO i1 i2 l1 l2)(hn:min xs.size ys.size<=sizeLine)(hz:IsZip s.heap z TI TO .none)(AR:IsPair s.heap TI (.ref i1) (.ref i2)){a b:Value}(Jo:IsPair s.heap TO a b)(h1:s.heap.IsListIter i1 l1 0)(h2:s.heap.IsListIter i2 l2 0)(q1:s.heap.IsList l1 xs)(q2:s.heap.IsList l2 ys)
  (hQ:∀h' tk acc c as,(∀b o,b≠z->b≠TO->b≠i1->b≠i2->s.heap.get? b=some o->h'.get? b=some o)->h'.get? s.heap.objs.size=some { cls:=.type "list",dict:=none,data:=.seq acc c,slots:=#[] }->as.length=min xs.size ys.size->M1 xs ys s.heap.objs.size h' as ->
   acc.toList=as.map Value.ref->Q (.ref s.heap.objs.size) { s with heap:=h',toks:=tk }) :
  wpAny (model prog w) A (call (.type "list") [.ref z]) Q E s:=by
 refine callType_codes (Q₁:=λobj s₁=>obj=.ref s.heap.objs.size/\s₁={ s with heap:=s.heap.push { cls:=.type "list",data:=.seq #[] } }) PySem.F.called_list (PySem.F.typeCall_list_1 _) PySem.F.entry_list_init
  (code_list_new _ ⟨rfl,rfl⟩) λobj s₁ h₁=>?_
 obtain⟨rfl,rfl⟩:=h₁;have hS:(s.heap.push { cls:=.type "list",data:=.seq #[] }).get? s.heap.objs.size=some { cls:=.type "list",data:=.seq #[] }:=Xs _ rfl;have up:∀b o,s.heap.get? b=some o->(s.heap.push { cls:=.type "list",data:=.seq #[] }).get? b=some o:=λb o e=>Xj _ e;have B:Below z TI TO i1 i2 l1 l2 s.heap.objs.size:=⟨D,Xk hz,Xk AR,Xk Jo,(by obtain⟨_,e,_⟩:=h1;exact Xk e),(by obtain⟨_,e,_⟩:=h2;exact Xk e),(by obtain⟨_,e,_⟩:=q1;exact Xk e),(by obtain⟨_,e,_⟩:=q2;exact Xk e)⟩
 refine⟨⟨_,hS,rfl⟩,PySem.F.args_list_init_2 _ _,A0 (A:=A.in1) hh B hn ⟨.inl ⟨up _ _ hz,a,b,up _ _ Jo⟩,up _ _ AR,h1.at λo e=>up _ o e,h2.at λo e=>up _ o e,q1.at λo e=>up _ o e,q2.at λo e=>up _ o e⟩ (up _ _ hz) hS λh' tk acc c as hk xc hl hG fR=>?_⟩;exact⟨rfl,hQ h' tk acc c as (λb o h2 h3 h4 h5 e=>hk b o (Xt (Xk e)) h2 h3 h4 h5 (up b o e)) xc hl hG fR⟩
end
theorem Inv.Lv{pins:ah}{H:Hp}{s:Shared}(I:Inv X pins σ H s)(k:∀b u,s.heap.get? b=some u->h'.get? b=some u)(up:∀b u,H b=some u->H' b=some u)
  (nw:∀b u,H' b=some u->H b=some u\/(s.heap.objs.size<=b/\b8 X.prog X.w H' h' b u)):Inv X pins σ H' { s with heap:=h',toks:=t' }:=by
 refine I.step (g':=s.gens) (d':=s.drawn) (ch:=[]) (λb hb=>nomatch hb) (λb o _ _ _ e _=>k b o e) (λb o _ _ _ e _=>⟨o.slots,k b o e⟩) (λb u _ e n=>?_)
  (λb o _ e=>⟨o,k b o e⟩) (λ_ _ e=>up _ _ e) (λ_ _ _ e=>up _ _ e) (λb ps e=>⟨#[],by rw[up _ _ e];simp⟩) (λm hm=>?_) (λb u e=>?_) I.bare
 ·cases q:H' b with
  |none=>rfl
  |some v =>
   rcases nw b v q with z|⟨z,_⟩
   ·rw[n]at z;exact nk z
   ·exact absurd (Xk e) (Nat.not_lt.mpr z)
 ·obtain⟨o,es,ep,ho,r⟩:=hm;exact⟨o,es,ep,k _ o ho,r⟩
 ·rcases nw b u e with e|⟨_,e⟩
  ·exact(I.cq b u e).i5 (λc v _ q=>k c v q) (λ_ q=>up _ _ q) λ_ _ q=>up _ _ q
  ·exact e
def mX(H:Hp):List (Addr×V×V)->Hp
 |[]=>H
 |q::r=>upd (mX H r) q.1 (.tup [q.2.1,q.2.2])
theorem jc{H:Hp}{b:Addr}{u:HO}(e:H b=some u):∀{r:List (Addr×V×V)},(∀q∈r,H q.1=none)->mX H r b=some u
 |[],_=>e
 |q::r,h=>by
  have hn:b≠q.1:=λz=>by rw[z,h q List.mem_cons_self]at e;cases e
  show upd (mX H r) q.1 _ b=_;rw[aQ hn];exact jc e λq hq=>h q (Xm _ hq)
theorem uV{H:Hp}:∀{r:List (Addr×V×V)},(r.map (·.1)).Nodup->∀q∈r,mX H r q.1=some (.tup [q.2.1,q.2.2])
 |[],_,_,h=>nomatch h
 |q'::r,hn,q,h=>by
  show upd (mX H r) q'.1 _ q.1=_;have zM:=List.nodup_cons.mp hn;rcases List.mem_cons.mp h with rfl|h
  ·exact aT
  ·have:q.1≠q'.1:=λz=>zM.1 (by show q'.1∈_;rw[<- z];exact XM h);rw[aQ this];exact uV zM.2 q h
theorem qU{H:Hp}{b:Addr}{u:HO}:∀{r:List (Addr×V×V)},mX H r b=some u->H b=some u\/∃q∈r,q.1=b/\u=.tup [q.2.1,q.2.2]
 |[],e=>.inl e
 |q::r,e=>by
  replace e:upd (mX H r) q.1 (.tup [q.2.1,q.2.2]) b=some u:=e;by_cases z:b=q.1
  ·subst z;rw[aT]at e;cases e;exact .inr ⟨q,Xo,rfl,rfl⟩
  ·rw[aQ z]at e;rcases qU e with h|⟨q',h1,h2⟩
   ·exact .inl h
   ·exact .inr ⟨q',Xm _ h1,h2⟩
def Uq(K:ai)(ta:TA):TE:=λσ H Q=>ta σ H λvs H1=>∃a b xs ys,vs=[.ref a,.ref b]/\cI K H1 a xs/\cI K H1 b ys /\
 ∀(l:Addr) (r:List (Addr×V×V)),H1 l=none->(∀q∈r,H1 q.1=none)->(r.map (·.1)).Nodup->l∉r.map (·.1)->r.map (·.2)=xs.zip ys->Q (.ref l) (upd (mX H1 r) l (.lst (r.map λq=>V.ref q.1)))
theorem BV{p:Pos}(hc:X.calm=true)(Qx:Gl X "list")(Vt:X.mg "list" = none)(hg:Gl X "zip")(hm:X.mg "zip" = none)(ha:PA X [e1,e2] ta)(hs:∀es,starEach (e1::es) X.env=(false,eval e1 X.env)::starEach es X.env)(wR:∀es,starEach (e2::es) X.env=(false,eval e2 X.env)::starEach es X.env):
  PE X (.Call (.Name "list" p') [.Call (.Name "zip" p) [e1,e2] [] pos] [] pos') (Uq X.K ta):=by
 intro pins s σ H Q I h;refine X_ (eJ I Qx Vt boot_list ?_);refine XC ?_;show wpAny _ _ (spliced ((false,eval (.Call (.Name "zip" p) [e1,e2] [] pos) X.env)::backTo pos' (starEach [] X.env))) _ _ s;refine Zi ?_;refine Call_ (eJ I hg hm boot_zip (XC (cJ (ha pos pins s σ H _ I h) λus s1 bH=>?_) (hs _) (by rw[wR];rfl)));obtain⟨vs,H1,I1,r1,q1⟩:=bH;obtain⟨a,b,xs,ys,e,q1,q2,hq⟩:=q1;subst e;obtain⟨u,v,rfl,ru,rv⟩:=vals2 r1;cases ru;cases rv;obtain⟨aH,rx,p1,SF⟩:=I1.list q1;obtain⟨its',ry,p2,NG⟩:=I1.list q2;refine call_zip_2 p1.isList p2.isList λh' z t o l1 l2 sz k=>Zn ?_;have AN:h'.IsList a aH.toArray:=p1.isList.at λo e=>k _ o e;have xJ:h'.IsList b its'.toArray:=p2.isList.at λo e=>k _ o e;have cls:∀{x y:Addr} {o u:Obj},h'.get? x=some o->h'.get? y=some u->o.cls≠u.cls->x≠y:=λh1 h2 h3=>cB h1 h2 h3;have al:@LT.lt Nat _ a s1.heap.objs.size:=by obtain⟨_,e,_⟩:=p1.isList;exact Xk e
 have bl:@LT.lt Nat _ b s1.heap.objs.size:=by obtain⟨_,e,_⟩:=p2.isList;exact Xk e
 have D:ZipApart (s1.heap.objs.size+4) (s1.heap.objs.size+2) (s1.heap.objs.size+3) s1.heap.objs.size (s1.heap.objs.size+1) a b:=by
  constructor<;>first|exact Xt (by left)|exact Xx (by left)
 have lx:=rx.length;have ly:=ry.length;have hn:min aH.toArray.size its'.toArray.size<=sizeLine:=by simp;left
 refine A3 (s:={ s1 with heap:=h' }) (I1.ok.hd hc) D hn z t o l1 l2 AN xJ λV6 tk acc c as hk hS hl hG fR=>?_;dsimp only at hk hS hG ⊢;have hlen:as.length=(xs.zip ys).length:=by rw[hl,List.length_zip];simp;left
 have keep:∀b o,s1.heap.get? b=some o->V6.get? b=some o:=λb o e=>by
  have:@LT.lt Nat _ b s1.heap.objs.size:=Xk e;exact hk b o (Xt (by left)) (Xt (by left)) (Xt (by left)) (Xt (by left)) (k b o e)
 have fresh:∀c,s1.heap.objs.size<=c->H1 c=none:=λc h=>I1.cq.fresh h;have Xb:h'.objs.size=s1.heap.objs.size+5:=sz
 let r:List (Addr×V×V):=as.zip (xs.zip ys)
 have r1:r.map (·.1)=as:=List.map_fst_zip (by left);have r2:r.map (·.2)=xs.zip ys:=List.map_snd_zip (by left);have w_:∀c∈as,@LT.lt Nat _ h'.objs.size c:=hG.above;have P9:∀q∈r,H1 q.1=none:=λq hq=>fresh _ (by have:=w_ q.1 (by rw[<- r1];exact XM hq);left);have Jj:H1 h'.objs.size=none:=fresh _ (by left);have Ji:h'.objs.size∉r.map (·.1):=by rw[r1];exact λz=>absurd (w_ _ z) (XA _)
 have iU:(r.map (·.1)).Nodup:=by rw[r1];exact hG.nd
 have zN:(as.map V.ref)=r.map λq=>V.ref q.1:=by rw[<- r1,List.map_map];rfl
 refine⟨.ref h'.objs.size,upd (mX H1 r) h'.objs.size (.lst (r.map λq=>V.ref q.1)),?_,rfl,hq _ r Jj P9 iU Ji r2⟩;refine Inv.Lv (s:=s1) (t':=tk) I1 keep (λb u e=>?_) λb u e=>?_
 ·rw[aQ λz=>by rw[z,Jj]at e;cases e];exact jc e P9
 ·by_cases zb:b=h'.objs.size
  ·subst zb;rw[aT]at e;cases e;refine .inr ⟨by left,?_,acc.toList,c,?_,by rw[Array.toArray_toList];exact hS⟩
   ·rw[<- zN,List.length_map,hlen,List.length_zip];left
   ·rw[<- zN,fR];clear fR zN hG hl hlen r1 w_ iU r r2 P9 Ji hS hk keep;induction as with
    |nil=>exact .nil
    |cons a as ih=>exact .cons rfl ih
  ·rw[aQ zb]at e;rcases qU e with e|⟨q,hq,rfl,rfl⟩
   ·exact .inl e
   ·have hm:q.1∈as:=by rw[<- r1];exact XM hq
    refine .inr ⟨by have:=w_ _ hm;left,?_⟩;obtain⟨j,hj⟩:=List.mem_iff_getElem?.mp hq;have wX:as[j]?=some q.1/\(xs.zip ys)[j]?=some q.2:=by
     have:=List.getElem?_zip_eq_some.mp hj;exact this
    obtain⟨x,y,ex,ey,hp⟩:=hG.pairs j q.1 wX.1;obtain⟨e1,e2⟩:xs[j]?=some q.2.1/\ys[j]?=some q.2.2:=List.getElem?_zip_eq_some.mp wX.2;obtain⟨u1,P2,UK⟩:=rx.get e1;obtain⟨u2,Ve,ON⟩:=ry.get e2;rw[List.getElem?_toArray,P2]at ex;rw[List.getElem?_toArray,Ve]at ey;cases ex;cases ey;exact kE UK ON hp
noncomputable def pairD(x y:D):D:=.tup [x,y]
def Ll(xs:aa):O D:=match two xs with
 |some z=>match z.1 with
  |.lst _ a=>match z.2 with
   |.lst _ b=>ok (.lst .ow (aB bD (List.zipWith pairD a b)))
   |_=>none
  |_=>none
 |none=>none
theorem Gy{x y d:D}(h:Ll [x,y]=ok d):∃f a g b,x=.lst f a/\y=.lst g b/\d=.lst .ow (aB bD (List.zipWith pairD a b)):=by
 cases x<;>first|exact nk h | (cases h;done)|skip
 cases y<;>first|exact nk h | (cases h;done)|skip
 cases h;exact⟨_,_,_,_,rfl,rfl,rfl⟩
def vE(sc:Scope)(bl:ao)(e:Expr):Option (aw):=match dU e with
 |some z=>match one z.2 with
  |some i=>if z.1=("list" : Str)/\gM sc z.1=true/\z.1∈bl then gR sc bl i else none
  |none=>none
 |none=>none
theorem Av{sc:Scope}{bl:ao}{e:Expr}(h:vE sc bl e=some args):∃p pos i,e=.Call (.Name ("list" : Str) p) [i] [] pos/\gM sc ("list" : Str)=true/\("list" : Str)∈bl/\gR sc bl i=some args:=by
 unfold vE at h;cases hv:dU e with
 |none=>rw[hv]at h;exact nk h
 |some z =>
  obtain⟨x,as⟩:=z;rw[hv]at h;obtain⟨p,pos,rfl⟩:=cP hv;have h2:(match one as with|some i=>if x=("list" : Str)/\gM sc x=true/\x∈bl then gR sc bl i else none|none=>none)=some args:=h;clear h;cases hw:one as with
  |none=>rw[hw]at h2;exact nk h2
  |some a =>
   rw[hw]at h2;have h3:(if x=("list" : Str)/\gM sc x=true/\x∈bl then gR sc bl a else none)=some args:=h2;clear h2;obtain rfl:=cx hw;by_cases hc:x=("list" : Str)/\gM sc x=true/\x∈bl
   ·rw[if_pos hc]at h3;obtain⟨rfl,h1,h2⟩:=hc;exact⟨_,_,_,rfl,h1,h2,h3⟩
   ·rw[if_neg hc]at h3;cases h3
theorem qv{T:kC}{N:gu}(hN:∀k k' p xs f,N k p xs f->N k' p xs f):∀{r:List (Addr×V×V)} {xs ys:ae} {a b:aa} {k1 k2 k:bg} {n1 n2 n:Nat},aA T N k1 n1 xs a->aA T N k2 n2 ys b->r.map (·.2)=xs.zip ys->(∀q∈r,T q.1 [q.2.1,q.2.2])->aA T N k n (r.map λq=>V.ref q.1) (List.zipWith pairD a b)
 |[],xs,ys,a,b,_,_,_,_,_,_,r1,r2,e,_=>by
  have l1:=r1.length;have l2:=r2.length;have e':=X0 List.length e;rw[List.length_zip]at e';have:List.zipWith pairD a b=[]:=List.eq_nil_of_length_eq_zero (by rw[List.length_zipWith];simp at e';left);rw[this];exact .nil
 |q::r,xs,ys,a,b,k1,k2,k,n1,n2,n,r1,r2,e,ht=>by
  cases r1 with
  |nil=>cases e
  |cons h1 t1=>cases r2 with
   |nil=>cases e
   |cons h2 t2 =>
    have e1:q.2=(_,_):=(YW e).1;have e2:=(YW e).2;refine .cons (.tup (ht q Xo) ?_) (qv hN t1 t2 e2 λq hq=>ht q (Xm _ hq));rw[e1];have m1:=Rep.gH (T':=T) (N':=N) (g:=id) (λ_ _ h=>h) hN h1 (0::n::k);have m2:=Rep.gH (T':=T) (N':=N) (g:=id) (λ_ _ h=>h) hN h2 (1::n::k);rw[dA]at m1 m2;exact .cons m1 (.cons m2 .nil)
theorem eW(g:Fl->Fl):∀a b:aa,aB g (List.zipWith pairD a b)=List.zipWith pairD (aB g a) (aB g b)
 |[],_=>by cases ‹aa› <;> rfl
 |_::_,[]=>rfl
 |x::a,y::b=>by
  show aW g (pairD x y)::aB g (List.zipWith pairD a b)=_;rw[eW g a b];rfl
theorem Lj{n:Nat}(hΦ:Φ n=Ll){sc:Scope}{bl:ao}{k:Nat}(L:PX X sc bl k){e:Expr}(he:vE sc bl e=some args)(hs:lj X F Φ cs args):PE X e (tD X F Φ (.cL n cs))/\PT X e (f_ X F Φ (.cL n cs)):=by
 obtain⟨p,pos,i,rfl,h1,h2,hz⟩:=Av he;obtain⟨p',pos',a,b,rfl,rfl,h3,h4⟩:=n5 hz;obtain⟨⟨c,d,rfl,_,_⟩,pa,s1,s2⟩:=lL hs;have this:PE X (.Call (.Name ("list" : Str) p) [.Call (.Name ("zip" : Str) p') [a,b] [] pos'] [] pos) (tD X F Φ (.cL n [c,d])):=by
  refine PE.imp (BV L.calm (L.gl h1) (L.bl _ h2) (L.gl h3) (L.bl _ h4) pa s1 s2) λσ H Q hq=>?_;obtain⟨R,τ,ρ,d',Si,ev,hq⟩:=hq;obtain⟨xs,b6,ev⟩:=aE ev;rw[hΦ]at ev;refine⟨R,τ,ρ,xs,Si,b6,λvs H1 e1 r1=>?_⟩;obtain⟨τt,fr,rs⟩:=r1;have hl:∃x y,xs=[x,y]:=by
   unfold Ll at ev;cases hw:two xs with
   |none=>rw[hw]at ev;exact nk ev
   |some z=>exact⟨z.1,z.2,gx hw⟩
  obtain⟨x,y,rfl⟩:=hl;obtain⟨f,da,g,db,rfl,rfl,rfl⟩:=Gy ev;obtain⟨v,w,rfl,rx,ry⟩:=rs.two;cases rx with
  |lst hx ax=>cases ry with
   |lst hy ay =>
    refine⟨_,_,_,_,rfl,hx.sq,hy.sq,λl r hl hr hn Ji hz=>hq _ _ ?_ ?_⟩
    ·intro b o e;have e':=e1 b o e;rw[aQ λz=>by rw[z,hl]at e';cases e'];exact jc e' hr
    ·have sm:aF H1 (upd (mX H1 r) l (.lst (r.map λq=>V.ref q.1))):=λb o e=>by
      rw[aQ λz=>by rw[z,hl]at e;cases e];exact jc e hr
     refine bJ.oR (e1.free hl) (e1.trans sm) aT ?_;rw[eW];refine qv nd.l8 ((ax.dX Si fr (k':=[]) (n':=0)).imp (λ_ _ h=>aR.same sm h) λ_ _ _ _ h=>nd.same sm h) ((ay.dX Si fr (k':=[]) (n':=0)).imp (λ_ _ h=>aR.same sm h) λ_ _ _ _ h=>nd.same sm h) hz λq hq=>?_;have u_:q.1≠l:=λz=>Ji (by rw[<- z];exact XM hq);exact aR.of (by rw[aQ u_];exact uV hn q hq)
 exact⟨this,cw this λ_=>rfl⟩
theorem aA.EB{T:kC}{N:gu}{k:bg}:∀(j:Nat) {n:Nat} {vs:ae} {ds:aa},aA T N k n vs ds->aA T N k (n+j) (vs.drop j) (ds.drop j)
 |0,_,_,_,h=>h
 |j+1,_,_,_,.nil=>.nil
 |j+1,n,_,_,.cons h t=>by
  rw[show n+(j+1)=n+1+j by left];exact aA.EB j t
theorem aA.DS{T:kC}{N:gu}{k:bg}:∀(j:Nat) {n:Nat} {vs:ae} {ds:aa},aA T N k n vs ds->aA T N k n (vs.take j) (ds.take j)
 |0,_,_,_,_=>by rw[List.take_zero,List.take_zero];exact .nil
 |j+1,_,_,_,.nil=>.nil
 |j+1,n,_,_,.cons h t=>.cons h (aA.DS j t)
noncomputable def m8{α:Type}(b:Bool)(k:Nat)(xs:List α):List α:=if b then xs.drop k else xs.take k
def Kv(K:ai)(b:Bool):V->Option Int->Option Int->Hp->VK->Prop:=λx lo hi H Q=>∃(a:Addr) (xs:ae) (k:Nat),x=.ref a/\cI K H a xs/\lo=(if b then some (k:Int)else none)/\hi=(if b then none else some (k:Int))/\k<=xs.length/\∀p,H p=none->Q (.ref p) (upd H p (.lst (m8 b k xs)))
theorem ux(b:Bool):RH X (Kv X.K b):=by
 intro pins s σ H x v vl vu lo hi sl Q I rx hs pl pu h;obtain⟨a,xs,k,rfl,hx,rfl,rfl,hk,q⟩:=h;cases rx;obtain⟨aH,r,D7,hz⟩:=I.list hx;have hl:=cR D7;have hlen:aH.length=xs.length:=r.length.symm;refine⟨"list",_,slot_list_getitem.lookup,hl.typeIs,wpAny_getItem_list_slice hl hs pl pu .none (by simp) ?_ (by rw[List.size_toArray,hlen];exact hz)⟩;have e:slicePick aH.toArray (if b then some (k:Int)else none) (if b then none else some (k:Int)) none=(m8 b k aH).toArray:=by
  cases b with
  |true=>exact slicePick_from aH.toArray k (by simp;left)
  |false=>exact slicePick_upto aH.toArray k (by simp;left)
 have rc:Vals (m8 b k xs) (m8 b k aH):=by
  cases b with
  |true=>exact r.drop k
  |false=>exact r.take k
 have lc:(m8 b k xs).length<=xs.length:=by
  cases b with
  |true=>show(xs.drop k).length<=_;rw[List.length_drop];left
  |false=>show(xs.take k).length<=_;rw[List.length_take];left
 rw[e];exact⟨.ref s.heap.objs.size,_,I.GC (t':=s.toks) rc (XO lc hz),rfl,q _ I.fresh⟩
def cutD(b:Bool)(xs:aa):O D:=match two xs with
 |some z=>match z.1 with
  |.lst _ ds=>match z.2 with
   |.int k=>if 0<=k/\k<=ds.length then ok (.lst .ow (aB bD (m8 b k.toNat ds)))else none
   |_=>none
  |_=>none
 |none=>none
theorem Dk{b:Bool}{x y d:D}(h:cutD b [x,y]=ok d):∃(f:Fl) (ds:aa) (k:Nat),x=.lst f ds/\y=.int k/\k<=ds.length/\d=.lst .ow (aB bD (m8 b k ds)):=by
 cases x<;>first|exact nk h | (cases h;done) | (cases y<;>first|exact nk h | (cases h;done)|skip)
 obtain⟨⟨h1,h2⟩,h3⟩:=mY h;rename_i f ds k;exact⟨f,ds,k.toNat,rfl,by rw[Int.toNat_of_nonneg h1],by left,h3.symm⟩
noncomputable def Bj(b:Bool)(e:Expr):Option Expr:=match e with
 |.Slice lo hi st _=>match st with
  |none=>match b with
   |true=>match hi with
    |none=>lo
    |some _=>none
   |false=>match lo with
    |none=>hi
    |some _=>none
  |some _=>none
 |_=>none
theorem Bi{b:Bool}{e k:Expr}(h:Bj b e=some k):∃p,e=.Slice (if b then some k else none) (if b then none else some k) none p:=by
 cases e<;>first|exact nk h | (cases h;done)|skip
 rename_i lo hi st p;cases st with
 |some _=>cases h
 |none=>cases b with
  |true=>cases hi with
   |some _=>cases h
   |none=>cases h;exact⟨p,rfl⟩
  |false=>cases lo with
   |some _=>cases h
   |none=>cases h;exact⟨p,rfl⟩
def pG(b:Bool)(_:Scope)(_:ao)(e:Expr):Option (aw):=match jC e with
 |some z=>match Bj b z.2 with
  |some k=>some [z.1,k]
  |none=>none
 |none=>none
theorem xr{b:Bool}{sc:Scope}{bl:ao}{e:Expr}(h:pG b sc bl e=some args):∃a k p pos,e=.Subscript a (.Slice (if b then some k else none) (if b then none else some k) none p) pos/\args=[a,k]:=by
 unfold pG at h;cases hv:jC e with
 |none=>rw[hv]at h;exact nk h
 |some z =>
  obtain⟨a,s⟩:=z;rw[hv]at h;obtain⟨pos,rfl⟩:=i0 hv;have h:(match Bj b s with|some k=>some [a,k]|none=>none)=some args:=h;cases hw:Bj b s with
  |none=>rw[hw]at h;exact nk h
  |some k =>
   rw[hw]at h;cases h;obtain⟨p,rfl⟩:=Bi hw;exact⟨a,k,p,pos,rfl,rfl⟩
theorem Im{b:Bool}{n:Nat}(hΦ:Φ n=cutD b){sc:Scope}{bl:ao}{k:Nat}(L:PX X sc bl k){e:Expr}(he:pG b sc bl e=some args)(hs:lj X F Φ cs args):PE X e (tD X F Φ (.cL n cs))/\PT X e (f_ X F Φ (.cL n cs)):=by
 obtain⟨a,ke,p,pos,rfl,rfl⟩:=xr he;cases cs with
 |nil=>exact hs.elim
 |cons c cs=>cases cs with
  |nil=>exact hs.2.2.2.elim
  |cons c' cs=>cases cs with
   |cons _ _=>exact hs.2.2.2.2.2.2.elim
   |nil =>
    obtain⟨h1,_,_,h2,_,_,_⟩:=hs;have this:PE X (.Subscript a (.Slice (if b then some ke else none) (if b then none else some ke) none p) pos) (tD X F Φ (.cL n [c,c'])):=by
     have go:∀{tl th:TO},PO X (if b then some ke else none) tl->PO X (if b then none else some ke) th->(∀(H1:Hp) (R:af) (τ:Addr->Option bg) (ρ:aZ) (k:Nat) (σ:St) (Q:Option Int->Option Int->Hp->Prop),SI X F R τ ρ σ H1->bA Φ c' ρ=ok (.int k)->(∀H2,aF H1 H2->Q (if b then some (k:Int)else none) (if b then none else some (k:Int)) H2)->tl σ H1 λl H2=>th σ H2 λu H3=>Q l u H3)->PE X (.Subscript a (.Slice (if b then some ke else none) (if b then none else some ke) none p) pos) (tD X F Φ (.cL n [c,c'])):=by
      intro tl th pl pu hh;refine PE.imp (yT (ux b) h1 pl pu) λσ H Q hq=>?_;obtain⟨R,τ,ρ,d,Si,ev,hq⟩:=hq;obtain⟨xs,b6,ev⟩:=aE ev;obtain⟨x,ex,b6⟩:=aE b6;obtain⟨ys,rC,b6⟩:=aE b6;cases b6;obtain⟨y,ey,rC⟩:=aE rC;cases rC;rw[hΦ]at ev;obtain⟨f,ds,j,rfl,rfl,hj,rfl⟩:=Dk ev;refine tD.intro Si ex λv H1 e1 r1=>hh H1 R τ ρ j σ (λl u H3=>Kv X.K b v l u H3 Q) (Si.go e1) ey λH2 e2=>?_;have r2:=(r1.go e2).mono (fv':=h_ (.cL n [c,c'])) λi hi=>Xz _ hi;obtain⟨τt,fr,rp⟩:=r2;obtain⟨q,xs,rfl,hn,rs⟩:=rp.p4;have ee:=e1.trans e2;refine⟨q,xs,j,rfl,hn.sq,rfl,rfl,by rw[rs.length];exact hj,λl hl=>hq _ _ (ee.trans (aF.upd hl)) (bJ.oR (ee.free hl) (ee.trans (aF.upd hl)) aT ?_)⟩;have rc:∃n',aA (aR X.K H2) (nd X.K R (iL (gP X F) τ (h_ (.cL n [c,c']))) τt H2) [] n' (m8 b j xs) (m8 b j ds):=by
       cases b with
       |true=>exact⟨_,rs.EB j⟩
       |false=>exact⟨_,rs.DS j⟩
      obtain⟨n',rc⟩:=rc;exact(rc.dX Si fr).imp (λ_ _ h=>aR.same (aF.upd hl) h) λ_ _ _ _ h=>nd.same (aF.upd hl) h
     cases b with
     |true =>
      refine go (uE h2) uF λH1 R τ ρ k σ Q Si ek hk=>tD.intro Si ek λv H2 e2 r2=>?_;cases r2.isInt;exact⟨k,rfl,hk H2 e2⟩
     |false =>
      refine go uF (uE h2) λH1 R τ ρ k σ Q Si ek hk=>tD.intro Si ek λv H2 e2 r2=>?_;cases r2.isInt;exact⟨k,rfl,hk H2 e2⟩
    exact⟨this,cw this λ_=>by cases b<;>rfl⟩
section
open PySem.SeqAt
open PySem.AutoSeq1 (wpAny_loadPart')
open PySem.MeetsSeq PySem.MeetsSeq2 PySem.MeetsSeq3
theorem yG(A:av)(s:Shared)(a:Int)(t:Tok)(c:Int)(u:Tok)(prog:az)(w:World)(E:aq)(Q:aq)(h:Q (.bool (decide (a ≥ c))) s):wpAny (model prog w) A (richCompare .GtE (.int a t) (.int c u)) Q E s :=
 (PyProof.Rows.ge_int h:wpAny (model prog w) A (compareOp .GtE (.int a t) (.int c u)) Q E s)
theorem Cm{vs ws:ag}{ms:ab}{m n:Nat}(h1:IntsAre vs ns)(h2:IntsAre ws ms)(hz:vs.zip ws=[])(hl:ns.length+n=ms.length+m):(!HT.lexLt ns ms)=decide (m ≥ n):=by
 cases h1 with
 |nil=>cases h2 with
  |nil=>simp only[List.length_nil]at hl;exact(XU (by left)).symm
  |cons c u h=>simp only[List.length_nil,List.length_cons]at hl;exact(XY (by left)).symm
 |cons a t h=>cases h2 with
  |nil=>simp only[List.length_nil,List.length_cons]at hl;exact(XU (by left)).symm
  |cons c u h=>rw[List.zip_cons_cons]at hz;cases hz
theorem mM(l b:Addr)(items cN:aN)(n n2:Nat)(dd vz:Option Addr)(sl uy:Array (Option Value))(ns ms:ab)(hi:IntsAre items.toList ns)(hj:IntsAre cN.toList ms):
  Meets (Builtin.«tuple.__ge__» ⟨[.ref l,.ref b],[]⟩) (λ_ R s=>s.heap.get? l=some { cls:=.type "tuple",dict:=dd,data:=.seq items n,slots:=sl }/\s.heap.get? b=some { cls:=.type "tuple",dict:=vz,data:=.seq cN n2,slots:=uy }/\R (.ok (.ret (.bool (!HT.lexLt ns ms)))) s) :=
 .of_wp λprog w A R s h=>by
  obtain⟨hp,g,d,tk,os⟩:=s;obtain⟨hl,hb,h⟩:=h;have f2:=AutoSeq1.sub_tuple_tuple;have z1:items.size=ns.length:=by rw[<- hi.length];simp
  have z2:cN.size=ms.length:=by rw[<- hj.length];simp
  wp_walk using wpAny_loadPart' hl,wpAny_loadPart' hb,wpAny_forIn_list _ (λrest b s'=>b.1=none/\s'=⟨hp,g,d,tk,os⟩/\∃(vs ws:ag) (hZ qO:ab),rest=vs.zip ws/\IntsAre vs hZ/\IntsAre ws qO/\hZ.length+cN.size=qO.length+items.size/\R (.ok (.ret (.bool (!HT.lexLt hZ qO)))) ⟨hp,g,d,tk,os⟩) _
  case turn =>
   rintro ⟨y,x⟩ rest b s' ⟨m4,rfl,vs,ws,hZ,qO,hz,G4,El,hlen,hR⟩;cases G4 with
   |nil=>rw[List.zip_nil_left]at hz;cases hz
   |cons a t hvi'=>cases El with
    |nil=>rw[List.zip_nil_right]at hz;cases hz
    |cons c u hwi' =>
     rw[List.zip_cons_cons]at hz;injection hz with PR zJ
     injection PR with hy hx
     subst hy hx;rw[HT.cW]at hR;simp only[List.length_cons]at hlen;obtain⟨e,he,zP⟩:=HT.rF A.in1 ⟨hp,g,d,tk,os⟩ a t c u;refine Xf (he prog w _ _ ?_);cases e with
     |true =>
      rw[if_pos (zP.mp rfl)]at hR
      wp_walk
      exact⟨rfl,rfl,_,_,_,_,zJ,hvi',hwi',by left,hR⟩
     |false =>
      have sj:¬ a=c:=λq=>absurd (zP.mpr q) Xi;rw[if_neg sj,show(!decide (a<c))=decide (a ≥ c) by by_cases q:a<c<;>simp[q]<;>left]at hR;have P_:=yG A.in1 ⟨hp,g,d,tk,os⟩ a t c u prog w
      wp_walk using P_
      exact⟨_,rfl,by simpa using hR⟩
  case fin =>
   rintro ⟨b1,b2⟩ s' ⟨m4,rfl,vs,ws,hZ,qO,hz,G4,El,hlen,hR⟩;simp only at m4;subst m4;rw[Cm G4 El hz.symm hlen]at hR
   wp_walk
   exact⟨_,rfl,by simpa [Builtin.Tuple.tupleCompareSizes]using hR⟩
  case h=>exact⟨rfl,rfl,items.toList,cN.toList,ns,ms,rfl,hi,hj,by left,h⟩
end
def Ku(K:ai):R2:=λx y H Q=>∃a b ns ms,x=.ref a/\y=.ref b/\aR K H a (ns.map V.int)/\aR K H b (ms.map V.int)/\Q (.bl (!HT.lexLt ns ms)) H
theorem y3(hu:X.A.units<cLine):iN X (compareOp .GtE) (Ku X.K):=by
 intro pins s σ H x y v u Q I rx ry h;obtain⟨a,b,ns,ms,rfl,rfl,ha,hb,q⟩:=h;cases rx;cases ry;obtain⟨aH,r1,⟨⟨cls,dd,data,sl⟩,ho,hc,n,hd⟩,_⟩:=I.tuple ha;obtain⟨tw,r2,⟨⟨Dm,vz,data2,uy⟩,o4,hc2,n2,hd2⟩,_⟩:=I.tuple hb;simp only at hc hd hc2 hd2;subst hc hd hc2 hd2;exact richCompare_meets_room (op:=.GtE) ⟨_,ho,rfl⟩ ⟨_,o4,rfl⟩ PySem.F.slot_tuple_ge PySem.F.entry_tuple_ge (PySem.F.args_tuple_ge_2 _ _) (mM a b aH.toArray tw.toArray n n2 dd vz sl uy ns ms (intsAre_of r1) (intsAre_of r2))
  ⟨ho,o4,show Value.bool (!HT.lexLt ns ms)≠Value.notImplemented/\EP X pins σ Q (.bool (!HT.lexLt ns ms)) s from⟨(λx=>nomatch x),⟨.bl _,H,I,rfl,q⟩⟩⟩ hu
def Jq(xs:aa):O D:=match two xs with
 |some z=>match z.1 with
  |.tup a=>match z.2 with
   |.tup b=>match intsOf a with
    |some ns=>match intsOf b with
     |some ms=>ok (.bl (!HT.lexLt ns ms))
     |none=>none
    |none=>none
   |_=>none
  |_=>none
 |none=>none
theorem Hs{x y d:D}(h:Jq [x,y]=ok d):∃ns ms:ab,x=.tup (ns.map D.int)/\y=.tup (ms.map D.int)/\d=.bl (!HT.lexLt ns ms):=by
 cases x<;>first|exact nk h | (cases h;done) | (cases y<;>first|exact nk h | (cases h;done)|skip)
 rename_i a b;have h:(match intsOf a with|some ns=>(match intsOf b with|some ms=>ok (D.bl (!HT.lexLt ns ms))|none=>none)|none=>none)=ok d:=h;cases h1:intsOf a with
 |none=>rw[h1]at h;exact nk h
 |some ns=>cases h2:intsOf b with
  |none=>rw[h1,h2]at h;cases h
  |some ms =>
   rw[h1,h2]at h;cases h;exact⟨ns,ms,by rw[c_ h1],by rw[c_ h2],rfl⟩
def vF(_:Scope)(_:ao)(e:Expr):Option (aw):=match Bk e with
 |some z=>match one z.2.2 with
  |some r=>if z.2.1=[.GtE]then some [z.1,r]else none
  |none=>none
 |none=>none
theorem Aw{sc:Scope}{bl:ao}{e:Expr}(h:vF sc bl e=some args):∃l r p,e=.Compare l [.GtE] [r] p/\args=[l,r]:=by
 unfold vF at h;cases hv:Bk e with
 |none=>rw[hv]at h;exact nk h
 |some z =>
  obtain⟨l,os,rs⟩:=z;rw[hv]at h;obtain⟨p,rfl⟩:=uj hv;replace h:(match one rs with|some r=>if os=[.GtE]then some [l,r]else none|none=>none)=some args:=h;cases hw:one rs with
  |none=>rw[hw]at h;exact nk h
  |some r =>
   rw[hw]at h;replace h:(if os=[.GtE]then some [l,r]else none)=some args:=h;obtain rfl:=cx hw;by_cases hc:os=[.GtE]
   ·rw[if_pos hc]at h;cases h;subst hc;exact⟨l,r,p,rfl,rfl⟩
   ·rw[if_neg hc]at h;cases h
theorem Mn{n:Nat}(hΦ:Φ n=Jq){sc:Scope}{bl:ao}{k:Nat}(L:PX X sc bl k){e:Expr}(he:vF sc bl e=some args)(hs:lj X F Φ cs args):PE X e (tD X F Φ (.cL n cs))/\PT X e (f_ X F Φ (.cL n cs)):=by
 obtain⟨l,r,p,rfl,rfl⟩:=Aw he;have hu:X.A.units<cLine:=by have:=L.room.units;left
 cases cs with
 |nil=>exact hs.elim
 |cons c cs=>cases cs with
  |nil=>exact hs.2.2.2.elim
  |cons c' cs=>cases cs with
   |cons _ _=>exact hs.2.2.2.2.2.2.elim
   |nil =>
    obtain⟨h1,_,_,h2,_,_,_⟩:=hs;have key:∀{σ:St} {H:Hp} {R:af} {τ:Addr->Option bg} {ρ:aZ} {d:D} {Q:VK},SI X F R τ ρ σ H->bA Φ (.cL n [c,c']) ρ=ok d->(∀b H2,d=.bl b->aF H H2->Q (.bl b) H2)->DU (Ku X.K) (tD X F Φ c) (tD X F Φ c') σ H Q:=by
     intro σ H R τ ρ d Q Si ev hq;obtain⟨xs,b6,ev⟩:=aE ev;obtain⟨x,ex,b6⟩:=aE b6;obtain⟨ys,rC,b6⟩:=aE b6;cases b6;obtain⟨y,ey,rC⟩:=aE rC;cases rC;rw[hΦ]at ev;obtain⟨ns,ms,rfl,rfl,rfl⟩:=Hs ev;refine tD.intro Si ex λv H1 e1 r1=>tD.intro (Si.go e1) ey λu H2 e2 r2=>?_;obtain⟨_,_,p1⟩:=r1.go e2;obtain⟨_,_,p2⟩:=r2;cases p1 with
     |tup t1 s1=>cases p2 with
      |tup t2 s2 =>
       cases s1.ofInts;cases s2.ofInts;exact⟨_,_,ns,ms,rfl,rfl,t1,t2,hq _ H2 rfl (e1.trans e2)⟩
    refine⟨PE.imp (uK (y3 hu) h1 h2 (y8 _)) λσ H Q hq=>?_,PT.imp (uC (y3 hu) h1 h2 (y8 _)) λσ H Q hq=>?_⟩
    ·obtain⟨R,τ,ρ,d,Si,ev,hq⟩:=hq;exact key Si ev λb H2 e es=>hq _ H2 es (by subst e;exact .bl)
    ·obtain⟨R,τ,ρ,b,Si,ev,hq⟩:=hq;obtain⟨d,ed,et⟩:=aE ev;refine key Si ed λb' H2 e es=>?_;subst e;cases et;exact⟨_,rfl,hq H2 es⟩
end DI
end
section
namespace DI
open PySem PySem.Spec PyProof.Rows L2 PySem.W
section
end
structure Ord(lt:Nat->Nat->Bool)(n:Nat):Prop where
 tr:∀a b c,a<n->b<n->c<n->lt a b=true->lt b c=true->lt a c=true
 as:∀a b,a<n->b<n->lt a b=true->lt b a=false
 Uk:∀a b,a<n->b<n->a≠b->lt a b=true\/lt b a=true
structure Arr(p:Array Nat)(n:Nat):Prop where
 sz:p.size=n
 pm:p.toList.Perm (List.range n)
section
variable {lt:Nat->Nat->Bool}{n:Nat}{p:Array Nat}
theorem Arr.bd(h:Arr p n){i:Nat}(hi:i<n):p.getD i 0<n:=by
 have dj:i<p.size:=by rw[h.sz];exact hi
 have:p.getD i 0=p[i]:=by simp[Array.getD,dj]
 rw[this];have hm:p[i]∈p.toList:=Array.getElem_mem_toList dj;exact List.mem_range.mp (h.pm.mem_iff.mp hm)
def Up(lt:Nat->Nat->Bool)(p:Array Nat)(k:Nat):Prop:=∀i j,i<j->j<k->lt (p.getD i 0) (p.getD j 0)=true
end
end DI
end
section
namespace DI
open PySem PySem.Spec PyProof.Rows L2
def jS(h:Heap)(vs:ag)(nss:ak):Prop:=vs.length=nss.length/\∀(i:Nat) (ns:ab),nss[i]?=some ns->∃t aH,vs[i]?=some (.ref t)/\IsTup h t aH.toArray/\IntsAre aH ns
variable {nss:ak}{vs:ag}
theorem jS.mono{h h':Heap}(k:∀b o,h.get? b=some o->h'.get? b=some o)(t:jS h vs nss):jS h' vs nss :=
 ⟨t.1,λi ns e=>let ⟨a,aH,e1,⟨o,ho,r⟩,e3⟩:=t.2 i ns e;⟨a,aH,e1,⟨o,k _ _ ho,r⟩,e3⟩⟩
theorem jS.mem{h:Heap}(t:jS h vs nss){v:Value}(hv:v∈vs):∃a aH ns,v=.ref a/\IsTup h a aH.toArray/\IntsAre aH ns:=by
 obtain⟨i,hi⟩:=List.mem_iff_getElem?.mp hv;have hl:i<nss.length:=by rw[<- t.1];exact(List.getElem?_eq_some_iff.mp hi).1
 obtain⟨a,aH,e1,e2,e3⟩:=t.2 i _ (Xq hl);rw[hi]at e1;cases e1;exact⟨a,aH,_,rfl,e2,e3⟩
section
variable {prog:az}{w:World}{A:av}{E:aq}{s:Shared}
theorem me:∀{vs:ag} {nss:ak} {Q:List (Option Value)->Shared->Prop},jS s.heap vs nss->(∀fs:List (Option Value),fs.length=vs.length->(∀f∈fs,∀v,f=some v->∃n t,v=.int n t)->Q fs s)->wpAny (model prog w) A (vs.mapM firstOfTuple') Q E s
 |[],_,_,_,h=>by rw[List.mapM_nil];exact Xg (h [] rfl λ_ h=>nomatch h)
 |v::vs,[],_,t,_=>by have:=t.1;simp at this
 |v::vs,ns::nss,Q,t,h=>by
  obtain⟨a,aH,e,⟨o,ho,hc,n,hd⟩,hi⟩:=t.2 0 ns rfl;cases e;rw[List.mapM_cons];refine Xf ?_;rw[PySem.W.kas_first_eq];refine Xf (PySem.W.Looks.here (show PySem.W.Looks (model prog w) s.heap (typeOf (.ref a)) o.cls from(Zs ho).andThen .now) ?_);rw[hc,if_neg (by first|decide|simp)];refine Xf (listItems_at ho hd (Xg ?_));refine Xf (me (vs:=vs) (nss:=nss) ⟨by simpa using t.1,λi ms e=>t.2 (i+1) ms e⟩ λfs h1 h2=>Xg (h _ (by simp[h1]) λf hf v hv=>?_));rcases List.mem_cons.mp hf with rfl|hf
  ·cases hi with
   |nil=>simp at hv
   |cons a' tk hi=>simp at hv;exact⟨_,_,hv.symm⟩
  ·exact h2 f hf v hv
def AG(κ:SortKind):Prop:=κ=tuples' true\/κ=general'\/κ=oneType'
theorem kind_any{Q:SortKind->Shared->Prop}(t:jS s.heap vs nss)(sj:vs≠[])(h:∀κ,AG κ->Q κ s):wpAny (model prog w) A (keyKind' vs.toArray) Q E s:=by
 obtain⟨v0,vr,rfl⟩:∃v0 vr,vs=v0::vr:=by
  cases vs with
  |nil=>exact absurd rfl sj
  |cons v0 vr=>exact⟨v0,vr,rfl⟩
 rw[kat_kind_eq,List.mapM_toArray,map_eq_pure_bind];refine Xf (Xf (me t λfs hl hf=>Xg ?_));by_cases ha:(fs.toArray.all λx=>x.isSome)=true
 ·rw[if_pos ha];refine Xf (Yn ?_);obtain⟨gs,hg,hgi⟩:∃gs:ag,fs=gs.map some/\∀v∈gs,∃n t,v=.int n t:=by
   clear h hl t;induction fs with
   |nil=>exact⟨[],rfl,λ_ h=>nomatch h⟩
   |cons f fs ih =>
    simp only[List.all_toArray,List.all_cons,Bool.and_eq_true]at ha;obtain⟨gs,e1,e2⟩:=ih (λf VC=>hf f (Xm _ VC)) (by simpa using ha.2);cases f with
    |none=>simp at ha
    |some v =>
     exact⟨v::gs,by rw[e1];rfl,λu hu=>by
      rcases List.mem_cons.mp hu with rfl|hu
      ·exact hf _ Xo _ rfl
      ·exact e2 u hu⟩
  subst hg;obtain⟨g0,gr,rfl⟩:∃g0 gr,gs=g0::gr:=by
   cases gs with
   |nil=>simp at hl
   |cons a b=>exact⟨a,b,rfl⟩
  have VA:(((g0::gr).map some).toArray.filterMap id)=(g0::gr).toArray:=by simp
  rw[VA,oneTypeOnly'_eq,List.mapM_toArray,map_eq_pure_bind];refine Xf (Xf (Xf (PySem.W.kas_mapM (r:=Value.type "int") _ (λv hv Q' hq=>by
   obtain⟨n,t,rfl⟩:=hgi v hv;exact(PySem.W.Looks.of_pure (M:=model prog w) rfl).here hq) (Xg ?_))))
  have zZ:((List.map (λ_=>Value.type "int") (g0::gr)).toArray.all λx=>x==Value.type "int")=true:=by
   simp only[List.all_toArray,List.all_map,List.all_eq_true];intro _ _;show(Value.type "int" == Value.type "int")=true;decide
  have h0:(List.map (λ_=>Value.type "int") (g0::gr)).toArray[0]?=some (Value.type "int"):=by simp
  rw[h0];simp only[zZ,if_true];exact Xg (Xg (h _ (.inl rfl)))
 ·rw[if_neg ha];by_cases hb:((fs.toArray[0]?.bind id).isSome)=true
  ·rw[if_pos hb];exact Xg (h _ (.inr (.inl rfl)))
  ·rw[if_neg hb];rw[oneTypeOnly'_eq,List.mapM_toArray,map_eq_pure_bind];refine Xf (Xf (Xf (PySem.W.kas_mapM (r:=Value.type "tuple") _ (λv hv Q' hq=>by
    obtain⟨a,aH,ns,rfl,⟨o,ho,hc,_⟩,_⟩:=t.mem hv;refine PySem.W.Looks.here (show PySem.W.Looks (model prog w) s.heap (typeOf (.ref a)) o.cls from(Zs ho).andThen .now) ?_;rw[hc];exact hq) (Xg ?_))))
   have zZ:((List.map (λ_=>Value.type "tuple") (v0::vr)).toArray.all λx=>x==Value.type "tuple")=true:=by
    simp only[List.all_toArray,List.all_map,List.all_eq_true];intro _ _;show(Value.type "tuple" == Value.type "tuple")=true;decide
   have h0:(List.map (λ_=>Value.type "tuple") (v0::vr)).toArray[0]?=some (Value.type "tuple"):=by simp
   rw[h0];simp only[zZ,if_true];exact Xg (Xg (h _ (.inr (.inr rfl))))
theorem Gz{κ:SortKind}(hk:AG κ)(hu:A.units<cLine){a b:Addr}{aH kn:ag}{ns ms:ab}{Q:Bool->Shared->Prop}(ha:IsTup s.heap a aH.toArray)(hb:IsTup s.heap b kn.toArray)(hi:IntsAre aH ns)(hj:IntsAre kn ms)(h:Q (HT.lexLt ns ms) s):
  wpAny (model prog w) A (keyLt' κ (.ref a) (.ref b)) Q E s:=by
 rcases hk with rfl|rfl|rfl
 ·obtain⟨o,ho,_,n,hd⟩:=ha;obtain⟨o',fB,_,n',He⟩:=hb;exact PySem.W.kat_lt ho hd fB He (qS 0 hi hj (by simp) h)
 ·exact Zv _ _ (HT.lR ha hb (by simpa using hi) (by simpa using hj) hu h)
 ·show wpAny (model prog w) A (oneLt' true (.ref a) (.ref b)) Q E s;rw[oneLt'_eq];simp only[if_true];refine Xf (wpAny_cRoomFor hu ?_);obtain⟨⟨cls,dd,data,sl⟩,ho,hc,n,hd⟩:=id ha;obtain⟨⟨Dm,vz,data2,uy⟩,o4,hc2,n2,hd2⟩:=id hb;simp only at hc hd hc2 hd2;subst hc hd hc2 hd2;refine Xf (wpAny_callSpecialIfBound?_slot (name:=Str.ofString "__lt__") ⟨_,ho,rfl⟩ YZ (Yy YZ ⟨_,ho,rfl⟩ PySem.F.entry_tuple_lt (PySem.F.args_tuple_lt_2 _ _) (HT.ig a b _ _ n n2 dd vz sl uy ns ms (by simpa using hi) (by simpa using hj)) ⟨ho,o4,?_⟩));exact X5 h
end
def iM(h:Heap)(d:Addr)(es:Array DictEntry)(ep:Nat):Prop:=∃o,h.get? d=some o/\o.ExactDict/\o.data=.dict es ep
section
variable {prog:az}{w:World}{A:av}{E:aq}{s:Shared}{d it:Addr}{es:Array DictEntry}{ep i:Nat}
theorem iM.typeIs(h:iM s.heap d es ep):s.TypeIs (.ref d) "dict":=let ⟨o,ho,hx,_⟩:=h;⟨o,ho,hx.1⟩
theorem Dc{Q:aq}(hd:(d==sysModules)=false)(hm:iM s.heap d es ep)
  (hQ:Q (.ref s.heap.objs.size) { s with heap:=s.heap.push { cls:=.type "dict_keyiterator",data:=.fields #[.ref d,.int 0 0,.int es.size 0,.int ep 0] } }):wpAny (model prog w) A (pyIter (.ref d)) Q E s:=by
 have hT:=hm.typeIs;obtain⟨o,ho,hx,zT⟩:=hm;refine Zp hT PySem.F.slot_dict_iter (XG PySem.F.slot_dict_iter hT PySem.F.entry_dict_iter ?_ (PySem.F.args_dict_iter_1 _));unfold Builtin.«dict.__iter__» Builtin.Dict.dictSlotNone;refine Xf (Xf (wpAny_notOrdered_dict hT (Xg ?_)));show wpAny _ _ (Builtin.Dict.showsAll d >>= _) _ _ s;unfold Builtin.Dict.showsAll;rw[if_neg (by rw[hd];exact Bool.false_ne_true)];refine Xf (Xg (Xf (Ye ho zT (Xf (Yp ho zT ?_)))));exact Xf (XR (Xg ⟨_,rfl,"dict_keyiterator",_,⟨_,Xs _ rfl,rfl⟩,PySem.F.slot_dict_keyiterator_next.lookup,hQ⟩))
theorem C_{Q:Option Value->Shared->Prop}(hit:s.heap.IsKeyIter it d i es.size ep)(hm:iM s.heap d es ep)(b9:i<es.size)
  (hQ:∀h',h'.IsKeyIter it d (i+1) es.size ep->Heap.SameBut it s.heap h'->Q (some es[i].key) { s with heap:=h' }):wpAny (model prog w) A (pyNext (.ref it)) Q E s:=by
 obtain⟨o,ho,hc,hd⟩:=id hit;obtain⟨od,zK,w5,zS⟩:=hm;unfold pyNext;refine Xf (Ym (XW (name:=Str.ofString "__next__") hit.typeIs XX (XG XX hit.typeIs PySem.F.entry_dict_keyiterator_next ?_ (PySem.F.args_dict_keyiterator_next_1 _))));refine Xf (Xg (Xf (Xf ?_)))
 first|refine Xf (X6 hit.typeIs (Xg ?_))|refine Xf (Yj hit.typeIs (Xg ?_))
 refine Xf (Zg ho hd ?_);simp only[show Builtin.Dict_items.ownsTuple "dict_keyiterator" = false by decide,Bool.false_eq_true,if_false];show wpAny _ _ (if (Value.ref d==Value.none)=true then _ else _) _ _ s;rw[if_neg (show ¬ ((Value.ref d==Value.none)=true) from Bool.false_ne_true)];refine Xf (Xg (Xf (Ye zK zS ?_)));rw[if_neg (by simp)];refine Xf (Xg (Xf (Yp zK zS ?_)));rw[if_neg (by simp)];refine Xg ?_;simp only[show ¬ ((i:Int)<0) from by left,if_false,Int.toNat_natCast,Array.getElem?_eq_getElem b9];refine Xf ?_
 first|refine Xf (X6 hit.typeIs (Xg ?_))|refine Xf (Yj hit.typeIs (Xg ?_))
 refine Xf (wpAny_isOneOf_keyiter hit.typeIs ?_);show wpAny _ _ (setField (.ref it) 1 (rawInt ((i:Int)+1)) >>= _) _ _ s;refine Xf (wpAny_setField ho hd (by simp) ?_);have CA:(s.heap.update it (Obj.mapFields (·.setIfInBounds 1 (rawInt ((i:Int)+1))))).IsKeyIter it d (i+1) es.size ep :=
  ⟨_,Yd _ ho (Obj.isFreed_of_fields (Obj.data_mapFields hd _)),(Obj.cls_mapFields ..).trans hc,by rw[Obj.data_mapFields hd];simp[rawInt]⟩
 refine Xf (XI (Xf (wpAny_isOneOf_keyiter (s:={ s with heap:=s.heap.update it (Obj.mapFields (·.setIfInBounds 1 (rawInt ((i:Int)+1)))) }) CA.typeIs ?_)));show wpAny _ _ (pure es[i].key) _ _ _;exact Xg (Xg ⟨_,rfl,Xg (hQ _ CA (Ze ..))⟩)
theorem Ii{Q:Option Value->Shared->Prop}(hh:A.handled=none)(hit:s.heap.IsKeyIter it d i es.size ep)(hm:iM s.heap d es ep)(CB:es.size<=i)
  (hQ:∀h',Heap.ExtBut it s.heap h'->Q none { s with heap:=h' }):wpAny (model prog w) A (pyNext (.ref it)) Q E s:=by
 obtain⟨o,ho,hc,hd⟩:=id hit;obtain⟨od,zK,w5,zS⟩:=hm;unfold pyNext;refine Xf (Ym (XW (name:=Str.ofString "__next__") hit.typeIs XX (XG XX hit.typeIs PySem.F.entry_dict_keyiterator_next ?_ (PySem.F.args_dict_keyiterator_next_1 _))));refine Xf (Xg (Xf (Xf ?_)))
 first|refine Xf (X6 hit.typeIs (Xg ?_))|refine Xf (Yj hit.typeIs (Xg ?_))
 refine Xf (Zg ho hd ?_);simp only[show Builtin.Dict_items.ownsTuple "dict_keyiterator" = false by decide,Bool.false_eq_true,if_false];show wpAny _ _ (if (Value.ref d==Value.none)=true then _ else _) _ _ s;rw[if_neg (show ¬ ((Value.ref d==Value.none)=true) from Bool.false_ne_true)];refine Xf (Xg (Xf (Ye zK zS ?_)));rw[if_neg (by simp)];refine Xf (Xg (Xf (Yp zK zS ?_)));rw[if_neg (by simp)];refine Xg ?_;simp only[show ¬ ((i:Int)<0) from by left,if_false,Int.toNat_natCast,Array.getElem?_eq_none CB];refine Xf ?_
 first|refine Xf (X6 hit.typeIs (Xg ?_))|refine Xf (Yj hit.typeIs (Xg ?_))
 show wpAny _ _ (setField (.ref it) 0 .none >>= _) _ _ s;refine Xf (wpAny_setField ho hd (by simp) ?_);show wpAny _ _ (newExc (.type "StopIteration") [] >>= _) _ _ _;refine Xf ?_;simp only[newExc,newTuple];refine Xf (XR ?_ (by size_fits));refine Xf (m:=firstArgMember _ _) (wpAny_of_eq (a:=Value.none) (by first|rfl | (simp only[firstArgMember];rfl)) ?_);refine XR ?_ (by size_fits);simp only[raiseNew];refine Xf (wpAny_handled ?_);rw[show A.in1.handled=none from hh];refine Xf (Xg (wpAny_throw ?_));refine Xf (wpAny_isInstance (T:="StopIteration") (b:=true) ⟨_,Xs _ rfl,rfl⟩ isSubtype_stop ?_);exact Xg (hQ _ (((Ze ..).extBut.push _).push _))
end
theorem zq:∀a b c:ab,HT.lexLt a b=true->HT.lexLt b c=true->HT.lexLt a c=true
 |[],[],_,h,_=>by rw[HT.ip]at h;cases h
 |[],_::_,[],_,h=>by rw[HT.cy]at h;cases h
 |[],_::_,_::_,_,_=>rfl
 |_::_,[],_,h,_=>by rw[HT.cy]at h;cases h
 |_::_,_::_,[],_,h=>by rw[HT.cy]at h;cases h
 |x::a,y::b,z::c,h1,h2=>by
  rw[HT.cW]at *;by_cases e1:x=y
  ·subst e1;rw[if_pos rfl]at h1;by_cases e2:x=z
   ·subst e2;rw[if_pos rfl]at h2 ⊢;exact zq a b c h1 h2
   ·rw[if_neg e2]at h2 ⊢;exact h2
  ·rw[if_neg e1]at h1;have l1:x<y:=Xh h1;by_cases e2:y=z
   ·subst e2;rw[if_neg (by left)];exact XU l1
   ·rw[if_neg e2]at h2;have l2:y<z:=Xh h2;rw[if_neg (by left)];exact XU (by left)
theorem jM:∀a b:ab,HT.lexLt a b=true->HT.lexLt b a=false
 |[],[],_=>rfl
 |[],_::_,_=>rfl
 |_::_,[],h=>by rw[HT.cy]at h;cases h
 |x::a,y::b,h=>by
  rw[HT.cW]at *;by_cases e:x=y
  ·subst e;rw[if_pos rfl]at h ⊢;exact jM a b h
  ·rw[if_neg e]at h;have l:x<y:=Xh h;rw[if_neg (by left)];exact XY (by left)
theorem oY:∀a b:ab,a≠b->HT.lexLt a b=true\/HT.lexLt b a=true
 |[],[],h=>absurd rfl h
 |[],_::_,_=>.inl rfl
 |_::_,[],_=>.inr rfl
 |x::a,y::b,h=>by
  rw[HT.cW,HT.cW];by_cases e:x=y
  ·subst e;rw[if_pos rfl,if_pos rfl];exact oY a b λz=>h (by rw[z])
  ·rw[if_neg e,if_neg (Ne.symm e)];rcases Int.lt_or_gt_of_ne e with l|l
   ·exact .inl (XU l)
   ·exact .inr (XU l)
def aX(nss:ak):ak:=nss.mergeSort λa b=>!HT.lexLt b a
def ud(nss:ak):Prop:=nss.Pairwise λa b=>HT.lexLt a b=true
theorem uB:∀{l m:ak},ud l->ud m->l.Perm m->l=m
 |[],m,_,_,p=>(List.perm_nil.mp p.symm).symm
 |a::l,[],_,_,p=>by have:=p.length_eq;simp at this
 |a::l,b::m,h1,h2,p=>by
  have e:a=b:=by
   have ha:a∈b::m:=p.mem_iff.mp Xo;have hb:b∈a::l:=p.mem_iff.mpr Xo;rcases List.mem_cons.mp ha with e|ha
   ·exact e
   ·rcases List.mem_cons.mp hb with e|hb
    ·exact e.symm
    ·have l1:=(List.pairwise_cons.mp h2).1 a ha;have l2:=(List.pairwise_cons.mp h1).1 b hb;rw[jM _ _ l1]at l2;cases l2
  subst e;rw[uB (List.pairwise_cons.mp h1).2 (List.pairwise_cons.mp h2).2 (List.perm_cons a |>.mp p)]
theorem eG(h:nss.Nodup):ud (aX nss):=by
 have p:(aX nss).Perm nss:=XB _ _;have nd:(aX nss).Nodup:=p.nodup_iff.mpr h;have sd:(aX nss).Pairwise λa b=>(!HT.lexLt b a)=true:=List.pairwise_mergeSort (λa b c h1 h2=>by
  cases e:HT.lexLt c a with
  |false=>rfl
  |true =>
   exfalso;by_cases w_:b=c
   ·subst w_;rw[e]at h1;cases h1
   ·rcases oY b c w_ with l|l
    ·rw[zq _ _ _ l e]at h1;cases h1
    ·rw[l]at h2;cases h2) (λa b=>by
  cases e:HT.lexLt b a with
  |false=>rfl
  |true=>rw[jM _ _ e];rfl) nss
 exact(sd.and nd).imp λ{a b} ⟨h1,h2⟩=>by
  rcases oY a b h2 with l|l
  ·exact l
  ·rw[l]at h1;cases h1
theorem i6{l:ak}(h:nss.Nodup)(hr:ud l)(p:l.Perm nss):l=aX nss:=uB hr (eG h) (p.trans (XB _ _).symm)
def ltN(nss:ak)(i j:Nat):Bool:=HT.lexLt (nss.getD i []) (nss.getD j [])
theorem wc(h:nss.Nodup){p:Array Nat}(ha:Arr p nss.length)(hu:Up (ltN nss) p nss.length):(p.toList.map λi=>nss.getD i [])=aX nss:=by
 refine i6 h ?_ ?_
 ·refine List.pairwise_iff_getElem.mpr λi j hi hj cX=>?_;simp only[List.length_map,Array.length_toList]at hi hj;have:=hu i j cX (by rw[<- ha.sz];exact hj);unfold ltN at this;have e:∀k (hk:k<p.size),p.getD k 0=p[k]:=λk hk=>by simp[Array.getD,hk]
  rw[e i hi,e j hj]at this;simpa using this
 ·have e:nss=(List.range nss.length).map λi=>nss.getD i []:=by
   refine Yz (by simp) λi h1 h2=>?_;simp[h1]
  refine(ha.pm.map λi=>nss.getD i []).trans ?_;rw[<- e]
end DI
end
section
namespace TS
open PySem PyProof.Rows
noncomputable def vf:Bool->Keyed->Array Keyed->Nat->Nat->Nat->StateT SortSt Sem (Option Nat):=sortPriv% PySem.Builtin.gallop
variable {base hi hint lo nb sa sb:Nat}{left:Bool}
section
variable {prog:az}{w:World}{A:av}{E:aq}{s:Shared}{κ:SortKind}{a₀:Array Keyed}{F:Keyed->Int}
def nc(prog:az)(w:World)(A:av)(E:aq)(s:Shared)(κ:SortKind)(a₀:Array Keyed)(F:Keyed->Int):Prop:=∀x y,x∈a₀.toList->y∈a₀.toList->∀(st:SortSt) (Q:Option Bool->SortSt->Prop),kindOf st=κ->Q (some (decide (F x<F y))) st->wpS (model prog w) A E s (lt' x y) Q st
theorem bh{arr:Array Keyed}{i:Nat}{x:Keyed}{st:SortSt}{Q:Keyed->SortSt->Prop}(h:arr[i]?=some x)(hq:Q x st):wpS (model prog w) A E s (elem' arr i) Q st:=by
 rw[elem'_eq,h];exact Xn hq
theorem sy(L:nc prog w A E s κ a₀ F){key:Keyed}{arr:Array Keyed}{n:Nat}{G:Nat->Bool}{st:SortSt}{Q:Option Nat->SortSt->Prop}(hk:kindOf st=κ)(wW:key∈a₀.toList)(hh:hint<n)
  (hb:∀i,i<n->∃x,arr[base+i]?=some x/\x∈a₀.toList/\(if left then decide (F x<F key)else !decide (F key<F x))=G i)
  (mono:∀i j,i<=j->j<n->G j=true->G i=true)
  (h:∀k,k<=n->(∀i,i<k->G i=true)->(∀i,k<=i->i<n->G i=false)->Q (some k) st):wpS (model prog w) A E s (vf left key arr base n hint) Q st:=by
 have CH:∀i,i<n->∀(Q':Option Bool->SortSt->Prop),Q' (some (G i)) st->wpS (model prog w) A E s (do let x <- elem' arr (base+i);if left then lt' x key else return (<- lt' key x).map (!·)) Q' st:=λi hi Q' hq=>by
  obtain⟨x,h1,h2,h3⟩:=hb i hi;refine Xl (bh h1 ?_);rw[<- h3]at hq;cases left with
  |true=>exact L x key h2 wW st Q' hk hq
  |false=>exact Xl (L key x wW h2 st _ hk (Xn hq))
 have zg:∀i j,i<=j->j<n->G i=false->G j=false:=λi j cX hj e=>by
  cases e':G j with
  |false=>rfl
  |true=>rw[mono i j cX hj e']at e;cases e
 refine Xl (CH hint hh _ ?_);dsimp only;cases eh:G hint with
 |true =>
  rw[if_pos rfl];refine Xl (XS (XD (I:=λx c aO=>st=aO/\∃la of,c=(none,la,of)/\la<of/\x+1<=of/\la<n - hint/\∀i,i<=hint+la->G i=true)
   (Q:=λc aO=>st=aO/\∃la of,c=(none,la,of)/\la<of/\la<n - hint/\(∀i,i<=hint+la->G i=true)/\(n - hint<=of\/G (hint+of)=false)) ?_ ?_ ⟨rfl,0,1,rfl,by left,by left,by left,λi hi=>mono i hint hi hh eh⟩) ?_)
  ·rintro x c aO _ hx ⟨rfl,la,of,rfl,h1,h2,h3,h4⟩;dsimp only;by_cases G9:of ≥ n - hint
   ·rw[if_pos G9];exact Xn ⟨rfl,la,of,rfl,h1,h3,h4,.inl G9⟩
   ·rw[if_neg G9];refine Xl (CH (hint+of) (by left) _ ?_);dsimp only;cases e:G (hint+of)with
    |true=>exact Xn ⟨rfl,of,2*of+1,rfl,by left,by left,by left,λi hi=>mono i _ hi (by left) e⟩
    |false=>exact Xn ⟨rfl,la,of,rfl,h1,h3,h4,.inr e⟩
  ·rintro c aO ⟨rfl,la,of,rfl,h1,h2,h3,h4⟩;exact⟨rfl,la,of,rfl,h1,h3,h4,.inl (by left)⟩
  ·rintro c aO ⟨rfl,la,of,rfl,h1,h3,h4,h5⟩;dsimp only;refine Xl (XS (XD (I:=λx c aO=>st=aO/\∃lo hi,c=(none,lo,hi)/\lo<=hi/\hi<=n/\hi - lo<=n - x/\(∀i,i<lo->G i=true)/\(∀i,hi<=i->i<n->G i=false))
    (Q:=λc aO=>st=aO/\∃lo hi,c=(none,lo,hi)/\hi<=n/\(∀i,i<hi->G i=true)/\(∀i,hi<=i->i<n->G i=false)) ?_ ?_ ⟨rfl,_,_,rfl,by left,by left,by left,λi hi=>h4 i (by left),λi hi dj=>?_⟩) ?_)
   ·rintro x c aO _ hx ⟨rfl,lo,hi,rfl,b1,b2,b3,b4,b5⟩;dsimp only;by_cases CB:lo ≥ hi
    ·rw[if_pos CB];have:lo=hi:=by left
     subst this;exact Xn ⟨rfl,lo,lo,rfl,b2,b4,b5⟩
    ·rw[if_neg CB];refine Xl (CH (lo+(hi - lo) / 2) (by left) _ ?_);dsimp only;cases e:G (lo+(hi - lo) / 2)with
     |true=>exact Xn ⟨rfl,lo+(hi - lo) / 2+1,hi,rfl,by left,by left,by left,λi dj=>mono i (lo+(hi - lo) / 2) (by left) (by left) e,b5⟩
     |false=>exact Xn ⟨rfl,lo,lo+(hi - lo) / 2,rfl,by left,by left,by left,b4,λi dj NN=>zg (lo+(hi - lo) / 2) i dj NN e⟩
   ·rintro c aO ⟨rfl,lo,hi,rfl,b1,b2,b3,b4,b5⟩;have:lo=hi:=by left
    subst this;exact⟨rfl,lo,lo,rfl,b2,b4,b5⟩
   ·rcases h5 with h5|h5
    ·left
    ·by_cases ho:n - hint<=of
     ·left
     ·exact zg _ i (by left) dj h5
   ·rintro c aO ⟨rfl,lo,hi,rfl,b2,b4,b5⟩;exact Xn (h hi b2 b4 b5)
 |false =>
  rw[if_neg Bool.false_ne_true];refine Xl (XS (XD (I:=λx c aO=>st=aO/\∃la of,c=(none,la,of)/\la<of/\x+1<=of/\la<=hint/\G (hint - la)=false)
   (Q:=λc aO=>st=aO/\∃la of,c=(none,la,of)/\la<of/\la<=hint/\G (hint - la)=false/\(hint+1<=of\/(of<=hint/\G (hint - of)=true))) ?_ ?_ ⟨rfl,0,1,rfl,by left,by left,by left,eh⟩) ?_)
  ·rintro x c aO _ hx ⟨rfl,la,of,rfl,h1,h2,h3,h4⟩;dsimp only;by_cases G9:of ≥ hint+1
   ·rw[if_pos G9];exact Xn ⟨rfl,la,of,rfl,h1,h3,h4,.inl G9⟩
   ·rw[if_neg G9];refine Xl (CH (hint - of) (by left) _ ?_);dsimp only;cases e:G (hint - of)with
    |false=>exact Xn ⟨rfl,of,2*of+1,rfl,by left,by left,by left,e⟩
    |true=>exact Xn ⟨rfl,la,of,rfl,h1,h3,h4,.inr ⟨by left,e⟩⟩
  ·rintro c aO ⟨rfl,la,of,rfl,h1,h2,h3,h4⟩;exact⟨rfl,la,of,rfl,h1,h3,h4,.inl (by left)⟩
  ·rintro c aO ⟨rfl,la,of,rfl,h1,h3,h4,h5⟩;dsimp only;refine Xl (XS (XD (I:=λx c aO=>st=aO/\∃lo hi,c=(none,lo,hi)/\lo<=hi/\hi<=n/\hi - lo<=n - x/\(∀i,i<lo->G i=true)/\(∀i,hi<=i->i<n->G i=false))
    (Q:=λc aO=>st=aO/\∃lo hi,c=(none,lo,hi)/\hi<=n/\(∀i,i<hi->G i=true)/\(∀i,hi<=i->i<n->G i=false)) ?_ ?_ ⟨rfl,_,_,rfl,by left,by left,by left,λi hi=>?_,λi hi dj=>zg _ i hi dj h4⟩) ?_)
   ·rintro x c aO _ hx ⟨rfl,lo,hi,rfl,b1,b2,b3,b4,b5⟩;dsimp only;by_cases CB:lo ≥ hi
    ·rw[if_pos CB];have:lo=hi:=by left
     subst this;exact Xn ⟨rfl,lo,lo,rfl,b2,b4,b5⟩
    ·rw[if_neg CB];refine Xl (CH (lo+(hi - lo) / 2) (by left) _ ?_);dsimp only;cases e:G (lo+(hi - lo) / 2)with
     |true=>exact Xn ⟨rfl,lo+(hi - lo) / 2+1,hi,rfl,by left,by left,by left,λi dj=>mono i (lo+(hi - lo) / 2) (by left) (by left) e,b5⟩
     |false=>exact Xn ⟨rfl,lo,lo+(hi - lo) / 2,rfl,by left,by left,by left,b4,λi dj NN=>zg (lo+(hi - lo) / 2) i dj NN e⟩
   ·rintro c aO ⟨rfl,lo,hi,rfl,b1,b2,b3,b4,b5⟩;have:lo=hi:=by left
    subst this;exact⟨rfl,lo,lo,rfl,b2,b4,b5⟩
   ·rcases h5 with h5|⟨h5,h6⟩
    ·left
    ·exact mono i _ (by left) (by left) h6
   ·rintro c aO ⟨rfl,lo,hi,rfl,b2,b4,b5⟩;exact Xn (h hi b2 b4 b5)
end
noncomputable def R(F:Keyed->Int)(xs:Array Keyed)(i:Nat):Int:=match xs[i]? with
 |some p=>F p
 |none=>0
theorem fe{F:Keyed->Int}{xs ys:Array Keyed}{i j:Nat}(h:xs[i]?=ys[j]?):R F xs i=R F ys j:=by unfold R;rw[h]
def On(F:Keyed->Int)(xs:Array Keyed)(lo hi:Nat):Prop:=∀i j,lo<=i->i<=j->j<hi->R F xs i<=R F xs j
structure SB(a₀:Array Keyed)(κ:SortKind)(st:SortSt):Prop where
 perm:(arrOf st).Perm a₀
 kind:kindOf st=κ
 failed:failedOf st=none
theorem SB.size{a₀:Array Keyed}{κ:SortKind}{st:SortSt}(h:SB a₀ κ st):(arrOf st).size=a₀.size:=h.perm.size_eq
theorem SB.at{a₀:Array Keyed}{κ:SortKind}{st:SortSt}(h:SB a₀ κ st){i:Nat}(hi:i<a₀.size):∃x,(arrOf st)[i]?=some x/\x∈a₀.toList:=by
 have dj:i<(arrOf st).size:=by rw[h.size];exact hi
 exact⟨(arrOf st)[i],Zt _ i dj,(Array.perm_iff_toList_perm.mp h.perm).mem_iff.mp (by simp)⟩
theorem eP{F:Keyed->Int}{xs:Array Keyed}{i:Nat}{x:Keyed}(h:xs[i]?=some x):R F xs i=F x:=by unfold R;rw[h]
structure xC(a₀:Array Keyed)(κ:SortKind)(lo hi:Nat)(st aO:SortSt):Prop where
 sb:SB a₀ κ aO
 pend:pendingOf aO=pendingOf st
 out:∀i,i<lo\/hi<=i->(arrOf aO)[i]?=(arrOf st)[i]?
section
variable {a₀:Array Keyed}{κ:SortKind}{F:Keyed->Int}
theorem xC.mU{st:SortSt}(h:SB a₀ κ st):xC a₀ κ lo hi st st:=⟨h,rfl,λ_ _=>rfl⟩
theorem xC.trans{lo hi:Nat}{st g5 eU:SortSt}(h:xC a₀ κ lo hi st g5)(h':xC a₀ κ lo hi g5 eU):xC a₀ κ lo hi st eU:=⟨h'.sb,h'.pend.trans h.pend,λi hi=>(h'.out i hi).trans (h.out i hi)⟩
theorem xC.arr{st:SortSt}{xs:Array Keyed}(h:SB a₀ κ st)(hp:xs.Perm (arrOf st))(ho:∀i,i<lo\/hi<=i->xs[i]?=(arrOf st)[i]?):xC a₀ κ lo hi st (setArr st xs):=⟨⟨hp.trans h.perm,h.kind,h.failed⟩,rfl,ho⟩
theorem On.out{xs ys:Array Keyed}(h:On F xs lo hi)(e:∀i,lo<=i->i<hi->ys[i]?=xs[i]?):On F ys lo hi:=λi j hi cX hj=>by
 rw[fe (e i hi (by left)),fe (e j (by left) hj)];exact h i j hi cX hj
theorem sg{xs:Array Keyed}{src d:Nat}(hs:src<xs.size)(hd:d<=src)(k:Nat):R F (bubble xs src d) k=if k=src - d then R F xs src else if src - d<k/\k<=src then R F xs (k - 1)else R F xs k:=by
 have e:=getElem?_bubble hs d hd k;by_cases h1:k=src - d
 ·rw[if_pos h1]at e ⊢;exact fe e
 ·rw[if_neg h1]at e ⊢;by_cases h2:src - d<k/\k<=src
  ·rw[if_pos h2]at e ⊢;exact fe e
  ·rw[if_neg h2]at e ⊢;exact fe e
theorem sf{xs:Array Keyed}{i j:Nat}(hj:j<=xs.size)(k:Nat):R F (mirror xs i j ((j - i) / 2)) k=if i<=k/\k<j then R F xs (i+j - 1 - k)else R F xs k:=by
 have e:=getElem?_mirror_all (i:=i) hj k;by_cases h:i<=k/\k<j
 ·rw[if_pos h]at e ⊢;exact fe e
 ·rw[if_neg h]at e ⊢;exact fe e
end
section
variable {prog:az}{w:World}{A:av}{E:aq}{s:Shared}{κ:SortKind}{a₀:Array Keyed}{F:Keyed->Int}(L:nc prog w A E s κ a₀ F)
include L
theorem gX{st:SortSt}{i j:Nat}{Q:Option Bool->SortSt->Prop}(hB:SB a₀ κ st)(hi:i<a₀.size)(hj:j<a₀.size)(h:Q (some (decide (R F (arrOf st) i<R F (arrOf st) j))) st):wpS (model prog w) A E s (ltAt' i j) Q st:=by
 obtain⟨x,e1,m1⟩:=hB.at hi;obtain⟨y,e2,m2⟩:=hB.at hj;rw[eP e1,eP e2]at h;rw[ltAt'_eq];refine Xl (YC (Xl (bh e1 (Xl (bh e2 ?_)))));exact L x y m1 m2 st Q hB.kind h
theorem A_{st:SortSt}{n ok:Nat}{Q:Bool->SortSt->Prop}(hn:lo+n<=a₀.size)(cq:ok<=n)(hB:SB a₀ κ st)(hs:On F (arrOf st) lo (lo+ok))
  (h:∀aO,xC a₀ κ lo (lo+n) st aO->On F (arrOf aO) lo (lo+n)->Q true aO):wpS (model prog w) A E s (binarySort' lo n ok) Q st:=by
 rw[binarySort'_eq];refine Xl (XS (XD (I:=λk c aO=>c=(none,())/\xC a₀ κ lo (lo+n) st aO/\On F (arrOf aO) lo (lo+min k n))
  (Q:=λc aO=>c=(none,())/\xC a₀ κ lo (lo+n) st aO/\On F (arrOf aO) lo (lo+n)) ?step ?fin ?init) ?post)
 case post =>
  rintro c aO ⟨rfl,hB',wU⟩;exact Xn (h aO hB' wU)
 case init =>
  refine⟨rfl,.mU hB,λi j hi cX hj=>?_⟩;by_cases h1:ok=0
  ·have:i=j:=by left
   subst this;exact Yr _
  ·exact hs i j hi cX (by left)
 case fin =>
  rintro c aO ⟨hc,hB',wU⟩;refine⟨hc,hB',?_⟩
  rwa [show min (max (max ok 1) n) n=n by left]at wU
 case step =>
  rintro k c aO Xa W8 ⟨rfl,hB',wU⟩;rw[show min k n=k by left]at wU;have hk:lo+k<a₀.size:=by left
  refine Xl (XS (XD (I:=λx c wb=>aO=wb/\∃l r,c=(none,l,r)/\l<=r/\r<=k/\r - l<=k - x /\
    (∀i,i<l->R F (arrOf aO) (lo+i)<=R F (arrOf aO) (lo+k))/\(∀i,r<=i->i<k->R F (arrOf aO) (lo+k)<R F (arrOf aO) (lo+i)))
   (Q:=λc wb=>aO=wb/\∃l r,c=(none,l,r)/\l<=k /\
    (∀i,i<l->R F (arrOf aO) (lo+i)<=R F (arrOf aO) (lo+k))/\(∀i,l<=i->i<k->R F (arrOf aO) (lo+k)<R F (arrOf aO) (lo+i))) ?istep ?ifin ?iinit) ?ipost)
  case iinit=>exact⟨rfl,0,k,rfl,by left,by left,by left,λi hi=>by left,λi h1 h2=>by left⟩
  case ifin =>
   rintro c wb ⟨rfl,l,r,rfl,Ji,hrk,hm,Hb,hhi⟩;have:l=r:=by left
   subst this;exact⟨rfl,l,l,rfl,hrk,Hb,hhi⟩
  case istep =>
   rintro x c wb _ W2 ⟨rfl,l,r,rfl,Ji,hrk,hm,Hb,hhi⟩;dsimp only;by_cases CB:l ≥ r
   ·rw[if_pos CB];have:l=r:=by left
    subst this;exact Xn ⟨rfl,l,l,rfl,hrk,Hb,hhi⟩
   ·rw[if_neg CB];refine Xl (gX L hB'.sb hk (by left) ?_);by_cases dm:R F (arrOf aO) (lo+k)<R F (arrOf aO) (lo+(l+r) / 2)
    ·simp only[dm,decide_true,if_true];refine Xn ⟨rfl,l,(l+r) / 2,rfl,by left,by left,by left,Hb,λi h1 h2=>?_⟩;exact Int.lt_of_lt_of_le dm (wU _ _ (by left) (by left) (by left))
    ·simp only[dm,decide_false,Bool.false_eq_true,if_false];refine Xn ⟨rfl,(l+r) / 2+1,r,rfl,by left,by left,by left,λi h1=>?_,hhi⟩;exact XT (wU (lo+i) (lo+(l+r) / 2) (by left) (by left) (by left)) (Int.not_lt.mp dm)
  case ipost =>
   rintro c wb ⟨rfl,l,r,rfl,hlk,Hb,hhi⟩;show wpS _ _ _ _ (do moveDown' (lo+k) (lo+l);pure (ForInStep.yield (none,()))) _ _;rw[moveDown'_eq];have Qs:lo+k<(arrOf aO).size:=by rw[hB'.sb.size];exact hk
   refine Xl (YK (Xn ⟨rfl,hB'.trans (.arr hB'.sb (bubble_perm _ _ _) λi hi=>?_),?_⟩))
   ·rw[getElem?_bubble Qs _ (by left)];rw[if_neg (by left),if_neg (by left)]
   ·rw[show min (k+1) n=k+1 by left];intro i j hi cX hj;show R F (bubble (arrOf aO) (lo+k) (lo+k - (lo+l))) i<=R F (bubble (arrOf aO) (lo+k) (lo+k - (lo+l))) j;rw[sg Qs (by left),sg Qs (by left),show lo+k - (lo+k - (lo+l))=lo+l by left];have Qp:∀i,lo<=i->i<lo+l->R F (arrOf aO) i<=R F (arrOf aO) (lo+k):=λi h1 h2=>by
     have:=Hb (i - lo) (by left)
     rwa [show lo+(i - lo)=i by left]at this
    have Qw:∀i,lo+l<=i->i<lo+k->R F (arrOf aO) (lo+k)<R F (arrOf aO) i:=λi h1 h2=>by
     have:=hhi (i - lo) (by left) (by left)
     rwa [show lo+(i - lo)=i by left]at this
    repeat' split
    all_goals first
     | (exfalso;left)
     |exact Yr _
     |exact Qp _ (by left) (by left)
     |exact X2 (Qw _ (by left) (by left))
     |exact wU _ _ (by left) (by left) (by left)
end
structure M6(a₀:Array Keyed)(F:Keyed->Int):Prop where
 nd:a₀.toList.Nodup
 inj:∀x∈a₀.toList,∀y∈a₀.toList,F x=F y->x=y
theorem M6.ne{a₀:Array Keyed}{F:Keyed->Int}{κ:SortKind}(D:M6 a₀ F){st:SortSt}(hB:SB a₀ κ st){i j:Nat}(hi:i<a₀.size)(hj:j<a₀.size)(h:i≠j):R F (arrOf st) i≠R F (arrOf st) j:=by
 obtain⟨x,e1,m1⟩:=hB.at hi;obtain⟨y,e2,m2⟩:=hB.at hj;rw[eP e1,eP e2];intro z;have e:=D.inj x m1 y m2 z;subst e;have nd:(arrOf st).toList.Nodup:=(Array.perm_iff_toList_perm.mp hB.perm).nodup_iff.mpr D.nd;have dj:i<(arrOf st).toList.length:=by simpa [hB.size]using hi
 have wX:j<(arrOf st).toList.length:=by simpa [hB.size]using hj
 have a1:(arrOf st).toList[i]?=some x:=by simpa using e1
 have a2:(arrOf st).toList[j]?=some x:=by simpa using e2
 exact h ((List.getElem?_inj dj nd).mp (a1.trans a2.symm))
section
variable {prog:az}{w:World}{A:av}{E:aq}{s:Shared}{κ:SortKind}{a₀:Array Keyed}{F:Keyed->Int}(L:nc prog w A E s κ a₀ F)
include L
theorem vW(D:M6 a₀ F){st:SortSt}{fw:Nat}{Q:Option Nat->SortSt->Prop}(hn:lo+fw<=a₀.size)(h1:1<=fw)(hB:SB a₀ κ st)
  (h:∀m aO,xC a₀ κ lo (lo+fw) st aO->1<=m->m<=fw->On F (arrOf aO) lo (lo+m)->Q (some m) aO):wpS (model prog w) A E s (countRun' lo fw) Q st:=by
 have grow:∀(aO:SortSt) (x:Nat),1<=x->On F (arrOf aO) lo (lo+x)->¬ R F (arrOf aO) (lo+x)<R F (arrOf aO) (lo+x - 1)->On F (arrOf aO) lo (lo+(x+1)):=λaO x hx hs hl i j hi cX hj=>by
  by_cases Qt:j<lo+x
  ·exact hs i j hi cX Qt
  ·have wX:j=lo+x:=by left
   subst wX;by_cases dj:i=lo+x
   ·subst dj;exact Yr _
   ·exact XT (hs i (lo+x - 1) hi (by left) (by left)) (Int.not_lt.mp hl)
 have one:∀(aO:SortSt),On F (arrOf aO) lo (lo+1):=λaO i j hi cX hj=>by
  have:i=j:=by left
  subst this;exact Yr _
 rw[countRun'_eq];refine Xl (XS (XD (I:=λx c aO=>st=aO/\c=(none,x)/\On F (arrOf st) lo (lo+x))
  (Q:=λc aO=>st=aO/\∃n,c=(none,n)/\1<=n/\n<=fw/\On F (arrOf st) lo (lo+n)/\(n=fw\/R F (arrOf st) (lo+n)<R F (arrOf st) (lo+n - 1))) ?_ ?_ ⟨rfl,rfl,one st⟩) ?_)
 ·rintro x c aO NI AL ⟨rfl,rfl,hs⟩;dsimp only;refine Xl (gX L hB (by left) (by left) ?_);by_cases dm:R F (arrOf st) (lo+x)<R F (arrOf st) (lo+x - 1)
  ·simp only[dm,decide_true,if_true];exact Xn ⟨rfl,x,rfl,NI,by left,hs,.inr dm⟩
  ·simp only[dm,decide_false,Bool.false_eq_true,if_false];exact Xn ⟨rfl,rfl,grow st x NI hs dm⟩
 ·rintro c aO ⟨rfl,rfl,hs⟩;rw[show max 1 fw=fw by left]at hs ⊢;exact⟨rfl,fw,rfl,h1,Xp _,hs,.inl rfl⟩
 rintro c aO ⟨rfl,n,rfl,n1,n2,hs,hor⟩;dsimp only;by_cases Qm:n=fw
 ·rw[if_pos (by simpa using Qm)];exact Xn (h n st (.mU hB) n1 n2 hs)
 rw[if_neg (by simpa using Qm)];have b9:=hor.resolve_left Qm;by_cases S0:n>1
 ·rw[if_pos S0];refine Xl (gX L hB (by left) (by left) ?_);have hr:R F (arrOf st) lo<R F (arrOf st) (lo+n - 1):=by
   have a:=hs lo (lo+n - 1) (Xp _) (by left) (by left);have b:=D.ne hB (i:=lo) (j:=lo+n - 1) (by left) (by left) (by left);left
  simp only[hr,decide_true,if_true];exact Xn (h n st (.mU hB) n1 n2 hs)
 rw[if_neg S0];have e1:n=1:=by left
 subst e1;refine Xl (wpS_lift (Yn ⟨rfl,?_⟩));refine Xl (XS (XD (I:=λx c aO=>st=aO/\c=(none,x,0)/\∀i j,lo<=i->i<j->j<lo+x->R F (arrOf st) j<R F (arrOf st) i)
  (Q:=λc aO=>st=aO/\∃m,c=(none,m,0)/\2<=m/\m<=fw/\∀i j,lo<=i->i<j->j<lo+m->R F (arrOf st) j<R F (arrOf st) i) ?_ ?_ ⟨rfl,rfl,λi j hi cX hj=>?_⟩) ?_)
 ·rintro x c aO NI AL ⟨rfl,rfl,hd⟩;dsimp only;refine Xl (gX L hB (by left) (by left) ?_);by_cases dm:R F (arrOf st) (lo+x)<R F (arrOf st) (lo+x - 1)
  ·simp only[dm,decide_true,if_true];rw[if_neg (by left)];refine Xn ⟨rfl,rfl,λi j hi cX hj=>?_⟩;by_cases Qt:j<lo+x
   ·exact hd i j hi cX Qt
   ·have wX:j=lo+x:=by left
    subst wX;by_cases dj:i=lo+x - 1
    ·subst dj;exact dm
    ·exact Int.lt_trans dm (hd i (lo+x - 1) hi (by left) (by left))
  ·simp only[dm,decide_false,Bool.false_eq_true,if_false];refine Xl (gX L hB (by left) (by left) ?_);have hl:R F (arrOf st) (lo+x - 1)<R F (arrOf st) (lo+x):=by
    have b:=D.ne hB (i:=lo+x) (j:=lo+x - 1) (by left) (by left) (by left);left
   simp only[hl,decide_true,if_true];exact Xn ⟨rfl,x,rfl,by left,by left,hd⟩
 ·rintro c aO ⟨rfl,rfl,hd⟩;rw[show max (1+1) fw=fw by left]at hd ⊢;exact⟨rfl,fw,rfl,by left,Xp _,hd⟩
 ·have:i=lo:=by left
  have:j=lo+1:=by left
  subst i j;exact b9
 rintro c aO ⟨rfl,m,rfl,m1,m2,hd⟩;dsimp only;rw[if_neg (by left)];have hsz:lo+m<=(arrOf st).size:=by rw[hB.size];left
 refine Xl (wpS_reverse ?_);have S1:xC a₀ κ lo (lo+fw) st (setArr st (mirror (arrOf st) lo (lo+m) ((lo+m - lo) / 2))):=.arr hB (mirror_perm _ _ _ _) λi hi=>by
  rw[getElem?_mirror_all hsz,if_neg (by left)]
 have O1:On F (arrOf (setArr st (mirror (arrOf st) lo (lo+m) ((lo+m - lo) / 2)))) lo (lo+m):=λi j hi cX hj=>by
  show R F (mirror (arrOf st) lo (lo+m) ((lo+m - lo) / 2)) i<=R F (mirror (arrOf st) lo (lo+m) ((lo+m - lo) / 2)) j;rw[sf hsz,sf hsz,if_pos (by left),if_pos (by left)];by_cases e:i=j
  ·subst e;exact Yr _
  ·exact X2 (hd _ _ (by left) (by left) (by left))
 generalize setArr st (mirror (arrOf st) lo (lo+m) ((lo+m - lo) / 2))=g5 at S1 O1 ⊢;refine Xl (XS (XD (I:=λx c aO=>g5=aO/\c=(none,x)/\On F (arrOf g5) lo (lo+x))
  (Q:=λc aO=>g5=aO/\∃n,c=(none,n)/\1<=n/\n<=fw/\On F (arrOf g5) lo (lo+n)) ?_ ?_ ⟨rfl,rfl,O1⟩) ?_)
 ·rintro x c aO NI AL ⟨rfl,rfl,hs⟩;dsimp only;refine Xl (gX L S1.sb (by left) (by left) ?_);by_cases dm:R F (arrOf g5) (lo+x)<R F (arrOf g5) (lo+x - 1)
  ·simp only[dm,decide_true,if_true];exact Xn ⟨rfl,x,rfl,by left,by left,hs⟩
  ·simp only[dm,decide_false,Bool.false_eq_true,if_false];exact Xn ⟨rfl,rfl,grow g5 x (by left) hs dm⟩
 ·rintro c aO ⟨rfl,rfl,hs⟩;rw[show max m fw=fw by left]at hs ⊢;exact⟨rfl,fw,rfl,h1,Xp _,hs⟩
 rintro c aO ⟨rfl,n,rfl,n1,n2,hs⟩;exact Xn (h n g5 S1 n1 n2 hs)
end
def Pw(F:Keyed->Int)(l:List Keyed):Prop:=l.Pairwise λx y=>F x<=F y
structure J(F:Keyed->Int)(la lb o:List Keyed)(ia ib:Nat):Prop where
 perm:(o++(la.drop ia++lb.drop ib)).Perm (la++lb)
 so:Pw F o
 xa:∀x∈o,∀y∈la.drop ia,F x<=F y
 xb:∀x∈o,∀y∈lb.drop ib,F x<=F y
def Res(F:Keyed->Int)(la lb:List Keyed)(r:Array Keyed):Prop:=r.toList.Perm (la++lb)/\Pw F r.toList
section
variable {F:Keyed->Int}{la lb o:List Keyed}{ia ib:Nat}
theorem Ap(l:List Keyed)(i k:Nat):l.drop i=(l.drop i).take k++l.drop (i+k):=by
 rw[<- List.drop_drop,List.take_append_drop]
theorem Pw.dr{l:List Keyed}(h:Pw F l)(i:Nat):Pw F (l.drop i):=h.sublist (List.drop_sublist i l)
theorem J.qf(H:J F la lb o ia ib)(sa:Pw F la)(k:Nat)(hc:∀x∈(la.drop ia).take k,∀y∈lb.drop ib,F x<=F y):J F la lb (o++(la.drop ia).take k) (ia+k) ib:=by
 have e:=Ap la ia k;have s1:=sa.dr ia;rw[e]at s1;obtain⟨t1,t2,t3⟩:=List.pairwise_append.mp s1;refine⟨?_,List.pairwise_append.mpr ⟨H.so,t1,λx hx y hy=>H.xa x hx y (YA hy)⟩,λx hx y hy=>?_,λx hx y hy=>?_⟩
 ·have:=H.perm;rw[e,List.append_assoc]at this;rw[List.append_assoc];exact this
 ·rcases List.mem_append.mp hx with hx|hx
  ·exact H.xa x hx y (by rw[e];exact Xr _ hy)
  ·exact t3 x hx y hy
 ·rcases List.mem_append.mp hx with hx|hx
  ·exact H.xb x hx y hy
  ·exact hc x hx y hy
theorem J.qe(H:J F la lb o ia ib)(sb:Pw F lb)(k:Nat)(hc:∀x∈(lb.drop ib).take k,∀y∈la.drop ia,F x<=F y):J F la lb (o++(lb.drop ib).take k) ia (ib+k):=by
 have e:=Ap lb ib k;have s1:=sb.dr ib;rw[e]at s1;obtain⟨t1,t2,t3⟩:=List.pairwise_append.mp s1;refine⟨?_,List.pairwise_append.mpr ⟨H.so,t1,λx hx y hy=>H.xb x hx y (YA hy)⟩,λx hx y hy=>?_,λx hx y hy=>?_⟩
 ·have:=H.perm;rw[e]at this;rw[List.append_assoc];exact(Yv o (List.perm_append_comm_assoc _ _ _)).trans this
 ·rcases List.mem_append.mp hx with hx|hx
  ·exact H.xa x hx y hy
  ·exact hc x hx y hy
 ·rcases List.mem_append.mp hx with hx|hx
  ·exact H.xb x hx y (by rw[e];exact Xr _ hy)
  ·exact t3 x hx y hy
theorem J.done(H:J F la lb o ia ib)(sa:Pw F la)(sb:Pw F lb)(hc:lb.drop ib=[]\/la.drop ia=[]):(o++la.drop ia++lb.drop ib).Perm (la++lb)/\Pw F (o++la.drop ia++lb.drop ib):=by
 refine⟨by rw[List.append_assoc];exact H.perm,?_⟩;rcases hc with e|e
 ·rw[e,List.append_nil];exact List.pairwise_append.mpr ⟨H.so,sa.dr ia,H.xa⟩
 ·rw[e,List.append_nil];exact List.pairwise_append.mpr ⟨H.so,sb.dr ib,H.xb⟩
theorem J.last(H:J F la lb o ia ib)(sa:Pw F la)(sb:Pw F lb)(hc:∀y∈lb.drop ib,∀z∈la.drop ia,F y<=F z):(o++lb.drop ib++la.drop ia).Perm (la++lb)/\Pw F (o++lb.drop ib++la.drop ia):=by
 refine⟨?_,?_⟩
 ·rw[List.append_assoc];exact(Yv o Y0).trans H.perm
 ·refine List.pairwise_append.mpr ⟨List.pairwise_append.mpr ⟨H.so,sb.dr ib,H.xb⟩,sa.dr ia,λx hx y hy=>?_⟩;rcases List.mem_append.mp hx with hx|hx
  ·exact H.xa x hx y hy
  ·exact hc x hx y hy
end
theorem take1{l:List Keyed}{i:Nat}{x:Keyed}(h:l[i]?=some x):(l.drop i).take 1=[x]:=by
 obtain⟨hi,rfl⟩:=List.getElem?_eq_some_iff.mp h;rw[List.drop_eq_getElem_cons hi];rfl
theorem lP{l:List Keyed}{i:Nat}{y:Keyed}(h:y∈l.drop i):∃j,l[i+j]?=some y:=by
 obtain⟨j,hj⟩:=List.mem_iff_getElem?.mp h;exact⟨j,by rw[<- List.getElem?_drop];exact hj⟩
theorem kG{l:List Keyed}{i k:Nat}{y:Keyed}(h:y∈(l.drop i).take k):∃j,j<k/\l[i+j]?=some y:=by
 obtain⟨j,hj⟩:=List.mem_iff_getElem?.mp h;rw[List.getElem?_take]at hj;split at hj
 ·next hjk=>exact⟨j,hjk,by rw[<- List.getElem?_drop];exact hj⟩
 ·cases hj
structure aF(st aO:SortSt):Prop where
 a:arrOf aO=arrOf st
 p:pendingOf aO=pendingOf st
 k:kindOf aO=kindOf st
 f:failedOf aO=failedOf st
theorem aF.mU(st:SortSt):aF st st:=⟨rfl,rfl,rfl,rfl⟩
theorem aF.trans{a b c:SortSt}(h:aF a b)(h':aF b c):aF a c:=⟨h'.a.trans h.a,h'.p.trans h.p,h'.k.trans h.k,h'.f.trans h.f⟩
theorem ext_toList(a:Array Keyed)(i j:Nat):(a.extract i j).toList=(a.toList.drop i).take (j - i):=by simp
theorem vo(a:Array Keyed)(i:Nat):(a.extract i a.size).toList=a.toList.drop i:=by
 rw[ext_toList];exact List.take_of_length_le (by simp)
noncomputable def zh:Array Keyed->Array Keyed->StateT SortSt Sem (Array Keyed):=sortPriv% PySem.Builtin.mergeLo
section
variable {F:Keyed->Int}{a b out:Array Keyed}{ia ib:Nat}
theorem eL{a:Array Keyed}{i:Nat}(h:i<a.size):∃x,a[i]?=some x/\x∈a.toList:=⟨a[i],Zt a i h,by simp⟩
theorem sN{a:Array Keyed}{i:Nat}{x:Keyed}(h:a[i]?=some x):a.toList[i]?=some x:=by simpa using h
theorem wB{a:Array Keyed}{i:Nat}{x:Keyed}(h:a.toList[i]?=some x):a[i]?=some x:=by simpa using h
theorem Pw.ix(sa:Pw F a.toList){i j:Nat}{x y:Keyed}(cX:i<=j)(hx:a[i]?=some x)(hy:a[j]?=some y):F x<=F y:=by
 obtain⟨hi,rfl⟩:=List.getElem?_eq_some_iff.mp (sN hx);obtain⟨hj,rfl⟩:=List.getElem?_eq_some_iff.mp (sN hy);rcases Nat.lt_or_ge i j with h|h
 ·exact List.pairwise_iff_getElem.mp sa i j hi hj h
 ·have:i=j:=by left
  subst this;exact Yr _
theorem Pw.hd(sa:Pw F a.toList){i:Nat}{x:Keyed}(hx:a[i]?=some x):∀z∈a.toList.drop i,F x<=F z:=λz hz=>by
 obtain⟨j,hj⟩:=lP hz;exact sa.ix (by left) hx (wB hj)
theorem yC(H:J F a.toList b.toList out.toList ia ib)(sa:Pw F a.toList)(sb:Pw F b.toList)(hc:b.size<=ib\/a.size<=ia):Res F a.toList b.toList (out++a.extract ia a.size++b.extract ib b.size):=by
 unfold Res;simp only[Array.toList_append,vo];exact H.done sa sb (hc.imp (λh=>YQ (by simpa using h)) λh=>YQ (by simpa using h))
theorem BJ(H:J F a.toList b.toList out.toList ia ib)(sa:Pw F a.toList)(sb:Pw F b.toList)(e:ia+1=a.size)(hl:∀y∈b.toList,∀z,a[a.size - 1]?=some z->F y<=F z):Res F a.toList b.toList (out++b.extract ib b.size++a.extract ia a.size):=by
 unfold Res;simp only[Array.toList_append,vo];refine H.last sa sb λy hy z hz=>?_;obtain⟨j,hj⟩:=lP hz;have b9:ia+j<a.size:=by
  obtain⟨hi,_⟩:=List.getElem?_eq_some_iff.mp hj;simpa using hi
 have:ia+j=a.size - 1:=by left
 rw[this]at hj;exact hl y (Y7 hy) z (wB hj)
theorem J.KI(H:J F a.toList b.toList out.toList ia ib)(sb:Pw F b.toList){y:Keyed}(hy:b[ib]?=some y)(hc:∀z∈a.toList.drop ia,F y<=F z):J F a.toList b.toList (out.push y).toList ia (ib+1):=by
 have:=H.qe sb 1 λx hx z hz=>by
  rw[take1 (sN hy),List.mem_singleton]at hx;subst hx;exact hc z hz
 rw[take1 (sN hy)]at this;rw[Array.toList_push];exact this
theorem J.Np(H:J F a.toList b.toList out.toList ia ib)(sa:Pw F a.toList){x:Keyed}(hx:a[ia]?=some x)(hc:∀z∈b.toList.drop ib,F x<=F z):J F a.toList b.toList (out.push x).toList (ia+1) ib:=by
 have:=H.qf sa 1 λy hy z hz=>by
  rw[take1 (sN hx),List.mem_singleton]at hy;subst hy;exact hc z hz
 rw[take1 (sN hx)]at this;rw[Array.toList_push];exact this
theorem J.Q8(H:J F a.toList b.toList out.toList ia ib)(sa:Pw F a.toList)(k:Nat)(hc:∀i x,i<k->a[ia+i]?=some x->∀z∈b.toList.drop ib,F x<=F z):J F a.toList b.toList (out++a.extract ia (ia+k)).toList (ia+k) ib:=by
 rw[Array.toList_append,ext_toList,show ia+k - ia=k by left];exact H.qf sa k λx hx z hz=>by
  obtain⟨j,hj,e⟩:=kG hx;exact hc j x hj (wB e) z hz
theorem J.Q7(H:J F a.toList b.toList out.toList ia ib)(sb:Pw F b.toList)(k:Nat)(hc:∀i x,i<k->b[ib+i]?=some x->∀z∈a.toList.drop ia,F x<=F z):J F a.toList b.toList (out++b.extract ib (ib+k)).toList ia (ib+k):=by
 rw[Array.toList_append,ext_toList,show ib+k - ib=k by left];exact H.qe sb k λx hx z hz=>by
  obtain⟨j,hj,e⟩:=kG hx;exact hc j x hj (wB e) z hz
end
section
variable {prog:az}{w:World}{A:av}{E:aq}{s:Shared}{κ:SortKind}{a₀:Array Keyed}{F:Keyed->Int}(L:nc prog w A E s κ a₀ F)
include L
theorem eB{key:Keyed}{arr:Array Keyed}{n:Nat}{st:SortSt}{Q:Option Nat->SortSt->Prop}(hk:kindOf st=κ)(wW:key∈a₀.toList)(hh:hint<n)(hn:base+n<=arr.size)(hm:∀i x,base<=i->i<base+n->arr[i]?=some x->x∈a₀.toList)
  (hs:∀i j x y,base<=i->i<=j->j<base+n->arr[i]?=some x->arr[j]?=some y->F x<=F y)
  (h:∀k,k<=n->(∀i x,i<k->arr[base+i]?=some x->if left then F x<F key else F x<=F key)->(∀i x,k<=i->i<n->arr[base+i]?=some x->if left then F key<=F x else F key<F x)->Q (some k) st):wpS (model prog w) A E s (vf left key arr base n hint) Q st:=by
 have QF:∀i,i<n->∃x,arr[base+i]?=some x:=λi hi=>⟨arr[base+i]'(by left),Zt _ _ _⟩
 refine sy L (G:=λi=>if left then decide (R F arr (base+i)<F key)else !decide (F key<R F arr (base+i))) hk wW hh (λi hi=>?_) (λi j cX hj e=>?_) λk NK h1 h2=>h k NK (λi x hi hx=>?_) λi x hi Qv hx=>?_
 ·obtain⟨x,hx⟩:=QF i hi;exact⟨x,hx,hm _ x (by left) (by left) hx,by rw[eP hx]⟩
 ·obtain⟨x,hx⟩:=QF i (by left);obtain⟨y,hy⟩:=QF j hj;have:=hs _ _ x y (by left) (by left) (by left) hx hy;rw[eP hy]at e;rw[eP hx];cases left<;>simp at e ⊢ <;> left
 ·have e:=h1 i hi;rw[eP hx]at e;cases left<;>simp at e ⊢ <;> left
 ·have e:=h2 i hi Qv;rw[eP hx]at e;cases left<;>simp at e ⊢ <;> left
end
theorem Aq{T G:Prop}(f:T->G)(t:T):G:=f t
section
variable {M:Model}{A:av}{E:aq}{s:Shared}{σ α:Type}{c:Prop}[Decidable c]{t e:StateT σ Sem α}{Q:α->σ->Prop}{st:σ}
theorem bo(h:c)(k:wpS M A E s t Q st):wpS M A E s (if c then t else e) Q st:=by rw[if_pos h];exact k
theorem bp(h:¬ c)(k:wpS M A E s e Q st):wpS M A E s (if c then t else e) Q st:=by rw[if_neg h];exact k
theorem fK(h:c->wpS M A E s t Q st)(k:¬ c->wpS M A E s e Q st):wpS M A E s (if c then t else e) Q st:=by
 by_cases z:c
 ·exact bo z (h z)
 ·exact bp z (k z)
end
noncomputable def Kk:Nat->StateT SortSt Sem Unit:=sortPriv% PySem.Builtin.setMinGallop
section
variable {prog:az}{w:World}{A:av}{E:aq}{s:Shared}{κ:SortKind}{a₀:Array Keyed}{F:Keyed->Int}(L:nc prog w A E s κ a₀ F)
include L
omit L in
theorem iW{g:Nat}{st:SortSt}{Q:Unit->SortSt->Prop}(h:∀aO,aF st aO->Q () aO):wpS (model prog w) A E s (Kk g) Q st:=by
 exact YK (h _ ⟨rfl,rfl,rfl,rfl⟩)
theorem EV{a b:Array Keyed}{st:SortSt}{Q:Array Keyed->SortSt->Prop}(hk:kindOf st=κ)(ma:∀x∈a.toList,x∈a₀.toList)(mb:∀x∈b.toList,x∈a₀.toList)(sa:Pw F a.toList)(sb:Pw F b.toList)(ha:1<=a.size)(hb:1<=b.size)
  (h0:∀y,b[0]?=some y->∀x∈a.toList,F y<=F x) (hl:∀y∈b.toList,∀z,a[a.size - 1]?=some z->F y<=F z) (h:∀r aO,aF st aO->Res F a.toList b.toList r->Q r aO):wpS (model prog w) A E s (zh a b) Q st:=by
 obtain⟨y0,si,IU⟩:=eL (a:=b) (i:=0) hb;have J0:J F a.toList b.toList (#[]:Array Keyed).toList 0 0:=⟨by simp,.nil,(λ_ h=>nomatch h),(λ_ h=>nomatch h)⟩
 have J1:=J0.KI sb si λz hz=>h0 y0 si z (by simpa using hz);refine Xl (wpS_lift (Yn ⟨rfl,?_⟩));refine Xl (bh si ?_);dsimp only;by_cases e1:1=b.size
 ·refine bo (by simpa using e1) ?_;exact Xn (h _ st (.mU st) (yC J1 sa sb (.inl (by left))))
 refine bp (by simpa using e1) ?_;by_cases e2:0+1=a.size
 ·refine bo (by simpa using e2) ?_;exact Xn (h _ st (.mU st) (BJ J1 sa sb e2 hl))
 refine bp (by simpa using e2) ?_;refine Xl (YC ?_);refine Xl (XS (XD (I:=λx c aO=>aF st aO/\∃out ia ib g,c=(none,out,ia,ib,g)/\J F a.toList b.toList out.toList ia ib/\ia+1<a.size/\ib<b.size/\x+1<=ia+ib)
  (Q:=λc aO=>aF st aO/\∃r o ia ib g,c=(some r,o,ia,ib,g)/\Res F a.toList b.toList r) ?step ?fin ⟨.mU st,_,_,_,_,rfl,J1,by left,by left,by left⟩) ?post)
 case fin =>
  rintro c aO ⟨S,out,ia,ib,g,rfl,JJ,pZ,hib,hx⟩;left
 case post =>
  rintro c aO ⟨S,r,o,ia,ib,g,rfl,hr⟩;exact Xn (h r aO S hr)
 case step =>
  rintro x c g5 _ G3 ⟨S1,out,ia,ib,g,rfl,JJ,pZ,hib,hx⟩;dsimp only;refine Xl (XS (XD (I:=λx' c aO=>g5=aO/\∃out ia ib ac bc,c=(none,out,ia,ib,ac,bc)/\J F a.toList b.toList out.toList ia ib/\ia+1<a.size/\ib<b.size/\x+1+x'<=ia+ib)
   (Q:=λc aO=>g5=aO/\((∃r o ia ib ac bc,c=(some r,o,ia,ib,ac,bc)/\Res F a.toList b.toList r)\/∃out ia ib ac bc,c=(none,out,ia,ib,ac,bc)/\J F a.toList b.toList out.toList ia ib/\ia+1<a.size/\ib<b.size/\x+2<=ia+ib)) ?_ ?_ ⟨rfl,_,_,_,_,_,rfl,JJ,pZ,hib,by left⟩) ?_)
  ·rintro x' c aO _ zI ⟨rfl,out,ia,ib,ac,bc,rfl,JJ,pZ,hib,hx⟩;dsimp only;obtain⟨y,hy,my⟩:=eL hib;obtain⟨z,hz,mz⟩:=eL (show ia<a.size by left);refine Xl (bh hy (Xl (bh hz (Xl (L y z (mb y my) (ma z mz) g5 _ (S1.k.trans hk) ?_)))));by_cases b9:F y<F z
   ·refine bo (XU b9) ?_;have J2:=JJ.KI sb hy λv hv=>XT (X2 b9) (sa.hd hz v hv);refine Xl (bh hy ?_);by_cases eb:ib+1=b.size
    ·refine bo (by simpa using eb) ?_;exact Xn ⟨rfl,.inl ⟨_,_,_,_,_,_,rfl,yC J2 sa sb (.inl (by left))⟩⟩
    refine bp (by simpa using eb) ?_;exact fK (λ_=>Xn ⟨rfl,.inr ⟨_,_,_,_,_,rfl,J2,pZ,by left,by left⟩⟩) (λ_=>Xn ⟨rfl,_,_,_,_,_,rfl,J2,pZ,by left,by left⟩)
   ·refine bp (by simpa using b9) ?_;have J2:=JJ.Np sa hz λv hv=>XT (Int.not_lt.mp b9) (sb.hd hy v hv);refine Xl (bh hz ?_);by_cases ea:ia+1+1=a.size
    ·refine bo (by simpa using ea) ?_;exact Xn ⟨rfl,.inl ⟨_,_,_,_,_,_,rfl,BJ J2 sa sb ea hl⟩⟩
    refine bp (by simpa using ea) ?_;exact fK (λ_=>Xn ⟨rfl,.inr ⟨_,_,_,_,_,rfl,J2,by left,hib,by left⟩⟩) (λ_=>Xn ⟨rfl,_,_,_,_,_,rfl,J2,by left,hib,by left⟩)
  ·rintro c aO ⟨rfl,out,ia,ib,ac,bc,rfl,JJ,pZ,hib,hx⟩;exact⟨rfl,.inr ⟨_,_,_,_,_,rfl,JJ,pZ,hib,by left⟩⟩
  rintro c aO ⟨rfl,⟨r,o,ia,ib,ac,bc,rfl,hr⟩|⟨out,ia,ib,ac,bc,rfl,JJ,pZ,hib,hx⟩⟩
  ·exact Xn ⟨S1,_,_,_,_,_,rfl,hr⟩
  dsimp only;refine Xl (wpS_lift (Yn ⟨rfl,?_⟩));obtain⟨lw,hlw⟩:∃lw,lw=x+2:=⟨_,rfl⟩
  rw[<- hlw]at hx;refine Xl (XS (XD (I:=λx' c aO=>aF st aO/\∃out ia ib g ac bc,c=(none,out,ia,ib,g,ac,bc)/\J F a.toList b.toList out.toList ia ib/\ia+1<a.size/\ib<b.size/\lw<=ia+ib)
   (Q:=λc aO=>aF st aO/\((∃r o ia ib g ac bc,c=(some r,o,ia,ib,g,ac,bc)/\Res F a.toList b.toList r)\/∃out ia ib g ac bc,c=(none,out,ia,ib,g,ac,bc)/\J F a.toList b.toList out.toList ia ib/\ia+1<a.size/\ib<b.size/\lw<=ia+ib)) ?_ ?_ ⟨S1,_,_,_,_,_,_,rfl,JJ,pZ,hib,hx⟩) ?_)
  ·clear JJ pZ hib hx S1;rintro x' c g5 _ zI ⟨S1,out,ia,ib,g,ac,bc,rfl,JJ,pZ,hib,hx⟩;dsimp only;apply Aq
   ·intro key;by_cases hg:g>1
    ·refine bo hg ?_;generalize g - 1=z
     revert z
     exact key
    ·refine bp hg ?_;generalize g=z
     revert z
     exact key
   intro g;refine Xl (iW λuu S3=>?_);have S2:=S1.trans S3;clear S3;obtain⟨y0,si,IU⟩:=eL hib;refine Xl (bh si ?_);refine Xl (eB L (S2.k.trans hk) (mb y0 IU) (show 0<a.size - ia by left) (by left) (λi z _ _ hz=>ma z (by simpa using List.mem_of_getElem? (sN hz))) (λi j z z' _ cX _ hz q_=>sa.ix cX hz q_) λk SV g1 g2=>?_);dsimp only;simp only[Bool.false_eq_true,if_false]at g1 g2;have JC:=JJ.Q8 sa k λi z hi hz z' q_=>XT (g1 i z hi hz) (sb.hd si z' q_);have wQ:∀y,b[ib]?=some y->∀z∈a.toList.drop (ia+k),F y<=F z:=λy hy z hz=>by
    obtain⟨j,hj⟩:=lP hz;have b9:ia+k+j<a.size:=by
     obtain⟨hi,_⟩:=List.getElem?_eq_some_iff.mp hj;simpa using hi
    have e:y=y0:=by rw[si]at hy;exact(Xv hy).symm
    subst e;exact X2 (g2 (k+j) z (by left) (by left) (by rw[<- Nat.add_assoc];exact wB hj))
   apply Aq
   ·intro key;by_cases k0:k>0
    ·refine bo k0 ?_;by_cases HZ:ia+k+1=a.size
     ·refine bo (by clear key;simpa using HZ) ?_;exact Xn ⟨S2,.inl ⟨_,_,_,_,_,_,_,rfl,BJ JC sa sb HZ hl⟩⟩
     refine bp (by clear key;simpa using HZ) ?_;by_cases Tx:ia+k=a.size
     ·refine bo (by clear key;simpa using Tx) ?_;exact Xn ⟨S2,.inl ⟨_,_,_,_,_,_,_,rfl,yC JC sa sb (.inr (by clear key;left))⟩⟩
     refine bp (by clear key;simpa using Tx) ?_;have AO:ia+k+1<a.size:=by clear key;left
     have jO:lw<=ia+k+ib:=by clear key;left
     have K1:=JC;have nK:=wQ;generalize out++a.extract ia (ia+k)=o1 at K1 ⊢;generalize ia+k=i1 at K1 nK AO jO ⊢
     revert jO
     revert AO
     revert nK
     revert K1
     revert i1
     revert o1
     exact key
    ·refine bp k0 ?_;have z0:k=0:=by clear key;left
     have AO:ia+1<a.size:=by clear key;left
     have jO:lw<=ia+ib:=by clear key;left
     have nK:=wQ;rw[z0,Nat.add_zero]at nK;have K1:=JJ;generalize out=o1 at K1 ⊢;generalize ia=i1 at K1 nK AO jO ⊢
     revert jO
     revert AO
     revert nK
     revert K1
     revert i1
     revert o1
     exact key
   intro o1 i1 J1 wQ AO jO;obtain⟨y,hy,my⟩:=eL hib;have J2:=J1.KI sb hy (wQ y hy);refine Xl (bh hy ?_);by_cases eb:ib+1=b.size
   ·refine bo (by simpa using eb) ?_;exact Xn ⟨S2,.inl ⟨_,_,_,_,_,_,_,rfl,yC J2 sa sb (.inl (by left))⟩⟩
   refine bp (by simpa using eb) ?_;obtain⟨x,hx,mx⟩:=eL (show i1<a.size by left);refine Xl (bh hx ?_);refine Xl (eB L (S2.k.trans hk) (ma x mx) (show 0<b.size - (ib+1) by left) (by left) (λi z _ _ hz=>mb z (by simpa using List.mem_of_getElem? (sN hz))) (λi j z z' _ cX _ hz q_=>sb.ix cX hz q_) λk2 SU g1 g2=>?_);dsimp only;simp only[if_true]at g1 g2;have J3:=J2.Q7 sb k2 λi z hi hz z' q_=>XT (X2 (g1 i z hi hz)) (sa.hd hx z' q_);have AL:∀z∈b.toList.drop (ib+1+k2),F x<=F z:=λz hz=>by
    obtain⟨j,hj⟩:=lP hz;have b9:ib+1+k2+j<b.size:=by
     obtain⟨hi,_⟩:=List.getElem?_eq_some_iff.mp hj;simpa using hi
    exact g2 (k2+j) z (by left) (by left) (by rw[show ib+1+(k2+j)=ib+1+k2+j by left];exact wB hj)
   apply Aq
   ·intro key;by_cases k0:k2>0
    ·refine bo k0 ?_;by_cases Ju:ib+1+k2=b.size
     ·refine bo (by clear key;simpa using Ju) ?_;exact Xn ⟨S2,.inl ⟨_,_,_,_,_,_,_,rfl,yC J3 sa sb (.inl (by clear key;left))⟩⟩
     refine bp (by clear key;simpa using Ju) ?_;have hj:ib+1+k2<b.size:=by clear key;left
     have wR:lw<=i1+(ib+1+k2):=by clear key;left
     have K1:=J3;have nK:=AL;generalize o1.push y++b.extract (ib+1) (ib+1+k2)=o2 at K1 ⊢;generalize ib+1+k2=j2 at K1 nK hj wR ⊢
     revert wR
     revert hj
     revert nK
     revert K1
     revert j2
     revert o2
     exact key
    ·refine bp k0 ?_;have z0:k2=0:=by clear key;left
     have hj:ib+1<b.size:=by clear key;left
     have wR:lw<=i1+(ib+1):=by clear key;left
     have nK:=AL;rw[z0,Nat.add_zero]at nK;have K1:=J2;generalize o1.push y=o2 at K1 ⊢;generalize ib+1=j2 at K1 nK hj wR ⊢
     revert wR
     revert hj
     revert nK
     revert K1
     revert j2
     revert o2
     exact key
   intro o2 j2 J3 AL hj wR;have J4:=J3.Np sa hx AL;refine Xl (bh hx ?_);by_cases ea:i1+1+1=a.size
   ·refine bo (by simpa using ea) ?_;exact Xn ⟨S2,.inl ⟨_,_,_,_,_,_,_,rfl,BJ J4 sa sb ea hl⟩⟩
   refine bp (by simpa using ea) ?_;exact fK (λ_=>Xn ⟨S2,.inr ⟨_,_,_,_,_,_,rfl,J4,by left,by left,by left⟩⟩) (λ_=>Xn ⟨S2,_,_,_,_,_,_,rfl,J4,by left,by left,by left⟩)
  ·rintro c aO ⟨S,out,ia,ib,g,ac,bc,rfl,JJ,pZ,hib,hx⟩;exact⟨S,.inr ⟨_,_,_,_,_,_,rfl,JJ,pZ,hib,hx⟩⟩
  rintro c aO ⟨S,⟨r,o,ia,ib,g,ac,bc,rfl,hr⟩|⟨out,ia,ib,g,ac,bc,rfl,JJ,pZ,hib,hx⟩⟩
  ·exact Xn ⟨S,_,_,_,_,_,rfl,hr⟩
  ·dsimp only;exact Xl (iW λuu S3=>Xn ⟨S.trans S3,_,_,_,_,rfl,JJ,pZ,hib,by left⟩)
end
noncomputable def zi:Array Keyed->Array Keyed->StateT SortSt Sem (Array Keyed):=sortPriv% PySem.Builtin.mergeHi
structure H(F:Keyed->Int)(la lb o:List Keyed)(na nb:Nat):Prop where
 perm:((la.take na++lb.take nb)++o.reverse).Perm (la++lb)
 so:Pw F o.reverse
 xa:∀x∈o,∀y∈la.take na,F y<=F x
 xb:∀x∈o,∀y∈lb.take nb,F y<=F x
section
variable {F:Keyed->Int}{la lb o:List Keyed}{na nb m:Nat}
theorem DQ(l:List Keyed){m n:Nat}(h:m<=n):l.take n=l.take m++(l.take n).drop m:=by
 have:=List.take_append_drop m (l.take n);rw[List.take_take,Nat.min_eq_left h]at this;exact this.symm
theorem Pw.tk{l:List Keyed}(h:Pw F l)(i:Nat):Pw F (l.take i):=h.sublist (List.take_sublist i l)
theorem H.qf(H:H F la lb o na nb)(sa:Pw F la)(hm:m<=na)(hc:∀x∈(la.take na).drop m,∀y∈lb.take nb,F y<=F x):TS.H F la lb (o++((la.take na).drop m).reverse) m nb:=by
 have e:=DQ la hm;have s1:=sa.tk na;rw[e]at s1;obtain⟨t1,t2,t3⟩:=List.pairwise_append.mp s1;refine⟨?_,?_,λx hx y hy=>?_,λx hx y hy=>?_⟩
 ·have:=H.perm;rw[e]at this;rw[List.reverse_append,List.reverse_reverse];refine List.Perm.trans ?_ this;generalize (la.take na).drop m=T;rw[<- List.append_assoc];refine YS _ ?_;rw[List.append_assoc,List.append_assoc];exact Yv _ Y0
 ·rw[List.reverse_append,List.reverse_reverse];exact List.pairwise_append.mpr ⟨t2,H.so,λx hx y hy=>H.xa y (List.mem_reverse.mp hy) x (Y7 hx)⟩
 ·rcases List.mem_append.mp hx with hx|hx
  ·exact H.xa x hx y (by rw[e];exact Xz _ hy)
  ·exact t3 y hy x (List.mem_reverse.mp hx)
 ·rcases List.mem_append.mp hx with hx|hx
  ·exact H.xb x hx y hy
  ·exact hc x (List.mem_reverse.mp hx) y hy
theorem H.qe(H:H F la lb o na nb)(sb:Pw F lb)(hm:m<=nb)(hc:∀x∈(lb.take nb).drop m,∀y∈la.take na,F y<=F x):TS.H F la lb (o++((lb.take nb).drop m).reverse) na m:=by
 have e:=DQ lb hm;have s1:=sb.tk nb;rw[e]at s1;obtain⟨t1,t2,t3⟩:=List.pairwise_append.mp s1;refine⟨?_,?_,λx hx y hy=>?_,λx hx y hy=>?_⟩
 ·have:=H.perm;rw[e]at this;rw[List.reverse_append,List.reverse_reverse];refine List.Perm.trans ?_ this;simp only[List.append_assoc];exact .refl _
 ·rw[List.reverse_append,List.reverse_reverse];exact List.pairwise_append.mpr ⟨t2,H.so,λx hx y hy=>H.xb y (List.mem_reverse.mp hy) x (Y7 hx)⟩
 ·rcases List.mem_append.mp hx with hx|hx
  ·exact H.xa x hx y hy
  ·exact hc x (List.mem_reverse.mp hx) y hy
 ·rcases List.mem_append.mp hx with hx|hx
  ·exact H.xb x hx y (by rw[e];exact Xz _ hy)
  ·exact t3 y hy x (List.mem_reverse.mp hx)
theorem H.done(H:H F la lb o na nb)(sa:Pw F la)(sb:Pw F lb)(hc:na=0\/nb=0):(la.take na++lb.take nb++o.reverse).Perm (la++lb)/\Pw F (la.take na++lb.take nb++o.reverse):=by
 refine⟨H.perm,?_⟩;rcases hc with rfl|rfl
 ·rw[List.take_zero,List.nil_append];exact List.pairwise_append.mpr ⟨sb.tk nb,H.so,λx hx y hy=>H.xb y (List.mem_reverse.mp hy) x hx⟩
 ·rw[List.take_zero,List.append_nil];exact List.pairwise_append.mpr ⟨sa.tk na,H.so,λx hx y hy=>H.xa y (List.mem_reverse.mp hy) x hx⟩
theorem H.first(H:H F la lb o na nb)(sa:Pw F la)(sb:Pw F lb)(hc:∀y∈lb.take nb,∀z∈la.take na,F y<=F z):(lb.take nb++la.take na++o.reverse).Perm (la++lb)/\Pw F (lb.take nb++la.take na++o.reverse):=by
 refine⟨(YS _ Y0).trans H.perm,?_⟩;refine List.pairwise_append.mpr ⟨List.pairwise_append.mpr ⟨sb.tk nb,sa.tk na,hc⟩,H.so,λx hx y hy=>?_⟩;rcases List.mem_append.mp hx with hx|hx
 ·exact H.xb y (List.mem_reverse.mp hy) x hx
 ·exact H.xa y (List.mem_reverse.mp hy) x hx
end
theorem oU{l:List Keyed}{n:Nat}{y:Keyed}(h:y∈l.take n):∃j,j<n/\l[j]?=some y:=by
 have:=kG (l:=l) (i:=0) (k:=n) (y:=y) (by simpa using h);obtain⟨j,hj,e⟩:=this;exact⟨j,hj,by simpa using e⟩
theorem zj{l:List Keyed}{m n:Nat}{y:Keyed}(h:y∈(l.take n).drop m):∃j,m<=j/\j<n/\l[j]?=some y:=by
 obtain⟨j,hj⟩:=lP h;rw[List.getElem?_take]at hj;split at hj
 ·next hjn=>exact⟨m+j,by left,hjn,hj⟩
 ·cases hj
theorem Na{l:List Keyed}{i:Nat}{x:Keyed}(h:l[i]?=some x):(l.take (i+1)).drop i=[x]:=by
 obtain⟨hi,rfl⟩:=List.getElem?_eq_some_iff.mp h;rw[List.take_succ_eq_append_getElem hi,List.drop_append];simp;rw[Nat.min_eq_left (by left),Nat.sub_self];rfl
section
variable {F:Keyed->Int}{a b out:Array Keyed}{na nb:Nat}
theorem Mv(a:Array Keyed)(n:Nat):(a.extract 0 n).toList=a.toList.take n:=by rw[ext_toList];simp
theorem Jl(K:H F a.toList b.toList out.toList na nb)(sa:Pw F a.toList)(sb:Pw F b.toList)(hc:na=0\/nb=0):Res F a.toList b.toList (a.extract 0 na++b.extract 0 nb++out.reverse):=by
 unfold Res;simp only[Array.toList_append,Mv,Array.toList_reverse];exact K.done sa sb hc
theorem NM(K:H F a.toList b.toList out.toList na nb)(sa:Pw F a.toList)(sb:Pw F b.toList)(e:nb=1)(h0:∀y,b[0]?=some y->∀x∈a.toList,F y<=F x):Res F a.toList b.toList (b.extract 0 nb++a.extract 0 na++out.reverse):=by
 unfold Res;simp only[Array.toList_append,Mv,Array.toList_reverse];refine K.first sa sb λy hy z hz=>?_;obtain⟨j,hj,e'⟩:=oU hy;have:j=0:=by left
 subst this;exact h0 y (wB e') z (YA hz)
theorem H.Np(K:H F a.toList b.toList out.toList (na+1) nb)(sa:Pw F a.toList){x:Keyed}(hx:a[na]?=some x)(hc:∀z∈b.toList.take nb,F z<=F x):H F a.toList b.toList (out.push x).toList na nb:=by
 have:=K.qf sa (show na<=na+1 by left) λy hy z hz=>by
  rw[Na (sN hx),List.mem_singleton]at hy;subst hy;exact hc z hz
 rw[Na (sN hx)]at this;rw[Array.toList_push];exact this
theorem H.KI(K:H F a.toList b.toList out.toList na (nb+1))(sb:Pw F b.toList){y:Keyed}(hy:b[nb]?=some y)(hc:∀z∈a.toList.take na,F z<=F y):H F a.toList b.toList (out.push y).toList na nb:=by
 have:=K.qe sb (show nb<=nb+1 by left) λx hx z hz=>by
  rw[Na (sN hy),List.mem_singleton]at hx;subst hx;exact hc z hz
 rw[Na (sN hy)]at this;rw[Array.toList_push];exact this
theorem Ad(a:Array Keyed)(m n:Nat):((a.extract m n).reverse).toList=((a.toList.take n).drop m).reverse:=by
 rw[Array.toList_reverse,ext_toList,List.drop_take]
theorem H.Q8(K:H F a.toList b.toList out.toList na nb)(sa:Pw F a.toList){m:Nat}(hm:m<=na)(hc:∀i x,m<=i->i<na->a[i]?=some x->∀z∈b.toList.take nb,F z<=F x):H F a.toList b.toList (out++(a.extract m na).reverse).toList m nb:=by
 rw[Array.toList_append,Ad];exact K.qf sa hm λx hx z hz=>by
  obtain⟨j,h1,h2,e⟩:=zj hx;exact hc j x h1 h2 (wB e) z hz
theorem H.Q7(K:H F a.toList b.toList out.toList na nb)(sb:Pw F b.toList){m:Nat}(hm:m<=nb)(hc:∀i x,m<=i->i<nb->b[i]?=some x->∀z∈a.toList.take na,F z<=F x):H F a.toList b.toList (out++(b.extract m nb).reverse).toList na m:=by
 rw[Array.toList_append,Ad];exact K.qe sb hm λx hx z hz=>by
  obtain⟨j,h1,h2,e⟩:=zj hx;exact hc j x h1 h2 (wB e) z hz
theorem Pw.tl(sa:Pw F a.toList){n:Nat}{x:Keyed}(hx:a[n]?=some x):∀z∈a.toList.take (n+1),F z<=F x:=λz hz=>by
 obtain⟨j,hj,e⟩:=oU hz;exact sa.ix (by left) (wB e) hx
theorem H.pA(K:H F a.toList b.toList out.toList na nb)(sa:Pw F a.toList){x:Keyed}(h1:1<=na)(hx:a[na - 1]?=some x)(hc:∀z∈b.toList.take nb,F z<=F x):H F a.toList b.toList (out.push x).toList (na - 1) nb:=by
 obtain⟨n,rfl⟩:∃n,na=n+1:=⟨na - 1,by left⟩
 exact K.Np sa hx hc
theorem H.pB(K:H F a.toList b.toList out.toList na nb)(sb:Pw F b.toList){y:Keyed}(h1:1<=nb)(hy:b[nb - 1]?=some y)(hc:∀z∈a.toList.take na,F z<=F y):H F a.toList b.toList (out.push y).toList na (nb - 1):=by
 obtain⟨n,rfl⟩:∃n,nb=n+1:=⟨nb - 1,by left⟩
 exact K.KI sb hy hc
theorem Pw.M_(sa:Pw F a.toList){n:Nat}{x:Keyed}(h1:1<=n)(hx:a[n - 1]?=some x):∀z∈a.toList.take n,F z<=F x:=by
 obtain⟨n,rfl⟩:∃m,n=m+1:=⟨n - 1,by left⟩
 exact sa.tl hx
end
section
variable {prog:az}{w:World}{A:av}{E:aq}{s:Shared}{κ:SortKind}{a₀:Array Keyed}{F:Keyed->Int}(L:nc prog w A E s κ a₀ F)
include L
theorem EW{a b:Array Keyed}{st:SortSt}{Q:Array Keyed->SortSt->Prop}(hk:kindOf st=κ)(ma:∀x∈a.toList,x∈a₀.toList)(mb:∀x∈b.toList,x∈a₀.toList)(sa:Pw F a.toList)(sb:Pw F b.toList)(ha:1<=a.size)(hb:1<=b.size)
  (h0:∀y,b[0]?=some y->∀x∈a.toList,F y<=F x) (hl:∀y∈b.toList,∀z,a[a.size - 1]?=some z->F y<=F z) (h:∀r aO,aF st aO->Res F a.toList b.toList r->Q r aO):wpS (model prog w) A E s (zi a b) Q st:=by
 obtain⟨x0,PU,WW⟩:=eL (a:=a) (i:=a.size - 1) (by left);have J0:H F a.toList b.toList (#[]:Array Keyed).toList a.size b.size:=⟨by simp[List.take_of_length_le],.nil,(λ_ h=>nomatch h),(λ_ h=>nomatch h)⟩
 have J1:=J0.pA sa ha PU λz hz=>hl z (YA hz) x0 PU;refine Xl (wpS_lift (Yn ⟨rfl,?_⟩));refine Xl (bh PU ?_);dsimp only;by_cases e1:a.size - 1=0
 ·refine bo (by simpa using e1) ?_;exact Xn (h _ st (.mU st) (Jl J1 sa sb (.inl e1)))
 refine bp (by simpa using e1) ?_;by_cases e2:b.size=1
 ·refine bo (by simpa using e2) ?_;exact Xn (h _ st (.mU st) (NM J1 sa sb e2 h0))
 refine bp (by simpa using e2) ?_;refine Xl (YC ?_);refine Xl (XS (XD (I:=λx c aO=>aF st aO/\∃na nb out g,c=(none,na,nb,out,g)/\H F a.toList b.toList out.toList na nb/\1<=na/\2<=nb/\na<=a.size/\nb<=b.size/\x+1+na+nb<=a.size+b.size)
  (Q:=λc aO=>aF st aO/\∃r na nb o g,c=(some r,na,nb,o,g)/\Res F a.toList b.toList r) ?step ?fin ⟨.mU st,_,_,_,_,rfl,J1,by left,by left,by left,by left,by left⟩) ?post)
 case fin =>
  rintro c aO ⟨S,na,nb,out,g,rfl,JJ,sr,vb,ja,jb,hx⟩;left
 case post =>
  rintro c aO ⟨S,r,na,nb,o,g,rfl,hr⟩;exact Xn (h r aO S hr)
 case step =>
  rintro x c g5 _ G3 ⟨S1,na,nb,out,g,rfl,JJ,sr,vb,ja,jb,hx⟩;dsimp only;refine Xl (XS (XD (I:=λx' c aO=>g5=aO/\∃na nb out ac bc,c=(none,na,nb,out,ac,bc)/\H F a.toList b.toList out.toList na nb/\1<=na/\2<=nb/\na<=a.size/\nb<=b.size/\x+1+x'+na+nb<=a.size+b.size)
   (Q:=λc aO=>g5=aO/\((∃r na nb o ac bc,c=(some r,na,nb,o,ac,bc)/\Res F a.toList b.toList r)\/∃na nb out ac bc,c=(none,na,nb,out,ac,bc)/\H F a.toList b.toList out.toList na nb/\1<=na/\2<=nb/\na<=a.size/\nb<=b.size/\x+2+na+nb<=a.size+b.size)) ?_ ?_ ⟨rfl,_,_,_,_,_,rfl,JJ,sr,vb,ja,jb,by left⟩) ?_)
  ·rintro x' c aO _ zI ⟨rfl,na,nb,out,ac,bc,rfl,JJ,sr,vb,ja,jb,hx⟩;dsimp only;obtain⟨y,hy,my⟩:=eL (show nb - 1<b.size by left);obtain⟨z,hz,mz⟩:=eL (show na - 1<a.size by left);refine Xl (bh hy (Xl (bh hz (Xl (L y z (mb y my) (ma z mz) g5 _ (S1.k.trans hk) ?_)))));by_cases b9:F y<F z
   ·refine bo (XU b9) ?_;have J2:=JJ.pA sa sr hz λv hv=>XT (sb.M_ (by left) hy v hv) (X2 b9);refine Xl (bh hz ?_);by_cases ea:na - 1=0
    ·refine bo (by simpa using ea) ?_;exact Xn ⟨rfl,.inl ⟨_,_,_,_,_,_,rfl,Jl J2 sa sb (.inl ea)⟩⟩
    refine bp (by simpa using ea) ?_;exact fK (λ_=>Xn ⟨rfl,.inr ⟨_,_,_,_,_,rfl,J2,by left,by left,by left,by left,by left⟩⟩) (λ_=>Xn ⟨rfl,_,_,_,_,_,rfl,J2,by left,by left,by left,by left,by left⟩)
   ·refine bp (by simpa using b9) ?_;have J2:=JJ.pB sb (by left) hy λv hv=>XT (sa.M_ sr hz v hv) (Int.not_lt.mp b9);refine Xl (bh hy ?_);by_cases eb:nb - 1=1
    ·refine bo (by simpa using eb) ?_;exact Xn ⟨rfl,.inl ⟨_,_,_,_,_,_,rfl,NM J2 sa sb eb h0⟩⟩
    refine bp (by simpa using eb) ?_;exact fK (λ_=>Xn ⟨rfl,.inr ⟨_,_,_,_,_,rfl,J2,by left,by left,by left,by left,by left⟩⟩) (λ_=>Xn ⟨rfl,_,_,_,_,_,rfl,J2,by left,by left,by left,by left,by left⟩)
  ·rintro c aO ⟨rfl,na,nb,out,ac,bc,rfl,JJ,sr,vb,ja,jb,hx⟩;exact⟨rfl,.inr ⟨_,_,_,_,_,rfl,JJ,sr,vb,ja,jb,by left⟩⟩
  rintro c aO ⟨rfl,⟨r,na,nb,o,ac,bc,rfl,hr⟩|⟨na,nb,out,ac,bc,rfl,JJ,sr,vb,ja,jb,hx⟩⟩
  ·exact Xn ⟨S1,_,_,_,_,_,rfl,hr⟩
  dsimp only;refine Xl (wpS_lift (Yn ⟨rfl,?_⟩));obtain⟨lw,hlw⟩:∃lw,lw=x+2:=⟨_,rfl⟩
  rw[<- hlw]at hx;refine Xl (XS (XD (I:=λx' c aO=>aF st aO/\∃na nb out g ac bc,c=(none,na,nb,out,g,ac,bc)/\H F a.toList b.toList out.toList na nb/\1<=na/\2<=nb/\na<=a.size/\nb<=b.size/\lw+na+nb<=a.size+b.size)
   (Q:=λc aO=>aF st aO/\((∃r na nb o g ac bc,c=(some r,na,nb,o,g,ac,bc)/\Res F a.toList b.toList r)\/∃na nb out g ac bc,c=(none,na,nb,out,g,ac,bc)/\H F a.toList b.toList out.toList na nb/\1<=na/\2<=nb/\na<=a.size/\nb<=b.size/\lw+na+nb<=a.size+b.size)) ?_ ?_ ⟨S1,_,_,_,_,_,_,rfl,JJ,sr,vb,ja,jb,hx⟩) ?_)
  ·clear JJ sr vb ja jb hx S1;rintro x' c g5 _ zI ⟨S1,na,nb,out,g,ac,bc,rfl,JJ,sr,vb,ja,jb,hx⟩;dsimp only;apply Aq
   ·intro key;by_cases hg:g>1
    ·refine bo hg ?_;generalize g - 1=z
     revert z
     exact key
    ·refine bp hg ?_;generalize g=z
     revert z
     exact key
   intro g;refine Xl (iW λuu S3=>?_);have S2:=S1.trans S3;clear S3;obtain⟨y0,si,IU⟩:=eL (show nb - 1<b.size by left);refine Xl (bh si ?_);refine Xl (eB L (base:=0) (S2.k.trans hk) (mb y0 IU) (show na - 1<na by left) (by left) (λi z _ _ hz=>ma z (by simpa using List.mem_of_getElem? (sN hz))) (λi j z z' _ cX _ hz q_=>sa.ix cX hz q_) λk SV g1 g2=>?_);dsimp only;simp only[Bool.false_eq_true,if_false,Nat.zero_add]at g1 g2;have SH:∀z∈a.toList.take k,F z<=F y0:=λz hz=>by
    obtain⟨j,hj,e⟩:=oU hz;exact g1 j z hj (wB e)
   have JC:=JJ.Q8 sa SV λi z h1 h2 hz z' q_=>XT (sb.M_ (by left) si z' q_) (X2 (g2 i z h1 h2 hz));apply Aq
   ·intro key;by_cases k0:na - k>0
    ·refine bo k0 ?_;by_cases HZ:k=0
     ·refine bo (by clear key;simpa using HZ) ?_;exact Xn ⟨S2,.inl ⟨_,_,_,_,_,_,_,rfl,Jl JC sa sb (.inl HZ)⟩⟩
     refine bp (by clear key;simpa using HZ) ?_;have zL:1<=k:=by clear key;left
     have hsz:k<=a.size:=by clear key;left
     have jO:lw+k+nb<=a.size+b.size:=by clear key;left
     have K1:=JC;have nK:=SH;generalize na - k=ac;generalize out++(a.extract k na).reverse=o1 at K1 ⊢;generalize k=n1 at K1 nK zL hsz jO ⊢
     revert jO
     revert hsz
     revert zL
     revert nK
     revert K1
     revert n1
     revert o1
     revert ac
     exact key
    ·refine bp k0 ?_;have z0:k=na:=by clear key;left
     have zL:1<=na:=by clear key;left
     have hsz:na<=a.size:=by clear key;left
     have jO:lw+na+nb<=a.size+b.size:=by clear key;left
     have K1:=JJ;have nK:=SH;rw[z0]at nK;generalize na - k=ac;generalize out=o1 at K1 ⊢;generalize na=n1 at K1 nK zL hsz jO ⊢
     revert jO
     revert hsz
     revert zL
     revert nK
     revert K1
     revert n1
     revert o1
     revert ac
     exact key
   intro ac o1 n1 J1 wQ zL hsz jO;have J2:=J1.pB sb (by left) si wQ;refine Xl (bh si ?_);by_cases eb:nb - 1=1
   ·refine bo (by simpa using eb) ?_;exact Xn ⟨S2,.inl ⟨_,_,_,_,_,_,_,rfl,NM J2 sa sb eb h0⟩⟩
   refine bp (by simpa using eb) ?_;obtain⟨x,hx,mx⟩:=eL (show n1 - 1<a.size by left);refine Xl (bh hx ?_);refine Xl (eB L (base:=0) (S2.k.trans hk) (ma x mx) (show nb - 1 - 1<nb - 1 by left) (by left) (λi z _ _ hz=>mb z (by simpa using List.mem_of_getElem? (sN hz))) (λi j z z' _ cX _ hz q_=>sb.ix cX hz q_) λk2 SU g1 g2=>?_);dsimp only;simp only[if_true,Nat.zero_add]at g1 g2;have AL:∀z∈b.toList.take k2,F z<=F x:=λz hz=>by
    obtain⟨j,hj,e⟩:=oU hz;exact X2 (g1 j z hj (wB e))
   have RK:=J2.Q7 sb SU λi z h1 h2 hz z' q_=>XT (sa.M_ zL hx z' q_) (g2 i z h1 h2 hz);by_cases k0:nb - 1 - k2>0
   ·refine bo k0 ?_;by_cases Ju:k2=1
    ·refine bo (by simpa using Ju) ?_;exact Xn ⟨S2,.inl ⟨_,_,_,_,_,_,_,rfl,NM RK sa sb Ju h0⟩⟩
    refine bp (by simpa using Ju) ?_;by_cases Rf:k2=0
    ·refine bo (by simpa using Rf) ?_;exact Xn ⟨S2,.inl ⟨_,_,_,_,_,_,_,rfl,Jl RK sa sb (.inr Rf)⟩⟩
    refine bp (by simpa using Rf) ?_;have J3:=RK;have J4:=J3.pA sa zL hx AL;refine Xl (bh hx ?_);by_cases ea:n1 - 1=0
    ·refine bo (by simpa using ea) ?_;exact Xn ⟨S2,.inl ⟨_,_,_,_,_,_,_,rfl,Jl J4 sa sb (.inl ea)⟩⟩
    refine bp (by simpa using ea) ?_;exact fK (λ_=>Xn ⟨S2,.inr ⟨_,_,_,_,_,_,rfl,J4,by left,by left,by left,by left,by left⟩⟩) (λ_=>Xn ⟨S2,_,_,_,_,_,_,rfl,J4,by left,by left,by left,by left,by left⟩)
   ·refine bp k0 ?_;have z0:k2=nb - 1:=by left
    subst z0;have J3:=J2;have J4:=J3.pA sa zL hx AL;refine Xl (bh hx ?_);by_cases ea:n1 - 1=0
    ·refine bo (by simpa using ea) ?_;exact Xn ⟨S2,.inl ⟨_,_,_,_,_,_,_,rfl,Jl J4 sa sb (.inl ea)⟩⟩
    refine bp (by simpa using ea) ?_;exact fK (λ_=>Xn ⟨S2,.inr ⟨_,_,_,_,_,_,rfl,J4,by left,by left,by left,by left,by left⟩⟩) (λ_=>Xn ⟨S2,_,_,_,_,_,_,rfl,J4,by left,by left,by left,by left,by left⟩)
  ·rintro c aO ⟨S,na,nb,out,g,ac,bc,rfl,JJ,sr,vb,ja,jb,hx⟩;exact⟨S,.inr ⟨_,_,_,_,_,_,rfl,JJ,sr,vb,ja,jb,hx⟩⟩
  rintro c aO ⟨S,⟨r,na,nb,o,g,ac,bc,rfl,hr⟩|⟨na,nb,out,g,ac,bc,rfl,JJ,sr,vb,ja,jb,hx⟩⟩
  ·exact Xn ⟨S,_,_,_,_,_,rfl,hr⟩
  ·dsimp only;exact Xl (iW λuu S3=>Xn ⟨S.trans S3,_,_,_,_,rfl,JJ,sr,vb,ja,jb,by left⟩)
end
noncomputable def wr(o:Nat)(n:Nat)(l:List Keyed)(a:Array Keyed):Array Keyed:=(l.zipIdx n).foldl (λa (p,j)=>a.setIfInBounds (o+j) p) a
theorem A8(o n:Nat)(x:Keyed)(l:List Keyed)(a:Array Keyed):wr o n (x::l) a=wr o (n+1) l (a.setIfInBounds (o+n) x):=rfl
theorem oo(o:Nat):∀(l:List Keyed) (n:Nat) (a:Array Keyed),o+n+l.length<=a.size->(wr o n l a).size=a.size/\∀i,(wr o n l a)[i]?=if o+n<=i/\i<o+n+l.length then l[i - (o+n)]? else a[i]?
 |[],n,a,h=>⟨rfl,λi=>by rw[if_neg (by simp)];rfl⟩
 |x::l,n,a,h=>by
  rw[List.length_cons]at h;obtain⟨h1,h2⟩:=oo o l (n+1) (a.setIfInBounds (o+n) x) (by rw[Array.size_setIfInBounds];left);rw[A8];refine⟨by rw[h1,Array.size_setIfInBounds],λi=>?_⟩;rw[h2,Array.getElem?_setIfInBounds,List.length_cons];by_cases c1:o+n=i
  ·subst c1;rw[if_neg (by left),if_pos rfl,if_pos (by left),if_pos (by left),Nat.sub_self];rfl
  ·rw[if_neg c1];by_cases c2:o+(n+1)<=i/\i<o+(n+1)+l.length
   ·rw[if_pos c2,if_pos (by left)];obtain⟨j,hj⟩:∃j,i - (o+n)=j+1:=⟨i - (o+n) - 1,by left⟩
    rw[hj,List.getElem?_cons_succ];congr 1;left
   ·rw[if_neg c2,if_neg (by left)]
theorem A7{o:Nat}{l:List Keyed}{a:Array Keyed}(h:o+l.length<=a.size)(hp:l.Perm ((a.toList.drop o).take l.length)):(wr o 0 l a).Perm a:=by
 obtain⟨h1,h2⟩:=oo o l 0 a (by left);have e:(wr o 0 l a).toList=a.toList.take o++(l++a.toList.drop (o+l.length)):=by
  refine YM λi=>?_;have g:=h2 i;rw[Nat.add_zero,<- Array.getElem?_toList (xs:=a),<- Array.getElem?_toList (xs:=wr o 0 l a)]at g;have h3:a.toList.length=a.size:=Zf;rw[g,List.getElem?_append,List.length_take,Nat.min_eq_left (by left)];by_cases c1:i<o
  ·rw[if_neg (by left),if_pos c1,List.getElem?_take,if_pos c1]
  ·rw[if_neg c1,List.getElem?_append];by_cases c2:i<o+l.length
   ·rw[if_pos (by left),if_pos (by left)]
   ·rw[if_neg (by left),if_neg (by left),List.getElem?_drop];congr 1;left
 rw[Array.perm_iff_toList_perm,e];have e2:a.toList=a.toList.take o++((a.toList.drop o).take l.length++a.toList.drop (o+l.length)):=by
  rw[<- List.drop_drop,List.take_append_drop,List.take_append_drop]
 conv=>rhs;rw[e2]
 exact Yv _ (YS _ hp)
theorem D_{F:Keyed->Int}{xs:Array Keyed}(h:On F xs lo hi)(hs:hi<=xs.size):Pw F (xs.extract lo hi).toList:=by
 rw[ext_toList];refine List.pairwise_iff_getElem.mpr λi j dj wX cX=>?_;rw[List.length_take,List.length_drop,Array.length_toList]at dj wX;rw[List.getElem_take,List.getElem_take,List.getElem_drop,List.getElem_drop,Array.getElem_toList,Array.getElem_toList];have:=h (lo+i) (lo+j) (by left) (by left) (by left);rw[eP (getElem?_pos xs (lo+i) (by left)),eP (getElem?_pos xs (lo+j) (by left))]at this;exact this
theorem hU{a:Array Keyed}{i j:Nat}{x:Keyed}(h:x∈(a.extract i j).toList):∃t,i<=t/\t<j/\a[t]?=some x:=by
 rw[ext_toList]at h;obtain⟨k,hk,e⟩:=kG h;exact⟨i+k,by left,by left,wB e⟩
theorem ext_get{a:Array Keyed}{i j t:Nat}(h:i+t<j)(hj:j<=a.size):(a.extract i j)[t]?=a[i+t]?:=by
 rw[<- Array.getElem?_toList,ext_toList,List.getElem?_take,if_pos (by left),List.getElem?_drop,Array.getElem?_toList]
theorem rE{a:Array Keyed}{i j:Nat}(hj:j<=a.size):(a.extract i j).size=j - i:=by simp;left
theorem A9{M:Model}{A:av}{E:aq}{s:Shared}{σ:Type}{x:σ}{Q:PUnit->σ->Prop}{st:σ}(h:Q ⟨⟩ x):wpS M A E s (set x:StateT σ Sem PUnit) Q st:=by
 unfold wpS;rw[StateT.run_set];exact Xg ⟨rfl,h⟩
section
variable {prog:az}{w:World}{A:av}{E:aq}{s:Shared}{κ:SortKind}{a₀:Array Keyed}{F:Keyed->Int}(L:nc prog w A E s κ a₀ F)
include L
omit L in
theorem wD{xs:Array Keyed}{k m:Nat}{l:List Keyed}(hk:sa+k<=sb)(hm:m<=nb)(hs:sb+nb<=xs.size)(oa:On F xs sa sb)(ob:On F xs sb (sb+nb))(hl:l.length=sb+m - (sa+k))(pl:Pw F l)
  (ml:∀v∈l,∃t,sa+k<=t/\t<sb+m/\xs[t]?=some v) (h1:∀i,sa<=i->i<sa+k->∀t,sb<=t->t<sb+nb->R F xs i<=R F xs t) (h2:∀t,sb+m<=t->t<sb+nb->∀i,sa<=i->i<sb->R F xs i<=R F xs t):On F (wr (sa+k) 0 l xs) sa (sb+nb):=by
 obtain⟨_,g⟩:=oo (sa+k) l 0 xs (by left);have rI:∀i,¬ (sa+k<=i/\i<sb+m)->R F (wr (sa+k) 0 l xs) i=R F xs i:=λi hi=>fe (by rw[g,if_neg (by left)]);have rM:∀i,sa+k<=i->i<sb+m->∃v,l[i - (sa+k)]?=some v/\R F (wr (sa+k) 0 l xs) i=F v:=λi h h'=>by
  have b9:i - (sa+k)<l.length:=by left
  refine⟨l[i - (sa+k)],Xq b9,eP ?_⟩;rw[g,if_pos (by left),Nat.add_zero,List.getElem?_eq_getElem b9]
 have up:∀i,sa<=i->i<sa+k->∀v∈l,R F xs i<=F v:=λi hi dj v hv=>by
  obtain⟨t,t1,t2,e⟩:=ml v hv;rw[<- eP (F:=F) e];by_cases c:t<sb
  ·exact oa i t hi (by left) c
  ·exact h1 i hi dj t (by left) (by left)
 have dn:∀j,sb+m<=j->j<sb+nb->∀v∈l,F v<=R F xs j:=λj hj wX v hv=>by
  obtain⟨t,t1,t2,e⟩:=ml v hv;rw[<- eP (F:=F) e];by_cases c:t<sb
  ·exact h2 j hj wX t (by left) c
  ·exact ob t j (by left) (by left) wX
 intro i j hi cX hj;by_cases ci:sa+k<=i/\i<sb+m
 ·obtain⟨v,e,r⟩:=rM i ci.1 ci.2;rw[r];by_cases cj:sa+k<=j/\j<sb+m
  ·obtain⟨v',e',r'⟩:=rM j cj.1 cj.2;rw[r'];obtain⟨q1,rfl⟩:=List.getElem?_eq_some_iff.mp e;obtain⟨q2,rfl⟩:=List.getElem?_eq_some_iff.mp e';by_cases c:i=j
   ·subst c;exact Yr _
   ·exact List.pairwise_iff_getElem.mp pl _ _ q1 q2 (by left)
  ·rw[rI j cj];exact dn j (by left) hj v (Xw e)
 ·rw[rI i ci];by_cases cj:sa+k<=j/\j<sb+m
  ·obtain⟨v',e',r'⟩:=rM j cj.1 cj.2;rw[r'];exact up i hi (by left) v' (Xw e')
  ·rw[rI j cj];by_cases c1:i<sb
   ·by_cases c2:j<sb
    ·exact oa i j hi cX c2
    ·by_cases c3:i<sa+k
     ·exact h1 i hi c3 j (by left) hj
     ·exact h2 j (by left) hj i hi c1
   ·exact ob i j (by left) cX hj
theorem vV{st:SortSt}{i na pw qw:Nat}{Q:Bool->SortSt->Prop}(hB:SB a₀ κ st)(e1:(pendingOf st)[i]?=some (sa,na,pw))(e2:(pendingOf st)[i+1]?=some (sb,nb,qw))(u0:sb=sa+na)(sr:1<=na)(vb:1<=nb)(hs:sb+nb<=a₀.size)(oa:On F (arrOf st) sa sb)(ob:On F (arrOf st) sb (sb+nb))
  (h:∀aO,SB a₀ κ aO->pendingOf aO=((pendingOf st).setIfInBounds i (sa,na+nb,pw)).eraseIdxIfInBounds (i+1)->(∀t,t<sa\/sb+nb<=t->(arrOf aO)[t]?=(arrOf st)[t]?)->On F (arrOf aO) sa (sb+nb)->Q true aO):wpS (model prog w) A E s (mergeAt' i) Q st:=by
 have zV:SB a₀ κ (setPending st (((pendingOf st).setIfInBounds i (sa,na+nb,pw)).eraseIdxIfInBounds (i+1))):=⟨hB.perm,hB.kind,hB.failed⟩
 have sz:=hB.size;refine Xl (YC ?_);rw[e1,e2];dsimp only;refine Xl (A9 ?_);generalize kr:setPending st (((pendingOf st).setIfInBounds i (sa,na+nb,pw)).eraseIdxIfInBounds (i+1))=g5 at zV;have zY:arrOf g5=arrOf st:=by rw[<- kr]
 have G7:pendingOf g5=((pendingOf st).setIfInBounds i (sa,na+nb,pw)).eraseIdxIfInBounds (i+1):=by rw[<- kr]
 change wpS _ _ _ _ _ Q (setPending st (((pendingOf st).setIfInBounds i (sa,na+nb,pw)).eraseIdxIfInBounds (i+1)));rw[kr];have mm:∀(t:Nat) (x:Keyed),(arrOf st)[t]?=some x->x∈a₀.toList:=λt x e=>(Array.perm_iff_toList_perm.mp hB.perm).mem_iff.mp (Xw (sN e));obtain⟨y0,si,IU⟩:=hB.at (show sb<a₀.size by left);refine Xl (bh si ?_);refine Xl (eB L (arr:=arrOf st) zV.kind IU (show 0<na by left) (by left) (λt x _ _ e=>mm t x e) (λt u x y h1 h2 h3 ex ey=>by
  have:=oa t u h1 h2 (by left)
  rwa [eP ex,eP ey]at this) λk hk g1 g2=>?_)
 simp only[Bool.false_eq_true,if_false]at g1 g2;have low:∀i,sa<=i->i<sa+k->∀t,sb<=t->t<sb+nb->R F (arrOf st) i<=R F (arrOf st) t:=λi hi dj t ht P6=>by
  obtain⟨x,ex,_⟩:=hB.at (show i<a₀.size by left);have a1:=g1 (i - sa) x (by left) (by rw[show sa+(i - sa)=i by left];exact ex);have a2:=ob sb t (Xp _) ht P6;rw[eP si]at a2;rw[eP ex];exact XT a1 a2
 dsimp only;by_cases c0:na - k=0
 ·rw[if_pos (by simpa using c0)];refine Xn (h g5 zV G7 (λt _=>by rw[zY]) ?_);rw[zY];intro i j hi cX hj;by_cases ci:i<sb
  ·by_cases cj:j<sb
   ·exact oa i j hi cX cj
   ·exact low i hi (by left) j (by left) hj
  ·exact ob i j (by left) cX hj
 rw[if_neg (by simpa using c0)];obtain⟨z0,AK,UZ⟩:=hB.at (show sa+k+(na - k) - 1<a₀.size by left);refine Xl (bh AK ?_);refine Xl (eB L (arr:=arrOf st) zV.kind UZ (show nb - 1<nb by left) (by left) (λt x _ _ e=>mm t x e) (λt u x y h1 h2 h3 ex ey=>by
  have:=ob t u h1 h2 h3
  rwa [eP ex,eP ey]at this) λm hm q1 q2=>?_)
 simp only[if_true]at q1 q2;have high:∀t,sb+m<=t->t<sb+nb->∀i,sa<=i->i<sb->R F (arrOf st) i<=R F (arrOf st) t:=λt ht P6 i hi dj=>by
  obtain⟨x,ex,_⟩:=hB.at (show t<a₀.size by left);have a1:=q2 (t - sb) x (by left) (by left) (by rw[show sb+(t - sb)=t by left];exact ex);have a2:=oa i (sa+k+(na - k) - 1) hi (by left) (by left);rw[eP AK]at a2;rw[eP ex];exact XT a2 a1
 dsimp only;by_cases c1:m=0
 ·rw[if_pos (by simpa using c1)];refine Xn (h g5 zV G7 (λt _=>by rw[zY]) ?_);rw[zY];intro i j hi cX hj;by_cases ci:i<sb
  ·by_cases cj:j<sb
   ·exact oa i j hi cX cj
   ·exact high j (by left) hj i hi ci
  ·exact ob i j (by left) cX hj
 rw[if_neg (by simpa using c1)];have px:Pw F ((arrOf st).extract (sa+k) sb).toList:=D_ (λi j h1 h2 h3=>oa i j (by left) h2 h3) (by left);have py:Pw F ((arrOf st).extract sb (sb+m)).toList:=D_ (λi j h1 h2 h3=>ob i j h1 h2 (by left)) (by left);have mx:∀x∈((arrOf st).extract (sa+k) sb).toList,x∈a₀.toList:=λx hx=>by
  obtain⟨t,_,_,e⟩:=hU hx;exact mm t x e
 have my:∀x∈((arrOf st).extract sb (sb+m)).toList,x∈a₀.toList:=λx hx=>by
  obtain⟨t,_,_,e⟩:=hU hx;exact mm t x e
 have zx:((arrOf st).extract (sa+k) sb).size=sb - (sa+k):=rE (by left);have zy:((arrOf st).extract sb (sb+m)).size=sb+m - sb:=rE (by left);have SY:∀y,((arrOf st).extract sb (sb+m))[0]?=some y->∀x∈((arrOf st).extract (sa+k) sb).toList,F y<=F x:=λy ey x hx=>by
  rw[ext_get (by left) (by left),Nat.add_zero,si]at ey;obtain⟨t,t1,t2,e⟩:=hU hx;have:=g2 (t - sa) x (by left) (by left) (by rw[show sa+(t - sa)=t by left];exact e);rw[<- Option.some.inj ey];exact X2 this
 have SX:∀y∈((arrOf st).extract sb (sb+m)).toList,∀z,((arrOf st).extract (sa+k) sb)[((arrOf st).extract (sa+k) sb).size - 1]?=some z->F y<=F z:=λy hy z ez=>by
  rw[zx,ext_get (by left) (by left),show sa+k+(sb - (sa+k) - 1)=sa+k+(na - k) - 1 by left,AK]at ez;obtain⟨t,t1,t2,e⟩:=hU hy;have:=q1 (t - sb) y (by left) (by rw[show sb+(t - sb)=t by left];exact e);rw[<- Option.some.inj ez];exact X2 this
 have fin:∀(r:Array Keyed) (eU:SortSt),aF g5 eU->Res F ((arrOf st).extract (sa+k) sb).toList ((arrOf st).extract sb (sb+m)).toList r->Q true (setArr eU (wr (sa+k) 0 r.toList (arrOf eU))):=λr eU S hr=>by
  have QG:arrOf eU=arrOf st:=S.a.trans zY;have hlen:r.toList.length=sb+m - (sa+k):=by
   rw[hr.1.length_eq,List.length_append,Array.length_toList,Array.length_toList,zx,zy];left
  have QD:((arrOf st).toList.drop (sa+k)).take r.toList.length=((arrOf st).extract (sa+k) sb).toList++((arrOf st).extract sb (sb+m)).toList:=by
   rw[ext_toList,ext_toList,hlen,show sb+m - (sa+k)=(sb - (sa+k))+(sb+m - sb) by left,List.take_add,List.drop_drop,show sa+k+(sb - (sa+k))=sb by left]
  have rb:(wr (sa+k) 0 r.toList (arrOf st)).Perm (arrOf st):=A7 (by left) (by rw[QD];exact hr.1);obtain⟨_,gw⟩:=oo (sa+k) r.toList 0 (arrOf st) (by left);refine h _ ⟨?_,S.k.trans zV.kind,S.f.trans zV.failed⟩ (S.p.trans G7) (λt ht=>?_) ?_
  ·show(wr (sa+k) 0 r.toList (arrOf eU)).Perm a₀;rw[QG];exact rb.trans hB.perm
  ·show(wr (sa+k) 0 r.toList (arrOf eU))[t]?=_;rw[QG,gw,if_neg (by left)]
  ·show On F (wr (sa+k) 0 r.toList (arrOf eU)) sa (sb+nb);rw[QG];refine wD (by left) hm (by left) oa ob hlen hr.2 (λv hv=>?_) low high;rcases List.mem_append.mp (hr.1.mem_iff.mp hv)with hv|hv
   ·obtain⟨t,t1,t2,e⟩:=hU hv;exact⟨t,t1,by left,e⟩
   ·obtain⟨t,t1,t2,e⟩:=hU hv;exact⟨t,by left,t2,e⟩
 have Ey:∀(r:Array Keyed) (eU:SortSt),aF g5 eU->failedOf (setArr eU (wr (sa+k) 0 r.toList (arrOf eU)))=none:=λr eU S=>S.f.trans zV.failed;by_cases c2:na - k<=m
 ·rw[if_pos c2];refine Xl (EV L (a:=(arrOf st).extract (sa+k) sb) (b:=(arrOf st).extract sb (sb+m)) zV.kind mx my px py (by rw[zx];left) (by rw[zy];left) SY SX λr eU S hr=>?_);refine Xl (YK (Xl (YC (Xn ?_))));have hf:=Ey r eU S;change Q (failedOf (setArr eU (wr (sa+k) 0 r.toList (arrOf eU)))).isNone (setArr eU (wr (sa+k) 0 r.toList (arrOf eU)));rw[hf];exact fin r eU S hr
 ·rw[if_neg c2];refine Xl (EW L (a:=(arrOf st).extract (sa+k) sb) (b:=(arrOf st).extract sb (sb+m)) zV.kind mx my px py (by rw[zx];left) (by rw[zy];left) SY SX λr eU S hr=>?_);refine Xl (YK (Xl (YC (Xn ?_))));have hf:=Ey r eU S;change Q (failedOf (setArr eU (wr (sa+k) 0 r.toList (arrOf eU)))).isNone (setArr eU (wr (sa+k) 0 r.toList (arrOf eU)));rw[hf];exact fin r eU S hr
end
noncomputable abbrev Run:=Nat×Nat×Nat
def Chain(F:Keyed->Int)(xs:Array Keyed):Nat->List Run->Nat->Prop
 |c,[],hi=>c=hi
 |c,r::l,hi=>r.1=c/\1<=r.2.1/\On F xs c (c+r.2.1)/\Chain F xs (c+r.2.1) l hi
section
variable {F:Keyed->Int}{xs ys:Array Keyed}
theorem Chain.le:∀{l:List Run} {c hi:Nat},Chain F xs c l hi->c+l.length<=hi
 |[],c,hi,h=>by have:c=hi:=h;simp;left
 |r::l,c,hi,h=>by
  obtain⟨_,h1,_,h2⟩:=h;have:=h2.le;rw[List.length_cons];left
theorem Chain.out:∀{l:List Run} {c hi:Nat},Chain F xs c l hi->(∀t,c<=t->t<hi->ys[t]?=xs[t]?)->Chain F ys c l hi
 |[],_,_,h,_=>h
 |r::l,c,hi,⟨h1,h2,h3,h4⟩,e=>by
  have:=h4.le;exact⟨h1,h2,h3.out λi dj hj=>e i dj (by left),h4.out λt h h'=>e t (by left) h'⟩
theorem fF:∀{l m:List Run} {c hi:Nat},Chain F xs c (l++m) hi ↔ ∃d,Chain F xs c l d/\Chain F xs d m hi
 |[],m,c,hi=>⟨λh=>⟨c,rfl,h⟩,λ⟨d,h1,h2⟩=>by have:c=d:=h1;subst this;exact h2⟩
 |r::l,m,c,hi=>by
  constructor
  ·rintro ⟨h1,h2,h3,h4⟩;obtain⟨d,h5,h6⟩:=fF.mp h4;exact⟨d,⟨h1,h2,h3,h5⟩,h6⟩
  ·rintro ⟨d,⟨h1,h2,h3,h4⟩,h5⟩;exact⟨h1,h2,h3,fF.mpr ⟨d,h4,h5⟩⟩
theorem Chain.push{l:List Run}{c n q:Nat}(h:Chain F xs c l lo)(hn:1<=n)(ho:On F xs lo (lo+n)):Chain F xs c (l++[(lo,n,q)]) (lo+n):=fF.mpr ⟨lo,h,rfl,hn,ho,rfl⟩
theorem Chain.Ld{f:Run->Run}(hf:∀r,(f r).1=r.1/\(f r).2.1=r.2.1):∀{l:List Run} {i c hi:Nat},Chain F xs c l hi->Chain F xs c (l.modify i f) hi
 |[],i,_,_,h=>by cases i<;>exact h
 |r::l,0,c,hi,h=>by
  obtain⟨h1,h2,h3,h4⟩:=h;rw[List.modify_zero_cons];obtain⟨e1,e2⟩:=hf r;exact⟨e1.trans h1,by rw[e2];exact h2,by rw[e2];exact h3,by rw[e2];exact h4⟩
 |r::l,i+1,c,hi,h=>by
  obtain⟨h1,h2,h3,h4⟩:=h;rw[List.modify_succ_cons];exact⟨h1,h2,h3,h4.Ld hf⟩
end
section
variable {prog:az}{w:World}{A:av}{E:aq}{s:Shared}{κ:SortKind}{a₀:Array Keyed}{F:Keyed->Int}(L:nc prog w A E s κ a₀ F)
include L
theorem lr{st:SortSt}{i:Nat}{Q:Bool->SortSt->Prop}(hB:SB a₀ κ st)(hC:Chain F (arrOf st) 0 (pendingOf st).toList hi)(hh:hi<=a₀.size)(AO:i+1<(pendingOf st).size)
  (h:∀aO,SB a₀ κ aO->Chain F (arrOf aO) 0 (pendingOf aO).toList hi->(pendingOf aO).size+1=(pendingOf st).size->(∀t,hi<=t->(arrOf aO)[t]?=(arrOf st)[t]?)->Q true aO):wpS (model prog w) A E s (mergeAt' i) Q st:=by
 have hl:(pendingOf st).toList.length=(pendingOf st).size:=Zf;obtain⟨pre,x,y,post,e,ei⟩:∃pre x y post,(pendingOf st).toList=pre++x::y::post/\pre.length=i:=by
  refine⟨(pendingOf st).toList.take i,(pendingOf st).toList[i],(pendingOf st).toList[i+1],(pendingOf st).toList.drop (i+2),?_,by rw[List.length_take];left⟩;rw[<- List.drop_eq_getElem_cons,<- List.drop_eq_getElem_cons,List.take_append_drop]
 obtain⟨sa,na,pw⟩:=x;obtain⟨sb,nb,qw⟩:=y;rw[e]at hC;obtain⟨d,c1,c2⟩:=fF.mp hC;obtain⟨d1,d2,d3,d4,d5,d6,d7⟩:=c2;have d1:sa=d:=d1;have d4:sb=d+na:=d4;subst d1;subst d4;have l7:sa+na+nb+post.length<=hi:=d7.le;have lp:=c1.le;refine vV L (i:=i) (sa:=sa) (na:=na) (pw:=pw) (sb:=sa+na) (nb:=nb) (qw:=qw) hB ?_ ?_ rfl d2 d5 (by left) d3 d6 λaO B' P' O' S'=>?_
 ·rw[<- Array.getElem?_toList,e,List.getElem?_append_right (by left),ei,Nat.sub_self];rfl
 ·rw[<- Array.getElem?_toList,e,List.getElem?_append_right (by left),ei,show i+1 - i=1 by left];rfl
 ·have e':(pendingOf aO).toList=pre++(sa,na+nb,pw)::post:=by
   rw[P',Array.toList_eraseIdxIfInBounds,Array.toList_setIfInBounds,e,List.set_append_right _ _ (by left),ei,Nat.sub_self,List.set_cons_zero,List.eraseIdx_append_of_length_le (by left),ei,show i+1 - i=1 by left];rfl
  refine h aO B' ?_ ?_ λt ht=>O' t (.inr (by left))
  ·rw[e'];refine fF.mpr ⟨sa,c1.out λt _ ht=>O' t (.inl ht),rfl,?_,?_,?_⟩
   ·show 1<=na+nb;left
   ·show On F (arrOf aO) sa (sa+(na+nb));rw[<- Nat.add_assoc];exact S'
   ·show Chain F (arrOf aO) (sa+(na+nb)) post hi;rw[<- Nat.add_assoc];exact d7.out λt h1 _=>O' t (.inr h1)
  ·have h1:(pendingOf aO).toList.length=(pendingOf aO).size:=Zf;rw[e']at h1;rw[e]at hl;simp at h1 hl;left
end
section
variable {prog:az}{w:World}{A:av}{E:aq}{s:Shared}{κ:SortKind}{a₀:Array Keyed}{F:Keyed->Int}(L:nc prog w A E s κ a₀ F)
include L
theorem xU(D:M6 a₀ F){st:SortSt}{Q:Unit->SortSt->Prop}(hB:SB a₀ κ st)(hp:pendingOf st = #[])(h1:1<=a₀.size)(h:∀aO,SB a₀ κ aO->On F (arrOf aO) 0 a₀.size->Q () aO):wpS (model prog w) A E s sortRuns' Q st:=by
 rw[sortRuns'_eq];refine Xl (YC ?_);dsimp only;simp only[hB.size];generalize minRun' a₀.size a₀.size 0=mr;refine Xl (XS (XD (I:=λx c aO=>∃lo,c=(none,lo)/\lo<=a₀.size/\x<=lo/\SB a₀ κ aO/\Chain F (arrOf aO) 0 (pendingOf aO).toList lo)
  (Q:=λc aO=>c=(none,a₀.size)/\SB a₀ κ aO/\Chain F (arrOf aO) 0 (pendingOf aO).toList a₀.size) ?step ?fin ⟨0,rfl,by left,by left,hB,by rw[hp];rfl⟩) ?post)
 case fin =>
  rintro c aO ⟨lo,rfl,l1,l2,B,C⟩;have:lo=a₀.size:=by left
  subst this;exact⟨rfl,B,C⟩
 case step =>
  rintro x c g5 _ hx ⟨lo,rfl,l1,l2,B,C⟩;dsimp only;by_cases cl:lo ≥ a₀.size
  ·rw[if_pos cl];have:lo=a₀.size:=by left
   subst this;exact Xn ⟨rfl,B,C⟩
  rw[if_neg cl];refine Xl (vW L D (by left) (by left) B λm eU S2 m1 m2 O2=>?_);have C2:Chain F (arrOf eU) 0 (pendingOf eU).toList lo:=by
   rw[S2.pend];exact C.out λt _ ht=>S2.out t (.inl ht)
  dsimp only;by_cases cm:m<mr
  ·rw[if_pos cm];refine Xl (wpS_lift (Yn ⟨rfl,?_⟩));refine Xl (A_ L (n:=min (a₀.size - lo) mr) (by left) (by left) S2.sb O2 λuu S3 O3=>?_);have C3:Chain F (arrOf uu) 0 (pendingOf uu).toList lo:=by
    rw[S3.pend];exact C2.out λt _ ht=>S3.out t (.inl ht)
   have B3:=S3.sb;rw[if_neg (by simp)];have n1:1<=min (a₀.size - lo) mr:=by left
   have n2:lo+min (a₀.size - lo) mr<=a₀.size:=by left
   generalize min (a₀.size - lo) mr=n at O3 n1 n2 ⊢
   refine Xl (YC ?_);cases zV:(pendingOf uu).back? with
   |none =>
    dsimp only;refine Xl (YK (Xn ⟨lo+n,rfl,n2,by left,⟨B3.perm,B3.kind,B3.failed⟩,?_⟩));show Chain F (arrOf uu) 0 ((pendingOf uu).push (lo,n,0)).toList (lo+n);rw[Array.toList_push];exact C3.push n1 O3
   |some r =>
    obtain⟨s1,q1,w1⟩:=r;dsimp only;generalize power' a₀.size (2*s1+q1) (2*s1+q1+q1+n) a₀.size=pw;refine Xl (XS (XD (I:=λx' c aO=>c=(none,())/\SB a₀ κ aO/\Chain F (arrOf aO) 0 (pendingOf aO).toList lo/\On F (arrOf aO) lo (lo+n))
     (Q:=λc aO=>c=(none,())/\SB a₀ κ aO/\Chain F (arrOf aO) 0 (pendingOf aO).toList lo/\On F (arrOf aO) lo (lo+n)) ?_ (λ_ _ z=>z) ⟨rfl,B3,C3,O3⟩) ?_)
    ·rintro x' c Br _ _ ⟨rfl,B4,C4,O4⟩;refine Xl (YC ?_);by_cases c5:(pendingOf Br).size>1
     ·rw[if_pos c5];obtain⟨r,hr⟩:∃r,(pendingOf Br)[(pendingOf Br).size - 2]?=some r:=⟨(pendingOf Br)[(pendingOf Br).size - 2]'(by left),Zt _ _ _⟩
      rw[hr];dsimp only;by_cases c6:r.2.2<=pw
      ·rw[if_pos c6];exact Xn ⟨rfl,B4,C4,O4⟩
      ·rw[if_neg c6];refine Xl (lr L B4 C4 (by left) (by left) λDZ B5 C5 _ S5=>?_);rw[if_neg (by simp)];exact Xn ⟨rfl,B5,C5,O4.out λi h1 h2=>S5 i h1⟩
     ·rw[if_neg c5];exact Xn ⟨rfl,B4,C4,O4⟩
    ·rintro c Br ⟨rfl,B4,C4,O4⟩;dsimp only;refine Xl (YK (Xl (YK (Xn ⟨lo+n,rfl,n2,by left,⟨B4.perm,B4.kind,B4.failed⟩,?_⟩))));show Chain F (arrOf Br) 0 (((pendingOf Br).modify ((pendingOf Br).size - 1) λx=>(x.1,x.2.1,pw)).push (lo,n,0)).toList (lo+n);rw[Array.toList_push,Array.toList_modify];exact(C4.Ld (f:=λx=>(x.1,x.2.1,pw)) λr=>⟨rfl,rfl⟩).push n1 O4
  ·rw[if_neg cm];have C3:=C2;have B3:=S2.sb;have O3:=O2;have n1:=m1;have n2:lo+m<=a₀.size:=by left
   clear C2 S2 O2;generalize Vg:eU=uu at C3 B3 O3 ⊢;generalize W6:m=n at O3 n1 n2 ⊢
   refine Xl (YC ?_);cases zV:(pendingOf uu).back? with
   |none =>
    dsimp only;refine Xl (YK (Xn ⟨lo+n,rfl,n2,by left,⟨B3.perm,B3.kind,B3.failed⟩,?_⟩));show Chain F (arrOf uu) 0 ((pendingOf uu).push (lo,n,0)).toList (lo+n);rw[Array.toList_push];exact C3.push n1 O3
   |some r =>
    obtain⟨s1,q1,w1⟩:=r;dsimp only;generalize power' a₀.size (2*s1+q1) (2*s1+q1+q1+n) a₀.size=pw;refine Xl (XS (XD (I:=λx' c aO=>c=(none,())/\SB a₀ κ aO/\Chain F (arrOf aO) 0 (pendingOf aO).toList lo/\On F (arrOf aO) lo (lo+n))
     (Q:=λc aO=>c=(none,())/\SB a₀ κ aO/\Chain F (arrOf aO) 0 (pendingOf aO).toList lo/\On F (arrOf aO) lo (lo+n)) ?_ (λ_ _ z=>z) ⟨rfl,B3,C3,O3⟩) ?_)
    ·rintro x' c Br _ _ ⟨rfl,B4,C4,O4⟩;refine Xl (YC ?_);by_cases c5:(pendingOf Br).size>1
     ·rw[if_pos c5];obtain⟨r,hr⟩:∃r,(pendingOf Br)[(pendingOf Br).size - 2]?=some r:=⟨(pendingOf Br)[(pendingOf Br).size - 2]'(by left),Zt _ _ _⟩
      rw[hr];dsimp only;by_cases c6:r.2.2<=pw
      ·rw[if_pos c6];exact Xn ⟨rfl,B4,C4,O4⟩
      ·rw[if_neg c6];refine Xl (lr L B4 C4 (by left) (by left) λDZ B5 C5 _ S5=>?_);rw[if_neg (by simp)];exact Xn ⟨rfl,B5,C5,O4.out λi h1 h2=>S5 i h1⟩
     ·rw[if_neg c5];exact Xn ⟨rfl,B4,C4,O4⟩
    ·rintro c Br ⟨rfl,B4,C4,O4⟩;dsimp only;refine Xl (YK (Xl (YK (Xn ⟨lo+n,rfl,n2,by left,⟨B4.perm,B4.kind,B4.failed⟩,?_⟩))));show Chain F (arrOf Br) 0 (((pendingOf Br).modify ((pendingOf Br).size - 1) λx=>(x.1,x.2.1,pw)).push (lo,n,0)).toList (lo+n);rw[Array.toList_push,Array.toList_modify];exact(C4.Ld (f:=λx=>(x.1,x.2.1,pw)) λr=>⟨rfl,rfl⟩).push n1 O4
 case post =>
  rintro c g5 ⟨rfl,B,C⟩;dsimp only;have Vy:∀(c:Prop) [Decidable c] (p:Nat),(if c then p - 1 else p)<=p:=λc _ p=>by split<;>left
  have hlen:=C.le;rw[Array.length_toList]at hlen;refine Xl (XS (XD (I:=λx c aO=>c=(none,())/\SB a₀ κ aO/\Chain F (arrOf aO) 0 (pendingOf aO).toList a₀.size/\(pendingOf aO).size+x<=a₀.size+1)
   (Q:=λc aO=>c=(none,())/\SB a₀ κ aO/\Chain F (arrOf aO) 0 (pendingOf aO).toList a₀.size/\(pendingOf aO).size<=1) ?_ ?_ ⟨rfl,B,C,by left⟩) ?_)
  ·rintro x c eU _ hx ⟨rfl,B2,C2,z2⟩;refine Xl (YC ?_);by_cases cp:(pendingOf eU).size<=1
   ·rw[if_pos cp];exact Xn ⟨rfl,B2,C2,cp⟩
   rw[if_neg cp];refine Xl (lr L B2 C2 (Xp _) (XJ (Nat.add_le_add_right (Vy _ _) 1) (by left)) λuu B3 C3 z3 _=>?_);rw[if_neg (by simp)];exact Xn ⟨rfl,B3,C3,by left⟩
  ·rintro c eU ⟨rfl,B2,C2,z2⟩;exact⟨rfl,B2,C2,by left⟩
  ·rintro c eU ⟨rfl,B2,C2,z2⟩;dsimp only;refine Xn (h eU B2 ?_);generalize hpl:(pendingOf eU).toList=pl at C2;have hz:pl.length<=1:=by rw[<- hpl,Array.length_toList];exact z2
   cases pl with
   |nil=>have:0=a₀.size:=C2;left
   |cons r l =>
    have:l=[]:=by
     cases l with
     |nil=>rfl
     |cons _ _=>simp at hz
    subst this;obtain⟨_,_,o,e⟩:=C2;have e:0+r.2.1=a₀.size:=e;rw[<- e];exact o
end
end TS
end
section
namespace DI
open PySem PySem.Spec PyProof.Rows L2
theorem yS{α β:Type}(f:α->β){l l':List β}(h:l.Perm l'):∀m:List α,l'=m.map f->∃q:List α,q.Perm m/\l=q.map f:=by
 induction h with
 |nil=>intro m e;exact⟨[],by rw[List.map_eq_nil_iff.mp e.symm],rfl⟩
 |cons x _ ih =>
  intro m e;obtain⟨a,m',rfl,rfl,e'⟩:=List.map_eq_cons_iff.mp e.symm;obtain⟨q,h1,h2⟩:=ih m' e'.symm;exact⟨a::q,h1.cons a,by rw[h2];rfl⟩
 |swap x y l =>
  intro m e;obtain⟨a,m',rfl,rfl,e'⟩:=List.map_eq_cons_iff.mp e.symm;obtain⟨b,m2,rfl,rfl,e2⟩:=List.map_eq_cons_iff.mp e';exact⟨b::a::m2,.swap a b m2,by rw[<- e2];rfl⟩
 |trans _ _ i1 i2 =>
  intro m e;obtain⟨q,h1,h2⟩:=i2 m e;obtain⟨q',h3,h4⟩:=i1 q h2;exact⟨q',h3.trans h1,h4⟩
def BS(nss:ak)(ns:ab):Int:=((aX nss).idxOf ns:Nat)
variable {nss:ak}
theorem yN(h:nss.Nodup){a b:ab}(ha:a∈nss)(hb:b∈nss):decide (BS nss a<BS nss b)=HT.lexLt a b:=by
 have pm:(aX nss).Perm nss:=XB _ _;have r:=eG h;have ma:=Yb (pm.mem_iff.mpr ha);have mb:=Yb (pm.mem_iff.mpr hb);have ea:(aX nss)[(aX nss).idxOf a]=a:=YJ ma;have eb:(aX nss)[(aX nss).idxOf b]=b:=YJ mb;have up:=List.pairwise_iff_getElem.mp r;unfold BS;cases e:HT.lexLt a b with
 |true =>
  refine XU ?_;rcases Nat.lt_trichotomy ((aX nss).idxOf a) ((aX nss).idxOf b)with c|c|c
  ·left
  ·have:a=b:=by rw[<- ea,<- eb];congr 1
   subst this;rw[jM _ _ e]at e;cases e
  ·have:=up _ _ mb ma c;rw[ea,eb,jM _ _ e]at this;cases this
 |false =>
  refine XY λc=>?_;have:=up _ _ ma mb (by left);rw[ea,eb,e]at this;cases this
theorem BR{a b:ab}(ha:a∈nss)(hb:b∈nss)(e:BS nss a=BS nss b):a=b:=by
 have pm:(aX nss).Perm nss:=XB _ _;have ma:=Yb (pm.mem_iff.mpr ha);have mb:=Yb (pm.mem_iff.mpr hb);have ea:(aX nss)[(aX nss).idxOf a]=a:=YJ ma;have eb:(aX nss)[(aX nss).idxOf b]=b:=YJ mb;unfold BS at e;rw[<- ea,<- eb];congr 1;left
theorem kO:∀{aH:ag} {ns ms:ab},IntsAre aH ns->IntsAre aH ms->ns=ms
 |_,_,_,.nil,.nil=>rfl
 |_,_,_,.cons n t h,.cons _ _ h'=>by rw[kO h h']
variable {aH vs:ag}
theorem Bn{h:Heap}(t:jS h vs nss){i j:Nat}(hi:i<nss.length)(hj:j<nss.length)(e:vs[i]?=vs[j]?):nss[i]=nss[j]:=by
 obtain⟨x,aH,e1,⟨o,h1,_,n1,d1⟩,i2⟩:=t.2 i _ (Xq hi);obtain⟨y,kn,e2,⟨o',h2,_,n2,d2⟩,j2⟩:=t.2 j _ (Xq hj);rw[e1,e2]at e;cases e;rw[h1]at h2;cases h2;rw[d1]at d2;injection d2 with d2 _;have:aH=kn:=by simpa using d2
 subst this;exact kO i2 j2
structure Fn(vs:ag)(nss:ak):Prop where
 l:vs.length=nss.length
 f:∀(i j:Nat) (hi:i<nss.length) (hj:j<nss.length),vs[i]?=vs[j]?->nss[i]=nss[j]
theorem jS.fn{h:Heap}(t:jS h vs nss):Fn vs nss:=⟨t.1,λi j hi hj e=>Bn t hi hj e⟩
noncomputable def IQ(vs:ag)(nss:ak)(x:Keyed):Int:=by
 classical
 exact if h:∃i,i<nss.length/\vs[i]?=some x.1 then BS nss (nss.getD h.choose [])else 0
theorem lK(t:Fn vs nss){i:Nat}(hi:i<nss.length){x:Keyed}(e:vs[i]?=some x.1):IQ vs nss x=BS nss nss[i]:=by
 have hx:∃i,i<nss.length/\vs[i]?=some x.1:=⟨i,hi,e⟩
 have hc:=hx.choose_spec;unfold IQ;rw[dif_pos hx];have:nss[hx.choose]'hc.1=nss[i]:=t.f _ _ hc.1 hi (hc.2.trans e.symm);rw[<- this];simp[hc.1]
section
variable {prog:az}{w:World}{A:av}{E:aq}{s:Shared}
theorem Ck{κ:SortKind}(iU:nss.Nodup)(t:Fn vs nss)(b9:∀(i j:Nat) (hi:i<nss.length) (hj:j<nss.length) (a b:Value) (E':aq) (Q:Bool->Shared->Prop),vs[i]?=some a->vs[j]?=some b->Q (HT.lexLt nss[i] nss[j]) s->wpAny (model prog w) A (keyLt' κ a b) Q E' s):TS.nc prog w A E s κ (pairsOf vs) (IQ vs nss):=by
 have key:∀x∈(pairsOf vs).toList,∃i,∃hi:i<nss.length,vs[i]?=some x.1:=λx hx=>by
  rw[pairsOf_toList]at hx;obtain⟨i,hi⟩:=List.mem_iff_getElem?.mp hx;rw[List.getElem?_zip_eq_some]at hi;have b9:i<nss.length:=by
   rw[<- t.l];obtain⟨h,_⟩:=List.getElem?_eq_some_iff.mp hi.1;exact h
  exact⟨i,b9,hi.1⟩
 intro x y hx hy st Q kr hq;obtain⟨i,hi,ei⟩:=key x hx;obtain⟨j,hj,ej⟩:=key y hy;rw[lK t hi ei,lK t hj ej,yN iU (List.getElem_mem hi) (List.getElem_mem hj)]at hq;rw[lt'_eq];refine Xl (YC ?_);rw[kr];refine Xl (wpS_lift (Ym (b9 i j hi hj x.1 y.1 _ _ ei ej ⟨rfl,?_⟩)));exact Xn hq
theorem vy(iU:nss.Nodup)(t:Fn vs nss):TS.M6 (pairsOf vs) (IQ vs nss):=by
 have inj:∀x∈(pairsOf vs).toList,∃i,∃hi:i<nss.length,vs[i]?=some x.1/\vs[i]?=some x.2:=λx hx=>by
  rw[pairsOf_toList]at hx;obtain⟨i,hi⟩:=List.mem_iff_getElem?.mp hx;rw[List.getElem?_zip_eq_some]at hi;have b9:i<nss.length:=by
   rw[<- t.l];obtain⟨h,_⟩:=List.getElem?_eq_some_iff.mp hi.1;exact h
  exact⟨i,b9,hi.1,hi.2⟩
 refine⟨?_,λx hx y hy e=>?_⟩
 ·rw[pairsOf_toList];refine List.pairwise_iff_getElem.mpr λi j hi hj cX e=>?_;rw[List.length_zip,Nat.min_self]at hi hj;rw[List.getElem_zip,List.getElem_zip]at e;have e':vs[i]?=vs[j]?:=by rw[List.getElem?_eq_getElem hi,List.getElem?_eq_getElem hj];exact X0 some (Prod.ext_iff.mp e).1
  have:=t.f i j (by rw[<- t.l];exact hi) (by rw[<- t.l];exact hj) e';have:=(Yx iU).mp this;left
 ·obtain⟨i,hi,e1,e2⟩:=inj x hx;obtain⟨j,hj,f1,f2⟩:=inj y hy;rw[lK t hi e1,lK t hj f1]at e;have:=(Yx iU).mp (BR (XF hi) (XF hj) e);subst this;rw[e1]at f1;rw[e2]at f2;exact Prod.ext (Xv f1) (Xv f2)
theorem yy{κ:SortKind}(iU:nss.Nodup)(t:Fn vs nss){aO:SortSt}(B:TS.SB (pairsOf vs) κ aO)(O:TS.On (IQ vs nss) (arrOf aO) 0 (pairsOf vs).size):∃p,Arr p vs.length/\(p.toList.map λi=>nss.getD i [])=aX nss/\(arrOf aO).map (·.2)=List.toArray (p.toList.map λi=>vs.getD i Value.none)/\failedOf aO=none:=by
 have hl:=t.l;have e0:(pairsOf vs).toList=(List.range vs.length).map λi=>(vs.getD i Value.none,vs.getD i Value.none):=by
  rw[pairsOf_toList];refine Yz (by simp) λi h1 h2=>?_;rw[List.length_zip,Nat.min_self]at h1;simp[h1]
 obtain⟨q,hq,eq⟩:=yS _ (Array.perm_iff_toList_perm.mp B.perm) _ e0;have hz:(pairsOf vs).size=vs.length:=by rw[<- Array.length_toList,e0];simp
 have Vl:q.length=vs.length:=by rw[hq.length_eq];simp
 have Vk:∀i∈q,i<vs.length:=λi hi=>List.mem_range.mp (hq.mem_iff.mp hi);have D:=vy iU t;refine⟨q.toArray,⟨by simp[Vl],by simpa using hq⟩,?_,?_,B.failed⟩
 ·refine i6 iU ?_ ?_
  ·refine List.pairwise_iff_getElem.mpr λi j hi hj cX=>?_;simp only[List.length_map]at hi hj;have hi:i<q.length:=by simpa using hi
   have hj:j<q.length:=by simpa using hj
   have o:=O i j (XH _) (by left) (by left);have ne:=D.ne B (i:=i) (j:=j) (by left) (by left) (by left);have g:∀k (hk:k<q.length),∃hv:q[k]<nss.length,TS.R (IQ vs nss) (arrOf aO) k=BS nss nss[q[k]]:=λk hk=>by
    have hv:=Vk q[k] (XF hk);refine⟨by left,?_⟩;have e1:(arrOf aO)[k]?=some (vs.getD q[k] Value.none,vs.getD q[k] Value.none):=by
     rw[<- Array.getElem?_toList,eq,List.getElem?_map,List.getElem?_eq_getElem hk];rfl
    rw[TS.eP e1];exact lK t (by left) (by simp[hv])
   obtain⟨vi,gi⟩:=g i hi;obtain⟨vj,gj⟩:=g j hj;rw[gi,gj]at o ne;have:=yN iU (XF vi) (XF vj);rw[decide_eq_true (by left)]at this;simp only[List.getElem_map,List.toList_toArray];simpa [vi,vj]using this.symm
  ·have e:nss=(List.range nss.length).map λi=>nss.getD i []:=by
    refine Yz (by simp) λi h1 h2=>?_;simp[h1]
   conv=>rhs;rw[e]
   rw[hl]at hq;exact(by simpa using hq:q.toArray.toList.Perm _).map _
 ·apply Array.toList_inj.mp;rw[Array.toList_map,eq,List.map_map];simp[Function.comp_def]
theorem qm{a:Addr}{n:Nat}{P:PySem.Fin->Shared->Prop}(ho:s.heap.get? a=some (seqObj "list" vs.toArray n))(mJ:vs.length<100000)(iU:nss.Nodup)
  (ht:Fn vs nss) (KP:SortKind->Prop) (Vx:vs≠[]->∀Q:SortKind->Shared->Prop,(∀κ,KP κ->Q κ ({ s with heap:=((s.heap.update a (Obj.mapSeq λ_=>#[])).push (seqObj "tuple" vs.toArray 0)).push (seqObj "list" #[] 0) }:Shared))->wpAny (model prog w) A (keyKind' vs.toArray) Q E ({ s with heap:=((s.heap.update a (Obj.mapSeq λ_=>#[])).push (seqObj "tuple" vs.toArray 0)).push (seqObj "list" #[] 0) }:Shared))
  (b9:∀κ,KP κ->∀(i j:Nat) (hi:i<nss.length) (hj:j<nss.length) (a' b':Value) (E':aq) (Q:Bool->Shared->Prop),vs[i]?=some a'->vs[j]?=some b'->Q (HT.lexLt nss[i] nss[j]) ({ s with heap:=((s.heap.update a (Obj.mapSeq λ_=>#[])).push (seqObj "tuple" vs.toArray 0)).push (seqObj "list" #[] 0) }:Shared)->wpAny (model prog w) A (keyLt' κ a' b') Q E' ({ s with heap:=((s.heap.update a (Obj.mapSeq λ_=>#[])).push (seqObj "tuple" vs.toArray 0)).push (seqObj "list" #[] 0) }:Shared))
  (h:∀p:Array Nat,Arr p vs.length->(p.toList.map λi=>nss.getD i [])=aX nss->P (.done (.ret .none)) { s with heap:=sortedHeap s.heap a vs (List.toArray (p.toList.map λi=>vs.getD i Value.none)) }) :
  wpAny (model prog w) A (Builtin.«list.sort» ⟨[.ref a],[]⟩) P E s:=by
 rw[list_sort_plain];have ha:a<s.heap.objs.size:=Xk ho;have hsz:vs.toArray.size=vs.length:=by simp
 have hz:vs.length<=sizeLine:=by rw[sizeLine_eq];left
 have hl:=ht.l;refine Xf (listItems_at ho rfl (Xf (listUpdate_at ho rfl ?_ (by rw[hsz];exact hz) (XH _))));obtain⟨e1,Jg⟩:∃e1,(s.heap.update a (Obj.mapSeq λ_=>#[])).get? a=some (seqObj "list" #[] e1):=⟨_,get?_update_seq ho (λ_=>#[])⟩
 refine Xf (seqEpoch_at Jg rfl (Xf (wpAny_newTuple (Xf (YV (XI ?_) (XH _))) (by simpa using hz))));have SR:(((s.heap.update a (Obj.mapSeq λ_=>#[])).push (seqObj "tuple" vs.toArray 0)).push (seqObj "list" #[] 0)).get? a=some (seqObj "list" #[] e1):=Xj _ (Xj _ Jg);show wpAny (model prog w) A _ P E ({ s with heap:=((s.heap.update a (Obj.mapSeq λ_=>#[])).push (seqObj "tuple" vs.toArray 0)).push (seqObj "list" #[] 0) }:Shared);dsimp only;have fin:∀(aO:SortSt) (p:Array Nat),Arr p vs.length->(p.toList.map λi=>nss.getD i [])=aX nss->(arrOf aO).map (·.2)=List.toArray (p.toList.map λi=>vs.getD i Value.none)->failedOf aO=none->wpAny (model prog w) A (do
   let touched:=(<- seqEpoch a) != e1
   Builtin.List.listUpdate (.ref a) λ_=>(arrOf aO).map (·.2)
   if let some e:=failedOf aO then rule "list.sort.comparison-raised";throw e
   if touched then rule "list.sort.modified";raiseError "ValueError" "list modified during sort"
   ret .none) P E ({ s with heap:=((s.heap.update a (Obj.mapSeq λ_=>#[])).push (seqObj "tuple" vs.toArray 0)).push (seqObj "list" #[] 0) }:Shared):=by
  intro aO p hp hs hA hF;refine Xf (seqEpoch_at SR rfl ?_);rw[hA];refine Xf (listUpdate_at SR rfl ?_ (XH _) (by rw[List.size_toArray,List.length_map,Array.length_toList,hp.sz];exact Zo hz));rw[hF];simp only[bne_self_eq_false,Bool.false_eq_true,if_false];exact Xg (h p hp hs)
 by_cases h2:vs.toArray.size<2
 ·rw[if_pos h2,if_pos h2];refine Xf (Xg ?_);rw[StateT.run_pure];refine Xf (Xg ?_);rw[hsz]at h2;have QI:Arr (List.toArray (List.range vs.length)) vs.length:=⟨by simp,by simp⟩
  refine fin (SortSt.mk' general' (vs.toArray.zip vs.toArray) #[] 7 none) (List.toArray (List.range vs.length)) QI ?_ ?_ rfl
  ·rw[hl]at QI ⊢;exact wc iU QI λi j cX hj=>by left
  ·apply Array.toList_inj.mp;show(Array.map (·.2) (vs.toArray.zip vs.toArray)).toList=_;rw[Array.toList_map,show(vs.toArray.zip vs.toArray)=pairsOf vs from rfl,pairsOf_toList,List.map_snd_zip (Nat.le_refl _)];refine Yz (by simp) λi h1 h2=>?_;simp[h1]
 ·rw[if_neg h2,if_neg h2];rw[hsz]at h2;refine Xf (Vx (λz=>by rw[z]at h2;simp at h2) _ λκ hk=>?_);have W:=TS.xU (prog:=prog) (w:=w) (A:=A) (E:=E) (s:=({ s with heap:=((s.heap.update a (Obj.mapSeq λ_=>#[])).push (seqObj "tuple" vs.toArray 0)).push (seqObj "list" #[] 0) }:Shared)) (st:=SortSt.mk' κ (pairsOf vs) #[] 7 none) (Q:=λ_ aO=>∃p,Arr p vs.length/\(p.toList.map λi=>nss.getD i [])=aX nss/\(arrOf aO).map (·.2)=List.toArray (p.toList.map λi=>vs.getD i Value.none)/\failedOf aO=none) (Ck iU ht (b9 κ hk)) (vy iU ht) ⟨Array.Perm.refl _,rfl,rfl⟩ rfl (by
   have:(pairsOf vs).toList.length=vs.length:=by rw[pairsOf_toList,List.length_zip,Nat.min_self]
   rw[Array.length_toList]at this;left) λaO B O=>yy iU ht B O
  refine Xf (XE W (λr s' bH=>?_) λ_ _ e=>e);obtain⟨e,p,hp,hs,hA,hF⟩:=bH;subst e;exact fin r.2 p hp hs hA hF
theorem wd{a:Addr}{n:Nat}{P:PySem.Fin->Shared->Prop}(hu:A.units<cLine)(ho:s.heap.get? a=some (seqObj "list" vs.toArray n))(mJ:vs.length<100000)(iU:nss.Nodup)
  (ht:jS (((s.heap.update a (Obj.mapSeq λ_=>#[])).push (seqObj "tuple" vs.toArray 0)).push (seqObj "list" #[] 0)) vs nss)
  (h:∀p:Array Nat,Arr p vs.length->(p.toList.map λi=>nss.getD i [])=aX nss->P (.done (.ret .none)) { s with heap:=sortedHeap s.heap a vs (List.toArray (p.toList.map λi=>vs.getD i Value.none)) }) :
  wpAny (model prog w) A (Builtin.«list.sort» ⟨[.ref a],[]⟩) P E s :=
 qm ho mJ iU ht.fn AG (λsj Q hQ=>kind_any ht sj hQ) (λκ hk i j hi hj a' b' E' Q ea eb hq=>by
  obtain⟨x,aH,e1,i1,i2⟩:=ht.2 i _ (Xq hi);obtain⟨y,kn,e2,j1,j2⟩:=ht.2 j _ (Xq hj);rw[e1]at ea;rw[e2]at eb;cases ea;cases eb;exact Gz hk hu i1 j1 i2 j2 hq) h
end
variable {Q:Value->Shared->Prop}{ep:Nat}
section
variable {prog:az}{w:World}{A:av}{E:aq}{s:Shared}
theorem Al{es:Array DictEntry}(hh:A.handled=none)(I d:Addr)(sj:d≠I):Walks prog w A I [I,d] [I] es.size (λi v=>∃e,es[i]?=some e/\v=e.key) (λi h=>h.IsKeyIter I d i es.size ep/\iM h d es ep) where
 sub:=λb hb=>by simp at hb;simp[hb]
 frame:=λ_ _ _ st hk=>⟨st.1.at λo e=>hk I (by simp) o e,let ⟨o,ho,r⟩:=st.2;⟨o,hk d (by simp) o ho,r⟩⟩
 item:=λi s Q E hi st hQ=>C_ st.1 st.2 hi λh' CA wU=>hQ _ h' s.toks ⟨es[i],Yf hi,rfl⟩ ⟨CA,let ⟨o,ho,r⟩:=st.2;⟨o,wU.extBut d o sj ho,r⟩⟩ λb o hb e=>wU.extBut b o (λh=>hb (by simp[h])) e
 done:=λs Q E st hQ=>Ii hh st.1 st.2 (Xp _) λh' VD=>hQ h' s.toks λb o hb e=>VD b o (λh=>hb (by simp[h])) e
 self:=λ_ _ _ _ st hQ=>wpAny_pyIter_keyiter st.1 hQ
theorem Ih{d:Addr}{es:Array DictEntry}(lo:(d==sysModules)=false):PySem.W.KdlSrc prog w "dict" d d es.size (λi v=>∃e,es[i]?=some e/\v=e.key) (λh=>iM h d es ep) where
 type:=λ_ hm=>hm.typeIs
 there:=λ_ hm=>let ⟨_,ho,_⟩:=hm;⟨Xk ho,Xk ho⟩
 keep:=λ_ _ hm hk=>let ⟨o,ho,r⟩:=hm;⟨o,hk d (.inl rfl) o ho,r⟩
 notList:=by decide
 notTuple:=by decide
 hint:=λ_ _ _ _ hm hq=>PySem.W.kdl_hint_dict hm.typeIs hq
 iter:=λ_ _ hh hm=>⟨_,_,(λ_ _ hq=>Dc lo hm hq),Al hh _ d (let ⟨_,ho,_⟩:=hm;Xt (Xk ho)),⟨⟨_,Xs _ rfl,rfl,rfl⟩,let ⟨o,ho,r⟩:=hm;⟨o,Xj _ ho,r⟩⟩⟩
theorem ql{d:Addr}{es:Array DictEntry}(hh:A.handled=none)(hu:A.units+2<cLine)(lo:(d==sysModules)=false)(hm:iM s.heap d es ep)(mJ:es.size<1000)(iU:nss.Nodup)(ht:jS s.heap (es.toList.map (·.key)) nss)
  (h:∀(S:Addr) (h':Heap) (tk e:Nat) (p:Array Nat),s.heap.get? S=none->(∀b o,s.heap.get? b=some o->h'.get? b=some o)->Arr p es.size->(p.toList.map λi=>nss.getD i [])=aX nss ->
   h'.get? S=some (seqObj "list" (List.toArray (p.toList.map λi=>(es.toList.map (·.key)).getD i Value.none)) e)->Q (.ref S) { s with heap:=h',toks:=tk }) :
  wpAny (model prog w) A (call (.builtin "sorted") [.ref d]) Q E s:=by
 refine YF kind_sorted plain_sorted entry_sorted (args_sorted1 _) ?_;unfold Builtin.«sorted»;have hz:es.size<=sizeLine:=by rw[sizeLine_eq];left
 refine Xf (m:=checkCount "sorted" 1 1 _) (Xg (Xf (PySem.W.kdu_collect (A:=A.in1) (Ih lo) hh hm hz λh1 tk acc hk fR=>?_)));have Mc:acc.toList=es.toList.map (·.key):=by
  refine YM λi=>?_;rw[List.getElem?_map,Array.getElem?_toList,Array.getElem?_toList];by_cases hi:i<es.size
  ·have pZ:i<acc.size:=by rw[fR.1];exact hi
   obtain⟨e,he,hv⟩:=fR.2 i acc[i] (Yf pZ);rw[Array.getElem?_eq_getElem pZ,he,hv];rfl
  ·rw[Array.getElem?_eq_none (by rw[fR.1];left),Array.getElem?_eq_none (by left)];rfl
 rw[Mc];generalize PY:es.toList.map (·.key)=vs at *;have Jd:vs.length=es.size:=by rw[<- PY];simp
 refine Xf (YV ?_ (by rw[Jd];exact hz));show wpAny _ _ _ _ _ ({ s with heap:=h1.push (seqObj "list" vs.toArray 0),toks:=tk }:Shared);have LP:(h1.push (seqObj "list" vs.toArray 0)).get? h1.objs.size=some (seqObj "list" vs.toArray 0):=Xs _ rfl;have k6:∀b o,s.heap.get? b=some o->((((h1.push (seqObj "list" vs.toArray 0)).update h1.objs.size (Obj.mapSeq λ_=>#[])).push (seqObj "tuple" vs.toArray 0)).push (seqObj "list" #[] 0)).get? b=some o:=λb o e=>by
  refine Xj _ (Xj _ ?_);rw[Heap.get?_update_other _ _ (Nat.ne_of_gt (Heap.lt_size (hk b o e)))];exact Xj _ (hk b o e)
 have hle:s.heap.get? h1.objs.size=none:=by
  cases q:s.heap.get? h1.objs.size with
  |none=>rfl
  |some o=>exact absurd (Xk (hk _ o q)) (XA _)
 refine Xf (XI (XG slot_list_sort ⟨_,LP,rfl⟩ entry_list_sort (wd (s:={ s with heap:=h1.push (seqObj "list" vs.toArray 0),toks:=tk }) (nss:=nss) (show A.in1.in1.units<cLine by show A.units+1+1<cLine;left) LP (by rw[Jd];left) iU (ht.mono k6) λp hp hs=>⟨_,rfl,?_⟩) (args_list_sort _)));obtain⟨e,he⟩:=sortedHeap_at (out:=List.toArray (p.toList.map λi=>vs.getD i Value.none)) LP;refine Xg ⟨_,rfl,h h1.objs.size _ tk e p hle (λb o e=>?_) (by rw[<- Jd];exact hp) hs he⟩;have b9:=Xk (hk b o e);rw[sortedHeap_old (Nat.ne_of_lt b9) (by rw[size_push'];exact Nat.lt_succ_of_lt b9)];exact Xj _ (hk b o e)
end
section
variable {α β:Type}
noncomputable def cO:ak->List α->ab->Option α
 |c'::cs,v::vs,c=>if c'=c then some v else cO cs vs c
 |_,_,_=>none
noncomputable def setC:ak->List α->ab->α->List α
 |c'::cs,v'::vs,c,v=>(if c'=c then v else v')::setC cs vs c v
 |_,_,_,_=>[]
noncomputable def cG(cs:ak)(c:ab):ak:=if c∈cs then cs else cs++[c]
noncomputable def r6(cs:ak)(as:List α)(c:ab)(a:α):List α:=if c∈cs then as else as++[a]
def bK(cs:ak)(vs:List α)(c:ab)(v:α):List α:=if c∈cs then setC cs vs c v else vs++[v]
end
section
variable {zs:List (ab×Addr×Value)}{c:ab}
theorem oh:∀(zs:List (ab×Addr×Value)) (c:ab),(atKey zs c).map (·.2)=cO (zs.map (·.1)) (zs.map (·.2.2)) c
 |[],_=>rfl
 |z::zs,c=>by
  have ih:=oh zs c;unfold atKey at ih ⊢;rw[List.find?_cons];show _=if z.1=c then some z.2.2 else cO (zs.map (·.1)) (zs.map (·.2.2)) c
  by_cases e:z.1=c
  ·rw[decide_eq_true e,if_pos e];rfl
  ·rw[decide_eq_false e,if_neg e];exact ih
theorem dv:∀(zs:List (ab×Addr×Value)) (c:ab),(atKey zs c).isSome=true ↔ c∈zs.map (·.1)
 |[],c=>by simp[atKey]
 |z::zs,c=>by
  have ih:=dv zs c;unfold atKey at ih ⊢;rw[List.find?_cons,List.map_cons,List.mem_cons];by_cases e:z.1=c
  ·rw[decide_eq_true e];simp[e]
  ·rw[decide_eq_false e];rw[ih];exact⟨.inr,λh=>h.resolve_left λz=>e z.symm⟩
theorem jZ(a:Addr)(v:Value):(storedH zs c a v).map (·.1)=cG (zs.map (·.1)) c:=by
 unfold storedH cG;by_cases h:c∈zs.map (·.1)
 ·rw[if_pos ((dv zs c).mpr h),if_pos h,List.map_map];refine XZ λz _=>?_;show(putAt c v z).1=z.1;unfold putAt;split<;>rfl
 ·rw[if_neg (λz=>h ((dv zs c).mp z)),if_neg h,List.map_append];rfl
theorem qk(a:Addr)(v:Value):(storedH zs c a v).map (·.2.1)=r6 (zs.map (·.1)) (zs.map (·.2.1)) c a:=by
 unfold storedH r6;by_cases h:c∈zs.map (·.1)
 ·rw[if_pos ((dv zs c).mpr h),if_pos h,List.map_map];refine XZ λz _=>?_;show(putAt c v z).2.1=z.2.1;unfold putAt;split<;>rfl
 ·rw[if_neg (λz=>h ((dv zs c).mp z)),if_neg h,List.map_append];rfl
theorem qC(v:Value):∀zs:List (ab×Addr×Value),(zs.map (putAt c v)).map (·.2.2)=setC (zs.map (·.1)) (zs.map (·.2.2)) c v
 |[]=>rfl
 |z::zs=>by
  show(putAt c v z).2.2::((zs.map (putAt c v)).map (·.2.2))=(if z.1=c then v else z.2.2)::setC (zs.map (·.1)) (zs.map (·.2.2)) c v;rw[qC v zs];unfold putAt;by_cases e:z.1=c
  ·rw[if_pos e,if_pos e]
  ·rw[if_neg e,if_neg e]
theorem qj(a:Addr)(v:Value):(storedH zs c a v).map (·.2.2)=bK (zs.map (·.1)) (zs.map (·.2.2)) c v:=by
 unfold storedH bK;by_cases h:c∈zs.map (·.1)
 ·rw[if_pos ((dv zs c).mpr h),if_pos h];exact qC v zs
 ·rw[if_neg (λz=>h ((dv zs c).mp z)),if_neg h,List.map_append];rfl
end
theorem p5{c:ab}{v:V}{u:Value}(r:RelV v u):∀{cs:ak} {xs:ae} {us:ag},Vals xs us->Vals (setC cs xs c v) (setC cs us c u)
 |[],_,_,h=>by cases h<;>exact .nil
 |c'::cs,_,_,h=>by
  cases h with
  |nil=>exact .nil
  |cons h t =>
   refine .cons ?_ (p5 r t);show RelV (if c'=c then v else _) (if c'=c then u else _);by_cases e:c'=c
   ·rw[if_pos e,if_pos e];exact r
   ·rw[if_neg e,if_neg e];exact h
theorem nh{v:V}{u:Value}(r:RelV v u):∀{xs:ae} {us:ag},Vals xs us->Vals (xs++[v]) (us++[u])
 |_,_,.nil=>.cons r .nil
 |_,_,.cons h t=>.cons h (nh r t)
theorem xX{cs:ak}{xs:ae}{us:ag}(h:Vals xs us){c:ab}{v:V}{u:Value}(r:RelV v u):Vals (bK cs xs c v) (bK cs us c u):=by
 unfold bK;by_cases e:c∈cs
 ·rw[if_pos e,if_pos e];exact p5 r h
 ·rw[if_neg e,if_neg e];exact nh r h
theorem p6:∀{cs:ak} {xs:ae} {us:ag} (_:Vals xs us) (c:ab),ue (cO cs xs c) (cO cs us c)
 |[],_,_,_,_=>by cases ‹Vals _ _› <;> exact True.intro
 |c'::cs,_,_,h,c=>by
  cases h with
  |nil=>exact True.intro
  |cons h t =>
   show ue (if c'=c then some _ else _) (if c'=c then some _ else _);by_cases e:c'=c
   ·rw[if_pos e,if_pos e];exact h
   ·rw[if_neg e,if_neg e];exact p6 t c
variable {pos pos':Pos}
section
variable {X:Cx}{pins:ah}{σ:St}{H:Hp}{s:Shared}{p b:Addr}{cs:ak}{as:aP}{xs:ae}{ep:Nat}{c:ab}{A:av}{E:aq}
theorem items_int:∀{c:ab} {aH:ag},Vals (c.map V.int) aH->ItemsAre (intKind X.prog X.w) c aH
 |[],_,h=>by cases h;exact .nil
 |i::c,_,h=>by
  cases h with
  |cons h t =>
   obtain⟨t',rfl⟩:=h;exact .cons (by simp[intKind,Value.isInt]) (items_int t)
theorem o3(I:Inv X pins σ H s)(h:aR X.K H b (c.map V.int)):(tupleKind (intKind X.prog X.w)).is s.heap c b:=by
 obtain⟨aH,rv,⟨o,h1,h2,n,h3⟩,_⟩:=I.tuple h;exact⟨o,aH.toArray,n,h1,h2,h3,by simpa using items_int rv⟩
theorem pj(I:Inv X pins σ H s)(h:H p=some (.ext (DO p cs as xs ep)))(k:eR (aR X.K H) as cs):
  ∃(zs:List (ab×Addr×Value)) (o:Obj) (es:Array DictEntry),zs.map (·.1)=cs/\zs.map (·.2.1)=as/\Vals xs (zs.map (·.2.2))/\s.heap.get? p=some o/\o.ExactDict/\o.data=.dict es ep /\
   s.heap.DictOfH (tupleKind (intKind X.prog X.w)) p zs/\es.toList=zs.map (entryOfKey (tupleKind (intKind X.prog X.w)))/\cs.length<=sizeLine/\(p==sysModules)=false:=by
 obtain⟨⟨zs,o,es,e1,e2,e3,ho,hx,hd,he,hn,hl,hs⟩,_⟩:=(show b8 X.prog X.w H s.heap p (.ext (DO p cs as xs ep)) from I.cq p _ h)
 refine⟨zs,o,es,e1,e2,e3,ho,hx,hd,⟨o,es,ep,ho,hx,hd,he,λz hz=>?_,by rw[e1];exact hn⟩,he,hl,hs⟩;obtain⟨j,hj⟩:=List.mem_iff_getElem?.mp hz;exact o3 I (k.tup j z.2.1 z.1 (by rw[<- e2,List.getElem?_map,hj];rfl) (by rw[<- e1,List.getElem?_map,hj];rfl))
theorem dict_cls(I:Inv X pins σ H s)(h:H p=some (.ext (DO p cs as xs ep))):s.TypeIs (.ref p) "dict" /\ ∀b,Value.ref p=.ref b->∃ob,s.heap.get? b=some ob/\ob.dict=none:=by
 obtain⟨⟨zs,o,es,e1,e2,e3,ho,hx,_⟩,_⟩:=(show b8 X.prog X.w H s.heap p (.ext (DO p cs as xs ep)) from I.cq p _ h)
 exact⟨⟨o,ho,hx.1⟩,λb q=>by cases q;exact⟨o,ho,hx.2.1⟩⟩
theorem tX{v:V}{r:Value}{Q:Unit->Shared->Prop}(hu:A.units+1<cLine)(I:Inv X pins σ H s)(h:H p=some (.ext (DO p cs as xs ep)))(k:eR (aR X.K H) as cs)(hb:aR X.K H b (c.map V.int))(rv:RelV v r)(b9:cs.length<sizeLine)
  (hQ:∀nW s',Inv X pins σ (upd H p (.ext (DO p (cG cs c) (r6 cs as c b) (bK cs xs c v) nW))) s'->Q () s') :
  wpAny (model X.prog X.w) A (setItem (.ref p) (.ref b) r) Q E s:=by
 obtain⟨zs,o,es,e1,e2,e3,ho,hx,hd,dd,_,hl,hs⟩:=pj I h k;have hz:zs.length<=sizeLine:=by rw[<- e1,List.length_map]at hl;exact hl
 refine wpAny_setItem_heap (hsz:=hz) (tupleKind_room_in1 hu) (o3 I hb) dd λh' Ru u0=>?_;obtain⟨q,AU,nW,hq,h2,h3,h4,_,h5⟩:=Ru;refine hQ nW _ (I.write (x:=p) (e:=p) (by rw[h];exact True.intro) (.inl rfl) (λb q hb z=>(u0.2 b hb).trans z) ⟨q,hq⟩ ⟨⟨storedH zs c b r,q,AU,?_,?_,?_,hq,h2,h3,h4,?_,?_,hs⟩,⟨q,hq⟩,?_⟩)
 ·rw[jZ,e1]
 ·rw[qk,e1,e2]
 ·rw[qj,e1];exact xX e3 rv
 ·rw[<- e1,<- jZ (zs:=zs) (c:=c) b r];exact h5
 ·unfold cG;split
  ·exact hl
  ·rw[List.length_append,List.length_singleton];left
 ·rintro h1 QU ⟨DL,o',es'',f1,f2,f3,f4,f5⟩ kk;exact⟨DL,o',es'',f1,f2,f3,kk _ f4,f5⟩
theorem BX:PE X (.Dict [] [] pos) (λ_ H Q=>∀p,H p=none->Q (.ref p) (upd H p (.ext (DO p [] [] [] 0)))):=λpins s σ H Q I h=>by
 have Hh:sysModules<s.heap.objs.size:=Yt (by decide) (show mainGlobals<s.heap.objs.size from(I.mod.glob.keeps I.bk).lt);refine wpAny_Dict_empty ⟨.ref s.heap.objs.size,_,I.laid (a:=s.heap.objs.size) (o:=.ext (DO s.heap.objs.size [] [] [] 0)) (t':=s.toks) (λ_ _ q=>Xj _ q) (Xp _) ?_,rfl,h _ (I.cq.fresh (Xp _))⟩;have hg:(s.heap.push { cls:=.type "dict",data:=.dict #[] }).get? s.heap.objs.size=some { cls:=.type "dict",data:=.dict #[] }:=Xs _ rfl;refine⟨⟨[],_,#[],rfl,rfl,.nil,hg,⟨rfl,rfl,rfl⟩,rfl,rfl,Yu,XH _,beq_eq_false_iff_ne.mpr (YB (Xt Hh))⟩,⟨_,hg⟩,?_⟩;rintro h1 QU ⟨DL,o',es'',f1,f2,f3,f4,f5⟩ kk;exact⟨DL,o',es'',f1,f2,f3,kk _ f4,f5⟩
end
variable {N:gu}{T:kC}
theorem kK{N':gu}{k k':bg}{v:V}{d:D}(h:Rep T N k v d)(hf:aY anyF d=false):Rep T N' k' v d:=by
 have:=Rep.gen (T':=T) (N':=N') (g:=id) (P:=anyF) (C:=λ_ _=>True) (I:=λ_ _=>True) (λ_ _ h=>h) trivial (λ_ _ e=>e) (λ_ _ _ _ e _=>e) (λk k' p xs f _ hz _=>nomatch hz) h (k':=k') trivial hf;rw[dA]at this;exact this
theorem qy{T:kC}{N:gu}:∀{cs:ak} {k:bg} {n:Nat} {xs:ae} {ds:aa} (_:aA T N k n xs ds) (c:ab),(cO cs xs c=none/\cO cs ds c=none)\/∃v d k',cO cs xs c=some v/\cO cs ds c=some d/\Rep T N k' v d/\d∈ds
 |[],_,_,_,_,_,_=>by cases ‹aA _ _ _ _ _ _› <;> exact .inl ⟨rfl,rfl⟩
 |c'::cs,_,_,_,_,r,c=>by
  cases r with
  |nil=>exact .inl ⟨rfl,rfl⟩
  | @cons _ _ v d vs ds h t =>
   by_cases e:c'=c
   ·exact .inr ⟨v,d,_,X1 e,X1 e,h,Xo⟩
   ·have e1:∀{α:Type} (a:α) (l:List α),cO (c'::cs) (a::l) c=cO cs l c:=λa l=>Y5 e;rw[e1,e1];rcases qy (cs:=cs) t c with h|⟨v',d',k',h1,h2,h3,h4⟩
    ·exact .inl h
    ·exact .inr ⟨v',d',k',h1,h2,h3,Xm _ h4⟩
theorem qx{T:kC}{N:gu}{c:ab}{v:V}{d:D}(hv:∀k,Rep T N k v d):∀{cs:ak} {k:bg} {n:Nat} {xs:ae} {ds:aa},aA T N k n xs ds->aA T N k n (setC cs xs c v) (setC cs ds c d)
 |[],_,_,_,_,r=>by cases r<;>exact .nil
 |c'::cs,_,_,_,_,r=>by
  cases r with
  |nil=>exact .nil
  |cons h t =>
   refine .cons ?_ (qx hv t);show Rep _ _ _ (if c'=c then v else _) (if c'=c then d else _);by_cases e:c'=c
   ·rw[if_pos e,if_pos e];exact hv _
   ·rw[if_neg e,if_neg e];exact h
theorem nB{T:kC}{N:gu}{v:V}{d:D}(hv:∀k,Rep T N k v d):∀{k:bg} {n:Nat} {xs:ae} {ds:aa},aA T N k n xs ds->aA T N k n (xs++[v]) (ds++[d])
 |_,_,_,_,.nil=>.cons (hv _) .nil
 |_,_,_,_,.cons h t=>.cons h (nB hv t)
variable {ds xs:aa}
theorem yD{c:ab}{v:V}{d:D}(hv:∀k,Rep T N k v d){cs:ak}{k:bg}{n:Nat}{xs:ae}(r:aA T N k n xs ds):aA T N k n (bK cs xs c v) (bK cs ds c d):=by
 unfold bK;by_cases e:c∈cs
 ·rw[if_pos e,if_pos e];exact qx hv r
 ·rw[if_neg e,if_neg e];exact nB hv r
theorem zw{as:aP}{cs:ak}(k:eR T as cs){b:Addr}{c:ab}(hb:T b (c.map V.int)):eR T (r6 cs as c b) (cG cs c):=by
 unfold r6 cG;by_cases e:c∈cs
 ·rw[if_pos e,if_pos e];exact k
 ·rw[if_neg e,if_neg e];refine⟨by rw[List.length_append,List.length_append,k.len];rfl,λj a c' ha hc=>?_⟩;by_cases hj:j<as.length
  ·rw[List.getElem?_append_left hj]at ha;rw[List.getElem?_append_left (by rw[<- k.len];exact hj)]at hc;exact k.tup j a c' ha hc
  ·rw[List.getElem?_append_right (by left)]at ha;rw[List.getElem?_append_right (by rw[<- k.len];left),<- k.len]at hc;cases hz:j - as.length with
   |zero =>
    rw[hz]at ha hc;cases ha;cases hc;exact hb
   |succ m=>rw[hz]at ha;cases ha
variable {K:ai}{τ:Addr->Option bg}
theorem bJ.newD{G R:af}{fv:aK}{H H':Hp}{p:Addr}(hp:H p=none)(hl:H' p=some (.ext (DO p [] [] [] 0))):bJ K G R τ fv H H' (.ref p) (.cu .ow [] []):=by
 refine⟨λq=>if q=p then some []else none,λq k hq=>?_,.cu (ep:=0) (as:=[]) (xs:=[]) ⟨hl,by simp⟩ ⟨rfl,λj a c h=>by simp at h⟩ .nil⟩;by_cases tI:q=p
 ·subst tI;exact hp
 ·simp[tI]at hq
noncomputable def vx(xs:aa):O D:=match xs with
 |[]=>ok (.cu .ow [] [])
 |_::_=>none
noncomputable def pF(_:Scope)(_:ao)(e:Expr):Option (aw):=match e with
 |.Dict [] [] _=>some []
 |_=>none
variable {F:Addr->Prop}{X:Cx}{args:aw}{cs:aD}{Φ:ba}
theorem C9{n:Nat}(hΦ:Φ n=vx){sc:Scope}{bl:ao}{k:Nat}(L:PX X sc bl k){e:Expr}(he:pF sc bl e=some args)(hs:lj X F Φ cs args):PE X e (tD X F Φ (.cL n cs))/\PT X e (f_ X F Φ (.cL n cs)):=by
 have h1:∃pos,e=.Dict [] [] pos/\args=[]:=by
  unfold pF at he;split at he
  ·cases he;exact⟨_,rfl,rfl⟩
  ·cases he
 obtain⟨pos,rfl,rfl⟩:=h1;cases cs with
 |cons _ _=>exact hs.elim
 |nil =>
  have this:PE X (.Dict [] [] pos) (tD X F Φ (.cL n [])):=by
   refine PE.imp (BX (X:=X) (pos:=pos)) λσ H Q hq p hp=>?_;obtain⟨R,τ,ρ,d,Si,ev,hq⟩:=hq;have ev:Φ n []=ok d:=ev;rw[hΦ]at ev;cases ev;exact hq _ _ (aF.upd hp) (bJ.newD hp aT)
  exact⟨this,cw this λ_=>rfl⟩
noncomputable def three{α:Type}:List α->Option (α×α×α)
 |[a,b,c]=>some (a,b,c)
 |_=>none
theorem yb{α:Type}{l:List α}{z:α×α×α}(h:three l=some z):l=[z.1,z.2.1,z.2.2]:=by
 unfold three at h;split at h
 ·cases h;rfl
 ·cases h
noncomputable def gf:D->Option (ak×aa)
 |.cu _ cs vs=>some (cs,vs)
 |_=>none
def keyOf:D->Option (ab)
 |.tup ks=>intsOf ks
 |_=>none
theorem mq{d:D}{z:ak×aa}(h:gf d=some z):∃f,d=.cu f z.1 z.2:=by
 cases d<;>first | (cases h;done) | (cases h;exact⟨_,rfl⟩)
theorem gJ{d:D}{c:ab}(h:keyOf d=some c):d=.tup (c.map D.int):=by
 cases d<;>first | (cases h;done)|skip
 rw[c_ (show intsOf _=some c from h)]
def xo(xs:aa):O D:=match two xs with
 |some z=>match gf z.1 with
  |some d=>match keyOf z.2 with
   |some c=>match cO d.1 d.2 c with
    |some v=>if aY anyF v=false then ok v else none
    |none=>none
   |none=>none
  |none=>none
 |none=>none
theorem Dd{r:D}(h:xo xs=ok r):∃f cs vs c,xs=[.cu f cs vs,.tup (c.map D.int)]/\cO cs vs c=some r/\aY anyF r=false:=by
 unfold xo at h;cases h1:two xs with
 |none=>rw[h1]at h;cases h
 |some z =>
  rw[h1]at h;have h:(match gf z.1 with|some d=>(match keyOf z.2 with|some c=>(match cO d.1 d.2 c with|some v=>if aY anyF v=false then ok v else none|none=>none)|none=>none)|none=>none)=ok r:=h;cases h2:gf z.1 with
  |none=>rw[h2]at h;cases h
  |some d =>
   rw[h2]at h;have h:(match keyOf z.2 with|some c=>(match cO d.1 d.2 c with|some v=>if aY anyF v=false then ok v else none|none=>none)|none=>none)=ok r:=h;cases h3:keyOf z.2 with
   |none=>rw[h3]at h;cases h
   |some c =>
    rw[h3]at h;have h:(match cO d.1 d.2 c with|some v=>if aY anyF v=false then ok v else none|none=>none)=ok r:=h;cases h4:cO d.1 d.2 c with
    |none=>rw[h4]at h;cases h
    |some v =>
     rw[h4]at h;obtain⟨hf,rfl⟩:=mY (show(if aY anyF v=false then ok v else none)=ok r from h);obtain⟨f,e1⟩:=mq h2;exact⟨f,d.1,d.2,c,by rw[gx h1,e1,gJ h3],h4,hf⟩
def OV(K:ai):R2:=λx y H Q=>∃p b cs as xs ep c v,x=.ref p/\y=.ref b/\H p=some (.ext (DO p cs as xs ep))/\eR (aR K H) as cs/\aR K H b (c.map V.int)/\cO cs xs c=some v/\Q v H
theorem Cp(hu:X.A.units+1<cLine):EO X (OV X.K):=by
 intro value slice pins s σ H x y v u Q I rx ry h hs;obtain⟨p,b,cs,as,xs,ep,c,w,rfl,rfl,hp,hk,hb,hg,q⟩:=h;cases rx;cases ry;obtain⟨zs,o,es,e1,e2,e3,ho,hx,hd,dd,_,hl,Cv⟩:=pj I hp hk;have S7:=p6 (cs:=cs) e3 c;rw[hg]at S7;obtain⟨u,P4,ru⟩:=ue.some_of S7;have:(atKey zs c).map (·.2)=some u:=by rw[oh,e1];exact P4
 obtain⟨q',SN,rfl⟩:=Option.map_eq_some_iff.mp this;exact YO (x:=q'.2) dd.typeIs PySem.F.slot_dict_getitem.lookup
  (wpAny_getItem_heap (Q:=λr s'=>r=q'.2/\EP X pins σ Q r s') (tupleKind_room_in1 hu) (o3 I hb) dd SN ⟨rfl,w,H,I.tok _,ru,q⟩) hs
def t8(_:Scope)(_:ao)(e:Expr):Option (aw):=match jC e with
 |some z=>some [z.1,z.2]
 |none=>none
theorem Ij{n:Nat}(hΦ:Φ n=xo){sc:Scope}{bl:ao}{k:Nat}(L:PX X sc bl k){e:Expr}(he:t8 sc bl e=some args)(hs:lj X F Φ cs args):PE X e (tD X F Φ (.cL n cs))/\PT X e (f_ X F Φ (.cL n cs)):=by
 unfold t8 at he;cases h1:jC e with
 |none=>rw[h1]at he;cases he
 |some z =>
  rw[h1]at he;cases he;obtain⟨pos,rfl⟩:=i0 h1;obtain⟨⟨c1,c2,rfl,p1,p2⟩,_⟩:=lL hs;have this:PE X (.Subscript z.1 z.2 pos) (tD X F Φ (.cL n [c1,c2])):=by
   refine PE.imp (yW (Cp (Em L.room)) p1 p2 hs.2.2.2.2.2.1) λσ H Q hq=>?_;obtain⟨R,τ,ρ,d,Si,ev,hq⟩:=hq;obtain⟨xs,b6,ev⟩:=aE ev;rw[hΦ]at ev;obtain⟨f,cs,vs,c,rfl,hg,hf⟩:=Dd ev;obtain⟨x,ex,b6⟩:=aE b6;obtain⟨ys,rC,b6⟩:=aE b6;obtain⟨y,ey,Q3⟩:=aE rC;cases Q3;cases b6;refine tD.intro Si ex λv H1 e1 r1=>tD.intro (Si.go e1) ey λu H2 e2 r2=>?_;obtain⟨τ1,f1,q1⟩:=r1;obtain⟨τ2,f2,q2⟩:=r2;cases q1 with
   |cu hn hk hr=>cases q2 with
    |tup ht Qa =>
     cases Qa.ofInts;rcases qy hr c with ⟨_,hz⟩|⟨w,d',k',g1,g2,g3,_⟩
     ·rw[hg]at hz;cases hz
     ·rw[hg]at g2;cases g2;refine⟨_,_,_,_,_,_,c,w,rfl,rfl,e2 _ _ hn.dat,hk.imp λ_ _ h=>aR.same e2 h,ht,g1,hq w H2 (e1.trans e2) ⟨λ_=>none,λ_ _ h=>by simp at h,?_⟩⟩;exact(kK (N':=nd X.K R (iL (gP X F) τ (h_ (.cL n [c1,c2]))) (λ_=>none) H1) (k':=[]) g3 hf).imp (λ_ _ h=>aR.same e2 h) λ_ _ _ _ h=>nd.same e2 h
  exact⟨this,cw this λ_=>rfl⟩
def MD(xs:aa):O D:=match three xs with
 |some z=>match gf z.1 with
  |some d=>match keyOf z.2.1 with
   |some c=>if aS anyF d.2=false/\aY anyF z.2.2=false then ok ((cO d.1 d.2 c).getD z.2.2)else none
   |none=>none
  |none=>none
 |none=>none
def nX(xs:aa):O D:=match three xs with
 |some z=>match z.1 with
  |.cu f cs vs=>match keyOf z.2.2 with
   |some c=>if ck f=true/\aY anyF z.2.1=false/\cs.length<eO then ok (.cu .ow (cG cs c) (bK cs vs c z.2.1))else none
   |none=>none
  |_=>none
 |none=>none
theorem rH{d:D}{r:D}(h:nX (d::xs)=ok r):∃cs vs c x,d=.cu .ow cs vs/\xs=[x,.tup (c.map D.int)]/\aY anyF x=false/\cs.length<eO/\r=.cu .ow (cG cs c) (bK cs vs c x):=by
 unfold nX at h;cases h1:three (d::xs)with
 |none=>rw[h1]at h;cases h
 |some z =>
  rw[h1]at h;have e0:=yb h1;obtain⟨d',x,y⟩:=z;obtain⟨rfl,rfl⟩:d=d'/\xs=[x,y]:=YW e0;cases d<;>first | (cases h;done)|skip
  rename_i f cs vs;have h:(match keyOf y with|some c=>if ck f=true/\aY anyF x=false/\cs.length<eO then ok (D.cu .ow (cG cs c) (bK cs vs c x))else none|none=>none)=ok r:=h;cases h3:keyOf y with
  |none=>rw[h3]at h;cases h
  |some c =>
   rw[h3]at h;obtain⟨⟨hf,hx,hl⟩,rfl⟩:=mY (show(if ck f=true/\aY anyF x=false/\cs.length<eO then ok (D.cu .ow (cG cs c) (bK cs vs c x))else none)=ok r from h);cases f<;>first | (cases hf;done)|exact⟨cs,vs,c,x,rfl,by rw[gJ h3],hx,hl,rfl⟩
def kW(_:Scope)(_:ao)(st:Stmt):Option (Expr×aw):=match x5 st with
 |some z=>match one z.1 with
  |some t=>match jC t with
   |some y=>some (y.1,[z.2,y.2])
   |none=>none
  |none=>none
 |none=>none
variable {o value:Expr}{st:Stmt}
theorem t7{sc:Scope}{bl:ao}(h:kW sc bl st=some (o,args)):∃v i pos' pos,st=.Assign [.Subscript o i pos'] v pos/\args=[v,i]:=by
 unfold kW at h;cases h1:x5 st with
 |none=>rw[h1]at h;cases h
 |some z =>
  obtain⟨ts,v⟩:=z;rw[h1]at h;have h2:(match one ts with|some t=>(match jC t with|some y=>some (y.1,[v,y.2])|none=>none)|none=>none)=some (o,args):=h;clear h;cases h3:one ts with
  |none=>rw[h3]at h2;cases h2
  |some t =>
   rw[h3]at h2;have h4:(match jC t with|some y=>some (y.1,[v,y.2])|none=>none)=some (o,args):=h2;clear h2;cases h5:jC t with
   |none=>rw[h5]at h4;cases h4
   |some y =>
    rw[h5]at h4;cases h4;obtain⟨pos,rfl⟩:=ou h1;obtain rfl:=cx h3;obtain⟨p,rfl⟩:=i0 h5;exact⟨_,_,_,_,rfl,rfl⟩
mutual
theorem any_map(g:Fl->Fl):∀d:D,aY anyF (aW g d)=aY anyF d
 |.bN=>rfl
 |.bl _=>rfl
 |.int _=>rfl
 |.tup ds=>rY g ds
 |.lst _ ds=>rfl
 |.cu _ _ ds=>rfl
theorem rY(g:Fl->Fl):∀ds:aa,aS anyF (aB g ds)=aS anyF ds
 |[]=>rfl
 |d::ds=>by show(aY _ _||aS _ _)=(aY _ d||aS _ ds);rw[any_map g d,rY g ds]
end
mutual
theorem uc:∀d:D,aY anyF d=false->aY bG d=false
 |.bN,_=>rfl
 |.bl _,_=>rfl
 |.int _,_=>rfl
 |.tup ds,h=>vQ ds h
 |.lst _ ds,h=>nomatch h
 |.cu _ _ ds,h=>nomatch h
theorem vQ:∀ds:aa,aS anyF ds=false->aS bG ds=false
 |[],_=>rfl
 |d::ds,h=>by
  have h:=Gb h;show(aY _ d||aS _ ds)=false;rw[uc d h.1,vQ ds h.2];rfl
end
theorem any_ints:∀c:ab,aS anyF (c.map D.int)=false
 |[]=>rfl
 |i::c=>any_ints c
theorem Fg{i:Expr}{l:Nat}{env:Env}:swapsWith value (some (.Subscript o i pos')) l env=pure false:=by
 unfold swapsWith;cases value<;>rfl
theorem yL{x:Str}{p0:Pos}{i:Expr}{tv to ti:TE}(hu:X.A.units+1<cLine)(hv:PE X value tv)(ho:PE X (.Name x p0) to)(hi:PE X i ti):
  PS X (.Assign [.Subscript (.Name x p0) i pos'] value pos) (λD σ H=>tv σ H λv H1=>to σ H1 λo H2=>ti σ H2 λy H3=>∃q b cs as xs ep c,o=.ref q/\y=.ref b/\H3 q=some (.ext (DO q cs as xs ep))/\eR (aR X.K H3) as cs/\aR X.K H3 b (c.map V.int)/\cs.length<sizeLine /\
   ∀nW,D.nx σ (upd H3 q (.ext (DO q (cG cs c) (r6 cs as c b) (bK cs xs c v) nW)))):=by
 intro pins s σ H D I h;refine wpAny_Assign_Subscript (cJ (hv pins s σ H _ I h) λr s1 ⟨v,H1,I1,rv,q1⟩=>cJ (ho pins s1 σ H1 _ I1 q1) λu s2 ⟨o,H2,I2,rx,q2⟩=>cJ (hi pins s2 σ H2 _ I2 q2) λiv s3 bH=>?_) Fg;obtain⟨y,H3,I3,ry,q,b,cs,as,xs,ep,c,eo,ey,hd,hk,hb,hl,q3⟩:=bH;subst eo ey;obtain rfl:u=Value.ref q:=rx;obtain rfl:iv=Value.ref b:=ry;exact tX hu I3 hd hk hb rv hl λnW s4 I4=>⟨σ,_,I4,q3 nW⟩
variable {σ:L2.St}
theorem SI.KW{R:Addr->Prop}{ρ:aZ}{H:Hp}{i:Nat}{cs:ak}(Si:SI X F R τ ρ σ H)(hi:ρ[i]?=some (some (.cu .ow cs ds))):
  ∃p as xs ep,σ[i]?=some (some (.ref p))/\H p=some (.ext (DO p cs as xs ep))/\τ p=some [i]/\eR (aR X.K H) as cs/\aA (aR X.K H) (nd X.K R (λ_=>False) τ H) [i] 0 xs ds:=by
 obtain⟨v,hv,rp⟩:=Si.rep i _ hi;cases rp with
 |cu h k r=>exact⟨_,_,_,_,hv,h.1,h.2,k,r⟩
theorem C8{n:Nat}(hΦ:Φ n=nX){sc:Scope}{bl:ao}{k:Nat}(L:PX X sc bl k)(hN:X.N.Nodup)(tL:∀x,X.fn x=true){x:Str}(he:kW sc bl st=some (.Name x pos,args))
  {i:Nat} (hi:X.N[i]?=some x) (hl:L2.Loc X.env.scope x) (pe:PE X (.Name x pos) (v9 i)) (hs:lj X F Φ cs args):PS X st (nv X F Φ (.mut n i cs)):=by
 obtain⟨v,ix,p1,p2,rfl,rfl⟩:=t7 he;obtain⟨⟨c1,c2,rfl,h1,h2⟩,_⟩:=lL hs;refine PS.imp (yL (Em L.room) h1 pe h2) λD σ H hq=>?_;obtain⟨R,τ,ρ,r,Si,ev,hq⟩:=hq;obtain⟨xs,b6,ev⟩:=aE ev;obtain⟨y,ey,b6⟩:=aE b6;obtain⟨ys,rC,b6⟩:=aE b6;cases b6;obtain⟨kd,ek,Q3⟩:=aE rC;cases Q3;have key:∃cs vs c,kd=.tup (c.map DI.D.int)/\ρ[i]?=some (some (.cu .ow cs vs))/\aY anyF y=false/\cs.length<eO/\r=(.nx,ρ.set i (some (.cu .ow (cG cs c) (bK cs vs c y)))):=by
  cases hz:aS bG [y,kd]with
  |true =>
   obtain⟨d,d',h⟩:=zd ev hz;rw[hΦ]at h;obtain⟨cs,vs,c,x',_,e1,e2,_⟩:=rH h;have e3:aW a_ y=x'/\aW a_ kd=.tup (c.map DI.D.int):=by
    have:=YW e1;exact⟨this.1,(YW this.2).1⟩
   have a1:aY bG y=false:=uc y (by rw[<- any_map a_ y,e3.1];exact e2);have a2:aY bG kd=false:=uc kd (by rw[<- any_map a_ kd,e3.2];exact any_ints c);have:aS bG [y,kd]=false:=by show(aY bG y||(aY bG kd||false))=false;rw[a1,a2];rfl
   rw[this]at hz;cases hz
  |false =>
   obtain⟨d,d',h,h',rfl⟩:=uN ev hz;rw[hΦ]at h';obtain⟨cs,vs,c,x',rfl,e1,e2,e3,rfl⟩:=rH h';cases e1;exact⟨cs,vs,c,rfl,h,e2,e3,rfl⟩
 obtain⟨cs,vs,c,rfl,ho,hf,hc,rfl⟩:=key;obtain⟨p,as,zs,ep,hv,hd,ht,hk,rs⟩:=Si.KW ho;refine tD.intro Si ey λu H1 e1 ru=>⟨.ref p,hv,tD.intro (Si.go e1) ek λw H2 e2 jJ=>?_⟩
 obtain⟨τ1,f1,q1⟩:=ru;obtain⟨τ2,f2,q2⟩:=jJ;cases q2 with
 | @tup _ b _ _ hb Qa =>
  cases Qa.ofInts;have es:=e1.trans e2;have AB:=Si.go es;have hd2:=es _ _ hd;have m3:eO=1000000:=rfl;have hz:sizeLine=16777216:=Yh;refine⟨p,b,cs,as,zs,ep,c,rfl,rfl,hd2,hk.imp λ_ _ h=>aR.same es h,hb,by left,λnW=>?_⟩;have hn:dy H2 p (.d cs as zs ep):=hd2;have rk:gq X R τ H2 u y:=lJ ((kK (N':=nd X.K R (λ_=>False) τ H1) (k':=[]) q1 hf).imp (λ_ _ h=>aR.same e2 h) λ_ _ _ _ h=>nd.same e2 h) hf;obtain⟨p',N9,DL,V_,LH,He,P6,NK,sX⟩:=AB.KW ho;rw[hv]at LH;cases LH;rw[hd2]at He;obtain⟨τ3,xD⟩:=AB.KD (m:=0) (n':=.d (cG cs c) (r6 cs as c b) (bK cs zs c u) nW) (o:=.ext (DO p (cG cs c) (r6 cs as c b) (bK cs zs c u) nW)) (d1:=.cu .ow (cG cs c) (bK cs vs c y)) (xs':=bK cs zs c u) (ds':=bK cs vs c y) ho hv hn ht (rs.imp (λ_ _ h=>aR.same es h) λ_ _ _ _ h=>nd.same es h) rk aT
   (λhN r=>.cu hN (zw ((hk.imp λ_ _ h=>aR.same es h).imp λ_ _ h=>yh hn h) (yh hn hb)) r) (λrs r=>yD (λk=>kK r hf) rs)
  exact hq σ _ R τ3 xD (oZ AB es (λ_ h=>h) hn ht)
theorem Gj{P:az}{w:World}{H:Hp}{h:Heap}{a:Addr}{o:HO}(x:b8 P w H h a o):∃u,h.get? a=some u:=by
 cases o with
 |lst xs=>obtain⟨_,_,_,_,e⟩:=x;exact⟨_,e⟩
 |tup xs=>obtain⟨_,_,_,o,e,_⟩:=x;exact⟨_,e⟩
 |dK lV=>obtain⟨_,_,_,_,o,_,_,e,_⟩:=x;exact⟨_,e⟩
 |dT lV=>obtain⟨_,_,_,_,o,_,_,e,_⟩:=x;exact⟨_,e⟩
 |set S n=>obtain⟨o,_,_,_,e,_⟩:=x;exact⟨_,e⟩
 |ins C dx fs=>obtain⟨_,_,_,e,_⟩:=x;exact⟨_,e⟩
 |own y=>exact x
 |xd fs=>obtain⟨_,⟨o,_,_,e,_⟩,_⟩:=x;exact⟨_,e⟩
 |kI lo hi=>obtain⟨_,_,_,e⟩:=x;exact⟨_,e⟩
 |gp o u=>exact⟨_,x.1⟩
 |DR ps=>exact⟨_,x⟩
 |met f y=>exact⟨_,x⟩
 |ext φ=>exact x.2.1
variable {h':Heap}
theorem Inv.Lu{pins:ah}{H:Hp}{s:Shared}{t':Nat}{a:Addr}{o:HO}(I:Inv X pins σ H s)(k:∀b u,s.heap.get? b=some u->h'.get? b=some u)(ha:s.heap.get? a=none)(new:b8 X.prog X.w (upd H a o) h' a o):
  H a=none/\Inv X pins σ (upd H a o) { s with heap:=h',toks:=t' }:=by
 have hn:H a=none:=by
  cases q:H a with
  |none=>rfl
  |some u =>
   obtain⟨z,hz⟩:=Gj (I.cq a u q);rw[ha]at hz;exact nk hz
 have up:∀b u,H b=some u->upd H a o b=some u:=λb u e=>by rw[aQ (bR e hn)];exact e
 refine⟨hn,I.step (g':=s.gens) (d':=s.drawn) (ch:=[]) (λb hb=>nomatch hb) (λb o _ _ _ e _=>k b o e) (λb o _ _ _ e _=>⟨o.slots,k b o e⟩) (λb u _ e n=>?_)
  (λb o _ e=>⟨o,k b o e⟩) (λ_ _ e=>up _ _ e) (λ_ _ _ e=>up _ _ e) (λb ps e=>⟨#[],by rw[up _ _ e];simp⟩) (λm hm=>?_) (λb u e=>?_) I.bare⟩
 ·rw[aQ λz=>by rw[z,ha]at e;cases e];exact n
 ·obtain⟨o,es,ep,ho,r⟩:=hm;exact⟨o,es,ep,k _ o ho,r⟩
 ·by_cases z:b=a
  ·subst z;rw[aT]at e;cases e;exact new
  ·rw[aQ z]at e;exact(I.cq b u e).i5 (λc v _ q=>k c v q) (λ_ q=>up _ _ q) λ_ _ q=>up _ _ q
section
variable {X:Cx}{pins:ah}{σ:St}{H:Hp}{s:Shared}{d:Addr}{cs:ak}{as:aP}{xs:ae}{ep:Nat}
theorem FI(I:Inv X pins σ H s)(h:H d=some (.ext (DO d cs as xs ep))):∃es:Array DictEntry,iM s.heap d es ep/\es.size=as.length/\es.toList.map (·.key)=as.map Value.ref/\cs.Nodup/\as.length=cs.length/\(d==sysModules)=false:=by
 obtain⟨⟨zs,o,es,e1,e2,e3,ho,hx,hd,he,hn,hl,hs⟩,_⟩:=(show b8 X.prog X.w H s.heap d (.ext (DO d cs as xs ep)) from I.cq d _ h)
 refine⟨es,⟨o,ho,hx,hd⟩,?_,?_,hn,?_,hs⟩
 ·rw[<- Array.length_toList,he,<- e2,List.length_map,List.length_map]
 ·rw[he,<- e2,List.map_map,List.map_map];rfl
 ·rw[<- e1,<- e2,List.length_map,List.length_map]
end
def Ig(xs:aa):O D:=match one xs with
 |some d=>match gf d with
  |some z=>ok (.lst .ow (z.1.map cK))
  |none=>none
 |none=>none
theorem gF(g:Fl->Fl):∀cs:ak,aB g (cs.map cK)=cs.map cK
 |[]=>rfl
 |c::cs=>by
  show aW g (cK c)::aB g (cs.map cK)=_;rw[gF g cs];have:∀c:ab,aB g (c.map D.int)=c.map D.int:=λc=>by
   induction c with
   |nil=>rfl
   |cons i c ih=>show D.int i::aB g (c.map D.int)=_;rw[ih];rfl
  show D.tup (aB g (c.map D.int))::_=_;rw[this];rfl
theorem kJ{k:bg}{a:Addr}{c:ab}(h:T a (c.map V.int)):Rep T N k (.ref a) (cK c):=.tup h (aA.ints c)
theorem ub(hc:X.calm=true)(hu:X.A.units+2<cLine):eT X (.builtin "sorted") (λxs H Q=>∃(d:Addr) (cs:ak) (as:aP) (ys:ae) (ep:Nat),xs=[.ref d]/\H d=some (.ext (DO d cs as ys ep))/\eR (aR X.K H) as cs/\cs.length<1000 /\
  ∀(l:Addr) (bs:aP),H l=none->eR (aR X.K H) bs (aX cs)->Q (.ref l) (upd H l (.lst (bs.map V.ref)))):=by
 intro pins s σ H xs us Q I r h;obtain⟨d,cs,as,ys,ep,rfl,hd,hk,mJ,q⟩:=h;obtain⟨u,rfl,ru⟩:=r.one;cases ru;obtain⟨es,Cw,hz,nL,Ql,hlen,Cv⟩:=FI I hd;have ht:jS s.heap (es.toList.map (·.key)) cs:=by
  rw[nL];refine⟨by rw[List.length_map,hlen],λi ns e=>?_⟩;have hi:i<as.length:=by rw[hlen];exact(List.getElem?_eq_some_iff.mp e).1
  obtain⟨kn,rj,ij,_⟩:=I.tuple (hk.tup i as[i] ns (Xq hi) e);exact⟨as[i],kn,by rw[List.getElem?_map,List.getElem?_eq_getElem hi];rfl,ij,bY rj⟩
 refine ql (I.ok.hd hc) hu Cv Cw (by rw[hz,hlen];exact mJ) Ql ht λS h' tk e p hS Jk hp hs hl=>?_;rw[nL]at hl;have Qe:(p.toList.map λi=>(as.map Value.ref).getD i Value.none)=(p.toList.map λi=>as.getD i 0).map Value.ref:=by
  rw[List.map_map];refine XZ λi hi=>?_;have dj:i<as.length:=by
   have:=List.mem_range.mp (hp.pm.mem_iff.mp hi);left
  simp[dj]
 rw[Qe]at hl;have L4:eR (aR X.K H) (p.toList.map λi=>as.getD i 0) (aX cs):=by
  rw[<- hs];refine⟨by simp,λj a c h1 h2=>?_⟩;rw[List.getElem?_map]at h1 h2;cases hj:p.toList[j]? with
  |none=>rw[hj]at h1;exact nk h1
  |some i =>
   rw[hj]at h1 h2;have dj:i<as.length:=by
    have:=List.mem_range.mp (hp.pm.mem_iff.mp (Xw hj));left
   cases h1;cases h2;exact hk.tup i _ _ (by simp[dj]) (by simp[show i<cs.length by left])
 have j7:∀l:aP,Vals (l.map V.ref) (l.map Value.ref):=λl=>by
  induction l with
  |nil=>exact .nil
  |cons a l ih=>exact .cons rfl ih
 have hsz:sizeLine=16777216:=Yh;obtain⟨hn,I'⟩:=Inv.Lu (t':=tk) (o:=.lst ((p.toList.map λi=>as.getD i 0).map V.ref)) I Jk hS ⟨by rw[List.length_map,List.length_map,Array.length_toList,hp.sz];left,_,e,j7 _,hl⟩;exact⟨.ref S,_,I',rfl,q S _ hn L4⟩
def jP(xs:aa):O D:=match one xs with
 |some d=>match gf d with
  |some z=>if z.1.length<1000 then ok (.lst .ow ((aX z.1).map cK))else none
  |none=>none
 |none=>none
theorem xl{r:D}(h:jP xs=ok r):∃f cs vs,xs=[.cu f cs vs]/\cs.length<1000/\r=.lst .ow ((aX cs).map cK):=by
 unfold jP at h;cases h1:one xs with
 |none=>rw[h1]at h;exact nk h
 |some d =>
  rw[h1]at h;have h:(match gf d with|some z=>if z.1.length<1000 then ok (D.lst .ow ((aX z.1).map cK))else none|none=>none)=ok r:=h;cases h2:gf d with
  |none=>rw[h2]at h;exact nk h
  |some z =>
   rw[h2]at h;obtain⟨hl,rfl⟩:=mY (show(if z.1.length<1000 then ok (D.lst .ow ((aX z.1).map cK))else none)=ok r from h);obtain⟨f,e⟩:=mq h2;exact⟨f,z.1,z.2,by rw[cx h1,e],hl,rfl⟩
theorem nC{T:kC}{N:gu}:∀{bs:aP} {cs:ak} {k:bg} {n:Nat},eR T bs cs->aA T N k n (bs.map V.ref) (cs.map cK)
 |[],[],_,_,_=>.nil
 |[],_::_,_,_,h=>by have:=h.len;simp at this
 |_::_,[],_,_,h=>by have:=h.len;simp at this
 |b::bs,c::cs,_,_,h=>.cons (kJ (h.tup 0 b c rfl rfl)) (nC ⟨by have:=h.len;simpa using this,λj a c' h1 h2=>h.tup (j+1) a c' h1 h2⟩)
theorem Aj{n:Nat}(hΦ:Φ n=jP){sc:Scope}{bl:ao}{k:Nat}(L:PX X sc bl k){e:Expr}(he:gS ("sorted" : Str) sc bl e=some args)(hs:lj X F Φ cs args):PE X e (tD X F Φ (.cL n cs))/\PT X e (f_ X F Φ (.cL n cs)):=by
 obtain⟨p,pos,a,rfl,rfl,h1,h2⟩:=jQ he;cases cs with
 |nil=>exact hs.elim
 |cons c cs=>cases cs with
  |cons _ _=>exact hs.2.2.2.elim
  |nil =>
   have pa:PA X [a] (pW X F Φ [c]):=PA.imp (di hs.1 (PA.imp fO λ_ _ _ h=>gY h) (hs.2.1 _)) λ_ _ _ h=>eE h;have hu:X.A.units+2<cLine:=XJ (Zd (by decide:2<=64) _) L.room.units;have this:PE X (.Call (.Name ("sorted" : Str) p) [a] [] pos) (tD X F Φ (.cL n [c])):=by
    refine PE.imp (dC (ub L.calm hu) (L.gl h1) (L.bl _ h2) (by decide +kernel) pa (he:=hs.2.1 _)) λσ H Q hq=>?_;obtain⟨R,τ,ρ,d,Si,ev,hq⟩:=hq;obtain⟨xs,b6,ev⟩:=aE ev;rw[hΦ]at ev;obtain⟨f,ks,vs,rfl,hl,rfl⟩:=xl ev;refine⟨R,τ,ρ,_,Si,b6,λus H1 e1 r1=>?_⟩;obtain⟨τt,fr,rs⟩:=r1;obtain⟨v,rfl,rv⟩:=rs.one;cases rv with
    |cu hn hk hr =>
     refine⟨_,ks,_,_,_,rfl,hn.dat,hk,hl,λl bs mZ L4=>hq _ _ (e1.trans (aF.upd mZ)) (bJ.oR (e1.free mZ) (e1.trans (aF.upd mZ)) aT ?_)⟩;exact nC (L4.imp λ_ _ h=>aR.same (aF.upd mZ) h)
   exact⟨this,cw this λ_=>rfl⟩
section
variable {prog:az}{w:World}{A:av}{E:aq}{s:Shared}
end
open Classical in
def EN(h:Heap)(vs:ag)(nss:ak):Prop:=vs.length=nss.length/\∀(i:Nat) (ns:ab),nss[i]?=some ns->∃t x z aH kn ms,vs[i]?=some (.ref t)/\IsTup h t #[.ref x,.ref z]/\IsTup h x aH.toArray/\IntsAre aH ns/\IsTup h z kn.toArray/\IntsAre kn ms
theorem EN.mono{h:Heap}(k:∀b o,h.get? b=some o->h'.get? b=some o)(t:EN h vs nss):EN h' vs nss:=by
 have km:∀{a:Addr} {xs:aN},IsTup h a xs->IsTup h' a xs:=λ⟨o,h1,r⟩=>⟨o,k _ _ h1,r⟩
 exact⟨t.1,λi ns e=>let ⟨a,x,z,aH,kn,ms,e1,e2,e3,e4,e5,e6⟩:=t.2 i ns e;⟨a,x,z,aH,kn,ms,e1,km e2,km e3,e4,km e5,e6⟩⟩
theorem kN{h:Heap}{a:Addr}{xs ys:aN}(hx:IsTup h a xs)(hy:IsTup h a ys):xs=ys:=by
 obtain⟨o,h1,_,n1,d1⟩:=hx;obtain⟨o',h2,_,n2,d2⟩:=hy;rw[h1]at h2;cases h2;rw[d1]at d2;injection d2
theorem FX{h:Heap}(t:EN h vs nss){i j:Nat}(hi:i<nss.length)(hj:j<nss.length)(e:vs[i]?=vs[j]?):nss[i]=nss[j]:=by
 obtain⟨a,x,z,aH,kn,ms,e1,e2,e3,e4,_,_⟩:=t.2 i _ (Xq hi);obtain⟨b,y,u,its',zA,qO,f1,f2,f3,f4,_,_⟩:=t.2 j _ (Xq hj);rw[e1,f1]at e;cases e;have:=kN e2 f2;cases this;have:aH=its':=by simpa using kN e3 f3
 subst this;exact kO e4 f4
variable {ns:ab}
section
variable {prog:az}{w:World}{A:av}{E:aq}{s:Shared}
theorem lW:∀{aH:ag} {ns:ab},IntsAre aH ns->ItemsAre (intKind prog w) ns aH
 |_,_,.nil=>.nil
 |_,_,.cons n t h=>.cons (by simp[intKind,Value.isInt]) (lW h)
theorem kF{h:Heap}{a:Addr}(ha:IsTup h a aH.toArray)(hi:IntsAre aH ns):IsTupleKey (intKind prog w) h ns a:=by
 obtain⟨o,h1,h2,n,h3⟩:=ha;exact⟨o,aH.toArray,n,h1,h2,h3,by simpa using lW hi⟩
theorem qF:∀{vs:ag} {nss:ak},EN s.heap vs nss->∃fs,PySem.W.KatTups s.heap vs fs/\fs.length=vs.length/\∀v∈fs,PySem.W.Looks (model prog w) s.heap (typeOf v) (.type "tuple")
 |[],_,_=>⟨[],trivial,rfl,λ_ h=>nomatch h⟩
 |v::vs,[],t=>by have:=t.1;simp at this
 |v::vs,ns::nss,t=>by
  obtain⟨a,x,z,aH,kn,ms,e1,⟨o,h1,h2,n,h3⟩,⟨o',g1,g2,n',g3⟩,e4,_,_⟩:=t.2 0 ns rfl;cases e1;obtain⟨fs,f1,f2,f3⟩:=qF (vs:=vs) (nss:=nss) ⟨by simpa using t.1,λi ms e=>t.2 (i+1) ms e⟩;refine⟨.ref x::fs,.cons h1 h2 h3 rfl f1,by simp[f2],λv hv=>?_⟩;rcases List.mem_cons.mp hv with rfl|hv
  ·rw[<- g2];exact(Zs g1).andThen .now
  ·exact f3 v hv
theorem Co{Q:SortKind->Shared->Prop}(t:EN s.heap vs nss)(sj:vs≠[])(h:Q (tuples' false) s):wpAny (model prog w) A (keyKind' vs.toArray) Q E s:=by
 obtain⟨fs,f1,f2,f3⟩:=qF (prog:=prog) (w:=w) t;exact PySem.W.kat_kind f1 (by rw[f2];exact(List.length_pos_iff.mpr sj)) f3 (by decide) h
theorem Lm(hu:A.units<cLine){a b x y z u:Addr}{kn its' zA:ag}{ms hZ qO:ab}{Q:Bool->Shared->Prop}(ha:IsTup s.heap a #[.ref x,.ref z])(hb:IsTup s.heap b #[.ref y,.ref u])(hx:IsTup s.heap x aH.toArray)(ix:IntsAre aH ns)(hz:IsTup s.heap z kn.toArray)(iz:IntsAre kn ms)
  (hy:IsTup s.heap y its'.toArray) (iy:IntsAre its' hZ) (hv:IsTup s.heap u zA.toArray) (iv:IntsAre zA qO) (hs:ns=hZ->ms=qO) (h:Q (HT.lexLt ns hZ) s):wpAny (model prog w) A (keyLt' (tuples' false) (.ref a) (.ref b)) Q E s:=by
 obtain⟨o,h1,_,n,h3⟩:=ha;obtain⟨o',g1,_,n',g3⟩:=hb;refine PySem.W.kat_lt h1 h3 g1 g3 (Zr (wpAny_eqBool_tuple (knd:=intKind prog w) hu (kF hx ix) (kF hy iy) ?_));by_cases e:ns=hZ
 ·rw[decide_eq_true e];refine Zu (Zr (wpAny_eqBool_tuple (knd:=intKind prog w) hu (kF hz iz) (kF hv iv) ?_));rw[decide_eq_true (hs e)];refine Zu (PySem.W.kat_nil ?_);subst e;have:HT.lexLt ns ns=false:=by
   cases q:HT.lexLt ns ns with
   |false=>rfl
   |true=>rw[jM _ _ q]at q;cases q
  rw[this]at h;exact h
 ·rw[decide_eq_false e];exact PySem.W.kat_no (Zv _ _ (HT.lR hx hy (by simpa using ix) (by simpa using iy) hu h))
theorem yi{a:Addr}{n:Nat}{P:PySem.Fin->Shared->Prop}(hu:A.units<cLine)(ho:s.heap.get? a=some (seqObj "list" vs.toArray n))(mJ:vs.length<100000)(iU:nss.Nodup)
  (ht:EN (((s.heap.update a (Obj.mapSeq λ_=>#[])).push (seqObj "tuple" vs.toArray 0)).push (seqObj "list" #[] 0)) vs nss)
  (h:∀p:Array Nat,Arr p vs.length->(p.toList.map λi=>nss.getD i [])=aX nss->P (.done (.ret .none)) { s with heap:=sortedHeap s.heap a vs (List.toArray (p.toList.map λi=>vs.getD i Value.none)) }) :
  wpAny (model prog w) A (Builtin.«list.sort» ⟨[.ref a],[]⟩) P E s :=
 qm ho mJ iU ⟨ht.1,λi j hi hj e=>FX ht hi hj e⟩ (λκ=>κ=tuples' false) (λsj Q hQ=>Co ht sj (hQ _ rfl)) (λκ hk i j hi hj a' b' E' Q ea eb hq=>by
  subst hk;obtain⟨t,x,z,aH,kn,ms,e1,e2,e3,e4,e5,e6⟩:=ht.2 i _ (Xq hi);obtain⟨t',y,u,its',zA,qO,f1,f2,f3,f4,f5,f6⟩:=ht.2 j _ (Xq hj);rw[e1]at ea;rw[f1]at eb;cases ea;cases eb;refine Lm hu e2 f2 e3 e4 e5 e6 f3 f4 f5 f6 (λe=>?_) hq;have:=(Yx iU).mp e;subst this;rw[e1]at f1;cases f1;have:=kN e2 f2;cases this;have:kn=zA:=by simpa using kN e5 f5
  subst this;exact kO e6 f6) h
end
noncomputable abbrev jz:=ab×ab
def gm(c:jz):D:=.tup [cK c.1,cK c.2]
def wt(d:D):Option jz:=match d with
 |.tup ds=>match two ds with
  |some z=>match keyOf z.1 with
   |some a=>match keyOf z.2 with
    |some b=>some (a,b)
    |none=>none
   |none=>none
  |none=>none
 |_=>none
theorem BQ{d:D}{c:jz}(h:wt d=some c):d=gm c:=by
 cases d<;>first | (cases h;done)|skip
 rename_i ds;have h:(match two ds with|some z=>(match keyOf z.1 with|some a=>(match keyOf z.2 with|some b=>some (a,b)|none=>none)|none=>none)|none=>none)=some c:=h;cases h1:two ds with
 |none=>rw[h1]at h;cases h
 |some z =>
  rw[h1]at h;have h:(match keyOf z.1 with|some a=>(match keyOf z.2 with|some b=>some (a,b)|none=>none)|none=>none)=some c:=h;cases h2:keyOf z.1 with
  |none=>rw[h2]at h;cases h
  |some a =>
   rw[h2]at h;have h:(match keyOf z.2 with|some b=>some (a,b)|none=>none)=some c:=h;cases h3:keyOf z.2 with
   |none=>rw[h3]at h;cases h
   |some b =>
    rw[h3]at h;cases h;rw[gx h1,gJ h2,gJ h3];rfl
theorem yM(c:jz):wt (gm c)=some c:=by
 have h1:keyOf (cK c.1)=some c.1:=bx c.1;have h2:keyOf (cK c.2)=some c.2:=bx c.2;show(match keyOf (cK c.1)with|some a=>(match keyOf (cK c.2)with|some b=>some (a,b)|none=>none)|none=>none)=_;rw[h1,h2]
def mV:aa->Option (List jz)
 |[]=>some []
 |d::ds=>match wt d with
  |some c=>(mV ds).map (c :: ·)
  |none=>none
theorem uD:∀{ds:aa} {cs:List jz},mV ds=some cs->ds=cs.map gm
 |[],cs,h=>by cases h;rfl
 |d::ds,cs,h=>by
  have h:(match wt d with|some c=>(mV ds).map (c :: ·)|none=>none)=some cs:=h;cases hk:wt d with
  |none=>rw[hk]at h;cases h
  |some c =>
   rw[hk]at h;obtain⟨WX,h1,rfl⟩:=Option.map_eq_some_iff.mp (show(mV ds).map (c :: ·)=some cs from h);rw[uD h1,BQ hk];rfl
theorem qE:∀cs:List jz,mV (cs.map gm)=some cs
 |[]=>rfl
 |c::cs=>by
  show(match wt (gm c)with|some c=>(mV (cs.map gm)).map (c :: ·)|none=>none)=_;rw[yM,qE cs];rfl
def sR:List jz->ab->ab
 |[],_=>[]
 |c::cs,n=>if c.1=n then c.2 else sR cs n
def il(cs:List jz):List jz:=(aX (cs.map (·.1))).map λn=>(n,sR cs n)
theorem lG:∀{cs:List jz} {c:jz},(cs.map (·.1)).Nodup->c∈cs->sR cs c.1=c.2
 |d::cs,c,hn,h=>by
  obtain⟨h1,h2⟩:=List.nodup_cons.mp hn;unfold sR;rcases List.mem_cons.mp h with rfl|h
  ·rw[if_pos rfl]
  ·rw[if_neg λe=>h1 (by show d.1∈_;rw[e];exact List.mem_map_of_mem h)];exact lG h2 h
def D3(K:ai)(H:Hp)(ys:ae)(cs:List jz):Prop:=ys.length=cs.length/\∀(i:Nat) (c:jz),cs[i]?=some c->∃t x z,ys[i]?=some (.ref t)/\aR K H t [.ref x,.ref z]/\aR K H x (c.1.map V.int)/\aR K H z (c.2.map V.int)
theorem D3.same{K:ai}{H H':Hp}{ys:ae}{cs:List jz}(h:D3 K H ys cs)(e:aF H H'):D3 K H' ys cs:=⟨h.1,λi c q=>let ⟨t,x,z,a,b,c,d⟩:=h.2 i c q;⟨t,x,z,a,aR.same e b,aR.same e c,aR.same e d⟩⟩
theorem wy{H:Hp}{k:bg}{n:Nat}{ys:ae}{cs:List jz}(r:aA (aR K H) N k n ys (cs.map gm)):D3 K H ys cs:=by
 refine⟨by rw[r.length,List.length_map],λi c e=>?_⟩;obtain⟨v,hv,rv⟩:=r.get (j:=i) (d:=gm c) (by rw[List.getElem?_map,e];rfl);obtain⟨t,xs,rfl,ht,rs⟩:=Rep.sD rv;cases rs with
 |cons h1 rs=>cases rs with
  |cons h2 rs =>
   cases rs;obtain⟨x,_,rfl,hx,r1⟩:=Rep.sD h1;obtain⟨z,_,rfl,hz,r2⟩:=Rep.sD h2;cases r1.ofInts;cases r2.ofInts;exact⟨t,x,z,hv,ht,hx,hz⟩
theorem lI{K:ai}{H:Hp}{N:gu}:∀{ys:ae} {cs:List jz} {k:bg} {n:Nat},D3 K H ys cs->aA (aR K H) N k n ys (cs.map gm)
 |[],[],_,_,_=>.nil
 |[],_::_,_,_,h=>by have:=h.1;simp at this
 |_::_,[],_,_,h=>by have:=h.1;simp at this
 |y::ys,c::cs,_,_,h=>by
  obtain⟨t,x,z,e1,e2,e3,e4⟩:=h.2 0 c rfl;cases e1;exact .cons (.tup e2 (.cons (kJ e3) (.cons (kJ e4) .nil))) (lI ⟨by have:=h.1;simpa using this,λi c' h1=>h.2 (i+1) c' h1⟩)
section
variable {prog:az}{w:World}{A:av}{E:aq}{s:Shared}
theorem oD{l:Addr}(hu:A.units+2<cLine)(hl:s.heap.IsList l vs.toArray)(mJ:vs.length<1000)(iU:nss.Nodup)(ht:EN s.heap vs nss)
  (h:∀p:Array Nat,Arr p vs.length->(p.toList.map λi=>nss.getD i [])=aX nss->Q (.ref (s.heap.objs.size+1)) { s with heap:=sortedAll s.heap vs (List.toArray (p.toList.map λi=>vs.getD i Value.none)) }) :
  wpAny (model prog w) A (call (.builtin "sorted") [.ref l]) Q E s:=by
 refine YF kind_sorted plain_sorted entry_sorted (args_sorted1 _) ?_;unfold Builtin.«sorted»;have hz:vs.length<=sizeLine:=by rw[sizeLine_eq];left
 refine Xf (m:=checkCount "sorted" 1 1 _) (Xg (Xf (collect_list hl (Xf (YV ?_ hz)) hz)));have e1:((s.heap.push (seqObj "list" #[] 0)).update s.heap.objs.size (Obj.mapSeq (· ++ vs.toArray))).objs.size=s.heap.objs.size+1:=by rw[Heap.size_update,size_push']
 have e2:(((s.heap.push (seqObj "list" #[] 0)).update s.heap.objs.size (Obj.mapSeq (· ++ vs.toArray))).push (seqObj "list" vs.toArray 0)).get? (s.heap.objs.size+1)=some (seqObj "list" vs.toArray 0):=by
  rw[<- e1];exact Xs _ rfl
 show wpAny _ _ _ _ _ ({ s with heap:=((s.heap.push (seqObj "list" #[] 0)).update s.heap.objs.size (Obj.mapSeq (· ++ vs.toArray))).push (seqObj "list" vs.toArray 0) }:Shared);rw[e1];have k1:∀b o,s.heap.get? b=some o->(((s.heap.push (seqObj "list" #[] 0)).update s.heap.objs.size (Obj.mapSeq (· ++ vs.toArray))).push (seqObj "list" vs.toArray 0)).get? b=some o:=λb o e=>by
  refine Xj _ ?_;rw[Heap.get?_update_other _ _ (Nat.ne_of_gt (Heap.lt_size e))];exact Xj _ e
 have k6:∀b o,s.heap.get? b=some o->((((((s.heap.push (seqObj "list" #[] 0)).update s.heap.objs.size (Obj.mapSeq (· ++ vs.toArray))).push (seqObj "list" vs.toArray 0)).update (s.heap.objs.size+1) (Obj.mapSeq λ_=>#[])).push (seqObj "tuple" vs.toArray 0)).push (seqObj "list" #[] 0)).get? b=some o:=λb o e=>by
  refine Xj _ (Xj _ ?_);rw[Heap.get?_update_other _ _ (Nat.ne_of_gt (Nat.lt_succ_of_lt (Heap.lt_size e)))];exact k1 b o e
 exact Xf (XI (XG slot_list_sort ⟨_,e2,rfl⟩ entry_list_sort (yi (s:={ s with heap:=((s.heap.push (seqObj "list" #[] 0)).update s.heap.objs.size (Obj.mapSeq (· ++ vs.toArray))).push (seqObj "list" vs.toArray 0) }) (nss:=nss) (show A.in1.in1.units<cLine by show A.units+1+1<cLine;left) e2 (by left) iU (ht.mono k6) λp hp hs=>⟨_,rfl,Xg ⟨_,rfl,h p hp hs⟩⟩) (args_list_sort _)))
end
theorem ua(hu:X.A.units+2<cLine):eT X (.builtin "sorted") (λxs H Q=>∃(p:Addr) (ys:ae) (cs:List jz),xs=[.ref p]/\cI X.K H p ys/\D3 X.K H ys cs/\(cs.map (·.1)).Nodup/\cs.length<1000 /\
  ∀(l:Addr) (bs:ae),H l=none->D3 X.K H bs (il cs)->Q (.ref l) (upd H l (.lst bs))):=by
 intro pins s σ H xs us Q I r h;obtain⟨p,ys,cs,rfl,hq,⟨hl,hT⟩,iU,mJ,q⟩:=h;obtain⟨u,rfl,ru⟩:=r.one;cases ru;obtain⟨aH,rv,pl,hz⟩:=I.list hq;have wY:aH.length=cs.length:=by rw[<- rv.length];exact hl
 refine oD (nss:=cs.map (·.1)) hu (cR pl) (by left) iU ⟨by rw[List.length_map,wY],λi ns e=>?_⟩ λpm hp hs=>?_
 ·rw[List.getElem?_map]at e;obtain⟨c,ec,rfl⟩:=Option.map_eq_some_iff.mp e;obtain⟨t,x,z,e1,e2,e3,e4⟩:=hT i c ec;obtain⟨u,hu,ru⟩:=rv.get e1;cases ru;obtain⟨U2,rk,ik,_⟩:=I.tuple e2;obtain⟨kn,rj,ij,_⟩:=I.tuple e3;obtain⟨U0,rm,im,_⟩:=I.tuple e4;have:U2=[.ref x,.ref z]:=by
   cases rk with
   |cons a b=>cases b with
    |cons b c=>cases c;cases a;cases b;rfl
  subst this;exact⟨t,x,z,kn,U0,c.2,hu,ik,ij,bY rj,im,bY rm⟩
 ·have hm:∀i∈pm.toList,i<cs.length:=λi hi=>by rw[<- wY];exact List.mem_range.mp (hp.pm.mem_iff.mp hi)
  have j7:∀l:aK,(∀i∈l,i<cs.length)->Vals (l.map λi=>ys.getD i .bN) (l.map λi=>aH.getD i Value.none):=λl=>by
   induction l with
   |nil=>intro _;exact .nil
   |cons i l ih =>
    intro h;have hi:=h i Xo;have hy:ys[i]?=some (ys[i]'(by left)):=Xq _;obtain⟨u,hu,ru⟩:=rv.get hy;refine .cons ?_ (ih λj hj=>h j (Xm _ hj));simpa [hy,hu]using ru
  have Vi:D3 X.K H (pm.toList.map λi=>ys.getD i .bN) (il cs):=by
   have e:il cs=pm.toList.map λi=>cs.getD i ([],[]):=by
    unfold il;rw[<- hs,List.map_map];refine XZ λi hi=>?_;have dj:=hm i hi;have e1:(cs.map (·.1)).getD i []=(cs[i]).1:=by simp[dj]
    have e2:cs.getD i ([],[])=cs[i]:=by simp[dj]
    show((cs.map (·.1)).getD i [],sR cs ((cs.map (·.1)).getD i []))=_;rw[e1,e2,lG iU (List.getElem_mem dj)]
   rw[e];refine⟨by simp,λj c h1=>?_⟩;rw[List.getElem?_map]at h1;obtain⟨i,hi,rfl⟩:=Option.map_eq_some_iff.mp h1;have dj:=hm i (Xw hi);obtain⟨t,x,z,e1,e2,e3,e4⟩:=hT i (cs[i]) (Xq dj);have ec:cs.getD i ([],[])=cs[i]:=by simp[dj]
   rw[ec];refine⟨t,x,z,?_,e2,e3,e4⟩;rw[List.getElem?_map,hi];simp[e1]
  obtain⟨e,he⟩:=sortedAll_at s.heap aH (List.toArray (pm.toList.map λi=>aH.getD i Value.none));have hn:H (s.heap.objs.size+1)=none:=I.cq.fresh (Yq _);refine⟨.ref (s.heap.objs.size+1),upd H (s.heap.objs.size+1) (.lst (pm.toList.map λi=>ys.getD i .bN)),I.laid (t':=s.toks) (λb u z=>sortedAll_old z) (Yq _) ⟨?_,_,e,j7 _ hm,he⟩,rfl,q _ _ hn Vi⟩;rw[List.length_map,Array.length_toList,hp.sz,sizeLine_eq];left
def jG(xs:aa):O D:=match one xs with
 |some x=>match x with
  |.lst _ ds=>match mV ds with
   |some cs=>if (cs.map (·.1)).Nodup/\cs.length<1000 then ok (.lst .ow ((il cs).map gm))else none
   |none=>none
  |_=>none
 |none=>none
theorem we{r:D}(h:jG xs=ok r):∃(f:Fl) (cs:List jz),xs=[.lst f (cs.map gm)]/\(cs.map (·.1)).Nodup/\cs.length<1000/\r=.lst .ow ((il cs).map gm):=by
 unfold jG at h;cases h1:one xs with
 |none=>rw[h1]at h;cases h
 |some x =>
  rw[h1]at h;obtain rfl:=cx h1;cases x<;>first | (cases h;done)|skip
  rename_i f ds;have h:(match mV ds with|some cs=>if (cs.map (·.1)).Nodup/\cs.length<1000 then ok (D.lst .ow ((il cs).map gm))else none|none=>none)=ok r:=h;cases h2:mV ds with
  |none=>rw[h2]at h;cases h
  |some cs =>
   rw[h2]at h;obtain⟨⟨g1,g2⟩,g3⟩:=mY h;cases uD h2;exact⟨f,cs,rfl,g1,g2,g3.symm⟩
theorem yj{n:Nat}(hΦ:Φ n=jG){sc:Scope}{bl:ao}{k:Nat}(L:PX X sc bl k){e:Expr}(he:gS ("sorted" : Str) sc bl e=some args)(hs:lj X F Φ cs args):PE X e (tD X F Φ (.cL n cs))/\PT X e (f_ X F Φ (.cL n cs)):=by
 obtain⟨p,pos,a,rfl,rfl,h1,h2⟩:=jQ he;cases cs with
 |nil=>exact hs.elim
 |cons c cs=>cases cs with
  |cons _ _=>exact hs.2.2.2.elim
  |nil =>
   have pa:PA X [a] (pW X F Φ [c]):=PA.imp (di hs.1 (PA.imp fO λ_ _ _ h=>gY h) (hs.2.1 _)) λ_ _ _ h=>eE h;have hu:X.A.units+2<cLine:=XJ (Zd (by decide:2<=64) _) L.room.units;have this:PE X (.Call (.Name ("sorted" : Str) p) [a] [] pos) (tD X F Φ (.cL n [c])):=by
    refine PE.imp (dC (ua hu) (L.gl h1) (L.bl _ h2) (by decide +kernel) pa (he:=hs.2.1 _)) λσ H Q hq=>?_;obtain⟨R,τ,ρ,d,Si,ev,hq⟩:=hq;obtain⟨xs,b6,ev⟩:=aE ev;rw[hΦ]at ev;obtain⟨f,cs,rfl,g1,g2,rfl⟩:=we ev;refine⟨R,τ,ρ,_,Si,b6,λus H1 e1 r1=>?_⟩;obtain⟨τt,fr,rs⟩:=r1;obtain⟨v,rfl,rv⟩:=rs.one;cases rv with
    |lst h r =>
     refine⟨_,_,cs,rfl,h.sq,wy r,g1,g2,λl bs mZ L4=>hq _ _ (e1.trans (aF.upd mZ)) (bJ.oR (e1.free mZ) (e1.trans (aF.upd mZ)) aT ?_)⟩;exact lI (L4.same (aF.upd mZ))
   exact⟨this,cw this λ_=>rfl⟩
end DI
end
section
namespace DI
open PySem (Str)
section
variable {α β:Type}
@[simp]theorem cC(a:α)(f:α->O β):bd (ok a) f=f a:=rfl
@[simp]theorem N6(c:Nat)(f:α->O β):bd (some (.error c)) f=some (.error c):=rfl
noncomputable def EI(f:α->O β)(x:O α):O β:=bd x f
@[simp]theorem RA(f:α->O β)(a:α):EI f (ok a)=f a:=rfl
@[simp]theorem Oa(f:α->O β)(c:Nat):EI f (some (.error c))=some (.error c):=rfl
end
def MS(op:DK)(x y:O D):O D:=bd x λx=>bd y λy=>cv op x y
@[simp]theorem N5(op:DK)(x y:D):MS op (ok x) (ok y)=cv op x y:=rfl
def MG(op:xQ)(x y:O D):O D:=bd x λx=>bd y λy=>fg op x y
@[simp]theorem N3(op:xQ)(x y:D):MG op (ok x) (ok y)=fg op x y:=rfl
def Sw(x y:O D):O D:=bd x λx=>bd y λy=>AJ x y
@[simp]theorem Pu(x y:D):Sw (ok x) (ok y)=AJ x y:=rfl
def K7(x:O D):O D:=bd (bd x gk) λb=>ok (.bl (!b))
@[simp]theorem Ny(b:Bool):K7 (ok (.bl b))=ok (.bl (!b)):=rfl
@[simp]theorem JV(b:Bool):gk (.bl b)=ok b:=rfl
def sM(x:O D):O Bool:=bd x gk
@[simp]theorem M8(b:Bool):sM (ok (.bl b))=ok b:=rfl
@[simp]theorem JU(c:Nat):sM (some (.error c))=some (.error c):=rfl
def Sy(t:Ty)(x:O D):O D:=bd x λx=>ok (.bl (dt t x))
@[simp]theorem PH(t:Ty)(x:D):Sy t (ok x)=ok (.bl (dt t x)):=rfl
def Ay(m:aG)(xs:O (aa)):O D:=bd xs λxs=>bd (m (aB a_ xs)) λr=>ok (aW l6 r)
def Q0(x:O D):O D:=bd x λr=>ok (aW l6 r)
@[simp]theorem QZ(r:D):Q0 (ok r)=ok (aW l6 r):=rfl
@[simp]theorem NT(c:Nat):Q0 (some (.error c))=some (.error c):=rfl
@[simp]theorem ML(m:aG)(xs:aa):Ay m (ok xs)=Q0 (m (aB a_ xs)):=rfl
@[simp]theorem JA(m:aG)(c:Nat):Ay m (some (.error c))=some (.error c):=rfl
noncomputable def vA(x:O D)(xs:O (aa)):O (aa):=bd x λx=>bd xs λxs=>ok (x::xs)
@[simp]theorem MF(x:D)(xs:aa):vA (ok x) (ok xs)=ok (x::xs):=rfl
@[simp]theorem Jw(c:Nat)(xs:O (aa)):vA (some (.error c)) xs=some (.error c):=rfl
@[simp]theorem Io(x:D)(c:Nat):vA (ok x) (some (.error c))=some (.error c):=rfl
noncomputable def Ly(x:O Bool)(a b:O D):O D:=bd x λk=>if k then a else b
@[simp]theorem PD(a b:O D):Ly (ok true) a b=a:=rfl
@[simp]theorem PF(a b:O D):Ly (ok false) a b=b:=rfl
def Dy(x y:O D):O D:=bd (bd x gk) λc=>if c then y else ok (.bl false)
@[simp]theorem RB(y:O D):Dy (ok (.bl true)) y=y:=rfl
@[simp]theorem RC(y:O D):Dy (ok (.bl false)) y=ok (.bl false):=rfl
@[simp]theorem RD(a b:Bool):Dy (ok (.bl a)) (ok (.bl b))=ok (.bl (a&&b)):=by cases a<;>rfl
def Nt(x y:O D):O D:=bd (bd x gk) λc=>if c then ok (.bl true)else y
@[simp]theorem R7(y:O D):Nt (ok (.bl true)) y=ok (.bl true):=rfl
@[simp]theorem R8(y:O D):Nt (ok (.bl false)) y=y:=rfl
@[simp]theorem R9(a b:Bool):Nt (ok (.bl a)) (ok (.bl b))=ok (.bl (a||b)):=by cases a<;>rfl
def zu(x:O D):O D:=bd (bd x gk) λc=>ok (.bl c)
@[simp]theorem Ls(c:Bool):zu (ok (.bl c))=ok (.bl c):=rfl
@[simp]theorem Kj(d:D):uw (some (some d))=ok (aW bD d):=rfl
section
variable (Φ:ba)(ρ:aZ)
@[simp]theorem TJ:bA Φ .bN ρ=ok .bN:=rfl
@[simp]theorem Wk(b:Bool):bA Φ (.bl b) ρ=ok (.bl b):=rfl
@[simp]theorem EA(i:Int):bA Φ (.int i) ρ=ok (.int i):=rfl
@[simp]theorem TR(x:Str)(i:Int):bA Φ (.glo x i) ρ=ok (.int i):=rfl
@[simp]theorem TQ(x:Str)(zs:ab):bA Φ (.glt x zs) ρ=ok (.tup (zs.map D.int)):=rfl
@[simp]theorem Xc(i:Nat):bA Φ (.v i) ρ=uw ρ[i]?:=rfl
@[simp]theorem TV(op:DK)(a b:CE):bA Φ (.bin op a b) ρ=MS op (bA Φ a ρ) (bA Φ b ρ):=rfl
@[simp]theorem TU(op:xQ)(a b:CE):bA Φ (.cmp op a b) ρ=MG op (bA Φ a ρ) (bA Φ b ρ):=rfl
@[simp]theorem TL(a:CE):bA Φ (.neg a) ρ=EI Cg (bA Φ a ρ):=rfl
@[simp]theorem TH(a:CE):bA Φ (.not a) ρ=K7 (bA Φ a ρ):=rfl
@[simp]theorem TN(a:CE)(t:Ty):bA Φ (.pY a t) ρ=Sy t (bA Φ a ρ):=rfl
@[simp]theorem Ri(f:Nat)(es:aD):bA Φ (.call f es) ρ=Ay (Φ f) (bV Φ es ρ):=rfl
@[simp]theorem Wl(f:Bf)(es:aD):bA Φ (.bf f es) ρ=EI (rW f) (bV Φ es ρ):=rfl
@[simp]theorem TB(f:Nat)(es:aD):bA Φ (.cL f es) ρ=EI (Φ f) (bV Φ es ρ):=rfl
@[simp]theorem Wj(a b:CE):bA Φ (.ix a b) ρ=Sw (bA Φ a ρ) (bA Φ b ρ):=rfl
@[simp]theorem Rg(a:CE):bA Φ (.iF a) ρ=EI uR (bA Φ a ρ):=rfl
@[simp]theorem Tz(es:aD):bA Φ (.tup es) ρ=EI (λxs=>ok (.tup xs)) (bV Φ es ρ):=rfl
@[simp]theorem TM(es:aD):bA Φ (.lst es) ρ=EI (λxs=>ok (.lst .ow xs)) (bV Φ es ρ):=rfl
@[simp]theorem TX(es:aD):bA Φ (.and es) ρ=nV Φ es ρ:=rfl
@[simp]theorem Wi(es:aD):bA Φ (.or es) ρ=xj Φ es ρ:=rfl
@[simp]theorem Rk(e:CE):nV Φ [e] ρ=zu (bA Φ e ρ):=rfl
@[simp]theorem Rj(e e':CE)(es:aD):nV Φ (e::e'::es) ρ=Dy (bA Φ e ρ) (nV Φ (e'::es) ρ):=rfl
@[simp]theorem TF(e:CE):xj Φ [e] ρ=zu (bA Φ e ρ):=rfl
@[simp]theorem TC(e e':CE)(es:aD):xj Φ (e::e'::es) ρ=Nt (bA Φ e ρ) (xj Φ (e'::es) ρ):=rfl
@[simp]theorem TK:bV Φ [] ρ=ok []:=rfl
@[simp]theorem Rh(e:CE)(es:aD):bV Φ (e::es) ρ=vA (bA Φ e ρ) (bV Φ es ρ):=rfl
@[simp]theorem Xd(e:CE):xi Φ e ρ=sM (bA Φ e ρ):=rfl
theorem Rn(e:CE):bd (bA Φ e ρ) gk=sM (bA Φ e ρ):=rfl
@[simp]theorem Rm:gd Φ [] ρ=ok true:=rfl
@[simp]theorem Rl(e:CE):gd Φ [e] ρ=sM (bA Φ e ρ):=by
 rw[gd,Rn];cases h:sM (bA Φ e ρ)with
 |none=>rfl
 |some r=>cases r with
  |error c=>rfl
  |ok b=>cases b<;>simp[gd,bd,ok]
end
def pb(is:aK):Nat->aZ->aZ
 |_,[]=>[]
 |n,d::ρ=>(if n∈is then d.map (aW a_)else d)::pb is (n+1) ρ
theorem Ex(is:aK):∀(ρ:aZ) (n:Nat),ρ.mapIdx (λi d=>if i+n∈is then d.map (aW a_)else d)=pb is n ρ
 |[],_=>rfl
 |d::ρ,n=>by
  rw[List.mapIdx_cons,pb,<- Ex is ρ (n+1)];simp only[Nat.zero_add,Nat.add_assoc,Nat.add_comm 1 n]
theorem tQ(is:aK)(ρ:aZ):gp is ρ=pb is 0 ρ:=by rw[<- Ex];rfl
@[simp]theorem Mo(is:aK)(n:Nat):pb is n []=[]:=rfl
@[simp]theorem Jr(is:aK)(n:Nat)(d:aM)(ρ:aZ):pb is n (d::ρ)=(if n∈is then d.map (aW a_)else d)::pb is (n+1) ρ:=rfl
def cH(e:CE)(ρ:aZ)(x:O D):O (D×aZ):=bd x λd=>ok (keep e d ρ)
variable {ρ ρ1:aZ}
@[simp]theorem qW{e:CE}{d:D}(h:aY bG d=false):cH e ρ (ok d)=ok (d,ρ):=by
 show ok (keep e d ρ)=_;rw[keep,h];rfl
@[simp]theorem Lw{e:CE}{d:D}(h:aY bG d=true):cH e ρ (ok d)=ok (aW a_ d,pb (h_ e) 0 ρ):=by
 show ok (keep e d ρ)=_;rw[keep,h,<- tQ];rfl
@[simp]theorem IZ(e:CE)(ρ:aZ)(c:Nat):cH e ρ (some (.error c))=some (.error c):=rfl
def zf(i:Nat)(ρ:aZ)(o:Option (aM)):O (D×aZ):=match o with
 |some (some d)=>if aY ck d then ok (d,ρ.set i none)else ok (d,ρ)
 |_=>none
@[simp]theorem Lb{i:Nat}{d:D}(h:aY ck d=true):zf i ρ (some (some d))=ok (d,ρ.set i none):=X1 h
@[simp]theorem Lc{i:Nat}{d:D}(h:aY ck d=false):zf i ρ (some (some d))=ok (d,ρ):=Y5 (by rw[h];exact Xi)
@[simp]theorem WZ(Φ:ba)(i:Nat)(ρ:aZ):iH Φ (.v i) ρ=zf i ρ ρ[i]?:=rfl
noncomputable def U8:CE->Bool
 |.v _=>true
 |_=>false
@[simp]theorem Sr(Φ:ba)(ρ:aZ)(op:DK)(a b:CE):iH Φ (.bin op a b) ρ=cH (.bin op a b) ρ (bA Φ (.bin op a b) ρ):=rfl
@[simp]theorem Sq(Φ:ba)(ρ:aZ)(op:xQ)(a b:CE):iH Φ (.cmp op a b) ρ=cH (.cmp op a b) ρ (bA Φ (.cmp op a b) ρ):=rfl
@[simp]theorem Pr(Φ:ba)(ρ:aZ)(f:Nat)(es:aD):iH Φ (.call f es) ρ=cH (.call f es) ρ (bA Φ (.call f es) ρ):=rfl
@[simp]theorem U7(Φ:ba)(ρ:aZ)(f:Bf)(es:aD):iH Φ (.bf f es) ρ=cH (.bf f es) ρ (bA Φ (.bf f es) ρ):=rfl
@[simp]theorem Sh(Φ:ba)(ρ:aZ)(f:Nat)(es:aD):iH Φ (.cL f es) ρ=cH (.cL f es) ρ (bA Φ (.cL f es) ρ):=rfl
@[simp]theorem U5(Φ:ba)(ρ:aZ)(a b:CE):iH Φ (.ix a b) ρ=cH (.ix a b) ρ (bA Φ (.ix a b) ρ):=rfl
@[simp]theorem Sg(Φ:ba)(ρ:aZ)(es:aD):iH Φ (.tup es) ρ=cH (.tup es) ρ (bA Φ (.tup es) ρ):=rfl
@[simp]theorem Sn(Φ:ba)(ρ:aZ)(es:aD):iH Φ (.lst es) ρ=cH (.lst es) ρ (bA Φ (.lst es) ρ):=rfl
@[simp]theorem Eg(Φ:ba)(ρ:aZ)(i:Int):iH Φ (.int i) ρ=cH (.int i) ρ (bA Φ (.int i) ρ):=rfl
@[simp]theorem U6(Φ:ba)(ρ:aZ)(i:Bool):iH Φ (.bl i) ρ=cH (.bl i) ρ (bA Φ (.bl i) ρ):=rfl
@[simp]theorem Sk(Φ:ba)(ρ:aZ): iH Φ (.bN) ρ=cH (.bN) ρ (bA Φ (.bN) ρ):=rfl
@[simp]theorem Sl(Φ:ba)(ρ:aZ)(a:CE):iH Φ (.neg a) ρ=cH (.neg a) ρ (bA Φ (.neg a) ρ):=rfl
@[simp]theorem Sj(Φ:ba)(ρ:aZ)(a:CE):iH Φ (.not a) ρ=cH (.not a) ρ (bA Φ (.not a) ρ):=rfl
@[simp]theorem Ss(Φ:ba)(ρ:aZ)(es:aD):iH Φ (.and es) ρ=cH (.and es) ρ (bA Φ (.and es) ρ):=rfl
@[simp]theorem U4(Φ:ba)(ρ:aZ)(es:aD):iH Φ (.or es) ρ=cH (.or es) ρ (bA Φ (.or es) ρ):=rfl
@[simp]theorem Pq(Φ:ba)(ρ:aZ)(n:Nat)(t:Tg)(caps:aK)(ik:IK)(es bC:aD)(elt:CE):iH Φ (.comp n t caps ik es bC elt) ρ=cH (.comp n t caps ik es bC elt) ρ (bA Φ (.comp n t caps ik es bC elt) ρ):=rfl
@[simp]theorem So(Φ:ba)(ρ:aZ)(a:CE)(t:Ty):iH Φ (.pY a t) ρ=cH (.pY a t) ρ (bA Φ (.pY a t) ρ):=rfl
@[simp]theorem Pp(Φ:ba)(ρ:aZ)(a:CE):iH Φ (.iF a) ρ=cH (.iF a) ρ (bA Φ (.iF a) ρ):=rfl
theorem GO(Φ:ba)(e:CE)(ρ:aZ)(h:U8 e=false):iH Φ e ρ=cH e ρ (bA Φ e ρ):=by cases e<;>first|rfl|cases h
@[simp]theorem IM(ρ:aZ):gb [] [] ρ=ok ρ:=rfl
variable {ds xs:aa}{is:aK}
@[simp]theorem Fv{i:Nat}{d:D}(h:i<ρ.length):gb (i::is) (d::ds) ρ=gb is ds (ρ.set i (some d)):=X1 h
@[simp]theorem Ng{i:Nat}{d:D}(h:i<ρ.length):cg (.nm i) d ρ=ok (ρ.set i (some d)):=X1 h
@[simp]theorem By(h:aS ck ds=false):cg (.tp is) (.tup ds) ρ=gb is ds ρ:=Y5 (by rw[h];exact Xi)
def IC(i:Nat)(r:O (D×aZ)):O (Fo×aZ):=bd r λr=>bd (cg (.nm i) r.1 r.2) λρ'=>ok (.nx,ρ')
@[simp]theorem vO{i:Nat}{d:D}(h:i<ρ.length):IC i (ok (d,ρ))=ok (.nx,ρ.set i (some d)):=by
 show bd (cg (.nm i) d ρ) _=_;rw[cg,if_pos h];rfl
@[simp]theorem MY(i:Nat)(c:Nat):IC i (some (.error c))=some (.error c):=rfl
def MX(is:aK)(r:O (D×aZ)):O (Fo×aZ):=bd r λr=>bd (cg (.tp is) r.1 r.2) λρ'=>ok (.nx,ρ')
@[simp]theorem N8(h:aS ck ds=false):MX is (ok (.tup ds,ρ))=bd (gb is ds ρ) λρ'=>ok (.nx,ρ'):=by
 show bd (cg (.tp is) (.tup ds) ρ) _=_;rw[cg,h];rfl
noncomputable def retS(r:O (D×aZ)):O (Fo×aZ):=bd r λr=>ok (.rt r.1,r.2)
@[simp]theorem Nh(d:D)(ρ:aZ):retS (ok (d,ρ))=ok (.rt d,ρ):=rfl
@[simp]theorem Ks(c:Nat):retS (some (.error c))=some (.error c):=rfl
noncomputable def Q6(ρ:aZ)(x:O D):O (Fo×aZ):=bd x λ_=>ok (.nx,ρ)
@[simp]theorem Q5(ρ:aZ)(d:D):Q6 ρ (ok d)=ok (.nx,ρ):=rfl
@[simp]theorem NY(ρ:aZ)(c:Nat):Q6 ρ (some (.error c))=some (.error c):=rfl
noncomputable def nu(Φ:ba)(ss:aj)(r:O (Fo×aZ)):O (Fo×aZ):=bd r λr=>match r with
 | (.nx,ρ')=>bT Φ ss ρ'
 |r=>ok r
@[simp]theorem gy(Φ:ba)(ss:aj)(ρ:aZ):nu Φ ss (ok (.nx,ρ))=bT Φ ss ρ:=rfl
@[simp]theorem JW(Φ:ba)(ss:aj)(d:D)(ρ:aZ):nu Φ ss (ok (.rt d,ρ))=ok (.rt d,ρ):=rfl
@[simp]theorem JY(Φ:ba)(ss:aj)(ρ:aZ):nu Φ ss (ok (.bk,ρ))=ok (.bk,ρ):=rfl
@[simp]theorem JX(Φ:ba)(ss:aj)(ρ:aZ):nu Φ ss (ok (.ct,ρ))=ok (.ct,ρ):=rfl
@[simp]theorem IJ(Φ:ba)(ss:aj)(c:Nat):nu Φ ss (some (.error c))=some (.error c):=rfl
noncomputable def Cr(Φ:ba)(a b:aj)(ρ:aZ)(x:O Bool):O (Fo×aZ):=bd x λk=>if k then bT Φ a ρ else bT Φ b ρ
@[simp]theorem PB(Φ:ba)(a b:aj)(ρ:aZ):Cr Φ a b ρ (ok true)=bT Φ a ρ:=rfl
@[simp]theorem PC(Φ:ba)(a b:aj)(ρ:aZ):Cr Φ a b ρ (ok false)=bT Φ b ρ:=rfl
@[simp]theorem Lx(Φ:ba)(a b:aj)(ρ:aZ)(c:Nat):Cr Φ a b ρ (some (.error c))=some (.error c):=rfl
def MZ(i:Nat)(r:O (D×aZ)):O (Fo×aZ):=bd r λr=>match yZ r.2[i]? with
  |some ds=>if ds.length<eO then ok (.nx,r.2.set i (some (.lst .ow (ds++[r.1]))))else none
  |none=>none
@[simp]theorem N_{i:Nat}{d:D}(h:ρ[i]?=some (some (.lst .ow ds)))(hl:ds.length<eO):MZ i (ok (d,ρ))=ok (.nx,ρ.set i (some (.lst .ow (ds++[d])))):=by
 show(match yZ ρ[i]? with|some ds=>_|none=>_)=_;rw[h];exact X1 hl
section
variable (Φ:ba)(ρ:aZ)
@[simp]theorem RR:bT Φ [] ρ=ok (.nx,ρ):=rfl
@[simp]theorem dq(s:CS)(ss:aj):bT Φ (s::ss) ρ=nu Φ ss (nU Φ s ρ):=rfl
@[simp]theorem DM(i:Nat)(e:CE):nU Φ (.asg (.nm i) e) ρ=IC i (iH Φ e ρ):=rfl
@[simp]theorem Og(is:aK)(e:CE):nU Φ (.asg (.tp is) e) ρ=MX is (iH Φ e ρ):=rfl
@[simp]theorem RQ(e:CE):nU Φ (.ret e) ρ=retS (iH Φ e ρ):=rfl
theorem ng(c:CE)(b:aj):nU Φ (.EX c b) ρ=eD (λρ=>bd (xi Φ c ρ) λk=>if k then bd (bT Φ b ρ) λr=>match r with
   | (.nx,ρ')=>ok (.inl ρ')
   | (.ct,ρ')=>ok (.inl ρ')
   | (.bk,ρ')=>ok (.inr (.nx,ρ'))
   | (.rt d,ρ')=>ok (.inr (.rt d,ρ'))
  else ok (.inr (.nx,ρ))) ρ:=rfl
theorem JH(i j:Nat)(a b:CE):nU Φ (.par i j a b) ρ=bd (bA Φ a ρ) λx=>bd (bA Φ b ρ) λy=>if aY anyF x=false/\aY anyF y=false/\i<ρ.length/\j<ρ.length then ok (.nx,(ρ.set i (some x)).set j (some y))else none:=rfl
@[simp]theorem Ua(c:Nat):nU Φ (.rs c) ρ=some (.error c):=rfl
@[simp]theorem Ub(e:CE):nU Φ (.ex e) ρ=Q6 ρ (bA Φ e ρ):=rfl
@[simp]theorem JI(c:CE)(a b:aj):nU Φ (.ifs c a b) ρ=Cr Φ a b ρ (sM (bA Φ c ρ)):=rfl
@[simp]theorem RS(i:Nat)(e:CE):nU Φ (.app i e) ρ=MZ i (iH Φ e ρ):=rfl
end
noncomputable def mk(Φ:ba)(ar n:Nat)(b:aj):aG:=λds=>if ds.length=ar then oJ Φ n b ds else none
noncomputable def m7(r:O (Fo×aZ)):O D:=bd r λr=>match r.1 with
 |.nx=>ok .bN
 |.rt d=>ok d
 |_=>none
@[simp]theorem N1(ρ:aZ):m7 (ok (.nx,ρ))=ok .bN:=rfl
@[simp]theorem N0(d:D)(ρ:aZ):m7 (ok (.rt d,ρ))=ok d:=rfl
@[simp]theorem Mx(c:Nat):m7 (some (.error c))=some (.error c):=rfl
variable {ar:Nat}{Φ:ba}
theorem mk_eq{n:Nat}{b:aj}(h:ds.length=ar):mk Φ ar n b ds=m7 (bT Φ b (ds.map some++List.replicate (n - ds.length) none)):=X1 h
theorem tf{n:Nat}{b:aj}(ds:aa)(r:D)(h:mk Φ ar n b ds=ok r):ds.length=ar/\oJ Φ n b ds=ok r:=by
 unfold mk at h;split at h
 ·rename_i hl;exact⟨hl,h⟩
 ·cases h
theorem Int.beq_eq_decide_eq(i j:Int):(i==j)=decide (i=j):=rfl
section
variable (g:Fl->Fl)(p:Fl->Bool)
@[simp]theorem Ci(b:Bool):aW g (.bl b)=.bl b:=rfl
@[simp]theorem qP(b:Int):aW g (.int b)=.int b:=rfl
@[simp]theorem Lg:aW g .bN=.bN:=rfl
@[simp]theorem zl(ds:aa):aW g (.tup ds)=.tup (aB g ds):=rfl
@[simp]theorem Lh(f:Fl)(ds:aa):aW g (.lst f ds)=.lst (g f) (aB g ds):=rfl
@[simp]theorem Li(f:Fl)(ks:ak)(vs:aa):aW g (.cu f ks vs)=.cu (g f) ks (aB g vs):=rfl
@[simp]theorem IV:aB g []=[]:=rfl
@[simp]theorem Gu(d:D)(ds:aa):aB g (d::ds)=aW g d::aB g ds:=rfl
@[simp]theorem IY(a b:aa):aB g (a++b)=aB g a++aB g b:=by simp only[aV,List.map_append]
@[simp]theorem IW(ds:aa):(aB g ds).length=ds.length:=by rw[aV,List.length_map]
theorem cD{α:Type}{e:α->D}(h:∀x,aW g (e x)=e x)(xs:List α):aB g (xs.map e)=xs.map e:=by
 rw[aV,List.map_map];exact XZ λx _=>h x
theorem de{α:Type}{e:α->D}(h:∀x,aY p (e x)=false):∀xs:List α,aS p (xs.map e)=false
 |[]=>by rw[List.map_nil,aS]
 |x::xs=>by rw[List.map_cons,aS,h x,de h xs];rfl
@[simp]theorem CJ(b:Bool):aY p (.bl b)=false:=Zh rfl
@[simp]theorem jg(b:Int):aY p (.int b)=false:=Zh rfl
@[simp]theorem L_:aY p .bN=false:=Zh rfl
@[simp]theorem L9(ds:aa):aY p (.tup ds)=aS p ds:=Zh rfl
@[simp]theorem zX(f:Fl)(ds:aa):aY p (.lst f ds)=(p f||aS p ds):=Zh rfl
@[simp]theorem Ma(f:Fl)(ks:ak)(vs:aa):aY p (.cu f ks vs)=(p f||aS p vs):=Zh rfl
@[simp]theorem Jn:aS p []=false:=Zh rfl
@[simp]theorem tO(d:D)(ds:aa):aS p (d::ds)=(aY p d||aS p ds):=Zh rfl
@[simp]theorem w9:∀a b:aa,aS p (a++b)=(aS p a||aS p b)
 |[],b=>by simp
 |d::a,b=>by simp[w9 a b,Bool.or_assoc]
@[simp]theorem iE(ns:ab):aB g (ns.map D.int)=ns.map D.int:=cD g (qP g) ns
@[simp]theorem tN(ns:ab):aS p (ns.map D.int)=false:=de p (jg p) ns
@[simp]theorem wG(ns:List Bool):aB g (ns.map D.bl)=ns.map D.bl:=cD g (Ci g) ns
@[simp]theorem w8(ns:List Bool):aS p (ns.map D.bl)=false:=de p (CJ p) ns
@[simp]theorem I9(t:Ty)(d:D):dt t (aW g d)=dt t d:=by cases d<;>cases t<;>rfl
end
@[simp]theorem HC:bD .ow=.al:=rfl
@[simp]theorem HD:bD .fz=.fz:=rfl
@[simp]theorem HE:bD .al=.al:=rfl
@[simp]theorem HB:bD .sc=.sc:=rfl
@[simp]theorem Hy:a_ .ow=.fz:=rfl
@[simp]theorem Hz:a_ .fz=.fz:=rfl
@[simp]theorem HA:a_ .al=.fz:=rfl
@[simp]theorem Hx:a_ .sc=.sc:=rfl
@[simp]theorem HS:l6 .ow=.ow:=rfl
@[simp]theorem HU:l6 .fz=.al:=rfl
@[simp]theorem HV:l6 .al=.al:=rfl
@[simp]theorem HR:l6 .sc=.sc:=rfl
@[simp]theorem HN:bG .ow=false:=rfl
@[simp]theorem HP:bG .fz=false:=rfl
@[simp]theorem HQ:bG .al=true:=rfl
@[simp]theorem HM:bG .sc=false:=rfl
@[simp]theorem HJ:ck .ow=true:=rfl
@[simp]theorem HK:ck .fz=false:=rfl
@[simp]theorem HL:ck .al=false:=rfl
@[simp]theorem HI:ck .sc=false:=rfl
@[simp]theorem HF:tE .ow=false:=rfl
@[simp]theorem HG:tE .fz=false:=rfl
@[simp]theorem HH:tE .al=false:=rfl
noncomputable def au(ns:ab):aa:=ns.map D.int
noncomputable def jo(ns:List Bool):aa:=ns.map D.bl
@[simp]theorem Jc(ns:ab):(au ns).length=ns.length:=YG ..
@[simp]theorem MR(ns:List Bool):(jo ns).length=ns.length:=YG ..
@[simp]theorem Jb:au []=[]:=rfl
@[simp]theorem G1(n:Int)(ns:ab):au (n::ns)=.int n::au ns:=rfl
@[simp]theorem G0(ns:ab)(n:Int):au ns++[.int n]=au (ns++[n]):=by simp[au]
@[simp]theorem wO(ns:ab)(i:Nat):(au ns)[i]?=ns[i]?.map D.int:=List.getElem?_map ..
@[simp]theorem gG(g:Fl->Fl)(ns:ab):aB g (au ns)=au ns:=iE g ns
@[simp]theorem Eo(p:Fl->Bool)(ns:ab):aS p (au ns)=false:=tN p ns
@[simp]theorem Gv(g:Fl->Fl)(ns:List Bool):aB g (jo ns)=jo ns:=wG g ns
@[simp]theorem Hk(p:Fl->Bool)(ns:List Bool):aS p (jo ns)=false:=w8 p ns
@[simp]theorem T3(i j:Int):cv .add (.int i) (.int j)=ok (.int (i+j)):=rfl
@[simp]theorem T2(i j:Int):cv .sub (.int i) (.int j)=ok (.int (i - j)):=rfl
theorem iw{i j:Int}(h:eH i j=true):cv .mul (.int i) (.int j)=ok (.int (i*j)):=X1 h
theorem pR{i j:Int}(h:nY j=true):cv .fdiv (.int i) (.int j)=ok (.int (i.fdiv j)):=X1 h
@[simp]theorem MV{i j:Int}(h:j≠0):cv .mod (.int i) (.int j)=ok (.int (i.fmod j)):=X1 h
@[simp]theorem MT{i j:Int}(h:0<=j):cv .shr (.int i) (.int j)=ok (.int (i / 2 ^ j.toNat)):=X1 h
theorem MU{i j:Int}(h:i9 i j=true):cv .shl (.int i) (.int j)=ok (.int (i*2 ^ j.toNat)):=X1 h
theorem EF{i j:Int}(h:i9 i j=true):cv .pow (.int i) (.int j)=ok (.int (i ^ j.toNat)):=X1 h
@[simp]theorem Sf(i:Int):Cg (.int i)=ok (.int (-i)):=rfl
theorem mulOk_of{i j:Int}(h:i.natAbs<2 ^ 9000)(h':j.natAbs<2 ^ 9000):eH i j=true:=by
 simp only[eH,big,h,h',decide_true,Bool.and_self,Bool.or_true]
theorem tm{n:Nat}(h:n<2 ^ 64):n<2 ^ 9000:=Xu h (Xy (by decide) (by decide))
theorem oT{i:Int}(j:Int)(h:i.natAbs<2 ^ 64):eH i j=true:=by simp only[eH,h,decide_true,Bool.true_or]
theorem uO{j:Int}(i:Int)(h:j.natAbs<2 ^ 64):eH i j=true:=by simp only[eH,h,decide_true,Bool.true_or,Bool.or_true]
theorem jl{j:Int}(h0:j≠0)(h:j.natAbs<2 ^ 9000):nY j=true:=by
 simp only[nY,big,h,decide_true,Bool.and_true,decide_eq_true_eq];exact h0
@[simp]theorem vJ{i j:Int}(h:j.natAbs<2 ^ 64):cv .mul (.int i) (.int j)=ok (.int (i*j)):=iw (uO i h)
@[simp]theorem N7{i j:Int}(h:i.natAbs<2 ^ 64):cv .mul (.int i) (.int j)=ok (.int (i*j)):=iw (oT j h)
@[simp]theorem MW{i j:Int}(h0:j≠0)(h:j.natAbs<2 ^ 64):cv .fdiv (.int i) (.int j)=ok (.int (i.fdiv j)):=pR (jl h0 (tm h))
theorem Iv{a b:D}(ha:df 40 a=true)(hb:df 40 b=true):fg .eq a b=ok (.bl (jy a b)):=by
 show(if df 40 a&&df 40 b then _ else _)=_;rw[ha,hb];rfl
theorem Iu{a b:D}(ha:df 40 a=true)(hb:df 40 b=true):fg .ne a b=ok (.bl (!jy a b)):=by
 show(if df 40 a&&df 40 b then _ else _)=_;rw[ha,hb];rfl
@[simp]theorem fP(n:Nat)(i:Int):df n (.int i)=true:=by cases n<;>rfl
@[simp]theorem Pd(n:Nat)(i:Bool):df n (.bl i)=true:=by cases n<;>rfl
@[simp]theorem Nw(n:Nat):df n .bN=true:=by cases n<;>rfl
@[simp]theorem oP(n:Nat)(ds:aa):df (n+1) (.tup ds)=ds.all (df n):=rfl
@[simp]theorem Cc(n:Nat)(f:Fl)(ds:aa):df (n+1) (.lst f ds)=ds.all (df n):=rfl
@[simp]theorem OZ(i j:Int):fg .eq (.int i) (.int j)=ok (.bl (decide (i=j))):=by rw[Iv (fP _ _) (fP _ _)];show ok (D.bl (i==j))=_;rw[Int.beq_eq_decide_eq]
@[simp]theorem OY(i j:Int):fg .ne (.int i) (.int j)=ok (.bl (!decide (i=j))):=by rw[Iu (fP _ _) (fP _ _)];show ok (D.bl (!(i==j)))=_;rw[Int.beq_eq_decide_eq]
@[simp]theorem UO(i j:Int):fg .lt (.int i) (.int j)=ok (.bl (decide (i<j))):=rfl
@[simp]theorem UP(i j:Int):fg .le (.int i) (.int j)=ok (.bl (decide (i<=j))):=rfl
@[simp]theorem UQ(i j:Int):fg .gt (.int i) (.int j)=ok (.bl (decide (j<i))):=rfl
@[simp]theorem UR(i j:Int):fg .ge (.int i) (.int j)=ok (.bl (decide (j<=i))):=rfl
@[simp]theorem SD(ds:aa)(i:Int):AJ (.tup ds) (.int i)=vN ds i:=rfl
@[simp]theorem SE(f:Fl)(ds:aa)(i:Int):AJ (.lst f ds) (.int i)=vN ds i:=rfl
theorem mC{n:Nat}{d:D}(h:ds[n]?=some d):vN ds (n:Int)=ok (aW bD d):=by
 have hn:n<ds.length:=(List.getElem?_eq_some_iff.mp h).1;have e:wI ds.length (n:Int)=some n:=by unfold wI;rw[if_pos (by left),if_pos (by left)];rfl
 unfold vN;rw[e,Option.bind_some,h]
theorem at_of{i:Int}{d:D}(h0:0<=i)(h:ds[i.toNat]?=some d):vN ds i=ok (aW bD d):=by
 have:=mC h
 rwa [show((i.toNat:Nat):Int)=i by left]at this
@[simp]theorem Wy(d:D)(ds:aa):vN (d::ds) 0=ok (aW bD d):=mC (n:=0) rfl
@[simp]theorem Wx(a d:D)(ds:aa):vN (a::d::ds) 1=ok (aW bD d):=mC (n:=1) rfl
@[simp]theorem Ww(a b d:D)(ds:aa):vN (a::b::d::ds) 2=ok (aW bD d):=mC (n:=2) rfl
@[simp]theorem NW(ds:aa):rW .len [.tup ds]=ok (.int ds.length):=rfl
@[simp]theorem NX(f:Fl)(ds:aa):rW .len [.lst f ds]=ok (.int ds.length):=rfl
@[simp]theorem Ts(i:Int):rW .abs [.int i]=ok (.int i.natAbs):=by
 show ok (D.int (if i<0 then -i else i))=_;congr 2;split<;>left
@[simp]theorem Mu(f:Fl)(ds:aa):rW .list1 [.lst f ds]=ok (.lst .ow (aB bD ds)):=rfl
@[simp]theorem Mt(ds:aa):rW .list1 [.tup ds]=ok (.lst .ow (aB bD ds)):=rfl
@[simp]theorem NV(f:Fl)(ds:aa):rW .tuple1 [.lst f ds]=ok (.tup (aB bD ds)):=rfl
@[simp]theorem NU(ds:aa):rW .tuple1 [.tup ds]=ok (.tup (aB bD ds)):=rfl
@[simp]theorem Tq(f:Fl)(ns:ab):rW .lD [.lst f (au ns)]=ok (.int ns.sum):=by
 show(match intsOf (ns.map D.int)with|some ns=>_|none=>_)=_;rw[bx]
@[simp]theorem Tr(f:Fl)(bs:List Bool):rW .all1 [.lst f (jo bs)]=ok (.bl (bs.all id)):=by
 show(match gT (bs.map D.bl)with|some ns=>_|none=>_)=_;rw[jR]
variable {ns ws:ab}
@[simp]theorem CQ(h:ns.length<64):rW .fN [.tup (au ns)]=ok (.lst .ow (au (sortI ns))):=by
 show ny _=_;unfold ny au;rw[bx];exact X1 h
@[simp]theorem HW(h:ns.length<4000):uR (.tup (au ns))=ok (.int (pq ns).length):=by
 show(match intsOf (ns.map D.int)with|some ns=>_|none=>_)=_;rw[bx];exact X1 h
@[simp]theorem kR(i j:Int):jy (.int i) (.int j)=decide (i=j):=by show(i==j)=_;rw[Int.beq_eq_decide_eq]
@[simp]theorem Rb(i j:Bool):jy (.bl i) (.bl j)=(i==j):=rfl
@[simp]theorem vp(a b:aa):jy (.tup a) (.tup b)=dG a b:=rfl
@[simp]theorem vq(f g:Fl)(a b:aa):jy (.lst f a) (.lst g b)=dG a b:=rfl
@[simp]theorem Af:dG [] []=true:=rfl
@[simp]theorem fE(a b:D)(as bs:aa):dG (a::as) (b::bs)=(jy a b&&dG as bs):=rfl
theorem mh:∀{as bs:aa},dG as bs=true->as.length=bs.length
 |[],[],_=>rfl
 |[],_::_,h=>(Xi h).elim
 |_::_,[],h=>(Xi h).elim
 |a::as,b::bs,h=>by
  replace h:(_&&_)=true:=h;rw[Bool.and_eq_true]at h;rw[List.length_cons,List.length_cons,mh h.2]
theorem gO{α:Type}{e:α->D}[DecidableEq α](h:∀x y,jy (e x) (e y)=decide (x=y)):∀xs ys:List α,dG (xs.map e) (ys.map e)=decide (xs=ys)
 |[],[]=>by simp
 |[],y::ys=>by
  cases z:dG ([].map e) ((y::ys).map e)with
  |true=>have:=mh z;simp at this
  |false=>simp
 |x::xs,[]=>by
  cases z:dG ((x::xs).map e) ([].map e)with
  |true=>have:=mh z;simp at this
  |false=>simp
 |x::xs,y::ys=>by
  rw[List.map_cons,List.map_cons,fE,h,gO h xs ys];by_cases e1:x=y<;>by_cases e2:xs=ys<;>simp[e1,e2]
theorem kM{α:Type}{e:α->D}{n:Nat}(h:∀x,df n (e x)=true)(xs:List α):(xs.map e).all (df n)=true:=by
 rw[List.all_map];exact List.all_eq_true.mpr λx _=>h x
theorem cS{bind:D->O aZ}{test:aZ->O Bool}{el:aZ->O D}{α:Type}{e:α->D}{g:α->D}:∀{xs:List α},(∀x∈xs,∃ρ,bind (e x)=ok ρ/\test ρ=ok true/\el ρ=ok (g x))->gg bind test el (xs.map e)=ok (xs.map g)
 |[],_=>rfl
 |x::xs,h=>by
  obtain⟨ρ,h1,h2,h3⟩:=h x (Xo ..);have ih:=cS (xs:=xs) λy hy=>h y (Xm _ hy);rw[List.map_cons,gg,h1,cC,h2,cC,if_pos rfl,h3,cC,ih];rfl
theorem e_{bind:D->O aZ}{test:aZ->O Bool}{el:aZ->O D}{α:Type}{e:α->D}{g:α->D}{t:α->Bool}:∀{xs:List α},(∀x∈xs,∃ρ,bind (e x)=ok ρ/\test ρ=ok (t x)/\(t x=true->el ρ=ok (g x)))->gg bind test el (xs.map e)=ok ((xs.filter t).map g)
 |[],_=>rfl
 |x::xs,h=>by
  obtain⟨ρ,h1,h2,h3⟩:=h x (Xo ..);have ih:=e_ (xs:=xs) λy hy=>h y (Xm _ hy);rw[List.map_cons,gg,h1,cC,h2,cC,List.filter_cons];cases ht:t x with
  |true=>rw[if_pos rfl,h3 ht,cC,ih,if_pos rfl];rfl
  |false=>rw[if_neg Bool.false_ne_true,ih,if_neg Bool.false_ne_true]
section
variable {Φ:ba}{n:Nat}{t:Tg}{caps:aK}{ik:IK}{es bC:aD}{elt:CE}{ρ:aZ}{xs items ds:aa}
theorem dN(h1:bV Φ es ρ=ok xs)(h2:dM Φ ik xs=ok items)
  (h3:gg (λd=>cg t d (bE n caps ρ)) (λρ'=>gd Φ bC ρ') (λρ'=>bA Φ elt ρ') items=ok ds) (hl:ds.length<=eO):bA Φ (.comp n t caps ik es bC elt) ρ=ok (.lst .ow (aB l6 ds)):=by
 show bd (bV Φ es ρ) _=_;rw[h1,cC,h2,cC,h3,cC,if_pos hl]
end
theorem Cq(Φ:ba)(ds:aa):dM Φ .seq [.tup ds]=ok (aB a_ ds):=rfl
theorem d_(Φ:ba)(f:Fl)(ds:aa):dM Φ .seq [.lst f ds]=ok (aB a_ ds):=rfl
theorem uY(Φ:ba){n:Int}(h0:0<=n)(h:n<=1000000):dM Φ .kI [.int n]=ok ((List.range n.toNat).map λ(k:Nat)=>D.int (k:Int)):=by
 show(if n<=(eO:Int) /\ -(eO:Int)<=n then _ else _)=_;have:(eO:Int)=1000000:=rfl;rw[if_pos (by left)]
theorem cT{n:Nat}(h:n<=1000000):n<=eO:=h
theorem iV{t:Tg}{it:CI}{b:aj}{items:aa}{r:O (Fo×aZ)}(h:dJ Φ it ρ=ok (items,ρ1))(h':eu (λd ρ=>cg t d ρ) (λρ=>bT Φ b ρ) items ρ1=r):nU Φ (.fr t it b) ρ=r:=by
 show bd (dJ Φ it ρ) _=_;rw[h];exact h'
theorem CO(bind:D->aZ->O aZ)(body:aZ->O (Fo×aZ))(ρ:aZ):eu bind body [] ρ=ok (.nx,ρ):=rfl
theorem fS{bind:D->aZ->O aZ}{body:aZ->O (Fo×aZ)}{x:D}{ρ2:aZ}{r:O (Fo×aZ)}(h1:bind x ρ=ok ρ1)(h2:body ρ1=ok (.nx,ρ2))(h3:eu bind body xs ρ2=r):eu bind body (x::xs) ρ=r:=by
 rw[eu,h1,cC,h2];exact h3
theorem GU{a:CE}{n:Int}(h:bA Φ a ρ=ok (.int n))(h0:0<=n)(h1:n<=1000000):dJ Φ (.kI a) ρ=ok ((List.range n.toNat).map λ(k:Nat)=>D.int (k:Int),ρ):=by
 show bd (bA Φ a ρ) _=_;rw[h];show(if n<=(eO:Int) /\ -(eO:Int)<=n then _ else _)=_;have:(eO:Int)=1000000:=rfl;rw[if_pos (by left)]
theorem Lz{a:CE}{f:Fl}(h:bA Φ a ρ=ok (.lst f ds)):dJ Φ (.seq a) ρ=ok (aB a_ ds,if (bG f||aS bG ds)then pb (h_ a) 0 ρ else ρ):=by
 show bd (bA Φ a ρ) _=_;rw[h,<- tQ];show ok (_,if aY bG (.lst f ds)then _ else _)=_;rw[zX]
noncomputable def eN(t b:Int):Int:=if b<0 then -(Int.gcd t b:Int)else(Int.gcd t b:Int)
def Gk(t b:Int):Int:=t.fdiv (eN t b)
def Gm(t b:Int):Int:=b.fdiv (eN t b)
theorem ve{t b:Int}(h:b≠0):0<Int.gcd t b:=Int.gcd_pos_of_ne_zero_right t h
theorem iJ{t b:Int}(h:b≠0):eN t b≠0:=by
 have:=ve (t:=t) h;unfold eN;split<;>left
theorem Ht{t b:Int}(h:b≠0):Int.gcd t b<=b.natAbs:=YX (by left) (Nat.gcd_dvd_right _ _)
theorem C6{t b:Int}(h:b≠0):(eN t b).natAbs<=b.natAbs:=by
 have:=Ht (t:=t) h;unfold eN;split<;>left
theorem lN{t b:Int}(h:b≠0):∃t' b':Int,t=eN t b*t'/\b=eN t b*b'/\Gk t b=t'/\Gm t b=b'/\1<=b'/\Int.gcd t' b'=1:=by
 have hg:=ve (t:=t) h;obtain⟨t1,ht⟩:(Int.gcd t b:Int)∣t:=Int.gcd_dvd_left ..;obtain⟨b1,hb⟩:(Int.gcd t b:Int)∣b:=Int.gcd_dvd_right ..;have hc:Int.gcd t1 b1=1:=by
  have e:Int.gcd ((Int.gcd t b:Int)*t1) ((Int.gcd t b:Int)*b1)=Int.gcd t b*Int.gcd t1 b1:=by
   rw[Int.gcd_mul_left];simp
  rw[<- ht,<- hb]at e;have:Int.gcd t b*1=Int.gcd t b*Int.gcd t1 b1:=by rw[Nat.mul_one];exact e
  exact(Nat.eq_of_mul_eq_mul_left hg this).symm
 by_cases hn:b<0
 ·have ed:eN t b = -(Int.gcd t b:Int):=by simp[eN,hn]
  have e1:t=eN t b*(-t1):=by rw[ed,Int.neg_mul_neg];exact ht
  have e2:b=eN t b*(-b1):=by rw[ed,Int.neg_mul_neg];exact hb
  refine⟨-t1,-b1,e1,e2,?_,?_,?_,by rw[Int.gcd_neg,Int.neg_gcd];exact hc⟩
  ·unfold Gk
   conv=>lhs;arg 1;rw[e1]
   exact Yk _ (iJ h)
  ·unfold Gm
   conv=>lhs;arg 1;rw[e2]
   exact Yk _ (iJ h)
  ·have:b1<0:=by
    by_cases QE:b1<0
    ·exact QE
    ·have:0<=(Int.gcd t b:Int)*b1:=Int.mul_nonneg (by left) (by left);left
   left
 ·have ed:eN t b=(Int.gcd t b:Int):=by simp[eN,hn]
  have e1:t=eN t b*t1:=by rw[ed];exact ht
  have e2:b=eN t b*b1:=by rw[ed];exact hb
  refine⟨t1,b1,e1,e2,?_,?_,?_,hc⟩
  ·unfold Gk
   conv=>lhs;arg 1;rw[e1]
   exact Yk _ (iJ h)
  ·unfold Gm
   conv=>lhs;arg 1;rw[e2]
   exact Yk _ (iJ h)
  ·have:0<b1:=by
    by_cases QE:0<b1
    ·exact QE
    ·have:(Int.gcd t b:Int)*b1<=0:=Int.mul_nonpos_of_nonneg_of_nonpos (by left) (by left);left
   left
noncomputable def qD(q:Rat):D:=.tup [.int q.num,.int q.den]
@[simp]theorem Gx(g:Fl->Fl)(q:Rat):aW g (qD q)=qD q:=by unfold qD;simp
@[simp]theorem Hm(g:Fl->Bool)(q:Rat):aY g (qD q)=false:=by unfold qD;simp
noncomputable def bQ(qs:aC):aa:=qs.map qD
@[simp]theorem Nk(qs:aC):(bQ qs).length=qs.length:=YG ..
@[simp]theorem BM:bQ []=[]:=rfl
@[simp]theorem Ky(q:Rat)(qs:aC):bQ (q::qs)=qD q::bQ qs:=rfl
@[simp]theorem Kx(qs:aC)(q:Rat):bQ qs++[qD q]=bQ (qs++[q]):=by simp[bQ]
@[simp]theorem BN(qs:aC)(i:Nat):(bQ qs)[i]?=qs[i]?.map qD:=List.getElem?_map ..
@[simp]theorem Nj(qs:aC)(i:Nat)(q:Rat):(bQ qs).set i (qD q)=bQ (qs.set i q):=by unfold bQ;rw[List.map_set]
@[simp]theorem Lf(g:Fl->Fl)(qs:aC):aB g (bQ qs)=bQ qs:=cD g (Gx g) qs
@[simp]theorem L8(g:Fl->Bool)(qs:aC):aS g (bQ qs)=false:=de g (Hm g) qs
theorem Ea(n:Nat)(q:Rat):df (n+1) (qD q)=true:=by
 unfold qD;rw[oP,List.all_cons,List.all_cons,fP,fP];rfl
theorem Ez(p q:Rat):jy (qD p) (qD q)=decide (p=q):=by
 unfold qD;rw[vp,fE,fE,Af,kR,kR,Bool.and_true];by_cases h:p=q
 ·subst h;simp
 ·rw[decide_eq_false h];cases e1:decide (p.num=q.num)with
  |false=>rfl
  |true =>
   cases e2:decide ((p.den:Int)=(q.den:Int))with
   |false=>rfl
   |true =>
    refine absurd (Rat.ext (by simpa using e1) ?_) h;have:(p.den:Int)=q.den:=by simpa using e2
    left
@[simp]theorem Sv(q:Rat):AJ (qD q) (.int 0)=ok (.int q.num):=by unfold qD;simp
@[simp]theorem Su(q:Rat):AJ (qD q) (.int 1)=ok (.int q.den):=by unfold qD;simp
theorem pf{t b:Int}(hb:b≠0):t.fdiv (eN t b)=(Rat.divInt t b).num/\b.fdiv (eN t b)=((Rat.divInt t b).den:Int):=by
 obtain⟨t',b',e1,e2,h1,h2,h3,h4⟩:=lN (t:=t) hb;have hd:=iJ (t:=t) hb;have e:Rat.divInt t b=Rat.divInt t' b':=by
  generalize eN t b=d at *;rw[e1,e2];exact Rat.divInt_mul_left hd
 obtain⟨n,rfl⟩:∃n:Nat,b'=(n:Int):=⟨b'.toNat,by left⟩
 have hc:t'.natAbs.Coprime n:=by
  have:Nat.gcd t'.natAbs n=1:=by simpa [Int.gcd]using h4
  exact this
 have hn:n≠0:=by left
 have e3:Rat.divInt t' (n:Int)=⟨t',n,hn,hc⟩:=Rat.mk_eq_divInt.symm;rw[e,e3];exact⟨h1,h2⟩
theorem i8(q:Rat):(q.den:Int)≠0:=by have:=q.den_pos;left
theorem Kz(q:Rat):(1:Int)<=q.den:=by have:=q.den_pos;left
theorem iC(q:Rat):Rat.divInt q.num q.den=q:=Rat.num_divInt_den q
theorem i7{t b:Int}(hb:b≠0):(Rat.divInt t b).num.natAbs<=t.natAbs/\(Rat.divInt t b).den<=b.natAbs:=by
 obtain⟨t',b',e1,e2,h1,h2,h3,h4⟩:=lN (t:=t) hb;obtain⟨g1,g2⟩:=pf (t:=t) hb;have hd:1<=(eN t b).natAbs:=by have:=iJ (t:=t) hb;left
 rw[show t.fdiv (eN t b)=t' from h1]at g1;rw[show b.fdiv (eN t b)=b' from h2]at g2;refine⟨?_,?_⟩
 ·rw[<- g1];have:t.natAbs=(eN t b).natAbs*t'.natAbs:=by rw[<- Int.natAbs_mul,<- e1]
  rw[this];exact Nat.le_mul_of_pos_left _ hd
 ·have hz:(Rat.divInt t b).den=b'.natAbs:=by left
  rw[hz];have:b.natAbs=(eN t b).natAbs*b'.natAbs:=by rw[<- Int.natAbs_mul,<- e2]
  rw[this];exact Nat.le_mul_of_pos_left _ hd
theorem KA(p q:Rat):p+q=Rat.divInt (p.num*q.den+q.num*p.den) (p.den*q.den):=by
 conv=>lhs;rw[<- iC p,<- iC q]
 exact Rat.divInt_add_divInt _ _ (i8 p) (i8 q)
theorem D4(p q:Rat):p - q=Rat.divInt (p.num*q.den - q.num*p.den) (p.den*q.den):=by
 conv=>lhs;rw[<- iC p,<- iC q]
 exact Rat.divInt_sub_divInt _ _ (i8 p) (i8 q)
theorem D5(p q:Rat):p*q=Rat.divInt (p.num*q.num) (p.den*q.den):=by
 conv=>lhs;rw[<- iC p,<- iC q]
 exact Rat.divInt_mul_divInt _ _
def Sm(k:Nat)(q:Rat):Prop:=q.num.natAbs<2 ^ k/\q.den<2 ^ k
theorem Sm.mono{k l:Nat}{q:Rat}(h:Sm k q)(hl:k<=l):Sm l q :=
 ⟨Xu h.1 (Xy (by decide) hl),Xu h.2 (Xy (by decide) hl)⟩
theorem bW{a b k l:Nat}(h:a<2 ^ k)(h':b<2 ^ l):a*b<2 ^ (k+l):=by
 rw[Nat.pow_add];exact Nat.mul_lt_mul'' h h'
theorem DC(a b:Int):(a+b).natAbs<=a.natAbs+b.natAbs:=by left
theorem DB(a b:Int):(a - b).natAbs<=a.natAbs+b.natAbs:=by left
section
variable {k l:Nat}{p q:Rat}
theorem Sm.den(h:Sm k p)(h':Sm l q):((p.den:Int)*q.den).natAbs<2 ^ (k+l):=by
 rw[Int.natAbs_mul];exact bW (by simpa using h.2) (by simpa using h'.2)
theorem Sm.add(h:Sm k p)(h':Sm l q):Sm (k+l+1) (p+q):=by
 have hb:(p.den:Int)*q.den≠0:=Y8 (i8 p) (i8 q);obtain⟨g1,g2⟩:=i7 (t:=p.num*q.den+q.num*p.den) hb;rw[<- KA]at g1 g2;have n1:(p.num*q.den).natAbs<2 ^ (k+l):=by rw[Int.natAbs_mul];exact bW h.1 (by simpa using h'.2)
 have n2:(q.num*p.den).natAbs<2 ^ (k+l):=by rw[Int.natAbs_mul,Nat.add_comm];exact bW h'.1 (by simpa using h.2)
 have:=DC (p.num*q.den) (q.num*p.den);have e:2 ^ (k+l+1)=2 ^ (k+l)*2:=Nat.pow_succ ..;have d:=h.den h';exact⟨by left,by left⟩
theorem Sm.sub(h:Sm k p)(h':Sm l q):Sm (k+l+1) (p - q):=by
 have hb:(p.den:Int)*q.den≠0:=Y8 (i8 p) (i8 q);obtain⟨g1,g2⟩:=i7 (t:=p.num*q.den - q.num*p.den) hb;rw[<- D4]at g1 g2;have n1:(p.num*q.den).natAbs<2 ^ (k+l):=by rw[Int.natAbs_mul];exact bW h.1 (by simpa using h'.2)
 have n2:(q.num*p.den).natAbs<2 ^ (k+l):=by rw[Int.natAbs_mul,Nat.add_comm];exact bW h'.1 (by simpa using h.2)
 have:=DB (p.num*q.den) (q.num*p.den);have e:2 ^ (k+l+1)=2 ^ (k+l)*2:=Nat.pow_succ ..;have d:=h.den h';exact⟨by left,by left⟩
theorem Sm.mul(h:Sm k p)(h':Sm l q):Sm (k+l) (p*q):=by
 have hb:(p.den:Int)*q.den≠0:=Y8 (i8 p) (i8 q);obtain⟨g1,g2⟩:=i7 (t:=p.num*q.num) hb;rw[<- D5]at g1 g2;have n1:(p.num*q.num).natAbs<2 ^ (k+l):=by rw[Int.natAbs_mul];exact bW h.1 h'.1
 have d:=h.den h';exact⟨by left,by left⟩
theorem Sm.big(h:Sm k p)(hk:k<=9000):p.num.natAbs<2 ^ 9000/\(p.den:Int).natAbs<2 ^ 9000:=by
 have:=h.mono hk;exact⟨this.1,by simpa using this.2⟩
end
def dg(d:D):Bool:=dt .int d&&!dt .bool d
def dw(m:aG):Prop:=∀d,m [d]=ok (.bl (dg d))
noncomputable def fU:aj:=[.ret (.and [(.pY (.v 0) .int),(.not (.pY (.v 0) .bool))])]
theorem sU(Φ:ba):dw (mk Φ 1 1 fU):=by
 intro d;simp[mk_eq,fU,dg]
theorem l_(a:Int){b:Int}(h:b≠0):(a.fmod b).natAbs<b.natAbs:=by
 rcases Int.lt_or_gt_of_ne h with hb|hb
 ·have e:=Int.neg_fmod_neg a b;have h1:=YT (-a) (show 0 < -b by left);have h2:=Zj (-a) (show 0 < -b by left);left
 ·have h1:=YT a hb;have h2:=Zj a hb;left
theorem z7(a b:Int):Int.gcd b (a.fmod b)=Int.gcd a b:=by
 rw[Int.fmod_def,Int.gcd_sub_mul_left_right,Int.gcd_comm]
def bw(m:aG):Prop:=∀a b:Int,m [.int a,.int b]=ok (.int (Int.gcd a b))
noncomputable def xV:CS:=.EX (.cmp .ne (.v 1) (.int 0)) [.asg (.nm 2) (.bin .mod (.v 0) (.v 1)),.asg (.nm 0) (.v 1),.asg (.nm 1) (.v 2)]
def cE:aj:=[xV,.ret (.bf .abs [(.v 0)])]
theorem Dt(Φ:ba):∀(n:Nat) (a b:Int) (r:aM),b.natAbs<=n->∃(g:Int) (r':aM),nU Φ xV [some (.int a),some (.int b),r]=ok (.nx,[some (.int g),some (.int 0),r'])/\g.natAbs=Int.gcd a b:=by
 intro n;induction n with
 |zero =>
  intro a b r h;have hb:b=0:=by left
  subst hb;refine⟨a,r,?_,by simp⟩;rw[xV,ng];exact fL (by simp)
 |succ n ih =>
  intro a b r h;by_cases hb:b=0
  ·subst hb;refine⟨a,r,?_,by simp⟩;rw[xV,ng];exact fL (by simp)
  ·have b9:=l_ a hb;obtain⟨g,r',e,hg⟩:=ih b (a.fmod b) (some (.int (a.fmod b))) (by left);refine⟨g,r',?_,by rw[hg,z7]⟩;rw[xV,ng]at e ⊢;rw[<- e];exact lz (by simp[hb])
theorem jI(Φ:ba):bw (mk Φ 2 3 cE):=by
 intro a b;obtain⟨g,r',e,hg⟩:=Dt Φ b.natAbs a b none (Xp _);have e1:(g.natAbs:Int)=(Int.gcd a b:Int):=by left
 simp[mk_eq,cE,e,e1]
def jv(m:aG):Prop:=∀t b:Int,b≠0->b.natAbs<2 ^ 9000->m [.int t,.int b]=ok (qD (Rat.divInt t b))
def fj(m:aG):Prop:=jv m/\∀t:Int,m [.int t,.int 0]=some (.error 0)
noncomputable def b_:aj:=[.ifs (.cmp .eq (.v 1) (.int 0)) [.rs 0] [],.asg (.nm 2) (.call 1 [(.v 0),(.v 1)]),.ifs (.cmp .lt (.v 1) (.int 0)) [.asg (.nm 2) (.neg (.v 2))] [],.ret (.tup [(.bin .fdiv (.v 0) (.v 2)),(.bin .fdiv (.v 1) (.v 2))])]
theorem kS{t b:Int}(hb:b≠0)(h:b.natAbs<2 ^ 9000)(x:Int):cv .fdiv (.int x) (.int (eN t b))=ok (.int (x.fdiv (eN t b))) :=
 pR (jl (iJ hb) (XJ (C6 hb) h))
theorem mT(Φ:ba)(h1:bw (Φ 1)):fj (mk Φ 2 3 b_):=by
 refine⟨λt b hb h=>?_,λt=>by simp[mk_eq,b_]⟩;obtain⟨e1,e2⟩:=pf (t:=t) hb;unfold bw at h1;have d1:=kS (t:=t) hb h t;have d2:=kS (t:=t) hb h b;rw[qD,<- e1,<- e2];by_cases hn:b<0
 ·have ed:-(Int.gcd t b:Int)=eN t b:=by simp[eN,hn]
  simp[mk_eq,b_,hb,h1,hn,ed,d1,d2]
 ·have ed:(Int.gcd t b:Int)=eN t b:=by simp[eN,hn]
  simp[mk_eq,b_,hb,h1,hn,ed,d1,d2]
noncomputable def j_:D->Bool
 |.tup [.int a,.int b]=>decide (1<=b)&&decide (Int.gcd a b=1)
 |_=>false
theorem vn(q:Rat):j_ (qD q)=true:=by
 have h1:=Kz q;have h2:Int.gcd q.num q.den=1:=by
  have:=q.reduced;simpa [Int.gcd]using this
 simp[qD,j_,h1,h2]
def fi(m:aG):Prop:=∀d,m [d]=ok (.bl (j_ d))
noncomputable def bF:aj:=[.ifs (.or [(.not (.pY (.v 0) .tuple)),(.cmp .ne (.bf .len [(.v 0)]) (.int 2))]) [.ret (.bl false)] [],.ifs (.or [(.not (.call 0 [(.ix (.v 0) (.int 0))])),(.not (.call 0 [(.ix (.v 0) (.int 1))]))]) [.ret (.bl false)] [],.ret (.and [(.cmp .ge (.ix (.v 0) (.int 1)) (.int 1)),(.cmp .eq (.call 1 [(.ix (.v 0) (.int 0)),(.ix (.v 0) (.int 1))]) (.int 1))])]
theorem jX(g:Fl->Fl)(d:D):dg (aW g d)=dg d:=by simp[dg]
theorem lu{d:D}(h:dg d=true):∃i,d=.int i:=by
 cases d<;>simp[dg,dt]at h ⊢
theorem nQ{x y:D}(h:dg x=false\/dg y=false):j_ (.tup [x,y])=false:=by
 cases x<;>cases y<;>simp[dg,dt]at h<;>rfl
theorem xf(h:ds.length≠2):j_ (.tup ds)=false:=by
 unfold j_;split
 ·rename_i e;cases e;simp at h
 ·rfl
theorem mS(Φ:ba)(h0:dw (Φ 0))(h1:bw (Φ 1)):fi (mk Φ 1 1 bF):=by
 intro d;unfold dw at h0;unfold bw at h1;cases d with
 |tup ds =>
  by_cases hl:ds.length=2
  ·match ds,hl with
   |[x,y],_ =>
    by_cases hx:dg x=true
    ·by_cases hy:dg y=true
     ·obtain⟨a,rfl⟩:=lu hx;obtain⟨b,rfl⟩:=lu hy;simp[mk_eq,bF,h0,h1,hx,hy,dt,j_];by_cases hg:a.gcd b=1
      ·simp[hg]
      ·simp[hg];left
     ·simp[mk_eq,bF,h0,hx,hy,dt,jX,nQ (.inr (by simpa using hy))]
    ·simp[mk_eq,bF,h0,hx,dt,jX,nQ (.inl (by simpa using hx))]
  ·have mZ:¬ (ds.length:Int)=2:=by left
   simp[mk_eq,bF,dt,mZ,xf hl]
 |_=>simp[mk_eq,bF,dt,j_]
def pV(m:aG):Prop:=∀p q,Sm 4000 p->Sm 4000 q->m [qD p,qD q]=ok (qD (p - q))
def k_(m:aG):Prop:=∀p q,Sm 4000 p->Sm 4000 q->m [qD p,qD q]=ok (qD (p*q))
noncomputable def pQ(f:Nat):aj:=[.ret (.call f [(.bin .sub (.bin .mul (.ix (.v 0) (.int 0)) (.ix (.v 1) (.int 1))) (.bin .mul (.ix (.v 1) (.int 0)) (.ix (.v 0) (.int 1)))),(.bin .mul (.ix (.v 0) (.int 1)) (.ix (.v 1) (.int 1)))])]
noncomputable def kX(f:Nat):aj:=[.ret (.call f [(.bin .mul (.ix (.v 0) (.int 0)) (.ix (.v 1) (.int 0))),(.bin .mul (.ix (.v 0) (.int 1)) (.ix (.v 1) (.int 1)))])]
section
variable (Φ:ba){f:Nat}(h2:jv (Φ f))
theorem ME{p q:Rat}(hp:Sm 4000 p)(hq:Sm 4000 q):(p.den:Int)*q.den≠0/\((p.den:Int)*q.den).natAbs<2 ^ 9000 :=
 ⟨Y8 (i8 p) (i8 q),Xu (hp.den hq) (Xy (by decide) (by decide))⟩
theorem Gr{p q:Rat}(hp:Sm 4000 p)(hq:Sm 4000 q):cv .mul (.int p.num) (.int q.den)=ok (.int (p.num*q.den))/\cv .mul (.int p.num) (.int q.num)=ok (.int (p.num*q.num))/\cv .mul (.int p.den) (.int q.den)=ok (.int (p.den*q.den))/\cv .mul (.int p.den) (.int q.num)=ok (.int (p.den*q.num)):=by
 obtain⟨a,b⟩:=hp.big (by decide);obtain⟨c,d⟩:=hq.big (by decide);exact⟨iw (mulOk_of a d),iw (mulOk_of a c),iw (mulOk_of b d),iw (mulOk_of b c)⟩
include h2
theorem FD:pV (mk Φ 2 2 (pQ f)):=by
 intro p q hp hq;obtain⟨a,b,c,d⟩:=Gr hp hq;obtain⟨a',b',c',d'⟩:=Gr hq hp;obtain⟨n,k⟩:=ME hp hq;have e:=h2 (p.num*q.den - q.num*p.den) _ n k;rw[<- D4]at e;simp[mk_eq,pQ,a,a',c,e]
theorem BC:k_ (mk Φ 2 2 (kX f)):=by
 intro p q hp hq;obtain⟨a,b,c,d⟩:=Gr hp hq;obtain⟨n,k⟩:=ME hp hq;have e:=h2 (p.num*q.num) _ n k;rw[<- D5]at e;simp[mk_eq,kX,b,c,e]
omit h2 in
end
theorem Ar{bind:D->O aZ}{test:aZ->O Bool}{el:aZ->O D}{g:D->D}(h:∀x∈xs,∃ρ,bind x=ok ρ/\test ρ=ok true/\el ρ=ok (g x)):gg bind test el xs=ok (xs.map g):=by
 have:=cS (bind:=bind) (test:=test) (el:=el) (e:=λd=>d) (g:=g) (xs:=xs) h
 rwa [List.map_id']at this
def t_(d:D):Prop:=match d with
 |.lst _ ds=>ds.length<=1000000
 |.tup ds=>ds.length<64
 |_=>True
noncomputable def dF(qs:aC):Nat:=qs.foldl (λb q=>Nat.lcm b q.den) 1
theorem zr(b:Nat)(q:Rat):(b:Int).fdiv (Int.gcd b q.den)*q.den=(Nat.lcm b q.den:Nat):=by
 have hg:0<Nat.gcd b q.den:=Nat.gcd_pos_of_pos_right _ q.den_pos;have e:Int.gcd (b:Int) (q.den:Int)=Nat.gcd b q.den:=by simp[Int.gcd]
 rw[e,Int.fdiv_eq_ediv_of_nonneg _ (by left)];have:((b:Int) / (Nat.gcd b q.den:Nat))=((b / Nat.gcd b q.den:Nat):Int):=(Int.natCast_ediv ..).symm;rw[this,Nat.lcm];have hd:Nat.gcd b q.den∣b:=Nat.gcd_dvd_left ..;rw[Nat.mul_comm b,Nat.mul_div_assoc _ hd,Nat.mul_comm];exact(Int.natCast_mul ..).symm
theorem lcm_pos{b:Nat}(hb:0<b)(q:Rat):0<Nat.lcm b q.den:=Nat.lcm_pos hb q.den_pos
theorem uU:∀(qs:aC) (b k j:Nat),0<b->b<2 ^ j->(∀q∈qs,Sm k q)->0<qs.foldl (λb q=>Nat.lcm b q.den) b/\qs.foldl (λb q=>Nat.lcm b q.den) b<2 ^ (j+k*qs.length)/\b∣qs.foldl (λb q=>Nat.lcm b q.den) b/\∀q∈qs,q.den∣qs.foldl (λb q=>Nat.lcm b q.den) b
 |[],b,k,j,h0,h1,_=>⟨h0,by simpa using h1,Nat.dvd_refl _,λq hq=>nomatch hq⟩
 |q::qs,b,k,j,h0,h1,hs=>by
  have hq:=hs q Xo;have h2:Nat.lcm b q.den<2 ^ (j+k):=XJ (Nat.lcm_le_mul h0 q.den_pos) (bW h1 hq.2);obtain⟨g1,g2,g3,g4⟩:=uU qs (Nat.lcm b q.den) k (j+k) (lcm_pos h0 q) h2 λp hp=>hs p (Xm _ hp);have e:j+k*(q::qs).length=j+k+k*qs.length:=by rw[List.length_cons,Nat.mul_succ];left
  refine⟨g1,by rw[e];exact g2,Nat.dvd_trans (Nat.dvd_lcm_left ..) g3,λp hp=>?_⟩;rcases List.mem_cons.mp hp with rfl|hp
  ·exact Nat.dvd_trans (Nat.dvd_lcm_right ..) g3
  ·exact g4 p hp
structure AW(k:Nat)(qs:aC):Prop where
 sm:∀q∈qs,Sm k q
 Ms:k*qs.length<=3000
 len:qs.length<=1000
variable {qs:aC}
theorem AW.lcm{k:Nat}(h:AW k qs):0<dF qs/\dF qs<2 ^ (1+k*qs.length)/\∀q∈qs,q.den∣dF qs:=by
 obtain⟨g1,g2,_,g4⟩:=uU qs 1 k 1 (by decide) (by decide) h.sm;exact⟨g1,g2,g4⟩
theorem zo{n j:Nat}(h:n<2 ^ j)(hj:j<=9000):n<2 ^ 9000:=Xu h (Xy (by decide) hj)
def gh(m:aG):Prop:=∀f qs k,AW k qs->m [.lst f (bQ qs)]=ok (.int (dF qs))
noncomputable def bM:aj:=[.asg (.nm 1) (.bin .mul (.bin .fdiv (.v 1) (.call 1 [(.v 1),(.ix (.v 2) (.int 1))])) (.ix (.v 2) (.int 1)))]
def b7:aj:=[.asg (.nm 1) (.int 1),.fr (.nm 2) (.seq (.v 0)) bM,.ret (.v 1)]
theorem vH(Φ:ba)(h1:bw (Φ 1))(x:aM):∀(qs:aC) (b k j:Nat) (z:aM),0<b->b<2 ^ j->j+k*qs.length<=8000->(∀q∈qs,Sm k q) ->
  ∃z',eu (λd ρ=>cg (.nm 2) d ρ) (λρ=>bT Φ bM ρ) (bQ qs) [x,some (.int b),z]=ok (.nx,[x,some (.int (qs.foldl (λb q=>Nat.lcm b q.den) b:Nat)),z'])
 |[],b,k,j,z,_,_,_,_=>⟨z,rfl⟩
 |q::qs,b,k,j,z,h0,hb,hj,hs=>by
  have hq:=hs q Xo;have h2:Nat.lcm b q.den<2 ^ (j+k):=XJ (Nat.lcm_le_mul h0 q.den_pos) (bW hb hq.2);have e:j+k*(q::qs).length=j+k+k*qs.length:=by rw[List.length_cons,Nat.mul_succ];left
  obtain⟨z',ih⟩:=vH Φ h1 x qs (Nat.lcm b q.den) k (j+k) (some (qD q)) (lcm_pos h0 q) h2 (by left) λp hp=>hs p (Xm _ hp);have hg:0<Nat.gcd b q.den:=Nat.gcd_pos_of_pos_right _ q.den_pos;have eg:Int.gcd (b:Int) (q.den:Int)=Nat.gcd b q.den:=by simp[Int.gcd]
  have Qx:Nat.gcd b q.den<=b:=YX h0 (Nat.gcd_dvd_left ..);have Tc:b<2 ^ 9000:=zo hb (by left);have d1:cv .fdiv (.int b) (.int (Nat.gcd b q.den:Nat))=ok (.int ((b:Int).fdiv (Nat.gcd b q.den:Nat))):=pR (jl (by left) (by simpa using Nat.lt_of_le_of_lt Qx Tc));have hm:((b:Int).fdiv (Nat.gcd b q.den:Nat)).natAbs<=b:=by
   rw[Int.fdiv_eq_ediv_of_nonneg _ (by left),<- Int.natCast_ediv];simp;exact Nat.div_le_self ..
  have d2:cv .mul (.int ((b:Int).fdiv (Nat.gcd b q.den:Nat))) (.int q.den)=ok (.int (Nat.lcm b q.den:Nat)):=by
   have:=zr b q;rw[eg]at this;rw[iw (mulOk_of (Nat.lt_of_le_of_lt hm Tc) (hq.big (by
    rw[e]at hj;have:k<=j+k+k*qs.length:=by left
    left)).2),this]
  unfold bw at h1;refine⟨z',fS (ρ1:=[x,some (.int b),some (qD q)]) (by simp) (ρ2:=[x,some (.int (Nat.lcm b q.den:Nat)),some (qD q)]) ?_ ih⟩;simp[bM,h1,d1,d2]
theorem ki(Φ:ba)(h1:bw (Φ 1)):gh (mk Φ 1 3 b7):=by
 intro f qs k hs;have hit:dJ Φ (.seq (.v 0)) [some (.lst f (bQ qs)),some (.int 1),none]=ok (bQ qs,if (bG (bD f)||false)then[some (.lst (a_ f) (bQ qs)),some (.int 1),none]else[some (.lst f (bQ qs)),some (.int 1),none]):=by
  rw[Lz (f:=bD f) (ds:=bQ qs) (by simp)];simp[show h_ (.v 0)=[0] from rfl]
 have hk:=hs.Ms;have hx:∀x:aM,∃z',eu (λd ρ=>cg (.nm 2) d ρ) (λρ=>bT Φ bM ρ) (bQ qs) [x,some (.int (1:Nat)),none]=ok (.nx,[x,some (.int (dF qs)),z']):=λx=>vH Φ h1 x qs 1 k 1 none (by decide) (by decide) (by left) hs.sm;cases hf:(bG (bD f)||false)with
 |true =>
  rw[hf]at hit;obtain⟨z',e⟩:=hx (some (.lst (a_ f) (bQ qs)));have:=iV (t:=.nm 2) (b:=bM) hit e;simp[mk_eq,b7,this]
 |false =>
  rw[hf]at hit;obtain⟨z',e⟩:=hx (some (.lst f (bQ qs)));have:=iV (t:=.nm 2) (b:=bM) hit e;simp[mk_eq,b7,this]
noncomputable def cQ(b:Nat)(q:Rat):Int:=q.num*(b:Int).fdiv q.den
theorem yI(q:Rat):(q.num:Rat)=q*(q.den:Rat):=by
 have h:(q.den:Rat)≠0:=by
  have:=q.den_pos;intro z;have:((q.den:Int):Rat)=0:=by rw[Rat.intCast_natCast];exact z
  rw[Rat.intCast_eq_zero_iff]at this;left
 have e:q=(q.num:Rat) / (q.den:Rat):=by
  conv=>lhs;rw[<- iC q,Rat.divInt_eq_div,Rat.intCast_natCast]
 grind
theorem qc{b:Nat}{q:Rat}(h:q.den∣b):((cQ b q:Int):Rat)=q*(b:Rat):=by
 obtain⟨c,rfl⟩:=h;have hd:(q.den:Int)≠0:=i8 q;unfold cQ;rw[Int.natCast_mul,Int.mul_fdiv_cancel_left _ hd,Rat.intCast_mul,yI,Rat.natCast_mul,Rat.intCast_natCast];grind
theorem lB{b:Nat}:∀{qs:aC},(∀q∈qs,q.den∣b)->(((qs.map (cQ b)).sum:Int):Rat)=qs.sum*(b:Rat)
 |[],_=>by simp
 |q::qs,h=>by
  rw[List.map_cons,List.sum_cons,List.sum_cons,Rat.intCast_add,qc (h q List.mem_cons_self),lB λp hp=>h p (List.mem_cons_of_mem _ hp)];grind
def ka(m:aG):Prop:=∀f qs k (b:Nat),AW k qs->b<2 ^ 8000->m [.lst f (bQ qs),.int b]=ok (.lst .ow (au (qs.map (cQ b))))
noncomputable def fb:aj:=[.ret (.comp 1 (.nm 0) [1] .seq [(.v 0)] [] (.bin .mul (.ix (.v 0) (.int 0)) (.bin .fdiv (.v 1) (.ix (.v 0) (.int 1)))))]
theorem Bv{k:Nat}(h:AW k qs){q:Rat}(hq:q∈qs):Sm 3000 q:=by
 refine(h.sm q hq).mono ?_;have h1:=h.Ms;have h2:0<qs.length:=List.length_pos_of_mem hq;have:k*1<=k*qs.length:=Nat.mul_le_mul_left _ h2;left
theorem qt(Φ:ba):ka (mk Φ 2 2 fb):=by
 intro f qs k b hs hb;have vc:bA Φ (.comp 1 (.nm 0) [1] .seq [(.v 0)] [] (.bin .mul (.ix (.v 0) (.int 0)) (.bin .fdiv (.v 1) (.ix (.v 0) (.int 1))))) [some (.lst f (bQ qs)),some (.int b)]=ok (.lst .ow (au (qs.map (cQ b)))):=by
  rw[dN (xs:=[.lst (bD f) (bQ qs)]) (items:=bQ qs) (ds:=qs.map λq=>.int (cQ b q)) (by simp) (by rw[d_];simp) (cS λq hq=>?_) (by have:=hs.len;simp;exact cT (by left))]
  ·have:(qs.map λq=>D.int (cQ b q))=au (qs.map (cQ b)):=by simp[au]
   rw[this,gG]
  ·refine⟨[some (qD q),some (.int b)],by simp[bE],by simp,?_⟩;have h3:=Bv hs hq;obtain⟨g1,g2⟩:=h3.big (by decide);have d1:cv .fdiv (.int b) (.int q.den)=ok (.int ((b:Int).fdiv q.den)):=pR (jl (i8 q) g2);have d2:cv .mul (.int q.num) (.int ((b:Int).fdiv q.den))=ok (.int (q.num*(b:Int).fdiv q.den)):=by
    refine iw (mulOk_of g1 ?_);rw[Int.fdiv_eq_ediv_of_nonneg _ (by left),<- Int.natCast_ediv];have:=Nat.div_le_self b q.den;have h9:=zo hb (by decide);rw[Int.natAbs_natCast];exact XJ this h9
   simp[d1,d2,cQ]
 simp[mk_eq,fb,vc]
theorem AW.Pm{k:Nat}(h:AW k qs):dF qs<2 ^ 8000:=Xu h.lcm.2.1 (Xy (by decide) (by have:=h.Ms;left))
theorem Bo{b:Nat}(h0:0<b)(h:∀q∈qs,q.den∣b):Rat.divInt (qs.map (cQ b)).sum b=qs.sum:=by
 have hb:((b:Nat):Rat)≠0:=by
  intro z;have:((b:Int):Rat)=0:=by rw[Rat.intCast_natCast];exact z
  rw[Rat.intCast_eq_zero_iff]at this;left
 rw[Rat.divInt_eq_div,lB h,Rat.intCast_natCast];grind
noncomputable def bS(n:Int):D->Bool
 |.int i=>decide (0<=i)&&decide (i<n)
 |_=>false
theorem j9(g:Fl->Fl)(n:Int)(d:D):bS n (aW g d)=bS n d:=by
 cases d<;>simp[bS]
theorem eX{n:Int}:∀{ds:aa},ds.all (bS n)=true->∃ns:ab,ds=au ns
 |[],_=>⟨[],rfl⟩
 |d::ds,h=>by
  simp only[List.all_cons,Bool.and_eq_true]at h;obtain⟨ns,rfl⟩:=eX h.2;cases d with
  |int i=>exact⟨i::ns,rfl⟩
  |_=>simp[bS]at h
def numsOf(ds:aa):ab:=(intsOf ds).getD []
theorem eV(ns:ab):numsOf (au ns)=ns:=by unfold numsOf au;rw[bx];rfl
def bZ(d:D)(n:Int):Bool:=match d with
 |.tup ds=>ds.all (bS n)&&decide ((pq (numsOf ds)).length=ds.length)
 |_=>false
def qR(d:D)(n:Int):Bool:=bZ d n&&(match d with
 |.tup ds=>decide (numsOf ds=sortI (numsOf ds))
 |_=>false)
def fW(m:aG):Prop:=∀d n,t_ d->m [d,.int n]=ok (.bl (bZ d n))
noncomputable def cF:aj:=[.ifs (.not (.pY (.v 0) .tuple)) [.ret (.bl false)] [],.ifs (.not (.bf .all1 [(.comp 1 (.nm 0) [1] .seq [(.v 0)] [] (.and [(.call 0 [(.v 0)]),(.cmp .ge (.v 0) (.int 0)),(.cmp .lt (.v 0) (.v 1))]))])) [.ret (.bl false)] [],.ret (.cmp .eq (.iF (.v 0)) (.bf .len [(.v 0)]))]
theorem oI(Φ:ba)(h0:dw (Φ 0)):fW (mk Φ 2 2 cF):=by
 intro d n hc;unfold dw at h0;cases d with
 |tup ds =>
  have hl:ds.length<64:=hc;have vc:bA Φ (.comp 1 (.nm 0) [1] .seq [(.v 0)] [] (.and [(.call 0 [(.v 0)]),(.cmp .ge (.v 0) (.int 0)),(.cmp .lt (.v 0) (.v 1))])) [some (.tup ds),some (.int n)]=ok (.lst .ow (jo (ds.map (bS n)))):=by
   rw[dN (xs:=[.tup (aB bD ds)]) (by simp) (Cq ..) (Ar (g:=λd=>.bl (bS n d)) λx _=>⟨[some x,some (.int n)],by simp[bE],by simp,?_⟩) (by simp;exact cT (by left))]
   ·simp[aV,Function.comp_def,j9,jo]
   ·cases x with
    |int i =>
     simp[h0,dg,dt,bS]
    |_=>simp[h0,dg,dt,bS]
  cases ha:ds.all (bS n)with
  |true =>
   obtain⟨ns,rfl⟩:=eX ha;have mZ:ns.length<4000:=by simp at hl;left
   have e:(List.all (List.map (bS n) (au ns)) id)=true:=by rw[List.all_map];exact ha
   simp[mk_eq,cF,dt,vc,e,HW mZ,bZ,ha,eV];simp[Int.natCast_inj]
  |false =>
   have e:(List.all (List.map (bS n) ds) id)=false:=by rw[List.all_map];exact ha
   simp only[mk_eq,cF,List.length_cons,List.length_nil];simp[dt,vc,e,bZ,ha]
 |_=>simp[mk_eq,cF,dt,bZ]
def se(m:aG):Prop:=∀d n,t_ d->m [d,.int n]=ok (.bl (qR d n))
noncomputable def fH:aj:=[.ret (.and [(.call 43 [(.v 0),(.v 1)]),(.cmp .eq (.bf .list1 [(.v 0)]) (.bf .fN [(.v 0)]))])]
theorem qJ(n:Nat)(f:Fl)(ns:ab):df (n+1) (.lst f (au ns))=true:=kM (fP n) ns
theorem xk(ns ms:ab):dG (au ns) (au ms)=decide (ns=ms):=gO (λx y=>kR x y) ns ms
theorem jf(g:Fl->Fl)(d:D)(n:Int):bZ (aW g d) n=bZ d n:=by
 cases d with
 |tup ds =>
  cases h:ds.all (bS n)with
  |true =>
   obtain⟨ns,rfl⟩:=eX h;simp
  |false =>
   have h2:(aB g ds).all (bS n)=false:=by
    rw[aV,List.all_map,show(bS n∘aW g)=bS n from funext λd=>j9 g n d];exact h
   simp[bZ,h,h2]
 |_=>simp[bZ]
theorem n6{g:Fl->Fl}{d:D}(h:t_ d):t_ (aW g d):=by
 cases d<;>simp_all [t_]
theorem yx(Φ:ba)(QR:fW (Φ 43)):se (mk Φ 2 2 fH):=by
 intro d n hc;have e1:=QR (aW a_ (aW bD d)) n (n6 (n6 hc));rw[jf,jf]at e1;cases d with
 |tup ds =>
  have hl:ds.length<64:=hc;simp only[zl]at e1;cases ha:bZ (.tup ds) n with
  |true =>
   have NQ:=ha;simp only[bZ,Bool.and_eq_true]at NQ;obtain⟨ns,rfl⟩:=eX NQ.1;have mZ:ns.length<64:=by simpa using hl
   have e2:fg .eq (.lst .ow (au ns)) (.lst .ow (au (sortI ns)))=ok (.bl (decide (ns=sortI ns))):=by
    rw[Iv (qJ 39 _ _) (qJ 39 _ _),vq,xk]
   rw[ha]at e1;simp at e1;simp[mk_eq,fH,e1,CQ mZ,e2,qR,ha,eV]
  |false =>
   rw[ha]at e1;simp[mk_eq,fH,e1,qR,ha]
 |_=>(simp at e1;simp[mk_eq,fH,e1,qR,bZ])
def AF(n:Nat)(l:ab):Prop:=l.Pairwise (· < ·)/\∀h∈l,0<=h/\h<(n:Int)
theorem pk:∀(l m:ab),(∀x∈l,x∉m)->l.Nodup->l.foldl (λ(m:ab) (k:Int)=>if m.any (· == k)then m else m++[k]) m=m++l
 |[],m,_,_=>by simp
 |x::l,m,h,hn=>by
  have hx:m.any (· == x)=false:=by
   rw[List.any_eq_false];intro y hy z;have:y=x:=by simpa using z
   exact h x Xo (this▸hy)
  rw[List.foldl_cons,hx,if_neg Bool.false_ne_true,pk l (m++[x])]
  ·simp
  ·intro y hy z;rcases List.mem_append.mp z with z|z
   ·exact h y (Xm _ hy) z
   ·have:y=x:=by simpa using z
    subst this;exact(List.nodup_cons.mp hn).1 hy
  ·exact(List.nodup_cons.mp hn).2
theorem AF.nodup{n:Nat}{l:ab}(h:AF n l):l.Nodup:=h.1.imp λz=>by left
theorem ym{l:ab}(h:l.Pairwise (· < ·)):sortI l=l:=by
 unfold sortI;apply List.mergeSort_of_pairwise;exact h.imp λz=>by simp;left
theorem AF.qR{n:Nat}{l:ab}(h:AF n l):qR (.tup (au l)) n=true:=by
 have h1:(au l).all (bS n)=true:=by
  unfold au;rw[List.all_map,List.all_eq_true];intro x hx;have:=h.2 x hx;simp[bS,this.1,this.2]
 have h2:pq l=l:=by
  have:=pk l [] (by simp) h.nodup;rw[List.nil_append]at this;exact this
 simp[DI.qR,bZ,h1,eV,h2,ym h.1]
noncomputable def vG(ns:ab)(k:Int):Int :=
 let c:=if k<ns.length then ns.getD k.toNat 0 else 0
 if (10:Int) ^ 18<=c then(c - 10 ^ 18).fmod (10 ^ 60)else
  let n:=(c*48271+k*69621+11).fmod 2147483629
  let n:=(n*n).fmod 2147483587
  n*2147483563+(n*n).fmod 2147483563
def AD(m:aG):Prop:=∀(ns:ab) (k:Int),0<=k->m [.lst .sc (au ns),.int k]=ok (.int (vG ns k))
noncomputable def dO:aj:=[.asg (.nm 2) (.int 0),.ifs (.cmp .lt (.v 1) (.bf .len [(.v 0)])) [.asg (.nm 2) (.ix (.v 0) (.v 1))] [],.ifs (.cmp .ge (.v 2) (.bin .pow (.int 10) (.int 18))) [.ret (.bin .mod (.bin .sub (.v 2) (.bin .pow (.int 10) (.int 18))) (.bin .pow (.int 10) (.int 60)))] [],.asg (.nm 3) (.bin .mod (.bin .add (.bin .add (.bin .mul (.v 2) (.int 48271)) (.bin .mul (.v 1) (.int 69621))) (.int 11)) (.int 2147483629)),.asg (.nm 3) (.bin .mod (.bin .mul (.v 3) (.v 3)) (.int 2147483587)),.ret (.bin .add (.bin .mul (.v 3) (.int 2147483563)) (.bin .mod (.bin .mul (.v 3) (.v 3)) (.int 2147483563)))]
theorem jh(a:Int){b:Int}(h:0<b):0<=a.fmod b/\a.fmod b<b:=⟨YT a h,Zj a h⟩
theorem xw(Φ:ba)(x:D)(k c:Int)(hx:dt .list x=true)(o:aM):m7 (bT Φ (dO.drop 2) [some x,some (.int k),some (.int c),o])=ok (.int (if (10:Int) ^ 18<=c then(c - 10 ^ 18).fmod (10 ^ 60)else
  let n:=(c*48271+k*69621+11).fmod 2147483629
  let n:=(n*n).fmod 2147483587
  n*2147483563+(n*n).fmod 2147483563)):=by
 have p1:cv .pow (.int 10) (.int 18)=ok (.int (10 ^ 18)):=EF (by decide);have p2:cv .pow (.int 10) (.int 60)=ok (.int (10 ^ 60)):=EF (by decide);by_cases h:(10:Int) ^ 18<=c
 ·have h':(1000000000000000000:Int)<=c:=h;simp[dO,p1,p2,h']
 ·have h':¬ (1000000000000000000:Int)<=c:=h;obtain⟨a1,a2⟩:=jh (c*48271+k*69621+11) (b:=2147483629) (by decide);generalize hn:(c*48271+k*69621+11).fmod 2147483629=n at *;obtain⟨a3,a4⟩:=jh (n*n) (b:=2147483587) (by decide);have m1:cv .mul (.int n) (.int n)=ok (.int (n*n)):=iw (oT _ (by left));generalize hm:(n*n).fmod 2147483587=m at *;have m2:cv .mul (.int m) (.int m)=ok (.int (m*m)):=iw (oT _ (by left));simp[dO,p1,h',hn,m1,hm,m2]
theorem FE(Φ:ba):AD (mk Φ 2 4 dO):=by
 intro ns k hk;have:=λc=>xw Φ (.lst .sc (au ns)) k c rfl none;by_cases h:k<ns.length
 ·have hg:vN (au ns) k=ok (.int (ns.getD k.toNat 0)):=by
   have hl:k.toNat<ns.length:=by left
   rw[at_of hk (d:=.int (ns.getD k.toNat 0)) (by rw[wO,List.getElem?_eq_getElem hl,Option.map_some,List.getD_eq_getElem?_getD,List.getElem?_eq_getElem hl];rfl)];simp
  have e:m7 (bT Φ dO ([some (D.lst Fl.sc (au ns)),some (D.int k)]++[none,none]))=m7 (bT Φ (dO.drop 2) [some (.lst .sc (au ns)),some (.int k),some (.int (ns.getD k.toNat 0)),none]):=by
   rw[dO,dq,DM];simp only[Eg,EA,qW,jg];simp only[List.cons_append,List.nil_append,vO,List.length_cons,List.length_nil,Nat.reduceAdd,Nat.reduceLT,gy,List.set_cons_succ,List.set_cons_zero];rw[dq,JI];simp[h,hg]
  rw[mk_eq (ar:=2) (ds:=[_,_]) rfl];refine(show _=_ from e).trans ?_;rw[this,vG,if_pos h]
 ·have e:m7 (bT Φ dO ([some (D.lst Fl.sc (au ns)),some (D.int k)]++[none,none]))=m7 (bT Φ (dO.drop 2) [some (.lst .sc (au ns)),some (.int k),some (.int 0),none]):=by
   rw[dO,dq,DM];simp only[Eg,EA,qW,jg];simp only[List.cons_append,List.nil_append,vO,List.length_cons,List.length_nil,Nat.reduceAdd,Nat.reduceLT,gy,List.set_cons_succ,List.set_cons_zero];rw[dq,JI];simp[h]
  rw[mk_eq (ar:=2) (ds:=[_,_]) rfl];refine(show _=_ from e).trans ?_;rw[this,vG,if_neg h]
noncomputable def iY:CS:=.EX (.cmp .gt (.v 3) (.int 0)) [.par 2 3 (.v 3) (.bin .mod (.v 2) (.v 3))]
def jr:aj:=[.asg (.nm 2) (.bf .abs [(.v 0)]),.asg (.nm 3) (.bf .abs [(.v 1)]),iY,.ifs (.cmp .lt (.v 1) (.int 0)) [.asg (.nm 2) (.bin .sub (.int 0) (.v 2))] [],.ret (.tup [(.bin .fdiv (.v 0) (.v 2)),(.bin .fdiv (.v 1) (.v 2))])]
theorem tu(Φ:ba)(x y:aM):∀(n:Nat) (a b:Nat),b<=n->nU Φ iY [x,y,some (.int a),some (.int b)]=ok (.nx,[x,y,some (.int (Nat.gcd a b)),some (.int 0)]):=by
 intro n;induction n with
 |zero =>
  intro a b h;have hb:b=0:=by left
  subst hb;rw[iY,ng];exact fL (by simp)
 |succ n ih =>
  intro a b h;by_cases hb:b=0
  ·subst hb;rw[iY,ng];exact fL (by simp)
  ·have b9:=Nat.mod_lt a (show 0<b by left);have e:=ih b (a % b) (by left);have eg:Nat.gcd b (a % b)=Nat.gcd a b:=by rw[Nat.gcd_comm a b,Nat.gcd_rec b a,Nat.gcd_comm]
   rw[eg]at e;rw[iY,ng]at e ⊢;rw[<- e];have m4:0<b:=by left
   have em:((a:Int)).fmod (b:Int)=((a % b:Nat):Int):=by
    rw[Int.fmod_eq_emod_of_nonneg _ (by left)];exact(Int.natCast_emod a b).symm
   have ep:nU Φ (.par 2 3 (.v 3) (.bin .mod (.v 2) (.v 3))) [x,y,some (.int a),some (.int b)]=ok (.nx,[x,y,some (.int b),some (.int ((a % b:Nat):Int))]):=by
    rw[JH];simp[hb,em]
   exact lz (by simp[m4,ep])
theorem BE(Φ:ba):jv (mk Φ 2 4 jr):=by
 intro t b hb h;obtain⟨e1,e2⟩:=pf (t:=t) hb;have d1:=kS (t:=t) hb h t;have d2:=kS (t:=t) hb h b;have hl:=tu Φ (some (.int t)) (some (.int b)) b.natAbs t.natAbs b.natAbs (Xp _);rw[qD,<- e1,<- e2];by_cases hn:b<0
 ·have ed:0 - (Nat.gcd t.natAbs b.natAbs:Int)=eN t b:=by simp[eN,hn,Int.gcd]
  have Wg:-(Nat.gcd t.natAbs b.natAbs:Int)=eN t b:=by simp[eN,hn,Int.gcd]
  simp[mk_eq,jr,hl,hn,Wg,d1,d2]
 ·have ed:(Nat.gcd t.natAbs b.natAbs:Int)=eN t b:=by simp[eN,hn,Int.gcd]
  simp[mk_eq,jr,hl,hn,ed,d1,d2]
noncomputable def EG(qs:aC)(h:Int):Rat:=qs.getD h.toNat 0
theorem vL{h:Int}(h0:0<=h)(h1:h<qs.length):qs[h.toNat]?=some (EG qs h)/\EG qs h∈qs:=by
 have hl:h.toNat<qs.length:=by left
 have e:qs[h.toNat]?=some (EG qs h):=by
  unfold EG;rw[List.getD_eq_getElem?_getD,List.getElem?_eq_getElem hl];rfl
 exact⟨e,Xw e⟩
theorem wq{q:Rat}(h:0<q):0<q.num:=by
 have:=(Rat.lt_iff 0 q).mp h;simpa using this
theorem AF.len{n:Nat}{l:ab}(h:AF n l):l.length<=n:=by
 have hn:(l.map Int.toNat).Nodup:=by
  unfold List.Nodup;rw[List.pairwise_map];refine h.1.imp_of_mem λha hb z e=>?_;have:=h.2 _ ha;have:=h.2 _ hb;left
 have hs:(l.map Int.toNat) ⊆ List.range n:=λx hx=>by
  obtain⟨y,hy,rfl⟩:=List.mem_map.mp hx;have:=h.2 y hy;rw[List.mem_range];left
 have:=hn.length_le_of_subset hs;simpa using this
theorem AF.eO{n:Nat}{l:ab}(h:AF n l)(hn:n<=12):t_ (.tup (au l)):=by
 have:=h.len;show(au l).length<64;simp;left
theorem Sm.zero(k:Nat)(h:1<=k):Sm k 0:=by
 have:Sm 1 (0:Rat):=by constructor<;>decide
 exact this.mono h
theorem Sm.sum{k:Nat}:∀{qs:aC},(∀q∈qs,Sm k q)->Sm (1+(k+1)*qs.length) qs.sum
 |[],_=>Sm.zero _ (by simp)
 |q::qs,h=>by
  have h1:=h q Xo;have h2:=Sm.sum (qs:=qs) λp hp=>h p (Xm _ hp);rw[List.sum_cons];refine(h1.add h2).mono ?_;rw[List.length_cons,Nat.mul_succ];left
noncomputable def OI(l:ab)(f:Int->Rat):Rat:=(l.map f).sum
@[simp]theorem Ke(f:Int->Rat):OI [] f=0:=rfl
noncomputable abbrev Row:=Rat×ab
abbrev aL:=List Row
def rD(r:Row):D:=.tup [qD r.1,.tup (au r.2)]
@[simp]theorem Gw(g:Fl->Fl)(r:Row):aW g (rD r)=rD r:=by unfold rD;simp
@[simp]theorem Hl(g:Fl->Bool)(r:Row):aY g (rD r)=false:=by unfold rD;simp
noncomputable def bX(rs:aL):aa:=rs.map rD
@[simp]theorem uz(rs:aL):(bX rs).length=rs.length:=YG ..
@[simp]theorem i_(g:Fl->Fl)(rs:aL):aB g (bX rs)=bX rs:=cD g (Gw g) rs
@[simp]theorem L7(g:Fl->Bool)(rs:aL):aS g (bX rs)=false:=de g (Hl g) rs
theorem K4(n:Nat)(r:Row):df (n+2) (rD r)=true:=by
 unfold rD;rw[oP,List.all_cons,List.all_cons,Ea n];have:df (n+1) (.tup (au r.2))=true:=by
  rw[oP];exact kM (λ_=>by cases n<;>rfl) r.2
 rw[this];rfl
theorem Ag(a b:ab):dG (au a) (au b)=decide (a=b):=gO (λx y=>by show(x==y)=_;rfl) a b
theorem Mw(r s:Row):jy (rD r) (rD s)=decide (r=s):=by
 unfold rD;show(jy (qD r.1) (qD s.1)&&(dG (au r.2) (au s.2)&&true))=_;rw[Ez,Ag,Bool.and_true];have:decide (r=s)=decide (r.1=s.1/\r.2=s.2):=by
  congr 1;exact propext ⟨λh=>by rw[h];exact⟨rfl,rfl⟩,λh=>Prod.ext h.1 h.2⟩
 rw[this,<- Bool.decide_and]
theorem CV(r s:aL):dG (bX r) (bX s)=decide (r=s):=gO Mw r s
def gQ(n:Nat)(rs:aL):D:=.tup [.int n,.lst .fz (bX rs)]
def RO(rs:aL):Prop:=∃W:Nat,0<W/\W<2 ^ 250/\∀r∈rs,r.1.den∣W
def Rw(n:Nat)(l:ab):Prop:=l.Nodup/\l.length<=n/\∀h∈l,0<=h/\h<(n:Int)
theorem AF.rw{n:Nat}{l:ab}(h:AF n l):Rw n l:=⟨h.nodup,h.len,h.2⟩
noncomputable def dH(rs:aL):aC:=rs.map (·.1)
structure Dp(P:ab->Prop)(k n:Nat)(rs:aL):Prop where
 n1:1<=n
 n2:n<=12
 fin:RO rs
 len:rs.length<=1000
 lot:∀r∈rs,P r.2
 pos:∀r∈rs,0<r.1
 sm:∀r∈rs,Sm k r.1
 one:(rs.map (·.1)).sum=1
 rise:ud (rs.map (·.2))
 sl:∃j,AW j (dH rs)
abbrev Dr(k n:Nat)(rs:aL):Prop:=Dp (AF n) k n rs
variable {rs:aL}
theorem Dp.imp{P Q:ab->Prop}{k n:Nat}(I:Dp P k n rs)(h:∀r∈rs,P r.2->Q r.2):Dp Q k n rs:=⟨I.n1,I.n2,I.fin,I.len,λr hr=>h r hr (I.lot r hr),I.pos,I.sm,I.one,I.rise,I.sl⟩
section
variable {P:ab->Prop}{k n:Nat}{rs:aL}(I:Dp P k n rs)
include I
omit I in
theorem qT{W:Nat}:∀(qs:aC) (b:Nat),b∣W->(∀q∈qs,q.den∣W)->qs.foldl (λb q=>Nat.lcm b q.den) b∣W
 |[],_,h,_=>h
 |q::qs,b,h,hq=>qT qs _ (Nat.lcm_dvd h (hq q Xo)) λp hp=>hq p (Xm _ hp)
theorem Dp.bot:0<dF (dH rs)/\dF (dH rs)<2 ^ 250/\∀q∈dH rs,q.den∣dF (dH rs):=by
 obtain⟨_,s⟩:=I.sl;obtain⟨a,b,c⟩:=s.lcm;obtain⟨W,w0,w1,w2⟩:=I.fin;have:dF (dH rs)∣W:=qT _ 1 (Nat.one_dvd _) λq hq=>by
  obtain⟨r,hr,rfl⟩:=List.mem_map.mp hq;exact w2 r hr
 exact⟨a,XJ (YX w0 this) w1,c⟩
omit I in
theorem fM:∀{l:aC} {q:Rat},(∀x∈l,0<x)->q∈l->0<=l.sum/\q<=l.sum
 |x::l,q,h,hq=>by
  have h0:0<=l.sum:=by
   cases l with
   |nil=>exact Rat.le_refl
   |cons y l=>exact(fM (q:=y) (λx hx=>h x (Xm _ hx)) Xo).1
  have h1:=h x Xo;rw[List.sum_cons];refine⟨by grind,?_⟩;rcases List.mem_cons.mp hq with rfl|hq
  ·grind
  ·have:=(fM (λx hx=>h x (Xm _ hx)) hq).2;grind
end
def mE(m:aG):Prop:=∀(r:Row) (n:Nat),n<=12->Rw n r.2->0<r.1->m [rD r,.int n]=ok (.bl true)
noncomputable def jt:aj:=[.ifs (.or [(.not (.pY (.v 0) .tuple)),(.cmp .ne (.bf .len [(.v 0)]) (.int 2))]) [.ret (.bl false)] [],.ifs (.not (.call 43 [(.ix (.v 0) (.int 1)),(.v 1)])) [.ret (.bl false)] [],.ret (.and [(.call 3 [(.ix (.v 0) (.int 0))]),(.cmp .gt (.ix (.ix (.v 0) (.int 0)) (.int 0)) (.int 0))])]
theorem Rw.G8{n:Nat}{l:ab}(h:Rw n l):bZ (.tup (au l)) n=true:=by
 have h1:(au l).all (bS n)=true:=by
  unfold au;rw[List.all_map,List.all_eq_true];intro x hx;have:=h.2.2 x hx;simp[bS,this.1,this.2]
 have h2:pq l=l:=by
  have:=pk l [] (by simp) h.1;rw[List.nil_append]at this;exact this
 simp[bZ,h1,eV,h2]
theorem Rw.eO{n:Nat}{l:ab}(h:Rw n l)(hn:n<=12):t_ (.tup (au l)):=by
 have:=h.2.1;show(au l).length<64;simp;left
theorem yw(Φ:ba)(h3:fi (Φ 3))(QR:fW (Φ 43)):mE (mk Φ 2 2 jt):=by
 intro r n hn hl hp;have e1:=QR (.tup (au r.2)) n (hl.eO hn);rw[hl.G8]at e1;have e2:=h3 (qD r.1);rw[vn]at e2;have Qj:=wq hp;have e3:rD r=.tup [qD r.1,.tup (au r.2)]:=rfl;have e4:qD r.1=.tup [.int r.1.num,.int r.1.den]:=rfl;simp[mk_eq,jt,e3,dt,e1,e2];simp[e4,Qj]
theorem BI(nM:Φ 1022=Jq){a b:ab}(h:HT.lexLt a b=true):Φ 1022 [.tup (au a),.tup (au b)]=ok (.bl false):=by
 rw[nM];show(match intsOf (au a)with|some ns=>(match intsOf (au b)with|some ms=>ok (D.bl (!HT.lexLt ns ms))|none=>none)|none=>none)=_;unfold au;rw[bx,bx];show ok (D.bl (!HT.lexLt a b))=_;rw[h];rfl
def kb(m:aG):Prop:=∀(rs:aL),1<=rs.length->ud (rs.map (·.2))->m [.lst .fz (bX rs)]=ok (.bl true)
noncomputable def Bp:aj:=[.ifs (.cL 1022 [(.ix (.v 1) (.int 1)),(.ix (.v 2) (.int 1))]) [.ret (.bl false)] []]
def fc:aj:=[.fr (.tp [1,2]) (.wx 1000 [(.v 0),(.cL 1020 [(.v 0),(.int 1)])]) Bp,.ret (.bl true)]
theorem uA(Φ:ba)(nM:Φ 1022=Jq)(c0:aM):∀(rs:aL) (r:Row) (c1 c2:aM),ud ((r::rs).map (·.2)) ->
  ∃Ry Rx,eu (λd ρ=>cg (.tp [1,2]) d ρ) (λρ=>bT Φ Bp ρ) (List.zipWith (λx y=>D.tup [x,y]) (bX (r::rs)) (bX rs)) [c0,c1,c2]=ok (.nx,[c0,Ry,Rx])
 |[],r,c1,c2,_=>⟨c1,c2,rfl⟩
 |s::rs,r,c1,c2,h=>by
  have h':=List.pairwise_cons.mp h;obtain⟨Ry,Rx,ih⟩:=uA Φ nM c0 rs s (some (rD r)) (some (rD s)) h'.2;have hl:=h'.1 s.2 (by simp);have e:=BI nM hl;refine⟨Ry,Rx,fS (ρ1:=[c0,some (rD r),some (rD s)]) (by simp) (ρ2:=[c0,some (rD r),some (rD s)]) ?_ ih⟩;have e1:∀r:Row,rD r=.tup [qD r.1,.tup (au r.2)]:=λ_=>rfl;simp[Bp,e1,e]
theorem qu(Φ:ba)(Ml:Φ 1000=A4)(Mj:Φ 1020=cutD true)(nM:Φ 1022=Jq):kb (mk Φ 1 3 fc):=by
 intro rs h1 hr;obtain⟨r,rs,rfl⟩:∃r sX,rs=r::sX:=by
  cases rs with
  |nil=>simp at h1
  |cons r rs=>exact⟨r,rs,rfl⟩
 obtain⟨c1,c2,e⟩:=uA Φ nM (some (.lst .fz (bX (r::rs)))) rs r none none hr;have e1:Φ 1020 [.lst .fz (bX (r::rs)),.int 1]=ok (.lst .ow (bX rs)):=by
  rw[Mj];show(if (0:Int)<=1/\(1:Int)<=((bX (r::rs)).length:Nat)then ok (D.lst .ow (aB bD (m8 true (1:Int).toNat (bX (r::rs)))))else none)=_;rw[if_pos ⟨by decide,by simp;left⟩];show ok (D.lst .ow (aB bD (bX rs)))=_;simp
 have e2:Φ 1000 [.lst .fz (bX (r::rs)),.lst .ow (bX rs)]=ok (.lst .ow (List.zipWith (λx y=>D.tup [x,y]) (bX (r::rs)) (bX rs))):=by rw[Ml];rfl
 have e3:aB a_ (List.zipWith (λx y=>D.tup [x,y]) (bX (r::rs)) (bX rs))=List.zipWith (λx y=>D.tup [x,y]) (bX (r::rs)) (bX rs):=by
  have:=eW a_ (bX (r::rs)) (bX rs);rw[i_,i_]at this;exact this
 have hit:dJ Φ (.wx 1000 [(.v 0),(.cL 1020 [(.v 0),(.int 1)])]) [some (.lst .fz (bX (r::rs))),none,none]=ok (List.zipWith (λx y=>D.tup [x,y]) (bX (r::rs)) (bX rs),[some (.lst .fz (bX (r::rs))),none,none]):=by
  show bd (bV Φ [(.v 0),(.cL 1020 [(.v 0),(.int 1)])] [some (.lst .fz (bX (r::rs))),none,none]) _=_;have:bV Φ [(.v 0),(.cL 1020 [(.v 0),(.int 1)])] [some (.lst .fz (bX (r::rs))),none,none]=ok [.lst .fz (bX (r::rs)),.lst .ow (bX rs)]:=by simp[e1]
  rw[this,cC,e2,cC];show ok (aB a_ (List.zipWith (λx y=>D.tup [x,y]) (bX (r::rs)) (bX rs)),if aS bG [D.lst .fz (bX (r::rs)),.lst .ow (bX rs)]then _ else _)=_;rw[e3];simp
 have hf:=iV (Φ:=Φ) (t:=.tp [1,2]) (b:=Bp) hit e;simp[mk_eq,fc,hf]
def lS(rs:aL):aa:=rs.map λr=>.tup (au r.2)
@[simp]theorem lQ(g:Fl->Fl)(rs:aL):aB g (lS rs)=lS rs:=cD g (λr=>by simp) rs
@[simp]theorem Hj(g:Fl->Bool)(rs:aL):aS g (lS rs)=false:=de g (λr=>by simp) rs
def uh(b:Nat)(rs:aL):aa:=rs.map λr=>.tup [.int (cQ b r.1),.tup (au r.2)]
@[simp]theorem zk(g:Fl->Fl)(b:Nat)(rs:aL):aB g (uh b rs)=uh b rs:=cD g (λr=>by simp) rs
@[simp]theorem L6(g:Fl->Bool)(b:Nat)(rs:aL):aS g (uh b rs)=false:=de g (λr=>by simp) rs
noncomputable def C1:CE:=.comp 2 (.tp [0,1]) [] .seq [(.v 0)] [] (.v 0)
noncomputable def CZ:CE:=.comp 2 (.tp [0,1]) [] .seq [(.v 0)] [] (.v 1)
theorem MK(Φ:ba)(h:rs.length<=1000)(r:aZ):bA Φ C1 (some (.lst .fz (bX rs))::r)=ok (.lst .ow (bQ (dH rs))):=by
 unfold C1;rw[dN (xs:=[.lst .fz (bX rs)]) (items:=bX rs) (ds:=rs.map λr=>qD r.1) (by simp) (by rw[d_];simp) (cS λr hr=>?_) (by simp;exact cT (by left))]
 ·simp[bQ,dH,aV]
 ·exact⟨[some (qD r.1),some (.tup (au r.2))],by simp[bE,rD],by simp,by simp⟩
theorem Ln(Φ:ba)(h:rs.length<=1000)(r:aZ):bA Φ CZ (some (.lst .fz (bX rs))::r)=ok (.lst .ow (lS rs)):=by
 unfold CZ;rw[dN (xs:=[.lst .fz (bX rs)]) (items:=bX rs) (ds:=rs.map λr=>.tup (au r.2)) (by simp) (by rw[d_];simp) (cS λr hr=>?_) (by simp;exact cT (by left))]
 ·exact X0 (λx=>ok (D.lst .ow x)) (lQ l6 rs)
 ·exact⟨[some (qD r.1),some (.tup (au r.2))],by simp[bE,rD],by simp,by simp⟩
def jT(m:aG):Prop:=∀(rs:aL) k,AW k (dH rs)->m [.lst .fz (bX rs)]=ok (.tup [.int (dF (dH rs)),.lst .ow (uh (dF (dH rs)) rs)])
def hV:aj:=[.asg (.nm 1) C1,.asg (.nm 2) CZ,.asg (.nm 3) (.call 9 [(.v 1)]),.ret (.tup [(.v 3),(.cL 1040 [(.call 10 [(.v 1),(.v 3)]),(.v 2)])])]
theorem wo(Φ:ba)(h9:gh (Φ 9))(Mm:ka (Φ 10))(Mi:Φ 1040=Ll):jT (mk Φ 1 4 hV):=by
 intro rs k hs;have hl:rs.length<=1000:=by have:=hs.len;simpa [dH]using this
 have e1:=MK Φ hl;have e2:=Ln Φ hl;have e3:=λf=>h9 f (dH rs) k hs;have e4:=λf=>Mm f (dH rs) k (dF (dH rs)) hs hs.Pm;generalize dF (dH rs)=b at *;have e5:Φ 1040 [.lst .ow (au ((dH rs).map (cQ b))),.lst .al (lS rs)]=ok (.lst .ow (uh b rs)):=by
  rw[Mi];show ok (D.lst .ow (aB bD (List.zipWith pairD (au ((dH rs).map (cQ b))) (lS rs))))=_;rw[eW,gG,lQ];unfold dH au lS uh;rw[List.map_map,List.map_map,List.zipWith_map,List.zipWith_self];rfl
 simp[mk_eq,hV,GO Φ C1 _ rfl,GO Φ CZ _ rfl,e1,e2,e3,e4,e5]
noncomputable def H9:CE:=.comp 2 (.tp [0,1]) [] .seq [(.ix (.v 1) (.int 1))] [] (.v 0)
def iA(m:aG):Prop:=∀(rs:aL) k,AW k (dH rs)->(dH rs).sum=1->m [.lst .fz (bX rs)]=ok (.bl true)
def dB:aj:=[.asg (.nm 1) (.call 14 [(.v 0)]),.ret (.cmp .eq (.bf .lD [H9]) (.ix (.v 1) (.int 0)))]
theorem ya{b:Nat}(h:∀q∈qs,q.den∣b)(h1:qs.sum=1):(qs.map (cQ b)).sum=(b:Int):=by
 have:=lB h;rw[h1,Rat.one_mul,<- Rat.intCast_natCast]at this;exact Rat.intCast_inj.mp this
theorem mR(Φ:ba)(QV:jT (Φ 14)):iA (mk Φ 1 2 dB):=by
 intro rs k hs h1;have hl:rs.length<=1000:=by have:=hs.len;simpa [dH]using this
 have e1:=QV rs k hs;have hb:=hs.lcm;have e2:=ya hb.2.2 h1;generalize dF (dH rs)=b at *;have e3:∀c0,bA Φ H9 [c0,some (.tup [.int b,.lst .ow (uh b rs)])]=ok (.lst .ow (au ((dH rs).map (cQ b)))):=λc0=>by
  unfold H9;rw[dN (xs:=[.lst .al (uh b rs)]) (items:=uh b rs) (ds:=rs.map λr=>.int (cQ b r.1)) (by simp) (by rw[d_];simp) (cS λr hr=>?_) (by simp;exact cT (by left))]
  ·simp[au,dH,aV]
  ·exact⟨[some (.int (cQ b r.1)),some (.tup (au r.2))],by simp[bE],by simp,by simp⟩
 have e4:rW .lD [.lst .ow (au ((dH rs).map (cQ b)))]=ok (.int b):=by
  show(match intsOf (au ((dH rs).map (cQ b)))with|some ns=>ok (D.int ns.sum)|none=>none)=_;unfold au;rw[bx];show ok (D.int ((dH rs).map (cQ b)).sum)=_;rw[e2]
 have e5:fg .eq (.int (b:Int)) (.int (b:Int))=ok (.bl true):=by
  show(if df 40 (.int (b:Int))&&df 40 (.int (b:Int))then ok (D.bl ((b:Int)==(b:Int)))else none)=_;simp[df]
 simp[mk_eq,dB,e1,e3,e4,e5]
noncomputable def kH:aj:=[.ifs (.not (.call 12 [(.v 3),(.v 1)])) [.ret (.bl false)] []]
def fV:aj:=[.ifs (.or [(.not (.pY (.v 0) .tuple)),(.cmp .ne (.bf .len [(.v 0)]) (.int 2))]) [.ret (.bl false)] [],.asg (.nm 1) (.ix (.v 0) (.int 0)),.asg (.nm 2) (.ix (.v 0) (.int 1)),.ifs (.or [(.not (.call 0 [(.v 1)])),(.cmp .lt (.v 1) (.int 1)),(.cmp .gt (.v 1) (.glo "MOST_HOUSES" 12))]) [.ret (.bl false)] [],.ifs (.not (.pY (.v 2) .list)) [.ret (.bl false)] [],.fr (.nm 3) (.seq (.v 2)) kH,.ret (.and [(.call 44 [(.v 2)]),(.call 15 [(.v 2)])])]
def M4(m:aG):Prop:=∀k n rs,Dr k n rs->m [gQ n rs]=ok (.bl true)
def EL(m:aG):Prop:=∀k n rs,Dp (Rw n) k n rs->m [gQ n rs]=ok (.bl true)
theorem mj(Φ:ba)(Jp:mE (Φ 12)){n:Nat}(hn:n<=12)(c0 c2:aM):∀(rs:aL) (c3:aM),(∀r∈rs,Rw n r.2/\0<r.1)->∃MQ,eu (λd ρ=>cg (.nm 3) d ρ) (λρ=>bT Φ kH ρ) (bX rs) [c0,some (.int n),c2,c3]=ok (.nx,[c0,some (.int n),c2,MQ])
 |[],c3,_=>⟨c3,rfl⟩
 |r::rs,c3,h=>by
  obtain⟨MQ,ih⟩:=mj Φ Jp hn c0 c2 rs (some (rD r)) λs hs=>h s (Xm _ hs);have h1:=h r Xo;have e:=Jp r n hn h1.1 h1.2;refine⟨MQ,fS (ρ1:=[c0,some (.int n),c2,some (rD r)]) (by simp) (ρ2:=[c0,some (.int n),c2,some (rD r)]) ?_ ih⟩;simp[kH,e]
theorem Dp.some{P:ab->Prop}{k n:Nat}(I:Dp P k n rs):1<=rs.length:=by
 cases rs with
 |nil=>have:=I.one;simp at this
 |cons r rs=>simp
theorem sV(Φ:ba)(h0:dw (Φ 0))(Jp:mE (Φ 12))(V3:iA (Φ 15))(VU:kb (Φ 44)):EL (mk Φ 1 4 fV):=by
 intro k n rs I;have n1:=I.n1;have n2:=I.n2;obtain⟨k',sk⟩:=I.sl;have e1:=V3 rs k' sk I.one;have e2:=VU rs I.some I.rise;have e3:Φ 0 [.int (n:Int)]=ok (.bl true):=by rw[h0];rfl
 obtain⟨c3,e4⟩:=mj Φ Jp n2 (some (gQ n rs)) (some (.lst .fz (bX rs))) rs none λr hr=>⟨I.lot r hr,I.pos r hr⟩
 have hit:dJ Φ (.seq (.v 2)) [some (gQ n rs),some (.int n),some (.lst .fz (bX rs)),none]=ok (bX rs,[some (gQ n rs),some (.int n),some (.lst .fz (bX rs)),none]):=by
  rw[Lz (f:=.fz) (ds:=bX rs) (by simp)];simp
 have hf:=iV (Φ:=Φ) (t:=.nm 3) (b:=kH) hit e4;have c1:fg .lt (.int (n:Int)) (.int 1)=ok (.bl false):=by
  show ok (D.bl (decide ((n:Int)<1)))=_;rw[decide_eq_false (by left)]
 have c2:fg .gt (.int (n:Int)) (.int 12)=ok (.bl false):=by
  show ok (D.bl (decide ((12:Int)<n)))=_;rw[decide_eq_false (by left)]
 have Uh:∀ds,dt .tuple (.tup ds)=true:=λ_=>rfl;have Ug:∀f ds,dt .list (.lst f ds)=true:=λ_ _=>rfl;unfold gQ at hf ⊢;simp[mk_eq,fV,Uh,Ug,e3,c1,c2,hf,e2,e1]
noncomputable def Ia:CE:=.comp 2 (.tp [0,1]) [0] .seq [(.ix (.v 0) (.int 1))] [] (.call 11 [(.v 1),(.ix (.v 2) (.int 0))])
def eA:aj:=[.ret (.and [(.call 45 [(.v 0)]),(.bf .all1 [Ia])])]
theorem oH(Φ:ba)(V4:se (Φ 11))(VT:EL (Φ 45)):M4 (mk Φ 1 1 eA):=by
 intro k n rs I;have e1:=VT k n rs (I.imp λ_ _ h=>h.rw);have e2:bA Φ Ia [some (gQ n rs)]=ok (.lst .ow (jo (rs.map λ_=>true))):=by
  unfold Ia;rw[dN (xs:=[.lst .fz (bX rs)]) (items:=bX rs) (ds:=rs.map λ_=>.bl true) (by simp[gQ]) (by rw[d_];simp) (cS λr hr=>?_) (by simp;exact cT (by have:=I.len;left))]
  ·simp[jo,aV]
  ·have hl:=I.lot r hr;have e:=V4 (.tup (au r.2)) n (hl.eO I.n2);rw[hl.qR]at e;exact⟨[some (qD r.1),some (.tup (au r.2)),some (gQ n rs)],by simp[bE,rD,gQ],by simp,by simp[gQ,e]⟩
 have e3:rW .all1 [.lst .ow (jo (rs.map λ_=>true))]=ok (.bl true):=by
  show(match gT (jo (rs.map λ_=>true))with|some bs=>ok (D.bl (bs.all id))|none=>none)=_;unfold jo;rw[jR];show ok (D.bl ((rs.map λ_=>true).all id))=_;congr 2;simp
 have m1:aW a_ (gQ n rs)=gQ n rs:=by simp[gQ]
 have m2:aW bD (gQ n rs)=gQ n rs:=by simp[gQ]
 simp[mk_eq,eA,m1,m2,e1,e2,e3]
def mF(m:aG):Prop:=∀k n rs,Dr k n rs->m [gQ n rs]=ok .bN
noncomputable def cV:aj:=[.ifs (.not (.call 16 [(.v 0)])) [.rs 1] []]
theorem kj(Φ:ba)(V2:M4 (Φ 16)):mF (mk Φ 1 1 cV):=by
 intro k n rs I;have e1:=V2 k n rs I;have m1:aW a_ (gQ n rs)=gQ n rs:=by simp[gQ]
 have m2:aW bD (gQ n rs)=gQ n rs:=by simp[gQ]
 simp[mk_eq,cV,m1,m2,e1]
noncomputable def R5(ws xs:aC):aC:=(ws.zip xs).map λp=>p.1*p.2
structure Gs(j n:Nat)(ws xs:aC):Prop where
 l1:ws.length=n
 l2:xs.length=n
 s1:∀q∈ws,Sm j q
 s2:∀q∈xs,Sm j q
 jj:j<=100
theorem Gs.at{j n:Nat}{ws xs:aC}(G:Gs j n ws xs){h:Int}(h0:0<=h)(h1:h<n):EG (R5 ws xs) h=EG ws h*EG xs h:=by
 obtain⟨g1,_⟩:=vL (qs:=ws) h0 (by rw[G.l1];exact h1);obtain⟨g2,_⟩:=vL (qs:=xs) h0 (by rw[G.l2];exact h1);unfold EG at *;unfold R5;rw[List.getD_eq_getElem?_getD,List.getElem?_map,List.zip,List.getElem?_zipWith,g1,g2];rfl
theorem om{p i:Nat}{es:aD}{d d':D}(h1:bV Φ es ρ=ok xs)(h2:aS bG xs=false)(h3:ρ[i]?=some (some d))(h4:Φ p (d::xs)=ok d'):nU Φ (.mut p i es) ρ=ok (.nx,ρ.set i (some d')):=by
 show bd (bV Φ es ρ) (λxs=>oS Φ p i (jd es xs ρ))=_;rw[h1,cC];unfold jd;rw[h2,if_neg Bool.false_ne_true];unfold oS;rw[h3];show bd (Φ p (d::xs)) _=_;rw[h4];rfl
theorem IB(i:Int):cv .band (.int i) (.int 1)=ok (.int (i % 2)):=rfl
theorem nN(c:ab):∀(cs:ak) (ws:ab),cO cs (au ws) c=(cO cs ws c).map D.int
 |[],_=>by cases ‹ab› <;> rfl
 |_::_,[]=>rfl
 |c'::cs,w::ws=>by
  show(if c'=c then some (D.int w)else cO cs (au ws) c)=Option.map D.int (if c'=c then some w else cO cs ws c);by_cases e:c'=c
  ·rw[if_pos e,if_pos e];rfl
  ·rw[if_neg e,if_neg e];exact nN c cs ws
theorem nA(c:ab)(v:Int):∀(cs:ak) (ws:ab),setC cs (au ws) c (.int v)=au (setC cs ws c v)
 |[],_=>by cases ‹ab› <;> rfl
 |_::_,[]=>rfl
 |c'::cs,w::ws=>by
  show(if c'=c then D.int v else D.int w)::setC cs (au ws) c (.int v)=D.int (if c'=c then v else w)::au (setC cs ws c v);rw[nA c v cs ws];by_cases e:c'=c
  ·rw[if_pos e,if_pos e]
  ·rw[if_neg e,if_neg e]
theorem sE(cs:ak)(ws:ab)(c:ab)(v:Int):bK cs (au ws) c (.int v)=au (bK cs ws c v):=by
 unfold bK;by_cases e:c∈cs
 ·rw[if_pos e,if_pos e];exact nA c v cs ws
 ·rw[if_neg e,if_neg e];simp
def fD(cs:ak)(ws:ab)(c:ab):Int:=(cO cs ws c).getD 0
theorem l5{α:Type}{c:ab}:∀{cs:ak} (ws:List α),c∉cs->cO cs ws c=none
 |[],_,_=>by cases ‹List α› <;> rfl
 |_::_,[],_=>rfl
 |c'::cs,w::ws,h=>by
  show(if c'=c then some w else cO cs ws c)=none;rw[if_neg λe=>h (by rw[e];exact List.mem_cons_self)];exact l5 ws λz=>h (Xm _ z)
theorem o_{α:Type}{c:ab}:∀{cs:ak} {ws:List α},cs.length=ws.length->c∈cs->∃w,cO cs ws c=some w/\w∈ws
 |[],_,_,h=>nomatch h
 |_::_,[],hl,_=>by simp at hl
 |c'::cs,w::ws,hl,h=>by
  by_cases e:c'=c
  ·exact⟨w,X1 e,Xo⟩
  ·have h':c∈cs:=(List.mem_cons.mp h).resolve_left λz=>e z.symm;obtain⟨w',e1,e2⟩:=o_ (cs:=cs) (ws:=ws) (by simpa using hl) h';exact⟨w',(Y5 e).trans e1,Xm _ e2⟩
structure Tab(P:ab->Prop)(j:Nat)(cs:ak)(ws:ab):Prop where
 nd:cs.Nodup
 ln:cs.length=ws.length
 Ms:cs.length<=j
 lot:∀c∈cs,P c
 pos:∀w∈ws,1<=w
 sum:ws.sum<=7*j
 ne:1<=j->cs≠[]
variable {cs:ak}
theorem Tab.get{n:ab->Prop}{j:Nat}(T:Tab n j cs ws)(c:ab):0<=fD cs ws c:=by
 by_cases h:c∈cs
 ·obtain⟨w,e,m⟩:=o_ T.ln h;unfold fD;rw[e];have:=T.pos w m;show 0<=w;left
 ·unfold fD;rw[l5 ws h];exact Yr _
theorem qH{a b:aC}(h:a.Perm b):a.sum=b.sum:=by
 induction h with
 |nil=>rfl
 |cons x _ ih=>rw[List.sum_cons,List.sum_cons,ih]
 |swap x y l=>rw[List.sum_cons,List.sum_cons,List.sum_cons,List.sum_cons];grind
 |trans _ _ i1 i2=>rw[i1,i2]
structure WQ(Φ:ba):Prop where
 Eu:Φ 1030=vx
 To:Φ 1031=MD
 Et:Φ 1032=xo
 Es:Φ 1033=nX
 Er:Φ 1035=jP
 Tn:Φ 1100=Ig
theorem tV{t b:Int}(hb:b≠0):(Rat.divInt t b).den∣b.natAbs:=by
 obtain⟨t',b',e1,e2,h1,h2,h3,h4⟩:=lN (t:=t) hb;obtain⟨g1,g2⟩:=pf (t:=t) hb;rw[show b.fdiv (eN t b)=b' from h2]at g2;have hz:(Rat.divInt t b).den=b'.natAbs:=by left
 have:b.natAbs=(eN t b).natAbs*b'.natAbs:=by rw[<- Int.natAbs_mul,<- e2]
 rw[hz,this];exact Nat.dvd_mul_left ..
theorem kD(Φ:ba):∀(a b:aj) (ρ ρ':aZ),bT Φ a ρ=ok (.nx,ρ')->bT Φ (a++b) ρ=bT Φ b ρ'
 |[],b,ρ,ρ',h=>by cases h;rfl
 |s::a,b,ρ,ρ',h=>by
  rw[dq]at h;rw[List.cons_append,dq];cases e:nU Φ s ρ with
  |none=>rw[e]at h;cases h
  |some r=>cases r with
   |error c=>rw[e]at h;cases h
   |ok r =>
    obtain⟨fo,ρ1⟩:=r;rw[e]at h;cases fo with
    |nx=>exact kD Φ a b ρ1 ρ' h
    |_=>cases h
def Ib(f:Fl)(n:Nat)(rs:aL):D:=.tup [.int n,.lst f (bX rs)]
@[simp]theorem NB(g:Fl->Fl)(f:Fl)(n:Nat)(rs:aL):aW g (Ib f n rs)=Ib (g f) n rs:=by simp[Ib]
@[simp]theorem NP(p:Fl->Bool)(f:Fl)(n:Nat)(rs:aL):aY p (Ib f n rs)=p f:=by simp[Ib]
@[simp]theorem Pt(f:Fl)(n:Nat)(rs:aL):AJ (Ib f n rs) (.int 0)=ok (.int n):=by simp[Ib]
noncomputable def DP(n:Nat)(h:Nat):aC:=(List.range n).map λ(k:Nat)=>if k=h then 1 else 0
@[simp]theorem JS(n x:Nat):(DP n x).length=n:=by simp[DP]
def Fm(M B:Nat)(q:Rat):Prop:=0<M/\∃z:Int,z.natAbs<=B/\q*(M:Rat)=(z:Rat)
section
variable {M N B C:Nat}{p q:Rat}
theorem Gq{M:Nat}(h:0<M):(M:Rat)≠0:=λz=>by
 have:((M:Int):Rat)=0:=by rw[Rat.intCast_natCast];exact z
 rw[Rat.intCast_eq_zero_iff]at this;left
theorem Fm.divInt(h:Fm M B q):∃z:Int,z.natAbs<=B/\q=Rat.divInt z M:=by
 obtain⟨h0,z,hz,e⟩:=h;refine⟨z,hz,?_⟩;rw[Rat.divInt_eq_div,<- e,Rat.intCast_natCast];have:=Gq h0;grind
theorem Fm.mono(h:Fm M B q)(hl:B<=C):Fm M C q:=⟨h.1,h.2.choose,XO h.2.choose_spec.1 hl,h.2.choose_spec.2⟩
theorem Fm.add(h:Fm M B p)(h':Fm M C q):Fm M (B+C) (p+q):=by
 obtain⟨h0,z,hz,e⟩:=h;obtain⟨_,w,hw,e'⟩:=h';exact⟨h0,z+w,by left,by rw[Rat.intCast_add,<- e,<- e'];grind⟩
theorem Fm.zero(h:0<M):Fm M 0 0:=⟨h,0,by decide,by rw[Rat.zero_mul];rfl⟩
theorem Fm.sum{qs:aC}(h0:0<M)(h:∀q∈qs,Fm M B q):Fm M (qs.length*B) qs.sum:=by
 induction qs with
 |nil=>simpa using Fm.zero h0
 |cons q qs ih =>
  rw[List.sum_cons,List.length_cons,Nat.succ_mul,Nat.add_comm];exact(h q Xo).add (ih λp hp=>h p (Xm _ hp))
end
end DI
end
section
namespace DI
open PySem PySem.Spec PyProof.Rows L2
def Df(K:ai)(x:Str)(st:Stmt):Prop:=∃f fd,DG K x x st f fd/\PySem.W.nsIn K mainGlobals x=some (some (.ref f))
variable {K:ai}{f:Addr}{st:Stmt}
theorem dmk{x:Str}{oc:Value}{od an:Option Addr}{sl:Array (Option Value)}{kV dc pm cd ct:Value}(a:PySem.W.nsIn K mainGlobals x=some (some (.ref f)))(l:K.lookup f=some ⟨oc,od,.func (PySem.W.fnOf x x (eZ st) (cU st) (bz st) .none kV dc pm an cd ct),sl⟩)(c:PySem.W.codeIn K cd x=true)(k:PySem.W.keepIn K (.ref f)=true):Df K x st:=⟨f,_,Hv l c k,a⟩
noncomputable def Tp(N P:ao)(sc:Scope):Bool:=decide (sc.kind=.function)&&(!sc.isCoroutine&&(!sc.isGenerator&&(decide N.Nodup&&(decide (N.take P.length=P)&&(P.all (λx=>decide (sc.names.lookup x=some .local\/sc.names.lookup x=some .cell))&&sc.names.all λy=>decide (y.2≠.free))))))
variable {N:ao}
theorem Ew{P:ao}{sc:Scope}(h:Tp N P sc=true):hW N P sc:=by
 obtain⟨h1,h⟩:=aJ h;obtain⟨h2,h⟩:=aJ h;obtain⟨h3,h⟩:=aJ h;obtain⟨h4,h⟩:=aJ h;obtain⟨h5,h⟩:=aJ h;obtain⟨h6,h7⟩:=aJ h;exact⟨Xh h1,j5 h2,j5 h3,Xh h4,Xh h5,λx hx=>Xh (List.all_eq_true.mp h6 x hx),λy hy=>Xh (List.all_eq_true.mp h7 y hy)⟩
def N4(st:Stmt)(N ps:ao)(tb:List (Nat×Str))(bl:ao)(cs:List (Str×GK))(px:Px)(b:aj):Bool:=Tp N ps (bz st)&&jm ⟨bz st,N,λn=>List.lookup n tb,bl,cs,px⟩ b (cU st)
theorem u1{α:Type}{P:List α->Prop}(h:∀a,P [a])(us:List α)(e:us.length=1):P us:=by obtain⟨a,rfl⟩:=Lq e;exact h a
theorem u2{α:Type}{P:List α->Prop}(h:∀a b,P [a,b])(us:List α)(e:us.length=2):P us:=by obtain⟨a,b,rfl⟩:=Lp e;exact h a b
theorem u3{α:Type}{P:List α->Prop}(h:∀a b c,P [a,b,c])(us:List α)(e:us.length=3):P us:=by obtain⟨a,b,c,rfl⟩:=Lo e;exact h a b c
variable {P:az}{base:Heap}{mg:Str->Option Value}{w:World}
theorem Ent.u{k k':Nat}{y:Str}{m:aG}(h:Ent P w K mg base k y m)(hk:k<=k':=by decide):Ent P w K mg base k' y m:=h.up hk
theorem en{h:Heap}(X:K.In h)(G:h.Ns mainGlobals mg)⦃x:Str⦄⦃st:Stmt⦄⦃N ps bl:ao⦄⦃tb:List (Nat×Str)⦄⦃cs:List (Str×GK)⦄⦃px:Px⦄⦃b:aj⦄(k:Nat)(Φ:ba)(m:aG)(d:Df K x st)(hc:N4 st N ps tb bl cs px b=true)
  (hp:uf px Φ/\IH px Φ) (CG:cY (λy=>mg y=none) bl) (sv:cY (λp:Str×GK=>∃u,mg p.1=some u/\AX K p.2 u) cs)
  (hf:cY (λp:Nat×Str=>Ent P w K mg base k p.2 (Φ p.1)) tb) (hm:∀ds r,m ds=ok r->ds.length=ps.length/\oJ Φ N.length b ds=ok r) (hb:∀(kV doc pm:Value) (an:Option Addr) (iu ct:Value) (us:ag),us.length=ps.length->bindArgs (PySem.W.fnOf x x (eZ st) (cU st) (bz st) .none kV doc pm an iu ct) ⟨us,[]⟩=pure (ps.zip us):=by first|exact λ_ _ _ _ _ _=>u1 λ_=>rfl|exact λ_ _ _ _ _ _=>u2 λ_ _=>rfl|exact λ_ _ _ _ _ _=>u3 λ_ _ _=>rfl|exact λ_ _ _ _ _ _=>u4 λ_ _ _ _=>rfl|exact λ_ _ _ _ _ _=>u5 λ_ _ _ _ _=>rfl):Ent P w K mg base (k+1) x m:=by
 obtain⟨f,fd,Fu,a⟩:=d;obtain⟨h1,h2⟩:=aJ hc;exact ent Fu (Zm X G a) (Fu.binds hb) (Ew h1) h2 hp.1 hp.2 (cY.mem CG) (cY.two (P:=λy i=>∃u,mg y=some u/\AX K i u) sv) (cY.tab (P:=λg y=>Ent P w K mg base k y (Φ g)) hf) hm
noncomputable def xm(PT F:ba)(i:Nat)(m:aG):ba:=λn=>bif Nat.ble 1000 n then PT n else bif Nat.beq n i then m else F n
theorem SA{α:Type}{Q:Nat->Prop}(p:Nat){k:Nat}{a b c:α}(h:(if p=k then a else b)=c)(h1:a=c->Q k)(h2:b=c->Q p):Q p:=by
 by_cases e:p=k
 ·subst e;rw[if_pos rfl]at h;exact h1 h
 ·rw[if_neg e]at h;exact h2 h
variable {F:Addr->Prop}{X Z:Cx}{cs:aD}{Φ:ba}
theorem Ej{α:Type}{e:Expr}{p k:Nat}{a b c:α}(h:(if p=k then a else b)=c)(h1:a=c->PE Z e (tD Z F Φ (.cL k cs))/\L2.PT Z e (f_ Z F Φ (.cL k cs)))(h2:b=c->PE Z e (tD Z F Φ (.cL p cs))/\L2.PT Z e (f_ Z F Φ (.cL p cs))):PE Z e (tD Z F Φ (.cL p cs))/\L2.PT Z e (f_ Z F Φ (.cL p cs)):=SA (Q:=λp=>PE Z e (tD Z F Φ (.cL p cs))/\L2.PT Z e (f_ Z F Φ (.cL p cs))) p h h1 h2
theorem PN{α:Type}{i p k:Nat}{a b c:α}(h:(if p=k then a else b)=c)(h1:a=c->PS Z st (nv Z F Φ (.mut k i cs)))(h2:b=c->PS Z st (nv Z F Φ (.mut p i cs))):PS Z st (nv Z F Φ (.mut p i cs)):=SA (Q:=λp=>PS Z st (nv Z F Φ (.mut p i cs))) p h h1 h2
theorem jx:True:=trivial
theorem cY.nn{K:ai}{h:Heap}{mg:aU}(X:K.In h)(G:h.Ns mainGlobals mg):∀{l:ao},cY (λy=>PySem.W.nsIn K mainGlobals y=some none) l->cY (λy=>mg y=none) l
 |[],_=>trivial
 |_::_,z=>⟨PySem.W.mg_none_of X G z.1,cY.nn X G z.2⟩
theorem Wb{P:az}{w:World}{K:ai}{h base:Heap}{mg:aU}{bl:ao}{cs:List (Str×GK)}{px:Px}{PT:ba}(X:K.In h)(G:h.Ns mainGlobals mg)(hp:∀F i m,uf px (xm PT F i m)/\IH px (xm PT F i m))(CG:cY (λy=>mg y=none) bl)(sv:cY (λp:Str×GK=>∃u,mg p.1=some u/\AX K p.2 u) cs)
  ⦃x:Str⦄ ⦃st:Stmt⦄ (k:Nat) (Φ:ba) (d:Df K x st) (N:ao) (a:Nat) (tb:List (Nat×Str)) (b:aj)
  (hf:cY (λp:Nat×Str=>Ent P w K mg base k p.2 (Φ p.1)) tb) (hc:N4 st N (N.take a) tb bl cs px b=true:=by decide +kernel) (e:∃F i m,Φ=xm PT F i m:=by exact⟨_,_,_,rfl⟩) (ha:(N.take a).length=a:=by rfl) (hb:∀(kV doc pm:Value) (an:Option Addr) (iu ct:Value) (us:ag),us.length=a->bindArgs (PySem.W.fnOf x x (eZ st) (cU st) (bz st) .none kV doc pm an iu ct) ⟨us,[]⟩=pure ((N.take a).zip us):=by first|exact λ_ _ _ _ _ _=>u1 λ_=>rfl|exact λ_ _ _ _ _ _=>u2 λ_ _=>rfl|exact λ_ _ _ _ _ _=>u3 λ_ _ _=>rfl|exact λ_ _ _ _ _ _=>u4 λ_ _ _ _=>rfl|exact λ_ _ _ _ _ _=>u5 λ_ _ _ _ _=>rfl):Ent P w K mg base (k+1) x (mk Φ a N.length b):=by
 obtain⟨F,i,m,e⟩:=e;exact en X G k Φ _ d hc (e▸hp F i m) CG sv hf (λds r q=>⟨(tf ds r q).1.trans ha.symm,(tf ds r q).2⟩) (λkV doc pm an iu ct us hu=>hb kV doc pm an iu ct us (hu.trans ha))
theorem Wa{x:Str}{ps bl:ao}{tb:List (Nat×Str)}{cs:List (Str×GK)}{px:Px}{b:aj}{fd:FuncData}(k:Nat)(Φ:ba)(m:aG)(Fu:DG K x x st f fd)(hc:N4 st N ps tb bl cs px b=true)
  (hp:uf px Φ/\IH px Φ) (CG:cY (λy=>mg y=none) bl) (sv:cY (λp:Str×GK=>∃u,mg p.1=some u/\AX K p.2 u) cs)
  (hf:cY (λp:Nat×Str=>Ent P w K mg base k p.2 (Φ p.1)) tb) (hm:∀ds r,m ds=ok r->ds.length=ps.length/\oJ Φ N.length b ds=ok r):ie P w K mg base xP (k+1) f fd ps (Bu K ps.length m):=by
 obtain⟨h1,h2⟩:=aJ hc;exact rB Fu (Ew h1) h2 hp.1 hp.2 (cY.mem CG) (cY.two (P:=λy i=>∃u,mg y=some u/\AX K i u) sv) (λg y h=>(cY.tab (P:=λg y=>Ent P w K mg base k y (Φ g)) hf g y h).ex) hm
variable {Q:Value->Shared->Prop}{ov:Value}
section
variable {prog:az}{w:World}{A:av}{E:aq}{s:Shared}{d it:Addr}{es:Array DictEntry}{ep i:Nat}
theorem An(d:Addr)(hd:(d==sysModules)=false):MeetsIn prog w (Builtin.«dict.items» ⟨[.ref d],[]⟩) (λ_ R s=>(∃es ep,iM s.heap d es ep)/\R (.ok (.ret (.ref s.heap.objs.size))) { s with heap:=s.heap.push { cls:=.type "dict_items",data:=.fields #[.ref d] } }) :=
 .of_wp λA R s bH=>by
  obtain⟨⟨_,_,hm⟩,h⟩:=bH;unfold Builtin.«dict.items» Builtin.Dict.noArgs;refine Xf (Xf (wpAny_notOrdered_dict hm.typeIs (Xg ?_)));show wpAny _ _ (Builtin.Dict.showsAll d >>= _) _ _ s;unfold Builtin.Dict.showsAll;rw[if_neg (by rw[hd];exact Bool.false_ne_true)];exact Xf (Xg (Xf (XR (Xg ⟨_,rfl,h⟩))))
theorem Dh{v:Addr}(hv:s.heap.IsItemsView v d)(hm:iM s.heap d es ep)
  (hQ:Q (.ref s.heap.objs.size) { s with heap:=s.heap.push { cls:=.type "dict_itemiterator",data:=.fields #[.none,.bool false,.ref d,.int 0 0,.int es.size 0,.int ep 0,.none,.none] } }):wpAny (model prog w) A (pyIter (.ref v)) Q E s:=by
 obtain⟨ov,Vp,W_,VE⟩:=id hv;obtain⟨o,ho,hx,zT⟩:=hm;refine Zp hv.typeIs F.slot_dict_items_iter (XG F.slot_dict_items_iter hv.typeIs F.entry_dict_items_iter ?_ (F.args_dict_items_iter_1 _));unfold Builtin.«dict_items.__iter__»;refine Xf (Xg (Xf ?_));unfold Builtin.Dict_items.dictOf;refine Xf (X9 Vp VE (x:=.ref d) rfl (Xg (Xf ?_)));unfold Builtin.Dict_items.newIterator;refine Xf (Ye ho zT (Xf (Yp ho zT ?_)));simp only[show Builtin.Dict_items.ownsTuple "dict_itemiterator" = true by decide,if_true];refine XR (Xg ⟨_,rfl,"dict_itemiterator",_,⟨_,Xs _ rfl,rfl⟩,F.slot_dict_itemiterator_next.lookup,?_⟩) (by simp only[sizeOk,Builtin.Dict_items.ownedTupleFields,List.size_toArray,List.length_append,List.length_cons,List.length_nil,sizeLine_eq];left);simpa [rawInt,Builtin.Dict_items.ownedTupleFields]using hQ
theorem Dg{ok:Value}{Q:Option Value->Shared->Prop}(hit:IsItemIter s.heap it d i es.size ep ok ov)(hm:iM s.heap d es ep)(b9:i<es.size)
  (hQ:∀h',IsItemIterOut h' it d (i+1) es.size ep es[i].key es[i].val s.heap.objs.size->h'.get? s.heap.objs.size=some { cls:=.type "tuple",data:=.seq #[es[i].key,es[i].val] }->(∀b o,b≠it->s.heap.get? b=some o->h'.get? b=some o)->Q (some (.ref s.heap.objs.size)) { s with heap:=h' }):wpAny (model prog w) A (pyNext (.ref it)) Q E s:=by
 obtain⟨hp,g,dr,tk,os⟩:=s;obtain⟨od,zK,w5,zS⟩:=hm;have hT:Shared.TypeIs ⟨hp,g,dr,tk,os⟩ (.ref it) "dict_itemiterator":=⟨_,hit,rfl⟩
 unfold pyNext;refine Xf (Ym (XW (name:=Str.ofString "__next__") hT X7 (XG X7 hT F.entry_dict_itemiterator_next ?_ (F.args_dict_itemiterator_next_1 _))));refine Xf (Xg (Xf (Xf ?_)))
 first|refine Xf (X4 hT (Xg ?_))|refine Xf (Yg hT (Xg ?_))
 refine Xf (Zg hit rfl ?_);simp only[show Builtin.Dict_items.ownsTuple "dict_itemiterator" = true by decide,if_true];show wpAny _ _ (if (Value.ref d==Value.none)=true then _ else _) _ _ _;rw[if_neg (show ¬ ((Value.ref d==Value.none)=true) from Bool.false_ne_true)];refine Xf (Xg (Xf (Ye zK zS ?_)));rw[if_neg (by simp)];refine Xf (Xg (Xf (Yp zK zS ?_)));rw[if_neg (by simp)];refine Xg ?_;simp only[show ¬ ((i:Int)<0) from by left,if_false,Int.toNat_natCast,Array.getElem?_eq_getElem b9];refine Xf ?_
 first|refine Xf (X4 hT (Xg ?_))|refine Xf (Yg hT (Xg ?_))
 refine Xf (YU hT ?_);show wpAny _ _ (setField (.ref it) 3 (rawInt ((i:Int)+1)) >>= _) _ _ ⟨hp,g,dr,tk,os⟩;refine Xf (Ya hit (by simp) λh1 e1 s1=>?_);replace s1:Heap.SameBut it hp h1:=s1;replace e1:IsItemIter h1 it d (i+1) es.size ep ok ov:=by
  have e:((i+1:Nat):Int)=(i:Int)+1:=by left
  unfold IsItemIter;rw[e];simpa [rawInt]using e1
 have QJ:Shared.TypeIs ⟨h1,g,dr,tk,os⟩ (.ref it) "dict_itemiterator":=⟨_,e1,rfl⟩
 refine Xf (XI (Xf (YU QJ (Xf (YU QJ ?_)))));show wpAny _ _ (Builtin.Dict_items.pairFromOwner (.ref it) 6 es[i].key es[i].val) _ _ ⟨h1,g,dr,tk,os⟩;unfold Builtin.Dict_items.pairFromOwner;refine Xf (wpAny_newTuple ?_);have e2:IsItemIter (h1.push { cls:=.type "tuple",data:=.seq #[es[i].key,es[i].val] }) it d (i+1) es.size ep ok ov:=Xj _ e1;generalize hh:h1.push { cls:=.type "tuple",data:=.seq #[es[i].key,es[i].val] }=h2 at e2;have z1:h1.objs.size=hp.objs.size:=s1.1;have wY:it<hp.objs.size:=Xk hit;have t2:h2.get? hp.objs.size=some { cls:=.type "tuple",data:=.seq #[es[i].key,es[i].val] }:=by rw[<- hh,<- z1];exact Xs _ rfl
 have k2:∀b o,b≠it->hp.get? b=some o->h2.get? b=some o:=λb o hb e=>by rw[<- hh];exact Xj _ (s1.extBut b o hb e)
 show wpAny _ _ (Builtin.Dict_items.ownedTupleIsFree (.ref it) >>= _) _ _ ⟨h2,g,dr,tk,os⟩;rw[z1];clear hh e1 s1 QJ z1 h1;refine Xf ?_;unfold Builtin.Dict_items.ownedTupleIsFree;refine Xf (X9 e2 rfl (x:=.none) rfl (Xg ?_));simp only[if_true];refine Xf (X9 e2 rfl (x:=ok) rfl (Xf (X9 e2 rfl (x:=ov) rfl ?_)));refine Xf (Ya e2 (by simp) λh3 e3 s3=>?_);replace s3:Heap.SameBut it h2 h3:=s3;replace e3:IsItemIter h3 it d (i+1) es.size ep es[i].key ov:=e3;refine Xf (Ya e3 (by simp) λh4 e4 s4=>?_);replace s4:Heap.SameBut it h3 h4:=s4;replace e4:IsItemIter h4 it d (i+1) es.size ep es[i].key es[i].val:=e4;refine Xf (Ya e4 (by simp) λh5 e5 s5=>?_);replace s5:Heap.SameBut it h4 h5:=s5;replace e5:IsItemIterOut h5 it d (i+1) es.size ep es[i].key es[i].val hp.objs.size:=e5;refine Xf (Ya e5 (by simp) λh6 e6 s6=>?_);replace s6:Heap.SameBut it h5 h6:=s6;replace e6:IsItemIterOut h6 it d (i+1) es.size ep es[i].key es[i].val hp.objs.size:=e6;have up:∀b o,b≠it->h2.get? b=some o->h6.get? b=some o:=λb o hb e=>s6.extBut b o hb (s5.extBut b o hb (s4.extBut b o hb (s3.extBut b o hb e)));exact Xf (wpAny_letGo (Xg (Xg ⟨_,rfl,Xg (hQ h6 e6 (up _ _ (Xx wY) t2) λb o hb e=>up b o hb (k2 b o hb e))⟩)))
theorem Ik{ok:Value}{Q:Option Value->Shared->Prop}(hh:A.handled=none)(hit:IsItemIter s.heap it d i es.size ep ok ov)(hm:iM s.heap d es ep)(CB:es.size<=i)
  (hQ:∀h',Heap.ExtBut it s.heap h'->Q none { s with heap:=h' }):wpAny (model prog w) A (pyNext (.ref it)) Q E s:=by
 obtain⟨od,zK,w5,zS⟩:=hm;have hT:s.TypeIs (.ref it) "dict_itemiterator":=⟨_,hit,rfl⟩
 unfold pyNext;refine Xf (Ym (XW (name:=Str.ofString "__next__") hT X7 (XG X7 hT F.entry_dict_itemiterator_next ?_ (F.args_dict_itemiterator_next_1 _))));refine Xf (Xg (Xf (Xf ?_)))
 first|refine Xf (X4 hT (Xg ?_))|refine Xf (Yg hT (Xg ?_))
 refine Xf (Zg hit rfl ?_);simp only[show Builtin.Dict_items.ownsTuple "dict_itemiterator" = true by decide,if_true];show wpAny _ _ (if (Value.ref d==Value.none)=true then _ else _) _ _ s;rw[if_neg (show ¬ ((Value.ref d==Value.none)=true) from Bool.false_ne_true)];refine Xf (Xg (Xf (Ye zK zS ?_)));rw[if_neg (by simp)];refine Xf (Xg (Xf (Yp zK zS ?_)));rw[if_neg (by simp)];refine Xg ?_;simp only[show ¬ ((i:Int)<0) from by left,if_false,Int.toNat_natCast,Array.getElem?_eq_none CB];refine Xf ?_
 first|refine Xf (X4 hT (Xg ?_))|refine Xf (Yg hT (Xg ?_))
 show wpAny _ _ (setField (.ref it) 2 .none >>= _) _ _ s;refine Xf (wpAny_setField hit rfl (by simp) ?_);show wpAny _ _ (newExc (.type "StopIteration") [] >>= _) _ _ _;refine Xf ?_;simp only[newExc,newTuple];refine Xf (XR (Xf (m:=firstArgMember _ _) (wpAny_of_eq (a:=Value.none) (by first|rfl | (simp only[firstArgMember];rfl)) (XR ?_ (by size_fits)))) (by size_fits));simp only[raiseNew];refine Xf (wpAny_handled ?_);rw[show A.in1.handled=none from hh];refine Xf (Xg (wpAny_throw ?_));refine Xf (wpAny_isInstance (T:="StopIteration") (b:=true) ⟨_,Xs _ rfl,rfl⟩ isSubtype_stop ?_);exact Xg (hQ _ (((Ze ..).extBut.push _).push _))
theorem ph:entryFor table "dict_itemiterator.__iter__" = some Builtin.«dict_keyiterator.__iter__»:=entryFor_alias (id':="dict_keyiterator.__iter__") (by kernel_rfl) rfl (by decide +kernel) (by kernel_rfl)
theorem De{ok:Value}{n:Nat}(hit:IsItemIter s.heap it d i n ep ok ov)(hQ:Q (.ref it) s):wpAny (model prog w) A (pyIter (.ref it)) Q E s:=by
 have hT:s.TypeIs (.ref it) "dict_itemiterator":=⟨_,hit,rfl⟩
 refine Zp hT F.slot_dict_itemiterator_iter (XG F.slot_dict_itemiterator_iter hT ph ?_ (F.args_dict_itemiterator_iter_1 _));show wpAny _ _ (ret (.ref it)) _ _ s;exact Xg ⟨_,rfl,"dict_itemiterator",_,hT,F.slot_dict_itemiterator_next.lookup,hQ⟩
end
section
variable {X:Cx}{pins:ah}{σ:St}{H:Hp}{s:Shared}{d:Addr}{cs:ak}{as:aP}{xs:ae}{ep:Nat}
theorem FJ(I:Inv X pins σ H s)(h:H d=some (.ext (DO d cs as xs ep))):∃es:Array DictEntry,iM s.heap d es ep/\es.size=as.length/\es.toList.map (·.key)=as.map Value.ref/\Vals xs (es.toList.map (·.val))/\as.length=cs.length/\(d==sysModules)=false:=by
 obtain⟨⟨zs,o,es,e1,e2,e3,ho,hx,hd,he,hn,hl,hs⟩,_⟩:=(show b8 X.prog X.w H s.heap d (.ext (DO d cs as xs ep)) from I.cq d _ h)
 refine⟨es,⟨o,ho,hx,hd⟩,?_,?_,?_,?_,hs⟩
 ·rw[<- Array.length_toList,he,<- e2,List.length_map,List.length_map]
 ·rw[he,<- e2,List.map_map,List.map_map];rfl
 ·rw[he,List.map_map];exact e3
 ·rw[<- e1,<- e2,List.length_map,List.length_map]
def T5(d:Addr)(cs:ak)(as:aP)(xs:ae)(ep:Nat):It :=
 ⟨λi H=>H d=some (.ext (DO d cs as xs ep))/\i<as.length,λi H v H'=>∃T a x,as[i]?=some a/\xs[i]?=some x/\H T=none/\v=.ref T/\H'=upd H T (.tup [.ref a,x]),λi H=>H d=some (.ext (DO d cs as xs ep))/\as.length<=i⟩
theorem sL{elts:aw}{n1:Nat}{tp:Pos}(d it:Addr)(cs:ak)(as:aP)(xs:ae)(ep:Nat):Turn P w K (.Tuple elts n1 tp) (T5 d cs as xs ep) [it] it (λi h=>∃ok ov,IsItemIter h it d i as.length ep ok ov) where
 mem:=by simp
 obj:=λi h st b hb=>by
  have e:b=it:=by simpa using hb
  subst e;obtain⟨_,_,e⟩:=st;exact⟨_,e,λv z=>by cases z⟩
 keep:=λi h h' st k=>let ⟨a,b,e⟩:=st;⟨a,b,k it (by simp) _ e⟩
 item:=by
  intro X hP hw hK hc i pins s σ H E I hf st hg;subst hP hw hK;obtain⟨hd,hi⟩:=hg;obtain⟨ok,ov,st⟩:=st;obtain⟨es,hr,hz,nL,j7,_⟩:=FJ I hd;have dj:i<es.size:=by rw[hz];exact hi
  have wW:es[i].key=.ref as[i]:=by
   have:=X0 (λl=>l[i]?) nL;simp only[List.getElem?_map,Array.getElem?_toList]at this;rw[Array.getElem?_eq_getElem dj,List.getElem?_eq_getElem hi]at this;exact Xv this
  have W7:xs.length=es.size:=by rw[j7.length,List.length_map,Array.length_toList]
  have hx:xs[i]?=some xs[i]:=Xq (by left);obtain⟨u,hu,ru⟩:=j7.get hx;have PZ:es[i].val=u:=by
   rw[List.getElem?_map,Array.getElem?_toList,Array.getElem?_eq_getElem dj]at hu;exact Xv hu
  rw[<- hz]at st;refine Dg st hr dj λh1 o1 t1 k1=>⟨_,rfl,?_⟩
  refine wpAny_letOwnedTupleGo_items o1 λh2 e2 wm=>?_;have NZ:s.heap.objs.size≠it:=Xx (Xk st);have kk:∀c o,c∉[it]->s.heap.get? c=some o->h2.get? c=some o:=λc o hc z=>by
   simp only[List.mem_cons,List.not_mem_nil,or_false]at hc;exact wm.extBut c o hc (k1 c o hc z)
  have hT:h2.get? s.heap.objs.size=some { cls:=.type "tuple",data:=.seq #[.ref as[i],u] }:=by
   rw[wW,PZ]at t1;exact wm.extBut _ _ NZ t1
  have hn:H s.heap.objs.size=none:=I.cq.fresh (Xp _);refine⟨.ref s.heap.objs.size,upd H s.heap.objs.size (.tup [.ref as[i],xs[i]]),ox (s:=s) (h':=h2) (t':=s.toks) I hf kk (Xp _) (kE rfl ru hT),rfl,⟨_,as[i],xs[i],Xq hi,hx,hn,rfl,rfl⟩,⟨_,_,by rw[hz]at e2;exact e2⟩,λc hc=>?_⟩;rw[aQ]
  ·exact(hf c hc).1
  ·intro z;subst z;exact NZ (by simpa using hc)
 done:=by
  intro X hP hw hK hc i pins s σ H E I hf st hg;subst hP hw hK;obtain⟨hd,hi⟩:=hg;obtain⟨ok,ov,st⟩:=st;obtain⟨es,hr,hz,nL,_⟩:=FJ I hd;obtain⟨f0,f1,f2,f3,f4,f5⟩:=hf it (by simp);rw[<- hz]at st;exact Ik (I.ok.hd hc) st hr (by rw[hz];exact hi) λh' eb=>⟨rfl,I.turned (t':=s.toks) (λb o hb e=>eb b o hb e) f0 f1 f3 f4 f5⟩
 self:=λ_ _ _ _ _ ⟨_,_,st⟩ h=>De st h
end
def jn(_:Scope)(_:ao)(e:Expr):Option (aw):=match ni ("items" : Str) (.Expr e ⟨0,0,0,0⟩)with
 |some z=>if isNm z.1=true/\isNil z.2=true then some [z.1]else none
 |none=>none
variable {args:aw}
theorem rP{sc:Scope}{bl:ao}{e:Expr}(h:jn sc bl e=some args):∃x p p1 p2,e=.Call (.Attribute (.Name x p) ("items" : Str) p1) [] [] p2/\args=[.Name x p]/\(p1.endLine==p2.line)=true:=by
 unfold jn at h;cases h1:ni ("items" : Str) (.Expr e ⟨0,0,0,0⟩)with
 |none=>rw[h1]at h;exact nk h
 |some z =>
  obtain⟨o,as⟩:=z;rw[h1]at h;by_cases hn:isNm o=true/\isNil as=true
  ·have h:(if isNm o=true/\isNil as=true then some [o]else none)=some args:=h;rw[if_pos hn]at h;cases h;obtain⟨p1,p2,pos,e1,hl⟩:=p8 h1;cases e1;obtain⟨x,p,rfl⟩:=uZ hn.1;obtain rfl:=je hn.2;exact⟨_,_,_,_,rfl,rfl,hl⟩
  ·have h:(if isNm o=true/\isNil as=true then some [o]else none)=some args:=h;rw[if_neg hn]at h;exact nk h
def dk(c:ab)(n:Int):D:=.tup [cK c,.int n]
def eY(xs:aa):O D:=match one xs with
 |some d=>match gf d with
  |some z=>match intsOf z.2 with
   |some ns=>ok (.lst .ow (List.zipWith dk z.1 ns))
   |none=>none
  |none=>none
 |none=>none
variable {xs:aa}
theorem tW{r:D}(h:eY xs=ok r):∃f cs ns,xs=[.cu f cs (ns.map D.int)]/\r=.lst .ow (List.zipWith dk cs ns):=by
 unfold eY at h;cases h1:one xs with
 |none=>rw[h1]at h;exact nk h
 |some d =>
  rw[h1]at h;have h:(match gf d with|some z=>(match intsOf z.2 with|some ns=>ok (D.lst .ow (List.zipWith dk z.1 ns))|none=>none)|none=>none)=ok r:=h;cases h2:gf d with
  |none=>rw[h2]at h;exact nk h
  |some z =>
   rw[h2]at h;have h:(match intsOf z.2 with|some ns=>ok (D.lst .ow (List.zipWith dk z.1 ns))|none=>none)=ok r:=h;cases h3:intsOf z.2 with
   |none=>rw[h3]at h;exact nk h
   |some ns =>
    rw[h3]at h;cases h;obtain⟨f,e⟩:=mq h2;exact⟨f,z.1,ns,by rw[cx h1,e,c_ h3],rfl⟩
theorem j6(g:Fl->Fl):∀(cs:ak) (ns:ab),aB g (List.zipWith dk cs ns)=List.zipWith dk cs ns
 |[],_=>rfl
 |_::_,[]=>rfl
 |c::cs,n::ns=>by
  show aW g (dk c n)::aB g (List.zipWith dk cs ns)=_;rw[j6 g cs ns];have h:aB g [cK c]=[cK c]:=gF g [c];show D.tup (aW g (cK c)::[.int n])::_=_;rw[show aW g (cK c)=cK c from(List.cons.inj h).1];rfl
theorem xp{n:Nat}(hΦ:Φ n=eY){sc:Scope}{bl:ao}{k:Nat}(L:PX X sc bl k){e:Expr}(he:jn sc bl e=some args){tg:Expr}(ht:ff tg=true)(hs:lj X F Φ cs args)
  {pins:ah} {s:Shared} {σ:St} {H:Hp} {R:af} {τ:Addr->Option bg} {ρ:aZ} {d:D} {items:aa} (I:Inv X pins σ H s) (Si:SI X F R τ ρ σ H) (b6:bV Φ cs ρ=ok xs) (ed:Φ n xs=ok d) (ei:kh d=ok items) (Rr:It->Hp->Prop)
  (hR:∀J H2 vs,aF H H2->bP X.K (gP X F) R τ (cA cs) H H2 vs xs->EJ X.K J H2 vs xs items->Rr J H2) :
  wpAny (model X.prog X.w) X.A (eval e X.env) (λv s1=>wpAny (model X.prog X.w) X.A (pyIter v) (xE X pins σ tg Rr) X.xe s1) X.xe s:=by
 obtain⟨x,p,p1,p2,rfl,rfl,hl⟩:=rP he;cases tg<;>try (cases ht;done)
 cases cs with
 |nil=>exact hs.elim
 |cons c cs=>cases cs with
  |cons _ _=>exact hs.2.2.2.elim
  |nil =>
   rw[hΦ]at ed;obtain⟨f,ks,ns,rfl,rfl⟩:=tW ed;cases ei;obtain⟨x,ex,b6⟩:=aE b6;cases b6;refine wpAny_Call_method rfl rfl hl PySem.F.plainAttrs_dict PySem.F.slot_dict_items PySem.F.type_dict_items (cJ (hs.1 pins s σ H _ I (tD.intro Si ex (Q:=λv H1=>aF H H1/\bJ X.K (gP X F) R τ (h_ c) H H1 v (.cu f ks (ns.map D.int))) λv H1 e1 r1=>⟨e1,r1⟩)) λu s1 bH=>?_);obtain⟨v,H1,I1,rv,e1,r1⟩:=bH;obtain⟨τt,fr,q1⟩:=id r1;cases q1 with
   | @cu _ p _ as ys ep _ _ iU hk hr =>
    cases rv;have hd:=iU.dat;obtain⟨es,Cw,hz,nL,j7,hlen,Cv⟩:=FJ I1 hd;obtain⟨t1,t2⟩:=dict_cls I1 hd;refine⟨t1,t2,?_⟩;show wpAny _ _ (callWith p2 (.builtin "dict.items") [.ref p] [] []) _ _ s1;refine method_meetsIn PySem.F.slot_dict_items PySem.F.entry_dict_items rfl (PySem.evalArgs_none ⟨rfl,t1,PySem.F.args_dict_items_1 _,_,An p Cv,⟨es,ep,Cw⟩,?_⟩);have LK:iM (s1.heap.push { cls:=.type "dict_items",data:=.fields #[.ref p] }) p es ep:=let ⟨o,ho,r⟩:=Cw;⟨o,Xj _ ho,r⟩;refine Dh (d:=p) (es:=es) (ep:=ep) ⟨_,Xs _ rfl,rfl,rfl⟩ LK ?_;have q_:(s1.heap.push { cls:=.type "dict_items",data:=.fields #[.ref p] }).objs.size=s1.heap.objs.size+1:=Heap.size_push ..;have hb:s1.heap.objs.size<=s1.heap.objs.size+1:=Yq _;have hit:=Xs (s1.heap.push { cls:=.type "dict_items",data:=.fields #[.ref p] }) (o:={ cls:=.type "dict_itemiterator",data:=.fields #[.none,.bool false,.ref p,.int 0 0,.int es.size 0,.int ep 0,.none,.none] }) rfl;show xE X pins σ _ Rr (.ref (s1.heap.push { cls:=.type "dict_items",data:=.fields #[.ref p] }).objs.size) _;rw[q_]at hit ⊢;refine⟨s1.heap.objs.size+1,[s1.heap.objs.size+1],_,T5 p ks as ys ep,H1,rfl,I1.kept (t':=s1.toks) (λb o e=>Xj _ (Xj _ e)),sL p (s1.heap.objs.size+1) ks as ys ep,⟨_,_,by rw[<- hz];exact hit⟩,λb m4=>?_,hR _ H1 [.ref p] e1 (bP.cons e1 (aF.refl _) (r1.mono λj hj=>Xz _ hj) ⟨λ_=>none,λ_ _ h=>by simp at h,.nil⟩) ?_⟩
    ·have:b=s1.heap.objs.size+1:=by simpa using m4
     subst this;exact I1.xg hb (I1.cq.fresh hb)
    ·rw[j6];have SG:ys=ns.map V.int:=hr.ofInts;have Va:ys.length=as.length:=by rw[j7.length,List.length_map,Array.length_toList,hz]
     have SS:ns.length=as.length:=by rw[<- Va,SG,List.length_map]
     have wY:(List.zipWith dk ks ns).length=as.length:=by rw[List.length_zipWith];left
     have i5:∀H',oi X.K H1 [.ref p] [.cu f ks (ns.map D.int)] H'->H' p=some (.ext (DO p ks as ys ep)):=λH' st=>by
      obtain⟨R0,UM,hl⟩:=st.n0;cases UM with
      |cons h0 _=>cases h0 with
       |cu h1 _ _ =>
        cases f with
        |sc=>exact h1.elim
        |ow=>exact hl p _ h1.2 hd
        |fz=>exact hl p _ h1.2 hd
        |al=>exact hl p _ h1.2 hd
     refine⟨λi H' R' st rs hi=>⟨i5 H' st,by rw[wY]at hi;exact hi⟩,λi H' R' x kf st rs hi hy=>?_,λi H' R' st rs hi=>⟨i5 H' st,by rw[wY]at hi;exact hi⟩⟩;obtain⟨T,a,y,ha,NH,hT,rfl,rfl⟩:=hy;rw[wY]at hi;have AU:aF H' (upd H' T (.tup [.ref a,y])):=aF.upd hT;have AO:i<ks.length:=by left
     have NN:i<ns.length:=by left
     have ey:y=.int ns[i]:=by
      rw[SG,List.getElem?_map,List.getElem?_eq_getElem NN]at NH;exact(Xv NH).symm
     subst ey;refine⟨AU,dk ks[i] ns[i],?_,.tup (aR.of aT) (.cons (kJ (aR.same AU (st.tp _ _ (hk.tup i a _ ha (Xq AO))))) (.cons (.int _) .nil))⟩;rw[List.getElem?_zipWith,List.getElem?_eq_getElem AO,List.getElem?_eq_getElem NN]
section
variable {X:Cx}{pins:ah}{σ:St}{H:Hp}{s:Shared}{p b:Addr}{c:ab}{A:av}{E:aq}
theorem Di{v:V}{r:Value}{Q:Unit->Shared->Prop}(hu:A.units<cLine)(I:Inv X pins σ H s)(h:H p=some (.ext (DO p [] [] [] 0)))(hb:aR X.K H b (c.map V.int))(rv:RelV v r)
  (hQ:∀nW s',Inv X pins σ (upd H p (.ext (DO p [c] [b] [v] nW))) s'->Q () s'):wpAny (model X.prog X.w) A (dictSet p (.ref b) r) Q E s:=by
 obtain⟨zs,o,es,e1,e2,e3,ho,hx,hd,dd,_,hl,hs⟩:=pj I h ⟨rfl,λj a c h=>by simp at h⟩;cases zs with
 |cons _ _=>cases e1
 |nil =>
  refine wpAny_dictSet_heap (knd:=tupleKind (intKind X.prog X.w)) hu (o3 I hb) dd (λh' Ru u0=>?_) (XH _);obtain⟨q,AU,nW,hq,h2,h3,h4,_,h5⟩:=Ru;refine hQ nW _ (I.write (x:=p) (e:=p) (by rw[h];exact True.intro) (.inl rfl) (λb q hb z=>(u0.2 b hb).trans z) ⟨q,hq⟩ ⟨⟨storedH [] c b r,q,AU,rfl,rfl,.cons rv .nil,hq,h2,h3,h4,by simp,by rw[sizeLine_eq];simp,hs⟩,⟨q,hq⟩,?_⟩);rintro h1 QU ⟨DL,o',es'',f1,f2,f3,f4,f5⟩ kk;exact⟨DL,o',es'',f1,f2,f3,kk _ f4,f5⟩
theorem yX{k v:Expr}{tk tv:TE}{pos:Pos}(hu:X.A.units<cLine)(hk:PE X k tk)(hv:PE X v tv):PE X (.Dict [some k] [v] pos) (λσ H Q=>∀p,H p=none->tk σ (upd H p (.ext (DO p [] [] [] 0))) λkv H1=>tv σ H1 λvv H2=>∃b c,kv=.ref b/\H2 p=some (.ext (DO p [] [] [] 0))/\aR X.K H2 b (c.map V.int)/\∀ep,Q (.ref p) (upd H2 p (.ext (DO p [c] [b] [vv] ep)))):=λpins s σ H Q I h=>by
 have Hh:sysModules<s.heap.objs.size:=Yt (by decide) (show mainGlobals<s.heap.objs.size from(I.mod.glob.keeps I.bk).lt);have hg:(s.heap.push { cls:=.type "dict",data:=.dict #[] }).get? s.heap.objs.size=some { cls:=.type "dict",data:=.dict #[] }:=Xs _ rfl;have I0:=I.laid (a:=s.heap.objs.size) (h':=s.heap.push { cls:=.type "dict",data:=.dict #[] }) (o:=.ext (DO s.heap.objs.size [] [] [] 0)) (t':=s.toks) (λ_ _ q=>Xj _ q) (Xp _) (by
  refine⟨⟨[],_,#[],rfl,rfl,.nil,hg,⟨rfl,rfl,rfl⟩,rfl,rfl,Yu,XH _,beq_eq_false_iff_ne.mpr (YB (Xt Hh))⟩,⟨_,hg⟩,?_⟩;rintro h1 QU ⟨DL,o',es'',f1,f2,f3,f4,f5⟩ kk;exact⟨DL,o',es'',f1,f2,f3,kk _ f4,f5⟩)
 refine wpAny_Dict_any rfl rfl (by simp) (show 1<=15 by decide) (pairTrees_cons_walk (cJ (hk pins _ σ _ _ I0 (h _ (I.cq.fresh (Xp _)))) λu s1 ⟨kv,H1,I1,ru,q1⟩=>cJ (hv pins _ σ _ _ I1 q1) λu2 s2 ⟨vv,H2,I2,ON,q2⟩=>pairTrees_nil_walk ?_));obtain⟨b,c,rfl,hd,hb,q⟩:=q2;cases ru;show wpAny _ _ (storeAll _ [(_,_)]) _ _ _;unfold storeAll;rw[List.forIn_cons];refine Xf (Xf (Di hu I2 hd hb ON λnW s' I'=>Xg ?_));show wpAny _ _ (forIn [] _ _) _ _ _;rw[List.forIn_nil];exact Xg ⟨.ref s.heap.objs.size,_,I',rfl,q nW⟩
end
def mn(xs:aa):O D:=match two xs with
 |some z=>match keyOf z.1 with
  |some c=>if aY anyF z.2=false then ok (.cu .ow [c] [z.2])else none
  |none=>none
 |none=>none
theorem xn{r:D}(h:mn xs=ok r):∃c x,xs=[.tup (c.map D.int),x]/\aY anyF x=false/\r=.cu .ow [c] [x]:=by
 unfold mn at h;cases h1:two xs with
 |none=>rw[h1]at h;exact nk h
 |some z =>
  rw[h1]at h;have h:(match keyOf z.1 with|some c=>if aY anyF z.2=false then ok (D.cu .ow [c] [z.2])else none|none=>none)=ok r:=h;cases h2:keyOf z.1 with
  |none=>rw[h2]at h;exact nk h
  |some c =>
   rw[h2]at h;obtain⟨g1,g2⟩:=mY (show(if aY anyF z.2=false then ok (D.cu .ow [c] [z.2])else none)=ok r from h);exact⟨c,z.2,by rw[gx h1,gJ h2],g1,g2.symm⟩
noncomputable def pE(_:Scope)(_:ao)(e:Expr):Option (aw):=match e with
 |.Dict [some k] [v] _=>some [k,v]
 |_=>none
theorem Ak{n:Nat}(hΦ:Φ n=mn){sc:Scope}{bl:ao}{k:Nat}(L:PX X sc bl k){e:Expr}(he:pE sc bl e=some args)(hs:lj X F Φ cs args):PE X e (tD X F Φ (.cL n cs))/\PT X e (f_ X F Φ (.cL n cs)):=by
 have h1:∃a b pos,e=.Dict [some a] [b] pos/\args=[a,b]:=by
  unfold pE at he;split at he
  ·cases he;exact⟨_,_,_,rfl,rfl⟩
  ·cases he
 obtain⟨a,b,pos,rfl,rfl⟩:=h1;obtain⟨⟨c1,c2,rfl,pe1,pe2⟩,pa,s1,s2⟩:=lL hs;have this:PE X (.Dict [some a] [b] pos) (tD X F Φ (.cL n [c1,c2])):=by
  refine PE.imp (yX (XJ (Zq _ _) L.room.units) pe1 pe2) λσ H Q hq p hp=>?_;obtain⟨R,τ,ρ,d,Si,ev,hq⟩:=hq;obtain⟨xs,b6,ev⟩:=aE ev;rw[hΦ]at ev;obtain⟨c,x,rfl,hx,rfl⟩:=xn ev;obtain⟨y,ey,b6⟩:=aE b6;obtain⟨ys,rC,b6⟩:=aE b6;cases b6;obtain⟨w,ew,rC⟩:=aE rC;cases rC;have e0:aF H (upd H p (.ext (DO p [] [] [] 0))):=aF.upd hp;refine tD.intro (Si.go e0) ey λkv H1 e1 r1=>tD.intro ((Si.go e0).go e1) ew λvv H2 e2 r2=>?_;obtain⟨_,_,q1⟩:=r1;obtain⟨q,xs,rfl,hT,rs⟩:=q1.sD;cases rs.ofInts;have Qd:H2 p=some (.ext (DO p [] [] [] 0)):=e2 _ _ (e1 _ _ aT);refine⟨q,c,rfl,Qd,aR.same e2 hT,λep=>?_⟩;have sj:∀b o,H b=some o->b≠p:=λb o e z=>by rw[z,hp]at e;cases e
  have OK:∀b o,H2 b=some o->b≠p->upd H2 p (.ext (DO p [c] [q] [vv] ep)) b=some o:=λb o e hb=>by rw[aQ hb];exact e
  refine hq _ _ (λb o e=>OK b o (e2 _ _ (e1 _ _ (e0 _ _ e))) (sj b o e)) ?_;obtain⟨_,_,q2⟩:=r2;have tp:∀a ys,aR X.K H2 a ys->aR X.K (upd H2 p (.ext (DO p [c] [q] [vv] ep))) a ys:=λa ys h=>by
   rcases h with (h|⟨o,h⟩)|h
   ·exact .inl (.inl (OK _ _ h λz=>by rw[z,Qd]at h;cases h))
   ·exact .inl (.inr ⟨o,OK _ _ h λz=>by rw[z,Qd]at h;cases h⟩)
   ·exact .inr h
  refine⟨λa=>if a=p then some []else none,λa k ha=>?_,.cu (as:=[q]) (xs:=[vv]) (ep:=ep) ⟨aT,by simp⟩ ⟨rfl,λj a' c' h1 h2=>?_⟩ (.cons ?_ .nil)⟩
  ·by_cases z:a=p
   ·subst z;exact hp
   ·simp[z]at ha
  ·cases j with
   |zero=>cases h1;cases h2;exact tp _ _ (aR.same e2 hT)
   |succ j=>simp at h1
  ·exact(kK (N':=nd X.K R (iL (gP X F) τ (h_ (.cL n [c1,c2]))) (λa=>if a=p then some []else none) (upd H2 p (.ext (DO p [c] [q] [vv] ep)))) (k':=[0]) q2 hx).imp tp λ_ _ _ _ h=>h
 exact⟨this,cw this λ_=>rfl⟩
end DI
end
section
namespace DI
open PySem (Str)
structure M3(most:Nat)(qs:aC)(B:Nat):Prop where
 n1:1<=qs.length
 n2:qs.length<=most
 b1:1<=B
 b2:B<=9
 q0:∀q∈qs,0<=q
 q1:∀q∈qs,q<=1
 qd:∀q∈qs,q.den∣B
 su:∃s:Int,qs.sum=(s:Rat)
variable {B:Nat}{qs:aC}
theorem lM{q:Rat}(h:q<=1):q.num<=(q.den:Int):=by
 have h':(q.num:Rat)<=(q.den:Rat):=by
  rw[yI];have h2:(0:Rat)<=(q.den:Rat):=by exact_mod_cast XH _
  have:=X3 h h2
  rwa [Rat.one_mul]at this
 exact_mod_cast h'
theorem qL{q:Rat}(h:0<=q):0<=q.num:=Rat.num_nonneg.mpr h
def vR(m:aG):Prop:=∀q:Rat,0<=q->q<=1->m [qD q]=ok (.bl true)
noncomputable def kY:aj:=[.ret (.and [(.call 3 [(.v 0)]),(.cmp .ge (.ix (.v 0) (.int 0)) (.int 0)),(.cmp .le (.ix (.v 0) (.int 0)) (.ix (.v 0) (.int 1)))])]
theorem BD(Φ:ba)(h3:fi (Φ 3)):vR (mk Φ 1 1 kY):=by
 intro q h0 h1;have e1:=h3 (qD q);rw[vn]at e1;simp[mk_eq,kY,e1,qL h0,lM h1]
noncomputable def Ah:CE:=.comp 1 (.nm 0) [] .seq [(.v 0)] [] (.call 23 [(.v 0)])
def EK(m:aG):Prop:=∀f qs (n:Nat),1<=qs.length->qs.length<=n->n<=1000->(∀q∈qs,0<=q)->(∀q∈qs,q<=1)->m [.lst f (bQ qs),.int n]=ok (.bl true)
def pP:aj:=[.ifs (.or [(.not (.pY (.v 0) .list)),(.cmp .lt (.bf .len [(.v 0)]) (.int 1)),(.cmp .gt (.bf .len [(.v 0)]) (.v 1))]) [.ret (.bl false)] [],.ret (.bf .all1 [Ah])]
theorem Ko(Φ:ba)(VX:vR (Φ 23)):EK (mk Φ 2 2 pP):=by
 intro f qs n h1 h2 hn q0 q1;have e1:∀f',bA Φ Ah [some (.lst f' (bQ qs)),some (.int n)]=ok (.lst .ow (jo (qs.map λ_=>true))):=λf'=>by
  unfold Ah;rw[dN (xs:=[.lst (bD f') (bQ qs)]) (items:=bQ qs) (ds:=qs.map λ_=>.bl true) (by simp) (by rw[d_];simp) (cS λq hq=>⟨[some (qD q)],by simp[bE],by simp,by simp[VX q (q0 q hq) (q1 q hq)]⟩) (by simp;exact cT (by left))];simp[jo,aV]
 have e2:((qs.map λ_=>true).all id)=true:=by simp
 have c1:¬ (qs.length:Int)<1:=by left
 have c2:¬ (n:Int)<(qs.length:Int):=by left
 simp[mk_eq,pP,dt,e1,c1,c2]
theorem rz{α:Type}(f:ab->α)(k:ab):∀ks:ak,cO ks (ks.map f) k=if k∈ks then some (f k)else none
 |[]=>rfl
 |j::ks=>by
  show(if j=k then some (f j)else cO ks (ks.map f) k)=_;rw[rz f k ks];by_cases e:j=k
  ·subst e;simp
  ·rw[if_neg e];have:k∈j::ks ↔ k∈ks:=by rw[List.mem_cons];exact⟨λh=>h.resolve_left λz=>e z.symm,.inr⟩
   simp only[this]
structure DJ(Φ:ba):Prop where
 Eu:Φ 1030=vx
 Et:Φ 1032=xo
 Es:Φ 1033=nX
 Er:Φ 1035=jP
variable {cs ks ls:ak}{Φ:ba}
theorem Ie(P:DJ Φ)(hl:cs.length<1000)(ws:ab)(c:ab)(v:Int):Φ 1033 [.cu .ow cs (au ws),.int v,.tup (au c)]=ok (.cu .ow (cG cs c) (au (bK cs ws c v))):=by
 rw[P.Es];show(match intsOf (c.map D.int)with|some c=>if ck .ow=true/\aY anyF (.int v)=false/\cs.length<eO then ok (D.cu .ow (cG cs c) (bK cs (au ws) c (.int v)))else none|none=>none)=_;rw[bx];show(if ck .ow=true/\aY anyF (.int v)=false/\cs.length<eO then ok (D.cu .ow (cG cs c) (bK cs (au ws) c (.int v)))else none)=_;rw[if_pos ⟨rfl,rfl,by show _<1000000;left⟩,sE]
theorem MC(P:DJ Φ)(f:Fl){ws:ab}(hl:cs.length=ws.length){c:ab}(h:c∈cs):Φ 1032 [.cu f cs (au ws),.tup (au c)]=ok (.int (fD cs ws c)):=by
 obtain⟨w,e,_⟩:=o_ hl h;rw[P.Et];show(match intsOf (c.map D.int)with|some c=>(match cO cs (au ws) c with|some v=>if aY anyF v=false then ok v else none|none=>none)|none=>none)=_;rw[bx];show(match cO cs (au ws) c with|some v=>if aY anyF v=false then ok v else none|none=>none)=_;rw[nN,e];unfold fD;rw[e];rfl
theorem JT(P:DJ Φ)(f:Fl)(vs:aa)(h:ks.length<1000):Φ 1035 [.cu f ks vs]=ok (.lst .ow ((aX ks).map cK)):=by
 rw[P.Er];show(if ks.length<1000 then ok (D.lst .ow ((aX ks).map cK))else none)=_;rw[if_pos h]
noncomputable def dW(f:Fl)(ks:ak)(w:ab->Int):D:=.cu f ks (ks.map λk=>.int (w k))
theorem uQ(g:Fl->Fl)(f:Fl)(ks:ak)(w:ab->Int):aW g (dW f ks w)=dW (g f) ks w:=by
 show D.cu (g f) ks (aB g (ks.map λk=>.int (w k)))=_;rw[cD g (λk=>qP g _)];rfl
theorem kP(g:Fl->Bool)(f:Fl)(ks:ak)(w:ab->Int):aY g (dW f ks w)=g f:=by
 show(g f||aS g (ks.map λk=>.int (w k)))=_;rw[de g (λk=>jg g _),Bool.or_false]
theorem zC(h:Φ 1003=eY)(f:Fl)(ks:ak)(w:ab->Int):Φ 1003 [dW f ks w]=ok (.lst .ow (ks.map λk=>dk k (w k))):=by
 rw[h];show(match intsOf (ks.map λk=>.int (w k))with|some ns=>ok (D.lst .ow (List.zipWith dk ks ns))|none=>none)=_;have e:(ks.map λk=>D.int (w k))=(ks.map w).map D.int:=by rw[List.map_map];rfl
 rw[e,bx];show ok (D.lst .ow (List.zipWith dk ks (ks.map w)))=_;rw[List.zipWith_map_right,List.zipWith_self]
noncomputable def Ai:CE:=.comp 1 (.nm 0) [1,2] .seq [(.cL 1035 [(.v 1)])] [(.cmp .gt (.cL 1032 [(.v 1),(.v 0)]) (.int 0))] (.tup [(.call 2 [(.cL 1032 [(.v 1),(.v 0)]),(.v 2)]),(.v 0)])
def vK:aj:=[.ret (.tup [(.v 0),Ai])]
def tU(cs:ak)(ws:ab)(b:Int):aL:=((aX cs).filter λc=>decide (0<fD cs ws c)).map λc=>(Rat.divInt (fD cs ws c) b,c)
def EM(m:aG):Prop:=∀f (n:Int) (cs:ak) (ws:ab) (b:Int),cs.length=ws.length->cs.length<1000->b≠0->b.natAbs<2 ^ 9000->m [.int n,.cu f cs (au ws),.int b]=ok (.tup [.int n,.lst .ow (bX (tU cs ws b))])
theorem Kq(Φ:ba)(P:DJ Φ)(h2:fj (Φ 2)):EM (mk Φ 3 3 vK):=by
 intro f n cs ws b hl mJ hb m4;have hp:(aX cs).Perm cs:=XB _ _;have e1:bA Φ Ai [some (.int n),some (.cu f cs (au ws)),some (.int b)]=ok (.lst .ow (bX (tU cs ws b))):=by
  unfold Ai;rw[dN (xs:=[.lst .ow ((aX cs).map cK)]) (items:=(aX cs).map cK) (ds:=bX (tU cs ws b)) (by simp[JT P _ _ mJ]) (by rw[d_,gF]) ?_ (by
   have:=List.length_filter_le (λc=>decide (0<fD cs ws c)) (aX cs);have mZ:=hp.length_eq;rw[uz];unfold tU;rw[List.length_map];exact cT (by left))]
  ·rw[i_]
  ·unfold bX tU;rw[List.map_map];refine e_ λc hc=>?_;have xK:c∈cs:=hp.mem_iff.mp hc;have d1:=λf=>MC P f hl xK;have f1:=h2.1 (fD cs ws c) b hb m4;have m1:aW bD (cK c)=.tup (au c):=by show D.tup (aB bD (c.map D.int))=_;rw[iE];rfl
   refine⟨[some (cK c),some (.cu (a_ f) cs (au ws)),some (.int b)],by simp[bE],by simp[m1,d1],λ_=>?_⟩;simp[m1,d1,f1];rfl
 simp[mk_eq,vK,e1]
noncomputable def cc(h:Int)(ks:ak):ak:=ks.flatMap λl=>[l,l++[h]]
def aI:Nat->ak
 |0=>[[]]
 |h+1=>cc h (aI h)
theorem e9{h:Int}{c:ab}:c∈cc h ks ↔ ∃l∈ks,c=l\/c=l++[h]:=by
 unfold cc;rw[List.mem_flatMap];simp
theorem Ao{h:Int}:∀{ks:ak},ks.Nodup->(∀l∈ks,h∉l)->(cc h ks).Nodup
 |[],_,_=>Yu
 |l::ks,hn,hh=>by
  obtain⟨h1,h2⟩:=List.nodup_cons.mp hn;have ih:=Ao h2 λm hm=>hh m (Xm _ hm);have hl:=hh l Xo;have e:cc h (l::ks)=l::(l++[h])::cc h ks:=rfl;rw[e];refine List.nodup_cons.mpr ⟨λm=>?_,List.nodup_cons.mpr ⟨λm=>?_,ih⟩⟩
  ·rcases List.mem_cons.mp m with m|m
   ·have:=X0 List.length m;simp at this
   ·obtain⟨q,hq,e|e⟩:=e9.mp m
    ·exact h1 (e▸hq)
    ·exact hl (by rw[e];simp)
  ·obtain⟨q,hq,e|e⟩:=e9.mp m
   ·exact hh q (Xm _ hq) (by rw[<- e];simp)
   ·have:l=q:=by simpa using e
    exact h1 (this▸hq)
theorem pv(h:Int):∀ks:ak,(cc h ks).length=2*ks.length
 |[]=>rfl
 |l::ks=>by
  show(cc h ks).length+1+1=_;rw[pv h ks,List.length_cons];left
theorem dE:∀h:Nat,(aI h).Nodup/\(∀l∈aI h,∀x∈l,0<=x/\x<(h:Int))/\(aI h).length=2 ^ h
 |0=>⟨by simp[aI],by simp[aI],rfl⟩
 |h+1=>by
  obtain⟨h1,h2,h3⟩:=dE h;refine⟨Ao h1 λl hl m=>by have:=h2 l hl _ m;left,λl hl x hx=>?_,?_⟩
  ·obtain⟨q,hq,rfl|rfl⟩:=e9.mp hl
   ·have:=h2 _ hq x hx;left
   ·rcases List.mem_append.mp hx with hx|hx
    ·have:=h2 _ hq x hx;left
    ·have:=List.mem_singleton.mp hx;left
  ·show(cc h (aI h)).length=_;rw[pv,h3,Nat.pow_succ];left
noncomputable def kl(h:Int)(a b:Int)(w:ab->Int):ab->Int:=λl=>if h∈l then w l.dropLast*a else w l*(b - a)
theorem qb(P:DJ Φ)(hl:ks.length<1000)(w:ab->Int){c:ab}(hc:c∉ks){v:Int}(hv:w c=v):Φ 1033 [dW .ow ks w,.int v,.tup (au c)]=ok (dW .ow (ks++[c]) w):=by
 have:=Ie P (cs:=ks) hl (ks.map w) c v;have e:∀l:ak,(l.map λk=>D.int (w k))=au (l.map w):=λl=>by unfold au;rw[List.map_map];rfl
 unfold dW;rw[e,this];unfold cG bK;rw[if_neg hc,if_neg hc,e,List.map_append,<- hv];rfl
noncomputable def uo:aj:=[.mut 1033 5 [(.bin .mul (.v 7) (.bin .sub (.ix (.v 4) (.int 1)) (.ix (.v 4) (.int 0)))),(.v 6)],.mut 1033 5 [(.bin .mul (.v 7) (.ix (.v 4) (.int 0))),(.bin .add (.v 6) (.tup [(.v 3)]))]]
def yd:aj:=[.asg (.nm 5) (.cL 1030 []),.fr (.tp [6,7]) (.wx 1003 [(.v 1)]) uo,.asg (.nm 1) (.v 5),.mut 1010 2 [(.ix (.v 4) (.int 1))]]
theorem rZ(Φ:ba)(P:DJ Φ)(c0 c1 c2:aM){h:Int}(q:Rat)(hq:q.num.natAbs<2 ^ 60/\q.den<2 ^ 60)(w:ab->Int):∀(ps ds:ak) (c6 c7:aM),(∀p∈ps,p.length<=12)->(∀p∈ds++ps,h∉p)->(ds++ps).Nodup->2*(ds.length+ps.length)<=900 ->
  ∃MO Iw,eu (λd ρ=>cg (.tp [6,7]) d ρ) (λρ=>bT Φ uo ρ) (ps.map λp=>dk p (w p)) [c0,c1,c2,some (.int h),some (qD q),some (dW .ow (cc h ds) (kl h q.num q.den w)),c6,c7]=ok (.nx,[c0,c1,c2,some (.int h),some (qD q),some (dW .ow (cc h (ds++ps)) (kl h q.num q.den w)),MO,Iw])
 |[],ds,c6,c7,_,_,_,_=>⟨c6,c7,by simp[eu]⟩
 |p::ps,ds,c6,c7,hl,hh,hn,hz=>by
  rw[List.length_cons]at hz;have Vo:=hl p Xo;have hp:=hh p (Xr _ Xo);obtain⟨d6,d7,ih⟩:=rZ Φ P c0 c1 c2 q hq w ps (ds++[p]) (some (.tup (au p))) (some (.int (w p))) (λm hm=>hl m (Xm _ hm)) (by simpa using hh) (by simpa using hn) (by simp;left);have ed:cc h (ds++[p])=cc h ds++[p]++[p++[h]]:=by unfold cc;rw[List.flatMap_append];simp
  rw[List.append_assoc,List.singleton_append]at ih;have hd:=pv h ds;have n1:p∉cc h ds:=λm=>by
   obtain⟨k,hk,e|e⟩:=e9.mp m
   ·rw[List.nodup_append]at hn;exact hn.2.2 k hk p Xo e.symm
   ·exact hp (by rw[e];simp)
  have n2:p++[h]∉cc h ds++[p]:=λm=>by
   rcases List.mem_append.mp m with m|m
   ·obtain⟨k,hk,e|e⟩:=e9.mp m
    ·exact hh k (Xz _ hk) (by rw[<- e];simp)
    ·have e':p=k:=by simpa using e
     rw[List.nodup_append]at hn;exact hn.2.2 k hk p Xo e'.symm
   ·have:=X0 List.length (List.mem_singleton.mp m);simp at this
  have v1:kl h q.num q.den w p=w p*(q.den - q.num):=Y5 hp;have v2:kl h q.num q.den w (p++[h])=w p*q.num:=by unfold kl;rw[if_pos (by simp),List.dropLast_concat]
  have p1:=qb P (ks:=cc h ds) (by left) (kl h q.num q.den w) n1 v1;have p2:=qb P (ks:=cc h ds++[p]) (by simp;left) (kl h q.num q.den w) n2 v2;rw[<- ed]at p2;have b1:cv .mul (.int (w p)) (.int ((q.den:Int) - q.num))=ok (.int (w p*(q.den - q.num))):=vJ (by left);have b2:cv .mul (.int (w p)) (.int q.num)=ok (.int (w p*q.num)):=vJ (by left);have b3:cv .add (.tup (au p)) (.tup [.int h])=ok (.tup (au (p++[h]))):=by
   show(if (au p).length+1<=eO then ok (D.tup (aB bD (au p++[.int h])))else none)=_;rw[if_pos (by simp;show _<=1000000;left)];have:au p++[.int h]=au (p++[h]):=by simp[au]
   rw[this,gG]
  have eq:qD q=.tup [.int q.num,.int q.den]:=rfl;have x1:=om (Φ:=Φ) (p:=1033) (i:=5) (es:=[(.bin .mul (.v 7) (.bin .sub (.ix (.v 4) (.int 1)) (.ix (.v 4) (.int 0)))),(.v 6)]) (ρ:=[c0,c1,c2,some (.int h),some (qD q),some (dW .ow (cc h ds) (kl h q.num q.den w)),some (.tup (au p)),some (.int (w p))]) (xs:=[.int (w p*(q.den - q.num)),.tup (au p)]) (by simp[eq,b1]) (by simp) rfl p1;have x2:=om (Φ:=Φ) (p:=1033) (i:=5) (es:=[(.bin .mul (.v 7) (.ix (.v 4) (.int 0))),(.bin .add (.v 6) (.tup [(.v 3)]))]) (ρ:=[c0,c1,c2,some (.int h),some (qD q),some (dW .ow (cc h ds++[p]) (kl h q.num q.den w)),some (.tup (au p)),some (.int (w p))]) (xs:=[.int (w p*q.num),.tup (au (p++[h]))]) (by simp[eq,b2,b3]) (by simp) rfl p2;simp only[List.set]at x1 x2;refine⟨d6,d7,fS (ρ1:=[c0,c1,c2,some (.int h),some (qD q),some (dW .ow (cc h ds) (kl h q.num q.den w)),some (.tup (au p)),some (.int (w p))]) ?_ (ρ2:=[c0,c1,c2,some (.int h),some (qD q),some (dW .ow (cc h (ds++[p])) (kl h q.num q.den w)),some (.tup (au p)),some (.int (w p))]) ?_ ih⟩
  ·show cg (.tp [6,7]) (.tup [cK p,.int (w p)]) _=_;rw[By (by show aS ck [D.tup (au p),.int (w p)]=false;simp)];rfl
  ·rw[uo,dq,x1];show bT Φ [.mut 1033 5 _] _=_;rw[dq,x2];rfl
def wA(qs:aC):Nat->ab->Int
 |0=>λ_=>1
 |h+1=>kl h (qs.getD h 0).num (qs.getD h 0).den (wA qs h)
noncomputable def mB(qs:aC):Nat->Int
 |0=>1
 |h+1=>mB qs h*(qs.getD h 0).den
theorem DA(Φ:ba)(P:DJ Φ)(hi:Φ 1003=eY)(hm:Φ 1010=lZ)(c0:aM){j:Nat}(hj:j<7)(q:Rat)(hq:q.num.natAbs<2 ^ 60/\q.den<2 ^ 60)(w:ab->Int)(bt:Int)(c5 c6 c7:aM):
  ∃MP MO Iw,bT Φ yd [c0,some (dW .ow (aI j) w),some (.int bt),some (.int j),some (qD q),c5,c6,c7]=ok (.nx,[c0,some (dW .ow (aI (j+1)) (kl j q.num q.den w)),some (.int (bt*q.den)),some (.int j),some (qD q),MP,MO,Iw]):=by
 obtain⟨l1,l2,l3⟩:=dE j;have hp:2 ^ j<=2 ^ 6:=Xy (by decide) (by left);have Qk:∀p∈aI j,(j:Int)∉p:=λp hp m=>by have:=l2 p hp _ m;left
 have hlen:∀p∈aI j,p.length<=12:=by
  have:∀k:Nat,∀p∈aI k,p.length<=k:=λk=>by
   induction k with
   |zero=>intro p hp;rw[List.mem_singleton.mp (show p∈[[]] from hp)];simp
   |succ k ih =>
    intro p hp;obtain⟨m,hm,rfl|rfl⟩:=e9.mp (show p∈cc k (aI k) from hp)
    ·have:=ih _ hm;left
    ·have:=ih _ hm;simp;left
  intro p hp;have:=this j p hp;left
 obtain⟨d6,d7,el⟩:=rZ Φ P c0 (some (dW .fz (aI j) w)) (some (.int bt)) (h:=(j:Int)) q hq w (aI j) [] c6 c7 hlen (by simpa using Qk) (by simpa using l1) (by simp;left);rw[List.nil_append]at el;have e0:Φ 1030 []=ok (dW .ow (cc j []) (kl j q.num q.den w)):=by rw[P.Eu];rfl
 have o1:∀ks w,aY bG (dW .ow ks w)=false:=λks w=>kP _ _ _ _;have o2:∀ks w,aY ck (dW .ow ks w)=true:=λks w=>kP _ _ _ _;have m1:∀g f ks w,aW g (dW f ks w)=dW (g f) ks w:=uQ;have hit:dJ Φ (.wx 1003 [(.v 1)]) [c0,some (dW .ow (aI j) w),some (.int bt),some (.int j),some (qD q),some (dW .ow (cc j []) (kl j q.num q.den w)),c6,c7]=ok ((aI j).map λk=>dk k (w k),[c0,some (dW .fz (aI j) w),some (.int bt),some (.int j),some (qD q),some (dW .ow (cc j []) (kl j q.num q.den w)),c6,c7]):=by
  have hI:∀ρ,dJ Φ (.wx 1003 [(.v 1)]) ρ=bd (bV Φ [(.v 1)] ρ) λxs=>bd (Φ 1003 xs) λd=>bd (kh d) λitems=>ok (items,if aS bG xs then gp (cA [(.v 1)]) ρ else ρ):=λ_=>rfl;rw[hI];have:bV Φ [(.v 1)] [c0,some (dW .ow (aI j) w),some (.int bt),some (.int j),some (qD q),some (dW .ow (cc j []) (kl j q.num q.den w)),c6,c7]=ok [dW .al (aI j) w]:=by simp[m1,bD]
  rw[this,cC,zC hi,cC];have e1:aB a_ ((aI j).map λk=>dk k (w k))=(aI j).map λk=>dk k (w k):=cD a_ (λk=>by
   show D.tup [aW a_ (cK k),.int (w k)]=_;have:aW a_ (cK k)=cK k:=by show D.tup (aB a_ (k.map D.int))=_;rw[iE];rfl
   rw[this];rfl) (aI j)
  show ok (aB a_ ((aI j).map λk=>dk k (w k)),if aS bG [dW .al (aI j) w]then _ else _)=_;have e2:aS bG [dW .al (aI j) w]=true:=by rw[tO,kP];rfl
  rw[e1,e2,if_pos rfl,show cA [(CE.v 1)]=[1] from rfl];simp[tQ,m1,a_]
 have hf:=iV (Φ:=Φ) (t:=.tp [6,7]) (b:=uo) hit el;have e3:lZ [.int bt,.int (q.den:Int)]=ok (.int (bt*q.den)):=X1 (uO bt (by rw[Int.natAbs_natCast];left));have eq:qD q=.tup [.int q.num,.int q.den]:=rfl;have x4:=om (Φ:=Φ) (p:=1010) (i:=2) (es:=[(.ix (.v 4) (.int 1))]) (ρ:=[c0,some (dW .ow (cc j (aI j)) (kl j q.num q.den w)),some (.int bt),some (.int j),some (qD q),none,d6,d7]) (xs:=[.int q.den]) (by simp[eq]) (by simp) rfl (by rw[hm];exact e3);simp only[List.set]at x4;refine⟨none,d6,d7,?_⟩;have a1:nU Φ (.asg (.nm 5) (.cL 1030 [])) [c0,some (dW .ow (aI j) w),some (.int bt),some (.int j),some (qD q),c5,c6,c7]=ok (.nx,[c0,some (dW .ow (aI j) w),some (.int bt),some (.int j),some (qD q),some (dW .ow (cc j []) (kl j q.num q.den w)),c6,c7]):=by
  simp[e0,o1]
 have a3:nU Φ (.asg (.nm 1) (.v 5)) [c0,some (dW .fz (aI j) w),some (.int bt),some (.int j),some (qD q),some (dW .ow (cc j (aI j)) (kl j q.num q.den w)),d6,d7]=ok (.nx,[c0,some (dW .ow (cc j (aI j)) (kl j q.num q.den w)),some (.int bt),some (.int j),some (qD q),none,d6,d7]):=by
  simp[o2,o1]
 rw[yd,dq,a1,gy,dq,hf,gy,dq,a3,gy,dq,x4];rfl
structure RP(qs:aC):Prop where
 l1:1<=qs.length
 l7:qs.length<=7
 q0:∀q∈qs,0<=q
 q1:∀q∈qs,q<=1
 dn:∀q∈qs,q.den<=9
theorem vP(Φ:ba)(P:DJ Φ)(hi:Φ 1003=eY)(hm:Φ 1010=lZ)(c0:aM){qs:aC}(hq:∀q∈qs,q.num.natAbs<2 ^ 60/\q.den<2 ^ 60):∀(rs pre:aC) (c3 c4 c5 c6 c7:aM),qs=pre++rs->qs.length<=7 ->
  ∃MQ Rv MP MO Iw,eu (λd ρ=>cg (.tp [3,4]) d ρ) (λρ=>bT Φ yd ρ) (bB pre.length (bQ rs)) [c0,some (dW .ow (aI pre.length) (wA qs pre.length)),some (.int (mB qs pre.length)),c3,c4,c5,c6,c7]=ok (.nx,[c0,some (dW .ow (aI qs.length) (wA qs qs.length)),some (.int (mB qs qs.length)),MQ,Rv,MP,MO,Iw])
 |[],pre,c3,c4,c5,c6,c7,e,_=>⟨c3,c4,c5,c6,c7,by rw[e,List.append_nil];rfl⟩
 |q::rs,pre,c3,c4,c5,c6,c7,e,h7=>by
  have hl:pre.length<7:=by rw[e]at h7;simp at h7;left
  have hg:qs.getD pre.length 0=q:=by rw[e];simp
  obtain⟨d5,d6,d7,ht⟩:=DA Φ P hi hm c0 hl q (hq q (by rw[e];simp)) (wA qs pre.length) (mB qs pre.length) c5 c6 c7;obtain⟨f3,f4,f5,f6,f7,ih⟩:=vP Φ P hi hm c0 hq rs (pre++[q]) (some (.int pre.length)) (some (qD q)) d5 d6 d7 (by rw[e];simp) h7;have e1:wA qs (pre.length+1)=kl pre.length q.num q.den (wA qs pre.length):=by show kl _ _ _ _=_;rw[hg]
  have e2:mB qs (pre.length+1)=mB qs pre.length*q.den:=by show _*_=_;rw[hg]
  rw[List.length_append,List.length_singleton,e1,e2]at ih;refine⟨f3,f4,f5,f6,f7,?_⟩;show eu _ _ (.tup [.int pre.length,qD q]::bB (pre.length+1) (bQ rs)) _=_;exact fS (ρ1:=[c0,some (dW .ow (aI pre.length) (wA qs pre.length)),some (.int (mB qs pre.length)),some (.int pre.length),some (qD q),c5,c6,c7]) (by simp) ht ih
theorem pN{qs:aC}(hd:∀q∈qs,q.den<=9):∀h:Nat,h<=qs.length->0<mB qs h/\mB qs h<=(9 ^ h:Nat)
 |0,_=>⟨by show(0:Int)<1;decide,by show(1:Int)<=((9 ^ 0:Nat):Int);decide⟩
 |h+1,hh=>by
  obtain⟨h1,h2⟩:=pN hd h (by left);have b9:h<qs.length:=by left
  have e:qs.getD h 0=qs[h]:=by simp[b9]
  have h3:=hd qs[h] (XF b9);have h4:=qs[h].den_pos;show 0<mB qs h*(qs.getD h 0).den/\mB qs h*(qs.getD h 0).den<=_;rw[e];refine⟨Int.mul_pos h1 (by left),?_⟩;rw[Nat.pow_succ,Int.natCast_mul];exact Int.mul_le_mul h2 (by left) (by left) (by left)
def k8:aj:=[.ifs (.not (.call 24 [(.v 0),(.glo "MOST_ALONE" 7)])) [.rs 2] [],.asg (.nm 1) (.cL 1034 [(.tup []),(.int 1)]),.asg (.nm 2) (.int 1),.fr (.tp [3,4]) (.wx 1001 [(.v 0)]) yd,.ret (.call 18 [(.bf .len [(.v 0)]),(.v 1),(.v 2)])]
def M0(qs:aC):aL:=tU (aI qs.length) ((aI qs.length).map (wA qs qs.length)) (mB qs qs.length)
def vT(m:aG):Prop:=∀qs,RP qs->m [.lst .fz (bQ qs)]=ok (.tup [.int qs.length,.lst .ow (bX (M0 qs))])
theorem BG(Φ:ba)(P:DJ Φ)(V0:EM (Φ 18))(VW:EK (Φ 24))(he:Φ 1001=vt)(hi:Φ 1003=eY)(hm:Φ 1010=lZ)(h1:Φ 1034=mn):vT (mk Φ 1 8 k8):=by
 intro qs K;have l1:=K.l1;have l7:=K.l7;have hq:∀q∈qs,q.num.natAbs<2 ^ 60/\q.den<2 ^ 60:=λq h=>by
  have a1:=lM (K.q1 q h);have a2:=qL (K.q0 q h);have a3:=K.dn q h;left
 have Wn:∀f,Φ 24 [.lst f (bQ qs),.int 7]=ok (.bl true):=λf=>VW f qs 7 l1 l7 (by decide) K.q0 K.q1;obtain⟨c3,c4,c5,c6,c7,el⟩:=vP Φ P hi hm (some (.lst .fz (bQ qs))) hq qs [] none none none none none rfl l7;have Wm:Φ 1034 [.tup [],.int 1]=ok (dW .ow (aI 0) (wA qs 0)):=by rw[h1];rfl
 have o1:∀ks w,aY bG (dW .ow ks w)=false:=λks w=>kP _ _ _ _;have m1:∀g f ks w,aW g (dW f ks w)=dW (g f) ks w:=uQ;have hit:dJ Φ (.wx 1001 [(.v 0)]) [some (.lst .fz (bQ qs)),some (dW .ow (aI 0) (wA qs 0)),some (.int 1),none,none,none,none,none]=ok (bB 0 (bQ qs),[some (.lst .fz (bQ qs)),some (dW .ow (aI 0) (wA qs 0)),some (.int 1),none,none,none,none,none]):=by
  have hI:∀ρ,dJ Φ (.wx 1001 [(.v 0)]) ρ=bd (bV Φ [(.v 0)] ρ) λxs=>bd (Φ 1001 xs) λd=>bd (kh d) λitems=>ok (items,if aS bG xs then gp (cA [(.v 0)]) ρ else ρ):=λ_=>rfl;rw[hI];have:bV Φ [(.v 0)] [some (.lst .fz (bQ qs)),some (dW .ow (aI 0) (wA qs 0)),some (.int 1),none,none,none,none,none]=ok [.lst .fz (bQ qs)]:=by simp[bD]
  rw[this,cC,he];show bd (ok (D.lst .ow (bB 0 (bQ qs)))) _=_;rw[cC];have em:∀(l:aC) (k:Nat),aB a_ (bB k (bQ l))=bB k (bQ l):=λl=>by
   induction l with
   |nil=>intro k;rfl
   |cons q l ih =>
    intro k;show aW a_ (.tup [.int k,qD q])::aB a_ (bB (k+1) (bQ l))=_;rw[ih (k+1)];simp;rfl
  show ok (aB a_ (bB 0 (bQ qs)),if aS bG [D.lst .fz (bQ qs)]then _ else _)=_;rw[em];have:aS bG [D.lst .fz (bQ qs)]=false:=by simp[bG]
  rw[this];rfl
 have hf:=iV (Φ:=Φ) (t:=.tp [3,4]) (b:=yd) hit el;obtain⟨b1,b2⟩:=pN K.dn qs.length (Xp _);have b3:9 ^ qs.length<=9 ^ 7:=Xy (by decide) l7;have l3:=(dE qs.length).2.2;have hp:2 ^ qs.length<=2 ^ 7:=Xy (by decide) l7;have TZ:=V0 .fz (qs.length:Int) (aI qs.length) ((aI qs.length).map (wA qs qs.length)) (mB qs qs.length) (by simp) (by left) (by left) (tm (by left));have ed:D.cu .fz (aI qs.length) (au ((aI qs.length).map (wA qs qs.length)))=dW .fz (aI qs.length) (wA qs qs.length):=by
  unfold dW au;rw[List.map_map];rfl
 rw[ed]at TZ;have Rt:Φ 18 [.int (qs.length:Int),dW .fz (aI qs.length) (wA qs qs.length),.int (mB qs qs.length)]=ok (.tup [.int qs.length,.lst .ow (bX (M0 qs))]):=TZ;generalize M0 qs=out at *;simp[mk_eq,k8,Wn,Wm,o1,hf,m1,bD,a_,Rt]
noncomputable def fG(g h:Int)(r:Row):Bool:=decide (g∈r.2)&&decide (h∈r.2)
def qI(rs:aL)(g h:Int):Rat:=(dH (rs.filter (fG g h))).sum
theorem qY(h:Int):∀ns:ab,inD (.int h) (au ns)=decide (h∈ns)
 |[]=>rfl
 |x::xs=>by
  show(jy (.int x) (.int h)||inD (.int h) (au xs))=_;rw[kR,qY h xs];by_cases e:h=x<;>simp[e,eq_comm]
theorem nS:∀ns:ab,(au ns).all gc=true
 |[]=>rfl
 |x::xs=>by show(gc (.int x)&&(au xs).all gc)=true;rw[nS xs];rfl
theorem EC(h:Int)(ns:ab):fg .Ct (.int h) (.tup (au ns))=ok (.bl (decide (h∈ns))):=by
 show(if gc (.int h)&&(au ns).all gc then ok (D.bl (inD (.int h) (au ns)))else none)=_;rw[nS,qY];rfl
noncomputable def C0:CE:=.comp 2 (.tp [0,1]) [1,2] .seq [(.ix (.v 0) (.int 1))] [(.and [(.cmp .Ct (.v 2) (.v 1)),(.cmp .Ct (.v 3) (.v 1))])] (.v 0)
def kZ:aj:=[.asg (.nm 3) C0,.ret (.call 2 [(.bf .lD [(.v 3)]),(.ix (.v 0) (.int 0))])]
def vS(m:aG):Prop:=∀k n rs (g h:Int),Dr k n rs->m [.tup [.int (dF (dH rs)),.lst .fz (uh (dF (dH rs)) rs)],.int g,.int h]=ok (qD (qI rs g h))
theorem BF(Φ:ba)(h2:fj (Φ 2)):vS (mk Φ 3 4 kZ):=by
 intro k n rs g h I;obtain⟨b0,b1,b2⟩:=I.bot;have key:=Bo (b:=dF (dH rs)) (qs:=dH (rs.filter (fG g h))) b0 λq hq=>by
  obtain⟨r,hr,rfl⟩:=List.mem_map.mp hq;exact b2 _ (XM ((List.mem_filter.mp hr).1))
 generalize dF (dH rs)=b at *;have k1:∀a,bA Φ C0 [some (.tup [.int b,.lst .fz (uh b rs)]),some (.int g),some (.int h),a]=ok (.lst .ow (au ((dH (rs.filter (fG g h))).map (cQ b)))):=λa=>by
  unfold C0;rw[dN (xs:=[.lst .fz (uh b rs)]) (items:=rs.map λr=>.tup [.int (cQ b r.1),.tup (au r.2)]) (ds:=(rs.filter (fG g h)).map λr=>.int (cQ b r.1)) (by simp) (by rw[d_,zk];rfl) (e_ λr hr=>⟨[some (.int (cQ b r.1)),some (.tup (au r.2)),some (.int g),some (.int h)],by simp[bE],by
   by_cases hg:g∈r.2<;>by_cases hh:h∈r.2<;>simp[EC,fG,hg,hh],λ_=>by simp⟩) ?_]
  ·simp[au,aV,dH]
  ·have:=Yw (fG g h) rs;have:=I.len;rw[List.length_map];exact cT (by left)
 have k2:rW .lD [.lst .ow (au ((dH (rs.filter (fG g h))).map (cQ b)))]=ok (.int ((dH (rs.filter (fG g h))).map (cQ b)).sum):=by
  show(match intsOf (au ((dH (rs.filter (fG g h))).map (cQ b)))with|some ns=>ok (D.int ns.sum)|none=>none)=_;unfold au;rw[bx]
 have k3:=h2.1 ((dH (rs.filter (fG g h))).map (cQ b)).sum b (by left) (by
  rw[Int.natAbs_natCast];exact Xu b1 (Xy (by decide) (by decide)))
 rw[key]at k3;have k4:∀f,rW .lD [.lst f (au ((dH (rs.filter (fG g h))).map (cQ b)))]=ok (.int ((dH (rs.filter (fG g h))).map (cQ b)).sum):=λf=>k2;simp[mk_eq,kZ,GO Φ C0 _ rfl,k1,k4,k3];rfl
theorem j4(q:Rat):0<q.num ↔ 0<q:=by rw[Rat.lt_iff];simp
def D1(n:Nat)(rs:aL):aC:=(List.range n).map λ(k:Nat)=>qI rs k k
noncomputable def CY:CE:=.comp 1 (.nm 0) [1] .kI [(.ix (.v 0) (.int 0))] [] (.call 19 [(.v 1),(.v 0),(.v 0)])
def jq:aj:=[.ex (.call 17 [(.v 0)]),.asg (.nm 1) (.call 14 [(.ix (.v 0) (.int 1))]),.ret CY]
def r_(m:aG):Prop:=∀k n rs,Dr k n rs->m [gQ n rs]=ok (.lst .ow (bQ (D1 n rs)))
theorem yv(Φ:ba)(QV:jT (Φ 14))(V1:mF (Φ 17))(VZ:vS (Φ 19)):r_ (mk Φ 1 2 jq):=by
 intro k n rs I;have e1:=V1 k n rs I;obtain⟨j0,sl⟩:=I.sl;have e2:=QV rs j0 sl;have hn:=I.n2;have m2:aW bD (gQ n rs)=gQ n rs:=by simp[gQ]
 have m1:aW a_ (gQ n rs)=gQ n rs:=by simp[gQ]
 have hd:gQ n rs=.tup [.int n,.lst .fz (bX rs)]:=rfl;have x0:AJ (gQ n rs) (.int 0)=ok (.int n):=by rw[hd];simp
 have x1:AJ (gQ n rs) (.int 1)=ok (.lst .fz (bX rs)):=by rw[hd];simp
 have k1:bA Φ CY [some (gQ n rs),some (.tup [.int (dF (dH rs)),.lst .ow (uh (dF (dH rs)) rs)])]=ok (.lst .ow (bQ (D1 n rs))):=by
  unfold CY;rw[dN (xs:=[.int n]) (ds:=(List.range n).map λ(k:Nat)=>qD (qI rs k k)) (by simp[m2,x0]) (uY Φ (by left) (by left)) (cS λk' hk=>?_) (by simp;exact cT (by left))]
  ·simp[bQ,D1,aV]
  ·have e:=VZ k n rs k' k' I;exact⟨[some (.int k'),some (.tup [.int (dF (dH rs)),.lst .fz (uh (dF (dH rs)) rs)])],by simp[bE],by simp,by simp[e]⟩
 simp[mk_eq,jq,GO Φ CY _ rfl,m1,m2,x1,e1,e2,k1]
@[simp]theorem Bw(n:Nat)(rs:aL):(D1 n rs).length=n:=by simp[D1]
theorem Bx{n k:Nat}(rs:aL)(h:k<n):(D1 n rs)[k]?=some (qI rs k k):=by simp[D1,h]
noncomputable def qA(q:Rat)(i:Int)(c:ab):Rat:=if i∈c then q else 1 - q
noncomputable def pA(qs:aC):Nat->ab->Rat
 |0,_=>1
 |h+1,c=>pA qs h c*qA (qs.getD h 0) h c
theorem uL(qs:aC)(l:ab)(m:Int):∀h:Nat,(h:Int)<=m->pA qs h (l++[m])=pA qs h l
 |0,_=>rfl
 |h+1,hm=>by
  have:(h:Int)∈l++[m] ↔ (h:Int)∈l:=by simp;left
  show pA qs h (l++[m])*qA _ h (l++[m])=pA qs h l*qA _ h l;rw[uL qs l m h (by left)];unfold qA;simp only[this]
theorem uM(qs:aC){h:Nat}{l:ab}:pA qs (h+1) (l++[(h:Int)])=pA qs h l*qs.getD h 0:=by
 show pA qs h (l++[(h:Int)])*qA _ h (l++[(h:Int)])=_;rw[uL qs l h h (Int.le_refl _)];unfold qA;rw[if_pos (by simp)]
theorem s9(qs:aC){h:Nat}{l:ab}(hl:(h:Int)∉l):pA qs (h+1) l=pA qs h l*(1 - qs.getD h 0):=by
 show pA qs h l*qA _ h l=_;unfold qA;rw[if_neg hl]
theorem pM{qs:aC}:∀h:Nat,(0:Rat)<(mB qs h:Rat)
 |0=>by show(0:Rat)<((1:Int):Rat);decide
 |h+1=>by
  show(0:Rat)<((mB qs h*(qs.getD h 0).den:Int):Rat);rw[Rat.intCast_mul,Rat.intCast_natCast];exact Rat.mul_pos (pM h) (by exact_mod_cast (qs.getD h 0).den_pos)
theorem sC(qs:aC):∀(h:Nat) (c:ab),c∈aI h->(wA qs h c:Rat)=pA qs h c*(mB qs h:Rat)
 |0,c,_=>by show((1:Int):Rat)=1*((1:Int):Rat);rw[Rat.one_mul]
 |h+1,c,hc=>by
  obtain⟨l,hl,e⟩:=e9.mp (show c∈cc h (aI h) from hc);have hn:(h:Int)∉l:=λm=>by have:=(dE h).2.1 l hl _ m;left
  have ih:=sC qs h l hl;have hq:=yI (qs.getD h 0);have eb:((mB qs (h+1):Int):Rat)=(mB qs h:Rat)*((qs.getD h 0).den:Rat):=by
   show((mB qs h*(qs.getD h 0).den:Int):Rat)=_;rw[Rat.intCast_mul,Rat.intCast_natCast]
  rw[eb];rcases e with rfl|rfl
  ·rw[s9 qs hn];have e1:wA qs (h+1) c=wA qs h c*(((qs.getD h 0).den:Int) - (qs.getD h 0).num):=Y5 hn;rw[e1,Rat.intCast_mul,Rat.intCast_sub,Rat.intCast_natCast,ih,hq];generalize ((qs.getD h 0).den:Rat)=d;generalize qs.getD h 0=q;grind
  ·rw[uM qs];have e1:wA qs (h+1) (l++[(h:Int)])=wA qs h l*(qs.getD h 0).num:=by
    show kl _ _ _ _ _=_;unfold kl;rw[if_pos (by simp),List.dropLast_concat]
   rw[e1,Rat.intCast_mul,ih,hq];generalize ((qs.getD h 0).den:Rat)=d;generalize qs.getD h 0=q;grind
theorem oA(F:ab->Rat)(h:Int):∀ks:ak,((cc h ks).map F).sum=(ks.map λl=>F l+F (l++[h])).sum
 |[]=>rfl
 |l::ks=>by
  show(F l::F (l++[h])::(cc h ks).map F).sum=_;rw[List.sum_cons,List.sum_cons,oA F h ks,List.map_cons,List.sum_cons];grind
theorem gZ{α:Type}{F G:α->Rat}{ks:List α}(h:∀l∈ks,F l=G l):(ks.map F).sum=(ks.map G).sum:=by rw[List.map_congr_left h]
theorem qi{α:Type}(F:α->Rat)(c:Rat):∀ks:List α,(ks.map λl=>F l*c).sum=(ks.map F).sum*c
 |[]=>by simp[Rat.zero_mul]
 |l::ks=>by rw[List.map_cons,List.sum_cons,qi F c ks,List.map_cons,List.sum_cons];grind
theorem jL{h:Nat}{l:ab}(hl:l∈aI h):(h:Int)∉l:=λm=>by have:=(dE h).2.1 l hl _ m;left
theorem s_(qs:aC):∀h:Nat,((aI h).map (pA qs h)).sum=1
 |0=>by simp[aI,pA,Rat.add_zero]
 |h+1=>by
  show((cc h (aI h)).map (pA qs (h+1))).sum=1;rw[oA,gZ (G:=pA qs h),s_ qs h];intro l hl;rw[uM,s9 qs (jL hl)];grind
noncomputable def gA(qs:aC)(h:Nat)(g:Nat)(c:ab):Rat:=if (g:Int)∈c then pA qs h c else 0
theorem z_(qs:aC)(g:Nat):∀h:Nat,g<h->((aI h).map (gA qs h g)).sum=qs.getD g 0
 |0,hg=>absurd hg (by left)
 |h+1,hg=>by
  show((cc h (aI h)).map (gA qs (h+1) g)).sum=_;rw[oA];by_cases e:g=h
  ·subst e;rw[gZ (G:=λl=>pA qs g l*qs.getD g 0),qi,s_,Rat.one_mul];intro l hl;have hn:=jL hl;unfold gA;rw[if_neg hn,if_pos (by simp),uM];grind
  ·rw[gZ (G:=gA qs h g),z_ qs g h (by left)];intro l hl;have hn:=jL hl;have:(g:Int)∈l++[(h:Int)] ↔ (g:Int)∈l:=by simp;left
   unfold gA;simp only[this];split
   ·rw[uM,s9 qs hn];grind
   ·grind
theorem yY{qs:aC}(h0:∀q∈qs,0<=q)(h1:∀q∈qs,q<=1)(c:ab):∀h:Nat,h<=qs.length->0<=pA qs h c
 |0,_=>by show(0:Rat)<=1;decide
 |h+1,hh=>by
  have b9:h<qs.length:=by left
  have e:qs.getD h 0=qs[h]:=by simp[b9]
  have a:=h0 _ (XF b9);have b:=h1 _ (XF b9);show 0<=pA qs h c*qA (qs.getD h 0) h c;rw[e];refine Rat.mul_nonneg (yY h0 h1 c h (by left)) ?_;unfold qA;split
  ·exact a
  ·grind
theorem lC{α:Type}(p F:α->Rat):∀{ks:List α},(∀l∈ks,0<=p l)->(∀l∈ks,p l=0->F l=0)->((ks.filter λl=>decide (0<p l)).map F).sum=(ks.map F).sum
 |[],_,_=>rfl
 |l::ks,h,h'=>by
  have ih:=lC p F (λx hx=>h x (Xm _ hx)) λx hx=>h' x (Xm _ hx);rw[List.filter_cons,List.map_cons,List.sum_cons];by_cases e:0<p l
  ·rw[if_pos (by simpa using e),List.map_cons,List.sum_cons,ih]
  ·rw[if_neg (by simpa using e),ih,h' l List.mem_cons_self (by have:=h l List.mem_cons_self;grind)];grind
def dh(qs:aC)(ls:ak):aL:=((aX ls).filter λc=>decide (0<pA qs qs.length c)).map λc=>(pA qs qs.length c,c)
theorem xW{h:Nat}{c:ab}(hc:c∈aI h):Rat.divInt (wA qs h c) (mB qs h)=pA qs h c:=by
 rw[Rat.divInt_eq_div,sC qs h c hc];exact Rat.mul_div_cancel (Rat.ne_of_gt (pM h))
theorem ID:M0 qs=dh qs (aI qs.length):=by
 have hp:(aX (aI qs.length)).Perm (aI qs.length):=XB _ _;have hg:∀c∈aI qs.length,fD (aI qs.length) ((aI qs.length).map (wA qs qs.length)) c=wA qs qs.length c:=λc hc=>by
  unfold fD;rw[rz,if_pos hc];rfl
 have hb:=pM (qs:=qs) qs.length;unfold M0 tU dh;have e1:((aX (aI qs.length)).filter λc=>decide (0<fD (aI qs.length) ((aI qs.length).map (wA qs qs.length)) c))=(aX (aI qs.length)).filter λc=>decide (0<pA qs qs.length c):=by
  refine List.filter_congr λc hc=>?_;have hc:=hp.mem_iff.mp hc;rw[hg c hc];have hw:=sC qs qs.length c hc;refine decide_eq_decide.mpr ⟨λz=>?_,λz=>?_⟩
  ·have z':(0:Rat)<(wA qs qs.length c:Rat):=by exact_mod_cast z
   rw[hw]at z';by_cases y:0<pA qs qs.length c
   ·exact y
   ·exfalso;have:=X3 (show pA qs qs.length c<=0 by grind) (Y9 hb);rw[Rat.zero_mul]at this;grind
  ·have:=Rat.mul_pos z hb;rw[<- hw]at this
   exact_mod_cast this
 rw[e1];refine XZ λc hc=>?_;have hc:=hp.mem_iff.mp (List.mem_filter.mp hc).1;rw[hg c hc,xW hc]
theorem sY(qs:aC){ms:ak}(h:ls.Nodup)(p:ls.Perm ms):dh qs ls=dh qs ms:=by
 unfold dh;rw[i6 (p.nodup_iff.mp h) (eG h) ((List.mergeSort_perm _ _).trans p)]
theorem oE(h:ls.Nodup)(f:ab->Bool):aX (ls.filter f)=(aX ls).filter f :=
 (i6 (h.filter f) ((eG h).filter f) ((XB _ _).filter f)).symm
theorem qQ:∀(h:Nat),∀l∈aI h,l.Pairwise (· < ·)
 |0,l,hl=>by rw[List.mem_singleton.mp (show l∈[[]] from hl)];exact .nil
 |h+1,l,hl=>by
  obtain⟨m,hm,e⟩:=e9.mp (show l∈cc h (aI h) from hl);have ih:=qQ h m hm;rcases e with rfl|rfl
  ·exact ih
  ·rw[List.pairwise_append];exact⟨ih,by simp,λa ha b hb=>by have:=(dE h).2.1 m hm a ha;rw[List.mem_singleton.mp hb];left⟩
theorem jY{α:Type}(t:α->Bool)(F:α->Rat):∀ks:List α,((ks.filter t).map F).sum=(ks.map λc=>if t c then F c else 0).sum
 |[]=>rfl
 |c::ks=>by
  rw[List.filter_cons,List.map_cons,List.sum_cons,<- jY t F ks];split
  ·rw[List.map_cons,List.sum_cons]
  ·grind
section
variable {qs:aC}(K:RP qs)
include K
theorem yB:Dr 23 qs.length (dh qs (aI qs.length)):=by
 have hp:(aX (aI qs.length)).Perm (aI qs.length):=XB _ _;obtain⟨l1,l2,l3⟩:=dE qs.length;have k7:=K.l7;obtain⟨b1,b2⟩:=pN K.dn qs.length (Xp _);have b3:9 ^ qs.length<=9 ^ 7:=Xy (by decide) k7;have p7:2 ^ qs.length<=2 ^ 7:=Xy (by decide) k7;have nn:=λc=>yY K.q0 K.q1 c qs.length (Xp _);have wV:∀r∈dh qs (aI qs.length),r.2∈aI qs.length/\0<r.1/\r.1=pA qs qs.length r.2:=λr hr=>by
  obtain⟨c,hc,rfl⟩:=List.mem_map.mp hr;obtain⟨h1,h2⟩:=List.mem_filter.mp hc;exact⟨hp.mem_iff.mp h1,by simpa using h2,rfl⟩
 have hlen:(dh qs (aI qs.length)).length<=128:=by
  unfold dh;rw[List.length_map];have:=Yw (λc=>decide (0<pA qs qs.length c)) (aX (aI qs.length));have:=hp.length_eq;left
 have Cz:((dh qs (aI qs.length)).map (·.1)).sum=1:=by
  unfold dh;rw[List.map_map];rw[show((λx:Row=>x.1)∘λc=>(pA qs qs.length c,c))=pA qs qs.length from rfl];rw[lC (pA qs qs.length) (pA qs qs.length) (λl _=>nn l) (λl _ h=>h),qH (hp.map _),s_]
 have LZ:∀r∈dh qs (aI qs.length),r.1.den∣(mB qs qs.length).natAbs:=λr hr=>by
  obtain⟨h1,_,h3⟩:=wV r hr;rw[h3,<- xW h1];exact tV (by left)
 have SM:∀r∈dh qs (aI qs.length),Sm 23 r.1:=λr hr=>by
  have hd:=YX (by left) (LZ r hr);have h0:=(wV r hr).2.1;have h1:r.1<=1:=by
   rw[<- Cz];exact(fM (λx hx=>by obtain⟨s,hs,rfl⟩:=List.mem_map.mp hx;exact(wV s hs).2.1) (XM hr)).2
  have n1:=lM h1;have n0:=qL (Y9 h0);have:(9 ^ 7:Nat)<2 ^ 23:=by decide
  constructor<;>left
 refine⟨K.l1,by left,⟨(mB qs qs.length).natAbs,by left,?_,LZ⟩,by left,λr hr=>⟨qQ _ _ (wV r hr).1,l2 _ (wV r hr).1⟩,λr hr=>(wV r hr).2.1,SM,Cz,?_,23,⟨λq hq=>?_,?_,?_⟩⟩
 ·have:(2:Nat) ^ 64<2 ^ 250:=by decide
  have:(9 ^ 7:Nat)<2 ^ 64:=by decide
  left
 ·unfold dh;rw[List.map_map];have:((λx:Row=>x.2)∘λc=>(pA qs qs.length c,c))=id:=rfl;rw[this,List.map_id];exact(eG l1).filter _
 ·obtain⟨r,hr,rfl⟩:=List.mem_map.mp hq;exact SM r hr
 ·unfold dH;rw[List.length_map];left
 ·unfold dH;rw[List.length_map];left
theorem yA:D1 qs.length (dh qs (aI qs.length))=qs:=by
 have hp:(aX (aI qs.length)).Perm (aI qs.length):=XB _ _;have nn:=λc=>yY K.q0 K.q1 c qs.length (Xp _);refine YM λg=>?_;by_cases hg:g<qs.length
 ·rw[Bx _ hg,List.getElem?_eq_getElem hg];congr 1;unfold qI dh dH;rw[List.filter_map,List.map_map];rw[show((λx:Row=>x.1)∘λc=>(pA qs qs.length c,c))=pA qs qs.length from rfl,jY,gZ (G:=gA qs qs.length g)]
  ·rw[lC (pA qs qs.length) (gA qs qs.length g) (λl _=>nn l) (λl _ h=>by unfold gA;rw[h];simp),qH (hp.map _),z_ qs g _ hg];simp[hg]
  ·intro c _;unfold gA;have:(fG (g:Int) g∘λc=>(pA qs qs.length c,c)) c=decide ((g:Int)∈c):=by
    show(decide ((g:Int)∈c)&&decide ((g:Int)∈c))=_;rw[Bool.and_self]
   rw[this];by_cases h:(g:Int)∈c<;>simp[h]
 ·rw[List.getElem?_eq_none (by rw[Bw];left),List.getElem?_eq_none (by left)]
end
noncomputable def lT(n:Nat)(N:Int):ab:=((List.range n).filter λ(k:Nat)=>decide (N / 2 ^ k % 2=1)).map λ(k:Nat)=>(k:Int)
theorem tZ:∀n<8,(aI n).isPerm ((List.range (2 ^ n)).map λ(c:Nat)=>lT n (c:Int))=true:=by decide +kernel
noncomputable def uq:aj:=[.asg (.nm 5) (.bin .add (.int 1) (.bin .mod (.v 1) (.int 9))),.app 3 (.call 201 [(.bin .mod (.bin .fdiv (.v 1) (.int 9)) (.bin .add (.v 5) (.int 1))),(.v 5)]),.asg (.nm 1) (.bin .fdiv (.v 1) (.int 90))]
theorem r9(Φ:ba)(CL:jv (Φ 201))(c0 c2:aM)(r:aZ):∀(ks:aa) (acc:aC) (N:Int) (c4 c5:aM),acc.length+ks.length<=1000->(∀q∈acc,0<=q/\q<=1/\q.den<=9) ->
  ∃(qs:aC) (c1 Rv MP:aM),eu (λd ρ=>cg (.nm 4) d ρ) (λρ=>bT Φ uq ρ) ks (c0::some (.int N)::c2::some (.lst .ow (bQ acc))::c4::c5::r)=ok (.nx,c0::c1::c2::some (.lst .ow (bQ qs))::Rv::MP::r)/\qs.length=acc.length+ks.length/\∀q∈qs,0<=q/\q<=1/\q.den<=9
 |[],acc,N,c4,c5,_,hs=>⟨acc,some (.int N),c4,c5,rfl,rfl,hs⟩
 |k::ks,acc,N,c4,c5,h,hs=>by
  simp only[List.length_cons]at h;obtain⟨a1,a2⟩:=jh N (b:=9) (by decide);obtain⟨a3,a4⟩:=jh (N.fdiv 9) (b:=1+N.fmod 9+1) (by left);have e:=CL ((N.fdiv 9).fmod (1+N.fmod 9+1)) (1+N.fmod 9) (by left) (tm (by left));have hq:0<=Rat.divInt ((N.fdiv 9).fmod (1+N.fmod 9+1)) (1+N.fmod 9)/\Rat.divInt ((N.fdiv 9).fmod (1+N.fmod 9+1)) (1+N.fmod 9)<=1/\(Rat.divInt ((N.fdiv 9).fmod (1+N.fmod 9+1)) (1+N.fmod 9)).den<=9:=by
   generalize (N.fdiv 9).fmod (1+N.fmod 9+1)=t at *;generalize hb:1+N.fmod 9=b at *;have hB:(0:Rat)<(b:Rat):=by have:=Rat.intCast_lt_intCast (a:=0) (b:=b);simpa using this.mpr (by left)
   refine⟨?_,?_,XO (i7 (t:=t) (b:=b) (by left)).2 (by left)⟩
   ·rw[Rat.divInt_eq_div,Rat.div_def];exact Rat.mul_nonneg (by exact_mod_cast a3) (Y9 (Rat.inv_pos.mpr hB))
   ·rw[Rat.divInt_eq_div,Rat.div_def];have h1:(t:Rat)<=(b:Rat):=by exact_mod_cast (by left:t<=b)
    have:=X3 h1 (Y9 (Rat.inv_pos.mpr hB))
    rwa [Rat.mul_inv_cancel _ (Rat.ne_of_gt hB)]at this
  have zL:1+N.fmod 9+1≠0:=by left
  generalize SN:Rat.divInt ((N.fdiv 9).fmod (1+N.fmod 9+1)) (1+N.fmod 9)=q at *;obtain⟨qs,c1,d4,d5,e',l,s⟩:=r9 Φ CL c0 c2 r ks (acc++[q]) (N.fdiv 90) (some k) (some (.int (1+N.fmod 9))) (by simp;left) (λp hp=>by
   rcases List.mem_append.mp hp with hp|hp
   ·exact hs p hp
   ·have:p=q:=by simpa using hp
    subst this;exact hq)
  have hc:acc.length<eO:=by show _<1000000;left
  refine⟨qs,c1,d4,d5,fS (ρ1:=c0::some (.int N)::c2::some (.lst .ow (bQ acc))::some k::c5::r) (by simp) (ρ2:=c0::some (.int (N.fdiv 90))::c2::some (.lst .ow (bQ (acc++[q])))::some k::some (.int (1+N.fmod 9))::r) ?_ e',by rw[l];simp;left,s⟩;have b1:=MV (i:=N.fdiv 9) zL;simp[uq,e,hc,b1]
noncomputable def qg:aj:=[.ifs (.cmp .Ct (.v 10) (.v 8)) [.asg (.nm 9) (.call 203 [(.v 9),(.ix (.v 3) (.v 10))])] [.asg (.nm 9) (.call 203 [(.v 9),(.call 222 [(.tup [(.int 1),(.int 1)]),(.ix (.v 3) (.v 10))])])]]
theorem td:D.tup [.int 1,.int 1]=qD 1:=rfl
theorem rq(Φ:ba)(o9:k_ (Φ 203))(rn:pV (Φ 222))(c0 c1 c2 c4 c5 c6 c7 rT rS:aM){qs:aC}(hq:∀q∈qs,Sm 4 q)(h7:qs.length<=7)(lot:ab):∀(k j:Nat) (n8:aM),j+k=qs.length->Sm (6*j+1) (pA qs j lot) ->
  ∃Iy,eu (λd ρ=>cg (.nm 10) d ρ) (λρ=>bT Φ qg ρ) ((List.range' j k).map λ(i:Nat)=>D.int (i:Int)) [c0,c1,c2,some (.lst .ow (bQ qs)),c4,c5,c6,c7,some (.tup (au lot)),some (qD (pA qs j lot)),n8,rT,rS]=ok (.nx,[c0,c1,c2,some (.lst .ow (bQ qs)),c4,c5,c6,c7,some (.tup (au lot)),some (qD (pA qs qs.length lot)),Iy,rT,rS])
 |0,j,n8,hj,_=>⟨n8,by rw[show j=qs.length by left];rfl⟩
 |k+1,j,n8,hj,hs=>by
  have b9:j<qs.length:=by left
  have eg:qs.getD j 0=qs[j]:=by simp[b9]
  have sq:=hq _ (XF b9);have s1:Sm 1 (1:Rat):=by constructor<;>decide
  have s2:Sm 6 (1 - qs[j]):=(s1.sub sq).mono (by decide);have Tw:vN (bQ qs) (j:Int)=ok (qD qs[j]):=by
   have:=mC (ds:=bQ qs) (n:=j) (d:=qD qs[j]) (by rw[BN,List.getElem?_eq_getElem b9];rfl);simpa using this
  have wU:Sm (6*(j+1)+1) (pA qs (j+1) lot):=by
   show Sm _ (pA qs j lot*qA (qs.getD j 0) j lot);rw[eg];unfold qA;split
   ·exact(hs.mul sq).mono (by left)
   ·exact(hs.mul s2).mono (by left)
  obtain⟨Jv,ih⟩:=rq Φ o9 rn c0 c1 c2 c4 c5 c6 c7 rT rS hq h7 lot k (j+1) (some (.int j)) (by left) wU;have e1:=o9 (pA qs j lot) qs[j] (hs.mono (by left)) (sq.mono (by decide));have e2:=rn 1 qs[j] (s1.mono (by decide)) (sq.mono (by decide));have e3:=o9 (pA qs j lot) (1 - qs[j]) (hs.mono (by left)) (s2.mono (by decide));have ei:=EC (j:Int) lot;have ep:pA qs (j+1) lot=pA qs j lot*(if (j:Int)∈lot then qs[j]else 1 - qs[j]):=by
   show pA qs j lot*qA (qs.getD j 0) j lot=_;rw[eg];rfl
  refine⟨Jv,?_⟩;rw[List.range'_succ,List.map_cons];refine fS (ρ1:=[c0,c1,c2,some (.lst .ow (bQ qs)),c4,c5,c6,c7,some (.tup (au lot)),some (qD (pA qs j lot)),some (.int j),rT,rS]) (by simp) (ρ2:=[c0,c1,c2,some (.lst .ow (bQ qs)),c4,c5,c6,c7,some (.tup (au lot)),some (qD (pA qs (j+1) lot)),some (.int j),rT,rS]) ?_ ih;rw[ep];generalize pA qs j lot=P at *;generalize qs[j]=q at *;by_cases h:(j:Int)∈lot
  ·rw[decide_eq_true h]at ei;simp[qg,ei,Tw,e1,h]
  ·rw[decide_eq_false h]at ei;simp[qg,ei,Tw,td,e2,e3,h]
noncomputable def rG:CE:=.comp 1 (.nm 0) [7] .kI [(.v 2)] [(.cmp .eq (.bin .band (.bin .shr (.v 1) (.v 0)) (.int 1)) (.int 1))] (.v 0)
def qh:aj:=[.asg (.nm 8) (.bf .tuple1 [rG]),.asg (.nm 9) (.tup [(.int 1),(.int 1)]),.fr (.nm 10) (.kI (.v 2)) qg,.ifs (.cmp .gt (.ix (.v 9) (.int 0)) (.int 0)) [.app 6 (.tup [(.v 8),(.v 9)])] []]
theorem GG(Φ:ba){n:Nat}(hn:n<=12)(N:Int)(a b d e f g:aM)(r:aZ):bA Φ rG (a::b::some (.int n)::d::e::f::g::some (.int N)::r)=ok (.lst .ow (au (lT n N))):=by
 unfold rG;rw[dN (xs:=[.int n]) (ds:=((List.range n).filter λ(k:Nat)=>decide (N / 2 ^ k % 2=1)).map λ(k:Nat)=>D.int (k:Int)) (by simp) (uY Φ (by left) (by left)) ?_ ?_]
 ·simp[aV,au,lT]
 ·rw[Int.toNat_natCast];refine e_ λk hk=>⟨[some (.int k),some (.int N)],by simp[bE],?_,λ_=>by simp⟩
  have e1:cv .shr (.int N) (.int k)=ok (.int (N / 2 ^ k)):=by rw[MT (by left)];simp
  simp[e1,IB]
 ·have:=Yw (λ(k:Nat)=>decide (N / 2 ^ k % 2=1)) (List.range n);simp at this ⊢;exact cT (by left)
def ir(qs:aC)(ls:ak):aa:=ls.map λc=>.tup [.tup (au c),qD (pA qs qs.length c)]
noncomputable def iD(qs:aC)(ls:ak):ak:=ls.filter λc=>decide (0<pA qs qs.length c)
theorem C7(qs:aC)(ls:ak):(ir qs ls).length=ls.length:=YG ..
theorem mw(Φ:ba)(o9:k_ (Φ 203))(rn:pV (Φ 222))(c0 c1 c4 c5 rT rS:aM){qs:aC}(hq:∀q∈qs,Sm 4 q)(h7:qs.length<=7):∀(k j:Nat) (ls:ak) (c7 c8 c9 n8:aM),j+k<=1000->ls.length<=j ->
  ∃Iw Wv Wu Iy,eu (λd ρ=>cg (.nm 7) d ρ) (λρ=>bT Φ qh ρ) ((List.range' j k).map λ(i:Nat)=>D.int (i:Int)) [c0,c1,some (.int qs.length),some (.lst .ow (bQ qs)),c4,c5,some (.lst .ow (ir qs ls)),c7,c8,c9,n8,rT,rS]=ok (.nx,[c0,c1,some (.int qs.length),some (.lst .ow (bQ qs)),c4,c5,some (.lst .ow (ir qs (ls++iD qs ((List.range' j k).map λ(c:Nat)=>lT qs.length c)))),Iw,Wv,Wu,Iy,rT,rS])
 |0,j,ls,c7,c8,c9,n8,_,_=>⟨c7,c8,c9,n8,by simp[iD,CO]⟩
 |k+1,j,ls,c7,c8,c9,n8,hj,hl=>by
  have e1:=GG Φ (n:=qs.length) (by left) (j:Int) c0 c1 (some (.lst .ow (bQ qs))) c4 c5 (some (.lst .ow (ir qs ls))) [c8,c9,n8,rT,rS];obtain⟨Jv,e2⟩:=rq Φ o9 rn c0 c1 (some (.int qs.length)) c4 c5 (some (.lst .ow (ir qs ls))) (some (.int j)) rT rS hq h7 (lT qs.length j) qs.length 0 n8 (by left) (show Sm 1 (1:Rat) by constructor<;>decide);have hit:=GU (Φ:=Φ) (a:=.v 2) (ρ:=[c0,c1,some (.int qs.length),some (.lst .ow (bQ qs)),c4,c5,some (.lst .ow (ir qs ls)),some (.int j),some (.tup (au (lT qs.length j))),some (qD 1),n8,rT,rS]) (n:=qs.length) (by simp) (by left) (by left);rw[Int.toNat_natCast,List.range_eq_range']at hit;have hf:=iV (t:=.nm 10) (b:=qg) hit e2;rw[List.range'_succ,List.map_cons,List.map_cons];have hc:ls.length<eO:=by show _<1000000;left
  generalize hL:lT qs.length j=L at *;generalize hP:pA qs qs.length L=P at *;have Vn:∀ms,iD qs (L::ms)=if 0<P then L::iD qs ms else iD qs ms:=λms=>by
   unfold iD;rw[List.filter_cons,hP];by_cases z:0<P<;>simp[z]
  rw[Vn];by_cases z:0<P
  ·obtain⟨d7,d8,d9,Il,ih⟩:=mw Φ o9 rn c0 c1 c4 c5 rT rS hq h7 k (j+1) (ls++[L]) (some (.int j)) (some (.tup (au L))) (some (qD P)) Jv (by left) (by simp;left);refine⟨d7,d8,d9,Il,?_⟩;rw[if_pos z];have ea:ls++L::iD qs ((List.range' (j+1) k).map λ(c:Nat)=>lT qs.length c)=ls++[L]++iD qs ((List.range' (j+1) k).map λ(c:Nat)=>lT qs.length c):=by simp
   rw[ea];refine fS (ρ1:=[c0,c1,some (.int qs.length),some (.lst .ow (bQ qs)),c4,c5,some (.lst .ow (ir qs ls)),some (.int j),c8,c9,n8,rT,rS]) (by simp) (ρ2:=[c0,c1,some (.int qs.length),some (.lst .ow (bQ qs)),c4,c5,some (.lst .ow (ir qs (ls++[L]))),some (.int j),some (.tup (au L)),some (qD P),Jv,rT,rS]) ?_ ih;have hd:ir qs (ls++[L])=ir qs ls++[.tup [.tup (au L),qD P]]:=by unfold ir;rw[List.map_append,List.map_singleton,hP]
   have mZ:(ir qs ls).length<eO:=by rw[C7];exact hc
   have z':=(j4 P).mpr z;rw[hd];generalize ir qs ls=DD at *;simp[qh,GO Φ rG _ rfl,e1,td,hf,z',mZ]
  ·obtain⟨d7,d8,d9,Il,ih⟩:=mw Φ o9 rn c0 c1 c4 c5 rT rS hq h7 k (j+1) ls (some (.int j)) (some (.tup (au L))) (some (qD P)) Jv (by left) (by left);refine⟨d7,d8,d9,Il,?_⟩;rw[if_neg z];refine fS (ρ1:=[c0,c1,some (.int qs.length),some (.lst .ow (bQ qs)),c4,c5,some (.lst .ow (ir qs ls)),some (.int j),c8,c9,n8,rT,rS]) (by simp) (ρ2:=[c0,c1,some (.int qs.length),some (.lst .ow (bQ qs)),c4,c5,some (.lst .ow (ir qs ls)),some (.int j),some (.tup (au L)),some (qD P),Jv,rT,rS]) ?_ ih;have z':¬ 0<P.num:=λy=>z ((j4 P).mp y);simp[qh,GO Φ rG _ rfl,e1,td,hf,z']
def F9:aj:=[.asg (.nm 1) (.call 200 [(.v 0),(.int 0)]),.asg (.nm 2) (.bin .add (.int 1) (.bin .mod (.v 1) (.int 7))),.asg (.nm 1) (.bin .fdiv (.v 1) (.int 7)),.asg (.nm 3) (.lst []),.fr (.nm 4) (.kI (.v 2)) uq]
def F8:aj:=[.asg (.nm 6) (.lst []),.fr (.nm 7) (.kI (.bin .shl (.int 1) (.v 2))) qh]
noncomputable def vw:CE:=.comp 2 (.tp [0,1]) [] .seq [(.cL 1019 [(.v 6)])] [] (.tup [(.v 1),(.v 0)])
def F7:aj:=[.asg (.nm 6) (.tup [(.v 2),vw]),.asg (.nm 11) (.bf .list1 [(.v 3)]),.asg (.nm 12) (.call 39 [(.v 11)])]
noncomputable def KU:aj:=[.ifs (.or [(.not (.pY (.v 12) .tuple)),(.cmp .ne (.v 12) (.v 6)),(.cmp .ne (.v 11) (.v 3)),(.cmp .ne (.call 20 [(.v 12)]) (.v 3))]) [.ret (.bl false)] [],.mut 1014 12 [(.int 1)],.ret (.cmp .eq (.call 39 [(.v 11)]) (.v 6))]
def js:aj:=F9++(F8++(F7++KU))
theorem Ic(qs:aC)(ls:ak):ir qs ls=(ls.map λc=>((c,[(pA qs qs.length c).num,((pA qs qs.length c).den:Int)]):jz)).map gm:=by
 unfold ir;rw[List.map_map];rfl
theorem yk(qs:aC)(hn:ls.Nodup):(il (ls.map λc=>((c,[(pA qs qs.length c).num,((pA qs qs.length c).den:Int)]):jz))).map gm=ir qs (aX ls):=by
 have hp:(aX ls).Perm ls:=XB _ _;have e1:(ls.map λc=>((c,[(pA qs qs.length c).num,((pA qs qs.length c).den:Int)]):jz)).map (·.1)=ls:=by rw[List.map_map];exact List.map_id ls
 unfold il;rw[e1,List.map_map];unfold ir;refine XZ λc hc=>?_;have hc:=hp.mem_iff.mp hc;have:=lG (cs:=ls.map λc=>((c,[(pA qs qs.length c).num,((pA qs qs.length c).den:Int)]):jz)) (c:=(c,[(pA qs qs.length c).num,((pA qs qs.length c).den:Int)])) (by rw[e1];exact hn) (XM hc);show gm (c,sR _ c)=_;rw[show sR _ c=_ from this];rfl
theorem FF(Φ:ba)(z5:Φ 1019=jG)(qs:aC)(hn:ls.Nodup)(hl:ls.length<1000)(a b c d e f:aM)(r:aZ):bA Φ vw (a::b::c::d::e::f::some (.lst .ow (ir qs ls))::r)=ok (.lst .ow (bX ((aX ls).map λc=>(pA qs qs.length c,c)))):=by
 have hp:(aX ls).Perm ls:=XB _ _;have e1:(ls.map λc=>((c,[(pA qs qs.length c).num,((pA qs qs.length c).den:Int)]):jz)).map (·.1)=ls:=by rw[List.map_map];exact List.map_id ls
 have md:∀g ls,aB g (ir qs ls)=ir qs ls:=λg ls=>cD g (λc=>by simp) ls;have e2:∀f,Φ 1019 [.lst f (ir qs ls)]=ok (.lst .ow (ir qs (aX ls))):=λf=>by
  rw[z5,<- yk qs hn,Ic qs ls];show(match mV ((ls.map λc=>((c,[(pA qs qs.length c).num,((pA qs qs.length c).den:Int)]):jz)).map gm)with|some cs=>if (cs.map λc:jz=>c.1).Nodup/\cs.length<1000 then ok (D.lst .ow ((il cs).map gm))else none|none=>none)=_;rw[qE];show(if ((ls.map λc=>((c,[(pA qs qs.length c).num,((pA qs qs.length c).den:Int)]):jz)).map (·.1)).Nodup/\(ls.map λc=>((c,[(pA qs qs.length c).num,((pA qs qs.length c).den:Int)]):jz)).length<1000 then _ else _)=_;rw[e1,if_pos ⟨hn,by rw[List.length_map];exact hl⟩]
 unfold vw;rw[dN (xs:=[.lst .ow (ir qs (aX ls))]) (items:=(aX ls).map λc=>.tup [.tup (au c),qD (pA qs qs.length c)]) (ds:=bX ((aX ls).map λc=>(pA qs qs.length c,c))) ?_ ?_ ?_ ?_]
 ·rw[i_]
 ·generalize hX:ir qs ls=X at *;generalize ir qs (aX ls)=Y at *;have m:=md bD ls;rw[hX]at m;simp[m,e2]
 ·rw[d_,md];rfl
 ·unfold bX;rw[List.map_map];exact cS λc hc=>⟨[some (.tup (au c)),some (qD (pA qs qs.length c))],by simp[bE],by simp,by simp[rD]⟩
 ·rw[uz,List.length_map];exact cT (by have:=hp.length_eq;left)
theorem GD{M:Nat}(h:M<=2 ^ 7):(M:Int)<=1000000:=by
 have e:(2 ^ 7:Nat)=128:=by decide
 rw[e]at h;left
theorem Lr(Φ:ba)(VY:r_ (Φ 20))(VV:vT (Φ 39))(QT:AD (Φ 200))(CL:jv (Φ 201))(o9:k_ (Φ 203))(rn:pV (Φ 222))(VH:Φ 1014=Dq)(z5:Φ 1019=jG)(ns:ab):mk Φ 1 13 js [.lst .sc (au ns)]=ok (.bl true):=by
 have Rp:=QT ns 0 (by decide);generalize vG ns 0=N at *;obtain⟨m1,m2⟩:=jh N (b:=7) (by decide);obtain⟨n,hn⟩:∃n:Nat,1+N.fmod 7=(n:Int):=⟨(1+N.fmod 7).toNat,by left⟩
 have n1:1<=n:=by left
 have n7:n<=7:=by left
 have MA:Φ 200 [.lst .sc (au ns),.int 0]=ok (.int N):=Rp;have Qu:=GU (Φ:=Φ) (a:=.v 2) (ρ:=[some (.lst .sc (au ns)),some (.int (N.fdiv 7)),some (.int n),some (.lst .ow (bQ [])),none,none,none,none,none,none,none,none,none]) (n:=n) (by simp) (by left) (by left);obtain⟨qs,c1,c4,c5,Wc,lA,sA⟩:=r9 Φ CL (some (.lst .sc (au ns))) (some (.int n)) [none,none,none,none,none,none,none] ((List.range (n:Int).toNat).map λ(k:Nat)=>D.int (k:Int)) [] (N.fdiv 7) none none (by simp;left) (by simp);have hA:=iV (t:=.nm 4) (b:=uq) Qu Wc;have lq:qs.length=n:=by simpa using lA
 subst lq;have K:RP qs:=⟨n1,n7,λq h=>(sA q h).1,λq h=>(sA q h).2.1,λq h=>(sA q h).2.2⟩
 have sm:∀q∈qs,Sm 4 q:=λq h=>by
  have a1:=lM (K.q1 q h);have a2:=qL (K.q0 q h);have a3:=K.dn q h;constructor<;>simp<;>left
 have gA:bT Φ F9 [some (.lst .sc (au ns)),none,none,none,none,none,none,none,none,none,none,none,none]=ok (.nx,[some (.lst .sc (au ns)),c1,some (.int qs.length),some (.lst .ow (bQ qs)),c4,c5,none,none,none,none,none,none,none]):=by
  simp only[BM]at hA;simp[F9,MA,hn,hA]
 have p7:2 ^ qs.length<=2 ^ 7:=Xy (by decide) n7;have bs:cv .shl (.int 1) (.int (qs.length:Int))=ok (.int ((2 ^ qs.length:Nat):Int)):=by
  rw[MU (by
   unfold i9;simp only[Bool.and_eq_true,decide_eq_true_eq];exact⟨⟨by left,by left⟩,by decide⟩),Int.toNat_natCast,Int.one_mul]
  simp
 have Hc:=GU (Φ:=Φ) (a:=.bin .shl (.int 1) (.v 2)) (ρ:=[some (.lst .sc (au ns)),c1,some (.int qs.length),some (.lst .ow (bQ qs)),c4,c5,some (.lst .ow (ir qs [])),none,none,none,none,none,none]) (n:=((2 ^ qs.length:Nat):Int)) (by simp[bs]) (Int.natCast_nonneg _) (GD p7);rw[Int.toNat_natCast,List.range_eq_range']at Hc;obtain⟨c7,c8,c9,n8,Tu⟩:=mw Φ o9 rn (some (.lst .sc (au ns))) c1 c4 c5 none none sm n7 (2 ^ qs.length) 0 [] none none none none (by left) (by simp);rw[<- List.range_eq_range',List.nil_append]at Tu;rw[<- List.range_eq_range']at Hc;have hB:=iV (t:=.nm 7) (b:=qh) Hc Tu;have rb:(aI qs.length).Perm ((List.range (2 ^ qs.length)).map λ(c:Nat)=>lT qs.length (c:Int)):=List.isPerm_iff.mp (tZ qs.length (by left));generalize sv:(List.range (2 ^ qs.length)).map (λ(c:Nat)=>lT qs.length (c:Int))=cs at *;obtain⟨l1,l2,l3⟩:=dE qs.length;have cn:cs.Nodup:=rb.nodup_iff.mp l1;have cl:cs.length<=128:=by have:=rb.length_eq;left
 have pn:(iD qs cs).Nodup:=cn.filter _;have pl:(iD qs cs).length<1000:=by
  have:=Yw (λc=>decide (0<pA qs qs.length c)) cs;show(cs.filter _).length<1000;left
 have H_:((aX (iD qs cs)).map λc=>(pA qs qs.length c,c))=dh qs (aI qs.length):=by
  rw[sY qs l1 rb];unfold iD dh;rw[oE cn]
 have gB:bT Φ F8 [some (.lst .sc (au ns)),c1,some (.int qs.length),some (.lst .ow (bQ qs)),c4,c5,none,none,none,none,none,none,none]=ok (.nx,[some (.lst .sc (au ns)),c1,some (.int qs.length),some (.lst .ow (bQ qs)),c4,c5,some (.lst .ow (ir qs (iD qs cs))),c7,c8,c9,n8,none,none]):=by
  have:ir qs []=[]:=rfl;rw[this]at hB;rw[F8,dq];simp[hB]
 have eS:=FF Φ z5 qs pn pl (some (.lst .sc (au ns))) c1 (some (.int qs.length)) (some (.lst .ow (bQ qs))) c4 c5 [c7,c8,c9,n8,none,none];rw[H_]at eS;have Ro:=VV qs K;rw[ID]at Ro;have TY:=VY 23 qs.length _ (yB K);rw[yA K]at TY;generalize dh qs (aI qs.length)=rs at *;have gC:bT Φ F7 [some (.lst .sc (au ns)),c1,some (.int qs.length),some (.lst .ow (bQ qs)),c4,c5,some (.lst .ow (ir qs (iD qs cs))),c7,c8,c9,n8,none,none]=ok (.nx,[some (.lst .sc (au ns)),c1,some (.int qs.length),some (.lst .ow (bQ qs)),c4,c5,some (.tup [.int qs.length,.lst .ow (bX rs)]),c7,c8,c9,n8,some (.lst .ow (bQ qs)),some (.tup [.int qs.length,.lst .ow (bX rs)])]):=by
  generalize ir qs (iD qs cs)=DD at *;simp[F7,GO Φ vw _ rfl,eS,Ro]
 have R_:∀f,df 40 (.lst f (bQ qs))=true:=λf=>by rw[Cc];exact kM (λq=>Ea 38 q) qs
 have Nv:∀f,df 40 (.tup [.int qs.length,.lst f (bX rs)])=true:=λf=>by
  have:(bX rs).all (df 38)=true:=kM (λr=>K4 36 r) rs;simp[this]
 have Wq:∀f g,fg .ne (.lst f (bQ qs)) (.lst g (bQ qs))=ok (.bl false):=λf g=>by
  rw[Iu (R_ f) (R_ g)];show ok (D.bl (!dG (qs.map qD) (qs.map qD)))=_;rw[gO Ez];simp
 have ct:∀f g,jy (.tup [.int qs.length,.lst f (bX rs)]) (.tup [.int qs.length,.lst g (bX rs)])=true:=λf g=>by
  rw[vp,fE,fE,vq,CV];simp
 have k1:∀f g,fg .ne (.tup [.int qs.length,.lst f (bX rs)]) (.tup [.int qs.length,.lst g (bX rs)])=ok (.bl false):=λf g=>by rw[Iu (Nv f) (Nv g),ct];rfl
 have k2:∀f g,fg .eq (.tup [.int qs.length,.lst f (bX rs)]) (.tup [.int qs.length,.lst g (bX rs)])=ok (.bl true):=λf g=>by rw[Iv (Nv f) (Nv g),ct]
 have m1:=om (Φ:=Φ) (p:=1014) (i:=12) (es:=[(.int 1)]) (ρ:=[some (.lst .sc (au ns)),c1,some (.int qs.length),some (.lst .ow (bQ qs)),c4,c5,some (.tup [.int qs.length,.lst .ow (bX rs)]),c7,c8,c9,n8,some (.lst .ow (bQ qs)),some (.tup [.int qs.length,.lst .ow (bX rs)])]) (xs:=[.int 1]) (d':=.tup [.int qs.length,.lst .ow []]) rfl rfl rfl (by rw[VH];rfl);simp only[List.set]at m1;have Rq:Φ 20 [.tup [.int qs.length,.lst .fz (bX rs)]]=ok (.lst .ow (bQ qs)):=TY;rw[mk_eq (show[D.lst .sc (au ns)].length=1 from rfl)];show m7 (bT Φ js [some (.lst .sc (au ns)),none,none,none,none,none,none,none,none,none,none,none,none])=_;rw[js,kD Φ _ _ _ _ gA,kD Φ _ _ _ _ gB,kD Φ _ _ _ _ gC];simp[KU,dt,k1,Wq,m1,Ro,Rq,k2]
end DI
end
namespace PySem.W.Fast
def tw8227775118122841302:=0
def tw1874909626397774756:=0
def tw16427857213369831271:=0
def tw12294778721100325257:=0
def tw3719240063106665373:=0
def tw9527551855616282188:=0
def tw5120782574724782960:=0
def tw15803677707634437529:=0
def tw3041997010189458019:=0
def tw9282968015270491771:=0
def tw213939944607365390:=0
def tw8862919721242155515:=0
def tw2254920229682963709:=0
def tw13334323520792386492:=0
def tw17820933517451215327:=0
def tw2498886862973380040:=0
def tw13607702254531652889:=0
def tw17390200269838750199:=0
def tw13007003903633784506:=0
def tw10954591783045578594:=0
def tw616981900324594309:=0
def tw17330748067960864097:=0
def tw18398531663747381242:=0
def tw14344889008890415653:=0
def tw11708462903596342433:=0
def tw13853235088740600742:=0
def tw461986116537053186:=0
def tw8879820709496353451:=0
def tw6626662620984592383:=0
def tw5347538918707324288:=0
def tw9722270649936500161:=0
def tw18298516042015053369:=0
def tw10274377165584460283:=0
def tw5030606217265387543:=0
def tw8390952542693460878:=0
def tw18329577115854365031:=0
def tw7496771123369614071:=0
def tw12518051303429959346:=0
def tw4118750312969849519:=0
def tw17080595274538540873:=0
def tw6980514785875477563:=0
def tw3180485148761230361:=0
def tw15654893558535865189:=0
def tw15935828474810478511:=0
def tw797822067643672634:=0
def tw7284312466972560767:=0
def tw12178481324164135385:=0
def tw14994637305998440801:=0
def tw1025394235968744104:=0
def tw16651632223410651171:=0
def tw7623031733168719905:=0
def tw15409333301137878912:=0
def tw8030680730755806778:=0
def tw6539248702371468632:=0
def tw14534183878313144851:=0
def tw1443297816554570604:=0
def tw18100772841753339348:=0
def tw3712142584807336405:=0
def tw578847361257614321:=0
def tw9833584454586549108:=0
def tw12495879944421876083:=0
def tw13046932207096559032:=0
def tw12715624565384660716:=0
def tw13784002409986585434:=0
def tw16783764381015419728:=0
def tw16432202133268795347:=0
def tw15909296685164307816:=0
def tw4239292318022902083:=0
def tw9868215449975669653:=0
def tw12931812530421989306:=0
def tw4438610097179179931:=0
def tw15222358389679486958:=0
def tw1244184216106188243:=0
def tw4924720825542995105:=0
def tw310739694119576077:=0
def tw3685579732362227508:=0
def tw11966450486708501432:=0
def tw18326083212653025429:=0
def tw6692500288780028434:=0
def tw16553246392078709937:=0
def tw15502032016848579852:=0
def tw8922322844143958736:=0
def tw3015404919161532029:=0
def tw8655795927458987583:=0
def tw16134396620513983055:=0
def tw12320090046697927657:=0
def tw323260446424775288:=0
def tw17399585845650441983:=0
def tw9543394374942687688:=0
def tw6170586288049138236:=0
def tw6271978929560141370:=0
def tw8429969695501874102:=0
def tw5963340975263886572:=0
def tw10464596905346749659:=0
def tw10362384209670884925:=0
def tw7968882367168770672:=0
def tw13347851026454473519:=0
def tw10157030198616581422:=0
def tw11273322752305610725:=0
def tw9850906133177153304:=0
def tw14882466468035723483:=0
end PySem.W.Fast
namespace Asm
open PySem PySem.Spec PyProof.Rows L2 DI
noncomputable def top(i:Nat):Stmt:=PySem.Challenge.pw_sharesample_k14_houses_alone.main.body.getD i (.Pass ⟨0,0,0,0⟩)
def px:Px:=⟨λn sc bl e=>if n=1019 then gS "sorted" sc bl e else if n=1020 then pG true sc bl e else if n=1022 then vF sc bl e else if n=1030 then pF sc bl e else if n=1032 then t8 sc bl e else if n=1034 then pE sc bl e else if n=1035 then gS "sorted" sc bl e else if n=1040 then vE sc bl e else none,λn sc bl e=>if n=1000 then gR sc bl e else if n=1001 then gS "enumerate" sc bl e else if n=1003 then jn sc bl e else none,λn sc bl e=>if n=1010 then kU sc bl e else if n=1014 then pI sc bl e else if n=1033 then kW sc bl e else none⟩
noncomputable def PT:ba
 |1000=>A4
 |1001=>vt
 |1003=>eY
 |1010=>lZ
 |1014=>Dq
 |1019=>jG
 |1020=>(cutD true)
 |1022=>Jq
 |1030=>vx
 |1032=>xo
 |1033=>nX
 |1034=>mn
 |1035=>jP
 |1040=>Ll
 |_=>λ_=>none
theorem pr(F:ba)(i:Nat)(m:aG):uf px (xm PT F i m)/\IH px (xm PT F i m):=⟨⟨(λX sc bl k L p e args he F cs hs=>Ej he (λhe=>yj rfl L he hs) λhe=>Ej he (λhe=>Im rfl L he hs) λhe=>Ej he (λhe=>Mn rfl L he hs) λhe=>Ej he (λhe=>C9 rfl L he hs) λhe=>Ej he (λhe=>Ij rfl L he hs) λhe=>Ej he (λhe=>Ak rfl L he hs) λhe=>Ej he (λhe=>Aj rfl L he hs) λhe=>Ej he (λhe=>Lj rfl L he hs) λhe=>nomatch he),(λX sc bl k L p e args he F cs tg ht hs pins s σ H R τ ρ xs d items I Si b6 ed ei Rr hR=>by
  dsimp only[px]at he;by_cases hp:p=1000
  ·subst hp;rw[if_pos rfl]at he;exact ES rfl L he ht hs I Si b6 ed ei Rr hR
  rw[if_neg hp]at he;clear hp;by_cases hp:p=1001
  ·subst hp;rw[if_pos rfl]at he;exact CW rfl L he ht hs I Si b6 ed ei Rr hR
  rw[if_neg hp]at he;clear hp;by_cases hp:p=1003
  ·subst hp;rw[if_pos rfl]at he;exact xp rfl L he ht hs I Si b6 ed ei Rr hR
  rw[if_neg hp]at he;clear hp;cases he)⟩,⟨(λX sc bl k L hN tL p st x pos args he i hi hl pe F cs hs=>PN he (λhe=>Cu rfl L hN tL he hi hl pe hs) λhe=>PN he (λhe=>Iq rfl L hN tL he hi hl pe hs) λhe=>PN he (λhe=>C8 rfl L hN tL he hi hl pe hs) λhe=>nomatch he)⟩⟩
noncomputable def xt(F:ba)(i a b:Nat)(c:aj):ba:=xm PT F i (mk F a b c)
noncomputable def BL:ao:=["abs","all","bool","enumerate","int","isinstance","len","list","range","set","sorted","sum","tuple","zip"]
noncomputable def CC:List (Str×GK):=[("MOST_ALONE",GK.i 7),("MOST_HOUSES",GK.i 12)]
noncomputable def iP:ba:=xm PT PT 0 λ_=>none
noncomputable def iO:ba:=xt iP 200 2 4 (dO)
noncomputable def jW:ba:=xt iO 201 2 4 (jr)
noncomputable def jV:ba:=xt jW 203 2 2 (kX 201)
noncomputable def dz:ba:=xt jV 222 2 2 (pQ 201)
noncomputable def fu:ba:=xt dz 1 2 3 (cE)
noncomputable def fZ:ba:=xt fu 2 2 3 (b_)
noncomputable def iQ:ba:=xt fZ 18 3 3 (vK)
noncomputable def ft:ba:=xt iQ 0 1 1 (fU)
noncomputable def iR:ba:=xt ft 3 1 1 (bF)
noncomputable def dP:ba:=xt iR 23 1 1 (kY)
noncomputable def dS:ba:=xt dP 24 2 2 (pP)
noncomputable def f9:ba:=xt dS 39 1 8 (k8)
noncomputable def mH:ba:=xt f9 43 2 2 (cF)
noncomputable def gW:ba:=xt mH 12 2 2 (jt)
noncomputable def dQ:ba:=xt gW 44 1 3 (fc)
noncomputable def gU:ba:=xt dQ 9 1 3 (b7)
noncomputable def eQ:ba:=xt gU 10 2 2 (fb)
noncomputable def fm:ba:=xt eQ 14 1 4 (hV)
noncomputable def iS:ba:=xt fm 15 1 2 (dB)
noncomputable def mI:ba:=xt iS 45 1 4 (fV)
noncomputable def fY:ba:=xt mI 11 2 2 (fH)
noncomputable def dR:ba:=xt fY 16 1 1 (eA)
noncomputable def fq:ba:=xt dR 17 1 1 (cV)
noncomputable def fX:ba:=xt fq 19 3 4 (kZ)
noncomputable def AH:ba:=xt fX 20 1 2 (jq)
def OG:=FE iP
def Ff:=BE iO
def OF:=BC jW (f:=201) Ff
def OE:=FD jV (f:=201) Ff
def t1:=jI dz
def t2:=mT fu t1
def UA:=Kq fZ ⟨rfl,rfl,rfl,rfl⟩ t2
def t0:=sU iQ
def t3:=mS ft t0 t1
def Ux:=BD iR t3
def Uw:=Ko dP Ux
def Uv:=BG dS ⟨rfl,rfl,rfl,rfl⟩ UA Uw rfl rfl rfl rfl
def RY:=oI f9 t0
def UE:=yw mH t3 RY
def Uu:=qu gW rfl rfl rfl
def t9:=ki dQ t1
def UH:=qt gU
def RZ:=wo eQ t9 UH rfl
def UD:=mR fm RZ
def Ut:=sV iS t0 UE UD Uu
def UG:=yx mI RY
def UC:=oH fY UG Ut
def UB:=kj dR UC
def Uz:=BF fq t2
def Uy:=yv fX RZ UB Uz
theorem wH:∀ns:ab,(mk AH 1 13 (js)) [.lst .sc (au ns)]=ok (.bl true):=Lr AH Uy Uv OG Ff OF OE rfl rfl
theorem Ir:N4 (top 36) ["_law_script","_law_number","_law_many","_law_shares","_law_k","_law_bottom","_law_due","_law_code","_law_lot","_law_chance","_law_house","_law_handed","_law_found"] ["_law_script"] [(20,"lot_shares"),(39,"alone_drawing"),(200,"_law_cell"),(201,"_law_frac"),(203,"_law_mul"),(222,"_law_sub")] BL CC px (js)=true:=by decide +kernel
theorem all_mk{l:PySem.W.OpenLaw}{w:World}{K:ai}{h:Heap}{mg:aU}{fa:Addr}{RU RT:Value}(X:K.In h)(G:h.Ns mainGlobals mg)(VB:mg "law" = some (.ref fa))
  (a0:Df K "_law_cell" (top 32))
  (a1:Df K "_law_frac" (top 33))
  (a2:Df K "_law_mul" (top 34))
  (a3:Df K "_law_sub" (top 35))
  (a4:Df K "common_divisor" (top 7))
  (a5:Df K "fraction_of" (top 8))
  (a6:Df K "drawing_of" (top 23))
  (a7:Df K "is_whole" (top 6))
  (a8:Df K "is_fraction" (top 9))
  (a9:Df K "is_share" (top 28))
  (a10:Df K "is_share_list" (top 29))
  (a11:Df K "alone_drawing" (top 30))
  (a12:Df K "are_houses" (top 14))
  (a13:Df K "is_row" (top 16))
  (a14:Df K "rows_rise" (top 17))
  (a15:Df K "common_bottom" (top 10))
  (a16:Df K "tops_over" (top 11))
  (a17:Df K "weighed_lots" (top 18))
  (a18:Df K "sums_to_one" (top 19))
  (a19:Df K "is_drawn" (top 20))
  (a20:Df K "is_lot" (top 15))
  (a21:Df K "is_drawing" (top 21))
  (a22:Df K "check_drawing" (top 22))
  (a23:Df K "joint_share" (top 24))
  (a24:Df K "lot_shares" (top 25))
  (a25:Df K "law" (top 36))
  (z:cY (λy=>PySem.W.nsIn K mainGlobals y=some none) BL)
  (q0:PySem.W.nsIn K mainGlobals "MOST_ALONE" = some (some RU)) (r0:RelV (.int 7) RU)
  (q1:PySem.W.nsIn K mainGlobals "MOST_HOUSES" = some (some RT)) (r1:RelV (.int 12) RT) :
  ∃fd:FuncData,(∀(s:Shared) (v:Value),BindsTo s fd ⟨[v],[]⟩ [("_law_script",v)])/\∀base:Heap,K.In base->base.Ns mainGlobals mg->ie l.prog w K mg base xP 27 fa fd ["_law_script"] (Bu K 1 oW):=by
 obtain⟨f,fd,Fu,a⟩:=a25;have e:=VB.symm.trans (Zm X G a);cases e;obtain⟨oc,od,kV,dc,pm,an,cd,ct,sl,rfl,_,_⟩:=id Fu.ex;have Y:=cY.nn X G z;have x0:∃u,mg "MOST_ALONE" = some u/\AX K (GK.i 7) u:=⟨_,Zm X G q0,r0⟩
 have x1:∃u,mg "MOST_HOUSES" = some u/\AX K (GK.i 12) u:=⟨_,Zm X G q1,r1⟩
 refine⟨PySem.W.fnOf "law" "law" (eZ (top 36)) (cU (top 36)) (bz (top 36)) .none kV dc pm an cd ct,λs v=>.of_eq rfl,λbase _ _=>?_⟩;have N:=@Wb l.prog w K h base mg BL CC px PT X G pr Y ⟨x0,x1,jx⟩;have E0:=N 1 iP a0 ["_law_script","_law_k","_law_cell_here","_law_number"] 2 [] (dO) jx;have E1:=N 2 iO a1 ["_law_top","_law_bottom","_law_one","_law_other"] 2 [] (jr) jx;have E2:=N 3 jW a2 ["_law_one","_law_other"] 2 [(201,"_law_frac")] (kX 201) ⟨E1.u,jx⟩;have E3:=N 4 jV a3 ["_law_one","_law_other"] 2 [(201,"_law_frac")] (pQ 201) ⟨E1.u,jx⟩;have E4:=N 5 dz a4 ["one","other","rest"] 2 [] (cE) jx;have E5:=N 6 fu a5 ["top","bottom","divisor"] 2 [(1,"common_divisor")] (b_) ⟨E4.u,jx⟩;have E6:=N 7 fZ a6 ["many","weights","bottom"] 3 [(2,"fraction_of")] (vK) ⟨E5.u,jx⟩;have E7:=N 8 iQ a7 ["thing"] 1 [] (fU) jx;have E8:=N 9 ft a8 ["thing"] 1 [(0,"is_whole"),(1,"common_divisor")] (bF) ⟨E7.u,E4.u,jx⟩;have E9:=N 10 iR a9 ["thing"] 1 [(3,"is_fraction")] (kY) ⟨E8.u,jx⟩;have WO:=N 11 dP a10 ["thing","most"] 2 [(23,"is_share")] (pP) ⟨E9.u,jx⟩;have WN:=N 12 dS a11 ["shares","weights","bottom","house","share","after","lot","weight"] 1 [(18,"drawing_of"),(24,"is_share_list")] (k8) ⟨E6.u,WO.u,jx⟩;have T8:=N 13 f9 a12 ["thing","many"] 2 [(0,"is_whole")] (cF) ⟨E7.u,jx⟩;have WM:=N 14 mH a13 ["thing","many"] 2 [(3,"is_fraction"),(43,"are_houses")] (jt) ⟨E8.u,T8.u,jx⟩;have WL:=N 15 gW a14 ["rows","ahead","behind"] 1 [] (fc) jx;have WK:=N 16 dQ a15 ["some","bottom","part"] 1 [(1,"common_divisor")] (b7) ⟨E4.u,jx⟩;have WJ:=N 17 gU a16 ["some","bottom"] 2 [] (fb) jx;have T7:=N 18 eQ a17 ["rows","chances","lots","bottom"] 1 [(9,"common_bottom"),(10,"tops_over")] (hV) ⟨WK.u,WJ.u,jx⟩;have WI:=N 19 fm a18 ["rows","weighed"] 1 [(14,"weighed_lots")] (dB) ⟨T7.u,jx⟩;have WH:=N 20 iS a19 ["thing","many","rows","row"] 1 [(0,"is_whole"),(12,"is_row"),(15,"sums_to_one"),(44,"rows_rise")] (fV) ⟨E7.u,WM.u,WI.u,WL.u,jx⟩;have WG:=N 21 mI a20 ["thing","many"] 2 [(43,"are_houses")] (fH) ⟨T8.u,jx⟩;have WE:=N 22 fY a21 ["thing"] 1 [(11,"is_lot"),(45,"is_drawn")] (eA) ⟨WG.u,WH.u,jx⟩;have WD:=N 23 dR a22 ["thing"] 1 [(16,"is_drawing")] (cV) ⟨WE.u,jx⟩;have WC:=N 24 fq a23 ["weighed","one","other","having"] 3 [(2,"fraction_of")] (kZ) ⟨E5.u,jx⟩;have WB:=N 25 fX a24 ["drawing","weighed"] 1 [(14,"weighed_lots"),(17,"check_drawing"),(19,"joint_share")] (jq) ⟨T7.u,WD.u,WC.u,jx⟩;exact Wa 26 AH oW Fu Ir (pr _ _ _) Y ⟨x0,x1,jx⟩ ⟨WB.u,WN.u,E0.u,E1.u,E2.u,E3.u,jx⟩ (zm λns _=>(tf _ _ (wH ns)).2)
theorem walk{l:PySem.W.OpenLaw}{q:az}{loose:ao}{XP:(aU)->Heap->Prop}{YP:World->Heap->Prop}{d:DefRec}{K:Params->ai}(hn:l.most=some 63)(LY:d.params.defaults=[])
  (hY:∀(w:World) (h:Heap),YP w h->(K w.params).In h)
  (F:∀(w:World) (mg:aU) (fa:Addr) (h:Heap),(K w.params).In h->h.Ns mainGlobals mg->mg d.name=some (.ref fa) ->
   ∃fd:FuncData,(∀(s:Shared) (u:Value),BindsTo s fd ⟨[u],[]⟩ [("_law_script",u)])/\∀base:Heap,(K w.params).In base->base.Ns mainGlobals mg->ie l.prog w (K w.params) mg base xP 27 fa fd ["_law_script"] (Bu (K w.params) 1 oW)) :
  PySem.W.WalkO q loose XP YP l.row.toRowW d [] (λf vs=>PySem.call f vs) :=
 L2.Ba (n:=63) (k:=27) (x:="_law_script") (CX:=λ_=>xP) (sp:=λw=>Bu (K w.params) 1 oW) hn (by decide) LY ⟨rfl,by decide,by decide⟩ hY F (λw H a ns hl hO hS=>GF (K w.params) H a ns oW (Cj hl) hO hS) λ_ _ _ _ _ z=>z
end Asm
end
open PySem PySem.W PyProof.Rows
set_option maxRecDepth 100000 in
set_option maxHeartbeats 0 in
theorem PySem.Challenge.cw_sharesample_k14_houses_alone_holds : PySem.Challenge.rw_sharesample_k14_houses_alone.Holds := by
 w_on;o_law;k_head;(case hw=>w_witness2)
 k_fill
 refine Asm.walk (l:=PySem.Challenge.rw_sharesample_k14_houses_alone) rfl rfl (fun w h Y=>PySem.W.kIn_of Y) ?F
 case F =>
  intro w mg fa h KX G hmg
  refine' Asm.all_mk KX G hmg ?a0 ?a1 ?a2 ?a3 ?a4 ?a5 ?a6 ?a7 ?a8 ?a9 ?a10 ?a11 ?a12 ?a13 ?a14 ?a15 ?a16 ?a17 ?a18 ?a19 ?a20 ?a21 ?a22 ?a23 ?a24 ?a25 ?zz ?q0 ?r0 ?q1 ?r1
  case a0 | a1 | a2 | a3 | a4 | a5 | a6 | a7 | a8 | a9 | a10 | a11 | a12 | a13 | a14 | a15 | a16 | a17 | a18 | a19 | a20 | a21 | a22 | a23 | a24 | a25 =>
   refine' DI.dmk ?x ?y ?z ?w
   case x | y | z | w=>k_is
  (case zz=>refine' ⟨?_,?_,?_,?_,?_,?_,?_,?_,?_,?_,?_,?_,?_,?_,trivial⟩ <;> show PySem.W.nsIn _ _ _ = some none <;> k_is)
  (case q0=>k_is);(case r0=>exact ⟨_,rfl⟩)
  (case q1=>k_is);(case r1=>exact ⟨_,rfl⟩)

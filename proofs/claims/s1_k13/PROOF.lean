import PyProof.Rows.All
import Wide.All
import OpenK.AllK
import Wide.FinOn
import Lean
import PyProof.EqAt
import PyProof.EqKinds
import PyProof.TupleCall
import PyProof.NeKinds
import KE.BitLaws
import PyProof.SumWalkG
import PyProof.ConsumeWalk
import PyProof.WalksMore
import KE.KSortedM
import PyProof.Rows.SetFrom
import PyProof.CompUse
import KE.KSortTup
import PyProof.ZipIter
import PyProof.ListRange
import PyProof.SliceList
import PyProof.DictRoadsH
import PyProof.DictKinds
import PyProof.DictIter
import PyProof.Rows.DictUnroll
import KE.KDictSum
import PyProof.Draws
import PyProof.EnumMake
import PyProof.DictItems
import PyProof.DictItemsLoops
import PyProof.Rows.TupDisplay
import KE.KDictList
import PySem.Challenge.RW_sharesample_k13_houses_in_pairs
set_option bootstrap.genMatcherCode false
set_option genSizeOf false
set_option genSizeOfSpec false
set_option Elab.async false
set_option linter.all false
set_option maxRecDepth 100000
local macro_rules | `(tactic| left) => `(tactic| first | assumption | exact Nat.zero_le _ | exact Int.natCast_nonneg _ | exact Int.ofNat_lt.mpr (by assumption) | exact Nat.le_of_lt (by assumption) | exact Nat.le_trans (by assumption) (by assumption) | exact Nat.lt_of_lt_of_le (by assumption) (by assumption) | omega)
noncomputable section
abbrev U6:=@PySem.wpAny_bind
abbrev U7:=@of_decide_eq_true
abbrev U8:=@Bool.false_ne_true
abbrev U9:=@PySem.wpAny_pure
abbrev U_:=@PySem.Heap.get?_push_of_some
abbrev Va:=@List.mem_cons_of_mem
abbrev Vb:=@List.mem_cons_self
abbrev Vc:=@Nat.le_refl
abbrev Vd:=@PySem.Heap.lt_size
abbrev Ve:=@PySem.Heap.get?_push_size
abbrev Vf:=@Nat.lt_of_lt_of_le
abbrev Vg:=@List.mem_append_right
abbrev Vh:=@Nat.pow_le_pow_right
abbrev Vi:=@Nat.ne_of_lt
abbrev Vj:=@List.getElem?_eq_getElem
abbrev Vk:=@Option.some.inj
abbrev Vl:=@List.map_congr_left
abbrev Vm:=@PySem.W.mg_none_of
abbrev Vn:=@PySem.wpAny_mono
abbrev Vo:=@Nat.lt_of_le_of_lt
abbrev Vp:=@Nat.le_trans
abbrev Vq:=@PySem.wpAny_newObj_type
abbrev Vr:=@List.mem_of_getElem?
abbrev Vs:=@Nat.zero_le
abbrev Vt:=@PySem.wpAny_call_entry
abbrev Vu:=@Nat.lt_succ_of_lt
abbrev Vv:=@PyProof.Rows.callWith_type1
abbrev Vw:=@List.mem_append_left
abbrev Vx:=@Rat.intCast_lt_intCast
abbrev Vy:=@List.mergeSort_perm
abbrev Vz:=@Nat.lt_irrefl
abbrev VA:=@if_pos
abbrev VB:=@PySem.wpAny_callSpecial?_slot
abbrev VC:=@PySem.F.slot_dict_keyiterator_next
abbrev VD:=@PySem.wpAny_typeNameOfWhole_itemiter
abbrev VE:=@PySem.wpAny_truthy_bool
abbrev VF:=@PySem.wpAny_typeNameOfWhole_keyiter
abbrev VG:=@PySem.F.slot_dict_itemiterator_next
abbrev VH:=@PySem.mem_of_lookup
abbrev VI:=@PySem.Heap.SameBut.update
abbrev VJ:=@Nat.ne_of_gt
abbrev VL:=@decide_eq_false
abbrev VM:=@PySem.wpAny_passesOwn
abbrev VN:=@PySem.wpAny_holding
abbrev VO:=@PySem.wpAny_dictEntries
abbrev VP:=@PySem.wpAny_typeNameOf_itemiter
abbrev VQ:=@PySem.wpAny_field
abbrev VR:=@Int.mul_fdiv_cancel_left
abbrev VS:=@PySem.wpAny_typeNameOf_keyiter
abbrev VT:=@PySem.wpAny_Call_Name_kw
abbrev VU:=@PySem.W.kia_one
abbrev VV:=@PySem.wpAny_dictEpoch
abbrev VW:=@Int.mul_le_mul_of_nonneg_right
abbrev VX:=@PySem.wpAny_setField_rec
abbrev VY:=@congrArg
abbrev VZ:=@Rat.mul_lt_mul_of_pos_right
abbrev V0:=@PySem.call_meets
abbrev V1:=@if_neg
abbrev V2:=@Nat.le_of_dvd
abbrev V3:=@PySem.sizeLine_eq
abbrev V4:=@Int.le_refl
abbrev V5:=@Nat.mul_le_mul_left
abbrev V6:=@PySem.SeqAt.EqAt.same
abbrev V7:=@List.length_map
abbrev V8:=@Array.getElem?_eq_getElem
abbrev V9:=@PySem.SeqAt.EqAt.int_int
abbrev V_:=@decide_eq_true
abbrev Wa:=@List.nodup_nil
abbrev Wb:=@PySem.wpAny_setField
abbrev Wc:=@PySem.F.plainAttrs_list
abbrev Wd:=@PyProof.Rows.subscriptTail_builtinR
abbrev We:=@PySem.Heap.get?_update_other
abbrev Wf:=@PySem.Calls.callWith_builtin
abbrev Wg:=@Nat.le_succ
abbrev Wh:=@Int.fmod_nonneg_of_pos
abbrev Wi:=@PySem.wpAny_isOneOf_itemiter
abbrev Wj:=@List.cons.inj
abbrev Wk:=@PySem.wpAny_attempt
abbrev Wl:=@beq_self_eq_true
abbrev Wm:=@List.getElem_mem
abbrev Wn:=@Nat.lt_succ_self
abbrev Wo:=@PySem.F.slot_tuple_lt
abbrev Wq:=@PySem.codeAny_mono
abbrev Wr:=@PySem.SeqAt.EqAt.none_bool
abbrev Ws:=@PySem.SeqAt.EqAt.bool_none
abbrev Wt:=@PySem.SeqAt.EqAt.bool_bool
abbrev Wu:=@Int.mul_ne_zero
abbrev Wv:=@Nat.div_le_self
abbrev Ww:=@PySem.SeqAt.EqAt.none_int
abbrev Wx:=@PySem.SeqAt.EqAt.bool_int
abbrev Wz:=@PySem.SeqAt.EqAt.int_none
abbrev WA:=@PySem.SeqAt.EqAt.int_bool
abbrev WB:=@PySem.Heap.size_push
abbrev WC:=@Eq.symm
abbrev WD:=@PySem.wpAny_fieldsOf
abbrev WE:=@Int.mul_le_mul
abbrev WG:=@Rat.mul_pos
abbrev WH:=@Int.fmod_lt_of_pos
abbrev WI:=@PySem.tupleKind_room_in1
abbrev WJ:=@PySem.wpAny_standAt
abbrev WK:=@PySem.wpAny_newList
abbrev WL:=@Nat.le_succ_of_le
abbrev WM:=@List.ext_getElem?
abbrev WN:=@PySem.wpAny_pyIter_slot
abbrev WO:=@Ne.symm
abbrev WQ:=@List.getElem_inj
abbrev WR:=@List.ext_getElem
abbrev WS:=@Int.mul_nonneg
abbrev WT:=@Nat.one_le_pow
namespace L2
open PySem PySem.Spec PyProof.Rows
noncomputable abbrev Key:=Sum Int Str
def Cz:Key->Value->Bool
 | .inl k,v=>Value.isInt k v
 | .inr x,v=>Value.isStrOf x v
def Nl(w:World):Key->Int
 | .inl k=>hashInt k
 | .inr x=>hashStr w x
theorem aY:∀ {k:Key} {v:Value},Cz k v=true->(∃ i t,k=Sum.inl i/\v=Value.int i t)\/(∃ x t,k=Sum.inr x/\v=Value.str x t)
 | .inl i,v,h=>by
  obtain⟨t,e⟩:=Value.isInt_shape (k:=i) (v:=v) h;exact .inl ⟨i,t,rfl,e⟩
 | .inr x,v,h=>by
  obtain⟨t,e⟩:=Value.isStrOf_shape (x:=x) (v:=v) h;exact .inr ⟨x,t,rfl,e⟩
theorem EA(a b:Int):decide ((Sum.inl a:Key)=Sum.inl b)=(a==b):=by
 by_cases e:a=b
 ·subst e;simp
 ·have h:¬ (Sum.inl a:Key)=Sum.inl b:=λq=>e (Sum.inl.inj q);rw[decide_eq_false h];exact(beq_eq_false_iff_ne.mpr e).symm
theorem Ex(a b:Str):decide ((Sum.inr a:Key)=Sum.inr b)=decide (a=b):=by
 by_cases e:a=b
 ·subst e;simp
 ·have h:¬ (Sum.inr a:Key)=Sum.inr b:=λq=>e (Sum.inr.inj q);rw[decide_eq_false h,decide_eq_false e]
theorem Ez(a:Int)(b:Str):decide ((Sum.inl a:Key)=Sum.inr b)=false:=VL (λq=>nomatch q)
theorem Ey(a:Str)(b:Int):decide ((Sum.inr a:Key)=Sum.inl b)=false:=VL (λq=>nomatch q)
def tX(prog:Program)(w:World):PySem.KeyKind prog w Key where
 is:=Cz
 hash:=Nl w
 inj:=λv a b ha hb=>by
  rcases aY ha with ⟨i,t,rfl,rfl⟩ | ⟨x,t,rfl,rfl⟩
  ·rcases aY hb with ⟨j,u,rfl,e⟩ | ⟨y,u,rfl,e⟩
   ·injection e with e1 _;rw[e1]
   ·exact nomatch e
  ·rcases aY hb with ⟨j,u,rfl,e⟩ | ⟨y,u,rfl,e⟩
   ·exact nomatch e
   ·injection e with e1 _;rw[e1]
 byValue:=λk v h=>by
  rcases aY h with ⟨i,t,rfl,rfl⟩ | ⟨x,t,rfl,rfl⟩<;>rfl
 pyHash:=λhv h=>by
  rcases aY hv with ⟨i,t,rfl,rfl⟩ | ⟨x,t,rfl,rfl⟩
  ·exact wpAny_pyHash_int h
  ·exact wpAny_pyHash_str h
 eqBool:=λhu hv h=>by
  rcases aY hu with ⟨i,t,rfl,rfl⟩ | ⟨x,t,rfl,rfl⟩
  ·rcases aY hv with ⟨j,u,rfl,rfl⟩ | ⟨y,u,rfl,rfl⟩
   ·rw[EA]at h;exact wpAny_eqBool_int h
   ·rw[Ez]at h;exact SeqAt.EqAt.int_str i t y u _ _ _ _ h
  ·rcases aY hv with ⟨j,u,rfl,rfl⟩ | ⟨y,u,rfl,rfl⟩
   ·rw[Ey]at h;exact SeqAt.EqAt.str_int x t j u _ _ _ _ h
   ·rw[Ex]at h;exact wpAny_eqBool_str h
 «strs»:=λk x t v h=>by
  rcases aY h with ⟨i,u,rfl,e⟩ | ⟨y,u,rfl,e⟩
  ·exact nomatch e
  ·injection e with e1 _
   subst e1;cases v<;>rfl
end L2
namespace L2
open PySem PySem.Spec PyProof.Rows
inductive V where
 | aL | bl (b:Bool) | int (i:Int) | str (x:Str) | O3 (b:Array UInt8) | Kj (b:UInt64) | ref (a:Addr) | ty (n:String)
 deriving DecidableEq
noncomputable def RelV:V->Value->Prop
 | .aL,u=>u=Value.none
 | .bl b,u=>u=Value.bool b
 | .int i,u=>∃ t,u=Value.int i t
 | .str x,u=>∃ t,u=Value.str x t
 | .O3 b,u=>∃ t,u=Value.bytes b t
 | .Kj b,u=>∃ t,u=Value.float b t
 | .ref a,u=>u=Value.ref a
 | .ty n,u=>u=Value.type n
abbrev Vals:List V->List Value->Prop:=Paired RelV
theorem Vals.length{xs:List V}{us:List Value}(r:Vals xs us):xs.length=us.length:=Paired.length r
theorem Vals.get:∀ {xs:List V} {us:List Value} {i:Nat} {x:V},Vals xs us->xs[i]?=some x->∃ u,us[i]?=some u/\RelV x u
 | _,_,_,_,.nil,e=>by simp at e
 | _,_,0,_,.cons r _,e=>by simp at e;subst e;exact⟨_,rfl,r⟩
 | _,_,i+1,x,.cons _ t,e=>by
  obtain⟨u,h1,h2⟩:=Vals.get (i:=i) (x:=x) t (by simpa using e);exact⟨u,by simpa using h1,h2⟩
theorem Vals.set{x:V}{u:Value}(r:RelV x u):∀ {xs:List V} {us:List Value} (i:Nat),Vals xs us->Vals (xs.set i x) (us.set i u)
 | _,_,_,.nil=>.nil
 | _,_,0,.cons _ t=>.cons r t
 | _,_,i+1,.cons q t=>.cons q (Vals.set r i t)
theorem Vals.append:∀ {xs ys:List V} {us ws:List Value},Vals xs us->Vals ys ws->Vals (xs++ys) (us++ws)
 | _,_,_,_,.nil,s=>s
 | _,_,_,_,.cons r t,s=>.cons r (Vals.append t s)
def l4:Option V->Option Value->Prop
 | some v,some u=>RelV v u
 | none,none=>True
 | _,_=>False
def KV{κ:Type}:List (κ×V)->List (κ×Value)->Prop:=Paired λ(p:κ×V) (q:κ×Value)=>p.1=q.1/\RelV p.2 q.2
def kV:Key->V
 | .inl i=>.int i
 | .inr x=>.str x
inductive HO where
 | lst (xs:List V)
 | tup (xs:List V)
 | dK (lj:List (Key×V)) | dT (lj:List (List Key×V))
 | set (S:Int->Bool) (n:Nat)
 | ins (C dx:Addr) (fs:List (Str×V))
 | own (x:Addr)
 | xd (fs:List (Str×V))
 | met (f x:Addr)
 | k8 (lo hi:Int)
 | fK (o:Obj) (u:HO)
 | B8 (ps:Array Value)
 | ext (φ:Heap->Prop)
noncomputable abbrev Hp:=Addr->Option HO
noncomputable def upd(H:Hp)(a:Addr)(o:HO):Hp:=λb=>if b=a then some o else H b
variable {H:Hp}
theorem aB{a:Addr}{o:HO}:upd H a o a=some o:=by unfold upd;rw[if_pos rfl]
theorem aq{a b:Addr}{o:HO}(h:b≠a):upd H a o b=H b:=by unfold upd;rw[if_neg h]
theorem a_{a b:Addr}{o:HO}(h:H a=some o)(h':H b=none):a≠b:=by
 intro e;subst e;rw[h]at h';cases h'
section
variable (P:Program)(w:World)
def bB(H:Hp)(h:Heap)(a:Addr):HO->Prop
 | .lst xs=>xs.length<=sizeLine/\∃(af:List Value) (n:Nat),Vals xs af/\h.get? a=some { cls:=.type "list",data:=.seq af.toArray n }
 | .tup xs=>xs.length<=sizeLine/\∃ af:List Value,Vals xs af/\IsTup h a af.toArray
 | .dK lj=>lj.length<=sizeLine/\(a==sysModules)=false/\∃ vs,KV lj vs/\h.DictOf (tX P w) a vs
 | .dT lj=>lj.length<=sizeLine/\(a==sysModules)=false/\∃ xs:List (List Key×Addr×Value),
   Paired (λ(p:List Key×V) (q:List Key×Addr×Value)=>p.1=q.1/\H q.2.1=some (.tup (p.1.map kV))/\RelV p.2 q.2.2) lj xs /\
   ∃ o es ep,h.get? a=some o/\o.ExactDict/\o.data=.dict es ep/\es.toList=xs.map (entryOfKey (tupleKind (tX P w)))/\(xs.map (·.1)).Nodup
 | .set S n=>h.SetOf (intKind P w) a S n
 | .ins C dx fs=>H dx=some (.own a)/\fs.length<=1000/\dx≠a/\h.get? a=some (PySem.W.instObj C dx) /\
   ∃ mA,h.Ns1 dx mA/\(∀ f,l4 (fs.lookup f) (mA f))/\PySem.Within mA (fs.map (·.1))
 | .own _=>∃ o,h.get? a=some o
 | .xd fs=>∃ mA,h.Ns1 a mA/\∀ f,l4 (fs.lookup f) (mA f)
 | .k8 lo hi=>∃ t u v,h.get? a=some { cls:=.type "range",data:=.fields #[.int lo t,.int hi u,.int 1 v] }
 | .fK o u=>h.get? a=some o/\bB H h a u
 | .B8 ps=>h.get? a=some { cls:=.none,data:=.fields ps }
 | .met f x=>h.get? a=some (PySem.W.methodObj (.ref f) (.ref x))
 | .ext φ=>φ h/\(∃ o,h.get? a=some o)/\∀ h1 h2:Heap,φ h1->(∀ o,h1.get? a=some o->h2.get? a=some o)->φ h2
def jv(H:Hp)(h:Heap):Prop:=∀ a o,H a=some o->bB P w H h a o
end
section
variable {P:Program}{w:World}{H H':Hp}{h h':Heap}{a:Addr}{o:HO}
theorem bB.lt(x:bB P w H h a o):a<h.objs.size:=by
 cases o with
 | lst xs=>obtain⟨_,_,_,_,e⟩:=x;exact Vd e
 | tup xs=>obtain⟨_,_,_,p⟩:=x;exact p.lt
 | dK lj=>obtain⟨_,_,_,_,o,_,_,e,_⟩:=x;exact Vd e
 | dT lj=>obtain⟨_,_,_,_,o,_,_,e,_⟩:=x;exact Vd e
 | set S n=>obtain⟨o,_,_,_,e,_⟩:=x;exact Vd e
 | ins C dx fs=>obtain⟨_,_,_,e,_⟩:=x;exact Vd e
 | own y=>obtain⟨_,e⟩:=x;exact Vd e
 | xd fs=>obtain⟨_,⟨_,_,_,e,_⟩,_⟩:=x;exact Vd e
 | k8 lo hi=>obtain⟨_,_,_,e⟩:=x;exact Vd e
 | fK ob u=>obtain⟨e,_⟩:=x;exact Vd e
 | B8 ps=>exact Vd (show h.get? a=some _ from x)
 | met f y=>exact Vd (show h.get? a=some _ from x)
 | ext φ=>obtain⟨_,⟨_,e⟩,_⟩:=x;exact Vd e
theorem Paired.IQ{α β:Type}{F G:α->β->Prop}:∀ {l₁:List α} {l₂:List β},Paired F l₁ l₂->(∀ a b,F a b->G a b)->Paired G l₁ l₂
 | _,_,.nil,_=>.nil
 | _,_,.cons r t,f=>.cons (f _ _ r) (Paired.IQ t f)
theorem bB.i6(x:bB P w H h a o)(k:∀ b u,(b=a\/H b=some (.own a))->h.get? b=some u->h'.get? b=some u)
  (ho:∀ b,H b=some (.own a)->H' b=some (.own a)) (ht:∀ b xs,H b=some (.tup xs)->H' b=some (.tup xs)):bB P w H' h' a o:=by
 induction o with
 | lst xs=>obtain⟨z,af,n,r,e⟩:=x;exact⟨z,af,n,r,k _ _ (.inl rfl) e⟩
 | tup xs=>obtain⟨z,af,r,ob,e,c⟩:=x;exact⟨z,af,r,ob,k _ _ (.inl rfl) e,c⟩
 | dK lj=>obtain⟨z,y,vs,r,ob,es,ep,e,c⟩:=x;exact⟨z,y,vs,r,ob,es,ep,k _ _ (.inl rfl) e,c⟩
 | dT lj =>
  obtain⟨z,y,xs,r,ob,es,ep,e,c⟩:=x;exact⟨z,y,xs,Paired.IQ r λp q z=>⟨z.1,ht _ _ z.2.1,z.2.2⟩,ob,es,ep,k _ _ (.inl rfl) e,c⟩
 | set S n=>obtain⟨ob,es,ep,t,e,c⟩:=x;exact⟨ob,es,ep,t,k _ _ (.inl rfl) e,c⟩
 | ins C dx fs =>
  obtain⟨d,z,ne,e,mA,⟨od,es,ep,e2,c⟩,r⟩:=x;exact⟨ho _ d,z,ne,k _ _ (.inl rfl) e,mA,⟨od,es,ep,k _ _ (.inr d) e2,c⟩,r⟩
 | own y=>obtain⟨ob,e⟩:=x;exact⟨ob,k _ _ (.inl rfl) e⟩
 | xd fs=>obtain⟨mA,⟨od,es,ep,e,c⟩,r⟩:=x;exact⟨mA,⟨od,es,ep,k _ _ (.inl rfl) e,c⟩,r⟩
 | k8 lo hi=>obtain⟨t,u,v,e⟩:=x;exact⟨t,u,v,k _ _ (.inl rfl) e⟩
 | fK ob u ih=>obtain⟨e,q⟩:=x;exact⟨k _ _ (.inl rfl) e,ih q⟩
 | B8 ps =>
  have e:h.get? a=some { cls:=.none,data:=.fields ps }:=x;show h'.get? a=some { cls:=.none,data:=.fields ps };exact k a _ (.inl rfl) e
 | met f y =>
  have e:h.get? a=some (PySem.W.methodObj (.ref f) (.ref y)):=x;show h'.get? a=some (PySem.W.methodObj (.ref f) (.ref y));exact k a _ (.inl rfl) e
 | ext φ=>obtain⟨p,⟨o,e⟩,st⟩:=x;exact⟨st _ _ p λo q=>k _ _ (.inl rfl) q,⟨o,k _ _ (.inl rfl) e⟩,st⟩
theorem jv.lt(x:jv P w H h)(e:H a=some o):a<h.objs.size:=(x a o e).lt
theorem jv.fresh(x:jv P w H h)(e:h.objs.size<=a):H a=none:=by
 cases q:H a with
 | none=>rfl
 | some u=>exact absurd (Vf (x.lt q) e) (Vz _)
theorem jv.kept(x:jv P w H h)(k:∀ b u,h.get? b=some u->h'.get? b=some u):jv P w H h':=λa o e =>
 (x a o e).i6 (λb u _ q=>k b u q) (λ_ q=>q) λ_ _ q=>q
theorem jv.laid(x:jv P w H h)(k:∀ b u,h.get? b=some u->h'.get? b=some u)(hp:h.objs.size<=a)(new:bB P w (upd H a o) h' a o):jv P w (upd H a o) h':=λb u e=>by
 have hn:=x.fresh hp;by_cases hb:b=a
 ·subst hb;rw[aB]at e;cases e;exact new
 ·rw[aq hb]at e;exact(x b u e).i6 (λc v _ q=>k c v q) (λc q=>by rw[aq (a_ q hn)];exact q) λc xs q=>by rw[aq (a_ q hn)];exact q
end
noncomputable def Rd(H:Hp)(a:Addr)(u:HO):Prop:=H a=some u\/∃ o,H a=some (.fK o u)
variable {h:Heap}
theorem Rd.ok{P:Program}{w:World}{a:Addr}{u:HO}(r:Rd H a u)(x:jv P w H h):bB P w H h a u:=by
 rcases r with r | ⟨o,r⟩
 ·exact x a u r
 ·obtain⟨_,q⟩:=x a _ r;exact q
noncomputable def L6:Option HO->Prop
 | some (.lst _)=>True
 | some (.dK _)=>True
 | some (.dT _)=>True
 | some (.set _ _)=>True
 | some (.ins _ _ _)=>True
 | some (.ext _)=>True
 | _=>False
section
variable {P:Program}{w:World}{H:Hp}{h h':Heap}{x e:Addr}{o':HO}
theorem jv.write(ok:jv P w H h)(mu:L6 (H x))(he:e=x\/H e=some (.own x))(k:∀ b u,b≠e->h.get? b=some u->h'.get? b=some u)(GS:∃ u,h'.get? e=some u)
  (new:bB P w (upd H x o') h' x o'):jv P w (upd H x o') h':=λb u q=>by
 have IF:∀ c y,H c=some (.own y)->c≠x:=λc y r z=>by subst z;rw[r]at mu;exact mu
 have M_:∀ c xs,H c=some (.tup xs)->c≠x:=λc xs r z=>by subst z;rw[r]at mu;exact mu
 by_cases hb:b=x
 ·subst hb;rw[aB]at q;cases q;exact new
 ·rw[aq hb]at q;by_cases Fe:b=e
  ·have q':H b=some (.own x):=by
    rcases he with z | z
    ·exact absurd (Fe.trans z) hb
    ·rw[Fe];exact z
   rw[q]at q';cases q';obtain⟨v,hv⟩:=GS;exact⟨v,by rw[Fe];exact hv⟩
  ·refine(ok b u q).i6 (λc v hc r=>k c v ?_ r) (λc r=>by rw[aq (IF c b r)];exact r) λc xs r=>by rw[aq (M_ c xs r)];exact r
   rcases hc with rfl | hc
   ·exact Fe
   ·rintro rfl;rcases he with z | z
    ·exact IF c b hc z
    ·rw[hc]at z;cases z;exact hb rfl
end
structure Un(fs ex:List Addr)(H H':Hp)(h h':Heap):Prop where
 keep:∀ b o,h.get? b=some o->H b=none->b∉fs->b∉ex->h'.get? b=some o
 slot:∀ b o,h.get? b=some o->H b=none->b∈fs->b∉ex->∃ sl,h'.get? b=some { o with slots:=sl }
 free:∀ b o,h.get? b=some o->H b=none->b∉ex->H' b=none
 there:∀ b o,h.get? b=some o->b∉ex->∃ o',h'.get? b=some o'
 nB:∀ b xs,H b=some (.tup xs)->H' b=some (.tup xs)
 mm:∀ b o u,H b=some (.fK o u)->H' b=some (.fK o u)
 nC:∀ b ps,H b=some (.B8 ps)->∃ more,H' b=some (.B8 (ps++more))
section
variable {fs TK ex Km:List Addr}{H H1 H2:Hp}{h h1 h2 h':Heap}{a x e:Addr}{o:HO}
theorem Un.any(u:Un fs ex H H1 h h1){b:Addr}{ob:Obj}(q:h.get? b=some ob)(n:H b=none)(hx:b∉ex):∃ sl,h1.get? b=some { ob with slots:=sl }:=by
 by_cases hb:b∈fs
 ·exact u.slot b ob q n hb hx
 ·exact⟨ob.slots,u.keep b ob q n hb hx⟩
theorem Un.kept(k:∀ b u,h.get? b=some u->h'.get? b=some u):Un fs ex H H h h' :=
 ⟨λb ob q _ _ _=>k b ob q,λb ob q _ _ _=>⟨ob.slots,k b ob q⟩,λ_ _ _ n _=>n,λb ob q _=>⟨ob,k b ob q⟩,λ_ _ q=>q,λ_ _ _ q=>q,λ_ ps q=>⟨#[],by rw[q];simp⟩⟩
theorem Un.refl:Un fs ex H H h h:=Un.kept λ_ _ q=>q
theorem Un.laid(k:∀ b u,h.get? b=some u->h'.get? b=some u)(hp:h.objs.size<=a)(hn:H a=none):Un fs ex H (upd H a o) h h' where
 keep:=λb u q _ _ _=>k b u q
 slot:=λb u q _ _ _=>⟨u.slots,k b u q⟩
 free:=λb u q n _=>by rw[aq (Nat.ne_of_lt (Nat.lt_of_lt_of_le (Heap.lt_size q) hp))];exact n
 there:=λb u q _=>⟨u,k b u q⟩
 nB:=λb xs q=>by rw[aq (a_ q hn)];exact q
 mm:=λb u xs q=>by rw[aq (a_ q hn)];exact q
 nC:=λb ps q=>⟨#[],by rw[aq (a_ q hn),q];simp⟩
theorem Un.write(mu:L6 (H x))(he:e=x\/H e=some (.own x))(k:∀ b u,b≠e->h.get? b=some u->h'.get? b=some u)(GS:∃ u,h'.get? e=some u):Un fs ex H (upd H x o) h h':=by
 have hx:∀ b,H b=none->b≠x:=λb n z=>by subst z;rw[n]at mu;exact mu
 have hb:∀ b,H b=none->b≠e:=λb n z=>by
  subst z;rcases he with r | r
  ·exact hx b n r
  ·rw[n]at r;cases r
 have hm:∀ b u,H b=some u->¬ L6 (some u)->b≠x:=λb u q nm z=>by subst z;rw[q]at mu;exact nm mu
 refine⟨λb u q n _ _=>k b u (hb b n) q,λb u q n _ _=>⟨u.slots,k b u (hb b n) q⟩,λb u q n _=>by rw[aq (hx b n)];exact n,λb u q _=>?_,
  λb xs q=>by rw[aq (hm b _ q λz=>z)];exact q,λb u xs q=>by rw[aq (hm b _ q λz=>z)];exact q,λb ps q=>⟨#[],by rw[aq (hm b _ q λz=>z),q];simp⟩⟩
 by_cases Fe:b=e
 ·subst Fe;exact GS
 ·exact⟨u,k b u Fe q⟩
end
noncomputable def KW(h:Heap)(H:Hp):List Addr:=(List.range h.objs.size).filter λa=>(H a).isSome
def oe(h:Heap)(H:Hp):Heap:=PySem.W.hideAll h (KW h H)
theorem vN(h:Heap)(H:Hp):(oe h H).objs.size=h.objs.size:=PySem.W.hideAll_size _ _
variable {o:Obj}
theorem yu{b:Addr}(e:h.get? b=some o)(n:H b=none):(oe h H).get? b=some o :=
 PySem.W.hideAll_get _ e λhm=>by
  have q:(H b).isSome=true:=(List.mem_filter.mp hm).2;rw[n]at q;simp at q
theorem AO{b:Addr}(e:(oe h H).get? b=some o):h.get? b=some o/\H b=none:=by
 have e':h.get? b=some o:=PySem.W.of_hideAll (KW h H) e;refine⟨e',?_⟩;cases q:H b with
 | none=>rfl
 | some x =>
  have hm:b∈KW h H:=List.mem_filter.mpr ⟨List.mem_range.mpr (Vd e'),by simp[q]⟩;have z:(oe h H).get? b=none:=PySem.W.hideAll_none (KW h H) hm;rw[z]at e;cases e
noncomputable def BR(g h:Heap)(L:Addr):List (Addr×Obj):=(List.range h.objs.size).filterMap λa=>if a=L\/(g.get? a).isSome=true then none else(h.get? a).map λo=>(a,o)
def rest(g h:Heap)(L d:Addr):List (Addr×Obj):=(BR g h L).filter λp=>decide (p.1≠d)
end L2
namespace L2
open PySem PySem.Spec PyProof.Rows
structure Mod(K:PySem.W.Frag)(mg:Str->Option Value)(base:Heap):Prop where
 Nk:K.In base
 glob:base.Ns mainGlobals mg
 blt:∃ mb,base.Ns builtinsNs mb/\∀ x:Str,x ≠ "__name__" -> mb x=bootBuiltins x
 nolimit:base.NoLimit
structure Cx where
 prog:Program
 w:World
 K:PySem.W.Frag
 mg:Str->Option Value
 base:Heap
 A:Around
 N:List Str
 s₀:Shared
 H₀:Hp
 env:Env
 outer:List Env
 stack:List Env
 ex:List Addr
 fn:Str->Bool
 calm:Bool
 pn:List (Addr×Obj)
 xe:Value->Shared->Prop
noncomputable def wF(l:List Env):List Addr:=l.filterMap (·.frame)
abbrev Cx.fs(X:Cx):List Addr:=wF X.outer
noncomputable def Gd(sc:Scope)(x:Str):Prop:=sc.names.lookup x=some .local\/sc.names.lookup x=some .cell\/sc.names.lookup x=some .free
noncomputable def Loc(sc:Scope)(x:Str):Prop:=sc.names.lookup x=some .local\/sc.names.lookup x=some .cell
noncomputable def Look(env:Env)(h:Heap)(m:Str->Option Value)(x:Str)(u:Value):Prop :=
 (env.kindOf x=some .local/\m x=some u)\/((env.kindOf x=some .cell\/env.kindOf x=some .free)/\∃ c,env.cells.lookup x=some c/\h.IsCell c (some u))
structure Cx.Ok(X:Cx):Prop where
 mod:Mod X.K X.mg X.base
 kind:X.env.scope.kind=.function
 glob:X.env.globals=mainGlobals
 blt:X.env.builtins=builtinsNs
 above:X.s₀.heap.objs.size<=X.env.locals
 inj:∀ x y c,X.env.cells.lookup x=some c->X.env.cells.lookup y=some c->x=y
 has:∀ x,(X.env.kindOf x=some .cell\/X.env.kindOf x=some .free)->∃ c,X.env.cells.lookup x=some c
 KG:∀ x c,X.fn x=true->X.env.cells.lookup x=some c->X.s₀.heap.objs.size<=c
 hd:X.calm=true->X.A.handled=none
 frames:X.A.frames=some X.stack
 K1:X.stack=X.outer\/(X.stack=X.env::X.outer/\X.env.frame=some X.env.locals)
 QM:∀ b∈X.ex,b≠X.env.locals/\∀ x c,X.env.cells.lookup x=some c->c≠b
 bs:∀ b o,X.base.get? b=some o->X.s₀.heap.get? b=some o/\X.H₀ b=none
 CN:X.base.objs.size<=X.s₀.heap.objs.size
 xV:∀ b o,X.base.get? b=some o->b∉X.ex
 Bn:∀ b∈X.ex,b∉X.fs
 jU:X.s₀.heap.FunFrames X.base X.outer
 GY:∀ b∈X.fs,X.H₀ b=none
structure Inv(X:Cx)(pins:List (Addr×Obj))(σ:List (Option V))(H:Hp)(s:Shared):Prop where
 ok:X.Ok
 os:s.os=X.s₀.os
 bare:AllBare s.gens
 base:Un X.fs X.ex X.H₀ H X.s₀.heap s.heap
 loc:∃ m,s.heap.Ns X.env.locals m/\∀(i:Nat) (x:Str) (v:V),X.N[i]?=some x->σ[i]?=some (some v)->Gd X.env.scope x->∃ u,RelV v u/\Look X.env s.heap m x u
 cell:∀ x c,X.env.cells.lookup x=some c->∃ v,s.heap.IsCell c v
 free:H X.env.locals=none
 gv:∀ x c,X.env.cells.lookup x=some c->H c=none
 pin:∀ p∈X.pn++pins,s.heap.get? p.1=some p.2/\H p.1=none/\p.1≠X.env.locals/\p.1∉X.fs/\∀ v,p.2.data≠.cell v
 bR:jv X.prog X.w H s.heap
 len:σ.length=X.N.length
variable {A:Around}{E:Value->Shared->Prop}{Q:Unit->Shared->Prop}{ch:List Addr}{t':Nat}
section
variable {X:Cx}{pins:List (Addr×Obj)}{σ:List (Option V)}{H H':Hp}{s:Shared}{h':Heap}
theorem Cx.Ok.Nb(ok:X.Ok){b:Addr}{o:Obj}(e:X.base.get? b=some o):b∉X.fs:=λhb=>by
 have:=(ok.jU.mem hb).1;rw[e]at this;cases this
theorem Inv.bs(I:Inv X pins σ H s):∀ b o,X.base.get? b=some o->s.heap.get? b=some o/\H b=none:=λb o e =>
 ⟨I.base.keep b o (I.ok.bs b o e).1 (I.ok.bs b o e).2 (I.ok.Nb e) (I.ok.xV b o e),I.base.free b o (I.ok.bs b o e).1 (I.ok.bs b o e).2 (I.ok.xV b o e)⟩
theorem Inv.bk(I:Inv X pins σ H s):∀ b o,X.base.get? b=some o->s.heap.get? b=some o:=λb o e=>(I.bs b o e).1
theorem Inv.mod(I:Inv X pins σ H s):Mod X.K X.mg X.base:=I.ok.mod
theorem Inv.wu(I:Inv X pins σ H s):X.K.In s.heap:=I.ok.mod.Nk.keeps I.bk
theorem Inv.lt(I:Inv X pins σ H s):X.env.locals<s.heap.objs.size:=let ⟨_,hn,_⟩:=I.loc;hn.lt
theorem Inv.sz(I:Inv X pins σ H s):X.s₀.heap.objs.size<=s.heap.objs.size:=Vp I.ok.above (Nat.le_of_lt I.lt)
theorem Inv.Eh(I:Inv X pins σ H s){a:Addr}(h:s.heap.objs.size<=a):a∉X.fs:=λhb=>by
 obtain⟨_,o,ho,_⟩:=I.ok.jU.mem hb;exact absurd (Vf (Vd ho) (Vp I.sz h)) (Vz _)
theorem Inv.F7(I:Inv X pins σ H s):∀ x c,X.env.cells.lookup x=some c->c≠X.env.locals:=λx c e z=>by
 obtain⟨v,o,ho,hd⟩:=I.cell x c e;obtain⟨m,⟨o',es,ep,dO,EZ,_⟩,_⟩:=I.loc;rw[z,dO]at ho;cases ho;rw[EZ]at hd;cases hd
theorem Inv.jU(I:Inv X pins σ H s):s.heap.FunFrames X.base X.outer:=by
 have all:∀(l:List Env),(∀ b∈wF l,b∈X.fs)->X.s₀.heap.FunFrames X.base l->s.heap.FunFrames X.base l:=by
  intro l;induction l with
  | nil=>intro _ _;trivial
  | cons env r ih =>
   intro hs hl;obtain⟨hk,⟨L,o,hf,hn,ho,hd⟩,hr⟩:=hl;have hL:L∈X.fs:=hs L (by unfold wF;rw[List.filterMap_cons,hf];exact Vb);obtain⟨sl,e⟩:=I.base.slot L o ho (I.ok.GY L hL) hL λz=>I.ok.Bn L z hL;exact⟨hk,⟨L,_,hf,hn,e,hd⟩,ih (λb hb=>hs b (by unfold wF;rw[List.filterMap_cons,hf];exact Va _ hb)) hr⟩
 exact all X.outer (λ_ hb=>hb) I.ok.jU
theorem Inv.stack(I:Inv X pins σ H s):s.heap.FunFrames X.base X.stack:=by
 rcases I.ok.K1 with e | ⟨e,hf⟩
 ·rw[e];exact I.jU
 ·rw[e];obtain⟨m,hn,_⟩:=I.loc;refine .cons (by rw[I.ok.kind];decide) hf hn ?_ I.jU;exact Heap.get?_none_of_le (Vp I.ok.CN I.ok.above)
theorem Inv.i5(I:Inv X pins σ H s):∀ b∈wF X.stack,b∈X.env.locals::X.fs:=λb hb=>by
 rcases I.ok.K1 with e | ⟨e,hf⟩
 ·rw[e]at hb;exact Va _ hb
 ·rw[e]at hb;unfold wF at hb;rw[List.filterMap_cons,hf]at hb;exact hb
theorem Inv.tj(I:Inv X pins σ H s):∀ b∈wF X.stack,H b=none:=λb hb=>by
 rcases List.mem_cons.mp (I.i5 b hb)with e | hb
 ·rw[e];exact I.free
 ·obtain⟨_,o,ho,_⟩:=I.ok.jU.mem hb;exact I.base.free b o ho (I.ok.GY b hb) λz=>I.ok.Bn b z hb
theorem Inv.step{g':Array GenState}{d':Drawn}(I:Inv X pins σ H s)
  (zF:∀ b∈ch,(b∈X.ex\/X.s₀.heap.objs.size<=b)/\b≠X.env.locals/\(∀ x c,X.env.cells.lookup x=some c->c≠b)/\∀ p∈X.pn++pins,p.1≠b)
  (keep:∀ b o,b≠X.env.locals->b∉X.fs->b∉ch->s.heap.get? b=some o->H b=none->h'.get? b=some o)
  (slot:∀ b o,b≠X.env.locals->b∈X.fs->b∉ch->s.heap.get? b=some o->H b=none->∃ sl,h'.get? b=some { o with slots:=sl }) (free:∀ b o,b∉ch->s.heap.get? b=some o->H b=none->H' b=none)
  (there:∀ b o,b∉ch->s.heap.get? b=some o->∃ o',h'.get? b=some o')
  (nB:∀ b xs,H b=some (.tup xs)->H' b=some (.tup xs)) (mm:∀ b o u,H b=some (.fK o u)->H' b=some (.fK o u)) (nC:∀ b ps,H b=some (.B8 ps)->∃ more,H' b=some (.B8 (ps++more)))
  (ns:∀ m,s.heap.Ns X.env.locals m->h'.Ns X.env.locals m) (bR:jv X.prog X.w H' h') (hg:AllBare g') :
  Inv X pins σ H' { s with heap:=h',gens:=g',drawn:=d',toks:=t' }:=by
 have PN:∀ b o,X.s₀.heap.get? b=some o->b≠X.env.locals:=λb o e=>Vi (Vf (Vd e) I.ok.above);have Cw:∀ b o,X.s₀.heap.get? b=some o->b∉X.ex->b∉ch:=λb o e hx hb=>by
  rcases(zF b hb).1 with z | z
  ·exact hx z
  ·exact absurd (Vf (Vd e) z) (Vz _)
 have cellK:∀ x c,X.env.cells.lookup x=some c->∀ v,s.heap.IsCell c v->h'.IsCell c v:=λx c e v ⟨o,ho,hd⟩=>by
  have IJ:c∉ch:=λz=>(zF c z).2.2.1 x c e rfl;by_cases hc:c∈X.fs
  ·obtain⟨sl,q⟩:=slot c o (I.F7 x c e) hc IJ ho (I.gv x c e);exact⟨_,q,hd⟩
  ·exact⟨o,keep c o (I.F7 x c e) hc IJ ho (I.gv x c e),hd⟩
 refine⟨I.ok,I.os,hg,⟨λb o e n hb hx=>?_,λb o e n hb hx=>?_,λb o e n hx=>?_,λb o e hx=>?_,λb xs e=>nB b xs (I.base.nB b xs e),λb o xs e=>mm b o xs (I.base.mm b o xs e),λb ps e=>?_⟩,?_,λx c e=>?_,?_,λx c e=>?_,λp hp=>?_,bR,I.len⟩
 ·exact keep b o (PN b o e) hb (Cw b o e hx) (I.base.keep b o e n hb hx) (I.base.free b o e n hx)
 ·obtain⟨sl,e1⟩:=I.base.slot b o e n hb hx;obtain⟨RM,e2⟩:=slot b _ (PN b o e) hb (Cw b o e hx) e1 (I.base.free b o e n hx);exact⟨RM,e2⟩
 ·obtain⟨o',e1⟩:=I.base.there b o e hx;exact free b o' (Cw b o e hx) e1 (I.base.free b o e n hx)
 ·obtain⟨o',e1⟩:=I.base.there b o e hx;exact there b o' (Cw b o e hx) e1
 ·obtain⟨m1,e1⟩:=I.base.nC b ps e;obtain⟨m2,e2⟩:=nC b _ e1;exact⟨m1++m2,by rw[e2,Array.append_assoc]⟩
 ·obtain⟨m,hn,hl⟩:=I.loc;refine⟨m,ns m hn,λi x v e1 e2 e3=>?_⟩;obtain⟨u,r,l⟩:=hl i x v e1 e2 e3;refine⟨u,r,?_⟩;rcases l with l | ⟨k,c,e,z⟩
  ·exact .inl l
  ·exact .inr ⟨k,c,e,cellK x c e _ z⟩
 ·obtain⟨v,z⟩:=I.cell x c e;exact⟨v,cellK x c e v z⟩
 ·obtain⟨m,⟨o,_,_,ho,_⟩,_⟩:=I.loc;exact free _ o (λz=>(zF _ z).2.1 rfl) ho I.free
 ·obtain⟨v,o,ho,hd⟩:=I.cell x c e;exact free c o (λz=>(zF c z).2.2.1 x c e rfl) ho (I.gv x c e)
 ·obtain⟨e,n,ne,nf,d⟩:=I.pin p hp;have IJ:p.1∉ch:=λz=>(zF p.1 z).2.2.2 p hp rfl;exact⟨keep p.1 p.2 ne nf IJ e n,free p.1 p.2 IJ e n,ne,nf,d⟩
theorem Inv.un(I:Inv X pins σ H s)(u:Un X.fs [] H H' s.heap h')(bR:jv X.prog X.w H' h'):Inv X pins σ H' { s with heap:=h',toks:=t' }:=by
 obtain⟨m,⟨o,es,ep,ho,r⟩,_⟩:=id I.loc;obtain⟨sl,hL⟩:=u.any ho I.free (by simp);exact I.step (g':=s.gens) (d':=s.drawn) (ch:=[]) (λ_ z=>nomatch z) (λb o _ hb _ e n=>u.keep b o e n hb (by simp)) (λb o _ hb _ e n=>u.slot b o e n hb (by simp)) (λb o _ e n=>u.free b o e n (by simp)) (λb o _ e=>u.there b o e (by simp)) u.nB u.mm u.nC (λm' hm=>by
  obtain⟨o',vZ,m_,dO,r'⟩:=hm;rw[ho]at dO;cases dO;exact⟨_,vZ,m_,hL,r'⟩) bR I.bare
theorem Inv.call{g':Array GenState}{d':Drawn}(I:Inv X pins σ H s)(u:Un (wF X.stack) ch H H' s.heap h')(bR:jv X.prog X.w H' h')(hg:AllBare g')
  (zF:∀ b∈ch,(b∈X.ex\/X.s₀.heap.objs.size<=b)/\b≠X.env.locals/\(∀ x c,X.env.cells.lookup x=some c->c≠b)/\∀ p∈X.pn++pins,p.1≠b) :
  Inv X pins σ H' { s with heap:=h',gens:=g',drawn:=d',toks:=t' }:=by
 obtain⟨m,⟨o,es,ep,ho,r⟩,_⟩:=id I.loc;obtain⟨sl,hL⟩:=u.any ho I.free λz=>(zF _ z).2.1 rfl;exact I.step (ch:=ch) zF (λb o hL hb hc e n=>u.keep b o e n (λz=>(List.mem_cons.mp (I.i5 b z)).elim hL hb) hc) (λb o _ _ hc e n=>u.any e n hc) (λb o hc e n=>u.free b o e n hc) (λb o hc e=>u.there b o e hc) u.nB u.mm u.nC (λm' hm=>by
  obtain⟨o',vZ,m_,dO,r'⟩:=hm;rw[ho]at dO;cases dO;exact⟨_,vZ,m_,hL,r'⟩) bR hg
theorem Inv.turned{it:Addr}(I:Inv X pins σ H s)(k:∀ b o,b≠it->s.heap.get? b=some o->h'.get? b=some o)(hn:H it=none)(hL:it≠X.env.locals)
  (h1:it∈X.ex\/X.s₀.heap.objs.size<=it) (h2:∀ x c,X.env.cells.lookup x=some c->c≠it) (h3:∀ p∈X.pn++pins,p.1≠it):Inv X pins σ H { s with heap:=h',toks:=t' }:=by
 have Cu:∀ b u,H b=some u->b≠it:=λb u e z=>by rw[z,hn]at e;cases e
 refine I.step (g':=s.gens) (d':=s.drawn) (ch:=[it]) (λb hb=>?_) (λb o _ _ hc e _=>k b o (λz=>hc (by simp[z])) e) (λb o _ _ hc e _=>⟨o.slots,k b o (λz=>hc (by simp[z])) e⟩) (λ_ _ _ _ n=>n)
  (λb o hc e=>⟨o,k b o (λz=>hc (by simp[z])) e⟩) (λ_ _ e=>e) (λ_ _ _ e=>e) (λb ps e=>⟨#[],by rw[e];simp⟩) (λm hm=>?_) (λb u e=>?_) I.bare
 ·have e:b=it:=by simpa using hb
  subst e;exact⟨h1,hL,h2,h3⟩
 ·obtain⟨o,es,ep,ho,r⟩:=hm;exact⟨o,es,ep,k _ o (WO hL) ho,r⟩
 ·refine(I.bR b u e).i6 (λc v hc q=>k c v ?_ q) (λ_ q=>q) λ_ _ q=>q;rcases hc with z | z
  ·rw[z];exact Cu b u e
  ·exact Cu c _ z
theorem Inv.tok(I:Inv X pins σ H s)(t:Nat):Inv X pins σ H { s with toks:=t }:=I.un (h':=s.heap) (t':=t) Un.refl I.bR
theorem Inv.kept{t':Nat}(I:Inv X pins σ H s)(k:∀ b u,s.heap.get? b=some u->h'.get? b=some u):Inv X pins σ H { s with heap:=h',toks:=t' }:=I.un (Un.kept k) (I.bR.kept k)
theorem Inv.laid{a:Addr}{o:HO}{t':Nat}(I:Inv X pins σ H s)(k:∀ b u,s.heap.get? b=some u->h'.get? b=some u)(hp:s.heap.objs.size<=a)(new:bB X.prog X.w (upd H a o) h' a o):
  Inv X pins σ (upd H a o) { s with heap:=h',toks:=t' }:=I.un (Un.laid k hp (I.bR.fresh hp)) (I.bR.laid k hp new)
theorem Inv.write{x e:Addr}{o:HO}{t':Nat}(I:Inv X pins σ H s)(mu:L6 (H x))(he:e=x\/H e=some (.own x))(k:∀ b u,b≠e->s.heap.get? b=some u->h'.get? b=some u)(GS:∃ u,h'.get? e=some u)
  (new:bB X.prog X.w (upd H x o) h' x o):Inv X pins σ (upd H x o) { s with heap:=h',toks:=t' }:=I.un (Un.write mu he k GS) (I.bR.write mu he k GS new)
theorem Inv.f9{Cp:List (Addr×Obj)}(I:Inv X pins σ H s)(h:∀ p∈Cp,s.heap.get? p.1=some p.2/\H p.1=none/\p.1≠X.env.locals/\p.1∉X.fs/\∀ v,p.2.data≠.cell v):Inv X Cp σ H s :=
 ⟨I.ok,I.os,I.bare,I.base,I.loc,I.cell,I.free,I.gv,λp hp=>(List.mem_append.mp hp).elim (λz=>I.pin p (Vw _ z)) (h p),I.bR,I.len⟩
theorem pS{N:List Str}(hN:N.Nodup){i j:Nat}{x:Str}(a:N[i]?=some x)(b:N[j]?=some x):i=j:=by
 obtain⟨h1,e1⟩:=List.getElem?_eq_some_iff.mp a;obtain⟨h2,e2⟩:=List.getElem?_eq_some_iff.mp b;exact(WQ hN).mp (e1.trans e2.symm)
theorem vj{M:Model}{i:Nat}{x:Str}{v:V}{u:Value}(I:Inv X pins σ H s)(hN:X.N.Nodup)(hi:X.N[i]?=some x)(hx:Loc X.env.scope x)(r:RelV v u)
  (h:∀ s',Inv X pins (σ.set i (some v)) H s'->(∃ a,Heap.SameBut a s.heap s'.heap/\(a=X.env.locals\/X.env.cells.lookup x=some a))->Q () s') (hf:X.fn x=true\/X.env.scope.names.lookup x=some .local:=by first | exact .inl rfl | exact .inr rfl | assumption):wpAny M A (storeName X.env x u) Q E s:=by
 obtain⟨m,hn,hl⟩:=id I.loc;have Oc:(X.env.scope.kind==.class||(X.env.scope.kind==.module&&X.env.locals != X.env.globals))=false:=by rw[I.ok.kind];rfl
 have JP:i<σ.length:=by rw[I.len];exact(List.getElem?_eq_some_iff.mp hi).1
 have F7:=I.F7;have tracked:∀ {a:Addr} {h':Heap},(∃ o,s.heap.get? a=some o/\H a=none)->Heap.SameBut a s.heap h'->jv X.prog X.w H h':=λ{a h'} ha hs b ob e=>by
  obtain⟨_,_,CG⟩:=ha;refine(I.bR b ob e).i6 (λc w' hc q=>(hs.2 c ?_).trans q) (λ_ q=>q) λ_ _ q=>q;rintro rfl;rcases hc with rfl | hc
  ·rw[CG]at e;cases e
  ·rw[CG]at hc;cases hc
 rcases hx with hk | hk
 ·refine wpAny_storeName_local hk hn (λh' uk hs=>?_) Oc;obtain⟨oL,_,_,JK,_⟩:=id hn;refine h _ ⟨I.ok,I.os,I.bare,⟨λb o e n hb hx=>?_,λb o e n hb hx=>?_,I.base.free,λb o e hx=>?_,I.base.nB,I.base.mm,I.base.nC⟩,⟨_,uk,λj y v' e1 e2 e3=>?_⟩,λy c e=>?_,I.free,I.gv,λp hp=>?_,tracked ⟨oL,JK,I.free⟩ hs,by simpa using I.len⟩ ⟨_,hs,.inl rfl⟩
  ·exact(hs.2 b (Vi (Vf (Vd e) I.ok.above))).trans (I.base.keep b o e n hb hx)
  ·obtain⟨sl,e1⟩:=I.base.slot b o e n hb hx;exact⟨sl,(hs.2 b (Vi (Vf (Vd e) I.ok.above))).trans e1⟩
  ·obtain⟨o',e1⟩:=I.base.there b o e hx;exact⟨o',(hs.2 b (Vi (Vf (Vd e) I.ok.above))).trans e1⟩
  ·by_cases hj:j=i
   ·subst hj;rw[hi]at e1;cases e1;rw[List.getElem?_set_self JP]at e2;cases e2;exact⟨u,r,.inl ⟨hk,by simp⟩⟩
   ·rw[List.getElem?_set_ne (Ne.symm hj)]at e2;obtain⟨u',r',q⟩:=hl j y v' e1 e2 e3;refine⟨u',r',?_⟩;rcases q with ⟨k,e⟩ | ⟨k,c,e,z⟩
    ·refine .inl ⟨k,?_⟩;have:y≠x:=λe=>hj (pS hN e1 (e▸hi));simp[this,e]
    ·exact .inr ⟨k,c,e,z.sameBut hs (F7 y c e)⟩
  ·obtain⟨w',z⟩:=I.cell y c e;exact⟨w',z.sameBut hs (F7 y c e)⟩
  ·obtain⟨e,n,ne,nf,d⟩:=I.pin p hp;exact⟨(hs.2 p.1 ne).trans e,n,ne,nf,d⟩
 ·have rZ:X.fn x=true:=by
   rcases hf with z | z
   ·exact z
   ·rw[z]at hk;cases hk
  obtain⟨c,hc⟩:=I.ok.has x (.inl hk);obtain⟨w',z⟩:=I.cell x c hc;refine wpAny_storeName_cell I.ok.kind hk hc z (λh' wC hs=>?_);obtain⟨oc,Qn,NZ⟩:=id z;refine h { s with heap:=h' } ⟨I.ok,I.os,I.bare,⟨λb o e n hb hx=>?_,λb o e n hb hx=>?_,I.base.free,λb o e hx=>?_,I.base.nB,I.base.mm,I.base.nC⟩,⟨m,hn.sameBut hs (WO (F7 x c hc)),λj y v' e1 e2 e3=>?_⟩,λy c' e=>?_,I.free,I.gv,λp hp=>?_,tracked ⟨oc,Qn,I.gv x c hc⟩ hs,by simpa using I.len⟩ ⟨c,hs,.inr hc⟩
  ·exact(hs.2 b (Vi (Vf (Vd e) (I.ok.KG x c rZ hc)))).trans (I.base.keep b o e n hb hx)
  ·obtain⟨sl,e1⟩:=I.base.slot b o e n hb hx;exact⟨sl,(hs.2 b (Vi (Vf (Vd e) (I.ok.KG x c rZ hc)))).trans e1⟩
  ·obtain⟨o',e1⟩:=I.base.there b o e hx;exact⟨o',(hs.2 b (Vi (Vf (Vd e) (I.ok.KG x c rZ hc)))).trans e1⟩
  ·by_cases hj:j=i
   ·subst hj;rw[hi]at e1;cases e1;rw[List.getElem?_set_self JP]at e2;cases e2;exact⟨u,r,.inr ⟨.inl hk,c,hc,wC⟩⟩
   ·rw[List.getElem?_set_ne (Ne.symm hj)]at e2;obtain⟨u',r',q⟩:=hl j y v' e1 e2 e3;refine⟨u',r',?_⟩;rcases q with q | ⟨k,c',e,z'⟩
    ·exact .inl q
    ·refine .inr ⟨k,c',e,z'.sameBut hs ?_⟩;rintro rfl;exact hj (pS hN e1 (I.ok.inj _ _ _ e hc▸hi))
  ·by_cases Qz:c'=c
   ·subst Qz;exact⟨_,wC⟩
   ·obtain⟨w2,z2⟩:=I.cell y c' e;exact⟨w2,z2.sameBut hs Qz⟩
  ·obtain⟨e,n,ne,nf,d⟩:=I.pin p hp;refine⟨(hs.2 p.1 ?_).trans e,n,ne,nf,d⟩;intro q;rw[q,Qn]at e;have q':oc=p.2:=Vk e;exact d w' (by rw[<- q'];exact NZ)
theorem ip{M:Model}{i:Nat}{x:Str}{v:V}{u:Value}(I:Inv X pins σ H s)(hN:X.N.Nodup)(hi:X.N[i]?=some x)(hx:Loc X.env.scope x)(r:RelV v u)
  (h:∀ s',Inv X pins (σ.set i (some v)) H s'->Q () s') (hf:X.fn x=true\/X.env.scope.names.lookup x=some .local:=by first | exact .inl rfl | exact .inr rfl | assumption):wpAny M A (storeName X.env x u) Q E s :=
 vj I hN hi hx r (λs' I' _=>h s' I') hf
theorem Inv.KD{s':Shared}(I:Inv X pins σ H s)(ho:s'.os=s.os)(u:Un (wF X.stack) ch H H' s.heap s'.heap)(bR:jv X.prog X.w H' s'.heap)(hg:AllBare s'.gens)
  (zF:∀ b∈ch,(b∈X.ex\/X.s₀.heap.objs.size<=b)/\b≠X.env.locals/\(∀ x c,X.env.cells.lookup x=some c->c≠b)/\∀ p∈X.pn++pins,p.1≠b):Inv X pins σ H' s':=by
 obtain⟨h',g',d',t',o'⟩:=s';have e:o'=s.os:=ho;subst e;exact I.call (g':=g') (t':=t') (d':=d') u bR hg zF
end
noncomputable abbrev XK:=Value->Option Addr->Hp->Prop
noncomputable abbrev St:=List (Option V)
noncomputable abbrev VK:=V->Hp->Prop
noncomputable abbrev TE:=St->Hp->VK->Prop
noncomputable abbrev TT:=St->Hp->(Bool->Hp->Prop)->Prop
noncomputable abbrev TA:=St->Hp->(List V->Hp->Prop)->Prop
structure Ends where
 nx:St->Hp->Prop
 rt:VK
 bk:St->Hp->Prop:=λ_ _=>False
 ct:St->Hp->Prop:=λ_ _=>False
noncomputable abbrev TS:=Ends->St->Hp->Prop
def EP(X:Cx)(pins:List (Addr×Obj))(σ:St)(Q:VK)(u:Value)(s':Shared):Prop:=∃ v H',Inv X pins σ H' s'/\RelV v u/\Q v H'
noncomputable def TP(X:Cx)(pins:List (Addr×Obj))(σ:St)(Q:Bool->Hp->Prop)(b:Bool)(s':Shared):Prop:=∃ H',Inv X pins σ H' s'/\Q b H'
def AP(X:Cx)(pins:List (Addr×Obj))(σ:St)(Q:List V->Hp->Prop)(us:List Value)(s':Shared):Prop:=∃ vs H',Inv X pins σ H' s'/\Vals vs us/\Q vs H'
def SP(X:Cx)(pins:List (Addr×Obj))(D:Ends)(f:Flow)(s':Shared):Prop :=
 match f with
 | .next=>∃ σ' H',Inv X pins σ' H' s'/\D.nx σ' H'
 | .brk=>∃ σ' H',Inv X pins σ' H' s'/\D.bk σ' H'
 | .cont=>∃ σ' H',Inv X pins σ' H' s'/\D.ct σ' H'
 | .ret u=>∃ v σ' H',Inv X pins σ' H' s'/\RelV v u/\D.rt v H'
noncomputable def PE(X:Cx)(e:Expr)(t:TE):Prop :=
 ∀(pins:List (Addr×Obj)) (s:Shared) (σ:St) (H:Hp) (Q:VK),Inv X pins σ H s->t σ H Q->wpAny (model X.prog X.w) X.A (eval e X.env) (EP X pins σ Q) X.xe s
noncomputable def PT(X:Cx)(e:Expr)(t:TT):Prop :=
 ∀(pins:List (Addr×Obj)) (s:Shared) (σ:St) (H:Hp) (Q:Bool->Hp->Prop),Inv X pins σ H s->t σ H Q->wpAny (model X.prog X.w) X.A (isTrue e X.env (eval e X.env)) (TP X pins σ Q) X.xe s
noncomputable def PW(X:Cx)(e:Expr)(t:TT):Prop :=
 ∀(whole:Sem Value) (pins:List (Addr×Obj)) (s:Shared) (σ:St) (H:Hp) (Q:Bool->Hp->Prop),Inv X pins σ H s->t σ H Q->wpAny (model X.prog X.w) X.A (isTrue e X.env whole) (TP X pins σ Q) X.xe s
theorem PW.pt{X:Cx}{e:Expr}{t:TT}(h:PW X e t):PT X e t:=h _
noncomputable def PA(X:Cx)(es:List Expr)(t:TA):Prop :=
 ∀(pos:Pos) (pins:List (Addr×Obj)) (s:Shared) (σ:St) (H:Hp) (Q:List V->Hp->Prop),Inv X pins σ H s->t σ H Q->wpAny (model X.prog X.w) X.A (spliced (backTo pos (starEach es X.env))) (AP X pins σ Q) X.xe s
noncomputable def PS(X:Cx)(st:Stmt)(t:TS):Prop :=
 ∀(pins:List (Addr×Obj)) (s:Shared) (σ:St) (H:Hp) (D:Ends),Inv X pins σ H s->t D σ H->wpAny (model X.prog X.w) X.A (exec st X.env) (SP X pins D) X.xe s
noncomputable def kF(X:Cx)(st:List Stmt)(t:TS):Prop :=
 ∀(pins:List (Addr×Obj)) (s:Shared) (σ:St) (H:Hp) (D:Ends),Inv X pins σ H s->t D σ H->wpAny (model X.prog X.w) X.A (execs st X.env) (SP X pins D) X.xe s
theorem bV{α:Type}{t:Sem α}{Q Q':α->Shared->Prop}{M:Model}{s:Shared}(h:wpAny M A t Q E s)(hQ:∀ a s,Q a s->Q' a s):wpAny M A t Q' E s:=Vn h hQ λ_ _ x=>x
end L2
namespace L2
open PySem PySem.Spec PyProof.Rows
variable {E Q:Value->Shared->Prop}{H:Hp}{pos:Pos}{σ:L2.St}
section
variable {X:Cx}
theorem bin{a b:Expr}{ta tb:TE}(ha:PE X a ta)(hb:PE X b tb){pins:List (Addr×Obj)}{s:Shared}{R:V->V->Hp->Prop}(I:Inv X pins σ H s)(h:ta σ H λx H1=>tb σ H1 λy H2=>R x y H2)
  {α:Type} {Q:α->Shared->Prop} {f:Value->Value->Sem α}
  (hf:∀ v u s2 x y H2,Inv X pins σ H2 s2->RelV x v->RelV y u->R x y H2->wpAny (model X.prog X.w) X.A (f v u) Q X.xe s2) :
  wpAny (model X.prog X.w) X.A (eval a X.env) (λv s₁=>wpAny (model X.prog X.w) X.A (eval b X.env) (λu s₂=>wpAny (model X.prog X.w) X.A (f v u) Q X.xe s₂) X.xe s₁) X.xe s:=by
 refine bV (ha pins s σ H _ I h) λv s1 ⟨x,H1,I1,r1,q1⟩=>?_;refine bV (hb pins s1 σ H1 _ I1 q1) λu s2 ⟨y,H2,I2,r2,q2⟩=>?_;exact hf v u s2 x y H2 I2 r1 r2 q2
noncomputable def vh(i:Nat):TE:=λσ H Q=>∃ v,σ[i]?=some (some v)/\Q v H
noncomputable def tC(v:V):TE:=λ_ H Q=>Q v H
theorem rG{i:Nat}{x:Str}(hN:X.N[i]?=some x)(hv:Gd X.env.scope x)(hd:(x==("__debug__" : Str))=false:=by decide)(vR:(x==("__classdict__" : Str))=false:=by decide):PE X (.Name x pos) (vh i):=by
 intro pins s σ H Q I h;obtain⟨v,e,h⟩:=h;obtain⟨m,hn,hl⟩:=I.loc;obtain⟨u,r,l⟩:=hl i x v hN e hv;have fin:EP X pins σ Q u s:=⟨v,H,I,r,h⟩
 rcases l with ⟨hk,hm⟩ | ⟨hk,c,hc,hcell⟩
 ·exact wpAny_Name (wpAny_loadName_local I.ok.kind hk hn hm fin) hd
 ·rcases hk with hk | hk
  ·exact wpAny_Name (wpAny_loadName_cell I.ok.kind hk hc hcell fin) hd
  ·exact wpAny_Name (wpAny_loadName_free I.ok.kind hk hc hcell fin vR) hd
theorem D4{i j pos}:PE X (.Constant (.int i) j pos) (tC (.int i)):=λ_ _ _ H _ I h=>wpAny_Constant_int ⟨.int i,H,I.tok _,⟨_,rfl⟩,h⟩
theorem Iq{b j pos}:PE X (.Constant (.bool b) j pos) (tC (.bl b)):=λ_ _ _ H _ I h=>Constant_bool ⟨.bl b,H,I,rfl,h⟩
theorem D0{j pos}:PE X (.Constant .none j pos) (tC .aL):=λ_ _ _ H _ I h=>Constant_none ⟨.aL,H,I,rfl,h⟩
theorem MY{x j pos}:PE X (.Constant (.str x) j pos) (tC (.str x)):=λ_ _ _ H _ I h=>Calls.Constant_str ⟨.str x,H,I.tok _,⟨_,rfl⟩,h⟩
noncomputable def Gl(X:Cx)(x:Str):Prop:=X.env.kindOf x=some .globalImplicit
theorem t5{pins:List (Addr×Obj)}{s:Shared}{x:Str}{u:Value}(I:Inv X pins σ H s)(hg:Gl X x)(hm:X.mg x=some u)(h:Q u s)
  (hd:(x==("__debug__" : Str))=false:=by decide):wpAny (model X.prog X.w) X.A (eval (.Name x pos) X.env) Q E s :=
 Calls.Name_function_global I.ok.kind hg (Calls.loadGlobal_global (by rw[I.ok.glob];exact I.mod.glob.keeps I.bk) hm h) hd
theorem eM{pins:List (Addr×Obj)}{s:Shared}{x:Str}{u:Value}(I:Inv X pins σ H s)(hg:Gl X x)(hm:X.mg x=none)(hv:bootBuiltins x=some u)(h:Q u s)
  (hn:x ≠ "__name__":=by decide) (hd:(x==("__debug__" : Str))=false:=by decide):wpAny (model X.prog X.w) X.A (eval (.Name x pos) X.env) Q E s:=by
 obtain⟨mb,h1,h2⟩:=I.mod.blt;exact Calls.Name_function_global I.ok.kind hg (Calls.loadGlobal_builtin (by rw[I.ok.glob];exact I.mod.glob.keeps I.bk) hm (by rw[I.ok.blt];exact h1.keeps I.bk) ((h2 x hn).trans hv) h) hd
theorem tS{x:Str}{v:V}{u:Value}(hg:Gl X x)(hm:X.mg x=some u)(r:RelV v u)(hd:(x==("__debug__" : Str))=false:=by decide):PE X (.Name x pos) (tC v) :=
 λ_ _ _ H _ I h=>t5 I hg hm ⟨v,H,I,r,h⟩ hd
theorem AG{x:Str}{v:V}{u:Value}(hg:Gl X x)(hm:X.mg x=none)(hv:bootBuiltins x=some u)(r:RelV v u)(hn:x ≠ "__name__":=by decide)(hd:(x==("__debug__" : Str))=false:=by decide):PE X (.Name x pos) (tC v) :=
 λ_ _ _ H _ I h=>eM I hg hm hv ⟨v,H,I,r,h⟩ hn hd
variable {a b:Expr}{ta tb:TE}{pos:Pos}
noncomputable def tB(t:TE):TT:=λσ H Q=>t σ H λx H1=>∃ c,x=.bl c/\Q c H1
theorem DR{e:Expr}{t:TE}(h:PE X e t)(he:∀ whole,isTrue e X.env whole=(do let v <- whole;standAt e.pos;holding [v] (truthy v)):=by intro _;rfl):PT X e (tB t):=by
 intro pins s σ H Q I hw;refine isTrue_plain (bV (h pins s σ H _ I hw) λv s1 ⟨x,H1,I1,r1,q1⟩=>?_) (he _);obtain⟨d,rfl,q⟩:=q1;cases r1;exact VE ⟨H1,I1,q⟩
variable {tA K0:TT}{rest:List Expr}
noncomputable def HB(t u:TT):TT:=λσ H Q=>t σ H λc H1=>if c=true then u σ H1 Q else Q false H1
noncomputable def Pw(t u:TT):TT:=λσ H Q=>t σ H λc H1=>if c=true then Q true H1 else u σ H1 Q
noncomputable def Mj(t:TT):TT:=λσ H Q=>t σ H λc H1=>Q (!c) H1
theorem Az(ha:PT X a tA):PW X (.BoolOp .And [a] pos) tA:=by
 intro wh pins s σ H Q I h;refine isTrue_and (bV (ha pins s σ H Q I h) λc s1 e=>?_);cases c with
 | true=>exact isTrue_and_nil e
 | false=>exact e
theorem DP(ha:PT X a tA):PW X (.BoolOp .Or [a] pos) tA:=by
 intro wh pins s σ H Q I h;refine isTrue_or (bV (ha pins s σ H Q I h) λc s1 e=>?_);cases c with
 | false=>exact isTrue_or_nil e
 | true=>exact e
theorem DQ(ha:PT X a tA)(hb:PW X (.BoolOp .And (b::rest) pos) K0):PW X (.BoolOp .And (a::b::rest) pos) (HB tA K0):=by
 intro wh pins s σ H Q I h;refine isTrue_and (bV (ha pins s σ H _ I h) λc s1 ⟨H1,I1,q1⟩=>?_);cases c with
 | true=>exact hb wh pins s1 σ H1 Q I1 q1
 | false=>exact⟨H1,I1,q1⟩
theorem Ig(ha:PT X a tA)(hb:PW X (.BoolOp .Or (b::rest) pos) K0):PW X (.BoolOp .Or (a::b::rest) pos) (Pw tA K0):=by
 intro wh pins s σ H Q I h;refine isTrue_or (bV (ha pins s σ H _ I h) λc s1 ⟨H1,I1,q1⟩=>?_);cases c with
 | true=>exact⟨H1,I1,q1⟩
 | false=>exact hb wh pins s1 σ H1 Q I1 q1
theorem DS(ha:PT X a tA):PT X (.UnaryOp .Not a pos) (Mj tA):=by
 intro pins s σ H Q I h;exact isTrue_not (ha pins s σ H (λc H1=>Q (!c) H1) I h)
noncomputable def Cc(ta tb:TE):TE:=λσ H Q=>ta σ H λx H1=>∃ c,x=.bl c/\if c=true then tb σ H1 Q else Q (.bl false) H1
noncomputable def Hu(ta tb:TE):TE:=λσ H Q=>ta σ H λx H1=>∃ c,x=.bl c/\if c=true then Q (.bl true) H1 else tb σ H1 Q
noncomputable def Hv(ta:TE):TE:=λσ H Q=>ta σ H λx H1=>∃ c,x=.bl c/\Q (.bl (!c)) H1
theorem xI{op}{t:TE}(h:PE X a t):PE X (.BoolOp op [a] pos) t:=λpins s σ H Q I hw=>BoolOp_one (h pins s σ H Q I hw)
theorem D5(ha:PE X a ta)(hb:PE X (.BoolOp .And (b::rest) pos) tb):PE X (.BoolOp .And (a::b::rest) pos) (Cc ta tb):=by
 intro pins s σ H Q I h;refine BoolOp_and (bV (ha pins s σ H _ I h) λv s1 ⟨x,H1,I1,r1,q1⟩=>?_);obtain⟨c,rfl,q1⟩:=q1;cases r1;refine VE ?_;cases c with
 | true=>exact hb pins s1 σ H1 Q I1 q1
 | false=>exact⟨.bl false,H1,I1,rfl,q1⟩
theorem Im(ha:PE X a ta)(hb:PE X (.BoolOp .Or (b::rest) pos) tb):PE X (.BoolOp .Or (a::b::rest) pos) (Hu ta tb):=by
 intro pins s σ H Q I h;refine BoolOp_or (bV (ha pins s σ H _ I h) λv s1 ⟨x,H1,I1,r1,q1⟩=>?_);obtain⟨c,rfl,q1⟩:=q1;cases r1;refine VE ?_;cases c with
 | false=>exact hb pins s1 σ H1 Q I1 q1
 | true=>exact⟨.bl true,H1,I1,rfl,q1⟩
theorem DZ(ha:PE X a ta):PE X (.UnaryOp .Not a pos) (Hv ta):=by
 intro pins s σ H Q I h;refine UnaryOp_ (bV (ha pins s σ H _ I h) λv s1 ⟨x,H1,I1,r1,q1⟩=>?_);obtain⟨c,rfl,q1⟩:=q1;cases r1;exact not_of (VE ⟨.bl (!c),H1,I1,rfl,q1⟩)
noncomputable def Rz(t:TT)(ta tb:TE):TE:=λσ H Q=>t σ H λc H1=>if c=true then ta σ H1 Q else tb σ H1 Q
theorem xK{c:Expr}(hc:PT X c tA)(ha:PE X a ta)(hb:PE X b tb):PE X (.IfExp c a b pos) (Rz tA ta tb):=by
 intro pins s σ H Q I h;refine wpAny_IfExp (bV (hc pins s σ H _ I h) λd s1 ⟨H1,I1,q1⟩=>?_);cases d with
 | true=>exact ha pins s1 σ H1 Q I1 q1
 | false=>exact hb pins s1 σ H1 Q I1 q1
end
end L2
namespace L2
open PySem PySem.Spec PyProof.Rows
def c_(K:PySem.W.Frag)(H:Hp)(a:Addr)(xs:List V):Prop :=
 Rd H a (.lst xs) \/
  ∃(o:Obj) (af:Array Value) (n:Nat),K.lookup a=some o/\o.cls=.type "list" /\ o.dict=none/\o.data=.seq af n/\af.size<=sizeLine/\Vals xs af.toList
def ao(K:PySem.W.Frag)(H:Hp)(a:Addr)(xs:List V):Prop :=
 Rd H a (.tup xs) \/
  ∃(o:Obj) (af:Array Value) (n:Nat),K.lookup a=some o/\o.cls=.type "tuple" /\ o.data=.seq af n/\af.size<=sizeLine/\Vals xs af.toList
noncomputable def O_:Value->Option V
 | .none=>some .aL
 | .bool b=>some (.bl b)
 | .int i _=>some (.int i)
 | .str x _=>some (.str x)
 | .bytes b _=>some (.O3 b)
 | .float b _=>some (.Kj b)
 | .ref a=>some (.ref a)
 | .type n=>some (.ty n)
 | _=>none
theorem RelV.abs{x:V}{u:Value}(r:RelV x u):O_ u=some x:=by
 cases x with
 | aL=>cases r;rfl
 | bl _=>cases r;rfl
 | int _=>obtain⟨t,rfl⟩:=r;rfl
 | str _=>obtain⟨t,rfl⟩:=r;rfl
 | O3 _=>obtain⟨t,rfl⟩:=r;rfl
 | Kj _=>obtain⟨t,rfl⟩:=r;rfl
 | ref _=>cases r;rfl
 | ty _=>cases r;rfl
theorem RelV.inj{x y:V}{u:Value}(r:RelV x u)(q:RelV y u):x=y:=Vk (r.abs.symm.trans q.abs)
theorem Vals.inj:∀ {xs ys:List V} {us:List Value},Vals xs us->Vals ys us->xs=ys
 | _,_,_,.nil,.nil=>rfl
 | _,_,_,.cons r t,.cons r' t'=>by rw[r.inj r',Vals.inj t t']
variable {K:PySem.W.Frag}
section
variable {X:Cx}{pins:List (Addr×Obj)}{σ:St}{H:Hp}{s:Shared}{a:Addr}{xs ys:List V}
theorem c_.of(h:H a=some (.lst xs)):c_ K H a xs:=.inl (.inl h)
theorem ao.of(h:H a=some (.tup xs)):ao K H a xs:=.inl (.inl h)
theorem Inv.list(I:Inv X pins σ H s)(h:c_ X.K H a xs):∃ af:List Value,Vals xs af/\PlainL s.heap a af.toArray/\xs.length<=sizeLine:=by
 rcases h with h | ⟨o,af,n,hk,hc,hd,hs,hz,r⟩
 ·obtain⟨z,af,n,r,e⟩:=h.ok I.bR;exact⟨af,r,⟨_,n,e,rfl,rfl,rfl⟩,z⟩
 ·refine⟨af.toList,r,⟨o,n,I.wu a o hk,hc,hd,by simpa using hs⟩,?_⟩;have e:=r.length;simp only[Array.length_toList]at e;left
theorem Inv.tuple(I:Inv X pins σ H s)(h:ao X.K H a xs):∃ af:List Value,Vals xs af/\IsTup s.heap a af.toArray/\xs.length<=sizeLine:=by
 rcases h with h | ⟨o,af,n,hk,hc,hs,hz,r⟩
 ·obtain⟨z,af,r,p⟩:=h.ok I.bR;exact⟨af,r,p,z⟩
 ·refine⟨af.toList,r,⟨o,I.wu a o hk,hc,n,by simpa using hs⟩,?_⟩;have e:=r.length;simp only[Array.length_toList]at e;left
theorem Inv.p3(I:Inv X pins σ H s)(h:c_ X.K H a xs)(h':c_ X.K H a ys):xs=ys:=by
 obtain⟨af,r,⟨o,n,e,_,_,d⟩,_⟩:=I.list h;obtain⟨its',r',⟨o',n',e',_,_,d'⟩,_⟩:=I.list h';rw[e]at e';cases e';rw[d]at d';injection d' with d1 _;have:af=its':=by simpa using congrArg Array.toList d1
 subst this;exact r.inj r'
theorem Inv.i4(I:Inv X pins σ H s)(h:ao X.K H a xs)(h':ao X.K H a ys):xs=ys:=by
 obtain⟨af,r,⟨o,e,_,n,d⟩,_⟩:=I.tuple h;obtain⟨its',r',⟨o',e',_,n',d'⟩,_⟩:=I.tuple h';rw[e]at e';cases e';rw[d]at d';injection d' with d1 _;have:af=its':=by simpa using congrArg Array.toList d1
 subst this;exact r.inj r'
end
noncomputable abbrev Cx.md(X:Cx)(E:Value->Shared->Prop):Cx:={ X with xe:=E }
abbrev Cx.IE(X:Cx):Cx:=X.md λ_ _=>False
theorem Cx.Ok.md{X:Cx}(ok:X.Ok)(E:Value->Shared->Prop):(X.md E).Ok :=
 ⟨ok.mod,ok.kind,ok.glob,ok.blt,ok.above,ok.inj,ok.has,ok.KG,ok.hd,ok.frames,ok.K1,ok.QM,ok.bs,ok.CN,ok.xV,ok.Bn,ok.jU,ok.GY⟩
variable {E:Value->Shared->Prop}{X:Cx}
theorem Cx.Ok.fA(ok:(X.md E).Ok):X.Ok :=
 ⟨ok.mod,ok.kind,ok.glob,ok.blt,ok.above,ok.inj,ok.has,ok.KG,ok.hd,ok.frames,ok.K1,ok.QM,ok.bs,ok.CN,ok.xV,ok.Bn,ok.jU,ok.GY⟩
section
variable {X:Cx}{pins:List (Addr×Obj)}{σ:St}{H:Hp}{s:Shared}{E:Value->Shared->Prop}
theorem Inv.md(I:Inv X pins σ H s)(E:Value->Shared->Prop):Inv (X.md E) pins σ H s:=⟨I.ok.md E,I.os,I.bare,I.base,I.loc,I.cell,I.free,I.gv,I.pin,I.bR,I.len⟩
theorem Inv.fA(I:Inv (X.md E) pins σ H s):Inv X pins σ H s:=⟨I.ok.fA,I.os,I.bare,I.base,I.loc,I.cell,I.free,I.gv,I.pin,I.bR,I.len⟩
theorem SP.fA{D:Ends}{f:Flow}{s':Shared}(h:SP (X.md E) pins D f s'):SP X pins D f s':=by
 cases f with
 | next=>obtain⟨σ',H',I,q⟩:=h;exact⟨σ',H',I.fA,q⟩
 | brk=>obtain⟨σ',H',I,q⟩:=h;exact⟨σ',H',I.fA,q⟩
 | cont=>obtain⟨σ',H',I,q⟩:=h;exact⟨σ',H',I.fA,q⟩
 | ret u=>obtain⟨v,σ',H',I,r,q⟩:=h;exact⟨v,σ',H',I.fA,r,q⟩
theorem kF.IE{st:List Stmt}{t:TS}(h:kF X.IE st t):kF X st t:=λpins s σ H D I hw =>
 Vn (h pins s σ H D (I.md _) hw) (λ_ _ q=>q.fA) λ_ _ z=>False.elim z
end
variable {H:Hp}{σ:L2.St}
section
variable {X:Cx}{st:Stmt}{rest:List Stmt}{t u:TS}{e:Expr}{te:TE}{pos:Pos}
noncomputable def Ca:TS:=λD σ H=>D.nx σ H
noncomputable def Mg(t u:TS):TS:=λD σ H=>t { D with nx:=u D } σ H
theorem AB:kF X [] Ca:=λ_ _ σ H _ I h=>wpAny_execs_nil ⟨σ,H,I,h⟩
theorem xx(h1:PS X st t)(h2:kF X rest u):kF X (st::rest) (Mg t u):=by
 intro pins s σ H D I h;refine wpAny_execs_cons (bV (h1 pins s σ H { D with nx:=u D } I h) λf s1 q=>?_);cases f with
 | next =>
  obtain⟨σ',H',I',q⟩:=q;exact h2 pins s1 σ' H' D I' q
 | ret v=>exact q
 | brk=>exact q
 | cont=>exact q
noncomputable def De:TS:=λD σ H=>D.bk σ H
noncomputable def Hy:TS:=λD σ H=>D.ct σ H
theorem K_:PS X (.Pass pos) Ca:=λ_ _ σ H _ I h=>wpAny_Pass ⟨σ,H,I,h⟩
theorem Ij:PS X (.Break pos) De:=λ_ _ σ H _ I h=>wpAny_Break ⟨σ,H,I,h⟩
theorem Co:PS X (.Continue pos) Hy:=λ_ _ σ H _ I h=>wpAny_Continue ⟨σ,H,I,h⟩
theorem Inv.quiet{pins:List (Addr×Obj)}{s:Shared}(I:Inv X pins σ H s):interactive X.env=false:=by simp[interactive,I.ok.kind]
noncomputable def Hx(te:TE):TS:=λD σ H=>te σ H λ_ H1=>D.nx σ H1
theorem nM(he:PE X e te)(hs:swapsWith e none pos.line X.env=pure false:=by rfl):PS X (.Expr e pos) (Hx te):=by
 intro pins s σ H D I h;exact wpAny_Expr_any (bV (he pins s σ H _ I h) λv s1 ⟨x,H1,I1,r1,q1⟩=>⟨σ,H1,I1,q1⟩) I.quiet hs
noncomputable def Mh(te:TE):TS:=λD σ H=>te σ H D.rt
theorem DT(he:PE X e te):PS X (.Return (some e) pos) (Mh te):=by
 intro pins s σ H D I h;exact wpAny_Return_some (bV (he pins s σ H _ I h) λv s1 ⟨x,H1,I1,r1,q1⟩=>⟨x,σ,H1,I1,r1,q1⟩)
noncomputable def Ht:TS:=λD _ H=>D.rt .aL H
theorem K9:PS X (.Return none pos) Ht:=λ_ _ σ H _ I h=>wpAny_Return_none ⟨.aL,σ,H,I,rfl,h⟩
noncomputable def Mm(c:TT)(t u:TS):TS:=λD σ H=>c σ H λb H1=>if b=true then t D σ H1 else u D σ H1
theorem Ii{c:Expr}{a b:List Stmt}{tc:TT}(hc:PT X c tc)(ha:kF X a t)(hb:kF X b u):PS X (.If c a b pos) (Mm tc t u):=by
 intro pins s σ H D I h;refine wpAny_If (bV (hc pins s σ H _ I h) λd s1 ⟨H1,I1,q1⟩=>?_);cases d with
 | true=>exact ha pins s1 σ H1 D I1 q1
 | false=>exact hb pins s1 σ H1 D I1 q1
end
noncomputable abbrev TG:=V->St->Hp->(St->Hp->Prop)->Prop
noncomputable abbrev BV:=List V->St->Hp->(St->Hp->Prop)->Prop
def PG(X:Cx)(target:Expr)(t:TG):Prop :=
 ∀(pins:List (Addr×Obj)) (s:Shared) (σ:St) (H:Hp) (v:V) (u:Value) (Q:St->Hp->Prop),Inv X pins σ H s->RelV v u->t v σ H Q ->
  wpAny (model X.prog X.w) X.A (assign target X.env u) (λ_ s'=>∃ σ' H',Inv X pins σ' H' s'/\Q σ' H') X.xe s
def G6(X:Cx)(ts:List Expr)(t:BV):Prop :=
 ∀(pins:List (Addr×Obj)) (s:Shared) (σ:St) (H:Hp) (vs:List V) (us:List Value) (Q:St->Hp->Prop),Inv X pins σ H s->Vals vs us->t vs σ H Q ->
  wpAny (model X.prog X.w) X.A (assignInOrder ((assignEach ts X.env).map (·.2)) us) (λ_ s'=>∃ σ' H',Inv X pins σ' H' s'/\Q σ' H') X.xe s
noncomputable abbrev Ge:=V->V->V->Hp->(Hp->Prop)->Prop
def KQ(X:Cx)(t:Ge):Prop :=
 ∀(pins:List (Addr×Obj)) (s:Shared) (σ:St) (H:Hp) (o i v:V) (ov iv u:Value) (Q:Hp->Prop),Inv X pins σ H s->RelV o ov->RelV i iv->RelV v u->t o i v H Q ->
  wpAny (model X.prog X.w) X.A (setItem ov iv u) (λ_ s'=>∃ H',Inv X pins σ H' s'/\Q H') X.xe s
noncomputable abbrev L4:=V->V->Hp->VK->Prop
def L5(X:Cx)(op:Operator)(t:L4):Prop :=
 ∀(pins:List (Addr×Obj)) (s:Shared) (σ:St) (H:Hp) (x y:V) (v u:Value) (Q:VK),Inv X pins σ H s->RelV x v->RelV y u->t x y H Q ->
  wpAny (model X.prog X.w) X.A (inplaceOp op v u) (EP X pins σ Q) X.xe s
variable {es:List Expr}{te:TE}{tg:Expr}
section
variable {X:Cx}{pos:Pos}
noncomputable def m6(i:Nat):TG:=λv σ H Q=>Q (σ.set i (some v)) H
theorem nN{i:Nat}{x:Str}(hN:X.N.Nodup)(hi:X.N[i]?=some x)(hx:Loc X.env.scope x)(hf:X.fn x=true\/X.env.scope.names.lookup x=some .local:=by first | exact .inl rfl | exact .inr rfl | assumption):PG X (.Name x pos) (m6 i):=by
 intro pins s σ H v u Q I r h;exact wpAny_assign_Name (ip I hN hi hx r (λs' I'=>⟨_,H,I',h⟩) hf)
noncomputable def Fv:BV:=λvs σ H Q=>vs=[]/\Q σ H
noncomputable def yH(t:TG)(u:BV):BV:=λvs σ H Q=>∃ v r,vs=v::r/\t v σ H λσ' H'=>u r σ' H' Q
theorem tP:G6 X [] Fv:=by
 intro pins s σ H vs us Q I r h;obtain⟨e,h⟩:=h;subst e;cases r;exact assignInOrder_nil ⟨σ,H,I,h⟩
theorem pN{e:Expr}{t:TG}{u:BV}(h1:PG X e t)(h2:G6 X es u)
  (hs:(assignEach (e::es) X.env).map (·.2)=assign e X.env::(assignEach es X.env).map (·.2):=by rfl):G6 X (e::es) (yH t u):=by
 intro pins s σ H vs us Q I r h;obtain⟨v,vr,e1,h⟩:=h;subst e1;cases r with
 | cons r rr =>
  rw[hs];refine assignInOrder_cons (bV (h1 pins s σ H _ _ _ I r h) λ_ s1 ⟨σ1,H1,I1,q1⟩=>?_);exact h2 pins s1 σ1 H1 _ _ Q I1 rr q1
def Oy(K:PySem.W.Frag)(n:Nat)(t:BV):TG:=λv σ H Q=>∃ a xs,v=.ref a/\ao K H a xs/\xs.length=n/\t xs σ H Q
theorem xE{k:Nat}{t:BV}{n:Nat}(hc:X.calm=true)(h:G6 X es t)
  (hn:(assignEach es X.env).length=n:=by rfl) (n9:(assignEach es X.env).findIdx? (·.1)=none:=by rfl):PG X (.Tuple es k pos) (Oy X.K n t):=by
 intro pins s σ H v u Q I r hw;obtain⟨a,xs,e1,hq,hl,hw⟩:=hw;subst e1;cases r;obtain⟨af,rv,ht,hz⟩:=I.tuple hq;refine assign_Tuple_tuple (I.ok.hd hc) ht (by simp[hn,<- hl,rv.length]) n9 λh' hx=>?_;have I1:Inv X pins σ H { s with heap:=h' }:=I.kept (t':=s.toks) λb o e=>hx b o (Vi (Vd e)) e;exact h pins _ σ H xs _ Q I1 (by simpa using rv) hw
noncomputable def Oz(to ti:TE)(t:Ge):TG:=λv σ H Q=>to σ H λo H1=>ti σ H1 λi H2=>t o i v H2 λH3=>Q σ H3
theorem DX{o i:Expr}{to ti:TE}{t:Ge}(ho:PE X o to)(hi:PE X i ti)(hs:KQ X t)
  (ha:∀ v,assign (.Subscript o i pos) X.env v=(do
   let ov <- holding [v] (eval o X.env)
   let iv <- holding [v,ov] (eval i X.env)
   standAt pos
   holding [v,ov,iv] (setItem ov iv v)
   release [v,ov,iv] []):=by intro _;rfl):PG X (.Subscript o i pos) (Oz to ti t):=by
 intro pins s σ H v u Q I r h;rw[ha];refine U6 (VN (bV (ho pins s σ H _ I h) λov s1 ⟨x,H1,I1,r1,q1⟩=>?_));refine U6 (VN (bV (hi pins s1 σ H1 _ I1 q1) λiv s2 ⟨y,H2,I2,r2,q2⟩=>?_));refine U6 (WJ (U6 (VN (bV (hs pins s2 σ H2 x y v ov iv u _ I2 r1 r2 r q2) λ_ s3 ⟨H3,I3,q3⟩=>?_))));exact wpAny_release ⟨σ,H3,I3,q3⟩
noncomputable def Mq(te:TE)(g:TG):TS:=λD σ H=>te σ H λx H1=>g x σ H1 D.nx
theorem rF{e:Expr}{g:TG}(he:PE X e te)(hg:PG X tg g)(hs:swapsWithSole [tg] e pos.line X.env=pure false:=by rfl)(hw:swappedStores [tg] e X.env=pure none:=by rfl)
  (h1:(assignEach [tg] X.env).map (·.2)=[assign tg X.env]:=by rfl):PS X (.Assign [tg] e pos) (Mq te g):=by
 intro pins s σ H D I h;refine wpAny_Assign_stores (bV (he pins s σ H _ I h) λv s1 ⟨x,H1,I1,r1,q1⟩=>?_) hs hw;rw[h1];exact bV (hg pins s1 σ H1 x v _ I1 r1 q1) λ_ s2 q=>q
noncomputable def Mi(i j:Nat)(ta:TA):TS:=λD σ H=>ta σ H λvs H1=>∃ v w,vs=[v,w]/\D.nx ((σ.set i (some v)).set j (some w)) H1
theorem DU{i j:Nat}{x y:Str}{a b:Expr}{ta:TA}{px py pt:Pos}{kt k2 Gw}(hc:X.calm=true)(hN:X.N.Nodup)(hi:X.N[i]?=some x)(hj:X.N[j]?=some y)(gi:i≠j)
  (hx:X.env.scope.names.lookup x=some .local) (hy:X.env.scope.names.lookup y=some .local) (ha:PA X [a,b] ta)
  (hw:swappedStores [.Tuple [.Name x px,.Name y py] kt pt] (.Tuple [a,b] k2 Gw) X.env=pure (some [x,y]))
  (hs:swapsWithSole [.Tuple [.Name x px,.Name y py] kt pt] (.Tuple [a,b] k2 Gw) pos.line X.env=pure false:=by rfl) :
  PS X (.Assign [.Tuple [.Name x px,.Name y py] kt pt] (.Tuple [a,b] k2 Gw) pos) (Mi i j ta):=by
 intro pins s σ H D I h;rw[exec_Assign_arm];refine U6 (WJ ?_);rw[hs];refine U6 (U9 ?_);rw[if_neg (by decide)];refine U6 (Tuple_ (bV (ha _ pins s σ H _ I h) λus s1 ⟨vs,H1,I1,r1,q1⟩=>?_));obtain⟨v,w,e1,q1⟩:=q1;subst e1;obtain⟨u1,u2,rfl,rv,iw⟩:∃ u1 u2,us=[u1,u2]/\RelV v u1/\RelV w u2:=by
  cases r1 with
  | cons p q =>
   cases q with
   | cons p' q' =>
    cases q';exact⟨_,_,rfl,p,p'⟩
 refine Vq ?_ (by show 2<=sizeLine;decide);have I2:Inv X pins σ H1 { s1 with heap:=s1.heap.push { cls:=.type "tuple",data:=.seq [u1,u2].toArray } }:=I1.kept (t':=s1.toks) λb o e=>U_ _ e;rw[hw];refine U6 (U9 ?_);show wpAny (model X.prog X.w) X.A (do rule "assign.swapped-stores";let items <- unpackItems (.ref s1.heap.objs.size) 2 none;assignInOrder [λv=>bindName X.env y v,λv=>bindName X.env x v] items.reverse;pure Flow.next) _ _ _;refine U6 (wpAny_rule (U6 (unpackItems_tuple (items:=#[u1,u2]) (I.ok.hd hc) (IsTup.new s1.heap _) λh' zD=>?_)));have I3:=I2.kept (h':=h') (t':=s1.toks) λb o e=>zD b o (Vi (Vd e)) e;show wpAny _ _ (assignInOrder [λv=>bindName X.env y v,λv=>bindName X.env x v] [u2,u1] >>= λ_=>pure Flow.next) _ _ _;refine U6 (assignInOrder_cons (wpAny_bindName (ip I3 hN hj (.inl hy) iw (λs2 I4=>?_) (.inr hy))));refine assignInOrder_cons (wpAny_bindName (ip I4 hN hi (.inl hx) rv (λs3 I5=>assignInOrder_nil (U9 ?_)) (.inr hx)));rw[List.set_comm _ _ (Ne.symm gi)]at I5;exact⟨_,H1,I5,q1⟩
noncomputable def Mp(i:Nat)(te:TE)(ti:L4):TS:=λD σ H=>∃ x,σ[i]?=some (some x)/\te σ H λy H1=>ti x y H1 λz H2=>D.nx (σ.set i (some z)) H2
theorem DV{i:Nat}{x:Str}{e:Expr}{op:Operator}{ti:L4}{pos':Pos}(hN:X.N.Nodup)(hi:X.N[i]?=some x)(hx:Loc X.env.scope x)(he:PE X e te)(ho:L5 X op ti)(hf:X.fn x=true\/X.env.scope.names.lookup x=some .local:=by first | exact .inl rfl | exact .inr rfl | assumption):
  PS X (.AugAssign (.Name x pos') op e pos) (Mp i te ti):=by
 intro pins s σ H D I h;obtain⟨v,e1,h⟩:=h;obtain⟨m,hn,hl⟩:=I.loc;have KS:Gd X.env.scope x:=by rcases hx with k | k;exact .inl k;exact .inr (.inl k)
 obtain⟨u,r,l⟩:=hl i x v hi e1 KS;refine wpAny_AugAssign_Name ?_;have go:wpAny (model X.prog X.w) X.A (eval e X.env) (λw s₂=>wpAny (model X.prog X.w) X.A (inplaceOp op u w) (λr s₃=>wpAny (model X.prog X.w) X.A (storeName X.env x r) (λ_=>SP X pins D .next) X.xe s₃) X.xe s₂) X.xe s:=by
  refine bV (he pins s σ H _ I h) λw s1 ⟨y,H1,I1,r1,q1⟩=>?_;refine bV (ho pins s1 σ H1 v y u w _ I1 r r1 q1) λz s2 ⟨zv,H2,I2,r2,q2⟩=>?_;exact ip I2 hN hi hx r2 (λs3 I3=>⟨_,H2,I3,q2⟩) hf
 rcases l with ⟨hk,hm⟩ | ⟨hk,c,hc,hcell⟩
 ·exact wpAny_loadName_local I.ok.kind hk hn hm go
 ·rcases hk with hk | hk
  ·exact wpAny_loadName_cell I.ok.kind hk hc hcell go
  ·rcases hx with k | k
   ·have:X.env.scope.names.lookup x=some .free:=hk;rw[k]at this;cases this
   ·have:X.env.scope.names.lookup x=some .free:=hk;rw[k]at this;cases this
noncomputable def Qe(f:Int->Int->Int):L4:=λx y H Q=>∃ i j,x=.int i/\y=.int j/\Q (.int (f i j)) H
theorem NB:L5 X .Add (Qe λi j=>i+j):=by
 intro pins s σ H x y v u Q I r1 r2 h;obtain⟨i,j,e1,e2,q⟩:=h;subst e1;subst e2;obtain⟨t,rfl⟩:=r1;obtain⟨t',rfl⟩:=r2;exact iadd_int ⟨.int _,H,I.tok _,⟨_,rfl⟩,q⟩
theorem NA:L5 X .Sub (Qe λi j=>i - j):=by
 intro pins s σ H x y v u Q I r1 r2 h;obtain⟨i,j,e1,e2,q⟩:=h;subst e1;subst e2;obtain⟨t,rfl⟩:=r1;obtain⟨t',rfl⟩:=r2;exact isub_int ⟨.int _,H,I.tok _,⟨_,rfl⟩,q⟩
end
section
variable {X:Cx}{pos:Pos}
noncomputable def Dc(c:TT)(tb:TS):TS:=λD σ H=>∃ W:Nat->St->Hp->Prop,(∃ m,W m σ H)/\∀ m σ H,W m σ H ->
 c σ H λb H1=>if b=true then ∃ N:St->Hp->Prop,(∀ σ' H',N σ' H'->∃ m',m'<m/\W m' σ' H')/\tb { D with nx:=N,ct:=N,bk:=D.nx } σ H1 else D.nx σ H1
theorem xy{c:Expr}{body:List Stmt}{tc:TT}{tb:TS}(hp:PassesOwn (model X.prog X.w) X.A X.env X.xe)(hc:PT X c tc)(hb:kF X body tb):PS X (.While c body [] pos) (Dc tc tb):=by
 intro pins s σ H D I h;obtain⟨W,⟨m0,w0⟩,turn⟩:=h;refine wpAny_While (codeAny_whileLoop (λn s'=>∃ σ' H',Inv X pins σ' H' s'/\W n σ' H') ?_ m0 ⟨σ,H,I,w0⟩);rintro n s1 ⟨σ1,H1,I1,w1⟩;refine VM hp (bV (hc pins s1 σ1 H1 _ I1 (turn n σ1 H1 w1)) λb s2 ⟨H2,I2,q2⟩=>?_);cases b with
 | true =>
  obtain⟨N,hN,q2⟩:=q2;rw[if_pos rfl];refine VM hp (bV (hb pins s2 σ1 H2 _ I2 q2) λf s3 q3=>?_);cases f with
  | next =>
   obtain⟨σ3,H3,I3,n3⟩:=q3;obtain⟨m',hm,w3⟩:=hN σ3 H3 n3;exact⟨m',hm,σ3,H3,I3,w3⟩
  | cont =>
   obtain⟨σ3,H3,I3,n3⟩:=q3;obtain⟨m',hm,w3⟩:=hN σ3 H3 n3;exact⟨m',hm,σ3,H3,I3,w3⟩
  | brk=>exact q3
  | ret v=>exact q3
 | false =>
  rw[if_neg Bool.false_ne_true];exact wpAny_execs_nil ⟨σ1,H2,I2,q2⟩
end
structure It where
 go:Nat->Hp->Prop
 qR:Nat->Hp->V->Hp->Prop
 stop:Nat->Hp->Prop
noncomputable def l5(X:Cx)(pins:List (Addr×Obj))(H:Hp)(b:Addr):Prop :=
 H b=none/\b≠X.env.locals/\b∉X.fs/\(b∈X.ex\/X.s₀.heap.objs.size<=b)/\(∀ x c,X.env.cells.lookup x=some c->c≠b)/\∀ p∈X.pn++pins,p.1≠b
theorem Inv.yL{pins:List (Addr×Obj)}{H':Hp}{s:Shared}{b:Addr}(I:Inv X pins σ H s)(hb:s.heap.objs.size<=b)(hn:H' b=none):l5 X pins H' b:=by
 refine⟨hn,VJ (Vf I.lt hb),I.Eh hb,.inr (Vp I.sz hb),λx c e z=>?_,λp hp z=>?_⟩
 ·obtain⟨v,q⟩:=I.cell x c e;exact absurd (Vf q.lt (by rw[z];exact hb)) (Vz _)
 ·exact absurd (Vf (Vd (I.pin p hp).1) (by rw[z];exact hb)) (Vz _)
structure Turn(P:Program)(w:World)(K:PySem.W.Frag)(tg:Expr)(J:It)(fp:List Addr)(it:Addr)(tn:Nat->Heap->Prop):Prop where
 mem:it∈fp
 obj:∀ i h,tn i h->∀ b∈fp,∃ o,h.get? b=some o/\∀ v,o.data≠.cell v
 keep:∀ i h h',tn i h->(∀ b∈fp,∀ o,h.get? b=some o->h'.get? b=some o)->tn i h'
 item:∀(X:Cx),X.prog=P->X.w=w->X.K=K->X.calm=true->∀(i:Nat) (pins:List (Addr×Obj)) (s:Shared) (σ:St) (H:Hp) (E:Value->Shared->Prop),Inv X pins σ H s->(∀ b∈fp,l5 X pins H b)->tn i s.heap->J.go i H ->
  wpAny (model P w) X.A (pyNext (.ref it)) (λr s1=>∃ u,r=some u /\
   wpAny (model P w) X.A (letOwnedTupleGo tg (.ref it) u) (λ_ s2=>∃ x H',Inv X pins σ H' s2/\RelV x u/\J.qR i H x H'/\tn (i+1) s2.heap/\∀ b∈fp,H' b=none) E s1) E s
 done:∀(X:Cx),X.prog=P->X.w=w->X.K=K->X.calm=true->∀(i:Nat) (pins:List (Addr×Obj)) (s:Shared) (σ:St) (H:Hp) (E:Value->Shared->Prop),Inv X pins σ H s->(∀ b∈fp,l5 X pins H b)->tn i s.heap->J.stop i H ->
  wpAny (model P w) X.A (pyNext (.ref it)) (λr s1=>r=none/\Inv X pins σ H s1) E s
 self:∀(A:Around) (i:Nat) (s:Shared) (Q:Value->Shared->Prop) (E:Value->Shared->Prop),tn i s.heap->Q (.ref it) s->wpAny (model P w) A (pyIter (.ref it)) Q E s
noncomputable abbrev TI:=St->Hp->(It->Hp->Prop)->Prop
def wG(X:Cx)(pins:List (Addr×Obj))(σ:St)(tg:Expr)(R:It->Hp->Prop)(Nq:Value)(s2:Shared):Prop :=
 ∃(it:Addr) (fp:List Addr) (tn:Nat->Heap->Prop) (J:It) (H':Hp),Nq=.ref it/\Inv X pins σ H' s2/\Turn X.prog X.w X.K tg J fp it tn/\tn 0 s2.heap/\(∀ b∈fp,l5 X pins H' b)/\R J H'
def PI(X:Cx)(tg iter:Expr)(wi:TI):Prop :=
 ∀(pins:List (Addr×Obj)) (s:Shared) (σ:St) (H:Hp) (R:It->Hp->Prop),Inv X pins σ H s->wi σ H R ->
  wpAny (model X.prog X.w) X.A (eval iter X.env) (λv s1=>wpAny (model X.prog X.w) X.A (pyIter v) (wG X pins σ tg R) X.xe s1) X.xe s
theorem yD{M:Model}{A:Around}{s:Shared}{it:Addr}{u:Value}{o:Obj}{n:String}{vs:Array Value}{Q:Unit->Shared->Prop}(ho:s.heap.get? it=some o)(hc:o.cls=.type n)(hd:o.data=.fields vs)
    (hn:["enumerate","zip","dict_itemiterator","dict_reverseitemiterator","odict_iterator","itertools.zip_longest","itertools.pairwise"].contains n=false) (hQ:Q () s):wpAny M A (letOwnedTupleGo tg (.ref it) u) Q E s:=by
  unfold letOwnedTupleGo;cases tg<;>first
    | exact U9 hQ
    | (cases u<;>first
        | exact U9 hQ
        | (refine U6 (wpAny_load ho ?_)
           rw[hc,hd];show wpAny M A (if (["enumerate","zip","dict_itemiterator","dict_reverseitemiterator","odict_iterator","itertools.zip_longest","itertools.pairwise"].contains n&&vs[0]?==some (rawInt _))=true then _ else _) Q E s;rw[if_neg (by intro h;rw[hn,Bool.false_and]at h;cases h)];exact U9 hQ))
def G8(K:PySem.W.Frag)(a:Addr):It :=
 ⟨λi H=>∃ xs x,c_ K H a xs/\xs[i]?=some x,λi H x H'=>H'=H/\∀ xs,c_ K H a xs->xs[i]?=some x,λi H=>∃ xs,c_ K H a xs/\xs.length<=i⟩
def G7(K:PySem.W.Frag)(a:Addr):It :=
 ⟨λi H=>∃ xs x,ao K H a xs/\xs[i]?=some x,λi H x H'=>H'=H/\∀ xs,ao K H a xs->xs[i]?=some x,λi H=>∃ xs,ao K H a xs/\xs.length<=i⟩
noncomputable def wq(lo:Int)(n:Nat):It:=⟨λi _=>i<n,λi H x H'=>H'=H/\x=.int (lo+i),λi _=>n<=i⟩
variable {P:Program}{w:World}
theorem vf(a it:Addr):Turn P w K tg (G8 K a) [it] it (λi h=>h.IsListIter it a i) where
 mem:=by simp
 obj:=λi h st b hb=>by
  have e:b=it:=by simpa using hb
  subst e;obtain⟨o,e,c,d⟩:=st;exact⟨o,e,λv z=>by rw[d]at z;cases z⟩
 keep:=λi h h' st k=>st.at λo e=>k it (by simp) o e
 item:=by
  intro X hP hw hK hc i pins s σ H E I hf st hg;subst hP hw hK;obtain⟨xs,x,hq,hx⟩:=hg;obtain⟨af,rv,p,hz⟩:=I.list hq;obtain⟨u,hu,ru⟩:=rv.get hx;obtain⟨f0,f1,f2,f3,f4,f5⟩:=hf it (by simp);refine wpAny_pyNext_list_item st p.isList (x:=u) (by simpa using hu) λh' i7 sb=>?_;have I1:Inv X pins σ H { s with heap:=h' }:=I.turned (t':=s.toks) (λb o hb e=>(sb.2 b hb).trans e) f0 f1 f3 f4 f5;obtain⟨o,e,c,d⟩:=id i7;exact⟨u,rfl,yD (s:={ s with heap:=h' }) e c d (by decide) ⟨x,H,I1,ru,⟨rfl,λys hy=>by rw[I.p3 hy hq];exact hx⟩,i7,λb hb=>(hf b hb).1⟩⟩
 done:=by
  intro X hP hw hK hc i pins s σ H E I hf st hg;subst hP hw hK;obtain⟨xs,hq,hx⟩:=hg;obtain⟨af,rv,p,hz⟩:=I.list hq;obtain⟨f0,f1,f2,f3,f4,f5⟩:=hf it (by simp);have hl:=rv.length;exact wpAny_pyNext_list_end (I.ok.hd hc) st p.isList (by simp;left) λh' eb=>⟨rfl,I.turned (t':=s.toks) (λb o hb e=>eb b o hb e) f0 f1 f3 f4 f5⟩
 self:=λ_ _ _ _ _ st h=>wpAny_pyIter_listiter st h
theorem q_(a it:Addr):Turn P w K tg (G7 K a) [it] it (λi h=>h.IsTupleIter it a i) where
 mem:=by simp
 obj:=λi h st b hb=>by
  have e:b=it:=by simpa using hb
  subst e;obtain⟨o,e,c,d⟩:=st;exact⟨o,e,λv z=>by rw[d]at z;cases z⟩
 keep:=λi h h' st k=>st.at λo e=>k it (by simp) o e
 item:=by
  intro X hP hw hK hc i pins s σ H E I hf st hg;subst hP hw hK;obtain⟨xs,x,hq,hx⟩:=hg;obtain⟨af,rv,p,hz⟩:=I.tuple hq;obtain⟨u,hu,ru⟩:=rv.get hx;obtain⟨f0,f1,f2,f3,f4,f5⟩:=hf it (by simp);refine wpAny_pyNext_tuple_item st (show s.heap.IsTuple a af.toArray from p) (x:=u) (by simpa using hu) λh' i7 sb=>?_;have I1:Inv X pins σ H { s with heap:=h' }:=I.turned (t':=s.toks) (λb o hb e=>(sb.2 b hb).trans e) f0 f1 f3 f4 f5;obtain⟨o,e,c,d⟩:=id i7;exact⟨u,rfl,yD (s:={ s with heap:=h' }) e c d (by decide) ⟨x,H,I1,ru,⟨rfl,λys hy=>by rw[I.i4 hy hq];exact hx⟩,i7,λb hb=>(hf b hb).1⟩⟩
 done:=by
  intro X hP hw hK hc i pins s σ H E I hf st hg;subst hP hw hK;obtain⟨xs,hq,hx⟩:=hg;obtain⟨af,rv,p,hz⟩:=I.tuple hq;obtain⟨f0,f1,f2,f3,f4,f5⟩:=hf it (by simp);have hl:=rv.length;exact wpAny_pyNext_tuple_end (I.ok.hd hc) st (show s.heap.IsTuple a af.toArray from p) (by simp;left) λh' eb=>⟨rfl,I.turned (t':=s.toks) (λb o hb e=>eb b o hb e) f0 f1 f3 f4 f5⟩
 self:=λ_ _ _ _ _ st h=>wpAny_pyIter_tupleiter st h
theorem ra(it:Addr)(lo:Int)(n:Nat):Turn P w K tg (wq lo n) [it] it (λi h=>IsRangeIter h it (lo+(i:Nat)*1) ((n:Int) - (i:Nat)) 1) where
 mem:=by simp
 obj:=λi h st b hb=>by
  have e:b=it:=by simpa using hb
  subst e;exact⟨_,st,λv z=>by
   have z':Data.fields _=Data.cell v:=z;cases z'⟩
 keep:=λi h h' st k=>k it (by simp) _ st
 item:=by
  intro X hP hw hK hc i pins s σ H E I hf st hg;subst hP hw hK;obtain⟨f0,f1,f2,f3,f4,f5⟩:=hf it (by simp);have W:=Walks.range (prog:=X.prog) (w:=X.w) (I.ok.hd hc) it lo 1 n;refine W.item i s _ _ hg st λv h' tk hv i7 kk=>?_;obtain⟨t,rfl⟩:=hv;have I1:Inv X pins σ H { s with heap:=h',toks:=tk }:=I.turned (λb o hb e=>kk b o (by simpa using hb) e) f0 f1 f3 f4 f5;refine⟨_,rfl,yD (s:={ s with heap:=h',toks:=tk }) (n:="range_iterator") i7 rfl rfl (by decide) ⟨.int (lo+i),H,I1,⟨t,?_⟩,⟨rfl,rfl⟩,i7,λb hb=>(hf b hb).1⟩⟩;rw[Int.mul_one]
 done:=by
  intro X hP hw hK hc i pins s σ H E I hf st hg;subst hP hw hK;obtain⟨f0,f1,f2,f3,f4,f5⟩:=hf it (by simp);exact wpAny_pyNext_range_end (I.ok.hd hc) st (by have:n<=i:=hg;left) λh' eb=>⟨rfl,I.turned (t':=s.toks) (λb o hb e=>eb b o hb e) f0 f1 f3 f4 f5⟩
 self:=λ_ _ _ _ _ st h=>wpAny_pyIter_rangeiter st h
end L2
namespace L2
open PySem PySem.Spec PyProof.Rows
variable {H:Hp}{fp:List Addr}{h:Heap}{lo:Int}{pos:Pos}{ta:TA}{tl:TE}{σ:L2.St}
section
variable {X:Cx}{tg:Expr}
def Jv(K:PySem.W.Frag)(tl:TE):TI:=λσ H R=>tl σ H λx H1=>∃ a,x=.ref a/\(∃ xs,c_ K H1 a xs)/\R (G8 K a) H1
def ND(K:PySem.W.Frag)(tl:TE):TI:=λσ H R=>tl σ H λx H1=>∃ a,x=.ref a/\(∃ xs,ao K H1 a xs)/\R (G7 K a) H1
theorem tO{l:Expr}(hl:PE X l tl):PI X tg l (Jv X.K tl):=by
 intro pins s σ H R I h;refine bV (hl pins s σ H _ I h) λv s1 ⟨x,H1,I1,r1,q1⟩=>?_;obtain⟨a,e,⟨xs,hq⟩,q⟩:=q1;subst e;cases r1;obtain⟨af,rv,p,hz⟩:=I1.list hq;refine wpAny_pyIter_list p.isList ?_;refine⟨s1.heap.objs.size,[s1.heap.objs.size],_,_,H1,rfl,I1.kept (t':=s1.toks) λb o e=>U_ _ e,vf a _,⟨_,Ve _ rfl,rfl,rfl⟩,λb hb=>?_,q⟩;have e:b=s1.heap.objs.size:=by simpa using hb
 subst e;exact I1.yL (Vc _) (I1.bR.fresh (Vc _))
theorem xC{l:Expr}(hl:PE X l tl):PI X tg l (ND X.K tl):=by
 intro pins s σ H R I h;refine bV (hl pins s σ H _ I h) λv s1 ⟨x,H1,I1,r1,q1⟩=>?_;obtain⟨a,e,⟨xs,hq⟩,q⟩:=q1;subst e;cases r1;obtain⟨af,rv,p,hz⟩:=I1.tuple hq;refine wpAny_pyIter_tuple (show s1.heap.IsTuple a af.toArray from p) ?_;refine⟨s1.heap.objs.size,[s1.heap.objs.size],_,_,H1,rfl,I1.kept (t':=s1.toks) λb o e=>U_ _ e,q_ a _,⟨_,Ve _ rfl,rfl,rfl⟩,λb hb=>?_,q⟩;have e:b=s1.heap.objs.size:=by simpa using hb
 subst e;exact I1.yL (Vc _) (I1.bR.fresh (Vc _))
theorem pK{pins:List (Addr×Obj)}{s:Shared}{R:It->Hp->Prop}{E:Value->Shared->Prop}{hi:Int}{t u v:Tok}{tk:Nat}(I:Inv X pins σ H s)(h1:-(2 ^ 62)<=lo)(h2:lo<2 ^ 62)(h3:-(2 ^ 62)<=hi)(h4:hi<2 ^ 62)
  (q:R (wq lo (hi - lo).toNat) H):wpAny (model X.prog X.w) X.A (pyIter (.ref s.heap.objs.size)) (wG X pins σ tg R) E { s with heap:=s.heap.push { cls:=.type "range",data:=.fields #[.int lo t,.int hi u,.int 1 v] },toks:=tk }:=by
 refine wpAny_pyIter_range (IsRange.new ..) (small_one h1 h2 h3 h4) ?_;have I1:Inv X pins σ H { s with heap:=s.heap.push { cls:=.type "range",data:=.fields #[.int lo t,.int hi u,.int 1 v] },toks:=tk }:=I.kept λb o e=>U_ _ e;refine⟨(s.heap.push { cls:=.type "range",data:=.fields #[.int lo t,.int hi u,.int 1 v] }).objs.size,[(s.heap.push { cls:=.type "range",data:=.fields #[.int lo t,.int hi u,.int 1 v] }).objs.size],_,_,H,rfl,
  I1.kept (t':=tk) λb o e=>U_ _ e,ra _ lo (hi - lo).toNat,?_,λb hb=>?_,q⟩
 ·have e1:lo+((0:Nat):Int)*1=lo:=by simp
  have e2:(((hi - lo).toNat:Nat):Int) - ((0:Nat):Int)=Builtin.Range.rangeSize lo hi 1:=by rw[rangeSize_one];split<;>left
  show IsRangeIter _ _ (lo+((0:Nat):Int)*1) ((((hi - lo).toNat:Nat):Int) - ((0:Nat):Int)) 1;rw[e1,e2];exact Ve _ rfl
 ·have e:b=(s.heap.push { cls:=.type "range",data:=.fields #[.int lo t,.int hi u,.int 1 v] }).objs.size:=by simpa using hb
  subst e;exact I1.yL (Vc _) (I1.bR.fresh (Vc _))
def Ju(ta:TA):TI:=λσ H R=>ta σ H λvs H1=>∃ j:Int,vs=[.int j] /\ -(2 ^ 62)<=j/\j<2 ^ 62/\R (wq 0 j.toNat) H1
def Jt(ta:TA):TI:=λσ H R=>ta σ H λvs H1=>∃ i j:Int,vs=[.int i,.int j]/\(-(2 ^ 62)<=i/\i<2 ^ 62 /\ -(2 ^ 62)<=j/\j<2 ^ 62)/\R (wq i (j - i).toNat) H1
theorem mP{a:Expr}{p:Pos}(hg:Gl X "range")(hm:X.mg "range" = none)(ha:PA X [a] ta)(hs:starEach [a] X.env=[(false,eval a X.env)]:=by rfl):PI X tg (.Call (.Name "range" p) [a] [] pos) (Ju ta):=by
 intro pins s σ H R I h;refine Call_ (eM I hg hm boot_range (Vv (bV (ha pos pins s σ H _ I h) λus s1 ⟨vs,H1,I1,r1,q1⟩=>?_) hs rfl));obtain⟨j,e,q1,q2,q⟩:=q1;subst e;cases r1 with
 | cons r rr =>
  cases rr;obtain⟨t,rfl⟩:=r;exact call_range_1 (pK I1 (by left) (by left) q1 q2 (by simpa using q))
theorem Gy{a b:Expr}{p:Pos}(hg:Gl X "range")(hm:X.mg "range" = none)(ha:PA X [a,b] ta)(hs:starEach [a,b] X.env=[(false,eval a X.env),(false,eval b X.env)]:=by rfl)(Qk:starEach [b] X.env=[(false,eval b X.env)]:=by rfl):
  PI X tg (.Call (.Name "range" p) [a,b] [] pos) (Jt ta):=by
 intro pins s σ H R I h;refine Call_ (eM I hg hm boot_range (Vv (bV (ha pos pins s σ H _ I h) λus s1 ⟨vs,H1,I1,r1,q1⟩=>?_) (by rw[hs,Qk]) (by rw[Qk];rfl)));obtain⟨i,j,e,⟨q1,q2,q3,q4⟩,q⟩:=q1;subst e;cases r1 with
 | cons r rr =>
  cases rr with
  | cons r' rr =>
   cases rr;obtain⟨t,rfl⟩:=r;obtain⟨t',rfl⟩:=r';exact call_range_2 (pK I1 q1 q2 q3 q4 q)
noncomputable def Mn(wi:TI)(g:TG)(tb:TS):TS:=λD σ H=>wi σ H λJ H1=>∃ W:Nat->Nat->St->Hp->Prop,(∃ m,W 0 m σ H1)/\∀ i m σ H,W i m σ H ->
 (J.stop i H/\D.nx σ H)\/(J.go i H/\∃ N:St->Hp->Prop,(∀ σ' H',N σ' H'->∃ m',m'<m/\W (i+1) m' σ' H')/\∀ x H',J.qR i H x H'->g x σ H' λσ2 H2=>tb { D with nx:=N,ct:=N,bk:=D.nx } σ2 H2)
noncomputable def fG(fp:List Addr)(h:Heap):List (Addr×Obj):=fp.filterMap λb=>(h.get? b).map λo=>(b,o)
theorem eK{b:Addr}{o:Obj}(hb:b∈fp)(e:h.get? b=some o):(b,o)∈fG fp h:=List.mem_filterMap.mpr ⟨b,hb,by rw[e];rfl⟩
theorem mT{p:Addr×Obj}(hp:p∈fG fp h):p.1∈fp/\h.get? p.1=some p.2:=by
 obtain⟨b,hb,e⟩:=List.mem_filterMap.mp hp;cases q:h.get? b with
 | none=>rw[q]at e;cases e
 | some o =>
  rw[q]at e;have e':(b,o)=p:=Vk e;subst e';exact⟨hb,q⟩
theorem Inv.pinned{pins:List (Addr×Obj)}{s:Shared}(I:Inv X pins σ H s)(hf:∀ b∈fp,l5 X pins H b)(ho:∀ b∈fp,∃ o,s.heap.get? b=some o/\∀ v,o.data≠.cell v):Inv X (pins++fG fp s.heap) σ H s :=
 I.f9 λp hp=>(List.mem_append.mp hp).elim (λz=>I.pin p (Vg _ z)) λz=>by
  obtain⟨hb,e⟩:=mT z;obtain⟨f0,f1,f2,_⟩:=hf p.1 hb;obtain⟨o,e',d⟩:=ho p.1 hb;rw[e]at e';cases e';exact⟨e,f0,f1,f2,d⟩
theorem Inv.ie{pins pl:List (Addr×Obj)}{s:Shared}(I:Inv X (pins++pl) σ H s):Inv X pins σ H s:=I.f9 λp hp=>I.pin p (Vg _ (Vw _ hp))
theorem nL{iter:Expr}{body:List Stmt}{wi:TI}{g:TG}{tb:TS}(hp:PassesOwn (model X.prog X.w) X.A X.env X.xe)(hc:X.calm=true)(hi:PI X tg iter wi)(hg:PG X tg g)(hb:kF X body tb)
  (hs:∀ x,foldedSetIterable iter X.env x=pure x:=by intro _;rfl):PS X (.For tg iter body [] pos) (Mn wi g tb):=by
 intro pins s σ H D I h;refine wpAny_For (bV (hi pins s σ H _ I h) λv s1 h1=>bV h1 λNq s2 h2=>?_) hs;obtain⟨it,fp,tn,J,H2,e,I2,T,HE,f2,W,⟨m0,w0⟩,turn⟩:=h2;subst e;have Di:∀ {H':Hp},(∀ b∈fp,H' b=none)->∀ b∈fp,l5 X pins H' b:=λhn b hb=>⟨hn b hb,(f2 b hb).2⟩
 refine codeAny_forLoop_any (λn s'=>∃ i σ' H',Inv X pins σ' H' s'/\tn i s'.heap/\(∀ b∈fp,H' b=none)/\W i n σ' H') ?_ m0 ⟨0,σ,H2,I2,HE,λb hb=>(f2 b hb).1,w0⟩;rintro n s3 ⟨i,σ3,H3,I3,st3,fr3,w3⟩;rcases turn i n σ3 H3 w3 with ⟨stop,qn⟩ | ⟨go,N,hN,step⟩
 ·refine VM hp (bV (T.done X rfl rfl rfl hc i pins s3 σ3 H3 X.xe I3 (Di fr3) st3 stop) λr s4 ⟨hr,I4⟩=>?_);subst hr;exact wpAny_execs_nil ⟨σ3,H3,I4,qn⟩
 ·refine VM hp (bV (T.item X rfl rfl rfl hc i pins s3 σ3 H3 X.xe I3 (Di fr3) st3 go) λr s4 ⟨u,hr,h4⟩=>?_);subst hr;refine VM hp (bV h4 λ_ s5 ⟨x,H5,I5,r5,y5,Dl,OD⟩=>?_);have Pe:=I5.pinned (Di OD) (T.obj _ _ Dl);refine VM hp (bV (hg _ s5 σ3 H5 x u _ Pe r5 (step x H5 y5)) λ_ s6 ⟨σ6,H6,I6,q6⟩=>?_);refine VM hp (bV (hb _ s6 σ6 H6 _ I6 q6) λf s7 q7=>?_);have again:∀ {σ7:St} {H7:Hp},Inv X (pins++fG fp s5.heap) σ7 H7 s7->N σ7 H7->∃ m,m<n/\∃ i σ' H',Inv X pins σ' H' s7/\tn i s7.heap/\(∀ b∈fp,H' b=none)/\W i m σ' H':=λ{σ7 H7} I7 n7=>by
   obtain⟨m',hm,w7⟩:=hN σ7 H7 n7;refine⟨m',hm,i+1,σ7,H7,I7.ie,T.keep _ _ _ Dl λb hb o e=>(I7.pin (b,o) (Vg _ (Vg _ (eK hb e)))).1,λb hb=>?_,w7⟩;obtain⟨o,e,d⟩:=T.obj _ _ Dl b hb;exact(I7.pin (b,o) (Vg _ (Vg _ (eK hb e)))).2.1
  cases f with
  | next=>obtain⟨σ7,H7,I7,n7⟩:=q7;exact again I7 n7
  | cont=>obtain⟨σ7,H7,I7,n7⟩:=q7;exact again I7 n7
  | brk=>obtain⟨σ7,H7,I7,q7⟩:=q7;exact⟨σ7,H7,I7.ie,q7⟩
  | ret v=>obtain⟨x7,σ7,H7,I7,r7,q7⟩:=q7;exact⟨x7,σ7,H7,I7.ie,r7,q7⟩
end
variable {K:PySem.W.Frag}{xs:List V}
theorem yM{a:Addr}{g:TG}{tb:TS}{D:Ends}(Pv:Nat->St->Hp->Prop)(h0:Pv 0 σ H)(hl:∀ i σ H,i<=xs.length->Pv i σ H->c_ K H a xs)
  (hs:∀ i x σ H,xs[i]?=some x->Pv i σ H->g x σ H λσ2 H2=>tb { D with nx:=Pv (i+1),ct:=Pv (i+1),bk:=D.nx } σ2 H2) (hd:∀ σ H,Pv xs.length σ H->D.nx σ H) :
  ∃ W:Nat->Nat->St->Hp->Prop,(∃ m,W 0 m σ H)/\∀ i m σ H,W i m σ H ->
   ((G8 K a).stop i H/\D.nx σ H)\/((G8 K a).go i H/\∃ N:St->Hp->Prop,(∀ σ' H',N σ' H'->∃ m',m'<m/\W (i+1) m' σ' H')/\∀ x H',(G8 K a).qR i H x H'->g x σ H' λσ2 H2=>tb { D with nx:=N,ct:=N,bk:=D.nx } σ2 H2):=by
 refine⟨λi m σ H=>m=xs.length - i/\i<=xs.length/\Pv i σ H,⟨xs.length,by simp,Vs _,h0⟩,?_⟩;rintro i m σ H ⟨rfl,hi,p⟩;have q:=hl i σ H hi p;by_cases fi:i<xs.length
 ·refine .inr ⟨⟨xs,xs[i],q,by simp[fi]⟩,Pv (i+1),λσ' H' p'=>⟨xs.length - (i+1),by left,rfl,fi,p'⟩,λx H' y=>?_⟩;obtain⟨e,y⟩:=y;subst e;exact hs i x σ _ (y xs q) p
 ·have e:i=xs.length:=by left
  subst e;exact .inl ⟨⟨xs,q,Vc _⟩,hd σ H p⟩
theorem Bl{a:Addr}{g:TG}{tb:TS}{D:Ends}(Pv:Nat->St->Hp->Prop)(h0:Pv 0 σ H)(hl:∀ i σ H,i<=xs.length->Pv i σ H->ao K H a xs)
  (hs:∀ i x σ H,xs[i]?=some x->Pv i σ H->g x σ H λσ2 H2=>tb { D with nx:=Pv (i+1),ct:=Pv (i+1),bk:=D.nx } σ2 H2) (hd:∀ σ H,Pv xs.length σ H->D.nx σ H) :
  ∃ W:Nat->Nat->St->Hp->Prop,(∃ m,W 0 m σ H)/\∀ i m σ H,W i m σ H ->
   ((G7 K a).stop i H/\D.nx σ H)\/((G7 K a).go i H/\∃ N:St->Hp->Prop,(∀ σ' H',N σ' H'->∃ m',m'<m/\W (i+1) m' σ' H')/\∀ x H',(G7 K a).qR i H x H'->g x σ H' λσ2 H2=>tb { D with nx:=N,ct:=N,bk:=D.nx } σ2 H2):=by
 refine⟨λi m σ H=>m=xs.length - i/\i<=xs.length/\Pv i σ H,⟨xs.length,by simp,Vs _,h0⟩,?_⟩;rintro i m σ H ⟨rfl,hi,p⟩;have q:=hl i σ H hi p;by_cases fi:i<xs.length
 ·refine .inr ⟨⟨xs,xs[i],q,by simp[fi]⟩,Pv (i+1),λσ' H' p'=>⟨xs.length - (i+1),by left,rfl,fi,p'⟩,λx H' y=>?_⟩;obtain⟨e,y⟩:=y;subst e;exact hs i x σ _ (y xs q) p
 ·have e:i=xs.length:=by left
  subst e;exact .inl ⟨⟨xs,q,Vc _⟩,hd σ H p⟩
theorem vX{n:Nat}{g:TG}{tb:TS}{D:Ends}(Pv:Nat->St->Hp->Prop)(h0:Pv 0 σ H)
  (hs:∀ i σ H,i<n->Pv i σ H->g (.int (lo+i)) σ H λσ2 H2=>tb { D with nx:=Pv (i+1),ct:=Pv (i+1),bk:=D.nx } σ2 H2) (hd:∀ σ H,Pv n σ H->D.nx σ H) :
  ∃ W:Nat->Nat->St->Hp->Prop,(∃ m,W 0 m σ H)/\∀ i m σ H,W i m σ H ->
   ((wq lo n).stop i H/\D.nx σ H)\/((wq lo n).go i H/\∃ N:St->Hp->Prop,(∀ σ' H',N σ' H'->∃ m',m'<m/\W (i+1) m' σ' H')/\∀ x H',(wq lo n).qR i H x H'->g x σ H' λσ2 H2=>tb { D with nx:=N,ct:=N,bk:=D.nx } σ2 H2):=by
 refine⟨λi m σ H=>m=n - i/\i<=n/\Pv i σ H,⟨n,by simp,Vs _,h0⟩,?_⟩;rintro i m σ H ⟨rfl,hi,p⟩;by_cases fi:i<n
 ·refine .inr ⟨fi,Pv (i+1),λσ' H' p'=>⟨n - (i+1),by left,rfl,fi,p'⟩,λx H' y=>?_⟩;obtain⟨e,y⟩:=y;subst e y;exact hs i σ _ fi p
 ·have e:i=n:=by left
  subst e;exact .inl ⟨Vc _,hd σ H p⟩
end L2
namespace L2
open PySem PySem.Spec PyProof.Rows
noncomputable abbrev R2:=V->V->Hp->VK->Prop
def iS(X:Cx)(f:Value->Value->Sem Value)(r:R2):Prop :=
 ∀(pins:List (Addr×Obj)) (s:Shared) (σ:St) (H:Hp) (x y:V) (v u:Value) (Q:VK),Inv X pins σ H s->RelV x v->RelV y u->r x y H Q ->
  wpAny (model X.prog X.w) X.A (f v u) (EP X pins σ Q) X.xe s
def Pb(X:Cx)(f:Value->Sem Value)(r:V->Hp->VK->Prop):Prop :=
 ∀(pins:List (Addr×Obj)) (s:Shared) (σ:St) (H:Hp) (x:V) (v:Value) (Q:VK),Inv X pins σ H s->RelV x v->r x H Q ->
  wpAny (model X.prog X.w) X.A (f v) (EP X pins σ Q) X.xe s
def dJ(X:Cx)(f:Value)(r:List V->Hp->VK->Prop):Prop :=
 ∀(pins:List (Addr×Obj)) (s:Shared) (σ:St) (H:Hp) (xs:List V) (us:List Value) (Q:VK),Inv X pins σ H s->Vals xs us->r xs H Q ->
  wpAny (model X.prog X.w) X.A (call f us) (EP X pins σ Q) X.xe s
noncomputable def Dd(r:R2)(ta tb:TE):TE:=λσ H Q=>ta σ H λx H1=>tb σ H1 λy H2=>r x y H2 Q
noncomputable def Ry(r:V->Hp->VK->Prop)(ta:TE):TE:=λσ H Q=>ta σ H λx H1=>r x H1 Q
noncomputable def rI(C:Int->Int->Prop)(g:Int->Int->V):R2:=λx y H Q=>∃ i j,x=.int i/\y=.int j/\C i j/\Q (g i j) H
noncomputable def xo(g:Int->Int->V):R2:=λx y H Q=>∃ i j,x=.int i/\y=.int j/\Q (g i j) H
noncomputable def rU(g:Int->V):V->Hp->VK->Prop:=λx H Q=>∃ i,x=.int i/\Q (g i) H
variable {H:Hp}{σ:L2.St}
section
variable {X:Cx}{a b c:Expr}{ta tb tc:TE}{pos:Pos}
theorem F_(ha:PE X a ta)(hb:PE X b tb){pins:List (Addr×Obj)}{s:Shared}{R:V->V->Hp->Prop}(I:Inv X pins σ H s)
  (h:ta σ H λx H1=>tb σ H1 λy H2=>R x y H2) {Q:Value->Shared->Prop} {f:Value->Value->Sem Value}
  (hf:∀ v u s2 x y H2,Inv X pins σ H2 s2->RelV x v->RelV y u->R x y H2->wpAny (model X.prog X.w) X.A (f v u) Q X.xe s2) :
  wpAny (model X.prog X.w) X.A (eval a X.env) (λv s₁=>wpAny (model X.prog X.w) X.A (eval b X.env) (λu s₂=>wpAny (model X.prog X.w) X.A (f v u) Q X.xe s₂) X.xe s₁) X.xe s:=by
 refine bV (ha pins s σ H _ I h) λv s1 ⟨x,H1,I1,r1,q1⟩=>?_;refine bV (hb pins s1 σ H1 _ I1 q1) λu s2 ⟨y,H2,I2,r2,q2⟩=>?_;exact hf v u s2 x y H2 I2 r1 r2 q2
theorem Cr{op:Operator}{r:R2}(ho:iS X (binaryOp op) r)(ha:PE X a ta)(hb:PE X b tb):PE X (.BinOp a op b pos) (Dd r ta tb):=by
 intro pins s σ H Q I h;exact wpAny_BinOp (F_ ha hb I h λv u s2 x y H2 I2 rx ry q=>ho pins s2 σ H2 x y v u Q I2 rx ry q)
theorem Il{op:UnaryOp}{r:V->Hp->VK->Prop}(ho:Pb X (unaryOp op) r)(ha:PE X a ta):PE X (.UnaryOp op a pos) (Ry r ta):=by
 intro pins s σ H Q I h;exact UnaryOp_ (bV (ha pins s σ H _ I h) λv s1 ⟨x,H1,I1,r1,q1⟩=>ho pins s1 σ H1 x v Q I1 r1 q1)
theorem GA{f:Value->Value->Sem Value}{C:Int->Int->Prop}{g:Int->Int->Int}
  (rule:∀(i j:Int) (t u:Tok) (s:Shared) (Q:Value->Shared->Prop) (E:Value->Shared->Prop),C i j->Q (.int (g i j) s.toks) { s with toks:=s.toks+1 }->wpAny (model X.prog X.w) X.A (f (.int i t) (.int j u)) Q E s) :
  iS X f (rI C λi j=>.int (g i j)):=by
 intro pins s σ H x y v u Q I rx ry h;obtain⟨i,j,rfl,rfl,hc,q⟩:=h;obtain⟨t,rfl⟩:=rx;obtain⟨t',rfl⟩:=ry;exact rule i j t t' s _ _ hc ⟨.int (g i j),H,I.tok _,⟨_,rfl⟩,q⟩
theorem M5{f:Value->Value->Sem Value}{g:Int->Int->Int}
  (rule:∀(i j:Int) (t u:Tok) (s:Shared) (Q:Value->Shared->Prop) (E:Value->Shared->Prop),Q (.int (g i j) s.toks) { s with toks:=s.toks+1 }->wpAny (model X.prog X.w) X.A (f (.int i t) (.int j u)) Q E s) :
  iS X f (xo λi j=>.int (g i j)):=by
 intro pins s σ H x y v u Q I rx ry h;obtain⟨i,j,rfl,rfl,q⟩:=h;obtain⟨t,rfl⟩:=rx;obtain⟨t',rfl⟩:=ry;exact rule i j t t' s _ _ ⟨.int (g i j),H,I.tok _,⟨_,rfl⟩,q⟩
theorem AN{f:Value->Value->Sem Value}{g:Int->Int->Bool}
  (rule:∀(i j:Int) (t u:Tok) (s:Shared) (Q:Value->Shared->Prop) (E:Value->Shared->Prop),Q (.bool (g i j)) s->wpAny (model X.prog X.w) X.A (f (.int i t) (.int j u)) Q E s) :
  iS X f (xo λi j=>.bl (g i j)):=by
 intro pins s σ H x y v u Q I rx ry h;obtain⟨i,j,rfl,rfl,q⟩:=h;obtain⟨t,rfl⟩:=rx;obtain⟨t',rfl⟩:=ry;exact rule i j t t' s _ _ ⟨.bl (g i j),H,I,rfl,q⟩
theorem qZ(k:Nat):(0:Int)<=2 ^ k:=by
 rw[two_pow_cast];exact Int.natCast_nonneg _
theorem Ec:iS X (binaryOp .Add) (xo λi j=>.int (i+j)):=M5 λ_ _ _ _ _ _ _ q=>add_int q
theorem AM:iS X (binaryOp .Mod) (rI (λ_ j=>j≠0) λi j=>.int (i.fmod j)):=GA λ_ _ _ _ _ _ _ hc q=>mod_int' hc q
theorem M1:iS X (binaryOp .RShift) (rI (λ_ j=>0<=j) λi j=>.int (i / 2 ^ j.toNat)):=GA λi j _ _ _ _ _ hc q =>
 rshift_int hc (by rw[Int.fdiv_eq_ediv_of_nonneg i (qZ _)];exact q)
theorem Ro{f:Value->Sem Value}{g:Int->Int}
  (rule:∀(i:Int) (t:Tok) (s:Shared) (Q:Value->Shared->Prop) (E:Value->Shared->Prop),Q (.int (g i) s.toks) { s with toks:=s.toks+1 }->wpAny (model X.prog X.w) X.A (f (.int i t)) Q E s) :
  Pb X f (rU λi=>.int (g i)):=by
 intro pins s σ H x v Q I rx h;obtain⟨i,rfl,q⟩:=h;obtain⟨t,rfl⟩:=rx;exact rule i t s _ _ ⟨.int (g i),H,I.tok _,⟨_,rfl⟩,q⟩
theorem C8:Pb X (unaryOp .USub) (rU λi=>.int (-i)):=Ro λ_ _ _ _ _ q=>neg_int q
end
variable {us:List Value}
section
variable {X:Cx}{a b c:Expr}{ta tb tc:TE}{pos:Pos}
theorem yN{pins:List (Addr×Obj)}{s:Shared}{Q:VK}{k k':Bool}(I:Inv X pins σ H s)(q:Q (.bl k) H)(e:k=k'):EP X pins σ Q (.bool k') s:=by
 subst e;exact⟨.bl k,H,I,rfl,q⟩
theorem Iw:iS X (compareOp .Lt) (xo λi j=>.bl (decide (i<j))):=AN λ_ _ _ _ _ _ _ q=>lt_int q
theorem Iy:iS X (compareOp .LtE) (xo λi j=>.bl (decide (i<=j))):=AN λ_ _ _ _ _ _ _ q=>le_int q
theorem Iz:iS X (compareOp .Gt) (xo λi j=>.bl (decide (j<i))):=AN λ_ _ _ _ _ _ _ q=>gt_int q
theorem IA:iS X (compareOp .GtE) (xo λi j=>.bl (decide (j<=i))):=AN λ_ _ _ _ _ _ _ q=>ge_int q
theorem Ea:iS X (compareOp .Is) (λx y H Q=>y=.aL/\Q (.bl (decide (x=.aL))) H):=by
 intro pins s σ H x y v u Q I rx ry h;obtain⟨rfl,q⟩:=h;cases ry;refine is_none_gen (yN I q ?_);cases x<;>first
  | (cases rx;rfl)
  | (obtain⟨t,rfl⟩:=rx;rfl)
theorem AK:iS X (compareOp .IsNot) (λx y H Q=>y=.aL/\Q (.bl (!decide (x=.aL))) H):=by
 intro pins s σ H x y v u Q I rx ry h;obtain⟨rfl,q⟩:=h;cases ry;refine isnot_none_gen (yN I q ?_);cases x<;>first
  | (cases rx;rfl)
  | (obtain⟨t,rfl⟩:=rx;rfl)
theorem iS.or{f:Value->Value->Sem Value}{r r':R2}(h:iS X f r)(h':iS X f r'):iS X f (λx y H Q=>r x y H Q\/r' x y H Q):=by
 intro pins s σ H x y v u Q I rx ry q;rcases q with q | q
 ·exact h pins s σ H x y v u Q I rx ry q
 ·exact h' pins s σ H x y v u Q I rx ry q
theorem Na(b:Expr){op:CmpOp}(h:op≠.In:=by decide)(h2:op≠.NotIn:=by decide):behindInMarks op b=false:=by
 have e1:(op==CmpOp.In)=false:=by cases op<;>first | rfl | exact absurd rfl h
 have e2:(op==CmpOp.NotIn)=false:=by cases op<;>first | rfl | exact absurd rfl h2
 cases b<;>simp[behindInMarks,e1,e2]
theorem AE{op:CmpOp}{r:R2}(ho:iS X (compareOp op) r)(ha:PE X a ta)(hb:PE X b tb)(hm:behindInMarks op b=false):PE X (.Compare a [op] [b] pos) (Dd r ta tb):=by
 intro pins s σ H Q I h;exact wpAny_Compare1 (F_ ha hb I h λv u s2 x y H2 I2 rx ry q=>ho pins s2 σ H2 x y v u Q I2 rx ry q) hm
noncomputable def B_(t:TE):TT:=λσ H Q=>t σ H λx H'=>∃ k,x=.bl k/\Q k H'
theorem AA{op:CmpOp}{r:R2}(ho:iS X (compareOp op) r)(ha:PE X a ta)(hb:PE X b tb)(hm:behindInMarks op b=false):PT X (.Compare a [op] [b] pos) (B_ (Dd r ta tb)):=by
 intro pins s σ H Q I h;refine wpAny_isTrue_Compare1 (bV (ha pins s σ H _ I h) λv s1 ⟨x,H1,I1,r1,q1⟩=>bV (hb pins s1 σ H1 _ I1 q1) λu s2 ⟨y,H2,I2,r2,q2⟩ =>
  bV (ho pins s2 σ H2 x y v u _ I2 r1 r2 q2) λc s3 ⟨z,H3,I3,r3,k,e,q3⟩=>?_) hm
 subst e;cases r3;exact VE ⟨H3,I3,q3⟩
theorem n5:(sizeLine:Nat)<2 ^ 63:=by rw[sizeLine_eq];decide
theorem vals1{x:V}(r:Vals [x] us):∃ u,us=[u]/\RelV x u:=by
 cases r with
 | cons r1 r2=>cases r2;exact⟨_,rfl,r1⟩
theorem vals2{x y:V}(r:Vals [x,y] us):∃ u w',us=[u,w']/\RelV x u/\RelV y w':=by
 cases r with
 | cons r1 r2 =>
  cases r2 with
  | cons r3 r4=>cases r4;exact⟨_,_,rfl,r1,r3⟩
theorem zm:dJ X (.builtin "abs") (λxs H Q=>∃ i,xs=[.int i]/\Q (.int (if i<0 then -i else i)) H):=by
 intro pins s σ H xs us Q I r h;obtain⟨i,rfl,q⟩:=h;obtain⟨u,rfl,t,rfl⟩:=vals1 r;exact call_abs_int λu tk=>⟨.int (if i<0 then -i else i),H,I.tok _,⟨_,rfl⟩,q⟩
theorem G0(hc:X.calm=true):dJ X (.builtin "max") (λxs H Q=>∃ i j,xs=[.int i,.int j]/\Q (.int (if j>i then j else i)) H):=by
 intro pins s σ H xs us Q I r h;obtain⟨i,j,rfl,q⟩:=h;obtain⟨u,w',rfl,⟨t,rfl⟩,⟨t',rfl⟩⟩:=vals2 r;refine max_two_ints (I.ok.hd hc) λh' tk k=>⟨_,H,I.kept k,?_,q⟩
 by_cases hj:j>i
 ·rw[if_pos hj,if_pos hj];exact⟨_,rfl⟩
 ·rw[if_neg hj,if_neg hj];exact⟨_,rfl⟩
theorem we(hc:X.calm=true):dJ X (.builtin "min") (λxs H Q=>∃ i j,xs=[.int i,.int j]/\Q (.int (if j<i then j else i)) H):=by
 intro pins s σ H xs us Q I r h;obtain⟨i,j,rfl,q⟩:=h;obtain⟨u,w',rfl,⟨t,rfl⟩,⟨t',rfl⟩⟩:=vals2 r;refine min_two_ints (I.ok.hd hc) λh' tk k=>⟨_,H,I.kept k,?_,q⟩
 by_cases hj:j<i
 ·rw[if_pos hj,if_pos hj];exact⟨_,rfl⟩
 ·rw[if_neg hj,if_neg hj];exact⟨_,rfl⟩
theorem G1:dJ X (.type "int") (λxs H Q=>(∃ i,xs=[.int i]/\Q (.int i) H)\/∃ k,xs=[.bl k]/\Q (.int (if k then 1 else 0)) H):=by
 intro pins s σ H xs us Q I r h;rcases h with ⟨i,rfl,q⟩ | ⟨k,rfl,q⟩
 ·obtain⟨u,rfl,t,rfl⟩:=vals1 r;exact call_int_int ⟨.int i,H,I,⟨_,rfl⟩,q⟩
 ·obtain⟨u,rfl,r1⟩:=vals1 r;cases r1;exact call_int_bool ⟨.int (if k then 1 else 0),H,I.tok _,⟨_,rfl⟩,q⟩
end
end L2
namespace L2
open PySem PySem.Spec PyProof.Rows
structure Uw(h:Heap)(x dx C:Addr)(mA:Str->Option Value):Prop where
 obj:h.get? x=some (PySem.W.instObj C dx)
 ns:h.Ns1 dx mA
 ne:dx≠x
section
variable {prog:Program}{w:World}{A:Around}{E:Value->Shared->Prop}{s:Shared}{K:PySem.W.Frag}{x dx C f:Addr}{mA:Str->Option Value}{name:Str}{v:Value}
end
theorem l4.some_of{v:V}{o:Option Value}(r:l4 (some v) o):∃ u,o=some u/\RelV v u:=by
 cases o with
 | none=>exact(show False from r).elim
 | some u=>exact⟨u,rfl,r⟩
theorem l4.none_of{o:Option Value}(r:l4 none o):o=none:=by
 cases o with
 | none=>rfl
 | some u=>exact(show False from r).elim
section
variable {P:Program}{w:World}{H H':Hp}{h h':Heap}{a C dx:Addr}{fs TK:List (Str×V)}
end
structure UL(K:PySem.W.Frag)(C:Addr):Prop where
 pg:PySem.W.plainGet K C Str.empty=true
 hd:PySem.W.hasDictIn K C=true
 po:PySem.W.plainOver K C=true
 sa:PySem.W.findIn K (.ref C) "__setattr__" = some (some (.builtin "object.__setattr__"))
structure U5(K:PySem.W.Frag)(C:Addr)(f:Str)(v:V)(u:Value):Prop where
 at_:PySem.W.findIn K (.ref C) f=some (some u)
 rel:RelV v u
 get:PySem.W.specialIn K u "__get__" = some none
 cp:PySem.W.copiedNames.contains f=false
structure Meth(K:PySem.W.Frag)(C:Addr)(m:Str)(f:Addr):Prop where
 at_:PySem.W.findIn K (.ref C) m=some (some (.ref f))
 fn:PySem.W.isFn K (.ref f)=true
 kp:PySem.W.keepIn K (.ref f)=true
section
variable {X:Cx}{pins:List (Addr×Obj)}{σ:St}{H:Hp}{s:Shared}{a C dx:Addr}{fs:List (Str×V)}{f:Str}{v:V}{A:Around}{E:Value->Shared->Prop}
end
section
variable {X:Cx}{o e value:Expr}{f:Str}{pos pos' Rq:Pos}{ta tv:TE}
end
section
variable {X:Cx}{pins:List (Addr×Obj)}{σ:St}{H:Hp}{s:Shared}{A:Around}{E:Value->Shared->Prop}{Q:Value->Shared->Prop}{c:Value}{b:Bool}
inductive lX(K:PySem.W.Frag)(H:Hp):V->Value->Prop where
 | aL:lX K H .aL (.type "NoneType")
 | bl (x:Bool):lX K H (.bl x) (.type "bool")
 | int (i:Int):lX K H (.int i) (.type "int")
 | str (x:Str):lX K H (.str x) (.type "str")
 | Kj (x:UInt64):lX K H (.Kj x) (.type "float")
 | lst {a:Addr} {xs:List V} (e:H a=some (.lst xs)):lX K H (.ref a) (.type "list")
 | fK {a:Addr} {o:Obj} {xs:List V} (e:H a=some (.fK o (.lst xs))):lX K H (.ref a) (.type "list")
 | tup {a:Addr} {xs:List V} (e:H a=some (.tup xs)):lX K H (.ref a) (.type "tuple")
 | dK {a:Addr} {lj:List (Key×V)} (e:H a=some (.dK lj)):lX K H (.ref a) (.type "dict")
 | dT {a:Addr} {lj:List (List Key×V)} (e:H a=some (.dT lj)):lX K H (.ref a) (.type "dict")
 | ins {a C dx:Addr} {fs:List (Str×V)} (e:H a=some (.ins C dx fs)) (cl:UL K C) (ha:PySem.W.findIn K (.ref C) "__class__" = some (some (.builtin "object.__class__")))
   (hn:PySem.W.specialIn K (.builtin "object.__class__") "__get__" = some (some (.builtin "getset_descriptor.__get__"))) (US:PySem.W.takesIn K (.builtin "object.__class__")=some true)
   (hm:PySem.W.mroIn K C (.type "object")=some true):lX K H (.ref a) (.ref C)
end
end L2
namespace L2
open PySem PySem.Spec PyProof.Rows
structure eD(k:Nat)(A:Around):Prop where
 hd:A.handled=none
 dp:A.depth+3*k+5<recursionLimit
 un:A.units+16*k+200<cLine
variable {A:Around}
theorem eD.mono{j k:Nat}(r:eD k A)(h:j<=k):eD j A:=⟨r.hd,by have:=r.dp;left,by have:=r.un;left⟩
theorem eD.deeper{k:Nat}{A:Around}(r:eD (k+1) A)(env:Env):eD k (A.deeper env) :=
 ⟨r.hd,by have:=r.dp;show A.depth+1+3*k+5<_;left,by have:=r.un;show A.units+3+16*k+200<_;left⟩
theorem eD.depth{k:Nat}{A:Around}(r:eD k A):A.depth<recursionLimit:=by have:=r.dp;left
theorem eD.units{k:Nat}{A:Around}(r:eD k A):A.units+64<cLine:=by have:=r.un;left
noncomputable def Hw:TA:=λ_ H Q=>Q [] H
noncomputable def Cb(ta:TE)(tr:TA):TA:=λσ H Q=>ta σ H λx H1=>tr σ H1 λxs H2=>Q (x::xs) H2
section
variable {X:Cx}{e:Expr}{es:List Expr}{te:TE}{t:TA}{pos:Pos}
theorem gB:PA X [] Hw:=λ_ _ _ _ H Q I h=>Calls.spliced_nil ⟨[],H,I,.nil,h⟩
theorem cT(ha:PE X e te)(hr:PA X es t)(hs:starEach (e::es) X.env=(false,eval e X.env)::starEach es X.env:=by rfl):PA X (e::es) (Cb te t):=by
 intro pos pins s σ H Q I h;rw[hs];show wpAny _ _ (spliced ((false,eval e X.env)::backTo pos (starEach es X.env))) _ _ s;refine Calls.spliced_cons (bV (ha pins s σ H _ I h) λu s1 ⟨x,H1,I1,r1,q1⟩=>?_);exact bV (hr pos pins s1 σ H1 _ I1 q1) λus s2 ⟨xs,H2,I2,r2,q2⟩=>⟨x::xs,H2,I2,.cons r1 r2,q2⟩
def Mf(t:TA):TE:=λσ H Q=>t σ H λxs H1=>xs.length<=sizeLine/\∀ p,H1 p=none->Q (.ref p) (upd H1 p (.tup xs))
def Ml(t:TA):TE:=λσ H Q=>t σ H λxs H1=>xs.length<=sizeLine/\∀ p,H1 p=none->Q (.ref p) (upd H1 p (.lst xs))
theorem DY{x1}(h:PA X es t):PE X (.Tuple es x1 pos) (Mf t):=by
 intro pins s σ H Q I hq;refine wpAny_Tuple_spliced (bV (h pos pins s σ H _ I hq) λus s1 ⟨xs,H1,I1,r,z,q⟩=>⟨by rw[<- r.length];exact z,?_⟩);have hf:H1 s1.heap.objs.size=none:=I1.bR.fresh (Vc _);refine⟨.ref s1.heap.objs.size,upd H1 s1.heap.objs.size (.tup xs),I1.laid (t':=s1.toks) (λb u e=>U_ _ e) (Vc _) ?_,rfl,q _ hf⟩;exact⟨z,us,r,⟨_,Ve _ rfl,rfl,_,rfl⟩⟩
theorem D1(h:PA X es t):PE X (.List es pos) (Ml t):=by
 intro pins s σ H Q I hq;refine wpAny_List_spliced (bV (h pos pins s σ H _ I hq) λus s1 ⟨xs,H1,I1,r,z,q⟩=>⟨by rw[<- r.length];exact z,?_⟩);have hf:H1 s1.heap.objs.size=none:=I1.bR.fresh (Vc _);refine⟨.ref s1.heap.objs.size,upd H1 s1.heap.objs.size (.lst xs),I1.laid (t':=s1.toks) (λb u e=>U_ _ e) (Vc _) ?_,rfl,q _ hf⟩;exact⟨z,us,0,r,Ve _ rfl⟩
end
noncomputable abbrev Sp:=List V->Hp->VK->XK->Prop
noncomputable abbrev wH:=List Env->Hp->Shared->XK->Value->Shared->Prop
structure B2(P:Program)(w:World)(K:PySem.W.Frag)(mg:Str->Option Value)(base:Heap)(A:Around)(outer:List Env)(s:Shared)(H:Hp):Prop where
 frames:A.frames=some outer
 mod:Mod K mg base
 bs:∀ b o,base.get? b=some o->s.heap.get? b=some o/\H b=none
 CN:base.objs.size<=s.heap.objs.size
 jU:s.heap.FunFrames base outer
 GY:∀ b∈wF outer,H b=none
 bR:jv P w H s.heap
 bare:AllBare s.gens
def CE(outer:List Env)(P:Program)(w:World)(H:Hp)(s:Shared)(Q:VK)(u:Value)(s':Shared):Prop :=
 ∃ v H',s'.os=s.os/\AllBare s'.gens/\Un (wF outer) [] H H' s.heap s'.heap/\jv P w H' s'.heap/\RelV v u/\Q v H'
noncomputable def CR(CX:wH)(outer:List Env)(P:Program)(w:World)(H:Hp)(s:Shared)(Q:VK)(E:XK)(r:Result)(s':Shared):Prop :=
 match r with
 | .ok (.ret u)=>CE outer P w H s Q u s'
 | .ok _=>False
 | .error e=>CX outer H s E e s'
structure gm(P:Program)(w:World)(K:PySem.W.Frag)(mg:Str->Option Value)(base:Heap)(CX:wH)(k:Nat)(f:Addr)(fd:FuncData)(ps:List Str)(sp:Sp):Prop where
 len:∀ vs H Q E,sp vs H Q E->vs.length=ps.length
 run:∀(A:Around) (outer:List Env) (s:Shared) (H:Hp) (args:Args) (us:List Value) (vs:List V) (Q:VK) (E:XK),eD k A->B2 P w K mg base A outer s H->BindsTo s fd args (ps.zip us)->Vals vs us->sp vs H Q E ->
  codeAny (model P w) A (.call (.ref f) args) (CR CX outer P w H s Q E) s
theorem gm.mono{P:Program}{w:World}{K:PySem.W.Frag}{mg:Str->Option Value}{base:Heap}{CX:wH}{j k:Nat}{f:Addr}{fd:FuncData}{ps:List Str}{sp:Sp}(F:gm P w K mg base CX j f fd ps sp)(h:j<=k):
  gm P w K mg base CX k f fd ps sp:=⟨F.len,λA outer s H args us vs Q E hr=>F.run A outer s H args us vs Q E (hr.mono h)⟩
variable {Q:VK}
section
variable {X:Cx}{pins:List (Addr×Obj)}{σ:St}{H:Hp}{s s':Shared}
theorem Inv.OO(I:Inv X pins σ H s):B2 X.prog X.w X.K X.mg X.base X.A X.stack s H :=
 ⟨I.ok.frames,I.ok.mod,I.bs,Vp I.ok.CN I.sz,I.stack,I.tj,I.bR,I.bare⟩
theorem Inv.after{u:Value}(I:Inv X pins σ H s)(h:CE X.stack X.prog X.w H s Q u s'):EP X pins σ Q u s':=by
 obtain⟨v,H',os,bare,un,bR,r,q⟩:=h;obtain⟨hh,g,d,t,M0⟩:=s';obtain rfl:M0=s.os:=os;exact⟨v,H',I.call (h':=hh) (g':=g) (d':=d) (t':=t) (ch:=[]) un bR bare (λb z=>absurd z (by simp)),r,q⟩
end
noncomputable def Hz(sp:Sp)(dk:List V)(E:XK)(t:TA):TE:=λσ H Q=>t σ H λvs H1=>sp (vs++dk) H1 Q E
noncomputable def Binds(K:PySem.W.Frag)(fd:FuncData)(ps:List Str)(ds:List Value):Prop :=
 ∀(s:Shared) (us:List Value),K.In s.heap->(us++ds).length=ps.length->BindsTo s fd ⟨us,[]⟩ (ps.zip (us++ds))
variable {K:PySem.W.Frag}{N ps:List Str}
theorem Binds.all{fd:FuncData}(h:∀ us:List Value,us.length=ps.length->bindArgs fd ⟨us,[]⟩=pure (ps.zip us)):Binds K fd ps []:=λs us _ hl=>by
 rw[List.append_nil]at hl ⊢;exact .of_eq (h us hl)
noncomputable def Passes(CX:wH)(X:Cx)(E:XK):Prop:=∀(pins:List (Addr×Obj)) (σ:St) (H:Hp) (s:Shared) (e:Value) (s':Shared),Inv X pins σ H s->CX X.stack H s E e s'->X.xe e s'
variable {H:Hp}{us:List Value}{vs:List V}
section
variable {X:Cx}{CX:wH}{k:Nat}{f C:Addr}{fd:FuncData}{ps:List Str}{sp:Sp}{dk:List V}{ds:List Value}{E:XK}{x m:Str}{p pos apos:Pos}{e o:Expr}{es:List Expr}{ta:TE}{t:TA}
theorem DH{pins:List (Addr×Obj)}{σ:St}{s:Shared}(F:gm X.prog X.w X.K X.mg X.base CX k f fd ps sp)(hr:eD k X.A)(hb:Binds X.K fd ps ds)(hd:Vals dk ds)(hx:Passes CX X E)
  (I:Inv X pins σ H s) (r:Vals vs us) (h:sp (vs++dk) H Q E):wpAny (model X.prog X.w) X.A (call (.ref f) us) (EP X pins σ Q) X.xe s:=by
 have r2:Vals (vs++dk) (us++ds):=r.append hd;have hl:(us++ds).length=ps.length:=by rw[<- r2.length];exact F.len _ _ _ _ h
 refine wpAny_call (Wq (F.run X.A X.stack s H ⟨us,[]⟩ (us++ds) (vs++dk) Q E hr I.OO (hb s us I.wu hl) r2 h) λr s' hq=>?_);cases r with
 | error e=>exact hx pins σ H s e s' I hq
 | ok fl =>
  cases fl with
  | ret u=>exact I.after hq
  | next=>exact False.elim hq
  | brk=>exact False.elim hq
  | cont=>exact False.elim hq
theorem AF(F:gm X.prog X.w X.K X.mg X.base CX k f fd ps sp)(hr:eD k X.A)(hg:Gl X x)(hm:X.mg x=some (.ref f))(hk:PySem.W.keepIn X.K (.ref f)=true)(hb:Binds X.K fd ps ds)(hd:Vals dk ds)(hx:Passes CX X E)
  (ha:PA X (e::es) t) (JV:(x==("__debug__" : Str))=false:=by decide) (he:starEach (e::es) X.env=(false,eval e X.env)::starEach es X.env:=by rfl) (hpl:(backTo pos (starEach es X.env)).any (·.1)=false:=by rfl) :
  PE X (.Call (.Name x p) (e::es) [] pos) (Hz sp dk E t):=by
 intro pins s σ H Q I h;refine VT (t5 I hg hm ?_ JV);refine PySem.W.callWith_K (h₀:=X.base) I.ok.mod.Nk hk (bV (ha pos pins s σ H _ I h) λus s1 ⟨vs,H1,I1,r,q⟩=>⟨I1.wu,?_⟩) he hpl;exact DH F hr hb hd hx I1 r q
structure Mk(K:PySem.W.Frag)(C f:Addr):Prop where
 makes:PySem.W.makesIn K C=true
 init:PySem.W.findIn K (.ref C) "__init__" = some (some (.ref f))
 fn:PySem.W.isFn K (.ref f)=true
 kp:PySem.W.keepIn K (.ref C)=true
end
section
variable {X:Cx}{CX:wH}{k:Nat}{f C:Addr}{fd:FuncData}{ps ks:List Str}{sp:Sp}{E:XK}{x m:Str}{p pos apos R9:Pos}{e o:Expr}{es:List Expr}{UP:List Keyword}{te ta:TE}{t tk:TA}{nm:Option Str}
structure Pd(K:PySem.W.Frag)(fd:FuncData)(ps ks:List Str)(g:List Value->List Value->List Value)(gV:List V->List V->List V):Prop where
 to:∀(s:Shared) (us ws:List Value),K.In s.heap->(g us ws).length=ps.length->BindsTo s fd ⟨us,ks.zip ws⟩ (ps.zip (g us ws))
 rel:∀ {vs:List V} {us:List Value} {zs:List V} {ws:List Value},Vals vs us->Vals zs ws->Vals (gV vs zs) (g us ws)
variable {g:List Value->List Value->List Value}{gV:List V->List V->List V}
end
structure gg(N P:List Str)(sc:Scope):Prop where
 kind:sc.kind=.function
 co:sc.isCoroutine=false
 gen:sc.isGenerator=false
 nd:N.Nodup
 pre:N.take P.length=P
 par:∀ x∈P,sc.names.lookup x=some .local\/sc.names.lookup x=some .cell
 Ei:∀ y∈sc.names,y.2≠.free
theorem nj{kindOf:Str->Option NameKind}{x:Str}:∀ {binds:List (Str×Value)} {m:Str->Option Value},(∀ v,(x,v)∉binds)->bindL kindOf binds m x=m x
 | [],_,_=>rfl
 | (n,v)::r,m,h=>by
  unfold bindL;rw[nj λw hw=>h w (List.mem_cons_of_mem _ hw)];split
  ·have:x≠n:=by rintro rfl;exact h v Vb
   simp[this]
  ·rfl
theorem nr{kindOf:Str->Option NameKind}{x:Str}:∀ {binds:List (Str×Value)} {m:Str->Option Value},(∀ v,(x,v)∉binds)->bindC kindOf binds m x=m x
 | [],_,_=>rfl
 | (n,v)::r,m,h=>by
  unfold bindC;rw[nr λw hw=>h w (List.mem_cons_of_mem _ hw)];split
  ·rfl
  ·have:x≠n:=by rintro rfl;exact h v Vb
   simp[this]
theorem nq{kindOf:Str->Option NameKind}{x:Str}{v:Value}:∀ {P:List Str} {vs:List Value} {i:Nat} {m:Str->Option Value},P.Nodup->P[i]?=some x->vs[i]?=some v->kindOf x=some .local ->
  bindL kindOf (P.zip vs) m x=some v
 | [],_,_,_,_,h,_,_=>by simp at h
 | _::_,[],_,_,_,_,h,_=>by simp at h
 | p::P,w::vs,0,m,nd,h1,h2,hk=>by
  simp at h1 h2;subst h1;subst h2;show bindL kindOf ((p,w)::P.zip vs) m p=_;unfold bindL;rw[nj λv hv=>(List.nodup_cons.mp nd).1 (List.of_mem_zip hv).1,if_pos hk];simp
 | p::P,w::vs,i+1,m,nd,h1,h2,hk=>by
  show bindL kindOf ((p,w)::P.zip vs) m x=_;unfold bindL;exact nq (i:=i) (List.nodup_cons.mp nd).2 (by simpa using h1) (by simpa using h2) hk
theorem nu{kindOf:Str->Option NameKind}{x:Str}{v:Value}:∀ {P:List Str} {vs:List Value} {i:Nat} {m:Str->Option Value},P.Nodup->P[i]?=some x->vs[i]?=some v->kindOf x≠some .local ->
  bindC kindOf (P.zip vs) m x=some v
 | [],_,_,_,_,h,_,_=>by simp at h
 | _::_,[],_,_,_,_,h,_=>by simp at h
 | p::P,w::vs,0,m,nd,h1,h2,hk=>by
  simp at h1 h2;subst h1;subst h2;show bindC kindOf ((p,w)::P.zip vs) m p=_;unfold bindC;rw[nr λv hv=>(List.nodup_cons.mp nd).1 (List.of_mem_zip hv).1,if_neg hk];simp
 | p::P,w::vs,i+1,m,nd,h1,h2,hk=>by
  show bindC kindOf ((p,w)::P.zip vs) m x=_;unfold bindC;exact nu (i:=i) (List.nodup_cons.mp nd).2 (by simpa using h1) (by simpa using h2) hk
noncomputable def start(N:List Str)(vs:List V):St:=vs.map some++List.replicate (N.length - vs.length) none
noncomputable def sx(CX:wH)(P:Program)(w:World)(K:PySem.W.Frag)(mg:Str->Option Value)(base:Heap)(N:List Str)(qual:Str)(scope:Scope)(f:Addr)(cd:Value)(A:Around)(outer:List Env)(s:Shared)(H:Hp)(E:XK):Cx where
 prog:=P
 w:=w
 K:=K
 mg:=mg
 base:=base
 A:=A.deeper (envOfC qual scope s.heap.objs.size f cd)
 N:=N
 s₀:=s
 H₀:=H
 env:=envOfC qual scope s.heap.objs.size f cd
 outer:=outer
 stack:=envOfC qual scope s.heap.objs.size f cd::outer
 ex:=[]
 calm:=true
 fn:=λ_=>true
 pn:=[]
 xe:=λe s'=>wpAny (model P w) (A.deeper (envOfC qual scope s.heap.objs.size f cd)) (leaving (envOfC qual scope s.heap.objs.size f cd) e) (λ_ MJ=>CX outer H s E e MJ) (λe' MJ=>CX outer H s E e' MJ) s'
theorem qH{sc:Scope}{n:Nat}{x:Str}(h:sc.names.lookup x=some .cell):∃ c,(cellsFrom n sc.names []).lookup x=some c:=by
 have q:=PySem.W.cellsFrom_some sc.names n [] (.inl h);exact Option.isSome_iff_exists.mp q
variable {P:Program}{base:Heap}{mg:Str->Option Value}{qual:Str}{scope:Scope}{w:World}
theorem vG{CX:wH}{f:Addr}{cd:Value}{outer:List Env}{s s1:Shared}{E:XK}  
  (S:gg N ps scope) (hd:A.handled=none) (e0:B2 P w K mg base A outer s H) (hl:vs.length=ps.length) (r:Vals vs us)
  (x:InCallC s s.heap.objs.size (bindL (envOfC qual scope s.heap.objs.size f cd).kindOf (ps.zip us) λ_=>none) (cellsFrom (s.heap.objs.size+1) scope.names []) (bindC (envOfC qual scope s.heap.objs.size f cd).kindOf (ps.zip us) λ_=>none) s1) :
  Inv (sx CX P w K mg base N qual scope f cd A outer s H E) [] (start N vs) H s1:=by
 have hpl:ps.length<=N.length:=by have:=VY List.length S.pre;rw[List.length_take]at this;left
 obtain⟨h1,tk,rfl,hk⟩:=x.done;have IH:∀ b:Addr,b∉(sx CX P w K mg base N qual scope f cd A outer s H E).ex:=λb z=>absurd (show b∈([]:List Addr) from z) (by simp);refine⟨⟨e0.mod,S.kind,rfl,rfl,Vc _,λy z c h1 h2=>?_,λy hy=>?_,λy c _ h=>?_,λ_=>hd,Around.frames_deeper e0.frames,.inr ⟨rfl,rfl⟩,λb z=>absurd z (IH b),e0.bs,e0.CN,λb _ _=>IH b,λb z=>absurd z (IH b),e0.jU,e0.GY⟩,
  rfl,e0.bare,Un.kept hk,⟨_,x.toInCall.ns,λi y v h1 h2 h3=>?_⟩,λy c h=>⟨_,x.cell y c h⟩,e0.bR.fresh (Vc _),λy c h=>?_,λp hp=>absurd (show p∈([]:List (Addr×Obj)) from hp) (by simp),e0.bR.kept hk,?_⟩
 ·exact name_of_addr x.apart (VH h1) (VH h2)
 ·have hy:scope.names.lookup y=some .cell\/scope.names.lookup y=some .free:=hy;rcases hy with hy | hy
  ·exact qH hy
  ·exact absurd rfl (S.Ei _ (VH hy))
 ·exact Nat.le_of_lt (x.above y c (VH h))
 ·have hi:i<vs.length:=by
   unfold start at h2;by_cases hi:i<vs.length
   ·exact hi
   ·rw[List.getElem?_append_right (by simpa using hi)]at h2;rw[List.getElem?_replicate]at h2;split at h2<;>cases h2
  have ha:vs[i]?=some v:=by
   unfold start at h2;rw[List.getElem?_append_left (by simpa using hi),List.getElem?_map]at h2;cases e:vs[i]? with
   | none=>rw[e]at h2;cases h2
   | some a=>rw[e]at h2;cases h2;rfl
  obtain⟨u,hu,rv⟩:=r.get ha;have hp:ps[i]?=some y:=by
   rw[<- S.pre,List.getElem?_take_of_lt (by left)];exact h1
  have PO:ps.Nodup:=by rw[<- S.pre];exact S.nd.sublist (List.take_sublist _ _)
  refine⟨u,rv,?_⟩;rcases S.par y (Vr hp)with k | k
  ·exact .inl ⟨k,nq PO hp hu k⟩
  ·obtain⟨c,e⟩:=qH (n:=s.heap.objs.size+1) k;refine .inr ⟨.inl k,c,e,?_⟩;have q:=x.cell y c e;rw[nu PO hp hu (by show scope.names.lookup y≠_;rw[k];decide)]at q;exact q
 ·exact e0.bR.fresh (Nat.le_of_lt (x.above y c (VH h)))
 ·unfold start;show _=N.length;rw[List.length_append,List.length_map,List.length_replicate];left
theorem Kh{CX:wH}{k:Nat}{f:Addr}{name:Str}{params:Arguments}{body:List Stmt}{dV kV doc pm iV ct oc:Value}{an od:Option Addr}
  {zC:Array (Option Value)} {sp:Sp} (lk:K.lookup f=some ⟨oc,od,.func (PySem.W.fnOf name qual params body scope dV kV doc pm an iV ct),zC⟩) (vR:PySem.W.codeIn K iV qual=true) (S:gg N ps scope)
  (len:∀ vs H Q E,sp vs H Q E->vs.length=ps.length)
  (yw:∀(A:Around) (outer:List Env) (s:Shared) (H:Hp) (vs:List V) (Q:VK) (E:XK),eD k (A.deeper (envOfC qual scope s.heap.objs.size f iV))->sp vs H Q E ->
   ∃ t,kF (sx CX P w K mg base N qual scope f iV A outer s H E) body t/\t { nx:=λ_ H'=>Q .aL H',rt:=Q } (start N vs) H) :
  gm P w K mg base CX (k+1) f (PySem.W.fnOf name qual params body scope dV kV doc pm an iV ct) ps sp:=by
 refine⟨len,λA outer s H args us vs Q E hr e0 hb r zE=>?_⟩;have hl:=len _ _ _ _ zE;have KX:K.In s.heap:=e0.mod.Nk.keeps λb o e=>(e0.bs b o e).1;have lim:s.heap.NoLimit:=e0.mod.nolimit.keeps λb o e=>(e0.bs b o e).1;have JO:∀ y∈ps.zip us,scope.names.lookup y.1=some .local\/(scope.names.lookup y.1=some .cell/\((cellsFrom (s.heap.objs.size+1) scope.names []).lookup y.1).isSome=true):=λ⟨n,v⟩ hy=>by
  rcases S.par n (List.of_mem_zip hy).1 with q | q
  ·exact .inl q
  ·exact .inr ⟨q,PySem.W.cellsFrom_some _ _ _ (.inl q)⟩
 refine codeAny_call_function hr.depth (KX _ _ lk) rfl S.co S.gen rfl (PySem.W.codeRec_of KX vR) (hb _ _ _ _ ?_);refine wpAny_newFunctionEnv_cells S.kind JO λenv he s1 x=>?_;subst he;refine⟨lim.keeps x.toInCall.keep,codeAny_func ?_⟩;obtain⟨t,ht,hq⟩:=yw A outer s H vs Q E (hr.deeper _) zE;have I:Inv (sx CX P w K mg base N qual scope f iV A outer s H E) [] (start N vs) H s1:=vG S hr.hd e0 hl r x;refine Vn (ht [] s1 (start N vs) H _ I hq) (λfl s' hs=>?_) λe s' hs=>hs;have fin:∀ {σ':St} {H':Hp} {v:V} {u:Value},Inv (sx CX P w K mg base N qual scope f iV A outer s H E) [] σ' H' s'->RelV v u->Q v H'->CE outer P w H s Q u s' :=
  λ{σ' H' v u} J rv q=>⟨v,H',J.os,J.bare,J.base,J.bR,rv,q⟩
 cases fl with
 | ret u =>
  obtain⟨v,σ',H',J,rv,q⟩:=hs;exact fin J rv q
 | next =>
  obtain⟨σ',H',J,q⟩:=hs;exact fin (v:=V.aL) (u:=Value.none) J rfl q
 | brk =>
  obtain⟨_,_,_,q⟩:=hs;exact False.elim q
 | cont =>
  obtain⟨_,_,_,q⟩:=hs;exact False.elim q
end L2
namespace L2
open PySem PySem.Spec PyProof.Rows
section
variable {X:Cx}{x:Str}{p pos:Pos}{e:Expr}{es:List Expr}{t:TA}{id T:String}{r:List V->Hp->VK->Prop}
noncomputable def HA(r:List V->Hp->VK->Prop)(t:TA):TE:=λσ H Q=>t σ H λvs H1=>r vs H1 Q
theorem df(hc:dJ X (.builtin id) r)(hg:Gl X x)(hm:X.mg x=none)(hv:bootBuiltins x=some (.builtin id))(ha:PA X (e::es) t)(hn:x ≠ "__name__":=by decide)(JV:(x==("__debug__" : Str))=false:=by decide)
  (he:starEach (e::es) X.env=(false,eval e X.env)::starEach es X.env:=by rfl) (hpl:(backTo pos (starEach es X.env)).any (·.1)=false:=by rfl):PE X (.Call (.Name x p) (e::es) [] pos) (HA r t):=by
 intro pins s σ H Q I h;refine VT (eM I hg hm hv ?_ hn JV);exact PyProof.Rows.callWith_builtin1 (bV (ha pos pins s σ H _ I h) λus s1 ⟨vs,H1,I1,r1,q1⟩=>hc pins s1 σ H1 vs us Q I1 r1 q1) he hpl
theorem mQ(hc:dJ X (.type T) r)(hg:Gl X x)(hm:X.mg x=none)(hv:bootBuiltins x=some (.type T))(ha:PA X (e::es) t)(hn:x ≠ "__name__":=by decide)(JV:(x==("__debug__" : Str))=false:=by decide)
  (he:starEach (e::es) X.env=(false,eval e X.env)::starEach es X.env:=by rfl) (hpl:(backTo pos (starEach es X.env)).any (·.1)=false:=by rfl):PE X (.Call (.Name x p) (e::es) [] pos) (HA r t):=by
 intro pins s σ H Q I h;refine VT (eM I hg hm hv ?_ hn JV);exact Vv (bV (ha pos pins s σ H _ I h) λus s1 ⟨vs,H1,I1,r1,q1⟩=>hc pins s1 σ H1 vs us Q I1 r1 q1) he hpl
end
end L2
namespace HT
open PySem PyProof.Rows
noncomputable def lexLt:List Int->List Int->Bool
 | [],[]=>false
 | [],_::_=>true
 | _::_,[]=>false
 | x::xs,y::ys=>if x=y then lexLt xs ys else decide (x<y)
theorem cv(x y:Int)(xs ys:List Int):lexLt (x::xs) (y::ys)=if x=y then lexLt xs ys else decide (x<y):=rfl
theorem gu:lexLt [] []=false:=rfl
theorem lh(y:Int)(ys:List Int):lexLt [] (y::ys)=true:=rfl
theorem bK(x:Int)(xs:List Int):lexLt (x::xs) []=false:=rfl
theorem yS(A:Around)(s:Shared)(a:Int)(t:Tok)(c:Int)(u:Tok):∃ e,SeqAt.EqAt A s (.int a t) (.int c u) e/\(e=true ↔ a=c) :=
 ⟨(a==c),V9 a t c u,by simp⟩
theorem xn(A:Around)(s:Shared)(a:Int)(t:Tok)(c:Int)(u:Tok)(prog:Program)(w:World)(E:Value->Shared->Prop)(Q:Value->Shared->Prop)(h:Q (.bool (decide (a<c))) s):
  wpAny (model prog w) A (richCompare .Lt (.int a t) (.int c u)) Q E s :=
 (PyProof.Rows.lt_int h:wpAny (model prog w) A (compareOp .Lt (.int a t) (.int c u)) Q E s)
section
open PySem.SeqAt
open PySem.AutoSeq1 (wpAny_loadPart')
open PySem.MeetsSeq PySem.MeetsSeq2 PySem.MeetsSeq3
theorem gq(l b:Addr)(items dN:Array Value)(n n2:Nat)(dd CM:Option Addr)(sl Cf:Array (Option Value))(ns ms:List Int)(hi:IntsAre items.toList ns)(hj:IntsAre dN.toList ms):
  Meets (Builtin.«tuple.__lt__» ⟨[.ref l,.ref b],[]⟩)
   (λ_ R s=>s.heap.get? l=some { cls:=.type "tuple",dict:=dd,data:=.seq items n,slots:=sl }/\s.heap.get? b=some { cls:=.type "tuple",dict:=CM,data:=.seq dN n2,slots:=Cf } /\
    R (.ok (.ret (.bool (lexLt ns ms)))) s) :=
 .of_wp λprog w A R s h=>by
  obtain⟨hp,g,d,tk,os⟩:=s;obtain⟨hl,hb,h⟩:=h;have f2:=AutoSeq1.sub_tuple_tuple;have z1:items.size=ns.length:=by rw[<- hi.length];simp
  have z2:dN.size=ms.length:=by rw[<- hj.length];simp
  wp_walk using wpAny_loadPart' hl,wpAny_loadPart' hb,wpAny_forIn_list _ (λrest b s'=>b.1=none/\s'=⟨hp,g,d,tk,os⟩/\∃(vs ws:List Value) (l7 GB:List Int),rest=vs.zip ws /\
   IntsAre vs l7/\IntsAre ws GB/\l7.length+dN.size=GB.length+items.size/\R (.ok (.ret (.bool (lexLt l7 GB)))) ⟨hp,g,d,tk,os⟩) _
  case turn =>
   rintro ⟨y,x⟩ rest b s' ⟨um,rfl,vs,ws,l7,GB,hz,NK,Ls,hlen,hR⟩;cases NK with
   | nil=>rw[List.zip_nil_left]at hz;cases hz
   | cons a t hvi' =>
    cases Ls with
    | nil=>rw[List.zip_nil_right]at hz;cases hz
    | cons c u hwi' =>
     rw[List.zip_cons_cons]at hz;injection hz with Sl JD
     injection Sl with hy hx
     subst hy hx;rw[cv]at hR;simp only[List.length_cons]at hlen;obtain⟨e,he,JR⟩:=yS A.in1 ⟨hp,g,d,tk,os⟩ a t c u;refine U6 (he prog w _ _ ?_);cases e with
     | true =>
      rw[if_pos (JR.mp rfl)]at hR
      wp_walk
      exact⟨rfl,rfl,_,_,_,_,JD,hvi',hwi',by left,hR⟩
     | false =>
      rw[if_neg (λq=>absurd (JR.mpr q) Bool.false_ne_true)]at hR;have Sz:=xn A.in1 ⟨hp,g,d,tk,os⟩ a t c u prog w
      wp_walk using Sz
      exact⟨_,rfl,by simpa using hR⟩
  case fin =>
   rintro ⟨b1,b2⟩ s' ⟨um,rfl,vs,ws,l7,GB,hz,NK,Ls,hlen,hR⟩;simp only at um;subst um;have hv:lexLt l7 GB=decide (items.size<dN.size):=by
    cases NK with
    | nil =>
     cases Ls with
     | nil =>
      simp only[List.length_nil]at hlen;rw[gu];exact(VL (by left)).symm
     | cons c u hw =>
      simp only[List.length_nil,List.length_cons]at hlen;rw[lh];exact(V_ (by left)).symm
    | cons a t hv =>
     cases Ls with
     | nil =>
      simp only[List.length_nil,List.length_cons]at hlen;rw[bK];exact(VL (by left)).symm
     | cons c u hw =>
      rw[List.zip_cons_cons]at hz;cases hz
   rw[hv]at hR
   wp_walk
   exact⟨_,rfl,by simpa [Builtin.Tuple.tupleCompareSizes]using hR⟩
  case h =>
   exact⟨rfl,rfl,items.toList,dN.toList,ns,ms,rfl,hi,hj,by left,h⟩
end
variable {Q:Value->Shared->Prop}
section
variable {prog:Program}{w:World}{A:Around}{E:Value->Shared->Prop}{s:Shared}
theorem rN{l b:Addr}{items dN:Array Value}{ns ms:List Int}(hl:IsTup s.heap l items)(hb:IsTup s.heap b dN)(hi:IntsAre items.toList ns)(hj:IntsAre dN.toList ms)
  (hu:A.units<cLine) (h:Q (.bool (lexLt ns ms)) s):wpAny (model prog w) A (compareOp .Lt (.ref l) (.ref b)) Q E s:=by
 obtain⟨⟨cls,dd,data,sl⟩,ho,hc,n,hd⟩:=id hl;obtain⟨⟨Kw,CM,data2,Cf⟩,vM,hc2,n2,hd2⟩:=id hb;simp only at hc hd hc2 hd2;subst hc hd hc2 hd2;exact richCompare_meets_room (op:=.Lt) ⟨_,ho,rfl⟩ ⟨_,vM,rfl⟩ Wo PySem.F.entry_tuple_lt (PySem.F.args_tuple_lt_2 _ _) (gq l b items dN n n2 dd CM sl Cf ns ms hi hj)
  ⟨ho,vM,show Value.bool (lexLt ns ms)≠Value.notImplemented/\Q (.bool (lexLt ns ms)) s from⟨(λx=>nomatch x),h⟩⟩ hu
theorem BF{t b:Addr}{vs ws:List Value}(ht:IsTup s.heap t vs.toArray)(hb:IsTup s.heap b ws.toArray)(hv:vs≠[])
  (h1:ws=[]->Q (.ref t) s) (h2:ws≠[]->Q (.ref s.heap.objs.size) { s with heap:=s.heap.push { cls:=.type "tuple",data:=.seq (vs++ws).toArray } })
  (hsz:vs.length+ws.length<=sizeLine):wpAny (model prog w) A (binaryOp .Add (.ref t) (.ref b)) Q E s:=by
 obtain⟨⟨cls,dd,data,sl⟩,ho,hc,n,hd⟩:=id ht;obtain⟨⟨Kw,CM,data2,Cf⟩,vM,hc2,n2,hd2⟩:=id hb;simp only at hc hd hc2 hd2;subst hc hd hc2 hd2;have e:vs.toArray++ws.toArray=(vs++ws).toArray:=by simp
 by_cases hw:ws=[]
 ·exact concat_meets ⟨_,ho,rfl⟩ ⟨_,vM,rfl⟩ noFill_tuple_add seq_tuple_add PySem.F.slot_tuple_add PySem.F.entry_tuple_add (PySem.F.args_tuple_add_2 _ _)
   (tuple_addW1 t b vs.toArray ws.toArray n n2 dd CM sl Cf (by simpa using hv) (by simp[hw])) ⟨ho,vM,h1 hw⟩
 ·refine concat_meets ⟨_,ho,rfl⟩ ⟨_,vM,rfl⟩ noFill_tuple_add seq_tuple_add PySem.F.slot_tuple_add PySem.F.entry_tuple_add (PySem.F.args_tuple_add_2 _ _)
   (tuple_addW2 t b vs.toArray ws.toArray n n2 dd CM sl Cf (by simpa using hv) (by simpa using hw) (by rw[List.size_toArray,List.size_toArray];exact hsz)) ⟨ho,vM,?_⟩
  rw[e];exact h2 hw
end
end HT
namespace L2
open PySem PySem.Spec PyProof.Rows
noncomputable abbrev TO:=St->Hp->(Option Int->Hp->Prop)->Prop
section
variable {X:Cx}{e:Expr}{te:TE}{lo hi:Option Expr}{tl th:TO}{pos p2:Pos}
def HY(K:PySem.W.Frag):R2:=λx y H Q=>∃ a b xs ys,x=.ref a/\y=.ref b/\ao K H a xs/\ao K H b ys/\xs≠[]/\xs.length+ys.length<=sizeLine /\
 (ys=[]->Q (.ref a) H)/\(ys≠[]->∀ p,H p=none->Q (.ref p) (upd H p (.tup (xs++ys))))
theorem Vals.nW{xs:List V}{us:List Value}(r:Vals xs us):us=[] ↔ xs=[]:=by
 cases r with
 | nil=>simp
 | cons _ _=>simp
theorem Le:iS X (binaryOp .Add) (HY X.K):=by
 intro pins s σ H x y v u Q I rx ry h;obtain⟨a,b,xs,ys,rfl,rfl,ha,hb,hx,hz,q1,q2⟩:=h;cases rx;cases ry;obtain⟨af,r1,p1,_⟩:=I.tuple ha;obtain⟨ED,r2,p2,_⟩:=I.tuple hb;refine HT.BF p1 p2 (λz=>hx (r1.nW.mp z)) (λz=>⟨.ref a,H,I,rfl,q1 (r2.nW.mp z)⟩) (λz=>?_) (by rw[<- r1.length,<- r2.length];exact hz);refine⟨.ref s.heap.objs.size,_,I.laid (t':=s.toks) (o:=.tup (xs++ys)) (λb ob q=>U_ _ q) (Vc _) ?_,rfl,q2 (λw=>z (r2.nW.mpr w)) _ (I.bR.fresh (Vc _))⟩;exact⟨by rw[List.length_append];exact hz,_,r1.append r2,IsTup.new _ _⟩
end
end L2
namespace L2
open PySem PySem.Spec PyProof.Rows
noncomputable def oU(n:Nat)(i:Int):Option Nat:=if 0<=i then(if i<n then some i.toNat else none)else if -(n:Int)<=i then some (i+n).toNat else none
def CU{α:Type}(xs:List α)(i:Int):Option α:=(oU xs.length i).bind λj=>xs[j]?
theorem t8{n:Nat}{i:Int}{j:Nat}(h:oU n i=some j):seqIndex? i n=some j/\j<n /\ -(n:Int)<=i/\i<n:=by
 unfold oU at h;by_cases h0:0<=i
 ·rw[if_pos h0]at h;by_cases h1:i<n
  ·rw[if_pos h1]at h;have e:i.toNat=j:=Vk h;exact⟨by rw[seqIndex_of h0 h1,e],by left,by left,h1⟩
  ·rw[if_neg h1]at h;cases h
 ·rw[if_neg h0]at h;by_cases h1:-(n:Int)<=i
  ·rw[if_pos h1]at h;have e:(i+n).toNat=j:=Vk h;exact⟨by rw[seqIndex_neg (by left) h1,e],by left,h1,by left⟩
  ·rw[if_neg h1]at h;cases h
theorem uU{α:Type}{xs:List α}{i:Int}{v:α}(h:CU xs i=some v):∃ j,seqIndex? i xs.length=some j/\xs[j]?=some v/\j<xs.length /\ -(xs.length:Int)<=i/\i<xs.length:=by
 unfold CU at h;cases e:oU xs.length i with
 | none=>rw[e]at h;cases h
 | some j =>
  rw[e]at h;obtain⟨h1,h2,h3,h4⟩:=t8 e;exact⟨j,h1,h,h2,h3,h4⟩
noncomputable def kE(b:Expr):Prop:=∀ o i,subscripted b false o i=operate [o,i] (getItem o i)
def CY(X:Cx)(r:R2):Prop :=
 ∀(value slice:Expr) (pins:List (Addr×Obj)) (s:Shared) (σ:St) (H:Hp) (x y:V) (v u:Value) (Q:VK),Inv X pins σ H s->RelV x v->RelV y u->r x y H Q ->
  subscripted slice false v u=operate [v,u] (getItem v u)->wpAny (model X.prog X.w) X.A (subscriptTail value slice v u) (EP X pins σ Q) X.xe s
def Pc(X:Cx)(id:String)(r:V->List V->Hp->VK->Prop):Prop :=
 ∀(pins:List (Addr×Obj)) (s:Shared) (σ:St) (H:Hp) (x:V) (xs:List V) (v:Value) (us:List Value) (Q:VK),Inv X pins σ H s->RelV x v->Vals xs us->r x xs H Q ->
  wpAny (model X.prog X.w) X.A (call (.builtin id) (v::us)) (EP X pins σ Q) X.xe s
variable {H:Hp}{σ:L2.St}
section
variable {X:Cx}{a b:Expr}{ta tb:TE}{pos:Pos}
theorem CY.or{r r':R2}(h:CY X r)(h':CY X r'):CY X (λx y H Q=>r x y H Q\/r' x y H Q):=by
 intro value slice pins s σ H x y v u Q I rx ry q hs;rcases q with q | q
 ·exact h value slice pins s σ H x y v u Q I rx ry q hs
 ·exact h' value slice pins s σ H x y v u Q I rx ry q hs
theorem xJ{r:R2}(hr:CY X r)(ha:PE X a ta)(hb:PE X b tb)(hs:kE b):PE X (.Subscript a b pos) (Dd r ta tb):=by
 intro pins s σ H Q I h;exact Subscript_ (F_ ha hb I h λv u s2 x y H2 I2 rx ry q=>hr a b pins s2 σ H2 x y v u Q I2 rx ry q (hs _ _))
def MP(K:PySem.W.Frag):R2:=λx y H Q=>∃ p xs i v,x=.ref p/\y=.int i/\c_ K H p xs/\CU xs i=some v/\Q v H
def MO(K:PySem.W.Frag):R2:=λx y H Q=>∃ p xs i v,x=.ref p/\y=.int i/\ao K H p xs/\CU xs i=some v/\Q v H
theorem t7:CY X (MP X.K):=by
 intro value slice pins s σ H x y v u Q I rx ry h hs;obtain⟨p,xs,i,z,rfl,rfl,hq,he,q⟩:=h;cases rx;obtain⟨t,rfl⟩:=ry;obtain⟨af,r,pl,hz⟩:=I.list hq;obtain⟨j,h1,h2,h3,h4,h5⟩:=uU he;obtain⟨w,ew,iw⟩:=r.get h2;have hl:=r.length;have hn:=n5;have fin:EP X pins σ Q w s:=⟨z,H,I,iw,q⟩
 by_cases h0:0<=i
 ·have hj:i.toNat=j:=by
   rw[seqIndex_of h0 h5]at h1;exact Vk h1
  exact item_listR pl.isList h0 (by left) (by rw[hj];simpa using ew) fin hs
 ·have hj:(i+(af.toArray.size:Int)).toNat=j:=by
   rw[seqIndex_neg (by left) h4]at h1;rw[List.size_toArray,<- hl];exact Vk h1
  exact Wd (x:=w) pl.isList.typeIs slot_list_getitem.lookup
   (wpAny_getItem_list_neg (Q:=λr s'=>r=w/\EP X pins σ Q r s') pl.isList (by left) (by rw[List.size_toArray]<;>omega) (by left) (by rw[hj];simpa using ew) ⟨rfl,fin⟩) hs
theorem yh:CY X (MO X.K):=by
 intro value slice pins s σ H x y v u Q I rx ry h hs;obtain⟨p,xs,i,z,rfl,rfl,hq,he,q⟩:=h;cases rx;obtain⟨t,rfl⟩:=ry;obtain⟨af,r,pl,hz⟩:=I.tuple hq;obtain⟨j,h1,h2,h3,h4,h5⟩:=uU he;obtain⟨w,ew,iw⟩:=r.get h2;have hl:=r.length;have hn:=n5;have fin:EP X pins σ Q w s:=⟨z,H,I,iw,q⟩
 exact Wd (x:=w) pl.typeIs slot_tuple_getitem.lookup
  (getItem_tuple (j:=j) (Q:=λr s'=>r=w/\EP X pins σ Q r s') pl (by left) (by left) (by rw[List.size_toArray,<- hl];exact h1) (by simpa using ew) ⟨rfl,fin⟩) hs
theorem rL(af:List Value)(n j:Nat)(u:Value):Obj.mapSeq (·.setIfInBounds j u) { cls:=.type "list",data:=.seq af.toArray n }={ cls:=.type "list",data:=.seq (af.set j u).toArray n }:=by
 simp[Obj.mapSeq]
theorem Inv.lst{pins:List (Addr×Obj)}{σ:St}{H:Hp}{s:Shared}{p:Addr}{xs:List V}(I:Inv X pins σ H s)(h:H p=some (.lst xs)):
  ∃(af:List Value) (n:Nat),Vals xs af/\s.heap.get? p=some { cls:=.type "list",data:=.seq af.toArray n }/\xs.length<=sizeLine:=by
 obtain⟨z,af,n,r,e⟩:=I.bR p _ h;exact⟨af,n,r,e,z⟩
theorem Inv.Ep{pins:List (Addr×Obj)}{s:Shared}{p:Addr}{xs ys:List V}{af its':List Value}{n n':Nat}{f:Obj->Obj}(I:Inv X pins σ H s)(h:H p=some (.lst xs))
  (ho:s.heap.get? p=some { cls:=.type "list",data:=.seq af.toArray n }) (hf:f { cls:=.type "list",data:=.seq af.toArray n }={ cls:=.type "list",data:=.seq its'.toArray n' }) (r:Vals ys its') (hz:ys.length<=sizeLine) (t:Nat) :
  Inv X pins σ (upd H p (.lst ys)) { s with heap:=s.heap.update p f,toks:=t }:=by
 have e:(s.heap.update p f).get? p=some { cls:=.type "list",data:=.seq its'.toArray n' }:=by
  rw[Heap.get?_update_self f ho (by rw[hf]<;>rfl),hf]
 refine I.write (x:=p) (e:=p) (by rw[h];trivial) (.inl rfl) (λb u hb q=>(We _ _ (WO hb)).trans q) ⟨_,e⟩ ?_;exact⟨hz,its',n',r,e⟩
def HX:V->V->V->Hp->(Hp->Prop)->Prop:=λo i v H Q=>∃ p xs k j,o=.ref p/\i=.int k/\H p=some (.lst xs)/\oU xs.length k=some j/\Q (upd H p (.lst (xs.set j v)))
theorem set_list:KQ X HX:=by
 intro pins s σ H o i v ov iv u Q I ro ri rv h;obtain⟨p,xs,k,j,rfl,rfl,hp,hj,q⟩:=h;cases ro;obtain⟨t,rfl⟩:=ri;obtain⟨af,n,r,ho,hz⟩:=I.lst hp;obtain⟨h1,h2,h3,h4⟩:=t8 hj;have hl:=r.length;have hn:=n5;have I':Inv X pins σ (upd H p (.lst (xs.set j v))) { s with heap:=s.heap.update p (Obj.mapSeq (·.setIfInBounds j u)) } :=
  I.Ep hp ho (rL af n j u) (r.set rv j) (by rw[List.length_set];exact hz) s.toks
 by_cases h0:0<=k
 ·have hk:k.toNat=j:=by
   rw[seqIndex_of h0 h4]at h1;exact Vk h1
  exact PySem.W.ki_setAt ho h0 (by left) (by rw[List.size_toArray,<- hl];exact h4) (by rw[hk];exact⟨_,I',q⟩)
 ·have hk:(k+(af.toArray.size:Int)).toNat=j:=by
   rw[seqIndex_neg (by left) h3]at h1;rw[List.size_toArray,<- hl];exact Vk h1
  exact PySem.W.ki_setBack ho (by left) (by rw[List.size_toArray,<- hl];exact h3) (by left) (by rw[hk];exact⟨_,I',q⟩)
noncomputable def fL:V->Bool
 | .aL=>true
 | .bl _=>true
 | .int _=>true
 | .str _=>true
 | _=>false
noncomputable def zH:V->V->Bool
 | .aL,.aL=>true
 | .bl a,.bl b=>a==b
 | .bl a,.int b=>(if a then 1 else 0)==b
 | .int a,.bl b=>a==(if b then 1 else 0)
 | .int a,.int b=>a==b
 | .str a,.str b=>a==b
 | _,_=>false
theorem FY{A:Around}{s:Shared}{y x:V}{u v:Value}(ry:RelV y u)(rx:RelV x v)(fy:fL y=true)(fx:fL x=true):SeqAt.EqAt A s u v (zH y x):=by
 cases y with
 | aL =>
  cases ry;cases x with
  | aL=>cases rx;exact V6 _
  | bl b=>cases rx;exact Wr b
  | int b=>obtain⟨t,rfl⟩:=rx;exact Ww b t
  | str b=>obtain⟨t,rfl⟩:=rx;exact SeqAt.EqAt.none_str b t
  | _=>exact absurd (show false=true from fx) U8
 | bl a =>
  cases ry;cases x with
  | aL=>cases rx;exact Ws a
  | bl b=>cases rx;exact Wt a b
  | int b=>obtain⟨t,rfl⟩:=rx;exact Wx a b t
  | str b=>obtain⟨t,rfl⟩:=rx;exact SeqAt.EqAt.bool_str a b t
  | _=>exact absurd (show false=true from fx) U8
 | int a =>
  obtain⟨t',rfl⟩:=ry;cases x with
  | aL=>cases rx;exact Wz a t'
  | bl b=>cases rx;exact WA a t' b
  | int b=>obtain⟨t,rfl⟩:=rx;exact V9 a t' b t
  | str b=>obtain⟨t,rfl⟩:=rx;exact SeqAt.EqAt.int_str a t' b t
  | _=>exact absurd (show false=true from fx) U8
 | str a =>
  obtain⟨t',rfl⟩:=ry;cases x with
  | aL=>cases rx;exact SeqAt.EqAt.str_none a t'
  | bl b=>cases rx;exact SeqAt.EqAt.str_bool a t' b
  | int b=>obtain⟨t,rfl⟩:=rx;exact SeqAt.EqAt.str_int a t' b t
  | str b=>obtain⟨t,rfl⟩:=rx;exact SeqAt.EqAt.str_str a t' b t
  | _=>exact absurd (show false=true from fx) U8
 | _=>exact absurd (show false=true from fy) U8
def sg(x:V)(u:Value):Bool:=match u with
 | .none=>zH .aL x
 | .bool b=>zH (.bl b) x
 | .int i _=>zH (.int i) x
 | .str z _=>zH (.str z) x
 | _=>false
theorem yP{x y:V}{u:Value}(r:RelV y u)(f:fL y=true):sg x u=zH y x:=by
 cases y with
 | aL=>cases r;rfl
 | bl b=>cases r;rfl
 | int i=>obtain⟨t,rfl⟩:=r;rfl
 | str z=>obtain⟨t,rfl⟩:=r;rfl
 | _=>exact absurd (show false=true from f) U8
theorem iR{x:V}:∀ {xs:List V} {us:List Value},Vals xs us->xs.all fL=true->us.any (sg x)=xs.any λy=>zH y x
 | _,_,.nil,_=>rfl
 | y::xs,u::us,.cons r t,f=>by
  rw[List.all_cons,Bool.and_eq_true]at f;rw[List.any_cons,List.any_cons,yP r f.1,iR t f.2]
theorem fH{A:Around}{s:Shared}{x:V}{v:Value}(rx:RelV x v)(fx:fL x=true):∀ {xs:List V} {us:List Value},Vals xs us->xs.all fL=true->∀ u∈us,SeqAt.EqAt A s u v (sg x u)
 | _,_,.nil,_=>λu hu=>by cases hu
 | y::xs,u::us,.cons r t,f=>λu' hu=>by
  rw[List.all_cons,Bool.and_eq_true]at f;rcases List.mem_cons.mp hu with rfl | hu
  ·rw[yP r f.1];exact FY r rx f.1 fx
  ·exact fH rx fx t f.2 u' hu
def Lq(x:V)(xs:List V):Bool:=xs.any λy=>zH y x
def PC(K:PySem.W.Frag)(neg:Bool):R2:=λx y H Q=>∃ p xs,y=.ref p/\(c_ K H p xs\/ao K H p xs)/\fL x=true/\xs.all fL=true/\Q (.bl (if neg then !Lq x xs else Lq x xs)) H
theorem Gz:iS X (compareOp .In) (PC X.K false):=by
 intro pins s σ H x y v u Q I rx ry h;obtain⟨p,xs,rfl,hq,fx,fs,q⟩:=h;cases ry;rcases hq with hq | hq
 ·obtain⟨af,r,pl,hz⟩:=I.list hq;refine SeqAt.in_listAt (sg x) pl.isList (λw hw=>fH rx fx r fs w (by simpa using hw)) ⟨.bl _,H,I,rfl,?_⟩;rw[show af.toArray.any (sg x)=af.any (sg x) by simp,iR r fs];exact q
 ·obtain⟨af,r,pl,hz⟩:=I.tuple hq;refine SeqAt.in_tupleAt (sg x) pl (λw hw=>fH rx fx r fs w (by simpa using hw)) ⟨.bl _,H,I,rfl,?_⟩;rw[show af.toArray.any (sg x)=af.any (sg x) by simp,iR r fs];exact q
theorem AL:iS X (compareOp .NotIn) (PC X.K true):=by
 intro pins s σ H x y v u Q I rx ry h;obtain⟨p,xs,rfl,hq,fx,fs,q⟩:=h;cases ry;rcases hq with hq | hq
 ·obtain⟨af,r,pl,hz⟩:=I.list hq;refine SeqAt.notIn_listAt (sg x) pl.isList (λw hw=>fH rx fx r fs w (by simpa using hw)) ⟨.bl _,H,I,rfl,?_⟩;rw[show af.toArray.any (sg x)=af.any (sg x) by simp,iR r fs];exact q
 ·obtain⟨af,r,pl,hz⟩:=I.tuple hq;refine SeqAt.notIn_tupleAt (sg x) pl (λw hw=>fH rx fx r fs w (by simpa using hw)) ⟨.bl _,H,I,rfl,?_⟩;rw[show af.toArray.any (sg x)=af.any (sg x) by simp,iR r fs];exact q
theorem oJ:dJ X (.builtin "len") (λxs H Q=>∃ p ys,xs=[.ref p]/\(c_ X.K H p ys\/ao X.K H p ys)/\Q (.int ys.length) H):=by
 intro pins s σ H xs us Q I r h;obtain⟨p,ys,rfl,hq,q⟩:=h;obtain⟨u,rfl,rx⟩:=vals1 r;cases rx;have hn:=n5;rcases hq with hq | hq
 ·obtain⟨af,r',pl,hz⟩:=I.list hq;have hlen:=r'.length;exact Calls.call_len_list pl.isList (by simp only[List.size_toArray]<;>omega) ⟨.int ys.length,H,I.tok _,⟨s.toks+1,by rw[List.size_toArray,hlen]⟩,q⟩
 ·obtain⟨af,r',pl,hz⟩:=I.tuple hq;have hlen:=r'.length;exact len_tuple pl (by simp only[List.size_toArray]<;>omega) ⟨.int ys.length,H,I.tok _,⟨s.toks+1,by rw[List.size_toArray,hlen]⟩,q⟩
theorem oI:dJ X (.type "list") (λxs H Q=>∃ p ys,xs=[.ref p]/\(c_ X.K H p ys\/ao X.K H p ys)/\∀ l,H l=none->Q (.ref l) (upd H l (.lst ys))):=by
 intro pins s σ H xs us Q I r h;obtain⟨p,ys,rfl,hq,q⟩:=h;obtain⟨u,rfl,rx⟩:=vals1 r;cases rx;have fin:∀(af:List Value),Vals ys af->ys.length<=sizeLine->∀(h':Heap) (c':Nat),(∀ b o',s.heap.get? b=some o'->h'.get? b=some o') ->
   h'.get? s.heap.objs.size=some { cls:=.type "list",dict:=none,data:=.seq af.toArray c',slots:=#[] }->EP X pins σ Q (.ref s.heap.objs.size) { s with heap:=h' }:=λaf r' hz h' c' kp e =>
  ⟨.ref s.heap.objs.size,_,I.laid (t':=s.toks) kp (Vc _) (show bB X.prog X.w _ h' _ (.lst ys) from⟨hz,af,c',r',e⟩),rfl,q _ (I.bR.fresh (Vc _))⟩
 rcases hq with hq | hq
 ·obtain⟨af,r',pl,hz⟩:=I.list hq;have hlen:=r'.length;obtain⟨o,ho,hc,n,hd⟩:=pl.isList;exact call_list_seq p (.inl rfl) ho hc hd (λh' c' kp e=>fin af r' hz h' c' kp e) (by simp only[List.size_toArray]<;>omega)
 ·obtain⟨af,r',pl,hz⟩:=I.tuple hq;have hlen:=r'.length;obtain⟨o,ho,hc,n,hd⟩:=pl;exact call_list_seq p (.inr rfl) ho hc hd (λh' c' kp e=>fin af r' hz h' c' kp e) (by simp only[List.size_toArray]<;>omega)
theorem mw:dJ X (.type "tuple") (λxs H Q=>∃ p ys,xs=[.ref p]/\((c_ X.K H p ys/\∀ l,H l=none->Q (.ref l) (upd H l (.tup ys)))\/(ao X.K H p ys/\Q (.ref p) H))):=by
 intro pins s σ H xs us Q I r h;obtain⟨p,ys,rfl,h⟩:=h;obtain⟨u,rfl,rx⟩:=vals1 r;cases rx;rcases h with ⟨hq,q⟩ | ⟨hq,q⟩
 ·obtain⟨af,r',pl,hz⟩:=I.list hq;have hlen:=r'.length;refine call_tuple_list pl.isList (λh' kp=>?_) (by simp only[List.size_toArray]<;>omega);have I1:Inv X pins σ H { s with heap:=h' }:=I.kept (t':=s.toks) kp;have I2:Inv X pins σ (upd H h'.objs.size (.tup ys)) { s with heap:=h'.push { cls:=.type "tuple",data:=.seq af.toArray } } :=
   I1.laid (t':=s.toks) (λb o e=>U_ _ e) (Vc _) (show bB X.prog X.w _ _ _ (.tup ys) from⟨hz,af,r',IsTup.new _ _⟩)
  exact⟨.ref h'.objs.size,_,I2,rfl,q _ (I1.bR.fresh (Vc _))⟩
 ·obtain⟨af,r',pl,hz⟩:=I.tuple hq;exact call_tuple_same pl ⟨.ref p,H,I,rfl,q⟩
def Md(K:PySem.W.Frag)(T:String)(x:V)(H:Hp):Prop:=match x with
 | .str _=>T = "str"
 | .int _=>T = "int"
 | .ref p=>(T = "list" /\ ∃ xs,c_ K H p xs)\/(T = "tuple" /\ ∃ o,K.lookup p=some o/\o.cls=.type "tuple" /\ o.dict=none) \/
   (T = "dict" /\ ((∃ lj,H p=some (.dK lj))\/∃ lj,H p=some (.dT lj)))\/(T = "set" /\ ∃ S n,H p=some (.set S n))
 | _=>False
theorem wX{pins:List (Addr×Obj)}{s:Shared}{T:String}{x:V}{v:Value}(I:Inv X pins σ H s)(r:RelV x v)(ty:Md X.K T x H):
  s.TypeIs v T/\∀ a,v=.ref a->∃ ob,s.heap.get? a=some ob/\ob.dict=none:=by
 cases x with
 | str z =>
  obtain⟨t,rfl⟩:=r;cases (show T = "str" from ty);exact⟨typeIs_str s z t,λ_ e=>nomatch e⟩
 | int i =>
  obtain⟨t,rfl⟩:=r;cases (show T = "int" from ty);exact⟨typeIs_int s i t,λ_ e=>nomatch e⟩
 | ref p =>
  cases r;rcases ty with ⟨rfl,xs,hq⟩ | ⟨rfl,o,hk,hc,hd⟩ | ⟨rfl,hk⟩ | ⟨rfl,S,n,hk⟩
  ·obtain⟨af,_,pl,_⟩:=I.list hq;refine⟨pl.isList.typeIs,λa e=>?_⟩;cases e;obtain⟨o,n,e,c,hd,_⟩:=pl;exact⟨o,e,hd⟩
  ·refine⟨⟨o,I.wu p o hk,hc⟩,λa e=>?_⟩;cases e;exact⟨o,I.wu _ o hk,hd⟩
  ·have z:∃ o,s.heap.get? p=some o/\o.ExactDict:=by
    rcases hk with ⟨lj,hk⟩ | ⟨lj,hk⟩
    ·obtain⟨_,_,_,_,o,_,_,e,ex,_⟩:=I.bR p _ hk;exact⟨o,e,ex⟩
    ·obtain⟨_,_,_,_,o,_,_,e,ex,_⟩:=I.bR p _ hk;exact⟨o,e,ex⟩
   obtain⟨o,e,ex⟩:=z;refine⟨⟨o,e,ex.1⟩,λa e2=>?_⟩;cases e2;exact⟨o,e,ex.2.1⟩
  ·obtain⟨o,_,_,_,e,ex,_⟩:=I.bR p _ hk;refine⟨⟨o,e,ex.1⟩,λa e2=>?_⟩;cases e2;exact⟨o,e,ex.2.1⟩
 | _=>exact False.elim ty
def Mo(K:PySem.W.Frag)(T:String)(r:V->List V->Hp->VK->Prop)(to:TE):TE:=λσ H Q=>to σ H λx H1=>Md K T x H1/\r x [] H1 Q
def RA(K:PySem.W.Frag)(T:String)(r:V->List V->Hp->VK->Prop)(to:TE)(t:TA):TE:=λσ H Q=>to σ H λx H1=>Md K T x H1/\t σ H1 λxs H2=>r x xs H2 Q
variable {o e:Expr}{es:List Expr}{to:TE}{t:TA}{name:Str}{apos ou:Pos}{T id:String}{r:V->List V->Hp->VK->Prop}
theorem xO(pa:PlainAttrs T)(slot:Slot T name id)(NN:typeOf (.builtin id)=pure (.type "method_descriptor"))(hm:Pc X id r)(ho:PE X o to)
  (yx:attributeBase o name X.env (eval o X.env)=eval o X.env:=by rfl) (hline:(apos.endLine==ou.line)=true:=by rfl):PE X (.Call (.Attribute o name apos) [] [] ou) (Mo X.K T r to):=by
 intro pins s σ H Q I h;refine wpAny_Call_method0_late yx hline (bV (ho pins s σ H _ I h) λv s1 ⟨x,H1,I1,r1,ty,q1⟩=>?_);obtain⟨h1,h2⟩:=wX I1 r1 ty;exact⟨T,id,pa,slot,NN,h1,h2,Wf rfl (PySem.evalArgs_none (hm pins s1 σ H1 x [] v [] Q I1 r1 .nil q1))⟩
theorem Io(pa:PlainAttrs T)(slot:Slot T name id)(NN:typeOf (.builtin id)=pure (.type "method_descriptor"))(hm:Pc X id r)(ho:PE X o to)(ha:PA X (e::es) t)
  (yx:attributeBase o name X.env (eval o X.env)=eval o X.env:=by rfl)
  (hfew:((backTo ou (starEach (e::es) X.env)).all (λx=>!x.1)&&(backToKw ou (keywordEach [] X.env)).all (λx=>x.1.isSome)
   && decide ((e::es).length+([]:List Keyword).length+(if ([]:List Keyword).isEmpty then 0 else 1)<30))=true:=by rfl)
  (hline:(apos.endLine==ou.line)=true:=by rfl) (hs:starEach (e::es) X.env=(false,eval e X.env)::starEach es X.env:=by rfl) (ET:(backTo ou (starEach es X.env)).any (·.1)=false:=by rfl) :
  PE X (.Call (.Attribute o name apos) (e::es) [] ou) (RA X.K T r to t):=by
 intro pins s σ H Q I h;refine wpAny_Call_method_late yx hfew hline rfl (bV (ho pins s σ H _ I h) λv s1 ⟨x,H1,I1,r1,ty,q1⟩=>?_);obtain⟨h1,h2⟩:=wX I1 r1 ty;refine⟨T,id,pa,slot,NN,h1,h2,?_⟩;have hA:=ha ou pins s1 σ H1 _ I1 q1;rw[hs]at hA ⊢;refine Wf (by show(false||(backTo ou (starEach es X.env)).any (·.1))=false;rw[ET]<;>rfl) (Calls.evalArgs_plain ?_);exact bV hA λus s2 ⟨vs,H2,I2,r2,q2⟩=>hm pins s2 σ H2 x vs v us Q I2 r1 r2 q2
/- xs.append(e),list.index on a module's tuple .. are Pc facts of 06m -/
end
end L2
namespace L2
open PySem PySem.Spec PyProof.Rows
def L7(X:Cx)(id:String)(r:V->List V->Hp->VK->Prop):Prop :=
 ∀(pins:List (Addr×Obj)) (s:Shared) (σ:St) (H:Hp) (x:V) (xs:List V) (v:Value) (us:List Value) (Q:VK),Inv X pins σ H s->RelV x v->Vals xs us->r x xs H Q ->
  wpAny (model X.prog X.w) X.A (call (.builtin id) (v::us)) (EP X pins σ Q) X.xe s
theorem Vals.one:∀ {x:V} {us:List Value},Vals [x] us->∃ u,us=[u]/\RelV x u
 | _,_,.cons r .nil=>⟨_,rfl,r⟩
theorem Vals.zero:∀ {us:List Value},Vals [] us->us=[]
 | _,.nil=>rfl
theorem Vals.dropLast{xs:List V}{us:List Value}(h:Vals xs us):Vals xs.dropLast us.dropLast:=by
 induction h with
 | nil=>exact .nil
 | cons r t ih =>
  cases t with
  | nil=>exact .nil
  | cons q t'=>exact .cons r ih
theorem Vals.eraseIdx:∀ {xs:List V} {us:List Value} (i:Nat),Vals xs us->Vals (xs.eraseIdx i) (us.eraseIdx i)
 | _,_,_,.nil=>.nil
 | _,_,0,.cons _ t=>t
 | _,_,i+1,.cons r t=>.cons r (Vals.eraseIdx i t)
theorem Vals.rep{xs:List V}{us:List Value}(h:Vals xs us):∀ k:Nat,Vals (List.replicate k xs).flatten (List.replicate k us).flatten
 | 0=>.nil
 | k+1=>by
  rw[List.replicate_succ,List.replicate_succ,List.flatten_cons,List.flatten_cons];exact Vals.append h (Vals.rep h k)
theorem se{α:Type}(l:List α):l.eraseIdx (l.length - 1)=l.dropLast:=by
 induction l with
 | nil=>rfl
 | cons a r ih =>
  cases r with
  | nil=>rfl
  | cons b r =>
   have e:(a::b::r).length - 1=((b::r).length - 1)+1:=by
    have h1:(a::b::r).length=r.length+2:=rfl;have h2:(b::r).length=r.length+1:=rfl;left
   rw[e,List.eraseIdx_cons_succ,ih]
   all_goals rfl
theorem mV{α:Type}:∀(l:List α) (i:Nat),(l.eraseIdx i).length<=l.length
 | [],_=>Vc _
 | _::_,0=>Wg _
 | _::r,i+1=>Nat.succ_le_succ (mV r i)
theorem foldl_rep(af:List Value):∀(k:Nat) (acc:List Value),
  List.foldl (λx1 x2=>x1++x2) acc.toArray (List.replicate k af.toArray)=(acc++(List.replicate k af).flatten).toArray
 | 0,acc=>by simp
 | k+1,acc=>by
  have e:acc.toArray++af.toArray=(acc++af).toArray:=by simp
  have e2:(acc++af)++(List.replicate k af).flatten=acc++(List.replicate (k+1) af).flatten:=by
   rw[List.replicate_succ,List.flatten_cons,List.append_assoc]
  rw[<- e2,<- foldl_rep af k (acc++af),<- e,List.replicate_succ,List.foldl_cons]
variable {af:List Value}{t':Nat}
section
variable {X:Cx}{pins:List (Addr×Obj)}{σ:St}{H:Hp}{s:Shared}{l b:Addr}{xs ys zs:List V}
theorem Inv.A1{its':List Value}{n:Nat}{f:Array Value->Array Value}(I:Inv X pins σ H s)(hH:H l=some (.lst xs))
  (e:s.heap.get? l=some { cls:=.type "list",data:=.seq af.toArray n }) (hf:f af.toArray=its'.toArray) (hv:Vals ys its') (hz:ys.length<=sizeLine) :
  Inv X pins σ (upd H l (.lst ys)) { s with heap:=s.heap.update l (Obj.mapSeq f),toks:=t' }:=by
 have q:=PySem.IsL.update e f;rw[hf]at q;refine I.write (x:=l) (e:=l) (by rw[hH];exact trivial) (.inl rfl) (λb' u hb hu=>(We s.heap (Obj.mapSeq f) (WO hb)).trans hu) ⟨_,q⟩ ?_;exact⟨hz,its',_,hv,q⟩
theorem Inv.I_(I:Inv X pins σ H s)(hv:Vals ys af)(hz:ys.length<=sizeLine):
  Inv X pins σ (upd H s.heap.objs.size (.lst ys)) { s with heap:=s.heap.push { cls:=.type "list",data:=.seq af.toArray },toks:=t' } :=
 I.laid (λ_ _ q=>U_ _ q) (Vc _) ⟨hz,af,0,hv,Ve _ rfl⟩
theorem Inv.fresh(I:Inv X pins σ H s):H s.heap.objs.size=none:=I.bR.fresh (Vc _)
theorem Inv.rO(I:Inv X pins σ H s)(hH:H l=some (.lst xs)):xs.length<=sizeLine/\∃(af:List Value) (n:Nat),Vals xs af/\xs.length=af.length/\s.heap.get? l=some { cls:=.type "list",data:=.seq af.toArray n }:=by
 obtain⟨z,af,n,r,e⟩:=I.bR l _ hH;exact⟨z,af,n,r,r.length,e⟩
theorem xU{n:Nat}(h:n<=sizeLine):Builtin.List.listTooLong n=false:=by
 unfold Builtin.List.listTooLong;exact VL (by left)
end
section
variable {X:Cx}
def Av:V->List V->Hp->VK->Prop:=λx vs H Q=>∃ l xs y,x=.ref l/\vs=[y]/\H l=some (.lst xs)/\xs.length<sizeLine/\Q .aL (upd H l (.lst (xs++[y])))
theorem vt:L7 X "list.append" Av:=by
 intro pins s σ H x vs v us Q I rx rv h;obtain⟨l,xs,y,rfl,rfl,hH,hz,q⟩:=h;cases rx;obtain⟨u,rfl,ru⟩:=rv.one;obtain⟨z,af,n,r,hl,e⟩:=I.rO hH;refine V0 F.slot_list_append ⟨_,e,rfl⟩ F.entry_list_append (F.args_list_append_2 _ _) (PySem.list_append l af.toArray n u (by rw[List.size_toArray];left)) ⟨e,?_⟩;refine⟨.aL,_,I.A1 (its':=af++[u]) hH e (by simp) (r.append (.cons ru .nil)) ?_,rfl,q⟩;rw[List.length_append,List.length_singleton];left
def MN:V->List V->Hp->VK->Prop:=λx vs H Q=>∃ l xs y,x=.ref l/\vs=[]/\H l=some (.lst xs)/\xs[xs.length - 1]?=some y/\Q y (upd H l (.lst xs.dropLast))
theorem Ej:L7 X "list.pop" MN:=by
 intro pins s σ H x vs v us Q I rx rv h;obtain⟨l,xs,y,rfl,rfl,hH,hy,q⟩:=h;cases rx;have NM:=rv.zero;subst NM;obtain⟨z,af,n,r,hl,e⟩:=I.rO hH;obtain⟨u,hu,ru⟩:=r.get hy;have Lr:af.toArray[af.toArray.size - 1]?=some u:=by
  show af.toArray[af.length - 1]?=some u;rw[<- Array.getElem?_toList,<- hl];exact hu
 refine V0 F.slot_list_pop ⟨_,e,rfl⟩ F.entry_list_pop (F.args_list_pop_1 _) (MeetsSeq.list_pop_last l af.toArray n u Lr (by rw[List.size_toArray];left)) ⟨e,?_⟩;refine⟨y,_,I.A1 (its':=af.dropLast) hH e ?_ r.dropLast ?_,ru,q⟩
 ·show af.toArray.eraseIdxIfInBounds (af.toArray.size - 1)=af.dropLast.toArray;rw[List.size_toArray,List.eraseIdxIfInBounds_toArray,se]
 ·rw[List.length_dropLast];left
def DL:V->List V->Hp->VK->Prop:=λx vs H Q=>∃ l xs i k y,x=.ref l/\vs=[.int i]/\H l=some (.lst xs) /\ -(2 ^ 63)<=i/\i<2 ^ 63/\seqIndex? i xs.length=some k/\xs[k]?=some y/\Q y (upd H l (.lst (xs.eraseIdx k)))
theorem IL:L7 X "list.pop" DL:=by
 intro pins s σ H x vs v us Q I rx rv h;obtain⟨l,xs,i,k,y,rfl,rfl,hH,h1,h2,hk,hy,q⟩:=h;cases rx;obtain⟨u,rfl,ru⟩:=rv.one;obtain⟨t,rfl⟩:=ru;obtain⟨z,af,n,r,hl,e⟩:=I.rO hH;obtain⟨w,hw,iw⟩:=r.get hy;refine V0 F.slot_list_pop ⟨_,e,rfl⟩ F.entry_list_pop (F.args_list_pop_2 _ _)
  (MeetsSeq.list_pop_at l af.toArray n i t k w (fitsIndex_both h1 h2) (by rw[List.size_toArray,<- hl];exact hk) (by rw[<- Array.getElem?_toList];exact hw) (by rw[List.size_toArray];left)) ⟨e,?_⟩
 refine⟨y,_,I.A1 (its':=af.eraseIdx k) hH e ?_ (r.eraseIdx k) ?_,iw,q⟩
 ·show af.toArray.eraseIdxIfInBounds k=(af.eraseIdx k).toArray;rw[List.eraseIdxIfInBounds_toArray]
 ·have:=mV xs k;left
def DN:V->List V->Hp->VK->Prop:=λx vs H Q=>∃ l xs,x=.ref l/\vs=[]/\H l=some (.lst xs)/\Q .aL (upd H l (.lst []))
theorem x4:L7 X "list.clear" DN:=by
 intro pins s σ H x vs v us Q I rx rv h;obtain⟨l,xs,rfl,rfl,hH,q⟩:=h;cases rx;have NM:=rv.zero;subst NM;obtain⟨z,af,n,r,hl,e⟩:=I.rO hH;refine V0 F.slot_list_clear ⟨_,e,rfl⟩ F.entry_list_clear (F.args_list_clear_1 _) (AutoSeq1.list_clear_list_0 l af.toArray n (by rw[List.size_toArray];left)) ⟨e,?_⟩;exact⟨.aL,_,I.A1 (its':=[]) (ys:=[]) hH e rfl .nil (Vs _),rfl,q⟩
def MR:R2:=λx y H Q=>∃ l b xs zs,x=.ref l/\y=.ref b/\H l=some (.lst xs)/\H b=some (.lst zs)/\xs.length+zs.length<=sizeLine/\∀ p,H p=none->Q (.ref p) (upd H p (.lst (xs++zs)))
theorem M4:iS X (binaryOp .Add) MR:=by
 intro pins s σ H x y v u Q I rx ry h;obtain⟨l,b,xs,zs,rfl,rfl,hH,hB,hz,q⟩:=h;cases rx;cases ry;obtain⟨z,af,n,r,hl,e⟩:=I.rO hH;obtain⟨z2,ED,n2,r2,SU,e2⟩:=I.rO hB;refine PySem.P.add_list e e2 ?_ (by rw[List.size_toArray,List.size_toArray];left);have ea:af.toArray++ED.toArray=(af++ED).toArray:=by simp
 rw[ea];exact⟨.ref _,_,I.I_ (t':=s.toks) (r.append r2) (by rw[List.length_append];left),rfl,q _ I.fresh⟩
def MM:R2:=λx y H Q=>∃ l k xs,x=.ref l/\y=.int k/\H l=some (.lst xs) /\ -(2 ^ 63)<=k/\k<2 ^ 63/\xs.length*k.toNat<=sizeLine /\
 ∀ p,H p=none->Q (.ref p) (upd H p (.lst (List.replicate k.toNat xs).flatten))
theorem len_rep{α:Type}(xs:List α)(k:Nat):(List.replicate k xs).flatten.length=k*xs.length:=by
 induction k with
 | zero=>simp
 | succ k ih=>rw[List.replicate_succ,List.flatten_cons,List.length_append,ih,Nat.succ_mul,Nat.add_comm]
theorem M3:iS X (binaryOp .Mult) MM:=by
 intro pins s σ H x y v u Q I rx ry h;obtain⟨l,k,xs,rfl,rfl,hH,h1,h2,hz,q⟩:=h;cases rx;obtain⟨t,rfl⟩:=ry;obtain⟨z,af,n,r,hl,e⟩:=I.rO hH;have hlen:af.toArray.size*k.toNat<=sizeLine:=by rw[List.size_toArray,<- hl];exact hz
 have qf:¬ af.toArray.size*k.toNat>(2 ^ 63 - 1) / 8:=by
  have:(sizeLine:Nat)<=(2 ^ 63 - 1) / 8:=by decide
  left
 have N_:¬ (!Builtin.List.listFitsIndex k)=true:=by
  rw[fitsIndex_both h1 h2];exact U8
 have JM:¬ Builtin.List.listTooLong (af.toArray.size*k.toNat)=true:=by
  rw[xU hlen];exact U8
 have N2:List.foldl (λx1 x2=>x1++x2) #[] (List.replicate (if af.toArray.isEmpty=true then 0 else k.toNat) af.toArray)=(List.replicate k.toNat af).flatten.toArray:=by
  have f0:∀ m:Nat,List.foldl (λx1 x2=>x1++x2) #[] (List.replicate m af.toArray)=(List.replicate m af).flatten.toArray:=λm=>by
   have:=foldl_rep af m [];rw[List.nil_append]at this;exact this
  rw[f0];cases af with
  | nil=>simp
  | cons a r'=>rw[if_neg (by simp)]
 refine wpAny_binaryOp_repeat_ref (T:="list") (U:="int") (by decide) ⟨_,e,rfl⟩ (λs'=>typeIs_int s' k t) noFill_list_mul F.fills_int_mul F.slot_int_rmul repeat_list F.slot_int_index.lookup
  (V0 F.slot_int_rmul (typeIs_int s k t) F.entry_int_rmul (F.args_int_rmul_2 _ _) (int___rmul___int_list k t l af.toArray n)
   ⟨e,rfl,⟨_,e,rfl⟩,V0 F.slot_list_mul ⟨_,e,rfl⟩ F.entry_list_mul (F.args_list_mul_2 _ _) (AutoListH.list___mul___list_int_3 l af.toArray n k t N_ qf JM) ⟨e,?_⟩⟩)
 rw[N2];exact⟨.ref _,_,I.I_ (t':=s.toks) (r.rep k.toNat) (by rw[len_rep,Nat.mul_comm];exact hz),rfl,q _ I.fresh⟩
end
section
variable {prog:Program}{w:World}{A:Around}{E:Value->Shared->Prop}{s:Shared}
set_option maxRecDepth 100000 in
end
section
variable {X:Cx}
end
end L2
namespace Att
open PySem PySem.W PySem.Calls PyProof.Rows
variable {h:Heap}
theorem jQ{P:Params}:∀(ns:List Int) (vs:List Value),WellAll P h vs (ns.map WData.int)->IntsAre vs ns:=by
 intro ns;induction ns with
 | nil =>
  intro vs w;rw[List.map_nil]at w;cases w;exact .nil
 | cons n ns ih =>
  intro vs w;rw[List.map_cons]at w;cases w with
  | cons a b =>
   cases a;exact .cons _ _ (ih _ b)
theorem vm{l:OpenLaw}{n:Nat}(hn:l.most=some n){P:Params}{args:List WData}{vals:List Value}
  (Bb:l.row.toRowW.claim.pre args=true) (NI:WellAll P h vals args) :
  ∃ a vs ns,vals=[Value.ref a]/\args=[WData.list (ns.map WData.int)]/\h.get? a=some { cls:=.type "list",data:=.seq vs.toArray }/\IntsAre vs ns/\ns.length<=n:=by
 have Sy:WShape.hasAll [] args [.list .int]=true:=(pre_splitW Bb).1;have hc:l.pre.holds [] { args:=args }=true:=(pre_splitW Bb).2;obtain⟨d,r,rfl,h1,h2⟩:=hasAllW_cons Sy;obtain rfl:=hasAllW_nil h2;obtain⟨xs,rfl,h3⟩:=hasW_list h1;obtain⟨ns,rfl⟩:=items_int h3;have hlen:ns.length<=n:=by
  unfold OpenLaw.pre at hc;have h4:(WTm.not (.lt (.lit (.int (n:Int))) (.len (.arg 0)))).holds [] { args:=[.list (ns.map .int)] }=true:=by
   have h4:=(holds_andW hc).1;rw[hn]at h4;exact h4
  have h5:=condW_of h4 (w_not (w_lt w_lit (w_len_list (w_arg rfl))));rw[List.length_map]at h5;refine Nat.le_of_not_lt λq=>?_;have q':(n:Int)<((ns.length:Nat):Int):=by left
  first
   | (rw[decide_eq_true q']at h5;exact absurd h5 (by decide))
   | (simp at h5;left)
 cases NI with
 | cons w1 w2 =>
  cases w2;cases w1 with
  | list ho hall=>exact⟨_,_,ns,rfl,rfl,ho,jQ ns _ hall,hlen⟩
theorem vo(l:OpenLaw)(args:List WData):l.row.toRowW.claim.post args (.bool true) args=true :=
 postW_of (r:=l.row.toRowW) (X:=(true==true))
  (show WShape.has [] (.bool true) .bool=true by first | rfl | decide | simp[WShape.has,WShape.arms,WShape.armsAll])
  (show(WTm.eq .res (.lit (.bool true))).value [] { args:=args,res:=some (.bool true),after:=args }=some (.bool (true==true)) from w_eq_bool (w_res rfl) w_lit) rfl
theorem qK{l:OpenLaw}{n:Nat}{q:Program}{loose:List Str}{XP:(Str->Option Value)->Heap->Prop}{YP:World->Heap->Prop}{d:DefRec}
  (hn:l.most=some n) (JU:d.params.defaults=[])
  (call:∀(w:World) (s₀ s₁:Shared) (mg mb:Str->Option Value) (fa:Addr) (o:Obj) (pm cd doc:Value) (a:Addr) (vs:List Value) (ns:List Int),
   Ground q loose [] XP w s₀ mg mb s₁.heap->YP w s₁.heap ->
   s₁.heap.get? fa=some o->o.data=.func (docDef d.name d.params d.body d.scope pm cd doc)->s₁.heap.CodeRec cd d.name->mg d.name=some (.ref fa) ->
   s₁.heap.get? a=some { cls:=.type "list",data:=.seq vs.toArray }->IntsAre vs ns->ns.length<=n->s₁.gens = #[] ->
   codeAny (model l.prog w) callerA (.call (.ref fa) ⟨[.ref a],[]⟩) (λr s'=>r=.ok (.ret (.bool true))/\OldK s₁.heap s'.heap/\s'.os=s₁.os/\AllBare s'.gens) s₁) :
  WalkO q loose XP YP l.row.toRowW d [] (λf vs=>PySem.call f vs):=by
 intro w s₀ s₁ mg mb G Y fa o pm cd doc dV kV ho hd vR hD hmg hg args vals as Bb SS UT NI GR;obtain rfl:dV=.none:=Dflts.none hD JU;obtain rfl:kV=.none:=Dflts.noKw hD;obtain⟨a,vs,ns,rfl,rfl,EV,hints,hlen⟩:=vm hn Bb NI;refine enter_call (Wq (call w s₀ s₁ mg mb fa o pm cd doc a vs ns G Y ho (fd_plain hd) vR hmg EV hints hlen hg) λr s' hq=>?_);obtain⟨rfl,h2,h3,h4⟩:=hq;exact⟨.inl ⟨.bool true,.bool true,[],rfl,λ_=>rfl,.bool true,vo l _,λ_=>⟨List.Pairwise.nil,λ_ hm=>(nomatch hm)⟩⟩,h2,h3,h4⟩
section
variable {prog:Program}{w:World}{A:Around}{E:Value->Shared->Prop}{s:Shared}{K:Frag}
noncomputable def ledger(h:Heap)(L d:Addr):List (Addr×Obj):=(List.range h.objs.size).filterMap λa=>if a=L\/a=d then none else(h.get? a).map λo=>(a,o)
end
end Att
namespace L2
open PySem PySem.Spec PyProof.Rows
theorem iY:∀ {vs:List Value} {ns:List Int},IntsAre vs ns->Vals (ns.map V.int) vs
 | _,_,.nil=>.nil
 | _,_,.cons n t h=>.cons ⟨t,rfl⟩ (iY h)
noncomputable def BZ(H:Hp):Prop:=∀ b,H b=none\/∃ o xs,H b=some (.fK o (.lst xs))
theorem yd{P:Program}{w:World}{K:PySem.W.Frag}{mg mb:Str->Option Value}{CX:wH}{k:Nat}{fa a:Addr}{fd:FuncData}{x:Str}{sp:Sp}{s₁:Shared}{vs:List Value}{ns:List Int}
  (KX:K.In s₁.heap) (wz:s₁.heap.Ns mainGlobals mg) (hb:s₁.heap.Ns builtinsNs mb) (Te:∀ x:Str,x ≠ "__name__" -> mb x=bootBuiltins x) (N4:s₁.heap.NoLimit) (hg:s₁.gens = #[])
  (ha:s₁.heap.get? a=some { cls:=.type "list",data:=.seq vs.toArray }) (hi:IntsAre vs ns) (hl:ns.length<=sizeLine) (hr:eD k callerA)
  (F:∀ base:Heap,K.In base->base.Ns mainGlobals mg->gm P w K mg base CX k fa fd [x] sp) (J0:∀(s:Shared) (u:Value),BindsTo s fd ⟨[u],[]⟩ [(x,u)])
  (zE:∀ H:Hp,BZ H->c_ K H a (ns.map V.int)->sp [.ref a] H (λv _=>v=.bl true) λ_ _ _=>False)
  (Om:∀ H e s',CX [] H s₁ (λ_ _ _=>False) e s'->False) :
  codeAny (model P w) callerA (.call (.ref fa) ⟨[.ref a],[]⟩) (λr s'=>r=.ok (.ret (.bool true))/\OldK s₁.heap s'.heap/\s'.os=s₁.os/\AllBare s'.gens) s₁:=by
 have rv:=iY hi;have Nh:=hi.length;have core:∀ H:Hp,BZ H->c_ K H a (ns.map V.int)->jv P w H s₁.heap->(∀ b,H b≠none->b=a)->(H a≠none->K.lookup a=none) ->
   codeAny (model P w) callerA (.call (.ref fa) ⟨[.ref a],[]⟩) (λr s'=>r=.ok (.ret (.bool true))/\OldK s₁.heap s'.heap/\s'.os=s₁.os/\AllBare s'.gens) s₁:=by
  intro H hO hS bR hA hK;have uM:∀ {b:Addr} {o:Obj},s₁.heap.get? b=some o->H b=none->(oe s₁.heap H).get? b=some o:=λe n=>yu e n;have IH:∀ {b:Addr} {o:Obj} {es:Array DictEntry} {ep:Nat},s₁.heap.get? b=some o->o.data=.dict es ep->H b=none:=λ{b o es ep} e d=>by
   cases q:H b with
   | none=>rfl
   | some u =>
    have e':b=a:=hA b (by rw[q];simp);subst e';rw[ha]at e;cases e;have d':Data.seq vs.toArray _=Data.dict es ep:=d;cases d'
  have Lh:∀ {b:Addr} {m:Str->Option Value},s₁.heap.Ns b m->(oe s₁.heap H).Ns b m:=λ{b m} ⟨o,es,ep,e,d,r⟩=>⟨o,es,ep,uM e (IH e d),d,r⟩
  have QE:K.In (oe s₁.heap H):=λb o e=>uM (KX b o e) (by
   cases q:H b with
   | none=>rfl
   | some u =>
    have e':b=a:=hA b (by rw[q];simp);subst e';rw[hK (by rw[q];simp)]at e;cases e)
  have hM:Mod K mg (oe s₁.heap H):=⟨QE,Lh wz,⟨mb,Lh hb,Te⟩,let ⟨mc,h1,h2⟩:=N4;⟨mc,Lh h1,h2⟩⟩
  have e0:B2 P w K mg (oe s₁.heap H) callerA [] s₁ H:=⟨rfl,hM,λb o e=>AO e,Nat.le_of_eq (vN _ _),trivial,λb hb=>absurd (show b∈([]:List Addr) from hb) (by simp),bR,.of_eq hg⟩
  refine Wq ((F _ QE (Lh wz)).run callerA [] s₁ H ⟨[.ref a],[]⟩ [.ref a] [.ref a] _ _ hr e0 (J0 s₁ (.ref a)) (.cons rfl .nil) (zE H hO hS)) λr s' h=>?_;cases r with
  | error e=>exact(Om H e s' h).elim
  | ok fl =>
   cases fl with
   | next=>exact False.elim h
   | brk=>exact False.elim h
   | cont=>exact False.elim h
   | ret u =>
    obtain⟨v,H',os,bare,un,NY,r',q⟩:=h;have q':v=.bl true:=q;subst q';obtain rfl:u=Value.bool true:=r';refine⟨rfl,OldK.of_keep λb o e=>?_,os,bare⟩;cases q:H b with
    | none=>exact un.keep b o e q (by intro z;exact absurd (show b∈([]:List Addr) from z) (by simp)) (by simp)
    | some u =>
     rcases hO b with z | ⟨ob,xs,z⟩
     ·rw[q]at z;cases z
     ·have z2:=un.mm b ob _ z;obtain⟨e1,_⟩:=bR b _ z;obtain⟨e2,_⟩:=NY b _ z2;rw[e]at e1;cases e1;exact e2
 cases hk:K.lookup a with
 | some o =>
  have e:=KX a o hk;rw[ha]at e;cases e;refine core (λ_=>none) (λ_=>.inl rfl) (.inr ⟨_,vs.toArray,_,hk,rfl,rfl,rfl,by rw[List.size_toArray,Nh];exact hl,by simpa using rv⟩) (λb u z=>by have z':(none:Option HO)=some u:=z;cases z') (λb z=>absurd rfl z) λz=>absurd rfl z
 | none =>
  refine core (λb=>if b=a then some (.fK { cls:=.type "list",data:=.seq vs.toArray } (.lst (ns.map V.int)))else none) (λb=>?_) (.inl (.inr ⟨{ cls:=.type "list",data:=.seq vs.toArray },VA rfl⟩)) (λb u z=>?_) (λb z=>?_) λ_=>hk
  ·by_cases hb:b=a
   ·exact .inr ⟨_,_,VA hb⟩
   ·exact .inl (V1 hb)
  ·by_cases hb:b=a
   ·have z':=(VA hb).symm.trans z;cases z';subst hb;exact⟨ha,by rw[List.length_map];exact hl,vs,_,rv,ha⟩
   ·have z':=(V1 hb).symm.trans z;cases z'
  ·by_cases hb:b=a
   ·exact hb
   ·exact absurd (V1 hb) z
end L2
namespace L2
open PySem PySem.Spec PyProof.Rows
theorem zM{l:PySem.W.OpenLaw}{n k:Nat}{q:Program}{loose:List Str}{XP:(Str->Option Value)->Heap->Prop}{YP:World->Heap->Prop}{d:DefRec}{K:Params->PySem.W.Frag}{CX:World->wH}{sp:World->Sp}{x:Str}
  (hn:l.most=some n) (SK:n<=sizeLine) (JU:d.params.defaults=[]) (hr:eD k callerA)
  (hY:∀(w:World) (h:Heap),YP w h->(K w.params).In h)
  (F:∀(w:World) (mg:Str->Option Value) (fa:Addr) (h:Heap),(K w.params).In h->h.Ns mainGlobals mg->mg d.name=some (.ref fa) ->
   ∃ fd:FuncData,(∀(s:Shared) (u:Value),BindsTo s fd ⟨[u],[]⟩ [(x,u)]) /\
    ∀ base:Heap,(K w.params).In base->base.Ns mainGlobals mg->gm l.prog w (K w.params) mg base (CX w) k fa fd [x] (sp w))
  (zE:∀(w:World) (H:Hp) (a:Addr) (ns:List Int),ns.length<=n->BZ H->c_ (K w.params) H a (ns.map V.int)->sp w [.ref a] H (λv _=>v=.bl true) λ_ _ _=>False)
  (Om:∀(w:World) (H:Hp) (s:Shared) (e:Value) (s':Shared),CX w [] H s (λ_ _ _=>False) e s'->False) :
  PySem.W.WalkO q loose XP YP l.row.toRowW d [] (λf vs=>PySem.call f vs):=by
 refine Att.qK hn JU λw s₀ s₁ mg mb fa o pm cd doc a vs ns G Y ho hd vR hmg EV hints hlen hg=>?_;have KX:=hY w _ Y;obtain⟨fd,hb,hF⟩:=F w mg fa _ KX G.T.g hmg;exact yd KX G.T.g G.T.b G.T.builtins G.T.nolimit hg EV hints (Vp hlen SK) hr hF hb (λH hO hS=>zE w H a ns hlen hO hS) λH e s'=>Om w H s₁ e s'
end L2
namespace L2
open PySem PySem.Spec PyProof.Rows
noncomputable def eR(s:Stmt):Arguments:=match s with
 | .FunctionDef _ a _ _ _ _ _ _ _ _=>a
 | _=>{ posonlyargs:=[],args:=[],vararg:=none,kwonlyargs:=[],kw_defaults:=[],kwarg:=none,defaults:=[] }
noncomputable def cj(s:Stmt):List Stmt:=match s with
 | .FunctionDef _ _ b _ _ _ _ _ _ _=>b
 | _=>[]
noncomputable def aI(s:Stmt):Scope:=match s with
 | .FunctionDef _ _ _ _ _ _ sc _ _ _=>sc
 | _=>{ kind:=.function,names:=[],isGenerator:=false,isCoroutine:=false }
noncomputable abbrev wI:wH:=λ_ _ _ _ _ _=>False
noncomputable abbrev E0:XK:=λ_ _ _=>False
theorem Ir{X:Cx}:Passes wI X E0:=λ_ _ _ _ _ _ _ h=>h.elim
structure B1(K:PySem.W.Frag)(x qual:Str)(st:Stmt)(f:Addr)(fd:FuncData):Prop where
 ex:∃(oc:Value) (od:Option Addr) (kV doc pm:Value) (an:Option Addr) (iV ct:Value) (zC:Array (Option Value)),
  fd=PySem.W.fnOf x qual (eR st) (cj st) (aI st) .none kV doc pm an iV ct/\K.lookup f=some ⟨oc,od,.func fd,zC⟩/\PySem.W.codeIn K iV qual=true
 kp:PySem.W.keepIn K (.ref f)=true
variable {ps:List Str}{qual:Str}{st:Stmt}
section
variable {P:Program}{w:World}{K:PySem.W.Frag}{mg:Str->Option Value}{base:Heap}
theorem B1.ok{x:Str}{f:Addr}{fd:FuncData}{N:List Str}{k:Nat}{sp:Sp}(F:B1 K x qual st f fd)(S:gg N ps (aI st))(len:∀ vs H Q E,sp vs H Q E->vs.length=ps.length)
  (yw:∀(iV:Value) (A:Around) (outer:List Env) (s:Shared) (H:Hp) (vs:List V) (Q:VK) (E:XK),eD k (A.deeper (envOfC qual (aI st) s.heap.objs.size f iV))->sp vs H Q E ->
   ∃ t,kF (sx wI P w K mg base N qual (aI st) f iV A outer s H E).IE (cj st) t/\t { nx:=λ_ H'=>Q .aL H',rt:=Q } (start N vs) H):gm P w K mg base wI (k+1) f fd ps sp:=by
 obtain⟨oc,od,kV,doc,pm,an,iV,ct,zC,rfl,lk,vR⟩:=F.ex;refine Kh lk vR S len λA outer s H vs Q E hr zE=>?_;obtain⟨t,h,q⟩:=yw iV A outer s H vs Q E hr zE;exact⟨t,h.IE,q⟩
theorem B1.binds{x:Str}{f:Addr}{fd:FuncData}(F:B1 K x qual st f fd)
  (h:∀(kV doc pm:Value) (an:Option Addr) (iV ct:Value) (us:List Value),us.length=ps.length->bindArgs (PySem.W.fnOf x qual (eR st) (cj st) (aI st) .none kV doc pm an iV ct) ⟨us,[]⟩=pure (ps.zip us)):Binds K fd ps []:=by
 obtain⟨oc,od,kV,doc,pm,an,iV,ct,zC,rfl,lk,vR⟩:=F.ex;exact .all (h kV doc pm an iV ct)
theorem Fw{x:Str}{f:Addr}{oc:Value}{od an:Option Addr}{zC:Array (Option Value)}{kV doc pm iV ct:Value}(l:K.lookup f=some ⟨oc,od,.func (PySem.W.fnOf x qual (eR st) (cj st) (aI st) .none kV doc pm an iV ct),zC⟩)
  (c:PySem.W.codeIn K iV qual=true) (k:PySem.W.keepIn K (.ref f)=true):B1 K x qual st f (PySem.W.fnOf x qual (eR st) (cj st) (aI st) .none kV doc pm an iV ct):=⟨⟨oc,od,kV,doc,pm,an,iV,ct,zC,rfl,l,c⟩,k⟩
end
theorem yq{A:Around}{k:Nat}(hr:eD k A):A.units+1<cLine:=Vo (Nat.add_le_add_left (by decide:1<=64) _) hr.units
section
variable {X:Cx}
end
noncomputable def ai(H H':Hp):Prop:=∀ b o,H b=some o->H' b=some o
theorem ai.refl(H:Hp):ai H H:=λ_ _ h=>h
variable {H H':Hp}
theorem ai.trans{H1 H2:Hp}(a:ai H H1)(b:ai H1 H2):ai H H2:=λc o h=>b c o (a c o h)
theorem ai.free(e:ai H H'){l:Addr}(h:H' l=Option.none):H l=Option.none:=by
 cases q:H l with
 | none=>rfl
 | some o =>
  rw[e l o q]at h;cases h
theorem ai.seq{K:PySem.W.Frag}{a:Addr}{xs:List V}(e:ai H H')(h:c_ K H a xs):c_ K H' a xs:=by
 rcases h with (h | ⟨o,h⟩) | h
 ·exact .inl (.inl (e _ _ h))
 ·exact .inl (.inr ⟨o,e _ _ h⟩)
 ·exact .inr h
end L2
set_option autoImplicit false
set_option linter.all false
set_option Elab.async false
set_option maxRecDepth 100000
set_option maxHeartbeats 4000000
section
namespace DI
open PySem (Str Expr Stmt Scope NameKind)
inductive Fl where | ow | fz | al | sc
 deriving DecidableEq
inductive D where
 | aL | bl (b:Bool) | int (i:Int)
 | tup (ds:List D)
 | lst (f:Fl) (ds:List D)
 | aZ (f:Fl) (ks:List (List Int)) (vs:List D)
mutual
noncomputable def aw(g:Fl->Fl):D->D
 | .tup ds=>.tup (ag g ds)
 | .lst f ds=>.lst (g f) (ag g ds)
 | .aZ f ks vs=>.aZ (g f) ks (ag g vs)
 | .aL=>.aL
 | .bl b=>.bl b
 | .int i=>.int i
noncomputable def ag(g:Fl->Fl):List D->List D
 | []=>[]
 | d::ds=>aw g d::ag g ds
end
theorem bJ(g:Fl->Fl):∀ ds:List D,ag g ds=ds.map (aw g)
 | []=>rfl
 | d::ds=>by rw[ag,bJ g ds];rfl
noncomputable def bu:Fl->Fl | .ow=>.al | f=>f
noncomputable def jT:Fl->Fl | .fz=>.al | f=>f
noncomputable def aC:Fl->Fl | .sc=>.sc | _=>.fz
noncomputable def A8:Fl->Bool | .sc=>true | _=>false
mutual
noncomputable def ak(p:Fl->Bool):D->Bool
 | .tup ds=>aj p ds
 | .lst f ds=>p f||aj p ds
 | .aZ f ks vs=>p f||aj p vs
 | _=>false
noncomputable def aj(p:Fl->Bool):List D->Bool
 | []=>false
 | d::ds=>ak p d||aj p ds
end
noncomputable def aQ:Fl->Bool | .al=>true | _=>false
noncomputable def bo:Fl->Bool | .ow=>true | _=>false
noncomputable def anyF:Fl->Bool:=λ_=>true
mutual
noncomputable def jh:D->D->Bool
 | .aL,.aL=>true
 | .bl a,.bl b=>a==b
 | .bl a,.int b=>(if a then 1 else 0)==b
 | .int a,.bl b=>a==(if b then 1 else 0)
 | .int a,.int b=>a==b
 | .tup a,.tup b=>cI a b
 | .lst _ a,.lst _ b=>cI a b
 | _,_=>false
noncomputable def cI:List D->List D->Bool
 | [],[]=>true
 | a::as,b::bs=>jh a b&&cI as bs
 | _,_=>false
end
noncomputable def ck:Nat->D->Bool
 | _,.aL=>true
 | _,.bl _=>true
 | _,.int _=>true
 | n+1,.tup ds=>ds.all (ck n)
 | n+1,.lst _ ds=>ds.all (ck n)
 | _,_=>false
noncomputable abbrev O(α:Type):=Option (Except Nat α)
noncomputable def ok{α:Type}(a:α):O α:=some (.ok a)
noncomputable def bd{α β:Type}(x:O α)(f:α->O β):O β:=match x with
 | some (.ok a)=>f a
 | some (.error c)=>some (.error c)
 | none=>none
@[simp] theorem Lj{α:Type}{a:α}:((none:O α)=ok a)=False:=by simp[ok]
@[simp] theorem M8{α:Type}{a b:α}:(ok a=ok b)=(a=b):=by simp[ok]
@[simp] theorem OL{α:Type}{a:α}{c:Nat}:((some (.error c):O α)=ok a)=False:=by simp[ok]
@[simp] theorem CD{α:Type}{p:Prop}[Decidable p]{a b:α}:((if p then ok a else none)=ok b)=(p/\a=b):=by
 by_cases h:p<;>simp[h]
@[simp] theorem NC{α:Type}{p:Prop}[Decidable p]{a b:α}:((if p then none else ok a)=ok b)=(¬ p/\a=b):=by
 by_cases h:p<;>simp[h]
theorem nk{α:Type}{a:α}{P:Prop}(h:(none:Option α)=some a):P:=nomatch h
theorem ab{α β:Type}{x:O α}{f:α->O β}{b:β}(h:bd x f=ok b):∃ a,x=ok a/\f a=ok b:=by
 unfold bd at h
 match x,h with
 | some (.ok a),h=>exact⟨a,rfl,h⟩
 | some (.error c),h=>cases h
 | none,h=>cases h
inductive B3 where | add | sub | mul | fdiv | mod | pow
 deriving DecidableEq
inductive wJ where | eq | ne | lt | le | gt | ge | EK | nV
 deriving DecidableEq
inductive Ty where | int | bool | list | tuple
 deriving DecidableEq
inductive Bf where | len | abs | min2 | list1 | tuple1 | pf | all1
 deriving DecidableEq
inductive Tg where | nm(i:Nat) | tp(is:List Nat)
 deriving DecidableEq
inductive IK where | k8 | seq | cm(p:Nat)
 deriving DecidableEq
inductive GK where | i(z:Int) | t(zs:List Int)
 deriving DecidableEq
inductive CE where
 | aL | bl (b:Bool) | int (i:Int) | glo (x:Str) (i:Int) | glt (x:Str) (zs:List Int)
 | v (i:Nat)
 | bin (op:B3) (a b:CE)
 | neg (a:CE) | not (a:CE) | and (es:List CE) | or (es:List CE) | ite (c a b:CE)
 | cmp (op:wJ) (a b:CE)
 | ud (a:CE) (t:Ty)
 | call (f:Nat) (es:List CE)
 | bf (f:Bf) (es:List CE)
 | ix (a b:CE)
 | tup (es:List CE) | lst (es:List CE)
 | cm (p:Nat) (es:List CE)
 | comp (n:Nat) (t:Tg) (caps:List Nat) (ik:IK) (es aJ:List CE) (elt:CE)
inductive CI where | k8(a:CE) | seq(a:CE) | Cq(p:Nat)(es:List CE)
inductive CS where
 | asg (t:Tg) (e:CE) | par (i j:Nat) (a b:CE) | ret (e:CE) | rs (c:Nat) | ex (e:CE)
 | mut (p i:Nat) (es:List CE) | popT (t:Tg) (i:Nat) | app (i:Nat) (e:CE) | setI (i:Nat) (k e:CE)
 | ifs (c:CE) (a b:List CS)
 | zL (c:CE) (b:List CS)
 | fr (t:Tg) (it:CI) (b:List CS)
noncomputable abbrev au:=List (Option D)
noncomputable abbrev ay:=Nat->List D->O D
noncomputable def big:Nat:=2 ^ 9000
def cR(i j:Int):Bool:=decide (i.natAbs<2 ^ 64)||decide (j.natAbs<2 ^ 64)||(decide (i.natAbs<big)&&decide (j.natAbs<big))
def nc(j:Int):Bool:=decide (j≠0)&&decide (j.natAbs<big)
noncomputable def tL(i j:Int):Bool:=decide (0<=j)&&decide (j<=1000000)&&decide (i.natAbs<2 ^ 64)
noncomputable def fm:Nat:=1000000
theorem uf{α:Type}{c:Prop}[inst:Decidable c]{v d:α}(h:(if c then ok v else none)=ok d):c/\v=d:=by
 cases inst with
 | isTrue hc=>exact⟨hc,Except.ok.inj (Vk h)⟩
 | isFalse hc=>cases h
def br:B3->D->D->O D
 | .add,.int i,.int j=>ok (.int (i+j))
 | .sub,.int i,.int j=>ok (.int (i - j))
 | .mul,.int i,.int j=>if cR i j then ok (.int (i*j))else none
 | .fdiv,.int i,.int j=>if nc j then ok (.int (i.fdiv j))else none
 | .mod,.int i,.int j=>if j≠0 then ok (.int (i.fmod j))else none
 | .pow,.int i,.int j=>if tL i j then ok (.int (i ^ j.toNat))else none
 | _,_,_=>none
def inD(x:D):List D->Bool
 | []=>false
 | y::ys=>jh y x||inD x ys
noncomputable def qm:D->Bool
 | .aL=>true | .bl _=>true | .int _=>true | _=>false
noncomputable def Nr:D->Option (List D)
 | .tup ds=>some ds
 | .lst _ ds=>some ds
 | _=>none
def cJ:wJ->D->D->O D
 | .eq,a,b=>if ck 40 a&&ck 40 b then ok (.bl (jh a b))else none
 | .ne,a,b=>if ck 40 a&&ck 40 b then ok (.bl (!jh a b))else none
 | .lt,.int i,.int j=>ok (.bl (decide (i<j)))
 | .le,.int i,.int j=>ok (.bl (decide (i<=j)))
 | .gt,.int i,.int j=>ok (.bl (decide (j<i)))
 | .ge,.int i,.int j=>ok (.bl (decide (j<=i)))
 | .EK,a,.aL=>ok (.bl (match a with | .aL=>true | _=>false))
 | .nV,a,.aL=>ok (.bl (match a with | .aL=>false | _=>true))
 | _,_,_=>none
noncomputable def eN:Ty->D->Bool
 | .int,.int _=>true | .int,.bl _=>true
 | .bool,.bl _=>true
 | .list,.lst _ _=>true
 | .tuple,.tup _=>true
 | _,_=>false
noncomputable def oU(n:Nat)(i:Int):Option Nat:=if 0<=i then(if i<n then some i.toNat else none)else if -(n:Int)<=i then some (i+n).toNat else none
def kB(ds:List D)(i:Int):O D:=match(oU ds.length i).bind λj=>ds[j]? with
 | some d=>ok (aw bu d)
 | none=>none
def EC:D->D->O D
 | .tup ds,.int i=>kB ds i
 | .lst _ ds,.int i=>kB ds i
 | _,_=>none
noncomputable def intsOf:List D->Option (List Int)
 | []=>some []
 | .int i::ds=>(intsOf ds).map (i :: ·)
 | _::_=>none
noncomputable def gx:List D->Option (List Bool)
 | []=>some []
 | .bl i::ds=>(gx ds).map (i :: ·)
 | _::_=>none
theorem gb:∀ {ds:List D} {ns:List Int},intsOf ds=some ns->ds=ns.map D.int
 | [],ns,h=>by simp[intsOf]at h;subst h;rfl
 | d::ds,ns,h=>by
  cases d<;>simp[intsOf]at h;obtain⟨ms,h1,rfl⟩:=h;rw[gb h1];rfl
theorem qJ:∀ {ds:List D} {bs:List Bool},gx ds=some bs->ds=bs.map D.bl
 | [],bs,h=>by simp[gx]at h;subst h;rfl
 | d::ds,bs,h=>by
  cases d<;>simp[gx]at h;obtain⟨ms,h1,rfl⟩:=h;rw[qJ h1];rfl
theorem aR:∀ ns:List Int,intsOf (ns.map D.int)=some ns
 | []=>rfl
 | n::ns=>by simp[intsOf,aR ns]
theorem ni:∀ bs:List Bool,gx (bs.map D.bl)=some bs
 | []=>rfl
 | b::bs=>by simp[gx,ni bs]
noncomputable def sortI(ns:List Int):List Int:=ns.mergeSort (λa b=>decide (a<=b))
def PB(ds:List D):O D:=match intsOf ds with
 | some ns=>if ns.length<64 then ok (.lst .ow ((sortI ns).map D.int))else none
 | none=>none
def sP:Bf->List D->O D
 | .len,xs=>match xs with
  | [.tup ds]=>ok (.int ds.length)
  | [.lst _ ds]=>ok (.int ds.length)
  | _=>none
 | .abs,xs=>match xs with
  | [.int i]=>ok (.int (if i<0 then -i else i))
  | _=>none
 | .min2,xs=>match xs with
  | [.int i,.int j]=>ok (.int (if j<i then j else i))
  | _=>none
 | .list1,xs=>match xs with
  | [.lst _ ds]=>ok (.lst .ow (ag bu ds))
  | [.tup ds]=>ok (.lst .ow (ag bu ds))
  | _=>none
 | .tuple1,xs=>match xs with
  | [.lst _ ds]=>ok (.tup (ag bu ds))
  | [.tup ds]=>ok (.tup (ag bu ds))
  | _=>none
 | .pf,xs=>match xs with
  | [.lst _ ds]=>(match intsOf ds with
   | some ns=>ok (.int ns.sum)
   | none=>none)
  | _=>none
 | .all1,xs=>match xs with
  | [.lst _ ds]=>(match gx ds with
   | some bs=>ok (.bl (bs.all id))
   | none=>none)
  | _=>none
noncomputable def qu(ns:List Int):List Int:=ns.foldl (λ(m:List Int) (k:Int)=>if m.any (· == k)then m else m++[k]) []
def IZ:D->O D
 | .tup ds=>(match intsOf ds with
  | some ns=>if ns.length<4000 then ok (.int (qu ns).length)else none
  | none=>none)
 | _=>none
noncomputable def eG:D->O Bool
 | .bl b=>ok b
 | _=>none
noncomputable def intD:D->O Int
 | .int i=>ok i
 | _=>none
noncomputable def pP:Option (Option D)->Option (List D)
 | some (some (.lst .ow ds))=>some ds
 | _=>none
theorem nQ{o:Option (Option D)}{ds:List D}(h:pP o=some ds):o=some (some (.lst .ow ds)):=by
 unfold pP at h;split at h<;>cases h;rfl
theorem A_{d:D}{i:Int}(h:intD d=ok i):d=.int i:=by
 cases d<;>simp[intD]at h;rw[h]
noncomputable def AV:D->O D
 | .int i=>ok (.int (-i))
 | _=>none
def dZ:List Nat->List D->au->O au
 | [],[],ρ=>ok ρ
 | i::is,d::ds,ρ=>if i<ρ.length then dZ is ds (ρ.set i (some d))else none
 | _,_,_=>none
def bw:Tg->D->au->O au
 | .nm i,d,ρ=>if i<ρ.length then ok (ρ.set i (some d))else none
 | .tp is,.tup ds,ρ=>if aj bo ds then none else dZ is ds ρ
 | _,_,_=>none
def mi:D->O (List D)
 | .lst _ ds=>ok (ag aC ds)
 | _=>none
def cH(Φ:ay):IK->List D->O (List D)
 | .cm p,xs=>bd (Φ p xs) mi
 | .k8,[.int n]=>if n<=fm /\ -fm<=n then ok ((List.range n.toNat).map λ(k:Nat)=>D.int (k:Int))else none
 | .seq,[.tup ds]=>ok (ag aC ds)
 | .seq,[.lst _ ds]=>ok (ag aC ds)
 | _,_=>none
def fP(bind:D->O au)(test:au->O Bool)(el:au->O D):List D->O (List D)
 | []=>ok []
 | x::xs=>bd (bind x) λρ=>bd (test ρ) λb=>if b then bd (el ρ) λy=>bd (fP bind test el xs) λys=>ok (y::ys)else fP bind test el xs
def ba(n:Nat)(caps:List Nat)(ρ:au):au:=List.replicate n none++caps.map λi=>(ρ[i]?.getD none).map (aw aC)
def tq(o:Option (Option D)):O D:=match o with
 | some (some d)=>ok (aw bu d)
 | _=>none
theorem xc{o:Option (Option D)}{d:D}(h:tq o=ok d):∃ d',o=some (some d')/\d=aw bu d':=by
 cases o with
 | none=>cases h
 | some z=>cases z with
  | none=>cases h
  | some z=>cases h;exact⟨z,rfl,rfl⟩
mutual
noncomputable def aH(Φ:ay):CE->au->O D
 | .aL,_=>ok .aL
 | .bl b,_=>ok (.bl b)
 | .int i,_=>ok (.int i)
 | .glo _ i,_=>ok (.int i)
 | .glt _ zs,_=>ok (.tup (zs.map D.int))
 | .v i,ρ=>tq ρ[i]?
 | .bin op a b,ρ=>bd (aH Φ a ρ) λx=>bd (aH Φ b ρ) λy=>br op x y
 | .neg a,ρ=>bd (aH Φ a ρ) AV
 | .not a,ρ=>bd (bd (aH Φ a ρ) eG) λb=>ok (.bl (!b))
 | .and es,ρ=>m9 Φ es ρ
 | .or es,ρ=>vY Φ es ρ
 | .ite c a b,ρ=>bd (bd (aH Φ c ρ) eG) λk=>if k then aH Φ a ρ else aH Φ b ρ
 | .cmp op a b,ρ=>bd (aH Φ a ρ) λx=>bd (aH Φ b ρ) λy=>cJ op x y
 | .ud a t,ρ=>bd (aH Φ a ρ) λx=>ok (.bl (eN t x))
 | .call f es,ρ=>bd (bM Φ es ρ) λxs=>bd (Φ f (ag aC xs)) λr=>ok (aw jT r)
 | .bf f es,ρ=>bd (bM Φ es ρ) λxs=>sP f xs
 | .ix a b,ρ=>bd (aH Φ a ρ) λx=>bd (aH Φ b ρ) λy=>EC x y
 | .cm p es,ρ=>bd (bM Φ es ρ) λxs=>Φ p xs
 | .tup es,ρ=>bd (bM Φ es ρ) λxs=>ok (.tup xs)
 | .lst es,ρ=>bd (bM Φ es ρ) λxs=>ok (.lst .ow xs)
 | .comp n t caps ik es aJ elt,ρ=>bd (bM Φ es ρ) λxs=>bd (cH Φ ik xs) λitems =>
   bd (fP (λd=>bw t d (ba n caps ρ)) (λρ'=>fj Φ aJ ρ') (λρ'=>aH Φ elt ρ') items) λds=>if ds.length<=fm then ok (.lst .ow (ag jT ds))else none
noncomputable def bM(Φ:ay):List CE->au->O (List D)
 | [],_=>ok []
 | e::es,ρ=>bd (aH Φ e ρ) λx=>bd (bM Φ es ρ) λxs=>ok (x::xs)
noncomputable def fj(Φ:ay):List CE->au->O Bool
 | [],_=>ok true
 | e::es,ρ=>bd (bd (aH Φ e ρ) eG) λb=>if b then fj Φ es ρ else ok false
noncomputable def m9(Φ:ay):List CE->au->O D
 | [],_=>none
 | e::es,ρ=>bd (bd (aH Φ e ρ) eG) λc=>match es with
  | []=>ok (.bl c)
  | _::_=>if c then m9 Φ es ρ else ok (.bl false)
noncomputable def vY(Φ:ay):List CE->au->O D
 | [],_=>none
 | e::es,ρ=>bd (bd (aH Φ e ρ) eG) λc=>match es with
  | []=>ok (.bl c)
  | _::_=>if c then ok (.bl true)else vY Φ es ρ
end
def qS(Φ:ay)(e:CE)(ρ:au):O Bool:=bd (aH Φ e ρ) eG
inductive Fo where | nx | rt(d:D) | bk | ct
noncomputable def bL{α β:Type}(n:Nat)(step:α->O (α ⊕ β))(a:α):O β:=match n with
 | 0=>none
 | n+1=>bd (step a) λr=>match r with
  | .inl a'=>bL n step a'
  | .inr b=>ok b
open Classical in
noncomputable def da{α β:Type}(step:α->O (α ⊕ β))(a:α):O β :=
 if h:∃ n,bL n step a≠none then bL (Classical.choose h) step a else none
theorem fJ{α β:Type}(step:α->O (α ⊕ β)):∀(n m:Nat) (a:α),n<=m->bL n step a≠none->bL m step a=bL n step a
 | 0,_,_,_,h=>absurd rfl h
 | n+1,0,_,hl,_=>by left
 | n+1,m+1,a,hl,h=>by
  unfold bL at h ⊢
  match hs:step a with
  | none=>rw[hs]at h;exact absurd rfl h
  | some (.error c)=>rfl
  | some (.ok (.inr b))=>rfl
  | some (.ok (.inl a')) =>
   rw[hs]at h;exact fJ step n m a' (by left) h
theorem iX{α β:Type}{step:α->O (α ⊕ β)}{a:α}{n:Nat}{r:Except Nat β}(h:bL n step a=some r):da step a=some r:=by
 have hx:∃ n,bL n step a≠none:=⟨n,by rw[h];simp⟩
 unfold da;rw[dif_pos hx];have hc:=Classical.choose_spec hx;rcases Nat.le_total n (Classical.choose hx)with hl | hl
 ·rw[fJ step _ _ a hl (by rw[h];simp),h]
 ·rw[<- fJ step _ _ a hl hc,h]
theorem jb{α β:Type}{step:α->O (α ⊕ β)}{a:α}{r:Except Nat β}(h:da step a=some r):∃ n,bL n step a=some r:=by
 unfold da at h;split at h
 ·exact⟨_,h⟩
 ·cases h
theorem eF{α β:Type}{step:α->O (α ⊕ β)}{a a':α}(h:step a=ok (.inl a')):da step a=da step a':=by
 match hr:da step a' with
 | some r =>
  obtain⟨n,hn⟩:=jb hr;refine iX (n:=n+1) ?_;unfold bL;rw[h];exact hn
 | none =>
  match hq:da step a with
  | none=>rfl
  | some r =>
   obtain⟨n,hn⟩:=jb hq
   match n,hn with
   | n+1,hn =>
    unfold bL at hn;rw[h]at hn;rw[iX (n:=n) hn]at hr;cases hr
theorem bH{α β:Type}{step:α->O (α ⊕ β)}{a:α}{b:β}(h:step a=ok (.inr b)):da step a=ok b :=
 iX (n:=1) (by unfold bL;rw[h];rfl)
mutual
noncomputable def fw:CE->List Nat
 | .v i=>[i]
 | .bin _ a b=>fw a++fw b
 | .neg a=>fw a
 | .not a=>fw a
 | .and es=>b7 es
 | .or es=>b7 es
 | .ite c a b=>fw c++(fw a++fw b)
 | .cmp _ a b=>fw a++fw b
 | .ud a _=>fw a
 | .call _ es=>b7 es
 | .bf _ es=>b7 es
 | .ix a b=>fw a++fw b
 | .tup es=>b7 es
 | .lst es=>b7 es
 | .cm _ es=>b7 es
 | .comp _ _ caps _ es _ _=>caps++b7 es
 | _=>[]
noncomputable def b7:List CE->List Nat
 | []=>[]
 | e::es=>fw e++b7 es
end
def fK(is:List Nat)(ρ:au):au:=ρ.mapIdx λi d=>if i∈is then d.map (aw aC)else d
def keep(e:CE)(d:D)(ρ:au):D×au:=if ak aQ d then(aw aC d,fK (fw e) ρ)else(d,ρ)
def gd(Φ:ay)(e:CE)(ρ:au):O (D×au):=match e with
 | .v i=>match ρ[i]? with
  | some (some d)=>if ak bo d then ok (d,ρ.set i none)else ok (d,ρ)
  | _=>none
 | _=>bd (aH Φ e ρ) λd=>ok (keep e d ρ)
def fI(Φ:ay)(it:CI)(ρ:au):O (List D×au):=match it with
 | .Cq p es=>bd (bM Φ es ρ) λxs=>bd (Φ p xs) λd=>bd (mi d) λitems=>ok (items,if aj aQ xs then fK (b7 es) ρ else ρ)
 | .k8 a=>bd (aH Φ a ρ) λx=>match x with
  | .int n=>if n<=fm /\ -fm<=n then ok ((List.range n.toNat).map λ(k:Nat)=>D.int (k:Int),ρ)else none
  | _=>none
 | .seq a=>bd (aH Φ a ρ) λx=>match x with
  | .tup ds=>ok (ag aC ds,if ak aQ x then fK (fw a) ρ else ρ)
  | .lst f ds=>ok (ag aC ds,if ak aQ x then fK (fw a) ρ else ρ)
  | _=>none
def iC(es:List CE)(xs:List D)(ρ:au):List D×au:=if aj aQ xs then(ag aC xs,fK (b7 es) ρ)else(xs,ρ)
noncomputable def nX(Φ:ay)(p i:Nat)(r:List D×au):O (Fo×au):=match r.2[i]? with
 | some (some d)=>bd (Φ p (d::r.1)) λd'=>ok (.nx,r.2.set i (some d'))
 | _=>none
def pM(t:Tg)(i:Nat)(ρ:au):O (Fo×au):=match pP ρ[i]? with
 | some ds=>match ds.getLast? with
  | some d=>if ak anyF d=false then bd (bw t d (ρ.set i (some (.lst .ow ds.dropLast)))) λρ'=>ok (.nx,ρ')else none
  | none=>none
 | none=>none
def eA(bind:D->au->O au)(body:au->O (Fo×au)):List D->au->O (Fo×au)
 | [],ρ=>ok (.nx,ρ)
 | d::ds,ρ=>bd (bind d ρ) λρ1=>bd (body ρ1) λr=>match r with
  | (.nx,ρ2)=>eA bind body ds ρ2
  | (.ct,ρ2)=>eA bind body ds ρ2
  | (.bk,ρ2)=>ok (.nx,ρ2)
  | (.rt d,ρ2)=>ok (.rt d,ρ2)
mutual
noncomputable def jL(Φ:ay):CS->au->O (Fo×au)
 | .asg t e,ρ=>bd (gd Φ e ρ) λr=>bd (bw t r.1 r.2) λρ'=>ok (.nx,ρ')
 | .par i j a b,ρ=>bd (aH Φ a ρ) λx=>bd (aH Φ b ρ) λy=>if ak anyF x=false/\ak anyF y=false/\i<ρ.length/\j<ρ.length then ok (.nx,(ρ.set i (some x)).set j (some y))else none
 | .ret e,ρ=>bd (gd Φ e ρ) λr=>ok (.rt r.1,r.2)
 | .rs c,_=>some (.error c)
 | .ex e,ρ=>bd (aH Φ e ρ) λ_=>ok (.nx,ρ)
 | .mut p i es,ρ=>bd (bM Φ es ρ) λxs=>nX Φ p i (iC es xs ρ)
 | .popT t i,ρ=>pM t i ρ
 | .app i e,ρ=>bd (gd Φ e ρ) λr=>match pP r.2[i]? with
  | some ds=>if ds.length<fm then ok (.nx,r.2.set i (some (.lst .ow (ds++[r.1]))))else none
  | none=>none
 | .setI i k e,ρ=>bd (gd Φ e ρ) λr=>bd (bd (aH Φ k r.2) intD) λz=>match pP r.2[i]? with
  | some ds=>match oU ds.length z with
   | some j=>ok (.nx,r.2.set i (some (.lst .ow (ds.set j r.1))))
   | none=>none
  | none=>none
 | .ifs c a b,ρ=>bd (qS Φ c ρ) λk=>if k then aT Φ a ρ else aT Φ b ρ
 | .zL c b,ρ=>da (λρ=>bd (qS Φ c ρ) λk=>if k then bd (aT Φ b ρ) λr=>match r with
   | (.nx,ρ')=>ok (.inl ρ')
   | (.ct,ρ')=>ok (.inl ρ')
   | (.bk,ρ')=>ok (.inr (.nx,ρ'))
   | (.rt d,ρ')=>ok (.inr (.rt d,ρ'))
  else ok (.inr (.nx,ρ))) ρ
 | .fr t it b,ρ=>bd (fI Φ it ρ) λr=>eA (λd ρ=>bw t d ρ) (λρ=>aT Φ b ρ) r.1 r.2
noncomputable def aT(Φ:ay):List CS->au->O (Fo×au)
 | [],ρ=>ok (.nx,ρ)
 | s::ss,ρ=>bd (jL Φ s ρ) λr=>match r with
  | (.nx,ρ')=>aT Φ ss ρ'
  | r=>ok r
end
noncomputable def nK(Φ:ay)(n:Nat)(b:List CS)(ds:List D):O D:=bd (aT Φ b (ds.map some++List.replicate (n - ds.length) none)) λr=>match r.1 with
 | .nx=>ok .aL
 | .rt d=>ok d
 | _=>none
end DI
end
section
namespace DI
open PySem PySem.Spec PyProof.Rows L2
noncomputable abbrev az:=List Nat
noncomputable abbrev St:=L2.St
noncomputable abbrev lY:=Addr->List V->Prop
inductive Nd where | l(xs:List V) | d(cs:List (List Int))(as:List Addr)(xs:List V)(ep:Nat)
abbrev gO:=az->Addr->Nd->Fl->Prop
structure cE(T:lY)(as:List Addr)(cs:List (List Int)):Prop where
 len:as.length=cs.length
 tup:∀(j:Nat) (a:Addr) (c:List Int),as[j]?=some a->cs[j]?=some c->T a (c.map V.int)
variable {T T':lY}
theorem cE.imp{as:List Addr}{cs:List (List Int)}(h:cE T as cs)(hT:∀ p xs,T p xs->T' p xs):cE T' as cs:=⟨h.len,λj a c h1 h2=>hT _ _ (h.tup j a c h1 h2)⟩
mutual
inductive Rep(T:lY)(N:gO):az->V->D->Prop where
 | aL {q:az}:Rep T N q .aL .aL
 | bl {q:az} (b:Bool):Rep T N q (.bl b) (.bl b)
 | int {q:az} (i:Int):Rep T N q (.int i) (.int i)
 | tup {q:az} {p:Addr} {xs:List V} {ds:List D} (h:T p xs) (r:ae T N q 0 xs ds):Rep T N q (.ref p) (.tup ds)
 | lst {q:az} {p:Addr} {xs:List V} {f:Fl} {ds:List D} (h:N q p (.l xs) f) (r:ae T N q 0 xs ds):Rep T N q (.ref p) (.lst f ds)
 | aZ {q:az} {p:Addr} {cs:List (List Int)} {as:List Addr} {xs:List V} {ep:Nat} {f:Fl} {ds:List D} (h:N q p (.d cs as xs ep) f) (k:cE T as cs) (r:ae T N q 0 xs ds):Rep T N q (.ref p) (.aZ f cs ds)
inductive ae(T:lY)(N:gO):az->Nat->List V->List D->Prop where
 | nil {q:az} {n:Nat}:ae T N q n [] []
 | cons {q:az} {n:Nat} {v:V} {d:D} {vs:List V} {ds:List D} (h:Rep T N (n::q) v d) (t:ae T N q (n+1) vs ds):ae T N q n (v::vs) (d::ds)
end
variable {N:gO}{ds ds' items:List D}
theorem Rep.wN{q:az}{v:V}(h:Rep T N q v (.tup ds)):∃ p xs,v=.ref p/\T p xs/\ae T N q 0 xs ds:=by
 cases h with
 | tup a b=>exact⟨_,_,rfl,a,b⟩
theorem Rep.wO{q:az}{v:V}{f:Fl}(h:Rep T N q v (.lst f ds)):∃ p xs,v=.ref p/\N q p (.l xs) f/\ae T N q 0 xs ds:=by
 cases h with
 | lst a b=>exact⟨_,_,rfl,a,b⟩
mutual
theorem og:∀ d:D,ak (λ_=>false) d=false
 | .aL=>rfl
 | .bl _=>rfl
 | .int _=>rfl
 | .tup ds=>ez ds
 | .lst _ ds=>ez ds
 | .aZ _ _ ds=>ez ds
theorem ez:∀ ds:List D,aj (λ_=>false) ds=false
 | []=>rfl
 | d::ds=>by show(ak _ d||aj _ ds)=false;rw[og d,ez ds];rfl
end
theorem Cs{a b:Bool}(h:(a||b)=false):a=false/\b=false:=by cases a<;>cases b<;>first | exact⟨rfl,rfl⟩ | cases h
variable {k' q':az}{vs xs ys:List V}
section
variable {T T':lY}{N N':gO}{g:Fl->Fl}{P:Fl->Bool}{C:az->az->Prop}{I:Nat->Nat->Prop}
mutual
theorem Rep.gen(hT:∀ p xs,T p xs->T' p xs)(h0:I 0 0)(hI:∀ n n',I n n'->I (n+1) (n'+1))(hC:∀ k k' n n',C k k'->I n n'->C (n::k) (n'::k'))(hN:∀ k k' p xs f,C k k'->P f=false->N k p xs f->N' k' p xs (g f)):
  ∀ {k:az} {v:V} {d:D},Rep T N k v d->∀ {k':az},C k k'->ak P d=false->Rep T' N' k' v (aw g d)
 | _,_,_,.aL,_,_,_=>.aL
 | _,_,_,.bl b,_,_,_=>.bl b
 | _,_,_,.int i,_,_,_=>.int i
 | _,_,_,.tup h r,_,c,e=>.tup (hT _ _ h) (ae.gen hT h0 hI hC hN r c h0 e)
 | _,_,_,.lst h r,_,c,e=>.lst (hN _ _ _ _ _ c (Cs e).1 h) (ae.gen hT h0 hI hC hN r c h0 (Cs e).2)
 | _,_,_,.aZ h k r,_,c,e=>.aZ (hN _ _ _ _ _ c (Cs e).1 h) (k.imp hT) (ae.gen hT h0 hI hC hN r c h0 (Cs e).2)
theorem ae.gen(hT:∀ p xs,T p xs->T' p xs)(h0:I 0 0)(hI:∀ n n',I n n'->I (n+1) (n'+1))(hC:∀ k k' n n',C k k'->I n n'->C (n::k) (n'::k'))(hN:∀ k k' p xs f,C k k'->P f=false->N k p xs f->N' k' p xs (g f)):
  ∀ {k:az} {n:Nat} {vs:List V} {ds:List D},ae T N k n vs ds->∀ {k':az} {n':Nat},C k k'->I n n'->aj P ds=false->ae T' N' k' n' vs (ag g ds)
 | _,_,_,_,.nil,_,_,_,_,_=>.nil
 | _,_,_,_,.cons h t,_,_,c,i,e=>.cons (Rep.gen hT h0 hI hC hN h (hC _ _ _ _ c i) (Cs e).1) (ae.gen hT h0 hI hC hN t c (hI _ _ i) (Cs e).2)
end
theorem Rep.map{q:az}(hT:∀ p xs,T p xs->T' p xs)(hN:∀ c p xs f,N (c++q) p xs f->N' (c++q') p xs (g f)){k:az}{v:V}{d:D}(h:Rep T N k v d)(c:az)(e:k=c++q):Rep T' N' (c++q') v (aw g d) :=
 Rep.gen (P:=λ_=>false) (C:=λk k'=>∃ c,k=c++q/\k'=c++q') (I:=λn n'=>n=n') hT rfl (λ_ _ e=>by rw[e]) (λ_ _ n _ ⟨c,e1,e2⟩ e=>⟨n::c,by rw[e1];rfl,by rw[e2,<- e];rfl⟩) (λ_ _ p xs f ⟨c,e1,e2⟩ _ h=>by subst e1;subst e2;exact hN c p xs f h) h ⟨c,e,rfl⟩ (og d)
theorem ae.map{q:az}(hT:∀ p xs,T p xs->T' p xs)(hN:∀ c p xs f,N (c++q) p xs f->N' (c++q') p xs (g f)){k:az}{n:Nat}(h:ae T N k n vs ds)(c:az)(e:k=c++q):ae T' N' (c++q') n vs (ag g ds) :=
 ae.gen (P:=λ_=>false) (C:=λk k'=>∃ c,k=c++q/\k'=c++q') (I:=λn n'=>n=n') hT rfl (λ_ _ e=>by rw[e]) (λ_ _ n _ ⟨c,e1,e2⟩ e=>⟨n::c,by rw[e1];rfl,by rw[e2,<- e];rfl⟩) (λ_ _ p xs f ⟨c,e1,e2⟩ _ h=>by subst e1;subst e2;exact hN c p xs f h) h ⟨c,e,rfl⟩ rfl (ez ds)
theorem Rep.jd(hT:∀ p xs,T p xs->T' p xs)(hN:∀ k k' p xs f,N k p xs f->N' k' p xs (g f)){k:az}{v:V}{d:D}(h:Rep T N k v d)(k':az):Rep T' N' k' v (aw g d) :=
 Rep.gen (P:=λ_=>false) (C:=λ_ _=>True) (I:=λ_ _=>True) hT trivial (λ_ _ e=>e) (λ_ _ _ _ e _=>e) (λk k' p xs f _ _ h=>hN k k' p xs f h) h trivial (og d)
theorem ae.jd(hT:∀ p xs,T p xs->T' p xs)(hN:∀ k k' p xs f,N k p xs f->N' k' p xs (g f)){k:az}{n:Nat}(h:ae T N k n vs ds)(k':az)(n':Nat):ae T' N' k' n' vs (ag g ds) :=
 ae.gen (P:=λ_=>false) (C:=λ_ _=>True) (I:=λ_ _=>True) hT trivial (λ_ _ e=>e) (λ_ _ _ _ e _=>e) (λk k' p xs f _ _ h=>hN k k' p xs f h) h trivial trivial (ez ds)
end
mutual
theorem dE:∀ d:D,aw id d=d
 | .aL=>rfl
 | .bl _=>rfl
 | .int _=>rfl
 | .tup ds=>by rw[aw,dh ds]
 | .lst f ds=>by rw[aw,dh ds];rfl
 | .aZ f ks vs=>by rw[aw,dh vs];rfl
theorem dh:∀ ds:List D,ag id ds=ds
 | []=>rfl
 | d::ds=>by rw[ag,dE d,dh ds]
end
section
variable {T T':lY}{N N':gO}
theorem Rep.imp{q:az}(hT:∀ p xs,T p xs->T' p xs)(hN:∀ c p xs f,N (c++q) p xs f->N' (c++q') p xs f){v:V}{d:D}(h:Rep T N q v d):Rep T' N' q' v d:=by
 have:=Rep.map (g:=id) hT hN h [] rfl;rw[dE]at this;exact this
theorem ae.imp{q:az}{n:Nat}(hT:∀ p xs,T p xs->T' p xs)(hN:∀ c p xs f,N (c++q) p xs f->N' (c++q') p xs f)(h:ae T N q n vs ds):ae T' N' q' n vs ds:=by
 have:=ae.map (g:=id) hT hN h [] rfl;rw[dh]at this;exact this
theorem ae.length:∀ {k:az} {n:Nat} {vs:List V} {ds:List D},ae T N k n vs ds->vs.length=ds.length
 | _,_,_,_,.nil=>rfl
 | _,_,_,_,.cons _ t=>by simp[ae.length t]
theorem ae.get:∀ {k:az} {n j:Nat} {vs:List V} {ds:List D} {d:D},ae T N k n vs ds->ds[j]?=some d->∃ v,vs[j]?=some v/\Rep T N ((n+j)::k) v d
 | _,_,_,_,_,_,.nil,e=>by simp at e
 | _,_,0,_,_,_,.cons h t,e=>by simp at e;subst e;exact⟨_,rfl,h⟩
 | _,n,j+1,_,_,_,.cons h t,e=>by
  obtain⟨v,h1,h2⟩:=ae.get (j:=j) t (by simpa using e);refine⟨v,by simpa using h1,?_⟩;have:n+1+j=n+(j+1):=by left
  rw[<- this];exact h2
theorem ae.yE:∀ {k:az} {n j:Nat} {vs:List V} {ds:List D} {v:V},ae T N k n vs ds->vs[j]?=some v->∃ d,ds[j]?=some d/\Rep T N ((n+j)::k) v d
 | _,_,_,_,_,_,.nil,e=>by simp at e
 | _,_,0,_,_,_,.cons h t,e=>by simp at e;subst e;exact⟨_,rfl,h⟩
 | _,n,j+1,_,_,_,.cons h t,e=>by
  obtain⟨v,h1,h2⟩:=ae.yE (j:=j) t (by simpa using e);refine⟨v,by simpa using h1,?_⟩;have:n+1+j=n+(j+1):=by left
  rw[<- this];exact h2
end
def KL(K:PySem.W.Frag)(a:Addr)(xs:List V):Prop :=
 ∃(o:Obj) (af:Array Value) (n:Nat),K.lookup a=some o/\o.cls=.type "list" /\ o.dict=none/\o.data=.seq af n/\af.size<=sizeLine/\Vals xs af.toList
def DO(p:Addr)(cs:List (List Int))(as:List Addr)(xs:List V)(ep:Nat)(h:Heap):Prop :=
 ∃(zs:List (List Int×Addr×Value)) (o:Obj) (es:Array DictEntry),zs.map (·.1)=cs/\zs.map (·.2.1)=as/\Vals xs (zs.map (·.2.2))/\h.get? p=some o/\o.ExactDict/\o.data=.dict es ep /\
  es.toList=zs.map (λz=>⟨reduceHash (Builtin.Tuple.tupleHashOf (z.1.map hashInt)),.ref z.2.1,z.2.2⟩)/\cs.Nodup/\cs.length<=sizeLine/\(p==sysModules)=false
noncomputable abbrev cN(H:Hp)(p:Addr)(n:Nd):Prop:=match n with
 | .l xs=>H p=some (.lst xs)
 | .d cs as xs ep=>H p=some (.ext (DO p cs as xs ep))
variable {H H' H1 H2:Hp}
theorem cN.ne{p:Addr}{n:Nd}(h:cN H p n):H p≠none:=by
 cases n with
 | l xs=>intro z;rw[show H p=some (.lst xs) from h]at z;cases z
 | d cs as xs ep=>intro z;rw[show H p=some (.ext (DO p cs as xs ep)) from h]at z;cases z
theorem cN.at{p:Addr}{n:Nd}(e:∀ o,H p=some o->H' p=some o)(h:cN H p n):cN H' p n:=by
 cases n with
 | l xs=>exact e _ h
 | d cs as xs ep=>exact e _ h
theorem cN.same{p:Addr}{n:Nd}(e:ai H H')(h:cN H p n):cN H' p n:=h.at (e p)
theorem cN.some{H:Hp}{p:Addr}{n:Nd}(h:cN H p n):∃ o,H p=some o/\(∀ xs,o≠.tup xs)/\(∀ a u,o≠.fK a u):=by
 cases n with
 | l xs=>exact⟨_,h,λ_ z=>(nomatch z),λ_ _ z=>(nomatch z)⟩
 | d cs as xs ep=>exact⟨_,h,λ_ z=>(nomatch z),λ_ _ z=>(nomatch z)⟩
def nd(K:PySem.W.Frag)(R A:Addr->Prop)(τ:Addr->Option az)(H:Hp):gO:=λq p n f=>match f with
 | .ow=>cN H p n/\τ p=some q
 | .fz=>cN H p n/\R p
 | .al=>cN H p n/\A p
 | .sc=>match n with
  | .l xs=>(∃ o,H p=some (.fK o (.lst xs)))\/KL K p xs
  | .d _ _ _ _=>False
variable {A F G R R' R1:Addr->Prop}{K:PySem.W.Frag}{τ τ':Addr->Option az}
theorem nd.xj{q:az}{p:Addr}{n:Nd}(h:nd K R A τ H q p n .sc):∃ xs,n=.l xs/\((∃ o,H p=some (.fK o (.lst xs)))\/KL K p xs):=by
 cases n with
 | l xs=>exact⟨xs,rfl,h⟩
 | d _ _ _ _=>exact h.elim
theorem nd.sq{q:az}{p:Addr}{f:Fl}(h:nd K R A τ H q p (.l xs) f):c_ K H p xs:=by
 cases f with
 | ow=>exact c_.of h.1
 | fz=>exact c_.of h.1
 | al=>exact c_.of h.1
 | sc=>exact h.elim (λh=>.inl (.inr h)) .inr
theorem nd.lst{K:PySem.W.Frag}{R A:Addr->Prop}{τ:Addr->Option az}{H:Hp}{q:az}{p:Addr}{xs:List V}{f:Fl}(h:nd K R A τ H q p (.l xs) f)(hf:A8 f=false):H p=some (.lst xs):=by
 cases f with
 | ow=>exact h.1
 | fz=>exact h.1
 | al=>exact h.1
 | sc=>cases hf
variable {ep:Nat}
theorem nd.dat{q:az}{p:Addr}{cs:List (List Int)}{as:List Addr}{f:Fl}(h:nd K R A τ H q p (.d cs as xs ep) f):H p=some (.ext (DO p cs as xs ep)):=by
 cases f with
 | ow=>exact h.1
 | fz=>exact h.1
 | al=>exact h.1
 | sc=>exact h.elim
theorem Rd.same{a:Addr}{u:HO}(e:ai H H')(h:Rd H a u):Rd H' a u:=h.elim (λh=>.inl (e _ _ h)) λ⟨o,h⟩=>.inr ⟨o,e _ _ h⟩
theorem ao.same{K:PySem.W.Frag}{H H':Hp}{a:Addr}{xs:List V}(e:ai H H')(h:ao K H a xs):ao K H' a xs:=h.elim (λh=>.inl (Rd.same e h)) .inr
theorem nd.same{K:PySem.W.Frag}{R A:Addr->Prop}{τ:Addr->Option az}{H H':Hp}{q:az}{p:Addr}{n:Nd}{f:Fl}(e:ai H H')(h:nd K R A τ H q p n f):nd K R A τ H' q p n f:=by
 cases f with
 | ow=>exact⟨h.1.same e,h.2⟩
 | fz=>exact⟨h.1.same e,h.2⟩
 | al=>exact⟨h.1.same e,h.2⟩
 | sc=>cases n with
  | l xs=>exact h.elim (λ⟨o,h⟩=>.inl ⟨o,e _ _ h⟩) .inr
  | d _ _ _ _=>exact h.elim
theorem Rd.there{a:Addr}{u:HO}(h:Rd H a u):H a≠none:=by
 rcases h with h | ⟨o,h⟩<;>(rw[h];simp)
theorem ai.ne(e:ai H H'){a:Addr}(h:H a≠none):H' a≠none:=by
 cases q:H a with
 | none=>exact absurd q h
 | some o=>rw[e a o q];simp
structure SI(X:Cx)(F R:Addr->Prop)(τ:Addr->Option az)(ρ:au)(σ:St)(H:Hp):Prop where
 len:ρ.length=σ.length
 rep:∀(i:Nat) (d:D),ρ[i]?=some (some d)->∃ v,σ[i]?=some (some v)/\Rep (ao X.K H) (nd X.K R (λ_=>False) τ H) [i] v d
 rt:∀ p,R p->τ p=none
 rh:∀ p,R p->H p≠none
 rf:∀ p,R p->F p\/X.H₀ p=none
 th:∀ p q,τ p=some q->H p≠none
 t0:∀ p q,τ p=some q->X.H₀ p=none
 same:ai X.H₀ H
variable {X:Cx}{ρ:au}{σ:L2.St}
theorem SI.go(S:SI X F R τ ρ σ H)(e:ai H H'):SI X F R τ ρ σ H' :=
 ⟨S.len,λi d h=>let ⟨v,h1,h2⟩:=S.rep i d h;⟨v,h1,h2.imp (λ_ _ h=>ao.same e h) λ_ _ _ _ h=>nd.same e h⟩,S.rt,λp h=>ai.ne e (S.rh p h),S.rf,λp q h=>ai.ne e (S.th p q h),S.t0,S.same.trans e⟩
noncomputable def gM(G:Addr->Prop)(τ:Addr->Option az)(fv:List Nat)(p:Addr):Prop:=G p/\∀ c i,τ p=some (c++[i])->i∈fv
variable {caps fv fv':List Nat}
theorem gM.mono{p:Addr}(h:gM G τ fv p)(hs:∀ i∈fv,i∈fv'):gM G τ fv' p:=⟨h.1,λc i e=>hs i (h.2 c i e)⟩
noncomputable def gP(X:Cx)(F:Addr->Prop)(p:Addr):Prop:=F p\/X.H₀ p=none
def bj(K:PySem.W.Frag)(G R:Addr->Prop)(τ:Addr->Option az)(fv:List Nat)(H H':Hp)(v:V)(d:D):Prop :=
 ∃ τt:Addr->Option az,(∀ p q,τt p=some q->H p=none)/\Rep (ao K H') (nd K R (gM G τ fv) τt H') [] v d
def bg(K:PySem.W.Frag)(G R:Addr->Prop)(τ:Addr->Option az)(fv:List Nat)(H H':Hp)(vs:List V)(ds:List D):Prop :=
 ∃ τt:Addr->Option az,(∀ p q,τt p=some q->H p=none)/\ae (ao K H') (nd K R (gM G τ fv) τt H') [] 0 vs ds
section
variable {K:PySem.W.Frag}{G R:Addr->Prop}{τ:Addr->Option az}{fv fv':List Nat}{H H1 H2:Hp}{v:V}{d:D}{vs:List V}{ds:List D}
theorem bj.go(h:bj K G R τ fv H H1 v d)(e:ai H1 H2):bj K G R τ fv H H2 v d :=
 let ⟨τt,h1,h2⟩:=h;⟨τt,h1,h2.imp (λ_ _ h=>ao.same e h) λ_ _ _ _ h=>nd.same e h⟩
theorem nd.mono{A':Addr->Prop}{τ:Addr->Option az}{q:az}{p:Addr}{xs:Nd}{f:Fl}(h:nd K R A τ H q p xs f)(hR:R p->R' p)(hA:A p->A' p)(ht:τ p=some q->τ' p=some q'):nd K R' A' τ' H q' p xs f:=by
 cases f with
 | ow=>exact⟨h.1,ht h.2⟩
 | fz=>exact⟨h.1,hR h.2⟩
 | al=>exact⟨h.1,hA h.2⟩
 | sc=>exact h
theorem bj.mono(h:bj K G R τ fv H H1 v d)(hs:∀ i∈fv,i∈fv'):bj K G R τ fv' H H1 v d :=
 let ⟨τt,h1,h2⟩:=h;⟨τt,h1,h2.imp (λ_ _ h=>h) λ_ _ _ _ h=>h.mono id (λh=>h.mono hs) id⟩
theorem bg.mono(h:bg K G R τ fv H H1 vs ds)(hs:∀ i∈fv,i∈fv'):bg K G R τ fv' H H1 vs ds :=
 let ⟨τt,h1,h2⟩:=h;⟨τt,h1,h2.imp (λ_ _ h=>h) λ_ _ _ _ h=>h.mono id (λh=>h.mono hs) id⟩
theorem bj.old{H0:Hp}(h:bj K G R τ fv H H1 v d)(e:ai H0 H):bj K G R τ fv H0 H1 v d :=
 let ⟨τt,h1,h2⟩:=h;⟨τt,λp q z=>e.free (h1 p q z),h2⟩
theorem bj.int{i:Int}:bj K G R τ fv H H1 (.int i) (.int i):=⟨λ_=>none,λ_ _ h=>by simp at h,.int i⟩
theorem bj.bl{b:Bool}:bj K G R τ fv H H1 (.bl b) (.bl b):=⟨λ_=>none,λ_ _ h=>by simp at h,.bl b⟩
theorem bj.aL:bj K G R τ fv H H1 .aL .aL:=⟨λ_=>none,λ_ _ h=>by simp at h,.aL⟩
theorem bj.isInt{i:Int}(h:bj K G R τ fv H H1 v (.int i)):v=.int i:=by obtain⟨_,_,h⟩:=h;cases h;rfl
theorem bj.vF{i:Bool}(h:bj K G R τ fv H H1 v (.bl i)):v=.bl i:=by obtain⟨_,_,h⟩:=h;cases h;rfl
def nI:az->az
 | []=>[]
 | [n]=>[n+1]
 | a::b::r=>a::nI (b::r)
theorem pz(c:az)(n:Nat):nI (c++[n])=c++[n+1]:=by
 induction c with
 | nil=>rfl
 | cons a c ih =>
  cases c with
  | nil=>rfl
  | cons b c=>show a::nI (b::c++[n])=_;rw[ih];rfl
theorem ae.shift{T:lY}{N N':gO}(hN:∀ c n p xs f,N (c++[n]) p xs f->N' (c++[n+1]) p xs f):∀ {n:Nat} {vs:List V} {ds:List D},ae T N [] n vs ds->ae T N' [] (n+1) vs ds
 | _,_,_,.nil=>.nil
 | n,_,_,.cons h t=>.cons (h.imp (q:=[n]) (q':=[n+1]) (λ_ _ h=>h) λc p xs f h=>hN c n p xs f h) (ae.shift hN t)
theorem bg.nil:bg K G R τ fv H H1 [] []:=⟨λ_=>none,λ_ _ h=>by simp at h,.nil⟩
open Classical in
theorem bg.cons(e1:ai H H1)(e2:ai H1 H2)(h:bj K G R τ fv H H1 v d)(t:bg K G R τ fv H1 H2 vs ds):bg K G R τ fv H H2 (v::vs) (d::ds):=by
 obtain⟨τ1,f1,h1⟩:=h;obtain⟨τ2,f2,h2⟩:=t;refine⟨λp=>if H1 p=none then(τ2 p).map nI else(τ1 p).map (· ++ [0]),λp q hq=>?_,.cons (h1.imp (q':=[0]) (λ_ _ h=>ao.same e2 h) λc p xs f h=>?_) (ae.shift (λc n p xs f h=>?_) h2)⟩
 ·by_cases hp:H1 p=none
  ·exact e1.free hp
  ·simp only[hp,if_false]at hq;cases q1:τ1 p with
   | none=>rw[q1]at hq;simp at hq
   | some k=>exact f1 p k q1
 ·have h':nd K R (gM G τ fv) τ1 H2 (c++[]) p xs f:=nd.same e2 h;cases f with
  | ow =>
   have hp:H1 p≠none:=h.1.ne;refine⟨h'.1,?_⟩;simp only[hp,if_false];rw[h.2];simp
  | fz=>exact h'
  | al=>exact h'
  | sc=>exact h'
 ·cases f with
  | ow =>
   have hp:H1 p=none:=f2 p _ h.2;refine⟨h.1,?_⟩;simp only[hp,if_true];rw[h.2];simp[pz]
  | fz=>exact h
  | al=>exact h
  | sc=>exact h
end
def tD(X:Cx)(F:Addr->Prop)(Φ:ay)(c:CE):TE:=λσ H Q=>∃ R τ ρ d,SI X F R τ ρ σ H/\aH Φ c ρ=ok d/\∀ v H',ai H H'->bj X.K (gP X F) R τ (fw c) H H' v d->Q v H'
def pd(X:Cx)(F:Addr->Prop)(Φ:ay)(cs:List CE):TA:=λσ H Q=>∃ R τ ρ ds,SI X F R τ ρ σ H/\bM Φ cs ρ=ok ds/\∀ vs H',ai H H'->bg X.K (gP X F) R τ (b7 cs) H H' vs ds->Q vs H'
def ft(X:Cx)(F:Addr->Prop)(Φ:ay)(c:CE):TT:=λσ H Q=>∃ R τ ρ b,SI X F R τ ρ σ H/\qS Φ c ρ=ok b/\∀ H',ai H H'->Q b H'
theorem PE.imp{e:Expr}{t t':TE}(h:PE X e t)(hi:∀ σ H Q,t' σ H Q->t σ H Q):PE X e t':=λpins s σ H Q I hw=>h pins s σ H Q I (hi σ H Q hw)
theorem PT.imp{e:Expr}{t t':TT}(h:PT X e t)(hi:∀ σ H Q,t' σ H Q->t σ H Q):PT X e t':=λpins s σ H Q I hw=>h pins s σ H Q I (hi σ H Q hw)
theorem PW.imp{e:Expr}{t t':TT}(h:PW X e t)(hi:∀ σ H Q,t' σ H Q->t σ H Q):PW X e t':=λwh pins s σ H Q I hw=>h wh pins s σ H Q I (hi σ H Q hw)
theorem PA.imp{es:List Expr}{t t':TA}(h:PA X es t)(hi:∀ σ H Q,t' σ H Q->t σ H Q):PA X es t':=λpos pins s σ H Q I hw=>h pos pins s σ H Q I (hi σ H Q hw)
variable {st:Stmt}
theorem PS.imp{t t':TS}(h:PS X st t)(hi:∀ D σ H,t' D σ H->t D σ H):PS X st t':=λpins s σ H D I hw=>h pins s σ H D I (hi D σ H hw)
theorem kF.imp{st:List Stmt}{t t':TS}(h:kF X st t)(hi:∀ D σ H,t' D σ H->t D σ H):kF X st t':=λpins s σ H D I hw=>h pins s σ H D I (hi D σ H hw)
theorem lN:∀(as bs:List D),cI as bs=true ↔ as.length=bs.length/\∀(j:Nat) (a b:D),as[j]?=some a->bs[j]?=some b->jh a b=true
 | [],[]=>by simp[cI]
 | [],b::bs=>by simp[cI]
 | a::as,[]=>by simp[cI]
 | a::as,b::bs=>by
  rw[cI,Bool.and_eq_true,lN as bs];constructor
  ·rintro ⟨h1,h2,h3⟩;refine⟨by simp[h2],λj x y hx hy=>?_⟩;cases j with
   | zero=>simp at hx hy;subst hx hy;exact h1
   | succ j=>exact h3 j x y (by simpa using hx) (by simpa using hy)
  ·rintro ⟨h2,h3⟩;exact⟨h3 0 a b rfl rfl,by simpa using h2,λj x y hx hy=>h3 (j+1) x y (by simpa using hx) (by simpa using hy)⟩
def Kq(as bs:List D)(j:Nat):Bool:=match as[j]?,bs[j]? with
 | some a,some b=>jh a b
 | _,_=>false
theorem gF(as bs:List D):((List.range (min as.length bs.length)).all (Kq as bs)&&as.length==bs.length)=cI as bs:=by
 rw[Bool.eq_iff_iff,lN,Bool.and_eq_true,List.all_eq_true,beq_iff_eq];constructor
 ·rintro ⟨h1,h2⟩;refine⟨h2,λj a b ha hb=>?_⟩;have hj:j<as.length:=by
   by_cases h:j<as.length
   ·exact h
   ·rw[List.getElem?_eq_none (by left)]at ha;cases ha
  have:=h1 j (by rw[List.mem_range];left);unfold Kq at this;rw[ha,hb]at this;exact this
 ·rintro ⟨h2,h1⟩;refine⟨λj hj=>?_,h2⟩;rw[List.mem_range]at hj;unfold Kq;have ha:as[j]?=some as[j]:=Vj (by left);have hb:bs[j]?=some bs[j]:=Vj (by left);rw[ha,hb];exact h1 j _ _ ha hb
section
variable {X:Cx}{pins:List (Addr×Obj)}{σ:St}{H:Hp}{s:Shared}{N N':gO}
theorem cU{n:Nat}(h:ck n (.tup ds)=true):∃ m,n=m+1/\∀ d∈ds,ck m d=true:=by
 cases n with
 | zero=>cases h
 | succ m=>exact⟨m,rfl,List.all_eq_true.mp h⟩
theorem cV{n:Nat}{f:Fl}(h:ck n (.lst f ds)=true):∃ m,n=m+1/\∀ d∈ds,ck m d=true:=by
 cases n with
 | zero=>cases h
 | succ m=>exact⟨m,rfl,List.all_eq_true.mp h⟩
theorem tZ(I:Inv X pins σ H s){p:Addr}(h:c_ X.K H p xs)(h':ao X.K H p ys):False:=by
 obtain⟨af,_,pl,_⟩:=I.list h;obtain⟨its',_,pt,_⟩:=I.tuple h';exact SeqAt.ne_of_list_tuple pl.isList pt rfl
theorem xg(I:Inv X pins σ H s)(hN:∀ q p xs f,N q p (.l xs) f->c_ X.K H p xs)(zG:∀ q p xs f,N' q p (.l xs) f->c_ X.K H p xs):
  ∀(n:Nat) {k k':az} {v:V} {d d':D},Rep (ao X.K H) N k v d->Rep (ao X.K H) N' k' v d'->ck n d=true->ck n d'=true->jh d d'=true:=by
 intro n;induction n with
 | zero =>
  intro k k' v d d' h h' ho dO;cases h with
  | aL=>cases h';rfl
  | bl b=>cases h';exact Wl b
  | int i=>cases h';exact Wl i
  | tup _ _=>obtain⟨m,hm,_⟩:=cU ho;left
  | lst _ _=>obtain⟨m,hm,_⟩:=cV ho;left
  | aZ _ _=>simp[ck]at ho
 | succ n ih =>
  have sub:∀ {q q':az} {xs:List V} {ds ds':List D},ae (ao X.K H) N q 0 xs ds->ae (ao X.K H) N' q' 0 xs ds'->(∀ d∈ds,ck n d=true)->(∀ d∈ds',ck n d=true)->cI ds ds'=true:=by
   intro q q' xs ds ds' r r' ho dO;rw[lN];refine⟨by rw[<- r.length,<- r'.length],λj a b ha hb=>?_⟩;obtain⟨v1,h1,r1⟩:=r.get ha;obtain⟨v2,h2,r2⟩:=r'.get hb;rw[h1]at h2;cases h2;exact ih r1 r2 (ho a (Vr ha)) (dO b (Vr hb))
  intro k k' v d d' h h' ho dO;cases h with
  | aL=>cases h';rfl
  | bl b=>cases h';exact Wl b
  | int i=>cases h';exact Wl i
  | tup h r =>
   obtain⟨m,hm,ho⟩:=cU ho;obtain rfl:n=m:=by left
   cases h' with
   | tup h' r' =>
    obtain⟨m,hm,dO⟩:=cU dO;obtain rfl:n=m:=by left
    obtain rfl:=I.i4 h h';exact sub r r' ho dO
   | lst h' r'=>exact(tZ I (zG _ _ _ _ h') h).elim
   | aZ _ _=>simp[ck]at dO
  | lst h r =>
   obtain⟨m,hm,ho⟩:=cV ho;obtain rfl:n=m:=by left
   cases h' with
   | tup h' r'=>exact(tZ I (hN _ _ _ _ h) h').elim
   | lst h' r' =>
    obtain⟨m,hm,dO⟩:=cV dO;obtain rfl:n=m:=by left
    obtain rfl:=I.p3 (hN _ _ _ _ h) (zG _ _ _ _ h');exact sub r r' ho dO
   | aZ _ _=>simp[ck]at dO
  | aZ _ _=>simp[ck]at ho
structure Alike(A:Around)(s:Shared)(u u':Value)(b:Bool):Prop where
 eq:SeqAt.EqAt A s u u' b
 rc:SeqAt.RcAt A s u u' b
 ne:SeqAt.RcNeAt A s u u' (!b)
theorem alike(I:Inv X pins σ H s)(hN:∀ q p xs f,N q p (.l xs) f->c_ X.K H p xs)(zG:∀ q p xs f,N' q p (.l xs) f->c_ X.K H p xs):
  ∀(n:Nat) (A:Around) {k k':az} {v v':V} {u u':Value} {d d':D},Rep (ao X.K H) N k v d->Rep (ao X.K H) N' k' v' d'->ck n d=true->ck n d'=true->RelV v u->RelV v' u'->A.units+n<cLine ->
   Alike A s u u' (jh d d'):=by
 intro n;induction n with
 | zero =>
  intro A k k' v v' u u' d d' h h' ho dO r r' hu;cases h with
  | tup _ _=>obtain⟨m,hm,_⟩:=cU ho;left
  | lst _ _=>obtain⟨m,hm,_⟩:=cV ho;left
  | aZ _ _=>simp[ck]at ho
  | aL =>
   cases r;cases h' with
   | tup _ _=>obtain⟨m,hm,_⟩:=cU dO;left
   | lst _ _=>obtain⟨m,hm,_⟩:=cV dO;left
   | aZ _ _=>simp[ck]at dO
   | aL=>cases r';exact⟨V6 _,SeqAt.RcAt.none_none,SeqAt.RcNeAt.none_none⟩
   | bl b=>cases r';exact⟨Wr b,SeqAt.RcAt.none_bool b,SeqAt.RcNeAt.none_bool b⟩
   | int b=>obtain⟨t,rfl⟩:=r';exact⟨Ww b t,SeqAt.RcAt.none_int b t,SeqAt.RcNeAt.none_int b t⟩
  | bl a =>
   cases r;cases h' with
   | tup _ _=>obtain⟨m,hm,_⟩:=cU dO;left
   | lst _ _=>obtain⟨m,hm,_⟩:=cV dO;left
   | aZ _ _=>simp[ck]at dO
   | aL=>cases r';exact⟨Ws a,SeqAt.RcAt.bool_none a,SeqAt.RcNeAt.bool_none a⟩
   | bl b=>cases r';exact⟨Wt a b,SeqAt.RcAt.bool_bool a b,SeqAt.RcNeAt.bool_bool a b⟩
   | int b=>obtain⟨t,rfl⟩:=r';exact⟨Wx a b t,SeqAt.RcAt.bool_int a b t,SeqAt.RcNeAt.bool_int a b t⟩
  | int a =>
   obtain⟨t',rfl⟩:=r;cases h' with
   | tup _ _=>obtain⟨m,hm,_⟩:=cU dO;left
   | lst _ _=>obtain⟨m,hm,_⟩:=cV dO;left
   | aZ _ _=>simp[ck]at dO
   | aL=>cases r';exact⟨Wz a t',SeqAt.RcAt.int_none a t',SeqAt.RcNeAt.int_none a t'⟩
   | bl b=>cases r';exact⟨WA a t' b,SeqAt.RcAt.int_bool a t' b,SeqAt.RcNeAt.int_bool a t' b⟩
   | int b=>obtain⟨t,rfl⟩:=r';exact⟨V9 a t' b t,SeqAt.RcAt.int_int a t' b t,SeqAt.RcNeAt.int_int a t' b t⟩
 | succ n ih =>
  intro A k k' v v' u u' d d' h h' ho dO r r' hu;have cY:A.units<cLine:=by left
  have Sv:A.in1.units+n<cLine:=by show A.units+1+n<cLine;left
  have sub:∀ {q q':az} {xs xs':List V} {ds ds':List D} {af its':List Value},ae (ao X.K H) N q 0 xs ds->ae (ao X.K H) N' q' 0 xs' ds'->(∀ d∈ds,ck n d=true)->(∀ d∈ds',ck n d=true)->Vals xs af->Vals xs' its' ->
    ∀(j:Nat) (h1:j<af.toArray.size) (h2:j<its'.toArray.size),SeqAt.EqAt A.in1 s af.toArray[j] its'.toArray[j] (Kq ds ds' j):=by
   intro q q' xs xs' ds ds' af its' rs hJ hd EZ rv Ci j h1 h2;have l1:ds.length=af.length:=by rw[<- rs.length,rv.length]
   have l2:ds'.length=its'.length:=by rw[<- hJ.length,Ci.length]
   simp only[List.size_toArray]at h1 h2;have ea:ds[j]?=some ds[j]:=Vj (by left);have eb:ds'[j]?=some ds'[j]:=Vj (by left);obtain⟨w1,g1,p1⟩:=rs.get ea;obtain⟨w2,g2,p2⟩:=hJ.get eb;obtain⟨u1,k1,z1⟩:=rv.get g1;obtain⟨u2,k2,z2⟩:=Ci.get g2;have:=(ih A.in1 p1 p2 (hd _ (Wm _)) (EZ _ (Wm _)) z1 z2 Sv).eq;unfold Kq;rw[ea,eb];rw[List.getElem?_eq_getElem h1]at k1;rw[List.getElem?_eq_getElem h2]at k2;cases k1;cases k2;simpa using this
  cases h with
  | aL =>
   cases r;cases h' with
   | aZ _ _=>simp[ck]at dO
   | aL=>cases r';exact⟨V6 _,SeqAt.RcAt.none_none,SeqAt.RcNeAt.none_none⟩
   | bl b=>cases r';exact⟨Wr b,SeqAt.RcAt.none_bool b,SeqAt.RcNeAt.none_bool b⟩
   | int b=>obtain⟨t,rfl⟩:=r';exact⟨Ww b t,SeqAt.RcAt.none_int b t,SeqAt.RcNeAt.none_int b t⟩
   | tup h' rr=>cases r';obtain⟨af,_,pt,_⟩:=I.tuple h';exact⟨SeqAt.EqAt.none_tuple pt cY,SeqAt.RcAt.none_tuple pt cY,SeqAt.RcNeAt.none_tuple pt cY⟩
   | lst h' rr=>cases r';obtain⟨af,_,pt,_⟩:=I.list (zG _ _ _ _ h');exact⟨SeqAt.EqAt.none_list pt.isList cY,SeqAt.RcAt.none_list pt.isList cY,SeqAt.RcNeAt.none_list pt.isList cY⟩
  | bl a =>
   cases r;cases h' with
   | aZ _ _=>simp[ck]at dO
   | aL=>cases r';exact⟨Ws a,SeqAt.RcAt.bool_none a,SeqAt.RcNeAt.bool_none a⟩
   | bl b=>cases r';exact⟨Wt a b,SeqAt.RcAt.bool_bool a b,SeqAt.RcNeAt.bool_bool a b⟩
   | int b=>obtain⟨t,rfl⟩:=r';exact⟨Wx a b t,SeqAt.RcAt.bool_int a b t,SeqAt.RcNeAt.bool_int a b t⟩
   | tup h' rr=>cases r';obtain⟨af,_,pt,_⟩:=I.tuple h';exact⟨SeqAt.EqAt.bool_tuple a pt cY,SeqAt.RcAt.bool_tuple a pt cY,SeqAt.RcNeAt.bool_tuple a pt cY⟩
   | lst h' rr=>cases r';obtain⟨af,_,pt,_⟩:=I.list (zG _ _ _ _ h');exact⟨SeqAt.EqAt.bool_list a pt.isList cY,SeqAt.RcAt.bool_list a pt.isList cY,SeqAt.RcNeAt.bool_list a pt.isList cY⟩
  | int a =>
   obtain⟨t',rfl⟩:=r;cases h' with
   | aZ _ _=>simp[ck]at dO
   | aL=>cases r';exact⟨Wz a t',SeqAt.RcAt.int_none a t',SeqAt.RcNeAt.int_none a t'⟩
   | bl b=>cases r';exact⟨WA a t' b,SeqAt.RcAt.int_bool a t' b,SeqAt.RcNeAt.int_bool a t' b⟩
   | int b=>obtain⟨t,rfl⟩:=r';exact⟨V9 a t' b t,SeqAt.RcAt.int_int a t' b t,SeqAt.RcNeAt.int_int a t' b t⟩
   | tup h' rr=>cases r';obtain⟨af,_,pt,_⟩:=I.tuple h';exact⟨SeqAt.EqAt.int_tuple a t' pt cY,SeqAt.RcAt.int_tuple a t' pt cY,SeqAt.RcNeAt.int_tuple a t' pt cY⟩
   | lst h' rr=>cases r';obtain⟨af,_,pt,_⟩:=I.list (zG _ _ _ _ h');exact⟨SeqAt.EqAt.int_list a t' pt.isList cY,SeqAt.RcAt.int_list a t' pt.isList cY,SeqAt.RcNeAt.int_list a t' pt.isList cY⟩
  | @tup _ p xs ds h rs =>
   cases r;obtain⟨af,rv,pt,_⟩:=I.tuple h;have pt:s.heap.IsTuple p af.toArray:=pt;cases h' with
   | aZ _ _=>simp[ck]at dO
   | aL=>cases r';exact⟨SeqAt.EqAt.tuple_none pt cY,SeqAt.RcAt.tuple_none pt cY,SeqAt.RcNeAt.tuple_none pt cY⟩
   | bl b=>cases r';exact⟨SeqAt.EqAt.tuple_bool b pt cY,SeqAt.RcAt.tuple_bool b pt cY,SeqAt.RcNeAt.tuple_bool b pt cY⟩
   | int b=>obtain⟨t,rfl⟩:=r';exact⟨SeqAt.EqAt.tuple_int b t pt cY,SeqAt.RcAt.tuple_int b t pt cY,SeqAt.RcNeAt.tuple_int b t pt cY⟩
   | lst h' rr=>cases r';obtain⟨its',_,pl,_⟩:=I.list (zG _ _ _ _ h');exact⟨SeqAt.EqAt.tuple_list pt pl.isList cY,SeqAt.RcAt.tuple_list pt pl.isList cY,SeqAt.RcNeAt.tuple_list pt pl.isList cY⟩
   | @tup _ p' xs' ds' h' hJ =>
    cases r';obtain⟨m,hm,GQ⟩:=cU ho;obtain rfl:n=m:=by left
    obtain⟨m,hm,vM⟩:=cU dO;obtain rfl:n=m:=by left
    obtain⟨its',Ci,K8,_⟩:=I.tuple h';have K8:s.heap.IsTuple p' its'.toArray:=K8;have key:=sub rs hJ GQ vM rv Ci;have l1:ds.length=af.toArray.size:=by rw[List.size_toArray,<- rs.length,rv.length]
    have l2:ds'.length=its'.toArray.size:=by rw[List.size_toArray,<- hJ.length,Ci.length]
    have rc:SeqAt.RcAt A s (.ref p) (.ref p') (jh (.tup ds) (.tup ds')):=by
     have:=SeqAt.RcAt.tuples pt K8 cY key;rw[<- l1,<- l2,gF]at this;exact this
    refine⟨?_,rc,?_⟩
    ·by_cases hp:p=p'
     ·subst hp;rw[xg I hN zG (n+1) (Rep.tup h rs) (Rep.tup h' hJ) ho dO];exact V6 _
     ·exact SeqAt.EqAt.of_refs hp rc
    ·have:=SeqAt.RcNeAt.tuples pt K8 cY key;rw[<- l1,<- l2,gF]at this;exact this
  | @lst _ p xs f ds h rs =>
   cases r;obtain⟨af,rv,pl,_⟩:=I.list (hN _ _ _ _ h);have pl:=pl.isList;cases h' with
   | aZ _ _=>simp[ck]at dO
   | aL=>cases r';exact⟨SeqAt.EqAt.list_none pl cY,SeqAt.RcAt.list_none pl cY,SeqAt.RcNeAt.list_none pl cY⟩
   | bl b=>cases r';exact⟨SeqAt.EqAt.list_bool b pl cY,SeqAt.RcAt.list_bool b pl cY,SeqAt.RcNeAt.list_bool b pl cY⟩
   | int b=>obtain⟨t,rfl⟩:=r';exact⟨SeqAt.EqAt.list_int b t pl cY,SeqAt.RcAt.list_int b t pl cY,SeqAt.RcNeAt.list_int b t pl cY⟩
   | tup h' rr=>cases r';obtain⟨its',_,pt,_⟩:=I.tuple h';exact⟨SeqAt.EqAt.list_tuple pl pt cY,SeqAt.RcAt.list_tuple pl pt cY,SeqAt.RcNeAt.list_tuple pl pt cY⟩
   | @lst _ p' xs' f' ds' h' hJ =>
    cases r';obtain⟨m,hm,GQ⟩:=cV ho;obtain rfl:n=m:=by left
    obtain⟨m,hm,vM⟩:=cV dO;obtain rfl:n=m:=by left
    obtain⟨its',Ci,Gx,_⟩:=I.list (zG _ _ _ _ h');have Gx:=Gx.isList;have key:=sub rs hJ GQ vM rv Ci;have l1:ds.length=af.toArray.size:=by rw[List.size_toArray,<- rs.length,rv.length]
    have l2:ds'.length=its'.toArray.size:=by rw[List.size_toArray,<- hJ.length,Ci.length]
    have two:SeqAt.RcAt A s (.ref p) (.ref p') (jh (.lst f ds) (.lst f' ds'))/\SeqAt.RcNeAt A s (.ref p) (.ref p') (!jh (.lst f ds) (.lst f' ds')):=by
     show SeqAt.RcAt A s (.ref p) (.ref p') (cI ds ds')/\SeqAt.RcNeAt A s (.ref p) (.ref p') (!cI ds ds');rw[<- gF];by_cases hl:ds.length=ds'.length
     ·have e1:(ds.length==ds'.length)=true:=by simp[hl]
      rw[e1,Bool.and_true,<- hl,Nat.min_self];have hz:af.toArray.size=its'.toArray.size:=by rw[<- l1,<- l2,hl]
      refine⟨?_,?_⟩
      ·have:=SeqAt.RcAt.lists pl Gx hz cY key;rw[<- l1]at this;exact this
      ·have:=SeqAt.RcNeAt.lists pl Gx hz cY key;rw[<- l1]at this;exact this
     ·have e1:(ds.length==ds'.length)=false:=by simp[hl]
      rw[e1,Bool.and_false];have hz:(af.toArray.size != its'.toArray.size)=true:=by rw[<- l1,<- l2];simp[hl]
      exact⟨SeqAt.RcAt.lists_lengths pl Gx hz cY,SeqAt.RcNeAt.lists_lengths pl Gx hz cY⟩
    refine⟨?_,two.1,two.2⟩;by_cases hp:p=p'
    ·subst hp;rw[xg I hN zG (n+1) (Rep.lst h rs) (Rep.lst h' hJ) ho dO];exact V6 _
    ·exact SeqAt.EqAt.of_refs hp two.1
  | aZ _ _=>simp[ck]at ho
end
structure Px where
 pe:Nat->Scope->List Str->Expr->Option (List Expr)
 pi:Nat->Scope->List Str->Expr->Option (List Expr)
 pm:Nat->Scope->List Str->Stmt->Option (Expr×List Expr)
structure Sx where
 sc:Scope
 N:List Str
 fn:Nat->Option Str
 bl:List Str
 cs:List (Str×GK)
 px:Px
noncomputable def IB:B3->Operator
 | .add=>.Add | .sub=>.Sub | .mul=>.Mult | .fdiv=>.FloorDiv | .mod=>.Mod | .pow=>.Pow
noncomputable def M6:wJ->CmpOp
 | .eq=>.Eq | .ne=>.NotEq | .lt=>.Lt | .le=>.LtE | .gt=>.Gt | .ge=>.GtE | .EK=>.Is | .nV=>.IsNot
noncomputable def tyName:Ty->String
 | .int=>"int" | .bool=>"bool" | .list=>"list" | .tuple=>"tuple"
noncomputable def oK:Bf->String
 | .len=>"len" | .abs=>"abs" | .min2=>"min" | .list1=>"list" | .tuple1=>"tuple" | .pf=>"sum" | .all1=>"all"
noncomputable def C4(sc:Scope)(x:Str):Bool:=decide (sc.names.lookup x=some .local)||decide (sc.names.lookup x=some .cell)||decide (sc.names.lookup x=some .free)
noncomputable def ml(sc:Scope)(x:Str):Bool:=decide (sc.names.lookup x=some .globalImplicit)
noncomputable def jP(x:Str):Bool:=!(x==("__debug__" : Str))&&!(x==("__classdict__" : Str))&&decide (x≠("__name__" : Str))
noncomputable def mU:Expr->Bool
 | .Set _ _ _=>false
 | _=>true
noncomputable def pJ(sc outer:Scope):Scope :=
 { sc with names:=sc.names.map λ(n,k)=>if (k==.free&&outer.kind==.function&&outer.names.lookup n==some .cell)then(n,.cell)else(n,k) }
noncomputable def aW:Expr->List Str
 | .Name x _=>[x]
 | .Tuple es _ _=>es.filterMap λe=>match e with | .Name x _=>some x | _=>none
 | _=>[]
noncomputable def dP(S:Sx)(caps:List Nat):List Str:=caps.filterMap λi=>S.N[i]?
def Sx.inner(S:Sx)(target:Expr)(caps:List Nat)(sc:Scope):Sx:=⟨pJ sc S.sc,aW target++dP S caps,S.fn,S.bl,S.cs,S.px⟩
noncomputable def eO:Expr->Bool
 | .Tuple _ _ _=>true
 | _=>false
noncomputable def isNm:Expr->Bool
 | .Name _ _=>true
 | _=>false
noncomputable def MW:Expr->Bool
 | .Call ..=>true
 | .BinOp ..=>true
 | .Subscript ..=>true
 | .Compare ..=>true
 | .Dict ..=>true
 | _=>false
noncomputable def La:Expr->Bool
 | .Call ..=>true
 | .Name ..=>true
 | _=>false
theorem ah{a b:Bool}(h:(a&&b)=true):a=true/\b=true:=by
 cases a<;>cases b<;>first | exact⟨rfl,rfl⟩ | cases h
noncomputable def aD{α:Type}(o:Option α)(f:α->Bool):Bool:=match o with
 | some a=>f a
 | none=>false
theorem aE{α:Type}{o:Option α}{f:α->Bool}(h:aD o f=true):∃ a,o=some a/\f a=true:=by
 cases o with
 | some a=>exact⟨a,rfl,h⟩
 | none=>cases h
noncomputable def vC:Expr->Option Const
 | .Constant c _ _=>some c
 | _=>none
theorem wV{e:Expr}{c:Const}(h:vC e=some c):∃ j p,e=.Constant c j p:=by
 cases e<;>first | (cases h;done) | (cases h;exact⟨_,_,rfl⟩)
noncomputable def yk:Const->Bool
 | .none=>true
 | _=>false
theorem vz{c:Const}(h:yk c=true):c=.none:=by cases c<;>first | rfl | cases h
noncomputable def CC(b:Bool):Const->Bool
 | .bool c=>decide (b=c)
 | _=>false
theorem yn{b:Bool}{c:Const}(h:CC b c=true):c=.bool b:=by cases c<;>first | (cases h;done) | rw[of_decide_eq_true h]
noncomputable def ym(b:Int):Const->Bool
 | .int c=>decide (b=c)
 | _=>false
theorem vD{b:Int}{c:Const}(h:ym b c=true):c=.int b:=by cases c<;>first | (cases h;done) | rw[of_decide_eq_true h]
noncomputable def EI(b:Str):Const->Bool
 | _=>false
theorem GJ{b:Str}{c:Const}(h:EI b c=true):c=.str b:=by cases c<;>first | (cases h;done) | rw[of_decide_eq_true h]
noncomputable def zQ:Expr->Option Str
 | .Name x _=>some x
 | _=>none
theorem iZ{e:Expr}{x:Str}(h:zQ e=some x):∃ p,e=.Name x p:=by
 cases e<;>first | (cases h;done) | (cases h;exact⟨_,rfl⟩)
noncomputable def Hj:Expr->Option (Expr×Operator×Expr)
 | .BinOp l o r _=>some (l,o,r)
 | _=>none
theorem zV{e l r:Expr}{o:Operator}(h:Hj e=some (l,o,r)):∃ p,e=.BinOp l o r p:=by
 cases e<;>first | (cases h;done) | (cases h;exact⟨_,rfl⟩)
noncomputable def Ma:Expr->Option (UnaryOp×Expr)
 | .UnaryOp o e _=>some (o,e)
 | _=>none
theorem wR{e x:Expr}{o:UnaryOp}(h:Ma e=some (o,x)):∃ p,e=.UnaryOp o x p:=by
 cases e<;>first | (cases h;done) | (cases h;exact⟨_,rfl⟩)
noncomputable def vBool:Expr->Option (BoolOp×List Expr)
 | .BoolOp o vs _=>some (o,vs)
 | _=>none
theorem oY{e:Expr}{o:BoolOp}{vs:List Expr}(h:vBool e=some (o,vs)):∃ p,e=.BoolOp o vs p:=by
 cases e<;>first | (cases h;done) | (cases h;exact⟨_,rfl⟩)
noncomputable def Pp:Expr->Option (Expr×Expr×Expr)
 | .IfExp t x y _=>some (t,x,y)
 | _=>none
theorem C6{e t x y:Expr}(h:Pp e=some (t,x,y)):∃ p,e=.IfExp t x y p:=by
 cases e<;>first | (cases h;done) | (cases h;exact⟨_,rfl⟩)
noncomputable def one{α:Type}:List α->Option α
 | []=>none
 | x::xs=>match xs with
  | []=>some x
  | _::_=>none
theorem b6{α:Type}{l:List α}{x:α}(h:one l=some x):l=[x]:=by
 cases l with
 | nil=>cases h
 | cons y ys=>cases ys with
  | nil=>cases h;rfl
  | cons _ _=>cases h
def two{α:Type}:List α->Option (α×α)
 | []=>none
 | x::xs=>(one xs).map λy=>(x,y)
theorem i3{α:Type}{l:List α}{x y:α}(h:two l=some (x,y)):l=[x,y]:=by
 cases l with
 | nil=>cases h
 | cons z zs=>cases zs with
  | nil=>cases h
  | cons w ws=>cases ws with
   | nil=>cases h;rfl
   | cons _ _=>cases h
noncomputable def Mc{α:Type}:List α->Option (α×List α)
 | []=>none
 | x::xs=>some (x,xs)
theorem wW{α:Type}{l xs:List α}{x:α}(h:Mc l=some (x,xs)):l=x::xs:=by
 cases l with
 | nil=>cases h
 | cons y ys=>cases h;rfl
noncomputable def Hi:Expr->Option (Expr×List CmpOp×List Expr)
 | .Compare l os rs _=>some (l,os,rs)
 | _=>none
theorem zU{e l:Expr}{os:List CmpOp}{rs:List Expr}(h:Hi e=some (l,os,rs)):∃ p,e=.Compare l os rs p:=by
 cases e<;>first | (cases h;done) | (cases h;exact⟨_,rfl⟩)
noncomputable def qX:Expr->Option (Expr×List Expr×List Keyword)
 | .Call f as ks _=>some (f,as,ks)
 | _=>none
variable {args as:List Expr}
theorem vd{e f:Expr}{ks:List Keyword}(h:qX e=some (f,as,ks)):∃ p,e=.Call f as ks p:=by
 cases e<;>first | (cases h;done) | (cases h;exact⟨_,rfl⟩)
def gp(e:Expr):Option (Str×List Expr):=match qX e with
 | some (f,as,ks)=>match ks with
  | []=>match zQ f with
   | some x=>some (x,as)
   | none=>none
  | _::_=>none
 | none=>none
theorem dX{e:Expr}{x:Str}(h:gp e=some (x,as)):∃ p pos,e=.Call (.Name x p) as [] pos:=by
 unfold gp at h;cases hv:qX e with
 | none=>rw[hv]at h;cases h
 | some z =>
  obtain⟨f,L0,ks⟩:=z;rw[hv]at h;obtain⟨pos,rfl⟩:=vd hv;cases ks with
  | cons _ _=>cases h
  | nil =>
   cases hn:zQ f with
   | none=>replace h:(match zQ f with | some x=>some (x,L0) | none=>none)=some (x,as):=h;rw[hn]at h;cases h
   | some y =>
    replace h:(match zQ f with | some x=>some (x,L0) | none=>none)=some (x,as):=h;rw[hn]at h;obtain⟨p,rfl⟩:=iZ hn;cases h;exact⟨p,pos,rfl⟩
noncomputable def jN:Expr->Option (Expr×Expr)
 | .Subscript a b _=>some (a,b)
 | _=>none
theorem ib{e a b:Expr}(h:jN e=some (a,b)):∃ p,e=.Subscript a b p:=by
 cases e<;>first | (cases h;done) | (cases h;exact⟨_,rfl⟩)
noncomputable def vc:Expr->Option (List Expr)
 | .Tuple es _ _=>some es
 | _=>none
theorem ia{e:Expr}{es:List Expr}(h:vc e=some es):∃ n p,e=.Tuple es n p:=by
 cases e<;>first | (cases h;done) | (cases h;exact⟨_,_,rfl⟩)
noncomputable def He:Expr->Option (List Expr)
 | .List es _=>some es
 | _=>none
theorem zR{e:Expr}{es:List Expr}(h:He e=some es):∃ p,e=.List es p:=by
 cases e<;>first | (cases h;done) | (cases h;exact⟨_,rfl⟩)
noncomputable def B6:Expr->Option (Expr×List Comprehension×Scope)
 | .ListComp e gs sc _=>some (e,gs,sc)
 | _=>none
theorem wU{e x:Expr}{gs:List Comprehension}{sc:Scope}(h:B6 e=some (x,gs,sc)):∃ p,e=.ListComp x gs sc p:=by
 cases e<;>first | (cases h;done) | (cases h;exact⟨_,rfl⟩)
theorem iz{a:Bool}(h:(!a)=true):a=false:=by cases a<;>first | rfl | cases h
def oG(S:Sx)(n:Nat)(t:Tg)(caps:List Nat)(target:Expr)(sc:Scope):Bool :=
 decide (sc.kind=.function)&&sc.names.all (λ(x,k)=>decide (k≠.cell)&&(decide (k≠.local)||decide (sc.names.lookup x=some .local))&&(decide (k≠.free)||decide (S.sc.names.lookup x=some .cell)||decide (S.sc.names.lookup x=some .free))) &&
 decide (n=(aW target).length)&&(aW target).all (λx=>decide (sc.names.lookup x=some .local))&&decide (aW target++dP S caps).Nodup &&
 caps.all (λi=>match S.N[i]? with | some x=>decide (sc.names.lookup x=some .free) | none=>false) &&
 (match t with
  | .nm i=>decide (i=0)&&isNm target
  | .tp is=>aD (vc target) λes=>decide (is=List.range es.length)&&es.all isNm)
mutual
noncomputable def bc(S:Sx):CE->Expr->Bool
 | .cm p es,e0=>MW e0&&aD (S.px.pe p S.sc S.bl e0) λxs=>aV S es xs
 | .aL,e0=>aD (vC e0) λc=>yk c
 | .bl b,e0=>aD (vC e0) λc=>CC b c
 | .int i,e0=>aD (vC e0) λc=>ym i c
 | .v i,e0=>aD (zQ e0) λx=>decide (S.N[i]?=some x)&&C4 S.sc x&&jP x
 | .glo x i,e0=>aD (zQ e0) λy=>decide (y=x)&&ml S.sc x&&decide ((x,GK.i i)∈S.cs)&&!(x==("__debug__" : Str))
 | .glt x zs,e0=>aD (zQ e0) λy=>decide (y=x)&&ml S.sc x&&decide ((x,GK.t zs)∈S.cs)&&!(x==("__debug__" : Str))
 | .bin op a b,e0=>aD (Hj e0) λz=>decide (z.2.1=IB op)&&bc S a z.1&&bc S b z.2.2
 | .neg a,e0=>aD (Ma e0) λz=>decide (z.1=.USub)&&bc S a z.2
 | .not a,e0=>aD (Ma e0) λz=>decide (z.1=.Not)&&bc S a z.2
 | .and es,e0=>aD (vBool e0) λz=>decide (z.1=.And)&&aV S es z.2
 | .or es,e0=>aD (vBool e0) λz=>decide (z.1=.Or)&&aV S es z.2
 | .ite c a b,e0=>aD (Pp e0) λz=>bc S c z.1&&bc S a z.2.1&&bc S b z.2.2
 | .cmp op a b,e0=>aD (Hi e0) λz=>decide (z.2.1=[M6 op])&&bc S a z.1&&aD (one z.2.2) λr=>bc S b r&&mU r
 | .ud a t,e0=>aD (gp e0) λz=>decide (z.1=("isinstance" : Str))&&ml S.sc z.1&&decide (z.1∈S.bl)&&aD (two z.2) λy=>bc S a y.1&&aD (zQ y.2) λx=>decide (x=(tyName t:Str))&&ml S.sc x&&decide (x∈S.bl)
 | .call f es,e0=>aD (gp e0) λz=>decide (S.fn f=some z.1)&&ml S.sc z.1&&jP z.1&&aD (Mc z.2) λy=>aV S es (y.1::y.2)
 | .bf f es,e0=>aD (gp e0) λz=>decide (z.1=(oK f:Str))&&ml S.sc z.1&&decide (z.1∈S.bl)&&aD (Mc z.2) λy=>aV S es (y.1::y.2)
 | .ix a b,e0=>aD (jN e0) λz=>bc S a z.1&&bc S b z.2
 | .tup es,e0=>aD (vc e0) λxs=>aV S es xs&&decide (es.length<=1000)
 | .lst es,e0=>aD (He e0) λxs=>aV S es xs&&decide (es.length<=1000)
 | .comp n t caps ik es aJ elt,e0=>aD (B6 e0) λz=>aD (one z.2.1) λg=>decide (g.is_async=0)&&oG S n t caps g.target z.2.2&&mU g.iter&&decide (aJ.length<=1)&&aV (S.inner g.target caps z.2.2) aJ g.ifs&&bc (S.inner g.target caps z.2.2) elt z.1 &&
     (match ik with
      | .k8=>aD (gp g.iter) λw=>decide (w.1=("range" : Str))&&ml S.sc w.1&&decide (w.1∈S.bl)&&aD (one w.2) λy=>aV S es [y]
      | .seq=>aV S es [g.iter]
      | .cm p=>La g.iter&&(decide (1100<=p)||eO g.target)&&aD (S.px.pi p S.sc S.bl g.iter) λxs=>aV S es xs)
noncomputable def aV(S:Sx):List CE->List Expr->Bool
 | [],es=>match es with
  | []=>true
  | _::_=>false
 | c::cs,es=>match es with
  | []=>false
  | e::es=>bc S c e&&aV S cs es
end
def Ag(K:PySem.W.Frag)(n:Nat)(m:List D->O D):Sp:=λvs H Q _=>∃(F:Addr->Prop) (ds:List D) (r:D),vs.length=n/\ae (ao K H) (nd K F (λ_=>False) (λ_=>none) H) [] 0 vs ds/\m ds=ok r /\
 ∀ v H',ai H H'->(∃ τt:Addr->Option az,(∀ p q,τt p=some q->H p=none)/\Rep (ao K H') (nd K (λp=>F p\/H p=none) (λ_=>False) τt H') [] v r)->Q v H'
structure Gn(X:Cx)(k:Nat)(x:Str)(m:List D->O D):Prop where
 ex:∃(f:Addr) (fd:FuncData) (ps:List Str),gm X.prog X.w X.K X.mg X.base wI k f fd ps (Ag X.K ps.length m)/\X.mg x=some (.ref f)/\PySem.W.keepIn X.K (.ref f)=true/\Binds X.K fd ps []/\∀ ds r,m ds=ok r->ds.length=ps.length
noncomputable def kinds:List String:=["NoneType","bool","int","str","list","tuple","dict"]
def Jp:Ty->String->Bool
 | .int,s=>s == "int" || s == "bool"
 | t,s=>s==tyName t
theorem ai.upd{H:Hp}{p:Addr}{o:HO}(h:H p=none):ai H (upd H p o):=λb u e=>by
 rw[aq (by rintro rfl;rw[h]at e;cases e)];exact e
theorem pT{i j:Int}(h:cR i j=true):IntMulOk i j:=by
 unfold cR at h;simp only[Bool.or_eq_true,Bool.and_eq_true,decide_eq_true_eq]at h;rcases h with (h | h) | ⟨h1,h2⟩
 ·exact .of_left (intBits_le h)
 ·exact .of_right (intBits_le h)
 ·have b1:Builtin.Int.intBits i<=9000:=intBits_le h1;have b2:Builtin.Int.intBits j<=9000:=intBits_le h2;unfold IntMulOk;have hb:Builtin.Int.intTooBig ((Builtin.Int.intBits i:Int)+(Builtin.Int.intBits j:Int))=false:=by
   unfold Builtin.Int.intTooBig;have:(bitsLine:Int)=134217728:=by decide
   exact VL (by left)
  rw[hb];simp
section
variable {K:PySem.W.Frag}{R:Addr->Prop}{τ τt:Addr->Option az}{fv:List Nat}{H H':Hp}
theorem nd.yK(k k':az)(p:Addr)(xs:Nd)(f:Fl)(h:nd K R A (λ_=>none) H k p xs f):nd K R A (λ_=>none) H k' p xs f:=by
 cases f with
 | ow=>exact nomatch h.2
 | fz=>exact h
 | al=>exact h
 | sc=>exact h
theorem II(Si:SI X F R τ ρ σ H)(fr:∀ p q,τt p=some q->H p=none)(k k':az)(p:Addr)(xs:Nd)(f:Fl)(h:nd K R (gM (gP X F) τ fv) τt H' k p xs f):
  nd K R (gM (gP X F) τ fv) (λ_=>none) H' k' p xs (bu f):=by
 cases f with
 | ow=>exact⟨h.1,.inr (Si.same.free (fr p _ h.2)),λc i e=>absurd (fr p _ h.2) (Si.th p _ e)⟩
 | fz=>exact h
 | al=>exact h
 | sc=>exact h
theorem ae.ny{k:az}{n:Nat}(h:ae (ao K H') (nd K R (gM (gP X F) τ fv) τt H') k n xs ds)(Si:SI X F R τ ρ σ H)(fr:∀ p q,τt p=some q->H p=none){n':Nat}:
  ae (ao K H') (nd K R (gM (gP X F) τ fv) (λ_=>none) H') k' n' xs (ag bu ds):=ae.jd (λ_ _ h=>h) (II Si fr) h _ _
theorem Rep.ny{k:az}{v:V}{d:D}(h:Rep (ao K H') (nd K R (gM (gP X F) τ fv) τt H') k v d)(Si:SI X F R τ ρ σ H)(fr:∀ p q,τt p=some q->H p=none):
  Rep (ao K H') (nd K R (gM (gP X F) τ fv) (λ_=>none) H') k' v (aw bu d):=Rep.jd (λ_ _ h=>h) (II Si fr) h _
theorem bj.AU{p:Addr}(hp:H p=none)(e:ai H H')(hl:H' p=some (.lst xs))(r:ae (ao K H') (nd K R (gM G τ fv) (λ_=>none) H') [] 0 xs ds):bj K G R τ fv H H' (.ref p) (.lst .ow ds):=by
 refine⟨λq=>if q=p then some []else none,λq k hq=>?_,.lst ⟨hl,by simp⟩ (r.imp (λ_ _ h=>h) λc q xs f h=>?_)⟩
 ·by_cases rW:q=p
  ·subst rW;exact hp
  ·simp[rW]at hq
 ·cases f with
  | ow=>exact nomatch h.2
  | fz=>exact h
  | al=>exact h
  | sc=>exact h
end
theorem A4(K:PySem.W.Frag):∀ t:Ty,∀ s∈kinds,PySem.W.kitOne K (.type s) (.type (tyName t))=some (Jp t s):=by
 intro t s hs;simp only[kinds,List.mem_cons,List.not_mem_nil,or_false]at hs;cases t<;>rcases hs with rfl | rfl | rfl | rfl | rfl | rfl | rfl<;>rfl
structure PX(X:Cx)(sc:Scope)(bl:List Str)(k:Nat):Prop where
 sc:X.env.scope=sc
 calm:X.calm=true
 room:eD k X.A
 bl:∀ x∈bl,X.mg x=none
theorem PX.gl{sc:Scope}{bl:List Str}{k:Nat}(L:PX X sc bl k){x:Str}(h:ml sc x=true):Gl X x:=by
 unfold Gl;show X.env.scope.names.lookup x=some .globalImplicit;rw[L.sc];exact U7 h
def my(X:Cx)(F:Addr->Prop)(Φ:ay):List CE->List Expr->Prop
 | [],[]=>True
 | c::cs,a::as=>PE X a (tD X F Φ c)/\(∀ es,starEach (a::es) X.env=(false,eval a X.env)::starEach es X.env)/\kE a/\my X F Φ cs as
 | _,_=>False
structure nz(K:PySem.W.Frag)(H2:Hp)(vs:List V)(xs:List D)(H':Hp):Prop where
 n0:∃ R0:Addr->Prop,ae (ao K H2) (nd K R0 (λ_=>False) (λ_=>none) H2) [] 0 vs (ag aC xs)/\∀ p o,R0 p->H2 p=some o->H' p=some o
 tp:∀ a ys,ao K H2 a ys->ao K H' a ys
structure G5(K:PySem.W.Frag)(J:It)(H2:Hp)(vs:List V)(xs items:List D):Prop where
 go:∀ i H' R',nz K H2 vs xs H'->ae (ao K H') (nd K R' (λ_=>False) (λ_=>none) H') [] 0 vs (ag aC xs)->i<items.length->J.go i H'
 qR:∀ i H' R' x j3,nz K H2 vs xs H'->ae (ao K H') (nd K R' (λ_=>False) (λ_=>none) H') [] 0 vs (ag aC xs)->i<items.length->J.qR i H' x j3->ai H' j3/\∃ d,items[i]?=some d/\Rep (ao K j3) (nd K R' (λ_=>False) (λ_=>none) j3) [] x d
 stop:∀ i H' R',nz K H2 vs xs H'->ae (ao K H') (nd K R' (λ_=>False) (λ_=>none) H') [] 0 vs (ag aC xs)->items.length<=i->J.stop i H'
structure sU(px:Px)(Φ:ay):Prop where
 e:∀(X:Cx) (sc:Scope) (bl:List Str) (k:Nat),PX X sc bl k->∀(p:Nat) (e:Expr) (args:List Expr),px.pe p sc bl e=some args->∀(F:Addr->Prop) (cs:List CE),my X F Φ cs args->PE X e (tD X F Φ (.cm p cs))/\PT X e (ft X F Φ (.cm p cs))
 i:∀(X:Cx) (sc:Scope) (bl:List Str) (k:Nat),PX X sc bl k->∀(p:Nat) (e:Expr) (args:List Expr),px.pi p sc bl e=some args->∀(F:Addr->Prop) (cs:List CE) (tg:Expr),(decide (1100<=p)||eO tg)=true->my X F Φ cs args ->
  ∀(pins:List (Addr×Obj)) (s:Shared) (σ:St) (H:Hp) (R:Addr->Prop) (τ:Addr->Option az) (ρ:au) (xs:List D) (d:D) (items:List D),Inv X pins σ H s->SI X F R τ ρ σ H->bM Φ cs ρ=ok xs->Φ p xs=ok d->mi d=ok items->∀ Rr:It->Hp->Prop,
   (∀ J H2 vs,ai H H2->bg X.K (gP X F) R τ (b7 cs) H H2 vs xs->G5 X.K J H2 vs xs items->Rr J H2) ->
   wpAny (model X.prog X.w) X.A (eval e X.env) (λv s1=>wpAny (model X.prog X.w) X.A (pyIter v) (wG X pins σ tg Rr) X.xe s1) X.xe s
def CZ(K:PySem.W.Frag):GK->Value->Prop
 | .i i,u=>RelV (.int i) u
 | .t zs,u=>∃(a:Addr) (o:Obj) (af:Array Value) (n:Nat),u=.ref a/\K.lookup a=some o/\o.cls=.type "tuple" /\ o.data=.seq af n/\af.size<=sizeLine/\Vals (zs.map V.int) af.toList
structure Lk(X:Cx)(S:Sx)(k:Nat)(Φ:ay):Prop where
 sc:X.env.scope=S.sc
 N:X.N=S.N
 nd:X.N.Nodup
 calm:X.calm=true
 room:eD k X.A
 bl:∀ x∈S.bl,X.mg x=none
 fn:∀ f x,S.fn f=some x->Gn X k x (Φ f)
 cs:∀ x i,(x,i)∈S.cs->∃ u,X.mg x=some u/\CZ X.K i u
 pr:sU S.px Φ
variable {S:Sx}{Φ:ay}
theorem Lk.pX{k:Nat}(L:Lk X S k Φ):PX X S.sc S.bl k:=⟨L.sc,L.calm,L.room,L.bl⟩
variable {Q:VK}{p' p1 p2 pos:Pos}
section
variable {X:Cx}{S:Sx}{k:Nat}{F:Addr->Prop}{Φ:ay}
theorem Lk.gl(L:Lk X S k Φ){x:Str}(h:ml S.sc x=true):Gl X x:=by
 unfold Gl;show X.env.scope.names.lookup x=some .globalImplicit;rw[L.sc];exact U7 h
theorem Lk.KS(L:Lk X S k Φ){x:Str}(h:C4 S.sc x=true):Gd X.env.scope x:=by
 unfold Gd;rw[L.sc];unfold C4 at h;rw[Bool.or_eq_true,Bool.or_eq_true]at h;rcases h with (h | h) | h
 ·exact .inl (U7 h)
 ·exact .inr (.inl (U7 h))
 ·exact .inr (.inr (U7 h))
theorem tD.intro{c:CE}{d:D}(Si:SI X F R τ ρ σ H)(e:aH Φ c ρ=ok d)(h:∀ v H',ai H H'->bj X.K (gP X F) R τ (fw c) H H' v d->Q v H'):tD X F Φ c σ H Q:=⟨R,τ,ρ,d,Si,e,h⟩
theorem MB(L:Lk X S k Φ){i:Nat}{x:Str}(h:bc S (.v i) (.Name x pos)=true):PE X (.Name x pos) (tD X F Φ (.v i)):=by
 replace h:=ah h;replace h:=And.intro (ah h.1) h.2;obtain⟨⟨h1,h2⟩,h3⟩:=h;unfold jP at h3;simp only[Bool.and_eq_true,Bool.not_eq_true']at h3;refine PE.imp (rG (i:=i) (by rw[L.N];exact U7 h1) (L.KS h2) h3.1.1 h3.1.2) λσ H Q hq=>?_;obtain⟨R,τ,ρ,d,Si,ev,hq⟩:=hq;obtain⟨d',hd,rfl⟩:=xc ev
 ·obtain⟨v,hv,hr⟩:=Si.rep i d' hd;refine⟨v,hv,hq v H (ai.refl H) ⟨λ_=>none,λ_ _ h=>by simp at h,?_⟩⟩;refine Rep.map (q:=[i]) (q':=[]) (λ_ _ h=>h) (λc p xs f h=>?_) hr [] rfl;cases f with
  | ow =>
   refine⟨h.1,.inr (Si.t0 p _ h.2),λc' j e=>?_⟩;rw[h.2]at e;have e':=Vk e;have:=VY List.getLast? e';simp at this;show _∈[i];simp[this]
  | fz=>exact h
  | al=>exact h.2.elim
  | sc=>exact h
theorem ko{op:B3}{x y d:D}(JJ:op≠.add/\op≠.mul)(h:br op x y=ok d):∃ i j,x=.int i/\y=.int j:=by
 cases x with
 | int i=>cases y with
  | int j=>exact⟨i,j,rfl,rfl⟩
  | _=>cases op<;>first | exact nk h | (simp at JJ;done)
 | _=>cases op<;>first | exact nk h | (simp at JJ;done)
theorem DD(L:Lk X S k Φ){op:B3}{a b:CE}{l r:Expr}(ha:PE X l (tD X F Φ a))(hb:PE X r (tD X F Φ b)):PE X (.BinOp l (IB op) r pos) (tD X F Φ (.bin op a b)):=by
 have two:∀ {σ:St} {H:Hp} {Q:VK} {r2:R2},(∃ R τ ρ d,SI X F R τ ρ σ H/\aH Φ (.bin op a b) ρ=ok d/\(∀ v H',ai H H'->bj X.K (gP X F) R τ (fw (.bin op a b)) H H' v d->Q v H') /\
   ∀ x y v u H',br op x y=ok d->ai H H'->bj X.K (gP X F) R τ (fw (.bin op a b)) H H' v x->bj X.K (gP X F) R τ (fw (.bin op a b)) H H' u y->r2 v u H' Q)->Dd r2 (tD X F Φ a) (tD X F Φ b) σ H Q:=by
  rintro σ H Q r2 ⟨R,τ,ρ,d,Si,ev,hq,hr⟩;obtain⟨x,ex,ev⟩:=ab ev;obtain⟨y,ey,ev⟩:=ab ev;refine tD.intro Si ex λv H1 e1 r1=>tD.intro (Si.go e1) ey λu H2 e2 r2=>?_;exact hr x y v u H2 ev (e1.trans e2) ((r1.go e2).mono λi hi=>Vw _ hi) ((r2.old e1).mono λi hi=>Vg _ hi)
 have yp:∀ {C:Int->Int->Prop} {g:Int->Int->Int},iS X (binaryOp (IB op)) (rI C λi j=>.int (g i j))->(∀ x y d,br op x y=ok d->∃ i j,x=.int i/\y=.int j/\C i j/\d=.int (g i j)) ->
   PE X (.BinOp l (IB op) r pos) (tD X F Φ (.bin op a b)):=by
  intro C g ho hd;refine PE.imp (Cr ho ha hb) λσ H Q hq=>?_;obtain⟨R,τ,ρ,d,Si,ev,hq⟩:=hq;refine two ⟨R,τ,ρ,d,Si,ev,hq,λx y v u H' eb e rv ru=>?_⟩;obtain⟨i,j,rfl,rfl,c,rfl⟩:=hd x y d eb;exact⟨i,j,rv.isInt,ru.isInt,c,hq _ H' e .int⟩
 cases op with
 | sub =>
  refine yp (C:=λ_ _=>True) (g:=λi j=>i - j) (GA λ_ _ _ _ _ _ _ _ q=>sub_int q) λx y d h=>?_;obtain⟨i,j,rfl,rfl⟩:=ko (by simp) h;cases h;exact⟨_,_,rfl,rfl,trivial,rfl⟩
 | mod =>
  refine yp (C:=λ_ j=>j≠0) (g:=λi j=>i.fmod j) AM λx y d h=>?_;obtain⟨i,j,rfl,rfl⟩:=ko (by simp) h;obtain⟨h1,h⟩:=uf h;subst h;exact⟨_,_,rfl,rfl,h1,rfl⟩
 | fdiv =>
  refine yp (C:=λ_ j=>nc j=true) (g:=λi j=>i.fdiv j) (GA λi j _ _ _ _ _ hc q=>?_) λx y d h=>?_
  ·unfold nc at hc;rw[Bool.and_eq_true]at hc;have h1:j≠0:=U7 hc.1;have h2:j.natAbs<big:=U7 hc.2;exact floordiv_int h1 q (.inl (PyProof.noPylong_of_log2 ((Nat.log2_lt (by left)).mpr h2)))
  ·obtain⟨i,j,rfl,rfl⟩:=ko (by simp) h;obtain⟨h1,h⟩:=uf h;subst h;exact⟨_,_,rfl,rfl,h1,rfl⟩
 | pow =>
  refine yp (C:=λi j=>tL i j=true) (g:=λi j=>i ^ j.toNat) (GA λi j _ _ _ _ _ hc q=>?_) λx y d h=>?_
  ·unfold tL at hc;simp only[Bool.and_eq_true,decide_eq_true_eq]at hc;exact pow_int_small hc.1.1 hc.1.2 hc.2 q
  ·obtain⟨i,j,rfl,rfl⟩:=ko (by simp) h;obtain⟨h1,h⟩:=uf h;subst h;exact⟨_,_,rfl,rfl,h1,rfl⟩
 | mul =>
  have hi:iS X (binaryOp .Mult) (rI (λi j=>cR i j=true) λi j=>.int (i*j)):=GA λi j _ _ _ _ _ hc q=>mul_int q (pT hc);exact yp (C:=λi j=>cR i j=true) (g:=λi j=>i*j) hi λx y d h=>by
   obtain⟨i,j,rfl,rfl⟩:∃ i j,x=.int i/\y=.int j:=by cases x<;>first | (cases h;done) | (cases y<;>first | exact⟨_,_,rfl,rfl⟩ | (cases h;done))
   obtain⟨h1,h⟩:=uf h;subst h;exact⟨_,_,rfl,rfl,h1,rfl⟩
 | add =>
  refine PE.imp (Cr Ec ha hb) λσ H Q hq=>?_;obtain⟨R,τ,ρ,d,Si,ev,hq⟩:=hq;refine two ⟨R,τ,ρ,d,Si,ev,hq,λx y v u H' eb e rv ru=>?_⟩;obtain⟨i,j,rfl,rfl⟩:∃ i j,x=.int i/\y=.int j:=by cases x<;>first | (cases eb;done) | (cases y<;>first | exact⟨_,_,rfl,rfl⟩ | (cases eb;done))
  cases eb;exact⟨i,j,rv.isInt,ru.isInt,hq _ H' e .int⟩
end
section
variable {T T':lY}{N N':gO}{P:Fl->Bool}
theorem Rep.without(hT:∀ p xs,T p xs->T' p xs)(hN:∀ k k' p xs f,P f=false->N k p xs f->N' k' p xs f){k:az}{v:V}{d:D}(h:Rep T N k v d)(e:ak P d=false)(k':az):Rep T' N' k' v d:=by
 have:=Rep.gen (g:=id) (P:=P) (N':=N') (C:=λ_ _=>True) (I:=λ_ _=>True) hT trivial (λ_ _ e=>e) (λ_ _ _ _ e _=>e) (λk k' p xs f _ e h=>hN k k' p xs f e h) h (k':=k') trivial e;rw[dE]at this;exact this
theorem ae.without(hT:∀ p xs,T p xs->T' p xs)(hN:∀ k k' p xs f,P f=false->N k p xs f->N' k' p xs f){k:az}{n:Nat}(h:ae T N k n vs ds)(e:aj P ds=false)(k':az)(n':Nat):ae T' N' k' n' vs ds:=by
 have:=ae.gen (g:=id) (P:=P) (N':=N') (C:=λ_ _=>True) (I:=λ_ _=>True) hT trivial (λ_ _ e=>e) (λ_ _ _ _ e _=>e) (λk k' p xs f _ e h=>hN k k' p xs f e h) h (k':=k') (n':=n') trivial trivial e;rw[dh]at this;exact this
theorem Rep.hZ(hT:∀ p xs,T p xs->T' p xs)(hN:∀ k p xs f,P f=false->N k p xs f->N' k p xs f){k:az}{v:V}{d:D}(h:Rep T N k v d)(e:ak P d=false):Rep T' N' k v d:=by
 have:=Rep.gen (g:=id) (P:=P) (N':=N') (C:=λa b=>a=b) (I:=λa b=>a=b) hT rfl (λ_ _ e=>by rw[e]) (λ_ _ _ _ a b=>by rw[a,b]) (λk k' p xs f c e h=>by subst c;exact hN k p xs f e h) h rfl e;rw[dE]at this;exact this
theorem ae.hZ(hT:∀ p xs,T p xs->T' p xs)(hN:∀ k p xs f,P f=false->N k p xs f->N' k p xs f){k:az}{n:Nat}(h:ae T N k n vs ds)(e:aj P ds=false):ae T' N' k n vs ds:=by
 have:=ae.gen (g:=id) (P:=P) (N':=N') (C:=λa b=>a=b) (I:=λa b=>a=b) hT rfl (λ_ _ e=>by rw[e]) (λ_ _ _ _ a b=>by rw[a,b]) (λk k' p xs f c e h=>by subst c;exact hN k p xs f e h) h rfl rfl e;rw[dh]at this;exact this
end
theorem Rep.nZ{k:az}{v:V}{d:D}(h:Rep (ao K H) (nd K R (λ_=>False) (λ_=>none) H) k v d):Rep (ao K H) (nd K R (λ_=>False) (λ_=>none) H) k' v d:=by
 have:=Rep.jd (g:=id) (λ_ _ h=>h) nd.yK h k';rw[dE]at this;exact this
def fR(X:Cx)(R:Addr->Prop)(τ:Addr->Option az)(H:Hp)(v:V)(d:D):Prop :=
 ∃ τt:Addr->Option az,(∀ p q,τt p=some q->τ p=none/\¬ R p/\X.H₀ p=none/\H p≠none)/\Rep (ao X.K H) (nd X.K R (λ_=>False) τt H) [] v d
section
variable {X:Cx}{F R:Addr->Prop}{τ:Addr->Option az}{ρ:au}{σ:St}{H H':Hp}
theorem SI.set{i:Nat}{v:V}{d:D}(Si:SI X F R τ ρ σ H)(r:fR X R τ H v d)(hi:i<ρ.length):∃ τ',SI X F R τ' (ρ.set i (some d)) (σ.set i (some v)) H:=by
 obtain⟨τt,ht,rp⟩:=r;refine⟨λp=>match τt p with | some q=>some (q++[i]) | none=>τ p,⟨by simp[Si.len],λj d' hj=>?_,λp hp=>?_,Si.rh,Si.rf,λp q hq=>?_,λp q hq=>?_,Si.same⟩⟩
 ·by_cases gi:j=i
  ·subst gi;rw[List.getElem?_set_self hi]at hj;cases hj;refine⟨v,List.getElem?_set_self (by rw[<- Si.len];exact hi),rp.imp (q':=[j]) (λ_ _ h=>h) λc p xs f h=>?_⟩;cases f with
   | ow=>rw[List.append_nil]at h;exact⟨h.1,by simp only[h.2]⟩
   | fz=>exact h
   | al=>exact h
   | sc=>exact h
  ·rw[List.getElem?_set_ne (Ne.symm gi)]at hj;obtain⟨w,hw,iw⟩:=Si.rep j d' hj;refine⟨w,by rw[List.getElem?_set_ne (Ne.symm gi)];exact hw,iw.imp (λ_ _ h=>h) λc p xs f h=>?_⟩;cases f with
   | ow =>
    refine⟨h.1,?_⟩;cases q:τt p with
    | none=>simp only[q];exact h.2
    | some k=>have:=(ht p k q).1;rw[h.2]at this;cases this
   | fz=>exact h
   | al=>exact h
   | sc=>exact h
 ·cases q:τt p with
  | none=>simp only[q];exact Si.rt p hp
  | some k=>exact absurd hp (ht p k q).2.1
 ·cases z:τt p with
  | none=>simp only[z]at hq;exact Si.th p q hq
  | some k=>exact(ht p k z).2.2.2
 ·cases z:τt p with
  | none=>simp only[z]at hq;exact Si.t0 p q hq
  | some k=>exact(ht p k z).2.2.1
theorem vS{k:az}{v:V}{d:D}(h:Rep (ao X.K H) (nd X.K R (λ_=>False) τ H) k v d)(ho:ak bo d=false):fR X R τ H v d :=
 ⟨λ_=>none,λ_ _ h=>by simp at h,Rep.without (P:=bo) (λ_ _ h=>h) (λk k' p xs f hf h=>by
  cases f with
  | ow=>cases hf
  | fz=>exact h
  | al=>exact h.2.elim
  | sc=>exact h) h ho _⟩
open Classical in
theorem SI.move{i:Nat}{d:D}(Si:SI X F R τ ρ σ H)(hd:ρ[i]?=some (some d)):∃ v τ',σ[i]?=some (some v)/\SI X F R τ' (ρ.set i none) σ H/\fR X R τ' H v d:=by
 obtain⟨v,hv,rp⟩:=Si.rep i d hd;refine⟨v,λp=>match τ p with | some q=>if q.getLast?=some i then none else some q | none=>none,hv,⟨by simp[Si.len],λj d' hj=>?_,λp hp=>?_,Si.rh,Si.rf,λp q hq=>?_,λp q hq=>?_,Si.same⟩,
  λp=>match τ p with | some q=>if q.getLast?=some i then(if H p=none then none else some q.dropLast)else none | none=>none,λp q hq=>?_,rp.imp (q:=[i]) (q':=[]) (λ_ _ h=>h) λc p xs f h=>?_⟩
 ·by_cases gi:j=i
  ·subst gi;rw[List.getElem?_set]at hj;simp at hj
  ·rw[List.getElem?_set_ne (Ne.symm gi)]at hj;obtain⟨w,hw,iw⟩:=Si.rep j d' hj;refine⟨w,hw,iw.imp (q:=[j]) (q':=[j]) (λ_ _ h=>h) λc p xs f h=>?_⟩;cases f with
   | ow =>
    refine⟨h.1,?_⟩;simp only[h.2];rw[if_neg (by simp;exact gi)]
   | fz=>exact h
   | al=>exact h
   | sc=>exact h
 ·simp only[Si.rt p hp]
 ·cases z:τ p with
  | none=>simp only[z]at hq;cases hq
  | some k=>exact Si.th p k z
 ·cases z:τ p with
  | none=>simp only[z]at hq;cases hq
  | some k=>exact Si.t0 p k z
 ·cases z:τ p with
  | none=>simp only[z]at hq;cases hq
  | some k =>
   simp only[z]at hq ⊢;by_cases hl:k.getLast?=some i
   ·rw[if_pos hl];exact⟨rfl,(λhR=>by have:=Si.rt p hR;rw[z]at this;cases this),Si.t0 p k z,Si.th p k z⟩
   ·rw[if_neg hl]at hq;cases hq
 ·cases f with
  | ow =>
   refine⟨h.1,?_⟩;have hn:H p≠none:=h.1.ne;simp only[h.2];rw[if_pos (by simp),if_neg hn];simp
  | fz=>exact h
  | al=>exact h.2.elim
  | sc=>exact h
theorem ux(is:List Nat)(ρ:au)(j:Nat)(d:D)(h:(fK is ρ)[j]?=some (some d)):∃ d',ρ[j]?=some (some d')/\d=(if j∈is then aw aC d' else d'):=by
 unfold fK at h;rw[List.getElem?_mapIdx]at h;cases q:ρ[j]? with
 | none=>rw[q]at h;exact nk h
 | some o =>
  rw[q]at h;cases o with
  | none=>simp at h
  | some d' =>
   refine⟨d',rfl,?_⟩;by_cases hj:j∈is
   ·simp[hj]at h ⊢;exact h.symm
   ·simp[hj]at h ⊢;exact h.symm
open Classical in
theorem uy(Si:SI X F R τ ρ σ H)(es:ai H H'):
  ∃ R' τ',(∀ p,R p->R' p)/\SI X F R' τ' (fK fv ρ) σ H'/\∀ τt:Addr->Option az,(∀ p q,τt p=some q->H p=none)->∀(k k':az) (p:Addr) (xs:Nd) (f:Fl),nd X.K R (gM (gP X F) τ fv) τt H' k p xs f->nd X.K R' (λ_=>False) (λ_=>none) H' k' p xs (aC f):=by
 have dW:=Si.go es;have fresh:∀ p,H p=none->gM (gP X F) τ fv p:=λp hp=>⟨.inr (Si.same.free hp),λc i e=>absurd hp (Si.th p _ e)⟩
 refine⟨λp=>R p\/(H' p≠none/\gM (gP X F) τ fv p),λp=>if gM (gP X F) τ fv p then none else τ p,λp h=>.inl h,⟨by simp[fK,Si.len],λj d' hj=>?_,λp hp=>?_,λp hp=>?_,λp hp=>?_,λp q hq=>?_,λp q hq=>?_,dW.same⟩,λτt fr k k' p xs f h=>?_⟩
 ·obtain⟨d0,h0,e0⟩:=ux _ _ _ _ hj;obtain⟨w,hw,iw⟩:=dW.rep j d0 h0;refine⟨w,hw,?_⟩;by_cases LA:j∈fv
  ·rw[if_pos LA]at e0;subst e0;refine Rep.map (q:=[j]) (q':=[j]) (λ_ _ h=>h) (λc p xs f h=>?_) iw [] rfl;cases f with
   | ow =>
    refine⟨h.1,.inr ⟨h.1.ne,.inr (Si.t0 p _ h.2),λc' i' e'=>?_⟩⟩;rw[h.2]at e';have:=VY List.getLast? (Vk e');simp at this;subst this;exact LA
   | fz=>exact⟨h.1,.inl h.2⟩
   | al=>exact h.2.elim
   | sc=>exact h
  ·rw[if_neg LA]at e0;subst e0;refine iw.imp (q:=[j]) (q':=[j]) (λ_ _ h=>h) λc p xs f h=>?_;cases f with
   | ow =>
    refine⟨h.1,?_⟩;show(if gM (gP X F) τ fv p then none else τ p)=some (c++[j]);rw[if_neg (λz=>LA (z.2 c j h.2))];exact h.2
   | fz=>exact⟨h.1,.inl h.2⟩
   | al=>exact h.2.elim
   | sc=>exact h
 ·rcases hp with hp | hp
  ·simp only[Si.rt p hp];split<;>rfl
  ·rw[if_pos hp.2]
 ·rcases hp with hp | hp
  ·exact dW.rh p hp
  ·exact hp.1
 ·rcases hp with hp | hp
  ·exact Si.rf p hp
  ·exact hp.2.1
 ·split at hq
  ·cases hq
  ·exact dW.th p q hq
 ·split at hq
  ·cases hq
  ·exact Si.t0 p q hq
 ·cases f with
  | ow=>exact⟨h.1,.inr ⟨h.1.ne,fresh p (fr p _ h.2)⟩⟩
  | fz=>exact⟨h.1,.inl h.2⟩
  | al=>exact⟨h.1,.inr ⟨h.1.ne,h.2⟩⟩
  | sc=>exact h
theorem oj{v:V}{d:D}(Si:SI X F R τ ρ σ H)(es:ai H H')(r:bj X.K (gP X F) R τ fv H H' v d):
  ∃ R' τ',(∀ p,R p->R' p)/\SI X F R' τ' (fK fv ρ) σ H'/\Rep (ao X.K H') (nd X.K R' (λ_=>False) (λ_=>none) H') [] v (aw aC d):=by
 obtain⟨τt,fr,rp⟩:=r;obtain⟨R',τ',h1,h2,h3⟩:=uy (fv:=fv) Si es;exact⟨R',τ',h1,h2,Rep.jd (λ_ _ h=>h) (h3 τt fr) rp _⟩
theorem qk(Si:SI X F R τ ρ σ H)(es:ai H H')(r:bg X.K (gP X F) R τ fv H H' vs ds):
  ∃ R' τ',(∀ p,R p->R' p)/\SI X F R' τ' (fK fv ρ) σ H'/\ae (ao X.K H') (nd X.K R' (λ_=>False) (λ_=>none) H') [] 0 vs (ag aC ds):=by
 obtain⟨τt,fr,rp⟩:=r;obtain⟨R',τ',h1,h2,h3⟩:=uy (fv:=fv) Si es;exact⟨R',τ',h1,h2,ae.jd (λ_ _ h=>h) (h3 τt fr) rp _ _⟩
theorem j5{v:V}{d:D}(h:Rep (ao X.K H) (nd X.K R (λ_=>False) (λ_=>none) H) [] v d):fR X R τ' H v d:=⟨λ_=>none,λ_ _ h=>by simp at h,h⟩
open Classical in
theorem CA{e:CE}{v:V}{d:D}(Si:SI X F R τ ρ σ H)(es:ai H H')(r:bj X.K (gP X F) R τ (fw e) H H' v d):
  ∃ R' τ',(∀ p,R p->R' p)/\SI X F R' τ' (keep e d ρ).2 σ H'/\fR X R' τ' H' v (keep e d ρ).1:=by
 unfold keep;by_cases ha:ak aQ d=true
 ·rw[if_pos ha];obtain⟨R',τ',h1,h2,h3⟩:=oj Si es r;exact⟨R',τ',h1,h2,j5 h3⟩
 ·obtain⟨τt,fr,rp⟩:=r;rw[if_neg ha];refine⟨R,τ,λ_ h=>h,Si.go es,λp=>if H' p=none then none else τt p,λp q hq=>?_,?_⟩
  ·dsimp only at hq;split at hq
   ·cases hq
   ·rename_i hn;have hf:=fr p q hq;refine⟨?_,λhR=>Si.rh p hR hf,Si.same.free hf,hn⟩;cases z:τ p with
    | none=>rfl
    | some k=>exact absurd hf (Si.th p k z)
  ·have Tn:ak aQ d=false:=by simpa using ha
   have st:∀ {k:az} {v:V} {d:D},Rep (ao X.K H') (nd X.K R (gM (gP X F) τ (fw e)) τt H') k v d->ak aQ d=false->Rep (ao X.K H') (nd X.K R (λ_=>False) (λp=>if H' p=none then none else τt p) H') k v d:=by
    intro k v d h ha;exact Rep.hZ (P:=aQ) (λ_ _ h=>h) (λk p xs f hf h=>by
     cases f with
     | ow=>exact⟨h.1,by show(if H' p=none then none else τt p)=_;rw[if_neg (h.1.ne)];exact h.2⟩
     | fz=>exact h
     | al=>cases hf
     | sc=>exact h) h ha
   exact st rp Tn
open Classical in
def tK(X:Cx)(F:Addr->Prop)(Φ:ay)(c:CE):TE:=λσ H Q=>∃ R τ ρ r,SI X F R τ ρ σ H/\gd Φ c ρ=ok r/\∀ v H' R' τ',ai H H'->(∀ p,R p->R' p)->SI X F R' τ' r.2 σ H'->fR X R' τ' H' v r.1->Q v H'
end
section
variable {T T':lY}{N N':gO}
theorem ae.child{q:az}(hT:∀ p xs,T p xs->T' p xs)(hN:∀ c m p xs f,N (c++(m::q)) p xs f->N' (c++(m::q)) p xs f):∀ {n:Nat} {vs:List V} {ds:List D},ae T N q n vs ds->ae T' N' q n vs ds
 | _,_,_,.nil=>.nil
 | n,_,_,.cons h t=>.cons (Rep.imp (q:=n::q) (q':=n::q) hT (λc p xs f h=>hN c n p xs f h) h) (ae.child hT hN t)
theorem ae.Ce{q:az}{v:V}{d:D}:∀ {n:Nat} {vs:List V} {ds:List D},ae T N q n vs ds->Rep T N ((n+ds.length)::q) v d->ae T N q n (vs++[v]) (ds++[d])
 | n,_,_,.nil,h=>.cons (by simpa using h) .nil
 | n,_,_,.cons (ds:=ds) h t,h'=>.cons h (ae.Ce t (by
   have e:n+(ds.length+1)=n+1+ds.length:=by left
   rw[List.length_cons,e]at h';exact h'))
theorem ae.setAt{q:az}{v:V}{d:D}:∀ {n j:Nat} {vs:List V} {ds:List D},ae T N q n vs ds->Rep T N ((n+j)::q) v d->ae T N q n (vs.set j v) (ds.set j d)
 | _,_,_,_,.nil,_=>by simp;exact .nil
 | _,0,_,_,.cons _ t,h'=>.cons (by simpa using h') t
 | n,j+1,_,_,.cons h t,h'=>.cons h (ae.setAt (j:=j) t (by
   have e:n+(j+1)=n+1+j:=by left
   rw[e]at h';exact h'))
end
variable {d0:D}
section
variable {X:Cx}{F R:Addr->Prop}{τ:Addr->Option az}{ρ:au}{σ:St}{H:Hp}
theorem SI.own{i:Nat}(Si:SI X F R τ ρ σ H)(hi:ρ[i]?=some (some (.lst .ow ds))):∃ p xs,σ[i]?=some (some (.ref p))/\H p=some (.lst xs)/\xs.length=ds.length/\τ p=some [i]/\ae (ao X.K H) (nd X.K R (λ_=>False) τ H) [i] 0 xs ds:=by
 obtain⟨v,hv,rp⟩:=Si.rep i _ hi;cases rp with
 | lst h r=>exact⟨_,_,hv,h.1,r.length,h.2,r⟩
theorem rq{H:Hp}{p:Addr}{n:Nd}{o:HO}(hp:cN H p n){a:Addr}(h:ao K H a ys):ao K (upd H p o) a ys:=by
 obtain⟨o0,yr,JH,GP⟩:=cN.some hp;have nO:∀ a u,H a=some u->u≠o0->a≠p:=λa u e h z=>by subst z;rw[yr]at e;cases e;exact h rfl
 rcases h with (h | ⟨o',h⟩) | h
 ·exact .inl (.inl (by rw[aq (nO a _ h λz=>JH _ z.symm)];exact h))
 ·exact .inl (.inr ⟨o',by rw[aq (nO a _ h λz=>GP _ _ z.symm)];exact h⟩)
 ·exact .inr h
theorem SI.Ih{i m:Nat}{v:V}{d d1:D}{p:Addr}{xs':List V}{n n':Nd}{o:HO}(Si:SI X F R τ ρ σ H)(hi:ρ[i]?=some (some d0))(hv:σ[i]?=some (some (.ref p)))(hp:cN H p n)(ht:τ p=some [i])
  (rs:ae (ao X.K H) (nd X.K R (λ_=>False) τ H) [i] 0 xs ds) (rk:fR X R τ H v d) (uk:cN (upd H p o) p n')
  (mk:∀ {N:gO},N [i] p n' .ow->ae (ao X.K (upd H p o)) N [i] 0 xs' ds'->Rep (ao X.K (upd H p o)) N [i] (.ref p) d1)
  (hb:∀ {N:gO},ae (ao X.K (upd H p o)) N [i] 0 xs ds->Rep (ao X.K (upd H p o)) N (m::[i]) v d->ae (ao X.K (upd H p o)) N [i] 0 xs' ds') :
  ∃ τ',SI X F R τ' (ρ.set i (some d1)) σ (upd H p o):=by
 obtain⟨τt,hτ,rp⟩:=rk;have wA:i<ρ.length:=by
  by_cases z:i<ρ.length
  ·exact z
  ·rw[List.getElem?_eq_none (by left)]at hi;cases hi
 obtain⟨o0,yr,JH,GP⟩:=cN.some hp;have nR:∀ a,R a->a≠p:=λa ha e=>by subst e;rw[Si.rt _ ha]at ht;cases ht
 have nT:∀ a q,τt a=some q->a≠p:=λa q e z=>by subst z;rw[(hτ _ q e).1]at ht;cases ht
 have nO:∀ a u,H a=some u->u≠o0->a≠p:=λa u e h z=>by subst z;rw[yr]at e;cases e;exact h rfl
 have keep:∀ a,a≠p->(upd H p o) a=H a:=λa h=>aq h;have Fi:∀ a ys,ao X.K H a ys->ao X.K (upd H p o) a ys:=λa ys h=>by
  rcases h with (h | ⟨o',h⟩) | h
  ·exact .inl (.inl (by rw[keep a (nO a _ h λz=>JH _ z.symm)];exact h))
  ·exact .inl (.inr ⟨o',by rw[keep a (nO a _ h λz=>GP _ _ z.symm)];exact h⟩)
  ·exact .inr h
 have LG:∀ a (z:Nd),a≠p->cN H a z->cN (upd H p o) a z:=λa z ne h=>h.at λu e=>by rw[keep a ne];exact e
 have QC:∀ {τ1:Addr->Option az} q q' a (z:Nd),nd X.K R (λ_=>False) τ1 H q a z .sc->∀ τ2,nd X.K R (λ_=>False) τ2 (upd H p o) q' a z .sc:=λq q' a z h τ2=>by
  obtain⟨ys,rfl,h⟩:=h.xj;exact h.elim (λ⟨o',w⟩=>.inl ⟨o',by rw[keep a (nO a _ w λz=>GP _ _ z.symm)];exact w⟩) .inr
 have QD:∀ q a ys f,q≠[i]->nd X.K R (λ_=>False) τ H q a ys f->nd X.K R (λ_=>False) (λa=>match τt a with | some q=>some (q++[m,i]) | none=>τ a) (upd H p o) q a ys f:=λq a ys f hq h=>by
  cases f with
  | ow =>
   have ne:a≠p:=λz=>by
    subst z;have:=h.2.symm.trans ht;exact hq (Vk this)
   refine⟨LG a ys ne h.1,?_⟩;cases z:τt a with
   | none=>simp only[z];exact h.2
   | some k=>have:=(hτ a k z).1;rw[h.2]at this;cases this
  | fz=>exact⟨LG a ys (nR a h.2) h.1,h.2⟩
  | al=>exact h.2.elim
  | sc=>exact QC q q a ys h _
 refine⟨λa=>match τt a with | some q=>some (q++[m,i]) | none=>τ a,⟨by simp[Si.len],λj d' hj=>?_,λa ha=>?_,λa ha=>?_,Si.rf,λa q hq=>?_,λa q hq=>?_,?_⟩⟩
 ·by_cases gi:j=i
  ·subst gi;rw[List.getElem?_set_self wA]at hj;cases hj;refine⟨.ref p,hv,mk ⟨uk,?_⟩ (hb (ae.child Fi (λc n a ys f h=>QD _ a ys f (λz=>by
    have:=VY List.length z;simp at this) h) rs) (rp.imp (q:=[]) (q':=[m,j]) Fi λc a ys f h=>?_))⟩
   ·cases z:τt p with
    | none=>simp only[z];exact ht
    | some k=>exact absurd rfl (nT p k z)
   ·cases f with
    | ow =>
     rw[List.append_nil]at h;exact⟨LG a ys (nT a _ h.2) h.1,by simp only[h.2]⟩
    | fz=>exact⟨LG a ys (nR a h.2) h.1,h.2⟩
    | al=>exact h.2.elim
    | sc=>exact QC _ _ a ys h _
  ·rw[List.getElem?_set_ne (Ne.symm gi)]at hj;obtain⟨u,hu,ru⟩:=Si.rep j d' hj;refine⟨u,hu,ru.imp (q:=[j]) (q':=[j]) Fi λc a ys f h=>QD _ a ys f (λz=>?_) h⟩;have:=VY List.getLast? z;simp at this;exact gi this
 ·cases z:τt a with
  | none=>simp only[z];exact Si.rt a ha
  | some k=>exact absurd ha (hτ a k z).2.1
 ·rw[keep a (nR a ha)];exact Si.rh a ha
 ·by_cases QB:a=p
  ·subst QB;rw[aB];simp
  ·rw[keep a QB];cases z:τt a with
   | none=>simp only[z]at hq;exact Si.th a q hq
   | some k=>exact(hτ a k z).2.2.2
 ·cases z:τt a with
  | none=>simp only[z]at hq;exact Si.t0 a q hq
  | some k=>exact(hτ a k z).2.2.1
 ·intro a u e;have ne:a≠p:=λz=>by subst z;rw[Si.t0 _ _ ht]at e;cases e
  rw[keep a ne];exact Si.same a u e
theorem SI.put{i m:Nat}{v:V}{d:D}{g:List V->List V}{p:Addr}(Si:SI X F R τ ρ σ H)(hi:ρ[i]?=some (some (.lst .ow ds)))(hv:σ[i]?=some (some (.ref p)))(hp:H p=some (.lst xs))(ht:τ p=some [i])
  (rs:ae (ao X.K H) (nd X.K R (λ_=>False) τ H) [i] 0 xs ds) (rk:fR X R τ H v d)
  (hb:∀ {N:gO},ae (ao X.K (upd H p (.lst (g xs)))) N [i] 0 xs ds->Rep (ao X.K (upd H p (.lst (g xs)))) N (m::[i]) v d->ae (ao X.K (upd H p (.lst (g xs)))) N [i] 0 (g xs) ds') :
  ∃ τ',SI X F R τ' (ρ.set i (some (.lst .ow ds'))) σ (upd H p (.lst (g xs))) :=
 Si.Ih (n:=.l xs) (n':=.l (g xs)) hi hv hp ht rs rk aB (λh r=>.lst h r) hb
end
theorem gJ{env:Env}:∀(names:List (Str×NameKind)) (acc:List (Str×Addr)),(∀ x,(x,NameKind.free)∈names->∃ c,env.cells.lookup x=some c) ->
  ∃ cl,(forIn names acc (λ(y:Str×NameKind) (cs:List (Str×Addr))=>do
    let (name,kind):=y
    let mut cs:=cs
    if kind==.free then cs:=(name,<- cellOf env name)::cs
    pure (ForInStep.yield cs)):Sem (List (Str×Addr)))=pure cl /\
   (∀ x c,cl.lookup x=some c->acc.lookup x=some c\/(env.cells.lookup x=some c/\(x,NameKind.free)∈names))/\(∀ x,((x,NameKind.free)∈names\/(∃ c,acc.lookup x=some c))->∃ c,cl.lookup x=some c)
 | [],acc,_=>⟨acc,rfl,λx c h=>.inl h,λx h=>h.elim (λh=>nomatch h) id⟩
 | (n,kd)::names,acc,h=>by
  by_cases hk:kd=.free
  ·subst hk;obtain⟨c,hc⟩:=h n Vb;obtain⟨cl,e,h1,h2⟩:=gJ names ((n,c)::acc) (λx hx=>h x (Va _ hx));refine⟨cl,?_,λx c' hx=>?_,λx hx=>?_⟩
   ·rw[List.forIn_cons];have e0:cellOf env n=pure c:=by unfold cellOf;rw[hc]
    simp only[beq_self_eq_true,if_true,e0,pure_bind];exact e
   ·rcases h1 x c' hx with z | z
    ·by_cases Jw:x=n
     ·subst Jw;simp at z;subst z;exact .inr ⟨hc,Vb⟩
     ·rw[List.lookup_cons]at z;have:(x==n)=false:=by simpa using Jw
      rw[this]at z;exact .inl z
    ·exact .inr ⟨z.1,Va _ z.2⟩
   ·refine h2 x ?_;rcases hx with hx | ⟨c',hx⟩
    ·rcases List.mem_cons.mp hx with z | z
     ·cases z;exact .inr ⟨c,by simp⟩
     ·exact .inl z
    ·by_cases Jw:x=n
     ·subst Jw;exact .inr ⟨c,by simp⟩
     ·refine .inr ⟨c',?_⟩;rw[List.lookup_cons];have:(x==n)=false:=by simpa using Jw
      rw[this];exact hx
  ·obtain⟨cl,e,h1,h2⟩:=gJ names acc (λx hx=>h x (Va _ hx));have hb:(kd==NameKind.free)=false:=by simpa using hk
   refine⟨cl,?_,λx c' hx=>(h1 x c' hx).imp id λz=>⟨z.1,Va _ z.2⟩,λx hx=>h2 x ?_⟩
   ·rw[List.forIn_cons];simp only[hb,Bool.false_eq_true,if_false,pure_bind];exact e
   ·rcases hx with hx | hx
    ·rcases List.mem_cons.mp hx with z | z
     ·cases z;exact absurd rfl hk
     ·exact .inl z
    ·exact .inr hx
variable {env:Env}
theorem sy{sc:Scope}(h:∀ x,(x,NameKind.free)∈sc.names->∃ c,env.cells.lookup x=some c):
  ∃ cl,closureFor sc env=pure cl/\(∀ x c,cl.lookup x=some c->env.cells.lookup x=some c)/\(∀ x,(x,NameKind.free)∈sc.names->∃ c,cl.lookup x=some c):=by
 obtain⟨cl,e,h1,h2⟩:=gJ (env:=env) sc.names [] h;refine⟨cl,?_,λx c hx=>(h1 x c hx).elim (λz=>by simp at z) (·.1),λx hx=>h2 x (.inl hx)⟩;unfold closureFor;simp only[bind_pure];exact e
variable {P prog:Program}{gj iter o target tg:Expr}{w:World}
theorem ox{A:Around}{R:Result->Shared->Prop}{s:Shared}{elt:Expr}{ifs:List Expr}{scope:Scope}{it acc:Value}(I:Nat->Shared->Prop)
  (turn:∀ n s,I n s->wpAny (model prog w) A (pyNext it) (λr s₁=>match r with
   | none=>R (.ok .next) s₁
   | some v=>wpAny (model prog w) A (letOwnedTupleGo target it v) (λ_ s₁=>wpAny (model prog w) A (assign target env v) (λ_ s₂ =>
     wpAny (model prog w) A (forIn ifs true λc r=>if r=true then do let ok <- isTrue c env (eval c env);pure (ForInStep.yield ok)else pure (ForInStep.yield r)) (λok s₃ =>
      if ok=true then wpAny (model prog w) A (eval elt env) (λx s₄ =>
       wpAny (model prog w) A (call (.builtin "list.append") [acc,x]) (λ_ s₅=>∃ m,m<n/\I m s₅) (λ_ _=>False) s₄) (λ_ _=>False) s₃
      else ∃ m,m<n/\I m s₃) (λ_ _=>False) s₂) (λ_ _=>False) s₁) (λ_ _=>False) s₁) (λ_ _=>False) s)
  (n:Nat) (h:I n s) :
  codeAny (model prog w) A (.compLoop (.ListComp elt [⟨target,iter,ifs,0⟩] scope pos) 0 it acc env) R s:=by
 refine codeAny_loop rfl I (λn s hI=>?_) n h;show wpAny _ A ((compTurn (.ListComp elt [⟨target,iter,ifs,0⟩] scope pos) 0 it acc env).onRaise (λx=>do noteFrame x env;theTreesLotGoes x)) _ _ s;refine wpAny_noted ?_;rw[compTurn_list];refine U6 (WJ (U6 (Vn (turn n s hI) (λr s₁ h₁=>?_) λ_ _ h'=>h'.elim)));cases r with
 | none=>exact U9 h₁
 | some v =>
  refine U6 (Vn h₁ (λ_ s₂ h₂=>?_) λ_ _ h'=>h'.elim);refine U6 (Vn h₂ (λ_ s₂ h₂=>U6 (Vn h₂ (λok s₃ h₃=>?_) λ_ _ h'=>h'.elim)) λ_ _ h'=>h'.elim);cases ok with
  | false=>exact U9 ⟨rfl,h₃⟩
  | true =>
   exact U6 (U6 (Vn h₃ (λx s₄ h₄=>U6 (Vn h₄ (λ_ s₅ h₅=>U9 (U9 ⟨rfl,h₅⟩)) λ_ _ h'=>h'.elim)) λ_ _ h'=>h'.elim))
noncomputable def cx(X:Cx)(N':List Str)(scope:Scope)(cl:List (Str×Addr))(C:Addr)(s₀:Shared)(H₀:Hp)(fp:List Addr):Cx :=
 { X with N:=N',s₀:=s₀,H₀:=H₀,env:=compEnvC scope cl C X.env,outer:=X.stack,stack:=X.stack,ex:=fp,fn:=λ_=>false,pn:=[],xe:=λ_ _=>False }
theorem di{env:Env}:∀ {names:List (Str×NameKind)} {x:Str} {kd:NameKind},(names.map λ(n,k)=>if (k==NameKind.free&&env.scope.kind==.function&&env.kindOf n==some .cell)then(n,NameKind.cell)else(n,k)).lookup x=some kd ->
  names.lookup x=some kd\/(kd=.cell/\names.lookup x=some .free)
 | [],_,_,h=>by simp at h
 | (n,k)::r,x,kd,h=>by
  rw[List.map_cons]at h;cases hx:x==n with
  | true =>
   by_cases hc:(k==NameKind.free&&env.scope.kind==.function&&env.kindOf n==some .cell)=true
   ·simp only[hc,if_true,List.lookup_cons,hx]at h;cases h;simp only[Bool.and_eq_true,beq_iff_eq]at hc;refine .inr ⟨rfl,?_⟩;rw[List.lookup_cons,hx,hc.1.1]
   ·have wC:(k==NameKind.free&&env.scope.kind==.function&&env.kindOf n==some .cell)=false:=by simpa using hc
    simp only[wC,Bool.false_eq_true,if_false,List.lookup_cons,hx]at h;cases h;exact .inl (by rw[List.lookup_cons,hx])
  | false =>
   have:List.lookup x (r.map λ(n,k)=>if (k==NameKind.free&&env.scope.kind==.function&&env.kindOf n==some .cell)then(n,NameKind.cell)else(n,k))=some kd:=by
    by_cases hc:(k==NameKind.free&&env.scope.kind==.function&&env.kindOf n==some .cell)=true
    ·simp only[hc,if_true,List.lookup_cons,hx]at h;exact h
    ·have wC:(k==NameKind.free&&env.scope.kind==.function&&env.kindOf n==some .cell)=false:=by simpa using hc
     simp only[wC,Bool.false_eq_true,if_false,List.lookup_cons,hx]at h;exact h
   rw[List.lookup_cons,hx];exact di this
theorem bT{env:Env}:∀ {names:List (Str×NameKind)} {x:Str},names.lookup x=some .free ->
  (names.map λ(n,k)=>if (k==NameKind.free&&env.scope.kind==.function&&env.kindOf n==some .cell)then(n,NameKind.cell)else(n,k)).lookup x=some .free \/
  (names.map λ(n,k)=>if (k==NameKind.free&&env.scope.kind==.function&&env.kindOf n==some .cell)then(n,NameKind.cell)else(n,k)).lookup x=some .cell
 | [],_,h=>by simp at h
 | (n,k)::r,x,h=>by
  rw[List.map_cons];cases hx:x==n with
  | true =>
   rw[List.lookup_cons,hx]at h;cases h;by_cases hc:(NameKind.free==NameKind.free&&env.scope.kind==.function&&env.kindOf n==some .cell)=true
   ·simp only[hc,if_true,List.lookup_cons,hx];exact .inr trivial
   ·have wC:(NameKind.free==NameKind.free&&env.scope.kind==.function&&env.kindOf n==some .cell)=false:=by simpa using hc
    simp only[wC,Bool.false_eq_true,if_false,List.lookup_cons,hx];exact .inl trivial
  | false =>
   rw[List.lookup_cons,hx]at h;by_cases hc:(k==NameKind.free&&env.scope.kind==.function&&env.kindOf n==some .cell)=true
   ·simp only[hc,if_true,List.lookup_cons,hx];exact bT h
   ·have wC:(k==NameKind.free&&env.scope.kind==.function&&env.kindOf n==some .cell)=false:=by simpa using hc
    simp only[wC,Bool.false_eq_true,if_false,List.lookup_cons,hx];exact bT h
theorem b_{names:List (Str×NameKind)}{x:Str}{kd:NameKind}(h:names.lookup x=some kd):(x,kd)∈names:=VH h
structure g_(S:Sx)(n:Nat)(t:Tg)(caps:List Nat)(target:Expr)(sc:Scope):Prop where
 kind:sc.kind=.function
 xW:∀ y∈sc.names,y.2≠.cell
 loc:∀ y∈sc.names,y.2=.local->sc.names.lookup y.1=some .local
 free:∀ x,(x,NameKind.free)∈sc.names->S.sc.names.lookup x=some .cell\/S.sc.names.lookup x=some .free
 n:n=(aW target).length
 tl:∀ x∈aW target,sc.names.lookup x=some .local
 nd:(aW target++dP S caps).Nodup
 fm:∀ i∈caps,∃ x,S.N[i]?=some x/\sc.names.lookup x=some .free
 tg:(∃ x p,t=.nm 0/\target=.Name x p)\/(∃ es k p,t=.tp (List.range es.length)/\target=.Tuple es k p/\es.all isNm=true)
theorem ng{n:Nat}{t:Tg}{sc:Scope}(h:oG S n t caps target sc=true):g_ S n t caps target sc:=by
 unfold oG at h;simp only[Bool.and_eq_true,decide_eq_true_eq,List.all_eq_true,Bool.or_eq_true]at h;obtain⟨⟨⟨⟨⟨⟨h1,h2⟩,h3⟩,h4⟩,h5⟩,h6⟩,h7⟩:=h;refine⟨h1,λy hy=>(h2 y hy).1.1,λy hy hk=>?_,λx hx=>?_,h3,h4,h5,λi hi=>?_,?_⟩
 ·rcases(h2 y hy).1.2 with z | z
  ·exact absurd hk z
  ·exact z
 ·rcases(h2 _ hx).2 with (z | z) | z
  ·exact absurd rfl z
  ·exact .inl z
  ·exact .inr z
 ·have:=h6 i hi;split at this
  ·rename_i x e;exact⟨x,e,U7 this⟩
  ·cases this
 ·cases t with
  | nm i =>
   obtain⟨g1,g2⟩:=ah h7;obtain rfl:i=0:=U7 g1;cases target<;>first | (cases g2;done) | exact .inl ⟨_,_,rfl,rfl⟩
  | tp is =>
   obtain⟨es,hv,g⟩:=aE h7;obtain⟨k,p,rfl⟩:=ia hv;obtain⟨g1,g2⟩:=ah g;obtain rfl:is=_:=U7 g1;exact .inr ⟨es,k,p,rfl,rfl,g2⟩
theorem qI{S:Sx}:∀ {caps:List Nat},(∀ i∈caps,∃ x,S.N[i]?=some x)->(dP S caps).length=caps.length/\∀(j i:Nat),caps[j]?=some i->(dP S caps)[j]?=S.N[i]?
 | [],_=>⟨rfl,λj i h=>by simp at h⟩
 | i::caps,h=>by
  obtain⟨x,hx⟩:=h i Vb;obtain⟨h1,h2⟩:=qI (caps:=caps) λj hj=>h j (Va _ hj);have e:dP S (i::caps)=x::dP S caps:=by unfold dP;rw[List.filterMap_cons,hx]
  rw[e];refine⟨by simp[h1],λj k hj=>?_⟩;cases j with
  | zero=>simp at hj;subst hj;simp[hx]
  | succ j=>simp at hj ⊢;exact h2 j k hj
variable {fp:List Addr}
section
variable {X:Cx}{S:Sx}{k:Nat}{Φ:ay}{pins:List (Addr×Obj)}{σ:St}{H2:Hp}{s₂:Shared}
noncomputable def mh(n:Nat)(caps:List Nat)(σ:St):St:=List.replicate n none++caps.map λi=>σ[i]?.getD none
noncomputable def cG(af:List Value)(n:Nat):Obj:={ cls:=.type "list",data:=.seq af.toArray n }
theorem BD{n:Nat}{t:Tg}{sc:Scope}{cl:List (Str×Addr)}(L:Lk X S k Φ)(co:g_ S n t caps target sc)(I2:Inv X pins σ H2 s₂)
  (jR:∀ x c,cl.lookup x=some c->X.env.cells.lookup x=some c) (r6:∀ x,(x,NameKind.free)∈sc.names->∃ c,cl.lookup x=some c) (Be:∀ b∈fp,l5 X pins H2 b) (EY:∀ b∈fp,b<s₂.heap.objs.size) :
  (cx X (aW target++dP S caps) sc cl (s₂.heap.objs.size+1) s₂ H2 fp).Ok:=by
 have JB:=I2.i5;refine⟨I2.ok.mod,co.kind,I2.ok.glob,I2.ok.blt,Wg _,λx y c h1 h2=>I2.ok.inj x y c (jR x c h1) (jR y c h2),λx hx=>?_,(λ_ _ z=>by cases z),I2.ok.hd,I2.ok.frames,.inl rfl,λb hb=>⟨?_,λx c e=>(Be b hb).2.2.2.2.1 x c (jR x c e)⟩,I2.bs,Vp I2.ok.CN I2.sz,λb o e hb=>?_,λb hb z=>?_,I2.stack,I2.tj⟩
 ·have zD:(relabel sc X.env).names.lookup x=some .cell\/(relabel sc X.env).names.lookup x=some .free:=hx;rcases zD with zD | zD
  ·rcases di zD with z | z
   ·exact absurd rfl (co.xW _ (b_ z))
   ·exact r6 x (b_ z.2)
  ·rcases di zD with z | z
   ·exact r6 x (b_ z)
   ·cases z.1
 ·exact Vi (Vu (EY b hb))
 ·rcases(Be b hb).2.2.2.1 with z | z
  ·exact I2.ok.xV b o e z
  ·exact absurd (Vf (Vd e) (Vp I2.ok.CN z)) (Vz _)
 ·rcases List.mem_cons.mp (JB b z)with w | w
  ·exact(Be b hb).2.1 w
  ·exact(Be b hb).2.2.1 w
theorem yo{n:Nat}{t:Tg}{sc:Scope}{cl:List (Str×Addr)}{h₁:Heap}{tk:Nat}(L:Lk X S k Φ)(co:g_ S n t caps target sc)(I2:Inv X pins σ H2 s₂)
  (jR:∀ x c,cl.lookup x=some c->X.env.cells.lookup x=some c) (r6:∀ x,(x,NameKind.free)∈sc.names->∃ c,cl.lookup x=some c) (Be:∀ b∈fp,l5 X pins H2 b) (EY:∀ b∈fp,b<s₂.heap.objs.size)
  (wz:h₁.Ns (s₂.heap.objs.size+1) λ_=>none) (old:∀ b o,s₂.heap.get? b=some o->h₁.get? b=some o) (lG:h₁.get? s₂.heap.objs.size=some (cG [] 0)) :
  Inv (cx X (aW target++dP S caps) sc cl (s₂.heap.objs.size+1) s₂ H2 fp) [(s₂.heap.objs.size,cG [] 0)] (mh n caps σ) H2 { s₂ with heap:=h₁,toks:=tk }:=by
 have qf:∀ i∈caps,∃ x,S.N[i]?=some x:=λi hi=>let ⟨x,e,_⟩:=co.fm i hi;⟨x,e⟩;obtain⟨Uj,Ui⟩:=qI qf;refine⟨BD L co I2 jR r6 Be EY,rfl,I2.bare,Un.kept old,⟨_,wz,λi x v e1 e2 e3=>?_⟩,λx c e=>?_,I2.bR.fresh (Wg _),λx c e=>I2.gv x c (jR x c e),λp hp=>?_,I2.bR.kept old,?_⟩
 ·unfold mh at e2;have hi:n<=i:=by
   by_cases hi:i<n
   ·rw[List.getElem?_append_left (by simpa using hi),List.getElem?_replicate,if_pos hi]at e2;cases e2
   ·left
  have zI:(aW target++dP S caps)[i]?=some x:=e1;rw[List.getElem?_append_right (by rw[<- co.n];exact hi),<- co.n]at zI;rw[List.getElem?_append_right (by simpa using hi),List.length_replicate,List.getElem?_map]at e2;cases hc:caps[i - n]? with
  | none=>rw[hc]at e2;cases e2
  | some ci =>
   rw[hc]at e2;rw[Ui _ _ hc]at zI;obtain⟨x',Km,LB⟩:=co.fm ci (Vr hc);rw[Km]at zI;cases zI;have OV:σ[ci]?=some (some v):=by
    have Kr:σ[ci]?.getD none=some v:=Vk e2;cases q:σ[ci]? with
    | none=>rw[q]at Kr;cases Kr
    | some o=>rw[q]at Kr;simp at Kr;rw[Kr]
   have NJ:Gd X.env.scope x:=by
    unfold Gd;rw[L.sc];rcases co.free x (b_ LB)with z | z
    ·exact .inr (.inl z)
    ·exact .inr (.inr z)
   obtain⟨m,hn,hl⟩:=I2.loc;obtain⟨u,r,lk⟩:=hl ci x v (by rw[L.N];exact Km) OV NJ;refine⟨u,r,.inr ⟨?_,?_⟩⟩
   ·rcases bT (env:=X.env) LB with z | z
    ·exact .inr z
    ·exact .inl z
   ·have Tc:∃ c,X.env.cells.lookup x=some c/\s₂.heap.IsCell c (some u):=by
     rcases lk with ⟨z,_⟩ | ⟨_,z⟩
     ·have z':X.env.scope.names.lookup x=some .local:=z;rw[L.sc]at z';rcases co.free x (b_ LB)with w | w<;>(rw[w]at z';cases z')
     ·exact z
    obtain⟨c,ec,o,ho,hd⟩:=Tc;obtain⟨c',QO⟩:=r6 x (b_ LB);have:=jR x c' QO;rw[ec]at this;cases this;exact⟨c,QO,o,old _ _ ho,hd⟩
 ·obtain⟨v,o,ho,hd⟩:=I2.cell x c (jR x c e);exact⟨v,o,old _ _ ho,hd⟩
 ·have EU:p=(s₂.heap.objs.size,cG [] 0):=by simpa [cx]using hp
  subst EU;refine⟨lG,I2.bR.fresh (Vc _),Vi (Wn _),λz=>?_,λv z=>by cases z⟩;rcases List.mem_cons.mp (I2.i5 _ z)with w | w
  ·exact absurd w (VJ I2.lt)
  ·exact I2.Eh (Vc _) w
 ·show(mh n caps σ).length=(aW target++dP S caps).length;unfold mh;rw[List.length_append,List.length_append,List.length_replicate,List.length_map,Uj,co.n]
end
theorem ae.snoc{T:lY}{N:gO}{k:az}:∀ {n:Nat} {vs:List V} {ds:List D} {v:V} {d:D},ae T N k n vs ds->Rep T N ((n+ds.length)::k) v d->ae T N k n (vs++[v]) (ds++[d])
 | n,_,_,_,_,.nil,h=>.cons h .nil
 | n,_,_,_,_,.cons (ds:=ds) h t,r=>.cons h (ae.snoc t (by
  have e:n+(ds.length+1)=n+1+ds.length:=by left
  rw[List.length_cons,e]at r;exact r))
open Classical in
theorem bg.snoc{K:PySem.W.Frag}{G R:Addr->Prop}{τ:Addr->Option az}{fv:List Nat}{H H1 H2:Hp}{v:V}{d:D}{vs:List V}{ds:List D}(e1:ai H H1)(e2:ai H1 H2)(h:bg K G R τ fv H H1 vs ds)(t:bj K G R τ fv H1 H2 v d):
  bg K G R τ fv H H2 (vs++[v]) (ds++[d]):=by
 obtain⟨τ1,f1,h1⟩:=h;obtain⟨τ2,f2,h2⟩:=t;refine⟨λp=>if H1 p=none then(τ2 p).map (· ++ [ds.length])else τ1 p,λp q hq=>?_,ae.snoc (h1.imp (q:=[]) (q':=[]) (λ_ _ h=>ao.same e2 h) λc p xs f h=>?_) ((Nat.zero_add ds.length).symm▸h2.imp (q:=[]) (q':=[ds.length]) (λ_ _ h=>h) λc p xs f h=>?_)⟩
 ·dsimp only at hq;by_cases hp:H1 p=none
  ·exact e1.free hp
  ·rw[if_neg hp]at hq;exact f1 p q hq
 ·have h':=nd.same e2 h;cases f with
  | ow =>
   refine⟨h'.1,?_⟩;show(if H1 p=none then(τ2 p).map (· ++ [ds.length])else τ1 p)=_;rw[if_neg (h.1.ne)];exact h.2
  | fz=>exact h'
  | al=>exact h'
  | sc=>exact h'
 ·cases f with
  | ow =>
   refine⟨h.1,?_⟩;show(if H1 p=none then(τ2 p).map (· ++ [ds.length])else τ1 p)=_;rw[if_pos (f2 p _ h.2),h.2];simp
  | fz=>exact h
  | al=>exact h
  | sc=>exact h
structure Yl(K:PySem.W.Frag)(J:It)(R:Addr->Prop)(H1:Hp)(items:List D):Prop where
 go:∀ i H',ai H1 H'->i<items.length->J.go i H'
 qR:∀ i H' x j3,ai H1 H'->i<items.length->J.qR i H' x j3->ai H' j3/\∃ d,items[i]?=some d/\Rep (ao K j3) (nd K R (λ_=>False) (λ_=>none) j3) [] x d
 stop:∀ i H',ai H1 H'->items.length<=i->J.stop i H'
variable {C:Addr}{s₂:Shared}
section
variable {X:Cx}{S:Sx}{k:Nat}{F:Addr->Prop}{Φ:ay}
def i9(X:Cx)(F:Addr->Prop)(τ:Addr->Option az)(fv:List Nat)(H2:Hp)(p:Addr):Prop:=H2 p≠none/\gM (gP X F) τ fv p
theorem rA{τt:Addr->Option az}(Si:SI X F R τ ρ σ H)(fr:∀ p q,τt p=some q->H p=none)(hs:∀ i∈fv,i∈fv')(kp kq:az)(p:Addr)(xs:Nd)(f:Fl)
  (h:nd X.K R (gM (gP X F) τ fv) τt H2 kp p xs f):nd X.K (i9 X F τ fv' H2) (λ_=>False) (λ_=>none) H2 kq p xs (aC f):=by
 cases f with
 | ow=>exact⟨h.1,h.1.ne,.inr (Si.same.free (fr p _ h.2)),λc i e=>absurd (fr p _ h.2) (Si.th p _ e)⟩
 | fz=>exact⟨h.1,h.1.ne,Si.rf p h.2,λc i e=>by rw[Si.rt p h.2]at e;cases e⟩
 | al=>exact⟨h.1,h.1.ne,h.2.mono hs⟩
 | sc=>exact h
theorem zK{a:Addr}{q:az}(hl:c_ X.K H1 a xs)(rs:ae (ao X.K H1) (nd X.K R (λ_=>False) (λ_=>none) H1) q 0 xs items):Yl X.K (G8 X.K a) R H1 items where
 go:=λi H' e hi=>⟨xs,xs[i]'(by rw[rs.length];exact hi),e.seq hl,Vj _⟩
 qR:=λi H' x j3 e hi y=>by
  obtain⟨rfl,y⟩:=y;obtain⟨d,hd,rd⟩:=rs.yE (y xs (e.seq hl));refine⟨ai.refl _,d,hd,?_⟩;have:=Rep.jd (g:=id) (λ_ _ h=>h) nd.yK rd [];rw[dE]at this;exact this.imp (λ_ _ h=>ao.same e h) λ_ _ _ _ h=>nd.same e h
 stop:=λi H' e hi=>⟨xs,e.seq hl,by rw[rs.length];exact hi⟩
theorem C1{a:Addr}{q:az}(hl:ao X.K H1 a xs)(rs:ae (ao X.K H1) (nd X.K R (λ_=>False) (λ_=>none) H1) q 0 xs items):Yl X.K (G7 X.K a) R H1 items where
 go:=λi H' e hi=>⟨xs,xs[i]'(by rw[rs.length];exact hi),ao.same e hl,Vj _⟩
 qR:=λi H' x j3 e hi y=>by
  obtain⟨rfl,y⟩:=y;obtain⟨d,hd,rd⟩:=rs.yE (y xs (ao.same e hl));refine⟨ai.refl _,d,hd,?_⟩;have:=Rep.jd (g:=id) (λ_ _ h=>h) nd.yK rd [];rw[dE]at this;exact this.imp (λ_ _ h=>ao.same e h) λ_ _ _ _ h=>nd.same e h
 stop:=λi H' e hi=>⟨xs,ao.same e hl,by rw[rs.length];exact hi⟩
theorem C2{lo:Int}{n:Nat}:Yl X.K (wq lo n) R H1 ((List.range n).map λ(k:Nat)=>D.int (lo+(k:Int))) where
 go:=λi H' e hi=>by simpa [wq]using hi
 qR:=λi H' x j3 e hi y=>by
  obtain⟨rfl,rfl⟩:=y;have jg:i<n:=by simpa using hi
  exact⟨ai.refl _,.int (lo+i),by rw[List.getElem?_map,List.getElem?_range jg];rfl,.int _⟩
 stop:=λi H' e hi=>by simpa [wq]using hi
theorem xf{n:Nat}{t:Tg}{sc:Scope}{cl:List (Str×Addr)}(Si:SI X F R τ ρ σ H2)(hs:∀ i∈caps,i∈fv):
  SI (cx X (aW target++dP S caps) sc cl C s₂ H2 fp) (gM (gP X F) τ fv) (i9 X F τ fv H2) (λ_=>none) (ba n caps ρ) (mh n caps σ) H2:=by
 refine⟨by simp[ba,mh],λi d hi=>?_,λ_ _=>rfl,λp h=>h.1,λp h=>.inl h.2,λ_ _ h=>by simp at h,λ_ _ h=>by simp at h,ai.refl _⟩;unfold ba at hi;have hn:n<=i:=by
  by_cases hn:i<n
  ·rw[List.getElem?_append_left (by simpa using hn),List.getElem?_replicate,if_pos hn]at hi;cases hi
  ·left
 rw[List.getElem?_append_right (by simpa using hn),List.length_replicate,List.getElem?_map]at hi;cases hc:caps[i - n]? with
 | none=>rw[hc]at hi;exact nk hi
 | some ci =>
  rw[hc]at hi;have jg:(ρ[ci]?.getD none).map (aw aC)=some d:=Vk hi;have hr:∃ d0,ρ[ci]?=some (some d0)/\aw aC d0=d:=by
   cases q:ρ[ci]? with
   | none=>rw[q]at jg;cases jg
   | some o =>
    cases o with
    | none=>rw[q]at jg;cases jg
    | some d0=>rw[q]at jg;exact⟨d0,rfl,Vk jg⟩
  obtain⟨d0,h0,rfl⟩:=hr;obtain⟨v,hv,rv⟩:=Si.rep ci d0 h0;refine⟨v,?_,Rep.jd (λ_ _ h=>h) (λkp kq p xs f h=>?_) ((rv.imp (q:=[ci]) (q':=[ci]) (N':=λq p xs f=>nd X.K R (λ_=>False) τ H2 q p xs f/\(f=.ow->∃ c,q=c++[ci])) (λ_ _ h=>h) λc p xs f h=>⟨h,λ_=>⟨c,rfl⟩⟩)) [i]⟩
  ·unfold mh;rw[List.getElem?_append_right (by simpa using hn),List.length_replicate,List.getElem?_map,hc];simp[hv]
  ·obtain⟨h,hq⟩:=h;cases f with
   | ow =>
    obtain⟨c,rfl⟩:=hq rfl;refine⟨h.1,h.1.ne,.inr (Si.t0 p _ h.2),λc' i' e=>?_⟩;rw[h.2]at e;have:=VY List.getLast? (Vk e);simp at this;subst this;exact hs _ (Vr hc)
   | fz=>exact⟨h.1,h.1.ne,Si.rf p h.2,λc i e=>by rw[Si.rt p h.2]at e;cases e⟩
   | al=>exact h.2.elim
   | sc=>exact h
theorem xY:∀ {es:List Expr},es.all isNm=true->∃ xs:List (Str×Pos),es=xs.map λx=>Expr.Name x.1 x.2
 | [],_=>⟨[],rfl⟩
 | e::es,h=>by
  rw[List.all_cons,Bool.and_eq_true]at h;obtain⟨xs,rfl⟩:=xY h.2;cases e<;>simp[isNm]at h;exact⟨(_,_)::xs,rfl⟩
theorem rm(xs:List (Str×Pos)):(xs.map λx=>Expr.Name x.1 x.2).filterMap (λe=>match e with | .Name x _=>some x | _=>none)=xs.map (·.1):=by
 induction xs with
 | nil=>rfl
 | cons x xs ih=>simp[ih]
def yG(i:Nat):Nat->BV
 | 0=>Fv
 | n+1=>yH (m6 i) (yG (i+1) n)
theorem tR{X:Cx}(hN:X.N.Nodup):∀(xs:List (Str×Pos)) (i:Nat),(∀(j:Nat) x,xs[j]?=some x->X.N[i+j]?=some x.1/\X.env.scope.names.lookup x.1=some .local) ->
  G6 X (xs.map λx=>Expr.Name x.1 x.2) (yG i xs.length)/\(assignEach (xs.map λx=>Expr.Name x.1 x.2) X.env).length=xs.length/\(assignEach (xs.map λx=>Expr.Name x.1 x.2) X.env).findIdx? (·.1)=none
 | [],_,_=>⟨tP,rfl,rfl⟩
 | x::xs,i,h=>by
  obtain⟨h1,h2,h3⟩:=tR hN xs (i+1) λj y hy=>by
   have:=h (j+1) y (by simpa using hy)
   rwa [show i+(j+1)=i+1+j by left]at this
  obtain⟨g1,g2⟩:=h 0 x rfl;refine⟨pN (nN hN g1 (.inl g2) (.inr g2)) h1 rfl,?_,?_⟩
  ·show(_::assignEach _ X.env).length=_;rw[List.length_cons,h2];rfl
  ·show(((false,assign (.Name x.1 x.2) X.env)::assignEach (xs.map λx=>Expr.Name x.1 x.2) X.env)).findIdx? (·.1)=none;rw[List.findIdx?_cons];simp[h3]
end
section
variable {X:Cx}{F R:Addr->Prop}{τ:Addr->Option az}{ρ:au}{σ σ':St}{H:Hp}
theorem SI.HL{i:Nat}{v:V}{d:D}(Si:SI X F R τ ρ σ H)(rp:Rep (ao X.K H) (nd X.K R (λ_=>False) (λ_=>none) H) [] v d)(hi:i<ρ.length):SI X F R τ (ρ.set i (some d)) (σ.set i (some v)) H:=by
 refine⟨by simp[Si.len],λj d' hj=>?_,Si.rt,Si.rh,Si.rf,Si.th,Si.t0,Si.same⟩;by_cases gi:j=i
 ·subst gi;rw[List.getElem?_set_self hi]at hj;cases hj;refine⟨v,List.getElem?_set_self (by rw[<- Si.len];exact hi),rp.imp (q':=[j]) (λ_ _ h=>h) λc p xs f h=>?_⟩;cases f with
  | ow=>exact nomatch h.2
  | fz=>exact h
  | al=>exact h
  | sc=>exact h
 ·rw[List.getElem?_set_ne (Ne.symm gi)]at hj;obtain⟨w,hw,iw⟩:=Si.rep j d' hj;exact⟨w,by rw[List.getElem?_set_ne (Ne.symm gi)];exact hw,iw⟩
theorem SI.sig(Si:SI X F R τ ρ σ H)(hl:σ'.length=σ.length)(h:∀(i:Nat) d,ρ[i]?=some (some d)->σ'[i]?=σ[i]?):SI X F R τ ρ σ' H :=
 ⟨by rw[hl];exact Si.len,λi d hi=>let ⟨v,hv,r⟩:=Si.rep i d hi;⟨v,by rw[h i d hi];exact hv,r⟩,Si.rt,Si.rh,Si.rf,Si.th,Si.t0,Si.same⟩
theorem kU{Q:St->Hp->Prop}(σ0:St)(hi:Nat):∀ {m i:Nat} {vs:List V} {ds:List D} {kp:az} {q:Nat} {σ:St} {ρ ρ':au},i+m=hi->ae (ao X.K H) (nd X.K R (λ_=>False) (λ_=>none) H) kp q vs ds->SI X F R τ ρ σ H->dZ (List.range' i m) ds ρ=ok ρ' ->
  σ.length=σ0.length->(∀ j,hi<=j->σ[j]?=σ0[j]?)->(∀ σ',σ'.length=σ0.length->(∀ j,hi<=j->σ'[j]?=σ0[j]?)->SI X F R τ ρ' σ' H->Q σ' H)->yG i m vs σ H Q
 | 0,_,_,_,_,_,σ,_,_,_,.nil,Si,e,h1,h2,hq=>by
  cases e;exact⟨rfl,hq σ h1 h2 Si⟩
 | 0,_,_,_,_,_,_,_,_,_,.cons _ _,_,e,_,_,_=>by cases e
 | m+1,_,_,_,_,_,_,_,_,_,.nil,_,e,_,_,_=>by cases e
 | m+1,i,_,_,_,_,σ,ρ,_,him,.cons (v:=v) (d:=d) h t,Si,e,h1,h2,hq=>by
  change (if _ then _ else _)=_ at e;split at e
  ·rename_i jg;have dW:=Si.HL (i:=i) (Rep.nZ h) jg;refine⟨_,_,rfl,kU σ0 hi (by left) t dW e (by simpa using h1) (λj hj=>?_) hq⟩;rw[List.getElem?_set_ne (by left)];exact h2 j hj
  ·cases e
end
variable {base h h':Heap}
section
variable {X:Cx}{S:Sx}{k:Nat}{F:Addr->Prop}{Φ:ay}
theorem C_{n:Nat}{t:Tg}{sc:Scope}{cl:List (Str×Addr)}(JZ:X.calm=true)(co:g_ S n t caps target sc):
  ∃ g,PG (cx X (aW target++dP S caps) sc cl C s₂ H2 fp) target g/\∀(F' R':Addr->Prop) (x:V) (d:D) (σ':St) (j3:Hp) (Q:St->Hp->Prop) (ρb ρ1:au),
   SI (cx X (aW target++dP S caps) sc cl C s₂ H2 fp) F' R' (λ_=>none) ρb σ' j3->Rep (ao X.K j3) (nd X.K R' (λ_=>False) (λ_=>none) j3) [] x d->ak bo d=false->bw t d ρb=ok ρ1 ->
   (∀ σ2,σ2.length=σ'.length->(∀ j,n<=j->σ2[j]?=σ'[j]?)->SI (cx X (aW target++dP S caps) sc cl C s₂ H2 fp) F' R' (λ_=>none) ρ1 σ2 j3->Q σ2 j3)->g x σ' j3 Q:=by
 have EX:∀ x∈aW target,(relabel sc X.env).names.lookup x=some .local:=λx hx=>lookup_relabel_local (co.tl x hx);rcases co.tg with ⟨x,p,rfl,rfl⟩ | ⟨es,kk,p,rfl,rfl,vP⟩
 ·have hn:n=1:=co.n;subst hn;refine⟨m6 0,nN co.nd rfl (.inl (EX x (List.mem_singleton.mpr rfl:x∈[x]))) (.inr (EX x (List.mem_singleton.mpr rfl:x∈[x]))),λF' R' v d σ' j3 Q ρb ρ1 Si rp _ e hq=>?_⟩;simp only[bw]at e;split at e
  ·rename_i hi;cases e;refine hq _ (by simp) (λj hj=>?_) (Si.HL rp hi);rw[List.getElem?_set_ne (by left)]
  ·cases e
 ·obtain⟨xs,rfl⟩:=xY vP;have hN:aW (.Tuple (xs.map λx=>Expr.Name x.1 x.2) kk p)=xs.map (·.1):=rm xs;have hn:n=xs.length:=by rw[co.n,hN,List.length_map]
  have:=tR (X:=cx X (aW (.Tuple (xs.map λx=>Expr.Name x.1 x.2) kk p)++dP S caps) sc cl C s₂ H2 fp) co.nd xs 0 (λj y hy=>by
   refine⟨?_,EX y.1 (by rw[hN];exact List.mem_map.mpr ⟨y,Vr hy,rfl⟩)⟩;show(aW (.Tuple (xs.map λx=>Expr.Name x.1 x.2) kk p)++dP S caps)[0+j]?=_;have hj:j<xs.length:=by
    by_cases hj:j<xs.length
    ·exact hj
    ·rw[List.getElem?_eq_none (by left)]at hy;cases hy
   rw[hN,Nat.zero_add,List.getElem?_append_left (by simpa using hj),List.getElem?_map,hy];rfl)
  obtain⟨h1,h2,h3⟩:=this;refine⟨_,xE JZ h1 h2 h3,λF' R' v d σ' j3 Q ρb ρ1 Si rp ho e hq=>?_⟩;cases d<;>try (simp[bw]at e;done)
  rename_i ds;simp only[bw]at e;split at e
  ·cases e
  ·cases rp with
   | @tup _ a ys _ hp rs =>
    rw[List.length_map]at e;have e':dZ (List.range' 0 xs.length) ds ρb=ok ρ1:=by rw[<- List.range_eq_range'];exact e
    refine⟨a,ys,rfl,hp,?_,kU (X:=cx X (aW (.Tuple (xs.map λx=>Expr.Name x.1 x.2) kk p)++dP S caps) sc cl C s₂ H2 fp) σ' n (by left) rs Si e' rfl (λ_ _=>rfl) hq⟩;rw[rs.length];have:∀(is:List Nat) (ds:List D) (ρ ρ':au),dZ is ds ρ=ok ρ'->ds.length=is.length:=by
     intro is;induction is with
     | nil=>intro ds ρ ρ' e;cases ds with | nil=>rfl | cons _ _=>cases e
     | cons i is ih=>intro ds ρ ρ' e;cases ds with
      | nil=>cases e
      | cons d ds =>
       change (if _ then _ else _)=_ at e;split at e
       ·simp[ih ds _ _ e]
       ·cases e
    rw[this _ _ _ _ e',List.length_range']
theorem PF:∀ f:Fl,bo (aC f)=false:=by intro f;cases f<;>rfl
mutual
theorem AR:∀ d:D,ak bo (aw aC d)=false
 | .aL=>by simp[aw,ak]
 | .bl _=>by simp[aw,ak]
 | .int _=>by simp[aw,ak]
 | .tup ds=>by simp[aw,ak,d_ ds]
 | .lst f ds=>by simp[aw,ak,d_ ds,PF]
 | .aZ f ks vs=>by simp[aw,ak,d_ vs,PF]
theorem d_:∀ ds:List D,aj bo (ag aC ds)=false
 | []=>by simp[ag,aj]
 | d::ds=>by simp[ag,aj,AR d,d_ ds]
end
theorem uj{a:Addr}{o:HO}(x:jv P w H h)(hn:H a=none)(new:bB P w (upd H a o) h a o):jv P w (upd H a o) h:=λb u e=>by
 by_cases hb:b=a
 ·subst hb;rw[aB]at e;cases e;exact new
 ·rw[aq hb]at e;exact(x b u e).i6 (λc v _ q=>q) (λc q=>by rw[aq (a_ q hn)];exact q) λc xs q=>by rw[aq (a_ q hn)];exact q
structure UM(X X':Cx)(F' R':Addr->Prop)(n:Nat)(base:au)(σ0:St)(fp:List Addr)(tn:Nat->Heap->Prop)(H2:Hp)(D:Addr)(items:List DI.D)(bind:DI.D->O au)(test:au->O Bool)(el:au->O DI.D)(all:List DI.D)(m:Nat)(s':Shared):Prop where
 ex:∃(i:Nat) (vs:List V) (af:List Value) (nn:Nat) (σ':St) (H':Hp) (dn rest:List DI.D),m=items.length - i/\i<=items.length/\Inv X' [(D,cG af nn)] σ' H' s'/\tn i s'.heap/\(∀ b∈fp,H' b=none)/\Vals vs af/\ai H2 H' /\
  SI X' F' R' (λ_=>none) base σ' H'/\bg X.K (gP X' F') R' (λ_=>none) [] H2 H' vs dn/\fP bind test el (items.drop i)=ok rest/\dn++rest=all
end
theorem bg.go(h:bg K G R τ fv H H1 vs ds)(e:ai H1 H2):bg K G R τ fv H H2 vs ds :=
 let ⟨τt,h1,h2⟩:=h;⟨τt,h1,h2.imp (λ_ _ h=>ao.same e h) λ_ _ _ _ h=>nd.same e h⟩
theorem lg:∀ {ds:List D} {d:D},aj bo ds=false->d∈ds->ak bo d=false
 | [],_,_,h=>nomatch h
 | e::ds,d,h,hm=>by
  rw[aj,Bool.or_eq_false_iff]at h;rcases List.mem_cons.mp hm with rfl | z
  ·exact h.1
  ·exact lg h.2 z
theorem vk{d:D}(h:mi d=ok items):∀ d∈items,ak bo d=false:=by
 unfold mi at h;split at h
 ·cases h;exact λd hd=>lg (d_ _) hd
 ·cases h
theorem rS{ik:IK}{xs:List D}(h:cH Φ ik xs=ok items):∀ d∈items,ak bo d=false:=by
 cases ik with
 | cm p=>obtain⟨d,_,h⟩:=ab h;exact vk h
 | k8 =>
  cases xs with
  | nil=>cases h
  | cons x t=>cases x<;>first | (cases h;done) | (cases t with
   | cons _ _=>cases h
   | nil =>
    obtain⟨_,h⟩:=uf h;subst h;intro d hd;obtain⟨k,_,rfl⟩:=List.mem_map.mp hd;rfl)
 | seq =>
  cases xs with
  | nil=>cases h
  | cons x t=>cases x<;>first | (cases h;done) | (cases t with
   | cons _ _=>cases h
   | nil=>cases h;exact λd hd=>lg (d_ _) hd)
theorem rT{n:Nat}{i:Nat}{d:D}(h:(ba n caps ρ)[i]?=some (some d)):n<=i:=by
 unfold ba at h;by_cases hn:i<n
 ·rw[List.getElem?_append_left (by simpa using hn),List.getElem?_replicate,if_pos hn]at h;cases h
 ·left
variable {c' elt:CE}{aJ cs es:List CE}
section
variable {X:Cx}{S:Sx}{k:Nat}{F:Addr->Prop}{Φ:ay}
theorem yb{n:Nat}{t:Tg}{sc:Scope}{cl:List (Str×Addr)}(L:Lk X S k Φ)(co:g_ S n t caps target sc):
  Lk (cx X (aW target++dP S caps) sc cl C s₂ H2 fp) (S.inner target caps sc) k Φ:=by
 refine⟨?_,rfl,co.nd,L.calm,L.room,L.bl,λf x h=>⟨(L.fn f x h).ex⟩,L.cs,L.pr⟩;show relabel sc X.env=pJ sc S.sc;rw[<- L.sc];rfl
theorem qw(L:Lk X S k Φ){n:Nat}{t:Tg}{ik:IK}{ifs:List Expr}{sc:Scope}(co:g_ S n t caps target sc)(wz:mU iter=true)
    (hE:∀(X':Cx) (F':Addr->Prop),Lk X' (S.inner target caps sc) k Φ->PE X' gj (tD X' F' Φ elt))
    (hC:(aJ=[]/\ifs=[])\/∃ c e,aJ=[c]/\ifs=[e]/\∀(X':Cx) (F':Addr->Prop),Lk X' (S.inner target caps sc) k Φ->PT X' e (ft X' F' Φ c))
    (hI:∀(pins:List (Addr×Obj)) (s:Shared) (σ:St) (H:Hp) (R:Addr->Prop) (τ:Addr->Option az) (ρ:au) (xs items:List D),Inv X pins σ H s->SI X F R τ ρ σ H->bM Φ es ρ=ok xs->cH Φ ik xs=ok items->∀ Rr:It->Hp->Prop,
      (∀ J H2,ai H H2->Yl X.K J (i9 X F τ (caps++b7 es) H2) H2 items->Rr J H2)->wpAny (model X.prog X.w) X.A (eval iter X.env) (λv s1=>wpAny (model X.prog X.w) X.A (pyIter v) (wG X pins σ target Rr) X.xe s1) X.xe s)
    {use:Option (Value->Sem Unit)} {Post:Value->Shared->Prop} {pins:List (Addr×Obj)} {s:Shared} {d:D} {OE:Pos} (I:Inv X pins σ H s) (Si:SI X F R τ ρ σ H) (ev:aH Φ (.comp n t caps ik es aJ elt) ρ=ok d)
    (JI:∀(acc C:Addr) (H1:Hp) (s1:Shared) (m:Str->Option Value),s1.heap.Ns C m->(C≠X.env.locals/\X.s₀.heap.objs.size<=C/\(∀ x c,X.env.cells.lookup x=some c->c≠C)/\(∀ p∈X.pn++pins,p.1≠C)/\H1 C=none)->(∀ h',Heap.SameBut C s1.heap h'->Inv X pins σ H1 { s1 with heap:=h' })->ai H H1 ->
      bj X.K (gP X F) R τ (fw (.comp n t caps ik es aJ elt)) H H1 (.ref acc) d->compPost (model X.prog X.w) X.A X.xe use Post (.ref acc) C (.ok .next) s1) :
    wpAny (model X.prog X.w) X.A (comprehension (.ListComp gj [⟨target,iter,ifs,0⟩] sc pos) sc X.env OE (newList []) false (eval iter X.env) use) Post X.xe s:=by
  obtain⟨xs,bU,ev⟩:=ab ev;obtain⟨items,sh,ev⟩:=ab ev;obtain⟨ds,FZ,ev⟩:=ab ev;simp only[CD]at ev;obtain⟨qf,rfl⟩:=ev;have JL:=rS sh;obtain⟨cl,JX,jR,r6⟩:=sy (env:=X.env) (sc:=sc) (λx hx=>I.ok.has x (by
    show X.env.scope.names.lookup x=some .cell\/X.env.scope.names.lookup x=some .free;rw[L.sc];exact co.free x hx))
  have lE:∀ x,foldedSetIterable iter X.env x=pure x:=by intro x;cases iter<;>first | rfl | (cases wz;done)
  refine wpAny_comprehension_free (use:=use) rfl lE JX co.kind co.loc (Vn (hI pins s σ H R τ ρ xs items I Si bU sh (λJ H2=>ai H H2/\Yl X.K J (i9 X F τ (caps++b7 es) H2) H2 items) (λJ H2 e y=>⟨e,y⟩)) (λxv s₁ h₁=>Vn h₁ (λNq s₂ h₂=>?_) λ_ _ e=>e) λ_ _ e=>e);obtain⟨it,fp,tn,J,H2,rfl,I2,T,HE,f2,e2,yl⟩:=h₂;have qO:=Si.go e2;have EY:∀ b∈fp,b<s₂.heap.objs.size:=λb hb=>let ⟨o,ho,_⟩:=T.obj 0 _ HE b hb;Vd ho;refine Vq (wpAny_newFunctionEnv co.xW (by intro y hy;simp at hy) (λh₁ n_ lC=>?_) co.kind);dsimp only at n_ lC ⊢;generalize Oj:s₂.heap.push { cls:=.type "list",dict:=none,data:=.seq ([]:List Value).toArray }=G2 at n_ lC ⊢;have QF:G2.objs.size=s₂.heap.objs.size+1:=by rw[<- Oj,Heap.size_push]
  have LF:s₂.heap.objs.size≠s₂.heap.objs.size+1:=Vi (Wn _);rw[QF]at n_ lC;have old:∀ b o,s₂.heap.get? b=some o->h₁.get? b=some o:=λb o e=>lC.extBut b o (Vi (Vu (Vd e))) (U_ _ (Oj▸U_ _ e));have lG:h₁.get? s₂.heap.objs.size=some (cG [] 0):=lC.extBut _ _ LF (U_ _ (Oj▸Ve _ rfl))
  let X':=cx X (aW target++dP S caps) sc cl (s₂.heap.objs.size+1) s₂ H2 fp
  let F':=gM (gP X F) τ (caps++b7 es)
  let R':=i9 X F τ (caps++b7 es) H2
  have L':Lk X' (S.inner target caps sc) k Φ:=yb L co;have I4:=λtk=>yo (h₁:=h₁) (tk:=tk) L co I2 jR r6 f2 EY (by simpa using n_) old lG;have S4:SI X' F' R' (λ_=>none) (ba n caps ρ) (mh n caps σ) H2:=xf (t:=t) qO (λi hi=>by simp[hi]);obtain⟨g,hg,vO⟩:=C_ (X:=X) (S:=S) (cl:=cl) (fp:=fp) (s₂:=s₂) (H2:=H2) (C:=s₂.heap.objs.size+1) L.calm co;have Ol:s₂.heap.objs.size∉X'.fs:=λz=>by
    rcases List.mem_cons.mp (I2.i5 _ z)with w | w
    · exact absurd w (VJ I2.lt)
    · exact I2.Eh (Vc _) w
  have Fb:∀ x c,cl.lookup x=some c->c≠s₂.heap.objs.size:=λx c e=>by
    obtain⟨v,q⟩:=I2.cell x c (jR x c e);exact Vi q.lt
  have Bd:∀ b∈fp,b≠X'.env.locals/\b∉X'.fs/\(b∈X'.ex\/X'.s₀.heap.objs.size<=b)/\(∀ x c,X'.env.cells.lookup x=some c->c≠b):=λb hb =>
    ⟨Vi (Vu (EY b hb)),λz=>by
      rcases List.mem_cons.mp (I2.i5 b z)with w | w
      · exact(f2 b hb).2.1 w
      · exact(f2 b hb).2.2.1 w,.inl hb,λx c e=>(f2 b hb).2.2.2.2.1 x c (jR x c e)⟩
  have JT:∀ b∈fp,b≠s₂.heap.objs.size:=λb hb=>Vi (EY b hb);have fin:∀(vs:List V) (af:List Value) (nn:Nat) (σ':St) (H':Hp) (s1:Shared),Inv X' [(s₂.heap.objs.size,cG af nn)] σ' H' s1->Vals vs af->ai H2 H'->bg X.K (gP X' F') R' (λ_=>none) [] H2 H' vs ds ->
      compPost (model X.prog X.w) X.A X.xe use Post (.ref s₂.heap.objs.size) (s₂.heap.objs.size+1) (.ok .next) s1:=by
    intro vs af nn σ' H' s1 I1 rv sm Ar;obtain⟨m,hn,_⟩:=I1.loc;obtain⟨pD,nD,_,_,_⟩:=I1.pin (s₂.heap.objs.size,cG af nn) (Vg _ Vb);have bs:=I1.base;have Cw:∀ b o,s₂.heap.get? b=some o->b≠s₂.heap.objs.size+1:=λb o e=>Vi (Vu (Vd e));have R8:∀ b o,s₂.heap.get? b=some o->b≠s₂.heap.objs.size:=λb o e=>Vi (Vd e);have Mb:∀ b u,H' b=some u->upd H' s₂.heap.objs.size (.lst vs) b=some u:=λb u e=>by rw[aq (a_ e nD)];exact e
    have hlen:vs.length<=sizeLine:=by
      obtain⟨_,_,rr⟩:=Ar;have hz:sizeLine=16777216:=V3;have hc:fm=1000000:=rfl;rw[rr.length];left
    have IX:∀ h',Heap.SameBut (s₂.heap.objs.size+1) s1.heap h'->Inv X pins σ (upd H' s₂.heap.objs.size (.lst vs)) { s1 with heap:=h' }:=λh' vK=>by
      have un:Un (wF X.stack) fp H2 (upd H' s₂.heap.objs.size (.lst vs)) s₂.heap h' :=
        ⟨λb o e n hb hx=>vK.extBut b o (Cw b o e) (bs.keep b o e n hb hx),
         λb o e n hb hx=>let ⟨sl,q⟩:=bs.slot b o e n hb hx;⟨sl,vK.extBut b _ (Cw b o e) q⟩,
         λb o e n hx=>by rw[aq (R8 b o e)];exact bs.free b o e n hx,
         λb o e hx=>let ⟨o',q⟩:=bs.there b o e hx;⟨o',vK.extBut b _ (Cw b o e) q⟩,
         λb xs e=>Mb b _ (bs.nB b xs e),λb o u e=>Mb b _ (bs.mm b o u e),λb ps e=>let ⟨more,q⟩:=bs.nC b ps e;⟨more,Mb b _ q⟩⟩
      have NX:jv X.prog X.w H' h':=λa o e=>(I1.bR a o e).i6 (λb u hb q=>vK.extBut b u (by
        rintro rfl;have hf:H' (s₂.heap.objs.size+1)=none:=I1.free;rcases hb with z | z
        · rw[<- z,hf]at e;cases e
        · rw[hf]at z;cases z) q) (λ_ q=>q) λ_ _ q=>q
      have NW:jv X.prog X.w (upd H' s₂.heap.objs.size (.lst vs)) h':=uj NX nD ⟨hlen,af,nn,rv,vK.extBut _ _ LF pD⟩;exact I2.KD (ch:=fp) I1.os un NW I1.bare λb hb=>⟨(f2 b hb).2.2.2.1,(f2 b hb).2.1,(f2 b hb).2.2.2.2.1,(f2 b hb).2.2.2.2.2⟩
    have eS:ai H' (upd H' s₂.heap.objs.size (.lst vs)):=ai.upd nD;obtain⟨τt,fr,rs⟩:=Ar;have Nf:s₂.heap.objs.size+1≠s₂.heap.objs.size:=Nat.succ_ne_self _;refine JI s₂.heap.objs.size (s₂.heap.objs.size+1) _ s1 m hn ⟨VJ (Vu I2.lt),WL I2.sz,λx c e=>?_,λp hp=>?_,?_⟩ IX ((e2.trans sm).trans eS) ⟨λq=>if q=s₂.heap.objs.size then some []else τt q,λq z hz=>?_,.lst ⟨aB,by simp⟩ (ae.map (q:=[]) (q':=[]) (λ_ _ h=>ao.same eS h) (λc p ys f h=>?_) rs [] rfl)⟩
    · obtain⟨v,z⟩:=I2.cell x c e
      exact Vi (Vu z.lt)
    · exact Vi (Vu (Vd (I2.pin p hp).1))
    · rw[aq Nf];exact I1.free
    · by_cases rW:q=s₂.heap.objs.size
      · rw[rW];exact e2.free (sm.free nD)
      · simp only[rW,if_false]at hz;exact e2.free (fr q z hz)
    · have h':=nd.same eS h
      have O9:∀ p,gP X' F' p->gM (gP X F) τ (caps++b7 es) p:=λp hp=>hp.elim id λz=>⟨.inr (qO.same.free z),λc i e=>absurd z (qO.th p _ e)⟩
      cases f with
      | ow =>
        have rW:p≠s₂.heap.objs.size:=by
          intro z;subst z;exact h.1.ne nD
        refine⟨h'.1,?_⟩;show(if p=s₂.heap.objs.size then some []else τt p)=_;rw[if_neg rW];exact h'.2
      | fz=>exact⟨h'.1,h'.2.2⟩
      | al=>exact⟨h'.1,O9 p h'.2.1⟩
      | sc=>exact h'
  have Rp:∀(P:List (Addr×Obj)) (ρ1:au) (b:Bool) (σ2:St) (H5:Hp) (s6:Shared),fj Φ aJ ρ1=ok b->Inv X' P σ2 H5 s6->SI X' F' R' (λ_=>none) ρ1 σ2 H5 ->
      wpAny (model X.prog X.w) X.A (forIn ifs true λc r=>if r=true then do let ok <- isTrue c X'.env (eval c X'.env);pure (ForInStep.yield ok)else pure (ForInStep.yield r)) (λM7 s7=>M7=b/\∃ H7,Inv X' P σ2 H7 s7/\ai H5 H7) (λ_ _=>False) s6:=by
    intro P ρ1 b σ2 H5 s6 eb I6 S6;rcases hC with ⟨rfl,rfl⟩ | ⟨c,e,rfl,rfl,hPT⟩
    · rw[fj]at eb;cases eb
      exact wpAny_tests_nil ⟨rfl,H5,I6,ai.refl _⟩
    · rw[fj]at eb
      obtain⟨b',T4,eb⟩:=ab eb;have hb:b'=b:=by
        cases b' with
        | true=>rw[if_pos rfl,fj]at eb;cases eb;rfl
        | false=>rw[if_neg (by simp)]at eb;cases eb;rfl
      subst hb;refine wpAny_tests_one (Vn (hPT X' F' L' P s6 σ2 H5 (λQ_ H7=>Q_=b'/\ai H5 H7) I6 ⟨R',_,ρ1,b',S6,T4,λH7 e7=>⟨rfl,e7⟩⟩) (λQ_ s7 ⟨H7,I7,hb,e7⟩=>⟨hb,H7,I7,e7⟩) λ_ _ e=>e)
  have loop:∀ tk,codeAny (model X.prog X.w) X.A (.compLoop (.ListComp gj [⟨target,iter,ifs,0⟩] sc pos) 0 (.ref it) (.ref s₂.heap.objs.size) X'.env)
      (compPost (model X.prog X.w) X.A X.xe use Post (.ref s₂.heap.objs.size) (s₂.heap.objs.size+1)) { s₂ with heap:=h₁,toks:=tk }:=by
    intro tk;refine ox (UM X X' F' R' n (ba n caps ρ) (mh n caps σ) fp tn H2 s₂.heap.objs.size items (λd=>bw t d (ba n caps ρ)) (λρ'=>fj Φ aJ ρ') (λρ'=>aH Φ elt ρ') ds) ?_ items.length
      ⟨0,[],[],0,mh n caps σ,H2,[],ds,rfl,Vs _,I4 tk,T.keep _ _ _ HE (λb _ o e=>old b o e),λb hb=>(f2 b hb).1,.nil,ai.refl _,S4,.nil,by rw[List.drop_zero];exact FZ,rfl⟩
    rintro m s' ⟨i,vs,af,nn,σ',H',dn,rest,hm,hi,I',i7,fr',rv,sm,dW,Ar,dj,eall⟩;have Fx:∀ b∈fp,l5 X' [(s₂.heap.objs.size,cG af nn)] H' b:=λb hb=>⟨fr' b hb,(Bd b hb).1,(Bd b hb).2.1,(Bd b hb).2.2.1,(Bd b hb).2.2.2,λp hp=>by
      have EU:p=(s₂.heap.objs.size,cG af nn):=by simpa [X',cx]using hp
      rw[EU];exact(JT b hb).symm⟩
    by_cases fi:i<items.length
    · refine Vn (T.item X' rfl rfl rfl L.calm i _ s' σ' H' (λ_ _=>False) I' Fx i7 (yl.go i H' sm fi)) (λr s1 h4=>?_) λ_ _ e=>e
      obtain⟨u,hr,h4⟩:=h4;subst hr;refine Vn h4 (λ_ s5 h5=>?_) λ_ _ e=>e;obtain⟨x,H5,I5,r5,y5,Dl,OD⟩:=h5;obtain⟨e5,dd,hd,rd⟩:=yl.qR i H' x H5 sm fi y5;have Pe:=I5.pinned (fp:=fp) (λb hb=>⟨OD b hb,(Fx b hb).2⟩) (T.obj _ _ Dl);have qe:items.drop i=dd::items.drop (i+1):=by
        rw[List.drop_eq_getElem_cons fi];rw[List.getElem?_eq_getElem fi]at hd;cases hd;rfl
      rw[qe,fP]at dj;obtain⟨ρ1,eb,dj⟩:=ab dj;obtain⟨bb,et,dj⟩:=ab dj;refine Vn (hg _ s5 σ' H5 x u (λσ2 H6=>H6=H5/\σ2.length=σ'.length/\(∀ j,n<=j->σ2[j]?=σ'[j]?)/\SI X' F' R' (λ_=>none) ρ1 σ2 H5) Pe r5
        (vO F' R' x dd σ' H5 _ (ba n caps ρ) ρ1 (dW.go e5) rd (JL dd (Vr hd)) eb λσ2 g1 g2 g3=>⟨rfl,g1,g2,g3⟩)) (λ_ s6 h6=>?_) λ_ _ e=>e
      obtain⟨σ2,H6,I6,rfl,g1,g2,S6⟩:=h6;refine Vn (Rp _ ρ1 bb σ2 H6 s6 et I6 S6) (λM7 s7 h7=>?_) λ_ _ e=>e;obtain⟨rfl,H7,I7,e7⟩:=h7;have Me:∀ {P:List (Addr×Obj)} {σ3:St} {H8:Hp} {s8:Shared},Inv X' (P++fG fp s5.heap) σ3 H8 s8->tn (i+1) s8.heap/\∀ b∈fp,H8 b=none:=λ{P σ3 H8 s8} I8 =>
        ⟨T.keep _ _ _ Dl λb hb o e=>(I8.pin (b,o) (Vg _ (Vg _ (eK hb e)))).1,λb hb=>by
          obtain⟨o,e,_⟩:=T.obj _ _ Dl b hb;exact(I8.pin (b,o) (Vg _ (Vg _ (eK hb e)))).2.1⟩
      have CO:∀ {H8:Hp},ai H7 H8->SI X' F' R' (λ_=>none) (ba n caps ρ) σ2 H8:=λ{H8} e8=>(dW.go ((e5.trans e7).trans e8)).sig g1 λj d hj=>g2 j (rT hj);cases M7 with
      | false =>
        rw[if_neg (by simp)]at dj ⊢;exact⟨items.length - (i+1),by left,i+1,vs,af,nn,σ2,H7,dn,rest,rfl,fi,I7.ie,(Me I7).1,(Me I7).2,rv,(sm.trans e5).trans e7,CO (ai.refl _),Ar.go (e5.trans e7),dj,eall⟩
      | true =>
        rw[if_pos rfl]at dj ⊢;obtain⟨y,ey,dj⟩:=ab dj;obtain⟨ys,yO,dj⟩:=ab dj;cases dj;refine Vn (hE X' F' L' _ s7 σ2 H7 (λv H8=>ai H7 H8/\bj X.K (gP X' F') R' (λ_=>none) [] H7 H8 v y) I7 ⟨R',_,ρ1,y,S6.go e7,ey,λv H8 e8 r8=>⟨e8,?_⟩⟩) (λu8 s8 h8=>?_) λ_ _ e=>e
        · obtain⟨τt,fr,rr⟩:=r8
          exact⟨τt,fr,rr.imp (q:=[]) (q':=[]) (λ_ _ h=>h) λc p ys f h=>h.mono id (λh=>⟨h.1,λ_ _ e=>by cases e⟩) id⟩
        · obtain⟨v8,H8,I8,RQ,e8,r8⟩:=h8
          obtain⟨pD,nD,_,_,_⟩:=I8.pin (s₂.heap.objs.size,cG af nn) (Vg _ (Vw _ Vb));have hlen:af.length<=1000000:=by
            obtain⟨_,_,rr⟩:=Ar;have h1:dn.length<=ds.length:=by rw[<- eall,List.length_append];left
            have hc:fm=1000000:=rfl;rw[<- rv.length,rr.length];left
          have hz:sizeLine=16777216:=V3;refine V0 PySem.F.slot_list_append ⟨_,pD,rfl⟩ PySem.F.entry_list_append (PySem.F.args_list_append_2 _ _) (PySem.list_append s₂.heap.objs.size af.toArray nn u8 (by rw[List.size_toArray];left)) ⟨pD,?_⟩;have q:=PySem.IsL.update pD (λx=>x.push u8);have JG:af.toArray.push u8=(af++[u8]).toArray:=by simp
          rw[JG]at q;obtain⟨Ll,q'⟩:∃ Ll,(s8.heap.update s₂.heap.objs.size (Obj.mapSeq λx=>x.push u8)).get? s₂.heap.objs.size=some (cG (af++[u8]) Ll):=⟨_,q⟩
          have Ux:Inv X' (fG fp s5.heap) σ2 H8 s8:=I8.f9 λp hp=>I8.pin p (Vg _ (Vg _ hp));have Rb:Inv X' (fG fp s5.heap) σ2 H8 { s8 with heap:=s8.heap.update s₂.heap.objs.size (Obj.mapSeq λx=>x.push u8),toks:=s8.toks } :=
            Ux.turned (it:=s₂.heap.objs.size) (λb o hb e=>(We s8.heap (Obj.mapSeq λx=>x.push u8) (WO hb)).trans e) nD LF (.inr (Vc _)) Fb λp hp=>by
              have EU:p∈fG fp s5.heap:=by simpa [X',cx]using hp
              exact JT p.1 (mT EU).1
          have kp:=Me (P:=[]) (by rw[List.nil_append];exact Rb);refine⟨items.length - (i+1),by left,i+1,vs++[v8],af++[u8],Ll,σ2,H8,dn++[y],ys,rfl,fi,Rb.f9 (λp hp=>?_),kp.1,kp.2,rv.append (.cons RQ .nil),((sm.trans e5).trans e7).trans e8,CO e8,bg.snoc ((sm.trans e5).trans e7) e8 (Ar.go (e5.trans e7)) r8,yO,by rw[List.append_assoc];exact eall⟩;have EU:p=(s₂.heap.objs.size,cG (af++[u8]) Ll):=by simpa using hp
          rw[EU];exact⟨q',nD,LF,Ol,λv z=>by cases z⟩
    · refine Vn (T.done X' rfl rfl rfl L.calm i _ s' σ' H' (λ_ _=>False) I' Fx i7 (yl.stop i H' sm (by left))) (λr s1 h1=>?_) λ_ _ e=>e
      obtain⟨hr,I1⟩:=h1;subst hr;have N1:items.drop i=[]:=List.drop_eq_nil_of_le (by left);rw[N1,fP]at dj;cases dj;rw[List.append_nil]at eall;subst eall;exact fin vs af nn σ' H' s1 I1 rv sm Ar
  have key:=λtk=>codeAny_compStart_list (loop tk) (T.self X.A 0 _ _ _ (T.keep _ _ _ HE λb _ o e=>old b o e) (loop tk));rw[QF];exact key _
theorem Ak(L:Lk X S k Φ){n:Nat}{t:Tg}{ik:IK}{ifs:List Expr}{sc:Scope}(co:g_ S n t caps target sc)(wz:mU iter=true)
  (hE:∀(X':Cx) (F':Addr->Prop),Lk X' (S.inner target caps sc) k Φ->PE X' gj (tD X' F' Φ elt))
  (hC:(aJ=[]/\ifs=[])\/∃ c e,aJ=[c]/\ifs=[e]/\∀(X':Cx) (F':Addr->Prop),Lk X' (S.inner target caps sc) k Φ->PT X' e (ft X' F' Φ c))
  (hI:∀(pins:List (Addr×Obj)) (s:Shared) (σ:St) (H:Hp) (R:Addr->Prop) (τ:Addr->Option az) (ρ:au) (xs items:List D),Inv X pins σ H s->SI X F R τ ρ σ H->bM Φ es ρ=ok xs->cH Φ ik xs=ok items->∀ Rr:It->Hp->Prop,
   (∀ J H2,ai H H2->Yl X.K J (i9 X F τ (caps++b7 es) H2) H2 items->Rr J H2)->wpAny (model X.prog X.w) X.A (eval iter X.env) (λv s1=>wpAny (model X.prog X.w) X.A (pyIter v) (wG X pins σ target Rr) X.xe s1) X.xe s) :
  PE X (.ListComp gj [⟨target,iter,ifs,0⟩] sc pos) (tD X F Φ (.comp n t caps ik es aJ elt)):=by
 intro pins s σ H Q I hq;obtain⟨R,τ,ρ,d,Si,ev,hq⟩:=hq;rw[eval_ListComp];refine qw L co wz hE hC hI (use:=none) (Post:=EP X pins σ Q) I Si ev λacc C H1 s1 m hn _ IX sm rt=>?_;exact⟨m,hn,λh' vK=>⟨.ref acc,H1,IX h' vK,rfl,hq _ _ sm rt⟩⟩
end
section
variable {X:Cx}{pins:List (Addr×Obj)}{s:Shared}{σ:L2.St}{H:Hp}
theorem p7{A:Around}{E:Value->Shared->Prop}{l:Addr}{items:Array Value}{Q:Value->Shared->Prop}{s:Shared}(hl:s.heap.IsList l items)
  (h:∀ s₂:Shared,s₂={ s with heap:=s.heap.push { cls:=.type "list_iterator",data:=.fields #[.ref l,.int 0 0] } }->s₂.heap.IsListIter s.heap.objs.size l 0/\s₂.heap.IsList l items->(∀ b∈[s.heap.objs.size,l],b<s₂.heap.objs.size)->l≠s.heap.objs.size->Q (.ref s.heap.objs.size) s₂) :
  wpAny (model prog w) A (pyIter (.ref l)) Q E s:=by
 have fi:l<s.heap.objs.size:=by obtain⟨_,e,_⟩:=hl;exact Vd e
 refine wpAny_pyIter_list hl (h _ rfl ⟨⟨_,Ve _ rfl,rfl,rfl⟩,hl.push _⟩ (λb hb=>?_) (Vi fi));have hz:(s.heap.push { cls:=.type "list_iterator",data:=.fields #[.ref l,.int 0 0] }).objs.size=s.heap.objs.size+1:=WB ..;have um:b=s.heap.objs.size\/b=l:=by simpa using hb
 show b<_;rw[hz];rcases um with e | e
 ·rw[e];exact Wn _
 ·rw[e];exact Vu fi
theorem p5{o₀:Obj}{s:Shared}(hk:∀ b o,b∉[s.heap.objs.size]->(s.heap.push o₀).get? b=some o->h'.get? b=some o):∀ b o,s.heap.get? b=some o->h'.get? b=some o:=λb o e =>
 hk b o (λhm=>absurd ((by simpa using hm:b=s.heap.objs.size)▸Vd e) (Vz _)) (U_ _ e)
theorem dM{a:Addr}{af:Array Value}(p:PlainL h a af):h.IsList a af:=let ⟨o,n,h1,h2,_,h4⟩:=p;⟨o,h1,h2,n,h4⟩
theorem jG(val:Nat->Int)(ns:List Int)(hv:∀ i,val i=ns.getD i 0):∀ k,k<=ns.length->preSum val k=(ns.take k).sum
 | 0,_=>by simp[preSum]
 | k+1,h=>by
  have hk:k<ns.length:=by left
  rw[preSum,jG val ns hv k (by left),hv k,List.take_add_one,List.sum_append];simp[List.getD,hk]
theorem wd(hc:X.calm=true):dJ X (.builtin "sum") (λxs H Q=>∃(p:Addr) (ns:List Int),xs=[.ref p]/\c_ X.K H p (ns.map V.int)/\Q (.int ns.sum) H):=by
 intro pins s σ H xs us Q I r h;obtain⟨p,ns,rfl,hq,q⟩:=h;obtain⟨u,rfl,ru⟩:=r.one;cases ru;obtain⟨af,rv,pl,hz⟩:=I.list hq;have hlen:af.length=ns.length:=by have:=rv.length;simpa using this.symm
 refine call_sum_walkG (p7 (dM pl) λs₂ e st Be N5=>?_);subst e;refine⟨_,_,_,_,_,_,λi=>ns.getD i 0,rfl,Walks.list (A:=X.A.in1) (I.ok.hd hc) _ p N5 af.toArray,st,Be,λi v hP=>?_,λh' tk t' hk=>?_⟩
 ·have hv:af[i]?=some v:=by simpa using hP
  have hi:i<af.length:=by
   by_cases z:i<af.length
   ·exact z
   ·rw[List.getElem?_eq_none (by left)]at hv;cases hv
  have hn:(ns.map V.int)[i]?=some (.int (ns.getD i 0)):=by
   rw[List.getElem?_map,List.getElem?_eq_getElem (by left)];simp[List.getD,show i<ns.length by left]
  obtain⟨u,hu,ru⟩:=rv.get hn;rw[hv]at hu;cases hu;exact ru
 ·refine⟨.int ns.sum,H,I.kept (t':=tk) (p5 hk),⟨t',?_⟩,q⟩;have hz:preSum (λi=>ns.getD i 0) af.toArray.size=ns.sum:=by
   rw[List.size_toArray,hlen,jG _ ns (λ_=>rfl) _ (Nat.le_refl _),List.take_length]
  rw[hz]
theorem range_all{α:Type}(l:List α)(f:α->Bool)(tr:Nat->Bool)(h:∀ i a,l[i]?=some a->tr i=f a):(List.range l.length).all tr=l.all f:=by
 rw[Bool.eq_iff_iff,List.all_eq_true,List.all_eq_true];constructor
 ·intro z a ha;obtain⟨i,hi,e⟩:=List.mem_iff_getElem.mp ha;have:=z i (List.mem_range.mpr hi);rw[h i a (by rw[List.getElem?_eq_getElem hi,e])]at this;exact this
 ·intro z i hi;have hi:=List.mem_range.mp hi;rw[h i l[i] (List.getElem?_eq_getElem hi)];exact z _ (Wm hi)
theorem wg(hc:X.calm=true):dJ X (.builtin "all") (λxs H Q=>∃(p:Addr) (bs:List Bool),xs=[.ref p]/\c_ X.K H p (bs.map V.bl)/\Q (.bl (bs.all id)) H):=by
 intro pins s σ H xs us Q I r h;obtain⟨p,bs,rfl,hq,q⟩:=h;obtain⟨u,rfl,ru⟩:=r.one;cases ru;obtain⟨af,rv,pl,hz⟩:=I.list hq;have hlen:af.length=bs.length:=by have:=rv.length;simpa using this.symm
 refine call_all_walk (p7 (dM pl) λs₂ e st Be N5=>?_);subst e;refine⟨_,_,_,_,_,_,λi=>bs.getD i false,rfl,Walks.list (A:=X.A.in1) (I.ok.hd hc) _ p N5 af.toArray,st,λi v s' Q' E' hP hQ=>?_,λh' tk hk=>?_⟩
 ·have hv:af[i]?=some v:=by simpa using hP
  have hi:i<af.length:=by
   by_cases z:i<af.length
   ·exact z
   ·rw[List.getElem?_eq_none (by left)]at hv;cases hv
  have hn:(bs.map V.bl)[i]?=some (.bl (bs.getD i false)):=by
   rw[List.getElem?_map,List.getElem?_eq_getElem (by left)];simp[List.getD,show i<bs.length by left]
  obtain⟨u,hu,ru⟩:=rv.get hn;rw[hv]at hu;cases hu;cases ru;exact VE hQ
 ·refine⟨.bl (bs.all id),H,I.kept (t':=tk) (p5 hk),?_,q⟩;show Value.bool _=Value.bool _;rw[List.size_toArray,hlen,range_all bs id _ λi a e=>by simp[List.getD,e]]
end
variable {ns:List Int}
section
variable {prog:Program}{w:World}{A:Around}{E:Value->Shared->Prop}{s:Shared}
theorem lS{l:Addr}{vs:List Value}{Q:List Value->Shared->Prop}{o:Obj}{n:Nat}(ho:s.heap.get? l=some o)(hc:o.cls=.type "tuple")(hd:o.data=.seq vs.toArray n)
  (h:Q vs { s with heap:=(s.heap.push (seqObj "list" #[] 0)).update s.heap.objs.size (Obj.mapSeq (· ++ vs.toArray)) }) (hsz:vs.length<=sizeLine):wpAny (model prog w) A (collect (.ref l)) Q E s:=by
 unfold collect;refine U6 (wpAny_runValue (codeAny_builtin entry_proto_collect' ?_));show wpAny _ _ (newList [] >>= λz=>again (.builtin "list.__iadd__" ⟨[z,.ref l],[]⟩)) _ _ s;refine U6 (WK (U9 ⟨Code.quiet_builtin _ (by decide +kernel),codeAny_builtin entry_list_iadd' ?_⟩));have z1:(s.heap.push (seqObj "list" #[] 0)).get? l=some o:=U_ _ ho;have z2:(s.heap.push (seqObj "list" #[] 0)).get? s.heap.objs.size=some (seqObj "list" #[] 0):=Ve _ rfl;show wpAny _ _ (Builtin.List.listExtendWith (.ref s.heap.objs.size) (.ref l) (.ref s.heap.objs.size)) _ _ ({ s with heap:=s.heap.push (seqObj "list" #[] 0) }:Shared);unfold Builtin.List.listExtendWith;refine U6 (wpAny_typeOf (T:="tuple") ⟨o,z1,hc⟩ ?_);rw[VA (by rw[show(Value.type "tuple" == Value.type "tuple")=true from rfl,Bool.or_true])];refine U6 (listItems_at z1 hd (U6 (listItems_at z2 rfl ?_)));rw[if_neg (by simp)];refine U6 (listUpdate_at z2 rfl ?_ (Vs _) (by
  show(#[]++vs.toArray).size<=sizeLine+1;rw[Array.size_append,List.size_toArray];exact WL (by simpa using hsz)))
 refine U9 ?_;show wpAny (model prog w) A (load s.heap.objs.size >>= λo=>match o.data with
   | .seq xs _=>pure xs.toList
   | _=>unsupported "internal:collect") Q E ({ s with heap:=(s.heap.push (seqObj "list" #[] 0)).update s.heap.objs.size (Obj.mapSeq (· ++ vs.toArray)) }:Shared)
 refine U6 (wpAny_load (get?_update_seq z2 _) ?_);show wpAny _ _ (pure ((#[]:Array Value)++vs.toArray).toList) Q E _;rw[show((#[]:Array Value)++vs.toArray).toList=vs by simp];exact U9 h
theorem mf{l:Addr}{vs:List Value}{Q:Value->Shared->Prop}{o:Obj}{n:Nat}(ho:s.heap.get? l=some o)(hc:o.cls=.type "tuple")(hd:o.data=.seq vs.toArray n)(hI:IntsAre vs ns)(wD:vs.length<64)
  (h:∀(out:Array Value) (l7:List Int),IntsAre out.toList l7->l7.Perm ns->l7.Pairwise (· <= ·)->Q (.ref (s.heap.objs.size+1)) { s with heap:=sortedAll s.heap vs out }):wpAny (model prog w) A (call (.builtin "sorted") [.ref l]) Q E s:=by
 refine Calls.call_function_entry kind_sorted plain_sorted entry_sorted (args_sorted1 _) ?_;unfold Builtin.«sorted»;have hz:vs.length<=sizeLine:=by rw[sizeLine_eq];left
 refine U6 (m:=checkCount "sorted" 1 1 _) (U9 (U6 (lS ho hc hd (U6 (WK ?_)) hz)));have e1:((s.heap.push (seqObj "list" #[] 0)).update s.heap.objs.size (Obj.mapSeq (· ++ vs.toArray))).objs.size=s.heap.objs.size+1:=by rw[Heap.size_update,size_push']
 have e2:(((s.heap.push (seqObj "list" #[] 0)).update s.heap.objs.size (Obj.mapSeq (· ++ vs.toArray))).push (seqObj "list" vs.toArray 0)).get? (s.heap.objs.size+1)=some (seqObj "list" vs.toArray 0):=by
  rw[<- e1];exact Ve _ rfl
 show wpAny _ _ _ _ _ ({ s with heap:=((s.heap.push (seqObj "list" #[] 0)).update s.heap.objs.size (Obj.mapSeq (· ++ vs.toArray))).push (seqObj "list" vs.toArray 0) }:Shared);rw[e1];refine U6 (VN (Vt slot_list_sort ⟨_,e2,rfl⟩ entry_list_sort (list_sort_tree e2 hI wD λout l7 a1 a2 a3=>⟨_,rfl,U9 ⟨_,rfl,h out l7 a1 a2 a3⟩⟩) (args_list_sort _)))
end
theorem sortI_perm(ns:List Int):(sortI ns).Perm ns:=Vy ..
theorem xb(ns:List Int):(sortI ns).Pairwise (· <= ·):=by
 have:=List.pairwise_mergeSort (le:=λa b:Int=>decide (a<=b)) (by intro a b c;simp;left) (by intro a b;simp;left) ns;unfold sortI;simpa using this
theorem cg:∀ {vs:List Value} {ns:List Int},Vals (ns.map V.int) vs->IntsAre vs ns
 | _,[],h=>by cases h;exact .nil
 | _,n::ns,h=>by
  cases h with
  | cons r t=>obtain⟨tk,rfl⟩:=r;exact .cons n tk (cg t)
theorem BG:dJ X (.builtin "sorted") (λxs H Q=>∃(p:Addr) (ns:List Int),xs=[.ref p]/\(c_ X.K H p (ns.map V.int)\/ao X.K H p (ns.map V.int))/\ns.length<64/\∀ l,H l=none->Q (.ref l) (upd H l (.lst ((sortI ns).map V.int)))):=by
 intro pins s σ H xs us Q I r h;obtain⟨p,ns,rfl,hq,wD,q⟩:=h;obtain⟨u,rfl,ru⟩:=r.one;cases ru;have fin:∀(vs:List Value) (out:Array Value) (l7:List Int),IntsAre out.toList l7->l7.Perm ns->l7.Pairwise (· <= ·)->EP X pins σ Q (.ref (s.heap.objs.size+1)) { s with heap:=sortedAll s.heap vs out }:=by
  intro vs out l7 h1 h2 h3;obtain rfl:l7=sortI ns:=PySem.W.ksm_same (h2.trans (sortI_perm ns).symm) h3 (xb ns);obtain⟨e,he⟩:=sortedAll_at s.heap vs out;have hn:H (s.heap.objs.size+1)=none:=I.bR.fresh (Wg _);refine⟨.ref (s.heap.objs.size+1),upd H (s.heap.objs.size+1) (.lst ((sortI ns).map V.int)),I.laid (t':=s.toks) (λb u z=>sortedAll_old z) (Wg _) ⟨?_,out.toList,e,iY h1,by simpa using he⟩,rfl,q _ hn⟩;rw[List.length_map,(sortI_perm ns).length_eq,sizeLine_eq];left
 rcases hq with hq | hq
 ·obtain⟨af,rv,pl,hz⟩:=I.list hq;have hl:af.length<64:=by rw[<- rv.length];simpa using wD
  exact sorted_ints (dM pl) (cg rv) hl λout l7 h1 h2 h3=>fin af out l7 h1 h2 h3
 ·obtain⟨af,rv,⟨o,ho,hc,n,hd⟩,hz⟩:=I.tuple hq;have hl:af.length<64:=by rw[<- rv.length];simpa using wD
  exact mf ho hc hd (cg rv) hl λout l7 h1 h2 h3=>fin af out l7 h1 h2 h3
theorem wY:isSubtype (.type "tuple") (.type "set")=pure false:=by rw[isSubtype_type];kernel_rfl
theorem o5:isSubtype (.type "tuple") (.type "frozenset")=pure false:=by rw[isSubtype_type];kernel_rfl
noncomputable abbrev jO(led:Bool):Obj:={ cls:=.type "set",dict:=none,data:=.set #[] 0 (.fresh 0 0 led) }
noncomputable abbrev dist(ns:List Int):List Int:=firstMet (λi=>ns.getD i 0) ns.length
section
variable {prog:Program}{w:World}{A:Around}{E:Value->Shared->Prop}{s:Shared}
theorem rz{l:Addr}{af:List Value}{Q:Value->Shared->Prop}(hh:A.handled=none)(hl:s.heap.IsTuple l af.toArray)(hi:IntsAre af ns)(hb:af.length+1<scanBound)
  (h:∀(h':Heap) (tk:Nat),h'.SetOf (intKind prog w) s.heap.objs.size (λk=>(dist ns).any (· == k)) (dist ns).length->(∀ b o,b<s.heap.objs.size->s.heap.get? b=some o->h'.get? b=some o)->Q (.ref s.heap.objs.size) { s with heap:=h',toks:=tk }) :
  wpAny (model prog w) A (call (.type "set") [.ref l]) Q E s:=by
 have Lz:af.length=ns.length:=hi.length;obtain⟨c,tl,k1⟩:=F.called_set.mro;have k2:=F.called_set.made;have k3:=F.called_set.sub;have k4:=F.called_set.notType;have k5:=F.called_set.canCreate;have k6:=F.typeCall_set_1 (.ref l);refine wpAny_call (codeAny_of_tree (show wpAny _ _ (callAny (.type "set") _) _ _ _ from U9 ⟨Code.quiet_builtin _ (by decide +kernel),codeAny_builtin F.entry_type_call ?_⟩));rw[Around.under_plain (weight_type_call_type "set" [.ref l] []) rfl]
 repeat (any_goals (first | assumption | wp_step))
 refine Wq (code_set_new_1 (.ref l) (E:=E) (Q₁:=λz s₁=>∃ led:Bool,z=.ref s.heap.objs.size/\s₁={ s with heap:=s.heap.push (jO led) }) λled=>⟨led,rfl,rfl⟩) λr s₁ hr=>?_;cases r with
 | error e=>exact hr
 | ok fl =>
  cases fl with
  | next=>exact hr.elim
  | brk=>exact hr.elim
  | cont=>exact hr.elim
  | ret z =>
   obtain⟨led,rfl,rfl⟩:=hr;have g1:(s.heap.push (jO led)).get? s.heap.objs.size=some (jO led):=Ve _ rfl;have g2:Shared.TypeIs { s with heap:=s.heap.push (jO led) } (.ref s.heap.objs.size) "set":=⟨_,g1,rfl⟩
   have g3:=F.called_set.init.lookup;have g4:=F.called_set.init.bind (.ref s.heap.objs.size)
   repeat (any_goals (first | assumption | wp_step))
   refine Wq (codeAny_call_builtin (R:=wants (λr s₂=>r=.none/\∃ h' tk,s₂={ s with heap:=h',toks:=tk }/\h'.SetOf (intKind prog w) s.heap.objs.size (λk=>(dist ns).any (· == k)) (dist ns).length/\∀ b o,b<s.heap.objs.size->s.heap.get? b=some o->h'.get? b=some o) E) F.called_set.init.plain F.entry_set_init (check_set_init_1 g2 ?_)) λr₂ s₂ qb=>?_
   ·obtain⟨ot,Qm,Qy,nt,Qw⟩:=hl;obtain⟨oc,od,UO,zC⟩:=ot;simp only at Qy Qw;subst Qy;subst Qw;have u1:(s.heap.push (jO led)).get? l=some { cls:=.type "tuple",dict:=od,data:=.seq af.toArray nt,slots:=zC }:=U_ _ Qm;have u2:=wY;have u3:=o5;have u4:(Value.type "tuple" == Value.type "dict")=false:=by decide
    have u5:(s.heap.push (jO led)).IsTuple l af.toArray:=⟨_,u1,rfl,nt,rfl⟩
    unfold Builtin.«set.__init__» noKeywords Builtin.Frozenset.updateFrom;generalize Ts:pyIter=PI
    wp_walk
    subst Ts;refine wpAny_pyIter_tuple u5 (U6 (wpAny_runValue ?_));have u6:l<s.heap.objs.size:=Vd Qm;have u7:A.in1.in1.in1.handled=none:=by simp[hh]
    have hz:(s.heap.push (jO led)).objs.size=s.heap.objs.size+1:=WB ..;have u8:l≠(s.heap.push (jO led)).objs.size:=by rw[hz];exact Vi (Vu u6)
    have u9:s.heap.objs.size∉[(s.heap.push (jO led)).objs.size,l]:=by
     rw[hz];intro m;simp at m;exact absurd m (VJ u6)
    have v1:∀(i:Nat) (v:Value),af.toArray[i]?=some v->∃ t,v=.int ((λi=>ns.getD i 0) i) t:=λi v hv=>hi.int_at i v (by simpa using hv);refine codeAny_set_update_loopS ((Walks.tuple u7 _ l u8 af.toArray).toS) s.heap.objs.size u9 (λi=>ns.getD i 0) v1 (by rw[List.size_toArray];exact hb) (af.toArray.size - 0) 0 _ (by left) (Vs _) ⟨⟨_,Ve _ rfl,rfl,rfl⟩,u5.push _⟩ ?hS0 ?hR
    case hS0 =>
     have y1:((s.heap.push (jO led)).push { cls:=.type "tuple_iterator",data:=.fields #[.ref l,.int 0 0] }).get? s.heap.objs.size=some (jO led):=U_ _ g1;exact SetOf_congr ((setObjOf_fresh (knd:=intKind prog w) led).setOf y1 (by unfold scanBound;left)) (λ_=>rfl) rfl
    case hR =>
     intro s' hm GV;obtain⟨h',g',d',Rv,M0⟩:=s';cases (show g'=s.gens from hm.gens);cases (show d'=s.drawn from hm.drawn);cases (show M0=s.os from hm.os);have GV:h'.SetOf (intKind prog w) s.heap.objs.size (λk=>(dist ns).any (· == k)) (dist ns).length:=by
      have e:af.toArray.size=ns.length:=by rw[List.size_toArray,Lz]
      rw[e]at GV;exact GV
     refine U9 (show wpAny _ _ (ret Value.none) _ _ _ from U9 ⟨rfl,h',Rv,rfl,GV,λb o hb e=>hm.heap b o (λm=>?_) (U_ _ (U_ _ e))⟩);rcases List.mem_cons.mp m with m | m
     ·exact Vi hb m
     ·have m:b=(s.heap.push (jO led)).objs.size:=by simpa using m
      rw[hz]at m;exact Vi (Vu hb) m
   ·cases r₂ with
    | error e=>exact qb
    | ok Ki =>
     cases Ki with
     | ret r =>
      obtain⟨rfl,h',tk,rfl,GV,CF⟩:=qb
      repeat (any_goals (first | assumption | wp_step))
      exact h _ _ GV CF
     | next=>exact qb.elim
     | brk=>exact qb.elim
     | cont=>exact qb.elim
end
theorem zc(ns:List Int):dist ns=qu ns:=by
 unfold dist firstMet qu;have e:(List.range ns.length).map (λi=>ns.getD i 0)=ns:=by
  refine WR (by simp) λi h1 h2=>?_;simp at h1;simp[h1]
 rw[e];rfl
def RV(K:PySem.W.Frag):List V->Hp->VK->Prop:=λxs H Q=>∃(p:Addr) (ns:List Int),xs=[.ref p]/\ao K H p (ns.map V.int)/\ns.length<4000/\Q (.int (qu ns).length) H
theorem boot_set:bootBuiltins ("set" : Str)=some (.type "set"):=by decide +kernel
theorem Lb{e:Expr}{t:TA}{p pos':Pos}(hc:X.calm=true)(N9:Gl X ("len" : Str))(SQ:X.mg ("len" : Str)=none)(S3:Gl X ("set" : Str))(SO:X.mg ("set" : Str)=none)(ha:PA X [e] t)
  (n9:∀ es,starEach (e::es) X.env=(false,eval e X.env)::starEach es X.env):PE X (.Call (.Name ("len" : Str) p) [.Call (.Name ("set" : Str) p') [e] [] pos'] [] pos) (HA (RV X.K) t):=by
 intro pins s σ H Q I h;refine VT (eM I N9 SQ PySem.boot_len ?_ (by decide) (by decide));refine PyProof.Rows.callWith_builtin1 ?_ rfl rfl;show wpAny _ _ (spliced ((false,eval (.Call (.Name ("set" : Str) p') [e] [] pos') X.env)::[])) _ _ s;refine Calls.spliced_cons ?_;refine VT (eM I S3 SO boot_set ?_ (by decide) (by decide));refine Vv (bV (ha pos' pins s σ H _ I h) λus s1 ⟨vs,H1,I1,r1,q1⟩=>?_) (n9 _) rfl;obtain⟨a,ns,rfl,hq,hl,q⟩:=q1;obtain⟨u,rfl,ru⟩:=r1.one;cases ru;obtain⟨af,rv,it,hz⟩:=I1.tuple hq;have hle:af.length=ns.length:=by rw[<- rv.length];simp
 refine rz (I1.ok.hd hc) it (cg rv) (by unfold scanBound;left) λh' tk hS kp=>Calls.spliced_nil ?_;rw[zc]at hS;obtain⟨o,es,ep,tb,g1,g2,g3,_,_,g6,g7,g8⟩:=hS;refine call_len_set g1 g2 g3 g7 (by unfold scanBound at g6;omega) ?_;exact⟨.int (qu ns).length,H1,I1.kept (t':=tk+1+1) λb u z=>kp b u (Vd z) z,⟨_,by rw[g8]⟩,q⟩
section
variable {X:Cx}{S:Sx}{k:Nat}{F:Addr->Prop}{Φ:ay}
theorem Lk.Pu(L:Lk X S k Φ):X.A.units+40<cLine:=by have:=L.room.units;left
def K5(K:PySem.W.Frag)(neg:Bool):R2:=λv u H Q=>∃(d d':D) (N N':gO) (k k':az),Rep (ao K H) N k v d/\Rep (ao K H) N' k' u d'/\(∀ q p xs f,N q p (.l xs) f->c_ K H p xs)/\(∀ q p xs f,N' q p (.l xs) f->c_ K H p xs)/\ck 40 d=true/\ck 40 d'=true /\
 Q (.bl (if neg then !jh d d' else jh d d')) H
theorem Eb(hu:X.A.units+40<cLine):iS X (compareOp .Eq) (K5 X.K false):=by
 intro pins s σ H x y v u Q I rx ry h;obtain⟨d,d',N,N',k,k',r1,r2,n1,n2,o1,o2,q⟩:=h;exact(alike I n1 n2 40 X.A r1 r2 o1 o2 rx ry hu).rc X.prog X.w X.xe _ ⟨.bl _,H,I,rfl,q⟩
theorem D_(hu:X.A.units+40<cLine):iS X (compareOp .NotEq) (K5 X.K true):=by
 intro pins s σ H x y v u Q I rx ry h;obtain⟨d,d',N,N',k,k',r1,r2,n1,n2,o1,o2,q⟩:=h;exact(alike I n1 n2 40 X.A r1 r2 o1 o2 rx ry hu).ne X.prog X.w X.xe _ ⟨.bl _,H,I,rfl,q⟩
theorem xm{N':gO}{k:az}{v v':V}{d d':D}(h:Rep T N k v d)(h':Rep T' N' k' v' d')(f:qm d=true)(f':qm d'=true):fL v=true/\zH v v'=jh d d':=by
 cases h<;>first | (cases f;done) | (cases h'<;>first | (cases f';done) | exact⟨rfl,by simp[zH,jh]⟩)
theorem Gv{k:az}{v:V}{d:D}(h:Rep T N k v d)(f:qm d=true):fL v=true:=by
 cases h<;>first | (cases f;done) | rfl
theorem As{T T':lY}{N N':gO}{k':az}{v:V}{d:D}(hv:Rep T' N' k' v d)(f:qm d=true):∀ {k:az} {n:Nat} {xs:List V} {ds:List D},ae T N k n xs ds->ds.all qm=true->xs.all fL=true/\Lq v xs=inD d ds
 | _,_,_,_,.nil,_=>⟨rfl,rfl⟩
 | _,_,_,_,.cons h t,fs=>by
  rw[List.all_cons,Bool.and_eq_true]at fs;obtain⟨h1,h2⟩:=As hv f t fs.2;obtain⟨g1,g2⟩:=xm h hv fs.1 f;refine⟨by rw[List.all_cons,g1,h1];rfl,?_⟩;unfold Lq at h2 ⊢;rw[List.any_cons,g2,h2];rfl
def DM(K:PySem.W.Frag)(op:wJ):R2:=match op with
 | .eq=>K5 K false
 | .ne=>K5 K true
 | .lt=>xo λi j=>.bl (decide (i<j))
 | .le=>xo λi j=>.bl (decide (i<=j))
 | .gt=>xo λi j=>.bl (decide (j<i))
 | .ge=>xo λi j=>.bl (decide (j<=i))
 | .EK=>λx y H Q=>y=.aL/\Q (.bl (decide (x=.aL))) H
 | .nV=>λx y H Q=>y=.aL/\Q (.bl (!decide (x=.aL))) H
theorem xQ(L:Lk X S k Φ)(op:wJ):iS X (compareOp (M6 op)) (DM X.K op):=by
 cases op with
 | eq=>exact Eb L.Pu
 | ne=>exact D_ L.Pu
 | lt=>exact Iw
 | le=>exact Iy
 | gt=>exact Iz
 | ge=>exact IA
 | EK=>exact Ea
 | nV=>exact AK
theorem xX{op:CmpOp}{r:Expr}(h:mU r=true):behindInMarks op r=false:=by
 cases r<;>first | rfl | (cases h;done)
theorem kg{op:wJ}{x y d:D}(JJ:op=.lt\/op=.le\/op=.gt\/op=.ge)(h:cJ op x y=ok d):∃ i j,x=.int i/\y=.int j:=by
 cases x with
 | int i=>cases y with
  | int j=>exact⟨i,j,rfl,rfl⟩
  | _=>rcases JJ with rfl | rfl | rfl | rfl<;>exact nk h
 | _=>rcases JJ with rfl | rfl | rfl | rfl<;>exact nk h
theorem qx{op:wJ}{a b:CE}(hq:tD X F Φ (.cmp op a b) σ H Q):Dd (DM X.K op) (tD X F Φ a) (tD X F Φ b) σ H Q:=by
 obtain⟨R,τ,ρ,d,Si,ev,hq⟩:=hq;obtain⟨x,ex,ev⟩:=ab ev;obtain⟨y,ey,ev⟩:=ab ev;refine tD.intro Si ex λv H1 e1 r1=>tD.intro (Si.go e1) ey λu H2 e2 r2=>?_;have e:=e1.trans e2;have rv:=r1.go e2;have ru:=r2;obtain⟨τ1,f1,p1⟩:=rv;obtain⟨τ2,f2,p2⟩:=ru;have sq:∀ {A:Addr->Prop} {τ:Addr->Option az} (q:az) (p:Addr) (xs:List V) (f:Fl),nd X.K R A τ H2 q p (.l xs) f->c_ X.K H2 p xs:=λq p xs f h=>h.sq;cases op with
 | eq =>
  obtain⟨hc,ev⟩:=uf ev
  ·subst ev;rw[Bool.and_eq_true]at hc;exact⟨x,y,_,_,_,_,p1,p2,sq,sq,hc.1,hc.2,hq _ H2 e .bl⟩
 | ne =>
  obtain⟨hc,ev⟩:=uf ev
  ·subst ev;rw[Bool.and_eq_true]at hc;exact⟨x,y,_,_,_,_,p1,p2,sq,sq,hc.1,hc.2,hq _ H2 e .bl⟩
 | lt=>obtain⟨i,j,rfl,rfl⟩:=kg (by simp) ev;cases ev;exact⟨_,_,(r1.go e2).isInt,r2.isInt,hq _ H2 e .bl⟩
 | le=>obtain⟨i,j,rfl,rfl⟩:=kg (by simp) ev;cases ev;exact⟨_,_,(r1.go e2).isInt,r2.isInt,hq _ H2 e .bl⟩
 | gt=>obtain⟨i,j,rfl,rfl⟩:=kg (by simp) ev;cases ev;exact⟨_,_,(r1.go e2).isInt,r2.isInt,hq _ H2 e .bl⟩
 | ge=>obtain⟨i,j,rfl,rfl⟩:=kg (by simp) ev;cases ev;exact⟨_,_,(r1.go e2).isInt,r2.isInt,hq _ H2 e .bl⟩
 | EK =>
  cases y<;>simp[cJ]at ev;cases p2;refine⟨rfl,hq _ H2 e ?_⟩;cases ev;cases p1<;>exact .bl
 | nV =>
  cases y<;>simp[cJ]at ev;cases p2;refine⟨rfl,hq _ H2 e ?_⟩;cases ev;cases p1<;>exact .bl
theorem w6{c:CE}{Q:Bool->Hp->Prop}(h:ft X F Φ c σ H Q):tB (tD X F Φ c) σ H Q:=by
 obtain⟨R,τ,ρ,b,Si,ev,hq⟩:=h;unfold qS at ev;obtain⟨d,ed,et⟩:=ab ev;refine tD.intro Si ed λv H' e r=>?_;cases d<;>simp[eG]at et;cases et;exact⟨_,r.vF,hq H' e⟩
theorem bW{c:CE}{e:Expr}(h:PE X e (tD X F Φ c))(he:∀ whole,isTrue e X.env whole=(do let v <- whole;standAt e.pos;holding [v] (truthy v))):PT X e (ft X F Φ c) :=
 PT.imp (DR h he) λ_ _ _ h=>w6 h
theorem vi{op:wJ}{a b:CE}{Q:Bool->Hp->Prop}(h:ft X F Φ (.cmp op a b) σ H Q):B_ (Dd (DM X.K op) (tD X F Φ a) (tD X F Φ b)) σ H Q :=
 qx (w6 h)
theorem dictAt{pins:List (Addr×Obj)}{s:Shared}{p:Addr}{cs:List (List Int)}{as:List Addr}(I:Inv X pins σ H s)(h:H p=some (.ext (DO p cs as xs ep))):∃ o,s.heap.get? p=some o/\o.cls=.type "dict":=by
 obtain⟨⟨zs,o,es,_,_,_,ho,hx,_⟩,_⟩:=(show bB X.prog X.w H s.heap p (.ext (DO p cs as xs ep)) from I.bR p _ h)
 exact⟨o,ho,hx.1⟩
theorem Ew(L:Lk X S k Φ)(t:Ty):dJ X (.builtin "isinstance") (λxs H Q=>∃(x:V) (d:D) (N:gO) (k:az),xs=[x,.ty (tyName t)]/\Rep (ao X.K H) N k x d/\(∀ q p xs f,N q p (.l xs) f->c_ X.K H p xs)/\(∀ q p cs as xs ep f,N q p (.d cs as xs ep) f->H p=some (.ext (DO p cs as xs ep)))/\Q (.bl (eN t d)) H):=by
 intro pins s σ H xs us Q I r h;obtain⟨x,d,N,k,rfl,rp,hN,Tt,q⟩:=h;obtain⟨u,w',rfl,ru,iw⟩:=vals2 r;cases (show w'=Value.type (tyName t) from iw);have kt:=A4 X.K t;have fin:∀ b:Bool,b=eN t d->∀ tk,EP X pins σ Q (.bool b) { s with toks:=tk }:=λb e tk=>⟨.bl b,H,I.tok tk,rfl,by rw[e];exact q⟩
 cases rp with
 | aL=>cases ru;exact VU PySem.W.kitx_none I.wu True.intro (kt "NoneType" (by simp[kinds])) (λz=>nomatch z) (fin _ (by cases t<;>rfl))
 | bl b=>cases ru;exact VU PySem.W.kitx_bool I.wu True.intro (kt "bool" (by simp[kinds])) (λz=>nomatch z) (fin _ (by cases t<;>rfl))
 | int i=>obtain⟨t',rfl⟩:=ru;exact VU PySem.W.kitx_int I.wu True.intro (kt "int" (by simp[kinds])) (λz=>nomatch z) (fin _ (by cases t<;>rfl))
 | tup h _ =>
  cases ru;obtain⟨af,_,⟨o,h1,h2,_⟩,_⟩:=I.tuple h;exact VU PySem.W.kitx_tuple I.wu ⟨o,h1,h2⟩ (kt "tuple" (by simp[kinds])) (λz=>nomatch z) (fin _ (by cases t<;>rfl))
 | lst h _ =>
  cases ru;obtain⟨af,_,⟨o,n,h1,h2,_⟩,_⟩:=I.list (hN _ _ _ _ h);exact VU PySem.W.kitx_list I.wu ⟨o,h1,h2⟩ (kt "list" (by simp[kinds])) (λz=>nomatch z) (fin _ (by cases t<;>rfl))
 | aZ h _ _ =>
  cases ru;obtain⟨o,h1,h2⟩:∃ o,s.heap.get? _=some o/\o.cls=.type "dict":=dictAt I (Tt _ _ _ _ _ _ _ h);exact VU PySem.W.kitx_dict I.wu ⟨o,h1,h2⟩ (kt "dict" (by simp[kinds])) (λz=>nomatch z) (fin _ (by cases t<;>rfl))
theorem BK(t:Ty):bootBuiltins (tyName t:Str)=some (.type (tyName t)):=by
 cases t<;>decide +kernel
theorem mC(t:Ty):(tyName t:Str) ≠ "__name__" /\ ((tyName t:Str)==("__debug__" : Str))=false:=by
 cases t<;>decide +kernel
theorem DC(L:Lk X S k Φ){a:CE}{t:Ty}{e:Expr}{p:Pos}(hf:ml S.sc ("isinstance" : Str)=true)(S7:("isinstance" : Str)∈S.bl)(hg:ml S.sc (tyName t:Str)=true)(S0:(tyName t:Str)∈S.bl)
  (ha:PE X e (tD X F Φ a)) (n9:∀ es,starEach (e::es) X.env=(false,eval e X.env)::starEach es X.env):PE X (.Call (.Name ("isinstance" : Str) p) [e,.Name (tyName t:Str) p'] [] pos) (tD X F Φ (.ud a t)):=by
 have hT:PE X (.Name (tyName t:Str) p') (tC (.ty (tyName t))):=AG (L.gl hg) (L.bl _ S0) (BK t) rfl (mC t).1 (mC t).2;refine PE.imp (df (Ew L t) (L.gl hf) (L.bl _ S7) PyProof.Rows.boot_isinstance (cT ha (cT hT gB) (n9 _)) (he:=n9 _)) λσ H Q hq=>?_;obtain⟨R,τ,ρ,d,Si,ev,hq⟩:=hq;obtain⟨x,ex,ev⟩:=ab ev;cases ev;refine tD.intro Si ex λv H1 e1 r1=>?_;obtain⟨τ1,f1,p1⟩:=r1;exact⟨v,x,_,_,rfl,p1,λq p xs f h=>h.sq,λq p cs as xs ep f h=>h.dat,hq _ H1 e1 .bl⟩
theorem EB:@DI.oU=@L2.oU:=rfl
theorem HM(L:Lk X S k Φ){a b:CE}{e i:Expr}(ha:PE X e (tD X F Φ a))(hb:PE X i (tD X F Φ b))(hp:kE i):PE X (.Subscript e i pos) (tD X F Φ (.ix a b)):=by
 refine PE.imp (xJ (t7.or yh) ha hb hp) λσ H Q hq=>?_;obtain⟨R,τ,ρ,d,Si,ev,hq⟩:=hq;obtain⟨x,ex,ev⟩:=ab ev;obtain⟨y,ey,ev⟩:=ab ev;refine tD.intro Si ex λv H1 e1 r1=>tD.intro (Si.go e1) ey λu H2 e2 r2=>?_;have ee:=e1.trans e2;have rv:=(r1.go e2).mono (fv':=fw (.ix a b)) λj hj=>Vw _ hj;have item:∀ {q:az} {xs:List V} {ds:List D} {τt:Addr->Option az} {j:Int},(∀ p q,τt p=some q->H p=none)->ae (ao X.K H2) (nd X.K R (gM (gP X F) τ (fw (.ix a b))) τt H2) q 0 xs ds->kB ds j=ok d->∃ w,L2.CU xs j=some w/\Q w H2:=by
  intro q xs ds τt j fr rs h;unfold kB at h;split at h
  ·rename_i d' hd;cases h;cases hx:DI.oU ds.length j with
   | none=>rw[hx]at hd;cases hd
   | some m =>
    rw[hx]at hd;obtain⟨w,hw,iw⟩:=rs.get (show ds[m]?=some d' from hd);refine⟨w,?_,hq w H2 ee ⟨λ_=>none,λ_ _ h=>by simp at h,iw.ny Si fr⟩⟩;unfold L2.CU;rw[<- EB,rs.length,hx];exact hw
  ·cases h
 cases y with
 | int j =>
  obtain⟨τt,fr,rp⟩:=rv;cases r2.isInt;cases x with
  | tup ds =>
   cases rp with
   | @tup _ p xs _ h rs=>obtain⟨w,h1,h2⟩:=item fr rs ev;exact .inr ⟨p,xs,j,w,rfl,rfl,h,h1,h2⟩
  | lst f ds =>
   cases rp with
   | @lst _ p xs _ _ h rs=>obtain⟨w,h1,h2⟩:=item fr rs ev;exact .inl ⟨p,xs,j,w,rfl,rfl,h.sq,h1,h2⟩
  | _=>exact nk ev
 | _=>cases x<;>cases ev
theorem lL:∀(cs:List CE) {ρ:au} {ds:List D},bM Φ cs ρ=ok ds->ds.length=cs.length
 | [],_,_,h=>by cases h;rfl
 | c::cs,_,_,h=>by
  obtain⟨x,_,h⟩:=ab h;obtain⟨xs,hx,h⟩:=ab h;cases h;simp[lL cs hx]
theorem Dx{es:List Expr}{n:Nat}(h:PA X es (pd X F Φ cs))(hl:cs.length<=1000):PE X (.Tuple es n pos) (tD X F Φ (.tup cs)):=by
 refine PE.imp (DY h) λσ H Q hq=>?_;obtain⟨R,τ,ρ,d,Si,ev,hq⟩:=hq;obtain⟨ds,FZ,ev⟩:=ab ev;cases ev;refine⟨R,τ,ρ,ds,Si,FZ,λvs H1 e1 r1=>?_⟩;obtain⟨τt,fr,rs⟩:=r1;have hz:sizeLine=16777216:=V3;refine⟨by rw[rs.length,lL cs FZ];left,λp hp=>?_⟩;have es:ai H1 (upd H1 p (.tup vs)):=ai.upd hp;exact hq _ _ (e1.trans es) ⟨τt,fr,.tup (ao.of aB) (rs.imp (λ_ _ h=>ao.same es h) λ_ _ _ _ h=>nd.same es h)⟩
theorem DA{es:List Expr}(h:PA X es (pd X F Φ cs))(hl:cs.length<=1000):PE X (.List es pos) (tD X F Φ (.lst cs)):=by
 refine PE.imp (D1 h) λσ H Q hq=>?_;obtain⟨R,τ,ρ,d,Si,ev,hq⟩:=hq;obtain⟨ds,FZ,ev⟩:=ab ev;cases ev;refine⟨R,τ,ρ,ds,Si,FZ,λvs H1 e1 r1=>?_⟩;obtain⟨τt,fr,rs⟩:=r1;have hz:sizeLine=16777216:=V3;refine⟨by rw[rs.length,lL cs FZ];left,λp hp=>?_⟩;have es:ai H1 (upd H1 p (.lst vs)):=ai.upd hp;refine hq _ _ (e1.trans es) ⟨λq=>if q=p then some []else τt q,λq z hq=>?_,.lst ⟨aB,by simp⟩ (rs.imp (λ_ _ h=>ao.same es h) λc q xs f h=>?_)⟩
 ·by_cases rW:q=p
  ·subst rW;exact e1.free hp
  ·simp only[rW,if_false]at hq;exact fr q z hq
 ·have h':=nd.same es h;cases f with
  | ow =>
   have rW:q≠p:=by
    intro z;subst z;exact h.1.ne hp
   exact⟨h'.1,by simp only[rW,if_false];exact h'.2⟩
  | fz=>exact h'
  | al=>exact h'
  | sc=>exact h'
theorem Al(L:Lk X S k Φ){f:Nat}{x:Str}{y:Expr}{ys:List Expr}{p:Pos}(hf:S.fn f=some x)(hg:ml S.sc x=true)(hn:jP x=true)(ha:PA X (y::ys) (pd X F Φ cs))
  (n9:∀ es,starEach (y::es) X.env=(false,eval y X.env)::starEach es X.env) (hpl:∀ pos,(backTo pos (starEach ys X.env)).any (·.1)=false):PE X (.Call (.Name x p) (y::ys) [] pos) (tD X F Φ (.call f cs)):=by
 obtain⟨a,fd,ps,Fo,hm,hk,hb,hl⟩:=(L.fn f x hf).ex;unfold jP at hn;simp only[Bool.and_eq_true,Bool.not_eq_true']at hn;refine PE.imp (AF Fo L.room (L.gl hg) hm hk hb .nil (Ir (X:=X)) ha hn.1.1 (n9 _) (hpl _)) λσ H Q hq=>?_;obtain⟨R,τ,ρ,d,Si,ev,hq⟩:=hq;obtain⟨xs,bU,ev⟩:=ab ev;obtain⟨r,er,ev⟩:=ab ev;cases ev;refine⟨R,τ,ρ,xs,Si,bU,λvs H1 e1 r1=>?_⟩;obtain⟨τt,fr,rs⟩:=r1;have fresh:∀ p,H p=none->gM (gP X F) τ (b7 cs) p:=λp hp=>⟨.inr (Si.same.free hp),λc i e=>absurd hp (Si.th p _ e)⟩
 have hR:∀ p,R p->gM (gP X F) τ (b7 cs) p:=λp hp=>⟨Si.rf p hp,λc i e=>by rw[Si.rt p hp]at e;cases e⟩
 rw[List.append_nil];refine⟨gM (gP X F) τ (b7 cs),ag aC xs,r,by rw[rs.length,<- hl _ _ er,bJ,List.length_map],ae.jd (λ_ _ h=>h) (λk k' p xs f h=>?_) rs _ _,er,λv H2 e2 rr=>?_⟩
 ·cases f with
  | ow=>exact⟨h.1,fresh p (fr p _ h.2)⟩
  | fz=>exact⟨h.1,hR p h.2⟩
  | al=>exact h
  | sc=>exact h
 ·obtain⟨τ2,TL,rp⟩:=rr;refine hq v H2 (e1.trans e2) ⟨τ2,λp q h=>e1.free (TL p q h),Rep.map (q:=[]) (q':=[]) (λ_ _ h=>h) (λc p xs f h=>?_) rp [] rfl⟩;cases f with
  | ow=>exact h
  | fz=>exact⟨h.1,h.2.elim id λz=>fresh p (e1.free z)⟩
  | al=>exact h.2.elim
  | sc=>exact h
def PD(K:PySem.W.Frag)(f:Bf):List V->Hp->VK->Prop:=match f with
 | .len=>λxs H Q=>∃ p ys,xs=[.ref p]/\(c_ K H p ys\/ao K H p ys)/\Q (.int ys.length) H
 | .abs=>λxs H Q=>∃ i,xs=[.int i]/\Q (.int (if i<0 then -i else i)) H
 | .min2=>λxs H Q=>∃ i j,xs=[.int i,.int j]/\Q (.int (if j<i then j else i)) H
 | .list1=>λxs H Q=>∃ p ys,xs=[.ref p]/\(c_ K H p ys\/ao K H p ys)/\∀ l,H l=none->Q (.ref l) (upd H l (.lst ys))
 | .tuple1=>λxs H Q=>∃ p ys,xs=[.ref p]/\((c_ K H p ys/\∀ l,H l=none->Q (.ref l) (upd H l (.tup ys)))\/(ao K H p ys/\Q (.ref p) H))
 | .pf=>λxs H Q=>∃(p:Addr) (ns:List Int),xs=[.ref p]/\c_ K H p (ns.map V.int)/\Q (.int ns.sum) H
 | .all1=>λxs H Q=>∃(p:Addr) (bs:List Bool),xs=[.ref p]/\c_ K H p (bs.map V.bl)/\Q (.bl (bs.all id)) H
theorem ae.one{k:az}{n:Nat}{d:D}(h:ae T N k n vs [d]):∃ v,vs=[v]/\Rep T N (n::k) v d:=by
 cases h with
 | cons h t=>cases t;exact⟨_,rfl,h⟩
theorem ae.two{k:az}{n:Nat}{d e:D}(h:ae T N k n vs [d,e]):∃ v w,vs=[v,w]/\Rep T N (n::k) v d/\Rep T N ((n+1)::k) w e:=by
 cases h with
 | cons h t=>obtain⟨w,rfl,h'⟩:=t.one;exact⟨_,_,rfl,h,h'⟩
theorem ae.ints1{k:az}{n:Nat}{i:Int}(h:ae T N k n vs [.int i]):vs=[.int i]:=by
 obtain⟨v,rfl,z⟩:=h.one;cases z;rfl
theorem ae.ints2{k:az}{n:Nat}{i j:Int}(h:ae T N k n vs [.int i,.int j]):vs=[.int i,.int j]:=by
 obtain⟨v,w,rfl,z,z'⟩:=h.two;cases z;cases z';rfl
noncomputable def Bf.one:Bf->Bool
 | .min2=>false
 | _=>true
theorem G4{f:Bf}{xs:List D}{d:D}(hf:f.one=true)(h:sP f xs=ok d):∃ x,xs=[x]:=by
 cases xs with
 | nil=>cases f<;>exact nk h
 | cons x xs=>cases xs with
  | nil=>exact⟨x,rfl⟩
  | cons y ys=>cases f<;>first | (cases hf;done) | (cases x<;>exact nk h)
theorem Ur{xs:List D}{d:D}(h:sP .min2 xs=ok d):∃ i j,xs=[.int i,.int j]:=by
 cases xs with
 | nil=>cases h
 | cons x xs=>cases xs with
  | nil=>cases x<;>cases h
  | cons y ys=>cases ys with
   | cons z zs=>cases x<;>first | (cases h;done) | (cases y<;>cases h)
   | nil=>cases x<;>first | (cases h;done) | (cases y<;>first | exact⟨_,_,rfl⟩ | (cases h;done))
theorem ae.ofInts{T:lY}{N:gO}{k:az}:∀ {ns:List Int} {n:Nat} {vs:List V},ae T N k n vs (ns.map D.int)->vs=ns.map V.int
 | [],_,_,h=>by cases h;rfl
 | i::ns,_,_,h=>by
  cases h with
  | cons h t=>cases h;rw[ae.ofInts t];rfl
theorem ae.Ct{T:lY}{N:gO}{k:az}:∀ {ns:List Bool} {n:Nat} {vs:List V},ae T N k n vs (ns.map D.bl)->vs=ns.map V.bl
 | [],_,_,h=>by cases h;rfl
 | i::ns,_,_,h=>by
  cases h with
  | cons h t=>cases h;rw[ae.Ct t];rfl
theorem mW{T:lY}{N:gO}{k:az}:∀(ns:List Int) {n:Nat},ae T N k n (ns.map V.int) (ns.map D.int)
 | [],_=>.nil
 | i::ns,_=>.cons (.int i) (mW ns)
theorem BL{f:Bf}(hq:tD X F Φ (.bf f cs) σ H Q):HA (PD X.K f) (pd X F Φ cs) σ H Q:=by
 obtain⟨R,τ,ρ,d,Si,ev,hq⟩:=hq;obtain⟨xs,bU,ev⟩:=ab ev;refine⟨R,τ,ρ,xs,Si,bU,λvs H1 e1 r1=>?_⟩;obtain⟨τt,fr,rs⟩:=r1;cases f with
 | len =>
  obtain⟨x,rfl⟩:=G4 rfl ev;obtain⟨v,rfl,rv⟩:=rs.one;cases x with
  | tup ds=>cases ev;obtain⟨_,_,rfl,h,r⟩:=rv.wN;exact⟨_,_,rfl,.inr h,by rw[r.length];exact hq _ H1 e1 .int⟩
  | lst f ds=>cases ev;obtain⟨_,_,rfl,h,r⟩:=rv.wO;exact⟨_,_,rfl,.inl h.sq,by rw[r.length];exact hq _ H1 e1 .int⟩
  | _=>exact nk ev
 | abs =>
  obtain⟨x,rfl⟩:=G4 rfl ev;cases x with
  | int i=>cases ev;cases rs.ints1;exact⟨_,rfl,hq _ H1 e1 .int⟩
  | _=>exact nk ev
 | min2 =>
  obtain⟨i,j,rfl⟩:=Ur ev;cases ev;cases rs.ints2;exact⟨_,_,rfl,hq _ H1 e1 .int⟩
 | list1 =>
  obtain⟨x,rfl⟩:=G4 rfl ev;obtain⟨v,rfl,rv⟩:=rs.one;cases x with
  | tup ds =>
   cases ev;obtain⟨_,_,rfl,h,r⟩:=rv.wN;refine⟨_,_,rfl,.inr h,λl hl=>?_⟩;exact hq _ _ (e1.trans (ai.upd hl)) (bj.AU (e1.free hl) (e1.trans (ai.upd hl)) aB ((r.ny Si fr).imp (λ_ _ h=>ao.same (ai.upd hl) h) λ_ _ _ _ h=>nd.same (ai.upd hl) h))
  | lst f ds =>
   cases ev;obtain⟨_,_,rfl,h,r⟩:=rv.wO;refine⟨_,_,rfl,.inl h.sq,λl hl=>?_⟩;exact hq _ _ (e1.trans (ai.upd hl)) (bj.AU (e1.free hl) (e1.trans (ai.upd hl)) aB ((r.ny Si fr).imp (λ_ _ h=>ao.same (ai.upd hl) h) λ_ _ _ _ h=>nd.same (ai.upd hl) h))
  | _=>exact nk ev
 | tuple1 =>
  obtain⟨x,rfl⟩:=G4 rfl ev;obtain⟨v,rfl,rv⟩:=rs.one;cases x with
  | tup ds =>
   cases ev;obtain⟨_,_,rfl,h,r⟩:=rv.wN;exact⟨_,_,rfl,.inr ⟨h,hq _ H1 e1 ⟨λ_=>none,λ_ _ h=>by simp at h,.tup h (r.ny Si fr)⟩⟩⟩
  | lst f ds =>
   cases ev;obtain⟨_,_,rfl,h,r⟩:=rv.wO;refine⟨_,_,rfl,.inl ⟨h.sq,λl hl=>?_⟩⟩;exact hq _ _ (e1.trans (ai.upd hl)) ⟨λ_=>none,λ_ _ h=>by simp at h,.tup (ao.of aB) ((r.ny Si fr).imp (λ_ _ h=>ao.same (ai.upd hl) h) λ_ _ _ _ h=>nd.same (ai.upd hl) h)⟩
  | _=>exact nk ev
 | pf =>
  obtain⟨x,rfl⟩:=G4 rfl ev;obtain⟨v,rfl,rv⟩:=rs.one;cases x with
  | lst f ds =>
   have ev:(match intsOf ds with | some ns=>ok (.int ns.sum) | none=>none)=ok d:=ev;cases hn:intsOf ds with
   | none=>rw[hn]at ev;cases ev
   | some ns =>
    rw[hn]at ev;cases ev;cases gb hn;cases rv with
    | lst h r=>cases r.ofInts;exact⟨_,ns,rfl,h.sq,hq _ H1 e1 .int⟩
  | _=>exact nk ev
 | all1 =>
  obtain⟨x,rfl⟩:=G4 rfl ev;obtain⟨v,rfl,rv⟩:=rs.one;cases x with
  | lst f ds =>
   have ev:(match gx ds with | some bs=>ok (.bl (bs.all id)) | none=>none)=ok d:=ev;cases hn:gx ds with
   | none=>rw[hn]at ev;cases ev
   | some ns =>
    rw[hn]at ev;cases ev;cases qJ hn;cases rv with
    | lst h r=>cases r.Ct;exact⟨_,ns,rfl,h.sq,hq _ H1 e1 .bl⟩
  | _=>exact nk ev
theorem HN(L:Lk X S k Φ){f:Bf}{y:Expr}{ys:List Expr}{p:Pos}(hg:ml S.sc (oK f:Str)=true)(hb:(oK f:Str)∈S.bl)(ha:PA X (y::ys) (pd X F Φ cs))
  (n9:∀ es,starEach (y::es) X.env=(false,eval y X.env)::starEach es X.env) (hpl:∀ pos,(backTo pos (starEach ys X.env)).any (·.1)=false):PE X (.Call (.Name (oK f:Str) p) (y::ys) [] pos) (tD X F Φ (.bf f cs)):=by
 refine PE.imp (t:=HA (PD X.K f) (pd X F Φ cs)) ?_ λσ H Q hq=>BL hq;cases f with
 | len=>exact df oJ (L.gl hg) (L.bl _ hb) PySem.boot_len ha (he:=n9 _) (hpl:=hpl _)
 | abs=>exact df zm (L.gl hg) (L.bl _ hb) (by decide +kernel) ha (he:=n9 _) (hpl:=hpl _)
 | min2=>exact df (we L.calm) (L.gl hg) (L.bl _ hb) (by decide +kernel) ha (he:=n9 _) (hpl:=hpl _)
 | list1=>exact mQ oI (L.gl hg) (L.bl _ hb) (by decide +kernel) ha (he:=n9 _) (hpl:=hpl _)
 | tuple1=>exact mQ mw (L.gl hg) (L.bl _ hb) (by decide +kernel) ha (he:=n9 _) (hpl:=hpl _)
 | pf=>exact df (wd L.calm) (L.gl hg) (L.bl _ hb) (by decide +kernel) ha (he:=n9 _) (hpl:=hpl _)
 | all1=>exact df (wg L.calm) (L.gl hg) (L.bl _ hb) (by decide +kernel) ha (he:=n9 _) (hpl:=hpl _)
theorem Dy{a:CE}{e:Expr}(h:PE X e (tD X F Φ a)):PE X (.UnaryOp .Not e pos) (tD X F Φ (.not a)):=by
 refine PE.imp (DZ h) λσ H Q hq=>?_;obtain⟨R,τ,ρ,d,Si,ev,hq⟩:=hq;obtain⟨b,eb,ev⟩:=ab ev;obtain⟨x,ex,eb⟩:=ab eb;cases ev;refine tD.intro Si ex λv H1 e1 r1=>?_;cases x<;>simp[eG]at eb;cases eb;exact⟨_,r1.vF,hq _ H1 e1 .bl⟩
theorem Dj{a:CE}{e:Expr}(h:PT X e (ft X F Φ a)):PT X (.UnaryOp .Not e pos) (ft X F Φ (.not a)):=by
 refine PT.imp (DS h) λσ H Q hq=>?_;obtain⟨R,τ,ρ,b,Si,ev,hq⟩:=hq;unfold qS at ev;obtain⟨d,ed,ev⟩:=ab ev;obtain⟨c,ec,ed⟩:=ab ed;cases ed;have OK:b=!c:=by
  have e2:ok (!c)=ok b:=ev;exact(Except.ok.inj (Vk e2)).symm
 subst OK;exact⟨R,τ,ρ,c,Si,ec,λH' e=>hq H' e⟩
theorem DB{c a b:CE}{t x y:Expr}(hc:PT X t (ft X F Φ c))(ha:PE X x (tD X F Φ a))(hb:PE X y (tD X F Φ b)):PE X (.IfExp t x y pos) (tD X F Φ (.ite c a b)):=by
 refine PE.imp (xK hc ha hb) λσ H Q hq=>?_;obtain⟨R,τ,ρ,d,Si,ev,hq⟩:=hq;obtain⟨w,ew,ev⟩:=ab ev;refine⟨R,τ,ρ,w,Si,ew,λH1 e1=>?_⟩;cases w with
 | true=>exact tD.intro (Si.go e1) ev λv H' e r=>hq v H' (e1.trans e) ((r.old e1).mono λi hi=>by simp[fw,hi])
 | false=>exact tD.intro (Si.go e1) ev λv H' e r=>hq v H' (e1.trans e) ((r.old e1).mono λi hi=>by simp[fw,hi])
theorem Dk{c a b:CE}{t x y:Expr}(hc:PT X t (ft X F Φ c))(ha:PT X x (ft X F Φ a))(hb:PT X y (ft X F Φ b)):PT X (.IfExp t x y pos) (ft X F Φ (.ite c a b)):=by
 intro pins s σ H Q I hq;obtain⟨R,τ,ρ,d,Si,ev,hq⟩:=hq;unfold qS at ev;obtain⟨x',Km,et⟩:=ab ev;obtain⟨w,ew,ev⟩:=ab Km;refine isTrue_IfExp (bV (hc pins s σ H (λw' H1=>w'=w/\ai H H1) I ⟨R,τ,ρ,w,Si,ew,λH1 e1=>⟨rfl,e1⟩⟩) λw' s1 ⟨H1,I1,hw,e1⟩=>?_);subst hw;cases w' with
 | true=>exact ha pins s1 σ H1 Q I1 ⟨R,τ,ρ,d,Si.go e1,by unfold qS;rw[show aH Φ a ρ=ok x' from ev];exact et,λH' e=>hq H' (e1.trans e)⟩
 | false=>exact hb pins s1 σ H1 Q I1 ⟨R,τ,ρ,d,Si.go e1,by unfold qS;rw[show aH Φ b ρ=ok x' from ev];exact et,λH' e=>hq H' (e1.trans e)⟩
theorem Dz{a:CE}{e:Expr}(h:PE X e (tD X F Φ a)):PE X (.UnaryOp .USub e pos) (tD X F Φ (.neg a)):=by
 refine PE.imp (Il C8 h) λσ H Q hq=>?_;obtain⟨R,τ,ρ,d,Si,ev,hq⟩:=hq;obtain⟨x,ex,ev⟩:=ab ev;refine tD.intro Si ex λv H1 e1 r1=>?_;cases x<;>simp[AV]at ev;cases ev;exact⟨_,r1.isInt,hq _ H1 e1 .int⟩
theorem BP{c:CE}(hq:tD X F Φ (.and [c]) σ H Q):tD X F Φ c σ H Q:=by
 obtain⟨R,τ,ρ,d,Si,ev,hq⟩:=hq;obtain⟨b,eb,ev⟩:=ab ev;obtain⟨x,ex,eb⟩:=ab eb;cases ev;refine tD.intro Si ex λv H1 e1 r1=>?_;cases x<;>simp[eG]at eb;cases eb;rw[r1.vF];exact hq _ H1 e1 .bl
theorem D9{c:CE}(hq:tD X F Φ (.or [c]) σ H Q):tD X F Φ c σ H Q:=by
 obtain⟨R,τ,ρ,d,Si,ev,hq⟩:=hq;obtain⟨b,eb,ev⟩:=ab ev;obtain⟨x,ex,eb⟩:=ab eb;cases ev;refine tD.intro Si ex λv H1 e1 r1=>?_;cases x<;>simp[eG]at eb;cases eb;rw[r1.vF];exact hq _ H1 e1 .bl
theorem zt{c:CE}{Q:Bool->Hp->Prop}(hq:ft X F Φ (.and [c]) σ H Q):ft X F Φ c σ H Q:=by
 obtain⟨R,τ,ρ,d,Si,ev,hq⟩:=hq;unfold qS at ev;obtain⟨b,eb,ev⟩:=ab ev;obtain⟨x,ex,eb⟩:=ab eb;cases eb;cases ev;exact⟨R,τ,ρ,_,Si,ex,hq⟩
theorem AI{c:CE}{Q:Bool->Hp->Prop}(hq:ft X F Φ (.or [c]) σ H Q):ft X F Φ c σ H Q:=by
 obtain⟨R,τ,ρ,d,Si,ev,hq⟩:=hq;unfold qS at ev;obtain⟨b,eb,ev⟩:=ab ev;obtain⟨x,ex,eb⟩:=ab eb;cases eb;cases ev;exact⟨R,τ,ρ,_,Si,ex,hq⟩
theorem zu{c:CE}(hq:tD X F Φ (.and (c::c'::cs)) σ H Q):Cc (tD X F Φ c) (tD X F Φ (.and (c'::cs))) σ H Q:=by
 obtain⟨R,τ,ρ,d,Si,ev,hq⟩:=hq;obtain⟨b,eb,ev⟩:=ab ev;obtain⟨x,ex,eb⟩:=ab eb;refine tD.intro Si ex λv H1 e1 r1=>?_;cases x<;>simp[eG]at eb;cases eb;refine⟨_,r1.vF,?_⟩;cases b with
 | true =>
  rw[if_pos rfl]at ev ⊢;exact tD.intro (Si.go e1) ev λv H' e r=>hq v H' (e1.trans e) ((r.old e1).mono λi hi=>Vg _ hi)
 | false =>
  rw[if_neg (by simp)]at ev ⊢;cases ev;exact hq _ H1 e1 .bl
theorem AJ{c:CE}(hq:tD X F Φ (.or (c::c'::cs)) σ H Q):Hu (tD X F Φ c) (tD X F Φ (.or (c'::cs))) σ H Q:=by
 obtain⟨R,τ,ρ,d,Si,ev,hq⟩:=hq;obtain⟨b,eb,ev⟩:=ab ev;obtain⟨x,ex,eb⟩:=ab eb;refine tD.intro Si ex λv H1 e1 r1=>?_;cases x<;>simp[eG]at eb;cases eb;refine⟨_,r1.vF,?_⟩;cases b with
 | false =>
  rw[if_neg (by simp)]at ev ⊢;exact tD.intro (Si.go e1) ev λv H' e r=>hq v H' (e1.trans e) ((r.old e1).mono λi hi=>Vg _ hi)
 | true =>
  rw[if_pos rfl]at ev ⊢;cases ev;exact hq _ H1 e1 .bl
theorem wo{c:CE}{Q:Bool->Hp->Prop}(hq:ft X F Φ (.and (c::c'::cs)) σ H Q):HB (ft X F Φ c) (ft X F Φ (.and (c'::cs))) σ H Q:=by
 obtain⟨R,τ,ρ,d,Si,ev,hq⟩:=hq;unfold qS at ev;obtain⟨x,ex,et⟩:=ab ev;obtain⟨b,eb,ev⟩:=ab ex;refine⟨R,τ,ρ,b,Si,eb,λH1 e1=>?_⟩;cases b with
 | true =>
  rw[if_pos rfl]at ev ⊢;exact⟨R,τ,ρ,d,Si.go e1,by unfold qS;rw[show aH Φ (.and (c'::cs)) ρ=ok x from ev];exact et,λH' e=>hq H' (e1.trans e)⟩
 | false =>
  rw[if_neg (by simp)]at ev ⊢;cases ev;cases et;exact hq H1 e1
theorem xP{c:CE}{Q:Bool->Hp->Prop}(hq:ft X F Φ (.or (c::c'::cs)) σ H Q):Pw (ft X F Φ c) (ft X F Φ (.or (c'::cs))) σ H Q:=by
 obtain⟨R,τ,ρ,d,Si,ev,hq⟩:=hq;unfold qS at ev;obtain⟨x,ex,et⟩:=ab ev;obtain⟨b,eb,ev⟩:=ab ex;refine⟨R,τ,ρ,b,Si,eb,λH1 e1=>?_⟩;cases b with
 | false =>
  rw[if_neg (by simp)]at ev ⊢;exact⟨R,τ,ρ,d,Si.go e1,by unfold qS;rw[show aH Φ (.or (c'::cs)) ρ=ok x from ev];exact et,λH' e=>hq H' (e1.trans e)⟩
 | true =>
  rw[if_pos rfl]at ev ⊢;cases ev;cases et;exact hq H1 e1
theorem il{Q:List V->Hp->Prop}(hq:pd X F Φ [] σ H Q):Hw σ H Q:=by
 obtain⟨R,τ,ρ,d,Si,ev,hq⟩:=hq;cases ev;exact hq _ H (ai.refl H) .nil
theorem dY{c:CE}{Q:List V->Hp->Prop}(hq:pd X F Φ (c::cs) σ H Q):Cb (tD X F Φ c) (pd X F Φ cs) σ H Q:=by
 obtain⟨R,τ,ρ,d,Si,ev,hq⟩:=hq;obtain⟨x,ex,ev⟩:=ab ev;obtain⟨xs,bU,ev⟩:=ab ev;cases ev;refine tD.intro Si ex λv H1 e1 r1=>⟨R,τ,ρ,xs,Si.go e1,bU,λvs H2 e2 r2=>hq _ H2 (e1.trans e2) (bg.cons e1 e2 (r1.mono λi hi=>Vw _ hi) (r2.mono λi hi=>Vg _ hi))⟩
theorem bz{c:CE}{e:Expr}(h:bc S c e=true)(es:List Expr)(env:Env):starEach (e::es) env=(false,eval e env)::starEach es env:=by
 cases e<;>first | rfl | (cases c<;>exact(U8 h).elim)
theorem sF:∀ {cs:List CE} {es:List Expr},aV S cs es=true->∀(pos:Pos) (env:Env),(backTo pos (starEach es env)).any (·.1)=false
 | [],[],_,_,_=>rfl
 | [],_::_,h,_,_=>by exact(U8 h).elim
 | _::_,[],h,_,_=>by exact(U8 h).elim
 | c::cs,e::es,h,pos,env=>by
  replace h:=ah h;rw[bz h.1];have:=sF h.2 pos env;unfold backTo at this ⊢;simp only[List.map_cons,List.any_cons,Bool.false_or];exact this
theorem nh{c:CE}{e:Expr}(h:bc S c e=true):kE e:=by
 intro o i;cases e<;>first | rfl | (cases c<;>exact(U8 h).elim)
theorem xh{j:Nat}:PE X (.Constant .none j pos) (tD X F Φ .aL):=PE.imp D0 λσ H Q ⟨R,τ,ρ,d,Si,ev,hq⟩=>by cases ev;exact hq _ H (ai.refl H) .aL
theorem Cg{b:Bool}{j:Nat}:PE X (.Constant (.bool b) j pos) (tD X F Φ (.bl b)):=PE.imp Iq λσ H Q ⟨R,τ,ρ,d,Si,ev,hq⟩=>by cases ev;exact hq _ H (ai.refl H) .bl
theorem xi{i:Int}{j:Nat}:PE X (.Constant (.int i) j pos) (tD X F Φ (.int i)):=PE.imp D4 λσ H Q ⟨R,τ,ρ,d,Si,ev,hq⟩=>by cases ev;exact hq _ H (ai.refl H) .int
theorem EG(L:Lk X S k Φ){y:Expr}{p EL:Pos}(g1:ml S.sc ("range" : Str)=true)(g2:("range" : Str)∈S.bl)(pa:PA X [y] (pd X F Φ es))(vP:aV S es [y]=true)
  (pins:List (Addr×Obj)) (s:Shared) (σ:St) (H:Hp) (R:Addr->Prop) (τ:Addr->Option az) (ρ:au) (xs items:List D) (I:Inv X pins σ H s) (Si:SI X F R τ ρ σ H) (bU:bM Φ es ρ=ok xs) (sh:cH Φ .k8 xs=ok items) (Rr:It->Hp->Prop)
  (hR:∀ J H2,ai H H2->Yl X.K J (i9 X F τ (caps++b7 es) H2) H2 items->Rr J H2) :
  wpAny (model X.prog X.w) X.A (eval (.Call (.Name ("range" : Str) p) [y] [] EL) X.env) (λv s1=>wpAny (model X.prog X.w) X.A (pyIter v) (wG X pins σ target Rr) X.xe s1) X.xe s:=by
 match es,vP with
 | [c],vP =>
  replace vP:=ah vP;refine mP (L.gl g1) (L.bl _ g2) pa (bz vP.1 _ _) pins s σ H Rr I ⟨R,τ,ρ,xs,Si,bU,λvs H1 e1 rv=>?_⟩;obtain⟨τt,fr,rs⟩:=rv;obtain⟨n,rfl⟩:∃ n,xs=[.int n]:=by
   cases xs with
   | nil=>cases sh
   | cons x t=>cases x<;>first | (cases sh;done) | (cases t with | nil=>exact⟨_,rfl⟩ | cons _ _=>cases sh)
  cases rs.ints1
  ·obtain⟨⟨c1,c2⟩,sh⟩:=uf sh;subst sh;have qf:(fm:Int)=1000000:=rfl;refine⟨n,rfl,by left,by left,hR _ H1 e1 ?_⟩;have:=C2 (X:=X) (lo:=0) (n:=n.toNat) (R:=i9 X F τ (caps++b7 [c]) H1) (H1:=H1);simpa using this
 | [],vP=>exact(U8 vP).elim
 | _::_::_,vP=>exact(U8 (ah vP).2).elim
theorem EF(L:Lk X S k Φ){c:CE}{y:Expr}(pe:PE X y (tD X F Φ c))
  (pins:List (Addr×Obj)) (s:Shared) (σ:St) (H:Hp) (R:Addr->Prop) (τ:Addr->Option az) (ρ:au) (xs items:List D) (I:Inv X pins σ H s) (Si:SI X F R τ ρ σ H) (bU:bM Φ [c] ρ=ok xs) (sh:cH Φ .seq xs=ok items) (Rr:It->Hp->Prop)
  (hR:∀ J H2,ai H H2->Yl X.K J (i9 X F τ (caps++b7 [c]) H2) H2 items->Rr J H2) :
  wpAny (model X.prog X.w) X.A (eval y X.env) (λv s1=>wpAny (model X.prog X.w) X.A (pyIter v) (wG X pins σ target Rr) X.xe s1) X.xe s:=by
 obtain⟨x,ex,bU⟩:=ab bU;obtain⟨xs',OH,bU⟩:=ab bU;cases OH;cases bU;have Qv:∀ i∈fw c,i∈caps++b7 [c]:=λi hi=>Vg _ (Vw _ hi);cases x with
 | tup ds =>
  cases sh;refine xC pe pins s σ H Rr I (tD.intro Si ex λv H1 e1 rv=>?_);obtain⟨τt,fr,rp⟩:=rv;cases rp with
  | @tup _ p ys _ hp rs=>exact⟨p,rfl,⟨ys,hp⟩,hR _ H1 e1 (C1 (q:=[]) hp (ae.jd (λ_ _ h=>h) (rA Si fr Qv) rs _ _))⟩
 | lst f ds =>
  cases sh;refine tO pe pins s σ H Rr I (tD.intro Si ex λv H1 e1 rv=>?_);obtain⟨τt,fr,rp⟩:=rv;cases rp with
  | @lst _ p ys _ _ hp rs=>exact⟨p,rfl,⟨ys,hp.sq⟩,hR _ H1 e1 (zK (q:=[]) hp.sq (ae.jd (λ_ _ h=>h) (rA Si fr Qv) rs _ _))⟩
 | _=>cases sh
theorem G_{xs:List D}{J:It}(Si:SI X F R τ ρ σ H)(hs:∀ i∈fv,i∈fv')(r:bg X.K (gP X F) R τ fv H H2 vs xs)(y:G5 X.K J H2 vs xs items):
  Yl X.K J (i9 X F τ fv' H2) H2 items:=by
 obtain⟨τt,fr,rs⟩:=r;have at':∀ H',ai H2 H'->ae (ao X.K H') (nd X.K (i9 X F τ fv' H2) (λ_=>False) (λ_=>none) H') [] 0 vs (ag aC xs):=λH' e =>
  (ae.jd (T':=ao X.K H2) (λ_ _ h=>h) (rA Si fr hs) rs [] 0).imp (λ_ _ h=>ao.same e h) λ_ _ _ _ h=>nd.same e h
 have st:∀ H',ai H2 H'->nz X.K H2 vs xs H':=λH' e=>⟨⟨_,at' H2 (ai.refl H2),λp o _ h=>e p o h⟩,λ_ _ h=>ao.same e h⟩
 exact⟨λi H' e hi=>y.go i H' _ (st H' e) (at' H' e) hi,λi H' x j3 e hi hy=>y.qR i H' _ x j3 (st H' e) (at' H' e) hi hy,λi H' e hi=>y.stop i H' _ (st H' e) (at' H' e) hi⟩
theorem EH(L:Lk X S k Φ){p:Nat}{y:Expr}(hp:S.px.pi p S.sc S.bl y=some args)(ht:(decide (1100<=p)||eO target)=true)(hs:my X F Φ es args)
  (pins:List (Addr×Obj)) (s:Shared) (σ:St) (H:Hp) (R:Addr->Prop) (τ:Addr->Option az) (ρ:au) (xs items:List D) (I:Inv X pins σ H s) (Si:SI X F R τ ρ σ H) (bU:bM Φ es ρ=ok xs) (sh:cH Φ (.cm p) xs=ok items) (Rr:It->Hp->Prop)
  (hR:∀ J H2,ai H H2->Yl X.K J (i9 X F τ (caps++b7 es) H2) H2 items->Rr J H2) :
  wpAny (model X.prog X.w) X.A (eval y X.env) (λv s1=>wpAny (model X.prog X.w) X.A (pyIter v) (wG X pins σ target Rr) X.xe s1) X.xe s:=by
 obtain⟨d,ed,ei⟩:=ab (show bd (Φ p xs) mi=ok items from sh);exact L.pr.i X _ _ k L.pX p y args hp F es target ht hs pins s σ H R τ ρ xs d items I Si bU ed ei Rr λJ H2 vs e2 r yz=>hR J H2 e2 (G_ Si (λi hi=>by simp[hi]) r yz)
theorem qv{S':Sx}{ifs:List Expr}(h3:aJ.length<=1)(h4:aV S' aJ ifs=true)
  (vQ:∀(X':Cx) (F':Addr->Prop),Lk X' S' k Φ->∀(j:Nat) (c:CE) (e:Expr),aJ[j]?=some c->ifs[j]?=some e->PE X' e (tD X' F' Φ c)/\PT X' e (ft X' F' Φ c)) :
  (aJ=[]/\ifs=[])\/∃ c e,aJ=[c]/\ifs=[e]/\∀(X':Cx) (F':Addr->Prop),Lk X' S' k Φ->PT X' e (ft X' F' Φ c):=by
 cases aJ with
 | nil=>cases ifs with
  | nil=>exact .inl ⟨rfl,rfl⟩
  | cons _ _=>exact(U8 h4).elim
 | cons c cs=>cases cs with
  | cons _ _=>simp at h3
  | nil=>cases ifs with
   | nil=>exact(U8 h4).elim
   | cons e ifs=>cases ifs with
    | cons _ _=>exact(U8 (ah h4).2).elim
    | nil=>exact .inr ⟨c,e,rfl,rfl,λX' F' L'=>(vQ X' F' L' 0 c e rfl rfl).2⟩
def Ky(S:Sx)(ik:IK)(es:List CE)(target iter:Expr):Bool:=match ik with
 | .k8=>aD (gp iter) λw=>decide (w.1=("range" : Str))&&ml S.sc w.1&&decide (w.1∈S.bl)&&aD (one w.2) λy=>aV S es [y]
 | .seq=>aV S es [iter]
 | .cm p=>La iter&&(decide (1100<=p)||eO target)&&aD (S.px.pi p S.sc S.bl iter) λxs=>aV S es xs
theorem yj(L:Lk X S k Φ){ik:IK}(vP:∀ l,aV S es l=true->PA X l (pd X F Φ es))
  (vQ:∀ l,aV S es l=true->∀(j:Nat) (c:CE) (e:Expr),es[j]?=some c->l[j]?=some e->PE X e (tD X F Φ c)/\PT X e (ft X F Φ c)) (SF:∀ l,aV S es l=true->my X F Φ es l) (h6:Ky S ik es target iter=true) :
  ∀(pins:List (Addr×Obj)) (s:Shared) (σ:St) (H:Hp) (R:Addr->Prop) (τ:Addr->Option az) (ρ:au) (xs items:List D),Inv X pins σ H s->SI X F R τ ρ σ H->bM Φ es ρ=ok xs->cH Φ ik xs=ok items->∀(Rr:It->Hp->Prop),
   (∀ J H2,ai H H2->Yl X.K J (i9 X F τ (caps++b7 es) H2) H2 items->Rr J H2) ->
   wpAny (model X.prog X.w) X.A (eval iter X.env) (λv s1=>wpAny (model X.prog X.w) X.A (pyIter v) (wG X pins σ target Rr) X.xe s1) X.xe s:=by
 cases ik with
 | k8 =>
  obtain⟨⟨x,as⟩,hv,h6⟩:=aE h6;obtain⟨p,EL,rfl⟩:=dX hv;obtain⟨Fp,g3⟩:=ah h6;obtain⟨Fn,g2⟩:=ah Fp;obtain⟨Fm,g1⟩:=ah Fn;obtain rfl:x=_:=U7 Fm;obtain⟨y,hu,Bj⟩:=aE g3;obtain rfl:as=[y]:=b6 hu;exact EG L g1 (U7 g2) (vP _ Bj) Bj
 | seq =>
  have NU:=vQ _ h6;cases es with
  | nil=>exact(U8 h6).elim
  | cons c cs=>cases cs with
   | cons _ _=>exact(U8 (ah h6).2).elim
   | nil=>exact EF L (NU 0 c _ rfl rfl).1
 | cm p =>
  obtain⟨h6,g3⟩:=ah h6;obtain⟨xs,ha,Bj⟩:=aE g3;exact EH L ha (ah h6).2 (SF _ Bj)
mutual
theorem av:∀(c:CE) (X:Cx) (S:Sx) (F:Addr->Prop) (L:Lk X S k Φ) (e:Expr),bc S c e=true->PE X e (tD X F Φ c)/\PT X e (ft X F Φ c)
 | .cm p cs,X,S,F,L,e,h=>by
  obtain⟨args,ha,hb⟩:=aE (ah h).2;exact L.pr.e X _ _ k L.pX p e args ha F cs (f6 cs X S F L args hb)
 | .aL,X,S,F,L,e,h=>by
  obtain⟨c,hv,fu⟩:=aE h;obtain⟨j,p,rfl⟩:=wV hv;obtain rfl:=vz fu;exact⟨xh,bW xh λ_=>rfl⟩
 | .bl b,X,S,F,L,e,h=>by
  obtain⟨c,hv,fu⟩:=aE h;obtain⟨j,p,rfl⟩:=wV hv;obtain rfl:=yn fu;exact⟨Cg,bW Cg λ_=>rfl⟩
 | .int i,X,S,F,L,e,h=>by
  obtain⟨c,hv,fu⟩:=aE h;obtain⟨j,p,rfl⟩:=wV hv;obtain rfl:=vD fu;exact⟨xi,bW xi λ_=>rfl⟩
 | .v i,X,S,F,L,e,h=>by
  obtain⟨x,hv,h'⟩:=aE h;obtain⟨p,rfl⟩:=iZ hv;have:=MB (F:=F) L h;exact⟨this,bW this λ_=>rfl⟩
 | .glo x i,X,S,F,L,e,h=>by
  obtain⟨y,hv,fu⟩:=aE h;obtain⟨pos,rfl⟩:=iZ hv;obtain⟨jS,h3⟩:=ah fu;obtain⟨oh,h2⟩:=ah jS;obtain⟨Bi,h1⟩:=ah oh;obtain rfl:=U7 Bi;obtain⟨u,hm,r⟩:=L.cs _ _ (U7 h2);have this:PE X (.Name y pos) (tD X F Φ (.glo y i)):=PE.imp (tS (v:=.int i) (L.gl h1) hm r (iz h3)) λσ H Q ⟨R,τ,ρ,d,Si,ev,hq⟩=>by cases ev;exact hq _ H (ai.refl H) .int
  exact⟨this,bW this λ_=>rfl⟩
 | .glt x zs,X,S,F,L,e,h=>by
  obtain⟨y,hv,fu⟩:=aE h;obtain⟨pos,rfl⟩:=iZ hv;obtain⟨jS,h3⟩:=ah fu;obtain⟨oh,h2⟩:=ah jS;obtain⟨Bi,h1⟩:=ah oh;obtain rfl:=U7 Bi;obtain⟨u,hm,a,o,af,n,rfl,q1,q2,q3,q4,q5⟩:=L.cs _ _ (U7 h2);have this:PE X (.Name y pos) (tD X F Φ (.glt y zs)):=PE.imp (tS (v:=.ref a) (L.gl h1) hm rfl (iz h3)) λσ H Q ⟨R,τ,ρ,d,Si,ev,hq⟩=>by
   cases ev;exact hq _ H (ai.refl H) ⟨λ_=>none,λ_ _ h=>by simp at h,.tup (.inr ⟨o,af,n,q1,q2,q3,q4,q5⟩) (mW zs)⟩
  exact⟨this,bW this λ_=>rfl⟩
 | .bin op a b,X,S,F,L,e,h=>by
  obtain⟨⟨l,o,r⟩,hv,fu⟩:=aE h;obtain⟨pos,rfl⟩:=zV hv;obtain⟨jS,h2⟩:=ah fu;obtain⟨oh,h1⟩:=ah jS;obtain rfl:o=IB op:=U7 oh;have:=DD (F:=F) (pos:=pos) L (op:=op) (av a X S F L _ h1).1 (av b X S F L _ h2).1;exact⟨this,bW this λ_=>rfl⟩
 | .neg a,X,S,F,L,e,h=>by
  obtain⟨⟨o,x⟩,hv,fu⟩:=aE h;obtain⟨pos,rfl⟩:=wR hv;obtain⟨jS,h1⟩:=ah fu;obtain rfl:o=.USub:=U7 jS;have:=Dz (F:=F) (Φ:=Φ) (pos:=pos) (av a X S F L _ h1).1;exact⟨this,bW this λ_=>rfl⟩
 | .not a,X,S,F,L,e,h=>by
  obtain⟨⟨o,x⟩,hv,fu⟩:=aE h;obtain⟨pos,rfl⟩:=wR hv;obtain⟨jS,h1⟩:=ah fu;obtain rfl:o=.Not:=U7 jS;exact⟨Dy (av a X S F L _ h1).1,Dj (av a X S F L _ h1).2⟩
 | .and cs,X,S,F,L,e,h=>by
  obtain⟨⟨o,vs⟩,hv,fu⟩:=aE h;obtain⟨pos,rfl⟩:=oY hv;obtain⟨jS,h1⟩:=ah fu;obtain rfl:o=.And:=U7 jS;exact⟨(i8 cs X S F L vs h1 pos).1,(i8 cs X S F L vs h1 pos).2.pt⟩
 | .or cs,X,S,F,L,e,h=>by
  obtain⟨⟨o,vs⟩,hv,fu⟩:=aE h;obtain⟨pos,rfl⟩:=oY hv;obtain⟨jS,h1⟩:=ah fu;obtain rfl:o=.Or:=U7 jS;exact⟨(kS cs X S F L vs h1 pos).1,(kS cs X S F L vs h1 pos).2.pt⟩
 | .ite c a b,X,S,F,L,e,h=>by
  obtain⟨⟨t,x,y⟩,hv,fu⟩:=aE h;obtain⟨pos,rfl⟩:=C6 hv;obtain⟨jS,h2⟩:=ah fu;obtain⟨h0,h1⟩:=ah jS;exact⟨DB (av c X S F L _ h0).2 (av a X S F L _ h1).1 (av b X S F L _ h2).1,Dk (av c X S F L _ h0).2 (av a X S F L _ h1).2 (av b X S F L _ h2).2⟩
 | .cmp op a b,X,S,F,L,e,h=>by
  obtain⟨⟨l,os,rs⟩,hv,fu⟩:=aE h;obtain⟨pos,rfl⟩:=zU hv;obtain⟨jS,h2⟩:=ah fu;obtain⟨oh,h1⟩:=ah jS;obtain⟨r,hr,Ot⟩:=aE h2;obtain⟨J_,h3⟩:=ah Ot;obtain rfl:os=[M6 op]:=U7 oh;obtain rfl:rs=[r]:=b6 hr;exact⟨PE.imp (AE (xQ L op) (av a X S F L _ h1).1 (av b X S F L _ J_).1 (xX h3)) λ_ _ _ oh=>qx oh,PT.imp (AA (xQ L op) (av a X S F L _ h1).1 (av b X S F L _ J_).1 (xX h3)) λ_ _ _ oh=>vi oh⟩
 | .ud a t,X,S,F,L,e,h=>by
  obtain⟨⟨f,as⟩,hv,fu⟩:=aE h;obtain⟨p,pos,rfl⟩:=dX hv;obtain⟨jS,h5⟩:=ah fu;obtain⟨oh,h2⟩:=ah jS;obtain⟨Bi,h1⟩:=ah oh;obtain rfl:f=_:=U7 Bi;obtain⟨⟨e,g⟩,hw,h5_2⟩:=aE h5;obtain rfl:as=[e,g]:=i3 hw;obtain⟨J7,h6⟩:=ah h5_2;obtain⟨x,hn,Fp⟩:=aE h6;obtain⟨p',rfl⟩:∃ p,g=.Name x p:=iZ hn;obtain⟨Fn,h4⟩:=ah Fp;obtain⟨Fm,h3⟩:=ah Fn;obtain rfl:=U7 Fm;have:=DC (F:=F) (p:=p) (p':=p') (pos:=pos) L h1 (U7 h2) h3 (U7 h4) (av a X S F L _ J7).1 (λes=>bz J7 es _);exact⟨this,bW this λ_=>rfl⟩
 | .call f cs,X,S,F,L,e,h=>by
  obtain⟨⟨x,as⟩,hv,fu⟩:=aE h;obtain⟨p,pos,rfl⟩:=dX hv;obtain⟨jS,h4⟩:=ah fu;obtain⟨oh,h3⟩:=ah jS;obtain⟨h1,h2⟩:=ah oh;obtain⟨⟨y,ys⟩,hu,h4_2⟩:=aE h4;obtain rfl:as=y::ys:=wW hu;cases cs with
  | nil=>exact(U8 h4_2).elim
  | cons c cs' =>
   have J8:=ah h4_2;have:=Al (F:=F) (p:=p) (pos:=pos) L (U7 h1) h2 h3 (de (c::cs') X S F L (y::ys) h4_2) (λes=>bz J8.1 es _) (λpos=>sF J8.2 pos _);exact⟨this,bW this λ_=>rfl⟩
 | .bf f cs,X,S,F,L,e,h=>by
  obtain⟨⟨x,as⟩,hv,fu⟩:=aE h;obtain⟨p,pos,rfl⟩:=dX hv;obtain⟨jS,h4⟩:=ah fu;obtain⟨oh,h3⟩:=ah jS;obtain⟨Bi,h2⟩:=ah oh;obtain rfl:x=_:=U7 Bi;obtain⟨⟨y,ys⟩,hu,h4_2⟩:=aE h4;obtain rfl:as=y::ys:=wW hu;cases cs with
  | nil=>exact(U8 h4_2).elim
  | cons c cs' =>
   have J8:=ah h4_2;have:=HN (F:=F) (p:=p) (pos:=pos) L h2 (U7 h3) (de (c::cs') X S F L (y::ys) h4_2) (λes=>bz J8.1 es _) (λpos=>sF J8.2 pos _);exact⟨this,bW this λ_=>rfl⟩
 | .ix a b,X,S,F,L,e,h=>by
  obtain⟨⟨l,r⟩,hv,fu⟩:=aE h;obtain⟨pos,rfl⟩:=ib hv;obtain⟨h1,h2⟩:=ah fu;have:=HM (F:=F) (pos:=pos) L (av a X S F L _ h1).1 (av b X S F L _ h2).1 (nh h2);exact⟨this,bW this λ_=>rfl⟩
 | .tup cs,X,S,F,L,e,h=>by
  obtain⟨es,hv,fu⟩:=aE h;obtain⟨n,pos,rfl⟩:=ia hv;obtain⟨h1,h2⟩:=ah fu;have:=Dx (F:=F) (n:=n) (pos:=pos) (de cs X S F L es h1) (U7 h2);exact⟨this,bW this λ_=>rfl⟩
 | .lst cs,X,S,F,L,e,h=>by
  obtain⟨es,hv,fu⟩:=aE h;obtain⟨pos,rfl⟩:=zR hv;obtain⟨h1,h2⟩:=ah fu;have:=DA (F:=F) (pos:=pos) (de cs X S F L es h1) (U7 h2);exact⟨this,bW this λ_=>rfl⟩
 | .comp n t caps ik es aJ elt,X,S,F,L,e,h=>by
  obtain⟨⟨gj,gens,sc⟩,hv,fu⟩:=aE h;obtain⟨pos,rfl⟩:=wU hv;obtain⟨⟨target,iter,ifs,a⟩,hg,jS⟩:=aE fu;obtain rfl:gens=_:=b6 hg;obtain⟨oh,h6⟩:=ah jS;obtain⟨Bi,h5⟩:=ah oh;obtain⟨Tr,h4⟩:=ah Bi;obtain⟨Tq,h3⟩:=ah Tr;obtain⟨Tp,h2⟩:=ah Tq;obtain⟨To,h1⟩:=ah Tp;obtain rfl:a=0:=U7 To;have vQ:=λ(X':Cx) (F':Addr->Prop) (L':Lk X' (S.inner target caps sc) k Φ)=>fC aJ X' _ F' L' ifs h4;have this:PE X (.ListComp gj [⟨target,iter,ifs,0⟩] sc pos) (tD X F Φ (.comp n t caps ik es aJ elt)) :=
   Ak L (ng h1) h2 (λX' F' L'=>(av elt X' _ F' L' gj h5).1) (qv (U7 h3) h4 vQ) (yj L (λl=>de es X S F L l) (λl=>fC es X S F L l) (λl=>f6 es X S F L l) h6)
  exact⟨this,bW this λ_=>rfl⟩
theorem fC:∀(cs:List CE) (X:Cx) (S:Sx) (F:Addr->Prop) (L:Lk X S k Φ) (es:List Expr),aV S cs es=true->∀(j:Nat) (c:CE) (e:Expr),cs[j]?=some c->es[j]?=some e->PE X e (tD X F Φ c)/\PT X e (ft X F Φ c)
 | [],X,S,F,L,_,_=>λj c e h _=>by simp at h
 | _::_,X,S,F,L,[],h=>by exact(U8 h).elim
 | c::cs,X,S,F,L,e::es,h=>λj c' e' hc he=>by
  replace h:=ah h;cases j with
  | zero=>simp at hc he;subst hc he;exact av c X S F L e h.1
  | succ j=>exact fC cs X S F L es h.2 j c' e' (by simpa using hc) (by simpa using he)
theorem f6:∀(cs:List CE) (X:Cx) (S:Sx) (F:Addr->Prop) (L:Lk X S k Φ) (es:List Expr),aV S cs es=true->my X F Φ cs es
 | [],X,S,F,L,[],_=>trivial
 | [],X,S,F,L,_::_,h=>by exact(U8 h).elim
 | _::_,X,S,F,L,[],h=>by exact(U8 h).elim
 | c::cs,X,S,F,L,e::es,h=>by
  replace h:=ah h;exact⟨(av c X S F L e h.1).1,λl=>bz h.1 l _,nh h.1,f6 cs X S F L es h.2⟩
theorem de:∀(cs:List CE) (X:Cx) (S:Sx) (F:Addr->Prop) (L:Lk X S k Φ) (es:List Expr),aV S cs es=true->PA X es (pd X F Φ cs)
 | [],X,S,F,L,[],_=>PA.imp gB λ_ _ _ h=>il h
 | [],X,S,F,L,_::_,h=>by exact(U8 h).elim
 | _::_,X,S,F,L,[],h=>by exact(U8 h).elim
 | c::cs,X,S,F,L,e::es,h=>by
  replace h:=ah h;exact PA.imp (cT (av c X S F L e h.1).1 (de cs X S F L es h.2) (bz h.1 es _)) λ_ _ _ h=>dY h
theorem i8:∀(cs:List CE) (X:Cx) (S:Sx) (F:Addr->Prop) (L:Lk X S k Φ) (es:List Expr),aV S cs es=true->∀ pos,PE X (.BoolOp .And es pos) (tD X F Φ (.and cs))/\PW X (.BoolOp .And es pos) (ft X F Φ (.and cs))
 | [],X,S,F,L,_,_,pos=>⟨λ_ _ _ _ _ _ ⟨_,_,_,_,_,ev,_⟩=>(by cases ev),λ_ _ _ _ _ _ _ ⟨_,_,_,_,_,ev,_⟩=>by cases ev⟩
 | [c],X,S,F,L,[e],h,pos=>by
  replace h:=ah h;exact⟨PE.imp (xI (av c X S F L e h.1).1) λ_ _ _ h=>BP h,PW.imp (Az (av c X S F L e h.1).2) λ_ _ _ h=>zt h⟩
 | [_],X,S,F,L,[],h,_=>by exact(U8 h).elim
 | [_],X,S,F,L,_::_::_,h,_=>by exact(U8 (ah h).2).elim
 | _::_::_,X,S,F,L,[],h,_=>by exact(U8 h).elim
 | _::_::_,X,S,F,L,[_],h,_=>by exact(U8 (ah h).2).elim
 | c::c'::cs,X,S,F,L,e::e'::es,h,pos=>by
  replace h:=ah h;have r:=i8 (c'::cs) X S F L (e'::es) h.2 pos;exact⟨PE.imp (D5 (av c X S F L e h.1).1 r.1) λ_ _ _ h=>zu h,PW.imp (DQ (av c X S F L e h.1).2 r.2) λ_ _ _ h=>wo h⟩
theorem kS:∀(cs:List CE) (X:Cx) (S:Sx) (F:Addr->Prop) (L:Lk X S k Φ) (es:List Expr),aV S cs es=true->∀ pos,PE X (.BoolOp .Or es pos) (tD X F Φ (.or cs))/\PW X (.BoolOp .Or es pos) (ft X F Φ (.or cs))
 | [],X,S,F,L,_,_,pos=>⟨λ_ _ _ _ _ _ ⟨_,_,_,_,_,ev,_⟩=>(by cases ev),λ_ _ _ _ _ _ _ ⟨_,_,_,_,_,ev,_⟩=>by cases ev⟩
 | [c],X,S,F,L,[e],h,pos=>by
  replace h:=ah h;exact⟨PE.imp (xI (av c X S F L e h.1).1) λ_ _ _ h=>D9 h,PW.imp (DP (av c X S F L e h.1).2) λ_ _ _ h=>AI h⟩
 | [_],X,S,F,L,[],h,_=>by exact(U8 h).elim
 | [_],X,S,F,L,_::_::_,h,_=>by exact(U8 (ah h).2).elim
 | _::_::_,X,S,F,L,[],h,_=>by exact(U8 h).elim
 | _::_::_,X,S,F,L,[_],h,_=>by exact(U8 (ah h).2).elim
 | c::c'::cs,X,S,F,L,e::e'::es,h,pos=>by
  replace h:=ah h;have r:=kS (c'::cs) X S F L (e'::es) h.2 pos;exact⟨PE.imp (Im (av c X S F L e h.1).1 r.1) λ_ _ _ h=>AJ h,PW.imp (Ig (av c X S F L e h.1).2 r.2) λ_ _ _ h=>xP h⟩
end
theorem fB(L:Lk X S k Φ)(c:CE)(e:Expr)(h:bc S c e=true):PE X e (tD X F Φ c)/\PT X e (ft X F Φ c):=av c X S F L e h
theorem kR(L:Lk X S k Φ)(cs:List CE)(es:List Expr)(h:aV S cs es=true):my X F Φ cs es:=f6 cs X S F L es h
theorem tm(L:Lk X S k Φ)(cs:List CE)(es:List Expr)(h:aV S cs es=true):PA X es (pd X F Φ cs):=de cs X S F L es h
end
section
variable {X:Cx}{S:Sx}{k:Nat}{F:Addr->Prop}{Φ:ay}
theorem nH(L:Lk X S k Φ)(c:CE)(e:Expr)(h:bc S c e=true):PE X e (tK X F Φ c):=by
 by_cases hv:∃ i,c=.v i
 ·obtain⟨i,rfl⟩:=hv;obtain⟨x,hx,ha⟩:=aE h;obtain⟨p,rfl⟩:=iZ hx;obtain⟨hb,h3⟩:=ah ha;obtain⟨h1,h2⟩:=ah hb;unfold jP at h3;simp only[Bool.and_eq_true,Bool.not_eq_true']at h3;refine PE.imp (rG (i:=i) (by rw[L.N];exact U7 h1) (L.KS h2) h3.1.1 h3.1.2) λσ H Q hq=>?_;obtain⟨R,τ,ρ,r,Si,ev,hq⟩:=hq;simp only[gd]at ev;split at ev
  ·rename_i d hd;split at ev
   ·cases ev;obtain⟨v,τ',hv,dW,rk⟩:=Si.move hd;exact⟨v,hv,hq v H R τ' (ai.refl H) (λ_ h=>h) dW rk⟩
   ·rename_i ho;cases ev;obtain⟨v,hv,rp⟩:=Si.rep i d hd;exact⟨v,hv,hq v H R τ (ai.refl H) (λ_ h=>h) Si (vS rp (by simpa using ho))⟩
  ·cases ev
 ·refine PE.imp (fB (F:=F) L c e h).1 λσ H Q hq=>?_;obtain⟨R,τ,ρ,r,Si,ev,hq⟩:=hq;have OK:bd (aH Φ c ρ) (λd=>ok (keep c d ρ))=ok r:=by
   cases c<;>first | exact ev | exact absurd ⟨_,rfl⟩ hv
  obtain⟨d,ed,er⟩:=ab OK;cases er;refine tD.intro Si ed λv H' e' r'=>?_;obtain⟨R',τ',h1,h2,h3⟩:=CA Si e' r';exact hq v H' R' τ' e' h1 h2 h3
end
structure Kp(R:Addr->Prop)(H:Hp)(R':Addr->Prop)(H':Hp):Prop where
 r:∀ p,R p->R' p
 l:∀ p (o:HO),R p->H p=some o->H' p=some o
 t:∀ p xs,H p=some (.tup xs)->H' p=some (.tup xs)
 z:∀ p o u,H p=some (.fK o u)->H' p=some (.fK o u)
theorem Kp.refl(R:Addr->Prop)(H:Hp):Kp R H R H:=⟨λ_ h=>h,λ_ _ _ h=>h,λ_ _ h=>h,λ_ _ _ h=>h⟩
theorem Kp.of(e:ai H H')(h:∀ p,R p->R' p):Kp R H R' H':=⟨h,λp xs _ h=>e _ _ h,λp xs h=>e _ _ h,λp o u h=>e _ _ h⟩
theorem Kp.trans{R2:Addr->Prop}(a:Kp R H R1 H1)(b:Kp R1 H1 R2 H2):Kp R H R2 H2 :=
 ⟨λp h=>b.r p (a.r p h),λp xs h e=>b.l p xs (a.r p h) (a.l p xs h e),λp xs h=>b.t p xs (a.t p xs h),λp o u h=>b.z p o u (a.z p o u h)⟩
theorem Kp.K2(a:Kp R H R' H'){p:Addr}(h:ao K H p xs):ao K H' p xs:=by
 rcases h with (h | ⟨o,h⟩) | h
 ·exact .inl (.inl (a.t p xs h))
 ·exact .inl (.inr ⟨o,a.z p o _ h⟩)
 ·exact .inr h
theorem Kp.nd{K:PySem.W.Frag}{R R':Addr->Prop}{H H':Hp}(a:Kp R H R' H'){q:az}{p:Addr}{xs:Nd}{f:Fl}(h:DI.nd K R (λ_=>False) (λ_=>none) H q p xs f):DI.nd K R' (λ_=>False) (λ_=>none) H' q p xs f:=by
 cases f with
 | ow=>exact nomatch h.2
 | fz=>exact⟨h.1.at λo e=>a.l p o h.2 e,a.r p h.2⟩
 | al=>exact h.2.elim
 | sc =>
  obtain⟨ys,rfl,h⟩:=h.xj;exact h.elim (λ⟨o,h⟩=>.inl ⟨o,a.z p o _ h⟩) .inr
theorem Kp.rep(a:Kp R H R' H'){k:az}{v:V}{d:D}(h:Rep (ao K H) (DI.nd K R (λ_=>False) (λ_=>none) H) k v d):Rep (ao K H') (DI.nd K R' (λ_=>False) (λ_=>none) H') k v d :=
 h.imp (λ_ _ h=>a.K2 h) λ_ _ _ _ h=>a.nd h
theorem Kp.ML(a:Kp R H R' H'){k:az}{n:Nat}{v:List V}{d:List D}(h:ae (ao K H) (DI.nd K R (λ_=>False) (λ_=>none) H) k n v d):ae (ao K H') (DI.nd K R' (λ_=>False) (λ_=>none) H') k n v d :=
 h.imp (λ_ _ h=>a.K2 h) λ_ _ _ _ h=>a.nd h
def zA(X:Cx)(F:Addr->Prop)(H':Hp)(v:V)(d:D):Prop:=∃ τt:Addr->Option az,(∀ p q,τt p=some q->X.H₀ p=none)/\Rep (ao X.K H') (nd X.K (gP X F) (λ_=>False) τt H') [] v d
theorem fR.ret{v:V}{d:D}(Si:SI X F R τ ρ σ H)(h:fR X R τ H v d):zA X F H v d:=by
 obtain⟨τt,ht,rp⟩:=h;exact⟨τt,λp q e=>(ht p q e).2.2.1,rp.imp (λ_ _ h=>h) λ_ _ _ _ h=>h.mono (λh=>Si.rf _ h) id id⟩
def jM(X:Cx)(F:Addr->Prop)(D:Ends)(R:Addr->Prop)(H:Hp):Fo×au->Prop
 | (.nx,ρ')=>∀ σ' H' R' τ',SI X F R' τ' ρ' σ' H'->Kp R H R' H'->D.nx σ' H'
 | (.bk,ρ')=>∀ σ' H' R' τ',SI X F R' τ' ρ' σ' H'->Kp R H R' H'->D.bk σ' H'
 | (.ct,ρ')=>∀ σ' H' R' τ',SI X F R' τ' ρ' σ' H'->Kp R H R' H'->D.ct σ' H'
 | (.rt d,_)=>∀ v H',ai X.H₀ H'->zA X F H' v d->D.rt v H'
def oT(X:Cx)(F:Addr->Prop)(Φ:ay)(c:CS):TS:=λD σ H=>∃ R τ ρ r,SI X F R τ ρ σ H/\jL Φ c ρ=ok r/\jM X F D R H r
def me(X:Cx)(F:Addr->Prop)(Φ:ay)(cs:List CS):TS:=λD σ H=>∃ R τ ρ r,SI X F R τ ρ σ H/\aT Φ cs ρ=ok r/\jM X F D R H r
noncomputable def Er(sc:Scope)(x:Str):Bool:=decide (sc.names.lookup x=some .local)||decide (sc.names.lookup x=some .cell)
def iN(S:Sx)(i:Nat):Expr->Bool
 | .Name x _=>decide (S.N[i]?=some x)&&Er S.sc x
 | _=>false
def Ln:Expr->Bool
 | .Name x _=>jP x
 | _=>true
def zl(S:Sx):List Nat->List Expr->Bool
 | [],es=>match es with
  | []=>true
  | _::_=>false
 | i::is,es=>match es with
  | []=>false
  | e::es=>iN S i e&&zl S is es
def qF(S:Sx):Tg->Expr->Bool
 | .nm i,e=>iN S i e
 | .tp is,e=>aD (vc e) λes=>zl S is es
noncomputable def eP:Expr->Bool
 | .ListComp _ _ _ _=>true
 | _=>false
noncomputable def isTup:Expr->Bool
 | .Tuple _ _ _=>true
 | _=>false
noncomputable def My(S:Sx)(tg v:Expr):Bool:=match tg,v with
 | .Name x p,.ListComp _ _ sc pos=>(S.sc.names.lookup x==some .local)&&(p.line==pos.line)&&!(sc.names.any λ(n,k)=>n==x&&(k==.local||k==.cell))
 | _,_=>false
noncomputable def C5:Expr->Option (Str×Pos)
 | .Name x p=>some (x,p)
 | _=>none
theorem sV{e:Expr}{x:Str}{p:Pos}(h:C5 e=some (x,p)):e=.Name x p:=by
 cases e<;>first | exact nk h | (cases h;done) | (cases h;rfl)
def zk(S:Sx)(i j:Nat)(tg v:Expr):Bool :=
 aD (vc tg) λts=>aD (two ts) λt=>aD (C5 t.1) λx=>aD (C5 t.2) λy=>aD (vc v) λvs=>aD (two vs) λw =>
  decide (S.N[i]?=some x.1)&&decide (S.N[j]?=some y.1)&&decide (i≠j)&&decide (S.sc.names.lookup x.1=some .local)&&decide (S.sc.names.lookup y.1=some .local)&&decide (x.1≠y.1) &&
   decide (x.2.line=y.2.line)&&!([w.1,w.2].all (foldedForSure 8))&&!([w.1,w.2].all (constantsAlone 8))&&decide (([w.1,w.2].any λe=>match e with | .Starred ..=>true | _=>false)=false)
def Kz(S:Sx)(it:CI)(e:Expr):Bool:=match it with
 | .k8 a=>aD (gp e) λw=>decide (w.1=("range" : Str))&&ml S.sc w.1&&decide (w.1∈S.bl)&&aD (one w.2) λy=>bc S a y
 | .seq a=>bc S a e&&mU e
 | .Cq p es=>La e&&aD (S.px.pi p S.sc S.bl e) λxs=>aV S es xs
noncomputable def xT:CI->Bool
 | .Cq p _=>decide (1100<=p)
 | _=>true
noncomputable def qY:Stmt->Option (List Expr×Expr)
 | .Assign ts v _=>some (ts,v)
 | _=>none
theorem ic{s:Stmt}{ts:List Expr}{v:Expr}(h:qY s=some (ts,v)):∃ p,s=.Assign ts v p:=by
 cases s<;>first | exact nk h | (cases h;done) | (cases h;exact⟨_,rfl⟩)
noncomputable def Hd:Stmt->Option (Option Expr)
 | .Return v _=>some v
 | _=>none
theorem zP{s:Stmt}{v:Option Expr}(h:Hd s=some v):∃ p,s=.Return v p:=by
 cases s<;>first | exact nk h | (cases h;done) | (cases h;exact⟨_,rfl⟩)
noncomputable def Hh:Stmt->Option Expr
 | .Expr v _=>some v
 | _=>none
theorem qV{s:Stmt}{v:Expr}(h:Hh s=some v):∃ p,s=.Expr v p:=by
 cases s<;>first | exact nk h | (cases h;done) | (cases h;exact⟨_,rfl⟩)
noncomputable def C7:Stmt->Option (Expr×Operator×Expr)
 | .AugAssign o p v _=>some (o,p,v)
 | _=>none
theorem zW{s:Stmt}{v:Expr}{p:Operator}(h:C7 s=some (o,p,v)):∃ q,s=.AugAssign o p v q:=by
 cases s<;>first | exact nk h | (cases h;done) | (cases h;exact⟨_,rfl⟩)
noncomputable def Hf:Stmt->Option (Expr×List Stmt×List Stmt)
 | .If t x y _=>some (t,x,y)
 | _=>none
theorem zS{s:Stmt}{t:Expr}{x y:List Stmt}(h:Hf s=some (t,x,y)):∃ q,s=.If t x y q:=by
 cases s<;>first | exact nk h | (cases h;done) | (cases h;exact⟨_,rfl⟩)
noncomputable def Hc:Stmt->Option (Expr×List Stmt×List Stmt)
 | .While t x y _=>some (t,x,y)
 | _=>none
theorem zO{s:Stmt}{t:Expr}{x y:List Stmt}(h:Hc s=some (t,x,y)):∃ q,s=.While t x y q:=by
 cases s<;>first | exact nk h | (cases h;done) | (cases h;exact⟨_,rfl⟩)
noncomputable def Hg:Stmt->Option (Expr×Expr×List Stmt×List Stmt)
 | .For tg it x y _=>some (tg,it,x,y)
 | _=>none
theorem zT{s:Stmt}{it:Expr}{x y:List Stmt}(h:Hg s=some (tg,it,x,y)):∃ q,s=.For tg it x y q:=by
 cases s<;>first | exact nk h | (cases h;done) | (cases h;exact⟨_,rfl⟩)
noncomputable def oZ:Expr->Option (Expr×Str×Pos)
 | .Attribute o a p=>some (o,a,p)
 | _=>none
theorem kO{e:Expr}{a:Str}{p:Pos}(h:oZ e=some (o,a,p)):e=.Attribute o a p:=by
 cases e<;>first | exact nk h | (cases h;done) | (cases h;rfl)
noncomputable def kN:Expr->Option (Expr×List Expr×List Keyword×Pos)
 | .Call f as ks p=>some (f,as,ks,p)
 | _=>none
theorem i0{e f:Expr}{ks:List Keyword}{p:Pos}(h:kN e=some (f,as,ks,p)):e=.Call f as ks p:=by
 cases e<;>first | exact nk h | (cases h;done) | (cases h;rfl)
noncomputable def isNil{α:Type}:List α->Bool
 | []=>true
 | _::_=>false
theorem eu{α:Type}{l:List α}(h:isNil l=true):l=[]:=by cases l<;>first | rfl | cases h
noncomputable def A9:Stmt->Bool
 | .Raise _ _ _=>true
 | _=>false
noncomputable def EJ:Stmt->Bool
 | .Pass _=>true
 | _=>false
theorem GL{s:Stmt}(h:EJ s=true):∃ p,s=.Pass p:=by cases s<;>first | exact nk h | (cases h;done) | exact⟨_,rfl⟩
noncomputable def Jr:Stmt->Bool
 | .Break _=>true
 | _=>false
theorem Jq{s:Stmt}(h:Jr s=true):∃ p,s=.Break p:=by cases s<;>first | exact nk h | (cases h;done) | exact⟨_,rfl⟩
noncomputable def Nz:Stmt->Bool
 | .Continue _=>true
 | _=>false
theorem Lp{s:Stmt}(h:Nz s=true):∃ p,s=.Continue p:=by cases s<;>first | exact nk h | (cases h;done) | exact⟨_,rfl⟩
theorem oD{i:Nat}{e:Expr}(h:iN S i e=true):∃ x p,e=.Name x p:=by
 cases e<;>first | exact⟨_,_,rfl⟩ | exact(U8 h).elim
theorem uc{e:Expr}(h:isNm e=true):∃ x p,e=.Name x p:=by cases e<;>first | exact nk h | (cases h;done) | exact⟨_,_,rfl⟩
theorem vE{e:Expr}(h:eP e=true):∃ x g sc p,e=.ListComp x g sc p:=by cases e<;>first | exact nk h | (cases h;done) | exact⟨_,_,_,_,rfl⟩
mutual
noncomputable def Kx(S:Sx):CS->Stmt->Bool
 | .asg t e,s0=>aD (qY s0) λz=>aD (one z.1) λtg=>bc S e z.2&&qF S t tg&&!(isTup z.2&&isTup tg)&&(!eP z.2||isNm tg)
 | .par i j a b,s0=>aD (qY s0) λz=>aD (one z.1) λtg=>bc S (.tup [a,b]) z.2&&zk S i j tg z.2
 | .ret e,s0=>aD (Hd s0) λz=>aD z λv=>bc S e v
 | .rs _,s0=>A9 s0
 | .mut p i es,s0=>aD (S.px.pm p S.sc S.bl s0) λz=>iN S i z.1&&Ln z.1&&aV S es z.2
 | .popT t i,s0=>aD (qY s0) λz=>aD (one z.1) λtg=>qF S t tg&&aD (kN z.2) λu=>isNil u.2.2.1&&(isNil u.2.1&&aD (oZ u.1) λa=>decide (a.2.1=("pop" : Str))&&iN S i a.1&&Ln a.1&&(a.2.2.endLine==u.2.2.2.line))
 | .app i e,s0=>aD (Hh s0) λc=>aD (kN c) λz=>isNil z.2.2.1&&aD (oZ z.1) λa=>decide (a.2.1=("append" : Str))&&iN S i a.1&&Ln a.1&&(a.2.2.endLine==z.2.2.2.line)&&aD (one z.2.1) λv=>bc S e v
 | .setI i k e,s0=>aD (qY s0) λz=>aD (one z.1) λtg=>aD (jN tg) λw=>iN S i w.1&&Ln w.1&&bc S k w.2&&bc S e z.2&&!eP z.2
 | .ex e,s0=>aD (Hh s0) λv=>bc S e v&&!eP v
 | .ifs c a b,s0=>aD (Hf s0) λz=>bc S c z.1&&iM S a z.2.1&&iM S b z.2.2
 | .zL c b,s0=>aD (Hc s0) λz=>isNil z.2.2&&bc S c z.1&&iM S b z.2.1
 | .fr t it b,s0=>aD (Hg s0) λz=>isNil z.2.2.2&&qF S t z.1&&Kz S it z.2.1&&(eO z.1||xT it)&&iM S b z.2.2.1
noncomputable def iM(S:Sx):List CS->List Stmt->Bool
 | [],ss=>match ss with
  | []=>true
  | _::_=>false
 | c::cs,ss=>match ss with
  | []=>false
  | s::ss=>Kx S c s&&iM S cs ss
end
structure Gj(px:Px)(Φ:ay):Prop where
 m:∀(X:Cx) (sc:Scope) (bl:List Str) (k:Nat),PX X sc bl k->X.N.Nodup->(∀ x,X.fn x=true)->∀(p:Nat) (st:Stmt) (x:Str) (pos:Pos) (args:List Expr),px.pm p sc bl st=some (.Name x pos,args)->∀(i:Nat),X.N[i]?=some x->L2.Loc X.env.scope x->PE X (.Name x pos) (vh i) ->
  ∀(F:Addr->Prop) (cs:List CE),my X F Φ cs args->PS X st (oT X F Φ (.mut p i cs))
structure l_(X:Cx)(S:Sx)(k:Nat)(Φ:ay):Prop extends Lk X S k Φ where
 Bm:∀ x,X.fn x=true
 px:PassesOwn (model X.prog X.w) X.A X.env X.xe
 fk:S.sc.kind=.function
 pm:Gj S.px Φ
section
variable {X:Cx}{S:Sx}{k:Nat}{F:Addr->Prop}{Φ:ay}
theorem l_.loc(L:l_ X S k Φ){x:Str}(h:Er S.sc x=true):L2.Loc X.env.scope x:=by
 unfold L2.Loc;rw[L.sc];unfold Er at h;rw[Bool.or_eq_true]at h;exact h.imp U7 U7
theorem Cd(L:l_ X S k Φ){x:Str}{p:Pos}{l:Nat}{elt:Expr}{gens:List Comprehension}{sc:Scope}:swapsWith (.ListComp elt gens sc pos) (some (.Name x p)) l X.env=pure (My S (.Name x p) (.ListComp elt gens sc pos)):=by
 have hb:X.env.blockKind=.function:=by unfold Env.blockKind;rw[L.sc,L.fk];rfl
 have hk:(X.env.kindOf x==some .local)=(S.sc.names.lookup x==some .local):=by
  unfold Env.kindOf;rw[L.sc]
 unfold swapsWith My;simp only[hb,hk];rfl
theorem lW{c:CE}{e:Expr}(h:bc S c e=true)(hc:eP e=false)(t:Option Expr)(l:Nat)(env:Env):swapsWith e t l env=pure false:=by
 cases e<;>first | rfl | (cases hc;done) | (cases c<;>exact(U8 h).elim)
def OA:List Nat->BV
 | []=>Fv
 | i::is=>yH (m6 i) (OA is)
theorem xG(L:l_ X S k Φ){i:Nat}{e:Expr}(h:iN S i e=true):PG X e (m6 i):=by
 cases e<;>try (exact(U8 h).elim;done)
 replace h:=ah h;exact nN L.nd (by rw[L.N];exact U7 h.1) (L.loc h.2) (.inl (L.Bm _))
theorem AS{i:Nat}{e:Expr}(h:iN S i e=true)(es:List Expr)(env:Env):assignEach (e::es) env=(false,assign e env)::assignEach es env:=by
 cases e<;>first | rfl | (exact(U8 h).elim;done)
theorem xF(L:l_ X S k Φ):∀ {is:List Nat} {es:List Expr},zl S is es=true->G6 X es (OA is)/\(assignEach es X.env).length=is.length/\(assignEach es X.env).findIdx? (·.1)=none
 | [],[],_=>⟨tP,rfl,rfl⟩
 | [],_::_,h=>by exact(U8 h).elim
 | _::_,[],h=>by exact(U8 h).elim
 | i::is,e::es,h=>by
  replace h:=ah h;obtain⟨h1,h2,h3⟩:=xF L h.2;have he:=AS h.1 es X.env;refine⟨pN (xG L h.1) h1 (by rw[he];rfl),by rw[he];simp[h2],?_⟩;rw[he,List.findIdx?_cons];simp[h3]
theorem pC{H:Hp}{R:Addr->Prop}{Q:St->Hp->Prop}:∀ {is:List Nat} {vs:List V} {ds:List D} {kp:az} {n:Nat} {σ:St} {τ:Addr->Option az} {ρ ρ':au},ae (ao X.K H) (nd X.K R (λ_=>False) (λ_=>none) H) kp n vs ds->SI X F R τ ρ σ H->dZ is ds ρ=ok ρ' ->
  (∀ σ' τ',SI X F R τ' ρ' σ' H->Q σ' H)->OA is vs σ H Q
 | [],_,_,_,_,σ,τ,_,_,.nil,Si,e,hq=>by
  cases e;exact⟨rfl,hq σ τ Si⟩
 | [],_,_,_,_,_,_,_,_,.cons _ _,_,e,_=>by cases e
 | _::_,_,_,_,_,_,_,_,_,.nil,_,e,_=>by cases e
 | i::is,_,_,_,_,σ,τ,ρ,_,.cons (v:=v) (d:=d) h t,Si,e,hq=>by
  change (if _ then _ else _)=_ at e;split at e
  ·rename_i hi;obtain⟨τ',dW⟩:=Si.set (i:=i) (j5 (τ':=τ) (Rep.nZ h)) hi;exact⟨_,_,rfl,pC t dW e hq⟩
  ·cases e
theorem sZ(L:l_ X S k Φ){t:Tg}(h:qF S t tg=true):∃ g,PG X tg g/\∀(v:V) (σ:St) (H:Hp) (Q:St->Hp->Prop) (R:Addr->Prop) (τ:Addr->Option az) (ρ ρ':au) (d:D),SI X F R τ ρ σ H->fR X R τ H v d->bw t d ρ=ok ρ' ->
  (∀ σ' τ',SI X F R τ' ρ' σ' H->Q σ' H)->g v σ H Q:=by
 cases t with
 | nm i =>
  refine⟨m6 i,xG L h,λv σ H Q R τ ρ ρ' d Si rk e hq=>?_⟩;simp only[bw]at e;split at e
  ·rename_i hi;cases e;obtain⟨τ',dW⟩:=Si.set rk hi;exact hq _ τ' dW
  ·cases e
 | tp is =>
  obtain⟨es,hx,ha⟩:=aE h;obtain⟨nn,pp,rfl⟩:=ia hx;obtain⟨h1,h2,h3⟩:=xF L ha;refine⟨_,xE L.calm h1 h2 h3,λv σ H Q R τ ρ ρ' d Si rk e hq=>?_⟩;cases d<;>try (simp[bw]at e;done)
  rename_i ds;simp only[bw]at e;split at e
  ·cases e
  ·rename_i ho;obtain⟨τt,ht,rp⟩:=rk;cases rp with
   | @tup _ p xs _ hp rs =>
    have hJ:ae (ao X.K H) (nd X.K R (λ_=>False) (λ_=>none) H) [] 0 xs ds:=ae.without (P:=bo) (λ_ _ h=>h) (λk k' p xs f hf h=>by
     cases f with
     | ow=>cases hf
     | fz=>exact h
     | al=>exact h.2.elim
     | sc=>exact h) rs (by simpa using ho) _ _
    refine⟨p,xs,rfl,hp,?_,pC hJ Si e hq⟩;rw[rs.length];have:∀(is:List Nat) (ds:List D) (ρ ρ':au),dZ is ds ρ=ok ρ'->ds.length=is.length:=by
     intro is;induction is with
     | nil=>intro ds ρ ρ' e;cases ds with | nil=>rfl | cons _ _=>cases e
     | cons i is ih=>intro ds ρ ρ' e;cases ds with
      | nil=>cases e
      | cons d ds =>
       change (if _ then _ else _)=_ at e;split at e
       ·simp[ih ds _ _ e]
       ·cases e
    exact this _ _ _ _ e
end
section
variable {X:Cx}{S:Sx}{k:Nat}{F:Addr->Prop}{Φ:ay}
theorem w_(L:l_ X S k Φ){t:Tg}{e:CE}{v:Expr}(he:bc S e v=true)(ht:qF S t tg=true)(hp:(isTup v&&isTup tg)=false)(JA:swapsWithSole [tg] v pos.line X.env=pure false):PS X (.Assign [tg] v pos) (oT X F Φ (.asg t e)):=by
 obtain⟨g,hg,vO⟩:=sZ (F:=F) L ht;have vg:(∃ x p,tg=.Name x p)\/∃ es n p,tg=.Tuple es n p:=by
  cases t with
  | nm i=>cases tg<;>first | exact .inl ⟨_,_,rfl⟩ | exact(U8 ht).elim
  | tp is=>cases tg<;>first | exact .inr ⟨_,_,_,rfl⟩ | exact(U8 ht).elim
 have each:(assignEach [tg] X.env).map (·.2)=[assign tg X.env]:=by
  rcases vg with ⟨x,p,rfl⟩ | ⟨es,n,p,rfl⟩<;>rfl
 have hw:swappedStores [tg] v X.env=pure none:=by
  rcases vg with ⟨x,p,rfl⟩ | ⟨es,n,p,rfl⟩
  ·first | rfl | (cases v<;>rfl)
  ·cases v<;>first | rfl | exact absurd hp (by simp[isTup])
 refine PS.imp (rF (nH (F:=F) L.toLk e v he) hg JA hw each) λD σ H hq=>?_;obtain⟨R,τ,ρ,r,Si,ev,hq⟩:=hq;obtain⟨r1,sf,ev⟩:=ab ev;obtain⟨ρ',eρ,ev⟩:=ab ev;cases ev;exact⟨R,τ,ρ,r1,Si,sf,λv H' R' τ' es hR dW rk=>vO v σ H' _ R' τ' r1.2 ρ' r1.1 dW rk eρ λσ' wK Gf=>hq σ' H' R' wK Gf (Kp.of es hR)⟩
theorem Af(L:l_ X S k Φ){i n:Nat}{t:Tg}{ik:IK}{x:Str}{p HI:Pos}{gens:List Comprehension}{sc:Scope}
  (he:bc S (.comp n t caps ik es aJ elt) (.ListComp gj gens sc pos)=true) (hn:iN S i (.Name x p)=true) (JA:swapsWith (.ListComp gj gens sc pos) (some (.Name x p)) HI.line X.env=pure true) :
  PS X (.Assign [.Name x p] (.ListComp gj gens sc pos) HI) (oT X F Φ (.asg (.nm i) (.comp n t caps ik es aJ elt))):=by
 intro pins s σ H D I hq;obtain⟨R,τ,ρ,r,Si,ev,hq⟩:=hq;obtain⟨r1,sf,ev⟩:=ab ev;obtain⟨ρ',eρ,ev⟩:=ab ev;cases ev;have sf:bd (aH Φ (.comp n t caps ik es aJ elt) ρ) (λd=>ok (keep (.comp n t caps ik es aJ elt) d ρ))=ok r1:=sf;obtain⟨d,ed,sf⟩:=ab sf;cases sf;have hg:=xG L hn;rw[exec_Assign_Name_used _ _ _ _ JA];refine U6 (WJ (U6 ?_));obtain⟨⟨e0,g0,s0⟩,Su,hz0⟩:=aE he;cases Su;obtain⟨⟨target,iter,ifs,a⟩,N9,hz⟩:=aE hz0;obtain rfl:gens=_:=b6 N9;obtain⟨hz,h6⟩:=ah hz;obtain⟨hz,h5⟩:=ah hz;obtain⟨hz,h4⟩:=ah hz;obtain⟨hz,h3⟩:=ah hz;obtain⟨hz,h2⟩:=ah hz;obtain⟨hz,h1⟩:=ah hz;obtain rfl:a=0:=U7 hz;have hC:=qv (U7 h3) h4 (λ(X':Cx) (F':Addr->Prop) (L':Lk X' (S.inner target caps sc) k Φ)=>fC aJ X' _ F' L' ifs h4);have run:wpAny (model X.prog X.w) X.A (comprehension (.ListComp gj [⟨target,iter,ifs,0⟩] sc pos) sc X.env (firstIterPos [⟨target,iter,ifs,0⟩] pos) (newList []) false (eval iter X.env) (some (assign (.Name x p) X.env))) (λ_ s'=>SP X pins D .next s') X.xe s:=by
  refine qw (F:=F) (k:=k) L.toLk (ng h1) h2 (λX' F' L'=>(fB (F:=F') L' elt gj h5).1) hC ?_ (use:=some (assign (.Name x p) X.env)) (Post:=λ_ s'=>SP X pins D .next s') I Si ed ?_
  ·exact yj L.toLk (λl=>tm (F:=F) L.toLk es l) (λl=>fC es X S F L.toLk l) (λl=>kR L.toLk es l) h6
  ·intro acc C H1 s1 m wz hc IX sm rt;obtain⟨c1,c2,c3,c4,c5⟩:=hc;obtain⟨R',τ',hR,dW,rk⟩:=CA (e:=.comp n t caps ik es aJ elt) Si sm rt;have I1:Inv X pins σ H1 s1:=IX s1.heap (.refl ..);obtain⟨oC,TN,TR,SH,Qx,SA⟩:=wz;have Uk:C∉X.fs:=λz=>by
    obtain⟨_,o,ho,_⟩:=I1.ok.jU.mem z;exact absurd (Vf (Vd ho) c2) (Vz _)
   have I2:Inv X ((C,oC)::pins) σ H1 s1:=I1.f9 λq hq=>by
    rcases List.mem_cons.mp hq with rfl | hq
    ·exact⟨SH,c5,c1,Uk,λv z=>by rw[Qx]at z;cases z⟩
    ·exact I1.pin q (Vg _ hq)
   simp only[bw]at eρ;split at eρ
   ·rename_i hi;cases eρ;obtain⟨τ2,qO⟩:=dW.set rk hi;show wpAny _ _ (assign (.Name x p) X.env (.ref acc)) _ _ _;refine Vn (hg ((C,oC)::pins) s1 σ H1 (.ref acc) (.ref acc) (λσ' H'=>σ'=σ.set i (some (.ref acc))/\H'=H1) I2 rfl ⟨rfl,rfl⟩) (λ_ s2 h2=>?_) λ_ _ z=>z;obtain⟨σ',H',I3,rfl,rfl⟩:=h2;have Tu:=(I3.pin (C,oC) (Vg _ Vb)).1;refine⟨m,⟨oC,TN,TR,Tu,Qx,SA⟩,λh' vK=>?_⟩;have I4:Inv X pins (σ.set i (some (.ref acc))) H' s2:=I3.f9 λq hq=>I3.pin q (Vg _ (Va _ hq));have I5:=I4.turned (t':=s2.toks) (h':=h') (it:=C) (λb o hb e=>(vK.2 b hb).trans e) c5 c1 (.inr c2) c3 c4;exact⟨_,H',I5,hq _ H' R' τ2 qO (Kp.of sm hR)⟩
   ·cases eρ
 exact U6 (Vn run (λ_ s' h=>U9 (U9 h)) λ_ _ z=>z)
theorem Dm(L:l_ X S k Φ){e:CE}{v:Expr}(he:bc S e v=true):PS X (.Return (some v) pos) (oT X F Φ (.ret e)):=by
 refine PS.imp (DT (nH (F:=F) L.toLk e v he)) λD σ H hq=>?_;obtain⟨R,τ,ρ,r,Si,ev,hq⟩:=hq;obtain⟨r1,sf,ev⟩:=ab ev;cases ev;exact⟨R,τ,ρ,r1,Si,sf,λv H' R' τ' es hR dW rk=>hq v H' dW.same (rk.ret dW)⟩
theorem HH(L:l_ X S k Φ){e:CE}{v:Expr}(he:bc S e v=true)(N3:eP v=false):PS X (.Expr v pos) (oT X F Φ (.ex e)):=by
 refine PS.imp (nM (fB (F:=F) L.toLk e v he).1 (lW he N3 _ _ _)) λD σ H hq=>?_;obtain⟨R,τ,ρ,r,Si,ev,hq⟩:=hq;obtain⟨d,ed,ev⟩:=ab ev;cases ev;exact tD.intro Si ed λv H' es rv=>hq σ H' R τ (Si.go es) (Kp.of es λ_ h=>h)
theorem jM.from{D:Ends}{r:Fo×au}(h:jM X F D R H r)(kp:Kp R H R1 H1):jM X F D R1 H1 r:=by
 obtain⟨fo,ρ'⟩:=r;cases fo with
 | nx=>exact λσ' H' R' τ' Si k2=>h σ' H' R' τ' Si (kp.trans k2)
 | bk=>exact λσ' H' R' τ' Si k2=>h σ' H' R' τ' Si (kp.trans k2)
 | ct=>exact λσ' H' R' τ' Si k2=>h σ' H' R' τ' Si (kp.trans k2)
 | rt d=>exact h
theorem HG(L:l_ X S k Φ){c:CE}{a b:List CS}{t:Expr}{x y:List Stmt}(hc:bc S c t=true)(ha:kF X x (me X F Φ a))(hb:kF X y (me X F Φ b)):PS X (.If t x y pos) (oT X F Φ (.ifs c a b)):=by
 refine PS.imp (Ii (fB (F:=F) L.toLk c t hc).2 ha hb) λD σ H hq=>?_;obtain⟨R,τ,ρ,r,Si,ev,hq⟩:=hq;obtain⟨w,ew,ev⟩:=ab ev;refine⟨R,τ,ρ,w,Si,ew,λH1 e1=>?_⟩;cases w with
 | true=>rw[if_pos rfl]at ev ⊢;exact⟨R,τ,ρ,r,Si.go e1,ev,hq.from (Kp.of e1 λ_ h=>h)⟩
 | false=>rw[if_neg (by simp)]at ev ⊢;exact⟨R,τ,ρ,r,Si.go e1,ev,hq.from (Kp.of e1 λ_ h=>h)⟩
theorem w9(L:l_ X S k Φ){c:CE}{b:List CS}{t:Expr}{x:List Stmt}(hc:bc S c t=true)(hb:kF X x (me X F Φ b)):PS X (.While t x [] pos) (oT X F Φ (.zL c b)):=by
 refine PS.imp (xy L.px (fB (F:=F) L.toLk c t hc).2 hb) λD σ H hq=>?_;obtain⟨R,τ,ρ,r,Si,ev,hq⟩:=hq;obtain⟨n,hn⟩:=jb ev;refine⟨λm σ' H'=>∃ R' τ' ρ',SI X F R' τ' ρ' σ' H'/\Kp R H R' H'/\bL m _ ρ'=ok r,⟨n,R,τ,ρ,Si,Kp.refl R H,hn⟩,?_⟩;rintro m σ1 H1 ⟨R1,τ1,ρ1,l9,k1,e1⟩;cases m with
 | zero=>simp[bL]at e1
 | succ m =>
  rw[bL]at e1;obtain⟨st,es,e1⟩:=ab e1;obtain⟨w,ew,es⟩:=ab es;refine⟨R1,τ1,ρ1,w,l9,ew,λH2 e2=>?_⟩;cases w with
  | false =>
   rw[if_neg (by simp)]at es ⊢;cases es;cases e1;exact hq σ1 H2 R1 τ1 (l9.go e2) (k1.trans (Kp.of e2 λ_ h=>h))
  | true =>
   rw[if_pos rfl]at es ⊢;obtain⟨⟨fo,ρ2⟩,eb,es⟩:=ab es;refine⟨λσ' H'=>∃ R' τ' ρ',SI X F R' τ' ρ' σ' H'/\Kp R H R' H'/\bL m _ ρ'=ok r,λσ' H' h=>⟨m,Wn m,h⟩,R1,τ1,ρ1,(fo,ρ2),l9.go e2,eb,?_⟩;have k2:Kp R H R1 H2:=k1.trans (Kp.of e2 λ_ h=>h);cases fo with
   | nx=>cases es;exact λσ' H' R' τ' dW k3=>⟨R',τ',ρ2,dW,k2.trans k3,e1⟩
   | ct=>cases es;exact λσ' H' R' τ' dW k3=>⟨R',τ',ρ2,dW,k2.trans k3,e1⟩
   | bk=>cases es;cases e1;exact λσ' H' R' τ' dW k3=>hq σ' H' R' τ' dW (k2.trans k3)
   | rt d=>cases es;cases e1;exact hq
def iT(X:Cx)(F:Addr->Prop)(Φ:ay)(t:Tg)(b:List CS)(R1:Addr->Prop)(H1:Hp)(r:Fo×au)(items:List DI.D)(i:Nat)(σ:St)(H:Hp):Prop :=
 ∃ R' τ' ρ',SI X F R' τ' ρ' σ H/\Kp R1 H1 R' H/\eA (λd ρ=>bw t d ρ) (λρ=>aT Φ b ρ) (items.drop i) ρ'=ok r
theorem lI{g:TG}{t:Tg}{b:List CS}{D:Ends}{r:Fo×au}{items:List DI.D}{q:az}
  (vO:∀(v:V) (σ:St) (H:Hp) (Q:St->Hp->Prop) (R:Addr->Prop) (τ:Addr->Option az) (ρ ρ':au) (d:DI.D),SI X F R τ ρ σ H->fR X R τ H v d->bw t d ρ=ok ρ'->(∀ σ' τ',SI X F R τ' ρ' σ' H->Q σ' H)->g v σ H Q)
  (rs:ae (ao X.K H1) (nd X.K R1 (λ_=>False) (λ_=>none) H1) q 0 xs items) (hq:jM X F D R1 H1 r) (i:Nat) (x:V) (σ:St) (H:Hp) (hx:xs[i]?=some x) (h:iT X F Φ t b R1 H1 r items i σ H) :
  g x σ H λσ2 H2=>me X F Φ b { D with nx:=iT X F Φ t b R1 H1 r items (i+1),ct:=iT X F Φ t b R1 H1 r items (i+1),bk:=D.nx } σ2 H2:=by
 obtain⟨R',τ',ρ',Si,kp,ef⟩:=h;obtain⟨d,hd,rd⟩:=rs.yE hx;have hi:i<items.length:=by
  by_cases hi:i<items.length
  ·exact hi
  ·rw[List.getElem?_eq_none (by left)]at hd;cases hd
 have qe:items.drop i=d::items.drop (i+1):=by
  rw[List.drop_eq_getElem_cons hi];rw[List.getElem?_eq_getElem hi]at hd;cases hd;rfl
 rw[qe,eA]at ef;obtain⟨ρ1,e1,ef⟩:=ab ef;obtain⟨⟨fo,ρ2⟩,e2,ef⟩:=ab ef;refine vO x σ H _ R' τ' ρ' ρ1 d Si (j5 (Rep.nZ (kp.rep rd))) e1 λσ' wK dW=>⟨R',wK,ρ1,(fo,ρ2),dW,e2,?_⟩
 cases fo with
 | nx=>exact λσ3 H3 R3 τ3 sR k3=>⟨R3,τ3,ρ2,sR,kp.trans k3,ef⟩
 | ct=>exact λσ3 H3 R3 τ3 sR k3=>⟨R3,τ3,ρ2,sR,kp.trans k3,ef⟩
 | bk=>cases ef;exact λσ3 H3 R3 τ3 sR k3=>hq σ3 H3 R3 τ3 sR (kp.trans k3)
 | rt d=>cases ef;exact hq
theorem kb{t:Tg}{b:List CS}{D:Ends}{r:Fo×au}{items:List DI.D}{n:Nat}(hn:n=items.length)(hq:jM X F D R1 H1 r)(σ:St)(H:Hp)(h:iT X F Φ t b R1 H1 r items n σ H):D.nx σ H:=by
 obtain⟨R',τ',ρ',Si,kp,ef⟩:=h;subst hn;rw[List.drop_length,eA]at ef;cases ef;exact hq σ H R' τ' Si kp
theorem uw(ρ:au):fK [] ρ=ρ:=by
 unfold fK;apply WM;intro i;rw[List.getElem?_mapIdx];cases ρ[i]? with
 | none=>rfl
 | some o=>simp
theorem uz{v:V}{d:DI.D}(Si:SI X F R τ ρ σ H)(es:ai H H')(r:bj X.K (gP X F) R τ fv H H' v d):
  ∃ R' τ',(∀ p,R p->R' p)/\SI X F R' τ' (if ak aQ d then fK fv ρ else ρ) σ H'/\Rep (ao X.K H') (nd X.K R' (λ_=>False) (λ_=>none) H') [] v (aw aC d):=by
 by_cases ha:ak aQ d=true
 ·rw[if_pos ha];exact oj Si es r
 ·rw[if_neg ha];have r':bj X.K (gP X F) R τ [] H H' v d:=by
   obtain⟨τt,fr,rp⟩:=r;exact⟨τt,fr,Rep.hZ (P:=aQ) (λ_ _ h=>h) (λk p xs f hf h=>by
    cases f with
    | ow=>exact h
    | fz=>exact h
    | al=>cases hf
    | sc=>exact h) rp (by simpa using ha)⟩
  have:=oj Si es r';rw[uw]at this;exact this
theorem yJ{ds:List DI.D}(Si:SI X F R τ ρ σ H)(es:ai H H')(r:bg X.K (gP X F) R τ fv H H' vs ds):
  ∃ R' τ',(∀ p,R p->R' p)/\SI X F R' τ' (if aj aQ ds then fK fv ρ else ρ) σ H'/\ae (ao X.K H') (nd X.K R' (λ_=>False) (λ_=>none) H') [] 0 vs (ag aC ds):=by
 by_cases ha:aj aQ ds=true
 ·rw[if_pos ha];exact qk Si es r
 ·rw[if_neg ha];have r':bg X.K (gP X F) R τ [] H H' vs ds:=by
   obtain⟨τt,fr,rp⟩:=r;exact⟨τt,fr,ae.hZ (P:=aQ) (λ_ _ h=>h) (λk p xs f hf h=>by
    cases f with
    | ow=>exact h
    | fz=>exact h
    | al=>cases hf
    | sc=>exact h) rp (by simpa using ha)⟩
  have:=qk Si es r';rw[uw]at this;exact this
def Rm(X:Cx)(F:Addr->Prop)(Φ:ay)(p:Nat)(cs:List CE):TI:=λσ H Rr=>∃ R τ ρ xs d items,SI X F R τ ρ σ H/\bM Φ cs ρ=ok xs/\Φ p xs=ok d/\mi d=ok items /\
 ∀ J H2 vs,ai H H2->bg X.K (gP X F) R τ (b7 cs) H H2 vs xs->G5 X.K J H2 vs xs items->Rr J H2
theorem Ae(L:l_ X S k Φ){t:Tg}{p:Nat}{b:List CS}{x:List Stmt}(ht:qF S t tg=true)(hi:S.px.pi p S.sc S.bl iter=some args)(hc:aV S cs args=true)(ES:La iter=true)(Sw:(decide (1100<=p)||eO tg)=true)(hb:kF X x (me X F Φ b)):PS X (.For tg iter x [] pos) (oT X F Φ (.fr t (.Cq p cs) b)):=by
 obtain⟨g,hg,vO⟩:=sZ (F:=F) L ht;have lE:∀ y,foldedSetIterable iter X.env y=pure y:=by
  intro y;cases iter<;>first | rfl | (cases ES;done)
 have pi:PI X tg iter (Rm X F Φ p cs):=λpins s σ H Rr I ⟨R,τ,ρ,xs,d,items,Si,bU,ed,ei,hR⟩ =>
  L.pr.i X _ _ k L.toLk.pX p iter args hi F cs tg Sw (kR L.toLk cs args hc) pins s σ H R τ ρ xs d items I Si bU ed ei Rr hR
 refine PS.imp (nL L.px L.calm pi hg hb lE) λD σ H hq=>?_;obtain⟨R,τ,ρ,r,Si,ev,hq⟩:=hq;obtain⟨⟨items,ρ1⟩,ei,ef⟩:=ab ev;obtain⟨xs,bU,ei⟩:=ab ei;obtain⟨d,ed,ei⟩:=ab ei;obtain⟨Nt,TX,ei⟩:=ab ei;cases ei;refine⟨R,τ,ρ,xs,d,items,Si,bU,ed,TX,λJ H2 vs e2 Ar yz=>?_⟩;obtain⟨R',τ',hR,dW,rs⟩:=yJ Si e2 Ar;have wx:=hq.from (Kp.of e2 hR);refine⟨λi m σ' H'=>m=items.length - i/\i<=items.length/\iT X F Φ t b R' H2 r items i σ' H',⟨_,rfl,Vs _,R',τ',_,dW,Kp.refl R' H2,by rw[List.drop_zero];exact ef⟩,?_⟩;rintro i m σ1 H1 ⟨rfl,wA,hf⟩;obtain⟨R1,τ1,ρ2,l9,k1,e1⟩:=id hf;have HV:=k1.ML rs;have HF:nz X.K H2 vs xs H1:=⟨⟨R',rs,k1.l⟩,λa ys h=>k1.K2 h⟩
 by_cases fi:i<items.length
 ·refine .inr ⟨yz.go i H1 R1 HF HV fi,λσ' H'=>iT X F Φ t b R' H2 r items (i+1) σ' H',λσ' H' h=>⟨items.length - (i+1),by left,rfl,fi,h⟩,λv H3 hy=>?_⟩;obtain⟨e3,dd,hd,rd⟩:=yz.qR i H1 R1 v H3 HF HV fi hy;have qe:items.drop i=dd::items.drop (i+1):=by
   rw[List.drop_eq_getElem_cons fi];rw[List.getElem?_eq_getElem fi]at hd;cases hd;rfl
  rw[qe,eA]at e1;obtain⟨ρ3,eb,e1⟩:=ab e1;obtain⟨⟨fo,ρ4⟩,e4,e1⟩:=ab e1;have k3:Kp R' H2 R1 H3:=k1.trans (Kp.of e3 λ_ h=>h);refine vO v σ1 H3 _ R1 τ1 ρ2 ρ3 dd (l9.go e3) (j5 rd) eb λσ' wK Gf=>⟨R1,wK,ρ3,(fo,ρ4),Gf,e4,?_⟩
  cases fo with
  | nx=>exact λσ3 H4 R3 τ3 sR k4=>⟨R3,τ3,ρ4,sR,k3.trans k4,e1⟩
  | ct=>exact λσ3 H4 R3 τ3 sR k4=>⟨R3,τ3,ρ4,sR,k3.trans k4,e1⟩
  | bk=>cases e1;exact λσ3 H4 R3 τ3 sR k4=>wx σ3 H4 R3 τ3 sR (k3.trans k4)
  | rt d=>cases e1;exact wx
 ·exact .inl ⟨yz.stop i H1 R1 HF HV (by left),kb (n:=i) (by left) wx σ1 H1 hf⟩
theorem ae.ints{T:lY}{N:gO}:∀(is:List Int) {k:az} {n:Nat},ae T N k n (is.map V.int) (is.map DI.D.int)
 | [],_,_=>.nil
 | i::is,_,_=>.cons (.int i) (ae.ints is)
theorem Dr(L:l_ X S k Φ){t:Tg}{it:CI}{b:List CS}{x:List Stmt}(ht:qF S t tg=true)(hi:Kz S it iter=true)(SJ:(eO tg||xT it)=true)(hb:kF X x (me X F Φ b)):PS X (.For tg iter x [] pos) (oT X F Φ (.fr t it b)):=by
 obtain⟨g,hg,vO⟩:=sZ (F:=F) L ht;have lE:∀ y,foldedSetIterable iter X.env y=pure y:=by
  intro y;cases iter<;>first | rfl | (cases it<;>first | exact(U8 hi).elim | exact(U8 (ah hi).2).elim)
 have k8:∀ {lo:Int} {n:Nat} {D:Ends} {R:Addr->Prop} {τ:Addr->Option az} {ρ:au} {σ:St} {H H1:Hp} {r:Fo×au},SI X F R τ ρ σ H->ai H H1->jM X F D R H r ->
   eA (λd ρ=>bw t d ρ) (λρ=>aT Φ b ρ) ((List.range n).map λ(k:Nat)=>DI.D.int (lo+(k:Int))) ρ=ok r ->
   ∃ W:Nat->Nat->L2.St->Hp->Prop,(∃ m,W 0 m σ H1)/\∀ i m σ H,W i m σ H ->
    ((wq lo n).stop i H/\D.nx σ H)\/((wq lo n).go i H/\∃ N:L2.St->Hp->Prop,(∀ σ' H',N σ' H'->∃ m',m'<m/\W (i+1) m' σ' H')/\∀ x H',(wq lo n).qR i H x H'->g x σ H' λσ2 H2=>me X F Φ b { D with nx:=N,ct:=N,bk:=D.nx } σ2 H2):=by
  intro lo n D R τ ρ σ H H1 r Si e1 hq ef;have rs:ae (ao X.K H1) (nd X.K R (λ_=>False) (λ_=>none) H1) [] 0 ((List.range n).map λ(k:Nat)=>V.int (lo+(k:Int))) ((List.range n).map λ(k:Nat)=>DI.D.int (lo+(k:Int))):=by
   have:=ae.ints (T:=ao X.K H1) (N:=nd X.K R (λ_=>False) (λ_=>none) H1) ((List.range n).map λ(k:Nat)=>lo+(k:Int)) (k:=[]) (n:=0);rw[List.map_map,List.map_map]at this;exact this
  have wx:=hq.from (Kp.of e1 (R':=R) λ_ h=>h);refine vX (iT X F Φ t b R H1 r _) ⟨R,τ,ρ,Si.go e1,Kp.refl R H1,by rw[List.drop_zero];exact ef⟩ (λi σ' H' SX h=>?_) (λσ' H' h=>kb (by simp) wx σ' H' h);exact lI vO rs wx i (.int (lo+i)) σ' H' (by rw[List.getElem?_map,List.getElem?_range SX];rfl) h
 intro pins s σ H D I NP;cases it with
 | Cq p cs =>
  obtain⟨ES,hz⟩:=ah hi;obtain⟨args,ha,NF⟩:=aE hz;exact Ae L ht ha NF ES (by rw[Bool.or_comm];exact SJ) hb pins s σ H D I NP
 | k8 a =>
  obtain⟨R,τ,ρ,r,Si,ev,hq⟩:=NP;obtain⟨⟨items,ρ1⟩,ei,ef⟩:=ab ev;obtain⟨⟨y,as⟩,hv,hz⟩:=aE hi;obtain⟨p,EL,rfl⟩:=dX hv;obtain⟨Sj,NF⟩:=ah hz;obtain⟨Sh,h2⟩:=ah Sj;obtain⟨Sg,h1⟩:=ah Sh;obtain rfl:y=_:=U7 Sg;obtain⟨e,hu,h3⟩:=aE NF;obtain rfl:as=[e]:=b6 hu;have pa:PA X [e] (pd X F Φ [a]):=PA.imp (cT (fB (F:=F) L.toLk a e h3).1 gB (bz h3 _ _)) λ_ _ _ h=>by
   have:=dY h;obtain⟨R,τ,ρ,d,Si,ev,hq⟩:=this;exact⟨R,τ,ρ,d,Si,ev,λv H' e r=>il (hq v H' e r)⟩
  refine nL L.px L.calm (mP (L.gl h1) (L.bl _ (U7 h2)) pa (bz h3 _ _)) hg hb lE pins s σ H D I ?_;obtain⟨d,ed,ei⟩:=ab ei;cases d<;>try (simp at ei;done)
  rename_i n;simp at ei;obtain⟨⟨c1,c2⟩,rfl,rfl⟩:=ei;have qf:(fm:Int)=1000000:=rfl;refine⟨R,τ,ρ,[.int n],Si,by show bd (aH Φ a ρ) _=_;rw[ed];rfl,λvs H1 e1 rv=>?_⟩;obtain⟨τt,fr,rs⟩:=rv;cases rs.ints1
  ·refine⟨n,rfl,by left,by left,?_⟩;refine k8 (lo:=0) Si e1 hq ?_;simpa using ef
 | seq a =>
  obtain⟨R,τ,ρ,r,Si,ev,hq⟩:=NP;obtain⟨⟨items,ρ1⟩,ei,ef⟩:=ab ev;replace hi:=ah hi;obtain⟨d,ed,ei⟩:=ab ei;have pe:=(fB (F:=F) L.toLk a iter hi.1).1;cases d<;>try (simp at ei;done)
  ·rename_i ds;simp at ei;obtain⟨rfl,rfl⟩:=ei;refine nL L.px L.calm (xC pe) hg hb lE pins s σ H D I (tD.intro Si ed λv H1 e1 rv=>?_);obtain⟨R',τ',hR,dW,rp⟩:=uz Si e1 rv;rw[aw]at rp;cases rp with
   | @tup _ p xs _ hp rs =>
    have wx:=hq.from (Kp.of e1 hR);refine⟨p,rfl,⟨xs,hp⟩,Bl (xs:=xs) (iT X F Φ t b R' H1 r (ag aC ds)) ⟨R',τ',_,dW,Kp.refl R' H1,by rw[List.drop_zero];exact ef⟩ (λi σ' H' _ h=>?_) (λi x σ' H' hx h=>lI vO rs wx i x σ' H' hx h) (λσ' H' h=>kb (rs.length) wx σ' H' h)⟩;obtain⟨R2,τ2,ρ2,_,kp,_⟩:=h;exact kp.K2 hp
  ·rename_i f ds;simp at ei;obtain⟨rfl,rfl⟩:=ei;refine nL L.px L.calm (tO pe) hg hb lE pins s σ H D I (tD.intro Si ed λv H1 e1 rv=>?_);obtain⟨R',τ',hR,dW,rp⟩:=uz Si e1 rv;rw[aw]at rp;obtain⟨p,xs,rfl,hp,rs⟩:=rp.wO;have wx:=hq.from (Kp.of e1 hR);refine⟨p,rfl,⟨xs,hp.sq⟩,yM (xs:=xs) (iT X F Φ t b R' H1 r (ag aC ds)) ⟨R',τ',_,dW,Kp.refl R' H1,by rw[List.drop_zero];exact ef⟩ (λi σ' H' _ h=>?_) (λi x σ' H' hx h=>lI vO rs wx i x σ' H' hx h) (λσ' H' h=>kb (rs.length) wx σ' H' h)⟩;obtain⟨R2,τ2,ρ2,_,kp,_⟩:=h;exact(kp.nd hp).sq
theorem je{ρ':au}{p:Addr}{q:az}{n:Nd}{o:HO}(Si:SI X F R' τ' ρ' σ H1)(es:ai H H1)(hR:∀ p,R p->R' p)(hp:cN H1 p n)(ht:τ' p=some q):Kp R H R' (upd H1 p o):=by
 obtain⟨o0,yr,JH,GP⟩:=cN.some hp;exact⟨hR,λa u ha e=>by
  have ne:a≠p:=λz=>by subst z;rw[Si.rt _ (hR _ ha)]at ht;cases ht
  rw[aq ne];exact es _ _ e,λa zs e=>by
  have e1:=es _ _ e;have ne:a≠p:=λz=>by subst z;rw[yr]at e1;cases e1;exact JH _ rfl
  rw[aq ne];exact e1,λa o u e=>by
  have e1:=es _ _ e;have ne:a≠p:=λz=>by subst z;rw[yr]at e1;cases e1;exact GP _ _ rfl
  rw[aq ne];exact e1⟩
theorem fR.go{v:V}{d:DI.D}(h:fR X R τ H v d)(e:ai H H'):fR X R τ H' v d :=
 let ⟨τt,h1,h2⟩:=h;⟨τt,λp q z=>let ⟨a,b,c,d⟩:=h1 p q z;⟨a,b,c,ai.ne e d⟩,h2.imp (λ_ _ h=>ao.same e h) λ_ _ _ _ h=>nd.same e h⟩
theorem Lm(L:l_ X S k Φ){i:Nat}(h:iN S i o=true)(hv:∀ x p,o=.Name x p->jP x=true):∃ x p,o=.Name x p/\X.N[i]?=some x/\L2.Loc X.env.scope x/\PE X o (vh i):=by
 cases o<;>try (exact(U8 h).elim;done)
 rename_i x p;have hn:=hv x p rfl;replace h:=ah h;unfold jP at hn;simp only[Bool.and_eq_true,Bool.not_eq_true']at hn;have hN:X.N[i]?=some x:=by rw[L.N];exact U7 h.1
 have hl:=L.loc h.2;exact⟨x,p,rfl,hN,hl,rG hN (hl.imp id .inl) hn.1.1 hn.1.2⟩
theorem uA{e:CE}{r:DI.D×au}{i:Nat}{ds:List DI.D}(h:gd Φ e ρ=ok r)(ho:r.2[i]?=some (some (.lst .ow ds))):ρ[i]?=some (some (.lst .ow ds)):=by
 by_cases hv:∃ j,e=.v j
 ·obtain⟨j,rfl⟩:=hv;simp only[gd]at h;split at h
  ·split at h
   ·cases h;by_cases gi:i=j
    ·subst gi;rw[List.getElem?_set]at ho;simp at ho
    ·rw[List.getElem?_set_ne (Ne.symm gi)]at ho;exact ho
   ·cases h;exact ho
  ·cases h
 ·have h':bd (aH Φ e ρ) (λd=>ok (keep e d ρ))=ok r:=by
   cases e<;>first | exact h | exact absurd ⟨_,rfl⟩ hv
  obtain⟨d,_,er⟩:=ab h';cases er;unfold keep at ho;split at ho
  ·obtain⟨d',h1,h2⟩:=ux _ _ _ _ ho;split at h2
   ·cases d'<;>simp[aw]at h2;rename_i f ds';cases f<;>simp[aC]at h2
   ·rw[h2];exact h1
  ·exact ho
theorem Ds(L:l_ X S k Φ){i:Nat}{e:CE}{x:Str}{v:Expr}{p:Pos}(hn:iN S i (.Name x p)=true)(hx:jP x=true)(he:bc S e v=true)(JN:(p1.endLine==p2.line)=true):PS X (.Expr (.Call (.Attribute (.Name x p) ("append" : Str) p1) [v] [] p2) pos) (oT X F Φ (.app i e)):=by
 obtain⟨_,_,z,hN,hl,pe⟩:=Lm L hn (λy q e=>by cases e;exact hx);cases z;refine PS.imp (nM (Io Wc PySem.F.slot_list_append PySem.F.type_list_append vt pe (cT (nH (F:=F) L.toLk e v he) gB (bz he _ _)) (hfew:=by rw[bz he];rfl) (hline:=JN) (hs:=bz he _ _))) λD σ H hq=>?_;obtain⟨R,τ,ρ,r,Si,ev,hq⟩:=hq;obtain⟨r1,sf,ev⟩:=ab ev;split at ev
 ·rename_i ds ho;split at ev
  ·rename_i hc;cases ev;have ho:=nQ ho;obtain⟨a,xs,hv,ha,NH,Ly,_⟩:=Si.own (uA sf ho);refine⟨.ref a,hv,.inl ⟨rfl,_,c_.of ha⟩,R,τ,ρ,r1,Si,sf,λw H1 R1 τ1 es hR l9 rk=>?_⟩;obtain⟨a1,Rj,Lv,Og,Sq,Jz,HV⟩:=l9.own ho;rw[hv]at Lv;cases Lv;have hz:sizeLine=16777216:=V3;have qf:fm=1000000:=rfl;refine⟨a,Rj,w,rfl,rfl,Og,by left,?_⟩;obtain⟨τ2,qO⟩:=l9.put (m:=ds.length) (g:=λys=>ys++[w]) ho hv Og Jz HV rk λrs r=>ae.Ce rs (by simpa using r);exact hq σ _ R1 τ2 qO (je (n:=.l _) l9 es hR Og Jz)
  ·cases ev
 ·cases ev
theorem Ac(L:l_ X S k Φ){i:Nat}{c e:CE}{x:Str}{ke v:Expr}{p:Pos}(hn:iN S i (.Name x p)=true)(hx:jP x=true)(hk:bc S c ke=true)(he:bc S e v=true)(N3:eP v=false):PS X (.Assign [.Subscript (.Name x p) ke p1] v pos) (oT X F Φ (.setI i c e)):=by
 obtain⟨_,_,z,hN,hl,pe⟩:=Lm L hn (λy q e=>by cases e;exact hx);cases z;have hw:swappedStores [.Subscript (.Name x p) ke p1] v X.env=pure none:=by cases v<;>rfl
 have ha:∀ u,assign (.Subscript (.Name x p) ke p1) X.env u=(do
   let ov <- holding [u] (eval (.Name x p) X.env)
   let iv <- holding [u,ov] (eval ke X.env)
   standAt p1
   holding [u,ov,iv] (setItem ov iv u)
   release [u,ov,iv] []):=by
  intro u;cases ke<;>first | rfl | (cases c<;>exact(U8 hk).elim)
 refine PS.imp (rF (nH (F:=F) L.toLk e v he) (DX pe (fB (F:=F) L.toLk c ke hk).1 set_list ha) (by first | rfl | (cases v<;>rfl) | (unfold swapsWithSole;exact lW he N3 _ _ _)) hw rfl) λD σ H hq=>?_;obtain⟨R,τ,ρ,r,Si,ev,hq⟩:=hq;obtain⟨r1,sf,ev⟩:=ab ev;obtain⟨n,en,ev⟩:=ab ev;obtain⟨d,ed,en⟩:=ab en;have en:=A_ en;subst en;split at ev
 ·rename_i ds ho;split at ev
  ·rename_i j hj;cases ev;have ho:=nQ ho;obtain⟨a,xs,hv,ha,NH,Ly,_⟩:=Si.own (uA sf ho);refine⟨R,τ,ρ,r1,Si,sf,λw H1 R1 τ1 es hR l9 rk=>?_⟩;refine⟨.ref a,hv,tD.intro l9 ed λu H2 e2 ru=>?_⟩;cases ru.isInt;have qO:=l9.go e2;obtain⟨a2,Ri,Lu,Of,NG,Jy,RT⟩:=qO.own ho;rw[hv]at Lu;cases Lu;refine⟨a,Ri,n,j,rfl,rfl,Of,by rw[NG];exact hj,?_⟩;obtain⟨τ3,sR⟩:=qO.put (m:=j) (g:=λys=>ys.set j w) ho hv Of Jy RT (rk.go e2) λrs r=>ae.setAt (j:=j) rs (by simpa using r);exact hq σ _ R1 τ3 sR (je (n:=.l _) qO (es.trans e2) hR Of Jy)
  ·cases ev
 ·cases ev
end
section
variable {X:Cx}{S:Sx}{k:Nat}{F:Addr->Prop}{Φ:ay}
theorem DW(x:Str)(p:Pos):(Expr.Name x p).pos=p:=rfl
theorem rn{x y:Str}{px py pt Gw:Pos}{kt k2:Nat}{a b:Expr}(hk:env.scope.kind=.function)(hx:env.scope.names.lookup x=some .local)(hy:env.scope.names.lookup y=some .local)(Qi:x≠y)(hl:px.line=py.line)
  (h1:[a,b].all (foldedForSure 8)=false) (h2:[a,b].all (constantsAlone 8)=false) (h3:([a,b].any λe=>match e with | .Starred ..=>true | _=>false)=false) :
  swappedStores [.Tuple [.Name x px,.Name y py] kt pt] (.Tuple [a,b] k2 Gw) env=pure (some [x,y]):=by
 have hb:env.blockKind=.function:=by unfold Env.blockKind;rw[hk];rfl
 have kx:env.kindOf x=some .local:=hx;have ky:env.kindOf y=some .local:=hy;have e1:([x,y].eraseDups.length != [x,y].length)=false:=by
  have:¬ (y==x)=true:=by simp;exact λz=>Qi z.symm
  have h':(y==x)=false:=by simpa using this
  simp[List.eraseDups_cons,List.filter,h',Qi]
 unfold swappedStores;simp only[hb,h3,List.filterMap_cons,List.filterMap_nil,kx,ky,hl,DW,List.head?_cons,Option.map_some,Option.getD_some,h1,h2];simp only[beq_self_eq_true,Bool.and_self,if_true];rw[if_neg (by simp)];refine(V1 ?_).trans ?_
 ·intro z;exact U8 (h3.symm.trans z)
 rw[if_neg (by
  rw[e1];simp),if_neg Bool.false_ne_true,if_neg Bool.false_ne_true]
theorem k_{kp:az}{v:V}{d:DI.D}(h:Rep (ao X.K H) (nd X.K R A τ H) kp v d)(hf:ak anyF d=false):fR X R' τ' H v d :=
 ⟨λ_=>none,λ_ _ h=>by simp at h,Rep.without (P:=anyF) (λ_ _ h=>h) (λk k' p xs f hf h=>by cases hf) h hf _⟩
theorem Dq(L:l_ X S k Φ){i j:Nat}{a b:CE}{v:Expr}(he:bc S (.tup [a,b]) v=true)(hp:zk S i j tg v=true):PS X (.Assign [tg] v pos) (oT X F Φ (.par i j a b)):=by
 obtain⟨ts,Lv,q1⟩:=aE hp;obtain⟨kt,pt,rfl⟩:=ia Lv;obtain⟨⟨t1,t2⟩,Lu,q2⟩:=aE q1;obtain rfl:ts=[t1,t2]:=i3 Lu;obtain⟨⟨x,px⟩,hv3,q3⟩:=aE q2;obtain rfl:t1=_:=sV hv3;obtain⟨⟨y,py⟩,hv4,q4⟩:=aE q3;obtain rfl:t2=_:=sV hv4;obtain⟨vs,Ss,q5⟩:=aE q4;obtain⟨k2,Gw,rfl⟩:=ia Ss;obtain⟨⟨ea,eb⟩,hv6,q6⟩:=aE q5;obtain rfl:vs=[ea,eb]:=i3 hv6
 ·obtain⟨q7,Fs⟩:=ah q6;obtain⟨q8,h9⟩:=ah q7;obtain⟨q9,h8⟩:=ah q8;obtain⟨Ie,h7⟩:=ah q9;obtain⟨MV,h6⟩:=ah Ie;obtain⟨R6,h5⟩:=ah MV;obtain⟨R5,h4⟩:=ah R6;obtain⟨R4,h3⟩:=ah R5;obtain⟨h1,h2⟩:=ah R4;replace h1:S.N[i]?=some x:=U7 h1;replace h2:S.N[j]?=some y:=U7 h2;replace h3:=U7 h3;replace h4:=U7 h4;replace h5:=U7 h5;replace h6:=U7 h6;replace h7:=U7 h7;replace h8:=iz h8;replace h9:=iz h9;replace Fs:=U7 Fs;replace he:=ah he;have pa:=tm (F:=F) L.toLk [a,b] [ea,eb] he.1;refine PS.imp (DU L.calm L.nd (by rw[L.N];exact h1) (by rw[L.N];exact h2) h3 (by rw[L.sc];exact h4) (by rw[L.sc];exact h5) pa (rn (by rw[L.sc];exact L.fk) (by rw[L.sc];exact h4) (by rw[L.sc];exact h5) h6 h7 h8 h9 Fs)) λD σ H hq=>?_;obtain⟨R,τ,ρ,r,Si,ev,hq⟩:=hq;obtain⟨d1,TZ,ev⟩:=ab ev;obtain⟨d2,TY,ev⟩:=ab ev;simp only[CD]at ev;obtain⟨⟨f1,f2,l1,l2⟩,rfl⟩:=ev;refine⟨R,τ,ρ,[d1,d2],Si,by show bd (aH Φ a ρ) _=_;rw[TZ];show bd (bd (aH Φ b ρ) _) _=_;rw[TY];rfl,λvs H1 e1 rv=>?_⟩;obtain⟨τt,fr,rs⟩:=rv;obtain⟨v1,v2,rfl,r1,r2⟩:=rs.two
  ·obtain⟨τ1,S1⟩:=(Si.go e1).set (i:=i) (k_ r1 f1) l1;obtain⟨τ2,S2⟩:=S1.set (i:=j) (k_ r2 f2) (by simpa using l2);exact⟨v1,v2,rfl,hq _ H1 R τ2 S2 (Kp.of e1 λ_ h=>h)⟩
theorem vu{α β:Type}(f:α->β):∀(ms:List α) (m:Nat),(ms.map f).eraseIdx m=(ms.eraseIdx m).map f
 | [],_=>rfl
 | _::_,0=>rfl
 | x::ms,m+1=>by
  show f x::(ms.map f).eraseIdx m=f x::(ms.eraseIdx m).map f;rw[vu f ms m]
theorem ae.CL{T:lY}{N:gO}:∀ {k:az} {n:Nat} {vs:List V} {ds:List D},ae T N k n vs ds->ae T N k n vs.dropLast ds.dropLast
 | _,_,_,_,.nil=>.nil
 | _,_,_,_,.cons _ .nil=>.nil
 | _,_,_,_,.cons h (.cons h' t)=>.cons h (ae.CL (.cons h' t))
theorem xB{t:Tg}{i:Nat}{r:Fo×au}(h:pM t i ρ=ok r):∃(ds:List D) (d:D) (ρ':au),ρ[i]?=some (some (.lst .ow ds))/\ds[ds.length - 1]?=some d/\ak anyF d=false/\bw t d (ρ.set i (some (.lst .ow ds.dropLast)))=ok ρ'/\r=(.nx,ρ'):=by
 unfold pM at h;split at h
 ·rename_i ds hj;split at h
  ·rename_i d hd;split at h
   ·rename_i hf;obtain⟨ρ',e1,e2⟩:=ab h;cases e2;exact⟨ds,d,ρ',nQ hj,by rw[<- List.getLast?_eq_getElem?];exact hd,hf,e1,rfl⟩
   ·cases h
  ·cases h
 ·cases h
theorem Ad(L:l_ X S k Φ){t:Tg}{i:Nat}{y:Str}{q1:Pos}(ht:qF S t tg=true)(hm:iN S i (.Name y q1)=true)(hy:jP y=true)(JN:(p1.endLine==p2.line)=true):
  PS X (.Assign [tg] (.Call (.Attribute (.Name y q1) ("pop" : Str) p1) [] [] p2) pos) (oT X F Φ (.popT t i)):=by
 obtain⟨g,hg,vO⟩:=sZ (F:=F) L ht;obtain⟨_,_,z,U1,SU,MZ⟩:=Lm L hm (λy q e=>by cases e;exact hy);cases z;have vg:(∃ x p,tg=.Name x p)\/∃ es n p,tg=.Tuple es n p:=by
  cases t with
  | nm i=>cases tg<;>first | exact .inl ⟨_,_,rfl⟩ | exact(U8 ht).elim
  | tp is=>cases tg<;>first | exact .inr ⟨_,_,_,rfl⟩ | exact(U8 ht).elim
 have each:(assignEach [tg] X.env).map (·.2)=[assign tg X.env]:=by
  rcases vg with ⟨x,p,rfl⟩ | ⟨es,n,p,rfl⟩<;>rfl
 have hw:swappedStores [tg] (.Call (.Attribute (.Name y q1) ("pop" : Str) p1) [] [] p2) X.env=pure none:=by
  rcases vg with ⟨x,p,rfl⟩ | ⟨es,n,p,rfl⟩<;>rfl
 have JA:swapsWithSole [tg] (.Call (.Attribute (.Name y q1) ("pop" : Str) p1) [] [] p2) pos.line X.env=pure false:=rfl;refine PS.imp (rF (xO Wc PySem.F.slot_list_pop PySem.F.type_list_pop Ej MZ (hline:=JN)) hg JA hw each) λE σ H hq=>?_;obtain⟨R,τ,ρ,r,Si,ev,hq⟩:=hq;obtain⟨ds,d,ρ',hi,hd,hf,eρ,rfl⟩:=xB ev;obtain⟨a,xs,hv,ha,NH,Ly,rs⟩:=Si.own hi;obtain⟨v,So,rv⟩:=rs.get hd;refine⟨.ref a,hv,.inl ⟨rfl,_,c_.of ha⟩,a,xs,v,rfl,rfl,ha,by rw[NH];exact So,?_⟩;obtain⟨τ2,qO⟩:=Si.put (m:=0) (g:=λys=>ys.dropLast) (v:=.int 0) (d:=.int 0) (ds':=ds.dropLast) hi hv ha Ly rs ⟨λ_=>none,λ_ _ h=>by simp at h,.int 0⟩ (λr _=>ae.CL r);exact vO v σ _ _ R τ2 _ ρ' d qO ⟨λ_=>none,λ_ _ h=>by simp at h,Rep.without (P:=anyF) (λ_ _ h=>rq (n:=.l xs) ha h) (λk k' p xs f hf h=>by cases hf) rv hf _⟩ eρ λσ' τ' dW=>hq σ' _ R τ' dW (je (n:=.l _) Si (ai.refl H) (λ_ h=>h) ha Ly)
mutual
theorem Dt(L:l_ X S k Φ):∀(c:CS) (st:Stmt),Kx S c st=true->PS X st (oT X F Φ c)
 | .asg t e,st,h=>by
  obtain⟨⟨vg,v⟩,v1,q1⟩:=aE h;obtain⟨pos,rfl⟩:=ic v1;obtain⟨tg,v2,q2⟩:=aE q1;obtain rfl:vg=[tg]:=b6 v2;obtain⟨q3,h4⟩:=ah q2;obtain⟨q4,h3⟩:=ah q3;obtain⟨h1,h2⟩:=ah q4;have h1:bc S e v=true:=h1;replace h3:(isTup v&&isTup tg)=false:=iz h3;cases hc:eP v with
  | false=>exact w_ L h1 h2 h3 (lW h1 hc _ _ _)
  | true =>
   have h4:(!eP v||isNm tg)=true:=h4;rw[hc]at h4;obtain⟨x,p,rfl⟩:=uc h4;obtain⟨gj,gens,sc,Hb,rfl⟩:=vE hc;cases e<;>try (exact(U8 h1).elim)
   cases t with
   | tp is=>exact(U8 h2).elim
   | nm i =>
    cases hb:My S (.Name x p) (.ListComp gj gens sc Hb)with
    | true=>exact Af L h1 h2 (by rw[Cd L,hb])
    | false=>exact w_ L h1 h2 h3 (by
      show swapsWith (.ListComp gj gens sc Hb) (some (.Name x p)) pos.line X.env=_;rw[Cd L,hb])
 | .par i j a b,st,h=>by
  obtain⟨⟨vg,v⟩,v1,q1⟩:=aE h;obtain⟨pos,rfl⟩:=ic v1;obtain⟨tg,v2,q2⟩:=aE q1;obtain rfl:vg=[tg]:=b6 v2;exact Dq L (ah q2).1 (ah q2).2
 | .ret e,st,h=>by
  obtain⟨z,v1,q1⟩:=aE h;obtain⟨pos,rfl⟩:=zP v1;obtain⟨v,v2,q2⟩:=aE q1;obtain rfl:z=some v:=v2;exact Dm L q2
 | .rs c,st,h=>λ_ _ _ _ _ _ ⟨R,τ,ρ,r,Si,ev,hq⟩=>by cases ev
 | .ex e,st,h=>by
  obtain⟨v,v1,q1⟩:=aE h;obtain⟨pos,rfl⟩:=qV v1;exact HH L (ah q1).1 (iz (ah q1).2)
 | .mut p i es,st,h=>by
  obtain⟨⟨o,args⟩,ha,q1⟩:=aE h;obtain⟨q2,h3⟩:=ah q1;obtain⟨h1,h2⟩:=ah q2;obtain⟨x,pp,rfl,hN,hl,pe⟩:=Lm L h1 (λy q e=>by cases e;exact h2);exact L.pm.m X _ _ k L.toLk.pX L.nd L.Bm p st x pp args ha i hN hl pe F es (kR L.toLk es args h3)
 | .popT t i,st,h=>by
  obtain⟨⟨vg,v⟩,v1,q1⟩:=aE h;obtain⟨pos,rfl⟩:=ic v1;obtain⟨tg,v2,q2⟩:=aE q1;obtain rfl:vg=[tg]:=b6 v2;obtain⟨h1,q3⟩:=ah q2;obtain⟨⟨fn,as,ks,p2⟩,v3,q4⟩:=aE q3;obtain rfl:v=_:=i0 v3;obtain⟨q5,q6⟩:=ah q4;obtain⟨q7,q8⟩:=ah q6;obtain rfl:ks=[]:=eu q5;obtain rfl:as=[]:=eu q7;obtain⟨⟨ob,nm,p1⟩,v4,q9⟩:=aE q8;obtain rfl:fn=_:=kO v4;obtain⟨Ie,h5⟩:=ah q9;obtain⟨MV,h4⟩:=ah Ie;obtain⟨h2,h3⟩:=ah MV;obtain rfl:nm=_:=U7 h2;obtain⟨y,q1,rfl⟩:∃ x p,ob=.Name x p:=oD h3;exact Ad L h1 h3 h4 h5
 | .app i e,st,h=>by
  obtain⟨c,v1,q1⟩:=aE h;obtain⟨pos,rfl⟩:=qV v1;obtain⟨⟨fn,as,ks,p2⟩,v2,q2⟩:=aE q1;obtain rfl:c=_:=i0 v2;obtain⟨q3,q4⟩:=ah q2;obtain rfl:ks=[]:=eu q3;obtain⟨⟨o,a,p1⟩,v3,q5⟩:=aE q4;obtain rfl:fn=_:=kO v3;obtain⟨q6,q7⟩:=ah q5;obtain⟨v,v4,h4⟩:=aE q7;obtain rfl:as=[v]:=b6 v4;obtain⟨q8,h5⟩:=ah q6;obtain⟨q9,h2⟩:=ah q8;obtain⟨Ie,h1⟩:=ah q9;obtain rfl:a=_:=U7 Ie;obtain⟨x,p,rfl⟩:∃ x p,o=.Name x p:=oD h1;exact Ds L h1 h2 h4 h5
 | .setI i k e,st,h=>by
  obtain⟨⟨vg,v⟩,v1,q1⟩:=aE h;obtain⟨pos,rfl⟩:=ic v1;obtain⟨tg,v2,q2⟩:=aE q1;obtain rfl:vg=[tg]:=b6 v2;obtain⟨⟨o,ke⟩,v3,q3⟩:=aE q2;obtain⟨p1,rfl⟩:=ib v3;obtain⟨q4,h5⟩:=ah q3;obtain⟨q5,h4⟩:=ah q4;obtain⟨q6,h3⟩:=ah q5;obtain⟨h1,h2⟩:=ah q6;obtain⟨x,p,rfl⟩:∃ x p,o=.Name x p:=oD h1;exact Ac L h1 h2 h3 h4 (iz h5)
 | .ifs c a b,st,h=>by
  obtain⟨⟨t,x,y⟩,v1,q1⟩:=aE h;obtain⟨pos,rfl⟩:=zS v1;obtain⟨q2,h3⟩:=ah q1;obtain⟨h1,h2⟩:=ah q2;exact HG L h1 (fZ L a _ h2) (fZ L b _ h3)
 | .zL c b,st,h=>by
  obtain⟨⟨t,x,y⟩,v1,q1⟩:=aE h;obtain⟨pos,rfl⟩:=zO v1;obtain⟨q2,h3⟩:=ah q1;obtain⟨h1,h2⟩:=ah q2;obtain rfl:y=[]:=eu h1;exact w9 L h2 (fZ L b _ h3)
 | .fr t it b,st,h=>by
  obtain⟨⟨tg,iter,x,y⟩,v1,q1⟩:=aE h;obtain⟨pos,rfl⟩:=zT v1;obtain⟨q2,h5⟩:=ah q1;obtain⟨q3,h4⟩:=ah q2;obtain⟨q4,h3⟩:=ah q3;obtain⟨h1,h2⟩:=ah q4;obtain rfl:y=[]:=eu h1;exact Dr L h2 h3 h4 (fZ L b _ h5)
theorem fZ(L:l_ X S k Φ):∀(cs:List CS) (HD:List Stmt),iM S cs HD=true->kF X HD (me X F Φ cs)
 | [],[],_=>kF.imp AB λD σ H ⟨R,τ,ρ,r,Si,ev,hq⟩=>by cases ev;exact hq σ H R τ Si (Kp.refl R H)
 | [],_::_,h=>by exact(U8 h).elim
 | _::_,[],h=>by exact(U8 h).elim
 | c::cs,st::HD,h=>by
  replace h:=ah h;have h1:PS X st (oT X F Φ c):=Dt L c st h.1;have h2:kF X HD (me X F Φ cs):=fZ L cs HD h.2;refine kF.imp (xx h1 h2) λD σ H hq=>?_;obtain⟨R,τ,ρ,r,Si,ev,hq⟩:=hq;obtain⟨⟨fo,ρ1⟩,e1,ev⟩:=ab ev;refine⟨R,τ,ρ,(fo,ρ1),Si,e1,?_⟩;cases fo with
  | nx=>exact λσ' H' R' τ' dW kp=>⟨R',τ',ρ1,r,dW,ev,hq.from kp⟩
  | bk=>cases ev;exact hq
  | ct=>cases ev;exact hq
  | rt d=>cases ev;exact hq
end
end
variable {mg:Str->Option Value}{ps:List Str}{qual:Str}
theorem ql{x:Str}{f:Addr}{fd:FuncData}{k:Nat}{N bl:List Str}{cs:List (Str×GK)}{px:Px}{Bm:Nat->Option Str}{m:List D->O D}{body:List CS}
  (Fu:B1 K x qual st f fd) (Sc:gg N ps (aI st)) (E_:iM ⟨aI st,N,Bm,bl,cs,px⟩ body (cj st)=true) (ES:sU px Φ) (NQ:Gj px Φ)
  (Fc:∀ y∈bl,mg y=none) (vQ:∀ y i,(y,i)∈cs->∃ u,mg y=some u/\CZ K i u)
  (rZ:∀ g y,Bm g=some y->∃(f:Addr) (fd:FuncData) (ps:List Str),gm P w K mg base wI k f fd ps (Ag K ps.length (Φ g))/\mg y=some (.ref f)/\PySem.W.keepIn K (.ref f)=true/\Binds K fd ps []/\∀ ds r,Φ g ds=ok r->ds.length=ps.length)
  (hm:∀ ds r,m ds=ok r->ds.length=ps.length/\nK Φ N.length body ds=ok r):gm P w K mg base wI (k+1) f fd ps (Ag K ps.length m):=by
 refine Fu.ok (N:=N) Sc (λvs H Q E ⟨_,_,_,h,_⟩=>h) λiV A outer s H vs Q E hr zE=>?_;obtain⟨F,ds,r,hl,rs,er,hq⟩:=zE;obtain⟨LC,rV⟩:=hm ds r er
 let X:=(sx wI P w K mg base N qual (aI st) f iV A outer s H E).IE
 have L:l_ X ⟨aI st,N,Bm,bl,cs,px⟩ k Φ:=⟨⟨rfl,rfl,Sc.nd,rfl,hr,Fc,λg y h=>⟨rZ g y h⟩,vQ,ES⟩,λ_=>rfl,PassesOwn.never,Sc.kind,NQ⟩
 refine⟨me X F Φ body,fZ L body _ E_,?_⟩;unfold nK at rV;obtain⟨⟨fo,ρ'⟩,eb,rV⟩:=ab rV;have hpl:ps.length<=N.length:=by have:=VY List.length Sc.pre;rw[List.length_take]at this;left
 have vI:vs.length=ds.length:=rs.length;refine⟨λp=>F p/\H p≠none,λ_=>none,_,(fo,ρ'),⟨?_,λi d hi=>?_,λ_ _=>rfl,λp h=>h.2,λp h=>.inl h.1,λ_ _ h=>by simp at h,λ_ _ h=>by simp at h,ai.refl H⟩,eb,?_⟩
 ·unfold L2.start;simp[vI]
 ·have Qr:i<ds.length:=by
   by_cases jg:i<ds.length
   ·exact jg
   ·rw[List.getElem?_append_right (by simpa using jg)]at hi;rw[List.getElem?_replicate]at hi;split at hi<;>simp at hi
  rw[List.getElem?_append_left (by simpa using Qr),List.getElem?_map]at hi;have hd:ds[i]?=some d:=by
   cases q:ds[i]? with
   | none=>rw[q]at hi;cases hi
   | some z=>rw[q]at hi;simp at hi;rw[hi]
  obtain⟨v,hv,rv⟩:=rs.get hd;refine⟨v,?_,rv.imp (q:=[0+i]) (q':=[i]) (λ_ _ h=>h) λc p xs f h=>?_⟩
  ·unfold L2.start;rw[List.getElem?_append_left (by rw[List.length_map,vI];exact Qr),List.getElem?_map,hv];rfl
  ·cases f with
   | ow=>exact nomatch h.2
   | fz=>exact⟨h.1,h.2,h.1.ne⟩
   | al=>exact h.2.elim
   | sc=>exact h
 ·cases fo with
  | nx =>
   cases rV;exact λσ' H' R' τ' dW kp=>hq .aL H' dW.same ⟨λ_=>none,λ_ _ h=>by simp at h,.aL⟩
  | bk=>simp at rV
  | ct=>simp at rV
  | rt d =>
   cases rV;exact λv H' es rr=>hq v H' es rr
structure Ent(P:Program)(w:World)(K:PySem.W.Frag)(mg:Str->Option Value)(base:Heap)(k:Nat)(y:Str)(m:List D->O D):Prop where
 ex:∃(f:Addr) (fd:FuncData) (ps:List Str),gm P w K mg base wI k f fd ps (Ag K ps.length m)/\mg y=some (.ref f)/\PySem.W.keepIn K (.ref f)=true/\Binds K fd ps []/\∀ ds r,m ds=ok r->ds.length=ps.length
theorem Ent.up{k k':Nat}{y:Str}{m:List D->O D}(h:Ent P w K mg base k y m)(hk:k<=k'):Ent P w K mg base k' y m:=by
 obtain⟨f,fd,ps,h1,h2⟩:=h.ex;exact⟨f,fd,ps,h1.mono hk,h2⟩
theorem ent{x:Str}{f:Addr}{fd:FuncData}{k:Nat}{N bl:List Str}{cs:List (Str×GK)}{px:Px}{Bm:Nat->Option Str}{m:List D->O D}{body:List CS}
  (Fu:B1 K x qual st f fd) (hmg:mg x=some (.ref f)) (hb:Binds K fd ps []) (Sc:gg N ps (aI st)) (E_:iM ⟨aI st,N,Bm,bl,cs,px⟩ body (cj st)=true) (ES:sU px Φ) (NQ:Gj px Φ) (Fc:∀ y∈bl,mg y=none) (vQ:∀ y i,(y,i)∈cs->∃ u,mg y=some u/\CZ K i u)
  (rZ:∀ g y,Bm g=some y->Ent P w K mg base k y (Φ g)) (hm:∀ ds r,m ds=ok r->ds.length=ps.length/\nK Φ N.length body ds=ok r):Ent P w K mg base (k+1) x m :=
 ⟨f,fd,ps,ql Fu Sc E_ ES NQ Fc vQ (λg y h=>(rZ g y h).ex) hm,hmg,Fu.kp,hb,λds r h=>(hm ds r h).1⟩
noncomputable def dA{α:Type}(P:α->Prop):List α->Prop
 | []=>True
 | a::l=>P a/\dA P l
theorem dA.mem{α:Type}{P:α->Prop}:∀ {l:List α},dA P l->∀ a∈l,P a
 | [],_,_,h=>by cases h
 | _::_,h,_,hm=>(List.mem_cons.mp hm).elim (λe=>e▸h.1) (dA.mem h.2 _)
theorem dA.tab{β:Type}{P:Nat->β->Prop}:∀ {l:List (Nat×β)},dA (λp=>P p.1 p.2) l->∀ g y,l.lookup g=some y->P g y
 | [],_,_,_,h=>by cases h
 | (k,b)::l,h,g,y,e=>by
  rw[List.lookup_cons]at e;cases hg:g==k with
  | true=>rw[hg]at e;cases e;rw[eq_of_beq hg];exact h.1
  | false=>rw[hg]at e;exact dA.tab h.2 g y e
theorem dA.two{β γ:Type}{P:β->γ->Prop}{l:List (β×γ)}(h:dA (λp=>P p.1 p.2) l)(y:β)(i:γ)(hm:(y,i)∈l):P y i:=dA.mem h _ hm
theorem Jd{α:Type}{l:List α}(h:l.length=1):∃ a,l=[a]:=List.length_eq_one_iff.mp h
theorem Jb{α:Type}{l:List α}(h:l.length=2):∃ a b,l=[a,b]:=by
 cases l with
 | nil=>cases h
 | cons a l=>obtain⟨b,rfl⟩:=Jd (Nat.succ.inj h);exact⟨a,b,rfl⟩
theorem Ja{α:Type}{l:List α}(h:l.length=3):∃ a b c,l=[a,b,c]:=by
 cases l with
 | nil=>cases h
 | cons a l=>obtain⟨b,c,rfl⟩:=Jb (Nat.succ.inj h);exact⟨a,b,c,rfl⟩
theorem Ni{α:Type}{l:List α}(h:l.length=4):∃ a b c d,l=[a,b,c,d]:=by
 cases l with
 | nil=>cases h
 | cons a l=>obtain⟨b,c,d,rfl⟩:=Ja (Nat.succ.inj h);exact⟨a,b,c,d,rfl⟩
noncomputable def lr:List D->Option (List Int)
 | []=>some []
 | .int i::ds=>(lr ds).map (i :: ·)
 | _::_=>none
theorem lq:∀ ns:List Int,lr (ns.map D.int)=some ns
 | []=>rfl
 | n::ns=>by simp[lr,lq ns]
theorem pQ:∀ {ds:List D} {ns:List Int},lr ds=some ns->ds=ns.map D.int
 | [],ns,h=>by simp[lr]at h;subst h;rfl
 | d::ds,ns,h=>by
  cases d<;>simp[lr]at h;obtain⟨ms,h1,rfl⟩:=h;rw[pQ h1];rfl
def n4:List D->O D
 | [.lst .sc ds]=>match lr ds with
  | some ns=>if ns.length<=63 then ok (.bl true)else none
  | none=>none
 | _=>none
theorem AZ(h:ns.length<=63):n4 [.lst .sc (ns.map D.int)]=ok (.bl true):=by
 simp[n4,lq,h]
theorem x8{n:Nat}{b:List CS}(h:∀ ns:List Int,ns.length<=63->nK Φ n b [.lst .sc (ns.map D.int)]=ok (.bl true)):∀ ds r,n4 ds=ok r->ds.length=1/\nK Φ n b ds=ok r:=by
 intro ds r e
 match ds,e with
 | [.lst .sc ds],e =>
  simp only[n4]at e;split at e
  ·rename_i ns wz;split at e
   ·rename_i hl;cases e;obtain rfl:=pQ wz;exact⟨rfl,h ns hl⟩
   ·cases e
  ·cases e
theorem Eu(K:PySem.W.Frag)(H:Hp)(a:Addr)(ns:List Int)(m:List D->O D)(hm:m [.lst .sc (ns.map D.int)]=ok (.bl true))(hO:BZ H)(hS:c_ K H a (ns.map V.int)):Ag K 1 m [.ref a] H (λv _=>v=.bl true) λ_ _ _=>False:=by
 refine⟨λ_=>True,_,.bl true,rfl,.cons (.lst ?_ (ae.ints ns)) .nil,hm,λv H' _ ⟨τt,_,rp⟩=>by cases rp;rfl⟩;rcases hS with (h | h) | h
 ·rcases hO a with z | ⟨o,xs,z⟩
  ·rw[h]at z;cases z
  ·rw[h]at z;cases z
 ·exact .inl h
 ·exact .inr h
def ly(xs:List D):O D:=match xs with
 | []=>none
 | x::xs=>match x with
  | .int a=>match xs with
   | []=>none
   | y::ys=>match y with
    | .int b=>match ys with
     | []=>if cR a b then ok (.int (a*b))else none
     | _::_=>none
    | _=>none
  | _=>none
theorem qa{x y d:D}(h:ly [x,y]=ok d):∃ a b,x=.int a/\y=.int b/\cR a b=true/\d=.int (a*b):=by
 cases x<;>first | exact nk h | (cases h;done) | (cases y<;>first | exact nk h | (cases h;done) | skip)
 obtain⟨h1,h2⟩:=uf h;exact⟨_,_,rfl,rfl,h1,h2.symm⟩
def kh(_:Scope)(_:List Str)(st:Stmt):Option (Expr×List Expr):=match C7 st with
 | some z=>if z.2.1=.Mult then some (z.1,[z.2.2])else none
 | none=>none
theorem sG{sc:Scope}{bl:List Str}(h:kh sc bl st=some (o,args)):∃ v pos,st=.AugAssign o .Mult v pos/\args=[v]:=by
 unfold kh at h;cases hv:C7 st with
 | none=>rw[hv]at h;exact nk h
 | some z =>
  obtain⟨o',p,v⟩:=z;rw[hv]at h;obtain⟨pos,rfl⟩:=zW hv;replace h:(if p=.Mult then some (o',[v])else none)=some (o,args):=h;by_cases hp:p=.Mult
  ·rw[if_pos hp]at h;subst hp;cases h;exact⟨v,pos,rfl,rfl⟩
  ·rw[if_neg hp]at h;cases h
theorem EM:L5 X .Mult (λx y H Q=>∃ i j,x=.int i/\y=.int j/\cR i j=true/\Q (.int (i*j)) H):=by
 intro pins s σ H x y v u Q I r1 r2 h;obtain⟨i,j,e1,e2,hc,q⟩:=h;subst e1;subst e2;obtain⟨t,rfl⟩:=r1;obtain⟨t',rfl⟩:=r2;exact imul_int ⟨.int _,H,I.tok _,⟨_,rfl⟩,q⟩ (pT hc)
theorem Ba{n:Nat}(hΦ:Φ n=ly){sc:Scope}{bl:List Str}{k:Nat}(L:PX X sc bl k)(hN:X.N.Nodup)(rZ:∀ x,X.fn x=true){x:Str}(he:kh sc bl st=some (.Name x pos,args))
  {i:Nat} (hi:X.N[i]?=some x) (hl:L2.Loc X.env.scope x) (pe:PE X (.Name x pos) (vh i)) (hs:my X F Φ cs args):PS X st (oT X F Φ (.mut n i cs)):=by
 obtain⟨v,pos',rfl,rfl⟩:=sG he;cases cs with
 | nil=>exact hs.elim
 | cons c cs=>cases cs with
  | cons _ _=>exact hs.2.2.2.elim
  | nil =>
   refine PS.imp (DV hN hi hl hs.1 EM (.inl (rZ _))) λD σ H hq=>?_;obtain⟨R,τ,ρ,r,Si,ev,hq⟩:=hq;obtain⟨xs,bU,ev⟩:=ab ev;obtain⟨y,ey,bU⟩:=ab bU;cases bU;have key:∃ a b,y=.int b/\ρ[i]?=some (some (.int a))/\cR a b=true/\r=(.nx,ρ.set i (some (.int (a*b)))):=by
    have ev:nX Φ n i (iC [c] [y] ρ)=ok r:=ev;unfold nX at ev;split at ev
    ·rename_i d0 ho;obtain⟨d',h1,h2⟩:=ab ev;rw[hΦ]at h1;unfold iC at h1 ho h2;split at h1
     ·rename_i ha;obtain⟨a,b,e1,e2,_,_⟩:=qa (y:=aw aC y) h1;cases y<;>first | (cases e2;done) | (cases ha;done)
     ·rename_i ha;obtain⟨a,b,rfl,rfl,hm,rfl⟩:=qa h1;rw[if_neg ha]at ho;rw[if_neg ha]at h2;cases h2;exact⟨a,b,rfl,ho,hm,rfl⟩
    ·cases ev
   obtain⟨a,b,rfl,ho,hm,rfl⟩:=key;obtain⟨w,hw,iw⟩:=Si.rep i _ ho;cases iw;have jg:i<ρ.length:=by
    by_cases z:i<ρ.length
    ·exact z
    ·rw[List.getElem?_eq_none (by left)]at ho;cases ho
   refine⟨_,hw,tD.intro Si ey λu H1 e1 ru=>?_⟩;cases ru.isInt;refine⟨_,_,rfl,rfl,hm,?_⟩;obtain⟨τ1,l9⟩:=(Si.go e1).set (i:=i) (v:=.int (a*b)) (d:=.int (a*b)) ⟨λ_=>none,λ_ _ h=>by simp at h,.int _⟩ jg;exact hq _ H1 R τ1 l9 (Kp.of e1 λ_ h=>h)
section
variable {X:Cx}
end
def fQ(f:Str)(sc:Scope)(bl:List Str)(e:Expr):Option (List Expr):=match gp e with
 | some z=>match one z.2 with
  | some _=>if z.1=f/\ml sc z.1=true/\z.1∈bl then some z.2 else none
  | none=>none
 | none=>none
theorem jn{f:Str}{sc:Scope}{bl:List Str}{e:Expr}(h:fQ f sc bl e=some args):∃ p pos a,e=.Call (.Name f p) [a] [] pos/\args=[a]/\ml sc f=true/\f∈bl:=by
 unfold fQ at h;cases hv:gp e with
 | none=>rw[hv]at h;exact nk h
 | some z =>
  obtain⟨x,as⟩:=z;rw[hv]at h;obtain⟨p,pos,rfl⟩:=dX hv;have h:(match one as with | some _=>if x=f/\ml sc x=true/\x∈bl then some as else none | none=>none)=some args:=h;cases hw:one as with
  | none=>rw[hw]at h;exact nk h
  | some a =>
   rw[hw]at h;have h:(if x=f/\ml sc x=true/\x∈bl then some as else none)=some args:=h;obtain rfl:=b6 hw;by_cases hc:x=f/\ml sc x=true/\x∈bl
   ·rw[if_pos hc]at h;cases h;obtain⟨rfl,h1,h2⟩:=hc;exact⟨_,_,_,rfl,rfl,h1,h2⟩
   ·rw[if_neg hc]at h;cases h
section
variable {prog:Program}{w:World}{A:Around}{E:Value->Shared->Prop}{s:Shared}
noncomputable def oQ(h:Heap)(vs:List Value)(nss:List (List Int)):Prop:=vs.length=nss.length/\∀(i:Nat) (ns:List Int),nss[i]?=some ns->∃ t af,vs[i]?=some (.ref t)/\IsTup h t af.toArray/\IntsAre af ns/\ns≠[]
theorem p4{fin:Bool}{Q:Bool->Shared->Prop}:∀ {af A5:List Value} {ns ms:List Int} (i:Nat),IntsAre af ns->IntsAre A5 ms->fin=decide (af.length<A5.length)->Q (HT.lexLt ns ms) s->PySem.W.KatLex prog w A true fin Q (af.zip A5) i s
 | _,_,_,_,i,.nil,.nil,hf,h=>by subst hf;exact h
 | _,_,_,_,i,.nil,.cons _ _ _,hf,h=>by subst hf;exact h
 | _,_,_,_,i,.cons _ _ _,.nil,hf,h=>by subst hf;exact h
 | _,_,_,_,i,.cons (ns:=ns) a t h1,.cons (ns:=ms) b u h2,hf,h=>by
  rw[HT.cv]at h;refine PySem.W.kat_cons (wpAny_eqBool_int (PySem.W.kat_go (λe=>?_) λe=>?_))
  ·have e:a=b:=by simpa using e
   rw[if_pos e]at h;exact PySem.W.kat_yes (p4 (i+1) h1 h2 (by rw[hf];simp) h)
  ·have e:¬ a=b:=by simpa using e
   rw[if_neg e]at h;refine PySem.W.kat_no ?_;rw[Bool.true_and];cases i==0 with
   | true=>exact oneLt_int h
   | false=>exact PySem.W.kat_one _ _ (lt_int h)
theorem oQ.mono{vs:List Value}{nss:List (List Int)}(k:∀ b o,h.get? b=some o->h'.get? b=some o)(t:oQ h vs nss):oQ h' vs nss :=
 ⟨t.1,λi ns e=>let ⟨a,af,e1,⟨o,ho,r⟩,e3⟩:=t.2 i ns e;⟨a,af,e1,⟨o,k _ _ ho,r⟩,e3⟩⟩
end
noncomputable def bF(ns:List Int):D:=.tup (ns.map D.int)
theorem nG{p a:Addr}{o:HO}(hp:H p=some (.lst xs))(h:ao K H a ys):ao K (upd H p o) a ys:=by
 rcases h with (h | ⟨o',h⟩) | h
 ·exact .inl (.inl (by rw[aq (λz=>by subst z;rw[hp]at h;cases h)];exact h))
 ·exact .inl (.inr ⟨o',by rw[aq (λz=>by subst z;rw[hp]at h;cases h)];exact h⟩)
 ·exact .inr h
theorem tV{n i:Nat}{xs:List D}{r:Fo×au}(ev:nX Φ n i (iC cs xs ρ)=ok r)(ha:aj aQ xs=false):∃ d d',ρ[i]?=some (some d)/\Φ n (d::xs)=ok d'/\r=(.nx,ρ.set i (some d')):=by
 unfold iC at ev;rw[if_neg (by rw[ha];exact Bool.false_ne_true)]at ev;unfold nX at ev;split at ev
 ·rename_i d hd;obtain⟨d',h1,h2⟩:=ab ev;cases h2;exact⟨d,d',hd,h1,rfl⟩
 ·cases ev
theorem x3{n i:Nat}{xs:List D}{r:Fo×au}(ev:nX Φ n i (iC cs xs ρ)=ok r)(ha:aj aQ xs=true):∃ d d',Φ n (d::ag aC xs)=ok d':=by
 unfold iC at ev;rw[if_pos ha]at ev;unfold nX at ev;split at ev
 ·rename_i d hd;obtain⟨d',h1,h2⟩:=ab ev;exact⟨d,d',h1⟩
 ·cases ev
def Lc:D->Option (List D)
 | .lst f ds=>if bo f then some ds else none
 | _=>none
theorem D7{d:D}(h:Lc d=some ds):d=.lst .ow ds:=by
 cases d<;>first | exact nk h | (cases h;done) | skip
 rename_i f es;have h:(if bo f then some es else none)=some ds:=h;cases f<;>first | (cases h;rfl) | (cases h;done)
def jB(m:Str)(st:Stmt):Option (Expr×List Expr):=match Hh st with
 | some c=>match kN c with
  | some z=>match oZ z.1 with
   | some y=>if y.2.1=m/\z.2.2.1=[]/\(y.2.2.endLine==z.2.2.2.line)=true then some (y.1,z.2.1)else none
   | none=>none
  | none=>none
 | none=>none
theorem kM{m:Str}(h:jB m st=some (o,as)):∃ p1 p2 pos,st=.Expr (.Call (.Attribute o m p1) as [] p2) pos/\(p1.endLine==p2.line)=true:=by
 unfold jB at h;cases h1:Hh st with
 | none=>rw[h1]at h;exact nk h
 | some c =>
  obtain⟨pos,rfl⟩:=qV h1;rw[h1]at h;cases h2:kN c with
  | none=>simp only[h2]at h;cases h
  | some z =>
   obtain⟨f,L0,ks,p2⟩:=z;obtain rfl:=i0 h2;simp only[h2]at h;cases h3:oZ f with
   | none=>simp only[h3]at h;cases h
   | some y =>
    obtain⟨o',a,p1⟩:=y;obtain rfl:=kO h3;simp only[h3]at h;by_cases hc:a=m/\ks=[]/\(p1.endLine==p2.line)=true
    ·rw[if_pos hc]at h;cases h;obtain⟨rfl,rfl,hl⟩:=hc;exact⟨p1,p2,pos,rfl,hl⟩
    ·rw[if_neg hc]at h;cases h
noncomputable def ve(J:Nat)(d:D):Nat->List D->List D
 | _,[]=>[]
 | n,x::xs=>(if n=J then d else x)::ve J d (n+1) xs
theorem ae.ve{T T':lY}{N N':gO}{q:az}{J:Nat}{d:D}(hT:∀ p xs,T p xs->T' p xs)(hN:∀ c m p xs f,m≠J->N (c++(m::q)) p xs f->N' (c++(m::q)) p xs f):∀ {n:Nat} {vs:List V} {ds:List D},ae T N q n vs ds->(∀ k v,vs[k]?=some v->n+k=J->Rep T' N' (J::q) v d)->ae T' N' q n vs (DI.ve J d n ds)
 | _,_,_,.nil,_=>.nil
 | n,_,_,.cons (d:=x) h t,hj=>by
  refine .cons ?_ (ae.ve hT hN t λk v e z=>hj (k+1) v e (by left));by_cases hn:n=J
  ·rw[if_pos hn];subst hn;exact hj 0 _ rfl rfl
  ·rw[if_neg hn];exact h.imp (q:=n::q) (q':=n::q) hT λc p xs f h=>hN c n p xs f hn h
section
variable {X:Cx}{F R:Addr->Prop}{τ:Addr->Option az}{ρ:au}{σ:St}{H:Hp}
theorem SI.Ng{p a:Addr}{q q0:az}{n:Nd}{f:Fl}{o:HO}(Si:SI X F R τ ρ σ H)(hp:H p=some (.lst xs))(ht:τ p=some q0)(hq:q≠q0)(h:nd X.K R (λ_=>False) τ H q a n f):nd X.K R (λ_=>False) τ (upd H p o) q a n f:=by
 have low:∀ {a:Addr} {z:Nd},a≠p->cN H a z->cN (upd H p o) a z:=λne h=>h.at λu e=>by rw[aq ne];exact e
 cases f with
 | ow=>exact⟨low (λz=>by subst z;exact hq (Vk (h.2.symm.trans ht))) h.1,h.2⟩
 | fz=>exact⟨low (λz=>by subst z;rw[Si.rt _ h.2]at ht;cases ht) h.1,h.2⟩
 | al=>exact h.2.elim
 | sc =>
  obtain⟨ys,rfl,h⟩:=h.xj;exact h.elim (λ⟨o',w⟩=>.inl ⟨o',by rw[aq (λz=>by subst z;rw[hp]at w;cases w)];exact w⟩) .inr
theorem SI.Q8{i j:Nat}{d1:D}{p:Addr}(Si:SI X F R τ ρ σ H)(hi:ρ[i]?=some (some d0))(hp:H p=some (.lst xs))(ht:τ p=some [j,i])
  {v:V} (hv:σ[i]?=some (some v)) (hb:Rep (ao X.K (upd H p (.lst ys))) (nd X.K R (λ_=>False) τ (upd H p (.lst ys))) [i] v d1):SI X F R τ (ρ.set i (some d1)) σ (upd H p (.lst ys)):=by
 have wA:i<ρ.length:=by
  by_cases z:i<ρ.length
  ·exact z
  ·rw[List.getElem?_eq_none (by left)]at hi;cases hi
 have there:∀ a,H a≠none->upd H p (.lst ys) a≠none:=λa h=>by
  by_cases z:a=p
  ·rw[z,aB];simp
  ·rw[aq z];exact h
 refine⟨by simp[Si.len],λm d hm=>?_,Si.rt,λa ha=>there a (Si.rh a ha),Si.rf,λa q e=>there a (Si.th a q e),Si.t0,λa u e=>?_⟩
 ·by_cases z:m=i
  ·subst z;rw[List.getElem?_set_self wA]at hm;cases hm;exact⟨v,hv,hb⟩
  ·rw[List.getElem?_set_ne (Ne.symm z)]at hm;obtain⟨v,h1,h2⟩:=Si.rep m d hm;refine⟨v,h1,h2.imp (q:=[m]) (q':=[m]) (λ_ _ h=>nG hp h) λc a n f h=>Si.Ng hp ht (λe=>?_) h⟩;have:=VY List.getLast? e;simp at this;exact z this
 ·rw[aq (λz=>by subst z;rw[Si.t0 _ _ ht]at e;cases e)];exact Si.same a u e
end
def jW(ds:List D)(j:Nat):Option (List D):=match ds[j]? with
 | some d=>match Lc d with
  | some _=>some (ve j (.lst .ow []) 0 ds)
  | none=>none
 | none=>none
theorem uJ{es:List D}{j:Nat}(h:jW ds j=some es):∃ gs,ds[j]?=some (.lst .ow gs)/\es=ve j (.lst .ow []) 0 ds:=by
 unfold jW at h;cases h1:ds[j]? with
 | none=>rw[h1]at h;exact nk h
 | some d =>
  rw[h1]at h;have h:(match Lc d with | some _=>some (ve j (.lst .ow []) 0 ds) | none=>none)=some es:=h;cases h2:Lc d with
  | none=>rw[h2]at h;exact nk h
  | some gs =>
   rw[h2]at h;cases h;exact⟨gs,by rw[D7 h2],rfl⟩
def zi(xs:List D):O D:=match two xs with
 | some z=>match z.2 with
  | .int k=>if 0<=k then(match z.1 with
   | .tup ds=>(match jW ds k.toNat with | some es=>ok (.tup es) | none=>none)
   | .lst f ds=>if bo f then(match jW ds k.toNat with | some es=>ok (.lst f es) | none=>none)else none
   | _=>none)else none
  | _=>none
 | none=>none
theorem uK{x y d:D}(h0:zi [x,y]=ok d):∃(k:Int) (ds gs:List D),y=.int k/\0<=k/\ds[k.toNat]?=some (.lst .ow gs)/\((x=.tup ds/\d=.tup (ve k.toNat (.lst .ow []) 0 ds))\/(x=.lst .ow ds/\d=.lst .ow (ve k.toNat (.lst .ow []) 0 ds))):=by
 cases y<;>first | exact nk h0 | (cases h0;done) | skip
 rename_i k;by_cases hk:0<=k
 ·have h:(if 0<=k then(match x with
   | .tup ds=>(match jW ds k.toNat with | some es=>ok (.tup es) | none=>none)
   | .lst f ds=>if bo f then(match jW ds k.toNat with | some es=>ok (.lst f es) | none=>none)else none
   | _=>none)else none)=ok d:=h0
  rw[if_pos hk]at h;clear h0;cases x<;>first | exact nk h | (cases h;done) | skip
  ·rename_i ds;replace h:(match jW ds k.toNat with | some es=>ok (D.tup es) | none=>none)=ok d:=h;cases hc:jW ds k.toNat with
   | none=>rw[hc]at h;exact nk h
   | some es =>
    rw[hc]at h;cases h;obtain⟨gs,h1,rfl⟩:=uJ hc;exact⟨k,ds,gs,rfl,hk,h1,.inl ⟨rfl,rfl⟩⟩
  ·rename_i f ds;replace h:(if bo f then(match jW ds k.toNat with | some es=>ok (D.lst f es) | none=>none)else none)=ok d:=h;by_cases hf:bo f=true
   ·rw[if_pos hf]at h;cases hc:jW ds k.toNat with
    | none=>rw[hc]at h;exact nk h
    | some es =>
     rw[hc]at h;cases h;obtain rfl:f=.ow:=by cases f<;>first | rfl | (cases hf;done)
     obtain⟨gs,h1,rfl⟩:=uJ hc;exact⟨k,ds,gs,rfl,hk,h1,.inr ⟨rfl,rfl⟩⟩
   ·rw[if_neg hf]at h;cases h
 ·have h:(if 0<=k then(match x with
   | .tup ds=>(match jW ds k.toNat with | some es=>ok (.tup es) | none=>none)
   | .lst f ds=>if bo f then(match jW ds k.toNat with | some es=>ok (.lst f es) | none=>none)else none
   | _=>none)else none)=ok d:=h0
  rw[if_neg hk]at h;cases h
def oH(_:Scope)(_:List Str)(st:Stmt):Option (Expr×List Expr):=match jB ("clear" : Str) st with
 | some z=>if z.2=[]then(match jN z.1 with
  | some y=>some (y.1,[y.2])
  | none=>none)else none
 | none=>none
theorem wb{sc:Scope}{bl:List Str}(h:oH sc bl st=some (o,args)):∃ k p0 p1 p2 pos,args=[k]/\st=.Expr (.Call (.Attribute (.Subscript o k p0) ("clear" : Str) p1) [] [] p2) pos/\(p1.endLine==p2.line)=true:=by
 unfold oH at h;cases h1:jB ("clear" : Str) st with
 | none=>rw[h1]at h;exact nk h
 | some z =>
  obtain⟨b,as⟩:=z;rw[h1]at h;have h:(if as=[]then(match jN b with | some y=>some (y.1,[y.2]) | none=>none)else none)=some (o,args):=h;by_cases ha:as=[]
  ·rw[if_pos ha]at h;cases h2:jN b with
   | none=>rw[h2]at h;exact nk h
   | some y =>
    obtain⟨a,k⟩:=y;rw[h2]at h;cases h;subst ha;obtain⟨p0,rfl⟩:=ib h2;obtain⟨p1,p2,pos,rfl,hl⟩:=kM h1;exact⟨k,p0,p1,p2,pos,rfl,rfl,hl⟩
  ·rw[if_neg ha]at h;cases h
theorem F8{n:Nat}(hΦ:Φ n=zi){sc:Scope}{bl:List Str}{k:Nat}(L:PX X sc bl k)(hN:X.N.Nodup)(rZ:∀ x,X.fn x=true){x:Str}(he:oH sc bl st=some (.Name x pos,args))
  {i:Nat} (hi:X.N[i]?=some x) (hl:L2.Loc X.env.scope x) (pe:PE X (.Name x pos) (vh i)) (hs:my X F Φ cs args):PS X st (oT X F Φ (.mut n i cs)):=by
 obtain⟨ke,p0,p1,p2,pos',rfl,rfl,JN⟩:=wb he;cases cs with
 | nil=>exact hs.elim
 | cons c cs=>cases cs with
  | cons _ _=>exact hs.2.2.2.elim
  | nil =>
   refine PS.imp (nM (xO Wc PySem.F.slot_list_clear PySem.F.type_list_clear x4 (xJ (t7.or yh) pe hs.1 hs.2.2.1) (hline:=JN))) λD σ H hq=>?_;obtain⟨R,τ,ρ,r,Si,ev,hq⟩:=hq;obtain⟨xs,bU,ev⟩:=ab ev;obtain⟨y,ey,bU⟩:=ab bU;cases bU;have key:∃(k:Int) (d0 d1:DI.D) (ds gs:List DI.D),y=.int k/\ρ[i]?=some (some d0)/\0<=k/\ds[k.toNat]?=some (.lst .ow gs)/\((d0=.tup ds/\d1=.tup (ve k.toNat (.lst .ow []) 0 ds))\/(d0=.lst .ow ds/\d1=.lst .ow (ve k.toNat (.lst .ow []) 0 ds)))/\r=(.nx,ρ.set i (some d1)):=by
    cases hz:aj aQ [y]with
    | true =>
     obtain⟨d,d',h⟩:=x3 ev hz;rw[hΦ]at h;obtain⟨k,ds,gs,h3,_⟩:=uK h;cases y<;>first | exact nk h3 | (cases h3;done) | (cases hz;done)
    | false =>
     obtain⟨d,d',h,h',rfl⟩:=tV ev hz;rw[hΦ]at h';obtain⟨k,ds,gs,rfl,h3,h4,h5⟩:=uK h';exact⟨k,d,d',ds,gs,rfl,h,h3,h4,h5,rfl⟩
   obtain⟨k,d0,d1,ds,gs,rfl,ho,hk,hg,hd,rfl⟩:=key;obtain⟨v,hv,_⟩:=Si.rep i _ ho;refine⟨v,hv,tD.intro Si ey λu H1 e1 ru=>?_⟩;cases ru.isInt;have l9:=Si.go e1;obtain⟨v',Jx,rv⟩:=l9.rep i _ ho;rw[hv]at Jx;cases Jx;have at_:∀ {xs:List V},ae (ao X.K H1) (nd X.K R (λ_=>False) τ H1) [i] 0 xs ds->∃(p:Addr) (zs:List V),xs[k.toNat]?=some (.ref p)/\H1 p=some (.lst zs)/\τ p=some [k.toNat,i]/\CU xs k=some (.ref p):=by
    intro xs rs;obtain⟨w,hw,iw⟩:=rs.get hg;rw[Nat.zero_add]at iw;cases iw with
    | @lst _ p zs _ _ h _ =>
     refine⟨p,zs,hw,h.1,h.2,?_⟩;have fi:k.toNat<xs.length:=by
      by_cases z:k.toNat<xs.length
      ·exact z
      ·rw[List.getElem?_eq_none (by left)]at hw;cases hw
     unfold CU L2.oU;rw[if_pos hk,if_pos (by left)];exact hw
   have go:∀ {xs:List V} {p:Addr} {zs:List V},ae (ao X.K H1) (nd X.K R (λ_=>False) τ H1) [i] 0 xs ds->xs[k.toNat]?=some (.ref p)->H1 p=some (.lst zs)->τ p=some [k.toNat,i]->ae (ao X.K (upd H1 p (.lst []))) (nd X.K R (λ_=>False) τ (upd H1 p (.lst []))) [i] 0 xs (ve k.toNat (.lst .ow []) 0 ds):=by
    intro xs p zs rs hx hp ht;refine ae.ve (λ_ _ h=>nG hp h) (λc m a n f hm h=>l9.Ng hp ht (λz=>?_) h) rs λm w hw hm=>?_
    ·have:=VY List.reverse z;simp at this;exact hm this.1
    ·rw[Nat.zero_add]at hm;subst hm;rw[hx]at hw;cases hw;exact .lst ⟨aB,ht⟩ .nil
   rcases hd with ⟨rfl,rfl⟩ | ⟨rfl,rfl⟩
   ·cases rv with
    | @tup _ a xs _ hn rs =>
     obtain⟨p,zs,h1,h2,h3,h4⟩:=at_ rs;refine .inr ⟨a,xs,k,_,rfl,rfl,hn,h4,.inl ⟨rfl,_,c_.of h2⟩,p,zs,rfl,rfl,h2,?_⟩;exact hq σ _ R τ (l9.Q8 ho h2 h3 hv (.tup (nG h2 hn) (go rs h1 h2 h3))) (je (n:=.l _) l9 e1 (λ_ h=>h) h2 h3)
   ·obtain⟨a,xs,rfl,hn,rs⟩:=rv.wO;obtain⟨p,zs,h1,h2,h3,h4⟩:=at_ rs;refine .inl ⟨a,xs,k,_,rfl,rfl,hn.sq,h4,.inl ⟨rfl,_,c_.of h2⟩,p,zs,rfl,rfl,h2,?_⟩;refine hq σ _ R τ (l9.Q8 ho h2 h3 hv (.lst (l9.Ng h2 h3 (λz=>?_) hn) (go rs h1 h2 h3))) (je (n:=.l _) l9 e1 (λ_ h=>h) h2 h3);have:=VY List.length z;simp at this
end DI
end
section
namespace DI
open PySem (Str)
section
variable {α β:Type}
@[simp] theorem b8(a:α)(f:α->O β):bd (ok a) f=f a:=rfl
@[simp] theorem LW(c:Nat)(f:α->O β):bd (some (.error c)) f=some (.error c):=rfl
noncomputable def Gb(f:α->O β)(x:O α):O β:=bd x f
@[simp] theorem O5(f:α->O β)(a:α):Gb f (ok a)=f a:=rfl
@[simp] theorem L3(f:α->O β)(c:Nat):Gb f (some (.error c))=some (.error c):=rfl
end
def KI(op:B3)(x y:O D):O D:=bd x λx=>bd y λy=>br op x y
@[simp] theorem LV(op:B3)(x y:D):KI op (ok x) (ok y)=br op x y:=rfl
def Kv(op:wJ)(x y:O D):O D:=bd x λx=>bd y λy=>cJ op x y
@[simp] theorem LS(op:wJ)(x y:D):Kv op (ok x) (ok y)=cJ op x y:=rfl
def Qc(x y:O D):O D:=bd x λx=>bd y λy=>EC x y
@[simp] theorem Np(x y:D):Qc (ok x) (ok y)=EC x y:=rfl
def IG(x:O D):O D:=bd (bd x eG) λb=>ok (.bl (!b))
@[simp] theorem Li(b:Bool):IG (ok (.bl b))=ok (.bl (!b)):=rfl
@[simp] theorem Hn(b:Bool):eG (.bl b)=ok b:=rfl
def o6(x:O D):O Bool:=bd x eG
@[simp] theorem KU(b:Bool):o6 (ok (.bl b))=ok b:=rfl
@[simp] theorem Hm(c:Nat):o6 (some (.error c))=some (.error c):=rfl
def Qd(t:Ty)(x:O D):O D:=bd x λx=>ok (.bl (eN t x))
@[simp] theorem Ny(t:Ty)(x:D):Qd t (ok x)=ok (.bl (eN t x)):=rfl
def zo(m:List D->O D)(xs:O (List D)):O D:=bd xs λxs=>bd (m (ag aC xs)) λr=>ok (aw jT r)
def OC(x:O D):O D:=bd x λr=>ok (aw jT r)
@[simp] theorem OB(r:D):OC (ok r)=ok (aw jT r):=rfl
@[simp] theorem LI(c:Nat):OC (some (.error c))=some (.error c):=rfl
@[simp] theorem KC(m:List D->O D)(xs:List D):zo m (ok xs)=OC (m (ag aC xs)):=rfl
@[simp] theorem G3(m:List D->O D)(c:Nat):zo m (some (.error c))=some (.error c):=rfl
noncomputable def uI(x:O D)(xs:O (List D)):O (List D):=bd x λx=>bd xs λxs=>ok (x::xs)
@[simp] theorem Ku(x:D)(xs:List D):uI (ok x) (ok xs)=ok (x::xs):=rfl
@[simp] theorem GZ(c:Nat)(xs:O (List D)):uI (some (.error c)) xs=some (.error c):=rfl
@[simp] theorem F6(x:D)(c:Nat):uI (ok x) (some (.error c))=some (.error c):=rfl
noncomputable def EE(x:O Bool)(a b:O D):O D:=bd x λk=>if k then a else b
@[simp] theorem Nw(a b:O D):EE (ok true) a b=a:=rfl
@[simp] theorem Nx(a b:O D):EE (ok false) a b=b:=rfl
def BQ(x y:O D):O D:=bd (bd x eG) λc=>if c then y else ok (.bl false)
@[simp] theorem O6(y:O D):BQ (ok (.bl true)) y=y:=rfl
@[simp] theorem O7(y:O D):BQ (ok (.bl false)) y=ok (.bl false):=rfl
@[simp] theorem O8(a b:Bool):BQ (ok (.bl a)) (ok (.bl b))=ok (.bl (a&&b)):=by cases a<;>rfl
def Ld(x y:O D):O D:=bd (bd x eG) λc=>if c then ok (.bl true)else y
@[simp] theorem PH(y:O D):Ld (ok (.bl true)) y=ok (.bl true):=rfl
@[simp] theorem PJ(y:O D):Ld (ok (.bl false)) y=y:=rfl
@[simp] theorem PK(a b:Bool):Ld (ok (.bl a)) (ok (.bl b))=ok (.bl (a||b)):=by cases a<;>rfl
def ye(x:O D):O D:=bd (bd x eG) λc=>ok (.bl c)
@[simp] theorem Jj(c:Bool):ye (ok (.bl c))=ok (.bl c):=rfl
@[simp] theorem HJ(d:D):tq (some (some d))=ok (aw bu d):=rfl
section
variable (Φ:ay)(ρ:au)
@[simp] theorem QU:aH Φ .aL ρ=ok .aL:=rfl
@[simp] theorem T7(b:Bool):aH Φ (.bl b) ρ=ok (.bl b):=rfl
@[simp] theorem CK(i:Int):aH Φ (.int i) ρ=ok (.int i):=rfl
@[simp] theorem Q1(x:Str)(i:Int):aH Φ (.glo x i) ρ=ok (.int i):=rfl
@[simp] theorem Q0(x:Str)(zs:List Int):aH Φ (.glt x zs) ρ=ok (.tup (zs.map D.int)):=rfl
@[simp] theorem U2(i:Nat):aH Φ (.v i) ρ=tq ρ[i]?:=rfl
@[simp] theorem Q3(op:B3)(a b:CE):aH Φ (.bin op a b) ρ=KI op (aH Φ a ρ) (aH Φ b ρ):=rfl
@[simp] theorem Q2(op:wJ)(a b:CE):aH Φ (.cmp op a b) ρ=Kv op (aH Φ a ρ) (aH Φ b ρ):=rfl
@[simp] theorem QW(a:CE):aH Φ (.neg a) ρ=Gb AV (aH Φ a ρ):=rfl
@[simp] theorem QT(a:CE):aH Φ (.not a) ρ=IG (aH Φ a ρ):=rfl
@[simp] theorem QZ(a:CE)(t:Ty):aH Φ (.ud a t) ρ=Qd t (aH Φ a ρ):=rfl
@[simp] theorem QY(c a b:CE):aH Φ (.ite c a b) ρ=EE (o6 (aH Φ c ρ)) (aH Φ a ρ) (aH Φ b ρ):=rfl
@[simp] theorem OP(f:Nat)(es:List CE):aH Φ (.call f es) ρ=zo (Φ f) (bM Φ es ρ):=rfl
@[simp] theorem T8(f:Bf)(es:List CE):aH Φ (.bf f es) ρ=Gb (sP f) (bM Φ es ρ):=rfl
@[simp] theorem QQ(f:Nat)(es:List CE):aH Φ (.cm f es) ρ=Gb (Φ f) (bM Φ es ρ):=rfl
@[simp] theorem T6(a b:CE):aH Φ (.ix a b) ρ=Qc (aH Φ a ρ) (aH Φ b ρ):=rfl
@[simp] theorem QP(es:List CE):aH Φ (.tup es) ρ=Gb (λxs=>ok (.tup xs)) (bM Φ es ρ):=rfl
@[simp] theorem QX(es:List CE):aH Φ (.lst es) ρ=Gb (λxs=>ok (.lst .ow xs)) (bM Φ es ρ):=rfl
@[simp] theorem Q4(es:List CE):aH Φ (.and es) ρ=m9 Φ es ρ:=rfl
@[simp] theorem T5(es:List CE):aH Φ (.or es) ρ=vY Φ es ρ:=rfl
@[simp] theorem OR(e:CE):m9 Φ [e] ρ=ye (aH Φ e ρ):=rfl
@[simp] theorem OQ(e e':CE)(es:List CE):m9 Φ (e::e'::es) ρ=BQ (aH Φ e ρ) (m9 Φ (e'::es) ρ):=rfl
@[simp] theorem QS(e:CE):vY Φ [e] ρ=ye (aH Φ e ρ):=rfl
@[simp] theorem QR(e e':CE)(es:List CE):vY Φ (e::e'::es) ρ=Ld (aH Φ e ρ) (vY Φ (e'::es) ρ):=rfl
@[simp] theorem QV:bM Φ [] ρ=ok []:=rfl
@[simp] theorem F0(e:CE)(es:List CE):bM Φ (e::es) ρ=uI (aH Φ e ρ) (bM Φ es ρ):=rfl
@[simp] theorem U3(e:CE):qS Φ e ρ=o6 (aH Φ e ρ):=rfl
theorem OU(e:CE):bd (aH Φ e ρ) eG=o6 (aH Φ e ρ):=rfl
@[simp] theorem OT:fj Φ [] ρ=ok true:=rfl
@[simp] theorem OS(e:CE):fj Φ [e] ρ=o6 (aH Φ e ρ):=by
 rw[fj,OU];cases h:o6 (aH Φ e ρ)with
 | none=>rfl
 | some r=>cases r with
  | error c=>rfl
  | ok b=>cases b<;>simp[fj,bd,ok]
end
def oi(is:List Nat):Nat->au->au
 | _,[]=>[]
 | n,d::ρ=>(if n∈is then d.map (aw aC)else d)::oi is (n+1) ρ
theorem CJ(is:List Nat):∀(ρ:au) (n:Nat),ρ.mapIdx (λi d=>if i+n∈is then d.map (aw aC)else d)=oi is n ρ
 | [],_=>rfl
 | d::ρ,n=>by
  rw[List.mapIdx_cons,oi,<- CJ is ρ (n+1)];simp only[Nat.zero_add,Nat.add_assoc,Nat.add_comm 1 n]
theorem yI(is:List Nat)(ρ:au):fK is ρ=oi is 0 ρ:=by rw[<- CJ];rfl
@[simp] theorem Kg(is:List Nat)(n:Nat):oi is n []=[]:=rfl
@[simp] theorem GX(is:List Nat)(n:Nat)(d:Option D)(ρ:au):oi is n (d::ρ)=(if n∈is then d.map (aw aC)else d)::oi is (n+1) ρ:=rfl
def bQ(e:CE)(ρ:au)(x:O D):O (D×au):=bd x λd=>ok (keep e d ρ)
variable {ρ ρ1:au}
@[simp] theorem p6{e:CE}{d:D}(h:ak aQ d=false):bQ e ρ (ok d)=ok (d,ρ):=by
 show ok (keep e d ρ)=_;rw[keep,h];rfl
@[simp] theorem Jl{e:CE}{d:D}(h:ak aQ d=true):bQ e ρ (ok d)=ok (aw aC d,oi (fw e) 0 ρ):=by
 show ok (keep e d ρ)=_;rw[keep,h,<- yI];rfl
@[simp] theorem GH(e:CE)(ρ:au)(c:Nat):bQ e ρ (some (.error c))=some (.error c):=rfl
def x5(i:Nat)(ρ:au)(o:Option (Option D)):O (D×au):=match o with
 | some (some d)=>if ak bo d then ok (d,ρ.set i none)else ok (d,ρ)
 | _=>none
@[simp] theorem IM{i:Nat}{d:D}(h:ak bo d=true):x5 i ρ (some (some d))=ok (d,ρ.set i none):=VA h
@[simp] theorem IP{i:Nat}{d:D}(h:ak bo d=false):x5 i ρ (some (some d))=ok (d,ρ):=V1 (by rw[h];exact U8)
@[simp] theorem UQ(Φ:ay)(i:Nat)(ρ:au):gd Φ (.v i) ρ=x5 i ρ ρ[i]?:=rfl
noncomputable def Sf:CE->Bool
 | .v _=>true
 | _=>false
@[simp] theorem P9(Φ:ay)(ρ:au)(op:B3)(a b:CE):gd Φ (.bin op a b) ρ=bQ (.bin op a b) ρ (aH Φ (.bin op a b) ρ):=rfl
@[simp] theorem P8(Φ:ay)(ρ:au)(op:wJ)(a b:CE):gd Φ (.cmp op a b) ρ=bQ (.cmp op a b) ρ (aH Φ (.cmp op a b) ρ):=rfl
@[simp] theorem Nn(Φ:ay)(ρ:au)(f:Nat)(es:List CE):gd Φ (.call f es) ρ=bQ (.call f es) ρ (aH Φ (.call f es) ρ):=rfl
@[simp] theorem Sd(Φ:ay)(ρ:au)(f:Bf)(es:List CE):gd Φ (.bf f es) ρ=bQ (.bf f es) ρ (aH Φ (.bf f es) ρ):=rfl
@[simp] theorem PV(Φ:ay)(ρ:au)(f:Nat)(es:List CE):gd Φ (.cm f es) ρ=bQ (.cm f es) ρ (aH Φ (.cm f es) ρ):=rfl
@[simp] theorem Sa(Φ:ay)(ρ:au)(a b:CE):gd Φ (.ix a b) ρ=bQ (.ix a b) ρ (aH Φ (.ix a b) ρ):=rfl
@[simp] theorem PU(Φ:ay)(ρ:au)(es:List CE):gd Φ (.tup es) ρ=bQ (.tup es) ρ (aH Φ (.tup es) ρ):=rfl
@[simp] theorem P5(Φ:ay)(ρ:au)(es:List CE):gd Φ (.lst es) ρ=bQ (.lst es) ρ (aH Φ (.lst es) ρ):=rfl
@[simp] theorem CB(Φ:ay)(ρ:au)(i:Int):gd Φ (.int i) ρ=bQ (.int i) ρ (aH Φ (.int i) ρ):=rfl
@[simp] theorem Sb(Φ:ay)(ρ:au)(i:Bool):gd Φ (.bl i) ρ=bQ (.bl i) ρ (aH Φ (.bl i) ρ):=rfl
@[simp] theorem PZ(Φ:ay)(ρ:au): gd Φ (.aL) ρ=bQ (.aL) ρ (aH Φ (.aL) ρ):=rfl
@[simp] theorem P4(Φ:ay)(ρ:au)(a:CE):gd Φ (.neg a) ρ=bQ (.neg a) ρ (aH Φ (.neg a) ρ):=rfl
@[simp] theorem PY(Φ:ay)(ρ:au)(a:CE):gd Φ (.not a) ρ=bQ (.not a) ρ (aH Φ (.not a) ρ):=rfl
@[simp] theorem P_(Φ:ay)(ρ:au)(es:List CE):gd Φ (.and es) ρ=bQ (.and es) ρ (aH Φ (.and es) ρ):=rfl
@[simp] theorem R_(Φ:ay)(ρ:au)(es:List CE):gd Φ (.or es) ρ=bQ (.or es) ρ (aH Φ (.or es) ρ):=rfl
@[simp] theorem P6(Φ:ay)(ρ:au)(a b c:CE):gd Φ (.ite a b c) ρ=bQ (.ite a b c) ρ (aH Φ (.ite a b c) ρ):=rfl
@[simp] theorem Nm(Φ:ay)(ρ:au)(n:Nat)(t:Tg)(caps:List Nat)(ik:IK)(es aJ:List CE)(elt:CE):gd Φ (.comp n t caps ik es aJ elt) ρ=bQ (.comp n t caps ik es aJ elt) ρ (aH Φ (.comp n t caps ik es aJ elt) ρ):=rfl
@[simp] theorem P7(Φ:ay)(ρ:au)(a:CE)(t:Ty):gd Φ (.ud a t) ρ=bQ (.ud a t) ρ (aH Φ (.ud a t) ρ):=rfl
theorem Lo(Φ:ay)(e:CE)(ρ:au)(h:Sf e=false):gd Φ e ρ=bQ e ρ (aH Φ e ρ):=by cases e<;>first | rfl | cases h
@[simp] theorem Gr(ρ:au):dZ [] [] ρ=ok ρ:=rfl
variable {ds:List D}{is:List Nat}
@[simp] theorem Dw{i:Nat}{d:D}(h:i<ρ.length):dZ (i::is) (d::ds) ρ=dZ is ds (ρ.set i (some d)):=VA h
@[simp] theorem K3{i:Nat}{d:D}(h:i<ρ.length):bw (.nm i) d ρ=ok (ρ.set i (some d)):=VA h
@[simp] theorem nJ(h:aj bo ds=false):bw (.tp is) (.tup ds) ρ=dZ is ds ρ:=V1 (by rw[h];exact U8)
def Ga(i:Nat)(r:O (D×au)):O (Fo×au):=bd r λr=>bd (bw (.nm i) r.1 r.2) λρ'=>ok (.nx,ρ')
@[simp] theorem uW{i:Nat}{d:D}(h:i<ρ.length):Ga i (ok (d,ρ))=ok (.nx,ρ.set i (some d)):=by
 show bd (bw (.nm i) d ρ) _=_;rw[bw,if_pos h];rfl
@[simp] theorem KO(i:Nat)(c:Nat):Ga i (some (.error c))=some (.error c):=rfl
def KN(is:List Nat)(r:O (D×au)):O (Fo×au):=bd r λr=>bd (bw (.tp is) r.1 r.2) λρ'=>ok (.nx,ρ')
@[simp] theorem LZ(h:aj bo ds=false):KN is (ok (.tup ds,ρ))=bd (dZ is ds ρ) λρ'=>ok (.nx,ρ'):=by
 show bd (bw (.tp is) (.tup ds) ρ) _=_;rw[bw,h];rfl
noncomputable def retS(r:O (D×au)):O (Fo×au):=bd r λr=>ok (.rt r.1,r.2)
@[simp] theorem K4(d:D)(ρ:au):retS (ok (d,ρ))=ok (.rt d,ρ):=rfl
@[simp] theorem HW(c:Nat):retS (some (.error c))=some (.error c):=rfl
noncomputable def OJ(ρ:au)(x:O D):O (Fo×au):=bd x λ_=>ok (.nx,ρ)
@[simp] theorem OI(ρ:au)(d:D):OJ ρ (ok d)=ok (.nx,ρ):=rfl
@[simp] theorem LN(ρ:au)(c:Nat):OJ ρ (some (.error c))=some (.error c):=rfl
noncomputable def mE(Φ:ay)(ss:List CS)(r:O (Fo×au)):O (Fo×au):=bd r λr=>match r with
 | (.nx,ρ')=>aT Φ ss ρ'
 | r=>ok r
@[simp] theorem ig(Φ:ay)(ss:List CS)(ρ:au):mE Φ ss (ok (.nx,ρ))=aT Φ ss ρ:=rfl
@[simp] theorem Hq(Φ:ay)(ss:List CS)(d:D)(ρ:au):mE Φ ss (ok (.rt d,ρ))=ok (.rt d,ρ):=rfl
@[simp] theorem Hs(Φ:ay)(ss:List CS)(ρ:au):mE Φ ss (ok (.bk,ρ))=ok (.bk,ρ):=rfl
@[simp] theorem Hr(Φ:ay)(ss:List CS)(ρ:au):mE Φ ss (ok (.ct,ρ))=ok (.ct,ρ):=rfl
@[simp] theorem Gq(Φ:ay)(ss:List CS)(c:Nat):mE Φ ss (some (.error c))=some (.error c):=rfl
noncomputable def A7(Φ:ay)(a b:List CS)(ρ:au)(x:O Bool):O (Fo×au):=bd x λk=>if k then aT Φ a ρ else aT Φ b ρ
@[simp] theorem Nu(Φ:ay)(a b:List CS)(ρ:au):A7 Φ a b ρ (ok true)=aT Φ a ρ:=rfl
@[simp] theorem Nv(Φ:ay)(a b:List CS)(ρ:au):A7 Φ a b ρ (ok false)=aT Φ b ρ:=rfl
@[simp] theorem Jm(Φ:ay)(a b:List CS)(ρ:au)(c:Nat):A7 Φ a b ρ (some (.error c))=some (.error c):=rfl
def KP(i:Nat)(r:O (D×au)):O (Fo×au):=bd r λr=>match pP r.2[i]? with
  | some ds=>if ds.length<fm then ok (.nx,r.2.set i (some (.lst .ow (ds++[r.1]))))else none
  | none=>none
@[simp] theorem L1{i:Nat}{d:D}(h:ρ[i]?=some (some (.lst .ow ds)))(hl:ds.length<fm):KP i (ok (d,ρ))=ok (.nx,ρ.set i (some (.lst .ow (ds++[d])))):=by
 show(match pP ρ[i]? with | some ds=>_ | none=>_)=_;rw[h];exact VA hl
section
variable (Φ:ay)(ρ:au)
@[simp] theorem Pn:aT Φ [] ρ=ok (.nx,ρ):=rfl
@[simp] theorem cc(s:CS)(ss:List CS):aT Φ (s::ss) ρ=mE Φ ss (jL Φ s ρ):=rfl
@[simp] theorem kI(i:Nat)(e:CE):jL Φ (.asg (.nm i) e) ρ=Ga i (gd Φ e ρ):=rfl
@[simp] theorem L9(is:List Nat)(e:CE):jL Φ (.asg (.tp is) e) ρ=KN is (gd Φ e ρ):=rfl
@[simp] theorem Pm(e:CE):jL Φ (.ret e) ρ=retS (gd Φ e ρ):=rfl
theorem fc(c:CE)(b:List CS):jL Φ (.zL c b) ρ=da (λρ=>bd (qS Φ c ρ) λk=>if k then bd (aT Φ b ρ) λr=>match r with
   | (.nx,ρ')=>ok (.inl ρ')
   | (.ct,ρ')=>ok (.inl ρ')
   | (.bk,ρ')=>ok (.inr (.nx,ρ'))
   | (.rt d,ρ')=>ok (.inr (.rt d,ρ'))
  else ok (.inr (.nx,ρ))) ρ:=rfl
theorem B5(i j:Nat)(a b:CE):jL Φ (.par i j a b) ρ=bd (aH Φ a ρ) λx=>bd (aH Φ b ρ) λy=>if ak anyF x=false/\ak anyF y=false/\i<ρ.length/\j<ρ.length then ok (.nx,(ρ.set i (some x)).set j (some y))else none:=rfl
@[simp] theorem Rk(c:Nat):jL Φ (.rs c) ρ=some (.error c):=rfl
@[simp] theorem Rl(e:CE):jL Φ (.ex e) ρ=OJ ρ (aH Φ e ρ):=rfl
@[simp] theorem Ha(c:CE)(a b:List CS):jL Φ (.ifs c a b) ρ=A7 Φ a b ρ (o6 (aH Φ c ρ)):=rfl
@[simp] theorem Po(i:Nat)(e:CE):jL Φ (.app i e) ρ=KP i (gd Φ e ρ):=rfl
end
noncomputable def mk(Φ:ay)(ar n:Nat)(b:List CS):List D->O D:=λds=>if ds.length=ar then nK Φ n b ds else none
noncomputable def jV(r:O (Fo×au)):O D:=bd r λr=>match r.1 with
 | .nx=>ok .aL
 | .rt d=>ok d
 | _=>none
@[simp] theorem LQ(ρ:au):jV (ok (.nx,ρ))=ok .aL:=rfl
@[simp] theorem LP(d:D)(ρ:au):jV (ok (.rt d,ρ))=ok d:=rfl
@[simp] theorem Ko(c:Nat):jV (some (.error c))=some (.error c):=rfl
variable {ar:Nat}{Φ:ay}
theorem mk_eq{n:Nat}{b:List CS}(h:ds.length=ar):mk Φ ar n b ds=jV (aT Φ b (ds.map some++List.replicate (n - ds.length) none)):=VA h
theorem aK{n:Nat}{b:List CS}(ds:List D)(r:D)(h:mk Φ ar n b ds=ok r):ds.length=ar/\nK Φ n b ds=ok r:=by
 unfold mk at h;split at h
 ·rename_i hl;exact⟨hl,h⟩
 ·cases h
theorem Int.beq_eq_decide_eq(i j:Int):(i==j)=decide (i=j):=rfl
section
variable (g:Fl->Fl)(p:Fl->Bool)
@[simp] theorem AY(b:Bool):aw g (.bl b)=.bl b:=rfl
@[simp] theorem pY(b:Int):aw g (.int b)=.int b:=rfl
@[simp] theorem IV:aw g .aL=.aL:=rfl
@[simp] theorem IU(ds:List D):aw g (.tup ds)=.tup (ag g ds):=rfl
@[simp] theorem IW(f:Fl)(ds:List D):aw g (.lst f ds)=.lst (g f) (ag g ds):=rfl
@[simp] theorem IY(f:Fl)(ks:List (List Int))(vs:List D):aw g (.aZ f ks vs)=.aZ (g f) ks (ag g vs):=rfl
@[simp] theorem GC:ag g []=[]:=rfl
@[simp] theorem El(d:D)(ds:List D):ag g (d::ds)=aw g d::ag g ds:=rfl
@[simp] theorem GF(a b:List D):ag g (a++b)=ag g a++ag g b:=by simp only[bJ,List.map_append]
@[simp] theorem GD(ds:List D):(ag g ds).length=ds.length:=by rw[bJ,List.length_map]
theorem bC{α:Type}{e:α->D}(h:∀ x,aw g (e x)=e x)(xs:List α):ag g (xs.map e)=xs.map e:=by
 rw[bJ,List.map_map];exact Vl λx _=>h x
theorem bD{α:Type}{e:α->D}(h:∀ x,ak p (e x)=false):∀ xs:List α,aj p (xs.map e)=false
 | []=>by rw[List.map_nil,aj]
 | x::xs=>by rw[List.map_cons,aj,h x,bD h xs];rfl
@[simp] theorem Bh(b:Bool):ak p (.bl b)=false:=WC rfl
@[simp] theorem iF(b:Int):ak p (.int b)=false:=WC rfl
@[simp] theorem J5:ak p .aL=false:=WC rfl
@[simp] theorem J4(ds:List D):ak p (.tup ds)=aj p ds:=WC rfl
@[simp] theorem yy(f:Fl)(ds:List D):ak p (.lst f ds)=(p f||aj p ds):=WC rfl
@[simp] theorem J6(f:Fl)(ks:List (List Int))(vs:List D):ak p (.aZ f ks vs)=(p f||aj p vs):=WC rfl
@[simp] theorem GU:aj p []=false:=WC rfl
@[simp] theorem r_(d:D)(ds:List D):aj p (d::ds)=(ak p d||aj p ds):=WC rfl
@[simp] theorem vU:∀ a b:List D,aj p (a++b)=(aj p a||aj p b)
 | [],b=>by simp
 | d::a,b=>by simp[vU a b,Bool.or_assoc]
@[simp] theorem dg(ns:List Int):ag g (ns.map D.int)=ns.map D.int:=bC g (pY g) ns
@[simp] theorem r9(ns:List Int):aj p (ns.map D.int)=false:=bD p (iF p) ns
@[simp] theorem vw(ns:List Bool):ag g (ns.map D.bl)=ns.map D.bl:=bC g (AY g) ns
@[simp] theorem vT(ns:List Bool):aj p (ns.map D.bl)=false:=bD p (Bh p) ns
@[simp] theorem GI(t:Ty)(d:D):eN t (aw g d)=eN t d:=by cases d<;>cases t<;>rfl
end
@[simp] theorem FE:bu .ow=.al:=rfl
@[simp] theorem FF:bu .fz=.fz:=rfl
@[simp] theorem FG:bu .al=.al:=rfl
@[simp] theorem FD:bu .sc=.sc:=rfl
@[simp] theorem Fz:aC .ow=.fz:=rfl
@[simp] theorem FA:aC .fz=.fz:=rfl
@[simp] theorem FC:aC .al=.fz:=rfl
@[simp] theorem Fy:aC .sc=.sc:=rfl
@[simp] theorem FV:jT .ow=.ow:=rfl
@[simp] theorem FW:jT .fz=.al:=rfl
@[simp] theorem FX:jT .al=.al:=rfl
@[simp] theorem FU:jT .sc=.sc:=rfl
@[simp] theorem FQ:aQ .ow=false:=rfl
@[simp] theorem FR:aQ .fz=false:=rfl
@[simp] theorem FT:aQ .al=true:=rfl
@[simp] theorem FP:aQ .sc=false:=rfl
@[simp] theorem FL:bo .ow=true:=rfl
@[simp] theorem FN:bo .fz=false:=rfl
@[simp] theorem FO:bo .al=false:=rfl
@[simp] theorem FK:bo .sc=false:=rfl
@[simp] theorem FH:A8 .ow=false:=rfl
@[simp] theorem FI:A8 .fz=false:=rfl
@[simp] theorem FJ:A8 .al=false:=rfl
noncomputable def aa(ns:List Int):List D:=ns.map D.int
noncomputable def sO(ns:List Bool):List D:=ns.map D.bl
@[simp] theorem GO(ns:List Int):(aa ns).length=ns.length:=V7 ..
@[simp] theorem KH(ns:List Bool):(sO ns).length=ns.length:=V7 ..
@[simp] theorem GN:aa []=[]:=rfl
@[simp] theorem lu(n:Int)(ns:List Int):aa (n::ns)=.int n::aa ns:=rfl
@[simp] theorem EN(ns:List Int)(n:Int):aa ns++[.int n]=aa (ns++[n]):=by simp[aa]
@[simp] theorem jf(ns:List Int)(i:Nat):(aa ns)[i]?=ns[i]?.map D.int:=List.getElem?_map ..
@[simp] theorem bI(g:Fl->Fl)(ns:List Int):ag g (aa ns)=aa ns:=dg g ns
@[simp] theorem qg(p:Fl->Bool)(ns:List Int):aj p (aa ns)=false:=r9 p ns
@[simp] theorem Em(g:Fl->Fl)(ns:List Bool):ag g (sO ns)=sO ns:=vw g ns
@[simp] theorem Fg(p:Fl->Bool)(ns:List Bool):aj p (sO ns)=false:=vT p ns
@[simp] theorem CQ(i j:Int):br .add (.int i) (.int j)=ok (.int (i+j)):=rfl
@[simp] theorem Q9(i j:Int):br .sub (.int i) (.int j)=ok (.int (i - j)):=rfl
theorem gy{i j:Int}(h:cR i j=true):br .mul (.int i) (.int j)=ok (.int (i*j)):=VA h
theorem gK{i j:Int}(h:nc j=true):br .fdiv (.int i) (.int j)=ok (.int (i.fdiv j)):=VA h
@[simp] theorem uQ{i j:Int}(h:j≠0):br .mod (.int i) (.int j)=ok (.int (i.fmod j)):=VA h
theorem CP{i j:Int}(h:tL i j=true):br .pow (.int i) (.int j)=ok (.int (i ^ j.toNat)):=VA h
@[simp] theorem PQ(i:Int):AV (.int i)=ok (.int (-i)):=rfl
theorem mulOk_of{i j:Int}(h:i.natAbs<2 ^ 9000)(h':j.natAbs<2 ^ 9000):cR i j=true:=by
 simp only[cR,big,h,h',decide_true,Bool.and_self,Bool.or_true]
theorem eL{n:Nat}(h:n<2 ^ 64):n<2 ^ 9000:=Vf h (Vh (by decide) (by decide))
theorem nY{i:Int}(j:Int)(h:i.natAbs<2 ^ 64):cR i j=true:=by simp only[cR,h,decide_true,Bool.true_or]
theorem tW{j:Int}(i:Int)(h:j.natAbs<2 ^ 64):cR i j=true:=by simp only[cR,h,decide_true,Bool.true_or,Bool.or_true]
theorem dm{j:Int}(h0:j≠0)(h:j.natAbs<2 ^ 9000):nc j=true:=by
 simp only[nc,big,h,decide_true,Bool.and_true,decide_eq_true_eq];exact h0
@[simp] theorem uP{i j:Int}(h:j.natAbs<2 ^ 64):br .mul (.int i) (.int j)=ok (.int (i*j)):=gy (tW i h)
@[simp] theorem LX{i j:Int}(h:i.natAbs<2 ^ 64):br .mul (.int i) (.int j)=ok (.int (i*j)):=gy (nY j h)
@[simp] theorem KJ{i j:Int}(h0:j≠0)(h:j.natAbs<2 ^ 64):br .fdiv (.int i) (.int j)=ok (.int (i.fdiv j)):=gK (dm h0 (eL h))
theorem BI{a b:D}(ha:ck 40 a=true)(hb:ck 40 b=true):cJ .eq a b=ok (.bl (jh a b)):=by
 show(if ck 40 a&&ck 40 b then _ else _)=_;rw[ha,hb];rfl
theorem BH{a b:D}(ha:ck 40 a=true)(hb:ck 40 b=true):cJ .ne a b=ok (.bl (!jh a b)):=by
 show(if ck 40 a&&ck 40 b then _ else _)=_;rw[ha,hb];rfl
@[simp] theorem eJ(n:Nat)(i:Int):ck n (.int i)=true:=by cases n<;>rfl
@[simp] theorem M9(n:Nat)(i:Bool):ck n (.bl i)=true:=by cases n<;>rfl
@[simp] theorem Lg(n:Nat):ck n .aL=true:=by cases n<;>rfl
@[simp] theorem nS(n:Nat)(ds:List D):ck (n+1) (.tup ds)=ds.all (ck n):=rfl
@[simp] theorem tU(n:Nat)(f:Fl)(ds:List D):ck (n+1) (.lst f ds)=ds.all (ck n):=rfl
@[simp] theorem MT(i j:Int):cJ .eq (.int i) (.int j)=ok (.bl (decide (i=j))):=by rw[BI (eJ _ _) (eJ _ _)];show ok (D.bl (i==j))=_;rw[Int.beq_eq_decide_eq]
@[simp] theorem MS(i j:Int):cJ .ne (.int i) (.int j)=ok (.bl (!decide (i=j))):=by rw[BH (eJ _ _) (eJ _ _)];show ok (D.bl (!(i==j)))=_;rw[Int.beq_eq_decide_eq]
@[simp] theorem RW(i j:Int):cJ .lt (.int i) (.int j)=ok (.bl (decide (i<j))):=rfl
@[simp] theorem RX(i j:Int):cJ .le (.int i) (.int j)=ok (.bl (decide (i<=j))):=rfl
@[simp] theorem RY(i j:Int):cJ .gt (.int i) (.int j)=ok (.bl (decide (j<i))):=rfl
@[simp] theorem RZ(i j:Int):cJ .ge (.int i) (.int j)=ok (.bl (decide (j<=i))):=rfl
@[simp] theorem Qf(ds:List D)(i:Int):EC (.tup ds) (.int i)=kB ds i:=rfl
@[simp] theorem Qg(f:Fl)(ds:List D)(i:Int):EC (.lst f ds) (.int i)=kB ds i:=rfl
theorem gL{n:Nat}{d:D}(h:ds[n]?=some d):kB ds (n:Int)=ok (aw bu d):=by
 have hn:n<ds.length:=(List.getElem?_eq_some_iff.mp h).1;have e:oU ds.length (n:Int)=some n:=by unfold oU;rw[if_pos (by left),if_pos (by left)];rfl
 unfold kB;rw[e,Option.bind_some,h]
theorem at_of{i:Int}{d:D}(h0:0<=i)(h:ds[i.toNat]?=some d):kB ds i=ok (aw bu d):=by
 have:=gL h
 rwa [show((i.toNat:Nat):Int)=i by left]at this
@[simp] theorem O4(d:D)(ds:List D):kB (d::ds) 0=ok (aw bu d):=gL (n:=0) rfl
@[simp] theorem Ut(a d:D)(ds:List D):kB (a::d::ds) 1=ok (aw bu d):=gL (n:=1) rfl
@[simp] theorem Us(a b d:D)(ds:List D):kB (a::b::d::ds) 2=ok (aw bu d):=gL (n:=2) rfl
@[simp] theorem LL(ds:List D):sP .len [.tup ds]=ok (.int ds.length):=rfl
@[simp] theorem LM(f:Fl)(ds:List D):sP .len [.lst f ds]=ok (.int ds.length):=rfl
@[simp] theorem QL(i:Int):sP .abs [.int i]=ok (.int i.natAbs):=by
 show ok (D.int (if i<0 then -i else i))=_;congr 2;split<;>left
@[simp] theorem Kl(f:Fl)(ds:List D):sP .list1 [.lst f ds]=ok (.lst .ow (ag bu ds)):=rfl
@[simp] theorem Kk(ds:List D):sP .list1 [.tup ds]=ok (.lst .ow (ag bu ds)):=rfl
@[simp] theorem LK(f:Fl)(ds:List D):sP .tuple1 [.lst f ds]=ok (.tup (ag bu ds)):=rfl
@[simp] theorem LJ(ds:List D):sP .tuple1 [.tup ds]=ok (.tup (ag bu ds)):=rfl
@[simp] theorem QJ(f:Fl)(ns:List Int):sP .pf [.lst f (aa ns)]=ok (.int ns.sum):=by
 show(match intsOf (ns.map D.int)with | some ns=>_ | none=>_)=_;rw[aR]
@[simp] theorem QK(f:Fl)(bs:List Bool):sP .all1 [.lst f (sO bs)]=ok (.bl (bs.all id)):=by
 show(match gx (bs.map D.bl)with | some ns=>_ | none=>_)=_;rw[ni]
@[simp] theorem OF{ns:List Int}(h:ns.length<4000):IZ (.tup (aa ns))=ok (.int (qu ns).length):=by
 show(match intsOf (ns.map D.int)with | some ns=>_ | none=>_)=_;rw[aR];exact VA h
@[simp] theorem uD(i j:Int):jh (.int i) (.int j)=decide (i=j):=by show(i==j)=_;rw[Int.beq_eq_decide_eq]
@[simp] theorem ON(i j:Bool):jh (.bl i) (.bl j)=(i==j):=rfl
@[simp] theorem uB(a b:List D):jh (.tup a) (.tup b)=cI a b:=rfl
@[simp] theorem Bp(f g:Fl)(a b:List D):jh (.lst f a) (.lst g b)=cI a b:=rfl
@[simp] theorem yQ:cI [] []=true:=rfl
@[simp] theorem eC(a b:D)(as bs:List D):cI (a::as) (b::bs)=(jh a b&&cI as bs):=rfl
theorem lM:∀ {as bs:List D},cI as bs=true->as.length=bs.length
 | [],[],_=>rfl
 | [],_::_,h=>(U8 h).elim
 | _::_,[],h=>(U8 h).elim
 | a::as,b::bs,h=>by
  replace h:(_&&_)=true:=h;rw[Bool.and_eq_true]at h;rw[List.length_cons,List.length_cons,lM h.2]
theorem iI{α:Type}{e:α->D}[DecidableEq α](h:∀ x y,jh (e x) (e y)=decide (x=y)):∀ xs ys:List α,cI (xs.map e) (ys.map e)=decide (xs=ys)
 | [],[]=>by simp
 | [],y::ys=>by
  cases z:cI ([].map e) ((y::ys).map e)with
  | true=>have:=lM z;simp at this
  | false=>simp
 | x::xs,[]=>by
  cases z:cI ((x::xs).map e) ([].map e)with
  | true=>have:=lM z;simp at this
  | false=>simp
 | x::xs,y::ys=>by
  rw[List.map_cons,List.map_cons,eC,h,iI h xs ys];by_cases e1:x=y<;>by_cases e2:xs=ys<;>simp[e1,e2]
theorem j7{α:Type}{e:α->D}{n:Nat}(h:∀ x,ck n (e x)=true)(xs:List α):(xs.map e).all (ck n)=true:=by
 rw[List.all_map];exact List.all_eq_true.mpr λx _=>h x
theorem fO{bind:D->O au}{test:au->O Bool}{el:au->O D}{α:Type}{e:α->D}{g:α->D}:∀ {xs:List α},(∀ x∈xs,∃ ρ,bind (e x)=ok ρ/\test ρ=ok true/\el ρ=ok (g x))->fP bind test el (xs.map e)=ok (xs.map g)
 | [],_=>rfl
 | x::xs,h=>by
  obtain⟨ρ,h1,h2,h3⟩:=h x (Vb ..);have ih:=fO (xs:=xs) λy hy=>h y (Va _ hy);rw[List.map_cons,fP,h1,b8,h2,b8,if_pos rfl,h3,b8,ih];rfl
theorem cb{bind:D->O au}{test:au->O Bool}{el:au->O D}{α:Type}{e:α->D}{g:α->D}{t:α->Bool}:∀ {xs:List α},(∀ x∈xs,∃ ρ,bind (e x)=ok ρ/\test ρ=ok (t x)/\(t x=true->el ρ=ok (g x)))->fP bind test el (xs.map e)=ok ((xs.filter t).map g)
 | [],_=>rfl
 | x::xs,h=>by
  obtain⟨ρ,h1,h2,h3⟩:=h x (Vb ..);have ih:=cb (xs:=xs) λy hy=>h y (Va _ hy);rw[List.map_cons,fP,h1,b8,h2,b8,List.filter_cons];cases ht:t x with
  | true=>rw[if_pos rfl,h3 ht,b8,ih,if_pos rfl];rfl
  | false=>rw[if_neg Bool.false_ne_true,ih,if_neg Bool.false_ne_true]
section
variable {Φ:ay}{n:Nat}{t:Tg}{caps:List Nat}{ik:IK}{es aJ:List CE}{elt:CE}{ρ:au}{xs items ds:List D}
theorem eQ(h1:bM Φ es ρ=ok xs)(h2:cH Φ ik xs=ok items)
  (h3:fP (λd=>bw t d (ba n caps ρ)) (λρ'=>fj Φ aJ ρ') (λρ'=>aH Φ elt ρ') items=ok ds) (hl:ds.length<=fm):aH Φ (.comp n t caps ik es aJ elt) ρ=ok (.lst .ow (ag jT ds)):=by
 show bd (bM Φ es ρ) _=_;rw[h1,b8,h2,b8,h3,b8,if_pos hl]
end
theorem iD(Φ:ay)(f:Fl)(ds:List D):cH Φ .seq [.lst f ds]=ok (ag aC ds):=rfl
theorem t_(Φ:ay){n:Int}(h0:0<=n)(h:n<=1000000):cH Φ .k8 [.int n]=ok ((List.range n.toNat).map λ(k:Nat)=>D.int (k:Int)):=by
 show(if n<=(fm:Int) /\ -(fm:Int)<=n then _ else _)=_;have:(fm:Int)=1000000:=rfl;rw[if_pos (by left)]
theorem cW{n:Nat}(h:n<=1000000):n<=fm:=h
theorem kH{t:Tg}{it:CI}{b:List CS}{items:List D}{r:O (Fo×au)}(h:fI Φ it ρ=ok (items,ρ1))(h':eA (λd ρ=>bw t d ρ) (λρ=>aT Φ b ρ) items ρ1=r):jL Φ (.fr t it b) ρ=r:=by
 show bd (fI Φ it ρ) _=_;rw[h];exact h'
theorem gE{bind:D->au->O au}{body:au->O (Fo×au)}{x:D}{xs:List D}{ρ2:au}{r:O (Fo×au)}(h1:bind x ρ=ok ρ1)(h2:body ρ1=ok (.nx,ρ2))(h3:eA bind body xs ρ2=r):eA bind body (x::xs) ρ=r:=by
 rw[eA,h1,b8,h2];exact h3
theorem Jn{a:CE}{n:Int}(h:aH Φ a ρ=ok (.int n))(h0:0<=n)(h1:n<=1000000):fI Φ (.k8 a) ρ=ok ((List.range n.toNat).map λ(k:Nat)=>D.int (k:Int),ρ):=by
 show bd (aH Φ a ρ) _=_;rw[h];show(if n<=(fm:Int) /\ -(fm:Int)<=n then _ else _)=_;have:(fm:Int)=1000000:=rfl;rw[if_pos (by left)]
theorem Jo{a:CE}{f:Fl}(h:aH Φ a ρ=ok (.lst f ds)):fI Φ (.seq a) ρ=ok (ag aC ds,if (aQ f||aj aQ ds)then oi (fw a) 0 ρ else ρ):=by
 show bd (aH Φ a ρ) _=_;rw[h,<- yI];show ok (_,if ak aQ (.lst f ds)then _ else _)=_;rw[yy]
noncomputable def dk(t b:Int):Int:=if b<0 then -(Int.gcd t b:Int)else(Int.gcd t b:Int)
def Ef(t b:Int):Int:=t.fdiv (dk t b)
def Eg(t b:Int):Int:=b.fdiv (dk t b)
theorem uu{t b:Int}(h:b≠0):0<Int.gcd t b:=Int.gcd_pos_of_ne_zero_right t h
theorem gG{t b:Int}(h:b≠0):dk t b≠0:=by
 have:=uu (t:=t) h;unfold dk;split<;>left
theorem Ft{t b:Int}(h:b≠0):Int.gcd t b<=b.natAbs:=V2 (by left) (Nat.gcd_dvd_right _ _)
theorem Br{t b:Int}(h:b≠0):(dk t b).natAbs<=b.natAbs:=by
 have:=Ft (t:=t) h;unfold dk;split<;>left
theorem lb{t b:Int}(h:b≠0):∃ t' b':Int,t=dk t b*t'/\b=dk t b*b'/\Ef t b=t'/\Eg t b=b'/\1<=b'/\Int.gcd t' b'=1:=by
 have hg:=uu (t:=t) h;obtain⟨t1,ht⟩:(Int.gcd t b:Int)∣t:=Int.gcd_dvd_left ..;obtain⟨b1,hb⟩:(Int.gcd t b:Int)∣b:=Int.gcd_dvd_right ..;have hc:Int.gcd t1 b1=1:=by
  have e:Int.gcd ((Int.gcd t b:Int)*t1) ((Int.gcd t b:Int)*b1)=Int.gcd t b*Int.gcd t1 b1:=by
   rw[Int.gcd_mul_left];simp
  rw[<- ht,<- hb]at e;have:Int.gcd t b*1=Int.gcd t b*Int.gcd t1 b1:=by rw[Nat.mul_one];exact e
  exact(Nat.eq_of_mul_eq_mul_left hg this).symm
 by_cases hn:b<0
 ·have ed:dk t b = -(Int.gcd t b:Int):=by simp[dk,hn]
  have e1:t=dk t b*(-t1):=by rw[ed,Int.neg_mul_neg];exact ht
  have e2:b=dk t b*(-b1):=by rw[ed,Int.neg_mul_neg];exact hb
  refine⟨-t1,-b1,e1,e2,?_,?_,?_,by rw[Int.gcd_neg,Int.neg_gcd];exact hc⟩
  ·unfold Ef
   conv=>lhs;arg 1;rw[e1]
   exact VR _ (gG h)
  ·unfold Eg
   conv=>lhs;arg 1;rw[e2]
   exact VR _ (gG h)
  ·have:b1<0:=by
    by_cases Oe:b1<0
    ·exact Oe
    ·have:0<=(Int.gcd t b:Int)*b1:=WS (by left) (by left);left
   left
 ·have ed:dk t b=(Int.gcd t b:Int):=by simp[dk,hn]
  have e1:t=dk t b*t1:=by rw[ed];exact ht
  have e2:b=dk t b*b1:=by rw[ed];exact hb
  refine⟨t1,b1,e1,e2,?_,?_,?_,hc⟩
  ·unfold Ef
   conv=>lhs;arg 1;rw[e1]
   exact VR _ (gG h)
  ·unfold Eg
   conv=>lhs;arg 1;rw[e2]
   exact VR _ (gG h)
  ·have:0<b1:=by
    by_cases Oe:0<b1
    ·exact Oe
    ·have:(Int.gcd t b:Int)*b1<=0:=Int.mul_nonpos_of_nonneg_of_nonpos (by left) (by left);left
   left
noncomputable def qD(q:Rat):D:=.tup [.int q.num,.int q.den]
@[simp] theorem rM(g:Fl->Fl)(q:Rat):aw g (qD q)=qD q:=by unfold qD;simp
@[simp] theorem lF(g:Fl->Bool)(q:Rat):ak g (qD q)=false:=by unfold qD;simp
noncomputable def aN(qs:List Rat):List D:=qs.map qD
@[simp] theorem K7(qs:List Rat):(aN qs).length=qs.length:=V7 ..
@[simp] theorem K6:aN []=[]:=rfl
@[simp] theorem H9(q:Rat)(qs:List Rat):aN (q::qs)=qD q::aN qs:=rfl
@[simp] theorem HZ(qs:List Rat)(q:Rat):aN qs++[qD q]=aN (qs++[q]):=by simp[aN]
@[simp] theorem Ay(qs:List Rat)(i:Nat):(aN qs)[i]?=qs[i]?.map qD:=List.getElem?_map ..
@[simp] theorem Ax(qs:List Rat)(i:Nat)(q:Rat):(aN qs).set i (qD q)=aN (qs.set i q):=by unfold aN;rw[List.map_set]
@[simp] theorem IT(g:Fl->Fl)(qs:List Rat):ag g (aN qs)=aN qs:=bC g (rM g) qs
@[simp] theorem J3(g:Fl->Bool)(qs:List Rat):aj g (aN qs)=false:=bD g (lF g) qs
theorem mS(n:Nat)(q:Rat):ck (n+1) (qD q)=true:=by
 unfold qD;rw[nS,List.all_cons,List.all_cons,eJ,eJ];rfl
theorem uC(p q:Rat):jh (qD p) (qD q)=decide (p=q):=by
 unfold qD;rw[uB,eC,eC,yQ,uD,uD,Bool.and_true];by_cases h:p=q
 ·subst h;simp
 ·rw[decide_eq_false h];cases e1:decide (p.num=q.num)with
  | false=>rfl
  | true =>
   cases e2:decide ((p.den:Int)=(q.den:Int))with
   | false=>rfl
   | true =>
    refine absurd (Rat.ext (by simpa using e1) ?_) h;have:(p.den:Int)=q.den:=by simpa using e2
    left
@[simp] theorem Qb(q:Rat):EC (qD q) (.int 0)=ok (.int q.num):=by unfold qD;simp
@[simp] theorem Qa(q:Rat):EC (qD q) (.int 1)=ok (.int q.den):=by unfold qD;simp
theorem om{t b:Int}(hb:b≠0):t.fdiv (dk t b)=(Rat.divInt t b).num/\b.fdiv (dk t b)=((Rat.divInt t b).den:Int):=by
 obtain⟨t',b',e1,e2,h1,h2,h3,h4⟩:=lb (t:=t) hb;have hd:=gG (t:=t) hb;have e:Rat.divInt t b=Rat.divInt t' b':=by
  generalize dk t b=d at *;rw[e1,e2];exact Rat.divInt_mul_left hd
 obtain⟨n,rfl⟩:∃ n:Nat,b'=(n:Int):=⟨b'.toNat,by left⟩
 have hc:t'.natAbs.Coprime n:=by
  have:Nat.gcd t'.natAbs n=1:=by simpa [Int.gcd]using h4
  exact this
 have hn:n≠0:=by left
 have e3:Rat.divInt t' (n:Int)=⟨t',n,hn,hc⟩:=Rat.mk_eq_divInt.symm;rw[e,e3];exact⟨h1,h2⟩
theorem gA(q:Rat):(q.den:Int)≠0:=by have:=q.den_pos;left
theorem H_(q:Rat):(1:Int)<=q.den:=by have:=q.den_pos;left
theorem eI(q:Rat):Rat.divInt q.num q.den=q:=Rat.num_divInt_den q
theorem j6{t b:Int}(hb:b≠0):(Rat.divInt t b).num.natAbs<=t.natAbs/\(Rat.divInt t b).den<=b.natAbs:=by
 obtain⟨t',b',e1,e2,h1,h2,h3,h4⟩:=lb (t:=t) hb;obtain⟨g1,g2⟩:=om (t:=t) hb;have hd:1<=(dk t b).natAbs:=by have:=gG (t:=t) hb;left
 rw[show t.fdiv (dk t b)=t' from h1]at g1;rw[show b.fdiv (dk t b)=b' from h2]at g2;refine⟨?_,?_⟩
 ·rw[<- g1];have:t.natAbs=(dk t b).natAbs*t'.natAbs:=by rw[<- Int.natAbs_mul,<- e1]
  rw[this];exact Nat.le_mul_of_pos_left _ hd
 ·have hz:(Rat.divInt t b).den=b'.natAbs:=by left
  rw[hz];have:b.natAbs=(dk t b).natAbs*b'.natAbs:=by rw[<- Int.natAbs_mul,<- e2]
  rw[this];exact Nat.le_mul_of_pos_left _ hd
theorem Cm(p q:Rat):p+q=Rat.divInt (p.num*q.den+q.num*p.den) (p.den*q.den):=by
 conv=>lhs;rw[<- eI p,<- eI q]
 exact Rat.divInt_add_divInt _ _ (gA p) (gA q)
theorem Cj(p q:Rat):p - q=Rat.divInt (p.num*q.den - q.num*p.den) (p.den*q.den):=by
 conv=>lhs;rw[<- eI p,<- eI q]
 exact Rat.divInt_sub_divInt _ _ (gA p) (gA q)
theorem Ck(p q:Rat):p*q=Rat.divInt (p.num*q.num) (p.den*q.den):=by
 conv=>lhs;rw[<- eI p,<- eI q]
 exact Rat.divInt_mul_divInt _ _
noncomputable def Sm(k:Nat)(q:Rat):Prop:=q.num.natAbs<2 ^ k/\q.den<2 ^ k
theorem Sm.mono{k l:Nat}{q:Rat}(h:Sm k q)(hl:k<=l):Sm l q :=
 ⟨Vf h.1 (Vh (by decide) hl),Vf h.2 (Vh (by decide) hl)⟩
theorem aO{a b k l:Nat}(h:a<2 ^ k)(h':b<2 ^ l):a*b<2 ^ (k+l):=by
 rw[Nat.pow_add];exact Nat.mul_lt_mul'' h h'
theorem BU(a b:Int):(a+b).natAbs<=a.natAbs+b.natAbs:=by left
theorem BS(a b:Int):(a - b).natAbs<=a.natAbs+b.natAbs:=by left
section
variable {k l:Nat}{p q:Rat}
theorem Sm.den(h:Sm k p)(h':Sm l q):((p.den:Int)*q.den).natAbs<2 ^ (k+l):=by
 rw[Int.natAbs_mul];exact aO (by simpa using h.2) (by simpa using h'.2)
theorem Sm.add(h:Sm k p)(h':Sm l q):Sm (k+l+1) (p+q):=by
 have hb:(p.den:Int)*q.den≠0:=Wu (gA p) (gA q);obtain⟨g1,g2⟩:=j6 (t:=p.num*q.den+q.num*p.den) hb;rw[<- Cm]at g1 g2;have n1:(p.num*q.den).natAbs<2 ^ (k+l):=by rw[Int.natAbs_mul];exact aO h.1 (by simpa using h'.2)
 have n2:(q.num*p.den).natAbs<2 ^ (k+l):=by rw[Int.natAbs_mul,Nat.add_comm];exact aO h'.1 (by simpa using h.2)
 have:=BU (p.num*q.den) (q.num*p.den);have e:2 ^ (k+l+1)=2 ^ (k+l)*2:=Nat.pow_succ ..;have d:=h.den h';exact⟨by left,by left⟩
theorem Sm.sub(h:Sm k p)(h':Sm l q):Sm (k+l+1) (p - q):=by
 have hb:(p.den:Int)*q.den≠0:=Wu (gA p) (gA q);obtain⟨g1,g2⟩:=j6 (t:=p.num*q.den - q.num*p.den) hb;rw[<- Cj]at g1 g2;have n1:(p.num*q.den).natAbs<2 ^ (k+l):=by rw[Int.natAbs_mul];exact aO h.1 (by simpa using h'.2)
 have n2:(q.num*p.den).natAbs<2 ^ (k+l):=by rw[Int.natAbs_mul,Nat.add_comm];exact aO h'.1 (by simpa using h.2)
 have:=BS (p.num*q.den) (q.num*p.den);have e:2 ^ (k+l+1)=2 ^ (k+l)*2:=Nat.pow_succ ..;have d:=h.den h';exact⟨by left,by left⟩
theorem Sm.mul(h:Sm k p)(h':Sm l q):Sm (k+l) (p*q):=by
 have hb:(p.den:Int)*q.den≠0:=Wu (gA p) (gA q);obtain⟨g1,g2⟩:=j6 (t:=p.num*q.num) hb;rw[<- Ck]at g1 g2;have n1:(p.num*q.num).natAbs<2 ^ (k+l):=by rw[Int.natAbs_mul];exact aO h.1 h'.1
 have d:=h.den h';exact⟨by left,by left⟩
theorem xq(h:q≠0):q.num≠0:=λz=>h (by rw[<- eI q,z];simp)
theorem Sm.big(h:Sm k p)(hk:k<=9000):p.num.natAbs<2 ^ 9000/\(p.den:Int).natAbs<2 ^ 9000:=by
 have:=h.mono hk;exact⟨this.1,by simpa using this.2⟩
end
theorem mH{t b:Int}{k:Nat}(hb:b≠0)(h1:t.natAbs<2 ^ k)(h2:b.natAbs<2 ^ k):Sm k (Rat.divInt t b):=by
 obtain⟨g1,g2⟩:=j6 (t:=t) hb;exact⟨by left,by left⟩
def cF(d:D):Bool:=eN .int d&&!eN .bool d
def eU(m:List D->O D):Prop:=∀ d,m [d]=ok (.bl (cF d))
noncomputable def eT:List CS:=[.ret (.and [(.ud (.v 0) .int),(.not (.ud (.v 0) .bool))])]
theorem eH(Φ:ay):eU (mk Φ 1 1 eT):=by
 intro d;simp[mk_eq,eT,cF]
theorem lJ(a:Int){b:Int}(h:b≠0):(a.fmod b).natAbs<b.natAbs:=by
 rcases Int.lt_or_gt_of_ne h with hb | hb
 ·have e:=Int.neg_fmod_neg a b;have h1:=Wh (-a) (show 0 < -b by left);have h2:=WH (-a) (show 0 < -b by left);left
 ·have h1:=Wh a hb;have h2:=WH a hb;left
theorem yF(a b:Int):Int.gcd b (a.fmod b)=Int.gcd a b:=by
 rw[Int.fmod_def,Int.gcd_sub_mul_left_right,Int.gcd_comm]
noncomputable def aA(m:List D->O D):Prop:=∀ a b:Int,m [.int a,.int b]=ok (.int (Int.gcd a b))
noncomputable def wM:CS:=.zL (.cmp .ne (.v 1) (.int 0)) [.asg (.nm 2) (.bin .mod (.v 0) (.v 1)),.asg (.nm 0) (.v 1),.asg (.nm 1) (.v 2)]
def bP:List CS:=[wM,.ret (.bf .abs [(.v 0)])]
theorem BE(Φ:ay):∀(n:Nat) (a b:Int) (r:Option D),b.natAbs<=n->∃(g:Int) (r':Option D),jL Φ wM [some (.int a),some (.int b),r]=ok (.nx,[some (.int g),some (.int 0),r'])/\g.natAbs=Int.gcd a b:=by
 intro n;induction n with
 | zero =>
  intro a b r h;have hb:b=0:=by left
  subst hb;refine⟨a,r,?_,by simp⟩;rw[wM,fc];exact bH (by simp)
 | succ n ih =>
  intro a b r h;by_cases hb:b=0
  ·subst hb;refine⟨a,r,?_,by simp⟩;rw[wM,fc];exact bH (by simp)
  ·have fi:=lJ a hb;obtain⟨g,r',e,hg⟩:=ih b (a.fmod b) (some (.int (a.fmod b))) (by left);refine⟨g,r',?_,by rw[hg,yF]⟩;rw[wM,fc]at e ⊢;rw[<- e];exact eF (by simp[hb])
theorem bO(Φ:ay):aA (mk Φ 2 3 bP):=by
 intro a b;obtain⟨g,r',e,hg⟩:=BE Φ b.natAbs a b none (Vc _);have e1:(g.natAbs:Int)=(Int.gcd a b:Int):=by left
 simp[mk_eq,bP,e,e1]
noncomputable def eV(m:List D->O D):Prop:=∀ t b:Int,b≠0->b.natAbs<2 ^ 9000->m [.int t,.int b]=ok (qD (Rat.divInt t b))
def cC(m:List D->O D):Prop:=eV m/\∀ t:Int,m [.int t,.int 0]=some (.error 0)
noncomputable def bE:List CS:=[.ifs (.cmp .eq (.v 1) (.int 0)) [.rs 0] [],.asg (.nm 2) (.call 1 [(.v 0),(.v 1)]),.ifs (.cmp .lt (.v 1) (.int 0)) [.asg (.nm 2) (.neg (.v 2))] [],.ret (.tup [(.bin .fdiv (.v 0) (.v 2)),(.bin .fdiv (.v 1) (.v 2))])]
theorem kc{t b:Int}(hb:b≠0)(h:b.natAbs<2 ^ 9000)(x:Int):br .fdiv (.int x) (.int (dk t b))=ok (.int (x.fdiv (dk t b))) :=
 gK (dm (gG hb) (Vo (Br hb) h))
theorem cB(Φ:ay)(h1:aA (Φ 1)):cC (mk Φ 2 3 bE):=by
 refine⟨λt b hb h=>?_,λt=>by simp[mk_eq,bE]⟩;obtain⟨e1,e2⟩:=om (t:=t) hb;unfold aA at h1;have d1:=kc (t:=t) hb h t;have d2:=kc (t:=t) hb h b;rw[qD,<- e1,<- e2];by_cases hn:b<0
 ·have ed:-(Int.gcd t b:Int)=dk t b:=by simp[dk,hn]
  simp[mk_eq,bE,hb,h1,hn,ed,d1,d2]
 ·have ed:(Int.gcd t b:Int)=dk t b:=by simp[dk,hn]
  simp[mk_eq,bE,hb,h1,hn,ed,d1,d2]
noncomputable def jK:D->Bool
 | .tup [.int a,.int b]=>decide (1<=b)&&decide (Int.gcd a b=1)
 | _=>false
theorem Bk(q:Rat):jK (qD q)=true:=by
 have h1:=H_ q;have h2:Int.gcd q.num q.den=1:=by
  have:=q.reduced;simpa [Int.gcd]using this
 simp[qD,jK,h1,h2]
def dQ(m:List D->O D):Prop:=∀ d,m [d]=ok (.bl (jK d))
noncomputable def aP:List CS:=[.ifs (.or [(.not (.ud (.v 0) .tuple)),(.cmp .ne (.bf .len [(.v 0)]) (.int 2))]) [.ret (.bl false)] [],.ifs (.or [(.not (.call 0 [(.ix (.v 0) (.int 0))])),(.not (.call 0 [(.ix (.v 0) (.int 1))]))]) [.ret (.bl false)] [],.ret (.and [(.cmp .ge (.ix (.v 0) (.int 1)) (.int 1)),(.cmp .eq (.call 1 [(.ix (.v 0) (.int 0)),(.ix (.v 0) (.int 1))]) (.int 1))])]
theorem jA(g:Fl->Fl)(d:D):cF (aw g d)=cF d:=by simp[cF]
theorem kJ{d:D}(h:cF d=true):∃ i,d=.int i:=by
 cases d<;>simp[cF,eN]at h ⊢
theorem m7{x y:D}(h:cF x=false\/cF y=false):jK (.tup [x,y])=false:=by
 cases x<;>cases y<;>simp[cF,eN]at h<;>rfl
theorem vW(h:ds.length≠2):jK (.tup ds)=false:=by
 unfold jK;split
 ·rename_i e;cases e;simp at h
 ·rfl
theorem cA(Φ:ay)(h0:eU (Φ 0))(h1:aA (Φ 1)):dQ (mk Φ 1 1 aP):=by
 intro d;unfold eU at h0;unfold aA at h1;cases d with
 | tup ds =>
  by_cases hl:ds.length=2
  ·match ds,hl with
   | [x,y],_ =>
    by_cases hx:cF x=true
    ·by_cases hy:cF y=true
     ·obtain⟨a,rfl⟩:=kJ hx;obtain⟨b,rfl⟩:=kJ hy;simp[mk_eq,aP,h0,h1,hx,hy,eN,jK];by_cases hg:a.gcd b=1
      ·simp[hg]
      ·simp[hg];left
     ·simp[mk_eq,aP,h0,hx,hy,eN,jA,m7 (.inr (by simpa using hy))]
    ·simp[mk_eq,aP,h0,hx,eN,jA,m7 (.inl (by simpa using hx))]
  ·have oV:¬ (ds.length:Int)=2:=by left
   simp[mk_eq,aP,eN,oV,vW hl]
 | _=>simp[mk_eq,aP,eN,jK]
noncomputable def qQ(m:List D->O D):Prop:=∀ p q,Sm 4000 p->Sm 4000 q->m [qD p,qD q]=ok (qD (p+q))
noncomputable def lZ(m:List D->O D):Prop:=∀ p q,Sm 4000 p->Sm 4000 q->m [qD p,qD q]=ok (qD (p - q))
noncomputable def gf(m:List D->O D):Prop:=∀ p q,Sm 4000 p->Sm 4000 q->m [qD p,qD q]=ok (qD (p*q))
noncomputable def kC(m:List D->O D):Prop:=∀ p q,Sm 4000 p->Sm 4000 q->m [qD p,qD q]=ok (.bl (decide (p<q)))
noncomputable def uO(f:Nat):List CS:=[.ret (.call f [(.bin .add (.bin .mul (.ix (.v 0) (.int 0)) (.ix (.v 1) (.int 1))) (.bin .mul (.ix (.v 1) (.int 0)) (.ix (.v 0) (.int 1)))),(.bin .mul (.ix (.v 0) (.int 1)) (.ix (.v 1) (.int 1)))])]
noncomputable def oO(f:Nat):List CS:=[.ret (.call f [(.bin .sub (.bin .mul (.ix (.v 0) (.int 0)) (.ix (.v 1) (.int 1))) (.bin .mul (.ix (.v 1) (.int 0)) (.ix (.v 0) (.int 1)))),(.bin .mul (.ix (.v 0) (.int 1)) (.ix (.v 1) (.int 1)))])]
noncomputable def kr(f:Nat):List CS:=[.ret (.call f [(.bin .mul (.ix (.v 0) (.int 0)) (.ix (.v 1) (.int 0))),(.bin .mul (.ix (.v 0) (.int 1)) (.ix (.v 1) (.int 1)))])]
noncomputable def kA:List CS:=[.ret (.cmp .lt (.bin .mul (.ix (.v 0) (.int 0)) (.ix (.v 1) (.int 1))) (.bin .mul (.ix (.v 1) (.int 0)) (.ix (.v 0) (.int 1))))]
section
variable (Φ:ay){f:Nat}(h2:eV (Φ f))
theorem F5{p q:Rat}(hp:Sm 4000 p)(hq:Sm 4000 q):(p.den:Int)*q.den≠0/\((p.den:Int)*q.den).natAbs<2 ^ 9000 :=
 ⟨Wu (gA p) (gA q),Vf (hp.den hq) (Vh (by decide) (by decide))⟩
theorem rJ{p q:Rat}(hp:Sm 4000 p)(hq:Sm 4000 q):br .mul (.int p.num) (.int q.den)=ok (.int (p.num*q.den))/\br .mul (.int p.num) (.int q.num)=ok (.int (p.num*q.num))/\br .mul (.int p.den) (.int q.den)=ok (.int (p.den*q.den))/\br .mul (.int p.den) (.int q.num)=ok (.int (p.den*q.num)):=by
 obtain⟨a,b⟩:=hp.big (by decide);obtain⟨c,d⟩:=hq.big (by decide);exact⟨gy (mulOk_of a d),gy (mulOk_of a c),gy (mulOk_of b d),gy (mulOk_of b c)⟩
include h2
theorem HQ:qQ (mk Φ 2 2 (uO f)):=by
 intro p q hp hq;obtain⟨a,b,c,d⟩:=rJ hp hq;obtain⟨a',b',c',d'⟩:=rJ hq hp;obtain⟨n,k⟩:=F5 hp hq;have e:=h2 (p.num*q.den+q.num*p.den) _ n k;rw[<- Cm]at e;simp[mk_eq,uO,a,a',c,e]
theorem DF:lZ (mk Φ 2 2 (oO f)):=by
 intro p q hp hq;obtain⟨a,b,c,d⟩:=rJ hp hq;obtain⟨a',b',c',d'⟩:=rJ hq hp;obtain⟨n,k⟩:=F5 hp hq;have e:=h2 (p.num*q.den - q.num*p.den) _ n k;rw[<- Cj]at e;simp[mk_eq,oO,a,a',c,e]
theorem Am:gf (mk Φ 2 2 (kr f)):=by
 intro p q hp hq;obtain⟨a,b,c,d⟩:=rJ hp hq;obtain⟨n,k⟩:=F5 hp hq;have e:=h2 (p.num*q.num) _ n k;rw[<- Ck]at e;simp[mk_eq,kr,b,c,e]
omit h2 in
end
theorem Aq(Φ:ay):kC (mk Φ 2 2 kA):=by
 intro p q hp hq;obtain⟨a,b,c,d⟩:=rJ hp hq;obtain⟨a',b',c',d'⟩:=rJ hq hp;simp[mk_eq,kA,a,a',Rat.lt_iff]
noncomputable def KA(d:D):Prop:=match d with
 | .lst _ ds=>ds.length<=1000000
 | .tup ds=>ds.length<64
 | _=>True
noncomputable def bx(qs:List Rat):Nat:=qs.foldl (λb q=>Nat.lcm b q.den) 1
theorem yc(b:Nat)(q:Rat):(b:Int).fdiv (Int.gcd b q.den)*q.den=(Nat.lcm b q.den:Nat):=by
 have hg:0<Nat.gcd b q.den:=Nat.gcd_pos_of_pos_right _ q.den_pos;have e:Int.gcd (b:Int) (q.den:Int)=Nat.gcd b q.den:=by simp[Int.gcd]
 rw[e,Int.fdiv_eq_ediv_of_nonneg _ (by left)];have:((b:Int) / (Nat.gcd b q.den:Nat))=((b / Nat.gcd b q.den:Nat):Int):=(Int.natCast_ediv ..).symm;rw[this,Nat.lcm];have hd:Nat.gcd b q.den∣b:=Nat.gcd_dvd_left ..;rw[Nat.mul_comm b,Nat.mul_div_assoc _ hd,Nat.mul_comm];exact(Int.natCast_mul ..).symm
theorem lcm_pos{b:Nat}(hb:0<b)(q:Rat):0<Nat.lcm b q.den:=Nat.lcm_pos hb q.den_pos
theorem t6:∀(qs:List Rat) (b k j:Nat),0<b->b<2 ^ j->(∀ q∈qs,Sm k q)->0<qs.foldl (λb q=>Nat.lcm b q.den) b/\qs.foldl (λb q=>Nat.lcm b q.den) b<2 ^ (j+k*qs.length)/\b∣qs.foldl (λb q=>Nat.lcm b q.den) b/\∀ q∈qs,q.den∣qs.foldl (λb q=>Nat.lcm b q.den) b
 | [],b,k,j,h0,h1,_=>⟨h0,by simpa using h1,Nat.dvd_refl _,λq hq=>nomatch hq⟩
 | q::qs,b,k,j,h0,h1,hs=>by
  have hq:=hs q Vb;have h2:Nat.lcm b q.den<2 ^ (j+k):=Vo (Nat.lcm_le_mul h0 q.den_pos) (aO h1 hq.2);obtain⟨g1,g2,g3,g4⟩:=t6 qs (Nat.lcm b q.den) k (j+k) (lcm_pos h0 q) h2 λp hp=>hs p (Va _ hp);have e:j+k*(q::qs).length=j+k+k*qs.length:=by rw[List.length_cons,Nat.mul_succ];left
  refine⟨g1,by rw[e];exact g2,Nat.dvd_trans (Nat.dvd_lcm_left ..) g3,λp hp=>?_⟩;rcases List.mem_cons.mp hp with rfl | hp
  ·exact Nat.dvd_trans (Nat.dvd_lcm_right ..) g3
  ·exact g4 p hp
structure zJ(k:Nat)(qs:List Rat):Prop where
 sm:∀ q∈qs,Sm k q
 m8:k*qs.length<=3000
 len:qs.length<=1000
variable {qs:List Rat}
theorem zJ.lcm{k:Nat}(h:zJ k qs):0<bx qs/\bx qs<2 ^ (1+k*qs.length)/\∀ q∈qs,q.den∣bx qs:=by
 obtain⟨g1,g2,_,g4⟩:=t6 qs 1 k 1 (by decide) (by decide) h.sm;exact⟨g1,g2,g4⟩
theorem x9{n j:Nat}(h:n<2 ^ j)(hj:j<=9000):n<2 ^ 9000:=Vf h (Vh (by decide) hj)
def bZ(m:List D->O D):Prop:=∀ f qs k,zJ k qs->m [.lst f (aN qs)]=ok (.int (bx qs))
noncomputable def aX:List CS:=[.asg (.nm 1) (.bin .mul (.bin .fdiv (.v 1) (.call 1 [(.v 1),(.ix (.v 2) (.int 1))])) (.ix (.v 2) (.int 1)))]
def bA:List CS:=[.asg (.nm 1) (.int 1),.fr (.nm 2) (.seq (.v 0)) aX,.ret (.v 1)]
theorem uL(Φ:ay)(h1:aA (Φ 1))(x:Option D):∀(qs:List Rat) (b k j:Nat) (z:Option D),0<b->b<2 ^ j->j+k*qs.length<=8000->(∀ q∈qs,Sm k q) ->
  ∃ z',eA (λd ρ=>bw (.nm 2) d ρ) (λρ=>aT Φ aX ρ) (aN qs) [x,some (.int b),z]=ok (.nx,[x,some (.int (qs.foldl (λb q=>Nat.lcm b q.den) b:Nat)),z'])
 | [],b,k,j,z,_,_,_,_=>⟨z,rfl⟩
 | q::qs,b,k,j,z,h0,hb,hj,hs=>by
  have hq:=hs q Vb;have h2:Nat.lcm b q.den<2 ^ (j+k):=Vo (Nat.lcm_le_mul h0 q.den_pos) (aO hb hq.2);have e:j+k*(q::qs).length=j+k+k*qs.length:=by rw[List.length_cons,Nat.mul_succ];left
  obtain⟨z',ih⟩:=uL Φ h1 x qs (Nat.lcm b q.den) k (j+k) (some (qD q)) (lcm_pos h0 q) h2 (by left) λp hp=>hs p (Va _ hp);have hg:0<Nat.gcd b q.den:=Nat.gcd_pos_of_pos_right _ q.den_pos;have eg:Int.gcd (b:Int) (q.den:Int)=Nat.gcd b q.den:=by simp[Int.gcd]
  have SY:Nat.gcd b q.den<=b:=V2 h0 (Nat.gcd_dvd_left ..);have QA:b<2 ^ 9000:=x9 hb (by left);have d1:br .fdiv (.int b) (.int (Nat.gcd b q.den:Nat))=ok (.int ((b:Int).fdiv (Nat.gcd b q.den:Nat))):=gK (dm (by left) (by simpa using Nat.lt_of_le_of_lt SY QA));have hm:((b:Int).fdiv (Nat.gcd b q.den:Nat)).natAbs<=b:=by
   rw[Int.fdiv_eq_ediv_of_nonneg _ (by left),<- Int.natCast_ediv];simp;exact Wv ..
  have d2:br .mul (.int ((b:Int).fdiv (Nat.gcd b q.den:Nat))) (.int q.den)=ok (.int (Nat.lcm b q.den:Nat)):=by
   have:=yc b q;rw[eg]at this;rw[gy (mulOk_of (Nat.lt_of_le_of_lt hm QA) (hq.big (by
    rw[e]at hj;have:k<=j+k+k*qs.length:=by left
    left)).2),this]
  unfold aA at h1;refine⟨z',gE (ρ1:=[x,some (.int b),some (qD q)]) (by simp) (ρ2:=[x,some (.int (Nat.lcm b q.den:Nat)),some (qD q)]) ?_ ih⟩;simp[aX,h1,d1,d2]
theorem bX(Φ:ay)(h1:aA (Φ 1)):bZ (mk Φ 1 3 bA):=by
 intro f qs k hs;have hit:fI Φ (.seq (.v 0)) [some (.lst f (aN qs)),some (.int 1),none]=ok (aN qs,if (aQ (bu f)||false)then[some (.lst (aC f) (aN qs)),some (.int 1),none]else[some (.lst f (aN qs)),some (.int 1),none]):=by
  rw[Jo (f:=bu f) (ds:=aN qs) (by simp)];simp[show fw (.v 0)=[0] from rfl]
 have hk:=hs.m8;have hx:∀ x:Option D,∃ z',eA (λd ρ=>bw (.nm 2) d ρ) (λρ=>aT Φ aX ρ) (aN qs) [x,some (.int (1:Nat)),none]=ok (.nx,[x,some (.int (bx qs)),z']):=λx=>uL Φ h1 x qs 1 k 1 none (by decide) (by decide) (by left) hs.sm;cases hf:(aQ (bu f)||false)with
 | true =>
  rw[hf]at hit;obtain⟨z',e⟩:=hx (some (.lst (aC f) (aN qs)));have:=kH (t:=.nm 2) (b:=aX) hit e;simp[mk_eq,bA,this]
 | false =>
  rw[hf]at hit;obtain⟨z',e⟩:=hx (some (.lst f (aN qs)));have:=kH (t:=.nm 2) (b:=aX) hit e;simp[mk_eq,bA,this]
noncomputable def fq(b:Nat)(q:Rat):Int:=q.num*(b:Int).fdiv q.den
theorem tJ(q:Rat):(q.num:Rat)=q*(q.den:Rat):=by
 have h:(q.den:Rat)≠0:=by
  have:=q.den_pos;intro z;have:((q.den:Int):Rat)=0:=by rw[Rat.intCast_natCast];exact z
  rw[Rat.intCast_eq_zero_iff]at this;left
 have e:q=(q.num:Rat) / (q.den:Rat):=by
  conv=>lhs;rw[<- eI q,Rat.divInt_eq_div,Rat.intCast_natCast]
 grind
theorem o_{b:Nat}{q:Rat}(h:q.den∣b):((fq b q:Int):Rat)=q*(b:Rat):=by
 obtain⟨c,rfl⟩:=h;have hd:(q.den:Int)≠0:=gA q;unfold fq;rw[Int.natCast_mul,Int.mul_fdiv_cancel_left _ hd,Rat.intCast_mul,tJ,Rat.natCast_mul,Rat.intCast_natCast];grind
theorem o8{b:Nat}:∀ {qs:List Rat},(∀ q∈qs,q.den∣b)->(((qs.map (fq b)).sum:Int):Rat)=qs.sum*(b:Rat)
 | [],_=>by simp
 | q::qs,h=>by
  rw[List.map_cons,List.sum_cons,List.sum_cons,Rat.intCast_add,o_ (h q List.mem_cons_self),o8 λp hp=>h p (List.mem_cons_of_mem _ hp)];grind
def dG(m:List D->O D):Prop:=∀ f qs k (b:Nat),zJ k qs->b<2 ^ 8000->m [.lst f (aN qs),.int b]=ok (.lst .ow (aa (qs.map (fq b))))
noncomputable def dF:List CS:=[.ret (.comp 1 (.nm 0) [1] .seq [(.v 0)] [] (.bin .mul (.ix (.v 0) (.int 0)) (.bin .fdiv (.v 1) (.ix (.v 0) (.int 1)))))]
theorem Ai{k:Nat}(h:zJ k qs){q:Rat}(hq:q∈qs):Sm 3000 q:=by
 refine(h.sm q hq).mono ?_;have h1:=h.m8;have h2:0<qs.length:=List.length_pos_of_mem hq;have:k*1<=k*qs.length:=V5 _ h2;left
theorem dC(Φ:ay):dG (mk Φ 2 2 dF):=by
 intro f qs k b hs hb;have JW:aH Φ (.comp 1 (.nm 0) [1] .seq [(.v 0)] [] (.bin .mul (.ix (.v 0) (.int 0)) (.bin .fdiv (.v 1) (.ix (.v 0) (.int 1))))) [some (.lst f (aN qs)),some (.int b)]=ok (.lst .ow (aa (qs.map (fq b)))):=by
  rw[eQ (xs:=[.lst (bu f) (aN qs)]) (items:=aN qs) (ds:=qs.map λq=>.int (fq b q)) (by simp) (by rw[iD];simp) (fO λq hq=>?_) (by have:=hs.len;simp;exact cW (by left))]
  ·have:(qs.map λq=>D.int (fq b q))=aa (qs.map (fq b)):=by simp[aa]
   rw[this,bI]
  ·refine⟨[some (qD q),some (.int b)],by simp[ba],by simp,?_⟩;have h3:=Ai hs hq;obtain⟨g1,g2⟩:=h3.big (by decide);have d1:br .fdiv (.int b) (.int q.den)=ok (.int ((b:Int).fdiv q.den)):=gK (dm (gA q) g2);have d2:br .mul (.int q.num) (.int ((b:Int).fdiv q.den))=ok (.int (q.num*(b:Int).fdiv q.den)):=by
    refine gy (mulOk_of g1 ?_);rw[Int.fdiv_eq_ediv_of_nonneg _ (by left),<- Int.natCast_ediv];have:=Wv b q.den;have h9:=x9 hb (by decide);rw[Int.natAbs_natCast];exact Vo this h9
   simp[d1,d2,fq]
 simp[mk_eq,dF,JW]
theorem zJ.Jh{k:Nat}(h:zJ k qs):bx qs<2 ^ 8000:=Vf h.lcm.2.1 (Vh (by decide) (by have:=h.m8;left))
noncomputable def rX(n:Int):D->Bool
 | .int i=>decide (0<=i)&&decide (i<n)
 | _=>false
def numsOf(ds:List D):List Int:=(intsOf ds).getD []
theorem pR(ns:List Int):numsOf (aa ns)=ns:=by unfold numsOf aa;rw[aR];rfl
def ui(d:D)(n:Int):Bool:=match d with
 | .tup ds=>ds.all (rX n)&&decide ((qu (numsOf ds)).length=ds.length)
 | _=>false
noncomputable def CV(n:Nat)(l:List Int):Prop:=l.Pairwise (· < ·)/\∀ h∈l,0<=h/\h<(n:Int)
theorem uH:∀(l m:List Int),(∀ x∈l,x∉m)->l.Nodup->l.foldl (λ(m:List Int) (k:Int)=>if m.any (· == k)then m else m++[k]) m=m++l
 | [],m,_,_=>by simp
 | x::l,m,h,hn=>by
  have hx:m.any (· == x)=false:=by
   rw[List.any_eq_false];intro y hy z;have:y=x:=by simpa using z
   exact h x Vb (this▸hy)
  rw[List.foldl_cons,hx,if_neg Bool.false_ne_true,uH l (m++[x])]
  ·simp
  ·intro y hy z;rcases List.mem_append.mp z with z | z
   ·exact h y (Va _ hy) z
   ·have:y=x:=by simpa using z
    subst this;exact(List.nodup_cons.mp hn).1 hy
  ·exact(List.nodup_cons.mp hn).2
theorem CV.nodup{n:Nat}{l:List Int}(h:CV n l):l.Nodup:=h.1.imp λz=>by left
noncomputable def dq(ns:List Int)(k:Int):Int :=
 let c:=if k<ns.length then ns.getD k.toNat 0 else 0
 if (10:Int) ^ 18<=c then(c - 10 ^ 18).fmod (10 ^ 60)else
  let n:=(c*48271+k*69621+11).fmod 2147483629
  let n:=(n*n).fmod 2147483587
  n*2147483563+(n*n).fmod 2147483563
def sT(m:List D->O D):Prop:=∀(ns:List Int) (k:Int),0<=k->m [.lst .sc (aa ns),.int k]=ok (.int (dq ns k))
noncomputable def cK:List CS:=[.asg (.nm 2) (.int 0),.ifs (.cmp .lt (.v 1) (.bf .len [(.v 0)])) [.asg (.nm 2) (.ix (.v 0) (.v 1))] [],.ifs (.cmp .ge (.v 2) (.bin .pow (.int 10) (.int 18))) [.ret (.bin .mod (.bin .sub (.v 2) (.bin .pow (.int 10) (.int 18))) (.bin .pow (.int 10) (.int 60)))] [],.asg (.nm 3) (.bin .mod (.bin .add (.bin .add (.bin .mul (.v 2) (.int 48271)) (.bin .mul (.v 1) (.int 69621))) (.int 11)) (.int 2147483629)),.asg (.nm 3) (.bin .mod (.bin .mul (.v 3) (.v 3)) (.int 2147483587)),.ret (.bin .add (.bin .mul (.v 3) (.int 2147483563)) (.bin .mod (.bin .mul (.v 3) (.v 3)) (.int 2147483563)))]
theorem gc(a:Int){b:Int}(h:0<b):0<=a.fmod b/\a.fmod b<b:=⟨Wh a h,WH a h⟩
theorem wc(Φ:ay)(x:D)(k c:Int)(hx:eN .list x=true)(o:Option D):jV (aT Φ (cK.drop 2) [some x,some (.int k),some (.int c),o])=ok (.int (if (10:Int) ^ 18<=c then(c - 10 ^ 18).fmod (10 ^ 60)else
  let n:=(c*48271+k*69621+11).fmod 2147483629
  let n:=(n*n).fmod 2147483587
  n*2147483563+(n*n).fmod 2147483563)):=by
 have p1:br .pow (.int 10) (.int 18)=ok (.int (10 ^ 18)):=CP (by decide);have p2:br .pow (.int 10) (.int 60)=ok (.int (10 ^ 60)):=CP (by decide);by_cases h:(10:Int) ^ 18<=c
 ·have h':(1000000000000000000:Int)<=c:=h;simp[cK,p1,p2,h']
 ·have h':¬ (1000000000000000000:Int)<=c:=h;obtain⟨a1,a2⟩:=gc (c*48271+k*69621+11) (b:=2147483629) (by decide);generalize hn:(c*48271+k*69621+11).fmod 2147483629=n at *;obtain⟨a3,a4⟩:=gc (n*n) (b:=2147483587) (by decide);have m1:br .mul (.int n) (.int n)=ok (.int (n*n)):=gy (nY _ (by left));generalize hm:(n*n).fmod 2147483587=m at *;have m2:br .mul (.int m) (.int m)=ok (.int (m*m)):=gy (nY _ (by left));simp[cK,p1,h',hn,m1,hm,m2]
theorem DG(Φ:ay):sT (mk Φ 2 4 cK):=by
 intro ns k hk;have:=λc=>wc Φ (.lst .sc (aa ns)) k c rfl none;by_cases h:k<ns.length
 ·have hg:kB (aa ns) k=ok (.int (ns.getD k.toNat 0)):=by
   have hl:k.toNat<ns.length:=by left
   rw[at_of hk (d:=.int (ns.getD k.toNat 0)) (by rw[jf,List.getElem?_eq_getElem hl,Option.map_some,List.getD_eq_getElem?_getD,List.getElem?_eq_getElem hl];rfl)];simp
  have e:jV (aT Φ cK ([some (D.lst Fl.sc (aa ns)),some (D.int k)]++[none,none]))=jV (aT Φ (cK.drop 2) [some (.lst .sc (aa ns)),some (.int k),some (.int (ns.getD k.toNat 0)),none]):=by
   rw[cK,cc,kI];simp only[CB,CK,p6,iF];simp only[List.cons_append,List.nil_append,uW,List.length_cons,List.length_nil,Nat.reduceAdd,Nat.reduceLT,ig,List.set_cons_succ,List.set_cons_zero];rw[cc,Ha];simp[h,hg]
  rw[mk_eq (ar:=2) (ds:=[_,_]) rfl];refine(show _=_ from e).trans ?_;rw[this,dq,if_pos h]
 ·have e:jV (aT Φ cK ([some (D.lst Fl.sc (aa ns)),some (D.int k)]++[none,none]))=jV (aT Φ (cK.drop 2) [some (.lst .sc (aa ns)),some (.int k),some (.int 0),none]):=by
   rw[cK,cc,kI];simp only[CB,CK,p6,iF];simp only[List.cons_append,List.nil_append,uW,List.length_cons,List.length_nil,Nat.reduceAdd,Nat.reduceLT,ig,List.set_cons_succ,List.set_cons_zero];rw[cc,Ha];simp[h]
  rw[mk_eq (ar:=2) (ds:=[_,_]) rfl];refine(show _=_ from e).trans ?_;rw[this,dq,if_neg h]
noncomputable def h_:CS:=.zL (.cmp .gt (.v 3) (.int 0)) [.par 2 3 (.v 3) (.bin .mod (.v 2) (.v 3))]
def iP:List CS:=[.asg (.nm 2) (.bf .abs [(.v 0)]),.asg (.nm 3) (.bf .abs [(.v 1)]),h_,.ifs (.cmp .lt (.v 1) (.int 0)) [.asg (.nm 2) (.bin .sub (.int 0) (.v 2))] [],.ret (.tup [(.bin .fdiv (.v 0) (.v 2)),(.bin .fdiv (.v 1) (.v 2))])]
theorem rP(Φ:ay)(x y:Option D):∀(n:Nat) (a b:Nat),b<=n->jL Φ h_ [x,y,some (.int a),some (.int b)]=ok (.nx,[x,y,some (.int (Nat.gcd a b)),some (.int 0)]):=by
 intro n;induction n with
 | zero =>
  intro a b h;have hb:b=0:=by left
  subst hb;rw[h_,fc];exact bH (by simp)
 | succ n ih =>
  intro a b h;by_cases hb:b=0
  ·subst hb;rw[h_,fc];exact bH (by simp)
  ·have fi:=Nat.mod_lt a (show 0<b by left);have e:=ih b (a % b) (by left);have eg:Nat.gcd b (a % b)=Nat.gcd a b:=by rw[Nat.gcd_comm a b,Nat.gcd_rec b a,Nat.gcd_comm]
   rw[eg]at e;rw[h_,fc]at e ⊢;rw[<- e];have um:0<b:=by left
   have em:((a:Int)).fmod (b:Int)=((a % b:Nat):Int):=by
    rw[Int.fmod_eq_emod_of_nonneg _ (by left)];exact(Int.natCast_emod a b).symm
   have ep:jL Φ (.par 2 3 (.v 3) (.bin .mod (.v 2) (.v 3))) [x,y,some (.int a),some (.int b)]=ok (.nx,[x,y,some (.int b),some (.int ((a % b:Nat):Int))]):=by
    rw[B5];simp[hb,em]
   exact eF (by simp[um,ep])
theorem Ap(Φ:ay):eV (mk Φ 2 4 iP):=by
 intro t b hb h;obtain⟨e1,e2⟩:=om (t:=t) hb;have d1:=kc (t:=t) hb h t;have d2:=kc (t:=t) hb h b;have hl:=rP Φ (some (.int t)) (some (.int b)) b.natAbs t.natAbs b.natAbs (Vc _);rw[qD,<- e1,<- e2];by_cases hn:b<0
 ·have ed:0 - (Nat.gcd t.natAbs b.natAbs:Int)=dk t b:=by simp[dk,hn,Int.gcd]
  have T3:-(Nat.gcd t.natAbs b.natAbs:Int)=dk t b:=by simp[dk,hn,Int.gcd]
  simp[mk_eq,iP,hl,hn,T3,d1,d2]
 ·have ed:(Nat.gcd t.natAbs b.natAbs:Int)=dk t b:=by simp[dk,hn,Int.gcd]
  simp[mk_eq,iP,hl,hn,ed,d1,d2]
noncomputable def CT(qs:List Rat)(h:Int):Rat:=qs.getD h.toNat 0
theorem uT{h:Int}(h0:0<=h)(h1:h<qs.length):qs[h.toNat]?=some (CT qs h)/\CT qs h∈qs:=by
 have hl:h.toNat<qs.length:=by left
 have e:qs[h.toNat]?=some (CT qs h):=by
  unfold CT;rw[List.getD_eq_getElem?_getD,List.getElem?_eq_getElem hl];rfl
 exact⟨e,Vr e⟩
theorem vn{q:Rat}(h:0<q):0<q.num:=by
 have:=(Rat.lt_iff 0 q).mp h;simpa using this
theorem CV.len{n:Nat}{l:List Int}(h:CV n l):l.length<=n:=by
 have hn:(l.map Int.toNat).Nodup:=by
  unfold List.Nodup;rw[List.pairwise_map];refine h.1.imp_of_mem λha hb z e=>?_;have:=h.2 _ ha;have:=h.2 _ hb;left
 have hs:(l.map Int.toNat) ⊆ List.range n:=λx hx=>by
  obtain⟨y,hy,rfl⟩:=List.mem_map.mp hx;have:=h.2 y hy;rw[List.mem_range];left
 have:=hn.length_le_of_subset hs;simpa using this
theorem CV.fm{n:Nat}{l:List Int}(h:CV n l)(hn:n<=12):KA (.tup (aa l)):=by
 have:=h.len;show(aa l).length<64;simp;left
end DI
end
section
namespace DI
open PySem PySem.Spec PyProof.Rows L2
variable {ch:List Addr}{t':Nat}
section
variable {X:Cx}{pins:List (Addr×Obj)}{σ:St}{H:Hp}{s:Shared}{h':Heap}
theorem zX(I:Inv X pins σ H s)(hf:∀ b∈ch,l5 X pins H b)(k:∀ b u,b∉ch->s.heap.get? b=some u->h'.get? b=some u):Inv X pins σ H { s with heap:=h',toks:=t' }:=by
 have Cu:∀ b u,H b=some u->b∉ch:=λb u e z=>by rw[(hf b z).1]at e;cases e
 refine I.step (g':=s.gens) (d':=s.drawn) (ch:=ch) (λb hb=>⟨(hf b hb).2.2.2.1,(hf b hb).2.1,(hf b hb).2.2.2.2.1,(hf b hb).2.2.2.2.2⟩) (λb o _ _ hc e _=>k b o hc e) (λb o _ _ hc e _=>⟨o.slots,k b o hc e⟩) (λ_ _ _ _ n=>n)
  (λb o hc e=>⟨o,k b o hc e⟩) (λ_ _ e=>e) (λ_ _ _ e=>e) (λb ps e=>⟨#[],by rw[e];simp⟩) (λm hm=>?_) (λb u e=>?_) I.bare
 ·obtain⟨o,es,ep,ho,r⟩:=hm;exact⟨o,es,ep,k _ o (λz=>(hf _ z).2.1 rfl) ho,r⟩
 ·refine(I.bR b u e).i6 (λc v hc q=>k c v ?_ q) (λ_ q=>q) λ_ _ q=>q;rcases hc with z | z
  ·rw[z];exact Cu b u e
  ·exact Cu c _ z
theorem sX{T:Addr}{o:HO}(I:Inv X pins σ H s)(hf:∀ b∈ch,l5 X pins H b)(k:∀ b u,b∉ch->s.heap.get? b=some u->h'.get? b=some u)(hT:s.heap.objs.size<=T)(new:bB X.prog X.w (upd H T o) h' T o):
  Inv X pins σ (upd H T o) { s with heap:=h',toks:=t' }:=by
 have Cu:∀ b u,H b=some u->b∉ch:=λb u e z=>by rw[(hf b z).1]at e;cases e
 have hn:H T=none:=I.bR.fresh hT;have ne:∀ b (u:Obj),s.heap.get? b=some u->b≠T:=λb u e z=>absurd (Vd e) (by rw[z];exact Nat.not_lt.mpr hT);have up:∀ b u,H b=some u->upd H T o b=some u:=λb u e=>by rw[aq (a_ e hn)];exact e
 refine I.step (g':=s.gens) (d':=s.drawn) (ch:=ch) (λb hb=>⟨(hf b hb).2.2.2.1,(hf b hb).2.1,(hf b hb).2.2.2.2.1,(hf b hb).2.2.2.2.2⟩) (λb o _ _ hc e _=>k b o hc e) (λb o _ _ hc e _=>⟨o.slots,k b o hc e⟩) (λb u _ e n=>by rw[aq (ne b u e)];exact n)
  (λb o hc e=>⟨o,k b o hc e⟩) (λ_ _ e=>up _ _ e) (λ_ _ _ e=>up _ _ e) (λb ps e=>⟨#[],by rw[up _ _ e];simp⟩) (λm hm=>?_) (uj (λb u e=>?_) hn new) I.bare
 ·obtain⟨o,es,ep,ho,r⟩:=hm;exact⟨o,es,ep,k _ o (λz=>(hf _ z).2.1 rfl) ho,r⟩
 ·refine(I.bR b u e).i6 (λc v hc q=>k c v ?_ q) (λ_ q=>q) λ_ _ q=>q;rcases hc with z | z
  ·rw[z];exact Cu b u e
  ·exact Cu c _ z
end
variable {H H':Hp}{h:Heap}
theorem sY{P:Program}{w:World}{T:Addr}{x y:V}{u v:Value}(rx:RelV x u)(ry:RelV y v)(e:h.get? T=some { cls:=.type "tuple",data:=.seq #[u,v] }):bB P w H h T (.tup [x,y]) :=
 ⟨by rw[sizeLine_eq];simp,[u,v],.cons rx (.cons ry .nil),⟨_,e,rfl,_,rfl⟩⟩
theorem zh{a b:Addr}{o u:Obj}(ha:h.get? a=some o)(hb:h.get? b=some u)(hc:o.cls≠u.cls):a≠b:=λz=>by
 subst z;rw[ha]at hb;cases hb;exact hc rfl
variable {F R:Addr->Prop}{X:Cx}{cs:List CE}{Φ:ay}
theorem nP{a b:Expr}(h:my X F Φ cs [a,b]):(∃ c d,cs=[c,d]/\PE X a (tD X F Φ c)/\PE X b (tD X F Φ d))/\PA X [a,b] (pd X F Φ cs)/\(∀ es,starEach (a::es) X.env=(false,eval a X.env)::starEach es X.env)/\(∀ es,starEach (b::es) X.env=(false,eval b X.env)::starEach es X.env):=by
 match cs,h with
 | [c,d],h =>
  obtain⟨h1,h2,_,h3,h4,_,_⟩:=h;exact⟨⟨c,d,rfl,h1,h3⟩,PA.imp (cT h1 (PA.imp (cT h3 (PA.imp gB λ_ _ _ h=>il h) (h4 _)) λ_ _ _ h=>dY h) (h2 _)) λ_ _ _ h=>dY h,h2,h4⟩
 | [],h=>exact h.elim
 | [_],h=>exact h.2.2.2.elim
 | _::_::_::_,h=>exact h.2.2.2.2.2.2.elim
variable {K:PySem.W.Frag}{k':az}
theorem Rep.Rt{k:az}{v:V}{d:D}(e:ai H H')(h:Rep (ao K H) (nd K R (λ_=>False) (λ_=>none) H) k v d):Rep (ao K H') (nd K R (λ_=>False) (λ_=>none) H') k' v d :=
 (Rep.nZ h (k':=k')).imp (λ_ _ h=>ao.same e h) λ_ _ _ _ h=>nd.same e h
noncomputable abbrev Pa(h:Heap)(z TI TO a:Addr)(f:Bool):Prop :=
 h.get? z=some { cls:=.type "zip",dict:=none,data:=.fields #[rawInt a,.bool f,.bool false,.ref TI,.ref TO],slots:=#[] }
section
variable {prog:Program}{w:World}{A:Around}{E:Value->Shared->Prop}{s:Shared}
end
section
variable {prog:Program}{w:World}{A:Around}{E:Value->Shared->Prop}{s:Shared}
end
structure Zl(h:Heap)(z TI TO i1 i2 l1 l2 S:Addr)(xs ys:Array Value)(i:Nat):Prop where
 st:(IsZip h z TI TO .none/\∃ a b,IsPair h TO a b)\/∃ a f oa,Pa h z TI TO a f/\h.get? a=some oa/\S<a
 ti:IsPair h TI (.ref i1) (.ref i2)
 w1:h.IsListIter i1 l1 i
 w2:h.IsListIter i2 l2 i
 q1:h.IsList l1 xs
 q2:h.IsList l2 ys
structure Below(z TI TO i1 i2 l1 l2 S:Addr):Prop where
 D:ZipApart z TI TO i1 i2 l1 l2
 z:z<S
 TI:TI<S
 TO:TO<S
 i1:i1<S
 i2:i2<S
 l1:l1<S
 l2:l2<S
section
variable {prog:Program}{w:World}{A:Around}{E:Value->Shared->Prop}{s:Shared}{z TI TO i1 i2 l1 l2 S:Addr}{xs ys:Array Value}{i:Nat}
theorem Zl.keep{h':Heap}(B:Below z TI TO i1 i2 l1 l2 S)(Z:Zl h z TI TO i1 i2 l1 l2 S xs ys i)(hk:∀ b o,b≠S->h.get? b=some o->h'.get? b=some o):Zl h' z TI TO i1 i2 l1 l2 S xs ys i:=by
 have n:∀ {b},b<S->b≠S:=λh=>Vi h;refine⟨?_,hk _ _ (n B.TI) Z.ti,Z.w1.at λo e=>hk _ o (n B.i1) e,Z.w2.at λo e=>hk _ o (n B.i2) e,Z.q1.at λo e=>hk _ o (n B.l1) e,Z.q2.at λo e=>hk _ o (n B.l2) e⟩;rcases Z.st with ⟨h1,a,b,h2⟩ | ⟨a,f,oa,h1,h2,h3⟩
 ·exact .inl ⟨hk _ _ (n B.z) h1,a,b,hk _ _ (n B.TO) h2⟩
 ·exact .inr ⟨a,f,oa,hk _ _ (n B.z) h1,hk _ _ (VJ h3) h2,h3⟩
end
structure U4(xs ys:Array Value)(lo:Addr)(h:Heap)(as:List Addr):Prop where
 above:∀ a∈as,lo<a
 nd:as.Nodup
 pairs:∀(j:Nat) (a:Addr),as[j]?=some a->∃ x y,xs[j]?=some x/\ys[j]?=some y/\IsPair h a x y
section
variable {prog:Program}{w:World}{A:Around}{s:Shared}{R:Result->Shared->Prop}{z TI TO i1 i2 l1 l2 S:Addr}{xs ys:Array Value}
end
section
variable {prog:Program}{w:World}{A:Around}{E:Value->Shared->Prop}{s:Shared}{z TI TO i1 i2 l1 l2:Addr}{xs ys:Array Value}
end
section
open PySem.SeqAt
open PySem.AutoSeq1 (wpAny_loadPart')
open PySem.MeetsSeq PySem.MeetsSeq2 PySem.MeetsSeq3
end
section
variable {α β:Type}
noncomputable def aS:List (List Int)->List α->List Int->Option α
 | c'::cs,v::vs,c=>if c'=c then some v else aS cs vs c
 | _,_,_=>none
noncomputable def setC:List (List Int)->List α->List Int->α->List α
 | c'::cs,v'::vs,c,v=>(if c'=c then v else v')::setC cs vs c v
 | _,_,_,_=>[]
noncomputable def ax(cs:List (List Int))(c:List Int):List (List Int):=if c∈cs then cs else cs++[c]
noncomputable def qM(cs:List (List Int))(as:List α)(c:List Int)(a:α):List α:=if c∈cs then as else as++[a]
def aM(cs:List (List Int))(vs:List α)(c:List Int)(v:α):List α:=if c∈cs then setC cs vs c v else vs++[v]
end
section
variable {zs:List (List Int×Addr×Value)}{c:List Int}
theorem jo:∀(zs:List (List Int×Addr×Value)) (c:List Int),(atKey zs c).map (·.2)=aS (zs.map (·.1)) (zs.map (·.2.2)) c
 | [],_=>rfl
 | z::zs,c=>by
  have ih:=jo zs c;unfold atKey at ih ⊢;rw[List.find?_cons];show _=if z.1=c then some z.2.2 else aS (zs.map (·.1)) (zs.map (·.2.2)) c
  by_cases e:z.1=c
  ·rw[decide_eq_true e,if_pos e];rfl
  ·rw[decide_eq_false e,if_neg e];exact ih
theorem cy:∀(zs:List (List Int×Addr×Value)) (c:List Int),(atKey zs c).isSome=true ↔ c∈zs.map (·.1)
 | [],c=>by simp[atKey]
 | z::zs,c=>by
  have ih:=cy zs c;unfold atKey at ih ⊢;rw[List.find?_cons,List.map_cons,List.mem_cons];by_cases e:z.1=c
  ·rw[decide_eq_true e];simp[e]
  ·rw[decide_eq_false e];rw[ih];exact⟨.inr,λh=>h.resolve_left λz=>e z.symm⟩
theorem jC(a:Addr)(v:Value):(storedH zs c a v).map (·.1)=ax (zs.map (·.1)) c:=by
 unfold storedH ax;by_cases h:c∈zs.map (·.1)
 ·rw[if_pos ((cy zs c).mpr h),if_pos h,List.map_map];refine Vl λz _=>?_;show(putAt c v z).1=z.1;unfold putAt;split<;>rfl
 ·rw[if_neg (λz=>h ((cy zs c).mp z)),if_neg h,List.map_append];rfl
theorem pj(a:Addr)(v:Value):(storedH zs c a v).map (·.2.1)=qM (zs.map (·.1)) (zs.map (·.2.1)) c a:=by
 unfold storedH qM;by_cases h:c∈zs.map (·.1)
 ·rw[if_pos ((cy zs c).mpr h),if_pos h,List.map_map];refine Vl λz _=>?_;show(putAt c v z).2.1=z.2.1;unfold putAt;split<;>rfl
 ·rw[if_neg (λz=>h ((cy zs c).mp z)),if_neg h,List.map_append];rfl
theorem pL(v:Value):∀ zs:List (List Int×Addr×Value),(zs.map (putAt c v)).map (·.2.2)=setC (zs.map (·.1)) (zs.map (·.2.2)) c v
 | []=>rfl
 | z::zs=>by
  show(putAt c v z).2.2::((zs.map (putAt c v)).map (·.2.2))=(if z.1=c then v else z.2.2)::setC (zs.map (·.1)) (zs.map (·.2.2)) c v;rw[pL v zs];unfold putAt;by_cases e:z.1=c
  ·rw[if_pos e,if_pos e]
  ·rw[if_neg e,if_neg e]
theorem ph(a:Addr)(v:Value):(storedH zs c a v).map (·.2.2)=aM (zs.map (·.1)) (zs.map (·.2.2)) c v:=by
 unfold storedH aM;by_cases h:c∈zs.map (·.1)
 ·rw[if_pos ((cy zs c).mpr h),if_pos h];exact pL v zs
 ·rw[if_neg (λz=>h ((cy zs c).mp z)),if_neg h,List.map_append];rfl
end
theorem oX{c:List Int}{v:V}{u:Value}(r:RelV v u):∀ {cs:List (List Int)} {xs:List V} {us:List Value},Vals xs us->Vals (setC cs xs c v) (setC cs us c u)
 | [],_,_,h=>by cases h<;>exact .nil
 | c'::cs,_,_,h=>by
  cases h with
  | nil=>exact .nil
  | cons h t =>
   refine .cons ?_ (oX r t);show RelV (if c'=c then v else _) (if c'=c then u else _);by_cases e:c'=c
   ·rw[if_pos e,if_pos e];exact r
   ·rw[if_neg e,if_neg e];exact h
theorem mz{v:V}{u:Value}(r:RelV v u):∀ {xs:List V} {us:List Value},Vals xs us->Vals (xs++[v]) (us++[u])
 | _,_,.nil=>.cons r .nil
 | _,_,.cons h t=>.cons h (mz r t)
theorem wQ{cs:List (List Int)}{xs:List V}{us:List Value}(h:Vals xs us){c:List Int}{v:V}{u:Value}(r:RelV v u):Vals (aM cs xs c v) (aM cs us c u):=by
 unfold aM;by_cases e:c∈cs
 ·rw[if_pos e,if_pos e];exact oX r h
 ·rw[if_neg e,if_neg e];exact mz r h
theorem kK:∀ {cs:List (List Int)} {xs:List V} {us:List Value} (_:Vals xs us) (c:List Int),l4 (aS cs xs c) (aS cs us c)
 | [],_,_,_,_=>by cases ‹Vals _ _› <;> exact True.intro
 | c'::cs,_,_,h,c=>by
  cases h with
  | nil=>exact True.intro
  | cons h t =>
   show l4 (if c'=c then some _ else _) (if c'=c then some _ else _);by_cases e:c'=c
   ·rw[if_pos e,if_pos e];exact h
   ·rw[if_neg e,if_neg e];exact kK t c
variable {pos pos':Pos}
section
variable {X:Cx}{pins:List (Addr×Obj)}{σ:St}{H:Hp}{s:Shared}{p b:Addr}{cs:List (List Int)}{as:List Addr}{xs:List V}{ep:Nat}{c:List Int}{A:Around}{E:Value->Shared->Prop}
theorem items_int:∀ {c:List Int} {af:List Value},Vals (c.map V.int) af->ItemsAre (intKind X.prog X.w) c af
 | [],_,h=>by cases h;exact .nil
 | i::c,_,h=>by
  cases h with
  | cons h t =>
   obtain⟨t',rfl⟩:=h;exact .cons (by simp[intKind,Value.isInt]) (items_int t)
theorem ll(I:Inv X pins σ H s)(h:ao X.K H b (c.map V.int)):(tupleKind (intKind X.prog X.w)).is s.heap c b:=by
 obtain⟨af,rv,⟨o,h1,h2,n,h3⟩,_⟩:=I.tuple h;exact⟨o,af.toArray,n,h1,h2,h3,by simpa using items_int rv⟩
theorem kf(I:Inv X pins σ H s)(h:H p=some (.ext (DO p cs as xs ep)))(k:cE (ao X.K H) as cs):
  ∃(zs:List (List Int×Addr×Value)) (o:Obj) (es:Array DictEntry),zs.map (·.1)=cs/\zs.map (·.2.1)=as/\Vals xs (zs.map (·.2.2))/\s.heap.get? p=some o/\o.ExactDict/\o.data=.dict es ep /\
   s.heap.DictOfH (tupleKind (intKind X.prog X.w)) p zs/\es.toList=zs.map (entryOfKey (tupleKind (intKind X.prog X.w)))/\cs.length<=sizeLine/\(p==sysModules)=false:=by
 obtain⟨⟨zs,o,es,e1,e2,e3,ho,hx,hd,he,hn,hl,hs⟩,_⟩:=(show bB X.prog X.w H s.heap p (.ext (DO p cs as xs ep)) from I.bR p _ h)
 refine⟨zs,o,es,e1,e2,e3,ho,hx,hd,⟨o,es,ep,ho,hx,hd,he,λz hz=>?_,by rw[e1];exact hn⟩,he,hl,hs⟩;obtain⟨j,hj⟩:=List.mem_iff_getElem?.mp hz;exact ll I (k.tup j z.2.1 z.1 (by rw[<- e2,List.getElem?_map,hj];rfl) (by rw[<- e1,List.getElem?_map,hj];rfl))
theorem dict_cls(I:Inv X pins σ H s)(h:H p=some (.ext (DO p cs as xs ep))):s.TypeIs (.ref p) "dict" /\ ∀ b,Value.ref p=.ref b->∃ ob,s.heap.get? b=some ob/\ob.dict=none:=by
 obtain⟨⟨zs,o,es,e1,e2,e3,ho,hx,_⟩,_⟩:=(show bB X.prog X.w H s.heap p (.ext (DO p cs as xs ep)) from I.bR p _ h)
 exact⟨⟨o,ho,hx.1⟩,λb q=>by cases q;exact⟨o,ho,hx.2.1⟩⟩
theorem BC{d:V}{r:Value}{Q:Value->Shared->Prop}(hu:A.units+1<cLine)(I:Inv X pins σ H s)(h:H p=some (.ext (DO p cs as xs ep)))(k:cE (ao X.K H) as cs)(hb:ao X.K H b (c.map V.int))(rd:RelV d r)(hQ:∀ w' s',Inv X pins σ H s'->RelV ((aS cs xs c).getD d) w'->Q w' s'):
  wpAny (model X.prog X.w) A (call (.builtin "dict.get") [.ref p,.ref b,r]) Q E s:=by
 obtain⟨zs,o,es,e1,e2,e3,ho,hx,hd,dd,_,hl,hs⟩:=kf I h k;refine call_meetsIn PySem.F.slot_dict_get dd.typeIs PySem.F.entry_dict_get (PySem.F.args_dict_get_3 _ _ _) (meetsH_dict_get_default (tupleKind (intKind X.prog X.w)) p b hs r) ⟨WI hu,c,zs,ll I hb,dd,hQ _ _ (I.tok _) ?_⟩;rw[jo,e1];have hg:=kK (cs:=cs) e3 c;cases q:aS cs xs c with
 | none =>
  rw[q]at hg;rw[l4.none_of hg];exact rd
 | some v =>
  rw[q]at hg;obtain⟨u,Lx,ru⟩:=l4.some_of hg;rw[Lx];exact ru
theorem sv{v:V}{r:Value}{Q:Unit->Shared->Prop}(hu:A.units+1<cLine)(I:Inv X pins σ H s)(h:H p=some (.ext (DO p cs as xs ep)))(k:cE (ao X.K H) as cs)(hb:ao X.K H b (c.map V.int))(rv:RelV v r)(fi:cs.length<sizeLine)
  (hQ:∀ m_ s',Inv X pins σ (upd H p (.ext (DO p (ax cs c) (qM cs as c b) (aM cs xs c v) m_))) s'->Q () s') :
  wpAny (model X.prog X.w) A (setItem (.ref p) (.ref b) r) Q E s:=by
 obtain⟨zs,o,es,e1,e2,e3,ho,hx,hd,dd,_,hl,hs⟩:=kf I h k;have hz:zs.length<=sizeLine:=by rw[<- e1,List.length_map]at hl;exact hl
 refine wpAny_setItem_heap (hsz:=hz) (WI hu) (ll I hb) dd λh' OX vK=>?_;obtain⟨q,vZ,m_,hq,h2,h3,h4,_,h5⟩:=OX;refine hQ m_ _ (I.write (x:=p) (e:=p) (by rw[h];exact True.intro) (.inl rfl) (λb q hb z=>(vK.2 b hb).trans z) ⟨q,hq⟩ ⟨⟨storedH zs c b r,q,vZ,?_,?_,?_,hq,h2,h3,h4,?_,?_,hs⟩,⟨q,hq⟩,?_⟩)
 ·rw[jC,e1]
 ·rw[pj,e1,e2]
 ·rw[ph,e1];exact wQ e3 rv
 ·rw[<- e1,<- jC (zs:=zs) (c:=c) b r];exact h5
 ·unfold ax;split
  ·exact hl
  ·rw[List.length_append,List.length_singleton];left
 ·rintro h1 Ox ⟨B4,o',es'',f1,f2,f3,f4,f5⟩ kk;exact⟨B4,o',es'',f1,f2,f3,kk _ f4,f5⟩
theorem AD:PE X (.Dict [] [] pos) (λ_ H Q=>∀ p,H p=none->Q (.ref p) (upd H p (.ext (DO p [] [] [] 0)))):=λpins s σ H Q I h=>by
 have Fd:sysModules<s.heap.objs.size:=Nat.lt_trans (by decide) (show mainGlobals<s.heap.objs.size from(I.mod.glob.keeps I.bk).lt);refine wpAny_Dict_empty ⟨.ref s.heap.objs.size,_,I.laid (a:=s.heap.objs.size) (o:=.ext (DO s.heap.objs.size [] [] [] 0)) (t':=s.toks) (λ_ _ q=>U_ _ q) (Vc _) ?_,rfl,h _ (I.bR.fresh (Vc _))⟩;have hg:(s.heap.push { cls:=.type "dict",data:=.dict #[] }).get? s.heap.objs.size=some { cls:=.type "dict",data:=.dict #[] }:=Ve _ rfl;refine⟨⟨[],_,#[],rfl,rfl,.nil,hg,⟨rfl,rfl,rfl⟩,rfl,rfl,Wa,Vs _,beq_eq_false_iff_ne.mpr (WO (Vi Fd))⟩,⟨_,hg⟩,?_⟩;rintro h1 Ox ⟨B4,o',es'',f1,f2,f3,f4,f5⟩ kk;exact⟨B4,o',es'',f1,f2,f3,kk _ f4,f5⟩
end
variable {N:gO}{T:lY}
theorem f7{N':gO}{k:az}{v:V}{d:D}(h:Rep T N k v d)(hf:ak anyF d=false):Rep T N' k' v d:=by
 have:=Rep.gen (T':=T) (N':=N') (g:=id) (P:=anyF) (C:=λ_ _=>True) (I:=λ_ _=>True) (λ_ _ h=>h) trivial (λ_ _ e=>e) (λ_ _ _ _ e _=>e) (λk k' p xs f _ hz _=>nomatch hz) h (k':=k') trivial hf;rw[dE]at this;exact this
theorem k9{T:lY}{N:gO}:∀ {cs:List (List Int)} {k:az} {n:Nat} {xs:List V} {ds:List D} (_:ae T N k n xs ds) (c:List Int),(aS cs xs c=none/\aS cs ds c=none)\/∃ v d k',aS cs xs c=some v/\aS cs ds c=some d/\Rep T N k' v d/\d∈ds
 | [],_,_,_,_,_,_=>by cases ‹ae _ _ _ _ _ _› <;> exact .inl ⟨rfl,rfl⟩
 | c'::cs,_,_,_,_,r,c=>by
  cases r with
  | nil=>exact .inl ⟨rfl,rfl⟩
  | @cons _ _ v d vs ds h t =>
   by_cases e:c'=c
   ·exact .inr ⟨v,d,_,VA e,VA e,h,Vb⟩
   ·have e1:∀ {α:Type} (a:α) (l:List α),aS (c'::cs) (a::l) c=aS cs l c:=λa l=>V1 e;rw[e1,e1];rcases k9 (cs:=cs) t c with h | ⟨v',d',k',h1,h2,h3,h4⟩
    ·exact .inl h
    ·exact .inr ⟨v',d',k',h1,h2,h3,Va _ h4⟩
theorem mX{p:Fl->Bool}:∀ {ds:List D},aj p ds=false->∀ d∈ds,ak p d=false
 | [],_,_,h=>nomatch h
 | d::ds,h,d',hd=>by
  have h:=Cs h;rcases List.mem_cons.mp hd with rfl | hd
  ·exact h.1
  ·exact mX h.2 d' hd
theorem pI{T:lY}{N:gO}{c:List Int}{v:V}{d:D}(hv:∀ k,Rep T N k v d):∀ {cs:List (List Int)} {k:az} {n:Nat} {xs:List V} {ds:List D},ae T N k n xs ds->ae T N k n (setC cs xs c v) (setC cs ds c d)
 | [],_,_,_,_,r=>by cases r<;>exact .nil
 | c'::cs,_,_,_,_,r=>by
  cases r with
  | nil=>exact .nil
  | cons h t =>
   refine .cons ?_ (pI hv t);show Rep _ _ _ (if c'=c then v else _) (if c'=c then d else _);by_cases e:c'=c
   ·rw[if_pos e,if_pos e];exact hv _
   ·rw[if_neg e,if_neg e];exact h
theorem mO{T:lY}{N:gO}{v:V}{d:D}(hv:∀ k,Rep T N k v d):∀ {k:az} {n:Nat} {xs:List V} {ds:List D},ae T N k n xs ds->ae T N k n (xs++[v]) (ds++[d])
 | _,_,_,_,.nil=>.cons (hv _) .nil
 | _,_,_,_,.cons h t=>.cons h (mO hv t)
variable {ds xs:List D}
theorem xl{c:List Int}{v:V}{d:D}(hv:∀ k,Rep T N k v d){cs:List (List Int)}{k:az}{n:Nat}{xs:List V}(r:ae T N k n xs ds):ae T N k n (aM cs xs c v) (aM cs ds c d):=by
 unfold aM;by_cases e:c∈cs
 ·rw[if_pos e,if_pos e];exact pI hv r
 ·rw[if_neg e,if_neg e];exact mO hv r
theorem yf{as:List Addr}{cs:List (List Int)}(k:cE T as cs){b:Addr}{c:List Int}(hb:T b (c.map V.int)):cE T (qM cs as c b) (ax cs c):=by
 unfold qM ax;by_cases e:c∈cs
 ·rw[if_pos e,if_pos e];exact k
 ·rw[if_neg e,if_neg e];refine⟨by rw[List.length_append,List.length_append,k.len];rfl,λj a c' ha hc=>?_⟩;by_cases hj:j<as.length
  ·rw[List.getElem?_append_left hj]at ha;rw[List.getElem?_append_left (by rw[<- k.len];exact hj)]at hc;exact k.tup j a c' ha hc
  ·rw[List.getElem?_append_right (by left)]at ha;rw[List.getElem?_append_right (by rw[<- k.len];left),<- k.len]at hc;cases hz:j - as.length with
   | zero =>
    rw[hz]at ha hc;cases ha;cases hc;exact hb
   | succ m=>rw[hz]at ha;cases ha
variable {τ:Addr->Option az}
theorem bj.newD{G:Addr->Prop}{fv:List Nat}{p:Addr}(hp:H p=none)(hl:H' p=some (.ext (DO p [] [] [] 0))):bj K G R τ fv H H' (.ref p) (.aZ .ow [] []):=by
 refine⟨λq=>if q=p then some []else none,λq k hq=>?_,.aZ (ep:=0) (as:=[]) (xs:=[]) ⟨hl,by simp⟩ ⟨rfl,λj a c h=>by simp at h⟩ .nil⟩;by_cases rW:q=p
 ·subst rW;exact hp
 ·simp[rW]at hq
noncomputable def qt(xs:List D):O D:=match xs with
 | []=>ok (.aZ .ow [] [])
 | _::_=>none
noncomputable def oF(_:Scope)(_:List Str)(e:Expr):Option (List Expr):=match e with
 | .Dict [] [] _=>some []
 | _=>none
variable {args:List Expr}
theorem Bt{n:Nat}(hΦ:Φ n=qt){sc:Scope}{bl:List Str}{k:Nat}(L:PX X sc bl k){e:Expr}(he:oF sc bl e=some args)(hs:my X F Φ cs args):PE X e (tD X F Φ (.cm n cs))/\PT X e (ft X F Φ (.cm n cs)):=by
 have h1:∃ pos,e=.Dict [] [] pos/\args=[]:=by
  unfold oF at he;split at he
  ·cases he;exact⟨_,rfl,rfl⟩
  ·cases he
 obtain⟨pos,rfl,rfl⟩:=h1;cases cs with
 | cons _ _=>exact hs.elim
 | nil =>
  have this:PE X (.Dict [] [] pos) (tD X F Φ (.cm n [])):=by
   refine PE.imp (AD (X:=X) (pos:=pos)) λσ H Q hq p hp=>?_;obtain⟨R,τ,ρ,d,Si,ev,hq⟩:=hq;have ev:Φ n []=ok d:=ev;rw[hΦ]at ev;cases ev;exact hq _ _ (ai.upd hp) (bj.newD hp aB)
  exact⟨this,bW this λ_=>rfl⟩
noncomputable def three{α:Type}:List α->Option (α×α×α)
 | [a,b,c]=>some (a,b,c)
 | _=>none
theorem pb{α:Type}{l:List α}{z:α×α×α}(h:three l=some z):l=[z.1,z.2.1,z.2.2]:=by
 unfold three at h;split at h
 ·cases h;rfl
 ·cases h
noncomputable def cS:D->Option (List (List Int)×List D)
 | .aZ _ cs vs=>some (cs,vs)
 | _=>none
def keyOf:D->Option (List Int)
 | .tup ks=>intsOf ks
 | _=>none
theorem fN{d:D}{z:List (List Int)×List D}(h:cS d=some z):∃ f,d=.aZ f z.1 z.2:=by
 cases d<;>first | (cases h;done) | (cases h;exact⟨_,rfl⟩)
theorem iB{d:D}{c:List Int}(h:keyOf d=some c):d=.tup (c.map D.int):=by
 cases d<;>first | (cases h;done) | skip
 rw[gb (show intsOf _=some c from h)]
def sk(xs:List D):O D:=match two xs with
 | some z=>match cS z.1 with
  | some d=>match keyOf z.2 with
   | some c=>match aS d.1 d.2 c with
    | some v=>if ak anyF v=false then ok v else none
    | none=>none
   | none=>none
  | none=>none
 | none=>none
theorem Bw{r:D}(h:sk xs=ok r):∃ f cs vs c,xs=[.aZ f cs vs,.tup (c.map D.int)]/\aS cs vs c=some r/\ak anyF r=false:=by
 unfold sk at h;cases h1:two xs with
 | none=>rw[h1]at h;cases h
 | some z =>
  rw[h1]at h;have h:(match cS z.1 with | some d=>(match keyOf z.2 with | some c=>(match aS d.1 d.2 c with | some v=>if ak anyF v=false then ok v else none | none=>none) | none=>none) | none=>none)=ok r:=h;cases h2:cS z.1 with
  | none=>rw[h2]at h;cases h
  | some d =>
   rw[h2]at h;have h:(match keyOf z.2 with | some c=>(match aS d.1 d.2 c with | some v=>if ak anyF v=false then ok v else none | none=>none) | none=>none)=ok r:=h;cases h3:keyOf z.2 with
   | none=>rw[h3]at h;cases h
   | some c =>
    rw[h3]at h;have h:(match aS d.1 d.2 c with | some v=>if ak anyF v=false then ok v else none | none=>none)=ok r:=h;cases h4:aS d.1 d.2 c with
    | none=>rw[h4]at h;cases h
    | some v =>
     rw[h4]at h;obtain⟨hf,rfl⟩:=uf (show(if ak anyF v=false then ok v else none)=ok r from h);obtain⟨f,e1⟩:=fN h2;exact⟨f,d.1,d.2,c,by rw[i3 h1,e1,iB h3],h4,hf⟩
def MQ(K:PySem.W.Frag):R2:=λx y H Q=>∃ p b cs as xs ep c v,x=.ref p/\y=.ref b/\H p=some (.ext (DO p cs as xs ep))/\cE (ao K H) as cs/\ao K H b (c.map V.int)/\aS cs xs c=some v/\Q v H
theorem A6(hu:X.A.units+1<cLine):CY X (MQ X.K):=by
 intro value slice pins s σ H x y v u Q I rx ry h hs;obtain⟨p,b,cs,as,xs,ep,c,w,rfl,rfl,hp,hk,hb,hg,q⟩:=h;cases rx;cases ry;obtain⟨zs,o,es,e1,e2,e3,ho,hx,hd,dd,_,hl,vJ⟩:=kf I hp hk;have Qu:=kK (cs:=cs) e3 c;rw[hg]at Qu;obtain⟨u,Lx,ru⟩:=l4.some_of Qu;have:(atKey zs c).map (·.2)=some u:=by rw[jo,e1];exact Lx
 obtain⟨q',SE,rfl⟩:=Option.map_eq_some_iff.mp this;exact Wd (x:=q'.2) dd.typeIs PySem.F.slot_dict_getitem.lookup
  (wpAny_getItem_heap (Q:=λr s'=>r=q'.2/\EP X pins σ Q r s') (WI hu) (ll I hb) dd SE ⟨rfl,w,H,I.tok _,ru,q⟩) hs
def sI(_:Scope)(_:List Str)(e:Expr):Option (List Expr):=match jN e with
 | some z=>some [z.1,z.2]
 | none=>none
theorem F3{n:Nat}(hΦ:Φ n=sk){sc:Scope}{bl:List Str}{k:Nat}(L:PX X sc bl k){e:Expr}(he:sI sc bl e=some args)(hs:my X F Φ cs args):PE X e (tD X F Φ (.cm n cs))/\PT X e (ft X F Φ (.cm n cs)):=by
 unfold sI at he;cases h1:jN e with
 | none=>rw[h1]at he;cases he
 | some z =>
  rw[h1]at he;cases he;obtain⟨pos,rfl⟩:=ib h1;obtain⟨⟨c1,c2,rfl,p1,p2⟩,_⟩:=nP hs;have this:PE X (.Subscript z.1 z.2 pos) (tD X F Φ (.cm n [c1,c2])):=by
   refine PE.imp (xJ (A6 (yq L.room)) p1 p2 hs.2.2.2.2.2.1) λσ H Q hq=>?_;obtain⟨R,τ,ρ,d,Si,ev,hq⟩:=hq;obtain⟨xs,bU,ev⟩:=ab ev;rw[hΦ]at ev;obtain⟨f,cs,vs,c,rfl,hg,hf⟩:=Bw ev;obtain⟨x,ex,bU⟩:=ab bU;obtain⟨ys,yO,bU⟩:=ab bU;obtain⟨y,ey,OG⟩:=ab yO;cases OG;cases bU;refine tD.intro Si ex λv H1 e1 r1=>tD.intro (Si.go e1) ey λu H2 e2 r2=>?_;obtain⟨τ1,f1,q1⟩:=r1;obtain⟨τ2,f2,q2⟩:=r2;cases q1 with
   | aZ hn hk hr=>cases q2 with
    | tup ht JF =>
     cases JF.ofInts;rcases k9 hr c with ⟨_,hz⟩ | ⟨w,d',k',g1,g2,g3,_⟩
     ·rw[hg]at hz;cases hz
     ·rw[hg]at g2;cases g2;refine⟨_,_,_,_,_,_,c,w,rfl,rfl,e2 _ _ hn.dat,hk.imp λ_ _ h=>ao.same e2 h,ht,g1,hq w H2 (e1.trans e2) ⟨λ_=>none,λ_ _ h=>by simp at h,?_⟩⟩;exact(f7 (N':=nd X.K R (gM (gP X F) τ (fw (.cm n [c1,c2]))) (λ_=>none) H1) (k':=[]) g3 hf).imp (λ_ _ h=>ao.same e2 h) λ_ _ _ _ h=>nd.same e2 h
  exact⟨this,bW this λ_=>rfl⟩
def lR(xs:List D):O D:=match three xs with
 | some z=>match cS z.1 with
  | some d=>match keyOf z.2.1 with
   | some c=>if aj anyF d.2=false/\ak anyF z.2.2=false then ok ((aS d.1 d.2 c).getD z.2.2)else none
   | none=>none
  | none=>none
 | none=>none
theorem ze{r:D}(h:lR xs=ok r):∃ f cs vs c x,xs=[.aZ f cs vs,.tup (c.map D.int),x]/\aj anyF vs=false/\ak anyF x=false/\r=(aS cs vs c).getD x:=by
 unfold lR at h;cases h1:three xs with
 | none=>rw[h1]at h;cases h
 | some z =>
  rw[h1]at h;have h:(match cS z.1 with | some d=>(match keyOf z.2.1 with | some c=>if aj anyF d.2=false/\ak anyF z.2.2=false then ok ((aS d.1 d.2 c).getD z.2.2)else none | none=>none) | none=>none)=ok r:=h;cases h2:cS z.1 with
  | none=>rw[h2]at h;cases h
  | some d =>
   rw[h2]at h;have h:(match keyOf z.2.1 with | some c=>if aj anyF d.2=false/\ak anyF z.2.2=false then ok ((aS d.1 d.2 c).getD z.2.2)else none | none=>none)=ok r:=h;cases h3:keyOf z.2.1 with
   | none=>rw[h3]at h;cases h
   | some c =>
    rw[h3]at h;obtain⟨⟨hf,hx⟩,rfl⟩:=uf (show(if aj anyF d.2=false/\ak anyF z.2.2=false then ok ((aS d.1 d.2 c).getD z.2.2)else none)=ok r from h);obtain⟨f,e1⟩:=fN h2;exact⟨f,d.1,d.2,c,z.2.2,by rw[pb h1,e1,iB h3],hf,hx,rfl⟩
def km(_:Scope)(_:List Str)(e:Expr):Option (List Expr):=match jB ("get" : Str) (.Expr e ⟨0,0,0,0⟩)with
 | some z=>match two z.2 with
  | some y=>if isNm z.1=true then some [z.1,y.1,y.2]else none
  | none=>none
 | none=>none
theorem sJ{sc:Scope}{bl:List Str}{e:Expr}(h:km sc bl e=some args):∃ x p p1 p2 a b,e=.Call (.Attribute (.Name x p) ("get" : Str) p1) [a,b] [] p2/\args=[.Name x p,a,b]/\(p1.endLine==p2.line)=true:=by
 unfold km at h;cases h1:jB ("get" : Str) (.Expr e ⟨0,0,0,0⟩)with
 | none=>rw[h1]at h;cases h
 | some z =>
  obtain⟨o,as⟩:=z;rw[h1]at h;have h2:(match two as with | some y=>if isNm o=true then some [o,y.1,y.2]else none | none=>none)=some args:=h;clear h;cases h3:two as with
  | none=>rw[h3]at h2;cases h2
  | some y =>
   rw[h3]at h2;have h4:(if isNm o=true then some [o,y.1,y.2]else none)=some args:=h2;clear h2;by_cases hn:isNm o=true
   ·rw[if_pos hn]at h4;cases h4;obtain⟨p1,p2,pos,e1,hl⟩:=kM h1;cases e1;cases o<;>first | (cases hn;done) | skip
    rw[i3 h3];exact⟨_,_,_,_,_,_,rfl,rfl,hl⟩
   ·rw[if_neg hn]at h4;cases h4
theorem vp{x:Str}{p p1 p2:Pos}{a b:Expr}{td:TE}{ta:TA}(hu:X.A.units+1<cLine)(ho:PE X (.Name x p) td)(ha:PA X [a,b] ta)(s1:∀ es,starEach (a::es) X.env=(false,eval a X.env)::starEach es X.env)(s2:∀ es,starEach (b::es) X.env=(false,eval b X.env)::starEach es X.env)(hl:(p1.endLine==p2.line)=true):
  PE X (.Call (.Attribute (.Name x p) ("get" : Str) p1) [a,b] [] p2) (λσ H Q=>td σ H λv H1=>∃ q cs as xs ep,v=.ref q/\H1 q=some (.ext (DO q cs as xs ep))/\ta σ H1 λys H2=>∃ k c z,ys=[.ref k,z]/\H2 q=some (.ext (DO q cs as xs ep))/\cE (ao X.K H2) as cs/\ao X.K H2 k (c.map V.int)/\Q ((aS cs xs c).getD z) H2):=by
 intro pins s σ H Q I h;refine wpAny_Call_method rfl (by rw[s1,s2];rfl) hl PySem.F.plainAttrs_dict PySem.F.slot_dict_get PySem.F.type_dict_get (bV (ho pins s σ H _ I h) λu RN ⟨v,H1,I1,rx,q,cs,as,xs,ep,ex,hd,q1⟩=>?_);subst ex;obtain rfl:u=Value.ref q:=rx;obtain⟨t1,t2⟩:=dict_cls I1 hd;refine⟨t1,t2,?_⟩;have hA:=ha p2 pins RN σ H1 _ I1 q1;rw[s1]at hA ⊢;refine Wf (by show(false||(backTo p2 (starEach [b] X.env)).any (·.1))=false;rw[s2];rfl) (Calls.evalArgs_plain ?_);refine bV hA λus s3 ⟨ys,H2,I2,r2,k,c,z,ey,hd2,hk,hb,q2⟩=>?_;subst ey;obtain⟨w1,w2,rfl,RP,RO⟩:=vals2 r2;cases RP;exact BC hu I2 hd2 hk hb RO λw' s4 I4 iw=>⟨_,H2,I4,iw,q2⟩
theorem BA{n:Nat}(hΦ:Φ n=lR){sc:Scope}{bl:List Str}{k:Nat}(L:PX X sc bl k){e:Expr}(he:km sc bl e=some args)(hs:my X F Φ cs args):PE X e (tD X F Φ (.cm n cs))/\PT X e (ft X F Φ (.cm n cs)):=by
 obtain⟨x,p,p1,p2,a,b,rfl,rfl,hl⟩:=sJ he;cases cs with
 | nil=>exact hs.elim
 | cons c0 cs =>
  obtain⟨h0,_,_,ER⟩:=hs;obtain⟨⟨c1,c2,rfl,_,_⟩,pa,s1,s2⟩:=nP ER;have this:PE X (.Call (.Attribute (.Name x p) ("get" : Str) p1) [a,b] [] p2) (tD X F Φ (.cm n [c0,c1,c2])):=by
   refine PE.imp (vp (yq L.room) h0 pa s1 s2 hl) λσ H Q hq=>?_;obtain⟨R,τ,ρ,d,Si,ev,hq⟩:=hq;obtain⟨xs,bU,ev⟩:=ab ev;rw[hΦ]at ev;obtain⟨f,cs,vs,c,y,rfl,hf,hy,rfl⟩:=ze ev;obtain⟨x0,ex,bU⟩:=ab bU;obtain⟨ys,yO,bU⟩:=ab bU;cases bU;refine tD.intro Si ex λv H1 e1 r1=>?_;obtain⟨τ1,f1,q1⟩:=r1;cases q1 with
   | aZ hn hk hr =>
    refine⟨_,_,_,_,_,rfl,hn.dat,R,τ,ρ,_,Si.go e1,yO,λus H2 e2 r2=>?_⟩;obtain⟨τ2,f2,q2⟩:=r2;obtain⟨u1,u2,rfl,RS,MK⟩:=q2.two;obtain⟨_,_,rfl,ht,JF⟩:=RS.wN;cases JF.ofInts;refine⟨_,c,u2,rfl,e2 _ _ hn.dat,hk.imp λ_ _ h=>ao.same e2 h,ht,?_⟩;refine hq _ H2 (e1.trans e2) ⟨λ_=>none,λ_ _ h=>by simp at h,?_⟩;rcases k9 hr c with ⟨g1,g2⟩ | ⟨w,d',k',g1,g2,g3,g4⟩
    ·rw[g1,g2];exact f7 (T:=ao X.K H2) MK hy
    ·rw[g1,g2];exact(f7 (N':=nd X.K R (gM (gP X F) τ (fw (.cm n [c0,c1,c2]))) (λ_=>none) H1) (k':=[]) g3 (mX hf _ g4)).imp (λ_ _ h=>ao.same e2 h) λ_ _ _ _ h=>nd.same e2 h
  exact⟨this,bW this λ_=>rfl⟩
def lO(xs:List D):O D:=match three xs with
 | some z=>match z.1 with
  | .aZ f cs vs=>match keyOf z.2.2 with
   | some c=>if bo f=true/\ak anyF z.2.1=false/\cs.length<fm then ok (.aZ .ow (ax cs c) (aM cs vs c z.2.1))else none
   | none=>none
  | _=>none
 | none=>none
theorem qr{d:D}{r:D}(h:lO (d::xs)=ok r):∃ cs vs c x,d=.aZ .ow cs vs/\xs=[x,.tup (c.map D.int)]/\ak anyF x=false/\cs.length<fm/\r=.aZ .ow (ax cs c) (aM cs vs c x):=by
 unfold lO at h;cases h1:three (d::xs)with
 | none=>rw[h1]at h;cases h
 | some z =>
  rw[h1]at h;have e0:=pb h1;obtain⟨d',x,y⟩:=z;obtain⟨rfl,rfl⟩:d=d'/\xs=[x,y]:=Wj e0;cases d<;>first | (cases h;done) | skip
  rename_i f cs vs;have h:(match keyOf y with | some c=>if bo f=true/\ak anyF x=false/\cs.length<fm then ok (D.aZ .ow (ax cs c) (aM cs vs c x))else none | none=>none)=ok r:=h;cases h3:keyOf y with
  | none=>rw[h3]at h;cases h
  | some c =>
   rw[h3]at h;obtain⟨⟨hf,hx,hl⟩,rfl⟩:=uf (show(if bo f=true/\ak anyF x=false/\cs.length<fm then ok (D.aZ .ow (ax cs c) (aM cs vs c x))else none)=ok r from h);cases f<;>first | (cases hf;done) | exact⟨cs,vs,c,x,rfl,by rw[iB h3],hx,hl,rfl⟩
def ki(_:Scope)(_:List Str)(st:Stmt):Option (Expr×List Expr):=match qY st with
 | some z=>match one z.1 with
  | some t=>match jN t with
   | some y=>some (y.1,[z.2,y.2])
   | none=>none
  | none=>none
 | none=>none
variable {o value:Expr}{st:Stmt}
theorem sH{sc:Scope}{bl:List Str}(h:ki sc bl st=some (o,args)):∃ v i pos' pos,st=.Assign [.Subscript o i pos'] v pos/\args=[v,i]:=by
 unfold ki at h;cases h1:qY st with
 | none=>rw[h1]at h;cases h
 | some z =>
  obtain⟨ts,v⟩:=z;rw[h1]at h;have h2:(match one ts with | some t=>(match jN t with | some y=>some (y.1,[v,y.2]) | none=>none) | none=>none)=some (o,args):=h;clear h;cases h3:one ts with
  | none=>rw[h3]at h2;cases h2
  | some t =>
   rw[h3]at h2;have h4:(match jN t with | some y=>some (y.1,[v,y.2]) | none=>none)=some (o,args):=h2;clear h2;cases h5:jN t with
   | none=>rw[h5]at h4;cases h4
   | some y =>
    rw[h5]at h4;cases h4;obtain⟨pos,rfl⟩:=ic h1;obtain rfl:=b6 h3;obtain⟨p,rfl⟩:=ib h5;exact⟨_,_,_,_,rfl,rfl⟩
mutual
theorem any_map(g:Fl->Fl):∀ d:D,ak anyF (aw g d)=ak anyF d
 | .aL=>rfl
 | .bl _=>rfl
 | .int _=>rfl
 | .tup ds=>qL g ds
 | .lst _ ds=>rfl
 | .aZ _ _ ds=>rfl
theorem qL(g:Fl->Fl):∀ ds:List D,aj anyF (ag g ds)=aj anyF ds
 | []=>rfl
 | d::ds=>by show(ak _ _||aj _ _)=(ak _ d||aj _ ds);rw[any_map g d,qL g ds]
end
mutual
theorem sQ:∀ d:D,ak anyF d=false->ak aQ d=false
 | .aL,_=>rfl
 | .bl _,_=>rfl
 | .int _,_=>rfl
 | .tup ds,h=>uX ds h
 | .lst _ ds,h=>nomatch h
 | .aZ _ _ ds,h=>nomatch h
theorem uX:∀ ds:List D,aj anyF ds=false->aj aQ ds=false
 | [],_=>rfl
 | d::ds,h=>by
  have h:=Cs h;show(ak _ d||aj _ ds)=false;rw[sQ d h.1,uX ds h.2];rfl
end
theorem any_ints:∀ c:List Int,aj anyF (c.map D.int)=false
 | []=>rfl
 | i::c=>any_ints c
theorem Dg{i:Expr}{l:Nat}{env:Env}:swapsWith value (some (.Subscript o i pos')) l env=pure false:=by
 unfold swapsWith;cases value<;>rfl
theorem xA{x:Str}{p0:Pos}{i:Expr}{tv to ti:TE}(hu:X.A.units+1<cLine)(hv:PE X value tv)(ho:PE X (.Name x p0) to)(hi:PE X i ti):
  PS X (.Assign [.Subscript (.Name x p0) i pos'] value pos) (λD σ H=>tv σ H λv H1=>to σ H1 λo H2=>ti σ H2 λy H3=>∃ q b cs as xs ep c,o=.ref q/\y=.ref b/\H3 q=some (.ext (DO q cs as xs ep))/\cE (ao X.K H3) as cs/\ao X.K H3 b (c.map V.int)/\cs.length<sizeLine /\
   ∀ m_,D.nx σ (upd H3 q (.ext (DO q (ax cs c) (qM cs as c b) (aM cs xs c v) m_)))):=by
 intro pins s σ H D I h;refine wpAny_Assign_Subscript (bV (hv pins s σ H _ I h) λr s1 ⟨v,H1,I1,rv,q1⟩=>bV (ho pins s1 σ H1 _ I1 q1) λu s2 ⟨o,H2,I2,rx,q2⟩=>bV (hi pins s2 σ H2 _ I2 q2) λiv s3 ⟨y,H3,I3,ry,q,b,cs,as,xs,ep,c,eo,ey,hd,hk,hb,hl,q3⟩=>?_) Dg;subst eo ey;obtain rfl:u=Value.ref q:=rx;obtain rfl:iv=Value.ref b:=ry;exact sv hu I3 hd hk hb rv hl λm_ s4 I4=>⟨σ,_,I4,q3 m_⟩
theorem SI.Iv{ρ:au}{σ:St}{i:Nat}{cs:List (List Int)}(Si:SI X F R τ ρ σ H)(hi:ρ[i]?=some (some (.aZ .ow cs ds))):
  ∃ p as xs ep,σ[i]?=some (some (.ref p))/\H p=some (.ext (DO p cs as xs ep))/\τ p=some [i]/\cE (ao X.K H) as cs/\ae (ao X.K H) (nd X.K R (λ_=>False) τ H) [i] 0 xs ds:=by
 obtain⟨v,hv,rp⟩:=Si.rep i _ hi;cases rp with
 | aZ h k r=>exact⟨_,_,_,_,hv,h.1,h.2,k,r⟩
theorem Bs{n:Nat}(hΦ:Φ n=lO){sc:Scope}{bl:List Str}{k:Nat}(L:PX X sc bl k)(hN:X.N.Nodup)(rZ:∀ x,X.fn x=true){x:Str}(he:ki sc bl st=some (.Name x pos,args))
  {i:Nat} (hi:X.N[i]?=some x) (hl:L2.Loc X.env.scope x) (pe:PE X (.Name x pos) (vh i)) (hs:my X F Φ cs args):PS X st (oT X F Φ (.mut n i cs)):=by
 obtain⟨v,ix,p1,p2,rfl,rfl⟩:=sH he;obtain⟨⟨c1,c2,rfl,h1,h2⟩,_⟩:=nP hs;refine PS.imp (xA (yq L.room) h1 pe h2) λD σ H hq=>?_;obtain⟨R,τ,ρ,r,Si,ev,hq⟩:=hq;obtain⟨xs,bU,ev⟩:=ab ev;obtain⟨y,ey,bU⟩:=ab bU;obtain⟨ys,yO,bU⟩:=ab bU;cases bU;obtain⟨kd,ek,OG⟩:=ab yO;cases OG;have key:∃ cs vs c,kd=.tup (c.map DI.D.int)/\ρ[i]?=some (some (.aZ .ow cs vs))/\ak anyF y=false/\cs.length<fm/\r=(.nx,ρ.set i (some (.aZ .ow (ax cs c) (aM cs vs c y)))):=by
  cases hz:aj aQ [y,kd]with
  | true =>
   obtain⟨d,d',h⟩:=x3 ev hz;rw[hΦ]at h;obtain⟨cs,vs,c,x',_,e1,e2,_⟩:=qr h;have e3:aw aC y=x'/\aw aC kd=.tup (c.map DI.D.int):=by
    have:=Wj e1;exact⟨this.1,(Wj this.2).1⟩
   have a1:ak aQ y=false:=sQ y (by rw[<- any_map aC y,e3.1];exact e2);have a2:ak aQ kd=false:=sQ kd (by rw[<- any_map aC kd,e3.2];exact any_ints c);have:aj aQ [y,kd]=false:=by show(ak aQ y||(ak aQ kd||false))=false;rw[a1,a2];rfl
   rw[this]at hz;cases hz
  | false =>
   obtain⟨d,d',h,h',rfl⟩:=tV ev hz;rw[hΦ]at h';obtain⟨cs,vs,c,x',rfl,e1,e2,e3,rfl⟩:=qr h';cases e1;exact⟨cs,vs,c,rfl,h,e2,e3,rfl⟩
 obtain⟨cs,vs,c,rfl,ho,hf,hc,rfl⟩:=key;obtain⟨p,as,zs,ep,hv,hd,ht,hk,rs⟩:=Si.Iv ho;refine tD.intro Si ey λu H1 e1 ru=>⟨.ref p,hv,tD.intro (Si.go e1) ek λw H2 e2 iw=>?_⟩
 obtain⟨τ1,f1,q1⟩:=ru;obtain⟨τ2,f2,q2⟩:=iw;cases q2 with
 | @tup _ b _ _ hb JF =>
  cases JF.ofInts;have es:=e1.trans e2;have qO:=Si.go es;have hd2:=es _ _ hd;have qf:fm=1000000:=rfl;have hz:sizeLine=16777216:=V3;refine⟨p,b,cs,as,zs,ep,c,rfl,rfl,hd2,hk.imp λ_ _ h=>ao.same es h,hb,by left,λm_=>?_⟩;have hn:cN H2 p (.d cs as zs ep):=hd2;have rk:fR X R τ H2 u y:=k_ ((f7 (N':=nd X.K R (λ_=>False) τ H1) (k':=[]) q1 hf).imp (λ_ _ h=>ao.same e2 h) λ_ _ _ _ h=>nd.same e2 h) hf;obtain⟨p',L0,B4,TU,Jx,EZ,Qj,CF,hJ⟩:=qO.Iv ho;rw[hv]at Jx;cases Jx;rw[hd2]at EZ;obtain⟨τ3,sR⟩:=qO.Ih (m:=0) (n':=.d (ax cs c) (qM cs as c b) (aM cs zs c u) m_) (o:=.ext (DO p (ax cs c) (qM cs as c b) (aM cs zs c u) m_)) (d1:=.aZ .ow (ax cs c) (aM cs vs c y)) (xs':=aM cs zs c u) (ds':=aM cs vs c y) ho hv hn ht (rs.imp (λ_ _ h=>ao.same es h) λ_ _ _ _ h=>nd.same es h) rk aB
   (λhN r=>.aZ hN (yf ((hk.imp λ_ _ h=>ao.same es h).imp λ_ _ h=>rq hn h) (rq hn hb)) r) (λrs r=>xl (λk=>f7 r hf) rs)
  exact hq σ _ R τ3 sR (je qO es (λ_ h=>h) hn ht)
end DI
end
section
namespace DI
open PySem PySem.Spec PyProof.Rows L2 PySem.W
noncomputable def bG{α:Type}(lt:Nat->Nat->Bool):KasT α->α
 | .ret a=>a
 | .ask i j k=>bG lt (k (lt i j))
theorem eB{α β:Type}(lt:Nat->Nat->Bool)(f:α->KasT β):∀ t:KasT α,bG lt (t.bind f)=bG lt (f (bG lt t))
 | .ret a=>rfl
 | .ask i j k=>eB lt f (k (lt i j))
section
noncomputable def gn{α:Type}(n:Nat)(lt:Nat->Nat->Bool):KasT α->Prop
 | .ret _=>True
 | .ask i j k=>i<n/\j<n/\gn n lt (k (lt i j))
end
theorem uV{α:Type}{cmp:Nat->Nat->(Bool->Shared->Prop)->Shared->Prop}{lt:Nat->Nat->Bool}{s:Shared}{n:Nat}(hc:∀ i j C,i<n->j<n->C (lt i j) s->cmp i j C s){Q:α->Shared->Prop}:
  ∀(t:KasT α),gn n lt t->Q (bG lt t) s->t.kasWp cmp Q s
 | .ret a,_,h=>h
 | .ask i j k,⟨h1,h2,h3⟩,h=>hc i j _ h1 h2 (uV hc (k (lt i j)) h3 h)
theorem cZ{α β:Type}{lt:Nat->Nat->Bool}{n:Nat}{f:α->KasT β}:∀ {t:KasT α},gn n lt t->gn n lt (f (bG lt t))->gn n lt (t.bind f)
 | .ret _,_,h=>h
 | .ask i j k,⟨h1,h2,h3⟩,h=>⟨h1,h2,cZ h3 h⟩
structure Ord(lt:Nat->Nat->Bool)(n:Nat):Prop where
 tr:∀ a b c,a<n->b<n->c<n->lt a b=true->lt b c=true->lt a c=true
 as:∀ a b,a<n->b<n->lt a b=true->lt b a=false
 KY:∀ a b,a<n->b<n->a≠b->lt a b=true\/lt b a=true
structure Arr(p:Array Nat)(n:Nat):Prop where
 sz:p.size=n
 pm:p.toList.Perm (List.range n)
section
variable {lt:Nat->Nat->Bool}{n:Nat}{p:Array Nat}
theorem Arr.bd(h:Arr p n){i:Nat}(hi:i<n):p.getD i 0<n:=by
 have jg:i<p.size:=by rw[h.sz];exact hi
 have:p.getD i 0=p[i]:=by simp[Array.getD,jg]
 rw[this];have hm:p[i]∈p.toList:=Array.getElem_mem_toList jg;exact List.mem_range.mp (h.pm.mem_iff.mp hm)
theorem Arr.inj(h:Arr p n){i j:Nat}(hi:i<n)(hj:j<n)(e:p.getD i 0=p.getD j 0):i=j:=by
 have jg:i<p.toList.length:=by rw[Array.length_toList,h.sz];exact hi
 have UY:j<p.toList.length:=by rw[Array.length_toList,h.sz];exact hj
 have nd:p.toList.Nodup:=h.pm.nodup_iff.mpr List.nodup_range;have e1:p.getD i 0=p.toList[i]:=by simp[Array.getD,show i<p.size by rw[h.sz];exact hi]
 have e2:p.getD j 0=p.toList[j]:=by simp[Array.getD,show j<p.size by rw[h.sz];exact hj]
 rw[e1,e2]at e;exact(WQ nd).mp e
noncomputable def Up(lt:Nat->Nat->Bool)(p:Array Nat)(k:Nat):Prop:=∀ i j,i<j->j<k->lt (p.getD i 0) (p.getD j 0)=true
noncomputable def Dn(lt:Nat->Nat->Bool)(p:Array Nat)(k:Nat):Prop:=∀ i j,i<j->j<k->lt (p.getD j 0) (p.getD i 0)=true
theorem Up.snoc(O:Ord lt n)(h:Arr p n){k:Nat}(hk:k<n)(h1:1<=k)(u:Up lt p k)(hl:lt (p.getD (k - 1) 0) (p.getD k 0)=true):Up lt p (k+1):=λi j gi hj=>by
 by_cases e:j=k
 ·subst e;by_cases e2:i=j - 1
  ·subst e2;exact hl
  ·exact O.tr _ _ _ (h.bd (by left)) (h.bd (by left)) (h.bd hk) (u i (j - 1) (by left) (by left)) hl
 ·exact u i j gi (by left)
theorem Dn.snoc(O:Ord lt n)(h:Arr p n){k:Nat}(hk:k<n)(h1:1<=k)(u:Dn lt p k)(hl:lt (p.getD k 0) (p.getD (k - 1) 0)=true):Dn lt p (k+1):=λi j gi hj=>by
 by_cases e:j=k
 ·subst e;by_cases e2:i=j - 1
  ·subst e2;exact hl
  ·exact O.tr _ _ _ (h.bd hk) (h.bd (by left)) (h.bd (by left)) hl (u i (j - 1) (by left) (by left))
 ·exact u i j gi (by left)
theorem oP(O:Ord lt n)(h:Arr p n):∀(f k:Nat),1<=k->k+f<=n->Up lt p k->gn n lt (kas_asc p f k)/\k<=bG lt (kas_asc p f k)/\bG lt (kas_asc p f k)<=k+f/\Up lt p (bG lt (kas_asc p f k))
 | 0,k,_,_,u=>⟨trivial,Vc _,Vc _,u⟩
 | f+1,k,h1,hf,u=>by
  have a1:p.getD k 0<n:=h.bd (by left);have a2:p.getD (k - 1) 0<n:=h.bd (by left);cases c:lt (p.getD k 0) (p.getD (k - 1) 0)with
  | true =>
   have e:bG lt (kas_asc p (f+1) k)=k:=by
    show bG lt (if lt (p.getD k 0) (p.getD (k - 1) 0)=true then .ret k else kas_asc p f (k+1))=k;rw[c];rfl
   refine⟨⟨a1,a2,?_⟩,by rw[e];exact Vc _,by rw[e];left,by rw[e];exact u⟩;show gn n lt (if lt (p.getD k 0) (p.getD (k - 1) 0)=true then .ret k else kas_asc p f (k+1));rw[c];trivial
  | false =>
   have e:bG lt (kas_asc p (f+1) k)=bG lt (kas_asc p f (k+1)):=by
    show bG lt (if lt (p.getD k 0) (p.getD (k - 1) 0)=true then .ret k else kas_asc p f (k+1))=_;rw[c];rfl
   have hl:lt (p.getD (k - 1) 0) (p.getD k 0)=true:=by
    rcases O.KY _ _ a2 a1 (λz=>absurd (h.inj (by left) (by left) z) (by left))with z | z
    ·exact z
    ·rw[c]at z;cases z
   obtain⟨b1,b2,b3,b4⟩:=oP O h f (k+1) (by left) (by left) (u.snoc O h (by left) h1 hl);refine⟨⟨a1,a2,?_⟩,by rw[e];left,by rw[e];left,by rw[e];exact b4⟩;show gn n lt (if lt (p.getD k 0) (p.getD (k - 1) 0)=true then .ret k else kas_asc p f (k+1));rw[c];exact b1
theorem uG(O:Ord lt n)(h:Arr p n):∀(f k:Nat),1<=k->k+f<=n->Dn lt p k->gn n lt (kas_desc f p k 0)/\∃ m,bG lt (kas_desc f p k 0)=(p,m,0)/\k<=m/\m<=k+f/\Dn lt p m
 | 0,k,_,_,u=>⟨trivial,k,rfl,Vc _,Vc _,u⟩
 | f+1,k,h1,hf,u=>by
  have a1:p.getD k 0<n:=h.bd (by left);have a2:p.getD (k - 1) 0<n:=h.bd (by left);cases c:lt (p.getD k 0) (p.getD (k - 1) 0)with
  | true =>
   obtain⟨b1,m,b2,b3,b4,b5⟩:=uG O h f (k+1) (by left) (by left) (u.snoc O h (by left) h1 c);have e:kas_desc (f+1) p k 0=.ask (p.getD k 0) (p.getD (k - 1) 0) λc=>if c=true then(if (0:Nat)>0 then kas_desc f (kas_rev p (k - (0+1)) k) (k+1) 0 else kas_desc f p (k+1) 0)else .ask (p.getD (k - 1) 0) (p.getD k 0) λd=>if d=true then .ret (p,k,0)else kas_desc f p (k+1) (0+1):=rfl
   rw[e];refine⟨⟨a1,a2,?_⟩,m,?_,by left,by left,b5⟩
   ·rw[c];exact b1
   ·show bG lt (if lt (p.getD k 0) (p.getD (k - 1) 0)=true then _ else _)=_;rw[c];exact b2
  | false =>
   have hl:lt (p.getD (k - 1) 0) (p.getD k 0)=true:=by
    rcases O.KY _ _ a2 a1 (λz=>absurd (h.inj (by left) (by left) z) (by left))with z | z
    ·exact z
    ·rw[c]at z;cases z
   have e:kas_desc (f+1) p k 0=.ask (p.getD k 0) (p.getD (k - 1) 0) λc=>if c=true then(if (0:Nat)>0 then kas_desc f (kas_rev p (k - (0+1)) k) (k+1) 0 else kas_desc f p (k+1) 0)else .ask (p.getD (k - 1) 0) (p.getD k 0) λd=>if d=true then .ret (p,k,0)else kas_desc f p (k+1) (0+1):=rfl
   rw[e];refine⟨⟨a1,a2,?_⟩,k,?_,Vc _,by left,u⟩
   ·rw[c];exact⟨a2,a1,by rw[hl];trivial⟩
   ·show bG lt (if lt (p.getD k 0) (p.getD (k - 1) 0)=true then _ else _)=_;rw[c];show bG lt (if lt (p.getD (k - 1) 0) (p.getD k 0)=true then _ else _)=_;rw[hl];rfl
theorem ka{p q:Array Nat}{i j:Nat}(h:p[i]?=q[j]?):p.getD i 0=q.getD j 0:=by
 rw[Array.getD_eq_getD_getElem?,Array.getD_eq_getD_getElem?,h]
theorem DJ(h:Arr p n){m:Nat}(hm:m<=n):Arr (kas_rev p 0 m) n/\(Dn lt p m->Up lt (kas_rev p 0 m) m):=by
 have hs:(kas_rev p 0 m).size=p.size:=mirror_size _ _ _ _;refine⟨⟨by rw[hs];exact h.sz,?_⟩,λu i j gi hj=>?_⟩
 ·have:=(mirror_perm p 0 m ((m - 0) / 2)).toList;exact this.trans h.pm
 ·have g:∀ k,k<m->(kas_rev p 0 m).getD k 0=p.getD (m - 1 - k) 0:=λk hk=>by
   refine ka ?_;rw[show kas_rev p 0 m=mirror p 0 m ((m - 0) / 2) from rfl,getElem?_mirror_all (by rw[h.sz];exact hm),if_pos ⟨Nat.zero_le _,hk⟩];congr 1;left
  rw[g i (by left),g j hj];exact u (m - 1 - j) (m - 1 - i) (by left) (by left)
theorem w4(O:Ord lt n)(h:Arr p n){m:Nat}(h1:1<=m)(hm:m<=n)(u:Dn lt p m):gn n lt (kas_tail3 m n p)/\∃ r,bG lt (kas_tail3 m n p)=r/\Arr r.2 n/\1<=r.1/\r.1<=n/\Up lt r.2 r.1:=by
 obtain⟨a1,a2⟩:=DJ (lt:=lt) h hm;obtain⟨b1,b2,b3,b4⟩:=oP O a1 (n - m) m h1 (by left) (a2 u);unfold kas_tail3;refine⟨cZ b1 trivial,_,rfl,?_⟩;rw[eB];exact⟨a1,Vp h1 b2,by show bG lt _<=n;left,b4⟩
theorem zg(O:Ord lt n)(h:Arr p n)(hn:2<=n):gn n lt (kas_count n p)/\∃ r,bG lt (kas_count n p)=r/\Arr r.2 n/\1<=r.1/\r.1<=n/\Up lt r.2 r.1:=by
 obtain⟨b1,b2,b3,b4⟩:=oP O h (n - 1) 1 (Vc _) (by left) (λi j _ _=>by left);generalize hk:bG lt (kas_asc p (n - 1) 1)=k at *;have key:∀ t:KasT (Nat×Array Nat),t=(if (k==n)=true then .ret (k,p)else if k>1 then .ask (p.getD 0 0) (p.getD (k - 1) 0) λc=>if c=true then .ret (k,p)else kas_descPart k n (kas_rev p 0 k)else kas_descPart k n p) ->
   gn n lt t/\∃ r,bG lt t=r/\Arr r.2 n/\1<=r.1/\r.1<=n/\Up lt r.2 r.1:=by
  intro t ht;by_cases e:k=n
  ·rw[if_pos (by simpa using e)]at ht;subst ht;exact⟨trivial,(k,p),rfl,h,b2,by show k<=n;left,b4⟩
  ·rw[if_neg (by simpa using e)]at ht;by_cases e1:k>1
   ·rw[if_pos e1]at ht;subst ht;have hl:lt (p.getD 0 0) (p.getD (k - 1) 0)=true:=b4 0 (k - 1) (by left) (by left);refine⟨⟨h.bd (by left),h.bd (by left),by rw[hl];trivial⟩,(k,p),?_,h,b2,by left,b4⟩;show bG lt (if lt (p.getD 0 0) (p.getD (k - 1) 0)=true then _ else _)=_;rw[hl];rfl
   ·rw[if_neg e1]at ht;have SW:k=1:=by left
    subst SW;subst ht;have hl:lt (p.getD 1 0) (p.getD 0 0)=true:=by
     have a1:p.getD 1 0<n:=h.bd (by left);have a0:p.getD 0 0<n:=h.bd (by left);cases c:lt (p.getD 1 0) (p.getD 0 0)with
     | true=>rfl
     | false =>
      exfalso;obtain⟨f,hf⟩:∃ f,n - 1=f+1:=⟨n - 2,by left⟩
      rw[hf]at hk;have e':bG lt (kas_asc p (f+1) 1)=bG lt (kas_asc p f 2):=by
       show bG lt (if lt (p.getD 1 0) (p.getD (1 - 1) 0)=true then .ret 1 else kas_asc p f 2)=_;rw[show(1 - 1:Nat)=0 from rfl,c];rfl
      rw[e']at hk;have u2:Up lt p 2:=λi j gi hj=>by
       have:i=0/\j=1:=by left
       obtain⟨rfl,rfl⟩:=this;rcases O.KY _ _ a0 a1 (λz=>absurd (h.inj (by left) (by left) z) (by left))with z | z
       ·exact z
       ·rw[c]at z;cases z
      obtain⟨_,c2,_,_⟩:=oP O h f 2 (by left) (by left) u2;left
    have d2:Dn lt p 2:=λi j gi hj=>by
     have:i=0/\j=1:=by left
     obtain⟨rfl,rfl⟩:=this;exact hl
    obtain⟨c1,m,c2,c3,c4,c5⟩:=uG O h (n - 2) 2 (by left) (by left) d2;obtain⟨t1,r,t2,t3⟩:=w4 O h (m:=m) (by left) (by left) c5;unfold kas_descPart;refine⟨cZ c1 ?_,r,?_,t3⟩
    ·rw[show(1+1:Nat)=2 from rfl,show n - 2=n - 2 from rfl,c2];exact t1
    ·rw[eB,show(1+1:Nat)=2 from rfl,c2];exact t2
 have e:=key _ rfl;refine⟨?_,?_⟩
 ·unfold kas_count;exact cZ b1 (by rw[hk];exact e.1)
 ·unfold kas_count;rw[eB,hk];exact e.2
theorem Arr.or(O:Ord lt n)(h:Arr p n){i j:Nat}(hi:i<n)(hj:j<n)(e:i≠j)(c:lt (p.getD i 0) (p.getD j 0)=false):lt (p.getD j 0) (p.getD i 0)=true:=by
 rcases O.KY _ _ (h.bd hi) (h.bd hj) (λz=>e (h.inj hi hj z))with z | z
 ·rw[c]at z;cases z
 ·exact z
theorem la(O:Ord lt n)(h:Arr p n){k:Nat}(hk:k<n)(u:Up lt p k):∀(f l r:Nat),l<=r->r<=k->r - l<=f->(∀ i,i<l->lt (p.getD i 0) (p.getD k 0)=true)->(∀ i,r<=i->i<k->lt (p.getD k 0) (p.getD i 0)=true) ->
  gn n lt (kas_place p k f l r)/\∃ m,bG lt (kas_place p k f l r)=m/\m<=k/\(∀ i,i<m->lt (p.getD i 0) (p.getD k 0)=true)/\∀ i,m<=i->i<k->lt (p.getD k 0) (p.getD i 0)=true
 | 0,l,r,hl,hr,hf,a,b=>by
  have:l=r:=by left
  subst this;exact⟨trivial,l,rfl,hr,a,b⟩
 | f+1,l,r,hl,hr,hf,a,b=>by
  have e:kas_place p k (f+1) l r=if l ≥ r then .ret l else .ask (p.getD k 0) (p.getD ((l+r) / 2) 0) λc=>if c=true then kas_place p k f l ((l+r) / 2)else kas_place p k f ((l+r) / 2+1) r:=rfl
  rw[e];by_cases Qq:l ≥ r
  ·rw[if_pos Qq];have:l=r:=by left
   subst this;exact⟨trivial,l,rfl,hr,a,b⟩
  ·rw[if_neg Qq];have hm:l<=(l+r) / 2/\(l+r) / 2<r:=by left
   generalize (l+r) / 2=m at *;have b1:p.getD k 0<n:=h.bd hk;have b2:p.getD m 0<n:=h.bd (by left);cases c:lt (p.getD k 0) (p.getD m 0)with
   | true =>
    obtain⟨c1,m',c2,c3⟩:=la O h hk u f l m hm.1 (by left) (by left) a λi h1 h2=>by
     by_cases e:i=m
     ·subst e;exact c
     ·exact O.tr _ _ _ b1 b2 (h.bd (by left)) c (u m i (by left) h2)
    refine⟨⟨b1,b2,by rw[c];exact c1⟩,m',?_,c3⟩;show bG lt (if lt (p.getD k 0) (p.getD m 0)=true then _ else _)=_;rw[c];exact c2
   | false =>
    have oV:=h.or O hk (by left) (by left) c;obtain⟨c1,m',c2,c3⟩:=la O h hk u f (m+1) r (by left) hr (by left) (λi hi=>by
     by_cases e:i=m
     ·subst e;exact oV
     ·exact O.tr _ _ _ (h.bd (by left)) b2 b1 (u i m (by left) (by left)) oV) b
    refine⟨⟨b1,b2,by rw[c];exact c1⟩,m',?_,c3⟩;show bG lt (if lt (p.getD k 0) (p.getD m 0)=true then _ else _)=_;rw[c];exact c2
theorem wj(h:Arr p n){k m:Nat}(hk:k<n)(hm:m<=k)(u:Up lt p k)(a:∀ i,i<m->lt (p.getD i 0) (p.getD k 0)=true)(b:∀ i,m<=i->i<k->lt (p.getD k 0) (p.getD i 0)=true):
  Arr (bubble p k (k - m)) n/\Up lt (bubble p k (k - m)) (k+1):=by
 have hs:(bubble p k (k - m)).size=p.size:=bubble_size _ _ _;refine⟨⟨by rw[hs];exact h.sz,(bubble_perm p k (k - m)).toList.trans h.pm⟩,λi j gi hj=>?_⟩;have g:∀ t,(bubble p k (k - m)).getD t 0=if t=m then p.getD k 0 else if m<t/\t<=k then p.getD (t - 1) 0 else p.getD t 0:=λt=>by
  have e:=getElem?_bubble (xs:=p) (src:=k) (by rw[h.sz];exact hk) (k - m) (Nat.sub_le _ _) t;rw[show k - (k - m)=m by left]at e;by_cases h1:t=m
  ·rw[if_pos h1]at e ⊢;exact ka e
  ·rw[if_neg h1]at e ⊢;by_cases h2:m<t/\t<=k
   ·rw[if_pos h2]at e ⊢;exact ka e
   ·rw[if_neg h2]at e ⊢;exact ka e
 rw[g i,g j];by_cases i1:i=m
 ·rw[if_pos i1,if_neg (by left),if_pos (by left)];exact b (j - 1) (by left) (by left)
 ·rw[if_neg i1];by_cases i2:m<i/\i<=k
  ·rw[if_pos i2,if_neg (by left),if_pos (by left)];exact u (i - 1) (j - 1) (by left) (by left)
  ·rw[if_neg i2];by_cases j1:j=m
   ·rw[if_pos j1];exact a i (by left)
   ·rw[if_neg j1];by_cases j2:m<j/\j<=k
    ·rw[if_pos j2];by_cases e:i=j - 1
     ·left
     ·exact u i (j - 1) (by left) (by left)
    ·rw[if_neg j2];exact u i j gi (by left)
end
theorem zp{lt:Nat->Nat->Bool}{n:Nat}(O:Ord lt n):∀(f:Nat) {p:Array Nat} {k:Nat},Arr p n->k+f=n->Up lt p k->gn n lt (kas_bin f p k)/\Arr (bG lt (kas_bin f p k)) n/\Up lt (bG lt (kas_bin f p k)) n
 | 0,p,k,h,hk,u=>⟨trivial,h,by rw[<- hk];exact u⟩
 | f+1,p,k,h,hk,u=>by
  obtain⟨a1,m,a2,a3,a4,a5⟩:=la O h (k:=k) (by left) u k 0 k (Vs _) (Vc _) (Vc _) (λi hi=>by left) (λi h1 h2=>by left);obtain⟨b1,b2⟩:=wj h (by left) a3 u a4 a5;obtain⟨c1,c2,c3⟩:=zp O f b1 (by left) b2;have e:kas_bin (f+1) p k=(kas_place p k k 0 k).bind λl=>kas_bin f (bubble p k (k - l)) (k+1):=rfl;rw[e];refine⟨cZ a1 (by rw[a2];exact c1),?_⟩;rw[eB,a2];exact⟨c2,c3⟩
theorem Ah{lt:Nat->Nat->Bool}{n:Nat}(O:Ord lt n)(hn:2<=n):gn n lt (kas_sort n)/\Arr (bG lt (kas_sort n)) n/\Up lt (bG lt (kas_sort n)) n:=by
 have h0:Arr (List.toArray (List.range n)) n:=⟨by simp,by simp⟩
 obtain⟨a1,r,a2,a3,a4,a5,a6⟩:=zg O h0 hn;unfold kas_sort;have key:∀ t,t=(if r.1<n then kas_bin (n - max r.1 1) r.2 (max r.1 1)else .ret r.2)->gn n lt t/\Arr (bG lt t) n/\Up lt (bG lt t) n:=by
  intro t ht;by_cases h:r.1<n
  ·rw[if_pos h]at ht;subst ht;rw[show max r.1 1=r.1 by left];exact zp O _ a3 (by left) a6
  ·rw[if_neg h]at ht;subst ht;have:r.1=n:=by left
   exact⟨trivial,a3,by rw[this]at a6;exact a6⟩
 have e:=key _ rfl;refine⟨cZ a1 (by rw[a2];exact e.1),?_⟩;rw[eB,a2];exact e.2
end DI
end
section
namespace DI
open PySem PySem.Spec PyProof.Rows L2
noncomputable def mx(h:Heap)(vs:List Value)(nss:List (List Int)):Prop:=vs.length=nss.length/\∀(i:Nat) (ns:List Int),nss[i]?=some ns->∃ t af,vs[i]?=some (.ref t)/\IsTup h t af.toArray/\IntsAre af ns
variable {h h':Heap}{nss:List (List Int)}{vs:List Value}
theorem mx.mono(k:∀ b o,h.get? b=some o->h'.get? b=some o)(t:mx h vs nss):mx h' vs nss :=
 ⟨t.1,λi ns e=>let ⟨a,af,e1,⟨o,ho,r⟩,e3⟩:=t.2 i ns e;⟨a,af,e1,⟨o,k _ _ ho,r⟩,e3⟩⟩
theorem mx.mem(t:mx h vs nss){v:Value}(hv:v∈vs):∃ a af ns,v=.ref a/\IsTup h a af.toArray/\IntsAre af ns:=by
 obtain⟨i,hi⟩:=List.mem_iff_getElem?.mp hv;have hl:i<nss.length:=by rw[<- t.1];exact(List.getElem?_eq_some_iff.mp hi).1
 obtain⟨a,af,e1,e2,e3⟩:=t.2 i _ (Vj hl);rw[hi]at e1;cases e1;exact⟨a,af,_,rfl,e2,e3⟩
section
variable {prog:Program}{w:World}{A:Around}{E:Value->Shared->Prop}{s:Shared}
theorem lK:∀ {vs:List Value} {nss:List (List Int)} {Q:List (Option Value)->Shared->Prop},mx s.heap vs nss->(∀ fs:List (Option Value),fs.length=vs.length->(∀ f∈fs,∀ v,f=some v->∃ n t,v=.int n t)->Q fs s)->wpAny (model prog w) A (vs.mapM firstOfTuple') Q E s
 | [],_,_,_,h=>by rw[List.mapM_nil];exact U9 (h [] rfl λ_ h=>nomatch h)
 | v::vs,[],_,t,_=>by have:=t.1;simp at this
 | v::vs,ns::nss,Q,t,h=>by
  obtain⟨a,af,e,⟨o,ho,hc,n,hd⟩,hi⟩:=t.2 0 ns rfl;cases e;rw[List.mapM_cons];refine U6 ?_;rw[PySem.W.kas_first_eq];refine U6 (PySem.W.Looks.here (show PySem.W.Looks (model prog w) s.heap (typeOf (.ref a)) o.cls from(PySem.W.Looks.ld ho).andThen .now) ?_);rw[hc,if_neg (by first | decide | simp)];refine U6 (listItems_at ho hd (U9 ?_));refine U6 (lK (vs:=vs) (nss:=nss) ⟨by simpa using t.1,λi ms e=>t.2 (i+1) ms e⟩ λfs h1 h2=>U9 (h _ (by simp[h1]) λf hf v hv=>?_));rcases List.mem_cons.mp hf with rfl | hf
  ·cases hi with
   | nil=>simp at hv
   | cons a' tk hi=>simp at hv;exact⟨_,_,hv.symm⟩
  ·exact h2 f hf v hv
noncomputable def CW(κ:SortKind):Prop:=κ=tuples' true\/κ=general'\/κ=oneType'
theorem kind_any{Q:SortKind->Shared->Prop}(t:mx s.heap vs nss)(rY:vs≠[])(h:∀ κ,CW κ->Q κ s):wpAny (model prog w) A (keyKind' vs.toArray) Q E s:=by
 obtain⟨v0,vr,rfl⟩:∃ v0 vr,vs=v0::vr:=by
  cases vs with
  | nil=>exact absurd rfl rY
  | cons v0 vr=>exact⟨v0,vr,rfl⟩
 rw[kat_kind_eq,List.mapM_toArray,map_eq_pure_bind];refine U6 (U6 (lK t λfs hl hf=>U9 ?_));by_cases ha:(fs.toArray.all λx=>x.isSome)=true
 ·rw[if_pos ha];refine U6 (wpAny_rule ?_);obtain⟨gs,hg,hgi⟩:∃ gs:List Value,fs=gs.map some/\∀ v∈gs,∃ n t,v=.int n t:=by
   clear h hl t;induction fs with
   | nil=>exact⟨[],rfl,λ_ h=>nomatch h⟩
   | cons f fs ih =>
    simp only[List.all_toArray,List.all_cons,Bool.and_eq_true]at ha;obtain⟨gs,e1,e2⟩:=ih (λf S_=>hf f (Va _ S_)) (by simpa using ha.2);cases f with
    | none=>simp at ha
    | some v =>
     exact⟨v::gs,by rw[e1];rfl,λu hu=>by
      rcases List.mem_cons.mp hu with rfl | hu
      ·exact hf _ Vb _ rfl
      ·exact e2 u hu⟩
  subst hg;obtain⟨g0,gr,rfl⟩:∃ g0 gr,gs=g0::gr:=by
   cases gs with
   | nil=>simp at hl
   | cons a b=>exact⟨a,b,rfl⟩
  have S5:(((g0::gr).map some).toArray.filterMap id)=(g0::gr).toArray:=by simp
  rw[S5,oneTypeOnly'_eq,List.mapM_toArray,map_eq_pure_bind];refine U6 (U6 (U6 (PySem.W.kas_mapM (r:=Value.type "int") _ (λv hv Q' hq=>by
   obtain⟨n,t,rfl⟩:=hgi v hv;exact(PySem.W.Looks.of_pure (M:=model prog w) rfl).here hq) (U9 ?_))))
  have yA:((List.map (λ_=>Value.type "int") (g0::gr)).toArray.all λx=>x==Value.type "int")=true:=by
   simp only[List.all_toArray,List.all_map,List.all_eq_true];intro _ _;show(Value.type "int" == Value.type "int")=true;decide
  have h0:(List.map (λ_=>Value.type "int") (g0::gr)).toArray[0]?=some (Value.type "int"):=by simp
  rw[h0];simp only[yA,if_true];exact U9 (U9 (h _ (.inl rfl)))
 ·rw[if_neg ha];by_cases hb:((fs.toArray[0]?.bind id).isSome)=true
  ·rw[if_pos hb];exact U9 (h _ (.inr (.inl rfl)))
  ·rw[if_neg hb];rw[oneTypeOnly'_eq,List.mapM_toArray,map_eq_pure_bind];refine U6 (U6 (U6 (PySem.W.kas_mapM (r:=Value.type "tuple") _ (λv hv Q' hq=>by
    obtain⟨a,af,ns,rfl,⟨o,ho,hc,_⟩,_⟩:=t.mem hv;refine PySem.W.Looks.here (show PySem.W.Looks (model prog w) s.heap (typeOf (.ref a)) o.cls from(PySem.W.Looks.ld ho).andThen .now) ?_;rw[hc];exact hq) (U9 ?_))))
   have yA:((List.map (λ_=>Value.type "tuple") (v0::vr)).toArray.all λx=>x==Value.type "tuple")=true:=by
    simp only[List.all_toArray,List.all_map,List.all_eq_true];intro _ _;show(Value.type "tuple" == Value.type "tuple")=true;decide
   have h0:(List.map (λ_=>Value.type "tuple") (v0::vr)).toArray[0]?=some (Value.type "tuple"):=by simp
   rw[h0];simp only[yA,if_true];exact U9 (U9 (h _ (.inr (.inr rfl))))
theorem Eo{κ:SortKind}(hk:CW κ)(hu:A.units<cLine){a b:Addr}{af A5:List Value}{ns ms:List Int}{Q:Bool->Shared->Prop}(ha:IsTup s.heap a af.toArray)(hb:IsTup s.heap b A5.toArray)(hi:IntsAre af ns)(hj:IntsAre A5 ms)(h:Q (HT.lexLt ns ms) s):
  wpAny (model prog w) A (keyLt' κ (.ref a) (.ref b)) Q E s:=by
 rcases hk with rfl | rfl | rfl
 ·obtain⟨o,ho,_,n,hd⟩:=ha;obtain⟨o',dO,_,n',EZ⟩:=hb;exact PySem.W.kat_lt ho hd dO EZ (p4 0 hi hj (by simp) h)
 ·exact PySem.W.kat_one _ _ (HT.rN ha hb (by simpa using hi) (by simpa using hj) hu h)
 ·show wpAny (model prog w) A (oneLt' true (.ref a) (.ref b)) Q E s;rw[oneLt'_eq];simp only[if_true];refine U6 (wpAny_cRoomFor hu ?_);obtain⟨⟨cls,dd,data,sl⟩,ho,hc,n,hd⟩:=id ha;obtain⟨⟨Kw,CM,data2,Cf⟩,vM,hc2,n2,hd2⟩:=id hb;simp only at hc hd hc2 hd2;subst hc hd hc2 hd2;refine U6 (wpAny_callSpecialIfBound?_slot (name:=Str.ofString "__lt__") ⟨_,ho,rfl⟩ Wo (V0 Wo ⟨_,ho,rfl⟩ PySem.F.entry_tuple_lt (PySem.F.args_tuple_lt_2 _ _) (HT.gq a b _ _ n n2 dd CM sl Cf ns ms (by simpa using hi) (by simpa using hj)) ⟨ho,vM,?_⟩));exact VE h
end
noncomputable def gN(h:Heap)(d:Addr)(es:Array DictEntry)(ep:Nat):Prop:=∃ o,h.get? d=some o/\o.ExactDict/\o.data=.dict es ep
variable {Q:Value->Shared->Prop}
section
variable {prog:Program}{w:World}{A:Around}{E:Value->Shared->Prop}{s:Shared}{d it:Addr}{es:Array DictEntry}{ep i:Nat}
theorem gN.typeIs(h:gN s.heap d es ep):s.TypeIs (.ref d) "dict":=let ⟨o,ho,hx,_⟩:=h;⟨o,ho,hx.1⟩
theorem Bv(hd:(d==sysModules)=false)(hm:gN s.heap d es ep)
  (hQ:Q (.ref s.heap.objs.size) { s with heap:=s.heap.push { cls:=.type "dict_keyiterator",data:=.fields #[.ref d,.int 0 0,.int es.size 0,.int ep 0] } }):wpAny (model prog w) A (pyIter (.ref d)) Q E s:=by
 have hT:=hm.typeIs;obtain⟨o,ho,hx,yv⟩:=hm;refine WN hT PySem.F.slot_dict_iter (Vt PySem.F.slot_dict_iter hT PySem.F.entry_dict_iter ?_ (PySem.F.args_dict_iter_1 _));unfold Builtin.«dict.__iter__» Builtin.Dict.dictSlotNone;refine U6 (U6 (wpAny_notOrdered_dict hT (U9 ?_)));show wpAny _ _ (Builtin.Dict.showsAll d >>= _) _ _ s;unfold Builtin.Dict.showsAll;rw[if_neg (by rw[hd];exact Bool.false_ne_true)];refine U6 (U9 (U6 (VO ho yv (U6 (VV ho yv ?_)))));exact U6 (Vq (U9 ⟨_,rfl,"dict_keyiterator",_,⟨_,Ve _ rfl,rfl⟩,PySem.F.slot_dict_keyiterator_next.lookup,hQ⟩))
theorem Bu{Q:Option Value->Shared->Prop}(hit:s.heap.IsKeyIter it d i es.size ep)(hm:gN s.heap d es ep)(fi:i<es.size)
  (hQ:∀ h',h'.IsKeyIter it d (i+1) es.size ep->Heap.SameBut it s.heap h'->Q (some es[i].key) { s with heap:=h' }):wpAny (model prog w) A (pyNext (.ref it)) Q E s:=by
 obtain⟨o,ho,hc,hd⟩:=id hit;obtain⟨od,yt,vR,wB⟩:=hm;unfold pyNext;refine U6 (Wk (VB (name:=Str.ofString "__next__") hit.typeIs VC (Vt VC hit.typeIs PySem.F.entry_dict_keyiterator_next ?_ (PySem.F.args_dict_keyiterator_next_1 _))));refine U6 (U9 (U6 (U6 ?_)))
 first | refine U6 (VF hit.typeIs (U9 ?_)) | refine U6 (VS hit.typeIs (U9 ?_))
 refine U6 (WD ho hd ?_);simp only[show Builtin.Dict_items.ownsTuple "dict_keyiterator" = false by decide,Bool.false_eq_true,if_false];show wpAny _ _ (if (Value.ref d==Value.none)=true then _ else _) _ _ s;rw[if_neg (show ¬ ((Value.ref d==Value.none)=true) from Bool.false_ne_true)];refine U6 (U9 (U6 (VO yt wB ?_)));rw[if_neg (by simp)];refine U6 (U9 (U6 (VV yt wB ?_)));rw[if_neg (by simp)];refine U9 ?_;simp only[show ¬ ((i:Int)<0) from by left,if_false,Int.toNat_natCast,Array.getElem?_eq_getElem fi];refine U6 ?_
 first | refine U6 (VF hit.typeIs (U9 ?_)) | refine U6 (VS hit.typeIs (U9 ?_))
 refine U6 (wpAny_isOneOf_keyiter hit.typeIs ?_);show wpAny _ _ (setField (.ref it) 1 (rawInt ((i:Int)+1)) >>= _) _ _ s;refine U6 (Wb ho hd (by simp) ?_);have Bc:(s.heap.update it (Obj.mapFields (·.setIfInBounds 1 (rawInt ((i:Int)+1))))).IsKeyIter it d (i+1) es.size ep :=
  ⟨_,Heap.get?_update_self _ ho (Obj.isFreed_of_fields (Obj.data_mapFields hd _)),(Obj.cls_mapFields ..).trans hc,by rw[Obj.data_mapFields hd];simp[rawInt]⟩
 refine U6 (VN (U6 (wpAny_isOneOf_keyiter (s:={ s with heap:=s.heap.update it (Obj.mapFields (·.setIfInBounds 1 (rawInt ((i:Int)+1)))) }) Bc.typeIs ?_)));show wpAny _ _ (pure es[i].key) _ _ _;exact U9 (U9 ⟨_,rfl,U9 (hQ _ Bc (VI ..))⟩)
theorem F2{Q:Option Value->Shared->Prop}(hh:A.handled=none)(hit:s.heap.IsKeyIter it d i es.size ep)(hm:gN s.heap d es ep)(N8:es.size<=i)
  (hQ:∀ h',Heap.ExtBut it s.heap h'->Q none { s with heap:=h' }):wpAny (model prog w) A (pyNext (.ref it)) Q E s:=by
 obtain⟨o,ho,hc,hd⟩:=id hit;obtain⟨od,yt,vR,wB⟩:=hm;unfold pyNext;refine U6 (Wk (VB (name:=Str.ofString "__next__") hit.typeIs VC (Vt VC hit.typeIs PySem.F.entry_dict_keyiterator_next ?_ (PySem.F.args_dict_keyiterator_next_1 _))));refine U6 (U9 (U6 (U6 ?_)))
 first | refine U6 (VF hit.typeIs (U9 ?_)) | refine U6 (VS hit.typeIs (U9 ?_))
 refine U6 (WD ho hd ?_);simp only[show Builtin.Dict_items.ownsTuple "dict_keyiterator" = false by decide,Bool.false_eq_true,if_false];show wpAny _ _ (if (Value.ref d==Value.none)=true then _ else _) _ _ s;rw[if_neg (show ¬ ((Value.ref d==Value.none)=true) from Bool.false_ne_true)];refine U6 (U9 (U6 (VO yt wB ?_)));rw[if_neg (by simp)];refine U6 (U9 (U6 (VV yt wB ?_)));rw[if_neg (by simp)];refine U9 ?_;simp only[show ¬ ((i:Int)<0) from by left,if_false,Int.toNat_natCast,Array.getElem?_eq_none N8];refine U6 ?_
 first | refine U6 (VF hit.typeIs (U9 ?_)) | refine U6 (VS hit.typeIs (U9 ?_))
 show wpAny _ _ (setField (.ref it) 0 .none >>= _) _ _ s;refine U6 (Wb ho hd (by simp) ?_);show wpAny _ _ (newExc (.type "StopIteration") [] >>= _) _ _ _;refine U6 ?_;simp only[newExc,newTuple];refine U6 (Vq ?_ (by size_fits));refine U6 (m:=firstArgMember _ _) (wpAny_of_eq (a:=Value.none) (by first | rfl | (simp only[firstArgMember];rfl)) ?_);refine Vq ?_ (by size_fits);simp only[raiseNew];refine U6 (wpAny_handled ?_);rw[show A.in1.handled=none from hh];refine U6 (U9 (wpAny_throw ?_));refine U6 (wpAny_isInstance (T:="StopIteration") (b:=true) ⟨_,Ve _ rfl,rfl⟩ isSubtype_stop ?_);exact U9 (hQ _ (((VI ..).extBut.push _).push _))
end
theorem rQ:∀ a b c:List Int,HT.lexLt a b=true->HT.lexLt b c=true->HT.lexLt a c=true
 | [],[],_,h,_=>by rw[HT.gu]at h;cases h
 | [],_::_,[],_,h=>by rw[HT.bK]at h;cases h
 | [],_::_,_::_,_,_=>rfl
 | _::_,[],_,h,_=>by rw[HT.bK]at h;cases h
 | _::_,_::_,[],_,h=>by rw[HT.bK]at h;cases h
 | x::a,y::b,z::c,h1,h2=>by
  rw[HT.cv]at *;by_cases e1:x=y
  ·subst e1;rw[if_pos rfl]at h1;by_cases e2:x=z
   ·subst e2;rw[if_pos rfl]at h2 ⊢;exact rQ a b c h1 h2
   ·rw[if_neg e2]at h2 ⊢;exact h2
  ·rw[if_neg e1]at h1;have l1:x<y:=U7 h1;by_cases e2:y=z
   ·subst e2;rw[if_neg (by left)];exact V_ l1
   ·rw[if_neg e2]at h2;have l2:y<z:=U7 h2;rw[if_neg (by left)];exact V_ (by left)
theorem n6:∀ a b:List Int,HT.lexLt a b=true->HT.lexLt b a=false
 | [],[],_=>rfl
 | [],_::_,_=>rfl
 | _::_,[],h=>by rw[HT.bK]at h;cases h
 | x::a,y::b,h=>by
  rw[HT.cv]at *;by_cases e:x=y
  ·subst e;rw[if_pos rfl]at h ⊢;exact n6 a b h
  ·rw[if_neg e]at h;have l:x<y:=U7 h;rw[if_neg (by left)];exact VL (by left)
theorem j_:∀ a b:List Int,a≠b->HT.lexLt a b=true\/HT.lexLt b a=true
 | [],[],h=>absurd rfl h
 | [],_::_,_=>.inl rfl
 | _::_,[],_=>.inr rfl
 | x::a,y::b,h=>by
  rw[HT.cv,HT.cv];by_cases e:x=y
  ·subst e;rw[if_pos rfl,if_pos rfl];exact j_ a b λz=>h (by rw[z])
  ·rw[if_neg e,if_neg (Ne.symm e)];rcases Int.lt_or_gt_of_ne e with l | l
   ·exact .inl (V_ l)
   ·exact .inr (V_ l)
def aG(nss:List (List Int)):List (List Int):=nss.mergeSort λa b=>!HT.lexLt b a
def zz(nss:List (List Int)):Prop:=nss.Pairwise λa b=>HT.lexLt a b=true
theorem tH:∀ {l m:List (List Int)},zz l->zz m->l.Perm m->l=m
 | [],m,_,_,p=>(List.perm_nil.mp p.symm).symm
 | a::l,[],_,_,p=>by have:=p.length_eq;simp at this
 | a::l,b::m,h1,h2,p=>by
  have e:a=b:=by
   have ha:a∈b::m:=p.mem_iff.mp Vb;have hb:b∈a::l:=p.mem_iff.mpr Vb;rcases List.mem_cons.mp ha with e | ha
   ·exact e
   ·rcases List.mem_cons.mp hb with e | hb
    ·exact e.symm
    ·have l1:=(List.pairwise_cons.mp h2).1 a ha;have l2:=(List.pairwise_cons.mp h1).1 b hb;rw[n6 _ _ l1]at l2;cases l2
  subst e;rw[tH (List.pairwise_cons.mp h1).2 (List.pairwise_cons.mp h2).2 (List.perm_cons a |>.mp p)]
theorem gz(h:nss.Nodup):zz (aG nss):=by
 have p:(aG nss).Perm nss:=Vy _ _;have nd:(aG nss).Nodup:=p.nodup_iff.mpr h;have sd:(aG nss).Pairwise λa b=>(!HT.lexLt b a)=true:=List.pairwise_mergeSort (λa b c h1 h2=>by
  cases e:HT.lexLt c a with
  | false=>rfl
  | true =>
   exfalso;by_cases LD:b=c
   ·subst LD;rw[e]at h1;cases h1
   ·rcases j_ b c LD with l | l
    ·rw[rQ _ _ _ l e]at h1;cases h1
    ·rw[l]at h2;cases h2) (λa b=>by
  cases e:HT.lexLt b a with
  | false=>rfl
  | true=>rw[n6 _ _ e];rfl) nss
 exact(sd.and nd).imp λ{a b} ⟨h1,h2⟩=>by
  rcases j_ a b h2 with l | l
  ·exact l
  ·rw[l]at h1;cases h1
theorem pv{l:List (List Int)}(h:nss.Nodup)(hr:zz l)(p:l.Perm nss):l=aG nss:=tH hr (gz h) (p.trans (Vy _ _).symm)
def ltN(nss:List (List Int))(i j:Nat):Bool:=HT.lexLt (nss.getD i []) (nss.getD j [])
theorem D8(h:nss.Nodup):Ord (ltN nss) nss.length :=
 ⟨λa b c _ _ _ h1 h2=>rQ _ _ _ h1 h2,λa b _ _ h=>n6 _ _ h,λa b ha hb LD=>j_ _ _ λe=>LD (by
  have e1:nss.getD a []=nss[a]:=by simp[ha]
  have e2:nss.getD b []=nss[b]:=by simp[hb]
  rw[e1,e2]at e;exact(WQ h).mp e)⟩
theorem mF(h:nss.Nodup){p:Array Nat}(ha:Arr p nss.length)(hu:Up (ltN nss) p nss.length):(p.toList.map λi=>nss.getD i [])=aG nss:=by
 refine pv h ?_ ?_
 ·refine List.pairwise_iff_getElem.mpr λi j hi hj gi=>?_;simp only[List.length_map,Array.length_toList]at hi hj;have:=hu i j gi (by rw[<- ha.sz];exact hj);unfold ltN at this;have e:∀ k (hk:k<p.size),p.getD k 0=p[k]:=λk hk=>by simp[Array.getD,hk]
  rw[e i hi,e j hj]at this;simpa using this
 ·have e:nss=(List.range nss.length).map λi=>nss.getD i []:=by
   refine WR (by simp) λi h1 h2=>?_;simp[h1]
  refine(ha.pm.map λi=>nss.getD i []).trans ?_;rw[<- e]
variable {ep:Nat}
section
variable {prog:Program}{w:World}{A:Around}{E:Value->Shared->Prop}{s:Shared}
theorem xa{a:Addr}{n:Nat}{P:PySem.Fin->Shared->Prop}(hu:A.units<cLine)(ho:s.heap.get? a=some (seqObj "list" vs.toArray n))(wD:vs.length<64)(EW:nss.Nodup)
  (ht:mx (((s.heap.update a (Obj.mapSeq λ_=>#[])).push (seqObj "tuple" vs.toArray 0)).push (seqObj "list" #[] 0)) vs nss)
  (h:∀ p:Array Nat,Arr p vs.length->(p.toList.map λi=>nss.getD i [])=aG nss->P (.done (.ret .none)) { s with heap:=sortedHeap s.heap a vs (List.toArray (p.toList.map λi=>vs.getD i Value.none)) }) :
  wpAny (model prog w) A (Builtin.«list.sort» ⟨[.ref a],[]⟩) P E s:=by
 rw[list_sort_plain];have ha:a<s.heap.objs.size:=Vd ho;have hsz:vs.toArray.size=vs.length:=by simp
 have hz:vs.length<=sizeLine:=by rw[sizeLine_eq];left
 have hl:=ht.1;refine U6 (listItems_at ho rfl (U6 (listUpdate_at ho rfl ?_ (by rw[hsz];exact hz) (Vs _))));obtain⟨e1,GQ⟩:∃ e1,(s.heap.update a (Obj.mapSeq λ_=>#[])).get? a=some (seqObj "list" #[] e1):=⟨_,get?_update_seq ho (λ_=>#[])⟩
 refine U6 (seqEpoch_at GQ rfl (U6 (wpAny_newTuple (U6 (WK (VN ?_) (Vs _))) (by simpa using hz))));have Qo:(((s.heap.update a (Obj.mapSeq λ_=>#[])).push (seqObj "tuple" vs.toArray 0)).push (seqObj "list" #[] 0)).get? a=some (seqObj "list" #[] e1):=U_ _ (U_ _ GQ);show wpAny (model prog w) A _ P E ({ s with heap:=((s.heap.update a (Obj.mapSeq λ_=>#[])).push (seqObj "tuple" vs.toArray 0)).push (seqObj "list" #[] 0) }:Shared);dsimp only;have fin:∀(i7:SortSt) (p:Array Nat),Arr p vs.length->(p.toList.map λi=>nss.getD i [])=aG nss->(arrOf i7).map (·.2)=List.toArray (p.toList.map λi=>vs.getD i Value.none)->failedOf i7=none->wpAny (model prog w) A (do
   let touched:=(<- seqEpoch a) != e1
   Builtin.List.listUpdate (.ref a) λ_=>(arrOf i7).map (·.2)
   if let some e:=failedOf i7 then rule "list.sort.comparison-raised";throw e
   if touched then rule "list.sort.modified";raiseError "ValueError" "list modified during sort"
   ret .none) P E ({ s with heap:=((s.heap.update a (Obj.mapSeq λ_=>#[])).push (seqObj "tuple" vs.toArray 0)).push (seqObj "list" #[] 0) }:Shared):=by
  intro i7 p hp hs hA hF;refine U6 (seqEpoch_at Qo rfl ?_);rw[hA];refine U6 (listUpdate_at Qo rfl ?_ (Vs _) (by rw[List.size_toArray,List.length_map,Array.length_toList,hp.sz];exact WL hz));rw[hF];simp only[bne_self_eq_false,Bool.false_eq_true,if_false];exact U9 (h p hp hs)
 by_cases h2:vs.toArray.size<2
 ·rw[if_pos h2,if_pos h2];refine U6 (U9 ?_);rw[StateT.run_pure];refine U6 (U9 ?_);rw[hsz]at h2;have Oh:Arr (List.toArray (List.range vs.length)) vs.length:=⟨by simp,by simp⟩
  refine fin (SortSt.mk' general' (vs.toArray.zip vs.toArray) #[] 7 none) (List.toArray (List.range vs.length)) Oh ?_ ?_ rfl
  ·rw[hl]at Oh ⊢;exact mF EW Oh λi j gi hj=>by left
  ·apply Array.toList_inj.mp;show(Array.map (·.2) (vs.toArray.zip vs.toArray)).toList=_;rw[Array.toList_map,show(vs.toArray.zip vs.toArray)=pairsOf vs from rfl,pairsOf_toList,List.map_snd_zip (Nat.le_refl _)];refine WR (by simp) λi h1 h2=>?_;simp[h1]
 ·rw[if_neg h2,if_neg h2];rw[hsz]at h2;refine U6 (kind_any ht (λz=>by rw[z]at h2;simp at h2) λκ hk=>?_);have ok:=Ah (D8 EW) (by rw[<- hl];left);refine U6 (Vn (PySem.W.kat_run (ks:=vs) (vs:=vs) (κ:=κ) (Q:=λi7 s'=>s'=({ s with heap:=((s.heap.update a (Obj.mapSeq λ_=>#[])).push (seqObj "tuple" vs.toArray 0)).push (seqObj "list" #[] 0) }:Shared)/\∃ p,Arr p vs.length/\(p.toList.map λi=>nss.getD i [])=aG nss/\(arrOf i7).map (·.2)=List.toArray (p.toList.map λi=>vs.getD i Value.none)/\failedOf i7=none)
   (G:=λp s'=>s'=({ s with heap:=((s.heap.update a (Obj.mapSeq λ_=>#[])).push (seqObj "tuple" vs.toArray 0)).push (seqObj "list" #[] 0) }:Shared)/\Arr p vs.length/\(p.toList.map λi=>nss.getD i [])=aG nss) rfl (by left) wD (λp i7 s' UU Th hf hG=>⟨hG.1,p,hG.2.1,hG.2.2,PySem.W.kat_snds rfl Th,hf⟩) ?_) (λr s' ⟨e,p,hp,hs,hA,hF⟩=>?_) λ_ _ e=>e)
  rotate_left
  ·subst e;exact fin r.2 p hp hs hA hF
  ·rw[hl];refine uV (lt:=ltN nss) (n:=nss.length) (λi j C hi hj hC=>?_) _ ok.1 ⟨rfl,ok.2.1,mF EW ok.2.1 ok.2.2⟩;obtain⟨x,af,e1,i1,i2⟩:=ht.2 i _ (Vj hi);obtain⟨y,A5,e2,j1,j2⟩:=ht.2 j _ (Vj hj);unfold PySem.W.kas_ask;rw[show vs.getD i Value.none=.ref x by simp[e1],show vs.getD j Value.none=.ref y by simp[e2]];refine Eo hk hu i1 j1 i2 j2 ?_;have e3:nss.getD i []=nss[i]:=by simp[hi]
   have e4:nss.getD j []=nss[j]:=by simp[hj]
   have QG:C (HT.lexLt (nss.getD i []) (nss.getD j [])) _:=hC;rw[e3,e4]at QG;exact QG
theorem za{es:Array DictEntry}(hh:A.handled=none)(I d:Addr)(rY:d≠I):Walks prog w A I [I,d] [I] es.size (λi v=>∃ e,es[i]?=some e/\v=e.key) (λi h=>h.IsKeyIter I d i es.size ep/\gN h d es ep) where
 sub:=λb hb=>by simp at hb;simp[hb]
 frame:=λ_ _ _ st hk=>⟨st.1.at λo e=>hk I (by simp) o e,let ⟨o,ho,r⟩:=st.2;⟨o,hk d (by simp) o ho,r⟩⟩
 item:=λi s Q E hi st hQ=>Bu st.1 st.2 hi λh' Bc ER=>hQ _ h' s.toks ⟨es[i],V8 hi,rfl⟩ ⟨Bc,let ⟨o,ho,r⟩:=st.2;⟨o,ER.extBut d o rY ho,r⟩⟩ λb o hb e=>ER.extBut b o (λh=>hb (by simp[h])) e
 done:=λs Q E st hQ=>F2 hh st.1 st.2 (Vc _) λh' Oa=>hQ h' s.toks λb o hb e=>Oa b o (λh=>hb (by simp[h])) e
 self:=λ_ _ _ _ st hQ=>wpAny_pyIter_keyiter st.1 hQ
theorem zb{d:Addr}{es:Array DictEntry}(lo:(d==sysModules)=false):PySem.W.KdlSrc prog w "dict" d d es.size (λi v=>∃ e,es[i]?=some e/\v=e.key) (λh=>gN h d es ep) where
 type:=λ_ hm=>hm.typeIs
 there:=λ_ hm=>let ⟨_,ho,_⟩:=hm;⟨Vd ho,Vd ho⟩
 keep:=λ_ _ hm hk=>let ⟨o,ho,r⟩:=hm;⟨o,hk d (.inl rfl) o ho,r⟩
 notList:=by decide
 notTuple:=by decide
 hint:=λ_ _ _ _ hm hq=>PySem.W.kdl_hint_dict hm.typeIs hq
 iter:=λ_ _ hh hm=>⟨_,_,(λ_ _ hq=>Bv lo hm hq),za hh _ d (let ⟨_,ho,_⟩:=hm;Vi (Vd ho)),⟨⟨_,Ve _ rfl,rfl,rfl⟩,let ⟨o,ho,r⟩:=hm;⟨o,U_ _ ho,r⟩⟩⟩
theorem pk{d:Addr}{es:Array DictEntry}(hh:A.handled=none)(hu:A.units+2<cLine)(lo:(d==sysModules)=false)(hm:gN s.heap d es ep)(wD:es.size<64)(EW:nss.Nodup)(ht:mx s.heap (es.toList.map (·.key)) nss)
  (h:∀(S:Addr) (h':Heap) (tk e:Nat) (p:Array Nat),s.heap.get? S=none->(∀ b o,s.heap.get? b=some o->h'.get? b=some o)->Arr p es.size->(p.toList.map λi=>nss.getD i [])=aG nss ->
   h'.get? S=some (seqObj "list" (List.toArray (p.toList.map λi=>(es.toList.map (·.key)).getD i Value.none)) e)->Q (.ref S) { s with heap:=h',toks:=tk }) :
  wpAny (model prog w) A (call (.builtin "sorted") [.ref d]) Q E s:=by
 refine Calls.call_function_entry kind_sorted plain_sorted entry_sorted (args_sorted1 _) ?_;unfold Builtin.«sorted»;have hz:es.size<=sizeLine:=by rw[sizeLine_eq];left
 refine U6 (m:=checkCount "sorted" 1 1 _) (U9 (U6 (PySem.W.kdu_collect (A:=A.in1) (zb lo) hh hm hz λh1 tk acc hk lG=>?_)));have yB:acc.toList=es.toList.map (·.key):=by
  refine WM λi=>?_;rw[List.getElem?_map,Array.getElem?_toList,Array.getElem?_toList];by_cases hi:i<es.size
  ·have JS:i<acc.size:=by rw[lG.1];exact hi
   obtain⟨e,he,hv⟩:=lG.2 i acc[i] (V8 JS);rw[Array.getElem?_eq_getElem JS,he,hv];rfl
  ·rw[Array.getElem?_eq_none (by rw[lG.1];left),Array.getElem?_eq_none (by left)];rfl
 rw[yB];generalize NJ:es.toList.map (·.key)=vs at *;have vI:vs.length=es.size:=by rw[<- NJ];simp
 refine U6 (WK ?_ (by rw[vI];exact hz));show wpAny _ _ _ _ _ ({ s with heap:=h1.push (seqObj "list" vs.toArray 0),toks:=tk }:Shared);have JK:(h1.push (seqObj "list" vs.toArray 0)).get? h1.objs.size=some (seqObj "list" vs.toArray 0):=Ve _ rfl;have k6:∀ b o,s.heap.get? b=some o->((((h1.push (seqObj "list" vs.toArray 0)).update h1.objs.size (Obj.mapSeq λ_=>#[])).push (seqObj "tuple" vs.toArray 0)).push (seqObj "list" #[] 0)).get? b=some o:=λb o e=>by
  refine U_ _ (U_ _ ?_);rw[Heap.get?_update_other _ _ (Nat.ne_of_gt (Heap.lt_size (hk b o e)))];exact U_ _ (hk b o e)
 have hle:s.heap.get? h1.objs.size=none:=by
  cases q:s.heap.get? h1.objs.size with
  | none=>rfl
  | some o=>exact absurd (Vd (hk _ o q)) (Vz _)
 refine U6 (VN (Vt slot_list_sort ⟨_,JK,rfl⟩ entry_list_sort (xa (s:={ s with heap:=h1.push (seqObj "list" vs.toArray 0),toks:=tk }) (nss:=nss) (show A.in1.in1.units<cLine by show A.units+1+1<cLine;left) JK (by rw[vI];exact wD) EW (ht.mono k6) λp hp hs=>⟨_,rfl,?_⟩) (args_list_sort _)));obtain⟨e,he⟩:=sortedHeap_at (out:=List.toArray (p.toList.map λi=>vs.getD i Value.none)) JK;refine U9 ⟨_,rfl,h h1.objs.size _ tk e p hle (λb o e=>?_) (by rw[<- vI];exact hp) hs he⟩;have fi:=Vd (hk b o e);rw[sortedHeap_old (Nat.ne_of_lt fi) (by rw[size_push'];exact Nat.lt_succ_of_lt fi)];exact U_ _ (hk b o e)
end
variable {H:Hp}
theorem Ee{P:Program}{w:World}{a:Addr}{o:HO}(x:bB P w H h a o):∃ u,h.get? a=some u:=by
 cases o with
 | lst xs=>obtain⟨_,_,_,_,e⟩:=x;exact⟨_,e⟩
 | tup xs=>obtain⟨_,_,_,o,e,_⟩:=x;exact⟨_,e⟩
 | dK lj=>obtain⟨_,_,_,_,o,_,_,e,_⟩:=x;exact⟨_,e⟩
 | dT lj=>obtain⟨_,_,_,_,o,_,_,e,_⟩:=x;exact⟨_,e⟩
 | set S n=>obtain⟨o,_,_,_,e,_⟩:=x;exact⟨_,e⟩
 | ins C dx fs=>obtain⟨_,_,_,e,_⟩:=x;exact⟨_,e⟩
 | own y=>exact x
 | xd fs=>obtain⟨_,⟨o,_,_,e,_⟩,_⟩:=x;exact⟨_,e⟩
 | k8 lo hi=>obtain⟨_,_,_,e⟩:=x;exact⟨_,e⟩
 | fK o u=>exact⟨_,x.1⟩
 | B8 ps=>exact⟨_,x⟩
 | met f y=>exact⟨_,x⟩
 | ext φ=>exact x.2.1
variable {X:Cx}
theorem Inv.Jk{pins:List (Addr×Obj)}{σ:St}{s:Shared}{t':Nat}{a:Addr}{o:HO}(I:Inv X pins σ H s)(k:∀ b u,s.heap.get? b=some u->h'.get? b=some u)(ha:s.heap.get? a=none)(new:bB X.prog X.w (upd H a o) h' a o):
  H a=none/\Inv X pins σ (upd H a o) { s with heap:=h',toks:=t' }:=by
 have hn:H a=none:=by
  cases q:H a with
  | none=>rfl
  | some u =>
   obtain⟨z,hz⟩:=Ee (I.bR a u q);rw[ha]at hz;exact nk hz
 have up:∀ b u,H b=some u->upd H a o b=some u:=λb u e=>by rw[aq (a_ e hn)];exact e
 refine⟨hn,I.step (g':=s.gens) (d':=s.drawn) (ch:=[]) (λb hb=>nomatch hb) (λb o _ _ _ e _=>k b o e) (λb o _ _ _ e _=>⟨o.slots,k b o e⟩) (λb u _ e n=>?_)
  (λb o _ e=>⟨o,k b o e⟩) (λ_ _ e=>up _ _ e) (λ_ _ _ e=>up _ _ e) (λb ps e=>⟨#[],by rw[up _ _ e];simp⟩) (λm hm=>?_) (λb u e=>?_) I.bare⟩
 ·rw[aq λz=>by rw[z,ha]at e;cases e];exact n
 ·obtain⟨o,es,ep,ho,r⟩:=hm;exact⟨o,es,ep,k _ o ho,r⟩
 ·by_cases z:b=a
  ·subst z;rw[aB]at e;cases e;exact new
  ·rw[aq z]at e;exact(I.bR b u e).i6 (λc v _ q=>k c v q) (λ_ q=>up _ _ q) λ_ _ q=>up _ _ q
section
variable {X:Cx}{pins:List (Addr×Obj)}{σ:St}{H:Hp}{s:Shared}{d:Addr}{cs:List (List Int)}{as:List Addr}{xs:List V}{ep:Nat}
theorem DK(I:Inv X pins σ H s)(h:H d=some (.ext (DO d cs as xs ep))):∃ es:Array DictEntry,gN s.heap d es ep/\es.size=as.length/\es.toList.map (·.key)=as.map Value.ref/\cs.Nodup/\as.length=cs.length/\(d==sysModules)=false:=by
 obtain⟨⟨zs,o,es,e1,e2,e3,ho,hx,hd,he,hn,hl,hs⟩,_⟩:=(show bB X.prog X.w H s.heap d (.ext (DO d cs as xs ep)) from I.bR d _ h)
 refine⟨es,⟨o,ho,hx,hd⟩,?_,?_,hn,?_,hs⟩
 ·rw[<- Array.length_toList,he,<- e2,List.length_map,List.length_map]
 ·rw[he,<- e2,List.map_map,List.map_map];rfl
 ·rw[<- e1,<- e2,List.length_map,List.length_map]
end
def oq(xs:List D):O D:=match one xs with
 | some d=>match cS d with
  | some z=>ok (.lst .ow (z.1.map bF))
  | none=>none
 | none=>none
variable {xs:List D}
theorem v_{r:D}(h:oq xs=ok r):∃ f cs vs,xs=[.aZ f cs vs]/\r=.lst .ow (cs.map bF):=by
 unfold oq at h;cases h1:one xs with
 | none=>rw[h1]at h;exact nk h
 | some d =>
  rw[h1]at h;have h:(match cS d with | some z=>ok (D.lst .ow (z.1.map bF)) | none=>none)=ok r:=h;cases h2:cS d with
  | none=>rw[h2]at h;exact nk h
  | some z =>
   rw[h2]at h;cases h;obtain⟨f,e⟩:=fN h2;exact⟨f,z.1,z.2,by rw[b6 h1,e],rfl⟩
theorem dD(g:Fl->Fl):∀ cs:List (List Int),ag g (cs.map bF)=cs.map bF
 | []=>rfl
 | c::cs=>by
  show aw g (bF c)::ag g (cs.map bF)=_;rw[dD g cs];have:∀ c:List Int,ag g (c.map D.int)=c.map D.int:=λc=>by
   induction c with
   | nil=>rfl
   | cons i c ih=>show D.int i::ag g (c.map D.int)=_;rw[ih];rfl
  show D.tup (ag g (c.map D.int))::_=_;rw[this];rfl
theorem tI{T:lY}{N:gO}{k:az}{a:Addr}{c:List Int}(h:T a (c.map V.int)):Rep T N k (.ref a) (bF c):=.tup h (ae.ints c)
theorem sL(hc:X.calm=true)(hu:X.A.units+2<cLine):dJ X (.builtin "sorted") (λxs H Q=>∃(d:Addr) (cs:List (List Int)) (as:List Addr) (ys:List V) (ep:Nat),xs=[.ref d]/\H d=some (.ext (DO d cs as ys ep))/\cE (ao X.K H) as cs/\cs.length<64 /\
  ∀(l:Addr) (bs:List Addr),H l=none->cE (ao X.K H) bs (aG cs)->Q (.ref l) (upd H l (.lst (bs.map V.ref)))):=by
 intro pins s σ H xs us Q I r h;obtain⟨d,cs,as,ys,ep,rfl,hd,hk,wD,q⟩:=h;obtain⟨u,rfl,ru⟩:=r.one;cases ru;obtain⟨es,vL,hz,jJ,N0,hlen,vJ⟩:=DK I hd;have ht:mx s.heap (es.toList.map (·.key)) cs:=by
  rw[jJ];refine⟨by rw[List.length_map,hlen],λi ns e=>?_⟩;have hi:i<as.length:=by rw[hlen];exact(List.getElem?_eq_some_iff.mp e).1
  obtain⟨A5,rj,ij,_⟩:=I.tuple (hk.tup i as[i] ns (Vj hi) e);exact⟨as[i],A5,by rw[List.getElem?_map,List.getElem?_eq_getElem hi];rfl,ij,cg rj⟩
 refine pk (I.ok.hd hc) hu vJ vL (by rw[hz,hlen];exact wD) N0 ht λS h' tk e p hS SV hp hs hl=>?_;rw[jJ]at hl;have NS:(p.toList.map λi=>(as.map Value.ref).getD i Value.none)=(p.toList.map λi=>as.getD i 0).map Value.ref:=by
  rw[List.map_map];refine Vl λi hi=>?_;have jg:i<as.length:=by
   have:=List.mem_range.mp (hp.pm.mem_iff.mp hi);left
  simp[jg]
 rw[NS]at hl;have Od:cE (ao X.K H) (p.toList.map λi=>as.getD i 0) (aG cs):=by
  rw[<- hs];refine⟨by simp,λj a c h1 h2=>?_⟩;rw[List.getElem?_map]at h1 h2;cases hj:p.toList[j]? with
  | none=>rw[hj]at h1;exact nk h1
  | some i =>
   rw[hj]at h1 h2;have jg:i<as.length:=by
    have:=List.mem_range.mp (hp.pm.mem_iff.mp (Vr hj));left
   cases h1;cases h2;exact hk.tup i _ _ (by simp[jg]) (by simp[show i<cs.length by left])
 have jI:∀ l:List Addr,Vals (l.map V.ref) (l.map Value.ref):=λl=>by
  induction l with
  | nil=>exact .nil
  | cons a l ih=>exact .cons rfl ih
 have hsz:sizeLine=16777216:=V3;obtain⟨hn,I'⟩:=Inv.Jk (t':=tk) (o:=.lst ((p.toList.map λi=>as.getD i 0).map V.ref)) I SV hS ⟨by rw[List.length_map,List.length_map,Array.length_toList,hp.sz];left,_,e,jI _,hl⟩;exact⟨.ref S,_,I',rfl,q S _ hn Od⟩
def gH(xs:List D):O D:=match one xs with
 | some d=>match cS d with
  | some z=>if z.1.length<64 then ok (.lst .ow ((aG z.1).map bF))else none
  | none=>none
 | none=>none
theorem v7{r:D}(h:gH xs=ok r):∃ f cs vs,xs=[.aZ f cs vs]/\cs.length<64/\r=.lst .ow ((aG cs).map bF):=by
 unfold gH at h;cases h1:one xs with
 | none=>rw[h1]at h;exact nk h
 | some d =>
  rw[h1]at h;have h:(match cS d with | some z=>if z.1.length<64 then ok (D.lst .ow ((aG z.1).map bF))else none | none=>none)=ok r:=h;cases h2:cS d with
  | none=>rw[h2]at h;exact nk h
  | some z =>
   rw[h2]at h;obtain⟨hl,rfl⟩:=uf (show(if z.1.length<64 then ok (D.lst .ow ((aG z.1).map bF))else none)=ok r from h);obtain⟨f,e⟩:=fN h2;exact⟨f,z.1,z.2,by rw[b6 h1,e],hl,rfl⟩
theorem ja{T:lY}{N:gO}:∀ {bs:List Addr} {cs:List (List Int)} {k:az} {n:Nat},cE T bs cs->ae T N k n (bs.map V.ref) (cs.map bF)
 | [],[],_,_,_=>.nil
 | [],_::_,_,_,h=>by have:=h.len;simp at this
 | _::_,[],_,_,h=>by have:=h.len;simp at this
 | b::bs,c::cs,_,_,h=>.cons (tI (h.tup 0 b c rfl rfl)) (ja ⟨by have:=h.len;simpa using this,λj a c' h1 h2=>h.tup (j+1) a c' h1 h2⟩)
theorem yY{Φ:ay}{n:Nat}(hΦ:Φ n=gH){sc:Scope}{bl:List Str}{k:Nat}(L:PX X sc bl k){e:Expr}{args:List Expr}(he:fQ ("sorted" : Str) sc bl e=some args){F:Addr->Prop}{cs:List CE}(hs:my X F Φ cs args):PE X e (tD X F Φ (.cm n cs))/\PT X e (ft X F Φ (.cm n cs)):=by
 obtain⟨p,pos,a,rfl,rfl,h1,h2⟩:=jn he;cases cs with
 | nil=>exact hs.elim
 | cons c cs=>cases cs with
  | cons _ _=>exact hs.2.2.2.elim
  | nil =>
   have pa:PA X [a] (pd X F Φ [c]):=PA.imp (cT hs.1 (PA.imp gB λ_ _ _ h=>il h) (hs.2.1 _)) λ_ _ _ h=>dY h;have hu:X.A.units+2<cLine:=Vo (Nat.add_le_add_left (by decide:2<=64) _) L.room.units;have this:PE X (.Call (.Name ("sorted" : Str) p) [a] [] pos) (tD X F Φ (.cm n [c])):=by
    refine PE.imp (df (sL L.calm hu) (L.gl h1) (L.bl _ h2) (by decide +kernel) pa (he:=hs.2.1 _)) λσ H Q hq=>?_;obtain⟨R,τ,ρ,d,Si,ev,hq⟩:=hq;obtain⟨xs,bU,ev⟩:=ab ev;rw[hΦ]at ev;obtain⟨f,ks,vs,rfl,hl,rfl⟩:=v7 ev;refine⟨R,τ,ρ,_,Si,bU,λus H1 e1 r1=>?_⟩;obtain⟨τt,fr,rs⟩:=r1;obtain⟨v,rfl,rv⟩:=rs.one;cases rv with
    | aZ hn hk hr =>
     refine⟨_,ks,_,_,_,rfl,hn.dat,hk,hl,λl bs oV Od=>hq _ _ (e1.trans (ai.upd oV)) (bj.AU (e1.free oV) (e1.trans (ai.upd oV)) aB ?_)⟩;exact ja (Od.imp λ_ _ h=>ao.same (ai.upd oV) h)
   exact⟨this,bW this λ_=>rfl⟩
end DI
end
section
namespace DI
open PySem (Str)
noncomputable abbrev Row:=Rat×List Int
def rD(r:Row):D:=.tup [qD r.1,.tup (aa r.2)]
@[simp] theorem En(g:Fl->Fl)(r:Row):aw g (rD r)=rD r:=by unfold rD;simp
@[simp] theorem Fh(g:Fl->Bool)(r:Row):ak g (rD r)=false:=by unfold rD;simp
noncomputable def i_(rs:List Row):List D:=rs.map rD
@[simp] theorem tG(rs:List Row):(i_ rs).length=rs.length:=V7 ..
@[simp] theorem pW(g:Fl->Fl)(rs:List Row):ag g (i_ rs)=i_ rs:=bC g (En g) rs
@[simp] theorem J2(g:Fl->Bool)(rs:List Row):aj g (i_ rs)=false:=bD g (Fh g) rs
theorem ID(n:Nat)(r:Row):ck (n+2) (rD r)=true:=by
 unfold rD;rw[nS,List.all_cons,List.all_cons,mS n];have:ck (n+1) (.tup (aa r.2))=true:=by
  rw[nS];exact j7 (λ_=>by cases n<;>rfl) r.2
 rw[this];rfl
theorem yR(a b:List Int):cI (aa a) (aa b)=decide (a=b):=iI (λx y=>by show(x==y)=_;rfl) a b
theorem Kn(r s:Row):jh (rD r) (rD s)=decide (r=s):=by
 unfold rD;show(jh (qD r.1) (qD s.1)&&(cI (aa r.2) (aa s.2)&&true))=_;rw[uC,yR,Bool.and_true];have:decide (r=s)=decide (r.1=s.1/\r.2=s.2):=by
  congr 1;exact propext ⟨λh=>by rw[h];exact⟨rfl,rfl⟩,λh=>Prod.ext h.1 h.2⟩
 rw[this,<- Bool.decide_and]
theorem Bo(r s:List Row):cI (i_ r) (i_ s)=decide (r=s):=iI Kn r s
noncomputable def Pf(rs:List Row):Prop:=∃ W:Nat,0<W/\W<64/\∀ r∈rs,r.1.den∣W
noncomputable def Rw(n:Nat)(l:List Int):Prop:=l.Nodup/\l.length<=n/\∀ h∈l,0<=h/\h<(n:Int)
theorem CV.rw{n:Nat}{l:List Int}(h:CV n l):Rw n l:=⟨h.nodup,h.len,h.2⟩
structure Dp(P:List Int->Prop)(k n:Nat)(rs:List Row):Prop where
 n1:1<=n
 n2:n<=12
 m8:k*(rs.length+1)<=66
 fin:k*(rs.length+1)<=60\/Pf rs
 len:rs.length<=1000
 I9:∀ r∈rs,P r.2
 pos:∀ r∈rs,0<r.1
 sm:∀ r∈rs,Sm k r.1
 one:(rs.map (·.1)).sum=1
 rise:zz (rs.map (·.2))
variable {rs:List Row}
theorem Dp.imp{P Q:List Int->Prop}{k n:Nat}(I:Dp P k n rs)(h:∀ r∈rs,P r.2->Q r.2):Dp Q k n rs:=⟨I.n1,I.n2,I.m8,I.fin,I.len,λr hr=>h r hr (I.I9 r hr),I.pos,I.sm,I.one,I.rise⟩
noncomputable def oW(rs:List Row):List Rat:=rs.map (·.1)
section
variable {P:List Int->Prop}{k n:Nat}{rs:List Row}(I:Dp P k n rs)
include I
theorem Dp.Du:zJ k (oW rs):=⟨λq hq=>by
 obtain⟨r,hr,rfl⟩:=List.mem_map.mp hq;exact I.sm r hr,by
  have:=I.m8;have h:k*(oW rs).length<=k*(rs.length+1):=V5 _ (by simp[oW]);left,by simp[oW];exact I.len⟩
omit I in
theorem iA{W:Nat}:∀(qs:List Rat) (b:Nat),b∣W->(∀ q∈qs,q.den∣W)->qs.foldl (λb q=>Nat.lcm b q.den) b∣W
 | [],_,h,_=>h
 | q::qs,b,h,hq=>iA qs _ (Nat.lcm_dvd h (hq q Vb)) λp hp=>hq p (Va _ hp)
theorem Dp.bot:0<bx (oW rs)/\bx (oW rs)<2 ^ 61/\∀ q∈oW rs,q.den∣bx (oW rs):=by
 obtain⟨a,b,c⟩:=I.Du.lcm;refine⟨a,?_,c⟩;rcases I.fin with f | ⟨W,w0,w1,w2⟩
 ·refine Vf b (Vh (by decide) ?_);have h:k*(oW rs).length<=k*(rs.length+1):=V5 _ (by simp[oW]);left
 ·have:bx (oW rs)∣W:=iA _ 1 (Nat.one_dvd _) λq hq=>by
   obtain⟨r,hr,rfl⟩:=List.mem_map.mp hq;exact w2 r hr
  exact Vo (V2 w0 this) (Vf w1 (by decide))
theorem Dp.top{r:Row}(hr:r∈rs):(fq (bx (oW rs)) r.1).natAbs<2 ^ 64:=by
 obtain⟨a,b,c⟩:=I.Du.lcm;have s:=I.sm r hr;unfold fq;rw[Int.natAbs_mul,Int.fdiv_eq_ediv_of_nonneg _ (by left),<- Int.natCast_ediv,Int.natAbs_natCast];have h4:(oW rs).length=rs.length:=by simp[oW]
 have h3:=I.m8;rcases I.fin with f | ⟨W,w0,w1,w2⟩
 ·have h1:bx (oW rs) / r.1.den<2 ^ (1+k*(oW rs).length):=Vo (Wv _ _) b;have h2:=aO s.1 h1;refine Vf h2 (Vh (by decide) ?_);rw[h4];rw[Nat.mul_succ]at f;left
 ·have:bx (oW rs)∣W:=iA _ 1 (Nat.one_dvd _) λq hq=>by
   obtain⟨r,hr,rfl⟩:=List.mem_map.mp hq;exact w2 r hr
  have h1:bx (oW rs) / r.1.den<2 ^ 6:=Vo (Wv _ _) (Vo (V2 w0 this) w1);have h2:=aO s.1 h1;refine Vf h2 (Vh (by decide) ?_);have hl:1<=rs.length:=List.length_pos_of_mem hr;have:k*2<=k*(rs.length+1):=V5 _ (by left);left
end
theorem Rw.NT{n:Nat}{l:List Int}(h:Rw n l):ui (.tup (aa l)) n=true:=by
 have h1:(aa l).all (rX n)=true:=by
  unfold aa;rw[List.all_map,List.all_eq_true];intro x hx;have:=h.2.2 x hx;simp[rX,this.1,this.2]
 have h2:qu l=l:=by
  have:=uH l [] (by simp) h.1;rw[List.nil_append]at this;exact this
 simp[ui,h1,pR,h2]
theorem Rw.fm{n:Nat}{l:List Int}(h:Rw n l)(hn:n<=12):KA (.tup (aa l)):=by
 have:=h.2.1;show(aa l).length<64;simp;left
def x_(rs:List Row):List D:=rs.map λr=>.tup (aa r.2)
@[simp] theorem Ek(g:Fl->Fl)(rs:List Row):ag g (x_ rs)=x_ rs:=bC g (λr=>by simp) rs
@[simp] theorem Ff(g:Fl->Bool)(rs:List Row):aj g (x_ rs)=false:=bD g (λr=>by simp) rs
def L_(b:Nat)(rs:List Row):List D:=rs.map λr=>.tup [.int (fq b r.1),.tup (aa r.2)]
@[simp] theorem IS(g:Fl->Fl)(b:Nat)(rs:List Row):ag g (L_ b rs)=L_ b rs:=bC g (λr=>by simp) rs
@[simp] theorem J1(g:Fl->Bool)(b:Nat)(rs:List Row):aj g (L_ b rs)=false:=bD g (λr=>by simp) rs
theorem Dp.some{P:List Int->Prop}{k n:Nat}(I:Dp P k n rs):1<=rs.length:=by
 cases rs with
 | nil=>have:=I.one;simp at this
 | cons r rs=>simp
variable {Φ:ay}{ρ:au}
theorem kG{i j:Nat}{k e:CE}{ρ':au}{d:D}{z:Int}{ds:List D}(h1:gd Φ e ρ=ok (d,ρ'))(h2:aH Φ k ρ'=ok (.int z))(h3:ρ'[i]?=some (some (.lst .ow ds)))(h4:oU ds.length z=some j):
  jL Φ (.setI i k e) ρ=ok (.nx,ρ'.set i (some (.lst .ow (ds.set j d)))):=by
 show bd (gd Φ e ρ) _=_;rw[h1,b8];dsimp only;rw[h2];show(match pP ρ'[i]? with | some ds=>_ | none=>_)=_;rw[h3];show(match oU ds.length z with | some j=>_ | none=>_)=_;rw[h4]
theorem lp{n:Nat}{h:Int}(h0:0<=h)(h1:h<n):oU n h=some h.toNat:=by
 unfold oU;rw[if_pos h0,if_pos h1]
theorem kT{t b:Int}{k:Nat}(h0:b≠0)(h1:t.natAbs<2 ^ k)(h2:b.natAbs<2 ^ k):Sm k (Rat.divInt t b):=mH h0 h1 h2
theorem gI{t b:Int}(ht:0<t)(hb:0<b):0<Rat.divInt t b:=by
 rw[Rat.divInt_eq_div];have h1:(0:Rat)<(t:Rat):=by
  have:=Vx (a:=0) (b:=t);simpa using this.mpr ht
 have h2:(0:Rat)<(b:Rat):=by
  have:=Vx (a:=0) (b:=b);simpa using this.mpr hb
 rw[Rat.div_def];exact WG h1 (Rat.inv_pos.mpr h2)
theorem Ia{q:Rat}:q⁻¹=Rat.divInt q.den q.num:=by conv=>lhs;rw[<- eI q,Rat.inv_divInt]
theorem Sm.inv{k:Nat}{q:Rat}(h:Sm k q)(h0:q≠0):Sm k (q⁻¹):=by
 rw[Ia];exact mH (xq h0) (by simpa using h.2) h.1
theorem Sm.neg{k:Nat}{q:Rat}(h:Sm k q):Sm k (-q):=⟨by simpa using h.1,h.2⟩
theorem Sm.zero(k:Nat)(h:1<=k):Sm k 0:=by
 have:Sm 1 (0:Rat):=by constructor<;>decide
 exact this.mono h
theorem Sm.sum{k:Nat}:∀ {qs:List Rat},(∀ q∈qs,Sm k q)->Sm (1+(k+1)*qs.length) qs.sum
 | [],_=>Sm.zero _ (by simp)
 | q::qs,h=>by
  have h1:=h q Vb;have h2:=Sm.sum (qs:=qs) λp hp=>h p (Va _ hp);rw[List.sum_cons];refine(h1.add h2).mono ?_;rw[List.length_cons,Nat.mul_succ];left
noncomputable def Mz(l:List Int)(f:Int->Rat):Rat:=(l.map f).sum
@[simp] theorem HC(f:Int->Rat):Mz [] f=0:=rfl
noncomputable def Ik(ws xs:List Rat):List Rat:=(ws.zip xs).map λp=>p.1*p.2
structure Gs(j n:Nat)(ws xs:List Rat):Prop where
 l1:ws.length=n
 l2:xs.length=n
 s1:∀ q∈ws,Sm j q
 s2:∀ q∈xs,Sm j q
 jj:j<=100
theorem Gs.Du{j n:Nat}{ws xs:List Rat}(G:Gs j n ws xs)(hn:n<=12):zJ (j+j) (Ik ws xs):=by
 have hl:(Ik ws xs).length=n:=by unfold Ik;rw[List.length_map,List.length_zip,G.l1,G.l2,Nat.min_self]
 have hj:=G.jj;refine⟨λq hq=>?_,?_,by left⟩
 ·obtain⟨p,hp,rfl⟩:=List.mem_map.mp hq;have m:=List.of_mem_zip hp;exact(G.s1 _ m.1).mul (G.s2 _ m.2)
 ·rw[hl];have:(j+j)*n<=200*12:=Nat.mul_le_mul (by left) hn;left
theorem Gs.at{j n:Nat}{ws xs:List Rat}(G:Gs j n ws xs){h:Int}(h0:0<=h)(h1:h<n):CT (Ik ws xs) h=CT ws h*CT xs h:=by
 obtain⟨g1,_⟩:=uT (qs:=ws) h0 (by rw[G.l1];exact h1);obtain⟨g2,_⟩:=uT (qs:=xs) h0 (by rw[G.l2];exact h1);unfold CT at *;unfold Ik;rw[List.getD_eq_getElem?_getD,List.getElem?_map,List.zip,List.getElem?_zipWith,g1,g2];rfl
theorem iW{p i:Nat}{es:List CE}{xs:List D}{d d':D}(h1:bM Φ es ρ=ok xs)(h2:aj aQ xs=false)(h3:ρ[i]?=some (some d))(h4:Φ p (d::xs)=ok d'):jL Φ (.mut p i es) ρ=ok (.nx,ρ.set i (some d')):=by
 show bd (bM Φ es ρ) (λxs=>nX Φ p i (iC es xs ρ))=_;rw[h1,b8];unfold iC;rw[h2,if_neg Bool.false_ne_true];unfold nX;rw[h3];show bd (Φ p (d::xs)) _=_;rw[h4];rfl
theorem m5(c:List Int):∀(cs:List (List Int)) (ws:List Int),aS cs (aa ws) c=(aS cs ws c).map D.int
 | [],_=>by cases ‹List Int› <;> rfl
 | _::_,[]=>rfl
 | c'::cs,w::ws=>by
  show(if c'=c then some (D.int w)else aS cs (aa ws) c)=Option.map D.int (if c'=c then some w else aS cs ws c);by_cases e:c'=c
  ·rw[if_pos e,if_pos e];rfl
  ·rw[if_neg e,if_neg e];exact m5 c cs ws
theorem mI(c:List Int)(v:Int):∀(cs:List (List Int)) (ws:List Int),setC cs (aa ws) c (.int v)=aa (setC cs ws c v)
 | [],_=>by cases ‹List Int› <;> rfl
 | _::_,[]=>rfl
 | c'::cs,w::ws=>by
  show(if c'=c then D.int v else D.int w)::setC cs (aa ws) c (.int v)=D.int (if c'=c then v else w)::aa (setC cs ws c v);rw[mI c v cs ws];by_cases e:c'=c
  ·rw[if_pos e,if_pos e]
  ·rw[if_neg e,if_neg e]
theorem qU(cs:List (List Int))(ws:List Int)(c:List Int)(v:Int):aM cs (aa ws) c (.int v)=aa (aM cs ws c v):=by
 unfold aM;by_cases e:c∈cs
 ·rw[if_pos e,if_pos e];exact mI c v cs ws
 ·rw[if_neg e,if_neg e];simp
def bh(cs:List (List Int))(ws:List Int)(c:List Int):Int:=(aS cs ws c).getD 0
theorem iG{α:Type}{c:List Int}:∀ {cs:List (List Int)} (ws:List α),c∉cs->aS cs ws c=none
 | [],_,_=>by cases ‹List α› <;> rfl
 | _::_,[],_=>rfl
 | c'::cs,w::ws,h=>by
  show(if c'=c then some w else aS cs ws c)=none;rw[if_neg λe=>h (by rw[e];exact List.mem_cons_self)];exact iG ws λz=>h (Va _ z)
theorem iH{α:Type}{c:List Int}:∀ {cs:List (List Int)} {ws:List α},cs.length=ws.length->c∈cs->∃ w,aS cs ws c=some w/\w∈ws
 | [],_,_,h=>nomatch h
 | _::_,[],hl,_=>by simp at hl
 | c'::cs,w::ws,hl,h=>by
  by_cases e:c'=c
  ·exact⟨w,VA e,Vb⟩
  ·have h':c∈cs:=(List.mem_cons.mp h).resolve_left λz=>e z.symm;obtain⟨w',e1,e2⟩:=iH (cs:=cs) (ws:=ws) (by simpa using hl) h';exact⟨w',(V1 e).trans e1,Va _ e2⟩
theorem pV:∀ {cs:List (List Int)} {ws:List Int},cs.Nodup->cs.length=ws.length->cs.map (bh cs ws)=ws
 | [],[],_,_=>rfl
 | [],_::_,_,h=>by simp at h
 | _::_,[],_,h=>by simp at h
 | c::cs,w::ws,hn,hl=>by
  have uk:=List.nodup_cons.mp hn;have ih:=pV (cs:=cs) (ws:=ws) uk.2 (by simpa using hl);rw[List.map_cons];have e1:bh (c::cs) (w::ws) c=w:=by
   show(if c=c then some w else aS cs ws c).getD 0=w;rw[if_pos rfl];rfl
  have e2:cs.map (bh (c::cs) (w::ws))=cs.map (bh cs ws):=Vl λx hx=>by
   show(if c=x then some w else aS cs ws x).getD 0=_;rw[if_neg (show ¬ c=x from λz=>uk.1 (by rw[z];exact hx))];rfl
  rw[e1,e2,ih]
theorem pE{c:List Int}{v:Int}:∀ {cs:List (List Int)} {ws:List Int},cs.Nodup->cs.length=ws.length->c∈cs->(setC cs ws c v).sum=ws.sum - bh cs ws c+v/\(setC cs ws c v).length=ws.length
 | [],_,_,_,h=>nomatch h
 | _::_,[],_,h,_=>by simp at h
 | c'::cs,w::ws,hn,hl,h=>by
  have uk:=List.nodup_cons.mp hn;have oV:cs.length=ws.length:=by simpa using hl
  have es:setC (c'::cs) (w::ws) c v=(if c'=c then v else w)::setC cs ws c v:=rfl;by_cases e:c'=c
  ·have JC:∀ {cs:List (List Int)} {ws:List Int},cs.length=ws.length->c∉cs->setC cs ws c v=ws:=λ{cs}=>by
    induction cs with
    | nil=>intro ws hl _;cases ws with | nil=>rfl | cons _ _=>simp at hl
    | cons d cs ih =>
     intro ws hl hc;cases ws with
     | nil=>simp at hl
     | cons w ws =>
      show(if d=c then v else w)::setC cs ws c v=_;rw[if_neg λz=>hc (by rw[z];exact List.mem_cons_self),ih (by simpa using hl) λz=>hc (List.mem_cons_of_mem _ z)]
   have Td:c∉cs:=e▸uk.1;rw[es,if_pos e,JC oV Td];have eg:bh (c'::cs) (w::ws) c=w:=by
    show(if c'=c then some w else aS cs ws c).getD 0=w;rw[if_pos e];rfl
   rw[eg];refine⟨?_,rfl⟩;rw[List.sum_cons,List.sum_cons];left
  ·have h':c∈cs:=(List.mem_cons.mp h).resolve_left λz=>e z.symm;obtain⟨i1,i2⟩:=pE (v:=v) uk.2 oV h';have eg:bh (c'::cs) (w::ws) c=bh cs ws c:=by
    show(if c'=c then some w else aS cs ws c).getD 0=_;rw[if_neg e];rfl
   rw[es,if_neg e,eg];refine⟨?_,by rw[List.length_cons,List.length_cons,i2]⟩;rw[List.sum_cons,List.sum_cons,i1];left
theorem pF{c:List Int}{v:Int}:∀ {cs:List (List Int)} {ws:List Int} {x:Int},x∈setC cs ws c v->x∈ws\/x=v
 | [],_,_,h=>by cases ‹List Int› <;> exact nomatch h
 | _::_,[],_,h=>nomatch h
 | c'::cs,w::ws,x,h=>by
  have h:x∈(if c'=c then v else w)::setC cs ws c v:=h;rcases List.mem_cons.mp h with e | h
  ·by_cases q:c'=c
   ·rw[if_pos q]at e;exact .inr e
   ·rw[if_neg q]at e;rw[e];exact .inl Vb
  ·rcases pF h with h | h
   ·exact .inl (Va _ h)
   ·exact .inr h
structure Tab(P:List Int->Prop)(j:Nat)(cs:List (List Int))(ws:List Int):Prop where
 nd:cs.Nodup
 ln:cs.length=ws.length
 m8:cs.length<=j
 I9:∀ c∈cs,P c
 pos:∀ w∈ws,1<=w
 sum:ws.sum<=7*j
 ne:1<=j->cs≠[]
variable {cs ks:List (List Int)}{ws:List Int}
theorem Tab.get{n:List Int->Prop}{j:Nat}(T:Tab n j cs ws)(c:List Int):0<=bh cs ws c:=by
 by_cases h:c∈cs
 ·obtain⟨w,e,m⟩:=iH T.ln h;unfold bh;rw[e];have:=T.pos w m;show 0<=w;left
 ·unfold bh;rw[iG ws h];exact V4 _
theorem Tab.put{n:List Int->Prop}{j:Nat}(T:Tab n j cs ws){c:List Int}(hc:n c){i:Int}(h1:1<=i)(h7:i<=7):Tab n (j+1) (ax cs c) (aM cs ws c (bh cs ws c+i)):=by
 have hg:=T.get c;have hf:=T.m8;have hs:=T.sum;by_cases h:c∈cs
 ·obtain⟨s1,s2⟩:=pE (v:=bh cs ws c+i) T.nd T.ln h;unfold ax aM;rw[if_pos h,if_pos h];refine⟨T.nd,by rw[s2];exact T.ln,by left,T.I9,λw hw=>?_,by rw[s1];left,λ_ z=>by rw[z]at h;cases h⟩;rcases pF hw with hw | rfl
  ·exact T.pos w hw
  ·left
 ·have hz:bh cs ws c=0:=by unfold bh;rw[iG ws h];rfl
  unfold ax aM;rw[if_neg h,if_neg h,hz];refine⟨?_,by rw[List.length_append,List.length_append,T.ln];rfl,by rw[List.length_append,List.length_singleton];left,λd hd=>?_,λw hw=>?_,by rw[List.sum_append];simp;left,λ_ z=>by simp at z⟩
  ·refine List.nodup_append.mpr ⟨T.nd,List.nodup_cons.mpr ⟨List.not_mem_nil,Wa⟩,λa ha b hb e=>?_⟩;rw[List.mem_singleton.mp hb]at e;exact h (e▸ha)
  ·rcases List.mem_append.mp hd with hd | hd
   ·exact T.I9 d hd
   ·rw[List.mem_singleton.mp hd];exact hc
  ·rcases List.mem_append.mp hw with hw | hw
   ·exact T.pos w hw
   ·rw[List.mem_singleton.mp hw];left
def rl(cs:List (List Int))(ws:List Int):List Row:=(aG cs).map λc=>(Rat.divInt (bh cs ws c) ws.sum,c)
theorem Tab.AW{n:List Int->Prop}{j:Nat}(T:Tab n j cs ws):∀ w∈ws,w<=ws.sum:=λw hw=>by
 have:∀ l:List Int,(∀ x∈l,1<=x)->0<=l.sum/\∀ x∈l,x<=l.sum:=λl=>by
  induction l with
  | nil=>intro _;exact⟨V4 _,λ_ h=>nomatch h⟩
  | cons a l ih =>
   intro h;obtain⟨i1,i2⟩:=ih λx hx=>h x (Va _ hx);have ha:=h a Vb;rw[List.sum_cons];refine⟨by left,λx hx=>?_⟩;rcases List.mem_cons.mp hx with rfl | hx
   ·left
   ·have:=i2 x hx;left
 exact(this ws T.pos).2 w hw
theorem nE(W:Int)(hW:W≠0):∀ ls:List Int,(ls.map λx=>Rat.divInt x W).sum=Rat.divInt ls.sum W
 | []=>by simp
 | x::ls=>by
  rw[List.map_cons,List.sum_cons,nE W hW ls,List.sum_cons,Rat.divInt_eq_div,Rat.divInt_eq_div,Rat.divInt_eq_div,Rat.intCast_add];grind
theorem xH{a b:List Rat}(h:a.Perm b):a.sum=b.sum:=by
 induction h with
 | nil=>rfl
 | cons x _ ih=>rw[List.sum_cons,List.sum_cons,ih]
 | swap x y l=>rw[List.sum_cons,List.sum_cons,List.sum_cons,List.sum_cons];grind
 | trans _ _ i1 i2=>rw[i1,i2]
theorem Tab.dr{P:List Int->Prop}{n j:Nat}(T:Tab P j cs ws)(h1:1<=j)(h6:j<=8)(n1:1<=n)(n2:n<=12):Dp P 6 n (rl cs ws):=by
 have hp:(aG cs).Perm cs:=Vy _ _;have hl:(rl cs ws).length=cs.length:=by unfold rl;rw[List.length_map];exact hp.length_eq
 have hf:=T.m8;have hs:=T.sum;have val:∀ c∈aG cs,1<=bh cs ws c/\bh cs ws c<=ws.sum:=λc hc=>by
  obtain⟨w,e,m⟩:=iH T.ln (hp.mem_iff.mp hc);unfold bh;rw[e];exact⟨T.pos w m,T.AW w m⟩
 have hW:1<=ws.sum:=by
  obtain⟨c,hc⟩:=List.exists_mem_of_ne_nil cs (T.ne h1);have:=val c (hp.mem_iff.mpr hc);left
 refine⟨n1,n2,by rw[hl];left,.inl (by rw[hl];left),by rw[hl];left,λr hr=>?_,λr hr=>?_,λr hr=>?_,?_,?_⟩
 ·obtain⟨c,hc,rfl⟩:=List.mem_map.mp hr;exact T.I9 c (hp.mem_iff.mp hc)
 ·obtain⟨c,hc,rfl⟩:=List.mem_map.mp hr;exact gI (by have:=val c hc;left) (by left)
 ·obtain⟨c,hc,rfl⟩:=List.mem_map.mp hr;have:=val c hc;exact kT (by left) (by show _<64;left) (by show _<64;left)
 ·have e:(rl cs ws).map (·.1)=(aG cs).map λc=>Rat.divInt (bh cs ws c) ws.sum:=by
   unfold rl;rw[List.map_map];rfl
  rw[e];have e2:((aG cs).map λc=>Rat.divInt (bh cs ws c) ws.sum).sum=(cs.map λc=>Rat.divInt (bh cs ws c) ws.sum).sum:=xH (hp.map _);have e3:(cs.map λc=>Rat.divInt (bh cs ws c) ws.sum)=(cs.map (bh cs ws)).map λx=>Rat.divInt x ws.sum:=by rw[List.map_map];rfl
  rw[e2,e3,pV T.nd T.ln,nE _ (by left),Rat.divInt_eq_div];have z:((ws.sum:Int):Rat)≠0:=λz=>by rw[Rat.intCast_eq_zero_iff]at z;left
  grind
 ·have e:(rl cs ws).map (·.2)=aG cs:=by
   unfold rl;rw[List.map_map];exact(Vl λ_ _=>rfl).trans (List.map_id _)
  rw[e];exact gz T.nd
structure qT(most:Nat)(qs:List Rat)(B:Nat):Prop where
 n1:1<=qs.length
 n2:qs.length<=most
 b1:1<=B
 b2:B<=9
 q0:∀ q∈qs,0<=q
 q1:∀ q∈qs,q<=1
 qd:∀ q∈qs,q.den∣B
 su:∃ s:Int,qs.sum=(s:Rat)
variable {B:Nat}{qs:List Rat}
theorem qT.le{m k:Nat}(h:qT m qs B)(hk:m<=k):qT k qs B:=⟨h.n1,Vp h.n2 hk,h.b1,h.b2,h.q0,h.q1,h.qd,h.su⟩
theorem rH{q:Rat}(h:q<=1):q.num<=(q.den:Int):=by
 have h':(q.num:Rat)<=(q.den:Rat):=by
  rw[tJ];have h2:(0:Rat)<=(q.den:Rat):=by exact_mod_cast Vs _
  have:=Rat.mul_le_mul_of_nonneg_right h h2
  rwa [Rat.one_mul]at this
 exact_mod_cast h'
theorem xS{q:Rat}(h:0<=q):0<=q.num:=Rat.num_nonneg.mpr h
theorem qT.sm{m:Nat}(h:qT m qs B){q:Rat}(hq:q∈qs):Sm 4 q:=by
 have h1:=rH (h.q1 q hq);have h2:=xS (h.q0 q hq);have h3:=V2 (by have:=h.b1;left) (h.qd q hq);have:=h.b2;constructor<;>simp<;>left
theorem qT.Du{m:Nat}(h:qT m qs B)(hm:m<=12):zJ 4 qs:=⟨λ_ hq=>h.sm hq,by have:=h.n2;left,by have:=h.n2;left⟩
noncomputable def oR(m:List D->O D):Prop:=∀ q:Rat,0<=q->q<=1->m [qD q]=ok (.bl true)
noncomputable def ku:List CS:=[.ret (.and [(.call 3 [(.v 0)]),(.cmp .ge (.ix (.v 0) (.int 0)) (.int 0)),(.cmp .le (.ix (.v 0) (.int 0)) (.ix (.v 0) (.int 1)))])]
theorem An(Φ:ay)(h3:dQ (Φ 3)):oR (mk Φ 1 1 ku):=by
 intro q h0 h1;have e1:=h3 (qD q);rw[Bk]at e1;simp[mk_eq,ku,e1,xS h0,rH h1]
noncomputable def yU:CE:=.comp 1 (.nm 0) [] .seq [(.v 0)] [] (.call 23 [(.v 0)])
def zw(m:List D->O D):Prop:=∀ f qs (n:Nat),1<=qs.length->qs.length<=n->n<=1000->(∀ q∈qs,0<=q)->(∀ q∈qs,q<=1)->m [.lst f (aN qs),.int n]=ok (.bl true)
def oM:List CS:=[.ifs (.or [(.not (.ud (.v 0) .list)),(.cmp .lt (.bf .len [(.v 0)]) (.int 1)),(.cmp .gt (.bf .len [(.v 0)]) (.v 1))]) [.ret (.bl false)] [],.ret (.bf .all1 [yU])]
theorem HR(Φ:ay)(TH:oR (Φ 23)):zw (mk Φ 2 2 oM):=by
 intro f qs n h1 h2 hn q0 q1;have e1:∀ f',aH Φ yU [some (.lst f' (aN qs)),some (.int n)]=ok (.lst .ow (sO (qs.map λ_=>true))):=λf'=>by
  unfold yU;rw[eQ (xs:=[.lst (bu f') (aN qs)]) (items:=aN qs) (ds:=qs.map λ_=>.bl true) (by simp) (by rw[iD];simp) (fO λq hq=>⟨[some (qD q)],by simp[ba],by simp,by simp[TH q (q0 q hq) (q1 q hq)]⟩) (by simp;exact cW (by left))];simp[sO,bJ]
 have e2:((qs.map λ_=>true).all id)=true:=by simp
 have c1:¬ (qs.length:Int)<1:=by left
 have c2:¬ (n:Int)<(qs.length:Int):=by left
 simp[mk_eq,oM,eN,e1,c1,c2]
def oS(m:List D->O D):Prop:=∀ f qs B,qT 12 qs B->∃ z:Int,m [.lst f (aN qs)]=ok (.int z)
noncomputable def kz:List CS:=[.asg (.nm 1) (.call 9 [(.v 0)]),.asg (.nm 2) (.bf .pf [(.call 10 [(.v 0),(.v 1)])]),.ret (.ite (.cmp .eq (.bin .mod (.v 2) (.v 1)) (.int 0)) (.bin .fdiv (.v 2) (.v 1)) .aL)]
theorem o9{b:Nat}(h:∀ q∈qs,q.den∣b){s:Int}(hs:qs.sum=(s:Rat)):(qs.map (fq b)).sum=s*(b:Int):=by
 have:=o8 h;rw[hs]at this;have e:((s*(b:Int):Int):Rat)=(s:Rat)*(b:Rat):=by rw[Rat.intCast_mul,Rat.intCast_natCast]
 rw[<- e]at this;exact Rat.intCast_inj.mp this
theorem mn(s b:Int)(hb:b≠0):(s*b).fmod b=0:=by
 rw[Int.fmod_def,Int.mul_fdiv_cancel _ hb,Int.mul_comm b s];left
theorem Ao(Φ:ay)(h9:bZ (Φ 9))(Fs:dG (Φ 10)):oS (mk Φ 1 3 kz):=by
 intro f qs B I;have hs:=I.Du (Vc _);obtain⟨s,es⟩:=I.su;have e9:=λf=>h9 f qs 4 hs;obtain⟨l1,l2,l3⟩:=hs.lcm;have OW:=λf=>Fs f qs 4 (bx qs) hs hs.Jh;have et:=o9 l3 es;have hb:bx qs<2 ^ 61:=Vf l2 (Vh (by decide) (by have:=I.n2;left));generalize bx qs=b at *;have hm:(s*(b:Int)).fmod b=0:=mn s b (by left);have d1:br .fdiv (.int (s*(b:Int))) (.int (b:Int))=ok (.int ((s*(b:Int)).fdiv b)):=gK (dm (by left) (eL (by simp;left)));have Tf:(b:Int)≠0:=by left
 have m1:br .mod (.int (s*(b:Int))) (.int (b:Int))=ok (.int 0):=by rw[uQ Tf,hm]
 refine⟨(s*(b:Int)).fdiv b,?_⟩;simp[mk_eq,kz,e9,OW,et,m1,d1]
def zy(m:List D->O D):Prop:=∀ f qs B,qT 12 qs B->m [.lst f (aN qs)]=ok .aL
noncomputable def uS:List CS:=[.ifs (.or [(.not (.call 24 [(.v 0),(.glo "MOST_HOUSES" 12)])),(.cmp .EK (.call 25 [(.v 0)]) .aL)]) [.rs 2] []]
theorem HU(Φ:ay)(TF:zw (Φ 24))(TC:oS (Φ 25)):zy (mk Φ 1 1 uS):=by
 intro f qs B I;have e1:=λf=>TF f qs 12 I.n1 I.n2 (by decide) I.q0 I.q1;have e2:∀ f,∃ z:Int,Φ 25 [.lst f (aN qs)]=ok (.int z):=λf=>TC f qs B I;obtain⟨z,e2⟩:=e2 (aC (bu f));have e1:=e1 (aC (bu f));have c1:cJ .EK (.int z) .aL=ok (.bl false):=rfl;simp[mk_eq,uS];have zI:Φ 24 [.lst (aC (bu f)) (aN qs),.int 12]=ok (.bl true):=e1;simp[zI,e2,c1]
noncomputable def gh(W x:Int):Bool:=decide (0<x)&&decide (x<W)
def dy(W:Int):Int->List Int->List Int
 | _,[]=>[]
 | j,x::xs=>if gh W x then j::dy W (j+1) xs else dy W (j+1) xs
noncomputable def aF(W:Int):Int->List Int->List Int
 | _,[]=>[]
 | j,x::xs=>if x=W then j::aF W (j+1) xs else aF W (j+1) xs
def vals(W:Int)(p:List Int):List Int:=p.filter (gh W)
variable {W:Int}
theorem dB{x:Int}:gh W x=true ↔ 0<x/\x<W:=by simp[gh]
theorem fY{W:Int}:∀ {p:List Int} {j:Int},vals W p=[]->dy W j p=[]
 | [],_,_=>rfl
 | x::p,j,h=>by
  unfold vals at h;by_cases hx:gh W x=true
  ·rw[List.filter_cons_of_pos hx]at h;cases h
  ·rw[List.filter_cons_of_neg hx]at h;rw[dy,if_neg hx];exact fY h
theorem nA{W:Int}:∀ {p q:List Int} {j:Int},dy W j (p++q)=dy W j p++dy W (j+p.length) q
 | [],q,j=>by simp[dy]
 | x::p,q,j=>by
  have e:j+1+(p.length:Int)=j+((x::p).length:Int):=by simp;left
  rw[List.cons_append,dy,dy,nA (p:=p),e];split<;>simp
theorem kL(p q:List Int):vals W (p++q)=vals W p++vals W q:=List.filter_append ..
theorem cu(x:Int)(p:List Int):vals W (x::p)=if gh W x then x::vals W p else vals W p:=List.filter_cons ..
theorem split1{W:Int}:∀ p:List Int,vals W p=[]\/∃ A a C,p=A++a::C/\vals W A=[]/\gh W a=true
 | []=>.inl rfl
 | x::p=>by
  by_cases hx:gh W x=true
  ·exact .inr ⟨[],x,p,rfl,rfl,hx⟩
  ·rcases split1 p with h | ⟨A,a,C,rfl,h1,h2⟩
   ·exact .inl (by rw[cu,if_neg hx,h])
   ·exact .inr ⟨x::A,a,C,rfl,by rw[cu,if_neg hx,h1],h2⟩
structure eE(n:Nat)(W:Int)(p:List Int):Prop where
 len:p.length=n
 lo:∀ x∈p,0<=x
 hi:∀ x∈p,x<=W
 su:∃ s:Int,p.sum=s*W
structure Tw(W:Int)(p A:List Int)(a:Int)(B:List Int)(b:Int)(C:List Int):Prop where
 eq:p=A++a::(B++b::C)
 vA:vals W A=[]
 vB:vals W B=[]
 ua:gh W a=true
 ub:gh W b=true
theorem fD{W:Int}:∀ {A:List Int},vals W A=[]->(∀ x∈A,0<=x)->(∀ x∈A,x<=W)->∃ k:Int,A.sum=k*W
 | [],_,_,_=>⟨0,by simp⟩
 | x::A,h,l,u=>by
  rw[cu]at h;split at h
  ·cases h
  ·rename_i hx;obtain⟨k,hk⟩:=fD h (λy hy=>l y (Va _ hy)) λy hy=>u y (Va _ hy);have l0:=l x Vb;have u0:=u x Vb;have zD:¬ (0<x/\x<W):=λz=>hx (dB.mpr z);rw[List.sum_cons,hk];by_cases e:x=0
   ·exact⟨k,by left⟩
   ·exact⟨k+1,by rw[Int.add_mul];left⟩
theorem AQ{a m:Int}(h0:0<a)(h1:a<W)(h:a=m*W):False:=by
 by_cases hm:m<=0
 ·have:=VW hm (show 0<=W by left);left
 ·have:=VW (show 1<=m by left) (show 0<=W by left);left
theorem eE.two{n:Nat}{p:List Int}(I:eE n W p)(h:vals W p≠[]):∃ A a B b C,Tw W p A a B b C:=by
 rcases split1 (W:=W) p with e | ⟨A,a,C,rfl,h1,h2⟩
 ·exact absurd e h
 ·rcases split1 (W:=W) C with e | ⟨B,b,C',rfl,h3,h4⟩
  ·obtain⟨s,hs⟩:=I.su;obtain⟨k1,e1⟩:=fD h1 (λx hx=>I.lo x (by simp[hx])) λx hx=>I.hi x (by simp[hx]);obtain⟨k2,e2⟩:=fD e (λx hx=>I.lo x (by simp[hx])) λx hx=>I.hi x (by simp[hx]);rw[List.sum_append,List.sum_cons,e1,e2]at hs;obtain⟨u1,u2⟩:=dB.mp h2;exact(AQ u1 u2 (m:=s - k1 - k2) (by rw[Int.sub_mul,Int.sub_mul];left)).elim
  ·exact⟨A,a,B,b,C',rfl,h1,h3,h2,h4⟩
noncomputable def aU(W a b:Int):Rat:=if a+b<=W then Rat.divInt a (a+b)else Rat.divInt (W - b) (2*W - a - b)
noncomputable def bS(W a b:Int):Int:=if W<a+b then W else a+b
def bY(W a b:Int):Int:=a+b - bS W a b
def vq(W:Int)(p:List Int):Option (Rat×List Int×List Int):=match dy W 0 p with
 | i::j::_=>some (aU W (p.getD i.toNat 0) (p.getD j.toNat 0),(p.set i.toNat (bS W (p.getD i.toNat 0) (p.getD j.toNat 0))).set j.toNat (bY W (p.getD i.toNat 0) (p.getD j.toNat 0)),(p.set j.toNat (bS W (p.getD i.toNat 0) (p.getD j.toNat 0))).set i.toNat (bY W (p.getD i.toNat 0) (p.getD j.toNat 0)))
 | _=>none
section
variable {W a b:Int}{p A B C:List Int}(T:Tw W p A a B b C)
include T
theorem Tw.dy:dy W 0 p=(A.length:Int)::((A.length+1+B.length:Nat):Int)::dy W ((A.length+1+B.length:Nat)+1) C:=by
 rw[T.eq,nA,fY T.vA,List.nil_append,DI.dy,if_pos T.ua,nA,fY T.vB,List.nil_append,DI.dy,if_pos T.ub];have e:(0:Int)+(A.length:Int)+1+(B.length:Int)=((A.length+1+B.length:Nat):Int):=by push_cast;left
 rw[e,Int.zero_add]
theorem Tw.vals:vals W p=a::b::vals W C:=by
 rw[T.eq,kL,T.vA,List.nil_append,cu,if_pos T.ua,kL,T.vB,List.nil_append,cu,if_pos T.ub]
theorem Tw.LY:p.getD A.length 0=a:=by rw[T.eq];simp
theorem Tw.at2:p.getD (A.length+1+B.length) 0=b:=by
 rw[T.eq];have:A++a::(B++b::C)=(A++a::B)++b::C:=by simp
 rw[this,show A.length+1+B.length=(A++a::B).length by simp;left];simp
theorem Tw.Aj(x:Int):p.set A.length x=A++x::(B++b::C):=by rw[T.eq];simp[List.set_append]
theorem Tw.HK(x:Int):p.set (A.length+1+B.length) x=A++a::(B++x::C):=by
 rw[T.eq];have:∀ y,A++a::(B++y::C)=(A++a::B)++y::C:=by simp
 rw[this,this,show A.length+1+B.length=(A++a::B).length by simp;left];simp[List.set_append]
omit T in
theorem tx(A:List Int)(a:Int)(B:List Int)(b:Int)(C:List Int)(x:Int):(A++a::(B++b::C)).set (A.length+1+B.length) x=A++a::(B++x::C):=by
 have:∀ y,A++a::(B++y::C)=(A++a::B)++y::C:=by simp
 rw[this,this,show A.length+1+B.length=(A++a::B).length by simp;left];simp[List.set_append]
theorem Tw.vq:vq W p=some (aU W a b,A++bS W a b::(B++bY W a b::C),A++bY W a b::(B++bS W a b::C)):=by
 unfold DI.vq;rw[T.dy];dsimp only;rw[Int.toNat_natCast,Int.toNat_natCast,T.LY,T.at2,T.Aj,T.HK,tx];have:(A++a::(B++bS W a b::C)).set A.length (bY W a b)=A++bY W a b::(B++bS W a b::C):=by simp[List.set_append]
 rw[this]
theorem Tw.pq:0<a/\a<W/\0<b/\b<W:=⟨(dB.mp T.ua).1,(dB.mp T.ua).2,(dB.mp T.ub).1,(dB.mp T.ub).2⟩
theorem Tw.hl:0<=bS W a b/\bS W a b<=W/\0<=bY W a b/\bY W a b<=W/\bS W a b+bY W a b=a+b/\(gh W (bS W a b)=false\/gh W (bY W a b)=false):=by
 obtain⟨h1,h2,h3,h4⟩:=T.pq;unfold bY bS gh;split<;>refine⟨by left,by left,by left,by left,by left,?_⟩
 ·left;simp
 ·right;simp
end
def nv(W:Int):List Int->List Int
 | a::b::r=>(if gh W (bS W a b)then[bS W a b]else if gh W (bY W a b)then[bY W a b]else[])++r
 | _=>[]
theorem nU(W a b:Int)(r:List Int):(nv W (a::b::r)).length<=r.length+1:=by
 show((if gh W (bS W a b)then[bS W a b]else if gh W (bY W a b)then[bY W a b]else[])++r).length<=_;rw[List.length_append];split
 ·simp;left
 ·split<;>simp;left
section
variable {n:Nat}{W a b:Int}{p A B C:List Int}(I:eE n W p)(T:Tw W p A a B b C)
include I T
theorem Tw.PM{x y:Int}(hx:0<=x/\x<=W)(hy:0<=y/\y<=W)(hs:x+y=a+b):eE n W (A++x::(B++y::C)):=by
 have hl:=I.len;have lo:=I.lo;have hi:=I.hi;obtain⟨s,ER⟩:=I.su;rw[T.eq]at hl lo hi ER;refine⟨by rw[<- hl];simp,λz hz=>?_,λz hz=>?_,s,by rw[<- ER];simp;left⟩
 ·simp only[List.mem_append,List.mem_cons]at hz;rcases hz with hz | rfl | hz | rfl | hz
  ·exact lo z (by simp[hz])
  ·exact hx.1
  ·exact lo z (by simp[hz])
  ·exact hy.1
  ·exact lo z (by simp[hz])
 ·simp only[List.mem_append,List.mem_cons]at hz;rcases hz with hz | rfl | hz | rfl | hz
  ·exact hi z (by simp[hz])
  ·exact hx.2
  ·exact hi z (by simp[hz])
  ·exact hy.2
  ·exact hi z (by simp[hz])
theorem Tw.won:eE n W (A++bS W a b::(B++bY W a b::C)):=by
 obtain⟨h1,h2,h3,h4,h5,_⟩:=T.hl;exact T.PM I ⟨h1,h2⟩ ⟨h3,h4⟩ h5
theorem Tw.lost:eE n W (A++bY W a b::(B++bS W a b::C)):=by
 obtain⟨h1,h2,h3,h4,h5,_⟩:=T.hl;exact T.PM I ⟨h3,h4⟩ ⟨h1,h2⟩ (by left)
omit I in
theorem Tw.zN:DI.vals W (A++bS W a b::(B++bY W a b::C))=nv W (DI.vals W p)/\DI.vals W (A++bY W a b::(B++bS W a b::C))=nv W (DI.vals W p):=by
 obtain⟨_,_,_,_,_,h⟩:=T.hl;rw[T.vals];simp only[kL,cu,T.vA,T.vB,List.nil_append,nv];rcases h with h | h
 ·cases z:gh W (bY W a b)<;>simp[h]
 ·cases z:gh W (bS W a b)<;>simp[h]
end
theorem lQ{t b:Int}(hb:0<b)(h:t<b):Rat.divInt t b<1:=by
 have Fj:(0:Rat)<(b:Rat):=by have:=Vx (a:=0) (b:=b);simpa using this.mpr hb
 have h1:(t:Rat)<(b:Rat):=Rat.intCast_lt_intCast.mpr h;rw[Rat.divInt_eq_div,Rat.div_def];have:=VZ h1 (Rat.inv_pos.mpr Fj)
 rwa [Rat.mul_inv_cancel _ (Rat.ne_of_gt Fj)]at this
theorem lV{a b:Int}(h1:0<a)(h2:a<W)(h3:0<b)(h4:b<W)(hW:W<=9):0<aU W a b/\aU W a b<1/\Sm 5 (aU W a b):=by
 unfold aU;split
 ·exact⟨gI h1 (by left),lQ (by left) (by left),kT (by left) (by show _<32;left) (by show _<32;left)⟩
 ·exact⟨gI (by left) (by left),lQ (by left) (by left),kT (by left) (by show _<32;left) (by show _<32;left)⟩
noncomputable def ind(x y:List Int):Rat:=if x=y then 1 else 0
def Pr(W:Int):Nat->List Int->List Int->Rat
 | 0,p,l=>ind (aF W 0 p) l
 | n+1,p,l=>match vq W p with
  | none=>ind (aF W 0 p) l
  | some z=>z.1*Pr W n z.2.1 l+(1 - z.1)*Pr W n z.2.2 l
theorem xR{p:List Int}(h:vals W p=[]):vq W p=none:=by unfold vq;rw[fY h]
theorem jq{p:List Int}(h:vals W p=[])(k:Nat)(l:List Int):Pr W k p l=ind (aF W 0 p) l:=by
 cases k with
 | zero=>rfl
 | succ k=>rw[Pr,xR h]
theorem kD{n:Nat}{W:Int}(l:List Int):∀(k:Nat) (p:List Int),eE n W p->(vals W p).length<=k->Pr W k p l=Pr W (k+1) p l
 | 0,p,I,h=>by
  have:vals W p=[]:=List.length_eq_zero_iff.mp (by left);rw[jq this,jq this]
 | k+1,p,I,h=>by
  by_cases e:vals W p=[]
  ·rw[jq e,jq e]
  ·obtain⟨A,a,B,b,C,T⟩:=I.two e;obtain⟨v1,v2⟩:=T.zN;have hv:=T.vals;have hn:=nU W a b (vals W C);rw[hv]at h v1 v2;simp only[List.length_cons]at h;rw[Pr,Pr,T.vq];dsimp only;rw[kD l k _ (T.won I) (by rw[v1];left),kD l k _ (T.lost I) (by rw[v2];left)]
theorem uY{n:Nat}(l:List Int){k:Nat}{p A B C:List Int}{a b:Int}(I:eE n W p)(T:Tw W p A a B b C)(h:(vals W p).length<=k):
  Pr W k p l=aU W a b*Pr W k (A++bS W a b::(B++bY W a b::C)) l+(1 - aU W a b)*Pr W k (A++bY W a b::(B++bS W a b::C)) l:=by
 obtain⟨v1,v2⟩:=T.zN;have hv:=T.vals;have hn:=nU W a b (vals W C);rw[hv]at h v1 v2;simp only[List.length_cons]at h;obtain⟨k,rfl⟩:∃ j,k=j+1:=⟨k - 1,by left⟩
 rw[Pr,T.vq];dsimp only;rw[kD l k _ (T.won I) (by rw[v1];left),kD l k _ (T.lost I) (by rw[v2];left)]
theorem j9{W:Int}:∀ {p:List Int} {j:Int},∀ x∈aF W j p,j<=x
 | [],_,_,h=>by simp[aF]at h
 | y::p,j,x,h=>by
  rw[aF]at h;split at h
  ·rcases List.mem_cons.mp h with rfl | h
   ·exact V4 _
   ·have:=j9 x h;left
  ·have:=j9 x h;left
theorem pZ{W:Int}(hW:0<W):∀ {p q:List Int} {j:Int},p.length=q.length->vals W p=[]->vals W q=[]->(∀ x∈p,0<=x/\x<=W)->(∀ x∈q,0<=x/\x<=W)->aF W j p=aF W j q->p=q
 | [],[],_,_,_,_,_,_,_=>rfl
 | [],_::_,_,h,_,_,_,_,_=>by simp at h
 | _::_,[],_,h,_,_,_,_,_=>by simp at h
 | x::p,y::q,j,h,h1,h2,h3,h4,e=>by
  rw[cu]at h1 h2;have hx:gh W x=false:=by
   cases z:gh W x with
   | false=>rfl
   | true=>rw[z,if_pos rfl]at h1;cases h1
  have hy:gh W y=false:=by
   cases z:gh W y with
   | false=>rfl
   | true=>rw[z,if_pos rfl]at h2;cases h2
  rw[hx]at h1;rw[hy]at h2;have ex:x=0\/x=W:=by
   have:=h3 x Vb;have:¬ (0<x/\x<W):=λz=>by rw[dB.mpr z]at hx;cases hx
   left
  have ey:y=0\/y=W:=by
   have:=h4 y Vb;have:¬ (0<y/\y<W):=λz=>by rw[dB.mpr z]at hy;cases hy
   left
  have rc:=pZ hW (p:=p) (q:=q) (j:=j+1) (by simpa using h) (by simpa using h1) (by simpa using h2) (λz hz=>h3 z (Va _ hz)) λz hz=>h4 z (Va _ hz);rw[aF,aF]at e;rcases ex with rfl | rfl<;>rcases ey with rfl | rfl
  ·rw[if_neg (by left),if_neg (by left)]at e;rw[rc e]
  ·rw[if_neg (by left),if_pos rfl]at e;have:=j9 (W:=y) (p:=p) (j:=j+1) j (by rw[e];exact Vb);left
  ·rw[if_pos rfl,if_neg (by left)]at e;have:=j9 (W:=x) (p:=q) (j:=j+1) j (by rw[<- e];exact Vb);left
  ·rw[if_pos rfl,if_pos rfl]at e;rw[rc (List.cons.inj e).2]
structure UK(Φ:ay):Prop where
 mY:Φ 1030=qt
 ur:Φ 1031=lR
 qj:Φ 1032=sk
 qi:Φ 1033=lO
 uq:Φ 1035=gH
 QH:Φ 1100=oq
theorem so{t b:Int}(hb:b≠0):(Rat.divInt t b).den∣b.natAbs:=by
 obtain⟨t',b',e1,e2,h1,h2,h3,h4⟩:=lb (t:=t) hb;obtain⟨g1,g2⟩:=om (t:=t) hb;rw[show b.fdiv (dk t b)=b' from h2]at g2;have hz:(Rat.divInt t b).den=b'.natAbs:=by left
 have:b.natAbs=(dk t b).natAbs*b'.natAbs:=by rw[<- Int.natAbs_mul,<- e2]
 rw[hz,this];exact Nat.dvd_mul_left ..
theorem lH{α:Type}(f:List Int->α)(k:List Int):∀ ks:List (List Int),aS ks (ks.map f) k=if k∈ks then some (f k)else none
 | []=>rfl
 | j::ks=>by
  show(if j=k then some (f j)else aS ks (ks.map f) k)=_;rw[lH f k ks];by_cases e:j=k
  ·subst e;simp
  ·rw[if_neg e];have:k∈j::ks ↔ k∈ks:=by rw[List.mem_cons];exact⟨λh=>h.resolve_left λz=>e z.symm,.inr⟩
   simp only[this]
theorem pG{α:Type}(f:List Int->α)(k:List Int)(v:α):∀ ks:List (List Int),setC ks (ks.map f) k v=ks.map λj=>if j=k then v else f j
 | []=>rfl
 | j::ks=>by
  show(if j=k then v else f j)::setC ks (ks.map f) k v=_;rw[pG f k v ks,List.map_cons]
theorem vb{α:Type}(f:List Int->α)(k:List Int)(v:α)(ks:List (List Int)):aM ks (ks.map f) k v=(ax ks k).map λj=>if j=k then v else f j:=by
 unfold aM ax;by_cases h:k∈ks
 ·rw[if_pos h,if_pos h,pG]
 ·rw[if_neg h,if_neg h,List.map_append];congr 1
  ·refine Vl λj hj=>?_;rw[if_neg (show ¬ j=k from λz=>h (z▸hj))]
  ·simp
theorem cw{c k:List Int}:k∈ax ks c ↔ k∈ks\/k=c:=by
 unfold ax;split
 ·rename_i h;exact⟨.inl,λz=>z.elim id λe=>e▸h⟩
 ·simp
theorem yg(h:ks.Nodup)(c:List Int):(ax ks c).Nodup:=by
 unfold ax;split
 ·exact h
 ·rename_i hc;rw[List.nodup_append];exact⟨h,by simp,λa ha b hb=>by rw[List.mem_singleton.mp hb];exact λz=>hc (z▸ha)⟩
theorem ej(ks:List (List Int))(c:List Int):(ax ks c).length<=ks.length+1:=by
 unfold ax;split<;>simp
structure uZ(Φ:ay):Prop where
 mY:Φ 1030=qt
 ur:Φ 1031=lR
 qj:Φ 1032=sk
 qi:Φ 1033=lO
 uq:Φ 1035=gH
theorem F1(P:uZ Φ)(hl:cs.length<1000)(ws:List Int)(c:List Int)(v:Int):Φ 1033 [.aZ .ow cs (aa ws),.int v,.tup (aa c)]=ok (.aZ .ow (ax cs c) (aa (aM cs ws c v))):=by
 rw[P.qi];show(match intsOf (c.map D.int)with | some c=>if bo .ow=true/\ak anyF (.int v)=false/\cs.length<fm then ok (D.aZ .ow (ax cs c) (aM cs (aa ws) c (.int v)))else none | none=>none)=_;rw[aR];show(if bo .ow=true/\ak anyF (.int v)=false/\cs.length<fm then ok (D.aZ .ow (ax cs c) (aM cs (aa ws) c (.int v)))else none)=_;rw[if_pos ⟨rfl,rfl,by show _<1000000;left⟩,qU]
theorem Kt(P:uZ Φ)(f:Fl)(hl:cs.length=ws.length){c:List Int}(h:c∈cs):Φ 1032 [.aZ f cs (aa ws),.tup (aa c)]=ok (.int (bh cs ws c)):=by
 obtain⟨w,e,_⟩:=iH hl h;rw[P.qj];show(match intsOf (c.map D.int)with | some c=>(match aS cs (aa ws) c with | some v=>if ak anyF v=false then ok v else none | none=>none) | none=>none)=_;rw[aR];show(match aS cs (aa ws) c with | some v=>if ak anyF v=false then ok v else none | none=>none)=_;rw[m5,e];unfold bh;rw[e];rfl
theorem C9{α:Type}(P:uZ Φ)(e:α->D)(he:∀ a,ak anyF (e a)=false)(f:Fl)(ks:List (List Int))(w:List Int->α)(z:α)(c:List Int)(h:c∉ks->w c=z):Φ 1031 [.aZ f ks (ks.map λk=>e (w k)),.tup (aa c),e z]=ok (e (w c)):=by
 rw[P.ur];show(match intsOf (c.map D.int)with | some c=>if aj anyF (ks.map λk=>e (w k))=false/\ak anyF (e z)=false then ok ((aS ks (ks.map λk=>e (w k)) c).getD (e z))else none | none=>none)=_;rw[aR];show(if aj anyF (ks.map λk=>e (w k))=false/\ak anyF (e z)=false then ok ((aS ks (ks.map λk=>e (w k)) c).getD (e z))else none)=_;rw[if_pos ⟨bD anyF (λk=>he _) ks,he _⟩,lH (λk=>e (w k))];by_cases hc:c∈ks
 ·rw[if_pos hc];rfl
 ·rw[if_neg hc,h hc];rfl
theorem Ho{α:Type}(P:uZ Φ)(e:α->D)(he:∀ a,ak anyF (e a)=false)(hl:ks.length<1000)(w:List Int->α)(c:List Int)(v:α):Φ 1033 [.aZ .ow ks (ks.map λk=>e (w k)),e v,.tup (aa c)]=ok (.aZ .ow (ax ks c) ((ax ks c).map λk=>e (if k=c then v else w k))):=by
 rw[P.qi];show(match intsOf (c.map D.int)with | some c=>if bo .ow=true/\ak anyF (e v)=false/\ks.length<fm then ok (D.aZ .ow (ax ks c) (aM ks (ks.map λk=>e (w k)) c (e v)))else none | none=>none)=_;rw[aR];show(if bo .ow=true/\ak anyF (e v)=false/\ks.length<fm then ok (D.aZ .ow (ax ks c) (aM ks (ks.map λk=>e (w k)) c (e v)))else none)=_;rw[if_pos ⟨rfl,he _,by show _<1000000;left⟩,vb (λk=>e (w k))];congr 2;refine Vl λj _=>?_;by_cases z:j=c
 ·rw[if_pos z,if_pos z]
 ·rw[if_neg z,if_neg z]
theorem Rx{α:Type}(P:uZ Φ)(e:α->D)(he:∀ a,ak anyF (e a)=false)(f:Fl)(w:List Int->α){c:List Int}(h:c∈ks):Φ 1032 [.aZ f ks (ks.map λk=>e (w k)),.tup (aa c)]=ok (e (w c)):=by
 rw[P.qj];show(match intsOf (c.map D.int)with | some c=>(match aS ks (ks.map λk=>e (w k)) c with | some v=>if ak anyF v=false then ok v else none | none=>none) | none=>none)=_;rw[aR];show(match aS ks (ks.map λk=>e (w k)) c with | some v=>if ak anyF v=false then ok v else none | none=>none)=_;rw[lH (λk=>e (w k)),if_pos h];exact VA (he _)
theorem B7(P:uZ Φ)(f:Fl)(vs:List D)(h:ks.length<64):Φ 1035 [.aZ f ks vs]=ok (.lst .ow ((aG ks).map bF)):=by
 rw[P.uq];show(if ks.length<64 then ok (D.lst .ow ((aG ks).map bF))else none)=_;rw[if_pos h]
noncomputable def dz(ks:List (List Int))(w F:List Int->Rat):Rat:=(ks.map λk=>w k*F k).sum
noncomputable def bN{α:Type}[Add α](w:List Int->α)(c:List Int)(x:α):List Int->α:=λk=>if k=c then w k+x else w k
theorem Ab(a b:List Rat):(a++b).sum=a.sum+b.sum:=by
 induction a with
 | nil=>simp;grind
 | cons x a ih=>rw[List.cons_append,List.sum_cons,List.sum_cons,ih];grind
theorem tY(c:List Int)(x:Rat)(w F:List Int->Rat):∀ ks:List (List Int),ks.Nodup->c∈ks->dz ks (bN w c x) F=dz ks w F+x*F c
 | [],_,h=>nomatch h
 | k::ks,hn,h=>by
  obtain⟨h1,h2⟩:=List.nodup_cons.mp hn;unfold dz at *;rw[List.map_cons,List.map_cons,List.sum_cons,List.sum_cons];by_cases e:k=c
  ·have:(ks.map λk=>bN w c x k*F k)=ks.map λk=>w k*F k:=Vl λj hj=>by
    unfold bN;rw[if_neg λz=>h1 (by rw[e,<- z];exact hj)]
   rw[this];unfold bN;rw[if_pos e,e];grind
  ·have ih:=tY c x w F ks h2 ((List.mem_cons.mp h).resolve_left λz=>e z.symm);unfold dz at ih;rw[ih];unfold bN;rw[if_neg e];grind
theorem pU{c:List Int}{x:Rat}{w:List Int->Rat}(F:List Int->Rat)(hn:ks.Nodup)(h0:c∉ks->w c=0):dz (ax ks c) (bN w c x) F=dz ks w F+x*F c:=by
 unfold ax;split
 ·rename_i h;exact tY c x w F ks hn h
 ·rename_i h;unfold dz;rw[List.map_append,Ab];have:(ks.map λk=>bN w c x k*F k)=ks.map λk=>w k*F k:=Vl λj hj=>by
   unfold bN;rw[if_neg λz=>h (by rw[<- z];exact hj)]
  rw[this];simp only[List.map_cons,List.map_nil,List.sum_cons,List.sum_nil,bN,if_pos,h0 h];grind
structure Tb{α:Type}(z:α)(pos:α->Prop)(ks:List (List Int))(w:List Int->α):Prop where
 nd:ks.Nodup
 out:∀ k,k∉ks->w k=z
 Js:∀ k∈ks,pos (w k)
theorem Tb.add{α:Type}[Add α]{z:α}{pos:α->Prop}{w:List Int->α}(T:Tb z pos ks w){x:α}(hx:pos (z+x))(hp:∀ a,pos a->pos (a+x))(c:List Int):Tb z pos (ax ks c) (bN w c x):=by
 refine⟨yg T.nd c,λk hk=>?_,λk hk=>?_⟩
 ·have h:¬ (k∈ks\/k=c):=λz=>hk (cw.mpr z);unfold bN;rw[if_neg λz=>h (.inr z)];exact T.out k λz=>h (.inl z)
 ·unfold bN;by_cases e:k=c
  ·rw[if_pos e];by_cases hc:k∈ks
   ·exact hp _ (T.Js k hc)
   ·rw[T.out k hc];exact hx
  ·rw[if_neg e];exact T.Js k ((cw.mp hk).resolve_right e)
noncomputable def cq(w:List Int->Int):List Int->Rat:=λk=>(w k:Rat)
theorem zf(w:List Int->Int)(c:List Int)(x:Int):cq (bN w c x)=bN (cq w) c (x:Rat):=by
 funext k;unfold cq bN;split
 ·rw[Rat.intCast_add]
 ·rfl
def hX(W:Int)(p:List Int):List Int:=match vq W p with | some z=>z.2.1 | none=>[]
def eh(W:Int)(p:List Int):List Int:=match vq W p with | some z=>z.2.2 | none=>[]
def po(W cn cd:Int)(w0:List Int->Int):List (List Int)->List (List Int)->(List Int->Int)->List (List Int)×(List Int->Int)
 | [],ks,w=>(ks,w)
 | p::ps,ks,w=>po W cn cd w0 ps (ax (ax ks (hX W p)) (eh W p)) (bN (bN w (hX W p) (w0 p*cn)) (eh W p) (w0 p*(cd - cn)))
structure Wy(n:Nat)(W:Int)(v:List Int)(ks:List (List Int))(w:List Int->Int):Prop where
 tb:Tb (0:Int) (λx=>1<=x) ks w
 ok:∀ p∈ks,eE n W p
 vs:∀ p∈ks,vals W p=v
theorem tM(W cn cd:Int)(w0:List Int->Int)(F:List Int->Rat):∀(ps ks:List (List Int)) (w:List Int->Int),Tb (0:Int) (λx=>1<=x) ks w->(∀ p∈ps,1<=w0 p)->1<=cn->cn<cd ->
  Tb (0:Int) (λx=>1<=x) (po W cn cd w0 ps ks w).1 (po W cn cd w0 ps ks w).2/\(∀ k,k∈(po W cn cd w0 ps ks w).1 ↔ k∈ks\/∃ p∈ps,k=hX W p\/k=eh W p)/\(po W cn cd w0 ps ks w).1.length<=ks.length+2*ps.length /\
  dz (po W cn cd w0 ps ks w).1 (cq (po W cn cd w0 ps ks w).2) F=dz ks (cq w) F+(ps.map λp=>(w0 p:Rat)*((cn:Rat)*F (hX W p)+((cd - cn:Int):Rat)*F (eh W p))).sum
 | [],ks,w,T,_,_,_=>by
  refine⟨T,λk=>?_,by simp[po],?_⟩
  ·simp[po]
  ·simp[po];grind
 | p::ps,ks,w,T,h0,h1,h2=>by
  have hp:=h0 p Vb;have a1:1<=w0 p*cn:=by have:=WE hp h1 (by decide) (by left);left
  have a2:1<=w0 p*(cd - cn):=by have:=WE hp (show 1<=cd - cn by left) (by decide) (by left);left
  have T1:=T.add (x:=w0 p*cn) (by left) (λa ha=>by left) (hX W p);have T2:=T1.add (x:=w0 p*(cd - cn)) (by left) (λa ha=>by left) (eh W p);obtain⟨g1,g2,g3,g4⟩:=tM W cn cd w0 F ps _ _ T2 (λq hq=>h0 q (Va _ hq)) h1 h2;refine⟨g1,λk=>?_,?_,?_⟩
  ·rw[po,g2,cw,cw];simp only[List.mem_cons];constructor
   ·rintro (((h | h) | h) | ⟨q,hq,h⟩)
    ·exact .inl h
    ·exact .inr ⟨p,.inl rfl,.inl h⟩
    ·exact .inr ⟨p,.inl rfl,.inr h⟩
    ·exact .inr ⟨q,.inr hq,h⟩
   ·rintro (h | ⟨q,rfl | hq,h⟩)
    ·exact .inl (.inl (.inl h))
    ·exact .inl (h.elim (λz=>.inl (.inr z)) .inr)
    ·exact .inr ⟨q,hq,h⟩
  ·have l1:=ej ks (hX W p);have l2:=ej (ax ks (hX W p)) (eh W p);rw[po];simp only[List.length_cons];left
  ·rw[po,g4,zf,pU F T1.nd (λh=>by unfold cq;rw[T1.out _ h];rfl),zf,pU F T.nd (λh=>by unfold cq;rw[T.out _ h];rfl),List.map_cons,List.sum_cons,Rat.intCast_mul,Rat.intCast_mul];grind
theorem Wy.step{n:Nat}{v:List Int}{w:List Int->Int}(I:Wy n W v ks w)(hW:W<=9)(hv:v≠[])(hk:ks≠[]):
  ∃ a b r,v=a::b::r/\0<a/\a<W/\0<b/\b<W/\Wy n W (nv W v) (po W (aU W a b).num (aU W a b).den w ks [] λ_=>0).1 (po W (aU W a b).num (aU W a b).den w ks [] λ_=>0).2/\(po W (aU W a b).num (aU W a b).den w ks [] λ_=>0).1≠[]/\(po W (aU W a b).num (aU W a b).den w ks [] λ_=>0).1.length<=2*ks.length /\
   ∀ l k,v.length<=k->dz (po W (aU W a b).num (aU W a b).den w ks [] λ_=>0).1 (cq (po W (aU W a b).num (aU W a b).den w ks [] λ_=>0).2) (λp=>Pr W k p l)=((aU W a b).den:Rat)*dz ks (cq w) (λp=>Pr W k p l):=by
 obtain⟨p0,yr⟩:=List.exists_mem_of_ne_nil ks hk;obtain⟨A0,a,B0,b,C0,T0⟩:=(I.ok p0 yr).two (by rw[I.vs p0 yr];exact hv);have ev:=T0.vals;rw[I.vs p0 yr]at ev;obtain⟨q1,q2,q3,q4⟩:=T0.pq;obtain⟨c0,c1,_⟩:=lV q1 q2 q3 q4 hW;have hn:1<=(aU W a b).num:=by have:=vn c0;left
 have hd:(aU W a b).num<((aU W a b).den:Int):=by
  have h':((aU W a b).num:Rat)<((aU W a b).den:Rat):=by
   rw[tJ];have h2:(0:Rat)<((aU W a b).den:Rat):=by exact_mod_cast (aU W a b).den_pos
   have:=VZ c1 h2
   rwa [Rat.one_mul]at this
  exact_mod_cast h'
 have tw:∀ p∈ks,∃ A B C,Tw W p A a B b C:=λp hp=>by
  obtain⟨A,a',B,b',C,T⟩:=(I.ok p hp).two (by rw[I.vs p hp];exact hv);have e:=T.vals;rw[I.vs p hp,ev]at e;obtain⟨h1,e'⟩:=Wj e;obtain⟨h2,_⟩:=Wj e';rw[<- h1,<- h2]at T;exact⟨A,B,C,T⟩
 have won:∀ {p A B C},Tw W p A a B b C->hX W p=A++bS W a b::(B++bY W a b::C)/\eh W p=A++bY W a b::(B++bS W a b::C):=λT=>by
  unfold hX eh;rw[T.vq];exact⟨rfl,rfl⟩
 have Uu:Tb (0:Int) (λx=>1<=x) [] λ_=>0:=⟨Wa,λ_ _=>rfl,λ_ h=>nomatch h⟩
 have M:=λF=>tM W (aU W a b).num (aU W a b).den w F ks [] (λ_=>0) Uu (λp hp=>I.tb.Js p hp) hn hd;obtain⟨m1,m2,m3,_⟩:=M λ_=>0;refine⟨a,b,vals W C0,ev,q1,q2,q3,q4,⟨m1,λk hk=>?_,λk hk=>?_⟩,?_,by simpa using m3,λl k hl=>?_⟩
 ·rcases(m2 k).mp hk with h | ⟨p,hp,h⟩
  ·exact nomatch h
  ·obtain⟨A,B,C,T⟩:=tw p hp;obtain⟨e1,e2⟩:=won T;rw[e1,e2]at h;rcases h with rfl | rfl
   ·exact T.won (I.ok p hp)
   ·exact T.lost (I.ok p hp)
 ·rcases(m2 k).mp hk with h | ⟨p,hp,h⟩
  ·exact nomatch h
  ·obtain⟨A,B,C,T⟩:=tw p hp;obtain⟨e1,e2⟩:=won T;obtain⟨v1,v2⟩:=T.zN;rw[I.vs p hp]at v1 v2;rw[e1,e2]at h;rcases h with rfl | rfl
   ·exact v1
   ·exact v2
 ·intro z;have:=(m2 (hX W p0)).mpr (.inr ⟨p0,yr,.inl rfl⟩);rw[z]at this;exact nomatch this
 ·obtain⟨_,_,_,m4⟩:=M λp=>Pr W k p l;rw[m4];unfold dz;rw[List.map_nil,List.sum_nil,Rat.zero_add];have:∀ qs:List (List Int),(∀ p∈qs,p∈ks)->(qs.map λp=>(w p:Rat)*(((aU W a b).num:Rat)*Pr W k (hX W p) l+(((aU W a b).den - (aU W a b).num:Int):Rat)*Pr W k (eh W p) l)).sum=((aU W a b).den:Rat)*(qs.map λp=>cq w p*Pr W k p l).sum:=λqs=>by
   induction qs with
   | nil=>intro _;simp
   | cons p qs ih =>
    intro h;rw[List.map_cons,List.map_cons,List.sum_cons,List.sum_cons,ih λq hq=>h q (List.mem_cons_of_mem _ hq)];have hp:=h p Vb;obtain⟨A,B,C,T⟩:=tw p hp;obtain⟨e1,e2⟩:=won T;rw[e1,e2,uY l (k:=k) (I.ok p hp) T (by rw[I.vs p hp];exact hl)];have en:((aU W a b).num:Rat)=aU W a b*((aU W a b).den:Rat):=tJ _;rw[Rat.intCast_sub,Rat.intCast_natCast,en];unfold cq;grind
  exact this ks λ_ h=>h
end DI
end
section
namespace DI
open PySem PySem.Spec PyProof.Rows L2
variable {it:Addr}{items:Array Value}
section
variable {prog:Program}{w:World}{A:Around}{E:Value->Shared->Prop}{s:Shared}
theorem o4{l:Addr}:∀ {s:Shared} {i:Nat} {Q E:Value->Shared->Prop},s.heap.IsTupleIter it l i->(∀ o,s.heap.get? it=some o->o.cls=.type "tuple_iterator" -> o.data=.fields #[.ref l,.int i 0]->wpAny (model prog w) A.in1 (Builtin.«tuple_iterator.__next__» ⟨[.ref it],[]⟩) (λfin s'=>∃ v,fin=.done (.ret v)/\Q v s') E s)->wpAny (model prog w) A (Builtin.SmallTypes.nextOf (.ref it)) Q E s:=by
 intro s i Q E hit h;obtain⟨o,ho,hc,hd⟩:=id hit;unfold Builtin.SmallTypes.nextOf;exact U6 (VB (name:=Str.ofString "__next__") hit.typeIs F.slot_tuple_iterator_next (Vt F.slot_tuple_iterator_next hit.typeIs F.entry_tuple_iterator_next (Vn (h o ho hc hd) (λfin s' ⟨v,e,q⟩=>⟨v,e,U9 q⟩) λ_ _ e=>e) (F.args_tuple_iterator_next_1 _)))
noncomputable def Ends(prog:Program)(w:World)(A:Around)(it:Addr)(S:Heap->Prop):Prop:=∀(s:Shared) (Q E:Value->Shared->Prop),S s.heap->(∀ h' e,Heap.ExtBut it s.heap h'->(∃ o,h'.get? e=some o/\o.cls=.type "StopIteration")->E (.ref e) { s with heap:=h' })->wpAny (model prog w) A (Builtin.SmallTypes.nextOf (.ref it)) Q E s
theorem mD(hh:A.handled=none){l:Addr}{i:Nat}(hi:items[i]?=none):Ends prog w A it (λh=>h.IsTupleIter it l i/\h.IsTuple l items):=by
 intro s Q E st hE;refine o4 st.1 λo ho hc hd=>?_;obtain⟨ol,NV,_,nl,LC⟩:=id st.2;show wpAny _ _ (field (.ref it) 0 >>= _) _ _ _;refine U6 (VQ ho hd (x:=.ref l) rfl ?_);rw[if_neg (show ¬ (Value.ref l==Value.none)=true from Bool.false_ne_true)];refine U6 (VQ ho hd (x:=.int i 0) rfl (U6 (wpAny_seqItems NV LC ?_)));simp only[Int.toNat_natCast,hi];refine U6 (wpAny_rule (U6 (Wb ho hd (by simp) ?_)));show wpAny _ _ (newExc (.type "StopIteration") [] >>= _) _ _ _;refine U6 ?_;simp only[newExc,newTuple];refine U6 (Vq (U6 (m:=firstArgMember _ _) (wpAny_of_eq (a:=Value.none) (by first | rfl | (simp only[firstArgMember];rfl)) (Vq ?_ (by size_fits)))) (by size_fits));simp only[raiseNew];refine U6 (wpAny_handled ?_);rw[show A.in1.in1.handled=none from hh];exact U6 (U9 (wpAny_throw (hE _ _ (((VI ..).extBut.push _).push _) ⟨_,Ve _ rfl,rfl⟩)))
theorem qq(hh:A.handled=none)(it l:Addr)(rY:l≠it)(items:Array Value):Draws prog w A it [it,l] items.size (λi v=>items[i]?=some v) (λi h=>h.IsTupleIter it l i/\h.IsTuple l items):=by
 refine⟨λ_ _ st=>let ⟨o,ho,_⟩:=st.1;⟨o,ho⟩,λ_ _ _ st hk=>?_,λi s Q E hi st hQ=>?_,λs Q E st hE=>?_⟩
 ·obtain⟨⟨o,ho,r⟩,o',dO,r'⟩:=st;exact⟨⟨o,hk it (by simp) o ho,r⟩,o',hk l (by simp) o' dO,r'⟩
 ·refine o4 st.1 λo ho hc hd=>?_;obtain⟨ol,NV,_,nl,LC⟩:=id st.2;show wpAny _ _ (field (.ref it) 0 >>= _) _ _ _;refine U6 (VQ ho hd (x:=.ref l) rfl ?_);rw[if_neg (show ¬ (Value.ref l==Value.none)=true from Bool.false_ne_true)];refine U6 (VQ ho hd (x:=.int i 0) rfl (U6 (wpAny_seqItems NV LC ?_)));simp only[Int.toNat_natCast,show items[i]?=some items[i] by simp[hi]];refine U6 (Wb ho hd (by simp) (U9 ⟨_,rfl,hQ _ _ s.toks (by simp[hi]) ⟨?_,st.2.extBut (VI ..).extBut rY⟩ (VI ..)⟩));exact⟨_,Heap.get?_update_self _ ho (Obj.isFreed_of_fields (Obj.data_mapFields hd _)),(Obj.cls_mapFields ..).trans hc,by rw[Obj.data_mapFields hd];simp[rawInt]⟩
 ·exact mD hh (by simp) s Q E st hE
structure Ph(z TI TO i1 i2:Addr)(f1 f2:List Addr):Prop where
 n1:TI≠z/\TO≠z/\i1≠z/\i2≠z
 n2:TI≠TO/\TI≠i1/\TI≠i2/\TO≠i1/\TO≠i2/\i1≠i2
 f1:z∉f1/\TO∉f1/\i2∉f1
 f2:z∉f2/\TO∉f2/\i1∉f2
section
variable {z TI TO i1 i2:Addr}{f1 f2:List Addr}{n1 n2 k:Nat}{P1 P2:Nat->Value->Prop}{S1 S2:Nat->Heap->Prop}{a b:Value}
end
end
theorem wk:bootBuiltins "enumerate" = some (.type "enumerate"):=by decide +kernel
noncomputable def bp(k:Nat):List D->List D
 | []=>[]
 | x::xs=>.tup [.int k,x]::bp (k+1) xs
theorem iK:∀(a:List D) (k i:Nat),(bp k a)[i]?=(a[i]?).map λx=>.tup [.int ((k+i:Nat):Int),x]
 | [],k,i=>by simp[bp]
 | x::xs,k,0=>by simp[bp]
 | x::xs,k,i+1=>by
  rw[bp,List.getElem?_cons_succ,List.getElem?_cons_succ,iK xs (k+1) i,show k+1+i=k+(i+1) by left]
theorem iJ:∀(a:List D) (k:Nat),(bp k a).length=a.length
 | [],k=>rfl
 | x::xs,k=>by rw[bp,List.length_cons,List.length_cons,iJ xs]
variable {F R:Addr->Prop}{X:Cx}{cs:List CE}{Φ:ay}
theorem tT{a:Expr}(h:my X F Φ cs [a]):PA X [a] (pd X F Φ cs)/\(∀ es,starEach (a::es) X.env=(false,eval a X.env)::starEach es X.env):=by
 match cs,h with
 | [c],h =>
  obtain⟨h1,h2,_,_⟩:=h;exact⟨PA.imp (cT h1 (PA.imp gB λ_ _ _ h=>il h) (h2 _)) λ_ _ _ h=>dY h,h2⟩
 | [],h=>exact h.elim
 | _::_::_,h=>exact h.2.2.2.elim
variable {Q:Value->Shared->Prop}
section
variable {prog:Program}{w:World}{A:Around}{E:Value->Shared->Prop}{s:Shared}
theorem xZ(l:Addr)(items:Array Value):Meets (Builtin.«enumerate.__new__» ⟨[.type "enumerate",.ref l],[]⟩) (λ_ R s=>s.heap.IsTuple l items /\
  R (.ok (.ret (.ref (s.heap.push { cls:=.type "tuple_iterator",data:=.fields #[.ref l,.int 0 0] }).objs.size))) { s with heap:=(s.heap.push { cls:=.type "tuple_iterator",data:=.fields #[.ref l,.int 0 0] }).push { cls:=.type "enumerate",data:=.fields #[.none,.bool false,.ref s.heap.objs.size,rawInt 0,.none,.none] } }) :=
 .of_wp λprog w A R s h=>by
  obtain⟨hp,g,d,tk,os⟩:=s;obtain⟨hL,h⟩:=h;obtain⟨ob,hl,r⟩:=id hL;have JB:=sub_enumerate
  wp_walk using AutoSeq1.wpAny_loadPart' hl
  refine wpAny_stack_any λst=>U9 ?_;split
  ·rename_i c _ _ _ _ _;cases (c==Value.type "enumerate")<;>(wp_walk using AutoSeq1.wpAny_loadPart' hl,wpAny_pyIter_tuple hL;exact⟨_,rfl,h⟩)
  ·wp_walk using AutoSeq1.wpAny_loadPart' hl,wpAny_pyIter_tuple hL
   exact⟨_,rfl,h⟩
theorem sM{l:Addr}(hL:s.heap.IsTuple l items)
  (h:∀ h',IsEnum h' (s.heap.objs.size+1) s.heap.objs.size 0 .none->h'.IsTupleIter s.heap.objs.size l 0->(∀ b o,s.heap.get? b=some o->h'.get? b=some o)->Q (.ref (s.heap.objs.size+1)) { s with heap:=h' }) :
  wpAny (model prog w) A (call (.type "enumerate") [.ref l]) Q E s:=by
 refine callType_new F.called_enumerate (by decide) (F.typeCall_enumerate_1 _) (F.newCall_enumerate_1 _) (λobj=>F.args_object_init_2 obj _) F.entry_enumerate_new (xZ l items) ⟨hL,?_⟩;have hz:(s.heap.push { cls:=.type "tuple_iterator",data:=.fields #[.ref l,.int 0 0] }).objs.size=s.heap.objs.size+1:=WB ..;show _/\_;rw[hz];have he:IsEnum ((s.heap.push { cls:=.type "tuple_iterator",data:=.fields #[.ref l,.int 0 0] }).push { cls:=.type "enumerate",data:=.fields #[.none,.bool false,.ref s.heap.objs.size,rawInt 0,.none,.none] }) (s.heap.objs.size+1) s.heap.objs.size 0 .none:=by
  have:=Ve (s.heap.push { cls:=.type "tuple_iterator",data:=.fields #[.ref l,.int 0 0] }) (o:={ cls:=.type "enumerate",data:=.fields #[.none,.bool false,.ref s.heap.objs.size,rawInt 0,.none,.none] }) rfl;rw[hz]at this;exact this
 exact⟨⟨_,he,rfl⟩,h _ he ⟨_,U_ _ (Ve _ rfl),rfl,rfl⟩ λb o x=>U_ _ (U_ _ x)⟩
theorem v5{e l:Addr}{i:Nat}{old:Value}{Q:Option Value->Shared->Prop}(hh:A.handled=none)(he:IsEnum s.heap e it i old)(hit:s.heap.IsTupleIter it l i)(hl:s.heap.IsTuple l items)(hx:items[i]?=none)
  (hQ:∀ h',Heap.ExtBut it s.heap h'->Q none { s with heap:=h' }):wpAny (model prog w) A (pyNext (.ref e)) Q E s:=by
 have hT:s.TypeIs (.ref e) "enumerate":=⟨_,he,rfl⟩
 unfold pyNext;refine U6 (Wk (VB (name:=Str.ofString "__next__") hT F.slot_enumerate_next (Vt F.slot_enumerate_next hT F.entry_enumerate_next ?_ (F.args_enumerate_next_1 _))));show wpAny _ _ (field (.ref e) 2 >>= _) _ _ _;refine U6 (VQ he rfl (x:=.ref it) rfl (U6 (mD (A:=A.in1) hh hx s _ _ ⟨hit,hl⟩ λh' x Oa zD=>?_)));obtain⟨o,ho,hc⟩:=zD;exact U6 (wpAny_isInstance (T:="StopIteration") (b:=true) ⟨o,ho,hc⟩ isSubtype_stop (U9 (hQ _ Oa)))
end
def Gm(K:PySem.W.Frag)(a:Addr):It :=
  ⟨λi H=>∃ xs x,ao K H a xs/\xs[i]?=some x,
   λi H v H'=>∃ T x,(∀ xs,ao K H a xs->xs[i]?=some x)/\H T=none/\v=.ref T/\H'=upd H T (.tup [.int i,x]),
   λi H=>∃ xs,ao K H a xs/\xs.length<=i⟩
variable {K:PySem.W.Frag}{P:Program}{args elts:List Expr}{n1:Nat}{w:World}
theorem rg{tp:Pos}{a e:Addr}(rY:e≠it):
  Turn P w K (.Tuple elts n1 tp) (Gm K a) [e,it] e (λi h=>(∃ old,IsEnum h e it (i:Int) old)/\h.IsTupleIter it a i):=by
 refine⟨by simp,λi h st c hc=>?_,λi h h' st k=>?_,?_,?_,λA i s Q E st hQ=>?_⟩
 ·obtain⟨⟨old,he⟩,⟨o1,e1,_,d1⟩⟩:=st;simp only[List.mem_cons,List.not_mem_nil,or_false]at hc;rcases hc with rfl | rfl
  ·exact⟨_,he,λv q=>by cases q⟩
  ·exact⟨o1,e1,λv q=>by rw[d1]at q;cases q⟩
 ·obtain⟨⟨old,he⟩,l1⟩:=st;exact⟨⟨old,k e (by simp) _ he⟩,l1.at λo z=>k it (by simp) o z⟩
 ·intro X hP hw hK hc i pins s σ H E I hf st hg;subst hP hw hK;obtain⟨xs,x,q1,ex⟩:=hg;obtain⟨⟨old,he⟩,l1⟩:=st;obtain⟨af,rv,p,_⟩:=I.tuple q1;obtain⟨u,hu,ru⟩:=rv.get ex;have pt:s.heap.IsTuple a af.toArray:=p;have Ti:a≠it:=by
   obtain⟨o,ho,JY,_⟩:=pt;obtain⟨o1,e1,c1,_⟩:=l1;exact zh ho e1 (by rw[JY,c1];simp)
  have Tj:a≠e:=by
   obtain⟨o,ho,JY,_⟩:=pt;exact zh ho he (by rw[JY];simp)
  have wA:i<af.toArray.size:=by rw[List.size_toArray];exact(List.getElem?_eq_some_iff.mp hu).1
  refine wpAny_pyNext_enum_itemD (qq (A:=X.A.in1) (I.ok.hd hc) it a Ti af.toArray) he ⟨l1,pt⟩ wA rY (by simp;exact⟨rY,λz=>Tj z.symm⟩) λy h1 tk hy e1 a1 t1 UN k1=>⟨_,rfl,?_⟩
  obtain rfl:y=u:=by
   have:af.toArray[i]?=some u:=by simpa using hu
   rw[this]at hy;cases hy;rfl
  refine wpAny_letOwnedTupleGo_enum e1 λh2 e2 Gu=>?_;have LO:s.heap.objs.size≠e:=VJ (Vd he);have kk:∀ c o,c∉[e,it]->s.heap.get? c=some o->h2.get? c=some o:=λc o hc z=>by
   simp only[List.mem_cons,List.not_mem_nil,or_false,not_or]at hc;exact Gu.extBut c o hc.1 (k1 c o hc.1 hc.2 z)
  have hT:h2.get? s.heap.objs.size=some { cls:=.type "tuple",data:=.seq #[.int i tk,y] }:=Gu.extBut _ _ LO t1;have hn:H s.heap.objs.size=none:=I.bR.fresh (Vc _);have ci:((i+1:Nat):Int)=(i:Int)+1:=by push_cast;rfl
  refine⟨.ref s.heap.objs.size,upd H s.heap.objs.size (.tup [.int i,x]),sX (s:=s) (h':=h2) (t':=tk+1) I hf kk (Vc _) (sY ⟨_,rfl⟩ ru hT),rfl,⟨_,x,λzs hz=>by rw[I.i4 hz q1];exact ex,hn,rfl,rfl⟩,⟨⟨y,by rw[ci];exact e2⟩,a1.1.extBut Gu.extBut rY.symm⟩,λc hc=>?_⟩;rw[aq]
  ·exact(hf c hc).1
  ·intro z;subst z;simp only[List.mem_cons,List.not_mem_nil,or_false]at hc;rcases hc with z | z
   ·exact absurd (Vd he) (by rw[<- z];exact Vz _)
   ·obtain⟨_,w,_⟩:=l1;exact absurd (Vd w) (by rw[<- z];exact Vz _)
 ·intro X hP hw hK hc i pins s σ H E I hf st hg;subst hP hw hK;obtain⟨xs,q1,hl⟩:=hg;obtain⟨⟨old,he⟩,l1⟩:=st;obtain⟨af,rv,p,_⟩:=I.tuple q1;have e1:=rv.length;refine v5 (I.ok.hd hc) he l1 (show s.heap.IsTuple a af.toArray from p) (by simp;left) λh1 k1=>⟨rfl,zX (t':=s.toks) I hf λc o hc z=>?_⟩
  simp only[List.mem_cons,List.not_mem_nil,or_false,not_or]at hc;exact k1 c o hc.2 z
 ·obtain⟨⟨old,he⟩,_⟩:=st;exact wpAny_pyIter_enum he hQ
variable {pos:Pos}{ta:TA}
theorem xD{e1:Expr}{tp p:Pos}(hg:Gl X "enumerate")(hm:X.mg "enumerate" = none)(ha:PA X [e1] ta)(hs:∀ es,starEach (e1::es) X.env=(false,eval e1 X.env)::starEach es X.env):
  PI X (.Tuple elts n1 tp) (.Call (.Name "enumerate" p) [e1] [] pos) (λσ H R=>ta σ H λvs H1=>∃ a,vs=[.ref a]/\(∃ xs,ao X.K H1 a xs)/\R (Gm X.K a) H1):=by
 intro pins s σ H R I h;refine Call_ (eM I hg hm wk (Vv (bV (ha pos pins s σ H _ I h) λus s1 ⟨vs,H1,I1,r1,q1⟩=>?_) (hs _) rfl));obtain⟨a,e,⟨xs,q1⟩,q⟩:=q1;subst e;obtain⟨u,rfl,ru⟩:=vals1 r1;cases ru;obtain⟨af,_,p1,_⟩:=I1.tuple q1;refine sM (show s1.heap.IsTuple a af.toArray from p1) λh' z l1 k=>wpAny_pyIter_enum z ?_;refine⟨s1.heap.objs.size+1,[s1.heap.objs.size+1,s1.heap.objs.size],_,_,H1,rfl,I1.kept (t':=s1.toks) k,rg (Nat.succ_ne_self _),⟨⟨_,z⟩,l1⟩,λb hb=>?_,q⟩;have um:s1.heap.objs.size<=b:=by
  simp only[List.mem_cons,List.not_mem_nil,or_false]at hb;rcases hb with rfl | rfl<;>first | exact Nat.le_add_right .. | exact Vc _
 exact I1.yL um (I1.bR.fresh um)
def fM:List D->O D
 | [.tup a]=>ok (.lst .ow (bp 0 a))
 | _=>none
theorem u_{p:Addr}{a:List D}{H2:Hp}:G5 K (Gm K p) H2 [.ref p] [.tup a] (ag aC (bp 0 a)):=by
 have len:(ag aC (bp 0 a)).length=a.length:=by rw[bJ,List.length_map,iJ]
 have two:∀ {H':Hp} {R':Addr->Prop},ae (ao K H') (nd K R' (λ_=>False) (λ_=>none) H') [] 0 [.ref p] (ag aC [.tup a]) ->
   ∃ xs,ao K H' p xs/\ae (ao K H') (nd K R' (λ_=>False) (λ_=>none) H') [0] 0 xs (ag aC a):=by
  intro H' R' h;rw[ag,aw,ag]at h;cases h with
  | cons h t=>cases h with
   | tup h r=>exact⟨_,h,r⟩
 refine⟨λi H' R' _ h hi=>?_,λi H' R' x j3 _ h hi hy=>?_,λi H' R' _ h hi=>?_⟩
 ·obtain⟨xs,h1,r1⟩:=two h;rw[len]at hi;have l1:=r1.length;rw[bJ,List.length_map]at l1;exact⟨xs,xs[i]'(by left),h1,Vj _⟩
 ·obtain⟨xs,h1,r1⟩:=two h;obtain⟨T,u,g1,hn,rfl,rfl⟩:=hy;obtain⟨d1,e1,p1⟩:=r1.yE (g1 xs h1);have es:ai H' (upd H' T (.tup [.int i,u])):=ai.upd hn;refine⟨es,.tup [.int i,d1],?_,.tup (ao.of aB) (.cons (.int _) (.cons (p1.Rt es) .nil))⟩;rw[bJ,List.getElem?_map]at e1 ⊢;obtain⟨c1,q1,rfl⟩:=Option.map_eq_some_iff.mp e1;rw[iK,q1];simp[aw,ag]
 ·obtain⟨xs,h1,r1⟩:=two h;rw[len]at hi;have l1:=r1.length;rw[bJ,List.length_map]at l1;exact⟨xs,h1,by left⟩
variable {H:Hp}{tg:Expr}{xs:List D}{ρ:au}{σ:L2.St}{τ:Addr->Option az}
theorem yT{n:Nat}(hΦ:Φ n=fM){sc:Scope}{bl:List Str}{k:Nat}(L:PX X sc bl k){e:Expr}(he:fQ "enumerate" sc bl e=some args)(ht:eO tg=true)(hs:my X F Φ cs args)
  {pins:List (Addr×Obj)} {s:Shared} {d:D} {items:List D} (I:Inv X pins σ H s) (Si:SI X F R τ ρ σ H) (bU:bM Φ cs ρ=ok xs) (ed:Φ n xs=ok d) (ei:mi d=ok items) (Rr:It->Hp->Prop)
  (hR:∀ J H2 vs,ai H H2->bg X.K (gP X F) R τ (b7 cs) H H2 vs xs->G5 X.K J H2 vs xs items->Rr J H2) :
  wpAny (model X.prog X.w) X.A (eval e X.env) (λv s1=>wpAny (model X.prog X.w) X.A (pyIter v) (wG X pins σ tg Rr) X.xe s1) X.xe s:=by
 obtain⟨p,pos,a,rfl,rfl,h1,h2⟩:=jn he;cases tg<;>try (cases ht;done)
 obtain⟨pa,s1⟩:=tT hs;refine xD (L.gl h1) (L.bl _ h2) pa s1 pins s σ H Rr I ⟨R,τ,ρ,xs,Si,bU,λvs H1 e1 rv=>?_⟩;have RR:=rv;obtain⟨τt,fr,rs⟩:=rv;rw[hΦ]at ed;unfold fM at ed;split at ed
 ·cases ed;cases ei;obtain⟨v,rfl,rx⟩:=rs.one;cases rx with
  | tup hx _=>exact⟨_,rfl,⟨_,hx⟩,hR _ H1 _ e1 RR u_⟩
 ·cases ed
variable {ov:Value}
section
variable {prog:Program}{w:World}{A:Around}{E:Value->Shared->Prop}{s:Shared}{d it:Addr}{es:Array DictEntry}{ep i:Nat}
theorem zd(d:Addr)(hd:(d==sysModules)=false):MeetsIn prog w (Builtin.«dict.items» ⟨[.ref d],[]⟩) (λ_ R s=>(∃ es ep,gN s.heap d es ep)/\R (.ok (.ret (.ref s.heap.objs.size))) { s with heap:=s.heap.push { cls:=.type "dict_items",data:=.fields #[.ref d] } }) :=
 .of_wp λA R s ⟨⟨_,_,hm⟩,h⟩=>by
  unfold Builtin.«dict.items» Builtin.Dict.noArgs;refine U6 (U6 (wpAny_notOrdered_dict hm.typeIs (U9 ?_)));show wpAny _ _ (Builtin.Dict.showsAll d >>= _) _ _ s;unfold Builtin.Dict.showsAll;rw[if_neg (by rw[hd];exact Bool.false_ne_true)];exact U6 (U9 (U6 (Vq (U9 ⟨_,rfl,h⟩))))
theorem Bz{v:Addr}(hv:s.heap.IsItemsView v d)(hm:gN s.heap d es ep)
  (hQ:Q (.ref s.heap.objs.size) { s with heap:=s.heap.push { cls:=.type "dict_itemiterator",data:=.fields #[.none,.bool false,.ref d,.int 0 0,.int es.size 0,.int ep 0,.none,.none] } }):wpAny (model prog w) A (pyIter (.ref v)) Q E s:=by
 obtain⟨ov,SG,U0,Ta⟩:=id hv;obtain⟨o,ho,hx,yv⟩:=hm;refine WN hv.typeIs F.slot_dict_items_iter (Vt F.slot_dict_items_iter hv.typeIs F.entry_dict_items_iter ?_ (F.args_dict_items_iter_1 _));unfold Builtin.«dict_items.__iter__»;refine U6 (U9 (U6 ?_));unfold Builtin.Dict_items.dictOf;refine U6 (VQ SG Ta (x:=.ref d) rfl (U9 (U6 ?_)));unfold Builtin.Dict_items.newIterator;refine U6 (VO ho yv (U6 (VV ho yv ?_)));simp only[show Builtin.Dict_items.ownsTuple "dict_itemiterator" = true by decide,if_true];refine Vq (U9 ⟨_,rfl,"dict_itemiterator",_,⟨_,Ve _ rfl,rfl⟩,F.slot_dict_itemiterator_next.lookup,?_⟩) (by simp only[sizeOk,Builtin.Dict_items.ownedTupleFields,List.size_toArray,List.length_append,List.length_cons,List.length_nil,sizeLine_eq];left);simpa [rawInt,Builtin.Dict_items.ownedTupleFields]using hQ
theorem By{ok:Value}{Q:Option Value->Shared->Prop}(hit:IsItemIter s.heap it d i es.size ep ok ov)(hm:gN s.heap d es ep)(fi:i<es.size)
  (hQ:∀ h',IsItemIterOut h' it d (i+1) es.size ep es[i].key es[i].val s.heap.objs.size->h'.get? s.heap.objs.size=some { cls:=.type "tuple",data:=.seq #[es[i].key,es[i].val] }->(∀ b o,b≠it->s.heap.get? b=some o->h'.get? b=some o)->Q (some (.ref s.heap.objs.size)) { s with heap:=h' }):wpAny (model prog w) A (pyNext (.ref it)) Q E s:=by
 obtain⟨hp,g,dr,tk,os⟩:=s;obtain⟨od,yt,vR,wB⟩:=hm;have hT:Shared.TypeIs ⟨hp,g,dr,tk,os⟩ (.ref it) "dict_itemiterator":=⟨_,hit,rfl⟩
 unfold pyNext;refine U6 (Wk (VB (name:=Str.ofString "__next__") hT VG (Vt VG hT F.entry_dict_itemiterator_next ?_ (F.args_dict_itemiterator_next_1 _))));refine U6 (U9 (U6 (U6 ?_)))
 first | refine U6 (VD hT (U9 ?_)) | refine U6 (VP hT (U9 ?_))
 refine U6 (WD hit rfl ?_);simp only[show Builtin.Dict_items.ownsTuple "dict_itemiterator" = true by decide,if_true];show wpAny _ _ (if (Value.ref d==Value.none)=true then _ else _) _ _ _;rw[if_neg (show ¬ ((Value.ref d==Value.none)=true) from Bool.false_ne_true)];refine U6 (U9 (U6 (VO yt wB ?_)));rw[if_neg (by simp)];refine U6 (U9 (U6 (VV yt wB ?_)));rw[if_neg (by simp)];refine U9 ?_;simp only[show ¬ ((i:Int)<0) from by left,if_false,Int.toNat_natCast,Array.getElem?_eq_getElem fi];refine U6 ?_
 first | refine U6 (VD hT (U9 ?_)) | refine U6 (VP hT (U9 ?_))
 refine U6 (Wi hT ?_);show wpAny _ _ (setField (.ref it) 3 (rawInt ((i:Int)+1)) >>= _) _ _ ⟨hp,g,dr,tk,os⟩;refine U6 (VX hit (by simp) λh1 e1 s1=>?_);replace s1:Heap.SameBut it hp h1:=s1;replace e1:IsItemIter h1 it d (i+1) es.size ep ok ov:=by
  have e:((i+1:Nat):Int)=(i:Int)+1:=by left
  unfold IsItemIter;rw[e];simpa [rawInt]using e1
 have Oi:Shared.TypeIs ⟨h1,g,dr,tk,os⟩ (.ref it) "dict_itemiterator":=⟨_,e1,rfl⟩
 refine U6 (VN (U6 (Wi Oi (U6 (Wi Oi ?_)))));show wpAny _ _ (Builtin.Dict_items.pairFromOwner (.ref it) 6 es[i].key es[i].val) _ _ ⟨h1,g,dr,tk,os⟩;unfold Builtin.Dict_items.pairFromOwner;refine U6 (wpAny_newTuple ?_);have e2:IsItemIter (h1.push { cls:=.type "tuple",data:=.seq #[es[i].key,es[i].val] }) it d (i+1) es.size ep ok ov:=U_ _ e1;generalize hh:h1.push { cls:=.type "tuple",data:=.seq #[es[i].key,es[i].val] }=h2 at e2;have z1:h1.objs.size=hp.objs.size:=s1.1;have wA:it<hp.objs.size:=Vd hit;have t2:h2.get? hp.objs.size=some { cls:=.type "tuple",data:=.seq #[es[i].key,es[i].val] }:=by rw[<- hh,<- z1];exact Ve _ rfl
 have k2:∀ b o,b≠it->hp.get? b=some o->h2.get? b=some o:=λb o hb e=>by rw[<- hh];exact U_ _ (s1.extBut b o hb e)
 show wpAny _ _ (Builtin.Dict_items.ownedTupleIsFree (.ref it) >>= _) _ _ ⟨h2,g,dr,tk,os⟩;rw[z1];clear hh e1 s1 Oi z1 h1;refine U6 ?_;unfold Builtin.Dict_items.ownedTupleIsFree;refine U6 (VQ e2 rfl (x:=.none) rfl (U9 ?_));simp only[if_true];refine U6 (VQ e2 rfl (x:=ok) rfl (U6 (VQ e2 rfl (x:=ov) rfl ?_)));refine U6 (VX e2 (by simp) λh3 e3 s3=>?_);replace s3:Heap.SameBut it h2 h3:=s3;replace e3:IsItemIter h3 it d (i+1) es.size ep es[i].key ov:=e3;refine U6 (VX e3 (by simp) λh4 e4 s4=>?_);replace s4:Heap.SameBut it h3 h4:=s4;replace e4:IsItemIter h4 it d (i+1) es.size ep es[i].key es[i].val:=e4;refine U6 (VX e4 (by simp) λh5 e5 s5=>?_);replace s5:Heap.SameBut it h4 h5:=s5;replace e5:IsItemIterOut h5 it d (i+1) es.size ep es[i].key es[i].val hp.objs.size:=e5;refine U6 (VX e5 (by simp) λh6 e6 s6=>?_);replace s6:Heap.SameBut it h5 h6:=s6;replace e6:IsItemIterOut h6 it d (i+1) es.size ep es[i].key es[i].val hp.objs.size:=e6;have up:∀ b o,b≠it->h2.get? b=some o->h6.get? b=some o:=λb o hb e=>s6.extBut b o hb (s5.extBut b o hb (s4.extBut b o hb (s3.extBut b o hb e)));exact U6 (wpAny_letGo (U9 (U9 ⟨_,rfl,U9 (hQ h6 e6 (up _ _ (VJ wA) t2) λb o hb e=>up b o hb (k2 b o hb e))⟩)))
theorem F4{ok:Value}{Q:Option Value->Shared->Prop}(hh:A.handled=none)(hit:IsItemIter s.heap it d i es.size ep ok ov)(hm:gN s.heap d es ep)(N8:es.size<=i)
  (hQ:∀ h',Heap.ExtBut it s.heap h'->Q none { s with heap:=h' }):wpAny (model prog w) A (pyNext (.ref it)) Q E s:=by
 obtain⟨od,yt,vR,wB⟩:=hm;have hT:s.TypeIs (.ref it) "dict_itemiterator":=⟨_,hit,rfl⟩
 unfold pyNext;refine U6 (Wk (VB (name:=Str.ofString "__next__") hT VG (Vt VG hT F.entry_dict_itemiterator_next ?_ (F.args_dict_itemiterator_next_1 _))));refine U6 (U9 (U6 (U6 ?_)))
 first | refine U6 (VD hT (U9 ?_)) | refine U6 (VP hT (U9 ?_))
 refine U6 (WD hit rfl ?_);simp only[show Builtin.Dict_items.ownsTuple "dict_itemiterator" = true by decide,if_true];show wpAny _ _ (if (Value.ref d==Value.none)=true then _ else _) _ _ s;rw[if_neg (show ¬ ((Value.ref d==Value.none)=true) from Bool.false_ne_true)];refine U6 (U9 (U6 (VO yt wB ?_)));rw[if_neg (by simp)];refine U6 (U9 (U6 (VV yt wB ?_)));rw[if_neg (by simp)];refine U9 ?_;simp only[show ¬ ((i:Int)<0) from by left,if_false,Int.toNat_natCast,Array.getElem?_eq_none N8];refine U6 ?_
 first | refine U6 (VD hT (U9 ?_)) | refine U6 (VP hT (U9 ?_))
 show wpAny _ _ (setField (.ref it) 2 .none >>= _) _ _ s;refine U6 (Wb hit rfl (by simp) ?_);show wpAny _ _ (newExc (.type "StopIteration") [] >>= _) _ _ _;refine U6 ?_;simp only[newExc,newTuple];refine U6 (Vq (U6 (m:=firstArgMember _ _) (wpAny_of_eq (a:=Value.none) (by first | rfl | (simp only[firstArgMember];rfl)) (Vq ?_ (by size_fits)))) (by size_fits));simp only[raiseNew];refine U6 (wpAny_handled ?_);rw[show A.in1.handled=none from hh];refine U6 (U9 (wpAny_throw ?_));refine U6 (wpAny_isInstance (T:="StopIteration") (b:=true) ⟨_,Ve _ rfl,rfl⟩ isSubtype_stop ?_);exact U9 (hQ _ (((VI ..).extBut.push _).push _))
theorem oo:entryFor table "dict_itemiterator.__iter__" = some Builtin.«dict_keyiterator.__iter__»:=entryFor_alias (id':="dict_keyiterator.__iter__") (by kernel_rfl) rfl (by decide +kernel) (by kernel_rfl)
theorem Bx{ok:Value}{n:Nat}(hit:IsItemIter s.heap it d i n ep ok ov)(hQ:Q (.ref it) s):wpAny (model prog w) A (pyIter (.ref it)) Q E s:=by
 have hT:s.TypeIs (.ref it) "dict_itemiterator":=⟨_,hit,rfl⟩
 refine WN hT F.slot_dict_itemiterator_iter (Vt F.slot_dict_itemiterator_iter hT oo ?_ (F.args_dict_itemiterator_iter_1 _));show wpAny _ _ (ret (.ref it)) _ _ s;exact U9 ⟨_,rfl,"dict_itemiterator",_,hT,F.slot_dict_itemiterator_next.lookup,hQ⟩
end
section
variable {X:Cx}{pins:List (Addr×Obj)}{σ:St}{H:Hp}{s:Shared}{d:Addr}{cs:List (List Int)}{as:List Addr}{xs:List V}{ep:Nat}
theorem Au(I:Inv X pins σ H s)(h:H d=some (.ext (DO d cs as xs ep))):∃ es:Array DictEntry,gN s.heap d es ep/\es.size=as.length/\es.toList.map (·.key)=as.map Value.ref/\Vals xs (es.toList.map (·.val))/\as.length=cs.length/\(d==sysModules)=false:=by
 obtain⟨⟨zs,o,es,e1,e2,e3,ho,hx,hd,he,hn,hl,hs⟩,_⟩:=(show bB X.prog X.w H s.heap d (.ext (DO d cs as xs ep)) from I.bR d _ h)
 refine⟨es,⟨o,ho,hx,hd⟩,?_,?_,?_,?_,hs⟩
 ·rw[<- Array.length_toList,he,<- e2,List.length_map,List.length_map]
 ·rw[he,<- e2,List.map_map,List.map_map];rfl
 ·rw[he,List.map_map];exact e3
 ·rw[<- e1,<- e2,List.length_map,List.length_map]
def Ra(d:Addr)(cs:List (List Int))(as:List Addr)(xs:List V)(ep:Nat):It :=
 ⟨λi H=>H d=some (.ext (DO d cs as xs ep))/\i<as.length,λi H v H'=>∃ T a x,as[i]?=some a/\xs[i]?=some x/\H T=none/\v=.ref T/\H'=upd H T (.tup [.ref a,x]),λi H=>H d=some (.ext (DO d cs as xs ep))/\as.length<=i⟩
theorem rb{tp:Pos}(d it:Addr)(cs:List (List Int))(as:List Addr)(xs:List V)(ep:Nat):Turn P w K (.Tuple elts n1 tp) (Ra d cs as xs ep) [it] it (λi h=>∃ ok ov,IsItemIter h it d i as.length ep ok ov) where
 mem:=by simp
 obj:=λi h st b hb=>by
  have e:b=it:=by simpa using hb
  subst e;obtain⟨_,_,e⟩:=st;exact⟨_,e,λv z=>by cases z⟩
 keep:=λi h h' st k=>let ⟨a,b,e⟩:=st;⟨a,b,k it (by simp) _ e⟩
 item:=by
  intro X hP hw hK hc i pins s σ H E I hf st hg;subst hP hw hK;obtain⟨hd,hi⟩:=hg;obtain⟨ok,ov,st⟩:=st;obtain⟨es,hr,hz,jJ,jI,_⟩:=Au I hd;have jg:i<es.size:=by rw[hz];exact hi
  have N7:es[i].key=.ref as[i]:=by
   have:=VY (λl=>l[i]?) jJ;simp only[List.getElem?_map,Array.getElem?_toList]at this;rw[Array.getElem?_eq_getElem jg,List.getElem?_eq_getElem hi]at this;exact Vk this
  have UX:xs.length=es.size:=by rw[jI.length,List.length_map,Array.length_toList]
  have hx:xs[i]?=some xs[i]:=Vj (by left);obtain⟨u,hu,ru⟩:=jI.get hx;have NL:es[i].val=u:=by
   rw[List.getElem?_map,Array.getElem?_toList,Array.getElem?_eq_getElem jg]at hu;exact Vk hu
  rw[<- hz]at st;refine By st hr jg λh1 o1 t1 k1=>⟨_,rfl,?_⟩
  refine wpAny_letOwnedTupleGo_items o1 λh2 e2 Gu=>?_;have LO:s.heap.objs.size≠it:=VJ (Vd st);have kk:∀ c o,c∉[it]->s.heap.get? c=some o->h2.get? c=some o:=λc o hc z=>by
   simp only[List.mem_cons,List.not_mem_nil,or_false]at hc;exact Gu.extBut c o hc (k1 c o hc z)
  have hT:h2.get? s.heap.objs.size=some { cls:=.type "tuple",data:=.seq #[.ref as[i],u] }:=by
   rw[N7,NL]at t1;exact Gu.extBut _ _ LO t1
  have hn:H s.heap.objs.size=none:=I.bR.fresh (Vc _);refine⟨.ref s.heap.objs.size,upd H s.heap.objs.size (.tup [.ref as[i],xs[i]]),sX (s:=s) (h':=h2) (t':=s.toks) I hf kk (Vc _) (sY rfl ru hT),rfl,⟨_,as[i],xs[i],Vj hi,hx,hn,rfl,rfl⟩,⟨_,_,by rw[hz]at e2;exact e2⟩,λc hc=>?_⟩;rw[aq]
  ·exact(hf c hc).1
  ·intro z;subst z;exact LO (by simpa using hc)
 done:=by
  intro X hP hw hK hc i pins s σ H E I hf st hg;subst hP hw hK;obtain⟨hd,hi⟩:=hg;obtain⟨ok,ov,st⟩:=st;obtain⟨es,hr,hz,jJ,_⟩:=Au I hd;obtain⟨f0,f1,f2,f3,f4,f5⟩:=hf it (by simp);rw[<- hz]at st;exact F4 (I.ok.hd hc) st hr (by rw[hz];exact hi) λh' eb=>⟨rfl,I.turned (t':=s.toks) (λb o hb e=>eb b o hb e) f0 f1 f3 f4 f5⟩
 self:=λ_ _ _ _ _ ⟨_,_,st⟩ h=>Bx st h
end
def iO(_:Scope)(_:List Str)(e:Expr):Option (List Expr):=match jB ("items" : Str) (.Expr e ⟨0,0,0,0⟩)with
 | some z=>if isNm z.1=true/\isNil z.2=true then some [z.1]else none
 | none=>none
theorem qG{sc:Scope}{bl:List Str}{e:Expr}(h:iO sc bl e=some args):∃ x p p1 p2,e=.Call (.Attribute (.Name x p) ("items" : Str) p1) [] [] p2/\args=[.Name x p]/\(p1.endLine==p2.line)=true:=by
 unfold iO at h;cases h1:jB ("items" : Str) (.Expr e ⟨0,0,0,0⟩)with
 | none=>rw[h1]at h;exact nk h
 | some z =>
  obtain⟨o,as⟩:=z;rw[h1]at h;by_cases hn:isNm o=true/\isNil as=true
  ·have h:(if isNm o=true/\isNil as=true then some [o]else none)=some args:=h;rw[if_pos hn]at h;cases h;obtain⟨p1,p2,pos,e1,hl⟩:=kM h1;cases e1;obtain⟨x,p,rfl⟩:=uc hn.1;obtain rfl:=eu hn.2;exact⟨_,_,_,_,rfl,rfl,hl⟩
  ·have h:(if isNm o=true/\isNil as=true then some [o]else none)=some args:=h;rw[if_neg hn]at h;exact nk h
def cf(c:List Int)(n:Int):D:=.tup [bF c,.int n]
def cX(xs:List D):O D:=match one xs with
 | some d=>match cS d with
  | some z=>match intsOf z.2 with
   | some ns=>ok (.lst .ow (List.zipWith cf z.1 ns))
   | none=>none
  | none=>none
 | none=>none
theorem sr{r:D}(h:cX xs=ok r):∃ f cs ns,xs=[.aZ f cs (ns.map D.int)]/\r=.lst .ow (List.zipWith cf cs ns):=by
 unfold cX at h;cases h1:one xs with
 | none=>rw[h1]at h;exact nk h
 | some d =>
  rw[h1]at h;have h:(match cS d with | some z=>(match intsOf z.2 with | some ns=>ok (D.lst .ow (List.zipWith cf z.1 ns)) | none=>none) | none=>none)=ok r:=h;cases h2:cS d with
  | none=>rw[h2]at h;exact nk h
  | some z =>
   rw[h2]at h;have h:(match intsOf z.2 with | some ns=>ok (D.lst .ow (List.zipWith cf z.1 ns)) | none=>none)=ok r:=h;cases h3:intsOf z.2 with
   | none=>rw[h3]at h;exact nk h
   | some ns =>
    rw[h3]at h;cases h;obtain⟨f,e⟩:=fN h2;exact⟨f,z.1,ns,by rw[b6 h1,e,gb h3],rfl⟩
theorem jH(g:Fl->Fl):∀(cs:List (List Int)) (ns:List Int),ag g (List.zipWith cf cs ns)=List.zipWith cf cs ns
 | [],_=>rfl
 | _::_,[]=>rfl
 | c::cs,n::ns=>by
  show aw g (cf c n)::ag g (List.zipWith cf cs ns)=_;rw[jH g cs ns];have h:ag g [bF c]=[bF c]:=dD g [c];show D.tup (aw g (bF c)::[.int n])::_=_;rw[show aw g (bF c)=bF c from(List.cons.inj h).1];rfl
theorem wa{n:Nat}(hΦ:Φ n=cX){sc:Scope}{bl:List Str}{k:Nat}(L:PX X sc bl k){e:Expr}(he:iO sc bl e=some args)(ht:eO tg=true)(hs:my X F Φ cs args)
  {pins:List (Addr×Obj)} {s:Shared} {d:D} {items:List D} (I:Inv X pins σ H s) (Si:SI X F R τ ρ σ H) (bU:bM Φ cs ρ=ok xs) (ed:Φ n xs=ok d) (ei:mi d=ok items) (Rr:It->Hp->Prop)
  (hR:∀ J H2 vs,ai H H2->bg X.K (gP X F) R τ (b7 cs) H H2 vs xs->G5 X.K J H2 vs xs items->Rr J H2) :
  wpAny (model X.prog X.w) X.A (eval e X.env) (λv s1=>wpAny (model X.prog X.w) X.A (pyIter v) (wG X pins σ tg Rr) X.xe s1) X.xe s:=by
 obtain⟨x,p,p1,p2,rfl,rfl,hl⟩:=qG he;cases tg<;>try (cases ht;done)
 cases cs with
 | nil=>exact hs.elim
 | cons c cs=>cases cs with
  | cons _ _=>exact hs.2.2.2.elim
  | nil =>
   rw[hΦ]at ed;obtain⟨f,ks,ns,rfl,rfl⟩:=sr ed;cases ei;obtain⟨x,ex,bU⟩:=ab bU;cases bU;refine wpAny_Call_method rfl rfl hl PySem.F.plainAttrs_dict PySem.F.slot_dict_items PySem.F.type_dict_items (bV (hs.1 pins s σ H _ I (tD.intro Si ex (Q:=λv H1=>ai H H1/\bj X.K (gP X F) R τ (fw c) H H1 v (.aZ f ks (ns.map D.int))) λv H1 e1 r1=>⟨e1,r1⟩)) λu s1 ⟨v,H1,I1,rv,e1,r1⟩=>?_);obtain⟨τt,fr,q1⟩:=id r1;cases q1 with
   | @aZ _ p _ as ys ep _ _ EW hk hr =>
    cases rv;have hd:=EW.dat;obtain⟨es,vL,hz,jJ,jI,hlen,vJ⟩:=Au I1 hd;obtain⟨t1,t2⟩:=dict_cls I1 hd;refine⟨t1,t2,?_⟩;show wpAny _ _ (callWith p2 (.builtin "dict.items") [.ref p] [] []) _ _ s1;refine method_meetsIn PySem.F.slot_dict_items PySem.F.entry_dict_items rfl (PySem.evalArgs_none ⟨rfl,t1,PySem.F.args_dict_items_1 _,_,zd p vJ,⟨es,ep,vL⟩,?_⟩);have JE:gN (s1.heap.push { cls:=.type "dict_items",data:=.fields #[.ref p] }) p es ep:=let ⟨o,ho,r⟩:=vL;⟨o,U_ _ ho,r⟩;refine Bz (d:=p) (es:=es) (ep:=ep) ⟨_,Ve _ rfl,rfl,rfl⟩ JE ?_;have Sk:(s1.heap.push { cls:=.type "dict_items",data:=.fields #[.ref p] }).objs.size=s1.heap.objs.size+1:=WB ..;have hb:s1.heap.objs.size<=s1.heap.objs.size+1:=Wg _;have hit:=Ve (s1.heap.push { cls:=.type "dict_items",data:=.fields #[.ref p] }) (o:={ cls:=.type "dict_itemiterator",data:=.fields #[.none,.bool false,.ref p,.int 0 0,.int es.size 0,.int ep 0,.none,.none] }) rfl;show wG X pins σ _ Rr (.ref (s1.heap.push { cls:=.type "dict_items",data:=.fields #[.ref p] }).objs.size) _;rw[Sk]at hit ⊢;refine⟨s1.heap.objs.size+1,[s1.heap.objs.size+1],_,Ra p ks as ys ep,H1,rfl,I1.kept (t':=s1.toks) (λb o e=>U_ _ (U_ _ e)),rb p (s1.heap.objs.size+1) ks as ys ep,⟨_,_,by rw[<- hz];exact hit⟩,λb um=>?_,hR _ H1 [.ref p] e1 (bg.cons e1 (ai.refl _) (r1.mono λj hj=>Vw _ hj) ⟨λ_=>none,λ_ _ h=>by simp at h,.nil⟩) ?_⟩
    ·have:b=s1.heap.objs.size+1:=by simpa using um
     subst this;exact I1.yL hb (I1.bR.fresh hb)
    ·rw[jH];have Qh:ys=ns.map V.int:=hr.ofInts;have Sn:ys.length=as.length:=by rw[jI.length,List.length_map,Array.length_toList,hz]
     have Lz:ns.length=as.length:=by rw[<- Sn,Qh,List.length_map]
     have wA:(List.zipWith cf ks ns).length=as.length:=by rw[List.length_zipWith];left
     have i6:∀ H',nz X.K H1 [.ref p] [.aZ f ks (ns.map D.int)] H'->H' p=some (.ext (DO p ks as ys ep)):=λH' st=>by
      obtain⟨R0,RU,hl⟩:=st.n0;cases RU with
      | cons h0 _=>cases h0 with
       | aZ h1 _ _ =>
        cases f with
        | sc=>exact h1.elim
        | ow=>exact hl p _ h1.2 hd
        | fz=>exact hl p _ h1.2 hd
        | al=>exact hl p _ h1.2 hd
     refine⟨λi H' R' st rs hi=>⟨i6 H' st,by rw[wA]at hi;exact hi⟩,λi H' R' x j3 st rs hi hy=>?_,λi H' R' st rs hi=>⟨i6 H' st,by rw[wA]at hi;exact hi⟩⟩;obtain⟨T,a,y,ha,Lr,hT,rfl,rfl⟩:=hy;rw[wA]at hi;have vZ:ai H' (upd H' T (.tup [.ref a,y])):=ai.upd hT;have Qt:i<ks.length:=by left
     have Qs:i<ns.length:=by left
     have ey:y=.int ns[i]:=by
      rw[Qh,List.getElem?_map,List.getElem?_eq_getElem Qs]at Lr;exact(Vk Lr).symm
     subst ey;refine⟨vZ,cf ks[i] ns[i],?_,.tup (ao.of aB) (.cons (tI (ao.same vZ (st.tp _ _ (hk.tup i a _ ha (Vj Qt))))) (.cons (.int _) .nil))⟩;rw[List.getElem?_zipWith,List.getElem?_eq_getElem Qt,List.getElem?_eq_getElem Qs]
section
variable {X:Cx}{pins:List (Addr×Obj)}{σ:St}{H:Hp}{s:Shared}{p b:Addr}{c:List Int}{A:Around}{E:Value->Shared->Prop}
theorem BB{v:V}{r:Value}{Q:Unit->Shared->Prop}(hu:A.units<cLine)(I:Inv X pins σ H s)(h:H p=some (.ext (DO p [] [] [] 0)))(hb:ao X.K H b (c.map V.int))(rv:RelV v r)
  (hQ:∀ m_ s',Inv X pins σ (upd H p (.ext (DO p [c] [b] [v] m_))) s'->Q () s'):wpAny (model X.prog X.w) A (dictSet p (.ref b) r) Q E s:=by
 obtain⟨zs,o,es,e1,e2,e3,ho,hx,hd,dd,_,hl,hs⟩:=kf I h ⟨rfl,λj a c h=>by simp at h⟩;cases zs with
 | cons _ _=>cases e1
 | nil =>
  refine wpAny_dictSet_heap (knd:=tupleKind (intKind X.prog X.w)) hu (ll I hb) dd (λh' OX vK=>?_) (Vs _);obtain⟨q,vZ,m_,hq,h2,h3,h4,_,h5⟩:=OX;refine hQ m_ _ (I.write (x:=p) (e:=p) (by rw[h];exact True.intro) (.inl rfl) (λb q hb z=>(vK.2 b hb).trans z) ⟨q,hq⟩ ⟨⟨storedH [] c b r,q,vZ,rfl,rfl,.cons rv .nil,hq,h2,h3,h4,by simp,by rw[sizeLine_eq];simp,hs⟩,⟨q,hq⟩,?_⟩);rintro h1 Ox ⟨B4,o',es'',f1,f2,f3,f4,f5⟩ kk;exact⟨B4,o',es'',f1,f2,f3,kk _ f4,f5⟩
theorem xM{k v:Expr}{tk tv:TE}(hu:X.A.units<cLine)(hk:PE X k tk)(hv:PE X v tv):PE X (.Dict [some k] [v] pos) (λσ H Q=>∀ p,H p=none->tk σ (upd H p (.ext (DO p [] [] [] 0))) λkv H1=>tv σ H1 λvv H2=>∃ b c,kv=.ref b/\H2 p=some (.ext (DO p [] [] [] 0))/\ao X.K H2 b (c.map V.int)/\∀ ep,Q (.ref p) (upd H2 p (.ext (DO p [c] [b] [vv] ep)))):=λpins s σ H Q I h=>by
 have Fd:sysModules<s.heap.objs.size:=Nat.lt_trans (by decide) (show mainGlobals<s.heap.objs.size from(I.mod.glob.keeps I.bk).lt);have hg:(s.heap.push { cls:=.type "dict",data:=.dict #[] }).get? s.heap.objs.size=some { cls:=.type "dict",data:=.dict #[] }:=Ve _ rfl;have I0:=I.laid (a:=s.heap.objs.size) (h':=s.heap.push { cls:=.type "dict",data:=.dict #[] }) (o:=.ext (DO s.heap.objs.size [] [] [] 0)) (t':=s.toks) (λ_ _ q=>U_ _ q) (Vc _) (by
  refine⟨⟨[],_,#[],rfl,rfl,.nil,hg,⟨rfl,rfl,rfl⟩,rfl,rfl,Wa,Vs _,beq_eq_false_iff_ne.mpr (WO (Vi Fd))⟩,⟨_,hg⟩,?_⟩;rintro h1 Ox ⟨B4,o',es'',f1,f2,f3,f4,f5⟩ kk;exact⟨B4,o',es'',f1,f2,f3,kk _ f4,f5⟩)
 refine wpAny_Dict_any rfl rfl (by simp) (show 1<=15 by decide) (pairTrees_cons_walk (bV (hk pins _ σ _ _ I0 (h _ (I.bR.fresh (Vc _)))) λu s1 ⟨kv,H1,I1,ru,q1⟩=>bV (hv pins _ σ _ _ I1 q1) λu2 s2 ⟨vv,H2,I2,MK,q2⟩=>pairTrees_nil_walk ?_));obtain⟨b,c,rfl,hd,hb,q⟩:=q2;cases ru;show wpAny _ _ (storeAll _ [(_,_)]) _ _ _;unfold storeAll;rw[List.forIn_cons];refine U6 (U6 (BB hu I2 hd hb MK λm_ s' I'=>U9 ?_));show wpAny _ _ (forIn [] _ _) _ _ _;rw[List.forIn_nil];exact U9 ⟨.ref s.heap.objs.size,_,I',rfl,q m_⟩
end
def ji(xs:List D):O D:=match two xs with
 | some z=>match keyOf z.1 with
  | some c=>if ak anyF z.2=false then ok (.aZ .ow [c] [z.2])else none
  | none=>none
 | none=>none
theorem v9{r:D}(h:ji xs=ok r):∃ c x,xs=[.tup (c.map D.int),x]/\ak anyF x=false/\r=.aZ .ow [c] [x]:=by
 unfold ji at h;cases h1:two xs with
 | none=>rw[h1]at h;exact nk h
 | some z =>
  rw[h1]at h;have h:(match keyOf z.1 with | some c=>if ak anyF z.2=false then ok (D.aZ .ow [c] [z.2])else none | none=>none)=ok r:=h;cases h2:keyOf z.1 with
  | none=>rw[h2]at h;exact nk h
  | some c =>
   rw[h2]at h;obtain⟨g1,g2⟩:=uf (show(if ak anyF z.2=false then ok (D.aZ .ow [c] [z.2])else none)=ok r from h);exact⟨c,z.2,by rw[i3 h1,iB h2],g1,g2.symm⟩
noncomputable def oE(_:Scope)(_:List Str)(e:Expr):Option (List Expr):=match e with
 | .Dict [some k] [v] _=>some [k,v]
 | _=>none
theorem yZ{n:Nat}(hΦ:Φ n=ji){sc:Scope}{bl:List Str}{k:Nat}(L:PX X sc bl k){e:Expr}(he:oE sc bl e=some args)(hs:my X F Φ cs args):PE X e (tD X F Φ (.cm n cs))/\PT X e (ft X F Φ (.cm n cs)):=by
 have h1:∃ a b pos,e=.Dict [some a] [b] pos/\args=[a,b]:=by
  unfold oE at he;split at he
  ·cases he;exact⟨_,_,_,rfl,rfl⟩
  ·cases he
 obtain⟨a,b,pos,rfl,rfl⟩:=h1;obtain⟨⟨c1,c2,rfl,pe1,MZ⟩,pa,s1,s2⟩:=nP hs;have this:PE X (.Dict [some a] [b] pos) (tD X F Φ (.cm n [c1,c2])):=by
  refine PE.imp (xM (Vo (Nat.le_add_right _ _) L.room.units) pe1 MZ) λσ H Q hq p hp=>?_;obtain⟨R,τ,ρ,d,Si,ev,hq⟩:=hq;obtain⟨xs,bU,ev⟩:=ab ev;rw[hΦ]at ev;obtain⟨c,x,rfl,hx,rfl⟩:=v9 ev;obtain⟨y,ey,bU⟩:=ab bU;obtain⟨ys,yO,bU⟩:=ab bU;cases bU;obtain⟨w,ew,yO⟩:=ab yO;cases yO;have e0:ai H (upd H p (.ext (DO p [] [] [] 0))):=ai.upd hp;refine tD.intro (Si.go e0) ey λkv H1 e1 r1=>tD.intro ((Si.go e0).go e1) ew λvv H2 e2 r2=>?_;obtain⟨_,_,q1⟩:=r1;obtain⟨q,xs,rfl,hT,rs⟩:=q1.wN;cases rs.ofInts;have NR:H2 p=some (.ext (DO p [] [] [] 0)):=e2 _ _ (e1 _ _ aB);refine⟨q,c,rfl,NR,ao.same e2 hT,λep=>?_⟩;have rY:∀ b o,H b=some o->b≠p:=λb o e z=>by rw[z,hp]at e;cases e
  have MI:∀ b o,H2 b=some o->b≠p->upd H2 p (.ext (DO p [c] [q] [vv] ep)) b=some o:=λb o e hb=>by rw[aq hb];exact e
  refine hq _ _ (λb o e=>MI b o (e2 _ _ (e1 _ _ (e0 _ _ e))) (rY b o e)) ?_;obtain⟨_,_,q2⟩:=r2;have tp:∀ a ys,ao X.K H2 a ys->ao X.K (upd H2 p (.ext (DO p [c] [q] [vv] ep))) a ys:=λa ys h=>by
   rcases h with (h | ⟨o,h⟩) | h
   ·exact .inl (.inl (MI _ _ h λz=>by rw[z,NR]at h;cases h))
   ·exact .inl (.inr ⟨o,MI _ _ h λz=>by rw[z,NR]at h;cases h⟩)
   ·exact .inr h
  refine⟨λa=>if a=p then some []else none,λa k ha=>?_,.aZ (as:=[q]) (xs:=[vv]) (ep:=ep) ⟨aB,by simp⟩ ⟨rfl,λj a' c' h1 h2=>?_⟩ (.cons ?_ .nil)⟩
  ·by_cases z:a=p
   ·subst z;exact hp
   ·simp[z]at ha
  ·cases j with
   | zero=>cases h1;cases h2;exact tp _ _ (ao.same e2 hT)
   | succ j=>simp at h1
  ·exact(f7 (N':=nd X.K R (gM (gP X F) τ (fw (.cm n [c1,c2]))) (λa=>if a=p then some []else none) (upd H2 p (.ext (DO p [c] [q] [vv] ep)))) (k':=[0]) q2 hx).imp tp λ_ _ _ _ h=>h
 exact⟨this,bW this λ_=>rfl⟩
theorem xN{a:Expr}{p:Pos}(hc:X.calm=true)(hg:Gl X "list")(hm:X.mg "list" = none)(ha:PA X [a] ta)(hs:starEach [a] X.env=[(false,eval a X.env)]):PE X (.Call (.Name "list" p) [a] [] pos) (λσ H Q=>ta σ H λvs H1=>∃ d cs as xs ep,vs=[.ref d]/\H1 d=some (.ext (DO d cs as xs ep))/\∀ l,H1 l=none->Q (.ref l) (upd H1 l (.lst (as.map V.ref)))):=by
 intro pins s σ H Q I h;refine Call_ (eM I hg hm boot_list (Vv (bV (ha pos pins s σ H _ I h) λus s1 ⟨vs,H1,I1,r1,q1⟩=>?_) hs rfl));obtain⟨d,cs,as,xs,ep,rfl,hd,q⟩:=q1;obtain⟨u,rfl,ru⟩:=vals1 r1;cases ru;obtain⟨⟨zs,o,es,e1,e2,e3,ho,hx,wB,he,hn,hl,hsy⟩,_⟩:=(show bB X.prog X.w H1 s1.heap d (.ext (DO d cs as xs ep)) from I1.bR d _ hd)
 obtain⟨vZ,vL,hz,jJ,_,hlen,vJ⟩:=Au I1 hd;have hsz:vZ.size<=sizeLine:=by rw[hz,hlen];exact hl
 refine PySem.W.kdl_call (zb vJ) (I1.ok.hd hc) vL hsz λh' tk acc c' hk hS lG=>?_;have yB:acc.toList=as.map Value.ref:=by
  rw[<- jJ];refine WM λi=>?_;rw[List.getElem?_map,Array.getElem?_toList,Array.getElem?_toList];by_cases hi:i<vZ.size
  ·have JS:i<acc.size:=by rw[lG.1];exact hi
   obtain⟨e,he,hv⟩:=lG.2 i acc[i] (V8 JS);rw[Array.getElem?_eq_getElem JS,he,hv];rfl
  ·rw[Array.getElem?_eq_none (by rw[lG.1];left),Array.getElem?_eq_none (by left)];rfl
 have jI:∀ l:List Addr,Vals (l.map V.ref) (l.map Value.ref):=λl=>by
  induction l with
  | nil=>exact .nil
  | cons a l ih=>exact .cons rfl ih
 refine⟨.ref s1.heap.objs.size,upd H1 _ (.lst (as.map V.ref)),I1.laid (t':=tk) hk (Vc _) ⟨?_,acc.toList,c',by rw[yB];exact jI as,by rw[Array.toArray_toList];exact hS⟩,rfl,q _ (I1.bR.fresh (Vc _))⟩;rw[List.length_map,hlen];exact hl
def lP(xs:List D):O D:=oq xs
theorem y_{n:Nat}(hΦ:Φ n=lP){sc:Scope}{bl:List Str}{k:Nat}(L:PX X sc bl k){e:Expr}(he:fQ ("list" : Str) sc bl e=some args)(hs:my X F Φ cs args):PE X e (tD X F Φ (.cm n cs))/\PT X e (ft X F Φ (.cm n cs)):=by
 obtain⟨p,pos,a,rfl,rfl,h1,h2⟩:=jn he;obtain⟨pa,s1⟩:=tT hs;cases cs with
 | nil=>exact hs.elim
 | cons c cs=>cases cs with
  | cons _ _=>exact hs.2.2.2.elim
  | nil =>
   have this:PE X (.Call (.Name ("list" : Str) p) [a] [] pos) (tD X F Φ (.cm n [c])):=by
    refine PE.imp (xN L.calm (L.gl h1) (L.bl _ h2) pa (s1 _)) λσ H Q hq=>?_;obtain⟨R,τ,ρ,d,Si,ev,hq⟩:=hq;obtain⟨xs,bU,ev⟩:=ab ev;rw[hΦ]at ev;obtain⟨f,ks,vs,rfl,rfl⟩:=v_ ev;refine⟨R,τ,ρ,_,Si,bU,λus H1 e1 r1=>?_⟩;obtain⟨τt,fr,rs⟩:=r1;obtain⟨v,rfl,rv⟩:=rs.one;cases rv with
    | aZ hn hk hr =>
     refine⟨_,ks,_,_,_,rfl,hn.dat,λl oV=>hq _ _ (e1.trans (ai.upd oV)) (bj.AU (e1.free oV) (e1.trans (ai.upd oV)) aB ?_)⟩;exact ja (hk.imp λ_ _ h=>ao.same (ai.upd oV) h)
   exact⟨this,bW this λ_=>rfl⟩
end DI
end
section
namespace DI
open PySem (Str)
noncomputable def s_:List CS:=[.app 6 (.bin .mod (.v 3) (.bin .add (.v 5) (.int 1))),.asg (.nm 3) (.bin .fdiv (.v 3) (.bin .add (.v 5) (.int 1)))]
noncomputable def s9:List CS:=[.asg (.nm 9) (.bf .min2 [(.ix (.v 6) (.v 7)),(.v 8)]),.setI 6 (.v 7) (.bin .sub (.ix (.v 6) (.v 7)) (.v 9)),.asg (.nm 8) (.bin .sub (.v 8) (.v 9))]
theorem pB(Φ:ay){B:Nat}(hB:B<=9)(c0 c1 c2 c4 c8 c9:Option D):∀(k j:Nat) (N:Int) (ts:List Int) (c7:Option D),ts.length=j->j+k<=12->(∀ t∈ts,0<=t/\t<=(B:Int)) ->
  ∃ N' Hl BJ,eA (λd ρ=>bw (.nm 7) d ρ) (λρ=>aT Φ s_ ρ) ((List.range' j k).map λ(i:Nat)=>D.int (i:Int)) [c0,c1,c2,some (.int N),c4,some (.int B),some (.lst .ow (aa ts)),c7,c8,c9]=ok (.nx,[c0,c1,c2,some (.int N'),c4,some (.int B),some (.lst .ow (aa Hl)),BJ,c8,c9])/\Hl.length=j+k/\∀ t∈Hl,0<=t/\t<=(B:Int)
 | 0,j,N,ts,c7,h1,_,h2=>⟨N,ts,c7,rfl,by left,h2⟩
 | k+1,j,N,ts,c7,h1,hj,h2=>by
  obtain⟨m1,m2⟩:=gc N (b:=(B:Int)+1) (by left);obtain⟨N',Hl,BJ,ih,l1,l2⟩:=pB Φ hB c0 c1 c2 c4 c8 c9 k (j+1) (N.fdiv ((B:Int)+1)) (ts++[N.fmod ((B:Int)+1)]) (some (.int j)) (by simp[h1]) (by left) (λt ht=>by
   rcases List.mem_append.mp ht with ht | ht
   ·exact h2 t ht
   ·rw[List.mem_singleton.mp ht];left)
  rw[List.range'_succ,List.map_cons];have e1:br .mod (.int N) (.int ((B:Int)+1))=ok (.int (N.fmod ((B:Int)+1))):=uQ (by left);have e2:br .fdiv (.int N) (.int ((B:Int)+1))=ok (.int (N.fdiv ((B:Int)+1))):=gK (dm (by left) (eL (by left)));have hc:ts.length<fm:=by show _<1000000;left
  refine⟨N',Hl,BJ,gE (ρ1:=[c0,c1,c2,some (.int N),c4,some (.int B),some (.lst .ow (aa ts)),some (.int j),c8,c9]) (by simp) (ρ2:=[c0,c1,c2,some (.int (N.fdiv ((B:Int)+1))),c4,some (.int B),some (.lst .ow (aa (ts++[N.fmod ((B:Int)+1)]))),some (.int j),c8,c9]) ?_ ih,by left,l2⟩;simp[s_,e1,e2,hc]
theorem lx(a:List Int)(t:Int)(b:List Int):kB (aa (a++t::b)) (a.length:Int)=ok (.int t):=by
 rw[gL (d:=.int t) (by rw[jf];simp)];rfl
theorem p_(a:List Int)(t x:Int)(b:List Int):(aa (a++t::b)).set a.length (.int x)=aa ((a++[x])++b):=by
 unfold aa;rw[<- List.map_set];congr 1;simp[List.set_append]
theorem pA(Φ:ay){B:Nat}(c0 c1 c2 c3 c4 c5:Option D):∀(rest done:List Int) (L:Int) (c7 c9:Option D),done.length+rest.length<=12->(∀ t∈done,0<=t/\t<=(B:Int))->(∀ t∈rest,0<=t/\t<=(B:Int))->0<=L->L<=rest.sum ->
  ∃ ts BJ OY,eA (λd ρ=>bw (.nm 7) d ρ) (λρ=>aT Φ s9 ρ) ((List.range' done.length rest.length).map λ(i:Nat)=>D.int (i:Int)) [c0,c1,c2,c3,c4,c5,some (.lst .ow (aa (done++rest))),c7,some (.int L),c9]=ok (.nx,[c0,c1,c2,c3,c4,c5,some (.lst .ow (aa ts)),BJ,some (.int 0),OY])/\ts.length=done.length+rest.length/\(∀ t∈ts,0<=t/\t<=(B:Int))/\ts.sum=(done++rest).sum - L
 | [],done,L,c7,c9,h1,h2,h3,h4,h5=>by
  have:L=0:=by simp at h5;left
  subst this;exact⟨done,c7,c9,by simp[eA],by simp,h2,by simp⟩
 | t::rest,done,L,c7,c9,h1,h2,h3,h4,h5=>by
  obtain⟨t0,t1⟩:=h3 t Vb;rw[List.sum_cons]at h5;rw[List.length_cons]at h1;have hr:∀ x∈rest,0<=x/\x<=(B:Int):=λx hx=>h3 x (Va _ hx);have hs:0<=rest.sum:=by
   have:∀ l:List Int,(∀ x∈l,0<=x)->0<=l.sum:=λl=>by
    induction l with
    | nil=>intro _;exact V4 _
    | cons a l ih=>intro h;have:=ih λx hx=>h x (Va _ hx);have:=h a Vb;rw[List.sum_cons];left
   exact this rest λx hx=>(hr x hx).1
  obtain⟨m,hm,m0,m1,m2,m3⟩:∃ m:Int,(if L<t then L else t)=m/\0<=m/\m<=t/\m<=L/\(m=L\/m=t):=by
   by_cases h:L<t
   ·exact⟨L,VA h,h4,by left,V4 _,.inl rfl⟩
   ·exact⟨t,V1 h,t0,V4 _,by left,.inr rfl⟩
  obtain⟨ts,BJ,OY,ih,l1,l2,l3⟩:=pA Φ (B:=B) c0 c1 c2 c3 c4 c5 rest (done++[t - m]) (L - m) (some (.int done.length)) (some (.int m)) (by simp;left) (λx hx=>by
   rcases List.mem_append.mp hx with hx | hx
   ·exact h2 x hx
   ·rw[List.mem_singleton.mp hx];left) hr (by left) (by left)
  rw[List.length_cons,List.range'_succ,List.map_cons];have e1:=lx done t rest;have e2:sP .min2 [.int t,.int L]=ok (.int m):=by show ok (D.int (if L<t then L else t))=_;rw[hm]
  have hx:=kG (Φ:=Φ) (i:=6) (j:=done.length) (k:=.v 7) (e:=.bin .sub (.ix (.v 6) (.v 7)) (.v 9)) (ρ:=[c0,c1,c2,c3,c4,c5,some (.lst .ow (aa (done++t::rest))),some (.int done.length),some (.int L),some (.int m)]) (ρ':=[c0,c1,c2,c3,c4,c5,some (.lst .ow (aa (done++t::rest))),some (.int done.length),some (.int L),some (.int m)]) (d:=.int (t - m)) (z:=done.length) (ds:=aa (done++t::rest)) (by simp[e1]) (by simp) rfl (by rw[lp (by left) (by simp;left)];simp);rw[p_]at hx;refine⟨ts,BJ,OY,gE (ρ1:=[c0,c1,c2,c3,c4,c5,some (.lst .ow (aa (done++t::rest))),some (.int done.length),some (.int L),c9]) (by simp) (ρ2:=[c0,c1,c2,c3,c4,c5,some (.lst .ow (aa ((done++[t - m])++rest))),some (.int done.length),some (.int (L - m)),some (.int m)]) ?_ (by simpa using ih),by simp at l1 ⊢;left,l2,by rw[l3];simp;left⟩;simp only[s9];rw[cc,kI];simp[e1,e2];rw[hx];simp
noncomputable def uF:CE:=.comp 1 (.nm 0) [5] .seq [(.v 6)] [] (.call 201 [(.v 0),(.v 1)])
def oN:List CS:=[.asg (.nm 3) (.call 200 [(.v 0),(.v 1)]),.asg (.nm 4) (.bin .add (.int 1) (.bin .mod (.v 3) (.v 2))),.asg (.nm 3) (.bin .fdiv (.v 3) (.v 2)),.asg (.nm 5) (.bin .add (.int 1) (.bin .mod (.v 3) (.int 9))),.asg (.nm 3) (.bin .fdiv (.v 3) (.int 9)),.asg (.nm 6) (.lst []),.fr (.nm 7) (.k8 (.v 4)) s_,.asg (.nm 8) (.bin .mod (.bf .pf [(.v 6)]) (.v 5)),.fr (.nm 7) (.k8 (.v 4)) s9,.ret uF]
def sS(m:List D->O D):Prop:=∀(ns:List Int) (a:Int) (p:Nat),0<=a->1<=p->p<=12->∃ qs B,m [.lst .sc (aa ns),.int a,.int p]=ok (.lst .ow (aN qs))/\qT p qs B
theorem Dh:∀ l:List Int,(∀ x∈l,0<=x)->0<=l.sum:=λl=>by
 induction l with
 | nil=>intro _;exact V4 _
 | cons a l ih=>intro h;have:=ih λx hx=>h x (Va _ hx);have:=h a Vb;rw[List.sum_cons];left
theorem DE(Φ:ay)(Ow:sT (Φ 200))(yC:eV (Φ 201)):sS (mk Φ 3 10 oN):=by
 intro ns a p ha p1 p2;have e1:=Ow ns a ha;obtain⟨f1,f2⟩:=gc (dq ns a) (b:=(p:Int)) (by left);obtain⟨n,hn⟩:∃ n:Nat,1+(dq ns a).fmod p=(n:Int):=⟨(1+(dq ns a).fmod p).toNat,by left⟩
 obtain⟨g1,g2⟩:=gc ((dq ns a).fdiv p) (b:=9) (by decide);obtain⟨B,hB⟩:∃ k:Nat,1+((dq ns a).fdiv p).fmod 9=(k:Int):=⟨(1+((dq ns a).fdiv p).fmod 9).toNat,by left⟩
 have m1:br .mod (.int (dq ns a)) (.int p)=ok (.int ((dq ns a).fmod p)):=uQ (by left);have m2:br .fdiv (.int (dq ns a)) (.int p)=ok (.int ((dq ns a).fdiv p)):=gK (dm (by left) (eL (by left)));generalize (dq ns a).fdiv p=N at *;obtain⟨N',ts,c7,el,tl,tb⟩:=pB Φ (B:=B) (by left) (some (.lst .sc (aa ns))) (some (.int a)) (some (.int p)) (some (.int n)) none none n 0 (N.fdiv 9) [] none rfl (by left) (λ_ h=>nomatch h);have hit:=Jn (Φ:=Φ) (a:=.v 4) (ρ:=[some (.lst .sc (aa ns)),some (.int a),some (.int p),some (.int (N.fdiv 9)),some (.int n),some (.int B),some (.lst .ow []),none,none,none]) (n:=n) (by simp) (by left) (by left);rw[Int.toNat_natCast,List.range_eq_range']at hit;have hf:=kH (Φ:=Φ) (t:=.nm 7) (b:=s_) hit el;have s0:=Dh ts λt ht=>(tb t ht).1;obtain⟨k1,k2⟩:=gc ts.sum (b:=(B:Int)) (by left);have k3:ts.sum.fmod B<=ts.sum:=by
  rw[Int.fmod_eq_emod_of_nonneg _ (by left)];have h1:=Int.mul_ediv_add_emod ts.sum (B:Int);have h2:=WS (show(0:Int)<=(B:Int) by left) (Int.ediv_nonneg s0 (show(0:Int)<=(B:Int) by left));left
 have Ru:ts.length=n:=by left
 obtain⟨us,d7,d9,QN,ul,ub,Pt⟩:=pA Φ (B:=B) (some (.lst .sc (aa ns))) (some (.int a)) (some (.int p)) (some (.int N')) (some (.int n)) (some (.int B)) ts [] (ts.sum.fmod B) c7 none (by simp;left) (λ_ h=>nomatch h) tb k1 k3;rw[List.nil_append,List.length_nil,Ru]at QN;have JQ:=Jn (Φ:=Φ) (a:=.v 4) (ρ:=[some (.lst .sc (aa ns)),some (.int a),some (.int p),some (.int N'),some (.int n),some (.int B),some (.lst .ow (aa ts)),c7,some (.int (ts.sum.fmod B)),none]) (n:=n) (by simp) (by left) (by left);rw[Int.toNat_natCast,List.range_eq_range']at JQ;have S9:=kH (Φ:=Φ) (t:=.nm 7) (b:=s9) JQ QN;have m3:br .mod (.int ts.sum) (.int (B:Int))=ok (.int (ts.sum.fmod B)):=uQ (by left);have Oo:(B:Int)≠0:=by left
 have e3:aH Φ uF [some (.lst .sc (aa ns)),some (.int a),some (.int p),some (.int N'),some (.int n),some (.int B),some (.lst .ow (aa us)),d7,some (.int 0),d9]=ok (.lst .ow (aN (us.map λu=>Rat.divInt u B))):=by
  unfold uF;rw[eQ (xs:=[.lst .al (aa us)]) (items:=us.map D.int) (ds:=us.map λu=>qD (Rat.divInt u B)) (by simp) (by rw[iD,bI];rfl) (fO λu hu=>⟨[some (.int u),some (.int B)],by simp[ba],by simp,?_⟩) (by simp;exact cW (by simp at ul;left))]
  ·simp[aN,bJ]
  ·have:=yC u B Oo (eL (by left));simp[this]
 refine⟨us.map λu=>Rat.divInt u B,B,?_,?_⟩
 ·have uk:br .add (.int 1) (.int ((dq ns a).fmod p))=ok (.int n):=by rw[CQ,hn]
  have Tv:br .add (.int 1) (.int (N.fmod 9))=ok (.int B):=by rw[CQ,hB]
  simp[mk_eq,oN,e1,m1,m2,uk,Tv,hf,m3,S9,Lo Φ uF _ rfl,e3]
 ·rw[List.nil_append]at Pt;have hdiv:(B:Int)∣us.sum:=by
   rw[Pt,Int.fmod_eq_emod_of_nonneg _ (by left)];exact Int.dvd_self_sub_emod
  obtain⟨s,hs⟩:=hdiv;have Fj:(0:Rat)<(B:Int):=by
   have:=Vx (a:=0) (b:=(B:Int));simpa using this.mpr (by left)
  refine⟨by simp at ul ⊢;left,by simp at ul ⊢;left,by left,by left,λq hq=>?_,λq hq=>?_,λq hq=>?_,s,?_⟩
  ·obtain⟨u,hu,rfl⟩:=List.mem_map.mp hq;have h1:(0:Rat)<=(u:Rat):=by have:=Rat.intCast_le_intCast (a:=0) (b:=u);simpa using this.mpr (ub u hu).1
   rw[Rat.divInt_eq_div,Rat.div_def];exact Rat.mul_nonneg h1 (Rat.le_of_lt (Rat.inv_pos.mpr Fj))
  ·obtain⟨u,hu,rfl⟩:=List.mem_map.mp hq;have h1:(u:Rat)<=((B:Int):Rat):=Rat.intCast_le_intCast.mpr (ub u hu).2;rw[Rat.divInt_eq_div];have:=Rat.mul_le_mul_of_nonneg_right h1 (Rat.le_of_lt (Rat.inv_pos.mpr Fj))
   rwa [Rat.mul_inv_cancel _ (Rat.ne_of_gt Fj),<- Rat.div_def]at this
  ·obtain⟨u,hu,rfl⟩:=List.mem_map.mp hq;have:=so (t:=u) Oo;simpa using this
  ·rw[nE (B:Int) Oo,hs,Rat.divInt_eq_div,Rat.intCast_mul,Rat.mul_comm];exact Rat.mul_div_cancel (Rat.ne_of_gt Fj)
noncomputable def gD:Nat->List Int->List (Int×Int)
 | _,[]=>[]
 | k,x::p=>((k:Int),x)::gD (k+1) p
noncomputable def rR(z:Int×Int):D:=.tup [.int z.1,.int z.2]
theorem qo:∀(p:List Int) (k:Nat),bp k (aa p)=(gD k p).map rR
 | [],_=>rfl
 | x::p,k=>by
  show D.tup [.int k,.int x]::bp (k+1) (aa p)=_;rw[qo p (k+1)];rfl
theorem lz:∀(p:List Int) (k:Nat),(gD k p).length=p.length
 | [],_=>rfl
 | x::p,k=>by rw[gD,List.length_cons,lz,List.length_cons]
theorem ug(W:Int):∀(p:List Int) (k:Nat),((gD k p).filter λz=>gh W z.2).map (λz=>D.int z.1)=aa (dy W k p)
 | [],_=>rfl
 | x::p,k=>by
  have ih:=ug W p (k+1);rw[gD,dy,List.filter_cons];have e:((k+1:Nat):Int)=(k:Int)+1:=by left
  rw[e]at ih;by_cases h:gh W x=true
  ·rw[if_pos h,if_pos h,List.map_cons,ih];rfl
  ·rw[if_neg h,if_neg h,ih]
theorem uh(W:Int):∀(p:List Int) (k:Nat),((gD k p).filter λz=>decide (z.2=W)).map (λz=>D.int z.1)=aa (aF W k p)
 | [],_=>rfl
 | x::p,k=>by
  have ih:=uh W p (k+1);rw[gD,aF,List.filter_cons];have e:((k+1:Nat):Int)=(k:Int)+1:=by left
  rw[e]at ih;by_cases h:x=W
  ·rw[if_pos h,if_pos (decide_eq_true h),List.map_cons,ih];rfl
  ·rw[if_neg h,if_neg (by simpa using h),ih]
variable {Φ:ay}
theorem p9(h:Φ 1002=fM)(p:List Int):cH Φ (.cm 1002) [.tup (aa p)]=ok ((gD 0 p).map rR):=by
 show bd (Φ 1002 [.tup (aa p)]) mi=_;rw[h];show ok (ag aC (bp 0 (aa p)))=_;rw[qo,bC aC (λz=>by simp[rR])]
noncomputable def uE:CE:=.comp 2 (.tp [0,1]) [1] (.cm 1002) [(.v 0)] [(.and [(.cmp .gt (.v 1) (.int 0)),(.cmp .lt (.v 1) (.v 2))])] (.v 0)
def uN:List CS:=[.ret uE]
def qP(m:List D->O D):Prop:=∀(p:List Int) (W:Int),p.length<=1000->m [.tup (aa p),.int W]=ok (.lst .ow (aa (dy W 0 p)))
theorem HP(Φ:ay)(h:Φ 1002=fM):qP (mk Φ 2 2 uN):=by
 intro p W hl;have e1:aH Φ uE [some (.tup (aa p)),some (.int W)]=ok (.lst .ow (aa (dy W 0 p))):=by
  unfold uE;rw[eQ (xs:=[.tup (aa p)]) (items:=(gD 0 p).map rR) (ds:=((gD 0 p).filter λz=>gh W z.2).map λz=>D.int z.1) (by simp) (p9 h p) (cb λz hz=>⟨[some (.int z.1),some (.int z.2),some (.int W)],by simp[ba,rR],by simp[gh],λ_=>by simp⟩) (by
   have:=List.length_filter_le (λz=>gh W z.2) (gD 0 p);rw[lz]at this;rw[List.length_map];exact cW (by left))]
  rw[ug W p 0,bI];rfl
 simp[mk_eq,uN,Lo Φ uE _ rfl,e1]
def l8(W:Int):List Int->D
 | a::b::_=>qD (aU W a b)
 | _=>.aL
theorem Ed(n:Nat)(f:Fl)(l:List Int):ck (n+1) (.lst f (aa l))=true:=by
 rw[tU];exact j7 (λx=>eJ n x) l
def BY(m:List D->O D):Prop:=∀(n:Nat) (W:Int) (p:List Int),eE n W p->n<=12->0<W->W<=9->m [.tup (aa p),.int W]=ok (l8 W (vals W p))
noncomputable def wm:List CS:=[.asg (.nm 2) (.call 34 [(.v 0),(.v 1)]),.ifs (.cmp .eq (.v 2) (.lst [])) [.ret .aL] [],.asg (.nm 3) (.ix (.v 0) (.ix (.v 2) (.int 0))),.asg (.nm 4) (.ix (.v 0) (.ix (.v 2) (.int 1))),.ifs (.cmp .le (.bin .add (.v 3) (.v 4)) (.v 1)) [.ret (.call 2 [(.v 3),(.bin .add (.v 3) (.v 4))])] [],.ret (.call 2 [(.bin .sub (.v 1) (.v 4)),(.bin .sub (.bin .sub (.bin .mul (.int 2) (.v 1)) (.v 3)) (.v 4))])]
variable {A B C:List Int}{W bt:Int}
theorem Tw.d1{a b:Int}{p:List Int}(T:Tw W p A a B b C):kB (aa p) (A.length:Int)=ok (.int a):=by rw[T.eq];exact lx A a _
theorem Tw.d2{a b:Int}{p:List Int}(T:Tw W p A a B b C):kB (aa p) ((A.length+1+B.length:Nat):Int)=ok (.int b):=by
 rw[T.eq];have e:A++a::(B++b::C)=(A++a::B)++b::C:=by simp
 have:=lx (A++a::B) b C;rw[e,show A.length+1+B.length=(A++a::B).length by simp;left];exact this
theorem MH(Φ:ay)(h2:cC (Φ 2))(GW:qP (Φ 34)):BY (mk Φ 2 5 wm):=by
 intro n W p I hn h0 h9;have e1:=GW p W (by have:=I.len;left);by_cases hv:vals W p=[]
 ·rw[fY hv]at e1;rw[hv];have c1:cJ .eq (.lst .al []) (.lst .ow [])=ok (.bl true):=rfl;simp[mk_eq,wm,e1,c1];rfl
 ·obtain⟨A,a,B,b,C,T⟩:=I.two hv;obtain⟨q1,q2,q3,q4⟩:=T.pq;have d1:=T.d1;have d2:=T.d2;rw[T.dy]at e1;rw[T.vals];show _=ok (qD (aU W a b));generalize ((A.length+1+B.length:Nat):Int)=j at *;generalize (A.length:Int)=i at *;generalize hr:dy W (j+1) C=r at *;have c1:cJ .eq (.lst .al (aa (i::j::r))) (.lst .ow [])=ok (.bl false):=by
   rw[BI (Ed 39 _ _) rfl];rfl
  have f1:=h2.1 a (a+b) (by left) (eL (by left));have f2:=λ(h:¬ a+b<=W)=>h2.1 (W - b) (2*W - a - b) (by left) (eL (by left));rw[mk_eq (show[D.tup (aa p),D.int W].length=2 from rfl)];simp only[lu]at e1 c1;unfold aU;by_cases h:a+b<=W
  ·rw[if_pos h];simp[wm,e1,c1,d1,d2,h,f1]
  ·rw[if_neg h];have TM:=f2 h;simp[wm,e1,c1,d1,d2,h,TM]
def BX(m:List D->O D):Prop:=∀(p:List Int) (i j:Nat) (W:Int),i<p.length->j<p.length->i≠j->m [.tup (aa p),.int i,.int j,.int W]=ok (.tup (aa ((p.set i (bS W (p.getD i 0) (p.getD j 0))).set j (bY W (p.getD i 0) (p.getD j 0)))))
noncomputable def zq:List CS:=[.asg (.nm 4) (.bin .add (.ix (.v 0) (.v 1)) (.ix (.v 0) (.v 2))),.asg (.nm 5) (.bf .list1 [(.v 0)]),.setI 5 (.v 1) (.bf .min2 [(.v 4),(.v 3)]),.setI 5 (.v 2) (.bin .sub (.v 4) (.ix (.v 5) (.v 1))),.ret (.bf .tuple1 [(.v 5)])]
theorem gC{p:List Int}{i:Nat}(h:i<p.length):kB (aa p) (i:Int)=ok (.int (p.getD i 0)):=by
 rw[gL (d:=.int (p.getD i 0)) (by rw[jf,List.getElem?_eq_getElem h,Option.map_some,List.getD_eq_getElem?_getD,List.getElem?_eq_getElem h];rfl)];rfl
theorem vH(p:List Int)(i:Nat)(x:Int):(aa p).set i (.int x)=aa (p.set i x):=by unfold aa;rw[List.map_set]
theorem MF(Φ:ay):BX (mk Φ 4 6 zq):=by
 intro p i j W hi hj gi;have d1:=gC hi;have d2:=gC hj;generalize ha:p.getD i 0=a at *;generalize hb:p.getD j 0=b at *;have d3:kB (aa (p.set i (bS W a b))) (i:Int)=ok (.int (bS W a b)):=by
  rw[gC (by simpa using hi)];rw[List.getD_eq_getElem?_getD,List.getElem?_set_self hi];rfl
 have m1:sP .min2 [.int (a+b),.int W]=ok (.int (bS W a b)):=rfl;have x1:=kG (Φ:=Φ) (i:=5) (j:=i) (k:=.v 1) (e:=.bf .min2 [(.v 4),(.v 3)]) (ρ:=[some (.tup (aa p)),some (.int i),some (.int j),some (.int W),some (.int (a+b)),some (.lst .ow (aa p))]) (ρ':=[some (.tup (aa p)),some (.int i),some (.int j),some (.int W),some (.int (a+b)),some (.lst .ow (aa p))]) (d:=.int (bS W a b)) (z:=i) (ds:=aa p) (by simp[m1]) (by simp) rfl (by rw[lp (by left) (by simp;left)];simp);have x2:=kG (Φ:=Φ) (i:=5) (j:=j) (k:=.v 2) (e:=.bin .sub (.v 4) (.ix (.v 5) (.v 1))) (ρ:=[some (.tup (aa p)),some (.int i),some (.int j),some (.int W),some (.int (a+b)),some (.lst .ow (aa (p.set i (bS W a b))))]) (ρ':=[some (.tup (aa p)),some (.int i),some (.int j),some (.int W),some (.int (a+b)),some (.lst .ow (aa (p.set i (bS W a b))))]) (d:=.int (bY W a b)) (z:=j) (ds:=aa (p.set i (bS W a b))) (by simp[d3,bY]) (by simp) rfl (by rw[lp (by left) (by simp;left)];simp);rw[vH]at x1 x2;rw[mk_eq (show[D.tup (aa p),D.int (i:Int),D.int (j:Int),D.int W].length=4 from rfl)];show jV (aT Φ zq [some (.tup (aa p)),some (.int i),some (.int j),some (.int W),none,none])=_;simp only[zq];rw[cc,kI];simp[d1,d2];rw[x1];simp;rw[x2];simp
theorem qc(W a b:Int):bS W b a=bS W a b:=by unfold bS;rw[Int.add_comm b a]
theorem ya(W a b:Int):bY W b a=bY W a b:=by unfold bY;rw[qc,Int.add_comm b a]
noncomputable def ff(f:Fl)(ks:List (List Int))(w:List Int->Int):D:=.aZ f ks (ks.map λk=>.int (w k))
theorem f_(g:Fl->Fl)(f:Fl)(ks:List (List Int))(w:List Int->Int):aw g (ff f ks w)=ff (g f) ks w:=by
 show D.aZ (g f) ks (ag g (ks.map λk=>.int (w k)))=_;rw[bC g (λk=>pY g _)];rfl
theorem iE(g:Fl->Bool)(f:Fl)(ks:List (List Int))(w:List Int->Int):ak g (ff f ks w)=g f:=by
 show(g f||aj g (ks.map λk=>.int (w k)))=_;rw[bD g (λk=>iF g _),Bool.or_false]
theorem yi(h:Φ 1003=cX)(f:Fl)(ks:List (List Int))(w:List Int->Int):Φ 1003 [ff f ks w]=ok (.lst .ow (ks.map λk=>cf k (w k))):=by
 rw[h];show(match intsOf (ks.map λk=>.int (w k))with | some ns=>ok (D.lst .ow (List.zipWith cf ks ns)) | none=>none)=_;have e:(ks.map λk=>D.int (w k))=(ks.map w).map D.int:=by rw[List.map_map];rfl
 rw[e,aR];show ok (D.lst .ow (List.zipWith cf ks (ks.map w)))=_;rw[List.zipWith_map_right,List.zipWith_self]
variable {ks:List (List Int)}{ρ:au}
theorem p8(h:Φ 1003=cX){w:List Int->Int}(hv:aH Φ (.v 0) ρ=ok (ff .fz ks w)):fI Φ (.Cq 1003 [(.v 0)]) ρ=ok (ks.map λk=>cf k (w k),ρ):=by
 show bd (bM Φ [(.v 0)] ρ) _=_;have:bM Φ [(.v 0)] ρ=ok [ff .fz ks w]:=by rw[F0,hv];rfl
 rw[this,b8,yi h,b8];show ok (ag aC (ks.map λk=>cf k (w k)),if aj aQ [ff .fz ks w]then _ else ρ)=_;have e1:ag aC (ks.map λk=>cf k (w k))=ks.map λk=>cf k (w k):=bC aC (λk=>by
  show D.tup [aw aC (bF k),.int (w k)]=_;have:aw aC (bF k)=bF k:=by show D.tup (ag aC (k.map D.int))=_;rw[dg];rfl
  rw[this];rfl) ks
 rw[e1];have e2:aj aQ [ff .fz ks w]=false:=by rw[r_,iE];rfl
 rw[e2];rfl
theorem xk(a:Int):ak anyF (D.int a)=false:=rfl
noncomputable def z_:List CS:=[.asg (.nm 6) (.call 34 [(.v 4),(.v 2)]),.asg (.nm 7) (.call 37 [(.v 4),(.ix (.v 6) (.int 0)),(.ix (.v 6) (.int 1)),(.v 2)]),.asg (.nm 8) (.call 37 [(.v 4),(.ix (.v 6) (.int 1)),(.ix (.v 6) (.int 0)),(.v 2)]),.mut 1033 3 [(.bin .add (.cm 1031 [(.v 3),(.v 7),(.int 0)]) (.bin .mul (.v 5) (.ix (.v 1) (.int 0)))),(.v 7)],.mut 1033 3 [(.bin .add (.cm 1031 [(.v 3),(.v 8),(.int 0)]) (.bin .mul (.v 5) (.bin .sub (.ix (.v 1) (.int 1)) (.ix (.v 1) (.int 0))))),(.v 8)]]
def BN:List CS:=[.asg (.nm 3) (.cm 1030 []),.fr (.tp [4,5]) (.Cq 1003 [(.v 0)]) z_,.ret (.v 3)]
theorem o7(P:uZ Φ)(hl:ks.length<1000)(w:List Int->Int)(c:List Int)(x:Int):Φ 1033 [ff .ow ks w,.int (w c+x),.tup (aa c)]=ok (ff .ow (ax ks c) (bN w c x)):=by
 have:=Ho P (e:=D.int) xk hl w c (w c+x);unfold ff;rw[this];congr 2;refine Vl λk _=>?_;unfold bN;by_cases h:k=c
 ·rw[if_pos h,if_pos h,h]
 ·rw[if_neg h,if_neg h]
theorem tN(Φ:ay)(P:uZ Φ)(GW:qP (Φ 34))(J9:BX (Φ 37)){n:Nat}(hn:n<=12){W:Int}{q:Rat}(hq:Sm 5 q)(w0:List Int->Int)(c0:Option D):∀(ps ks:List (List Int)) (w:List Int->Int) (c4 c5 c6 c7 c8:Option D),ks.length+2*ps.length<900->(∀ k,k∉ks->w k=0)->(∀ p∈ps,eE n W p/\vals W p≠[]) ->
  ∃ OZ Uo Um BJ Ul,eA (λd ρ=>bw (.tp [4,5]) d ρ) (λρ=>aT Φ z_ ρ) (ps.map λp=>cf p (w0 p)) [c0,some (qD q),some (.int W),some (ff .ow ks w),c4,c5,c6,c7,c8]=ok (.nx,[c0,some (qD q),some (.int W),some (ff .ow (po W q.num q.den w0 ps ks w).1 (po W q.num q.den w0 ps ks w).2),OZ,Uo,Um,BJ,Ul])
 | [],ks,w,c4,c5,c6,c7,c8,_,_,_=>⟨c4,c5,c6,c7,c8,rfl⟩
 | p::ps,ks,w,c4,c5,c6,c7,c8,hl,h0,hp=>by
  rw[List.length_cons]at hl;obtain⟨I,hv⟩:=hp p Vb;obtain⟨A,a,B,b,C,T⟩:=I.two hv;have hlen:=I.len;have lA:A.length<p.length:=by rw[T.eq];simp<;>left
  have lB:A.length+1+B.length<p.length:=by rw[T.eq];simp<;>left
  have Q5:=GW p W (by left);rw[T.dy]at Q5;have e1:=J9 p A.length (A.length+1+B.length) W lA lB (by left);have e2:=J9 p (A.length+1+B.length) A.length W lB lA (by left);have hw:hX W p=A++bS W a b::(B++bY W a b::C):=by unfold hX;rw[T.vq]
  have GR:eh W p=A++bY W a b::(B++bS W a b::C):=by unfold eh;rw[T.vq]
  rw[T.LY,T.at2,T.Aj,tx,<- hw]at e1;rw[T.LY,T.at2,qc,ya,T.HK]at e2;have OV:(A++a::(B++bS W a b::C)).set A.length (bY W a b)=eh W p:=by rw[GR];simp[List.set_append]
  rw[OV]at e2;generalize hu:hX W p=u at *;generalize Sr:eh W p=v at *;have kl:=ej ks u;obtain⟨d4,d5,d6,d7,d8,ih⟩:=tN Φ P GW J9 hn hq w0 c0 ps (ax (ax ks u) v) (bN (bN w u (w0 p*q.num)) v (w0 p*((q.den:Int) - q.num))) (some (.tup (aa p))) (some (.int (w0 p))) (some (.lst .ow (aa ((A.length:Int)::((A.length+1+B.length:Nat):Int)::dy W (((A.length+1+B.length:Nat):Int)+1) C)))) (some (.tup (aa u))) (some (.tup (aa v))) (by have:=ej (ax ks u) v;left) (λk hk=>by
   have hz:¬ ((k∈ks\/k=u)\/k=v):=λz=>hk (cw.mpr (z.imp cw.mpr id));unfold bN;rw[if_neg λz=>hz (.inr z),if_neg λz=>hz (.inl (.inr z))];exact h0 k λz=>hz (.inl (.inl z))) λr hr=>hp r (Va _ hr)
  have qn:=hq.1;have qd:=hq.2;have g1:∀ f,Φ 1031 [ff f ks w,.tup (aa u),.int 0]=ok (.int (w u)):=λf=>C9 P (e:=D.int) xk f ks w 0 u (h0 u);have g2:∀ f,Φ 1031 [ff f (ax ks u) (bN w u (w0 p*q.num)),.tup (aa v),.int 0]=ok (.int (bN w u (w0 p*q.num) v)):=λf=>C9 P (e:=D.int) xk f (ax ks u) _ 0 v (λh=>by
   have hz:¬ (v∈ks\/v=u):=λz=>h (cw.mpr z);unfold bN;rw[if_neg λz=>hz (.inr z)];exact h0 v λz=>hz (.inl z))
  have m1:br .mul (.int (w0 p)) (.int q.num)=ok (.int (w0 p*q.num)):=uP (by left);have m2:br .mul (.int (w0 p)) (.int ((q.den:Int) - q.num))=ok (.int (w0 p*((q.den:Int) - q.num))):=uP (by left);have x1:=iW (Φ:=Φ) (p:=1033) (i:=3) (es:=[(.bin .add (.cm 1031 [(.v 3),(.v 7),(.int 0)]) (.bin .mul (.v 5) (.ix (.v 1) (.int 0)))),(.v 7)]) (ρ:=[c0,some (qD q),some (.int W),some (ff .ow ks w),some (.tup (aa p)),some (.int (w0 p)),some (.lst .ow (aa ((A.length:Int)::((A.length+1+B.length:Nat):Int)::dy W (((A.length+1+B.length:Nat):Int)+1) C))),some (.tup (aa u)),some (.tup (aa v))]) (xs:=[.int (w u+w0 p*q.num),.tup (aa u)]) (by simp[f_,g1,m1]) (by simp) rfl (o7 P (by left) w u (w0 p*q.num));have x2:=iW (Φ:=Φ) (p:=1033) (i:=3) (es:=[(.bin .add (.cm 1031 [(.v 3),(.v 8),(.int 0)]) (.bin .mul (.v 5) (.bin .sub (.ix (.v 1) (.int 1)) (.ix (.v 1) (.int 0))))),(.v 8)]) (ρ:=[c0,some (qD q),some (.int W),some (ff .ow (ax ks u) (bN w u (w0 p*q.num))),some (.tup (aa p)),some (.int (w0 p)),some (.lst .ow (aa ((A.length:Int)::((A.length+1+B.length:Nat):Int)::dy W (((A.length+1+B.length:Nat):Int)+1) C))),some (.tup (aa u)),some (.tup (aa v))]) (xs:=[.int (bN w u (w0 p*q.num) v+w0 p*((q.den:Int) - q.num)),.tup (aa v)]) (by simp[f_,g2,m2]) (by simp) rfl (o7 P (by left) _ v (w0 p*((q.den:Int) - q.num)));simp only[List.set]at x1 x2;refine⟨d4,d5,d6,d7,d8,gE (ρ1:=[c0,some (qD q),some (.int W),some (ff .ow ks w),some (.tup (aa p)),some (.int (w0 p)),c6,c7,c8]) ?_ (ρ2:=[c0,some (qD q),some (.int W),some (ff .ow (ax (ax ks u) v) (bN (bN w u (w0 p*q.num)) v (w0 p*((q.den:Int) - q.num)))),some (.tup (aa p)),some (.int (w0 p)),some (.lst .ow (aa ((A.length:Int)::((A.length+1+B.length:Nat):Int)::dy W (((A.length+1+B.length:Nat):Int)+1) C))),some (.tup (aa u)),some (.tup (aa v))]) ?_ ?_⟩
  ·show bw (.tp [4,5]) (.tup [bF p,.int (w0 p)]) _=_;rw[nJ (by show aj bo [D.tup (aa p),.int (w0 p)]=false;simp)];rfl
  ·generalize ((A.length+1+B.length:Nat):Int)=jj at *;generalize (A.length:Int)=ii at *;simp only[z_];rw[cc,kI];simp[Q5,e1,e2];simp only[lu]at x1 x2;rw[x1];simp;rw[x2];simp
  ·rw[po,hu,Sr];exact ih
def BW(m:List D->O D):Prop:=∀(n:Nat) (W:Int) (q:Rat) (ks:List (List Int)) (w:List Int->Int),n<=12->Sm 5 q->ks.length<=100->(∀ p∈ks,eE n W p/\vals W p≠[])->m [ff .fz ks w,qD q,.int W]=ok (ff .ow (po W q.num q.den w ks [] λ_=>0).1 (po W q.num q.den w ks [] λ_=>0).2)
theorem MD(Φ:ay)(P:uZ Φ)(GW:qP (Φ 34))(J9:BX (Φ 37))(hi:Φ 1003=cX):BW (mk Φ 3 9 BN):=by
 intro n W q ks w hn hq hl hp;have e0:Φ 1030 []=ok (ff .ow [] λ_=>0):=by rw[P.mY];rfl
 obtain⟨d4,d5,d6,d7,d8,el⟩:=tN Φ P GW J9 hn hq w (some (ff .fz ks w)) ks [] (λ_=>0) none none none none none (by simp;left) (λ_ _=>rfl) hp;have hit:=p8 (Φ:=Φ) hi (ks:=ks) (w:=w) (ρ:=[some (ff .fz ks w),some (qD q),some (.int W),some (ff .ow [] λ_=>0),none,none,none,none,none]) (by simp[f_]);have hf:=kH (Φ:=Φ) (t:=.tp [4,5]) (b:=z_) hit el;have o1:∀ ks w,ak bo (ff .ow ks w)=true:=λks w=>iE _ _ _ _;have o2:ak aQ (ff .ow [] λ_=>0)=false:=iE _ _ _ _;simp[mk_eq,BN,e0,o2,hf,o1]
noncomputable def Bq:CE:=.comp 2 (.tp [0,1]) [1] (.cm 1002) [(.v 3)] [(.cmp .eq (.v 1) (.v 2))] (.v 0)
def zZ:List CS:=[.mut 1033 2 [(.v 4),(.bf .tuple1 [Bq])]]
def BM:List CS:=[.asg (.nm 2) (.cm 1030 []),.fr (.tp [3,4]) (.Cq 1003 [(.v 0)]) zZ,.ret (.v 2)]
def lD(W:Int)(f:Fl)(ks:List (List Int))(w:List Int->Int):D:=.aZ f (ks.map (aF W 0)) (aa (ks.map w))
theorem AX(g:Fl->Fl)(W:Int)(f:Fl)(ks:List (List Int))(w:List Int->Int):aw g (lD W f ks w)=lD W (g f) ks w:=by
 show D.aZ (g f) _ (ag g (aa (ks.map w)))=_;rw[bI];rfl
theorem uo(g:Fl->Bool)(W:Int)(f:Fl)(ks:List (List Int))(w:List Int->Int):ak g (lD W f ks w)=g f:=by
 show(g f||aj g (aa (ks.map w)))=_;rw[qg,Bool.or_false]
theorem tu(Φ:ay)(P:uZ Φ)(he:Φ 1002=fM){W:Int}(w:List Int->Int)(c0:Option D):∀(ps ds:List (List Int)) (c3 c4:Option D),(∀ p∈ps,p.length<=12)->ds.length+ps.length<=100->((ds++ps).map (aF W 0)).Nodup ->
  ∃ Uq OZ,eA (λd ρ=>bw (.tp [3,4]) d ρ) (λρ=>aT Φ zZ ρ) (ps.map λp=>cf p (w p)) [c0,some (.int W),some (lD W .ow ds w),c3,c4]=ok (.nx,[c0,some (.int W),some (lD W .ow (ds++ps) w),Uq,OZ])
 | [],ds,c3,c4,_,_,_=>⟨c3,c4,by simp[eA]⟩
 | p::ps,ds,c3,c4,hl,hn,hd=>by
  rw[List.length_cons]at hn;have hp:=hl p Vb;have e1:aH Φ Bq [c0,some (.int W),some (lD W .ow ds w),some (.tup (aa p)),some (.int (w p))]=ok (.lst .ow (aa (aF W 0 p))):=by
   unfold Bq;rw[eQ (xs:=[.tup (aa p)]) (items:=(gD 0 p).map rR) (ds:=((gD 0 p).filter λz=>decide (z.2=W)).map λz=>D.int z.1) (by simp) (p9 he p) (cb λz hz=>⟨[some (.int z.1),some (.int z.2),some (.int W)],by simp[ba,rR],by simp,λ_=>by simp⟩) (by
    have:=List.length_filter_le (λz:Int×Int=>decide (z.2=W)) (gD 0 p);rw[lz]at this;rw[List.length_map];exact cW (by left))]
   rw[uh W p 0,bI];rfl
  have Qp:aF W 0 p∉ds.map (aF W 0):=λz=>by
   rw[List.map_append,List.map_cons,List.nodup_append]at hd;exact hd.2.2 _ z _ Vb rfl
  have e2:Φ 1033 [lD W .ow ds w,.int (w p),.tup (aa (aF W 0 p))]=ok (lD W .ow (ds++[p]) w):=by
   have:=F1 P (cs:=ds.map (aF W 0)) (by simp;left) (ds.map w) (aF W 0 p) (w p);unfold lD;rw[this];unfold ax aM;rw[if_neg Qp,if_neg Qp];simp
  obtain⟨d3,d4,ih⟩:=tu Φ P he w c0 ps (ds++[p]) (some (.tup (aa p))) (some (.int (w p))) (λq hq=>hl q (Va _ hq)) (by simp;left) (by simpa using hd);have x1:=iW (Φ:=Φ) (p:=1033) (i:=2) (es:=[(.v 4),(.bf .tuple1 [Bq])]) (ρ:=[c0,some (.int W),some (lD W .ow ds w),some (.tup (aa p)),some (.int (w p))]) (xs:=[.int (w p),.tup (aa (aF W 0 p))]) (by simp[e1]) (by simp) rfl e2;simp only[List.set]at x1;refine⟨d3,d4,gE (ρ1:=[c0,some (.int W),some (lD W .ow ds w),some (.tup (aa p)),some (.int (w p))]) ?_ (ρ2:=[c0,some (.int W),some (lD W .ow (ds++[p]) w),some (.tup (aa p)),some (.int (w p))]) ?_ (by simpa using ih)⟩
  ·show bw (.tp [3,4]) (.tup [bF p,.int (w p)]) _=_;rw[nJ (by show aj bo [D.tup (aa p),.int (w p)]=false;simp)];rfl
  ·rw[zZ,cc,x1];simp
def Gg(m:List D->O D):Prop:=∀(W:Int) (ks:List (List Int)) (w:List Int->Int),(∀ p∈ks,p.length<=12)->ks.length<=100->(ks.map (aF W 0)).Nodup->m [ff .fz ks w,.int W]=ok (lD W .ow ks w)
theorem MC(Φ:ay)(P:uZ Φ)(he:Φ 1002=fM)(hi:Φ 1003=cX):Gg (mk Φ 2 5 BM):=by
 intro W ks w h1 h2 h3;have e0:Φ 1030 []=ok (lD W .ow [] w):=by rw[P.mY];rfl
 obtain⟨d3,d4,el⟩:=tu Φ P he (W:=W) w (some (ff .fz ks w)) ks [] none none h1 (by simpa using h2) (by simpa using h3);have hit:=p8 (Φ:=Φ) hi (ks:=ks) (w:=w) (ρ:=[some (ff .fz ks w),some (.int W),some (lD W .ow [] w),none,none]) (by simp[f_]);have hf:=kH (Φ:=Φ) (t:=.tp [3,4]) (b:=zZ) hit el;have o1:∀ ks w,ak bo (lD W .ow ks w)=true:=λks w=>uo _ _ _ _ _;have o2:ak aQ (lD W .ow [] w)=false:=uo _ _ _ _ _;simp[mk_eq,BM,e0,o2,hf,o1]
noncomputable def yX:CE:=.comp 1 (.nm 0) [1,2] .seq [(.cm 1035 [(.v 1)])] [(.cmp .gt (.cm 1032 [(.v 1),(.v 0)]) (.int 0))] (.tup [(.call 2 [(.cm 1032 [(.v 1),(.v 0)]),(.v 2)]),(.v 0)])
def uR:List CS:=[.ret (.tup [(.v 0),yX])]
def sj(cs:List (List Int))(ws:List Int)(b:Int):List Row:=((aG cs).filter λc=>decide (0<bh cs ws c)).map λc=>(Rat.divInt (bh cs ws c) b,c)
def zx(m:List D->O D):Prop:=∀ f (n:Int) (cs:List (List Int)) (ws:List Int) (b:Int),cs.length=ws.length->cs.length<64->b≠0->b.natAbs<2 ^ 9000->m [.int n,.aZ f cs (aa ws),.int b]=ok (.tup [.int n,.lst .ow (i_ (sj cs ws b))])
theorem HS(Φ:ay)(P:uZ Φ)(h2:cC (Φ 2)):zx (mk Φ 3 3 uR):=by
 intro f n cs ws b hl wD hb um;have hp:(aG cs).Perm cs:=Vy _ _;have e1:aH Φ yX [some (.int n),some (.aZ f cs (aa ws)),some (.int b)]=ok (.lst .ow (i_ (sj cs ws b))):=by
  unfold yX;rw[eQ (xs:=[.lst .ow ((aG cs).map bF)]) (items:=(aG cs).map bF) (ds:=i_ (sj cs ws b)) (by simp[B7 P _ _ wD]) (by rw[iD,dD]) ?_ (by
   have:=List.length_filter_le (λc=>decide (0<bh cs ws c)) (aG cs);have oV:=hp.length_eq;rw[tG];unfold sj;rw[List.length_map];exact cW (by left))]
  ·rw[pW]
  ·unfold i_ sj;rw[List.map_map];refine cb λc hc=>?_;have wC:c∈cs:=hp.mem_iff.mp hc;have d1:=λf=>Kt P f hl wC;have f1:=h2.1 (bh cs ws c) b hb um;have m1:aw bu (bF c)=.tup (aa c):=by show D.tup (ag bu (c.map D.int))=_;rw[dg];rfl
   refine⟨[some (bF c),some (.aZ (aC f) cs (aa ws)),some (.int b)],by simp[ba],by simp[m1,d1],λ_=>?_⟩;simp[m1,d1,f1];rfl
 simp[mk_eq,uR,e1]
theorem EO{a b:Int}(h:b.natAbs<2 ^ 64):ly [.int a,.int b]=ok (.int (a*b)):=VA (tW a h)
noncomputable def lv(u:Nat):Nat:=2 ^ (u - 1)
noncomputable def wL:CS:=.zL (.cmp .nV (.v 5) .aL) [.asg (.nm 3) (.call 36 [(.v 3),(.v 5),(.v 1)]),.mut 1010 4 [(.ix (.v 5) (.int 1))],.asg (.nm 5) (.call 35 [(.ix (.cm 1037 [(.v 3)]) (.int 0)),(.v 1)])]
def BO:List CS:=[.ex (.call 26 [(.v 0)]),.asg (.nm 1) (.call 9 [(.v 0)]),.asg (.nm 2) (.bf .tuple1 [(.call 10 [(.v 0),(.v 1)])]),.asg (.nm 3) (.cm 1034 [(.v 2),(.int 1)]),.asg (.nm 4) (.int 1),.asg (.nm 5) (.call 35 [(.v 2),(.v 1)]),wL,.ret (.call 18 [(.bf .len [(.v 0)]),(.call 38 [(.v 3),(.v 1)]),(.v 4)])]
structure Pg(n:Nat)(W:Int)(p0 v:List Int)(ks:List (List Int))(w:List Int->Int)(bt:Int):Prop where
 wy:Wy n W v ks w
 ne:ks≠[]
 m8:ks.length*lv v.length<=32
 b1:1<=bt
 b2:bt*32 ^ v.length<=2 ^ 60
 vl:v.length<=12
 ma:∀ l,dz ks (cq w) (λp=>Pr W 12 p l)=(bt:Rat)*Pr W 12 p0 l
theorem Pg.next{n:Nat}{p0 v:List Int}{w:List Int->Int}(I:Pg n W p0 v ks w bt)(hW:W<=9)(hv:v≠[]):∃ a b r,v=a::b::r/\Sm 5 (aU W a b)/\(nv W v).length<v.length/\Pg n W p0 (nv W v) (po W (aU W a b).num (aU W a b).den w ks [] λ_=>0).1 (po W (aU W a b).num (aU W a b).den w ks [] λ_=>0).2 (bt*(aU W a b).den):=by
 obtain⟨a,b,r,ev,q1,q2,q3,q4,g1,g2,g3,g4⟩:=I.wy.step hW hv I.ne;obtain⟨_,_,sm⟩:=lV q1 q2 q3 q4 hW;have UZ:=(aU W a b).den_pos;have hd2:=sm.2;have Lz:=nU W a b r;have vI:v.length=r.length+2:=by rw[ev];rfl
 refine⟨a,b,r,ev,sm,by rw[ev]at *;simp only[List.length_cons]at *;left,g1,g2,?_,?_,?_,?_,λl=>?_⟩
 ·have f:=I.m8;have e1:lv v.length=2*2 ^ r.length:=by unfold lv;rw[vI,show r.length+2 - 1=r.length+1 by left,Nat.pow_succ,Nat.mul_comm]
  have e2:lv (nv W v).length<=2 ^ r.length:=by
   unfold lv;refine Vh (by decide) ?_;rw[ev];left
  rw[e1]at f;refine Vp (Nat.mul_le_mul g3 e2) ?_;rw[Nat.mul_comm 2,Nat.mul_assoc];exact f
 ·have:=WE I.b1 (show(1:Int)<=((aU W a b).den:Int) by left) (by decide) (by have:=I.b1;left);left
 ·have b1:=I.b1;have b2:=I.b2;have e1:(32:Int) ^ (nv W v).length<=32 ^ (r.length+1):=by
   have:32 ^ (nv W v).length<=32 ^ (r.length+1):=Vh (by decide) (by rw[ev];exact Lz)
   exact_mod_cast this
  rw[vI,Int.pow_succ]at b2;have h1:bt*((aU W a b).den:Int)<=bt*32:=Int.mul_le_mul_of_nonneg_left (by left) (by left);have h2:bt*((aU W a b).den:Int)*32 ^ (nv W v).length<=(bt*32)*32 ^ (r.length+1):=WE h1 e1 (Int.le_of_lt (Int.pow_pos (by decide))) (by left);refine Int.le_trans h2 ?_;rw[Int.mul_assoc,Int.mul_comm 32];exact b2
 ·have:=I.vl;rw[vI]at this;rw[ev];left
 ·rw[g4 l 12 I.vl,I.ma l,Rat.intCast_mul,Rat.intCast_natCast];grind
theorem AH(Φ:ay)(LH:BY (Φ 35))(Oq:BW (Φ 36))(hl:Φ 1037=lP)(hm:Φ 1010=ly){n:Nat}(hn:n<=12)(h0:0<W)(h9:W<=9){p0:List Int}(c0 c2:Option D):∀(k:Nat) (v:List Int) (ks:List (List Int)) (w:List Int->Int) (bt:Int),v.length<=k->Pg n W p0 v ks w bt ->
  ∃ wt w' LU,jL Φ wL [c0,some (.int W),c2,some (ff .ow ks w),some (.int bt),some (l8 W v)]=ok (.nx,[c0,some (.int W),c2,some (ff .ow wt w'),some (.int LU),some .aL])/\Pg n W p0 [] wt w' LU:=by
 intro k;induction k with
 | zero =>
  intro v ks w bt hk I;obtain rfl:v=[]:=List.length_eq_zero_iff.mp (by left);refine⟨ks,w,bt,?_,I⟩;rw[wL,fc];refine bH ?_;have:cJ .nV .aL .aL=ok (.bl false):=rfl;simp[l8,this]
 | succ k ih =>
  intro v ks w bt hk I;by_cases hv:v=[]
  ·subst hv;refine⟨ks,w,bt,?_,I⟩;rw[wL,fc];refine bH ?_;have:cJ .nV .aL .aL=ok (.bl false):=rfl;simp[l8,this]
  ·obtain⟨a,b,r,ev,sm,fi,J⟩:=I.next h9 hv;have hb:=I.m8;have SR:1<=lv v.length:=Nat.one_le_two_pow;have N6:ks.length<=32:=Vp (Nat.le_mul_of_pos_right _ SR) hb;have T_:=Oq n W (aU W a b) ks w hn sm (by left) λp hp=>⟨I.wy.ok p hp,by rw[I.wy.vs p hp];exact hv⟩
   generalize hK:(po W (aU W a b).num (aU W a b).den w ks [] λ_=>0).1=K at *;generalize UR:(po W (aU W a b).num (aU W a b).den w ks [] λ_=>0).2=w' at *;obtain⟨wt,Rn,LU,e,J'⟩:=ih (nv W v) K w' _ (by left) J;refine⟨wt,Rn,LU,?_,J'⟩;rw[wL,fc]at e ⊢;rw[<- e];refine eF ?_;obtain⟨p1,K',hKe⟩:∃ p1 K',K=p1::K':=by
    cases K with
    | nil=>exact absurd rfl J.ne
    | cons x y=>exact⟨x,y,rfl⟩
   have Ql:p1∈K:=by rw[hKe];exact Vb
   have LR:=LH n W p1 (J.wy.ok p1 Ql) hn h0 h9;rw[J.wy.vs p1 Ql]at LR;have d1:∀ f,Φ 1037 [ff f K w']=ok (.lst .ow (K.map bF)):=λf=>by rw[hl];rfl
   have d2:kB (K.map bF) 0=ok (.tup (aa p1)):=by
    rw[hKe,List.map_cons,O4];show ok (D.tup (ag bu (p1.map D.int)))=_;rw[dg];rfl
   have c1:cJ .nV (l8 W v) .aL=ok (.bl true):=by rw[ev];rfl
   have m1:aw bu (l8 W v)=l8 W v:=by rw[ev];simp[l8]
   have m2:aw aC (l8 W v)=l8 W v:=by rw[ev];simp[l8]
   have m3:aw jT (l8 W (nv W v))=l8 W (nv W v):=by unfold l8;split<;>simp
   have m4:ak aQ (l8 W (nv W v))=false:=by unfold l8;split<;>simp
   have fe:l8 W v=qD (aU W a b):=by rw[ev];rfl
   have o2:ak aQ (ff .ow K w')=false:=iE _ _ _ _;have hd2:=sm.2;have x1:=iW (Φ:=Φ) (p:=1010) (i:=4) (es:=[(.ix (.v 5) (.int 1))]) (ρ:=[c0,some (.int W),c2,some (ff .ow K w'),some (.int bt),some (qD (aU W a b))]) (xs:=[.int (aU W a b).den]) (d':=.int (bt*(aU W a b).den)) (by simp) (by simp) rfl (by rw[hm];exact EO (by left));simp only[List.set]at x1;rw[fe]at c1 m1 m2 ⊢;simp[c1,m1,m2,f_,T_,o2,x1,d1,d2,LR,m3,m4]
def G9(W:Int)(p0:List Int)(rs:List Row):Prop:=∃ ls:List (List Int),ls.Nodup/\(∀ l,l∈ls ↔ 0<Pr W 12 p0 l)/\rs=(aG ls).map λl=>(Pr W 12 p0 l,l)
theorem G9.one{p0:List Int}{rs hJ:List Row}(h:G9 W p0 rs)(h':G9 W p0 hJ):rs=hJ:=by
 obtain⟨ls,n1,m1,rfl⟩:=h;obtain⟨PR,n2,m2,rfl⟩:=h';have hp:ls.Perm PR:=(List.perm_ext_iff_of_nodup n1 n2).mpr λl=>(m1 l).trans (m2 l).symm;have e:aG ls=aG PR:=pv n2 (gz n1) ((Vy _ _).trans hp);rw[e]
theorem jc(k:List Int)(ks:List (List Int))(w F:List Int->Rat):dz (k::ks) w F=w k*F k+dz ks w F:=by
 unfold dz;rw[List.map_cons,List.sum_cons]
theorem ue{x y:List Int}(h:x=y):ind x y=1:=VA h
theorem n8{x y:List Int}(h:¬ x=y):ind x y=0:=V1 h
theorem x6{W:Int}(w:List Int->Int){l:List Int}:∀ ks:List (List Int),l∉ks.map (aF W 0)->dz ks (cq w) (λp=>ind (aF W 0 p) l)=0
 | [],_=>rfl
 | k::ks,h=>by
  have ih:=x6 w ks λz=>h (Va _ z);rw[jc,ih,n8 λz=>h (by rw[<- z];exact List.mem_cons_self)];grind
theorem mZ{W:Int}(w:List Int->Int)(l:List Int):∀ ks:List (List Int),(ks.map (aF W 0)).Nodup->((bh (ks.map (aF W 0)) (ks.map w) l:Int):Rat)=dz ks (cq w) (λp=>ind (aF W 0 p) l)
 | [],_=>rfl
 | k::ks,h=>by
  rw[List.map_cons]at h;obtain⟨h1,h2⟩:=List.nodup_cons.mp h;have ih:=mZ w l ks h2;have e:bh ((k::ks).map (aF W 0)) ((k::ks).map w) l=if aF W 0 k=l then w k else bh (ks.map (aF W 0)) (ks.map w) l:=by
   unfold bh;show(if aF W 0 k=l then some (w k)else aS (ks.map (aF W 0)) (ks.map w) l).getD 0=_;split<;>rfl
  rw[e];by_cases hl:aF W 0 k=l
  ·rw[if_pos hl];have m0:=x6 w (l:=l) ks (by rw[<- hl];exact h1);rw[jc,m0,ue hl];unfold cq;grind
  ·rw[if_neg hl,ih,jc,n8 hl];grind
theorem rK{w F G:List Int->Rat}(h:∀ k∈ks,F k=G k):dz ks w F=dz ks w G:=by
 unfold dz;congr 1;exact Vl λk hk=>by rw[h k hk]
theorem Pg.Uc{n:Nat}(h0:0<W){p0:List Int}{w:List Int->Int}(I:Pg n W p0 [] ks w bt):(ks.map (aF W 0)).Nodup/\G9 W p0 (sj (ks.map (aF W 0)) (ks.map w) bt):=by
 have nd:(ks.map (aF W 0)).Nodup:=by
  unfold List.Nodup;rw[List.pairwise_map];refine I.wy.tb.nd.imp_of_mem λ{a b} ha hb rY z=>rY ?_;exact pZ h0 ((I.wy.ok a ha).len.trans (I.wy.ok b hb).len.symm) (I.wy.vs a ha) (I.wy.vs b hb) (λx hx=>⟨(I.wy.ok a ha).lo x hx,(I.wy.ok a ha).hi x hx⟩) (λx hx=>⟨(I.wy.ok b hb).lo x hx,(I.wy.ok b hb).hi x hx⟩) z
 have key:∀ l,((bh (ks.map (aF W 0)) (ks.map w) l:Int):Rat)=(bt:Rat)*Pr W 12 p0 l:=λl=>by
  rw[mZ w l ks nd,<- I.ma l];exact rK λk hk=>by rw[jq (I.wy.vs k hk)]
 have hb:(0:Rat)<(bt:Rat):=by have:=Vx (a:=0) (b:=bt);have b1:=I.b1;simpa using this.mpr (by left)
 have pos:∀ l∈ks.map (aF W 0),1<=bh (ks.map (aF W 0)) (ks.map w) l:=λl hl=>by
  obtain⟨x,e,m⟩:=iH (ws:=ks.map w) (by simp) hl;unfold bh;rw[e];obtain⟨k,hk,rfl⟩:=List.mem_map.mp m;exact I.wy.tb.Js k hk
 refine⟨nd,ks.map (aF W 0),nd,λl=>⟨λh=>?_,λh=>?_⟩,?_⟩
 ·have h1:=pos l h;have h2:(0:Rat)<((bh (ks.map (aF W 0)) (ks.map w) l:Int):Rat):=by have:=Vx (a:=0) (b:=bh (ks.map (aF W 0)) (ks.map w) l);simpa using this.mpr (by left)
  have e:Pr W 12 p0 l=((bh (ks.map (aF W 0)) (ks.map w) l:Int):Rat)*(bt:Rat)⁻¹:=by
   rw[key l,Rat.mul_comm (bt:Rat),Rat.mul_assoc,Rat.mul_inv_cancel _ (Rat.ne_of_gt hb),Rat.mul_one]
  rw[e];exact WG h2 (Rat.inv_pos.mpr hb)
 ·by_cases z:l∈ks.map (aF W 0)
  ·exact z
  ·have:bh (ks.map (aF W 0)) (ks.map w) l=0:=by unfold bh;rw[iG _ z];rfl
   have k:=key l;rw[this]at k;have:=WG hb h;rw[<- k]at this;exact absurd this (by simp)
 ·unfold sj;have hp:(aG (ks.map (aF W 0))).Perm (ks.map (aF W 0)):=Vy _ _;rw[List.filter_eq_self.mpr λl hl=>decide_eq_true (by have:=pos l (hp.mem_iff.mp hl);left)];refine Vl λl _=>?_;rw[Rat.divInt_eq_div,key l,Rat.mul_comm];rw[Rat.mul_div_cancel (Rat.ne_of_gt hb)]
theorem wZ{b:Nat}(hb:0<b){q:Rat}(hd:q.den∣b)(h0:0<=q)(h1:q<=1):0<=fq b q/\fq b q<=(b:Int):=by
 obtain⟨k,rfl⟩:=hd;have e:(((q.den*k:Nat):Int)).fdiv q.den=(k:Int):=by
  rw[Int.natCast_mul,Int.mul_comm];exact Int.mul_fdiv_cancel _ (gA q)
 unfold fq;rw[e];have n0:=xS h0;have n1:=rH h1;refine⟨WS n0 (by left),?_⟩;rw[Int.natCast_mul];exact VW n1 (by left)
variable {qs:List Rat}
theorem qT.bot{m B:Nat}(I:qT m qs B)(hm:m<=12):0<bx qs/\bx qs<=9/\∀ q∈qs,q.den∣bx qs:=by
 obtain⟨a,_,c⟩:=(I.Du hm).lcm;have:bx qs∣B:=iA qs 1 (Nat.one_dvd _) I.qd;exact⟨a,Vp (V2 (by have:=I.b1;left) this) I.b2,c⟩
def pO(qs:List Rat):List Int:=qs.map (fq (bx qs))
theorem qT.p0{m B:Nat}(I:qT m qs B)(hm:m<=12):eE qs.length (bx qs) (pO qs):=by
 obtain⟨a,b,c⟩:=I.bot hm;obtain⟨s,hs⟩:=I.su;refine⟨by simp[pO],λx hx=>?_,λx hx=>?_,s,o9 c hs⟩
 ·obtain⟨q,hq,rfl⟩:=List.mem_map.mp hx;exact(wZ a (c q hq) (I.q0 q hq) (I.q1 q hq)).1
 ·obtain⟨q,hq,rfl⟩:=List.mem_map.mp hx;exact(wZ a (c q hq) (I.q0 q hq) (I.q1 q hq)).2
def Gh(m:List D->O D):Prop:=∀ f qs B,qT 6 qs B->∃ rs,m [.lst f (aN qs)]=ok (.tup [.int qs.length,.lst .ow (i_ rs)])/\G9 (bx qs) (pO qs) rs
theorem ME(Φ:ay)(h9:bZ (Φ 9))(Fs:dG (Φ 10))(TJ:zx (Φ 18))(TB:zy (Φ 26))(LH:BY (Φ 35))(Oq:BW (Φ 36))(Tx:Gg (Φ 38))(SM:Φ 1034=ji)(hl:Φ 1037=lP)(hm:Φ 1010=ly):Gh (mk Φ 1 6 BO):=by
 intro f qs B I;have L8:=I.le (k:=12) (by decide);have hs:=L8.Du (Vc _);obtain⟨a1,a2,a3⟩:=L8.bot (Vc _);have P0:=L8.p0 (Vc _);have Ua:=λf=>TB f qs B L8;have e9:=λf=>h9 f qs 4 hs;have OW:∀ f,Φ 10 [.lst f (aN qs),.int (bx qs)]=ok (.lst .ow (aa (pO qs))):=λf=>Fs f qs 4 (bx qs) hs hs.Jh;have SD:qs.length<=6:=I.n2;have LR:=LH qs.length (bx qs) (pO qs) P0 (by left) (by left) (by left);generalize pO qs=p0 at *;generalize bx qs=b at *;have vI:(vals (b:Int) p0).length<=6:=Vp (List.length_filter_le _ _) (by have:=P0.len;left);have T0:Tb (0:Int) (λx=>1<=x) [p0] (λk=>if k=p0 then 1 else 0):=⟨by simp,λk hk=>V1 λz=>hk (by rw[z];exact Vb),λk hk=>by rw[List.mem_singleton.mp hk];simp⟩
 have J:Pg qs.length (b:Int) p0 (vals (b:Int) p0) [p0] (λk=>if k=p0 then 1 else 0) 1:=by
  refine⟨⟨T0,λp hp=>by rw[List.mem_singleton.mp hp];exact P0,λp hp=>by rw[List.mem_singleton.mp hp]⟩,by simp,?_,by decide,?_,by left,λl=>?_⟩
  ·show 1*lv _<=32;unfold lv;rw[Nat.one_mul];exact Vp (Vh (by decide) (show _<=5 by left)) (by decide)
  ·have:32 ^ (vals (b:Int) p0).length<=32 ^ 6:=Vh (by decide) vI;have h':(32:Int) ^ (vals (b:Int) p0).length<=32 ^ 6:=by exact_mod_cast this
   rw[Int.one_mul];exact Int.le_trans h' (by decide)
  ·unfold dz cq;simp[Rat.add_zero]
 obtain⟨ks,w,bt,ew,K⟩:=AH Φ LH Oq hl hm (n:=qs.length) (W:=(b:Int)) (by left) (by left) (by left) (p0:=p0) (some (.lst f (aN qs))) (some (.tup (aa p0))) 12 _ _ _ _ (by left) J;obtain⟨nd,Ob⟩:=K.Uc (by left);have N6:ks.length<=32:=by have:=K.m8;simpa [lv]using this
 have T9:=Tx (b:Int) ks w (λp hp=>by have:=(K.wy.ok p hp).len;left) (by left) nd;have b1:=K.b1;have b2:=K.b2;simp only[List.length_nil,Int.pow_zero,Int.mul_one]at b2;have Ub:=λf=>TJ f qs.length (ks.map (aF b 0)) (ks.map w) bt (by simp) (by simp;left) (by left) (eL (by left));refine⟨_,?_,Ob⟩;have n1:Φ 1034 [.tup (aa p0),.int 1]=ok (ff .ow [p0] λk=>if k=p0 then 1 else 0):=by
  rw[SM];show(match intsOf (p0.map D.int)with | some c=>if ak anyF (D.int 1)=false then ok (D.aZ .ow [c] [.int 1])else none | none=>none)=_;rw[aR];show ok (D.aZ .ow [p0] [.int 1])=_;unfold ff;simp
 have o2:∀ w,ak aQ (ff .ow [p0] w)=false:=λw=>iE _ _ _ _;have m3:aw jT (l8 (b:Int) (vals b p0))=l8 b (vals b p0):=by unfold l8;split<;>simp
 have m4:ak aQ (l8 (b:Int) (vals b p0))=false:=by unfold l8;split<;>simp
 have Ks:=Ub .fz;have l1:∀ g,aw g (lD (b:Int) .ow ks w)=lD (b:Int) (g .ow) ks w:=λg=>AX _ _ _ _ _;have l2:∀ f,D.aZ f (ks.map (aF b 0)) (aa (ks.map w))=lD (b:Int) f ks w:=λ_=>rfl;rw[l2]at Ks;simp[mk_eq,BO,Ua,e9,OW,n1,o2,LR,m3,m4,ew,f_,T9,l1,Ks]
noncomputable def qW(W x:Int):Rat:=Rat.divInt x W
noncomputable def toQ(W:Int)(p:List Int):List Rat:=p.map (qW W)
@[simp] theorem KZ(W:Int)(p:List Int):(toQ W p).length=p.length:=V7 ..
theorem zY(W:Int)(p:List Int)(i:Nat)(x:Int):(toQ W p).set i (qW W x)=toQ W (p.set i x):=by unfold toQ;rw[List.map_set]
theorem kP(W:Int){p:List Int}{i:Nat}(h:i<p.length):kB (aN (toQ W p)) (i:Int)=ok (qD (qW W (p.getD i 0))):=by
 rw[gL (d:=qD (qW W (p.getD i 0))) (by rw[Ay];unfold toQ;rw[List.getElem?_map,List.getElem?_eq_getElem h,List.getD_eq_getElem?_getD,List.getElem?_eq_getElem h];rfl),rM]
section
variable {W:Int}(h0:0<W)
include h0
theorem qN:(0:Rat)<(W:Rat):=by have:=Vx (a:=0) (b:=W);simpa using this.mpr h0
theorem Cn(x:Int):qW W x*(W:Rat)=(x:Rat):=by
 unfold qW;rw[Rat.divInt_eq_div,Rat.div_mul_cancel (Rat.ne_of_gt (qN h0))]
theorem rC{x y:Int}(h:qW W x=qW W y):x=y:=by
 have h1:=Cn h0 x;have h2:=Cn h0 y;rw[h,h2]at h1;exact(Rat.intCast_inj.mp h1).symm
theorem xw:qW W 0=0:=by unfold qW;simp
theorem rE:qW W W=1:=by
 unfold qW;rw[Rat.divInt_eq_div,Rat.div_def,Rat.mul_inv_cancel _ (Rat.ne_of_gt (qN h0))]
theorem xu(x y:Int):qW W x+qW W y=qW W (x+y):=by
 unfold qW;rw[Rat.divInt_eq_div,Rat.divInt_eq_div,Rat.divInt_eq_div,Rat.intCast_add];grind
theorem rB(x y:Int):qW W x - qW W y=qW W (x - y):=by
 unfold qW;rw[Rat.divInt_eq_div,Rat.divInt_eq_div,Rat.divInt_eq_div,Rat.intCast_sub];grind
theorem xr{x:Int}:(qW W x).num=0 ↔ x=0:=by
 constructor
 ·intro h;refine rC h0 ?_;rw[xw h0];by_cases z:qW W x=0
  ·exact z
  ·exact absurd h (xq z)
 ·rintro rfl;rw[xw h0];rfl
theorem MU{x:Int}:qW W x=0 ↔ x=0:=⟨λh=>rC h0 (h.trans (xw h0).symm),λh=>by rw[h,xw h0]⟩
theorem Ic{x:Int}:qW W x=1 ↔ x=W:=⟨λh=>rC h0 (h.trans (rE h0).symm),λh=>by rw[h,rE h0]⟩
theorem Ib{x:Int}:(1:Rat)<qW W x ↔ W<x:=by
 rw[<- rE h0];have e:∀ x y:Int,x<y->qW W x<qW W y:=λx y h=>by
  unfold qW;rw[Rat.divInt_eq_div,Rat.divInt_eq_div,Rat.div_def,Rat.div_def];exact VZ (Rat.intCast_lt_intCast.mpr h) (Rat.inv_pos.mpr (qN h0))
 constructor
 ·intro h;by_cases z:W<x
  ·exact z
  ·rcases Int.lt_or_eq_of_le (show x<=W by left)with h' | h'
   ·have:=e _ _ h';grind
   ·rw[h']at h;grind
 ·exact e _ _
theorem xt{x y:Int}(hy:y≠0):qW W x*(qW W y)⁻¹=Rat.divInt x y:=by
 unfold qW;have h1:(W:Rat)≠0:=Rat.ne_of_gt (qN h0);have h2:(y:Rat)≠0:=λz=>hy (Rat.intCast_inj.mp (z.trans rfl));rw[Rat.divInt_eq_div,Rat.divInt_eq_div,Rat.divInt_eq_div];grind
end
theorem mG{x:Int}(h0:0<W)(h9:W<=9)(h1:-100<=x)(h2:x<=100):Sm 8 (qW W x):=kT (by left) (by show _<256;left) (by show _<256;left)
theorem zj{a b:Int}(h1:0<a)(h2:a<W)(h3:0<b)(h4:b<W)(hW:W<=9):0<1 - aU W a b/\Sm 5 (1 - aU W a b):=by
 obtain⟨_,c1,_⟩:=lV h1 h2 h3 h4 hW;refine⟨by grind,?_⟩;unfold aU;have e:∀ x y:Int,y≠0->1 - Rat.divInt x y=Rat.divInt (y - x) y:=λx y hy=>by
  have h2:(y:Rat)≠0:=λz=>hy (Rat.intCast_inj.mp (z.trans rfl));rw[Rat.divInt_eq_div,Rat.divInt_eq_div,Rat.intCast_sub];grind
 split
 ·rw[e _ _ (by left)];exact kT (by left) (by show _<32;left) (by show _<32;left)
 ·rw[e _ _ (by left)];exact kT (by left) (by show _<32;left) (by show _<32;left)
noncomputable def sel(P:Int->Bool):Int->List Int->List Int
 | _,[]=>[]
 | j,x::p=>if P x then j::sel P (j+1) p else sel P (j+1) p
theorem tE(W:Int):∀(p:List Int) (j:Int),sel (gh W) j p=dy W j p
 | [],_=>rfl
 | x::p,j=>by rw[sel,dy,tE W p]
theorem tF(W:Int):∀(p:List Int) (j:Int),sel (λx=>decide (x=W)) j p=aF W j p
 | [],_=>rfl
 | x::p,j=>by
  rw[sel,aF,tF W p];by_cases h:x=W<;>simp[h]
theorem mJ(P:Int->Bool):∀(p:List Int) (j:Nat),((List.range' j p.length).filter λk=>P (p.getD (k - j) 0)).map (λ(k:Nat)=>D.int (k:Int))=aa (sel P j p)
 | [],_=>rfl
 | x::p,j=>by
  have ih:=mJ P p (j+1);have e:((j+1:Nat):Int)=(j:Int)+1:=by left
  rw[e]at ih;have hf:((List.range' (j+1) p.length).filter λk=>P ((x::p).getD (k - j) 0))=(List.range' (j+1) p.length).filter λk=>P (p.getD (k - (j+1)) 0):=List.filter_congr λk hk=>by
   have:=(List.mem_range'_1.mp hk).1;obtain⟨m,rfl⟩:∃ m,k=j+1+m:=⟨k - (j+1),by left⟩
   rw[show j+1+m - j=m+1 by left,show j+1+m - (j+1)=m by left,List.getD_cons_succ]
  rw[List.length_cons,List.range'_succ,List.filter_cons,hf,sel,Nat.sub_self,List.getD_cons_zero];by_cases h:P x=true
  ·rw[if_pos h,if_pos h,List.map_cons,ih];rfl
  ·rw[if_neg h,if_neg h,ih]
theorem kW(P:Int->Bool)(p:List Int):((List.range p.length).filter λk=>P (p.getD k 0)).map (λ(k:Nat)=>D.int (k:Int))=aa (sel P 0 p):=by
 have:=mJ P p 0;rw[List.range_eq_range'];simpa using this
noncomputable def qp:CE:=.comp 1 (.nm 0) [4] .k8 [(.bf .len [(.v 4)])] [(.and [(.cmp .ne (.ix (.ix (.v 1) (.v 0)) (.int 0)) (.int 0)),(.cmp .ne (.ix (.v 1) (.v 0)) (.tup [(.int 1),(.int 1)]))])] (.v 0)
noncomputable def yW:CE:=.comp 1 (.nm 0) [4] .k8 [(.bf .len [(.v 4)])] [(.cmp .eq (.ix (.v 1) (.v 0)) (.tup [(.int 1),(.int 1)]))] (.v 0)
theorem mR:D.tup [.int 1,.int 1]=qD 1:=rfl
theorem Cv:D.tup [.int 0,.int 1]=qD 0:=rfl
theorem Hk:D.tup [.int 2,.int 1]=qD 2:=rfl
theorem Nc(p q:Rat):cJ .ne (qD p) (qD q)=ok (.bl (!decide (p=q))):=by rw[BH (mS 39 p) (mS 39 q),uC]
theorem OM(p q:Rat):cJ .eq (qD p) (qD q)=ok (.bl (decide (p=q))):=by rw[BI (mS 39 p) (mS 39 q),uC]
theorem Et(Φ:ay){n:Nat}{p:List Int}(I:eE n W p)(hn:n<=12)(h0:0<W)(a b c d:Option D)(r:au):aH Φ qp (a::b::c::d::some (.tup (aN (toQ W p)))::r)=ok (.lst .ow (aa (dy W 0 p))):=by
 have hl:=I.len;unfold qp;rw[eQ (xs:=[.int p.length]) (ds:=((List.range p.length).filter λk=>gh W (p.getD k 0)).map λ(k:Nat)=>D.int (k:Int)) (by simp) (t_ Φ (by left) (by left)) ?_ (by
  have:=List.length_filter_le (λk=>gh W (p.getD k 0)) (List.range p.length);rw[List.length_range]at this;rw[List.length_map];exact cW (by left))]
 ·rw[kW,tE,bI]
 ·rw[Int.toNat_natCast];refine cb λk hk=>⟨[some (.int k),some (.tup (aN (toQ W p)))],by simp[ba],?_,λ_=>by simp⟩
  have CF:k<p.length:=List.mem_range.mp hk;have d1:=kP W CF;have hx:p.getD k 0∈p:=by rw[List.getD_eq_getElem?_getD,List.getElem?_eq_getElem CF];exact Wm CF
  have lo:=I.lo _ hx;have hi:=I.hi _ hx;generalize p.getD k 0=x at *;have e:(!decide (qW W x=0)&&!decide (qW W x=1))=gh W x:=by
   rw[show decide (qW W x=0)=decide (x=0) from decide_eq_decide.mpr (MU h0),show decide (qW W x=1)=decide (x=W) from decide_eq_decide.mpr (Ic h0)];unfold gh;by_cases z1:x=0
   ·simp[z1]
   ·by_cases z2:x=W
    ·simp[z2]
    ·have:0<x/\x<W:=by left
     simp[z1,z2,this.1,this.2]
  simp[d1,mR,Nc,e]
theorem Es(Φ:ay){n:Nat}{p:List Int}(I:eE n W p)(hn:n<=12)(h0:0<W)(a b c d:Option D)(r:au):aH Φ yW (a::b::c::d::some (.tup (aN (toQ W p)))::r)=ok (.lst .ow (aa (aF W 0 p))):=by
 have hl:=I.len;unfold yW;rw[eQ (xs:=[.int p.length]) (ds:=((List.range p.length).filter λk=>decide (p.getD k 0=W)).map λ(k:Nat)=>D.int (k:Int)) (by simp) (t_ Φ (by left) (by left)) ?_ (by
  have:=List.length_filter_le (λk=>decide (p.getD k 0=W)) (List.range p.length);rw[List.length_range]at this;rw[List.length_map];exact cW (by left))]
 ·rw[kW (λx=>decide (x=W)),tF,bI]
 ·rw[Int.toNat_natCast];refine cb λk hk=>⟨[some (.int k),some (.tup (aN (toQ W p)))],by simp[ba],?_,λ_=>by simp⟩
  have CF:k<p.length:=List.mem_range.mp hk;have d1:=kP W CF;generalize p.getD k 0=x at *;have e:decide (qW W x=1)=decide (x=W):=decide_eq_decide.mpr (Ic h0);simp[d1,mR,OM,e]
noncomputable abbrev gk:=Rat×List Int
def iy(W:Int)(z:gk):D:=.tup [qD z.1,.tup (aN (toQ W z.2))]
def l6(W:Int)(st:List gk):List D:=st.reverse.map (iy W)
theorem kQ(W:Int)(z:gk)(st:List gk):l6 W (z::st)=l6 W st++[iy W z]:=by unfold l6;simp
theorem nF(W:Int)(st:List gk):(l6 W st).length=st.length:=by unfold l6;simp
noncomputable def tQ(f:Fl)(ks:List (List Int))(S:List Int->Rat):D:=.aZ f ks (ks.map λk=>qD (S k))
theorem j8(g:Fl->Fl)(f:Fl)(ks:List (List Int))(S:List Int->Rat):aw g (tQ f ks S)=tQ (g f) ks S:=by
 show D.aZ (g f) ks (ag g (ks.map λk=>qD (S k)))=_;rw[bC g (λk=>rM g _)];rfl
theorem Bg(g:Fl->Bool)(f:Fl)(ks:List (List Int))(S:List Int->Rat):ak g (tQ f ks S)=g f:=by
 show(g f||aj g (ks.map λk=>qD (S k)))=_;rw[bD g (λk=>lF g _),Bool.or_false]
def uv(W:Int)(z:gk):Nat:=(vals W z.2).length
noncomputable def pw(W:Int)(l:List Int)(st:List gk):Rat:=(st.map λz=>z.1*Pr W 12 z.2 l).sum
noncomputable def GG(W:Int)(st:List gk):Nat:=(st.map λz=>lv (uv W z)).sum
noncomputable def Cy(W:Int)(st:List gk):Nat:=(st.map λz=>3 ^ uv W z).sum
structure Lw(n:Nat)(W:Int)(p0:List Int)(st:List gk)(ks:List (List Int))(S:List Int->Rat)(j:Nat):Prop where
 ok:∀ z∈st,eE n W z.2
 pos:∀ z∈st,0<z.1
 sm:∀ z∈st,Sm (1+5*(12 - uv W z)) z.1
 tb:Tb (0:Rat) (λx=>0<x) ks S
 ss:∀ l,Sm (1+80*j) (S l)
 kj:ks.length<=j
 m8:j+GG W st<=32
 ma:∀ l,S l+pw W l st=Pr W 12 p0 l
theorem eE.uv{n:Nat}{p:List Int}(I:eE n W p):(vals W p).length<=n:=by rw[<- I.len];exact List.length_filter_le _ _
theorem Lw.put{n:Nat}{p0:List Int}{z:gk}{st:List gk}{S:List Int->Rat}{j:Nat}(I:Lw n W p0 (z::st) ks S j)(hv:vals W z.2=[]):Lw n W p0 st (ax ks (aF W 0 z.2)) (bN S (aF W 0 z.2) z.1) (j+1):=by
 have hz:z∈z::st:=Vb;have hs:=I.sm z hz;have hp:=I.pos z hz;refine⟨λy hy=>I.ok y (Va _ hy),λy hy=>I.pos y (Va _ hy),λy hy=>I.sm y (Va _ hy),I.tb.add (by grind) (λa ha=>by grind) _,λl=>?_,?_,?_,λl=>?_⟩
 ·unfold bN;split
  ·exact((I.ss l).add hs).mono (by left)
  ·exact(I.ss l).mono (by left)
 ·have:=ej ks (aF W 0 z.2);have:=I.kj;left
 ·have f:=I.m8;unfold GG at *;rw[List.map_cons,List.sum_cons]at f;have:lv (uv W z)=1:=by unfold uv;rw[hv];rfl
  left
 ·have m:=I.ma l;unfold pw at *;rw[List.map_cons,List.sum_cons,jq hv]at m;unfold bN;by_cases e:l=aF W 0 z.2
  ·rw[if_pos e];rw[ue e.symm]at m;grind
  ·rw[if_neg e];rw[n8 λh=>e h.symm]at m;grind
theorem Lw.MX{n:Nat}{p0:List Int}{c:Rat}{p:List Int}{st:List gk}{S:List Int->Rat}{j:Nat}(I:Lw n W p0 ((c,p)::st) ks S j)(hn:n<=12)(h9:W<=9){a b:Int}(T:Tw W p A a B b C):
  Lw n W p0 ((c*(1 - aU W a b),A++bY W a b::(B++bS W a b::C))::(c*aU W a b,A++bS W a b::(B++bY W a b::C))::st) ks S j/\Cy W ((c*(1 - aU W a b),A++bY W a b::(B++bS W a b::C))::(c*aU W a b,A++bS W a b::(B++bY W a b::C))::st)<Cy W ((c,p)::st):=by
 have hz:(c,p)∈(c,p)::st:=Vb;have Ip:=I.ok _ hz;have hs:Sm (1+5*(12 - uv W (c,p))) c:=I.sm _ hz;have hp:0<c:=I.pos _ hz;obtain⟨q1,q2,q3,q4⟩:=T.pq;obtain⟨c0,c1,s1⟩:=lV q1 q2 q3 q4 h9;obtain⟨d0,s2⟩:=zj q1 q2 q3 q4 h9;obtain⟨v1,v2⟩:=T.zN;have hv:=T.vals;have uk:=nU W a b (vals W C);rw[hv]at v1 v2;have u0:uv W (c,p)=(vals W C).length+2:=by unfold uv;rw[hv];rfl
 have u1:∀ x,uv W (x,A++bS W a b::(B++bY W a b::C))<=(vals W C).length+1:=λx=>by unfold uv;rw[v1];exact uk
 have u2:∀ x,uv W (x,A++bY W a b::(B++bS W a b::C))<=(vals W C).length+1:=λx=>by unfold uv;rw[v2];exact uk
 have hu:=Ip.uv;have Lx:(vals W C).length+2<=12:=by rw[hv]at hu;simp only[List.length_cons]at hu;left
 refine⟨⟨λy hy=>?_,λy hy=>?_,λy hy=>?_,I.tb,I.ss,I.kj,?_,λl=>?_⟩,?_⟩
 ·rcases List.mem_cons.mp hy with rfl | hy
  ·exact T.lost Ip
  ·rcases List.mem_cons.mp hy with rfl | hy
   ·exact T.won Ip
   ·exact I.ok y (Va _ hy)
 ·rcases List.mem_cons.mp hy with rfl | hy
  ·exact WG hp d0
  ·rcases List.mem_cons.mp hy with rfl | hy
   ·exact WG hp c0
   ·exact I.pos y (Va _ hy)
 ·rcases List.mem_cons.mp hy with rfl | hy
  ·exact(hs.mul s2).mono (by have:=u2 (c*(1 - aU W a b));left)
  ·rcases List.mem_cons.mp hy with rfl | hy
   ·exact(hs.mul s1).mono (by have:=u1 (c*aU W a b);left)
   ·exact I.sm y (Va _ hy)
 ·have f:=I.m8;unfold GG at *;rw[List.map_cons,List.sum_cons,u0]at f;rw[List.map_cons,List.sum_cons,List.map_cons,List.sum_cons];have m:∀ u,u<=(vals W C).length+1->lv u<=2 ^ (vals W C).length:=λu h=>Vh (by decide) (by left);have e1:lv ((vals W C).length+2)=2*2 ^ (vals W C).length:=by unfold lv;rw[show(vals W C).length+2 - 1=(vals W C).length+1 by left,Nat.pow_succ,Nat.mul_comm]
  have m1:=m _ (u1 (c*aU W a b));have m2:=m _ (u2 (c*(1 - aU W a b)));left
 ·have m:=I.ma l;unfold pw at *;rw[List.map_cons,List.sum_cons]at m;rw[List.map_cons,List.sum_cons,List.map_cons,List.sum_cons];rw[uY l (k:=12) Ip T (by rw[hv];simp only[List.length_cons];left)]at m;dsimp only at m ⊢;grind
 ·unfold Cy;rw[List.map_cons,List.sum_cons,List.map_cons,List.sum_cons,List.map_cons,List.sum_cons,u0];have m:∀ u,u<=(vals W C).length+1->3 ^ u<=3 ^ ((vals W C).length+1):=λu h=>Vh (by decide) h;have m1:=m _ (u1 (c*aU W a b));have m2:=m _ (u2 (c*(1 - aU W a b)));have e1:3 ^ ((vals W C).length+2)=3*3 ^ ((vals W C).length+1):=by rw[Nat.pow_succ,Nat.mul_comm]
  have e2:1<=3 ^ ((vals W C).length+1):=WT _ _ (by decide);left
theorem C3{is:List Nat}{i:Nat}{ρ':au}{ds:List D}{xs:List D}(h:ρ[i]?=some (some (.lst .ow (ds++[.tup xs]))))(ha:aj anyF xs=false)(ho:aj bo xs=false)(hs:dZ is xs (ρ.set i (some (.lst .ow ds)))=ok ρ'):jL Φ (.popT (.tp is) i) ρ=ok (.nx,ρ'):=by
 show pM (.tp is) i ρ=_;unfold pM;rw[h];show(match(ds++[D.tup xs]).getLast? with | some d=>if ak anyF d=false then bd (bw (.tp is) d (ρ.set i (some (.lst .ow (ds++[D.tup xs]).dropLast)))) λρ'=>ok (Fo.nx,ρ')else none | none=>none)=_;rw[List.getLast?_concat,List.dropLast_concat];show(if aj anyF xs=false then bd (bw (.tp is) (.tup xs) (ρ.set i (some (.lst .ow ds)))) λρ'=>ok (Fo.nx,ρ')else none)=_;rw[if_pos ha,nJ ho,hs];rfl
theorem Jc{α:Type}{l:List α}(h:l.length=14):∃ a b c d e f g h i j k m n o,l=[a,b,c,d,e,f,g,h,i,j,k,m,n,o]:=by
 match l,h with
 | [a,b,c,d,e,f,g,h,i,j,k,m,n,o],_=>exact⟨a,b,c,d,e,f,g,h,i,j,k,m,n,o,rfl⟩
def w5:List CS:=[.asg (.nm 6) (.bf .tuple1 [yW]),.mut 1033 2 [(.call 202 [(.cm 1031 [(.v 2),(.v 6),(.tup [(.int 0),(.int 1)])]),(.v 3)]),(.v 6)]]
noncomputable def tf:List CS:=[.asg (.nm 16) (.bf .list1 [(.v 4)]),.setI 16 (.v 7) (.ix (.v 13) (.v 15)),.setI 16 (.v 8) (.ix (.v 13) (.bin .sub (.int 1) (.v 15))),.app 1 (.tup [(.call 203 [(.v 3),(.v 14)]),(.bf .tuple1 [(.v 16)])])]
noncomputable def sW:List CS:=[.par 7 8 (.ix (.v 5) (.int 0)) (.ix (.v 5) (.int 1)),.asg (.nm 9) (.call 202 [(.ix (.v 4) (.v 7)),(.ix (.v 4) (.v 8))]),.asg (.nm 10) (.call 223 [(.tup [(.int 1),(.int 1)]),(.v 9)]),.asg (.nm 11) (.ix (.v 4) (.v 7)),.asg (.nm 12) (.v 9),.asg (.nm 13) (.lst [(.v 9),(.tup [(.int 0),(.int 1)])])]
noncomputable def mB:List CS:=[.ifs (.v 10) [.asg (.nm 11) (.call 222 [(.tup [(.int 1),(.int 1)]),(.ix (.v 4) (.v 8))]),.asg (.nm 12) (.call 222 [(.tup [(.int 2),(.int 1)]),(.v 9)]),.asg (.nm 13) (.lst [(.tup [(.int 1),(.int 1)]),(.call 222 [(.v 9),(.tup [(.int 1),(.int 1)])])])] [],.asg (.nm 11) (.call 203 [(.v 11),(.call 201 [(.ix (.v 12) (.int 1)),(.ix (.v 12) (.int 0))])])]
def o3:List CS:=[.fr (.tp [14,15]) (.seq (.lst [(.tup [(.v 11),(.int 0)]),(.tup [(.call 222 [(.tup [(.int 1),(.int 1)]),(.v 11)]),(.int 1)])])) tf]
def B9:List CS:=sW++(mB++o3)
theorem j4(Φ:ay):∀(a b:List CS) (ρ ρ':au),aT Φ a ρ=ok (.nx,ρ')->aT Φ (a++b) ρ=aT Φ b ρ'
 | [],b,ρ,ρ',h=>by cases h;rfl
 | s::a,b,ρ,ρ',h=>by
  have h:bd (jL Φ s ρ) (λr=>match r with | (.nx,ρ')=>aT Φ a ρ' | r=>ok r)=ok (.nx,ρ'):=h;show bd (jL Φ s ρ) (λr=>match r with | (.nx,ρ')=>aT Φ (a++b) ρ' | r=>ok r)=_;obtain⟨⟨fo,ρ1⟩,e1,h⟩:=ab h;rw[e1,b8];cases fo with
  | nx=>exact j4 Φ a b ρ1 ρ' h
  | rt d=>cases h
  | bk=>cases h
  | ct=>cases h
theorem vx(Φ:ay)(P:uZ Φ)(vV:qQ (Φ 202)){n:Nat}{p:List Int}(I:eE n W p)(hn:n<=12)(h0:0<W){c:Rat}{S:List Int->Rat}(hk:ks.length<900)(hS:∀ k,k∉ks->S k=0)(s1:∀ l,Sm 4000 (S l))(s2:Sm 4000 c)(c0 c1 c5 c6 c7 c8 c9 hV kn gw sN j0 jZ hU:Option D):
  aT Φ w5 [c0,c1,some (tQ .ow ks S),some (qD c),some (.tup (aN (toQ W p))),c5,c6,c7,c8,c9,hV,kn,gw,sN,j0,jZ,hU]=ok (.nx,[c0,c1,some (tQ .ow (ax ks (aF W 0 p)) (bN S (aF W 0 p) c)),some (qD c),some (.tup (aN (toQ W p))),c5,some (.tup (aa (aF W 0 p))),c7,c8,c9,hV,kn,gw,sN,j0,jZ,hU]):=by
 have e2:=λr=>Es Φ I hn h0 c0 c1 (some (tQ .ow ks S)) (some (qD c)) r;generalize aF W 0 p=l at *;have g1:∀ f,Φ 1031 [tQ f ks S,.tup (aa l),qD 0]=ok (qD (S l)):=λf=>C9 P (e:=qD) (lF anyF) f ks S 0 l (hS l);have a1:=vV (S l) c (s1 l) s2;have g2:Φ 1033 [tQ .ow ks S,qD (S l+c),.tup (aa l)]=ok (tQ .ow (ax ks l) (bN S l c)):=by
  have:=Ho P (e:=qD) (lF anyF) (by left) S l (S l+c) (ks:=ks);unfold tQ;rw[this];congr 2;refine Vl λk _=>?_;unfold bN;by_cases h:k=l
  ·rw[if_pos h,if_pos h,h]
  ·rw[if_neg h,if_neg h]
 have x1:=iW (Φ:=Φ) (p:=1033) (i:=2) (es:=[(.call 202 [(.cm 1031 [(.v 2),(.v 6),(.tup [(.int 0),(.int 1)])]),(.v 3)]),(.v 6)]) (ρ:=[c0,c1,some (tQ .ow ks S),some (qD c),some (.tup (aN (toQ W p))),c5,some (.tup (aa l)),c7,c8,c9,hV,kn,gw,sN,j0,jZ,hU]) (xs:=[qD (S l+c),.tup (aa l)]) (by simp[j8,Cv,g1,a1]) (by simp) rfl g2;simp only[List.set]at x1;simp only[w5];rw[cc,kI];simp[e2];rw[x1];simp
theorem Dv:Sm 4000 (1:Rat):=Sm.mono (k:=2) (by constructor<;>decide) (by decide)
theorem MA:Sm 4000 (2:Rat):=Sm.mono (k:=2) (by constructor<;>decide) (by decide)
theorem Aw(W:Int)(p:List Int)(i:Nat)(x:Int):(aN (toQ W p)).set i (qD (qW W x))=aN (toQ W (p.set i x)):=by rw[Ax,zY]
theorem Jg(Φ:ay)(vV:qQ (Φ 202))(Fq:kC (Φ 223)){a b:Int}(h0:0<W)(h9:W<=9){p:List Int}(T:Tw W p A a B b C)(c0 c1 c2 c3 c6 c7 c8 c9 hV kn gw sN j0 jZ hU:Option D):
  aT Φ sW [c0,c1,c2,c3,some (.tup (aN (toQ W p))),some (.lst .ow (aa (dy W 0 p))),c6,c7,c8,c9,hV,kn,gw,sN,j0,jZ,hU] =
   ok (.nx,[c0,c1,c2,c3,some (.tup (aN (toQ W p))),some (.lst .ow (aa (dy W 0 p))),c6,some (.int A.length),some (.int ((A.length+1+B.length:Nat):Int)),some (qD (qW W (a+b))),some (.bl (decide (W<a+b))),some (qD (qW W a)),some (qD (qW W (a+b))),some (.lst .ow [qD (qW W (a+b)),qD 0]),j0,jZ,hU]):=by
 obtain⟨q1,q2,q3,q4⟩:=T.pq;have lA:A.length<p.length:=by rw[T.eq];simp<;>left
 have lB:A.length+1+B.length<p.length:=by rw[T.eq];simp<;>left
 have d1:=kP W lA;have d2:=kP W lB;rw[T.LY]at d1;rw[T.at2]at d2;have a1:=vV (qW W a) (qW W b) ((mG h0 h9 (by left) (by left)).mono (by decide)) ((mG h0 h9 (by left) (by left)).mono (by decide));rw[xu h0]at a1;have b1:=Fq 1 (qW W (a+b)) Dv ((mG h0 h9 (by left) (by left)).mono (by decide));rw[show decide ((1:Rat)<qW W (a+b))=decide (W<a+b) from decide_eq_decide.mpr (Ib h0)]at b1;rw[T.dy];generalize ((A.length+1+B.length:Nat):Int)=j at *;generalize (A.length:Int)=i at *;generalize dy W (j+1) C=r at *;have xp:jL Φ (.par 7 8 (.ix (.v 5) (.int 0)) (.ix (.v 5) (.int 1))) [c0,c1,c2,c3,some (.tup (aN (toQ W p))),some (.lst .ow (aa (i::j::r))),c6,c7,c8,c9,hV,kn,gw,sN,j0,jZ,hU]=ok (.nx,[c0,c1,c2,c3,some (.tup (aN (toQ W p))),some (.lst .ow (aa (i::j::r))),c6,some (.int i),some (.int j),c9,hV,kn,gw,sN,j0,jZ,hU]):=by
  rw[B5];simp
 rw[sW,cc,xp];simp[d1,d2,a1,mR,Cv,b1]
theorem Jf(Φ:ay)(yC:eV (Φ 201))(mj:gf (Φ 203))(qh:lZ (Φ 222)){a b:Int}(h0:0<W)(h9:W<=9){p:List Int}(T:Tw W p A a B b C)(c0 c1 c2 c3 c5 c6 j0 jZ hU:Option D):
  ∃ kn gw,aT Φ mB [c0,c1,c2,c3,some (.tup (aN (toQ W p))),c5,c6,some (.int A.length),some (.int ((A.length+1+B.length:Nat):Int)),some (qD (qW W (a+b))),some (.bl (decide (W<a+b))),some (qD (qW W a)),some (qD (qW W (a+b))),some (.lst .ow [qD (qW W (a+b)),qD 0]),j0,jZ,hU] =
   ok (.nx,[c0,c1,c2,c3,some (.tup (aN (toQ W p))),c5,c6,some (.int A.length),some (.int ((A.length+1+B.length:Nat):Int)),some (qD (qW W (a+b))),kn,some (qD (aU W a b)),gw,some (.lst .ow [qD (qW W (bS W a b)),qD (qW W (bY W a b))]),j0,jZ,hU]):=by
 obtain⟨q1,q2,q3,q4⟩:=T.pq;have lB:A.length+1+B.length<p.length:=by rw[T.eq];simp<;>left
 have d2:=kP W lB;rw[T.at2]at d2;have sq:∀ x:Int,-100<=x->x<=100->Sm 4000 (qW W x):=λx h1 h2=>(mG h0 h9 h1 h2).mono (by decide);have IC:=Dv;have inv:∀ x:Int,0<x->x<=100->Φ 201 [.int (qW W x).den,.int (qW W x).num]=ok (qD (qW W x)⁻¹):=λx h1 h2=>by
  have s8:=mG h0 h9 (x:=x) (by left) h2;have e:=yC (qW W x).den (qW W x).num (λz=>absurd ((xr h0).mp z) (by left)) (eL (Vf s8.1 (by decide)));rw[e,Rat.inv_def]
 have si:∀ x:Int,0<x->x<=100->Sm 4000 (qW W x)⁻¹:=λx h1 h2=>by
  have s8:=mG h0 h9 (x:=x) (by left) h2;rw[Rat.inv_def];exact(kT (λz=>absurd ((xr h0).mp z) (by left)) (by simpa using s8.2) s8.1).mono (by decide)
 by_cases h:W<a+b
 ·have e1:=qh 1 (qW W b) IC (sq b (by left) (by left));have e2:=qh 2 (qW W (a+b)) MA (sq _ (by left) (by left));have e3:=qh (qW W (a+b)) 1 (sq _ (by left) (by left)) IC;have t1:(1:Rat) - qW W b=qW W (W - b):=by rw[<- rB h0,rE h0]
  have t2:(2:Rat) - qW W (a+b)=qW W (2*W - a - b):=by
   have:qW W (W+W)=2:=by rw[<- xu h0,rE h0];grind
   rw[show 2*W - a - b=(W+W) - (a+b) by left,<- rB h0,this]
  have t3:qW W (a+b) - 1=qW W (a+b - W):=by rw[<- rB h0,rE h0]
  rw[t1]at e1;rw[t2]at e2;rw[t3]at e3;have e4:=inv (2*W - a - b) (by left) (by left);have e5:=mj (qW W (W - b)) (qW W (2*W - a - b))⁻¹ (sq _ (by left) (by left)) (si _ (by left) (by left));rw[xt h0 (by left)]at e5;have hc:aU W a b=Rat.divInt (W - b) (2*W - a - b):=V1 (by left);have hh:bS W a b=W:=VA h;have GR:bY W a b=a+b - W:=by unfold bY;rw[hh]
  rw[hc,GR,hh,rE h0];generalize ((A.length+1+B.length:Nat):Int)=j at *;refine⟨some (.bl (decide (W<a+b))),some (qD (qW W (2*W - a - b))),?_⟩;simp[mB,h,mR,Hk,d2,e1,e2,e3,e4,e5]
 ·have e4:=inv (a+b) (by left) (by left);have e5:=mj (qW W a) (qW W (a+b))⁻¹ (sq _ (by left) (by left)) (si _ (by left) (by left));rw[xt h0 (by left)]at e5;have hc:aU W a b=Rat.divInt a (a+b):=VA (by left);have hh:bS W a b=a+b:=V1 h;have GR:bY W a b=0:=by unfold bY;rw[hh];left
  rw[hc,GR,hh,xw h0];refine⟨some (.bl (decide (W<a+b))),some (qD (qW W (a+b))),?_⟩;simp[mB,h,e4,e5]
theorem t4(Φ:ay)(mj:gf (Φ 203)){p:List Int}{i j:Nat}(hi:i<p.length)(hj:j<p.length){c q:Rat}(s1:Sm 4000 c)(s2:Sm 4000 q){x y x' y':Int}{t:Int}(ht:(t=0/\x'=x/\y'=y)\/(t=1/\x'=y/\y'=x))(ds:List D)(hd:ds.length<1000)(c0 c2 c5 c6 c9 hV kn gw hU:Option D):
  aT Φ tf [c0,some (.lst .ow ds),c2,some (qD c),some (.tup (aN (toQ W p))),c5,c6,some (.int i),some (.int j),c9,hV,kn,gw,some (.lst .ow [qD (qW W x),qD (qW W y)]),some (qD q),some (.int t),hU] =
   ok (.nx,[c0,some (.lst .ow (ds++[iy W (c*q,(p.set i x').set j y')])),c2,some (qD c),some (.tup (aN (toQ W p))),c5,c6,some (.int i),some (.int j),c9,hV,kn,gw,some (.lst .ow [qD (qW W x),qD (qW W y)]),some (qD q),some (.int t),some (.lst .ow (aN (toQ W ((p.set i x').set j y'))))]):=by
 have e1:=mj c q s1 s2;have x1:kB [qD (qW W x),qD (qW W y)] t=ok (qD (qW W x'))/\kB [qD (qW W x),qD (qW W y)] (1 - t)=ok (qD (qW W y')):=by
  rcases ht with ⟨rfl,rfl,rfl⟩ | ⟨rfl,rfl,rfl⟩
  ·exact⟨by simp,by show kB _ 1=_;simp⟩
  ·exact⟨by simp,by show kB _ 0=_;simp⟩
 obtain⟨x1,x2⟩:=x1;have y1:=kG (Φ:=Φ) (i:=16) (j:=i) (k:=.v 7) (e:=.ix (.v 13) (.v 15)) (ρ:=[c0,some (.lst .ow ds),c2,some (qD c),some (.tup (aN (toQ W p))),c5,c6,some (.int i),some (.int j),c9,hV,kn,gw,some (.lst .ow [qD (qW W x),qD (qW W y)]),some (qD q),some (.int t),some (.lst .ow (aN (toQ W p)))]) (ρ':=[c0,some (.lst .ow ds),c2,some (qD c),some (.tup (aN (toQ W p))),c5,c6,some (.int i),some (.int j),c9,hV,kn,gw,some (.lst .ow [qD (qW W x),qD (qW W y)]),some (qD q),some (.int t),some (.lst .ow (aN (toQ W p)))]) (d:=qD (qW W x')) (z:=i) (ds:=aN (toQ W p)) (by simp[x1]) (by simp) rfl (by rw[lp (by left) (by simp;left)];simp);have y2:=kG (Φ:=Φ) (i:=16) (j:=j) (k:=.v 8) (e:=.ix (.v 13) (.bin .sub (.int 1) (.v 15))) (ρ:=[c0,some (.lst .ow ds),c2,some (qD c),some (.tup (aN (toQ W p))),c5,c6,some (.int i),some (.int j),c9,hV,kn,gw,some (.lst .ow [qD (qW W x),qD (qW W y)]),some (qD q),some (.int t),some (.lst .ow (aN (toQ W (p.set i x'))))]) (ρ':=[c0,some (.lst .ow ds),c2,some (qD c),some (.tup (aN (toQ W p))),c5,c6,some (.int i),some (.int j),c9,hV,kn,gw,some (.lst .ow [qD (qW W x),qD (qW W y)]),some (qD q),some (.int t),some (.lst .ow (aN (toQ W (p.set i x'))))]) (d:=qD (qW W y')) (z:=j) (ds:=aN (toQ W (p.set i x'))) (by simp[x2]) (by simp) rfl (by rw[lp (by left) (by simp;left)];simp);rw[Aw]at y1 y2;simp only[List.set]at y1 y2;have hc:ds.length<fm:=by show _<1000000;left
 simp only[tf];rw[cc,kI];simp;rw[y1];simp;rw[y2];simp[e1,hc];rfl
theorem Je(Φ:ay)(mj:gf (Φ 203))(qh:lZ (Φ 222)){a b:Int}(h0:0<W)(h9:W<=9){p:List Int}(T:Tw W p A a B b C){c:Rat}(s1:Sm 4000 c)(ds:List D)(hd:ds.length<900)(c0 c2 c5 c6 c9 hV gw j0 jZ hU:Option D):
  ∃ O2 O1 O0,aT Φ o3 [c0,some (.lst .ow ds),c2,some (qD c),some (.tup (aN (toQ W p))),c5,c6,some (.int A.length),some (.int ((A.length+1+B.length:Nat):Int)),c9,hV,some (qD (aU W a b)),gw,some (.lst .ow [qD (qW W (bS W a b)),qD (qW W (bY W a b))]),j0,jZ,hU] =
   ok (.nx,[c0,some (.lst .ow (ds++[iy W (c*aU W a b,A++bS W a b::(B++bY W a b::C))]++[iy W (c*(1 - aU W a b),A++bY W a b::(B++bS W a b::C))])),c2,some (qD c),some (.tup (aN (toQ W p))),c5,c6,some (.int A.length),some (.int ((A.length+1+B.length:Nat):Int)),c9,hV,some (qD (aU W a b)),gw,some (.lst .ow [qD (qW W (bS W a b)),qD (qW W (bY W a b))]),O2,O1,O0]):=by
 obtain⟨q1,q2,q3,q4⟩:=T.pq;obtain⟨_,_,k1⟩:=lV q1 q2 q3 q4 h9;obtain⟨_,k2⟩:=zj q1 q2 q3 q4 h9;have lA:A.length<p.length:=by rw[T.eq];simp<;>left
 have lB:A.length+1+B.length<p.length:=by rw[T.eq];simp<;>left
 have e1:=qh 1 (aU W a b) Dv (k1.mono (by decide));have w1:(p.set A.length (bS W a b)).set (A.length+1+B.length) (bY W a b)=A++bS W a b::(B++bY W a b::C):=by rw[T.Aj,tx]
 have w2:(p.set A.length (bY W a b)).set (A.length+1+B.length) (bS W a b)=A++bY W a b::(B++bS W a b::C):=by rw[T.Aj,tx]
 have g1:=t4 Φ mj (W:=W) (p:=p) lA lB s1 (k1.mono (by decide)) (x:=bS W a b) (y:=bY W a b) (t:=0) (.inl ⟨rfl,rfl,rfl⟩) ds (by left) c0 c2 c5 c6 c9 hV (some (qD (aU W a b))) gw hU;have g2:=λhU=>t4 Φ mj (W:=W) (p:=p) lA lB s1 (k2.mono (by decide)) (x:=bS W a b) (y:=bY W a b) (t:=1) (.inr ⟨rfl,rfl,rfl⟩) (ds++[iy W (c*aU W a b,A++bS W a b::(B++bY W a b::C))]) (by simp;left) c0 c2 c5 c6 c9 hV (some (qD (aU W a b))) gw hU;rw[w2]at g2;rw[w1]at g1;have hit:fI Φ (.seq (.lst [(.tup [(.v 11),(.int 0)]),(.tup [(.call 222 [(.tup [(.int 1),(.int 1)]),(.v 11)]),(.int 1)])])) [c0,some (.lst .ow ds),c2,some (qD c),some (.tup (aN (toQ W p))),c5,c6,some (.int A.length),some (.int ((A.length+1+B.length:Nat):Int)),c9,hV,some (qD (aU W a b)),gw,some (.lst .ow [qD (qW W (bS W a b)),qD (qW W (bY W a b))]),j0,jZ,hU]=ok ([.tup [qD (aU W a b),.int 0],.tup [qD (1 - aU W a b),.int 1]],[c0,some (.lst .ow ds),c2,some (qD c),some (.tup (aN (toQ W p))),c5,c6,some (.int A.length),some (.int ((A.length+1+B.length:Nat):Int)),c9,hV,some (qD (aU W a b)),gw,some (.lst .ow [qD (qW W (bS W a b)),qD (qW W (bY W a b))]),j0,jZ,hU]):=by
  rw[Jo (f:=.ow) (ds:=[.tup [qD (aU W a b),.int 0],.tup [qD (1 - aU W a b),.int 1]]) (by simp[mR,e1])];simp
 generalize ((A.length+1+B.length:Nat):Int)=j at *;generalize (A.length:Int)=i at *;refine⟨some (qD (1 - aU W a b)),some (.int 1),some (.lst .ow (aN (toQ W (A++bY W a b::(B++bS W a b::C))))),?_⟩;have hf:=kH (Φ:=Φ) (t:=.tp [14,15]) (b:=tf) hit (r:=ok (.nx,[c0,some (.lst .ow (ds++[iy W (c*aU W a b,A++bS W a b::(B++bY W a b::C))]++[iy W (c*(1 - aU W a b),A++bY W a b::(B++bS W a b::C))])),c2,some (qD c),some (.tup (aN (toQ W p))),c5,c6,some (.int i),some (.int j),c9,hV,some (qD (aU W a b)),gw,some (.lst .ow [qD (qW W (bS W a b)),qD (qW W (bY W a b))]),some (qD (1 - aU W a b)),some (.int 1),some (.lst .ow (aN (toQ W (A++bY W a b::(B++bS W a b::C)))))])) (by
  refine gE ?_ g1 (gE ?_ (g2 (some (.lst .ow (aN (toQ W (A++bS W a b::(B++bY W a b::C))))))) rfl)
  ·simp
  ·simp)
 rw[o3,cc,hf];rfl
def Aa:List CS:=[.popT (.tp [3,4]) 1,.asg (.nm 5) qp,.ifs (.cmp .eq (.bf .len [(.v 5)]) (.int 0)) w5 B9]
def va:CS:=.zL (.cmp .gt (.bf .len [(.v 1)]) (.int 0)) Aa
noncomputable def yV:CE:=.comp 1 (.nm 0) [2] .seq [(.cm 1035 [(.v 2)])] [] (.tup [(.cm 1032 [(.v 1),(.v 0)]),(.v 0)])
def zr:List CS:=[.asg (.nm 1) (.lst [(.tup [(.tup [(.int 1),(.int 1)]),(.bf .tuple1 [(.v 0)])])]),.asg (.nm 2) (.cm 1030 []),va,.ret (.tup [(.bf .len [(.v 0)]),yV])]
structure Gk(Φ:ay):Prop where
 P:uZ Φ
 yC:eV (Φ 201)
 vV:qQ (Φ 202)
 mj:gf (Φ 203)
 qh:lZ (Φ 222)
 Fq:kC (Φ 223)
theorem A2(Φ:ay)(Q:Gk Φ){n:Nat}(hn:n<=12)(h0:0<W)(h9:W<=9){p0:List Int}{c:Rat}{p:List Int}{st:List gk}{S:List Int->Rat}{j:Nat}(I:Lw n W p0 ((c,p)::st) ks S j)(n9:st.length<800)(c0:Option D)(t:au)(ht:t.length=14):
  ∃ i7 wt S' j' t',aT Φ Aa (c0::some (.lst .ow (l6 W ((c,p)::st)))::some (tQ .ow ks S)::t)=ok (.nx,c0::some (.lst .ow (l6 W i7))::some (tQ .ow wt S')::t')/\t'.length=14/\Lw n W p0 i7 wt S' j'/\Cy W i7<Cy W ((c,p)::st):=by
 obtain⟨c3,c4,c5,c6,c7,c8,c9,hV,kn,gw,sN,j0,jZ,hU,rfl⟩:=Jc ht;have hz:(c,p)∈(c,p)::st:=Vb;have Ip:eE n W p:=I.ok _ hz;have sc:Sm 4000 c:=(I.sm _ hz).mono (by left);have f:=I.m8;have x1:jL Φ (.popT (.tp [3,4]) 1) (c0::some (.lst .ow (l6 W ((c,p)::st)))::some (tQ .ow ks S)::[c3,c4,c5,c6,c7,c8,c9,hV,kn,gw,sN,j0,jZ,hU])=ok (.nx,[c0,some (.lst .ow (l6 W st)),some (tQ .ow ks S),some (qD c),some (.tup (aN (toQ W p))),c5,c6,c7,c8,c9,hV,kn,gw,sN,j0,jZ,hU]):=by
  refine C3 (ds:=l6 W st) (xs:=[qD c,.tup (aN (toQ W p))]) ?_ (by simp) (by simp) (by simp);rw[kQ];rfl
 have e1:=Et Φ Ip hn h0 c0 (some (.lst .ow (l6 W st))) (some (tQ .ow ks S)) (some (qD c)) [c5,c6,c7,c8,c9,hV,kn,gw,sN,j0,jZ,hU];by_cases hv:vals W p=[]
 ·have g:=vx Φ Q.P Q.vV Ip hn h0 (c:=c) (ks:=ks) (S:=S) (by have:=I.kj;left) I.tb.out (λl=>(I.ss l).mono (by left)) sc c0 (some (.lst .ow (l6 W st))) (some (.lst .ow (aa (dy W 0 p)))) c6 c7 c8 c9 hV kn gw sN j0 jZ hU;have hu:dy W 0 p=[]:=fY hv;refine⟨st,_,_,j+1,[some (qD c),some (.tup (aN (toQ W p))),some (.lst .ow (aa (dy W 0 p))),some (.tup (aa (aF W 0 p))),c7,c8,c9,hV,kn,gw,sN,j0,jZ,hU],?_,rfl,I.put hv,?_⟩
  ·rw[Aa,cc,x1,ig];rw[hu]at e1 g ⊢;simp[Lo Φ qp _ rfl,e1];simp at g;rw[g];simp
  ·unfold Cy;rw[List.map_cons,List.sum_cons];have:1<=3 ^ uv W (c,p):=WT _ _ (by decide);left
 ·obtain⟨A,a,B,b,C,T⟩:=Ip.two hv;obtain⟨J,SN⟩:=I.MX hn h9 T;have g1:=Jg Φ Q.vV Q.Fq h0 h9 T c0 (some (.lst .ow (l6 W st))) (some (tQ .ow ks S)) (some (qD c)) c6 c7 c8 c9 hV kn gw sN j0 jZ hU;obtain⟨Q7,Q6,g2⟩:=Jf Φ Q.yC Q.mj Q.qh h0 h9 T c0 (some (.lst .ow (l6 W st))) (some (tQ .ow ks S)) (some (qD c)) (some (.lst .ow (aa (dy W 0 p)))) c6 j0 jZ hU;obtain⟨Ug,Ue,Ud,g3⟩:=Je Φ Q.mj Q.qh h0 h9 T sc (l6 W st) (by rw[nF];left) c0 (some (tQ .ow ks S)) (some (.lst .ow (aa (dy W 0 p)))) c6 (some (qD (qW W (a+b)))) Q7 Q6 j0 jZ hU;have g:=(j4 Φ sW (mB++o3) _ _ g1).trans ((j4 Φ mB o3 _ _ g2).trans g3);rw[<- kQ,<- kQ]at g;refine⟨_,ks,S,j,[some (qD c),some (.tup (aN (toQ W p))),some (.lst .ow (aa (dy W 0 p))),c6,some (.int A.length),some (.int ((A.length+1+B.length:Nat):Int)),some (qD (qW W (a+b))),Q7,some (qD (aU W a b)),Q6,some (.lst .ow [qD (qW W (bS W a b)),qD (qW W (bY W a b))]),Ug,Ue,Ud],?_,rfl,J,SN⟩;have rY:(dy W 0 p).length≠0:=by rw[T.dy];simp
  have UW:¬ ((dy W 0 p).length:Int)=0:=by left
  rw[Aa,cc,x1,ig];have g':aT Φ B9 [c0,some (.lst .ow (l6 W st)),some (tQ .ow ks S),some (qD c),some (.tup (aN (toQ W p))),some (.lst .ow (aa (dy W 0 p))),c6,c7,c8,c9,hV,kn,gw,sN,j0,jZ,hU]=_:=g;generalize dy W 0 p=un at *;simp[Lo Φ qp _ rfl,e1,rY];rw[g'];simp
theorem A3(Φ:ay)(Q:Gk Φ){n:Nat}(hn:n<=12)(h0:0<W)(h9:W<=9){p0:List Int}(c0:Option D):∀(k:Nat) (st:List gk) (ks:List (List Int)) (S:List Int->Rat) (j:Nat) (t:au),Cy W st<=k->Lw n W p0 st ks S j->t.length=14 ->
  ∃ wt S' j' t',jL Φ va (c0::some (.lst .ow (l6 W st))::some (tQ .ow ks S)::t)=ok (.nx,c0::some (.lst .ow [])::some (tQ .ow wt S')::t')/\t'.length=14/\Lw n W p0 [] wt S' j':=by
 intro k;induction k with
 | zero =>
  intro st ks S j t hk I ht;cases st with
  | cons z st =>
   unfold Cy at hk;rw[List.map_cons,List.sum_cons]at hk;have:1<=3 ^ uv W z:=WT _ _ (by decide);left
  | nil =>
   refine⟨ks,S,j,t,?_,ht,I⟩;rw[va,fc];exact bH (by simp[l6])
 | succ k ih =>
  intro st ks S j t hk I ht;cases st with
  | nil =>
   refine⟨ks,S,j,t,?_,ht,I⟩;rw[va,fc];exact bH (by simp[l6])
  | cons z st =>
   obtain⟨c,p⟩:=z;have n9:st.length<800:=by
    have f:=I.m8;have:∀ st:List gk,st.length<=GG W st:=λst=>by
     induction st with
     | nil=>exact Vc _
     | cons z st ih =>
      unfold GG at *;rw[List.map_cons,List.sum_cons,List.length_cons];have:1<=lv (uv W z):=Nat.one_le_two_pow;left
    have h:=this ((c,p)::st);rw[List.length_cons]at h;left
   obtain⟨i7,wt,S',j',t',e1,Qj,J,fi⟩:=A2 Φ Q hn h0 h9 I n9 c0 t ht;obtain⟨Nj,Uv,Se,RL,e2,NO,J'⟩:=ih i7 wt S' j' t' (by left) J Qj;refine⟨Nj,Uv,Se,RL,?_,NO,J'⟩;rw[va,fc]at e2 ⊢;rw[<- e2];refine eF ?_;have hl:(0:Int)<((l6 W ((c,p)::st)).length:Int):=by rw[nF,List.length_cons];left
   simp[nF,e1]
def Gi(m:List D->O D):Prop:=∀ f qs B,qT 6 qs B->∃ rs,m [.lst f (aN qs)]=ok (.tup [.int qs.length,.lst .ow (i_ rs)])/\G9 (bx qs) (pO qs) rs
theorem MG(Φ:ay)(Q:Gk Φ):Gi (mk Φ 1 17 zr):=by
 intro f qs B I;obtain⟨a1,a2,a3⟩:=I.bot (by decide);have P0:=I.p0 (by decide);have SD:=I.n2;have h0:(0:Int)<(bx qs:Int):=by left
 have TQ:toQ (bx qs:Int) (pO qs)=qs:=by
  unfold toQ pO;rw[List.map_map]
  conv=>rhs;rw[<- List.map_id qs]
  refine Vl λq hq=>?_;show qW _ (fq _ q)=q;unfold qW;rw[Rat.divInt_eq_div,o_ (a3 q hq),Rat.intCast_natCast];have:(bx qs:Rat)≠0:=by
   have:=Rat.ne_of_gt (qN h0)
   rwa [Rat.intCast_natCast]at this
  exact Rat.mul_div_cancel this
 have vI:(vals (bx qs:Int) (pO qs)).length<=6:=Vp P0.uv (by left);have J:Lw qs.length (bx qs:Int) (pO qs) [(1,pO qs)] [] (λ_=>0) 0:=by
  refine⟨λz hz=>by rw[List.mem_singleton.mp hz];exact P0,λz hz=>by rw[List.mem_singleton.mp hz];exact(by decide:(0:Rat)<1),λz hz=>?_,⟨Wa,λ_ _=>rfl,λ_ h=>nomatch h⟩,λ_=>by constructor<;>decide,Vc _,?_,λl=>?_⟩
  ·rw[List.mem_singleton.mp hz];exact Sm.mono (k:=1) (show Sm 1 (1:Rat) by constructor<;>decide) (by left)
  ·unfold GG;rw[List.map_cons,List.map_nil,List.sum_cons,List.sum_nil];have:lv (uv (bx qs:Int) (1,pO qs))<=2 ^ 5:=Vh (by decide) (by unfold uv;dsimp only;left);left
  ·unfold pw;simp[Rat.add_zero,Rat.zero_add]
 obtain⟨ks,S,j,t,e1,ht,K⟩:=A3 Φ Q (n:=qs.length) (W:=(bx qs:Int)) (by left) h0 (by left) (p0:=pO qs) (some (.lst f (aN qs))) _ [(1,pO qs)] [] (λ_=>0) 0 (List.replicate 14 none) (Vc _) J rfl;have HF:l6 (bx qs:Int) [(1,pO qs)]=[.tup [qD 1,.tup (aN qs)]]:=by
  unfold l6;rw[List.reverse_singleton,List.map_singleton];unfold iy;rw[TQ]
 rw[HF]at e1;have Pk:∀ l,S l=Pr (bx qs:Int) 12 (pO qs) l:=λl=>by
  have:=K.ma l;unfold pw at this;rw[List.map_nil,List.sum_nil,Rat.add_zero]at this;exact this
 have N6:ks.length<64:=by have h1:=K.kj;have h2:=K.m8;left
 have hp:(aG ks).Perm ks:=Vy _ _;have e3:aH Φ yV (some (.lst f (aN qs))::some (.lst .ow [])::some (tQ .ow ks S)::t)=ok (.lst .ow (i_ ((aG ks).map λl=>(S l,l)))):=by
  unfold yV;have e4:∀ f,Φ 1035 [tQ f ks S]=ok (.lst .ow ((aG ks).map bF)):=λf=>B7 Q.P f _ N6;rw[eQ (xs:=[.lst .ow ((aG ks).map bF)]) (items:=(aG ks).map bF) (ds:=i_ ((aG ks).map λl=>(S l,l))) (by simp[j8,e4]) (by rw[iD,dD]) ?_ (by rw[tG,List.length_map];exact cW (by have:=hp.length_eq;left))]
  ·rw[pW]
  ·unfold i_;rw[List.map_map];refine fO λl hl=>?_;have g1:∀ f,Φ 1032 [tQ f ks S,.tup (aa l)]=ok (qD (S l)):=λf=>Rx Q.P (e:=qD) (lF anyF) f S (hp.mem_iff.mp hl);have m1:aw bu (bF l)=.tup (aa l):=by show D.tup (ag bu (l.map D.int))=_;rw[dg];rfl
   refine⟨[some (bF l),some (tQ .fz ks S)],by simp[ba,j8],by simp,?_⟩;simp[m1,j8,g1];rfl
 refine⟨(aG ks).map λl=>(S l,l),?_,ks,K.tb.nd,λl=>⟨λh=>by rw[<- Pk l];exact K.tb.Js l h,λh=>?_⟩,Vl λl _=>by rw[Pk l]⟩
 ·have n1:Φ 1030 []=ok (tQ .ow [] λ_=>0):=by rw[Q.P.mY];rfl
  have o1:ak aQ (tQ .ow [] λ_=>0)=false:=Bg _ _ _ _;rw[mk_eq (show[D.lst f (aN qs)].length=1 from rfl)];show jV (aT Φ zr [some (.lst f (aN qs)),none,none,none,none,none,none,none,none,none,none,none,none,none,none,none,none])=_;have zI:jL Φ va [some (.lst f (aN qs)),some (.lst .ow [.tup [qD 1,.tup (aN qs)]]),some (tQ .ow [] λ_=>0),none,none,none,none,none,none,none,none,none,none,none,none,none,none]=_:=e1;simp[zr,mR,n1,o1,zI,e3]
 ·by_cases z:l∈ks
  ·exact z
  ·rw[<- Pk l,K.tb.out l z]at h;exact absurd h (by decide)
noncomputable def D6:List CS:=[.asg (.nm 1) (.call 224 [(.v 0),(.int 0),(.int 6)]),.asg (.nm 2) (.call 226 [(.v 1)]),.asg (.nm 3) (.bf .list1 [(.v 1)]),.asg (.nm 4) (.call 33 [(.v 3)])]
noncomputable def Iu:List CS:=[.ifs (.or [(.not (.ud (.v 4) .tuple)),(.cmp .ne (.v 4) (.v 2)),(.cmp .ne (.v 3) (.v 1))]) [.ret (.bl false)] [],.mut 1014 4 [(.int 1)],.ret (.cmp .eq (.call 33 [(.v 3)]) (.v 2))]
def iQ:List CS:=D6++Iu
theorem Ji(Φ:ay)(Tz:Gh (Φ 33))(Ov:sS (Φ 224))(Ou:Gi (Φ 226))(JY:Φ 1014=zi)(ns:List Int):mk Φ 1 5 iQ [.lst .sc (aa ns)]=ok (.bl true):=by
 obtain⟨qs,B,e1,I⟩:=Ov ns 0 6 (by decide) (by decide) (by decide);obtain⟨rs,e2,D2⟩:=Ou .fz qs B I;obtain⟨hJ,e3,D3⟩:=Tz .fz qs B I;obtain rfl:=D3.one D2;have zI:Φ 224 [.lst .sc (aa ns),.int 0,.int 6]=ok (.lst .ow (aN qs)):=e1;rw[mk_eq (show[D.lst .sc (aa ns)].length=1 from rfl)];show jV (aT Φ iQ [some (.lst .sc (aa ns)),none,none,none,none])=_;have ga:aT Φ D6 [some (.lst .sc (aa ns)),none,none,none,none]=ok (.nx,[some (.lst .sc (aa ns)),some (.lst .ow (aN qs)),some (.tup [.int qs.length,.lst .ow (i_ hJ)]),some (.lst .ow (aN qs)),some (.tup [.int qs.length,.lst .ow (i_ hJ)])]):=by
  simp[D6,zI,e2,e3]
 have PL:∀ f,ck 40 (.lst f (aN qs))=true:=λf=>by rw[tU];exact j7 (λq=>mS 38 q) qs
 have Lf:∀ f,ck 40 (.tup [.int qs.length,.lst f (i_ hJ)])=true:=λf=>by
  have:(i_ hJ).all (ck 38)=true:=j7 (λr=>ID 36 r) hJ;simp[this]
 have Uh:∀ f g,cJ .ne (.lst f (aN qs)) (.lst g (aN qs))=ok (.bl false):=λf g=>by
  rw[BH (PL f) (PL g)];show ok (D.bl (!cI (qs.map qD) (qs.map qD)))=_;rw[iI uC];simp
 have ct:∀ f g,jh (.tup [.int qs.length,.lst f (i_ hJ)]) (.tup [.int qs.length,.lst g (i_ hJ)])=true:=λf g=>by
  rw[uB,eC,eC,Bp,Bo];simp
 have c1:∀ f g,cJ .ne (.tup [.int qs.length,.lst f (i_ hJ)]) (.tup [.int qs.length,.lst g (i_ hJ)])=ok (.bl false):=λf g=>by rw[BH (Lf f) (Lf g),ct];rfl
 have c2:∀ f g,cJ .eq (.tup [.int qs.length,.lst f (i_ hJ)]) (.tup [.int qs.length,.lst g (i_ hJ)])=ok (.bl true):=λf g=>by rw[BI (Lf f) (Lf g),ct]
 have m1:=iW (Φ:=Φ) (p:=1014) (i:=4) (es:=[(.int 1)]) (ρ:=[some (.lst .sc (aa ns)),some (.lst .ow (aN qs)),some (.tup [.int qs.length,.lst .ow (i_ hJ)]),some (.lst .ow (aN qs)),some (.tup [.int qs.length,.lst .ow (i_ hJ)])]) (xs:=[.int 1]) (d':=.tup [.int qs.length,.lst .ow []]) rfl rfl rfl (by rw[JY];rfl);simp only[List.set]at m1;rw[iQ,j4 Φ _ _ _ _ ga];simp[Iu,eN,c1,Uh,m1,e3,c2]
end DI
end
section
namespace DI
open PySem PySem.Spec PyProof.Rows L2
noncomputable def Df(K:PySem.W.Frag)(x:Str)(st:Stmt):Prop:=∃ f fd,B1 K x x st f fd/\PySem.W.nsIn K mainGlobals x=some (some (.ref f))
variable {K:PySem.W.Frag}{st:Stmt}
theorem dmk{x:Str}{f:Addr}{oc:Value}{od an:Option Addr}{sl:Array (Option Value)}{kV dc pm cd ct:Value}(a:PySem.W.nsIn K mainGlobals x=some (some (.ref f)))(l:K.lookup f=some ⟨oc,od,.func (PySem.W.fnOf x x (eR st) (cj st) (aI st) .none kV dc pm an cd ct),sl⟩)(c:PySem.W.codeIn K cd x=true)(k:PySem.W.keepIn K (.ref f)=true):Df K x st:=⟨f,_,Fw l c k,a⟩
noncomputable def QI(N P:List Str)(sc:Scope):Bool:=decide (sc.kind=.function)&&(!sc.isCoroutine&&(!sc.isGenerator&&(decide N.Nodup&&(decide (N.take P.length=P)&&(P.all (λx=>decide (sc.names.lookup x=some .local\/sc.names.lookup x=some .cell))&&sc.names.all λy=>decide (y.2≠.free))))))
variable {N:List Str}
theorem CH{P:List Str}{sc:Scope}(h:QI N P sc=true):gg N P sc:=by
 obtain⟨h1,h⟩:=ah h;obtain⟨h2,h⟩:=ah h;obtain⟨h3,h⟩:=ah h;obtain⟨h4,h⟩:=ah h;obtain⟨h5,h⟩:=ah h;obtain⟨h6,h7⟩:=ah h;exact⟨U7 h1,iz h2,iz h3,U7 h4,U7 h5,λx hx=>U7 (List.all_eq_true.mp h6 x hx),λy hy=>U7 (List.all_eq_true.mp h7 y hy)⟩
def iU(st:Stmt)(N ps:List Str)(tb:List (Nat×Str))(bl:List Str)(cs:List (Str×GK))(px:Px)(b:List CS):Bool:=QI N ps (aI st)&&iM ⟨aI st,N,λn=>List.lookup n tb,bl,cs,px⟩ b (cj st)
theorem u1{α:Type}{P:List α->Prop}(h:∀ a,P [a])(us:List α)(e:us.length=1):P us:=by obtain⟨a,rfl⟩:=Jd e;exact h a
theorem u2{α:Type}{P:List α->Prop}(h:∀ a b,P [a,b])(us:List α)(e:us.length=2):P us:=by obtain⟨a,b,rfl⟩:=Jb e;exact h a b
theorem u3{α:Type}{P:List α->Prop}(h:∀ a b c,P [a,b,c])(us:List α)(e:us.length=3):P us:=by obtain⟨a,b,c,rfl⟩:=Ja e;exact h a b c
theorem u4{α:Type}{P:List α->Prop}(h:∀ a b c d,P [a,b,c,d])(us:List α)(e:us.length=4):P us:=by obtain⟨a,b,c,d,rfl⟩:=Ni e;exact h a b c d
theorem u5{α:Type}{P:List α->Prop}(h:∀ a b c d e,P [a,b,c,d,e])(us:List α)(e:us.length=5):P us:=by
 match us,e with
 | [a,b,c,d,e],_=>exact h a b c d e
variable {P:Program}{base:Heap}{mg:Str->Option Value}{w:World}
theorem Ent.u{k k':Nat}{y:Str}{m:List D->O D}(h:Ent P w K mg base k y m)(hk:k<=k':=by decide):Ent P w K mg base k' y m:=h.up hk
theorem en{P:Program}{w:World}{K:PySem.W.Frag}{h base:Heap}{mg:Str->Option Value}(X:K.In h)(G:h.Ns mainGlobals mg)⦃x:Str⦄⦃st:Stmt⦄⦃N ps bl:List Str⦄⦃tb:List (Nat×Str)⦄⦃cs:List (Str×GK)⦄⦃px:Px⦄⦃b:List CS⦄(k:Nat)(Φ:ay)(m:List D->O D)(d:Df K x st)(hc:iU st N ps tb bl cs px b=true)
  (hp:sU px Φ/\Gj px Φ) (Fc:dA (λy=>mg y=none) bl) (vQ:dA (λp:Str×GK=>∃ u,mg p.1=some u/\CZ K p.2 u) cs)
  (hf:dA (λp:Nat×Str=>Ent P w K mg base k p.2 (Φ p.1)) tb) (hm:∀ ds r,m ds=ok r->ds.length=ps.length/\nK Φ N.length b ds=ok r) (hb:∀(kV doc pm:Value) (an:Option Addr) (iV ct:Value) (us:List Value),us.length=ps.length->bindArgs (PySem.W.fnOf x x (eR st) (cj st) (aI st) .none kV doc pm an iV ct) ⟨us,[]⟩=pure (ps.zip us):=by first | exact λ_ _ _ _ _ _=>u1 λ_=>rfl | exact λ_ _ _ _ _ _=>u2 λ_ _=>rfl | exact λ_ _ _ _ _ _=>u3 λ_ _ _=>rfl | exact λ_ _ _ _ _ _=>u4 λ_ _ _ _=>rfl | exact λ_ _ _ _ _ _=>u5 λ_ _ _ _ _=>rfl):Ent P w K mg base (k+1) x m:=by
 obtain⟨f,fd,Fu,a⟩:=d;obtain⟨h1,h2⟩:=ah hc;exact ent Fu (PySem.W.mg_of X G a) (Fu.binds hb) (CH h1) h2 hp.1 hp.2 (dA.mem Fc) (dA.two (P:=λy i=>∃ u,mg y=some u/\CZ K i u) vQ) (dA.tab (P:=λg y=>Ent P w K mg base k y (Φ g)) hf) hm
theorem TV{x:Str}{ps bl:List Str}{tb:List (Nat×Str)}{cs:List (Str×GK)}{px:Px}{b:List CS}{f:Addr}{fd:FuncData}(k:Nat)(Φ:ay)(m:List D->O D)(Fu:B1 K x x st f fd)(hc:iU st N ps tb bl cs px b=true)
  (hp:sU px Φ/\Gj px Φ) (Fc:dA (λy=>mg y=none) bl) (vQ:dA (λp:Str×GK=>∃ u,mg p.1=some u/\CZ K p.2 u) cs)
  (hf:dA (λp:Nat×Str=>Ent P w K mg base k p.2 (Φ p.1)) tb) (hm:∀ ds r,m ds=ok r->ds.length=ps.length/\nK Φ N.length b ds=ok r):gm P w K mg base wI (k+1) f fd ps (Ag K ps.length m):=by
 obtain⟨h1,h2⟩:=ah hc;exact ql Fu (CH h1) h2 hp.1 hp.2 (dA.mem Fc) (dA.two (P:=λy i=>∃ u,mg y=some u/\CZ K i u) vQ) (λg y h=>(dA.tab (P:=λg y=>Ent P w K mg base k y (Φ g)) hf g y h).ex) hm
end DI
end
namespace PySem.W.Fast
def tw12909161813915825036:=0
def tw3493661650844556558:=0
def tw2420132330307220736:=0
def tw2091613321747731825:=0
def tw10874116214801411231:=0
def tw4175976547366418259:=0
def tw11904968588011393333:=0
def tw13245710401843064122:=0
def tw3307711402158918279:=0
def tw1962340627902155553:=0
def tw14699154771833778533:=0
def tw1982500371543803733:=0
def tw18405811964231111311:=0
def tw17529682849251479551:=0
def tw724094007095263138:=0
def tw3787826978167545849:=0
def tw18170150544950476896:=0
def tw14940584810097459319:=0
def tw2496344511469811618:=0
def tw6741292138447651725:=0
def tw17945994346792556619:=0
def tw8157474012083260323:=0
def tw14964441108440502177:=0
def tw5331667785375058093:=0
def tw3313646273099280598:=0
def tw11828949000747743591:=0
def tw16088745390769140180:=0
def tw13683374674122589989:=0
def tw11028745942912117572:=0
def tw14056841841510540417:=0
def tw2312912072162596441:=0
def tw692927139424238868:=0
def tw17273352117647632352:=0
def tw12046306746372174181:=0
def tw6350671747388322014:=0
def tw18248755807705559581:=0
def tw14729825913880683969:=0
def tw12139254232378485937:=0
def tw6508953575622214760:=0
def tw3555529112748868383:=0
def tw4193729426992143165:=0
def tw13285674864484528871:=0
def tw17036642499027097736:=0
def tw1736204052408653195:=0
def tw4696151343934923801:=0
def tw4825034807552265747:=0
def tw15049096982790447113:=0
def tw6484335026035845676:=0
def tw952226530822924135:=0
def tw792752384606750095:=0
def tw783511722385720241:=0
def tw18421999253927548776:=0
def tw7746562764513431082:=0
def tw1479166141841332922:=0
def tw599701638001764960:=0
def tw1599959630992344067:=0
def tw7921027680325565869:=0
def tw9673949703452315758:=0
def tw626443999571680352:=0
def tw13007772714550191031:=0
def tw9540197563398406695:=0
def tw4829685107201362328:=0
def tw1118859675765953840:=0
def tw1180042008210902843:=0
def tw9756154766937117313:=0
def tw4676908111918743578:=0
def tw2583764270782279638:=0
def tw18187847688305011837:=0
def tw10077645975918449616:=0
def tw15826862381269688680:=0
def tw11656237872872861217:=0
def tw11653358357722706100:=0
def tw3378952499847072112:=0
def tw4298885106157951268:=0
def tw6211971893405215929:=0
def tw6359396196831846099:=0
def tw1673182868342933787:=0
def tw3081805457215945564:=0
def tw8136339456555592153:=0
def tw4519788566466395832:=0
def tw14226086522936173671:=0
def tw11610900620720215701:=0
def tw4860794180817253329:=0
def tw8152041761812698384:=0
def tw4533373961209795137:=0
def tw7669545927656344442:=0
def tw6838071452251225145:=0
def tw3514143608781336054:=0
def tw18048809723590095731:=0
def tw15536638576698470494:=0
def tw15390087043470881410:=0
def tw272291138486116970:=0
def tw6501947221725292390:=0
def tw14660399722788186082:=0
def tw16103658913028729428:=0
def tw13120720722595427484:=0
def tw7703554666491201390:=0
def tw7424179302176329984:=0
def tw8164635644036626381:=0
end PySem.W.Fast
namespace Asm
open PySem PySem.Spec PyProof.Rows L2 DI
noncomputable def top(i:Nat):Stmt:=PySem.Challenge.pw_sharesample_k13_houses_in_pairs.main.body.getD i (.Pass ⟨0,0,0,0⟩)
def px:Px:=⟨λn sc bl e=>if n=1030 then oF sc bl e else if n=1031 then km sc bl e else if n=1032 then sI sc bl e else if n=1034 then oE sc bl e else if n=1035 then fQ "sorted" sc bl e else if n=1037 then fQ "list" sc bl e else none,λn sc bl e=>if n=1002 then fQ "enumerate" sc bl e else if n=1003 then iO sc bl e else none,λn sc bl e=>if n=1010 then kh sc bl e else if n=1014 then oH sc bl e else if n=1033 then ki sc bl e else none⟩
structure Pq(Φ:ay):Prop where
 Kf:Φ 1002=fM:=by rfl
 Ke:Φ 1003=cX:=by rfl
 Kd:Φ 1010=ly:=by rfl
 Kc:Φ 1014=zi:=by rfl
 mY:Φ 1030=qt:=by rfl
 ur:Φ 1031=lR:=by rfl
 qj:Φ 1032=sk:=by rfl
 qi:Φ 1033=lO:=by rfl
 Kb:Φ 1034=ji:=by rfl
 uq:Φ 1035=gH:=by rfl
 Ka:Φ 1037=lP:=by rfl
variable {Φ:ay}
theorem MW(q:Pq Φ):sU px Φ:=⟨(λX sc bl k L p e args he F cs hs=>by
  dsimp only[px]at he;by_cases hp:p=1030
  ·subst hp;rw[if_pos rfl]at he;exact Bt q.mY L he hs
  rw[if_neg hp]at he;clear hp;by_cases hp:p=1031
  ·subst hp;rw[if_pos rfl]at he;exact BA q.ur L he hs
  rw[if_neg hp]at he;clear hp;by_cases hp:p=1032
  ·subst hp;rw[if_pos rfl]at he;exact F3 q.qj L he hs
  rw[if_neg hp]at he;clear hp;by_cases hp:p=1034
  ·subst hp;rw[if_pos rfl]at he;exact yZ q.Kb L he hs
  rw[if_neg hp]at he;clear hp;by_cases hp:p=1035
  ·subst hp;rw[if_pos rfl]at he;exact yY q.uq L he hs
  rw[if_neg hp]at he;clear hp;by_cases hp:p=1037
  ·subst hp;rw[if_pos rfl]at he;exact y_ q.Ka L he hs
  rw[if_neg hp]at he;clear hp;cases he),(λX sc bl k L p e args he F cs tg ht hs pins s σ H R τ ρ xs d items I Si bU ed ei Rr hR=>by
  dsimp only[px]at he;by_cases hp:p=1002
  ·subst hp;rw[if_pos rfl]at he;exact yT q.Kf L he ht hs I Si bU ed ei Rr hR
  rw[if_neg hp]at he;clear hp;by_cases hp:p=1003
  ·subst hp;rw[if_pos rfl]at he;exact wa q.Ke L he ht hs I Si bU ed ei Rr hR
  rw[if_neg hp]at he;clear hp;cases he)⟩
theorem R7(q:Pq Φ):Gj px Φ:=⟨(λX sc bl k L hN rZ p st x pos args he i hi hl pe F cs hs=>by
  dsimp only[px]at he;by_cases hp:p=1010
  ·subst hp;rw[if_pos rfl]at he;exact Ba q.Kd L hN rZ he hi hl pe hs
  rw[if_neg hp]at he;clear hp;by_cases hp:p=1014
  ·subst hp;rw[if_pos rfl]at he;exact F8 q.Kc L hN rZ he hi hl pe hs
  rw[if_neg hp]at he;clear hp;by_cases hp:p=1033
  ·subst hp;rw[if_pos rfl]at he;exact Bs q.qi L hN rZ he hi hl pe hs
  rw[if_neg hp]at he;clear hp;cases he)⟩
theorem pr(q:Pq Φ):sU px Φ/\Gj px Φ:=⟨MW q,R7 q⟩
noncomputable def PT:ay
 | 1002=>fM
 | 1003=>cX
 | 1010=>ly
 | 1014=>zi
 | 1030=>qt
 | 1031=>lR
 | 1032=>sk
 | 1033=>lO
 | 1034=>ji
 | 1035=>gH
 | 1037=>lP
 | _=>λ_=>none
noncomputable def gX:ay
 | n=>PT n
noncomputable def b9:List D->O D:=mk gX 2 4 (iP)
noncomputable def jz:ay
 | 201=>b9
 | n=>PT n
noncomputable def ju:List D->O D:=mk jz 2 2 (uO 201)
noncomputable def fX:ay
 | n=>PT n
noncomputable def fT:List D->O D:=mk fX 2 2 (kA)
noncomputable def jy:ay
 | 201=>b9
 | n=>PT n
noncomputable def jt:List D->O D:=mk jy 2 2 (kr 201)
noncomputable def jx:ay
 | 201=>b9
 | n=>PT n
noncomputable def js:List D->O D:=mk jx 2 2 (oO 201)
noncomputable def gY:ay
 | 201=>b9
 | 202=>ju
 | 203=>jt
 | 222=>js
 | 223=>fT
 | n=>PT n
noncomputable def gR:List D->O D:=mk gY 1 17 (zr)
noncomputable def gZ:ay
 | n=>PT n
noncomputable def gS:List D->O D:=mk gZ 2 4 (cK)
noncomputable def eZ:ay
 | 200=>gS
 | 201=>b9
 | n=>PT n
noncomputable def eW:List D->O D:=mk eZ 3 10 (oN)
noncomputable def cz:ay
 | n=>PT n
noncomputable def bq:List D->O D:=mk cz 2 3 (bP)
noncomputable def g5:ay
 | n=>PT n
noncomputable def gT:List D->O D:=mk g5 1 1 (eT)
noncomputable def dS:ay
 | 0=>gT
 | 1=>bq
 | n=>PT n
noncomputable def dR:List D->O D:=mk dS 1 1 (aP)
noncomputable def g9:ay
 | 3=>dR
 | n=>PT n
noncomputable def gU:List D->O D:=mk g9 1 1 (ku)
noncomputable def cP:ay
 | 23=>gU
 | n=>PT n
noncomputable def cM:List D->O D:=mk cP 2 2 (oM)
noncomputable def cQ:ay
 | 1=>bq
 | n=>PT n
noncomputable def b0:List D->O D:=mk cQ 1 3 (bA)
noncomputable def fV:ay
 | n=>PT n
noncomputable def dI:List D->O D:=mk fV 2 2 (dF)
noncomputable def gW:ay
 | 9=>b0
 | 10=>dI
 | n=>PT n
noncomputable def gQ:List D->O D:=mk gW 1 3 (kz)
noncomputable def dw:ay
 | 24=>cM
 | 25=>gQ
 | n=>PT n
noncomputable def du:List D->O D:=mk dw 1 1 (uS)
noncomputable def dU:ay
 | 1=>bq
 | n=>PT n
noncomputable def cD:List D->O D:=mk dU 2 3 (bE)
noncomputable def fb:ay
 | 2=>cD
 | n=>PT n
noncomputable def eY:List D->O D:=mk fb 3 3 (uR)
noncomputable def fU:ay
 | n=>PT n
noncomputable def dH:List D->O D:=mk fU 2 2 (uN)
noncomputable def e_:ay
 | 2=>cD
 | 34=>dH
 | n=>PT n
noncomputable def eX:List D->O D:=mk e_ 2 5 (wm)
noncomputable def jw:ay
 | n=>PT n
noncomputable def jr:List D->O D:=mk jw 4 6 (zq)
noncomputable def fW:ay
 | 34=>dH
 | 37=>jr
 | n=>PT n
noncomputable def fS:List D->O D:=mk fW 3 9 (BN)
noncomputable def dv:ay
 | n=>PT n
noncomputable def dt:List D->O D:=mk dv 2 5 (BM)
noncomputable def cO:ay
 | 9=>b0
 | 10=>dI
 | 18=>eY
 | 26=>du
 | 35=>eX
 | 36=>fS
 | 38=>dt
 | n=>PT n
noncomputable def cL:List D->O D:=mk cO 1 6 (BO)
noncomputable def zB:ay
 | 33=>cL
 | 224=>eW
 | 226=>gR
 | n=>PT n
noncomputable def KR:List D->O D:=mk zB 1 5 (iQ)
theorem w8:eV b9:=Ap gX
theorem Mw:qQ ju:=HQ jz (f:=201) w8
theorem Mt:kC fT:=Aq fX
theorem Mv:gf jt:=Am jy (f:=201) w8
theorem Mu:lZ js:=DF jx (f:=201) w8
theorem Mr:Gi gR:=MG gY ⟨⟨rfl,rfl,rfl,rfl,rfl⟩,w8,Mw,Mv,Mu,Mt⟩
theorem Mx:sT gS:=DG gZ
theorem Ms:sS eW:=DE eZ Mx w8
theorem t1:aA bq:=bO cz
theorem t0:eU gT:=eH g5
theorem t3:dQ dR:=cA dS t0 t1
theorem RJ:oR gU:=An g9 t3
theorem RI:zw cM:=HR cP RJ
theorem t9:bZ b0:=bX cQ t1
theorem Pz:dG dI:=dC fV
theorem RH:oS gQ:=Ao gW t9 Pz
theorem RG:zy du:=HU dw RI RH
theorem t2:cC cD:=cB dU t1
theorem RK:zx eY:=HS fb ⟨rfl,rfl,rfl,rfl,rfl⟩ t2
theorem Py:qP dH:=HP fU rfl
theorem RE:BY eX:=MH e_ t2 Py
theorem RC:BX jr:=MF jw
theorem RD:BW fS:=MD fW ⟨rfl,rfl,rfl,rfl,rfl⟩ Py RC rfl
theorem RB:Gg dt:=MC dv ⟨rfl,rfl,rfl,rfl,rfl⟩ rfl rfl
theorem RF:Gh cL:=ME cO t9 Pz RK RG RE RD RB rfl rfl rfl
theorem vy:∀ ns:List Int,KR [.lst .sc (aa ns)]=ok (.bl true):=Ji zB RF Ms Mr rfl
abbrev kY:Stmt:=top 27
theorem qz:iU kY ["_law_top","_law_bottom","_law_one","_law_other"] ["_law_top","_law_bottom"] [] ["abs"] [] px (iP)=true:=by decide +kernel
abbrev mN:Stmt:=top 28
theorem sE:iU mN ["_law_one","_law_other"] ["_law_one","_law_other"] [(201,"_law_frac")] [] [] px (uO 201)=true:=by decide +kernel
abbrev jF:Stmt:=top 31
theorem oB:iU jF ["_law_one","_law_other"] ["_law_one","_law_other"] [] [] [] px (kA)=true:=by decide +kernel
abbrev mM:Stmt:=top 29
theorem sD:iU mM ["_law_one","_law_other"] ["_law_one","_law_other"] [(201,"_law_frac")] [] [] px (kr 201)=true:=by decide +kernel
abbrev mL:Stmt:=top 30
theorem sC:iU mL ["_law_one","_law_other"] ["_law_one","_law_other"] [(201,"_law_frac")] [] [] px (oO 201)=true:=by decide +kernel
abbrev kZ:Stmt:=top 33
theorem qA:iU kZ ["_law_shares_here","_law_piles","_law_done","_law_chance","_law_now","_law_rest","_law_lot","_law_one","_law_two","_law_both","_law_over","_law_wins","_law_through","_law_ends_here","_law_share","_law_turn","_law_new"] ["_law_shares_here"] [(201,"_law_frac"),(202,"_law_add"),(203,"_law_mul"),(222,"_law_sub"),(223,"_law_below")] ["len","list","range","sorted","tuple"] [] px (zr)=true:=by decide +kernel
abbrev k0:Stmt:=top 26
theorem qB:iU k0 ["_law_script","_law_k","_law_cell_here","_law_number"] ["_law_script","_law_k"] [] ["len"] [] px (cK)=true:=by decide +kernel
abbrev iq:Stmt:=top 32
theorem mq:iU iq ["_law_script","_law_at","_law_most","_law_number","_law_many","_law_bottom","_law_tops","_law_k","_law_lack","_law_less"] ["_law_script","_law_at","_law_most"] [(200,"_law_cell"),(201,"_law_frac")] ["min","range","sum"] [] px (oN)=true:=by decide +kernel
abbrev bO:Stmt:=top 6
theorem iL:iU bO ["one","other","rest"] ["one","other"] [] ["abs"] [] px (bP)=true:=by decide +kernel
abbrev eH:Stmt:=top 5
theorem qC:iU eH ["thing"] ["thing"] [] ["bool","int","isinstance"] [] px (eT)=true:=by decide +kernel
abbrev cA:Stmt:=top 8
theorem lT:iU cA ["thing"] ["thing"] [(0,"is_whole"),(1,"common_divisor")] ["isinstance","len","tuple"] [] px (aP)=true:=by decide +kernel
abbrev k7:Stmt:=top 15
theorem qE:iU k7 ["thing"] ["thing"] [(3,"is_fraction")] [] [] px (ku)=true:=by decide +kernel
abbrev fh:Stmt:=top 16
theorem jl:iU fh ["thing","most"] ["thing","most"] [(23,"is_share")] ["all","isinstance","len","list"] [] px (oM)=true:=by decide +kernel
abbrev bX:Stmt:=top 9
theorem jm:iU bX ["some","bottom","part"] ["some"] [(1,"common_divisor")] [] [] px (bA)=true:=by decide +kernel
abbrev dC:Stmt:=top 10
theorem oz:iU dC ["some","bottom"] ["some","bottom"] [] [] [] px (dF)=true:=by decide +kernel
abbrev kX:Stmt:=top 17
theorem qy:iU kX ["shares","bottom","total"] ["shares"] [(9,"common_bottom"),(10,"tops_over")] ["sum"] [] px (kz)=true:=by decide +kernel
abbrev fF:Stmt:=top 18
theorem jY:iU fF ["thing"] ["thing"] [(24,"is_share_list"),(25,"lot_size")] [] [("MOST_HOUSES",GK.i 12)] px (uS)=true:=by decide +kernel
abbrev cB:Stmt:=top 7
theorem lU:iU cB ["top","bottom","divisor"] ["top","bottom"] [(1,"common_divisor")] [] [] px (bE)=true:=by decide +kernel
abbrev iu:Stmt:=top 13
theorem mv:iU iu ["many","weights","bottom"] ["many","weights","bottom"] [(2,"fraction_of")] ["sorted"] [] px (uR)=true:=by decide +kernel
abbrev jD:Stmt:=top 20
theorem oy:iU jD ["parts","whole"] ["parts","whole"] [] ["enumerate"] [] px (uN)=true:=by decide +kernel
abbrev ir:Stmt:=top 21
theorem mr:iU ir ["parts","whole","two","one","other"] ["parts","whole"] [(2,"fraction_of"),(34,"unsettled")] [] [] px (wm)=true:=by decide +kernel
abbrev mK:Stmt:=top 23
theorem sA:iU mK ["parts","winner","loser","whole","both","after"] ["parts","winner","loser","whole"] [] ["list","min","tuple"] [] px (zq)=true:=by decide +kernel
abbrev jE:Stmt:=top 22
theorem oA:iU jE ["ways","chance","whole","after","parts","weight","two","won","lost"] ["ways","chance","whole"] [(34,"unsettled"),(37,"outcome")] [] [] px (BN)=true:=by decide +kernel
abbrev fE:Stmt:=top 24
theorem jX:iU fE ["ways","whole","weights","parts","weight"] ["ways","whole"] [] ["enumerate","tuple"] [] px (BM)=true:=by decide +kernel
abbrev fg:Stmt:=top 19
theorem jk:iU fg ["shares","whole","start","ways","bottom","chance"] ["shares"] [(9,"common_bottom"),(10,"tops_over"),(18,"drawing_of"),(26,"check_shares"),(35,"first_wins"),(36,"played_on"),(38,"settled_lots")] ["len","list","tuple"] [] px (BO)=true:=by decide +kernel
abbrev pH:Stmt:=top 34
theorem F9:iU pH ["_law_script","_law_shares_here","_law_due","_law_handed","_law_found"] ["_law_script"] [(33,"pairs_drawing"),(224,"_law_shares"),(226,"_law_ends")] ["isinstance","list","tuple"] [] px (iQ)=true:=by decide +kernel
theorem all_mk{l:PySem.W.OpenLaw}{w:World}{K:PySem.W.Frag}{h:Heap}{mg:Str->Option Value}{fa:Addr}{u0:Value}(X:K.In h)(G:h.Ns mainGlobals mg)(S8:mg "law" = some (.ref fa))
  (a0:Df K "_law_frac" kY)
  (a1:Df K "_law_add" mN)
  (a2:Df K "_law_below" jF)
  (a3:Df K "_law_mul" mM)
  (a4:Df K "_law_sub" mL)
  (a5:Df K "_law_ends" kZ)
  (a6:Df K "_law_cell" k0)
  (a7:Df K "_law_shares" iq)
  (a8:Df K "common_divisor" bO)
  (a9:Df K "is_whole" eH)
  (a10:Df K "is_fraction" cA)
  (a11:Df K "is_share" k7)
  (a12:Df K "is_share_list" fh)
  (a13:Df K "common_bottom" bX)
  (a14:Df K "tops_over" dC)
  (a15:Df K "lot_size" kX)
  (a16:Df K "check_shares" fF)
  (a17:Df K "fraction_of" cB)
  (a18:Df K "drawing_of" iu)
  (a19:Df K "unsettled" jD)
  (a20:Df K "first_wins" ir)
  (a21:Df K "outcome" mK)
  (a22:Df K "played_on" jE)
  (a23:Df K "settled_lots" fE)
  (a24:Df K "pairs_drawing" fg)
  (a25:Df K "law" pH)
  (z0:PySem.W.nsIn K mainGlobals "abs" = some none)
  (z1:PySem.W.nsIn K mainGlobals "all" = some none)
  (z2:PySem.W.nsIn K mainGlobals "bool" = some none)
  (z3:PySem.W.nsIn K mainGlobals "enumerate" = some none)
  (z4:PySem.W.nsIn K mainGlobals "int" = some none)
  (z5:PySem.W.nsIn K mainGlobals "isinstance" = some none)
  (z6:PySem.W.nsIn K mainGlobals "len" = some none)
  (z7:PySem.W.nsIn K mainGlobals "list" = some none)
  (z8:PySem.W.nsIn K mainGlobals "min" = some none)
  (z9:PySem.W.nsIn K mainGlobals "range" = some none)
  (z10:PySem.W.nsIn K mainGlobals "sorted" = some none)
  (z11:PySem.W.nsIn K mainGlobals "sum" = some none)
  (z12:PySem.W.nsIn K mainGlobals "tuple" = some none)
  (q0:PySem.W.nsIn K mainGlobals "MOST_HOUSES" = some (some u0)) (r0:RelV (.int 12) u0) :
  ∃ fd:FuncData,(∀(s:Shared) (v:Value),BindsTo s fd ⟨[v],[]⟩ [("_law_script",v)])/\∀ base:Heap,K.In base->base.Ns mainGlobals mg->gm l.prog w K mg base wI 27 fa fd ["_law_script"] (Ag K 1 n4):=by
 obtain⟨f,fd,Fu,a⟩:=a25;have e:=S8.symm.trans (PySem.W.mg_of X G a);cases e;obtain⟨oc,od,kV,dc,pm,an,cd,ct,sl,rfl,_,_⟩:=id Fu.ex;have y0:=Vm X G z0;have y1:=Vm X G z1;have y2:=Vm X G z2;have y3:=Vm X G z3;have y4:=Vm X G z4;have y5:=Vm X G z5;have y6:=Vm X G z6;have y7:=Vm X G z7;have y8:=Vm X G z8;have y9:=Vm X G z9;have Pl:=Vm X G z10;have Pj:=Vm X G z11;have Gp:=Vm X G z12;have x0:∃ u,mg "MOST_HOUSES" = some u/\CZ K (GK.i 12) u:=⟨_,PySem.W.mg_of X G q0,r0⟩
 refine⟨PySem.W.fnOf "law" "law" (eR pH) (cj pH) (aI pH) .none kV dc pm an cd ct,λs v=>.of_eq rfl,λbase _ _=>?_⟩;have N:=@en l.prog w K h base mg X G;have E0:=N 1 gX b9 a0 qz (pr {}) ⟨y0,trivial⟩ trivial trivial aK;have E1:=N 2 jz ju a1 sE (pr {}) trivial trivial ⟨E0.u,trivial⟩ aK;have E2:=N 3 fX fT a2 oB (pr {}) trivial trivial trivial aK;have E3:=N 4 jy jt a3 sD (pr {}) trivial trivial ⟨E0.u,trivial⟩ aK;have E4:=N 5 jx js a4 sC (pr {}) trivial trivial ⟨E0.u,trivial⟩ aK;have E5:=N 6 gY gR a5 qA (pr {}) ⟨y6,y7,y9,Pl,Gp,trivial⟩ trivial ⟨E0.u,E1.u,E3.u,E4.u,E2.u,trivial⟩ aK;have E6:=N 7 gZ gS a6 qB (pr {}) ⟨y6,trivial⟩ trivial trivial aK;have E7:=N 8 eZ eW a7 mq (pr {}) ⟨y8,y9,Pj,trivial⟩ trivial ⟨E6.u,E0.u,trivial⟩ aK;have E8:=N 9 cz bq a8 iL (pr {}) ⟨y0,trivial⟩ trivial trivial aK;have E9:=N 10 g5 gT a9 qC (pr {}) ⟨y2,y4,y5,trivial⟩ trivial trivial aK;have UJ:=N 11 dS dR a10 lT (pr {}) ⟨y5,y6,Gp,trivial⟩ trivial ⟨E9.u,E8.u,trivial⟩ aK;have UI:=N 12 g9 gU a11 qE (pr {}) trivial trivial ⟨UJ.u,trivial⟩ aK;have UH:=N 13 cP cM a12 jl (pr {}) ⟨y1,y5,y6,y7,trivial⟩ trivial ⟨UI.u,trivial⟩ aK;have Rh:=N 14 cQ b0 a13 jm (pr {}) trivial trivial ⟨E8.u,trivial⟩ aK;have Rg:=N 15 fV dI a14 oz (pr {}) trivial trivial trivial aK;have UG:=N 16 gW gQ a15 qy (pr {}) ⟨Pj,trivial⟩ trivial ⟨Rh.u,Rg.u,trivial⟩ aK;have UE:=N 17 dw du a16 jY (pr {}) trivial ⟨x0,trivial⟩ ⟨UH.u,UG.u,trivial⟩ aK;have Rf:=N 18 dU cD a17 lU (pr {}) trivial trivial ⟨E8.u,trivial⟩ aK;have UD:=N 19 fb eY a18 mv (pr {}) ⟨Pl,trivial⟩ trivial ⟨Rf.u,trivial⟩ aK;have Rc:=N 20 fU dH a19 oy (pr {}) ⟨y3,trivial⟩ trivial trivial aK;have UC:=N 21 e_ eX a20 mr (pr {}) trivial trivial ⟨Rf.u,Rc.u,trivial⟩ aK;have UB:=N 22 jw jr a21 sA (pr {}) ⟨y7,y8,Gp,trivial⟩ trivial trivial aK;have UA:=N 23 fW fS a22 oA (pr {}) trivial trivial ⟨Rc.u,UB.u,trivial⟩ aK;have Uz:=N 24 dv dt a23 jX (pr {}) ⟨y3,Gp,trivial⟩ trivial trivial aK;have Uy:=N 25 cO cL a24 jk (pr {}) ⟨y6,y7,Gp,trivial⟩ trivial ⟨Rh.u,Rg.u,UD.u,UE.u,UC.u,UA.u,Uz.u,trivial⟩ aK;exact TV 26 zB n4 Fu F9 (pr {}) ⟨y5,y7,Gp,trivial⟩ trivial ⟨Uy.u,E7.u,E5.u,trivial⟩ (x8 λns _=>(aK _ _ (vy ns)).2)
theorem walk{l:PySem.W.OpenLaw}{q:Program}{loose:List Str}{XP:(Str->Option Value)->Heap->Prop}{YP:World->Heap->Prop}{d:DefRec}{K:Params->PySem.W.Frag}(hn:l.most=some 63)(JU:d.params.defaults=[])
  (hY:∀(w:World) (h:Heap),YP w h->(K w.params).In h)
  (F:∀(w:World) (mg:Str->Option Value) (fa:Addr) (h:Heap),(K w.params).In h->h.Ns mainGlobals mg->mg d.name=some (.ref fa) ->
   ∃ fd:FuncData,(∀(s:Shared) (u:Value),BindsTo s fd ⟨[u],[]⟩ [("_law_script",u)])/\∀ base:Heap,(K w.params).In base->base.Ns mainGlobals mg->gm l.prog w (K w.params) mg base wI 27 fa fd ["_law_script"] (Ag (K w.params) 1 n4)) :
  PySem.W.WalkO q loose XP YP l.row.toRowW d [] (λf vs=>PySem.call f vs) :=
 L2.zM (n:=63) (k:=27) (x:="_law_script") (CX:=λ_=>wI) (sp:=λw=>Ag (K w.params) 1 n4) hn (by decide) JU ⟨rfl,by decide,by decide⟩ hY F (λw H a ns hl hO hS=>Eu (K w.params) H a ns n4 (AZ hl) hO hS) λ_ _ _ _ _ z=>z
end Asm
end
open PySem PySem.W PyProof.Rows
set_option maxRecDepth 100000 in
set_option maxHeartbeats 0 in
theorem PySem.Challenge.cw_sharesample_k13_houses_in_pairs_holds : PySem.Challenge.rw_sharesample_k13_houses_in_pairs.Holds := by
 w_on;o_law;k_head;(case hw=>w_witness2)
 k_fill
 refine Asm.walk (l:=PySem.Challenge.rw_sharesample_k13_houses_in_pairs) rfl rfl (fun w h Y=>PySem.W.kIn_of Y) ?F
 case F =>
  intro w mg fa h KX G hmg
  refine' Asm.all_mk KX G hmg ?a0 ?a1 ?a2 ?a3 ?a4 ?a5 ?a6 ?a7 ?a8 ?a9 ?a10 ?a11 ?a12 ?a13 ?a14 ?a15 ?a16 ?a17 ?a18 ?a19 ?a20 ?a21 ?a22 ?a23 ?a24 ?a25 ?z0 ?z1 ?z2 ?z3 ?z4 ?z5 ?z6 ?z7 ?z8 ?z9 ?z10 ?z11 ?z12 ?q0 ?r0
  case a0 | a1 | a2 | a3 | a4 | a5 | a6 | a7 | a8 | a9 | a10 | a11 | a12 | a13 | a14 | a15 | a16 | a17 | a18 | a19 | a20 | a21 | a22 | a23 | a24 | a25 =>
   refine' DI.dmk ?x ?y ?z ?w
   case x | y | z | w=>k_is
  case z0 | z1 | z2 | z3 | z4 | z5 | z6 | z7 | z8 | z9 | z10 | z11 | z12=>k_is
  (case q0=>k_is);(case r0=>exact ⟨_,rfl⟩)

import PyProof.Rows.All
import Wide.All
import OpenK.AllK
import Wide.FinOn
import Lean
import PyProof.EqAt
import PyProof.EqKinds
import PyProof.TupleCall
import PyProof.NeKinds
import KE.BitLaws
import PyProof.SumWalkG
import PyProof.ConsumeWalk
import PyProof.WalksMore
import KE.KSortedM
import PyProof.Rows.SetFrom
import PyProof.CompUse
import PyProof.ZipIter
import PyProof.SliceList
import PyProof.ListRange
import KE.KSortTup
import PyProof.DictRoadsH
import PyProof.DictKinds
import PyProof.DictIter
import PyProof.Rows.DictUnroll
import KE.KDictSum
import PyProof.DictItems
import PyProof.DictItemsLoops
import PyProof.DictValues
import PyProof.DictWalks
import PyProof.Rows.StrJoin2
import PyProof.Rows.StrNews2
import PyProof.StrWalks
import KE.KIntText
import PyProof.Rows.CatFin
import PyProof.Rows.StrPartPair
import PyProof.Rows.StrItems
import PyProof.Rows.StrSplitJoin
import PyProof.StrLawsTight
import PyProof.StrLawsIn
import PyProof.FitsInt
import PyProof.Rows.StrBin
import PySem.Challenge.RW_sharesample_k54_drawings_as_texts
set_option bootstrap.genMatcherCode false
set_option genSizeOf false
set_option genSizeOfSpec false
set_option Elab.async false
set_option linter.all false
set_option maxRecDepth 100000
local macro_rules | `(tactic| left) => `(tactic| first | assumption | exact Nat.zero_le _ | exact Int.natCast_nonneg _ | exact Int.ofNat_lt.mpr (by assumption) | exact Nat.le_of_lt (by assumption) | exact Nat.le_trans (by assumption) (by assumption) | exact Nat.lt_of_lt_of_le (by assumption) (by assumption) | lia | omega)
noncomputable section
abbrev X4:=@PySem.wpAny_bind
abbrev X5:=@of_decide_eq_true
abbrev X6:=@PySem.wpAny_pure
abbrev X7:=@Bool.false_ne_true
abbrev X8:=@PySem.Heap.get?_push_of_some
abbrev X9:=@List.mem_cons_self
abbrev X_:=@List.mem_cons_of_mem
abbrev Ya:=@PySem.Heap.lt_size
abbrev Yb:=@Nat.le_refl
abbrev Yc:=@Nat.lt_of_lt_of_le
abbrev Yd:=@PySem.Heap.get?_push_size
abbrev Ye:=@List.mem_append_right
abbrev Yf:=@Nat.ne_of_lt
abbrev Yg:=@Option.some.inj
abbrev Yh:=@List.getElem?_eq_getElem
abbrev Yi:=@Nat.le_trans
abbrev Yj:=@Nat.ne_of_gt
abbrev Yk:=@List.mem_of_getElem?
abbrev Ym:=@Nat.lt_irrefl
abbrev Yn:=@congrArg
abbrev Yo:=@Nat.lt_of_le_of_lt
abbrev Yp:=@PySem.wpAny_mono
abbrev Yq:=@Nat.pow_le_pow_right
abbrev Yr:=@PyProof.Rows.callWith_type1
abbrev Ys:=@Nat.lt_succ_of_lt
abbrev Yt:=@decide_eq_false
abbrev Yu:=@List.mem_append_left
abbrev Yv:=@if_pos
abbrev Yw:=@List.map_congr_left
abbrev Yx:=@PySem.wpAny_holding
abbrev Yy:=@Nat.zero_le
abbrev Yz:=@PySem.wpAny_call_entry
abbrev YA:=@PySem.Heap.get?_update_other
abbrev YB:=@PySem.wpAny_newObj_type
abbrev YC:=@Array.getElem?_eq_getElem
abbrev YD:=@PySem.wpAny_callSpecial?_slot
abbrev YE:=@PySem.F.slot_dict_keyiterator_next
abbrev YF:=@PySem.sizeLine_eq
abbrev YG:=@List.cons.inj
abbrev YH:=@Nat.lt_succ_self
abbrev YI:=@PySem.Heap.get?_update_self
abbrev YJ:=@PySem.call_meets
abbrev YK:=@PySem.F.slot_dict_valueiterator_next
abbrev YL:=@PySem.wpAny_truthy_bool
abbrev YM:=@PySem.wpAny_typeNameOfWhole_keyiter
abbrev YN:=@PySem.wpAny_typeNameOfWhole_valiter
abbrev YO:=@PySem.mem_of_lookup
abbrev YQ:=@List.mergeSort_perm
abbrev YR:=@decide_eq_true
abbrev YS:=@beq_self_eq_true
abbrev YT:=@PySem.wpAny_Call_Name_kw
abbrev YU:=@PySem.wpAny_passesOwn
abbrev YV:=@PySem.W.kia_one
abbrev YW:=@PySem.wpAny_dictEntries
abbrev YX:=@List.nodup_nil
abbrev YY:=@PySem.wpAny_typeNameOf_keyiter
abbrev YZ:=@PySem.wpAny_typeNameOf_valiter
abbrev Y0:=@Int.mul_fdiv_cancel_left
abbrev Y1:=@PySem.SeqAt.EqAt.same
abbrev Y2:=@PySem.wpAny_dictEpoch
abbrev Y3:=@Bool.false_eq_true
abbrev Y4:=@PySem.F.slot_zip_next
abbrev Y5:=@Nat.lt_trans
abbrev Y6:=@PySem.wpAny_attempt
abbrev Y7:=@PySem.wpAny_field
abbrev Y8:=@List.mem_map_of_mem
abbrev Y9:=@PySem.Heap.SameBut.update
abbrev Y_:=@PySem.codeAny_builtin
abbrev Za:=@beq_false_of_ne
abbrev Zb:=@List.length_map
abbrev Zc:=@List.exists_mem_of_ne_nil
abbrev Zd:=@PySem.SeqAt.EqAt.int_str
abbrev Ze:=@PySem.SeqAt.EqAt.str_int
abbrev Zf:=@PySem.SeqAt.EqAt.int_int
abbrev Zg:=@PySem.F.args_tuple_add_2
abbrev Zh:=@if_neg
abbrev Zi:=@Ne.symm
abbrev Zj:=@PySem.typeIs_str
abbrev Zk:=@PySem.F.entry_tuple_add
abbrev Zm:=@PySem.F.plainAttrs_list
abbrev Zn:=@PySem.F.slot_tuple_add
abbrev Zo:=@PyProof.Rows.subscriptTail_builtinR
abbrev Zp:=@PySem.wpAny_nextOf_list_item
abbrev Zq:=@Int.fmod_nonneg_of_pos
abbrev Zr:=@Rat.intCast_lt_intCast
abbrev Zs:=@PySem.W.mg_of
abbrev Zt:=@List.not_mem_nil
abbrev Zu:=@PySem.F.slot_str_split
abbrev Zv:=@PySem.F.slot_tuple_lt
abbrev Zw:=@PySem.wpAny_isOneOf_valiter
abbrev Zx:=@Eq.symm
abbrev Zy:=@PySem.codeAny_mono
abbrev Zz:=@PySem.SeqAt.EqAt.none_bool
abbrev ZA:=@PySem.SeqAt.EqAt.bool_none
abbrev ZC:=@PySem.SeqAt.EqAt.bool_bool
abbrev ZD:=@PySem.wpAny_updateSeq
abbrev ZE:=@Nat.div_le_self
abbrev ZF:=@Nat.mul_le_mul_right
abbrev ZG:=@PySem.SeqAt.EqAt.none_int
abbrev ZH:=@PySem.SeqAt.EqAt.none_str
abbrev ZI:=@PySem.SeqAt.EqAt.bool_int
abbrev ZJ:=@PySem.SeqAt.EqAt.bool_str
abbrev ZK:=@PySem.SeqAt.EqAt.int_none
abbrev ZL:=@PySem.SeqAt.EqAt.int_bool
abbrev ZM:=@PySem.SeqAt.EqAt.str_none
abbrev ZN:=@PySem.SeqAt.EqAt.str_bool
abbrev ZO:=@ne_true_of_eq_false
abbrev ZP:=@Nat.mul_le_mul_left
abbrev ZQ:=@PySem.wpAny_fieldsOf
abbrev ZR:=@PySem.wpAny_setField
abbrev ZS:=@Nat.le_succ
abbrev ZT:=@PySem.Calls.spliced_cons
abbrev ZU:=@PySem.SeqAt.EqAt.str_str
abbrev ZV:=@PySem.F.args_str_split_2
abbrev ZW:=@Int.fmod_lt_of_pos
abbrev ZX:=@PySem.wpAny_standAt
abbrev ZY:=@PySem.wpAny_newList
abbrev ZZ:=@Nat.le_of_dvd
abbrev Z0:=@PySem.Calls.spliced_nil
abbrev Z1:=@Nat.le_succ_of_le
abbrev Z2:=@PySem.F.entry_str_split
abbrev Z3:=@List.getElem_inj
abbrev Z4:=@List.getElem_mem
abbrev Z5:=@List.ext_getElem
abbrev Z6:=@Int.mul_ne_zero
abbrev Z7:=@if_false
abbrev av:=List (List Int)
abbrev aa:=List Int
abbrev aJ:=List Nat
abbrev af:=List PySem.Str
abbrev ak:=List PySem.Value
abbrev ai:=List PySem.Expr
abbrev aW:=List PySem.Addr
abbrev aO:=List PySem.Stmt
abbrev aM:=List Rat
abbrev aP:=Array PySem.Value
abbrev ao:=PySem.W.Frag
abbrev aB:=PySem.Value->PySem.Shared->Prop
abbrev aj:=List (PySem.Addr×PySem.Obj)
abbrev ah:=PySem.Addr->Prop
abbrev aS:=PySem.Str->Option PySem.Value
abbrev aE:=PySem.Program
abbrev aD:=PySem.Around
namespace L2
open PySem PySem.Spec PyProof.Rows
abbrev Key:=Sum Int Str
noncomputable def Eg:Key->Value->Bool
 |.inl k,v=>Value.isInt k v
 |.inr x,v=>Value.isStrOf x v
noncomputable def Ql(w:World):Key->Int
 |.inl k=>hashInt k
 |.inr x=>hashStr w x
theorem bS:∀{k:Key} {v:Value},Eg k v=true->(∃i t,k=Sum.inl i/\v=Value.int i t)\/(∃x t,k=Sum.inr x/\v=Value.str x t)
 |.inl i,v,h=>by
  obtain⟨t,e⟩:=Value.isInt_shape (k:=i) (v:=v) h;exact .inl ⟨i,t,rfl,e⟩
 |.inr x,v,h=>by
  obtain⟨t,e⟩:=Value.isStrOf_shape (x:=x) (v:=v) h;exact .inr ⟨x,t,rfl,e⟩
theorem GX(a b:Int):decide ((Sum.inl a:Key)=Sum.inl b)=(a==b):=by
 by_cases e:a=b
 ·subst e;simp
 ·have h:¬ (Sum.inl a:Key)=Sum.inl b:=λq=>e (Sum.inl.inj q);rw[decide_eq_false h];exact(beq_eq_false_iff_ne.mpr e).symm
theorem GU(a b:Str):decide ((Sum.inr a:Key)=Sum.inr b)=decide (a=b):=by
 by_cases e:a=b
 ·subst e;simp
 ·have h:¬ (Sum.inr a:Key)=Sum.inr b:=λq=>e (Sum.inr.inj q);rw[decide_eq_false h,decide_eq_false e]
theorem GW(a:Int)(b:Str):decide ((Sum.inl a:Key)=Sum.inr b)=false:=Yt (λq=>nomatch q)
theorem GV(a:Str)(b:Int):decide ((Sum.inr a:Key)=Sum.inl b)=false:=Yt (λq=>nomatch q)
def N0(prog:aE)(w:World):PySem.KeyKind prog w Key where
 is:=Eg
 hash:=Ql w
 inj:=λv a b ha hb=>by
  rcases bS ha with ⟨i,t,rfl,rfl⟩|⟨x,t,rfl,rfl⟩
  ·rcases bS hb with ⟨j,u,rfl,e⟩|⟨y,u,rfl,e⟩
   ·injection e with e1 _;rw[e1]
   ·exact nomatch e
  ·rcases bS hb with ⟨j,u,rfl,e⟩|⟨y,u,rfl,e⟩
   ·exact nomatch e
   ·injection e with e1 _;rw[e1]
 byValue:=λk v h=>by
  rcases bS h with ⟨i,t,rfl,rfl⟩|⟨x,t,rfl,rfl⟩<;>rfl
 pyHash:=λhv h=>by
  rcases bS hv with ⟨i,t,rfl,rfl⟩|⟨x,t,rfl,rfl⟩
  ·exact wpAny_pyHash_int h
  ·exact wpAny_pyHash_str h
 eqBool:=λhu hv h=>by
  rcases bS hu with ⟨i,t,rfl,rfl⟩|⟨x,t,rfl,rfl⟩
  ·rcases bS hv with ⟨j,u,rfl,rfl⟩|⟨y,u,rfl,rfl⟩
   ·rw[GX]at h;exact wpAny_eqBool_int h
   ·rw[GW]at h;exact Zd i t y u _ _ _ _ h
  ·rcases bS hv with ⟨j,u,rfl,rfl⟩|⟨y,u,rfl,rfl⟩
   ·rw[GV]at h;exact Ze x t j u _ _ _ _ h
   ·rw[GU]at h;exact wpAny_eqBool_str h
 «strs»:=λk x t v h=>by
  rcases bS h with ⟨i,u,rfl,e⟩|⟨y,u,rfl,e⟩
  ·exact nomatch e
  ·injection e with e1 _
   subst e1;cases v<;>rfl
end L2
namespace L2
open PySem PySem.Spec PyProof.Rows
inductive V where
 |bw|bl (b:Bool)|int (i:Int)|str (x:Str)|Sl (b:Array UInt8)|RU (b:UInt64)|ref (a:Addr)|ty (n:String)
 deriving DecidableEq
abbrev ae:=List V
def RelV:V->Value->Prop
 |.bw,u=>u=Value.none
 |.bl b,u=>u=Value.bool b
 |.int i,u=>∃t,u=Value.int i t
 |.str x,u=>∃t,u=Value.str x t
 |.Sl b,u=>∃t,u=Value.bytes b t
 |.RU b,u=>∃t,u=Value.float b t
 |.ref a,u=>u=Value.ref a
 |.ty n,u=>u=Value.type n
abbrev Vals:ae->ak->Prop:=Paired RelV
theorem Vals.length{xs:ae}{us:ak}(r:Vals xs us):xs.length=us.length:=Paired.length r
theorem Vals.get:∀{xs:ae} {us:ak} {i:Nat} {x:V},Vals xs us->xs[i]?=some x->∃u,us[i]?=some u/\RelV x u
 |_,_,_,_,.nil,e=>by simp at e
 |_,_,0,_,.cons r _,e=>by simp at e;subst e;exact⟨_,rfl,r⟩
 |_,_,i+1,x,.cons _ t,e=>by
  obtain⟨u,h1,h2⟩:=Vals.get (i:=i) (x:=x) t (by simpa using e);exact⟨u,by simpa using h1,h2⟩
theorem Vals.set{x:V}{u:Value}(r:RelV x u):∀{xs:ae} {us:ak} (i:Nat),Vals xs us->Vals (xs.set i x) (us.set i u)
 |_,_,_,.nil=>.nil
 |_,_,0,.cons _ t=>.cons r t
 |_,_,i+1,.cons q t=>.cons q (Vals.set r i t)
theorem Vals.append:∀{xs ys:ae} {us ws:ak},Vals xs us->Vals ys ws->Vals (xs++ys) (us++ws)
 |_,_,_,_,.nil,s=>s
 |_,_,_,_,.cons r t,s=>.cons r (Vals.append t s)
theorem Vals.take:∀{xs:ae} {us:ak} (n:Nat),Vals xs us->Vals (xs.take n) (us.take n)
 |_,_,0,_=>.nil
 |_,_,_+1,.nil=>.nil
 |_,_,n+1,.cons r t=>.cons r (Vals.take n t)
theorem Vals.drop:∀{xs:ae} {us:ak} (n:Nat),Vals xs us->Vals (xs.drop n) (us.drop n)
 |_,_,0,r=>r
 |_,_,_+1,.nil=>.nil
 |_,_,n+1,.cons _ t=>Vals.drop n t
def AK:Option V->Option Value->Prop
 |some v,some u=>RelV v u
 |none,none=>True
 |_,_=>False
def KV{κ:Type}:List (κ×V)->List (κ×Value)->Prop:=Paired λ(p:κ×V) (q:κ×Value)=>p.1=q.1/\RelV p.2 q.2
noncomputable def kV:Key->V
 |.inl i=>.int i
 |.inr x=>.str x
inductive HO where
 |lst (xs:ae)|tup (xs:ae)|ko (lo hi:Int)|ic (o:Obj) (u:HO)|ext (φ:Heap->Prop)
abbrev Hp:=Addr->Option HO
noncomputable def upd(H:Hp)(a:Addr)(o:HO):Hp:=λb=>if b=a then some o else H b
variable {H:Hp}
theorem aV{a:Addr}{o:HO}:upd H a o a=some o:=by unfold upd;rw[if_pos rfl]
theorem bh{a b:Addr}{o:HO}(h:b≠a):upd H a o b=H b:=by unfold upd;rw[if_neg h]
theorem eu{a b:Addr}{o:HO}(h:H a=some o)(h':H b=none):a≠b:=by
 intro e;subst e;rw[h]at h';cases h'
section
def b_(H:Hp)(h:Heap)(a:Addr):HO->Prop
 |.lst xs=>xs.length<=sizeLine/\∃(aF:ak) (n:Nat),Vals xs aF/\h.get? a=some { cls:=.type "list",data:=.seq aF.toArray n }
 |.tup xs=>xs.length<=sizeLine/\∃aF:ak,Vals xs aF/\IsTup h a aF.toArray
 |.ko lo hi=>∃t u v,h.get? a=some { cls:=.type "range",data:=.fields #[.int lo t,.int hi u,.int 1 v] }
 |.ic o u=>h.get? a=some o/\b_ H h a u
 |.ext φ=>φ h/\(∃o,h.get? a=some o)/\∀h1 h2:Heap,φ h1->(∀o,h1.get? a=some o->h2.get? a=some o)->φ h2
def jO(H:Hp)(h:Heap):Prop:=∀a o,H a=some o->b_ H h a o
end
section
variable {P:aE}{w:World}{H H':Hp}{h h':Heap}{a:Addr}{o:HO}
theorem jR(x:b_ H h a o):∃u,h.get? a=some u:=by
 cases o with
 |lst xs=>obtain⟨_,_,_,_,e⟩:=x;exact⟨_,e⟩
 |tup xs=>obtain⟨_,_,_,o,e,_⟩:=x;exact⟨_,e⟩
 |ko lo hi=>obtain⟨_,_,_,e⟩:=x;exact⟨_,e⟩
 |ic o u=>exact⟨_,x.1⟩
 |ext φ=>exact x.2.1
theorem b_.lt(x:b_ H h a o):a<h.objs.size:=(jR x).elim λ_ e=>Ya e
theorem Paired.Qf{α β:Type}{F G:α->β->Prop}:∀{l₁:List α} {l₂:List β},Paired F l₁ l₂->(∀a b,F a b->G a b)->Paired G l₁ l₂
 |_,_,.nil,_=>.nil
 |_,_,.cons r t,f=>.cons (f _ _ r) (Paired.Qf t f)
theorem b_.k0(x:b_ H h a o)(k:∀u,h.get? a=some u->h'.get? a=some u):b_ H' h' a o:=by
 induction o with
 |lst xs=>obtain⟨z,aF,n,r,e⟩:=x;exact⟨z,aF,n,r,k _ e⟩
 |tup xs=>obtain⟨z,aF,r,ob,e,c⟩:=x;exact⟨z,aF,r,ob,k _ e,c⟩
 |ko lo hi=>obtain⟨t,u,v,e⟩:=x;exact⟨t,u,v,k _ e⟩
 |ic ob u ih=>exact⟨k _ x.1,ih x.2⟩
 |ext φ=>exact⟨x.2.2 _ _ x.1 k,x.2.1.imp k,x.2.2⟩
theorem jO.lt(x:jO H h)(e:H a=some o):a<h.objs.size:=(x a o e).lt
theorem jO.fresh(x:jO H h)(e:h.objs.size<=a):H a=none:=by
 cases q:H a with
 |none=>rfl
 |some u=>exact absurd (Yc (x.lt q) e) (Ym _)
theorem jO.kept(x:jO H h)(k:∀b u,h.get? b=some u->h'.get? b=some u):jO H h':=λa o e =>
 (x a o e).k0 (k a)
theorem jO.laid(x:jO H h)(k:∀b u,h.get? b=some u->h'.get? b=some u)(hp:h.objs.size<=a)(new:b_ (upd H a o) h' a o):jO (upd H a o) h':=λb u e=>by
 have hn:=x.fresh hp;by_cases hb:b=a
 ·subst hb;rw[aV]at e;cases e;exact new
 ·rw[bh hb]at e;exact(x b u e).k0 (k b)
end
def Rd(H:Hp)(a:Addr)(u:HO):Prop:=H a=some u\/∃o,H a=some (.ic o u)
theorem Rd.ok{h:Heap}{a:Addr}{u:HO}(r:Rd H a u)(x:jO H h):b_ H h a u:=by
 rcases r with r|⟨o,r⟩
 ·exact x a u r
 ·obtain⟨_,q⟩:=x a _ r;exact q
def Sy:Option HO->Prop
 |some (.lst _)=>True
 |some (.ext _)=>True
 |_=>False
section
variable {P:aE}{w:World}{H:Hp}{h h':Heap}{x e:Addr}{o':HO}
theorem jO.write(ok:jO H h)(k:∀b u,b≠x->h.get? b=some u->h'.get? b=some u)
  (new:b_ (upd H x o') h' x o'):jO (upd H x o') h':=λb u q=>by
 by_cases hb:b=x
 ·subst hb;rw[aV]at q;cases q;exact new
 ·rw[bh hb]at q;exact(ok b u q).k0 λv=>k b v hb
end
structure Un(fs ex:aW)(H H':Hp)(h h':Heap):Prop where
 keep:∀b o,h.get? b=some o->H b=none->b∉fs->b∉ex->h'.get? b=some o
 slot:∀b o,h.get? b=some o->H b=none->b∈fs->b∉ex->∃sl,h'.get? b=some { o with slots:=sl }
 free:∀b o,h.get? b=some o->H b=none->b∉ex->H' b=none
 there:∀b o,h.get? b=some o->b∉ex->∃o',h'.get? b=some o'
 og:∀b xs,H b=some (.tup xs)->H' b=some (.tup xs)
 mF:∀b o u,H b=some (.ic o u)->H' b=some (.ic o u)
section
variable {fs WW ex MK:aW}{H H1 H2:Hp}{h h1 h2 h':Heap}{a x e:Addr}{o:HO}
theorem Un.any(u:Un fs ex H H1 h h1){b:Addr}{ob:Obj}(q:h.get? b=some ob)(n:H b=none)(hx:b∉ex):∃sl,h1.get? b=some { ob with slots:=sl }:=by
 by_cases hb:b∈fs
 ·exact u.slot b ob q n hb hx
 ·exact⟨ob.slots,u.keep b ob q n hb hx⟩
theorem Un.kept(k:∀b u,h.get? b=some u->h'.get? b=some u):Un fs ex H H h h' :=
 ⟨λb ob q _ _ _=>k b ob q,λb ob q _ _ _=>⟨ob.slots,k b ob q⟩,λ_ _ _ n _=>n,λb ob q _=>⟨ob,k b ob q⟩,λ_ _ q=>q,λ_ _ _ q=>q⟩
theorem Un.refl:Un fs ex H H h h:=Un.kept λ_ _ q=>q
theorem Un.laid(k:∀b u,h.get? b=some u->h'.get? b=some u)(hp:h.objs.size<=a)(hn:H a=none):Un fs ex H (upd H a o) h h' where
 keep:=λb u q _ _ _=>k b u q
 slot:=λb u q _ _ _=>⟨u.slots,k b u q⟩
 free:=λb u q n _=>by rw[bh (Nat.ne_of_lt (Nat.lt_of_lt_of_le (Heap.lt_size q) hp))];exact n
 there:=λb u q _=>⟨u,k b u q⟩
 og:=λb xs q=>by rw[bh (eu q hn)];exact q
 mF:=λb u xs q=>by rw[bh (eu q hn)];exact q
theorem Un.write(mu:Sy (H x))(k:∀b u,b≠x->h.get? b=some u->h'.get? b=some u)(Rf:∃u,h'.get? x=some u):Un fs ex H (upd H x o) h h':=by
 have hx:∀b,H b=none->b≠x:=λb n z=>by subst z;rw[n]at mu;exact mu
 have hm:∀b u,H b=some u->¬ Sy (some u)->b≠x:=λb u q nm z=>by subst z;rw[q]at mu;exact nm mu
 refine⟨λb u q n _ _=>k b u (hx b n) q,λb u q n _ _=>⟨u.slots,k b u (hx b n) q⟩,λb u q n _=>by rw[bh (hx b n)];exact n,λb u q _=>?_,
  λb xs q=>by rw[bh (hm b _ q λz=>z)];exact q,λb u xs q=>by rw[bh (hm b _ q λz=>z)];exact q⟩
 by_cases Ue:b=x
 ·subst Ue;exact Rf
 ·exact⟨u,k b u Ue q⟩
end
noncomputable def Nw(h:Heap)(H:Hp):aW:=(List.range h.objs.size).filter λa=>(H a).isSome
def oV(h:Heap)(H:Hp):Heap:=PySem.W.hideAll h (Nw h H)
theorem wt(h:Heap)(H:Hp):(oV h H).objs.size=h.objs.size:=PySem.W.hideAll_size _ _
variable {o:Obj}
theorem zx{h:Heap}{b:Addr}(e:h.get? b=some o)(n:H b=none):(oV h H).get? b=some o :=
 PySem.W.hideAll_get _ e λhm=>by
  have q:(H b).isSome=true:=(List.mem_filter.mp hm).2;rw[n]at q;simp at q
theorem B6{h:Heap}{b:Addr}(e:(oV h H).get? b=some o):h.get? b=some o/\H b=none:=by
 have e':h.get? b=some o:=PySem.W.of_hideAll (Nw h H) e;refine⟨e',?_⟩;cases q:H b with
 |none=>rfl
 |some x =>
  have hm:b∈Nw h H:=List.mem_filter.mpr ⟨List.mem_range.mpr (Ya e'),by simp[q]⟩;have z:(oV h H).get? b=none:=PySem.W.hideAll_none (Nw h H) hm;rw[z]at e;cases e
noncomputable def DM(g h:Heap)(L:Addr):aj:=(List.range h.objs.size).filterMap λa=>if a=L\/(g.get? a).isSome=true then none else(h.get? a).map λo=>(a,o)
def rest(g h:Heap)(L d:Addr):aj:=(DM g h L).filter λp=>decide (p.1≠d)
end L2
namespace L2
open PySem PySem.Spec PyProof.Rows
structure Mod(K:ao)(mg:aS)(base:Heap):Prop where
 Qk:K.In base
 glob:base.Ns mainGlobals mg
 blt:∃mb,base.Ns builtinsNs mb/\∀x:Str,x ≠ "__name__" -> mb x=bootBuiltins x
 nolimit:base.NoLimit
structure Cx where
 prog:aE
 w:World
 K:ao
 mg:aS
 base:Heap
 A:aD
 N:af
 s₀:Shared
 H₀:Hp
 env:Env
 outer:List Env
 stack:List Env
 ex:aW
 fn:Str->Bool
 calm:Bool
 pn:aj
 xe:aB
noncomputable def xh(l:List Env):aW:=l.filterMap (·.frame)
abbrev Cx.fs(X:Cx):aW:=xh X.outer
def IE(sc:Scope)(x:Str):Prop:=sc.names.lookup x=some .local\/sc.names.lookup x=some .cell\/sc.names.lookup x=some .free
def Loc(sc:Scope)(x:Str):Prop:=sc.names.lookup x=some .local\/sc.names.lookup x=some .cell
def Look(env:Env)(h:Heap)(m:aS)(x:Str)(u:Value):Prop :=
 (env.kindOf x=some .local/\m x=some u)\/((env.kindOf x=some .cell\/env.kindOf x=some .free)/\∃c,env.cells.lookup x=some c/\h.IsCell c (some u))
structure Cx.Ok(X:Cx):Prop where
 mod:Mod X.K X.mg X.base
 kind:X.env.scope.kind=.function
 glob:X.env.globals=mainGlobals
 blt:X.env.builtins=builtinsNs
 above:X.s₀.heap.objs.size<=X.env.locals
 inj:∀x y c,X.env.cells.lookup x=some c->X.env.cells.lookup y=some c->x=y
 has:∀x,(X.env.kindOf x=some .cell\/X.env.kindOf x=some .free)->∃c,X.env.cells.lookup x=some c
 MZ:∀x c,X.fn x=true->X.env.cells.lookup x=some c->X.s₀.heap.objs.size<=c
 hd:X.calm=true->X.A.handled=none
 frames:X.A.frames=some X.stack
 NA:X.stack=X.outer\/(X.stack=X.env::X.outer/\X.env.frame=some X.env.locals)
 Uw:∀b∈X.ex,b≠X.env.locals/\∀x c,X.env.cells.lookup x=some c->c≠b
 bs:∀b o,X.base.get? b=some o->X.s₀.heap.get? b=some o/\X.H₀ b=none
 ED:X.base.objs.size<=X.s₀.heap.objs.size
 yL:∀b o,X.base.get? b=some o->b∉X.ex
 CU:∀b∈X.ex,b∉X.fs
 kf:X.s₀.heap.FunFrames X.base X.outer
 Ju:∀b∈X.fs,X.H₀ b=none
structure Inv(X:Cx)(pins:aj)(σ:List (Option V))(H:Hp)(s:Shared):Prop where
 ok:X.Ok
 os:s.os=X.s₀.os
 bare:AllBare s.gens
 base:Un X.fs X.ex X.H₀ H X.s₀.heap s.heap
 loc:∃m,s.heap.Ns X.env.locals m/\∀(i:Nat) (x:Str) (v:V),X.N[i]?=some x->σ[i]?=some (some v)->IE X.env.scope x->∃u,RelV v u/\Look X.env s.heap m x u
 cell:∀x c,X.env.cells.lookup x=some c->∃v,s.heap.IsCell c v
 free:H X.env.locals=none
 ie:∀x c,X.env.cells.lookup x=some c->H c=none
 pin:∀p∈X.pn++pins,s.heap.get? p.1=some p.2/\H p.1=none/\p.1≠X.env.locals/\p.1∉X.fs/\∀v,p.2.data≠.cell v
 cJ:jO H s.heap
 len:σ.length=X.N.length
variable {A:aD}{E:Value->Shared->Prop}{Q:Unit->Shared->Prop}{ch:aW}{t':Nat}
section
variable {X:Cx}{pins:aj}{σ:List (Option V)}{H H':Hp}{s:Shared}{h':Heap}
theorem Cx.Ok.Qc(ok:X.Ok){b:Addr}{o:Obj}(e:X.base.get? b=some o):b∉X.fs:=λhb=>by
 have:=(ok.kf.mem hb).1;rw[e]at this;cases this
theorem Inv.bs(I:Inv X pins σ H s):∀b o,X.base.get? b=some o->s.heap.get? b=some o/\H b=none:=λb o e =>
 ⟨I.base.keep b o (I.ok.bs b o e).1 (I.ok.bs b o e).2 (I.ok.Qc e) (I.ok.yL b o e),I.base.free b o (I.ok.bs b o e).1 (I.ok.bs b o e).2 (I.ok.yL b o e)⟩
theorem Inv.bk(I:Inv X pins σ H s):∀b o,X.base.get? b=some o->s.heap.get? b=some o:=λb o e=>(I.bs b o e).1
theorem Inv.mod(I:Inv X pins σ H s):Mod X.K X.mg X.base:=I.ok.mod
theorem Inv.y_(I:Inv X pins σ H s):X.K.In s.heap:=I.ok.mod.Qk.keeps I.bk
theorem Inv.lt(I:Inv X pins σ H s):X.env.locals<s.heap.objs.size:=let ⟨_,hn,_⟩:=I.loc;hn.lt
theorem Inv.sz(I:Inv X pins σ H s):X.s₀.heap.objs.size<=s.heap.objs.size:=Yi I.ok.above (Nat.le_of_lt I.lt)
theorem Inv.Gw(I:Inv X pins σ H s){a:Addr}(h:s.heap.objs.size<=a):a∉X.fs:=λhb=>by
 obtain⟨_,o,ho,_⟩:=I.ok.kf.mem hb;exact absurd (Yc (Ya ho) (Yi I.sz h)) (Ym _)
theorem Inv.Iv(I:Inv X pins σ H s):∀x c,X.env.cells.lookup x=some c->c≠X.env.locals:=λx c e z=>by
 obtain⟨v,o,ho,hd⟩:=I.cell x c e;obtain⟨m,⟨o',es,ep,eM,Hl,_⟩,_⟩:=I.loc;rw[z,eM]at ho;cases ho;rw[Hl]at hd;cases hd
theorem Inv.kf(I:Inv X pins σ H s):s.heap.FunFrames X.base X.outer:=by
 have all:∀(l:List Env),(∀b∈xh l,b∈X.fs)->X.s₀.heap.FunFrames X.base l->s.heap.FunFrames X.base l:=by
  intro l;induction l with
  |nil=>intro _ _;trivial
  |cons env r ih =>
   intro hs hl;obtain⟨hk,⟨L,o,hf,hn,ho,hd⟩,hr⟩:=hl;have hL:L∈X.fs:=hs L (by unfold xh;rw[List.filterMap_cons,hf];exact X9);obtain⟨sl,e⟩:=I.base.slot L o ho (I.ok.Ju L hL) hL λz=>I.ok.CU L z hL;exact⟨hk,⟨L,_,hf,hn,e,hd⟩,ih (λb hb=>hs b (by unfold xh;rw[List.filterMap_cons,hf];exact X_ _ hb)) hr⟩
 exact all X.outer (λ_ hb=>hb) I.ok.kf
theorem Inv.stack(I:Inv X pins σ H s):s.heap.FunFrames X.base X.stack:=by
 rcases I.ok.NA with e|⟨e,hf⟩
 ·rw[e];exact I.kf
 ·rw[e];obtain⟨m,hn,_⟩:=I.loc;refine .cons (by rw[I.ok.kind];decide) hf hn ?_ I.kf;exact Heap.get?_none_of_le (Yi I.ok.ED I.ok.above)
theorem Inv.jw(I:Inv X pins σ H s):∀b∈xh X.stack,b∈X.env.locals::X.fs:=λb hb=>by
 rcases I.ok.NA with e|⟨e,hf⟩
 ·rw[e]at hb;exact X_ _ hb
 ·rw[e]at hb;unfold xh at hb;rw[List.filterMap_cons,hf]at hb;exact hb
theorem Inv.ug(I:Inv X pins σ H s):∀b∈xh X.stack,H b=none:=λb hb=>by
 rcases List.mem_cons.mp (I.jw b hb)with e|hb
 ·rw[e];exact I.free
 ·obtain⟨_,o,ho,_⟩:=I.ok.kf.mem hb;exact I.base.free b o ho (I.ok.Ju b hb) λz=>I.ok.CU b z hb
theorem Inv.step{g':Array GenState}{d':Drawn}(I:Inv X pins σ H s)
  (xf:∀b∈ch,(b∈X.ex\/X.s₀.heap.objs.size<=b)/\b≠X.env.locals/\(∀x c,X.env.cells.lookup x=some c->c≠b)/\∀p∈X.pn++pins,p.1≠b)
  (keep:∀b o,b≠X.env.locals->b∉X.fs->b∉ch->s.heap.get? b=some o->H b=none->h'.get? b=some o)
  (slot:∀b o,b≠X.env.locals->b∈X.fs->b∉ch->s.heap.get? b=some o->H b=none->∃sl,h'.get? b=some { o with slots:=sl }) (free:∀b o,b∉ch->s.heap.get? b=some o->H b=none->H' b=none)
  (there:∀b o,b∉ch->s.heap.get? b=some o->∃o',h'.get? b=some o')
  (og:∀b xs,H b=some (.tup xs)->H' b=some (.tup xs)) (mF:∀b o u,H b=some (.ic o u)->H' b=some (.ic o u))
  (ns:∀m,s.heap.Ns X.env.locals m->h'.Ns X.env.locals m) (cJ:jO H' h') (hg:AllBare g') :
  Inv X pins σ H' { s with heap:=h',gens:=g',drawn:=d',toks:=t' }:=by
 have Tf:∀b o,X.s₀.heap.get? b=some o->b≠X.env.locals:=λb o e=>Yf (Yc (Ya e) I.ok.above);have Ef:∀b o,X.s₀.heap.get? b=some o->b∉X.ex->b∉ch:=λb o e hx hb=>by
  rcases(xf b hb).1 with z|z
  ·exact hx z
  ·exact absurd (Yc (Ya e) z) (Ym _)
 have cellK:∀x c,X.env.cells.lookup x=some c->∀v,s.heap.IsCell c v->h'.IsCell c v:=λx c e v bG=>by
  obtain⟨o,ho,hd⟩:=bG;have La:c∉ch:=λz=>(xf c z).2.2.1 x c e rfl;by_cases hc:c∈X.fs
  ·obtain⟨sl,q⟩:=slot c o (I.Iv x c e) hc La ho (I.ie x c e);exact⟨_,q,hd⟩
  ·exact⟨o,keep c o (I.Iv x c e) hc La ho (I.ie x c e),hd⟩
 refine⟨I.ok,I.os,hg,⟨λb o e n hb hx=>?_,λb o e n hb hx=>?_,λb o e n hx=>?_,λb o e hx=>?_,λb xs e=>og b xs (I.base.og b xs e),λb o xs e=>mF b o xs (I.base.mF b o xs e)⟩,?_,λx c e=>?_,?_,λx c e=>?_,λp hp=>?_,cJ,I.len⟩
 ·exact keep b o (Tf b o e) hb (Ef b o e hx) (I.base.keep b o e n hb hx) (I.base.free b o e n hx)
 ·obtain⟨sl,e1⟩:=I.base.slot b o e n hb hx;obtain⟨Vu,e2⟩:=slot b _ (Tf b o e) hb (Ef b o e hx) e1 (I.base.free b o e n hx);exact⟨Vu,e2⟩
 ·obtain⟨o',e1⟩:=I.base.there b o e hx;exact free b o' (Ef b o e hx) e1 (I.base.free b o e n hx)
 ·obtain⟨o',e1⟩:=I.base.there b o e hx;exact there b o' (Ef b o e hx) e1
 ·obtain⟨m,hn,hl⟩:=I.loc;refine⟨m,ns m hn,λi x v e1 e2 e3=>?_⟩;obtain⟨u,r,l⟩:=hl i x v e1 e2 e3;refine⟨u,r,?_⟩;rcases l with l|⟨k,c,e,z⟩
  ·exact .inl l
  ·exact .inr ⟨k,c,e,cellK x c e _ z⟩
 ·obtain⟨v,z⟩:=I.cell x c e;exact⟨v,cellK x c e v z⟩
 ·obtain⟨m,⟨o,_,_,ho,_⟩,_⟩:=I.loc;exact free _ o (λz=>(xf _ z).2.1 rfl) ho I.free
 ·obtain⟨v,o,ho,hd⟩:=I.cell x c e;exact free c o (λz=>(xf c z).2.2.1 x c e rfl) ho (I.ie x c e)
 ·obtain⟨e,n,ne,nf,d⟩:=I.pin p hp;have La:p.1∉ch:=λz=>(xf p.1 z).2.2.2 p hp rfl;exact⟨keep p.1 p.2 ne nf La e n,free p.1 p.2 La e n,ne,nf,d⟩
theorem Inv.un(I:Inv X pins σ H s)(u:Un X.fs [] H H' s.heap h')(cJ:jO H' h'):Inv X pins σ H' { s with heap:=h',toks:=t' }:=by
 obtain⟨m,⟨o,es,ep,ho,r⟩,_⟩:=id I.loc;obtain⟨sl,hL⟩:=u.any ho I.free (by simp);exact I.step (g':=s.gens) (d':=s.drawn) (ch:=[]) (λ_ z=>nomatch z) (λb o _ hb _ e n=>u.keep b o e n hb (by simp)) (λb o _ hb _ e n=>u.slot b o e n hb (by simp)) (λb o _ e n=>u.free b o e n (by simp)) (λb o _ e=>u.there b o e (by simp)) u.og u.mF (λm' hm=>by
  obtain⟨o',Ew,uZ,eM,r'⟩:=hm;rw[ho]at eM;cases eM;exact⟨_,Ew,uZ,hL,r'⟩) cJ I.bare
theorem Inv.call{g':Array GenState}{d':Drawn}(I:Inv X pins σ H s)(u:Un (xh X.stack) ch H H' s.heap h')(cJ:jO H' h')(hg:AllBare g')
  (xf:∀b∈ch,(b∈X.ex\/X.s₀.heap.objs.size<=b)/\b≠X.env.locals/\(∀x c,X.env.cells.lookup x=some c->c≠b)/\∀p∈X.pn++pins,p.1≠b) :
  Inv X pins σ H' { s with heap:=h',gens:=g',drawn:=d',toks:=t' }:=by
 obtain⟨m,⟨o,es,ep,ho,r⟩,_⟩:=id I.loc;obtain⟨sl,hL⟩:=u.any ho I.free λz=>(xf _ z).2.1 rfl;exact I.step (ch:=ch) xf (λb o hL hb hc e n=>u.keep b o e n (λz=>(List.mem_cons.mp (I.jw b z)).elim hL hb) hc) (λb o _ _ hc e n=>u.any e n hc) (λb o hc e n=>u.free b o e n hc) (λb o hc e=>u.there b o e hc) u.og u.mF (λm' hm=>by
  obtain⟨o',Ew,uZ,eM,r'⟩:=hm;rw[ho]at eM;cases eM;exact⟨_,Ew,uZ,hL,r'⟩) cJ hg
theorem Inv.turned{it:Addr}(I:Inv X pins σ H s)(k:∀b o,b≠it->s.heap.get? b=some o->h'.get? b=some o)(hn:H it=none)(hL:it≠X.env.locals)
  (h1:it∈X.ex\/X.s₀.heap.objs.size<=it) (h2:∀x c,X.env.cells.lookup x=some c->c≠it) (h3:∀p∈X.pn++pins,p.1≠it):Inv X pins σ H { s with heap:=h',toks:=t' }:=by
 have K8:∀b u,H b=some u->b≠it:=λb u e z=>by rw[z,hn]at e;cases e
 refine I.step (g':=s.gens) (d':=s.drawn) (ch:=[it]) (λb hb=>?_) (λb o _ _ hc e _=>k b o (λz=>hc (by simp[z])) e) (λb o _ _ hc e _=>⟨o.slots,k b o (λz=>hc (by simp[z])) e⟩) (λ_ _ _ _ n=>n)
  (λb o hc e=>⟨o,k b o (λz=>hc (by simp[z])) e⟩) (λ_ _ e=>e) (λ_ _ _ e=>e) (λm hm=>?_) (λb u e=>?_) I.bare
 ·have e:b=it:=by simpa using hb
  subst e;exact⟨h1,hL,h2,h3⟩
 ·obtain⟨o,es,ep,ho,r⟩:=hm;exact⟨o,es,ep,k _ o (Zi hL) ho,r⟩
 ·exact(I.cJ b u e).k0 λv=>k b v (K8 b u e)
theorem Inv.tok(I:Inv X pins σ H s)(t:Nat):Inv X pins σ H { s with toks:=t }:=I.un (h':=s.heap) (t':=t) Un.refl I.cJ
theorem Inv.kept{t':Nat}(I:Inv X pins σ H s)(k:∀b u,s.heap.get? b=some u->h'.get? b=some u):Inv X pins σ H { s with heap:=h',toks:=t' }:=I.un (Un.kept k) (I.cJ.kept k)
theorem Inv.laid{a:Addr}{o:HO}{t':Nat}(I:Inv X pins σ H s)(k:∀b u,s.heap.get? b=some u->h'.get? b=some u)(hp:s.heap.objs.size<=a)(new:b_ (upd H a o) h' a o):
  Inv X pins σ (upd H a o) { s with heap:=h',toks:=t' }:=I.un (Un.laid k hp (I.cJ.fresh hp)) (I.cJ.laid k hp new)
theorem Inv.write{x:Addr}{o:HO}{t':Nat}(I:Inv X pins σ H s)(mu:Sy (H x))(k:∀b u,b≠x->s.heap.get? b=some u->h'.get? b=some u)(Rf:∃u,h'.get? x=some u)
  (new:b_ (upd H x o) h' x o):Inv X pins σ (upd H x o) { s with heap:=h',toks:=t' }:=I.un (Un.write mu k Rf) (I.cJ.write k new)
theorem Inv.gR{Eb:aj}(I:Inv X pins σ H s)(h:∀p∈Eb,s.heap.get? p.1=some p.2/\H p.1=none/\p.1≠X.env.locals/\p.1∉X.fs/\∀v,p.2.data≠.cell v):Inv X Eb σ H s :=
 ⟨I.ok,I.os,I.bare,I.base,I.loc,I.cell,I.free,I.ie,λp hp=>(List.mem_append.mp hp).elim (λz=>I.pin p (Yu _ z)) (h p),I.cJ,I.len⟩
theorem qE{N:af}(hN:N.Nodup){i j:Nat}{x:Str}(a:N[i]?=some x)(b:N[j]?=some x):i=j:=by
 obtain⟨h1,e1⟩:=List.getElem?_eq_some_iff.mp a;obtain⟨h2,e2⟩:=List.getElem?_eq_some_iff.mp b;exact(Z3 hN).mp (e1.trans e2.symm)
theorem vO{M:Model}{i:Nat}{x:Str}{v:V}{u:Value}(I:Inv X pins σ H s)(hN:X.N.Nodup)(hi:X.N[i]?=some x)(hx:Loc X.env.scope x)(r:RelV v u)
  (h:∀s',Inv X pins (σ.set i (some v)) H s'->(∃a,Heap.SameBut a s.heap s'.heap/\(a=X.env.locals\/X.env.cells.lookup x=some a))->Q () s') (hf:X.fn x=true\/X.env.scope.names.lookup x=some .local:=by first|exact .inl rfl|exact .inr rfl|assumption):wpAny M A (storeName X.env x u) Q E s:=by
 obtain⟨m,hn,hl⟩:=id I.loc;have Ri:(X.env.scope.kind==.class||(X.env.scope.kind==.module&&X.env.locals != X.env.globals))=false:=by rw[I.ok.kind];rfl
 have LW:i<σ.length:=by rw[I.len];exact(List.getElem?_eq_some_iff.mp hi).1
 have Iv:=I.Iv;have tracked:∀{a:Addr} {h':Heap},(∃o,s.heap.get? a=some o/\H a=none)->Heap.SameBut a s.heap h'->jO H h':=λ{a h'} ha hs b ob e=>by
  obtain⟨_,_,LX⟩:=ha;exact(I.cJ b ob e).k0 λw' q=>(hs.2 b (by rintro rfl;rw[LX]at e;cases e)).trans q
 rcases hx with hk|hk
 ·refine wpAny_storeName_local hk hn (λh' uK hs=>?_) Ri;obtain⟨oL,_,_,LP,_⟩:=id hn;refine h _ ⟨I.ok,I.os,I.bare,⟨λb o e n hb hx=>?_,λb o e n hb hx=>?_,I.base.free,λb o e hx=>?_,I.base.og,I.base.mF⟩,⟨_,uK,λj y v' e1 e2 e3=>?_⟩,λy c e=>?_,I.free,I.ie,λp hp=>?_,tracked ⟨oL,LP,I.free⟩ hs,by simpa using I.len⟩ ⟨_,hs,.inl rfl⟩
  ·exact(hs.2 b (Yf (Yc (Ya e) I.ok.above))).trans (I.base.keep b o e n hb hx)
  ·obtain⟨sl,e1⟩:=I.base.slot b o e n hb hx;exact⟨sl,(hs.2 b (Yf (Yc (Ya e) I.ok.above))).trans e1⟩
  ·obtain⟨o',e1⟩:=I.base.there b o e hx;exact⟨o',(hs.2 b (Yf (Yc (Ya e) I.ok.above))).trans e1⟩
  ·by_cases hj:j=i
   ·subst hj;rw[hi]at e1;cases e1;rw[List.getElem?_set_self LW]at e2;cases e2;exact⟨u,r,.inl ⟨hk,by simp⟩⟩
   ·rw[List.getElem?_set_ne (Ne.symm hj)]at e2;obtain⟨u',r',q⟩:=hl j y v' e1 e2 e3;refine⟨u',r',?_⟩;rcases q with ⟨k,e⟩|⟨k,c,e,z⟩
    ·refine .inl ⟨k,?_⟩;have:y≠x:=λe=>hj (qE hN e1 (e▸hi));simp[this,e]
    ·exact .inr ⟨k,c,e,z.sameBut hs (Iv y c e)⟩
  ·obtain⟨w',z⟩:=I.cell y c e;exact⟨w',z.sameBut hs (Iv y c e)⟩
  ·obtain⟨e,n,ne,nf,d⟩:=I.pin p hp;exact⟨(hs.2 p.1 ne).trans e,n,ne,nf,d⟩
 ·have uN:X.fn x=true:=by
   rcases hf with z|z
   ·exact z
   ·rw[z]at hk;cases hk
  obtain⟨c,hc⟩:=I.ok.has x (.inl hk);obtain⟨w',z⟩:=I.cell x c hc;refine wpAny_storeName_cell I.ok.kind hk hc z (λh' xg hs=>?_);obtain⟨oc,T3,QZ⟩:=id z;refine h { s with heap:=h' } ⟨I.ok,I.os,I.bare,⟨λb o e n hb hx=>?_,λb o e n hb hx=>?_,I.base.free,λb o e hx=>?_,I.base.og,I.base.mF⟩,⟨m,hn.sameBut hs (Zi (Iv x c hc)),λj y v' e1 e2 e3=>?_⟩,λy c' e=>?_,I.free,I.ie,λp hp=>?_,tracked ⟨oc,T3,I.ie x c hc⟩ hs,by simpa using I.len⟩ ⟨c,hs,.inr hc⟩
  ·exact(hs.2 b (Yf (Yc (Ya e) (I.ok.MZ x c uN hc)))).trans (I.base.keep b o e n hb hx)
  ·obtain⟨sl,e1⟩:=I.base.slot b o e n hb hx;exact⟨sl,(hs.2 b (Yf (Yc (Ya e) (I.ok.MZ x c uN hc)))).trans e1⟩
  ·obtain⟨o',e1⟩:=I.base.there b o e hx;exact⟨o',(hs.2 b (Yf (Yc (Ya e) (I.ok.MZ x c uN hc)))).trans e1⟩
  ·by_cases hj:j=i
   ·subst hj;rw[hi]at e1;cases e1;rw[List.getElem?_set_self LW]at e2;cases e2;exact⟨u,r,.inr ⟨.inl hk,c,hc,xg⟩⟩
   ·rw[List.getElem?_set_ne (Ne.symm hj)]at e2;obtain⟨u',r',q⟩:=hl j y v' e1 e2 e3;refine⟨u',r',?_⟩;rcases q with q|⟨k,c',e,z'⟩
    ·exact .inl q
    ·refine .inr ⟨k,c',e,z'.sameBut hs ?_⟩;rintro rfl;exact hj (qE hN e1 (I.ok.inj _ _ _ e hc▸hi))
  ·by_cases Ud:c'=c
   ·subst Ud;exact⟨_,xg⟩
   ·obtain⟨w2,z2⟩:=I.cell y c' e;exact⟨w2,z2.sameBut hs Ud⟩
  ·obtain⟨e,n,ne,nf,d⟩:=I.pin p hp;refine⟨(hs.2 p.1 ?_).trans e,n,ne,nf,d⟩;intro q;rw[q,T3]at e;have q':oc=p.2:=Yg e;exact d w' (by rw[<- q'];exact QZ)
theorem iV{M:Model}{i:Nat}{x:Str}{v:V}{u:Value}(I:Inv X pins σ H s)(hN:X.N.Nodup)(hi:X.N[i]?=some x)(hx:Loc X.env.scope x)(r:RelV v u)
  (h:∀s',Inv X pins (σ.set i (some v)) H s'->Q () s') (hf:X.fn x=true\/X.env.scope.names.lookup x=some .local:=by first|exact .inl rfl|exact .inr rfl|assumption):wpAny M A (storeName X.env x u) Q E s :=
 vO I hN hi hx r (λs' I' _=>h s' I') hf
theorem Inv.MY{s':Shared}(I:Inv X pins σ H s)(ho:s'.os=s.os)(u:Un (xh X.stack) ch H H' s.heap s'.heap)(cJ:jO H' s'.heap)(hg:AllBare s'.gens)
  (xf:∀b∈ch,(b∈X.ex\/X.s₀.heap.objs.size<=b)/\b≠X.env.locals/\(∀x c,X.env.cells.lookup x=some c->c≠b)/\∀p∈X.pn++pins,p.1≠b):Inv X pins σ H' s':=by
 obtain⟨h',g',d',t',o'⟩:=s';have e:o'=s.os:=ho;subst e;exact I.call (g':=g') (t':=t') (d':=d') u cJ hg xf
end
abbrev XK:=Value->Option Addr->Hp->Prop
abbrev St:=List (Option V)
abbrev VK:=V->Hp->Prop
abbrev TE:=St->Hp->VK->Prop
abbrev TT:=St->Hp->(Bool->Hp->Prop)->Prop
abbrev TA:=St->Hp->(ae->Hp->Prop)->Prop
structure Ends where
 nx:St->Hp->Prop
 rt:VK
 bk:St->Hp->Prop:=λ_ _=>False
 ct:St->Hp->Prop:=λ_ _=>False
abbrev TS:=Ends->St->Hp->Prop
def EP(X:Cx)(pins:aj)(σ:St)(Q:VK)(u:Value)(s':Shared):Prop:=∃v H',Inv X pins σ H' s'/\RelV v u/\Q v H'
def TP(X:Cx)(pins:aj)(σ:St)(Q:Bool->Hp->Prop)(b:Bool)(s':Shared):Prop:=∃H',Inv X pins σ H' s'/\Q b H'
def AP(X:Cx)(pins:aj)(σ:St)(Q:ae->Hp->Prop)(us:ak)(s':Shared):Prop:=∃vs H',Inv X pins σ H' s'/\Vals vs us/\Q vs H'
def SP(X:Cx)(pins:aj)(D:Ends)(f:Flow)(s':Shared):Prop :=
 match f with
 |.next=>∃σ' H',Inv X pins σ' H' s'/\D.nx σ' H'
 |.brk=>∃σ' H',Inv X pins σ' H' s'/\D.bk σ' H'
 |.cont=>∃σ' H',Inv X pins σ' H' s'/\D.ct σ' H'
 |.ret u=>∃v σ' H',Inv X pins σ' H' s'/\RelV v u/\D.rt v H'
def PE(X:Cx)(e:Expr)(t:TE):Prop :=
 ∀(pins:aj) (s:Shared) (σ:St) (H:Hp) (Q:VK),Inv X pins σ H s->t σ H Q->wpAny (model X.prog X.w) X.A (eval e X.env) (EP X pins σ Q) X.xe s
def PT(X:Cx)(e:Expr)(t:TT):Prop :=
 ∀(pins:aj) (s:Shared) (σ:St) (H:Hp) (Q:Bool->Hp->Prop),Inv X pins σ H s->t σ H Q->wpAny (model X.prog X.w) X.A (isTrue e X.env (eval e X.env)) (TP X pins σ Q) X.xe s
def PW(X:Cx)(e:Expr)(t:TT):Prop :=
 ∀(whole:Sem Value) (pins:aj) (s:Shared) (σ:St) (H:Hp) (Q:Bool->Hp->Prop),Inv X pins σ H s->t σ H Q->wpAny (model X.prog X.w) X.A (isTrue e X.env whole) (TP X pins σ Q) X.xe s
theorem PW.pt{X:Cx}{e:Expr}{t:TT}(h:PW X e t):PT X e t:=h _
def PA(X:Cx)(es:ai)(t:TA):Prop :=
 ∀(pos:Pos) (pins:aj) (s:Shared) (σ:St) (H:Hp) (Q:ae->Hp->Prop),Inv X pins σ H s->t σ H Q->wpAny (model X.prog X.w) X.A (spliced (backTo pos (starEach es X.env))) (AP X pins σ Q) X.xe s
def PS(X:Cx)(st:Stmt)(t:TS):Prop :=
 ∀(pins:aj) (s:Shared) (σ:St) (H:Hp) (D:Ends),Inv X pins σ H s->t D σ H->wpAny (model X.prog X.w) X.A (exec st X.env) (SP X pins D) X.xe s
def kO(X:Cx)(st:aO)(t:TS):Prop :=
 ∀(pins:aj) (s:Shared) (σ:St) (H:Hp) (D:Ends),Inv X pins σ H s->t D σ H->wpAny (model X.prog X.w) X.A (execs st X.env) (SP X pins D) X.xe s
theorem cI{α:Type}{t:Sem α}{Q Q':α->Shared->Prop}{M:Model}{s:Shared}(h:wpAny M A t Q E s)(hQ:∀a s,Q a s->Q' a s):wpAny M A t Q' E s:=Yp h hQ λ_ _ x=>x
end L2
namespace L2
open PySem PySem.Spec PyProof.Rows
variable {E Q:Value->Shared->Prop}{H:Hp}{pos:Pos}{σ:L2.St}
section
variable {X:Cx}
theorem bin{a b:Expr}{ta tb:TE}(ha:PE X a ta)(hb:PE X b tb){pins:aj}{s:Shared}{R:V->V->Hp->Prop}(I:Inv X pins σ H s)(h:ta σ H λx H1=>tb σ H1 λy H2=>R x y H2)
  {α:Type} {Q:α->Shared->Prop} {f:Value->Value->Sem α}
  (hf:∀v u s2 x y H2,Inv X pins σ H2 s2->RelV x v->RelV y u->R x y H2->wpAny (model X.prog X.w) X.A (f v u) Q X.xe s2) :
  wpAny (model X.prog X.w) X.A (eval a X.env) (λv s₁=>wpAny (model X.prog X.w) X.A (eval b X.env) (λu s₂=>wpAny (model X.prog X.w) X.A (f v u) Q X.xe s₂) X.xe s₁) X.xe s:=by
 refine cI (ha pins s σ H _ I h) λv s1 bG=>?_;obtain⟨x,H1,I1,r1,q1⟩:=bG;refine cI (hb pins s1 σ H1 _ I1 q1) λu s2 bG=>?_;obtain⟨y,H2,I2,r2,q2⟩:=bG;exact hf v u s2 x y H2 I2 r1 r2 q2
def vL(i:Nat):TE:=λσ H Q=>∃v,σ[i]?=some (some v)/\Q v H
def tC(v:V):TE:=λ_ H Q=>Q v H
theorem sI{i:Nat}{x:Str}(hN:X.N[i]?=some x)(hv:IE X.env.scope x)(hd:(x==("__debug__" : Str))=false:=by decide)(wy:(x==("__classdict__" : Str))=false:=by decide):PE X (.Name x pos) (vL i):=by
 intro pins s σ H Q I h;obtain⟨v,e,h⟩:=h;obtain⟨m,hn,hl⟩:=I.loc;obtain⟨u,r,l⟩:=hl i x v hN e hv;have fin:EP X pins σ Q u s:=⟨v,H,I,r,h⟩
 rcases l with ⟨hk,hm⟩|⟨hk,c,hc,hcell⟩
 ·exact wpAny_Name (wpAny_loadName_local I.ok.kind hk hn hm fin) hd
 ·rcases hk with hk|hk
  ·exact wpAny_Name (wpAny_loadName_cell I.ok.kind hk hc hcell fin) hd
  ·exact wpAny_Name (wpAny_loadName_free I.ok.kind hk hc hcell fin wy) hd
theorem Gd{i j pos}:PE X (.Constant (.int i) j pos) (tC (.int i)):=λ_ _ _ H _ I h=>wpAny_Constant_int ⟨.int i,H,I.tok _,⟨_,rfl⟩,h⟩
theorem KU{b j pos}:PE X (.Constant (.bool b) j pos) (tC (.bl b)):=λ_ _ _ H _ I h=>Constant_bool ⟨.bl b,H,I,rfl,h⟩
theorem Ga{j pos}:PE X (.Constant .none j pos) (tC .bw):=λ_ _ _ H _ I h=>Constant_none ⟨.bw,H,I,rfl,h⟩
theorem F9{x j pos}:PE X (.Constant (.str x) j pos) (tC (.str x)):=λ_ _ _ H _ I h=>Calls.Constant_str ⟨.str x,H,I.tok _,⟨_,rfl⟩,h⟩
def Gl(X:Cx)(x:Str):Prop:=X.env.kindOf x=some .globalImplicit
theorem uE{pins:aj}{s:Shared}{x:Str}{u:Value}(I:Inv X pins σ H s)(hg:Gl X x)(hm:X.mg x=some u)(h:Q u s)
  (hd:(x==("__debug__" : Str))=false:=by decide):wpAny (model X.prog X.w) X.A (eval (.Name x pos) X.env) Q E s :=
 Calls.Name_function_global I.ok.kind hg (Calls.loadGlobal_global (by rw[I.ok.glob];exact I.mod.glob.keeps I.bk) hm h) hd
theorem fb{pins:aj}{s:Shared}{x:Str}{u:Value}(I:Inv X pins σ H s)(hg:Gl X x)(hm:X.mg x=none)(hv:bootBuiltins x=some u)(h:Q u s)
  (hn:x ≠ "__name__":=by decide) (hd:(x==("__debug__" : Str))=false:=by decide):wpAny (model X.prog X.w) X.A (eval (.Name x pos) X.env) Q E s:=by
 obtain⟨mb,h1,h2⟩:=I.mod.blt;exact Calls.Name_function_global I.ok.kind hg (Calls.loadGlobal_builtin (by rw[I.ok.glob];exact I.mod.glob.keeps I.bk) hm (by rw[I.ok.blt];exact h1.keeps I.bk) ((h2 x hn).trans hv) h) hd
theorem uw{x:Str}{v:V}{u:Value}(hg:Gl X x)(hm:X.mg x=some u)(r:RelV v u)(hd:(x==("__debug__" : Str))=false:=by decide):PE X (.Name x pos) (tC v) :=
 λ_ _ _ H _ I h=>uE I hg hm ⟨v,H,I,r,h⟩ hd
theorem BU{x:Str}{v:V}{u:Value}(hg:Gl X x)(hm:X.mg x=none)(hv:bootBuiltins x=some u)(r:RelV v u)(hn:x ≠ "__name__":=by decide)(hd:(x==("__debug__" : Str))=false:=by decide):PE X (.Name x pos) (tC v) :=
 λ_ _ _ H _ I h=>fb I hg hm hv ⟨v,H,I,r,h⟩ hn hd
variable {a b:Expr}{ta tb:TE}{pos:Pos}
def tB(t:TE):TT:=λσ H Q=>t σ H λx H1=>∃c,x=.bl c/\Q c H1
theorem F0{e:Expr}{t:TE}(h:PE X e t)(he:∀whole,isTrue e X.env whole=(do let v <- whole;standAt e.pos;holding [v] (truthy v)):=by intro _;rfl):PT X e (tB t):=by
 intro pins s σ H Q I hw;refine isTrue_plain (cI (h pins s σ H _ I hw) λv s1 bG=>?_) (he _);obtain⟨x,H1,I1,r1,q1⟩:=bG;obtain⟨d,rfl,q⟩:=q1;cases r1;exact YL ⟨H1,I1,q⟩
variable {tA Ny:TT}{rest:ai}
def J3(t u:TT):TT:=λσ H Q=>t σ H λc H1=>if c=true then u σ H1 Q else Q false H1
def SX(t u:TT):TT:=λσ H Q=>t σ H λc H1=>if c=true then Q true H1 else u σ H1 Q
def OT(t:TT):TT:=λσ H Q=>t σ H λc H1=>Q (!c) H1
theorem BM(ha:PT X a tA):PW X (.BoolOp .And [a] pos) tA:=by
 intro wh pins s σ H Q I h;refine isTrue_and (cI (ha pins s σ H Q I h) λc s1 e=>?_);cases c with
 |true=>exact isTrue_and_nil e
 |false=>exact e
theorem FY(ha:PT X a tA):PW X (.BoolOp .Or [a] pos) tA:=by
 intro wh pins s σ H Q I h;refine isTrue_or (cI (ha pins s σ H Q I h) λc s1 e=>?_);cases c with
 |false=>exact isTrue_or_nil e
 |true=>exact e
theorem FZ(ha:PT X a tA)(hb:PW X (.BoolOp .And (b::rest) pos) Ny):PW X (.BoolOp .And (a::b::rest) pos) (J3 tA Ny):=by
 intro wh pins s σ H Q I h;refine isTrue_and (cI (ha pins s σ H _ I h) λc s1 ⟨H1,I1,q1⟩=>?_);cases c with
 |true=>exact hb wh pins s1 σ H1 Q I1 q1
 |false=>exact⟨H1,I1,q1⟩
theorem KJ(ha:PT X a tA)(hb:PW X (.BoolOp .Or (b::rest) pos) Ny):PW X (.BoolOp .Or (a::b::rest) pos) (SX tA Ny):=by
 intro wh pins s σ H Q I h;refine isTrue_or (cI (ha pins s σ H _ I h) λc s1 ⟨H1,I1,q1⟩=>?_);cases c with
 |true=>exact⟨H1,I1,q1⟩
 |false=>exact hb wh pins s1 σ H1 Q I1 q1
theorem F1(ha:PT X a tA):PT X (.UnaryOp .Not a pos) (OT tA):=by
 intro pins s σ H Q I h;exact isTrue_not (ha pins s σ H (λc H1=>Q (!c) H1) I h)
def D4(ta tb:TE):TE:=λσ H Q=>ta σ H λx H1=>∃c,x=.bl c/\if c=true then tb σ H1 Q else Q (.bl false) H1
def JW(ta tb:TE):TE:=λσ H Q=>ta σ H λx H1=>∃c,x=.bl c/\if c=true then Q (.bl true) H1 else tb σ H1 Q
def JX(ta:TE):TE:=λσ H Q=>ta σ H λx H1=>∃c,x=.bl c/\Q (.bl (!c)) H1
theorem yu{op}{t:TE}(h:PE X a t):PE X (.BoolOp op [a] pos) t:=λpins s σ H Q I hw=>BoolOp_one (h pins s σ H Q I hw)
theorem Ge(ha:PE X a ta)(hb:PE X (.BoolOp .And (b::rest) pos) tb):PE X (.BoolOp .And (a::b::rest) pos) (D4 ta tb):=by
 intro pins s σ H Q I h;refine BoolOp_and (cI (ha pins s σ H _ I h) λv s1 bG=>?_);obtain⟨x,H1,I1,r1,q1⟩:=bG;obtain⟨c,rfl,q1⟩:=q1;cases r1;refine YL ?_;cases c with
 |true=>exact hb pins s1 σ H1 Q I1 q1
 |false=>exact⟨.bl false,H1,I1,rfl,q1⟩
theorem KS(ha:PE X a ta)(hb:PE X (.BoolOp .Or (b::rest) pos) tb):PE X (.BoolOp .Or (a::b::rest) pos) (JW ta tb):=by
 intro pins s σ H Q I h;refine BoolOp_or (cI (ha pins s σ H _ I h) λv s1 bG=>?_);obtain⟨x,H1,I1,r1,q1⟩:=bG;obtain⟨c,rfl,q1⟩:=q1;cases r1;refine YL ?_;cases c with
 |false=>exact hb pins s1 σ H1 Q I1 q1
 |true=>exact⟨.bl true,H1,I1,rfl,q1⟩
theorem F_(ha:PE X a ta):PE X (.UnaryOp .Not a pos) (JX ta):=by
 intro pins s σ H Q I h;refine UnaryOp_ (cI (ha pins s σ H _ I h) λv s1 bG=>?_);obtain⟨x,H1,I1,r1,q1⟩:=bG;obtain⟨c,rfl,q1⟩:=q1;cases r1;exact not_of (YL ⟨.bl (!c),H1,I1,rfl,q1⟩)
def Vj(t:TT)(ta tb:TE):TE:=λσ H Q=>t σ H λc H1=>if c=true then ta σ H1 Q else tb σ H1 Q
theorem yv{c:Expr}(hc:PT X c tA)(ha:PE X a ta)(hb:PE X b tb):PE X (.IfExp c a b pos) (Vj tA ta tb):=by
 intro pins s σ H Q I h;refine wpAny_IfExp (cI (hc pins s σ H _ I h) λd s1 ⟨H1,I1,q1⟩=>?_);cases d with
 |true=>exact ha pins s1 σ H1 Q I1 q1
 |false=>exact hb pins s1 σ H1 Q I1 q1
end
end L2
namespace L2
open PySem PySem.Spec PyProof.Rows
def cM(K:ao)(H:Hp)(a:Addr)(xs:ae):Prop :=
 Rd H a (.lst xs) \/
  ∃(o:Obj) (aF:aP) (n:Nat),K.lookup a=some o/\o.cls=.type "list" /\ o.dict=none/\o.data=.seq aF n/\aF.size<=sizeLine/\Vals xs aF.toList
def aU(K:ao)(H:Hp)(a:Addr)(xs:ae):Prop :=
 Rd H a (.tup xs) \/
  ∃(o:Obj) (aF:aP) (n:Nat),K.lookup a=some o/\o.cls=.type "tuple" /\ o.data=.seq aF n/\aF.size<=sizeLine/\Vals xs aF.toList
noncomputable def Su:Value->Option V
 |.none=>some .bw
 |.bool b=>some (.bl b)
 |.int i _=>some (.int i)
 |.str x _=>some (.str x)
 |.bytes b _=>some (.Sl b)
 |.float b _=>some (.RU b)
 |.ref a=>some (.ref a)
 |.type n=>some (.ty n)
 |_=>none
theorem RelV.abs{x:V}{u:Value}(r:RelV x u):Su u=some x:=by
 cases x with
 |bw=>cases r;rfl
 |bl _=>cases r;rfl
 |int _=>obtain⟨t,rfl⟩:=r;rfl
 |str _=>obtain⟨t,rfl⟩:=r;rfl
 |Sl _=>obtain⟨t,rfl⟩:=r;rfl
 |RU _=>obtain⟨t,rfl⟩:=r;rfl
 |ref _=>cases r;rfl
 |ty _=>cases r;rfl
theorem RelV.inj{x y:V}{u:Value}(r:RelV x u)(q:RelV y u):x=y:=Yg (r.abs.symm.trans q.abs)
theorem Vals.inj:∀{xs ys:ae} {us:ak},Vals xs us->Vals ys us->xs=ys
 |_,_,_,.nil,.nil=>rfl
 |_,_,_,.cons r t,.cons r' t'=>by rw[r.inj r',Vals.inj t t']
variable {K:ao}
section
variable {X:Cx}{pins:aj}{σ:St}{H:Hp}{s:Shared}{a:Addr}{xs ys:ae}
theorem cM.of(h:H a=some (.lst xs)):cM K H a xs:=.inl (.inl h)
theorem aU.of(h:H a=some (.tup xs)):aU K H a xs:=.inl (.inl h)
theorem Inv.list(I:Inv X pins σ H s)(h:cM X.K H a xs):∃aF:ak,Vals xs aF/\PlainL s.heap a aF.toArray/\xs.length<=sizeLine:=by
 rcases h with h|⟨o,aF,n,hk,hc,hd,hs,hz,r⟩
 ·obtain⟨z,aF,n,r,e⟩:=h.ok I.cJ;exact⟨aF,r,⟨_,n,e,rfl,rfl,rfl⟩,z⟩
 ·refine⟨aF.toList,r,⟨o,n,I.y_ a o hk,hc,hd,by simpa using hs⟩,?_⟩;have e:=r.length;simp only[Array.length_toList]at e;left
theorem Inv.tuple(I:Inv X pins σ H s)(h:aU X.K H a xs):∃aF:ak,Vals xs aF/\IsTup s.heap a aF.toArray/\xs.length<=sizeLine:=by
 rcases h with h|⟨o,aF,n,hk,hc,hs,hz,r⟩
 ·obtain⟨z,aF,r,p⟩:=h.ok I.cJ;exact⟨aF,r,p,z⟩
 ·refine⟨aF.toList,r,⟨o,I.y_ a o hk,hc,n,by simpa using hs⟩,?_⟩;have e:=r.length;simp only[Array.length_toList]at e;left
theorem Inv.i4(I:Inv X pins σ H s)(h:cM X.K H a xs)(h':cM X.K H a ys):xs=ys:=by
 obtain⟨aF,r,⟨o,n,e,_,_,d⟩,_⟩:=I.list h;obtain⟨its',r',⟨o',n',e',_,_,d'⟩,_⟩:=I.list h';rw[e]at e';cases e';rw[d]at d';injection d' with d1 _;have:aF=its':=by simpa using congrArg Array.toList d1
 subst this;exact r.inj r'
theorem Inv.mT(I:Inv X pins σ H s)(h:aU X.K H a xs)(h':aU X.K H a ys):xs=ys:=by
 obtain⟨aF,r,⟨o,e,_,n,d⟩,_⟩:=I.tuple h;obtain⟨its',r',⟨o',e',_,n',d'⟩,_⟩:=I.tuple h';rw[e]at e';cases e';rw[d]at d';injection d' with d1 _;have:aF=its':=by simpa using congrArg Array.toList d1
 subst this;exact r.inj r'
end
noncomputable abbrev Cx.mf(X:Cx)(E:aB):Cx:={ X with xe:=E }
abbrev Cx.K5(X:Cx):Cx:=X.mf λ_ _=>False
theorem Cx.Ok.mf{X:Cx}(ok:X.Ok)(E:aB):(X.mf E).Ok :=
 ⟨ok.mod,ok.kind,ok.glob,ok.blt,ok.above,ok.inj,ok.has,ok.MZ,ok.hd,ok.frames,ok.NA,ok.Uw,ok.bs,ok.ED,ok.yL,ok.CU,ok.kf,ok.Ju⟩
variable {E:Value->Shared->Prop}{X:Cx}
theorem Cx.Ok.gp(ok:(X.mf E).Ok):X.Ok :=
 ⟨ok.mod,ok.kind,ok.glob,ok.blt,ok.above,ok.inj,ok.has,ok.MZ,ok.hd,ok.frames,ok.NA,ok.Uw,ok.bs,ok.ED,ok.yL,ok.CU,ok.kf,ok.Ju⟩
section
variable {X:Cx}{pins:aj}{σ:St}{H:Hp}{s:Shared}{E:aB}
theorem Inv.mf(I:Inv X pins σ H s)(E:aB):Inv (X.mf E) pins σ H s:=⟨I.ok.mf E,I.os,I.bare,I.base,I.loc,I.cell,I.free,I.ie,I.pin,I.cJ,I.len⟩
theorem Inv.gp(I:Inv (X.mf E) pins σ H s):Inv X pins σ H s:=⟨I.ok.gp,I.os,I.bare,I.base,I.loc,I.cell,I.free,I.ie,I.pin,I.cJ,I.len⟩
theorem SP.gp{D:Ends}{f:Flow}{s':Shared}(h:SP (X.mf E) pins D f s'):SP X pins D f s':=by
 cases f with
 |next=>obtain⟨σ',H',I,q⟩:=h;exact⟨σ',H',I.gp,q⟩
 |brk=>obtain⟨σ',H',I,q⟩:=h;exact⟨σ',H',I.gp,q⟩
 |cont=>obtain⟨σ',H',I,q⟩:=h;exact⟨σ',H',I.gp,q⟩
 |ret u=>obtain⟨v,σ',H',I,r,q⟩:=h;exact⟨v,σ',H',I.gp,r,q⟩
theorem kO.K5{st:aO}{t:TS}(h:kO X.K5 st t):kO X st t:=λpins s σ H D I hw =>
 Yp (h pins s σ H D (I.mf _) hw) (λ_ _ q=>q.gp) λ_ _ z=>False.elim z
end
variable {H:Hp}{σ:L2.St}
section
variable {X:Cx}{st:Stmt}{rest:aO}{t u:TS}{e:Expr}{te:TE}{pos:Pos}
def D2:TS:=λD σ H=>D.nx σ H
def OQ(t u:TS):TS:=λD σ H=>t { D with nx:=u D } σ H
theorem BN:kO X [] D2:=λ_ _ σ H _ I h=>wpAny_execs_nil ⟨σ,H,I,h⟩
theorem yk(h1:PS X st t)(h2:kO X rest u):kO X (st::rest) (OQ t u):=by
 intro pins s σ H D I h;refine wpAny_execs_cons (cI (h1 pins s σ H { D with nx:=u D } I h) λf s1 q=>?_);cases f with
 |next =>
  obtain⟨σ',H',I',q⟩:=q;exact h2 pins s1 σ' H' D I' q
 |ret v=>exact q
 |brk=>exact q
 |cont=>exact q
def Ff:TS:=λD σ H=>D.bk σ H
def J0:TS:=λD σ H=>D.ct σ H
theorem NP:PS X (.Pass pos) D2:=λ_ _ σ H _ I h=>wpAny_Pass ⟨σ,H,I,h⟩
theorem KP:PS X (.Break pos) Ff:=λ_ _ σ H _ I h=>wpAny_Break ⟨σ,H,I,h⟩
theorem D_:PS X (.Continue pos) J0:=λ_ _ σ H _ I h=>wpAny_Continue ⟨σ,H,I,h⟩
theorem Inv.quiet{pins:aj}{s:Shared}(I:Inv X pins σ H s):interactive X.env=false:=by simp[interactive,I.ok.kind]
def JZ(te:TE):TS:=λD σ H=>te σ H λ_ H1=>D.nx σ H1
theorem kv(he:PE X e te)(hs:swapsWith e none pos.line X.env=pure false:=by rfl):PS X (.Expr e pos) (JZ te):=by
 intro pins s σ H D I h;exact wpAny_Expr_any (cI (he pins s σ H _ I h) λv s1 ⟨x,H1,I1,r1,q1⟩=>⟨σ,H1,I1,q1⟩) I.quiet hs
def OR(te:TE):TS:=λD σ H=>te σ H D.rt
theorem F2(he:PE X e te):PS X (.Return (some e) pos) (OR te):=by
 intro pins s σ H D I h;exact wpAny_Return_some (cI (he pins s σ H _ I h) λv s1 ⟨x,H1,I1,r1,q1⟩=>⟨x,σ,H1,I1,r1,q1⟩)
def JU:TS:=λD _ H=>D.rt .bw H
theorem NO:PS X (.Return none pos) JU:=λ_ _ σ H _ I h=>wpAny_Return_none ⟨.bw,σ,H,I,rfl,h⟩
def OV(c:TT)(t u:TS):TS:=λD σ H=>c σ H λb H1=>if b=true then t D σ H1 else u D σ H1
theorem KO{c:Expr}{a b:aO}{tc:TT}(hc:PT X c tc)(ha:kO X a t)(hb:kO X b u):PS X (.If c a b pos) (OV tc t u):=by
 intro pins s σ H D I h;refine wpAny_If (cI (hc pins s σ H _ I h) λd s1 ⟨H1,I1,q1⟩=>?_);cases d with
 |true=>exact ha pins s1 σ H1 D I1 q1
 |false=>exact hb pins s1 σ H1 D I1 q1
end
abbrev TG:=V->St->Hp->(St->Hp->Prop)->Prop
abbrev DQ:=ae->St->Hp->(St->Hp->Prop)->Prop
def PG(X:Cx)(target:Expr)(t:TG):Prop :=
 ∀(pins:aj) (s:Shared) (σ:St) (H:Hp) (v:V) (u:Value) (Q:St->Hp->Prop),Inv X pins σ H s->RelV v u->t v σ H Q ->
  wpAny (model X.prog X.w) X.A (assign target X.env u) (λ_ s'=>∃σ' H',Inv X pins σ' H' s'/\Q σ' H') X.xe s
def JB(X:Cx)(ts:ai)(t:DQ):Prop :=
 ∀(pins:aj) (s:Shared) (σ:St) (H:Hp) (vs:ae) (us:ak) (Q:St->Hp->Prop),Inv X pins σ H s->Vals vs us->t vs σ H Q ->
  wpAny (model X.prog X.w) X.A (assignInOrder ((assignEach ts X.env).map (·.2)) us) (λ_ s'=>∃σ' H',Inv X pins σ' H' s'/\Q σ' H') X.xe s
abbrev IF:=V->V->V->Hp->(Hp->Prop)->Prop
def Nl(X:Cx)(t:IF):Prop :=
 ∀(pins:aj) (s:Shared) (σ:St) (H:Hp) (o i v:V) (ov iv u:Value) (Q:Hp->Prop),Inv X pins σ H s->RelV o ov->RelV i iv->RelV v u->t o i v H Q ->
  wpAny (model X.prog X.w) X.A (setItem ov iv u) (λ_ s'=>∃H',Inv X pins σ H' s'/\Q H') X.xe s
abbrev OC:=V->V->Hp->VK->Prop
def Sw(X:Cx)(op:Operator)(t:OC):Prop :=
 ∀(pins:aj) (s:Shared) (σ:St) (H:Hp) (x y:V) (v u:Value) (Q:VK),Inv X pins σ H s->RelV x v->RelV y u->t x y H Q ->
  wpAny (model X.prog X.w) X.A (inplaceOp op v u) (EP X pins σ Q) X.xe s
variable {es:ai}{te:TE}{tg:Expr}
section
variable {X:Cx}{pos:Pos}
def nI(i:Nat):TG:=λv σ H Q=>Q (σ.set i (some v)) H
theorem oD{i:Nat}{x:Str}(hN:X.N.Nodup)(hi:X.N[i]?=some x)(hx:Loc X.env.scope x)(hf:X.fn x=true\/X.env.scope.names.lookup x=some .local:=by first|exact .inl rfl|exact .inr rfl|assumption):PG X (.Name x pos) (nI i):=by
 intro pins s σ H v u Q I r h;exact wpAny_assign_Name (iV I hN hi hx r (λs' I'=>⟨_,H,I',h⟩) hf)
def HC:DQ:=λvs σ H Q=>vs=[]/\Q σ H
def zP(t:TG)(u:DQ):DQ:=λvs σ H Q=>∃v r,vs=v::r/\t v σ H λσ' H'=>u r σ' H' Q
theorem uu:JB X [] HC:=by
 intro pins s σ H vs us Q I r h;obtain⟨e,h⟩:=h;subst e;cases r;exact assignInOrder_nil ⟨σ,H,I,h⟩
theorem qx{e:Expr}{t:TG}{u:DQ}(h1:PG X e t)(h2:JB X es u)
  (hs:(assignEach (e::es) X.env).map (·.2)=assign e X.env::(assignEach es X.env).map (·.2):=by rfl):JB X (e::es) (zP t u):=by
 intro pins s σ H vs us Q I r h;obtain⟨v,vr,e1,h⟩:=h;subst e1;cases r with
 |cons r rr =>
  rw[hs];refine assignInOrder_cons (cI (h1 pins s σ H _ _ _ I r h) λ_ s1 bG=>?_);obtain⟨σ1,H1,I1,q1⟩:=bG;exact h2 pins s1 σ1 H1 _ _ Q I1 rr q1
def RO(K:ao)(n:Nat)(t:DQ):TG:=λv σ H Q=>∃a xs,v=.ref a/\aU K H a xs/\xs.length=n/\t xs σ H Q
theorem yp{k:Nat}{t:DQ}{n:Nat}(hc:X.calm=true)(h:JB X es t)
  (hn:(assignEach es X.env).length=n:=by rfl) (nE:(assignEach es X.env).findIdx? (·.1)=none:=by rfl):PG X (.Tuple es k pos) (RO X.K n t):=by
 intro pins s σ H v u Q I r hw;obtain⟨a,xs,e1,hq,hl,hw⟩:=hw;subst e1;cases r;obtain⟨aF,rv,ht,hz⟩:=I.tuple hq;refine assign_Tuple_tuple (I.ok.hd hc) ht (by simp[hn,<- hl,rv.length]) nE λh' hx=>?_;have I1:Inv X pins σ H { s with heap:=h' }:=I.kept (t':=s.toks) λb o e=>hx b o (Yf (Ya e)) e;exact h pins _ σ H xs _ Q I1 (by simpa using rv) hw
def RP(to ti:TE)(t:IF):TG:=λv σ H Q=>to σ H λo H1=>ti σ H1 λi H2=>t o i v H2 λH3=>Q σ H3
theorem P4{o i:Expr}{to ti:TE}{t:IF}(ho:PE X o to)(hi:PE X i ti)(hs:Nl X t)
  (ha:∀v,assign (.Subscript o i pos) X.env v=(do
   let ov <- holding [v] (eval o X.env)
   let iv <- holding [v,ov] (eval i X.env)
   standAt pos
   holding [v,ov,iv] (setItem ov iv v)
   release [v,ov,iv] []):=by intro _;rfl):PG X (.Subscript o i pos) (RP to ti t):=by
 intro pins s σ H v u Q I r h;rw[ha];refine X4 (Yx (cI (ho pins s σ H _ I h) λov s1 bG=>?_));obtain⟨x,H1,I1,r1,q1⟩:=bG;refine X4 (Yx (cI (hi pins s1 σ H1 _ I1 q1) λiv s2 bG=>?_));obtain⟨y,H2,I2,r2,q2⟩:=bG;refine X4 (ZX (X4 (Yx (cI (hs pins s2 σ H2 x y v ov iv u _ I2 r1 r2 r q2) λ_ s3 bG=>?_))));obtain⟨H3,I3,q3⟩:=bG;exact wpAny_release ⟨σ,H3,I3,q3⟩
def OZ(te:TE)(g:TG):TS:=λD σ H=>te σ H λx H1=>g x σ H1 D.nx
theorem F4{e:Expr}{g:TG}(he:PE X e te)(hg:PG X tg g)(hs:swapsWithSole [tg] e pos.line X.env=pure false:=by rfl)(hw:swappedStores [tg] e X.env=pure none:=by rfl)
  (h1:(assignEach [tg] X.env).map (·.2)=[assign tg X.env]:=by rfl):PS X (.Assign [tg] e pos) (OZ te g):=by
 intro pins s σ H D I h;refine wpAny_Assign_stores (cI (he pins s σ H _ I h) λv s1 bG=>?_) hs hw;obtain⟨x,H1,I1,r1,q1⟩:=bG;rw[h1];exact cI (hg pins s1 σ H1 x v _ I1 r1 q1) λ_ s2 q=>q
def OS(i j:Nat)(ta:TA):TS:=λD σ H=>ta σ H λvs H1=>∃v w,vs=[v,w]/\D.nx ((σ.set i (some v)).set j (some w)) H1
theorem F3{i j:Nat}{x y:Str}{a b:Expr}{ta:TA}{px py pt:Pos}{kt k2 IZ}(hc:X.calm=true)(hN:X.N.Nodup)(hi:X.N[i]?=some x)(hj:X.N[j]?=some y)(ib:i≠j)
  (hx:X.env.scope.names.lookup x=some .local) (hy:X.env.scope.names.lookup y=some .local) (ha:PA X [a,b] ta)
  (hw:swappedStores [.Tuple [.Name x px,.Name y py] kt pt] (.Tuple [a,b] k2 IZ) X.env=pure (some [x,y]))
  (hs:swapsWithSole [.Tuple [.Name x px,.Name y py] kt pt] (.Tuple [a,b] k2 IZ) pos.line X.env=pure false:=by rfl) :
  PS X (.Assign [.Tuple [.Name x px,.Name y py] kt pt] (.Tuple [a,b] k2 IZ) pos) (OS i j ta):=by
 intro pins s σ H D I h;rw[exec_Assign_arm];refine X4 (ZX ?_);rw[hs];refine X4 (X6 ?_);rw[if_neg (by decide)];refine X4 (Tuple_ (cI (ha _ pins s σ H _ I h) λus s1 bG=>?_));obtain⟨vs,H1,I1,r1,q1⟩:=bG;obtain⟨v,w,e1,q1⟩:=q1;subst e1;obtain⟨u1,u2,rfl,rv,jB⟩:∃u1 u2,us=[u1,u2]/\RelV v u1/\RelV w u2:=by
  cases r1 with
  |cons p q =>
   cases q with
   |cons p' q' =>
    cases q';exact⟨_,_,rfl,p,p'⟩
 refine YB ?_ (by show 2<=sizeLine;decide);have I2:Inv X pins σ H1 { s1 with heap:=s1.heap.push { cls:=.type "tuple",data:=.seq [u1,u2].toArray } }:=I1.kept (t':=s1.toks) λb o e=>X8 _ e;rw[hw];refine X4 (X6 ?_);show wpAny (model X.prog X.w) X.A (do rule "assign.swapped-stores";let items <- unpackItems (.ref s1.heap.objs.size) 2 none;assignInOrder [λv=>bindName X.env y v,λv=>bindName X.env x v] items.reverse;pure Flow.next) _ _ _;refine X4 (wpAny_rule (X4 (unpackItems_tuple (items:=#[u1,u2]) (I.ok.hd hc) (IsTup.new s1.heap _) λh' AR=>?_)));have I3:=I2.kept (h':=h') (t':=s1.toks) λb o e=>AR b o (Yf (Ya e)) e;show wpAny _ _ (assignInOrder [λv=>bindName X.env y v,λv=>bindName X.env x v] [u2,u1] >>= λ_=>pure Flow.next) _ _ _;refine X4 (assignInOrder_cons (wpAny_bindName (iV I3 hN hj (.inl hy) jB (λs2 I4=>?_) (.inr hy))));refine assignInOrder_cons (wpAny_bindName (iV I4 hN hi (.inl hx) rv (λs3 I5=>assignInOrder_nil (X6 ?_)) (.inr hx)));rw[List.set_comm _ _ (Ne.symm ib)]at I5;exact⟨_,H1,I5,q1⟩
def OY(i:Nat)(te:TE)(ti:OC):TS:=λD σ H=>∃x,σ[i]?=some (some x)/\te σ H λy H1=>ti x y H1 λz H2=>D.nx (σ.set i (some z)) H2
theorem P2{i:Nat}{x:Str}{e:Expr}{op:Operator}{ti:OC}{pos':Pos}(hN:X.N.Nodup)(hi:X.N[i]?=some x)(hx:Loc X.env.scope x)(he:PE X e te)(ho:Sw X op ti)(hf:X.fn x=true\/X.env.scope.names.lookup x=some .local:=by first|exact .inl rfl|exact .inr rfl|assumption):
  PS X (.AugAssign (.Name x pos') op e pos) (OY i te ti):=by
 intro pins s σ H D I h;obtain⟨v,e1,h⟩:=h;obtain⟨m,hn,hl⟩:=I.loc;have Nr:IE X.env.scope x:=by rcases hx with k|k;exact .inl k;exact .inr (.inl k)
 obtain⟨u,r,l⟩:=hl i x v hi e1 Nr;refine wpAny_AugAssign_Name ?_;have go:wpAny (model X.prog X.w) X.A (eval e X.env) (λw s₂=>wpAny (model X.prog X.w) X.A (inplaceOp op u w) (λr s₃=>wpAny (model X.prog X.w) X.A (storeName X.env x r) (λ_=>SP X pins D .next) X.xe s₃) X.xe s₂) X.xe s:=by
  refine cI (he pins s σ H _ I h) λw s1 bG=>?_;obtain⟨y,H1,I1,r1,q1⟩:=bG;refine cI (ho pins s1 σ H1 v y u w _ I1 r r1 q1) λz s2 bG=>?_;obtain⟨zv,H2,I2,r2,q2⟩:=bG;exact iV I2 hN hi hx r2 (λs3 I3=>⟨_,H2,I3,q2⟩) hf
 rcases l with ⟨hk,hm⟩|⟨hk,c,hc,hcell⟩
 ·exact wpAny_loadName_local I.ok.kind hk hn hm go
 ·rcases hk with hk|hk
  ·exact wpAny_loadName_cell I.ok.kind hk hc hcell go
  ·rcases hx with k|k
   ·have:X.env.scope.names.lookup x=some .free:=hk;rw[k]at this;cases this
   ·have:X.env.scope.names.lookup x=some .free:=hk;rw[k]at this;cases this
def TK(f:Int->Int->Int):OC:=λx y H Q=>∃i j,x=.int i/\y=.int j/\Q (.int (f i j)) H
theorem QA:Sw X .Add (TK λi j=>i+j):=by
 intro pins s σ H x y v u Q I r1 r2 h;obtain⟨i,j,e1,e2,q⟩:=h;subst e1;subst e2;obtain⟨t,rfl⟩:=r1;obtain⟨t',rfl⟩:=r2;exact iadd_int ⟨.int _,H,I.tok _,⟨_,rfl⟩,q⟩
theorem Qz:Sw X .Sub (TK λi j=>i - j):=by
 intro pins s σ H x y v u Q I r1 r2 h;obtain⟨i,j,e1,e2,q⟩:=h;subst e1;subst e2;obtain⟨t,rfl⟩:=r1;obtain⟨t',rfl⟩:=r2;exact isub_int ⟨.int _,H,I.tok _,⟨_,rfl⟩,q⟩
end
section
variable {X:Cx}{pos:Pos}
def Fe(c:TT)(tb:TS):TS:=λD σ H=>∃W:Nat->St->Hp->Prop,(∃m,W m σ H)/\∀m σ H,W m σ H ->
 c σ H λb H1=>if b=true then ∃N:St->Hp->Prop,(∀σ' H',N σ' H'->∃m',m'<m/\W m' σ' H')/\tb { D with nx:=N,ct:=N,bk:=D.nx } σ H1 else D.nx σ H1
theorem ym{c:Expr}{body:aO}{tc:TT}{tb:TS}(hp:PassesOwn (model X.prog X.w) X.A X.env X.xe)(hc:PT X c tc)(hb:kO X body tb):PS X (.While c body [] pos) (Fe tc tb):=by
 intro pins s σ H D I h;obtain⟨W,⟨m0,w0⟩,turn⟩:=h;refine wpAny_While (codeAny_whileLoop (λn s'=>∃σ' H',Inv X pins σ' H' s'/\W n σ' H') ?_ m0 ⟨σ,H,I,w0⟩);rintro n s1 ⟨σ1,H1,I1,w1⟩;refine YU hp (cI (hc pins s1 σ1 H1 _ I1 (turn n σ1 H1 w1)) λb s2 ⟨H2,I2,q2⟩=>?_);cases b with
 |true =>
  obtain⟨N,hN,q2⟩:=q2;rw[if_pos rfl];refine YU hp (cI (hb pins s2 σ1 H2 _ I2 q2) λf s3 q3=>?_);cases f with
  |next =>
   obtain⟨σ3,H3,I3,n3⟩:=q3;obtain⟨m',hm,w3⟩:=hN σ3 H3 n3;exact⟨m',hm,σ3,H3,I3,w3⟩
  |cont =>
   obtain⟨σ3,H3,I3,n3⟩:=q3;obtain⟨m',hm,w3⟩:=hN σ3 H3 n3;exact⟨m',hm,σ3,H3,I3,w3⟩
  |brk=>exact q3
  |ret v=>exact q3
 |false =>
  rw[if_neg Bool.false_ne_true];exact wpAny_execs_nil ⟨σ1,H2,I2,q2⟩
end
structure It where
 go:Nat->Hp->Prop
 rY:Nat->Hp->V->Hp->Prop
 stop:Nat->Hp->Prop
def l9(X:Cx)(pins:aj)(H:Hp)(b:Addr):Prop :=
 H b=none/\b≠X.env.locals/\b∉X.fs/\(b∈X.ex\/X.s₀.heap.objs.size<=b)/\(∀x c,X.env.cells.lookup x=some c->c≠b)/\∀p∈X.pn++pins,p.1≠b
theorem Inv.zS{pins:aj}{H':Hp}{s:Shared}{b:Addr}(I:Inv X pins σ H s)(hb:s.heap.objs.size<=b)(hn:H' b=none):l9 X pins H' b:=by
 refine⟨hn,Yj (Yc I.lt hb),I.Gw hb,.inr (Yi I.sz hb),λx c e z=>?_,λp hp z=>?_⟩
 ·obtain⟨v,q⟩:=I.cell x c e;exact absurd (Yc q.lt (by rw[z];exact hb)) (Ym _)
 ·exact absurd (Yc (Ya (I.pin p hp).1) (by rw[z];exact hb)) (Ym _)
structure Turn(P:aE)(w:World)(K:ao)(tg:Expr)(J:It)(fp:aW)(it:Addr)(tn:Nat->Heap->Prop):Prop where
 mem:it∈fp
 obj:∀i h,tn i h->∀b∈fp,∃o,h.get? b=some o/\∀v,o.data≠.cell v
 keep:∀i h h',tn i h->(∀b∈fp,∀o,h.get? b=some o->h'.get? b=some o)->tn i h'
 item:∀(X:Cx),X.prog=P->X.w=w->X.K=K->X.calm=true->∀(i:Nat) (pins:aj) (s:Shared) (σ:St) (H:Hp) (E:aB),Inv X pins σ H s->(∀b∈fp,l9 X pins H b)->tn i s.heap->J.go i H ->
  wpAny (model P w) X.A (pyNext (.ref it)) (λr s1=>∃u,r=some u /\
   wpAny (model P w) X.A (letOwnedTupleGo tg (.ref it) u) (λ_ s2=>∃x H',Inv X pins σ H' s2/\RelV x u/\J.rY i H x H'/\tn (i+1) s2.heap/\∀b∈fp,H' b=none) E s1) E s
 done:∀(X:Cx),X.prog=P->X.w=w->X.K=K->X.calm=true->∀(i:Nat) (pins:aj) (s:Shared) (σ:St) (H:Hp) (E:aB),Inv X pins σ H s->(∀b∈fp,l9 X pins H b)->tn i s.heap->J.stop i H ->
  wpAny (model P w) X.A (pyNext (.ref it)) (λr s1=>r=none/\Inv X pins σ H s1) E s
 self:∀(A:aD) (i:Nat) (s:Shared) (Q:aB) (E:aB),tn i s.heap->Q (.ref it) s->wpAny (model P w) A (pyIter (.ref it)) Q E s
abbrev TI:=St->Hp->(It->Hp->Prop)->Prop
def AL(X:Cx)(pins:aj)(σ:St)(tg:Expr)(R:It->Hp->Prop)(Qq:Value)(s2:Shared):Prop :=
 ∃(it:Addr) (fp:aW) (tn:Nat->Heap->Prop) (J:It) (H':Hp),Qq=.ref it/\Inv X pins σ H' s2/\Turn X.prog X.w X.K tg J fp it tn/\tn 0 s2.heap/\(∀b∈fp,l9 X pins H' b)/\R J H'
def PI(X:Cx)(tg iter:Expr)(wi:TI):Prop :=
 ∀(pins:aj) (s:Shared) (σ:St) (H:Hp) (R:It->Hp->Prop),Inv X pins σ H s->wi σ H R ->
  wpAny (model X.prog X.w) X.A (eval iter X.env) (λv s1=>wpAny (model X.prog X.w) X.A (pyIter v) (AL X pins σ tg R) X.xe s1) X.xe s
theorem uS{M:Model}{A:aD}{s:Shared}{it:Addr}{u:Value}{o:Obj}{n:String}{vs:aP}{Q:Unit->Shared->Prop}(ho:s.heap.get? it=some o)(hc:o.cls=.type n)(hd:o.data=.fields vs)
    (hn:["enumerate","zip","dict_itemiterator","dict_reverseitemiterator","odict_iterator","itertools.zip_longest","itertools.pairwise"].contains n=false) (hQ:Q () s):wpAny M A (letOwnedTupleGo tg (.ref it) u) Q E s:=by
  unfold letOwnedTupleGo;cases tg<;>first
    |exact X6 hQ
    | (cases u<;>first
        |exact X6 hQ
        | (refine X4 (wpAny_load ho ?_)
           rw[hc,hd];show wpAny M A (if (["enumerate","zip","dict_itemiterator","dict_reverseitemiterator","odict_iterator","itertools.zip_longest","itertools.pairwise"].contains n&&vs[0]?==some (rawInt _))=true then _ else _) Q E s;rw[if_neg (by intro h;rw[hn,Bool.false_and]at h;cases h)];exact X6 hQ))
noncomputable def JD(K:ao)(a:Addr):It :=
 ⟨λi H=>∃xs x,cM K H a xs/\xs[i]?=some x,λi H x H'=>H'=H/\∀xs,cM K H a xs->xs[i]?=some x,λi H=>∃xs,cM K H a xs/\xs.length<=i⟩
noncomputable def JC(K:ao)(a:Addr):It :=
 ⟨λi H=>∃xs x,aU K H a xs/\xs[i]?=some x,λi H x H'=>H'=H/\∀xs,aU K H a xs->xs[i]?=some x,λi H=>∃xs,aU K H a xs/\xs.length<=i⟩
noncomputable def xa(lo:Int)(n:Nat):It:=⟨λi _=>i<n,λi H x H'=>H'=H/\x=.int (lo+i),λi _=>n<=i⟩
variable {P:aE}{w:World}
theorem vK(a it:Addr):Turn P w K tg (JD K a) [it] it (λi h=>h.IsListIter it a i) where
 mem:=by simp
 obj:=λi h st b hb=>by
  have e:b=it:=by simpa using hb
  subst e;obtain⟨o,e,c,d⟩:=st;exact⟨o,e,λv z=>by rw[d]at z;cases z⟩
 keep:=λi h h' st k=>st.at λo e=>k it (by simp) o e
 item:=by
  intro X hP hw hK hc i pins s σ H E I hf st hg;subst hP hw hK;obtain⟨xs,x,hq,hx⟩:=hg;obtain⟨aF,rv,p,hz⟩:=I.list hq;obtain⟨u,hu,ru⟩:=rv.get hx;obtain⟨f0,f1,f2,f3,f4,f5⟩:=hf it (by simp);refine wpAny_pyNext_list_item st p.isList (x:=u) (by simpa using hu) λh' kn sb=>?_;have I1:Inv X pins σ H { s with heap:=h' }:=I.turned (t':=s.toks) (λb o hb e=>(sb.2 b hb).trans e) f0 f1 f3 f4 f5;obtain⟨o,e,c,d⟩:=id kn;exact⟨u,rfl,uS (s:={ s with heap:=h' }) e c d (by decide) ⟨x,H,I1,ru,⟨rfl,λys hy=>by rw[I.i4 hy hq];exact hx⟩,kn,λb hb=>(hf b hb).1⟩⟩
 done:=by
  intro X hP hw hK hc i pins s σ H E I hf st hg;subst hP hw hK;obtain⟨xs,hq,hx⟩:=hg;obtain⟨aF,rv,p,hz⟩:=I.list hq;obtain⟨f0,f1,f2,f3,f4,f5⟩:=hf it (by simp);have hl:=rv.length;exact wpAny_pyNext_list_end (I.ok.hd hc) st p.isList (by simp;left) λh' eb=>⟨rfl,I.turned (t':=s.toks) (λb o hb e=>eb b o hb e) f0 f1 f3 f4 f5⟩
 self:=λ_ _ _ _ _ st h=>wpAny_pyIter_listiter st h
theorem so(a it:Addr):Turn P w K tg (JC K a) [it] it (λi h=>h.IsTupleIter it a i) where
 mem:=by simp
 obj:=λi h st b hb=>by
  have e:b=it:=by simpa using hb
  subst e;obtain⟨o,e,c,d⟩:=st;exact⟨o,e,λv z=>by rw[d]at z;cases z⟩
 keep:=λi h h' st k=>st.at λo e=>k it (by simp) o e
 item:=by
  intro X hP hw hK hc i pins s σ H E I hf st hg;subst hP hw hK;obtain⟨xs,x,hq,hx⟩:=hg;obtain⟨aF,rv,p,hz⟩:=I.tuple hq;obtain⟨u,hu,ru⟩:=rv.get hx;obtain⟨f0,f1,f2,f3,f4,f5⟩:=hf it (by simp);refine wpAny_pyNext_tuple_item st (show s.heap.IsTuple a aF.toArray from p) (x:=u) (by simpa using hu) λh' kn sb=>?_;have I1:Inv X pins σ H { s with heap:=h' }:=I.turned (t':=s.toks) (λb o hb e=>(sb.2 b hb).trans e) f0 f1 f3 f4 f5;obtain⟨o,e,c,d⟩:=id kn;exact⟨u,rfl,uS (s:={ s with heap:=h' }) e c d (by decide) ⟨x,H,I1,ru,⟨rfl,λys hy=>by rw[I.mT hy hq];exact hx⟩,kn,λb hb=>(hf b hb).1⟩⟩
 done:=by
  intro X hP hw hK hc i pins s σ H E I hf st hg;subst hP hw hK;obtain⟨xs,hq,hx⟩:=hg;obtain⟨aF,rv,p,hz⟩:=I.tuple hq;obtain⟨f0,f1,f2,f3,f4,f5⟩:=hf it (by simp);have hl:=rv.length;exact wpAny_pyNext_tuple_end (I.ok.hd hc) st (show s.heap.IsTuple a aF.toArray from p) (by simp;left) λh' eb=>⟨rfl,I.turned (t':=s.toks) (λb o hb e=>eb b o hb e) f0 f1 f3 f4 f5⟩
 self:=λ_ _ _ _ _ st h=>wpAny_pyIter_tupleiter st h
theorem sr(it:Addr)(lo:Int)(n:Nat):Turn P w K tg (xa lo n) [it] it (λi h=>IsRangeIter h it (lo+(i:Nat)*1) ((n:Int) - (i:Nat)) 1) where
 mem:=by simp
 obj:=λi h st b hb=>by
  have e:b=it:=by simpa using hb
  subst e;exact⟨_,st,λv z=>by
   have z':Data.fields _=Data.cell v:=z;cases z'⟩
 keep:=λi h h' st k=>k it (by simp) _ st
 item:=by
  intro X hP hw hK hc i pins s σ H E I hf st hg;subst hP hw hK;obtain⟨f0,f1,f2,f3,f4,f5⟩:=hf it (by simp);have W:=Walks.range (prog:=X.prog) (w:=X.w) (I.ok.hd hc) it lo 1 n;refine W.item i s _ _ hg st λv h' tk hv kn kk=>?_;obtain⟨t,rfl⟩:=hv;have I1:Inv X pins σ H { s with heap:=h',toks:=tk }:=I.turned (λb o hb e=>kk b o (by simpa using hb) e) f0 f1 f3 f4 f5;refine⟨_,rfl,uS (s:={ s with heap:=h',toks:=tk }) (n:="range_iterator") kn rfl rfl (by decide) ⟨.int (lo+i),H,I1,⟨t,?_⟩,⟨rfl,rfl⟩,kn,λb hb=>(hf b hb).1⟩⟩;rw[Int.mul_one]
 done:=by
  intro X hP hw hK hc i pins s σ H E I hf st hg;subst hP hw hK;obtain⟨f0,f1,f2,f3,f4,f5⟩:=hf it (by simp);exact wpAny_pyNext_range_end (I.ok.hd hc) st (by have:n<=i:=hg;left) λh' eb=>⟨rfl,I.turned (t':=s.toks) (λb o hb e=>eb b o hb e) f0 f1 f3 f4 f5⟩
 self:=λ_ _ _ _ _ st h=>wpAny_pyIter_rangeiter st h
end L2
namespace L2
open PySem PySem.Spec PyProof.Rows
variable {H:Hp}{fp:aW}{lo:Int}{pos:Pos}{ta:TA}{tl:TE}{σ:L2.St}
section
variable {X:Cx}{tg:Expr}
def LF(K:ao)(tl:TE):TI:=λσ H R=>tl σ H λx H1=>∃a,x=.ref a/\(∃xs,cM K H1 a xs)/\R (JD K a) H1
def QD(K:ao)(tl:TE):TI:=λσ H R=>tl σ H λx H1=>∃a,x=.ref a/\(∃xs,aU K H1 a xs)/\R (JC K a) H1
theorem ur{l:Expr}(hl:PE X l tl):PI X tg l (LF X.K tl):=by
 intro pins s σ H R I h;refine cI (hl pins s σ H _ I h) λv s1 bG=>?_;obtain⟨x,H1,I1,r1,q1⟩:=bG;obtain⟨a,e,⟨xs,hq⟩,q⟩:=q1;subst e;cases r1;obtain⟨aF,rv,p,hz⟩:=I1.list hq;refine wpAny_pyIter_list p.isList ?_;refine⟨s1.heap.objs.size,[s1.heap.objs.size],_,_,H1,rfl,I1.kept (t':=s1.toks) λb o e=>X8 _ e,vK a _,⟨_,Yd _ rfl,rfl,rfl⟩,λb hb=>?_,q⟩;have e:b=s1.heap.objs.size:=by simpa using hb
 subst e;exact I1.zS (Yb _) (I1.cJ.fresh (Yb _))
theorem yo{l:Expr}(hl:PE X l tl):PI X tg l (QD X.K tl):=by
 intro pins s σ H R I h;refine cI (hl pins s σ H _ I h) λv s1 bG=>?_;obtain⟨x,H1,I1,r1,q1⟩:=bG;obtain⟨a,e,⟨xs,hq⟩,q⟩:=q1;subst e;cases r1;obtain⟨aF,rv,p,hz⟩:=I1.tuple hq;refine wpAny_pyIter_tuple (show s1.heap.IsTuple a aF.toArray from p) ?_;refine⟨s1.heap.objs.size,[s1.heap.objs.size],_,_,H1,rfl,I1.kept (t':=s1.toks) λb o e=>X8 _ e,so a _,⟨_,Yd _ rfl,rfl,rfl⟩,λb hb=>?_,q⟩;have e:b=s1.heap.objs.size:=by simpa using hb
 subst e;exact I1.zS (Yb _) (I1.cJ.fresh (Yb _))
theorem qv{pins:aj}{s:Shared}{R:It->Hp->Prop}{E:aB}{hi:Int}{t u v:Tok}{tk:Nat}(I:Inv X pins σ H s)(h1:-(2 ^ 62)<=lo)(h2:lo<2 ^ 62)(h3:-(2 ^ 62)<=hi)(h4:hi<2 ^ 62)
  (q:R (xa lo (hi - lo).toNat) H):wpAny (model X.prog X.w) X.A (pyIter (.ref s.heap.objs.size)) (AL X pins σ tg R) E { s with heap:=s.heap.push { cls:=.type "range",data:=.fields #[.int lo t,.int hi u,.int 1 v] },toks:=tk }:=by
 refine wpAny_pyIter_range (IsRange.new ..) (small_one h1 h2 h3 h4) ?_;have I1:Inv X pins σ H { s with heap:=s.heap.push { cls:=.type "range",data:=.fields #[.int lo t,.int hi u,.int 1 v] },toks:=tk }:=I.kept λb o e=>X8 _ e;refine⟨(s.heap.push { cls:=.type "range",data:=.fields #[.int lo t,.int hi u,.int 1 v] }).objs.size,[(s.heap.push { cls:=.type "range",data:=.fields #[.int lo t,.int hi u,.int 1 v] }).objs.size],_,_,H,rfl,
  I1.kept (t':=tk) λb o e=>X8 _ e,sr _ lo (hi - lo).toNat,?_,λb hb=>?_,q⟩
 ·have e1:lo+((0:Nat):Int)*1=lo:=by simp
  have e2:(((hi - lo).toNat:Nat):Int) - ((0:Nat):Int)=Builtin.Range.rangeSize lo hi 1:=by rw[rangeSize_one];split<;>left
  show IsRangeIter _ _ (lo+((0:Nat):Int)*1) ((((hi - lo).toNat:Nat):Int) - ((0:Nat):Int)) 1;rw[e1,e2];exact Yd _ rfl
 ·have e:b=(s.heap.push { cls:=.type "range",data:=.fields #[.int lo t,.int hi u,.int 1 v] }).objs.size:=by simpa using hb
  subst e;exact I1.zS (Yb _) (I1.cJ.fresh (Yb _))
def LD(ta:TA):TI:=λσ H R=>ta σ H λvs H1=>∃j:Int,vs=[.int j] /\ -(2 ^ 62)<=j/\j<2 ^ 62/\R (xa 0 j.toNat) H1
def LC(ta:TA):TI:=λσ H R=>ta σ H λvs H1=>∃i j:Int,vs=[.int i,.int j]/\(-(2 ^ 62)<=i/\i<2 ^ 62 /\ -(2 ^ 62)<=j/\j<2 ^ 62)/\R (xa i (j - i).toNat) H1
theorem ng{a:Expr}{p:Pos}(hg:Gl X "range")(hm:X.mg "range" = none)(ha:PA X [a] ta)(hs:starEach [a] X.env=[(false,eval a X.env)]:=by rfl):PI X tg (.Call (.Name "range" p) [a] [] pos) (LD ta):=by
 intro pins s σ H R I h;refine Call_ (fb I hg hm boot_range (Yr (cI (ha pos pins s σ H _ I h) λus s1 bG=>?_) hs rfl));obtain⟨vs,H1,I1,r1,q1⟩:=bG;obtain⟨j,e,q1,q2,q⟩:=q1;subst e;cases r1 with
 |cons r rr =>
  cases rr;obtain⟨t,rfl⟩:=r;exact call_range_1 (qv I1 (by left) (by left) q1 q2 (by simpa using q))
theorem I0{a b:Expr}{p:Pos}(hg:Gl X "range")(hm:X.mg "range" = none)(ha:PA X [a,b] ta)(hs:starEach [a,b] X.env=[(false,eval a X.env),(false,eval b X.env)]:=by rfl)(Jk:starEach [b] X.env=[(false,eval b X.env)]:=by rfl):
  PI X tg (.Call (.Name "range" p) [a,b] [] pos) (LC ta):=by
 intro pins s σ H R I h;refine Call_ (fb I hg hm boot_range (Yr (cI (ha pos pins s σ H _ I h) λus s1 bG=>?_) (by rw[hs,Jk]) (by rw[Jk];rfl)));obtain⟨vs,H1,I1,r1,q1⟩:=bG;obtain⟨i,j,e,⟨q1,q2,q3,q4⟩,q⟩:=q1;subst e;cases r1 with
 |cons r rr =>
  cases rr with
  |cons r' rr =>
   cases rr;obtain⟨t,rfl⟩:=r;obtain⟨t',rfl⟩:=r';exact call_range_2 (qv I1 q1 q2 q3 q4 q)
def OW(wi:TI)(g:TG)(tb:TS):TS:=λD σ H=>wi σ H λJ H1=>∃W:Nat->Nat->St->Hp->Prop,(∃m,W 0 m σ H1)/\∀i m σ H,W i m σ H ->
 (J.stop i H/\D.nx σ H)\/(J.go i H/\∃N:St->Hp->Prop,(∀σ' H',N σ' H'->∃m',m'<m/\W (i+1) m' σ' H')/\∀x H',J.rY i H x H'->g x σ H' λσ2 H2=>tb { D with nx:=N,ct:=N,bk:=D.nx } σ2 H2)
noncomputable def gx(fp:aW)(h:Heap):aj:=fp.filterMap λb=>(h.get? b).map λo=>(b,o)
theorem fO{h:Heap}{b:Addr}{o:Obj}(hb:b∈fp)(e:h.get? b=some o):(b,o)∈gx fp h:=List.mem_filterMap.mpr ⟨b,hb,by rw[e];rfl⟩
theorem nr{h:Heap}{p:Addr×Obj}(hp:p∈gx fp h):p.1∈fp/\h.get? p.1=some p.2:=by
 obtain⟨b,hb,e⟩:=List.mem_filterMap.mp hp;cases q:h.get? b with
 |none=>rw[q]at e;cases e
 |some o =>
  rw[q]at e;have e':(b,o)=p:=Yg e;subst e';exact⟨hb,q⟩
theorem Inv.pinned{pins:aj}{s:Shared}(I:Inv X pins σ H s)(hf:∀b∈fp,l9 X pins H b)(ho:∀b∈fp,∃o,s.heap.get? b=some o/\∀v,o.data≠.cell v):Inv X (pins++gx fp s.heap) σ H s :=
 I.gR λp hp=>(List.mem_append.mp hp).elim (λz=>I.pin p (Ye _ z)) λz=>by
  obtain⟨hb,e⟩:=nr z;obtain⟨f0,f1,f2,_⟩:=hf p.1 hb;obtain⟨o,e',d⟩:=ho p.1 hb;rw[e]at e';cases e';exact⟨e,f0,f1,f2,d⟩
theorem Inv.iU{pins pl:aj}{s:Shared}(I:Inv X (pins++pl) σ H s):Inv X pins σ H s:=I.gR λp hp=>I.pin p (Ye _ (Yu _ hp))
theorem oz{iter:Expr}{body:aO}{wi:TI}{g:TG}{tb:TS}(hp:PassesOwn (model X.prog X.w) X.A X.env X.xe)(hc:X.calm=true)(hi:PI X tg iter wi)(hg:PG X tg g)(hb:kO X body tb)
  (hs:∀x,foldedSetIterable iter X.env x=pure x:=by intro _;rfl):PS X (.For tg iter body [] pos) (OW wi g tb):=by
 intro pins s σ H D I h;refine wpAny_For (cI (hi pins s σ H _ I h) λv s1 h1=>cI h1 λQq s2 h2=>?_) hs;obtain⟨it,fp,tn,J,H2,e,I2,T,Kb,f2,W,⟨m0,w0⟩,turn⟩:=h2;subst e;have Fq:∀{H':Hp},(∀b∈fp,H' b=none)->∀b∈fp,l9 X pins H' b:=λhn b hb=>⟨hn b hb,(f2 b hb).2⟩
 refine codeAny_forLoop_any (λn s'=>∃i σ' H',Inv X pins σ' H' s'/\tn i s'.heap/\(∀b∈fp,H' b=none)/\W i n σ' H') ?_ m0 ⟨0,σ,H2,I2,Kb,λb hb=>(f2 b hb).1,w0⟩;rintro n s3 ⟨i,σ3,H3,I3,st3,fr3,w3⟩;rcases turn i n σ3 H3 w3 with ⟨stop,qn⟩|⟨go,N,hN,step⟩
 ·refine YU hp (cI (T.done X rfl rfl rfl hc i pins s3 σ3 H3 X.xe I3 (Fq fr3) st3 stop) λr s4 bG=>?_);obtain⟨hr,I4⟩:=bG;subst hr;exact wpAny_execs_nil ⟨σ3,H3,I4,qn⟩
 ·refine YU hp (cI (T.item X rfl rfl rfl hc i pins s3 σ3 H3 X.xe I3 (Fq fr3) st3 go) λr s4 bG=>?_);obtain⟨u,hr,h4⟩:=bG;subst hr;refine YU hp (cI h4 λ_ s5 bG=>?_);obtain⟨x,H5,I5,r5,y5,Fv,RS⟩:=bG;have SA:=I5.pinned (Fq RS) (T.obj _ _ Fv);refine YU hp (cI (hg _ s5 σ3 H5 x u _ SA r5 (step x H5 y5)) λ_ s6 bG=>?_);obtain⟨σ6,H6,I6,q6⟩:=bG;refine YU hp (cI (hb _ s6 σ6 H6 _ I6 q6) λf s7 q7=>?_);have again:∀{σ7:St} {H7:Hp},Inv X (pins++gx fp s5.heap) σ7 H7 s7->N σ7 H7->∃m,m<n/\∃i σ' H',Inv X pins σ' H' s7/\tn i s7.heap/\(∀b∈fp,H' b=none)/\W i m σ' H':=λ{σ7 H7} I7 n7=>by
   obtain⟨m',hm,w7⟩:=hN σ7 H7 n7;refine⟨m',hm,i+1,σ7,H7,I7.iU,T.keep _ _ _ Fv λb hb o e=>(I7.pin (b,o) (Ye _ (Ye _ (fO hb e)))).1,λb hb=>?_,w7⟩;obtain⟨o,e,d⟩:=T.obj _ _ Fv b hb;exact(I7.pin (b,o) (Ye _ (Ye _ (fO hb e)))).2.1
  cases f with
  |next=>obtain⟨σ7,H7,I7,n7⟩:=q7;exact again I7 n7
  |cont=>obtain⟨σ7,H7,I7,n7⟩:=q7;exact again I7 n7
  |brk=>obtain⟨σ7,H7,I7,q7⟩:=q7;exact⟨σ7,H7,I7.iU,q7⟩
  |ret v=>obtain⟨x7,σ7,H7,I7,r7,q7⟩:=q7;exact⟨x7,σ7,H7,I7.iU,r7,q7⟩
end
variable {K:ao}{xs:ae}
theorem zT{a:Addr}{g:TG}{tb:TS}{D:Ends}(Pv:Nat->St->Hp->Prop)(h0:Pv 0 σ H)(hl:∀i σ H,i<=xs.length->Pv i σ H->cM K H a xs)
  (hs:∀i x σ H,xs[i]?=some x->Pv i σ H->g x σ H λσ2 H2=>tb { D with nx:=Pv (i+1),ct:=Pv (i+1),bk:=D.nx } σ2 H2) (hd:∀σ H,Pv xs.length σ H->D.nx σ H) :
  ∃W:Nat->Nat->St->Hp->Prop,(∃m,W 0 m σ H)/\∀i m σ H,W i m σ H ->
   ((JD K a).stop i H/\D.nx σ H)\/((JD K a).go i H/\∃N:St->Hp->Prop,(∀σ' H',N σ' H'->∃m',m'<m/\W (i+1) m' σ' H')/\∀x H',(JD K a).rY i H x H'->g x σ H' λσ2 H2=>tb { D with nx:=N,ct:=N,bk:=D.nx } σ2 H2):=by
 refine⟨λi m σ H=>m=xs.length - i/\i<=xs.length/\Pv i σ H,⟨xs.length,by simp,Yy _,h0⟩,?_⟩;rintro i m σ H ⟨rfl,hi,p⟩;have q:=hl i σ H hi p;by_cases fj:i<xs.length
 ·refine .inr ⟨⟨xs,xs[i],q,by simp[fj]⟩,Pv (i+1),λσ' H' p'=>⟨xs.length - (i+1),by left,rfl,fj,p'⟩,λx H' y=>?_⟩;obtain⟨e,y⟩:=y;subst e;exact hs i x σ _ (y xs q) p
 ·have e:i=xs.length:=by left
  subst e;exact .inl ⟨⟨xs,q,Yb _⟩,hd σ H p⟩
theorem CP{a:Addr}{g:TG}{tb:TS}{D:Ends}(Pv:Nat->St->Hp->Prop)(h0:Pv 0 σ H)(hl:∀i σ H,i<=xs.length->Pv i σ H->aU K H a xs)
  (hs:∀i x σ H,xs[i]?=some x->Pv i σ H->g x σ H λσ2 H2=>tb { D with nx:=Pv (i+1),ct:=Pv (i+1),bk:=D.nx } σ2 H2) (hd:∀σ H,Pv xs.length σ H->D.nx σ H) :
  ∃W:Nat->Nat->St->Hp->Prop,(∃m,W 0 m σ H)/\∀i m σ H,W i m σ H ->
   ((JC K a).stop i H/\D.nx σ H)\/((JC K a).go i H/\∃N:St->Hp->Prop,(∀σ' H',N σ' H'->∃m',m'<m/\W (i+1) m' σ' H')/\∀x H',(JC K a).rY i H x H'->g x σ H' λσ2 H2=>tb { D with nx:=N,ct:=N,bk:=D.nx } σ2 H2):=by
 refine⟨λi m σ H=>m=xs.length - i/\i<=xs.length/\Pv i σ H,⟨xs.length,by simp,Yy _,h0⟩,?_⟩;rintro i m σ H ⟨rfl,hi,p⟩;have q:=hl i σ H hi p;by_cases fj:i<xs.length
 ·refine .inr ⟨⟨xs,xs[i],q,by simp[fj]⟩,Pv (i+1),λσ' H' p'=>⟨xs.length - (i+1),by left,rfl,fj,p'⟩,λx H' y=>?_⟩;obtain⟨e,y⟩:=y;subst e;exact hs i x σ _ (y xs q) p
 ·have e:i=xs.length:=by left
  subst e;exact .inl ⟨⟨xs,q,Yb _⟩,hd σ H p⟩
theorem wI{n:Nat}{g:TG}{tb:TS}{D:Ends}(Pv:Nat->St->Hp->Prop)(h0:Pv 0 σ H)
  (hs:∀i σ H,i<n->Pv i σ H->g (.int (lo+i)) σ H λσ2 H2=>tb { D with nx:=Pv (i+1),ct:=Pv (i+1),bk:=D.nx } σ2 H2) (hd:∀σ H,Pv n σ H->D.nx σ H) :
  ∃W:Nat->Nat->St->Hp->Prop,(∃m,W 0 m σ H)/\∀i m σ H,W i m σ H ->
   ((xa lo n).stop i H/\D.nx σ H)\/((xa lo n).go i H/\∃N:St->Hp->Prop,(∀σ' H',N σ' H'->∃m',m'<m/\W (i+1) m' σ' H')/\∀x H',(xa lo n).rY i H x H'->g x σ H' λσ2 H2=>tb { D with nx:=N,ct:=N,bk:=D.nx } σ2 H2):=by
 refine⟨λi m σ H=>m=n - i/\i<=n/\Pv i σ H,⟨n,by simp,Yy _,h0⟩,?_⟩;rintro i m σ H ⟨rfl,hi,p⟩;by_cases fj:i<n
 ·refine .inr ⟨fj,Pv (i+1),λσ' H' p'=>⟨n - (i+1),by left,rfl,fj,p'⟩,λx H' y=>?_⟩;obtain⟨e,y⟩:=y;subst e y;exact hs i σ _ fj p
 ·have e:i=n:=by left
  subst e;exact .inl ⟨Yb _,hd σ H p⟩
end L2
namespace L2
open PySem PySem.Spec PyProof.Rows
abbrev R2:=V->V->Hp->VK->Prop
def gY(X:Cx)(f:Value->Value->Sem Value)(r:R2):Prop :=
 ∀(pins:aj) (s:Shared) (σ:St) (H:Hp) (x y:V) (v u:Value) (Q:VK),Inv X pins σ H s->RelV x v->RelV y u->r x y H Q ->
  wpAny (model X.prog X.w) X.A (f v u) (EP X pins σ Q) X.xe s
def Sv(X:Cx)(f:Value->Sem Value)(r:V->Hp->VK->Prop):Prop :=
 ∀(pins:aj) (s:Shared) (σ:St) (H:Hp) (x:V) (v:Value) (Q:VK),Inv X pins σ H s->RelV x v->r x H Q ->
  wpAny (model X.prog X.w) X.A (f v) (EP X pins σ Q) X.xe s
def df(X:Cx)(f:Value)(r:ae->Hp->VK->Prop):Prop :=
 ∀(pins:aj) (s:Shared) (σ:St) (H:Hp) (xs:ae) (us:ak) (Q:VK),Inv X pins σ H s->Vals xs us->r xs H Q ->
  wpAny (model X.prog X.w) X.A (call f us) (EP X pins σ Q) X.xe s
def AO(r:R2)(ta tb:TE):TE:=λσ H Q=>ta σ H λx H1=>tb σ H1 λy H2=>r x y H2 Q
def Vg(r:V->Hp->VK->Prop)(ta:TE):TE:=λσ H Q=>ta σ H λx H1=>r x H1 Q
def rI(C:Int->Int->Prop)(g:Int->Int->V):R2:=λx y H Q=>∃i j,x=.int i/\y=.int j/\C i j/\Q (g i j) H
def yj(g:Int->Int->V):R2:=λx y H Q=>∃i j,x=.int i/\y=.int j/\Q (g i j) H
def rU(g:Int->V):V->Hp->VK->Prop:=λx H Q=>∃i,x=.int i/\Q (g i) H
variable {H:Hp}{σ:L2.St}
section
variable {X:Cx}{a b c:Expr}{ta tb tc:TE}{pos:Pos}
theorem IB(ha:PE X a ta)(hb:PE X b tb){pins:aj}{s:Shared}{R:V->V->Hp->Prop}(I:Inv X pins σ H s)
  (h:ta σ H λx H1=>tb σ H1 λy H2=>R x y H2) {Q:aB} {f:Value->Value->Sem Value}
  (hf:∀v u s2 x y H2,Inv X pins σ H2 s2->RelV x v->RelV y u->R x y H2->wpAny (model X.prog X.w) X.A (f v u) Q X.xe s2) :
  wpAny (model X.prog X.w) X.A (eval a X.env) (λv s₁=>wpAny (model X.prog X.w) X.A (eval b X.env) (λu s₂=>wpAny (model X.prog X.w) X.A (f v u) Q X.xe s₂) X.xe s₁) X.xe s:=by
 refine cI (ha pins s σ H _ I h) λv s1 bG=>?_;obtain⟨x,H1,I1,r1,q1⟩:=bG;refine cI (hb pins s1 σ H1 _ I1 q1) λu s2 bG=>?_;obtain⟨y,H2,I2,r2,q2⟩:=bG;exact hf v u s2 x y H2 I2 r1 r2 q2
theorem yt{op:Operator}{r:R2}(ho:gY X (binaryOp op) r)(ha:PE X a ta)(hb:PE X b tb):PE X (.BinOp a op b pos) (AO r ta tb):=by
 intro pins s σ H Q I h;exact wpAny_BinOp (IB ha hb I h λv u s2 x y H2 I2 rx ry q=>ho pins s2 σ H2 x y v u Q I2 rx ry q)
theorem KR{op:UnaryOp}{r:V->Hp->VK->Prop}(ho:Sv X (unaryOp op) r)(ha:PE X a ta):PE X (.UnaryOp op a pos) (Vg r ta):=by
 intro pins s σ H Q I h;exact UnaryOp_ (cI (ha pins s σ H _ I h) λv s1 ⟨x,H1,I1,r1,q1⟩=>ho pins s1 σ H1 x v Q I1 r1 q1)
theorem Gq{f:Value->Value->Sem Value}{C:Int->Int->Prop}{g:Int->Int->Int}
  (rule:∀(i j:Int) (t u:Tok) (s:Shared) (Q:aB) (E:aB),C i j->Q (.int (g i j) s.toks) { s with toks:=s.toks+1 }->wpAny (model X.prog X.w) X.A (f (.int i t) (.int j u)) Q E s) :
  gY X f (rI C λi j=>.int (g i j)):=by
 intro pins s σ H x y v u Q I rx ry h;obtain⟨i,j,rfl,rfl,hc,q⟩:=h;obtain⟨t,rfl⟩:=rx;obtain⟨t',rfl⟩:=ry;exact rule i j t t' s _ _ hc ⟨.int (g i j),H,I.tok _,⟨_,rfl⟩,q⟩
theorem P8{f:Value->Value->Sem Value}{g:Int->Int->Int}
  (rule:∀(i j:Int) (t u:Tok) (s:Shared) (Q:aB) (E:aB),Q (.int (g i j) s.toks) { s with toks:=s.toks+1 }->wpAny (model X.prog X.w) X.A (f (.int i t) (.int j u)) Q E s) :
  gY X f (yj λi j=>.int (g i j)):=by
 intro pins s σ H x y v u Q I rx ry h;obtain⟨i,j,rfl,rfl,q⟩:=h;obtain⟨t,rfl⟩:=rx;obtain⟨t',rfl⟩:=ry;exact rule i j t t' s _ _ ⟨.int (g i j),H,I.tok _,⟨_,rfl⟩,q⟩
theorem B4{f:Value->Value->Sem Value}{g:Int->Int->Bool}
  (rule:∀(i j:Int) (t u:Tok) (s:Shared) (Q:aB) (E:aB),Q (.bool (g i j)) s->wpAny (model X.prog X.w) X.A (f (.int i t) (.int j u)) Q E s) :
  gY X f (yj λi j=>.bl (g i j)):=by
 intro pins s σ H x y v u Q I rx ry h;obtain⟨i,j,rfl,rfl,q⟩:=h;obtain⟨t,rfl⟩:=rx;obtain⟨t',rfl⟩:=ry;exact rule i j t t' s _ _ ⟨.bl (g i j),H,I,rfl,q⟩
theorem sk(k:Nat):(0:Int)<=2 ^ k:=by
 rw[two_pow_cast];exact Int.natCast_nonneg _
theorem Gp:gY X (binaryOp .Add) (yj λi j=>.int (i+j)):=P8 λ_ _ _ _ _ _ _ q=>add_int q
theorem B1:gY X (binaryOp .Mod) (rI (λ_ j=>j≠0) λi j=>.int (i.fmod j)):=Gq λ_ _ _ _ _ _ _ hc q=>mod_int' hc q
theorem P6:gY X (binaryOp .RShift) (rI (λ_ j=>0<=j) λi j=>.int (i / 2 ^ j.toNat)):=Gq λi j _ _ _ _ _ hc q =>
 rshift_int hc (by rw[Int.fdiv_eq_ediv_of_nonneg i (sk _)];exact q)
theorem Va{f:Value->Sem Value}{g:Int->Int}
  (rule:∀(i:Int) (t:Tok) (s:Shared) (Q:aB) (E:aB),Q (.int (g i) s.toks) { s with toks:=s.toks+1 }->wpAny (model X.prog X.w) X.A (f (.int i t)) Q E s) :
  Sv X f (rU λi=>.int (g i)):=by
 intro pins s σ H x v Q I rx h;obtain⟨i,rfl,q⟩:=h;obtain⟨t,rfl⟩:=rx;exact rule i t s _ _ ⟨.int (g i),H,I.tok _,⟨_,rfl⟩,q⟩
theorem Fb:Sv X (unaryOp .USub) (rU λi=>.int (-i)):=Va λ_ _ _ _ _ q=>neg_int q
end
variable {us:ak}
section
variable {X:Cx}{a b c:Expr}{ta tb tc:TE}{pos:Pos}
theorem tu{pins:aj}{s:Shared}{Q:VK}{k k':Bool}(I:Inv X pins σ H s)(q:Q (.bl k) H)(e:k=k'):EP X pins σ Q (.bool k') s:=by
 subst e;exact⟨.bl k,H,I,rfl,q⟩
theorem KZ:gY X (compareOp .Lt) (yj λi j=>.bl (decide (i<j))):=B4 λ_ _ _ _ _ _ _ q=>lt_int q
theorem K0:gY X (compareOp .LtE) (yj λi j=>.bl (decide (i<=j))):=B4 λ_ _ _ _ _ _ _ q=>le_int q
theorem K1:gY X (compareOp .Gt) (yj λi j=>.bl (decide (j<i))):=B4 λ_ _ _ _ _ _ _ q=>gt_int q
theorem K2:gY X (compareOp .GtE) (yj λi j=>.bl (decide (j<=i))):=B4 λ_ _ _ _ _ _ _ q=>ge_int q
theorem nq:gY X (compareOp .In) (λx y H Q=>∃i j,x=.str i/\y=.str j/\Q (.bl (!(Builtin.Str.occurrences j i 0 j.length 1).isEmpty)) H):=by
 intro pins s σ H x y v u Q I rx ry h;obtain⟨i,j,rfl,rfl,q⟩:=h;obtain⟨t,rfl⟩:=rx;obtain⟨t',rfl⟩:=ry;exact in_str (tu I q rfl)
theorem Gk:gY X (compareOp .Is) (λx y H Q=>y=.bw/\Q (.bl (decide (x=.bw))) H):=by
 intro pins s σ H x y v u Q I rx ry h;obtain⟨rfl,q⟩:=h;cases ry;refine is_none_gen (tu I q ?_);cases x<;>first
  | (cases rx;rfl)
  | (obtain⟨t,rfl⟩:=rx;rfl)
theorem NT:gY X (compareOp .IsNot) (λx y H Q=>y=.bw/\Q (.bl (!decide (x=.bw))) H):=by
 intro pins s σ H x y v u Q I rx ry h;obtain⟨rfl,q⟩:=h;cases ry;refine isnot_none_gen (tu I q ?_);cases x<;>first
  | (cases rx;rfl)
  | (obtain⟨t,rfl⟩:=rx;rfl)
theorem gY.or{f:Value->Value->Sem Value}{r r':R2}(h:gY X f r)(h':gY X f r'):gY X f (λx y H Q=>r x y H Q\/r' x y H Q):=by
 intro pins s σ H x y v u Q I rx ry q;rcases q with q|q
 ·exact h pins s σ H x y v u Q I rx ry q
 ·exact h' pins s σ H x y v u Q I rx ry q
theorem yK(b:Expr){op:CmpOp}(h:op≠.In:=by decide)(h2:op≠.NotIn:=by decide):behindInMarks op b=false:=by
 have e1:(op==CmpOp.In)=false:=by cases op<;>first|rfl|exact absurd rfl h
 have e2:(op==CmpOp.NotIn)=false:=by cases op<;>first|rfl|exact absurd rfl h2
 cases b<;>simp[behindInMarks,e1,e2]
theorem kz{op:CmpOp}{r:R2}(ho:gY X (compareOp op) r)(ha:PE X a ta)(hb:PE X b tb)(hm:behindInMarks op b=false):PE X (.Compare a [op] [b] pos) (AO r ta tb):=by
 intro pins s σ H Q I h;exact wpAny_Compare1 (IB ha hb I h λv u s2 x y H2 I2 rx ry q=>ho pins s2 σ H2 x y v u Q I2 rx ry q) hm
def D1(t:TE):TT:=λσ H Q=>t σ H λx H'=>∃k,x=.bl k/\Q k H'
theorem ku{op:CmpOp}{r:R2}(ho:gY X (compareOp op) r)(ha:PE X a ta)(hb:PE X b tb)(hm:behindInMarks op b=false):PT X (.Compare a [op] [b] pos) (D1 (AO r ta tb)):=by
 intro pins s σ H Q I h;refine wpAny_isTrue_Compare1 (cI (ha pins s σ H _ I h) λv s1 ⟨x,H1,I1,r1,q1⟩=>cI (hb pins s1 σ H1 _ I1 q1) λu s2 ⟨y,H2,I2,r2,q2⟩ =>
  cI (ho pins s2 σ H2 x y v u _ I2 r1 r2 q2) λc s3 ⟨z,H3,I3,r3,k,e,q3⟩=>?_) hm
 subst e;cases r3;exact YL ⟨H3,I3,q3⟩
theorem jG:(sizeLine:Nat)<2 ^ 63:=by rw[sizeLine_eq];decide
theorem sJ:gY X (binaryOp .Add) (λx y H Q=>∃i j,x=.str i/\y=.str j/\i.length+j.length<=sizeLine/\Q (.str (i++j)) H):=by
 intro pins s σ H x y v u Q I rx ry h;obtain⟨i,j,rfl,rfl,hz,q⟩:=h;obtain⟨t,rfl⟩:=rx;obtain⟨t',rfl⟩:=ry;exact add_str (λt' tk=>⟨.str (i++j),H,I.tok _,⟨_,rfl⟩,q⟩) hz
theorem vals1{x:V}(r:Vals [x] us):∃u,us=[u]/\RelV x u:=by
 cases r with
 |cons r1 r2=>cases r2;exact⟨_,rfl,r1⟩
theorem vals2{x y:V}(r:Vals [x,y] us):∃u w',us=[u,w']/\RelV x u/\RelV y w':=by
 cases r with
 |cons r1 r2 =>
  cases r2 with
  |cons r3 r4=>cases r4;exact⟨_,_,rfl,r1,r3⟩
theorem Au:df X (.builtin "abs") (λxs H Q=>∃i,xs=[.int i]/\Q (.int (if i<0 then -i else i)) H):=by
 intro pins s σ H xs us Q I r h;obtain⟨i,rfl,q⟩:=h;obtain⟨u,rfl,t,rfl⟩:=vals1 r;exact call_abs_int λu tk=>⟨.int (if i<0 then -i else i),H,I.tok _,⟨_,rfl⟩,q⟩
theorem Jy(hc:X.calm=true):df X (.builtin "max") (λxs H Q=>∃i j,xs=[.int i,.int j]/\Q (.int (if j>i then j else i)) H):=by
 intro pins s σ H xs us Q I r h;obtain⟨i,j,rfl,q⟩:=h;obtain⟨u,w',rfl,⟨t,rfl⟩,⟨t',rfl⟩⟩:=vals2 r;refine max_two_ints (I.ok.hd hc) λh' tk k=>⟨_,H,I.kept k,?_,q⟩
 by_cases hj:j>i
 ·rw[if_pos hj,if_pos hj];exact⟨_,rfl⟩
 ·rw[if_neg hj,if_neg hj];exact⟨_,rfl⟩
theorem Jx(hc:X.calm=true):df X (.builtin "min") (λxs H Q=>∃i j,xs=[.int i,.int j]/\Q (.int (if j<i then j else i)) H):=by
 intro pins s σ H xs us Q I r h;obtain⟨i,j,rfl,q⟩:=h;obtain⟨u,w',rfl,⟨t,rfl⟩,⟨t',rfl⟩⟩:=vals2 r;refine min_two_ints (I.ok.hd hc) λh' tk k=>⟨_,H,I.kept k,?_,q⟩
 by_cases hj:j<i
 ·rw[if_pos hj,if_pos hj];exact⟨_,rfl⟩
 ·rw[if_neg hj,if_neg hj];exact⟨_,rfl⟩
theorem wX:df X (.type "int") (λxs H Q=>(∃i,xs=[.int i]/\Q (.int i) H)\/∃k,xs=[.bl k]/\Q (.int (if k then 1 else 0)) H):=by
 intro pins s σ H xs us Q I r h;rcases h with ⟨i,rfl,q⟩|⟨k,rfl,q⟩
 ·obtain⟨u,rfl,t,rfl⟩:=vals1 r;exact call_int_int ⟨.int i,H,I,⟨_,rfl⟩,q⟩
 ·obtain⟨u,rfl,r1⟩:=vals1 r;cases r1;exact call_int_bool ⟨.int (if k then 1 else 0),H,I.tok _,⟨_,rfl⟩,q⟩
theorem pj:df X (.type "str") (λxs H Q=>∃i,xs=[.int i]/\i.natAbs.log2<1920/\Q (.str (toString i)) H):=by
 intro pins s σ H xs us Q I r h;obtain⟨i,rfl,hz,q⟩:=h;obtain⟨u,rfl,t,rfl⟩:=vals1 r;exact PySem.P.str_of_int hz ⟨.str _,H,I.tok _,⟨_,rfl⟩,q⟩
end
end L2
namespace L2
open PySem PySem.Spec PyProof.Rows
section
variable {prog:aE}{w:World}{A:aD}{E:aB}{s:Shared}{K:ao}{x dx C f:Addr}{mA:aS}{name:Str}{v:Value}
end
theorem AK.some_of{v:V}{o:Option Value}(r:AK (some v) o):∃u,o=some u/\RelV v u:=by
 cases o with
 |none=>exact(show False from r).elim
 |some u=>exact⟨u,rfl,r⟩
section
variable {P:aE}{w:World}{H H':Hp}{h h':Heap}{a C dx:Addr}{fs WW:List (Str×V)}
end
section
variable {X:Cx}{pins:aj}{σ:St}{H:Hp}{s:Shared}{a C dx:Addr}{fs:List (Str×V)}{f:Str}{v:V}{A:aD}{E:aB}
end
section
variable {X:Cx}{o e value:Expr}{f:Str}{pos pos' Ve:Pos}{ta tv:TE}
end
section
variable {X:Cx}{pins:aj}{σ:St}{H:Hp}{s:Shared}{A:aD}{E:aB}{Q:aB}{c:Value}{b:Bool}
end
end L2
namespace L2
open PySem PySem.Spec PyProof.Rows
structure fH(k:Nat)(A:aD):Prop where
 hd:A.handled=none
 dp:A.depth+3*k+5<recursionLimit
 un:A.units+16*k+200<cLine
variable {A:aD}
theorem fH.mono{j k:Nat}(r:fH k A)(h:j<=k):fH j A:=⟨r.hd,by have:=r.dp;left,by have:=r.un;left⟩
theorem fH.deeper{k:Nat}{A:aD}(r:fH (k+1) A)(env:Env):fH k (A.deeper env) :=
 ⟨r.hd,by have:=r.dp;show A.depth+1+3*k+5<_;left,by have:=r.un;show A.units+3+16*k+200<_;left⟩
theorem fH.depth{k:Nat}{A:aD}(r:fH k A):A.depth<recursionLimit:=by have:=r.dp;left
theorem fH.units{k:Nat}{A:aD}(r:fH k A):A.units+64<cLine:=by have:=r.un;left
def JY:TA:=λ_ H Q=>Q [] H
def D3(ta:TE)(tr:TA):TA:=λσ H Q=>ta σ H λx H1=>tr σ H1 λxs H2=>Q (x::xs) H2
section
variable {X:Cx}{e:Expr}{es:ai}{te:TE}{t:TA}{pos:Pos}
theorem dh:PA X [] JY:=λ_ _ _ _ H Q I h=>Z0 ⟨[],H,I,.nil,h⟩
theorem cc(ha:PE X e te)(hr:PA X es t)(hs:starEach (e::es) X.env=(false,eval e X.env)::starEach es X.env:=by rfl):PA X (e::es) (D3 te t):=by
 intro pos pins s σ H Q I h;rw[hs];show wpAny _ _ (spliced ((false,eval e X.env)::backTo pos (starEach es X.env))) _ _ s;refine ZT (cI (ha pins s σ H _ I h) λu s1 bG=>?_);obtain⟨x,H1,I1,r1,q1⟩:=bG;exact cI (hr pos pins s1 σ H1 _ I1 q1) λus s2 ⟨xs,H2,I2,r2,q2⟩=>⟨x::xs,H2,I2,.cons r1 r2,q2⟩
def OP(t:TA):TE:=λσ H Q=>t σ H λxs H1=>xs.length<=sizeLine/\∀p,H1 p=none->Q (.ref p) (upd H1 p (.tup xs))
def OU(t:TA):TE:=λσ H Q=>t σ H λxs H1=>xs.length<=sizeLine/\∀p,H1 p=none->Q (.ref p) (upd H1 p (.lst xs))
theorem F8{x1}(h:PA X es t):PE X (.Tuple es x1 pos) (OP t):=by
 intro pins s σ H Q I hq;refine wpAny_Tuple_spliced (cI (h pos pins s σ H _ I hq) λus s1 ⟨xs,H1,I1,r,z,q⟩=>⟨by rw[<- r.length];exact z,?_⟩);have hf:H1 s1.heap.objs.size=none:=I1.cJ.fresh (Yb _);refine⟨.ref s1.heap.objs.size,upd H1 s1.heap.objs.size (.tup xs),I1.laid (t':=s1.toks) (λb u e=>X8 _ e) (Yb _) ?_,rfl,q _ hf⟩;exact⟨z,us,r,⟨_,Yd _ rfl,rfl,_,rfl⟩⟩
theorem Gb(h:PA X es t):PE X (.List es pos) (OU t):=by
 intro pins s σ H Q I hq;refine wpAny_List_spliced (cI (h pos pins s σ H _ I hq) λus s1 ⟨xs,H1,I1,r,z,q⟩=>⟨by rw[<- r.length];exact z,?_⟩);have hf:H1 s1.heap.objs.size=none:=I1.cJ.fresh (Yb _);refine⟨.ref s1.heap.objs.size,upd H1 s1.heap.objs.size (.lst xs),I1.laid (t':=s1.toks) (λb u e=>X8 _ e) (Yb _) ?_,rfl,q _ hf⟩;exact⟨z,us,0,r,Yd _ rfl⟩
end
abbrev Sp:=ae->Hp->VK->XK->Prop
abbrev xl:=List Env->Hp->Shared->XK->aB
structure DW(P:aE)(w:World)(K:ao)(mg:aS)(base:Heap)(A:aD)(outer:List Env)(s:Shared)(H:Hp):Prop where
 frames:A.frames=some outer
 mod:Mod K mg base
 bs:∀b o,base.get? b=some o->s.heap.get? b=some o/\H b=none
 ED:base.objs.size<=s.heap.objs.size
 kf:s.heap.FunFrames base outer
 Ju:∀b∈xh outer,H b=none
 cJ:jO H s.heap
 bare:AllBare s.gens
def CE(outer:List Env)(P:aE)(w:World)(H:Hp)(s:Shared)(Q:VK)(u:Value)(s':Shared):Prop :=
 ∃v H',s'.os=s.os/\AllBare s'.gens/\Un (xh outer) [] H H' s.heap s'.heap/\jO H' s'.heap/\RelV v u/\Q v H'
def CR(CX:xl)(outer:List Env)(P:aE)(w:World)(H:Hp)(s:Shared)(Q:VK)(E:XK)(r:Result)(s':Shared):Prop :=
 match r with
 |.ok (.ret u)=>CE outer P w H s Q u s'
 |.ok _=>False
 |.error e=>CX outer H s E e s'
structure hX(P:aE)(w:World)(K:ao)(mg:aS)(base:Heap)(CX:xl)(k:Nat)(f:Addr)(fd:FuncData)(ps:af)(sp:Sp):Prop where
 len:∀vs H Q E,sp vs H Q E->vs.length=ps.length
 run:∀(A:aD) (outer:List Env) (s:Shared) (H:Hp) (args:Args) (us:ak) (vs:ae) (Q:VK) (E:XK),fH k A->DW P w K mg base A outer s H->BindsTo s fd args (ps.zip us)->Vals vs us->sp vs H Q E ->
  codeAny (model P w) A (.call (.ref f) args) (CR CX outer P w H s Q E) s
theorem hX.mono{P:aE}{w:World}{K:ao}{mg:aS}{base:Heap}{CX:xl}{j k:Nat}{f:Addr}{fd:FuncData}{ps:af}{sp:Sp}(F:hX P w K mg base CX j f fd ps sp)(h:j<=k):
  hX P w K mg base CX k f fd ps sp:=⟨F.len,λA outer s H args us vs Q E hr=>F.run A outer s H args us vs Q E (hr.mono h)⟩
variable {Q:VK}
section
variable {X:Cx}{pins:aj}{σ:St}{H:Hp}{s s':Shared}
theorem Inv.R7(I:Inv X pins σ H s):DW X.prog X.w X.K X.mg X.base X.A X.stack s H :=
 ⟨I.ok.frames,I.ok.mod,I.bs,Yi I.ok.ED I.sz,I.stack,I.ug,I.cJ,I.bare⟩
theorem Inv.after{u:Value}(I:Inv X pins σ H s)(h:CE X.stack X.prog X.w H s Q u s'):EP X pins σ Q u s':=by
 obtain⟨v,H',os,bare,un,cJ,r,q⟩:=h;obtain⟨hh,g,d,t,P5⟩:=s';obtain rfl:P5=s.os:=os;exact⟨v,H',I.call (h':=hh) (g':=g) (d':=d) (t':=t) (ch:=[]) un cJ bare (λb z=>absurd z (by simp)),r,q⟩
end
def J1(sp:Sp)(fE:ae)(E:XK)(t:TA):TE:=λσ H Q=>t σ H λvs H1=>sp (vs++fE) H1 Q E
def Binds(K:ao)(fd:FuncData)(ps:af)(ds:ak):Prop :=
 ∀(s:Shared) (us:ak),K.In s.heap->(us++ds).length=ps.length->BindsTo s fd ⟨us,[]⟩ (ps.zip (us++ds))
variable {K:ao}{N ps:af}
theorem Binds.all{fd:FuncData}(h:∀us:ak,us.length=ps.length->bindArgs fd ⟨us,[]⟩=pure (ps.zip us)):Binds K fd ps []:=λs us _ hl=>by
 rw[List.append_nil]at hl ⊢;exact .of_eq (h us hl)
def Passes(CX:xl)(X:Cx)(E:XK):Prop:=∀(pins:aj) (σ:St) (H:Hp) (s:Shared) (e:Value) (s':Shared),Inv X pins σ H s->CX X.stack H s E e s'->X.xe e s'
variable {H:Hp}{us:ak}{vs:ae}
section
variable {X:Cx}{CX:xl}{k:Nat}{f C:Addr}{fd:FuncData}{ps:af}{sp:Sp}{fE:ae}{ds:ak}{E:XK}{x m:Str}{p pos apos:Pos}{e o:Expr}{es:ai}{ta:TE}{t:TA}
theorem FQ{pins:aj}{σ:St}{s:Shared}(F:hX X.prog X.w X.K X.mg X.base CX k f fd ps sp)(hr:fH k X.A)(hb:Binds X.K fd ps ds)(hd:Vals fE ds)(hx:Passes CX X E)
  (I:Inv X pins σ H s) (r:Vals vs us) (h:sp (vs++fE) H Q E):wpAny (model X.prog X.w) X.A (call (.ref f) us) (EP X pins σ Q) X.xe s:=by
 have r2:Vals (vs++fE) (us++ds):=r.append hd;have hl:(us++ds).length=ps.length:=by rw[<- r2.length];exact F.len _ _ _ _ h
 refine wpAny_call (Zy (F.run X.A X.stack s H ⟨us,[]⟩ (us++ds) (vs++fE) Q E hr I.R7 (hb s us I.y_ hl) r2 h) λr s' hq=>?_);cases r with
 |error e=>exact hx pins σ H s e s' I hq
 |ok fl =>
  cases fl with
  |ret u=>exact I.after hq
  |next=>exact False.elim hq
  |brk=>exact False.elim hq
  |cont=>exact False.elim hq
theorem BS(F:hX X.prog X.w X.K X.mg X.base CX k f fd ps sp)(hr:fH k X.A)(hg:Gl X x)(hm:X.mg x=some (.ref f))(hk:PySem.W.keepIn X.K (.ref f)=true)(hb:Binds X.K fd ps ds)(hd:Vals fE ds)(hx:Passes CX X E)
  (ha:PA X (e::es) t) (L1:(x==("__debug__" : Str))=false:=by decide) (he:starEach (e::es) X.env=(false,eval e X.env)::starEach es X.env:=by rfl) (hpl:(backTo pos (starEach es X.env)).any (·.1)=false:=by rfl) :
  PE X (.Call (.Name x p) (e::es) [] pos) (J1 sp fE E t):=by
 intro pins s σ H Q I h;refine YT (uE I hg hm ?_ L1);refine PySem.W.callWith_K (h₀:=X.base) I.ok.mod.Qk hk (cI (ha pos pins s σ H _ I h) λus s1 ⟨vs,H1,I1,r,q⟩=>⟨I1.y_,?_⟩) he hpl;exact FQ F hr hb hd hx I1 r q
end
section
variable {X:Cx}{CX:xl}{k:Nat}{f C:Addr}{fd:FuncData}{ps ks:af}{sp:Sp}{E:XK}{x m:Str}{p pos apos VT:Pos}{e o:Expr}{es:ai}{XQ:List Keyword}{te ta:TE}{t tk:TA}{nm:Option Str}
variable {g:ak->ak->ak}{gV:ae->ae->ae}
end
structure gZ(N P:af)(sc:Scope):Prop where
 kind:sc.kind=.function
 co:sc.isCoroutine=false
 gen:sc.isGenerator=false
 nd:N.Nodup
 pre:N.take P.length=P
 par:∀x∈P,sc.names.lookup x=some .local\/sc.names.lookup x=some .cell
 Gx:∀y∈sc.names,y.2≠.free
theorem nV{kindOf:Str->Option NameKind}{x:Str}:∀{binds:List (Str×Value)} {m:aS},(∀v,(x,v)∉binds)->bindL kindOf binds m x=m x
 |[],_,_=>rfl
 | (n,v)::r,m,h=>by
  unfold bindL;rw[nV λw hw=>h w (List.mem_cons_of_mem _ hw)];split
  ·have:x≠n:=by rintro rfl;exact h v X9
   simp[this]
  ·rfl
theorem nX{kindOf:Str->Option NameKind}{x:Str}:∀{binds:List (Str×Value)} {m:aS},(∀v,(x,v)∉binds)->bindC kindOf binds m x=m x
 |[],_,_=>rfl
 | (n,v)::r,m,h=>by
  unfold bindC;rw[nX λw hw=>h w (List.mem_cons_of_mem _ hw)];split
  ·rfl
  ·have:x≠n:=by rintro rfl;exact h v X9
   simp[this]
theorem nW{kindOf:Str->Option NameKind}{x:Str}{v:Value}:∀{P:af} {vs:ak} {i:Nat} {m:aS},P.Nodup->P[i]?=some x->vs[i]?=some v->kindOf x=some .local ->
  bindL kindOf (P.zip vs) m x=some v
 |[],_,_,_,_,h,_,_=>by simp at h
 |_::_,[],_,_,_,_,h,_=>by simp at h
 |p::P,w::vs,0,m,nd,h1,h2,hk=>by
  simp at h1 h2;subst h1;subst h2;show bindL kindOf ((p,w)::P.zip vs) m p=_;unfold bindL;rw[nV λv hv=>(List.nodup_cons.mp nd).1 (List.of_mem_zip hv).1,if_pos hk];simp
 |p::P,w::vs,i+1,m,nd,h1,h2,hk=>by
  show bindL kindOf ((p,w)::P.zip vs) m x=_;unfold bindL;exact nW (i:=i) (List.nodup_cons.mp nd).2 (by simpa using h1) (by simpa using h2) hk
theorem nY{kindOf:Str->Option NameKind}{x:Str}{v:Value}:∀{P:af} {vs:ak} {i:Nat} {m:aS},P.Nodup->P[i]?=some x->vs[i]?=some v->kindOf x≠some .local ->
  bindC kindOf (P.zip vs) m x=some v
 |[],_,_,_,_,h,_,_=>by simp at h
 |_::_,[],_,_,_,_,h,_=>by simp at h
 |p::P,w::vs,0,m,nd,h1,h2,hk=>by
  simp at h1 h2;subst h1;subst h2;show bindC kindOf ((p,w)::P.zip vs) m p=_;unfold bindC;rw[nX λv hv=>(List.nodup_cons.mp nd).1 (List.of_mem_zip hv).1,if_neg hk];simp
 |p::P,w::vs,i+1,m,nd,h1,h2,hk=>by
  show bindC kindOf ((p,w)::P.zip vs) m x=_;unfold bindC;exact nY (i:=i) (List.nodup_cons.mp nd).2 (by simpa using h1) (by simpa using h2) hk
noncomputable def start(N:af)(vs:ae):St:=vs.map some++List.replicate (N.length - vs.length) none
noncomputable def tJ(CX:xl)(P:aE)(w:World)(K:ao)(mg:aS)(base:Heap)(N:af)(qual:Str)(scope:Scope)(f:Addr)(cd:Value)(A:aD)(outer:List Env)(s:Shared)(H:Hp)(E:XK):Cx where
 prog:=P
 w:=w
 K:=K
 mg:=mg
 base:=base
 A:=A.deeper (envOfC qual scope s.heap.objs.size f cd)
 N:=N
 s₀:=s
 H₀:=H
 env:=envOfC qual scope s.heap.objs.size f cd
 outer:=outer
 stack:=envOfC qual scope s.heap.objs.size f cd::outer
 ex:=[]
 calm:=true
 fn:=λ_=>true
 pn:=[]
 xe:=λe s'=>wpAny (model P w) (A.deeper (envOfC qual scope s.heap.objs.size f cd)) (leaving (envOfC qual scope s.heap.objs.size f cd) e) (λ_ PD=>CX outer H s E e PD) (λe' PD=>CX outer H s E e' PD) s'
theorem rL{sc:Scope}{n:Nat}{x:Str}(h:sc.names.lookup x=some .cell):∃c,(cellsFrom n sc.names []).lookup x=some c:=by
 have q:=PySem.W.cellsFrom_some sc.names n [] (.inl h);exact Option.isSome_iff_exists.mp q
variable {P:aE}{base:Heap}{mg:Str->Option Value}{qual:Str}{scope:Scope}{w:World}
theorem wg{CX:xl}{f:Addr}{cd:Value}{outer:List Env}{s s1:Shared}{E:XK}  
  (S:gZ N ps scope) (hd:A.handled=none) (e0:DW P w K mg base A outer s H) (hl:vs.length=ps.length) (r:Vals vs us)
  (x:InCallC s s.heap.objs.size (bindL (envOfC qual scope s.heap.objs.size f cd).kindOf (ps.zip us) λ_=>none) (cellsFrom (s.heap.objs.size+1) scope.names []) (bindC (envOfC qual scope s.heap.objs.size f cd).kindOf (ps.zip us) λ_=>none) s1) :
  Inv (tJ CX P w K mg base N qual scope f cd A outer s H E) [] (start N vs) H s1:=by
 have hpl:ps.length<=N.length:=by have:=Yn List.length S.pre;rw[List.length_take]at this;left
 obtain⟨h1,tk,rfl,hk⟩:=x.done;have K7:∀b:Addr,b∉(tJ CX P w K mg base N qual scope f cd A outer s H E).ex:=λb z=>absurd (show b∈([]:aW) from z) (by simp);refine⟨⟨e0.mod,S.kind,rfl,rfl,Yb _,λy z c h1 h2=>?_,λy hy=>?_,λy c _ h=>?_,λ_=>hd,Around.frames_deeper e0.frames,.inr ⟨rfl,rfl⟩,λb z=>absurd z (K7 b),e0.bs,e0.ED,λb _ _=>K7 b,λb z=>absurd z (K7 b),e0.kf,e0.Ju⟩,
  rfl,e0.bare,Un.kept hk,⟨_,x.toInCall.ns,λi y v h1 h2 h3=>?_⟩,λy c h=>⟨_,x.cell y c h⟩,e0.cJ.fresh (Yb _),λy c h=>?_,λp hp=>absurd (show p∈([]:aj) from hp) (by simp),e0.cJ.kept hk,?_⟩
 ·exact name_of_addr x.apart (YO h1) (YO h2)
 ·have hy:scope.names.lookup y=some .cell\/scope.names.lookup y=some .free:=hy;rcases hy with hy|hy
  ·exact rL hy
  ·exact absurd rfl (S.Gx _ (YO hy))
 ·exact Nat.le_of_lt (x.above y c (YO h))
 ·have hi:i<vs.length:=by
   unfold start at h2;by_cases hi:i<vs.length
   ·exact hi
   ·rw[List.getElem?_append_right (by simpa using hi)]at h2;rw[List.getElem?_replicate]at h2;split at h2<;>cases h2
  have ha:vs[i]?=some v:=by
   unfold start at h2;rw[List.getElem?_append_left (by simpa using hi),List.getElem?_map]at h2;cases e:vs[i]? with
   |none=>rw[e]at h2;cases h2
   |some a=>rw[e]at h2;cases h2;rfl
  obtain⟨u,hu,rv⟩:=r.get ha;have hp:ps[i]?=some y:=by
   rw[<- S.pre,List.getElem?_take_of_lt (by left)];exact h1
  have Th:ps.Nodup:=by rw[<- S.pre];exact S.nd.sublist (List.take_sublist _ _)
  refine⟨u,rv,?_⟩;rcases S.par y (Yk hp)with k|k
  ·exact .inl ⟨k,nW Th hp hu k⟩
  ·obtain⟨c,e⟩:=rL (n:=s.heap.objs.size+1) k;refine .inr ⟨.inl k,c,e,?_⟩;have q:=x.cell y c e;rw[nY Th hp hu (by show scope.names.lookup y≠_;rw[k];decide)]at q;exact q
 ·exact e0.cJ.fresh (Nat.le_of_lt (x.above y c (YO h)))
 ·unfold start;show _=N.length;rw[List.length_append,List.length_map,List.length_replicate];left
theorem MF{CX:xl}{k:Nat}{f:Addr}{name:Str}{params:Arguments}{body:aO}{dV kV doc pm ig ct oc:Value}{an od:Option Addr}
  {AQ:Array (Option Value)} {sp:Sp} (lk:K.lookup f=some ⟨oc,od,.func (PySem.W.fnOf name qual params body scope dV kV doc pm an ig ct),AQ⟩) (wy:PySem.W.codeIn K ig qual=true) (S:gZ N ps scope)
  (len:∀vs H Q E,sp vs H Q E->vs.length=ps.length)
  (zC:∀(A:aD) (outer:List Env) (s:Shared) (H:Hp) (vs:ae) (Q:VK) (E:XK),fH k (A.deeper (envOfC qual scope s.heap.objs.size f ig))->sp vs H Q E ->
   ∃t,kO (tJ CX P w K mg base N qual scope f ig A outer s H E) body t/\t { nx:=λ_ H'=>Q .bw H',rt:=Q } (start N vs) H) :
  hX P w K mg base CX (k+1) f (PySem.W.fnOf name qual params body scope dV kV doc pm an ig ct) ps sp:=by
 refine⟨len,λA outer s H args us vs Q E hr e0 hb r AS=>?_⟩;have hl:=len _ _ _ _ AS;have KX:K.In s.heap:=e0.mod.Qk.keeps λb o e=>(e0.bs b o e).1;have lim:s.heap.NoLimit:=e0.mod.nolimit.keeps λb o e=>(e0.bs b o e).1;have LV:∀y∈ps.zip us,scope.names.lookup y.1=some .local\/(scope.names.lookup y.1=some .cell/\((cellsFrom (s.heap.objs.size+1) scope.names []).lookup y.1).isSome=true):=λ⟨n,v⟩ hy=>by
  rcases S.par n (List.of_mem_zip hy).1 with q|q
  ·exact .inl q
  ·exact .inr ⟨q,PySem.W.cellsFrom_some _ _ _ (.inl q)⟩
 refine codeAny_call_function hr.depth (KX _ _ lk) rfl S.co S.gen rfl (PySem.W.codeRec_of KX wy) (hb _ _ _ _ ?_);refine wpAny_newFunctionEnv_cells S.kind LV λenv he s1 x=>?_;subst he;refine⟨lim.keeps x.toInCall.keep,codeAny_func ?_⟩;obtain⟨t,ht,hq⟩:=zC A outer s H vs Q E (hr.deeper _) AS;have I:Inv (tJ CX P w K mg base N qual scope f ig A outer s H E) [] (start N vs) H s1:=wg S hr.hd e0 hl r x;refine Yp (ht [] s1 (start N vs) H _ I hq) (λfl s' hs=>?_) λe s' hs=>hs;have fin:∀{σ':St} {H':Hp} {v:V} {u:Value},Inv (tJ CX P w K mg base N qual scope f ig A outer s H E) [] σ' H' s'->RelV v u->Q v H'->CE outer P w H s Q u s' :=
  λ{σ' H' v u} J rv q=>⟨v,H',J.os,J.bare,J.base,J.cJ,rv,q⟩
 cases fl with
 |ret u =>
  obtain⟨v,σ',H',J,rv,q⟩:=hs;exact fin J rv q
 |next =>
  obtain⟨σ',H',J,q⟩:=hs;exact fin (v:=V.bw) (u:=Value.none) J rfl q
 |brk =>
  obtain⟨_,_,_,q⟩:=hs;exact False.elim q
 |cont =>
  obtain⟨_,_,_,q⟩:=hs;exact False.elim q
end L2
namespace L2
open PySem PySem.Spec PyProof.Rows
section
variable {X:Cx}{x:Str}{p pos:Pos}{e:Expr}{es:ai}{t:TA}{id T:String}{r:ae->Hp->VK->Prop}
def J2(r:ae->Hp->VK->Prop)(t:TA):TE:=λσ H Q=>t σ H λvs H1=>r vs H1 Q
theorem c9(hc:df X (.builtin id) r)(hg:Gl X x)(hm:X.mg x=none)(hv:bootBuiltins x=some (.builtin id))(ha:PA X (e::es) t)(hn:x ≠ "__name__":=by decide)(L1:(x==("__debug__" : Str))=false:=by decide)
  (he:starEach (e::es) X.env=(false,eval e X.env)::starEach es X.env:=by rfl) (hpl:(backTo pos (starEach es X.env)).any (·.1)=false:=by rfl):PE X (.Call (.Name x p) (e::es) [] pos) (J2 r t):=by
 intro pins s σ H Q I h;refine YT (fb I hg hm hv ?_ hn L1);exact PyProof.Rows.callWith_builtin1 (cI (ha pos pins s σ H _ I h) λus s1 ⟨vs,H1,I1,r1,q1⟩=>hc pins s1 σ H1 vs us Q I1 r1 q1) he hpl
theorem ft(hc:df X (.type T) r)(hg:Gl X x)(hm:X.mg x=none)(hv:bootBuiltins x=some (.type T))(ha:PA X (e::es) t)(hn:x ≠ "__name__":=by decide)(L1:(x==("__debug__" : Str))=false:=by decide)
  (he:starEach (e::es) X.env=(false,eval e X.env)::starEach es X.env:=by rfl) (hpl:(backTo pos (starEach es X.env)).any (·.1)=false:=by rfl):PE X (.Call (.Name x p) (e::es) [] pos) (J2 r t):=by
 intro pins s σ H Q I h;refine YT (fb I hg hm hv ?_ hn L1);exact Yr (cI (ha pos pins s σ H _ I h) λus s1 ⟨vs,H1,I1,r1,q1⟩=>hc pins s1 σ H1 vs us Q I1 r1 q1) he hpl
end
end L2
namespace HT
open PySem PyProof.Rows
noncomputable def lexLt:aa->aa->Bool
 |[],[]=>false
 |[],_::_=>true
 |_::_,[]=>false
 |x::xs,y::ys=>if x=y then lexLt xs ys else decide (x<y)
theorem cQ(x y:Int)(xs ys:aa):lexLt (x::xs) (y::ys)=if x=y then lexLt xs ys else decide (x<y):=rfl
theorem ia:lexLt [] []=false:=rfl
theorem lz(y:Int)(ys:aa):lexLt [] (y::ys)=true:=rfl
theorem cy(x:Int)(xs:aa):lexLt (x::xs) []=false:=rfl
theorem rn(A:aD)(s:Shared)(a:Int)(t:Tok)(c:Int)(u:Tok):∃e,SeqAt.EqAt A s (.int a t) (.int c u) e/\(e=true ↔ a=c) :=
 ⟨(a==c),Zf a t c u,by simp⟩
theorem yh(A:aD)(s:Shared)(a:Int)(t:Tok)(c:Int)(u:Tok)(prog:aE)(w:World)(E:aB)(Q:aB)(h:Q (.bool (decide (a<c))) s):
  wpAny (model prog w) A (richCompare .Lt (.int a t) (.int c u)) Q E s :=
 (PyProof.Rows.lt_int h:wpAny (model prog w) A (compareOp .Lt (.int a t) (.int c u)) Q E s)
section
open PySem.SeqAt
open PySem.AutoSeq1 (wpAny_loadPart')
open PySem.MeetsSeq PySem.MeetsSeq2 PySem.MeetsSeq3
theorem h_(l b:Addr)(items cG:aP)(n n2:Nat)(dd ve:Option Addr)(sl uj:Array (Option Value))(ns ms:aa)(hi:IntsAre items.toList ns)(hj:IntsAre cG.toList ms):
  Meets (Builtin.«tuple.__lt__» ⟨[.ref l,.ref b],[]⟩)
   (λ_ R s=>s.heap.get? l=some { cls:=.type "tuple",dict:=dd,data:=.seq items n,slots:=sl }/\s.heap.get? b=some { cls:=.type "tuple",dict:=ve,data:=.seq cG n2,slots:=uj } /\
    R (.ok (.ret (.bool (lexLt ns ms)))) s) :=
 .of_wp λprog w A R s h=>by
  obtain⟨hp,g,d,tk,os⟩:=s;obtain⟨hl,hb,h⟩:=h;have f2:=AutoSeq1.sub_tuple_tuple;have z1:items.size=ns.length:=by rw[<- hi.length];simp
  have z2:cG.size=ms.length:=by rw[<- hj.length];simp
  wp_walk using wpAny_loadPart' hl,wpAny_loadPart' hb,wpAny_forIn_list _ (λrest b s'=>b.1=none/\s'=⟨hp,g,d,tk,os⟩/\∃(vs ws:ak) (jq xc:aa),rest=vs.zip ws /\
   IntsAre vs jq/\IntsAre ws xc/\jq.length+cG.size=xc.length+items.size/\R (.ok (.ret (.bool (lexLt jq xc)))) ⟨hp,g,d,tk,os⟩) _
  case turn =>
   rintro ⟨y,x⟩ rest b s' ⟨uP,rfl,vs,ws,jq,xc,hz,He,En,hlen,hR⟩;cases He with
   |nil=>rw[List.zip_nil_left]at hz;cases hz
   |cons a t hvi' =>
    cases En with
    |nil=>rw[List.zip_nil_right]at hz;cases hz
    |cons c u hwi' =>
     rw[List.zip_cons_cons]at hz;injection hz with QE zm
     injection QE with hy hx
     subst hy hx;rw[cQ]at hR;simp only[List.length_cons]at hlen;obtain⟨e,he,zw⟩:=rn A.in1 ⟨hp,g,d,tk,os⟩ a t c u;refine X4 (he prog w _ _ ?_);cases e with
     |true =>
      rw[if_pos (zw.mp rfl)]at hR
      wp_walk
      exact⟨rfl,rfl,_,_,_,_,zm,hvi',hwi',by left,hR⟩
     |false =>
      rw[if_neg (λq=>absurd (zw.mpr q) Bool.false_ne_true)]at hR;have QO:=yh A.in1 ⟨hp,g,d,tk,os⟩ a t c u prog w
      wp_walk using QO
      exact⟨_,rfl,by simpa using hR⟩
  case fin =>
   rintro ⟨b1,b2⟩ s' ⟨uP,rfl,vs,ws,jq,xc,hz,He,En,hlen,hR⟩;simp only at uP;subst uP;have hv:lexLt jq xc=decide (items.size<cG.size):=by
    cases He with
    |nil =>
     cases En with
     |nil =>
      simp only[List.length_nil]at hlen;rw[ia];exact(Yt (by left)).symm
     |cons c u hw =>
      simp only[List.length_nil,List.length_cons]at hlen;rw[lz];exact(YR (by left)).symm
    |cons a t hv =>
     cases En with
     |nil =>
      simp only[List.length_nil,List.length_cons]at hlen;rw[cy];exact(Yt (by left)).symm
     |cons c u hw =>
      rw[List.zip_cons_cons]at hz;cases hz
   rw[hv]at hR
   wp_walk
   exact⟨_,rfl,by simpa [Builtin.Tuple.tupleCompareSizes]using hR⟩
  case h =>
   exact⟨rfl,rfl,items.toList,cG.toList,ns,ms,rfl,hi,hj,by left,h⟩
end
variable {Q:Value->Shared->Prop}
section
variable {prog:aE}{w:World}{A:aD}{E:aB}{s:Shared}
theorem sP{l b:Addr}{items cG:aP}{ns ms:aa}(hl:IsTup s.heap l items)(hb:IsTup s.heap b cG)(hi:IntsAre items.toList ns)(hj:IntsAre cG.toList ms)
  (hu:A.units<cLine) (h:Q (.bool (lexLt ns ms)) s):wpAny (model prog w) A (compareOp .Lt (.ref l) (.ref b)) Q E s:=by
 obtain⟨⟨cls,dd,data,sl⟩,ho,hc,n,hd⟩:=id hl;obtain⟨⟨Dj,ve,data2,uj⟩,oT,hc2,n2,hd2⟩:=id hb;simp only at hc hd hc2 hd2;subst hc hd hc2 hd2;exact richCompare_meets_room (op:=.Lt) ⟨_,ho,rfl⟩ ⟨_,oT,rfl⟩ Zv PySem.F.entry_tuple_lt (PySem.F.args_tuple_lt_2 _ _) (h_ l b items cG n n2 dd ve sl uj ns ms hi hj)
  ⟨ho,oT,show Value.bool (lexLt ns ms)≠Value.notImplemented/\Q (.bool (lexLt ns ms)) s from⟨(λx=>nomatch x),h⟩⟩ hu
theorem Ds{t b:Addr}{vs ws:ak}(ht:IsTup s.heap t vs.toArray)(hb:IsTup s.heap b ws.toArray)(hv:vs≠[])
  (h1:ws=[]->Q (.ref t) s) (h2:ws≠[]->Q (.ref s.heap.objs.size) { s with heap:=s.heap.push { cls:=.type "tuple",data:=.seq (vs++ws).toArray } })
  (hsz:vs.length+ws.length<=sizeLine):wpAny (model prog w) A (binaryOp .Add (.ref t) (.ref b)) Q E s:=by
 obtain⟨⟨cls,dd,data,sl⟩,ho,hc,n,hd⟩:=id ht;obtain⟨⟨Dj,ve,data2,uj⟩,oT,hc2,n2,hd2⟩:=id hb;simp only at hc hd hc2 hd2;subst hc hd hc2 hd2;have e:vs.toArray++ws.toArray=(vs++ws).toArray:=by simp
 by_cases hw:ws=[]
 ·exact concat_meets ⟨_,ho,rfl⟩ ⟨_,oT,rfl⟩ noFill_tuple_add seq_tuple_add Zn Zk (Zg _ _)
   (tuple_addW1 t b vs.toArray ws.toArray n n2 dd ve sl uj (by simpa using hv) (by simp[hw])) ⟨ho,oT,h1 hw⟩
 ·refine concat_meets ⟨_,ho,rfl⟩ ⟨_,oT,rfl⟩ noFill_tuple_add seq_tuple_add Zn Zk (Zg _ _)
   (tuple_addW2 t b vs.toArray ws.toArray n n2 dd ve sl uj (by simpa using hv) (by simpa using hw) (by rw[List.size_toArray,List.size_toArray];exact hsz)) ⟨ho,oT,?_⟩
  rw[e];exact h2 hw
noncomputable def sH(n d:Nat):Option Int->Nat
 |none=>d
 |some v=>if v<0 then(v+(n:Int)).toNat else min v.toNat n
end
end HT
namespace L2
open PySem PySem.Spec PyProof.Rows
abbrev TO:=St->Hp->(Option Int->Hp->Prop)->Prop
def PO(X:Cx)(e:Option Expr)(t:TO):Prop :=
 ∀(pins:aj) (s:Shared) (σ:St) (H:Hp) (Q:Option Int->Hp->Prop),Inv X pins σ H s->t σ H Q ->
  wpAny (model X.prog X.w) X.A (evalPart e X.env) (λu s'=>∃o H',Inv X pins σ H' s'/\IsPart u o/\Q o H') X.xe s
def Bo:TO:=λ_ H Q=>Q none H
def JV(t:TE):TO:=λσ H Q=>t σ H λx H1=>∃i,x=.int i/\Q (some i) H1
theorem intsAre_of{ns:aa}:∀{us:ak},Vals (ns.map V.int) us->IntsAre us ns:=by
 induction ns with
 |nil=>intro us r;rw[List.map_nil]at r;cases r;exact .nil
 |cons n ns ih =>
  intro us r;rw[List.map_cons]at r;cases r with
  |cons r1 r2 =>
   obtain⟨t,e⟩:=r1;subst e;exact .cons n t (ih r2)
section
variable {X:Cx}{e:Expr}{te:TE}{lo hi:Option Expr}{tl th:TO}{pos p2:Pos}
theorem oB:PO X none Bo:=by
 intro pins s σ H Q I h;rw[evalPart_none];exact X6 ⟨none,H,I,.none,h⟩
theorem oA(h:PE X e te):PO X (some e) (JV te):=by
 intro pins s σ H Q I hw;rw[evalPart_some];refine cI (h pins s σ H _ I hw) λu s1 bG=>?_;obtain⟨x,H1,I1,r1,q1⟩:=bG;obtain⟨i,rfl,q⟩:=q1;obtain⟨t,rfl⟩:=r1;exact⟨some i,H1,I1,.int i t,q⟩
def OD(X:Cx)(r:V->Option Int->Option Int->Hp->VK->Prop):Prop :=
 ∀(pins:aj) (s:Shared) (σ:St) (H:Hp) (x:V) (v vl vu:Value) (lo hi:Option Int) (sl:Addr) (Q:VK),Inv X pins σ H s->RelV x v->s.heap.IsSliceOf sl vl vu .none->IsPart vl lo->IsPart vu hi->r x lo hi H Q ->
  ∃T id,typeLookup (.type T) "__getitem__" = pure (some (.builtin id))/\s.TypeIs v T/\wpAny (model X.prog X.w) X.A (getItem v (.ref sl)) (EP X pins σ Q) X.xe s
def Vh(r:V->Option Int->Option Int->Hp->VK->Prop)(te:TE)(tl th:TO):TE:=λσ H Q=>te σ H λx H1=>tl σ H1 λl H2=>th σ H2 λu H3=>r x l u H3 Q
theorem qz{r:V->Option Int->Option Int->Hp->VK->Prop}(hr:OD X r)(he:PE X e te)(hl:PO X lo tl)(hu:PO X hi th):PE X (.Subscript e (.Slice lo hi none p2) pos) (Vh r te tl th):=by
 intro pins s σ H Q I h;refine Subscript_ (cI (he pins s σ H _ I h) λv s1 bG=>?_);obtain⟨x,H1,I1,r1,q1⟩:=bG;refine wpAny_Slice (cI (hl pins s1 σ H1 _ I1 q1) λvl s2 ⟨l,H2,I2,pl,q2⟩=>cI (hu pins s2 σ H2 _ I2 q2) λvu s3 bG=>?_);obtain⟨u,H3,I3,pu,q3⟩:=bG;rw[evalPart_none];refine X6 ?_;have I4:Inv X pins σ H3 { s3 with heap:=s3.heap.push { cls:=.type "slice",data:=.fields #[vl,vu,.none] } }:=I3.kept (t':=s3.toks) λb ob q=>X8 _ q;obtain⟨T,id,hT,ht,hg⟩:=hr pins { s3 with heap:=s3.heap.push { cls:=.type "slice",data:=.fields #[vl,vu,.none] } } σ H3 x v vl vu l u s3.heap.objs.size Q I4 r1 (Heap.IsSliceOf.new ..) pl pu q3;show wpAny (model X.prog X.w) X.A (subscriptTail e (.Slice lo hi none p2) v (.ref s3.heap.objs.size)) (EP X pins σ Q) X.xe { s3 with heap:=s3.heap.push { cls:=.type "slice",data:=.fields #[vl,vu,.none] } };exact tail_any (ops:=[.ref s3.heap.objs.size,v]) ht hT hg (by with_unfolding_all rfl)
def De(xs:ae)(lo hi:Option Int):ae:=(xs.drop (HT.sH xs.length 0 lo)).take (HT.sH xs.length xs.length hi - HT.sH xs.length 0 lo)
theorem rB(xs:ae)(lo hi:Option Int):(De xs lo hi).length<=xs.length:=by
 unfold De;rw[List.length_take,List.length_drop];left
def Kz(K:ao):R2:=λx y H Q=>∃a b xs ys,x=.ref a/\y=.ref b/\aU K H a xs/\aU K H b ys/\xs≠[]/\xs.length+ys.length<=sizeLine /\
 (ys=[]->Q (.ref a) H)/\(ys≠[]->∀p,H p=none->Q (.ref p) (upd H p (.tup (xs++ys))))
theorem Vals.oH{xs:ae}{us:ak}(r:Vals xs us):us=[] ↔ xs=[]:=by
 cases r with
 |nil=>simp
 |cons _ _=>simp
theorem B2:gY X (binaryOp .Add) (Kz X.K):=by
 intro pins s σ H x y v u Q I rx ry h;obtain⟨a,b,xs,ys,rfl,rfl,ha,hb,hx,hz,q1,q2⟩:=h;cases rx;cases ry;obtain⟨aF,r1,p1,_⟩:=I.tuple ha;obtain⟨sV,r2,p2,_⟩:=I.tuple hb;refine HT.Ds p1 p2 (λz=>hx (r1.oH.mp z)) (λz=>⟨.ref a,H,I,rfl,q1 (r2.oH.mp z)⟩) (λz=>?_) (by rw[<- r1.length,<- r2.length];exact hz);refine⟨.ref s.heap.objs.size,_,I.laid (t':=s.toks) (o:=.tup (xs++ys)) (λb ob q=>X8 _ q) (Yb _) ?_,rfl,q2 (λw=>z (r2.oH.mpr w)) _ (I.cJ.fresh (Yb _))⟩;exact⟨by rw[List.length_append];exact hz,_,r1.append r2,IsTup.new _ _⟩
end
end L2
namespace L2
open PySem PySem.Spec PyProof.Rows
noncomputable def sU(n:Nat)(i:Int):Option Nat:=if 0<=i then(if i<n then some i.toNat else none)else if -(n:Int)<=i then some (i+n).toNat else none
def pQ{α:Type}(xs:List α)(i:Int):Option α:=(sU xs.length i).bind λj=>xs[j]?
theorem uH{n:Nat}{i:Int}{j:Nat}(h:sU n i=some j):seqIndex? i n=some j/\j<n /\ -(n:Int)<=i/\i<n:=by
 unfold sU at h;by_cases h0:0<=i
 ·rw[if_pos h0]at h;by_cases h1:i<n
  ·rw[if_pos h1]at h;have e:i.toNat=j:=Yg h;exact⟨by rw[seqIndex_of h0 h1,e],by left,by left,h1⟩
  ·rw[if_neg h1]at h;cases h
 ·rw[if_neg h0]at h;by_cases h1:-(n:Int)<=i
  ·rw[if_pos h1]at h;have e:(i+n).toNat=j:=Yg h;exact⟨by rw[seqIndex_neg (by left) h1,e],by left,h1,by left⟩
  ·rw[if_neg h1]at h;cases h
theorem pG{α:Type}{xs:List α}{i:Int}{v:α}(h:pQ xs i=some v):∃j,seqIndex? i xs.length=some j/\xs[j]?=some v/\j<xs.length /\ -(xs.length:Int)<=i/\i<xs.length:=by
 unfold pQ at h;cases e:sU xs.length i with
 |none=>rw[e]at h;cases h
 |some j =>
  rw[e]at h;obtain⟨h1,h2,h3,h4⟩:=uH e;exact⟨j,h1,h,h2,h3,h4⟩
def kN(b:Expr):Prop:=∀o i,subscripted b false o i=operate [o,i] (getItem o i)
def DU(X:Cx)(r:R2):Prop :=
 ∀(value slice:Expr) (pins:aj) (s:Shared) (σ:St) (H:Hp) (x y:V) (v u:Value) (Q:VK),Inv X pins σ H s->RelV x v->RelV y u->r x y H Q ->
  subscripted slice false v u=operate [v,u] (getItem v u)->wpAny (model X.prog X.w) X.A (subscriptTail value slice v u) (EP X pins σ Q) X.xe s
def Nm(X:Cx)(id:String)(r:V->ae->Hp->VK->Prop):Prop :=
 ∀(pins:aj) (s:Shared) (σ:St) (H:Hp) (x:V) (xs:ae) (v:Value) (us:ak) (Q:VK),Inv X pins σ H s->RelV x v->Vals xs us->r x xs H Q ->
  wpAny (model X.prog X.w) X.A (call (.builtin id) (v::us)) (EP X pins σ Q) X.xe s
variable {H:Hp}{σ:L2.St}
section
variable {X:Cx}{a b:Expr}{ta tb:TE}{pos:Pos}
theorem DU.or{r r':R2}(h:DU X r)(h':DU X r'):DU X (λx y H Q=>r x y H Q\/r' x y H Q):=by
 intro value slice pins s σ H x y v u Q I rx ry q hs;rcases q with q|q
 ·exact h value slice pins s σ H x y v u Q I rx ry q hs
 ·exact h' value slice pins s σ H x y v u Q I rx ry q hs
theorem nh{r:R2}(hr:DU X r)(ha:PE X a ta)(hb:PE X b tb)(hs:kN b):PE X (.Subscript a b pos) (AO r ta tb):=by
 intro pins s σ H Q I h;exact Subscript_ (IB ha hb I h λv u s2 x y H2 I2 rx ry q=>hr a b pins s2 σ H2 x y v u Q I2 rx ry q (hs _ _))
def PQ(K:ao):R2:=λx y H Q=>∃p xs i v,x=.ref p/\y=.int i/\cM K H p xs/\pQ xs i=some v/\Q v H
def PM(K:ao):R2:=λx y H Q=>∃p xs i v,x=.ref p/\y=.int i/\aU K H p xs/\pQ xs i=some v/\Q v H
def PN:R2:=λx y H Q=>∃z i c,x=.str z/\y=.int i/\z.length<=sizeLine/\pQ z.cps.toList i=some c/\Q (.str ⟨#[c]⟩) H
theorem kD:DU X (PQ X.K):=by
 intro value slice pins s σ H x y v u Q I rx ry h hs;obtain⟨p,xs,i,z,rfl,rfl,hq,he,q⟩:=h;cases rx;obtain⟨t,rfl⟩:=ry;obtain⟨aF,r,pl,hz⟩:=I.list hq;obtain⟨j,h1,h2,h3,h4,h5⟩:=pG he;obtain⟨w,ew,jB⟩:=r.get h2;have hl:=r.length;have hn:=jG;have fin:EP X pins σ Q w s:=⟨z,H,I,jB,q⟩
 by_cases h0:0<=i
 ·have hj:i.toNat=j:=by
   rw[seqIndex_of h0 h5]at h1;exact Yg h1
  exact item_listR pl.isList h0 (by left) (by rw[hj];simpa using ew) fin hs
 ·have hj:(i+(aF.toArray.size:Int)).toNat=j:=by
   rw[seqIndex_neg (by left) h4]at h1;rw[List.size_toArray,<- hl];exact Yg h1
  exact Zo (x:=w) pl.isList.typeIs slot_list_getitem.lookup
   (wpAny_getItem_list_neg (Q:=λr s'=>r=w/\EP X pins σ Q r s') pl.isList (by left) (by rw[List.size_toArray]<;>omega) (by left) (by rw[hj];simpa using ew) ⟨rfl,fin⟩) hs
theorem oR:DU X (PM X.K):=by
 intro value slice pins s σ H x y v u Q I rx ry h hs;obtain⟨p,xs,i,z,rfl,rfl,hq,he,q⟩:=h;cases rx;obtain⟨t,rfl⟩:=ry;obtain⟨aF,r,pl,hz⟩:=I.tuple hq;obtain⟨j,h1,h2,h3,h4,h5⟩:=pG he;obtain⟨w,ew,jB⟩:=r.get h2;have hl:=r.length;have hn:=jG;have fin:EP X pins σ Q w s:=⟨z,H,I,jB,q⟩
 exact Zo (x:=w) pl.typeIs slot_tuple_getitem.lookup
  (getItem_tuple (j:=j) (Q:=λr s'=>r=w/\EP X pins σ Q r s') pl (by left) (by left) (by rw[List.size_toArray,<- hl];exact h1) (by simpa using ew) ⟨rfl,fin⟩) hs
theorem GY:DU X PN:=by
 intro value slice pins s σ H x y v u Q I rx ry h hs;obtain⟨z,i,c,rfl,rfl,hz,he,q⟩:=h;obtain⟨t,rfl⟩:=rx;obtain⟨t',rfl⟩:=ry;obtain⟨j,h1,h2,h3,h4,h5⟩:=pG he;have hl:z.cps.toList.length=z.length:=by simp[Str.length]
 rw[hl]at h1 h4 h5;have hn:=jG;exact tail_any (Zj s z t) slot_str_getitem.lookup (getItem_str (c:=c) (by
  have e1:decide (i < -(2 ^ 63:Int))=false:=Yt (by left);have e2:decide (i ≥ 2 ^ 63)=false:=Yt (by left);rw[e1,e2,Bool.or_false]) (by rw[h1];simpa using h2) ⟨.str ⟨#[c]⟩,H,I.tok _,⟨_,rfl⟩,q⟩) hs
theorem sO(aF:ak)(n j:Nat)(u:Value):Obj.mapSeq (·.setIfInBounds j u) { cls:=.type "list",data:=.seq aF.toArray n }={ cls:=.type "list",data:=.seq (aF.set j u).toArray n }:=by
 simp[Obj.mapSeq]
theorem Inv.lst{pins:aj}{σ:St}{H:Hp}{s:Shared}{p:Addr}{xs:ae}(I:Inv X pins σ H s)(h:H p=some (.lst xs)):
  ∃(aF:ak) (n:Nat),Vals xs aF/\s.heap.get? p=some { cls:=.type "list",data:=.seq aF.toArray n }/\xs.length<=sizeLine:=by
 obtain⟨z,aF,n,r,e⟩:=I.cJ p _ h;exact⟨aF,n,r,e,z⟩
theorem Inv.GG{pins:aj}{s:Shared}{p:Addr}{xs ys:ae}{aF its':ak}{n n':Nat}{f:Obj->Obj}(I:Inv X pins σ H s)(h:H p=some (.lst xs))
  (ho:s.heap.get? p=some { cls:=.type "list",data:=.seq aF.toArray n }) (hf:f { cls:=.type "list",data:=.seq aF.toArray n }={ cls:=.type "list",data:=.seq its'.toArray n' }) (r:Vals ys its') (hz:ys.length<=sizeLine) (t:Nat) :
  Inv X pins σ (upd H p (.lst ys)) { s with heap:=s.heap.update p f,toks:=t }:=by
 have e:(s.heap.update p f).get? p=some { cls:=.type "list",data:=.seq its'.toArray n' }:=by
  rw[Heap.get?_update_self f ho (by rw[hf]<;>rfl),hf]
 refine I.write (x:=p) (by rw[h];trivial) (λb u hb q=>(YA _ _ (Zi hb)).trans q) ⟨_,e⟩ ?_;exact⟨hz,its',n',r,e⟩
def Kv:V->V->V->Hp->(Hp->Prop)->Prop:=λo i v H Q=>∃p xs k j,o=.ref p/\i=.int k/\H p=some (.lst xs)/\sU xs.length k=some j/\Q (upd H p (.lst (xs.set j v)))
theorem set_list:Nl X Kv:=by
 intro pins s σ H o i v ov iv u Q I ro ri rv h;obtain⟨p,xs,k,j,rfl,rfl,hp,hj,q⟩:=h;cases ro;obtain⟨t,rfl⟩:=ri;obtain⟨aF,n,r,ho,hz⟩:=I.lst hp;obtain⟨h1,h2,h3,h4⟩:=uH hj;have hl:=r.length;have hn:=jG;have I':Inv X pins σ (upd H p (.lst (xs.set j v))) { s with heap:=s.heap.update p (Obj.mapSeq (·.setIfInBounds j u)) } :=
  I.GG hp ho (sO aF n j u) (r.set rv j) (by rw[List.length_set];exact hz) s.toks
 by_cases h0:0<=k
 ·have hk:k.toNat=j:=by
   rw[seqIndex_of h0 h4]at h1;exact Yg h1
  exact PySem.W.ki_setAt ho h0 (by left) (by rw[List.size_toArray,<- hl];exact h4) (by rw[hk];exact⟨_,I',q⟩)
 ·have hk:(k+(aF.toArray.size:Int)).toNat=j:=by
   rw[seqIndex_neg (by left) h3]at h1;rw[List.size_toArray,<- hl];exact Yg h1
  exact PySem.W.ki_setBack ho (by left) (by rw[List.size_toArray,<- hl];exact h3) (by left) (by rw[hk];exact⟨_,I',q⟩)
theorem oj(lo hi:Option Int)(n:Nat):(sliceBounds lo hi none n).1=((HT.sH n 0 lo:Nat):Int)/\(sliceBounds lo hi none n).2.1=((HT.sH n n hi:Nat):Int)/\(sliceBounds lo hi none n).2.2=1:=by
 refine⟨?_,?_,rfl⟩
 ·cases lo with
  |none=>simp[sliceBounds,HT.sH]
  |some i =>
   simp only[sliceBounds,HT.sH,Option.getD_none,show(1:Int)>0 by decide,if_true];by_cases h:i<0
   ·simp only[h,if_true]<;>left
   ·simp only[h,if_false]<;>left
 ·cases hi with
  |none=>simp[sliceBounds,HT.sH]
  |some i =>
   simp only[sliceBounds,HT.sH,Option.getD_none,show(1:Int)>0 by decide,if_true];by_cases h:i<0
   ·simp only[h,if_true]<;>left
   ·simp only[h,if_false]<;>left
theorem mn(aF:ak)(lo hi:Option Int):slicePick aF.toArray lo hi none=((aF.drop (HT.sH aF.length 0 lo)).take (HT.sH aF.length aF.length hi - HT.sH aF.length 0 lo)).toArray:=by
 obtain⟨h1,h2,h3⟩:=oj lo hi aF.toArray.size;unfold slicePick;rw[h1,h2,h3];simp only[sliceRange_one,pick_run,List.size_toArray]<;>rfl
def PJ(K:ao):V->Option Int->Option Int->Hp->VK->Prop:=λx lo hi H Q=>∃a xs,x=.ref a/\cM K H a xs/\∀p,H p=none->Q (.ref p) (upd H p (.lst (De xs lo hi)))
theorem ui:OD X (PJ X.K):=by
 intro pins s σ H x v vl vu lo hi sl Q I rx hs pl pu h;obtain⟨a,xs,rfl,hx,q⟩:=h;cases rx;obtain⟨aF,r,ht,hz⟩:=I.list hx;have hlen:=r.length;refine⟨"list",_,slot_list_getitem.lookup,ht.isList.typeIs,?_⟩;refine wpAny_getItem_list_slice ht.isList hs pl pu .none (by simp) ?_ (by rw[List.size_toArray]<;>omega);rw[mn,<- hlen];refine⟨.ref s.heap.objs.size,_,I.laid (t':=s.toks) (o:=.lst (De xs lo hi)) (λb ob q=>X8 _ q) (Yb _) ?_,rfl,q _ (I.cJ.fresh (Yb _))⟩;exact⟨Yi (rB xs lo hi) hz,_,0,(r.drop (HT.sH xs.length 0 lo)).take (HT.sH xs.length xs.length hi - HT.sH xs.length 0 lo),Yd _ rfl⟩
noncomputable def gD:V->Bool
 |.bw=>true
 |.bl _=>true
 |.int _=>true
 |.str _=>true
 |_=>false
noncomputable def CW:V->V->Bool
 |.bw,.bw=>true
 |.bl a,.bl b=>a==b
 |.bl a,.int b=>(if a then 1 else 0)==b
 |.int a,.bl b=>a==(if b then 1 else 0)
 |.int a,.int b=>a==b
 |.str a,.str b=>a==b
 |_,_=>false
theorem Ie{A:aD}{s:Shared}{y x:V}{u v:Value}(ry:RelV y u)(rx:RelV x v)(fy:gD y=true)(fx:gD x=true):SeqAt.EqAt A s u v (CW y x):=by
 cases y with
 |bw =>
  cases ry;cases x with
  |bw=>cases rx;exact Y1 _
  |bl b=>cases rx;exact Zz b
  |int b=>obtain⟨t,rfl⟩:=rx;exact ZG b t
  |str b=>obtain⟨t,rfl⟩:=rx;exact ZH b t
  |_=>exact absurd (show false=true from fx) X7
 |bl a =>
  cases ry;cases x with
  |bw=>cases rx;exact ZA a
  |bl b=>cases rx;exact ZC a b
  |int b=>obtain⟨t,rfl⟩:=rx;exact ZI a b t
  |str b=>obtain⟨t,rfl⟩:=rx;exact ZJ a b t
  |_=>exact absurd (show false=true from fx) X7
 |int a =>
  obtain⟨t',rfl⟩:=ry;cases x with
  |bw=>cases rx;exact ZK a t'
  |bl b=>cases rx;exact ZL a t' b
  |int b=>obtain⟨t,rfl⟩:=rx;exact Zf a t' b t
  |str b=>obtain⟨t,rfl⟩:=rx;exact Zd a t' b t
  |_=>exact absurd (show false=true from fx) X7
 |str a =>
  obtain⟨t',rfl⟩:=ry;cases x with
  |bw=>cases rx;exact ZM a t'
  |bl b=>cases rx;exact ZN a t' b
  |int b=>obtain⟨t,rfl⟩:=rx;exact Ze a t' b t
  |str b=>obtain⟨t,rfl⟩:=rx;exact ZU a t' b t
  |_=>exact absurd (show false=true from fx) X7
 |_=>exact absurd (show false=true from fy) X7
def tG(x:V)(u:Value):Bool:=match u with
 |.none=>CW .bw x
 |.bool b=>CW (.bl b) x
 |.int i _=>CW (.int i) x
 |.str z _=>CW (.str z) x
 |_=>false
theorem zU{x y:V}{u:Value}(r:RelV y u)(f:gD y=true):tG x u=CW y x:=by
 cases y with
 |bw=>cases r;rfl
 |bl b=>cases r;rfl
 |int i=>obtain⟨t,rfl⟩:=r;rfl
 |str z=>obtain⟨t,rfl⟩:=r;rfl
 |_=>exact absurd (show false=true from f) X7
theorem jl{x:V}:∀{xs:ae} {us:ak},Vals xs us->xs.all gD=true->us.any (tG x)=xs.any λy=>CW y x
 |_,_,.nil,_=>rfl
 |y::xs,u::us,.cons r t,f=>by
  rw[List.all_cons,Bool.and_eq_true]at f;rw[List.any_cons,List.any_cons,zU r f.1,jl t f.2]
theorem gy{A:aD}{s:Shared}{x:V}{v:Value}(rx:RelV x v)(fx:gD x=true):∀{xs:ae} {us:ak},Vals xs us->xs.all gD=true->∀u∈us,SeqAt.EqAt A s u v (tG x u)
 |_,_,.nil,_=>λu hu=>by cases hu
 |y::xs,u::us,.cons r t,f=>λu' hu=>by
  rw[List.all_cons,Bool.and_eq_true]at f;rcases List.mem_cons.mp hu with rfl|hu
  ·rw[zU r f.1];exact Ie r rx f.1 fx
  ·exact gy rx fx t f.2 u' hu
def N3(x:V)(xs:ae):Bool:=xs.any λy=>CW y x
def PU(K:ao)(neg:Bool):R2:=λx y H Q=>∃p xs,y=.ref p/\(cM K H p xs\/aU K H p xs)/\gD x=true/\xs.all gD=true/\Q (.bl (if neg then !N3 x xs else N3 x xs)) H
theorem vX:gY X (compareOp .In) (PU X.K false):=by
 intro pins s σ H x y v u Q I rx ry h;obtain⟨p,xs,rfl,hq,fx,fs,q⟩:=h;cases ry;rcases hq with hq|hq
 ·obtain⟨aF,r,pl,hz⟩:=I.list hq;refine SeqAt.in_listAt (tG x) pl.isList (λw hw=>gy rx fx r fs w (by simpa using hw)) ⟨.bl _,H,I,rfl,?_⟩;rw[show aF.toArray.any (tG x)=aF.any (tG x) by simp,jl r fs];exact q
 ·obtain⟨aF,r,pl,hz⟩:=I.tuple hq;refine SeqAt.in_tupleAt (tG x) pl (λw hw=>gy rx fx r fs w (by simpa using hw)) ⟨.bl _,H,I,rfl,?_⟩;rw[show aF.toArray.any (tG x)=aF.any (tG x) by simp,jl r fs];exact q
theorem BZ:gY X (compareOp .NotIn) (PU X.K true):=by
 intro pins s σ H x y v u Q I rx ry h;obtain⟨p,xs,rfl,hq,fx,fs,q⟩:=h;cases ry;rcases hq with hq|hq
 ·obtain⟨aF,r,pl,hz⟩:=I.list hq;refine SeqAt.notIn_listAt (tG x) pl.isList (λw hw=>gy rx fx r fs w (by simpa using hw)) ⟨.bl _,H,I,rfl,?_⟩;rw[show aF.toArray.any (tG x)=aF.any (tG x) by simp,jl r fs];exact q
 ·obtain⟨aF,r,pl,hz⟩:=I.tuple hq;refine SeqAt.notIn_tupleAt (tG x) pl (λw hw=>gy rx fx r fs w (by simpa using hw)) ⟨.bl _,H,I,rfl,?_⟩;rw[show aF.toArray.any (tG x)=aF.any (tG x) by simp,jl r fs];exact q
theorem pz:df X (.builtin "len") (λxs H Q=>∃p ys,xs=[.ref p]/\(cM X.K H p ys\/aU X.K H p ys)/\Q (.int ys.length) H):=by
 intro pins s σ H xs us Q I r h;obtain⟨p,ys,rfl,hq,q⟩:=h;obtain⟨u,rfl,rx⟩:=vals1 r;cases rx;have hn:=jG;rcases hq with hq|hq
 ·obtain⟨aF,r',pl,hz⟩:=I.list hq;have hlen:=r'.length;exact Calls.call_len_list pl.isList (by simp only[List.size_toArray]<;>omega) ⟨.int ys.length,H,I.tok _,⟨s.toks+1,by rw[List.size_toArray,hlen]⟩,q⟩
 ·obtain⟨aF,r',pl,hz⟩:=I.tuple hq;have hlen:=r'.length;exact len_tuple pl (by simp only[List.size_toArray]<;>omega) ⟨.int ys.length,H,I.tok _,⟨s.toks+1,by rw[List.size_toArray,hlen]⟩,q⟩
theorem pw:df X (.builtin "len") (λxs H Q=>∃z,xs=[.str z]/\z.length<=sizeLine/\Q (.int z.length) H):=by
 intro pins s σ H xs us Q I r h;obtain⟨z,rfl,hz,q⟩:=h;obtain⟨u,rfl,t,rfl⟩:=vals1 r;have hn:=jG;exact len_str (by left) ⟨.int z.length,H,I.tok _,⟨_,rfl⟩,q⟩
theorem pv:df X (.type "list") (λxs H Q=>∃p ys,xs=[.ref p]/\(cM X.K H p ys\/aU X.K H p ys)/\∀l,H l=none->Q (.ref l) (upd H l (.lst ys))):=by
 intro pins s σ H xs us Q I r h;obtain⟨p,ys,rfl,hq,q⟩:=h;obtain⟨u,rfl,rx⟩:=vals1 r;cases rx;have fin:∀(aF:ak),Vals ys aF->ys.length<=sizeLine->∀(h':Heap) (c':Nat),(∀b o',s.heap.get? b=some o'->h'.get? b=some o') ->
   h'.get? s.heap.objs.size=some { cls:=.type "list",dict:=none,data:=.seq aF.toArray c',slots:=#[] }->EP X pins σ Q (.ref s.heap.objs.size) { s with heap:=h' }:=λaF r' hz h' c' kp e =>
  ⟨.ref s.heap.objs.size,_,I.laid (t':=s.toks) kp (Yb _) (show b_ _ h' _ (.lst ys) from⟨hz,aF,c',r',e⟩),rfl,q _ (I.cJ.fresh (Yb _))⟩
 rcases hq with hq|hq
 ·obtain⟨aF,r',pl,hz⟩:=I.list hq;have hlen:=r'.length;obtain⟨o,ho,hc,n,hd⟩:=pl.isList;exact call_list_seq p (.inl rfl) ho hc hd (λh' c' kp e=>fin aF r' hz h' c' kp e) (by simp only[List.size_toArray]<;>omega)
 ·obtain⟨aF,r',pl,hz⟩:=I.tuple hq;have hlen:=r'.length;obtain⟨o,ho,hc,n,hd⟩:=pl;exact call_list_seq p (.inr rfl) ho hc hd (λh' c' kp e=>fin aF r' hz h' c' kp e) (by simp only[List.size_toArray]<;>omega)
theorem mJ:df X (.type "tuple") (λxs H Q=>∃p ys,xs=[.ref p]/\((cM X.K H p ys/\∀l,H l=none->Q (.ref l) (upd H l (.tup ys)))\/(aU X.K H p ys/\Q (.ref p) H))):=by
 intro pins s σ H xs us Q I r h;obtain⟨p,ys,rfl,h⟩:=h;obtain⟨u,rfl,rx⟩:=vals1 r;cases rx;rcases h with ⟨hq,q⟩|⟨hq,q⟩
 ·obtain⟨aF,r',pl,hz⟩:=I.list hq;have hlen:=r'.length;refine call_tuple_list pl.isList (λh' kp=>?_) (by simp only[List.size_toArray]<;>omega);have I1:Inv X pins σ H { s with heap:=h' }:=I.kept (t':=s.toks) kp;have I2:Inv X pins σ (upd H h'.objs.size (.tup ys)) { s with heap:=h'.push { cls:=.type "tuple",data:=.seq aF.toArray } } :=
   I1.laid (t':=s.toks) (λb o e=>X8 _ e) (Yb _) (show b_ _ _ _ (.tup ys) from⟨hz,aF,r',IsTup.new _ _⟩)
  exact⟨.ref h'.objs.size,_,I2,rfl,q _ (I1.cJ.fresh (Yb _))⟩
 ·obtain⟨aF,r',pl,hz⟩:=I.tuple hq;exact call_tuple_same pl ⟨.ref p,H,I,rfl,q⟩
def OM(K:ao)(T:String)(x:V)(H:Hp):Prop:=match x with
 |.str _=>T = "str"
 |.ref p=>T = "list" /\ ∃xs,cM K H p xs
 |_=>False
theorem xD{pins:aj}{s:Shared}{T:String}{x:V}{v:Value}(I:Inv X pins σ H s)(r:RelV x v)(ty:OM X.K T x H):
  s.TypeIs v T/\∀a,v=.ref a->∃ob,s.heap.get? a=some ob/\ob.dict=none:=by
 cases x with
 |str z =>
  obtain⟨t,rfl⟩:=r;cases (show T = "str" from ty);exact⟨Zj s z t,λ_ e=>nomatch e⟩
 |ref p =>
  cases r;obtain⟨rfl,xs,hq⟩:=ty;obtain⟨aF,_,pl,_⟩:=I.list hq;refine⟨pl.isList.typeIs,λa e=>?_⟩;cases e;obtain⟨o,n,e,c,hd,_⟩:=pl;exact⟨o,e,hd⟩
 |_=>exact False.elim ty
def OX(K:ao)(T:String)(r:V->ae->Hp->VK->Prop)(to:TE):TE:=λσ H Q=>to σ H λx H1=>OM K T x H1/\r x [] H1 Q
def Vk(K:ao)(T:String)(r:V->ae->Hp->VK->Prop)(to:TE)(t:TA):TE:=λσ H Q=>to σ H λx H1=>OM K T x H1/\t σ H1 λxs H2=>r x xs H2 Q
variable {o e:Expr}{es:ai}{to:TE}{t:TA}{name:Str}{apos o7:Pos}{T id:String}{r:V->ae->Hp->VK->Prop}
theorem yw(pa:PlainAttrs T)(slot:Slot T name id)(LI:typeOf (.builtin id)=pure (.type "method_descriptor"))(hm:Nm X id r)(ho:PE X o to)
  (zD:attributeBase o name X.env (eval o X.env)=eval o X.env:=by rfl) (hline:(apos.endLine==o7.line)=true:=by rfl):PE X (.Call (.Attribute o name apos) [] [] o7) (OX X.K T r to):=by
 intro pins s σ H Q I h;refine wpAny_Call_method0_late zD hline (cI (ho pins s σ H _ I h) λv s1 bG=>?_);obtain⟨x,H1,I1,r1,ty,q1⟩:=bG;obtain⟨h1,h2⟩:=xD I1 r1 ty;exact⟨T,id,pa,slot,LI,h1,h2,Calls.callWith_builtin rfl (PySem.evalArgs_none (hm pins s1 σ H1 x [] v [] Q I1 r1 .nil q1))⟩
theorem yx(pa:PlainAttrs T)(slot:Slot T name id)(LI:typeOf (.builtin id)=pure (.type "method_descriptor"))(hm:Nm X id r)(ho:PE X o to)(ha:PA X (e::es) t)
  (zD:attributeBase o name X.env (eval o X.env)=eval o X.env:=by rfl)
  (hfew:((backTo o7 (starEach (e::es) X.env)).all (λx=>!x.1)&&(backToKw o7 (keywordEach [] X.env)).all (λx=>x.1.isSome)
   && decide ((e::es).length+([]:List Keyword).length+(if ([]:List Keyword).isEmpty then 0 else 1)<30))=true:=by rfl)
  (hline:(apos.endLine==o7.line)=true:=by rfl) (hs:starEach (e::es) X.env=(false,eval e X.env)::starEach es X.env:=by rfl) (Hg:(backTo o7 (starEach es X.env)).any (·.1)=false:=by rfl) :
  PE X (.Call (.Attribute o name apos) (e::es) [] o7) (Vk X.K T r to t):=by
 intro pins s σ H Q I h;refine wpAny_Call_method_late zD hfew hline rfl (cI (ho pins s σ H _ I h) λv s1 bG=>?_);obtain⟨x,H1,I1,r1,ty,q1⟩:=bG;obtain⟨h1,h2⟩:=xD I1 r1 ty;refine⟨T,id,pa,slot,LI,h1,h2,?_⟩;have hA:=ha o7 pins s1 σ H1 _ I1 q1;rw[hs]at hA ⊢;refine Calls.callWith_builtin (by show(false||(backTo o7 (starEach es X.env)).any (·.1))=false;rw[Hg]<;>rfl) (Calls.evalArgs_plain ?_);exact cI hA λus s2 ⟨vs,H2,I2,r2,q2⟩=>hm pins s2 σ H2 x vs v us Q I2 r1 r2 q2
/- xs.append(e),list.index on a module's tuple .. are Nm facts of 06m -/
end
end L2
namespace L2
open PySem PySem.Spec PyProof.Rows
def OE(X:Cx)(id:String)(r:V->ae->Hp->VK->Prop):Prop :=
 ∀(pins:aj) (s:Shared) (σ:St) (H:Hp) (x:V) (xs:ae) (v:Value) (us:ak) (Q:VK),Inv X pins σ H s->RelV x v->Vals xs us->r x xs H Q ->
  wpAny (model X.prog X.w) X.A (call (.builtin id) (v::us)) (EP X pins σ Q) X.xe s
theorem Vals.one:∀{x:V} {us:ak},Vals [x] us->∃u,us=[u]/\RelV x u
 |_,_,.cons r .nil=>⟨_,rfl,r⟩
theorem Vals.zero:∀{us:ak},Vals [] us->us=[]
 |_,.nil=>rfl
theorem Vals.dropLast{xs:ae}{us:ak}(h:Vals xs us):Vals xs.dropLast us.dropLast:=by
 induction h with
 |nil=>exact .nil
 |cons r t ih =>
  cases t with
  |nil=>exact .nil
  |cons q t'=>exact .cons r ih
theorem Vals.eraseIdx:∀{xs:ae} {us:ak} (i:Nat),Vals xs us->Vals (xs.eraseIdx i) (us.eraseIdx i)
 |_,_,_,.nil=>.nil
 |_,_,0,.cons _ t=>t
 |_,_,i+1,.cons r t=>.cons r (Vals.eraseIdx i t)
theorem Vals.rep{xs:ae}{us:ak}(h:Vals xs us):∀k:Nat,Vals (List.replicate k xs).flatten (List.replicate k us).flatten
 |0=>.nil
 |k+1=>by
  rw[List.replicate_succ,List.replicate_succ,List.flatten_cons,List.flatten_cons];exact Vals.append h (Vals.rep h k)
theorem tF{α:Type}(l:List α):l.eraseIdx (l.length - 1)=l.dropLast:=by
 induction l with
 |nil=>rfl
 |cons a r ih =>
  cases r with
  |nil=>rfl
  |cons b r =>
   have e:(a::b::r).length - 1=((b::r).length - 1)+1:=by
    have h1:(a::b::r).length=r.length+2:=rfl;have h2:(b::r).length=r.length+1:=rfl;left
   rw[e,List.eraseIdx_cons_succ,ih]
   all_goals rfl
theorem ny{α:Type}:∀(l:List α) (i:Nat),(l.eraseIdx i).length<=l.length
 |[],_=>Yb _
 |_::_,0=>ZS _
 |_::r,i+1=>Nat.succ_le_succ (ny r i)
theorem foldl_rep(aF:ak):∀(k:Nat) (acc:ak),
  List.foldl (λx1 x2=>x1++x2) acc.toArray (List.replicate k aF.toArray)=(acc++(List.replicate k aF).flatten).toArray
 |0,acc=>by simp
 |k+1,acc=>by
  have e:acc.toArray++aF.toArray=(acc++aF).toArray:=by simp
  have e2:(acc++aF)++(List.replicate k aF).flatten=acc++(List.replicate (k+1) aF).flatten:=by
   rw[List.replicate_succ,List.flatten_cons,List.append_assoc]
  rw[<- e2,<- foldl_rep aF k (acc++aF),<- e,List.replicate_succ,List.foldl_cons]
variable {aF:ak}{t':Nat}
section
variable {X:Cx}{pins:aj}{σ:St}{H:Hp}{s:Shared}{l b:Addr}{xs ys zs:ae}
theorem Inv.iw{its':ak}{n:Nat}{f:aP->aP}(I:Inv X pins σ H s)(hH:H l=some (.lst xs))
  (e:s.heap.get? l=some { cls:=.type "list",data:=.seq aF.toArray n }) (hf:f aF.toArray=its'.toArray) (hv:Vals ys its') (hz:ys.length<=sizeLine) :
  Inv X pins σ (upd H l (.lst ys)) { s with heap:=s.heap.update l (Obj.mapSeq f),toks:=t' }:=by
 have q:=PySem.IsL.update e f;rw[hf]at q;refine I.write (x:=l) (by rw[hH];exact trivial) (λb' u hb hu=>(YA s.heap (Obj.mapSeq f) (Zi hb)).trans hu) ⟨_,q⟩ ?_;exact⟨hz,its',_,hv,q⟩
theorem Inv.Cm(I:Inv X pins σ H s)(hv:Vals ys aF)(hz:ys.length<=sizeLine):
  Inv X pins σ (upd H s.heap.objs.size (.lst ys)) { s with heap:=s.heap.push { cls:=.type "list",data:=.seq aF.toArray },toks:=t' } :=
 I.laid (λ_ _ q=>X8 _ q) (Yb _) ⟨hz,aF,0,hv,Yd _ rfl⟩
theorem Inv.fresh(I:Inv X pins σ H s):H s.heap.objs.size=none:=I.cJ.fresh (Yb _)
theorem Inv.sQ(I:Inv X pins σ H s)(hH:H l=some (.lst xs)):xs.length<=sizeLine/\∃(aF:ak) (n:Nat),Vals xs aF/\xs.length=aF.length/\s.heap.get? l=some { cls:=.type "list",data:=.seq aF.toArray n }:=by
 obtain⟨z,aF,n,r,e⟩:=I.cJ l _ hH;exact⟨z,aF,n,r,r.length,e⟩
theorem yJ{n:Nat}(h:n<=sizeLine):Builtin.List.listTooLong n=false:=by
 unfold Builtin.List.listTooLong;exact Yt (by left)
end
section
variable {X:Cx}
def BI:V->ae->Hp->VK->Prop:=λx vs H Q=>∃l xs y,x=.ref l/\vs=[y]/\H l=some (.lst xs)/\xs.length<sizeLine/\Q .bw (upd H l (.lst (xs++[y])))
theorem vZ:OE X "list.append" BI:=by
 intro pins s σ H x vs v us Q I rx rv h;obtain⟨l,xs,y,rfl,rfl,hH,hz,q⟩:=h;cases rx;obtain⟨u,rfl,ru⟩:=rv.one;obtain⟨z,aF,n,r,hl,e⟩:=I.sQ hH;refine YJ F.slot_list_append ⟨_,e,rfl⟩ F.entry_list_append (F.args_list_append_2 _ _) (PySem.list_append l aF.toArray n u (by rw[List.size_toArray];left)) ⟨e,?_⟩;refine⟨.bw,_,I.iw (its':=aF++[u]) hH e (by simp) (r.append (.cons ru .nil)) ?_,rfl,q⟩;rw[List.length_append,List.length_singleton];left
def PL:V->ae->Hp->VK->Prop:=λx vs H Q=>∃l xs y,x=.ref l/\vs=[]/\H l=some (.lst xs)/\xs[xs.length - 1]?=some y/\Q y (upd H l (.lst xs.dropLast))
theorem Qe:OE X "list.pop" PL:=by
 intro pins s σ H x vs v us Q I rx rv h;obtain⟨l,xs,y,rfl,rfl,hH,hy,q⟩:=h;cases rx;have QH:=rv.zero;subst QH;obtain⟨z,aF,n,r,hl,e⟩:=I.sQ hH;obtain⟨u,hu,ru⟩:=r.get hy;have V3:aF.toArray[aF.toArray.size - 1]?=some u:=by
  show aF.toArray[aF.length - 1]?=some u;rw[<- Array.getElem?_toList,<- hl];exact hu
 refine YJ F.slot_list_pop ⟨_,e,rfl⟩ F.entry_list_pop (F.args_list_pop_1 _) (MeetsSeq.list_pop_last l aF.toArray n u V3 (by rw[List.size_toArray];left)) ⟨e,?_⟩;refine⟨y,_,I.iw (its':=aF.dropLast) hH e ?_ r.dropLast ?_,ru,q⟩
 ·show aF.toArray.eraseIdxIfInBounds (aF.toArray.size - 1)=aF.dropLast.toArray;rw[List.size_toArray,List.eraseIdxIfInBounds_toArray,tF]
 ·rw[List.length_dropLast];left
def FV:V->ae->Hp->VK->Prop:=λx vs H Q=>∃l xs i k y,x=.ref l/\vs=[.int i]/\H l=some (.lst xs) /\ -(2 ^ 63)<=i/\i<2 ^ 63/\seqIndex? i xs.length=some k/\xs[k]?=some y/\Q y (upd H l (.lst (xs.eraseIdx k)))
theorem Lc:OE X "list.pop" FV:=by
 intro pins s σ H x vs v us Q I rx rv h;obtain⟨l,xs,i,k,y,rfl,rfl,hH,h1,h2,hk,hy,q⟩:=h;cases rx;obtain⟨u,rfl,ru⟩:=rv.one;obtain⟨t,rfl⟩:=ru;obtain⟨z,aF,n,r,hl,e⟩:=I.sQ hH;obtain⟨w,hw,jB⟩:=r.get hy;refine YJ F.slot_list_pop ⟨_,e,rfl⟩ F.entry_list_pop (F.args_list_pop_2 _ _)
  (MeetsSeq.list_pop_at l aF.toArray n i t k w (fitsIndex_both h1 h2) (by rw[List.size_toArray,<- hl];exact hk) (by rw[<- Array.getElem?_toList];exact hw) (by rw[List.size_toArray];left)) ⟨e,?_⟩
 refine⟨y,_,I.iw (its':=aF.eraseIdx k) hH e ?_ (r.eraseIdx k) ?_,jB,q⟩
 ·show aF.toArray.eraseIdxIfInBounds k=(aF.eraseIdx k).toArray;rw[List.eraseIdxIfInBounds_toArray]
 ·have:=ny xs k;left
def FX:V->ae->Hp->VK->Prop:=λx vs H Q=>∃l xs,x=.ref l/\vs=[]/\H l=some (.lst xs)/\Q .bw (upd H l (.lst []))
theorem qG:OE X "list.clear" FX:=by
 intro pins s σ H x vs v us Q I rx rv h;obtain⟨l,xs,rfl,rfl,hH,q⟩:=h;cases rx;have QH:=rv.zero;subst QH;obtain⟨z,aF,n,r,hl,e⟩:=I.sQ hH;refine YJ F.slot_list_clear ⟨_,e,rfl⟩ F.entry_list_clear (F.args_list_clear_1 _) (AutoSeq1.list_clear_list_0 l aF.toArray n (by rw[List.size_toArray];left)) ⟨e,?_⟩;exact⟨.bw,_,I.iw (its':=[]) (ys:=[]) hH e rfl .nil (Yy _),rfl,q⟩
def PV:R2:=λx y H Q=>∃l b xs zs,x=.ref l/\y=.ref b/\H l=some (.lst xs)/\H b=some (.lst zs)/\xs.length+zs.length<=sizeLine/\∀p,H p=none->Q (.ref p) (upd H p (.lst (xs++zs)))
theorem Gn:gY X (binaryOp .Add) PV:=by
 intro pins s σ H x y v u Q I rx ry h;obtain⟨l,b,xs,zs,rfl,rfl,hH,hB,hz,q⟩:=h;cases rx;cases ry;obtain⟨z,aF,n,r,hl,e⟩:=I.sQ hH;obtain⟨z2,sV,n2,r2,uL,e2⟩:=I.sQ hB;refine PySem.P.add_list e e2 ?_ (by rw[List.size_toArray,List.size_toArray];left);have ea:aF.toArray++sV.toArray=(aF++sV).toArray:=by simp
 rw[ea];exact⟨.ref _,_,I.Cm (t':=s.toks) (r.append r2) (by rw[List.length_append];left),rfl,q _ I.fresh⟩
def PK:R2:=λx y H Q=>∃l k xs,x=.ref l/\y=.int k/\H l=some (.lst xs) /\ -(2 ^ 63)<=k/\k<2 ^ 63/\xs.length*k.toNat<=sizeLine /\
 ∀p,H p=none->Q (.ref p) (upd H p (.lst (List.replicate k.toNat xs).flatten))
theorem len_rep{α:Type}(xs:List α)(k:Nat):(List.replicate k xs).flatten.length=k*xs.length:=by
 induction k with
 |zero=>simp
 |succ k ih=>rw[List.replicate_succ,List.flatten_cons,List.length_append,ih,Nat.succ_mul,Nat.add_comm]
theorem P7:gY X (binaryOp .Mult) PK:=by
 intro pins s σ H x y v u Q I rx ry h;obtain⟨l,k,xs,rfl,rfl,hH,h1,h2,hz,q⟩:=h;cases rx;obtain⟨t,rfl⟩:=ry;obtain⟨z,aF,n,r,hl,e⟩:=I.sQ hH;have hlen:aF.toArray.size*k.toNat<=sizeLine:=by rw[List.size_toArray,<- hl];exact hz
 have oW:¬ aF.toArray.size*k.toNat>(2 ^ 63 - 1) / 8:=by
  have:(sizeLine:Nat)<=(2 ^ 63 - 1) / 8:=by decide
  left
 have Rb:¬ (!Builtin.List.listFitsIndex k)=true:=by
  rw[fitsIndex_both h1 h2];exact X7
 have LU:¬ Builtin.List.listTooLong (aF.toArray.size*k.toNat)=true:=by
  rw[yJ hlen];exact X7
 have CF:List.foldl (λx1 x2=>x1++x2) #[] (List.replicate (if aF.toArray.isEmpty=true then 0 else k.toNat) aF.toArray)=(List.replicate k.toNat aF).flatten.toArray:=by
  have f0:∀m:Nat,List.foldl (λx1 x2=>x1++x2) #[] (List.replicate m aF.toArray)=(List.replicate m aF).flatten.toArray:=λm=>by
   have:=foldl_rep aF m [];rw[List.nil_append]at this;exact this
  rw[f0];cases aF with
  |nil=>simp
  |cons a r'=>rw[if_neg (by simp)]
 refine wpAny_binaryOp_repeat_ref (T:="list") (U:="int") (by decide) ⟨_,e,rfl⟩ (λs'=>typeIs_int s' k t) noFill_list_mul F.fills_int_mul F.slot_int_rmul repeat_list F.slot_int_index.lookup
  (YJ F.slot_int_rmul (typeIs_int s k t) F.entry_int_rmul (F.args_int_rmul_2 _ _) (int___rmul___int_list k t l aF.toArray n)
   ⟨e,rfl,⟨_,e,rfl⟩,YJ F.slot_list_mul ⟨_,e,rfl⟩ F.entry_list_mul (F.args_list_mul_2 _ _) (AutoListH.list___mul___list_int_3 l aF.toArray n k t Rb oW LU) ⟨e,?_⟩⟩)
 rw[CF];exact⟨.ref _,_,I.Cm (t':=s.toks) (r.rep k.toNat) (by rw[len_rep,Nat.mul_comm];exact hz),rfl,q _ I.fresh⟩
end
section
variable {prog:aE}{w:World}{A:aD}{E:aB}{s:Shared}
set_option maxRecDepth 100000 in
end
section
variable {X:Cx}
end
end L2
namespace Att
open PySem PySem.W PySem.Calls PyProof.Rows
theorem j_{P:Params}{h:Heap}:∀(ns:aa) (vs:ak),WellAll P h vs (ns.map WData.int)->IntsAre vs ns:=by
 intro ns;induction ns with
 |nil =>
  intro vs w;rw[List.map_nil]at w;cases w;exact .nil
 |cons n ns ih =>
  intro vs w;rw[List.map_cons]at w;cases w with
  |cons a b =>
   cases a;exact .cons _ _ (ih _ b)
theorem vS{l:OpenLaw}{n:Nat}(hn:l.most=some n){P:Params}{h:Heap}{args:List WData}{vals:ak}
  (CD:l.row.toRowW.claim.pre args=true) (QF:WellAll P h vals args) :
  ∃a vs ns,vals=[Value.ref a]/\args=[WData.list (ns.map WData.int)]/\h.get? a=some { cls:=.type "list",data:=.seq vs.toArray }/\IntsAre vs ns/\ns.length<=n:=by
 have Wb:WShape.hasAll [] args [.list .int]=true:=(pre_splitW CD).1;have hc:l.pre.holds [] { args:=args }=true:=(pre_splitW CD).2;obtain⟨d,r,rfl,h1,h2⟩:=hasAllW_cons Wb;obtain rfl:=hasAllW_nil h2;obtain⟨xs,rfl,h3⟩:=hasW_list h1;obtain⟨ns,rfl⟩:=items_int h3;have hlen:ns.length<=n:=by
  unfold OpenLaw.pre at hc;have h4:(WTm.not (.lt (.lit (.int (n:Int))) (.len (.arg 0)))).holds [] { args:=[.list (ns.map .int)] }=true:=by
   have h4:=(holds_andW hc).1;rw[hn]at h4;exact h4
  have h5:=condW_of h4 (w_not (w_lt w_lit (w_len_list (w_arg rfl))));rw[List.length_map]at h5;refine Nat.le_of_not_lt λq=>?_;have q':(n:Int)<((ns.length:Nat):Int):=by left
  first
   | (rw[decide_eq_true q']at h5;exact absurd h5 (by decide))
   | (simp at h5;left)
 cases QF with
 |cons w1 w2 =>
  cases w2;cases w1 with
  |list ho hall=>exact⟨_,_,ns,rfl,rfl,ho,j_ ns _ hall,hlen⟩
theorem vU(l:OpenLaw)(args:List WData):l.row.toRowW.claim.post args (.bool true) args=true :=
 postW_of (r:=l.row.toRowW) (X:=(true==true))
  (show WShape.has [] (.bool true) .bool=true by first|rfl|decide|simp[WShape.has,WShape.arms,WShape.armsAll])
  (show(WTm.eq .res (.lit (.bool true))).value [] { args:=args,res:=some (.bool true),after:=args }=some (.bool (true==true)) from w_eq_bool (w_res rfl) w_lit) rfl
theorem rP{l:OpenLaw}{n:Nat}{q:aE}{loose:af}{XP:(aS)->Heap->Prop}{YP:World->Heap->Prop}{d:DefRec}
  (hn:l.most=some n) (L0:d.params.defaults=[])
  (call:∀(w:World) (s₀ s₁:Shared) (mg mb:aS) (fa:Addr) (o:Obj) (pm cd doc:Value) (a:Addr) (vs:ak) (ns:aa),
   Ground q loose [] XP w s₀ mg mb s₁.heap->YP w s₁.heap ->
   s₁.heap.get? fa=some o->o.data=.func (docDef d.name d.params d.body d.scope pm cd doc)->s₁.heap.CodeRec cd d.name->mg d.name=some (.ref fa) ->
   s₁.heap.get? a=some { cls:=.type "list",data:=.seq vs.toArray }->IntsAre vs ns->ns.length<=n->s₁.gens = #[] ->
   codeAny (model l.prog w) callerA (.call (.ref fa) ⟨[.ref a],[]⟩) (λr s'=>r=.ok (.ret (.bool true))/\OldK s₁.heap s'.heap/\s'.os=s₁.os/\AllBare s'.gens) s₁) :
  WalkO q loose XP YP l.row.toRowW d [] (λf vs=>PySem.call f vs):=by
 intro w s₀ s₁ mg mb G Y fa o pm cd doc dV kV ho hd wy hD hmg hg args vals as CD Wn XW QF XY;obtain rfl:dV=.none:=Dflts.none hD L0;obtain rfl:kV=.none:=Dflts.noKw hD;obtain⟨a,vs,ns,rfl,rfl,Hh,hints,hlen⟩:=vS hn CD QF;refine enter_call (Zy (call w s₀ s₁ mg mb fa o pm cd doc a vs ns G Y ho (fd_plain hd) wy hmg Hh hints hlen hg) λr s' hq=>?_);obtain⟨rfl,h2,h3,h4⟩:=hq;exact⟨.inl ⟨.bool true,.bool true,[],rfl,λ_=>rfl,.bool true,vU l _,λ_=>⟨List.Pairwise.nil,λ_ hm=>(nomatch hm)⟩⟩,h2,h3,h4⟩
section
variable {prog:aE}{w:World}{A:aD}{E:aB}{s:Shared}{K:Frag}
noncomputable def ledger(h:Heap)(L d:Addr):aj:=(List.range h.objs.size).filterMap λa=>if a=L\/a=d then none else(h.get? a).map λo=>(a,o)
end
end Att
namespace L2
open PySem PySem.Spec PyProof.Rows
theorem jt:∀{vs:ak} {ns:aa},IntsAre vs ns->Vals (ns.map V.int) vs
 |_,_,.nil=>.nil
 |_,_,.cons n t h=>.cons ⟨t,rfl⟩ (jt h)
def DT(H:Hp):Prop:=∀b,H b=none\/∃o xs,H b=some (.ic o (.lst xs))
theorem y6{P:aE}{w:World}{K:ao}{mg mb:aS}{CX:xl}{k:Nat}{fa a:Addr}{fd:FuncData}{x:Str}{sp:Sp}{s₁:Shared}{vs:ak}{ns:aa}
  (KX:K.In s₁.heap) (s9:s₁.heap.Ns mainGlobals mg) (hb:s₁.heap.Ns builtinsNs mb) (WB:∀x:Str,x ≠ "__name__" -> mb x=bootBuiltins x) (Q3:s₁.heap.NoLimit) (hg:s₁.gens = #[])
  (ha:s₁.heap.get? a=some { cls:=.type "list",data:=.seq vs.toArray }) (hi:IntsAre vs ns) (hl:ns.length<=sizeLine) (hr:fH k callerA)
  (F:∀base:Heap,K.In base->base.Ns mainGlobals mg->hX P w K mg base CX k fa fd [x] sp) (L5:∀(s:Shared) (u:Value),BindsTo s fd ⟨[u],[]⟩ [(x,u)])
  (AS:∀H:Hp,DT H->cM K H a (ns.map V.int)->sp [.ref a] H (λv _=>v=.bl true) λ_ _ _=>False)
  (Rq:∀H e s',CX [] H s₁ (λ_ _ _=>False) e s'->False) :
  codeAny (model P w) callerA (.call (.ref fa) ⟨[.ref a],[]⟩) (λr s'=>r=.ok (.ret (.bool true))/\OldK s₁.heap s'.heap/\s'.os=s₁.os/\AllBare s'.gens) s₁:=by
 have rv:=jt hi;have Qh:=hi.length;have core:∀H:Hp,DT H->cM K H a (ns.map V.int)->jO H s₁.heap->(∀b,H b≠none->b=a)->(H a≠none->K.lookup a=none) ->
   codeAny (model P w) callerA (.call (.ref fa) ⟨[.ref a],[]⟩) (λr s'=>r=.ok (.ret (.bool true))/\OldK s₁.heap s'.heap/\s'.os=s₁.os/\AllBare s'.gens) s₁:=by
  intro H hO hS cJ hA hK;have vn:∀{b:Addr} {o:Obj},s₁.heap.get? b=some o->H b=none->(oV s₁.heap H).get? b=some o:=λe n=>zx e n;have K7:∀{b:Addr} {o:Obj} {es:Array DictEntry} {ep:Nat},s₁.heap.get? b=some o->o.data=.dict es ep->H b=none:=λ{b o es ep} e d=>by
   cases q:H b with
   |none=>rfl
   |some u =>
    have e':b=a:=hA b (by rw[q];simp);subst e';rw[ha]at e;cases e;have d':Data.seq vs.toArray _=Data.dict es ep:=d;cases d'
  have NW:∀{b:Addr} {m:aS},s₁.heap.Ns b m->(oV s₁.heap H).Ns b m:=λ{b m} ⟨o,es,ep,e,d,r⟩=>⟨o,es,ep,vn e (K7 e d),d,r⟩
  have Ul:K.In (oV s₁.heap H):=λb o e=>vn (KX b o e) (by
   cases q:H b with
   |none=>rfl
   |some u =>
    have e':b=a:=hA b (by rw[q];simp);subst e';rw[hK (by rw[q];simp)]at e;cases e)
  have hM:Mod K mg (oV s₁.heap H):=⟨Ul,NW s9,⟨mb,NW hb,WB⟩,let ⟨mc,h1,h2⟩:=Q3;⟨mc,NW h1,h2⟩⟩
  have e0:DW P w K mg (oV s₁.heap H) callerA [] s₁ H:=⟨rfl,hM,λb o e=>B6 e,Nat.le_of_eq (wt _ _),trivial,λb hb=>absurd (show b∈([]:aW) from hb) (by simp),cJ,.of_eq hg⟩
  refine Zy ((F _ Ul (NW s9)).run callerA [] s₁ H ⟨[.ref a],[]⟩ [.ref a] [.ref a] _ _ hr e0 (L5 s₁ (.ref a)) (.cons rfl .nil) (AS H hO hS)) λr s' h=>?_;cases r with
  |error e=>exact(Rq H e s' h).elim
  |ok fl =>
   cases fl with
   |next=>exact False.elim h
   |brk=>exact False.elim h
   |cont=>exact False.elim h
   |ret u =>
    obtain⟨v,H',os,bare,un,QY,r',q⟩:=h;have q':v=.bl true:=q;subst q';obtain rfl:u=Value.bool true:=r';refine⟨rfl,OldK.of_keep λb o e=>?_,os,bare⟩;cases q:H b with
    |none=>exact un.keep b o e q (by intro z;exact absurd (show b∈([]:aW) from z) (by simp)) (by simp)
    |some u =>
     rcases hO b with z|⟨ob,xs,z⟩
     ·rw[q]at z;cases z
     ·have z2:=un.mF b ob _ z;obtain⟨e1,_⟩:=cJ b _ z;obtain⟨e2,_⟩:=QY b _ z2;rw[e]at e1;cases e1;exact e2
 cases hk:K.lookup a with
 |some o =>
  have e:=KX a o hk;rw[ha]at e;cases e;refine core (λ_=>none) (λ_=>.inl rfl) (.inr ⟨_,vs.toArray,_,hk,rfl,rfl,rfl,by rw[List.size_toArray,Qh];exact hl,by simpa using rv⟩) (λb u z=>by have z':(none:Option HO)=some u:=z;cases z') (λb z=>absurd rfl z) λz=>absurd rfl z
 |none =>
  refine core (λb=>if b=a then some (.ic { cls:=.type "list",data:=.seq vs.toArray } (.lst (ns.map V.int)))else none) (λb=>?_) (.inl (.inr ⟨{ cls:=.type "list",data:=.seq vs.toArray },Yv rfl⟩)) (λb u z=>?_) (λb z=>?_) λ_=>hk
  ·by_cases hb:b=a
   ·exact .inr ⟨_,_,Yv hb⟩
   ·exact .inl (Zh hb)
  ·by_cases hb:b=a
   ·have z':=(Yv hb).symm.trans z;cases z';subst hb;exact⟨ha,by rw[List.length_map];exact hl,vs,_,rv,ha⟩
   ·have z':=(Zh hb).symm.trans z;cases z'
  ·by_cases hb:b=a
   ·exact hb
   ·exact absurd (Zh hb) z
end L2
namespace L2
open PySem PySem.Spec PyProof.Rows
theorem A8{l:PySem.W.OpenLaw}{n k:Nat}{q:aE}{loose:af}{XP:(aS)->Heap->Prop}{YP:World->Heap->Prop}{d:DefRec}{K:Params->ao}{CX:World->xl}{sp:World->Sp}{x:Str}
  (hn:l.most=some n) (Jn:n<=sizeLine) (L0:d.params.defaults=[]) (hr:fH k callerA)
  (hY:∀(w:World) (h:Heap),YP w h->(K w.params).In h)
  (F:∀(w:World) (mg:aS) (fa:Addr) (h:Heap),(K w.params).In h->h.Ns mainGlobals mg->mg d.name=some (.ref fa) ->
   ∃fd:FuncData,(∀(s:Shared) (u:Value),BindsTo s fd ⟨[u],[]⟩ [(x,u)]) /\
    ∀base:Heap,(K w.params).In base->base.Ns mainGlobals mg->hX l.prog w (K w.params) mg base (CX w) k fa fd [x] (sp w))
  (AS:∀(w:World) (H:Hp) (a:Addr) (ns:aa),ns.length<=n->DT H->cM (K w.params) H a (ns.map V.int)->sp w [.ref a] H (λv _=>v=.bl true) λ_ _ _=>False)
  (Rq:∀(w:World) (H:Hp) (s:Shared) (e:Value) (s':Shared),CX w [] H s (λ_ _ _=>False) e s'->False) :
  PySem.W.WalkO q loose XP YP l.row.toRowW d [] (λf vs=>PySem.call f vs):=by
 refine Att.rP hn L0 λw s₀ s₁ mg mb fa o pm cd doc a vs ns G Y ho hd wy hmg Hh hints hlen hg=>?_;have KX:=hY w _ Y;obtain⟨fd,hb,hF⟩:=F w mg fa _ KX G.T.g hmg;exact y6 KX G.T.g G.T.b G.T.builtins G.T.nolimit hg Hh hints (Yi hlen Jn) hr hF hb (λH hO hS=>AS w H a ns hlen hO hS) λH e s'=>Rq w H s₁ e s'
end L2
namespace L2
open PySem PySem.Spec PyProof.Rows
noncomputable def eW(s:Stmt):Arguments:=match s with
 |.FunctionDef _ a _ _ _ _ _ _ _ _=>a
 |_=>{ posonlyargs:=[],args:=[],vararg:=none,kwonlyargs:=[],kw_defaults:=[],kwarg:=none,defaults:=[] }
noncomputable def cO(s:Stmt):aO:=match s with
 |.FunctionDef _ _ b _ _ _ _ _ _ _=>b
 |_=>[]
noncomputable def bu(s:Stmt):Scope:=match s with
 |.FunctionDef _ _ _ _ _ _ sc _ _ _=>sc
 |_=>{ kind:=.function,names:=[],isGenerator:=false,isCoroutine:=false }
abbrev xn:xl:=λ_ _ _ _ _ _=>False
abbrev E0:XK:=λ_ _ _=>False
theorem KW{X:Cx}:Passes xn X E0:=λ_ _ _ _ _ _ _ h=>h.elim
structure DV(K:ao)(x qual:Str)(st:Stmt)(f:Addr)(fd:FuncData):Prop where
 ex:∃(oc:Value) (od:Option Addr) (kV doc pm:Value) (an:Option Addr) (ig ct:Value) (AQ:Array (Option Value)),
  fd=PySem.W.fnOf x qual (eW st) (cO st) (bu st) .none kV doc pm an ig ct/\K.lookup f=some ⟨oc,od,.func fd,AQ⟩/\PySem.W.codeIn K ig qual=true
 kp:PySem.W.keepIn K (.ref f)=true
variable {ps:af}{qual:Str}{st:Stmt}
section
variable {P:aE}{w:World}{K:ao}{mg:aS}{base:Heap}
theorem DV.ok{x:Str}{f:Addr}{fd:FuncData}{N:af}{k:Nat}{sp:Sp}(F:DV K x qual st f fd)(S:gZ N ps (bu st))(len:∀vs H Q E,sp vs H Q E->vs.length=ps.length)
  (zC:∀(ig:Value) (A:aD) (outer:List Env) (s:Shared) (H:Hp) (vs:ae) (Q:VK) (E:XK),fH k (A.deeper (envOfC qual (bu st) s.heap.objs.size f ig))->sp vs H Q E ->
   ∃t,kO (tJ xn P w K mg base N qual (bu st) f ig A outer s H E).K5 (cO st) t/\t { nx:=λ_ H'=>Q .bw H',rt:=Q } (start N vs) H):hX P w K mg base xn (k+1) f fd ps sp:=by
 obtain⟨oc,od,kV,doc,pm,an,ig,ct,AQ,rfl,lk,wy⟩:=F.ex;refine MF lk wy S len λA outer s H vs Q E hr AS=>?_;obtain⟨t,h,q⟩:=zC ig A outer s H vs Q E hr AS;exact⟨t,h.K5,q⟩
theorem DV.binds{x:Str}{f:Addr}{fd:FuncData}(F:DV K x qual st f fd)
  (h:∀(kV doc pm:Value) (an:Option Addr) (ig ct:Value) (us:ak),us.length=ps.length->bindArgs (PySem.W.fnOf x qual (eW st) (cO st) (bu st) .none kV doc pm an ig ct) ⟨us,[]⟩=pure (ps.zip us)):Binds K fd ps []:=by
 obtain⟨oc,od,kV,doc,pm,an,ig,ct,AQ,rfl,lk,wy⟩:=F.ex;exact .all (h kV doc pm an ig ct)
theorem HD{x:Str}{f:Addr}{oc:Value}{od an:Option Addr}{AQ:Array (Option Value)}{kV doc pm ig ct:Value}(l:K.lookup f=some ⟨oc,od,.func (PySem.W.fnOf x qual (eW st) (cO st) (bu st) .none kV doc pm an ig ct),AQ⟩)
  (c:PySem.W.codeIn K ig qual=true) (k:PySem.W.keepIn K (.ref f)=true):DV K x qual st f (PySem.W.fnOf x qual (eW st) (cO st) (bu st) .none kV doc pm an ig ct):=⟨⟨oc,od,kV,doc,pm,an,ig,ct,AQ,rfl,l,c⟩,k⟩
end
theorem Eo{A:aD}{k:Nat}(hr:fH k A):A.units+1<cLine:=Yo (Nat.add_le_add_left (by decide:1<=64) _) hr.units
section
variable {X:Cx}
end
def aG(H H':Hp):Prop:=∀b o,H b=some o->H' b=some o
theorem aG.refl(H:Hp):aG H H:=λ_ _ h=>h
variable {H H':Hp}
theorem aG.trans{H1 H2:Hp}(a:aG H H1)(b:aG H1 H2):aG H H2:=λc o h=>b c o (a c o h)
theorem aG.free(e:aG H H'){l:Addr}(h:H' l=Option.none):H l=Option.none:=by
 cases q:H l with
 |none=>rfl
 |some o =>
  rw[e l o q]at h;cases h
theorem aG.seq{K:ao}{a:Addr}{xs:ae}(e:aG H H')(h:cM K H a xs):cM K H' a xs:=by
 rcases h with (h|⟨o,h⟩)|h
 ·exact .inl (.inl (e _ _ h))
 ·exact .inl (.inr ⟨o,e _ _ h⟩)
 ·exact .inr h
end L2
set_option autoImplicit false
set_option linter.all false
set_option Elab.async false
set_option maxRecDepth 100000
set_option maxHeartbeats 4000000
section
namespace DI
open PySem (Str Expr Stmt Scope NameKind)
inductive Fl where|ow|fz|al|sc
 deriving DecidableEq
inductive D where
 |bw|bl (b:Bool)|int (i:Int)|str (s:Str)
 |tup (ds:List D)
 |lst (f:Fl) (ds:List D)
 |cx (f:Fl) (ks:av) (vs:List D)
abbrev aH:=Option D
abbrev ab:=List D
mutual
noncomputable def aI(g:Fl->Fl):D->D
 |.tup ds=>.tup (az g ds)
 |.lst f ds=>.lst (g f) (az g ds)
 |.cx f ks vs=>.cx (g f) ks (az g vs)
 |.bw=>.bw
 |.bl b=>.bl b
 |.int i=>.int i
 |.str s=>.str s
noncomputable def az(g:Fl->Fl):ab->ab
 |[]=>[]
 |d::ds=>aI g d::az g ds
end
theorem bo(g:Fl->Fl):∀ds:ab,az g ds=ds.map (aI g)
 |[]=>rfl
 |d::ds=>by rw[az,bo g ds];rfl
noncomputable def a_:Fl->Fl|.ow=>.al|f=>f
noncomputable def fR:Fl->Fl|.fz=>.al|f=>f
noncomputable def aY:Fl->Fl|.sc=>.sc|_=>.fz
noncomputable def mB:Fl->Bool|.sc=>true|_=>false
mutual
noncomputable def bc(p:Fl->Bool):D->Bool
 |.tup ds=>aR p ds
 |.lst f ds=>p f||aR p ds
 |.cx f ks vs=>p f||aR p vs
 |_=>false
noncomputable def aR(p:Fl->Bool):ab->Bool
 |[]=>false
 |d::ds=>bc p d||aR p ds
end
noncomputable def bA:Fl->Bool|.al=>true|_=>false
noncomputable def cp:Fl->Bool|.ow=>true|_=>false
noncomputable def anyF:Fl->Bool:=λ_=>true
mutual
noncomputable def jX:D->D->Bool
 |.bw,.bw=>true
 |.bl a,.bl b=>a==b
 |.bl a,.int b=>(if a then 1 else 0)==b
 |.int a,.bl b=>a==(if b then 1 else 0)
 |.int a,.int b=>a==b
 |.str a,.str b=>a==b
 |.tup a,.tup b=>dJ a b
 |.lst _ a,.lst _ b=>dJ a b
 |_,_=>false
noncomputable def dJ:ab->ab->Bool
 |[],[]=>true
 |a::as,b::bs=>jX a b&&dJ as bs
 |_,_=>false
end
noncomputable def eh:Nat->D->Bool
 |_,.bw=>true
 |_,.bl _=>true
 |_,.int _=>true
 |_,.str _=>true
 |n+1,.tup ds=>ds.all (eh n)
 |n+1,.lst _ ds=>ds.all (eh n)
 |_,_=>false
abbrev O(α:Type):=Option (Except Nat α)
abbrev aw:=ab->O D
noncomputable def ok{α:Type}(a:α):O α:=some (.ok a)
noncomputable def bd{α β:Type}(x:O α)(f:α->O β):O β:=match x with
 |some (.ok a)=>f a
 |some (.error c)=>some (.error c)
 |none=>none
@[simp]theorem NY{α:Type}{a:α}:((none:O α)=ok a)=False:=by simp[ok]
@[simp]theorem Qa{α:Type}{a b:α}:(ok a=ok b)=(a=b):=by simp[ok]
@[simp]theorem R5{α:Type}{a:α}{c:Nat}:((some (.error c):O α)=ok a)=False:=by simp[ok]
@[simp]theorem El{α:Type}{p:Prop}[Decidable p]{a b:α}:((if p then ok a else none)=ok b)=(p/\a=b):=by
 by_cases h:p<;>simp[h]
@[simp]theorem QB{α:Type}{p:Prop}[Decidable p]{a b:α}:((if p then none else ok a)=ok b)=(¬ p/\a=b):=by
 by_cases h:p<;>simp[h]
theorem nk{α:Type}{a:α}{P:Prop}(h:(none:Option α)=some a):P:=nomatch h
theorem aq{α β:Type}{x:O α}{f:α->O β}{b:β}(h:bd x f=ok b):∃a,x=ok a/\f a=ok b:=by
 unfold bd at h
 match x,h with
 |some (.ok a),h=>exact⟨a,rfl,h⟩
 |some (.error c),h=>cases h
 |none,h=>cases h
inductive DX where|add|sub|mul|fdiv|mod|pow|shl
 deriving DecidableEq
inductive xo where|eq|ne|lt|le|gt|ge|G9|CB
 deriving DecidableEq
inductive Ty where|int|bool|str|list|tuple
 deriving DecidableEq
inductive Bf where|len|abs|qS|list1|tuple1|p_|all1|fM
 deriving DecidableEq
inductive Tg where|nm(i:Nat)|tp(is:aJ)
 deriving DecidableEq
inductive IK where|ko|seq|bq(p:Nat)
 deriving DecidableEq
inductive GK where|i(z:Int)|s(z:Str)
 deriving DecidableEq
inductive CE where
 |bw|bl (b:Bool)|int (i:Int)|str (s:Str)|glo (x:Str) (i:Int)|gls (x s:Str)
 |v (i:Nat)
 |bin (op:DX) (a b:CE)
 |neg (a:CE)|not (a:CE)|and (es:List CE)|or (es:List CE)|ite (c a b:CE)
 |cmp (op:xo) (a b:CE)
 |g5 (a:CE) (t:Ty)
 |call (f:Nat) (es:List CE)
 |bf (f:Bf) (es:List CE)
 |ix (a b:CE)
 |iw (a:CE)
 |tup (es:List CE)|lst (es:List CE)
 |bq (p:Nat) (es:List CE)
 |comp (n:Nat) (t:Tg) (caps:aJ) (ik:IK) (es bz:List CE) (elt:CE)
abbrev aC:=List CE
inductive CI where|ko(a:CE)|seq(a:CE)|F7(p:Nat)(es:aC)
inductive CS where
 |asg (t:Tg) (e:CE)|par (i j:Nat) (a b:CE)|ret (e:CE)|rs (c:Nat)|ex (e:CE)
 |mut (p i:Nat) (es:aC)|app (i:Nat) (e:CE)
 |ifs (c:CE) (a b:List CS)
 |EV (c:CE) (b:List CS)
 |fr (t:Tg) (it:CI) (b:List CS)
abbrev ag:=List CS
abbrev aX:=List (aH)
abbrev aQ:=Nat->aw
noncomputable def big:Nat:=2 ^ 9000
def gb(i j:Int):Bool:=decide (i.natAbs<2 ^ 64)||decide (j.natAbs<2 ^ 64)||(decide (i.natAbs<big)&&decide (j.natAbs<big))
def nN(j:Int):Bool:=decide (j≠0)&&decide (j.natAbs<big)
noncomputable def iZ(i j:Int):Bool:=decide (0<=j)&&decide (j<=1000000)&&decide (i.natAbs<2 ^ 64)
noncomputable def fe:Nat:=1000000
theorem ka{α:Type}{c:Prop}[inst:Decidable c]{v d:α}(h:(if c then ok v else none)=ok d):c/\v=d:=by
 cases inst with
 |isTrue hc=>exact⟨hc,Except.ok.inj (Yg h)⟩
 |isFalse hc=>cases h
def ck:DX->D->D->O D
 |.add,.int i,.int j=>ok (.int (i+j))
 |.add,.lst f a,.lst g b=>if mB f=false/\mB g=false/\a.length+b.length<=fe then ok (.lst .ow (az a_ (a++b)))else none
 |.add,.tup a,.tup b=>if a.length+b.length<=fe then ok (.tup (az a_ (a++b)))else none
 |.sub,.int i,.int j=>ok (.int (i - j))
 |.mul,.int i,.int j=>if gb i j then ok (.int (i*j))else none
 |.fdiv,.int i,.int j=>if nN j then ok (.int (i.fdiv j))else none
 |.mod,.int i,.int j=>if j≠0 then ok (.int (i.fmod j))else none
 |.pow,.int i,.int j=>if iZ i j then ok (.int (i ^ j.toNat))else none
 |.shl,.int i,.int j=>if iZ i j then ok (.int (i*2 ^ j.toNat))else none
 |_,_,_=>none
def inD(x:D):ab->Bool
 |[]=>false
 |y::ys=>jX y x||inD x ys
noncomputable def lO:D->Bool
 |.bw=>true|.bl _=>true|.int _=>true|.str _=>true|_=>false
noncomputable def G1:D->Option (ab)
 |.tup ds=>some ds
 |.lst _ ds=>some ds
 |_=>none
def dM:xo->D->D->O D
 |.eq,a,b=>if eh 40 a&&eh 40 b then ok (.bl (jX a b))else none
 |.ne,a,b=>if eh 40 a&&eh 40 b then ok (.bl (!jX a b))else none
 |.lt,.int i,.int j=>ok (.bl (decide (i<j)))
 |.le,.int i,.int j=>ok (.bl (decide (i<=j)))
 |.gt,.int i,.int j=>ok (.bl (decide (j<i)))
 |.ge,.int i,.int j=>ok (.bl (decide (j<=i)))
 |.G9,a,.bw=>ok (.bl (match a with|.bw=>true|_=>false))
 |.CB,a,b=>match G1 b with
  |some ds=>if lO a&&ds.all lO then ok (.bl (inD a ds))else none
  |none=>none
 |_,_,_=>none
noncomputable def b8:Ty->D->Bool
 |.int,.int _=>true|.int,.bl _=>true
 |.bool,.bl _=>true
 |.str,.str _=>true
 |.list,.lst _ _=>true
 |.tuple,.tup _=>true
 |_,_=>false
noncomputable def sU(n:Nat)(i:Int):Option Nat:=if 0<=i then(if i<n then some i.toNat else none)else if -(n:Int)<=i then some (i+n).toNat else none
def w6(ds:ab)(i:Int):O D:=match(sU ds.length i).bind λj=>ds[j]? with
 |some d=>ok (aI a_ d)
 |none=>none
def lD:D->D->O D
 |.tup ds,.int i=>w6 ds i
 |.lst _ ds,.int i=>w6 ds i
 |_,_=>none
noncomputable def intsOf:ab->Option (aa)
 |[]=>some []
 |.int i::ds=>(intsOf ds).map (i :: ·)
 |_::_=>none
noncomputable def gf:ab->Option (List Bool)
 |[]=>some []
 |.bl i::ds=>(gf ds).map (i :: ·)
 |_::_=>none
theorem cV:∀{ds:ab} {ns:aa},intsOf ds=some ns->ds=ns.map D.int
 |[],ns,h=>by simp[intsOf]at h;subst h;rfl
 |d::ds,ns,h=>by
  cases d<;>simp[intsOf]at h;obtain⟨ms,h1,rfl⟩:=h;rw[cV h1];rfl
theorem rN:∀{ds:ab} {bs:List Bool},gf ds=some bs->ds=bs.map D.bl
 |[],bs,h=>by simp[gf]at h;subst h;rfl
 |d::ds,bs,h=>by
  cases d<;>simp[gf]at h;obtain⟨ms,h1,rfl⟩:=h;rw[rN h1];rfl
theorem bL:∀ns:aa,intsOf (ns.map D.int)=some ns
 |[]=>rfl
 |n::ns=>by simp[intsOf,bL ns]
theorem gW:∀bs:List Bool,gf (bs.map D.bl)=some bs
 |[]=>rfl
 |b::bs=>by simp[gf,gW bs]
noncomputable def sortI(ns:aa):aa:=ns.mergeSort (λa b=>decide (a<=b))
def qe(ds:ab):O D:=match intsOf ds with
 |some ns=>if ns.length<64 then ok (.lst .ow ((sortI ns).map D.int))else none
 |none=>none
def pB:Bf->aw
 |.len,xs=>match xs with
  |[.tup ds]=>ok (.int ds.length)
  |[.lst _ ds]=>ok (.int ds.length)
  |_=>none
 |.abs,xs=>match xs with
  |[.int i]=>ok (.int (if i<0 then -i else i))
  |_=>none
 |.qS,xs=>match xs with
  |[.bl b]=>ok (.int (if b then 1 else 0))
  |_=>none
 |.list1,xs=>match xs with
  |[.lst _ ds]=>ok (.lst .ow (az a_ ds))
  |[.tup ds]=>ok (.lst .ow (az a_ ds))
  |_=>none
 |.tuple1,xs=>match xs with
  |[.lst _ ds]=>ok (.tup (az a_ ds))
  |_=>none
 |.p_,xs=>match xs with
  |[.lst _ ds]=>(match intsOf ds with
   |some ns=>ok (.int ns.sum)
   |none=>none)
  |_=>none
 |.all1,xs=>match xs with
  |[.lst _ ds]=>(match gf ds with
   |some bs=>ok (.bl (bs.all id))
   |none=>none)
  |_=>none
 |.fM,xs=>match xs with
  |[.tup ds]=>qe ds
  |_=>none
noncomputable def o6(ns:aa):aa:=ns.foldl (λ(m:aa) (k:Int)=>if m.any (· == k)then m else m++[k]) []
def uy:D->O D
 |.tup ds=>(match intsOf ds with
  |some ns=>if ns.length<4000 then ok (.int (o6 ns).length)else none
  |none=>none)
 |_=>none
noncomputable def fJ:D->O Bool
 |.bl b=>ok b
 |_=>none
noncomputable def intD:D->O Int
 |.int i=>ok i
 |_=>none
noncomputable def yy:Option (aH)->Option (ab)
 |some (some (.lst .ow ds))=>some ds
 |_=>none
theorem BW{o:Option (aH)}{ds:ab}(h:yy o=some ds):o=some (some (.lst .ow ds)):=by
 unfold yy at h;split at h<;>cases h;rfl
theorem N2{d:D}{i:Int}(h:intD d=ok i):d=.int i:=by
 cases d<;>simp[intD]at h;rw[h]
noncomputable def Cc:D->O D
 |.int i=>ok (.int (-i))
 |_=>none
noncomputable def fq:aJ->ab->aX->O aX
 |[],[],ρ=>ok ρ
 |i::is,d::ds,ρ=>if i<ρ.length then fq is ds (ρ.set i (some d))else none
 |_,_,_=>none
def cg:Tg->D->aX->O aX
 |.nm i,d,ρ=>if i<ρ.length then ok (ρ.set i (some d))else none
 |.tp is,.tup ds,ρ=>if aR cp ds then none else fq is ds ρ
 |_,_,_=>none
def la:D->O (ab)
 |.lst _ ds=>ok (az aY ds)
 |_=>none
def dj(Φ:aQ):IK->ab->O (ab)
 |.bq p,xs=>bd (Φ p xs) la
 |.ko,[.int n]=>if n<=fe /\ -fe<=n then ok ((List.range n.toNat).map λ(k:Nat)=>D.int (k:Int))else none
 |.seq,[.tup ds]=>ok (az aY ds)
 |.seq,[.lst _ ds]=>ok (az aY ds)
 |_,_=>none
noncomputable def eE(bind:D->O aX)(test:aX->O Bool)(el:aX->O D):ab->O (ab)
 |[]=>ok []
 |x::xs=>bd (bind x) λρ=>bd (test ρ) λb=>if b then bd (el ρ) λy=>bd (eE bind test el xs) λys=>ok (y::ys)else eE bind test el xs
def bB(n:Nat)(caps:aJ)(ρ:aX):aX:=List.replicate n none++caps.map λi=>(ρ[i]?.getD none).map (aI aY)
def qg(o:Option (aH)):O D:=match o with
 |some (some d)=>ok (aI a_ d)
 |_=>none
theorem x5{o:Option (aH)}{d:D}(h:qg o=ok d):∃d',o=some (some d')/\d=aI a_ d':=by
 cases o with
 |none=>cases h
 |some z=>cases z with
  |none=>cases h
  |some z=>cases h;exact⟨z,rfl,rfl⟩
mutual
noncomputable def bj(Φ:aQ):CE->aX->O D
 |.bw,_=>ok .bw
 |.bl b,_=>ok (.bl b)
 |.int i,_=>ok (.int i)
 |.str s,_=>ok (.str s)
 |.glo _ i,_=>ok (.int i)
 |.gls _ s,_=>ok (.str s)
 |.v i,ρ=>qg ρ[i]?
 |.bin op a b,ρ=>bd (bj Φ a ρ) λx=>bd (bj Φ b ρ) λy=>ck op x y
 |.neg a,ρ=>bd (bj Φ a ρ) Cc
 |.not a,ρ=>bd (bd (bj Φ a ρ) fJ) λb=>ok (.bl (!b))
 |.and es,ρ=>nM Φ es ρ
 |.or es,ρ=>wK Φ es ρ
 |.ite c a b,ρ=>bd (bd (bj Φ c ρ) fJ) λk=>if k then bj Φ a ρ else bj Φ b ρ
 |.cmp op a b,ρ=>bd (bj Φ a ρ) λx=>bd (bj Φ b ρ) λy=>dM op x y
 |.g5 a t,ρ=>bd (bj Φ a ρ) λx=>ok (.bl (b8 t x))
 |.call f es,ρ=>bd (cB Φ es ρ) λxs=>bd (Φ f (az aY xs)) λr=>ok (aI fR r)
 |.bf f es,ρ=>bd (cB Φ es ρ) λxs=>pB f xs
 |.ix a b,ρ=>bd (bj Φ a ρ) λx=>bd (bj Φ b ρ) λy=>lD x y
 |.iw a,ρ=>bd (bj Φ a ρ) λx=>uy x
 |.bq p es,ρ=>bd (cB Φ es ρ) λxs=>Φ p xs
 |.tup es,ρ=>bd (cB Φ es ρ) λxs=>ok (.tup xs)
 |.lst es,ρ=>bd (cB Φ es ρ) λxs=>ok (.lst .ow xs)
 |.comp n t caps ik es bz elt,ρ=>bd (cB Φ es ρ) λxs=>bd (dj Φ ik xs) λitems =>
   bd (eE (λd=>cg t d (bB n caps ρ)) (λρ'=>fD Φ bz ρ') (λρ'=>bj Φ elt ρ') items) λds=>if ds.length<=fe then ok (.lst .ow (az fR ds))else none
noncomputable def cB(Φ:aQ):aC->aX->O (ab)
 |[],_=>ok []
 |e::es,ρ=>bd (bj Φ e ρ) λx=>bd (cB Φ es ρ) λxs=>ok (x::xs)
noncomputable def fD(Φ:aQ):aC->aX->O Bool
 |[],_=>ok true
 |e::es,ρ=>bd (bd (bj Φ e ρ) fJ) λb=>if b then fD Φ es ρ else ok false
noncomputable def nM(Φ:aQ):aC->aX->O D
 |[],_=>none
 |e::es,ρ=>bd (bd (bj Φ e ρ) fJ) λc=>match es with
  |[]=>ok (.bl c)
  |_::_=>if c then nM Φ es ρ else ok (.bl false)
noncomputable def wK(Φ:aQ):aC->aX->O D
 |[],_=>none
 |e::es,ρ=>bd (bd (bj Φ e ρ) fJ) λc=>match es with
  |[]=>ok (.bl c)
  |_::_=>if c then ok (.bl true)else wK Φ es ρ
end
def r6(Φ:aQ)(e:CE)(ρ:aX):O Bool:=bd (bj Φ e ρ) fJ
inductive Fo where|nx|rt(d:D)
noncomputable def cz{α β:Type}(n:Nat)(step:α->O (α ⊕ β))(a:α):O β:=match n with
 |0=>none
 |n+1=>bd (step a) λr=>match r with
  |.inl a'=>cz n step a'
  |.inr b=>ok b
open Classical in
noncomputable def d9{α β:Type}(step:α->O (α ⊕ β))(a:α):O β :=
 if h:∃n,cz n step a≠none then cz (Classical.choose h) step a else none
theorem gB{α β:Type}(step:α->O (α ⊕ β)):∀(n m:Nat) (a:α),n<=m->cz n step a≠none->cz m step a=cz n step a
 |0,_,_,_,h=>absurd rfl h
 |n+1,0,_,hl,_=>by left
 |n+1,m+1,a,hl,h=>by
  unfold cz at h ⊢
  match hs:step a with
  |none=>rw[hs]at h;exact absurd rfl h
  |some (.error c)=>rfl
  |some (.ok (.inr b))=>rfl
  |some (.ok (.inl a')) =>
   rw[hs]at h;exact gB step n m a' (by left) h
theorem js{α β:Type}{step:α->O (α ⊕ β)}{a:α}{n:Nat}{r:Except Nat β}(h:cz n step a=some r):d9 step a=some r:=by
 have hx:∃n,cz n step a≠none:=⟨n,by rw[h];simp⟩
 unfold d9;rw[dif_pos hx];have hc:=Classical.choose_spec hx;rcases Nat.le_total n (Classical.choose hx)with hl|hl
 ·rw[gB step _ _ a hl (by rw[h];simp),h]
 ·rw[<- gB step _ _ a hl hc,h]
theorem jD{α β:Type}{step:α->O (α ⊕ β)}{a:α}{r:Except Nat β}(h:d9 step a=some r):∃n,cz n step a=some r:=by
 unfold d9 at h;split at h
 ·exact⟨_,h⟩
 ·cases h
theorem kS{α β:Type}{step:α->O (α ⊕ β)}{a a':α}(h:step a=ok (.inl a')):d9 step a=d9 step a':=by
 match hr:d9 step a' with
 |some r =>
  obtain⟨n,hn⟩:=jD hr;refine js (n:=n+1) ?_;unfold cz;rw[h];exact hn
 |none =>
  match hq:d9 step a with
  |none=>rfl
  |some r =>
   obtain⟨n,hn⟩:=jD hq
   match n,hn with
   |n+1,hn =>
    unfold cz at hn;rw[h]at hn;rw[js (n:=n) hn]at hr;cases hr
theorem fI{α β:Type}{step:α->O (α ⊕ β)}{a:α}{b:β}(h:step a=ok (.inr b)):d9 step a=ok b :=
 js (n:=1) (by unfold cz;rw[h];rfl)
mutual
noncomputable def gc:CE->aJ
 |.v i=>[i]
 |.bin _ a b=>gc a++gc b
 |.neg a=>gc a
 |.not a=>gc a
 |.and es=>cR es
 |.or es=>cR es
 |.ite c a b=>gc c++(gc a++gc b)
 |.cmp _ a b=>gc a++gc b
 |.g5 a _=>gc a
 |.call _ es=>cR es
 |.bf _ es=>cR es
 |.ix a b=>gc a++gc b
 |.iw a=>gc a
 |.tup es=>cR es
 |.lst es=>cR es
 |.bq _ es=>cR es
 |.comp _ _ caps _ es _ _=>caps++cR es
 |_=>[]
noncomputable def cR:aC->aJ
 |[]=>[]
 |e::es=>gc e++cR es
end
def ic(is:aJ)(ρ:aX):aX:=ρ.mapIdx λi d=>if i∈is then d.map (aI aY)else d
def keep(e:CE)(d:D)(ρ:aX):D×aX:=if bc bA d then(aI aY d,ic (gc e) ρ)else(d,ρ)
def g9(Φ:aQ)(e:CE)(ρ:aX):O (D×aX):=match e with
 |.v i=>match ρ[i]? with
  |some (some d)=>if bc cp d then ok (d,ρ.set i none)else ok (d,ρ)
  |_=>none
 |_=>bd (bj Φ e ρ) λd=>ok (keep e d ρ)
def c_(Φ:aQ)(it:CI)(ρ:aX):O (ab×aX):=match it with
 |.F7 p es=>bd (cB Φ es ρ) λxs=>bd (Φ p xs) λd=>bd (la d) λitems=>ok (items,if aR bA xs then ic (cR es) ρ else ρ)
 |.ko a=>bd (bj Φ a ρ) λx=>match x with
  |.int n=>if n<=fe /\ -fe<=n then ok ((List.range n.toNat).map λ(k:Nat)=>D.int (k:Int),ρ)else none
  |_=>none
 |.seq a=>bd (bj Φ a ρ) λx=>match x with
  |.tup ds=>ok (az aY ds,if bc bA x then ic (gc a) ρ else ρ)
  |.lst f ds=>ok (az aY ds,if bc bA x then ic (gc a) ρ else ρ)
  |_=>none
def lB(es:aC)(xs:ab)(ρ:aX):ab×aX:=if aR bA xs then(az aY xs,ic (cR es) ρ)else(xs,ρ)
noncomputable def sM(Φ:aQ)(p i:Nat)(r:ab×aX):O (Fo×aX):=match r.2[i]? with
 |some (some d)=>bd (Φ p (d::r.1)) λd'=>ok (.nx,r.2.set i (some d'))
 |_=>none
noncomputable def eN(bind:D->aX->O aX)(body:aX->O (Fo×aX)):ab->aX->O (Fo×aX)
 |[],ρ=>ok (.nx,ρ)
 |d::ds,ρ=>bd (bind d ρ) λρ1=>bd (body ρ1) λr=>match r with
  | (.nx,ρ2)=>eN bind body ds ρ2
  | (.rt d,ρ2)=>ok (.rt d,ρ2)
mutual
noncomputable def rl(Φ:aQ):CS->aX->O (Fo×aX)
 |.asg t e,ρ=>bd (g9 Φ e ρ) λr=>bd (cg t r.1 r.2) λρ'=>ok (.nx,ρ')
 |.par i j a b,ρ=>bd (bj Φ a ρ) λx=>bd (bj Φ b ρ) λy=>if bc anyF x=false/\bc anyF y=false/\i<ρ.length/\j<ρ.length then ok (.nx,(ρ.set i (some x)).set j (some y))else none
 |.ret e,ρ=>bd (g9 Φ e ρ) λr=>ok (.rt r.1,r.2)
 |.rs c,_=>some (.error c)
 |.ex e,ρ=>bd (bj Φ e ρ) λ_=>ok (.nx,ρ)
 |.mut p i es,ρ=>bd (cB Φ es ρ) λxs=>sM Φ p i (lB es xs ρ)
 |.app i e,ρ=>bd (g9 Φ e ρ) λr=>match yy r.2[i]? with
  |some ds=>if ds.length<fe then ok (.nx,r.2.set i (some (.lst .ow (ds++[r.1]))))else none
  |none=>none
 |.ifs c a b,ρ=>bd (r6 Φ c ρ) λk=>if k then cj Φ a ρ else cj Φ b ρ
 |.EV c b,ρ=>d9 (λρ=>bd (r6 Φ c ρ) λk=>if k then bd (cj Φ b ρ) λr=>match r with
   | (.nx,ρ')=>ok (.inl ρ')
   | (.rt d,ρ')=>ok (.inr (.rt d,ρ'))
  else ok (.inr (.nx,ρ))) ρ
 |.fr t it b,ρ=>bd (c_ Φ it ρ) λr=>eN (λd ρ=>cg t d ρ) (λρ=>cj Φ b ρ) r.1 r.2
noncomputable def cj(Φ:aQ):ag->aX->O (Fo×aX)
 |[],ρ=>ok (.nx,ρ)
 |s::ss,ρ=>bd (rl Φ s ρ) λr=>match r with
  | (.nx,ρ')=>cj Φ ss ρ'
  |r=>ok r
end
noncomputable def ou(Φ:aQ)(n:Nat)(b:ag)(ds:ab):O D:=bd (cj Φ b (ds.map some++List.replicate (n - ds.length) none)) λr=>match r.1 with
 |.nx=>ok .bw
 |.rt d=>ok d
noncomputable def A4:aw
 |[.lst _ a,.lst _ b]=>ok (.lst .ow (List.zipWith (λx y=>.tup [x,y]) a b))
 |_=>none
end DI
end
section
namespace DI
open PySem PySem.Spec PyProof.Rows L2
abbrev aZ:=aJ
abbrev St:=L2.St
abbrev jr:=Addr->ae->Prop
inductive Nd where|l(xs:ae)|d(cs:av)(as:aW)(xs:ae)(ep:Nat)
abbrev gk:=aZ->Addr->Nd->Fl->Prop
structure eL(T:jr)(as:aW)(cs:av):Prop where
 len:as.length=cs.length
 tup:∀(j:Nat) (a:Addr) (c:aa),as[j]?=some a->cs[j]?=some c->T a (c.map V.int)
variable {T T':jr}{as ch fp:aW}
theorem eL.imp{cs:av}(h:eL T as cs)(hT:∀p xs,T p xs->T' p xs):eL T' as cs:=⟨h.len,λj a c h1 h2=>hT _ _ (h.tup j a c h1 h2)⟩
mutual
inductive Rep(T:jr)(N:gk):aZ->V->D->Prop where
 |bw {q:aZ}:Rep T N q .bw .bw
 |bl {q:aZ} (b:Bool):Rep T N q (.bl b) (.bl b)
 |int {q:aZ} (i:Int):Rep T N q (.int i) (.int i)
 |str {q:aZ} (s:Str):Rep T N q (.str s) (.str s)
 |tup {q:aZ} {p:Addr} {xs:ae} {ds:ab} (h:T p xs) (r:aA T N q 0 xs ds):Rep T N q (.ref p) (.tup ds)
 |lst {q:aZ} {p:Addr} {xs:ae} {f:Fl} {ds:ab} (h:N q p (.l xs) f) (r:aA T N q 0 xs ds):Rep T N q (.ref p) (.lst f ds)
 |cx {q:aZ} {p:Addr} {cs:av} {as:aW} {xs:ae} {ep:Nat} {f:Fl} {ds:ab} (h:N q p (.d cs as xs ep) f) (k:eL T as cs) (r:aA T N q 0 xs ds):Rep T N q (.ref p) (.cx f cs ds)
inductive aA(T:jr)(N:gk):aZ->Nat->ae->ab->Prop where
 |nil {q:aZ} {n:Nat}:aA T N q n [] []
 |cons {q:aZ} {n:Nat} {v:V} {d:D} {vs:ae} {ds:ab} (h:Rep T N (n::q) v d) (t:aA T N q (n+1) vs ds):aA T N q n (v::vs) (d::ds)
end
variable {N N':gk}{ds ds' items:ab}
theorem Rep.xu{q:aZ}{v:V}(h:Rep T N q v (.tup ds)):∃p xs,v=.ref p/\T p xs/\aA T N q 0 xs ds:=by
 cases h with
 |tup a b=>exact⟨_,_,rfl,a,b⟩
theorem Rep.kT{q:aZ}{v:V}{f:Fl}(h:Rep T N q v (.lst f ds)):∃p xs,v=.ref p/\N q p (.l xs) f/\aA T N q 0 xs ds:=by
 cases h with
 |lst a b=>exact⟨_,_,rfl,a,b⟩
mutual
theorem oX:∀d:D,bc (λ_=>false) d=false
 |.bw=>rfl
 |.bl _=>rfl
 |.int _=>rfl
 |.str _=>rfl
 |.tup ds=>fA ds
 |.lst _ ds=>fA ds
 |.cx _ _ ds=>fA ds
theorem fA:∀ds:ab,aR (λ_=>false) ds=false
 |[]=>rfl
 |d::ds=>by show(bc _ d||aR _ ds)=false;rw[oX d,fA ds];rfl
end
theorem Gi{a b:Bool}(h:(a||b)=false):a=false/\b=false:=by cases a<;>cases b<;>first|exact⟨rfl,rfl⟩|cases h
variable {k' q':aZ}{vs xs xs':ae}
section
variable {T T':jr}{N N':gk}{g:Fl->Fl}{P:Fl->Bool}{C:aZ->aZ->Prop}{I:Nat->Nat->Prop}
mutual
theorem Rep.gen(hT:∀p xs,T p xs->T' p xs)(h0:I 0 0)(hI:∀n n',I n n'->I (n+1) (n'+1))(hC:∀k k' n n',C k k'->I n n'->C (n::k) (n'::k'))(hN:∀k k' p xs f,C k k'->P f=false->N k p xs f->N' k' p xs (g f)):
  ∀{k:aZ} {v:V} {d:D},Rep T N k v d->∀{k':aZ},C k k'->bc P d=false->Rep T' N' k' v (aI g d)
 |_,_,_,.bw,_,_,_=>.bw
 |_,_,_,.bl b,_,_,_=>.bl b
 |_,_,_,.int i,_,_,_=>.int i
 |_,_,_,.str s,_,_,_=>.str s
 |_,_,_,.tup h r,_,c,e=>.tup (hT _ _ h) (aA.gen hT h0 hI hC hN r c h0 e)
 |_,_,_,.lst h r,_,c,e=>.lst (hN _ _ _ _ _ c (Gi e).1 h) (aA.gen hT h0 hI hC hN r c h0 (Gi e).2)
 |_,_,_,.cx h k r,_,c,e=>.cx (hN _ _ _ _ _ c (Gi e).1 h) (k.imp hT) (aA.gen hT h0 hI hC hN r c h0 (Gi e).2)
theorem aA.gen(hT:∀p xs,T p xs->T' p xs)(h0:I 0 0)(hI:∀n n',I n n'->I (n+1) (n'+1))(hC:∀k k' n n',C k k'->I n n'->C (n::k) (n'::k'))(hN:∀k k' p xs f,C k k'->P f=false->N k p xs f->N' k' p xs (g f)):
  ∀{k:aZ} {n:Nat} {vs:ae} {ds:ab},aA T N k n vs ds->∀{k':aZ} {n':Nat},C k k'->I n n'->aR P ds=false->aA T' N' k' n' vs (az g ds)
 |_,_,_,_,.nil,_,_,_,_,_=>.nil
 |_,_,_,_,.cons h t,_,_,c,i,e=>.cons (Rep.gen hT h0 hI hC hN h (hC _ _ _ _ c i) (Gi e).1) (aA.gen hT h0 hI hC hN t c (hI _ _ i) (Gi e).2)
end
theorem Rep.map{q:aZ}(hT:∀p xs,T p xs->T' p xs)(hN:∀c p xs f,N (c++q) p xs f->N' (c++q') p xs (g f)){k:aZ}{v:V}{d:D}(h:Rep T N k v d)(c:aZ)(e:k=c++q):Rep T' N' (c++q') v (aI g d) :=
 Rep.gen (P:=λ_=>false) (C:=λk k'=>∃c,k=c++q/\k'=c++q') (I:=λn n'=>n=n') hT rfl (λ_ _ e=>by rw[e]) (λ_ _ n _ ⟨c,e1,e2⟩ e=>⟨n::c,by rw[e1];rfl,by rw[e2,<- e];rfl⟩) (λ_ _ p xs f ⟨c,e1,e2⟩ _ h=>by subst e1;subst e2;exact hN c p xs f h) h ⟨c,e,rfl⟩ (oX d)
theorem aA.map{q:aZ}(hT:∀p xs,T p xs->T' p xs)(hN:∀c p xs f,N (c++q) p xs f->N' (c++q') p xs (g f)){k:aZ}{n:Nat}(h:aA T N k n vs ds)(c:aZ)(e:k=c++q):aA T' N' (c++q') n vs (az g ds) :=
 aA.gen (P:=λ_=>false) (C:=λk k'=>∃c,k=c++q/\k'=c++q') (I:=λn n'=>n=n') hT rfl (λ_ _ e=>by rw[e]) (λ_ _ n _ ⟨c,e1,e2⟩ e=>⟨n::c,by rw[e1];rfl,by rw[e2,<- e];rfl⟩) (λ_ _ p xs f ⟨c,e1,e2⟩ _ h=>by subst e1;subst e2;exact hN c p xs f h) h ⟨c,e,rfl⟩ rfl (fA ds)
theorem Rep.gz(hT:∀p xs,T p xs->T' p xs)(hN:∀k k' p xs f,N k p xs f->N' k' p xs (g f)){k:aZ}{v:V}{d:D}(h:Rep T N k v d)(k':aZ):Rep T' N' k' v (aI g d) :=
 Rep.gen (P:=λ_=>false) (C:=λ_ _=>True) (I:=λ_ _=>True) hT trivial (λ_ _ e=>e) (λ_ _ _ _ e _=>e) (λk k' p xs f _ _ h=>hN k k' p xs f h) h trivial (oX d)
theorem aA.gz(hT:∀p xs,T p xs->T' p xs)(hN:∀k k' p xs f,N k p xs f->N' k' p xs (g f)){k:aZ}{n:Nat}(h:aA T N k n vs ds)(k':aZ)(n':Nat):aA T' N' k' n' vs (az g ds) :=
 aA.gen (P:=λ_=>false) (C:=λ_ _=>True) (I:=λ_ _=>True) hT trivial (λ_ _ e=>e) (λ_ _ _ _ e _=>e) (λk k' p xs f _ _ h=>hN k k' p xs f h) h trivial trivial (fA ds)
end
mutual
theorem dC:∀d:D,aI id d=d
 |.bw=>rfl
 |.bl _=>rfl
 |.int _=>rfl
 |.str _=>rfl
 |.tup ds=>by rw[aI,dH ds]
 |.lst f ds=>by rw[aI,dH ds];rfl
 |.cx f ks vs=>by rw[aI,dH vs];rfl
theorem dH:∀ds:ab,az id ds=ds
 |[]=>rfl
 |d::ds=>by rw[az,dC d,dH ds]
end
section
variable {T T':jr}{N N':gk}
theorem Rep.imp{q:aZ}(hT:∀p xs,T p xs->T' p xs)(hN:∀c p xs f,N (c++q) p xs f->N' (c++q') p xs f){v:V}{d:D}(h:Rep T N q v d):Rep T' N' q' v d:=by
 have:=Rep.map (g:=id) hT hN h [] rfl;rw[dC]at this;exact this
theorem aA.imp{q:aZ}{n:Nat}(hT:∀p xs,T p xs->T' p xs)(hN:∀c p xs f,N (c++q) p xs f->N' (c++q') p xs f)(h:aA T N q n vs ds):aA T' N' q' n vs ds:=by
 have:=aA.map (g:=id) hT hN h [] rfl;rw[dH]at this;exact this
theorem aA.length:∀{k:aZ} {n:Nat} {vs:ae} {ds:ab},aA T N k n vs ds->vs.length=ds.length
 |_,_,_,_,.nil=>rfl
 |_,_,_,_,.cons _ t=>by simp[aA.length t]
theorem aA.get:∀{k:aZ} {n j:Nat} {vs:ae} {ds:ab} {d:D},aA T N k n vs ds->ds[j]?=some d->∃v,vs[j]?=some v/\Rep T N ((n+j)::k) v d
 |_,_,_,_,_,_,.nil,e=>by simp at e
 |_,_,0,_,_,_,.cons h t,e=>by simp at e;subst e;exact⟨_,rfl,h⟩
 |_,n,j+1,_,_,_,.cons h t,e=>by
  obtain⟨v,h1,h2⟩:=aA.get (j:=j) t (by simpa using e);refine⟨v,by simpa using h1,?_⟩;have:n+1+j=n+(j+1):=by left
  rw[<- this];exact h2
theorem aA.wG:∀{k:aZ} {n j:Nat} {vs:ae} {ds:ab} {v:V},aA T N k n vs ds->vs[j]?=some v->∃d,ds[j]?=some d/\Rep T N ((n+j)::k) v d
 |_,_,_,_,_,_,.nil,e=>by simp at e
 |_,_,0,_,_,_,.cons h t,e=>by simp at e;subst e;exact⟨_,rfl,h⟩
 |_,n,j+1,_,_,_,.cons h t,e=>by
  obtain⟨v,h1,h2⟩:=aA.wG (j:=j) t (by simpa using e);refine⟨v,by simpa using h1,?_⟩;have:n+1+j=n+(j+1):=by left
  rw[<- this];exact h2
theorem aA.pI{k:aZ}(hN:∀k k' p xs f,N k p xs f->N k' p xs f):∀{n m l:Nat} {vs ws:ae} {ds es:ab},aA T N k n vs ds->aA T N k m ws es->aA T N k l (vs++ws) (ds++es)
 |_,_,_,_,_,_,_,.nil,t=>by
  have:=aA.gz (T':=T) (N':=N) (g:=id) (λ_ _ h=>h) hN t;rw[dH]at this;exact this _ _
 |_,_,_,_,_,_,_,.cons h t,u=>.cons (by
  have:=Rep.gz (T':=T) (N':=N) (g:=id) (λ_ _ h=>h) hN h;rw[dC]at this;exact this _) (aA.pI hN t u)
end
def KL(K:ao)(a:Addr)(xs:ae):Prop :=
 ∃(o:Obj) (aF:aP) (n:Nat),K.lookup a=some o/\o.cls=.type "list" /\ o.dict=none/\o.data=.seq aF n/\aF.size<=sizeLine/\Vals xs aF.toList
def DO(p:Addr)(cs:av)(as:aW)(xs:ae)(ep:Nat)(h:Heap):Prop :=
 ∃(zs:List (aa×Addr×Value)) (o:Obj) (es:Array DictEntry),zs.map (·.1)=cs/\zs.map (·.2.1)=as/\Vals xs (zs.map (·.2.2))/\h.get? p=some o/\o.ExactDict/\o.data=.dict es ep /\
  es.toList=zs.map (λz=>⟨reduceHash (Builtin.Tuple.tupleHashOf (z.1.map hashInt)),.ref z.2.1,z.2.2⟩)/\cs.Nodup/\cs.length<=sizeLine/\(p==sysModules)=false
abbrev dw(H:Hp)(p:Addr)(n:Nd):Prop:=match n with
 |.l xs=>H p=some (.lst xs)
 |.d cs as xs ep=>H p=some (.ext (DO p cs as xs ep))
variable {H H' H1 H2:Hp}
theorem dw.ne{p:Addr}{n:Nd}(h:dw H p n):H p≠none:=by
 cases n with
 |l xs=>intro z;rw[show H p=some (.lst xs) from h]at z;cases z
 |d cs as xs ep=>intro z;rw[show H p=some (.ext (DO p cs as xs ep)) from h]at z;cases z
theorem dw.at{p:Addr}{n:Nd}(e:∀o,H p=some o->H' p=some o)(h:dw H p n):dw H' p n:=by
 cases n with
 |l xs=>exact e _ h
 |d cs as xs ep=>exact e _ h
theorem dw.same{p:Addr}{n:Nd}(e:aG H H')(h:dw H p n):dw H' p n:=h.at (e p)
theorem dw.some{H:Hp}{p:Addr}{n:Nd}(h:dw H p n):∃o,H p=some o/\(∀xs,o≠.tup xs)/\(∀a u,o≠.ic a u):=by
 cases n with
 |l xs=>exact⟨_,h,λ_ z=>(nomatch z),λ_ _ z=>(nomatch z)⟩
 |d cs as xs ep=>exact⟨_,h,λ_ z=>(nomatch z),λ_ _ z=>(nomatch z)⟩
def nd(K:ao)(R A:ah)(τ:Addr->Option aZ)(H:Hp):gk:=λq p n f=>match f with
 |.ow=>dw H p n/\τ p=some q
 |.fz=>dw H p n/\R p
 |.al=>dw H p n/\A p
 |.sc=>match n with
  |.l xs=>(∃o,H p=some (.ic o (.lst xs)))\/KL K p xs
  |.d _ _ _ _=>False
variable {A F G R R' R1:Addr->Prop}{K:ao}{τ τ' τt:Addr->Option aZ}
theorem nd.yc{q:aZ}{p:Addr}{n:Nd}(h:nd K R A τ H q p n .sc):∃xs,n=.l xs/\((∃o,H p=some (.ic o (.lst xs)))\/KL K p xs):=by
 cases n with
 |l xs=>exact⟨xs,rfl,h⟩
 |d _ _ _ _=>exact h.elim
theorem nd.sq{q:aZ}{p:Addr}{f:Fl}(h:nd K R A τ H q p (.l xs) f):cM K H p xs:=by
 cases f with
 |ow=>exact cM.of h.1
 |fz=>exact cM.of h.1
 |al=>exact cM.of h.1
 |sc=>exact h.elim (λh=>.inl (.inr h)) .inr
theorem nd.lst{K:ao}{R A:ah}{τ:Addr->Option aZ}{H:Hp}{q:aZ}{p:Addr}{xs:ae}{f:Fl}(h:nd K R A τ H q p (.l xs) f)(hf:mB f=false):H p=some (.lst xs):=by
 cases f with
 |ow=>exact h.1
 |fz=>exact h.1
 |al=>exact h.1
 |sc=>cases hf
variable {ep k1 k2 n1 t':Nat}
theorem nd.dat{q:aZ}{p:Addr}{cs:av}{f:Fl}(h:nd K R A τ H q p (.d cs as xs ep) f):H p=some (.ext (DO p cs as xs ep)):=by
 cases f with
 |ow=>exact h.1
 |fz=>exact h.1
 |al=>exact h.1
 |sc=>exact h.elim
theorem Rd.same{a:Addr}{u:HO}(e:aG H H')(h:Rd H a u):Rd H' a u:=h.elim (λh=>.inl (e _ _ h)) λ⟨o,h⟩=>.inr ⟨o,e _ _ h⟩
theorem aU.same{K:ao}{H H':Hp}{a:Addr}{xs:ae}(e:aG H H')(h:aU K H a xs):aU K H' a xs:=h.elim (λh=>.inl (Rd.same e h)) .inr
theorem nd.same{K:ao}{R A:ah}{τ:Addr->Option aZ}{H H':Hp}{q:aZ}{p:Addr}{n:Nd}{f:Fl}(e:aG H H')(h:nd K R A τ H q p n f):nd K R A τ H' q p n f:=by
 cases f with
 |ow=>exact⟨h.1.same e,h.2⟩
 |fz=>exact⟨h.1.same e,h.2⟩
 |al=>exact⟨h.1.same e,h.2⟩
 |sc=>cases n with
  |l xs=>exact h.elim (λ⟨o,h⟩=>.inl ⟨o,e _ _ h⟩) .inr
  |d _ _ _ _=>exact h.elim
theorem Rd.there{a:Addr}{u:HO}(h:Rd H a u):H a≠none:=by
 rcases h with h|⟨o,h⟩<;>(rw[h];simp)
theorem aG.ne(e:aG H H'){a:Addr}(h:H a≠none):H' a≠none:=by
 cases q:H a with
 |none=>exact absurd q h
 |some o=>rw[e a o q];simp
structure SI(X:Cx)(F R:ah)(τ:Addr->Option aZ)(ρ:aX)(σ:St)(H:Hp):Prop where
 len:ρ.length=σ.length
 rep:∀(i:Nat) (d:D),ρ[i]?=some (some d)->∃v,σ[i]?=some (some v)/\Rep (aU X.K H) (nd X.K R (λ_=>False) τ H) [i] v d
 rt:∀p,R p->τ p=none
 rh:∀p,R p->H p≠none
 rf:∀p,R p->F p\/X.H₀ p=none
 th:∀p q,τ p=some q->H p≠none
 t0:∀p q,τ p=some q->X.H₀ p=none
 same:aG X.H₀ H
variable {X:Cx}{ρ:aX}{σ:L2.St}
theorem SI.go(S:SI X F R τ ρ σ H)(e:aG H H'):SI X F R τ ρ σ H' :=
 ⟨S.len,λi d h=>let ⟨v,h1,h2⟩:=S.rep i d h;⟨v,h1,h2.imp (λ_ _ h=>aU.same e h) λ_ _ _ _ h=>nd.same e h⟩,S.rt,λp h=>aG.ne e (S.rh p h),S.rf,λp q h=>aG.ne e (S.th p q h),S.t0,S.same.trans e⟩
def iQ(G:ah)(τ:Addr->Option aZ)(fv:aJ)(p:Addr):Prop:=G p/\∀c i,τ p=some (c++[i])->i∈fv
variable {caps fv fv':aJ}
theorem iQ.mono{p:Addr}(h:iQ G τ fv p)(hs:∀i∈fv,i∈fv'):iQ G τ fv' p:=⟨h.1,λc i e=>hs i (h.2 c i e)⟩
def gP(X:Cx)(F:ah)(p:Addr):Prop:=F p\/X.H₀ p=none
def bC(K:ao)(G R:ah)(τ:Addr->Option aZ)(fv:aJ)(H H':Hp)(v:V)(d:D):Prop :=
 ∃τt:Addr->Option aZ,(∀p q,τt p=some q->H p=none)/\Rep (aU K H') (nd K R (iQ G τ fv) τt H') [] v d
def bX(K:ao)(G R:ah)(τ:Addr->Option aZ)(fv:aJ)(H H':Hp)(vs:ae)(ds:ab):Prop :=
 ∃τt:Addr->Option aZ,(∀p q,τt p=some q->H p=none)/\aA (aU K H') (nd K R (iQ G τ fv) τt H') [] 0 vs ds
section
variable {K:ao}{G R:ah}{τ:Addr->Option aZ}{fv fv':aJ}{H H1 H2:Hp}{v:V}{d:D}{vs:ae}{ds:ab}
theorem bC.go(h:bC K G R τ fv H H1 v d)(e:aG H1 H2):bC K G R τ fv H H2 v d :=
 let ⟨τt,h1,h2⟩:=h;⟨τt,h1,h2.imp (λ_ _ h=>aU.same e h) λ_ _ _ _ h=>nd.same e h⟩
theorem nd.mono{A':Addr->Prop}{τ:Addr->Option aZ}{q:aZ}{p:Addr}{xs:Nd}{f:Fl}(h:nd K R A τ H q p xs f)(hR:R p->R' p)(hA:A p->A' p)(ht:τ p=some q->τ' p=some q'):nd K R' A' τ' H q' p xs f:=by
 cases f with
 |ow=>exact⟨h.1,ht h.2⟩
 |fz=>exact⟨h.1,hR h.2⟩
 |al=>exact⟨h.1,hA h.2⟩
 |sc=>exact h
theorem bC.mono(h:bC K G R τ fv H H1 v d)(hs:∀i∈fv,i∈fv'):bC K G R τ fv' H H1 v d :=
 let ⟨τt,h1,h2⟩:=h;⟨τt,h1,h2.imp (λ_ _ h=>h) λ_ _ _ _ h=>h.mono id (λh=>h.mono hs) id⟩
theorem bX.mono(h:bX K G R τ fv H H1 vs ds)(hs:∀i∈fv,i∈fv'):bX K G R τ fv' H H1 vs ds :=
 let ⟨τt,h1,h2⟩:=h;⟨τt,h1,h2.imp (λ_ _ h=>h) λ_ _ _ _ h=>h.mono id (λh=>h.mono hs) id⟩
theorem bC.old{H0:Hp}(h:bC K G R τ fv H H1 v d)(e:aG H0 H):bC K G R τ fv H0 H1 v d :=
 let ⟨τt,h1,h2⟩:=h;⟨τt,λp q z=>e.free (h1 p q z),h2⟩
theorem bC.int{i:Int}:bC K G R τ fv H H1 (.int i) (.int i):=⟨λ_=>none,λ_ _ h=>by simp at h,.int i⟩
theorem bC.bl{b:Bool}:bC K G R τ fv H H1 (.bl b) (.bl b):=⟨λ_=>none,λ_ _ h=>by simp at h,.bl b⟩
theorem bC.str{s:Str}:bC K G R τ fv H H1 (.str s) (.str s):=⟨λ_=>none,λ_ _ h=>by simp at h,.str s⟩
theorem bC.bw:bC K G R τ fv H H1 .bw .bw:=⟨λ_=>none,λ_ _ h=>by simp at h,.bw⟩
theorem bC.isInt{i:Int}(h:bC K G R τ fv H H1 v (.int i)):v=.int i:=by obtain⟨_,_,h⟩:=h;cases h;rfl
theorem bC.we{i:Bool}(h:bC K G R τ fv H H1 v (.bl i)):v=.bl i:=by obtain⟨_,_,h⟩:=h;cases h;rfl
theorem bC.isStr{i:Str}(h:bC K G R τ fv H H1 v (.str i)):v=.str i:=by obtain⟨_,_,h⟩:=h;cases h;rfl
noncomputable def om:aZ->aZ
 |[]=>[]
 |[n]=>[n+1]
 |a::b::r=>a::om (b::r)
theorem qh(c:aZ)(n:Nat):om (c++[n])=c++[n+1]:=by
 induction c with
 |nil=>rfl
 |cons a c ih =>
  cases c with
  |nil=>rfl
  |cons b c=>show a::om (b::c++[n])=_;rw[ih];rfl
theorem aA.shift{T:jr}{N N':gk}(hN:∀c n p xs f,N (c++[n]) p xs f->N' (c++[n+1]) p xs f):∀{n:Nat} {vs:ae} {ds:ab},aA T N [] n vs ds->aA T N' [] (n+1) vs ds
 |_,_,_,.nil=>.nil
 |n,_,_,.cons h t=>.cons (h.imp (q:=[n]) (q':=[n+1]) (λ_ _ h=>h) λc p xs f h=>hN c n p xs f h) (aA.shift hN t)
theorem bX.nil:bX K G R τ fv H H1 [] []:=⟨λ_=>none,λ_ _ h=>by simp at h,.nil⟩
open Classical in
theorem bX.cons(e1:aG H H1)(e2:aG H1 H2)(h:bC K G R τ fv H H1 v d)(t:bX K G R τ fv H1 H2 vs ds):bX K G R τ fv H H2 (v::vs) (d::ds):=by
 obtain⟨τ1,f1,h1⟩:=h;obtain⟨τ2,f2,h2⟩:=t;refine⟨λp=>if H1 p=none then(τ2 p).map om else(τ1 p).map (· ++ [0]),λp q hq=>?_,.cons (h1.imp (q':=[0]) (λ_ _ h=>aU.same e2 h) λc p xs f h=>?_) (aA.shift (λc n p xs f h=>?_) h2)⟩
 ·by_cases hp:H1 p=none
  ·exact e1.free hp
  ·simp only[hp,if_false]at hq;cases q1:τ1 p with
   |none=>rw[q1]at hq;simp at hq
   |some k=>exact f1 p k q1
 ·have h':nd K R (iQ G τ fv) τ1 H2 (c++[]) p xs f:=nd.same e2 h;cases f with
  |ow =>
   have hp:H1 p≠none:=h.1.ne;refine⟨h'.1,?_⟩;simp only[hp,if_false];rw[h.2];simp
  |fz=>exact h'
  |al=>exact h'
  |sc=>exact h'
 ·cases f with
  |ow =>
   have hp:H1 p=none:=f2 p _ h.2;refine⟨h.1,?_⟩;simp only[hp,if_true];rw[h.2];simp[qh]
  |fz=>exact h
  |al=>exact h
  |sc=>exact h
end
def tD(X:Cx)(F:ah)(Φ:aQ)(c:CE):TE:=λσ H Q=>∃R τ ρ d,SI X F R τ ρ σ H/\bj Φ c ρ=ok d/\∀v H',aG H H'->bC X.K (gP X F) R τ (gc c) H H' v d->Q v H'
def oh(X:Cx)(F:ah)(Φ:aQ)(cs:aC):TA:=λσ H Q=>∃R τ ρ ds,SI X F R τ ρ σ H/\cB Φ cs ρ=ok ds/\∀vs H',aG H H'->bX X.K (gP X F) R τ (cR cs) H H' vs ds->Q vs H'
def dN(X:Cx)(F:ah)(Φ:aQ)(c:CE):TT:=λσ H Q=>∃R τ ρ b,SI X F R τ ρ σ H/\r6 Φ c ρ=ok b/\∀H',aG H H'->Q b H'
theorem PE.imp{e:Expr}{t t':TE}(h:PE X e t)(hi:∀σ H Q,t' σ H Q->t σ H Q):PE X e t':=λpins s σ H Q I hw=>h pins s σ H Q I (hi σ H Q hw)
theorem PT.imp{e:Expr}{t t':TT}(h:PT X e t)(hi:∀σ H Q,t' σ H Q->t σ H Q):PT X e t':=λpins s σ H Q I hw=>h pins s σ H Q I (hi σ H Q hw)
theorem PW.imp{e:Expr}{t t':TT}(h:PW X e t)(hi:∀σ H Q,t' σ H Q->t σ H Q):PW X e t':=λwh pins s σ H Q I hw=>h wh pins s σ H Q I (hi σ H Q hw)
theorem PA.imp{es:ai}{t t':TA}(h:PA X es t)(hi:∀σ H Q,t' σ H Q->t σ H Q):PA X es t':=λpos pins s σ H Q I hw=>h pos pins s σ H Q I (hi σ H Q hw)
variable {st:Stmt}
theorem PS.imp{t t':TS}(h:PS X st t)(hi:∀D σ H,t' D σ H->t D σ H):PS X st t':=λpins s σ H D I hw=>h pins s σ H D I (hi D σ H hw)
theorem kO.imp{st:aO}{t t':TS}(h:kO X st t)(hi:∀D σ H,t' D σ H->t D σ H):kO X st t':=λpins s σ H D I hw=>h pins s σ H D I (hi D σ H hw)
theorem lS:∀(as bs:ab),dJ as bs=true ↔ as.length=bs.length/\∀(j:Nat) (a b:D),as[j]?=some a->bs[j]?=some b->jX a b=true
 |[],[]=>by simp[dJ]
 |[],b::bs=>by simp[dJ]
 |a::as,[]=>by simp[dJ]
 |a::as,b::bs=>by
  rw[dJ,Bool.and_eq_true,lS as bs];constructor
  ·rintro ⟨h1,h2,h3⟩;refine⟨by simp[h2],λj x y hx hy=>?_⟩;cases j with
   |zero=>simp at hx hy;subst hx hy;exact h1
   |succ j=>exact h3 j x y (by simpa using hx) (by simpa using hy)
  ·rintro ⟨h2,h3⟩;exact⟨h3 0 a b rfl rfl,by simpa using h2,λj x y hx hy=>h3 (j+1) x y (by simpa using hx) (by simpa using hy)⟩
def MN(as bs:ab)(j:Nat):Bool:=match as[j]?,bs[j]? with
 |some a,some b=>jX a b
 |_,_=>false
theorem iB(as bs:ab):((List.range (min as.length bs.length)).all (MN as bs)&&as.length==bs.length)=dJ as bs:=by
 rw[Bool.eq_iff_iff,lS,Bool.and_eq_true,List.all_eq_true,beq_iff_eq];constructor
 ·rintro ⟨h1,h2⟩;refine⟨h2,λj a b ha hb=>?_⟩;have hj:j<as.length:=by
   by_cases h:j<as.length
   ·exact h
   ·rw[List.getElem?_eq_none (by left)]at ha;cases ha
  have:=h1 j (by rw[List.mem_range];left);unfold MN at this;rw[ha,hb]at this;exact this
 ·rintro ⟨h2,h1⟩;refine⟨λj hj=>?_,h2⟩;rw[List.mem_range]at hj;unfold MN;have ha:as[j]?=some as[j]:=Yh (by left);have hb:bs[j]?=some bs[j]:=Yh (by left);rw[ha,hb];exact h1 j _ _ ha hb
section
variable {X:Cx}{pins:aj}{σ:St}{H:Hp}{s:Shared}{N N':gk}
theorem dA{n:Nat}(h:eh n (.tup ds)=true):∃m,n=m+1/\∀d∈ds,eh m d=true:=by
 cases n with
 |zero=>cases h
 |succ m=>exact⟨m,rfl,List.all_eq_true.mp h⟩
theorem dB{n:Nat}{f:Fl}(h:eh n (.lst f ds)=true):∃m,n=m+1/\∀d∈ds,eh m d=true:=by
 cases n with
 |zero=>cases h
 |succ m=>exact⟨m,rfl,List.all_eq_true.mp h⟩
theorem uB(I:Inv X pins σ H s){p:Addr}{ys:ae}(h:cM X.K H p xs)(h':aU X.K H p ys):False:=by
 obtain⟨aF,_,pl,_⟩:=I.list h;obtain⟨its',_,pt,_⟩:=I.tuple h';exact SeqAt.ne_of_list_tuple pl.isList pt rfl
theorem x9(I:Inv X pins σ H s)(hN:∀q p xs f,N q p (.l xs) f->cM X.K H p xs)(zJ:∀q p xs f,N' q p (.l xs) f->cM X.K H p xs):
  ∀(n:Nat) {k k':aZ} {v:V} {d d':D},Rep (aU X.K H) N k v d->Rep (aU X.K H) N' k' v d'->eh n d=true->eh n d'=true->jX d d'=true:=by
 intro n;induction n with
 |zero =>
  intro k k' v d d' h h' ho eM;cases h with
  |bw=>cases h';rfl
  |bl b=>cases h';exact YS b
  |int i=>cases h';exact YS i
  |str t=>cases h';exact YS t
  |tup _ _=>obtain⟨m,hm,_⟩:=dA ho;left
  |lst _ _=>obtain⟨m,hm,_⟩:=dB ho;left
  |cx _ _=>cases ho
 |succ n ih =>
  have sub:∀{q q':aZ} {xs:ae} {ds ds':ab},aA (aU X.K H) N q 0 xs ds->aA (aU X.K H) N' q' 0 xs ds'->(∀d∈ds,eh n d=true)->(∀d∈ds',eh n d=true)->dJ ds ds'=true:=by
   intro q q' xs ds ds' r r' ho eM;rw[lS];refine⟨by rw[<- r.length,<- r'.length],λj a b ha hb=>?_⟩;obtain⟨v1,h1,r1⟩:=r.get ha;obtain⟨v2,h2,r2⟩:=r'.get hb;rw[h1]at h2;cases h2;exact ih r1 r2 (ho a (Yk ha)) (eM b (Yk hb))
  intro k k' v d d' h h' ho eM;cases h with
  |bw=>cases h';rfl
  |bl b=>cases h';exact YS b
  |int i=>cases h';exact YS i
  |str t=>cases h';exact YS t
  |tup h r =>
   obtain⟨m,hm,ho⟩:=dA ho;obtain rfl:n=m:=by left
   cases h' with
   |tup h' r' =>
    obtain⟨m,hm,eM⟩:=dA eM;obtain rfl:n=m:=by left
    obtain rfl:=I.mT h h';exact sub r r' ho eM
   |lst h' r'=>exact(uB I (zJ _ _ _ _ h') h).elim
   |cx _ _=>cases eM
  |lst h r =>
   obtain⟨m,hm,ho⟩:=dB ho;obtain rfl:n=m:=by left
   cases h' with
   |tup h' r'=>exact(uB I (hN _ _ _ _ h) h').elim
   |lst h' r' =>
    obtain⟨m,hm,eM⟩:=dB eM;obtain rfl:n=m:=by left
    obtain rfl:=I.i4 (hN _ _ _ _ h) (zJ _ _ _ _ h');exact sub r r' ho eM
   |cx _ _=>cases eM
  |cx _ _=>cases ho
structure Alike(A:aD)(s:Shared)(u u':Value)(b:Bool):Prop where
 eq:SeqAt.EqAt A s u u' b
 rc:SeqAt.RcAt A s u u' b
 ne:SeqAt.RcNeAt A s u u' (!b)
theorem alike(I:Inv X pins σ H s)(hN:∀q p xs f,N q p (.l xs) f->cM X.K H p xs)(zJ:∀q p xs f,N' q p (.l xs) f->cM X.K H p xs):
  ∀(n:Nat) (A:aD) {k k':aZ} {v v':V} {u u':Value} {d d':D},Rep (aU X.K H) N k v d->Rep (aU X.K H) N' k' v' d'->eh n d=true->eh n d'=true->RelV v u->RelV v' u'->A.units+n<cLine ->
   Alike A s u u' (jX d d'):=by
 intro n;induction n with
 |zero =>
  intro A k k' v v' u u' d d' h h' ho eM r r' hu;cases h with
  |tup _ _=>obtain⟨m,hm,_⟩:=dA ho;left
  |lst _ _=>obtain⟨m,hm,_⟩:=dB ho;left
  |cx _ _=>cases ho
  |bw =>
   cases r;cases h' with
   |tup _ _=>obtain⟨m,hm,_⟩:=dA eM;left
   |lst _ _=>obtain⟨m,hm,_⟩:=dB eM;left
   |cx _ _=>cases eM
   |bw=>cases r';exact⟨Y1 _,SeqAt.RcAt.none_none,SeqAt.RcNeAt.none_none⟩
   |bl b=>cases r';exact⟨Zz b,SeqAt.RcAt.none_bool b,SeqAt.RcNeAt.none_bool b⟩
   |int b=>obtain⟨t,rfl⟩:=r';exact⟨ZG b t,SeqAt.RcAt.none_int b t,SeqAt.RcNeAt.none_int b t⟩
   |str b=>obtain⟨t,rfl⟩:=r';exact⟨ZH b t,SeqAt.RcAt.none_str b t,SeqAt.RcNeAt.none_str b t⟩
  |bl a =>
   cases r;cases h' with
   |tup _ _=>obtain⟨m,hm,_⟩:=dA eM;left
   |lst _ _=>obtain⟨m,hm,_⟩:=dB eM;left
   |cx _ _=>cases eM
   |bw=>cases r';exact⟨ZA a,SeqAt.RcAt.bool_none a,SeqAt.RcNeAt.bool_none a⟩
   |bl b=>cases r';exact⟨ZC a b,SeqAt.RcAt.bool_bool a b,SeqAt.RcNeAt.bool_bool a b⟩
   |int b=>obtain⟨t,rfl⟩:=r';exact⟨ZI a b t,SeqAt.RcAt.bool_int a b t,SeqAt.RcNeAt.bool_int a b t⟩
   |str b=>obtain⟨t,rfl⟩:=r';exact⟨ZJ a b t,SeqAt.RcAt.bool_str a b t,SeqAt.RcNeAt.bool_str a b t⟩
  |int a =>
   obtain⟨t',rfl⟩:=r;cases h' with
   |tup _ _=>obtain⟨m,hm,_⟩:=dA eM;left
   |lst _ _=>obtain⟨m,hm,_⟩:=dB eM;left
   |cx _ _=>cases eM
   |bw=>cases r';exact⟨ZK a t',SeqAt.RcAt.int_none a t',SeqAt.RcNeAt.int_none a t'⟩
   |bl b=>cases r';exact⟨ZL a t' b,SeqAt.RcAt.int_bool a t' b,SeqAt.RcNeAt.int_bool a t' b⟩
   |int b=>obtain⟨t,rfl⟩:=r';exact⟨Zf a t' b t,SeqAt.RcAt.int_int a t' b t,SeqAt.RcNeAt.int_int a t' b t⟩
   |str b=>obtain⟨t,rfl⟩:=r';exact⟨Zd a t' b t,SeqAt.RcAt.int_str a t' b t,SeqAt.RcNeAt.int_str a t' b t⟩
  |str a =>
   obtain⟨t',rfl⟩:=r;cases h' with
   |tup _ _=>obtain⟨m,hm,_⟩:=dA eM;left
   |lst _ _=>obtain⟨m,hm,_⟩:=dB eM;left
   |cx _ _=>cases eM
   |bw=>cases r';exact⟨ZM a t',SeqAt.RcAt.str_none a t',SeqAt.RcNeAt.str_none a t'⟩
   |bl b=>cases r';exact⟨ZN a t' b,SeqAt.RcAt.str_bool a t' b,SeqAt.RcNeAt.str_bool a t' b⟩
   |int b=>obtain⟨t,rfl⟩:=r';exact⟨Ze a t' b t,SeqAt.RcAt.str_int a t' b t,SeqAt.RcNeAt.str_int a t' b t⟩
   |str b=>obtain⟨t,rfl⟩:=r';exact⟨ZU a t' b t,SeqAt.RcAt.str_str a t' b t,SeqAt.RcNeAt.str_str a t' b t⟩
 |succ n ih =>
  intro A k k' v v' u u' d d' h h' ho eM r r' hu;have cY:A.units<cLine:=by left
  have QJ:A.in1.units+n<cLine:=by show A.units+1+n<cLine;left
  have sub:∀{q q':aZ} {xs xs':ae} {ds ds':ab} {aF its':ak},aA (aU X.K H) N q 0 xs ds->aA (aU X.K H) N' q' 0 xs' ds'->(∀d∈ds,eh n d=true)->(∀d∈ds',eh n d=true)->Vals xs aF->Vals xs' its' ->
    ∀(j:Nat) (h1:j<aF.toArray.size) (h2:j<its'.toArray.size),SeqAt.EqAt A.in1 s aF.toArray[j] its'.toArray[j] (MN ds ds' j):=by
   intro q q' xs xs' ds ds' aF its' rs iX hd Hl rv xb j h1 h2;have l1:ds.length=aF.length:=by rw[<- rs.length,rv.length]
   have l2:ds'.length=its'.length:=by rw[<- iX.length,xb.length]
   simp only[List.size_toArray]at h1 h2;have ea:ds[j]?=some ds[j]:=Yh (by left);have eb:ds'[j]?=some ds'[j]:=Yh (by left);obtain⟨w1,g1,p1⟩:=rs.get ea;obtain⟨w2,g2,p2⟩:=iX.get eb;obtain⟨u1,k1,z1⟩:=rv.get g1;obtain⟨u2,k2,z2⟩:=xb.get g2;have:=(ih A.in1 p1 p2 (hd _ (Z4 _)) (Hl _ (Z4 _)) z1 z2 QJ).eq;unfold MN;rw[ea,eb];rw[List.getElem?_eq_getElem h1]at k1;rw[List.getElem?_eq_getElem h2]at k2;cases k1;cases k2;simpa using this
  cases h with
  |bw =>
   cases r;cases h' with
   |cx _ _=>cases eM
   |bw=>cases r';exact⟨Y1 _,SeqAt.RcAt.none_none,SeqAt.RcNeAt.none_none⟩
   |bl b=>cases r';exact⟨Zz b,SeqAt.RcAt.none_bool b,SeqAt.RcNeAt.none_bool b⟩
   |int b=>obtain⟨t,rfl⟩:=r';exact⟨ZG b t,SeqAt.RcAt.none_int b t,SeqAt.RcNeAt.none_int b t⟩
   |str b=>obtain⟨t,rfl⟩:=r';exact⟨ZH b t,SeqAt.RcAt.none_str b t,SeqAt.RcNeAt.none_str b t⟩
   |tup h' rr=>cases r';obtain⟨aF,_,pt,_⟩:=I.tuple h';exact⟨SeqAt.EqAt.none_tuple pt cY,SeqAt.RcAt.none_tuple pt cY,SeqAt.RcNeAt.none_tuple pt cY⟩
   |lst h' rr=>cases r';obtain⟨aF,_,pt,_⟩:=I.list (zJ _ _ _ _ h');exact⟨SeqAt.EqAt.none_list pt.isList cY,SeqAt.RcAt.none_list pt.isList cY,SeqAt.RcNeAt.none_list pt.isList cY⟩
  |bl a =>
   cases r;cases h' with
   |cx _ _=>cases eM
   |bw=>cases r';exact⟨ZA a,SeqAt.RcAt.bool_none a,SeqAt.RcNeAt.bool_none a⟩
   |bl b=>cases r';exact⟨ZC a b,SeqAt.RcAt.bool_bool a b,SeqAt.RcNeAt.bool_bool a b⟩
   |int b=>obtain⟨t,rfl⟩:=r';exact⟨ZI a b t,SeqAt.RcAt.bool_int a b t,SeqAt.RcNeAt.bool_int a b t⟩
   |str b=>obtain⟨t,rfl⟩:=r';exact⟨ZJ a b t,SeqAt.RcAt.bool_str a b t,SeqAt.RcNeAt.bool_str a b t⟩
   |tup h' rr=>cases r';obtain⟨aF,_,pt,_⟩:=I.tuple h';exact⟨SeqAt.EqAt.bool_tuple a pt cY,SeqAt.RcAt.bool_tuple a pt cY,SeqAt.RcNeAt.bool_tuple a pt cY⟩
   |lst h' rr=>cases r';obtain⟨aF,_,pt,_⟩:=I.list (zJ _ _ _ _ h');exact⟨SeqAt.EqAt.bool_list a pt.isList cY,SeqAt.RcAt.bool_list a pt.isList cY,SeqAt.RcNeAt.bool_list a pt.isList cY⟩
  |int a =>
   obtain⟨t',rfl⟩:=r;cases h' with
   |cx _ _=>cases eM
   |bw=>cases r';exact⟨ZK a t',SeqAt.RcAt.int_none a t',SeqAt.RcNeAt.int_none a t'⟩
   |bl b=>cases r';exact⟨ZL a t' b,SeqAt.RcAt.int_bool a t' b,SeqAt.RcNeAt.int_bool a t' b⟩
   |int b=>obtain⟨t,rfl⟩:=r';exact⟨Zf a t' b t,SeqAt.RcAt.int_int a t' b t,SeqAt.RcNeAt.int_int a t' b t⟩
   |str b=>obtain⟨t,rfl⟩:=r';exact⟨Zd a t' b t,SeqAt.RcAt.int_str a t' b t,SeqAt.RcNeAt.int_str a t' b t⟩
   |tup h' rr=>cases r';obtain⟨aF,_,pt,_⟩:=I.tuple h';exact⟨SeqAt.EqAt.int_tuple a t' pt cY,SeqAt.RcAt.int_tuple a t' pt cY,SeqAt.RcNeAt.int_tuple a t' pt cY⟩
   |lst h' rr=>cases r';obtain⟨aF,_,pt,_⟩:=I.list (zJ _ _ _ _ h');exact⟨SeqAt.EqAt.int_list a t' pt.isList cY,SeqAt.RcAt.int_list a t' pt.isList cY,SeqAt.RcNeAt.int_list a t' pt.isList cY⟩
  |str a =>
   obtain⟨t',rfl⟩:=r;cases h' with
   |cx _ _=>cases eM
   |bw=>cases r';exact⟨ZM a t',SeqAt.RcAt.str_none a t',SeqAt.RcNeAt.str_none a t'⟩
   |bl b=>cases r';exact⟨ZN a t' b,SeqAt.RcAt.str_bool a t' b,SeqAt.RcNeAt.str_bool a t' b⟩
   |int b=>obtain⟨t,rfl⟩:=r';exact⟨Ze a t' b t,SeqAt.RcAt.str_int a t' b t,SeqAt.RcNeAt.str_int a t' b t⟩
   |str b=>obtain⟨t,rfl⟩:=r';exact⟨ZU a t' b t,SeqAt.RcAt.str_str a t' b t,SeqAt.RcNeAt.str_str a t' b t⟩
   |tup h' rr=>cases r';obtain⟨aF,_,pt,_⟩:=I.tuple h';exact⟨SeqAt.EqAt.str_tuple a t' pt cY,SeqAt.RcAt.str_tuple a t' pt cY,SeqAt.RcNeAt.str_tuple a t' pt cY⟩
   |lst h' rr=>cases r';obtain⟨aF,_,pt,_⟩:=I.list (zJ _ _ _ _ h');exact⟨SeqAt.EqAt.str_list a t' pt.isList cY,SeqAt.RcAt.str_list a t' pt.isList cY,SeqAt.RcNeAt.str_list a t' pt.isList cY⟩
  | @tup _ p xs ds h rs =>
   cases r;obtain⟨aF,rv,pt,_⟩:=I.tuple h;have pt:s.heap.IsTuple p aF.toArray:=pt;cases h' with
   |cx _ _=>cases eM
   |bw=>cases r';exact⟨SeqAt.EqAt.tuple_none pt cY,SeqAt.RcAt.tuple_none pt cY,SeqAt.RcNeAt.tuple_none pt cY⟩
   |bl b=>cases r';exact⟨SeqAt.EqAt.tuple_bool b pt cY,SeqAt.RcAt.tuple_bool b pt cY,SeqAt.RcNeAt.tuple_bool b pt cY⟩
   |int b=>obtain⟨t,rfl⟩:=r';exact⟨SeqAt.EqAt.tuple_int b t pt cY,SeqAt.RcAt.tuple_int b t pt cY,SeqAt.RcNeAt.tuple_int b t pt cY⟩
   |str b=>obtain⟨t,rfl⟩:=r';exact⟨SeqAt.EqAt.tuple_str b t pt cY,SeqAt.RcAt.tuple_str b t pt cY,SeqAt.RcNeAt.tuple_str b t pt cY⟩
   |lst h' rr=>cases r';obtain⟨its',_,pl,_⟩:=I.list (zJ _ _ _ _ h');exact⟨SeqAt.EqAt.tuple_list pt pl.isList cY,SeqAt.RcAt.tuple_list pt pl.isList cY,SeqAt.RcNeAt.tuple_list pt pl.isList cY⟩
   | @tup _ p' xs' ds' h' iX =>
    cases r';obtain⟨m,hm,Jm⟩:=dA ho;obtain rfl:n=m:=by left
    obtain⟨m,hm,oT⟩:=dA eM;obtain rfl:n=m:=by left
    obtain⟨its',xb,NN,_⟩:=I.tuple h';have NN:s.heap.IsTuple p' its'.toArray:=NN;have key:=sub rs iX Jm oT rv xb;have l1:ds.length=aF.toArray.size:=by rw[List.size_toArray,<- rs.length,rv.length]
    have l2:ds'.length=its'.toArray.size:=by rw[List.size_toArray,<- iX.length,xb.length]
    have rc:SeqAt.RcAt A s (.ref p) (.ref p') (jX (.tup ds) (.tup ds')):=by
     have:=SeqAt.RcAt.tuples pt NN cY key;rw[<- l1,<- l2,iB]at this;exact this
    refine⟨?_,rc,?_⟩
    ·by_cases hp:p=p'
     ·subst hp;rw[x9 I hN zJ (n+1) (Rep.tup h rs) (Rep.tup h' iX) ho eM];exact Y1 _
     ·exact SeqAt.EqAt.of_refs hp rc
    ·have:=SeqAt.RcNeAt.tuples pt NN cY key;rw[<- l1,<- l2,iB]at this;exact this
  | @lst _ p xs f ds h rs =>
   cases r;obtain⟨aF,rv,pl,_⟩:=I.list (hN _ _ _ _ h);have pl:=pl.isList;cases h' with
   |cx _ _=>cases eM
   |bw=>cases r';exact⟨SeqAt.EqAt.list_none pl cY,SeqAt.RcAt.list_none pl cY,SeqAt.RcNeAt.list_none pl cY⟩
   |bl b=>cases r';exact⟨SeqAt.EqAt.list_bool b pl cY,SeqAt.RcAt.list_bool b pl cY,SeqAt.RcNeAt.list_bool b pl cY⟩
   |int b=>obtain⟨t,rfl⟩:=r';exact⟨SeqAt.EqAt.list_int b t pl cY,SeqAt.RcAt.list_int b t pl cY,SeqAt.RcNeAt.list_int b t pl cY⟩
   |str b=>obtain⟨t,rfl⟩:=r';exact⟨SeqAt.EqAt.list_str b t pl cY,SeqAt.RcAt.list_str b t pl cY,SeqAt.RcNeAt.list_str b t pl cY⟩
   |tup h' rr=>cases r';obtain⟨its',_,pt,_⟩:=I.tuple h';exact⟨SeqAt.EqAt.list_tuple pl pt cY,SeqAt.RcAt.list_tuple pl pt cY,SeqAt.RcNeAt.list_tuple pl pt cY⟩
   | @lst _ p' xs' f' ds' h' iX =>
    cases r';obtain⟨m,hm,Jm⟩:=dB ho;obtain rfl:n=m:=by left
    obtain⟨m,hm,oT⟩:=dB eM;obtain rfl:n=m:=by left
    obtain⟨its',xb,Ea,_⟩:=I.list (zJ _ _ _ _ h');have Ea:=Ea.isList;have key:=sub rs iX Jm oT rv xb;have l1:ds.length=aF.toArray.size:=by rw[List.size_toArray,<- rs.length,rv.length]
    have l2:ds'.length=its'.toArray.size:=by rw[List.size_toArray,<- iX.length,xb.length]
    have two:SeqAt.RcAt A s (.ref p) (.ref p') (jX (.lst f ds) (.lst f' ds'))/\SeqAt.RcNeAt A s (.ref p) (.ref p') (!jX (.lst f ds) (.lst f' ds')):=by
     show SeqAt.RcAt A s (.ref p) (.ref p') (dJ ds ds')/\SeqAt.RcNeAt A s (.ref p) (.ref p') (!dJ ds ds');rw[<- iB];by_cases hl:ds.length=ds'.length
     ·have e1:(ds.length==ds'.length)=true:=by simp[hl]
      rw[e1,Bool.and_true,<- hl,Nat.min_self];have hz:aF.toArray.size=its'.toArray.size:=by rw[<- l1,<- l2,hl]
      refine⟨?_,?_⟩
      ·have:=SeqAt.RcAt.lists pl Ea hz cY key;rw[<- l1]at this;exact this
      ·have:=SeqAt.RcNeAt.lists pl Ea hz cY key;rw[<- l1]at this;exact this
     ·have e1:(ds.length==ds'.length)=false:=by simp[hl]
      rw[e1,Bool.and_false];have hz:(aF.toArray.size != its'.toArray.size)=true:=by rw[<- l1,<- l2];simp[hl]
      exact⟨SeqAt.RcAt.lists_lengths pl Ea hz cY,SeqAt.RcNeAt.lists_lengths pl Ea hz cY⟩
    refine⟨?_,two.1,two.2⟩;by_cases hp:p=p'
    ·subst hp;rw[x9 I hN zJ (n+1) (Rep.lst h rs) (Rep.lst h' iX) ho eM];exact Y1 _
    ·exact SeqAt.EqAt.of_refs hp two.1
  |cx _ _=>cases ho
end
structure Px where
 pe:Nat->Scope->af->Expr->Option (ai)
 pi:Nat->Scope->af->Expr->Option (ai)
 pm:Nat->Scope->af->Stmt->Option (Expr×ai)
structure Sx where
 sc:Scope
 N:af
 fn:Nat->Option Str
 bl:af
 cs:List (Str×GK)
 px:Px
noncomputable def K3:DX->Operator
 |.add=>.Add|.sub=>.Sub|.mul=>.Mult|.fdiv=>.FloorDiv|.mod=>.Mod|.pow=>.Pow|.shl=>.LShift
noncomputable def P9:xo->CmpOp
 |.eq=>.Eq|.ne=>.NotEq|.lt=>.Lt|.le=>.LtE|.gt=>.Gt|.ge=>.GtE|.G9=>.Is|.CB=>.In
noncomputable def tyName:Ty->String
 |.int=>"int" |.bool=>"bool" |.str=>"str" |.list=>"list" |.tuple=>"tuple"
noncomputable def pA:Bf->String
 |.len=>"len" |.abs=>"abs" |.qS=>"int" |.list1=>"list" |.tuple1=>"tuple" |.p_=>"sum" |.all1=>"all" |.fM=>"sorted"
noncomputable def EX(sc:Scope)(x:Str):Bool:=decide (sc.names.lookup x=some .local)||decide (sc.names.lookup x=some .cell)||decide (sc.names.lookup x=some .free)
noncomputable def jJ(sc:Scope)(x:Str):Bool:=decide (sc.names.lookup x=some .globalImplicit)
noncomputable def mx(x:Str):Bool:=!(x==("__debug__" : Str))&&!(x==("__classdict__" : Str))&&decide (x≠("__name__" : Str))
noncomputable def f_:Expr->Bool
 |.Set _ _ _=>false
 |_=>true
noncomputable def qu(sc outer:Scope):Scope :=
 { sc with names:=sc.names.map λ(n,k)=>if (k==.free&&outer.kind==.function&&outer.names.lookup n==some .cell)then(n,.cell)else(n,k) }
noncomputable def bO:Expr->af
 |.Name x _=>[x]
 |.Tuple es _ _=>es.filterMap λe=>match e with|.Name x _=>some x|_=>none
 |_=>[]
noncomputable def fc(S:Sx)(caps:aJ):af:=caps.filterMap λi=>S.N[i]?
def Sx.inner(S:Sx)(target:Expr)(caps:aJ)(sc:Scope):Sx:=⟨qu sc S.sc,bO target++fc S caps,S.fn,S.bl,S.cs,S.px⟩
noncomputable def fP:Expr->Bool
 |.Tuple _ _ _=>true
 |_=>false
noncomputable def isNm(e:Expr):Bool:=decide (e.ctorIdx=23)
theorem i7{e:Expr}(h:isNm e=true):∃x p,e=.Name x p:=Expr.Name.elim (motive_1:=λe=>∃x p,e=.Name x p) e (X5 h) λx p=>⟨x,p,rfl⟩
noncomputable def VM:Expr->Bool
 |.Call ..=>true
 |.BinOp ..=>true
 |.Subscript ..=>true
 |.Compare ..=>true
 |.Dict ..=>true
 |_=>false
noncomputable def NQ:Expr->Bool
 |.Call ..=>true
 |.Name ..=>true
 |_=>false
theorem aL{a b:Bool}(h:(a&&b)=true):a=true/\b=true:=by
 cases a<;>cases b<;>first|exact⟨rfl,rfl⟩|cases h
noncomputable def bp{α:Type}(o:Option α)(f:α->Bool):Bool:=match o with
 |some a=>f a
 |none=>false
theorem br{α:Type}{o:Option α}{f:α->Bool}(h:bp o f=true):∃a,o=some a/\f a=true:=by
 cases o with
 |some a=>exact⟨a,rfl,h⟩
 |none=>cases h
theorem dI{α:Type}{c:Prop}[Decidable c]{f:c->Option α}{x:α}(h:(if h:c then f h else none)=some x):∃k:c,f k=some x:=by
 by_cases k:c
 ·rw[dif_pos k]at h;exact⟨k,h⟩
 ·rw[dif_neg k]at h;cases h
theorem bT{α β:Type}{o:Option α}{f:α->Option β}{b:β}(h:o.bind f=some b):∃a,o=some a/\f a=some b:=Option.bind_eq_some_iff.mp h
theorem gT{α:Type}{c:Prop}[Decidable c]{o:Option α}{b:α}(h:(if c then o else none)=some b):c/\o=some b:=by
 by_cases k:c
 ·rw[if_pos k]at h;exact⟨k,h⟩
 ·rw[if_neg k]at h;cases h
noncomputable def vC(e:Expr):Option Const:=if h:e.ctorIdx=19 then Expr.Constant.elim (motive_1:=λ_=>Option Const) e h (λc _ _=>some c)else none
theorem pV{e:Expr}{c:Const}(h:vC e=some c):∃j p,e=.Constant c j p:=by
 obtain⟨k,h⟩:=dI h;exact Expr.Constant.elim (motive_1:=λe=>∀k:e.ctorIdx=19,Expr.Constant.elim (motive_1:=λ_=>Option Const) e k (λc _ _=>some c)=some c->∃j p,e=.Constant c j p) e k (λ_ _ _ _ h=>by cases h;exact⟨_,_,rfl⟩) k h
noncomputable def ze:Const->Bool
 |.none=>true
 |_=>false
theorem wb{c:Const}(h:ze c=true):c=.none:=by cases c<;>first|rfl|cases h
noncomputable def Ek(b:Bool):Const->Bool
 |.bool c=>decide (b=c)
 |_=>false
theorem zg{b:Bool}{c:Const}(h:Ek b c=true):c=.bool b:=by cases c<;>first | (cases h;done)|rw[of_decide_eq_true h]
noncomputable def zf(b:Int):Const->Bool
 |.int c=>decide (b=c)
 |_=>false
theorem wc{b:Int}{c:Const}(h:zf b c=true):c=.int b:=by cases c<;>first | (cases h;done)|rw[of_decide_eq_true h]
noncomputable def zd(b:Str):Const->Bool
 |.str c=>decide (b=c)
 |_=>false
theorem wa{b:Str}{c:Const}(h:zd b c=true):c=.str b:=by cases c<;>first | (cases h;done)|rw[of_decide_eq_true h]
noncomputable def IS(e:Expr):Option Str:=if h:e.ctorIdx=23 then Expr.Name.elim (motive_1:=λ_=>Option Str) e h (λx _=>some x)else none
theorem ju{e:Expr}{x:Str}(h:IS e=some x):∃p,e=.Name x p:=by
 obtain⟨k,h⟩:=dI h;exact Expr.Name.elim (motive_1:=λe=>∀k:e.ctorIdx=23,Expr.Name.elim (motive_1:=λ_=>Option Str) e k (λx _=>some x)=some x->∃p,e=.Name x p) e k (λ_ _ _ h=>by cases h;exact⟨_,rfl⟩) k h
noncomputable def E_(e:Expr):Option (Expr×Operator×Expr):=if h:e.ctorIdx=2 then Expr.BinOp.elim (motive_1:=λ_=>Option (Expr×Operator×Expr)) e h (λl o r _=>some (l,o,r))else none
theorem t7{e l r:Expr}{o:Operator}(h:E_ e=some (l,o,r)):∃p,e=.BinOp l o r p:=by
 obtain⟨k,h⟩:=dI h;exact Expr.BinOp.elim (motive_1:=λe=>∀k:e.ctorIdx=2,Expr.BinOp.elim (motive_1:=λ_=>Option (Expr×Operator×Expr)) e k (λl o r _=>some (l,o,r))=some (l,o,r)->∃p,e=.BinOp l o r p) e k (λ_ _ _ _ _ h=>by cases h;exact⟨_,rfl⟩) k h
noncomputable def OJ(e:Expr):Option (UnaryOp×Expr):=if h:e.ctorIdx=3 then Expr.UnaryOp.elim (motive_1:=λ_=>Option (UnaryOp×Expr)) e h (λo e _=>some (o,e))else none
theorem xx{e x:Expr}{o:UnaryOp}(h:OJ e=some (o,x)):∃p,e=.UnaryOp o x p:=by
 obtain⟨k,h⟩:=dI h;exact Expr.UnaryOp.elim (motive_1:=λe=>∀k:e.ctorIdx=3,Expr.UnaryOp.elim (motive_1:=λ_=>Option (UnaryOp×Expr)) e k (λo e _=>some (o,e))=some (o,x)->∃p,e=.UnaryOp o x p) e k (λ_ _ _ _ h=>by cases h;exact⟨_,rfl⟩) k h
noncomputable def vBool(e:Expr):Option (BoolOp×ai):=if h:e.ctorIdx=0 then Expr.BoolOp.elim (motive_1:=λ_=>Option (BoolOp×ai)) e h (λo vs _=>some (o,vs))else none
theorem pW{e:Expr}{o:BoolOp}{vs:ai}(h:vBool e=some (o,vs)):∃p,e=.BoolOp o vs p:=by
 obtain⟨k,h⟩:=dI h;exact Expr.BoolOp.elim (motive_1:=λe=>∀k:e.ctorIdx=0,Expr.BoolOp.elim (motive_1:=λ_=>Option (BoolOp×ai)) e k (λo vs _=>some (o,vs))=some (o,vs)->∃p,e=.BoolOp o vs p) e k (λ_ _ _ _ h=>by cases h;exact⟨_,rfl⟩) k h
noncomputable def SN(e:Expr):Option (Expr×Expr×Expr):=if h:e.ctorIdx=5 then Expr.IfExp.elim (motive_1:=λ_=>Option (Expr×Expr×Expr)) e h (λt x y _=>some (t,x,y))else none
theorem EZ{e t x y:Expr}(h:SN e=some (t,x,y)):∃p,e=.IfExp t x y p:=by
 obtain⟨k,h⟩:=dI h;exact Expr.IfExp.elim (motive_1:=λe=>∀k:e.ctorIdx=5,Expr.IfExp.elim (motive_1:=λ_=>Option (Expr×Expr×Expr)) e k (λt x y _=>some (t,x,y))=some (t,x,y)->∃p,e=.IfExp t x y p) e k (λ_ _ _ _ _ h=>by cases h;exact⟨_,rfl⟩) k h
noncomputable def one{α:Type}:List α->Option α
 |[]=>none
 |x::xs=>match xs with
  |[]=>some x
  |_::_=>none
theorem bP{α:Type}{l:List α}{x:α}(h:one l=some x):l=[x]:=by
 cases l with
 |nil=>cases h
 |cons y ys=>cases ys with
  |nil=>cases h;rfl
  |cons _ _=>cases h
def two{α:Type}:List α->Option (α×α)
 |[]=>none
 |x::xs=>(one xs).map λy=>(x,y)
theorem jv{α:Type}{l:List α}{x y:α}(h:two l=some (x,y)):l=[x,y]:=by
 cases l with
 |nil=>cases h
 |cons z zs=>cases zs with
  |nil=>cases h
  |cons w ws=>cases ws with
   |nil=>cases h;rfl
   |cons _ _=>cases h
noncomputable def OL{α:Type}:List α->Option (α×List α)
 |[]=>none
 |x::xs=>some (x,xs)
theorem xC{α:Type}{l xs:List α}{x:α}(h:OL l=some (x,xs)):l=x::xs:=by
 cases l with
 |nil=>cases h
 |cons y ys=>cases h;rfl
noncomputable def vI(e:Expr):Option (Expr×List CmpOp×ai):=if h:e.ctorIdx=15 then Expr.Compare.elim (motive_1:=λ_=>Option (Expr×List CmpOp×ai)) e h (λl os rs _=>some (l,os,rs))else none
theorem ki{e l:Expr}{os:List CmpOp}{rs:ai}(h:vI e=some (l,os,rs)):∃p,e=.Compare l os rs p:=by
 obtain⟨k,h⟩:=dI h;exact Expr.Compare.elim (motive_1:=λe=>∀k:e.ctorIdx=15,Expr.Compare.elim (motive_1:=λ_=>Option (Expr×List CmpOp×ai)) e k (λl os rs _=>some (l,os,rs))=some (l,os,rs)->∃p,e=.Compare l os rs p) e k (λ_ _ _ _ _ h=>by cases h;exact⟨_,rfl⟩) k h
noncomputable def xA(e:Expr):Option (Expr×ai×List Keyword):=if h:e.ctorIdx=16 then Expr.Call.elim (motive_1:=λ_=>Option (Expr×ai×List Keyword)) e h (λf as ks _=>some (f,as,ks))else none
theorem vJ{e f:Expr}{as:ai}{ks:List Keyword}(h:xA e=some (f,as,ks)):∃p,e=.Call f as ks p:=by
 obtain⟨k,h⟩:=dI h;exact Expr.Call.elim (motive_1:=λe=>∀k:e.ctorIdx=16,Expr.Call.elim (motive_1:=λ_=>Option (Expr×ai×List Keyword)) e k (λf as ks _=>some (f,as,ks))=some (f,as,ks)->∃p,e=.Call f as ks p) e k (λ_ _ _ _ _ h=>by cases h;exact⟨_,rfl⟩) k h
def f9(e:Expr):Option (Str×ai):=(xA e).bind λz=>if z.2.2.isEmpty=true then(IS z.1).bind λx=>some (x,z.2.1)else none
theorem Cb{α:Type}{l:List α}(h:l.isEmpty=true):l=[]:=List.isEmpty_iff.mp h
theorem cK{e:Expr}{x:Str}{as:ai}(h:f9 e=some (x,as)):∃p pos,e=.Call (.Name x p) as [] pos:=by
 obtain⟨⟨f,UX,ks⟩,hv,h⟩:=bT h;obtain⟨hc,h⟩:=gT h;obtain⟨y,hn,h⟩:=bT h;cases h;obtain⟨pos,rfl⟩:=vJ hv;obtain⟨p,rfl⟩:=ju hn;obtain rfl:=Cb hc;exact⟨p,pos,rfl⟩
noncomputable def mi(e:Expr):Option (Expr×Expr):=if h:e.ctorIdx=21 then Expr.Subscript.elim (motive_1:=λ_=>Option (Expr×Expr)) e h (λa b _=>some (a,b))else none
theorem eQ{e a b:Expr}(h:mi e=some (a,b)):∃p,e=.Subscript a b p:=by
 obtain⟨k,h⟩:=dI h;exact Expr.Subscript.elim (motive_1:=λe=>∀k:e.ctorIdx=21,Expr.Subscript.elim (motive_1:=λ_=>Option (Expr×Expr)) e k (λa b _=>some (a,b))=some (a,b)->∃p,e=.Subscript a b p) e k (λ_ _ _ _ h=>by cases h;exact⟨_,rfl⟩) k h
noncomputable def vH(e:Expr):Option (ai):=if h:e.ctorIdx=25 then Expr.Tuple.elim (motive_1:=λ_=>Option (ai)) e h (λes _ _=>some es)else none
theorem iT{e:Expr}{es:ai}(h:vH e=some es):∃n p,e=.Tuple es n p:=by
 obtain⟨k,h⟩:=dI h;exact Expr.Tuple.elim (motive_1:=λe=>∀k:e.ctorIdx=25,Expr.Tuple.elim (motive_1:=λ_=>Option (ai)) e k (λes _ _=>some es)=some es->∃n p,e=.Tuple es n p) e k (λ_ _ _ _ h=>by cases h;exact⟨_,_,rfl⟩) k h
noncomputable def JN(e:Expr):Option (ai):=if h:e.ctorIdx=24 then Expr.List.elim (motive_1:=λ_=>Option (ai)) e h (λes _=>some es)else none
theorem Ba{e:Expr}{es:ai}(h:JN e=some es):∃p,e=.List es p:=by
 obtain⟨k,h⟩:=dI h;exact Expr.List.elim (motive_1:=λe=>∀k:e.ctorIdx=24,Expr.List.elim (motive_1:=λ_=>Option (ai)) e k (λes _=>some es)=some es->∃p,e=.List es p) e k (λ_ _ _ h=>by cases h;exact⟨_,rfl⟩) k h
noncomputable def DZ(e:Expr):Option (Expr×List Comprehension×Scope):=if h:e.ctorIdx=8 then Expr.ListComp.elim (motive_1:=λ_=>Option (Expr×List Comprehension×Scope)) e h (λe gs sc _=>some (e,gs,sc))else none
theorem xy{e x:Expr}{gs:List Comprehension}{sc:Scope}(h:DZ e=some (x,gs,sc)):∃p,e=.ListComp x gs sc p:=by
 obtain⟨k,h⟩:=dI h;exact Expr.ListComp.elim (motive_1:=λe=>∀k:e.ctorIdx=8,Expr.ListComp.elim (motive_1:=λ_=>Option (Expr×List Comprehension×Scope)) e k (λe gs sc _=>some (e,gs,sc))=some (x,gs,sc)->∃p,e=.ListComp x gs sc p) e k (λ_ _ _ _ _ h=>by cases h;exact⟨_,rfl⟩) k h
theorem jS{a:Bool}(h:(!a)=true):a=false:=by cases a<;>first|rfl|cases h
def pg(S:Sx)(n:Nat)(t:Tg)(caps:aJ)(target:Expr)(sc:Scope):Bool :=
 decide (sc.kind=.function)&&sc.names.all (λ(x,k)=>decide (k≠.cell)&&(decide (k≠.local)||decide (sc.names.lookup x=some .local))&&(decide (k≠.free)||decide (S.sc.names.lookup x=some .cell)||decide (S.sc.names.lookup x=some .free))) &&
 decide (n=(bO target).length)&&(bO target).all (λx=>decide (sc.names.lookup x=some .local))&&decide (bO target++fc S caps).Nodup &&
 caps.all (λi=>match S.N[i]? with|some x=>decide (sc.names.lookup x=some .free)|none=>false) &&
 (match t with
  |.nm i=>decide (i=0)&&isNm target
  |.tp is=>bp (vH target) λes=>decide (is=List.range es.length)&&es.all isNm)
mutual
noncomputable def b9(S:Sx):CE->Expr->Bool
 |.bq p es,e0=>VM e0&&bp (S.px.pe p S.sc S.bl e0) λxs=>bN S es xs
 |.bw,e0=>bp (vC e0) λc=>ze c
 |.bl b,e0=>bp (vC e0) λc=>Ek b c
 |.int i,e0=>bp (vC e0) λc=>zf i c
 |.str s,e0=>bp (vC e0) λc=>zd s c
 |.v i,e0=>bp (IS e0) λx=>decide (S.N[i]?=some x)&&EX S.sc x&&mx x
 |.glo x i,e0=>bp (IS e0) λy=>decide (y=x)&&jJ S.sc x&&decide ((x,GK.i i)∈S.cs)&&!(x==("__debug__" : Str))
 |.gls x s,e0=>bp (IS e0) λy=>decide (y=x)&&jJ S.sc x&&decide ((x,GK.s s)∈S.cs)&&!(x==("__debug__" : Str))
 |.bin op a b,e0=>bp (E_ e0) λz=>decide (z.2.1=K3 op)&&b9 S a z.1&&b9 S b z.2.2
 |.neg a,e0=>bp (OJ e0) λz=>decide (z.1=.USub)&&b9 S a z.2
 |.not a,e0=>bp (OJ e0) λz=>decide (z.1=.Not)&&b9 S a z.2
 |.and es,e0=>bp (vBool e0) λz=>decide (z.1=.And)&&bN S es z.2
 |.or es,e0=>bp (vBool e0) λz=>decide (z.1=.Or)&&bN S es z.2
 |.ite c a b,e0=>bp (SN e0) λz=>b9 S c z.1&&b9 S a z.2.1&&b9 S b z.2.2
 |.cmp op a b,e0=>bp (vI e0) λz=>decide (z.2.1=[P9 op])&&b9 S a z.1&&bp (one z.2.2) λr=>b9 S b r&&f_ r
 |.g5 a t,e0=>bp (f9 e0) λz=>decide (z.1=("isinstance" : Str))&&jJ S.sc z.1&&decide (z.1∈S.bl)&&bp (two z.2) λy=>b9 S a y.1&&bp (IS y.2) λx=>decide (x=(tyName t:Str))&&jJ S.sc x&&decide (x∈S.bl)
 |.call f es,e0=>bp (f9 e0) λz=>decide (S.fn f=some z.1)&&jJ S.sc z.1&&mx z.1&&bp (OL z.2) λy=>bN S es (y.1::y.2)
 |.bf f es,e0=>bp (f9 e0) λz=>decide (z.1=(pA f:Str))&&jJ S.sc z.1&&decide (z.1∈S.bl)&&bp (OL z.2) λy=>bN S es (y.1::y.2)
 |.iw a,e0=>bp (f9 e0) λz=>decide (z.1=("len" : Str))&&jJ S.sc z.1&&decide (z.1∈S.bl)&&bp (one z.2) λy=>bp (f9 y) λw=>decide (w.1=("set" : Str))&&jJ S.sc w.1&&decide (w.1∈S.bl)&&bp (one w.2) λu=>b9 S a u
 |.ix a b,e0=>bp (mi e0) λz=>b9 S a z.1&&b9 S b z.2
 |.tup es,e0=>bp (vH e0) λxs=>bN S es xs&&decide (es.length<=1000)
 |.lst es,e0=>bp (JN e0) λxs=>bN S es xs&&decide (es.length<=1000)
 |.comp n t caps ik es bz elt,e0=>bp (DZ e0) λz=>bp (one z.2.1) λg=>decide (g.is_async=0)&&pg S n t caps g.target z.2.2&&f_ g.iter&&decide (bz.length<=1)&&bN (S.inner g.target caps z.2.2) bz g.ifs&&b9 (S.inner g.target caps z.2.2) elt z.1 &&
     (match ik with
      |.ko=>bp (f9 g.iter) λw=>decide (w.1=("range" : Str))&&jJ S.sc w.1&&decide (w.1∈S.bl)&&bp (one w.2) λy=>bN S es [y]
      |.seq=>bN S es [g.iter]
      |.bq p=>NQ g.iter&&(decide (1100<=p)||fP g.target)&&bp (S.px.pi p S.sc S.bl g.iter) λxs=>bN S es xs)
noncomputable def bN(S:Sx):aC->ai->Bool
 |[],es=>match es with
  |[]=>true
  |_::_=>false
 |c::cs,es=>match es with
  |[]=>false
  |e::es=>b9 S c e&&bN S cs es
end
def Bu(K:ao)(n:Nat)(m:aw):Sp:=λvs H Q _=>∃(F:ah) (ds:ab) (r:D),vs.length=n/\aA (aU K H) (nd K F (λ_=>False) (λ_=>none) H) [] 0 vs ds/\m ds=ok r /\
 ∀v H',aG H H'->(∃τt:Addr->Option aZ,(∀p q,τt p=some q->H p=none)/\Rep (aU K H') (nd K (λp=>F p\/H p=none) (λ_=>False) τt H') [] v r)->Q v H'
structure IQ(X:Cx)(k:Nat)(x:Str)(m:aw):Prop where
 ex:∃(f:Addr) (fd:FuncData) (ps:af),hX X.prog X.w X.K X.mg X.base xn k f fd ps (Bu X.K ps.length m)/\X.mg x=some (.ref f)/\PySem.W.keepIn X.K (.ref f)=true/\Binds X.K fd ps []/\∀ds r,m ds=ok r->ds.length=ps.length
noncomputable def kinds:List String:=["NoneType","bool","int","str","list","tuple","dict"]
def Lz:Ty->String->Bool
 |.int,s=>s == "int" ||s == "bool"
 |t,s=>s==tyName t
theorem aG.upd{H:Hp}{p:Addr}{o:HO}(h:H p=none):aG H (upd H p o):=λb u e=>by
 rw[bh (by rintro rfl;rw[h]at e;cases e)];exact e
theorem yQ{i j:Int}(h:gb i j=true):IntMulOk i j:=by
 unfold gb at h;simp only[Bool.or_eq_true,Bool.and_eq_true,decide_eq_true_eq]at h;rcases h with (h|h)|⟨h1,h2⟩
 ·exact .of_left (intBits_le h)
 ·exact .of_right (intBits_le h)
 ·have b1:Builtin.Int.intBits i<=9000:=intBits_le h1;have b2:Builtin.Int.intBits j<=9000:=intBits_le h2;unfold IntMulOk;have hb:Builtin.Int.intTooBig ((Builtin.Int.intBits i:Int)+(Builtin.Int.intBits j:Int))=false:=by
   unfold Builtin.Int.intTooBig;have:(bitsLine:Int)=134217728:=by decide
   exact Yt (by left)
  rw[hb];simp
section
variable {K:ao}{R:ah}{τ τt:Addr->Option aZ}{fv:aJ}{H H':Hp}
theorem B3:gY X (binaryOp .Add) (λx y H Q=>∃a b xs ys,x=.ref a/\y=.ref b/\aU X.K H a xs/\aU X.K H b ys/\xs.length+ys.length<=sizeLine/\(xs=[]->Q (.ref b) H)/\(ys=[]->Q (.ref a) H)/\∀p,H p=none->Q (.ref p) (upd H p (.tup (xs++ys)))):=by
 intro pins s σ H x y v u Q I rx ry h;obtain⟨a,b,xs,ys,rfl,rfl,ha,hb,hz,q0,q1,q2⟩:=h;cases rx;cases ry;by_cases hx:xs=[]
 ·subst hx;obtain⟨aF,r1,p1,_⟩:=I.tuple ha;obtain⟨sV,r2,p2,_⟩:=I.tuple hb;cases r1;obtain⟨⟨cls,dd,data,sl⟩,ho,hc,n,hd⟩:=id p1;obtain⟨⟨Dj,ve,data2,uj⟩,oT,hc2,n2,hd2⟩:=id p2;simp only at hc hd hc2 hd2;subst hc hd hc2 hd2;exact concat_meets ⟨_,ho,rfl⟩ ⟨_,oT,rfl⟩ noFill_tuple_add seq_tuple_add Zn Zk (Zg _ _)
   (tuple_addW0 a b [].toArray sV.toArray n n2 dd ve sl uj rfl) ⟨ho,oT,⟨.ref b,H,I,rfl,q0 rfl⟩⟩
 ·exact B2 pins s σ H (.ref a) (.ref b) _ _ Q I rfl rfl ⟨a,b,xs,ys,rfl,rfl,ha,hb,hx,hz,q1,λ_=>q2⟩
theorem nd.nJ(k k':aZ)(p:Addr)(xs:Nd)(f:Fl)(h:nd K R A (λ_=>none) H k p xs f):nd K R A (λ_=>none) H k' p xs f:=by
 cases f with
 |ow=>exact nomatch h.2
 |fz=>exact h
 |al=>exact h
 |sc=>exact h
theorem K_(Si:SI X F R τ ρ σ H)(fr:∀p q,τt p=some q->H p=none)(k k':aZ)(p:Addr)(xs:Nd)(f:Fl)(h:nd K R (iQ (gP X F) τ fv) τt H' k p xs f):
  nd K R (iQ (gP X F) τ fv) (λ_=>none) H' k' p xs (a_ f):=by
 cases f with
 |ow=>exact⟨h.1,.inr (Si.same.free (fr p _ h.2)),λc i e=>absurd (fr p _ h.2) (Si.th p _ e)⟩
 |fz=>exact h
 |al=>exact h
 |sc=>exact h
theorem aA.eZ{k:aZ}{n:Nat}(h:aA (aU K H') (nd K R (iQ (gP X F) τ fv) τt H') k n xs ds)(Si:SI X F R τ ρ σ H)(fr:∀p q,τt p=some q->H p=none){n':Nat}:
  aA (aU K H') (nd K R (iQ (gP X F) τ fv) (λ_=>none) H') k' n' xs (az a_ ds):=aA.gz (λ_ _ h=>h) (K_ Si fr) h _ _
theorem Rep.eZ{k:aZ}{v:V}{d:D}(h:Rep (aU K H') (nd K R (iQ (gP X F) τ fv) τt H') k v d)(Si:SI X F R τ ρ σ H)(fr:∀p q,τt p=some q->H p=none):
  Rep (aU K H') (nd K R (iQ (gP X F) τ fv) (λ_=>none) H') k' v (aI a_ d):=Rep.gz (λ_ _ h=>h) (K_ Si fr) h _
theorem bC.qF{p:Addr}(hp:H p=none)(e:aG H H')(hl:H' p=some (.lst xs))(r:aA (aU K H') (nd K R (iQ G τ fv) (λ_=>none) H') [] 0 xs ds):bC K G R τ fv H H' (.ref p) (.lst .ow ds):=by
 refine⟨λq=>if q=p then some []else none,λq k hq=>?_,.lst ⟨hl,by simp⟩ (r.imp (λ_ _ h=>h) λc q xs f h=>?_)⟩
 ·by_cases sZ:q=p
  ·subst sZ;exact hp
  ·simp[sZ]at hq
 ·cases f with
  |ow=>exact nomatch h.2
  |fz=>exact h
  |al=>exact h
  |sc=>exact h
end
theorem Cp(K:ao):∀t:Ty,∀s∈kinds,PySem.W.kitOne K (.type s) (.type (tyName t))=some (Lz t s):=by
 intro t s hs;simp only[kinds,List.mem_cons,List.not_mem_nil,or_false]at hs;cases t<;>rcases hs with rfl|rfl|rfl|rfl|rfl|rfl|rfl<;>rfl
structure PX(X:Cx)(sc:Scope)(bl:af)(k:Nat):Prop where
 sc:X.env.scope=sc
 calm:X.calm=true
 room:fH k X.A
 bl:∀x∈bl,X.mg x=none
theorem PX.gl{sc:Scope}{bl:af}{k:Nat}(L:PX X sc bl k){x:Str}(h:jJ sc x=true):Gl X x:=by
 unfold Gl;show X.env.scope.names.lookup x=some .globalImplicit;rw[L.sc];exact X5 h
def iF(X:Cx)(F:ah)(Φ:aQ):aC->ai->Prop
 |[],[]=>True
 |c::cs,a::as=>PE X a (tD X F Φ c)/\(∀es,starEach (a::es) X.env=(false,eval a X.env)::starEach es X.env)/\kN a/\iF X F Φ cs as
 |_,_=>False
structure rV(K:ao)(H2:Hp)(vs:ae)(xs:ab)(H':Hp):Prop where
 n0:∃R0:ah,aA (aU K H2) (nd K R0 (λ_=>False) (λ_=>none) H2) [] 0 vs (az aY xs)/\∀p o,R0 p->H2 p=some o->H' p=some o
 tp:∀a ys,aU K H2 a ys->aU K H' a ys
structure JA(K:ao)(J:It)(H2:Hp)(vs:ae)(xs items:ab):Prop where
 go:∀i H' R',rV K H2 vs xs H'->aA (aU K H') (nd K R' (λ_=>False) (λ_=>none) H') [] 0 vs (az aY xs)->i<items.length->J.go i H'
 rY:∀i H' R' x kh,rV K H2 vs xs H'->aA (aU K H') (nd K R' (λ_=>False) (λ_=>none) H') [] 0 vs (az aY xs)->i<items.length->J.rY i H' x kh->aG H' kh/\∃d,items[i]?=some d/\Rep (aU K kh) (nd K R' (λ_=>False) (λ_=>none) kh) [] x d
 stop:∀i H' R',rV K H2 vs xs H'->aA (aU K H') (nd K R' (λ_=>False) (λ_=>none) H') [] 0 vs (az aY xs)->items.length<=i->J.stop i H'
structure tZ(px:Px)(Φ:aQ):Prop where
 e:∀(X:Cx) (sc:Scope) (bl:af) (k:Nat),PX X sc bl k->∀(p:Nat) (e:Expr) (args:ai),px.pe p sc bl e=some args->∀(F:ah) (cs:aC),iF X F Φ cs args->PE X e (tD X F Φ (.bq p cs))/\PT X e (dN X F Φ (.bq p cs))
 i:∀(X:Cx) (sc:Scope) (bl:af) (k:Nat),PX X sc bl k->∀(p:Nat) (e:Expr) (args:ai),px.pi p sc bl e=some args->∀(F:ah) (cs:aC) (tg:Expr),(decide (1100<=p)||fP tg)=true->iF X F Φ cs args ->
  ∀(pins:aj) (s:Shared) (σ:St) (H:Hp) (R:ah) (τ:Addr->Option aZ) (ρ:aX) (xs:ab) (d:D) (items:ab),Inv X pins σ H s->SI X F R τ ρ σ H->cB Φ cs ρ=ok xs->Φ p xs=ok d->la d=ok items->∀Rr:It->Hp->Prop,
   (∀J H2 vs,aG H H2->bX X.K (gP X F) R τ (cR cs) H H2 vs xs->JA X.K J H2 vs xs items->Rr J H2) ->
   wpAny (model X.prog X.w) X.A (eval e X.env) (λv s1=>wpAny (model X.prog X.w) X.A (pyIter v) (AL X pins σ tg Rr) X.xe s1) X.xe s
def AM(K:ao):GK->Value->Prop
 |.i i,u=>RelV (.int i) u
 |.s z,u=>RelV (.str z) u
structure Lk(X:Cx)(S:Sx)(k:Nat)(Φ:aQ):Prop where
 sc:X.env.scope=S.sc
 N:X.N=S.N
 nd:X.N.Nodup
 calm:X.calm=true
 room:fH k X.A
 bl:∀x∈S.bl,X.mg x=none
 fn:∀f x,S.fn f=some x->IQ X k x (Φ f)
 cs:∀x i,(x,i)∈S.cs->∃u,X.mg x=some u/\AM X.K i u
 pr:tZ S.px Φ
variable {S:Sx}{Φ:aQ}
theorem Lk.pX{k:Nat}(L:Lk X S k Φ):PX X S.sc S.bl k:=⟨L.sc,L.calm,L.room,L.bl⟩
variable {Q:VK}{p' pos pos':Pos}
section
variable {X:Cx}{S:Sx}{k:Nat}{F:ah}{Φ:aQ}
theorem Lk.gl(L:Lk X S k Φ){x:Str}(h:jJ S.sc x=true):Gl X x:=by
 unfold Gl;show X.env.scope.names.lookup x=some .globalImplicit;rw[L.sc];exact X5 h
theorem Lk.Nr(L:Lk X S k Φ){x:Str}(h:EX S.sc x=true):IE X.env.scope x:=by
 unfold IE;rw[L.sc];unfold EX at h;rw[Bool.or_eq_true,Bool.or_eq_true]at h;rcases h with (h|h)|h
 ·exact .inl (X5 h)
 ·exact .inr (.inl (X5 h))
 ·exact .inr (.inr (X5 h))
theorem tD.intro{c:CE}{d:D}(Si:SI X F R τ ρ σ H)(e:bj Φ c ρ=ok d)(h:∀v H',aG H H'->bC X.K (gP X F) R τ (gc c) H H' v d->Q v H'):tD X F Φ c σ H Q:=⟨R,τ,ρ,d,Si,e,h⟩
theorem Pl(L:Lk X S k Φ){i:Nat}{x:Str}(h:b9 S (.v i) (.Name x pos)=true):PE X (.Name x pos) (tD X F Φ (.v i)):=by
 replace h:=aL h;replace h:=And.intro (aL h.1) h.2;obtain⟨⟨h1,h2⟩,h3⟩:=h;unfold mx at h3;simp only[Bool.and_eq_true,Bool.not_eq_true']at h3;refine PE.imp (sI (i:=i) (by rw[L.N];exact X5 h1) (L.Nr h2) h3.1.1 h3.1.2) λσ H Q hq=>?_;obtain⟨R,τ,ρ,d,Si,ev,hq⟩:=hq;obtain⟨d',hd,rfl⟩:=x5 ev
 ·obtain⟨v,hv,hr⟩:=Si.rep i d' hd;refine⟨v,hv,hq v H (aG.refl H) ⟨λ_=>none,λ_ _ h=>by simp at h,?_⟩⟩;refine Rep.map (q:=[i]) (q':=[]) (λ_ _ h=>h) (λc p xs f h=>?_) hr [] rfl;cases f with
  |ow =>
   refine⟨h.1,.inr (Si.t0 p _ h.2),λc' j e=>?_⟩;rw[h.2]at e;have e':=Yg e;have:=Yn List.getLast? e';simp at this;show _∈[i];simp[this]
  |fz=>exact h
  |al=>exact h.2.elim
  |sc=>exact h
theorem jf{op:DX}{x y d:D}(LO:op≠.add/\op≠.mul)(h:ck op x y=ok d):∃i j,x=.int i/\y=.int j:=by
 cases x with
 |int i=>cases y with
  |int j=>exact⟨i,j,rfl,rfl⟩
  |_=>cases op<;>first|exact nk h | (simp at LO;done)
 |_=>cases op<;>first|exact nk h | (simp at LO;done)
theorem FK(L:Lk X S k Φ){op:DX}{a b:CE}{l r:Expr}(ha:PE X l (tD X F Φ a))(hb:PE X r (tD X F Φ b)):PE X (.BinOp l (K3 op) r pos) (tD X F Φ (.bin op a b)):=by
 have two:∀{σ:St} {H:Hp} {Q:VK} {r2:R2},(∃R τ ρ d,SI X F R τ ρ σ H/\bj Φ (.bin op a b) ρ=ok d/\(∀v H',aG H H'->bC X.K (gP X F) R τ (gc (.bin op a b)) H H' v d->Q v H') /\
   ∀x y v u H',ck op x y=ok d->aG H H'->bC X.K (gP X F) R τ (gc (.bin op a b)) H H' v x->bC X.K (gP X F) R τ (gc (.bin op a b)) H H' u y->r2 v u H' Q)->AO r2 (tD X F Φ a) (tD X F Φ b) σ H Q:=by
  rintro σ H Q r2 ⟨R,τ,ρ,d,Si,ev,hq,hr⟩;obtain⟨x,ex,ev⟩:=aq ev;obtain⟨y,ey,ev⟩:=aq ev;refine tD.intro Si ex λv H1 e1 r1=>tD.intro (Si.go e1) ey λu H2 e2 r2=>?_;exact hr x y v u H2 ev (e1.trans e2) ((r1.go e2).mono λi hi=>Yu _ hi) ((r2.old e1).mono λi hi=>Ye _ hi)
 have wm:∀{C:Int->Int->Prop} {g:Int->Int->Int},gY X (binaryOp (K3 op)) (rI C λi j=>.int (g i j))->(∀x y d,ck op x y=ok d->∃i j,x=.int i/\y=.int j/\C i j/\d=.int (g i j)) ->
   PE X (.BinOp l (K3 op) r pos) (tD X F Φ (.bin op a b)):=by
  intro C g ho hd;refine PE.imp (yt ho ha hb) λσ H Q hq=>?_;obtain⟨R,τ,ρ,d,Si,ev,hq⟩:=hq;refine two ⟨R,τ,ρ,d,Si,ev,hq,λx y v u H' eb e rv ru=>?_⟩;obtain⟨i,j,rfl,rfl,c,rfl⟩:=hd x y d eb;exact⟨i,j,rv.isInt,ru.isInt,c,hq _ H' e .int⟩
 cases op with
 |sub =>
  refine wm (C:=λ_ _=>True) (g:=λi j=>i - j) (Gq λ_ _ _ _ _ _ _ _ q=>sub_int q) λx y d h=>?_;obtain⟨i,j,rfl,rfl⟩:=jf (by simp) h;cases h;exact⟨_,_,rfl,rfl,trivial,rfl⟩
 |mod =>
  refine wm (C:=λ_ j=>j≠0) (g:=λi j=>i.fmod j) B1 λx y d h=>?_;obtain⟨i,j,rfl,rfl⟩:=jf (by simp) h;obtain⟨h1,h⟩:=ka h;subst h;exact⟨_,_,rfl,rfl,h1,rfl⟩
 |fdiv =>
  refine wm (C:=λ_ j=>nN j=true) (g:=λi j=>i.fdiv j) (Gq λi j _ _ _ _ _ hc q=>?_) λx y d h=>?_
  ·unfold nN at hc;rw[Bool.and_eq_true]at hc;have h1:j≠0:=X5 hc.1;have h2:j.natAbs<big:=X5 hc.2;exact floordiv_int h1 q (.inl (PyProof.noPylong_of_log2 ((Nat.log2_lt (by left)).mpr h2)))
  ·obtain⟨i,j,rfl,rfl⟩:=jf (by simp) h;obtain⟨h1,h⟩:=ka h;subst h;exact⟨_,_,rfl,rfl,h1,rfl⟩
 |pow =>
  refine wm (C:=λi j=>iZ i j=true) (g:=λi j=>i ^ j.toNat) (Gq λi j _ _ _ _ _ hc q=>?_) λx y d h=>?_
  ·unfold iZ at hc;simp only[Bool.and_eq_true,decide_eq_true_eq]at hc;exact pow_int_small hc.1.1 hc.1.2 hc.2 q
  ·obtain⟨i,j,rfl,rfl⟩:=jf (by simp) h;obtain⟨h1,h⟩:=ka h;subst h;exact⟨_,_,rfl,rfl,h1,rfl⟩
 |shl =>
  refine wm (C:=λi j=>iZ i j=true) (g:=λi j=>i*2 ^ j.toNat) (Gq λi j _ _ _ _ _ hc q=>?_) λx y d h=>?_
  ·unfold iZ at hc;simp only[Bool.and_eq_true,decide_eq_true_eq]at hc;exact lshift_int_small hc.1.1 hc.1.2 hc.2 q
  ·obtain⟨i,j,rfl,rfl⟩:=jf (by simp) h;obtain⟨h1,h⟩:=ka h;subst h;exact⟨_,_,rfl,rfl,h1,rfl⟩
 |mul =>
  have hi:gY X (binaryOp .Mult) (rI (λi j=>gb i j=true) λi j=>.int (i*j)):=Gq λi j _ _ _ _ _ hc q=>mul_int q (yQ hc);exact wm (C:=λi j=>gb i j=true) (g:=λi j=>i*j) hi λx y d h=>by
   obtain⟨i,j,rfl,rfl⟩:∃i j,x=.int i/\y=.int j:=by cases x<;>first | (cases h;done) | (cases y<;>first|exact⟨_,_,rfl,rfl⟩ | (cases h;done))
   obtain⟨h1,h⟩:=ka h;subst h;exact⟨_,_,rfl,rfl,h1,rfl⟩
 |add =>
  refine PE.imp (yt ((Gp.or Gn).or B3) ha hb) λσ H Q hq=>?_;obtain⟨R,τ,ρ,d,Si,ev,hq⟩:=hq;refine two ⟨R,τ,ρ,d,Si,ev,hq,λx y v u H' eb e rv ru=>?_⟩;have hz:sizeLine=16777216:=YF;have oW:fe=1000000:=rfl;cases x with
  |int i =>
   cases y with
   |int j =>
    cases eb;exact .inl (.inl ⟨i,j,rv.isInt,ru.isInt,hq _ H' e .int⟩)
   |_=>cases eb
  |lst f a =>
   cases y with
   |lst g b =>
    obtain⟨hc,eb⟩:=ka eb
    ·subst eb;obtain⟨τt,fr,rp⟩:=rv;obtain⟨OH,Jv,PF⟩:=ru;obtain⟨p,xs,rfl,hn,rs⟩:=rp.kT;cases PF with
     | @lst _ p2 xs2 _ _ Jn D9 =>
      refine .inl (.inr ⟨p,p2,xs,xs2,rfl,rfl,hn.lst hc.1,Jn.lst hc.2.1,by rw[rs.length,D9.length];left,λp' xd=>?_⟩);have es:aG H' (upd H' p' (.lst (xs++xs2))):=aG.upd xd;refine hq _ _ (e.trans es) (bC.qF (e.free xd) (e.trans es) (aV) ?_);rw[bo,List.map_append,<- bo,<- bo];exact(aA.pI nd.nJ (n:=0) (m:=0) (rs.eZ Si fr) (D9.eZ Si Jv)).imp (λ_ _ h=>aU.same es h) λ_ _ _ _ h=>nd.same es h
   |_=>cases eb
  |tup a =>
   cases y with
   |tup b =>
    obtain⟨hc,eb⟩:=ka eb;subst eb;obtain⟨τt,fr,rp⟩:=rv;obtain⟨OH,Jv,PF⟩:=ru;cases rp with
    | @tup _ p xs _ hn rs =>
     cases PF with
     | @tup _ p2 xs2 _ Jn D9 =>
      have hl:=rs.length;have uL:=D9.length;refine .inr ⟨p,p2,xs,xs2,rfl,rfl,hn,Jn,by rw[hl,uL];left,λz=>?_,λz=>?_,λp' xd=>?_⟩
      ·subst z;cases rs;exact hq _ H' e ⟨λ_=>none,λ_ _ h=>by simp at h,.tup Jn (D9.eZ Si Jv)⟩
      ·subst z;cases D9;refine hq _ H' e ⟨λ_=>none,λ_ _ h=>by simp at h,.tup hn ?_⟩;rw[List.append_nil];exact rs.eZ Si fr
      ·have es:aG H' (upd H' p' (.tup (xs++xs2))):=aG.upd xd;refine hq _ _ (e.trans es) ⟨λ_=>none,λ_ _ h=>by simp at h,.tup (aU.of aV) ?_⟩;rw[bo,List.map_append,<- bo,<- bo];exact(aA.pI nd.nJ (n:=0) (m:=0) (rs.eZ Si fr) (D9.eZ Si Jv)).imp (λ_ _ h=>aU.same es h) λ_ _ _ _ h=>nd.same es h
   |_=>cases eb
  |_=>cases y<;>cases eb
end
section
variable {T T':jr}{N N':gk}{P:Fl->Bool}
theorem Rep.without(hT:∀p xs,T p xs->T' p xs)(hN:∀k k' p xs f,P f=false->N k p xs f->N' k' p xs f){k:aZ}{v:V}{d:D}(h:Rep T N k v d)(e:bc P d=false)(k':aZ):Rep T' N' k' v d:=by
 have:=Rep.gen (g:=id) (P:=P) (N':=N') (C:=λ_ _=>True) (I:=λ_ _=>True) hT trivial (λ_ _ e=>e) (λ_ _ _ _ e _=>e) (λk k' p xs f _ e h=>hN k k' p xs f e h) h (k':=k') trivial e;rw[dC]at this;exact this
theorem aA.without(hT:∀p xs,T p xs->T' p xs)(hN:∀k k' p xs f,P f=false->N k p xs f->N' k' p xs f){k:aZ}{n:Nat}(h:aA T N k n vs ds)(e:aR P ds=false)(k':aZ)(n':Nat):aA T' N' k' n' vs ds:=by
 have:=aA.gen (g:=id) (P:=P) (N':=N') (C:=λ_ _=>True) (I:=λ_ _=>True) hT trivial (λ_ _ e=>e) (λ_ _ _ _ e _=>e) (λk k' p xs f _ e h=>hN k k' p xs f e h) h (k':=k') (n':=n') trivial trivial e;rw[dH]at this;exact this
theorem Rep.iR(hT:∀p xs,T p xs->T' p xs)(hN:∀k p xs f,P f=false->N k p xs f->N' k p xs f){k:aZ}{v:V}{d:D}(h:Rep T N k v d)(e:bc P d=false):Rep T' N' k v d:=by
 have:=Rep.gen (g:=id) (P:=P) (N':=N') (C:=λa b=>a=b) (I:=λa b=>a=b) hT rfl (λ_ _ e=>by rw[e]) (λ_ _ _ _ a b=>by rw[a,b]) (λk k' p xs f c e h=>by subst c;exact hN k p xs f e h) h rfl e;rw[dC]at this;exact this
theorem aA.iR(hT:∀p xs,T p xs->T' p xs)(hN:∀k p xs f,P f=false->N k p xs f->N' k p xs f){k:aZ}{n:Nat}(h:aA T N k n vs ds)(e:aR P ds=false):aA T' N' k n vs ds:=by
 have:=aA.gen (g:=id) (P:=P) (N':=N') (C:=λa b=>a=b) (I:=λa b=>a=b) hT rfl (λ_ _ e=>by rw[e]) (λ_ _ _ _ a b=>by rw[a,b]) (λk k' p xs f c e h=>by subst c;exact hN k p xs f e h) h rfl rfl e;rw[dH]at this;exact this
end
theorem Rep.oN{k:aZ}{v:V}{d:D}(h:Rep (aU K H) (nd K R (λ_=>False) (λ_=>none) H) k v d):Rep (aU K H) (nd K R (λ_=>False) (λ_=>none) H) k' v d:=by
 have:=Rep.gz (g:=id) (λ_ _ h=>h) nd.nJ h k';rw[dC]at this;exact this
def gj(X:Cx)(R:ah)(τ:Addr->Option aZ)(H:Hp)(v:V)(d:D):Prop :=
 ∃τt:Addr->Option aZ,(∀p q,τt p=some q->τ p=none/\¬ R p/\X.H₀ p=none/\H p≠none)/\Rep (aU X.K H) (nd X.K R (λ_=>False) τt H) [] v d
section
variable {X:Cx}{F R:ah}{τ:Addr->Option aZ}{ρ:aX}{σ:St}{H H':Hp}
noncomputable def sv(i:Nat)(τt τ:Addr->Option aZ):Addr->Option aZ:=λp=>match τt p with|some q=>some (q++[i])|none=>τ p
theorem SI.Kh{i:Nat}{v:V}{d:D}(Si:SI X F R τ ρ σ H)(ht:∀p q,τt p=some q->τ p=none/\¬ R p/\X.H₀ p=none/\H p≠none)(rp:Rep (aU X.K H) (nd X.K R (λ_=>False) τt H) [] v d)(hi:i<ρ.length):SI X F R (sv i τt τ) (ρ.set i (some d)) (σ.set i (some v)) H:=by
 refine⟨by simp[Si.len],λj d' hj=>?_,λp hp=>?_,Si.rh,Si.rf,λp q hq=>?_,λp q hq=>?_,Si.same⟩
 ·by_cases ib:j=i
  ·subst ib;rw[List.getElem?_set_self hi]at hj;cases hj;refine⟨v,List.getElem?_set_self (by rw[<- Si.len];exact hi),rp.imp (q':=[j]) (λ_ _ h=>h) λc p xs f h=>?_⟩;cases f with
   |ow=>rw[List.append_nil]at h;exact⟨h.1,by simp only[sv,h.2]⟩
   |fz=>exact h
   |al=>exact h
   |sc=>exact h
  ·rw[List.getElem?_set_ne (Ne.symm ib)]at hj;obtain⟨w,hw,jB⟩:=Si.rep j d' hj;refine⟨w,by rw[List.getElem?_set_ne (Ne.symm ib)];exact hw,jB.imp (λ_ _ h=>h) λc p xs f h=>?_⟩;cases f with
   |ow =>
    refine⟨h.1,?_⟩;cases q:τt p with
    |none=>simp only[sv,q];exact h.2
    |some k=>have:=(ht p k q).1;rw[h.2]at this;cases this
   |fz=>exact h
   |al=>exact h
   |sc=>exact h
 ·cases q:τt p with
  |none=>simp only[sv,q];exact Si.rt p hp
  |some k=>exact absurd hp (ht p k q).2.1
 ·cases z:τt p with
  |none=>simp only[sv,z]at hq;exact Si.th p q hq
  |some k=>exact(ht p k z).2.2.2
 ·cases z:τt p with
  |none=>simp only[sv,z]at hq;exact Si.t0 p q hq
  |some k=>exact(ht p k z).2.2.1
theorem SI.set{i:Nat}{v:V}{d:D}(Si:SI X F R τ ρ σ H)(r:gj X R τ H v d)(hi:i<ρ.length):∃τ',SI X F R τ' (ρ.set i (some d)) (σ.set i (some v)) H:=by
 obtain⟨τt,ht,rp⟩:=r;exact⟨_,Si.Kh ht rp hi⟩
theorem wz{k:aZ}{v:V}{d:D}(h:Rep (aU X.K H) (nd X.K R (λ_=>False) τ H) k v d)(ho:bc cp d=false):gj X R τ H v d :=
 ⟨λ_=>none,λ_ _ h=>by simp at h,Rep.without (P:=cp) (λ_ _ h=>h) (λk k' p xs f hf h=>by
  cases f with
  |ow=>cases hf
  |fz=>exact h
  |al=>exact h.2.elim
  |sc=>exact h) h ho _⟩
open Classical in
theorem SI.move{i:Nat}{d:D}(Si:SI X F R τ ρ σ H)(hd:ρ[i]?=some (some d)):∃v τ',σ[i]?=some (some v)/\SI X F R τ' (ρ.set i none) σ H/\gj X R τ' H v d:=by
 obtain⟨v,hv,rp⟩:=Si.rep i d hd;refine⟨v,λp=>match τ p with|some q=>if q.getLast?=some i then none else some q|none=>none,hv,⟨by simp[Si.len],λj d' hj=>?_,λp hp=>?_,Si.rh,Si.rf,λp q hq=>?_,λp q hq=>?_,Si.same⟩,
  λp=>match τ p with|some q=>if q.getLast?=some i then(if H p=none then none else some q.dropLast)else none|none=>none,λp q hq=>?_,rp.imp (q:=[i]) (q':=[]) (λ_ _ h=>h) λc p xs f h=>?_⟩
 ·by_cases ib:j=i
  ·subst ib;rw[List.getElem?_set]at hj;simp at hj
  ·rw[List.getElem?_set_ne (Ne.symm ib)]at hj;obtain⟨w,hw,jB⟩:=Si.rep j d' hj;refine⟨w,hw,jB.imp (q:=[j]) (q':=[j]) (λ_ _ h=>h) λc p xs f h=>?_⟩;cases f with
   |ow =>
    refine⟨h.1,?_⟩;simp only[h.2];rw[if_neg (by simp;exact ib)]
   |fz=>exact h
   |al=>exact h
   |sc=>exact h
 ·simp only[Si.rt p hp]
 ·cases z:τ p with
  |none=>simp only[z]at hq;cases hq
  |some k=>exact Si.th p k z
 ·cases z:τ p with
  |none=>simp only[z]at hq;cases hq
  |some k=>exact Si.t0 p k z
 ·cases z:τ p with
  |none=>simp only[z]at hq;cases hq
  |some k =>
   simp only[z]at hq ⊢;by_cases hl:k.getLast?=some i
   ·rw[if_pos hl];exact⟨rfl,(λhR=>by have:=Si.rt p hR;rw[z]at this;cases this),Si.t0 p k z,Si.th p k z⟩
   ·rw[if_neg hl]at hq;cases hq
 ·cases f with
  |ow =>
   refine⟨h.1,?_⟩;have hn:H p≠none:=h.1.ne;simp only[h.2];rw[if_pos (by simp),if_neg hn];simp
  |fz=>exact h
  |al=>exact h.2.elim
  |sc=>exact h
theorem uV(is:aJ)(ρ:aX)(j:Nat)(d:D)(h:(ic is ρ)[j]?=some (some d)):∃d',ρ[j]?=some (some d')/\d=(if j∈is then aI aY d' else d'):=by
 unfold ic at h;rw[List.getElem?_mapIdx]at h;cases q:ρ[j]? with
 |none=>rw[q]at h;exact nk h
 |some o =>
  rw[q]at h;cases o with
  |none=>simp at h
  |some d' =>
   refine⟨d',rfl,?_⟩;by_cases hj:j∈is
   ·simp[hj]at h ⊢;exact h.symm
   ·simp[hj]at h ⊢;exact h.symm
open Classical in
theorem uW(Si:SI X F R τ ρ σ H)(es:aG H H'):
  ∃R' τ',(∀p,R p->R' p)/\SI X F R' τ' (ic fv ρ) σ H'/\∀τt:Addr->Option aZ,(∀p q,τt p=some q->H p=none)->∀(k k':aZ) (p:Addr) (xs:Nd) (f:Fl),nd X.K R (iQ (gP X F) τ fv) τt H' k p xs f->nd X.K R' (λ_=>False) (λ_=>none) H' k' p xs (aY f):=by
 have gg:=Si.go es;have fresh:∀p,H p=none->iQ (gP X F) τ fv p:=λp hp=>⟨.inr (Si.same.free hp),λc i e=>absurd hp (Si.th p _ e)⟩
 refine⟨λp=>R p\/(H' p≠none/\iQ (gP X F) τ fv p),λp=>if iQ (gP X F) τ fv p then none else τ p,λp h=>.inl h,⟨by simp[ic,Si.len],λj d' hj=>?_,λp hp=>?_,λp hp=>?_,λp hp=>?_,λp q hq=>?_,λp q hq=>?_,gg.same⟩,λτt fr k k' p xs f h=>?_⟩
 ·obtain⟨d0,h0,e0⟩:=uV _ _ _ _ hj;obtain⟨w,hw,jB⟩:=gg.rep j d0 h0;refine⟨w,hw,?_⟩;by_cases N7:j∈fv
  ·rw[if_pos N7]at e0;subst e0;refine Rep.map (q:=[j]) (q':=[j]) (λ_ _ h=>h) (λc p xs f h=>?_) jB [] rfl;cases f with
   |ow =>
    refine⟨h.1,.inr ⟨h.1.ne,.inr (Si.t0 p _ h.2),λc' i' e'=>?_⟩⟩;rw[h.2]at e';have:=Yn List.getLast? (Yg e');simp at this;subst this;exact N7
   |fz=>exact⟨h.1,.inl h.2⟩
   |al=>exact h.2.elim
   |sc=>exact h
  ·rw[if_neg N7]at e0;subst e0;refine jB.imp (q:=[j]) (q':=[j]) (λ_ _ h=>h) λc p xs f h=>?_;cases f with
   |ow =>
    refine⟨h.1,?_⟩;show(if iQ (gP X F) τ fv p then none else τ p)=some (c++[j]);rw[if_neg (λz=>N7 (z.2 c j h.2))];exact h.2
   |fz=>exact⟨h.1,.inl h.2⟩
   |al=>exact h.2.elim
   |sc=>exact h
 ·rcases hp with hp|hp
  ·simp only[Si.rt p hp];split<;>rfl
  ·rw[if_pos hp.2]
 ·rcases hp with hp|hp
  ·exact gg.rh p hp
  ·exact hp.1
 ·rcases hp with hp|hp
  ·exact Si.rf p hp
  ·exact hp.2.1
 ·split at hq
  ·cases hq
  ·exact gg.th p q hq
 ·split at hq
  ·cases hq
  ·exact Si.t0 p q hq
 ·cases f with
  |ow=>exact⟨h.1,.inr ⟨h.1.ne,fresh p (fr p _ h.2)⟩⟩
  |fz=>exact⟨h.1,.inl h.2⟩
  |al=>exact⟨h.1,.inr ⟨h.1.ne,h.2⟩⟩
  |sc=>exact h
theorem oZ{v:V}{d:D}(Si:SI X F R τ ρ σ H)(es:aG H H')(r:bC X.K (gP X F) R τ fv H H' v d):
  ∃R' τ',(∀p,R p->R' p)/\SI X F R' τ' (ic fv ρ) σ H'/\Rep (aU X.K H') (nd X.K R' (λ_=>False) (λ_=>none) H') [] v (aI aY d):=by
 obtain⟨τt,fr,rp⟩:=r;obtain⟨R',τ',h1,h2,h3⟩:=uW (fv:=fv) Si es;exact⟨R',τ',h1,h2,Rep.gz (λ_ _ h=>h) (h3 τt fr) rp _⟩
theorem ra(Si:SI X F R τ ρ σ H)(es:aG H H')(r:bX X.K (gP X F) R τ fv H H' vs ds):
  ∃R' τ',(∀p,R p->R' p)/\SI X F R' τ' (ic fv ρ) σ H'/\aA (aU X.K H') (nd X.K R' (λ_=>False) (λ_=>none) H') [] 0 vs (az aY ds):=by
 obtain⟨τt,fr,rp⟩:=r;obtain⟨R',τ',h1,h2,h3⟩:=uW (fv:=fv) Si es;exact⟨R',τ',h1,h2,aA.gz (λ_ _ h=>h) (h3 τt fr) rp _ _⟩
theorem kr{v:V}{d:D}(h:Rep (aU X.K H) (nd X.K R (λ_=>False) (λ_=>none) H) [] v d):gj X R τ' H v d:=⟨λ_=>none,λ_ _ h=>by simp at h,h⟩
open Classical in
theorem Eh{e:CE}{v:V}{d:D}(Si:SI X F R τ ρ σ H)(es:aG H H')(r:bC X.K (gP X F) R τ (gc e) H H' v d):
  ∃R' τ',(∀p,R p->R' p)/\SI X F R' τ' (keep e d ρ).2 σ H'/\gj X R' τ' H' v (keep e d ρ).1:=by
 unfold keep;by_cases ha:bc bA d=true
 ·rw[if_pos ha];obtain⟨R',τ',h1,h2,h3⟩:=oZ Si es r;exact⟨R',τ',h1,h2,kr h3⟩
 ·obtain⟨τt,fr,rp⟩:=r;rw[if_neg ha];refine⟨R,τ,λ_ h=>h,Si.go es,λp=>if H' p=none then none else τt p,λp q hq=>?_,?_⟩
  ·dsimp only at hq;split at hq
   ·cases hq
   ·rename_i hn;have hf:=fr p q hq;refine⟨?_,λhR=>Si.rh p hR hf,Si.same.free hf,hn⟩;cases z:τ p with
    |none=>rfl
    |some k=>exact absurd hf (Si.th p k z)
  ·have Ob:bc bA d=false:=by simpa using ha
   have st:∀{k:aZ} {v:V} {d:D},Rep (aU X.K H') (nd X.K R (iQ (gP X F) τ (gc e)) τt H') k v d->bc bA d=false->Rep (aU X.K H') (nd X.K R (λ_=>False) (λp=>if H' p=none then none else τt p) H') k v d:=by
    intro k v d h ha;exact Rep.iR (P:=bA) (λ_ _ h=>h) (λk p xs f hf h=>by
     cases f with
     |ow=>exact⟨h.1,by show(if H' p=none then none else τt p)=_;rw[if_neg (h.1.ne)];exact h.2⟩
     |fz=>exact h
     |al=>cases hf
     |sc=>exact h) h ha
   exact st rp Ob
open Classical in
def tK(X:Cx)(F:ah)(Φ:aQ)(c:CE):TE:=λσ H Q=>∃R τ ρ r,SI X F R τ ρ σ H/\g9 Φ c ρ=ok r/\∀v H' R' τ',aG H H'->(∀p,R p->R' p)->SI X F R' τ' r.2 σ H'->gj X R' τ' H' v r.1->Q v H'
end
theorem iD{env:Env}:∀(names:List (Str×NameKind)) (acc:List (Str×Addr)),(∀x,(x,NameKind.free)∈names->∃c,env.cells.lookup x=some c) ->
  ∃cl,(forIn names acc (λ(y:Str×NameKind) (cs:List (Str×Addr))=>do
    let (name,kind):=y
    let mut cs:=cs
    if kind==.free then cs:=(name,<- cellOf env name)::cs
    pure (ForInStep.yield cs)):Sem (List (Str×Addr)))=pure cl /\
   (∀x c,cl.lookup x=some c->acc.lookup x=some c\/(env.cells.lookup x=some c/\(x,NameKind.free)∈names))/\(∀x,((x,NameKind.free)∈names\/(∃c,acc.lookup x=some c))->∃c,cl.lookup x=some c)
 |[],acc,_=>⟨acc,rfl,λx c h=>.inl h,λx h=>h.elim (λh=>nomatch h) id⟩
 | (n,kd)::names,acc,h=>by
  by_cases hk:kd=.free
  ·subst hk;obtain⟨c,hc⟩:=h n X9;obtain⟨cl,e,h1,h2⟩:=iD names ((n,c)::acc) (λx hx=>h x (X_ _ hx));refine⟨cl,?_,λx c' hx=>?_,λx hx=>?_⟩
   ·rw[List.forIn_cons];have e0:cellOf env n=pure c:=by unfold cellOf;rw[hc]
    simp only[beq_self_eq_true,if_true,e0,pure_bind];exact e
   ·rcases h1 x c' hx with z|z
    ·by_cases LG:x=n
     ·subst LG;simp at z;subst z;exact .inr ⟨hc,X9⟩
     ·rw[List.lookup_cons]at z;have:(x==n)=false:=by simpa using LG
      rw[this]at z;exact .inl z
    ·exact .inr ⟨z.1,X_ _ z.2⟩
   ·refine h2 x ?_;rcases hx with hx|⟨c',hx⟩
    ·rcases List.mem_cons.mp hx with z|z
     ·cases z;exact .inr ⟨c,by simp⟩
     ·exact .inl z
    ·by_cases LG:x=n
     ·subst LG;exact .inr ⟨c,by simp⟩
     ·refine .inr ⟨c',?_⟩;rw[List.lookup_cons];have:(x==n)=false:=by simpa using LG
      rw[this];exact hx
  ·obtain⟨cl,e,h1,h2⟩:=iD names acc (λx hx=>h x (X_ _ hx));have hb:(kd==NameKind.free)=false:=by simpa using hk
   refine⟨cl,?_,λx c' hx=>(h1 x c' hx).imp id λz=>⟨z.1,X_ _ z.2⟩,λx hx=>h2 x ?_⟩
   ·rw[List.forIn_cons];simp only[hb,Bool.false_eq_true,if_false,pure_bind];exact e
   ·rcases hx with hx|hx
    ·rcases List.mem_cons.mp hx with z|z
     ·cases z;exact absurd rfl hk
     ·exact .inl z
    ·exact .inr hx
variable {env:Env}
theorem tM{sc:Scope}(h:∀x,(x,NameKind.free)∈sc.names->∃c,env.cells.lookup x=some c):
  ∃cl,closureFor sc env=pure cl/\(∀x c,cl.lookup x=some c->env.cells.lookup x=some c)/\(∀x,(x,NameKind.free)∈sc.names->∃c,cl.lookup x=some c):=by
 obtain⟨cl,e,h1,h2⟩:=iD (env:=env) sc.names [] h;refine⟨cl,?_,λx c hx=>(h1 x c hx).elim (λz=>by simp at z) (·.1),λx hx=>h2 x (.inl hx)⟩;unfold closureFor;simp only[bind_pure];exact e
variable {P prog:aE}{e1 e2 g_ iter o target tg value:Expr}{w:World}
theorem o8{A:aD}{R:Result->Shared->Prop}{s:Shared}{elt:Expr}{ifs:ai}{scope:Scope}{it acc:Value}(I:Nat->Shared->Prop)
  (turn:∀n s,I n s->wpAny (model prog w) A (pyNext it) (λr s₁=>match r with
   |none=>R (.ok .next) s₁
   |some v=>wpAny (model prog w) A (letOwnedTupleGo target it v) (λ_ s₁=>wpAny (model prog w) A (assign target env v) (λ_ s₂ =>
     wpAny (model prog w) A (forIn ifs true λc r=>if r=true then do let ok <- isTrue c env (eval c env);pure (ForInStep.yield ok)else pure (ForInStep.yield r)) (λok s₃ =>
      if ok=true then wpAny (model prog w) A (eval elt env) (λx s₄ =>
       wpAny (model prog w) A (call (.builtin "list.append") [acc,x]) (λ_ s₅=>∃m,m<n/\I m s₅) (λ_ _=>False) s₄) (λ_ _=>False) s₃
      else ∃m,m<n/\I m s₃) (λ_ _=>False) s₂) (λ_ _=>False) s₁) (λ_ _=>False) s₁) (λ_ _=>False) s)
  (n:Nat) (h:I n s) :
  codeAny (model prog w) A (.compLoop (.ListComp elt [⟨target,iter,ifs,0⟩] scope pos) 0 it acc env) R s:=by
 refine codeAny_loop rfl I (λn s hI=>?_) n h;show wpAny _ A ((compTurn (.ListComp elt [⟨target,iter,ifs,0⟩] scope pos) 0 it acc env).onRaise (λx=>do noteFrame x env;theTreesLotGoes x)) _ _ s;refine wpAny_noted ?_;rw[compTurn_list];refine X4 (ZX (X4 (Yp (turn n s hI) (λr s₁ h₁=>?_) λ_ _ h'=>h'.elim)));cases r with
 |none=>exact X6 h₁
 |some v =>
  refine X4 (Yp h₁ (λ_ s₂ h₂=>?_) λ_ _ h'=>h'.elim);refine X4 (Yp h₂ (λ_ s₂ h₂=>X4 (Yp h₂ (λok s₃ h₃=>?_) λ_ _ h'=>h'.elim)) λ_ _ h'=>h'.elim);cases ok with
  |false=>exact X6 ⟨rfl,h₃⟩
  |true =>
   exact X4 (X4 (Yp h₃ (λx s₄ h₄=>X4 (Yp h₄ (λ_ s₅ h₅=>X6 (X6 ⟨rfl,h₅⟩)) λ_ _ h'=>h'.elim)) λ_ _ h'=>h'.elim))
noncomputable def dq(X:Cx)(N':af)(scope:Scope)(cl:List (Str×Addr))(C:Addr)(s₀:Shared)(H₀:Hp)(fp:aW):Cx :=
 { X with N:=N',s₀:=s₀,H₀:=H₀,env:=compEnvC scope cl C X.env,outer:=X.stack,stack:=X.stack,ex:=fp,fn:=λ_=>false,pn:=[],xe:=λ_ _=>False }
theorem eA{env:Env}:∀{names:List (Str×NameKind)} {x:Str} {kd:NameKind},(names.map λ(n,k)=>if (k==NameKind.free&&env.scope.kind==.function&&env.kindOf n==some .cell)then(n,NameKind.cell)else(n,k)).lookup x=some kd ->
  names.lookup x=some kd\/(kd=.cell/\names.lookup x=some .free)
 |[],_,_,h=>by simp at h
 | (n,k)::r,x,kd,h=>by
  rw[List.map_cons]at h;cases hx:x==n with
  |true =>
   by_cases hc:(k==NameKind.free&&env.scope.kind==.function&&env.kindOf n==some .cell)=true
   ·simp only[hc,if_true,List.lookup_cons,hx]at h;cases h;simp only[Bool.and_eq_true,beq_iff_eq]at hc;refine .inr ⟨rfl,?_⟩;rw[List.lookup_cons,hx,hc.1.1]
   ·have xg:(k==NameKind.free&&env.scope.kind==.function&&env.kindOf n==some .cell)=false:=by simpa using hc
    simp only[xg,Bool.false_eq_true,if_false,List.lookup_cons,hx]at h;cases h;exact .inl (by rw[List.lookup_cons,hx])
  |false =>
   have:List.lookup x (r.map λ(n,k)=>if (k==NameKind.free&&env.scope.kind==.function&&env.kindOf n==some .cell)then(n,NameKind.cell)else(n,k))=some kd:=by
    by_cases hc:(k==NameKind.free&&env.scope.kind==.function&&env.kindOf n==some .cell)=true
    ·simp only[hc,if_true,List.lookup_cons,hx]at h;exact h
    ·have xg:(k==NameKind.free&&env.scope.kind==.function&&env.kindOf n==some .cell)=false:=by simpa using hc
     simp only[xg,Bool.false_eq_true,if_false,List.lookup_cons,hx]at h;exact h
   rw[List.lookup_cons,hx];exact eA this
theorem cF{env:Env}:∀{names:List (Str×NameKind)} {x:Str},names.lookup x=some .free ->
  (names.map λ(n,k)=>if (k==NameKind.free&&env.scope.kind==.function&&env.kindOf n==some .cell)then(n,NameKind.cell)else(n,k)).lookup x=some .free \/
  (names.map λ(n,k)=>if (k==NameKind.free&&env.scope.kind==.function&&env.kindOf n==some .cell)then(n,NameKind.cell)else(n,k)).lookup x=some .cell
 |[],_,h=>by simp at h
 | (n,k)::r,x,h=>by
  rw[List.map_cons];cases hx:x==n with
  |true =>
   rw[List.lookup_cons,hx]at h;cases h;by_cases hc:(NameKind.free==NameKind.free&&env.scope.kind==.function&&env.kindOf n==some .cell)=true
   ·simp only[hc,if_true,List.lookup_cons,hx];exact .inr trivial
   ·have xg:(NameKind.free==NameKind.free&&env.scope.kind==.function&&env.kindOf n==some .cell)=false:=by simpa using hc
    simp only[xg,Bool.false_eq_true,if_false,List.lookup_cons,hx];exact .inl trivial
  |false =>
   rw[List.lookup_cons,hx]at h;by_cases hc:(k==NameKind.free&&env.scope.kind==.function&&env.kindOf n==some .cell)=true
   ·simp only[hc,if_true,List.lookup_cons,hx];exact cF h
   ·have xg:(k==NameKind.free&&env.scope.kind==.function&&env.kindOf n==some .cell)=false:=by simpa using hc
    simp only[xg,Bool.false_eq_true,if_false,List.lookup_cons,hx];exact cF h
theorem cU{names:List (Str×NameKind)}{x:Str}{kd:NameKind}(h:names.lookup x=some kd):(x,kd)∈names:=YO h
structure iP(S:Sx)(n:Nat)(t:Tg)(caps:aJ)(target:Expr)(sc:Scope):Prop where
 kind:sc.kind=.function
 yM:∀y∈sc.names,y.2≠.cell
 loc:∀y∈sc.names,y.2=.local->sc.names.lookup y.1=some .local
 free:∀x,(x,NameKind.free)∈sc.names->S.sc.names.lookup x=some .cell\/S.sc.names.lookup x=some .free
 n:n=(bO target).length
 tl:∀x∈bO target,sc.names.lookup x=some .local
 nd:(bO target++fc S caps).Nodup
 fe:∀i∈caps,∃x,S.N[i]?=some x/\sc.names.lookup x=some .free
 tg:(∃x p,t=.nm 0/\target=.Name x p)\/(∃es k p,t=.tp (List.range es.length)/\target=.Tuple es k p/\es.all isNm=true)
set_option tactic.hygienic true in
theorem nP{n:Nat}{t:Tg}{sc:Scope}(h:pg S n t caps target sc=true):iP S n t caps target sc:=by
 unfold pg at h;simp only[Bool.and_eq_true,decide_eq_true_eq,List.all_eq_true,Bool.or_eq_true]at h;obtain⟨⟨⟨⟨⟨⟨h1,h2⟩,h3⟩,h4⟩,h5⟩,h6⟩,h7⟩:=h;refine⟨h1,λy hy=>(h2 y hy).1.1,λy hy hk=>?_,λx hx=>?_,h3,h4,h5,λi hi=>?_,?_⟩
 ·rcases(h2 y hy).1.2 with z|z
  ·exact absurd hk z
  ·exact z
 ·rcases(h2 _ hx).2 with (z|z)|z
  ·exact absurd rfl z
  ·exact .inl z
  ·exact .inr z
 ·have:=h6 i hi;split at this
  ·rename_i x e;exact⟨x,e,X5 this⟩
  ·cases this
 ·cases t with
  |nm i =>
   obtain⟨g1,g2⟩:=aL h7;obtain rfl:i=0:=X5 g1;obtain⟨x,p,rfl⟩:=i7 g2;exact .inl ⟨x,p,rfl,rfl⟩
  |tp is =>
   obtain⟨es,hv,g⟩:=br h7;obtain⟨k,p,rfl⟩:=iT hv;obtain⟨g1,g2⟩:=aL g;obtain rfl:is=_:=X5 g1;exact .inr ⟨es,k,p,rfl,rfl,g2⟩
theorem rM{S:Sx}:∀{caps:aJ},(∀i∈caps,∃x,S.N[i]?=some x)->(fc S caps).length=caps.length/\∀(j i:Nat),caps[j]?=some i->(fc S caps)[j]?=S.N[i]?
 |[],_=>⟨rfl,λj i h=>by simp at h⟩
 |i::caps,h=>by
  obtain⟨x,hx⟩:=h i X9;obtain⟨h1,h2⟩:=rM (caps:=caps) λj hj=>h j (X_ _ hj);have e:fc S (i::caps)=x::fc S caps:=by unfold fc;rw[List.filterMap_cons,hx]
  rw[e];refine⟨by simp[h1],λj k hj=>?_⟩;cases j with
  |zero=>simp at hj;subst hj;simp[hx]
  |succ j=>simp at hj ⊢;exact h2 j k hj
variable {base h' h₁:Heap}
section
variable {X:Cx}{S:Sx}{k:Nat}{Φ:aQ}{pins:aj}{σ:St}{H2:Hp}{s₂:Shared}
noncomputable def mq(n:Nat)(caps:aJ)(σ:St):St:=List.replicate n none++caps.map λi=>σ[i]?.getD none
noncomputable def dO(aF:ak)(n:Nat):Obj:={ cls:=.type "list",data:=.seq aF.toArray n }
theorem Di{n:Nat}{t:Tg}{sc:Scope}{cl:List (Str×Addr)}(L:Lk X S k Φ)(co:iP S n t caps target sc)(I2:Inv X pins σ H2 s₂)
  (kc:∀x c,cl.lookup x=some c->X.env.cells.lookup x=some c) (tf:∀x,(x,NameKind.free)∈sc.names->∃c,cl.lookup x=some c) (CJ:∀b∈fp,l9 X pins H2 b) (Hk:∀b∈fp,b<s₂.heap.objs.size) :
  (dq X (bO target++fc S caps) sc cl (s₂.heap.objs.size+1) s₂ H2 fp).Ok:=by
 have QM:=I2.jw;refine⟨I2.ok.mod,co.kind,I2.ok.glob,I2.ok.blt,ZS _,λx y c h1 h2=>I2.ok.inj x y c (kc x c h1) (kc y c h2),λx hx=>?_,(λ_ _ z=>by cases z),I2.ok.hd,I2.ok.frames,.inl rfl,λb hb=>⟨?_,λx c e=>(CJ b hb).2.2.2.2.1 x c (kc x c e)⟩,I2.bs,Yi I2.ok.ED I2.sz,λb o e hb=>?_,λb hb z=>?_,I2.stack,I2.ug⟩
 ·have AR:(relabel sc X.env).names.lookup x=some .cell\/(relabel sc X.env).names.lookup x=some .free:=hx;rcases AR with AR|AR
  ·rcases eA AR with z|z
   ·exact absurd rfl (co.yM _ (cU z))
   ·exact tf x (cU z.2)
  ·rcases eA AR with z|z
   ·exact tf x (cU z)
   ·cases z.1
 ·exact Yf (Ys (Hk b hb))
 ·rcases(CJ b hb).2.2.2.1 with z|z
  ·exact I2.ok.yL b o e z
  ·exact absurd (Yc (Ya e) (Yi I2.ok.ED z)) (Ym _)
 ·rcases List.mem_cons.mp (QM b z)with w|w
  ·exact(CJ b hb).2.1 w
  ·exact(CJ b hb).2.2.1 w
theorem zh{n:Nat}{t:Tg}{sc:Scope}{cl:List (Str×Addr)}{tk:Nat}(L:Lk X S k Φ)(co:iP S n t caps target sc)(I2:Inv X pins σ H2 s₂)
  (kc:∀x c,cl.lookup x=some c->X.env.cells.lookup x=some c) (tf:∀x,(x,NameKind.free)∈sc.names->∃c,cl.lookup x=some c) (CJ:∀b∈fp,l9 X pins H2 b) (Hk:∀b∈fp,b<s₂.heap.objs.size)
  (s9:h₁.Ns (s₂.heap.objs.size+1) λ_=>none) (old:∀b o,s₂.heap.get? b=some o->h₁.get? b=some o) (fQ:h₁.get? s₂.heap.objs.size=some (dO [] 0)) :
  Inv (dq X (bO target++fc S caps) sc cl (s₂.heap.objs.size+1) s₂ H2 fp) [(s₂.heap.objs.size,dO [] 0)] (mq n caps σ) H2 { s₂ with heap:=h₁,toks:=tk }:=by
 have oW:∀i∈caps,∃x,S.N[i]?=some x:=λi hi=>let ⟨x,e,_⟩:=co.fe i hi;⟨x,e⟩;obtain⟨Xf,Xe⟩:=rM oW;refine⟨Di L co I2 kc tf CJ Hk,rfl,I2.bare,Un.kept old,⟨_,s9,λi x v e1 e2 e3=>?_⟩,λx c e=>?_,I2.cJ.fresh (ZS _),λx c e=>I2.ie x c (kc x c e),λp hp=>?_,I2.cJ.kept old,?_⟩
 ·unfold mq at e2;have hi:n<=i:=by
   by_cases hi:i<n
   ·rw[List.getElem?_append_left (by simpa using hi),List.getElem?_replicate,if_pos hi]at e2;cases e2
   ·left
  have Ot:(bO target++fc S caps)[i]?=some x:=e1;rw[List.getElem?_append_right (by rw[<- co.n];exact hi),<- co.n]at Ot;rw[List.getElem?_append_right (by simpa using hi),List.length_replicate,List.getElem?_map]at e2;cases hc:caps[i - n]? with
  |none=>rw[hc]at e2;cases e2
  |some ci =>
   rw[hc]at e2;rw[Xe _ _ hc]at Ot;obtain⟨x',MK,N9⟩:=co.fe ci (Yk hc);rw[MK]at Ot;cases Ot;have Xc:σ[ci]?=some (some v):=by
    have MO:σ[ci]?.getD none=some v:=Yg e2;cases q:σ[ci]? with
    |none=>rw[q]at MO;cases MO
    |some o=>rw[q]at MO;simp at MO;rw[MO]
   have QG:IE X.env.scope x:=by
    unfold IE;rw[L.sc];rcases co.free x (cU N9)with z|z
    ·exact .inr (.inl z)
    ·exact .inr (.inr z)
   obtain⟨m,hn,hl⟩:=I2.loc;obtain⟨u,r,lk⟩:=hl ci x v (by rw[L.N];exact MK) Xc QG;refine⟨u,r,.inr ⟨?_,?_⟩⟩
   ·rcases cF (env:=X.env) N9 with z|z
    ·exact .inr z
    ·exact .inl z
   ·have Wz:∃c,X.env.cells.lookup x=some c/\s₂.heap.IsCell c (some u):=by
     rcases lk with ⟨z,_⟩|⟨_,z⟩
     ·have z':X.env.scope.names.lookup x=some .local:=z;rw[L.sc]at z';rcases co.free x (cU N9)with w|w<;>(rw[w]at z';cases z')
     ·exact z
    obtain⟨c,ec,o,ho,hd⟩:=Wz;obtain⟨c',Ux⟩:=tf x (cU N9);have:=kc x c' Ux;rw[ec]at this;cases this;exact⟨c,Ux,o,old _ _ ho,hd⟩
 ·obtain⟨v,o,ho,hd⟩:=I2.cell x c (kc x c e);exact⟨v,o,old _ _ ho,hd⟩
 ·have xd:p=(s₂.heap.objs.size,dO [] 0):=by simpa [dq]using hp
  subst xd;refine⟨fQ,I2.cJ.fresh (Yb _),Yf (YH _),λz=>?_,λv z=>by cases z⟩;rcases List.mem_cons.mp (I2.jw _ z)with w|w
  ·exact absurd w (Yj I2.lt)
  ·exact I2.Gw (Yb _) w
 ·show(mq n caps σ).length=(bO target++fc S caps).length;unfold mq;rw[List.length_append,List.length_append,List.length_replicate,List.length_map,Xf,co.n]
end
theorem aA.snoc{T:jr}{N:gk}{k:aZ}:∀{n:Nat} {vs:ae} {ds:ab} {v:V} {d:D},aA T N k n vs ds->Rep T N ((n+ds.length)::k) v d->aA T N k n (vs++[v]) (ds++[d])
 |n,_,_,_,_,.nil,h=>.cons h .nil
 |n,_,_,_,_,.cons (ds:=ds) h t,r=>.cons h (aA.snoc t (by
  have e:n+(ds.length+1)=n+1+ds.length:=by left
  rw[List.length_cons,e]at r;exact r))
open Classical in
theorem bX.snoc{K:ao}{G R:ah}{τ:Addr->Option aZ}{fv:aJ}{H H1 H2:Hp}{v:V}{d:D}{vs:ae}{ds:ab}(e1:aG H H1)(e2:aG H1 H2)(h:bX K G R τ fv H H1 vs ds)(t:bC K G R τ fv H1 H2 v d):
  bX K G R τ fv H H2 (vs++[v]) (ds++[d]):=by
 obtain⟨τ1,f1,h1⟩:=h;obtain⟨τ2,f2,h2⟩:=t;refine⟨λp=>if H1 p=none then(τ2 p).map (· ++ [ds.length])else τ1 p,λp q hq=>?_,aA.snoc (h1.imp (q:=[]) (q':=[]) (λ_ _ h=>aU.same e2 h) λc p xs f h=>?_) ((Nat.zero_add ds.length).symm▸h2.imp (q:=[]) (q':=[ds.length]) (λ_ _ h=>h) λc p xs f h=>?_)⟩
 ·dsimp only at hq;by_cases hp:H1 p=none
  ·exact e1.free hp
  ·rw[if_neg hp]at hq;exact f1 p q hq
 ·have h':=nd.same e2 h;cases f with
  |ow =>
   refine⟨h'.1,?_⟩;show(if H1 p=none then(τ2 p).map (· ++ [ds.length])else τ1 p)=_;rw[if_neg (h.1.ne)];exact h.2
  |fz=>exact h'
  |al=>exact h'
  |sc=>exact h'
 ·cases f with
  |ow =>
   refine⟨h.1,?_⟩;show(if H1 p=none then(τ2 p).map (· ++ [ds.length])else τ1 p)=_;rw[if_pos (f2 p _ h.2),h.2];simp
  |fz=>exact h
  |al=>exact h
  |sc=>exact h
structure Yl(K:ao)(J:It)(R:ah)(H1:Hp)(items:ab):Prop where
 go:∀i H',aG H1 H'->i<items.length->J.go i H'
 rY:∀i H' x kh,aG H1 H'->i<items.length->J.rY i H' x kh->aG H' kh/\∃d,items[i]?=some d/\Rep (aU K kh) (nd K R (λ_=>False) (λ_=>none) kh) [] x d
 stop:∀i H',aG H1 H'->items.length<=i->J.stop i H'
variable {C i1 i2 l1 l2:Addr}{s₂:Shared}
section
variable {X:Cx}{S:Sx}{k:Nat}{F:ah}{Φ:aQ}
def jz(X:Cx)(F:ah)(τ:Addr->Option aZ)(fv:aJ)(H2:Hp)(p:Addr):Prop:=H2 p≠none/\iQ (gP X F) τ fv p
theorem sE(Si:SI X F R τ ρ σ H)(fr:∀p q,τt p=some q->H p=none)(hs:∀i∈fv,i∈fv')(kp kq:aZ)(p:Addr)(xs:Nd)(f:Fl)
  (h:nd X.K R (iQ (gP X F) τ fv) τt H2 kp p xs f):nd X.K (jz X F τ fv' H2) (λ_=>False) (λ_=>none) H2 kq p xs (aY f):=by
 cases f with
 |ow=>exact⟨h.1,h.1.ne,.inr (Si.same.free (fr p _ h.2)),λc i e=>absurd (fr p _ h.2) (Si.th p _ e)⟩
 |fz=>exact⟨h.1,h.1.ne,Si.rf p h.2,λc i e=>by rw[Si.rt p h.2]at e;cases e⟩
 |al=>exact⟨h.1,h.1.ne,h.2.mono hs⟩
 |sc=>exact h
theorem A6{a:Addr}{q:aZ}(hl:cM X.K H1 a xs)(rs:aA (aU X.K H1) (nd X.K R (λ_=>False) (λ_=>none) H1) q 0 xs items):Yl X.K (JD X.K a) R H1 items where
 go:=λi H' e hi=>⟨xs,xs[i]'(by rw[rs.length];exact hi),e.seq hl,Yh _⟩
 rY:=λi H' x kh e hi y=>by
  obtain⟨rfl,y⟩:=y;obtain⟨d,hd,rd⟩:=rs.wG (y xs (e.seq hl));refine⟨aG.refl _,d,hd,?_⟩;have:=Rep.gz (g:=id) (λ_ _ h=>h) nd.nJ rd [];rw[dC]at this;exact this.imp (λ_ _ h=>aU.same e h) λ_ _ _ _ h=>nd.same e h
 stop:=λi H' e hi=>⟨xs,e.seq hl,by rw[rs.length];exact hi⟩
theorem ES{a:Addr}{q:aZ}(hl:aU X.K H1 a xs)(rs:aA (aU X.K H1) (nd X.K R (λ_=>False) (λ_=>none) H1) q 0 xs items):Yl X.K (JC X.K a) R H1 items where
 go:=λi H' e hi=>⟨xs,xs[i]'(by rw[rs.length];exact hi),aU.same e hl,Yh _⟩
 rY:=λi H' x kh e hi y=>by
  obtain⟨rfl,y⟩:=y;obtain⟨d,hd,rd⟩:=rs.wG (y xs (aU.same e hl));refine⟨aG.refl _,d,hd,?_⟩;have:=Rep.gz (g:=id) (λ_ _ h=>h) nd.nJ rd [];rw[dC]at this;exact this.imp (λ_ _ h=>aU.same e h) λ_ _ _ _ h=>nd.same e h
 stop:=λi H' e hi=>⟨xs,aU.same e hl,by rw[rs.length];exact hi⟩
theorem ET{lo:Int}{n:Nat}:Yl X.K (xa lo n) R H1 ((List.range n).map λ(k:Nat)=>D.int (lo+(k:Int))) where
 go:=λi H' e hi=>by simpa [xa]using hi
 rY:=λi H' x kh e hi y=>by
  obtain⟨rfl,rfl⟩:=y;have mD:i<n:=by simpa using hi
  exact⟨aG.refl _,.int (lo+i),by rw[List.getElem?_map,List.getElem?_range mD];rfl,.int _⟩
 stop:=λi H' e hi=>by simpa [xa]using hi
theorem x6{n:Nat}{t:Tg}{sc:Scope}{cl:List (Str×Addr)}(Si:SI X F R τ ρ σ H2)(hs:∀i∈caps,i∈fv):
  SI (dq X (bO target++fc S caps) sc cl C s₂ H2 fp) (iQ (gP X F) τ fv) (jz X F τ fv H2) (λ_=>none) (bB n caps ρ) (mq n caps σ) H2:=by
 refine⟨by simp[bB,mq],λi d hi=>?_,λ_ _=>rfl,λp h=>h.1,λp h=>.inl h.2,λ_ _ h=>by simp at h,λ_ _ h=>by simp at h,aG.refl _⟩;unfold bB at hi;have hn:n<=i:=by
  by_cases hn:i<n
  ·rw[List.getElem?_append_left (by simpa using hn),List.getElem?_replicate,if_pos hn]at hi;cases hi
  ·left
 rw[List.getElem?_append_right (by simpa using hn),List.length_replicate,List.getElem?_map]at hi;cases hc:caps[i - n]? with
 |none=>rw[hc]at hi;exact nk hi
 |some ci =>
  rw[hc]at hi;have mD:(ρ[ci]?.getD none).map (aI aY)=some d:=Yg hi;have hr:∃d0,ρ[ci]?=some (some d0)/\aI aY d0=d:=by
   cases q:ρ[ci]? with
   |none=>rw[q]at mD;cases mD
   |some o =>
    cases o with
    |none=>rw[q]at mD;cases mD
    |some d0=>rw[q]at mD;exact⟨d0,rfl,Yg mD⟩
  obtain⟨d0,h0,rfl⟩:=hr;obtain⟨v,hv,rv⟩:=Si.rep ci d0 h0;refine⟨v,?_,Rep.gz (λ_ _ h=>h) (λkp kq p xs f h=>?_) ((rv.imp (q:=[ci]) (q':=[ci]) (N':=λq p xs f=>nd X.K R (λ_=>False) τ H2 q p xs f/\(f=.ow->∃c,q=c++[ci])) (λ_ _ h=>h) λc p xs f h=>⟨h,λ_=>⟨c,rfl⟩⟩)) [i]⟩
  ·unfold mq;rw[List.getElem?_append_right (by simpa using hn),List.length_replicate,List.getElem?_map,hc];simp[hv]
  ·obtain⟨h,hq⟩:=h;cases f with
   |ow =>
    obtain⟨c,rfl⟩:=hq rfl;refine⟨h.1,h.1.ne,.inr (Si.t0 p _ h.2),λc' i' e=>?_⟩;rw[h.2]at e;have:=Yn List.getLast? (Yg e);simp at this;subst this;exact hs _ (Yk hc)
   |fz=>exact⟨h.1,h.1.ne,Si.rf p h.2,λc i e=>by rw[Si.rt p h.2]at e;cases e⟩
   |al=>exact h.2.elim
   |sc=>exact h
theorem yN:∀{es:ai},es.all isNm=true->∃xs:List (Str×Pos),es=xs.map λx=>Expr.Name x.1 x.2
 |[],_=>⟨[],rfl⟩
 |e::es,h=>by
  rw[List.all_cons,Bool.and_eq_true]at h;obtain⟨xs,rfl⟩:=yN h.2;obtain⟨x,p,rfl⟩:=i7 h.1;exact⟨(x,p)::xs,rfl⟩
theorem sx(xs:List (Str×Pos)):(xs.map λx=>Expr.Name x.1 x.2).filterMap (λe=>match e with|.Name x _=>some x|_=>none)=xs.map (·.1):=by
 induction xs with
 |nil=>rfl
 |cons x xs ih=>simp[ih]
def zO(i:Nat):Nat->DQ
 |0=>HC
 |n+1=>zP (nI i) (zO (i+1) n)
theorem uv{X:Cx}(hN:X.N.Nodup):∀(xs:List (Str×Pos)) (i:Nat),(∀(j:Nat) x,xs[j]?=some x->X.N[i+j]?=some x.1/\X.env.scope.names.lookup x.1=some .local) ->
  JB X (xs.map λx=>Expr.Name x.1 x.2) (zO i xs.length)/\(assignEach (xs.map λx=>Expr.Name x.1 x.2) X.env).length=xs.length/\(assignEach (xs.map λx=>Expr.Name x.1 x.2) X.env).findIdx? (·.1)=none
 |[],_,_=>⟨uu,rfl,rfl⟩
 |x::xs,i,h=>by
  obtain⟨h1,h2,h3⟩:=uv hN xs (i+1) λj y hy=>by
   have:=h (j+1) y (by simpa using hy)
   rwa [show i+(j+1)=i+1+j by left]at this
  obtain⟨g1,g2⟩:=h 0 x rfl;refine⟨qx (oD hN g1 (.inl g2) (.inr g2)) h1 rfl,?_,?_⟩
  ·show(_::assignEach _ X.env).length=_;rw[List.length_cons,h2];rfl
  ·show(((false,assign (.Name x.1 x.2) X.env)::assignEach (xs.map λx=>Expr.Name x.1 x.2) X.env)).findIdx? (·.1)=none;rw[List.findIdx?_cons];simp[h3]
end
section
variable {X:Cx}{F R:ah}{τ:Addr->Option aZ}{ρ:aX}{σ σ':St}{H:Hp}
theorem SI.Kj{i:Nat}{v:V}{d:D}(Si:SI X F R τ ρ σ H)(rp:Rep (aU X.K H) (nd X.K R (λ_=>False) (λ_=>none) H) [] v d)(hi:i<ρ.length):SI X F R τ (ρ.set i (some d)) (σ.set i (some v)) H:=by
 refine⟨by simp[Si.len],λj d' hj=>?_,Si.rt,Si.rh,Si.rf,Si.th,Si.t0,Si.same⟩;by_cases ib:j=i
 ·subst ib;rw[List.getElem?_set_self hi]at hj;cases hj;refine⟨v,List.getElem?_set_self (by rw[<- Si.len];exact hi),rp.imp (q':=[j]) (λ_ _ h=>h) λc p xs f h=>?_⟩;cases f with
  |ow=>exact nomatch h.2
  |fz=>exact h
  |al=>exact h
  |sc=>exact h
 ·rw[List.getElem?_set_ne (Ne.symm ib)]at hj;obtain⟨w,hw,jB⟩:=Si.rep j d' hj;exact⟨w,by rw[List.getElem?_set_ne (Ne.symm ib)];exact hw,jB⟩
theorem SI.sig(Si:SI X F R τ ρ σ H)(hl:σ'.length=σ.length)(h:∀(i:Nat) d,ρ[i]?=some (some d)->σ'[i]?=σ[i]?):SI X F R τ ρ σ' H :=
 ⟨by rw[hl];exact Si.len,λi d hi=>let ⟨v,hv,r⟩:=Si.rep i d hi;⟨v,by rw[h i d hi];exact hv,r⟩,Si.rt,Si.rh,Si.rf,Si.th,Si.t0,Si.same⟩
theorem k9{Q:St->Hp->Prop}(σ0:St)(hi:Nat):∀{m i:Nat} {vs:ae} {ds:ab} {kp:aZ} {q:Nat} {σ:St} {ρ ρ':aX},i+m=hi->aA (aU X.K H) (nd X.K R (λ_=>False) (λ_=>none) H) kp q vs ds->SI X F R τ ρ σ H->fq (List.range' i m) ds ρ=ok ρ' ->
  σ.length=σ0.length->(∀j,hi<=j->σ[j]?=σ0[j]?)->(∀σ',σ'.length=σ0.length->(∀j,hi<=j->σ'[j]?=σ0[j]?)->SI X F R τ ρ' σ' H->Q σ' H)->zO i m vs σ H Q
 |0,_,_,_,_,_,σ,_,_,_,.nil,Si,e,h1,h2,hq=>by
  cases e;exact⟨rfl,hq σ h1 h2 Si⟩
 |0,_,_,_,_,_,_,_,_,_,.cons _ _,_,e,_,_,_=>by cases e
 |m+1,_,_,_,_,_,_,_,_,_,.nil,_,e,_,_,_=>by cases e
 |m+1,i,_,_,_,_,σ,ρ,_,him,.cons (v:=v) (d:=d) h t,Si,e,h1,h2,hq=>by
  change (if _ then _ else _)=_ at e;split at e
  ·rename_i mD;have gg:=Si.Kj (i:=i) (Rep.oN h) mD;refine⟨_,_,rfl,k9 σ0 hi (by left) t gg e (by simpa using h1) (λj hj=>?_) hq⟩;rw[List.getElem?_set_ne (by left)];exact h2 j hj
  ·cases e
end
section
variable {X:Cx}{S:Sx}{k:Nat}{F:ah}{Φ:aQ}
set_option tactic.hygienic true in
theorem Fd{n:Nat}{t:Tg}{sc:Scope}{cl:List (Str×Addr)}(L4:X.calm=true)(co:iP S n t caps target sc):
  ∃g,PG (dq X (bO target++fc S caps) sc cl C s₂ H2 fp) target g/\∀(F' R':ah) (x:V) (d:D) (σ':St) (kh:Hp) (Q:St->Hp->Prop) (ρb ρ1:aX),
   SI (dq X (bO target++fc S caps) sc cl C s₂ H2 fp) F' R' (λ_=>none) ρb σ' kh->Rep (aU X.K kh) (nd X.K R' (λ_=>False) (λ_=>none) kh) [] x d->bc cp d=false->cg t d ρb=ok ρ1 ->
   (∀σ2,σ2.length=σ'.length->(∀j,n<=j->σ2[j]?=σ'[j]?)->SI (dq X (bO target++fc S caps) sc cl C s₂ H2 fp) F' R' (λ_=>none) ρ1 σ2 kh->Q σ2 kh)->g x σ' kh Q:=by
 have Hj:∀x∈bO target,(relabel sc X.env).names.lookup x=some .local:=λx hx=>lookup_relabel_local (co.tl x hx);rcases co.tg with ⟨x,p,rfl,rfl⟩|⟨es,kk,p,rfl,rfl,wu⟩
 ·have hn:n=1:=co.n;subst hn;refine⟨nI 0,oD co.nd rfl (.inl (Hj x (List.mem_singleton.mpr rfl:x∈[x]))) (.inr (Hj x (List.mem_singleton.mpr rfl:x∈[x]))),λF' R' v d σ' kh Q ρb ρ1 Si rp _ e hq=>?_⟩;simp only[cg]at e;split at e
  ·rename_i hi;cases e;refine hq _ (by simp) (λj hj=>?_) (Si.Kj rp hi);rw[List.getElem?_set_ne (by left)]
  ·cases e
 ·obtain⟨xs,rfl⟩:=yN wu;have hN:bO (.Tuple (xs.map λx=>Expr.Name x.1 x.2) kk p)=xs.map (·.1):=sx xs;have hn:n=xs.length:=by rw[co.n,hN,List.length_map]
  have:=uv (X:=dq X (bO (.Tuple (xs.map λx=>Expr.Name x.1 x.2) kk p)++fc S caps) sc cl C s₂ H2 fp) co.nd xs 0 (λj y hy=>by
   refine⟨?_,Hj y.1 (by rw[hN];exact List.mem_map.mpr ⟨y,Yk hy,rfl⟩)⟩;show(bO (.Tuple (xs.map λx=>Expr.Name x.1 x.2) kk p)++fc S caps)[0+j]?=_;have hj:j<xs.length:=by
    by_cases hj:j<xs.length
    ·exact hj
    ·rw[List.getElem?_eq_none (by left)]at hy;cases hy
   rw[hN,Nat.zero_add,List.getElem?_append_left (by simpa using hj),List.getElem?_map,hy];rfl)
  obtain⟨h1,h2,h3⟩:=this;refine⟨_,yp L4 h1 h2 h3,λF' R' v d σ' kh Q ρb ρ1 Si rp ho e hq=>?_⟩;cases d<;>try (simp[cg]at e;done)
  rename_i ds;simp only[cg]at e;split at e
  ·cases e
  ·cases rp with
   | @tup _ a ys _ hp rs =>
    rw[List.length_map]at e;have e':fq (List.range' 0 xs.length) ds ρb=ok ρ1:=by rw[<- List.range_eq_range'];exact e
    refine⟨a,ys,rfl,hp,?_,k9 (X:=dq X (bO (.Tuple (xs.map λx=>Expr.Name x.1 x.2) kk p)++fc S caps) sc cl C s₂ H2 fp) σ' n (by left) rs Si e' rfl (λ_ _=>rfl) hq⟩;rw[rs.length];have:∀(is:aJ) (ds:ab) (ρ ρ':aX),fq is ds ρ=ok ρ'->ds.length=is.length:=by
     intro is;induction is with
     |nil=>intro ds ρ ρ' e;cases ds with|nil=>rfl|cons _ _=>cases e
     |cons i is ih=>intro ds ρ ρ' e;cases ds with
      |nil=>cases e
      |cons d ds =>
       change (if _ then _ else _)=_ at e;split at e
       ·simp[ih ds _ _ e]
       ·cases e
    rw[this _ _ _ _ e',List.length_range']
theorem S8:∀f:Fl,cp (aY f)=false:=by intro f;cases f<;>rfl
mutual
theorem B8:∀d:D,bc cp (aI aY d)=false
 |.bw=>by simp[aI,bc]
 |.bl _=>by simp[aI,bc]
 |.int _=>by simp[aI,bc]
 |.str _=>by simp[aI,bc]
 |.tup ds=>by simp[aI,bc,fu ds]
 |.lst f ds=>by simp[aI,bc,fu ds,S8]
 |.cx f ks vs=>by simp[aI,bc,fu vs,S8]
theorem fu:∀ds:ab,aR cp (az aY ds)=false
 |[]=>by simp[az,aR]
 |d::ds=>by simp[az,aR,B8 d,fu ds]
end
theorem uJ{h:Heap}{a:Addr}{o:HO}(x:jO H h)(hn:H a=none)(new:b_ (upd H a o) h a o):jO (upd H a o) h:=λb u e=>by
 by_cases hb:b=a
 ·subst hb;rw[aV]at e;cases e;exact new
 ·rw[bh hb]at e;exact(x b u e).k0 λ_ q=>q
structure XM(X X':Cx)(F' R':ah)(n:Nat)(base:aX)(σ0:St)(fp:aW)(tn:Nat->Heap->Prop)(H2:Hp)(D:Addr)(items:List DI.D)(bind:DI.D->O aX)(test:aX->O Bool)(el:aX->O DI.D)(all:List DI.D)(m:Nat)(s':Shared):Prop where
 ex:∃(i:Nat) (vs:ae) (aF:ak) (nn:Nat) (σ':St) (H':Hp) (dn rest:List DI.D),m=items.length - i/\i<=items.length/\Inv X' [(D,dO aF nn)] σ' H' s'/\tn i s'.heap/\(∀b∈fp,H' b=none)/\Vals vs aF/\aG H2 H' /\
  SI X' F' R' (λ_=>none) base σ' H'/\bX X.K (gP X' F') R' (λ_=>none) [] H2 H' vs dn/\eE bind test el (items.drop i)=ok rest/\dn++rest=all
end
theorem bX.go(h:bX K G R τ fv H H1 vs ds)(e:aG H1 H2):bX K G R τ fv H H2 vs ds :=
 let ⟨τt,h1,h2⟩:=h;⟨τt,h1,h2.imp (λ_ _ h=>aU.same e h) λ_ _ _ _ h=>nd.same e h⟩
theorem lj:∀{ds:ab} {d:D},aR cp ds=false->d∈ds->bc cp d=false
 |[],_,_,h=>nomatch h
 |e::ds,d,h,hm=>by
  rw[aR,Bool.or_eq_false_iff]at h;rcases List.mem_cons.mp hm with rfl|z
  ·exact h.1
  ·exact lj h.2 z
theorem vR{d:D}(h:la d=ok items):∀d∈items,bc cp d=false:=by
 unfold la at h;split at h
 ·cases h;exact λd hd=>lj (fu _) hd
 ·cases h
theorem sW{ik:IK}{xs:ab}(h:dj Φ ik xs=ok items):∀d∈items,bc cp d=false:=by
 cases ik with
 |bq p=>obtain⟨d,_,h⟩:=aq h;exact vR h
 |ko =>
  cases xs with
  |nil=>cases h
  |cons x t=>cases x<;>first | (cases h;done) | (cases t with
   |cons _ _=>cases h
   |nil =>
    obtain⟨_,h⟩:=ka h;subst h;intro d hd;obtain⟨k,_,rfl⟩:=List.mem_map.mp hd;rfl)
 |seq =>
  cases xs with
  |nil=>cases h
  |cons x t=>cases x<;>first | (cases h;done) | (cases t with
   |cons _ _=>cases h
   |nil=>cases h;exact λd hd=>lj (fu _) hd)
theorem sY{n:Nat}{i:Nat}{d:D}(h:(bB n caps ρ)[i]?=some (some d)):n<=i:=by
 unfold bB at h;by_cases hn:i<n
 ·rw[List.getElem?_append_left (by simpa using hn),List.getElem?_replicate,if_pos hn]at h;cases h
 ·left
variable {c' elt:CE}{bz cs es:aC}
section
variable {X:Cx}{S:Sx}{k:Nat}{F:ah}{Φ:aQ}
theorem y3{n:Nat}{t:Tg}{sc:Scope}{cl:List (Str×Addr)}(L:Lk X S k Φ)(co:iP S n t caps target sc):
  Lk (dq X (bO target++fc S caps) sc cl C s₂ H2 fp) (S.inner target caps sc) k Φ:=by
 refine⟨?_,rfl,co.nd,L.calm,L.room,L.bl,λf x h=>⟨(L.fn f x h).ex⟩,L.cs,L.pr⟩;show relabel sc X.env=qu sc S.sc;rw[<- L.sc];rfl
theorem rF(L:Lk X S k Φ){n:Nat}{t:Tg}{ik:IK}{ifs:ai}{sc:Scope}(co:iP S n t caps target sc)(s9:f_ iter=true)
    (hE:∀(X':Cx) (F':ah),Lk X' (S.inner target caps sc) k Φ->PE X' g_ (tD X' F' Φ elt))
    (hC:(bz=[]/\ifs=[])\/∃c e,bz=[c]/\ifs=[e]/\∀(X':Cx) (F':ah),Lk X' (S.inner target caps sc) k Φ->PT X' e (dN X' F' Φ c))
    (hI:∀(pins:aj) (s:Shared) (σ:St) (H:Hp) (R:ah) (τ:Addr->Option aZ) (ρ:aX) (xs items:ab),Inv X pins σ H s->SI X F R τ ρ σ H->cB Φ es ρ=ok xs->dj Φ ik xs=ok items->∀Rr:It->Hp->Prop,
      (∀J H2,aG H H2->Yl X.K J (jz X F τ (caps++cR es) H2) H2 items->Rr J H2)->wpAny (model X.prog X.w) X.A (eval iter X.env) (λv s1=>wpAny (model X.prog X.w) X.A (pyIter v) (AL X pins σ target Rr) X.xe s1) X.xe s)
    {use:Option (Value->Sem Unit)} {Post:aB} {pins:aj} {s:Shared} {d:D} {RT:Pos} (I:Inv X pins σ H s) (Si:SI X F R τ ρ σ H) (ev:bj Φ (.comp n t caps ik es bz elt) ρ=ok d)
    (LN:∀(acc C:Addr) (H1:Hp) (s1:Shared) (m:aS),s1.heap.Ns C m->(C≠X.env.locals/\X.s₀.heap.objs.size<=C/\(∀x c,X.env.cells.lookup x=some c->c≠C)/\(∀p∈X.pn++pins,p.1≠C)/\H1 C=none)->(∀h',Heap.SameBut C s1.heap h'->Inv X pins σ H1 { s1 with heap:=h' })->aG H H1 ->
      bC X.K (gP X F) R τ (gc (.comp n t caps ik es bz elt)) H H1 (.ref acc) d->compPost (model X.prog X.w) X.A X.xe use Post (.ref acc) C (.ok .next) s1) :
    wpAny (model X.prog X.w) X.A (comprehension (.ListComp g_ [⟨target,iter,ifs,0⟩] sc pos) sc X.env RT (newList []) false (eval iter X.env) use) Post X.xe s:=by
  obtain⟨xs,bt,ev⟩:=aq ev;obtain⟨items,tH,ev⟩:=aq ev;obtain⟨ds,Ig,ev⟩:=aq ev;simp only[El]at ev;obtain⟨oW,rfl⟩:=ev;have LR:=sW tH;obtain⟨cl,L3,kc,tf⟩:=tM (env:=X.env) (sc:=sc) (λx hx=>I.ok.has x (by
    show X.env.scope.names.lookup x=some .cell\/X.env.scope.names.lookup x=some .free;rw[L.sc];exact co.free x hx))
  have lH:∀x,foldedSetIterable iter X.env x=pure x:=by intro x;cases iter<;>first|rfl | (cases s9;done)
  refine wpAny_comprehension_free (use:=use) rfl lH L3 co.kind co.loc (Yp (hI pins s σ H R τ ρ xs items I Si bt tH (λJ H2=>aG H H2/\Yl X.K J (jz X F τ (caps++cR es) H2) H2 items) (λJ H2 e y=>⟨e,y⟩)) (λxv s₁ h₁=>Yp h₁ (λQq s₂ h₂=>?_) λ_ _ e=>e) λ_ _ e=>e);obtain⟨it,fp,tn,J,H2,rfl,I2,T,Kb,f2,e2,yl⟩:=h₂;have pR:=Si.go e2;have Hk:∀b∈fp,b<s₂.heap.objs.size:=λb hb=>let ⟨o,ho,_⟩:=T.obj 0 _ Kb b hb;Ya ho;refine YB (wpAny_newFunctionEnv co.yM (by intro y hy;simp at hy) (λh₁ oU lG=>?_) co.kind);dsimp only at oU lG ⊢;generalize Rn:s₂.heap.push { cls:=.type "list",dict:=none,data:=.seq ([]:ak).toArray }=G2 at oU lG ⊢;have Um:G2.objs.size=s₂.heap.objs.size+1:=by rw[<- Rn,Heap.size_push]
  have Oc:s₂.heap.objs.size≠s₂.heap.objs.size+1:=Yf (YH _);rw[Um]at oU lG;have old:∀b o,s₂.heap.get? b=some o->h₁.get? b=some o:=λb o e=>lG.extBut b o (Yf (Ys (Ya e))) (X8 _ (Rn▸X8 _ e));have fQ:h₁.get? s₂.heap.objs.size=some (dO [] 0):=lG.extBut _ _ Oc (X8 _ (Rn▸Yd _ rfl))
  let X':=dq X (bO target++fc S caps) sc cl (s₂.heap.objs.size+1) s₂ H2 fp
  let F':=iQ (gP X F) τ (caps++cR es)
  let R':=jz X F τ (caps++cR es) H2
  have L':Lk X' (S.inner target caps sc) k Φ:=y3 L co;have I4:=λtk=>zh (h₁:=h₁) (tk:=tk) L co I2 kc tf f2 Hk (by simpa using oU) old fQ;have S4:SI X' F' R' (λ_=>none) (bB n caps ρ) (mq n caps σ) H2:=x6 (t:=t) pR (λi hi=>by simp[hi]);obtain⟨g,hg,zy⟩:=Fd (X:=X) (S:=S) (cl:=cl) (fp:=fp) (s₂:=s₂) (H2:=H2) (C:=s₂.heap.objs.size+1) L.calm co;have Rp:s₂.heap.objs.size∉X'.fs:=λz=>by
    rcases List.mem_cons.mp (I2.jw _ z)with w|w
    · exact absurd w (Yj I2.lt)
    · exact I2.Gw (Yb _) w
  have Hn:∀x c,cl.lookup x=some c->c≠s₂.heap.objs.size:=λx c e=>by
    obtain⟨v,q⟩:=I2.cell x c (kc x c e);exact Yf q.lt
  have CH:∀b∈fp,b≠X'.env.locals/\b∉X'.fs/\(b∈X'.ex\/X'.s₀.heap.objs.size<=b)/\(∀x c,X'.env.cells.lookup x=some c->c≠b):=λb hb =>
    ⟨Yf (Ys (Hk b hb)),λz=>by
      rcases List.mem_cons.mp (I2.jw b z)with w|w
      · exact(f2 b hb).2.1 w
      · exact(f2 b hb).2.2.1 w,.inl hb,λx c e=>(f2 b hb).2.2.2.2.1 x c (kc x c e)⟩
  have LY:∀b∈fp,b≠s₂.heap.objs.size:=λb hb=>Yf (Hk b hb);have fin:∀(vs:ae) (aF:ak) (nn:Nat) (σ':St) (H':Hp) (s1:Shared),Inv X' [(s₂.heap.objs.size,dO aF nn)] σ' H' s1->Vals vs aF->aG H2 H'->bX X.K (gP X' F') R' (λ_=>none) [] H2 H' vs ds ->
      compPost (model X.prog X.w) X.A X.xe use Post (.ref s₂.heap.objs.size) (s₂.heap.objs.size+1) (.ok .next) s1:=by
    intro vs aF nn σ' H' s1 I1 rv sm BE;obtain⟨m,hn,_⟩:=I1.loc;obtain⟨pD,nD,_,_,_⟩:=I1.pin (s₂.heap.objs.size,dO aF nn) (Ye _ X9);have bs:=I1.base;have Ef:∀b o,s₂.heap.get? b=some o->b≠s₂.heap.objs.size+1:=λb o e=>Yf (Ys (Ya e));have VQ:∀b o,s₂.heap.get? b=some o->b≠s₂.heap.objs.size:=λb o e=>Yf (Ya e);have SS:∀b u,H' b=some u->upd H' s₂.heap.objs.size (.lst vs) b=some u:=λb u e=>by rw[bh (eu e nD)];exact e
    have hlen:vs.length<=sizeLine:=by
      obtain⟨_,_,rr⟩:=BE;have hz:sizeLine=16777216:=YF;have hc:fe=1000000:=rfl;rw[rr.length];left
    have IX:∀h',Heap.SameBut (s₂.heap.objs.size+1) s1.heap h'->Inv X pins σ (upd H' s₂.heap.objs.size (.lst vs)) { s1 with heap:=h' }:=λh' zk=>by
      have un:Un (xh X.stack) fp H2 (upd H' s₂.heap.objs.size (.lst vs)) s₂.heap h' :=
        ⟨λb o e n hb hx=>zk.extBut b o (Ef b o e) (bs.keep b o e n hb hx),
         λb o e n hb hx=>let ⟨sl,q⟩:=bs.slot b o e n hb hx;⟨sl,zk.extBut b _ (Ef b o e) q⟩,
         λb o e n hx=>by rw[bh (VQ b o e)];exact bs.free b o e n hx,
         λb o e hx=>let ⟨o',q⟩:=bs.there b o e hx;⟨o',zk.extBut b _ (Ef b o e) q⟩,
         λb xs e=>SS b _ (bs.og b xs e),λb o u e=>SS b _ (bs.mF b o u e)⟩
      have QX:jO H' h':=λa o e=>(I1.cJ a o e).k0 λu q=>zk.extBut a u (by
        rintro rfl;have hf:H' (s₂.heap.objs.size+1)=none:=I1.free;rw[hf]at e;cases e) q
      have QW:jO (upd H' s₂.heap.objs.size (.lst vs)) h':=uJ QX nD ⟨hlen,aF,nn,rv,zk.extBut _ _ Oc pD⟩;exact I2.MY (ch:=fp) I1.os un QW I1.bare λb hb=>⟨(f2 b hb).2.2.2.1,(f2 b hb).2.1,(f2 b hb).2.2.2.2.1,(f2 b hb).2.2.2.2.2⟩
    have eS:aG H' (upd H' s₂.heap.objs.size (.lst vs)):=aG.upd nD;obtain⟨τt,fr,rs⟩:=BE;have Qd:s₂.heap.objs.size+1≠s₂.heap.objs.size:=Nat.succ_ne_self _;refine LN s₂.heap.objs.size (s₂.heap.objs.size+1) _ s1 m hn ⟨Yj (Ys I2.lt),Z1 I2.sz,λx c e=>?_,λp hp=>?_,?_⟩ IX ((e2.trans sm).trans eS) ⟨λq=>if q=s₂.heap.objs.size then some []else τt q,λq z hz=>?_,.lst ⟨aV,by simp⟩ (aA.map (q:=[]) (q':=[]) (λ_ _ h=>aU.same eS h) (λc p ys f h=>?_) rs [] rfl)⟩
    · obtain⟨v,z⟩:=I2.cell x c e
      exact Yf (Ys z.lt)
    · exact Yf (Ys (Ya (I2.pin p hp).1))
    · rw[bh Qd];exact I1.free
    · by_cases sZ:q=s₂.heap.objs.size
      · rw[sZ];exact e2.free (sm.free nD)
      · simp only[sZ,if_false]at hz;exact e2.free (fr q z hz)
    · have h':=nd.same eS h
      have Ss:∀p,gP X' F' p->iQ (gP X F) τ (caps++cR es) p:=λp hp=>hp.elim id λz=>⟨.inr (pR.same.free z),λc i e=>absurd z (pR.th p _ e)⟩
      cases f with
      |ow =>
        have sZ:p≠s₂.heap.objs.size:=by
          intro z;subst z;exact h.1.ne nD
        refine⟨h'.1,?_⟩;show(if p=s₂.heap.objs.size then some []else τt p)=_;rw[if_neg sZ];exact h'.2
      |fz=>exact⟨h'.1,h'.2.2⟩
      |al=>exact⟨h'.1,Ss p h'.2.1⟩
      |sc=>exact h'
  have Vd:∀(P:aj) (ρ1:aX) (b:Bool) (σ2:St) (H5:Hp) (s6:Shared),fD Φ bz ρ1=ok b->Inv X' P σ2 H5 s6->SI X' F' R' (λ_=>none) ρ1 σ2 H5 ->
      wpAny (model X.prog X.w) X.A (forIn ifs true λc r=>if r=true then do let ok <- isTrue c X'.env (eval c X'.env);pure (ForInStep.yield ok)else pure (ForInStep.yield r)) (λP_ s7=>P_=b/\∃H7,Inv X' P σ2 H7 s7/\aG H5 H7) (λ_ _=>False) s6:=by
    intro P ρ1 b σ2 H5 s6 eb I6 S6;rcases hC with ⟨rfl,rfl⟩|⟨c,e,rfl,rfl,hPT⟩
    · rw[fD]at eb;cases eb
      exact wpAny_tests_nil ⟨rfl,H5,I6,aG.refl _⟩
    · rw[fD]at eb
      obtain⟨b',W7,eb⟩:=aq eb;have hb:b'=b:=by
        cases b' with
        |true=>rw[if_pos rfl,fD]at eb;cases eb;rfl
        |false=>rw[if_neg (by simp)]at eb;cases eb;rfl
      subst hb;refine wpAny_tests_one (Yp (hPT X' F' L' P s6 σ2 H5 (λUW H7=>UW=b'/\aG H5 H7) I6 ⟨R',_,ρ1,b',S6,W7,λH7 e7=>⟨rfl,e7⟩⟩) (λUW s7 ⟨H7,I7,hb,e7⟩=>⟨hb,H7,I7,e7⟩) λ_ _ e=>e)
  have loop:∀tk,codeAny (model X.prog X.w) X.A (.compLoop (.ListComp g_ [⟨target,iter,ifs,0⟩] sc pos) 0 (.ref it) (.ref s₂.heap.objs.size) X'.env)
      (compPost (model X.prog X.w) X.A X.xe use Post (.ref s₂.heap.objs.size) (s₂.heap.objs.size+1)) { s₂ with heap:=h₁,toks:=tk }:=by
    intro tk;refine o8 (XM X X' F' R' n (bB n caps ρ) (mq n caps σ) fp tn H2 s₂.heap.objs.size items (λd=>cg t d (bB n caps ρ)) (λρ'=>fD Φ bz ρ') (λρ'=>bj Φ elt ρ') ds) ?_ items.length
      ⟨0,[],[],0,mq n caps σ,H2,[],ds,rfl,Yy _,I4 tk,T.keep _ _ _ Kb (λb _ o e=>old b o e),λb hb=>(f2 b hb).1,.nil,aG.refl _,S4,.nil,by rw[List.drop_zero];exact Ig,rfl⟩
    rintro m s' ⟨i,vs,aF,nn,σ',H',dn,rest,hm,hi,I',kn,fr',rv,sm,gg,BE,eC,eall⟩;have HE:∀b∈fp,l9 X' [(s₂.heap.objs.size,dO aF nn)] H' b:=λb hb=>⟨fr' b hb,(CH b hb).1,(CH b hb).2.1,(CH b hb).2.2.1,(CH b hb).2.2.2,λp hp=>by
      have xd:p=(s₂.heap.objs.size,dO aF nn):=by simpa [X',dq]using hp
      rw[xd];exact(LY b hb).symm⟩
    by_cases fj:i<items.length
    · refine Yp (T.item X' rfl rfl rfl L.calm i _ s' σ' H' (λ_ _=>False) I' HE kn (yl.go i H' sm fj)) (λr s1 h4=>?_) λ_ _ e=>e
      obtain⟨u,hr,h4⟩:=h4;subst hr;refine Yp h4 (λ_ s5 h5=>?_) λ_ _ e=>e;obtain⟨x,H5,I5,r5,y5,Fv,RS⟩:=h5;obtain⟨e5,dd,hd,rd⟩:=yl.rY i H' x H5 sm fj y5;have SA:=I5.pinned (fp:=fp) (λb hb=>⟨RS b hb,(HE b hb).2⟩) (T.obj _ _ Fv);have qV:items.drop i=dd::items.drop (i+1):=by
        rw[List.drop_eq_getElem_cons fj];rw[List.getElem?_eq_getElem fj]at hd;cases hd;rfl
      rw[qV,eE]at eC;obtain⟨ρ1,eb,eC⟩:=aq eC;obtain⟨bb,et,eC⟩:=aq eC;refine Yp (hg _ s5 σ' H5 x u (λσ2 H6=>H6=H5/\σ2.length=σ'.length/\(∀j,n<=j->σ2[j]?=σ'[j]?)/\SI X' F' R' (λ_=>none) ρ1 σ2 H5) SA r5
        (zy F' R' x dd σ' H5 _ (bB n caps ρ) ρ1 (gg.go e5) rd (LR dd (Yk hd)) eb λσ2 g1 g2 g3=>⟨rfl,g1,g2,g3⟩)) (λ_ s6 h6=>?_) λ_ _ e=>e
      obtain⟨σ2,H6,I6,rfl,g1,g2,S6⟩:=h6;refine Yp (Vd _ ρ1 bb σ2 H6 s6 et I6 S6) (λP_ s7 h7=>?_) λ_ _ e=>e;obtain⟨rfl,H7,I7,e7⟩:=h7;have OO:∀{P:aj} {σ3:St} {H8:Hp} {s8:Shared},Inv X' (P++gx fp s5.heap) σ3 H8 s8->tn (i+1) s8.heap/\∀b∈fp,H8 b=none:=λ{P σ3 H8 s8} I8 =>
        ⟨T.keep _ _ _ Fv λb hb o e=>(I8.pin (b,o) (Ye _ (Ye _ (fO hb e)))).1,λb hb=>by
          obtain⟨o,e,_⟩:=T.obj _ _ Fv b hb;exact(I8.pin (b,o) (Ye _ (Ye _ (fO hb e)))).2.1⟩
      have EF:∀{H8:Hp},aG H7 H8->SI X' F' R' (λ_=>none) (bB n caps ρ) σ2 H8:=λ{H8} e8=>(gg.go ((e5.trans e7).trans e8)).sig g1 λj d hj=>g2 j (sY hj);cases P_ with
      |false =>
        rw[if_neg (by simp)]at eC ⊢;exact⟨items.length - (i+1),by left,i+1,vs,aF,nn,σ2,H7,dn,rest,rfl,fj,I7.iU,(OO I7).1,(OO I7).2,rv,(sm.trans e5).trans e7,EF (aG.refl _),BE.go (e5.trans e7),eC,eall⟩
      |true =>
        rw[if_pos rfl]at eC ⊢;obtain⟨y,ey,eC⟩:=aq eC;obtain⟨ys,eO,eC⟩:=aq eC;cases eC;refine Yp (hE X' F' L' _ s7 σ2 H7 (λv H8=>aG H7 H8/\bC X.K (gP X' F') R' (λ_=>none) [] H7 H8 v y) I7 ⟨R',_,ρ1,y,S6.go e7,ey,λv H8 e8 r8=>⟨e8,?_⟩⟩) (λu8 s8 h8=>?_) λ_ _ e=>e
        · obtain⟨τt,fr,rr⟩:=r8
          exact⟨τt,fr,rr.imp (q:=[]) (q':=[]) (λ_ _ h=>h) λc p ys f h=>h.mono id (λh=>⟨h.1,λ_ _ e=>by cases e⟩) id⟩
        · obtain⟨v8,H8,I8,Vx,e8,r8⟩:=h8
          obtain⟨pD,nD,_,_,_⟩:=I8.pin (s₂.heap.objs.size,dO aF nn) (Ye _ (Yu _ X9));have hlen:aF.length<=1000000:=by
            obtain⟨_,_,rr⟩:=BE;have h1:dn.length<=ds.length:=by rw[<- eall,List.length_append];left
            have hc:fe=1000000:=rfl;rw[<- rv.length,rr.length];left
          have hz:sizeLine=16777216:=YF;refine YJ PySem.F.slot_list_append ⟨_,pD,rfl⟩ PySem.F.entry_list_append (PySem.F.args_list_append_2 _ _) (PySem.list_append s₂.heap.objs.size aF.toArray nn u8 (by rw[List.size_toArray];left)) ⟨pD,?_⟩;have q:=PySem.IsL.update pD (λx=>x.push u8);have LL:aF.toArray.push u8=(aF++[u8]).toArray:=by simp
          rw[LL]at q;obtain⟨NZ,q'⟩:∃NZ,(s8.heap.update s₂.heap.objs.size (Obj.mapSeq λx=>x.push u8)).get? s₂.heap.objs.size=some (dO (aF++[u8]) NZ):=⟨_,q⟩
          have Xp:Inv X' (gx fp s5.heap) σ2 H8 s8:=I8.gR λp hp=>I8.pin p (Ye _ (Ye _ hp));have U0:Inv X' (gx fp s5.heap) σ2 H8 { s8 with heap:=s8.heap.update s₂.heap.objs.size (Obj.mapSeq λx=>x.push u8),toks:=s8.toks } :=
            Xp.turned (it:=s₂.heap.objs.size) (λb o hb e=>(YA s8.heap (Obj.mapSeq λx=>x.push u8) (Zi hb)).trans e) nD Oc (.inr (Yb _)) Hn λp hp=>by
              have xd:p∈gx fp s5.heap:=by simpa [X',dq]using hp
              exact LY p.1 (nr xd).1
          have kp:=OO (P:=[]) (by rw[List.nil_append];exact U0);refine⟨items.length - (i+1),by left,i+1,vs++[v8],aF++[u8],NZ,σ2,H8,dn++[y],ys,rfl,fj,U0.gR (λp hp=>?_),kp.1,kp.2,rv.append (.cons Vx .nil),((sm.trans e5).trans e7).trans e8,EF e8,bX.snoc ((sm.trans e5).trans e7) e8 (BE.go (e5.trans e7)) r8,eO,by rw[List.append_assoc];exact eall⟩;have xd:p=(s₂.heap.objs.size,dO (aF++[u8]) NZ):=by simpa using hp
          rw[xd];exact⟨q',nD,Oc,Rp,λv z=>by cases z⟩
    · refine Yp (T.done X' rfl rfl rfl L.calm i _ s' σ' H' (λ_ _=>False) I' HE kn (yl.stop i H' sm (by left))) (λr s1 h1=>?_) λ_ _ e=>e
      obtain⟨hr,I1⟩:=h1;subst hr;have Q2:items.drop i=[]:=List.drop_eq_nil_of_le (by left);rw[Q2,eE]at eC;cases eC;rw[List.append_nil]at eall;subst eall;exact fin vs aF nn σ' H' s1 I1 rv sm BE
  have key:=λtk=>codeAny_compStart_list (loop tk) (T.self X.A 0 _ _ _ (T.keep _ _ _ Kb λb _ o e=>old b o e) (loop tk));rw[Um];exact key _
theorem Bz(L:Lk X S k Φ){n:Nat}{t:Tg}{ik:IK}{ifs:ai}{sc:Scope}(co:iP S n t caps target sc)(s9:f_ iter=true)
  (hE:∀(X':Cx) (F':ah),Lk X' (S.inner target caps sc) k Φ->PE X' g_ (tD X' F' Φ elt))
  (hC:(bz=[]/\ifs=[])\/∃c e,bz=[c]/\ifs=[e]/\∀(X':Cx) (F':ah),Lk X' (S.inner target caps sc) k Φ->PT X' e (dN X' F' Φ c))
  (hI:∀(pins:aj) (s:Shared) (σ:St) (H:Hp) (R:ah) (τ:Addr->Option aZ) (ρ:aX) (xs items:ab),Inv X pins σ H s->SI X F R τ ρ σ H->cB Φ es ρ=ok xs->dj Φ ik xs=ok items->∀Rr:It->Hp->Prop,
   (∀J H2,aG H H2->Yl X.K J (jz X F τ (caps++cR es) H2) H2 items->Rr J H2)->wpAny (model X.prog X.w) X.A (eval iter X.env) (λv s1=>wpAny (model X.prog X.w) X.A (pyIter v) (AL X pins σ target Rr) X.xe s1) X.xe s) :
  PE X (.ListComp g_ [⟨target,iter,ifs,0⟩] sc pos) (tD X F Φ (.comp n t caps ik es bz elt)):=by
 intro pins s σ H Q I hq;obtain⟨R,τ,ρ,d,Si,ev,hq⟩:=hq;rw[eval_ListComp];refine rF L co s9 hE hC hI (use:=none) (Post:=EP X pins σ Q) I Si ev λacc C H1 s1 m hn _ IX sm rt=>?_;exact⟨m,hn,λh' zk=>⟨.ref acc,H1,IX h' zk,rfl,hq _ _ sm rt⟩⟩
end
section
variable {X:Cx}{pins:aj}{s:Shared}{σ:L2.St}{H:Hp}
theorem qR{A:aD}{E:aB}{l:Addr}{items:aP}{Q:aB}{s:Shared}(hl:s.heap.IsList l items)
  (h:∀s₂:Shared,s₂={ s with heap:=s.heap.push { cls:=.type "list_iterator",data:=.fields #[.ref l,.int 0 0] } }->s₂.heap.IsListIter s.heap.objs.size l 0/\s₂.heap.IsList l items->(∀b∈[s.heap.objs.size,l],b<s₂.heap.objs.size)->l≠s.heap.objs.size->Q (.ref s.heap.objs.size) s₂) :
  wpAny (model prog w) A (pyIter (.ref l)) Q E s:=by
 have fj:l<s.heap.objs.size:=by obtain⟨_,e,_⟩:=hl;exact Ya e
 refine wpAny_pyIter_list hl (h _ rfl ⟨⟨_,Yd _ rfl,rfl,rfl⟩,hl.push _⟩ (λb hb=>?_) (Yf fj));have hz:(s.heap.push { cls:=.type "list_iterator",data:=.fields #[.ref l,.int 0 0] }).objs.size=s.heap.objs.size+1:=Heap.size_push ..;have uP:b=s.heap.objs.size\/b=l:=by simpa using hb
 show b<_;rw[hz];rcases uP with e|e
 ·rw[e];exact YH _
 ·rw[e];exact Ys fj
theorem qO{o₀:Obj}{s:Shared}(hk:∀b o,b∉[s.heap.objs.size]->(s.heap.push o₀).get? b=some o->h'.get? b=some o):∀b o,s.heap.get? b=some o->h'.get? b=some o:=λb o e =>
 hk b o (λhm=>absurd ((by simpa using hm:b=s.heap.objs.size)▸Ya e) (Ym _)) (X8 _ e)
theorem cL{h:Heap}{a:Addr}{aF:aP}(p:PlainL h a aF):h.IsList a aF:=let ⟨o,n,h1,h2,_,h4⟩:=p;⟨o,h1,h2,n,h4⟩
theorem gw(val:Nat->Int)(ns:aa)(hv:∀i,val i=ns.getD i 0):∀k,k<=ns.length->preSum val k=(ns.take k).sum
 |0,_=>by simp[preSum]
 |k+1,h=>by
  have hk:k<ns.length:=by left
  rw[preSum,gw val ns hv k (by left),hv k,List.take_add_one,List.sum_append];simp[List.getD,hk]
theorem wW(hc:X.calm=true):df X (.builtin "sum") (λxs H Q=>∃(p:Addr) (ns:aa),xs=[.ref p]/\cM X.K H p (ns.map V.int)/\Q (.int ns.sum) H):=by
 intro pins s σ H xs us Q I r h;obtain⟨p,ns,rfl,hq,q⟩:=h;obtain⟨u,rfl,ru⟩:=r.one;cases ru;obtain⟨aF,rv,pl,hz⟩:=I.list hq;have hlen:aF.length=ns.length:=by have:=rv.length;simpa using this.symm
 refine call_sum_walkG (qR (cL pl) λs₂ e st CJ Q4=>?_);subst e;refine⟨_,_,_,_,_,_,λi=>ns.getD i 0,rfl,Walks.list (A:=X.A.in1) (I.ok.hd hc) _ p Q4 aF.toArray,st,CJ,λi v hP=>?_,λh' tk t' hk=>?_⟩
 ·have hv:aF[i]?=some v:=by simpa using hP
  have hi:i<aF.length:=by
   by_cases z:i<aF.length
   ·exact z
   ·rw[List.getElem?_eq_none (by left)]at hv;cases hv
  have hn:(ns.map V.int)[i]?=some (.int (ns.getD i 0)):=by
   rw[List.getElem?_map,List.getElem?_eq_getElem (by left)];simp[List.getD,show i<ns.length by left]
  obtain⟨u,hu,ru⟩:=rv.get hn;rw[hv]at hu;cases hu;exact ru
 ·refine⟨.int ns.sum,H,I.kept (t':=tk) (qO hk),⟨t',?_⟩,q⟩;have hz:preSum (λi=>ns.getD i 0) aF.toArray.size=ns.sum:=by
   rw[List.size_toArray,hlen,gw _ ns (λ_=>rfl) _ (Nat.le_refl _),List.take_length]
  rw[hz]
theorem range_all{α:Type}(l:List α)(f:α->Bool)(tr:Nat->Bool)(h:∀i a,l[i]?=some a->tr i=f a):(List.range l.length).all tr=l.all f:=by
 rw[Bool.eq_iff_iff,List.all_eq_true,List.all_eq_true];constructor
 ·intro z a ha;obtain⟨i,hi,e⟩:=List.mem_iff_getElem.mp ha;have:=z i (List.mem_range.mpr hi);rw[h i a (by rw[List.getElem?_eq_getElem hi,e])]at this;exact this
 ·intro z i hi;have hi:=List.mem_range.mp hi;rw[h i l[i] (List.getElem?_eq_getElem hi)];exact z _ (Z4 hi)
theorem wY(hc:X.calm=true):df X (.builtin "all") (λxs H Q=>∃(p:Addr) (bs:List Bool),xs=[.ref p]/\cM X.K H p (bs.map V.bl)/\Q (.bl (bs.all id)) H):=by
 intro pins s σ H xs us Q I r h;obtain⟨p,bs,rfl,hq,q⟩:=h;obtain⟨u,rfl,ru⟩:=r.one;cases ru;obtain⟨aF,rv,pl,hz⟩:=I.list hq;have hlen:aF.length=bs.length:=by have:=rv.length;simpa using this.symm
 refine call_all_walk (qR (cL pl) λs₂ e st CJ Q4=>?_);subst e;refine⟨_,_,_,_,_,_,λi=>bs.getD i false,rfl,Walks.list (A:=X.A.in1) (I.ok.hd hc) _ p Q4 aF.toArray,st,λi v s' Q' E' hP hQ=>?_,λh' tk hk=>?_⟩
 ·have hv:aF[i]?=some v:=by simpa using hP
  have hi:i<aF.length:=by
   by_cases z:i<aF.length
   ·exact z
   ·rw[List.getElem?_eq_none (by left)]at hv;cases hv
  have hn:(bs.map V.bl)[i]?=some (.bl (bs.getD i false)):=by
   rw[List.getElem?_map,List.getElem?_eq_getElem (by left)];simp[List.getD,show i<bs.length by left]
  obtain⟨u,hu,ru⟩:=rv.get hn;rw[hv]at hu;cases hu;cases ru;exact YL hQ
 ·refine⟨.bl (bs.all id),H,I.kept (t':=tk) (qO hk),?_,q⟩;show Value.bool _=Value.bool _;rw[List.size_toArray,hlen,range_all bs id _ λi a e=>by simp[List.getD,e]]
end
variable {ns:aa}
section
variable {prog:aE}{w:World}{A:aD}{E:aB}{s:Shared}
theorem lY{l:Addr}{vs:ak}{Q:ak->Shared->Prop}{o:Obj}{n:Nat}(ho:s.heap.get? l=some o)(hc:o.cls=.type "tuple")(hd:o.data=.seq vs.toArray n)
  (h:Q vs { s with heap:=(s.heap.push (seqObj "list" #[] 0)).update s.heap.objs.size (Obj.mapSeq (· ++ vs.toArray)) }) (hsz:vs.length<=sizeLine):wpAny (model prog w) A (collect (.ref l)) Q E s:=by
 unfold collect;refine X4 (wpAny_runValue (Y_ entry_proto_collect' ?_));show wpAny _ _ (newList [] >>= λz=>again (.builtin "list.__iadd__" ⟨[z,.ref l],[]⟩)) _ _ s;refine X4 (ZY (X6 ⟨Code.quiet_builtin _ (by decide +kernel),Y_ entry_list_iadd' ?_⟩));have z1:(s.heap.push (seqObj "list" #[] 0)).get? l=some o:=X8 _ ho;have z2:(s.heap.push (seqObj "list" #[] 0)).get? s.heap.objs.size=some (seqObj "list" #[] 0):=Yd _ rfl;show wpAny _ _ (Builtin.List.listExtendWith (.ref s.heap.objs.size) (.ref l) (.ref s.heap.objs.size)) _ _ ({ s with heap:=s.heap.push (seqObj "list" #[] 0) }:Shared);unfold Builtin.List.listExtendWith;refine X4 (wpAny_typeOf (T:="tuple") ⟨o,z1,hc⟩ ?_);rw[Yv (by rw[show(Value.type "tuple" == Value.type "tuple")=true from rfl,Bool.or_true])];refine X4 (listItems_at z1 hd (X4 (listItems_at z2 rfl ?_)));rw[if_neg (by simp)];refine X4 (listUpdate_at z2 rfl ?_ (Yy _) (by
  show(#[]++vs.toArray).size<=sizeLine+1;rw[Array.size_append,List.size_toArray];exact Z1 (by simpa using hsz)))
 refine X6 ?_;show wpAny (model prog w) A (load s.heap.objs.size >>= λo=>match o.data with
   |.seq xs _=>pure xs.toList
   |_=>unsupported "internal:collect") Q E ({ s with heap:=(s.heap.push (seqObj "list" #[] 0)).update s.heap.objs.size (Obj.mapSeq (· ++ vs.toArray)) }:Shared)
 refine X4 (wpAny_load (get?_update_seq z2 _) ?_);show wpAny _ _ (pure ((#[]:aP)++vs.toArray).toList) Q E _;rw[show((#[]:aP)++vs.toArray).toList=vs by simp];exact X6 h
theorem mm{l:Addr}{vs:ak}{Q:aB}{o:Obj}{n:Nat}(ho:s.heap.get? l=some o)(hc:o.cls=.type "tuple")(hd:o.data=.seq vs.toArray n)(hI:IntsAre vs ns)(uR:vs.length<64)
  (h:∀(out:aP) (jq:aa),IntsAre out.toList jq->jq.Perm ns->jq.Pairwise (· <= ·)->Q (.ref (s.heap.objs.size+1)) { s with heap:=sortedAll s.heap vs out }):wpAny (model prog w) A (call (.builtin "sorted") [.ref l]) Q E s:=by
 refine Calls.call_function_entry kind_sorted plain_sorted entry_sorted (args_sorted1 _) ?_;unfold Builtin.«sorted»;have hz:vs.length<=sizeLine:=by rw[sizeLine_eq];left
 refine X4 (m:=checkCount "sorted" 1 1 _) (X6 (X4 (lY ho hc hd (X4 (ZY ?_)) hz)));have e1:((s.heap.push (seqObj "list" #[] 0)).update s.heap.objs.size (Obj.mapSeq (· ++ vs.toArray))).objs.size=s.heap.objs.size+1:=by rw[Heap.size_update,size_push']
 have e2:(((s.heap.push (seqObj "list" #[] 0)).update s.heap.objs.size (Obj.mapSeq (· ++ vs.toArray))).push (seqObj "list" vs.toArray 0)).get? (s.heap.objs.size+1)=some (seqObj "list" vs.toArray 0):=by
  rw[<- e1];exact Yd _ rfl
 show wpAny _ _ _ _ _ ({ s with heap:=((s.heap.push (seqObj "list" #[] 0)).update s.heap.objs.size (Obj.mapSeq (· ++ vs.toArray))).push (seqObj "list" vs.toArray 0) }:Shared);rw[e1];refine X4 (Yx (Yz slot_list_sort ⟨_,e2,rfl⟩ entry_list_sort (list_sort_tree e2 hI uR λout jq a1 a2 a3=>⟨_,rfl,X6 ⟨_,rfl,h out jq a1 a2 a3⟩⟩) (args_list_sort _)))
end
theorem sortI_perm(ns:aa):(sortI ns).Perm ns:=YQ ..
theorem x4(ns:aa):(sortI ns).Pairwise (· <= ·):=by
 have:=List.pairwise_mergeSort (le:=λa b:Int=>decide (a<=b)) (by intro a b c;simp;left) (by intro a b;simp;left) ns;unfold sortI;simpa using this
theorem de:∀{vs:ak} {ns:aa},Vals (ns.map V.int) vs->IntsAre vs ns
 |_,[],h=>by cases h;exact .nil
 |_,n::ns,h=>by
  cases h with
  |cons r t=>obtain⟨tk,rfl⟩:=r;exact .cons n tk (de t)
theorem pk:df X (.builtin "sorted") (λxs H Q=>∃(p:Addr) (ns:aa),xs=[.ref p]/\(cM X.K H p (ns.map V.int)\/aU X.K H p (ns.map V.int))/\ns.length<64/\∀l,H l=none->Q (.ref l) (upd H l (.lst ((sortI ns).map V.int)))):=by
 intro pins s σ H xs us Q I r h;obtain⟨p,ns,rfl,hq,uR,q⟩:=h;obtain⟨u,rfl,ru⟩:=r.one;cases ru;have fin:∀(vs:ak) (out:aP) (jq:aa),IntsAre out.toList jq->jq.Perm ns->jq.Pairwise (· <= ·)->EP X pins σ Q (.ref (s.heap.objs.size+1)) { s with heap:=sortedAll s.heap vs out }:=by
  intro vs out jq h1 h2 h3;obtain rfl:jq=sortI ns:=PySem.W.ksm_same (h2.trans (sortI_perm ns).symm) h3 (x4 ns);obtain⟨e,he⟩:=sortedAll_at s.heap vs out;have hn:H (s.heap.objs.size+1)=none:=I.cJ.fresh (ZS _);refine⟨.ref (s.heap.objs.size+1),upd H (s.heap.objs.size+1) (.lst ((sortI ns).map V.int)),I.laid (t':=s.toks) (λb u z=>sortedAll_old z) (ZS _) ⟨?_,out.toList,e,jt h1,by simpa using he⟩,rfl,q _ hn⟩;rw[List.length_map,(sortI_perm ns).length_eq,sizeLine_eq];left
 rcases hq with hq|hq
 ·obtain⟨aF,rv,pl,hz⟩:=I.list hq;have hl:aF.length<64:=by rw[<- rv.length];simpa using uR
  exact sorted_ints (cL pl) (de rv) hl λout jq h1 h2 h3=>fin aF out jq h1 h2 h3
 ·obtain⟨aF,rv,⟨o,ho,hc,n,hd⟩,hz⟩:=I.tuple hq;have hl:aF.length<64:=by rw[<- rv.length];simpa using uR
  exact mm ho hc hd (de rv) hl λout jq h1 h2 h3=>fin aF out jq h1 h2 h3
theorem xI:isSubtype (.type "tuple") (.type "set")=pure false:=by rw[isSubtype_type];kernel_rfl
theorem p5:isSubtype (.type "tuple") (.type "frozenset")=pure false:=by rw[isSubtype_type];kernel_rfl
noncomputable abbrev j4(led:Bool):Obj:={ cls:=.type "set",dict:=none,data:=.set #[] 0 (.fresh 0 0 led) }
noncomputable abbrev dist(ns:aa):aa:=firstMet (λi=>ns.getD i 0) ns.length
section
variable {prog:aE}{w:World}{A:aD}{E:aB}{s:Shared}
theorem sD{l:Addr}{aF:ak}{Q:aB}(hh:A.handled=none)(hl:s.heap.IsTuple l aF.toArray)(hi:IntsAre aF ns)(hb:aF.length+1<scanBound)
  (h:∀(h':Heap) (tk:Nat),h'.SetOf (intKind prog w) s.heap.objs.size (λk=>(dist ns).any (· == k)) (dist ns).length->(∀b o,b<s.heap.objs.size->s.heap.get? b=some o->h'.get? b=some o)->Q (.ref s.heap.objs.size) { s with heap:=h',toks:=tk }) :
  wpAny (model prog w) A (call (.type "set") [.ref l]) Q E s:=by
 have Wh:aF.length=ns.length:=hi.length;obtain⟨c,tl,k1⟩:=F.called_set.mro;have k2:=F.called_set.made;have k3:=F.called_set.sub;have k4:=F.called_set.notType;have k5:=F.called_set.canCreate;have k6:=F.typeCall_set_1 (.ref l);refine wpAny_call (codeAny_of_tree (show wpAny _ _ (callAny (.type "set") _) _ _ _ from X6 ⟨Code.quiet_builtin _ (by decide +kernel),Y_ F.entry_type_call ?_⟩));rw[Around.under_plain (weight_type_call_type "set" [.ref l] []) rfl]
 repeat (any_goals (first|assumption|wp_step))
 refine Zy (code_set_new_1 (.ref l) (E:=E) (Q₁:=λz s₁=>∃led:Bool,z=.ref s.heap.objs.size/\s₁={ s with heap:=s.heap.push (j4 led) }) λled=>⟨led,rfl,rfl⟩) λr s₁ hr=>?_;cases r with
 |error e=>exact hr
 |ok fl =>
  cases fl with
  |next=>exact hr.elim
  |brk=>exact hr.elim
  |cont=>exact hr.elim
  |ret z =>
   obtain⟨led,rfl,rfl⟩:=hr;have g1:(s.heap.push (j4 led)).get? s.heap.objs.size=some (j4 led):=Yd _ rfl;have g2:Shared.TypeIs { s with heap:=s.heap.push (j4 led) } (.ref s.heap.objs.size) "set":=⟨_,g1,rfl⟩
   have g3:=F.called_set.init.lookup;have g4:=F.called_set.init.bind (.ref s.heap.objs.size)
   repeat (any_goals (first|assumption|wp_step))
   refine Zy (codeAny_call_builtin (R:=wants (λr s₂=>r=.none/\∃h' tk,s₂={ s with heap:=h',toks:=tk }/\h'.SetOf (intKind prog w) s.heap.objs.size (λk=>(dist ns).any (· == k)) (dist ns).length/\∀b o,b<s.heap.objs.size->s.heap.get? b=some o->h'.get? b=some o) E) F.called_set.init.plain F.entry_set_init (check_set_init_1 g2 ?_)) λr₂ s₂ qT=>?_
   ·obtain⟨ot,TZ,Uc,nt,Ua⟩:=hl;obtain⟨oc,od,XO,AQ⟩:=ot;simp only at Uc Ua;subst Uc;subst Ua;have u1:(s.heap.push (j4 led)).get? l=some { cls:=.type "tuple",dict:=od,data:=.seq aF.toArray nt,slots:=AQ }:=X8 _ TZ;have u2:=xI;have u3:=p5;have u4:(Value.type "tuple" == Value.type "dict")=false:=by decide
    have u5:(s.heap.push (j4 led)).IsTuple l aF.toArray:=⟨_,u1,rfl,nt,rfl⟩
    unfold Builtin.«set.__init__» noKeywords Builtin.Frozenset.updateFrom;generalize WL:pyIter=PI
    wp_walk
    subst WL;refine wpAny_pyIter_tuple u5 (X4 (wpAny_runValue ?_));have u6:l<s.heap.objs.size:=Ya TZ;have u7:A.in1.in1.in1.handled=none:=by simp[hh]
    have hz:(s.heap.push (j4 led)).objs.size=s.heap.objs.size+1:=Heap.size_push ..;have u8:l≠(s.heap.push (j4 led)).objs.size:=by rw[hz];exact Yf (Ys u6)
    have u9:s.heap.objs.size∉[(s.heap.push (j4 led)).objs.size,l]:=by
     rw[hz];intro m;simp at m;exact absurd m (Yj u6)
    have v1:∀(i:Nat) (v:Value),aF.toArray[i]?=some v->∃t,v=.int ((λi=>ns.getD i 0) i) t:=λi v hv=>hi.int_at i v (by simpa using hv);refine codeAny_set_update_loopS ((Walks.tuple u7 _ l u8 aF.toArray).toS) s.heap.objs.size u9 (λi=>ns.getD i 0) v1 (by rw[List.size_toArray];exact hb) (aF.toArray.size - 0) 0 _ (by left) (Yy _) ⟨⟨_,Yd _ rfl,rfl,rfl⟩,u5.push _⟩ ?hS0 ?hR
    case hS0 =>
     have y1:((s.heap.push (j4 led)).push { cls:=.type "tuple_iterator",data:=.fields #[.ref l,.int 0 0] }).get? s.heap.objs.size=some (j4 led):=X8 _ g1;exact SetOf_congr ((setObjOf_fresh (knd:=intKind prog w) led).setOf y1 (by unfold scanBound;left)) (λ_=>rfl) rfl
    case hR =>
     intro s' hm wC;obtain⟨h',g',d',Vf,P5⟩:=s';cases (show g'=s.gens from hm.gens);cases (show d'=s.drawn from hm.drawn);cases (show P5=s.os from hm.os);have wC:h'.SetOf (intKind prog w) s.heap.objs.size (λk=>(dist ns).any (· == k)) (dist ns).length:=by
      have e:aF.toArray.size=ns.length:=by rw[List.size_toArray,Wh]
      rw[e]at wC;exact wC
     refine X6 (show wpAny _ _ (ret Value.none) _ _ _ from X6 ⟨rfl,h',Vf,rfl,wC,λb o hb e=>hm.heap b o (λm=>?_) (X8 _ (X8 _ e))⟩);rcases List.mem_cons.mp m with m|m
     ·exact Yf hb m
     ·have m:b=(s.heap.push (j4 led)).objs.size:=by simpa using m
      rw[hz]at m;exact Yf (Ys hb) m
   ·cases r₂ with
    |error e=>exact qT
    |ok MG =>
     cases MG with
     |ret r =>
      obtain⟨rfl,h',tk,rfl,wC,Q5⟩:=qT
      repeat (any_goals (first|assumption|wp_step))
      exact h _ _ wC Q5
     |next=>exact qT.elim
     |brk=>exact qT.elim
     |cont=>exact qT.elim
end
theorem Ad(ns:aa):dist ns=o6 ns:=by
 unfold dist firstMet o6;have e:(List.range ns.length).map (λi=>ns.getD i 0)=ns:=by
  refine Z5 (by simp) λi h1 h2=>?_;simp at h1;simp[h1]
 rw[e];rfl
def VC(K:ao):ae->Hp->VK->Prop:=λxs H Q=>∃(p:Addr) (ns:aa),xs=[.ref p]/\aU K H p (ns.map V.int)/\ns.length<4000/\Q (.int (o6 ns).length) H
theorem boot_set:bootBuiltins ("set" : Str)=some (.type "set"):=by decide +kernel
theorem BQ{e:Expr}{t:TA}{p:Pos}(hc:X.calm=true)(Q_:Gl X ("len" : Str))(Wm:X.mg ("len" : Str)=none)(Wr:Gl X ("set" : Str))(Wl:X.mg ("set" : Str)=none)(ha:PA X [e] t)
  (nE:∀es,starEach (e::es) X.env=(false,eval e X.env)::starEach es X.env):PE X (.Call (.Name ("len" : Str) p) [.Call (.Name ("set" : Str) p') [e] [] pos'] [] pos) (J2 (VC X.K) t):=by
 intro pins s σ H Q I h;refine YT (fb I Q_ Wm PySem.boot_len ?_ (by decide) (by decide));refine PyProof.Rows.callWith_builtin1 ?_ rfl rfl;show wpAny _ _ (spliced ((false,eval (.Call (.Name ("set" : Str) p') [e] [] pos') X.env)::[])) _ _ s;refine ZT ?_;refine YT (fb I Wr Wl boot_set ?_ (by decide) (by decide));refine Yr (cI (ha pos' pins s σ H _ I h) λus s1 bG=>?_) (nE _) rfl;obtain⟨vs,H1,I1,r1,q1⟩:=bG;obtain⟨a,ns,rfl,hq,hl,q⟩:=q1;obtain⟨u,rfl,ru⟩:=r1.one;cases ru;obtain⟨aF,rv,it,hz⟩:=I1.tuple hq;have hle:aF.length=ns.length:=by rw[<- rv.length];simp
 refine sD (I1.ok.hd hc) it (de rv) (by unfold scanBound;left) λh' tk hS kp=>Z0 ?_;rw[Ad]at hS;obtain⟨o,es,ep,tb,g1,g2,g3,_,_,g6,g7,g8⟩:=hS;refine call_len_set g1 g2 g3 g7 (by unfold scanBound at g6;omega) ?_;exact⟨.int (o6 ns).length,H1,I1.kept (t':=tk+1+1) λb u z=>kp b u (Ya z) z,⟨_,by rw[g8]⟩,q⟩
variable {args elts:ai}
section
variable {X:Cx}{S:Sx}{k:Nat}{F:ah}{Φ:aQ}
theorem Lk.SV(L:Lk X S k Φ):X.A.units+40<cLine:=by have:=L.room.units;left
def NH(K:ao)(neg:Bool):R2:=λv u H Q=>∃(d d':D) (N N':gk) (k k':aZ),Rep (aU K H) N k v d/\Rep (aU K H) N' k' u d'/\(∀q p xs f,N q p (.l xs) f->cM K H p xs)/\(∀q p xs f,N' q p (.l xs) f->cM K H p xs)/\eh 40 d=true/\eh 40 d'=true /\
 Q (.bl (if neg then !jX d d' else jX d d')) H
theorem Gm(hu:X.A.units+40<cLine):gY X (compareOp .Eq) (NH X.K false):=by
 intro pins s σ H x y v u Q I rx ry h;obtain⟨d,d',N,N',k,k',r1,r2,n1,n2,o1,o2,q⟩:=h;exact(alike I n1 n2 40 X.A r1 r2 o1 o2 rx ry hu).rc X.prog X.w X.xe _ ⟨.bl _,H,I,rfl,q⟩
theorem Gj(hu:X.A.units+40<cLine):gY X (compareOp .NotEq) (NH X.K true):=by
 intro pins s σ H x y v u Q I rx ry h;obtain⟨d,d',N,N',k,k',r1,r2,n1,n2,o1,o2,q⟩:=h;exact(alike I n1 n2 40 X.A r1 r2 o1 o2 rx ry hu).ne X.prog X.w X.xe _ ⟨.bl _,H,I,rfl,q⟩
theorem yg{k:aZ}{v v':V}{d d':D}(h:Rep T N k v d)(h':Rep T' N' k' v' d')(f:lO d=true)(f':lO d'=true):gD v=true/\CW v v'=jX d d':=by
 cases h<;>first | (cases f;done) | (cases h'<;>first | (cases f';done)|exact⟨rfl,rfl⟩)
theorem m_{k:aZ}{v:V}{d:D}(h:Rep T N k v d)(f:lO d=true):gD v=true:=by
 cases h<;>first | (cases f;done)|rfl
theorem ox{T T':jr}{N N':gk}{k':aZ}{v:V}{d:D}(hv:Rep T' N' k' v d)(f:lO d=true):∀{k:aZ} {n:Nat} {xs:ae} {ds:ab},aA T N k n xs ds->ds.all lO=true->xs.all gD=true/\N3 v xs=inD d ds
 |_,_,_,_,.nil,_=>⟨rfl,rfl⟩
 |_,_,_,_,.cons h t,fs=>by
  rw[List.all_cons,Bool.and_eq_true]at fs;obtain⟨h1,h2⟩:=ox hv f t fs.2;obtain⟨g1,g2⟩:=yg h hv fs.1 f;refine⟨by rw[List.all_cons,g1,h1];rfl,?_⟩;unfold N3 at h2 ⊢;rw[List.any_cons,g2,h2];rfl
def FW(K:ao)(op:xo):R2:=match op with
 |.eq=>NH K false
 |.ne=>NH K true
 |.lt=>yj λi j=>.bl (decide (i<j))
 |.le=>yj λi j=>.bl (decide (i<=j))
 |.gt=>yj λi j=>.bl (decide (j<i))
 |.ge=>yj λi j=>.bl (decide (j<=i))
 |.G9=>λx y H Q=>y=.bw/\Q (.bl (decide (x=.bw))) H
 |.CB=>PU K false
theorem yD(L:Lk X S k Φ)(op:xo):gY X (compareOp (P9 op)) (FW X.K op):=by
 cases op with
 |eq=>exact Gm L.SV
 |ne=>exact Gj L.SV
 |lt=>exact KZ
 |le=>exact K0
 |gt=>exact K1
 |ge=>exact K2
 |G9=>exact Gk
 |CB=>exact vX
theorem jE{op:CmpOp}{r:Expr}(h:f_ r=true):behindInMarks op r=false:=by
 cases r<;>first|rfl | (cases h;done)
theorem kJ{op:xo}{x y d:D}(LO:op=.lt\/op=.le\/op=.gt\/op=.ge)(h:dM op x y=ok d):∃i j,x=.int i/\y=.int j:=by
 cases x with
 |int i=>cases y with
  |int j=>exact⟨i,j,rfl,rfl⟩
  |_=>rcases LO with rfl|rfl|rfl|rfl<;>exact nk h
 |_=>rcases LO with rfl|rfl|rfl|rfl<;>exact nk h
theorem rG{op:xo}{a b:CE}(hq:tD X F Φ (.cmp op a b) σ H Q):AO (FW X.K op) (tD X F Φ a) (tD X F Φ b) σ H Q:=by
 obtain⟨R,τ,ρ,d,Si,ev,hq⟩:=hq;obtain⟨x,ex,ev⟩:=aq ev;obtain⟨y,ey,ev⟩:=aq ev;refine tD.intro Si ex λv H1 e1 r1=>tD.intro (Si.go e1) ey λu H2 e2 r2=>?_;have e:=e1.trans e2;have rv:=r1.go e2;have ru:=r2;obtain⟨τ1,f1,p1⟩:=rv;obtain⟨τ2,f2,p2⟩:=ru;have sq:∀{A:ah} {τ:Addr->Option aZ} (q:aZ) (p:Addr) (xs:ae) (f:Fl),nd X.K R A τ H2 q p (.l xs) f->cM X.K H2 p xs:=λq p xs f h=>h.sq;cases op with
 |eq =>
  obtain⟨hc,ev⟩:=ka ev
  ·subst ev;rw[Bool.and_eq_true]at hc;exact⟨x,y,_,_,_,_,p1,p2,sq,sq,hc.1,hc.2,hq _ H2 e .bl⟩
 |ne =>
  obtain⟨hc,ev⟩:=ka ev
  ·subst ev;rw[Bool.and_eq_true]at hc;exact⟨x,y,_,_,_,_,p1,p2,sq,sq,hc.1,hc.2,hq _ H2 e .bl⟩
 |lt=>obtain⟨i,j,rfl,rfl⟩:=kJ (by simp) ev;cases ev;exact⟨_,_,(r1.go e2).isInt,r2.isInt,hq _ H2 e .bl⟩
 |le=>obtain⟨i,j,rfl,rfl⟩:=kJ (by simp) ev;cases ev;exact⟨_,_,(r1.go e2).isInt,r2.isInt,hq _ H2 e .bl⟩
 |gt=>obtain⟨i,j,rfl,rfl⟩:=kJ (by simp) ev;cases ev;exact⟨_,_,(r1.go e2).isInt,r2.isInt,hq _ H2 e .bl⟩
 |ge=>obtain⟨i,j,rfl,rfl⟩:=kJ (by simp) ev;cases ev;exact⟨_,_,(r1.go e2).isInt,r2.isInt,hq _ H2 e .bl⟩
 |G9 =>
  cases y<;>simp[dM]at ev;cases p2;refine⟨rfl,hq _ H2 e ?_⟩;cases ev;cases p1<;>exact .bl
 |CB =>
  simp only[dM]at ev;split at ev
  ·rename_i ds hi;split at ev
   ·rename_i hc;rw[Bool.and_eq_true]at hc;cases ev;cases p2 with
    |tup h rs=>cases hi;obtain⟨g1,g2⟩:=ox p1 hc.1 rs hc.2;exact⟨_,_,rfl,.inr h,m_ p1 hc.1,g1,by rw[g2];exact hq _ H2 e .bl⟩
    |lst h rs=>cases hi;obtain⟨g1,g2⟩:=ox p1 hc.1 rs hc.2;exact⟨_,_,rfl,.inl h.sq,m_ p1 hc.1,g1,by rw[g2];exact hq _ H2 e .bl⟩
    |_=>cases hi
   ·cases ev
  ·cases ev
theorem xS{c:CE}{Q:Bool->Hp->Prop}(h:dN X F Φ c σ H Q):tB (tD X F Φ c) σ H Q:=by
 obtain⟨R,τ,ρ,b,Si,ev,hq⟩:=h;unfold r6 at ev;obtain⟨d,ed,et⟩:=aq ev;refine tD.intro Si ed λv H' e r=>?_;cases d<;>simp[fJ]at et;cases et;exact⟨_,r.we,hq H' e⟩
theorem bK{c:CE}{e:Expr}(h:PE X e (tD X F Φ c))(he:∀whole,isTrue e X.env whole=(do let v <- whole;standAt e.pos;holding [v] (truthy v))):PT X e (dN X F Φ c) :=
 PT.imp (F0 h he) λ_ _ _ h=>xS h
theorem vM{op:xo}{a b:CE}{Q:Bool->Hp->Prop}(h:dN X F Φ (.cmp op a b) σ H Q):D1 (AO (FW X.K op) (tD X F Φ a) (tD X F Φ b)) σ H Q :=
 rG (xS h)
theorem dictAt{pins:aj}{s:Shared}{p:Addr}{cs:av}(I:Inv X pins σ H s)(h:H p=some (.ext (DO p cs as xs ep))):∃o,s.heap.get? p=some o/\o.cls=.type "dict":=by
 obtain⟨⟨zs,o,es,_,_,_,ho,hx,_⟩,_⟩:=(show b_ H s.heap p (.ext (DO p cs as xs ep)) from I.cJ p _ h)
 exact⟨o,ho,hx.1⟩
theorem GS(L:Lk X S k Φ)(t:Ty):df X (.builtin "isinstance") (λxs H Q=>∃(x:V) (d:D) (N:gk) (k:aZ),xs=[x,.ty (tyName t)]/\Rep (aU X.K H) N k x d/\(∀q p xs f,N q p (.l xs) f->cM X.K H p xs)/\(∀q p cs as xs ep f,N q p (.d cs as xs ep) f->H p=some (.ext (DO p cs as xs ep)))/\Q (.bl (b8 t d)) H):=by
 intro pins s σ H xs us Q I r h;obtain⟨x,d,N,k,rfl,rp,hN,WM,q⟩:=h;obtain⟨u,w',rfl,ru,jB⟩:=vals2 r;cases (show w'=Value.type (tyName t) from jB);have kt:=Cp X.K t;have fin:∀b:Bool,b=b8 t d->∀tk,EP X pins σ Q (.bool b) { s with toks:=tk }:=λb e tk=>⟨.bl b,H,I.tok tk,rfl,by rw[e];exact q⟩
 cases rp with
 |bw=>cases ru;exact YV PySem.W.kitx_none I.y_ True.intro (kt "NoneType" (by simp[kinds])) (λz=>nomatch z) (fin _ (by cases t<;>rfl))
 |bl b=>cases ru;exact YV PySem.W.kitx_bool I.y_ True.intro (kt "bool" (by simp[kinds])) (λz=>nomatch z) (fin _ (by cases t<;>rfl))
 |int i=>obtain⟨t',rfl⟩:=ru;exact YV PySem.W.kitx_int I.y_ True.intro (kt "int" (by simp[kinds])) (λz=>nomatch z) (fin _ (by cases t<;>rfl))
 |str y=>obtain⟨t',rfl⟩:=ru;exact YV PySem.W.kitx_str I.y_ True.intro (kt "str" (by simp[kinds])) (λz=>nomatch z) (fin _ (by cases t<;>rfl))
 |tup h _ =>
  cases ru;obtain⟨aF,_,⟨o,h1,h2,_⟩,_⟩:=I.tuple h;exact YV PySem.W.kitx_tuple I.y_ ⟨o,h1,h2⟩ (kt "tuple" (by simp[kinds])) (λz=>nomatch z) (fin _ (by cases t<;>rfl))
 |lst h _ =>
  cases ru;obtain⟨aF,_,⟨o,n,h1,h2,_⟩,_⟩:=I.list (hN _ _ _ _ h);exact YV PySem.W.kitx_list I.y_ ⟨o,h1,h2⟩ (kt "list" (by simp[kinds])) (λz=>nomatch z) (fin _ (by cases t<;>rfl))
 |cx h _ _ =>
  cases ru;obtain⟨o,h1,h2⟩:∃o,s.heap.get? _=some o/\o.cls=.type "dict":=dictAt I (WM _ _ _ _ _ _ _ h);exact YV PySem.W.kitx_dict I.y_ ⟨o,h1,h2⟩ (kt "dict" (by simp[kinds])) (λz=>nomatch z) (fin _ (by cases t<;>rfl))
theorem Dx(t:Ty):bootBuiltins (tyName t:Str)=some (.type (tyName t)):=by
 cases t<;>decide +kernel
theorem mS(t:Ty):(tyName t:Str) ≠ "__name__" /\ ((tyName t:Str)==("__debug__" : Str))=false:=by
 cases t<;>decide +kernel
theorem FJ(L:Lk X S k Φ){a:CE}{t:Ty}{e:Expr}{p:Pos}(hf:jJ S.sc ("isinstance" : Str)=true)(Rc:("isinstance" : Str)∈S.bl)(hg:jJ S.sc (tyName t:Str)=true)(Q9:(tyName t:Str)∈S.bl)
  (ha:PE X e (tD X F Φ a)) (nE:∀es,starEach (e::es) X.env=(false,eval e X.env)::starEach es X.env):PE X (.Call (.Name ("isinstance" : Str) p) [e,.Name (tyName t:Str) p'] [] pos) (tD X F Φ (.g5 a t)):=by
 have hT:PE X (.Name (tyName t:Str) p') (tC (.ty (tyName t))):=BU (L.gl hg) (L.bl _ Q9) (Dx t) rfl (mS t).1 (mS t).2;refine PE.imp (c9 (GS L t) (L.gl hf) (L.bl _ Rc) PyProof.Rows.boot_isinstance (cc ha (cc hT dh) (nE _)) (he:=nE _)) λσ H Q hq=>?_;obtain⟨R,τ,ρ,d,Si,ev,hq⟩:=hq;obtain⟨x,ex,ev⟩:=aq ev;cases ev;refine tD.intro Si ex λv H1 e1 r1=>?_;obtain⟨τ1,f1,p1⟩:=r1;exact⟨v,x,_,_,rfl,p1,λq p xs f h=>h.sq,λq p cs as xs ep f h=>h.dat,hq _ H1 e1 .bl⟩
theorem G0:@DI.sU=@L2.sU:=rfl
set_option tactic.hygienic true in
theorem Kk(L:Lk X S k Φ){a b:CE}{e i:Expr}(ha:PE X e (tD X F Φ a))(hb:PE X i (tD X F Φ b))(hp:kN i):PE X (.Subscript e i pos) (tD X F Φ (.ix a b)):=by
 refine PE.imp (nh (kD.or oR) ha hb hp) λσ H Q hq=>?_;obtain⟨R,τ,ρ,d,Si,ev,hq⟩:=hq;obtain⟨x,ex,ev⟩:=aq ev;obtain⟨y,ey,ev⟩:=aq ev;refine tD.intro Si ex λv H1 e1 r1=>tD.intro (Si.go e1) ey λu H2 e2 r2=>?_;have ee:=e1.trans e2;have rv:=(r1.go e2).mono (fv':=gc (.ix a b)) λj hj=>Yu _ hj;have item:∀{q:aZ} {xs:ae} {ds:ab} {τt:Addr->Option aZ} {j:Int},(∀p q,τt p=some q->H p=none)->aA (aU X.K H2) (nd X.K R (iQ (gP X F) τ (gc (.ix a b))) τt H2) q 0 xs ds->w6 ds j=ok d->∃w,L2.pQ xs j=some w/\Q w H2:=by
  intro q xs ds τt j fr rs h;unfold w6 at h;split at h
  ·rename_i d' hd;cases h;cases hx:DI.sU ds.length j with
   |none=>rw[hx]at hd;cases hd
   |some m =>
    rw[hx]at hd;obtain⟨w,hw,jB⟩:=rs.get (show ds[m]?=some d' from hd);refine⟨w,?_,hq w H2 ee ⟨λ_=>none,λ_ _ h=>by simp at h,jB.eZ Si fr⟩⟩;unfold L2.pQ;rw[<- G0,rs.length,hx];exact hw
  ·cases h
 cases y with
 |int j =>
  obtain⟨τt,fr,rp⟩:=rv;cases r2.isInt;cases x with
  |tup ds =>
   cases rp with
   | @tup _ p xs _ h rs=>obtain⟨w,h1,h2⟩:=item fr rs ev;exact .inr ⟨p,xs,j,w,rfl,rfl,h,h1,h2⟩
  |lst f ds =>
   cases rp with
   | @lst _ p xs _ _ h rs=>obtain⟨w,h1,h2⟩:=item fr rs ev;exact .inl ⟨p,xs,j,w,rfl,rfl,h.sq,h1,h2⟩
  |_=>exact nk ev
 |_=>cases x<;>cases ev
theorem lQ:∀(cs:aC) {ρ:aX} {ds:ab},cB Φ cs ρ=ok ds->ds.length=cs.length
 |[],_,_,h=>by cases h;rfl
 |c::cs,_,_,h=>by
  obtain⟨x,_,h⟩:=aq h;obtain⟨xs,hx,h⟩:=aq h;cases h;simp[lQ cs hx]
theorem FE{es:ai}{n:Nat}(h:PA X es (oh X F Φ cs))(hl:cs.length<=1000):PE X (.Tuple es n pos) (tD X F Φ (.tup cs)):=by
 refine PE.imp (F8 h) λσ H Q hq=>?_;obtain⟨R,τ,ρ,d,Si,ev,hq⟩:=hq;obtain⟨ds,Ig,ev⟩:=aq ev;cases ev;refine⟨R,τ,ρ,ds,Si,Ig,λvs H1 e1 r1=>?_⟩;obtain⟨τt,fr,rs⟩:=r1;have hz:sizeLine=16777216:=YF;refine⟨by rw[rs.length,lQ cs Ig];left,λp hp=>?_⟩;have es:aG H1 (upd H1 p (.tup vs)):=aG.upd hp;exact hq _ _ (e1.trans es) ⟨τt,fr,.tup (aU.of aV) (rs.imp (λ_ _ h=>aU.same es h) λ_ _ _ _ h=>nd.same es h)⟩
theorem FH{es:ai}(h:PA X es (oh X F Φ cs))(hl:cs.length<=1000):PE X (.List es pos) (tD X F Φ (.lst cs)):=by
 refine PE.imp (Gb h) λσ H Q hq=>?_;obtain⟨R,τ,ρ,d,Si,ev,hq⟩:=hq;obtain⟨ds,Ig,ev⟩:=aq ev;cases ev;refine⟨R,τ,ρ,ds,Si,Ig,λvs H1 e1 r1=>?_⟩;obtain⟨τt,fr,rs⟩:=r1;have hz:sizeLine=16777216:=YF;refine⟨by rw[rs.length,lQ cs Ig];left,λp hp=>?_⟩;have es:aG H1 (upd H1 p (.lst vs)):=aG.upd hp;refine hq _ _ (e1.trans es) ⟨λq=>if q=p then some []else τt q,λq z hq=>?_,.lst ⟨aV,by simp⟩ (rs.imp (λ_ _ h=>aU.same es h) λc q xs f h=>?_)⟩
 ·by_cases sZ:q=p
  ·subst sZ;exact e1.free hp
  ·simp only[sZ,if_false]at hq;exact fr q z hq
 ·have h':=nd.same es h;cases f with
  |ow =>
   have sZ:q≠p:=by
    intro z;subst z;exact h.1.ne hp
   exact⟨h'.1,by simp only[sZ,if_false];exact h'.2⟩
  |fz=>exact h'
  |al=>exact h'
  |sc=>exact h'
theorem BA(L:Lk X S k Φ){f:Nat}{x:Str}{y:Expr}{ys:ai}{p:Pos}(hf:S.fn f=some x)(hg:jJ S.sc x=true)(hn:mx x=true)(ha:PA X (y::ys) (oh X F Φ cs))
  (nE:∀es,starEach (y::es) X.env=(false,eval y X.env)::starEach es X.env) (hpl:∀pos,(backTo pos (starEach ys X.env)).any (·.1)=false):PE X (.Call (.Name x p) (y::ys) [] pos) (tD X F Φ (.call f cs)):=by
 obtain⟨a,fd,ps,Fo,hm,hk,hb,hl⟩:=(L.fn f x hf).ex;unfold mx at hn;simp only[Bool.and_eq_true,Bool.not_eq_true']at hn;refine PE.imp (BS Fo L.room (L.gl hg) hm hk hb .nil (KW (X:=X)) ha hn.1.1 (nE _) (hpl _)) λσ H Q hq=>?_;obtain⟨R,τ,ρ,d,Si,ev,hq⟩:=hq;obtain⟨xs,bt,ev⟩:=aq ev;obtain⟨r,er,ev⟩:=aq ev;cases ev;refine⟨R,τ,ρ,xs,Si,bt,λvs H1 e1 r1=>?_⟩;obtain⟨τt,fr,rs⟩:=r1;have fresh:∀p,H p=none->iQ (gP X F) τ (cR cs) p:=λp hp=>⟨.inr (Si.same.free hp),λc i e=>absurd hp (Si.th p _ e)⟩
 have hR:∀p,R p->iQ (gP X F) τ (cR cs) p:=λp hp=>⟨Si.rf p hp,λc i e=>by rw[Si.rt p hp]at e;cases e⟩
 rw[List.append_nil];refine⟨iQ (gP X F) τ (cR cs),az aY xs,r,by rw[rs.length,<- hl _ _ er,bo,List.length_map],aA.gz (λ_ _ h=>h) (λk k' p xs f h=>?_) rs _ _,er,λv H2 e2 rr=>?_⟩
 ·cases f with
  |ow=>exact⟨h.1,fresh p (fr p _ h.2)⟩
  |fz=>exact⟨h.1,hR p h.2⟩
  |al=>exact h
  |sc=>exact h
 ·obtain⟨τ2,Jv,rp⟩:=rr;refine hq v H2 (e1.trans e2) ⟨τ2,λp q h=>e1.free (Jv p q h),Rep.map (q:=[]) (q':=[]) (λ_ _ h=>h) (λc p xs f h=>?_) rp [] rfl⟩;cases f with
  |ow=>exact h
  |fz=>exact⟨h.1,h.2.elim id λz=>fresh p (e1.free z)⟩
  |al=>exact h.2.elim
  |sc=>exact h
def S7(K:ao)(f:Bf):ae->Hp->VK->Prop:=match f with
 |.len=>λxs H Q=>∃p ys,xs=[.ref p]/\(cM K H p ys\/aU K H p ys)/\Q (.int ys.length) H
 |.abs=>λxs H Q=>∃i,xs=[.int i]/\Q (.int (if i<0 then -i else i)) H
 |.qS=>λxs H Q=>(∃i,xs=[.int i]/\Q (.int i) H)\/∃k,xs=[.bl k]/\Q (.int (if k then 1 else 0)) H
 |.list1=>λxs H Q=>∃p ys,xs=[.ref p]/\(cM K H p ys\/aU K H p ys)/\∀l,H l=none->Q (.ref l) (upd H l (.lst ys))
 |.tuple1=>λxs H Q=>∃p ys,xs=[.ref p]/\((cM K H p ys/\∀l,H l=none->Q (.ref l) (upd H l (.tup ys)))\/(aU K H p ys/\Q (.ref p) H))
 |.p_=>λxs H Q=>∃(p:Addr) (ns:aa),xs=[.ref p]/\cM K H p (ns.map V.int)/\Q (.int ns.sum) H
 |.all1=>λxs H Q=>∃(p:Addr) (bs:List Bool),xs=[.ref p]/\cM K H p (bs.map V.bl)/\Q (.bl (bs.all id)) H
 |.fM=>λxs H Q=>∃(p:Addr) (ns:aa),xs=[.ref p]/\(cM K H p (ns.map V.int)\/aU K H p (ns.map V.int))/\ns.length<64/\∀l,H l=none->Q (.ref l) (upd H l (.lst ((sortI ns).map V.int)))
theorem aA.one{k:aZ}{n:Nat}{d:D}(h:aA T N k n vs [d]):∃v,vs=[v]/\Rep T N (n::k) v d:=by
 cases h with
 |cons h t=>cases t;exact⟨_,rfl,h⟩
theorem aA.two{k:aZ}{n:Nat}{d e:D}(h:aA T N k n vs [d,e]):∃v w,vs=[v,w]/\Rep T N (n::k) v d/\Rep T N ((n+1)::k) w e:=by
 cases h with
 |cons h t=>obtain⟨w,rfl,h'⟩:=t.one;exact⟨_,_,rfl,h,h'⟩
theorem aA.ints1{k:aZ}{n:Nat}{i:Int}(h:aA T N k n vs [.int i]):vs=[.int i]:=by
 obtain⟨v,rfl,z⟩:=h.one;cases z;rfl
theorem aA.ints2{k:aZ}{n:Nat}{i j:Int}(h:aA T N k n vs [.int i,.int j]):vs=[.int i,.int j]:=by
 obtain⟨v,w,rfl,z,z'⟩:=h.two;cases z;cases z';rfl
noncomputable def Bf.one:Bf->Bool
 |_=>true
theorem EE{f:Bf}{xs:ab}{d:D}(hf:f.one=true)(h:pB f xs=ok d):∃x,xs=[x]:=by
 cases xs with
 |nil=>cases f<;>exact nk h
 |cons x xs=>cases xs with
  |nil=>exact⟨x,rfl⟩
  |cons y ys=>cases f<;>first | (cases hf;done) | (cases x<;>exact nk h)
theorem aA.ofInts{T:jr}{N:gk}{k:aZ}:∀{ns:aa} {n:Nat} {vs:ae},aA T N k n vs (ns.map D.int)->vs=ns.map V.int
 |[],_,_,h=>by cases h;rfl
 |i::ns,_,_,h=>by
  cases h with
  |cons h t=>cases h;rw[aA.ofInts t];rfl
theorem aA.Ed{T:jr}{N:gk}{k:aZ}:∀{ns:List Bool} {n:Nat} {vs:ae},aA T N k n vs (ns.map D.bl)->vs=ns.map V.bl
 |[],_,_,h=>by cases h;rfl
 |i::ns,_,_,h=>by
  cases h with
  |cons h t=>cases h;rw[aA.Ed t];rfl
theorem nC{T:jr}{N:gk}{k:aZ}:∀(ns:aa) {n:Nat},aA T N k n (ns.map V.int) (ns.map D.int)
 |[],_=>.nil
 |i::ns,_=>.cons (.int i) (nC ns)
set_option tactic.hygienic true in
theorem Dy{f:Bf}(hq:tD X F Φ (.bf f cs) σ H Q):J2 (S7 X.K f) (oh X F Φ cs) σ H Q:=by
 obtain⟨R,τ,ρ,d,Si,ev,hq⟩:=hq;obtain⟨xs,bt,ev⟩:=aq ev;refine⟨R,τ,ρ,xs,Si,bt,λvs H1 e1 r1=>?_⟩;obtain⟨τt,fr,rs⟩:=r1;cases f with
 |len =>
  obtain⟨x,rfl⟩:=EE rfl ev;obtain⟨v,rfl,rv⟩:=rs.one;cases x with
  |tup ds=>cases ev;obtain⟨_,_,rfl,h,r⟩:=rv.xu;exact⟨_,_,rfl,.inr h,by rw[r.length];exact hq _ H1 e1 .int⟩
  |lst f ds=>cases ev;obtain⟨_,_,rfl,h,r⟩:=rv.kT;exact⟨_,_,rfl,.inl h.sq,by rw[r.length];exact hq _ H1 e1 .int⟩
  |_=>exact nk ev
 |abs =>
  obtain⟨x,rfl⟩:=EE rfl ev;cases x with
  |int i=>cases ev;cases rs.ints1;exact⟨_,rfl,hq _ H1 e1 .int⟩
  |_=>exact nk ev
 |qS =>
  obtain⟨x,rfl⟩:=EE rfl ev;obtain⟨v,rfl,rv⟩:=rs.one;cases x with
  |bl i=>cases ev;cases rv;exact .inr ⟨_,rfl,hq _ H1 e1 .int⟩
  |_=>exact nk ev
 |list1 =>
  obtain⟨x,rfl⟩:=EE rfl ev;obtain⟨v,rfl,rv⟩:=rs.one;cases x with
  |tup ds =>
   cases ev;obtain⟨_,_,rfl,h,r⟩:=rv.xu;refine⟨_,_,rfl,.inr h,λl hl=>?_⟩;exact hq _ _ (e1.trans (aG.upd hl)) (bC.qF (e1.free hl) (e1.trans (aG.upd hl)) aV ((r.eZ Si fr).imp (λ_ _ h=>aU.same (aG.upd hl) h) λ_ _ _ _ h=>nd.same (aG.upd hl) h))
  |lst f ds =>
   cases ev;obtain⟨_,_,rfl,h,r⟩:=rv.kT;refine⟨_,_,rfl,.inl h.sq,λl hl=>?_⟩;exact hq _ _ (e1.trans (aG.upd hl)) (bC.qF (e1.free hl) (e1.trans (aG.upd hl)) aV ((r.eZ Si fr).imp (λ_ _ h=>aU.same (aG.upd hl) h) λ_ _ _ _ h=>nd.same (aG.upd hl) h))
  |_=>exact nk ev
 |tuple1 =>
  obtain⟨x,rfl⟩:=EE rfl ev;obtain⟨v,rfl,rv⟩:=rs.one;cases x with
  |lst f ds =>
   cases ev;obtain⟨_,_,rfl,h,r⟩:=rv.kT;refine⟨_,_,rfl,.inl ⟨h.sq,λl hl=>?_⟩⟩;exact hq _ _ (e1.trans (aG.upd hl)) ⟨λ_=>none,λ_ _ h=>by simp at h,.tup (aU.of aV) ((r.eZ Si fr).imp (λ_ _ h=>aU.same (aG.upd hl) h) λ_ _ _ _ h=>nd.same (aG.upd hl) h)⟩
  |_=>exact nk ev
 |p_ =>
  obtain⟨x,rfl⟩:=EE rfl ev;obtain⟨v,rfl,rv⟩:=rs.one;cases x with
  |lst f ds =>
   have ev:(match intsOf ds with|some ns=>ok (.int ns.sum)|none=>none)=ok d:=ev;cases hn:intsOf ds with
   |none=>rw[hn]at ev;cases ev
   |some ns =>
    rw[hn]at ev;cases ev;cases cV hn;cases rv with
    |lst h r=>cases r.ofInts;exact⟨_,ns,rfl,h.sq,hq _ H1 e1 .int⟩
  |_=>exact nk ev
 |all1 =>
  obtain⟨x,rfl⟩:=EE rfl ev;obtain⟨v,rfl,rv⟩:=rs.one;cases x with
  |lst f ds =>
   have ev:(match gf ds with|some bs=>ok (.bl (bs.all id))|none=>none)=ok d:=ev;cases hn:gf ds with
   |none=>rw[hn]at ev;cases ev
   |some ns =>
    rw[hn]at ev;cases ev;cases rN hn;cases rv with
    |lst h r=>cases r.Ed;exact⟨_,ns,rfl,h.sq,hq _ H1 e1 .bl⟩
  |_=>exact nk ev
 |fM =>
  obtain⟨x,rfl⟩:=EE rfl ev;obtain⟨v,rfl,rv⟩:=rs.one;have fin:∀ds,qe ds=ok d->∃ns:aa,ds=ns.map D.int/\ns.length<64/\∀l,H1 l=none->Q (.ref l) (upd H1 l (.lst ((sortI ns).map V.int))):=by
   intro ds e;unfold qe at e;split at e
   ·rename_i ns hn;split at e
    ·rename_i uR;cases e;refine⟨ns,cV hn,uR,λl hl=>hq _ _ (e1.trans (aG.upd hl)) (bC.qF (e1.free hl) (e1.trans (aG.upd hl)) aV (nC _))⟩
    ·cases e
   ·cases e
  cases x with
  |tup ds =>
   obtain⟨ns,rfl,uR,q⟩:=fin ds ev;cases rv with
   |tup h r=>cases r.ofInts;exact⟨_,ns,rfl,.inr h,uR,q⟩
  |_=>exact nk ev
theorem Kl(L:Lk X S k Φ){f:Bf}{y:Expr}{ys:ai}{p:Pos}(hg:jJ S.sc (pA f:Str)=true)(hb:(pA f:Str)∈S.bl)(ha:PA X (y::ys) (oh X F Φ cs))
  (nE:∀es,starEach (y::es) X.env=(false,eval y X.env)::starEach es X.env) (hpl:∀pos,(backTo pos (starEach ys X.env)).any (·.1)=false):PE X (.Call (.Name (pA f:Str) p) (y::ys) [] pos) (tD X F Φ (.bf f cs)):=by
 refine PE.imp (t:=J2 (S7 X.K f) (oh X F Φ cs)) ?_ λσ H Q hq=>Dy hq;cases f with
 |len=>exact c9 pz (L.gl hg) (L.bl _ hb) PySem.boot_len ha (he:=nE _) (hpl:=hpl _)
 |abs=>exact c9 Au (L.gl hg) (L.bl _ hb) (by decide +kernel) ha (he:=nE _) (hpl:=hpl _)
 |qS=>exact ft wX (L.gl hg) (L.bl _ hb) (by decide +kernel) ha (he:=nE _) (hpl:=hpl _)
 |list1=>exact ft pv (L.gl hg) (L.bl _ hb) (by decide +kernel) ha (he:=nE _) (hpl:=hpl _)
 |tuple1=>exact ft mJ (L.gl hg) (L.bl _ hb) (by decide +kernel) ha (he:=nE _) (hpl:=hpl _)
 |p_=>exact c9 (wW L.calm) (L.gl hg) (L.bl _ hb) (by decide +kernel) ha (he:=nE _) (hpl:=hpl _)
 |fM=>exact c9 pk (L.gl hg) (L.bl _ hb) (by decide +kernel) ha (he:=nE _) (hpl:=hpl _)
 |all1=>exact c9 (wY L.calm) (L.gl hg) (L.bl _ hb) (by decide +kernel) ha (he:=nE _) (hpl:=hpl _)
set_option tactic.hygienic true in
theorem By(L:Lk X S k Φ){a:CE}{e:Expr}{p:Pos}(hf:jJ S.sc ("len" : Str)=true)(Rc:("len" : Str)∈S.bl)(hg:jJ S.sc ("set" : Str)=true)(Q9:("set" : Str)∈S.bl)
  (ha:PE X e (tD X F Φ a)) (nE:∀es,starEach (e::es) X.env=(false,eval e X.env)::starEach es X.env):PE X (.Call (.Name ("len" : Str) p) [.Call (.Name ("set" : Str) p') [e] [] pos'] [] pos) (tD X F Φ (.iw a)):=by
 refine PE.imp (BQ L.calm (L.gl hf) (L.bl _ Rc) (L.gl hg) (L.bl _ Q9) (cc ha dh (nE _)) nE) λσ H Q hq=>?_;obtain⟨R,τ,ρ,d,Si,ev,hq⟩:=hq;obtain⟨x,ex,ev⟩:=aq ev;refine tD.intro Si ex λv H1 e1 r1=>?_;obtain⟨τ1,f1,rv⟩:=r1;cases x with
 |tup ds =>
  simp only[uy]at ev;split at ev
  ·rename_i ns hn;split at ev
   ·rename_i hl;cases ev;cases cV hn;cases rv with
    |tup h r=>cases r.ofInts;exact⟨_,ns,rfl,h,hl,hq _ H1 e1 .int⟩
   ·cases ev
  ·cases ev
 |_=>exact nk ev
theorem FF{a:CE}{e:Expr}(h:PE X e (tD X F Φ a)):PE X (.UnaryOp .Not e pos) (tD X F Φ (.not a)):=by
 refine PE.imp (F_ h) λσ H Q hq=>?_;obtain⟨R,τ,ρ,d,Si,ev,hq⟩:=hq;obtain⟨b,eb,ev⟩:=aq ev;obtain⟨x,ex,eb⟩:=aq eb;cases ev;refine tD.intro Si ex λv H1 e1 r1=>?_;cases x<;>simp[fJ]at eb;cases eb;exact⟨_,r1.we,hq _ H1 e1 .bl⟩
theorem Fs{a:CE}{e:Expr}(h:PT X e (dN X F Φ a)):PT X (.UnaryOp .Not e pos) (dN X F Φ (.not a)):=by
 refine PT.imp (F1 h) λσ H Q hq=>?_;obtain⟨R,τ,ρ,b,Si,ev,hq⟩:=hq;unfold r6 at ev;obtain⟨d,ed,ev⟩:=aq ev;obtain⟨c,ec,ed⟩:=aq ed;cases ed;have R4:b=!c:=by
  have e2:ok (!c)=ok b:=ev;exact(Except.ok.inj (Yg e2)).symm
 subst R4;exact⟨R,τ,ρ,c,Si,ec,λH' e=>hq H' e⟩
theorem FI{c a b:CE}{t x y:Expr}(hc:PT X t (dN X F Φ c))(ha:PE X x (tD X F Φ a))(hb:PE X y (tD X F Φ b)):PE X (.IfExp t x y pos) (tD X F Φ (.ite c a b)):=by
 refine PE.imp (yv hc ha hb) λσ H Q hq=>?_;obtain⟨R,τ,ρ,d,Si,ev,hq⟩:=hq;obtain⟨w,ew,ev⟩:=aq ev;refine⟨R,τ,ρ,w,Si,ew,λH1 e1=>?_⟩;cases w with
 |true=>exact tD.intro (Si.go e1) ev λv H' e r=>hq v H' (e1.trans e) ((r.old e1).mono λi hi=>by simp[gc,hi])
 |false=>exact tD.intro (Si.go e1) ev λv H' e r=>hq v H' (e1.trans e) ((r.old e1).mono λi hi=>by simp[gc,hi])
theorem Ft{c a b:CE}{t x y:Expr}(hc:PT X t (dN X F Φ c))(ha:PT X x (dN X F Φ a))(hb:PT X y (dN X F Φ b)):PT X (.IfExp t x y pos) (dN X F Φ (.ite c a b)):=by
 intro pins s σ H Q I hq;obtain⟨R,τ,ρ,d,Si,ev,hq⟩:=hq;unfold r6 at ev;obtain⟨x',MK,et⟩:=aq ev;obtain⟨w,ew,ev⟩:=aq MK;refine isTrue_IfExp (cI (hc pins s σ H (λw' H1=>w'=w/\aG H H1) I ⟨R,τ,ρ,w,Si,ew,λH1 e1=>⟨rfl,e1⟩⟩) λw' s1 bG=>?_);obtain⟨H1,I1,hw,e1⟩:=bG;subst hw;cases w' with
 |true=>exact ha pins s1 σ H1 Q I1 ⟨R,τ,ρ,d,Si.go e1,by unfold r6;rw[show bj Φ a ρ=ok x' from ev];exact et,λH' e=>hq H' (e1.trans e)⟩
 |false=>exact hb pins s1 σ H1 Q I1 ⟨R,τ,ρ,d,Si.go e1,by unfold r6;rw[show bj Φ b ρ=ok x' from ev];exact et,λH' e=>hq H' (e1.trans e)⟩
theorem FG{a:CE}{e:Expr}(h:PE X e (tD X F Φ a)):PE X (.UnaryOp .USub e pos) (tD X F Φ (.neg a)):=by
 refine PE.imp (KR Fb h) λσ H Q hq=>?_;obtain⟨R,τ,ρ,d,Si,ev,hq⟩:=hq;obtain⟨x,ex,ev⟩:=aq ev;refine tD.intro Si ex λv H1 e1 r1=>?_;cases x<;>simp[Cc]at ev;cases ev;exact⟨_,r1.isInt,hq _ H1 e1 .int⟩
theorem DK{c:CE}(hq:tD X F Φ (.and [c]) σ H Q):tD X F Φ c σ H Q:=by
 obtain⟨R,τ,ρ,d,Si,ev,hq⟩:=hq;obtain⟨b,eb,ev⟩:=aq ev;obtain⟨x,ex,eb⟩:=aq eb;cases ev;refine tD.intro Si ex λv H1 e1 r1=>?_;cases x<;>simp[fJ]at eb;cases eb;rw[r1.we];exact hq _ H1 e1 .bl
theorem Gh{c:CE}(hq:tD X F Φ (.or [c]) σ H Q):tD X F Φ c σ H Q:=by
 obtain⟨R,τ,ρ,d,Si,ev,hq⟩:=hq;obtain⟨b,eb,ev⟩:=aq ev;obtain⟨x,ex,eb⟩:=aq eb;cases ev;refine tD.intro Si ex λv H1 e1 r1=>?_;cases x<;>simp[fJ]at eb;cases eb;rw[r1.we];exact hq _ H1 e1 .bl
theorem AE{c:CE}{Q:Bool->Hp->Prop}(hq:dN X F Φ (.and [c]) σ H Q):dN X F Φ c σ H Q:=by
 obtain⟨R,τ,ρ,d,Si,ev,hq⟩:=hq;unfold r6 at ev;obtain⟨b,eb,ev⟩:=aq ev;obtain⟨x,ex,eb⟩:=aq eb;cases eb;cases ev;exact⟨R,τ,ρ,_,Si,ex,hq⟩
theorem BX{c:CE}{Q:Bool->Hp->Prop}(hq:dN X F Φ (.or [c]) σ H Q):dN X F Φ c σ H Q:=by
 obtain⟨R,τ,ρ,d,Si,ev,hq⟩:=hq;unfold r6 at ev;obtain⟨b,eb,ev⟩:=aq ev;obtain⟨x,ex,eb⟩:=aq eb;cases eb;cases ev;exact⟨R,τ,ρ,_,Si,ex,hq⟩
theorem AF{c:CE}(hq:tD X F Φ (.and (c::c'::cs)) σ H Q):D4 (tD X F Φ c) (tD X F Φ (.and (c'::cs))) σ H Q:=by
 obtain⟨R,τ,ρ,d,Si,ev,hq⟩:=hq;obtain⟨b,eb,ev⟩:=aq ev;obtain⟨x,ex,eb⟩:=aq eb;refine tD.intro Si ex λv H1 e1 r1=>?_;cases x<;>simp[fJ]at eb;cases eb;refine⟨_,r1.we,?_⟩;cases b with
 |true =>
  rw[if_pos rfl]at ev ⊢;exact tD.intro (Si.go e1) ev λv H' e r=>hq v H' (e1.trans e) ((r.old e1).mono λi hi=>Ye _ hi)
 |false =>
  rw[if_neg (by simp)]at ev ⊢;cases ev;exact hq _ H1 e1 .bl
theorem BY{c:CE}(hq:tD X F Φ (.or (c::c'::cs)) σ H Q):JW (tD X F Φ c) (tD X F Φ (.or (c'::cs))) σ H Q:=by
 obtain⟨R,τ,ρ,d,Si,ev,hq⟩:=hq;obtain⟨b,eb,ev⟩:=aq ev;obtain⟨x,ex,eb⟩:=aq eb;refine tD.intro Si ex λv H1 e1 r1=>?_;cases x<;>simp[fJ]at eb;cases eb;refine⟨_,r1.we,?_⟩;cases b with
 |false =>
  rw[if_neg (by simp)]at ev ⊢;exact tD.intro (Si.go e1) ev λv H' e r=>hq v H' (e1.trans e) ((r.old e1).mono λi hi=>Ye _ hi)
 |true =>
  rw[if_pos rfl]at ev ⊢;cases ev;exact hq _ H1 e1 .bl
theorem w9{c:CE}{Q:Bool->Hp->Prop}(hq:dN X F Φ (.and (c::c'::cs)) σ H Q):J3 (dN X F Φ c) (dN X F Φ (.and (c'::cs))) σ H Q:=by
 obtain⟨R,τ,ρ,d,Si,ev,hq⟩:=hq;unfold r6 at ev;obtain⟨x,ex,et⟩:=aq ev;obtain⟨b,eb,ev⟩:=aq ex;refine⟨R,τ,ρ,b,Si,eb,λH1 e1=>?_⟩;cases b with
 |true =>
  rw[if_pos rfl]at ev ⊢;exact⟨R,τ,ρ,d,Si.go e1,by unfold r6;rw[show bj Φ (.and (c'::cs)) ρ=ok x from ev];exact et,λH' e=>hq H' (e1.trans e)⟩
 |false =>
  rw[if_neg (by simp)]at ev ⊢;cases ev;cases et;exact hq H1 e1
theorem yA{c:CE}{Q:Bool->Hp->Prop}(hq:dN X F Φ (.or (c::c'::cs)) σ H Q):SX (dN X F Φ c) (dN X F Φ (.or (c'::cs))) σ H Q:=by
 obtain⟨R,τ,ρ,d,Si,ev,hq⟩:=hq;unfold r6 at ev;obtain⟨x,ex,et⟩:=aq ev;obtain⟨b,eb,ev⟩:=aq ex;refine⟨R,τ,ρ,b,Si,eb,λH1 e1=>?_⟩;cases b with
 |false =>
  rw[if_neg (by simp)]at ev ⊢;exact⟨R,τ,ρ,d,Si.go e1,by unfold r6;rw[show bj Φ (.or (c'::cs)) ρ=ok x from ev];exact et,λH' e=>hq H' (e1.trans e)⟩
 |true =>
  rw[if_pos rfl]at ev ⊢;cases ev;cases et;exact hq H1 e1
theorem fK{Q:ae->Hp->Prop}(hq:oh X F Φ [] σ H Q):JY σ H Q:=by
 obtain⟨R,τ,ρ,d,Si,ev,hq⟩:=hq;cases ev;exact hq _ H (aG.refl H) .nil
theorem dF{c:CE}{Q:ae->Hp->Prop}(hq:oh X F Φ (c::cs) σ H Q):D3 (tD X F Φ c) (oh X F Φ cs) σ H Q:=by
 obtain⟨R,τ,ρ,d,Si,ev,hq⟩:=hq;obtain⟨x,ex,ev⟩:=aq ev;obtain⟨xs,bt,ev⟩:=aq ev;cases ev;refine tD.intro Si ex λv H1 e1 r1=>⟨R,τ,ρ,xs,Si.go e1,bt,λvs H2 e2 r2=>hq _ H2 (e1.trans e2) (bX.cons e1 e2 (r1.mono λi hi=>Yu _ hi) (r2.mono λi hi=>Ye _ hi))⟩
theorem b7{c:CE}{e:Expr}(h:b9 S c e=true)(es:ai)(env:Env):starEach (e::es) env=(false,eval e env)::starEach es env:=by
 cases e<;>first|rfl | (cases c<;>exact(X7 h).elim)
theorem tN:∀{cs:aC} {es:ai},bN S cs es=true->∀(pos:Pos) (env:Env),(backTo pos (starEach es env)).any (·.1)=false
 |[],[],_,_,_=>rfl
 |[],_::_,h,_,_=>by exact(X7 h).elim
 |_::_,[],h,_,_=>by exact(X7 h).elim
 |c::cs,e::es,h,pos,env=>by
  replace h:=aL h;rw[b7 h.1];have:=tN h.2 pos env;unfold backTo at this ⊢;simp only[List.map_cons,List.any_cons,Bool.false_or];exact this
theorem nQ{c:CE}{e:Expr}(h:b9 S c e=true):kN e:=by
 intro o i;cases e<;>first|rfl | (cases c<;>exact(X7 h).elim)
theorem ya{j:Nat}:PE X (.Constant .none j pos) (tD X F Φ .bw):=PE.imp Ga λσ H Q bG=>by obtain⟨R,τ,ρ,d,Si,ev,hq⟩:=bG;cases ev;exact hq _ H (aG.refl H) .bw
theorem D8{b:Bool}{j:Nat}:PE X (.Constant (.bool b) j pos) (tD X F Φ (.bl b)):=PE.imp KU λσ H Q bG=>by obtain⟨R,τ,ρ,d,Si,ev,hq⟩:=bG;cases ev;exact hq _ H (aG.refl H) .bl
theorem yb{i:Int}{j:Nat}:PE X (.Constant (.int i) j pos) (tD X F Φ (.int i)):=PE.imp Gd λσ H Q bG=>by obtain⟨R,τ,ρ,d,Si,ev,hq⟩:=bG;cases ev;exact hq _ H (aG.refl H) .int
theorem x_{i:Str}{j:Nat}:PE X (.Constant (.str i) j pos) (tD X F Φ (.str i)):=PE.imp F9 λσ H Q bG=>by obtain⟨R,τ,ρ,d,Si,ev,hq⟩:=bG;cases ev;exact hq _ H (aG.refl H) .str
theorem G5(L:Lk X S k Φ){y:Expr}{p G_:Pos}(g1:jJ S.sc ("range" : Str)=true)(g2:("range" : Str)∈S.bl)(pa:PA X [y] (oh X F Φ es))(wu:bN S es [y]=true)
  (pins:aj) (s:Shared) (σ:St) (H:Hp) (R:ah) (τ:Addr->Option aZ) (ρ:aX) (xs items:ab) (I:Inv X pins σ H s) (Si:SI X F R τ ρ σ H) (bt:cB Φ es ρ=ok xs) (tH:dj Φ .ko xs=ok items) (Rr:It->Hp->Prop)
  (hR:∀J H2,aG H H2->Yl X.K J (jz X F τ (caps++cR es) H2) H2 items->Rr J H2) :
  wpAny (model X.prog X.w) X.A (eval (.Call (.Name ("range" : Str) p) [y] [] G_) X.env) (λv s1=>wpAny (model X.prog X.w) X.A (pyIter v) (AL X pins σ target Rr) X.xe s1) X.xe s:=by
 match es,wu with
 |[c],wu =>
  replace wu:=aL wu;refine ng (L.gl g1) (L.bl _ g2) pa (b7 wu.1 _ _) pins s σ H Rr I ⟨R,τ,ρ,xs,Si,bt,λvs H1 e1 rv=>?_⟩;obtain⟨τt,fr,rs⟩:=rv;obtain⟨n,rfl⟩:∃n,xs=[.int n]:=by
   cases xs with
   |nil=>cases tH
   |cons x t=>cases x<;>first | (cases tH;done) | (cases t with|nil=>exact⟨_,rfl⟩|cons _ _=>cases tH)
  cases rs.ints1
  ·obtain⟨⟨c1,c2⟩,tH⟩:=ka tH;subst tH;have oW:(fe:Int)=1000000:=rfl;refine⟨n,rfl,by left,by left,hR _ H1 e1 ?_⟩;have:=ET (X:=X) (lo:=0) (n:=n.toNat) (R:=jz X F τ (caps++cR [c]) H1) (H1:=H1);simpa using this
 |[],wu=>exact(X7 wu).elim
 |_::_::_,wu=>exact(X7 (aL wu).2).elim
theorem G4(L:Lk X S k Φ){c:CE}{y:Expr}(pe:PE X y (tD X F Φ c))
  (pins:aj) (s:Shared) (σ:St) (H:Hp) (R:ah) (τ:Addr->Option aZ) (ρ:aX) (xs items:ab) (I:Inv X pins σ H s) (Si:SI X F R τ ρ σ H) (bt:cB Φ [c] ρ=ok xs) (tH:dj Φ .seq xs=ok items) (Rr:It->Hp->Prop)
  (hR:∀J H2,aG H H2->Yl X.K J (jz X F τ (caps++cR [c]) H2) H2 items->Rr J H2) :
  wpAny (model X.prog X.w) X.A (eval y X.env) (λv s1=>wpAny (model X.prog X.w) X.A (pyIter v) (AL X pins σ target Rr) X.xe s1) X.xe s:=by
 obtain⟨x,ex,bt⟩:=aq bt;obtain⟨xs',RX,bt⟩:=aq bt;cases RX;cases bt;have T_:∀i∈gc c,i∈caps++cR [c]:=λi hi=>Ye _ (Yu _ hi);cases x with
 |tup ds =>
  cases tH;refine yo pe pins s σ H Rr I (tD.intro Si ex λv H1 e1 rv=>?_);obtain⟨τt,fr,rp⟩:=rv;cases rp with
  | @tup _ p ys _ hp rs=>exact⟨p,rfl,⟨ys,hp⟩,hR _ H1 e1 (ES (q:=[]) hp (aA.gz (λ_ _ h=>h) (sE Si fr T_) rs _ _))⟩
 |lst f ds =>
  cases tH;refine ur pe pins s σ H Rr I (tD.intro Si ex λv H1 e1 rv=>?_);obtain⟨τt,fr,rp⟩:=rv;cases rp with
  | @lst _ p ys _ _ hp rs=>exact⟨p,rfl,⟨ys,hp.sq⟩,hR _ H1 e1 (A6 (q:=[]) hp.sq (aA.gz (λ_ _ h=>h) (sE Si fr T_) rs _ _))⟩
 |_=>cases tH
theorem JF{xs:ab}{J:It}(Si:SI X F R τ ρ σ H)(hs:∀i∈fv,i∈fv')(r:bX X.K (gP X F) R τ fv H H2 vs xs)(y:JA X.K J H2 vs xs items):
  Yl X.K J (jz X F τ fv' H2) H2 items:=by
 obtain⟨τt,fr,rs⟩:=r;have at':∀H',aG H2 H'->aA (aU X.K H') (nd X.K (jz X F τ fv' H2) (λ_=>False) (λ_=>none) H') [] 0 vs (az aY xs):=λH' e =>
  (aA.gz (T':=aU X.K H2) (λ_ _ h=>h) (sE Si fr hs) rs [] 0).imp (λ_ _ h=>aU.same e h) λ_ _ _ _ h=>nd.same e h
 have st:∀H',aG H2 H'->rV X.K H2 vs xs H':=λH' e=>⟨⟨_,at' H2 (aG.refl H2),λp o _ h=>e p o h⟩,λ_ _ h=>aU.same e h⟩
 exact⟨λi H' e hi=>y.go i H' _ (st H' e) (at' H' e) hi,λi H' x kh e hi hy=>y.rY i H' _ x kh (st H' e) (at' H' e) hi hy,λi H' e hi=>y.stop i H' _ (st H' e) (at' H' e) hi⟩
theorem G7(L:Lk X S k Φ){p:Nat}{y:Expr}(hp:S.px.pi p S.sc S.bl y=some args)(ht:(decide (1100<=p)||fP target)=true)(hs:iF X F Φ es args)
  (pins:aj) (s:Shared) (σ:St) (H:Hp) (R:ah) (τ:Addr->Option aZ) (ρ:aX) (xs items:ab) (I:Inv X pins σ H s) (Si:SI X F R τ ρ σ H) (bt:cB Φ es ρ=ok xs) (tH:dj Φ (.bq p) xs=ok items) (Rr:It->Hp->Prop)
  (hR:∀J H2,aG H H2->Yl X.K J (jz X F τ (caps++cR es) H2) H2 items->Rr J H2) :
  wpAny (model X.prog X.w) X.A (eval y X.env) (λv s1=>wpAny (model X.prog X.w) X.A (pyIter v) (AL X pins σ target Rr) X.xe s1) X.xe s:=by
 obtain⟨d,ed,ei⟩:=aq (show bd (Φ p xs) la=ok items from tH);exact L.pr.i X _ _ k L.pX p y args hp F es target ht hs pins s σ H R τ ρ xs d items I Si bt ed ei Rr λJ H2 vs e2 r yz=>hR J H2 e2 (JF Si (λi hi=>by simp[hi]) r yz)
theorem rC{S':Sx}{ifs:ai}(h3:bz.length<=1)(h4:bN S' bz ifs=true)
  (s_:∀(X':Cx) (F':ah),Lk X' S' k Φ->∀(j:Nat) (c:CE) (e:Expr),bz[j]?=some c->ifs[j]?=some e->PE X' e (tD X' F' Φ c)/\PT X' e (dN X' F' Φ c)) :
  (bz=[]/\ifs=[])\/∃c e,bz=[c]/\ifs=[e]/\∀(X':Cx) (F':ah),Lk X' S' k Φ->PT X' e (dN X' F' Φ c):=by
 cases bz with
 |nil=>cases ifs with
  |nil=>exact .inl ⟨rfl,rfl⟩
  |cons _ _=>exact(X7 h4).elim
 |cons c cs=>cases cs with
  |cons _ _=>simp at h3
  |nil=>cases ifs with
   |nil=>exact(X7 h4).elim
   |cons e ifs=>cases ifs with
    |cons _ _=>exact(X7 (aL h4).2).elim
    |nil=>exact .inr ⟨c,e,rfl,rfl,λX' F' L'=>(s_ X' F' L' 0 c e rfl rfl).2⟩
def MU(S:Sx)(ik:IK)(es:aC)(target iter:Expr):Bool:=match ik with
 |.ko=>bp (f9 iter) λw=>decide (w.1=("range" : Str))&&jJ S.sc w.1&&decide (w.1∈S.bl)&&bp (one w.2) λy=>bN S es [y]
 |.seq=>bN S es [iter]
 |.bq p=>NQ iter&&(decide (1100<=p)||fP target)&&bp (S.px.pi p S.sc S.bl iter) λxs=>bN S es xs
theorem zc(L:Lk X S k Φ){ik:IK}(wu:∀l,bN S es l=true->PA X l (oh X F Φ es))
  (s_:∀l,bN S es l=true->∀(j:Nat) (c:CE) (e:Expr),es[j]?=some c->l[j]?=some e->PE X e (tD X F Φ c)/\PT X e (dN X F Φ c)) (Wd:∀l,bN S es l=true->iF X F Φ es l) (h6:MU S ik es target iter=true) :
  ∀(pins:aj) (s:Shared) (σ:St) (H:Hp) (R:ah) (τ:Addr->Option aZ) (ρ:aX) (xs items:ab),Inv X pins σ H s->SI X F R τ ρ σ H->cB Φ es ρ=ok xs->dj Φ ik xs=ok items->∀(Rr:It->Hp->Prop),
   (∀J H2,aG H H2->Yl X.K J (jz X F τ (caps++cR es) H2) H2 items->Rr J H2) ->
   wpAny (model X.prog X.w) X.A (eval iter X.env) (λv s1=>wpAny (model X.prog X.w) X.A (pyIter v) (AL X pins σ target Rr) X.xe s1) X.xe s:=by
 cases ik with
 |ko =>
  obtain⟨⟨x,as⟩,hv,h6⟩:=br h6;obtain⟨p,G_,rfl⟩:=cK hv;obtain⟨Hx,g3⟩:=aL h6;obtain⟨Hw,g2⟩:=aL Hx;obtain⟨Hv,g1⟩:=aL Hw;obtain rfl:x=_:=X5 Hv;obtain⟨y,hu,CO⟩:=br g3;obtain rfl:as=[y]:=bP hu;exact G5 L g1 (X5 g2) (wu _ CO) CO
 |seq =>
  have QV:=s_ _ h6;cases es with
  |nil=>exact(X7 h6).elim
  |cons c cs=>cases cs with
   |cons _ _=>exact(X7 (aL h6).2).elim
   |nil=>exact G4 L (QV 0 c _ rfl rfl).1
 |bq p =>
  obtain⟨h6,g3⟩:=aL h6;obtain⟨xs,ha,CO⟩:=br g3;exact G7 L ha (aL h6).2 (Wd _ CO)
mutual
theorem bg:∀(c:CE) (X:Cx) (S:Sx) (F:ah) (L:Lk X S k Φ) (e:Expr),b9 S c e=true->PE X e (tD X F Φ c)/\PT X e (dN X F Φ c)
 |.bq p cs,X,S,F,L,e,h=>by
  obtain⟨args,ha,hb⟩:=br (aL h).2;exact L.pr.e X _ _ k L.pX p e args ha F cs (gQ cs X S F L args hb)
 |.bw,X,S,F,L,e,h=>by
  obtain⟨c,hv,fB⟩:=br h;obtain⟨j,p,rfl⟩:=pV hv;obtain rfl:=wb fB;exact⟨ya,bK ya λ_=>rfl⟩
 |.bl b,X,S,F,L,e,h=>by
  obtain⟨c,hv,fB⟩:=br h;obtain⟨j,p,rfl⟩:=pV hv;obtain rfl:=zg fB;exact⟨D8,bK D8 λ_=>rfl⟩
 |.int i,X,S,F,L,e,h=>by
  obtain⟨c,hv,fB⟩:=br h;obtain⟨j,p,rfl⟩:=pV hv;obtain rfl:=wc fB;exact⟨yb,bK yb λ_=>rfl⟩
 |.str t,X,S,F,L,e,h=>by
  obtain⟨c,hv,fB⟩:=br h;obtain⟨j,p,rfl⟩:=pV hv;obtain rfl:=wa fB;exact⟨x_,bK x_ λ_=>rfl⟩
 |.v i,X,S,F,L,e,h=>by
  obtain⟨x,hv,h'⟩:=br h;obtain⟨p,rfl⟩:=ju hv;have:=Pl (F:=F) L h;exact⟨this,bK this λ_=>rfl⟩
 |.glo x i,X,S,F,L,e,h=>by
  obtain⟨y,hv,fB⟩:=br h;obtain⟨pos,rfl⟩:=ju hv;obtain⟨jI,h3⟩:=aL fB;obtain⟨mE,h2⟩:=aL jI;obtain⟨zI,h1⟩:=aL mE;obtain rfl:=X5 zI;obtain⟨u,hm,r⟩:=L.cs _ _ (X5 h2);have this:PE X (.Name y pos) (tD X F Φ (.glo y i)):=PE.imp (uw (v:=.int i) (L.gl h1) hm r (jS h3)) λσ H Q bG=>by obtain⟨R,τ,ρ,d,Si,ev,hq⟩:=bG;cases ev;exact hq _ H (aG.refl H) .int
  exact⟨this,bK this λ_=>rfl⟩
 |.gls x z,X,S,F,L,e,h=>by
  obtain⟨y,hv,fB⟩:=br h;obtain⟨pos,rfl⟩:=ju hv;obtain⟨jI,h3⟩:=aL fB;obtain⟨mE,h2⟩:=aL jI;obtain⟨zI,h1⟩:=aL mE;obtain rfl:=X5 zI;obtain⟨u,hm,r⟩:=L.cs _ _ (X5 h2);have this:PE X (.Name y pos) (tD X F Φ (.gls y z)):=PE.imp (uw (v:=.str z) (L.gl h1) hm r (jS h3)) λσ H Q bG=>by obtain⟨R,τ,ρ,d,Si,ev,hq⟩:=bG;cases ev;exact hq _ H (aG.refl H) .str
  exact⟨this,bK this λ_=>rfl⟩
 |.bin op a b,X,S,F,L,e,h=>by
  obtain⟨⟨l,o,r⟩,hv,fB⟩:=br h;obtain⟨pos,rfl⟩:=t7 hv;obtain⟨jI,h2⟩:=aL fB;obtain⟨mE,h1⟩:=aL jI;obtain rfl:o=K3 op:=X5 mE;have:=FK (F:=F) (pos:=pos) L (op:=op) (bg a X S F L _ h1).1 (bg b X S F L _ h2).1;exact⟨this,bK this λ_=>rfl⟩
 |.neg a,X,S,F,L,e,h=>by
  obtain⟨⟨o,x⟩,hv,fB⟩:=br h;obtain⟨pos,rfl⟩:=xx hv;obtain⟨jI,h1⟩:=aL fB;obtain rfl:o=.USub:=X5 jI;have:=FG (F:=F) (Φ:=Φ) (pos:=pos) (bg a X S F L _ h1).1;exact⟨this,bK this λ_=>rfl⟩
 |.not a,X,S,F,L,e,h=>by
  obtain⟨⟨o,x⟩,hv,fB⟩:=br h;obtain⟨pos,rfl⟩:=xx hv;obtain⟨jI,h1⟩:=aL fB;obtain rfl:o=.Not:=X5 jI;exact⟨FF (bg a X S F L _ h1).1,Fs (bg a X S F L _ h1).2⟩
 |.and cs,X,S,F,L,e,h=>by
  obtain⟨⟨o,vs⟩,hv,fB⟩:=br h;obtain⟨pos,rfl⟩:=pW hv;obtain⟨jI,h1⟩:=aL fB;obtain rfl:o=.And:=X5 jI;exact⟨(jy cs X S F L vs h1 pos).1,(jy cs X S F L vs h1 pos).2.pt⟩
 |.or cs,X,S,F,L,e,h=>by
  obtain⟨⟨o,vs⟩,hv,fB⟩:=br h;obtain⟨pos,rfl⟩:=pW hv;obtain⟨jI,h1⟩:=aL fB;obtain rfl:o=.Or:=X5 jI;exact⟨(k8 cs X S F L vs h1 pos).1,(k8 cs X S F L vs h1 pos).2.pt⟩
 |.ite c a b,X,S,F,L,e,h=>by
  obtain⟨⟨t,x,y⟩,hv,fB⟩:=br h;obtain⟨pos,rfl⟩:=EZ hv;obtain⟨jI,h2⟩:=aL fB;obtain⟨h0,h1⟩:=aL jI;exact⟨FI (bg c X S F L _ h0).2 (bg a X S F L _ h1).1 (bg b X S F L _ h2).1,Ft (bg c X S F L _ h0).2 (bg a X S F L _ h1).2 (bg b X S F L _ h2).2⟩
 |.cmp op a b,X,S,F,L,e,h=>by
  obtain⟨⟨l,os,rs⟩,hv,fB⟩:=br h;obtain⟨pos,rfl⟩:=ki hv;obtain⟨jI,h2⟩:=aL fB;obtain⟨mE,h1⟩:=aL jI;obtain⟨r,hr,Rz⟩:=br h2;obtain⟨Mj,h3⟩:=aL Rz;obtain rfl:os=[P9 op]:=X5 mE;obtain rfl:rs=[r]:=bP hr;exact⟨PE.imp (kz (yD L op) (bg a X S F L _ h1).1 (bg b X S F L _ Mj).1 (jE h3)) λ_ _ _ mE=>rG mE,PT.imp (ku (yD L op) (bg a X S F L _ h1).1 (bg b X S F L _ Mj).1 (jE h3)) λ_ _ _ mE=>vM mE⟩
 |.g5 a t,X,S,F,L,e,h=>by
  obtain⟨⟨f,as⟩,hv,fB⟩:=br h;obtain⟨p,pos,rfl⟩:=cK hv;obtain⟨jI,h5⟩:=aL fB;obtain⟨mE,h2⟩:=aL jI;obtain⟨zI,h1⟩:=aL mE;obtain rfl:f=_:=X5 zI;obtain⟨⟨e,g⟩,hw,CM⟩:=br h5;obtain rfl:as=[e,g]:=jv hw;obtain⟨Me,h6⟩:=aL CM;obtain⟨x,hn,Hx⟩:=br h6;obtain⟨p',rfl⟩:∃p,g=.Name x p:=ju hn;obtain⟨Hw,h4⟩:=aL Hx;obtain⟨Hv,h3⟩:=aL Hw;obtain rfl:=X5 Hv;have:=FJ (F:=F) (p:=p) (p':=p') (pos:=pos) L h1 (X5 h2) h3 (X5 h4) (bg a X S F L _ Me).1 (λes=>b7 Me es _);exact⟨this,bK this λ_=>rfl⟩
 |.call f cs,X,S,F,L,e,h=>by
  obtain⟨⟨x,as⟩,hv,fB⟩:=br h;obtain⟨p,pos,rfl⟩:=cK hv;obtain⟨jI,h4⟩:=aL fB;obtain⟨mE,h3⟩:=aL jI;obtain⟨h1,h2⟩:=aL mE;obtain⟨⟨y,ys⟩,hu,oY⟩:=br h4;obtain rfl:as=y::ys:=xC hu;cases cs with
  |nil=>exact(X7 oY).elim
  |cons c EB =>
   have Mh:=aL oY;have:=BA (F:=F) (p:=p) (pos:=pos) L (X5 h1) h2 h3 (d_ (c::EB) X S F L (y::ys) oY) (λes=>b7 Mh.1 es _) (λpos=>tN Mh.2 pos _);exact⟨this,bK this λ_=>rfl⟩
 |.bf f cs,X,S,F,L,e,h=>by
  obtain⟨⟨x,as⟩,hv,fB⟩:=br h;obtain⟨p,pos,rfl⟩:=cK hv;obtain⟨jI,h4⟩:=aL fB;obtain⟨mE,h3⟩:=aL jI;obtain⟨zI,h2⟩:=aL mE;obtain rfl:x=_:=X5 zI;obtain⟨⟨y,ys⟩,hu,oY⟩:=br h4;obtain rfl:as=y::ys:=xC hu;cases cs with
  |nil=>exact(X7 oY).elim
  |cons c EB =>
   have Mh:=aL oY;have:=Kl (F:=F) (p:=p) (pos:=pos) L h2 (X5 h3) (d_ (c::EB) X S F L (y::ys) oY) (λes=>b7 Mh.1 es _) (λpos=>tN Mh.2 pos _);exact⟨this,bK this λ_=>rfl⟩
 |.iw a,X,S,F,L,e,h=>by
  obtain⟨⟨x,as⟩,hv,fB⟩:=br h;obtain⟨p,pos,rfl⟩:=cK hv;obtain⟨jI,h4⟩:=aL fB;obtain⟨mE,h2⟩:=aL jI;obtain⟨zI,h1⟩:=aL mE;obtain rfl:x=_:=X5 zI;obtain⟨y,hu,oY⟩:=br h4;obtain rfl:as=[y]:=bP hu;obtain⟨⟨z,bs⟩,hw,h4_3⟩:=br oY;obtain⟨p',pos',rfl⟩:=cK hw;obtain⟨Rv,h5⟩:=aL h4_3;obtain⟨Ru,h6⟩:=aL Rv;obtain⟨Rt,h3⟩:=aL Ru;obtain rfl:z=_:=X5 Rt;obtain⟨u,QI,CM⟩:=br h5;obtain rfl:bs=[u]:=bP QI;have:=By (F:=F) (p:=p) (p':=p') (pos:=pos) (pos':=pos') L h1 (X5 h2) h3 (X5 h6) (bg a X S F L _ CM).1 (λes=>b7 CM es _);exact⟨this,bK this λ_=>rfl⟩
 |.ix a b,X,S,F,L,e,h=>by
  obtain⟨⟨l,r⟩,hv,fB⟩:=br h;obtain⟨pos,rfl⟩:=eQ hv;obtain⟨h1,h2⟩:=aL fB;have:=Kk (F:=F) (pos:=pos) L (bg a X S F L _ h1).1 (bg b X S F L _ h2).1 (nQ h2);exact⟨this,bK this λ_=>rfl⟩
 |.tup cs,X,S,F,L,e,h=>by
  obtain⟨es,hv,fB⟩:=br h;obtain⟨n,pos,rfl⟩:=iT hv;obtain⟨h1,h2⟩:=aL fB;have:=FE (F:=F) (n:=n) (pos:=pos) (d_ cs X S F L es h1) (X5 h2);exact⟨this,bK this λ_=>rfl⟩
 |.lst cs,X,S,F,L,e,h=>by
  obtain⟨es,hv,fB⟩:=br h;obtain⟨pos,rfl⟩:=Ba hv;obtain⟨h1,h2⟩:=aL fB;have:=FH (F:=F) (pos:=pos) (d_ cs X S F L es h1) (X5 h2);exact⟨this,bK this λ_=>rfl⟩
 |.comp n t caps ik es bz elt,X,S,F,L,e,h=>by
  obtain⟨⟨g_,gens,sc⟩,hv,fB⟩:=br h;obtain⟨pos,rfl⟩:=xy hv;obtain⟨⟨target,iter,ifs,a⟩,hg,jI⟩:=br fB;obtain rfl:gens=_:=bP hg;obtain⟨mE,h6⟩:=aL jI;obtain⟨zI,h5⟩:=aL mE;obtain⟨WI,h4⟩:=aL zI;obtain⟨WH,h3⟩:=aL WI;obtain⟨WG,h2⟩:=aL WH;obtain⟨WE,h1⟩:=aL WG;obtain rfl:a=0:=X5 WE;have s_:=λ(X':Cx) (F':ah) (L':Lk X' (S.inner target caps sc) k Φ)=>gq bz X' _ F' L' ifs h4;have this:PE X (.ListComp g_ [⟨target,iter,ifs,0⟩] sc pos) (tD X F Φ (.comp n t caps ik es bz elt)) :=
   Bz L (nP h1) h2 (λX' F' L'=>(bg elt X' _ F' L' g_ h5).1) (rC (X5 h3) h4 s_) (zc L (λl=>d_ es X S F L l) (λl=>gq es X S F L l) (λl=>gQ es X S F L l) h6)
  exact⟨this,bK this λ_=>rfl⟩
theorem gq:∀(cs:aC) (X:Cx) (S:Sx) (F:ah) (L:Lk X S k Φ) (es:ai),bN S cs es=true->∀(j:Nat) (c:CE) (e:Expr),cs[j]?=some c->es[j]?=some e->PE X e (tD X F Φ c)/\PT X e (dN X F Φ c)
 |[],X,S,F,L,_,_=>λj c e h _=>by simp at h
 |_::_,X,S,F,L,[],h=>by exact(X7 h).elim
 |c::cs,X,S,F,L,e::es,h=>λj c' e' hc he=>by
  replace h:=aL h;cases j with
  |zero=>simp at hc he;subst hc he;exact bg c X S F L e h.1
  |succ j=>exact gq cs X S F L es h.2 j c' e' (by simpa using hc) (by simpa using he)
theorem gQ:∀(cs:aC) (X:Cx) (S:Sx) (F:ah) (L:Lk X S k Φ) (es:ai),bN S cs es=true->iF X F Φ cs es
 |[],X,S,F,L,[],_=>trivial
 |[],X,S,F,L,_::_,h=>by exact(X7 h).elim
 |_::_,X,S,F,L,[],h=>by exact(X7 h).elim
 |c::cs,X,S,F,L,e::es,h=>by
  replace h:=aL h;exact⟨(bg c X S F L e h.1).1,λl=>b7 h.1 l _,nQ h.1,gQ cs X S F L es h.2⟩
theorem d_:∀(cs:aC) (X:Cx) (S:Sx) (F:ah) (L:Lk X S k Φ) (es:ai),bN S cs es=true->PA X es (oh X F Φ cs)
 |[],X,S,F,L,[],_=>PA.imp dh λ_ _ _ h=>fK h
 |[],X,S,F,L,_::_,h=>by exact(X7 h).elim
 |_::_,X,S,F,L,[],h=>by exact(X7 h).elim
 |c::cs,X,S,F,L,e::es,h=>by
  replace h:=aL h;exact PA.imp (cc (bg c X S F L e h.1).1 (d_ cs X S F L es h.2) (b7 h.1 es _)) λ_ _ _ h=>dF h
theorem jy:∀(cs:aC) (X:Cx) (S:Sx) (F:ah) (L:Lk X S k Φ) (es:ai),bN S cs es=true->∀pos,PE X (.BoolOp .And es pos) (tD X F Φ (.and cs))/\PW X (.BoolOp .And es pos) (dN X F Φ (.and cs))
 |[],X,S,F,L,_,_,pos=>⟨λ_ _ _ _ _ _ ⟨_,_,_,_,_,ev,_⟩=>(by cases ev),λ_ _ _ _ _ _ _ bG=>by obtain⟨_,_,_,_,_,ev,_⟩:=bG;cases ev⟩
 |[c],X,S,F,L,[e],h,pos=>by
  replace h:=aL h;exact⟨PE.imp (yu (bg c X S F L e h.1).1) λ_ _ _ h=>DK h,PW.imp (BM (bg c X S F L e h.1).2) λ_ _ _ h=>AE h⟩
 |[_],X,S,F,L,[],h,_=>by exact(X7 h).elim
 |[_],X,S,F,L,_::_::_,h,_=>by exact(X7 (aL h).2).elim
 |_::_::_,X,S,F,L,[],h,_=>by exact(X7 h).elim
 |_::_::_,X,S,F,L,[_],h,_=>by exact(X7 (aL h).2).elim
 |c::c'::cs,X,S,F,L,e::e'::es,h,pos=>by
  replace h:=aL h;have r:=jy (c'::cs) X S F L (e'::es) h.2 pos;exact⟨PE.imp (Ge (bg c X S F L e h.1).1 r.1) λ_ _ _ h=>AF h,PW.imp (FZ (bg c X S F L e h.1).2 r.2) λ_ _ _ h=>w9 h⟩
theorem k8:∀(cs:aC) (X:Cx) (S:Sx) (F:ah) (L:Lk X S k Φ) (es:ai),bN S cs es=true->∀pos,PE X (.BoolOp .Or es pos) (tD X F Φ (.or cs))/\PW X (.BoolOp .Or es pos) (dN X F Φ (.or cs))
 |[],X,S,F,L,_,_,pos=>⟨λ_ _ _ _ _ _ ⟨_,_,_,_,_,ev,_⟩=>(by cases ev),λ_ _ _ _ _ _ _ bG=>by obtain⟨_,_,_,_,_,ev,_⟩:=bG;cases ev⟩
 |[c],X,S,F,L,[e],h,pos=>by
  replace h:=aL h;exact⟨PE.imp (yu (bg c X S F L e h.1).1) λ_ _ _ h=>Gh h,PW.imp (FY (bg c X S F L e h.1).2) λ_ _ _ h=>BX h⟩
 |[_],X,S,F,L,[],h,_=>by exact(X7 h).elim
 |[_],X,S,F,L,_::_::_,h,_=>by exact(X7 (aL h).2).elim
 |_::_::_,X,S,F,L,[],h,_=>by exact(X7 h).elim
 |_::_::_,X,S,F,L,[_],h,_=>by exact(X7 (aL h).2).elim
 |c::c'::cs,X,S,F,L,e::e'::es,h,pos=>by
  replace h:=aL h;have r:=k8 (c'::cs) X S F L (e'::es) h.2 pos;exact⟨PE.imp (KS (bg c X S F L e h.1).1 r.1) λ_ _ _ h=>BY h,PW.imp (KJ (bg c X S F L e h.1).2 r.2) λ_ _ _ h=>yA h⟩
end
theorem ip(L:Lk X S k Φ)(c:CE)(e:Expr)(h:b9 S c e=true):PE X e (tD X F Φ c)/\PT X e (dN X F Φ c):=bg c X S F L e h
theorem k7(L:Lk X S k Φ)(cs:aC)(es:ai)(h:bN S cs es=true):iF X F Φ cs es:=gQ cs X S F L es h
theorem uh(L:Lk X S k Φ)(cs:aC)(es:ai)(h:bN S cs es=true):PA X es (oh X F Φ cs):=d_ cs X S F L es h
end
section
variable {T T':jr}{N N':gk}
theorem aA.child{q:aZ}(hT:∀p xs,T p xs->T' p xs)(hN:∀c m p xs f,N (c++(m::q)) p xs f->N' (c++(m::q)) p xs f):∀{n:Nat} {vs:ae} {ds:ab},aA T N q n vs ds->aA T' N' q n vs ds
 |_,_,_,.nil=>.nil
 |n,_,_,.cons h t=>.cons (Rep.imp (q:=n::q) (q':=n::q) hT (λc p xs f h=>hN c n p xs f h) h) (aA.child hT hN t)
theorem aA.D7{q:aZ}{v:V}{d:D}:∀{n:Nat} {vs:ae} {ds:ab},aA T N q n vs ds->Rep T N ((n+ds.length)::q) v d->aA T N q n (vs++[v]) (ds++[d])
 |n,_,_,.nil,h=>.cons (by simpa using h) .nil
 |n,_,_,.cons (ds:=ds) h t,h'=>.cons h (aA.D7 t (by
   have e:n+(ds.length+1)=n+1+ds.length:=by left
   rw[List.length_cons,e]at h';exact h'))
theorem aA.setAt{q:aZ}{v:V}{d:D}:∀{n j:Nat} {vs:ae} {ds:ab},aA T N q n vs ds->Rep T N ((n+j)::q) v d->aA T N q n (vs.set j v) (ds.set j d)
 |_,_,_,_,.nil,_=>by simp;exact .nil
 |_,0,_,_,.cons _ t,h'=>.cons (by simpa using h') t
 |n,j+1,_,_,.cons h t,h'=>.cons h (aA.setAt (j:=j) t (by
   have e:n+(j+1)=n+1+j:=by left
   rw[e]at h';exact h'))
end
variable {d0 d1:D}{n':Nd}
section
variable {X:Cx}{F R:ah}{τ:Addr->Option aZ}{ρ:aX}{σ:St}{H:Hp}
theorem SI.own{i:Nat}(Si:SI X F R τ ρ σ H)(hi:ρ[i]?=some (some (.lst .ow ds))):∃p xs,σ[i]?=some (some (.ref p))/\H p=some (.lst xs)/\xs.length=ds.length/\τ p=some [i]/\aA (aU X.K H) (nd X.K R (λ_=>False) τ H) [i] 0 xs ds:=by
 obtain⟨v,hv,rp⟩:=Si.rep i _ hi;cases rp with
 |lst h r=>exact⟨_,_,hv,h.1,r.length,h.2,r⟩
theorem xW{H:Hp}{p:Addr}{n:Nd}{o:HO}(hp:dw H p n){a:Addr}{ys:ae}(h:aU K H a ys):aU K (upd H p o) a ys:=by
 obtain⟨o0,zp,LM,Jl⟩:=dw.some hp;have nO:∀a u,H a=some u->u≠o0->a≠p:=λa u e h z=>by subst z;rw[zp]at e;cases e;exact h rfl
 rcases h with (h|⟨o',h⟩)|h
 ·exact .inl (.inl (by rw[bh (nO a _ h λz=>LM _ z.symm)];exact h))
 ·exact .inl (.inr ⟨o',by rw[bh (nO a _ h λz=>Jl _ _ z.symm)];exact h⟩)
 ·exact .inr h
theorem SI.P1{i m:Nat}{v:V}{d:D}{p:Addr}{n:Nd}{o:HO}(Si:SI X F R τ ρ σ H)(hi:ρ[i]?=some (some d0))(hv:σ[i]?=some (some (.ref p)))(hp:dw H p n)(ht:τ p=some [i])
  (rs:aA (aU X.K H) (nd X.K R (λ_=>False) τ H) [i] 0 xs ds) (rk:gj X R τ H v d) (uK:dw (upd H p o) p n')
  (mk:∀{N:gk},N [i] p n' .ow->aA (aU X.K (upd H p o)) N [i] 0 xs' ds'->Rep (aU X.K (upd H p o)) N [i] (.ref p) d1)
  (hb:∀{N:gk},aA (aU X.K (upd H p o)) N [i] 0 xs ds->Rep (aU X.K (upd H p o)) N (m::[i]) v d->aA (aU X.K (upd H p o)) N [i] 0 xs' ds') :
  ∃τ',SI X F R τ' (ρ.set i (some d1)) σ (upd H p o)/\τ' p=some [i]/\aA (aU X.K (upd H p o)) (nd X.K R (λ_=>False) τ' (upd H p o)) [i] 0 xs' ds':=by
 obtain⟨τt,hτ,rp⟩:=rk;have N8:i<ρ.length:=by
  by_cases z:i<ρ.length
  ·exact z
  ·rw[List.getElem?_eq_none (by left)]at hi;cases hi
 obtain⟨o0,zp,LM,Jl⟩:=dw.some hp;have nR:∀a,R a->a≠p:=λa ha e=>by subst e;rw[Si.rt _ ha]at ht;cases ht
 have nT:∀a q,τt a=some q->a≠p:=λa q e z=>by subst z;rw[(hτ _ q e).1]at ht;cases ht
 have nO:∀a u,H a=some u->u≠o0->a≠p:=λa u e h z=>by subst z;rw[zp]at e;cases e;exact h rfl
 have keep:∀a,a≠p->(upd H p o) a=H a:=λa h=>bh h;have Hu:∀a ys,aU X.K H a ys->aU X.K (upd H p o) a ys:=λa ys h=>by
  rcases h with (h|⟨o',h⟩)|h
  ·exact .inl (.inl (by rw[keep a (nO a _ h λz=>LM _ z.symm)];exact h))
  ·exact .inl (.inr ⟨o',by rw[keep a (nO a _ h λz=>Jl _ _ z.symm)];exact h⟩)
  ·exact .inr h
 have Od:∀a (z:Nd),a≠p->dw H a z->dw (upd H p o) a z:=λa z ne h=>h.at λu e=>by rw[keep a ne];exact e
 have Ui:∀{τ1:Addr->Option aZ} q q' a (z:Nd),nd X.K R (λ_=>False) τ1 H q a z .sc->∀τ2,nd X.K R (λ_=>False) τ2 (upd H p o) q' a z .sc:=λq q' a z h τ2=>by
  obtain⟨ys,rfl,h⟩:=h.yc;exact h.elim (λ⟨o',w⟩=>.inl ⟨o',by rw[keep a (nO a _ w λz=>Jl _ _ z.symm)];exact w⟩) .inr
 have Uk:∀q a ys f,q≠[i]->nd X.K R (λ_=>False) τ H q a ys f->nd X.K R (λ_=>False) (λa=>match τt a with|some q=>some (q++[m,i])|none=>τ a) (upd H p o) q a ys f:=λq a ys f hq h=>by
  cases f with
  |ow =>
   have ne:a≠p:=λz=>by
    subst z;have:=h.2.symm.trans ht;exact hq (Yg this)
   refine⟨Od a ys ne h.1,?_⟩;cases z:τt a with
   |none=>simp only[z];exact h.2
   |some k=>have:=(hτ a k z).1;rw[h.2]at this;cases this
  |fz=>exact⟨Od a ys (nR a h.2) h.1,h.2⟩
  |al=>exact h.2.elim
  |sc=>exact Ui q q a ys h _
 have TY:(match τt p with|some q=>some (q++[m,i])|none=>τ p)=some [i]:=by
  cases z:τt p with
  |none=>exact ht
  |some k=>exact absurd rfl (nT p k z)
 have Uj:aA (aU X.K (upd H p o)) (nd X.K R (λ_=>False) (λa=>match τt a with|some q=>some (q++[m,i])|none=>τ a) (upd H p o)) [i] 0 xs' ds':=hb (aA.child Hu (λc n a ys f h=>Uk _ a ys f (λz=>by
  have:=Yn List.length z;simp at this) h) rs) (rp.imp (q:=[]) (q':=[m,i]) Hu λc a ys f h=>by
  cases f with
  |ow =>
   rw[List.append_nil]at h;exact⟨Od a ys (nT a _ h.2) h.1,by simp only[h.2]⟩
  |fz=>exact⟨Od a ys (nR a h.2) h.1,h.2⟩
  |al=>exact h.2.elim
  |sc=>exact Ui _ _ a ys h _)
 refine⟨λa=>match τt a with|some q=>some (q++[m,i])|none=>τ a,⟨by simp[Si.len],λj d' hj=>?_,λa ha=>?_,λa ha=>?_,Si.rf,λa q hq=>?_,λa q hq=>?_,?_⟩,TY,Uj⟩
 ·by_cases ib:j=i
  ·subst ib;rw[List.getElem?_set_self N8]at hj;cases hj;exact⟨.ref p,hv,mk ⟨uK,TY⟩ Uj⟩
  ·rw[List.getElem?_set_ne (Ne.symm ib)]at hj;obtain⟨u,hu,ru⟩:=Si.rep j d' hj;refine⟨u,hu,ru.imp (q:=[j]) (q':=[j]) Hu λc a ys f h=>Uk _ a ys f (λz=>?_) h⟩;have:=Yn List.getLast? z;simp at this;exact ib this
 ·cases z:τt a with
  |none=>simp only[z];exact Si.rt a ha
  |some k=>exact absurd ha (hτ a k z).2.1
 ·rw[keep a (nR a ha)];exact Si.rh a ha
 ·by_cases Uh:a=p
  ·subst Uh;rw[aV];simp
  ·rw[keep a Uh];cases z:τt a with
   |none=>simp only[z]at hq;exact Si.th a q hq
   |some k=>exact(hτ a k z).2.2.2
 ·cases z:τt a with
  |none=>simp only[z]at hq;exact Si.t0 a q hq
  |some k=>exact(hτ a k z).2.2.1
 ·intro a u e;have ne:a≠p:=λz=>by subst z;rw[Si.t0 _ _ ht]at e;cases e
  rw[keep a ne];exact Si.same a u e
theorem SI.KN{i m:Nat}{v:V}{d:D}{p:Addr}{n:Nd}{o:HO}(Si:SI X F R τ ρ σ H)(hi:ρ[i]?=some (some d0))(hv:σ[i]?=some (some (.ref p)))(hp:dw H p n)(ht:τ p=some [i])
  (rs:aA (aU X.K H) (nd X.K R (λ_=>False) τ H) [i] 0 xs ds) (rk:gj X R τ H v d) (uK:dw (upd H p o) p n')
  (mk:∀{N:gk},N [i] p n' .ow->aA (aU X.K (upd H p o)) N [i] 0 xs' ds'->Rep (aU X.K (upd H p o)) N [i] (.ref p) d1)
  (hb:∀{N:gk},aA (aU X.K (upd H p o)) N [i] 0 xs ds->Rep (aU X.K (upd H p o)) N (m::[i]) v d->aA (aU X.K (upd H p o)) N [i] 0 xs' ds') :
  ∃τ',SI X F R τ' (ρ.set i (some d1)) σ (upd H p o):=(Si.P1 hi hv hp ht rs rk uK mk hb).imp λ_ h=>h.1
theorem SI.put{i m:Nat}{v:V}{d:D}{g:ae->ae}{p:Addr}(Si:SI X F R τ ρ σ H)(hi:ρ[i]?=some (some (.lst .ow ds)))(hv:σ[i]?=some (some (.ref p)))(hp:H p=some (.lst xs))(ht:τ p=some [i])
  (rs:aA (aU X.K H) (nd X.K R (λ_=>False) τ H) [i] 0 xs ds) (rk:gj X R τ H v d)
  (hb:∀{N:gk},aA (aU X.K (upd H p (.lst (g xs)))) N [i] 0 xs ds->Rep (aU X.K (upd H p (.lst (g xs)))) N (m::[i]) v d->aA (aU X.K (upd H p (.lst (g xs)))) N [i] 0 (g xs) ds') :
  ∃τ',SI X F R τ' (ρ.set i (some (.lst .ow ds'))) σ (upd H p (.lst (g xs))) :=
 Si.KN (n:=.l xs) (n':=.l (g xs)) hi hv hp ht rs rk aV (λh r=>.lst h r) hb
end
section
variable {X:Cx}{S:Sx}{k:Nat}{F:ah}{Φ:aQ}
set_option tactic.hygienic true in
theorem sA(L:Lk X S k Φ)(c:CE)(e:Expr)(h:b9 S c e=true):PE X e (tK X F Φ c):=by
 by_cases hv:∃i,c=.v i
 ·obtain⟨i,rfl⟩:=hv;obtain⟨x,hx,ha⟩:=br h;obtain⟨p,rfl⟩:=ju hx;obtain⟨hb,h3⟩:=aL ha;obtain⟨h1,h2⟩:=aL hb;unfold mx at h3;simp only[Bool.and_eq_true,Bool.not_eq_true']at h3;refine PE.imp (sI (i:=i) (by rw[L.N];exact X5 h1) (L.Nr h2) h3.1.1 h3.1.2) λσ H Q hq=>?_;obtain⟨R,τ,ρ,r,Si,ev,hq⟩:=hq;simp only[g9]at ev;split at ev
  ·rename_i d hd;split at ev
   ·cases ev;obtain⟨v,τ',hv,gg,rk⟩:=Si.move hd;exact⟨v,hv,hq v H R τ' (aG.refl H) (λ_ h=>h) gg rk⟩
   ·rename_i ho;cases ev;obtain⟨v,hv,rp⟩:=Si.rep i d hd;exact⟨v,hv,hq v H R τ (aG.refl H) (λ_ h=>h) Si (wz rp (by simpa using ho))⟩
  ·cases ev
 ·refine PE.imp (ip (F:=F) L c e h).1 λσ H Q hq=>?_;obtain⟨R,τ,ρ,r,Si,ev,hq⟩:=hq;have R4:bd (bj Φ c ρ) (λd=>ok (keep c d ρ))=ok r:=by
   cases c<;>first|exact ev|exact absurd ⟨_,rfl⟩ hv
  obtain⟨d,ed,er⟩:=aq R4;cases er;refine tD.intro Si ed λv H' e' r'=>?_;obtain⟨R',τ',h1,h2,h3⟩:=Eh Si e' r';exact hq v H' R' τ' e' h1 h2 h3
end
structure Kp(R:ah)(H:Hp)(R':ah)(H':Hp):Prop where
 r:∀p,R p->R' p
 l:∀p (o:HO),R p->H p=some o->H' p=some o
 t:∀p xs,H p=some (.tup xs)->H' p=some (.tup xs)
 z:∀p o u,H p=some (.ic o u)->H' p=some (.ic o u)
theorem Kp.refl(R:ah)(H:Hp):Kp R H R H:=⟨λ_ h=>h,λ_ _ _ h=>h,λ_ _ h=>h,λ_ _ _ h=>h⟩
theorem Kp.of(e:aG H H')(h:∀p,R p->R' p):Kp R H R' H':=⟨h,λp xs _ h=>e _ _ h,λp xs h=>e _ _ h,λp o u h=>e _ _ h⟩
theorem Kp.trans{R2:Addr->Prop}(a:Kp R H R1 H1)(b:Kp R1 H1 R2 H2):Kp R H R2 H2 :=
 ⟨λp h=>b.r p (a.r p h),λp xs h e=>b.l p xs (a.r p h) (a.l p xs h e),λp xs h=>b.t p xs (a.t p xs h),λp o u h=>b.z p o u (a.z p o u h)⟩
theorem Kp.NB(a:Kp R H R' H'){p:Addr}(h:aU K H p xs):aU K H' p xs:=by
 rcases h with (h|⟨o,h⟩)|h
 ·exact .inl (.inl (a.t p xs h))
 ·exact .inl (.inr ⟨o,a.z p o _ h⟩)
 ·exact .inr h
theorem Kp.nd{K:ao}{R R':ah}{H H':Hp}(a:Kp R H R' H'){q:aZ}{p:Addr}{xs:Nd}{f:Fl}(h:DI.nd K R (λ_=>False) (λ_=>none) H q p xs f):DI.nd K R' (λ_=>False) (λ_=>none) H' q p xs f:=by
 cases f with
 |ow=>exact nomatch h.2
 |fz=>exact⟨h.1.at λo e=>a.l p o h.2 e,a.r p h.2⟩
 |al=>exact h.2.elim
 |sc =>
  obtain⟨ys,rfl,h⟩:=h.yc;exact h.elim (λ⟨o,h⟩=>.inl ⟨o,a.z p o _ h⟩) .inr
theorem Kp.rep(a:Kp R H R' H'){k:aZ}{v:V}{d:D}(h:Rep (aU K H) (DI.nd K R (λ_=>False) (λ_=>none) H) k v d):Rep (aU K H') (DI.nd K R' (λ_=>False) (λ_=>none) H') k v d :=
 h.imp (λ_ _ h=>a.NB h) λ_ _ _ _ h=>a.nd h
theorem Kp.PH(a:Kp R H R' H'){k:aZ}{n:Nat}{v:ae}{d:ab}(h:aA (aU K H) (DI.nd K R (λ_=>False) (λ_=>none) H) k n v d):aA (aU K H') (DI.nd K R' (λ_=>False) (λ_=>none) H') k n v d :=
 h.imp (λ_ _ h=>a.NB h) λ_ _ _ _ h=>a.nd h
def AJ(X:Cx)(F:ah)(H':Hp)(v:V)(d:D):Prop:=∃τt:Addr->Option aZ,(∀p q,τt p=some q->X.H₀ p=none)/\Rep (aU X.K H') (nd X.K (gP X F) (λ_=>False) τt H') [] v d
theorem gj.ret{v:V}{d:D}(Si:SI X F R τ ρ σ H)(h:gj X R τ H v d):AJ X F H v d:=by
 obtain⟨τt,ht,rp⟩:=h;exact⟨τt,λp q e=>(ht p q e).2.2.1,rp.imp (λ_ _ h=>h) λ_ _ _ _ h=>h.mono (λh=>Si.rf _ h) id id⟩
def j0(X:Cx)(F:ah)(D:Ends)(R:ah)(H:Hp):Fo×aX->Prop
 | (.nx,ρ')=>∀σ' H' R' τ',SI X F R' τ' ρ' σ' H'->Kp R H R' H'->D.nx σ' H'
 | (.rt d,_)=>∀v H',aG X.H₀ H'->AJ X F H' v d->D.rt v H'
def mV(X:Cx)(F:ah)(Φ:aQ)(c:CS):TS:=λD σ H=>∃R τ ρ r,SI X F R τ ρ σ H/\rl Φ c ρ=ok r/\j0 X F D R H r
def ml(X:Cx)(F:ah)(Φ:aQ)(cs:ag):TS:=λD σ H=>∃R τ ρ r,SI X F R τ ρ σ H/\cj Φ cs ρ=ok r/\j0 X F D R H r
noncomputable def GN(sc:Scope)(x:Str):Bool:=decide (sc.names.lookup x=some .local)||decide (sc.names.lookup x=some .cell)
def mH(S:Sx)(i:Nat):Expr->Bool
 |.Name x _=>decide (S.N[i]?=some x)&&GN S.sc x
 |_=>false
def Te:Expr->Bool
 |.Name x _=>mx x
 |_=>true
def Al(S:Sx):aJ->ai->Bool
 |[],es=>match es with
  |[]=>true
  |_::_=>false
 |i::is,es=>match es with
  |[]=>false
  |e::es=>mH S i e&&Al S is es
def wN(S:Sx):Tg->Expr->Bool
 |.nm i,e=>mH S i e
 |.tp is,e=>bp (vH e) λes=>Al S is es
noncomputable def iz(e:Expr):Bool:=decide (e.ctorIdx=8)
noncomputable def isTup:Expr->Bool
 |.Tuple _ _ _=>true
 |_=>false
noncomputable def Pf(S:Sx)(tg v:Expr):Bool:=match tg,v with
 |.Name x p,.ListComp _ _ sc pos=>(S.sc.names.lookup x==some .local)&&(p.line==pos.line)&&!(sc.names.any λ(n,k)=>n==x&&(k==.local||k==.cell))
 |_,_=>false
noncomputable def EY(e:Expr):Option (Str×Pos):=if h:e.ctorIdx=23 then Expr.Name.elim (motive_1:=λ_=>Option (Str×Pos)) e h (λx p=>some (x,p))else none
theorem t6{e:Expr}{x:Str}{p:Pos}(h:EY e=some (x,p)):e=.Name x p:=by
 obtain⟨k,h⟩:=dI h;exact Expr.Name.elim (motive_1:=λe=>∀k:e.ctorIdx=23,Expr.Name.elim (motive_1:=λ_=>Option (Str×Pos)) e k (λx p=>some (x,p))=some (x,p)->e=.Name x p) e k (λ_ _ _ h=>by cases h;rfl) k h
def Ak(S:Sx)(i j:Nat)(tg v:Expr):Bool :=
 bp (vH tg) λts=>bp (two ts) λt=>bp (EY t.1) λx=>bp (EY t.2) λy=>bp (vH v) λvs=>bp (two vs) λw =>
  decide (S.N[i]?=some x.1)&&decide (S.N[j]?=some y.1)&&decide (i≠j)&&decide (S.sc.names.lookup x.1=some .local)&&decide (S.sc.names.lookup y.1=some .local)&&decide (x.1≠y.1) &&
   decide (x.2.line=y.2.line)&&!([w.1,w.2].all (foldedForSure 8))&&!([w.1,w.2].all (constantsAlone 8))&&decide (([w.1,w.2].any λe=>match e with|.Starred ..=>true|_=>false)=false)
def MV(S:Sx)(it:CI)(e:Expr):Bool:=match it with
 |.ko a=>bp (f9 e) λw=>decide (w.1=("range" : Str))&&jJ S.sc w.1&&decide (w.1∈S.bl)&&bp (one w.2) λy=>b9 S a y
 |.seq a=>b9 S a e&&f_ e
 |.F7 p es=>NQ e&&bp (S.px.pi p S.sc S.bl e) λxs=>bN S es xs
noncomputable def yI:CI->Bool
 |.F7 p _=>decide (1100<=p)
 |_=>true
noncomputable def Be(s:Stmt):Option (ai×Expr):=if h:s.ctorIdx=5 then Stmt.Assign.elim (motive_2:=λ_=>Option (ai×Expr)) s h (λts v _=>some (ts,v))else none
theorem n9{s:Stmt}{ts:ai}{v:Expr}(h:Be s=some (ts,v)):∃p,s=.Assign ts v p:=by
 obtain⟨k,h⟩:=dI h;exact Stmt.Assign.elim (motive_2:=λs=>∀k:s.ctorIdx=5,Stmt.Assign.elim (motive_2:=λ_=>Option (ai×Expr)) s k (λts v _=>some (ts,v))=some (ts,v)->∃p,s=.Assign ts v p) s k (λ_ _ _ _ h=>by cases h;exact⟨_,rfl⟩) k h
noncomputable def JM(s:Stmt):Option (Option Expr):=if h:s.ctorIdx=3 then Stmt.Return.elim (motive_2:=λ_=>Option (Option Expr)) s h (λv _=>some v)else none
theorem A_{s:Stmt}{v:Option Expr}(h:JM s=some v):∃p,s=.Return v p:=by
 obtain⟨k,h⟩:=dI h;exact Stmt.Return.elim (motive_2:=λs=>∀k:s.ctorIdx=3,Stmt.Return.elim (motive_2:=λ_=>Option (Option Expr)) s k (λv _=>some v)=some v->∃p,s=.Return v p) s k (λ_ _ _ h=>by cases h;exact⟨_,rfl⟩) k h
noncomputable def Nt(s:Stmt):Option Expr:=if h:s.ctorIdx=24 then Stmt.Expr.elim (motive_2:=λ_=>Option Expr) s h (λv _=>some v)else none
theorem sf{s:Stmt}{v:Expr}(h:Nt s=some v):∃p,s=.Expr v p:=by
 obtain⟨k,h⟩:=dI h;exact Stmt.Expr.elim (motive_2:=λs=>∀k:s.ctorIdx=24,Stmt.Expr.elim (motive_2:=λ_=>Option Expr) s k (λv _=>some v)=some v->∃p,s=.Expr v p) s k (λ_ _ _ h=>by cases h;exact⟨_,rfl⟩) k h
noncomputable def OK(s:Stmt):Option (Expr×Operator×Expr):=if h:s.ctorIdx=7 then Stmt.AugAssign.elim (motive_2:=λ_=>Option (Expr×Operator×Expr)) s h (λo p v _=>some (o,p,v))else none
theorem Nu{s:Stmt}{v:Expr}{p:Operator}(h:OK s=some (o,p,v)):∃q,s=.AugAssign o p v q:=by
 obtain⟨k,h⟩:=dI h;exact Stmt.AugAssign.elim (motive_2:=λs=>∀k:s.ctorIdx=7,Stmt.AugAssign.elim (motive_2:=λ_=>Option (Expr×Operator×Expr)) s k (λo p v _=>some (o,p,v))=some (o,p,v)->∃q,s=.AugAssign o p v q) s k (λ_ _ _ _ _ h=>by cases h;exact⟨_,rfl⟩) k h
noncomputable def JO(s:Stmt):Option (Expr×aO×aO):=if h:s.ctorIdx=12 then Stmt.If.elim (motive_2:=λ_=>Option (Expr×aO×aO)) s h (λt x y _=>some (t,x,y))else none
theorem Bb{s:Stmt}{t:Expr}{x y:aO}(h:JO s=some (t,x,y)):∃q,s=.If t x y q:=by
 obtain⟨k,h⟩:=dI h;exact Stmt.If.elim (motive_2:=λs=>∀k:s.ctorIdx=12,Stmt.If.elim (motive_2:=λ_=>Option (Expr×aO×aO)) s k (λt x y _=>some (t,x,y))=some (t,x,y)->∃q,s=.If t x y q) s k (λ_ _ _ _ _ h=>by cases h;exact⟨_,rfl⟩) k h
noncomputable def JL(s:Stmt):Option (Expr×aO×aO):=if h:s.ctorIdx=11 then Stmt.While.elim (motive_2:=λ_=>Option (Expr×aO×aO)) s h (λt x y _=>some (t,x,y))else none
theorem A9{s:Stmt}{t:Expr}{x y:aO}(h:JL s=some (t,x,y)):∃q,s=.While t x y q:=by
 obtain⟨k,h⟩:=dI h;exact Stmt.While.elim (motive_2:=λs=>∀k:s.ctorIdx=11,Stmt.While.elim (motive_2:=λ_=>Option (Expr×aO×aO)) s k (λt x y _=>some (t,x,y))=some (t,x,y)->∃q,s=.While t x y q) s k (λ_ _ _ _ _ h=>by cases h;exact⟨_,rfl⟩) k h
noncomputable def JP(s:Stmt):Option (Expr×Expr×aO×aO):=if h:s.ctorIdx=9 then Stmt.For.elim (motive_2:=λ_=>Option (Expr×Expr×aO×aO)) s h (λtg it x y _=>some (tg,it,x,y))else none
theorem Bc{s:Stmt}{it:Expr}{x y:aO}(h:JP s=some (tg,it,x,y)):∃q,s=.For tg it x y q:=by
 obtain⟨k,h⟩:=dI h;exact Stmt.For.elim (motive_2:=λs=>∀k:s.ctorIdx=9,Stmt.For.elim (motive_2:=λ_=>Option (Expr×Expr×aO×aO)) s k (λtg it x y _=>some (tg,it,x,y))=some (tg,it,x,y)->∃q,s=.For tg it x y q) s k (λ_ _ _ _ _ _ h=>by cases h;exact⟨_,rfl⟩) k h
noncomputable def xB(e:Expr):Option (Expr×Str×Pos):=if h:e.ctorIdx=20 then Expr.Attribute.elim (motive_1:=λ_=>Option (Expr×Str×Pos)) e h (λo a p=>some (o,a,p))else none
theorem pY{e:Expr}{a:Str}{p:Pos}(h:xB e=some (o,a,p)):e=.Attribute o a p:=by
 obtain⟨k,h⟩:=dI h;exact Expr.Attribute.elim (motive_1:=λe=>∀k:e.ctorIdx=20,Expr.Attribute.elim (motive_1:=λ_=>Option (Expr×Str×Pos)) e k (λo a p=>some (o,a,p))=some (o,a,p)->e=.Attribute o a p) e k (λ_ _ _ _ h=>by cases h;rfl) k h
noncomputable def sg(e:Expr):Option (Expr×ai×List Keyword×Pos):=if h:e.ctorIdx=16 then Expr.Call.elim (motive_1:=λ_=>Option (Expr×ai×List Keyword×Pos)) e h (λf as ks p=>some (f,as,ks,p))else none
theorem mR{e f:Expr}{as:ai}{ks:List Keyword}{p:Pos}(h:sg e=some (f,as,ks,p)):e=.Call f as ks p:=by
 obtain⟨k,h⟩:=dI h;exact Expr.Call.elim (motive_1:=λe=>∀k:e.ctorIdx=16,Expr.Call.elim (motive_1:=λ_=>Option (Expr×ai×List Keyword×Pos)) e k (λf as ks p=>some (f,as,ks,p))=some (f,as,ks,p)->e=.Call f as ks p) e k (λ_ _ _ _ _ h=>by cases h;rfl) k h
noncomputable def isNil{α:Type}:List α->Bool
 |[]=>true
 |_::_=>false
theorem i8{α:Type}{l:List α}(h:isNil l=true):l=[]:=by cases l<;>first|rfl|cases h
noncomputable def Cz:Stmt->Bool
 |.Raise _ _ _=>true
 |_=>false
noncomputable def G8(s:Stmt):Bool:=decide (s.ctorIdx=25)
theorem Jf{s:Stmt}(h:G8 s=true):∃p,s=.Pass p:=Stmt.Pass.elim (motive_2:=λs=>∃p,s=.Pass p) s (X5 h) λp=>⟨p,rfl⟩
noncomputable def LB(s:Stmt):Bool:=decide (s.ctorIdx=26)
theorem LA{s:Stmt}(h:LB s=true):∃p,s=.Break p:=Stmt.Break.elim (motive_2:=λs=>∃p,s=.Break p) s (X5 h) λp=>⟨p,rfl⟩
noncomputable def Qy(s:Stmt):Bool:=decide (s.ctorIdx=27)
theorem N1{s:Stmt}(h:Qy s=true):∃p,s=.Continue p:=Stmt.Continue.elim (motive_2:=λs=>∃p,s=.Continue p) s (X5 h) λp=>⟨p,rfl⟩
theorem Dm{i:Nat}{e:Expr}(h:mH S i e=true):∃x p,e=.Name x p:=by
 cases e<;>first|exact⟨_,_,rfl⟩|exact(X7 h).elim
theorem wd{e:Expr}(h:iz e=true):∃x g sc p,e=.ListComp x g sc p:=Expr.ListComp.elim (motive_1:=λe=>∃x g sc p,e=.ListComp x g sc p) e (X5 h) λ_ _ _ _=>⟨_,_,_,_,rfl⟩
mutual
noncomputable def MT(S:Sx):CS->Stmt->Bool
 |.asg t e,s0=>bp (Be s0) λz=>bp (one z.1) λtg=>b9 S e z.2&&wN S t tg&&!(isTup z.2&&isTup tg)&&(!iz z.2||isNm tg)
 |.par i j a b,s0=>bp (Be s0) λz=>bp (one z.1) λtg=>b9 S (.tup [a,b]) z.2&&Ak S i j tg z.2
 |.ret e,s0=>bp (JM s0) λz=>bp z λv=>b9 S e v
 |.rs _,s0=>Cz s0
 |.mut p i es,s0=>bp (S.px.pm p S.sc S.bl s0) λz=>mH S i z.1&&Te z.1&&bN S es z.2
 |.app i e,s0=>bp (Nt s0) λc=>bp (sg c) λz=>isNil z.2.2.1&&bp (xB z.1) λa=>decide (a.2.1=("append" : Str))&&mH S i a.1&&Te a.1&&(a.2.2.endLine==z.2.2.2.line)&&bp (one z.2.1) λv=>b9 S e v
 |.ex e,s0=>bp (Nt s0) λv=>b9 S e v&&!iz v
 |.ifs c a b,s0=>bp (JO s0) λz=>b9 S c z.1&&jc S a z.2.1&&jc S b z.2.2
 |.EV c b,s0=>bp (JL s0) λz=>isNil z.2.2&&b9 S c z.1&&jc S b z.2.1
 |.fr t it b,s0=>bp (JP s0) λz=>isNil z.2.2.2&&wN S t z.1&&MV S it z.2.1&&(fP z.1||yI it)&&jc S b z.2.2.1
noncomputable def jc(S:Sx):ag->aO->Bool
 |[],ss=>match ss with
  |[]=>true
  |_::_=>false
 |c::cs,ss=>match ss with
  |[]=>false
  |s::ss=>MT S c s&&jc S cs ss
end
structure IP(px:Px)(Φ:aQ):Prop where
 m:∀(X:Cx) (sc:Scope) (bl:af) (k:Nat),PX X sc bl k->X.N.Nodup->(∀x,X.fn x=true)->∀(p:Nat) (st:Stmt) (x:Str) (pos:Pos) (args:ai),px.pm p sc bl st=some (.Name x pos,args)->∀(i:Nat),X.N[i]?=some x->L2.Loc X.env.scope x->PE X (.Name x pos) (vL i) ->
  ∀(F:ah) (cs:aC),iF X F Φ cs args->PS X st (mV X F Φ (.mut p i cs))
structure n6(X:Cx)(S:Sx)(k:Nat)(Φ:aQ):Prop extends Lk X S k Φ where
 CQ:∀x,X.fn x=true
 px:PassesOwn (model X.prog X.w) X.A X.env X.xe
 fk:S.sc.kind=.function
 pm:IP S.px Φ
section
variable {X:Cx}{S:Sx}{k:Nat}{F:ah}{Φ:aQ}
theorem n6.loc(L:n6 X S k Φ){x:Str}(h:GN S.sc x=true):L2.Loc X.env.scope x:=by
 unfold L2.Loc;rw[L.sc];unfold GN at h;rw[Bool.or_eq_true]at h;exact h.imp X5 X5
theorem D5(L:n6 X S k Φ){x:Str}{p:Pos}{l:Nat}{elt:Expr}{gens:List Comprehension}{sc:Scope}:swapsWith (.ListComp elt gens sc pos) (some (.Name x p)) l X.env=pure (Pf S (.Name x p) (.ListComp elt gens sc pos)):=by
 have hb:X.env.blockKind=.function:=by unfold Env.blockKind;rw[L.sc,L.fk];rfl
 have hk:(X.env.kindOf x==some .local)=(S.sc.names.lookup x==some .local):=by
  unfold Env.kindOf;rw[L.sc]
 unfold swapsWith Pf;simp only[hb,hk];rfl
theorem rJ{c:CE}{e:Expr}(h:b9 S c e=true)(hc:iz e=false)(t:Option Expr)(l:Nat)(env:Env):swapsWith e t l env=pure false:=by
 cases e<;>first|rfl | (cases hc;done) | (cases c<;>exact(X7 h).elim)
def Of:aJ->DQ
 |[]=>HC
 |i::is=>zP (nI i) (Of is)
theorem yr(L:n6 X S k Φ){i:Nat}{e:Expr}(h:mH S i e=true):PG X e (nI i):=by
 cases e<;>try (exact(X7 h).elim;done)
 replace h:=aL h;exact oD L.nd (by rw[L.N];exact X5 h.1) (L.loc h.2) (.inl (L.CQ _))
theorem B9{i:Nat}{e:Expr}(h:mH S i e=true)(es:ai)(env:Env):assignEach (e::es) env=(false,assign e env)::assignEach es env:=by
 cases e<;>first|rfl | (exact(X7 h).elim;done)
theorem yq(L:n6 X S k Φ):∀{is:aJ} {es:ai},Al S is es=true->JB X es (Of is)/\(assignEach es X.env).length=is.length/\(assignEach es X.env).findIdx? (·.1)=none
 |[],[],_=>⟨uu,rfl,rfl⟩
 |[],_::_,h=>by exact(X7 h).elim
 |_::_,[],h=>by exact(X7 h).elim
 |i::is,e::es,h=>by
  replace h:=aL h;obtain⟨h1,h2,h3⟩:=yq L h.2;have he:=B9 h.1 es X.env;refine⟨qx (yr L h.1) h1 (by rw[he];rfl),by rw[he];simp[h2],?_⟩;rw[he,List.findIdx?_cons];simp[h3]
theorem qi{H:Hp}{R:ah}{Q:St->Hp->Prop}:∀{is:aJ} {vs:ae} {ds:ab} {kp:aZ} {n:Nat} {σ:St} {τ:Addr->Option aZ} {ρ ρ':aX},aA (aU X.K H) (nd X.K R (λ_=>False) (λ_=>none) H) kp n vs ds->SI X F R τ ρ σ H->fq is ds ρ=ok ρ' ->
  (∀σ' τ',SI X F R τ' ρ' σ' H->Q σ' H)->Of is vs σ H Q
 |[],_,_,_,_,σ,τ,_,_,.nil,Si,e,hq=>by
  cases e;exact⟨rfl,hq σ τ Si⟩
 |[],_,_,_,_,_,_,_,_,.cons _ _,_,e,_=>by cases e
 |_::_,_,_,_,_,_,_,_,_,.nil,_,e,_=>by cases e
 |i::is,_,_,_,_,σ,τ,ρ,_,.cons (v:=v) (d:=d) h t,Si,e,hq=>by
  change (if _ then _ else _)=_ at e;split at e
  ·rename_i hi;obtain⟨τ',gg⟩:=Si.set (i:=i) (kr (τ':=τ) (Rep.oN h)) hi;exact⟨_,_,rfl,qi t gg e hq⟩
  ·cases e
noncomputable def xP(n:Nat)(τt:Addr->Option aZ):Addr->Option aZ:=λp=>match τt p with|some q=>if q.getLast?=some n then some q.dropLast else none|none=>none
noncomputable def xO(n:Nat)(τt:Addr->Option aZ):Addr->Option aZ:=λp=>match τt p with|some q=>if q.getLast?=some n then none else some q|none=>none
theorem Bj{n:Nat}{p:Addr}{q:aZ}(h:xP n τt p=some q):τt p=some (q++[n]):=by
 unfold xP at h;cases e:τt p with
 |none=>rw[e]at h;cases h
 |some k =>
  rw[e]at h;by_cases c:k.getLast?=some n
  ·simp only[c,if_true]at h;cases h;obtain⟨ys,rfl⟩:=List.getLast?_eq_some_iff.mp c;simp
  ·simp only[c,if_false]at h;cases h
theorem Bi{n:Nat}{p:Addr}{q:aZ}(h:xO n τt p=some q):τt p=some q/\q.getLast?≠some n:=by
 unfold xO at h;cases e:τt p with
 |none=>rw[e]at h;cases h
 |some k =>
  rw[e]at h;by_cases c:k.getLast?=some n
  ·simp only[c,if_true]at h;cases h
  ·simp only[c,if_false]at h;cases h;exact⟨rfl,c⟩
theorem m8{H:Hp}{R:ah}{τt:Addr->Option aZ}{n:Nat}:∀{vs:ae} {ds:ab} {m:Nat},n<m->aA (aU X.K H) (nd X.K R (λ_=>False) τt H) [] m vs ds->aA (aU X.K H) (nd X.K R (λ_=>False) (xO n τt) H) [] m vs ds
 |_,_,_,_,.nil=>.nil
 |_,_,m,hm,.cons h t=>.cons (h.imp (q':=[m]) (λ_ _ h=>h) λc p xs f h=>by
   cases f with
   |ow =>
    refine⟨h.1,?_⟩;have e:=h.2;unfold xO;rw[e];have:(c++[m]).getLast?≠some n:=by rw[List.getLast?_append];simp;left
    simp only[this,if_false]
   |fz=>exact h
   |al=>exact h
   |sc=>exact h) (m8 (by left) t)
theorem vQ{H:Hp}{R:ah}{Q:St->Hp->Prop}:∀{is:aJ} {vs:ae} {ds:ab} {n:Nat} {σ:St} {τ τt:Addr->Option aZ} {ρ ρ':aX},(∀p q,τt p=some q->τ p=none/\¬ R p/\X.H₀ p=none/\H p≠none)->aA (aU X.K H) (nd X.K R (λ_=>False) τt H) [] n vs ds->SI X F R τ ρ σ H->fq is ds ρ=ok ρ' ->
  (∀σ' τ',SI X F R τ' ρ' σ' H->Q σ' H)->Of is vs σ H Q
 |[],_,_,_,σ,τ,_,_,_,_,.nil,Si,e,hq=>by
  cases e;exact⟨rfl,hq σ τ Si⟩
 |[],_,_,_,_,_,_,_,_,_,.cons _ _,_,e,_=>by cases e
 |_::_,_,_,_,_,_,_,_,_,_,.nil,_,e,_=>by cases e
 |i::is,_,_,n,σ,τ,τt,ρ,_,ht,.cons (v:=v) (d:=d) h t,Si,e,hq=>by
  change (if _ then _ else _)=_ at e;split at e
  ·rename_i hi;have gg:=Si.Kh (i:=i) (τt:=xP n τt) (λp q hp=>ht p _ (Bj hp)) (h.imp (q':=[]) (λ_ _ h=>h) λc p xs f h=>by
    cases f with
    |ow =>
     refine⟨h.1,?_⟩;have e:=h.2;unfold xP;rw[e,List.append_nil];simp
    |fz=>exact h
    |al=>exact h
    |sc=>exact h) hi
   refine⟨_,_,rfl,vQ (τt:=xO n τt) (λp q hp=>?_) (m8 (YH n) t) gg e hq⟩;obtain⟨h1,h2⟩:=Bi hp;obtain⟨g1,g2⟩:=ht p q h1;refine⟨?_,g2⟩;unfold sv xP;rw[h1];simp only[h2,if_false];exact g1
  ·cases e
set_option tactic.hygienic true in
theorem xN(L:n6 X S k Φ){t:Tg}(h:wN S t tg=true):∃g,PG X tg g/\∀(v:V) (σ:St) (H:Hp) (Q:St->Hp->Prop) (R:ah) (τ:Addr->Option aZ) (ρ ρ':aX) (d:D),SI X F R τ ρ σ H->gj X R τ H v d->cg t d ρ=ok ρ' ->
  (∀σ' τ',SI X F R τ' ρ' σ' H->Q σ' H)->g v σ H Q:=by
 cases t with
 |nm i =>
  refine⟨nI i,yr L h,λv σ H Q R τ ρ ρ' d Si rk e hq=>?_⟩;simp only[cg]at e;split at e
  ·rename_i hi;cases e;obtain⟨τ',gg⟩:=Si.set rk hi;exact hq _ τ' gg
  ·cases e
 |tp is =>
  obtain⟨es,hx,ha⟩:=br h;obtain⟨nn,pp,rfl⟩:=iT hx;obtain⟨h1,h2,h3⟩:=yq L ha;refine⟨_,yp L.calm h1 h2 h3,λv σ H Q R τ ρ ρ' d Si rk e hq=>?_⟩;cases d<;>try (simp[cg]at e;done)
  rename_i ds;simp only[cg]at e;split at e
  ·cases e
  ·rename_i ho;obtain⟨τt,ht,rp⟩:=rk;cases rp with
   | @tup _ p xs _ hp rs =>
    have iX:aA (aU X.K H) (nd X.K R (λ_=>False) (λ_=>none) H) [] 0 xs ds:=aA.without (P:=cp) (λ_ _ h=>h) (λk k' p xs f hf h=>by
     cases f with
     |ow=>cases hf
     |fz=>exact h
     |al=>exact h.2.elim
     |sc=>exact h) rs (by simpa using ho) _ _
    refine⟨p,xs,rfl,hp,?_,qi iX Si e hq⟩;rw[rs.length];have:∀(is:aJ) (ds:ab) (ρ ρ':aX),fq is ds ρ=ok ρ'->ds.length=is.length:=by
     intro is;induction is with
     |nil=>intro ds ρ ρ' e;cases ds with|nil=>rfl|cons _ _=>cases e
     |cons i is ih=>intro ds ρ ρ' e;cases ds with
      |nil=>cases e
      |cons d ds =>
       change (if _ then _ else _)=_ at e;split at e
       ·simp[ih ds _ _ e]
       ·cases e
    exact this _ _ _ _ e
end
section
variable {X:Cx}{S:Sx}{k:Nat}{F:ah}{Φ:aQ}
theorem xV(L:n6 X S k Φ){t:Tg}{e:CE}{v:Expr}(he:b9 S e v=true)(ht:wN S t tg=true)(hp:(isTup v&&isTup tg)=false)(QL:swapsWithSole [tg] v pos.line X.env=pure false):PS X (.Assign [tg] v pos) (mV X F Φ (.asg t e)):=by
 obtain⟨g,hg,zy⟩:=xN (F:=F) L ht;have IU:(∃x p,tg=.Name x p)\/∃es n p,tg=.Tuple es n p:=by
  cases t with
  |nm i=>cases tg<;>first|exact .inl ⟨_,_,rfl⟩|exact(X7 ht).elim
  |tp is=>cases tg<;>first|exact .inr ⟨_,_,_,rfl⟩|exact(X7 ht).elim
 have each:(assignEach [tg] X.env).map (·.2)=[assign tg X.env]:=by
  rcases IU with ⟨x,p,rfl⟩|⟨es,n,p,rfl⟩<;>rfl
 have hw:swappedStores [tg] v X.env=pure none:=by
  rcases IU with ⟨x,p,rfl⟩|⟨es,n,p,rfl⟩
  ·first|rfl | (cases v<;>rfl)
  ·cases v<;>first|rfl|exact absurd hp (by simp[isTup])
 refine PS.imp (F4 (sA (F:=F) L.toLk e v he) hg QL hw each) λD σ H hq=>?_;obtain⟨R,τ,ρ,r,Si,ev,hq⟩:=hq;obtain⟨r1,xi,ev⟩:=aq ev;obtain⟨ρ',eρ,ev⟩:=aq ev;cases ev;exact⟨R,τ,ρ,r1,Si,xi,λv H' R' τ' es hR gg rk=>zy v σ H' _ R' τ' r1.2 ρ' r1.1 gg rk eρ λσ' xp IG=>hq σ' H' R' xp IG (Kp.of es hR)⟩
theorem Bt(L:n6 X S k Φ){i n:Nat}{t:Tg}{ik:IK}{x:Str}{p Ke:Pos}{gens:List Comprehension}{sc:Scope}
  (he:b9 S (.comp n t caps ik es bz elt) (.ListComp g_ gens sc pos)=true) (hn:mH S i (.Name x p)=true) (QL:swapsWith (.ListComp g_ gens sc pos) (some (.Name x p)) Ke.line X.env=pure true) :
  PS X (.Assign [.Name x p] (.ListComp g_ gens sc pos) Ke) (mV X F Φ (.asg (.nm i) (.comp n t caps ik es bz elt))):=by
 intro pins s σ H D I hq;obtain⟨R,τ,ρ,r,Si,ev,hq⟩:=hq;obtain⟨r1,xi,ev⟩:=aq ev;obtain⟨ρ',eρ,ev⟩:=aq ev;cases ev;have xi:bd (bj Φ (.comp n t caps ik es bz elt) ρ) (λd=>ok (keep (.comp n t caps ik es bz elt) d ρ))=ok r1:=xi;obtain⟨d,ed,xi⟩:=aq xi;cases xi;have hg:=yr L hn;rw[exec_Assign_Name_used _ _ _ _ QL];refine X4 (ZX (X4 ?_));obtain⟨⟨e0,g0,s0⟩,V6,Ji⟩:=br he;cases V6;obtain⟨⟨target,iter,ifs,a⟩,Q_,hz⟩:=br Ji;obtain rfl:gens=_:=bP Q_;obtain⟨hz,h6⟩:=aL hz;obtain⟨hz,h5⟩:=aL hz;obtain⟨hz,h4⟩:=aL hz;obtain⟨hz,h3⟩:=aL hz;obtain⟨hz,h2⟩:=aL hz;obtain⟨hz,h1⟩:=aL hz;obtain rfl:a=0:=X5 hz;have hC:=rC (X5 h3) h4 (λ(X':Cx) (F':ah) (L':Lk X' (S.inner target caps sc) k Φ)=>gq bz X' _ F' L' ifs h4);have run:wpAny (model X.prog X.w) X.A (comprehension (.ListComp g_ [⟨target,iter,ifs,0⟩] sc pos) sc X.env (firstIterPos [⟨target,iter,ifs,0⟩] pos) (newList []) false (eval iter X.env) (some (assign (.Name x p) X.env))) (λ_ s'=>SP X pins D .next s') X.xe s:=by
  refine rF (F:=F) (k:=k) L.toLk (nP h1) h2 (λX' F' L'=>(ip (F:=F') L' elt g_ h5).1) hC ?_ (use:=some (assign (.Name x p) X.env)) (Post:=λ_ s'=>SP X pins D .next s') I Si ed ?_
  ·exact zc L.toLk (λl=>uh (F:=F) L.toLk es l) (λl=>gq es X S F L.toLk l) (λl=>k7 L.toLk es l) h6
  ·intro acc C H1 s1 m s9 hc IX sm rt;obtain⟨c1,c2,c3,c4,c5⟩:=hc;obtain⟨R',τ',hR,gg,rk⟩:=Eh (e:=.comp n t caps ik es bz elt) Si sm rt;have I1:Inv X pins σ H1 s1:=IX s1.heap (.refl ..);obtain⟨oC,WX,WY,Wf,Ub,Wc⟩:=s9;have Xg:C∉X.fs:=λz=>by
    obtain⟨_,o,ho,_⟩:=I1.ok.kf.mem z;exact absurd (Yc (Ya ho) c2) (Ym _)
   have I2:Inv X ((C,oC)::pins) σ H1 s1:=I1.gR λq hq=>by
    rcases List.mem_cons.mp hq with rfl|hq
    ·exact⟨Wf,c5,c1,Xg,λv z=>by rw[Ub]at z;cases z⟩
    ·exact I1.pin q (Ye _ hq)
   simp only[cg]at eρ;split at eρ
   ·rename_i hi;cases eρ;obtain⟨τ2,pR⟩:=gg.set rk hi;show wpAny _ _ (assign (.Name x p) X.env (.ref acc)) _ _ _;refine Yp (hg ((C,oC)::pins) s1 σ H1 (.ref acc) (.ref acc) (λσ' H'=>σ'=σ.set i (some (.ref acc))/\H'=H1) I2 rfl ⟨rfl,rfl⟩) (λ_ s2 h2=>?_) λ_ _ z=>z;obtain⟨σ',H',I3,rfl,rfl⟩:=h2;have WN:=(I3.pin (C,oC) (Ye _ X9)).1;refine⟨m,⟨oC,WX,WY,WN,Ub,Wc⟩,λh' zk=>?_⟩;have I4:Inv X pins (σ.set i (some (.ref acc))) H' s2:=I3.gR λq hq=>I3.pin q (Ye _ (X_ _ hq));have I5:=I4.turned (t':=s2.toks) (h':=h') (it:=C) (λb o hb e=>(zk.2 b hb).trans e) c5 c1 (.inr c2) c3 c4;exact⟨_,H',I5,hq _ H' R' τ2 pR (Kp.of sm hR)⟩
   ·cases eρ
 exact X4 (Yp run (λ_ s' h=>X6 (X6 h)) λ_ _ z=>z)
theorem Fw(L:n6 X S k Φ){e:CE}{v:Expr}(he:b9 S e v=true):PS X (.Return (some v) pos) (mV X F Φ (.ret e)):=by
 refine PS.imp (F2 (sA (F:=F) L.toLk e v he)) λD σ H hq=>?_;obtain⟨R,τ,ρ,r,Si,ev,hq⟩:=hq;obtain⟨r1,xi,ev⟩:=aq ev;cases ev;exact⟨R,τ,ρ,r1,Si,xi,λv H' R' τ' es hR gg rk=>hq v H' gg.same (rk.ret gg)⟩
theorem Kd(L:n6 X S k Φ){e:CE}{v:Expr}(he:b9 S e v=true)(Wi:iz v=false):PS X (.Expr v pos) (mV X F Φ (.ex e)):=by
 refine PS.imp (kv (ip (F:=F) L.toLk e v he).1 (rJ he Wi _ _ _)) λD σ H hq=>?_;obtain⟨R,τ,ρ,r,Si,ev,hq⟩:=hq;obtain⟨d,ed,ev⟩:=aq ev;cases ev;exact tD.intro Si ed λv H' es rv=>hq σ H' R τ (Si.go es) (Kp.of es λ_ h=>h)
theorem j0.from{D:Ends}{r:Fo×aX}(h:j0 X F D R H r)(kp:Kp R H R1 H1):j0 X F D R1 H1 r:=by
 obtain⟨fo,ρ'⟩:=r;cases fo with
 |nx=>exact λσ' H' R' τ' Si k2=>h σ' H' R' τ' Si (kp.trans k2)
 |rt d=>exact h
theorem Kc(L:n6 X S k Φ){c:CE}{a b:ag}{t:Expr}{x y:aO}(hc:b9 S c t=true)(ha:kO X x (ml X F Φ a))(hb:kO X y (ml X F Φ b)):PS X (.If t x y pos) (mV X F Φ (.ifs c a b)):=by
 refine PS.imp (KO (ip (F:=F) L.toLk c t hc).2 ha hb) λD σ H hq=>?_;obtain⟨R,τ,ρ,r,Si,ev,hq⟩:=hq;obtain⟨w,ew,ev⟩:=aq ev;refine⟨R,τ,ρ,w,Si,ew,λH1 e1=>?_⟩;cases w with
 |true=>rw[if_pos rfl]at ev ⊢;exact⟨R,τ,ρ,r,Si.go e1,ev,hq.from (Kp.of e1 λ_ h=>h)⟩
 |false=>rw[if_neg (by simp)]at ev ⊢;exact⟨R,τ,ρ,r,Si.go e1,ev,hq.from (Kp.of e1 λ_ h=>h)⟩
theorem xU(L:n6 X S k Φ){c:CE}{b:ag}{t:Expr}{x:aO}(hc:b9 S c t=true)(hb:kO X x (ml X F Φ b)):PS X (.While t x [] pos) (mV X F Φ (.EV c b)):=by
 refine PS.imp (ym L.px (ip (F:=F) L.toLk c t hc).2 hb) λD σ H hq=>?_;obtain⟨R,τ,ρ,r,Si,ev,hq⟩:=hq;obtain⟨n,hn⟩:=jD ev;refine⟨λm σ' H'=>∃R' τ' ρ',SI X F R' τ' ρ' σ' H'/\Kp R H R' H'/\cz m _ ρ'=ok r,⟨n,R,τ,ρ,Si,Kp.refl R H,hn⟩,?_⟩;rintro m σ1 H1 ⟨R1,τ1,ρ1,mN,k1,e1⟩;cases m with
 |zero=>simp[cz]at e1
 |succ m =>
  rw[cz]at e1;obtain⟨st,es,e1⟩:=aq e1;obtain⟨w,ew,es⟩:=aq es;refine⟨R1,τ1,ρ1,w,mN,ew,λH2 e2=>?_⟩;cases w with
  |false =>
   rw[if_neg (by simp)]at es ⊢;cases es;cases e1;exact hq σ1 H2 R1 τ1 (mN.go e2) (k1.trans (Kp.of e2 λ_ h=>h))
  |true =>
   rw[if_pos rfl]at es ⊢;obtain⟨⟨fo,ρ2⟩,eb,es⟩:=aq es;refine⟨λσ' H'=>∃R' τ' ρ',SI X F R' τ' ρ' σ' H'/\Kp R H R' H'/\cz m _ ρ'=ok r,λσ' H' h=>⟨m,YH m,h⟩,R1,τ1,ρ1,(fo,ρ2),mN.go e2,eb,?_⟩;have k2:Kp R H R1 H2:=k1.trans (Kp.of e2 λ_ h=>h);cases fo with
   |nx=>cases es;exact λσ' H' R' τ' gg k3=>⟨R',τ',ρ2,gg,k2.trans k3,e1⟩
   |rt d=>cases es;cases e1;exact hq
def jo(X:Cx)(F:ah)(Φ:aQ)(t:Tg)(b:ag)(R1:ah)(H1:Hp)(r:Fo×aX)(items:List DI.D)(i:Nat)(σ:St)(H:Hp):Prop :=
 ∃R' τ' ρ',SI X F R' τ' ρ' σ H/\Kp R1 H1 R' H/\eN (λd ρ=>cg t d ρ) (λρ=>cj Φ b ρ) (items.drop i) ρ'=ok r
theorem lM{g:TG}{t:Tg}{b:ag}{D:Ends}{r:Fo×aX}{items:List DI.D}{q:aZ}
  (zy:∀(v:V) (σ:St) (H:Hp) (Q:St->Hp->Prop) (R:ah) (τ:Addr->Option aZ) (ρ ρ':aX) (d:DI.D),SI X F R τ ρ σ H->gj X R τ H v d->cg t d ρ=ok ρ'->(∀σ' τ',SI X F R τ' ρ' σ' H->Q σ' H)->g v σ H Q)
  (rs:aA (aU X.K H1) (nd X.K R1 (λ_=>False) (λ_=>none) H1) q 0 xs items) (hq:j0 X F D R1 H1 r) (i:Nat) (x:V) (σ:St) (H:Hp) (hx:xs[i]?=some x) (h:jo X F Φ t b R1 H1 r items i σ H) :
  g x σ H λσ2 H2=>ml X F Φ b { D with nx:=jo X F Φ t b R1 H1 r items (i+1),ct:=jo X F Φ t b R1 H1 r items (i+1),bk:=D.nx } σ2 H2:=by
 obtain⟨R',τ',ρ',Si,kp,ef⟩:=h;obtain⟨d,hd,rd⟩:=rs.wG hx;have hi:i<items.length:=by
  by_cases hi:i<items.length
  ·exact hi
  ·rw[List.getElem?_eq_none (by left)]at hd;cases hd
 have qV:items.drop i=d::items.drop (i+1):=by
  rw[List.drop_eq_getElem_cons hi];rw[List.getElem?_eq_getElem hi]at hd;cases hd;rfl
 rw[qV,eN]at ef;obtain⟨ρ1,e1,ef⟩:=aq ef;obtain⟨⟨fo,ρ2⟩,e2,ef⟩:=aq ef;refine zy x σ H _ R' τ' ρ' ρ1 d Si (kr (Rep.oN (kp.rep rd))) e1 λσ' xp gg=>⟨R',xp,ρ1,(fo,ρ2),gg,e2,?_⟩
 cases fo with
 |nx=>exact λσ3 H3 R3 τ3 Na k3=>⟨R3,τ3,ρ2,Na,kp.trans k3,ef⟩
 |rt d=>cases ef;exact hq
theorem kG{t:Tg}{b:ag}{D:Ends}{r:Fo×aX}{items:List DI.D}{n:Nat}(hn:n=items.length)(hq:j0 X F D R1 H1 r)(σ:St)(H:Hp)(h:jo X F Φ t b R1 H1 r items n σ H):D.nx σ H:=by
 obtain⟨R',τ',ρ',Si,kp,ef⟩:=h;subst hn;rw[List.drop_length,eN]at ef;cases ef;exact hq σ H R' τ' Si kp
theorem uU(ρ:aX):ic [] ρ=ρ:=by
 unfold ic;apply List.ext_getElem?;intro i;rw[List.getElem?_mapIdx];cases ρ[i]? with
 |none=>rfl
 |some o=>simp
theorem uX{v:V}{d:DI.D}(Si:SI X F R τ ρ σ H)(es:aG H H')(r:bC X.K (gP X F) R τ fv H H' v d):
  ∃R' τ',(∀p,R p->R' p)/\SI X F R' τ' (if bc bA d then ic fv ρ else ρ) σ H'/\Rep (aU X.K H') (nd X.K R' (λ_=>False) (λ_=>none) H') [] v (aI aY d):=by
 by_cases ha:bc bA d=true
 ·rw[if_pos ha];exact oZ Si es r
 ·rw[if_neg ha];have r':bC X.K (gP X F) R τ [] H H' v d:=by
   obtain⟨τt,fr,rp⟩:=r;exact⟨τt,fr,Rep.iR (P:=bA) (λ_ _ h=>h) (λk p xs f hf h=>by
    cases f with
    |ow=>exact h
    |fz=>exact h
    |al=>cases hf
    |sc=>exact h) rp (by simpa using ha)⟩
  have:=oZ Si es r';rw[uU]at this;exact this
theorem zQ{ds:List DI.D}(Si:SI X F R τ ρ σ H)(es:aG H H')(r:bX X.K (gP X F) R τ fv H H' vs ds):
  ∃R' τ',(∀p,R p->R' p)/\SI X F R' τ' (if aR bA ds then ic fv ρ else ρ) σ H'/\aA (aU X.K H') (nd X.K R' (λ_=>False) (λ_=>none) H') [] 0 vs (az aY ds):=by
 by_cases ha:aR bA ds=true
 ·rw[if_pos ha];exact ra Si es r
 ·rw[if_neg ha];have r':bX X.K (gP X F) R τ [] H H' vs ds:=by
   obtain⟨τt,fr,rp⟩:=r;exact⟨τt,fr,aA.iR (P:=bA) (λ_ _ h=>h) (λk p xs f hf h=>by
    cases f with
    |ow=>exact h
    |fz=>exact h
    |al=>cases hf
    |sc=>exact h) rp (by simpa using ha)⟩
  have:=ra Si es r';rw[uU]at this;exact this
def U_(X:Cx)(F:ah)(Φ:aQ)(p:Nat)(cs:aC):TI:=λσ H Rr=>∃R τ ρ xs d items,SI X F R τ ρ σ H/\cB Φ cs ρ=ok xs/\Φ p xs=ok d/\la d=ok items /\
 ∀J H2 vs,aG H H2->bX X.K (gP X F) R τ (cR cs) H H2 vs xs->JA X.K J H2 vs xs items->Rr J H2
theorem Bs(L:n6 X S k Φ){t:Tg}{p:Nat}{b:ag}{x:aO}(ht:wN S t tg=true)(hi:S.px.pi p S.sc S.bl iter=some args)(hc:bN S cs args=true)(Hf:NQ iter=true)(V8:(decide (1100<=p)||fP tg)=true)(hb:kO X x (ml X F Φ b)):PS X (.For tg iter x [] pos) (mV X F Φ (.fr t (.F7 p cs) b)):=by
 obtain⟨g,hg,zy⟩:=xN (F:=F) L ht;have lH:∀y,foldedSetIterable iter X.env y=pure y:=by
  intro y;cases iter<;>first|rfl | (cases Hf;done)
 have pi:PI X tg iter (U_ X F Φ p cs):=λpins s σ H Rr I ⟨R,τ,ρ,xs,d,items,Si,bt,ed,ei,hR⟩ =>
  L.pr.i X _ _ k L.toLk.pX p iter args hi F cs tg V8 (k7 L.toLk cs args hc) pins s σ H R τ ρ xs d items I Si bt ed ei Rr hR
 refine PS.imp (oz L.px L.calm pi hg hb lH) λD σ H hq=>?_;obtain⟨R,τ,ρ,r,Si,ev,hq⟩:=hq;obtain⟨⟨items,ρ1⟩,ei,ef⟩:=aq ev;obtain⟨xs,bt,ei⟩:=aq ei;obtain⟨d,ed,ei⟩:=aq ei;obtain⟨Qr,W3,ei⟩:=aq ei;cases ei;refine⟨R,τ,ρ,xs,d,items,Si,bt,ed,W3,λJ H2 vs e2 BE yz=>?_⟩;obtain⟨R',τ',hR,gg,rs⟩:=zQ Si e2 BE;have wq:=hq.from (Kp.of e2 hR);refine⟨λi m σ' H'=>m=items.length - i/\i<=items.length/\jo X F Φ t b R' H2 r items i σ' H',⟨_,rfl,Yy _,R',τ',_,gg,Kp.refl R' H2,by rw[List.drop_zero];exact ef⟩,?_⟩;rintro i m σ1 H1 ⟨rfl,N8,hf⟩;obtain⟨R1,τ1,ρ2,mN,k1,e1⟩:=id hf;have FR:=k1.PH rs;have Ph:rV X.K H2 vs xs H1:=⟨⟨R',rs,k1.l⟩,λa ys h=>k1.NB h⟩
 by_cases fj:i<items.length
 ·refine .inr ⟨yz.go i H1 R1 Ph FR fj,λσ' H'=>jo X F Φ t b R' H2 r items (i+1) σ' H',λσ' H' h=>⟨items.length - (i+1),by left,rfl,fj,h⟩,λv H3 hy=>?_⟩;obtain⟨e3,dd,hd,rd⟩:=yz.rY i H1 R1 v H3 Ph FR fj hy;have qV:items.drop i=dd::items.drop (i+1):=by
   rw[List.drop_eq_getElem_cons fj];rw[List.getElem?_eq_getElem fj]at hd;cases hd;rfl
  rw[qV,eN]at e1;obtain⟨ρ3,eb,e1⟩:=aq e1;obtain⟨⟨fo,ρ4⟩,e4,e1⟩:=aq e1;have k3:Kp R' H2 R1 H3:=k1.trans (Kp.of e3 λ_ h=>h);refine zy v σ1 H3 _ R1 τ1 ρ2 ρ3 dd (mN.go e3) (kr rd) eb λσ' xp IG=>⟨R1,xp,ρ3,(fo,ρ4),IG,e4,?_⟩
  cases fo with
  |nx=>exact λσ3 H4 R3 τ3 Na k4=>⟨R3,τ3,ρ4,Na,k3.trans k4,e1⟩
  |rt d=>cases e1;exact wq
 ·exact .inl ⟨yz.stop i H1 R1 Ph FR (by left),kG (n:=i) (by left) wq σ1 H1 hf⟩
theorem aA.ints{T:jr}{N:gk}:∀(is:aa) {k:aZ} {n:Nat},aA T N k n (is.map V.int) (is.map DI.D.int)
 |[],_,_=>.nil
 |i::is,_,_=>.cons (.int i) (aA.ints is)
set_option tactic.hygienic true in
theorem Fy(L:n6 X S k Φ){t:Tg}{it:CI}{b:ag}{x:aO}(ht:wN S t tg=true)(hi:MV S it iter=true)(Wg:(fP tg||yI it)=true)(hb:kO X x (ml X F Φ b)):PS X (.For tg iter x [] pos) (mV X F Φ (.fr t it b)):=by
 obtain⟨g,hg,zy⟩:=xN (F:=F) L ht;have lH:∀y,foldedSetIterable iter X.env y=pure y:=by
  intro y;cases iter<;>first|rfl | (cases it<;>first|exact(X7 hi).elim|exact(X7 (aL hi).2).elim)
 have ko:∀{lo:Int} {n:Nat} {D:Ends} {R:ah} {τ:Addr->Option aZ} {ρ:aX} {σ:St} {H H1:Hp} {r:Fo×aX},SI X F R τ ρ σ H->aG H H1->j0 X F D R H r ->
   eN (λd ρ=>cg t d ρ) (λρ=>cj Φ b ρ) ((List.range n).map λ(k:Nat)=>DI.D.int (lo+(k:Int))) ρ=ok r ->
   ∃W:Nat->Nat->L2.St->Hp->Prop,(∃m,W 0 m σ H1)/\∀i m σ H,W i m σ H ->
    ((xa lo n).stop i H/\D.nx σ H)\/((xa lo n).go i H/\∃N:L2.St->Hp->Prop,(∀σ' H',N σ' H'->∃m',m'<m/\W (i+1) m' σ' H')/\∀x H',(xa lo n).rY i H x H'->g x σ H' λσ2 H2=>ml X F Φ b { D with nx:=N,ct:=N,bk:=D.nx } σ2 H2):=by
  intro lo n D R τ ρ σ H H1 r Si e1 hq ef;have rs:aA (aU X.K H1) (nd X.K R (λ_=>False) (λ_=>none) H1) [] 0 ((List.range n).map λ(k:Nat)=>V.int (lo+(k:Int))) ((List.range n).map λ(k:Nat)=>DI.D.int (lo+(k:Int))):=by
   have:=aA.ints (T:=aU X.K H1) (N:=nd X.K R (λ_=>False) (λ_=>none) H1) ((List.range n).map λ(k:Nat)=>lo+(k:Int)) (k:=[]) (n:=0);rw[List.map_map,List.map_map]at this;exact this
  have wq:=hq.from (Kp.of e1 (R':=R) λ_ h=>h);refine wI (jo X F Φ t b R H1 r _) ⟨R,τ,ρ,Si.go e1,Kp.refl R H1,by rw[List.drop_zero];exact ef⟩ (λi σ' H' Wq h=>?_) (λσ' H' h=>kG (by simp) wq σ' H' h);exact lM zy rs wq i (.int (lo+i)) σ' H' (by rw[List.getElem?_map,List.getElem?_range Wq];rfl) h
 intro pins s σ H D I QR;cases it with
 |F7 p cs =>
  obtain⟨Hf,hz⟩:=aL hi;obtain⟨args,ha,N4⟩:=br hz;exact Bs L ht ha N4 Hf (by rw[Bool.or_comm];exact Wg) hb pins s σ H D I QR
 |ko a =>
  obtain⟨R,τ,ρ,r,Si,ev,hq⟩:=QR;obtain⟨⟨items,ρ1⟩,ei,ef⟩:=aq ev;obtain⟨⟨y,as⟩,hv,hz⟩:=br hi;obtain⟨p,G_,rfl⟩:=cK hv;obtain⟨TQ,N4⟩:=aL hz;obtain⟨V2,h2⟩:=aL TQ;obtain⟨V1,h1⟩:=aL V2;obtain rfl:y=_:=X5 V1;obtain⟨e,hu,h3⟩:=br N4;obtain rfl:as=[e]:=bP hu;have pa:PA X [e] (oh X F Φ [a]):=PA.imp (cc (ip (F:=F) L.toLk a e h3).1 dh (b7 h3 _ _)) λ_ _ _ h=>by
   have:=dF h;obtain⟨R,τ,ρ,d,Si,ev,hq⟩:=this;exact⟨R,τ,ρ,d,Si,ev,λv H' e r=>fK (hq v H' e r)⟩
  refine oz L.px L.calm (ng (L.gl h1) (L.bl _ (X5 h2)) pa (b7 h3 _ _)) hg hb lH pins s σ H D I ?_;obtain⟨d,ed,ei⟩:=aq ei;cases d<;>try (simp at ei;done)
  rename_i n;simp at ei;obtain⟨⟨c1,c2⟩,rfl,rfl⟩:=ei;have oW:(fe:Int)=1000000:=rfl;refine⟨R,τ,ρ,[.int n],Si,by show bd (bj Φ a ρ) _=_;rw[ed];rfl,λvs H1 e1 rv=>?_⟩;obtain⟨τt,fr,rs⟩:=rv;cases rs.ints1
  ·refine⟨n,rfl,by left,by left,?_⟩;refine ko (lo:=0) Si e1 hq ?_;simpa using ef
 |seq a =>
  obtain⟨R,τ,ρ,r,Si,ev,hq⟩:=QR;obtain⟨⟨items,ρ1⟩,ei,ef⟩:=aq ev;replace hi:=aL hi;obtain⟨d,ed,ei⟩:=aq ei;have pe:=(ip (F:=F) L.toLk a iter hi.1).1;cases d<;>try (simp at ei;done)
  ·rename_i ds;simp at ei;obtain⟨rfl,rfl⟩:=ei;refine oz L.px L.calm (yo pe) hg hb lH pins s σ H D I (tD.intro Si ed λv H1 e1 rv=>?_);obtain⟨R',τ',hR,gg,rp⟩:=uX Si e1 rv;rw[aI]at rp;cases rp with
   | @tup _ p xs _ hp rs =>
    have wq:=hq.from (Kp.of e1 hR);refine⟨p,rfl,⟨xs,hp⟩,CP (xs:=xs) (jo X F Φ t b R' H1 r (az aY ds)) ⟨R',τ',_,gg,Kp.refl R' H1,by rw[List.drop_zero];exact ef⟩ (λi σ' H' _ h=>?_) (λi x σ' H' hx h=>lM zy rs wq i x σ' H' hx h) (λσ' H' h=>kG (rs.length) wq σ' H' h)⟩;obtain⟨R2,τ2,ρ2,_,kp,_⟩:=h;exact kp.NB hp
  ·rename_i f ds;simp at ei;obtain⟨rfl,rfl⟩:=ei;refine oz L.px L.calm (ur pe) hg hb lH pins s σ H D I (tD.intro Si ed λv H1 e1 rv=>?_);obtain⟨R',τ',hR,gg,rp⟩:=uX Si e1 rv;rw[aI]at rp;obtain⟨p,xs,rfl,hp,rs⟩:=rp.kT;have wq:=hq.from (Kp.of e1 hR);refine⟨p,rfl,⟨xs,hp.sq⟩,zT (xs:=xs) (jo X F Φ t b R' H1 r (az aY ds)) ⟨R',τ',_,gg,Kp.refl R' H1,by rw[List.drop_zero];exact ef⟩ (λi σ' H' _ h=>?_) (λi x σ' H' hx h=>lM zy rs wq i x σ' H' hx h) (λσ' H' h=>kG (rs.length) wq σ' H' h)⟩;obtain⟨R2,τ2,ρ2,_,kp,_⟩:=h;exact(kp.nd hp).sq
theorem lA{ρ':aX}{p:Addr}{q:aZ}{n:Nd}{o:HO}(Si:SI X F R' τ' ρ' σ H1)(es:aG H H1)(hR:∀p,R p->R' p)(hp:dw H1 p n)(ht:τ' p=some q):Kp R H R' (upd H1 p o):=by
 obtain⟨o0,zp,LM,Jl⟩:=dw.some hp;exact⟨hR,λa u ha e=>by
  have ne:a≠p:=λz=>by subst z;rw[Si.rt _ (hR _ ha)]at ht;cases ht
  rw[bh ne];exact es _ _ e,λa zs e=>by
  have e1:=es _ _ e;have ne:a≠p:=λz=>by subst z;rw[zp]at e1;cases e1;exact LM _ rfl
  rw[bh ne];exact e1,λa o u e=>by
  have e1:=es _ _ e;have ne:a≠p:=λz=>by subst z;rw[zp]at e1;cases e1;exact Jl _ _ rfl
  rw[bh ne];exact e1⟩
theorem gj.go{v:V}{d:DI.D}(h:gj X R τ H v d)(e:aG H H'):gj X R τ H' v d :=
 let ⟨τt,h1,h2⟩:=h;⟨τt,λp q z=>let ⟨a,b,c,d⟩:=h1 p q z;⟨a,b,c,aG.ne e d⟩,h2.imp (λ_ _ h=>aU.same e h) λ_ _ _ _ h=>nd.same e h⟩
set_option tactic.hygienic true in
theorem Td(L:n6 X S k Φ){i:Nat}(h:mH S i o=true)(hv:∀x p,o=.Name x p->mx x=true):∃x p,o=.Name x p/\X.N[i]?=some x/\L2.Loc X.env.scope x/\PE X o (vL i):=by
 cases o<;>try (exact(X7 h).elim;done)
 rename_i x p;have hn:=hv x p rfl;replace h:=aL h;unfold mx at hn;simp only[Bool.and_eq_true,Bool.not_eq_true']at hn;have hN:X.N[i]?=some x:=by rw[L.N];exact X5 h.1
 have hl:=L.loc h.2;exact⟨x,p,rfl,hN,hl,sI hN (hl.imp id .inl) hn.1.1 hn.1.2⟩
theorem CV{e:CE}{r:DI.D×aX}{i:Nat}{ds:List DI.D}(h:g9 Φ e ρ=ok r)(ho:r.2[i]?=some (some (.lst .ow ds))):ρ[i]?=some (some (.lst .ow ds)):=by
 by_cases hv:∃j,e=.v j
 ·obtain⟨j,rfl⟩:=hv;simp only[g9]at h;split at h
  ·split at h
   ·cases h;by_cases ib:i=j
    ·subst ib;rw[List.getElem?_set]at ho;simp at ho
    ·rw[List.getElem?_set_ne (Ne.symm ib)]at ho;exact ho
   ·cases h;exact ho
  ·cases h
 ·have h':bd (bj Φ e ρ) (λd=>ok (keep e d ρ))=ok r:=by
   cases e<;>first|exact h|exact absurd ⟨_,rfl⟩ hv
  obtain⟨d,_,er⟩:=aq h';cases er;unfold keep at ho;split at ho
  ·obtain⟨d',h1,h2⟩:=uV _ _ _ _ ho;split at h2
   ·cases d'<;>simp[aI]at h2;rename_i f ds';cases f<;>simp[aY]at h2
   ·rw[h2];exact h1
  ·exact ho
set_option tactic.hygienic true in
theorem Fz(L:n6 X S k Φ){i:Nat}{e:CE}{x:Str}{v:Expr}{p p1 p2:Pos}(hn:mH S i (.Name x p)=true)(hx:mx x=true)(he:b9 S e v=true)(CG:(p1.endLine==p2.line)=true):PS X (.Expr (.Call (.Attribute (.Name x p) ("append" : Str) p1) [v] [] p2) pos) (mV X F Φ (.app i e)):=by
 obtain⟨_,_,z,hN,hl,pe⟩:=Td L hn (λy q e=>by cases e;exact hx);cases z;refine PS.imp (kv (yx Zm PySem.F.slot_list_append PySem.F.type_list_append vZ pe (cc (sA (F:=F) L.toLk e v he) dh (b7 he _ _)) (hfew:=by rw[b7 he];rfl) (hline:=CG) (hs:=b7 he _ _))) λD σ H hq=>?_;obtain⟨R,τ,ρ,r,Si,ev,hq⟩:=hq;obtain⟨r1,xi,ev⟩:=aq ev;split at ev
 ·rename_i ds ho;split at ev
  ·rename_i hc;cases ev;have ho:=BW ho;obtain⟨a,xs,hv,ha,XS,XT,_⟩:=Si.own (CV xi ho);refine⟨.ref a,hv,⟨rfl,_,cM.of ha⟩,R,τ,ρ,r1,Si,xi,λw H1 R1 τ1 es hR mN rk=>?_⟩;obtain⟨a1,U7,N5,Mc,V4,LJ,FR⟩:=mN.own ho;rw[hv]at N5;cases N5;have hz:sizeLine=16777216:=YF;have oW:fe=1000000:=rfl;refine⟨a,U7,w,rfl,rfl,Mc,by left,?_⟩;obtain⟨τ2,pR⟩:=mN.put (m:=ds.length) (g:=λys=>ys++[w]) ho hv Mc LJ FR rk λrs r=>aA.D7 rs (by simpa using r);exact hq σ _ R1 τ2 pR (lA (n:=.l _) mN es hR Mc LJ)
  ·cases ev
 ·cases ev
end
section
variable {X:Cx}{S:Sx}{k:Nat}{F:ah}{Φ:aQ}
theorem F5(x:Str)(p:Pos):(Expr.Name x p).pos=p:=rfl
theorem sy{x y:Str}{px py pt IZ:Pos}{kt:Nat}{a b:Expr}(hk:env.scope.kind=.function)(hx:env.scope.names.lookup x=some .local)(hy:env.scope.names.lookup y=some .local)(TR:x≠y)(hl:px.line=py.line)
  (h1:[a,b].all (foldedForSure 8)=false) (h2:[a,b].all (constantsAlone 8)=false) (h3:([a,b].any λe=>match e with|.Starred ..=>true|_=>false)=false) :
  swappedStores [.Tuple [.Name x px,.Name y py] kt pt] (.Tuple [a,b] k2 IZ) env=pure (some [x,y]):=by
 have hb:env.blockKind=.function:=by unfold Env.blockKind;rw[hk];rfl
 have kx:env.kindOf x=some .local:=hx;have ky:env.kindOf y=some .local:=hy;have e1:([x,y].eraseDups.length != [x,y].length)=false:=by
  have:¬ (y==x)=true:=by simp;exact λz=>TR z.symm
  have h':(y==x)=false:=by simpa using this
  simp[List.eraseDups_cons,List.filter,h',TR]
 unfold swappedStores;simp only[hb,h3,List.filterMap_cons,List.filterMap_nil,kx,ky,hl,F5,List.head?_cons,Option.map_some,Option.getD_some,h1,h2];simp only[beq_self_eq_true,Bool.and_self,if_true];rw[if_neg (by simp)];refine(Zh ?_).trans ?_
 ·intro z;exact X7 (h3.symm.trans z)
 rw[if_neg (by
  rw[e1];simp),if_neg Bool.false_ne_true,if_neg Bool.false_ne_true]
theorem lb{kp:aZ}{v:V}{d:DI.D}(h:Rep (aU X.K H) (nd X.K R A τ H) kp v d)(hf:bc anyF d=false):gj X R' τ' H v d :=
 ⟨λ_=>none,λ_ _ h=>by simp at h,Rep.without (P:=anyF) (λ_ _ h=>h) (λk k' p xs f hf h=>by cases hf) h hf _⟩
theorem Fx(L:n6 X S k Φ){i j:Nat}{a b:CE}{v:Expr}(he:b9 S (.tup [a,b]) v=true)(hp:Ak S i j tg v=true):PS X (.Assign [tg] v pos) (mV X F Φ (.par i j a b)):=by
 obtain⟨ts,N5,q1⟩:=br hp;obtain⟨kt,pt,rfl⟩:=iT N5;obtain⟨⟨t1,t2⟩,hv2,q2⟩:=br q1;obtain rfl:ts=[t1,t2]:=jv hv2;obtain⟨⟨x,px⟩,hv3,q3⟩:=br q2;obtain rfl:t1=_:=t6 hv3;obtain⟨⟨y,py⟩,hv4,q4⟩:=br q3;obtain rfl:t2=_:=t6 hv4;obtain⟨vs,V5,q5⟩:=br q4;obtain⟨k2,IZ,rfl⟩:=iT V5;obtain⟨⟨ea,eb⟩,hv6,q6⟩:=br q5;obtain rfl:vs=[ea,eb]:=jv hv6
 ·obtain⟨q7,MC⟩:=aL q6;obtain⟨q8,h9⟩:=aL q7;obtain⟨q9,h8⟩:=aL q8;obtain⟨P0,h7⟩:=aL q9;obtain⟨VL,h6⟩:=aL P0;obtain⟨VJ,h5⟩:=aL VL;obtain⟨VI,h4⟩:=aL VJ;obtain⟨VH,h3⟩:=aL VI;obtain⟨h1,h2⟩:=aL VH;replace h1:S.N[i]?=some x:=X5 h1;replace h2:S.N[j]?=some y:=X5 h2;replace h3:=X5 h3;replace h4:=X5 h4;replace h5:=X5 h5;replace h6:=X5 h6;replace h7:=X5 h7;replace h8:=jS h8;replace h9:=jS h9;replace MC:=X5 MC;replace he:=aL he;have pa:=uh (F:=F) L.toLk [a,b] [ea,eb] he.1;refine PS.imp (F3 L.calm L.nd (by rw[L.N];exact h1) (by rw[L.N];exact h2) h3 (by rw[L.sc];exact h4) (by rw[L.sc];exact h5) pa (sy (by rw[L.sc];exact L.fk) (by rw[L.sc];exact h4) (by rw[L.sc];exact h5) h6 h7 h8 h9 MC)) λD σ H hq=>?_;obtain⟨R,τ,ρ,r,Si,ev,hq⟩:=hq;obtain⟨d1,W5,ev⟩:=aq ev;obtain⟨d2,W4,ev⟩:=aq ev;simp only[El]at ev;obtain⟨⟨f1,f2,l1,l2⟩,rfl⟩:=ev;refine⟨R,τ,ρ,[d1,d2],Si,by show bd (bj Φ a ρ) _=_;rw[W5];show bd (bd (bj Φ b ρ) _) _=_;rw[W4];rfl,λvs H1 e1 rv=>?_⟩;obtain⟨τt,fr,rs⟩:=rv;obtain⟨v1,v2,rfl,r1,r2⟩:=rs.two
  ·obtain⟨τ1,S1⟩:=(Si.go e1).set (i:=i) (lb r1 f1) l1;obtain⟨τ2,S2⟩:=S1.set (i:=j) (lb r2 f2) (by simpa using l2);exact⟨v1,v2,rfl,hq _ H1 R τ2 S2 (Kp.of e1 λ_ h=>h)⟩
theorem v5{α β:Type}(f:α->β):∀(ms:List α) (m:Nat),(ms.map f).eraseIdx m=(ms.eraseIdx m).map f
 |[],_=>rfl
 |_::_,0=>rfl
 |x::ms,m+1=>by
  show f x::(ms.map f).eraseIdx m=f x::(ms.eraseIdx m).map f;rw[v5 f ms m]
theorem aA.MP{T:jr}{N:gk}:∀{k:aZ} {n:Nat} {vs:ae} {ds:ab},aA T N k n vs ds->aA T N k n vs.dropLast ds.dropLast
 |_,_,_,_,.nil=>.nil
 |_,_,_,_,.cons _ .nil=>.nil
 |_,_,_,_,.cons h (.cons h' t)=>.cons h (aA.MP (.cons h' t))
mutual
theorem FA(L:n6 X S k Φ):∀(c:CS) (st:Stmt),MT S c st=true->PS X st (mV X F Φ c)
 |.asg t e,st,h=>by
  obtain⟨⟨IU,v⟩,v1,q1⟩:=br h;obtain⟨pos,rfl⟩:=n9 v1;obtain⟨tg,v2,q2⟩:=br q1;obtain rfl:IU=[tg]:=bP v2;obtain⟨q3,h4⟩:=aL q2;obtain⟨q4,h3⟩:=aL q3;obtain⟨h1,h2⟩:=aL q4;have h1:b9 S e v=true:=h1;replace h3:(isTup v&&isTup tg)=false:=jS h3;cases hc:iz v with
  |false=>exact xV L h1 h2 h3 (rJ h1 hc _ _ _)
  |true =>
   have h4:(!iz v||isNm tg)=true:=h4;rw[hc]at h4;obtain⟨x,p,rfl⟩:=i7 h4;obtain⟨g_,gens,sc,JK,rfl⟩:=wd hc;cases e<;>try (exact(X7 h1).elim)
   cases t with
   |tp is=>exact(X7 h2).elim
   |nm i =>
    cases hb:Pf S (.Name x p) (.ListComp g_ gens sc JK)with
    |true=>exact Bt L h1 h2 (by rw[D5 L,hb])
    |false=>exact xV L h1 h2 h3 (by
      show swapsWith (.ListComp g_ gens sc JK) (some (.Name x p)) pos.line X.env=_;rw[D5 L,hb])
 |.par i j a b,st,h=>by
  obtain⟨⟨IU,v⟩,v1,q1⟩:=br h;obtain⟨pos,rfl⟩:=n9 v1;obtain⟨tg,v2,q2⟩:=br q1;obtain rfl:IU=[tg]:=bP v2;exact Fx L (aL q2).1 (aL q2).2
 |.ret e,st,h=>by
  obtain⟨z,v1,q1⟩:=br h;obtain⟨pos,rfl⟩:=A_ v1;obtain⟨v,v2,q2⟩:=br q1;obtain rfl:z=some v:=v2;exact Fw L q2
 |.rs c,st,h=>λ_ _ _ _ _ _ bG=>by obtain⟨R,τ,ρ,r,Si,ev,hq⟩:=bG;cases ev
 |.ex e,st,h=>by
  obtain⟨v,v1,q1⟩:=br h;obtain⟨pos,rfl⟩:=sf v1;exact Kd L (aL q1).1 (jS (aL q1).2)
 |.mut p i es,st,h=>by
  obtain⟨⟨o,args⟩,ha,q1⟩:=br h;obtain⟨q2,h3⟩:=aL q1;obtain⟨h1,h2⟩:=aL q2;obtain⟨x,pp,rfl,hN,hl,pe⟩:=Td L h1 (λy q e=>by cases e;exact h2);exact L.pm.m X _ _ k L.toLk.pX L.nd L.CQ p st x pp args ha i hN hl pe F es (k7 L.toLk es args h3)
 |.app i e,st,h=>by
  obtain⟨c,v1,q1⟩:=br h;obtain⟨pos,rfl⟩:=sf v1;obtain⟨⟨fn,as,ks,p2⟩,v2,q2⟩:=br q1;obtain rfl:c=_:=mR v2;obtain⟨q3,q4⟩:=aL q2;obtain rfl:ks=[]:=i8 q3;obtain⟨⟨o,a,p1⟩,v3,q5⟩:=br q4;obtain rfl:fn=_:=pY v3;obtain⟨q6,q7⟩:=aL q5;obtain⟨v,v4,h4⟩:=br q7;obtain rfl:as=[v]:=bP v4;obtain⟨q8,h5⟩:=aL q6;obtain⟨q9,h2⟩:=aL q8;obtain⟨P0,h1⟩:=aL q9;obtain rfl:a=_:=X5 P0;obtain⟨x,p,rfl⟩:∃x p,o=.Name x p:=Dm h1;exact Fz L h1 h2 h4 h5
 |.ifs c a b,st,h=>by
  obtain⟨⟨t,x,y⟩,v1,q1⟩:=br h;obtain⟨pos,rfl⟩:=Bb v1;obtain⟨q2,h3⟩:=aL q1;obtain⟨h1,h2⟩:=aL q2;exact Kc L h1 (gO L a _ h2) (gO L b _ h3)
 |.EV c b,st,h=>by
  obtain⟨⟨t,x,y⟩,v1,q1⟩:=br h;obtain⟨pos,rfl⟩:=A9 v1;obtain⟨q2,h3⟩:=aL q1;obtain⟨h1,h2⟩:=aL q2;obtain rfl:y=[]:=i8 h1;exact xU L h2 (gO L b _ h3)
 |.fr t it b,st,h=>by
  obtain⟨⟨tg,iter,x,y⟩,v1,q1⟩:=br h;obtain⟨pos,rfl⟩:=Bc v1;obtain⟨q2,h5⟩:=aL q1;obtain⟨q3,h4⟩:=aL q2;obtain⟨q4,h3⟩:=aL q3;obtain⟨h1,h2⟩:=aL q4;obtain rfl:y=[]:=i8 h1;exact Fy L h2 h3 h4 (gO L b _ h5)
theorem gO(L:n6 X S k Φ):∀(cs:ag) (Ka:aO),jc S cs Ka=true->kO X Ka (ml X F Φ cs)
 |[],[],_=>kO.imp BN λD σ H bG=>by obtain⟨R,τ,ρ,r,Si,ev,hq⟩:=bG;cases ev;exact hq σ H R τ Si (Kp.refl R H)
 |[],_::_,h=>by exact(X7 h).elim
 |_::_,[],h=>by exact(X7 h).elim
 |c::cs,st::Ka,h=>by
  replace h:=aL h;have h1:PS X st (mV X F Φ c):=FA L c st h.1;have h2:kO X Ka (ml X F Φ cs):=gO L cs Ka h.2;refine kO.imp (yk h1 h2) λD σ H hq=>?_;obtain⟨R,τ,ρ,r,Si,ev,hq⟩:=hq;obtain⟨⟨fo,ρ1⟩,e1,ev⟩:=aq ev;refine⟨R,τ,ρ,(fo,ρ1),Si,e1,?_⟩;cases fo with
  |nx=>exact λσ' H' R' τ' gg kp=>⟨R',τ',ρ1,r,gg,ev,hq.from kp⟩
  |rt d=>cases ev;exact hq
end
end
variable {mg:Str->Option Value}{ps:af}{qual:Str}
theorem rg{x:Str}{f:Addr}{fd:FuncData}{k:Nat}{N bl:af}{cs:List (Str×GK)}{px:Px}{CQ:Nat->Option Str}{m:aw}{body:ag}
  (Fu:DV K x qual st f fd) (Sc:gZ N ps (bu st)) (Hm:jc ⟨bu st,N,CQ,bl,cs,px⟩ body (cO st)=true) (Hf:tZ px Φ) (QT:IP px Φ)
  (CK:∀y∈bl,mg y=none) (s_:∀y i,(y,i)∈cs->∃u,mg y=some u/\AM K i u)
  (uN:∀g y,CQ g=some y->∃(f:Addr) (fd:FuncData) (ps:af),hX P w K mg base xn k f fd ps (Bu K ps.length (Φ g))/\mg y=some (.ref f)/\PySem.W.keepIn K (.ref f)=true/\Binds K fd ps []/\∀ds r,Φ g ds=ok r->ds.length=ps.length)
  (hm:∀ds r,m ds=ok r->ds.length=ps.length/\ou Φ N.length body ds=ok r):hX P w K mg base xn (k+1) f fd ps (Bu K ps.length m):=by
 refine Fu.ok (N:=N) Sc (λvs H Q E ⟨_,_,_,h,_⟩=>h) λig A outer s H vs Q E hr AS=>?_;obtain⟨F,ds,r,hl,rs,er,hq⟩:=AS;obtain⟨Rh,zl⟩:=hm ds r er
 let X:=(tJ xn P w K mg base N qual (bu st) f ig A outer s H E).K5
 have L:n6 X ⟨bu st,N,CQ,bl,cs,px⟩ k Φ:=⟨⟨rfl,rfl,Sc.nd,rfl,hr,CK,λg y h=>⟨uN g y h⟩,s_,Hf⟩,λ_=>rfl,PassesOwn.never,Sc.kind,QT⟩
 refine⟨ml X F Φ body,gO L body _ Hm,?_⟩;unfold ou at zl;obtain⟨⟨fo,ρ'⟩,eb,zl⟩:=aq zl;have hpl:ps.length<=N.length:=by have:=Yn List.length Sc.pre;rw[List.length_take]at this;left
 have Jj:vs.length=ds.length:=rs.length;refine⟨λp=>F p/\H p≠none,λ_=>none,_,(fo,ρ'),⟨?_,λi d hi=>?_,λ_ _=>rfl,λp h=>h.2,λp h=>.inl h.1,λ_ _ h=>by simp at h,λ_ _ h=>by simp at h,aG.refl H⟩,eb,?_⟩
 ·unfold L2.start;simp[Jj]
 ·have T7:i<ds.length:=by
   by_cases mD:i<ds.length
   ·exact mD
   ·rw[List.getElem?_append_right (by simpa using mD)]at hi;rw[List.getElem?_replicate]at hi;split at hi<;>simp at hi
  rw[List.getElem?_append_left (by simpa using T7),List.getElem?_map]at hi;have hd:ds[i]?=some d:=by
   cases q:ds[i]? with
   |none=>rw[q]at hi;cases hi
   |some z=>rw[q]at hi;simp at hi;rw[hi]
  obtain⟨v,hv,rv⟩:=rs.get hd;refine⟨v,?_,rv.imp (q:=[0+i]) (q':=[i]) (λ_ _ h=>h) λc p xs f h=>?_⟩
  ·unfold L2.start;rw[List.getElem?_append_left (by rw[List.length_map,Jj];exact T7),List.getElem?_map,hv];rfl
  ·cases f with
   |ow=>exact nomatch h.2
   |fz=>exact⟨h.1,h.2,h.1.ne⟩
   |al=>exact h.2.elim
   |sc=>exact h
 ·cases fo with
  |nx =>
   cases zl;exact λσ' H' R' τ' gg kp=>hq .bw H' gg.same ⟨λ_=>none,λ_ _ h=>by simp at h,.bw⟩
  |rt d =>
   cases zl;exact λv H' es rr=>hq v H' es rr
structure Ent(P:aE)(w:World)(K:ao)(mg:aS)(base:Heap)(k:Nat)(y:Str)(m:aw):Prop where
 ex:∃(f:Addr) (fd:FuncData) (ps:af),hX P w K mg base xn k f fd ps (Bu K ps.length m)/\mg y=some (.ref f)/\PySem.W.keepIn K (.ref f)=true/\Binds K fd ps []/\∀ds r,m ds=ok r->ds.length=ps.length
theorem Ent.up{k k':Nat}{y:Str}{m:aw}(h:Ent P w K mg base k y m)(hk:k<=k'):Ent P w K mg base k' y m:=by
 obtain⟨f,fd,ps,h1,h2⟩:=h.ex;exact⟨f,fd,ps,h1.mono hk,h2⟩
theorem ent{x:Str}{f:Addr}{fd:FuncData}{k:Nat}{N bl:af}{cs:List (Str×GK)}{px:Px}{CQ:Nat->Option Str}{m:aw}{body:ag}
  (Fu:DV K x qual st f fd) (hmg:mg x=some (.ref f)) (hb:Binds K fd ps []) (Sc:gZ N ps (bu st)) (Hm:jc ⟨bu st,N,CQ,bl,cs,px⟩ body (cO st)=true) (Hf:tZ px Φ) (QT:IP px Φ) (CK:∀y∈bl,mg y=none) (s_:∀y i,(y,i)∈cs->∃u,mg y=some u/\AM K i u)
  (uN:∀g y,CQ g=some y->Ent P w K mg base k y (Φ g)) (hm:∀ds r,m ds=ok r->ds.length=ps.length/\ou Φ N.length body ds=ok r):Ent P w K mg base (k+1) x m :=
 ⟨f,fd,ps,rg Fu Sc Hm Hf QT CK s_ (λg y h=>(uN g y h).ex) hm,hmg,Fu.kp,hb,λds r h=>(hm ds r h).1⟩
def cT{α:Type}(P:α->Prop):List α->Prop
 |[]=>True
 |a::l=>P a/\cT P l
theorem cT.mem{α:Type}{P:α->Prop}:∀{l:List α},cT P l->∀a∈l,P a
 |[],_,_,h=>by cases h
 |_::_,h,_,hm=>(List.mem_cons.mp hm).elim (λe=>e▸h.1) (cT.mem h.2 _)
theorem cT.tab{β:Type}{P:Nat->β->Prop}:∀{l:List (Nat×β)},cT (λp=>P p.1 p.2) l->∀g y,l.lookup g=some y->P g y
 |[],_,_,_,h=>by cases h
 | (k,b)::l,h,g,y,e=>by
  rw[List.lookup_cons]at e;cases hg:g==k with
  |true=>rw[hg]at e;cases e;rw[eq_of_beq hg];exact h.1
  |false=>rw[hg]at e;exact cT.tab h.2 g y e
theorem cT.two{β γ:Type}{P:β->γ->Prop}{l:List (β×γ)}(h:cT (λp=>P p.1 p.2) l)(y:β)(i:γ)(hm:(y,i)∈l):P y i:=cT.mem h _ hm
theorem Lq{α:Type}{l:List α}(h:l.length=1):∃a,l=[a]:=List.length_eq_one_iff.mp h
theorem Lp{α:Type}{l:List α}(h:l.length=2):∃a b,l=[a,b]:=by
 cases l with
 |nil=>cases h
 |cons a l=>obtain⟨b,rfl⟩:=Lq (Nat.succ.inj h);exact⟨a,b,rfl⟩
theorem Lo{α:Type}{l:List α}(h:l.length=3):∃a b c,l=[a,b,c]:=by
 cases l with
 |nil=>cases h
 |cons a l=>obtain⟨b,c,rfl⟩:=Lp (Nat.succ.inj h);exact⟨a,b,c,rfl⟩
theorem Qi{α:Type}{l:List α}(h:l.length=4):∃a b c d,l=[a,b,c,d]:=by
 cases l with
 |nil=>cases h
 |cons a l=>obtain⟨b,c,d,rfl⟩:=Lo (Nat.succ.inj h);exact⟨a,b,c,d,rfl⟩
noncomputable def lF:ab->Option (aa)
 |[]=>some []
 |.int i::ds=>(lF ds).map (i :: ·)
 |_::_=>none
theorem lE:∀ns:aa,lF (ns.map D.int)=some ns
 |[]=>rfl
 |n::ns=>by simp[lF,lE ns]
theorem qB:∀{ds:ab} {ns:aa},lF ds=some ns->ds=ns.map D.int
 |[],ns,h=>by simp[lF]at h;subst h;rfl
 |d::ds,ns,h=>by
  cases d<;>simp[lF]at h;obtain⟨ms,h1,rfl⟩:=h;rw[qB h1];rfl
def oO:aw
 |[.lst .sc ds]=>match lF ds with
  |some ns=>if ns.length<=63 then ok (.bl true)else none
  |none=>none
 |_=>none
theorem Ck(h:ns.length<=63):oO [.lst .sc (ns.map D.int)]=ok (.bl true):=by
 simp[oO,lE,h]
set_option tactic.hygienic true in
theorem yY{n:Nat}{b:ag}(h:∀ns:aa,ns.length<=63->ou Φ n b [.lst .sc (ns.map D.int)]=ok (.bl true)):∀ds r,oO ds=ok r->ds.length=1/\ou Φ n b ds=ok r:=by
 intro ds r e
 match ds,e with
 |[.lst .sc ds],e =>
  simp only[oO]at e;split at e
  ·rename_i ns s9;split at e
   ·rename_i hl;cases e;obtain rfl:=qB s9;exact⟨rfl,h ns hl⟩
   ·cases e
  ·cases e
theorem GR(K:ao)(H:Hp)(a:Addr)(ns:aa)(m:aw)(hm:m [.lst .sc (ns.map D.int)]=ok (.bl true))(hO:DT H)(hS:cM K H a (ns.map V.int)):Bu K 1 m [.ref a] H (λv _=>v=.bl true) λ_ _ _=>False:=by
 refine⟨λ_=>True,_,.bl true,rfl,.cons (.lst ?_ (aA.ints ns)) .nil,hm,λv H' _ bG=>by obtain⟨τt,_,rp⟩:=bG;cases rp;rfl⟩;rcases hS with (h|h)|h
 ·rcases hO a with z|⟨o,xs,z⟩
  ·rw[h]at z;cases z
  ·rw[h]at z;cases z
 ·exact .inl h
 ·exact .inr h
section
variable {X:Cx}{pins:aj}{σ:St}{H:Hp}{s:Shared}{h':Heap}
theorem Bg(I:Inv X pins σ H s)(hf:∀b∈ch,l9 X pins H b)(k:∀b u,b∉ch->s.heap.get? b=some u->h'.get? b=some u):Inv X pins σ H { s with heap:=h',toks:=t' }:=by
 have K8:∀b u,H b=some u->b∉ch:=λb u e z=>by rw[(hf b z).1]at e;cases e
 refine I.step (g':=s.gens) (d':=s.drawn) (ch:=ch) (λb hb=>⟨(hf b hb).2.2.2.1,(hf b hb).2.1,(hf b hb).2.2.2.2.1,(hf b hb).2.2.2.2.2⟩) (λb o _ _ hc e _=>k b o hc e) (λb o _ _ hc e _=>⟨o.slots,k b o hc e⟩) (λ_ _ _ _ n=>n)
  (λb o hc e=>⟨o,k b o hc e⟩) (λ_ _ e=>e) (λ_ _ _ e=>e) (λm hm=>?_) (λb u e=>?_) I.bare
 ·obtain⟨o,es,ep,ho,r⟩:=hm;exact⟨o,es,ep,k _ o (λz=>(hf _ z).2.1 rfl) ho,r⟩
 ·exact(I.cJ b u e).k0 λv=>k b v (K8 b u e)
theorem Bh{T:Addr}{o:HO}(I:Inv X pins σ H s)(hf:∀b∈ch,l9 X pins H b)(k:∀b u,b∉ch->s.heap.get? b=some u->h'.get? b=some u)(hT:s.heap.objs.size<=T)(new:b_ (upd H T o) h' T o):
  Inv X pins σ (upd H T o) { s with heap:=h',toks:=t' }:=by
 have K8:∀b u,H b=some u->b∉ch:=λb u e z=>by rw[(hf b z).1]at e;cases e
 have hn:H T=none:=I.cJ.fresh hT;have ne:∀b (u:Obj),s.heap.get? b=some u->b≠T:=λb u e z=>absurd (Ya e) (by rw[z];exact Nat.not_lt.mpr hT);have up:∀b u,H b=some u->upd H T o b=some u:=λb u e=>by rw[bh (eu e hn)];exact e
 refine I.step (g':=s.gens) (d':=s.drawn) (ch:=ch) (λb hb=>⟨(hf b hb).2.2.2.1,(hf b hb).2.1,(hf b hb).2.2.2.2.1,(hf b hb).2.2.2.2.2⟩) (λb o _ _ hc e _=>k b o hc e) (λb o _ _ hc e _=>⟨o.slots,k b o hc e⟩) (λb u _ e n=>by rw[bh (ne b u e)];exact n)
  (λb o hc e=>⟨o,k b o hc e⟩) (λ_ _ e=>up _ _ e) (λ_ _ _ e=>up _ _ e) (λm hm=>?_) (uJ (λb u e=>?_) hn new) I.bare
 ·obtain⟨o,es,ep,ho,r⟩:=hm;exact⟨o,es,ep,k _ o (λz=>(hf _ z).2.1 rfl) ho,r⟩
 ·exact(I.cJ b u e).k0 λv=>k b v (K8 b u e)
end
def Sz(K:ao)(a b:Addr):It :=
  ⟨λi H=>∃xs ys x y,cM K H a xs/\cM K H b ys/\xs[i]?=some x/\ys[i]?=some y,
   λi H v H'=>∃T x y,(∀xs,cM K H a xs->xs[i]?=some x)/\(∀ys,cM K H b ys->ys[i]?=some y)/\H T=none/\v=.ref T/\H'=upd H T (.tup [x,y]),
   λi H=>∃xs ys,cM K H a xs/\cM K H b ys/\(xs.length<=i\/ys.length<=i)⟩
theorem t_{h:Heap}{T:Addr}{x y:V}{u v:Value}(rx:RelV x u)(ry:RelV y v)(e:h.get? T=some { cls:=.type "tuple",data:=.seq #[u,v] }):b_ H h T (.tup [x,y]) :=
 ⟨by rw[sizeLine_eq];simp,[u,v],.cons rx (.cons ry .nil),⟨_,e,rfl,_,rfl⟩⟩
theorem cC{h:Heap}{a b:Addr}{o u:Obj}(ha:h.get? a=some o)(hb:h.get? b=some u)(hc:o.cls≠u.cls):a≠b:=λz=>by
 subst z;rw[ha]at hb;cases hb;exact hc rfl
theorem xG{tp:Pos}{a b z TI TO:Addr}(WJ:TI≠TO)(Jr:i1≠i2):
  Turn P w K (.Tuple elts n1 tp) (Sz K a b) [z,TI,TO,i1,i2] z (λi h=>IsZip h z TI TO .none/\IsPair h TI (.ref i1) (.ref i2)/\(∃x y,IsPair h TO x y)/\h.IsListIter i1 a i/\h.IsListIter i2 b i):=by
 have apart:∀{h:Heap} {x y:Value} {xs ys:aP} {i:Nat},IsZip h z TI TO .none->IsPair h TI (.ref i1) (.ref i2)->IsPair h TO x y->h.IsListIter i1 a i->h.IsListIter i2 b i->h.IsList a xs->h.IsList b ys->ZipApart z TI TO i1 i2 a b:=by
  intro h x y xs ys i hz hI hO l1 l2 ha hb;obtain⟨o1,e1,c1,_⟩:=l1;obtain⟨o2,e2,c2,_⟩:=l2;obtain⟨oa,ea,ca,_⟩:=ha;obtain⟨ob,eb,cb,_⟩:=hb;exact⟨cC hI hz (by simp),cC hO hz (by simp),cC e1 hz (by rw[c1];simp),cC e2 hz (by rw[c2];simp),WJ,cC hI e1 (by rw[c1];simp),cC hI e2 (by rw[c2];simp),cC hO e1 (by rw[c1];simp),cC hO e2 (by rw[c2];simp),Jr,
   cC ea hz (by rw[ca];simp),cC ea hO (by rw[ca];simp),cC ea e1 (by rw[ca,c1];simp),cC ea e2 (by rw[ca,c2];simp),cC eb hz (by rw[cb];simp),cC eb hO (by rw[cb];simp),cC eb e1 (by rw[cb,c1];simp),cC eb e2 (by rw[cb,c2];simp)⟩
 refine⟨by simp,λi h st c hc=>?_,λi h h' st k=>?_,?_,?_,λA i s Q E st hQ=>wpAny_pyIter_zip st.1 hQ⟩
 ·obtain⟨hz,hI,⟨x,y,hO⟩,⟨o1,e1,_,d1⟩,⟨o2,e2,_,d2⟩⟩:=st;simp only[List.mem_cons,List.not_mem_nil,or_false]at hc;rcases hc with rfl|rfl|rfl|rfl|rfl
  ·exact⟨_,hz,λv q=>by cases q⟩
  ·exact⟨_,hI,λv q=>by cases q⟩
  ·exact⟨_,hO,λv q=>by cases q⟩
  ·exact⟨o1,e1,λv q=>by rw[d1]at q;cases q⟩
  ·exact⟨o2,e2,λv q=>by rw[d2]at q;cases q⟩
 ·obtain⟨hz,hI,⟨x,y,hO⟩,l1,l2⟩:=st;exact⟨k z (by simp) _ hz,k TI (by simp) _ hI,⟨x,y,k TO (by simp) _ hO⟩,l1.at λo e=>k i1 (by simp) o e,l2.at λo e=>k i2 (by simp) o e⟩
 ·intro X hP hw hK hc i pins s σ H E I hf st hg;subst hP hw hK;obtain⟨xs,ys,x,y,q1,q2,ex,ey⟩:=hg;obtain⟨hz,hI,⟨x0,y0,hO⟩,l1,l2⟩:=st;obtain⟨aF,rv,p,_⟩:=I.list q1;obtain⟨its',xb,p',_⟩:=I.list q2;obtain⟨u,hu,ru⟩:=rv.get ex;obtain⟨u',QK,VB⟩:=xb.get ey;have D:=apart hz hI hO l1 l2 p.isList p'.isList;refine wpAny_pyNext_zip_item D hz hI hO l1 l2 p.isList p'.isList (x:=u) (y:=u') (by simpa using hu) (by simpa using QK) λh1 z1 o1 a1 b1 t1 Nz k1=>⟨_,rfl,?_⟩
  refine wpAny_letOwnedTupleGo_zip z1 λh2 z2 IY=>?_;have U6:s.heap.objs.size≠z:=Yj (Ya hz);have kk:∀c o,c∉[z,TI,TO,i1,i2]->s.heap.get? c=some o->h2.get? c=some o:=λc o hc e=>by
   simp only[List.mem_cons,List.not_mem_nil,or_false,not_or]at hc;exact IY.extBut c o hc.1 (k1 c o hc.1 hc.2.2.1 hc.2.2.2.1 hc.2.2.2.2 e)
  have hT:h2.get? s.heap.objs.size=some { cls:=.type "tuple",data:=.seq #[u,u'] }:=IY.extBut _ _ U6 t1;have hn:H s.heap.objs.size=none:=I.cJ.fresh (Yb _);refine⟨.ref s.heap.objs.size,upd H s.heap.objs.size (.tup [x,y]),Bh (s:=s) (h':=h2) (t':=s.toks) I hf kk (Yb _) (t_ ru VB hT),rfl,⟨_,x,y,λzs hz=>by rw[I.i4 hz q1];exact ex,λzs hz=>by rw[I.i4 hz q2];exact ey,hn,rfl,rfl⟩,⟨z2,IY.extBut _ _ D.TIz (k1 _ _ D.TIz D.TITO D.TIi1 D.TIi2 hI),⟨_,_,IY.extBut _ _ D.TOz o1⟩,a1.extBut IY.extBut D.i1z,b1.extBut IY.extBut D.i2z⟩,λc hc=>?_⟩;rw[bh]
  ·exact(hf c hc).1
  ·intro z;subst z;simp only[List.mem_cons,List.not_mem_nil,or_false]at hc;rcases hc with e|e|e|e|e
   ·exact absurd (Ya hz) (by rw[<- e];exact Ym _)
   ·exact absurd (Ya hI) (by rw[<- e];exact Ym _)
   ·exact absurd (Ya hO) (by rw[<- e];exact Ym _)
   ·obtain⟨_,w,_⟩:=l1;exact absurd (Ya w) (by rw[<- e];exact Ym _)
   ·obtain⟨_,w,_⟩:=l2;exact absurd (Ya w) (by rw[<- e];exact Ym _)
 ·intro X hP hw hK hc i pins s σ H E I hf st hg;subst hP hw hK;obtain⟨xs,ys,q1,q2,hl⟩:=hg;obtain⟨hz,hI,⟨x0,y0,hO⟩,l1,l2⟩:=st;obtain⟨aF,rv,p,_⟩:=I.list q1;obtain⟨its',xb,p',_⟩:=I.list q2;have e1:=rv.length;have e2:=xb.length;refine wpAny_pyNext_zip_end (I.ok.hd hc) (apart hz hI hO l1 l2 p.isList p'.isList) hz hI hO l1 l2 p.isList p'.isList (by simp;left) λh1 k1=>⟨rfl,Bg (t':=s.toks) I hf λc o hc e=>?_⟩
  simp only[List.mem_cons,List.not_mem_nil,or_false,not_or]at hc;exact k1 c o hc.1 hc.2.2.1 hc.2.2.2.1 hc.2.2.2.2 e
variable {ta:TA}
theorem F6{tp p:Pos}(hg:Gl X "zip")(hm:X.mg "zip" = none)(ha:PA X [e1,e2] ta)(hs:∀es,starEach (e1::es) X.env=(false,eval e1 X.env)::starEach es X.env)(Jk:∀es,starEach (e2::es) X.env=(false,eval e2 X.env)::starEach es X.env):
  PI X (.Tuple elts n1 tp) (.Call (.Name "zip" p) [e1,e2] [] pos) (λσ H R=>ta σ H λvs H1=>∃a b,vs=[.ref a,.ref b]/\(∃xs,cM X.K H1 a xs)/\(∃ys,cM X.K H1 b ys)/\R (Sz X.K a b) H1):=by
 intro pins s σ H R I h;refine Call_ (fb I hg hm boot_zip (Yr (cI (ha pos pins s σ H _ I h) λus s1 bG=>?_) (hs _) (by rw[Jk];rfl)));obtain⟨vs,H1,I1,r1,q1⟩:=bG;obtain⟨a,b,e,⟨xs,q1⟩,⟨ys,q2⟩,q⟩:=q1;subst e;obtain⟨u,v,rfl,ru,rv⟩:=vals2 r1;cases ru;cases rv;obtain⟨aF,_,p1,_⟩:=I1.list q1;obtain⟨its',_,p2,_⟩:=I1.list q2;refine call_zip_2 p1.isList p2.isList λh' z t o l1 l2 sz k=>wpAny_pyIter_zip z ?_;refine⟨s1.heap.objs.size+4,[s1.heap.objs.size+4,s1.heap.objs.size+2,s1.heap.objs.size+3,s1.heap.objs.size,s1.heap.objs.size+1],_,_,H1,rfl,I1.kept (t':=s1.toks) k,xG (Yf (YH _)) (Yf (YH _)),⟨z,t,⟨_,_,o⟩,l1,l2⟩,λb hb=>?_,q⟩;have uP:s1.heap.objs.size<=b:=by
  simp only[List.mem_cons,List.not_mem_nil,or_false]at hb;rcases hb with rfl|rfl|rfl|rfl|rfl<;>first|exact Nat.le_add_right .. |exact Yb _
 exact I1.zS uP (I1.cJ.fresh uP)
def l3(sc:Scope)(bl:af)(e:Expr):Option (ai):=(f9 e).bind λz=>(two z.2).bind λ_=>if z.1=("zip" : Str)/\jJ sc z.1=true/\z.1∈bl then some z.2 else none
theorem nS{sc:Scope}{bl:af}{e:Expr}(h:l3 sc bl e=some args):∃p pos a b,e=.Call (.Name ("zip" : Str) p) [a,b] [] pos/\args=[a,b]/\jJ sc ("zip" : Str)=true/\("zip" : Str)∈bl:=by
 obtain⟨⟨x,as⟩,hv,h⟩:=bT h;obtain⟨⟨a,b⟩,hw,h⟩:=bT h;obtain⟨hc,h⟩:=gT h;cases h;obtain⟨rfl,h1,h2⟩:=hc;obtain⟨p,pos,rfl⟩:=cK hv;obtain rfl:=jv hw;exact⟨p,pos,a,b,rfl,rfl,h1,h2⟩
theorem oE{a b:Expr}(h:iF X F Φ cs [a,b]):(∃c d,cs=[c,d]/\PE X a (tD X F Φ c)/\PE X b (tD X F Φ d))/\PA X [a,b] (oh X F Φ cs)/\(∀es,starEach (a::es) X.env=(false,eval a X.env)::starEach es X.env)/\(∀es,starEach (b::es) X.env=(false,eval b X.env)::starEach es X.env):=by
 match cs,h with
 |[c,d],h =>
  obtain⟨h1,h2,_,h3,h4,_,_⟩:=h;exact⟨⟨c,d,rfl,h1,h3⟩,PA.imp (cc h1 (PA.imp (cc h3 (PA.imp dh λ_ _ _ h=>fK h) (h4 _)) λ_ _ _ h=>dF h) (h2 _)) λ_ _ _ h=>dF h,h2,h4⟩
 |[],h=>exact h.elim
 |[_],h=>exact h.2.2.2.elim
 |_::_::_::_,h=>exact h.2.2.2.2.2.2.elim
theorem Rep.SW{k:aZ}{v:V}{d:D}(e:aG H H')(h:Rep (aU K H) (nd K R (λ_=>False) (λ_=>none) H) k v d):Rep (aU K H') (nd K R (λ_=>False) (λ_=>none) H') k' v d :=
 (Rep.oN h (k':=k')).imp (λ_ _ h=>aU.same e h) λ_ _ _ _ h=>nd.same e h
theorem A5{p q:Addr}{f g:Fl}{a b:ab}:JA K (Sz K p q) H2 [.ref p,.ref q] [.lst f a,.lst g b] (az aY (List.zipWith (λx y=>.tup [x,y]) a b)):=by
 have len:(az aY (List.zipWith (λx y=>D.tup [x,y]) a b)).length=min a.length b.length:=by rw[bo];simp
 have two:∀{H':Hp} {R':ah},aA (aU K H') (nd K R' (λ_=>False) (λ_=>none) H') [] 0 [.ref p,.ref q] (az aY [.lst f a,.lst g b]) ->
   ∃xs ys,cM K H' p xs/\cM K H' q ys/\aA (aU K H') (nd K R' (λ_=>False) (λ_=>none) H') [0] 0 xs (az aY a)/\aA (aU K H') (nd K R' (λ_=>False) (λ_=>none) H') [1] 0 ys (az aY b):=by
  intro H' R' h;rw[az,aI,az,aI,az]at h;cases h with
  |cons h t=>cases t with
   |cons h' t=>cases h with
    |lst h r=>cases h' with
     |lst h' r'=>exact⟨_,_,h.sq,h'.sq,r,r'⟩
 refine⟨λi H' R' _ h hi=>?_,λi H' R' x kh _ h hi hy=>?_,λi H' R' _ h hi=>?_⟩
 ·obtain⟨xs,ys,h1,h2,r1,r2⟩:=two h;rw[len]at hi;have l1:=r1.length;have l2:=r2.length;rw[bo,List.length_map]at l1 l2;exact⟨xs,ys,xs[i]'(by left),ys[i]'(by left),h1,h2,Yh _,Yh _⟩
 ·obtain⟨xs,ys,h1,h2,r1,r2⟩:=two h;obtain⟨T,u,v,g1,g2,hn,rfl,rfl⟩:=hy;obtain⟨d1,e1,p1⟩:=r1.wG (g1 xs h1);obtain⟨d2,e2,p2⟩:=r2.wG (g2 ys h2);have es:aG H' (upd H' T (.tup [u,v])):=aG.upd hn;refine⟨es,.tup [d1,d2],?_,.tup (aU.of aV) (.cons (p1.SW es) (.cons (p2.SW es) .nil))⟩;rw[bo,List.getElem?_map]at e1 e2 ⊢;obtain⟨c1,q1,rfl⟩:=Option.map_eq_some_iff.mp e1;obtain⟨c2,q2,rfl⟩:=Option.map_eq_some_iff.mp e2;rw[List.getElem?_zipWith,q1,q2];simp[aI,az]
 ·obtain⟨xs,ys,h1,h2,r1,r2⟩:=two h;rw[len]at hi;have l1:=r1.length;have l2:=r2.length;rw[bo,List.length_map]at l1 l2;exact⟨xs,ys,h1,h2,by left⟩
theorem ER{n:Nat}(hΦ:Φ n=A4){sc:Scope}{bl:af}{k:Nat}(L:PX X sc bl k){e:Expr}(he:l3 sc bl e=some args)(ht:fP tg=true)(hs:iF X F Φ cs args)
  {pins:aj} {s:Shared} {xs:ab} {d:D} (I:Inv X pins σ H s) (Si:SI X F R τ ρ σ H) (bt:cB Φ cs ρ=ok xs) (ed:Φ n xs=ok d) (ei:la d=ok items) (Rr:It->Hp->Prop)
  (hR:∀J H2 vs,aG H H2->bX X.K (gP X F) R τ (cR cs) H H2 vs xs->JA X.K J H2 vs xs items->Rr J H2) :
  wpAny (model X.prog X.w) X.A (eval e X.env) (λv s1=>wpAny (model X.prog X.w) X.A (pyIter v) (AL X pins σ tg Rr) X.xe s1) X.xe s:=by
 obtain⟨p,pos,a,b,rfl,rfl,h1,h2⟩:=nS he;cases tg<;>try (cases ht;done)
 obtain⟨_,pa,s1,s2⟩:=oE hs;refine F6 (L.gl h1) (L.bl _ h2) pa s1 s2 pins s σ H Rr I ⟨R,τ,ρ,xs,Si,bt,λvs H1 e1 rv=>?_⟩;have S5:=rv;obtain⟨τt,fr,rs⟩:=rv;rw[hΦ]at ed;unfold A4 at ed;split at ed
 ·cases ed;cases ei;obtain⟨v,w,rfl,rx,ry⟩:=rs.two;cases rx with
  |lst hx _=>cases ry with
   |lst hy _=>exact⟨_,_,rfl,⟨_,hx.sq⟩,⟨_,hy.sq⟩,hR _ H1 _ e1 S5 A5⟩
 ·cases ed
theorem aA.EA{T:jr}{N:gk}{k:aZ}:∀(j:Nat) {n:Nat} {vs:ae} {ds:ab},aA T N k n vs ds->aA T N k (n+j) (vs.drop j) (ds.drop j)
 |0,_,_,_,h=>h
 |j+1,_,_,_,.nil=>.nil
 |j+1,n,_,_,.cons h t=>by
  rw[show n+(j+1)=n+1+j by left];exact aA.EA j t
theorem aA.D0{T:jr}{N:gk}{k:aZ}:∀(j:Nat) {n:Nat} {vs:ae} {ds:ab},aA T N k n vs ds->aA T N k n (vs.take j) (ds.take j)
 |0,_,_,_,_=>by rw[List.take_zero,List.take_zero];exact .nil
 |j+1,_,_,_,.nil=>.nil
 |j+1,n,_,_,.cons h t=>.cons h (aA.D0 j t)
noncomputable def lX{α:Type}(b:Bool)(k:Nat)(xs:List α):List α:=if b then xs.drop k else xs.take k
def Ky(K:ao)(b:Bool):V->Option Int->Option Int->Hp->VK->Prop:=λx lo hi H Q=>∃(a:Addr) (xs:ae) (k:Nat),x=.ref a/\cM K H a xs/\lo=(if b then some (k:Int)else none)/\hi=(if b then none else some (k:Int))/\k<=xs.length/\∀p,H p=none->Q (.ref p) (upd H p (.lst (lX b k xs)))
theorem ui(b:Bool):OD X (Ky X.K b):=by
 intro pins s σ H x v vl vu lo hi sl Q I rx hs pl pu h;obtain⟨a,xs,k,rfl,hx,rfl,rfl,hk,q⟩:=h;cases rx;obtain⟨aF,r,Ea,hz⟩:=I.list hx;have hl:=cL Ea;have hlen:aF.length=xs.length:=r.length.symm;refine⟨"list",_,slot_list_getitem.lookup,hl.typeIs,wpAny_getItem_list_slice hl hs pl pu .none (by simp) ?_ (by rw[List.size_toArray,hlen];exact hz)⟩;have e:slicePick aF.toArray (if b then some (k:Int)else none) (if b then none else some (k:Int)) none=(lX b k aF).toArray:=by
  cases b with
  |true=>exact slicePick_from aF.toArray k (by simp;left)
  |false=>exact slicePick_upto aF.toArray k (by simp;left)
 have rc:Vals (lX b k xs) (lX b k aF):=by
  cases b with
  |true=>exact r.drop k
  |false=>exact r.take k
 have lc:(lX b k xs).length<=xs.length:=by
  cases b with
  |true=>show(xs.drop k).length<=_;rw[List.length_drop];left
  |false=>show(xs.take k).length<=_;rw[List.length_take];left
 rw[e];exact⟨.ref s.heap.objs.size,_,I.Cm (t':=s.toks) rc (Yi lc hz),rfl,q _ I.fresh⟩
def cutD(b:Bool)(xs:ab):O D:=match two xs with
 |some z=>match z.1 with
  |.lst _ ds=>match z.2 with
   |.int k=>if 0<=k/\k<=ds.length then ok (.lst .ow (az a_ (lX b k.toNat ds)))else none
   |_=>none
  |_=>none
 |none=>none
set_option tactic.hygienic true in
theorem Dh{b:Bool}{x y d:D}(h:cutD b [x,y]=ok d):∃(f:Fl) (ds:ab) (k:Nat),x=.lst f ds/\y=.int k/\k<=ds.length/\d=.lst .ow (az a_ (lX b k ds)):=by
 cases x<;>first|exact nk h | (cases h;done) | (cases y<;>first|exact nk h | (cases h;done)|skip)
 obtain⟨⟨h1,h2⟩,h3⟩:=ka h;rename_i f ds k;exact⟨f,ds,k.toNat,rfl,by rw[Int.toNat_of_nonneg h1],by left,h3.symm⟩
noncomputable def JQ(b:Bool)(e:Expr):Option Expr:=match e with
 |.Slice lo hi st _=>match st with
  |none=>match b with
   |true=>match hi with
    |none=>lo
    |some _=>none
   |false=>match lo with
    |none=>hi
    |some _=>none
  |some _=>none
 |_=>none
set_option tactic.hygienic true in
theorem Bd{b:Bool}{e k:Expr}(h:JQ b e=some k):∃p,e=.Slice (if b then some k else none) (if b then none else some k) none p:=by
 cases e<;>first|exact nk h | (cases h;done)|skip
 rename_i lo hi st p;cases st with
 |some _=>cases h
 |none=>cases b with
  |true=>cases hi with
   |some _=>cases h
   |none=>cases h;exact⟨p,rfl⟩
  |false=>cases lo with
   |some _=>cases h
   |none=>cases h;exact⟨p,rfl⟩
def l4(b:Bool)(_:Scope)(_:af)(e:Expr):Option (ai):=(mi e).bind λz=>(JQ b z.2).bind λk=>some [z.1,k]
theorem nU{b:Bool}{sc:Scope}{bl:af}{e:Expr}(h:l4 b sc bl e=some args):∃a k p pos,e=.Subscript a (.Slice (if b then some k else none) (if b then none else some k) none p) pos/\args=[a,k]:=by
 obtain⟨⟨a,s⟩,hv,h⟩:=bT h;obtain⟨k,hw,h⟩:=bT h;cases h;obtain⟨pos,rfl⟩:=eQ hv;obtain⟨p,rfl⟩:=Bd hw;exact⟨a,k,p,pos,rfl,rfl⟩
theorem Ir{b:Bool}{n:Nat}(hΦ:Φ n=cutD b){sc:Scope}{bl:af}{k:Nat}(L:PX X sc bl k){e:Expr}(he:l4 b sc bl e=some args)(hs:iF X F Φ cs args):PE X e (tD X F Φ (.bq n cs))/\PT X e (dN X F Φ (.bq n cs)):=by
 obtain⟨a,ke,p,pos,rfl,rfl⟩:=nU he;cases cs with
 |nil=>exact hs.elim
 |cons c cs=>cases cs with
  |nil=>exact hs.2.2.2.elim
  |cons c' cs=>cases cs with
   |cons _ _=>exact hs.2.2.2.2.2.2.elim
   |nil =>
    obtain⟨h1,_,_,h2,_,_,_⟩:=hs;have this:PE X (.Subscript a (.Slice (if b then some ke else none) (if b then none else some ke) none p) pos) (tD X F Φ (.bq n [c,c'])):=by
     have go:∀{tl th:TO},PO X (if b then some ke else none) tl->PO X (if b then none else some ke) th->(∀(H1:Hp) (R:ah) (τ:Addr->Option aZ) (ρ:aX) (k:Nat) (σ:St) (Q:Option Int->Option Int->Hp->Prop),SI X F R τ ρ σ H1->bj Φ c' ρ=ok (.int k)->(∀H2,aG H1 H2->Q (if b then some (k:Int)else none) (if b then none else some (k:Int)) H2)->tl σ H1 λl H2=>th σ H2 λu H3=>Q l u H3)->PE X (.Subscript a (.Slice (if b then some ke else none) (if b then none else some ke) none p) pos) (tD X F Φ (.bq n [c,c'])):=by
      intro tl th pl pu hh;refine PE.imp (qz (ui b) h1 pl pu) λσ H Q hq=>?_;obtain⟨R,τ,ρ,d,Si,ev,hq⟩:=hq;obtain⟨xs,bt,ev⟩:=aq ev;obtain⟨x,ex,bt⟩:=aq bt;obtain⟨ys,eO,bt⟩:=aq bt;cases bt;obtain⟨y,ey,eO⟩:=aq eO;cases eO;rw[hΦ]at ev;obtain⟨f,ds,j,rfl,rfl,hj,rfl⟩:=Dh ev;refine tD.intro Si ex λv H1 e1 r1=>hh H1 R τ ρ j σ (λl u H3=>Ky X.K b v l u H3 Q) (Si.go e1) ey λH2 e2=>?_;have r2:=(r1.go e2).mono (fv':=gc (.bq n [c,c'])) λi hi=>Yu _ hi;obtain⟨τt,fr,rp⟩:=r2;obtain⟨q,xs,rfl,hn,rs⟩:=rp.kT;have ee:=e1.trans e2;refine⟨q,xs,j,rfl,hn.sq,rfl,rfl,by rw[rs.length];exact hj,λl hl=>hq _ _ (ee.trans (aG.upd hl)) (bC.qF (ee.free hl) (ee.trans (aG.upd hl)) aV ?_)⟩;have rc:∃n',aA (aU X.K H2) (nd X.K R (iQ (gP X F) τ (gc (.bq n [c,c']))) τt H2) [] n' (lX b j xs) (lX b j ds):=by
       cases b with
       |true=>exact⟨_,rs.EA j⟩
       |false=>exact⟨_,rs.D0 j⟩
      obtain⟨n',rc⟩:=rc;exact(rc.eZ Si fr).imp (λ_ _ h=>aU.same (aG.upd hl) h) λ_ _ _ _ h=>nd.same (aG.upd hl) h
     cases b with
     |true =>
      refine go (oA h2) oB λH1 R τ ρ k σ Q Si ek hk=>tD.intro Si ek λv H2 e2 r2=>?_;cases r2.isInt;exact⟨k,rfl,hk H2 e2⟩
     |false =>
      refine go oB (oA h2) λH1 R τ ρ k σ Q Si ek hk=>tD.intro Si ek λv H2 e2 r2=>?_;cases r2.isInt;exact⟨k,rfl,hk H2 e2⟩
    exact⟨this,bK this λ_=>by cases b<;>rfl⟩
section
open PySem.SeqAt
open PySem.AutoSeq1 (wpAny_loadPart')
open PySem.MeetsSeq PySem.MeetsSeq2 PySem.MeetsSeq3
theorem yi(A:aD)(s:Shared)(a:Int)(t:Tok)(c:Int)(u:Tok)(prog:aE)(w:World)(E:aB)(Q:aB)(h:Q (.bool (decide (a ≥ c))) s):wpAny (model prog w) A (richCompare .GtE (.int a t) (.int c u)) Q E s :=
 (PyProof.Rows.ge_int h:wpAny (model prog w) A (compareOp .GtE (.int a t) (.int c u)) Q E s)
theorem Cn{vs ws:ak}{ms:aa}{m n:Nat}(h1:IntsAre vs ns)(h2:IntsAre ws ms)(hz:vs.zip ws=[])(hl:ns.length+n=ms.length+m):(!HT.lexLt ns ms)=decide (m ≥ n):=by
 cases h1 with
 |nil=>cases h2 with
  |nil=>simp only[List.length_nil]at hl;exact(YR (by left)).symm
  |cons c u h=>simp only[List.length_nil,List.length_cons]at hl;exact(Yt (by left)).symm
 |cons a t h=>cases h2 with
  |nil=>simp only[List.length_nil,List.length_cons]at hl;exact(YR (by left)).symm
  |cons c u h=>rw[List.zip_cons_cons]at hz;cases hz
theorem mj(l b:Addr)(items cG:aP)(n n2:Nat)(dd ve:Option Addr)(sl uj:Array (Option Value))(ns ms:aa)(hi:IntsAre items.toList ns)(hj:IntsAre cG.toList ms):
  Meets (Builtin.«tuple.__ge__» ⟨[.ref l,.ref b],[]⟩) (λ_ R s=>s.heap.get? l=some { cls:=.type "tuple",dict:=dd,data:=.seq items n,slots:=sl }/\s.heap.get? b=some { cls:=.type "tuple",dict:=ve,data:=.seq cG n2,slots:=uj }/\R (.ok (.ret (.bool (!HT.lexLt ns ms)))) s) :=
 .of_wp λprog w A R s h=>by
  obtain⟨hp,g,d,tk,os⟩:=s;obtain⟨hl,hb,h⟩:=h;have f2:=AutoSeq1.sub_tuple_tuple;have z1:items.size=ns.length:=by rw[<- hi.length];simp
  have z2:cG.size=ms.length:=by rw[<- hj.length];simp
  wp_walk using wpAny_loadPart' hl,wpAny_loadPart' hb,wpAny_forIn_list _ (λrest b s'=>b.1=none/\s'=⟨hp,g,d,tk,os⟩/\∃(vs ws:ak) (jq xc:aa),rest=vs.zip ws/\IntsAre vs jq/\IntsAre ws xc/\jq.length+cG.size=xc.length+items.size/\R (.ok (.ret (.bool (!HT.lexLt jq xc)))) ⟨hp,g,d,tk,os⟩) _
  case turn =>
   rintro ⟨y,x⟩ rest b s' ⟨uP,rfl,vs,ws,jq,xc,hz,He,En,hlen,hR⟩;cases He with
   |nil=>rw[List.zip_nil_left]at hz;cases hz
   |cons a t hvi'=>cases En with
    |nil=>rw[List.zip_nil_right]at hz;cases hz
    |cons c u hwi' =>
     rw[List.zip_cons_cons]at hz;injection hz with QE zm
     injection QE with hy hx
     subst hy hx;rw[HT.cQ]at hR;simp only[List.length_cons]at hlen;obtain⟨e,he,zw⟩:=HT.rn A.in1 ⟨hp,g,d,tk,os⟩ a t c u;refine X4 (he prog w _ _ ?_);cases e with
     |true =>
      rw[if_pos (zw.mp rfl)]at hR
      wp_walk
      exact⟨rfl,rfl,_,_,_,_,zm,hvi',hwi',by left,hR⟩
     |false =>
      have zr:¬ a=c:=λq=>absurd (zw.mpr q) X7;rw[if_neg zr,show(!decide (a<c))=decide (a ≥ c) by by_cases q:a<c<;>simp[q]<;>left]at hR;have QO:=yi A.in1 ⟨hp,g,d,tk,os⟩ a t c u prog w
      wp_walk using QO
      exact⟨_,rfl,by simpa using hR⟩
  case fin =>
   rintro ⟨b1,b2⟩ s' ⟨uP,rfl,vs,ws,jq,xc,hz,He,En,hlen,hR⟩;simp only at uP;subst uP;rw[Cn He En hz.symm hlen]at hR
   wp_walk
   exact⟨_,rfl,by simpa [Builtin.Tuple.tupleCompareSizes]using hR⟩
  case h=>exact⟨rfl,rfl,items.toList,cG.toList,ns,ms,rfl,hi,hj,by left,h⟩
end
def Kx(K:ao):R2:=λx y H Q=>∃a b ns ms,x=.ref a/\y=.ref b/\aU K H a (ns.map V.int)/\aU K H b (ms.map V.int)/\Q (.bl (!HT.lexLt ns ms)) H
theorem yC(hu:X.A.units<cLine):gY X (compareOp .GtE) (Kx X.K):=by
 intro pins s σ H x y v u Q I rx ry h;obtain⟨a,b,ns,ms,rfl,rfl,ha,hb,q⟩:=h;cases rx;cases ry;obtain⟨aF,r1,⟨⟨cls,dd,data,sl⟩,ho,hc,n,hd⟩,_⟩:=I.tuple ha;obtain⟨sV,r2,⟨⟨Dj,ve,data2,uj⟩,oT,hc2,n2,hd2⟩,_⟩:=I.tuple hb;simp only at hc hd hc2 hd2;subst hc hd hc2 hd2;exact richCompare_meets_room (op:=.GtE) ⟨_,ho,rfl⟩ ⟨_,oT,rfl⟩ PySem.F.slot_tuple_ge PySem.F.entry_tuple_ge (PySem.F.args_tuple_ge_2 _ _) (mj a b aF.toArray sV.toArray n n2 dd ve sl uj ns ms (intsAre_of r1) (intsAre_of r2))
  ⟨ho,oT,show Value.bool (!HT.lexLt ns ms)≠Value.notImplemented/\EP X pins σ Q (.bool (!HT.lexLt ns ms)) s from⟨(λx=>nomatch x),⟨.bl _,H,I,rfl,q⟩⟩⟩ hu
def Js(xs:ab):O D:=match two xs with
 |some z=>match z.1 with
  |.tup a=>match z.2 with
   |.tup b=>match intsOf a with
    |some ns=>match intsOf b with
     |some ms=>ok (.bl (!HT.lexLt ns ms))
     |none=>none
    |none=>none
   |_=>none
  |_=>none
 |none=>none
set_option tactic.hygienic true in
theorem HA{x y d:D}(h:Js [x,y]=ok d):∃ns ms:aa,x=.tup (ns.map D.int)/\y=.tup (ms.map D.int)/\d=.bl (!HT.lexLt ns ms):=by
 cases x<;>first|exact nk h | (cases h;done) | (cases y<;>first|exact nk h | (cases h;done)|skip)
 rename_i a b;have h:(match intsOf a with|some ns=>(match intsOf b with|some ms=>ok (D.bl (!HT.lexLt ns ms))|none=>none)|none=>none)=ok d:=h;cases h1:intsOf a with
 |none=>rw[h1]at h;exact nk h
 |some ns=>cases h2:intsOf b with
  |none=>rw[h1,h2]at h;cases h
  |some ms =>
   rw[h1,h2]at h;cases h;exact⟨ns,ms,by rw[cV h1],by rw[cV h2],rfl⟩
def Ar(_:Scope)(_:af)(e:Expr):Option (ai):=(vI e).bind λz=>(one z.2.2).bind λr=>if z.2.1=[.GtE]then some [z.1,r]else none
theorem Aq{sc:Scope}{bl:af}{e:Expr}(h:Ar sc bl e=some args):∃l r p,e=.Compare l [.GtE] [r] p/\args=[l,r]:=by
 obtain⟨⟨l,os,rs⟩,hv,h⟩:=bT h;obtain⟨r,hw,h⟩:=bT h;obtain⟨hc,h⟩:=gT h;cases h;obtain rfl:=hc;obtain⟨p,rfl⟩:=ki hv;obtain rfl:=bP hw;exact⟨l,r,p,rfl,rfl⟩
theorem MD{n:Nat}(hΦ:Φ n=Js){sc:Scope}{bl:af}{k:Nat}(L:PX X sc bl k){e:Expr}(he:Ar sc bl e=some args)(hs:iF X F Φ cs args):PE X e (tD X F Φ (.bq n cs))/\PT X e (dN X F Φ (.bq n cs)):=by
 obtain⟨l,r,p,rfl,rfl⟩:=Aq he;have hu:X.A.units<cLine:=by have:=L.room.units;left
 cases cs with
 |nil=>exact hs.elim
 |cons c cs=>cases cs with
  |nil=>exact hs.2.2.2.elim
  |cons c' cs=>cases cs with
   |cons _ _=>exact hs.2.2.2.2.2.2.elim
   |nil =>
    obtain⟨h1,_,_,h2,_,_,_⟩:=hs;have key:∀{σ:St} {H:Hp} {R:ah} {τ:Addr->Option aZ} {ρ:aX} {d:D} {Q:VK},SI X F R τ ρ σ H->bj Φ (.bq n [c,c']) ρ=ok d->(∀b H2,d=.bl b->aG H H2->Q (.bl b) H2)->AO (Kx X.K) (tD X F Φ c) (tD X F Φ c') σ H Q:=by
     intro σ H R τ ρ d Q Si ev hq;obtain⟨xs,bt,ev⟩:=aq ev;obtain⟨x,ex,bt⟩:=aq bt;obtain⟨ys,eO,bt⟩:=aq bt;cases bt;obtain⟨y,ey,eO⟩:=aq eO;cases eO;rw[hΦ]at ev;obtain⟨ns,ms,rfl,rfl,rfl⟩:=HA ev;refine tD.intro Si ex λv H1 e1 r1=>tD.intro (Si.go e1) ey λu H2 e2 r2=>?_;obtain⟨_,_,p1⟩:=r1.go e2;obtain⟨_,_,p2⟩:=r2;cases p1 with
     |tup t1 s1=>cases p2 with
      |tup t2 s2 =>
       cases s1.ofInts;cases s2.ofInts;exact⟨_,_,ns,ms,rfl,rfl,t1,t2,hq _ H2 rfl (e1.trans e2)⟩
    refine⟨PE.imp (kz (yC hu) h1 h2 (yK _)) λσ H Q hq=>?_,PT.imp (ku (yC hu) h1 h2 (yK _)) λσ H Q hq=>?_⟩
    ·obtain⟨R,τ,ρ,d,Si,ev,hq⟩:=hq;exact key Si ev λb H2 e es=>hq _ H2 es (by subst e;exact .bl)
    ·obtain⟨R,τ,ρ,b,Si,ev,hq⟩:=hq;obtain⟨d,ed,et⟩:=aq ev;refine key Si ed λb' H2 e es=>?_;subst e;cases et;exact⟨_,rfl,hq H2 es⟩
abbrev pJ(h:Heap)(z TI TO a:Addr)(f:Bool):Prop :=
 h.get? z=some { cls:=.type "zip",dict:=none,data:=.fields #[rawInt a,.bool f,.bool false,.ref TI,.ref TO],slots:=#[] }
variable {oa:Obj}{ys:aP}
section
variable {prog:aE}{w:World}{A:aD}{E:aB}{s:Shared}
theorem xq{a:Addr}{o:Obj}{Q:Option Obj->Shared->Prop}(ho:s.heap.get? a=some o)(h:Q (some o) s):wpAny (model prog w) A (loadIfAlive a) Q E s:=by
 have h':Q (s.heap.get? a) s:=by rw[ho];exact h
 exact λ_ _ _=>h'
theorem t4{z TI TO a:Addr}{f:Bool}{Q:Bool->Shared->Prop}(hz:pJ s.heap z TI TO a f)(ha:s.heap.get? a=some oa)(hQ:∀h',pJ h' z TI TO a true->Heap.SameBut z s.heap h'->Q false { s with heap:=h' }):
  wpAny (model prog w) A (Builtin.SmallTypes.ownedTupleIsFree (.ref z)) Q E s:=by
 unfold Builtin.SmallTypes.ownedTupleIsFree;refine X4 (Y7 hz rfl (x:=rawInt a) rfl ?_);show wpAny _ _ (loadIfAlive ((a:Int).toNat) >>= _) _ _ _;rw[Int.toNat_natCast];refine X4 (xq ha ?_);simp only[Option.isNone_some,Bool.false_eq_true,if_false];refine X4 (Y7 hz rfl (x:=.bool f) rfl ?_);cases f with
 |true =>
  rw[if_neg (show ¬ ((Value.bool true != Value.bool true)=true) from Bool.false_ne_true)];exact X6 (hQ s.heap hz (Heap.SameBut.refl _ _))
 |false =>
  rw[if_pos (show(Value.bool false != Value.bool true)=true from rfl)];exact X4 (wpAny_setField_rec hz (by simp) λh₃ LZ jV=>X6 (hQ h₃ LZ jV))
theorem pS{z TI TO a:Addr}{f:Bool}{xs:aP}{x y:Value}{Q:aB}(D:ZipApart z TI TO i1 i2 l1 l2)
  (hz:pJ s.heap z TI TO a f) (ha:s.heap.get? a=some oa) (AW:IsPair s.heap TI (.ref i1) (.ref i2))
  (h1:s.heap.IsListIter i1 l1 k1) (h2:s.heap.IsListIter i2 l2 k2) (AV:s.heap.IsList l1 xs) (uL:s.heap.IsList l2 ys) (hx:xs[k1]?=some x) (hy:ys[k2]?=some y)
  (hQ:∀h',pJ h' z TI TO a true->h'.IsListIter i1 l1 (k1+1)->h'.IsListIter i2 l2 (k2+1)->IsPair h' s.heap.objs.size x y->h'.objs.size=s.heap.objs.size+1 ->
   (∀c o,c≠z->c≠i1->c≠i2->s.heap.get? c=some o->h'.get? c=some o)->Q (.ref s.heap.objs.size) { s with heap:=h' }) :
  wpAny (model prog w) A (Builtin.«zip.__next__» ⟨[.ref z],[]⟩) (λfin s'=>∃v,fin=.done (.ret v)/\Q v s') E s:=by
 show wpAny _ _ (field (.ref z) 2 >>= _) _ _ _;refine X4 (Y7 hz rfl (x:=.bool false) rfl ?_);show wpAny _ _ (field (.ref z) 3 >>= _) _ _ _;refine X4 (Y7 hz rfl (x:=.ref TI) rfl ?_);refine X4 (wpAny_seqItems AW rfl ?_);show wpAny _ _ (Builtin.SmallTypes.ownedTupleIsFree (.ref z) >>= _) _ _ _;refine X4 (t4 hz ha λh₁ Em eB=>?_);simp only[Bool.false_eq_true,if_false];refine X4 ?_;rw[<- Array.forIn_toList];simp only[List.forIn_cons,List.forIn_nil];refine X4 (X4 (Yx ?_));show wpAny _ _ (Builtin.SmallTypes.nextOf (.ref i1) >>= _) _ _ _;refine X4 (Zp (h1.extBut eB.extBut D.i1z) (AV.extBut eB.extBut D.l1z) hx λh₂ Es gC=>X6 ?_);refine X6 ?_;refine X4 (X4 (Yx ?_));show wpAny _ _ (Builtin.SmallTypes.nextOf (.ref i2) >>= _) _ _ _;refine X4 (Zp ((h2.extBut eB.extBut D.i2z).extBut gC.extBut D.i12.symm) ((uL.extBut eB.extBut D.l2z).extBut gC.extBut D.l2i1) hy λh₃ Mi jV=>X6 ?_);refine X6 ?_;refine X6 ?_;have hsz:h₃.objs.size=s.heap.objs.size:=by rw[jV.1,gC.1,eB.1]
 refine X4 (wpAny_newTuple ?_ (by show 2<=_;rw[sizeLine_eq];decide));refine X6 ⟨_,rfl,?_⟩;show Q (.ref h₃.objs.size) _;have fj:∀{c o},h₃.get? c=some o->c≠h₃.objs.size:=λe=>Yf (Ya e);have hk:∀c o,c≠z->c≠i1->c≠i2->s.heap.get? c=some o->(h₃.push { cls:=.type "tuple",data:=.seq #[x,y] }).get? c=some o:=λc o c1 c2 c3 e=>X8 _ (jV.extBut _ _ c3 (gC.extBut _ _ c2 (eB.extBut _ _ c1 e)));rw[hsz];refine hQ _ (X8 _ (jV.extBut _ _ D.i2z.symm (gC.extBut _ _ D.i1z.symm Em))) ((Es.extBut jV.extBut D.i12).at λo e=>X8 _ e) (Mi.at λo e=>X8 _ e) ?_ (by rw[Heap.size_push,hsz]) hk;rw[<- hsz];exact Yd _ rfl
theorem r_{z TI TO a:Addr}{f:Bool}{xs:aP}{Q:Fin->Shared->Prop}(hh:A.handled=none)(D:ZipApart z TI TO i1 i2 l1 l2)
  (hz:pJ s.heap z TI TO a f) (ha:s.heap.get? a=some oa) (AW:IsPair s.heap TI (.ref i1) (.ref i2))
  (h1:s.heap.IsListIter i1 l1 k1) (h2:s.heap.IsListIter i2 l2 k2) (AV:s.heap.IsList l1 xs) (uL:s.heap.IsList l2 ys) (qU:xs[k1]?=none\/ys[k2]?=none)
  (hE:∀h' e,(∀c o,c≠z->c≠i1->c≠i2->s.heap.get? c=some o->h'.get? c=some o)->(∃o,h'.get? e=some o/\o.cls=.type "StopIteration")->E (.ref e) { s with heap:=h' }) :
  wpAny (model prog w) A (Builtin.«zip.__next__» ⟨[.ref z],[]⟩) Q E s:=by
 show wpAny _ _ (field (.ref z) 2 >>= _) _ _ _;refine X4 (Y7 hz rfl (x:=.bool false) rfl ?_);show wpAny _ _ (field (.ref z) 3 >>= _) _ _ _;refine X4 (Y7 hz rfl (x:=.ref TI) rfl ?_);refine X4 (wpAny_seqItems AW rfl ?_);show wpAny _ _ (Builtin.SmallTypes.ownedTupleIsFree (.ref z) >>= _) _ _ _;refine X4 (t4 hz ha λh₁ Em eB=>?_);simp only[Bool.false_eq_true,if_false];refine X4 ?_;rw[<- Array.forIn_toList];simp only[List.forIn_cons,List.forIn_nil];refine X4 (X4 (Yx ?_));show wpAny _ _ (Builtin.SmallTypes.nextOf (.ref i1) >>= _) _ _ _;cases hx:xs[k1]? with
 |none =>
  refine X4 (wpAny_nextOf_list_end hh (h1.extBut eB.extBut D.i1z) (AV.extBut eB.extBut D.l1z) hx λh₂ e gC he=>?_);exact hE h₂ e (λc o c1 c2 c3 x=>gC _ _ c2 (eB.extBut _ _ c1 x)) he
 |some x =>
  have hy:ys[k2]?=none:=by rcases qU with h|h;rw[hx]at h;cases h;exact h
  refine X4 (Zp (h1.extBut eB.extBut D.i1z) (AV.extBut eB.extBut D.l1z) hx λh₂ Es gC=>X6 ?_);refine X6 ?_;refine X4 (X4 (Yx ?_));show wpAny _ _ (Builtin.SmallTypes.nextOf (.ref i2) >>= _) _ _ _;refine X4 (wpAny_nextOf_list_end hh ((h2.extBut eB.extBut D.i2z).extBut gC.extBut D.i12.symm) ((uL.extBut eB.extBut D.l2z).extBut gC.extBut D.l2i1) hy λh₃ e jV he=>?_);exact hE h₃ e (λc o c1 c2 c3 x=>jV _ _ c3 (gC.extBut _ _ c2 (eB.extBut _ _ c1 x))) he
theorem kP{z TI TO a:Addr}{f:Bool}{xs:aP}{x y:Value}{Q:Option Value->Shared->Prop}(D:ZipApart z TI TO i1 i2 l1 l2)
  (hz:pJ s.heap z TI TO a f) (ha:s.heap.get? a=some oa) (AW:IsPair s.heap TI (.ref i1) (.ref i2))
  (h1:s.heap.IsListIter i1 l1 k1) (h2:s.heap.IsListIter i2 l2 k2) (AV:s.heap.IsList l1 xs) (uL:s.heap.IsList l2 ys) (hx:xs[k1]?=some x) (hy:ys[k2]?=some y)
  (hQ:∀h',pJ h' z TI TO a true->h'.IsListIter i1 l1 (k1+1)->h'.IsListIter i2 l2 (k2+1)->IsPair h' s.heap.objs.size x y->h'.objs.size=s.heap.objs.size+1 ->
   (∀c o,c≠z->c≠i1->c≠i2->s.heap.get? c=some o->h'.get? c=some o)->Q (some (.ref s.heap.objs.size)) { s with heap:=h' }) :
  wpAny (model prog w) A (pyNext (.ref z)) Q E s:=by
 have hT:s.TypeIs (.ref z) "zip":=⟨_,hz,rfl⟩
 unfold pyNext;exact X4 (Y6 (YD (name:=Str.ofString "__next__") hT Y4
  (Yz Y4 hT PySem.F.entry_zip_next
   (pS D hz ha AW h1 h2 AV uL hx hy λh' a1 a2 a3 a4 a5 a6=>X6 (hQ h' a1 a2 a3 a4 a5 a6)) (PySem.F.args_zip_next_1 _))))
theorem me{z TI TO a:Addr}{f:Bool}{xs:aP}{Q:Option Value->Shared->Prop}(hh:A.handled=none)(D:ZipApart z TI TO i1 i2 l1 l2)
  (hz:pJ s.heap z TI TO a f) (ha:s.heap.get? a=some oa) (AW:IsPair s.heap TI (.ref i1) (.ref i2))
  (h1:s.heap.IsListIter i1 l1 k1) (h2:s.heap.IsListIter i2 l2 k2) (AV:s.heap.IsList l1 xs) (uL:s.heap.IsList l2 ys) (qU:xs[k1]?=none\/ys[k2]?=none)
  (hQ:∀h',(∀c o,c≠z->c≠i1->c≠i2->s.heap.get? c=some o->h'.get? c=some o)->Q none { s with heap:=h' }):wpAny (model prog w) A (pyNext (.ref z)) Q E s:=by
 have hT:s.TypeIs (.ref z) "zip":=⟨_,hz,rfl⟩
 unfold pyNext;refine X4 (Y6 (YD (name:=Str.ofString "__next__") hT Y4
  (Yz Y4 hT PySem.F.entry_zip_next (r_ hh D hz ha AW h1 h2 AV uL qU λh' e hk he=>?_) (PySem.F.args_zip_next_1 _))))
 obtain⟨o,ho,hc⟩:=he;refine X4 (wpAny_isInstance (T:="StopIteration") (b:=true) ⟨o,ho,hc⟩ isSubtype_stop ?_);exact X6 (hQ _ hk)
end
theorem EO:typeLookup (.type "zip") "__len__" = pure none:=by rw[typeLookup_type,builtinLookup_eq_fast];kernel_rfl
theorem JE:typeLookup (.type "zip") "__length_hint__" = pure none:=by rw[typeLookup_type,builtinLookup_eq_fast];kernel_rfl
section
variable {prog:aE}{w:World}{A:aD}{E:aB}{s:Shared}
theorem A1{z:Addr}(hT:s.TypeIs (.ref z) "zip"){Q:Bool->Shared->Prop}(h:Q true s):wpAny (model prog w) A (Builtin.List.listLengthHint (.ref z)) Q E s:=by
 unfold Builtin.List.listLengthHint;refine X4 (wpAny_specialOf hT EO ?_);refine wpAny_ite_split (λtm=>absurd tm (by decide)) (λ_=>?_);refine wpAny_ite_split (λtm=>absurd tm (by decide)) (λ_=>?_);refine X4 (wpAny_specialOf hT JE ?_);exact X6 h
end
structure Zl(h:Heap)(z TI TO i1 i2 l1 l2 S:Addr)(xs ys:aP)(i:Nat):Prop where
 st:(IsZip h z TI TO .none/\∃a b,IsPair h TO a b)\/∃a f oa,pJ h z TI TO a f/\h.get? a=some oa/\S<a
 ti:IsPair h TI (.ref i1) (.ref i2)
 w1:h.IsListIter i1 l1 i
 w2:h.IsListIter i2 l2 i
 q1:h.IsList l1 xs
 q2:h.IsList l2 ys
structure Below(z TI TO i1 i2 l1 l2 S:Addr):Prop where
 D:ZipApart z TI TO i1 i2 l1 l2
 z:z<S
 TI:TI<S
 TO:TO<S
 i1:i1<S
 i2:i2<S
 l1:l1<S
 l2:l2<S
section
variable {prog:aE}{w:World}{A:aD}{E:aB}{s:Shared}{z TI TO i1 i2 l1 l2 S:Addr}{xs ys:aP}{i:Nat}
theorem Zl.keep{h:Heap}(B:Below z TI TO i1 i2 l1 l2 S)(Z:Zl h z TI TO i1 i2 l1 l2 S xs ys i)(hk:∀b o,b≠S->h.get? b=some o->h'.get? b=some o):Zl h' z TI TO i1 i2 l1 l2 S xs ys i:=by
 have n:∀{b},b<S->b≠S:=λh=>Yf h;refine⟨?_,hk _ _ (n B.TI) Z.ti,Z.w1.at λo e=>hk _ o (n B.i1) e,Z.w2.at λo e=>hk _ o (n B.i2) e,Z.q1.at λo e=>hk _ o (n B.l1) e,Z.q2.at λo e=>hk _ o (n B.l2) e⟩;rcases Z.st with ⟨h1,a,b,h2⟩|⟨a,f,oa,h1,h2,h3⟩
 ·exact .inl ⟨hk _ _ (n B.z) h1,a,b,hk _ _ (n B.TO) h2⟩
 ·exact .inr ⟨a,f,oa,hk _ _ (n B.z) h1,hk _ _ (Yj h3) h2,h3⟩
theorem AY{x y:Value}{Q:Option Value->Shared->Prop}(B:Below z TI TO i1 i2 l1 l2 S)(Z:Zl s.heap z TI TO i1 i2 l1 l2 S xs ys i)(hS:S<s.heap.objs.size)(hx:xs[i]?=some x)(hy:ys[i]?=some y)
  (hQ:∀h',Zl h' z TI TO i1 i2 l1 l2 S xs ys (i+1)->IsPair h' s.heap.objs.size x y->h'.objs.size=s.heap.objs.size+1->(∀c o,c≠z->c≠TO->c≠i1->c≠i2->s.heap.get? c=some o->h'.get? c=some o)->Q (some (.ref s.heap.objs.size)) { s with heap:=h' }) :
  wpAny (model prog w) A (pyNext (.ref z)) Q E s:=by
 have D:=B.D;rcases Z.st with ⟨hz,a,b,Jq⟩|⟨a,f,oa,hz,ha,hSa⟩
 ·refine wpAny_pyNext_zip_item D hz Z.ti Jq Z.w1 Z.w2 Z.q1 Z.q2 hx hy λh' z1 o1 a1 b1 t1 Nz k1=>hQ h' ?_ t1 Nz k1;exact⟨.inr ⟨s.heap.objs.size,false,_,z1,t1,hS⟩,k1 _ _ D.TIz D.TITO D.TIi1 D.TIi2 Z.ti,a1,b1,Z.q1.at λo e=>k1 _ o D.l1z D.l1TO D.l1i1 D.l1i2 e,Z.q2.at λo e=>k1 _ o D.l2z D.l2TO D.l2i1 D.l2i2 e⟩
 ·refine kP D hz ha Z.ti Z.w1 Z.w2 Z.q1 Z.q2 hx hy λh' z1 a1 b1 t1 Nz k1=>hQ h' ?_ t1 Nz λc o c1 _ c3 c4 e=>k1 c o c1 c3 c4 e;have n:∀{b},b<S->a≠b:=λh=>Yj (Y5 h hSa);exact⟨.inr ⟨a,true,oa,z1,k1 _ _ (n B.z) (n B.i1) (n B.i2) ha,hSa⟩,k1 _ _ D.TIz D.TIi1 D.TIi2 Z.ti,a1,b1,Z.q1.at λo e=>k1 _ o D.l1z D.l1i1 D.l1i2 e,Z.q2.at λo e=>k1 _ o D.l2z D.l2i1 D.l2i2 e⟩
theorem A2{Q:Option Value->Shared->Prop}(hh:A.handled=none)(B:Below z TI TO i1 i2 l1 l2 S)(Z:Zl s.heap z TI TO i1 i2 l1 l2 S xs ys i)(qU:xs[i]?=none\/ys[i]?=none)
  (hQ:∀h',(∀c o,c≠z->c≠TO->c≠i1->c≠i2->s.heap.get? c=some o->h'.get? c=some o)->Q none { s with heap:=h' }):wpAny (model prog w) A (pyNext (.ref z)) Q E s:=by
 have D:=B.D;rcases Z.st with ⟨hz,a,b,Jq⟩|⟨a,f,oa,hz,ha,hSa⟩
 ·exact wpAny_pyNext_zip_end hh D hz Z.ti Jq Z.w1 Z.w2 Z.q1 Z.q2 qU hQ
 ·exact me hh D hz ha Z.ti Z.w1 Z.w2 Z.q1 Z.q2 qU λh' k=>hQ h' λc o c1 _ c3 c4 e=>k c o c1 c3 c4 e
end
structure M_(xs ys:aP)(lo:Addr)(h:Heap)(as:aW):Prop where
 above:∀a∈as,lo<a
 nd:as.Nodup
 pairs:∀(j:Nat) (a:Addr),as[j]?=some a->∃x y,xs[j]?=some x/\ys[j]?=some y/\IsPair h a x y
section
variable {prog:aE}{w:World}{A:aD}{s:Shared}{R:Result->Shared->Prop}{z TI TO i1 i2 l1 l2 S:Addr}{xs ys:aP}
theorem AX(hh:A.handled=none)(B:Below z TI TO i1 i2 l1 l2 S)(hn:min xs.size ys.size<=sizeLine)(res:Value) 
  (hR:∀h' tk acc c as,(∀b o,b≠S->b≠z->b≠TO->b≠i1->b≠i2->h₁.get? b=some o->h'.get? b=some o)->h'.get? S=some { cls:=.type "list",dict:=none,data:=.seq acc c,slots:=#[] }->as.length=min xs.size ys.size->M_ xs ys S h' as ->
   acc.toList=as.map Value.ref->R (.ok (.ret res)) { s with heap:=h',toks:=tk }) :
  ∀(k i:Nat) (h:Heap) (tk c:Nat) (acc:aP) (as:aW),min xs.size ys.size - i=k->i<=min xs.size ys.size->Zl h z TI TO i1 i2 l1 l2 S xs ys i->(∀b o,b≠S->b≠z->b≠TO->b≠i1->b≠i2->h₁.get? b=some o->h.get? b=some o) ->
   h.get? S=some { cls:=.type "list",dict:=none,data:=.seq acc c,slots:=#[] }->acc.toList=as.map Value.ref->as.length=i->M_ xs ys S h as ->
   codeAny (model prog w) A (.builtin "list.extend.loop" ⟨[.ref S,.ref z,res],[]⟩) R { s with heap:=h,toks:=tk }:=by
 have nz:S≠z:=Yj B.z;have nO:S≠TO:=Yj B.TO;have n1:S≠i1:=Yj B.i1;have n2:S≠i2:=Yj B.i2;have SU:∀{a:Addr},S<a->a≠z/\a≠TO/\a≠i1/\a≠i2:=λh=>⟨Yj (Y5 B.z h),Yj (Y5 B.TO h),Yj (Y5 B.i1 h),Yj (Y5 B.i2 h)⟩
 intro k;induction k with
 |zero =>
  intro i h tk c acc as hk hi Z zu hS fQ Ma hG;refine Y_ PySem.F.entry_extend_loop ?_;rw[Around.under_plainId PySem.F.plain_extend_loop _];show wpAny _ A.in1 (pyNext (.ref z) >>= _) _ _ _;have qU:xs[i]?=none\/ys[i]?=none:=by
   rcases Nat.le_total xs.size ys.size with q|q
   ·exact .inl (Array.getElem?_eq_none (by left))
   ·exact .inr (Array.getElem?_eq_none (by left))
  refine X4 (A2 (s:={ s with heap:=h,toks:=tk }) (A:=A.in1) hh B Z qU λh' he=>?_);refine X6 (hR h' tk acc c as (λb o h1 h2 h3 h4 h5 e=>he b o h2 h3 h4 h5 (zu b o h1 h2 h3 h4 h5 e)) (he S _ nz nO n1 n2 hS) (by left) ⟨hG.above,hG.nd,λj a hj=>?_⟩ fQ);obtain⟨x,y,e1,e2,e3⟩:=hG.pairs j a hj;obtain⟨a1,a2,a3,a4⟩:=SU (hG.above a (Yk hj));exact⟨x,y,e1,e2,he a _ a1 a2 a3 a4 e3⟩
 |succ k ih =>
  intro i h tk c acc as hk hi Z zu hS fQ Ma hG;have fj:i<min xs.size ys.size:=by left
  have hx:xs[i]?=some (xs[i]'(by left)):=YC _;have hy:ys[i]?=some (ys[i]'(by left)):=YC _;have hsz:acc.size=i:=by rw[<- Array.length_toList,fQ,List.length_map,Ma]
  have Rm:S<h.objs.size:=Ya hS;refine Y_ PySem.F.entry_extend_loop ?_;rw[Around.under_plainId PySem.F.plain_extend_loop _];show wpAny _ A.in1 (pyNext (.ref z) >>= _) _ _ _;refine X4 (AY (s:={ s with heap:=h,toks:=tk }) B Z Rm hx hy λh' Z' ht hz Jo=>?_);dsimp only at ht hz Jo ⊢;have wC:=Jo S _ nz nO n1 n2 hS;have up:∀b o,b≠S->h'.get? b=some o->(h'.update S (Obj.mapSeq (·.push (Value.ref h.objs.size)))).get? b=some o:=λb o hb e=>(YA _ _ (Zi hb)).trans e;show wpAny _ A.in1 (updateSeq S (·.push (Value.ref h.objs.size)) >>= _) _ _ _;refine X4 ?_;refine ZD wC rfl (X6 ⟨plainId_quiet PySem.F.plain_extend_loop _,ih (i+1) _ tk _ (acc.push (Value.ref h.objs.size)) (as++[h.objs.size]) (by left) fj (Z'.keep B up)
   (λb o h1 h2 h3 h4 h5 e=>up b o h1 (Jo b o h2 h3 h4 h5 (zu b o h1 h2 h3 h4 h5 e))) (YI _ wC rfl) (by rw[Array.toList_push,fQ,List.map_append];rfl) (by rw[List.length_append,Ma];rfl) ⟨?_,?_,?_⟩⟩) (by rw[hsz];left) (by show(acc.push (Value.ref h.objs.size)).size<=sizeLine+1;rw[Array.size_push,hsz];left)
  ·intro a ha;rcases List.mem_append.mp ha with ha|ha
   ·exact hG.above a ha
   ·rw[List.mem_singleton.mp ha];exact Rm
  ·refine List.nodup_append.mpr ⟨hG.nd,List.nodup_cons.mpr ⟨Zt,YX⟩,λa ha b hb e=>?_⟩;rw[List.mem_singleton.mp hb]at e;subst e;obtain⟨j,hj⟩:=List.mem_iff_getElem?.mp ha;obtain⟨_,_,_,_,e⟩:=hG.pairs j _ hj;exact absurd (Ya e) (Ym _)
  ·intro j b hj;rcases Nat.lt_trichotomy j as.length with q|q|q
   ·rw[List.getElem?_append_left q]at hj;obtain⟨x',y',e1,e2,e3⟩:=hG.pairs j b hj;have hb:=hG.above b (Yk hj);obtain⟨a1,a2,a3,a4⟩:=SU hb;exact⟨x',y',e1,e2,up b _ (Yj hb) (Jo b _ a1 a2 a3 a4 e3)⟩
   ·subst q;have hb:h.objs.size=b:=by simpa using hj
    subst hb;exact⟨_,_,by rw[Ma];exact hx,by rw[Ma];exact hy,up _ _ (Yj Rm) ht⟩
   ·have LQ:(as++[h.objs.size])[j]?=none:=List.getElem?_eq_none (by rw[List.length_append,List.length_singleton];left);rw[LQ]at hj;exact nk hj
theorem vG(hh:A.handled=none)(B:Below z TI TO i1 i2 l1 l2 S)(hn:min xs.size ys.size<=sizeLine)(Z:Zl s.heap z TI TO i1 i2 l1 l2 S xs ys 0)(Ji:IsZip s.heap z TI TO .none)(res:Value)(c₀:Nat)(hS:s.heap.get? S=some { cls:=.type "list",data:=.seq #[] c₀ })
  (hR:∀h' tk acc c as,(∀b o,b≠S->b≠z->b≠TO->b≠i1->b≠i2->s.heap.get? b=some o->h'.get? b=some o)->h'.get? S=some { cls:=.type "list",dict:=none,data:=.seq acc c,slots:=#[] }->as.length=min xs.size ys.size->M_ xs ys S h' as ->
   acc.toList=as.map Value.ref->R (.ok (.ret res)) { s with heap:=h',toks:=tk }) :
  wpAny (model prog w) A.in1 (Builtin.List.listExtendWith (.ref S) (.ref z) res)
   (λfin s'=>match fin with|.done f=>R (.ok f) s'|.again c'=>c'.quiet=true/\codeAny (model prog w) A c' R s') (λe s'=>R (.error e) s') s:=by
 have WK:S≠z:=Yj B.z;have hT:s.TypeIs (.ref z) "zip":=⟨_,Ji,rfl⟩
 unfold Builtin.List.listExtendWith;refine X4 (wpAny_typeOf (T:="zip") hT ?_);have h1:Builtin.List.listSameRef (.ref S) (.ref z)=false:=by simp[Builtin.List.listSameRef,WK]
 have h2:(Value.type "zip" == Value.type "list")=false:=by decide
 have h3:(Value.type "zip" == Value.type "tuple")=false:=by decide
 simp only[h1,h2,h3,Bool.or_false,Bool.false_eq_true,if_false];refine X4 (wpAny_pyIter_zip Ji ?_);refine X4 (Yx (A1 hT ?_));refine wpAny_ite_split (λ_=>?_) (λtm=>absurd rfl tm);refine X4 (wpAny_rule ?_);refine X4 ?_;show wpAny _ _ (updateSeq S (·.push .none) >>= λ_=>updateSeq S (·.pop)) _ _ _;refine X4 (ZD hS rfl ?_);have uQ:=YI (Obj.mapSeq (·.push Value.none)) hS rfl;refine ZD (hz:=by seq_fits) uQ rfl ?_;have Md:=YI (Obj.mapSeq (·.pop)) uQ rfl;have I9:∀b o,b≠S->s.heap.get? b=some o->((s.heap.update S (Obj.mapSeq (·.push Value.none))).update S (Obj.mapSeq (·.pop))).get? b=some o:=λb o hb e=>(YA _ _ (Zi hb)).trans ((YA _ _ (Zi hb)).trans e);refine X6 ⟨plainId_quiet PySem.F.plain_extend_loop _,?_⟩;exact AX hh B hn res (s:=s) (h₁:=s.heap) hR (min xs.size ys.size) 0 _ s.toks _ #[] [] (Nat.sub_zero _) (Yy _) (Z.keep B I9) (λb o h1 _ _ _ _ e=>I9 b o h1 e) Md rfl rfl ⟨(λ_ ha=>nomatch ha),YX,λj a hj=>by simp at hj⟩
theorem AZ(hh:A.handled=none)(B:Below z TI TO i1 i2 l1 l2 S)(hn:min xs.size ys.size<=sizeLine)(Z:Zl s.heap z TI TO i1 i2 l1 l2 S xs ys 0)(Ji:IsZip s.heap z TI TO .none)(hS:s.heap.get? S=some { cls:=.type "list",data:=.seq #[] })
  (hR:∀h' tk acc c as,(∀b o,b≠S->b≠z->b≠TO->b≠i1->b≠i2->s.heap.get? b=some o->h'.get? b=some o)->h'.get? S=some { cls:=.type "list",dict:=none,data:=.seq acc c,slots:=#[] }->as.length=min xs.size ys.size->M_ xs ys S h' as ->
   acc.toList=as.map Value.ref->R (.ok (.ret .none)) { s with heap:=h',toks:=tk }) :
  wpAny (model prog w) A.in1 (Builtin.«list.__init__» ⟨[.ref S,.ref z],[]⟩)
   (λfin s'=>match fin with|.done f=>R (.ok f) s'|.again c'=>c'.quiet=true/\codeAny (model prog w) A c' R s') (λe s'=>R (.error e) s') s:=by
 show wpAny _ _ (do let old <- Builtin.List.listItems (.ref S);Builtin.List.listUpdate (.ref S) (λ_=>#[]);letGo old.toList.reverse;Builtin.List.listExtendWith (.ref S) (.ref z) .none) _ _ s;refine X4 ?_;unfold Builtin.List.listItems;refine X4 (wpAny_seqItems hS rfl (X6 ?_));show wpAny _ _ (updateSeq S (λ_=>#[]) >>= λ_=>letGo (#[]:aP).toList.reverse >>= λ_=>Builtin.List.listExtendWith (.ref S) (.ref z) .none) _ _ s;refine X4 (ZD hS rfl ?_);have uQ:=YI (Obj.mapSeq (λ_=>(#[]:aP))) hS rfl;have I9:∀b o,b≠S->s.heap.get? b=some o->(s.heap.update S (Obj.mapSeq (λ_=>(#[]:aP)))).get? b=some o :=
  λb o hb e=>(YA _ _ (Zi hb)).trans e
 refine X4 (wpAny_letGo ?_);refine vG hh B hn (Z.keep B I9) (I9 _ _ (Yf B.z) Ji) .none _ uQ λh' tk acc c as hk wC hl hG fQ=>?_;exact hR h' tk acc c as (λb o h1 h2 h3 h4 h5 e=>hk b o h1 h2 h3 h4 h5 (I9 b o h1 e)) wC hl hG fQ
end
section
variable {prog:aE}{w:World}{A:aD}{E:aB}{s:Shared}{z TI TO i1 i2 l1 l2:Addr}{xs ys:aP}
theorem A3{Q:aB}(hh:A.handled=none)(D:ZipApart z TI TO i1 i2 l1 l2)(hn:min xs.size ys.size<=sizeLine)(hz:IsZip s.heap z TI TO .none)(AW:IsPair s.heap TI (.ref i1) (.ref i2)){a b:Value}(Jq:IsPair s.heap TO a b)(h1:s.heap.IsListIter i1 l1 0)(h2:s.heap.IsListIter i2 l2 0)(q1:s.heap.IsList l1 xs)(q2:s.heap.IsList l2 ys)
  (hQ:∀h' tk acc c as,(∀b o,b≠z->b≠TO->b≠i1->b≠i2->s.heap.get? b=some o->h'.get? b=some o)->h'.get? s.heap.objs.size=some { cls:=.type "list",dict:=none,data:=.seq acc c,slots:=#[] }->as.length=min xs.size ys.size->M_ xs ys s.heap.objs.size h' as ->
   acc.toList=as.map Value.ref->Q (.ref s.heap.objs.size) { s with heap:=h',toks:=tk }) :
  wpAny (model prog w) A (call (.type "list") [.ref z]) Q E s:=by
 refine callType_codes (Q₁:=λobj s₁=>obj=.ref s.heap.objs.size/\s₁={ s with heap:=s.heap.push { cls:=.type "list",data:=.seq #[] } }) PySem.F.called_list (PySem.F.typeCall_list_1 _) PySem.F.entry_list_init
  (code_list_new _ ⟨rfl,rfl⟩) λobj s₁ h₁=>?_
 obtain⟨rfl,rfl⟩:=h₁;have hS:(s.heap.push { cls:=.type "list",data:=.seq #[] }).get? s.heap.objs.size=some { cls:=.type "list",data:=.seq #[] }:=Yd _ rfl;have up:∀b o,s.heap.get? b=some o->(s.heap.push { cls:=.type "list",data:=.seq #[] }).get? b=some o:=λb o e=>X8 _ e;have B:Below z TI TO i1 i2 l1 l2 s.heap.objs.size:=⟨D,Ya hz,Ya AW,Ya Jq,(by obtain⟨_,e,_⟩:=h1;exact Ya e),(by obtain⟨_,e,_⟩:=h2;exact Ya e),(by obtain⟨_,e,_⟩:=q1;exact Ya e),(by obtain⟨_,e,_⟩:=q2;exact Ya e)⟩
 refine⟨⟨_,hS,rfl⟩,PySem.F.args_list_init_2 _ _,AZ (A:=A.in1) hh B hn ⟨.inl ⟨up _ _ hz,a,b,up _ _ Jq⟩,up _ _ AW,h1.at λo e=>up _ o e,h2.at λo e=>up _ o e,q1.at λo e=>up _ o e,q2.at λo e=>up _ o e⟩ (up _ _ hz) hS λh' tk acc c as hk wC hl hG fQ=>?_⟩;exact⟨rfl,hQ h' tk acc c as (λb o h2 h3 h4 h5 e=>hk b o (Yf (Ya e)) h2 h3 h4 h5 (up b o e)) wC hl hG fQ⟩
end
section
variable {X:Cx}
end
def eG(f:Str)(sc:Scope)(bl:af)(e:Expr):Option (ai):=(f9 e).bind λz=>(one z.2).bind λ_=>if z.1=f/\jJ sc z.1=true/\z.1∈bl then some z.2 else none
theorem fF{f:Str}{sc:Scope}{bl:af}{e:Expr}(h:eG f sc bl e=some args):∃p pos a,e=.Call (.Name f p) [a] [] pos/\args=[a]/\jJ sc f=true/\f∈bl:=by
 obtain⟨⟨x,as⟩,hv,h⟩:=bT h;obtain⟨a,hw,h⟩:=bT h;obtain⟨hc,h⟩:=gT h;cases h;obtain⟨rfl,h1,h2⟩:=hc;obtain⟨p,pos,rfl⟩:=cK hv;obtain rfl:=bP hw;exact⟨_,_,_,rfl,rfl,h1,h2⟩
theorem Inv.Lv{pins:aj}{s:Shared}(I:Inv X pins σ H s)(k:∀b u,s.heap.get? b=some u->h'.get? b=some u)(up:∀b u,H b=some u->H' b=some u)
  (nw:∀b u,H' b=some u->H b=some u\/(s.heap.objs.size<=b/\b_ H' h' b u)):Inv X pins σ H' { s with heap:=h',toks:=t' }:=by
 refine I.step (g':=s.gens) (d':=s.drawn) (ch:=[]) (λb hb=>nomatch hb) (λb o _ _ _ e _=>k b o e) (λb o _ _ _ e _=>⟨o.slots,k b o e⟩) (λb u _ e n=>?_)
  (λb o _ e=>⟨o,k b o e⟩) (λ_ _ e=>up _ _ e) (λ_ _ _ e=>up _ _ e) (λm hm=>?_) (λb u e=>?_) I.bare
 ·cases q:H' b with
  |none=>rfl
  |some v =>
   rcases nw b v q with z|⟨z,_⟩
   ·rw[n]at z;exact nk z
   ·exact absurd (Ya e) (Nat.not_lt.mpr z)
 ·obtain⟨o,es,ep,ho,r⟩:=hm;exact⟨o,es,ep,k _ o ho,r⟩
 ·rcases nw b u e with e|⟨_,e⟩
  ·exact(I.cJ b u e).k0 (k b)
  ·exact e
def mz(H:Hp):List (Addr×V×V)->Hp
 |[]=>H
 |q::r=>upd (mz H r) q.1 (.tup [q.2.1,q.2.2])
theorem i5{H:Hp}{b:Addr}{u:HO}(e:H b=some u):∀{r:List (Addr×V×V)},(∀q∈r,H q.1=none)->mz H r b=some u
 |[],_=>e
 |q::r,h=>by
  have hn:b≠q.1:=λz=>by rw[z,h q List.mem_cons_self]at e;cases e
  show upd (mz H r) q.1 _ b=_;rw[bh hn];exact i5 e λq hq=>h q (X_ _ hq)
theorem uG{H:Hp}:∀{r:List (Addr×V×V)},(r.map (·.1)).Nodup->∀q∈r,mz H r q.1=some (.tup [q.2.1,q.2.2])
 |[],_,_,h=>nomatch h
 |q'::r,hn,q,h=>by
  show upd (mz H r) q'.1 _ q.1=_;have uK:=List.nodup_cons.mp hn;rcases List.mem_cons.mp h with rfl|h
  ·exact aV
  ·have:q.1≠q'.1:=λz=>uK.1 (by show q'.1∈_;rw[<- z];exact Y8 h);rw[bh this];exact uG uK.2 q h
theorem qM{H:Hp}{b:Addr}{u:HO}:∀{r:List (Addr×V×V)},mz H r b=some u->H b=some u\/∃q∈r,q.1=b/\u=.tup [q.2.1,q.2.2]
 |[],e=>.inl e
 |q::r,e=>by
  replace e:upd (mz H r) q.1 (.tup [q.2.1,q.2.2]) b=some u:=e;by_cases z:b=q.1
  ·subst z;rw[aV]at e;cases e;exact .inr ⟨q,X9,rfl,rfl⟩
  ·rw[bh z]at e;rcases qM e with h|⟨q',h1,h2⟩
   ·exact .inl h
   ·exact .inr ⟨q',X_ _ h1,h2⟩
def Vi(K:ao)(ta:TA):TE:=λσ H Q=>ta σ H λvs H1=>∃a b xs ys,vs=[.ref a,.ref b]/\cM K H1 a xs/\cM K H1 b ys /\
 ∀(l:Addr) (r:List (Addr×V×V)),H1 l=none->(∀q∈r,H1 q.1=none)->(r.map (·.1)).Nodup->l∉r.map (·.1)->r.map (·.2)=xs.zip ys->Q (.ref l) (upd (mz H1 r) l (.lst (r.map λq=>V.ref q.1)))
theorem BP{p:Pos}(hc:X.calm=true)(Q7:Gl X "list")(Wj:X.mg "list" = none)(hg:Gl X "zip")(hm:X.mg "zip" = none)(ha:PA X [e1,e2] ta)(hs:∀es,starEach (e1::es) X.env=(false,eval e1 X.env)::starEach es X.env)(Jk:∀es,starEach (e2::es) X.env=(false,eval e2 X.env)::starEach es X.env):
  PE X (.Call (.Name "list" p') [.Call (.Name "zip" p) [e1,e2] [] pos] [] pos') (Vi X.K ta):=by
 intro pins s σ H Q I h;refine YT (fb I Q7 Wj boot_list ?_);refine Yr ?_;show wpAny _ _ (spliced ((false,eval (.Call (.Name "zip" p) [e1,e2] [] pos) X.env)::backTo pos' (starEach [] X.env))) _ _ s;refine ZT ?_;refine Call_ (fb I hg hm boot_zip (Yr (cI (ha pos pins s σ H _ I h) λus s1 bG=>?_) (hs _) (by rw[Jk];rfl)));obtain⟨vs,H1,I1,r1,q1⟩:=bG;obtain⟨a,b,xs,ys,e,q1,q2,hq⟩:=q1;subst e;obtain⟨u,v,rfl,ru,rv⟩:=vals2 r1;cases ru;cases rv;obtain⟨aF,rx,p1,TQ⟩:=I1.list q1;obtain⟨its',ry,p2,N4⟩:=I1.list q2;refine call_zip_2 p1.isList p2.isList λh' z t o l1 l2 sz k=>Z0 ?_;have AV:h'.IsList a aF.toArray:=p1.isList.at λo e=>k _ o e;have uL:h'.IsList b its'.toArray:=p2.isList.at λo e=>k _ o e;have cls:∀{x y:Addr} {o u:Obj},h'.get? x=some o->h'.get? y=some u->o.cls≠u.cls->x≠y:=λh1 h2 h3=>cC h1 h2 h3;have al:@LT.lt Nat _ a s1.heap.objs.size:=by obtain⟨_,e,_⟩:=p1.isList;exact Ya e
 have bl:@LT.lt Nat _ b s1.heap.objs.size:=by obtain⟨_,e,_⟩:=p2.isList;exact Ya e
 have D:ZipApart (s1.heap.objs.size+4) (s1.heap.objs.size+2) (s1.heap.objs.size+3) s1.heap.objs.size (s1.heap.objs.size+1) a b:=by
  constructor<;>first|exact Yf (by left)|exact Yj (by left)
 have lx:=rx.length;have ly:=ry.length;have hn:min aF.toArray.size its'.toArray.size<=sizeLine:=by simp;left
 refine A3 (s:={ s1 with heap:=h' }) (I1.ok.hd hc) D hn z t o l1 l2 AV uL λWV tk acc c as hk hS hl hG fQ=>?_;dsimp only at hk hS hG ⊢;have hlen:as.length=(xs.zip ys).length:=by rw[hl,List.length_zip];simp;left
 have keep:∀b o,s1.heap.get? b=some o->WV.get? b=some o:=λb o e=>by
  have:@LT.lt Nat _ b s1.heap.objs.size:=Ya e;exact hk b o (Yf (by left)) (Yf (by left)) (Yf (by left)) (Yf (by left)) (k b o e)
 have fresh:∀c,s1.heap.objs.size<=c->H1 c=none:=λc h=>I1.cJ.fresh h;have X1:h'.objs.size=s1.heap.objs.size+5:=sz
 let r:List (Addr×V×V):=as.zip (xs.zip ys)
 have r1:r.map (·.1)=as:=List.map_fst_zip (by left);have r2:r.map (·.2)=xs.zip ys:=List.map_snd_zip (by left);have tm:∀c∈as,@LT.lt Nat _ h'.objs.size c:=hG.above;have QN:∀q∈r,H1 q.1=none:=λq hq=>fresh _ (by have:=tm q.1 (by rw[<- r1];exact Y8 hq);left);have CG:H1 h'.objs.size=none:=fresh _ (by left);have Hi:h'.objs.size∉r.map (·.1):=by rw[r1];exact λz=>absurd (tm _ z) (Ym _)
 have AU:(r.map (·.1)).Nodup:=by rw[r1];exact hG.nd
 have zt:(as.map V.ref)=r.map λq=>V.ref q.1:=by rw[<- r1,List.map_map];rfl
 refine⟨.ref h'.objs.size,upd (mz H1 r) h'.objs.size (.lst (r.map λq=>V.ref q.1)),?_,rfl,hq _ r CG QN AU Hi r2⟩;refine Inv.Lv (s:=s1) (t':=tk) I1 keep (λb u e=>?_) λb u e=>?_
 ·rw[bh λz=>by rw[z,CG]at e;cases e];exact i5 e QN
 ·by_cases zb:b=h'.objs.size
  ·subst zb;rw[aV]at e;cases e;refine .inr ⟨by left,?_,acc.toList,c,?_,by rw[Array.toArray_toList];exact hS⟩
   ·rw[<- zt,List.length_map,hlen,List.length_zip];left
   ·rw[<- zt,fQ];clear fQ zt hG hl hlen r1 tm AU r r2 QN Hi hS hk keep;induction as with
    |nil=>exact .nil
    |cons a as ih=>exact .cons rfl ih
  ·rw[bh zb]at e;rcases qM e with e|⟨q,hq,rfl,rfl⟩
   ·exact .inl e
   ·have hm:q.1∈as:=by rw[<- r1];exact Y8 hq
    refine .inr ⟨by have:=tm _ hm;left,?_⟩;obtain⟨j,hj⟩:=List.mem_iff_getElem?.mp hq;have Q6:as[j]?=some q.1/\(xs.zip ys)[j]?=some q.2:=by
     have:=List.getElem?_zip_eq_some.mp hj;exact this
    obtain⟨x,y,ex,ey,hp⟩:=hG.pairs j q.1 Q6.1;obtain⟨e1,e2⟩:xs[j]?=some q.2.1/\ys[j]?=some q.2.2:=List.getElem?_zip_eq_some.mp Q6.2;obtain⟨u1,QJ,VA⟩:=rx.get e1;obtain⟨u2,V7,Vz⟩:=ry.get e2;rw[List.getElem?_toArray,QJ]at ex;rw[List.getElem?_toArray,V7]at ey;cases ex;cases ey;exact t_ VA Vz hp
noncomputable def pairD(x y:D):D:=.tup [x,y]
def Lm(xs:ab):O D:=match two xs with
 |some z=>match z.1 with
  |.lst _ a=>match z.2 with
   |.lst _ b=>ok (.lst .ow (az a_ (List.zipWith pairD a b)))
   |_=>none
  |_=>none
 |none=>none
theorem GD{x y d:D}(h:Lm [x,y]=ok d):∃f a g b,x=.lst f a/\y=.lst g b/\d=.lst .ow (az a_ (List.zipWith pairD a b)):=by
 cases x<;>first|exact nk h | (cases h;done)|skip
 cases y<;>first|exact nk h | (cases h;done)|skip
 cases h;exact⟨_,_,_,_,rfl,rfl,rfl⟩
def Ao(sc:Scope)(bl:af)(e:Expr):Option (ai):=(f9 e).bind λz=>(one z.2).bind λi=>if z.1=("list" : Str)/\jJ sc z.1=true/\z.1∈bl then l3 sc bl i else none
theorem An{sc:Scope}{bl:af}{e:Expr}(h:Ao sc bl e=some args):∃p pos i,e=.Call (.Name ("list" : Str) p) [i] [] pos/\jJ sc ("list" : Str)=true/\("list" : Str)∈bl/\l3 sc bl i=some args:=by
 obtain⟨⟨x,as⟩,hv,h⟩:=bT h;obtain⟨a,hw,h⟩:=bT h;obtain⟨hc,hz⟩:=gT h;obtain⟨rfl,h1,h2⟩:=hc;obtain⟨p,pos,rfl⟩:=cK hv;obtain rfl:=bP hw;exact⟨p,pos,a,rfl,h1,h2,hz⟩
theorem qp{T:jr}{N:gk}(hN:∀k k' p xs f,N k p xs f->N k' p xs f):∀{r:List (Addr×V×V)} {xs ys:ae} {a b:ab} {k1 k2 k:aZ} {n1 n2 n:Nat},aA T N k1 n1 xs a->aA T N k2 n2 ys b->r.map (·.2)=xs.zip ys->(∀q∈r,T q.1 [q.2.1,q.2.2])->aA T N k n (r.map λq=>V.ref q.1) (List.zipWith pairD a b)
 |[],xs,ys,a,b,_,_,_,_,_,_,r1,r2,e,_=>by
  have l1:=r1.length;have l2:=r2.length;have e':=Yn List.length e;rw[List.length_zip]at e';have:List.zipWith pairD a b=[]:=List.eq_nil_of_length_eq_zero (by rw[List.length_zipWith];simp at e';left);rw[this];exact .nil
 |q::r,xs,ys,a,b,k1,k2,k,n1,n2,n,r1,r2,e,ht=>by
  cases r1 with
  |nil=>cases e
  |cons h1 t1=>cases r2 with
   |nil=>cases e
   |cons h2 t2 =>
    have e1:q.2=(_,_):=(YG e).1;have e2:=(YG e).2;refine .cons (.tup (ht q X9) ?_) (qp hN t1 t2 e2 λq hq=>ht q (X_ _ hq));rw[e1];have m1:=Rep.gz (T':=T) (N':=N) (g:=id) (λ_ _ h=>h) hN h1 (0::n::k);have m2:=Rep.gz (T':=T) (N':=N) (g:=id) (λ_ _ h=>h) hN h2 (1::n::k);rw[dC]at m1 m2;exact .cons m1 (.cons m2 .nil)
theorem eU(g:Fl->Fl):∀a b:ab,az g (List.zipWith pairD a b)=List.zipWith pairD (az g a) (az g b)
 |[],_=>by cases ‹ab› <;> rfl
 |_::_,[]=>rfl
 |x::a,y::b=>by
  show aI g (pairD x y)::az g (List.zipWith pairD a b)=_;rw[eU g a b];rfl
theorem Ll{n:Nat}(hΦ:Φ n=Lm){sc:Scope}{bl:af}{k:Nat}(L:PX X sc bl k){e:Expr}(he:Ao sc bl e=some args)(hs:iF X F Φ cs args):PE X e (tD X F Φ (.bq n cs))/\PT X e (dN X F Φ (.bq n cs)):=by
 obtain⟨p,pos,i,rfl,h1,h2,hz⟩:=An he;obtain⟨p',pos',a,b,rfl,rfl,h3,h4⟩:=nS hz;obtain⟨⟨c,d,rfl,_,_⟩,pa,s1,s2⟩:=oE hs;have this:PE X (.Call (.Name ("list" : Str) p) [.Call (.Name ("zip" : Str) p') [a,b] [] pos'] [] pos) (tD X F Φ (.bq n [c,d])):=by
  refine PE.imp (BP L.calm (L.gl h1) (L.bl _ h2) (L.gl h3) (L.bl _ h4) pa s1 s2) λσ H Q hq=>?_;obtain⟨R,τ,ρ,d',Si,ev,hq⟩:=hq;obtain⟨xs,bt,ev⟩:=aq ev;rw[hΦ]at ev;refine⟨R,τ,ρ,xs,Si,bt,λvs H1 e1 r1=>?_⟩;obtain⟨τt,fr,rs⟩:=r1;have hl:∃x y,xs=[x,y]:=by
   unfold Lm at ev;cases hw:two xs with
   |none=>rw[hw]at ev;exact nk ev
   |some z=>exact⟨z.1,z.2,jv hw⟩
  obtain⟨x,y,rfl⟩:=hl;obtain⟨f,da,g,db,rfl,rfl,rfl⟩:=GD ev;obtain⟨v,w,rfl,rx,ry⟩:=rs.two;cases rx with
  |lst hx ax=>cases ry with
   |lst hy ay =>
    refine⟨_,_,_,_,rfl,hx.sq,hy.sq,λl r hl hr hn Hi hz=>hq _ _ ?_ ?_⟩
    ·intro b o e;have e':=e1 b o e;rw[bh λz=>by rw[z,hl]at e';cases e'];exact i5 e' hr
    ·have sm:aG H1 (upd (mz H1 r) l (.lst (r.map λq=>V.ref q.1))):=λb o e=>by
      rw[bh λz=>by rw[z,hl]at e;cases e];exact i5 e hr
     refine bC.qF (e1.free hl) (e1.trans sm) aV ?_;rw[eU];refine qp nd.nJ ((ax.eZ Si fr (k':=[]) (n':=0)).imp (λ_ _ h=>aU.same sm h) λ_ _ _ _ h=>nd.same sm h) ((ay.eZ Si fr (k':=[]) (n':=0)).imp (λ_ _ h=>aU.same sm h) λ_ _ _ _ h=>nd.same sm h) hz λq hq=>?_;have wq:q.1≠l:=λz=>Hi (by rw[<- z];exact Y8 hq);exact aU.of (by rw[bh wq];exact uG hn q hq)
 exact⟨this,bK this λ_=>rfl⟩
section
variable {prog:aE}{w:World}{A:aD}{E:aB}{s:Shared}
def pK(h:Heap)(vs:ak)(nss:av):Prop:=vs.length=nss.length/\∀(i:Nat) (ns:aa),nss[i]?=some ns->∃t aF,vs[i]?=some (.ref t)/\IsTup h t aF.toArray/\IntsAre aF ns/\ns≠[]
theorem qJ{fin:Bool}{Q:Bool->Shared->Prop}:∀{aF Cq:ak} {ns ms:aa} (i:Nat),IntsAre aF ns->IntsAre Cq ms->fin=decide (aF.length<Cq.length)->Q (HT.lexLt ns ms) s->PySem.W.KatLex prog w A true fin Q (aF.zip Cq) i s
 |_,_,_,_,i,.nil,.nil,hf,h=>by subst hf;exact h
 |_,_,_,_,i,.nil,.cons _ _ _,hf,h=>by subst hf;exact h
 |_,_,_,_,i,.cons _ _ _,.nil,hf,h=>by subst hf;exact h
 |_,_,_,_,i,.cons (ns:=ns) a t h1,.cons (ns:=ms) b u h2,hf,h=>by
  rw[HT.cQ]at h;refine PySem.W.kat_cons (wpAny_eqBool_int (PySem.W.kat_go (λe=>?_) λe=>?_))
  ·have e:a=b:=by simpa using e
   rw[if_pos e]at h;exact PySem.W.kat_yes (qJ (i+1) h1 h2 (by rw[hf];simp) h)
  ·have e:¬ a=b:=by simpa using e
   rw[if_neg e]at h;refine PySem.W.kat_no ?_;rw[Bool.true_and];cases i==0 with
   |true=>exact oneLt_int h
   |false=>exact PySem.W.kat_one _ _ (lt_int h)
theorem pK.mono{h:Heap}{vs:ak}{nss:av}(k:∀b o,h.get? b=some o->h'.get? b=some o)(t:pK h vs nss):pK h' vs nss :=
 ⟨t.1,λi ns e=>let ⟨a,aF,e1,⟨o,ho,r⟩,e3⟩:=t.2 i ns e;⟨a,aF,e1,⟨o,k _ _ ho,r⟩,e3⟩⟩
end
noncomputable def gv(ns:aa):D:=.tup (ns.map D.int)
theorem gN{p a:Addr}{ys:ae}{o:HO}(hp:H p=some (.lst xs))(h:aU K H a ys):aU K (upd H p o) a ys:=by
 rcases h with (h|⟨o',h⟩)|h
 ·exact .inl (.inl (by rw[bh (λz=>by subst z;rw[hp]at h;cases h)];exact h))
 ·exact .inl (.inr ⟨o',by rw[bh (λz=>by subst z;rw[hp]at h;cases h)];exact h⟩)
 ·exact .inr h
set_option tactic.hygienic true in
theorem oK{n i:Nat}{xs:ab}{r:Fo×aX}(ev:sM Φ n i (lB cs xs ρ)=ok r)(ha:aR bA xs=false):∃d d',ρ[i]?=some (some d)/\Φ n (d::xs)=ok d'/\r=(.nx,ρ.set i (some d')):=by
 unfold lB at ev;rw[if_neg (by rw[ha];exact Bool.false_ne_true)]at ev;unfold sM at ev;split at ev
 ·rename_i d hd;obtain⟨d',h1,h2⟩:=aq ev;cases h2;exact⟨d,d',hd,h1,rfl⟩
 ·cases ev
set_option tactic.hygienic true in
theorem sL{n i:Nat}{xs:ab}{r:Fo×aX}(ev:sM Φ n i (lB cs xs ρ)=ok r)(ha:aR bA xs=true):∃d d',Φ n (d::az aY xs)=ok d':=by
 unfold lB at ev;rw[if_pos ha]at ev;unfold sM at ev;split at ev
 ·rename_i d hd;obtain⟨d',h1,h2⟩:=aq ev;exact⟨d,d',h1⟩
 ·cases ev
def NR:D->Option (ab)
 |.lst f ds=>if cp f then some ds else none
 |_=>none
set_option tactic.hygienic true in
theorem Gf{d:D}(h:NR d=some ds):d=.lst .ow ds:=by
 cases d<;>first|exact nk h | (cases h;done)|skip
 rename_i f es;have h:(if cp f then some es else none)=some ds:=h;cases f<;>first | (cases h;rfl) | (cases h;done)
def kW(m:Str)(st:Stmt):Option (Expr×ai):=(Nt st).bind λc=>(sg c).bind λz=>(xB z.1).bind λy=>if y.2.1=m/\z.2.2.1.isEmpty=true/\(y.2.2.endLine==z.2.2.2.line)=true then some (y.1,z.2.1)else none
theorem gn{m:Str}{as:ai}(h:kW m st=some (o,as)):∃p1 p2 pos,st=.Expr (.Call (.Attribute o m p1) as [] p2) pos/\(p1.endLine==p2.line)=true:=by
 obtain⟨c,h1,h⟩:=bT h;obtain⟨⟨f,UX,ks,p2⟩,h2,h⟩:=bT h;obtain⟨⟨o',a,p1⟩,h3,h⟩:=bT h;obtain⟨hc,h⟩:=gT h;cases h;obtain⟨pos,rfl⟩:=sf h1;obtain rfl:=mR h2;obtain rfl:=pY h3;obtain rfl:=Cb hc.2.1;obtain rfl:=hc.1;exact⟨p1,p2,pos,rfl,hc.2.2⟩
section
variable {α β:Type}
noncomputable def cH:av->List α->aa->Option α
 |c'::cs,v::vs,c=>if c'=c then some v else cH cs vs c
 |_,_,_=>none
noncomputable def setC:av->List α->aa->α->List α
 |c'::cs,v'::vs,c,v=>(if c'=c then v else v')::setC cs vs c v
 |_,_,_,_=>[]
noncomputable def bx(cs:av)(c:aa):av:=if c∈cs then cs else cs++[c]
noncomputable def rS(cs:av)(as:List α)(c:aa)(a:α):List α:=if c∈cs then as else as++[a]
def bE(cs:av)(vs:List α)(c:aa)(v:α):List α:=if c∈cs then setC cs vs c v else vs++[v]
end
section
variable {zs:List (aa×Addr×Value)}{c:aa}
theorem n4:∀(zs:List (aa×Addr×Value)) (c:aa),(atKey zs c).map (·.2)=cH (zs.map (·.1)) (zs.map (·.2.2)) c
 |[],_=>rfl
 |z::zs,c=>by
  have ih:=n4 zs c;unfold atKey at ih ⊢;rw[List.find?_cons];show _=if z.1=c then some z.2.2 else cH (zs.map (·.1)) (zs.map (·.2.2)) c
  by_cases e:z.1=c
  ·rw[decide_eq_true e,if_pos e];rfl
  ·rw[decide_eq_false e,if_neg e];exact ih
theorem du:∀(zs:List (aa×Addr×Value)) (c:aa),(atKey zs c).isSome=true ↔ c∈zs.map (·.1)
 |[],c=>by simp[atKey]
 |z::zs,c=>by
  have ih:=du zs c;unfold atKey at ih ⊢;rw[List.find?_cons,List.map_cons,List.mem_cons];by_cases e:z.1=c
  ·rw[decide_eq_true e];simp[e]
  ·rw[decide_eq_false e];rw[ih];exact⟨.inr,λh=>h.resolve_left λz=>e z.symm⟩
theorem jQ(a:Addr)(v:Value):(storedH zs c a v).map (·.1)=bx (zs.map (·.1)) c:=by
 unfold storedH bx;by_cases h:c∈zs.map (·.1)
 ·rw[if_pos ((du zs c).mpr h),if_pos h,List.map_map];refine Yw λz _=>?_;show(putAt c v z).1=z.1;unfold putAt;split<;>rfl
 ·rw[if_neg (λz=>h ((du zs c).mp z)),if_neg h,List.map_append];rfl
theorem qb(a:Addr)(v:Value):(storedH zs c a v).map (·.2.1)=rS (zs.map (·.1)) (zs.map (·.2.1)) c a:=by
 unfold storedH rS;by_cases h:c∈zs.map (·.1)
 ·rw[if_pos ((du zs c).mpr h),if_pos h,List.map_map];refine Yw λz _=>?_;show(putAt c v z).2.1=z.2.1;unfold putAt;split<;>rfl
 ·rw[if_neg (λz=>h ((du zs c).mp z)),if_neg h,List.map_append];rfl
theorem qw(v:Value):∀zs:List (aa×Addr×Value),(zs.map (putAt c v)).map (·.2.2)=setC (zs.map (·.1)) (zs.map (·.2.2)) c v
 |[]=>rfl
 |z::zs=>by
  show(putAt c v z).2.2::((zs.map (putAt c v)).map (·.2.2))=(if z.1=c then v else z.2.2)::setC (zs.map (·.1)) (zs.map (·.2.2)) c v;rw[qw v zs];unfold putAt;by_cases e:z.1=c
  ·rw[if_pos e,if_pos e]
  ·rw[if_neg e,if_neg e]
theorem qa(a:Addr)(v:Value):(storedH zs c a v).map (·.2.2)=bE (zs.map (·.1)) (zs.map (·.2.2)) c v:=by
 unfold storedH bE;by_cases h:c∈zs.map (·.1)
 ·rw[if_pos ((du zs c).mpr h),if_pos h];exact qw v zs
 ·rw[if_neg (λz=>h ((du zs c).mp z)),if_neg h,List.map_append];rfl
end
theorem pT{c:aa}{v:V}{u:Value}(r:RelV v u):∀{cs:av} {xs:ae} {us:ak},Vals xs us->Vals (setC cs xs c v) (setC cs us c u)
 |[],_,_,h=>by cases h<;>exact .nil
 |c'::cs,_,_,h=>by
  cases h with
  |nil=>exact .nil
  |cons h t =>
   refine .cons ?_ (pT r t);show RelV (if c'=c then v else _) (if c'=c then u else _);by_cases e:c'=c
   ·rw[if_pos e,if_pos e];exact r
   ·rw[if_neg e,if_neg e];exact h
theorem mQ{v:V}{u:Value}(r:RelV v u):∀{xs:ae} {us:ak},Vals xs us->Vals (xs++[v]) (us++[u])
 |_,_,.nil=>.cons r .nil
 |_,_,.cons h t=>.cons h (mQ r t)
theorem xw{cs:av}{us:ak}(h:Vals xs us){c:aa}{v:V}{u:Value}(r:RelV v u):Vals (bE cs xs c v) (bE cs us c u):=by
 unfold bE;by_cases e:c∈cs
 ·rw[if_pos e,if_pos e];exact pT r h
 ·rw[if_neg e,if_neg e];exact mQ r h
theorem pU:∀{cs:av} {xs:ae} {us:ak} (_:Vals xs us) (c:aa),AK (cH cs xs c) (cH cs us c)
 |[],_,_,_,_=>by cases ‹Vals _ _› <;> exact True.intro
 |c'::cs,_,_,h,c=>by
  cases h with
  |nil=>exact True.intro
  |cons h t =>
   show AK (if c'=c then some _ else _) (if c'=c then some _ else _);by_cases e:c'=c
   ·rw[if_pos e,if_pos e];exact h
   ·rw[if_neg e,if_neg e];exact pU t c
section
variable {X:Cx}{pins:aj}{σ:St}{H:Hp}{s:Shared}{p b:Addr}{cs:av}{as:aW}{xs:ae}{ep:Nat}{c:aa}{A:aD}{E:aB}
theorem items_int:∀{c:aa} {aF:ak},Vals (c.map V.int) aF->ItemsAre (intKind X.prog X.w) c aF
 |[],_,h=>by cases h;exact .nil
 |i::c,_,h=>by
  cases h with
  |cons h t =>
   obtain⟨t',rfl⟩:=h;exact .cons (by simp[intKind,Value.isInt]) (items_int t)
theorem sT(I:Inv X pins σ H s)(h:aU X.K H b (c.map V.int)):(tupleKind (intKind X.prog X.w)).is s.heap c b:=by
 obtain⟨aF,rv,⟨o,h1,h2,n,h3⟩,_⟩:=I.tuple h;exact⟨o,aF.toArray,n,h1,h2,h3,by simpa using items_int rv⟩
theorem vc(I:Inv X pins σ H s)(h:H p=some (.ext (DO p cs as xs ep)))(k:eL (aU X.K H) as cs):
  ∃(zs:List (aa×Addr×Value)) (o:Obj) (es:Array DictEntry),zs.map (·.1)=cs/\zs.map (·.2.1)=as/\Vals xs (zs.map (·.2.2))/\s.heap.get? p=some o/\o.ExactDict/\o.data=.dict es ep /\
   s.heap.DictOfH (tupleKind (intKind X.prog X.w)) p zs/\es.toList=zs.map (entryOfKey (tupleKind (intKind X.prog X.w)))/\cs.length<=sizeLine/\(p==sysModules)=false:=by
 obtain⟨⟨zs,o,es,e1,e2,e3,ho,hx,hd,he,hn,hl,hs⟩,_⟩:=(show b_ H s.heap p (.ext (DO p cs as xs ep)) from I.cJ p _ h)
 refine⟨zs,o,es,e1,e2,e3,ho,hx,hd,⟨o,es,ep,ho,hx,hd,he,λz hz=>?_,by rw[e1];exact hn⟩,he,hl,hs⟩;obtain⟨j,hj⟩:=List.mem_iff_getElem?.mp hz;exact sT I (k.tup j z.2.1 z.1 (by rw[<- e2,List.getElem?_map,hj];rfl) (by rw[<- e1,List.getElem?_map,hj];rfl))
theorem dict_cls(I:Inv X pins σ H s)(h:H p=some (.ext (DO p cs as xs ep))):s.TypeIs (.ref p) "dict" /\ ∀b,Value.ref p=.ref b->∃ob,s.heap.get? b=some ob/\ob.dict=none:=by
 obtain⟨⟨zs,o,es,e1,e2,e3,ho,hx,_⟩,_⟩:=(show b_ H s.heap p (.ext (DO p cs as xs ep)) from I.cJ p _ h)
 exact⟨⟨o,ho,hx.1⟩,λb q=>by cases q;exact⟨o,ho,hx.2.1⟩⟩
theorem tI{v:V}{r:Value}{Q:Unit->Shared->Prop}(hu:A.units+1<cLine)(I:Inv X pins σ H s)(h:H p=some (.ext (DO p cs as xs ep)))(k:eL (aU X.K H) as cs)(hb:aU X.K H b (c.map V.int))(rv:RelV v r)(fj:cs.length<sizeLine)
  (hQ:∀uZ s',Inv X pins σ (upd H p (.ext (DO p (bx cs c) (rS cs as c b) (bE cs xs c v) uZ))) s'->Q () s') :
  wpAny (model X.prog X.w) A (setItem (.ref p) (.ref b) r) Q E s:=by
 obtain⟨zs,o,es,e1,e2,e3,ho,hx,hd,dd,_,hl,hs⟩:=vc I h k;have hz:zs.length<=sizeLine:=by rw[<- e1,List.length_map]at hl;exact hl
 refine wpAny_setItem_heap (hsz:=hz) (tupleKind_room_in1 hu) (sT I hb) dd λh' Xd zk=>?_;obtain⟨q,Ew,uZ,hq,h2,h3,h4,_,h5⟩:=Xd;refine hQ uZ _ (I.write (x:=p) (by rw[h];exact True.intro) (λb q hb z=>(zk.2 b hb).trans z) ⟨q,hq⟩ ⟨⟨storedH zs c b r,q,Ew,?_,?_,?_,hq,h2,h3,h4,?_,?_,hs⟩,⟨q,hq⟩,?_⟩)
 ·rw[jQ,e1]
 ·rw[qb,e1,e2]
 ·rw[qa,e1];exact xw e3 rv
 ·rw[<- e1,<- jQ (zs:=zs) (c:=c) b r];exact h5
 ·unfold bx;split
  ·exact hl
  ·rw[List.length_append,List.length_singleton];left
 ·rintro h1 Ur ⟨Np,o',es'',f1,f2,f3,f4,f5⟩ kk;exact⟨Np,o',es'',f1,f2,f3,kk _ f4,f5⟩
theorem BR:PE X (.Dict [] [] pos) (λ_ H Q=>∀p,H p=none->Q (.ref p) (upd H p (.ext (DO p [] [] [] 0)))):=λpins s σ H Q I h=>by
 have Rk:sysModules<s.heap.objs.size:=Y5 (by decide) (show mainGlobals<s.heap.objs.size from(I.mod.glob.keeps I.bk).lt);refine wpAny_Dict_empty ⟨.ref s.heap.objs.size,_,I.laid (a:=s.heap.objs.size) (o:=.ext (DO s.heap.objs.size [] [] [] 0)) (t':=s.toks) (λ_ _ q=>X8 _ q) (Yb _) ?_,rfl,h _ (I.cJ.fresh (Yb _))⟩;have hg:(s.heap.push { cls:=.type "dict",data:=.dict #[] }).get? s.heap.objs.size=some { cls:=.type "dict",data:=.dict #[] }:=Yd _ rfl;refine⟨⟨[],_,#[],rfl,rfl,.nil,hg,⟨rfl,rfl,rfl⟩,rfl,rfl,YX,Yy _,beq_eq_false_iff_ne.mpr (Zi (Yf Rk))⟩,⟨_,hg⟩,?_⟩;rintro h1 Ur ⟨Np,o',es'',f1,f2,f3,f4,f5⟩ kk;exact⟨Np,o',es'',f1,f2,f3,kk _ f4,f5⟩
end
theorem oy{k:aZ}{v:V}{d:D}(h:Rep T N k v d)(hf:bc anyF d=false):Rep T N' k' v d:=by
 have:=Rep.gen (T':=T) (N':=N') (g:=id) (P:=anyF) (C:=λ_ _=>True) (I:=λ_ _=>True) (λ_ _ h=>h) trivial (λ_ _ e=>e) (λ_ _ _ _ e _=>e) (λk k' p xs f _ hz _=>nomatch hz) h (k':=k') trivial hf;rw[dC]at this;exact this
theorem qt{T:jr}{N:gk}:∀{cs:av} {k:aZ} {n:Nat} {xs:ae} {ds:ab} (_:aA T N k n xs ds) (c:aa),(cH cs xs c=none/\cH cs ds c=none)\/∃v d k',cH cs xs c=some v/\cH cs ds c=some d/\Rep T N k' v d/\d∈ds
 |[],_,_,_,_,_,_=>by cases ‹aA _ _ _ _ _ _› <;> exact .inl ⟨rfl,rfl⟩
 |c'::cs,_,_,_,_,r,c=>by
  cases r with
  |nil=>exact .inl ⟨rfl,rfl⟩
  | @cons _ _ v d vs ds h t =>
   by_cases e:c'=c
   ·exact .inr ⟨v,d,_,Yv e,Yv e,h,X9⟩
   ·have e1:∀{α:Type} (a:α) (l:List α),cH (c'::cs) (a::l) c=cH cs l c:=λa l=>Zh e;rw[e1,e1];rcases qt (cs:=cs) t c with h|⟨v',d',k',h1,h2,h3,h4⟩
    ·exact .inl h
    ·exact .inr ⟨v',d',k',h1,h2,h3,X_ _ h4⟩
theorem qq{T:jr}{N:gk}{c:aa}{v:V}{d:D}(hv:∀k,Rep T N k v d):∀{cs:av} {k:aZ} {n:Nat} {xs:ae} {ds:ab},aA T N k n xs ds->aA T N k n (setC cs xs c v) (setC cs ds c d)
 |[],_,_,_,_,r=>by cases r<;>exact .nil
 |c'::cs,_,_,_,_,r=>by
  cases r with
  |nil=>exact .nil
  |cons h t =>
   refine .cons ?_ (qq hv t);show Rep _ _ _ (if c'=c then v else _) (if c'=c then d else _);by_cases e:c'=c
   ·rw[if_pos e,if_pos e];exact hv _
   ·rw[if_neg e,if_neg e];exact h
theorem mZ{T:jr}{N:gk}{v:V}{d:D}(hv:∀k,Rep T N k v d):∀{k:aZ} {n:Nat} {xs:ae} {ds:ab},aA T N k n xs ds->aA T N k n (xs++[v]) (ds++[d])
 |_,_,_,_,.nil=>.cons (hv _) .nil
 |_,_,_,_,.cons h t=>.cons h (mZ hv t)
theorem yf{c:aa}{v:V}{d:D}(hv:∀k,Rep T N k v d){cs:av}{k:aZ}{n:Nat}(r:aA T N k n xs ds):aA T N k n (bE cs xs c v) (bE cs ds c d):=by
 unfold bE;by_cases e:c∈cs
 ·rw[if_pos e,if_pos e];exact qq hv r
 ·rw[if_neg e,if_neg e];exact mZ hv r
theorem y8{cs:av}(k:eL T as cs){b:Addr}{c:aa}(hb:T b (c.map V.int)):eL T (rS cs as c b) (bx cs c):=by
 unfold rS bx;by_cases e:c∈cs
 ·rw[if_pos e,if_pos e];exact k
 ·rw[if_neg e,if_neg e];refine⟨by rw[List.length_append,List.length_append,k.len];rfl,λj a c' ha hc=>?_⟩;by_cases hj:j<as.length
  ·rw[List.getElem?_append_left hj]at ha;rw[List.getElem?_append_left (by rw[<- k.len];exact hj)]at hc;exact k.tup j a c' ha hc
  ·rw[List.getElem?_append_right (by left)]at ha;rw[List.getElem?_append_right (by rw[<- k.len];left),<- k.len]at hc;cases hz:j - as.length with
   |zero =>
    rw[hz]at ha hc;cases ha;cases hc;exact hb
   |succ m=>rw[hz]at ha;cases ha
theorem bC.newD{p:Addr}(hp:H p=none)(hl:H' p=some (.ext (DO p [] [] [] 0))):bC K G R τ fv H H' (.ref p) (.cx .ow [] []):=by
 refine⟨λq=>if q=p then some []else none,λq k hq=>?_,.cx (ep:=0) (as:=[]) (xs:=[]) ⟨hl,by simp⟩ ⟨rfl,λj a c h=>by simp at h⟩ .nil⟩;by_cases sZ:q=p
 ·subst sZ;exact hp
 ·simp[sZ]at hq
noncomputable def Aa(xs:ab):O D:=match xs with
 |[]=>ok (.cx .ow [] [])
 |_::_=>none
noncomputable def pf(_:Scope)(_:af)(e:Expr):Option (ai):=match e with
 |.Dict [] [] _=>some []
 |_=>none
theorem C9{n:Nat}(hΦ:Φ n=Aa){sc:Scope}{bl:af}{k:Nat}(L:PX X sc bl k){e:Expr}(he:pf sc bl e=some args)(hs:iF X F Φ cs args):PE X e (tD X F Φ (.bq n cs))/\PT X e (dN X F Φ (.bq n cs)):=by
 have h1:∃pos,e=.Dict [] [] pos/\args=[]:=by
  unfold pf at he;split at he
  ·cases he;exact⟨_,rfl,rfl⟩
  ·cases he
 obtain⟨pos,rfl,rfl⟩:=h1;cases cs with
 |cons _ _=>exact hs.elim
 |nil =>
  have this:PE X (.Dict [] [] pos) (tD X F Φ (.bq n [])):=by
   refine PE.imp (BR (X:=X) (pos:=pos)) λσ H Q hq p hp=>?_;obtain⟨R,τ,ρ,d,Si,ev,hq⟩:=hq;have ev:Φ n []=ok d:=ev;rw[hΦ]at ev;cases ev;exact hq _ _ (aG.upd hp) (bC.newD hp aV)
  exact⟨this,bK this λ_=>rfl⟩
noncomputable def three{α:Type}:List α->Option (α×α×α)
 |[a,b,c]=>some (a,b,c)
 |_=>none
theorem xM{α:Type}{l:List α}{z:α×α×α}(h:three l=some z):l=[z.1,z.2.1,z.2.2]:=by
 rcases l with _|⟨a,_|⟨b,_|⟨c,_|⟨d,l⟩⟩⟩⟩<;>cases h;rfl
noncomputable def gd:D->Option (av×ab)
 |.cx _ cs vs=>some (cs,vs)
 |_=>none
def keyOf:D->Option (aa)
 |.tup ks=>intsOf ks
 |_=>none
theorem lW{d:D}{z:av×ab}(h:gd d=some z):∃f,d=.cx f z.1 z.2:=by
 cases d<;>first | (cases h;done) | (cases h;exact⟨_,rfl⟩)
theorem qN{d:D}{c:aa}(h:keyOf d=some c):d=.tup (c.map D.int):=by
 cases d<;>first | (cases h;done)|skip
 rw[cV (show intsOf _=some c from h)]
def Ac(xs:ab):O D:=match two xs with
 |some z=>match gd z.1 with
  |some d=>match keyOf z.2 with
   |some c=>match cH d.1 d.2 c with
    |some v=>if bc anyF v=false then ok v else none
    |none=>none
   |none=>none
  |none=>none
 |none=>none
theorem Dd{xs:ab}{r:D}(h:Ac xs=ok r):∃f cs vs c,xs=[.cx f cs vs,.tup (c.map D.int)]/\cH cs vs c=some r/\bc anyF r=false:=by
 unfold Ac at h;cases h1:two xs with
 |none=>rw[h1]at h;cases h
 |some z =>
  rw[h1]at h;have h:(match gd z.1 with|some d=>(match keyOf z.2 with|some c=>(match cH d.1 d.2 c with|some v=>if bc anyF v=false then ok v else none|none=>none)|none=>none)|none=>none)=ok r:=h;cases h2:gd z.1 with
  |none=>rw[h2]at h;cases h
  |some d =>
   rw[h2]at h;have h:(match keyOf z.2 with|some c=>(match cH d.1 d.2 c with|some v=>if bc anyF v=false then ok v else none|none=>none)|none=>none)=ok r:=h;cases h3:keyOf z.2 with
   |none=>rw[h3]at h;cases h
   |some c =>
    rw[h3]at h;have h:(match cH d.1 d.2 c with|some v=>if bc anyF v=false then ok v else none|none=>none)=ok r:=h;cases h4:cH d.1 d.2 c with
    |none=>rw[h4]at h;cases h
    |some v =>
     rw[h4]at h;obtain⟨hf,rfl⟩:=ka (show(if bc anyF v=false then ok v else none)=ok r from h);obtain⟨f,e1⟩:=lW h2;exact⟨f,d.1,d.2,c,by rw[jv h1,e1,qN h3],h4,hf⟩
def PR(K:ao):R2:=λx y H Q=>∃p b cs as xs ep c v,x=.ref p/\y=.ref b/\H p=some (.ext (DO p cs as xs ep))/\eL (aU K H) as cs/\aU K H b (c.map V.int)/\cH cs xs c=some v/\Q v H
theorem Cs(hu:X.A.units+1<cLine):DU X (PR X.K):=by
 intro value slice pins s σ H x y v u Q I rx ry h hs;obtain⟨p,b,cs,as,xs,ep,c,w,rfl,rfl,hp,hk,hb,hg,q⟩:=h;cases rx;cases ry;obtain⟨zs,o,es,e1,e2,e3,ho,hx,hd,dd,_,hl,zj⟩:=vc I hp hk;have T9:=pU (cs:=cs) e3 c;rw[hg]at T9;obtain⟨u,QK,ru⟩:=AK.some_of T9;have:(atKey zs c).map (·.2)=some u:=by rw[n4,e1];exact QK
 obtain⟨q',QS,rfl⟩:=Option.map_eq_some_iff.mp this;exact Zo (x:=q'.2) dd.typeIs PySem.F.slot_dict_getitem.lookup
  (wpAny_getItem_heap (Q:=λr s'=>r=q'.2/\EP X pins σ Q r s') (tupleKind_room_in1 hu) (sT I hb) dd QS ⟨rfl,w,H,I.tok _,ru,q⟩) hs
def tR(_:Scope)(_:af)(e:Expr):Option (ai):=match mi e with
 |some z=>some [z.1,z.2]
 |none=>none
theorem Iq{n:Nat}(hΦ:Φ n=Ac){sc:Scope}{bl:af}{k:Nat}(L:PX X sc bl k){e:Expr}(he:tR sc bl e=some args)(hs:iF X F Φ cs args):PE X e (tD X F Φ (.bq n cs))/\PT X e (dN X F Φ (.bq n cs)):=by
 unfold tR at he;cases h1:mi e with
 |none=>rw[h1]at he;cases he
 |some z =>
  rw[h1]at he;cases he;obtain⟨pos,rfl⟩:=eQ h1;obtain⟨⟨c1,c2,rfl,p1,p2⟩,_⟩:=oE hs;have this:PE X (.Subscript z.1 z.2 pos) (tD X F Φ (.bq n [c1,c2])):=by
   refine PE.imp (nh (Cs (Eo L.room)) p1 p2 hs.2.2.2.2.2.1) λσ H Q hq=>?_;obtain⟨R,τ,ρ,d,Si,ev,hq⟩:=hq;obtain⟨xs,bt,ev⟩:=aq ev;rw[hΦ]at ev;obtain⟨f,cs,vs,c,rfl,hg,hf⟩:=Dd ev;obtain⟨x,ex,bt⟩:=aq bt;obtain⟨ys,eO,bt⟩:=aq bt;obtain⟨y,ey,RW⟩:=aq eO;cases RW;cases bt;refine tD.intro Si ex λv H1 e1 r1=>tD.intro (Si.go e1) ey λu H2 e2 r2=>?_;obtain⟨τ1,f1,q1⟩:=r1;obtain⟨τ2,f2,q2⟩:=r2;cases q1 with
   |cx hn hk hr=>cases q2 with
    |tup ht QP =>
     cases QP.ofInts;rcases qt hr c with ⟨_,hz⟩|⟨w,d',k',g1,g2,g3,_⟩
     ·rw[hg]at hz;cases hz
     ·rw[hg]at g2;cases g2;refine⟨_,_,_,_,_,_,c,w,rfl,rfl,e2 _ _ hn.dat,hk.imp λ_ _ h=>aU.same e2 h,ht,g1,hq w H2 (e1.trans e2) ⟨λ_=>none,λ_ _ h=>by simp at h,?_⟩⟩;exact(oy (N':=nd X.K R (iQ (gP X F) τ (gc (.bq n [c1,c2]))) (λ_=>none) H1) (k':=[]) g3 hf).imp (λ_ _ h=>aU.same e2 h) λ_ _ _ _ h=>nd.same e2 h
  exact⟨this,bK this λ_=>rfl⟩
def UQ(xs:ab):O D:=match three xs with
 |some z=>match gd z.1 with
  |some d=>match keyOf z.2.1 with
   |some c=>if aR anyF d.2=false/\bc anyF z.2.2=false then ok ((cH d.1 d.2 c).getD z.2.2)else none
   |none=>none
  |none=>none
 |none=>none
def rz(xs:ab):O D:=match three xs with
 |some z=>match z.1 with
  |.cx f cs vs=>match keyOf z.2.2 with
   |some c=>if cp f=true/\bc anyF z.2.1=false/\cs.length<fe then ok (.cx .ow (bx cs c) (bE cs vs c z.2.1))else none
   |none=>none
  |_=>none
 |none=>none
set_option tactic.hygienic true in
theorem rq{d:D}{xs:ab}{r:D}(h:rz (d::xs)=ok r):∃cs vs c x,d=.cx .ow cs vs/\xs=[x,.tup (c.map D.int)]/\bc anyF x=false/\cs.length<fe/\r=.cx .ow (bx cs c) (bE cs vs c x):=by
 unfold rz at h;cases h1:three (d::xs)with
 |none=>rw[h1]at h;cases h
 |some z =>
  rw[h1]at h;have e0:=xM h1;obtain⟨d',x,y⟩:=z;obtain⟨rfl,rfl⟩:d=d'/\xs=[x,y]:=YG e0;cases d<;>first | (cases h;done)|skip
  rename_i f cs vs;have h:(match keyOf y with|some c=>if cp f=true/\bc anyF x=false/\cs.length<fe then ok (D.cx .ow (bx cs c) (bE cs vs c x))else none|none=>none)=ok r:=h;cases h3:keyOf y with
  |none=>rw[h3]at h;cases h
  |some c =>
   rw[h3]at h;obtain⟨⟨hf,hx,hl⟩,rfl⟩:=ka (show(if cp f=true/\bc anyF x=false/\cs.length<fe then ok (D.cx .ow (bx cs c) (bE cs vs c x))else none)=ok r from h);cases f<;>first | (cases hf;done)|exact⟨cs,vs,c,x,rfl,by rw[qN h3],hx,hl,rfl⟩
def pd(_:Scope)(_:af)(st:Stmt):Option (Expr×ai):=(Be st).bind λz=>(one z.1).bind λt=>(mi t).bind λy=>some (y.1,[z.2,y.2])
theorem tQ{sc:Scope}{bl:af}(h:pd sc bl st=some (o,args)):∃v i pos' pos,st=.Assign [.Subscript o i pos'] v pos/\args=[v,i]:=by
 obtain⟨⟨ts,v⟩,h1,h⟩:=bT h;obtain⟨t,h3,h⟩:=bT h;obtain⟨⟨o',i⟩,h5,h⟩:=bT h;cases h;obtain rfl:=bP h3;obtain⟨pos,rfl⟩:=n9 h1;obtain⟨pos',rfl⟩:=eQ h5;exact⟨v,i,pos',pos,rfl,rfl⟩
mutual
theorem any_map(g:Fl->Fl):∀d:D,bc anyF (aI g d)=bc anyF d
 |.bw=>rfl
 |.bl _=>rfl
 |.int _=>rfl
 |.str _=>rfl
 |.tup ds=>rQ g ds
 |.lst _ ds=>rfl
 |.cx _ _ ds=>rfl
theorem rQ(g:Fl->Fl):∀ds:ab,aR anyF (az g ds)=aR anyF ds
 |[]=>rfl
 |d::ds=>by show(bc _ _||aR _ _)=(bc _ d||aR _ ds);rw[any_map g d,rQ g ds]
end
mutual
theorem tX:∀d:D,bc anyF d=false->bc bA d=false
 |.bw,_=>rfl
 |.bl _,_=>rfl
 |.int _,_=>rfl
 |.str _,_=>rfl
 |.tup ds,h=>vD ds h
 |.lst _ ds,h=>nomatch h
 |.cx _ _ ds,h=>nomatch h
theorem vD:∀ds:ab,aR anyF ds=false->aR bA ds=false
 |[],_=>rfl
 |d::ds,h=>by
  have h:=Gi h;show(bc _ d||aR _ ds)=false;rw[tX d h.1,vD ds h.2];rfl
end
theorem any_ints:∀c:aa,aR anyF (c.map D.int)=false
 |[]=>rfl
 |i::c=>any_ints c
theorem Fj{i:Expr}{l:Nat}:swapsWith value (some (.Subscript o i pos')) l env=pure false:=by
 unfold swapsWith;cases value<;>rfl
theorem yn{x:Str}{p0:Pos}{i:Expr}{tv to ti:TE}(hu:X.A.units+1<cLine)(hv:PE X value tv)(ho:PE X (.Name x p0) to)(hi:PE X i ti):
  PS X (.Assign [.Subscript (.Name x p0) i pos'] value pos) (λD σ H=>tv σ H λv H1=>to σ H1 λo H2=>ti σ H2 λy H3=>∃q b cs as xs ep c,o=.ref q/\y=.ref b/\H3 q=some (.ext (DO q cs as xs ep))/\eL (aU X.K H3) as cs/\aU X.K H3 b (c.map V.int)/\cs.length<sizeLine /\
   ∀uZ,D.nx σ (upd H3 q (.ext (DO q (bx cs c) (rS cs as c b) (bE cs xs c v) uZ)))):=by
 intro pins s σ H D I h;refine wpAny_Assign_Subscript (cI (hv pins s σ H _ I h) λr s1 ⟨v,H1,I1,rv,q1⟩=>cI (ho pins s1 σ H1 _ I1 q1) λu s2 ⟨o,H2,I2,rx,q2⟩=>cI (hi pins s2 σ H2 _ I2 q2) λiv s3 bG=>?_) Fj;obtain⟨y,H3,I3,ry,q,b,cs,as,xs,ep,c,eo,ey,hd,hk,hb,hl,q3⟩:=bG;subst eo ey;obtain rfl:u=Value.ref q:=rx;obtain rfl:iv=Value.ref b:=ry;exact tI hu I3 hd hk hb rv hl λuZ s4 I4=>⟨σ,_,I4,q3 uZ⟩
theorem SI.KY{i:Nat}{cs:av}(Si:SI X F R τ ρ σ H)(hi:ρ[i]?=some (some (.cx .ow cs ds))):
  ∃p as xs ep,σ[i]?=some (some (.ref p))/\H p=some (.ext (DO p cs as xs ep))/\τ p=some [i]/\eL (aU X.K H) as cs/\aA (aU X.K H) (nd X.K R (λ_=>False) τ H) [i] 0 xs ds:=by
 obtain⟨v,hv,rp⟩:=Si.rep i _ hi;cases rp with
 |cx h k r=>exact⟨_,_,_,_,hv,h.1,h.2,k,r⟩
theorem C8{n:Nat}(hΦ:Φ n=rz){sc:Scope}{bl:af}{k:Nat}(L:PX X sc bl k)(hN:X.N.Nodup)(uN:∀x,X.fn x=true){x:Str}(he:pd sc bl st=some (.Name x pos,args))
  {i:Nat} (hi:X.N[i]?=some x) (hl:L2.Loc X.env.scope x) (pe:PE X (.Name x pos) (vL i)) (hs:iF X F Φ cs args):PS X st (mV X F Φ (.mut n i cs)):=by
 obtain⟨v,ix,p1,p2,rfl,rfl⟩:=tQ he;obtain⟨⟨c1,c2,rfl,h1,h2⟩,_⟩:=oE hs;refine PS.imp (yn (Eo L.room) h1 pe h2) λD σ H hq=>?_;obtain⟨R,τ,ρ,r,Si,ev,hq⟩:=hq;obtain⟨xs,bt,ev⟩:=aq ev;obtain⟨y,ey,bt⟩:=aq bt;obtain⟨ys,eO,bt⟩:=aq bt;cases bt;obtain⟨kd,ek,RW⟩:=aq eO;cases RW;have key:∃cs vs c,kd=.tup (c.map DI.D.int)/\ρ[i]?=some (some (.cx .ow cs vs))/\bc anyF y=false/\cs.length<fe/\r=(.nx,ρ.set i (some (.cx .ow (bx cs c) (bE cs vs c y)))):=by
  cases hz:aR bA [y,kd]with
  |true =>
   obtain⟨d,d',h⟩:=sL ev hz;rw[hΦ]at h;obtain⟨cs,vs,c,x',_,e1,e2,_⟩:=rq h;have e3:aI aY y=x'/\aI aY kd=.tup (c.map DI.D.int):=by
    have:=YG e1;exact⟨this.1,(YG this.2).1⟩
   have a1:bc bA y=false:=tX y (by rw[<- any_map aY y,e3.1];exact e2);have a2:bc bA kd=false:=tX kd (by rw[<- any_map aY kd,e3.2];exact any_ints c);have:aR bA [y,kd]=false:=by show(bc bA y||(bc bA kd||false))=false;rw[a1,a2];rfl
   rw[this]at hz;cases hz
  |false =>
   obtain⟨d,d',h,h',rfl⟩:=oK ev hz;rw[hΦ]at h';obtain⟨cs,vs,c,x',rfl,e1,e2,e3,rfl⟩:=rq h';cases e1;exact⟨cs,vs,c,rfl,h,e2,e3,rfl⟩
 obtain⟨cs,vs,c,rfl,ho,hf,hc,rfl⟩:=key;obtain⟨p,as,zs,ep,hv,hd,ht,hk,rs⟩:=Si.KY ho;refine tD.intro Si ey λu H1 e1 ru=>⟨.ref p,hv,tD.intro (Si.go e1) ek λw H2 e2 jB=>?_⟩
 obtain⟨τ1,f1,q1⟩:=ru;obtain⟨τ2,f2,q2⟩:=jB;cases q2 with
 | @tup _ b _ _ hb QP =>
  cases QP.ofInts;have es:=e1.trans e2;have pR:=Si.go es;have hd2:=es _ _ hd;have oW:fe=1000000:=rfl;have hz:sizeLine=16777216:=YF;refine⟨p,b,cs,as,zs,ep,c,rfl,rfl,hd2,hk.imp λ_ _ h=>aU.same es h,hb,by left,λuZ=>?_⟩;have hn:dw H2 p (.d cs as zs ep):=hd2;have rk:gj X R τ H2 u y:=lb ((oy (N':=nd X.K R (λ_=>False) τ H1) (k':=[]) q1 hf).imp (λ_ _ h=>aU.same e2 h) λ_ _ _ _ h=>nd.same e2 h) hf;obtain⟨p',UX,Np,WZ,zi,Hl,XU,Q5,iX⟩:=pR.KY ho;rw[hv]at zi;cases zi;rw[hd2]at Hl;obtain⟨τ3,Na⟩:=pR.KN (m:=0) (n':=.d (bx cs c) (rS cs as c b) (bE cs zs c u) uZ) (o:=.ext (DO p (bx cs c) (rS cs as c b) (bE cs zs c u) uZ)) (d1:=.cx .ow (bx cs c) (bE cs vs c y)) (xs':=bE cs zs c u) (ds':=bE cs vs c y) ho hv hn ht (rs.imp (λ_ _ h=>aU.same es h) λ_ _ _ _ h=>nd.same es h) rk aV
   (λhN r=>.cx hN (y8 ((hk.imp λ_ _ h=>aU.same es h).imp λ_ _ h=>xW hn h) (xW hn hb)) r) (λrs r=>yf (λk=>oy r hf) rs)
  exact hq σ _ R τ3 Na (lA pR es (λ_ h=>h) hn ht)
end DI
end
section
namespace DI
open PySem PySem.Spec PyProof.Rows L2 PySem.W
noncomputable def cw{α:Type}(lt:Nat->Nat->Bool):KasT α->α
 |.ret a=>a
 |.ask i j k=>cw lt (k (lt i j))
theorem fC{α β:Type}(lt:Nat->Nat->Bool)(f:α->KasT β):∀t:KasT α,cw lt (t.bind f)=cw lt (f (cw lt t))
 |.ret a=>rfl
 |.ask i j k=>fC lt f (k (lt i j))
section
def hZ{α:Type}(n:Nat)(lt:Nat->Nat->Bool):KasT α->Prop
 |.ret _=>True
 |.ask i j k=>i<n/\j<n/\hZ n lt (k (lt i j))
end
theorem vx{α:Type}{cmp:Nat->Nat->(Bool->Shared->Prop)->Shared->Prop}{lt:Nat->Nat->Bool}{s:Shared}{n:Nat}(hc:∀i j C,i<n->j<n->C (lt i j) s->cmp i j C s){Q:α->Shared->Prop}:
  ∀(t:KasT α),hZ n lt t->Q (cw lt t) s->t.kasWp cmp Q s
 |.ret a,_,h=>h
 |.ask i j k,⟨h1,h2,h3⟩,h=>hc i j _ h1 h2 (vx hc (k (lt i j)) h3 h)
theorem d8{α β:Type}{lt:Nat->Nat->Bool}{n:Nat}{f:α->KasT β}:∀{t:KasT α},hZ n lt t->hZ n lt (f (cw lt t))->hZ n lt (t.bind f)
 |.ret _,_,h=>h
 |.ask i j k,⟨h1,h2,h3⟩,h=>⟨h1,h2,d8 h3 h⟩
structure Ord(lt:Nat->Nat->Bool)(n:Nat):Prop where
 tr:∀a b c,a<n->b<n->c<n->lt a b=true->lt b c=true->lt a c=true
 as:∀a b,a<n->b<n->lt a b=true->lt b a=false
 Nx:∀a b,a<n->b<n->a≠b->lt a b=true\/lt b a=true
structure Arr(p:Array Nat)(n:Nat):Prop where
 sz:p.size=n
 pm:p.toList.Perm (List.range n)
section
variable {lt:Nat->Nat->Bool}{n:Nat}{p:Array Nat}
theorem Arr.bd(h:Arr p n){i:Nat}(hi:i<n):p.getD i 0<n:=by
 have mD:i<p.size:=by rw[h.sz];exact hi
 have:p.getD i 0=p[i]:=by simp[Array.getD,mD]
 rw[this];have hm:p[i]∈p.toList:=Array.getElem_mem_toList mD;exact List.mem_range.mp (h.pm.mem_iff.mp hm)
theorem Arr.inj(h:Arr p n){i j:Nat}(hi:i<n)(hj:j<n)(e:p.getD i 0=p.getD j 0):i=j:=by
 have mD:i<p.toList.length:=by rw[Array.length_toList,h.sz];exact hi
 have Q6:j<p.toList.length:=by rw[Array.length_toList,h.sz];exact hj
 have nd:p.toList.Nodup:=h.pm.nodup_iff.mpr List.nodup_range;have e1:p.getD i 0=p.toList[i]:=by simp[Array.getD,show i<p.size by rw[h.sz];exact hi]
 have e2:p.getD j 0=p.toList[j]:=by simp[Array.getD,show j<p.size by rw[h.sz];exact hj]
 rw[e1,e2]at e;exact(Z3 nd).mp e
def Up(lt:Nat->Nat->Bool)(p:Array Nat)(k:Nat):Prop:=∀i j,i<j->j<k->lt (p.getD i 0) (p.getD j 0)=true
def Dn(lt:Nat->Nat->Bool)(p:Array Nat)(k:Nat):Prop:=∀i j,i<j->j<k->lt (p.getD j 0) (p.getD i 0)=true
theorem Up.snoc(O:Ord lt n)(h:Arr p n){k:Nat}(hk:k<n)(h1:1<=k)(u:Up lt p k)(hl:lt (p.getD (k - 1) 0) (p.getD k 0)=true):Up lt p (k+1):=λi j ib hj=>by
 by_cases e:j=k
 ·subst e;by_cases e2:i=j - 1
  ·subst e2;exact hl
  ·exact O.tr _ _ _ (h.bd (by left)) (h.bd (by left)) (h.bd hk) (u i (j - 1) (by left) (by left)) hl
 ·exact u i j ib (by left)
theorem Dn.snoc(O:Ord lt n)(h:Arr p n){k:Nat}(hk:k<n)(h1:1<=k)(u:Dn lt p k)(hl:lt (p.getD k 0) (p.getD (k - 1) 0)=true):Dn lt p (k+1):=λi j ib hj=>by
 by_cases e:j=k
 ·subst e;by_cases e2:i=j - 1
  ·subst e2;exact hl
  ·exact O.tr _ _ _ (h.bd hk) (h.bd (by left)) (h.bd (by left)) hl (u i (j - 1) (by left) (by left))
 ·exact u i j ib (by left)
theorem pH(O:Ord lt n)(h:Arr p n):∀(f k:Nat),1<=k->k+f<=n->Up lt p k->hZ n lt (kas_asc p f k)/\k<=cw lt (kas_asc p f k)/\cw lt (kas_asc p f k)<=k+f/\Up lt p (cw lt (kas_asc p f k))
 |0,k,_,_,u=>⟨trivial,Yb _,Yb _,u⟩
 |f+1,k,h1,hf,u=>by
  have a1:p.getD k 0<n:=h.bd (by left);have a2:p.getD (k - 1) 0<n:=h.bd (by left);cases c:lt (p.getD k 0) (p.getD (k - 1) 0)with
  |true =>
   have e:cw lt (kas_asc p (f+1) k)=k:=by
    show cw lt (if lt (p.getD k 0) (p.getD (k - 1) 0)=true then .ret k else kas_asc p f (k+1))=k;rw[c];rfl
   refine⟨⟨a1,a2,?_⟩,by rw[e];exact Yb _,by rw[e];left,by rw[e];exact u⟩;show hZ n lt (if lt (p.getD k 0) (p.getD (k - 1) 0)=true then .ret k else kas_asc p f (k+1));rw[c];trivial
  |false =>
   have e:cw lt (kas_asc p (f+1) k)=cw lt (kas_asc p f (k+1)):=by
    show cw lt (if lt (p.getD k 0) (p.getD (k - 1) 0)=true then .ret k else kas_asc p f (k+1))=_;rw[c];rfl
   have hl:lt (p.getD (k - 1) 0) (p.getD k 0)=true:=by
    rcases O.Nx _ _ a2 a1 (λz=>absurd (h.inj (by left) (by left) z) (by left))with z|z
    ·exact z
    ·rw[c]at z;cases z
   obtain⟨b1,b2,b3,b4⟩:=pH O h f (k+1) (by left) (by left) (u.snoc O h (by left) h1 hl);refine⟨⟨a1,a2,?_⟩,by rw[e];left,by rw[e];left,by rw[e];exact b4⟩;show hZ n lt (if lt (p.getD k 0) (p.getD (k - 1) 0)=true then .ret k else kas_asc p f (k+1));rw[c];exact b1
theorem vd(O:Ord lt n)(h:Arr p n):∀(f k:Nat),1<=k->k+f<=n->Dn lt p k->hZ n lt (kas_desc f p k 0)/\∃m,cw lt (kas_desc f p k 0)=(p,m,0)/\k<=m/\m<=k+f/\Dn lt p m
 |0,k,_,_,u=>⟨trivial,k,rfl,Yb _,Yb _,u⟩
 |f+1,k,h1,hf,u=>by
  have a1:p.getD k 0<n:=h.bd (by left);have a2:p.getD (k - 1) 0<n:=h.bd (by left);cases c:lt (p.getD k 0) (p.getD (k - 1) 0)with
  |true =>
   obtain⟨b1,m,b2,b3,b4,b5⟩:=vd O h f (k+1) (by left) (by left) (u.snoc O h (by left) h1 c);have e:kas_desc (f+1) p k 0=.ask (p.getD k 0) (p.getD (k - 1) 0) λc=>if c=true then(if (0:Nat)>0 then kas_desc f (kas_rev p (k - (0+1)) k) (k+1) 0 else kas_desc f p (k+1) 0)else .ask (p.getD (k - 1) 0) (p.getD k 0) λd=>if d=true then .ret (p,k,0)else kas_desc f p (k+1) (0+1):=rfl
   rw[e];refine⟨⟨a1,a2,?_⟩,m,?_,by left,by left,b5⟩
   ·rw[c];exact b1
   ·show cw lt (if lt (p.getD k 0) (p.getD (k - 1) 0)=true then _ else _)=_;rw[c];exact b2
  |false =>
   have hl:lt (p.getD (k - 1) 0) (p.getD k 0)=true:=by
    rcases O.Nx _ _ a2 a1 (λz=>absurd (h.inj (by left) (by left) z) (by left))with z|z
    ·exact z
    ·rw[c]at z;cases z
   have e:kas_desc (f+1) p k 0=.ask (p.getD k 0) (p.getD (k - 1) 0) λc=>if c=true then(if (0:Nat)>0 then kas_desc f (kas_rev p (k - (0+1)) k) (k+1) 0 else kas_desc f p (k+1) 0)else .ask (p.getD (k - 1) 0) (p.getD k 0) λd=>if d=true then .ret (p,k,0)else kas_desc f p (k+1) (0+1):=rfl
   rw[e];refine⟨⟨a1,a2,?_⟩,k,?_,Yb _,by left,u⟩
   ·rw[c];exact⟨a2,a1,by rw[hl];trivial⟩
   ·show cw lt (if lt (p.getD k 0) (p.getD (k - 1) 0)=true then _ else _)=_;rw[c];show cw lt (if lt (p.getD (k - 1) 0) (p.getD k 0)=true then _ else _)=_;rw[hl];rfl
theorem kF{p q:Array Nat}{i j:Nat}(h:p[i]?=q[j]?):p.getD i 0=q.getD j 0:=by
 rw[Array.getD_eq_getD_getElem?,Array.getD_eq_getD_getElem?,h]
theorem FT(h:Arr p n){m:Nat}(hm:m<=n):Arr (kas_rev p 0 m) n/\(Dn lt p m->Up lt (kas_rev p 0 m) m):=by
 have hs:(kas_rev p 0 m).size=p.size:=mirror_size _ _ _ _;refine⟨⟨by rw[hs];exact h.sz,?_⟩,λu i j ib hj=>?_⟩
 ·have:=(mirror_perm p 0 m ((m - 0) / 2)).toList;exact this.trans h.pm
 ·have g:∀k,k<m->(kas_rev p 0 m).getD k 0=p.getD (m - 1 - k) 0:=λk hk=>by
   refine kF ?_;rw[show kas_rev p 0 m=mirror p 0 m ((m - 0) / 2) from rfl,getElem?_mirror_all (by rw[h.sz];exact hm),if_pos ⟨Nat.zero_le _,hk⟩];congr 1;left
  rw[g i (by left),g j hj];exact u (m - 1 - j) (m - 1 - i) (by left) (by left)
theorem xQ(O:Ord lt n)(h:Arr p n){m:Nat}(h1:1<=m)(hm:m<=n)(u:Dn lt p m):hZ n lt (kas_tail3 m n p)/\∃r,cw lt (kas_tail3 m n p)=r/\Arr r.2 n/\1<=r.1/\r.1<=n/\Up lt r.2 r.1:=by
 obtain⟨a1,a2⟩:=FT (lt:=lt) h hm;obtain⟨b1,b2,b3,b4⟩:=pH O a1 (n - m) m h1 (by left) (a2 u);unfold kas_tail3;refine⟨d8 b1 trivial,_,rfl,?_⟩;rw[fC];exact⟨a1,Yi h1 b2,by show cw lt _<=n;left,b4⟩
theorem Ah(O:Ord lt n)(h:Arr p n)(hn:2<=n):hZ n lt (kas_count n p)/\∃r,cw lt (kas_count n p)=r/\Arr r.2 n/\1<=r.1/\r.1<=n/\Up lt r.2 r.1:=by
 obtain⟨b1,b2,b3,b4⟩:=pH O h (n - 1) 1 (Yb _) (by left) (λi j _ _=>by left);generalize hk:cw lt (kas_asc p (n - 1) 1)=k at *;have key:∀t:KasT (Nat×Array Nat),t=(if (k==n)=true then .ret (k,p)else if k>1 then .ask (p.getD 0 0) (p.getD (k - 1) 0) λc=>if c=true then .ret (k,p)else kas_descPart k n (kas_rev p 0 k)else kas_descPart k n p) ->
   hZ n lt t/\∃r,cw lt t=r/\Arr r.2 n/\1<=r.1/\r.1<=n/\Up lt r.2 r.1:=by
  intro t ht;by_cases e:k=n
  ·rw[if_pos (by simpa using e)]at ht;subst ht;exact⟨trivial,(k,p),rfl,h,b2,by show k<=n;left,b4⟩
  ·rw[if_neg (by simpa using e)]at ht;by_cases e1:k>1
   ·rw[if_pos e1]at ht;subst ht;have hl:lt (p.getD 0 0) (p.getD (k - 1) 0)=true:=b4 0 (k - 1) (by left) (by left);refine⟨⟨h.bd (by left),h.bd (by left),by rw[hl];trivial⟩,(k,p),?_,h,b2,by left,b4⟩;show cw lt (if lt (p.getD 0 0) (p.getD (k - 1) 0)=true then _ else _)=_;rw[hl];rfl
   ·rw[if_neg e1]at ht;have Wo:k=1:=by left
    subst Wo;subst ht;have hl:lt (p.getD 1 0) (p.getD 0 0)=true:=by
     have a1:p.getD 1 0<n:=h.bd (by left);have a0:p.getD 0 0<n:=h.bd (by left);cases c:lt (p.getD 1 0) (p.getD 0 0)with
     |true=>rfl
     |false =>
      exfalso;obtain⟨f,hf⟩:∃f,n - 1=f+1:=⟨n - 2,by left⟩
      rw[hf]at hk;have e':cw lt (kas_asc p (f+1) 1)=cw lt (kas_asc p f 2):=by
       show cw lt (if lt (p.getD 1 0) (p.getD (1 - 1) 0)=true then .ret 1 else kas_asc p f 2)=_;rw[show(1 - 1:Nat)=0 from rfl,c];rfl
      rw[e']at hk;have u2:Up lt p 2:=λi j ib hj=>by
       have:i=0/\j=1:=by left
       obtain⟨rfl,rfl⟩:=this;rcases O.Nx _ _ a0 a1 (λz=>absurd (h.inj (by left) (by left) z) (by left))with z|z
       ·exact z
       ·rw[c]at z;cases z
      obtain⟨_,c2,_,_⟩:=pH O h f 2 (by left) (by left) u2;left
    have d2:Dn lt p 2:=λi j ib hj=>by
     have:i=0/\j=1:=by left
     obtain⟨rfl,rfl⟩:=this;exact hl
    obtain⟨c1,m,c2,c3,c4,c5⟩:=vd O h (n - 2) 2 (by left) (by left) d2;obtain⟨t1,r,t2,t3⟩:=xQ O h (m:=m) (by left) (by left) c5;unfold kas_descPart;refine⟨d8 c1 ?_,r,?_,t3⟩
    ·rw[show(1+1:Nat)=2 from rfl,show n - 2=n - 2 from rfl,c2];exact t1
    ·rw[fC,show(1+1:Nat)=2 from rfl,c2];exact t2
 have e:=key _ rfl;refine⟨?_,?_⟩
 ·unfold kas_count;exact d8 b1 (by rw[hk];exact e.1)
 ·unfold kas_count;rw[fC,hk];exact e.2
theorem Arr.or(O:Ord lt n)(h:Arr p n){i j:Nat}(hi:i<n)(hj:j<n)(e:i≠j)(c:lt (p.getD i 0) (p.getD j 0)=false):lt (p.getD j 0) (p.getD i 0)=true:=by
 rcases O.Nx _ _ (h.bd hi) (h.bd hj) (λz=>e (h.inj hi hj z))with z|z
 ·rw[c]at z;cases z
 ·exact z
theorem lg(O:Ord lt n)(h:Arr p n){k:Nat}(hk:k<n)(u:Up lt p k):∀(f l r:Nat),l<=r->r<=k->r - l<=f->(∀i,i<l->lt (p.getD i 0) (p.getD k 0)=true)->(∀i,r<=i->i<k->lt (p.getD k 0) (p.getD i 0)=true) ->
  hZ n lt (kas_place p k f l r)/\∃m,cw lt (kas_place p k f l r)=m/\m<=k/\(∀i,i<m->lt (p.getD i 0) (p.getD k 0)=true)/\∀i,m<=i->i<k->lt (p.getD k 0) (p.getD i 0)=true
 |0,l,r,hl,hr,hf,a,b=>by
  have:l=r:=by left
  subst this;exact⟨trivial,l,rfl,hr,a,b⟩
 |f+1,l,r,hl,hr,hf,a,b=>by
  have e:kas_place p k (f+1) l r=if l ≥ r then .ret l else .ask (p.getD k 0) (p.getD ((l+r) / 2) 0) λc=>if c=true then kas_place p k f l ((l+r) / 2)else kas_place p k f ((l+r) / 2+1) r:=rfl
  rw[e];by_cases Hi:l ≥ r
  ·rw[if_pos Hi];have:l=r:=by left
   subst this;exact⟨trivial,l,rfl,hr,a,b⟩
  ·rw[if_neg Hi];have hm:l<=(l+r) / 2/\(l+r) / 2<r:=by left
   generalize (l+r) / 2=m at *;have b1:p.getD k 0<n:=h.bd hk;have b2:p.getD m 0<n:=h.bd (by left);cases c:lt (p.getD k 0) (p.getD m 0)with
   |true =>
    obtain⟨c1,m',c2,c3⟩:=lg O h hk u f l m hm.1 (by left) (by left) a λi h1 h2=>by
     by_cases e:i=m
     ·subst e;exact c
     ·exact O.tr _ _ _ b1 b2 (h.bd (by left)) c (u m i (by left) h2)
    refine⟨⟨b1,b2,by rw[c];exact c1⟩,m',?_,c3⟩;show cw lt (if lt (p.getD k 0) (p.getD m 0)=true then _ else _)=_;rw[c];exact c2
   |false =>
    have pP:=h.or O hk (by left) (by left) c;obtain⟨c1,m',c2,c3⟩:=lg O h hk u f (m+1) r (by left) hr (by left) (λi hi=>by
     by_cases e:i=m
     ·subst e;exact pP
     ·exact O.tr _ _ _ (h.bd (by left)) b2 b1 (u i m (by left) (by left)) pP) b
    refine⟨⟨b1,b2,by rw[c];exact c1⟩,m',?_,c3⟩;show cw lt (if lt (p.getD k 0) (p.getD m 0)=true then _ else _)=_;rw[c];exact c2
theorem wZ(h:Arr p n){k m:Nat}(hk:k<n)(hm:m<=k)(u:Up lt p k)(a:∀i,i<m->lt (p.getD i 0) (p.getD k 0)=true)(b:∀i,m<=i->i<k->lt (p.getD k 0) (p.getD i 0)=true):
  Arr (bubble p k (k - m)) n/\Up lt (bubble p k (k - m)) (k+1):=by
 have hs:(bubble p k (k - m)).size=p.size:=bubble_size _ _ _;refine⟨⟨by rw[hs];exact h.sz,(bubble_perm p k (k - m)).toList.trans h.pm⟩,λi j ib hj=>?_⟩;have g:∀t,(bubble p k (k - m)).getD t 0=if t=m then p.getD k 0 else if m<t/\t<=k then p.getD (t - 1) 0 else p.getD t 0:=λt=>by
  have e:=getElem?_bubble (xs:=p) (src:=k) (by rw[h.sz];exact hk) (k - m) (Nat.sub_le _ _) t;rw[show k - (k - m)=m by left]at e;by_cases h1:t=m
  ·rw[if_pos h1]at e ⊢;exact kF e
  ·rw[if_neg h1]at e ⊢;by_cases h2:m<t/\t<=k
   ·rw[if_pos h2]at e ⊢;exact kF e
   ·rw[if_neg h2]at e ⊢;exact kF e
 rw[g i,g j];by_cases i1:i=m
 ·rw[if_pos i1,if_neg (by left),if_pos (by left)];exact b (j - 1) (by left) (by left)
 ·rw[if_neg i1];by_cases i2:m<i/\i<=k
  ·rw[if_pos i2,if_neg (by left),if_pos (by left)];exact u (i - 1) (j - 1) (by left) (by left)
  ·rw[if_neg i2];by_cases j1:j=m
   ·rw[if_pos j1];exact a i (by left)
   ·rw[if_neg j1];by_cases j2:m<j/\j<=k
    ·rw[if_pos j2];by_cases e:i=j - 1
     ·left
     ·exact u i (j - 1) (by left) (by left)
    ·rw[if_neg j2];exact u i j ib (by left)
end
theorem Aw{lt:Nat->Nat->Bool}{n:Nat}(O:Ord lt n):∀(f:Nat) {p:Array Nat} {k:Nat},Arr p n->k+f=n->Up lt p k->hZ n lt (kas_bin f p k)/\Arr (cw lt (kas_bin f p k)) n/\Up lt (cw lt (kas_bin f p k)) n
 |0,p,k,h,hk,u=>⟨trivial,h,by rw[<- hk];exact u⟩
 |f+1,p,k,h,hk,u=>by
  obtain⟨a1,m,a2,a3,a4,a5⟩:=lg O h (k:=k) (by left) u k 0 k (Yy _) (Yb _) (Yb _) (λi hi=>by left) (λi h1 h2=>by left);obtain⟨b1,b2⟩:=wZ h (by left) a3 u a4 a5;obtain⟨c1,c2,c3⟩:=Aw O f b1 (by left) b2;have e:kas_bin (f+1) p k=(kas_place p k k 0 k).bind λl=>kas_bin f (bubble p k (k - l)) (k+1):=rfl;rw[e];refine⟨d8 a1 (by rw[a2];exact c1),?_⟩;rw[fC,a2];exact⟨c2,c3⟩
theorem Bv{lt:Nat->Nat->Bool}{n:Nat}(O:Ord lt n)(hn:2<=n):hZ n lt (kas_sort n)/\Arr (cw lt (kas_sort n)) n/\Up lt (cw lt (kas_sort n)) n:=by
 have h0:Arr (List.toArray (List.range n)) n:=⟨by simp,by simp⟩
 obtain⟨a1,r,a2,a3,a4,a5,a6⟩:=Ah O h0 hn;unfold kas_sort;have key:∀t,t=(if r.1<n then kas_bin (n - max r.1 1) r.2 (max r.1 1)else .ret r.2)->hZ n lt t/\Arr (cw lt t) n/\Up lt (cw lt t) n:=by
  intro t ht;by_cases h:r.1<n
  ·rw[if_pos h]at ht;subst ht;rw[show max r.1 1=r.1 by left];exact Aw O _ a3 (by left) a6
  ·rw[if_neg h]at ht;subst ht;have:r.1=n:=by left
   exact⟨trivial,a3,by rw[this]at a6;exact a6⟩
 have e:=key _ rfl;refine⟨d8 a1 (by rw[a2];exact e.1),?_⟩;rw[fC,a2];exact e.2
end DI
end
section
namespace DI
open PySem PySem.Spec PyProof.Rows L2
def mM(h:Heap)(vs:ak)(nss:av):Prop:=vs.length=nss.length/\∀(i:Nat) (ns:aa),nss[i]?=some ns->∃t aF,vs[i]?=some (.ref t)/\IsTup h t aF.toArray/\IntsAre aF ns
variable {h':Heap}{nss:av}{vs:ak}
theorem mM.mono{h:Heap}(k:∀b o,h.get? b=some o->h'.get? b=some o)(t:mM h vs nss):mM h' vs nss :=
 ⟨t.1,λi ns e=>let ⟨a,aF,e1,⟨o,ho,r⟩,e3⟩:=t.2 i ns e;⟨a,aF,e1,⟨o,k _ _ ho,r⟩,e3⟩⟩
theorem mM.mem{h:Heap}(t:mM h vs nss){v:Value}(hv:v∈vs):∃a aF ns,v=.ref a/\IsTup h a aF.toArray/\IntsAre aF ns:=by
 obtain⟨i,hi⟩:=List.mem_iff_getElem?.mp hv;have hl:i<nss.length:=by rw[<- t.1];exact(List.getElem?_eq_some_iff.mp hi).1
 obtain⟨a,aF,e1,e2,e3⟩:=t.2 i _ (Yh hl);rw[hi]at e1;cases e1;exact⟨a,aF,_,rfl,e2,e3⟩
variable {ns:aa}
section
variable {prog:aE}{w:World}{A:aD}{E:aB}{s:Shared}
theorem lP:∀{vs:ak} {nss:av} {Q:List (Option Value)->Shared->Prop},mM s.heap vs nss->(∀fs:List (Option Value),fs.length=vs.length->(∀f∈fs,∀v,f=some v->∃n t,v=.int n t)->Q fs s)->wpAny (model prog w) A (vs.mapM firstOfTuple') Q E s
 |[],_,_,_,h=>by rw[List.mapM_nil];exact X6 (h [] rfl λ_ h=>nomatch h)
 |v::vs,[],_,t,_=>by have:=t.1;simp at this
 |v::vs,ns::nss,Q,t,h=>by
  obtain⟨a,aF,e,⟨o,ho,hc,n,hd⟩,hi⟩:=t.2 0 ns rfl;cases e;rw[List.mapM_cons];refine X4 ?_;rw[PySem.W.kas_first_eq];refine X4 (PySem.W.Looks.here (show PySem.W.Looks (model prog w) s.heap (typeOf (.ref a)) o.cls from(PySem.W.Looks.ld ho).andThen .now) ?_);rw[hc,if_neg (by first|decide|simp)];refine X4 (listItems_at ho hd (X6 ?_));refine X4 (lP (vs:=vs) (nss:=nss) ⟨by simpa using t.1,λi ms e=>t.2 (i+1) ms e⟩ λfs h1 h2=>X6 (h _ (by simp[h1]) λf hf v hv=>?_));rcases List.mem_cons.mp hf with rfl|hf
  ·cases hi with
   |nil=>simp at hv
   |cons a' tk hi=>simp at hv;exact⟨_,_,hv.symm⟩
  ·exact h2 f hf v hv
def EN(κ:SortKind):Prop:=κ=tuples' true\/κ=general'\/κ=oneType'
theorem kind_any{Q:SortKind->Shared->Prop}(t:mM s.heap vs nss)(zr:vs≠[])(h:∀κ,EN κ->Q κ s):wpAny (model prog w) A (keyKind' vs.toArray) Q E s:=by
 obtain⟨v0,vr,rfl⟩:∃v0 vr,vs=v0::vr:=by
  cases vs with
  |nil=>exact absurd rfl zr
  |cons v0 vr=>exact⟨v0,vr,rfl⟩
 rw[kat_kind_eq,List.mapM_toArray,map_eq_pure_bind];refine X4 (X4 (lP t λfs hl hf=>X6 ?_));by_cases ha:(fs.toArray.all λx=>x.isSome)=true
 ·rw[if_pos ha];refine X4 (wpAny_rule ?_);obtain⟨gs,hg,hgi⟩:∃gs:ak,fs=gs.map some/\∀v∈gs,∃n t,v=.int n t:=by
   clear h hl t;induction fs with
   |nil=>exact⟨[],rfl,λ_ h=>nomatch h⟩
   |cons f fs ih =>
    simp only[List.all_toArray,List.all_cons,Bool.and_eq_true]at ha;obtain⟨gs,e1,e2⟩:=ih (λf Wv=>hf f (X_ _ Wv)) (by simpa using ha.2);cases f with
    |none=>simp at ha
    |some v =>
     exact⟨v::gs,by rw[e1];rfl,λu hu=>by
      rcases List.mem_cons.mp hu with rfl|hu
      ·exact hf _ X9 _ rfl
      ·exact e2 u hu⟩
  subst hg;obtain⟨g0,gr,rfl⟩:∃g0 gr,gs=g0::gr:=by
   cases gs with
   |nil=>simp at hl
   |cons a b=>exact⟨a,b,rfl⟩
  have Ws:(((g0::gr).map some).toArray.filterMap id)=(g0::gr).toArray:=by simp
  rw[Ws,oneTypeOnly'_eq,List.mapM_toArray,map_eq_pure_bind];refine X4 (X4 (X4 (PySem.W.kas_mapM (r:=Value.type "int") _ (λv hv Q' hq=>by
   obtain⟨n,t,rfl⟩:=hgi v hv;exact(PySem.W.Looks.of_pure (M:=model prog w) rfl).here hq) (X6 ?_))))
  have zH:((List.map (λ_=>Value.type "int") (g0::gr)).toArray.all λx=>x==Value.type "int")=true:=by
   simp only[List.all_toArray,List.all_map,List.all_eq_true];intro _ _;show(Value.type "int" == Value.type "int")=true;decide
  have h0:(List.map (λ_=>Value.type "int") (g0::gr)).toArray[0]?=some (Value.type "int"):=by simp
  rw[h0];simp only[zH,if_true];exact X6 (X6 (h _ (.inl rfl)))
 ·rw[if_neg ha];by_cases hb:((fs.toArray[0]?.bind id).isSome)=true
  ·rw[if_pos hb];exact X6 (h _ (.inr (.inl rfl)))
  ·rw[if_neg hb];rw[oneTypeOnly'_eq,List.mapM_toArray,map_eq_pure_bind];refine X4 (X4 (X4 (PySem.W.kas_mapM (r:=Value.type "tuple") _ (λv hv Q' hq=>by
    obtain⟨a,aF,ns,rfl,⟨o,ho,hc,_⟩,_⟩:=t.mem hv;refine PySem.W.Looks.here (show PySem.W.Looks (model prog w) s.heap (typeOf (.ref a)) o.cls from(PySem.W.Looks.ld ho).andThen .now) ?_;rw[hc];exact hq) (X6 ?_))))
   have zH:((List.map (λ_=>Value.type "tuple") (v0::vr)).toArray.all λx=>x==Value.type "tuple")=true:=by
    simp only[List.all_toArray,List.all_map,List.all_eq_true];intro _ _;show(Value.type "tuple" == Value.type "tuple")=true;decide
   have h0:(List.map (λ_=>Value.type "tuple") (v0::vr)).toArray[0]?=some (Value.type "tuple"):=by simp
   rw[h0];simp only[zH,if_true];exact X6 (X6 (h _ (.inr (.inr rfl))))
theorem GF{κ:SortKind}(hk:EN κ)(hu:A.units<cLine){a b:Addr}{aF Cq:ak}{ms:aa}{Q:Bool->Shared->Prop}(ha:IsTup s.heap a aF.toArray)(hb:IsTup s.heap b Cq.toArray)(hi:IntsAre aF ns)(hj:IntsAre Cq ms)(h:Q (HT.lexLt ns ms) s):
  wpAny (model prog w) A (keyLt' κ (.ref a) (.ref b)) Q E s:=by
 rcases hk with rfl|rfl|rfl
 ·obtain⟨o,ho,_,n,hd⟩:=ha;obtain⟨o',eM,_,n',Hl⟩:=hb;exact PySem.W.kat_lt ho hd eM Hl (qJ 0 hi hj (by simp) h)
 ·exact PySem.W.kat_one _ _ (HT.sP ha hb (by simpa using hi) (by simpa using hj) hu h)
 ·show wpAny (model prog w) A (oneLt' true (.ref a) (.ref b)) Q E s;rw[oneLt'_eq];simp only[if_true];refine X4 (wpAny_cRoomFor hu ?_);obtain⟨⟨cls,dd,data,sl⟩,ho,hc,n,hd⟩:=id ha;obtain⟨⟨Dj,ve,data2,uj⟩,oT,hc2,n2,hd2⟩:=id hb;simp only at hc hd hc2 hd2;subst hc hd hc2 hd2;refine X4 (wpAny_callSpecialIfBound?_slot (name:=Str.ofString "__lt__") ⟨_,ho,rfl⟩ Zv (YJ Zv ⟨_,ho,rfl⟩ PySem.F.entry_tuple_lt (PySem.F.args_tuple_lt_2 _ _) (HT.h_ a b _ _ n n2 dd ve sl uj ns ms (by simpa using hi) (by simpa using hj)) ⟨ho,oT,?_⟩));exact YL h
end
def hU(h:Heap)(d:Addr)(es:Array DictEntry)(ep:Nat):Prop:=∃o,h.get? d=some o/\o.ExactDict/\o.data=.dict es ep
variable {Q:Value->Shared->Prop}
section
variable {prog:aE}{w:World}{A:aD}{E:aB}{s:Shared}{d it:Addr}{es:Array DictEntry}{ep i:Nat}
theorem hU.typeIs(h:hU s.heap d es ep):s.TypeIs (.ref d) "dict":=let ⟨o,ho,hx,_⟩:=h;⟨o,ho,hx.1⟩
theorem Dc(hd:(d==sysModules)=false)(hm:hU s.heap d es ep)
  (hQ:Q (.ref s.heap.objs.size) { s with heap:=s.heap.push { cls:=.type "dict_keyiterator",data:=.fields #[.ref d,.int 0 0,.int es.size 0,.int ep 0] } }):wpAny (model prog w) A (pyIter (.ref d)) Q E s:=by
 have hT:=hm.typeIs;obtain⟨o,ho,hx,zB⟩:=hm;refine wpAny_pyIter_slot hT PySem.F.slot_dict_iter (Yz PySem.F.slot_dict_iter hT PySem.F.entry_dict_iter ?_ (PySem.F.args_dict_iter_1 _));unfold Builtin.«dict.__iter__» Builtin.Dict.dictSlotNone;refine X4 (X4 (wpAny_notOrdered_dict hT (X6 ?_)));show wpAny _ _ (Builtin.Dict.showsAll d >>= _) _ _ s;unfold Builtin.Dict.showsAll;rw[if_neg (by rw[hd];exact Bool.false_ne_true)];refine X4 (X6 (X4 (YW ho zB (X4 (Y2 ho zB ?_)))));exact X4 (YB (X6 ⟨_,rfl,"dict_keyiterator",_,⟨_,Yd _ rfl,rfl⟩,PySem.F.slot_dict_keyiterator_next.lookup,hQ⟩))
theorem C_{Q:Option Value->Shared->Prop}(hit:s.heap.IsKeyIter it d i es.size ep)(hm:hU s.heap d es ep)(fj:i<es.size)
  (hQ:∀h',h'.IsKeyIter it d (i+1) es.size ep->Heap.SameBut it s.heap h'->Q (some es[i].key) { s with heap:=h' }):wpAny (model prog w) A (pyNext (.ref it)) Q E s:=by
 obtain⟨o,ho,hc,hd⟩:=id hit;obtain⟨od,zq,wy,zA⟩:=hm;unfold pyNext;refine X4 (Y6 (YD (name:=Str.ofString "__next__") hit.typeIs YE (Yz YE hit.typeIs PySem.F.entry_dict_keyiterator_next ?_ (PySem.F.args_dict_keyiterator_next_1 _))));refine X4 (X6 (X4 (X4 ?_)))
 first|refine X4 (YM hit.typeIs (X6 ?_))|refine X4 (YY hit.typeIs (X6 ?_))
 refine X4 (ZQ ho hd ?_);simp only[show Builtin.Dict_items.ownsTuple "dict_keyiterator" = false by decide,Y3,Z7];show wpAny _ _ (if (Value.ref d==Value.none)=true then _ else _) _ _ s;rw[if_neg (show ¬ ((Value.ref d==Value.none)=true) from Bool.false_ne_true)];refine X4 (X6 (X4 (YW zq zA ?_)));rw[if_neg (by simp)];refine X4 (X6 (X4 (Y2 zq zA ?_)));rw[if_neg (by simp)];refine X6 ?_;simp only[show ¬ ((i:Int)<0) from by left,if_false,Int.toNat_natCast,Array.getElem?_eq_getElem fj];refine X4 ?_
 first|refine X4 (YM hit.typeIs (X6 ?_))|refine X4 (YY hit.typeIs (X6 ?_))
 refine X4 (wpAny_isOneOf_keyiter hit.typeIs ?_);show wpAny _ _ (setField (.ref it) 1 (rawInt ((i:Int)+1)) >>= _) _ _ s;refine X4 (ZR ho hd (by simp) ?_);have mC:(s.heap.update it (Obj.mapFields (·.setIfInBounds 1 (rawInt ((i:Int)+1))))).IsKeyIter it d (i+1) es.size ep :=
  ⟨_,YI _ ho (Obj.isFreed_of_fields (Obj.data_mapFields hd _)),(Obj.cls_mapFields ..).trans hc,by rw[Obj.data_mapFields hd];simp[rawInt]⟩
 refine X4 (Yx (X4 (wpAny_isOneOf_keyiter (s:={ s with heap:=s.heap.update it (Obj.mapFields (·.setIfInBounds 1 (rawInt ((i:Int)+1)))) }) mC.typeIs ?_)));show wpAny _ _ (pure es[i].key) _ _ _;exact X6 (X6 ⟨_,rfl,X6 (hQ _ mC (Y9 ..))⟩)
theorem Io{Q:Option Value->Shared->Prop}(hh:A.handled=none)(hit:s.heap.IsKeyIter it d i es.size ep)(hm:hU s.heap d es ep)(Q8:es.size<=i)
  (hQ:∀h',Heap.ExtBut it s.heap h'->Q none { s with heap:=h' }):wpAny (model prog w) A (pyNext (.ref it)) Q E s:=by
 obtain⟨o,ho,hc,hd⟩:=id hit;obtain⟨od,zq,wy,zA⟩:=hm;unfold pyNext;refine X4 (Y6 (YD (name:=Str.ofString "__next__") hit.typeIs YE (Yz YE hit.typeIs PySem.F.entry_dict_keyiterator_next ?_ (PySem.F.args_dict_keyiterator_next_1 _))));refine X4 (X6 (X4 (X4 ?_)))
 first|refine X4 (YM hit.typeIs (X6 ?_))|refine X4 (YY hit.typeIs (X6 ?_))
 refine X4 (ZQ ho hd ?_);simp only[show Builtin.Dict_items.ownsTuple "dict_keyiterator" = false by decide,Y3,Z7];show wpAny _ _ (if (Value.ref d==Value.none)=true then _ else _) _ _ s;rw[if_neg (show ¬ ((Value.ref d==Value.none)=true) from Bool.false_ne_true)];refine X4 (X6 (X4 (YW zq zA ?_)));rw[if_neg (by simp)];refine X4 (X6 (X4 (Y2 zq zA ?_)));rw[if_neg (by simp)];refine X6 ?_;simp only[show ¬ ((i:Int)<0) from by left,if_false,Int.toNat_natCast,Array.getElem?_eq_none Q8];refine X4 ?_
 first|refine X4 (YM hit.typeIs (X6 ?_))|refine X4 (YY hit.typeIs (X6 ?_))
 show wpAny _ _ (setField (.ref it) 0 .none >>= _) _ _ s;refine X4 (ZR ho hd (by simp) ?_);show wpAny _ _ (newExc (.type "StopIteration") [] >>= _) _ _ _;refine X4 ?_;simp only[newExc,newTuple];refine X4 (YB ?_ (by size_fits));refine X4 (m:=firstArgMember _ _) (wpAny_of_eq (a:=Value.none) (by first|rfl | (simp only[firstArgMember];rfl)) ?_);refine YB ?_ (by size_fits);simp only[raiseNew];refine X4 (wpAny_handled ?_);rw[show A.in1.handled=none from hh];refine X4 (X6 (wpAny_throw ?_));refine X4 (wpAny_isInstance (T:="StopIteration") (b:=true) ⟨_,Yd _ rfl,rfl⟩ isSubtype_stop ?_);exact X6 (hQ _ (((Y9 ..).extBut.push _).push _))
end
theorem sS:∀a b c:aa,HT.lexLt a b=true->HT.lexLt b c=true->HT.lexLt a c=true
 |[],[],_,h,_=>by rw[HT.ia]at h;cases h
 |[],_::_,[],_,h=>by rw[HT.cy]at h;cases h
 |[],_::_,_::_,_,_=>rfl
 |_::_,[],_,h,_=>by rw[HT.cy]at h;cases h
 |_::_,_::_,[],_,h=>by rw[HT.cy]at h;cases h
 |x::a,y::b,z::c,h1,h2=>by
  rw[HT.cQ]at *;by_cases e1:x=y
  ·subst e1;rw[if_pos rfl]at h1;by_cases e2:x=z
   ·subst e2;rw[if_pos rfl]at h2 ⊢;exact sS a b c h1 h2
   ·rw[if_neg e2]at h2 ⊢;exact h2
  ·rw[if_neg e1]at h1;have l1:x<y:=X5 h1;by_cases e2:y=z
   ·subst e2;rw[if_neg (by left)];exact YR l1
   ·rw[if_neg e2]at h2;have l2:y<z:=X5 h2;rw[if_neg (by left)];exact YR (by left)
theorem oP:∀a b:aa,HT.lexLt a b=true->HT.lexLt b a=false
 |[],[],_=>rfl
 |[],_::_,_=>rfl
 |_::_,[],h=>by rw[HT.cy]at h;cases h
 |x::a,y::b,h=>by
  rw[HT.cQ]at *;by_cases e:x=y
  ·subst e;rw[if_pos rfl]at h ⊢;exact oP a b h
  ·rw[if_neg e]at h;have l:x<y:=X5 h;rw[if_neg (by left)];exact Yt (by left)
theorem kC:∀a b:aa,a≠b->HT.lexLt a b=true\/HT.lexLt b a=true
 |[],[],h=>absurd rfl h
 |[],_::_,_=>.inl rfl
 |_::_,[],_=>.inr rfl
 |x::a,y::b,h=>by
  rw[HT.cQ,HT.cQ];by_cases e:x=y
  ·subst e;rw[if_pos rfl,if_pos rfl];exact kC a b λz=>h (by rw[z])
  ·rw[if_neg e,if_neg (Ne.symm e)];rcases Int.lt_or_gt_of_ne e with l|l
   ·exact .inl (YR l)
   ·exact .inr (YR l)
def bF(nss:av):av:=nss.mergeSort λa b=>!HT.lexLt b a
def tY(nss:av):Prop:=nss.Pairwise λa b=>HT.lexLt a b=true
theorem um:∀{l m:av},tY l->tY m->l.Perm m->l=m
 |[],m,_,_,p=>(List.perm_nil.mp p.symm).symm
 |a::l,[],_,_,p=>by have:=p.length_eq;simp at this
 |a::l,b::m,h1,h2,p=>by
  have e:a=b:=by
   have ha:a∈b::m:=p.mem_iff.mp X9;have hb:b∈a::l:=p.mem_iff.mpr X9;rcases List.mem_cons.mp ha with e|ha
   ·exact e
   ·rcases List.mem_cons.mp hb with e|hb
    ·exact e.symm
    ·have l1:=(List.pairwise_cons.mp h2).1 a ha;have l2:=(List.pairwise_cons.mp h1).1 b hb;rw[oP _ _ l1]at l2;cases l2
  subst e;rw[um (List.pairwise_cons.mp h1).2 (List.pairwise_cons.mp h2).2 (List.perm_cons a |>.mp p)]
theorem iq(h:nss.Nodup):tY (bF nss):=by
 have p:(bF nss).Perm nss:=YQ _ _;have nd:(bF nss).Nodup:=p.nodup_iff.mpr h;have sd:(bF nss).Pairwise λa b=>(!HT.lexLt b a)=true:=List.pairwise_mergeSort (λa b c h1 h2=>by
  cases e:HT.lexLt c a with
  |false=>rfl
  |true =>
   exfalso;by_cases tm:b=c
   ·subst tm;rw[e]at h1;cases h1
   ·rcases kC b c tm with l|l
    ·rw[sS _ _ _ l e]at h1;cases h1
    ·rw[l]at h2;cases h2) (λa b=>by
  cases e:HT.lexLt b a with
  |false=>rfl
  |true=>rw[oP _ _ e];rfl) nss
 exact(sd.and nd).imp λ{a b} ⟨h1,h2⟩=>by
  rcases kC a b h2 with l|l
  ·exact l
  ·rw[l]at h1;cases h1
theorem xZ{l:av}(h:nss.Nodup)(hr:tY l)(p:l.Perm nss):l=bF nss:=um hr (iq h) (p.trans (YQ _ _).symm)
def ltN(nss:av)(i j:Nat):Bool:=HT.lexLt (nss.getD i []) (nss.getD j [])
theorem Gg(h:nss.Nodup):Ord (ltN nss) nss.length :=
 ⟨λa b c _ _ _ h1 h2=>sS _ _ _ h1 h2,λa b _ _ h=>oP _ _ h,λa b ha hb tm=>kC _ _ λe=>tm (by
  have e1:nss.getD a []=nss[a]:=by simp[ha]
  have e2:nss.getD b []=nss[b]:=by simp[hb]
  rw[e1,e2]at e;exact(Z3 h).mp e)⟩
theorem mX(h:nss.Nodup){p:Array Nat}(ha:Arr p nss.length)(hu:Up (ltN nss) p nss.length):(p.toList.map λi=>nss.getD i [])=bF nss:=by
 refine xZ h ?_ ?_
 ·refine List.pairwise_iff_getElem.mpr λi j hi hj ib=>?_;simp only[List.length_map,Array.length_toList]at hi hj;have:=hu i j ib (by rw[<- ha.sz];exact hj);unfold ltN at this;have e:∀k (hk:k<p.size),p.getD k 0=p[k]:=λk hk=>by simp[Array.getD,hk]
  rw[e i hi,e j hj]at this;simpa using this
 ·have e:nss=(List.range nss.length).map λi=>nss.getD i []:=by
   refine Z5 (by simp) λi h1 h2=>?_;simp[h1]
  refine(ha.pm.map λi=>nss.getD i []).trans ?_;rw[<- e]
variable {ep:Nat}
section
variable {prog:aE}{w:World}{A:aD}{E:aB}{s:Shared}
theorem xY{a:Addr}{n:Nat}{P:PySem.Fin->Shared->Prop}(hu:A.units<cLine)(ho:s.heap.get? a=some (seqObj "list" vs.toArray n))(uR:vs.length<64)(AU:nss.Nodup)
  (ht:mM (((s.heap.update a (Obj.mapSeq λ_=>#[])).push (seqObj "tuple" vs.toArray 0)).push (seqObj "list" #[] 0)) vs nss)
  (h:∀p:Array Nat,Arr p vs.length->(p.toList.map λi=>nss.getD i [])=bF nss->P (.done (.ret .none)) { s with heap:=sortedHeap s.heap a vs (List.toArray (p.toList.map λi=>vs.getD i Value.none)) }) :
  wpAny (model prog w) A (Builtin.«list.sort» ⟨[.ref a],[]⟩) P E s:=by
 rw[list_sort_plain];have ha:a<s.heap.objs.size:=Ya ho;have hsz:vs.toArray.size=vs.length:=by simp
 have hz:vs.length<=sizeLine:=by rw[sizeLine_eq];left
 have hl:=ht.1;refine X4 (listItems_at ho rfl (X4 (listUpdate_at ho rfl ?_ (by rw[hsz];exact hz) (Yy _))));obtain⟨e1,Jm⟩:∃e1,(s.heap.update a (Obj.mapSeq λ_=>#[])).get? a=some (seqObj "list" #[] e1):=⟨_,get?_update_seq ho (λ_=>#[])⟩
 refine X4 (seqEpoch_at Jm rfl (X4 (wpAny_newTuple (X4 (ZY (Yx ?_) (Yy _))) (by simpa using hz))));have T4:(((s.heap.update a (Obj.mapSeq λ_=>#[])).push (seqObj "tuple" vs.toArray 0)).push (seqObj "list" #[] 0)).get? a=some (seqObj "list" #[] e1):=X8 _ (X8 _ Jm);show wpAny (model prog w) A _ P E ({ s with heap:=((s.heap.update a (Obj.mapSeq λ_=>#[])).push (seqObj "tuple" vs.toArray 0)).push (seqObj "list" #[] 0) }:Shared);dsimp only;have fin:∀(kn:SortSt) (p:Array Nat),Arr p vs.length->(p.toList.map λi=>nss.getD i [])=bF nss->(arrOf kn).map (·.2)=List.toArray (p.toList.map λi=>vs.getD i Value.none)->failedOf kn=none->wpAny (model prog w) A (do
   let touched:=(<- seqEpoch a) != e1
   Builtin.List.listUpdate (.ref a) λ_=>(arrOf kn).map (·.2)
   if let some e:=failedOf kn then rule "list.sort.comparison-raised";throw e
   if touched then rule "list.sort.modified";raiseError "ValueError" "list modified during sort"
   ret .none) P E ({ s with heap:=((s.heap.update a (Obj.mapSeq λ_=>#[])).push (seqObj "tuple" vs.toArray 0)).push (seqObj "list" #[] 0) }:Shared):=by
  intro kn p hp hs hA hF;refine X4 (seqEpoch_at T4 rfl ?_);rw[hA];refine X4 (listUpdate_at T4 rfl ?_ (Yy _) (by rw[List.size_toArray,List.length_map,Array.length_toList,hp.sz];exact Z1 hz));rw[hF];simp only[bne_self_eq_false,Bool.false_eq_true,if_false];exact X6 (h p hp hs)
 by_cases h2:vs.toArray.size<2
 ·rw[if_pos h2,if_pos h2];refine X4 (X6 ?_);rw[StateT.run_pure];refine X4 (X6 ?_);rw[hsz]at h2;have Rl:Arr (List.toArray (List.range vs.length)) vs.length:=⟨by simp,by simp⟩
  refine fin (SortSt.mk' general' (vs.toArray.zip vs.toArray) #[] 7 none) (List.toArray (List.range vs.length)) Rl ?_ ?_ rfl
  ·rw[hl]at Rl ⊢;exact mX AU Rl λi j ib hj=>by left
  ·apply Array.toList_inj.mp;show(Array.map (·.2) (vs.toArray.zip vs.toArray)).toList=_;rw[Array.toList_map,show(vs.toArray.zip vs.toArray)=pairsOf vs from rfl,pairsOf_toList,List.map_snd_zip (Nat.le_refl _)];refine Z5 (by simp) λi h1 h2=>?_;simp[h1]
 ·rw[if_neg h2,if_neg h2];rw[hsz]at h2;refine X4 (kind_any ht (λz=>by rw[z]at h2;simp at h2) λκ hk=>?_);have ok:=Bv (Gg AU) (by rw[<- hl];left);refine X4 (Yp (PySem.W.kat_run (ks:=vs) (vs:=vs) (κ:=κ) (Q:=λkn s'=>s'=({ s with heap:=((s.heap.update a (Obj.mapSeq λ_=>#[])).push (seqObj "tuple" vs.toArray 0)).push (seqObj "list" #[] 0) }:Shared)/\∃p,Arr p vs.length/\(p.toList.map λi=>nss.getD i [])=bF nss/\(arrOf kn).map (·.2)=List.toArray (p.toList.map λi=>vs.getD i Value.none)/\failedOf kn=none)
   (G:=λp s'=>s'=({ s with heap:=((s.heap.update a (Obj.mapSeq λ_=>#[])).push (seqObj "tuple" vs.toArray 0)).push (seqObj "list" #[] 0) }:Shared)/\Arr p vs.length/\(p.toList.map λi=>nss.getD i [])=bF nss) rfl (by left) uR (λp kn s' XX WC hf hG=>⟨hG.1,p,hG.2.1,hG.2.2,PySem.W.kat_snds rfl WC,hf⟩) ?_) (λr s' ⟨e,p,hp,hs,hA,hF⟩=>?_) λ_ _ e=>e)
  rotate_left
  ·subst e;exact fin r.2 p hp hs hA hF
  ·rw[hl];refine vx (lt:=ltN nss) (n:=nss.length) (λi j C hi hj hC=>?_) _ ok.1 ⟨rfl,ok.2.1,mX AU ok.2.1 ok.2.2⟩;obtain⟨x,aF,e1,i1,i2⟩:=ht.2 i _ (Yh hi);obtain⟨y,Cq,e2,j1,j2⟩:=ht.2 j _ (Yh hj);unfold PySem.W.kas_ask;rw[show vs.getD i Value.none=.ref x by simp[e1],show vs.getD j Value.none=.ref y by simp[e2]];refine GF hk hu i1 j1 i2 j2 ?_;have e3:nss.getD i []=nss[i]:=by simp[hi]
   have e4:nss.getD j []=nss[j]:=by simp[hj]
   have Uo:C (HT.lexLt (nss.getD i []) (nss.getD j [])) _:=hC;rw[e3,e4]at Uo;exact Uo
theorem Ab{es:Array DictEntry}(hh:A.handled=none)(I d:Addr)(zr:d≠I):Walks prog w A I [I,d] [I] es.size (λi v=>∃e,es[i]?=some e/\v=e.key) (λi h=>h.IsKeyIter I d i es.size ep/\hU h d es ep) where
 sub:=λb hb=>by simp at hb;simp[hb]
 frame:=λ_ _ _ st hk=>⟨st.1.at λo e=>hk I (by simp) o e,let ⟨o,ho,r⟩:=st.2;⟨o,hk d (by simp) o ho,r⟩⟩
 item:=λi s Q E hi st hQ=>C_ st.1 st.2 hi λh' mC Ep=>hQ _ h' s.toks ⟨es[i],YC hi,rfl⟩ ⟨mC,let ⟨o,ho,r⟩:=st.2;⟨o,Ep.extBut d o zr ho,r⟩⟩ λb o hb e=>Ep.extBut b o (λh=>hb (by simp[h])) e
 done:=λs Q E st hQ=>Io hh st.1 st.2 (Yb _) λh' Rg=>hQ h' s.toks λb o hb e=>Rg b o (λh=>hb (by simp[h])) e
 self:=λ_ _ _ _ st hQ=>wpAny_pyIter_keyiter st.1 hQ
theorem Im{d:Addr}{es:Array DictEntry}(lo:(d==sysModules)=false):PySem.W.KdlSrc prog w "dict" d d es.size (λi v=>∃e,es[i]?=some e/\v=e.key) (λh=>hU h d es ep) where
 type:=λ_ hm=>hm.typeIs
 there:=λ_ hm=>let ⟨_,ho,_⟩:=hm;⟨Ya ho,Ya ho⟩
 keep:=λ_ _ hm hk=>let ⟨o,ho,r⟩:=hm;⟨o,hk d (.inl rfl) o ho,r⟩
 notList:=by decide
 notTuple:=by decide
 hint:=λ_ _ _ _ hm hq=>PySem.W.kdl_hint_dict hm.typeIs hq
 iter:=λ_ _ hh hm=>⟨_,_,(λ_ _ hq=>Dc lo hm hq),Ab hh _ d (let ⟨_,ho,_⟩:=hm;Yf (Ya ho)),⟨⟨_,Yd _ rfl,rfl,rfl⟩,let ⟨o,ho,r⟩:=hm;⟨o,X8 _ ho,r⟩⟩⟩
theorem qc{d:Addr}{es:Array DictEntry}(hh:A.handled=none)(hu:A.units+2<cLine)(lo:(d==sysModules)=false)(hm:hU s.heap d es ep)(uR:es.size<64)(AU:nss.Nodup)(ht:mM s.heap (es.toList.map (·.key)) nss)
  (h:∀(S:Addr) (h':Heap) (tk e:Nat) (p:Array Nat),s.heap.get? S=none->(∀b o,s.heap.get? b=some o->h'.get? b=some o)->Arr p es.size->(p.toList.map λi=>nss.getD i [])=bF nss ->
   h'.get? S=some (seqObj "list" (List.toArray (p.toList.map λi=>(es.toList.map (·.key)).getD i Value.none)) e)->Q (.ref S) { s with heap:=h',toks:=tk }) :
  wpAny (model prog w) A (call (.builtin "sorted") [.ref d]) Q E s:=by
 refine Calls.call_function_entry kind_sorted plain_sorted entry_sorted (args_sorted1 _) ?_;unfold Builtin.«sorted»;have hz:es.size<=sizeLine:=by rw[sizeLine_eq];left
 refine X4 (m:=checkCount "sorted" 1 1 _) (X6 (X4 (PySem.W.kdu_collect (A:=A.in1) (Im lo) hh hm hz λh1 tk acc hk fQ=>?_)));have Mb:acc.toList=es.toList.map (·.key):=by
  refine List.ext_getElem? λi=>?_;rw[List.getElem?_map,Array.getElem?_toList,Array.getElem?_toList];by_cases hi:i<es.size
  ·have T8:i<acc.size:=by rw[fQ.1];exact hi
   obtain⟨e,he,hv⟩:=fQ.2 i acc[i] (YC T8);rw[Array.getElem?_eq_getElem T8,he,hv];rfl
  ·rw[Array.getElem?_eq_none (by rw[fQ.1];left),Array.getElem?_eq_none (by left)];rfl
 rw[Mb];generalize QG:es.toList.map (·.key)=vs at *;have Jj:vs.length=es.size:=by rw[<- QG];simp
 refine X4 (ZY ?_ (by rw[Jj];exact hz));show wpAny _ _ _ _ _ ({ s with heap:=h1.push (seqObj "list" vs.toArray 0),toks:=tk }:Shared);have LP:(h1.push (seqObj "list" vs.toArray 0)).get? h1.objs.size=some (seqObj "list" vs.toArray 0):=Yd _ rfl;have k6:∀b o,s.heap.get? b=some o->((((h1.push (seqObj "list" vs.toArray 0)).update h1.objs.size (Obj.mapSeq λ_=>#[])).push (seqObj "tuple" vs.toArray 0)).push (seqObj "list" #[] 0)).get? b=some o:=λb o e=>by
  refine X8 _ (X8 _ ?_);rw[Heap.get?_update_other _ _ (Nat.ne_of_gt (Heap.lt_size (hk b o e)))];exact X8 _ (hk b o e)
 have hle:s.heap.get? h1.objs.size=none:=by
  cases q:s.heap.get? h1.objs.size with
  |none=>rfl
  |some o=>exact absurd (Ya (hk _ o q)) (Ym _)
 refine X4 (Yx (Yz slot_list_sort ⟨_,LP,rfl⟩ entry_list_sort (xY (s:={ s with heap:=h1.push (seqObj "list" vs.toArray 0),toks:=tk }) (nss:=nss) (show A.in1.in1.units<cLine by show A.units+1+1<cLine;left) LP (by rw[Jj];exact uR) AU (ht.mono k6) λp hp hs=>⟨_,rfl,?_⟩) (args_list_sort _)));obtain⟨e,he⟩:=sortedHeap_at (out:=List.toArray (p.toList.map λi=>vs.getD i Value.none)) LP;refine X6 ⟨_,rfl,h h1.objs.size _ tk e p hle (λb o e=>?_) (by rw[<- Jj];exact hp) hs he⟩;have fj:=Ya (hk b o e);rw[sortedHeap_old (Nat.ne_of_lt fj) (by rw[size_push'];exact Nat.lt_succ_of_lt fj)];exact X8 _ (hk b o e)
end
variable {H:Hp}{X:Cx}{σ:L2.St}
theorem Inv.Lu{pins:aj}{s:Shared}{t':Nat}{a:Addr}{o:HO}(I:Inv X pins σ H s)(k:∀b u,s.heap.get? b=some u->h'.get? b=some u)(ha:s.heap.get? a=none)(new:b_ (upd H a o) h' a o):
  H a=none/\Inv X pins σ (upd H a o) { s with heap:=h',toks:=t' }:=by
 have hn:H a=none:=by
  cases q:H a with
  |none=>rfl
  |some u =>
   obtain⟨z,hz⟩:=jR (I.cJ a u q);rw[ha]at hz;exact nk hz
 have up:∀b u,H b=some u->upd H a o b=some u:=λb u e=>by rw[bh (eu e hn)];exact e
 refine⟨hn,I.step (g':=s.gens) (d':=s.drawn) (ch:=[]) (λb hb=>nomatch hb) (λb o _ _ _ e _=>k b o e) (λb o _ _ _ e _=>⟨o.slots,k b o e⟩) (λb u _ e n=>?_)
  (λb o _ e=>⟨o,k b o e⟩) (λ_ _ e=>up _ _ e) (λ_ _ _ e=>up _ _ e) (λm hm=>?_) (λb u e=>?_) I.bare⟩
 ·rw[bh λz=>by rw[z,ha]at e;cases e];exact n
 ·obtain⟨o,es,ep,ho,r⟩:=hm;exact⟨o,es,ep,k _ o ho,r⟩
 ·by_cases z:b=a
  ·subst z;rw[aV]at e;cases e;exact new
  ·rw[bh z]at e;exact(I.cJ b u e).k0 (k b)
section
variable {X:Cx}{pins:aj}{σ:St}{H:Hp}{s:Shared}{d:Addr}{cs:av}{as:aW}{xs:ae}{ep:Nat}
theorem FU(I:Inv X pins σ H s)(h:H d=some (.ext (DO d cs as xs ep))):∃es:Array DictEntry,hU s.heap d es ep/\es.size=as.length/\es.toList.map (·.key)=as.map Value.ref/\cs.Nodup/\as.length=cs.length/\(d==sysModules)=false:=by
 obtain⟨⟨zs,o,es,e1,e2,e3,ho,hx,hd,he,hn,hl,hs⟩,_⟩:=(show b_ H s.heap d (.ext (DO d cs as xs ep)) from I.cJ d _ h)
 refine⟨es,⟨o,ho,hx,hd⟩,?_,?_,hn,?_,hs⟩
 ·rw[<- Array.length_toList,he,<- e2,List.length_map,List.length_map]
 ·rw[he,<- e2,List.map_map,List.map_map];rfl
 ·rw[<- e1,<- e2,List.length_map,List.length_map]
end
def Sg(xs:ab):O D:=match one xs with
 |some d=>match gd d with
  |some z=>ok (.lst .ow (z.1.map gv))
  |none=>none
 |none=>none
theorem jT(g:Fl->Fl):∀cs:av,az g (cs.map gv)=cs.map gv
 |[]=>rfl
 |c::cs=>by
  show aI g (gv c)::az g (cs.map gv)=_;rw[jT g cs];have:∀c:aa,az g (c.map D.int)=c.map D.int:=λc=>by
   induction c with
   |nil=>rfl
   |cons i c ih=>show D.int i::az g (c.map D.int)=_;rw[ih];rfl
  show D.tup (az g (c.map D.int))::_=_;rw[this];rfl
theorem BH{T:jr}{N:gk}{k:aZ}{a:Addr}{c:aa}(h:T a (c.map V.int)):Rep T N k (.ref a) (gv c):=.tup h (aA.ints c)
def As(_:Scope)(_:af)(e:Expr):Option (ai):=if isNm e=true then some [e]else none
theorem tW(hc:X.calm=true)(hu:X.A.units+2<cLine):df X (.builtin "sorted") (λxs H Q=>∃(d:Addr) (cs:av) (as:aW) (ys:ae) (ep:Nat),xs=[.ref d]/\H d=some (.ext (DO d cs as ys ep))/\eL (aU X.K H) as cs/\cs.length<64 /\
  ∀(l:Addr) (bs:aW),H l=none->eL (aU X.K H) bs (bF cs)->Q (.ref l) (upd H l (.lst (bs.map V.ref)))):=by
 intro pins s σ H xs us Q I r h;obtain⟨d,cs,as,ys,ep,rfl,hd,hk,uR,q⟩:=h;obtain⟨u,rfl,ru⟩:=r.one;cases ru;obtain⟨es,zo,hz,uM,Q1,hlen,zj⟩:=FU I hd;have ht:mM s.heap (es.toList.map (·.key)) cs:=by
  rw[uM];refine⟨by rw[List.length_map,hlen],λi ns e=>?_⟩;have hi:i<as.length:=by rw[hlen];exact(List.getElem?_eq_some_iff.mp e).1
  obtain⟨Cq,rj,ij,_⟩:=I.tuple (hk.tup i as[i] ns (Yh hi) e);exact⟨as[i],Cq,by rw[List.getElem?_map,List.getElem?_eq_getElem hi];rfl,ij,de rj⟩
 refine qc (I.ok.hd hc) hu zj zo (by rw[hz,hlen];exact uR) Q1 ht λS h' tk e p hS Jo hp hs hl=>?_;rw[uM]at hl;have QU:(p.toList.map λi=>(as.map Value.ref).getD i Value.none)=(p.toList.map λi=>as.getD i 0).map Value.ref:=by
  rw[List.map_map];refine Yw λi hi=>?_;have mD:i<as.length:=by
   have:=List.mem_range.mp (hp.pm.mem_iff.mp hi);left
  simp[mD]
 rw[QU]at hl;have Rj:eL (aU X.K H) (p.toList.map λi=>as.getD i 0) (bF cs):=by
  rw[<- hs];refine⟨by simp,λj a c h1 h2=>?_⟩;rw[List.getElem?_map]at h1 h2;cases hj:p.toList[j]? with
  |none=>rw[hj]at h1;exact nk h1
  |some i =>
   rw[hj]at h1 h2;have mD:i<as.length:=by
    have:=List.mem_range.mp (hp.pm.mem_iff.mp (Yk hj));left
   cases h1;cases h2;exact hk.tup i _ _ (by simp[mD]) (by simp[show i<cs.length by left])
 have uI:∀l:aW,Vals (l.map V.ref) (l.map Value.ref):=λl=>by
  induction l with
  |nil=>exact .nil
  |cons a l ih=>exact .cons rfl ih
 have hsz:sizeLine=16777216:=YF;obtain⟨hn,I'⟩:=Inv.Lu (t':=tk) (o:=.lst ((p.toList.map λi=>as.getD i 0).map V.ref)) I Jo hS ⟨by rw[List.length_map,List.length_map,Array.length_toList,hp.sz];left,_,e,uI _,hl⟩;exact⟨.ref S,_,I',rfl,q S _ hn Rj⟩
def lT(xs:ab):O D:=match one xs with
 |some d=>match gd d with
  |some z=>if z.1.length<64 then ok (.lst .ow ((bF z.1).map gv))else none
  |none=>none
 |none=>none
variable {ds xs:ab}
theorem wM{r:D}(h:lT xs=ok r):∃f cs vs,xs=[.cx f cs vs]/\cs.length<64/\r=.lst .ow ((bF cs).map gv):=by
 unfold lT at h;cases h1:one xs with
 |none=>rw[h1]at h;exact nk h
 |some d =>
  rw[h1]at h;have h:(match gd d with|some z=>if z.1.length<64 then ok (D.lst .ow ((bF z.1).map gv))else none|none=>none)=ok r:=h;cases h2:gd d with
  |none=>rw[h2]at h;exact nk h
  |some z =>
   rw[h2]at h;obtain⟨hl,rfl⟩:=ka (show(if z.1.length<64 then ok (D.lst .ow ((bF z.1).map gv))else none)=ok r from h);obtain⟨f,e⟩:=lW h2;exact⟨f,z.1,z.2,by rw[bP h1,e],hl,rfl⟩
theorem m9{T:jr}{N:gk}:∀{bs:aW} {cs:av} {k:aZ} {n:Nat},eL T bs cs->aA T N k n (bs.map V.ref) (cs.map gv)
 |[],[],_,_,_=>.nil
 |[],_::_,_,_,h=>by have:=h.len;simp at this
 |_::_,[],_,_,h=>by have:=h.len;simp at this
 |b::bs,c::cs,_,_,h=>.cons (BH (h.tup 0 b c rfl rfl)) (m9 ⟨by have:=h.len;simpa using this,λj a c' h1 h2=>h.tup (j+1) a c' h1 h2⟩)
variable {F R:Addr->Prop}{args:ai}{cs:aC}{Φ:aQ}
theorem z_{n:Nat}(hΦ:Φ n=lT){sc:Scope}{bl:af}{k:Nat}(L:PX X sc bl k){e:Expr}(he:eG ("sorted" : Str) sc bl e=some args)(hs:iF X F Φ cs args):PE X e (tD X F Φ (.bq n cs))/\PT X e (dN X F Φ (.bq n cs)):=by
 obtain⟨p,pos,a,rfl,rfl,h1,h2⟩:=fF he;cases cs with
 |nil=>exact hs.elim
 |cons c cs=>cases cs with
  |cons _ _=>exact hs.2.2.2.elim
  |nil =>
   have pa:PA X [a] (oh X F Φ [c]):=PA.imp (cc hs.1 (PA.imp dh λ_ _ _ h=>fK h) (hs.2.1 _)) λ_ _ _ h=>dF h;have hu:X.A.units+2<cLine:=Yo (Nat.add_le_add_left (by decide:2<=64) _) L.room.units;have this:PE X (.Call (.Name ("sorted" : Str) p) [a] [] pos) (tD X F Φ (.bq n [c])):=by
    refine PE.imp (c9 (tW L.calm hu) (L.gl h1) (L.bl _ h2) (by decide +kernel) pa (he:=hs.2.1 _)) λσ H Q hq=>?_;obtain⟨R,τ,ρ,d,Si,ev,hq⟩:=hq;obtain⟨xs,bt,ev⟩:=aq ev;rw[hΦ]at ev;obtain⟨f,ks,vs,rfl,hl,rfl⟩:=wM ev;refine⟨R,τ,ρ,_,Si,bt,λus H1 e1 r1=>?_⟩;obtain⟨τt,fr,rs⟩:=r1;obtain⟨v,rfl,rv⟩:=rs.one;cases rv with
    |cx hn hk hr =>
     refine⟨_,ks,_,_,_,rfl,hn.dat,hk,hl,λl bs pP Rj=>hq _ _ (e1.trans (aG.upd pP)) (bC.qF (e1.free pP) (e1.trans (aG.upd pP)) aV ?_)⟩;exact m9 (Rj.imp λ_ _ h=>aU.same (aG.upd pP) h)
   exact⟨this,bK this λ_=>rfl⟩
section
variable {prog:aE}{w:World}{A:aD}{E:aB}{s:Shared}{d it:Addr}{es:Array DictEntry}{ep i:Nat}
end
section
variable {X:Cx}{pins:aj}{σ:St}{H:Hp}{s:Shared}{d:Addr}{cs:av}{as:aW}{xs:ae}{ep:Nat}
theorem Ku(I:Inv X pins σ H s)(h:H d=some (.ext (DO d cs as xs ep))):∃es:Array DictEntry,hU s.heap d es ep/\es.size=as.length/\es.toList.map (·.key)=as.map Value.ref/\Vals xs (es.toList.map (·.val))/\as.length=cs.length/\(d==sysModules)=false:=by
 obtain⟨⟨zs,o,es,e1,e2,e3,ho,hx,hd,he,hn,hl,hs⟩,_⟩:=(show b_ H s.heap d (.ext (DO d cs as xs ep)) from I.cJ d _ h)
 refine⟨es,⟨o,ho,hx,hd⟩,?_,?_,?_,?_,hs⟩
 ·rw[<- Array.length_toList,he,<- e2,List.length_map,List.length_map]
 ·rw[he,<- e2,List.map_map,List.map_map];rfl
 ·rw[he,List.map_map];exact e3
 ·rw[<- e1,<- e2,List.length_map,List.length_map]
end
section
variable {prog:aE}{w:World}{A:aD}{E:aB}{s:Shared}{d it:Addr}{es:Array DictEntry}{ep i:Nat}
theorem z9(d:Addr)(hd:(d==sysModules)=false):MeetsIn prog w (Builtin.«dict.values» ⟨[.ref d],[]⟩) (λ_ R s=>(∃es ep,hU s.heap d es ep)/\R (.ok (.ret (.ref s.heap.objs.size))) { s with heap:=s.heap.push { cls:=.type "dict_values",data:=.fields #[.ref d] } }) :=
 .of_wp λA R s bG=>by
  obtain⟨⟨_,_,hm⟩,h⟩:=bG;refine X4 ?_;unfold Builtin.Dict.noArgs;refine X4 (wpAny_notOrdered_dict hm.typeIs ?_);show wpAny _ _ (pure d) _ _ s;refine X6 ?_;show wpAny _ _ (Builtin.Dict.showsAll d >>= _) _ _ s;unfold Builtin.Dict.showsAll;rw[if_neg (by rw[hd];exact Bool.false_ne_true)];exact X4 (X6 (X4 (YB (X6 ⟨_,rfl,h⟩))))
theorem C6{v:Addr}(hv:s.heap.IsValuesView v d)(hm:hU s.heap d es ep)
  (hQ:Q (.ref s.heap.objs.size) { s with heap:=s.heap.push { cls:=.type "dict_valueiterator",data:=.fields #[.ref d,.int 0 0,.int es.size 0,.int ep 0] } }):wpAny (model prog w) A (pyIter (.ref v)) Q E s:=by
 obtain⟨ov,We,XZ,Ww⟩:=id hv;obtain⟨o,ho,hx,zB⟩:=hm;refine wpAny_pyIter_slot hv.typeIs F.slot_dict_values_iter (Yz F.slot_dict_values_iter hv.typeIs F.entry_dict_values_iter ?_ (F.args_dict_values_iter_1 _));unfold Builtin.«dict_values.__iter__»;refine X4 (X6 (X4 ?_));unfold Builtin.Dict_items.dictOf;refine X4 (Y7 We Ww (x:=.ref d) rfl (X6 (X4 ?_)));unfold Builtin.Dict_items.newIterator;refine X4 (YW ho zB (X4 (Y2 ho zB ?_)));simp only[show Builtin.Dict_items.ownsTuple "dict_valueiterator" = false by decide,Y3,Z7];refine YB (X6 ⟨_,rfl,"dict_valueiterator",_,⟨_,Yd _ rfl,rfl⟩,F.slot_dict_valueiterator_next.lookup,?_⟩);simpa [rawInt]using hQ
theorem C5{Q:Option Value->Shared->Prop}(hit:s.heap.IsValIter it d i es.size ep)(hm:hU s.heap d es ep)(fj:i<es.size)
  (hQ:∀h',h'.IsValIter it d (i+1) es.size ep->Heap.SameBut it s.heap h'->Q (some es[i].val) { s with heap:=h' }):wpAny (model prog w) A (pyNext (.ref it)) Q E s:=by
 obtain⟨o,ho,hc,hd⟩:=id hit;obtain⟨od,zq,wy,zA⟩:=hm;unfold pyNext;refine X4 (Y6 (YD (name:=Str.ofString "__next__") hit.typeIs YK (Yz YK hit.typeIs F.entry_dict_valueiterator_next ?_ (F.args_dict_valueiterator_next_1 _))));refine X4 (X6 (X4 (X4 ?_)))
 first|refine X4 (YN hit.typeIs (X6 ?_))|refine X4 (YZ hit.typeIs (X6 ?_))
 refine X4 (ZQ ho hd ?_);simp only[show Builtin.Dict_items.ownsTuple "dict_valueiterator" = false by decide,Y3,Z7];show wpAny _ _ (if (Value.ref d==Value.none)=true then _ else _) _ _ s;rw[if_neg (show ¬ ((Value.ref d==Value.none)=true) from Bool.false_ne_true)];refine X4 (X6 (X4 (YW zq zA ?_)));rw[if_neg (by simp)];refine X4 (X6 (X4 (Y2 zq zA ?_)));rw[if_neg (by simp)];refine X6 ?_;simp only[show ¬ ((i:Int)<0) from by left,if_false,Int.toNat_natCast,Array.getElem?_eq_getElem fj];refine X4 ?_
 first|refine X4 (YN hit.typeIs (X6 ?_))|refine X4 (YZ hit.typeIs (X6 ?_))
 refine X4 (Zw hit.typeIs ?_);show wpAny _ _ (setField (.ref it) 1 (rawInt ((i:Int)+1)) >>= _) _ _ s;refine X4 (ZR ho hd (by simp) ?_);have mC:(s.heap.update it (Obj.mapFields (·.setIfInBounds 1 (rawInt ((i:Int)+1))))).IsValIter it d (i+1) es.size ep :=
  ⟨_,YI _ ho (Obj.isFreed_of_fields (Obj.data_mapFields hd _)),(Obj.cls_mapFields ..).trans hc,by rw[Obj.data_mapFields hd];simp[rawInt]⟩
 refine X4 (Yx ?_);refine X4 (Zw (s:={ s with heap:=s.heap.update it (Obj.mapFields (·.setIfInBounds 1 (rawInt ((i:Int)+1)))) }) mC.typeIs ?_);refine X4 (Zw (s:={ s with heap:=s.heap.update it (Obj.mapFields (·.setIfInBounds 1 (rawInt ((i:Int)+1)))) }) mC.typeIs ?_);show wpAny _ _ (pure es[i].val) _ _ _;exact X6 (X6 ⟨_,rfl,X6 (hQ _ mC (Y9 ..))⟩)
theorem Il{Q:Option Value->Shared->Prop}(hh:A.handled=none)(hit:s.heap.IsValIter it d i es.size ep)(hm:hU s.heap d es ep)(Q8:es.size<=i)
  (hQ:∀h',Heap.ExtBut it s.heap h'->Q none { s with heap:=h' }):wpAny (model prog w) A (pyNext (.ref it)) Q E s:=by
 obtain⟨o,ho,hc,hd⟩:=id hit;obtain⟨od,zq,wy,zA⟩:=hm;unfold pyNext;refine X4 (Y6 (YD (name:=Str.ofString "__next__") hit.typeIs YK (Yz YK hit.typeIs F.entry_dict_valueiterator_next ?_ (F.args_dict_valueiterator_next_1 _))));refine X4 (X6 (X4 (X4 ?_)))
 first|refine X4 (YN hit.typeIs (X6 ?_))|refine X4 (YZ hit.typeIs (X6 ?_))
 refine X4 (ZQ ho hd ?_);simp only[show Builtin.Dict_items.ownsTuple "dict_valueiterator" = false by decide,Y3,Z7];show wpAny _ _ (if (Value.ref d==Value.none)=true then _ else _) _ _ s;rw[if_neg (show ¬ ((Value.ref d==Value.none)=true) from Bool.false_ne_true)];refine X4 (X6 (X4 (YW zq zA ?_)));rw[if_neg (by simp)];refine X4 (X6 (X4 (Y2 zq zA ?_)));rw[if_neg (by simp)];refine X6 ?_;simp only[show ¬ ((i:Int)<0) from by left,if_false,Int.toNat_natCast,Array.getElem?_eq_none Q8];refine X4 ?_
 first|refine X4 (YN hit.typeIs (X6 ?_))|refine X4 (YZ hit.typeIs (X6 ?_))
 show wpAny _ _ (setField (.ref it) 0 .none >>= _) _ _ s;refine X4 (ZR ho hd (by simp) ?_);show wpAny _ _ (newExc (.type "StopIteration") [] >>= _) _ _ _;refine X4 ?_;simp only[newExc,newTuple];refine X4 (YB ?_ (by size_fits));refine X4 (m:=firstArgMember _ _) (wpAny_of_eq (a:=Value.none) (by first|rfl | (simp only[firstArgMember];rfl)) ?_);refine YB ?_ (by size_fits);simp only[raiseNew];refine X4 (wpAny_handled ?_);rw[show A.in1.handled=none from hh];refine X4 (X6 (wpAny_throw ?_));refine X4 (wpAny_isInstance (T:="StopIteration") (b:=true) ⟨_,Yd _ rfl,rfl⟩ isSubtype_stop ?_);exact X6 (hQ _ (((Y9 ..).extBut.push _).push _))
theorem z8(hh:A.handled=none)(I d:Addr)(zr:d≠I):Walks prog w A I [I,d] [I] es.size (λi v=>∃e,es[i]?=some e/\v=e.val) (λi h=>h.IsValIter I d i es.size ep/\hU h d es ep) where
 sub:=λb hb=>by simp at hb;simp[hb]
 frame:=λ_ _ _ st hk=>⟨st.1.at λo e=>hk I (by simp) o e,let ⟨o,ho,r⟩:=st.2;⟨o,hk d (by simp) o ho,r⟩⟩
 item:=λi s Q E hi st hQ=>C5 st.1 st.2 hi λh' mC Ep=>hQ _ h' s.toks ⟨es[i],YC hi,rfl⟩ ⟨mC,let ⟨o,ho,r⟩:=st.2;⟨o,Ep.extBut d o zr ho,r⟩⟩ λb o hb e=>Ep.extBut b o (λh=>hb (by simp[h])) e
 done:=λs Q E st hQ=>Il hh st.1 st.2 (Yb _) λh' Rg=>hQ h' s.toks λb o hb e=>Rg b o (λh=>hb (by simp[h])) e
 self:=λ_ _ _ _ st hQ=>wpAny_pyIter_valiter st.1 hQ
theorem Ik{v:Addr}(hh:A.handled=none)(hv:s.heap.IsValuesView v d)(hm:hU s.heap d es ep)(LH:Vals (ns.map V.int) (es.toList.map (·.val)))
  (h:∀h' tk t',(∀b o,s.heap.get? b=some o->h'.get? b=some o)->Q (.int ns.sum t') { s with heap:=h',toks:=tk }):wpAny (model prog w) A (call (.builtin "sum") [.ref v]) Q E s:=by
 have hlen:es.size=ns.length:=by
  have:=LH.length;simpa using this.symm
 have Rh:d<s.heap.objs.size:=let ⟨_,ho,_⟩:=hm;Ya ho;refine call_sum_walkAnyS (C6 hv hm ⟨s.heap.objs.size,_,_,_,es.size,_,_,λi=>ns.getD i 0,rfl,(z8 (A:=A.in1) (es:=es) (ep:=ep) hh _ d (Yf Rh)).toS,⟨⟨_,Yd _ rfl,rfl,rfl⟩,let ⟨o,ho,r⟩:=hm;⟨o,X8 _ ho,r⟩⟩,λb hb=>?_,λi v hP=>?_,λs' t' T6=>?_⟩)
 ·show b<(s.heap.push _).objs.size;rw[size_push'];rcases List.mem_cons.mp hb with e|hb
  ·rw[e];exact YH _
  ·rw[List.mem_singleton.mp hb];exact Ys Rh
 ·obtain⟨e,he,rfl⟩:=hP;have hi:i<es.size:=by
   by_cases z:i<es.size
   ·exact z
   ·rw[Array.getElem?_eq_none (by left)]at he;cases he
  have hn:(ns.map V.int)[i]?=some (.int (ns.getD i 0)):=by
   rw[List.getElem?_map,List.getElem?_eq_getElem (by left)];simp[List.getD,show i<ns.length by left]
  obtain⟨u,hu,ru⟩:=LH.get hn;rw[List.getElem?_map,Array.getElem?_toList,he]at hu;cases hu;exact ru
 ·have hk:∀b o,s.heap.get? b=some o->s'.heap.get? b=some o:=λb o e =>
   T6.heap b o (λhI=>absurd (Ya e) (by rw[List.mem_singleton.mp hI];exact Ym _)) (X8 _ e)
  rw[Moved.eq_with T6];have hz:preSum (λi=>ns.getD i 0) es.size=ns.sum:=by
   rw[hlen,gw _ ns (λ_=>rfl) _ (Nat.le_refl _),List.take_length]
  rw[hz];exact h s'.heap s'.toks t' hk
end
def kK(_:Scope)(_:af)(e:Expr):Option (ai):=match kW ("values" : Str) (.Expr e ⟨0,0,0,0⟩)with
 |some z=>if isNm z.1=true/\isNil z.2=true then some [z.1]else none
 |none=>none
theorem tO{sc:Scope}{bl:af}{e:Expr}(h:kK sc bl e=some args):∃x p p1 p2,e=.Call (.Attribute (.Name x p) ("values" : Str) p1) [] [] p2/\args=[.Name x p]/\(p1.endLine==p2.line)=true:=by
 unfold kK at h;cases h1:kW ("values" : Str) (.Expr e ⟨0,0,0,0⟩)with
 |none=>rw[h1]at h;exact nk h
 |some z =>
  obtain⟨o,as⟩:=z;rw[h1]at h;by_cases hn:isNm o=true/\isNil as=true
  ·have h:(if isNm o=true/\isNil as=true then some [o]else none)=some args:=h;rw[if_pos hn]at h;cases h;obtain⟨p1,p2,pos,e1,hl⟩:=gn h1;cases e1;obtain⟨x,p,rfl⟩:=i7 hn.1;obtain rfl:=i8 hn.2;exact⟨_,_,_,_,rfl,rfl,hl⟩
  ·have h:(if isNm o=true/\isNil as=true then some [o]else none)=some args:=h;rw[if_neg hn]at h;exact nk h
def vk(sc:Scope)(bl:af)(e:Expr):Option (ai):=match eG ("sum" : Str) sc bl e with
 |some as=>match one as with
  |some i=>kK sc bl i
  |none=>none
 |none=>none
theorem Aj{sc:Scope}{bl:af}{e:Expr}(h:vk sc bl e=some args):∃q pos x p p1 p2,e=.Call (.Name ("sum" : Str) q) [.Call (.Attribute (.Name x p) ("values" : Str) p1) [] [] p2] [] pos/\args=[.Name x p]/\(p1.endLine==p2.line)=true/\jJ sc ("sum" : Str)=true/\("sum" : Str)∈bl:=by
 unfold vk at h;cases h1:eG ("sum" : Str) sc bl e with
 |none=>rw[h1]at h;exact nk h
 |some as =>
  rw[h1]at h;obtain⟨q,pos,a,rfl,rfl,g1,g2⟩:=fF h1;obtain⟨x,p,p1,p2,rfl,rfl,hl⟩:=tO (show kK sc bl a=some args from h);exact⟨q,pos,x,p,p1,p2,rfl,rfl,hl,g1,g2⟩
def IV(xs:ab):O D:=match one xs with
 |some d=>match gd d with
  |some z=>match intsOf z.2 with
   |some ns=>ok (.int ns.sum)
   |none=>none
  |none=>none
 |none=>none
theorem Fm{r:D}(h:IV xs=ok r):∃f cs,∃ns:aa,xs=[.cx f cs (ns.map D.int)]/\r=.int ns.sum:=by
 unfold IV at h;cases h1:one xs with
 |none=>rw[h1]at h;exact nk h
 |some d =>
  rw[h1]at h;have h:(match gd d with|some z=>(match intsOf z.2 with|some ns=>ok (D.int ns.sum)|none=>none)|none=>none)=ok r:=h;cases h2:gd d with
  |none=>rw[h2]at h;exact nk h
  |some z =>
   rw[h2]at h;have h:(match intsOf z.2 with|some ns=>ok (D.int ns.sum)|none=>none)=ok r:=h;cases h3:intsOf z.2 with
   |none=>rw[h3]at h;exact nk h
   |some ns =>
    rw[h3]at h;cases h;obtain⟨f,e⟩:=lW h2;exact⟨f,z.1,ns,by rw[bP h1,e,cV h3],rfl⟩
def VW(v d:Addr)(h:Heap):Prop:=h.IsValuesView v d
theorem BO{x:Str}{p p1 p2:Pos}{td:TE}(ho:PE X (.Name x p) td)(hl:(p1.endLine==p2.line)=true):PE X (.Call (.Attribute (.Name x p) ("values" : Str) p1) [] [] p2) (λσ H Q=>td σ H λu H1=>∃d cs as xs ep,u=.ref d/\H1 d=some (.ext (DO d cs as xs ep))/\∀v,H1 v=none->Q (.ref v) (upd H1 v (.ext (VW v d)))):=by
 intro pins s σ H Q I h;refine wpAny_Call_method rfl rfl hl PySem.F.plainAttrs_dict PySem.F.slot_dict_values PySem.F.type_dict_values (cI (ho pins s σ H _ I h) λu s1 bG=>?_);obtain⟨v,H1,I1,rv,d,cs,as,xs,ep,ex,hd,q⟩:=bG;subst ex;cases rv;obtain⟨es,zo,hz,uM,uI,hlen,zj⟩:=Ku I1 hd;obtain⟨t1,t2⟩:=dict_cls I1 hd;refine⟨t1,t2,?_⟩;show wpAny _ _ (callWith p2 (.builtin "dict.values") [.ref d] [] []) _ _ s1;refine method_meetsIn PySem.F.slot_dict_values PySem.F.entry_dict_values rfl (PySem.evalArgs_none ⟨rfl,t1,PySem.F.args_dict_values_1 _,_,z9 d zj,⟨es,ep,zo⟩,?_⟩);have hg:(s1.heap.push { cls:=.type "dict_values",data:=.fields #[.ref d] }).get? s1.heap.objs.size=some { cls:=.type "dict_values",data:=.fields #[.ref d] }:=Yd _ rfl;refine⟨.ref s1.heap.objs.size,_,I1.laid (a:=s1.heap.objs.size) (o:=.ext (VW s1.heap.objs.size d)) (t':=s1.toks) (λ_ _ q=>X8 _ q) (Yb _) ⟨⟨_,hg,rfl,rfl⟩,⟨_,hg⟩,?_⟩,rfl,q _ (I1.cJ.fresh (Yb _))⟩;rintro h1 Ur ⟨o,g1,g2⟩ kk;exact⟨o,kk _ g1,g2⟩
theorem wV(hc:X.calm=true):df X (.builtin "sum") (λxs H Q=>∃v d cs as ep,∃ns:aa,xs=[.ref v]/\H v=some (.ext (VW v d))/\H d=some (.ext (DO d cs as (ns.map V.int) ep))/\Q (.int ns.sum) H):=by
 intro pins s σ H xs us Q I r h;obtain⟨v,d,cs,as,ep,ns,rfl,hv,hd,q⟩:=h;obtain⟨u,rfl,ru⟩:=r.one;cases ru;obtain⟨es,zo,hz,uM,uI,hlen,zj⟩:=Ku I hd;obtain⟨hV,_⟩:=(show b_ H s.heap v (.ext (VW v d)) from I.cJ v _ hv)
 refine Ik (I.ok.hd hc) hV zo uI λh' tk t' hk=>⟨.int ns.sum,H,I.kept (t':=tk) hk,⟨t',rfl⟩,q⟩
theorem J8{n:Nat}(hΦ:Φ n=IV){sc:Scope}{bl:af}{k:Nat}(L:PX X sc bl k){e:Expr}(he:vk sc bl e=some args)(hs:iF X F Φ cs args):PE X e (tD X F Φ (.bq n cs))/\PT X e (dN X F Φ (.bq n cs)):=by
 obtain⟨q,pos,x,p,p1,p2,rfl,rfl,hl,g1,g2⟩:=Aj he;cases cs with
 |nil=>exact hs.elim
 |cons c cs=>cases cs with
  |cons _ _=>exact hs.2.2.2.elim
  |nil =>
   have this:PE X (.Call (.Name ("sum" : Str) q) [.Call (.Attribute (.Name x p) ("values" : Str) p1) [] [] p2] [] pos) (tD X F Φ (.bq n [c])):=by
    refine PE.imp (c9 (wV L.calm) (L.gl g1) (L.bl _ g2) (by decide +kernel) (cc (BO hs.1 hl) dh)) λσ H Q hq=>?_;obtain⟨R,τ,ρ,d,Si,ev,hq⟩:=hq;obtain⟨xs,bt,ev⟩:=aq ev;rw[hΦ]at ev;obtain⟨f,ks,ns,rfl,rfl⟩:=Fm ev;obtain⟨y,ey,bt⟩:=aq bt;cases bt;refine tD.intro Si ey λu H1 e1 r1=>?_;obtain⟨τ1,f1,q1⟩:=r1;cases q1 with
    | @cx _ dd _ as ys ep _ _ AU hk hr =>
     cases hr.ofInts;have hd:=AU.dat;refine⟨dd,ks,as,_,ep,rfl,hd,λv hv=>⟨v,dd,ks,as,ep,ns,rfl,aV,?_,hq _ _ (e1.trans (aG.upd hv)) ⟨λ_=>none,λ_ _ h=>by simp at h,.int _⟩⟩⟩;exact aG.upd hv _ _ hd
   exact⟨this,bK this λ_=>rfl⟩
def vN(xs:ab):O D:=match one xs with
 |some d=>match d with
  |.int i=>if i.natAbs.log2<1920 then ok (.str (toString i))else none
  |_=>none
 |none=>none
theorem Br{d:D}(h:vN xs=ok d):∃i:Int,xs=[.int i]/\i.natAbs.log2<1920/\d=.str (toString i):=by
 unfold vN at h;cases h1:one xs with
 |none=>rw[h1]at h;cases h
 |some x =>
  rw[h1]at h;cases x<;>first|exact nk h | (cases h;done)|skip
  obtain⟨h2,h3⟩:=ka h;exact⟨_,bP h1,h2,h3.symm⟩
theorem Fp{n:Nat}(hΦ:Φ n=vN){sc:Scope}{bl:af}{k:Nat}(L:PX X sc bl k){e:Expr}(he:eG ("str" : Str) sc bl e=some args)(hs:iF X F Φ cs args):PE X e (tD X F Φ (.bq n cs))/\PT X e (dN X F Φ (.bq n cs)):=by
 obtain⟨p,pos,a,rfl,rfl,h1,h2⟩:=fF he;cases cs with
 |nil=>exact hs.elim
 |cons c cs=>cases cs with
  |cons _ _=>exact hs.2.2.2.elim
  |nil =>
   have pa:PA X [a] (oh X F Φ [c]):=PA.imp (cc hs.1 (PA.imp dh λ_ _ _ h=>fK h) (hs.2.1 _)) λ_ _ _ h=>dF h;have this:PE X (.Call (.Name ("str" : Str) p) [a] [] pos) (tD X F Φ (.bq n [c])):=by
    refine PE.imp (ft pj (L.gl h1) (L.bl _ h2) (by decide +kernel) pa (he:=hs.2.1 _)) λσ H Q hq=>?_;obtain⟨R,τ,ρ,d,Si,ev,hq⟩:=hq;obtain⟨xs,bt,ev⟩:=aq ev;rw[hΦ]at ev;obtain⟨i,rfl,hl,rfl⟩:=Br ev;refine⟨R,τ,ρ,_,Si,bt,λvs H1 e1 r1=>?_⟩;obtain⟨τt,fr,rs⟩:=r1;obtain⟨v,rfl,rv⟩:=rs.one;cases rv;exact⟨i,rfl,hl,hq _ H1 e1 .str⟩
   exact⟨this,bK this λ_=>rfl⟩
def jM(xs:ab):O D:=match two xs with
 |some z=>match z.1 with
  |.str a=>match z.2 with
   |.str b=>if a.length+b.length<=100000 then ok (.str (a++b))else none
   |_=>none
  |_=>none
 |none=>none
theorem Du{x y d:D}(h:jM [x,y]=ok d):∃a b:Str,x=.str a/\y=.str b/\a.length+b.length<=100000/\d=.str (a++b):=by
 cases x<;>first|exact nk h | (cases h;done) | (cases y<;>first|exact nk h | (cases h;done)|skip)
 obtain⟨h1,h2⟩:=ka h;exact⟨_,_,rfl,rfl,h1,h2.symm⟩
def tV(_:Scope)(_:af)(e:Expr):Option (ai):=(E_ e).bind λz=>if z.2.1=.Add then some [z.1,z.2.2]else none
theorem wR{sc:Scope}{bl:af}{e:Expr}(h:tV sc bl e=some args):∃a b p,e=.BinOp a .Add b p/\args=[a,b]:=by
 obtain⟨⟨a,o,b⟩,hv,h⟩:=bT h;obtain⟨hc,h⟩:=gT h;cases h;obtain rfl:o=.Add:=hc;obtain⟨p,rfl⟩:=t7 hv;exact⟨a,b,p,rfl,rfl⟩
theorem Dt{n:Nat}(hΦ:Φ n=jM){sc:Scope}{bl:af}{k:Nat}(L:PX X sc bl k){e:Expr}(he:tV sc bl e=some args)(hs:iF X F Φ cs args):PE X e (tD X F Φ (.bq n cs))/\PT X e (dN X F Φ (.bq n cs)):=by
 obtain⟨a,b,pos,rfl,rfl⟩:=wR he;cases cs with
 |nil=>exact hs.elim
 |cons c cs=>cases cs with
  |nil=>exact hs.2.2.2.elim
  |cons c' cs=>cases cs with
   |cons _ _=>exact hs.2.2.2.2.2.2.elim
   |nil =>
    obtain⟨h1,_,_,h2,_,_,_⟩:=hs;have this:PE X (.BinOp a .Add b pos) (tD X F Φ (.bq n [c,c'])):=by
     refine PE.imp (yt sJ h1 h2) λσ H Q hq=>?_;obtain⟨R,τ,ρ,d,Si,ev,hq⟩:=hq;obtain⟨xs,bt,ev⟩:=aq ev;obtain⟨x,ex,bt⟩:=aq bt;obtain⟨ys,eO,bt⟩:=aq bt;cases bt;obtain⟨y,ey,eO⟩:=aq eO;cases eO;rw[hΦ]at ev;obtain⟨s,t,rfl,rfl,hl,rfl⟩:=Du ev;refine tD.intro Si ex λv H1 e1 r1=>tD.intro (Si.go e1) ey λw H2 e2 r2=>?_;obtain⟨_,_,q1⟩:=r1;obtain⟨_,_,q2⟩:=r2;cases q1;cases q2;exact⟨s,t,rfl,rfl,Yi hl (by rw[sizeLine_eq];decide),hq _ H2 (e1.trans e2) .str⟩
    exact⟨this,bK this λ_=>rfl⟩
noncomputable def strsOf:ab->Option (af)
 |[]=>some []
 |.str i::ds=>(strsOf ds).map (i :: ·)
 |_::_=>none
theorem mW:∀{ds:ab} {ns:af},strsOf ds=some ns->ds=ns.map D.str
 |[],ns,h=>by simp[strsOf]at h;subst h;rfl
 |d::ds,ns,h=>by
  cases d<;>simp[strsOf]at h;obtain⟨ms,h1,rfl⟩:=h;rw[mW h1];rfl
theorem kX:∀ns:af,strsOf (ns.map D.str)=some ns
 |[]=>rfl
 |n::ns=>by simp[strsOf,kX ns]
noncomputable def wJ(x:Str)(ys:af):Bool:=decide (x.length<=64)&&decide ((ys.map (·.length)).sum+ys.length*64<=16777216)
def lC(xs:ab):O D:=match two xs with
 |some z=>match z.1 with
  |.str x=>match z.2 with
   |.lst _ ds=>match strsOf ds with
    |some ys=>if wJ x ys=true then ok (.str (Txt.join x ys))else none
    |none=>none
   |_=>none
  |_=>none
 |none=>none
theorem za{x y d:D}(h:lC [x,y]=ok d):∃(s:Str) (f:Fl) (ys:af),x=.str s/\y=.lst f (ys.map D.str)/\wJ s ys=true/\d=.str (Txt.join s ys):=by
 cases x<;>first|exact nk h | (cases h;done) | (cases y<;>first|exact nk h | (cases h;done)|skip)
 rename_i s f ds;have h:(match strsOf ds with|some ys=>if wJ s ys=true then ok (D.str (Txt.join s ys))else none|none=>none)=ok d:=h;cases hn:strsOf ds with
 |none=>rw[hn]at h;exact nk h
 |some ys =>
  rw[hn]at h;obtain⟨h1,h2⟩:=ka h;cases mW hn;exact⟨s,f,ys,rfl,rfl,h1,h2.symm⟩
theorem aA.ofStrs{T:jr}{N:gk}{k:aZ}:∀{ns:af} {n:Nat} {vs:ae},aA T N k n vs (ns.map D.str)->vs=ns.map V.str
 |[],_,_,h=>by cases h;rfl
 |_::_,_,_,h=>by
  cases h with
  |cons a b=>cases a;rw[aA.ofStrs b];rfl
theorem kY:∀{ys:af} {us:ak},Vals (ys.map V.str) us->StrsAre us ys
 |[],_,h=>by cases h;exact .nil
 |y::ys,_,h=>by
  cases h with
  |cons a b=>obtain⟨t,rfl⟩:=a;exact .cons y t (kY b)
theorem Cg:Nm X "str.join" (λx xs H Q=>∃(s:Str) (p:Addr) (ys:af),x=.str s/\xs=[.ref p]/\cM X.K H p (ys.map V.str)/\wJ s ys=true/\Q (.str (Txt.join s ys)) H):=by
 intro pins s σ H x xs v us Q I rx r h;obtain⟨z,p,ys,rfl,rfl,hq,hf,q⟩:=h;obtain⟨t,rfl⟩:=rx;obtain⟨u,rfl,ru⟩:=r.one;cases ru;obtain⟨aF,rv,pl,hz⟩:=I.list hq;obtain⟨h1,h2⟩:=aL hf;exact join_listC (cL pl) (by simpa using kY rv) (X5 h1) (X5 h2) λt' k=>⟨.str _,H,I.tok _,⟨_,rfl⟩,q⟩
def pb(_:Scope)(_:af)(e:Expr):Option (ai):=(kW ("join" : Str) (.Expr e ⟨0,0,0,0⟩)).bind λz=>(one z.2).bind λy=>(vC z.1).bind λ_=>some [z.1,y]
theorem tP{sc:Scope}{bl:af}{e:Expr}(h:pb sc bl e=some args):∃c j p p1 p2 a,e=.Call (.Attribute (.Constant c j p) ("join" : Str) p1) [a] [] p2/\args=[.Constant c j p,a]/\(p1.endLine==p2.line)=true:=by
 obtain⟨⟨o,as⟩,h1,h⟩:=bT h;obtain⟨y,h2,h⟩:=bT h;obtain⟨c,h3,h⟩:=bT h;cases h;obtain⟨p1,p2,pos,e1,hl⟩:=gn h1;cases e1;obtain⟨j,p,e2⟩:=pV h3;obtain rfl:=bP h2;have e2:o=.Constant c j p:=e2;subst e2;exact⟨c,j,p,p1,p2,y,rfl,rfl,hl⟩
theorem Cr{n:Nat}(hΦ:Φ n=lC){sc:Scope}{bl:af}{k:Nat}(L:PX X sc bl k){e:Expr}(he:pb sc bl e=some args)(hs:iF X F Φ cs args):PE X e (tD X F Φ (.bq n cs))/\PT X e (dN X F Φ (.bq n cs)):=by
 obtain⟨z,j,p,p1,p2,a,rfl,rfl,hl⟩:=tP he;cases cs with
 |nil=>exact hs.elim
 |cons c cs=>cases cs with
  |nil=>exact hs.2.2.2.elim
  |cons c' cs=>cases cs with
   |cons _ _=>exact hs.2.2.2.2.2.2.elim
   |nil =>
    obtain⟨h1,_,_,h2,s2,_,_⟩:=hs;have this:PE X (.Call (.Attribute (.Constant z j p) ("join" : Str) p1) [a] [] p2) (tD X F Φ (.bq n [c,c'])):=by
     refine PE.imp (yx PySem.F.plainAttrs_str PySem.F.slot_str_join PySem.F.type_str_join Cg h1 (cc h2 dh (s2 _)) (hfew:=by rw[s2];rfl) (hline:=hl) (hs:=s2 _)) λσ H Q hq=>?_;obtain⟨R,τ,ρ,d,Si,ev,hq⟩:=hq;obtain⟨xs,bt,ev⟩:=aq ev;obtain⟨y,ey,bt⟩:=aq bt;obtain⟨ys,eO,bt⟩:=aq bt;cases bt;obtain⟨w,ew,eO⟩:=aq eO;cases eO;rw[hΦ]at ev;obtain⟨s,f,ts,rfl,rfl,hf,rfl⟩:=za ev;refine tD.intro Si ey λv H1 e1 r1=>?_;obtain⟨_,_,q1⟩:=r1;cases q1;refine⟨rfl,tD.intro (Si.go e1) ew λu H2 e2 r2=>?_⟩;obtain⟨_,_,q2⟩:=r2;cases q2 with
     |lst hn rs =>
      cases rs.ofStrs;exact⟨s,_,ts,rfl,rfl,hn.sq,hf,hq _ H2 (e1.trans e2) .str⟩
    exact⟨this,bK this λ_=>rfl⟩
noncomputable def jH:D->Bool
 |.bw=>true
 |_=>false
noncomputable def iu:D->Bool
 |.bw=>true
 |.tup _=>true
 |_=>false
def Ca:aw
 |[.bw,.lst _ ds]=>if ds.all iu then ok (.bl (ds.any jH))else none
 |_=>none
theorem B_{x y d:D}(h:Ca [x,y]=ok d):∃f ds,x=.bw/\y=.lst f ds/\ds.all iu=true/\d=.bl (ds.any jH):=by
 cases x with
 |bw=>cases y with
  |lst f ds =>
   replace h:(if ds.all iu then ok (D.bl (ds.any jH))else none)=ok d:=h;by_cases e:ds.all iu=true
   ·rw[if_pos e]at h;cases h;exact⟨f,ds,rfl,rfl,e,rfl⟩
   ·rw[if_neg e]at h;cases h
  |_=>cases h
 |_=>cases h
noncomputable def sX:V->Bool
 |.bw=>true
 |_=>false
noncomputable def Om:Value->Bool
 |.none=>true
 |_=>false
def Kw(K:ao):R2:=λx y H Q=>∃p xs,x=.bw/\y=.ref p/\cM K H p xs/\(∀v∈xs,v=.bw\/∃a ys,v=.ref a/\aU K H a ys)/\Q (.bl (xs.any sX)) H
theorem t5:∀{xs:ae} {us:ak},Vals xs us->∀u∈us,∃x∈xs,RelV x u
 |_,_,.nil=>λu hu=>by cases hu
 |x::xs,u::us,.cons r t=>λv hv=>by
  rcases List.mem_cons.mp hv with rfl|hv
  ·exact⟨x,X9,r⟩
  ·obtain⟨y,hy,ry⟩:=t5 t v hv;exact⟨y,X_ _ hy,ry⟩
theorem vz:∀{xs:ae} {us:ak},Vals xs us->(∀v∈xs,v=.bw\/∃a,v=.ref a)->us.any Om=xs.any sX
 |_,_,.nil,_=>rfl
 |x::xs,u::us,.cons r t,h=>by
  rw[List.any_cons,List.any_cons,vz t λv hv=>h v (List.mem_cons_of_mem _ hv)];rcases h x X9 with rfl|⟨a,rfl⟩
  ·cases r;rfl
  ·cases r;rfl
section
variable {X:Cx}
theorem yB(hu:X.A.units+1<cLine):gY X (compareOp .In) (Kw X.K):=by
 intro pins s σ H x y v u Q I rx ry h;obtain⟨p,xs,rfl,rfl,hq,hv,q⟩:=h;cases rx;cases ry;obtain⟨aF,r,pl,hz⟩:=I.list hq;refine SeqAt.in_listAt Om pl.isList (λw hw=>?_) ⟨.bl _,H,I,rfl,?_⟩
 ·obtain⟨x,hx,rx⟩:=t5 r w (by simpa using hw);rcases hv x hx with rfl|⟨a,ys,rfl,ht⟩
  ·cases rx;exact Y1 _
  ·cases rx;obtain⟨_,_,tl,_⟩:=I.tuple ht;exact SeqAt.EqAt.tuple_none tl hu
 ·rw[show aF.toArray.any Om=aF.any Om by simp,vz r λv h=>by
   rcases hv v h with h|⟨a,_,h,_⟩
   ·exact .inl h
   ·exact .inr ⟨a,h⟩]
  exact q
end
theorem qr{T:jr}{N:gk}{k:aZ}:∀{n:Nat} {xs:ae} {ds:ab},aA T N k n xs ds->ds.all iu=true->(∀v∈xs,v=.bw\/∃a ys,v=.ref a/\T a ys)/\xs.any sX=ds.any jH
 |_,[],[],_,_=>⟨(λv h=>nomatch h),rfl⟩
 |n,x::xs,d::ds,.cons h t,ha=>by
  rw[List.all_cons,Bool.and_eq_true]at ha;obtain⟨i1,i2⟩:=qr t ha.2;cases d with
  |bw =>
   cases h;exact⟨λv hv=>by
    rcases List.mem_cons.mp hv with rfl|hv
    ·exact .inl rfl
    ·exact i1 v hv,by rw[List.any_cons,List.any_cons,i2];rfl⟩
  |tup ys =>
   obtain⟨_,_,rfl,ht,_⟩:=h.xu;exact⟨λv hv=>by
    rcases List.mem_cons.mp hv with rfl|hv
    ·exact .inr ⟨_,_,rfl,ht⟩
    ·exact i1 v hv,by rw[List.any_cons,List.any_cons,i2];rfl⟩
  |_=>cases ha.1
def o_(_:Scope)(_:af)(e:Expr):Option (ai):=match vI e with
 |some z=>match one z.2.2 with
  |some r=>if z.2.1=[.In]/\f_ r=true then some [z.1,r]else none
  |none=>none
 |none=>none
theorem wO{sc:Scope}{bl:af}{e:Expr}(h:o_ sc bl e=some args):∃l r p,e=.Compare l [.In] [r] p/\args=[l,r]/\f_ r=true:=by
 unfold o_ at h;cases hv:vI e with
 |none=>rw[hv]at h;exact nk h
 |some z =>
  obtain⟨l,os,rs⟩:=z;rw[hv]at h;obtain⟨p,rfl⟩:=ki hv;replace h:(match one rs with|some r=>if os=[.In]/\f_ r=true then some [l,r]else none|none=>none)=some args:=h;cases hw:one rs with
  |none=>rw[hw]at h;exact nk h
  |some r =>
   rw[hw]at h;replace h:(if os=[.In]/\f_ r=true then some [l,r]else none)=some args:=h;obtain rfl:=bP hw;by_cases hc:os=[.In]/\f_ r=true
   ·rw[if_pos hc]at h;cases h;obtain⟨hc,hn⟩:=hc;subst hc;exact⟨l,r,p,rfl,rfl,hn⟩
   ·rw[if_neg hc]at h;cases h
theorem Gy{n:Nat}(hΦ:Φ n=Ca){sc:Scope}{bl:af}{k:Nat}(L:PX X sc bl k){e:Expr}(he:o_ sc bl e=some args)(hs:iF X F Φ cs args):PE X e (tD X F Φ (.bq n cs))/\PT X e (dN X F Φ (.bq n cs)):=by
 obtain⟨l,r,p,rfl,rfl,hn⟩:=wO he;have hu:X.A.units+1<cLine:=by have:=L.room.units;left
 cases cs with
 |nil=>exact hs.elim
 |cons c cs=>cases cs with
  |nil=>exact hs.2.2.2.elim
  |cons c' cs=>cases cs with
   |cons _ _=>exact hs.2.2.2.2.2.2.elim
   |nil =>
    obtain⟨h1,_,_,h2,_,_,_⟩:=hs;have key:∀{σ:St} {H:Hp} {R:ah} {τ:Addr->Option aZ} {ρ:aX} {d:D} {Q:VK},SI X F R τ ρ σ H->bj Φ (.bq n [c,c']) ρ=ok d->(∀b H2,d=.bl b->aG H H2->Q (.bl b) H2)->AO (Kw X.K) (tD X F Φ c) (tD X F Φ c') σ H Q:=by
     intro σ H R τ ρ d Q Si ev hq;obtain⟨xs,bt,ev⟩:=aq ev;obtain⟨x,ex,bt⟩:=aq bt;obtain⟨ys,eO,bt⟩:=aq bt;cases bt;obtain⟨y,ey,eO⟩:=aq eO;cases eO;rw[hΦ]at ev;obtain⟨f,ds,rfl,rfl,ha,rfl⟩:=B_ ev;refine tD.intro Si ex λv H1 e1 r1=>tD.intro (Si.go e1) ey λu H2 e2 r2=>?_;obtain⟨_,_,p1⟩:=r1.go e2;obtain⟨_,_,p2⟩:=r2;cases p1;obtain⟨_,_,rfl,t2,s2⟩:=p2.kT;obtain⟨k1,k2⟩:=qr s2 ha;exact⟨_,_,rfl,rfl,t2.sq,k1,by rw[k2];exact hq _ H2 rfl (e1.trans e2)⟩
    refine⟨PE.imp (kz (yB hu) h1 h2 (jE hn)) λσ H Q hq=>?_,PT.imp (ku (yB hu) h1 h2 (jE hn)) λσ H Q hq=>?_⟩
    ·obtain⟨R,τ,ρ,d,Si,ev,hq⟩:=hq;exact key Si ev λb H2 e es=>hq _ H2 es (by subst e;exact .bl)
    ·obtain⟨R,τ,ρ,b,Si,ev,hq⟩:=hq;obtain⟨d,ed,et⟩:=aq ev;refine key Si ed λb' H2 e es=>?_;subst e;cases et;exact⟨_,rfl,hq H2 es⟩
noncomputable def j3(J:Nat)(d:D):Nat->ab->ab
 |_,[]=>[]
 |n,x::xs=>(if n=J then d else x)::j3 J d (n+1) xs
theorem aA.j3{T T':jr}{N N':gk}{q:aZ}{J:Nat}{d:D}(hT:∀p xs,T p xs->T' p xs)(hN:∀c m p xs f,m≠J->N (c++(m::q)) p xs f->N' (c++(m::q)) p xs f):∀{n:Nat} {vs:ae} {ds:ab},aA T N q n vs ds->(∀k v,vs[k]?=some v->n+k=J->Rep T' N' (J::q) v d)->aA T' N' q n vs (DI.j3 J d n ds)
 |_,_,_,.nil,_=>.nil
 |n,_,_,.cons (d:=x) h t,hj=>by
  refine .cons ?_ (aA.j3 hT hN t λk v e z=>hj (k+1) v e (by left));by_cases hn:n=J
  ·rw[if_pos hn];subst hn;exact hj 0 _ rfl rfl
  ·rw[if_neg hn];exact h.imp (q:=n::q) (q':=n::q) hT λc p xs f h=>hN c n p xs f hn h
variable {q0:aZ}
section
variable {X:Cx}{F R:ah}{τ:Addr->Option aZ}{ρ:aX}{σ:St}{H:Hp}
theorem SI.I_{p a:Addr}{q:aZ}{n:Nd}{f:Fl}{o:HO}{xs:ae}(Si:SI X F R τ ρ σ H)(hp:H p=some (.lst xs))(ht:τ p=some q0)(hq:q≠q0)(h:nd X.K R (λ_=>False) τ H q a n f):nd X.K R (λ_=>False) τ (upd H p o) q a n f:=by
 have low:∀{a:Addr} {z:Nd},a≠p->dw H a z->dw (upd H p o) a z:=λne h=>h.at λu e=>by rw[bh ne];exact e
 cases f with
 |ow=>exact⟨low (λz=>by subst z;exact hq (Yg (h.2.symm.trans ht))) h.1,h.2⟩
 |fz=>exact⟨low (λz=>by subst z;rw[Si.rt _ h.2]at ht;cases ht) h.1,h.2⟩
 |al=>exact h.2.elim
 |sc =>
  obtain⟨ys,rfl,h⟩:=h.yc;exact h.elim (λ⟨o',w⟩=>.inl ⟨o',by rw[bh (λz=>by subst z;rw[hp]at w;cases w)];exact w⟩) .inr
theorem SI.Sh{i:Nat}{d0 d1:D}{p:Addr}{xs ys:ae}(Si:SI X F R τ ρ σ H)(hi:ρ[i]?=some (some d0))(hp:H p=some (.lst xs))(ht:τ p=some q0)(hl:q0.getLast?=some i)
  {v:V} (hv:σ[i]?=some (some v)) (hb:Rep (aU X.K (upd H p (.lst ys))) (nd X.K R (λ_=>False) τ (upd H p (.lst ys))) [i] v d1):SI X F R τ (ρ.set i (some d1)) σ (upd H p (.lst ys)):=by
 have N8:i<ρ.length:=by
  by_cases z:i<ρ.length
  ·exact z
  ·rw[List.getElem?_eq_none (by left)]at hi;cases hi
 have there:∀a,H a≠none->upd H p (.lst ys) a≠none:=λa h=>by
  by_cases z:a=p
  ·rw[z,aV];simp
  ·rw[bh z];exact h
 refine⟨by simp[Si.len],λm d hm=>?_,Si.rt,λa ha=>there a (Si.rh a ha),Si.rf,λa q e=>there a (Si.th a q e),Si.t0,λa u e=>?_⟩
 ·by_cases z:m=i
  ·subst z;rw[List.getElem?_set_self N8]at hm;cases hm;exact⟨v,hv,hb⟩
  ·rw[List.getElem?_set_ne (Ne.symm z)]at hm;obtain⟨v,h1,h2⟩:=Si.rep m d hm;refine⟨v,h1,h2.imp (q:=[m]) (q':=[m]) (λ_ _ h=>gN hp h) λc a n f h=>Si.I_ hp ht (λe=>?_) h⟩;have:=Yn List.getLast? e;rw[hl]at this;simp at this;exact z this
 ·rw[bh (λz=>by subst z;rw[Si.t0 _ _ ht]at e;cases e)];exact Si.same a u e
end
def jK(ds:ab)(j:Nat):Option (ab):=match ds[j]? with
 |some d=>match NR d with
  |some _=>some (j3 j (.lst .ow []) 0 ds)
  |none=>none
 |none=>none
theorem o9{es:ab}{j:Nat}(h:jK ds j=some es):∃gs,ds[j]?=some (.lst .ow gs)/\es=j3 j (.lst .ow []) 0 ds:=by
 unfold jK at h;cases h1:ds[j]? with
 |none=>rw[h1]at h;exact nk h
 |some d =>
  rw[h1]at h;have h:(match NR d with|some _=>some (j3 j (.lst .ow []) 0 ds)|none=>none)=some es:=h;cases h2:NR d with
  |none=>rw[h2]at h;exact nk h
  |some gs =>
   rw[h2]at h;cases h;exact⟨gs,by rw[Gf h2],rfl⟩
def Dk(xs:ab):O D:=match two xs with
 |some z=>match z.2 with
  |.int k=>if 0<=k then(match z.1 with
   |.tup ds=>(match jK ds k.toNat with|some es=>ok (.tup es)|none=>none)
   |.lst f ds=>if cp f then(match jK ds k.toNat with|some es=>ok (.lst f es)|none=>none)else none
   |_=>none)else none
  |_=>none
 |none=>none
set_option tactic.hygienic true in
theorem vh{x y d:D}(h0:Dk [x,y]=ok d):∃(k:Int) (ds gs:ab),y=.int k/\0<=k/\ds[k.toNat]?=some (.lst .ow gs)/\((x=.tup ds/\d=.tup (j3 k.toNat (.lst .ow []) 0 ds))\/(x=.lst .ow ds/\d=.lst .ow (j3 k.toNat (.lst .ow []) 0 ds))):=by
 cases y<;>first|exact nk h0 | (cases h0;done)|skip
 rename_i k;by_cases hk:0<=k
 ·have h:(if 0<=k then(match x with
   |.tup ds=>(match jK ds k.toNat with|some es=>ok (.tup es)|none=>none)
   |.lst f ds=>if cp f then(match jK ds k.toNat with|some es=>ok (.lst f es)|none=>none)else none
   |_=>none)else none)=ok d:=h0
  rw[if_pos hk]at h;clear h0;cases x<;>first|exact nk h | (cases h;done)|skip
  ·rename_i ds;replace h:(match jK ds k.toNat with|some es=>ok (D.tup es)|none=>none)=ok d:=h;cases hc:jK ds k.toNat with
   |none=>rw[hc]at h;exact nk h
   |some es =>
    rw[hc]at h;cases h;obtain⟨gs,h1,rfl⟩:=o9 hc;exact⟨k,ds,gs,rfl,hk,h1,.inl ⟨rfl,rfl⟩⟩
  ·rename_i f ds;replace h:(if cp f then(match jK ds k.toNat with|some es=>ok (D.lst f es)|none=>none)else none)=ok d:=h;by_cases hf:cp f=true
   ·rw[if_pos hf]at h;cases hc:jK ds k.toNat with
    |none=>rw[hc]at h;exact nk h
    |some es =>
     rw[hc]at h;cases h;obtain rfl:f=.ow:=by cases f<;>first|rfl | (cases hf;done)
     obtain⟨gs,h1,rfl⟩:=o9 hc;exact⟨k,ds,gs,rfl,hk,h1,.inr ⟨rfl,rfl⟩⟩
   ·rw[if_neg hf]at h;cases h
 ·have h:(if 0<=k then(match x with
   |.tup ds=>(match jK ds k.toNat with|some es=>ok (.tup es)|none=>none)
   |.lst f ds=>if cp f then(match jK ds k.toNat with|some es=>ok (.lst f es)|none=>none)else none
   |_=>none)else none)=ok d:=h0
  rw[if_neg hk]at h;cases h
def tU(_:Scope)(_:af)(st:Stmt):Option (Expr×ai):=(kW ("clear" : Str) st).bind λz=>if z.2.isEmpty=true then(mi z.1).bind λy=>some (y.1,[y.2])else none
variable {o tg:Expr}{st:Stmt}
theorem wQ{sc:Scope}{bl:af}(h:tU sc bl st=some (o,args)):∃k p0 p1 p2 pos,args=[k]/\st=.Expr (.Call (.Attribute (.Subscript o k p0) ("clear" : Str) p1) [] [] p2) pos/\(p1.endLine==p2.line)=true:=by
 obtain⟨⟨b,as⟩,h1,h⟩:=bT h;obtain⟨ha,h⟩:=gT h;obtain⟨⟨a,k⟩,h2,h⟩:=bT h;cases h;obtain rfl:=Cb ha;obtain⟨p0,rfl⟩:=eQ h2;obtain⟨p1,p2,pos,rfl,hl⟩:=gn h1;exact⟨k,p0,p1,p2,pos,rfl,rfl,hl⟩
variable {pos:Pos}
theorem Iw{n:Nat}(hΦ:Φ n=Dk){sc:Scope}{bl:af}{k:Nat}(L:PX X sc bl k)(hN:X.N.Nodup)(uN:∀x,X.fn x=true){x:Str}(he:tU sc bl st=some (.Name x pos,args))
  {i:Nat} (hi:X.N[i]?=some x) (hl:L2.Loc X.env.scope x) (pe:PE X (.Name x pos) (vL i)) (hs:iF X F Φ cs args):PS X st (mV X F Φ (.mut n i cs)):=by
 obtain⟨ke,p0,p1,p2,pos',rfl,rfl,CG⟩:=wQ he;cases cs with
 |nil=>exact hs.elim
 |cons c cs=>cases cs with
  |cons _ _=>exact hs.2.2.2.elim
  |nil =>
   refine PS.imp (kv (yw Zm PySem.F.slot_list_clear PySem.F.type_list_clear qG (nh (kD.or oR) pe hs.1 hs.2.2.1) (hline:=CG))) λD σ H hq=>?_;obtain⟨R,τ,ρ,r,Si,ev,hq⟩:=hq;obtain⟨xs,bt,ev⟩:=aq ev;obtain⟨y,ey,bt⟩:=aq bt;cases bt;have key:∃(k:Int) (d0 d1:DI.D) (ds gs:List DI.D),y=.int k/\ρ[i]?=some (some d0)/\0<=k/\ds[k.toNat]?=some (.lst .ow gs)/\((d0=.tup ds/\d1=.tup (j3 k.toNat (.lst .ow []) 0 ds))\/(d0=.lst .ow ds/\d1=.lst .ow (j3 k.toNat (.lst .ow []) 0 ds)))/\r=(.nx,ρ.set i (some d1)):=by
    cases hz:aR bA [y]with
    |true =>
     obtain⟨d,d',h⟩:=sL ev hz;rw[hΦ]at h;obtain⟨k,ds,gs,h3,_⟩:=vh h;cases y<;>first|exact nk h3 | (cases h3;done) | (cases hz;done)
    |false =>
     obtain⟨d,d',h,h',rfl⟩:=oK ev hz;rw[hΦ]at h';obtain⟨k,ds,gs,rfl,h3,h4,h5⟩:=vh h';exact⟨k,d,d',ds,gs,rfl,h,h3,h4,h5,rfl⟩
   obtain⟨k,d0,d1,ds,gs,rfl,ho,hk,hg,hd,rfl⟩:=key;obtain⟨v,hv,_⟩:=Si.rep i _ ho;refine⟨v,hv,tD.intro Si ey λu H1 e1 ru=>?_⟩;cases ru.isInt;have mN:=Si.go e1;obtain⟨v',zi,rv⟩:=mN.rep i _ ho;rw[hv]at zi;cases zi;have at_:∀{xs:ae},aA (aU X.K H1) (nd X.K R (λ_=>False) τ H1) [i] 0 xs ds->∃(p:Addr) (zs:ae),xs[k.toNat]?=some (.ref p)/\H1 p=some (.lst zs)/\τ p=some [k.toNat,i]/\pQ xs k=some (.ref p):=by
    intro xs rs;obtain⟨w,hw,jB⟩:=rs.get hg;rw[Nat.zero_add]at jB;cases jB with
    | @lst _ p zs _ _ h _ =>
     refine⟨p,zs,hw,h.1,h.2,?_⟩;have fj:k.toNat<xs.length:=by
      by_cases z:k.toNat<xs.length
      ·exact z
      ·rw[List.getElem?_eq_none (by left)]at hw;cases hw
     unfold pQ L2.sU;rw[if_pos hk,if_pos (by left)];exact hw
   have go:∀{xs:ae} {p:Addr} {zs:ae},aA (aU X.K H1) (nd X.K R (λ_=>False) τ H1) [i] 0 xs ds->xs[k.toNat]?=some (.ref p)->H1 p=some (.lst zs)->τ p=some [k.toNat,i]->aA (aU X.K (upd H1 p (.lst []))) (nd X.K R (λ_=>False) τ (upd H1 p (.lst []))) [i] 0 xs (j3 k.toNat (.lst .ow []) 0 ds):=by
    intro xs p zs rs hx hp ht;refine aA.j3 (λ_ _ h=>gN hp h) (λc m a n f hm h=>mN.I_ hp ht (λz=>?_) h) rs λm w hw hm=>?_
    ·have:=Yn List.reverse z;simp at this;exact hm this.1
    ·rw[Nat.zero_add]at hm;subst hm;rw[hx]at hw;cases hw;exact .lst ⟨aV,ht⟩ .nil
   rcases hd with ⟨rfl,rfl⟩|⟨rfl,rfl⟩
   ·cases rv with
    | @tup _ a xs _ hn rs =>
     obtain⟨p,zs,h1,h2,h3,h4⟩:=at_ rs;refine .inr ⟨a,xs,k,_,rfl,rfl,hn,h4,⟨rfl,_,cM.of h2⟩,p,zs,rfl,rfl,h2,?_⟩;exact hq σ _ R τ (mN.Sh ho h2 h3 rfl hv (.tup (gN h2 hn) (go rs h1 h2 h3))) (lA (n:=.l _) mN e1 (λ_ h=>h) h2 h3)
   ·obtain⟨a,xs,rfl,hn,rs⟩:=rv.kT;obtain⟨p,zs,h1,h2,h3,h4⟩:=at_ rs;refine .inl ⟨a,xs,k,_,rfl,rfl,hn.sq,h4,⟨rfl,_,cM.of h2⟩,p,zs,rfl,rfl,h2,?_⟩;refine hq σ _ R τ (mN.Sh ho h2 h3 rfl hv (.lst (mN.I_ h2 h3 (λz=>?_) hn) (go rs h1 h2 h3))) (lA (n:=.l _) mN e1 (λ_ h=>h) h2 h3);have:=Yn List.length z;simp at this
noncomputable def ON:aH->Option (ab)
 |some (.tup es)=>some es
 |_=>none
def vi(ds:ab)(k j:Nat):Option (ab):=(ON ds[k]?).bind λes=>(jK es j).bind λEw=>some (j3 k (.tup Ew) 0 ds)
theorem Ai{r:ab}{k j:Nat}(h:vi ds k j=some r):∃es gs,ds[k]?=some (.tup es)/\es[j]?=some (.lst .ow gs)/\r=j3 k (.tup (j3 j (.lst .ow []) 0 es)) 0 ds:=by
 obtain⟨es,h1,h⟩:=bT h;obtain⟨Ew,h2,h⟩:=bT h;cases h;obtain⟨gs,h3,rfl⟩:=o9 h2;refine⟨es,gs,?_,h3,rfl⟩;cases hd:ds[k]? with
 |none=>rw[hd]at h1;exact nk h1
 |some d=>rw[hd]at h1;cases d<;>first|exact nk h1 | (cases h1;done) | (cases h1;rfl)
def vj(xs:ab):O D:=match xs with
 |[x,y,z]=>match x with
  |.lst f ds=>match y with
   |.int k=>match z with
    |.int j=>if 0<=k/\0<=j/\cp f=true then(match vi ds k.toNat j.toNat with|some r=>ok (.lst .ow r)|none=>none)else none
    |_=>none
   |_=>none
  |_=>none
 |_=>none
theorem rH{x y z d:D}(h0:vj [x,y,z]=ok d):∃(k j:Int) (ds es gs:ab),x=.lst .ow ds/\y=.int k/\z=.int j/\0<=k/\0<=j/\ds[k.toNat]?=some (.tup es)/\es[j.toNat]?=some (.lst .ow gs)/\d=.lst .ow (j3 k.toNat (.tup (j3 j.toNat (.lst .ow []) 0 es)) 0 ds):=by
 cases x<;>first|exact nk h0 | (cases h0;done) | (cases y<;>first|exact nk h0 | (cases h0;done) | (cases z<;>first|exact nk h0 | (cases h0;done)|skip))
 rename_i f ds k j;have h:(if 0<=k/\0<=j/\cp f=true then(match vi ds k.toNat j.toNat with|some r=>ok (D.lst .ow r)|none=>none)else none)=ok d:=h0;clear h0;by_cases hc:0<=k/\0<=j/\cp f=true
 ·rw[if_pos hc]at h;obtain⟨h1,h2,hf⟩:=hc;obtain rfl:f=.ow:=by cases f<;>first|rfl | (cases hf;done)
  cases h3:vi ds k.toNat j.toNat with
  |none=>rw[h3]at h;exact nk h
  |some r =>
   rw[h3]at h;cases h;obtain⟨es,gs,a,b,rfl⟩:=Ai h3;exact⟨k,j,ds,es,gs,rfl,rfl,rfl,h1,h2,a,b,rfl⟩
 ·rw[if_neg hc]at h;exact nk h
def ph(_:Scope)(_:af)(st:Stmt):Option (Expr×ai):=(kW ("clear" : Str) st).bind λz=>if z.2.isEmpty=true then(mi z.1).bind λy=>(mi y.1).bind λu=>some (u.1,[u.2,y.2])else none
theorem tT{sc:Scope}{bl:af}(h:ph sc bl st=some (o,args)):∃k j p p0 p1 p2 pos,args=[k,j]/\st=.Expr (.Call (.Attribute (.Subscript (.Subscript o k p) j p0) ("clear" : Str) p1) [] [] p2) pos/\(p1.endLine==p2.line)=true:=by
 obtain⟨⟨b,as⟩,h1,h⟩:=bT h;obtain⟨ha,h⟩:=gT h;obtain⟨⟨a,k⟩,h2,h⟩:=bT h;obtain⟨⟨a',k'⟩,h3,h⟩:=bT h;cases h;obtain rfl:=Cb ha;obtain⟨p0,rfl⟩:=eQ h2;obtain⟨p,rfl⟩:=eQ h3;obtain⟨p1,p2,pos,rfl,hl⟩:=gn h1;exact⟨_,_,p,p0,p1,p2,pos,rfl,rfl,hl⟩
theorem AD{xs:ae}{k:Int}{v:V}(hk:0<=k)(h:xs[k.toNat]?=some v):pQ xs k=some v:=by
 have fj:k.toNat<xs.length:=by
  by_cases z:k.toNat<xs.length
  ·exact z
  ·rw[List.getElem?_eq_none (by left)]at h;cases h
 unfold pQ L2.sU;rw[if_pos hk,if_pos (by left)];exact h
theorem Dl{n:Nat}(hΦ:Φ n=vj){sc:Scope}{bl:af}{k:Nat}(L:PX X sc bl k)(hN:X.N.Nodup)(uN:∀x,X.fn x=true){x:Str}(he:ph sc bl st=some (.Name x pos,args))
  {i:Nat} (hi:X.N[i]?=some x) (hl:L2.Loc X.env.scope x) (pe:PE X (.Name x pos) (vL i)) (hs:iF X F Φ cs args):PS X st (mV X F Φ (.mut n i cs)):=by
 obtain⟨ke,je,p,p0,p1,p2,pos',rfl,rfl,CG⟩:=tT he;cases cs with
 |nil=>exact hs.elim
 |cons c cs=>cases cs with
  |nil=>exact hs.2.2.2.elim
  |cons c' cs=>cases cs with
   |cons _ _=>exact hs.2.2.2.2.2.2.elim
   |nil =>
    obtain⟨g1,_,x1,g2,_,x2,_⟩:=hs;refine PS.imp (kv (yw Zm PySem.F.slot_list_clear PySem.F.type_list_clear qG (nh (kD.or oR) (nh (kD.or oR) pe g1 x1) g2 x2) (hline:=CG))) λD σ H hq=>?_;obtain⟨R,τ,ρ,r,Si,ev,hq⟩:=hq;obtain⟨xs,bt,ev⟩:=aq ev;obtain⟨y,ey,bt⟩:=aq bt;obtain⟨ys,eO,bt⟩:=aq bt;cases bt;obtain⟨z,ez,eO⟩:=aq eO;cases eO;have key:∃(k j:Int) (ds es gs:List DI.D),y=.int k/\z=.int j/\ρ[i]?=some (some (.lst .ow ds))/\0<=k/\0<=j/\ds[k.toNat]?=some (.tup es)/\es[j.toNat]?=some (.lst .ow gs)/\r=(.nx,ρ.set i (some (.lst .ow (j3 k.toNat (.tup (j3 j.toNat (.lst .ow []) 0 es)) 0 ds)))):=by
     cases hz:aR bA [y,z]with
     |true =>
      obtain⟨d,d',h⟩:=sL ev hz;rw[hΦ]at h;obtain⟨k,j,ds,es,gs,_,ha,hb,_⟩:=rH h;have ha:aI aY y=.int k:=ha;have hb:aI aY z=.int j:=hb;cases y<;>first|exact nk ha | (cases ha;done) | (cases z<;>first|exact nk hb | (cases hb;done) | (cases hz;done))
     |false =>
      obtain⟨d,d',h,h',rfl⟩:=oK ev hz;rw[hΦ]at h';obtain⟨k,j,ds,es,gs,rfl,rfl,rfl,h1,h2,h3,h4,rfl⟩:=rH h';exact⟨k,j,ds,es,gs,rfl,rfl,h,h1,h2,h3,h4,rfl⟩
    obtain⟨k,j,ds,es,gs,rfl,rfl,ho,hk,hj,hd,hg,rfl⟩:=key;obtain⟨v,hv,S5⟩:=Si.rep i _ ho;refine⟨v,hv,tD.intro Si ey λu H1 e1 ru=>?_⟩;cases ru.isInt;have mN:=Si.go e1;obtain⟨v',zi,Vy⟩:=mN.rep i _ ho;rw[hv]at zi;cases zi;obtain⟨a,xs,rfl,T5,FR⟩:=Vy.kT;obtain⟨w,hw,Vw⟩:=FR.get hd;obtain⟨b,ys,rfl,N_,D9⟩:=Vw.xu;refine .inl ⟨a,xs,k,_,rfl,rfl,T5.sq,AD hk hw,tD.intro mN ez λu H2 e2 ru=>?_⟩;cases ru.isInt;have pR:=mN.go e2;obtain⟨v',zi,rv⟩:=pR.rep i _ ho;rw[hv]at zi;cases zi;obtain⟨a',xs',ea,hn,rs⟩:=rv.kT;cases ea;obtain rfl:xs'=xs:=by
     have h1:=e2 _ _ T5.1;have h2:=hn.1;exact(HO.lst.inj (Yg (h2.symm.trans h1)))
    obtain⟨w',TX,jB⟩:=rs.get hd;rw[hw]at TX;cases TX;obtain⟨b',SH,eb,hb,iX⟩:=jB.xu;cases eb;obtain⟨w2,TU,Vv⟩:=iX.get hg;obtain⟨q,zs,rfl,N6,_⟩:=Vv.kT;rw[Nat.zero_add]at iX N6;rw[Nat.zero_add]at N6;have h2:H2 q=some (.lst zs):=N6.1;have h3:τ q=some [j.toNat,k.toNat,i]:=N6.2;refine .inr ⟨b,SH,j,_,rfl,rfl,hb,AD hj TU,⟨rfl,_,cM.of h2⟩,q,zs,rfl,rfl,h2,?_⟩;have inner:aA (aU X.K (upd H2 q (.lst []))) (nd X.K R (λ_=>False) τ (upd H2 q (.lst []))) [k.toNat,i] 0 SH (j3 j.toNat (.lst .ow []) 0 es):=by
     refine aA.j3 (λ_ _ h=>gN h2 h) (λc m a n f hm h=>pR.I_ h2 h3 (λz=>?_) h) iX λm w hw hm=>?_
     ·have:=Yn List.reverse z;simp at this;exact hm this.1
     ·rw[Nat.zero_add]at hm;subst hm;rw[TU]at hw;cases hw;exact .lst ⟨aV,h3⟩ .nil
    have outer:aA (aU X.K (upd H2 q (.lst []))) (nd X.K R (λ_=>False) τ (upd H2 q (.lst []))) [i] 0 xs' (j3 k.toNat (.tup (j3 j.toNat (.lst .ow []) 0 es)) 0 ds):=by
     refine aA.j3 (λ_ _ h=>gN h2 h) (λc m a n f hm h=>pR.I_ h2 h3 (λz=>?_) h) rs λm w TV hm=>?_
     ·have:=Yn List.reverse z;simp at this;exact hm this.1
     ·rw[Nat.zero_add]at hm;subst hm;rw[hw]at TV;cases TV;exact .tup (gN h2 hb) inner
    refine hq σ _ R τ (pR.Sh ho h2 h3 rfl hv (.lst (pR.I_ h2 h3 (λz=>?_) hn) outer)) (lA (n:=.l _) pR (e1.trans e2) (λ_ h=>h) h2 h3);have:=Yn List.length z;simp at this
inductive w_(K:ao)(H:Hp):V->Hp->D->Prop where
 |bl (b:Bool):w_ K H (.bl b) H (.bl b)
 |lst (p:Addr) (ss:af):H p=none->w_ K H (.ref p) (upd H p (.lst (ss.map V.str))) (.lst .ow (ss.map D.str))
 |tup (p:Addr) (ss:af):H p=none->w_ K H (.ref p) (upd H p (.tup (ss.map V.str))) (.tup (ss.map D.str))
theorem jC{T:jr}{N:gk}{k:aZ}:∀{n:Nat} (ss:af),aA T N k n (ss.map V.str) (ss.map D.str)
 |_,[]=>.nil
 |_,s::ss=>.cons (.str s) (jC ss)
variable {K:ao}{τ:Addr->Option aZ}
theorem w_.rep{H0 H':Hp}{v:V}{d:D}(h:w_ K H v H' d)(e:aG H0 H){G:Addr->Prop}{fv:aJ}:aG H0 H'/\bC K G R τ fv H0 H' v d:=by
 cases h with
 |bl b=>exact⟨e,.bl⟩
 |lst p ss hp=>exact⟨e.trans (aG.upd hp),bC.qF (e.free hp) (e.trans (aG.upd hp)) aV (jC ss)⟩
 |tup p ss hp=>exact⟨e.trans (aG.upd hp),⟨λ_=>none,λ_ _ h=>by simp at h,.tup (aU.of aV) (jC ss)⟩⟩
def OF(X:Cx)(id:String)(f:Str->Str->O D):Prop:=Nm X id (λx xs H Q=>∃(a b:Str) (d:D),x=.str a/\xs=[.str b]/\f a b=ok d/\∀v H',w_ X.K H v H' d->Q v H')
def rZ(f:Str->Str->O D)(xs:ab):O D:=match two xs with
 |some z=>match z.1 with
  |.str a=>match z.2 with
   |.str b=>f a b
   |_=>none
  |_=>none
 |none=>none
theorem yU{f:Str->Str->O D}{x y d:D}(h:rZ f [x,y]=ok d):∃a b:Str,x=.str a/\y=.str b/\f a b=ok d:=by
 cases x<;>first|exact nk h | (cases h;done) | (cases y<;>first|exact nk h | (cases h;done)|skip)
 exact⟨_,_,rfl,rfl,h⟩
def rK(m:Str)(_:Scope)(_:af)(e:Expr):Option (ai):=(kW m (.Expr e ⟨0,0,0,0⟩)).bind λz=>(one z.2).bind λy=>if isNm z.1=true then some [z.1,y]else none
theorem Am{m:Str}{sc:Scope}{bl:af}{e:Expr}(h:rK m sc bl e=some args):∃x p p1 p2 a,e=.Call (.Attribute (.Name x p) m p1) [a] [] p2/\args=[.Name x p,a]/\(p1.endLine==p2.line)=true:=by
 obtain⟨⟨o,as⟩,h1,h⟩:=bT h;obtain⟨y,h2,h⟩:=bT h;obtain⟨hc,h⟩:=gT h;cases h;obtain⟨p1,p2,pos,e1,hl⟩:=gn h1;cases e1;obtain⟨x,p,e2⟩:=i7 hc;obtain rfl:=bP h2;have e2:o=.Name x p:=e2;subst e2;exact⟨x,p,p1,p2,y,rfl,rfl,hl⟩
theorem yT{m:Str}{id:String}{f:Str->Str->O D}(slot:Slot "str" m id)(LI:typeOf (.builtin id)=pure (.type "method_descriptor"))(hm:∀X,OF X id f){Φ:aQ}{n:Nat}(hΦ:Φ n=rZ f){X:Cx}{sc:Scope}{bl:af}{k:Nat}(L:PX X sc bl k){e:Expr}{args:ai}(he:rK m sc bl e=some args){F:ah}{cs:aC}(hs:iF X F Φ cs args):PE X e (tD X F Φ (.bq n cs))/\PT X e (dN X F Φ (.bq n cs)):=by
 obtain⟨x,p,p1,p2,a,rfl,rfl,hl⟩:=Am he;cases cs with
 |nil=>exact hs.elim
 |cons c cs=>cases cs with
  |nil=>exact hs.2.2.2.elim
  |cons c' cs=>cases cs with
   |cons _ _=>exact hs.2.2.2.2.2.2.elim
   |nil =>
    obtain⟨h1,_,_,h2,s2,_,_⟩:=hs;have this:PE X (.Call (.Attribute (.Name x p) m p1) [a] [] p2) (tD X F Φ (.bq n [c,c'])):=by
     refine PE.imp (yx PySem.F.plainAttrs_str slot LI (hm X) h1 (cc h2 dh (s2 _)) (hfew:=by rw[s2];rfl) (hline:=hl) (hs:=s2 _)) λσ H Q hq=>?_;obtain⟨R,τ,ρ,d,Si,ev,hq⟩:=hq;obtain⟨xs,bt,ev⟩:=aq ev;obtain⟨y,ey,bt⟩:=aq bt;obtain⟨ys,eO,bt⟩:=aq bt;cases bt;obtain⟨w,ew,eO⟩:=aq eO;cases eO;rw[hΦ]at ev;obtain⟨s,t,rfl,rfl,hf⟩:=yU ev;refine tD.intro Si ey λv H1 e1 r1=>?_;cases r1.isStr;refine⟨rfl,tD.intro (Si.go e1) ew λu H2 e2 r2=>?_⟩;cases r2.isStr;refine⟨s,t,_,rfl,rfl,hf,λv H' hn=>?_⟩;obtain⟨g1,g2⟩:=hn.rep (e1.trans e2);exact hq _ _ g1 g2
    exact⟨this,bK this λ_=>rfl⟩
noncomputable def e_(a b:Str):O D:=if a.length<=1000000/\b.length≠0 then ok (.lst .ow ((Txt.split a b).map D.str))else none
theorem mP:∀l:List (Str×Tok),Vals ((l.map (·.1)).map V.str) (strValues l)
 |[]=>.nil
 |p::l=>.cons ⟨p.2,rfl⟩ (mP l)
theorem yS(X:Cx):OF X "str.split" e_:=by
 intro pins s σ H x xs v us Q I rx r h;obtain⟨a,b,d,rfl,rfl,hf,q⟩:=h;obtain⟨⟨ha,Oa⟩,rfl⟩:=ka hf;have hb:(b.length==0)=false:=Za Oa;obtain⟨t,rfl⟩:=rx;obtain⟨u',rfl,u,rfl⟩:=r.one;have hs:sizeLine=16777216:=YF;have hw:=split_weight a b (by left);have fin:∀l k,l.map (·.1)=Txt.split a b->EP X pins σ Q (.ref s.heap.objs.size) { s with heap:=s.heap.push { cls:=.type "list",data:=.seq (strValues l).toArray },toks:=k }:=λl k e=>by
  rw[<- e]at q hw;refine⟨.ref _,_,I.Cm (mP l) (by rw[List.length_map];left),rfl,q _ _ (.lst _ _ I.fresh)⟩
 have hn:(Builtin.Str.partsBetween a (Builtin.Str.occurrences a b 0 a.length (a.length+1)) b.length).length<=sizeLine:=by
  have e1:=StrLaws.occ_length_le a b 0 a.length (a.length+1);rw[length_partsBetween];left
 cases h1:(decide (a.length<b.length)||decide (Builtin.Str.strKind a<Builtin.Str.strKind b))
 ·cases hf:(Builtin.Str.occurrences a b 0 a.length (a.length+1)).isEmpty
  ·refine YJ Zu (Zj _ _ _) Z2 (ZV _ _) (meets_str_split_sep a b t u h1 hb hf (by left) hn) ?_;show wants _ _ _ { s with toks:=_,heap:=s.heap.push { cls:=.type "list",data:=.seq (strsFrom s.toks (Builtin.Str.partsBetween a (Builtin.Str.occurrences a b 0 a.length (a.length+1)) b.length)).toArray } };rw[strsFrom_eq];exact fin (numbered s.toks _) _ ((numbered_texts _ _).trans ((Zh (ZO h1)).trans (Zh (ZO hf))).symm)
  ·exact YJ Zu (Zj _ _ _) Z2 (ZV _ _) (meets_str_split_not_found a b t u h1 hb hf)
    (fin [(a,t)] s.toks ((Zh (ZO h1)).trans (Yv hf)).symm)
 ·exact YJ Zu (Zj _ _ _) Z2 (ZV _ _) (meets_str_split_cannot_occur a b t u h1)
   (fin [(a,t)] s.toks (Yv h1).symm)
def xX:=@yT "split" "str.split" e_ Zu PySem.F.type_str_split yS
noncomputable def nj(a b:Str):O D:=if a.length<=1000000/\b.length≠0 then ok (.tup ([(Txt.partition a b).1,(Txt.partition a b).2.1,(Txt.partition a b).2.2].map D.str))else none
theorem Cf(X:Cx):OF X "str.partition" nj:=by
 intro pins s σ H x xs v us Q I rx r h;obtain⟨a,b,d,rfl,rfl,hf,q⟩:=h;obtain⟨⟨ha,Oa⟩,rfl⟩:=ka hf;have hb:(b.length==0)=false:=Za Oa;obtain⟨t,rfl⟩:=rx;obtain⟨u',rfl,u,rfl⟩:=r.one;have hs:sizeLine=16777216:=YF;have fin:∀t1 t2 t3 k,EP X pins σ Q (.ref s.heap.objs.size) { s with heap:=s.heap.push { cls:=.type "tuple",data:=.seq [.str (Txt.partition a b).1 t1,.str (Txt.partition a b).2.1 t2,.str (Txt.partition a b).2.2 t3].toArray },toks:=k }:=λt1 t2 t3 k=>by
  refine⟨.ref _,_,I.laid (o:=.tup ([(Txt.partition a b).1,(Txt.partition a b).2.1,(Txt.partition a b).2.2].map V.str)) (λb ob q=>X8 _ q) (Yb _) ?_,rfl,q _ _ (.tup _ _ I.fresh)⟩;exact⟨by rw[hs];exact Nat.le_of_ble_eq_true rfl,_,.cons ⟨t1,rfl⟩ (.cons ⟨t2,rfl⟩ (.cons ⟨t3,rfl⟩ .nil)),IsTup.new _ _⟩
 refine YJ F.slot_str_partition (Zj _ _ _) F.entry_str_partition (F.args_str_partition_2 _ _) (meets_str_partition a b t u hb (by left)) ?_;unfold Txt.partition at fin
 revert fin
 cases Builtin.Str.occurrences a b 0 a.length 1 with
 |nil=>intro fin;exact fin _ _ _ _
 |cons i r=>intro fin;exact fin _ _ _ _
def BV:=@yT "partition" "str.partition" nj PySem.F.slot_str_partition PySem.F.type_str_partition Cf
noncomputable def jx(a b:Str):O D:=ok (.bl (Txt.startswith a b))
theorem yR(X:Cx):OF X "str.startswith" jx:=by
 intro pins s σ H x xs v us Q I rx r h;obtain⟨a,b,d,rfl,rfl,hf,q⟩:=h;cases hf;obtain⟨t,rfl⟩:=rx;obtain⟨u',rfl,u,rfl⟩:=r.one;exact SC.startswith ⟨.bl _,H,I,rfl,q _ _ (.bl _)⟩
def xT:=@yT "startswith" "str.startswith" jx PySem.F.slot_str_startswith PySem.F.type_str_startswith yR
theorem Bx:OD X (λx lo hi H Q=>∃(s:Str) (k:Nat),x=.str s/\lo=some (k:Int)/\hi=none/\s.length<=1000000/\Q (.str (Txt.slice s (some (k:Int)) none)) H):=by
 intro pins s σ H x v vl vu lo hi sl Q I rx hs pl pu h;obtain⟨z,k,rfl,rfl,rfl,hz,q⟩:=h;obtain⟨t,rfl⟩:=rx;have hsz:sizeLine=16777216:=YF;cases pl with
 |int i t' =>
  cases pu;exact⟨"str",_,F.slot_str_getitem.lookup,Zj _ _ _,wpAny_getItem_str_slice (l:=some ((k:Int),t')) (u:=none) (st:=none) hs rfl (post_val_or_str ⟨Yi (Txt.slice_le z _ _) (by left),λt' k=>⟨.str _,H,I.tok _,⟨_,rfl⟩,q⟩⟩)⟩
def vf(xs:ab):O D:=match two xs with
 |some z=>match z.1 with
  |.str s=>match z.2 with
   |.int k=>if (0<=k/\k<=s.length)/\s.length<=1000000 then ok (.str ⟨(s.cps.toList.drop k.toNat).toArray⟩)else none
   |_=>none
  |_=>none
 |none=>none
theorem Af{x y d:D}(h:vf [x,y]=ok d):∃(s:Str) (k:Nat),x=.str s/\y=.int k/\k<=s.length/\s.length<=1000000/\d=.str ⟨(s.cps.toList.drop k).toArray⟩:=by
 cases x<;>first|exact nk h | (cases h;done) | (cases y<;>first|exact nk h | (cases h;done)|skip)
 obtain⟨⟨⟨h1,h2⟩,h3⟩,h4⟩:=ka h;rename_i s k;exact⟨s,k.toNat,rfl,by rw[Int.toNat_of_nonneg h1],by left,h3,h4.symm⟩
theorem sC{s:Str}{k:Nat}(h:k<=s.length):Txt.slice s (some (k:Int)) none=⟨(s.cps.toList.drop k).toArray⟩:=by
 rw[slice_from_eq (b:=s.length) (by left) (by left) rfl,Int.toNat_natCast,List.take_of_length_le];rw[List.length_drop];have:s.cps.toList.length=s.length:=by simp[Str.length]
 left
theorem Dg{n:Nat}(hΦ:Φ n=vf){sc:Scope}{bl:af}{k:Nat}(L:PX X sc bl k){e:Expr}(he:l4 true sc bl e=some args)(hs:iF X F Φ cs args):PE X e (tD X F Φ (.bq n cs))/\PT X e (dN X F Φ (.bq n cs)):=by
 obtain⟨a,ke,p,pos,rfl,rfl⟩:=nU he;cases cs with
 |nil=>exact hs.elim
 |cons c cs=>cases cs with
  |nil=>exact hs.2.2.2.elim
  |cons c' cs=>cases cs with
   |cons _ _=>exact hs.2.2.2.2.2.2.elim
   |nil =>
    obtain⟨h1,_,_,h2,_,_,_⟩:=hs;have this:PE X (.Subscript a (.Slice (some ke) none none p) pos) (tD X F Φ (.bq n [c,c'])):=by
     refine PE.imp (qz Bx h1 (oA h2) oB) λσ H Q hq=>?_;obtain⟨R,τ,ρ,d,Si,ev,hq⟩:=hq;obtain⟨xs,bt,ev⟩:=aq ev;obtain⟨x,ex,bt⟩:=aq bt;obtain⟨ys,eO,bt⟩:=aq bt;cases bt;obtain⟨y,ey,eO⟩:=aq eO;cases eO;rw[hΦ]at ev;obtain⟨s,j,rfl,rfl,hj,hz,rfl⟩:=Af ev;refine tD.intro Si ex λv H1 e1 r1=>tD.intro (Si.go e1) ey λu H2 e2 r2=>?_;cases r1.isStr;cases r2.isInt;exact⟨j,rfl,s,j,rfl,rfl,rfl,hz,by rw[sC hj];exact hq _ H2 (e1.trans e2) .str⟩
    exact⟨this,bK this λ_=>rfl⟩
def Cu(xs:ab):O D:=match two xs with
 |some z=>match z.1 with
  |.str s=>match z.2 with
   |.int k=>match L2.pQ s.cps.toList k with
    |some c=>if s.length<=1000000 then ok (.str ⟨#[c]⟩)else none
    |none=>none
   |_=>none
  |_=>none
 |none=>none
theorem Ct{x y d:D}(h:Cu [x,y]=ok d):∃(s:Str) (k:Int) (c:Nat),x=.str s/\y=.int k/\L2.pQ s.cps.toList k=some c/\s.length<=1000000/\d=.str ⟨#[c]⟩:=by
 cases x<;>first|exact nk h | (cases h;done) | (cases y<;>first|exact nk h | (cases h;done)|skip)
 rename_i s k;have h:(match L2.pQ s.cps.toList k with|some c=>if s.length<=1000000 then ok (D.str ⟨#[c]⟩)else none|none=>none)=ok d:=h;cases hc:L2.pQ s.cps.toList k with
 |none=>rw[hc]at h;exact nk h
 |some c =>
  rw[hc]at h;obtain⟨h1,h2⟩:=ka h;exact⟨s,k,c,rfl,rfl,hc,h1,h2.symm⟩
def Ap(_:Scope)(_:af)(e:Expr):Option (ai):=(mi e).bind λz=>some [z.1,z.2]
theorem GZ{n:Nat}(hΦ:Φ n=Cu){sc:Scope}{bl:af}{k:Nat}(L:PX X sc bl k){e:Expr}(he:Ap sc bl e=some args)(hs:iF X F Φ cs args):PE X e (tD X F Φ (.bq n cs))/\PT X e (dN X F Φ (.bq n cs)):=by
 obtain⟨⟨a,ke⟩,hv,h⟩:=bT he;cases h;obtain⟨pos,rfl⟩:=eQ hv;cases cs with
 |nil=>exact hs.elim
 |cons c cs=>cases cs with
  |nil=>exact hs.2.2.2.elim
  |cons c' cs=>cases cs with
   |cons _ _=>exact hs.2.2.2.2.2.2.elim
   |nil =>
    obtain⟨h1,_,_,h2,_,h3,_⟩:=hs;have this:PE X (.Subscript a ke pos) (tD X F Φ (.bq n [c,c'])):=by
     refine PE.imp (nh GY h1 h2 h3) λσ H Q hq=>?_;obtain⟨R,τ,ρ,d,Si,ev,hq⟩:=hq;obtain⟨xs,bt,ev⟩:=aq ev;obtain⟨x,ex,bt⟩:=aq bt;obtain⟨ys,eO,bt⟩:=aq bt;cases bt;obtain⟨y,ey,eO⟩:=aq eO;cases eO;rw[hΦ]at ev;obtain⟨s,j,z,rfl,rfl,hj,hz,rfl⟩:=Ct ev;refine tD.intro Si ex λv H1 e1 r1=>tD.intro (Si.go e1) ey λu H2 e2 r2=>?_;cases r1.isStr;cases r2.isInt;exact⟨s,j,z,rfl,rfl,Yi hz (by rw[sizeLine_eq];decide),hj,hq _ H2 (e1.trans e2) .str⟩
    exact⟨this,bK this λ_=>rfl⟩
def lh(f:Str->O D)(xs:ab):O D:=match one xs with
 |some d=>match d with
  |.str s=>f s
  |_=>none
 |none=>none
theorem oF{f:Str->O D}{d:D}(h:lh f xs=ok d):∃s,xs=[.str s]/\f s=ok d:=by
 unfold lh at h;cases h1:one xs with
 |none=>rw[h1]at h;cases h
 |some x =>
  rw[h1]at h;cases x<;>first|exact nk h | (cases h;done)|exact⟨_,bP h1,h⟩
noncomputable def GP(s:Str):O D:=if s.length<=1000000 then ok (.int s.length)else none
noncomputable def wo(s:Str):O D:=match intText? s with
 |some i=>if s.length<=640 then ok (.int i)else none
 |none=>none
theorem mK:df X (.type "int") (λxs H Q=>∃s i,xs=[.str s]/\intText? s=some i/\s.length<=640/\Q (.int i) H):=by
 intro pins s σ H xs us Q I r h;obtain⟨z,i,rfl,hi,hz,q⟩:=h;obtain⟨u,rfl,t,rfl⟩:=r.one;exact PySem.W.KIN.call_text hi hz ⟨.int i,H,I.tok _,⟨_,rfl⟩,q⟩
theorem Co{n:Nat}(hΦ:Φ n=lh GP){sc:Scope}{bl:af}{k:Nat}(L:PX X sc bl k){e:Expr}(he:eG ("len" : Str) sc bl e=some args)(hs:iF X F Φ cs args):PE X e (tD X F Φ (.bq n cs))/\PT X e (dN X F Φ (.bq n cs)):=by
 obtain⟨p,pos,a,rfl,rfl,h1,h2⟩:=fF he;cases cs with
 |nil=>exact hs.elim
 |cons c cs=>cases cs with
  |cons _ _=>exact hs.2.2.2.elim
  |nil =>
   have pa:PA X [a] (oh X F Φ [c]):=PA.imp (cc hs.1 (PA.imp dh λ_ _ _ h=>fK h) (hs.2.1 _)) λ_ _ _ h=>dF h;have this:PE X (.Call (.Name ("len" : Str) p) [a] [] pos) (tD X F Φ (.bq n [c])):=by
    refine PE.imp (c9 pw (L.gl h1) (L.bl _ h2) (by decide +kernel) pa (he:=hs.2.1 _)) λσ H Q hq=>?_;obtain⟨R,τ,ρ,d,Si,ev,hq⟩:=hq;obtain⟨xs,bt,ev⟩:=aq ev;rw[hΦ]at ev;obtain⟨s,rfl,hl⟩:=oF ev;obtain⟨hl,rfl⟩:=ka hl;refine⟨R,τ,ρ,_,Si,bt,λvs H1 e1 r1=>?_⟩;obtain⟨τt,fr,rs⟩:=r1;obtain⟨v,rfl,rv⟩:=rs.one;cases rv;have hsz:sizeLine=16777216:=YF;exact⟨s,rfl,by left,hq _ H1 e1 .int⟩
   exact⟨this,bK this λ_=>rfl⟩
theorem CA{n:Nat}(hΦ:Φ n=lh wo){sc:Scope}{bl:af}{k:Nat}(L:PX X sc bl k){e:Expr}(he:eG ("int" : Str) sc bl e=some args)(hs:iF X F Φ cs args):PE X e (tD X F Φ (.bq n cs))/\PT X e (dN X F Φ (.bq n cs)):=by
 obtain⟨p,pos,a,rfl,rfl,h1,h2⟩:=fF he;cases cs with
 |nil=>exact hs.elim
 |cons c cs=>cases cs with
  |cons _ _=>exact hs.2.2.2.elim
  |nil =>
   have pa:PA X [a] (oh X F Φ [c]):=PA.imp (cc hs.1 (PA.imp dh λ_ _ _ h=>fK h) (hs.2.1 _)) λ_ _ _ h=>dF h;have this:PE X (.Call (.Name ("int" : Str) p) [a] [] pos) (tD X F Φ (.bq n [c])):=by
    refine PE.imp (ft mK (L.gl h1) (L.bl _ h2) (by decide +kernel) pa (he:=hs.2.1 _)) λσ H Q hq=>?_;obtain⟨R,τ,ρ,d,Si,ev,hq⟩:=hq;obtain⟨xs,bt,ev⟩:=aq ev;rw[hΦ]at ev;obtain⟨s,rfl,hl⟩:=oF ev;unfold wo at hl;cases hi:intText? s with
    |none=>rw[hi]at hl;exact nk hl
    |some i =>
     rw[hi]at hl;obtain⟨uL,rfl⟩:=ka (show(if s.length<=640 then ok (D.int i)else none)=ok d from hl);refine⟨R,τ,ρ,_,Si,bt,λvs H1 e1 r1=>?_⟩;obtain⟨τt,fr,rs⟩:=r1;obtain⟨v,rfl,rv⟩:=rs.one;cases rv;exact⟨s,i,rfl,hi,uL,hq _ H1 e1 .int⟩
   exact⟨this,bK this λ_=>rfl⟩
noncomputable def Jh(a b:Str):O D:=ok (.bl (!(Builtin.Str.occurrences b a 0 b.length 1).isEmpty))
def EC(_:Scope)(_:af)(e:Expr):Option (ai):=(vI e).bind λz=>(one z.2.2).bind λr=>if z.2.1=[.In]/\f_ r=true then some [z.1,r]else none
theorem Hd{n:Nat}(hΦ:Φ n=rZ Jh){sc:Scope}{bl:af}{k:Nat}(L:PX X sc bl k){e:Expr}(he:EC sc bl e=some args)(hs:iF X F Φ cs args):PE X e (tD X F Φ (.bq n cs))/\PT X e (dN X F Φ (.bq n cs)):=by
 obtain⟨⟨l,os,rs⟩,hv,h⟩:=bT he;obtain⟨r,hw,h⟩:=bT h;obtain⟨hc,h⟩:=gT h;cases h;obtain⟨rfl,s9⟩:=hc;obtain⟨p,rfl⟩:=ki hv;obtain rfl:=bP hw;cases cs with
 |nil=>exact hs.elim
 |cons c cs=>cases cs with
  |nil=>exact hs.2.2.2.elim
  |cons c' cs=>cases cs with
   |cons _ _=>exact hs.2.2.2.2.2.2.elim
   |nil =>
    obtain⟨h1,_,_,h2,_,_,_⟩:=hs;have key:∀{σ:St} {H:Hp} {R:ah} {τ:Addr->Option aZ} {ρ:aX} {d:D} {Q:VK},SI X F R τ ρ σ H->bj Φ (.bq n [c,c']) ρ=ok d->(∀b H2,d=.bl b->aG H H2->Q (.bl b) H2)->AO (λx y H Q=>∃i j,x=.str i/\y=.str j/\Q (.bl (!(Builtin.Str.occurrences j i 0 j.length 1).isEmpty)) H) (tD X F Φ c) (tD X F Φ c') σ H Q:=by
     intro σ H R τ ρ d Q Si ev hq;obtain⟨xs,bt,ev⟩:=aq ev;obtain⟨x,ex,bt⟩:=aq bt;obtain⟨ys,eO,bt⟩:=aq bt;cases bt;obtain⟨y,ey,eO⟩:=aq eO;cases eO;rw[hΦ]at ev;obtain⟨s,t,rfl,rfl,hf⟩:=yU ev;cases hf;refine tD.intro Si ex λv H1 e1 r1=>tD.intro (Si.go e1) ey λu H2 e2 r2=>?_;cases r1.isStr;cases r2.isStr;exact⟨s,t,rfl,rfl,hq _ H2 rfl (e1.trans e2)⟩
    refine⟨PE.imp (kz nq h1 h2 (jE s9)) λσ H Q hq=>?_,PT.imp (ku nq h1 h2 (jE s9)) λσ H Q hq=>?_⟩
    ·obtain⟨R,τ,ρ,d,Si,ev,hq⟩:=hq;exact key Si ev λb H2 e s=>by subst e;exact hq _ H2 s .bl
    ·obtain⟨R,τ,ρ,b,Si,ev,hq⟩:=hq;obtain⟨d,ed,et⟩:=aq ev;refine key Si ed λb' H2 e es=>?_;subst e;cases et;exact⟨_,rfl,hq H2 es⟩
noncomputable def UZ(x:Str):It:=⟨λi _=>i<x.cps.size,λi H v H'=>H'=H/\∃c,x.cps[i]?=some c/\v=.str ⟨#[c]⟩,λi _=>x.cps.size<=i⟩
theorem xH{P:aE}{w:World}(it:Addr)(x:Str)(t:Tok):Turn P w K tg (UZ x) [it] it (λi h=>h.IsStrIter it "str_ascii_iterator" x t i) where
 mem:=by simp
 obj:=λi h st b hb=>by
  have e:b=it:=by simpa using hb
  subst e;obtain⟨o,e,c,d⟩:=st;exact⟨o,e,λv z=>by rw[d]at z;cases z⟩
 keep:=λi h h' st k=>let ⟨o,e,r⟩:=st;⟨o,k it (by simp) o e,r⟩
 item:=by
  intro X hP hw hK hc i pins s σ H E I hf st hg;subst hP hw hK;obtain⟨f0,f1,f2,f3,f4,f5⟩:=hf it (by simp);have hx:x.cps[i]?=some x.cps[i]:=YC hg;refine wpAny_pyNext_ascii_item st hx λh' kn sb=>?_;have I1:Inv X pins σ H { s with heap:=h',toks:=s.toks+1 }:=I.turned (t':=s.toks+1) (λb o hb e=>(sb.2 b hb).trans e) f0 f1 f3 f4 f5;obtain⟨o,e,c,d⟩:=id kn;exact⟨_,rfl,uS (s:={ s with heap:=h',toks:=s.toks+1 }) e c d (by decide) ⟨.str ⟨#[x.cps[i]]⟩,H,I1,⟨_,rfl⟩,⟨rfl,_,hx,rfl⟩,kn,λb hb=>(hf b hb).1⟩⟩
 done:=by
  intro X hP hw hK hc i pins s σ H E I hf st hg;subst hP hw hK;obtain⟨f0,f1,f2,f3,f4,f5⟩:=hf it (by simp);have hg:x.cps.size<=i:=hg;exact wpAny_pyNext_ascii_end (I.ok.hd hc) st (by simp[hg]) λh' eb=>⟨rfl,I.turned (t':=s.toks) (λb o hb e=>eb b o hb e) f0 f1 f3 f4 f5⟩
 self:=λ_ _ _ _ _ st h=>wpAny_pyIter_striter_ascii st h
noncomputable def mr(s:Str):ab:=s.cps.toList.map λc=>D.str ⟨#[c]⟩
def x8(s:Str):O D:=if s.cps.all (· < 128)=true then ok (.lst .ow (mr s))else none
theorem nu(g:Fl->Fl)(s:Str):az g (mr s)=mr s:=by
 unfold mr;induction s.cps.toList with
 |nil=>rfl
 |cons c l ih=>exact Yn _ ih
theorem FC{n:Nat}(hΦ:Φ n=lh x8){sc:Scope}{bl:af}{k:Nat}(L:PX X sc bl k){e:Expr}(he:As sc bl e=some args)(ht:(decide (1100<=n)||fP tg)=true)(hs:iF X F Φ cs args)
  {pins:aj} {s:Shared} {ρ:aX} {d:D} {items:ab} (I:Inv X pins σ H s) (Si:SI X F R τ ρ σ H) (bt:cB Φ cs ρ=ok xs) (ed:Φ n xs=ok d) (ei:la d=ok items) (Rr:It->Hp->Prop)
  (hR:∀J H2 vs,aG H H2->bX X.K (gP X F) R τ (cR cs) H H2 vs xs->JA X.K J H2 vs xs items->Rr J H2) :
  wpAny (model X.prog X.w) X.A (eval e X.env) (λv s1=>wpAny (model X.prog X.w) X.A (pyIter v) (AL X pins σ tg Rr) X.xe s1) X.xe s:=by
 unfold As at he;obtain⟨hn,he⟩:=gT he;cases he;cases cs with
 |nil=>exact hs.elim
 |cons c cs=>cases cs with
  |cons _ _=>exact hs.2.2.2.elim
  |nil =>
   rw[hΦ]at ed;obtain⟨z,rfl,hz⟩:=oF ed;obtain⟨ha,rfl⟩:=ka hz;cases ei;obtain⟨x,ex,bt⟩:=aq bt;cases bt;refine cI (hs.1 pins s σ H _ I (tD.intro Si ex (Q:=λv H1=>aG H H1/\bC X.K (gP X F) R τ (gc c) H H1 v (.str z)) λv H1 e1 r1=>⟨e1,r1⟩)) λu s1 bG=>?_;obtain⟨v,H1,I1,rv,e1,r1⟩:=bG;obtain rfl:=r1.isStr;obtain⟨t,rfl⟩:=rv;refine wpAny_pyIter_ascii ha ?_;refine⟨s1.heap.objs.size,[s1.heap.objs.size],_,UZ z,H1,rfl,I1.kept (t':=s1.toks) (λb o e=>X8 _ e),xH s1.heap.objs.size z t,⟨_,Yd _ rfl,rfl,rfl⟩,λb hb=>?_,hR _ H1 [.str z] e1 (bX.cons e1 (aG.refl _) (r1.mono λj hj=>Yu _ hj) ⟨λ_=>none,λ_ _ h=>by simp at h,.nil⟩) ?_⟩
   ·have:b=s1.heap.objs.size:=by simpa using hb
    subst this;exact I1.zS (Yb _) (I1.cJ.fresh (Yb _))
   ·rw[nu];have hl:(mr z).length=z.cps.size:=by unfold mr;simp
    refine⟨λi H' R' st rs hi=>by rw[hl]at hi;exact hi,λi H' R' x kh st rs hi hy=>?_,λi H' R' st rs hi=>by rw[hl]at hi;exact hi⟩;obtain⟨rfl,c,hc,rfl⟩:=hy;refine⟨aG.refl _,.str ⟨#[c]⟩,?_,.str _⟩;unfold mr;rw[List.getElem?_map,Array.getElem?_toList,hc];rfl
end DI
end
section
namespace DI
open PySem (Str)
section
variable {α β:Type}
@[simp]theorem dt(a:α)(f:α->O β):bd (ok a) f=f a:=rfl
@[simp]theorem Ox(c:Nat)(f:α->O β):bd (some (.error c)) f=some (.error c):=rfl
noncomputable def EH(f:α->O β)(x:O α):O β:=bd x f
@[simp]theorem Sn(f:α->O β)(a:α):EH f (ok a)=f a:=rfl
@[simp]theorem OB(f:α->O β)(c:Nat):EH f (some (.error c))=some (.error c):=rfl
end
def M4(op:DX)(x y:O D):O D:=bd x λx=>bd y λy=>ck op x y
@[simp]theorem Ow(op:DX)(x y:D):M4 op (ok x) (ok y)=ck op x y:=rfl
def MS(op:xo)(x y:O D):O D:=bd x λx=>bd y λy=>dM op x y
@[simp]theorem Ou(op:xo)(x y:D):MS op (ok x) (ok y)=dM op x y:=rfl
def TH(x y:O D):O D:=bd x λx=>bd y λy=>lD x y
@[simp]theorem Qp(x y:D):TH (ok x) (ok y)=lD x y:=rfl
def K6(x:O D):O D:=bd (bd x fJ) λb=>ok (.bl (!b))
@[simp]theorem NX(b:Bool):K6 (ok (.bl b))=ok (.bl (!b)):=rfl
@[simp]theorem JS(b:Bool):fJ (.bl b)=ok b:=rfl
def p6(x:O D):O Bool:=bd x fJ
@[simp]theorem Nv(b:Bool):p6 (ok (.bl b))=ok b:=rfl
@[simp]theorem JR(c:Nat):p6 (some (.error c))=some (.error c):=rfl
def TJ(t:Ty)(x:O D):O D:=bd x λx=>ok (.bl (b8 t x))
@[simp]theorem Qx(t:Ty)(x:D):TJ t (ok x)=ok (.bl (b8 t x)):=rfl
def Av(m:aw)(xs:O (ab)):O D:=bd xs λxs=>bd (m (az aY xs)) λr=>ok (aI fR r)
def RR(x:O D):O D:=bd x λr=>ok (aI fR r)
@[simp]theorem RQ(r:D):RR (ok r)=ok (aI fR r):=rfl
@[simp]theorem Og(c:Nat):RR (some (.error c))=some (.error c):=rfl
@[simp]theorem MX(m:aw)(xs:ab):Av m (ok xs)=RR (m (az aY xs)):=rfl
@[simp]theorem Jz(m:aw)(c:Nat):Av m (some (.error c))=some (.error c):=rfl
noncomputable def vg(x:O D)(xs:O (ab)):O (ab):=bd x λx=>bd xs λxs=>ok (x::xs)
@[simp]theorem MQ(x:D)(xs:ab):vg (ok x) (ok xs)=ok (x::xs):=rfl
@[simp]theorem Jw(c:Nat)(xs:O (ab)):vg (some (.error c)) xs=some (.error c):=rfl
@[simp]theorem Iu(x:D)(c:Nat):vg (ok x) (some (.error c))=some (.error c):=rfl
noncomputable def G3(x:O Bool)(a b:O D):O D:=bd x λk=>if k then a else b
@[simp]theorem Qu(a b:O D):G3 (ok true) a b=a:=rfl
@[simp]theorem Qv(a b:O D):G3 (ok false) a b=b:=rfl
def DL(x y:O D):O D:=bd (bd x fJ) λc=>if c then y else ok (.bl false)
@[simp]theorem So(y:O D):DL (ok (.bl true)) y=y:=rfl
@[simp]theorem Sq(y:O D):DL (ok (.bl false)) y=ok (.bl false):=rfl
@[simp]theorem Sr(a b:Bool):DL (ok (.bl a)) (ok (.bl b))=ok (.bl (a&&b)):=by cases a<;>rfl
def NS(x y:O D):O D:=bd (bd x fJ) λc=>if c then ok (.bl true)else y
@[simp]theorem S9(y:O D):NS (ok (.bl true)) y=ok (.bl true):=rfl
@[simp]theorem S_(y:O D):NS (ok (.bl false)) y=y:=rfl
@[simp]theorem Ta(a b:Bool):NS (ok (.bl a)) (ok (.bl b))=ok (.bl (a||b)):=by cases a<;>rfl
def y7(x:O D):O D:=bd (bd x fJ) λc=>ok (.bl c)
@[simp]theorem Ls(c:Bool):y7 (ok (.bl c))=ok (.bl c):=rfl
@[simp]theorem Kg(d:D):qg (some (some d))=ok (aI a_ d):=rfl
section
variable (Φ:aQ)(ρ:aX)
@[simp]theorem UE:bj Φ .bw ρ=ok .bw:=rfl
@[simp]theorem W_(b:Bool):bj Φ (.bl b) ρ=ok (.bl b):=rfl
@[simp]theorem Ez(i:Int):bj Φ (.int i) ρ=ok (.int i):=rfl
@[simp]theorem Uz(i:Str):bj Φ (.str i) ρ=ok (.str i):=rfl
@[simp]theorem UM(x:Str)(i:Int):bj Φ (.glo x i) ρ=ok (.int i):=rfl
@[simp]theorem UL(x s:Str):bj Φ (.gls x s) ρ=ok (.str s):=rfl
@[simp]theorem X2(i:Nat):bj Φ (.v i) ρ=qg ρ[i]?:=rfl
@[simp]theorem UO(op:DX)(a b:CE):bj Φ (.bin op a b) ρ=M4 op (bj Φ a ρ) (bj Φ b ρ):=rfl
@[simp]theorem UN(op:xo)(a b:CE):bj Φ (.cmp op a b) ρ=MS op (bj Φ a ρ) (bj Φ b ρ):=rfl
@[simp]theorem UH(a:CE):bj Φ (.neg a) ρ=EH Cc (bj Φ a ρ):=rfl
@[simp]theorem UD(a:CE):bj Φ (.not a) ρ=K6 (bj Φ a ρ):=rfl
@[simp]theorem UK(a:CE)(t:Ty):bj Φ (.g5 a t) ρ=TJ t (bj Φ a ρ):=rfl
@[simp]theorem UJ(c a b:CE):bj Φ (.ite c a b) ρ=G3 (p6 (bj Φ c ρ)) (bj Φ a ρ) (bj Φ b ρ):=rfl
@[simp]theorem R_(f:Nat)(es:aC):bj Φ (.call f es) ρ=Av (Φ f) (cB Φ es ρ):=rfl
@[simp]theorem Xa(f:Bf)(es:aC):bj Φ (.bf f es) ρ=EH (pB f) (cB Φ es ρ):=rfl
@[simp]theorem UA(f:Nat)(es:aC):bj Φ (.bq f es) ρ=EH (Φ f) (cB Φ es ρ):=rfl
@[simp]theorem W9(a b:CE):bj Φ (.ix a b) ρ=TH (bj Φ a ρ) (bj Φ b ρ):=rfl
@[simp]theorem R8(a:CE):bj Φ (.iw a) ρ=EH uy (bj Φ a ρ):=rfl
@[simp]theorem Uy(es:aC):bj Φ (.tup es) ρ=EH (λxs=>ok (.tup xs)) (cB Φ es ρ):=rfl
@[simp]theorem UI(es:aC):bj Φ (.lst es) ρ=EH (λxs=>ok (.lst .ow xs)) (cB Φ es ρ):=rfl
@[simp]theorem UP(es:aC):bj Φ (.and es) ρ=nM Φ es ρ:=rfl
@[simp]theorem W8(es:aC):bj Φ (.or es) ρ=wK Φ es ρ:=rfl
@[simp]theorem Sb(e:CE):nM Φ [e] ρ=y7 (bj Φ e ρ):=rfl
@[simp]theorem Sa(e e':CE)(es:aC):nM Φ (e::e'::es) ρ=DL (bj Φ e ρ) (nM Φ (e'::es) ρ):=rfl
@[simp]theorem UC(e:CE):wK Φ [e] ρ=y7 (bj Φ e ρ):=rfl
@[simp]theorem UB(e e':CE)(es:aC):wK Φ (e::e'::es) ρ=NS (bj Φ e ρ) (wK Φ (e'::es) ρ):=rfl
@[simp]theorem UG:cB Φ [] ρ=ok []:=rfl
@[simp]theorem R9(e:CE)(es:aC):cB Φ (e::es) ρ=vg (bj Φ e ρ) (cB Φ es ρ):=rfl
@[simp]theorem X3(e:CE):r6 Φ e ρ=p6 (bj Φ e ρ):=rfl
theorem Sf(e:CE):bd (bj Φ e ρ) fJ=p6 (bj Φ e ρ):=rfl
@[simp]theorem Se:fD Φ [] ρ=ok true:=rfl
@[simp]theorem Sd(e:CE):fD Φ [e] ρ=p6 (bj Φ e ρ):=by
 rw[fD,Sf];cases h:p6 (bj Φ e ρ)with
 |none=>rfl
 |some r=>cases r with
  |error c=>rfl
  |ok b=>cases b<;>simp[fD,bd,ok]
end
def mG(is:aJ):Nat->aX->aX
 |_,[]=>[]
 |n,d::ρ=>(if n∈is then d.map (aI aY)else d)::mG is (n+1) ρ
theorem Eu(is:aJ):∀(ρ:aX) (n:Nat),ρ.mapIdx (λi d=>if i+n∈is then d.map (aI aY)else d)=mG is n ρ
 |[],_=>rfl
 |d::ρ,n=>by
  rw[List.mapIdx_cons,mG,<- Eu is ρ (n+1)];simp only[Nat.zero_add,Nat.add_assoc,Nat.add_comm 1 n]
theorem tq(is:aJ)(ρ:aX):ic is ρ=mG is 0 ρ:=by rw[<- Eu];rfl
@[simp]theorem ME(is:aJ)(n:Nat):mG is n []=[]:=rfl
@[simp]theorem Jt(is:aJ)(n:Nat)(d:aH)(ρ:aX):mG is n (d::ρ)=(if n∈is then d.map (aI aY)else d)::mG is (n+1) ρ:=rfl
def cu(e:CE)(ρ:aX)(x:O D):O (D×aX):=bd x λd=>ok (keep e d ρ)
variable {ρ ρ1:aX}
@[simp]theorem qP{e:CE}{d:D}(h:bc bA d=false):cu e ρ (ok d)=ok (d,ρ):=by
 show ok (keep e d ρ)=_;rw[keep,h];rfl
@[simp]theorem Lw{e:CE}{d:D}(h:bc bA d=true):cu e ρ (ok d)=ok (aI aY d,mG (gc e) 0 ρ):=by
 show ok (keep e d ρ)=_;rw[keep,h,<- tq];rfl
@[simp]theorem Jd(e:CE)(ρ:aX)(c:Nat):cu e ρ (some (.error c))=some (.error c):=rfl
def yV(i:Nat)(ρ:aX)(o:Option (aH)):O (D×aX):=match o with
 |some (some d)=>if bc cp d then ok (d,ρ.set i none)else ok (d,ρ)
 |_=>none
@[simp]theorem Ld{i:Nat}{d:D}(h:bc cp d=true):yV i ρ (some (some d))=ok (d,ρ.set i none):=Yv h
@[simp]theorem Le{i:Nat}{d:D}(h:bc cp d=false):yV i ρ (some (some d))=ok (d,ρ):=Zh (by rw[h];exact X7)
@[simp]theorem XR(Φ:aQ)(i:Nat)(ρ:aX):g9 Φ (.v i) ρ=yV i ρ ρ[i]?:=rfl
noncomputable def V0:CE->Bool
 |.v _=>true
 |_=>false
@[simp]theorem Tz(Φ:aQ)(ρ:aX)(op:DX)(a b:CE):g9 Φ (.bin op a b) ρ=cu (.bin op a b) ρ (bj Φ (.bin op a b) ρ):=rfl
@[simp]theorem Tx(Φ:aQ)(ρ:aX)(op:xo)(a b:CE):g9 Φ (.cmp op a b) ρ=cu (.cmp op a b) ρ (bj Φ (.cmp op a b) ρ):=rfl
@[simp]theorem Qo(Φ:aQ)(ρ:aX)(f:Nat)(es:aC):g9 Φ (.call f es) ρ=cu (.call f es) ρ (bj Φ (.call f es) ρ):=rfl
@[simp]theorem VY(Φ:aQ)(ρ:aX)(f:Bf)(es:aC):g9 Φ (.bf f es) ρ=cu (.bf f es) ρ (bj Φ (.bf f es) ρ):=rfl
@[simp]theorem Tp(Φ:aQ)(ρ:aX)(f:Nat)(es:aC):g9 Φ (.bq f es) ρ=cu (.bq f es) ρ (bj Φ (.bq f es) ρ):=rfl
@[simp]theorem VV(Φ:aQ)(ρ:aX)(a b:CE):g9 Φ (.ix a b) ρ=cu (.ix a b) ρ (bj Φ (.ix a b) ρ):=rfl
@[simp]theorem Tj(Φ:aQ)(ρ:aX)(es:aC):g9 Φ (.tup es) ρ=cu (.tup es) ρ (bj Φ (.tup es) ρ):=rfl
@[simp]theorem Tt(Φ:aQ)(ρ:aX)(es:aC):g9 Φ (.lst es) ρ=cu (.lst es) ρ (bj Φ (.lst es) ρ):=rfl
@[simp]theorem Ei(Φ:aQ)(ρ:aX)(i:Int):g9 Φ (.int i) ρ=cu (.int i) ρ (bj Φ (.int i) ρ):=rfl
@[simp]theorem VX(Φ:aQ)(ρ:aX)(i:Bool):g9 Φ (.bl i) ρ=cu (.bl i) ρ (bj Φ (.bl i) ρ):=rfl
@[simp]theorem Tr(Φ:aQ)(ρ:aX): g9 Φ (.bw) ρ=cu (.bw) ρ (bj Φ (.bw) ρ):=rfl
@[simp]theorem Ts(Φ:aQ)(ρ:aX)(a:CE):g9 Φ (.neg a) ρ=cu (.neg a) ρ (bj Φ (.neg a) ρ):=rfl
@[simp]theorem Tq(Φ:aQ)(ρ:aX)(a:CE):g9 Φ (.not a) ρ=cu (.not a) ρ (bj Φ (.not a) ρ):=rfl
@[simp]theorem TB(Φ:aQ)(ρ:aX)(es:aC):g9 Φ (.and es) ρ=cu (.and es) ρ (bj Φ (.and es) ρ):=rfl
@[simp]theorem VU(Φ:aQ)(ρ:aX)(es:aC):g9 Φ (.or es) ρ=cu (.or es) ρ (bj Φ (.or es) ρ):=rfl
@[simp]theorem Tu(Φ:aQ)(ρ:aX)(a b c:CE):g9 Φ (.ite a b c) ρ=cu (.ite a b c) ρ (bj Φ (.ite a b c) ρ):=rfl
@[simp]theorem Qn(Φ:aQ)(ρ:aX)(n:Nat)(t:Tg)(caps:aJ)(ik:IK)(es bz:aC)(elt:CE):g9 Φ (.comp n t caps ik es bz elt) ρ=cu (.comp n t caps ik es bz elt) ρ (bj Φ (.comp n t caps ik es bz elt) ρ):=rfl
@[simp]theorem To(Φ:aQ)(ρ:aX)(s:Str):g9 Φ (.str s) ρ=cu (.str s) ρ (bj Φ (.str s) ρ):=rfl
@[simp]theorem Tv(Φ:aQ)(ρ:aX)(a:CE)(t:Ty):g9 Φ (.g5 a t) ρ=cu (.g5 a t) ρ (bj Φ (.g5 a t) ρ):=rfl
@[simp]theorem Qm(Φ:aQ)(ρ:aX)(a:CE):g9 Φ (.iw a) ρ=cu (.iw a) ρ (bj Φ (.iw a) ρ):=rfl
theorem Lx(Φ:aQ)(e:CE)(ρ:aX)(h:V0 e=false):g9 Φ e ρ=cu e ρ (bj Φ e ρ):=by cases e<;>first|rfl|cases h
@[simp]theorem IW(ρ:aX):fq [] [] ρ=ok ρ:=rfl
variable {ds xs:ab}{is:aJ}
@[simp]theorem FD{i:Nat}{d:D}(h:i<ρ.length):fq (i::is) (d::ds) ρ=fq is ds (ρ.set i (some d)):=Yv h
@[simp]theorem NF{i:Nat}{d:D}(h:i<ρ.length):cg (.nm i) d ρ=ok (ρ.set i (some d)):=Yv h
@[simp]theorem ND(h:aR cp ds=false):cg (.tp is) (.tup ds) ρ=fq is ds ρ:=Zh (by rw[h];exact X7)
def IC(i:Nat)(r:O (D×aX)):O (Fo×aX):=bd r λr=>bd (cg (.nm i) r.1 r.2) λρ'=>ok (.nx,ρ')
@[simp]theorem vy{i:Nat}{d:D}(h:i<ρ.length):IC i (ok (d,ρ))=ok (.nx,ρ.set i (some d)):=by
 show bd (cg (.nm i) d ρ) _=_;rw[cg,if_pos h];rfl
@[simp]theorem M8(i:Nat)(c:Nat):IC i (some (.error c))=some (.error c):=rfl
def M7(is:aJ)(r:O (D×aX)):O (Fo×aX):=bd r λr=>bd (cg (.tp is) r.1 r.2) λρ'=>ok (.nx,ρ')
@[simp]theorem Oz(h:aR cp ds=false):M7 is (ok (.tup ds,ρ))=bd (fq is ds ρ) λρ'=>ok (.nx,ρ'):=by
 show bd (cg (.tp is) (.tup ds) ρ) _=_;rw[cg,h];rfl
noncomputable def retS(r:O (D×aX)):O (Fo×aX):=bd r λr=>ok (.rt r.1,r.2)
@[simp]theorem NG(d:D)(ρ:aX):retS (ok (d,ρ))=ok (.rt d,ρ):=rfl
@[simp]theorem Kt(c:Nat):retS (some (.error c))=some (.error c):=rfl
noncomputable def RZ(ρ:aX)(x:O D):O (Fo×aX):=bd x λ_=>ok (.nx,ρ)
@[simp]theorem RY(ρ:aX)(d:D):RZ ρ (ok d)=ok (.nx,ρ):=rfl
@[simp]theorem Ol(ρ:aX)(c:Nat):RZ ρ (some (.error c))=some (.error c):=rfl
noncomputable def uc(Φ:aQ)(ss:ag)(r:O (Fo×aX)):O (Fo×aX):=bd r λr=>match r with
 | (.nx,ρ')=>cj Φ ss ρ'
 |r=>ok r
@[simp]theorem p8(Φ:aQ)(ss:ag)(ρ:aX):uc Φ ss (ok (.nx,ρ))=cj Φ ss ρ:=rfl
@[simp]theorem JT(Φ:aQ)(ss:ag)(d:D)(ρ:aX):uc Φ ss (ok (.rt d,ρ))=ok (.rt d,ρ):=rfl
@[simp]theorem IT(Φ:aQ)(ss:ag)(c:Nat):uc Φ ss (some (.error c))=some (.error c):=rfl
noncomputable def Cw(Φ:aQ)(a b:ag)(ρ:aX)(x:O Bool):O (Fo×aX):=bd x λk=>if k then cj Φ a ρ else cj Φ b ρ
@[simp]theorem Qs(Φ:aQ)(a b:ag)(ρ:aX):Cw Φ a b ρ (ok true)=cj Φ a ρ:=rfl
@[simp]theorem Qt(Φ:aQ)(a b:ag)(ρ:aX):Cw Φ a b ρ (ok false)=cj Φ b ρ:=rfl
@[simp]theorem Ly(Φ:aQ)(a b:ag)(ρ:aX)(c:Nat):Cw Φ a b ρ (some (.error c))=some (.error c):=rfl
def M9(i:Nat)(r:O (D×aX)):O (Fo×aX):=bd r λr=>match yy r.2[i]? with
  |some ds=>if ds.length<fe then ok (.nx,r.2.set i (some (.lst .ow (ds++[r.1]))))else none
  |none=>none
@[simp]theorem OA{i:Nat}{d:D}(h:ρ[i]?=some (some (.lst .ow ds)))(hl:ds.length<fe):M9 i (ok (d,ρ))=ok (.nx,ρ.set i (some (.lst .ow (ds++[d])))):=by
 show(match yy ρ[i]? with|some ds=>_|none=>_)=_;rw[h];exact Yv hl
section
variable (Φ:aQ)(ρ:aX)
@[simp]theorem SK:cj Φ [] ρ=ok (.nx,ρ):=rfl
@[simp]theorem n8(s:CS)(ss:ag):cj Φ (s::ss) ρ=uc Φ ss (rl Φ s ρ):=rfl
@[simp]theorem DY(i:Nat)(e:CE):rl Φ (.asg (.nm i) e) ρ=IC i (g9 Φ e ρ):=rfl
@[simp]theorem OI(is:aJ)(e:CE):rl Φ (.asg (.tp is) e) ρ=M7 is (g9 Φ e ρ):=rfl
@[simp]theorem SJ(e:CE):rl Φ (.ret e) ρ=retS (g9 Φ e ρ):=rfl
theorem mO(c:CE)(b:ag):rl Φ (.EV c b) ρ=d9 (λρ=>bd (r6 Φ c ρ) λk=>if k then bd (cj Φ b ρ) λr=>match r with
   | (.nx,ρ')=>ok (.inl ρ')
   | (.rt d,ρ')=>ok (.inr (.rt d,ρ'))
  else ok (.inr (.nx,ρ))) ρ:=rfl
theorem JI(i j:Nat)(a b:CE):rl Φ (.par i j a b) ρ=bd (bj Φ a ρ) λx=>bd (bj Φ b ρ) λy=>if bc anyF x=false/\bc anyF y=false/\i<ρ.length/\j<ρ.length then ok (.nx,(ρ.set i (some x)).set j (some y))else none:=rfl
@[simp]theorem U8(c:Nat):rl Φ (.rs c) ρ=some (.error c):=rfl
@[simp]theorem U9(e:CE):rl Φ (.ex e) ρ=RZ ρ (bj Φ e ρ):=rfl
@[simp]theorem JJ(c:CE)(a b:ag):rl Φ (.ifs c a b) ρ=Cw Φ a b ρ (p6 (bj Φ c ρ)):=rfl
@[simp]theorem SM(i:Nat)(e:CE):rl Φ (.app i e) ρ=M9 i (g9 Φ e ρ):=rfl
end
noncomputable def mk(Φ:aQ)(ar n:Nat)(b:ag):aw:=λds=>if ds.length=ar then ou Φ n b ds else none
noncomputable def o4(r:O (Fo×aX)):O D:=bd r λr=>match r.1 with
 |.nx=>ok .bw
 |.rt d=>ok d
@[simp]theorem Oq(ρ:aX):o4 (ok (.nx,ρ))=ok .bw:=rfl
@[simp]theorem Oo(d:D)(ρ:aX):o4 (ok (.rt d,ρ))=ok d:=rfl
@[simp]theorem MM(c:Nat):o4 (some (.error c))=some (.error c):=rfl
variable {B ar:Nat}{Φ:aQ}
theorem mk_eq{n:Nat}{b:ag}(h:ds.length=ar):mk Φ ar n b ds=o4 (cj Φ b (ds.map some++List.replicate (n - ds.length) none)):=Yv h
theorem sN{n:Nat}{b:ag}(ds:ab)(r:D)(h:mk Φ ar n b ds=ok r):ds.length=ar/\ou Φ n b ds=ok r:=by
 unfold mk at h;split at h
 ·rename_i hl;exact⟨hl,h⟩
 ·cases h
theorem Int.beq_eq_decide_eq(i j:Int):(i==j)=decide (i=j):=rfl
section
variable (g:Fl->Fl)(p:Fl->Bool)
@[simp]theorem Cj(b:Bool):aI g (.bl b)=.bl b:=rfl
@[simp]theorem yX(b:Int):aI g (.int b)=.int b:=rfl
@[simp]theorem Lh:aI g .bw=.bw:=rfl
@[simp]theorem Lg(s:Str):aI g (.str s)=.str s:=rfl
@[simp]theorem yW(ds:ab):aI g (.tup ds)=.tup (az g ds):=rfl
@[simp]theorem Li(f:Fl)(ds:ab):aI g (.lst f ds)=.lst (g f) (az g ds):=rfl
@[simp]theorem Lj(f:Fl)(ks:av)(vs:ab):aI g (.cx f ks vs)=.cx (g f) ks (az g vs):=rfl
@[simp]theorem Ja:az g []=[]:=rfl
@[simp]theorem Gz(d:D)(ds:ab):az g (d::ds)=aI g d::az g ds:=rfl
@[simp]theorem Jc(a b:ab):az g (a++b)=az g a++az g b:=by simp only[bo,List.map_append]
@[simp]theorem Jb(ds:ab):(az g ds).length=ds.length:=by rw[bo,List.length_map]
theorem di{α:Type}{e:α->D}(h:∀x,aI g (e x)=e x)(xs:List α):az g (xs.map e)=xs.map e:=by
 rw[bo,List.map_map];exact Yw λx _=>h x
theorem cW{α:Type}{e:α->D}(h:∀x,bc p (e x)=false):∀xs:List α,aR p (xs.map e)=false
 |[]=>by rw[List.map_nil,aR]
 |x::xs=>by rw[List.map_cons,aR,h x,cW h xs];rfl
@[simp]theorem CL(b:Bool):bc p (.bl b)=false:=Zx rfl
@[simp]theorem lJ(b:Int):bc p (.int b)=false:=Zx rfl
@[simp]theorem L9:bc p .bw=false:=Zx rfl
@[simp]theorem L8(s:Str):bc p (.str s)=false:=Zx rfl
@[simp]theorem zF(ds:ab):bc p (.tup ds)=aR p ds:=Zx rfl
@[simp]theorem zG(f:Fl)(ds:ab):bc p (.lst f ds)=(p f||aR p ds):=Zx rfl
@[simp]theorem L_(f:Fl)(ks:av)(vs:ab):bc p (.cx f ks vs)=(p f||aR p vs):=Zx rfl
@[simp]theorem Jp:aR p []=false:=Zx rfl
@[simp]theorem Hq(d:D)(ds:ab):aR p (d::ds)=(bc p d||aR p ds):=Zx rfl
@[simp]theorem wB:∀a b:ab,aR p (a++b)=(aR p a||aR p b)
 |[],b=>by simp
 |d::a,b=>by simp[wB a b,Bool.or_assoc]
@[simp]theorem lr(ns:aa):az g (ns.map D.int)=ns.map D.int:=di g (yX g) ns
@[simp]theorem tj(ns:aa):aR p (ns.map D.int)=false:=cW p (lJ p) ns
@[simp]theorem v7(ns:List Bool):az g (ns.map D.bl)=ns.map D.bl:=di g (Cj g) ns
@[simp]theorem wA(ns:List Bool):aR p (ns.map D.bl)=false:=cW p (CL p) ns
@[simp]theorem Je(t:Ty)(d:D):b8 t (aI g d)=b8 t d:=by cases d<;>cases t<;>rfl
end
@[simp]theorem HK:a_ .ow=.al:=rfl
@[simp]theorem HL:a_ .fz=.fz:=rfl
@[simp]theorem HM:a_ .al=.al:=rfl
@[simp]theorem HJ:a_ .sc=.sc:=rfl
@[simp]theorem HG:aY .ow=.fz:=rfl
@[simp]theorem HH:aY .fz=.fz:=rfl
@[simp]theorem HI:aY .al=.fz:=rfl
@[simp]theorem HF:aY .sc=.sc:=rfl
@[simp]theorem H_:fR .ow=.ow:=rfl
@[simp]theorem Ia:fR .fz=.al:=rfl
@[simp]theorem Ib:fR .al=.al:=rfl
@[simp]theorem H9:fR .sc=.sc:=rfl
@[simp]theorem HX:bA .ow=false:=rfl
@[simp]theorem HY:bA .fz=false:=rfl
@[simp]theorem HZ:bA .al=true:=rfl
@[simp]theorem HW:bA .sc=false:=rfl
@[simp]theorem HS:cp .ow=true:=rfl
@[simp]theorem HU:cp .fz=false:=rfl
@[simp]theorem HV:cp .al=false:=rfl
@[simp]theorem HR:cp .sc=false:=rfl
@[simp]theorem HN:mB .ow=false:=rfl
@[simp]theorem HP:mB .fz=false:=rfl
@[simp]theorem HQ:mB .al=false:=rfl
noncomputable def au(ns:aa):ab:=ns.map D.int
noncomputable def jd(ns:List Bool):ab:=ns.map D.bl
@[simp]theorem Jg(ns:aa):(au ns).length=ns.length:=Zb ..
@[simp]theorem M3(ns:List Bool):(jd ns).length=ns.length:=Zb ..
@[simp]theorem wj:au []=[]:=rfl
@[simp]theorem Hb(n:Int)(ns:aa):au (n::ns)=.int n::au ns:=rfl
@[simp]theorem Ha(ns:aa)(n:Int):au ns++[.int n]=au (ns++[n]):=by simp[au]
@[simp]theorem wk(ns:aa)(i:Nat):(au ns)[i]?=ns[i]?.map D.int:=List.getElem?_map ..
@[simp]theorem dG(g:Fl->Fl)(ns:aa):az g (au ns)=au ns:=lr g ns
@[simp]theorem Er(p:Fl->Bool)(ns:aa):aR p (au ns)=false:=tj p ns
@[simp]theorem GA(g:Fl->Fl)(ns:List Bool):az g (jd ns)=jd ns:=v7 g ns
@[simp]theorem Hr(p:Fl->Bool)(ns:List Bool):aR p (jd ns)=false:=wA p ns
@[simp]theorem UU(i j:Int):ck .add (.int i) (.int j)=ok (.int (i+j)):=rfl
@[simp]theorem UT(i j:Int):ck .sub (.int i) (.int j)=ok (.int (i - j)):=rfl
theorem nZ{i j:Int}(h:gb i j=true):ck .mul (.int i) (.int j)=ok (.int (i*j)):=Yv h
theorem iE{i j:Int}(h:nN j=true):ck .fdiv (.int i) (.int j)=ok (.int (i.fdiv j)):=Yv h
@[simp]theorem AA{i j:Int}(h:j≠0):ck .mod (.int i) (.int j)=ok (.int (i.fmod j)):=Yv h
theorem M5{i j:Int}(h:iZ i j=true):ck .shl (.int i) (.int j)=ok (.int (i*2 ^ j.toNat)):=Yv h
theorem vp{i j:Int}(h:iZ i j=true):ck .pow (.int i) (.int j)=ok (.int (i ^ j.toNat)):=Yv h
@[simp]theorem Ti(i:Int):Cc (.int i)=ok (.int (-i)):=rfl
theorem mulOk_of{i j:Int}(h:i.natAbs<2 ^ 9000)(h':j.natAbs<2 ^ 9000):gb i j=true:=by
 simp only[gb,big,h,h',decide_true,Bool.and_self,Bool.or_true]
theorem jF{n:Nat}(h:n<2 ^ 64):n<2 ^ 9000:=Yc h (Yq (by decide) (by decide))
theorem oM{i:Int}(j:Int)(h:i.natAbs<2 ^ 64):gb i j=true:=by simp only[gb,h,decide_true,Bool.true_or]
theorem Ce{j:Int}(i:Int)(h:j.natAbs<2 ^ 64):gb i j=true:=by simp only[gb,h,decide_true,Bool.true_or,Bool.or_true]
theorem eD{j:Int}(h0:j≠0)(h:j.natAbs<2 ^ 9000):nN j=true:=by
 simp only[nN,big,h,decide_true,Bool.and_true,decide_eq_true_eq];exact h0
@[simp]theorem DD{i j:Int}(h:j.natAbs<2 ^ 64):ck .mul (.int i) (.int j)=ok (.int (i*j)):=nZ (Ce i h)
@[simp]theorem Oy{i j:Int}(h:i.natAbs<2 ^ 64):ck .mul (.int i) (.int j)=ok (.int (i*j)):=nZ (oM j h)
@[simp]theorem M6{i j:Int}(h0:j≠0)(h:j.natAbs<2 ^ 64):ck .fdiv (.int i) (.int j)=ok (.int (i.fdiv j)):=iE (eD h0 (jF h))
theorem M0{a b:D}(ha:eh 40 a=true)(hb:eh 40 b=true):dM .eq a b=ok (.bl (jX a b)):=by
 show(if eh 40 a&&eh 40 b then _ else _)=_;rw[ha,hb];rfl
theorem Dv{a b:D}(ha:eh 40 a=true)(hb:eh 40 b=true):dM .ne a b=ok (.bl (!jX a b)):=by
 show(if eh 40 a&&eh 40 b then _ else _)=_;rw[ha,hb];rfl
@[simp]theorem dX(n:Nat)(i:Int):eh n (.int i)=true:=by cases n<;>rfl
@[simp]theorem Qb(n:Nat)(i:Bool):eh n (.bl i)=true:=by cases n<;>rfl
@[simp]theorem NV(n:Nat):eh n .bw=true:=by cases n<;>rfl
@[simp]theorem NU(n:Nat)(i:Str):eh n (.str i)=true:=by cases n<;>rfl
@[simp]theorem oG(n:Nat)(ds:ab):eh (n+1) (.tup ds)=ds.all (eh n):=rfl
@[simp]theorem B5(n:Nat)(f:Fl)(ds:ab):eh (n+1) (.lst f ds)=ds.all (eh n):=rfl
@[simp]theorem PZ(i j:Int):dM .eq (.int i) (.int j)=ok (.bl (decide (i=j))):=by rw[M0 (dX _ _) (dX _ _)];show ok (D.bl (i==j))=_;rw[Int.beq_eq_decide_eq]
@[simp]theorem PY(i j:Int):dM .ne (.int i) (.int j)=ok (.bl (!decide (i=j))):=by rw[Dv (dX _ _) (dX _ _)];show ok (D.bl (!(i==j)))=_;rw[Int.beq_eq_decide_eq]
@[simp]theorem VD(i j:Int):dM .lt (.int i) (.int j)=ok (.bl (decide (i<j))):=rfl
@[simp]theorem VE(i j:Int):dM .le (.int i) (.int j)=ok (.bl (decide (i<=j))):=rfl
@[simp]theorem VF(i j:Int):dM .gt (.int i) (.int j)=ok (.bl (decide (j<i))):=rfl
@[simp]theorem VG(i j:Int):dM .ge (.int i) (.int j)=ok (.bl (decide (j<=i))):=rfl
@[simp]theorem TM(ds:ab)(i:Int):lD (.tup ds) (.int i)=w6 ds i:=rfl
@[simp]theorem TN(f:Fl)(ds:ab)(i:Int):lD (.lst f ds) (.int i)=w6 ds i:=rfl
theorem pF{n:Nat}{d:D}(h:ds[n]?=some d):w6 ds (n:Int)=ok (aI a_ d):=by
 have hn:n<ds.length:=(List.getElem?_eq_some_iff.mp h).1;have e:sU ds.length (n:Int)=some n:=by unfold sU;rw[if_pos (by left),if_pos (by left)];rfl
 unfold w6;rw[e,Option.bind_some,h]
theorem at_of{i:Int}{d:D}(h0:0<=i)(h:ds[i.toNat]?=some d):w6 ds i=ok (aI a_ d):=by
 have:=pF h
 rwa [show((i.toNat:Nat):Int)=i by left]at this
@[simp]theorem Xl(d:D)(ds:ab):w6 (d::ds) 0=ok (aI a_ d):=pF (n:=0) rfl
@[simp]theorem Xk(a d:D)(ds:ab):w6 (a::d::ds) 1=ok (aI a_ d):=pF (n:=1) rfl
@[simp]theorem Xj(a b d:D)(ds:ab):w6 (a::b::d::ds) 2=ok (aI a_ d):=pF (n:=2) rfl
@[simp]theorem Oi(ds:ab):pB .len [.tup ds]=ok (.int ds.length):=rfl
@[simp]theorem Oj(f:Fl)(ds:ab):pB .len [.lst f ds]=ok (.int ds.length):=rfl
@[simp]theorem Uv(i:Int):pB .abs [.int i]=ok (.int i.natAbs):=by
 show ok (D.int (if i<0 then -i else i))=_;congr 2;split<;>left
@[simp]theorem MJ(f:Fl)(ds:ab):pB .list1 [.lst f ds]=ok (.lst .ow (az a_ ds)):=rfl
@[simp]theorem MI(ds:ab):pB .list1 [.tup ds]=ok (.lst .ow (az a_ ds)):=rfl
@[simp]theorem Oh(f:Fl)(ds:ab):pB .tuple1 [.lst f ds]=ok (.tup (az a_ ds)):=rfl
@[simp]theorem Ut(f:Fl)(ns:aa):pB .p_ [.lst f (au ns)]=ok (.int ns.sum):=by
 show(match intsOf (ns.map D.int)with|some ns=>_|none=>_)=_;rw[bL]
@[simp]theorem Uu(f:Fl)(bs:List Bool):pB .all1 [.lst f (jd bs)]=ok (.bl (bs.all id)):=by
 show(match gf (bs.map D.bl)with|some ns=>_|none=>_)=_;rw[gW]
variable {ns ws:aa}
@[simp]theorem CT(h:ns.length<64):pB .fM [.tup (au ns)]=ok (.lst .ow (au (sortI ns))):=by
 show qe _=_;unfold qe au;rw[bL];exact Yv h
@[simp]theorem Ic(h:ns.length<4000):uy (.tup (au ns))=ok (.int (o6 ns).length):=by
 show(match intsOf (ns.map D.int)with|some ns=>_|none=>_)=_;rw[bL];exact Yv h
@[simp]theorem kI(i j:Int):jX (.int i) (.int j)=decide (i=j):=by show(i==j)=_;rw[Int.beq_eq_decide_eq]
@[simp]theorem R6(i j:Bool):jX (.bl i) (.bl j)=(i==j):=rfl
@[simp]theorem uY(a b:ab):jX (.tup a) (.tup b)=dJ a b:=rfl
@[simp]theorem kH(f g:Fl)(a b:ab):jX (.lst f a) (.lst g b)=dJ a b:=rfl
@[simp]theorem rm:dJ [] []=true:=rfl
@[simp]theorem dm(a b:D)(as bs:ab):dJ (a::as) (b::bs)=(jX a b&&dJ as bs):=rfl
theorem lR:∀{as bs:ab},dJ as bs=true->as.length=bs.length
 |[],[],_=>rfl
 |[],_::_,h=>(X7 h).elim
 |_::_,[],h=>(X7 h).elim
 |a::as,b::bs,h=>by
  replace h:(_&&_)=true:=h;rw[Bool.and_eq_true]at h;rw[List.length_cons,List.length_cons,lR h.2]
theorem gE{α:Type}{e:α->D}[DecidableEq α](h:∀x y,jX (e x) (e y)=decide (x=y)):∀xs ys:List α,dJ (xs.map e) (ys.map e)=decide (xs=ys)
 |[],[]=>by simp
 |[],y::ys=>by
  cases z:dJ ([].map e) ((y::ys).map e)with
  |true=>have:=lR z;simp at this
  |false=>simp
 |x::xs,[]=>by
  cases z:dJ ((x::xs).map e) ([].map e)with
  |true=>have:=lR z;simp at this
  |false=>simp
 |x::xs,y::ys=>by
  rw[List.map_cons,List.map_cons,dm,h,gE h xs ys];by_cases e1:x=y<;>by_cases e2:xs=ys<;>simp[e1,e2]
theorem kA{α:Type}{e:α->D}{n:Nat}(h:∀x,eh n (e x)=true)(xs:List α):(xs.map e).all (eh n)=true:=by
 rw[List.all_map];exact List.all_eq_true.mpr λx _=>h x
theorem bM{bind:D->O aX}{test:aX->O Bool}{el:aX->O D}{α:Type}{e:α->D}{g:α->D}:∀{xs:List α},(∀x∈xs,∃ρ,bind (e x)=ok ρ/\test ρ=ok true/\el ρ=ok (g x))->eE bind test el (xs.map e)=ok (xs.map g)
 |[],_=>rfl
 |x::xs,h=>by
  obtain⟨ρ,h1,h2,h3⟩:=h x (X9 ..);have ih:=bM (xs:=xs) λy hy=>h y (X_ _ hy);rw[List.map_cons,eE,h1,dt,h2,dt,if_pos rfl,h3,dt,ih];rfl
theorem dK{bind:D->O aX}{test:aX->O Bool}{el:aX->O D}{α:Type}{e:α->D}{g:α->D}{t:α->Bool}:∀{xs:List α},(∀x∈xs,∃ρ,bind (e x)=ok ρ/\test ρ=ok (t x)/\(t x=true->el ρ=ok (g x)))->eE bind test el (xs.map e)=ok ((xs.filter t).map g)
 |[],_=>rfl
 |x::xs,h=>by
  obtain⟨ρ,h1,h2,h3⟩:=h x (X9 ..);have ih:=dK (xs:=xs) λy hy=>h y (X_ _ hy);rw[List.map_cons,eE,h1,dt,h2,dt,List.filter_cons];cases ht:t x with
  |true=>rw[if_pos rfl,h3 ht,dt,ih,if_pos rfl];rfl
  |false=>rw[if_neg Bool.false_ne_true,ih,if_neg Bool.false_ne_true]
section
variable {Φ:aQ}{n:Nat}{t:Tg}{caps:aJ}{ik:IK}{es bz:aC}{elt:CE}{ρ:aX}{xs items ds:ab}
theorem bW(h1:cB Φ es ρ=ok xs)(h2:dj Φ ik xs=ok items)
  (h3:eE (λd=>cg t d (bB n caps ρ)) (λρ'=>fD Φ bz ρ') (λρ'=>bj Φ elt ρ') items=ok ds) (hl:ds.length<=fe):bj Φ (.comp n t caps ik es bz elt) ρ=ok (.lst .ow (az fR ds)):=by
 show bd (cB Φ es ρ) _=_;rw[h1,dt,h2,dt,h3,dt,if_pos hl]
end
theorem kE(Φ:aQ)(ds:ab):dj Φ .seq [.tup ds]=ok (az aY ds):=rfl
theorem cv(Φ:aQ)(f:Fl)(ds:ab):dj Φ .seq [.lst f ds]=ok (az aY ds):=rfl
theorem Cv(Φ:aQ){n:Int}(h0:0<=n)(h:n<=1000000):dj Φ .ko [.int n]=ok ((List.range n.toNat).map λ(k:Nat)=>D.int (k:Int)):=by
 show(if n<=(fe:Int) /\ -(fe:Int)<=n then _ else _)=_;have:(fe:Int)=1000000:=rfl;rw[if_pos (by left)]
theorem bZ{n:Nat}(h:n<=1000000):n<=fe:=h
theorem gm{t:Tg}{it:CI}{b:ag}{items:ab}{r:O (Fo×aX)}(h:c_ Φ it ρ=ok (items,ρ1))(h':eN (λd ρ=>cg t d ρ) (λρ=>cj Φ b ρ) items ρ1=r):rl Φ (.fr t it b) ρ=r:=by
 show bd (c_ Φ it ρ) _=_;rw[h];exact h'
theorem dk{bind:D->aX->O aX}{body:aX->O (Fo×aX)}{x:D}{ρ2:aX}{r:O (Fo×aX)}(h1:bind x ρ=ok ρ1)(h2:body ρ1=ok (.nx,ρ2))(h3:eN bind body xs ρ2=r):eN bind body (x::xs) ρ=r:=by
 rw[eN,h1,dt,h2];exact h3
theorem G6{a:CE}{n:Int}(h:bj Φ a ρ=ok (.int n))(h0:0<=n)(h1:n<=1000000):c_ Φ (.ko a) ρ=ok ((List.range n.toNat).map λ(k:Nat)=>D.int (k:Int),ρ):=by
 show bd (bj Φ a ρ) _=_;rw[h];show(if n<=(fe:Int) /\ -(fe:Int)<=n then _ else _)=_;have:(fe:Int)=1000000:=rfl;rw[if_pos (by left)]
theorem Qw{a:CE}(h:bj Φ a ρ=ok (.tup ds)):c_ Φ (.seq a) ρ=ok (az aY ds,if aR bA ds then mG (gc a) 0 ρ else ρ):=by
 show bd (bj Φ a ρ) _=_;rw[h,<- tq];show ok (_,if bc bA (.tup ds)then _ else _)=_;rw[zF]
theorem Cy{a:CE}{f:Fl}(h:bj Φ a ρ=ok (.lst f ds)):c_ Φ (.seq a) ρ=ok (az aY ds,if (bA f||aR bA ds)then mG (gc a) 0 ρ else ρ):=by
 show bd (bj Φ a ρ) _=_;rw[h,<- tq];show ok (_,if bc bA (.lst f ds)then _ else _)=_;rw[zG]
noncomputable def fE(t b:Int):Int:=if b<0 then -(Int.gcd t b:Int)else(Int.gcd t b:Int)
def Gu(t b:Int):Int:=t.fdiv (fE t b)
def Gv(t b:Int):Int:=b.fdiv (fE t b)
theorem uT{t b:Int}(h:b≠0):0<Int.gcd t b:=Int.gcd_pos_of_ne_zero_right t h
theorem iC{t b:Int}(h:b≠0):fE t b≠0:=by
 have:=uT (t:=t) h;unfold fE;split<;>left
theorem HB{t b:Int}(h:b≠0):Int.gcd t b<=b.natAbs:=ZZ (by left) (Nat.gcd_dvd_right _ _)
theorem C4{t b:Int}(h:b≠0):(fE t b).natAbs<=b.natAbs:=by
 have:=HB (t:=t) h;unfold fE;split<;>left
theorem qC{t b:Int}(h:b≠0):∃t' b':Int,t=fE t b*t'/\b=fE t b*b'/\Gu t b=t'/\Gv t b=b'/\1<=b'/\Int.gcd t' b'=1:=by
 have hg:=uT (t:=t) h;obtain⟨t1,ht⟩:(Int.gcd t b:Int)∣t:=Int.gcd_dvd_left ..;obtain⟨b1,hb⟩:(Int.gcd t b:Int)∣b:=Int.gcd_dvd_right ..;have hc:Int.gcd t1 b1=1:=by
  have e:Int.gcd ((Int.gcd t b:Int)*t1) ((Int.gcd t b:Int)*b1)=Int.gcd t b*Int.gcd t1 b1:=by
   rw[Int.gcd_mul_left];simp
  rw[<- ht,<- hb]at e;have:Int.gcd t b*1=Int.gcd t b*Int.gcd t1 b1:=by rw[Nat.mul_one];exact e
  exact(Nat.eq_of_mul_eq_mul_left hg this).symm
 by_cases hn:b<0
 ·have ed:fE t b = -(Int.gcd t b:Int):=by simp[fE,hn]
  have e1:t=fE t b*(-t1):=by rw[ed,Int.neg_mul_neg];exact ht
  have e2:b=fE t b*(-b1):=by rw[ed,Int.neg_mul_neg];exact hb
  refine⟨-t1,-b1,e1,e2,?_,?_,?_,by rw[Int.gcd_neg,Int.neg_gcd];exact hc⟩
  ·unfold Gu
   conv=>lhs;arg 1;rw[e1]
   exact Y0 _ (iC h)
  ·unfold Gv
   conv=>lhs;arg 1;rw[e2]
   exact Y0 _ (iC h)
  ·have:b1<0:=by
    by_cases N_:b1<0
    ·exact N_
    ·have:0<=(Int.gcd t b:Int)*b1:=Int.mul_nonneg (by left) (by left);left
   left
 ·have ed:fE t b=(Int.gcd t b:Int):=by simp[fE,hn]
  have e1:t=fE t b*t1:=by rw[ed];exact ht
  have e2:b=fE t b*b1:=by rw[ed];exact hb
  refine⟨t1,b1,e1,e2,?_,?_,?_,hc⟩
  ·unfold Gu
   conv=>lhs;arg 1;rw[e1]
   exact Y0 _ (iC h)
  ·unfold Gv
   conv=>lhs;arg 1;rw[e2]
   exact Y0 _ (iC h)
  ·have:0<b1:=by
    by_cases N_:0<b1
    ·exact N_
    ·have:(Int.gcd t b:Int)*b1<=0:=Int.mul_nonpos_of_nonneg_of_nonpos (by left) (by left);left
   left
noncomputable def qD(q:Rat):D:=.tup [.int q.num,.int q.den]
@[simp]theorem GC(g:Fl->Fl)(q:Rat):aI g (qD q)=qD q:=by unfold qD;simp
@[simp]theorem Ht(g:Fl->Bool)(q:Rat):bc g (qD q)=false:=by unfold qD;simp
noncomputable def b0(qs:aM):ab:=qs.map qD
@[simp]theorem NL(qs:aM):(b0 qs).length=qs.length:=Zb ..
@[simp]theorem NK:b0 []=[]:=rfl
@[simp]theorem KC(q:Rat)(qs:aM):b0 (q::qs)=qD q::b0 qs:=rfl
@[simp]theorem KA(qs:aM)(q:Rat):b0 qs++[qD q]=b0 (qs++[q]):=by simp[b0]
@[simp]theorem NM(qs:aM)(i:Nat):(b0 qs)[i]?=qs[i]?.map qD:=List.getElem?_map ..
@[simp]theorem NJ(qs:aM)(i:Nat)(q:Rat):(b0 qs).set i (qD q)=b0 (qs.set i q):=by unfold b0;rw[List.map_set]
@[simp]theorem lp(g:Fl->Fl)(qs:aM):az g (b0 qs)=b0 qs:=di g (GC g) qs
@[simp]theorem L7(g:Fl->Bool)(qs:aM):aR g (b0 qs)=false:=cW g (Ht g) qs
theorem Ec(n:Nat)(q:Rat):eh (n+1) (qD q)=true:=by
 unfold qD;rw[oG,List.all_cons,List.all_cons,dX,dX];rfl
theorem Ex(p q:Rat):jX (qD p) (qD q)=decide (p=q):=by
 unfold qD;rw[uY,dm,dm,rm,kI,kI,Bool.and_true];by_cases h:p=q
 ·subst h;simp
 ·rw[decide_eq_false h];cases e1:decide (p.num=q.num)with
  |false=>rfl
  |true =>
   cases e2:decide ((p.den:Int)=(q.den:Int))with
   |false=>rfl
   |true =>
    refine absurd (Rat.ext (by simpa using e1) ?_) h;have:(p.den:Int)=q.den:=by simpa using e2
    left
@[simp]theorem TF(q:Rat):lD (qD q) (.int 0)=ok (.int q.num):=by unfold qD;simp
@[simp]theorem TC(q:Rat):lD (qD q) (.int 1)=ok (.int q.den):=by unfold qD;simp
theorem zR{t b:Int}(hb:b≠0):t.fdiv (fE t b)=(Rat.divInt t b).num/\b.fdiv (fE t b)=((Rat.divInt t b).den:Int):=by
 obtain⟨t',b',e1,e2,h1,h2,h3,h4⟩:=qC (t:=t) hb;have hd:=iC (t:=t) hb;have e:Rat.divInt t b=Rat.divInt t' b':=by
  generalize fE t b=d at *;rw[e1,e2];exact Rat.divInt_mul_left hd
 obtain⟨n,rfl⟩:∃n:Nat,b'=(n:Int):=⟨b'.toNat,by left⟩
 have hc:t'.natAbs.Coprime n:=by
  have:Nat.gcd t'.natAbs n=1:=by simpa [Int.gcd]using h4
  exact this
 have hn:n≠0:=by left
 have e3:Rat.divInt t' (n:Int)=⟨t',n,hn,hc⟩:=Rat.mk_eq_divInt.symm;rw[e,e3];exact⟨h1,h2⟩
theorem j8(q:Rat):(q.den:Int)≠0:=by have:=q.den_pos;left
theorem KG(q:Rat):(1:Int)<=q.den:=by have:=q.den_pos;left
theorem ir(q:Rat):Rat.divInt q.num q.den=q:=Rat.num_divInt_den q
theorem iY{t b:Int}(hb:b≠0):(Rat.divInt t b).num.natAbs<=t.natAbs/\(Rat.divInt t b).den<=b.natAbs:=by
 obtain⟨t',b',e1,e2,h1,h2,h3,h4⟩:=qC (t:=t) hb;obtain⟨g1,g2⟩:=zR (t:=t) hb;have hd:1<=(fE t b).natAbs:=by have:=iC (t:=t) hb;left
 rw[show t.fdiv (fE t b)=t' from h1]at g1;rw[show b.fdiv (fE t b)=b' from h2]at g2;refine⟨?_,?_⟩
 ·rw[<- g1];have:t.natAbs=(fE t b).natAbs*t'.natAbs:=by rw[<- Int.natAbs_mul,<- e1]
  rw[this];exact Nat.le_mul_of_pos_left _ hd
 ·have hz:(Rat.divInt t b).den=b'.natAbs:=by left
  rw[hz];have:b.natAbs=(fE t b).natAbs*b'.natAbs:=by rw[<- Int.natAbs_mul,<- e2]
  rw[this];exact Nat.le_mul_of_pos_left _ hd
theorem KI(p q:Rat):p+q=Rat.divInt (p.num*q.den+q.num*p.den) (p.den*q.den):=by
 conv=>lhs;rw[<- ir p,<- ir q]
 exact Rat.divInt_add_divInt _ _ (j8 p) (j8 q)
theorem KD(p q:Rat):p - q=Rat.divInt (p.num*q.den - q.num*p.den) (p.den*q.den):=by
 conv=>lhs;rw[<- ir p,<- ir q]
 exact Rat.divInt_sub_divInt _ _ (j8 p) (j8 q)
theorem KH(p q:Rat):p*q=Rat.divInt (p.num*q.num) (p.den*q.den):=by
 conv=>lhs;rw[<- ir p,<- ir q]
 exact Rat.divInt_mul_divInt _ _
def Sm(k:Nat)(q:Rat):Prop:=q.num.natAbs<2 ^ k/\q.den<2 ^ k
theorem Sm.mono{k l:Nat}{q:Rat}(h:Sm k q)(hl:k<=l):Sm l q :=
 ⟨Yc h.1 (Yq (by decide) hl),Yc h.2 (Yq (by decide) hl)⟩
theorem bH{a b k l:Nat}(h:a<2 ^ k)(h':b<2 ^ l):a*b<2 ^ (k+l):=by
 rw[Nat.pow_add];exact Nat.mul_lt_mul'' h h'
theorem DP(a b:Int):(a+b).natAbs<=a.natAbs+b.natAbs:=Int.natAbs_add_le a b
theorem DN(a b:Int):(a - b).natAbs<=a.natAbs+b.natAbs:=by rw[Int.sub_eq_add_neg];exact Int.natAbs_neg b▸Int.natAbs_add_le a (-b)
section
variable {k l:Nat}{p q:Rat}
theorem Sm.den(h:Sm k p)(h':Sm l q):((p.den:Int)*q.den).natAbs<2 ^ (k+l):=by
 rw[Int.natAbs_mul];exact bH (by simpa using h.2) (by simpa using h'.2)
theorem Sm.add(h:Sm k p)(h':Sm l q):Sm (k+l+1) (p+q):=by
 have hb:(p.den:Int)*q.den≠0:=Z6 (j8 p) (j8 q);obtain⟨g1,g2⟩:=iY (t:=p.num*q.den+q.num*p.den) hb;rw[<- KI]at g1 g2;have n1:(p.num*q.den).natAbs<2 ^ (k+l):=by rw[Int.natAbs_mul];exact bH h.1 (by simpa using h'.2)
 have n2:(q.num*p.den).natAbs<2 ^ (k+l):=by rw[Int.natAbs_mul,Nat.add_comm];exact bH h'.1 (by simpa using h.2)
 have:=DP (p.num*q.den) (q.num*p.den);have e:2 ^ (k+l+1)=2 ^ (k+l)*2:=Nat.pow_succ ..;have d:=h.den h';exact⟨by left,by left⟩
theorem Sm.sub(h:Sm k p)(h':Sm l q):Sm (k+l+1) (p - q):=by
 have hb:(p.den:Int)*q.den≠0:=Z6 (j8 p) (j8 q);obtain⟨g1,g2⟩:=iY (t:=p.num*q.den - q.num*p.den) hb;rw[<- KD]at g1 g2;have n1:(p.num*q.den).natAbs<2 ^ (k+l):=by rw[Int.natAbs_mul];exact bH h.1 (by simpa using h'.2)
 have n2:(q.num*p.den).natAbs<2 ^ (k+l):=by rw[Int.natAbs_mul,Nat.add_comm];exact bH h'.1 (by simpa using h.2)
 have:=DN (p.num*q.den) (q.num*p.den);have e:2 ^ (k+l+1)=2 ^ (k+l)*2:=Nat.pow_succ ..;have d:=h.den h';exact⟨by left,by left⟩
theorem Sm.mul(h:Sm k p)(h':Sm l q):Sm (k+l) (p*q):=by
 have hb:(p.den:Int)*q.den≠0:=Z6 (j8 p) (j8 q);obtain⟨g1,g2⟩:=iY (t:=p.num*q.num) hb;rw[<- KH]at g1 g2;have n1:(p.num*q.num).natAbs<2 ^ (k+l):=by rw[Int.natAbs_mul];exact bH h.1 h'.1
 have d:=h.den h';exact⟨by left,by left⟩
theorem Sm.big(h:Sm k p)(hk:k<=9000):p.num.natAbs<2 ^ 9000/\(p.den:Int).natAbs<2 ^ 9000:=by
 have:=h.mono hk;exact⟨this.1,by simpa using this.2⟩
end
theorem vP{t b:Int}{k:Nat}(hb:b≠0)(h1:t.natAbs<2 ^ k)(h2:b.natAbs<2 ^ k):Sm k (Rat.divInt t b):=by
 obtain⟨g1,g2⟩:=iY (t:=t) hb;exact⟨by left,by left⟩
def cZ(d:D):Bool:=b8 .int d&&!b8 .bool d
def dv(m:aw):Prop:=∀d,m [d]=ok (.bl (cZ d))
noncomputable def fU:ag:=[.ret (.and [(.g5 (.v 0) .int),(.not (.g5 (.v 0) .bool))])]
theorem sF(Φ:aQ):dv (mk Φ 1 1 fU):=by
 intro d;simp[mk_eq,fU,cZ]
theorem lN(a:Int){b:Int}(h:b≠0):(a.fmod b).natAbs<b.natAbs:=by
 rcases Int.lt_or_gt_of_ne h with hb|hb
 ·have e:=Int.neg_fmod_neg a b;have h1:=Zq (-a) (show 0 < -b by left);have h2:=ZW (-a) (show 0 < -b by left);left
 ·have h1:=Zq a hb;have h2:=ZW a hb;left
theorem zN(a b:Int):Int.gcd b (a.fmod b)=Int.gcd a b:=by
 rw[Int.fmod_def,Int.gcd_sub_mul_left_right,Int.gcd_comm]
def bJ(m:aw):Prop:=∀a b:Int,m [.int a,.int b]=ok (.int (Int.gcd a b))
noncomputable def xr:CS:=.EV (.cmp .ne (.v 1) (.int 0)) [.asg (.nm 2) (.bin .mod (.v 0) (.v 1)),.asg (.nm 0) (.v 1),.asg (.nm 1) (.v 2)]
def cD:ag:=[xr,.ret (.bf .abs [(.v 0)])]
theorem Dq(Φ:aQ):∀(n:Nat) (a b:Int) (r:aH),b.natAbs<=n->∃(g:Int) (r':aH),rl Φ xr [some (.int a),some (.int b),r]=ok (.nx,[some (.int g),some (.int 0),r'])/\g.natAbs=Int.gcd a b:=by
 intro n;induction n with
 |zero =>
  intro a b r h;have hb:b=0:=by left
  subst hb;refine⟨a,r,?_,by simp⟩;rw[xr,mO];exact fI (by simp)
 |succ n ih =>
  intro a b r h;by_cases hb:b=0
  ·subst hb;refine⟨a,r,?_,by simp⟩;rw[xr,mO];exact fI (by simp)
  ·have fj:=lN a hb;obtain⟨g,r',e,hg⟩:=ih b (a.fmod b) (some (.int (a.fmod b))) (by left);refine⟨g,r',?_,by rw[hg,zN]⟩;rw[xr,mO]at e ⊢;rw[<- e];exact kS (by simp[hb])
theorem jA(Φ:aQ):bJ (mk Φ 2 3 cD):=by
 intro a b;obtain⟨g,r',e,hg⟩:=Dq Φ b.natAbs a b none (Yb _);have e1:(g.natAbs:Int)=(Int.gcd a b:Int):=by left
 simp[mk_eq,cD,e,e1]
def jn(m:aw):Prop:=∀t b:Int,b≠0->b.natAbs<2 ^ 9000->m [.int t,.int b]=ok (qD (Rat.divInt t b))
theorem vb{t b:Int}(hb:b≠0)(h:b.natAbs<2 ^ 9000)(x:Int):ck .fdiv (.int x) (.int (fE t b))=ok (.int (x.fdiv (fE t b))) :=
 iE (eD (iC hb) (Yo (C4 hb) h))
noncomputable def cX:D->Bool
 |.tup [.int a,.int b]=>decide (1<=b)&&decide (Int.gcd a b=1)
 |_=>false
theorem o3(q:Rat):cX (qD q)=true:=by
 have h1:=KG q;have h2:Int.gcd q.num q.den=1:=by
  have:=q.reduced;simpa [Int.gcd]using this
 simp[qD,cX,h1,h2]
def cN(m:aw):Prop:=∀d,m [d]=ok (.bl (cX d))
noncomputable def bI:ag:=[.ifs (.or [(.not (.g5 (.v 0) .tuple)),(.cmp .ne (.bf .len [(.v 0)]) (.int 2))]) [.ret (.bl false)] [],.ifs (.or [(.not (.call 0 [(.ix (.v 0) (.int 0))])),(.not (.call 0 [(.ix (.v 0) (.int 1))]))]) [.ret (.bl false)] [],.ret (.and [(.cmp .ge (.ix (.v 0) (.int 1)) (.int 1)),(.cmp .eq (.call 1 [(.ix (.v 0) (.int 0)),(.ix (.v 0) (.int 1))]) (.int 1))])]
theorem jP(g:Fl->Fl)(d:D):cZ (aI g d)=cZ d:=by simp[cZ]
theorem kR{d:D}(h:cZ d=true):∃i,d=.int i:=by
 cases d<;>simp[cZ,b8]at h ⊢
theorem nK{x y:D}(h:cZ x=false\/cZ y=false):cX (.tup [x,y])=false:=by
 cases x<;>cases y<;>simp[cZ,b8]at h<;>rfl
theorem wH(h:ds.length≠2):cX (.tup ds)=false:=by
 unfold cX;split
 ·rename_i e;cases e;simp at h
 ·rfl
theorem mw(Φ:aQ)(h0:dv (Φ 0))(h1:bJ (Φ 1)):cN (mk Φ 1 1 bI):=by
 intro d;unfold dv at h0;unfold bJ at h1;cases d with
 |tup ds =>
  by_cases hl:ds.length=2
  ·match ds,hl with
   |[x,y],_ =>
    by_cases hx:cZ x=true
    ·by_cases hy:cZ y=true
     ·obtain⟨a,rfl⟩:=kR hx;obtain⟨b,rfl⟩:=kR hy;simp[mk_eq,bI,h0,h1,hx,hy,b8,cX];by_cases hg:a.gcd b=1
      ·simp[hg]
      ·simp[hg];left
     ·simp[mk_eq,bI,h0,hx,hy,b8,jP,nK (.inr (by simpa using hy))]
    ·simp[mk_eq,bI,h0,hx,b8,jP,nK (.inl (by simpa using hx))]
  ·have pP:¬ (ds.length:Int)=2:=by left
   simp[mk_eq,bI,b8,pP,wH hl]
 |_=>simp[mk_eq,bI,b8,cX]
section
variable (Φ:aQ){f:Nat}(h2:jn (Φ f))
end
theorem rE{bind:D->O aX}{test:aX->O Bool}{el:aX->O D}{g:D->D}(h:∀x∈xs,∃ρ,bind x=ok ρ/\test ρ=ok true/\el ρ=ok (g x)):eE bind test el xs=ok (xs.map g):=by
 have:=bM (bind:=bind) (test:=test) (el:=el) (e:=λd=>d) (g:=g) (xs:=xs) h
 rwa [List.map_id']at this
theorem iA(g:Fl->Fl)(d:D):cX (aI g d)=cX d:=by
 cases d with
 |tup ds =>
  match ds with
  |[]=>simp
  |[_]=>simp[cX]
  |[x,y]=>cases x<;>cases y<;>simp[cX]
  |_::_::_::_=>simp[cX]
 |_=>simp[cX]
def l6(d:D)(n:Int):Bool:=match d with
 |.lst _ ds=>decide ((ds.length:Int)=n)&&ds.all cX
 |_=>false
def mI(d:D):Prop:=match d with
 |.lst _ ds=>ds.length<=1000000
 |.tup ds=>ds.length<64
 |_=>True
def kg(m:aw):Prop:=∀d n,mI d->m [d,.int n]=ok (.bl (l6 d n))
noncomputable def bR:ag:=[.ifs (.or [(.not (.g5 (.v 0) .list)),(.cmp .ne (.bf .len [(.v 0)]) (.v 1))]) [.ret (.bl false)] [],.ret (.bf .all1 [(.comp 1 (.nm 0) [] .seq [(.v 0)] [] (.call 3 [(.v 0)]))])]
theorem j7(Φ:aQ)(h3:cN (Φ 3)):kg (mk Φ 2 2 bR):=by
 intro d n hc;unfold cN at h3;cases d with
 |lst f ds =>
  by_cases hn:(ds.length:Int)=n
  ·have nF:bj Φ (.comp 1 (.nm 0) [] .seq [(.v 0)] [] (.call 3 [(.v 0)])) [some (.lst f ds),some (.int n)]=ok (.lst .ow (jd (ds.map cX))):=by
    rw[bW (xs:=[.lst (a_ f) (az a_ ds)]) (by simp) (cv ..) (rE (g:=λd=>.bl (cX d)) λx _=>⟨[some x],by simp[bB],by simp,by simp[h3,iA]⟩) (by simp;exact bZ hc)];simp[bo,Function.comp_def,iA,jd]
   simp[mk_eq,bR,b8,hn,nF,l6]
  ·simp[mk_eq,bR,b8,hn,l6]
 |_=>simp[mk_eq,bR,b8,l6]
theorem ID(f:Fl)(qs:aM)(n:Int):l6 (.lst f (b0 qs)) n=decide ((qs.length:Int)=n):=by
 unfold l6;have:(b0 qs).all cX=true:=by unfold b0;rw[List.all_map];exact List.all_eq_true.mpr λq _=>o3 q
 simp[this]
noncomputable def iy(qs:aM):Nat:=qs.foldl (λb q=>Nat.lcm b q.den) 1
theorem y4(b:Nat)(q:Rat):(b:Int).fdiv (Int.gcd b q.den)*q.den=(Nat.lcm b q.den:Nat):=by
 have hg:0<Nat.gcd b q.den:=Nat.gcd_pos_of_pos_right _ q.den_pos;have e:Int.gcd (b:Int) (q.den:Int)=Nat.gcd b q.den:=by simp[Int.gcd]
 rw[e,Int.fdiv_eq_ediv_of_nonneg _ (by left)];have:((b:Int) / (Nat.gcd b q.den:Nat))=((b / Nat.gcd b q.den:Nat):Int):=(Int.natCast_ediv ..).symm;rw[this,Nat.lcm];have hd:Nat.gcd b q.den∣b:=Nat.gcd_dvd_left ..;rw[Nat.mul_comm b,Nat.mul_div_assoc _ hd,Nat.mul_comm];exact(Int.natCast_mul ..).symm
theorem lcm_pos{b:Nat}(hb:0<b)(q:Rat):0<Nat.lcm b q.den:=Nat.lcm_pos hb q.den_pos
theorem uF:∀(qs:aM) (b k j:Nat),0<b->b<2 ^ j->(∀q∈qs,Sm k q)->0<qs.foldl (λb q=>Nat.lcm b q.den) b/\qs.foldl (λb q=>Nat.lcm b q.den) b<2 ^ (j+k*qs.length)/\b∣qs.foldl (λb q=>Nat.lcm b q.den) b/\∀q∈qs,q.den∣qs.foldl (λb q=>Nat.lcm b q.den) b
 |[],b,k,j,h0,h1,_=>⟨h0,by simpa using h1,Nat.dvd_refl _,λq hq=>nomatch hq⟩
 |q::qs,b,k,j,h0,h1,hs=>by
  have hq:=hs q X9;have h2:Nat.lcm b q.den<2 ^ (j+k):=Yo (Nat.lcm_le_mul h0 q.den_pos) (bH h1 hq.2);obtain⟨g1,g2,g3,g4⟩:=uF qs (Nat.lcm b q.den) k (j+k) (lcm_pos h0 q) h2 λp hp=>hs p (X_ _ hp);have e:j+k*(q::qs).length=j+k+k*qs.length:=by rw[List.length_cons,Nat.mul_succ];left
  refine⟨g1,by rw[e];exact g2,Nat.dvd_trans (Nat.dvd_lcm_left ..) g3,λp hp=>?_⟩;rcases List.mem_cons.mp hp with rfl|hp
  ·exact Nat.dvd_trans (Nat.dvd_lcm_right ..) g3
  ·exact g4 p hp
structure xk(k:Nat)(qs:aM):Prop where
 sm:∀q∈qs,Sm k q
 tE:k*qs.length<=3000
 len:qs.length<=1000
variable {qs:aM}
theorem xk.lcm{k:Nat}(h:xk k qs):0<iy qs/\iy qs<2 ^ (1+k*qs.length)/\∀q∈qs,q.den∣iy qs:=by
 obtain⟨g1,g2,_,g4⟩:=uF qs 1 k 1 (by decide) (by decide) h.sm;exact⟨g1,g2,g4⟩
theorem yZ{n j:Nat}(h:n<2 ^ j)(hj:j<=9000):n<2 ^ 9000:=Yc h (Yq (by decide) hj)
def gh(m:aw):Prop:=∀f qs k,xk k qs->m [.lst f (b0 qs)]=ok (.int (iy qs))
noncomputable def bQ:ag:=[.asg (.nm 1) (.bin .mul (.bin .fdiv (.v 1) (.call 1 [(.v 1),(.ix (.v 2) (.int 1))])) (.ix (.v 2) (.int 1)))]
def cm:ag:=[.asg (.nm 1) (.int 1),.fr (.nm 2) (.seq (.v 0)) bQ,.ret (.v 1)]
theorem vm(Φ:aQ)(h1:bJ (Φ 1))(x:aH):∀(qs:aM) (b k j:Nat) (z:aH),0<b->b<2 ^ j->j+k*qs.length<=8000->(∀q∈qs,Sm k q) ->
  ∃z',eN (λd ρ=>cg (.nm 2) d ρ) (λρ=>cj Φ bQ ρ) (b0 qs) [x,some (.int b),z]=ok (.nx,[x,some (.int (qs.foldl (λb q=>Nat.lcm b q.den) b:Nat)),z'])
 |[],b,k,j,z,_,_,_,_=>⟨z,rfl⟩
 |q::qs,b,k,j,z,h0,hb,hj,hs=>by
  have hq:=hs q X9;have h2:Nat.lcm b q.den<2 ^ (j+k):=Yo (Nat.lcm_le_mul h0 q.den_pos) (bH hb hq.2);have e:j+k*(q::qs).length=j+k+k*qs.length:=by rw[List.length_cons,Nat.mul_succ];left
  obtain⟨z',ih⟩:=vm Φ h1 x qs (Nat.lcm b q.den) k (j+k) (some (qD q)) (lcm_pos h0 q) h2 (by left) λp hp=>hs p (X_ _ hp);have hg:0<Nat.gcd b q.den:=Nat.gcd_pos_of_pos_right _ q.den_pos;have eg:Int.gcd (b:Int) (q.den:Int)=Nat.gcd b q.den:=by simp[Int.gcd]
  have Q7:Nat.gcd b q.den<=b:=ZZ h0 (Nat.gcd_dvd_left ..);have Ug:b<2 ^ 9000:=yZ hb (by left);have d1:ck .fdiv (.int b) (.int (Nat.gcd b q.den:Nat))=ok (.int ((b:Int).fdiv (Nat.gcd b q.den:Nat))):=iE (eD (by left) (by simpa using Nat.lt_of_le_of_lt Q7 Ug));have hm:((b:Int).fdiv (Nat.gcd b q.den:Nat)).natAbs<=b:=by
   rw[Int.fdiv_eq_ediv_of_nonneg _ (by left),<- Int.natCast_ediv];simp;exact ZE ..
  have d2:ck .mul (.int ((b:Int).fdiv (Nat.gcd b q.den:Nat))) (.int q.den)=ok (.int (Nat.lcm b q.den:Nat)):=by
   have:=y4 b q;rw[eg]at this;rw[nZ (mulOk_of (Nat.lt_of_le_of_lt hm Ug) (hq.big (by
    rw[e]at hj;have:k<=j+k+k*qs.length:=by left
    left)).2),this]
  unfold bJ at h1;refine⟨z',dk (ρ1:=[x,some (.int b),some (qD q)]) (by simp) (ρ2:=[x,some (.int (Nat.lcm b q.den:Nat)),some (qD q)]) ?_ ih⟩;simp[bQ,h1,d1,d2]
theorem j5(Φ:aQ)(h1:bJ (Φ 1)):gh (mk Φ 1 3 cm):=by
 intro f qs k hs;have hit:c_ Φ (.seq (.v 0)) [some (.lst f (b0 qs)),some (.int 1),none]=ok (b0 qs,if (bA (a_ f)||false)then[some (.lst (aY f) (b0 qs)),some (.int 1),none]else[some (.lst f (b0 qs)),some (.int 1),none]):=by
  rw[Cy (f:=a_ f) (ds:=b0 qs) (by simp)];simp[show gc (.v 0)=[0] from rfl]
 have hk:=hs.tE;have hx:∀x:aH,∃z',eN (λd ρ=>cg (.nm 2) d ρ) (λρ=>cj Φ bQ ρ) (b0 qs) [x,some (.int (1:Nat)),none]=ok (.nx,[x,some (.int (iy qs)),z']):=λx=>vm Φ h1 x qs 1 k 1 none (by decide) (by decide) (by left) hs.sm;cases hf:(bA (a_ f)||false)with
 |true =>
  rw[hf]at hit;obtain⟨z',e⟩:=hx (some (.lst (aY f) (b0 qs)));have:=gm (t:=.nm 2) (b:=bQ) hit e;simp[mk_eq,cm,this]
 |false =>
  rw[hf]at hit;obtain⟨z',e⟩:=hx (some (.lst f (b0 qs)));have:=gm (t:=.nm 2) (b:=bQ) hit e;simp[mk_eq,cm,this]
noncomputable def e6(b:Nat)(q:Rat):Int:=q.num*(b:Int).fdiv q.den
theorem uo(q:Rat):(q.num:Rat)=q*(q.den:Rat):=by
 have h:(q.den:Rat)≠0:=by
  have:=q.den_pos;intro z;have:((q.den:Int):Rat)=0:=by rw[Rat.intCast_natCast];exact z
  rw[Rat.intCast_eq_zero_iff]at this;left
 have e:q=(q.num:Rat) / (q.den:Rat):=by
  conv=>lhs;rw[<- ir q,Rat.divInt_eq_div,Rat.intCast_natCast]
 grind
theorem xK{b:Nat}{q:Rat}(h:q.den∣b):((e6 b q:Int):Rat)=q*(b:Rat):=by
 obtain⟨c,rfl⟩:=h;have hd:(q.den:Int)≠0:=j8 q;unfold e6;rw[Int.natCast_mul,Int.mul_fdiv_cancel_left _ hd,Rat.intCast_mul,uo,Rat.natCast_mul,Rat.intCast_natCast];grind
theorem p7{b:Nat}:∀{qs:aM},(∀q∈qs,q.den∣b)->(((qs.map (e6 b)).sum:Int):Rat)=qs.sum*(b:Rat)
 |[],_=>by simp
 |q::qs,h=>by
  rw[List.map_cons,List.sum_cons,List.sum_cons,Rat.intCast_add,xK (h q List.mem_cons_self),p7 λp hp=>h p (List.mem_cons_of_mem _ hp)];grind
def jY(m:aw):Prop:=∀f qs k (b:Nat),xk k qs->b<2 ^ 8000->m [.lst f (b0 qs),.int b]=ok (.lst .ow (au (qs.map (e6 b))))
noncomputable def eX:ag:=[.ret (.comp 1 (.nm 0) [1] .seq [(.v 0)] [] (.bin .mul (.ix (.v 0) (.int 0)) (.bin .fdiv (.v 1) (.ix (.v 0) (.int 1)))))]
theorem Bw{k:Nat}(h:xk k qs){q:Rat}(hq:q∈qs):Sm 3000 q:=by
 refine(h.sm q hq).mono ?_;have h1:=h.tE;have h2:0<qs.length:=List.length_pos_of_mem hq;have:k*1<=k*qs.length:=ZP _ h2;left
theorem ql(Φ:aQ):jY (mk Φ 2 2 eX):=by
 intro f qs k b hs hb;have nF:bj Φ (.comp 1 (.nm 0) [1] .seq [(.v 0)] [] (.bin .mul (.ix (.v 0) (.int 0)) (.bin .fdiv (.v 1) (.ix (.v 0) (.int 1))))) [some (.lst f (b0 qs)),some (.int b)]=ok (.lst .ow (au (qs.map (e6 b)))):=by
  rw[bW (xs:=[.lst (a_ f) (b0 qs)]) (items:=b0 qs) (ds:=qs.map λq=>.int (e6 b q)) (by simp) (by rw[cv];simp) (bM λq hq=>?_) (by have:=hs.len;simp;exact bZ (by left))]
  ·have:(qs.map λq=>D.int (e6 b q))=au (qs.map (e6 b)):=by simp[au]
   rw[this,dG]
  ·refine⟨[some (qD q),some (.int b)],by simp[bB],by simp,?_⟩;have h3:=Bw hs hq;obtain⟨g1,g2⟩:=h3.big (by decide);have d1:ck .fdiv (.int b) (.int q.den)=ok (.int ((b:Int).fdiv q.den)):=iE (eD (j8 q) g2);have d2:ck .mul (.int q.num) (.int ((b:Int).fdiv q.den))=ok (.int (q.num*(b:Int).fdiv q.den)):=by
    refine nZ (mulOk_of g1 ?_);rw[Int.fdiv_eq_ediv_of_nonneg _ (by left),<- Int.natCast_ediv];have:=ZE b q.den;have h9:=yZ hb (by decide);rw[Int.natAbs_natCast];exact Yo this h9
   simp[d1,d2,e6]
 simp[mk_eq,eX,nF]
theorem xk.Qj{k:Nat}(h:xk k qs):iy qs<2 ^ 8000:=Yc h.lcm.2.1 (Yq (by decide) (by have:=h.tE;left))
noncomputable def bV(n:Int):D->Bool
 |.int i=>decide (0<=i)&&decide (i<n)
 |_=>false
theorem jW(g:Fl->Fl)(n:Int)(d:D):bV n (aI g d)=bV n d:=by
 cases d<;>simp[bV]
theorem eV{n:Int}:∀{ds:ab},ds.all (bV n)=true->∃ns:aa,ds=au ns
 |[],_=>⟨[],rfl⟩
 |d::ds,h=>by
  simp only[List.all_cons,Bool.and_eq_true]at h;obtain⟨ns,rfl⟩:=eV h.2;cases d with
  |int i=>exact⟨i::ns,rfl⟩
  |_=>simp[bV]at h
def numsOf(ds:ab):aa:=(intsOf ds).getD []
theorem eT(ns:aa):numsOf (au ns)=ns:=by unfold numsOf au;rw[bL];rfl
def cf(d:D)(n:Int):Bool:=match d with
 |.tup ds=>ds.all (bV n)&&decide ((o6 (numsOf ds)).length=ds.length)
 |_=>false
def qI(d:D)(n:Int):Bool:=cf d n&&(match d with
 |.tup ds=>decide (numsOf ds=sortI (numsOf ds))
 |_=>false)
def fW(m:aw):Prop:=∀d n,mI d->m [d,.int n]=ok (.bl (cf d n))
noncomputable def cE:ag:=[.ifs (.not (.g5 (.v 0) .tuple)) [.ret (.bl false)] [],.ifs (.not (.bf .all1 [(.comp 1 (.nm 0) [1] .seq [(.v 0)] [] (.and [(.call 0 [(.v 0)]),(.cmp .ge (.v 0) (.int 0)),(.cmp .lt (.v 0) (.v 1))]))])) [.ret (.bl false)] [],.ret (.cmp .eq (.iw (.v 0)) (.bf .len [(.v 0)]))]
theorem oq(Φ:aQ)(h0:dv (Φ 0)):fW (mk Φ 2 2 cE):=by
 intro d n hc;unfold dv at h0;cases d with
 |tup ds =>
  have hl:ds.length<64:=hc;have nF:bj Φ (.comp 1 (.nm 0) [1] .seq [(.v 0)] [] (.and [(.call 0 [(.v 0)]),(.cmp .ge (.v 0) (.int 0)),(.cmp .lt (.v 0) (.v 1))])) [some (.tup ds),some (.int n)]=ok (.lst .ow (jd (ds.map (bV n)))):=by
   rw[bW (xs:=[.tup (az a_ ds)]) (by simp) (kE ..) (rE (g:=λd=>.bl (bV n d)) λx _=>⟨[some x,some (.int n)],by simp[bB],by simp,?_⟩) (by simp;exact bZ (by left))]
   ·simp[bo,Function.comp_def,jW,jd]
   ·cases x with
    |int i =>
     simp[h0,cZ,b8,bV]
    |_=>simp[h0,cZ,b8,bV]
  cases ha:ds.all (bV n)with
  |true =>
   obtain⟨ns,rfl⟩:=eV ha;have pP:ns.length<4000:=by simp at hl;left
   have e:(List.all (List.map (bV n) (au ns)) id)=true:=by rw[List.all_map];exact ha
   simp[mk_eq,cE,b8,nF,e,Ic pP,cf,ha,eT];simp[Int.natCast_inj]
  |false =>
   have e:(List.all (List.map (bV n) ds) id)=false:=by rw[List.all_map];exact ha
   simp only[mk_eq,cE,List.length_cons,List.length_nil];simp[b8,nF,e,cf,ha]
 |_=>simp[mk_eq,cE,b8,cf]
def rX(m:aw):Prop:=∀d n,mI d->m [d,.int n]=ok (.bl (qI d n))
noncomputable def fG:ag:=[.ret (.and [(.call 43 [(.v 0),(.v 1)]),(.cmp .eq (.bf .list1 [(.v 0)]) (.bf .fM [(.v 0)]))])]
theorem qA(n:Nat)(f:Fl)(ns:aa):eh (n+1) (.lst f (au ns))=true:=kA (dX n) ns
theorem vY(n:Nat)(ns:aa):eh (n+1) (.tup (au ns))=true:=kA (dX n) ns
theorem wL(ns ms:aa):dJ (au ns) (au ms)=decide (ns=ms):=gE (λx y=>kI x y) ns ms
theorem i9(g:Fl->Fl)(d:D)(n:Int):cf (aI g d) n=cf d n:=by
 cases d with
 |tup ds =>
  cases h:ds.all (bV n)with
  |true =>
   obtain⟨ns,rfl⟩:=eV h;simp
  |false =>
   have h2:(az g ds).all (bV n)=false:=by
    rw[bo,List.all_map,show(bV n∘aI g)=bV n from funext λd=>jW g n d];exact h
   simp[cf,h,h2]
 |_=>simp[cf]
theorem gU{g:Fl->Fl}{d:D}(h:mI d):mI (aI g d):=by
 cases d<;>simp_all [mI]
theorem ye(Φ:aQ)(Ry:fW (Φ 43)):rX (mk Φ 2 2 fG):=by
 intro d n hc;have e1:=Ry (aI aY (aI a_ d)) n (gU (gU hc));rw[i9,i9]at e1;cases d with
 |tup ds =>
  have hl:ds.length<64:=hc;simp only[yW]at e1;cases ha:cf (.tup ds) n with
  |true =>
   have Ob:=ha;simp only[cf,Bool.and_eq_true]at Ob;obtain⟨ns,rfl⟩:=eV Ob.1;have pP:ns.length<64:=by simpa using hl
   have e2:dM .eq (.lst .ow (au ns)) (.lst .ow (au (sortI ns)))=ok (.bl (decide (ns=sortI ns))):=by
    rw[M0 (qA 39 _ _) (qA 39 _ _),kH,wL]
   rw[ha]at e1;simp at e1;simp[mk_eq,fG,e1,CT pP,e2,qI,ha,eT]
  |false =>
   rw[ha]at e1;simp[mk_eq,fG,e1,qI,ha]
 |_=>(simp at e1;simp[mk_eq,fG,e1,qI,cf])
def r9(n:Nat)(l:aa):Prop:=l.Pairwise (· < ·)/\∀h∈l,0<=h/\h<(n:Int)
theorem o5:∀(l m:aa),(∀x∈l,x∉m)->l.Nodup->l.foldl (λ(m:aa) (k:Int)=>if m.any (· == k)then m else m++[k]) m=m++l
 |[],m,_,_=>by simp
 |x::l,m,h,hn=>by
  have hx:m.any (· == x)=false:=by
   rw[List.any_eq_false];intro y hy z;have:y=x:=by simpa using z
   exact h x X9 (this▸hy)
  rw[List.foldl_cons,hx,if_neg Bool.false_ne_true,o5 l (m++[x])]
  ·simp
  ·intro y hy z;rcases List.mem_append.mp z with z|z
   ·exact h y (X_ _ hy) z
   ·have:y=x:=by simpa using z
    subst this;exact(List.nodup_cons.mp hn).1 hy
  ·exact(List.nodup_cons.mp hn).2
theorem r9.nodup{n:Nat}{l:aa}(h:r9 n l):l.Nodup:=h.1.imp λz=>by left
theorem x3{l:aa}(h:l.Pairwise (· < ·)):sortI l=l:=by
 unfold sortI;apply List.mergeSort_of_pairwise;exact h.imp λz=>by simp;left
theorem r9.qI{n:Nat}{l:aa}(h:r9 n l):qI (.tup (au l)) n=true:=by
 have h1:(au l).all (bV n)=true:=by
  unfold au;rw[List.all_map,List.all_eq_true];intro x hx;have:=h.2 x hx;simp[bV,this.1,this.2]
 have h2:o6 l=l:=by
  have:=o5 l [] (by simp) h.nodup;rw[List.nil_append]at this;exact this
 simp[DI.qI,cf,h1,eT,h2,x3 h.1]
def pL(c:Nat)(p:D->Int->Bool)(m:aw):Prop:=∀d n,mI d->m [d,.int n]=if p d n then ok .bw else some (.error c)
noncomputable def jk(f c:Nat):ag:=[.ifs (.not (.call f [(.v 0),(.v 1)])) [.rs c] []]
theorem w8(g:Fl->Fl)(d:D)(n:Int):l6 (aI g d) n=l6 d n:=by
 cases d<;>simp[l6];rw[bo,List.all_map,show(cX∘aI g)=cX from funext λd=>iA g d]
theorem BD(Φ:aQ){f c:Nat}{p:D->Int->Bool}(hp:∀g d n,p (aI g d) n=p d n)(h:∀d n,mI d->Φ f [d,.int n]=ok (.bl (p d n))):pL c p (mk Φ 2 2 (jk f c)):=by
 intro d n hc;have e1:=h (aI aY (aI a_ d)) n (gU (gU hc));rw[hp,hp]at e1;cases hd:p d n with
 |true=>rw[hd]at e1;simp[mk_eq,jk,e1]
 |false=>rw[hd]at e1;simp[mk_eq,jk,e1]
noncomputable def gF(ns:aa)(k:Int):Int :=
 let c:=if k<ns.length then ns.getD k.toNat 0 else 0
 if (10:Int) ^ 18<=c then(c - 10 ^ 18).fmod (10 ^ 60)else
  let n:=(c*48271+k*69621+11).fmod 2147483629
  let n:=(n*n).fmod 2147483587
  n*2147483563+(n*n).fmod 2147483563
def pM(m:aw):Prop:=∀(ns:aa) (k:Int),0<=k->m [.lst .sc (au ns),.int k]=ok (.int (gF ns k))
noncomputable def dP:ag:=[.asg (.nm 2) (.int 0),.ifs (.cmp .lt (.v 1) (.bf .len [(.v 0)])) [.asg (.nm 2) (.ix (.v 0) (.v 1))] [],.ifs (.cmp .ge (.v 2) (.bin .pow (.int 10) (.int 18))) [.ret (.bin .mod (.bin .sub (.v 2) (.bin .pow (.int 10) (.int 18))) (.bin .pow (.int 10) (.int 60)))] [],.asg (.nm 3) (.bin .mod (.bin .add (.bin .add (.bin .mul (.v 2) (.int 48271)) (.bin .mul (.v 1) (.int 69621))) (.int 11)) (.int 2147483629)),.asg (.nm 3) (.bin .mod (.bin .mul (.v 3) (.v 3)) (.int 2147483587)),.ret (.bin .add (.bin .mul (.v 3) (.int 2147483563)) (.bin .mod (.bin .mul (.v 3) (.v 3)) (.int 2147483563)))]
theorem dD(a:Int){b:Int}(h:0<b):0<=a.fmod b/\a.fmod b<b:=⟨Zq a h,ZW a h⟩
theorem wU(Φ:aQ)(x:D)(k c:Int)(hx:b8 .list x=true)(o:aH):o4 (cj Φ (dP.drop 2) [some x,some (.int k),some (.int c),o])=ok (.int (if (10:Int) ^ 18<=c then(c - 10 ^ 18).fmod (10 ^ 60)else
  let n:=(c*48271+k*69621+11).fmod 2147483629
  let n:=(n*n).fmod 2147483587
  n*2147483563+(n*n).fmod 2147483563)):=by
 have p1:ck .pow (.int 10) (.int 18)=ok (.int (10 ^ 18)):=vp (by decide);have p2:ck .pow (.int 10) (.int 60)=ok (.int (10 ^ 60)):=vp (by decide);by_cases h:(10:Int) ^ 18<=c
 ·have h':(1000000000000000000:Int)<=c:=h;simp[dP,p1,p2,h']
 ·have h':¬ (1000000000000000000:Int)<=c:=h;obtain⟨a1,a2⟩:=dD (c*48271+k*69621+11) (b:=2147483629) (by decide);generalize hn:(c*48271+k*69621+11).fmod 2147483629=n at *;obtain⟨a3,a4⟩:=dD (n*n) (b:=2147483587) (by decide);have m1:ck .mul (.int n) (.int n)=ok (.int (n*n)):=nZ (oM _ (by left));generalize hm:(n*n).fmod 2147483587=m at *;have m2:ck .mul (.int m) (.int m)=ok (.int (m*m)):=nZ (oM _ (by left));simp[dP,p1,h',hn,m1,hm,m2]
theorem FP(Φ:aQ):pM (mk Φ 2 4 dP):=by
 intro ns k hk;have:=λc=>wU Φ (.lst .sc (au ns)) k c rfl none;by_cases h:k<ns.length
 ·have hg:w6 (au ns) k=ok (.int (ns.getD k.toNat 0)):=by
   have hl:k.toNat<ns.length:=by left
   rw[at_of hk (d:=.int (ns.getD k.toNat 0)) (by rw[wk,List.getElem?_eq_getElem hl,Option.map_some,List.getD_eq_getElem?_getD,List.getElem?_eq_getElem hl];rfl)];simp
  have e:o4 (cj Φ dP ([some (D.lst Fl.sc (au ns)),some (D.int k)]++[none,none]))=o4 (cj Φ (dP.drop 2) [some (.lst .sc (au ns)),some (.int k),some (.int (ns.getD k.toNat 0)),none]):=by
   rw[dP,n8,DY];simp only[Ei,Ez,qP,lJ];simp only[List.cons_append,List.nil_append,vy,List.length_cons,List.length_nil,Nat.reduceAdd,Nat.reduceLT,p8,List.set_cons_succ,List.set_cons_zero];rw[n8,JJ];simp[h,hg]
  rw[mk_eq (ar:=2) (ds:=[_,_]) rfl];refine(show _=_ from e).trans ?_;rw[this,gF,if_pos h]
 ·have e:o4 (cj Φ dP ([some (D.lst Fl.sc (au ns)),some (D.int k)]++[none,none]))=o4 (cj Φ (dP.drop 2) [some (.lst .sc (au ns)),some (.int k),some (.int 0),none]):=by
   rw[dP,n8,DY];simp only[Ei,Ez,qP,lJ];simp only[List.cons_append,List.nil_append,vy,List.length_cons,List.length_nil,Nat.reduceAdd,Nat.reduceLT,p8,List.set_cons_succ,List.set_cons_zero];rw[n8,JJ];simp[h]
  rw[mk_eq (ar:=2) (ds:=[_,_]) rfl];refine(show _=_ from e).trans ?_;rw[this,gF,if_neg h]
noncomputable def iS:CS:=.EV (.cmp .gt (.v 3) (.int 0)) [.par 2 3 (.v 3) (.bin .mod (.v 2) (.v 3))]
def jh:ag:=[.asg (.nm 2) (.bf .abs [(.v 0)]),.asg (.nm 3) (.bf .abs [(.v 1)]),iS,.ifs (.cmp .lt (.v 1) (.int 0)) [.asg (.nm 2) (.bin .sub (.int 0) (.v 2))] [],.ret (.tup [(.bin .fdiv (.v 0) (.v 2)),(.bin .fdiv (.v 1) (.v 2))])]
theorem sR(Φ:aQ)(x y:aH):∀(n:Nat) (a b:Nat),b<=n->rl Φ iS [x,y,some (.int a),some (.int b)]=ok (.nx,[x,y,some (.int (Nat.gcd a b)),some (.int 0)]):=by
 intro n;induction n with
 |zero =>
  intro a b h;have hb:b=0:=by left
  subst hb;rw[iS,mO];exact fI (by simp)
 |succ n ih =>
  intro a b h;by_cases hb:b=0
  ·subst hb;rw[iS,mO];exact fI (by simp)
  ·have fj:=Nat.mod_lt a (show 0<b by left);have e:=ih b (a % b) (by left);have eg:Nat.gcd b (a % b)=Nat.gcd a b:=by rw[Nat.gcd_comm a b,Nat.gcd_rec b a,Nat.gcd_comm]
   rw[eg]at e;rw[iS,mO]at e ⊢;rw[<- e];have uP:0<b:=by left
   have em:((a:Int)).fmod (b:Int)=((a % b:Nat):Int):=by
    rw[Int.fmod_eq_emod_of_nonneg _ (by left)];exact(Int.natCast_emod a b).symm
   have ep:rl Φ (.par 2 3 (.v 3) (.bin .mod (.v 2) (.v 3))) [x,y,some (.int a),some (.int b)]=ok (.nx,[x,y,some (.int b),some (.int ((a % b:Nat):Int))]):=by
    rw[JI];simp[hb,em]
   exact kS (by simp[uP,ep])
theorem BC(Φ:aQ):jn (mk Φ 2 4 jh):=by
 intro t b hb h;obtain⟨e1,e2⟩:=zR (t:=t) hb;have d1:=vb (t:=t) hb h t;have d2:=vb (t:=t) hb h b;have hl:=sR Φ (some (.int t)) (some (.int b)) b.natAbs t.natAbs b.natAbs (Yb _);rw[qD,<- e1,<- e2];by_cases hn:b<0
 ·have ed:0 - (Nat.gcd t.natAbs b.natAbs:Int)=fE t b:=by simp[fE,hn,Int.gcd]
  have W6:-(Nat.gcd t.natAbs b.natAbs:Int)=fE t b:=by simp[fE,hn,Int.gcd]
  simp[mk_eq,jh,hl,hn,W6,d1,d2]
 ·have ed:(Nat.gcd t.natAbs b.natAbs:Int)=fE t b:=by simp[fE,hn,Int.gcd]
  simp[mk_eq,jh,hl,hn,ed,d1,d2]
def rW(m:aw):Prop:=∀q,m [qD q]=ok (.bl true)
noncomputable def vq:ag:=[.ifs (.or [(.not (.g5 (.v 0) .tuple)),(.cmp .ne (.bf .len [(.v 0)]) (.int 2))]) [.ret (.bl false)] [],.ret (.cmp .eq (.bf .len [(.comp 1 (.nm 0) [] .seq [(.v 0)] [(.or [(.not (.g5 (.v 0) .int)),(.g5 (.v 0) .bool)])] (.v 0))]) (.int 0))]
theorem Kq(Φ:aQ):rW (mk Φ 1 1 vq):=by
 intro q;have hc:bj Φ (.comp 1 (.nm 0) [] .seq [(.v 0)] [(.or [(.not (.g5 (.v 0) .int)),(.g5 (.v 0) .bool)])] (.v 0)) [some (qD q)]=ok (.lst .ow []):=by
  rw[bW (xs:=[qD q]) (items:=[.int q.num,.int q.den]) (ds:=[]) (by simp) (by unfold qD;rw[kE];simp) (by simp[eE,bB,b8]) (by simp)];simp
 have h2:b8 .tuple (qD q)=true:=rfl;have h3:pB .len [qD q]=ok (.int 2):=rfl;simp[mk_eq,vq,hc,h2,h3]
noncomputable def w5(qs:aM)(h:Int):Rat:=qs.getD h.toNat 0
theorem vw{h:Int}(h0:0<=h)(h1:h<qs.length):qs[h.toNat]?=some (w5 qs h)/\w5 qs h∈qs:=by
 have hl:h.toNat<qs.length:=by left
 have e:qs[h.toNat]?=some (w5 qs h):=by
  unfold w5;rw[List.getD_eq_getElem?_getD,List.getElem?_eq_getElem hl];rfl
 exact⟨e,Yk e⟩
theorem CZ(ps qs:aM):dJ (b0 ps) (b0 qs)=decide (ps=qs):=gE Ex ps qs
theorem yE(n:Nat)(f:Fl)(qs:aM):eh (n+2) (.lst f (b0 qs))=true:=kA (Ec n) qs
theorem nc{q:Rat}(h:0<q):0<q.num:=by
 have:=(Rat.lt_iff 0 q).mp h;simpa using this
theorem r9.len{n:Nat}{l:aa}(h:r9 n l):l.length<=n:=by
 have hn:(l.map Int.toNat).Nodup:=by
  unfold List.Nodup;rw[List.pairwise_map];refine h.1.imp_of_mem λha hb z e=>?_;have:=h.2 _ ha;have:=h.2 _ hb;left
 have hs:(l.map Int.toNat) ⊆ List.range n:=λx hx=>by
  obtain⟨y,hy,rfl⟩:=List.mem_map.mp hx;have:=h.2 y hy;rw[List.mem_range];left
 have:=hn.length_le_of_subset hs;simpa using this
theorem r9.fe{n:Nat}{l:aa}(h:r9 n l)(hn:n<=12):mI (.tup (au l)):=by
 have:=h.len;show(au l).length<64;simp;left
abbrev Row:=Rat×aa
abbrev aN:=List Row
def rD(r:Row):D:=.tup [qD r.1,.tup (au r.2)]
@[simp]theorem GB(g:Fl->Fl)(r:Row):aI g (rD r)=rD r:=by unfold rD;simp
@[simp]theorem Hs(g:Fl->Bool)(r:Row):bc g (rD r)=false:=by unfold rD;simp
noncomputable def bY(rs:aN):ab:=rs.map rD
@[simp]theorem BF(rs:aN):(bY rs).length=rs.length:=Zb ..
@[simp]theorem fw(g:Fl->Fl)(rs:aN):az g (bY rs)=bY rs:=di g (GB g) rs
@[simp]theorem zE(g:Fl->Bool)(rs:aN):aR g (bY rs)=false:=cW g (Hs g) rs
theorem zV(a b:aa):dJ (au a) (au b)=decide (a=b):=gE (λx y=>by show(x==y)=_;rfl) a b
theorem ML(r s:Row):jX (rD r) (rD s)=decide (r=s):=by
 unfold rD;show(jX (qD r.1) (qD s.1)&&(dJ (au r.2) (au s.2)&&true))=_;rw[Ex,zV,Bool.and_true];have:decide (r=s)=decide (r.1=s.1/\r.2=s.2):=by
  congr 1;exact propext ⟨λh=>by rw[h];exact⟨rfl,rfl⟩,λh=>Prod.ext h.1 h.2⟩
 rw[this,<- Bool.decide_and]
theorem CY(r s:aN):dJ (bY r) (bY s)=decide (r=s):=gE ML r s
def bD(n:Nat)(rs:aN):D:=.tup [.int n,.lst .fz (bY rs)]
def SD(rs:aN):Prop:=∃W:Nat,0<W/\W<64/\∀r∈rs,r.1.den∣W
def Rw(n:Nat)(l:aa):Prop:=l.Nodup/\l.length<=n/\∀h∈l,0<=h/\h<(n:Int)
theorem r9.rw{n:Nat}{l:aa}(h:r9 n l):Rw n l:=⟨h.nodup,h.len,h.2⟩
structure Dp(P:aa->Prop)(k n:Nat)(rs:aN):Prop where
 n1:1<=n
 n2:n<=12
 tE:k*(rs.length+1)<=66
 fin:k*(rs.length+1)<=60\/SD rs
 len:rs.length<=1000
 jU:∀r∈rs,P r.2
 pos:∀r∈rs,0<r.1
 sm:∀r∈rs,Sm k r.1
 one:(rs.map (·.1)).sum=1
 rise:tY (rs.map (·.2))
abbrev Dr(k n:Nat)(rs:aN):Prop:=Dp (r9 n) k n rs
variable {rs:aN}
theorem Dp.imp{P Q:aa->Prop}{k n:Nat}(I:Dp P k n rs)(h:∀r∈rs,P r.2->Q r.2):Dp Q k n rs:=⟨I.n1,I.n2,I.tE,I.fin,I.len,λr hr=>h r hr (I.jU r hr),I.pos,I.sm,I.one,I.rise⟩
noncomputable def hJ(rs:aN):aM:=rs.map (·.1)
section
variable {P:aa->Prop}{k n:Nat}{rs:aN}(I:Dp P k n rs)
include I
theorem Dp.NC:xk k (hJ rs):=⟨λq hq=>by
 obtain⟨r,hr,rfl⟩:=List.mem_map.mp hq;exact I.sm r hr,by
  have:=I.tE;have h:k*(hJ rs).length<=k*(rs.length+1):=ZP _ (by simp[hJ]);left,by simp[hJ];exact I.len⟩
omit I in
theorem qL{W:Nat}:∀(qs:aM) (b:Nat),b∣W->(∀q∈qs,q.den∣W)->qs.foldl (λb q=>Nat.lcm b q.den) b∣W
 |[],_,h,_=>h
 |q::qs,b,h,hq=>qL qs _ (Nat.lcm_dvd h (hq q X9)) λp hp=>hq p (X_ _ hp)
theorem Dp.top{r:Row}(hr:r∈rs):(e6 (iy (hJ rs)) r.1).natAbs<2 ^ 64:=by
 obtain⟨a,b,c⟩:=I.NC.lcm;have s:=I.sm r hr;unfold e6;rw[Int.natAbs_mul,Int.fdiv_eq_ediv_of_nonneg _ (by left),<- Int.natCast_ediv,Int.natAbs_natCast];have h4:(hJ rs).length=rs.length:=by simp[hJ]
 have h3:=I.tE;rcases I.fin with f|⟨W,w0,w1,w2⟩
 ·have h1:iy (hJ rs) / r.1.den<2 ^ (1+k*(hJ rs).length):=Yo (ZE _ _) b;have h2:=bH s.1 h1;refine Yc h2 (Yq (by decide) ?_);rw[h4];rw[Nat.mul_succ]at f;left
 ·have:iy (hJ rs)∣W:=qL _ 1 (Nat.one_dvd _) λq hq=>by
   obtain⟨r,hr,rfl⟩:=List.mem_map.mp hq;exact w2 r hr
  have h1:iy (hJ rs) / r.1.den<2 ^ 6:=Yo (ZE _ _) (Yo (ZZ w0 this) w1);have h2:=bH s.1 h1;refine Yc h2 (Yq (by decide) ?_);have hl:1<=rs.length:=List.length_pos_of_mem hr;have:k*2<=k*(rs.length+1):=ZP _ (by left);left
end
def l7(m:aw):Prop:=∀(r:Row) (n:Nat),n<=12->Rw n r.2->0<r.1->m [rD r,.int n]=ok (.bl true)
noncomputable def ji:ag:=[.ifs (.or [(.not (.g5 (.v 0) .tuple)),(.cmp .ne (.bf .len [(.v 0)]) (.int 2))]) [.ret (.bl false)] [],.ifs (.not (.call 43 [(.ix (.v 0) (.int 1)),(.v 1)])) [.ret (.bl false)] [],.ret (.and [(.call 3 [(.ix (.v 0) (.int 0))]),(.cmp .gt (.ix (.ix (.v 0) (.int 0)) (.int 0)) (.int 0))])]
theorem Rw.houses{n:Nat}{l:aa}(h:Rw n l):cf (.tup (au l)) n=true:=by
 have h1:(au l).all (bV n)=true:=by
  unfold au;rw[List.all_map,List.all_eq_true];intro x hx;have:=h.2.2 x hx;simp[bV,this.1,this.2]
 have h2:o6 l=l:=by
  have:=o5 l [] (by simp) h.1;rw[List.nil_append]at this;exact this
 simp[cf,h1,eT,h2]
theorem Rw.fe{n:Nat}{l:aa}(h:Rw n l)(hn:n<=12):mI (.tup (au l)):=by
 have:=h.2.1;show(au l).length<64;simp;left
theorem yd(Φ:aQ)(h3:cN (Φ 3))(Ry:fW (Φ 43)):l7 (mk Φ 2 2 ji):=by
 intro r n hn hl hp;have e1:=Ry (.tup (au r.2)) n (hl.fe hn);rw[hl.houses]at e1;have e2:=h3 (qD r.1);rw[o3]at e2;have Q0:=nc hp;have e3:rD r=.tup [qD r.1,.tup (au r.2)]:=rfl;have e4:qD r.1=.tup [.int r.1.num,.int r.1.den]:=rfl;simp[mk_eq,ji,e3,b8,e1,e2];simp[e4,Q0]
theorem BG(nG:Φ 1022=Js){a b:aa}(h:HT.lexLt a b=true):Φ 1022 [.tup (au a),.tup (au b)]=ok (.bl false):=by
 rw[nG];show(match intsOf (au a)with|some ns=>(match intsOf (au b)with|some ms=>ok (D.bl (!HT.lexLt ns ms))|none=>none)|none=>none)=_;unfold au;rw[bL,bL];show ok (D.bl (!HT.lexLt a b))=_;rw[h];rfl
def jZ(m:aw):Prop:=∀(rs:aN),1<=rs.length->tY (rs.map (·.2))->m [.lst .fz (bY rs)]=ok (.bl true)
noncomputable def Bk:ag:=[.ifs (.bq 1022 [(.ix (.v 1) (.int 1)),(.ix (.v 2) (.int 1))]) [.ret (.bl false)] []]
def eY:ag:=[.fr (.tp [1,2]) (.F7 1000 [(.v 0),(.bq 1020 [(.v 0),(.int 1)])]) Bk,.ret (.bl true)]
theorem uk(Φ:aQ)(nG:Φ 1022=Js)(c0:aH):∀(rs:aN) (r:Row) (c1 c2:aH),tY ((r::rs).map (·.2)) ->
  ∃Sk Dw,eN (λd ρ=>cg (.tp [1,2]) d ρ) (λρ=>cj Φ Bk ρ) (List.zipWith (λx y=>D.tup [x,y]) (bY (r::rs)) (bY rs)) [c0,c1,c2]=ok (.nx,[c0,Sk,Dw])
 |[],r,c1,c2,_=>⟨c1,c2,rfl⟩
 |s::rs,r,c1,c2,h=>by
  have h':=List.pairwise_cons.mp h;obtain⟨Sk,Dw,ih⟩:=uk Φ nG c0 rs s (some (rD r)) (some (rD s)) h'.2;have hl:=h'.1 s.2 (by simp);have e:=BG nG hl;refine⟨Sk,Dw,dk (ρ1:=[c0,some (rD r),some (rD s)]) (by simp) (ρ2:=[c0,some (rD r),some (rD s)]) ?_ ih⟩;have e1:∀r:Row,rD r=.tup [qD r.1,.tup (au r.2)]:=λ_=>rfl;simp[Bk,e1,e]
theorem qm(Φ:aQ)(MB:Φ 1000=A4)(lK:Φ 1020=cutD true)(nG:Φ 1022=Js):jZ (mk Φ 1 3 eY):=by
 intro rs h1 hr;obtain⟨r,rs,rfl⟩:∃r iX,rs=r::iX:=by
  cases rs with
  |nil=>simp at h1
  |cons r rs=>exact⟨r,rs,rfl⟩
 obtain⟨c1,c2,e⟩:=uk Φ nG (some (.lst .fz (bY (r::rs)))) rs r none none hr;have e1:Φ 1020 [.lst .fz (bY (r::rs)),.int 1]=ok (.lst .ow (bY rs)):=by
  rw[lK];show(if (0:Int)<=1/\(1:Int)<=((bY (r::rs)).length:Nat)then ok (D.lst .ow (az a_ (lX true (1:Int).toNat (bY (r::rs)))))else none)=_;rw[if_pos ⟨by decide,by simp;left⟩];show ok (D.lst .ow (az a_ (bY rs)))=_;simp
 have e2:Φ 1000 [.lst .fz (bY (r::rs)),.lst .ow (bY rs)]=ok (.lst .ow (List.zipWith (λx y=>D.tup [x,y]) (bY (r::rs)) (bY rs))):=by rw[MB];rfl
 have e3:az aY (List.zipWith (λx y=>D.tup [x,y]) (bY (r::rs)) (bY rs))=List.zipWith (λx y=>D.tup [x,y]) (bY (r::rs)) (bY rs):=by
  have:=eU aY (bY (r::rs)) (bY rs);rw[fw,fw]at this;exact this
 have hit:c_ Φ (.F7 1000 [(.v 0),(.bq 1020 [(.v 0),(.int 1)])]) [some (.lst .fz (bY (r::rs))),none,none]=ok (List.zipWith (λx y=>D.tup [x,y]) (bY (r::rs)) (bY rs),[some (.lst .fz (bY (r::rs))),none,none]):=by
  show bd (cB Φ [(.v 0),(.bq 1020 [(.v 0),(.int 1)])] [some (.lst .fz (bY (r::rs))),none,none]) _=_;have:cB Φ [(.v 0),(.bq 1020 [(.v 0),(.int 1)])] [some (.lst .fz (bY (r::rs))),none,none]=ok [.lst .fz (bY (r::rs)),.lst .ow (bY rs)]:=by simp[e1]
  rw[this,dt,e2,dt];show ok (az aY (List.zipWith (λx y=>D.tup [x,y]) (bY (r::rs)) (bY rs)),if aR bA [D.lst .fz (bY (r::rs)),.lst .ow (bY rs)]then _ else _)=_;rw[e3];simp
 have hf:=gm (Φ:=Φ) (t:=.tp [1,2]) (b:=Bk) hit e;simp[mk_eq,eY,hf]
def lu(rs:aN):ab:=rs.map λr=>.tup (au r.2)
@[simp]theorem lq(g:Fl->Fl)(rs:aN):az g (lu rs)=lu rs:=di g (λr=>by simp) rs
@[simp]theorem Ho(g:Fl->Bool)(rs:aN):aR g (lu rs)=false:=cW g (λr=>by simp) rs
def A7(b:Nat)(rs:aN):ab:=rs.map λr=>.tup [.int (e6 b r.1),.tup (au r.2)]
@[simp]theorem Lf(g:Fl->Fl)(b:Nat)(rs:aN):az g (A7 b rs)=A7 b rs:=di g (λr=>by simp) rs
@[simp]theorem L6(g:Fl->Bool)(b:Nat)(rs:aN):aR g (A7 b rs)=false:=cW g (λr=>by simp) rs
noncomputable def C3:CE:=.comp 2 (.tp [0,1]) [] .seq [(.v 0)] [] (.v 0)
noncomputable def C2:CE:=.comp 2 (.tp [0,1]) [] .seq [(.v 0)] [] (.v 1)
theorem MW(Φ:aQ)(h:rs.length<=1000)(r:aX):bj Φ C3 (some (.lst .fz (bY rs))::r)=ok (.lst .ow (b0 (hJ rs))):=by
 unfold C3;rw[bW (xs:=[.lst .fz (bY rs)]) (items:=bY rs) (ds:=rs.map λr=>qD r.1) (by simp) (by rw[cv];simp) (bM λr hr=>?_) (by simp;exact bZ (by left))]
 ·simp[b0,hJ,bo]
 ·exact⟨[some (qD r.1),some (.tup (au r.2))],by simp[bB,rD],by simp,by simp⟩
theorem Ln(Φ:aQ)(h:rs.length<=1000)(r:aX):bj Φ C2 (some (.lst .fz (bY rs))::r)=ok (.lst .ow (lu rs)):=by
 unfold C2;rw[bW (xs:=[.lst .fz (bY rs)]) (items:=bY rs) (ds:=rs.map λr=>.tup (au r.2)) (by simp) (by rw[cv];simp) (bM λr hr=>?_) (by simp;exact bZ (by left))]
 ·exact Yn (λx=>ok (D.lst .ow x)) (lq fR rs)
 ·exact⟨[some (qD r.1),some (.tup (au r.2))],by simp[bB,rD],by simp,by simp⟩
def n5(m:aw):Prop:=∀(rs:aN) k,xk k (hJ rs)->m [.lst .fz (bY rs)]=ok (.tup [.int (iy (hJ rs)),.lst .ow (A7 (iy (hJ rs)) rs)])
def gX:ag:=[.asg (.nm 1) C3,.asg (.nm 2) C2,.asg (.nm 3) (.call 9 [(.v 1)]),.ret (.tup [(.v 3),(.bq 1040 [(.call 10 [(.v 1),(.v 3)]),(.v 2)])])]
theorem vT(Φ:aQ)(h9:gh (Φ 9))(MC:jY (Φ 10))(Mu:Φ 1040=Lm):n5 (mk Φ 1 4 gX):=by
 intro rs k hs;have hl:rs.length<=1000:=by have:=hs.len;simpa [hJ]using this
 have e1:=MW Φ hl;have e2:=Ln Φ hl;have e3:=λf=>h9 f (hJ rs) k hs;have e4:=λf=>MC f (hJ rs) k (iy (hJ rs)) hs hs.Qj;generalize iy (hJ rs)=b at *;have e5:Φ 1040 [.lst .ow (au ((hJ rs).map (e6 b))),.lst .al (lu rs)]=ok (.lst .ow (A7 b rs)):=by
  rw[Mu];show ok (D.lst .ow (az a_ (List.zipWith pairD (au ((hJ rs).map (e6 b))) (lu rs))))=_;rw[eU,dG,lq];unfold hJ au lu A7;rw[List.map_map,List.map_map,List.zipWith_map,List.zipWith_self];rfl
 simp[mk_eq,gX,Lx Φ C3 _ rfl,Lx Φ C2 _ rfl,e1,e2,e3,e4,e5]
noncomputable def Ih:CE:=.comp 2 (.tp [0,1]) [] .seq [(.ix (.v 1) (.int 1))] [] (.v 0)
def il(m:aw):Prop:=∀(rs:aN) k,xk k (hJ rs)->(hJ rs).sum=1->m [.lst .fz (bY rs)]=ok (.bl true)
def dE:ag:=[.asg (.nm 1) (.call 14 [(.v 0)]),.ret (.cmp .eq (.bf .p_ [Ih]) (.ix (.v 1) (.int 0)))]
theorem xJ{b:Nat}(h:∀q∈qs,q.den∣b)(h1:qs.sum=1):(qs.map (e6 b)).sum=(b:Int):=by
 have:=p7 h;rw[h1,Rat.one_mul,<- Rat.intCast_natCast]at this;exact Rat.intCast_inj.mp this
theorem mv(Φ:aQ)(WT:n5 (Φ 14)):il (mk Φ 1 2 dE):=by
 intro rs k hs h1;have hl:rs.length<=1000:=by have:=hs.len;simpa [hJ]using this
 have e1:=WT rs k hs;have hb:=hs.lcm;have e2:=xJ hb.2.2 h1;generalize iy (hJ rs)=b at *;have e3:∀c0,bj Φ Ih [c0,some (.tup [.int b,.lst .ow (A7 b rs)])]=ok (.lst .ow (au ((hJ rs).map (e6 b)))):=λc0=>by
  unfold Ih;rw[bW (xs:=[.lst .al (A7 b rs)]) (items:=A7 b rs) (ds:=rs.map λr=>.int (e6 b r.1)) (by simp) (by rw[cv];simp) (bM λr hr=>?_) (by simp;exact bZ (by left))]
  ·simp[au,hJ,bo]
  ·exact⟨[some (.int (e6 b r.1)),some (.tup (au r.2))],by simp[bB],by simp,by simp⟩
 have e4:pB .p_ [.lst .ow (au ((hJ rs).map (e6 b)))]=ok (.int b):=by
  show(match intsOf (au ((hJ rs).map (e6 b)))with|some ns=>ok (D.int ns.sum)|none=>none)=_;unfold au;rw[bL];show ok (D.int ((hJ rs).map (e6 b)).sum)=_;rw[e2]
 have e5:dM .eq (.int (b:Int)) (.int (b:Int))=ok (.bl true):=by
  show(if eh 40 (.int (b:Int))&&eh 40 (.int (b:Int))then ok (D.bl ((b:Int)==(b:Int)))else none)=_;simp[eh]
 simp[mk_eq,dE,e1,e3,e4,e5]
noncomputable def km:ag:=[.ifs (.not (.call 12 [(.v 3),(.v 1)])) [.ret (.bl false)] []]
def fV:ag:=[.ifs (.or [(.not (.g5 (.v 0) .tuple)),(.cmp .ne (.bf .len [(.v 0)]) (.int 2))]) [.ret (.bl false)] [],.asg (.nm 1) (.ix (.v 0) (.int 0)),.asg (.nm 2) (.ix (.v 0) (.int 1)),.ifs (.or [(.not (.call 0 [(.v 1)])),(.cmp .lt (.v 1) (.int 1)),(.cmp .gt (.v 1) (.glo "MOST_HOUSES" 12))]) [.ret (.bl false)] [],.ifs (.not (.g5 (.v 2) .list)) [.ret (.bl false)] [],.fr (.nm 3) (.seq (.v 2)) km,.ret (.and [(.call 44 [(.v 2)]),(.call 15 [(.v 2)])])]
def IL(m:aw):Prop:=∀k n rs,Dr k n rs->m [bD n rs]=ok (.bl true)
def EK(m:aw):Prop:=∀k n rs,Dp (Rw n) k n rs->m [bD n rs]=ok (.bl true)
theorem lU(Φ:aQ)(Jr:l7 (Φ 12)){n:Nat}(hn:n<=12)(c0 c2:aH):∀(rs:aN) (c3:aH),(∀r∈rs,Rw n r.2/\0<r.1)->∃M1,eN (λd ρ=>cg (.nm 3) d ρ) (λρ=>cj Φ km ρ) (bY rs) [c0,some (.int n),c2,c3]=ok (.nx,[c0,some (.int n),c2,M1])
 |[],c3,_=>⟨c3,rfl⟩
 |r::rs,c3,h=>by
  obtain⟨M1,ih⟩:=lU Φ Jr hn c0 c2 rs (some (rD r)) λs hs=>h s (X_ _ hs);have h1:=h r X9;have e:=Jr r n hn h1.1 h1.2;refine⟨M1,dk (ρ1:=[c0,some (.int n),c2,some (rD r)]) (by simp) (ρ2:=[c0,some (.int n),c2,some (rD r)]) ?_ ih⟩;simp[km,e]
theorem Dp.some{P:aa->Prop}{k n:Nat}(I:Dp P k n rs):1<=rs.length:=by
 cases rs with
 |nil=>have:=I.one;simp at this
 |cons r rs=>simp
theorem sG(Φ:aQ)(h0:dv (Φ 0))(Jr:l7 (Φ 12))(WS:il (Φ 15))(WQ:jZ (Φ 44)):EK (mk Φ 1 4 fV):=by
 intro k n rs I;have n1:=I.n1;have n2:=I.n2;have e1:=WS rs k I.NC I.one;have e2:=WQ rs I.some I.rise;have e3:Φ 0 [.int (n:Int)]=ok (.bl true):=by rw[h0];rfl
 obtain⟨c3,e4⟩:=lU Φ Jr n2 (some (bD n rs)) (some (.lst .fz (bY rs))) rs none λr hr=>⟨I.jU r hr,I.pos r hr⟩
 have hit:c_ Φ (.seq (.v 2)) [some (bD n rs),some (.int n),some (.lst .fz (bY rs)),none]=ok (bY rs,[some (bD n rs),some (.int n),some (.lst .fz (bY rs)),none]):=by
  rw[Cy (f:=.fz) (ds:=bY rs) (by simp)];simp
 have hf:=gm (Φ:=Φ) (t:=.nm 3) (b:=km) hit e4;have c1:dM .lt (.int (n:Int)) (.int 1)=ok (.bl false):=by
  show ok (D.bl (decide ((n:Int)<1)))=_;rw[decide_eq_false (by left)]
 have c2:dM .gt (.int (n:Int)) (.int 12)=ok (.bl false):=by
  show ok (D.bl (decide ((12:Int)<n)))=_;rw[decide_eq_false (by left)]
 have Vc:∀ds,b8 .tuple (.tup ds)=true:=λ_=>rfl;have Vb:∀f ds,b8 .list (.lst f ds)=true:=λ_ _=>rfl;unfold bD at hf ⊢;simp[mk_eq,fV,Vc,Vb,e3,c1,c2,hf,e2,e1]
noncomputable def Ij:CE:=.comp 2 (.tp [0,1]) [0] .seq [(.ix (.v 0) (.int 1))] [] (.call 11 [(.v 1),(.ix (.v 2) (.int 0))])
def dY:ag:=[.ret (.and [(.call 45 [(.v 0)]),(.bf .all1 [Ij])])]
theorem oo(Φ:aQ)(WU:rX (Φ 11))(Rx:EK (Φ 45)):IL (mk Φ 1 1 dY):=by
 intro k n rs I;have e1:=Rx k n rs (I.imp λ_ _ h=>h.rw);have e2:bj Φ Ij [some (bD n rs)]=ok (.lst .ow (jd (rs.map λ_=>true))):=by
  unfold Ij;rw[bW (xs:=[.lst .fz (bY rs)]) (items:=bY rs) (ds:=rs.map λ_=>.bl true) (by simp[bD]) (by rw[cv];simp) (bM λr hr=>?_) (by simp;exact bZ (by have:=I.len;left))]
  ·simp[jd,bo]
  ·have hl:=I.jU r hr;have e:=WU (.tup (au r.2)) n (hl.fe I.n2);rw[hl.qI]at e;exact⟨[some (qD r.1),some (.tup (au r.2)),some (bD n rs)],by simp[bB,rD,bD],by simp,by simp[bD,e]⟩
 have e3:pB .all1 [.lst .ow (jd (rs.map λ_=>true))]=ok (.bl true):=by
  show(match gf (jd (rs.map λ_=>true))with|some bs=>ok (D.bl (bs.all id))|none=>none)=_;unfold jd;rw[gW];show ok (D.bl ((rs.map λ_=>true).all id))=_;congr 2;simp
 have m1:aI aY (bD n rs)=bD n rs:=by simp[bD]
 have m2:aI a_ (bD n rs)=bD n rs:=by simp[bD]
 simp[mk_eq,dY,m1,m2,e1,e2,e3]
def l8(m:aw):Prop:=∀k n rs,Dr k n rs->m [bD n rs]=ok .bw
noncomputable def cP:ag:=[.ifs (.not (.call 16 [(.v 0)])) [.rs 1] []]
theorem j6(Φ:aQ)(RF:IL (Φ 16)):l8 (mk Φ 1 1 cP):=by
 intro k n rs I;have e1:=RF k n rs I;have m1:aI aY (bD n rs)=bD n rs:=by simp[bD]
 have m2:aI a_ (bD n rs)=bD n rs:=by simp[bD]
 simp[mk_eq,cP,m1,m2,e1]
theorem qf{t b:Int}{k:Nat}(h0:b≠0)(h1:t.natAbs<2 ^ k)(h2:b.natAbs<2 ^ k):Sm k (Rat.divInt t b):=vP h0 h1 h2
theorem fS{t b:Int}(ht:0<t)(hb:0<b):0<Rat.divInt t b:=by
 rw[Rat.divInt_eq_div];have h1:(0:Rat)<(t:Rat):=by
  have:=Zr (a:=0) (b:=t);simpa using this.mpr ht
 have h2:(0:Rat)<(b:Rat):=by
  have:=Zr (a:=0) (b:=b);simpa using this.mpr hb
 rw[Rat.div_def];exact Rat.mul_pos h1 (Rat.inv_pos.mpr h2)
theorem Sm.neg{k:Nat}{q:Rat}(h:Sm k q):Sm k (-q):=⟨by simpa using h.1,h.2⟩
theorem Sm.zero(k:Nat)(h:1<=k):Sm k 0:=by
 have:Sm 1 (0:Rat):=by constructor<;>decide
 exact this.mono h
theorem Sm.sum{k:Nat}:∀{qs:aM},(∀q∈qs,Sm k q)->Sm (1+(k+1)*qs.length) qs.sum
 |[],_=>Sm.zero _ (by simp)
 |q::qs,h=>by
  have h1:=h q X9;have h2:=Sm.sum (qs:=qs) λp hp=>h p (X_ _ hp);rw[List.sum_cons];refine(h1.add h2).mono ?_;rw[List.length_cons,Nat.mul_succ];left
noncomputable def Fn(l:aa)(f:Int->Rat):Rat:=(l.map f).sum
@[simp]theorem J9(f:Int->Rat):Fn [] f=0:=rfl
def VP(ws:aM)(jU:aa)(hs:aM)(t:Rat):Rat:=(t - Fn jU λh=>w5 ws h*w5 hs h) / (Fn jU λh=>w5 ws h*w5 hs h*w5 hs h)
noncomputable def KQ(ws xs:aM):aM:=(ws.zip xs).map λp=>p.1*p.2
structure Gs(j n:Nat)(ws xs:aM):Prop where
 l1:ws.length=n
 l2:xs.length=n
 s1:∀q∈ws,Sm j q
 s2:∀q∈xs,Sm j q
 jj:j<=100
theorem Gs.NC{j n:Nat}{ws xs:aM}(G:Gs j n ws xs)(hn:n<=12):xk (j+j) (KQ ws xs):=by
 have hl:(KQ ws xs).length=n:=by unfold KQ;rw[List.length_map,List.length_zip,G.l1,G.l2,Nat.min_self]
 have hj:=G.jj;refine⟨λq hq=>?_,?_,by left⟩
 ·obtain⟨p,hp,rfl⟩:=List.mem_map.mp hq;have m:=List.of_mem_zip hp;exact(G.s1 _ m.1).mul (G.s2 _ m.2)
 ·rw[hl];have:(j+j)*n<=200*12:=Nat.mul_le_mul (by left) hn;left
theorem Gs.at{j n:Nat}{ws xs:aM}(G:Gs j n ws xs){h:Int}(h0:0<=h)(h1:h<n):w5 (KQ ws xs) h=w5 ws h*w5 xs h:=by
 obtain⟨g1,_⟩:=vw (qs:=ws) h0 (by rw[G.l1];exact h1);obtain⟨g2,_⟩:=vw (qs:=xs) h0 (by rw[G.l2];exact h1);unfold w5 at *;unfold KQ;rw[List.getD_eq_getElem?_getD,List.getElem?_map,List.zip,List.getElem?_zipWith,g1,g2];rfl
theorem sa{p i:Nat}{es:aC}{d d':D}(h1:cB Φ es ρ=ok xs)(h2:aR bA xs=false)(h3:ρ[i]?=some (some d))(h4:Φ p (d::xs)=ok d'):rl Φ (.mut p i es) ρ=ok (.nx,ρ.set i (some d')):=by
 show bd (cB Φ es ρ) (λxs=>sM Φ p i (lB es xs ρ))=_;rw[h1,dt];unfold lB;rw[h2,if_neg Bool.false_ne_true];unfold sM;rw[h3];show bd (Φ p (d::xs)) _=_;rw[h4];rfl
theorem nH(c:aa):∀(cs:av) (ws:aa),cH cs (au ws) c=(cH cs ws c).map D.int
 |[],_=>by cases ‹aa› <;> rfl
 |_::_,[]=>rfl
 |c'::cs,w::ws=>by
  show(if c'=c then some (D.int w)else cH cs (au ws) c)=Option.map D.int (if c'=c then some w else cH cs ws c);by_cases e:c'=c
  ·rw[if_pos e,if_pos e];rfl
  ·rw[if_neg e,if_neg e];exact nH c cs ws
theorem mY(c:aa)(v:Int):∀(cs:av) (ws:aa),setC cs (au ws) c (.int v)=au (setC cs ws c v)
 |[],_=>by cases ‹aa› <;> rfl
 |_::_,[]=>rfl
 |c'::cs,w::ws=>by
  show(if c'=c then D.int v else D.int w)::setC cs (au ws) c (.int v)=D.int (if c'=c then v else w)::au (setC cs ws c v);rw[mY c v cs ws];by_cases e:c'=c
  ·rw[if_pos e,if_pos e]
  ·rw[if_neg e,if_neg e]
theorem se(cs:av)(ws:aa)(c:aa)(v:Int):bE cs (au ws) c (.int v)=au (bE cs ws c v):=by
 unfold bE;by_cases e:c∈cs
 ·rw[if_pos e,if_pos e];exact mY c v cs ws
 ·rw[if_neg e,if_neg e];simp
def cA(cs:av)(ws:aa)(c:aa):Int:=(cH cs ws c).getD 0
theorem lL{α:Type}{c:aa}:∀{cs:av} (ws:List α),c∉cs->cH cs ws c=none
 |[],_,_=>by cases ‹List α› <;> rfl
 |_::_,[],_=>rfl
 |c'::cs,w::ws,h=>by
  show(if c'=c then some w else cH cs ws c)=none;rw[if_neg λe=>h (by rw[e];exact List.mem_cons_self)];exact lL ws λz=>h (X_ _ z)
theorem ja{α:Type}{c:aa}:∀{cs:av} {ws:List α},cs.length=ws.length->c∈cs->∃w,cH cs ws c=some w/\w∈ws
 |[],_,_,h=>nomatch h
 |_::_,[],hl,_=>by simp at hl
 |c'::cs,w::ws,hl,h=>by
  by_cases e:c'=c
  ·exact⟨w,Yv e,X9⟩
  ·have h':c∈cs:=(List.mem_cons.mp h).resolve_left λz=>e z.symm;obtain⟨w',e1,e2⟩:=ja (cs:=cs) (ws:=ws) (by simpa using hl) h';exact⟨w',(Zh e).trans e1,X_ _ e2⟩
theorem ll:∀{cs:av} {ws:aa},cs.Nodup->cs.length=ws.length->cs.map (cA cs ws)=ws
 |[],[],_,_=>rfl
 |[],_::_,_,h=>by simp at h
 |_::_,[],_,h=>by simp at h
 |c::cs,w::ws,hn,hl=>by
  have uK:=List.nodup_cons.mp hn;have ih:=ll (cs:=cs) (ws:=ws) uK.2 (by simpa using hl);rw[List.map_cons];have e1:cA (c::cs) (w::ws) c=w:=by
   show(if c=c then some w else cH cs ws c).getD 0=w;rw[if_pos rfl];rfl
  have e2:cs.map (cA (c::cs) (w::ws))=cs.map (cA cs ws):=Yw λx hx=>by
   show(if c=x then some w else cH cs ws x).getD 0=_;rw[if_neg (show ¬ c=x from λz=>uK.1 (by rw[z];exact hx))];rfl
  rw[e1,e2,ih]
theorem qj{c:aa}{v:Int}:∀{cs:av} {ws:aa},cs.Nodup->cs.length=ws.length->c∈cs->(setC cs ws c v).sum=ws.sum - cA cs ws c+v/\(setC cs ws c v).length=ws.length
 |[],_,_,_,h=>nomatch h
 |_::_,[],_,h,_=>by simp at h
 |c'::cs,w::ws,hn,hl,h=>by
  have uK:=List.nodup_cons.mp hn;have pP:cs.length=ws.length:=by simpa using hl
  have es:setC (c'::cs) (w::ws) c v=(if c'=c then v else w)::setC cs ws c v:=rfl;by_cases e:c'=c
  ·have LK:∀{cs:av} {ws:aa},cs.length=ws.length->c∉cs->setC cs ws c v=ws:=λ{cs}=>by
    induction cs with
    |nil=>intro ws hl _;cases ws with|nil=>rfl|cons _ _=>simp at hl
    |cons d cs ih =>
     intro ws hl hc;cases ws with
     |nil=>simp at hl
     |cons w ws =>
      show(if d=c then v else w)::setC cs ws c v=_;rw[if_neg λz=>hc (by rw[z];exact List.mem_cons_self),ih (by simpa using hl) λz=>hc (List.mem_cons_of_mem _ z)]
   have WA:c∉cs:=e▸uK.1;rw[es,if_pos e,LK pP WA];have eg:cA (c'::cs) (w::ws) c=w:=by
    show(if c'=c then some w else cH cs ws c).getD 0=w;rw[if_pos e];rfl
   rw[eg];refine⟨?_,rfl⟩;rw[List.sum_cons,List.sum_cons];left
  ·have h':c∈cs:=(List.mem_cons.mp h).resolve_left λz=>e z.symm;obtain⟨i1,i2⟩:=qj (v:=v) uK.2 pP h';have eg:cA (c'::cs) (w::ws) c=cA cs ws c:=by
    show(if c'=c then some w else cH cs ws c).getD 0=_;rw[if_neg e];rfl
   rw[es,if_neg e,eg];refine⟨?_,by rw[List.length_cons,List.length_cons,i2]⟩;rw[List.sum_cons,List.sum_cons,i1];left
theorem k_{c:aa}{v:Int}:∀{cs:av} {ws:aa} {x:Int},x∈setC cs ws c v->x∈ws\/x=v
 |[],_,_,h=>by cases ‹aa› <;> exact nomatch h
 |_::_,[],_,h=>nomatch h
 |c'::cs,w::ws,x,h=>by
  have h:x∈(if c'=c then v else w)::setC cs ws c v:=h;rcases List.mem_cons.mp h with e|h
  ·by_cases q:c'=c
   ·rw[if_pos q]at e;exact .inr e
   ·rw[if_neg q]at e;rw[e];exact .inl X9
  ·rcases k_ h with h|h
   ·exact .inl (X_ _ h)
   ·exact .inr h
structure Tab(P:aa->Prop)(j:Nat)(cs:av)(ws:aa):Prop where
 nd:cs.Nodup
 ln:cs.length=ws.length
 tE:cs.length<=j
 jU:∀c∈cs,P c
 pos:∀w∈ws,1<=w
 sum:ws.sum<=7*j
 ne:1<=j->cs≠[]
variable {cs ks:av}
theorem Tab.get{n:aa->Prop}{j:Nat}(T:Tab n j cs ws)(c:aa):0<=cA cs ws c:=by
 by_cases h:c∈cs
 ·obtain⟨w,e,m⟩:=ja T.ln h;unfold cA;rw[e];have:=T.pos w m;show 0<=w;left
 ·unfold cA;rw[lL ws h];exact Int.le_refl _
theorem Tab.put{n:aa->Prop}{j:Nat}(T:Tab n j cs ws){c:aa}(hc:n c){i:Int}(h1:1<=i)(h7:i<=7):Tab n (j+1) (bx cs c) (bE cs ws c (cA cs ws c+i)):=by
 have hg:=T.get c;have hf:=T.tE;have hs:=T.sum;by_cases h:c∈cs
 ·obtain⟨s1,s2⟩:=qj (v:=cA cs ws c+i) T.nd T.ln h;unfold bx bE;rw[if_pos h,if_pos h];refine⟨T.nd,by rw[s2];exact T.ln,by left,T.jU,λw hw=>?_,by rw[s1];left,λ_ z=>by rw[z]at h;cases h⟩;rcases k_ hw with hw|rfl
  ·exact T.pos w hw
  ·left
 ·have hz:cA cs ws c=0:=by unfold cA;rw[lL ws h];rfl
  unfold bx bE;rw[if_neg h,if_neg h,hz];refine⟨?_,by rw[List.length_append,List.length_append,T.ln];rfl,by rw[List.length_append,List.length_singleton];left,λd hd=>?_,λw hw=>?_,by rw[List.sum_append];simp;left,λ_ z=>by simp at z⟩
  ·refine List.nodup_append.mpr ⟨T.nd,List.nodup_cons.mpr ⟨Zt,YX⟩,λa ha b hb e=>?_⟩;rw[List.mem_singleton.mp hb]at e;exact h (e▸ha)
  ·rcases List.mem_append.mp hd with hd|hd
   ·exact T.jU d hd
   ·rw[List.mem_singleton.mp hd];exact hc
  ·rcases List.mem_append.mp hw with hw|hw
   ·exact T.pos w hw
   ·rw[List.mem_singleton.mp hw];left
def e9(cs:av)(ws:aa):aN:=(bF cs).map λc=>(Rat.divInt (cA cs ws c) ws.sum,c)
theorem Tab.Ci{n:aa->Prop}{j:Nat}(T:Tab n j cs ws):∀w∈ws,w<=ws.sum:=λw hw=>by
 have:∀l:aa,(∀x∈l,1<=x)->0<=l.sum/\∀x∈l,x<=l.sum:=λl=>by
  induction l with
  |nil=>intro _;exact⟨Int.le_refl _,λ_ h=>nomatch h⟩
  |cons a l ih =>
   intro h;obtain⟨i1,i2⟩:=ih λx hx=>h x (X_ _ hx);have ha:=h a X9;rw[List.sum_cons];refine⟨by left,λx hx=>?_⟩;rcases List.mem_cons.mp hx with rfl|hx
   ·left
   ·have:=i2 x hx;left
 exact(this ws T.pos).2 w hw
theorem oi(W:Int)(hW:W≠0):∀ls:aa,(ls.map λx=>Rat.divInt x W).sum=Rat.divInt ls.sum W
 |[]=>by simp
 |x::ls=>by
  rw[List.map_cons,List.sum_cons,oi W hW ls,List.sum_cons,Rat.divInt_eq_div,Rat.divInt_eq_div,Rat.divInt_eq_div,Rat.intCast_add];grind
theorem qy{a b:aM}(h:a.Perm b):a.sum=b.sum:=by
 induction h with
 |nil=>rfl
 |cons x _ ih=>rw[List.sum_cons,List.sum_cons,ih]
 |swap x y l=>rw[List.sum_cons,List.sum_cons,List.sum_cons,List.sum_cons];grind
 |trans _ _ i1 i2=>rw[i1,i2]
theorem Tab.dr{P:aa->Prop}{n j:Nat}(T:Tab P j cs ws)(h1:1<=j)(h6:j<=8)(n1:1<=n)(n2:n<=12):Dp P 6 n (e9 cs ws):=by
 have hp:(bF cs).Perm cs:=YQ _ _;have hl:(e9 cs ws).length=cs.length:=by unfold e9;rw[List.length_map];exact hp.length_eq
 have hf:=T.tE;have hs:=T.sum;have val:∀c∈bF cs,1<=cA cs ws c/\cA cs ws c<=ws.sum:=λc hc=>by
  obtain⟨w,e,m⟩:=ja T.ln (hp.mem_iff.mp hc);unfold cA;rw[e];exact⟨T.pos w m,T.Ci w m⟩
 have hW:1<=ws.sum:=by
  obtain⟨c,hc⟩:=Zc cs (T.ne h1);have:=val c (hp.mem_iff.mpr hc);left
 refine⟨n1,n2,by rw[hl];left,.inl (by rw[hl];left),by rw[hl];left,λr hr=>?_,λr hr=>?_,λr hr=>?_,?_,?_⟩
 ·obtain⟨c,hc,rfl⟩:=List.mem_map.mp hr;exact T.jU c (hp.mem_iff.mp hc)
 ·obtain⟨c,hc,rfl⟩:=List.mem_map.mp hr;exact fS (by have:=val c hc;left) (by left)
 ·obtain⟨c,hc,rfl⟩:=List.mem_map.mp hr;have:=val c hc;exact qf (by left) (by show _<64;left) (by show _<64;left)
 ·have e:(e9 cs ws).map (·.1)=(bF cs).map λc=>Rat.divInt (cA cs ws c) ws.sum:=by
   unfold e9;rw[List.map_map];rfl
  rw[e];have e2:((bF cs).map λc=>Rat.divInt (cA cs ws c) ws.sum).sum=(cs.map λc=>Rat.divInt (cA cs ws c) ws.sum).sum:=qy (hp.map _);have e3:(cs.map λc=>Rat.divInt (cA cs ws c) ws.sum)=(cs.map (cA cs ws)).map λx=>Rat.divInt x ws.sum:=by rw[List.map_map];rfl
  rw[e2,e3,ll T.nd T.ln,oi _ (by left),Rat.divInt_eq_div];have z:((ws.sum:Int):Rat)≠0:=λz=>by rw[Rat.intCast_eq_zero_iff]at z;left
  grind
 ·have e:(e9 cs ws).map (·.2)=bF cs:=by
   unfold e9;rw[List.map_map];exact(Yw λ_ _=>rfl).trans (List.map_id _)
  rw[e];exact iq T.nd
structure IH(most:Nat)(qs:aM)(B:Nat):Prop where
 n1:1<=qs.length
 n2:qs.length<=most
 b1:1<=B
 b2:B<=9
 q0:∀q∈qs,0<=q
 q1:∀q∈qs,q<=1
 qd:∀q∈qs,q.den∣B
 su:∃s:Int,qs.sum=(s:Rat)
theorem IH.le{m k:Nat}(h:IH m qs B)(hk:m<=k):IH k qs B:=⟨h.n1,Yi h.n2 hk,h.b1,h.b2,h.q0,h.q1,h.qd,h.su⟩
theorem Gr{q:Rat}(h:q<=1):q.num<=(q.den:Int):=by
 have h':(q.num:Rat)<=(q.den:Rat):=by
  rw[uo];have h2:(0:Rat)<=(q.den:Rat):=by exact_mod_cast Yy _
  have:=Rat.mul_le_mul_of_nonneg_right h h2
  rwa [Rat.one_mul]at this
 exact_mod_cast h'
theorem K4{q:Rat}(h:0<=q):0<=q.num:=Rat.num_nonneg.mpr h
theorem IH.sm{m:Nat}(h:IH m qs B){q:Rat}(hq:q∈qs):Sm 4 q:=by
 have h1:=Gr (h.q1 q hq);have h2:=K4 (h.q0 q hq);have h3:=ZZ (by have:=h.b1;left) (h.qd q hq);have:=h.b2;constructor<;>simp<;>left
theorem IH.NC{m:Nat}(h:IH m qs B)(hm:m<=12):xk 4 qs:=⟨λ_ hq=>h.sm hq,by have:=h.n2;left,by have:=h.n2;left⟩
noncomputable def n_(W x:Int):Bool:=decide (0<x)&&decide (x<W)
def pZ(W:Int):Int->aa->aa
 |_,[]=>[]
 |j,x::xs=>if n_ W x then j::pZ W (j+1) xs else pZ W (j+1) xs
noncomputable def y2(W:Int):Int->aa->aa
 |_,[]=>[]
 |j,x::xs=>if x=W then j::y2 W (j+1) xs else y2 W (j+1) xs
def vals(W:Int)(p:aa):aa:=p.filter (n_ W)
variable {W:Int}
theorem gM{x:Int}:n_ W x=true ↔ 0<x/\x<W:=by simp[n_]
theorem kj{W:Int}:∀{p:aa} {j:Int},vals W p=[]->pZ W j p=[]
 |[],_,_=>rfl
 |x::p,j,h=>by
  unfold vals at h;by_cases hx:n_ W x=true
  ·rw[List.filter_cons_of_pos hx]at h;cases h
  ·rw[List.filter_cons_of_neg hx]at h;rw[pZ,if_neg hx];exact kj h
theorem oe{W:Int}:∀{p q:aa} {j:Int},pZ W j (p++q)=pZ W j p++pZ W (j+p.length) q
 |[],q,j=>by simp[pZ]
 |x::p,q,j=>by
  have e:j+1+(p.length:Int)=j+((x::p).length:Int):=by simp;left
  rw[List.cons_append,pZ,pZ,oe (p:=p),e];split<;>simp
theorem kU(p q:aa):vals W (p++q)=vals W p++vals W q:=List.filter_append ..
theorem d7(x:Int)(p:aa):vals W (x::p)=if n_ W x then x::vals W p else vals W p:=List.filter_cons ..
theorem split1{W:Int}:∀p:aa,vals W p=[]\/∃A a C,p=A++a::C/\vals W A=[]/\n_ W a=true
 |[]=>.inl rfl
 |x::p=>by
  by_cases hx:n_ W x=true
  ·exact .inr ⟨[],x,p,rfl,rfl,hx⟩
  ·rcases split1 p with h|⟨A,a,C,rfl,h1,h2⟩
   ·exact .inl (by rw[d7,if_neg hx,h])
   ·exact .inr ⟨x::A,a,C,rfl,by rw[d7,if_neg hx,h1],h2⟩
structure pN(n:Nat)(W:Int)(p:aa):Prop where
 len:p.length=n
 lo:∀x∈p,0<=x
 hi:∀x∈p,x<=W
 su:∃s:Int,p.sum=s*W
structure Tw(W:Int)(p A:aa)(a:Int)(B:aa)(b:Int)(C:aa):Prop where
 eq:p=A++a::(B++b::C)
 vA:vals W A=[]
 vB:vals W B=[]
 ua:n_ W a=true
 ub:n_ W b=true
theorem gu{W:Int}:∀{A:aa},vals W A=[]->(∀x∈A,0<=x)->(∀x∈A,x<=W)->∃k:Int,A.sum=k*W
 |[],_,_,_=>⟨0,by simp⟩
 |x::A,h,l,u=>by
  rw[d7]at h;split at h
  ·cases h
  ·rename_i hx;obtain⟨k,hk⟩:=gu h (λy hy=>l y (X_ _ hy)) λy hy=>u y (X_ _ hy);have l0:=l x X9;have u0:=u x X9;have AR:¬ (0<x/\x<W):=λz=>hx (gM.mpr z);rw[List.sum_cons,hk];by_cases e:x=0
   ·exact⟨k,by left⟩
   ·exact⟨k+1,by rw[Int.add_mul];left⟩
theorem B7{a m:Int}(h0:0<a)(h1:a<W)(h:a=m*W):False:=by
 by_cases hm:m<=0
 ·have:=Int.mul_le_mul_of_nonneg_right hm (show 0<=W by left);left
 ·have:=Int.mul_le_mul_of_nonneg_right (show 1<=m by left) (show 0<=W by left);left
theorem pN.two{n:Nat}{p:aa}(I:pN n W p)(h:vals W p≠[]):∃A a B b C,Tw W p A a B b C:=by
 rcases split1 (W:=W) p with e|⟨A,a,C,rfl,h1,h2⟩
 ·exact absurd e h
 ·rcases split1 (W:=W) C with e|⟨B,b,C',rfl,h3,h4⟩
  ·obtain⟨s,hs⟩:=I.su;obtain⟨k1,e1⟩:=gu h1 (λx hx=>I.lo x (by simp[hx])) λx hx=>I.hi x (by simp[hx]);obtain⟨k2,e2⟩:=gu e (λx hx=>I.lo x (by simp[hx])) λx hx=>I.hi x (by simp[hx]);rw[List.sum_append,List.sum_cons,e1,e2]at hs;obtain⟨u1,u2⟩:=gM.mp h2;exact(B7 u1 u2 (m:=s - k1 - k2) (by rw[Int.sub_mul,Int.sub_mul];left)).elim
  ·exact⟨A,a,B,b,C',rfl,h1,h3,h2,h4⟩
noncomputable def gi(W a b:Int):Rat:=if a+b<=W then Rat.divInt a (a+b)else Rat.divInt (W - b) (2*W - a - b)
noncomputable def kb(W a b:Int):Int:=if W<a+b then W else a+b
def kB(W a b:Int):Int:=a+b - kb W a b
def yG(W:Int)(p:aa):Option (Rat×aa×aa):=match pZ W 0 p with
 |i::j::_=>some (gi W (p.getD i.toNat 0) (p.getD j.toNat 0),(p.set i.toNat (kb W (p.getD i.toNat 0) (p.getD j.toNat 0))).set j.toNat (kB W (p.getD i.toNat 0) (p.getD j.toNat 0)),(p.set j.toNat (kb W (p.getD i.toNat 0) (p.getD j.toNat 0))).set i.toNat (kB W (p.getD i.toNat 0) (p.getD j.toNat 0)))
 |_=>none
section
variable {W a b:Int}{p A B C:aa}(T:Tw W p A a B b C)
include T
theorem Tw.pZ:pZ W 0 p=(A.length:Int)::((A.length+1+B.length:Nat):Int)::pZ W ((A.length+1+B.length:Nat)+1) C:=by
 rw[T.eq,oe,kj T.vA,List.nil_append,DI.pZ,if_pos T.ua,oe,kj T.vB,List.nil_append,DI.pZ,if_pos T.ub];have e:(0:Int)+(A.length:Int)+1+(B.length:Int)=((A.length+1+B.length:Nat):Int):=by push_cast;left
 rw[e,Int.zero_add]
theorem Tw.vals:vals W p=a::b::vals W C:=by
 rw[T.eq,kU,T.vA,List.nil_append,d7,if_pos T.ua,kU,T.vB,List.nil_append,d7,if_pos T.ub]
theorem Tw.Xm:p.getD A.length 0=a:=by rw[T.eq];simp
theorem Tw.at2:p.getD (A.length+1+B.length) 0=b:=by
 rw[T.eq];have:A++a::(B++b::C)=(A++a::B)++b::C:=by simp
 rw[this,show A.length+1+B.length=(A++a::B).length by simp;left];simp
theorem Tw.Pk(x:Int):p.set A.length x=A++x::(B++b::C):=by rw[T.eq];simp[List.set_append]
theorem Tw.Pj(x:Int):p.set (A.length+1+B.length) x=A++a::(B++x::C):=by
 rw[T.eq];have:∀y,A++a::(B++y::C)=(A++a::B)++y::C:=by simp
 rw[this,this,show A.length+1+B.length=(A++a::B).length by simp;left];simp[List.set_append]
omit T in
theorem Ki(A:aa)(a:Int)(B:aa)(b:Int)(C:aa)(x:Int):(A++a::(B++b::C)).set (A.length+1+B.length) x=A++a::(B++x::C):=by
 have:∀y,A++a::(B++y::C)=(A++a::B)++y::C:=by simp
 rw[this,this,show A.length+1+B.length=(A++a::B).length by simp;left];simp[List.set_append]
theorem Tw.yG:yG W p=some (gi W a b,A++kb W a b::(B++kB W a b::C),A++kB W a b::(B++kb W a b::C)):=by
 unfold DI.yG;rw[T.pZ];dsimp only;rw[Int.toNat_natCast,Int.toNat_natCast,T.Xm,T.at2,T.Pk,T.Pj,Ki];have:(A++a::(B++kb W a b::C)).set A.length (kB W a b)=A++kB W a b::(B++kb W a b::C):=by simp[List.set_append]
 rw[this]
theorem Tw.pq:0<a/\a<W/\0<b/\b<W:=⟨(gM.mp T.ua).1,(gM.mp T.ua).2,(gM.mp T.ub).1,(gM.mp T.ub).2⟩
theorem Tw.hl:0<=kb W a b/\kb W a b<=W/\0<=kB W a b/\kB W a b<=W/\kb W a b+kB W a b=a+b/\(n_ W (kb W a b)=false\/n_ W (kB W a b)=false):=by
 obtain⟨h1,h2,h3,h4⟩:=T.pq;unfold kB kb n_;split<;>refine⟨by left,by left,by left,by left,by left,?_⟩
 ·exact .inl (by simp)
 ·right;simp
end
def nv(W:Int):aa->aa
 |a::b::r=>(if n_ W (kb W a b)then[kb W a b]else if n_ W (kB W a b)then[kB W a b]else[])++r
 |_=>[]
theorem yH(W a b:Int)(r:aa):(nv W (a::b::r)).length<=r.length+1:=by
 show((if n_ W (kb W a b)then[kb W a b]else if n_ W (kB W a b)then[kB W a b]else[])++r).length<=_;rw[List.length_append];split
 ·simp;left
 ·split<;>simp;left
section
variable {n:Nat}{W a b:Int}{p A B C:aa}(I:pN n W p)(T:Tw W p A a B b C)
include I T
theorem Tw.Tc{x y:Int}(hx:0<=x/\x<=W)(hy:0<=y/\y<=W)(hs:x+y=a+b):pN n W (A++x::(B++y::C)):=by
 have hl:=I.len;have lo:=I.lo;have hi:=I.hi;obtain⟨s,Ep⟩:=I.su;rw[T.eq]at hl lo hi Ep;refine⟨by rw[<- hl];simp,λz hz=>?_,λz hz=>?_,s,by rw[<- Ep];simp;left⟩
 ·simp only[List.mem_append,List.mem_cons]at hz;rcases hz with hz|rfl|hz|rfl|hz
  ·exact lo z (by simp[hz])
  ·exact hx.1
  ·exact lo z (by simp[hz])
  ·exact hy.1
  ·exact lo z (by simp[hz])
 ·simp only[List.mem_append,List.mem_cons]at hz;rcases hz with hz|rfl|hz|rfl|hz
  ·exact hi z (by simp[hz])
  ·exact hx.2
  ·exact hi z (by simp[hz])
  ·exact hy.2
  ·exact hi z (by simp[hz])
theorem Tw.EU:pN n W (A++kb W a b::(B++kB W a b::C)):=by
 obtain⟨h1,h2,h3,h4,h5,_⟩:=T.hl;exact T.Tc I ⟨h1,h2⟩ ⟨h3,h4⟩ h5
theorem Tw.GJ:pN n W (A++kB W a b::(B++kb W a b::C)):=by
 obtain⟨h1,h2,h3,h4,h5,_⟩:=T.hl;exact T.Tc I ⟨h3,h4⟩ ⟨h1,h2⟩ (by left)
omit I in
theorem Tw.EW:DI.vals W (A++kb W a b::(B++kB W a b::C))=nv W (DI.vals W p)/\DI.vals W (A++kB W a b::(B++kb W a b::C))=nv W (DI.vals W p):=by
 obtain⟨_,_,_,_,_,h⟩:=T.hl;rw[T.vals];simp only[kU,d7,T.vA,T.vB,List.nil_append,nv];rcases h with h|h
 ·cases z:n_ W (kB W a b)<;>simp[h]
 ·cases z:n_ W (kb W a b)<;>simp[h]
end
theorem lV{t b:Int}(hb:0<b)(h:t<b):Rat.divInt t b<1:=by
 have Uq:(0:Rat)<(b:Rat):=by have:=Zr (a:=0) (b:=b);simpa using this.mpr hb
 have h1:(t:Rat)<(b:Rat):=Rat.intCast_lt_intCast.mpr h;rw[Rat.divInt_eq_div,Rat.div_def];have:=Rat.mul_lt_mul_of_pos_right h1 (Rat.inv_pos.mpr Uq)
 rwa [Rat.mul_inv_cancel _ (Rat.ne_of_gt Uq)]at this
theorem IA{a b:Int}(h1:0<a)(h2:a<W)(h3:0<b)(h4:b<W)(hW:W<=9):0<gi W a b/\gi W a b<1/\Sm 5 (gi W a b):=by
 unfold gi;split
 ·exact⟨fS h1 (by left),lV (by left) (by left),qf (by left) (by show _<32;left) (by show _<32;left)⟩
 ·exact⟨fS (by left) (by left),lV (by left) (by left),qf (by left) (by show _<32;left) (by show _<32;left)⟩
noncomputable def ind(x y:aa):Rat:=if x=y then 1 else 0
def Pr(W:Int):Nat->aa->aa->Rat
 |0,p,l=>ind (y2 W 0 p) l
 |n+1,p,l=>match yG W p with
  |none=>ind (y2 W 0 p) l
  |some z=>z.1*Pr W n z.2.1 l+(1 - z.1)*Pr W n z.2.2 l
theorem yF{p:aa}(h:vals W p=[]):yG W p=none:=by unfold yG;rw[kj h]
theorem pO{p:aa}(h:vals W p=[])(k:Nat)(l:aa):Pr W k p l=ind (y2 W 0 p) l:=by
 cases k with
 |zero=>rfl
 |succ k=>rw[Pr,yF h]
theorem kM{n:Nat}{W:Int}(l:aa):∀(k:Nat) (p:aa),pN n W p->(vals W p).length<=k->Pr W k p l=Pr W (k+1) p l
 |0,p,I,h=>by
  have:vals W p=[]:=List.length_eq_zero_iff.mp (by left);rw[pO this,pO this]
 |k+1,p,I,h=>by
  by_cases e:vals W p=[]
  ·rw[pO e,pO e]
  ·obtain⟨A,a,B,b,C,T⟩:=I.two e;obtain⟨v1,v2⟩:=T.EW;have hv:=T.vals;have hn:=yH W a b (vals W C);rw[hv]at h v1 v2;simp only[List.length_cons]at h;rw[Pr,Pr,T.yG];dsimp only;rw[kM l k _ (T.EU I) (by rw[v1];left),kM l k _ (T.GJ I) (by rw[v2];left)]
theorem DS{n:Nat}(l:aa){k:Nat}{p A B C:aa}{a b:Int}(I:pN n W p)(T:Tw W p A a B b C)(h:(vals W p).length<=k):
  Pr W k p l=gi W a b*Pr W k (A++kb W a b::(B++kB W a b::C)) l+(1 - gi W a b)*Pr W k (A++kB W a b::(B++kb W a b::C)) l:=by
 obtain⟨v1,v2⟩:=T.EW;have hv:=T.vals;have hn:=yH W a b (vals W C);rw[hv]at h v1 v2;simp only[List.length_cons]at h;obtain⟨k,rfl⟩:∃j,k=j+1:=⟨k - 1,by left⟩
 rw[Pr,T.yG];dsimp only;rw[kM l k _ (T.EU I) (by rw[v1];left),kM l k _ (T.GJ I) (by rw[v2];left)]
theorem Qg(n:Nat)(t:Nat->Bool):r9 n (((List.range n).filter t).map λ(k:Nat)=>(k:Int)):=by
 refine⟨?_,λh hh=>?_⟩
 ·rw[List.pairwise_map];refine(List.Pairwise.filter _ List.pairwise_lt_range).imp λz=>?_;left
 ·obtain⟨k,hk,rfl⟩:=List.mem_map.mp hh;have:=List.mem_range.mp (List.mem_filter.mp hk).1;left
theorem gS{c k:aa}:k∈bx ks c ↔ k∈ks\/k=c:=by
 unfold bx;split
 ·rename_i h;exact⟨.inl,λz=>z.elim id λe=>e▸h⟩
 ·simp
theorem y9(h:ks.Nodup)(c:aa):(bx ks c).Nodup:=by
 unfold bx;split
 ·exact h
 ·rename_i hc;rw[List.nodup_append];exact⟨h,by simp,λa ha b hb=>by rw[List.mem_singleton.mp hb];exact λz=>hc (z▸ha)⟩
theorem nA(ks:av)(c:aa):(bx ks c).length<=ks.length+1:=by
 unfold bx;split<;>simp
noncomputable def j9(ks:av)(w F:aa->Rat):Rat:=(ks.map λk=>w k*F k).sum
noncomputable def gG{α:Type}[Add α](w:aa->α)(c:aa)(x:α):aa->α:=λk=>if k=c then w k+x else w k
theorem Bq(a b:aM):(a++b).sum=a.sum+b.sum:=by
 induction a with
 |nil=>simp;grind
 |cons x a ih=>rw[List.cons_append,List.sum_cons,List.sum_cons,ih];grind
theorem ux(c:aa)(x:Rat)(w F:aa->Rat):∀ks:av,ks.Nodup->c∈ks->j9 ks (gG w c x) F=j9 ks w F+x*F c
 |[],_,h=>nomatch h
 |k::ks,hn,h=>by
  obtain⟨h1,h2⟩:=List.nodup_cons.mp hn;unfold j9 at *;rw[List.map_cons,List.map_cons,List.sum_cons,List.sum_cons];by_cases e:k=c
  ·have:(ks.map λk=>gG w c x k*F k)=ks.map λk=>w k*F k:=Yw λj hj=>by
    unfold gG;rw[if_neg λz=>h1 (by rw[e,<- z];exact hj)]
   rw[this];unfold gG;rw[if_pos e,e];grind
  ·have ih:=ux c x w F ks h2 ((List.mem_cons.mp h).resolve_left λz=>e z.symm);unfold j9 at ih;rw[ih];unfold gG;rw[if_neg e];grind
theorem qH{c:aa}{x:Rat}{w:aa->Rat}(F:aa->Rat)(hn:ks.Nodup)(h0:c∉ks->w c=0):j9 (bx ks c) (gG w c x) F=j9 ks w F+x*F c:=by
 unfold bx;split
 ·rename_i h;exact ux c x w F ks hn h
 ·rename_i h;unfold j9;rw[List.map_append,Bq];have:(ks.map λk=>gG w c x k*F k)=ks.map λk=>w k*F k:=Yw λj hj=>by
   unfold gG;rw[if_neg λz=>h (by rw[<- z];exact hj)]
  rw[this];simp only[List.map_cons,List.map_nil,List.sum_cons,List.sum_nil,gG,if_pos,h0 h];grind
structure Tb{α:Type}(z:α)(pos:α->Prop)(ks:av)(w:aa->α):Prop where
 nd:ks.Nodup
 out:∀k,k∉ks->w k=z
 CB:∀k∈ks,pos (w k)
theorem Tb.add{α:Type}[Add α]{z:α}{pos:α->Prop}{w:aa->α}(T:Tb z pos ks w){x:α}(hx:pos (z+x))(hp:∀a,pos a->pos (a+x))(c:aa):Tb z pos (bx ks c) (gG w c x):=by
 refine⟨y9 T.nd c,λk hk=>?_,λk hk=>?_⟩
 ·have h:¬ (k∈ks\/k=c):=λz=>hk (gS.mpr z);unfold gG;rw[if_neg λz=>h (.inr z)];exact T.out k λz=>h (.inl z)
 ·unfold gG;by_cases e:k=c
  ·rw[if_pos e];by_cases hc:k∈ks
   ·exact hp _ (T.CB k hc)
   ·rw[T.out k hc];exact hx
  ·rw[if_neg e];exact T.CB k ((gS.mp hk).resolve_right e)
noncomputable def cq(w:aa->Int):aa->Rat:=λk=>(w k:Rat)
theorem Ag(w:aa->Int)(c:aa)(x:Int):cq (gG w c x)=gG (cq w) c (x:Rat):=by
 funext k;unfold cq gG;split
 ·rw[Rat.intCast_add]
 ·rfl
def kQ(W:Int)(p:aa):aa:=match yG W p with|some z=>z.2.1|none=>[]
def i0(W:Int)(p:aa):aa:=match yG W p with|some z=>z.2.2|none=>[]
def po(W cn cd:Int)(w0:aa->Int):av->av->(aa->Int)->av×(aa->Int)
 |[],ks,w=>(ks,w)
 |p::ps,ks,w=>po W cn cd w0 ps (bx (bx ks (kQ W p)) (i0 W p)) (gG (gG w (kQ W p) (w0 p*cn)) (i0 W p) (w0 p*(cd - cn)))
structure Wy(n:Nat)(W:Int)(v:aa)(ks:av)(w:aa->Int):Prop where
 tb:Tb (0:Int) (λx=>1<=x) ks w
 ok:∀p∈ks,pN n W p
 vs:∀p∈ks,vals W p=v
theorem uq(W cn cd:Int)(w0:aa->Int)(F:aa->Rat):∀(ps ks:av) (w:aa->Int),Tb (0:Int) (λx=>1<=x) ks w->(∀p∈ps,1<=w0 p)->1<=cn->cn<cd ->
  Tb (0:Int) (λx=>1<=x) (po W cn cd w0 ps ks w).1 (po W cn cd w0 ps ks w).2/\(∀k,k∈(po W cn cd w0 ps ks w).1 ↔ k∈ks\/∃p∈ps,k=kQ W p\/k=i0 W p)/\(po W cn cd w0 ps ks w).1.length<=ks.length+2*ps.length /\
  j9 (po W cn cd w0 ps ks w).1 (cq (po W cn cd w0 ps ks w).2) F=j9 ks (cq w) F+(ps.map λp=>(w0 p:Rat)*((cn:Rat)*F (kQ W p)+((cd - cn:Int):Rat)*F (i0 W p))).sum
 |[],ks,w,T,_,_,_=>by
  refine⟨T,λk=>?_,by simp[po],?_⟩
  ·simp[po]
  ·simp[po];grind
 |p::ps,ks,w,T,h0,h1,h2=>by
  have hp:=h0 p X9;have a1:1<=w0 p*cn:=by have:=Int.mul_le_mul hp h1 (by decide) (by left);left
  have a2:1<=w0 p*(cd - cn):=by have:=Int.mul_le_mul hp (show 1<=cd - cn by left) (by decide) (by left);left
  have T1:=T.add (x:=w0 p*cn) (by left) (λa ha=>by left) (kQ W p);have T2:=T1.add (x:=w0 p*(cd - cn)) (by left) (λa ha=>by left) (i0 W p);obtain⟨g1,g2,g3,g4⟩:=uq W cn cd w0 F ps _ _ T2 (λq hq=>h0 q (X_ _ hq)) h1 h2;refine⟨g1,λk=>?_,?_,?_⟩
  ·rw[po,g2,gS,gS];simp only[List.mem_cons];constructor
   ·rintro (((h|h)|h)|⟨q,hq,h⟩)
    ·exact .inl h
    ·exact .inr ⟨p,.inl rfl,.inl h⟩
    ·exact .inr ⟨p,.inl rfl,.inr h⟩
    ·exact .inr ⟨q,.inr hq,h⟩
   ·rintro (h|⟨q,rfl|hq,h⟩)
    ·exact .inl (.inl (.inl h))
    ·exact .inl (h.elim (λz=>.inl (.inr z)) .inr)
    ·exact .inr ⟨q,hq,h⟩
  ·have l1:=nA ks (kQ W p);have l2:=nA (bx ks (kQ W p)) (i0 W p);rw[po];simp only[List.length_cons];left
  ·rw[po,g4,Ag,qH F T1.nd (λh=>by unfold cq;rw[T1.out _ h];rfl),Ag,qH F T.nd (λh=>by unfold cq;rw[T.out _ h];rfl),List.map_cons,List.sum_cons,Rat.intCast_mul,Rat.intCast_mul];grind
theorem Wy.step{n:Nat}{v:aa}{w:aa->Int}(I:Wy n W v ks w)(hW:W<=9)(hv:v≠[])(hk:ks≠[]):
  ∃a b r,v=a::b::r/\0<a/\a<W/\0<b/\b<W/\Wy n W (nv W v) (po W (gi W a b).num (gi W a b).den w ks [] λ_=>0).1 (po W (gi W a b).num (gi W a b).den w ks [] λ_=>0).2/\(po W (gi W a b).num (gi W a b).den w ks [] λ_=>0).1≠[]/\(po W (gi W a b).num (gi W a b).den w ks [] λ_=>0).1.length<=2*ks.length /\
   ∀l k,v.length<=k->j9 (po W (gi W a b).num (gi W a b).den w ks [] λ_=>0).1 (cq (po W (gi W a b).num (gi W a b).den w ks [] λ_=>0).2) (λp=>Pr W k p l)=((gi W a b).den:Rat)*j9 ks (cq w) (λp=>Pr W k p l):=by
 obtain⟨p0,zp⟩:=Zc ks hk;obtain⟨A0,a,B0,b,C0,T0⟩:=(I.ok p0 zp).two (by rw[I.vs p0 zp];exact hv);have ev:=T0.vals;rw[I.vs p0 zp]at ev;obtain⟨q1,q2,q3,q4⟩:=T0.pq;obtain⟨c0,c1,_⟩:=IA q1 q2 q3 q4 hW;have hn:1<=(gi W a b).num:=by have:=nc c0;left
 have hd:(gi W a b).num<((gi W a b).den:Int):=by
  have h':((gi W a b).num:Rat)<((gi W a b).den:Rat):=by
   rw[uo];have h2:(0:Rat)<((gi W a b).den:Rat):=by exact_mod_cast (gi W a b).den_pos
   have:=Rat.mul_lt_mul_of_pos_right c1 h2
   rwa [Rat.one_mul]at this
  exact_mod_cast h'
 have tw:∀p∈ks,∃A B C,Tw W p A a B b C:=λp hp=>by
  obtain⟨A,a',B,b',C,T⟩:=(I.ok p hp).two (by rw[I.vs p hp];exact hv);have e:=T.vals;rw[I.vs p hp,ev]at e;obtain⟨h1,e'⟩:=YG e;obtain⟨h2,_⟩:=YG e';rw[<- h1,<- h2]at T;exact⟨A,B,C,T⟩
 have EU:∀{p A B C},Tw W p A a B b C->kQ W p=A++kb W a b::(B++kB W a b::C)/\i0 W p=A++kB W a b::(B++kb W a b::C):=λT=>by
  unfold kQ i0;rw[T.yG];exact⟨rfl,rfl⟩
 have Xn:Tb (0:Int) (λx=>1<=x) [] λ_=>0:=⟨YX,λ_ _=>rfl,λ_ h=>nomatch h⟩
 have M:=λF=>uq W (gi W a b).num (gi W a b).den w F ks [] (λ_=>0) Xn (λp hp=>I.tb.CB p hp) hn hd;obtain⟨m1,m2,m3,_⟩:=M λ_=>0;refine⟨a,b,vals W C0,ev,q1,q2,q3,q4,⟨m1,λk hk=>?_,λk hk=>?_⟩,?_,by simpa using m3,λl k hl=>?_⟩
 ·rcases(m2 k).mp hk with h|⟨p,hp,h⟩
  ·exact nomatch h
  ·obtain⟨A,B,C,T⟩:=tw p hp;obtain⟨e1,e2⟩:=EU T;rw[e1,e2]at h;rcases h with rfl|rfl
   ·exact T.EU (I.ok p hp)
   ·exact T.GJ (I.ok p hp)
 ·rcases(m2 k).mp hk with h|⟨p,hp,h⟩
  ·exact nomatch h
  ·obtain⟨A,B,C,T⟩:=tw p hp;obtain⟨e1,e2⟩:=EU T;obtain⟨v1,v2⟩:=T.EW;rw[I.vs p hp]at v1 v2;rw[e1,e2]at h;rcases h with rfl|rfl
   ·exact v1
   ·exact v2
 ·intro z;have:=(m2 (kQ W p0)).mpr (.inr ⟨p0,zp,.inl rfl⟩);rw[z]at this;exact nomatch this
 ·obtain⟨_,_,_,m4⟩:=M λp=>Pr W k p l;rw[m4];unfold j9;rw[List.map_nil,List.sum_nil,Rat.zero_add];have:∀qs:av,(∀p∈qs,p∈ks)->(qs.map λp=>(w p:Rat)*(((gi W a b).num:Rat)*Pr W k (kQ W p) l+(((gi W a b).den - (gi W a b).num:Int):Rat)*Pr W k (i0 W p) l)).sum=((gi W a b).den:Rat)*(qs.map λp=>cq w p*Pr W k p l).sum:=λqs=>by
   induction qs with
   |nil=>intro _;simp
   |cons p qs ih =>
    intro h;rw[List.map_cons,List.map_cons,List.sum_cons,List.sum_cons,ih λq hq=>h q (List.mem_cons_of_mem _ hq)];have hp:=h p X9;obtain⟨A,B,C,T⟩:=tw p hp;obtain⟨e1,e2⟩:=EU T;rw[e1,e2,DS l (k:=k) (I.ok p hp) T (by rw[I.vs p hp];exact hl)];have en:((gi W a b).num:Rat)=gi W a b*((gi W a b).den:Rat):=uo _;rw[Rat.intCast_sub,Rat.intCast_natCast,en];unfold cq;grind
  exact this ks λ_ h=>h
structure Nn(Φ:aQ):Prop where
 Mz:Φ 1030=Aa
 My:Φ 1032=Ac
 Mx:Φ 1033=rz
 Mw:Φ 1035=lT
theorem C7(P:Nn Φ)(hl:cs.length<1000)(ws:aa)(c:aa)(v:Int):Φ 1033 [.cx .ow cs (au ws),.int v,.tup (au c)]=ok (.cx .ow (bx cs c) (au (bE cs ws c v))):=by
 rw[P.Mx];show(match intsOf (c.map D.int)with|some c=>if cp .ow=true/\bc anyF (.int v)=false/\cs.length<fe then ok (D.cx .ow (bx cs c) (bE cs (au ws) c (.int v)))else none|none=>none)=_;rw[bL];show(if cp .ow=true/\bc anyF (.int v)=false/\cs.length<fe then ok (D.cx .ow (bx cs c) (bE cs (au ws) c (.int v)))else none)=_;rw[if_pos ⟨rfl,rfl,by show _<1000000;left⟩,se]
theorem Ip(P:Nn Φ)(f:Fl)(hl:cs.length=ws.length){c:aa}(h:c∈cs):Φ 1032 [.cx f cs (au ws),.tup (au c)]=ok (.int (cA cs ws c)):=by
 obtain⟨w,e,_⟩:=ja hl h;rw[P.My];show(match intsOf (c.map D.int)with|some c=>(match cH cs (au ws) c with|some v=>if bc anyF v=false then ok v else none|none=>none)|none=>none)=_;rw[bL];show(match cH cs (au ws) c with|some v=>if bc anyF v=false then ok v else none|none=>none)=_;rw[nH,e];unfold cA;rw[e];rfl
theorem Fc(P:Nn Φ)(f:Fl)(vs:ab)(h:ks.length<64):Φ 1035 [.cx f ks vs]=ok (.lst .ow ((bF ks).map gv)):=by
 rw[P.Mw];show(if ks.length<64 then ok (D.lst .ow ((bF ks).map gv))else none)=_;rw[if_pos h]
structure Tn(P:aa->Prop)(j:Nat)(cs:av)(ws:aa):Prop where
 nd:cs.Nodup
 ln:cs.length=ws.length
 tE:cs.length<=j
 jU:∀c∈cs,P c
 pos:∀w∈ws,1<=w/\w<=9
 ne:1<=j->cs≠[]
theorem qk{α:Type}{c:aa}{v:α}:∀{cs:av} {ws:List α},cs.length=ws.length->(setC cs ws c v).length=ws.length
 |[],[],_=>rfl
 |[],_::_,h=>by simp at h
 |_::_,[],h=>by simp at h
 |c'::cs,w::ws,h=>by
  show((if c'=c then v else w)::setC cs ws c v).length=_;rw[List.length_cons,qk (by simpa using h),List.length_cons]
theorem Tn.put{P:aa->Prop}{j:Nat}(T:Tn P j cs ws){c:aa}(hc:P c){i:Int}(h1:1<=i)(h9:i<=9):Tn P (j+1) (bx cs c) (bE cs ws c i):=by
 have hf:=T.tE;by_cases h:c∈cs
 ·unfold bx bE;rw[if_pos h,if_pos h];refine⟨T.nd,by rw[qk T.ln];exact T.ln,by left,T.jU,λw hw=>?_,λ_ z=>by rw[z]at h;cases h⟩;rcases k_ hw with hw|rfl
  ·exact T.pos w hw
  ·left
 ·unfold bx bE;rw[if_neg h,if_neg h];refine⟨?_,by rw[List.length_append,List.length_append,T.ln];rfl,by rw[List.length_append,List.length_singleton];left,λd hd=>?_,λw hw=>?_,λ_ z=>by simp at z⟩
  ·refine List.nodup_append.mpr ⟨T.nd,List.nodup_cons.mpr ⟨Zt,YX⟩,λa ha b hb e=>?_⟩;rw[List.mem_singleton.mp hb]at e;exact h (e▸ha)
  ·rcases List.mem_append.mp hd with hd|hd
   ·exact T.jU d hd
   ·rw[List.mem_singleton.mp hd];exact hc
  ·rcases List.mem_append.mp hw with hw|hw
   ·exact T.pos w hw
   ·rw[List.mem_singleton.mp hw];left
theorem J_:∀{l:aa},(∀x∈l,1<=x/\x<=9)->0<=l.sum/\l.sum<=9*l.length/\∀x∈l,x<=l.sum
 |[],_=>⟨Int.le_refl _,by simp,λ_ h=>nomatch h⟩
 |a::l,h=>by
  obtain⟨i1,i2,i3⟩:=J_ λx hx=>h x (X_ _ hx);have ha:=h a X9;rw[List.sum_cons,List.length_cons];refine⟨by left,by left,λx hx=>?_⟩;rcases List.mem_cons.mp hx with rfl|hx
  ·left
  ·have:=i3 x hx;left
theorem Tn.dr{P:aa->Prop}{n j:Nat}(T:Tn P j cs ws)(h1:1<=j)(h5:j<=5)(n1:1<=n)(n2:n<=12):Dp P 6 n (e9 cs ws)/\(e9 cs ws).length=cs.length/\1<=ws.sum/\ws.sum<=45:=by
 have hp:(bF cs).Perm cs:=YQ _ _;have hl:(e9 cs ws).length=cs.length:=by unfold e9;rw[List.length_map];exact hp.length_eq
 have hf:=T.tE;have CG:=T.ln;obtain⟨s0,s1,s2⟩:=J_ T.pos;have val:∀c∈bF cs,1<=cA cs ws c/\cA cs ws c<=ws.sum:=λc hc=>by
  obtain⟨w,e,m⟩:=ja T.ln (hp.mem_iff.mp hc);unfold cA;rw[e];exact⟨(T.pos w m).1,s2 w m⟩
 have hW:1<=ws.sum:=by
  obtain⟨c,hc⟩:=Zc cs (T.ne h1);have:=val c (hp.mem_iff.mpr hc);left
 have Rx:ws.sum<=45:=by left
 have Wa:∀r∈e9 cs ws,Sm 6 r.1:=λr hr=>by
  obtain⟨c,hc,rfl⟩:=List.mem_map.mp hr;have:=val c hc;exact qf (by left) (by show _<64;left) (by show _<64;left)
 refine⟨⟨n1,n2,by rw[hl];left,.inl (by rw[hl];left),by rw[hl];left,λr hr=>?_,λr hr=>?_,Wa,?_,?_⟩,hl,hW,Rx⟩
 ·obtain⟨c,hc,rfl⟩:=List.mem_map.mp hr;exact T.jU c (hp.mem_iff.mp hc)
 ·obtain⟨c,hc,rfl⟩:=List.mem_map.mp hr;exact fS (by have:=val c hc;left) (by left)
 ·have e:(e9 cs ws).map (·.1)=(bF cs).map λc=>Rat.divInt (cA cs ws c) ws.sum:=by
   unfold e9;rw[List.map_map];rfl
  rw[e];have e2:((bF cs).map λc=>Rat.divInt (cA cs ws c) ws.sum).sum=(cs.map λc=>Rat.divInt (cA cs ws c) ws.sum).sum:=qy (hp.map _);have e3:(cs.map λc=>Rat.divInt (cA cs ws c) ws.sum)=(cs.map (cA cs ws)).map λx=>Rat.divInt x ws.sum:=by rw[List.map_map];rfl
  rw[e2,e3,ll T.nd T.ln,oi _ (by left),Rat.divInt_eq_div];have z:((ws.sum:Int):Rat)≠0:=λz=>by rw[Rat.intCast_eq_zero_iff]at z;left
  grind
 ·have e:(e9 cs ws).map (·.2)=bF cs:=by
   unfold e9;rw[List.map_map];exact(Yw λ_ _=>rfl).trans (List.map_id _)
  rw[e];exact iq T.nd
noncomputable def u_:CE:=.comp 1 (.nm 0) [0] .ko [(.v 2)] [(.cmp .eq (.bin .mod (.bin .fdiv (.v 1) (.bin .shl (.int 1) (.v 0))) (.int 2)) (.int 1))] (.v 0)
def Bn:ag:=[.asg (.nm 6) (.bf .tuple1 [u_]),.asg (.nm 0) (.bin .fdiv (.v 0) (.bin .shl (.int 1) (.v 2))),.mut 1033 4 [(.bin .add (.int 1) (.bin .mod (.v 0) (.int 9))),(.v 6)],.asg (.nm 0) (.bin .fdiv (.v 0) (.int 9))]
noncomputable def z6:CE:=.comp 1 (.nm 0) [7,4] .seq [(.bq 1035 [(.v 4)])] [] (.tup [(.call 201 [(.bq 1032 [(.v 2),(.v 0)]),(.v 1)]),(.v 0)])
def DF:ag:=[.asg (.nm 2) (.bin .add (.int 1) (.bin .mod (.v 0) (.v 1))),.asg (.nm 3) (.bin .add (.int 1) (.bin .mod (.bin .fdiv (.v 0) (.v 1)) (.int 5))),.asg (.nm 0) (.bin .fdiv (.v 0) (.bin .mul (.int 5) (.v 1))),.asg (.nm 4) (.bq 1030 []),.fr (.nm 5) (.ko (.v 3)) Bn,.asg (.nm 7) (.bq 1038 [(.v 4)]),.ret (.tup [(.v 2),z6])]
theorem Ax{k:Nat}(hk:k<=12):ck .shl (.int 1) (.int (k:Int))=ok (.int ((2 ^ k:Nat):Int)):=by
 rw[M5 (by
  unfold iZ;simp only[Bool.and_eq_true,decide_eq_true_eq];exact⟨⟨by left,by left⟩,by decide⟩),Int.toNat_natCast,Int.one_mul]
 simp
theorem EG(N:Int){k:Nat}(hk:k<=12):ck .fdiv (.int N) (.int ((2 ^ k:Nat):Int))=ok (.int (N.fdiv ((2 ^ k:Nat):Int))):=by
 have h1:1<=2 ^ k:=Nat.one_le_two_pow;have h2:2 ^ k<=2 ^ 12:=Yq (by decide) hk;refine iE (eD (by left) (jF ?_));rw[Int.natAbs_natCast];have:(2:Nat) ^ 12<2 ^ 64:=by decide
 left
theorem GQ(Φ:aQ){n:Nat}(hn:n<=12)(N:Int)(c1:aH)(r:aX):∃jU,r9 n jU/\bj Φ u_ (some (.int N)::c1::some (.int n)::r)=ok (.lst .ow (au jU)):=by
 refine⟨_,Qg n λ(k:Nat)=>decide ((N.fdiv ((2 ^ k:Nat):Int)).fmod 2=1),?_⟩;unfold u_;rw[bW (xs:=[.int n]) (ds:=((List.range n).filter λ(k:Nat)=>decide ((N.fdiv ((2 ^ k:Nat):Int)).fmod 2=1)).map λ(k:Nat)=>D.int (k:Int)) (by simp) (Cv Φ (by left) (by left)) ?_ ?_]
 ·simp[bo,au]
 ·rw[Int.toNat_natCast];refine dK λk hk=>⟨[some (.int k),some (.int N)],by simp[bB],?_,λ_=>by simp⟩
  have Q5:=List.mem_range.mp hk;have e1:=Ax (k:=k) (by left);have e2:=EG N (k:=k) (by left);generalize (N.fdiv ((2 ^ k:Nat):Int))=M at *;generalize ((2 ^ k:Nat):Int)=W at *;simp[e1,e2]
 ·have:=List.length_filter_le (λ(k:Nat)=>decide ((N.fdiv ((2 ^ k:Nat):Int)).fmod 2=1)) (List.range n);simp only[List.length_map,List.length_range]at this ⊢;exact bZ (by left)
theorem uD(Φ:aQ)(P:Nn Φ){n:Nat}(hn:n<=12)(c1 c3 c7:aH):∀(ks:ab) (j:Nat) (N:Int) (cs:av) (ws:aa) (c5 c6:aH),Tn (r9 n) j cs ws->j+ks.length<=5 ->
  ∃EB Nq Xi xj Sj,eN (λd ρ=>cg (.nm 5) d ρ) (λρ=>cj Φ Bn ρ) ks [some (.int N),c1,some (.int n),c3,some (.cx .ow cs (au ws)),c5,c6,c7]=ok (.nx,[Xi,c1,some (.int n),c3,some (.cx .ow EB (au Nq)),xj,Sj,c7])/\Tn (r9 n) (j+ks.length) EB Nq
 |[],j,N,cs,ws,c5,c6,T,_=>⟨cs,ws,some (.int N),c5,c6,rfl,T⟩
 |k::ks,j,N,cs,ws,c5,c6,T,hj=>by
  rw[List.length_cons]at hj;obtain⟨jU,hl,e1⟩:=GQ Φ hn N c1 [c3,some (.cx .ow cs (au ws)),some k,c6,c7];have e2:=Ax hn;have e3:=EG N hn;generalize N.fdiv ((2 ^ n:Nat):Int)=M at *;obtain⟨a1,a2⟩:=dD M (b:=9) (by decide);have hf:=T.tE;have e4:=C7 P (cs:=cs) (by left) ws jU (1+M.fmod 9);have T':=T.put hl (i:=1+M.fmod 9) (by left) (by left);obtain⟨EB,Nq,d0,d5,d6,ih,Xo⟩:=uD Φ P hn c1 c3 c7 ks (j+1) (M.fdiv 9) _ _ (some k) (some (.tup (au jU))) T' (by left);have x1:=sa (Φ:=Φ) (p:=1033) (i:=4) (es:=[(.bin .add (.int 1) (.bin .mod (.v 0) (.int 9))),(.v 6)]) (ρ:=[some (.int M),c1,some (.int n),c3,some (.cx .ow cs (au ws)),some k,some (.tup (au jU)),c7]) (xs:=[.int (1+M.fmod 9),.tup (au jU)]) (by simp) (by simp) rfl e4;simp only[List.set]at x1;refine⟨EB,Nq,d0,d5,d6,dk (ρ1:=[some (.int N),c1,some (.int n),c3,some (.cx .ow cs (au ws)),some k,c6,c7]) (by simp) (ρ2:=[some (.int (M.fdiv 9)),c1,some (.int n),c3,some (.cx .ow (bx cs jU) (au (bE cs ws jU (1+M.fmod 9)))),some k,some (.tup (au jU)),c7]) ?_ ih,by rw[List.length_cons,show j+(ks.length+1)=j+1+ks.length by left];exact Xo⟩;generalize ((2 ^ n:Nat):Int)=W at *;simp[Bn,Lx Φ u_ _ rfl,e1,e2,e3,x1]
theorem Pg(zM:Φ 1038=IV)(f:Fl)(cs:av)(ws:aa):Φ 1038 [.cx f cs (au ws)]=ok (.int ws.sum):=by
 rw[zM];show(match intsOf (ws.map D.int)with|some ns=>ok (D.int ns.sum)|none=>none)=_;rw[bL]
def Nj(m:aw):Prop:=∀(N:Int) (p:Nat),1<=p->p<=12->∃(n:Nat) (rs:aN),m [.int N,.int p]=ok (.tup [.int n,.lst .ow (bY rs)])/\Dr 6 n rs/\rs.length<=5/\1<=rs.length/\n<=p
theorem Pz(Φ:aQ)(P:Nn Φ)(zK:jn (Φ 201))(zM:Φ 1038=IV):Nj (mk Φ 2 8 DF):=by
 intro N p p1 p2;obtain⟨f1,f2⟩:=dD N (b:=(p:Int)) (by left);obtain⟨n,hn⟩:∃n:Nat,1+N.fmod p=(n:Int):=⟨(1+N.fmod p).toNat,by left⟩
 obtain⟨g1,g2⟩:=dD (N.fdiv p) (b:=5) (by decide);obtain⟨k,hk⟩:∃k:Nat,1+(N.fdiv p).fmod 5=(k:Int):=⟨(1+(N.fdiv p).fmod 5).toNat,by left⟩
 have T0:Tn (r9 n) 0 [] []:=⟨YX,rfl,Yb _,(λ_ h=>nomatch h),(λ_ h=>nomatch h),λh=>by left⟩
 obtain⟨cs,ws,c0,c5,c6,el,T⟩:=uD Φ P (n:=n) (by left) (some (.int p)) (some (.int k)) none ((List.range k).map λ(i:Nat)=>D.int (i:Int)) 0 (N.fdiv (5*p)) [] [] none none T0 (by simp;left);rw[List.length_map,List.length_range,Nat.zero_add]at T;obtain⟨D6,hl,w1,XN⟩:=T.dr (n:=n) (by left) (by left) (by left) (by left);have zr:=T.ne (by left);have X0:1<=cs.length:=List.length_pos_iff.mpr zr;have hfew:=T.tE;have hm:ck .mod (.int N) (.int p)=ok (.int (N.fmod p)):=AA (by left);have hd:ck .fdiv (.int N) (.int p)=ok (.int (N.fdiv p)):=iE (eD (by left) (jF (by left)));have Wx:ck .fdiv (.int N) (.int (5*(p:Int)))=ok (.int (N.fdiv (5*p))):=iE (eD (by left) (jF (by left)));have Wk:ck .mul (.int 5) (.int (p:Int))=ok (.int (5*(p:Int))):=DD (by left);have CF:Φ 1030 []=ok (.cx .ow [] (au [])):=by rw[P.Mz];rfl
 have hit:c_ Φ (.ko (.v 3)) [some (.int (N.fdiv (5*p))),some (.int p),some (.int n),some (.int k),some (.cx .ow [] (au [])),none,none,none]=ok ((List.range k).map λ(i:Nat)=>D.int (i:Int),[some (.int (N.fdiv (5*p))),some (.int p),some (.int n),some (.int k),some (.cx .ow [] (au [])),none,none,none]):=by
  rw[G6 (n:=k) (by simp) (by left) (by left),Int.toNat_natCast]
 have hf:=gm (Φ:=Φ) (t:=.nm 5) (b:=Bn) hit el;have hp:(bF cs).Perm cs:=YQ _ _;have V9:=λf=>Pg zM f cs ws;have er:bj Φ z6 [c0,some (.int p),some (.int n),some (.int k),some (.cx .ow cs (au ws)),c5,c6,some (.int ws.sum)]=ok (.lst .ow (bY (e9 cs ws))):=by
  unfold z6;rw[bW (xs:=[.lst .ow ((bF cs).map gv)]) (items:=(bF cs).map gv) (ds:=bY (e9 cs ws)) (by simp[Fc P _ _ (show cs.length<64 by left)]) (by rw[cv,jT]) ?_ (by rw[BF,hl];exact bZ (by left))]
  ·rw[fw]
  ·unfold bY e9;rw[List.map_map];refine bM λc hc=>?_;have xg:c∈cs:=hp.mem_iff.mp hc;have d1:=λf=>Ip P f T.ln xg;have f1:=zK (cA cs ws c) ws.sum (by left) (jF (by left));have m1:aI a_ (gv c)=.tup (au c):=by show D.tup (az a_ (c.map D.int))=_;rw[lr];rfl
   refine⟨[some (gv c),some (.int ws.sum),some (.cx .fz cs (au ws))],by simp[bB],by simp,?_⟩;simp[m1,d1,f1];rfl
 refine⟨n,e9 cs ws,?_,D6,by left,by left,by left⟩;simp only[wj]at hf CF;generalize e9 cs ws=R at *;simp[mk_eq,DF,hm,hn,hd,hk,Wk,Wx,CF,hf,V9,er]
noncomputable abbrev cl(s:Str):aJ:=s.cps.toList
theorem jL{a b:Str}(h:cl a=cl b):a=b:=by
 cases a;cases b;exact Yn Str.mk (Array.toList_inj.mp h)
theorem eF(a b:Str):cl (a++b)=cl a++cl b:=Array.toList_append (xs:=a.cps) (ys:=b.cps)
theorem oQ(a:Str):a.length=(cl a).length:=by simp[Str.length]
noncomputable def tS(i:Int):Str:=Str.ofString (toString i)
theorem tL{c:Nat}:∀{a b x y:aJ},c∉a->c∉b->a++c::x=b++c::y->a=b/\x=y
 |[],[],_,_,_,_,e=>⟨rfl,(YG e).2⟩
 |[],z::b,_,_,_,hb,e=>absurd (by rw[(List.cons.inj (show _::_=z::(b++_) from e)).1];exact X9) hb
 |z::a,[],_,_,ha,_,e=>absurd (by rw[<- (List.cons.inj (show z::(a++_)=_::_ from e)).1];exact X9) ha
 |z::a,w::b,x,y,ha,hb,e=>by
  obtain⟨e1,e2⟩:=YG (show z::(a++c::x)=w::(b++c::y) from e);obtain⟨r1,r2⟩:=tL (λh=>ha (X_ _ h)) (λh=>hb (X_ _ h)) e2;exact⟨by rw[e1,r1],r2⟩
theorem jb{c:Nat}(p q:Str)(r:af):cl (Str.join ⟨#[c]⟩ (p::q::r))=cl p++c::cl (Str.join ⟨#[c]⟩ (q::r)):=by
 show cl (p++⟨#[c]⟩++Str.join ⟨#[c]⟩ (q::r))=_;rw[eF,eF,List.append_assoc];rfl
theorem qQ{c:Nat}:∀{ps qs:af},ps≠[]->qs≠[]->(∀p∈ps,c∉cl p)->(∀q∈qs,c∉cl q)->Str.join ⟨#[c]⟩ ps=Str.join ⟨#[c]⟩ qs->ps=qs
 |[],_,h,_,_,_,_=>absurd rfl h
 |_::_,[],_,h,_,_,_=>absurd rfl h
 |[p],[q],_,_,_,_,e=>by rw[show p=q from e]
 |[p],q::q'::r,_,_,hp,_,e=>by
  have e:=Yn cl e;rw[jb]at e;exact absurd (by rw[show cl p=_ from e];simp) (hp p X9)
 |p::p'::r,[q],_,_,_,hq,e=>by
  have e:=Yn cl e;rw[jb]at e;exact absurd (by rw[<- show _=cl q from e];simp) (hq q X9)
 |p::p'::r,q::q'::s,_,_,hp,hq,e=>by
  have e:=Yn cl e;rw[jb,jb]at e;obtain⟨e1,e2⟩:=tL (hp p X9) (hq q X9) e;rw[jL e1,qQ (by simp) (by simp) (λx hx=>hp x (List.mem_cons_of_mem _ hx)) (λx hx=>hq x (List.mem_cons_of_mem _ hx)) (jL e2)]
variable {ps:af}
theorem fL{c:Nat}(h0:ps≠[])(h:∀p∈ps,c∉cl p):PySem.Txt.split (PySem.Txt.join ⟨#[c]⟩ ps) ⟨#[c]⟩=ps:=by
 refine qQ (c:=c) (λz=>?_) h0 (PySem.StrLaws.split_free _ c) h ?_
 ·have:=PyProof.Rows.split_pos (PySem.Txt.join ⟨#[c]⟩ ps) ⟨#[c]⟩;rw[z]at this;exact absurd this (by decide)
 ·rw[PySem.StrLaws.join_split];exact PySem.StrLaws.glued_eq_join _ _
theorem vW{c:Nat}{x:Str}(h:c∉cl x):PySem.Txt.partition x ⟨#[c]⟩=(x,Str.empty,Str.empty):=by
 rcases PyProof.Rows.partition_whole x ⟨#[c]⟩with h1|⟨i,_,h2,_⟩
 ·exact h1.1
 ·exact absurd ((PyProof.Rows.mem_iff_at x c).mpr ⟨i,h2⟩) h
theorem vV{c:Nat}{a b:Str}(h:c∉cl a):PySem.Txt.partition (a++⟨#[c]⟩++b) ⟨#[c]⟩=(a,⟨#[c]⟩,b):=by
 have hx:cl (a++⟨#[c]⟩++b)=cl a++c::cl b:=by rw[eF,eF,List.append_assoc];rfl
 generalize a++⟨#[c]⟩++b=x at hx;rcases PyProof.Rows.partition_whole x ⟨#[c]⟩with ⟨_,h1⟩|⟨i,h1,h2,h3⟩
 ·obtain⟨i,hi⟩:=(PyProof.Rows.mem_iff_at x c).mp (by rw[show x.cps.toList=_ from hx];simp);exact absurd hi (h1 i)
 ·have hs:=PySem.StrLaws.partition_sum x ⟨#[c]⟩;rw[h1]at hs ⊢;have hf:c∉cl (PySem.Builtin.Str.strSub x 0 i):=PySem.StrLaws.part_free x c 0 i (by have:=h2.1;left) λk _ hk=>h3 k hk;have hs:=Yn cl hs;rw[eF,eF,List.append_assoc,hx]at hs;obtain⟨e1,e2⟩:=tL hf h hs;rw[jL e1];exact Yn (λz=>(a,(⟨#[c]⟩:Str),z)) (jL e2)
theorem lZ(m:Nat):cl (tS (m:Int))=(Nat.toDigits 10 m).map Char.toNat:=PySem.W.KIN.signs_num m
theorem Iy(m:Nat):cl (tS (Int.negSucc m))=45::cl (tS ((m+1:Nat):Int)):=by
 show(Str.ofString (toString (Int.negSucc m))).cps.toList=45::(Str.ofString (toString ((m+1:Nat):Int))).cps.toList;rw[PyProof.Rows.signs_ofString,PyProof.Rows.signs_ofString];show("-" ++ Nat.repr (m+1)).toList.map Char.toNat=45::(Nat.repr (m+1)).toList.map Char.toNat;rw[String.toList_append,List.map_append];rfl
theorem oJ(m:Nat):∀c∈cl (tS (m:Int)),48<=c/\c<=57:=λc hc=>by
 rw[lZ]at hc;obtain⟨ch,xf,e⟩:=List.mem_map.mp hc;rw[<- e];exact PyProof.Rows.digit_range (Nat.isDigit_of_mem_toDigits (by decide) (by decide) xf)
theorem yP(m:Nat):cl (tS (m:Int))≠[]:=λe=>by
 rw[lZ]at e;have h:=PySem.toDigits_len_ge 10 m;rw[List.map_eq_nil_iff.mp e]at h;exact absurd h (by decide)
theorem oI{m:Nat}(h:m<10 ^ 40):(tS (m:Int)).length<=40:=by
 rw[oQ,lZ,List.length_map];have:=(Nat.length_repr_le_iff (n:=m) (k:=40) (by decide)).mpr h;rw[<- String.length_toList,Nat.toList_repr]at this;exact this
theorem yO{m:Nat}(h:m<10 ^ 40):PySem.intText? (tS (m:Int))=some (m:Int):=by
 have e:=PySem.intText_digits (x:=tS (m:Int)) (oJ m) (yP m) (Yi (oI h) (by decide));rw[show(tS (m:Int)).cps.toList=_ from lZ m,PySem.W.KIN.val_back]at e;exact e
theorem Ae:∀m:Nat,0<m->∃c r,(Nat.toDigits 10 m).map Char.toNat=c::r/\c≠48:=by
 intro m;induction m using Nat.strongRecOn with
 |_ m ih =>
  intro h0;by_cases h:m<10
  ·rw[Nat.toDigits_of_lt_base h];refine⟨_,[],rfl,?_⟩;have:∀d:Nat,d<10->0<d->(Nat.digitChar d).toNat≠48:=by decide
   exact this m h h0
  ·have hm:m % 10<10:=Nat.mod_lt m (by decide);have t:Nat.toDigits 10 (m / 10)++Nat.toDigits 10 (m % 10)=Nat.toDigits 10 (10*(m / 10)+m % 10):=Nat.toDigits_append_toDigits (by decide) (by left) hm;rw[Nat.div_add_mod]at t;obtain⟨c,r,e,hc⟩:=ih (m / 10) (by left) (by left);rw[<- t,List.map_append,e];exact⟨c,_,rfl,hc⟩
theorem ej{k:Nat}(hk:k≠45/\(k<48\/57<k))(i:Int):k∉cl (tS i):=PyProof.Rows.int_text_free' k hk i
def IJ(m:aw):Prop:=∀N:Int,∃q:Rat,m [.int N]=ok (qD q)/\Sm 5 q
noncomputable def DG:ag:=[.asg (.nm 1) (.bin .add (.int 1) (.bin .mod (.v 0) (.int 7))),.ret (.call 201 [(.bin .sub (.bin .mod (.bin .fdiv (.v 0) (.int 7)) (.int 39)) (.int 19)),(.v 1)])]
theorem PB(Φ:aQ)(zK:jn (Φ 201)):IJ (mk Φ 1 2 DG):=by
 intro n;obtain⟨a1,a2⟩:=dD n (b:=7) (by decide);obtain⟨a3,a4⟩:=dD (n.fdiv 7) (b:=39) (by decide);have e:=zK ((n.fdiv 7).fmod 39 - 19) (1+n.fmod 7) (by left) (jF (by left));have sq:Sm 5 (Rat.divInt ((n.fdiv 7).fmod 39 - 19) (1+n.fmod 7)):=qf (by left) (by left) (by left);exact⟨_,by simp[mk_eq,DG,e],sq⟩
def EJ(m:aw):Prop:=∀(ns:aa) (k:Int) (n:Nat),0<=k->n<=12->∃qs:aM,m [.lst .sc (au ns),.int k,.int n]=ok (.lst .ow (b0 qs))/\qs.length=n/\∀q∈qs,Sm 5 q
noncomputable def ue:ag:=[.app 3 (.call 255 [(.v 4)]),.asg (.nm 4) (.bin .fdiv (.v 4) (.int 273))]
def vv:ag:=[.asg (.nm 3) (.lst []),.asg (.nm 4) (.call 200 [(.v 0),(.v 1)]),.fr (.nm 5) (.ko (.v 2)) ue,.ret (.v 3)]
theorem rb(Φ:aQ)(CN:IJ (Φ 255))(c0 c1 c2:aH):∀(ks:ab) (acc:aM) (n:Int) (w:aH),acc.length+ks.length<=1000->(∀q∈acc,Sm 5 q) ->
  ∃(qs:aM) (n' w':aH),eN (λd ρ=>cg (.nm 5) d ρ) (λρ=>cj Φ ue ρ) ks [c0,c1,c2,some (.lst .ow (b0 acc)),some (.int n),w]=ok (.nx,[c0,c1,c2,some (.lst .ow (b0 qs)),n',w'])/\qs.length=acc.length+ks.length/\∀q∈qs,Sm 5 q
 |[],acc,n,w,_,hs=>⟨acc,some (.int n),w,rfl,rfl,hs⟩
 |k::ks,acc,n,w,h,hs=>by
  simp only[List.length_cons]at h;obtain⟨q,e,sq⟩:=CN n;obtain⟨qs,n',w',e',l,s⟩:=rb Φ CN c0 c1 c2 ks (acc++[q]) (n.fdiv 273) (some k) (by simp;left) (λp hp=>by
   rcases List.mem_append.mp hp with hp|hp
   ·exact hs p hp
   ·have:p=q:=by simpa using hp
    subst this;exact sq)
  have hc:acc.length<fe:=by show _<1000000;left
  refine⟨qs,n',w',dk (ρ1:=[c0,c1,c2,some (.lst .ow (b0 acc)),some (.int n),some k]) (by simp) (ρ2:=[c0,c1,c2,some (.lst .ow (b0 (acc++[q]))),some (.int (n.fdiv 273)),some k]) ?_ e',by rw[l];simp;left,s⟩;simp[ue,e,hc]
theorem Ks(Φ:aQ)(wF:pM (Φ 200))(CN:IJ (Φ 255)):EJ (mk Φ 3 6 vv):=by
 intro ns k n hk hn;have e:=wF ns k hk;have hit:=G6 (Φ:=Φ) (a:=.v 2) (ρ:=[some (.lst .sc (au ns)),some (.int k),some (.int n),some (.lst .ow []),some (.int (gF ns k)),none]) (n:=n) (by simp) (by left) (by left);obtain⟨qs,n',w',el,l,s⟩:=rb Φ CN (some (.lst .sc (au ns))) (some (.int k)) (some (.int n)) ((List.range (n:Int).toNat).map λ(k:Nat)=>D.int (k:Int)) [] (gF ns k) none (by simp;left) (by simp);have hf:=gm (t:=.nm 5) (b:=ue) hit el;refine⟨qs,?_,by simpa using l,s⟩;generalize gF ns k=N at *;simp[mk_eq,vv,e,hf]
def EL(q:Rat):Prop:=q.num.natAbs<10 ^ 40/\q.den<10 ^ 40
noncomputable def dg(q:Rat):Str:=if q.den=1 then tS q.num else tS q.num ++ "/" ++ tS q.den
def eR(r:Row):Str:=PySem.Txt.join " " (dg r.1 :: ":" :: r.2.map tS)
def p4(n:Nat)(rs:aN):Str:=PySem.Txt.join "\n" (("houses " ++ tS n)::rs.map eR)
def si(qs:aM):Str:=PySem.Txt.join " " (qs.map dg)
noncomputable def aK(ss:af):ab:=ss.map D.str
@[simp]theorem bU(g:Fl->Fl)(ss:af):az g (aK ss)=aK ss:=di g (λ_=>rfl) ss
@[simp]theorem lI(g:Fl->Bool)(ss:af):aR g (aK ss)=false:=cW g (λ_=>rfl) ss
@[simp]theorem fm(ss:af):(aK ss).length=ss.length:=Zb ..
theorem fN:("/" : Str)=⟨#[47]⟩:=by decide +kernel
theorem c8:(" " : Str)=⟨#[32]⟩:=by decide +kernel
theorem FL:("\n" : Str)=⟨#[10]⟩:=by decide +kernel
theorem my(a b:Str):(a++b).length=a.length+b.length:=PySem.strLen_append a b
theorem jN(a b c:Str):a++b++c=a++(b++c):=jL (by simp only[eF,List.append_assoc])
theorem DJ(a:Str):a++("" : Str)=a:=jL (by rw[eF,show cl "" = [] by decide +kernel,List.append_nil])
theorem GL{i:Int}(h:i.natAbs<10 ^ 40):i.natAbs.log2<1920:=by
 by_cases z:i.natAbs=0
 ·rw[z];decide
 ·exact Yc ((Nat.log2_lt (k:=140) z).mpr (Yc h (by decide +kernel))) (by decide)
theorem kZ{i:Int}(h:i.natAbs<10 ^ 40):vN [.int i]=ok (.str (tS i)):=Yv (GL h)
theorem gA{i:Int}(h:i.natAbs<10 ^ 40):(tS i).length<=41:=by
 have:=PySem.int_text_length_le10 (a:=i) (k:=40) (by decide) h;show(Str.ofString (toString i)).length<=_;rw[PyProof.Rows.ofString_len];left
theorem Kf{q:Rat}{k:Nat}(h:Sm k q)(hk:k<=100):EL q :=
 have:2 ^ k<=10 ^ 40:=Yi (Yq (by decide) hk) (by decide +kernel)
 ⟨Yc h.1 this,Yc h.2 this⟩
theorem kl{q:Rat}(h:EL q):(dg q).length<=83:=by
 have h1:=gA h.1;have h2:=gA (i:=(q.den:Int)) (by rw[Int.natAbs_natCast];exact h.2);unfold dg;by_cases z:q.den=1
 ·rw[if_pos z];left
 ·rw[if_neg z,my,my,fN];have:(⟨#[47]⟩:Str).length=1:=rfl;left
structure mL(Φ:aQ):Prop where
 q_:Φ 1090=vN
 qZ:Φ 1091=lC
 qY:Φ 1092=jM
theorem fT{a b:Str}(h:a.length+b.length<=100000):jM [.str a,.str b]=ok (.str (a++b)):=Yv h
theorem JH(q:Rat):lD (qD q) (.int 0)=ok (.int q.num):=by show lD (.tup [.int q.num,.int q.den]) _=_;simp
theorem JG(q:Rat):lD (qD q) (.int 1)=ok (.int q.den):=by show lD (.tup [.int q.num,.int q.den]) _=_;simp
def jm(m:aw):Prop:=∀q:Rat,EL q->m [qD q]=ok (.str (dg q))
noncomputable def rO:ag:=[.ifs (.cmp .eq (.ix (.v 0) (.int 1)) (.int 1)) [.ret (.bq 1090 [(.ix (.v 0) (.int 0))])] [],.ret (.bq 1092 [(.bq 1092 [(.bq 1090 [(.ix (.v 0) (.int 0))]),(.str "/")]),(.bq 1090 [(.ix (.v 0) (.int 1))])])]
theorem Kn(Φ:aQ)(T:mL Φ):jm (mk Φ 1 1 rO):=by
 intro q hq;have e1:=kZ hq.1;have e2:=kZ (i:=(q.den:Int)) (by rw[Int.natAbs_natCast];exact hq.2);have l1:=gA hq.1;have l2:=gA (i:=(q.den:Int)) (by rw[Int.natAbs_natCast];exact hq.2);rw[<- T.q_]at e1 e2;have x0:=JH q;have x1:=JG q;have sl:(("/" : Str)).length=1:=by rw[fN];rfl
 unfold dg;generalize tS q.num=a at *;generalize tS (q.den:Int)=b at *;have c1:jM [.str a,.str "/"]=ok (.str (a ++ "/")):=fT (by left);have c2:jM [.str (a ++ "/"),.str b]=ok (.str (a ++ "/" ++ b)):=fT (by rw[my];left);rw[<- T.qY]at c1 c2;by_cases h:q.den=1
 ·have h':(q.den:Int)=1:=by left
  rw[if_pos h];simp[mk_eq,rO,x0,x1,h',e1]
 ·have h':¬ (q.den:Int)=1:=by left
  rw[if_neg h];simp[mk_eq,rO,x0,x1,h',e1,e2,c1,c2]
noncomputable def AB:ag:=[.ret (.bq 1092 [(.bq 1090 [(.ix (.v 0) (.int 0))]),(.ix (.lst [(.bq 1092 [(.str "/"),(.bq 1090 [(.ix (.v 0) (.int 1))])]),(.str "")]) (.bf .qS [(.cmp .eq (.ix (.v 0) (.int 1)) (.int 1))]))])]
theorem Pw(Φ:aQ)(T:mL Φ):jm (mk Φ 1 1 AB):=by
 intro q hq;have e1:=kZ hq.1;have e2:=kZ (i:=(q.den:Int)) (by rw[Int.natAbs_natCast];exact hq.2);have l1:=gA hq.1;have l2:=gA (i:=(q.den:Int)) (by rw[Int.natAbs_natCast];exact hq.2);rw[<- T.q_]at e1 e2;have x0:=JH q;have x1:=JG q;have sl:(("/" : Str)).length=1:=by rw[fN];rfl
 have s0:(("" : Str)).length=0:=by decide +kernel
 unfold dg;generalize tS q.num=a at *;generalize tS (q.den:Int)=b at *;have c1:jM [.str "/",.str b]=ok (.str ("/" ++ b)):=fT (by left);have c2:jM [.str a,.str ("/" ++ b)]=ok (.str (a++("/" ++ b))):=fT (by rw[my];left);have c3:jM [.str a,.str ""]=ok (.str (a ++ "")):=fT (by left);rw[<- T.qY]at c1 c2 c3;by_cases h:q.den=1
 ·have h':(q.den:Int)=1:=by left
  rw[if_pos h];rw[DJ]at c3;rw[h']at e2;have bi:pB .qS [.bl true]=ok (.int 1):=rfl;simp[mk_eq,AB,x0,x1,h',e1,e2,c1,c3,bi]
 ·have h':¬ (q.den:Int)=1:=by left
  rw[if_neg h,jN];have bi:pB .qS [.bl false]=ok (.int 0):=rfl;simp[mk_eq,AB,x0,x1,h',e1,e2,c1,c2,bi]
theorem uf{B:Nat}:∀{ss:af},(∀s∈ss,s.length<=B)->(ss.map (·.length)).sum<=ss.length*B
 |[],_=>by simp
 |s::ss,h=>by
  have:=uf (ss:=ss) λx hx=>h x (X_ _ hx);have:=h s X9;rw[List.map_cons,List.sum_cons,List.length_cons,Nat.add_mul];left
variable {sep:Str}
theorem i6{ss:af}(f:Fl)(hs:sep.length<=4)(hB:∀s∈ss,s.length<=B)(hl:ss.length*(B+64)<=1000000):lC [.str sep,.lst f (aK ss)]=ok (.str (PySem.Txt.join sep ss))/\(PySem.Txt.join sep ss).length<=4*(ss.length*(B+1)+1):=by
 have V_:=uf hB;rw[Nat.mul_add]at hl;refine⟨?_,?_⟩
 ·show(match strsOf (ss.map D.str)with|some ys=>if wJ sep ys=true then ok (D.str (PySem.Txt.join sep ys))else none|none=>none)=_;rw[kX];refine Yv ?_;unfold wJ;rw[decide_eq_true (by left:sep.length<=64),decide_eq_true (by left)];rfl
 ·refine PyProof.Rows.len_join_le (n:=ss.length*(B+1)) ?_ hs;show(ss.map (·.length)).sum+ss.length<=_;rw[Nat.mul_add];left
def DR(r:Row):Prop:=EL r.1/\r.2.length<=12/\∀x∈r.2,0<=x/\x<12
theorem Oe{x:Int}(h:0<=x/\x<12):x.natAbs<10 ^ 40:=Yc (show x.natAbs<12 by left) (by decide +kernel)
theorem ni{r:Row}(h:DR r):∀t∈dg r.1 :: ":" :: r.2.map tS,t.length<=83:=λt ht=>by
 rcases List.mem_cons.mp ht with rfl|ht
 ·exact kl h.1
 rcases List.mem_cons.mp ht with rfl|ht
 ·decide +kernel
 obtain⟨x,hx,rfl⟩:=List.mem_map.mp ht;have:=gA (Oe (h.2.2 x hx));left
theorem t8{r:Row}(h:DR r):(eR r).length<=6000:=by
 have hl:=h.2.1;have:=(i6 (sep:=" ") (ss:=dg r.1 :: ":" :: r.2.map tS) (B:=83) .ow (by rw[c8];decide) (ni h) (by simp;left)).2;refine Yi this ?_;simp only[List.length_cons,List.length_map];have:(r.2.length+1+1)*(83+1)<=14*84:=ZF _ (by left);left
noncomputable def zW:CE:=.comp 1 (.nm 0) [] .seq [(.ix (.v 0) (.int 1))] [] (.bq 1090 [(.v 0)])
def pC:ag:=[.ret (.bq 1091 [(.str " "),(.bin .add (.lst [(.call 111 [(.ix (.v 0) (.int 0))]),(.str ":")]) zW)])]
def EI(m:aw):Prop:=∀r:Row,DR r->m [rD r]=ok (.str (eR r))
theorem rR(f g:Fl)(hf:mB f=false)(hg:mB g=false){a b:af}(h:a.length+b.length<=1000):ck .add (.lst f (aK a)) (.lst g (aK b))=ok (.lst .ow (aK (a++b))):=by
 show(if mB f=false/\mB g=false/\(aK a).length+(aK b).length<=fe then ok (D.lst .ow (az a_ (aK a++aK b)))else none)=_;rw[if_pos ⟨hf,hg,by rw[fm,fm];show _<=1000000;left⟩];have:aK a++aK b=aK (a++b):=by unfold aK;rw[List.map_append]
 rw[this,bU]
theorem Km(Φ:aQ)(T:mL Φ)(zL:jm (Φ 111)):EI (mk Φ 1 1 pC):=by
 intro r hr;have hl:=hr.2.1;have e1:=zL r.1 hr.1;have e2:bj Φ zW [some (rD r)]=ok (.lst .ow (aK (r.2.map tS))):=by
  unfold zW;rw[bW (xs:=[.tup (au r.2)]) (items:=r.2.map D.int) (ds:=r.2.map λx=>D.str (tS x)) (by simp[rD]) (by rw[kE,dG];rfl) (bM λx AR=>⟨[some (.int x)],rfl,by simp,by
   have e:=kZ (Oe (hr.2.2 x AR));rw[<- T.q_]at e;simp[e]⟩) (by rw[List.length_map];exact bZ (by left))]
  have:(r.2.map λx=>D.str (tS x))=aK (r.2.map tS):=by unfold aK;rw[List.map_map];rfl
  rw[this,bU]
 have e3:=(i6 (sep:=" ") (ss:=dg r.1 :: ":" :: r.2.map tS) (B:=83) .ow (by rw[c8];decide) (ni hr) (by simp;left)).1;rw[<- T.qZ]at e3;have ba:=rR .ow .ow rfl rfl (a:=[dg r.1,":"]) (b:=r.2.map tS) (by simp;left);have ba:ck .add (.lst .ow [.str (dg r.1),.str ":"]) (.lst .ow (aK (r.2.map tS)))=ok (.lst .ow (aK (dg r.1 :: ":" :: r.2.map tS))):=ba;unfold eR;generalize aK (r.2.map tS)=A at *;generalize aK (dg r.1 :: ":" :: r.2.map tS)=W at *;have x0:lD (rD r) (.int 0)=ok (qD r.1):=by rw[show rD r=.tup [qD r.1,.tup (au r.2)] from rfl];simp
 simp[mk_eq,pC,x0,e1,e2,ba,e3]
theorem Dp.NI{n:Nat}(I:Dr 6 n rs):∀r∈rs,DR r:=λr hr=>by
 have hl:=I.jU r hr;have hn:=I.n2;refine⟨Kf (I.sm r hr) (by decide),by have:=hl.len;left,λx hx=>?_⟩;have:=hl.2 x hx;left
theorem Lb{n:Nat}(h:n<=12):((n:Int)).natAbs<10 ^ 40:=Yo (show((n:Int)).natAbs<=12 by left) (by decide +kernel)
theorem v9{n:Nat}(hn:n<=12)(h:∀r∈rs,DR r):∀t∈("houses " ++ tS n)::rs.map eR,t.length<=6000:=λt ht=>by
 rcases List.mem_cons.mp ht with rfl|ht
 ·have:=gA (Lb hn);have hh:(("houses " : Str)).length=7:=by decide +kernel
  rw[my];left
 obtain⟨r,hr,rfl⟩:=List.mem_map.mp ht;exact t8 (h r hr)
theorem sj{n:Nat}(f:Fl)(hn:n<=12)(hl:rs.length<=5)(h:∀r∈rs,DR r):lC [.str "\n",.lst f (aK (("houses " ++ tS n)::rs.map eR))]=ok (.str (p4 n rs))/\(p4 n rs).length<=200000:=by
 obtain⟨h1,h2⟩:=i6 (sep:="\n") (ss:=("houses " ++ tS n)::rs.map eR) (B:=6000) f (by rw[FL];decide) (v9 hn h) (by simp;left);refine⟨h1,Yi h2 ?_⟩;simp only[List.length_cons,List.length_map];have:(rs.length+1)*(6000+1)<=6*6001:=ZF _ (by left);left
noncomputable def zY:CE:=.comp 1 (.nm 0) [] .seq [(.ix (.v 0) (.int 1))] [] (.call 112 [(.v 0)])
def vo:ag:=[.ex (.call 17 [(.v 0)]),.ret (.bq 1091 [(.str "\n"),(.bin .add (.lst [(.bq 1092 [(.str "houses "),(.bq 1090 [(.ix (.v 0) (.int 0))])])]) zY)])]
def vF(m:aw):Prop:=∀n rs,Dr 6 n rs->rs.length<=5->m [bD n rs]=ok (.str (p4 n rs))
theorem uO(T:mL Φ){n:Nat}(hn:n<=12):Φ 1090 [.int n]=ok (.str (tS n))/\Φ 1092 [.str "houses ",.str (tS n)]=ok (.str ("houses " ++ tS n)):=by
 have:=gA (Lb hn);have hh:(("houses " : Str)).length=7:=by decide +kernel
 rw[T.q_,T.qY];exact⟨kZ (Lb hn),fT (by left)⟩
theorem Ko(Φ:aQ)(T:mL Φ)(WR:l8 (Φ 17))(RN:EI (Φ 112)):vF (mk Φ 1 1 vo):=by
 intro n rs I hl;have e1:=WR 6 n rs I;have hr:=I.NI;obtain⟨e2,c1⟩:=uO T I.n2;have x0:lD (bD n rs) (.int 0)=ok (.int n):=by unfold bD;simp
 have x1:lD (bD n rs) (.int 1)=ok (.lst .fz (bY rs)):=by unfold bD;simp
 have e3:bj Φ zY [some (bD n rs)]=ok (.lst .ow (aK (rs.map eR))):=by
  unfold zY;rw[bW (xs:=[.lst .fz (bY rs)]) (items:=rs.map rD) (ds:=rs.map λr=>D.str (eR r)) (by simp[x1,bD]) (by rw[cv,fw];rfl) (bM λr QQ=>⟨[some (rD r)],rfl,by simp,by simp[RN r (hr r QQ)]⟩) (by rw[List.length_map];exact bZ (by left))];have:(rs.map λr=>D.str (eR r))=aK (rs.map eR):=by unfold aK;rw[List.map_map];rfl
  rw[this,bU]
 have e4:=(sj .ow I.n2 hl hr).1;rw[<- T.qZ]at e4;have ba:=rR .ow .ow rfl rfl (a:=["houses " ++ tS n]) (b:=rs.map eR) (by simp;left);have ba:ck .add (.lst .ow [.str ("houses " ++ tS n)]) (.lst .ow (aK (rs.map eR)))=ok (.lst .ow (aK (("houses " ++ tS n)::rs.map eR))):=ba;generalize p4 n rs=U at *;generalize aK (("houses " ++ tS n)::rs.map eR)=W at *;generalize aK (rs.map eR)=A at *;generalize tS (n:Int)=a at *;have al:aI a_ (bD n rs)=bD n rs:=by unfold bD;simp[aI,az,a_]
 have fz:aI aY (bD n rs)=bD n rs:=by unfold bD;simp[aI,az,aY]
 simp[mk_eq,vo,al,fz,e1,x0,e2,c1,e3,ba,e4]
noncomputable def zX:CE:=.comp 1 (.nm 0) [] .seq [(.v 0)] [] (.call 111 [(.v 0)])
def jg:ag:=[.ifs (.or [(.not (.g5 (.v 0) .list)),(.cmp .lt (.bf .len [(.v 0)]) (.int 1))]) [.rs 4] [],.ex (.call 47 [(.v 0),(.bf .len [(.v 0)])]),.ret (.bq 1091 [(.str " "),zX])]
def EM(qs:aM):Prop:=1<=qs.length/\qs.length<=12/\∀q∈qs,EL q
theorem sh(f:Fl)(h:EM qs):lC [.str " ",.lst f (aK (qs.map dg))]=ok (.str (si qs))/\(si qs).length<=10000:=by
 have hl:=h.2.1;obtain⟨h1,h2⟩:=i6 (sep:=" ") (ss:=qs.map dg) (B:=83) f (by rw[c8];decide) (λt ht=>by
  obtain⟨q,hq,rfl⟩:=List.mem_map.mp ht;exact kl (h.2.2 q hq)) (by simp;left)
 refine⟨h1,Yi h2 ?_⟩;simp only[List.length_map];have:qs.length*(83+1)<=12*84:=ZF _ (by left);left
def vE(m:aw):Prop:=∀qs,EM qs->m [.lst .fz (b0 qs)]=ok (.str (si qs))
theorem p9(Φ:aQ){p:Nat}(hp:jm (Φ p))(h:EM qs)(f:Fl)(hf:f≠.sc)(i:Nat)(hi:ρ[i]?=some (some (.lst f (b0 qs)))):bj Φ (.comp 1 (.nm 0) [] .seq [(.v i)] [] (.call p [(.v 0)])) ρ=ok (.lst .ow (aK (qs.map dg))):=by
 have hl:=h.2.1;rw[bW (xs:=[.lst (a_ f) (b0 qs)]) (items:=qs.map qD) (ds:=qs.map λq=>D.str (dg q)) (by simp[hi,qg,aI]) (by rw[cv,lp];rfl) (bM λq hq=>⟨[some (qD q)],rfl,by simp,by simp[hp q (h.2.2 q hq)]⟩) (by rw[List.length_map];exact bZ (by left))];have:(qs.map λq=>D.str (dg q))=aK (qs.map dg):=by unfold aK;rw[List.map_map];rfl
 rw[this,bU]
theorem BB(Φ:aQ)(T:mL Φ)(Mf:pL 4 l6 (Φ 47))(zL:jm (Φ 111)):vE (mk Φ 1 1 jg):=by
 intro qs h;have h1:=h.1;have hl:=h.2.1;have e1:=Mf (.lst .fz (b0 qs)) qs.length (by show(b0 qs).length<=1000000;simp;left);rw[ID,decide_eq_true rfl,if_pos rfl]at e1;have e2:=p9 Φ zL h .fz (by decide) 0 (ρ:=[some (.lst .fz (b0 qs))]) rfl;have e3:=(sh .ow h).1;rw[<- T.qZ]at e3;have e2:bj Φ zX [some (.lst .fz (b0 qs))]=ok (.lst .ow (aK (qs.map dg))):=e2;generalize si qs=U at *;generalize aK (qs.map dg)=W at *;have hb:¬ (qs.length:Int)<1:=by left
 simp[mk_eq,jg,b8,e1,e2,e3,hb]
theorem Ej(sep a p:Str):∀r:af,Str.join sep (a::p::r)=Str.join sep ((a++sep++p)::r)
 |[]=>rfl
 |q::r=>by
  show a++sep++(p++sep++Str.join sep (q::r))=a++sep++p++sep++Str.join sep (q::r);simp only[jN]
theorem nL(sep:Str):∀(ps:af) (a:Str),ps.foldl (λacc p=>acc++sep++p) a=Str.join sep (a::ps)
 |[],a=>rfl
 |p::ps,a=>by rw[List.foldl_cons,nL sep ps,Ej]
theorem xF(r:Row):r.2.foldl (λacc h=>acc ++ " " ++ tS h) (dg r.1 ++ " :")=eR r:=by
 have e:dg r.1++(" :" : Str)=dg r.1 ++ " " ++ ":":=by
  rw[jN];exact Yn (dg r.1 ++ ·) (by decide +kernel)
 show _=PySem.Builtin.Str.glued _ _;rw[PySem.StrLaws.glued_eq_join,Ej,<- nL,List.foldl_map,e]
noncomputable def Bl:ag:=[.asg (.nm 4) (.bq 1092 [(.bq 1092 [(.v 4),(.str " ")]),(.bq 1090 [(.v 5)])])]
def ud:ag:=[.asg (.nm 4) (.bq 1092 [(.call 260 [(.v 2)]),(.str " :")]),.fr (.nm 5) (.seq (.v 3)) Bl,.app 1 (.v 4)]
def vt:ag:=[.asg (.nm 1) (.lst [(.bq 1092 [(.str "houses "),(.bq 1090 [(.ix (.v 0) (.int 0))])])]),.fr (.tp [2,3]) (.seq (.ix (.v 0) (.int 1))) ud,.ret (.bq 1091 [(.str "\n"),(.v 1)])]
theorem uA(Φ:aQ)(T:mL Φ)(c0 c1 c2 c3:aH):∀(hs:aa) (a:Str) (c5:aH),(∀x∈hs,0<=x/\x<12)->a.length+42*hs.length<=90000 ->
  ∃xj,eN (λd ρ=>cg (.nm 5) d ρ) (λρ=>cj Φ Bl ρ) (au hs) [c0,c1,c2,c3,some (.str a),c5]=ok (.nx,[c0,c1,c2,c3,some (.str (hs.foldl (λacc h=>acc ++ " " ++ tS h) a)),xj])
 |[],a,c5,_,_=>⟨c5,rfl⟩
 |h::hs,a,c5,hh,hl=>by
  rw[List.length_cons]at hl;have h1:=Oe (hh h X9);have l1:=gA h1;have e1:=kZ h1;have sb:((" " : Str)).length=1:=by rw[c8];rfl
  obtain⟨xj,ih⟩:=uA Φ T c0 c1 c2 c3 hs (a ++ " " ++ tS h) (some (.int h)) (λx hx=>hh x (X_ _ hx)) (by rw[my,my];left);refine⟨xj,dk (ρ1:=[c0,c1,c2,c3,some (.str a),some (.int h)]) (by simp) (ρ2:=[c0,c1,c2,c3,some (.str (a ++ " " ++ tS h)),some (.int h)]) ?_ ih⟩;clear ih;generalize tS h=b at *;have k1:jM [.str a,.str " "]=ok (.str (a ++ " ")):=fT (by left);have k2:jM [.str (a ++ " "),.str b]=ok (.str (a ++ " " ++ b)):=fT (by rw[my];left);rw[<- T.qY]at k1 k2;rw[<- T.q_]at e1;simp[Bl,e1,k1,k2]
theorem qK(Φ:aQ)(T:mL Φ)(wD:jm (Φ 260))(c0:aH):∀(rs:aN) (acc:af) (c2 c3 c4 c5:aH),(∀r∈rs,DR r)->acc.length+rs.length<=1000 ->
  ∃Dw M1 Xh xj,eN (λd ρ=>cg (.tp [2,3]) d ρ) (λρ=>cj Φ ud ρ) (bY rs) [c0,some (.lst .ow (aK acc)),c2,c3,c4,c5]=ok (.nx,[c0,some (.lst .ow (aK (acc++rs.map eR))),Dw,M1,Xh,xj])
 |[],acc,c2,c3,c4,c5,_,_=>⟨c2,c3,c4,c5,by rw[List.map_nil,List.append_nil];rfl⟩
 |r::rs,acc,c2,c3,c4,c5,h,hl=>by
  rw[List.length_cons]at hl;have hr:=h r X9;have l1:=kl hr.1;have l2:=hr.2.1;have sb:((" :" : Str)).length=2:=by decide +kernel
  obtain⟨xj,el⟩:=uA Φ T c0 (some (.lst .ow (aK acc))) (some (qD r.1)) (some (.tup (au r.2))) r.2 (dg r.1 ++ " :") c5 hr.2.2 (by rw[my];left);obtain⟨d2,d3,d4,d5,ih⟩:=qK Φ T wD c0 rs (acc++[eR r]) (some (qD r.1)) (some (.tup (au r.2))) (some (.str (eR r))) xj (λx hx=>h x (X_ _ hx)) (by rw[List.length_append,List.length_singleton];left);rw[List.append_assoc]at ih;refine⟨d2,d3,d4,d5,dk (ρ1:=[c0,some (.lst .ow (aK acc)),some (qD r.1),some (.tup (au r.2)),c4,c5]) (by simp[rD]) (ρ2:=[c0,some (.lst .ow (aK (acc++[eR r]))),some (qD r.1),some (.tup (au r.2)),some (.str (eR r)),xj]) ?_ ih⟩;clear ih;rw[xF]at el;have e1:=wD r.1 hr.1;have k1:jM [.str (dg r.1),.str " :"]=ok (.str (dg r.1 ++ " :")):=fT (by left);rw[<- T.qY]at k1;have hit:c_ Φ (.seq (.v 3)) [c0,some (.lst .ow (aK acc)),some (qD r.1),some (.tup (au r.2)),some (.str (dg r.1 ++ " :")),c5]=ok (au r.2,[c0,some (.lst .ow (aK acc)),some (qD r.1),some (.tup (au r.2)),some (.str (dg r.1 ++ " :")),c5]):=by
   rw[Qw (ds:=au r.2) (by simp)];simp
  have hf:=gm (Φ:=Φ) (t:=.nm 5) (b:=Bl) hit el;have ea:aK (acc++[eR r])=aK acc++[.str (eR r)]:=by unfold aK;rw[List.map_append];rfl
  rw[ea];have hc:(aK acc).length<fe:=by rw[fm];show _<1000000;left
  generalize aK acc=A at *;generalize dg r.1 ++ " :" = B at *;simp[ud,e1,k1,hf,hc]
theorem Kr(Φ:aQ)(T:mL Φ)(wD:jm (Φ 260)):vF (mk Φ 1 6 vt):=by
 intro n rs I hl;have hr:=I.NI;obtain⟨e2,c1⟩:=uO T I.n2;have x0:lD (bD n rs) (.int 0)=ok (.int n):=by unfold bD;simp
 have x1:lD (bD n rs) (.int 1)=ok (.lst .fz (bY rs)):=by unfold bD;simp
 have al:aI a_ (bD n rs)=bD n rs:=by unfold bD;simp[aI,az,a_]
 obtain⟨d2,d3,d4,d5,el⟩:=qK Φ T wD (some (bD n rs)) rs ["houses " ++ tS n] none none none none hr (by simp;left);have hit:c_ Φ (.seq (.ix (.v 0) (.int 1))) [some (bD n rs),some (.lst .ow (aK ["houses " ++ tS n])),none,none,none,none]=ok (bY rs,[some (bD n rs),some (.lst .ow (aK ["houses " ++ tS n])),none,none,none,none]):=by
  rw[Cy (f:=.fz) (ds:=bY rs) (by simp[al,x1])];simp[bA]
 have hf:=gm (Φ:=Φ) (t:=.tp [2,3]) (b:=ud) hit el;have e4:=λf=>(sj f I.n2 hl hr).1;rw[<- T.qZ]at e4;have hs:aK ["houses " ++ tS n]=[.str ("houses " ++ tS n)]:=rfl;rw[hs]at hf;have Xb:∀f,Φ 1091 [.str "\n",.lst f (aK (["houses " ++ tS n]++rs.map eR))]=ok (.str (p4 n rs)):=e4;have hw:=bU a_ (["houses " ++ tS n]++rs.map eR);generalize p4 n rs=U at *;generalize aK (["houses " ++ tS n]++rs.map eR)=W at *;generalize tS (n:Int)=a at *;simp[mk_eq,vt,al,x0,e2,c1,hf,Xb,hw]
@[simp]theorem US(a b:Str):dM .eq (.str a) (.str b)=ok (.bl (a==b)):=rfl
@[simp]theorem UR(a b:Str):dM .ne (.str a) (.str b)=ok (.bl (!(a==b))):=rfl
structure Nk(Φ:aQ):Prop where
 Mt:Φ 1084=rZ Jh
 Mp:Φ 1097=Cu
 Mo:Φ 1098=lh GP
 Mn:Φ 1099=lh wo
 Mm:Φ 1101=lh x8
noncomputable def z7:CE:=.comp 1 (.nm 0) [] (.bq 1101) [(.v 0)] [] (.bq 1084 [(.v 0),(.gls "FIGURES" "0123456789")])
def Ay:ag:=[.ifs (.or [(.cmp .eq (.v 0) (.str "")),(.cmp .gt (.bq 1098 [(.v 0)]) (.v 1)),(.not (.bf .all1 [z7]))]) [.ret .bw] [],.ret (.ite (.or [(.cmp .eq (.v 0) (.str "0")),(.cmp .ne (.bq 1097 [(.v 0),(.int 0)]) (.str "0"))]) (.bq 1099 [(.v 0)]) .bw)]
def AG(m:aw):Prop:=∀n:Nat,n<10 ^ 40->m [.str (tS n),.int 40]=ok (.int n)
theorem RV:cl "0123456789" = [48,49,50,51,52,53,54,55,56,57]:=by decide +kernel
theorem Hc{c:Nat}(h:48<=c/\c<=57):Jh ⟨#[c]⟩ "0123456789" = ok (.bl true):=by
 unfold Jh;rw[PySem.StrLaws.found_one,show(Str.ofString "0123456789").cps.toList=_ from RV];have:c∈[48,49,50,51,52,53,54,55,56,57]:=by
  obtain⟨h1,h2⟩:=h;simp;left
 rw[decide_eq_true this]
theorem Ii(R:Nk Φ){w:Str}(h:∀c∈cl w,48<=c/\c<=57)(hl:w.length<=40)(r:aX):bj Φ z7 (some (.str w)::r)=ok (.lst .ow (w.cps.toList.map λ_=>D.bl true)):=by
 unfold z7;have ha:w.cps.all (· < 128)=true:=by
  rw[<- Array.all_toList,List.all_eq_true];exact λc hc=>YR (by have:=h c hc;left)
 have hi:dj Φ (.bq 1101) [.str w]=ok (mr w):=by
  show bd (Φ 1101 [.str w]) la=_;rw[R.Mm];show bd (x8 w) la=_;unfold x8;rw[if_pos ha];show ok (az aY (mr w))=_;rw[nu]
 rw[bW (xs:=[.str w]) (items:=mr w) (ds:=w.cps.toList.map λ_=>D.bl true) (by simp) hi (bM λc hc=>⟨[some (.str ⟨#[c]⟩)],rfl,by simp,by
  have e:=Hc (h c hc);have e:rZ Jh [.str ⟨#[c]⟩,.str "0123456789"]=ok (.bl true):=e;rw[<- R.Mt]at e;simp[e]⟩) (by rw[List.length_map];have:w.length=w.cps.toList.length:=oQ w;exact bZ (by left))]
 have:∀l:aJ,az fR (l.map λ_=>D.bl true)=l.map λ_=>D.bl true:=λl=>by
  induction l with
  |nil=>rfl
  |cons a l ih=>exact Yn _ ih
 rw[this]
theorem all_true(l:aJ):pB .all1 [.lst .ow (l.map λ_=>D.bl true)]=ok (.bl true):=by
 show(match gf (l.map λ_=>D.bl true)with|some bs=>ok (D.bl (bs.all id))|none=>none)=_;have:(l.map λ_=>D.bl true)=(l.map λ_=>true).map D.bl:=by rw[List.map_map];rfl
 rw[this,gW];show ok (D.bl ((l.map λ_=>true).all id))=_;rw[show(l.map λ_=>true).all id=true by simp]
theorem Pm(Φ:aQ)(R:Nk Φ):AG (mk Φ 2 2 Ay):=by
 intro n hn;have hd:=oJ n;have zr:=yP n;have hl:=oI hn;have e1:=Ii R hd hl [some (.int 40)];have e2:=all_true (tS n).cps.toList;have e3:Φ 1098 [.str (tS n)]=ok (.int (tS n).length):=by rw[R.Mo];exact Yv (by left)
 have e4:Φ 1099 [.str (tS n)]=ok (.int n):=by
  rw[R.Mn];show wo (tS n)=_;unfold wo;rw[yO hn];exact Yv (by left)
 have q0:((tS n:Str) == "")=false:=Za λz=>zr (by rw[z];decide +kernel);have hg:¬ (40:Int)<(tS n).length:=by left
 have key:(tS n:Str) = "0" \/ ((tS n:Str) == "0")=false/\∃c:Nat,Φ 1097 [.str (tS n),.int 0]=ok (.str ⟨#[c]⟩)/\((⟨#[c]⟩:Str) == "0")=false:=by
  by_cases z:(tS n:Str) = "0"
  ·exact .inl z
  ·refine .inr ⟨Za z,?_⟩;have h0:0<n:=by
    rcases Nat.eq_zero_or_pos n with h|h
    ·subst h;exact absurd (by decide +kernel) z
    ·exact h
   obtain⟨c,r,e,hc⟩:=Ae n h0;rw[<- lZ]at e;refine⟨c,?_,Za λz=>hc ?_⟩
   ·rw[R.Mp];show(match L2.pQ (tS n).cps.toList 0 with|some c=>if (tS n).length<=1000000 then ok (D.str ⟨#[c]⟩)else none|none=>none)=_;have:L2.pQ (tS n).cps.toList 0=some c:=by
     rw[show(tS n).cps.toList=c::r from e];unfold L2.pQ L2.sU;rw[if_pos (by decide),if_pos (by simp)];rfl
    rw[this];exact Yv (by left)
   ·have:=Yn cl z;rw[show cl "0" = [48] by decide +kernel]at this;exact(YG this).1
 generalize (tS n).cps.toList.map (λ_=>D.bl true)=A at *;generalize tS n=w at *;rcases key with rfl|⟨k1,c,k2,k3⟩
 ·simp[mk_eq,Ay,e1,e2,e3,e4,q0,hg]
 ·simp[mk_eq,Ay,e1,e2,e3,e4,q0,hg,k1,k2,k3]
noncomputable def w4:ag:=[.ifs (.not (.bq 1095 [(.v 0),(.str "-")])) [.ret (.call 115 [(.v 0),(.v 1)])] [],.asg (.nm 2) (.call 115 [(.bq 1096 [(.v 0),(.int 1)]),(.v 1)]),.ret (.ite (.cmp .G9 (.v 2) .bw) .bw (.neg (.v 2)))]
def Nb(m:aw):Prop:=∀i:Int,i.natAbs<10 ^ 40->m [.str (tS i),.int 40]=ok (.int i)
theorem start_iff(w:Str):PySem.Txt.startswith w "-" = decide ((cl w)[0]?=some 45):=by
 have h:=PySem.StrLaws.subAt_one w 45 0;have e:("-" : Str)=⟨#[45]⟩:=by decide +kernel
 rw[e];unfold PySem.Txt.startswith;by_cases z:(cl w)[0]?=some 45
 ·have:=h.mpr z;rw[decide_eq_true z,decide_eq_true this.1,this.2];rfl
 ·rw[decide_eq_false z];cases hs:PySem.Builtin.Str.subAt w ⟨#[45]⟩ 0 with
  |false=>rw[Bool.and_false]
  |true =>
   rw[Bool.and_true];exact Yt λhl=>z (h.mp ⟨hl,hs⟩)
theorem Pn(Φ:aQ)(Mr:Φ 1095=rZ jx)(Mq:Φ 1096=vf)(qX:AG (Φ 115)):Nb (mk Φ 2 3 w4):=by
 intro i hi;have es:∀w:Str,Φ 1095 [.str w,.str "-"]=ok (.bl (decide ((cl w)[0]?=some 45))):=λw=>by
  rw[Mr];show jx w "-" = _;unfold jx;rw[start_iff]
 cases i with
 |ofNat m =>
  have hm:m<10 ^ 40:=hi;have e1:=qX m hm;have e2:decide ((cl (tS m))[0]?=some 45)=false:=Yt λz=>by
   have:=oJ m 45 (Yk z);left
  have e3:=es (tS m);rw[e2]at e3;show mk Φ 2 3 w4 [.str (tS m),.int 40]=ok (.int m);generalize tS m=w at *;simp[mk_eq,w4,e1,e3]
 |negSucc m =>
  have hm:m+1<10 ^ 40:=hi;have e1:=qX (m+1) hm;have hc:=Iy m;have e3:=es (tS (Int.negSucc m));rw[hc]at e3;have l1:=oI hm;have hl:(tS (Int.negSucc m)).length=(tS ((m+1:Nat):Int)).length+1:=by rw[oQ,hc,List.length_cons,oQ]
  have e4:Φ 1096 [.str (tS (Int.negSucc m)),.int 1]=ok (.str (tS ((m+1:Nat):Int))):=by
   rw[Mq];show(if (0<=(1:Int)/\(1:Int)<=(tS (Int.negSucc m)).length)/\(tS (Int.negSucc m)).length<=1000000 then ok (D.str ⟨((cl (tS (Int.negSucc m))).drop (1:Int).toNat).toArray⟩)else none)=_;rw[if_pos ⟨⟨by decide,by left⟩,by left⟩,hc];rfl
  have e5:-(((m+1:Nat)):Int)=Int.negSucc m:=rfl;generalize tS (Int.negSucc m)=w at *;generalize tS ((m+1:Nat):Int)=u at *;generalize ((m+1:Nat):Int)=z at *;rw[<- e5];simp at e3;have ci:dM .G9 (.int z) .bw=ok (.bl false):=rfl;simp[mk_eq,w4,e1,e3,e4,ci]
noncomputable def Az:ag:=[.asg (.nm 2) (.bq 1094 [(.v 0),(.str "/")]),.asg (.nm 3) (.ite (.cmp .eq (.ix (.v 2) (.int 1)) (.str "")) (.int 1) (.call 115 [(.ix (.v 2) (.int 2)),(.v 1)])),.asg (.nm 4) (.tup [(.call 116 [(.ix (.v 2) (.int 0)),(.v 1)]),(.v 3)]),.ifs (.or [(.not (.call 3 [(.v 4)])),(.cmp .ne (.call 111 [(.v 4)]) (.v 0))]) [.ret .bw] [],.ret (.v 4)]
def II(m:aw):Prop:=∀q:Rat,EL q->m [.str (dg q),.int 40]=ok (qD q)
theorem Pq(Φ:aQ)(Ms:Φ 1094=rZ nj)(h3:cN (Φ 3))(zL:jm (Φ 111))(qX:AG (Φ 115))(RK:Nb (Φ 116)):II (mk Φ 2 5 Az):=by
 intro q hq;have e1:=RK q.num hq.1;have e2:=qX q.den hq.2;have e3:=h3 (qD q);rw[o3]at e3;have e4:=zL q hq;have l1:=kl hq;have hd:qD q=.tup [.int q.num,.int q.den]:=rfl;have n1:47∉cl (tS q.num):=ej (by decide) _;have ep:∀a b c:Str,PySem.Txt.partition (dg q) "/" = (a,b,c)->Φ 1094 [.str (dg q),.str "/"]=ok (.tup [.str a,.str b,.str c]):=λa b c h=>by
  rw[Ms];show nj (dg q) "/" = _;unfold nj;rw[h];exact Yv ⟨by left,by rw[fN];decide⟩
 by_cases z:q.den=1
 ·have ht:dg q=tS q.num:=Yv z;have ep:=ep (tS q.num) Str.empty Str.empty (by rw[ht,fN,vW n1]);rw[z]at hd;rw[hd]at e3 e4 ⊢;rw[show(((1:Nat):Int))=1 from rfl]at e3 e4 ⊢;have e0:(Str.empty==("" : Str))=true:=by decide +kernel
  generalize dg q=w at *;generalize tS q.num=u at *;simp[mk_eq,Az,ep,e0,e1,e3,e4]
 ·have ht:dg q=tS q.num ++ "/" ++ tS q.den:=Zh z;have ep:=ep (tS q.num) ⟨#[47]⟩ (tS q.den) (by rw[ht,fN,vV n1]);rw[hd]at e3 e4 ⊢;have e0:((⟨#[47]⟩:Str)==("" : Str))=false:=by decide +kernel
  generalize dg q=w at *;generalize tS q.num=u at *;generalize tS (q.den:Int)=v at *;simp[mk_eq,Az,ep,e0,e1,e2,e3,e4]
theorem nB{c s:Nat}(hc:c≠s):∀{ps:af},(∀p∈ps,c∉cl p)->c∉cl (Str.join ⟨#[s]⟩ ps)
 |[],_=>by show c∉[];exact Zt
 |[p],h=>h p X9
 |p::q::r,h=>by
  rw[jb,List.mem_append,List.mem_cons];rintro (z|z|z)
  ·exact h p X9 z
  ·exact hc z
  ·exact nB hc (λx hx=>h x (X_ _ hx)) z
theorem p3{c:Nat}(hc:c≠45/\(c<48\/57<c))(Mf:c≠47)(q:Rat):c∉cl (dg q):=by
 unfold dg;by_cases z:q.den=1
 ·rw[if_pos z];exact ej hc _
 ·rw[if_neg z,fN,eF,eF,List.mem_append,List.mem_append];rintro ((z|z)|z)
  ·exact ej hc _ z
  ·exact Mf (List.mem_singleton.mp z)
  ·exact ej hc _ z
theorem qo{c:Nat}(hc:c≠45/\(c<48\/57<c))(Mf:c≠47)(WO:c≠58)(r:Row):∀p∈dg r.1 :: ":" :: r.2.map tS,c∉cl p:=λp hp=>by
 rcases List.mem_cons.mp hp with rfl|hp
 ·exact p3 hc Mf _
 rcases List.mem_cons.mp hp with rfl|hp
 ·rw[show cl ":" = [58] by decide +kernel];exact λz=>WO (List.mem_singleton.mp z)
 obtain⟨x,_,rfl⟩:=List.mem_map.mp hp;exact ej hc x
theorem wx{c:Nat}(hc:c≠45/\(c<48\/57<c))(hh:c∉cl "houses ")(n:Nat):c∉cl ("houses " ++ tS n):=by
 rw[eF,List.mem_append];rintro (z|z)
 ·exact hh z
 ·exact ej hc _ z
theorem xE(r:Row):10∉cl (eR r):=by
 show 10∉cl (PySem.Builtin.Str.glued _ _);rw[PySem.StrLaws.glued_eq_join,c8];exact nB (by decide) (qo (by decide) (by decide) (by decide) r)
theorem iW(i_:Φ 1093=rZ e_){x:Str}(hx:x.length<=1000000)(hs:sep.length≠0)(h:PySem.Txt.split x sep=ps):Φ 1093 [.str x,.str sep]=ok (.lst .ow (aK ps)):=by
 rw[i_];show e_ x sep=_;unfold e_;rw[h];exact Yv ⟨hx,hs⟩
noncomputable def DC:ag:=[.asg (.nm 1) (.bq 1093 [(.v 0),(.str " ")]),.ifs (.or [(.cmp .ne (.bf .len [(.v 1)]) (.int 2)),(.cmp .ne (.ix (.v 1) (.int 0)) (.str "houses"))]) [.ret .bw] [],.ret (.call 115 [(.ix (.v 1) (.int 1)),(.glo "LONGEST" 40)])]
def Nh(m:aw):Prop:=∀n:Nat,n<=12->m [.str ("houses " ++ tS n)]=ok (.int n)
theorem Pu(Φ:aQ)(i_:Φ 1093=rZ e_)(qX:AG (Φ 115)):Nh (mk Φ 1 2 DC):=by
 intro n hn;have l1:=gA (Lb hn);have e1:=qX n (by have:=Lb hn;rwa [Int.natAbs_natCast]at this);have e0:("houses " : Str)++tS n=PySem.Txt.join " " ["houses",tS n]:=by
  show _=PySem.Builtin.Str.glued _ _;rw[PySem.StrLaws.glued_eq_join];show _=("houses" : Str) ++ " " ++ tS n;exact Yn (· ++ tS (n:Int)) (by decide +kernel)
 have hh:(("houses " : Str)).length=7:=by decide +kernel
 have e2:Φ 1093 [.str ("houses " ++ tS n),.str " "]=ok (.lst .ow (aK ["houses",tS n])):=iW i_ (by rw[my];left) (by rw[c8];decide) (by
  rw[e0,c8];refine fL (by simp) λp hp=>?_;rcases List.mem_cons.mp hp with rfl|hp
  ·decide +kernel
  ·rw[List.mem_singleton.mp hp];exact ej (by decide) _)
 have e2:Φ 1093 [.str ("houses " ++ tS n),.str " "]=ok (.lst .ow [.str "houses",.str (tS n)]):=e2;generalize ("houses " : Str)++tS n=w at *;generalize tS (n:Int)=u at *;simp[mk_eq,DC,e1,e2]
noncomputable def zZ:CE:=.comp 1 (.nm 0) [] .seq [(.bq 1020 [(.v 1),(.int 2)])] [] (.call 115 [(.v 0),(.glo "LONGEST" 40)])
def Dz:ag:=[.asg (.nm 1) (.bq 1093 [(.v 0),(.str " ")]),.ifs (.or [(.cmp .lt (.bf .len [(.v 1)]) (.int 2)),(.cmp .ne (.ix (.v 1) (.int 1)) (.str ":"))]) [.ret .bw] [],.ret (.tup [(.call 117 [(.ix (.v 1) (.int 0)),(.glo "LONGEST" 40)]),(.bf .tuple1 [zZ])])]
def Nc(m:aw):Prop:=∀r:Row,DR r->m [.str (eR r)]=ok (rD r)
theorem rA(lK:Φ 1020=cutD true)(f:Fl){a b:af}:Φ 1020 [.lst f (aK (a++b)),.int (a.length:Int)]=ok (.lst .ow (aK b)):=by
 rw[lK];show(if (0:Int)<=a.length/\(a.length:Int)<=((aK (a++b)).length:Nat)then ok (D.lst .ow (az a_ (lX true (a.length:Int).toNat (aK (a++b)))))else none)=_;rw[if_pos ⟨by left,by rw[fm,List.length_append];left⟩];show ok (D.lst .ow (az a_ ((aK (a++b)).drop (a.length:Int).toNat)))=_;have:(aK (a++b)).drop (a.length:Int).toNat=aK b:=by
  unfold aK;rw[Int.toNat_natCast,List.map_append,List.drop_left' (by rw[List.length_map])]
 rw[this,bU]
theorem Po(Φ:aQ)(i_:Φ 1093=rZ e_)(lK:Φ 1020=cutD true)(qX:AG (Φ 115))(Hz:II (Φ 117)):Nc (mk Φ 1 2 Dz):=by
 intro r hr;have l1:=t8 hr;have l2:=hr.2.1;have e1:=Hz r.1 hr.1;have e2:Φ 1093 [.str (eR r),.str " "]=ok (.lst .ow (aK (dg r.1 :: ":" :: r.2.map tS))):=iW i_ (by left) (by rw[c8];decide) (by
  unfold eR;rw[c8];exact fL (by simp) (qo (by decide) (by decide) (by decide) r))
 have e3:∀(c0:aH),bj Φ zZ [c0,some (.lst .ow (aK (dg r.1 :: ":" :: r.2.map tS)))]=ok (.lst .ow (au r.2)):=λc0=>by
  have hc:=λf=>rA lK f (a:=[dg r.1,":"]) (b:=r.2.map tS);have hc:∀f,Φ 1020 [.lst f (aK (dg r.1 :: ":" :: r.2.map tS)),.int 2]=ok (.lst .ow (aK (r.2.map tS))):=hc;unfold zZ;rw[bW (xs:=[.lst .ow (aK (r.2.map tS))]) (items:=r.2.map λx=>D.str (tS x)) (ds:=r.2.map D.int) (by simp[hc]) (by
   rw[cv,bU];unfold aK;rw[List.map_map];rfl) (bM λx hx=>⟨[some (.str (tS x))],rfl,by simp,by
    obtain⟨k,rfl⟩:=Int.eq_ofNat_of_zero_le (hr.2.2 x hx).1;have:=qX k (by have:=Oe (hr.2.2 _ hx);rwa [Int.natAbs_natCast]at this);simp[this]⟩) (by rw[List.length_map];exact bZ (by left))]
  have:r.2.map D.int=au r.2:=rfl;rw[this,dG]
 have e4:aK (dg r.1 :: ":" :: r.2.map tS)=.str (dg r.1)::.str ":" :: aK (r.2.map tS):=rfl;rw[e4]at e2 e3;have ms:=bU a_ (r.2.map tS);have mh:=λg=>lI g (r.2.map tS);have hl:(aK (r.2.map tS)).length=r.2.length:=by rw[fm,List.length_map]
 have hd:rD r=.tup [qD r.1,.tup (au r.2)]:=rfl;rw[hd];generalize aK (r.2.map tS)=A at *;generalize eR r=w at *;generalize dg r.1=u at *;have fj:¬ ((A.length:Int)+1+1<2):=by left
 simp[mk_eq,Dz,e1,e2,e3,ms,mh,fj]
noncomputable def DH:ag:=[.ifs (.not (.g5 (.v 0) .str)) [.rs 11] []]
def IM(m:aw):Prop:=∀s:Str,m [.str s]=ok .bw
theorem PC(Φ:aQ):IM (mk Φ 1 1 DH):=by
 intro s;simp[mk_eq,DH,b8]
noncomputable def z0:CE:=.comp 1 (.nm 0) [] .seq [(.bq 1020 [(.v 1),(.int 1)])] [] (.call 119 [(.v 0)])
def DB:ag:=[.ex (.call 120 [(.v 0)]),.asg (.nm 1) (.bq 1093 [(.v 0),(.str "\n")]),.asg (.nm 2) (.tup [(.call 118 [(.ix (.v 1) (.int 0))]),z0]),.ifs (.not (.call 16 [(.v 2)])) [.rs 11] [],.ret (.v 2)]
def Ng(m:aw):Prop:=∀n rs,Dr 6 n rs->rs.length<=5->m [.str (p4 n rs)]=ok (.tup [.int n,.lst .ow (bY rs)])
theorem Pt(Φ:aQ)(i_:Φ 1093=rZ e_)(lK:Φ 1020=cutD true)(RF:IL (Φ 16))(RJ:Nh (Φ 118))(RI:Nc (Φ 119))(Hy:IM (Φ 120)):Ng (mk Φ 1 3 DB):=by
 intro n rs I hl;have hr:=I.NI;have e0:=Hy (p4 n rs);have e1:=RJ n I.n2;have l1:=(sj .ow I.n2 hl hr).2;have e5:=RF 6 n rs I;have e2:Φ 1093 [.str (p4 n rs),.str "\n"]=ok (.lst .ow (aK (("houses " ++ tS n)::rs.map eR))):=iW i_ (by left) (by rw[FL];decide) (by
  unfold p4;rw[FL];refine fL (by simp) λp hp=>?_;rcases List.mem_cons.mp hp with rfl|hp
  ·exact wx (by decide) (by decide +kernel) n
  ·obtain⟨r,_,rfl⟩:=List.mem_map.mp hp;exact xE r)
 have e3:∀(c0 c2:aH),bj Φ z0 [c0,some (.lst .ow (aK (("houses " ++ tS n)::rs.map eR))),c2]=ok (.lst .ow (bY rs)):=λc0 c2=>by
  have hc:=λf=>rA lK f (a:=["houses " ++ tS n]) (b:=rs.map eR);have hc:∀f,Φ 1020 [.lst f (aK (("houses " ++ tS n)::rs.map eR)),.int 1]=ok (.lst .ow (aK (rs.map eR))):=hc;unfold z0;rw[bW (xs:=[.lst .ow (aK (rs.map eR))]) (items:=rs.map λr=>D.str (eR r)) (ds:=rs.map rD) (by simp[hc]) (by
   rw[cv,bU];unfold aK;rw[List.map_map];rfl) (bM λr QQ=>⟨[some (.str (eR r))],rfl,by simp,by simp[RI r (hr r QQ)]⟩) (by rw[List.length_map];exact bZ (by left))]
  have:rs.map rD=bY rs:=rfl;rw[this,fw]
 have e4:aK (("houses " ++ tS n)::rs.map eR)=.str ("houses " ++ tS n)::aK (rs.map eR):=rfl;rw[e4]at e2 e3;have mh:=λg=>lI g (rs.map eR);have hd:bD n rs=.tup [.int n,.lst .fz (bY rs)]:=rfl;rw[hd]at e5;generalize aK (rs.map eR)=A at *;generalize p4 n rs=w at *;generalize ("houses " : Str)++tS n=u at *;simp[mk_eq,DB,e0,e1,e2,e3,e5,mh]
noncomputable def C1:CE:=.comp 1 (.nm 0) [] .seq [(.bq 1093 [(.v 0),(.str " ")])] [] (.call 117 [(.v 0),(.glo "LONGEST" 40)])
def DA:ag:=[.ex (.call 120 [(.v 0)]),.asg (.nm 1) C1,.ifs (.bq 1036 [.bw,(.v 1)]) [.rs 11] [],.ret (.v 1)]
def Nf(m:aw):Prop:=∀qs,EM qs->m [.str (si qs)]=ok (.lst .ow (b0 qs))
theorem Pp(Φ:aQ)(i_:Φ 1093=rZ e_)(Mv:Φ 1036=Ca)(Hz:II (Φ 117))(Hy:IM (Φ 120)):Nf (mk Φ 1 2 DA):=by
 intro qs h;have hl:=h.2.1;have h1:=h.1;have e0:=Hy (si qs);have l1:=(sh .ow h).2;have e2:Φ 1093 [.str (si qs),.str " "]=ok (.lst .ow (aK (qs.map dg))):=iW i_ (by left) (by rw[c8];decide) (by
  unfold si;rw[c8];refine fL (λz=>by have:=Yn List.length z;simp at this;rw[this]at h1;simp at h1) λp hp=>?_;obtain⟨q,_,rfl⟩:=List.mem_map.mp hp;exact p3 (by decide) (by decide) q)
 have e3:∀(c1:aH),bj Φ C1 [some (.str (si qs)),c1]=ok (.lst .ow (b0 qs)):=λc1=>by
  unfold C1;rw[bW (xs:=[.lst .ow (aK (qs.map dg))]) (items:=qs.map λq=>D.str (dg q)) (ds:=qs.map qD) (by simp[e2]) (by
   rw[cv,bU];unfold aK;rw[List.map_map];rfl) (bM λq hq=>⟨[some (.str (dg q))],rfl,by simp,by simp[Hz q (h.2.2 q hq)]⟩) (by rw[List.length_map];exact bZ (by left))]
  have:qs.map qD=b0 qs:=rfl;rw[this,lp]
 have e4:∀f,Φ 1036 [.bw,.lst f (b0 qs)]=ok (.bl false):=λf=>by
  rw[Mv];show(if (b0 qs).all iu then ok (D.bl ((b0 qs).any jH))else none)=_;have a1:∀l:aM,(b0 l).all iu=true:=λl=>by
   induction l with
   |nil=>rfl
   |cons q l ih=>exact ih
  have a2:∀l:aM,(b0 l).any jH=false:=λl=>by
   induction l with
   |nil=>rfl
   |cons q l ih=>exact ih
  rw[if_pos (a1 qs),a2]
 generalize si qs=w at *;simp[mk_eq,DA,e0,Lx Φ C1 _ rfl,e3,e4]
noncomputable def l5:ag:=[.asg (.nm 2) (.call 200 [(.v 0),(.v 1)]),.asg (.nm 3) (.call 256 [(.v 0),(.bin .add (.v 1) (.int 1)),(.bin .add (.int 1) (.bin .mod (.v 2) (.int 9)))]),.ifs (.cmp .eq (.bin .mod (.bin .fdiv (.v 2) (.int 9)) (.int 4)) (.int 1)) [.app 3 (.call 201 [(.bin .mod (.call 200 [(.v 0),(.bin .add (.v 1) (.int 1))]) (.bin .pow (.int 10) (.int 40))),(.bin .add (.int 1) (.bin .mod (.call 200 [(.v 0),(.v 1)]) (.bin .pow (.int 10) (.int 39))))])] [],.ret (.v 3)]
def AI(m:aw):Prop:=∀(ns:aa) (k:Int),0<=k->∃qs:aM,m [.lst .sc (au ns),.int k]=ok (.lst .ow (b0 qs))/\EM qs
theorem BK{t b:Int}(ht:t.natAbs<10 ^ 40)(Oa:0<b)(hb:b.natAbs<10 ^ 40):EL (Rat.divInt t b):=by
 obtain⟨h1,h2⟩:=iY (t:=t) (show b≠0 by left);exact⟨Yo h1 ht,Yo h2 hb⟩
theorem FO(Φ:aQ)(wF:pM (Φ 200))(zK:jn (Φ 201))(RB:EJ (Φ 256)):AI (mk Φ 2 4 l5):=by
 intro ns k hk;have e1:=wF ns k hk;have e2:=wF ns (k+1) (by left);generalize gF ns k=N at *;generalize gF ns (k+1)=M at *;obtain⟨f1,f2⟩:=dD N (b:=9) (by decide);obtain⟨n,hn⟩:∃n:Nat,1+N.fmod 9=(n:Int):=⟨(1+N.fmod 9).toNat,by left⟩
 obtain⟨qs,e3,hl,hs⟩:=RB ns (k+1) n (by left) (by left);have Mg:∀q∈qs,EL q:=λq hq=>Kf (hs q hq) (by decide);have VN:ck .pow (.int 10) (.int 40)=ok (.int (10 ^ 40)):=vp (by decide);have VO:ck .pow (.int 10) (.int 39)=ok (.int (10 ^ 39)):=vp (by decide);have VR:ck .mod (.int M) (.int (10 ^ 40))=ok (.int (M.fmod (10 ^ 40))):=AA (by decide);have VS:ck .mod (.int N) (.int (10 ^ 39))=ok (.int (N.fmod (10 ^ 39))):=AA (by decide);obtain⟨a1,a2⟩:=dD M (b:=10 ^ 40) (by decide);obtain⟨b1,b2⟩:=dD N (b:=10 ^ 39) (by decide);have O0:(M.fmod (10 ^ 40)).natAbs<10 ^ 40:=by left
 have S0:(1+N.fmod (10 ^ 39)).natAbs<10 ^ 40:=by left
 generalize M.fmod (10 ^ 40)=T at *;generalize hB:N.fmod (10 ^ 39)=B at *;have e4:=zK T (1+B) (by omega) (Y5 S0 (Yc (by decide +kernel:10 ^ 40<2 ^ 140) (Yq (by decide) (by decide))));have hq:=BK O0 (show 0<1+B by omega) S0;generalize Rat.divInt T (1+B)=q at *;have hc:qs.length<fe:=by show _<1000000;left
 have ea:b0 qs++[qD q]=b0 (qs++[q]):=by unfold b0;rw[List.map_append];rfl
 generalize (10:Int) ^ 40=W at *;generalize (10:Int) ^ 39=W' at *;by_cases z:(N.fdiv 9).fmod 4=1
 ·refine⟨qs++[q],?_,by simp,by simp;left,λx hx=>?_⟩
  ·rw[<- ea];simp[mk_eq,l5,e1,e2,hn,e3,z,VN,VO,VR,VS,hB,e4,hc]
  ·rcases List.mem_append.mp hx with hx|hx
   ·exact Mg x hx
   ·rw[List.mem_singleton.mp hx];exact hq
 ·refine⟨qs,?_,by left,by left,Mg⟩;simp[mk_eq,l5,e1,e2,hn,e3,z]
noncomputable def z5:CE:=.comp 1 (.nm 0) [] .seq [(.ix (.v 2) (.int 1))] [(.or [(.not (.g5 (.v 0) .int)),(.g5 (.v 0) .bool)])] (.v 0)
def Bm:ag:=[.ifs (.or [(.not (.g5 (.v 2) .tuple)),(.not (.call 204 [(.ix (.v 2) (.int 0))])),(.not (.g5 (.ix (.v 2) (.int 1)) .tuple))]) [.ret (.bl false)] [],.ifs (.cmp .gt (.bf .len [z5]) (.int 0)) [.ret (.bl false)] []]
def DE:ag:=[.ifs (.or [(.not (.g5 (.v 0) .tuple)),(.cmp .ne (.v 0) (.v 1)),(.g5 (.ix (.v 0) (.int 0)) .bool),(.not (.g5 (.ix (.v 0) (.int 1)) .list))]) [.ret (.bl false)] [],.fr (.nm 2) (.seq (.ix (.v 0) (.int 1))) Bm,.ret (.bl true)]
def Ni(m:aw):Prop:=∀(n:Nat) (rs:aN),rs.length<=5->(∀r∈rs,DR r)->m [bD n rs,bD n rs]=ok (.bl true)
theorem GO(Φ:aQ)(r:Row)(c0 c1:aH):bj Φ z5 [c0,c1,some (rD r)]=ok (.lst .ow []):=by
 have x1:lD (rD r) (.int 1)=ok (.tup (au r.2)):=by unfold rD;simp
 have al:aI a_ (rD r)=rD r:=by unfold rD;simp[aI,az]
 unfold z5;rw[bW (xs:=[.tup (au r.2)]) (items:=r.2.map D.int) (ds:=[]) (by simp[x1,al]) (by rw[kE,dG];rfl) ?_ (by decide)]
 ·rfl
 ·have h:([]:ab)=(r.2.filter λ_=>false).map D.int:=by induction r.2 with
   |nil=>rfl
   |cons a l ih=>exact ih
  rw[h];exact dK (t:=λ_=>false) λx _=>⟨[some (.int x)],rfl,by simp[b8],λh=>nomatch h⟩
theorem uC(Φ:aQ)(qW:rW (Φ 204))(c0 c1:aH):∀(rs:aN) (c2:aH),∃Dw,eN (λd ρ=>cg (.nm 2) d ρ) (λρ=>cj Φ Bm ρ) (bY rs) [c0,c1,c2]=ok (.nx,[c0,c1,Dw])
 |[],c2=>⟨c2,rfl⟩
 |r::rs,c2=>by
  obtain⟨Dw,ih⟩:=uC Φ qW c0 c1 rs (some (rD r));refine⟨Dw,dk (ρ1:=[c0,c1,some (rD r)]) (by simp) (ρ2:=[c0,c1,some (rD r)]) ?_ ih⟩;have e1:=qW r.1;have e2:=GO Φ r c0 c1;have x0:lD (rD r) (.int 0)=ok (qD r.1):=by unfold rD;simp
  have x1:lD (rD r) (.int 1)=ok (.tup (au r.2)):=by unfold rD;simp
  have al:aI a_ (rD r)=rD r:=by unfold rD;simp[aI,az]
  have it:b8 .tuple (rD r)=true:=rfl;have VZ:b8 .tuple (.tup (au r.2))=true:=rfl;generalize rD r=R at *;generalize D.tup (au r.2)=W at *;simp[Bm,x0,x1,al,it,VZ,e1,e2]
theorem Ee(f g:Fl)(n:Nat)(rs:aN):dM .ne (.tup [.int n,.lst f (bY rs)]) (.tup [.int n,.lst g (bY rs)])=ok (.bl false):=by
 have h:∀f,eh 40 (.tup [.int n,.lst f (bY rs)])=true:=λf=>by
  rw[oG,List.all_cons,List.all_cons,dX,B5];have:(bY rs).all (eh 38)=true:=kA (λr=>by
   unfold rD;rw[oG,List.all_cons,List.all_cons,Ec,vY];rfl) rs
  rw[this];rfl
 rw[Dv (h f) (h g),uY,dm,dm,kH,kI,CY];simp
theorem Py(Φ:aQ)(qW:rW (Φ 204)):Ni (mk Φ 2 3 DE):=by
 intro n rs hl hr;have x0:lD (bD n rs) (.int 0)=ok (.int n):=by unfold bD;simp
 have x1:lD (bD n rs) (.int 1)=ok (.lst .fz (bY rs)):=by unfold bD;simp
 have al:aI a_ (bD n rs)=bD n rs:=by unfold bD;simp[aI,az,a_]
 have it:b8 .tuple (bD n rs)=true:=rfl;have i1:b8 .bool (.int n)=false:=rfl;have i2:b8 .list (.lst .fz (bY rs))=true:=rfl;have ne:dM .ne (bD n rs) (bD n rs)=ok (.bl false):=Ee _ _ n rs;obtain⟨c2,el⟩:=uC Φ qW (some (bD n rs)) (some (bD n rs)) rs none;have hit:c_ Φ (.seq (.ix (.v 0) (.int 1))) [some (bD n rs),some (bD n rs),none]=ok (bY rs,[some (bD n rs),some (bD n rs),none]):=by
  rw[Cy (f:=.fz) (ds:=bY rs) (by simp[al,x1])];simp[bA]
 have hf:=gm (Φ:=Φ) (t:=.nm 2) (b:=Bm) hit el;generalize D.lst .fz (bY rs)=L at *;generalize bD n rs=R at *;simp[mk_eq,DE,al,x0,x1,it,i1,i2,ne,hf]
noncomputable def Ey:CE:=.comp 1 (.nm 0) [] .seq [(.v 1)] [] (.call 260 [(.v 0)])
noncomputable def z4:CE:=.comp 1 (.nm 0) [] .seq [(.v 6)] [(.not (.g5 (.v 0) .str))] (.v 0)
noncomputable def z3:CE:=.comp 1 (.nm 0) [] .seq [(.ix (.v 5) (.int 1))] [(.not (.call 204 [(.v 0)]))] (.v 0)
def xR:ag:=[.asg (.nm 5) (.lst [(.call 121 [(.ix (.v 3) (.int 0))]),(.call 122 [(.ix (.v 3) (.int 1))])]),.asg (.nm 6) (.lst [(.call 113 [(.v 2)]),(.call 114 [(.ix (.v 5) (.int 1))])]),.ifs (.or [(.cmp .ne (.v 6) (.v 3)),(.cmp .gt (.bf .len [z4]) (.int 0))]) [.ret (.bl false)] [],.ifs (.or [(.not (.call 219 [(.ix (.v 5) (.int 0)),(.v 0)])),(.not (.g5 (.ix (.v 5) (.int 1)) .list)),(.cmp .ne (.ix (.v 5) (.int 1)) (.v 1))]) [.ret (.bl false)] [],.ifs (.or [(.cmp .gt (.bf .len [z3]) (.int 0)),(.cmp .ne (.v 2) (.v 0))]) [.ret (.bl false)] [],.mut 1350 5 [(.int 0),(.int 1)],.mut 1014 5 [(.int 1)]]
def pE:ag:=[.asg (.nm 2) (.tup [(.ix (.v 0) (.int 0)),(.bf .list1 [(.ix (.v 0) (.int 1))])]),.asg (.nm 3) (.lst [(.call 261 [(.v 0)]),(.bq 1091 [(.str " "),Ey])]),.fr (.nm 4) (.ko (.int 2)) xR,.ret (.bl true)]
def AH(m:aw):Prop:=∀n rs qs,Dr 6 n rs->rs.length<=5->EM qs->m [bD n rs,.lst .fz (b0 qs)]=ok (.bl true)
structure UY(Φ:aQ):Prop where
 tx:mL Φ
 Ml:Φ 1350=vj
 MA:Φ 1014=Dk
 RM:vF (Φ 113)
 RL:vE (Φ 114)
 RH:Ng (Φ 121)
 RG:Nf (Φ 122)
 qW:rW (Φ 204)
 RD:Ni (Φ 219)
 wD:jm (Φ 260)
 RA:vF (Φ 261)
def eP(f:Fl)(n:Nat)(rs:aN):D:=.tup [.int n,.lst f (bY rs)]
def rT(n:Nat)(rs:aN)(qs:aM)(c4 c5 c6:aH):aX:=[some (bD n rs),some (.lst .fz (b0 qs)),some (eP .ow n rs),some (.lst .ow [.str (p4 n rs),.str (si qs)]),c4,c5,c6]
theorem Cd(f g:Fl)(a b:Str):dM .ne (.lst f [.str a,.str b]) (.lst g [.str a,.str b])=ok (.bl false):=by
 rw[Dv (by simp) (by simp),kH,dm,dm,rm];have h:∀s:Str,jX (.str s) (.str s)=true:=λs=>YS s;rw[h,h];rfl
theorem K9(f g:Fl)(qs:aM):dM .ne (.lst f (b0 qs)) (.lst g (b0 qs))=ok (.bl false):=by
 rw[Dv (yE 38 f qs) (yE 38 g qs),kH,CZ,decide_eq_true rfl];rfl
theorem GI(Φ:aQ)(a b:Str)(c0 c1 c2 c3 c4 c5:aH):bj Φ z4 [c0,c1,c2,c3,c4,c5,some (.lst .ow [.str a,.str b])]=ok (.lst .ow []):=by
 unfold z4;rw[bW (xs:=[.lst .al [.str a,.str b]]) (items:=[a,b].map D.str) (ds:=[]) (by simp[aI,az,a_]) (by rw[cv];rfl) (dK (xs:=[a,b]) (g:=D.str) (t:=λ_=>false) λx _=>⟨[some (.str x)],rfl,by simp[b8],λh=>nomatch h⟩) (by decide)];rfl
theorem MH{α:Type}{f:α->D}:∀l:List α,(l.filter λ_=>false).map f=[]
 |[]=>rfl
 |_::l=>MH l
theorem GH(Φ:aQ)(qW:rW (Φ 204))(d:D)(qs:aM)(c0 c1 c2 c3 c4 c6:aH):bj Φ z3 [c0,c1,c2,c3,c4,some (.lst .ow [d,.lst .ow (b0 qs)]),c6]=ok (.lst .ow []):=by
 unfold z3;rw[bW (xs:=[.lst .al (b0 qs)]) (items:=qs.map qD) (ds:=[]) (by simp[aI,az,a_]) (by rw[cv,lp];rfl) (by
  have:=dK (bind:=λd=>cg (.nm 0) d (bB 1 [] [c0,c1,c2,c3,c4,some (.lst .ow [aI a_ d,.lst .ow (b0 qs)]),c6])) (test:=λρ'=>fD Φ [(.not (.call 204 [(.v 0)]))] ρ') (el:=λρ'=>bj Φ (.v 0) ρ') (e:=qD) (xs:=qs) (g:=qD) (t:=λ_=>false) λx _=>⟨[some (qD x)],rfl,by simp[qW x],λh=>nomatch h⟩
  rw[MH]at this;exact this) (by decide)]
 rfl
theorem uz(T:UY Φ){n:Nat}(I:Dr 6 n rs)(hl:rs.length<=5)(hq:EM qs)(c4 c5 c6:aH):∃xj Sj,cj Φ xR (rT n rs qs c4 c5 c6)=ok (.nx,rT n rs qs c4 xj Sj):=by
 have e1:=T.RH n rs I hl;have e2:=T.RG qs hq;have e3:=T.RM n rs I hl;have e4:=T.RL qs hq;have e5:=T.RD n rs hl I.NI;have k1:=GI Φ (p4 n rs) (si qs);have k2:=GH Φ T.qW;have n1:=λf g=>Cd f g (p4 n rs) (si qs);have n2:=λf g=>K9 f g qs;have n3:dM .ne (eP .al n rs) (bD n rs)=ok (.bl false):=Ee _ _ n rs;have z1:Φ 1350 [.lst .ow [eP .ow n rs,.lst .ow (b0 qs)],.int 0,.int 1]=ok (.lst .ow [.tup [.int n,.lst .ow []],.lst .ow (b0 qs)]):=by rw[T.Ml];rfl
 have z2:Φ 1014 [.lst .ow [.tup [.int n,.lst .ow []],.lst .ow (b0 qs)],.int 1]=ok (.lst .ow [.tup [.int n,.lst .ow []],.lst .ow []]):=by rw[T.MA];rfl
 have m1:aI a_ (bD n rs)=bD n rs:=by unfold bD;simp[aI,az,a_]
 have m2:aI aY (bD n rs)=bD n rs:=by unfold bD;simp[aI,az,aY]
 have m3:aI a_ (eP .ow n rs)=eP .al n rs:=by unfold eP;simp[aI,az,a_]
 have m7:aI a_ (eP .al n rs)=eP .al n rs:=by unfold eP;simp[aI,az,a_]
 have m4:aI aY (eP .al n rs)=bD n rs:=by unfold eP bD;simp[aI,az,aY]
 have m5:aI fR (eP .ow n rs)=eP .ow n rs:=by unfold eP;simp[aI,az,fR]
 have m6:bc bA (eP .ow n rs)=false:=by unfold eP;simp[bA]
 have e1:Φ 121 [.str (p4 n rs)]=ok (eP .ow n rs):=e1;unfold rT;generalize p4 n rs=A at *;generalize si qs=B at *;have x1:=sa (Φ:=Φ) (p:=1350) (i:=5) (es:=[(.int 0),(.int 1)]) (ρ:=[some (bD n rs),some (.lst .fz (b0 qs)),some (eP .ow n rs),some (.lst .ow [.str A,.str B]),c4,some (.lst .ow [eP .ow n rs,.lst .ow (b0 qs)]),some (.lst .ow [.str A,.str B])]) (xs:=[.int 0,.int 1]) rfl rfl rfl z1;have x2:=sa (Φ:=Φ) (p:=1014) (i:=5) (es:=[(.int 1)]) (ρ:=[some (bD n rs),some (.lst .fz (b0 qs)),some (eP .ow n rs),some (.lst .ow [.str A,.str B]),c4,some (.lst .ow [.tup [.int n,.lst .ow []],.lst .ow (b0 qs)]),some (.lst .ow [.str A,.str B])]) (xs:=[.int 1]) rfl rfl rfl z2;simp only[List.set]at x1 x2;have k1:=k1 (some (bD n rs)) (some (.lst .fz (b0 qs))) (some (eP .ow n rs)) (some (.lst .ow [.str A,.str B])) c4 (some (.lst .ow [eP .ow n rs,.lst .ow (b0 qs)]));have k2:=k2 (eP .ow n rs) qs (some (bD n rs)) (some (.lst .fz (b0 qs))) (some (eP .ow n rs)) (some (.lst .ow [.str A,.str B])) c4 (some (.lst .ow [.str A,.str B]));have i1:b8 .list (.lst .al (b0 qs))=true:=rfl;generalize bD n rs=R at *;generalize eP .al n rs=Ra at *;generalize eP .ow n rs=Ro at *;exact⟨some (.lst .ow [.tup [.int n,.lst .ow []],.lst .ow []]),some (.lst .ow [.str A,.str B]),by simp[xR,e1,e2,e3,e4,e5,k1,k2,n1,n2,n3,m1,m2,m3,m4,m5,m6,m7,x1,x2,i1]⟩
theorem FN(Φ:aQ)(T:UY Φ):AH (mk Φ 2 7 pE):=by
 intro n rs qs I hl hq;have x0:lD (bD n rs) (.int 0)=ok (.int n):=by unfold bD;simp
 have x1:lD (bD n rs) (.int 1)=ok (.lst .fz (bY rs)):=by unfold bD;simp
 have m1:aI a_ (bD n rs)=bD n rs:=by unfold bD;simp[aI,az,a_]
 have m2:aI aY (bD n rs)=bD n rs:=by unfold bD;simp[aI,az,aY]
 have bl:pB .list1 [.lst .fz (bY rs)]=ok (.lst .ow (bY rs)):=by show ok (D.lst .ow (az a_ (bY rs)))=_;rw[fw]
 have Wu:aR bA (bY rs)=false:=zE _ rs;have e1:=T.RA n rs I hl;have e2:=p9 Φ T.wD hq .fz (by decide) 1 (ρ:=[some (bD n rs),some (.lst .fz (b0 qs)),some (eP .ow n rs),none,none,none,none]) rfl;have e2:bj Φ Ey [some (bD n rs),some (.lst .fz (b0 qs)),some (eP .ow n rs),none,none,none,none]=_:=e2;have e3:=(sh .ow hq).1;rw[<- T.tx.qZ]at e3;have LS:∃c5 c6,eN (λd ρ=>cg (.nm 4) d ρ) (λρ=>cj Φ xR ρ) [.int 0,.int 1] (rT n rs qs none none none)=ok (.nx,rT n rs qs (some (.int 1)) c5 c6):=by
  obtain⟨a5,a6,h1⟩:=uz T I hl hq (some (.int 0)) none none;obtain⟨b5,b6,h2⟩:=uz T I hl hq (some (.int 1)) a5 a6;exact⟨b5,b6,dk rfl h1 (dk rfl h2 rfl)⟩
 obtain⟨c5,c6,el⟩:=LS;have hit:c_ Φ (.ko (.int 2)) (rT n rs qs none none none)=ok ([.int 0,.int 1],rT n rs qs none none none):=by
  rw[G6 (n:=2) rfl (by decide) (by decide)];rfl
 have hf:=gm (Φ:=Φ) (t:=.nm 4) (b:=xR) hit el;unfold rT at hf;have hd:D.tup [.int n,.lst .ow (bY rs)]=eP .ow n rs:=rfl;have m6:bc bA (eP .ow n rs)=false:=by unfold eP;simp[bA]
 generalize p4 n rs=A at *;generalize si qs=B at *;generalize aK (qs.map dg)=W at *;generalize bD n rs=R at *;simp[mk_eq,pE,m1,m2,x0,x1,bl,Wu,hd,m6,e1,e2,e3,hf]
noncomputable def va:CE:=.comp 1 (.nm 0) [0] .seq [(.lst [(.int 0),(.int 4)])] [] (.tup [(.call 212 [(.call 200 [(.v 1),(.v 0)]),(.int 12)]),(.call 230 [(.v 1),(.bin .add (.v 0) (.int 1))])])
noncomputable def mU:ag:=[.ifs (.not (.call 207 [(.ix (.ix (.v 1) (.v 2)) (.int 0)),(.ix (.ix (.v 1) (.v 2)) (.int 1))])) [.ret (.bl false)] []]
def kL:ag:=[.asg (.nm 1) va,.fr (.nm 2) (.seq (.lst [(.int 0),(.int 1),(.int 0)])) mU,.ret (.bl true)]
def aT(n:Nat)(rs:aN)(qs:aM):D:=.tup [eP .ow n rs,.lst .ow (b0 qs)]
theorem MR{bind:D->O aX}{test:aX->O Bool}{el:aX->O D}{a b x y:D}{σ:aX}(h1:bind a=ok ρ)(h2:test ρ=ok true)(h3:el ρ=ok x)(g1:bind b=ok σ)(g2:test σ=ok true)(g3:el σ=ok y):eE bind test el [a,b]=ok [x,y]:=by
 simp[eE,h1,h2,h3,g1,g2,g3]
theorem Lr(Φ:aQ)(wF:pM (Φ 200))(RE:Nj (Φ 212))(RC:AI (Φ 230))(Mk:AH (Φ 207)):∀ns:aa,mk Φ 1 3 kL [.lst .sc (au ns)]=ok (.bl true):=by
 intro ns;have turn:∀k:Int,0<=k->∃n rs qs,Dr 6 n rs/\rs.length<=5/\EM qs/\bj Φ (.tup [(.call 212 [(.call 200 [(.v 1),(.v 0)]),(.int 12)]),(.call 230 [(.v 1),(.bin .add (.v 0) (.int 1))])]) [some (.int k),some (.lst .sc (au ns))]=ok (aT n rs qs):=λk hk=>by
  have e1:=wF ns k hk;obtain⟨n,rs,e2,I,hl,_⟩:=RE (gF ns k) 12 (by decide) (by decide);obtain⟨qs,e3,hq⟩:=RC ns (k+1) (by left);refine⟨n,rs,qs,I,hl,hq,?_⟩;have e2:Φ 212 [.int (gF ns k),.int 12]=ok (eP .ow n rs):=e2;have m5:aI fR (eP .ow n rs)=eP .ow n rs:=by unfold eP;simp[aI,az,fR]
  generalize gF ns k=N at *;simp[e1,e2,e3,m5,aT,a_,fR,aI]
 obtain⟨n,rs,qs,I,hl,hq,e1⟩:=turn 0 (by decide);obtain⟨n',iX,BJ,I',pP,QS,e2⟩:=turn 4 (by decide);clear turn;have fa:∀n rs qs,aI fR (aT n rs qs)=aT n rs qs:=λn rs qs=>by unfold aT eP;simp[aI,az,fR]
 have ha:∀n rs qs,bc bA (aT n rs qs)=false:=λn rs qs=>by unfold aT eP;simp[bA]
 have e3:∀c1 c2,bj Φ va [some (.lst .sc (au ns)),c1,c2]=ok (.lst .ow [aT n rs qs,aT n' iX BJ]):=λc1 c2=>by
  unfold va;rw[bW (xs:=[.lst .ow [.int 0,.int 4]]) (items:=[.int 0,.int 4]) rfl rfl (MR (ρ:=[some (.int 0),some (.lst .sc (au ns))]) (σ:=[some (.int 4),some (.lst .sc (au ns))]) (by simp[bB,aI,aY]) rfl e1 (by simp[bB,aI,aY]) rfl e2) (by show(2:Nat)<=1000000;decide)];simp[fa]
 have g1:Φ 207 [bD n rs,.lst .fz (b0 qs)]=ok (.bl true):=Mk n rs qs I hl hq;have g2:Φ 207 [bD n' iX,.lst .fz (b0 BJ)]=ok (.bl true):=Mk n' iX BJ I' pP QS;have tn:∀(k:Int),k=0\/k=1->cj Φ mU [some (.lst .sc (au ns)),some (.lst .ow [aT n rs qs,aT n' iX BJ]),some (.int k)]=ok (.nx,[some (.lst .sc (au ns)),some (.lst .ow [aT n rs qs,aT n' iX BJ]),some (.int k)]):=λk hk=>by
  have w:∀n rs,aI aY (aI a_ (eP .ow n rs))=bD n rs:=λn rs=>by unfold eP bD;simp[aI,az,aY,a_]
  have w':∀n rs,aI aY (aI a_ (aI a_ (eP .ow n rs)))=bD n rs:=λn rs=>by unfold eP bD;simp[aI,az,aY,a_]
  have w2:∀n rs,aI a_ (aI a_ (eP .ow n rs))=aI a_ (eP .ow n rs):=λn rs=>by unfold eP;simp[aI,az,a_]
  rcases hk with rfl|rfl
  ·simp[mU,aT,aI,az,a_,aY,w,w',w2,g1]
  ·simp[mU,aT,aI,az,a_,aY,w,w',w2,g2]
 have el:eN (λd ρ=>cg (.nm 2) d ρ) (λρ=>cj Φ mU ρ) [.int 0,.int 1,.int 0] [some (.lst .sc (au ns)),some (.lst .ow [aT n rs qs,aT n' iX BJ]),none]=ok (.nx,[some (.lst .sc (au ns)),some (.lst .ow [aT n rs qs,aT n' iX BJ]),some (.int 0)]) :=
  dk rfl (tn 0 (.inl rfl)) (dk rfl (tn 1 (.inr rfl)) (dk rfl (tn 0 (.inl rfl)) rfl))
 have hf:=gm (Φ:=Φ) (t:=.nm 2) (b:=mU) (it:=.seq (.lst [(.int 0),(.int 1),(.int 0)])) rfl el;have Mc:=ha n rs qs;have WD:=ha n' iX BJ;generalize aT n rs qs=P at *;generalize aT n' iX BJ=Q at *;simp[mk_eq,kL,Lx Φ va _ rfl,e3,Mc,WD,hf]
end DI
end
section
namespace DI
open PySem PySem.Spec PyProof.Rows L2
def Df(K:ao)(x:Str)(st:Stmt):Prop:=∃f fd,DV K x x st f fd/\PySem.W.nsIn K mainGlobals x=some (some (.ref f))
variable {K:ao}{st:Stmt}
theorem dmk{x:Str}{f:Addr}{oc:Value}{od an:Option Addr}{sl:Array (Option Value)}{kV dc pm cd ct:Value}(a:PySem.W.nsIn K mainGlobals x=some (some (.ref f)))(l:K.lookup f=some ⟨oc,od,.func (PySem.W.fnOf x x (eW st) (cO st) (bu st) .none kV dc pm an cd ct),sl⟩)(c:PySem.W.codeIn K cd x=true)(k:PySem.W.keepIn K (.ref f)=true):Df K x st:=⟨f,_,HD l c k,a⟩
noncomputable def Us(N P:af)(sc:Scope):Bool:=decide (sc.kind=.function)&&(!sc.isCoroutine&&(!sc.isGenerator&&(decide N.Nodup&&(decide (N.take P.length=P)&&(P.all (λx=>decide (sc.names.lookup x=some .local\/sc.names.lookup x=some .cell))&&sc.names.all λy=>decide (y.2≠.free))))))
variable {N:af}
theorem Et{P:af}{sc:Scope}(h:Us N P sc=true):gZ N P sc:=by
 obtain⟨h1,h⟩:=aL h;obtain⟨h2,h⟩:=aL h;obtain⟨h3,h⟩:=aL h;obtain⟨h4,h⟩:=aL h;obtain⟨h5,h⟩:=aL h;obtain⟨h6,h7⟩:=aL h;exact⟨X5 h1,jS h2,jS h3,X5 h4,X5 h5,λx hx=>X5 (List.all_eq_true.mp h6 x hx),λy hy=>X5 (List.all_eq_true.mp h7 y hy)⟩
def Ov(st:Stmt)(N ps:af)(tb:List (Nat×Str))(bl:af)(cs:List (Str×GK))(px:Px)(b:ag):Bool:=Us N ps (bu st)&&jc ⟨bu st,N,λn=>List.lookup n tb,bl,cs,px⟩ b (cO st)
theorem u1{α:Type}{P:List α->Prop}(h:∀a,P [a])(us:List α)(e:us.length=1):P us:=by obtain⟨a,rfl⟩:=Lq e;exact h a
theorem u2{α:Type}{P:List α->Prop}(h:∀a b,P [a,b])(us:List α)(e:us.length=2):P us:=by obtain⟨a,b,rfl⟩:=Lp e;exact h a b
theorem u3{α:Type}{P:List α->Prop}(h:∀a b c,P [a,b,c])(us:List α)(e:us.length=3):P us:=by obtain⟨a,b,c,rfl⟩:=Lo e;exact h a b c
theorem u4{α:Type}{P:List α->Prop}(h:∀a b c d,P [a,b,c,d])(us:List α)(e:us.length=4):P us:=by obtain⟨a,b,c,d,rfl⟩:=Qi e;exact h a b c d
theorem u5{α:Type}{P:List α->Prop}(h:∀a b c d e,P [a,b,c,d,e])(us:List α)(e:us.length=5):P us:=by
 match us,e with
 |[a,b,c,d,e],_=>exact h a b c d e
variable {P:aE}{base:Heap}{mg:Str->Option Value}{w:World}
theorem Ent.u{k k':Nat}{y:Str}{m:aw}(h:Ent P w K mg base k y m)(hk:k<=k':=by decide):Ent P w K mg base k' y m:=h.up hk
theorem en{h:Heap}(X:K.In h)(G:h.Ns mainGlobals mg)⦃x:Str⦄⦃st:Stmt⦄⦃N ps bl:af⦄⦃tb:List (Nat×Str)⦄⦃cs:List (Str×GK)⦄⦃px:Px⦄⦃b:ag⦄(k:Nat)(Φ:aQ)(m:aw)(d:Df K x st)(hc:Ov st N ps tb bl cs px b=true)
  (hp:tZ px Φ/\IP px Φ) (CK:cT (λy=>mg y=none) bl) (s_:cT (λp:Str×GK=>∃u,mg p.1=some u/\AM K p.2 u) cs)
  (hf:cT (λp:Nat×Str=>Ent P w K mg base k p.2 (Φ p.1)) tb) (hm:∀ds r,m ds=ok r->ds.length=ps.length/\ou Φ N.length b ds=ok r) (hb:∀(kV doc pm:Value) (an:Option Addr) (ig ct:Value) (us:ak),us.length=ps.length->bindArgs (PySem.W.fnOf x x (eW st) (cO st) (bu st) .none kV doc pm an ig ct) ⟨us,[]⟩=pure (ps.zip us):=by first|exact λ_ _ _ _ _ _=>u1 λ_=>rfl|exact λ_ _ _ _ _ _=>u2 λ_ _=>rfl|exact λ_ _ _ _ _ _=>u3 λ_ _ _=>rfl|exact λ_ _ _ _ _ _=>u4 λ_ _ _ _=>rfl|exact λ_ _ _ _ _ _=>u5 λ_ _ _ _ _=>rfl):Ent P w K mg base (k+1) x m:=by
 obtain⟨f,fd,Fu,a⟩:=d;obtain⟨h1,h2⟩:=aL hc;exact ent Fu (Zs X G a) (Fu.binds hb) (Et h1) h2 hp.1 hp.2 (cT.mem CK) (cT.two (P:=λy i=>∃u,mg y=some u/\AM K i u) s_) (cT.tab (P:=λg y=>Ent P w K mg base k y (Φ g)) hf) hm
noncomputable def xm(PT F:aQ)(i:Nat)(m:aw):aQ:=λn=>bif Nat.ble 1000 n then PT n else bif Nat.beq n i then m else F n
theorem TL{α:Type}{Q:Nat->Prop}(p:Nat){k:Nat}{a b c:α}(h:(if p=k then a else b)=c)(h1:a=c->Q k)(h2:b=c->Q p):Q p:=by
 by_cases e:p=k
 ·subst e;rw[if_pos rfl]at h;exact h1 h
 ·rw[if_neg e]at h;exact h2 h
variable {F:Addr->Prop}{Z:Cx}{cs:aC}{Φ:aQ}
theorem oS{α:Type}{e:Expr}{p k:Nat}{a b c:α}(h:(if p=k then a else b)=c)(h1:a=c->PE Z e (tD Z F Φ (.bq k cs))/\L2.PT Z e (dN Z F Φ (.bq k cs)))(h2:b=c->PE Z e (tD Z F Φ (.bq p cs))/\L2.PT Z e (dN Z F Φ (.bq p cs))):PE Z e (tD Z F Φ (.bq p cs))/\L2.PT Z e (dN Z F Φ (.bq p cs)):=TL (Q:=λp=>PE Z e (tD Z F Φ (.bq p cs))/\L2.PT Z e (dN Z F Φ (.bq p cs))) p h h1 h2
theorem QC{α:Type}{i p k:Nat}{a b c:α}(h:(if p=k then a else b)=c)(h1:a=c->PS Z st (mV Z F Φ (.mut k i cs)))(h2:b=c->PS Z st (mV Z F Φ (.mut p i cs))):PS Z st (mV Z F Φ (.mut p i cs)):=TL (Q:=λp=>PS Z st (mV Z F Φ (.mut p i cs))) p h h1 h2
theorem fi:True:=trivial
theorem cT.nn{K:ao}{h:Heap}{mg:aS}(X:K.In h)(G:h.Ns mainGlobals mg):∀{l:af},cT (λy=>PySem.W.nsIn K mainGlobals y=some none) l->cT (λy=>mg y=none) l
 |[],_=>trivial
 |_::_,z=>⟨PySem.W.mg_none_of X G z.1,cT.nn X G z.2⟩
theorem W2{P:aE}{w:World}{K:ao}{h base:Heap}{mg:aS}{bl:af}{cs:List (Str×GK)}{px:Px}{PT:aQ}(X:K.In h)(G:h.Ns mainGlobals mg)(hp:∀F i m,tZ px (xm PT F i m)/\IP px (xm PT F i m))(CK:cT (λy=>mg y=none) bl)(s_:cT (λp:Str×GK=>∃u,mg p.1=some u/\AM K p.2 u) cs)
  ⦃x:Str⦄ ⦃st:Stmt⦄ (k:Nat) (Φ:aQ) (d:Df K x st) (N:af) (a:Nat) (tb:List (Nat×Str)) (b:ag)
  (hf:cT (λp:Nat×Str=>Ent P w K mg base k p.2 (Φ p.1)) tb) (hc:Ov st N (N.take a) tb bl cs px b=true:=by decide +kernel) (e:∃F i m,Φ=xm PT F i m:=by exact⟨_,_,_,rfl⟩) (ha:(N.take a).length=a:=by rfl) (hb:∀(kV doc pm:Value) (an:Option Addr) (ig ct:Value) (us:ak),us.length=a->bindArgs (PySem.W.fnOf x x (eW st) (cO st) (bu st) .none kV doc pm an ig ct) ⟨us,[]⟩=pure ((N.take a).zip us):=by first|exact λ_ _ _ _ _ _=>u1 λ_=>rfl|exact λ_ _ _ _ _ _=>u2 λ_ _=>rfl|exact λ_ _ _ _ _ _=>u3 λ_ _ _=>rfl|exact λ_ _ _ _ _ _=>u4 λ_ _ _ _=>rfl|exact λ_ _ _ _ _ _=>u5 λ_ _ _ _ _=>rfl):Ent P w K mg base (k+1) x (mk Φ a N.length b):=by
 obtain⟨F,i,m,e⟩:=e;exact en X G k Φ _ d hc (e▸hp F i m) CK s_ hf (λds r q=>⟨(sN ds r q).1.trans ha.symm,(sN ds r q).2⟩) (λkV doc pm an ig ct us hu=>hb kV doc pm an ig ct us (hu.trans ha))
theorem W0{x:Str}{ps bl:af}{tb:List (Nat×Str)}{cs:List (Str×GK)}{px:Px}{b:ag}{f:Addr}{fd:FuncData}(k:Nat)(Φ:aQ)(m:aw)(Fu:DV K x x st f fd)(hc:Ov st N ps tb bl cs px b=true)
  (hp:tZ px Φ/\IP px Φ) (CK:cT (λy=>mg y=none) bl) (s_:cT (λp:Str×GK=>∃u,mg p.1=some u/\AM K p.2 u) cs)
  (hf:cT (λp:Nat×Str=>Ent P w K mg base k p.2 (Φ p.1)) tb) (hm:∀ds r,m ds=ok r->ds.length=ps.length/\ou Φ N.length b ds=ok r):hX P w K mg base xn (k+1) f fd ps (Bu K ps.length m):=by
 obtain⟨h1,h2⟩:=aL hc;exact rg Fu (Et h1) h2 hp.1 hp.2 (cT.mem CK) (cT.two (P:=λy i=>∃u,mg y=some u/\AM K i u) s_) (λg y h=>(cT.tab (P:=λg y=>Ent P w K mg base k y (Φ g)) hf g y h).ex) hm
end DI
end
namespace PySem.W.Fast
def tw13792644535808280034:=0
def tw14639136261497353252:=0
def tw8972853169262056969:=0
def tw17932401469417741876:=0
def tw927556403184984246:=0
def tw8558538729086908923:=0
def tw3210477068644662660:=0
def tw6579020796110142910:=0
def tw15989747642377467776:=0
def tw16462433909195912965:=0
def tw10916083406879053968:=0
def tw3395705505842016706:=0
def tw3768579649297156094:=0
def tw11861254984005649705:=0
def tw16180973012216701106:=0
def tw6146157131301950876:=0
def tw13915489090882356349:=0
def tw14530483523015197823:=0
def tw3632719208852264176:=0
def tw9087009793335883103:=0
def tw14206192035145529365:=0
def tw14831112876575011528:=0
def tw300479505545936292:=0
def tw7348184086959703866:=0
def tw4346743585829199535:=0
def tw13839558047228675937:=0
def tw16387364790741543685:=0
def tw12987770134476097459:=0
def tw1476023539125363545:=0
def tw1198883432941513529:=0
def tw17579517175024484005:=0
def tw14691539997499322593:=0
def tw17607773916361375988:=0
def tw11399209277812034456:=0
def tw5453586169678881922:=0
def tw15200140790778140090:=0
def tw15424230083934055534:=0
def tw750932550659488801:=0
def tw7434637078992592128:=0
def tw16560823529450583368:=0
def tw3905043166518234521:=0
def tw2690609414367695369:=0
def tw11171569683325128420:=0
def tw8030615654314834213:=0
def tw18287286707042345032:=0
def tw11437818837461747389:=0
def tw8387143029065874215:=0
def tw14959484912407394539:=0
def tw12078674976445632248:=0
def tw9799663040564200673:=0
def tw5688193008262117895:=0
def tw5293774118556168724:=0
def tw17860063513493472128:=0
def tw9253927635335036372:=0
def tw6823687730753058042:=0
def tw4213060322931307859:=0
def tw11699569323410571055:=0
def tw3291164423913629559:=0
def tw3137652425270682305:=0
def tw16283949373432888037:=0
def tw5437426458362231236:=0
def tw15714895216798413435:=0
def tw6577590094055360998:=0
def tw2546646292340001850:=0
def tw8500423153106130047:=0
def tw4461389865796911774:=0
def tw15322740818773373882:=0
def tw990742264342286497:=0
def tw8772932883473341369:=0
def tw1635304975821986047:=0
def tw3179808891385568007:=0
def tw14747265105439541464:=0
def tw13214914548923862404:=0
def tw18258091322523738880:=0
def tw15473363626311482864:=0
def tw17800545518082293861:=0
def tw11210580983676668835:=0
def tw2307208838797091564:=0
def tw11801807541717280635:=0
def tw13725175383384483475:=0
def tw1800464363268149100:=0
def tw17791708242627731009:=0
def tw496345066393888810:=0
def tw8683925787363465614:=0
def tw4238999539793294784:=0
def tw6659839117622920503:=0
def tw17382429478462054257:=0
def tw894155090981615348:=0
def tw4603493668853828123:=0
def tw8233919242572287895:=0
def tw1687714736620365522:=0
def tw4844113213892117331:=0
def tw556726800357108024:=0
def tw7298363991893715926:=0
def tw13106484435128931312:=0
def tw8973037570959829443:=0
def tw12337991688747229136:=0
def tw11903714675145825954:=0
def tw3662685710152223015:=0
def tw6851787781682642085:=0
def tw9580970119252083494:=0
def tw2235132786510486801:=0
def tw5384120455233866611:=0
def tw10540463016813853437:=0
def tw4795205389434736710:=0
def tw13151338388036800441:=0
def tw18194322187168384921:=0
def tw17676133550365384127:=0
def tw5695631672083205397:=0
def tw3449360341199631160:=0
def tw18277868833344887124:=0
def tw1610688422241180240:=0
def tw16926295096525918132:=0
def tw8427208319159990923:=0
def tw8142815475202201087:=0
def tw6995492975606560908:=0
def tw2061982242503660178:=0
def tw6812488605967109153:=0
def tw13653545016437288655:=0
def tw10626141410437531749:=0
def tw5560680185177052557:=0
def tw5919816166779393129:=0
def tw7986887362523041663:=0
def tw4529185064839220062:=0
def tw8279117147686083064:=0
def tw4856433841768600425:=0
def tw3266378122933772596:=0
def tw11053335174979907493:=0
def tw9977784818331193736:=0
def tw4151137422052386777:=0
def tw9523364531923365663:=0
def tw13905294738373010279:=0
def tw2870724062764422430:=0
def tw14898080639618227900:=0
def tw15860157870202724166:=0
def tw390166362891618395:=0
end PySem.W.Fast
namespace Asm
open PySem PySem.Spec PyProof.Rows L2 DI
noncomputable def top(i:Nat):Stmt:=PySem.Challenge.pw_sharesample_k54_drawings_as_texts.main.body.getD i (.Pass ⟨0,0,0,0⟩)
def px:Px:=⟨λn sc bl e=>if n=1020 then l4 true sc bl e else if n=1022 then Ar sc bl e else if n=1030 then pf sc bl e else if n=1032 then tR sc bl e else if n=1035 then eG "sorted" sc bl e else if n=1036 then o_ sc bl e else if n=1038 then vk sc bl e else if n=1040 then Ao sc bl e else if n=1084 then EC sc bl e else if n=1090 then eG "str" sc bl e else if n=1091 then pb sc bl e else if n=1092 then tV sc bl e else if n=1093 then rK "split" sc bl e else if n=1094 then rK "partition" sc bl e else if n=1095 then rK "startswith" sc bl e else if n=1096 then l4 true sc bl e else if n=1097 then Ap sc bl e else if n=1098 then eG "len" sc bl e else if n=1099 then eG "int" sc bl e else none,λn sc bl e=>if n=1000 then l3 sc bl e else if n=1101 then As sc bl e else none,λn sc bl e=>if n=1014 then tU sc bl e else if n=1033 then pd sc bl e else if n=1350 then ph sc bl e else none⟩
def PT:aQ
 |1000=>A4
 |1014=>Dk
 |1020=>(cutD true)
 |1022=>Js
 |1030=>Aa
 |1032=>Ac
 |1033=>rz
 |1035=>lT
 |1036=>Ca
 |1038=>IV
 |1040=>Lm
 |1084=>(rZ Jh)
 |1090=>vN
 |1091=>lC
 |1092=>jM
 |1093=>(rZ e_)
 |1094=>(rZ nj)
 |1095=>(rZ jx)
 |1096=>vf
 |1097=>Cu
 |1098=>(lh GP)
 |1099=>(lh wo)
 |1101=>(lh x8)
 |1350=>vj
 |_=>λ_=>none
theorem pr(F:aQ)(i:Nat)(m:aw):tZ px (xm PT F i m)/\IP px (xm PT F i m):=⟨⟨(λX sc bl k L p e args he F cs hs=>oS he (λhe=>Ir rfl L he hs) λhe=>oS he (λhe=>MD rfl L he hs) λhe=>oS he (λhe=>C9 rfl L he hs) λhe=>oS he (λhe=>Iq rfl L he hs) λhe=>oS he (λhe=>z_ rfl L he hs) λhe=>oS he (λhe=>Gy rfl L he hs) λhe=>oS he (λhe=>J8 rfl L he hs) λhe=>oS he (λhe=>Ll rfl L he hs) λhe=>oS he (λhe=>Hd rfl L he hs) λhe=>oS he (λhe=>Fp rfl L he hs) λhe=>oS he (λhe=>Cr rfl L he hs) λhe=>oS he (λhe=>Dt rfl L he hs) λhe=>oS he (λhe=>xX rfl L he hs) λhe=>oS he (λhe=>BV rfl L he hs) λhe=>oS he (λhe=>xT rfl L he hs) λhe=>oS he (λhe=>Dg rfl L he hs) λhe=>oS he (λhe=>GZ rfl L he hs) λhe=>oS he (λhe=>Co rfl L he hs) λhe=>oS he (λhe=>CA rfl L he hs) λhe=>nomatch he),(λX sc bl k L p e args he F cs tg ht hs pins s σ H R τ ρ xs d items I Si bt ed ei Rr hR=>by
  dsimp only[px]at he;by_cases hp:p=1000
  ·subst hp;rw[if_pos rfl]at he;exact ER rfl L he ht hs I Si bt ed ei Rr hR
  rw[if_neg hp]at he;clear hp;by_cases hp:p=1101
  ·subst hp;rw[if_pos rfl]at he;exact FC rfl L he ht hs I Si bt ed ei Rr hR
  rw[if_neg hp]at he;clear hp;cases he)⟩,⟨(λX sc bl k L hN uN p st x pos args he i hi hl pe F cs hs=>QC he (λhe=>Iw rfl L hN uN he hi hl pe hs) λhe=>QC he (λhe=>C8 rfl L hN uN he hi hl pe hs) λhe=>QC he (λhe=>Dl rfl L hN uN he hi hl pe hs) λhe=>nomatch he)⟩⟩
noncomputable def xt(F:aQ)(i a b:Nat)(c:ag):aQ:=xm PT F i (mk F a b c)
noncomputable def BL:af:=["abs","all","bool","int","isinstance","len","list","range","set","sorted","str","sum","tuple","zip"]
noncomputable def CC:List (Str×GK):=[("FIGURES",GK.s "0123456789"),("LONGEST",GK.i 40),("MOST_HOUSES",GK.i 12)]
noncomputable def iM:aQ:=xm PT PT 0 λ_=>none
noncomputable def iL:aQ:=xt iM 200 2 4 (dP)
noncomputable def fg:aQ:=xt iL 201 2 4 (jh)
noncomputable def eJ:aQ:=xt fg 212 2 8 (DF)
noncomputable def dS:aQ:=xt eJ 255 1 2 (DG)
noncomputable def iJ:aQ:=xt dS 256 3 6 (vv)
noncomputable def iI:aQ:=xt iJ 230 2 4 (l5)
noncomputable def cS:aQ:=xt iI 260 1 1 (AB)
noncomputable def l_:aQ:=xt cS 261 1 6 (vt)
noncomputable def iK:aQ:=xt l_ 204 1 1 (vq)
noncomputable def f6:aQ:=xt iK 219 2 3 (DE)
noncomputable def iN:aQ:=xt f6 120 1 1 (DH)
noncomputable def f7:aQ:=xt iN 0 1 1 (fU)
noncomputable def dz:aQ:=xt f7 43 2 2 (cE)
noncomputable def fh:aQ:=xt dz 1 2 3 (cD)
noncomputable def ma:aQ:=xt fh 3 1 1 (bI)
noncomputable def gJ:aQ:=xt ma 12 2 2 (ji)
noncomputable def dT:aQ:=xt gJ 44 1 3 (eY)
noncomputable def gH:aQ:=xt dT 9 1 3 (cm)
noncomputable def eH:aQ:=xt gH 10 2 2 (eX)
noncomputable def ff:aQ:=xt eH 14 1 4 (gX)
noncomputable def iO:aQ:=xt ff 15 1 2 (dE)
noncomputable def md:aQ:=xt iO 45 1 4 (fV)
noncomputable def fZ:aQ:=xt md 11 2 2 (fG)
noncomputable def fX:aQ:=xt fZ 16 1 1 (dY)
noncomputable def fY:aQ:=xt fX 115 2 2 (Ay)
noncomputable def iG:aQ:=xt fY 118 1 2 (DC)
noncomputable def dy:aQ:=xt iG 116 2 3 (w4)
noncomputable def dR:aQ:=xt dy 111 1 1 (rO)
noncomputable def iH:aQ:=xt dR 117 2 5 (Az)
noncomputable def eI:aQ:=xt iH 119 1 2 (Dz)
noncomputable def gK:aQ:=xt eI 121 1 3 (DB)
noncomputable def dU:aQ:=xt gK 122 1 2 (DA)
noncomputable def gI:aQ:=xt dU 17 1 1 (cP)
noncomputable def dQ:aQ:=xt gI 112 1 1 (pC)
noncomputable def dW:aQ:=xt dQ 113 1 1 (vo)
noncomputable def eK:aQ:=xt dW 40 2 2 (bR)
noncomputable def dZ:aQ:=xt eK 47 2 2 (jk 40 4)
noncomputable def gL:aQ:=xt dZ 114 1 1 (jg)
noncomputable def AN:aQ:=xt gL 207 2 7 (pE)
def t0:=sF iN
def t1:=jA dz
def t3:=mw fh t0 t1
def O0:=j7 dW t3
def t9:=j5 dT t1
def Vt:=ql gH
def SY:=oq f7 t0
def Vs:=ye md SY
def Vr:=yd ma t3 SY
def Vn:=qm gJ rfl rfl rfl
def Vq:=vT eH t9 Vt rfl
def Vp:=mv ff Vq
def Vm:=sG iO t0 Vr Vp Vn
def S3:=oo fZ Vs Vm
def Vo:=j6 dU S3
theorem Vl:pL 4 l6 (dZ 47):=BD eK (f:=40) w8 O0
def Fi:=Kn dy ⟨rfl,rfl,rfl⟩
def Pe:=Km gI ⟨rfl,rfl,rfl⟩ Fi
def Pd:=Ko dQ ⟨rfl,rfl,rfl⟩ Vo Pe
def Pc:=BB dZ ⟨rfl,rfl,rfl⟩ Vl Fi
def Bp:=Pm fX ⟨rfl,rfl,rfl,rfl,rfl⟩
def Pb:=Pn iG rfl rfl Bp
def J7:=Pq dR rfl t3 Fi Bp Pb
def Pa:=Pu fY rfl Bp
def O_:=Po iH rfl rfl Bp J7
def J6:=PC f6
def O9:=Pt eI rfl rfl S3 Pa O_ J6
def O8:=Pp gK rfl rfl J7 J6
def Fh:=FP iM
def Fg:=BC iL
def J5:=Kq l_
def O6:=Pz fg ⟨rfl,rfl,rfl,rfl⟩ Fg rfl
def O3:=PB eJ Fg
def O2:=Ks dS Fh O3
def O5:=Py iK J5
def J4:=Pw iI ⟨rfl,rfl,rfl⟩
def O1:=Kr cS ⟨rfl,rfl,rfl⟩ J4
def O4:=FO iJ Fh Fg O2
def O7:=FN gL ⟨⟨rfl,rfl,rfl⟩,rfl,rfl,Pd,Pc,O9,O8,J5,O5,J4,O1⟩
theorem v_:∀ns:aa,(mk AN 1 3 (kL)) [.lst .sc (au ns)]=ok (.bl true):=Lr AN Fh O6 O4 O7
theorem Iz:Ov (top 54) ["_law_script","_law_asked","_law_k"] ["_law_script"] [(200,"_law_cell"),(207,"_law_right"),(212,"_law_drawing"),(230,"_law_list")] BL CC px (kL)=true:=by decide +kernel
theorem all_mk{l:PySem.W.OpenLaw}{w:World}{K:ao}{h:Heap}{mg:aS}{fa:Addr}{SR SQ SO:Value}(X:K.In h)(G:h.Ns mainGlobals mg)(Wt:mg "law" = some (.ref fa))
  (a0:Df K "_law_cell" (top 41))
  (a1:Df K "_law_frac" (top 42))
  (a2:Df K "_law_drawing" (top 46))
  (a3:Df K "_law_fraction" (top 47))
  (a4:Df K "_law_fractions" (top 48))
  (a5:Df K "_law_list" (top 52))
  (a6:Df K "_law_text" (top 50))
  (a7:Df K "_law_drawing_text" (top 51))
  (a8:Df K "_law_is" (top 45))
  (a9:Df K "_law_good" (top 49))
  (a10:Df K "check_text" (top 37))
  (a11:Df K "is_whole" (top 6))
  (a12:Df K "are_houses" (top 14))
  (a13:Df K "common_divisor" (top 7))
  (a14:Df K "is_fraction" (top 8))
  (a15:Df K "is_row" (top 16))
  (a16:Df K "rows_rise" (top 17))
  (a17:Df K "common_bottom" (top 10))
  (a18:Df K "tops_over" (top 11))
  (a19:Df K "weighed_lots" (top 18))
  (a20:Df K "sums_to_one" (top 19))
  (a21:Df K "is_drawn" (top 20))
  (a22:Df K "is_lot" (top 15))
  (a23:Df K "is_drawing" (top 21))
  (a24:Df K "read_whole" (top 32))
  (a25:Df K "read_count" (top 35))
  (a26:Df K "read_top" (top 33))
  (a27:Df K "shown_fraction" (top 28))
  (a28:Df K "read_fraction" (top 34))
  (a29:Df K "read_row" (top 36))
  (a30:Df K "read_drawing" (top 38))
  (a31:Df K "read_list" (top 39))
  (a32:Df K "check_drawing" (top 22))
  (a33:Df K "shown_row" (top 29))
  (a34:Df K "shown_drawing" (top 30))
  (a35:Df K "are_fractions" (top 9))
  (a36:Df K "check_worths" (top 24))
  (a37:Df K "shown_list" (top 31))
  (a38:Df K "_law_right" (top 53))
  (a39:Df K "law" (top 54))
  (z:cT (λy=>PySem.W.nsIn K mainGlobals y=some none) BL)
  (q0:PySem.W.nsIn K mainGlobals "FIGURES" = some (some SR)) (r0:RelV (.str "0123456789") SR)
  (q1:PySem.W.nsIn K mainGlobals "LONGEST" = some (some SQ)) (r1:RelV (.int 40) SQ)
  (q2:PySem.W.nsIn K mainGlobals "MOST_HOUSES" = some (some SO)) (r2:RelV (.int 12) SO) :
  ∃fd:FuncData,(∀(s:Shared) (v:Value),BindsTo s fd ⟨[v],[]⟩ [("_law_script",v)])/\∀base:Heap,K.In base->base.Ns mainGlobals mg->hX l.prog w K mg base xn 41 fa fd ["_law_script"] (Bu K 1 oO):=by
 obtain⟨f,fd,Fu,a⟩:=a39;have e:=Wt.symm.trans (Zs X G a);cases e;obtain⟨oc,od,kV,dc,pm,an,cd,ct,sl,rfl,_,_⟩:=id Fu.ex;have Y:=cT.nn X G z;have x0:∃u,mg "FIGURES" = some u/\AM K (GK.s "0123456789") u:=⟨_,Zs X G q0,r0⟩
 have x1:∃u,mg "LONGEST" = some u/\AM K (GK.i 40) u:=⟨_,Zs X G q1,r1⟩
 have x2:∃u,mg "MOST_HOUSES" = some u/\AM K (GK.i 12) u:=⟨_,Zs X G q2,r2⟩
 refine⟨PySem.W.fnOf "law" "law" (eW (top 54)) (cO (top 54)) (bu (top 54)) .none kV dc pm an cd ct,λs v=>.of_eq rfl,λbase _ _=>?_⟩;have N:=@W2 l.prog w K h base mg BL CC px PT X G pr Y ⟨x0,x1,x2,fi⟩;have E0:=N 1 iM a0 ["_law_script","_law_k","_law_cell_here","_law_number"] 2 [] (dP) fi;have E1:=N 2 iL a1 ["_law_top","_law_bottom","_law_one","_law_other"] 2 [] (jh) fi;have E2:=N 3 fg a2 ["_law_number","_law_most","_law_many","_law_count","_law_weights","_law_k","_law_lot","_law_whole"] 2 [(201,"_law_frac")] (DF) ⟨E1.u,fi⟩;have E3:=N 4 eJ a3 ["_law_number","_law_bottom"] 1 [(201,"_law_frac")] (DG) ⟨E1.u,fi⟩;have E4:=N 5 dS a4 ["_law_script","_law_at","_law_many","_law_found","_law_number","_law_k"] 3 [(200,"_law_cell"),(255,"_law_fraction")] (vv) ⟨E0.u,E3.u,fi⟩;have E5:=N 6 iJ a5 ["_law_script","_law_at","_law_number","_law_found"] 2 [(200,"_law_cell"),(201,"_law_frac"),(256,"_law_fractions")] (l5) ⟨E0.u,E1.u,E4.u,fi⟩;have E6:=N 7 iI a6 ["_law_some"] 1 [] (AB) fi;have E7:=N 8 cS a7 ["_law_drawing_here","_law_lines","_law_chance","_law_lot","_law_line","_law_house"] 1 [(260,"_law_text")] (vt) ⟨E6.u,fi⟩;have E8:=N 9 l_ a8 ["_law_found"] 1 [] (vq) fi;have E9:=N 10 iK a9 ["_law_found","_law_due","_law_row"] 2 [(204,"_law_is")] (DE) ⟨E8.u,fi⟩;have U5:=N 11 f6 a10 ["thing"] 1 [] (DH) fi;have SG:=N 12 iN a11 ["thing"] 1 [] (fU) fi;have U4:=N 13 f7 a12 ["thing","many"] 2 [(0,"is_whole")] (cE) ⟨SG.u,fi⟩;have U3:=N 14 dz a13 ["one","other","rest"] 2 [] (cD) fi;have SF:=N 15 fh a14 ["thing"] 1 [(0,"is_whole"),(1,"common_divisor")] (bI) ⟨SG.u,U3.u,fi⟩;have XJ:=N 16 ma a15 ["thing","many"] 2 [(3,"is_fraction"),(43,"are_houses")] (ji) ⟨SF.u,U4.u,fi⟩;have XI:=N 17 gJ a16 ["rows","ahead","behind"] 1 [] (eY) fi;have XH:=N 18 dT a17 ["some","bottom","part"] 1 [(1,"common_divisor")] (cm) ⟨U3.u,fi⟩;have XG:=N 19 gH a18 ["some","bottom"] 2 [] (eX) fi;have XF:=N 20 eH a19 ["rows","chances","lots","bottom"] 1 [(9,"common_bottom"),(10,"tops_over")] (gX) ⟨XH.u,XG.u,fi⟩;have XE:=N 21 ff a20 ["rows","weighed"] 1 [(14,"weighed_lots")] (dE) ⟨XF.u,fi⟩;have XD:=N 22 iO a21 ["thing","many","rows","row"] 1 [(0,"is_whole"),(12,"is_row"),(15,"sums_to_one"),(44,"rows_rise")] (fV) ⟨SG.u,XJ.u,XE.u,XI.u,fi⟩;have XC:=N 23 md a22 ["thing","many"] 2 [(43,"are_houses")] (fG) ⟨U4.u,fi⟩;have U2:=N 24 fZ a23 ["thing"] 1 [(11,"is_lot"),(45,"is_drawn")] (dY) ⟨XC.u,XD.u,fi⟩;have OG:=N 25 fX a24 ["word","longest"] 2 [] (Ay) fi;have XB:=N 26 fY a25 ["line","words"] 1 [(115,"read_whole")] (DC) ⟨OG.u,fi⟩;have XA:=N 27 iG a26 ["word","longest","size"] 2 [(115,"read_whole")] (w4) ⟨OG.u,fi⟩;have SE:=N 28 dy a27 ["part"] 1 [] (rO) fi;have U1:=N 29 dR a28 ["word","longest","parts","bottom","told"] 2 [(3,"is_fraction"),(111,"shown_fraction"),(115,"read_whole"),(116,"read_top")] (Az) ⟨SF.u,SE.u,OG.u,XA.u,fi⟩;have Xz:=N 30 iH a29 ["line","words"] 1 [(115,"read_whole"),(117,"read_fraction")] (Dz) ⟨OG.u,U1.u,fi⟩;have Xy:=N 31 eI a30 ["text","lines","told"] 1 [(16,"is_drawing"),(118,"read_count"),(119,"read_row"),(120,"check_text")] (DB) ⟨U2.u,XB.u,Xz.u,U5.u,fi⟩;have Xx:=N 32 gK a31 ["text","told"] 1 [(117,"read_fraction"),(120,"check_text")] (DA) ⟨U1.u,U5.u,fi⟩;have Xw:=N 33 dU a32 ["thing"] 1 [(16,"is_drawing")] (cP) ⟨U2.u,fi⟩;have Xv:=N 34 gI a33 ["row"] 1 [(111,"shown_fraction")] (pC) ⟨SE.u,fi⟩;have Xu:=N 35 dQ a34 ["drawing"] 1 [(17,"check_drawing"),(112,"shown_row")] (vo) ⟨Xw.u,Xv.u,fi⟩;have Xt:=N 36 dW a35 ["thing","many"] 2 [(3,"is_fraction")] (bR) ⟨SF.u,fi⟩;have Xs:=N 37 eK a36 ["thing","many"] 2 [(40,"are_fractions")] (jk 40 4) ⟨Xt.u,fi⟩;have Xr:=N 38 dZ a37 ["some"] 1 [(47,"check_worths"),(111,"shown_fraction")] (jg) ⟨Xs.u,SE.u,fi⟩;have Xq:=N 39 gL a38 ["_law_drawing_here","_law_some","_law_handed","_law_texts","_law_time","_law_told","_law_shown"] 2 [(113,"shown_drawing"),(114,"shown_list"),(121,"read_drawing"),(122,"read_list"),(204,"_law_is"),(219,"_law_good"),(260,"_law_text"),(261,"_law_drawing_text")] (pE) ⟨Xu.u,Xr.u,Xy.u,Xx.u,E8.u,E9.u,E6.u,E7.u,fi⟩;exact W0 40 AN oO Fu Iz (pr _ _ _) Y ⟨x0,x1,x2,fi⟩ ⟨E0.u,Xq.u,E2.u,E5.u,fi⟩ (yY λns _=>(sN _ _ (v_ ns)).2)
theorem walk{l:PySem.W.OpenLaw}{q:aE}{loose:af}{XP:(aS)->Heap->Prop}{YP:World->Heap->Prop}{d:DefRec}{K:Params->ao}(hn:l.most=some 63)(L0:d.params.defaults=[])
  (hY:∀(w:World) (h:Heap),YP w h->(K w.params).In h)
  (F:∀(w:World) (mg:aS) (fa:Addr) (h:Heap),(K w.params).In h->h.Ns mainGlobals mg->mg d.name=some (.ref fa) ->
   ∃fd:FuncData,(∀(s:Shared) (u:Value),BindsTo s fd ⟨[u],[]⟩ [("_law_script",u)])/\∀base:Heap,(K w.params).In base->base.Ns mainGlobals mg->hX l.prog w (K w.params) mg base xn 41 fa fd ["_law_script"] (Bu (K w.params) 1 oO)) :
  PySem.W.WalkO q loose XP YP l.row.toRowW d [] (λf vs=>PySem.call f vs) :=
 L2.A8 (n:=63) (k:=41) (x:="_law_script") (CX:=λ_=>xn) (sp:=λw=>Bu (K w.params) 1 oO) hn (by decide) L0 ⟨rfl,by decide,by decide⟩ hY F (λw H a ns hl hO hS=>GR (K w.params) H a ns oO (Ck hl) hO hS) λ_ _ _ _ _ z=>z
end Asm
end
open PySem PySem.W PyProof.Rows
set_option maxRecDepth 100000 in
set_option maxHeartbeats 0 in
theorem PySem.Challenge.cw_sharesample_k54_drawings_as_texts_holds : PySem.Challenge.rw_sharesample_k54_drawings_as_texts.Holds := by
 w_on;o_law;k_head;(case hw=>w_witness2)
 k_fill
 refine Asm.walk (l:=PySem.Challenge.rw_sharesample_k54_drawings_as_texts) rfl rfl (fun w h Y=>PySem.W.kIn_of Y) ?F
 case F =>
  intro w mg fa h KX G hmg
  refine' Asm.all_mk KX G hmg ?a0 ?a1 ?a2 ?a3 ?a4 ?a5 ?a6 ?a7 ?a8 ?a9 ?a10 ?a11 ?a12 ?a13 ?a14 ?a15 ?a16 ?a17 ?a18 ?a19 ?a20 ?a21 ?a22 ?a23 ?a24 ?a25 ?a26 ?a27 ?a28 ?a29 ?a30 ?a31 ?a32 ?a33 ?a34 ?a35 ?a36 ?a37 ?a38 ?a39 ?zz ?q0 ?r0 ?q1 ?r1 ?q2 ?r2
  case a0 | a1 | a2 | a3 | a4 | a5 | a6 | a7 | a8 | a9 | a10 | a11 | a12 | a13 | a14 | a15 | a16 | a17 | a18 | a19 | a20 | a21 | a22 | a23 | a24 | a25 | a26 | a27 | a28 | a29 | a30 | a31 | a32 | a33 | a34 | a35 | a36 | a37 | a38 | a39 =>
   refine' DI.dmk ?x ?y ?z ?w
   case x | y | z | w=>k_is
  (case zz=>refine' ⟨?_,?_,?_,?_,?_,?_,?_,?_,?_,?_,?_,?_,?_,?_,trivial⟩ <;> show PySem.W.nsIn _ _ _ = some none <;> k_is)
  (case q0=>k_is);(case r0=>exact ⟨_,rfl⟩)
  (case q1=>k_is);(case r1=>exact ⟨_,rfl⟩)
  (case q2=>k_is);(case r2=>exact ⟨_,rfl⟩)

import PyProof.Rows.All
import Wide.All
import OpenK.AllK
import Wide.FinOn
import Lean
import PyProof.EqAt
import PyProof.EqKinds
import PyProof.TupleCall
import PyProof.NeKinds
import KE.BitLaws
import PyProof.SumWalkG
import PyProof.ConsumeWalk
import PyProof.WalksMore
import KE.KSortedM
import PyProof.Rows.SetFrom
import PyProof.CompUse
import PyProof.ZipIter
import PyProof.EnumMake
import KE.KSortTup
import PyProof.ListRange
import PyProof.SliceList
import PyProof.DictIter
import PyProof.Rows.DictUnroll
import KE.KDictSum
import PyProof.DictRoadsH
import PyProof.DictKinds
import PyProof.TupleOfGen
import PyProof.TupleOfSeq
import PyProof.DictItems
import PyProof.DictItemsLoops
import PyProof.Rows.TupDisplay
import KE.KDictList
import PyProof.DictValues
import PyProof.DictWalks
import PySem.Challenge.RW_sharesample_k93_whole_spreads_of_layers
set_option tactic.hygienic false
set_option bootstrap.genMatcherCode false
set_option genSizeOf false
set_option genSizeOfSpec false
set_option Elab.async false
set_option linter.all false
set_option maxRecDepth 100000
local macro_rules | `(tactic| left) => `(tactic| first | assumption | exact Nat.zero_le _ | exact Int.natCast_nonneg _ | exact Int.ofNat_lt.mpr (by assumption) | exact Nat.le_of_lt (by assumption) | exact Nat.le_trans (by assumption) (by assumption) | exact Nat.lt_of_lt_of_le (by assumption) (by assumption) | lia | omega)
noncomputable section
abbrev aaa:=@PySem.wpAny_bind
abbrev aab:=@of_decide_eq_true
abbrev aac:=@List.mem_cons_of_mem
abbrev aad:=@PySem.wpAny_pure
abbrev aae:=@List.mem_cons_self
abbrev aaf:=@Bool.false_ne_true
abbrev aag:=@PySem.Heap.get?_push_of_some
abbrev aah:=@Nat.lt_of_lt_of_le
abbrev aai:=@PySem.Heap.lt_size
abbrev aaj:=@Nat.pow_le_pow_right
abbrev aak:=@List.map_congr_left
abbrev aal:=@Nat.le_refl
abbrev aam:=@PySem.Heap.get?_push_size
abbrev aan:=@List.mem_append_right
abbrev aao:=@Nat.ne_of_lt
abbrev aap:=@Nat.lt_of_le_of_lt
abbrev aaq:=@List.mem_map_of_mem
abbrev aar:=@Nat.le_trans
abbrev aas:=@List.getElem?_eq_getElem
abbrev aat:=@Option.some.inj
abbrev aau:=@PyProof.Rows.callWith_type1
abbrev aav:=@Nat.ne_of_gt
abbrev aaw:=@Nat.lt_irrefl
abbrev aax:=@List.mem_append_left
abbrev aay:=@PySem.wpAny_mono
abbrev aaz:=@List.mem_of_getElem?
abbrev aaA:=@List.nodup_nil
abbrev aaB:=@List.mergeSort_perm
abbrev aaC:=@List.of_mem_zip
abbrev aaD:=@PySem.wpAny_newObj_type
abbrev aaE:=@Nat.lt_succ_of_lt
abbrev aaF:=@PySem.wpAny_holding
abbrev aaG:=@Nat.mul_le_mul_right
abbrev aaH:=@Nat.zero_le
abbrev aaI:=@PySem.wpAny_call_entry
abbrev aaJ:=@PySem.Heap.get?_update_other
abbrev aaO:=@List.length_map
abbrev aaP:=@PySem.Heap.get?_update_self
abbrev aaQ:=@PySem.wpAny_Call_Name_kw
abbrev aaR:=@if_pos
abbrev aaS:=@PySem.wpAny_callSpecial?_slot
abbrev aaT:=@PySem.F.slot_dict_keyiterator_next
abbrev aaU:=@PySem.Heap.SameBut.update
abbrev aaV:=@congrArg
abbrev aaW:=@Nat.lt_succ_self
abbrev aaY:=@Nat.mul_le_mul
abbrev aa4:=@Array.getElem?_eq_getElem
abbrev aa5:=@decide_eq_false
abbrev aa6:=@Nat.le_of_lt
abbrev aa7:=@PySem.codeAny_builtin
abbrev aa8:=@PySem.F.slot_dict_valueiterator_next
abbrev aa9:=@PySem.wpAny_truthy_bool
abbrev aa_:=@PySem.wpAny_dictEntries
abbrev aba:=@Nat.le_of_dvd
abbrev abb:=@PySem.wpAny_typeNameOfWhole_keyiter
abbrev abc:=@PySem.wpAny_typeNameOfWhole_valiter
abbrev abd:=@PySem.mem_of_lookup
abbrev abe:=@PySem.sizeLine_eq
abbrev abf:=@PySem.wpAny_passesOwn
abbrev abg:=@decide_eq_true
abbrev abh:=@List.getElem_mem
abbrev abi:=@Nat.lt_trans
abbrev abj:=@PySem.wpAny_typeNameOf_keyiter
abbrev abk:=@Int.mul_fdiv_cancel_left
abbrev abl:=@PySem.wpAny_typeNameOf_valiter
abbrev abm:=@PySem.Calls.spliced_cons
abbrev abn:=@PySem.W.kia_one
abbrev abp:=@PySem.wpAny_dictEpoch
abbrev abq:=@Bool.false_eq_true
abbrev abr:=@Rat.mul_le_mul_of_nonneg_right
abbrev abt:=@PyProof.Rows.subscriptTail_builtinR
abbrev abu:=@PySem.Calls.spliced_nil
abbrev abv:=@List.ext_getElem?
abbrev abw:=@PySem.F.slot_zip_next
abbrev abx:=@Rat.le_of_lt
abbrev aby:=@List.length_filter_le
abbrev abz:=@Nat.mul_lt_mul_of_pos_right
abbrev abA:=@PySem.call_meets
abbrev abB:=@Nat.pow_lt_pow_right
abbrev abC:=@PySem.wpAny_attempt
abbrev abD:=@List.cons.inj
abbrev abE:=@PySem.W.mg_of
abbrev abF:=@PySem.wpAny_field
abbrev abG:=@Rat.mul_pos
abbrev abH:=@Nat.mul_le_mul_left
abbrev abI:=@PySem.SeqAt.EqAt.same
abbrev abJ:=@Int.mul_ne_zero
abbrev abK:=@PySem.codeAny_mono
abbrev abL:=@PySem.SeqAt.EqAt.int_int
abbrev abM:=@PySem.F.args_tuple_add_2
abbrev abN:=@PySem.F.slot_list_append
abbrev abO:=@PySem.tupleKind_room_in1
abbrev abP:=@Ne.symm
abbrev abR:=@PySem.F.entry_tuple_add
abbrev abS:=@PySem.F.plainAttrs_list
abbrev abT:=@PySem.F.slot_tuple_add
abbrev abU:=@PySem.Calls.callWith_builtin
abbrev abV:=@PySem.wpAny_nextOf_list_item
abbrev abW:=@Int.fmod_nonneg_of_pos
abbrev abX:=@beq_self_eq_true
abbrev abY:=@PySem.F.slot_tuple_lt
abbrev abZ:=@PySem.wpAny_notOrdered_dict
abbrev ab0:=@Eq.symm
abbrev ab1:=@PySem.wpAny_isOneOf_valiter
abbrev ab2:=@PySem.SeqAt.EqAt.none_bool
abbrev ab4:=@PySem.SeqAt.EqAt.bool_none
abbrev ab5:=@PySem.SeqAt.EqAt.bool_bool
abbrev ab6:=@PySem.wpAny_updateSeq
abbrev ab7:=@PySem.SeqAt.EqAt.none_int
abbrev ab8:=@PySem.SeqAt.EqAt.bool_int
abbrev ab9:=@PySem.SeqAt.EqAt.int_none
abbrev ab_:=@PySem.SeqAt.EqAt.int_bool
abbrev aca:=@Nat.add_le_add_left
abbrev acg:=@PySem.wpAny_fieldsOf
abbrev ach:=@PySem.wpAny_setField
abbrev aci:=@Nat.le_succ
abbrev acj:=@Int.fmod_lt_of_pos
abbrev ack:=@PySem.wpAny_standAt
abbrev acm:=@PySem.wpAny_newList
abbrev acn:=@PySem.plainId_quiet
abbrev aco:=@Nat.le_succ_of_le
abbrev acs:=@Int.natAbs_add_le
abbrev acu:=@PySem.wpAny_rule
abbrev acv:=@List.getElem_inj
abbrev acw:=@if_neg
abbrev acx:=@List.ext_getElem
abbrev acy:=@List.not_mem_nil
abbrev acz:=@Nat.two_pow_pos
abbrev acA:=@Nat.one_dvd
abbrev acB:=@Rat.le_refl
abbrev acC:=@if_false
abbrev az:=List (List Int)
abbrev aa:=List Int
abbrev aK:=List Nat
abbrev ak:=List PySem.Str
abbrev au:=List PySem.Value
abbrev aq:=List PySem.Expr
abbrev aS:=List PySem.Addr
abbrev aX:=List PySem.Stmt
abbrev aC:=List Rat
abbrev aN:=Array PySem.Value
abbrev av:=PySem.W.Frag
abbrev aB:=PySem.Value->PySem.Shared->Prop
abbrev ao:=List (PySem.Addr×PySem.Obj)
abbrev aj:=PySem.Addr->Prop
abbrev bp:=PySem.Str->Option PySem.Value
abbrev aI:=PySem.Program
abbrev aG:=PySem.Around
namespace L2
open PySem PySem.Spec PyProof.Rows
abbrev Key:=Sum Int Str
noncomputable def Iv:Key->Value->Bool
 |.inl k,v=>Value.isInt k v
 |.inr x,v=>Value.isStrOf x v
noncomputable def Vn(w:World):Key->Int
 |.inl k=>hashInt k
 |.inr x=>hashStr w x
theorem cz:∀{k:Key} {v:Value},Iv k v=true->(∃i t,k=Sum.inl i/\v=Value.int i t)\/(∃x t,k=Sum.inr x/\v=Value.str x t)
 |.inl i,v,h=>by
  obtain⟨t,e⟩:=Value.isInt_shape (k:=i) (v:=v) h;exact .inl ⟨i,t,rfl,e⟩
 |.inr x,v,h=>by
  obtain⟨t,e⟩:=Value.isStrOf_shape (x:=x) (v:=v) h;exact .inr ⟨x,t,rfl,e⟩
theorem Lc(a b:Int):decide ((Sum.inl a:Key)=Sum.inl b)=(a==b):=by
 by_cases e:a=b
 ·subst e;simp
 ·have h:¬ (Sum.inl a:Key)=Sum.inl b:=λq=>e (Sum.inl.inj q);rw[decide_eq_false h];exact(beq_eq_false_iff_ne.mpr e).symm
theorem K_(a b:Str):decide ((Sum.inr a:Key)=Sum.inr b)=decide (a=b):=by
 by_cases e:a=b
 ·subst e;simp
 ·have h:¬ (Sum.inr a:Key)=Sum.inr b:=λq=>e (Sum.inr.inj q);rw[decide_eq_false h,decide_eq_false e]
theorem Lb(a:Int)(b:Str):decide ((Sum.inl a:Key)=Sum.inr b)=false:=aa5 (λq=>nomatch q)
theorem La(a:Str)(b:Int):decide ((Sum.inr a:Key)=Sum.inl b)=false:=aa5 (λq=>nomatch q)
def S5(prog:aI)(w:World):PySem.KeyKind prog w Key where
 is:=Iv
 hash:=Vn w
 inj:=λv a b g d=>by
  rcases cz g with ⟨i,t,rfl,rfl⟩|⟨x,t,rfl,rfl⟩
  ·rcases cz d with ⟨j,u,rfl,e⟩|⟨y,u,rfl,e⟩
   ·injection e with e1 _;rw[e1]
   ·exact nomatch e
  ·rcases cz d with ⟨j,u,rfl,e⟩|⟨y,u,rfl,e⟩
   ·exact nomatch e
   ·injection e with e1 _;rw[e1]
 byValue:=λk v h=>by
  rcases cz h with ⟨i,t,rfl,rfl⟩|⟨x,t,rfl,rfl⟩<;>rfl
 pyHash:=λc h=>by
  rcases cz c with ⟨i,t,rfl,rfl⟩|⟨x,t,rfl,rfl⟩
  ·exact wpAny_pyHash_int h
  ·exact wpAny_pyHash_str h
 eqBool:=λf c h=>by
  rcases cz f with ⟨i,t,rfl,rfl⟩|⟨x,t,rfl,rfl⟩
  ·rcases cz c with ⟨j,u,rfl,rfl⟩|⟨y,u,rfl,rfl⟩
   ·rw[Lc]at h;exact wpAny_eqBool_int h
   ·rw[Lb]at h;exact SeqAt.EqAt.int_str i t y u _ _ _ _ h
  ·rcases cz c with ⟨j,u,rfl,rfl⟩|⟨y,u,rfl,rfl⟩
   ·rw[La]at h;exact SeqAt.EqAt.str_int x t j u _ _ _ _ h
   ·rw[K_]at h;exact wpAny_eqBool_str h
 «strs»:=λk x t v h=>by
  rcases cz h with ⟨i,u,rfl,e⟩|⟨y,u,rfl,e⟩
  ·exact nomatch e
  ·injection e with e1 _
   subst e1;cases v<;>rfl
end L2
namespace L2
open PySem PySem.Spec PyProof.Rows
inductive V where
 |cq|bl (b:Bool)|int (i:Int)|str (x:Str)|Xv (b:Array UInt8)|W_ (b:UInt64)|ref (a:Addr)|ty (n:String)
 deriving DecidableEq
abbrev ag:=List V
def RelV:V->Value->Prop
 |.cq,u=>u=Value.none
 |.bl b,u=>u=Value.bool b
 |.int i,u=>∃t,u=Value.int i t
 |.str x,u=>∃t,u=Value.str x t
 |.Xv b,u=>∃t,u=Value.bytes b t
 |.W_ b,u=>∃t,u=Value.float b t
 |.ref a,u=>u=Value.ref a
 |.ty n,u=>u=Value.type n
abbrev Vals:ag->au->Prop:=Paired RelV
theorem Vals.length{xs:ag}{a:au}(r:Vals xs a):xs.length=a.length:=Paired.length r
theorem Vals.get:∀{xs:ag} {a:au} {i:Nat} {x:V},Vals xs a->xs[i]?=some x->∃u,a[i]?=some u/\RelV x u
 |_,_,_,_,.nil,e=>by simp at e
 |_,_,0,_,.cons r _,e=>by simp at e;subst e;exact⟨_,rfl,r⟩
 |_,_,i+1,x,.cons _ t,e=>by
  obtain⟨u,c,b⟩:=Vals.get (i:=i) (x:=x) t (by simpa using e);exact⟨u,by simpa using c,b⟩
theorem Vals.set{x:V}{u:Value}(r:RelV x u):∀{xs:ag} {a:au} (i:Nat),Vals xs a->Vals (xs.set i x) (a.set i u)
 |_,_,_,.nil=>.nil
 |_,_,0,.cons _ t=>.cons r t
 |_,_,i+1,.cons q t=>.cons q (Vals.set r i t)
theorem Vals.append:∀{xs a:ag} {b ws:au},Vals xs b->Vals a ws->Vals (xs++a) (b++ws)
 |_,_,_,_,.nil,s=>s
 |_,_,_,_,.cons r t,s=>.cons r (Vals.append t s)
theorem Vals.take:∀{xs:ag} {a:au} (n:Nat),Vals xs a->Vals (xs.take n) (a.take n)
 |_,_,0,_=>.nil
 |_,_,_+1,.nil=>.nil
 |_,_,n+1,.cons r t=>.cons r (Vals.take n t)
theorem Vals.drop:∀{xs:ag} {a:au} (n:Nat),Vals xs a->Vals (xs.drop n) (a.drop n)
 |_,_,0,r=>r
 |_,_,_+1,.nil=>.nil
 |_,_,n+1,.cons _ t=>Vals.drop n t
def AG:Option V->Option Value->Prop
 |some v,some u=>RelV v u
 |none,none=>True
 |_,_=>False
def KV{κ:Type}:List (κ×V)->List (κ×Value)->Prop:=Paired λ(p:κ×V) (q:κ×Value)=>p.1=q.1/\RelV p.2 q.2
noncomputable def kV:Key->V
 |.inl i=>.int i
 |.inr x=>.str x
inductive HO where
 |lst (xs:ag)|tup (xs:ag)|mO (lo hi:Int)|kr (o:Obj) (u:HO)|ext (φ:Heap->Prop)
abbrev Hp:=Addr->Option HO
noncomputable def upd(H:Hp)(a:Addr)(o:HO):Hp:=λb=>if b=a then some o else H b
variable {H:Hp}
theorem aZ{a:Addr}{o:HO}:upd H a o a=some o:=by unfold upd;rw[if_pos rfl]
theorem bC{a b:Addr}{o:HO}(h:b≠a):upd H a o b=H b:=by unfold upd;rw[if_neg h]
theorem fY{a b:Addr}{o:HO}(h:H a=some o)(h':H b=none):a≠b:=by
 intro e;subst e;rw[h]at h';cases h'
section
def cQ(H:Hp)(h:Heap)(a:Addr):HO->Prop
 |.lst b=>b.length<=sizeLine/\∃(c:au) (n:Nat),Vals b c/\h.get? a=some { cls:=.type "list",data:=.seq c.toArray n }
 |.tup b=>b.length<=sizeLine/\∃c:au,Vals b c/\IsTup h a c.toArray
 |.mO g i=>∃t u v,h.get? a=some { cls:=.type "range",data:=.fields #[.int g t,.int i u,.int 1 v] }
 |.kr o u=>h.get? a=some o/\cQ H h a u
 |.ext d=>d h/\(∃o,h.get? a=some o)/\∀f e:Heap,d f->(∀o,f.get? a=some o->e.get? a=some o)->d e
def mF(H:Hp)(h:Heap):Prop:=∀a o,H a=some o->cQ H h a o
end
section
variable {P:aI}{w:World}{H H':Hp}{h h':Heap}{a:Addr}{o:HO}
theorem mP(x:cQ H h a o):∃u,h.get? a=some u:=by
 cases o with
 |lst b=>obtain⟨_,_,_,_,e⟩:=x;exact⟨_,e⟩
 |tup b=>obtain⟨_,_,_,o,e,_⟩:=x;exact⟨_,e⟩
 |mO d f=>obtain⟨_,_,_,e⟩:=x;exact⟨_,e⟩
 |kr o u=>exact⟨_,x.1⟩
 |ext c=>exact x.2.1
theorem cQ.lt(x:cQ H h a o):a<h.objs.size:=(mP x).elim λ_ e=>aai e
theorem Paired.Vh{g e:Type}{F G:g->e->Prop}:∀{d:List g} {c:List e},Paired F d c->(∀a b,F a b->G a b)->Paired G d c
 |_,_,.nil,_=>.nil
 |_,_,.cons r t,f=>.cons (f _ _ r) (Paired.Vh t f)
theorem cQ.oK(x:cQ H h a o)(k:∀u,h.get? a=some u->h'.get? a=some u):cQ H' h' a o:=by
 induction o with
 |lst f=>obtain⟨z,b,n,r,e⟩:=x;exact⟨z,b,n,r,k _ e⟩
 |tup f=>obtain⟨z,b,r,d,e,c⟩:=x;exact⟨z,b,r,d,k _ e,c⟩
 |mO j l=>obtain⟨t,u,v,e⟩:=x;exact⟨t,u,v,k _ e⟩
 |kr d u g=>exact⟨k _ x.1,g x.2⟩
 |ext i=>exact⟨x.2.2 _ _ x.1 k,x.2.1.imp k,x.2.2⟩
theorem mF.lt(x:mF H h)(e:H a=some o):a<h.objs.size:=(x a o e).lt
theorem mF.fresh(x:mF H h)(e:h.objs.size<=a):H a=none:=by
 cases q:H a with
 |none=>rfl
 |some u=>exact absurd (aah (x.lt q) e) (aaw _)
theorem mF.kept(x:mF H h)(k:∀b u,h.get? b=some u->h'.get? b=some u):mF H h':=λa o e =>
 (x a o e).oK (k a)
theorem mF.laid(x:mF H h)(k:∀b u,h.get? b=some u->h'.get? b=some u)(f:h.objs.size<=a)(c:cQ (upd H a o) h' a o):mF (upd H a o) h':=λb u e=>by
 have g:=x.fresh f;by_cases d:b=a
 ·subst d;rw[aZ]at e;cases e;exact c
 ·rw[bC d]at e;exact(x b u e).oK (k b)
end
def Rd(H:Hp)(a:Addr)(u:HO):Prop:=H a=some u\/∃o,H a=some (.kr o u)
theorem Rd.ok{h:Heap}{a:Addr}{u:HO}(r:Rd H a u)(x:mF H h):cQ H h a u:=by
 rcases r with r|⟨o,r⟩
 ·exact x a u r
 ·obtain⟨_,q⟩:=x a _ r;exact q
def XG:Option HO->Prop
 |some (.lst _)=>True
 |some (.ext _)=>True
 |_=>False
section
variable {P:aI}{w:World}{H:Hp}{h h':Heap}{x e:Addr}{o':HO}
theorem mF.write(ok:mF H h)(k:∀b u,b≠x->h.get? b=some u->h'.get? b=some u)
  (a:cQ (upd H x o') h' x o'):mF (upd H x o') h':=λb u q=>by
 by_cases c:b=x
 ·subst c;rw[aZ]at q;cases q;exact a
 ·rw[bC c]at q;exact(ok b u q).oK λv=>k b v c
end
structure Un(fs ex:aS)(H H':Hp)(h h':Heap):Prop where
 keep:∀b o,h.get? b=some o->H b=none->b∉fs->b∉ex->h'.get? b=some o
 slot:∀b o,h.get? b=some o->H b=none->b∈fs->b∉ex->∃sl,h'.get? b=some { o with slots:=sl }
 free:∀b o,h.get? b=some o->H b=none->b∉ex->H' b=none
 there:∀b o,h.get? b=some o->b∉ex->∃o',h'.get? b=some o'
 rT:∀b xs,H b=some (.tup xs)->H' b=some (.tup xs)
 qr:∀b o u,H b=some (.kr o u)->H' b=some (.kr o u)
section
variable {fs fs' ex Rn:aS}{H H1 H2:Hp}{h h1 h2 h':Heap}{a x e:Addr}{o:HO}
theorem Un.any(u:Un fs ex H H1 h h1){b:Addr}{c:Obj}(q:h.get? b=some c)(n:H b=none)(d:b∉ex):∃g,h1.get? b=some { c with slots:=g }:=by
 by_cases f:b∈fs
 ·exact u.slot b c q n f d
 ·exact⟨c.slots,u.keep b c q n f d⟩
theorem Un.kept(k:∀b u,h.get? b=some u->h'.get? b=some u):Un fs ex H H h h' :=
 ⟨λb c q _ _ _=>k b c q,λb c q _ _ _=>⟨c.slots,k b c q⟩,λ_ _ _ n _=>n,λb c q _=>⟨c,k b c q⟩,λ_ _ q=>q,λ_ _ _ q=>q⟩
theorem Un.refl:Un fs ex H H h h:=Un.kept λ_ _ q=>q
theorem Un.laid(k:∀b u,h.get? b=some u->h'.get? b=some u)(f:h.objs.size<=a)(c:H a=none):Un fs ex H (upd H a o) h h' where
 keep:=λb u q _ _ _=>k b u q
 slot:=λb u q _ _ _=>⟨u.slots,k b u q⟩
 free:=λb u q n _=>by rw[bC (Nat.ne_of_lt (Nat.lt_of_lt_of_le (Heap.lt_size q) f))];exact n
 there:=λb u q _=>⟨u,k b u q⟩
 rT:=λb d q=>by rw[bC (fY q c)];exact q
 qr:=λb u d q=>by rw[bC (fY q c)];exact q
theorem Un.write(c:XG (H x))(k:∀b u,b≠x->h.get? b=some u->h'.get? b=some u)(l:∃u,h'.get? x=some u):Un fs ex H (upd H x o) h h':=by
 have d:∀b,H b=none->b≠x:=λb n z=>by subst z;rw[n]at c;exact c
 have f:∀b u,H b=some u->¬ XG (some u)->b≠x:=λb u q j z=>by subst z;rw[q]at c;exact j c
 refine⟨λb u q n _ _=>k b u (d b n) q,λb u q n _ _=>⟨u.slots,k b u (d b n) q⟩,λb u q n _=>by rw[bC (d b n)];exact n,λb u q _=>?_,
  λb i q=>by rw[bC (f b _ q λz=>z)];exact q,λb u i q=>by rw[bC (f b _ q λz=>z)];exact q⟩
 by_cases g:b=x
 ·subst g;exact l
 ·exact⟨u,k b u g q⟩
end
noncomputable def Sj(h:Heap)(H:Hp):aS:=(List.range h.objs.size).filter λa=>(H a).isSome
def sV(h:Heap)(H:Hp):Heap:=PySem.W.hideAll h (Sj h H)
theorem z_(h:Heap)(H:Hp):(sV h H).objs.size=h.objs.size:=PySem.W.hideAll_size _ _
variable {o:Obj}
theorem Dc{h:Heap}{b:Addr}(e:h.get? b=some o)(n:H b=none):(sV h H).get? b=some o :=
 PySem.W.hideAll_get _ e λa=>by
  have q:(H b).isSome=true:=(List.mem_filter.mp a).2;rw[n]at q;simp at q
theorem F5{h:Heap}{b:Addr}(e:(sV h H).get? b=some o):h.get? b=some o/\H b=none:=by
 have a:h.get? b=some o:=PySem.W.of_hideAll (Sj h H) e;refine⟨a,?_⟩;cases q:H b with
 |none=>rfl
 |some x =>
  have c:b∈Sj h H:=List.mem_filter.mpr ⟨List.mem_range.mpr (aai a),by simp[q]⟩;have z:(sV h H).get? b=none:=PySem.W.hideAll_none (Sj h H) c;rw[z]at e;cases e
noncomputable def HJ(g h:Heap)(L:Addr):ao:=(List.range h.objs.size).filterMap λa=>if a=L\/(g.get? a).isSome=true then none else(h.get? a).map λo=>(a,o)
def rest(g h:Heap)(L d:Addr):ao:=(HJ g h L).filter λp=>decide (p.1≠d)
end L2
namespace L2
open PySem PySem.Spec PyProof.Rows
structure Mod(K:av)(mg:bp)(base:Heap):Prop where
 Vm:K.In base
 glob:base.Ns mainGlobals mg
 blt:∃mb,base.Ns builtinsNs mb/\∀x:Str,x ≠ "__name__" -> mb x=bootBuiltins x
 nolimit:base.NoLimit
structure Cx where
 prog:aI
 w:World
 K:av
 mg:bp
 base:Heap
 A:aG
 N:ak
 s₀:Shared
 H₀:Hp
 env:Env
 outer:List Env
 stack:List Env
 ex:aS
 fn:Str->Bool
 calm:Bool
 pn:ao
 xe:aB
noncomputable def AW(l:List Env):aS:=l.filterMap (·.frame)
abbrev Cx.fs(X:Cx):aS:=AW X.outer
def M7(sc:Scope)(x:Str):Prop:=sc.names.lookup x=some .local\/sc.names.lookup x=some .cell\/sc.names.lookup x=some .free
def Loc(sc:Scope)(x:Str):Prop:=sc.names.lookup x=some .local\/sc.names.lookup x=some .cell
def Look(env:Env)(h:Heap)(m:bp)(x:Str)(u:Value):Prop :=
 (env.kindOf x=some .local/\m x=some u)\/((env.kindOf x=some .cell\/env.kindOf x=some .free)/\∃c,env.cells.lookup x=some c/\h.IsCell c (some u))
structure Cx.Ok(X:Cx):Prop where
 mod:Mod X.K X.mg X.base
 kind:X.env.scope.kind=.function
 glob:X.env.globals=mainGlobals
 blt:X.env.builtins=builtinsNs
 above:X.s₀.heap.objs.size<=X.env.locals
 inj:∀x y c,X.env.cells.lookup x=some c->X.env.cells.lookup y=some c->x=y
 has:∀x,(X.env.kindOf x=some .cell\/X.env.kindOf x=some .free)->∃c,X.env.cells.lookup x=some c
 RI:∀x c,X.fn x=true->X.env.cells.lookup x=some c->X.s₀.heap.objs.size<=c
 hd:X.calm=true->X.A.handled=none
 frames:X.A.frames=some X.stack
 Sq:X.stack=X.outer\/(X.stack=X.env::X.outer/\X.env.frame=some X.env.locals)
 Zf:∀b∈X.ex,b≠X.env.locals/\∀x c,X.env.cells.lookup x=some c->c≠b
 bs:∀b o,X.base.get? b=some o->X.s₀.heap.get? b=some o/\X.H₀ b=none
 Jb:X.base.objs.size<=X.s₀.heap.objs.size
 Ck:∀b o,X.base.get? b=some o->b∉X.ex
 GU:∀b∈X.ex,b∉X.fs
 nu:X.s₀.heap.FunFrames X.base X.outer
 NW:∀b∈X.fs,X.H₀ b=none
structure Inv(X:Cx)(pins:ao)(σ:List (Option V))(H:Hp)(s:Shared):Prop where
 ok:X.Ok
 os:s.os=X.s₀.os
 bare:AllBare s.gens
 base:Un X.fs X.ex X.H₀ H X.s₀.heap s.heap
 loc:∃m,s.heap.Ns X.env.locals m/\∀(i:Nat) (x:Str) (v:V),X.N[i]?=some x->σ[i]?=some (some v)->M7 X.env.scope x->∃u,RelV v u/\Look X.env s.heap m x u
 cell:∀x c,X.env.cells.lookup x=some c->∃v,s.heap.IsCell c v
 free:H X.env.locals=none
 ku:∀x c,X.env.cells.lookup x=some c->H c=none
 pin:∀p∈X.pn++pins,s.heap.get? p.1=some p.2/\H p.1=none/\p.1≠X.env.locals/\p.1∉X.fs/\∀v,p.2.data≠.cell v
 dE:mF H s.heap
 len:σ.length=X.N.length
variable {A:aG}{E:Value->Shared->Prop}{Q:Unit->Shared->Prop}{ch:aS}{t':Nat}
section
variable {X:Cx}{pins:ao}{σ:List (Option V)}{H H':Hp}{s:Shared}{h':Heap}
theorem Cx.Ok.Ve(ok:X.Ok){b:Addr}{o:Obj}(e:X.base.get? b=some o):b∉X.fs:=λa=>by
 have:=(ok.nu.mem a).1;rw[e]at this;cases this
theorem Inv.bs(I:Inv X pins σ H s):∀b o,X.base.get? b=some o->s.heap.get? b=some o/\H b=none:=λb o e =>
 ⟨I.base.keep b o (I.ok.bs b o e).1 (I.ok.bs b o e).2 (I.ok.Ve e) (I.ok.Ck b o e),I.base.free b o (I.ok.bs b o e).1 (I.ok.bs b o e).2 (I.ok.Ck b o e)⟩
theorem Inv.bk(I:Inv X pins σ H s):∀b o,X.base.get? b=some o->s.heap.get? b=some o:=λb o e=>(I.bs b o e).1
theorem Inv.mod(I:Inv X pins σ H s):Mod X.K X.mg X.base:=I.ok.mod
theorem Inv.Ey(I:Inv X pins σ H s):X.K.In s.heap:=I.ok.mod.Vm.keeps I.bk
theorem Inv.lt(I:Inv X pins σ H s):X.env.locals<s.heap.objs.size:=let ⟨_,hn,_⟩:=I.loc;hn.lt
theorem Inv.sz(I:Inv X pins σ H s):X.s₀.heap.objs.size<=s.heap.objs.size:=aar I.ok.above (aa6 I.lt)
theorem Inv.KS(I:Inv X pins σ H s){a:Addr}(h:s.heap.objs.size<=a):a∉X.fs:=λc=>by
 obtain⟨_,o,b,_⟩:=I.ok.nu.mem c;exact absurd (aah (aai b) (aar I.sz h)) (aaw _)
theorem Inv.MU(I:Inv X pins σ H s):∀x c,X.env.cells.lookup x=some c->c≠X.env.locals:=λx c e z=>by
 obtain⟨v,o,a,b⟩:=I.cell x c e;obtain⟨m,⟨g,h,i,d,f,_⟩,_⟩:=I.loc;rw[z,d]at a;cases a;rw[f]at b;cases b
theorem Inv.nu(I:Inv X pins σ H s):s.heap.FunFrames X.base X.outer:=by
 have all:∀(l:List Env),(∀b∈AW l,b∈X.fs)->X.s₀.heap.FunFrames X.base l->s.heap.FunFrames X.base l:=by
  intro l;induction l with
  |nil=>intro _ _;trivial
  |cons p r g =>
   intro f k;obtain⟨m,⟨L,o,a,j,i,n⟩,h⟩:=k;have d:L∈X.fs:=f L (by unfold AW;rw[List.filterMap_cons,a];exact aae);obtain⟨q,e⟩:=I.base.slot L o i (I.ok.NW L d) d λz=>I.ok.GU L z d;exact⟨m,⟨L,_,a,j,e,n⟩,g (λb c=>f b (by unfold AW;rw[List.filterMap_cons,a];exact aac _ c)) h⟩
 exact all X.outer (λ_ c=>c) I.ok.nu
theorem Inv.stack(I:Inv X pins σ H s):s.heap.FunFrames X.base X.stack:=by
 rcases I.ok.Sq with e|⟨e,b⟩
 ·rw[e];exact I.nu
 ·rw[e];obtain⟨m,a,_⟩:=I.loc;refine .cons (by rw[I.ok.kind];decide) b a ?_ I.nu;exact Heap.get?_none_of_le (aar I.ok.Jb I.ok.above)
theorem Inv.l6(I:Inv X pins σ H s):∀b∈AW X.stack,b∈X.env.locals::X.fs:=λb a=>by
 rcases I.ok.Sq with e|⟨e,c⟩
 ·rw[e]at a;exact aac _ a
 ·rw[e]at a;unfold AW at a;rw[List.filterMap_cons,c]at a;exact a
theorem Inv.xW(I:Inv X pins σ H s):∀b∈AW X.stack,H b=none:=λb a=>by
 rcases List.mem_cons.mp (I.l6 b a)with e|a
 ·rw[e];exact I.free
 ·obtain⟨_,o,c,_⟩:=I.ok.nu.mem a;exact I.base.free b o c (I.ok.NW b a) λz=>I.ok.GU b z a
theorem Inv.step{g':Array GenState}{d':Drawn}(I:Inv X pins σ H s)
  (y:∀b∈ch,(b∈X.ex\/X.s₀.heap.objs.size<=b)/\b≠X.env.locals/\(∀x c,X.env.cells.lookup x=some c->c≠b)/\∀p∈X.pn++pins,p.1≠b)
  (keep:∀b o,b≠X.env.locals->b∉X.fs->b∉ch->s.heap.get? b=some o->H b=none->h'.get? b=some o)
  (slot:∀b o,b≠X.env.locals->b∈X.fs->b∉ch->s.heap.get? b=some o->H b=none->∃D,h'.get? b=some { o with slots:=D }) (free:∀b o,b∉ch->s.heap.get? b=some o->H b=none->H' b=none)
  (there:∀b o,b∉ch->s.heap.get? b=some o->∃t,h'.get? b=some t)
  (N:∀b f,H b=some (.tup f)->H' b=some (.tup f)) (O:∀b o u,H b=some (.kr o u)->H' b=some (.kr o u))
  (ns:∀m,s.heap.Ns X.env.locals m->h'.Ns X.env.locals m) (U:mF H' h') (S:AllBare g') :
  Inv X pins σ H' { s with heap:=h',gens:=g',drawn:=d',toks:=t' }:=by
 have M:∀b o,X.s₀.heap.get? b=some o->b≠X.env.locals:=λb o e=>aao (aah (aai e) I.ok.above);have B:∀b o,X.s₀.heap.get? b=some o->b∉X.ex->b∉ch:=λb o e a g=>by
  rcases(y b g).1 with z|z
  ·exact a z
  ·exact absurd (aah (aai e) z) (aaw _)
 have cellK:∀x c,X.env.cells.lookup x=some c->∀v,s.heap.IsCell c v->h'.IsCell c v:=λx c e v W=>by
  obtain⟨o,j,F⟩:=W;have w:c∉ch:=λz=>(y c z).2.2.1 x c e rfl;by_cases L:c∈X.fs
  ·obtain⟨D,q⟩:=slot c o (I.MU x c e) L w j (I.ku x c e);exact⟨_,q,F⟩
  ·exact⟨o,keep c o (I.MU x c e) L w j (I.ku x c e),F⟩
 refine⟨I.ok,I.os,S,⟨λb o e n g a=>?_,λb o e n g a=>?_,λb o e n a=>?_,λb o e a=>?_,λb f e=>N b f (I.base.rT b f e),λb o f e=>O b o f (I.base.qr b o f e)⟩,?_,λx c e=>?_,?_,λx c e=>?_,λp K=>?_,U,I.len⟩
 ·exact keep b o (M b o e) g (B b o e a) (I.base.keep b o e n g a) (I.base.free b o e n a)
 ·obtain⟨D,h⟩:=I.base.slot b o e n g a;obtain⟨C,G⟩:=slot b _ (M b o e) g (B b o e a) h (I.base.free b o e n a);exact⟨C,G⟩
 ·obtain⟨t,h⟩:=I.base.there b o e a;exact free b t (B b o e a) h (I.base.free b o e n a)
 ·obtain⟨t,h⟩:=I.base.there b o e a;exact there b t (B b o e a) h
 ·obtain⟨m,P,R⟩:=I.loc;refine⟨m,ns m P,λi x v h G T=>?_⟩;obtain⟨u,r,l⟩:=R i x v h G T;refine⟨u,r,?_⟩;rcases l with l|⟨k,c,e,z⟩
  ·exact .inl l
  ·exact .inr ⟨k,c,e,cellK x c e _ z⟩
 ·obtain⟨v,z⟩:=I.cell x c e;exact⟨v,cellK x c e v z⟩
 ·obtain⟨m,⟨o,_,_,j,_⟩,_⟩:=I.loc;exact free _ o (λz=>(y _ z).2.1 rfl) j I.free
 ·obtain⟨v,o,j,F⟩:=I.cell x c e;exact free c o (λz=>(y c z).2.2.1 x c e rfl) j (I.ku x c e)
 ·obtain⟨e,n,ne,J,d⟩:=I.pin p K;have w:p.1∉ch:=λz=>(y p.1 z).2.2.2 p K rfl;exact⟨keep p.1 p.2 ne J w e n,free p.1 p.2 w e n,ne,J,d⟩
theorem Inv.un(I:Inv X pins σ H s)(u:Un X.fs [] H H' s.heap h')(j:mF H' h'):Inv X pins σ H' { s with heap:=h',toks:=t' }:=by
 obtain⟨m,⟨o,t,v,d,r⟩,_⟩:=id I.loc;obtain⟨l,i⟩:=u.any d I.free (by simp);exact I.step (g':=s.gens) (d':=s.drawn) (ch:=[]) (λ_ z=>nomatch z) (λb o _ a _ e n=>u.keep b o e n a (by simp)) (λb o _ a _ e n=>u.slot b o e n a (by simp)) (λb o _ e n=>u.free b o e n (by simp)) (λb o _ e=>u.there b o e (by simp)) u.rT u.qr (λq h=>by
  obtain⟨p,k,g,c,f⟩:=h;rw[d]at c;cases c;exact⟨_,k,g,i,f⟩) j I.bare
theorem Inv.call{g':Array GenState}{d':Drawn}(I:Inv X pins σ H s)(u:Un (AW X.stack) ch H H' s.heap h')(t:mF H' h')(l:AllBare g')
  (h:∀b∈ch,(b∈X.ex\/X.s₀.heap.objs.size<=b)/\b≠X.env.locals/\(∀x c,X.env.cells.lookup x=some c->c≠b)/\∀p∈X.pn++pins,p.1≠b) :
  Inv X pins σ H' { s with heap:=h',gens:=g',drawn:=d',toks:=t' }:=by
 obtain⟨m,⟨o,C,D,g,r⟩,_⟩:=id I.loc;obtain⟨w,d⟩:=u.any g I.free λz=>(h _ z).2.1 rfl;exact I.step (ch:=ch) h (λb o d q a e n=>u.keep b o e n (λz=>(List.mem_cons.mp (I.l6 b z)).elim d q) a) (λb o _ _ a e n=>u.any e n a) (λb o a e n=>u.free b o e n a) (λb o a e=>u.there b o e a) u.rT u.qr (λB k=>by
  obtain⟨y,v,j,f,i⟩:=k;rw[g]at f;cases f;exact⟨_,v,j,d,i⟩) t l
theorem Inv.turned{it:Addr}(I:Inv X pins σ H s)(k:∀b o,b≠it->s.heap.get? b=some o->h'.get? b=some o)(g:H it=none)(d:it≠X.env.locals)
  (q:it∈X.ex\/X.s₀.heap.objs.size<=it) (l:∀x c,X.env.cells.lookup x=some c->c≠it) (j:∀p∈X.pn++pins,p.1≠it):Inv X pins σ H { s with heap:=h',toks:=t' }:=by
 have y:∀b u,H b=some u->b≠it:=λb u e z=>by rw[z,g]at e;cases e
 refine I.step (g':=s.gens) (d':=s.drawn) (ch:=[it]) (λb i=>?_) (λb o _ _ a e _=>k b o (λz=>a (by simp[z])) e) (λb o _ _ a e _=>⟨o.slots,k b o (λz=>a (by simp[z])) e⟩) (λ_ _ _ _ n=>n)
  (λb o a e=>⟨o,k b o (λz=>a (by simp[z])) e⟩) (λ_ _ e=>e) (λ_ _ _ e=>e) (λm h=>?_) (λb u e=>?_) I.bare
 ·have e:b=it:=by simpa using i
  subst e;exact⟨q,d,l,j⟩
 ·obtain⟨o,t,w,f,r⟩:=h;exact⟨o,t,w,k _ o (abP d) f,r⟩
 ·exact(I.dE b u e).oK λv=>k b v (y b u e)
theorem Inv.tok(I:Inv X pins σ H s)(t:Nat):Inv X pins σ H { s with toks:=t }:=I.un (h':=s.heap) (t':=t) Un.refl I.dE
theorem Inv.kept{t':Nat}(I:Inv X pins σ H s)(k:∀b u,s.heap.get? b=some u->h'.get? b=some u):Inv X pins σ H { s with heap:=h',toks:=t' }:=I.un (Un.kept k) (I.dE.kept k)
theorem Inv.laid{a:Addr}{o:HO}{t':Nat}(I:Inv X pins σ H s)(k:∀b u,s.heap.get? b=some u->h'.get? b=some u)(d:s.heap.objs.size<=a)(c:cQ (upd H a o) h' a o):
  Inv X pins σ (upd H a o) { s with heap:=h',toks:=t' }:=I.un (Un.laid k d (I.dE.fresh d)) (I.dE.laid k d c)
theorem Inv.write{x:Addr}{o:HO}{t':Nat}(I:Inv X pins σ H s)(c:XG (H x))(k:∀b u,b≠x->s.heap.get? b=some u->h'.get? b=some u)(d:∃u,h'.get? x=some u)
  (a:cQ (upd H x o) h' x o):Inv X pins σ (upd H x o) { s with heap:=h',toks:=t' }:=I.un (Un.write c k d) (I.dE.write k a)
theorem Inv.jR{a:ao}(I:Inv X pins σ H s)(h:∀p∈a,s.heap.get? p.1=some p.2/\H p.1=none/\p.1≠X.env.locals/\p.1∉X.fs/\∀v,p.2.data≠.cell v):Inv X a σ H s :=
 ⟨I.ok,I.os,I.bare,I.base,I.loc,I.cell,I.free,I.ku,λp b=>(List.mem_append.mp b).elim (λz=>I.pin p (aax _ z)) (h p),I.dE,I.len⟩
theorem uT{N:ak}(c:N.Nodup){i j:Nat}{x:Str}(a:N[i]?=some x)(b:N[j]?=some x):i=j:=by
 obtain⟨g,e⟩:=List.getElem?_eq_some_iff.mp a;obtain⟨f,d⟩:=List.getElem?_eq_some_iff.mp b;exact(acv c).mp (e.trans d.symm)
theorem zE{M:Model}{i:Nat}{x:Str}{v:V}{u:Value}(I:Inv X pins σ H s)(hN:X.N.Nodup)(F:X.N[i]?=some x)(l:Loc X.env.scope x)(r:RelV v u)
  (h:∀R,Inv X pins (σ.set i (some v)) H R->(∃a,Heap.SameBut a s.heap R.heap/\(a=X.env.locals\/X.env.cells.lookup x=some a))->Q () R) (hf:X.fn x=true\/X.env.scope.names.lookup x=some .local:=by first|exact .inl rfl|exact .inr rfl|assumption):wpAny M A (storeName X.env x u) Q E s:=by
 obtain⟨m,Y,hl⟩:=id I.loc;have Wu:(X.env.scope.kind==.class||(X.env.scope.kind==.module&&X.env.locals != X.env.globals))=false:=by rw[I.ok.kind];rfl
 have QJ:i<σ.length:=by rw[I.len];exact(List.getElem?_eq_some_iff.mp F).1
 have MU:=I.MU;have tracked:∀{a:Addr} {h':Heap},(∃o,s.heap.get? a=some o/\H a=none)->Heap.SameBut a s.heap h'->mF H h':=λ{a h'} ha f b ob e=>by
  obtain⟨_,_,QK⟩:=ha;exact(I.dE b ob e).oK λG q=>(f.2 b (by rintro rfl;rw[QK]at e;cases e)).trans q
 rcases l with B|B
 ·refine wpAny_storeName_local B Y (λh' yK f=>?_) Wu;obtain⟨oL,_,_,QC,_⟩:=id Y;refine h _ ⟨I.ok,I.os,I.bare,⟨λb o e n D l=>?_,λb o e n D l=>?_,I.base.free,λb o e l=>?_,I.base.rT,I.base.qr⟩,⟨_,yK,λj y K g w Z=>?_⟩,λy c e=>?_,I.free,I.ku,λp W=>?_,tracked ⟨oL,QC,I.free⟩ f,by simpa using I.len⟩ ⟨_,f,.inl rfl⟩
  ·exact(f.2 b (aao (aah (aai e) I.ok.above))).trans (I.base.keep b o e n D l)
  ·obtain⟨P,g⟩:=I.base.slot b o e n D l;exact⟨P,(f.2 b (aao (aah (aai e) I.ok.above))).trans g⟩
  ·obtain⟨T,g⟩:=I.base.there b o e l;exact⟨T,(f.2 b (aao (aah (aai e) I.ok.above))).trans g⟩
  ·by_cases C:j=i
   ·subst C;rw[F]at g;cases g;rw[List.getElem?_set_self QJ]at w;cases w;exact⟨u,r,.inl ⟨B,by simp⟩⟩
   ·rw[List.getElem?_set_ne (Ne.symm C)]at w;obtain⟨L,S,q⟩:=hl j y K g w Z;refine⟨L,S,?_⟩;rcases q with ⟨k,e⟩|⟨k,c,e,z⟩
    ·refine .inl ⟨k,?_⟩;have:y≠x:=λe=>C (uT hN g (e▸F));simp[this,e]
    ·exact .inr ⟨k,c,e,z.sameBut f (MU y c e)⟩
  ·obtain⟨G,z⟩:=I.cell y c e;exact⟨G,z.sameBut f (MU y c e)⟩
  ·obtain⟨e,n,ne,U,d⟩:=I.pin p W;exact⟨(f.2 p.1 ne).trans e,n,ne,U,d⟩
 ·have O:X.fn x=true:=by
   rcases hf with z|z
   ·exact z
   ·rw[z]at B;cases B
  obtain⟨c,t⟩:=I.ok.has x (.inl B);obtain⟨G,z⟩:=I.cell x c t;refine wpAny_storeName_cell I.ok.kind B t z (λh' Ad f=>?_);obtain⟨oc,S9,V4⟩:=id z;refine h { s with heap:=h' } ⟨I.ok,I.os,I.bare,⟨λb o e n D l=>?_,λb o e n D l=>?_,I.base.free,λb o e l=>?_,I.base.rT,I.base.qr⟩,⟨m,Y.sameBut f (abP (MU x c t)),λj y K g w Z=>?_⟩,λy J e=>?_,I.free,I.ku,λp W=>?_,tracked ⟨oc,S9,I.ku x c t⟩ f,by simpa using I.len⟩ ⟨c,f,.inr t⟩
  ·exact(f.2 b (aao (aah (aai e) (I.ok.RI x c O t)))).trans (I.base.keep b o e n D l)
  ·obtain⟨P,g⟩:=I.base.slot b o e n D l;exact⟨P,(f.2 b (aao (aah (aai e) (I.ok.RI x c O t)))).trans g⟩
  ·obtain⟨T,g⟩:=I.base.there b o e l;exact⟨T,(f.2 b (aao (aah (aai e) (I.ok.RI x c O t)))).trans g⟩
  ·by_cases C:j=i
   ·subst C;rw[F]at g;cases g;rw[List.getElem?_set_self QJ]at w;cases w;exact⟨u,r,.inr ⟨.inl B,c,t,Ad⟩⟩
   ·rw[List.getElem?_set_ne (Ne.symm C)]at w;obtain⟨L,S,q⟩:=hl j y K g w Z;refine⟨L,S,?_⟩;rcases q with q|⟨k,J,e,z'⟩
    ·exact .inl q
    ·refine .inr ⟨k,J,e,z'.sameBut f ?_⟩;rintro rfl;exact C (uT hN g (I.ok.inj _ _ _ e t▸F))
  ·by_cases Y3:J=c
   ·subst Y3;exact⟨_,Ad⟩
   ·obtain⟨w2,z2⟩:=I.cell y J e;exact⟨w2,z2.sameBut f Y3⟩
  ·obtain⟨e,n,ne,U,d⟩:=I.pin p W;refine⟨(f.2 p.1 ?_).trans e,n,ne,U,d⟩;intro q;rw[q,S9]at e;have q':oc=p.2:=aat e;exact d G (by rw[<- q'];exact V4)
theorem k8{M:Model}{i:Nat}{x:Str}{v:V}{u:Value}(I:Inv X pins σ H s)(e:X.N.Nodup)(c:X.N[i]?=some x)(b:Loc X.env.scope x)(r:RelV v u)
  (h:∀a,Inv X pins (σ.set i (some v)) H a->Q () a) (d:X.fn x=true\/X.env.scope.names.lookup x=some .local:=by first|exact .inl rfl|exact .inr rfl|assumption):wpAny M A (storeName X.env x u) Q E s :=
 zE I e c b r (λa f _=>h a f) d
theorem Inv.RH{a:Shared}(I:Inv X pins σ H s)(h:a.os=s.os)(u:Un (AW X.stack) ch H H' s.heap a.heap)(j:mF H' a.heap)(i:AllBare a.gens)
  (k:∀b∈ch,(b∈X.ex\/X.s₀.heap.objs.size<=b)/\b≠X.env.locals/\(∀x c,X.env.cells.lookup x=some c->c≠b)/\∀p∈X.pn++pins,p.1≠b):Inv X pins σ H' a:=by
 obtain⟨h',d,f,t',g⟩:=a;have e:g=s.os:=h;subst e;exact I.call (g':=d) (t':=t') (d':=f) u j i k
end
abbrev XK:=Value->Option Addr->Hp->Prop
abbrev St:=List (Option V)
abbrev VK:=V->Hp->Prop
abbrev TE:=St->Hp->VK->Prop
abbrev TT:=St->Hp->(Bool->Hp->Prop)->Prop
abbrev TA:=St->Hp->(ag->Hp->Prop)->Prop
structure Ends where
 nx:St->Hp->Prop
 rt:VK
 bk:St->Hp->Prop:=λ_ _=>False
 ct:St->Hp->Prop:=λ_ _=>False
abbrev TS:=Ends->St->Hp->Prop
def EP(X:Cx)(pins:ao)(b:St)(Q:VK)(u:Value)(c:Shared):Prop:=∃v a,Inv X pins b a c/\RelV v u/\Q v a
def TP(X:Cx)(pins:ao)(c:St)(Q:Bool->Hp->Prop)(b:Bool)(d:Shared):Prop:=∃a,Inv X pins c a d/\Q b a
def AP(X:Cx)(pins:ao)(c:St)(Q:ag->Hp->Prop)(d:au)(e:Shared):Prop:=∃a b,Inv X pins c b e/\Vals a d/\Q a b
def SP(X:Cx)(pins:ao)(D:Ends)(f:Flow)(c:Shared):Prop :=
 match f with
 |.next=>∃a b,Inv X pins a b c/\D.nx a b
 |.brk=>∃a b,Inv X pins a b c/\D.bk a b
 |.cont=>∃a b,Inv X pins a b c/\D.ct a b
 |.ret u=>∃v a b,Inv X pins a b c/\RelV v u/\D.rt v b
def PE(X:Cx)(e:Expr)(t:TE):Prop :=
 ∀(pins:ao) (s:Shared) (a:St) (H:Hp) (Q:VK),Inv X pins a H s->t a H Q->wpAny (model X.prog X.w) X.A (eval e X.env) (EP X pins a Q) X.xe s
def PT(X:Cx)(e:Expr)(t:TT):Prop :=
 ∀(pins:ao) (s:Shared) (a:St) (H:Hp) (Q:Bool->Hp->Prop),Inv X pins a H s->t a H Q->wpAny (model X.prog X.w) X.A (isTrue e X.env (eval e X.env)) (TP X pins a Q) X.xe s
def PW(X:Cx)(e:Expr)(t:TT):Prop :=
 ∀(whole:Sem Value) (pins:ao) (s:Shared) (a:St) (H:Hp) (Q:Bool->Hp->Prop),Inv X pins a H s->t a H Q->wpAny (model X.prog X.w) X.A (isTrue e X.env whole) (TP X pins a Q) X.xe s
theorem PW.pt{X:Cx}{e:Expr}{t:TT}(h:PW X e t):PT X e t:=h _
def PA(X:Cx)(es:aq)(t:TA):Prop :=
 ∀(pos:Pos) (pins:ao) (s:Shared) (a:St) (H:Hp) (Q:ag->Hp->Prop),Inv X pins a H s->t a H Q->wpAny (model X.prog X.w) X.A (spliced (backTo pos (starEach es X.env))) (AP X pins a Q) X.xe s
def PS(X:Cx)(b:Stmt)(t:TS):Prop :=
 ∀(pins:ao) (s:Shared) (a:St) (H:Hp) (D:Ends),Inv X pins a H s->t D a H->wpAny (model X.prog X.w) X.A (exec b X.env) (SP X pins D) X.xe s
def oo(X:Cx)(b:aX)(t:TS):Prop :=
 ∀(pins:ao) (s:Shared) (a:St) (H:Hp) (D:Ends),Inv X pins a H s->t D a H->wpAny (model X.prog X.w) X.A (execs b X.env) (SP X pins D) X.xe s
theorem dt{b:Type}{t:Sem b}{Q c:b->Shared->Prop}{M:Model}{s:Shared}(h:wpAny M A t Q E s)(d:∀a s,Q a s->c a s):wpAny M A t c E s:=aay h d λ_ _ x=>x
end L2
namespace L2
open PySem PySem.Spec PyProof.Rows
variable {E Q:Value->Shared->Prop}{H:Hp}{pos:Pos}{σ:L2.St}
section
variable {X:Cx}
theorem bin{a b:Expr}{m l:TE}(q:PE X a m)(p:PE X b l){pins:ao}{s:Shared}{R:V->V->Hp->Prop}(I:Inv X pins σ H s)(h:m σ H λx j=>l σ j λy c=>R x y c)
  {k:Type} {Q:k->Shared->Prop} {f:Value->Value->Sem k}
  (o:∀v u g x y c,Inv X pins σ c g->RelV x v->RelV y u->R x y c->wpAny (model X.prog X.w) X.A (f v u) Q X.xe g) :
  wpAny (model X.prog X.w) X.A (eval a X.env) (λv e=>wpAny (model X.prog X.w) X.A (eval b X.env) (λu d=>wpAny (model X.prog X.w) X.A (f v u) Q X.xe d) X.xe e) X.xe s:=by
 refine dt (q pins s σ H _ I h) λv n i=>?_;obtain⟨x,j,t,r1,q1⟩:=i;refine dt (p pins n σ j _ t q1) λu g i=>?_;obtain⟨y,c,r,r2,q2⟩:=i;exact o v u g x y c r r1 r2 q2
def uf(i:Nat):TE:=λσ H Q=>∃v,σ[i]?=some (some v)/\Q v H
def tC(v:V):TE:=λ_ H Q=>Q v H
theorem wG{i:Nat}{x:Str}(o:X.N[i]?=some x)(g:M7 X.env.scope x)(d:(x==("__debug__" : Str))=false:=by decide)(p:(x==("__classdict__" : Str))=false:=by decide):PE X (.Name x pos) (uf i):=by
 intro pins s σ H Q I h;obtain⟨v,e,h⟩:=h;obtain⟨m,j,n⟩:=I.loc;obtain⟨u,r,l⟩:=n i x v o e g;have fin:EP X pins σ Q u s:=⟨v,H,I,r,h⟩
 rcases l with ⟨b,k⟩|⟨b,c,f,a⟩
 ·exact wpAny_Name (wpAny_loadName_local I.ok.kind b j k fin) d
 ·rcases b with b|b
  ·exact wpAny_Name (wpAny_loadName_cell I.ok.kind b f a fin) d
  ·exact wpAny_Name (wpAny_loadName_free I.ok.kind b f a fin p) d
theorem Kx{i j pos}:PE X (.Constant (.int i) j pos) (tC (.int i)):=λ_ _ _ H _ I h=>wpAny_Constant_int ⟨.int i,H,I.tok _,⟨_,rfl⟩,h⟩
theorem Pt{b j pos}:PE X (.Constant (.bool b) j pos) (tC (.bl b)):=λ_ _ _ H _ I h=>Constant_bool ⟨.bl b,H,I,rfl,h⟩
theorem Kw{j pos}:PE X (.Constant .none j pos) (tC .cq):=λ_ _ _ H _ I h=>Constant_none ⟨.cq,H,I,rfl,h⟩
theorem U4{x j pos}:PE X (.Constant (.str x) j pos) (tC (.str x)):=λ_ _ _ H _ I h=>Calls.Constant_str ⟨.str x,H,I.tok _,⟨_,rfl⟩,h⟩
def Gl(X:Cx)(x:Str):Prop:=X.env.kindOf x=some .globalImplicit
theorem yE{pins:ao}{s:Shared}{x:Str}{u:Value}(I:Inv X pins σ H s)(b:Gl X x)(a:X.mg x=some u)(h:Q u s)
  (c:(x==("__debug__" : Str))=false:=by decide):wpAny (model X.prog X.w) X.A (eval (.Name x pos) X.env) Q E s :=
 Calls.Name_function_global I.ok.kind b (Calls.loadGlobal_global (by rw[I.ok.glob];exact I.mod.glob.keeps I.bk) a h) c
theorem eE{pins:ao}{s:Shared}{x:Str}{u:Value}(I:Inv X pins σ H s)(d:Gl X x)(c:X.mg x=none)(a:bootBuiltins x=some u)(h:Q u s)
  (b:x ≠ "__name__":=by decide) (e:(x==("__debug__" : Str))=false:=by decide):wpAny (model X.prog X.w) X.A (eval (.Name x pos) X.env) Q E s:=by
 obtain⟨i,g,f⟩:=I.mod.blt;exact Calls.Name_function_global I.ok.kind d (Calls.loadGlobal_builtin (by rw[I.ok.glob];exact I.mod.glob.keeps I.bk) c (by rw[I.ok.blt];exact g.keeps I.bk) ((f x b).trans a) h) e
theorem yq{x:Str}{v:V}{u:Value}(b:Gl X x)(a:X.mg x=some u)(r:RelV v u)(c:(x==("__debug__" : Str))=false:=by decide):PE X (.Name x pos) (tC v) :=
 λ_ _ _ H _ I h=>yE I b a ⟨v,H,I,r,h⟩ c
theorem FV{x:Str}{v:V}{u:Value}(d:Gl X x)(c:X.mg x=none)(a:bootBuiltins x=some u)(r:RelV v u)(b:x ≠ "__name__":=by decide)(e:(x==("__debug__" : Str))=false:=by decide):PE X (.Name x pos) (tC v) :=
 λ_ _ _ H _ I h=>eE I d c a ⟨v,H,I,r,h⟩ b e
variable {a b:Expr}{ta tb:TE}{pos:Pos}
def tB(t:TE):TT:=λσ H Q=>t σ H λx d=>∃c,x=.bl c/\Q c d
theorem Kl{e:Expr}{t:TE}(h:PE X e t)(he:∀whole,isTrue e X.env whole=(do let v <- whole;standAt e.pos;holding [v] (truthy v)):=by intro _;rfl):PT X e (tB t):=by
 intro pins s σ H Q I hw;refine isTrue_plain (dt (h pins s σ H _ I hw) λv i c=>?_) (he _);obtain⟨x,g,f,r1,q1⟩:=c;obtain⟨d,rfl,q⟩:=q1;cases r1;exact aa9 ⟨g,f,q⟩
variable {tA Sl:TT}{rest:aq}
def ON(t u:TT):TT:=λσ H Q=>t σ H λc d=>if c=true then u σ d Q else Q false d
def X4(t u:TT):TT:=λσ H Q=>t σ H λc d=>if c=true then Q true d else u σ d Q
def T_(t:TT):TT:=λσ H Q=>t σ H λc d=>Q (!c) d
theorem FN(d:PT X a tA):PW X (.BoolOp .And [a] pos) tA:=by
 intro f pins s σ H Q I h;refine isTrue_and (dt (d pins s σ H Q I h) λc g e=>?_);cases c with
 |true=>exact isTrue_and_nil e
 |false=>exact e
theorem Kj(d:PT X a tA):PW X (.BoolOp .Or [a] pos) tA:=by
 intro f pins s σ H Q I h;refine isTrue_or (dt (d pins s σ H Q I h) λc g e=>?_);cases c with
 |false=>exact isTrue_or_nil e
 |true=>exact e
theorem Kk(j:PT X a tA)(i:PW X (.BoolOp .And (b::rest) pos) Sl):PW X (.BoolOp .And (a::b::rest) pos) (ON tA Sl):=by
 intro f pins s σ H Q I h;refine isTrue_and (dt (j pins s σ H _ I h) λc g ⟨e,d,q1⟩=>?_);cases c with
 |true=>exact i f pins g σ e Q d q1
 |false=>exact⟨e,d,q1⟩
theorem Pk(j:PT X a tA)(i:PW X (.BoolOp .Or (b::rest) pos) Sl):PW X (.BoolOp .Or (a::b::rest) pos) (X4 tA Sl):=by
 intro f pins s σ H Q I h;refine isTrue_or (dt (j pins s σ H _ I h) λc g ⟨e,d,q1⟩=>?_);cases c with
 |true=>exact⟨e,d,q1⟩
 |false=>exact i f pins g σ e Q d q1
theorem Km(d:PT X a tA):PT X (.UnaryOp .Not a pos) (T_ tA):=by
 intro pins s σ H Q I h;exact isTrue_not (d pins s σ H (λc e=>Q (!c) e) I h)
def Ia(ta tb:TE):TE:=λσ H Q=>ta σ H λx d=>∃c,x=.bl c/\if c=true then tb σ d Q else Q (.bl false) d
def OH(ta tb:TE):TE:=λσ H Q=>ta σ H λx d=>∃c,x=.bl c/\if c=true then Q (.bl true) d else tb σ d Q
def OI(ta:TE):TE:=λσ H Q=>ta σ H λx d=>∃c,x=.bl c/\Q (.bl (!c)) d
theorem B7{op}{t:TE}(h:PE X a t):PE X (.BoolOp op [a] pos) t:=λpins s σ H Q I hw=>BoolOp_one (h pins s σ H Q I hw)
theorem Ky(i:PE X a ta)(g:PE X (.BoolOp .And (b::rest) pos) tb):PE X (.BoolOp .And (a::b::rest) pos) (Ia ta tb):=by
 intro pins s σ H Q I h;refine BoolOp_and (dt (i pins s σ H _ I h) λv f j=>?_);obtain⟨x,e,d,r1,q1⟩:=j;obtain⟨c,rfl,q1⟩:=q1;cases r1;refine aa9 ?_;cases c with
 |true=>exact g pins f σ e Q d q1
 |false=>exact⟨.bl false,e,d,rfl,q1⟩
theorem Pr(i:PE X a ta)(g:PE X (.BoolOp .Or (b::rest) pos) tb):PE X (.BoolOp .Or (a::b::rest) pos) (OH ta tb):=by
 intro pins s σ H Q I h;refine BoolOp_or (dt (i pins s σ H _ I h) λv f j=>?_);obtain⟨x,e,d,r1,q1⟩:=j;obtain⟨c,rfl,q1⟩:=q1;cases r1;refine aa9 ?_;cases c with
 |false=>exact g pins f σ e Q d q1
 |true=>exact⟨.bl true,e,d,rfl,q1⟩
theorem Kv(d:PE X a ta):PE X (.UnaryOp .Not a pos) (OI ta):=by
 intro pins s σ H Q I h;refine UnaryOp_ (dt (d pins s σ H _ I h) λv i e=>?_);obtain⟨x,g,f,r1,q1⟩:=e;obtain⟨c,rfl,q1⟩:=q1;cases r1;exact not_of (aa9 ⟨.bl (!c),g,f,rfl,q1⟩)
def tIf(t:TT)(ta tb:TE):TE:=λσ H Q=>t σ H λc d=>if c=true then ta σ d Q else tb σ d Q
theorem B_{c:Expr}(i:PT X c tA)(k:PE X a ta)(j:PE X b tb):PE X (.IfExp c a b pos) (tIf tA ta tb):=by
 intro pins s σ H Q I h;refine wpAny_IfExp (dt (i pins s σ H _ I h) λd e ⟨g,f,q1⟩=>?_);cases d with
 |true=>exact k pins e σ g Q f q1
 |false=>exact j pins e σ g Q f q1
end
end L2
namespace L2
open PySem PySem.Spec PyProof.Rows
def dY(K:av)(H:Hp)(a:Addr)(xs:ag):Prop :=
 Rd H a (.lst xs) \/
  ∃(o:Obj) (b:aN) (n:Nat),K.lookup a=some o/\o.cls=.type "list" /\ o.dict=none/\o.data=.seq b n/\b.size<=sizeLine/\Vals xs b.toList
def a_(K:av)(H:Hp)(a:Addr)(xs:ag):Prop :=
 Rd H a (.tup xs) \/
  ∃(o:Obj) (b:aN) (n:Nat),K.lookup a=some o/\o.cls=.type "tuple" /\ o.data=.seq b n/\b.size<=sizeLine/\Vals xs b.toList
noncomputable def XD:Value->Option V
 |.none=>some .cq
 |.bool b=>some (.bl b)
 |.int i _=>some (.int i)
 |.str x _=>some (.str x)
 |.bytes b _=>some (.Xv b)
 |.float b _=>some (.W_ b)
 |.ref a=>some (.ref a)
 |.type n=>some (.ty n)
 |_=>none
theorem RelV.abs{x:V}{u:Value}(r:RelV x u):XD u=some x:=by
 cases x with
 |cq=>cases r;rfl
 |bl _=>cases r;rfl
 |int _=>obtain⟨t,rfl⟩:=r;rfl
 |str _=>obtain⟨t,rfl⟩:=r;rfl
 |Xv _=>obtain⟨t,rfl⟩:=r;rfl
 |W_ _=>obtain⟨t,rfl⟩:=r;rfl
 |ref _=>cases r;rfl
 |ty _=>cases r;rfl
theorem RelV.inj{x y:V}{u:Value}(r:RelV x u)(q:RelV y u):x=y:=aat (r.abs.symm.trans q.abs)
theorem Vals.inj:∀{xs a:ag} {b:au},Vals xs b->Vals a b->xs=a
 |_,_,_,.nil,.nil=>rfl
 |_,_,_,.cons r t,.cons r' t'=>by rw[r.inj r',Vals.inj t t']
variable {K:av}
section
variable {X:Cx}{pins:ao}{σ:St}{H:Hp}{s:Shared}{a:Addr}{xs ys:ag}
theorem dY.of(h:H a=some (.lst xs)):dY K H a xs:=.inl (.inl h)
theorem a_.of(h:H a=some (.tup xs)):a_ K H a xs:=.inl (.inl h)
theorem Inv.list(I:Inv X pins σ H s)(h:dY X.K H a xs):∃b:au,Vals xs b/\PlainL s.heap a b.toArray/\xs.length<=sizeLine:=by
 rcases h with h|⟨o,b,n,d,g,f,c,i,r⟩
 ·obtain⟨z,b,n,r,e⟩:=h.ok I.dE;exact⟨b,r,⟨_,n,e,rfl,rfl,rfl⟩,z⟩
 ·refine⟨b.toList,r,⟨o,n,I.Ey a o d,g,f,by simpa using c⟩,?_⟩;have e:=r.length;simp only[Array.length_toList]at e;left
theorem Inv.tuple(I:Inv X pins σ H s)(h:a_ X.K H a xs):∃b:au,Vals xs b/\IsTup s.heap a b.toArray/\xs.length<=sizeLine:=by
 rcases h with h|⟨o,b,n,d,f,c,g,r⟩
 ·obtain⟨z,b,r,p⟩:=h.ok I.dE;exact⟨b,r,p,z⟩
 ·refine⟨b.toList,r,⟨o,I.Ey a o d,f,n,by simpa using c⟩,?_⟩;have e:=r.length;simp only[Array.length_toList]at e;left
theorem Inv.lr(I:Inv X pins σ H s)(h:dY X.K H a xs)(h':dY X.K H a ys):xs=ys:=by
 obtain⟨i,r,⟨o,n,e,_,_,d⟩,_⟩:=I.list h;obtain⟨b,g,⟨j,k,c,_,_,f⟩,_⟩:=I.list h';rw[e]at c;cases c;rw[d]at f;injection f with d1 _;have:i=b:=by simpa using congrArg Array.toList d1
 subst this;exact r.inj g
theorem Inv.qG(I:Inv X pins σ H s)(h:a_ X.K H a xs)(h':a_ X.K H a ys):xs=ys:=by
 obtain⟨i,r,⟨o,e,_,n,d⟩,_⟩:=I.tuple h;obtain⟨b,g,⟨j,c,_,k,f⟩,_⟩:=I.tuple h';rw[e]at c;cases c;rw[d]at f;injection f with d1 _;have:i=b:=by simpa using congrArg Array.toList d1
 subst this;exact r.inj g
end
noncomputable abbrev Cx.qa(X:Cx)(E:aB):Cx:={ X with xe:=E }
abbrev Cx.PF(X:Cx):Cx:=X.qa λ_ _=>False
theorem Cx.Ok.qa{X:Cx}(ok:X.Ok)(E:aB):(X.qa E).Ok :=
 ⟨ok.mod,ok.kind,ok.glob,ok.blt,ok.above,ok.inj,ok.has,ok.RI,ok.hd,ok.frames,ok.Sq,ok.Zf,ok.bs,ok.Jb,ok.Ck,ok.GU,ok.nu,ok.NW⟩
variable {E:Value->Shared->Prop}{X:Cx}
theorem Cx.Ok.jg(ok:(X.qa E).Ok):X.Ok :=
 ⟨ok.mod,ok.kind,ok.glob,ok.blt,ok.above,ok.inj,ok.has,ok.RI,ok.hd,ok.frames,ok.Sq,ok.Zf,ok.bs,ok.Jb,ok.Ck,ok.GU,ok.nu,ok.NW⟩
section
variable {X:Cx}{pins:ao}{σ:St}{H:Hp}{s:Shared}{E:aB}
theorem Inv.qa(I:Inv X pins σ H s)(E:aB):Inv (X.qa E) pins σ H s:=⟨I.ok.qa E,I.os,I.bare,I.base,I.loc,I.cell,I.free,I.ku,I.pin,I.dE,I.len⟩
theorem Inv.jg(I:Inv (X.qa E) pins σ H s):Inv X pins σ H s:=⟨I.ok.jg,I.os,I.bare,I.base,I.loc,I.cell,I.free,I.ku,I.pin,I.dE,I.len⟩
theorem SP.jg{D:Ends}{f:Flow}{c:Shared}(h:SP (X.qa E) pins D f c):SP X pins D f c:=by
 cases f with
 |next=>obtain⟨a,b,I,q⟩:=h;exact⟨a,b,I.jg,q⟩
 |brk=>obtain⟨a,b,I,q⟩:=h;exact⟨a,b,I.jg,q⟩
 |cont=>obtain⟨a,b,I,q⟩:=h;exact⟨a,b,I.jg,q⟩
 |ret u=>obtain⟨v,a,b,I,r,q⟩:=h;exact⟨v,a,b,I.jg,r,q⟩
theorem oo.PF{a:aX}{t:TS}(h:oo X.PF a t):oo X a t:=λpins s σ H D I hw =>
 aay (h pins s σ H D (I.qa _) hw) (λ_ _ q=>q.jg) λ_ _ z=>False.elim z
end
variable {H:Hp}{σ:L2.St}
section
variable {X:Cx}{st:Stmt}{rest:aX}{t u:TS}{e:Expr}{te:TE}{pos:Pos}
def H_:TS:=λD σ H=>D.nx σ H
def T7(t u:TS):TS:=λD σ H=>t { D with nx:=u D } σ H
theorem FO:oo X [] H_:=λ_ _ σ H _ I h=>wpAny_execs_nil ⟨σ,H,I,h⟩
theorem BV(d:PS X st t)(c:oo X rest u):oo X (st::rest) (T7 t u):=by
 intro pins s σ H D I h;refine wpAny_execs_cons (dt (d pins s σ H { D with nx:=u D } I h) λf b q=>?_);cases f with
 |next =>
  obtain⟨a,i,g,q⟩:=q;exact c pins b a i D g q
 |ret v=>exact q
 |brk=>exact q
 |cont=>exact q
def JM:TS:=λD σ H=>D.bk σ H
def OK:TS:=λD σ H=>D.ct σ H
theorem SJ:PS X (.Pass pos) H_:=λ_ _ σ H _ I h=>wpAny_Pass ⟨σ,H,I,h⟩
theorem Po:PS X (.Break pos) JM:=λ_ _ σ H _ I h=>wpAny_Break ⟨σ,H,I,h⟩
theorem Ik:PS X (.Continue pos) OK:=λ_ _ σ H _ I h=>wpAny_Continue ⟨σ,H,I,h⟩
theorem Inv.quiet{pins:ao}{s:Shared}(I:Inv X pins σ H s):interactive X.env=false:=by simp[interactive,I.ok.kind]
def OJ(te:TE):TS:=λD σ H=>te σ H λ_ a=>D.nx σ a
theorem nH(he:PE X e te)(hs:swapsWith e none pos.line X.env=pure false:=by rfl):PS X (.Expr e pos) (OJ te):=by
 intro pins s σ H D I h;exact wpAny_Expr_any (dt (he pins s σ H _ I h) λv c ⟨x,b,a,r1,q1⟩=>⟨σ,b,a,q1⟩) I.quiet hs
def T8(te:TE):TS:=λD σ H=>te σ H D.rt
theorem Kn(he:PE X e te):PS X (.Return (some e) pos) (T8 te):=by
 intro pins s σ H D I h;exact wpAny_Return_some (dt (he pins s σ H _ I h) λv c ⟨x,b,a,r1,q1⟩=>⟨x,σ,b,a,r1,q1⟩)
def OF:TS:=λD _ H=>D.rt .cq H
theorem SF:PS X (.Return none pos) OF:=λ_ _ σ H _ I h=>wpAny_Return_none ⟨.cq,σ,H,I,rfl,h⟩
def Ub(c:TT)(t u:TS):TS:=λD σ H=>c σ H λb a=>if b=true then t D σ a else u D σ a
theorem Pn{c:Expr}{a b:aX}{f:TT}(k:PT X c f)(m:oo X a t)(l:oo X b u):PS X (.If c a b pos) (Ub f t u):=by
 intro pins s σ H D I h;refine wpAny_If (dt (k pins s σ H _ I h) λd g ⟨j,i,q1⟩=>?_);cases d with
 |true=>exact m pins g σ j D i q1
 |false=>exact l pins g σ j D i q1
end
abbrev TG:=V->St->Hp->(St->Hp->Prop)->Prop
abbrev HL:=ag->St->Hp->(St->Hp->Prop)->Prop
def PG(X:Cx)(target:Expr)(t:TG):Prop :=
 ∀(pins:ao) (s:Shared) (σ:St) (H:Hp) (v:V) (u:Value) (Q:St->Hp->Prop),Inv X pins σ H s->RelV v u->t v σ H Q ->
  wpAny (model X.prog X.w) X.A (assign target X.env u) (λ_ c=>∃a b,Inv X pins a b c/\Q a b) X.xe s
def N6(X:Cx)(ts:aq)(t:HL):Prop :=
 ∀(pins:ao) (s:Shared) (σ:St) (H:Hp) (vs:ag) (b:au) (Q:St->Hp->Prop),Inv X pins σ H s->Vals vs b->t vs σ H Q ->
  wpAny (model X.prog X.w) X.A (assignInOrder ((assignEach ts X.env).map (·.2)) b) (λ_ d=>∃a c,Inv X pins a c d/\Q a c) X.xe s
abbrev M8:=V->V->V->Hp->(Hp->Prop)->Prop
def Sa(X:Cx)(t:M8):Prop :=
 ∀(pins:ao) (s:Shared) (σ:St) (H:Hp) (o i v:V) (a b u:Value) (Q:Hp->Prop),Inv X pins σ H s->RelV o a->RelV i b->RelV v u->t o i v H Q ->
  wpAny (model X.prog X.w) X.A (setItem a b u) (λ_ d=>∃c,Inv X pins σ c d/\Q c) X.xe s
abbrev TL:=V->V->Hp->VK->Prop
def Sb(X:Cx)(op:Operator)(t:TL):Prop :=
 ∀(pins:ao) (s:Shared) (σ:St) (H:Hp) (x y:V) (v u:Value) (Q:VK),Inv X pins σ H s->RelV x v->RelV y u->t x y H Q ->
  wpAny (model X.prog X.w) X.A (inplaceOp op v u) (EP X pins σ Q) X.xe s
variable {es:aq}{te:TE}{tg:Expr}
section
variable {X:Cx}{pos:Pos}
def rA(i:Nat):TG:=λv σ H Q=>Q (σ.set i (some v)) H
theorem sC{i:Nat}{x:Str}(d:X.N.Nodup)(b:X.N[i]?=some x)(a:Loc X.env.scope x)(c:X.fn x=true\/X.env.scope.names.lookup x=some .local:=by first|exact .inl rfl|exact .inr rfl|assumption):PG X (.Name x pos) (rA i):=by
 intro pins s σ H v u Q I r h;exact wpAny_assign_Name (k8 I d b a r (λf e=>⟨_,H,e,h⟩) c)
def L6:HL:=λa σ H Q=>a=[]/\Q σ H
def DA(t:TG)(u:HL):HL:=λb σ H Q=>∃v r,b=v::r/\t v σ H λa c=>u r a c Q
theorem yo:N6 X [] L6:=by
 intro pins s σ H a b Q I r h;obtain⟨e,h⟩:=h;subst e;cases r;exact assignInOrder_nil ⟨σ,H,I,h⟩
theorem uL{e:Expr}{t:TG}{u:HL}(f:PG X e t)(d:N6 X es u)
  (hs:(assignEach (e::es) X.env).map (·.2)=assign e X.env::(assignEach es X.env).map (·.2):=by rfl):N6 X (e::es) (DA t u):=by
 intro pins s σ H l n Q I r h;obtain⟨v,m,g,h⟩:=h;subst g;cases r with
 |cons r c =>
  rw[hs];refine assignInOrder_cons (dt (f pins s σ H _ _ _ I r h) λ_ b i=>?_);obtain⟨a,k,j,q1⟩:=i;exact d pins b a k _ _ Q j c q1
def W4(K:av)(n:Nat)(t:HL):TG:=λv σ H Q=>∃a b,v=.ref a/\a_ K H a b/\b.length=n/\t b σ H Q
theorem wD{k:Nat}{t:HL}{n:Nat}(p:X.calm=true)(h:N6 X es t)
  (l:(assignEach es X.env).length=n:=by rfl) (f:(assignEach es X.env).findIdx? (·.1)=none:=by rfl):PG X (.Tuple es k pos) (W4 X.K n t):=by
 intro pins s σ H v u Q I r hw;obtain⟨a,d,w,j,m,hw⟩:=hw;subst w;cases r;obtain⟨z,c,i,y⟩:=I.tuple j;refine assign_Tuple_tuple (I.ok.hd p) i (by simp[l,<- m,c.length]) f λq g=>?_;have x:Inv X pins σ H { s with heap:=q }:=I.kept (t':=s.toks) λb o e=>g b o (aao (aai e)) e;exact h pins _ σ H d _ Q x (by simpa using c) hw
def W5(to a:TE)(t:M8):TG:=λv σ H Q=>to σ H λo d=>a σ d λi c=>t o i v c λb=>Q σ b
theorem U3{o i:Expr}{to d:TE}{t:M8}(g:PE X o to)(j:PE X i d)(hs:Sa X t)
  (k:∀v,assign (.Subscript o i pos) X.env v=(do
   let a <- holding [v] (eval o X.env)
   let b <- holding [v,a] (eval i X.env)
   standAt pos
   holding [v,a,b] (setItem a b v)
   release [v,a,b] []):=by intro _;rfl):PG X (.Subscript o i pos) (W5 to d t):=by
 intro pins s σ H v u Q I r h;rw[k];refine aaa (aaF (dt (g pins s σ H _ I h) λa f c=>?_));obtain⟨x,w,n,r1,q1⟩:=c;refine aaa (aaF (dt (j pins f σ w _ n q1) λb e c=>?_));obtain⟨y,q,m,r2,q2⟩:=c;refine aaa (ack (aaa (aaF (dt (hs pins e σ q x y v a b u _ m r1 r2 r q2) λ_ z c=>?_))));obtain⟨p,l,q3⟩:=c;exact wpAny_release ⟨σ,p,l,q3⟩
def Ug(te:TE)(g:TG):TS:=λD σ H=>te σ H λx a=>g x σ a D.nx
theorem BZ{e:Expr}{g:TG}(he:PE X e te)(b:PG X tg g)(hs:swapsWithSole [tg] e pos.line X.env=pure false:=by rfl)(hw:swappedStores [tg] e X.env=pure none:=by rfl)
  (c:(assignEach [tg] X.env).map (·.2)=[assign tg X.env]:=by rfl):PS X (.Assign [tg] e pos) (Ug te g):=by
 intro pins s σ H D I h;refine wpAny_Assign_stores (dt (he pins s σ H _ I h) λv a d=>?_) hs hw;obtain⟨x,i,f,r1,q1⟩:=d;rw[c];exact dt (b pins a σ i x v _ f r1 q1) λ_ j q=>q
def T9(i j:Nat)(b:TA):TS:=λD σ H=>b σ H λa c=>∃v w,a=[v,w]/\D.nx ((σ.set i (some v)).set j (some w)) c
theorem Ko{i j:Nat}{x y:Str}{a b:Expr}{f:TA}{px d pt:Pos}{kt k2 Nu}(L:X.calm=true)(l:X.N.Nodup)(J:X.N[i]?=some x)(G:X.N[j]?=some y)(F:i≠j)
  (k:X.env.scope.names.lookup x=some .local) (g:X.env.scope.names.lookup y=some .local) (M:PA X [a,b] f)
  (hw:swappedStores [.Tuple [.Name x px,.Name y d] kt pt] (.Tuple [a,b] k2 Nu) X.env=pure (some [x,y]))
  (hs:swapsWithSole [.Tuple [.Name x px,.Name y d] kt pt] (.Tuple [a,b] k2 Nu) pos.line X.env=pure false:=by rfl) :
  PS X (.Assign [.Tuple [.Name x px,.Name y d] kt pt] (.Tuple [a,b] k2 Nu) pos) (T9 i j f):=by
 intro pins s σ H D I h;rw[exec_Assign_arm];refine aaa (ack ?_);rw[hs];refine aaa (aad ?_);rw[if_neg (by decide)];refine aaa (Tuple_ (dt (M _ pins s σ H _ I h) λt c P=>?_));obtain⟨V,r,T,r1,q1⟩:=P;obtain⟨v,w,O,q1⟩:=q1;subst O;obtain⟨u1,u2,rfl,u,C⟩:∃u1 u2,t=[u1,u2]/\RelV v u1/\RelV w u2:=by
  cases r1 with
  |cons p q =>
   cases q with
   |cons B z =>
    cases z;exact⟨_,_,rfl,p,B⟩
 refine aaD ?_ (by show 2<=sizeLine;decide);have S:Inv X pins σ r { c with heap:=c.heap.push { cls:=.type "tuple",data:=.seq [u1,u2].toArray } }:=T.kept (t':=c.toks) λb o e=>aag _ e;rw[hw];refine aaa (aad ?_);show wpAny (model X.prog X.w) X.A (do rule "assign.swapped-stores";let items <- unpackItems (.ref c.heap.objs.size) 2 none;assignInOrder [λv=>bindName X.env y v,λv=>bindName X.env x v] items.reverse;pure Flow.next) _ _ _;refine aaa (acu (aaa (unpackItems_tuple (items:=#[u1,u2]) (I.ok.hd L) (IsTup.new c.heap _) λm U=>?_)));have R:=S.kept (h':=m) (t':=c.toks) λb o e=>U b o (aao (aai e)) e;show wpAny _ _ (assignInOrder [λv=>bindName X.env y v,λv=>bindName X.env x v] [u2,u1] >>= λ_=>pure Flow.next) _ _ _;refine aaa (assignInOrder_cons (wpAny_bindName (k8 R l G (.inl g) C (λY Q=>?_) (.inr g))));refine assignInOrder_cons (wpAny_bindName (k8 Q l J (.inl k) u (λW n=>assignInOrder_nil (aad ?_)) (.inr k)));rw[List.set_comm _ _ (Ne.symm F)]at n;exact⟨_,r,n,q1⟩
def Ue(i:Nat)(te:TE)(a:TL):TS:=λD σ H=>∃x,σ[i]?=some (some x)/\te σ H λy c=>a x y c λz b=>D.nx (σ.set i (some z)) b
theorem BY{i:Nat}{x:Str}{e:Expr}{op:Operator}{n:TL}{pos':Pos}(J:X.N.Nodup)(o:X.N[i]?=some x)(g:Loc X.env.scope x)(he:PE X e te)(q:Sb X op n)(F:X.fn x=true\/X.env.scope.names.lookup x=some .local:=by first|exact .inl rfl|exact .inr rfl|assumption):
  PS X (.AugAssign (.Name x pos') op e pos) (Ue i te n):=by
 intro pins s σ H D I h;obtain⟨v,L,h⟩:=h;obtain⟨m,t,C⟩:=I.loc;have Se:M7 X.env.scope x:=by rcases g with k|k;exact .inl k;exact .inr (.inl k)
 obtain⟨u,r,l⟩:=C i x v o L Se;refine wpAny_AugAssign_Name ?_;have go:wpAny (model X.prog X.w) X.A (eval e X.env) (λw f=>wpAny (model X.prog X.w) X.A (inplaceOp op u w) (λr d=>wpAny (model X.prog X.w) X.A (storeName X.env x r) (λ_=>SP X pins D .next) X.xe d) X.xe f) X.xe s:=by
  refine dt (he pins s σ H _ I h) λw p j=>?_;obtain⟨y,R,P,r1,q1⟩:=j;refine dt (q pins p σ R v y u w _ P r r1 q1) λz U j=>?_;obtain⟨S,Q,O,r2,q2⟩:=j;exact k8 O J o g r2 (λT M=>⟨_,Q,M,q2⟩) F
 rcases l with ⟨a,B⟩|⟨a,c,G,b⟩
 ·exact wpAny_loadName_local I.ok.kind a t B go
 ·rcases a with a|a
  ·exact wpAny_loadName_cell I.ok.kind a G b go
  ·rcases g with k|k
   ·have:X.env.scope.names.lookup x=some .free:=a;rw[k]at this;cases this
   ·have:X.env.scope.names.lookup x=some .free:=a;rw[k]at this;cases this
def VB(f:Int->Int->Int):TL:=λx y H Q=>∃i j,x=.int i/\y=.int j/\Q (.int (f i j)) H
theorem Lr:Sb X .Add (VB λi j=>i+j):=by
 intro pins s σ H x y v u Q I r1 r2 h;obtain⟨i,j,b,a,q⟩:=h;subst b;subst a;obtain⟨t,rfl⟩:=r1;obtain⟨c,rfl⟩:=r2;exact iadd_int ⟨.int _,H,I.tok _,⟨_,rfl⟩,q⟩
theorem Lp:Sb X .Sub (VB λi j=>i - j):=by
 intro pins s σ H x y v u Q I r1 r2 h;obtain⟨i,j,b,a,q⟩:=h;subst b;subst a;obtain⟨t,rfl⟩:=r1;obtain⟨c,rfl⟩:=r2;exact isub_int ⟨.int _,H,I.tok _,⟨_,rfl⟩,q⟩
end
section
variable {X:Cx}{pos:Pos}
def JK(c:TT)(g:TS):TS:=λD σ H=>∃W:Nat->St->Hp->Prop,(∃m,W m σ H)/\∀m σ H,W m σ H ->
 c σ H λb e=>if b=true then ∃N:St->Hp->Prop,(∀a f,N a f->∃d,d<m/\W d a f)/\g { D with nx:=N,ct:=N,bk:=D.nx } σ e else D.nx σ e
theorem BW{c:Expr}{body:aX}{o:TT}{p:TS}(q:PassesOwn (model X.prog X.w) X.A X.env X.xe)(L:PT X c o)(M:oo X body p):PS X (.While c body [] pos) (JK o p):=by
 intro pins s σ H D I h;obtain⟨W,⟨J,B⟩,turn⟩:=h;refine wpAny_While (codeAny_whileLoop (λn G=>∃e y,Inv X pins e y G/\W n e y) ?_ J ⟨σ,H,I,B⟩);rintro n F ⟨d,x,O,z⟩;refine abf q (dt (L pins F d x _ O (turn n d x z)) λb C ⟨u,t,q2⟩=>?_);cases b with
 |true =>
  obtain⟨N,r,q2⟩:=q2;rw[if_pos rfl];refine abf q (dt (M pins C d u _ t q2) λf P q3=>?_);cases f with
  |next =>
   obtain⟨a,g,m,j⟩:=q3;obtain⟨k,l,i⟩:=r a g j;exact⟨k,l,a,g,m,i⟩
  |cont =>
   obtain⟨a,g,m,j⟩:=q3;obtain⟨k,l,i⟩:=r a g j;exact⟨k,l,a,g,m,i⟩
  |brk=>exact q3
  |ret v=>exact q3
 |false =>
  rw[if_neg Bool.false_ne_true];exact wpAny_execs_nil ⟨d,u,t,q2⟩
end
structure It where
 go:Nat->Hp->Prop
 vX:Nat->Hp->V->Hp->Prop
 stop:Nat->Hp->Prop
def pZ(X:Cx)(pins:ao)(H:Hp)(b:Addr):Prop :=
 H b=none/\b≠X.env.locals/\b∉X.fs/\(b∈X.ex\/X.s₀.heap.objs.size<=b)/\(∀x c,X.env.cells.lookup x=some c->c≠b)/\∀p∈X.pn++pins,p.1≠b
theorem Inv.GQ{pins:ao}{d:Hp}{s:Shared}{b:Addr}(I:Inv X pins σ H s)(a:s.heap.objs.size<=b)(g:d b=none):pZ X pins d b:=by
 refine⟨g,aav (aah I.lt a),I.KS a,.inr (aar I.sz a),λx c e z=>?_,λp f z=>?_⟩
 ·obtain⟨v,q⟩:=I.cell x c e;exact absurd (aah q.lt (by rw[z];exact a)) (aaw _)
 ·exact absurd (aah (aai (I.pin p f).1) (by rw[z];exact a)) (aaw _)
structure Turn(P:aI)(w:World)(K:av)(tg:Expr)(J:It)(fp:aS)(it:Addr)(tn:Nat->Heap->Prop):Prop where
 mem:it∈fp
 obj:∀i h,tn i h->∀b∈fp,∃o,h.get? b=some o/\∀v,o.data≠.cell v
 keep:∀i h h',tn i h->(∀b∈fp,∀o,h.get? b=some o->h'.get? b=some o)->tn i h'
 item:∀(X:Cx),X.prog=P->X.w=w->X.K=K->X.calm=true->∀(i:Nat) (pins:ao) (s:Shared) (σ:St) (H:Hp) (E:aB),Inv X pins σ H s->(∀b∈fp,pZ X pins H b)->tn i s.heap->J.go i H ->
  wpAny (model P w) X.A (pyNext (.ref it)) (λr s1=>∃u,r=some u /\
   wpAny (model P w) X.A (letOwnedTupleGo tg (.ref it) u) (λ_ s2=>∃x H',Inv X pins σ H' s2/\RelV x u/\J.vX i H x H'/\tn (i+1) s2.heap/\∀b∈fp,H' b=none) E s1) E s
 done:∀(X:Cx),X.prog=P->X.w=w->X.K=K->X.calm=true->∀(i:Nat) (pins:ao) (s:Shared) (σ:St) (H:Hp) (E:aB),Inv X pins σ H s->(∀b∈fp,pZ X pins H b)->tn i s.heap->J.stop i H ->
  wpAny (model P w) X.A (pyNext (.ref it)) (λr s1=>r=none/\Inv X pins σ H s1) E s
 self:∀(A:aG) (i:Nat) (s:Shared) (Q:aB) (E:aB),tn i s.heap->Q (.ref it) s->wpAny (model P w) A (pyIter (.ref it)) Q E s
abbrev TI:=St->Hp->(It->Hp->Prop)->Prop
def EF(X:Cx)(pins:ao)(σ:St)(tg:Expr)(R:It->Hp->Prop)(e:Value)(d:Shared):Prop :=
 ∃(it:Addr) (fp:aS) (c:Nat->Heap->Prop) (J:It) (a:Hp),e=.ref it/\Inv X pins σ a d/\Turn X.prog X.w X.K tg J fp it c/\c 0 d.heap/\(∀b∈fp,pZ X pins a b)/\R J a
def PI(X:Cx)(tg iter:Expr)(a:TI):Prop :=
 ∀(pins:ao) (s:Shared) (σ:St) (H:Hp) (R:It->Hp->Prop),Inv X pins σ H s->a σ H R ->
  wpAny (model X.prog X.w) X.A (eval iter X.env) (λv b=>wpAny (model X.prog X.w) X.A (pyIter v) (EF X pins σ tg R) X.xe b) X.xe s
theorem Dx{M:Model}{A:aG}{s:Shared}{it:Addr}{u:Value}{o:Obj}{n:String}{vs:aN}{Q:Unit->Shared->Prop}(b:s.heap.get? it=some o)(e:o.cls=.type n)(d:o.data=.fields vs)
    (c:["enumerate","zip","dict_itemiterator","dict_reverseitemiterator","odict_iterator","itertools.zip_longest","itertools.pairwise"].contains n=false) (a:Q () s):wpAny M A (letOwnedTupleGo tg (.ref it) u) Q E s:=by
  unfold letOwnedTupleGo;cases tg<;>first
    |exact aad a
    | (cases u<;>first
        |exact aad a
        | (refine aaa (wpAny_load b ?_)
           rw[e,d];show wpAny M A (if (["enumerate","zip","dict_itemiterator","dict_reverseitemiterator","odict_iterator","itertools.zip_longest","itertools.pairwise"].contains n&&vs[0]?==some (rawInt _))=true then _ else _) Q E s;rw[if_neg (by intro h;rw[c,Bool.false_and]at h;cases h)];exact aad a))
noncomputable def N8(K:av)(a:Addr):It :=
 ⟨λi H=>∃b x,dY K H a b/\b[i]?=some x,λi H x c=>c=H/\∀b,dY K H a b->b[i]?=some x,λi H=>∃b,dY K H a b/\b.length<=i⟩
noncomputable def N7(K:av)(a:Addr):It :=
 ⟨λi H=>∃b x,a_ K H a b/\b[i]?=some x,λi H x c=>c=H/\∀b,a_ K H a b->b[i]?=some x,λi H=>∃b,a_ K H a b/\b.length<=i⟩
noncomputable def AH(lo:Int)(n:Nat):It:=⟨λi _=>i<n,λi H x a=>a=H/\x=.int (lo+i),λi _=>n<=i⟩
variable {P:aI}{w:World}
theorem zC(a it:Addr):Turn P w K tg (N8 K a) [it] it (λi h=>h.IsListIter it a i) where
 mem:=by simp
 obj:=λi h f b g=>by
  have e:b=it:=by simpa using g
  subst e;obtain⟨o,e,c,d⟩:=f;exact⟨o,e,λv z=>by rw[d]at z;cases z⟩
 keep:=λi h m f k=>f.at λo e=>k it (by simp) o e
 item:=by
  intro X t hw y J i pins s σ H E I l f r;subst t hw y;obtain⟨L,x,j,q⟩:=r;obtain⟨U,n,p,O⟩:=I.list j;obtain⟨u,R,N⟩:=n.get q;obtain⟨F,D,S,C,B,A⟩:=l it (by simp);refine wpAny_pyNext_list_item f p.isList (x:=u) (by simpa using R) λm G M=>?_;have V:Inv X pins σ H { s with heap:=m }:=I.turned (t':=s.toks) (λb o g e=>(M.2 b g).trans e) F D C B A;obtain⟨o,e,c,d⟩:=id G;exact⟨u,rfl,Dx (s:={ s with heap:=m }) e c d (by decide) ⟨x,H,V,N,⟨rfl,λW Q=>by rw[I.lr Q j];exact q⟩,G,λb g=>(l b g).1⟩⟩
 done:=by
  intro X t hw y J i pins s σ H E I l f r;subst t hw y;obtain⟨L,j,q⟩:=r;obtain⟨U,n,p,O⟩:=I.list j;obtain⟨F,D,S,C,B,A⟩:=l it (by simp);have Y:=n.length;exact wpAny_pyNext_list_end (I.ok.hd J) f p.isList (by simp;left) λm T=>⟨rfl,I.turned (t':=s.toks) (λb o g e=>T b o g e) F D C B A⟩
 self:=λ_ _ _ _ _ f h=>wpAny_pyIter_listiter f h
theorem wb(a it:Addr):Turn P w K tg (N7 K a) [it] it (λi h=>h.IsTupleIter it a i) where
 mem:=by simp
 obj:=λi h f b g=>by
  have e:b=it:=by simpa using g
  subst e;obtain⟨o,e,c,d⟩:=f;exact⟨o,e,λv z=>by rw[d]at z;cases z⟩
 keep:=λi h m f k=>f.at λo e=>k it (by simp) o e
 item:=by
  intro X t hw y L i pins s σ H E I l f r;subst t hw y;obtain⟨M,x,j,q⟩:=r;obtain⟨G,n,p,Q⟩:=I.tuple j;obtain⟨u,S,O⟩:=n.get q;obtain⟨F,D,T,C,B,A⟩:=l it (by simp);refine wpAny_pyNext_tuple_item f (show s.heap.IsTuple a G.toArray from p) (x:=u) (by simpa using S) λm J N=>?_;have V:Inv X pins σ H { s with heap:=m }:=I.turned (t':=s.toks) (λb o g e=>(N.2 b g).trans e) F D C B A;obtain⟨o,e,c,d⟩:=id J;exact⟨u,rfl,Dx (s:={ s with heap:=m }) e c d (by decide) ⟨x,H,V,O,⟨rfl,λW R=>by rw[I.qG R j];exact q⟩,J,λb g=>(l b g).1⟩⟩
 done:=by
  intro X t hw y L i pins s σ H E I l f r;subst t hw y;obtain⟨M,j,q⟩:=r;obtain⟨G,n,p,Q⟩:=I.tuple j;obtain⟨F,D,T,C,B,A⟩:=l it (by simp);have Y:=n.length;exact wpAny_pyNext_tuple_end (I.ok.hd L) f (show s.heap.IsTuple a G.toArray from p) (by simp;left) λm U=>⟨rfl,I.turned (t':=s.toks) (λb o g e=>U b o g e) F D C B A⟩
 self:=λ_ _ _ _ _ f h=>wpAny_pyIter_tupleiter f h
theorem wc(it:Addr)(lo:Int)(n:Nat):Turn P w K tg (AH lo n) [it] it (λi h=>IsRangeIter h it (lo+(i:Nat)*1) ((n:Int) - (i:Nat)) 1) where
 mem:=by simp
 obj:=λi h a b c=>by
  have e:b=it:=by simpa using c
  subst e;exact⟨_,a,λv z=>by
   have B:Data.fields _=Data.cell v:=z;cases B⟩
 keep:=λi h f a k=>k it (by simp) _ a
 item:=by
  intro X l hw m j i pins s σ H E I d a g;subst l hw m;obtain⟨x,u,F,r,q,p⟩:=d it (by simp);have W:=Walks.range (prog:=X.prog) (w:=X.w) (I.ok.hd j) it lo 1 n;refine W.item i s _ _ g a λv f y D A C=>?_;obtain⟨t,rfl⟩:=D;have J:Inv X pins σ H { s with heap:=f,toks:=y }:=I.turned (λb o c e=>C b o (by simpa using c) e) x u r q p;refine⟨_,rfl,Dx (s:={ s with heap:=f,toks:=y }) (n:="range_iterator") A rfl rfl (by decide) ⟨.int (lo+i),H,J,⟨t,?_⟩,⟨rfl,rfl⟩,A,λb c=>(d b c).1⟩⟩;rw[Int.mul_one]
 done:=by
  intro X l hw m j i pins s σ H E I d a g;subst l hw m;obtain⟨x,u,F,r,q,p⟩:=d it (by simp);exact wpAny_pyNext_range_end (I.ok.hd j) a (by have:n<=i:=g;left) λf G=>⟨rfl,I.turned (t':=s.toks) (λb o c e=>G b o c e) x u r q p⟩
 self:=λ_ _ _ _ _ a h=>wpAny_pyIter_rangeiter a h
end L2
namespace L2
open PySem PySem.Spec PyProof.Rows
variable {H:Hp}{fp:aS}{lo:Int}{pos:Pos}{ta:TA}{tl:TE}{σ:L2.St}
section
variable {X:Cx}{tg:Expr}
def Qp(K:av)(tl:TE):TI:=λσ H R=>tl σ H λx b=>∃a,x=.ref a/\(∃c,dY K b a c)/\R (N8 K a) b
def VG(K:av)(tl:TE):TI:=λσ H R=>tl σ H λx b=>∃a,x=.ref a/\(∃c,a_ K b a c)/\R (N7 K a) b
theorem yn{l:Expr}(g:PE X l tl):PI X tg l (Qp X.K tl):=by
 intro pins s σ H R I h;refine dt (g pins s σ H _ I h) λv c j=>?_;obtain⟨x,k,d,r1,q1⟩:=j;obtain⟨a,e,⟨m,f⟩,q⟩:=q1;subst e;cases r1;obtain⟨t,n,p,r⟩:=d.list f;refine wpAny_pyIter_list p.isList ?_;refine⟨c.heap.objs.size,[c.heap.objs.size],_,_,k,rfl,d.kept (t':=c.toks) λb o e=>aag _ e,zC a _,⟨_,aam _ rfl,rfl,rfl⟩,λb i=>?_,q⟩;have e:b=c.heap.objs.size:=by simpa using i
 subst e;exact d.GQ (aal _) (d.dE.fresh (aal _))
theorem B4{l:Expr}(g:PE X l tl):PI X tg l (VG X.K tl):=by
 intro pins s σ H R I h;refine dt (g pins s σ H _ I h) λv c j=>?_;obtain⟨x,m,d,r1,q1⟩:=j;obtain⟨a,e,⟨n,f⟩,q⟩:=q1;subst e;cases r1;obtain⟨k,r,p,t⟩:=d.tuple f;refine wpAny_pyIter_tuple (show c.heap.IsTuple a k.toArray from p) ?_;refine⟨c.heap.objs.size,[c.heap.objs.size],_,_,m,rfl,d.kept (t':=c.toks) λb o e=>aag _ e,wb a _,⟨_,aam _ rfl,rfl,rfl⟩,λb i=>?_,q⟩;have e:b=c.heap.objs.size:=by simpa using i
 subst e;exact d.GQ (aal _) (d.dE.fresh (aal _))
theorem uF{pins:ao}{s:Shared}{R:It->Hp->Prop}{E:aB}{a:Int}{t u v:Tok}{tk:Nat}(I:Inv X pins σ H s)(i:-(2 ^ 62)<=lo)(h:lo<2 ^ 62)(g:-(2 ^ 62)<=a)(f:a<2 ^ 62)
  (q:R (AH lo (a - lo).toNat) H):wpAny (model X.prog X.w) X.A (pyIter (.ref s.heap.objs.size)) (EF X pins σ tg R) E { s with heap:=s.heap.push { cls:=.type "range",data:=.fields #[.int lo t,.int a u,.int 1 v] },toks:=tk }:=by
 refine wpAny_pyIter_range (IsRange.new ..) (small_one i h g f) ?_;have c:Inv X pins σ H { s with heap:=s.heap.push { cls:=.type "range",data:=.fields #[.int lo t,.int a u,.int 1 v] },toks:=tk }:=I.kept λb o e=>aag _ e;refine⟨(s.heap.push { cls:=.type "range",data:=.fields #[.int lo t,.int a u,.int 1 v] }).objs.size,[(s.heap.push { cls:=.type "range",data:=.fields #[.int lo t,.int a u,.int 1 v] }).objs.size],_,_,H,rfl,
  c.kept (t':=tk) λb o e=>aag _ e,wc _ lo (a - lo).toNat,?_,λb d=>?_,q⟩
 ·have k:lo+((0:Nat):Int)*1=lo:=by simp
  have j:(((a - lo).toNat:Nat):Int) - ((0:Nat):Int)=Builtin.Range.rangeSize lo a 1:=by rw[rangeSize_one];split<;>left
  show IsRangeIter _ _ (lo+((0:Nat):Int)*1) ((((a - lo).toNat:Nat):Int) - ((0:Nat):Int)) 1;rw[k,j];exact aam _ rfl
 ·have e:b=(s.heap.push { cls:=.type "range",data:=.fields #[.int lo t,.int a u,.int 1 v] }).objs.size:=by simpa using d
  subst e;exact c.GQ (aal _) (c.dE.fresh (aal _))
def Qo(ta:TA):TI:=λσ H R=>ta σ H λa b=>∃j:Int,a=[.int j] /\ -(2 ^ 62)<=j/\j<2 ^ 62/\R (AH 0 j.toNat) b
def Qn(ta:TA):TI:=λσ H R=>ta σ H λa b=>∃i j:Int,a=[.int i,.int j]/\(-(2 ^ 62)<=i/\i<2 ^ 62 /\ -(2 ^ 62)<=j/\j<2 ^ 62)/\R (AH i (j - i).toNat) b
theorem qQ{a:Expr}{p:Pos}(d:Gl X "range")(c:X.mg "range" = none)(f:PA X [a] ta)(hs:starEach [a] X.env=[(false,eval a X.env)]:=by rfl):PI X tg (.Call (.Name "range" p) [a] [] pos) (Qo ta):=by
 intro pins s σ H R I h;refine Call_ (eE I d c boot_range (aau (dt (f pos pins s σ H _ I h) λl m g=>?_) hs rfl));obtain⟨k,n,i,r1,q1⟩:=g;obtain⟨j,e,q1,q2,q⟩:=q1;subst e;cases r1 with
 |cons r b =>
  cases b;obtain⟨t,rfl⟩:=r;exact call_range_1 (uF i (by left) (by left) q1 q2 (by simpa using q))
theorem Nv{a b:Expr}{p:Pos}(l:Gl X "range")(k:X.mg "range" = none)(m:PA X [a,b] ta)(hs:starEach [a,b] X.env=[(false,eval a X.env),(false,eval b X.env)]:=by rfl)(d:starEach [b] X.env=[(false,eval b X.env)]:=by rfl):
  PI X tg (.Call (.Name "range" p) [a,b] [] pos) (Qn ta):=by
 intro pins s σ H R I h;refine Call_ (eE I l k boot_range (aau (dt (m pos pins s σ H _ I h) λv x n=>?_) (by rw[hs,d]) (by rw[d];rfl)));obtain⟨u,y,o,r1,q1⟩:=n;obtain⟨i,j,e,⟨q1,q2,q3,g⟩,q⟩:=q1;subst e;cases r1 with
 |cons r c =>
  cases c with
  |cons f c =>
   cases c;obtain⟨t,rfl⟩:=r;obtain⟨w,rfl⟩:=f;exact call_range_2 (uF o q1 q2 q3 g q)
def Uc(e:TI)(g:TG)(f:TS):TS:=λD σ H=>e σ H λJ j=>∃W:Nat->Nat->St->Hp->Prop,(∃m,W 0 m σ j)/\∀i m σ H,W i m σ H ->
 (J.stop i H/\D.nx σ H)\/(J.go i H/\∃N:St->Hp->Prop,(∀a b,N a b->∃d,d<m/\W (i+1) d a b)/\∀x b,J.vX i H x b->g x σ b λc h=>f { D with nx:=N,ct:=N,bk:=D.nx } c h)
noncomputable def jr(fp:aS)(h:Heap):ao:=fp.filterMap λb=>(h.get? b).map λo=>(b,o)
theorem iH{h:Heap}{b:Addr}{o:Obj}(a:b∈fp)(e:h.get? b=some o):(b,o)∈jr fp h:=List.mem_filterMap.mpr ⟨b,a,by rw[e];rfl⟩
theorem qU{h:Heap}{p:Addr×Obj}(a:p∈jr fp h):p.1∈fp/\h.get? p.1=some p.2:=by
 obtain⟨b,c,e⟩:=List.mem_filterMap.mp a;cases q:h.get? b with
 |none=>rw[q]at e;cases e
 |some o =>
  rw[q]at e;have d:(b,o)=p:=aat e;subst d;exact⟨c,q⟩
theorem Inv.pinned{pins:ao}{s:Shared}(I:Inv X pins σ H s)(h:∀b∈fp,pZ X pins H b)(g:∀b∈fp,∃o,s.heap.get? b=some o/\∀v,o.data≠.cell v):Inv X (pins++jr fp s.heap) σ H s :=
 I.jR λp f=>(List.mem_append.mp f).elim (λz=>I.pin p (aan _ z)) λz=>by
  obtain⟨a,e⟩:=qU z;obtain⟨k,j,i,_⟩:=h p.1 a;obtain⟨o,c,d⟩:=g p.1 a;rw[e]at c;cases c;exact⟨e,k,j,i,d⟩
theorem Inv.k7{pins a:ao}{s:Shared}(I:Inv X (pins++a) σ H s):Inv X pins σ H s:=I.jR λp b=>I.pin p (aan _ (aax _ b))
theorem sA{iter:Expr}{body:aX}{P:TI}{g:TG}{R:TS}(C:PassesOwn (model X.prog X.w) X.A X.env X.xe)(Y:X.calm=true)(hi:PI X tg iter P)(hg:PG X tg g)(k:oo X body R)
  (hs:∀x,foldedSetIterable iter X.env x=pure x:=by intro _;rfl):PS X (.For tg iter body [] pos) (Uc P g R):=by
 intro pins s σ H D I h;refine wpAny_For (dt (hi pins s σ H _ I h) λv s1 h1=>dt h1 λVs s2 h2=>?_) hs;obtain⟨it,fp,Q,J,H2,e,I2,T,OU,Z,W,⟨m0,w0⟩,turn⟩:=h2;subst e;have O:∀{q:Hp},(∀b∈fp,q b=none)->∀b∈fp,pZ X pins q b:=λhn b k=>⟨hn b k,(Z b k).2⟩
 refine codeAny_forLoop_any (λn V=>∃i j q,Inv X pins j q V/\Q i V.heap/\(∀b∈fp,q b=none)/\W i n j q) ?_ m0 ⟨0,σ,H2,I2,OU,λb k=>(Z b k).1,w0⟩;rintro n U ⟨i,c,F,I3,z,E,w3⟩;rcases turn i n c F w3 with ⟨stop,qn⟩|⟨go,N,hN,step⟩
 ·refine abf C (dt (T.done X rfl rfl rfl Y i pins U c F X.xe I3 (O E) z stop) λr s4 y=>?_);obtain⟨L,I4⟩:=y;subst L;exact wpAny_execs_nil ⟨c,F,I4,qn⟩
 ·refine abf C (dt (T.item X rfl rfl rfl Y i pins U c F X.xe I3 (O E) z go) λr s4 y=>?_);obtain⟨u,L,h4⟩:=y;subst L;refine abf C (dt h4 λ_ S y=>?_);obtain⟨x,H5,I5,r5,y5,M,W8⟩:=y;have XJ:=I5.pinned (O W8) (T.obj _ _ M);refine abf C (dt (hg _ S c H5 x u _ XJ r5 (step x H5 y5)) λ_ s6 y=>?_);obtain⟨G,H6,I6,q6⟩:=y;refine abf C (dt (k _ s6 G H6 _ I6 q6) λf K t=>?_);have again:∀{a:St} {p:Hp},Inv X (pins++jr fp S.heap) a p K->N a p->∃m,m<n/\∃i j q,Inv X pins j q K/\Q i K.heap/\(∀b∈fp,q b=none)/\W i m j q:=λ{a p} l B=>by
   obtain⟨m',hm,w7⟩:=hN a p B;refine⟨m',hm,i+1,a,p,l.k7,T.keep _ _ _ M λb k o e=>(l.pin (b,o) (aan _ (aan _ (iH k e)))).1,λb k=>?_,w7⟩;obtain⟨o,e,d⟩:=T.obj _ _ M b k;exact(l.pin (b,o) (aan _ (aan _ (iH k e)))).2.1
  cases f with
  |next=>obtain⟨a,p,l,B⟩:=t;exact again l B
  |cont=>obtain⟨a,p,l,B⟩:=t;exact again l B
  |brk=>obtain⟨a,p,l,t⟩:=t;exact⟨a,p,l.k7,t⟩
  |ret v=>obtain⟨x7,a,p,l,r7,t⟩:=t;exact⟨x7,a,p,l.k7,r7,t⟩
end
variable {K:av}{xs:ag}
theorem DD{a:Addr}{g:TG}{j:TS}{D:Ends}(b:Nat->St->Hp->Prop)(t:b 0 σ H)(o:∀i σ H,i<=xs.length->b i σ H->dY K H a xs)
  (hs:∀i x σ H,xs[i]?=some x->b i σ H->g x σ H λc h=>j { D with nx:=b (i+1),ct:=b (i+1),bk:=D.nx } c h) (s:∀σ H,b xs.length σ H->D.nx σ H) :
  ∃W:Nat->Nat->St->Hp->Prop,(∃m,W 0 m σ H)/\∀i m σ H,W i m σ H ->
   ((N8 K a).stop i H/\D.nx σ H)\/((N8 K a).go i H/\∃N:St->Hp->Prop,(∀d f,N d f->∃k,k<m/\W (i+1) k d f)/\∀x f,(N8 K a).vX i H x f->g x σ f λc h=>j { D with nx:=N,ct:=N,bk:=D.nx } c h):=by
 refine⟨λi m σ H=>m=xs.length - i/\i<=xs.length/\b i σ H,⟨xs.length,by simp,aaH _,t⟩,?_⟩;rintro i m σ H ⟨rfl,r,p⟩;have q:=o i σ H r p;by_cases l:i<xs.length
 ·refine .inr ⟨⟨xs,xs[i],q,by simp[l]⟩,b (i+1),λd f n=>⟨xs.length - (i+1),by left,rfl,l,n⟩,λx f y=>?_⟩;obtain⟨e,y⟩:=y;subst e;exact hs i x σ _ (y xs q) p
 ·have e:i=xs.length:=by left
  subst e;exact .inl ⟨⟨xs,q,aal _⟩,s σ H p⟩
theorem GR{a:Addr}{g:TG}{j:TS}{D:Ends}(b:Nat->St->Hp->Prop)(t:b 0 σ H)(o:∀i σ H,i<=xs.length->b i σ H->a_ K H a xs)
  (hs:∀i x σ H,xs[i]?=some x->b i σ H->g x σ H λc h=>j { D with nx:=b (i+1),ct:=b (i+1),bk:=D.nx } c h) (s:∀σ H,b xs.length σ H->D.nx σ H) :
  ∃W:Nat->Nat->St->Hp->Prop,(∃m,W 0 m σ H)/\∀i m σ H,W i m σ H ->
   ((N7 K a).stop i H/\D.nx σ H)\/((N7 K a).go i H/\∃N:St->Hp->Prop,(∀d f,N d f->∃k,k<m/\W (i+1) k d f)/\∀x f,(N7 K a).vX i H x f->g x σ f λc h=>j { D with nx:=N,ct:=N,bk:=D.nx } c h):=by
 refine⟨λi m σ H=>m=xs.length - i/\i<=xs.length/\b i σ H,⟨xs.length,by simp,aaH _,t⟩,?_⟩;rintro i m σ H ⟨rfl,r,p⟩;have q:=o i σ H r p;by_cases l:i<xs.length
 ·refine .inr ⟨⟨xs,xs[i],q,by simp[l]⟩,b (i+1),λd f n=>⟨xs.length - (i+1),by left,rfl,l,n⟩,λx f y=>?_⟩;obtain⟨e,y⟩:=y;subst e;exact hs i x σ _ (y xs q) p
 ·have e:i=xs.length:=by left
  subst e;exact .inl ⟨⟨xs,q,aal _⟩,s σ H p⟩
theorem Ak{n:Nat}{g:TG}{j:TS}{D:Ends}(c:Nat->St->Hp->Prop)(q:c 0 σ H)
  (hs:∀i σ H,i<n->c i σ H->g (.int (lo+i)) σ H λa h=>j { D with nx:=c (i+1),ct:=c (i+1),bk:=D.nx } a h) (o:∀σ H,c n σ H->D.nx σ H) :
  ∃W:Nat->Nat->St->Hp->Prop,(∃m,W 0 m σ H)/\∀i m σ H,W i m σ H ->
   ((AH lo n).stop i H/\D.nx σ H)\/((AH lo n).go i H/\∃N:St->Hp->Prop,(∀b d,N b d->∃k,k<m/\W (i+1) k b d)/\∀x d,(AH lo n).vX i H x d->g x σ d λa h=>j { D with nx:=N,ct:=N,bk:=D.nx } a h):=by
 refine⟨λi m σ H=>m=n - i/\i<=n/\c i σ H,⟨n,by simp,aaH _,q⟩,?_⟩;rintro i m σ H ⟨rfl,r,p⟩;by_cases f:i<n
 ·refine .inr ⟨f,c (i+1),λb d l=>⟨n - (i+1),by left,rfl,f,l⟩,λx d y=>?_⟩;obtain⟨e,y⟩:=y;subst e y;exact hs i σ _ f p
 ·have e:i=n:=by left
  subst e;exact .inl ⟨aal _,o σ H p⟩
end L2
namespace L2
open PySem PySem.Spec PyProof.Rows
abbrev R2:=V->V->Hp->VK->Prop
def kO(X:Cx)(f:Value->Value->Sem Value)(r:R2):Prop :=
 ∀(pins:ao) (s:Shared) (a:St) (H:Hp) (x y:V) (v u:Value) (Q:VK),Inv X pins a H s->RelV x v->RelV y u->r x y H Q ->
  wpAny (model X.prog X.w) X.A (f v u) (EP X pins a Q) X.xe s
def XE(X:Cx)(f:Value->Sem Value)(r:V->Hp->VK->Prop):Prop :=
 ∀(pins:ao) (s:Shared) (a:St) (H:Hp) (x:V) (v:Value) (Q:VK),Inv X pins a H s->RelV x v->r x H Q ->
  wpAny (model X.prog X.w) X.A (f v) (EP X pins a Q) X.xe s
def gx(X:Cx)(f:Value)(r:ag->Hp->VK->Prop):Prop :=
 ∀(pins:ao) (s:Shared) (a:St) (H:Hp) (xs:ag) (b:au) (Q:VK),Inv X pins a H s->Vals xs b->r xs H Q ->
  wpAny (model X.prog X.w) X.A (call f b) (EP X pins a Q) X.xe s
def H9(r:R2)(c b:TE):TE:=λa H Q=>c a H λx e=>b a e λy d=>r x y d Q
def tUn(r:V->Hp->VK->Prop)(b:TE):TE:=λa H Q=>b a H λx c=>r x c Q
def rI(C:Int->Int->Prop)(g:Int->Int->V):R2:=λx y H Q=>∃i j,x=.int i/\y=.int j/\C i j/\Q (g i j) H
def BS(g:Int->Int->V):R2:=λx y H Q=>∃i j,x=.int i/\y=.int j/\Q (g i j) H
def rU(g:Int->V):V->Hp->VK->Prop:=λx H Q=>∃i,x=.int i/\Q (g i) H
variable {H:Hp}{σ:L2.St}
section
variable {X:Cx}{a b c:Expr}{ta tb tc:TE}{pos:Pos}
theorem M3(o:PE X a ta)(n:PE X b tb){pins:ao}{s:Shared}{R:V->V->Hp->Prop}(I:Inv X pins σ H s)
  (h:ta σ H λx k=>tb σ k λy d=>R x y d) {Q:aB} {f:Value->Value->Sem Value}
  (m:∀v u i x y d,Inv X pins σ d i->RelV x v->RelV y u->R x y d->wpAny (model X.prog X.w) X.A (f v u) Q X.xe i) :
  wpAny (model X.prog X.w) X.A (eval a X.env) (λv g=>wpAny (model X.prog X.w) X.A (eval b X.env) (λu e=>wpAny (model X.prog X.w) X.A (f v u) Q X.xe e) X.xe g) X.xe s:=by
 refine dt (o pins s σ H _ I h) λv l j=>?_;obtain⟨x,k,q,r1,q1⟩:=j;refine dt (n pins l σ k _ q q1) λu i j=>?_;obtain⟨y,d,p,r2,q2⟩:=j;exact m v u i x y d p r1 r2 q2
theorem Io{op:Operator}{r:R2}(g:kO X (binaryOp op) r)(j:PE X a ta)(i:PE X b tb):PE X (.BinOp a op b pos) (H9 r ta tb):=by
 intro pins s σ H Q I h;exact wpAny_BinOp (M3 j i I h λv u d x y l k f e q=>g pins d σ l x y v u Q k f e q)
theorem Pq{op:UnaryOp}{r:V->Hp->VK->Prop}(e:XE X (unaryOp op) r)(f:PE X a ta):PE X (.UnaryOp op a pos) (tUn r ta):=by
 intro pins s σ H Q I h;exact UnaryOp_ (dt (f pins s σ H _ I h) λv d ⟨x,i,g,r1,q1⟩=>e pins d σ i x v Q g r1 q1)
theorem KN{f:Value->Value->Sem Value}{C:Int->Int->Prop}{g:Int->Int->Int}
  (rule:∀(i j:Int) (t u:Tok) (s:Shared) (Q:aB) (E:aB),C i j->Q (.int (g i j) s.toks) { s with toks:=s.toks+1 }->wpAny (model X.prog X.w) X.A (f (.int i t) (.int j u)) Q E s) :
  kO X f (rI C λi j=>.int (g i j)):=by
 intro pins s σ H x y v u Q I k e h;obtain⟨i,j,rfl,rfl,l,q⟩:=h;obtain⟨t,rfl⟩:=k;obtain⟨d,rfl⟩:=e;exact rule i j t d s _ _ l ⟨.int (g i j),H,I.tok _,⟨_,rfl⟩,q⟩
theorem U_{f:Value->Value->Sem Value}{g:Int->Int->Int}
  (rule:∀(i j:Int) (t u:Tok) (s:Shared) (Q:aB) (E:aB),Q (.int (g i j) s.toks) { s with toks:=s.toks+1 }->wpAny (model X.prog X.w) X.A (f (.int i t) (.int j u)) Q E s) :
  kO X f (BS λi j=>.int (g i j)):=by
 intro pins s σ H x y v u Q I k e h;obtain⟨i,j,rfl,rfl,q⟩:=h;obtain⟨t,rfl⟩:=k;obtain⟨d,rfl⟩:=e;exact rule i j t d s _ _ ⟨.int (g i j),H,I.tok _,⟨_,rfl⟩,q⟩
theorem F3{f:Value->Value->Sem Value}{g:Int->Int->Bool}
  (rule:∀(i j:Int) (t u:Tok) (s:Shared) (Q:aB) (E:aB),Q (.bool (g i j)) s->wpAny (model X.prog X.w) X.A (f (.int i t) (.int j u)) Q E s) :
  kO X f (BS λi j=>.bl (g i j)):=by
 intro pins s σ H x y v u Q I k e h;obtain⟨i,j,rfl,rfl,q⟩:=h;obtain⟨t,rfl⟩:=k;obtain⟨d,rfl⟩:=e;exact rule i j t d s _ _ ⟨.bl (g i j),H,I,rfl,q⟩
theorem v_(k:Nat):(0:Int)<=2 ^ k:=by
 rw[two_pow_cast];exact Int.natCast_nonneg _
theorem KJ:kO X (binaryOp .Add) (BS λi j=>.int (i+j)):=U_ λ_ _ _ _ _ _ _ q=>add_int q
theorem F0:kO X (binaryOp .Mod) (rI (λ_ j=>j≠0) λi j=>.int (i.fmod j)):=KN λ_ _ _ _ _ _ _ d q=>mod_int' d q
theorem U7:kO X (binaryOp .RShift) (rI (λ_ j=>0<=j) λi j=>.int (i / 2 ^ j.toNat)):=KN λi j _ _ _ _ _ d q =>
 rshift_int d (by rw[Int.fdiv_eq_ediv_of_nonneg i (v_ _)];exact q)
theorem Z4{f:Value->Sem Value}{g:Int->Int}
  (rule:∀(i:Int) (t:Tok) (s:Shared) (Q:aB) (E:aB),Q (.int (g i) s.toks) { s with toks:=s.toks+1 }->wpAny (model X.prog X.w) X.A (f (.int i t)) Q E s) :
  XE X f (rU λi=>.int (g i)):=by
 intro pins s σ H x v Q I d h;obtain⟨i,rfl,q⟩:=h;obtain⟨t,rfl⟩:=d;exact rule i t s _ _ ⟨.int (g i),H,I.tok _,⟨_,rfl⟩,q⟩
theorem JE:XE X (unaryOp .USub) (rU λi=>.int (-i)):=Z4 λ_ _ _ _ _ q=>neg_int q
end
variable {us:au}
section
variable {X:Cx}{a b c:Expr}{ta tb tc:TE}{pos:Pos}
theorem DF{pins:ao}{s:Shared}{Q:VK}{k k':Bool}(I:Inv X pins σ H s)(q:Q (.bl k) H)(e:k=k'):EP X pins σ Q (.bool k') s:=by
 subst e;exact⟨.bl k,H,I,rfl,q⟩
theorem Pw:kO X (compareOp .Lt) (BS λi j=>.bl (decide (i<j))):=F3 λ_ _ _ _ _ _ _ q=>lt_int q
theorem Py:kO X (compareOp .LtE) (BS λi j=>.bl (decide (i<=j))):=F3 λ_ _ _ _ _ _ _ q=>le_int q
theorem Pz:kO X (compareOp .Gt) (BS λi j=>.bl (decide (j<i))):=F3 λ_ _ _ _ _ _ _ q=>gt_int q
theorem PB:kO X (compareOp .GtE) (BS λi j=>.bl (decide (j<=i))):=F3 λ_ _ _ _ _ _ _ q=>ge_int q
theorem U9:kO X (compareOp .Is) (λx y H Q=>y=.cq/\Q (.bl (decide (x=.cq))) H):=by
 intro pins s σ H x y v u Q I d e h;obtain⟨rfl,q⟩:=h;cases e;refine is_none_gen (DF I q ?_);cases x<;>first
  | (cases d;rfl)
  | (obtain⟨t,rfl⟩:=d;rfl)
theorem SN:kO X (compareOp .IsNot) (λx y H Q=>y=.cq/\Q (.bl (!decide (x=.cq))) H):=by
 intro pins s σ H x y v u Q I d e h;obtain⟨rfl,q⟩:=h;cases e;refine isnot_none_gen (DF I q ?_);cases x<;>first
  | (cases d;rfl)
  | (obtain⟨t,rfl⟩:=d;rfl)
theorem kO.or{f:Value->Value->Sem Value}{r g:R2}(h:kO X f r)(h':kO X f g):kO X f (λx y H Q=>r x y H Q\/g x y H Q):=by
 intro pins s σ H x y v u Q I e d q;rcases q with q|q
 ·exact h pins s σ H x y v u Q I e d q
 ·exact h' pins s σ H x y v u Q I e d q
theorem Cj(b:Expr){op:CmpOp}(h:op≠.In:=by decide)(d:op≠.NotIn:=by decide):behindInMarks op b=false:=by
 have f:(op==CmpOp.In)=false:=by cases op<;>first|rfl|exact absurd rfl h
 have e:(op==CmpOp.NotIn)=false:=by cases op<;>first|rfl|exact absurd rfl d
 cases b<;>simp[behindInMarks,f,e]
theorem yr{op:CmpOp}{r:R2}(g:kO X (compareOp op) r)(k:PE X a ta)(j:PE X b tb)(i:behindInMarks op b=false):PE X (.Compare a [op] [b] pos) (H9 r ta tb):=by
 intro pins s σ H Q I h;exact wpAny_Compare1 (M3 k j I h λv u d x y m l f e q=>g pins d σ m x y v u Q l f e q) i
def HZ(t:TE):TT:=λσ H Q=>t σ H λx d=>∃k,x=.bl k/\Q k d
theorem yj{op:CmpOp}{r:R2}(g:kO X (compareOp op) r)(l:PE X a ta)(j:PE X b tb)(i:behindInMarks op b=false):PT X (.Compare a [op] [b] pos) (HZ (H9 r ta tb)):=by
 intro pins s σ H Q I h;refine wpAny_isTrue_Compare1 (dt (l pins s σ H _ I h) λv f ⟨x,t,o,r1,q1⟩=>dt (j pins f σ t _ o q1) λu d ⟨y,q,n,r2,q2⟩ =>
  dt (g pins d σ q x y v u _ n r1 r2 q2) λc w ⟨z,p,m,r3,k,e,q3⟩=>?_) i
 subst e;cases r3;exact aa9 ⟨p,m,q3⟩
theorem sP:(sizeLine:Nat)<2 ^ 63:=by rw[sizeLine_eq];decide
theorem vals1{x:V}(r:Vals [x] us):∃u,us=[u]/\RelV x u:=by
 cases r with
 |cons r1 r2=>cases r2;exact⟨_,rfl,r1⟩
theorem vals2{x y:V}(r:Vals [x,y] us):∃u d,us=[u,d]/\RelV x u/\RelV y d:=by
 cases r with
 |cons r1 r2 =>
  cases r2 with
  |cons r3 e=>cases e;exact⟨_,_,rfl,r1,r3⟩
theorem Ef:gx X (.builtin "abs") (λd H Q=>∃i,d=[.int i]/\Q (.int (if i<0 then -i else i)) H):=by
 intro pins s σ H d us Q I r h;obtain⟨i,rfl,q⟩:=h;obtain⟨u,rfl,t,rfl⟩:=vals1 r;exact call_abs_int λu e=>⟨.int (if i<0 then -i else i),H,I.tok _,⟨_,rfl⟩,q⟩
theorem N2(f:X.calm=true):gx X (.builtin "max") (λe H Q=>∃i j,e=[.int i,.int j]/\Q (.int (if j>i then j else i)) H):=by
 intro pins s σ H e us Q I r h;obtain⟨i,j,rfl,q⟩:=h;obtain⟨u,g,rfl,⟨t,rfl⟩,⟨m,rfl⟩⟩:=vals2 r;refine max_two_ints (I.ok.hd f) λn l k=>⟨_,H,I.kept k,?_,q⟩
 by_cases d:j>i
 ·rw[if_pos d,if_pos d];exact⟨_,rfl⟩
 ·rw[if_neg d,if_neg d];exact⟨_,rfl⟩
theorem N1(f:X.calm=true):gx X (.builtin "min") (λe H Q=>∃i j,e=[.int i,.int j]/\Q (.int (if j<i then j else i)) H):=by
 intro pins s σ H e us Q I r h;obtain⟨i,j,rfl,q⟩:=h;obtain⟨u,g,rfl,⟨t,rfl⟩,⟨m,rfl⟩⟩:=vals2 r;refine min_two_ints (I.ok.hd f) λn l k=>⟨_,H,I.kept k,?_,q⟩
 by_cases d:j<i
 ·rw[if_pos d,if_pos d];exact⟨_,rfl⟩
 ·rw[if_neg d,if_neg d];exact⟨_,rfl⟩
theorem N3:gx X (.type "int") (λd H Q=>(∃i,d=[.int i]/\Q (.int i) H)\/∃k,d=[.bl k]/\Q (.int (if k then 1 else 0)) H):=by
 intro pins s σ H d us Q I r h;rcases h with ⟨i,rfl,q⟩|⟨k,rfl,q⟩
 ·obtain⟨u,rfl,t,rfl⟩:=vals1 r;exact call_int_int ⟨.int i,H,I,⟨_,rfl⟩,q⟩
 ·obtain⟨u,rfl,r1⟩:=vals1 r;cases r1;exact call_int_bool ⟨.int (if k then 1 else 0),H,I.tok _,⟨_,rfl⟩,q⟩
end
end L2
namespace L2
open PySem PySem.Spec PyProof.Rows
section
variable {prog:aI}{w:World}{A:aG}{E:aB}{s:Shared}{K:av}{x dx C f:Addr}{mA:bp}{name:Str}{v:Value}
end
theorem AG.some_of{v:V}{o:Option Value}(r:AG (some v) o):∃u,o=some u/\RelV v u:=by
 cases o with
 |none=>exact(show False from r).elim
 |some u=>exact⟨u,rfl,r⟩
section
variable {P:aI}{w:World}{H H':Hp}{h h':Heap}{a C dx:Addr}{fs fs':List (Str×V)}
end
section
variable {X:Cx}{pins:ao}{σ:St}{H:Hp}{s:Shared}{a C dx:Addr}{fs:List (Str×V)}{f:Str}{v:V}{A:aG}{E:aB}
end
section
variable {X:Cx}{o e value:Expr}{f:Str}{pos pos' Z9:Pos}{ta tv:TE}
end
section
variable {X:Cx}{pins:ao}{σ:St}{H:Hp}{s:Shared}{A:aG}{E:aB}{Q:aB}{c:Value}{b:Bool}
end
end L2
namespace L2
open PySem PySem.Spec PyProof.Rows
structure gU(k:Nat)(A:aG):Prop where
 hd:A.handled=none
 dp:A.depth+3*k+5<recursionLimit
 un:A.units+16*k+200<cLine
variable {A:aG}
theorem gU.mono{j k:Nat}(r:gU k A)(h:j<=k):gU j A:=⟨r.hd,by have:=r.dp;left,by have:=r.un;left⟩
theorem gU.deeper{k:Nat}{A:aG}(r:gU (k+1) A)(env:Env):gU k (A.deeper env) :=
 ⟨r.hd,by have:=r.dp;show A.depth+1+3*k+5<_;left,by have:=r.un;show A.units+3+16*k+200<_;left⟩
theorem gU.depth{k:Nat}{A:aG}(r:gU k A):A.depth<recursionLimit:=by have:=r.dp;left
theorem gU.units{k:Nat}{A:aG}(r:gU k A):A.units+64<cLine:=by have:=r.un;left
def JL:TA:=λ_ H Q=>Q [] H
def Bs(d:TE)(c:TA):TA:=λa H Q=>d a H λx f=>c a f λb e=>Q (x::b) e
section
variable {X:Cx}{e:Expr}{es:aq}{te:TE}{t:TA}{pos:Pos}
theorem ej:PA X [] JL:=λ_ _ _ _ H Q I h=>abu ⟨[],H,I,.nil,h⟩
theorem cH(f:PE X e te)(d:PA X es t)(hs:starEach (e::es) X.env=(false,eval e X.env)::starEach es X.env:=by rfl):PA X (e::es) (Bs te t):=by
 intro pos pins s a H Q I h;rw[hs];show wpAny _ _ (spliced ((false,eval e X.env)::backTo pos (starEach es X.env))) _ _ s;refine abm (dt (f pins s a H _ I h) λu c g=>?_);obtain⟨x,l,j,r1,q1⟩:=g;exact dt (d pos pins c a l _ j q1) λm n ⟨b,k,i,r2,q2⟩=>⟨x::b,k,i,.cons r1 r2,q2⟩
def T6(t:TA):TE:=λc H Q=>t c H λa b=>a.length<=sizeLine/\∀p,b p=none->Q (.ref p) (upd b p (.tup a))
def Ua(t:TA):TE:=λc H Q=>t c H λa b=>a.length<=sizeLine/\∀p,b p=none->Q (.ref p) (upd b p (.lst a))
theorem Kt{x1}(h:PA X es t):PE X (.Tuple es x1 pos) (T6 t):=by
 intro pins s f H Q I j;refine wpAny_Tuple_spliced (dt (h pos pins s f H _ I j) λi a ⟨g,d,c,r,z,q⟩=>⟨by rw[<- r.length];exact z,?_⟩);have k:d a.heap.objs.size=none:=c.dE.fresh (aal _);refine⟨.ref a.heap.objs.size,upd d a.heap.objs.size (.tup g),c.laid (t':=a.toks) (λb u e=>aag _ e) (aal _) ?_,rfl,q _ k⟩;exact⟨z,i,r,⟨_,aam _ rfl,rfl,_,rfl⟩⟩
theorem B8(h:PA X es t):PE X (.List es pos) (Ua t):=by
 intro pins s f H Q I j;refine wpAny_List_spliced (dt (h pos pins s f H _ I j) λi a ⟨g,d,c,r,z,q⟩=>⟨by rw[<- r.length];exact z,?_⟩);have k:d a.heap.objs.size=none:=c.dE.fresh (aal _);refine⟨.ref a.heap.objs.size,upd d a.heap.objs.size (.lst g),c.laid (t':=a.toks) (λb u e=>aag _ e) (aal _) ?_,rfl,q _ k⟩;exact⟨z,i,0,r,aam _ rfl⟩
end
abbrev Sp:=ag->Hp->VK->XK->Prop
abbrev AY:=List Env->Hp->Shared->XK->aB
structure HQ(P:aI)(w:World)(K:av)(mg:bp)(base:Heap)(A:aG)(outer:List Env)(s:Shared)(H:Hp):Prop where
 frames:A.frames=some outer
 mod:Mod K mg base
 bs:∀b o,base.get? b=some o->s.heap.get? b=some o/\H b=none
 Jb:base.objs.size<=s.heap.objs.size
 nu:s.heap.FunFrames base outer
 NW:∀b∈AW outer,H b=none
 dE:mF H s.heap
 bare:AllBare s.gens
def CE(outer:List Env)(P:aI)(w:World)(H:Hp)(s:Shared)(Q:VK)(u:Value)(a:Shared):Prop :=
 ∃v b,a.os=s.os/\AllBare a.gens/\Un (AW outer) [] H b s.heap a.heap/\mF b a.heap/\RelV v u/\Q v b
def CR(CX:AY)(outer:List Env)(P:aI)(w:World)(H:Hp)(s:Shared)(Q:VK)(E:XK)(r:Result)(a:Shared):Prop :=
 match r with
 |.ok (.ret u)=>CE outer P w H s Q u a
 |.ok _=>False
 |.error e=>CX outer H s E e a
structure kh(P:aI)(w:World)(K:av)(mg:bp)(base:Heap)(CX:AY)(k:Nat)(f:Addr)(fd:FuncData)(ps:ak)(sp:Sp):Prop where
 len:∀vs H Q E,sp vs H Q E->vs.length=ps.length
 run:∀(A:aG) (outer:List Env) (s:Shared) (H:Hp) (args:Args) (us:au) (vs:ag) (Q:VK) (E:XK),gU k A->HQ P w K mg base A outer s H->BindsTo s fd args (ps.zip us)->Vals vs us->sp vs H Q E ->
  codeAny (model P w) A (.call (.ref f) args) (CR CX outer P w H s Q E) s
theorem kh.mono{P:aI}{w:World}{K:av}{mg:bp}{base:Heap}{CX:AY}{j k:Nat}{f:Addr}{b:FuncData}{a:ak}{sp:Sp}(F:kh P w K mg base CX j f b a sp)(h:j<=k):
  kh P w K mg base CX k f b a sp:=⟨F.len,λA outer s H args d c Q E e=>F.run A outer s H args d c Q E (e.mono h)⟩
variable {Q:VK}
section
variable {X:Cx}{pins:ao}{σ:St}{H:Hp}{s s':Shared}
theorem Inv.Xh(I:Inv X pins σ H s):HQ X.prog X.w X.K X.mg X.base X.A X.stack s H :=
 ⟨I.ok.frames,I.ok.mod,I.bs,aar I.ok.Jb I.sz,I.stack,I.xW,I.dE,I.bare⟩
theorem Inv.after{u:Value}(I:Inv X pins σ H s)(h:CE X.stack X.prog X.w H s Q u s'):EP X pins σ Q u s':=by
 obtain⟨v,i,a,bare,un,e,r,q⟩:=h;obtain⟨c,g,d,t,f⟩:=s';obtain rfl:f=s.os:=a;exact⟨v,i,I.call (h':=c) (g':=g) (d':=d) (t':=t) (ch:=[]) un e bare (λb z=>absurd z (by simp)),r,q⟩
end
def OL(sp:Sp)(gd:ag)(E:XK)(t:TA):TE:=λa H Q=>t a H λb c=>sp (b++gd) c Q E
def Binds(K:av)(c:FuncData)(b:ak)(ds:au):Prop :=
 ∀(s:Shared) (a:au),K.In s.heap->(a++ds).length=b.length->BindsTo s c ⟨a,[]⟩ (b.zip (a++ds))
variable {K:av}{N ps:ak}
theorem Binds.all{c:FuncData}(h:∀a:au,a.length=ps.length->bindArgs c ⟨a,[]⟩=pure (ps.zip a)):Binds K c ps []:=λs a _ b=>by
 rw[List.append_nil]at b ⊢;exact .of_eq (h a b)
def Passes(CX:AY)(X:Cx)(E:XK):Prop:=∀(pins:ao) (b:St) (H:Hp) (s:Shared) (e:Value) (a:Shared),Inv X pins b H s->CX X.stack H s E e a->X.xe e a
variable {H:Hp}{us:au}{vs:ag}
section
variable {X:Cx}{CX:AY}{k:Nat}{f C:Addr}{fd:FuncData}{ps:ak}{sp:Sp}{gd:ag}{ds:au}{E:XK}{x m:Str}{p pos apos:Pos}{e o:Expr}{es:aq}{ta:TE}{t:TA}
theorem Ka{pins:ao}{b:St}{s:Shared}(F:kh X.prog X.w X.K X.mg X.base CX k f fd ps sp)(g:gU k X.A)(l:Binds X.K fd ps ds)(j:Vals gd ds)(d:Passes CX X E)
  (I:Inv X pins b H s) (r:Vals vs us) (h:sp (vs++gd) H Q E):wpAny (model X.prog X.w) X.A (call (.ref f) us) (EP X pins b Q) X.xe s:=by
 have r2:Vals (vs++gd) (us++ds):=r.append j;have i:(us++ds).length=ps.length:=by rw[<- r2.length];exact F.len _ _ _ _ h
 refine wpAny_call (abK (F.run X.A X.stack s H ⟨us,[]⟩ (us++ds) (vs++gd) Q E g I.Xh (l s us I.Ey i) r2 h) λr c a=>?_);cases r with
 |error e=>exact d pins b H s e c I a
 |ok n =>
  cases n with
  |ret u=>exact I.after a
  |next=>exact False.elim a
  |brk=>exact False.elim a
  |cont=>exact False.elim a
theorem FU(F:kh X.prog X.w X.K X.mg X.base CX k f fd ps sp)(d:gU k X.A)(j:Gl X x)(g:X.mg x=some (.ref f))(i:PySem.W.keepIn X.K (.ref f)=true)(n:Binds X.K fd ps ds)(l:Vals gd ds)(c:Passes CX X E)
  (u:PA X (e::es) t) (v:(x==("__debug__" : Str))=false:=by decide) (he:starEach (e::es) X.env=(false,eval e X.env)::starEach es X.env:=by rfl) (hpl:(backTo pos (starEach es X.env)).any (·.1)=false:=by rfl) :
  PE X (.Call (.Name x p) (e::es) [] pos) (OL sp gd E t):=by
 intro pins s b H Q I h;refine aaQ (yE I j g ?_ v);refine PySem.W.callWith_K (h₀:=X.base) I.ok.mod.Vm i (dt (u pos pins s b H _ I h) λus y ⟨vs,z,a,r,q⟩=>⟨a.Ey,?_⟩) he hpl;exact Ka F d n l c a r q
end
section
variable {X:Cx}{CX:AY}{k:Nat}{f C:Addr}{fd:FuncData}{ps ks:ak}{sp:Sp}{E:XK}{x m:Str}{p pos apos aaZ:Pos}{e o:Expr}{es:aq}{kws:List Keyword}{te ta:TE}{t tk:TA}{nm:Option Str}
variable {g:au->au->au}{gV:ag->ag->ag}
end
structure j7(N P:ak)(sc:Scope):Prop where
 kind:sc.kind=.function
 co:sc.isCoroutine=false
 gen:sc.isGenerator=false
 nd:N.Nodup
 pre:N.take P.length=P
 par:∀x∈P,sc.names.lookup x=some .local\/sc.names.lookup x=some .cell
 KU:∀y∈sc.names,y.2≠.free
theorem rL{kindOf:Str->Option NameKind}{x:Str}:∀{binds:List (Str×Value)} {m:bp},(∀v,(x,v)∉binds)->bindL kindOf binds m x=m x
 |[],_,_=>rfl
 | (n,v)::r,m,h=>by
  unfold bindL;rw[rL λw hw=>h w (List.mem_cons_of_mem _ hw)];split
  ·have:x≠n:=by rintro rfl;exact h v aae
   simp[this]
  ·rfl
theorem rN{kindOf:Str->Option NameKind}{x:Str}:∀{binds:List (Str×Value)} {m:bp},(∀v,(x,v)∉binds)->bindC kindOf binds m x=m x
 |[],_,_=>rfl
 | (n,v)::r,m,h=>by
  unfold bindC;rw[rN λw hw=>h w (List.mem_cons_of_mem _ hw)];split
  ·rfl
  ·have:x≠n:=by rintro rfl;exact h v aae
   simp[this]
theorem rM{kindOf:Str->Option NameKind}{x:Str}{v:Value}:∀{P:ak} {vs:au} {i:Nat} {m:bp},P.Nodup->P[i]?=some x->vs[i]?=some v->kindOf x=some .local ->
  bindL kindOf (P.zip vs) m x=some v
 |[],_,_,_,_,h,_,_=>by simp at h
 |_::_,[],_,_,_,_,h,_=>by simp at h
 |p::P,w::vs,0,m,nd,h1,h2,hk=>by
  simp at h1 h2;subst h1;subst h2;show bindL kindOf ((p,w)::P.zip vs) m p=_;unfold bindL;rw[rL λv a=>(List.nodup_cons.mp nd).1 (List.of_mem_zip a).1,if_pos hk];simp
 |p::P,w::vs,i+1,m,nd,h1,h2,hk=>by
  show bindL kindOf ((p,w)::P.zip vs) m x=_;unfold bindL;exact rM (i:=i) (List.nodup_cons.mp nd).2 (by simpa using h1) (by simpa using h2) hk
theorem rO{kindOf:Str->Option NameKind}{x:Str}{v:Value}:∀{P:ak} {vs:au} {i:Nat} {m:bp},P.Nodup->P[i]?=some x->vs[i]?=some v->kindOf x≠some .local ->
  bindC kindOf (P.zip vs) m x=some v
 |[],_,_,_,_,h,_,_=>by simp at h
 |_::_,[],_,_,_,_,h,_=>by simp at h
 |p::P,w::vs,0,m,nd,h1,h2,hk=>by
  simp at h1 h2;subst h1;subst h2;show bindC kindOf ((p,w)::P.zip vs) m p=_;unfold bindC;rw[rN λv a=>(List.nodup_cons.mp nd).1 (List.of_mem_zip a).1,if_neg hk];simp
 |p::P,w::vs,i+1,m,nd,h1,h2,hk=>by
  show bindC kindOf ((p,w)::P.zip vs) m x=_;unfold bindC;exact rO (i:=i) (List.nodup_cons.mp nd).2 (by simpa using h1) (by simpa using h2) hk
noncomputable def start(N:ak)(vs:ag):St:=vs.map some++List.replicate (N.length - vs.length) none
noncomputable def xj(CX:AY)(P:aI)(w:World)(K:av)(mg:bp)(base:Heap)(N:ak)(qual:Str)(scope:Scope)(f:Addr)(a:Value)(A:aG)(outer:List Env)(s:Shared)(H:Hp)(E:XK):Cx where
 prog:=P
 w:=w
 K:=K
 mg:=mg
 base:=base
 A:=A.deeper (envOfC qual scope s.heap.objs.size f a)
 N:=N
 s₀:=s
 H₀:=H
 env:=envOfC qual scope s.heap.objs.size f a
 outer:=outer
 stack:=envOfC qual scope s.heap.objs.size f a::outer
 ex:=[]
 calm:=true
 fn:=λ_=>true
 pn:=[]
 xe:=λe c=>wpAny (model P w) (A.deeper (envOfC qual scope s.heap.objs.size f a)) (leaving (envOfC qual scope s.heap.objs.size f a) e) (λ_ b=>CX outer H s E e b) (λd b=>CX outer H s E d b) c
theorem vK{sc:Scope}{n:Nat}{x:Str}(h:sc.names.lookup x=some .cell):∃c,(cellsFrom n sc.names []).lookup x=some c:=by
 have q:=PySem.W.cellsFrom_some sc.names n [] (.inl h);exact Option.isSome_iff_exists.mp q
variable {P:aI}{base:Heap}{mg:Str->Option Value}{qual:Str}{scope:Scope}{w:World}
theorem z4{CX:AY}{f:Addr}{t:Value}{outer:List Env}{s C:Shared}{E:XK}  
  (S:j7 N ps scope) (L:A.handled=none) (g:HQ P w K mg base A outer s H) (R:vs.length=ps.length) (r:Vals vs us)
  (x:InCallC s s.heap.objs.size (bindL (envOfC qual scope s.heap.objs.size f t).kindOf (ps.zip us) λ_=>none) (cellsFrom (s.heap.objs.size+1) scope.names []) (bindC (envOfC qual scope s.heap.objs.size f t).kindOf (ps.zip us) λ_=>none) C) :
  Inv (xj CX P w K mg base N qual scope f t A outer s H E) [] (start N vs) H C:=by
 have J:ps.length<=N.length:=by have:=aaV List.length S.pre;rw[List.length_take]at this;left
 obtain⟨o,O,rfl,F⟩:=x.done;have B:∀b:Addr,b∉(xj CX P w K mg base N qual scope f t A outer s H E).ex:=λb z=>absurd (show b∈([]:aS) from z) (by simp);refine⟨⟨g.mod,S.kind,rfl,rfl,aal _,λy z c o d=>?_,λy j=>?_,λy c _ h=>?_,λ_=>L,Around.frames_deeper g.frames,.inr ⟨rfl,rfl⟩,λb z=>absurd z (B b),g.bs,g.Jb,λb _ _=>B b,λb z=>absurd z (B b),g.nu,g.NW⟩,
  rfl,g.bare,Un.kept F,⟨_,x.toInCall.ns,λi y v o d T=>?_⟩,λy c h=>⟨_,x.cell y c h⟩,g.dE.fresh (aal _),λy c h=>?_,λp l=>absurd (show p∈([]:ao) from l) (by simp),g.dE.kept F,?_⟩
 ·exact name_of_addr x.apart (abd o) (abd d)
 ·have j:scope.names.lookup y=some .cell\/scope.names.lookup y=some .free:=j;rcases j with j|j
  ·exact vK j
  ·exact absurd rfl (S.KU _ (abd j))
 ·exact aa6 (x.above y c (abd h))
 ·have m:i<vs.length:=by
   unfold start at d;by_cases m:i<vs.length
   ·exact m
   ·rw[List.getElem?_append_right (by simpa using m)]at d;rw[List.getElem?_replicate]at d;split at d<;>cases d
  have M:vs[i]?=some v:=by
   unfold start at d;rw[List.getElem?_append_left (by simpa using m),List.getElem?_map]at d;cases e:vs[i]? with
   |none=>rw[e]at d;cases d
   |some a=>rw[e]at d;cases d;rfl
  obtain⟨u,D,I⟩:=r.get M;have l:ps[i]?=some y:=by
   rw[<- S.pre,List.getElem?_take_of_lt (by left)];exact o
  have G:ps.Nodup:=by rw[<- S.pre];exact S.nd.sublist (List.take_sublist _ _)
  refine⟨u,I,?_⟩;rcases S.par y (aaz l)with k|k
  ·exact .inl ⟨k,rM G l D k⟩
  ·obtain⟨c,e⟩:=vK (n:=s.heap.objs.size+1) k;refine .inr ⟨.inl k,c,e,?_⟩;have q:=x.cell y c e;rw[rO G l D (by show scope.names.lookup y≠_;rw[k];decide)]at q;exact q
 ·exact g.dE.fresh (aa6 (x.above y c (abd h)))
 ·unfold start;show _=N.length;rw[List.length_append,List.length_map,List.length_replicate];left
theorem Ri{CX:AY}{k:Nat}{f:Addr}{name:Str}{params:Arguments}{body:aX}{C kV i B d ct oc:Value}{D G:Option Addr}
  {Ew:Array (Option Value)} {sp:Sp} (L:K.lookup f=some ⟨oc,G,.func (PySem.W.fnOf name qual params body scope C kV i B D d ct),Ew⟩) (Ac:PySem.W.codeIn K d qual=true) (S:j7 N ps scope)
  (len:∀vs H Q E,sp vs H Q E->vs.length=ps.length)
  (Dg:∀(A:aG) (outer:List Env) (s:Shared) (H:Hp) (vs:ag) (Q:VK) (E:XK),gU k (A.deeper (envOfC qual scope s.heap.objs.size f d))->sp vs H Q E ->
   ∃t,oo (xj CX P w K mg base N qual scope f d A outer s H E) body t/\t { nx:=λ_ c=>Q .cq c,rt:=Q } (start N vs) H) :
  kh P w K mg base CX (k+1) f (PySem.W.fnOf name qual params body scope C kV i B D d ct) ps sp:=by
 refine⟨len,λA outer s H args us vs Q E p h X r F=>?_⟩;have T:=len _ _ _ _ F;have KX:K.In s.heap:=h.mod.Vm.keeps λb o e=>(h.bs b o e).1;have m:s.heap.NoLimit:=h.mod.nolimit.keeps λb o e=>(h.bs b o e).1;have QI:∀y∈ps.zip us,scope.names.lookup y.1=some .local\/(scope.names.lookup y.1=some .cell/\((cellsFrom (s.heap.objs.size+1) scope.names []).lookup y.1).isSome=true):=λ⟨n,v⟩ M=>by
  rcases S.par n (aaC M).1 with q|q
  ·exact .inl q
  ·exact .inr ⟨q,PySem.W.cellsFrom_some _ _ _ (.inl q)⟩
 refine codeAny_call_function p.depth (KX _ _ L) rfl S.co S.gen rfl (PySem.W.codeRec_of KX Ac) (X _ _ _ _ ?_);refine wpAny_newFunctionEnv_cells S.kind QI λZ U z x=>?_;subst U;refine⟨m.keeps x.toInCall.keep,codeAny_func ?_⟩;obtain⟨t,O,R⟩:=Dg A outer s H vs Q E (p.deeper _) F;have I:Inv (xj CX P w K mg base N qual scope f d A outer s H E) [] (start N vs) H z:=z4 S p.hd h T r x;refine aay (O [] z (start N vs) H _ I R) (λY j g=>?_) λe j g=>g;have fin:∀{a:St} {c:Hp} {v:V} {u:Value},Inv (xj CX P w K mg base N qual scope f d A outer s H E) [] a c j->RelV v u->Q v c->CE outer P w H s Q u j :=
  λ{a c v u} J l q=>⟨v,c,J.os,J.bare,J.base,J.dE,l,q⟩
 cases Y with
 |ret u =>
  obtain⟨v,a,c,J,l,q⟩:=g;exact fin J l q
 |next =>
  obtain⟨a,c,J,q⟩:=g;exact fin (v:=V.cq) (u:=Value.none) J rfl q
 |brk =>
  obtain⟨_,_,_,q⟩:=g;exact False.elim q
 |cont =>
  obtain⟨_,_,_,q⟩:=g;exact False.elim q
end L2
namespace L2
open PySem PySem.Spec PyProof.Rows
section
variable {X:Cx}{x:Str}{p pos:Pos}{e:Expr}{es:aq}{t:TA}{id T:String}{r:ag->Hp->VK->Prop}
def OM(r:ag->Hp->VK->Prop)(t:TA):TE:=λa H Q=>t a H λb c=>r b c Q
theorem fe(k:gx X (.builtin id) r)(j:Gl X x)(i:X.mg x=none)(f:bootBuiltins x=some (.builtin id))(l:PA X (e::es) t)(g:x ≠ "__name__":=by decide)(m:(x==("__debug__" : Str))=false:=by decide)
  (he:starEach (e::es) X.env=(false,eval e X.env)::starEach es X.env:=by rfl) (hpl:(backTo pos (starEach es X.env)).any (·.1)=false:=by rfl):PE X (.Call (.Name x p) (e::es) [] pos) (OM r t):=by
 intro pins s a H Q I h;refine aaQ (eE I j i f ?_ g m);exact PyProof.Rows.callWith_builtin1 (dt (l pos pins s a H _ I h) λc d ⟨b,o,n,r1,q1⟩=>k pins d a o b c Q n r1 q1) he hpl
theorem qR(k:gx X (.type T) r)(j:Gl X x)(i:X.mg x=none)(f:bootBuiltins x=some (.type T))(l:PA X (e::es) t)(g:x ≠ "__name__":=by decide)(m:(x==("__debug__" : Str))=false:=by decide)
  (he:starEach (e::es) X.env=(false,eval e X.env)::starEach es X.env:=by rfl) (hpl:(backTo pos (starEach es X.env)).any (·.1)=false:=by rfl):PE X (.Call (.Name x p) (e::es) [] pos) (OM r t):=by
 intro pins s a H Q I h;refine aaQ (eE I j i f ?_ g m);exact aau (dt (l pos pins s a H _ I h) λc d ⟨b,o,n,r1,q1⟩=>k pins d a o b c Q n r1 q1) he hpl
end
end L2
namespace HT
open PySem PyProof.Rows
noncomputable def lexLt:aa->aa->Bool
 |[],[]=>false
 |[],_::_=>true
 |_::_,[]=>false
 |x::xs,y::ys=>if x=y then lexLt xs ys else decide (x<y)
theorem dM(x y:Int)(xs a:aa):lexLt (x::xs) (y::a)=if x=y then lexLt xs a else decide (x<y):=rfl
theorem ko:lexLt [] []=false:=rfl
theorem o8(y:Int)(a:aa):lexLt [] (y::a)=true:=rfl
theorem dj(x:Int)(xs:aa):lexLt (x::xs) []=false:=rfl
theorem vt(A:aG)(s:Shared)(a:Int)(t:Tok)(c:Int)(u:Tok):∃e,SeqAt.EqAt A s (.int a t) (.int c u) e/\(e=true ↔ a=c) :=
 ⟨(a==c),abL a t c u,by simp⟩
theorem BQ(A:aG)(s:Shared)(a:Int)(t:Tok)(c:Int)(u:Tok)(prog:aI)(w:World)(E:aB)(Q:aB)(h:Q (.bool (decide (a<c))) s):
  wpAny (model prog w) A (richCompare .Lt (.int a t) (.int c u)) Q E s :=
 (PyProof.Rows.lt_int h:wpAny (model prog w) A (compareOp .Lt (.int a t) (.int c u)) Q E s)
section
open PySem.SeqAt
open PySem.AutoSeq1 (wpAny_loadPart')
open PySem.MeetsSeq PySem.MeetsSeq2 PySem.MeetsSeq3
theorem kj(l b:Addr)(items j:aN)(n M:Nat)(Q J:Option Addr)(L K:Array (Option Value))(ns v:aa)(H:IntsAre items.toList ns)(G:IntsAre j.toList v):
  Meets (Builtin.«tuple.__lt__» ⟨[.ref l,.ref b],[]⟩)
   (λ_ R s=>s.heap.get? l=some { cls:=.type "tuple",dict:=Q,data:=.seq items n,slots:=L }/\s.heap.get? b=some { cls:=.type "tuple",dict:=J,data:=.seq j M,slots:=K } /\
    R (.ok (.ret (.bool (lexLt ns v)))) s) :=
 .of_wp λprog w A R s h=>by
  obtain⟨z,g,d,p,r⟩:=s;obtain⟨N,P,h⟩:=h;have V:=AutoSeq1.sub_tuple_tuple;have U:items.size=ns.length:=by rw[<- H.length];simp
  have T:j.size=v.length:=by rw[<- G.length];simp
  wp_walk using wpAny_loadPart' N,wpAny_loadPart' P,wpAny_forIn_list _ (λrest b D=>b.1=none/\D=⟨z,g,d,p,r⟩/\∃(vs ws:au) (i k:aa),rest=vs.zip ws /\
   IntsAre vs i/\IntsAre ws k/\i.length+j.size=k.length+items.size/\R (.ok (.ret (.bool (lexLt i k)))) ⟨z,g,d,p,r⟩) _
  case turn =>
   rintro ⟨y,x⟩ rest b D ⟨C,rfl,vs,ws,i,k,f,E,B,hlen,hR⟩;cases E with
   |nil=>rw[List.zip_nil_left]at f;cases f
   |cons a t o =>
    cases B with
    |nil=>rw[List.zip_nil_right]at f;cases f
    |cons c u m =>
     rw[List.zip_cons_cons]at f;injection f with VH C2
     injection VH with hy hx
     subst hy hx;rw[dM]at hR;simp only[List.length_cons]at hlen;obtain⟨e,O,I⟩:=vt A.in1 ⟨z,g,d,p,r⟩ a t c u;refine aaa (O prog w _ _ ?_);cases e with
     |true =>
      rw[if_pos (I.mp rfl)]at hR
      wp_walk
      exact⟨rfl,rfl,_,_,_,_,C2,o,m,by left,hR⟩
     |false =>
      rw[if_neg (λq=>absurd (I.mpr q) Bool.false_ne_true)]at hR;have S:=BQ A.in1 ⟨z,g,d,p,r⟩ a t c u prog w
      wp_walk using S
      exact⟨_,rfl,by simpa using hR⟩
  case fin =>
   rintro ⟨X,W⟩ D ⟨C,rfl,vs,ws,i,k,f,E,B,hlen,hR⟩;simp only at C;subst C;have F:lexLt i k=decide (items.size<j.size):=by
    cases E with
    |nil =>
     cases B with
     |nil =>
      simp only[List.length_nil]at hlen;rw[ko];exact(aa5 (by left)).symm
     |cons c u hw =>
      simp only[List.length_nil,List.length_cons]at hlen;rw[o8];exact(abg (by left)).symm
    |cons a t F =>
     cases B with
     |nil =>
      simp only[List.length_nil,List.length_cons]at hlen;rw[dj];exact(aa5 (by left)).symm
     |cons c u hw =>
      rw[List.zip_cons_cons]at f;cases f
   rw[F]at hR
   wp_walk
   exact⟨_,rfl,by simpa [Builtin.Tuple.tupleCompareSizes]using hR⟩
  case h =>
   exact⟨rfl,rfl,items.toList,j.toList,ns,v,rfl,H,G,by left,h⟩
end
variable {Q:Value->Shared->Prop}
section
variable {prog:aI}{w:World}{A:aG}{E:aB}{s:Shared}
theorem wN{l b:Addr}{items e:aN}{ns a:aa}(r:IsTup s.heap l items)(v:IsTup s.heap b e)(u:IntsAre items.toList ns)(t:IntsAre e.toList a)
  (q:A.units<cLine) (h:Q (.bool (lexLt ns a)) s):wpAny (model prog w) A (compareOp .Lt (.ref l) (.ref b)) Q E s:=by
 obtain⟨⟨z,y,data,o⟩,g,j,n,i⟩:=id r;obtain⟨⟨B,k,data2,m⟩,f,d,p,c⟩:=id v;simp only at j i d c;subst j i d c;exact richCompare_meets_room (op:=.Lt) ⟨_,g,rfl⟩ ⟨_,f,rfl⟩ abY PySem.F.entry_tuple_lt (PySem.F.args_tuple_lt_2 _ _) (kj l b items e n p y k o m ns a u t)
  ⟨g,f,show Value.bool (lexLt ns a)≠Value.notImplemented/\Q (.bool (lexLt ns a)) s from⟨(λx=>nomatch x),h⟩⟩ q
theorem Hn{t b:Addr}{vs ws:au}(q:IsTup s.heap t vs.toArray)(r:IsTup s.heap b ws.toArray)(l:vs≠[])
  (v:ws=[]->Q (.ref t) s) (u:ws≠[]->Q (.ref s.heap.objs.size) { s with heap:=s.heap.push { cls:=.type "tuple",data:=.seq (vs++ws).toArray } })
  (hsz:vs.length+ws.length<=sizeLine):wpAny (model prog w) A (binaryOp .Add (.ref t) (.ref b)) Q E s:=by
 obtain⟨⟨g,p,data,j⟩,f,o,n,m⟩:=id q;obtain⟨⟨x,h,data2,i⟩,d,c,k,a⟩:=id r;simp only at o m c a;subst o m c a;have e:vs.toArray++ws.toArray=(vs++ws).toArray:=by simp
 by_cases hw:ws=[]
 ·exact concat_meets ⟨_,f,rfl⟩ ⟨_,d,rfl⟩ noFill_tuple_add seq_tuple_add abT abR (abM _ _)
   (tuple_addW1 t b vs.toArray ws.toArray n k p h j i (by simpa using l) (by simp[hw])) ⟨f,d,v hw⟩
 ·refine concat_meets ⟨_,f,rfl⟩ ⟨_,d,rfl⟩ noFill_tuple_add seq_tuple_add abT abR (abM _ _)
   (tuple_addW2 t b vs.toArray ws.toArray n k p h j i (by simpa using l) (by simpa using hw) (by rw[List.size_toArray,List.size_toArray];exact hsz)) ⟨f,d,?_⟩
  rw[e];exact u hw
noncomputable def uB(n d:Nat):Option Int->Nat
 |none=>d
 |some v=>if v<0 then(v+(n:Int)).toNat else min v.toNat n
theorem FG(n d k:Nat):uB n d (some (k:Int))=min k n:=by
 show(if (k:Int)<0 then((k:Int)+(n:Int)).toNat else min (k:Int).toNat n)=min k n;rw[if_neg (by left),Int.toNat_natCast]
end
end HT
namespace L2
open PySem PySem.Spec PyProof.Rows
abbrev TO:=St->Hp->(Option Int->Hp->Prop)->Prop
def PO(X:Cx)(e:Option Expr)(t:TO):Prop :=
 ∀(pins:ao) (s:Shared) (a:St) (H:Hp) (Q:Option Int->Hp->Prop),Inv X pins a H s->t a H Q ->
  wpAny (model X.prog X.w) X.A (evalPart e X.env) (λu c=>∃o b,Inv X pins a b c/\IsPart u o/\Q o b) X.xe s
def Fp:TO:=λ_ H Q=>Q none H
def OG(t:TE):TO:=λa H Q=>t a H λx b=>∃i,x=.int i/\Q (some i) b
theorem intsAre_of{ns:aa}:∀{a:au},Vals (ns.map V.int) a->IntsAre a ns:=by
 induction ns with
 |nil=>intro a r;rw[List.map_nil]at r;cases r;exact .nil
 |cons n ns b =>
  intro a r;rw[List.map_cons]at r;cases r with
  |cons r1 r2 =>
   obtain⟨t,e⟩:=r1;subst e;exact .cons n t (b r2)
section
variable {X:Cx}{e:Expr}{te:TE}{lo hi:Option Expr}{tl th:TO}{pos p2:Pos}
theorem ym:PO X none Fp:=by
 intro pins s a H Q I h;rw[evalPart_none];exact aad ⟨none,H,I,.none,h⟩
theorem nI(h:PE X e te):PO X (some e) (OG te):=by
 intro pins s a H Q I hw;rw[evalPart_some];refine dt (h pins s a H _ I hw) λu f b=>?_;obtain⟨x,d,c,r1,q1⟩:=b;obtain⟨i,rfl,q⟩:=q1;obtain⟨t,rfl⟩:=r1;exact⟨some i,d,c,.int i t,q⟩
def XF(X:Cx)(r:V->Option Int->Option Int->Hp->VK->Prop):Prop :=
 ∀(pins:ao) (s:Shared) (a:St) (H:Hp) (x:V) (v c b:Value) (lo hi:Option Int) (d:Addr) (Q:VK),Inv X pins a H s->RelV x v->s.heap.IsSliceOf d c b .none->IsPart c lo->IsPart b hi->r x lo hi H Q ->
  ∃T id,typeLookup (.type T) "__getitem__" = pure (some (.builtin id))/\s.TypeIs v T/\wpAny (model X.prog X.w) X.A (getItem v (.ref d)) (EP X pins a Q) X.xe s
def tSl(r:V->Option Int->Option Int->Hp->VK->Prop)(te:TE)(tl th:TO):TE:=λa H Q=>te a H λx d=>tl a d λl c=>th a c λu b=>r x l u b Q
theorem uM{r:V->Option Int->Option Int->Hp->VK->Prop}(t:XF X r)(he:PE X e te)(y:PO X lo tl)(o:PO X hi th):PE X (.Subscript e (.Slice lo hi none p2) pos) (tSl r te tl th):=by
 intro pins s c H Q I h;refine Subscript_ (dt (he pins s c H _ I h) λv k g=>?_);obtain⟨x,J,F,r1,q1⟩:=g;refine wpAny_Slice (dt (y pins k c J _ F q1) λf j ⟨l,G,E,n,q2⟩=>dt (o pins j c G _ E q2) λd a g=>?_);obtain⟨u,i,D,m,q3⟩:=g;rw[evalPart_none];refine aad ?_;have C:Inv X pins c i { a with heap:=a.heap.push { cls:=.type "slice",data:=.fields #[f,d,.none] } }:=D.kept (t':=a.toks) λb K q=>aag _ q;obtain⟨T,id,B,p,z⟩:=t pins { a with heap:=a.heap.push { cls:=.type "slice",data:=.fields #[f,d,.none] } } c i x v f d l u a.heap.objs.size Q C r1 (Heap.IsSliceOf.new ..) n m q3;show wpAny (model X.prog X.w) X.A (subscriptTail e (.Slice lo hi none p2) v (.ref a.heap.objs.size)) (EP X pins c Q) X.xe { a with heap:=a.heap.push { cls:=.type "slice",data:=.fields #[f,d,.none] } };exact tail_any (ops:=[.ref a.heap.objs.size,v]) p B z (by with_unfolding_all rfl)
def As(xs:ag)(lo hi:Option Int):ag:=(xs.drop (HT.uB xs.length 0 lo)).take (HT.uB xs.length xs.length hi - HT.uB xs.length 0 lo)
theorem vA(xs:ag)(lo hi:Option Int):(As xs lo hi).length<=xs.length:=by
 unfold As;rw[List.length_take,List.length_drop];left
def Pd(K:av):R2:=λx y H Q=>∃a b d c,x=.ref a/\y=.ref b/\a_ K H a d/\a_ K H b c/\d≠[]/\d.length+c.length<=sizeLine /\
 (c=[]->Q (.ref a) H)/\(c≠[]->∀p,H p=none->Q (.ref p) (upd H p (.tup (d++c))))
theorem Vals.sH{xs:ag}{a:au}(r:Vals xs a):a=[] ↔ xs=[]:=by
 cases r with
 |nil=>simp
 |cons _ _=>simp
theorem F1:kO X (binaryOp .Add) (Pd X.K):=by
 intro pins s n H x y v u Q I i g h;obtain⟨a,b,f,d,rfl,rfl,m,l,k,c,q1,q2⟩:=h;cases i;cases g;obtain⟨t,r1,j,_⟩:=I.tuple m;obtain⟨r,r2,p2,_⟩:=I.tuple l;refine HT.Hn j p2 (λz=>k (r1.sH.mp z)) (λz=>⟨.ref a,H,I,rfl,q1 (r2.sH.mp z)⟩) (λz=>?_) (by rw[<- r1.length,<- r2.length];exact c);refine⟨.ref s.heap.objs.size,_,I.laid (t':=s.toks) (o:=.tup (f++d)) (λb p q=>aag _ q) (aal _) ?_,rfl,q2 (λw=>z (r2.sH.mpr w)) _ (I.dE.fresh (aal _))⟩;exact⟨by rw[List.length_append];exact c,_,r1.append r2,IsTup.new _ _⟩
end
end L2
namespace L2
open PySem PySem.Spec PyProof.Rows
noncomputable def AN(n:Nat)(i:Int):Option Nat:=if 0<=i then(if i<n then some i.toNat else none)else if -(n:Int)<=i then some (i+n).toNat else none
def N5{a:Type}(xs:List a)(i:Int):Option a:=(AN xs.length i).bind λj=>xs[j]?
theorem yH{n:Nat}{i:Int}{j:Nat}(h:AN n i=some j):seqIndex? i n=some j/\j<n /\ -(n:Int)<=i/\i<n:=by
 unfold AN at h;by_cases b:0<=i
 ·rw[if_pos b]at h;by_cases a:i<n
  ·rw[if_pos a]at h;have e:i.toNat=j:=aat h;exact⟨by rw[seqIndex_of b a,e],by left,by left,a⟩
  ·rw[if_neg a]at h;cases h
 ·rw[if_neg b]at h;by_cases a:-(n:Int)<=i
  ·rw[if_pos a]at h;have e:(i+n).toNat=j:=aat h;exact⟨by rw[seqIndex_neg (by left) a,e],by left,a,by left⟩
  ·rw[if_neg a]at h;cases h
theorem zp{a:Type}{xs:List a}{i:Int}{v:a}(h:N5 xs i=some v):∃j,seqIndex? i xs.length=some j/\xs[j]?=some v/\j<xs.length /\ -(xs.length:Int)<=i/\i<xs.length:=by
 unfold N5 at h;cases e:AN xs.length i with
 |none=>rw[e]at h;cases h
 |some j =>
  rw[e]at h;obtain⟨f,d,c,b⟩:=yH e;exact⟨j,f,h,d,c,b⟩
def om(b:Expr):Prop:=∀o i,subscripted b false o i=operate [o,i] (getItem o i)
def HN(X:Cx)(r:R2):Prop :=
 ∀(value slice:Expr) (pins:ao) (s:Shared) (a:St) (H:Hp) (x y:V) (v u:Value) (Q:VK),Inv X pins a H s->RelV x v->RelV y u->r x y H Q ->
  subscripted slice false v u=operate [v,u] (getItem v u)->wpAny (model X.prog X.w) X.A (subscriptTail value slice v u) (EP X pins a Q) X.xe s
def XH(X:Cx)(id:String)(r:V->ag->Hp->VK->Prop):Prop :=
 ∀(pins:ao) (s:Shared) (a:St) (H:Hp) (x:V) (xs:ag) (v:Value) (b:au) (Q:VK),Inv X pins a H s->RelV x v->Vals xs b->r x xs H Q ->
  wpAny (model X.prog X.w) X.A (call (.builtin id) (v::b)) (EP X pins a Q) X.xe s
variable {H:Hp}{σ:L2.St}
section
variable {X:Cx}{a b:Expr}{ta tb:TE}{pos:Pos}
theorem HN.or{r e:R2}(h:HN X r)(h':HN X e):HN X (λx y H Q=>r x y H Q\/e x y H Q):=by
 intro value slice pins s σ H x y v u Q I d c q f;rcases q with q|q
 ·exact h value slice pins s σ H x y v u Q I d c q f
 ·exact h' value slice pins s σ H x y v u Q I d c q f
theorem B9{r:R2}(f:HN X r)(i:PE X a ta)(g:PE X b tb)(hs:om b):PE X (.Subscript a b pos) (H9 r ta tb):=by
 intro pins s σ H Q I h;exact Subscript_ (M3 i g I h λv u c x y k j e d q=>f a b pins c σ k x y v u Q j e d q (hs _ _))
def UU(K:av):R2:=λx y H Q=>∃p c i v,x=.ref p/\y=.int i/\dY K H p c/\N5 c i=some v/\Q v H
def Kg(K:av):R2:=λx y H Q=>∃p c i v,x=.ref p/\y=.int i/\a_ K H p c/\N5 c i=some v/\Q v H
theorem Gn:HN X (UU X.K):=by
 intro value slice pins s σ H x y v u Q I n m h f;obtain⟨p,J,i,z,rfl,rfl,A,C,q⟩:=h;cases n;obtain⟨t,rfl⟩:=m;obtain⟨G,r,d,L⟩:=I.list A;obtain⟨j,c,F,N,E,D⟩:=zp C;obtain⟨w,k,o⟩:=r.get F;have B:=r.length;have M:=sP;have fin:EP X pins σ Q w s:=⟨z,H,I,o,q⟩
 by_cases g:0<=i
 ·have e:i.toNat=j:=by
   rw[seqIndex_of g D]at c;exact aat c
  exact item_listR d.isList g (by left) (by rw[e];simpa using k) fin f
 ·have e:(i+(G.toArray.size:Int)).toNat=j:=by
   rw[seqIndex_neg (by left) E]at c;rw[List.size_toArray,<- B];exact aat c
  exact abt (x:=w) d.isList.typeIs slot_list_getitem.lookup
   (wpAny_getItem_list_neg (Q:=λr l=>r=w/\EP X pins σ Q r l) d.isList (by left) (by rw[List.size_toArray]<;>omega) (by left) (by rw[e];simpa using k) ⟨rfl,fin⟩) f
theorem Ld:HN X (Kg X.K):=by
 intro value slice pins s σ H x y v u Q I f e h k;obtain⟨p,C,i,z,rfl,rfl,l,n,q⟩:=h;cases f;obtain⟨t,rfl⟩:=e;obtain⟨L,r,c,D⟩:=I.tuple l;obtain⟨j,A,o,J,G,F⟩:=zp n;obtain⟨w,B,g⟩:=r.get o;have m:=r.length;have E:=sP;have fin:EP X pins σ Q w s:=⟨z,H,I,g,q⟩
 exact abt (x:=w) c.typeIs slot_tuple_getitem.lookup
  (getItem_tuple (j:=j) (Q:=λr d=>r=w/\EP X pins σ Q r d) c (by left) (by left) (by rw[List.size_toArray,<- m];exact A) (by simpa using B) ⟨rfl,fin⟩) k
theorem wL(c:au)(n j:Nat)(u:Value):Obj.mapSeq (·.setIfInBounds j u) { cls:=.type "list",data:=.seq c.toArray n }={ cls:=.type "list",data:=.seq (c.set j u).toArray n }:=by
 simp[Obj.mapSeq]
theorem Inv.lst{pins:ao}{σ:St}{H:Hp}{s:Shared}{p:Addr}{xs:ag}(I:Inv X pins σ H s)(h:H p=some (.lst xs)):
  ∃(c:au) (n:Nat),Vals xs c/\s.heap.get? p=some { cls:=.type "list",data:=.seq c.toArray n }/\xs.length<=sizeLine:=by
 obtain⟨z,c,n,r,e⟩:=I.dE p _ h;exact⟨c,n,r,e,z⟩
theorem Inv.K3{pins:ao}{s:Shared}{p:Addr}{xs c:ag}{g its':au}{n n':Nat}{f:Obj->Obj}(I:Inv X pins σ H s)(h:H p=some (.lst xs))
  (i:s.heap.get? p=some { cls:=.type "list",data:=.seq g.toArray n }) (d:f { cls:=.type "list",data:=.seq g.toArray n }={ cls:=.type "list",data:=.seq its'.toArray n' }) (r:Vals c its') (hz:c.length<=sizeLine) (t:Nat) :
  Inv X pins σ (upd H p (.lst c)) { s with heap:=s.heap.update p f,toks:=t }:=by
 have e:(s.heap.update p f).get? p=some { cls:=.type "list",data:=.seq its'.toArray n' }:=by
  rw[Heap.get?_update_self f i (by rw[d]<;>rfl),d]
 refine I.write (x:=p) (by rw[h];trivial) (λb u j q=>(aaJ _ _ (abP j)).trans q) ⟨_,e⟩ ?_;exact⟨hz,its',n',r,e⟩
def Pa:V->V->V->Hp->(Hp->Prop)->Prop:=λo i v H Q=>∃p c k j,o=.ref p/\i=.int k/\H p=some (.lst c)/\AN c.length k=some j/\Q (upd H p (.lst (c.set j v)))
theorem set_list:Sa X Pa:=by
 intro pins s σ H o i v F G u Q I B C A h;obtain⟨p,z,k,j,rfl,rfl,g,E,q⟩:=h;cases B;obtain⟨t,rfl⟩:=C;obtain⟨x,n,r,d,D⟩:=I.lst g;obtain⟨c,K,m,l⟩:=yH E;have e:=r.length;have J:=sP;have y:Inv X pins σ (upd H p (.lst (z.set j v))) { s with heap:=s.heap.update p (Obj.mapSeq (·.setIfInBounds j u)) } :=
  I.K3 g d (wL x n j u) (r.set A j) (by rw[List.length_set];exact D) s.toks
 by_cases w:0<=k
 ·have f:k.toNat=j:=by
   rw[seqIndex_of w l]at c;exact aat c
  exact PySem.W.ki_setAt d w (by left) (by rw[List.size_toArray,<- e];exact l) (by rw[f];exact⟨_,y,q⟩)
 ·have f:(k+(x.toArray.size:Int)).toNat=j:=by
   rw[seqIndex_neg (by left) m]at c;rw[List.size_toArray,<- e];exact aat c
  exact PySem.W.ki_setBack d (by left) (by rw[List.size_toArray,<- e];exact m) (by left) (by rw[f];exact⟨_,y,q⟩)
theorem r6(lo c:Option Int)(n:Nat):(sliceBounds lo c none n).1=((HT.uB n 0 lo:Nat):Int)/\(sliceBounds lo c none n).2.1=((HT.uB n n c:Nat):Int)/\(sliceBounds lo c none n).2.2=1:=by
 refine⟨?_,?_,rfl⟩
 ·cases lo with
  |none=>simp[sliceBounds,HT.uB]
  |some i =>
   simp only[sliceBounds,HT.uB,Option.getD_none,show(1:Int)>0 by decide,if_true];by_cases h:i<0
   ·simp only[h,if_true]<;>left
   ·simp only[h,if_false]<;>left
 ·cases c with
  |none=>simp[sliceBounds,HT.uB]
  |some i =>
   simp only[sliceBounds,HT.uB,Option.getD_none,show(1:Int)>0 by decide,if_true];by_cases h:i<0
   ·simp only[h,if_true]<;>left
   ·simp only[h,if_false]<;>left
theorem qg(c:au)(lo d:Option Int):slicePick c.toArray lo d none=((c.drop (HT.uB c.length 0 lo)).take (HT.uB c.length c.length d - HT.uB c.length 0 lo)).toArray:=by
 obtain⟨g,f,e⟩:=r6 lo d c.toArray.size;unfold slicePick;rw[g,f,e];simp only[sliceRange_one,pick_run,List.size_toArray]<;>rfl
def UR(K:av):V->Option Int->Option Int->Hp->VK->Prop:=λx d e H Q=>∃a c,x=.ref a/\dY K H a c/\∀p,H p=none->Q (.ref p) (upd H p (.lst (As c d e)))
theorem r9:XF X (UR X.K):=by
 intro pins s σ H x v p n d e t Q I g m j i h;obtain⟨a,c,rfl,l,q⟩:=h;cases g;obtain⟨w,r,f,k⟩:=I.list l;have hlen:=r.length;refine⟨"list",_,slot_list_getitem.lookup,f.isList.typeIs,?_⟩;refine wpAny_getItem_list_slice f.isList m j i .none (by simp) ?_ (by rw[List.size_toArray]<;>omega);rw[qg,<- hlen];refine⟨.ref s.heap.objs.size,_,I.laid (t':=s.toks) (o:=.lst (As c d e)) (λb u q=>aag _ q) (aal _) ?_,rfl,q _ (I.dE.fresh (aal _))⟩;exact⟨aar (vA c d e) k,_,0,(r.drop (HT.uB c.length 0 d)).take (HT.uB c.length c.length e - HT.uB c.length 0 d),aam _ rfl⟩
noncomputable def jB:V->Bool
 |.cq=>true
 |.bl _=>true
 |.int _=>true
 |.str _=>true
 |_=>false
noncomputable def GX:V->V->Bool
 |.cq,.cq=>true
 |.bl a,.bl b=>a==b
 |.bl a,.int b=>(if a then 1 else 0)==b
 |.int a,.bl b=>a==(if b then 1 else 0)
 |.int a,.int b=>a==b
 |.str a,.str b=>a==b
 |_,_=>false
theorem My{A:aG}{s:Shared}{y x:V}{u v:Value}(e:RelV y u)(c:RelV x v)(g:jB y=true)(f:jB x=true):SeqAt.EqAt A s u v (GX y x):=by
 cases y with
 |cq =>
  cases e;cases x with
  |cq=>cases c;exact abI _
  |bl b=>cases c;exact ab2 b
  |int b=>obtain⟨t,rfl⟩:=c;exact ab7 b t
  |str b=>obtain⟨t,rfl⟩:=c;exact SeqAt.EqAt.none_str b t
  |_=>exact absurd (show false=true from f) aaf
 |bl a =>
  cases e;cases x with
  |cq=>cases c;exact ab4 a
  |bl b=>cases c;exact ab5 a b
  |int b=>obtain⟨t,rfl⟩:=c;exact ab8 a b t
  |str b=>obtain⟨t,rfl⟩:=c;exact SeqAt.EqAt.bool_str a b t
  |_=>exact absurd (show false=true from f) aaf
 |int a =>
  obtain⟨d,rfl⟩:=e;cases x with
  |cq=>cases c;exact ab9 a d
  |bl b=>cases c;exact ab_ a d b
  |int b=>obtain⟨t,rfl⟩:=c;exact abL a d b t
  |str b=>obtain⟨t,rfl⟩:=c;exact SeqAt.EqAt.int_str a d b t
  |_=>exact absurd (show false=true from f) aaf
 |str a =>
  obtain⟨d,rfl⟩:=e;cases x with
  |cq=>cases c;exact SeqAt.EqAt.str_none a d
  |bl b=>cases c;exact SeqAt.EqAt.str_bool a d b
  |int b=>obtain⟨t,rfl⟩:=c;exact SeqAt.EqAt.str_int a d b t
  |str b=>obtain⟨t,rfl⟩:=c;exact SeqAt.EqAt.str_str a d b t
  |_=>exact absurd (show false=true from f) aaf
 |_=>exact absurd (show false=true from g) aaf
def xd(x:V)(u:Value):Bool:=match u with
 |.none=>GX .cq x
 |.bool b=>GX (.bl b) x
 |.int i _=>GX (.int i) x
 |.str z _=>GX (.str z) x
 |_=>false
theorem DH{x y:V}{u:Value}(r:RelV y u)(f:jB y=true):xd x u=GX y x:=by
 cases y with
 |cq=>cases r;rfl
 |bl b=>cases r;rfl
 |int i=>obtain⟨t,rfl⟩:=r;rfl
 |str z=>obtain⟨t,rfl⟩:=r;rfl
 |_=>exact absurd (show false=true from f) aaf
theorem lS{x:V}:∀{xs:ag} {c:au},Vals xs c->xs.all jB=true->c.any (xd x)=xs.any λy=>GX y x
 |_,_,.nil,_=>rfl
 |y::xs,u::c,.cons r t,f=>by
  rw[List.all_cons,Bool.and_eq_true]at f;rw[List.any_cons,List.any_cons,DH r f.1,lS t f.2]
theorem ju{A:aG}{s:Shared}{x:V}{v:Value}(e:RelV x v)(g:jB x=true):∀{xs:ag} {d:au},Vals xs d->xs.all jB=true->∀u∈d,SeqAt.EqAt A s u v (xd x u)
 |_,_,.nil,_=>λu c=>by cases c
 |y::xs,u::d,.cons r t,f=>λh c=>by
  rw[List.all_cons,Bool.and_eq_true]at f;rcases List.mem_cons.mp c with rfl|c
  ·rw[DH r f.1];exact My r e f.1 g
  ·exact ju e g t f.2 h c
def S8(x:V)(xs:ag):Bool:=xs.any λy=>GX y x
def UX(K:av)(neg:Bool):R2:=λx y H Q=>∃p c,y=.ref p/\(dY K H p c\/a_ K H p c)/\jB x=true/\c.all jB=true/\Q (.bl (if neg then !S8 x c else S8 x c)) H
theorem zP:kO X (compareOp .In) (UX X.K false):=by
 intro pins s σ H x y v u Q I f i h;obtain⟨p,k,rfl,c,g,fs,q⟩:=h;cases i;rcases c with c|c
 ·obtain⟨d,r,e,j⟩:=I.list c;refine SeqAt.in_listAt (xd x) e.isList (λw hw=>ju f g r fs w (by simpa using hw)) ⟨.bl _,H,I,rfl,?_⟩;rw[show d.toArray.any (xd x)=d.any (xd x) by simp,lS r fs];exact q
 ·obtain⟨d,r,e,j⟩:=I.tuple c;refine SeqAt.in_tupleAt (xd x) e (λw hw=>ju f g r fs w (by simpa using hw)) ⟨.bl _,H,I,rfl,?_⟩;rw[show d.toArray.any (xd x)=d.any (xd x) by simp,lS r fs];exact q
theorem FZ:kO X (compareOp .NotIn) (UX X.K true):=by
 intro pins s σ H x y v u Q I f i h;obtain⟨p,k,rfl,c,g,fs,q⟩:=h;cases i;rcases c with c|c
 ·obtain⟨d,r,e,j⟩:=I.list c;refine SeqAt.notIn_listAt (xd x) e.isList (λw hw=>ju f g r fs w (by simpa using hw)) ⟨.bl _,H,I,rfl,?_⟩;rw[show d.toArray.any (xd x)=d.any (xd x) by simp,lS r fs];exact q
 ·obtain⟨d,r,e,j⟩:=I.tuple c;refine SeqAt.notIn_tupleAt (xd x) e (λw hw=>ju f g r fs w (by simpa using hw)) ⟨.bl _,H,I,rfl,?_⟩;rw[show d.toArray.any (xd x)=d.any (xd x) by simp,lS r fs];exact q
theorem tN:gx X (.builtin "len") (λg H Q=>∃p c,g=[.ref p]/\(dY X.K H p c\/a_ X.K H p c)/\Q (.int c.length) H):=by
 intro pins s σ H g l Q I r h;obtain⟨p,c,rfl,d,q⟩:=h;obtain⟨u,rfl,i⟩:=vals1 r;cases i;have m:=sP;rcases d with d|d
 ·obtain⟨k,e,f,j⟩:=I.list d;have hlen:=e.length;exact Calls.call_len_list f.isList (by simp only[List.size_toArray]<;>omega) ⟨.int c.length,H,I.tok _,⟨s.toks+1,by rw[List.size_toArray,hlen]⟩,q⟩
 ·obtain⟨k,e,f,j⟩:=I.tuple d;have hlen:=e.length;exact len_tuple f (by simp only[List.size_toArray]<;>omega) ⟨.int c.length,H,I.tok _,⟨s.toks+1,by rw[List.size_toArray,hlen]⟩,q⟩
theorem tM:gx X (.type "list") (λx H Q=>∃p d,x=[.ref p]/\(dY X.K H p d\/a_ X.K H p d)/\∀l,H l=none->Q (.ref l) (upd H l (.lst d))):=by
 intro pins s σ H x A Q I r h;obtain⟨p,d,rfl,k,q⟩:=h;obtain⟨u,rfl,z⟩:=vals1 r;cases z;have fin:∀(c:au),Vals d c->d.length<=sizeLine->∀(h':Heap) (g:Nat),(∀b y,s.heap.get? b=some y->h'.get? b=some y) ->
   h'.get? s.heap.objs.size=some { cls:=.type "list",dict:=none,data:=.seq c.toArray g,slots:=#[] }->EP X pins σ Q (.ref s.heap.objs.size) { s with heap:=h' }:=λc f j h' g i e =>
  ⟨.ref s.heap.objs.size,_,I.laid (t':=s.toks) i (aal _) (show cQ _ h' _ (.lst d) from⟨j,c,g,f,e⟩),rfl,q _ (I.dE.fresh (aal _))⟩
 rcases k with k|k
 ·obtain⟨c,f,m,j⟩:=I.list k;have hlen:=f.length;obtain⟨o,t,w,n,v⟩:=m.isList;exact call_list_seq p (.inl rfl) t w v (λh' g i e=>fin c f j h' g i e) (by simp only[List.size_toArray]<;>omega)
 ·obtain⟨c,f,m,j⟩:=I.tuple k;have hlen:=f.length;obtain⟨o,t,w,n,v⟩:=m;exact call_list_seq p (.inr rfl) t w v (λh' g i e=>fin c f j h' g i e) (by simp only[List.size_toArray]<;>omega)
theorem qx:gx X (.type "tuple") (λk H Q=>∃p c,k=[.ref p]/\((dY X.K H p c/\∀l,H l=none->Q (.ref l) (upd H l (.tup c)))\/(a_ X.K H p c/\Q (.ref p) H))):=by
 intro pins s σ H k x Q I r h;obtain⟨p,c,rfl,h⟩:=h;obtain⟨u,rfl,t⟩:=vals1 r;cases t;rcases h with ⟨i,q⟩|⟨i,q⟩
 ·obtain⟨j,f,g,m⟩:=I.list i;have hlen:=f.length;refine call_tuple_list g.isList (λd v=>?_) (by simp only[List.size_toArray]<;>omega);have n:Inv X pins σ H { s with heap:=d }:=I.kept (t':=s.toks) v;have w:Inv X pins σ (upd H d.objs.size (.tup c)) { s with heap:=d.push { cls:=.type "tuple",data:=.seq j.toArray } } :=
   n.laid (t':=s.toks) (λb o e=>aag _ e) (aal _) (show cQ _ _ _ (.tup c) from⟨m,j,f,IsTup.new _ _⟩)
  exact⟨.ref d.objs.size,_,w,rfl,q _ (n.dE.fresh (aal _))⟩
 ·obtain⟨j,f,g,m⟩:=I.tuple i;exact call_tuple_same g ⟨.ref p,H,I,rfl,q⟩
def Sg(K:av)(T:String)(x:V)(H:Hp):Prop:=match x with
 |.ref p=>T = "list" /\ ∃c,dY K H p c
 |_=>False
theorem Ba{pins:ao}{s:Shared}{T:String}{x:V}{v:Value}(I:Inv X pins σ H s)(r:RelV x v)(d:Sg X.K T x H):
  s.TypeIs v T/\∀a,v=.ref a->∃g,s.heap.get? a=some g/\g.dict=none:=by
 cases x with
 |ref p =>
  cases r;obtain⟨rfl,j,h⟩:=d;obtain⟨k,_,f,_⟩:=I.list h;refine⟨f.isList.typeIs,λa e=>?_⟩;cases e;obtain⟨o,n,e,c,i,_⟩:=f;exact⟨o,e,i⟩
 |_=>exact False.elim d
def Ud(K:av)(T:String)(r:V->ag->Hp->VK->Prop)(to:TE):TE:=λσ H Q=>to σ H λx c=>Sg K T x c/\r x [] c Q
def tBM(K:av)(T:String)(r:V->ag->Hp->VK->Prop)(to:TE)(t:TA):TE:=λσ H Q=>to σ H λx c=>Sg K T x c/\t σ c λd e=>r x d e Q
variable {o e:Expr}{es:aq}{to:TE}{t:TA}{name:Str}{apos tE:Pos}{T id:String}{r:V->ag->Hp->VK->Prop}
theorem U5(g:PlainAttrs T)(slot:Slot T name id)(n:typeOf (.builtin id)=pure (.type "method_descriptor"))(j:XH X id r)(i:PE X o to)
  (q:attributeBase o name X.env (eval o X.env)=eval o X.env:=by rfl) (hline:(apos.endLine==tE.line)=true:=by rfl):PE X (.Call (.Attribute o name apos) [] [] tE) (Ud X.K T r to):=by
 intro pins s σ H Q I h;refine wpAny_Call_method0_late q hline (dt (i pins s σ H _ I h) λv f m=>?_);obtain⟨x,p,c,r1,d,q1⟩:=m;obtain⟨l,k⟩:=Ba c r1 d;exact⟨T,id,g,slot,n,l,k,abU rfl (PySem.evalArgs_none (j pins f σ p x [] v [] Q c r1 .nil q1))⟩
theorem Ca(l:PlainAttrs T)(slot:Slot T name id)(y:typeOf (.builtin id)=pure (.type "method_descriptor"))(n:XH X id r)(m:PE X o to)(p:PA X (e::es) t)
  (D:attributeBase o name X.env (eval o X.env)=eval o X.env:=by rfl)
  (hfew:((backTo tE (starEach (e::es) X.env)).all (λx=>!x.1)&&(backToKw tE (keywordEach [] X.env)).all (λx=>x.1.isSome)
   && decide ((e::es).length+([]:List Keyword).length+(if ([]:List Keyword).isEmpty then 0 else 1)<30))=true:=by rfl)
  (hline:(apos.endLine==tE.line)=true:=by rfl) (hs:starEach (e::es) X.env=(false,eval e X.env)::starEach es X.env:=by rfl) (z:(backTo tE (starEach es X.env)).any (·.1)=false:=by rfl) :
  PE X (.Call (.Attribute o name apos) (e::es) [] tE) (tBM X.K T r to t):=by
 intro pins s σ H Q I h;refine wpAny_Call_method_late D hfew hline rfl (dt (m pins s σ H _ I h) λv k w=>?_);obtain⟨x,C,d,r1,i,q1⟩:=w;obtain⟨u,q⟩:=Ba d r1 i;refine⟨T,id,l,slot,y,u,q,?_⟩;have c:=p tE pins k σ C _ d q1;rw[hs]at c ⊢;refine abU (by show(false||(backTo tE (starEach es X.env)).any (·.1))=false;rw[z]<;>rfl) (Calls.evalArgs_plain ?_);exact dt c λg j ⟨f,B,A,r2,q2⟩=>n pins j σ B x f v g Q A r1 r2 q2
/- xs.append(e),list.index on a module's tuple .. are XH facts of 06m -/
end
end L2
namespace L2
open PySem PySem.Spec PyProof.Rows
def TM(X:Cx)(id:String)(r:V->ag->Hp->VK->Prop):Prop :=
 ∀(pins:ao) (s:Shared) (a:St) (H:Hp) (x:V) (xs:ag) (v:Value) (b:au) (Q:VK),Inv X pins a H s->RelV x v->Vals xs b->r x xs H Q ->
  wpAny (model X.prog X.w) X.A (call (.builtin id) (v::b)) (EP X pins a Q) X.xe s
theorem Vals.one:∀{x:V} {a:au},Vals [x] a->∃u,a=[u]/\RelV x u
 |_,_,.cons r .nil=>⟨_,rfl,r⟩
theorem Vals.zero:∀{a:au},Vals [] a->a=[]
 |_,.nil=>rfl
theorem Vals.dropLast{xs:ag}{a:au}(h:Vals xs a):Vals xs.dropLast a.dropLast:=by
 induction h with
 |nil=>exact .nil
 |cons r t b =>
  cases t with
  |nil=>exact .nil
  |cons q c=>exact .cons r b
theorem Vals.eraseIdx:∀{xs:ag} {a:au} (i:Nat),Vals xs a->Vals (xs.eraseIdx i) (a.eraseIdx i)
 |_,_,_,.nil=>.nil
 |_,_,0,.cons _ t=>t
 |_,_,i+1,.cons r t=>.cons r (Vals.eraseIdx i t)
theorem Vals.rep{xs:ag}{a:au}(h:Vals xs a):∀k:Nat,Vals (List.replicate k xs).flatten (List.replicate k a).flatten
 |0=>.nil
 |k+1=>by
  rw[List.replicate_succ,List.replicate_succ,List.flatten_cons,List.flatten_cons];exact Vals.append h (Vals.rep h k)
theorem xc{c:Type}(l:List c):l.eraseIdx (l.length - 1)=l.dropLast:=by
 induction l with
 |nil=>rfl
 |cons a r d =>
  cases r with
  |nil=>rfl
  |cons b r =>
   have e:(a::b::r).length - 1=((b::r).length - 1)+1:=by
    have g:(a::b::r).length=r.length+2:=rfl;have f:(b::r).length=r.length+1:=rfl;left
   rw[e,List.eraseIdx_cons_succ,d]
   all_goals rfl
theorem qX{a:Type}:∀(l:List a) (i:Nat),(l.eraseIdx i).length<=l.length
 |[],_=>aal _
 |_::_,0=>aci _
 |_::r,i+1=>Nat.succ_le_succ (qX r i)
theorem foldl_rep(b:au):∀(k:Nat) (a:au),
  List.foldl (λd c=>d++c) a.toArray (List.replicate k b.toArray)=(a++(List.replicate k b).flatten).toArray
 |0,a=>by simp
 |k+1,a=>by
  have e:a.toArray++b.toArray=(a++b).toArray:=by simp
  have f:(a++b)++(List.replicate k b).flatten=a++(List.replicate (k+1) b).flatten:=by
   rw[List.replicate_succ,List.flatten_cons,List.append_assoc]
  rw[<- f,<- foldl_rep b k (a++b),<- e,List.replicate_succ,List.foldl_cons]
variable {aJ:au}{t':Nat}
section
variable {X:Cx}{pins:ao}{σ:St}{H:Hp}{s:Shared}{l b:Addr}{xs ys zs:ag}
theorem Inv.kE{its':au}{n:Nat}{f:aN->aN}(I:Inv X pins σ H s)(h:H l=some (.lst xs))
  (e:s.heap.get? l=some { cls:=.type "list",data:=.seq aJ.toArray n }) (d:f aJ.toArray=its'.toArray) (a:Vals ys its') (hz:ys.length<=sizeLine) :
  Inv X pins σ (upd H l (.lst ys)) { s with heap:=s.heap.update l (Obj.mapSeq f),toks:=t' }:=by
 have q:=PySem.IsL.update e f;rw[d]at q;refine I.write (x:=l) (by rw[h];exact trivial) (λi u g c=>(aaJ s.heap (Obj.mapSeq f) (abP g)).trans c) ⟨_,q⟩ ?_;exact⟨hz,its',_,a,q⟩
theorem Inv.K6(I:Inv X pins σ H s)(a:Vals ys aJ)(hz:ys.length<=sizeLine):
  Inv X pins σ (upd H s.heap.objs.size (.lst ys)) { s with heap:=s.heap.push { cls:=.type "list",data:=.seq aJ.toArray },toks:=t' } :=
 I.laid (λ_ _ q=>aag _ q) (aal _) ⟨hz,aJ,0,a,aam _ rfl⟩
theorem Inv.fresh(I:Inv X pins σ H s):H s.heap.objs.size=none:=I.dE.fresh (aal _)
theorem Inv.uY(I:Inv X pins σ H s)(a:H l=some (.lst xs)):xs.length<=sizeLine/\∃(aJ:au) (n:Nat),Vals xs aJ/\xs.length=aJ.length/\s.heap.get? l=some { cls:=.type "list",data:=.seq aJ.toArray n }:=by
 obtain⟨z,aJ,n,r,e⟩:=I.dE l _ a;exact⟨z,aJ,n,r,r.length,e⟩
theorem uS{n:Nat}(h:n<=sizeLine):Builtin.List.listTooLong n=false:=by
 unfold Builtin.List.listTooLong;exact aa5 (by left)
end
section
variable {X:Cx}
def yi:V->ag->Hp->VK->Prop:=λx b H Q=>∃l a y,x=.ref l/\b=[y]/\H l=some (.lst a)/\a.length<sizeLine/\Q .cq (upd H l (.lst (a++[y])))
theorem qW:TM X "list.append" yi:=by
 intro pins s f H x i v j Q I b c h;obtain⟨l,g,y,rfl,rfl,a,k,q⟩:=h;cases b;obtain⟨u,rfl,d⟩:=c.one;obtain⟨z,aJ,n,r,m,e⟩:=I.uY a;refine abA F.slot_list_append ⟨_,e,rfl⟩ F.entry_list_append (F.args_list_append_2 _ _) (PySem.list_append l aJ.toArray n u (by rw[List.size_toArray];left)) ⟨e,?_⟩;refine⟨.cq,_,I.kE (its':=aJ++[u]) a e (by simp) (r.append (.cons d .nil)) ?_,rfl,q⟩;rw[List.length_append,List.length_singleton];left
def FK:V->ag->Hp->VK->Prop:=λx d H Q=>∃l b c a,x=.ref l/\d=[.ref b]/\H l=some (.lst c)/\H b=some (.lst a)/\c.length+a.length<=sizeLine/\Q .cq (upd H l (.lst (c++a)))
theorem zQ:TM X "list.extend" FK:=by
 intro pins s p H x B v C Q I f g h;obtain⟨l,b,y,t,rfl,rfl,d,k,D,q⟩:=h;cases f;obtain⟨u,rfl,i⟩:=g.one;cases i;obtain⟨z,aJ,n,r,E,e⟩:=I.uY d;obtain⟨w,a,j,r2,A,m⟩:=I.uY k;have c:aJ.toArray.size+a.toArray.size<=sizeLine:=by rw[List.size_toArray,List.size_toArray];left
 have o:¬ (!aJ.toArray.isEmpty&&Builtin.List.listTooLong (aJ.toArray.size+a.toArray.size))=true:=by
  rw[uS c,Bool.and_false];exact aaf
 refine abA F.slot_list_extend ⟨_,e,rfl⟩ F.entry_list_extend (F.args_list_extend_2 _ _)
  (AutoSeq1.list_extend_list_list_0 l aJ.toArray n b a.toArray j o (by rw[List.size_toArray];left) (by left)) ⟨e,m,?_⟩
 refine⟨.cq,_,I.kE (its':=aJ++a) d e (by simp) (r.append r2) ?_,rfl,q⟩;rw[List.length_append];left
def UT:V->ag->Hp->VK->Prop:=λx b H Q=>∃l a y,x=.ref l/\b=[]/\H l=some (.lst a)/\a[a.length - 1]?=some y/\Q y (upd H l (.lst a.dropLast))
theorem Vg:TM X "list.pop" UT:=by
 intro pins s m H x p v t Q I d f h;obtain⟨l,o,y,rfl,rfl,c,i,q⟩:=h;cases d;have b:=f.zero;subst b;obtain⟨z,aJ,n,r,k,e⟩:=I.uY c;obtain⟨u,j,g⟩:=r.get i;have a:aJ.toArray[aJ.toArray.size - 1]?=some u:=by
  show aJ.toArray[aJ.length - 1]?=some u;rw[<- Array.getElem?_toList,<- k];exact j
 refine abA F.slot_list_pop ⟨_,e,rfl⟩ F.entry_list_pop (F.args_list_pop_1 _) (MeetsSeq.list_pop_last l aJ.toArray n u a (by rw[List.size_toArray];left)) ⟨e,?_⟩;refine⟨y,_,I.kE (its':=aJ.dropLast) c e ?_ r.dropLast ?_,g,q⟩
 ·show aJ.toArray.eraseIdxIfInBounds (aJ.toArray.size - 1)=aJ.dropLast.toArray;rw[List.size_toArray,List.eraseIdxIfInBounds_toArray,xc]
 ·rw[List.length_dropLast];left
def Kf:V->ag->Hp->VK->Prop:=λx b H Q=>∃l a i k y,x=.ref l/\b=[.int i]/\H l=some (.lst a) /\ -(2 ^ 63)<=i/\i<2 ^ 63/\seqIndex? i a.length=some k/\a[k]?=some y/\Q y (upd H l (.lst (a.eraseIdx k)))
theorem PQ:TM X "list.pop" Kf:=by
 intro pins s B H x C v D Q I c d h;obtain⟨l,b,i,k,y,rfl,rfl,a,A,p,o,j,q⟩:=h;cases c;obtain⟨u,rfl,f⟩:=d.one;obtain⟨t,rfl⟩:=f;obtain⟨z,aJ,n,r,m,e⟩:=I.uY a;obtain⟨w,hw,g⟩:=r.get j;refine abA F.slot_list_pop ⟨_,e,rfl⟩ F.entry_list_pop (F.args_list_pop_2 _ _)
  (MeetsSeq.list_pop_at l aJ.toArray n i t k w (fitsIndex_both A p) (by rw[List.size_toArray,<- m];exact o) (by rw[<- Array.getElem?_toList];exact hw) (by rw[List.size_toArray];left)) ⟨e,?_⟩
 refine⟨y,_,I.kE (its':=aJ.eraseIdx k) a e ?_ (r.eraseIdx k) ?_,g,q⟩
 ·show aJ.toArray.eraseIdxIfInBounds k=(aJ.eraseIdx k).toArray;rw[List.eraseIdxIfInBounds_toArray]
 ·have:=qX b k;left
def UY:R2:=λx y H Q=>∃l b c a,x=.ref l/\y=.ref b/\H l=some (.lst c)/\H b=some (.lst a)/\c.length+a.length<=sizeLine/\∀p,H p=none->Q (.ref p) (upd H p (.lst (c++a)))
theorem KI:kO X (binaryOp .Add) UY:=by
 intro pins s k H x y v u Q I d c h;obtain⟨l,b,p,m,rfl,rfl,f,g,A,q⟩:=h;cases d;cases c;obtain⟨z,aJ,n,r,B,e⟩:=I.uY f;obtain⟨o,a,w,r2,t,j⟩:=I.uY g;refine PySem.P.add_list e j ?_ (by rw[List.size_toArray,List.size_toArray];left);have i:aJ.toArray++a.toArray=(aJ++a).toArray:=by simp
 rw[i];exact⟨.ref _,_,I.K6 (t':=s.toks) (r.append r2) (by rw[List.length_append];left),rfl,q _ I.fresh⟩
def US:R2:=λx y H Q=>∃l k a,x=.ref l/\y=.int k/\H l=some (.lst a) /\ -(2 ^ 63)<=k/\k<2 ^ 63/\a.length*k.toNat<=sizeLine /\
 ∀p,H p=none->Q (.ref p) (upd H p (.lst (List.replicate k.toNat a).flatten))
theorem len_rep{a:Type}(xs:List a)(k:Nat):(List.replicate k xs).flatten.length=k*xs.length:=by
 induction k with
 |zero=>simp
 |succ k b=>rw[List.replicate_succ,List.flatten_cons,List.length_append,b,Nat.succ_mul,Nat.add_comm]
theorem U8:kO X (binaryOp .Mult) US:=by
 intro pins s G H x y v u Q I i g h;obtain⟨l,k,J,rfl,rfl,p,A,w,d,q⟩:=h;cases i;obtain⟨t,rfl⟩:=g;obtain⟨z,aJ,n,r,o,e⟩:=I.uY p;have hlen:aJ.toArray.size*k.toNat<=sizeLine:=by rw[List.size_toArray,<- o];exact d
 have j:¬ aJ.toArray.size*k.toNat>(2 ^ 63 - 1) / 8:=by
  have:(sizeLine:Nat)<=(2 ^ 63 - 1) / 8:=by decide
  left
 have C:¬ (!Builtin.List.listFitsIndex k)=true:=by
  rw[fitsIndex_both A w];exact aaf
 have E:¬ Builtin.List.listTooLong (aJ.toArray.size*k.toNat)=true:=by
  rw[uS hlen];exact aaf
 have D:List.foldl (λc b=>c++b) #[] (List.replicate (if aJ.toArray.isEmpty=true then 0 else k.toNat) aJ.toArray)=(List.replicate k.toNat aJ).flatten.toArray:=by
  have B:∀m:Nat,List.foldl (λc b=>c++b) #[] (List.replicate m aJ.toArray)=(List.replicate m aJ).flatten.toArray:=λm=>by
   have:=foldl_rep aJ m [];rw[List.nil_append]at this;exact this
  rw[B];cases aJ with
  |nil=>simp
  |cons a K=>rw[if_neg (by simp)]
 refine wpAny_binaryOp_repeat_ref (T:="list") (U:="int") (by decide) ⟨_,e,rfl⟩ (λf=>typeIs_int f k t) noFill_list_mul F.fills_int_mul F.slot_int_rmul repeat_list F.slot_int_index.lookup
  (abA F.slot_int_rmul (typeIs_int s k t) F.entry_int_rmul (F.args_int_rmul_2 _ _) (int___rmul___int_list k t l aJ.toArray n)
   ⟨e,rfl,⟨_,e,rfl⟩,abA F.slot_list_mul ⟨_,e,rfl⟩ F.entry_list_mul (F.args_list_mul_2 _ _) (AutoListH.list___mul___list_int_3 l aJ.toArray n k t C j E) ⟨e,?_⟩⟩)
 rw[D];exact⟨.ref _,_,I.K6 (t':=s.toks) (r.rep k.toNat) (by rw[len_rep,Nat.mul_comm];exact d),rfl,q _ I.fresh⟩
end
section
variable {prog:aI}{w:World}{A:aG}{E:aB}{s:Shared}
set_option maxRecDepth 100000 in
end
section
variable {X:Cx}
end
end L2
namespace Att
open PySem PySem.W PySem.Calls PyProof.Rows
theorem nj{P:Params}{h:Heap}:∀(ns:aa) (vs:au),WellAll P h vs (ns.map WData.int)->IntsAre vs ns:=by
 intro ns;induction ns with
 |nil =>
  intro vs w;rw[List.map_nil]at w;cases w;exact .nil
 |cons n ns c =>
  intro vs w;rw[List.map_cons]at w;cases w with
  |cons a b =>
   cases a;exact .cons _ _ (c _ b)
theorem zI{l:OpenLaw}{n:Nat}(p:l.most=some n){P:Params}{h:Heap}{args:List WData}{vals:au}
  (i:l.row.toRowW.claim.pre args=true) (w:WellAll P h vals args) :
  ∃a f b,vals=[Value.ref a]/\args=[WData.list (b.map WData.int)]/\h.get? a=some { cls:=.type "list",data:=.seq f.toArray }/\IntsAre f b/\b.length<=n:=by
 have v:WShape.hasAll [] args [.list .int]=true:=(pre_splitW i).1;have g:l.pre.holds [] { args:=args }=true:=(pre_splitW i).2;obtain⟨d,r,rfl,u,t⟩:=hasAllW_cons v;obtain rfl:=hasAllW_nil t;obtain⟨y,rfl,s⟩:=hasW_list u;obtain⟨b,rfl⟩:=items_int s;have hlen:b.length<=n:=by
  unfold OpenLaw.pre at g;have e:(WTm.not (.lt (.lit (.int (n:Int))) (.len (.arg 0)))).holds [] { args:=[.list (b.map .int)] }=true:=by
   have e:=(holds_andW g).1;rw[p]at e;exact e
  have c:=condW_of e (w_not (w_lt w_lit (w_len_list (w_arg rfl))));rw[List.length_map]at c;refine Nat.le_of_not_lt λq=>?_;have m:(n:Int)<((b.length:Nat):Int):=by left
  first
   | (rw[decide_eq_true m]at c;exact absurd c (by decide))
   | (simp at c;left)
 cases w with
 |cons k j =>
  cases j;cases k with
  |list o x=>exact⟨_,_,b,rfl,rfl,o,nj b _ x,hlen⟩
theorem zM(l:OpenLaw)(args:List WData):l.row.toRowW.claim.post args (.bool true) args=true :=
 postW_of (r:=l.row.toRowW) (X:=(true==true))
  (show WShape.has [] (.bool true) .bool=true by first|rfl|decide|simp[WShape.has,WShape.arms,WShape.armsAll])
  (show(WTm.eq .res (.lit (.bool true))).value [] { args:=args,res:=some (.bool true),after:=args }=some (.bool (true==true)) from w_eq_bool (w_res rfl) w_lit) rfl
theorem vO{l:OpenLaw}{n:Nat}{q:aI}{loose:ak}{m:(bp)->Heap->Prop}{k:World->Heap->Prop}{d:DefRec}
  (u:l.most=some n) (F:d.params.defaults=[])
  (call:∀(w:World) (s₀ b:Shared) (mg i:bp) (fa:Addr) (o:Obj) (h g c:Value) (a:Addr) (vs:au) (ns:aa),
   Ground q loose [] m w s₀ mg i b.heap->k w b.heap ->
   b.heap.get? fa=some o->o.data=.func (docDef d.name d.params d.body d.scope h g c)->b.heap.CodeRec g d.name->mg d.name=some (.ref fa) ->
   b.heap.get? a=some { cls:=.type "list",data:=.seq vs.toArray }->IntsAre vs ns->ns.length<=n->b.gens = #[] ->
   codeAny (model l.prog w) callerA (.call (.ref fa) ⟨[.ref a],[]⟩) (λr e=>r=.ok (.ret (.bool true))/\OldK b.heap e.heap/\e.os=b.os/\AllBare e.gens) b) :
  WalkO q loose m k l.row.toRowW d [] (λf vs=>PySem.call f vs):=by
 intro w s₀ b mg i G Y fa o h g c C kV t y J j hmg x args vals as I D p E K;obtain rfl:C=.none:=Dflts.none j F;obtain rfl:kV=.none:=Dflts.noKw j;obtain⟨a,vs,ns,rfl,rfl,H,hints,hlen⟩:=zI u I E;refine enter_call (abK (call w s₀ b mg i fa o h g c a vs ns G Y t (fd_plain y) J hmg H hints hlen x) λr e s=>?_);obtain⟨rfl,B,A,z⟩:=s;exact⟨.inl ⟨.bool true,.bool true,[],rfl,λ_=>rfl,.bool true,zM l _,λ_=>⟨List.Pairwise.nil,λ_ v=>(nomatch v)⟩⟩,B,A,z⟩
section
variable {prog:aI}{w:World}{A:aG}{E:aB}{s:Shared}{K:Frag}
noncomputable def ledger(h:Heap)(L d:Addr):ao:=(List.range h.objs.size).filterMap λa=>if a=L\/a=d then none else(h.get? a).map λo=>(a,o)
end
end Att
namespace L2
open PySem PySem.Spec PyProof.Rows
theorem lZ:∀{vs:au} {ns:aa},IntsAre vs ns->Vals (ns.map V.int) vs
 |_,_,.nil=>.nil
 |_,_,.cons n t h=>.cons ⟨t,rfl⟩ (lZ h)
def HM(H:Hp):Prop:=∀b,H b=none\/∃o a,H b=some (.kr o (.lst a))
theorem CH{P:aI}{w:World}{K:av}{mg p:bp}{CX:AY}{k:Nat}{fa a:Addr}{J:FuncData}{x:Str}{sp:Sp}{c:Shared}{vs:au}{ns:aa}
  (KX:K.In c.heap) (O:c.heap.Ns mainGlobals mg) (f:c.heap.Ns builtinsNs p) (y:∀x:Str,x ≠ "__name__" -> p x=bootBuiltins x) (Wf:c.heap.NoLimit) (X:c.gens = #[])
  (j:c.heap.get? a=some { cls:=.type "list",data:=.seq vs.toArray }) (E:IntsAre vs ns) (D:ns.length<=sizeLine) (W:gU k callerA)
  (F:∀base:Heap,K.In base->base.Ns mainGlobals mg->kh P w K mg base CX k fa J [x] sp) (QR:∀(s:Shared) (u:Value),BindsTo s J ⟨[u],[]⟩ [(x,u)])
  (EA:∀H:Hp,HM H->dY K H a (ns.map V.int)->sp [.ref a] H (λv _=>v=.bl true) λ_ _ _=>False)
  (WH:∀H e g,CX [] H c (λ_ _ _=>False) e g->False) :
  codeAny (model P w) callerA (.call (.ref fa) ⟨[.ref a],[]⟩) (λr g=>r=.ok (.ret (.bool true))/\OldK c.heap g.heap/\g.os=c.os/\AllBare g.gens) c:=by
 have C:=lZ E;have Vk:=E.length;have core:∀H:Hp,HM H->dY K H a (ns.map V.int)->mF H c.heap->(∀b,H b≠none->b=a)->(H a≠none->K.lookup a=none) ->
   codeAny (model P w) callerA (.call (.ref fa) ⟨[.ref a],[]⟩) (λr g=>r=.ok (.ret (.bool true))/\OldK c.heap g.heap/\g.os=c.os/\AllBare g.gens) c:=by
  intro H G Y M I hK;have B:∀{b:Addr} {o:Obj},c.heap.get? b=some o->H b=none->(sV c.heap H).get? b=some o:=λe n=>Dc e n;have PJ:∀{b:Addr} {o:Obj} {es:Array DictEntry} {ep:Nat},c.heap.get? b=some o->o.data=.dict es ep->H b=none:=λ{b o es ep} e d=>by
   cases q:H b with
   |none=>rfl
   |some u =>
    have A:b=a:=I b (by rw[q];simp);subst A;rw[j]at e;cases e;have d':Data.seq vs.toArray _=Data.dict es ep:=d;cases d'
  have l:∀{b:Addr} {m:bp},c.heap.Ns b m->(sV c.heap H).Ns b m:=λ{b m} ⟨o,es,ep,e,d,r⟩=>⟨o,es,ep,B e (PJ e d),d,r⟩
  have N:K.In (sV c.heap H):=λb o e=>B (KX b o e) (by
   cases q:H b with
   |none=>rfl
   |some u =>
    have A:b=a:=I b (by rw[q];simp);subst A;rw[hK (by rw[q];simp)]at e;cases e)
  have Z:Mod K mg (sV c.heap H):=⟨N,l O,⟨p,l f,y⟩,let ⟨mc,h1,h2⟩:=Wf;⟨mc,l h1,h2⟩⟩
  have e0:HQ P w K mg (sV c.heap H) callerA [] c H:=⟨rfl,Z,λb o e=>F5 e,Nat.le_of_eq (z_ _ _),trivial,λb f=>absurd (show b∈([]:aS) from f) (by simp),M,.of_eq X⟩
  refine abK ((F _ N (l O)).run callerA [] c H ⟨[.ref a],[]⟩ [.ref a] [.ref a] _ _ W e0 (QR c (.ref a)) (.cons rfl .nil) (EA H G Y)) λr g h=>?_;cases r with
  |error e=>exact(WH H e g h).elim
  |ok fl =>
   cases fl with
   |next=>exact False.elim h
   |brk=>exact False.elim h
   |cont=>exact False.elim h
   |ret u =>
    obtain⟨v,H',T,bare,un,V3,R,q⟩:=h;have S:v=.bl true:=q;subst S;obtain rfl:u=Value.bool true:=R;refine⟨rfl,OldK.of_keep λb o e=>?_,T,bare⟩;cases q:H b with
    |none=>exact un.keep b o e q (by intro z;exact absurd (show b∈([]:aS) from z) (by simp)) (by simp)
    |some u =>
     rcases G b with z|⟨U,xs,z⟩
     ·rw[q]at z;cases z
     ·have Q:=un.qr b U _ z;obtain⟨L,_⟩:=M b _ z;obtain⟨e2,_⟩:=V3 b _ Q;rw[e]at L;cases L;exact e2
 cases t:K.lookup a with
 |some o =>
  have e:=KX a o t;rw[j]at e;cases e;refine core (λ_=>none) (λ_=>.inl rfl) (.inr ⟨_,vs.toArray,_,t,rfl,rfl,rfl,by rw[List.size_toArray,Vk];exact D,by simpa using C⟩) (λb u z=>by have i:(none:Option HO)=some u:=z;cases i) (λb z=>absurd rfl z) λz=>absurd rfl z
 |none =>
  refine core (λb=>if b=a then some (.kr { cls:=.type "list",data:=.seq vs.toArray } (.lst (ns.map V.int)))else none) (λb=>?_) (.inl (.inr ⟨{ cls:=.type "list",data:=.seq vs.toArray },aaR rfl⟩)) (λb u z=>?_) (λb z=>?_) λ_=>t
  ·by_cases f:b=a
   ·exact .inr ⟨_,_,aaR f⟩
   ·exact .inl (acw f)
  ·by_cases f:b=a
   ·have i:=(aaR f).symm.trans z;cases i;subst f;exact⟨j,by rw[List.length_map];exact D,vs,_,C,j⟩
   ·have i:=(acw f).symm.trans z;cases i
  ·by_cases f:b=a
   ·exact f
   ·exact absurd (acw f) z
end L2
namespace L2
open PySem PySem.Spec PyProof.Rows
theorem EO{l:PySem.W.OpenLaw}{n k:Nat}{q:aI}{loose:ak}{J:(bp)->Heap->Prop}{r:World->Heap->Prop}{d:DefRec}{K:Params->av}{CX:World->AY}{sp:World->Sp}{x:Str}
  (y:l.most=some n) (N:n<=sizeLine) (M:d.params.defaults=[]) (t:gU k callerA)
  (B:∀(w:World) (h:Heap),r w h->(K w.params).In h)
  (F:∀(w:World) (mg:bp) (fa:Addr) (h:Heap),(K w.params).In h->h.Ns mainGlobals mg->mg d.name=some (.ref fa) ->
   ∃j:FuncData,(∀(s:Shared) (u:Value),BindsTo s j ⟨[u],[]⟩ [(x,u)]) /\
    ∀base:Heap,(K w.params).In base->base.Ns mainGlobals mg->kh l.prog w (K w.params) mg base (CX w) k fa j [x] (sp w))
  (P:∀(w:World) (H:Hp) (a:Addr) (ns:aa),ns.length<=n->HM H->dY (K w.params) H a (ns.map V.int)->sp w [.ref a] H (λv _=>v=.bl true) λ_ _ _=>False)
  (L:∀(w:World) (H:Hp) (s:Shared) (e:Value) (i:Shared),CX w [] H s (λ_ _ _=>False) e i->False) :
  PySem.W.WalkO q loose J r l.row.toRowW d [] (λf m=>PySem.call f m):=by
 refine Att.vO y M λw p c mg R fa o Q X I a m ns G Y S U Z hmg O hints hlen z=>?_;have KX:=B w _ Y;obtain⟨j,A,E⟩:=F w mg fa _ KX G.T.g hmg;exact CH KX G.T.g G.T.b G.T.builtins G.T.nolimit z O hints (aar hlen N) t E A (λH D C=>P w H a ns hlen D C) λH e i=>L w H c e i
end L2
namespace L2
open PySem PySem.Spec PyProof.Rows
noncomputable def gF(s:Stmt):Arguments:=match s with
 |.FunctionDef _ a _ _ _ _ _ _ _ _=>a
 |_=>{ posonlyargs:=[],args:=[],vararg:=none,kwonlyargs:=[],kw_defaults:=[],kwarg:=none,defaults:=[] }
noncomputable def dG(s:Stmt):aX:=match s with
 |.FunctionDef _ _ b _ _ _ _ _ _ _=>b
 |_=>[]
noncomputable def bU(s:Stmt):Scope:=match s with
 |.FunctionDef _ _ _ _ _ _ a _ _ _=>a
 |_=>{ kind:=.function,names:=[],isGenerator:=false,isCoroutine:=false }
abbrev AZ:AY:=λ_ _ _ _ _ _=>False
abbrev E0:XK:=λ_ _ _=>False
theorem Pu{X:Cx}:Passes AZ X E0:=λ_ _ _ _ _ _ _ h=>h.elim
structure HP(K:av)(x qual:Str)(st:Stmt)(f:Addr)(fd:FuncData):Prop where
 ex:∃(oc:Value) (od:Option Addr) (kV doc pm:Value) (an:Option Addr) (kv ct:Value) (Ew:Array (Option Value)),
  fd=PySem.W.fnOf x qual (gF st) (dG st) (bU st) .none kV doc pm an kv ct/\K.lookup f=some ⟨oc,od,.func fd,Ew⟩/\PySem.W.codeIn K kv qual=true
 kp:PySem.W.keepIn K (.ref f)=true
variable {ps:ak}{qual:Str}{st:Stmt}
section
variable {P:aI}{w:World}{K:av}{mg:bp}{base:Heap}
theorem HP.ok{x:Str}{f:Addr}{b:FuncData}{N:ak}{k:Nat}{sp:Sp}(F:HP K x qual st f b)(S:j7 N ps (bU st))(len:∀vs H Q E,sp vs H Q E->vs.length=ps.length)
  (j:∀(a:Value) (A:aG) (outer:List Env) (s:Shared) (H:Hp) (vs:ag) (Q:VK) (E:XK),gU k (A.deeper (envOfC qual (bU st) s.heap.objs.size f a))->sp vs H Q E ->
   ∃t,oo (xj AZ P w K mg base N qual (bU st) f a A outer s H E).PF (dG st) t/\t { nx:=λ_ g=>Q .cq g,rt:=Q } (start N vs) H):kh P w K mg base AZ (k+1) f b ps sp:=by
 obtain⟨oc,n,kV,e,m,p,a,o,r,rfl,c,l⟩:=F.ex;refine Ri c l S len λA outer s H vs Q E d i=>?_;obtain⟨t,h,q⟩:=j a A outer s H vs Q E d i;exact⟨t,h.PF,q⟩
theorem HP.binds{x:Str}{f:Addr}{g:FuncData}(F:HP K x qual st f g)
  (h:∀(kV a c:Value) (e:Option Addr) (d ct:Value) (b:au),b.length=ps.length->bindArgs (PySem.W.fnOf x qual (gF st) (dG st) (bU st) .none kV a c e d ct) ⟨b,[]⟩=pure (ps.zip b)):Binds K g ps []:=by
 obtain⟨oc,i,kV,a,c,e,d,ct,k,rfl,j,l⟩:=F.ex;exact .all (h kV a c e d ct)
theorem L7{x:Str}{f:Addr}{oc:Value}{g e:Option Addr}{h:Array (Option Value)}{kV a d b ct:Value}(l:K.lookup f=some ⟨oc,g,.func (PySem.W.fnOf x qual (gF st) (dG st) (bU st) .none kV a d e b ct),h⟩)
  (c:PySem.W.codeIn K b qual=true) (k:PySem.W.keepIn K (.ref f)=true):HP K x qual st f (PySem.W.fnOf x qual (gF st) (dG st) (bU st) .none kV a d e b ct):=⟨⟨oc,g,kV,a,d,e,b,ct,h,rfl,l,c⟩,k⟩
end
theorem IF{A:aG}{k:Nat}(a:gU k A):A.units+1<cLine:=aap (aca (by decide:1<=64) _) a.units
section
variable {X:Cx}
end
def aL(H a:Hp):Prop:=∀b o,H b=some o->a b=some o
theorem aL.refl(H:Hp):aL H H:=λ_ _ h=>h
variable {H H':Hp}
theorem aL.trans{H1 H2:Hp}(a:aL H H1)(b:aL H1 H2):aL H H2:=λc o h=>b c o (a c o h)
theorem aL.free(e:aL H H'){l:Addr}(h:H' l=Option.none):H l=Option.none:=by
 cases q:H l with
 |none=>rfl
 |some o =>
  rw[e l o q]at h;cases h
theorem aL.seq{K:av}{a:Addr}{xs:ag}(e:aL H H')(h:dY K H a xs):dY K H' a xs:=by
 rcases h with (h|⟨o,h⟩)|h
 ·exact .inl (.inl (e _ _ h))
 ·exact .inl (.inr ⟨o,e _ _ h⟩)
 ·exact .inr h
end L2
set_option autoImplicit false
set_option linter.all false
set_option Elab.async false
set_option maxRecDepth 100000
set_option maxHeartbeats 4000000
section
namespace DI
open PySem (Str Expr Stmt Scope NameKind)
inductive Fl where|ow|fz|al|sc
 deriving DecidableEq
inductive D where
 |cq|bl (b:Bool)|int (i:Int)
 |tup (ds:List D)
 |lst (f:Fl) (ds:List D)
 |cg (f:Fl) (ks:az) (vs:List D)
abbrev aH:=Option D
abbrev af:=List D
mutual
noncomputable def aO(g:Fl->Fl):D->D
 |.tup a=>.tup (aA g a)
 |.lst f a=>.lst (g f) (aA g a)
 |.cg f e c=>.cg (g f) e (aA g c)
 |.cq=>.cq
 |.bl b=>.bl b
 |.int i=>.int i
noncomputable def aA(g:Fl->Fl):af->af
 |[]=>[]
 |d::a=>aO g d::aA g a
end
theorem aW(g:Fl->Fl):∀a:af,aA g a=a.map (aO g)
 |[]=>rfl
 |d::a=>by rw[aA,aW g a];rfl
noncomputable def bt:Fl->Fl|.ow=>.al|f=>f
noncomputable def iK:Fl->Fl|.fz=>.al|f=>f
noncomputable def bo:Fl->Fl|.sc=>.sc|_=>.fz
noncomputable def vf:Fl->Bool|.sc=>true|_=>false
mutual
noncomputable def aT(p:Fl->Bool):D->Bool
 |.tup a=>aP p a
 |.lst f a=>p f||aP p a
 |.cg f c b=>p f||aP p b
 |_=>false
noncomputable def aP(p:Fl->Bool):af->Bool
 |[]=>false
 |d::a=>aT p d||aP p a
end
noncomputable def b6:Fl->Bool|.al=>true|_=>false
noncomputable def cG:Fl->Bool|.ow=>true|_=>false
noncomputable def anyF:Fl->Bool:=λ_=>true
mutual
noncomputable def mU:D->D->Bool
 |.cq,.cq=>true
 |.bl a,.bl b=>a==b
 |.bl a,.int b=>(if a then 1 else 0)==b
 |.int a,.bl b=>a==(if b then 1 else 0)
 |.int a,.int b=>a==b
 |.tup a,.tup b=>fh a b
 |.lst _ a,.lst _ b=>fh a b
 |_,_=>false
noncomputable def fh:af->af->Bool
 |[],[]=>true
 |a::as,b::bs=>mU a b&&fh as bs
 |_,_=>false
end
noncomputable def fI:Nat->D->Bool
 |_,.cq=>true
 |_,.bl _=>true
 |_,.int _=>true
 |n+1,.tup ds=>ds.all (fI n)
 |n+1,.lst _ ds=>ds.all (fI n)
 |_,_=>false
abbrev O(a:Type):=Option (Except Nat a)
abbrev aw:=af->O D
noncomputable def ok{b:Type}(a:b):O b:=some (.ok a)
noncomputable def bd{d b:Type}(x:O d)(f:d->O b):O b:=match x with
 |some (.ok a)=>f a
 |some (.error c)=>some (.error c)
 |none=>none
@[simp]theorem SU{b:Type}{a:b}:((none:O b)=ok a)=False:=by simp[ok]
@[simp]theorem Vc{c:Type}{a b:c}:(ok a=ok b)=(a=b):=by simp[ok]
@[simp]theorem Xf{b:Type}{a:b}{c:Nat}:((some (.error c):O b)=ok a)=False:=by simp[ok]
@[simp]theorem IC{c:Type}{p:Prop}[Decidable p]{a b:c}:((if p then ok a else none)=ok b)=(p/\a=b):=by
 by_cases h:p<;>simp[h]
@[simp]theorem VC{c:Type}{p:Prop}[Decidable p]{a b:c}:((if p then none else ok a)=ok b)=(¬ p/\a=b):=by
 by_cases h:p<;>simp[h]
theorem nk{b:Type}{a:b}{P:Prop}(h:(none:Option b)=some a):P:=nomatch h
theorem aD{e d:Type}{x:O e}{f:e->O d}{b:d}(h:bd x f=ok b):∃a,x=ok a/\f a=ok b:=by
 unfold bd at h
 match x,h with
 |some (.ok a),h=>exact⟨a,rfl,h⟩
 |some (.error c),h=>cases h
 |none,h=>cases h
inductive HR where|add|sub|mul|fdiv|mod|pow|shl
 deriving DecidableEq
inductive A1 where|eq|ne|lt|le|gt|ge|IB
 deriving DecidableEq
inductive Ty where|int|bool|list|tuple
 deriving DecidableEq
inductive Bf where|len|abs|list1|tuple1|eI|all1|iD
 deriving DecidableEq
inductive Tg where|nm(i:Nat)|tp(is:aK)
 deriving DecidableEq
inductive IK where|mO|seq|cm(p:Nat)
 deriving DecidableEq
inductive GK where|i(z:Int)|t(zs:aa)
 deriving DecidableEq
inductive CE where
 |cq|bl (b:Bool)|int (i:Int)|glo (x:Str) (i:Int)|glt (x:Str) (zs:aa)
 |v (i:Nat)
 |bin (op:HR) (a b:CE)
 |neg (a:CE)|not (a:CE)|and (es:List CE)|or (es:List CE)|ite (c a b:CE)
 |cmp (op:A1) (a b:CE)
 |qZ (a:CE) (t:Ty)
 |call (f:Nat) (es:List CE)
 |bf (f:Bf) (es:List CE)
 |ix (a b:CE)
 |kE (a:CE)
 |tup (es:List CE)|lst (es:List CE)
 |cm (p:Nat) (es:List CE)
 |comp (n:Nat) (t:Tg) (caps:aK) (ik:IK) (es bX:List CE) (elt:CE)
abbrev aF:=List CE
inductive CI where|mO(a:CE)|seq(a:CE)|Ks(p:Nat)(es:aF)
inductive CS where
 |asg (t:Tg) (e:CE)|par (i j:Nat) (a b:CE)|ret (e:CE)|rs (c:Nat)|ex (e:CE)
 |mut (p i:Nat) (es:aF)|mu2 (p i:Nat) (k e:CE)|unp (is:aK) (e:CE)|app (i:Nat) (e:CE)|aug (i:Nat) (op:Bool) (e:CE)
 |ifs (c:CE) (a b:List CS)
 |Js (c:CE) (b:List CS)
 |fr (t:Tg) (it:CI) (b:List CS)
abbrev ai:=List CS
abbrev br:=List (aH)
abbrev aV:=Nat->aw
noncomputable def big:Nat:=2 ^ 9000
def eu(i j:Int):Bool:=decide (i.natAbs<2 ^ 64)||decide (j.natAbs<2 ^ 64)||(decide (i.natAbs<big)&&decide (j.natAbs<big))
def rG(j:Int):Bool:=decide (j≠0)&&decide (j.natAbs<big)
noncomputable def lg(i j:Int):Bool:=decide (0<=j)&&decide (j<=1000000)&&decide (i.natAbs<2 ^ 64)
noncomputable def cE:Nat:=1000000
theorem p9{b:Type}{c:Prop}[inst:Decidable c]{v d:b}(h:(if c then ok v else none)=ok d):c/\v=d:=by
 cases inst with
 |isTrue a=>exact⟨a,Except.ok.inj (aat h)⟩
 |isFalse a=>cases h
def cL:HR->D->D->O D
 |.add,.int i,.int j=>ok (.int (i+j))
 |.add,.lst f a,.lst g b=>if vf f=false/\vf g=false/\a.length+b.length<=cE then ok (.lst .ow (aA bt (a++b)))else none
 |.add,.tup a,.tup b=>if a.length+b.length<=cE then ok (.tup (aA bt (a++b)))else none
 |.sub,.int i,.int j=>ok (.int (i - j))
 |.mul,.int i,.int j=>if eu i j then ok (.int (i*j))else none
 |.fdiv,.int i,.int j=>if rG j then ok (.int (i.fdiv j))else none
 |.mod,.int i,.int j=>if j≠0 then ok (.int (i.fmod j))else none
 |.pow,.int i,.int j=>if lg i j then ok (.int (i ^ j.toNat))else none
 |.shl,.int i,.int j=>if lg i j then ok (.int (i*2 ^ j.toNat))else none
 |_,_,_=>none
def inD(x:D):af->Bool
 |[]=>false
 |y::ys=>mU y x||inD x ys
noncomputable def i7:D->Bool
 |.cq=>true|.bl _=>true|.int _=>true|_=>false
noncomputable def Lf:D->Option (af)
 |.tup a=>some a
 |.lst _ a=>some a
 |_=>none
def fi:A1->D->D->O D
 |.eq,a,b=>if fI 40 a&&fI 40 b then ok (.bl (mU a b))else none
 |.ne,a,b=>if fI 40 a&&fI 40 b then ok (.bl (!mU a b))else none
 |.lt,.int i,.int j=>ok (.bl (decide (i<j)))
 |.le,.int i,.int j=>ok (.bl (decide (i<=j)))
 |.gt,.int i,.int j=>ok (.bl (decide (j<i)))
 |.ge,.int i,.int j=>ok (.bl (decide (j<=i)))
 |.IB,a,b=>match Lf b with
  |some c=>if i7 a&&c.all i7 then ok (.bl (inD a c))else none
  |none=>none
 |_,_,_=>none
noncomputable def dO:Ty->D->Bool
 |.int,.int _=>true|.int,.bl _=>true
 |.bool,.bl _=>true
 |.list,.lst _ _=>true
 |.tuple,.tup _=>true
 |_,_=>false
noncomputable def AN(n:Nat)(i:Int):Option Nat:=if 0<=i then(if i<n then some i.toNat else none)else if -(n:Int)<=i then some (i+n).toNat else none
def vP(ds:af)(i:Int):O D:=match(AN ds.length i).bind λj=>ds[j]? with
 |some d=>ok (aO bt d)
 |none=>none
def mq:D->D->O D
 |.tup ds,.int i=>vP ds i
 |.lst _ ds,.int i=>vP ds i
 |_,_=>none
noncomputable def intsOf:af->Option (aa)
 |[]=>some []
 |.int i::ds=>(intsOf ds).map (i :: ·)
 |_::_=>none
noncomputable def jE:af->Option (List Bool)
 |[]=>some []
 |.bl i::ds=>(jE ds).map (i :: ·)
 |_::_=>none
theorem dT:∀{ds:af} {ns:aa},intsOf ds=some ns->ds=ns.map D.int
 |[],ns,h=>by simp[intsOf]at h;subst h;rfl
 |d::ds,ns,h=>by
  cases d<;>simp[intsOf]at h;obtain⟨b,a,rfl⟩:=h;rw[dT a];rfl
theorem vM:∀{ds:af} {bs:List Bool},jE ds=some bs->ds=bs.map D.bl
 |[],bs,h=>by simp[jE]at h;subst h;rfl
 |d::ds,bs,h=>by
  cases d<;>simp[jE]at h;obtain⟨b,a,rfl⟩:=h;rw[vM a];rfl
theorem bQ:∀a:aa,intsOf (a.map D.int)=some a
 |[]=>rfl
 |n::a=>by simp[intsOf,bQ a]
theorem mC:∀bs:List Bool,jE (bs.map D.bl)=some bs
 |[]=>rfl
 |b::bs=>by simp[jE,mC bs]
noncomputable def sortI(ns:aa):aa:=ns.mergeSort (λa b=>decide (a<=b))
def um(ds:af):O D:=match intsOf ds with
 |some a=>if a.length<64 then ok (.lst .ow ((sortI a).map D.int))else none
 |none=>none
def oe:Bf->aw
 |.len,xs=>match xs with
  |[.tup ds]=>ok (.int ds.length)
  |[.lst _ ds]=>ok (.int ds.length)
  |_=>none
 |.abs,xs=>match xs with
  |[.int i]=>ok (.int (if i<0 then -i else i))
  |_=>none
 |.list1,xs=>match xs with
  |[.lst _ ds]=>ok (.lst .ow (aA bt ds))
  |[.tup ds]=>ok (.lst .ow (aA bt ds))
  |_=>none
 |.tuple1,xs=>match xs with
  |[.lst _ ds]=>ok (.tup (aA bt ds))
  |_=>none
 |.eI,xs=>match xs with
  |[.lst _ ds]=>(match intsOf ds with
   |some a=>ok (.int a.sum)
   |none=>none)
  |_=>none
 |.all1,xs=>match xs with
  |[.lst _ ds]=>(match jE ds with
   |some bs=>ok (.bl (bs.all id))
   |none=>none)
  |_=>none
 |.iD,xs=>match xs with
  |[.tup ds]=>um ds
  |_=>none
noncomputable def tx(ns:aa):aa:=ns.foldl (λ(m:aa) (k:Int)=>if m.any (· == k)then m else m++[k]) []
def yy:D->O D
 |.tup b=>(match intsOf b with
  |some a=>if a.length<4000 then ok (.int (tx a).length)else none
  |none=>none)
 |_=>none
noncomputable def iC:D->O Bool
 |.bl b=>ok b
 |_=>none
noncomputable def intD:D->O Int
 |.int i=>ok i
 |_=>none
noncomputable def Cb:Option (aH)->Option (af)
 |some (some (.lst .ow ds))=>some ds
 |_=>none
theorem FW{o:Option (aH)}{ds:af}(h:Cb o=some ds):o=some (some (.lst .ow ds)):=by
 unfold Cb at h;split at h<;>cases h;rfl
theorem Gu{d:D}{i:Int}(h:intD d=ok i):d=.int i:=by
 cases d<;>simp[intD]at h;rw[h]
noncomputable def F9:D->O D
 |.int i=>ok (.int (-i))
 |_=>none
noncomputable def fH:aK->af->br->O br
 |[],[],ρ=>ok ρ
 |i::is,d::ds,ρ=>if i<ρ.length then fH is ds (ρ.set i (some d))else none
 |_,_,_=>none
def cB:Tg->D->br->O br
 |.nm i,d,ρ=>if i<ρ.length then ok (ρ.set i (some d))else none
 |.tp is,.tup ds,ρ=>if aP cG ds then none else fH is ds ρ
 |_,_,_=>none
def oP:D->O (af)
 |.lst _ a=>ok (aA bo a)
 |_=>none
def dN(Φ:aV):IK->af->O (af)
 |.cm p,xs=>bd (Φ p xs) oP
 |.mO,[.int n]=>if n<=cE /\ -cE<=n then ok ((List.range n.toNat).map λ(k:Nat)=>D.int (k:Int))else none
 |.seq,[.tup ds]=>ok (aA bo ds)
 |.seq,[.lst _ ds]=>ok (aA bo ds)
 |_,_=>none
noncomputable def i9(bind:D->O br)(test:br->O Bool)(el:br->O D):af->O (af)
 |[]=>ok []
 |x::xs=>bd (bind x) λa=>bd (test a) λb=>if b then bd (el a) λy=>bd (i9 bind test el xs) λc=>ok (y::c)else i9 bind test el xs
def bF(n:Nat)(caps:aK)(ρ:br):br:=List.replicate n none++caps.map λi=>(ρ[i]?.getD none).map (aO bo)
def x6(o:Option (aH)):O D:=match o with
 |some (some d)=>ok (aO bt d)
 |_=>none
theorem BD{o:Option (aH)}{d:D}(h:x6 o=ok d):∃a,o=some (some a)/\d=aO bt a:=by
 cases o with
 |none=>cases h
 |some z=>cases z with
  |none=>cases h
  |some z=>cases h;exact⟨z,rfl,rfl⟩
mutual
noncomputable def bG(Φ:aV):CE->br->O D
 |.cq,_=>ok .cq
 |.bl b,_=>ok (.bl b)
 |.int i,_=>ok (.int i)
 |.glo _ i,_=>ok (.int i)
 |.glt _ zs,_=>ok (.tup (zs.map D.int))
 |.v i,ρ=>x6 ρ[i]?
 |.bin op a b,ρ=>bd (bG Φ a ρ) λx=>bd (bG Φ b ρ) λy=>cL op x y
 |.neg a,ρ=>bd (bG Φ a ρ) F9
 |.not a,ρ=>bd (bd (bG Φ a ρ) iC) λb=>ok (.bl (!b))
 |.and es,ρ=>rF Φ es ρ
 |.or es,ρ=>Am Φ es ρ
 |.ite c a b,ρ=>bd (bd (bG Φ c ρ) iC) λk=>if k then bG Φ a ρ else bG Φ b ρ
 |.cmp op a b,ρ=>bd (bG Φ a ρ) λx=>bd (bG Φ b ρ) λy=>fi op x y
 |.qZ a t,ρ=>bd (bG Φ a ρ) λx=>ok (.bl (dO t x))
 |.call f es,ρ=>bd (cJ Φ es ρ) λg=>bd (Φ f (aA bo g)) λr=>ok (aO iK r)
 |.bf f es,ρ=>bd (cJ Φ es ρ) λg=>oe f g
 |.ix a b,ρ=>bd (bG Φ a ρ) λx=>bd (bG Φ b ρ) λy=>mq x y
 |.kE a,ρ=>bd (bG Φ a ρ) λx=>yy x
 |.cm p es,ρ=>bd (cJ Φ es ρ) λg=>Φ p g
 |.tup es,ρ=>bd (cJ Φ es ρ) λg=>ok (.tup g)
 |.lst es,ρ=>bd (cJ Φ es ρ) λg=>ok (.lst .ow g)
 |.comp n t caps ik es bX elt,ρ=>bd (cJ Φ es ρ) λg=>bd (dN Φ ik g) λitems =>
   bd (i9 (λd=>cB t d (bF n caps ρ)) (λh=>i8 Φ bX h) (λh=>bG Φ elt h) items) λj=>if j.length<=cE then ok (.lst .ow (aA iK j))else none
noncomputable def cJ(Φ:aV):aF->br->O (af)
 |[],_=>ok []
 |e::es,ρ=>bd (bG Φ e ρ) λx=>bd (cJ Φ es ρ) λg=>ok (x::g)
noncomputable def i8(Φ:aV):aF->br->O Bool
 |[],_=>ok true
 |e::es,ρ=>bd (bd (bG Φ e ρ) iC) λb=>if b then i8 Φ es ρ else ok false
noncomputable def rF(Φ:aV):aF->br->O D
 |[],_=>none
 |e::es,ρ=>bd (bd (bG Φ e ρ) iC) λc=>match es with
  |[]=>ok (.bl c)
  |_::_=>if c then rF Φ es ρ else ok (.bl false)
noncomputable def Am(Φ:aV):aF->br->O D
 |[],_=>none
 |e::es,ρ=>bd (bd (bG Φ e ρ) iC) λc=>match es with
  |[]=>ok (.bl c)
  |_::_=>if c then ok (.bl true)else Am Φ es ρ
end
def vY(Φ:aV)(e:CE)(ρ:br):O Bool:=bd (bG Φ e ρ) iC
inductive Fo where|nx|rt(d:D)
noncomputable def dk{c d:Type}(n:Nat)(step:c->O (c ⊕ d))(a:c):O d:=match n with
 |0=>none
 |n+1=>bd (step a) λr=>match r with
  |.inl e=>dk n step e
  |.inr b=>ok b
open Classical in
noncomputable def fV{b c:Type}(step:b->O (b ⊕ c))(a:b):O c :=
 if h:∃n,dk n step a≠none then dk (Classical.choose h) step a else none
theorem jw{d f:Type}(step:d->O (d ⊕ f)):∀(n m:Nat) (a:d),n<=m->dk n step a≠none->dk m step a=dk n step a
 |0,_,_,_,h=>absurd rfl h
 |n+1,0,_,hl,_=>by left
 |n+1,m+1,a,hl,h=>by
  unfold dk at h ⊢
  match e:step a with
  |none=>rw[e]at h;exact absurd rfl h
  |some (.error c)=>rfl
  |some (.ok (.inr b))=>rfl
  |some (.ok (.inl a')) =>
   rw[e]at h;exact jw step n m a' (by left) h
theorem lY{b d:Type}{step:b->O (b ⊕ d)}{a:b}{n:Nat}{r:Except Nat d}(h:dk n step a=some r):fV step a=some r:=by
 have c:∃n,dk n step a≠none:=⟨n,by rw[h];simp⟩
 unfold fV;rw[dif_pos c];have e:=Classical.choose_spec c;rcases Nat.le_total n (Classical.choose c)with hl|hl
 ·rw[jw step _ _ a hl (by rw[h];simp),h]
 ·rw[<- jw step _ _ a hl e,h]
theorem mj{b c:Type}{step:b->O (b ⊕ c)}{a:b}{r:Except Nat c}(h:fV step a=some r):∃n,dk n step a=some r:=by
 unfold fV at h;split at h
 ·exact⟨_,h⟩
 ·cases h
theorem oB{c f:Type}{step:c->O (c ⊕ f)}{a e:c}(h:step a=ok (.inl e)):fV step a=fV step e:=by
 match d:fV step e with
 |some r =>
  obtain⟨n,b⟩:=mj d;refine lY (n:=n+1) ?_;unfold dk;rw[h];exact b
 |none =>
  match g:fV step a with
  |none=>rfl
  |some r =>
   obtain⟨n,b⟩:=mj g
   match n,b with
   |n+1,b =>
    unfold dk at b;rw[h]at b;rw[lY (n:=n) b]at d;cases d
theorem iB{c d:Type}{step:c->O (c ⊕ d)}{a:c}{b:d}(h:step a=ok (.inr b)):fV step a=ok b :=
 lY (n:=1) (by unfold dk;rw[h];rfl)
mutual
noncomputable def iq:CE->aK
 |.v i=>[i]
 |.bin _ a b=>iq a++iq b
 |.neg a=>iq a
 |.not a=>iq a
 |.and d=>d4 d
 |.or d=>d4 d
 |.ite c a b=>iq c++(iq a++iq b)
 |.cmp _ a b=>iq a++iq b
 |.qZ a _=>iq a
 |.call _ d=>d4 d
 |.bf _ d=>d4 d
 |.ix a b=>iq a++iq b
 |.kE a=>iq a
 |.tup d=>d4 d
 |.lst d=>d4 d
 |.cm _ d=>d4 d
 |.comp _ _ f _ d _ _=>f++d4 d
 |_=>[]
noncomputable def d4:aF->aK
 |[]=>[]
 |e::d=>iq e++d4 d
end
def kr(is:aK)(ρ:br):br:=ρ.mapIdx λi d=>if i∈is then d.map (aO bo)else d
def keep(e:CE)(d:D)(ρ:br):D×br:=if aT b6 d then(aO bo d,kr (iq e) ρ)else(d,ρ)
def jV(Φ:aV)(e:CE)(ρ:br):O (D×br):=match e with
 |.v i=>match ρ[i]? with
  |some (some d)=>if aT cG d then ok (d,ρ.set i none)else ok (d,ρ)
  |_=>none
 |_=>bd (bG Φ e ρ) λd=>ok (keep e d ρ)
def cC(Φ:aV)(it:CI)(ρ:br):O (af×br):=match it with
 |.Ks p e=>bd (cJ Φ e ρ) λc=>bd (Φ p c) λd=>bd (oP d) λitems=>ok (items,if aP b6 c then kr (d4 e) ρ else ρ)
 |.mO a=>bd (bG Φ a ρ) λx=>match x with
  |.int n=>if n<=cE /\ -cE<=n then ok ((List.range n.toNat).map λ(k:Nat)=>D.int (k:Int),ρ)else none
  |_=>none
 |.seq a=>bd (bG Φ a ρ) λx=>match x with
  |.tup b=>ok (aA bo b,if aT b6 x then kr (iq a) ρ else ρ)
  |.lst f b=>ok (aA bo b,if aT b6 x then kr (iq a) ρ else ρ)
  |_=>none
def lz(es:aF)(xs:af)(ρ:br):af×br:=if aP b6 xs then(aA bo xs,kr (d4 es) ρ)else(xs,ρ)
noncomputable def sJ(Φ:aV)(p i:Nat)(r:af×br):O (Fo×br):=match r.2[i]? with
 |some (some d)=>bd (Φ p (d::r.1)) λa=>ok (.nx,r.2.set i (some a))
 |_=>none
def Cq(Φ:aV)(p i:Nat)(ρ:br)(kd d:D):O (Fo×br):=match ρ[i]? with
 |some (some x)=>if aT anyF kd=false/\aT anyF d=false then bd (Φ p [x,kd,d]) λa=>ok (.nx,ρ.set i (some a))else none
 |_=>none
def EZ(is:aK)(d:D)(ρ:br):O br:=match d with
 |.tup a=>fH is a ρ
 |_=>none
noncomputable def d9(bind:D->br->O br)(body:br->O (Fo×br)):af->br->O (Fo×br)
 |[],ρ=>ok (.nx,ρ)
 |d::ds,ρ=>bd (bind d ρ) λa=>bd (body a) λr=>match r with
  | (.nx,ρ2)=>d9 bind body ds ρ2
  | (.rt d,ρ2)=>ok (.rt d,ρ2)
mutual
noncomputable def mT(Φ:aV):CS->br->O (Fo×br)
 |.asg t e,f=>bd (jV Φ e f) λr=>bd (cB t r.1 r.2) λg=>ok (.nx,g)
 |.par i j a b,f=>bd (bG Φ a f) λx=>bd (bG Φ b f) λy=>if aT anyF x=false/\aT anyF y=false/\i<f.length/\j<f.length then ok (.nx,(f.set i (some x)).set j (some y))else none
 |.ret e,f=>bd (jV Φ e f) λr=>ok (.rt r.1,r.2)
 |.rs c,_=>some (.error c)
 |.ex e,f=>bd (bG Φ e f) λ_=>ok (.nx,f)
 |.mut p i es,f=>bd (cJ Φ es f) λl=>sJ Φ p i (lz es l f)
 |.mu2 p i k e,f=>bd (bG Φ k f) λm=>bd (bG Φ e (f.set i none)) λd=>Cq Φ p i f m d
 |.unp is e,f=>bd (jV Φ e f) λr=>bd (EZ is r.1 r.2) λg=>ok (.nx,g)
 |.app i e,f=>bd (jV Φ e f) λr=>match Cb r.2[i]? with
  |some h=>if h.length<cE then ok (.nx,r.2.set i (some (.lst .ow (h++[r.1]))))else none
  |none=>none
 |.aug i op e,f=>bd (bd (bG Φ e f) intD) λb=>match f[i]? with
  |some (some (.int a))=>ok (.nx,f.set i (some (.int (if op then a+b else a - b))))
  |_=>none
 |.ifs c a b,f=>bd (vY Φ c f) λk=>if k then b8 Φ a f else b8 Φ b f
 |.Js c b,f=>fV (λf=>bd (vY Φ c f) λk=>if k then bd (b8 Φ b f) λr=>match r with
   | (.nx,g)=>ok (.inl g)
   | (.rt d,g)=>ok (.inr (.rt d,g))
  else ok (.inr (.nx,f))) f
 |.fr t it b,f=>bd (cC Φ it f) λr=>d9 (λd f=>cB t d f) (λf=>b8 Φ b f) r.1 r.2
noncomputable def b8(Φ:aV):ai->br->O (Fo×br)
 |[],f=>ok (.nx,f)
 |s::ss,f=>bd (mT Φ s f) λr=>match r with
  | (.nx,g)=>b8 Φ ss g
  |r=>ok r
end
noncomputable def sr(Φ:aV)(n:Nat)(b:ai)(ds:af):O D:=bd (b8 Φ b (ds.map some++List.replicate (n - ds.length) none)) λr=>match r.1 with
 |.nx=>ok .cq
 |.rt d=>ok d
noncomputable def t4:aw
 |[.lst _ a,.lst _ b]=>ok (.lst .ow (List.zipWith (λx y=>.tup [x,y]) a b))
 |_=>none
end DI
end
section
namespace DI
open PySem PySem.Spec PyProof.Rows L2
abbrev bB:=aK
abbrev St:=L2.St
abbrev mZ:=Addr->ag->Prop
inductive Nd where|l(xs:ag)|d(cs:az)(as:aS)(xs:ag)(ep:Nat)
abbrev jf:=bB->Addr->Nd->Fl->Prop
structure dZ(T:mZ)(as:aS)(cs:az):Prop where
 len:as.length=cs.length
 tup:∀(j:Nat) (a:Addr) (c:aa),as[j]?=some a->cs[j]?=some c->T a (c.map V.int)
variable {T T':mZ}
theorem dZ.imp{as:aS}{cs:az}(h:dZ T as cs)(d:∀p b,T p b->T' p b):dZ T' as cs:=⟨h.len,λj a c f e=>d _ _ (h.tup j a c f e)⟩
mutual
inductive Rep(T:mZ)(N:jf):bB->V->D->Prop where
 |cq {q:bB}:Rep T N q .cq .cq
 |bl {q:bB} (b:Bool):Rep T N q (.bl b) (.bl b)
 |int {q:bB} (i:Int):Rep T N q (.int i) (.int i)
 |tup {q:bB} {p:Addr} {xs:ag} {ds:af} (h:T p xs) (r:aE T N q 0 xs ds):Rep T N q (.ref p) (.tup ds)
 |lst {q:bB} {p:Addr} {xs:ag} {f:Fl} {ds:af} (h:N q p (.l xs) f) (r:aE T N q 0 xs ds):Rep T N q (.ref p) (.lst f ds)
 |cg {q:bB} {p:Addr} {cs:az} {as:aS} {xs:ag} {ep:Nat} {f:Fl} {ds:af} (h:N q p (.d cs as xs ep) f) (k:dZ T as cs) (r:aE T N q 0 xs ds):Rep T N q (.ref p) (.cg f cs ds)
inductive aE(T:mZ)(N:jf):bB->Nat->ag->af->Prop where
 |nil {q:bB} {n:Nat}:aE T N q n [] []
 |cons {q:bB} {n:Nat} {v:V} {d:D} {vs:ag} {ds:af} (h:Rep T N (n::q) v d) (t:aE T N q (n+1) vs ds):aE T N q n (v::vs) (d::ds)
end
variable {N:jf}{ds ds' items:af}
theorem Rep.Ju{q:bB}{v:V}(h:Rep T N q v (.tup ds)):∃p c,v=.ref p/\T p c/\aE T N q 0 c ds:=by
 cases h with
 |tup a b=>exact⟨_,_,rfl,a,b⟩
theorem Rep.rR{q:bB}{v:V}{f:Fl}(h:Rep T N q v (.lst f ds)):∃p c,v=.ref p/\N q p (.l c) f/\aE T N q 0 c ds:=by
 cases h with
 |lst a b=>exact⟨_,_,rfl,a,b⟩
mutual
theorem sW:∀d:D,aT (λ_=>false) d=false
 |.cq=>rfl
 |.bl _=>rfl
 |.int _=>rfl
 |.tup ds=>ig ds
 |.lst _ ds=>ig ds
 |.cg _ _ ds=>ig ds
theorem ig:∀ds:af,aP (λ_=>false) ds=false
 |[]=>rfl
 |d::ds=>by show(aT _ d||aP _ ds)=false;rw[sW d,ig ds];rfl
end
theorem KD{a b:Bool}(h:(a||b)=false):a=false/\b=false:=by cases a<;>cases b<;>first|exact⟨rfl,rfl⟩|cases h
variable {k' q':bB}{vs xs xs' ys:ag}
section
variable {T T':mZ}{N N':jf}{g:Fl->Fl}{P:Fl->Bool}{C:bB->bB->Prop}{I:Nat->Nat->Prop}
mutual
theorem Rep.gen(j:∀p xs,T p xs->T' p xs)(a:I 0 0)(m:∀n n',I n n'->I (n+1) (n'+1))(o:∀k k' n n',C k k'->I n n'->C (n::k) (n'::k'))(l:∀k k' p xs f,C k k'->P f=false->N k p xs f->N' k' p xs (g f)):
  ∀{k:bB} {v:V} {d:D},Rep T N k v d->∀{k':bB},C k k'->aT P d=false->Rep T' N' k' v (aO g d)
 |_,_,_,.cq,_,_,_=>.cq
 |_,_,_,.bl b,_,_,_=>.bl b
 |_,_,_,.int i,_,_,_=>.int i
 |_,_,_,.tup h r,_,c,e=>.tup (j _ _ h) (aE.gen j a m o l r c a e)
 |_,_,_,.lst h r,_,c,e=>.lst (l _ _ _ _ _ c (KD e).1 h) (aE.gen j a m o l r c a (KD e).2)
 |_,_,_,.cg h k r,_,c,e=>.cg (l _ _ _ _ _ c (KD e).1 h) (k.imp j) (aE.gen j a m o l r c a (KD e).2)
theorem aE.gen(j:∀p xs,T p xs->T' p xs)(a:I 0 0)(m:∀n n',I n n'->I (n+1) (n'+1))(o:∀k k' n n',C k k'->I n n'->C (n::k) (n'::k'))(l:∀k k' p xs f,C k k'->P f=false->N k p xs f->N' k' p xs (g f)):
  ∀{k:bB} {n:Nat} {vs:ag} {ds:af},aE T N k n vs ds->∀{k':bB} {n':Nat},C k k'->I n n'->aP P ds=false->aE T' N' k' n' vs (aA g ds)
 |_,_,_,_,.nil,_,_,_,_,_=>.nil
 |_,_,_,_,.cons h t,_,_,c,i,e=>.cons (Rep.gen j a m o l h (o _ _ _ _ c i) (KD e).1) (aE.gen j a m o l t c (m _ _ i) (KD e).2)
end
theorem Rep.map{q:bB}(j:∀p xs,T p xs->T' p xs)(l:∀c p xs f,N (c++q) p xs f->N' (c++q') p xs (g f)){k:bB}{v:V}{d:D}(h:Rep T N k v d)(c:bB)(e:k=c++q):Rep T' N' (c++q') v (aO g d) :=
 Rep.gen (P:=λ_=>false) (C:=λk k'=>∃c,k=c++q/\k'=c++q') (I:=λn i=>n=i) j rfl (λ_ _ e=>by rw[e]) (λ_ _ n _ ⟨c,b,a⟩ e=>⟨n::c,by rw[b];rfl,by rw[a,<- e];rfl⟩) (λ_ _ p xs f ⟨c,b,a⟩ _ h=>by subst b;subst a;exact l c p xs f h) h ⟨c,e,rfl⟩ (sW d)
theorem aE.map{q:bB}(i:∀p xs,T p xs->T' p xs)(j:∀c p xs f,N (c++q) p xs f->N' (c++q') p xs (g f)){k:bB}{n:Nat}(h:aE T N k n vs ds)(c:bB)(e:k=c++q):aE T' N' (c++q') n vs (aA g ds) :=
 aE.gen (P:=λ_=>false) (C:=λk k'=>∃c,k=c++q/\k'=c++q') (I:=λn d=>n=d) i rfl (λ_ _ e=>by rw[e]) (λ_ _ n _ ⟨c,b,a⟩ e=>⟨n::c,by rw[b];rfl,by rw[a,<- e];rfl⟩) (λ_ _ p xs f ⟨c,b,a⟩ _ h=>by subst b;subst a;exact j c p xs f h) h ⟨c,e,rfl⟩ rfl (ig ds)
theorem Rep.jv(a:∀p xs,T p xs->T' p xs)(b:∀k k' p xs f,N k p xs f->N' k' p xs (g f)){k:bB}{v:V}{d:D}(h:Rep T N k v d)(k':bB):Rep T' N' k' v (aO g d) :=
 Rep.gen (P:=λ_=>false) (C:=λ_ _=>True) (I:=λ_ _=>True) a trivial (λ_ _ e=>e) (λ_ _ _ _ e _=>e) (λk k' p xs f _ _ h=>b k k' p xs f h) h trivial (sW d)
theorem aE.jv(a:∀p xs,T p xs->T' p xs)(b:∀k k' p xs f,N k p xs f->N' k' p xs (g f)){k:bB}{n:Nat}(h:aE T N k n vs ds)(k':bB)(n':Nat):aE T' N' k' n' vs (aA g ds) :=
 aE.gen (P:=λ_=>false) (C:=λ_ _=>True) (I:=λ_ _=>True) a trivial (λ_ _ e=>e) (λ_ _ _ _ e _=>e) (λk k' p xs f _ _ h=>b k k' p xs f h) h trivial trivial (ig ds)
end
mutual
theorem eC:∀d:D,aO id d=d
 |.cq=>rfl
 |.bl _=>rfl
 |.int _=>rfl
 |.tup ds=>by rw[aO,ff ds]
 |.lst f ds=>by rw[aO,ff ds];rfl
 |.cg f a vs=>by rw[aO,ff vs];rfl
theorem ff:∀ds:af,aA id ds=ds
 |[]=>rfl
 |d::ds=>by rw[aA,eC d,ff ds]
end
section
variable {T T':mZ}{N N':jf}
theorem Rep.imp{q:bB}(a:∀p xs,T p xs->T' p xs)(b:∀c p xs f,N (c++q) p xs f->N' (c++q') p xs f){v:V}{d:D}(h:Rep T N q v d):Rep T' N' q' v d:=by
 have:=Rep.map (g:=id) a b h [] rfl;rw[eC]at this;exact this
theorem aE.imp{q:bB}{n:Nat}(a:∀p xs,T p xs->T' p xs)(b:∀c p xs f,N (c++q) p xs f->N' (c++q') p xs f)(h:aE T N q n vs ds):aE T' N' q' n vs ds:=by
 have:=aE.map (g:=id) a b h [] rfl;rw[ff]at this;exact this
theorem aE.length:∀{k:bB} {n:Nat} {vs:ag} {ds:af},aE T N k n vs ds->vs.length=ds.length
 |_,_,_,_,.nil=>rfl
 |_,_,_,_,.cons _ t=>by simp[aE.length t]
theorem aE.get:∀{k:bB} {n j:Nat} {vs:ag} {ds:af} {d:D},aE T N k n vs ds->ds[j]?=some d->∃v,vs[j]?=some v/\Rep T N ((n+j)::k) v d
 |_,_,_,_,_,_,.nil,e=>by simp at e
 |_,_,0,_,_,_,.cons h t,e=>by simp at e;subst e;exact⟨_,rfl,h⟩
 |_,n,j+1,_,_,_,.cons h t,e=>by
  obtain⟨v,b,a⟩:=aE.get (j:=j) t (by simpa using e);refine⟨v,by simpa using b,?_⟩;have:n+1+j=n+(j+1):=by left
  rw[<- this];exact a
theorem aE.Ai:∀{k:bB} {n j:Nat} {vs:ag} {ds:af} {v:V},aE T N k n vs ds->vs[j]?=some v->∃d,ds[j]?=some d/\Rep T N ((n+j)::k) v d
 |_,_,_,_,_,_,.nil,e=>by simp at e
 |_,_,0,_,_,_,.cons h t,e=>by simp at e;subst e;exact⟨_,rfl,h⟩
 |_,n,j+1,_,_,_,.cons h t,e=>by
  obtain⟨v,b,a⟩:=aE.Ai (j:=j) t (by simpa using e);refine⟨v,by simpa using b,?_⟩;have:n+1+j=n+(j+1):=by left
  rw[<- this];exact a
theorem aE.tQ{k:bB}(a:∀k k' p xs f,N k p xs f->N k' p xs f):∀{n m l:Nat} {vs ws:ag} {ds es:af},aE T N k n vs ds->aE T N k m ws es->aE T N k l (vs++ws) (ds++es)
 |_,_,_,_,_,_,_,.nil,t=>by
  have:=aE.jv (T':=T) (N':=N) (g:=id) (λ_ _ h=>h) a t;rw[ff]at this;exact this _ _
 |_,_,_,_,_,_,_,.cons h t,u=>.cons (by
  have:=Rep.jv (T':=T) (N':=N) (g:=id) (λ_ _ h=>h) a h;rw[eC]at this;exact this _) (aE.tQ a t u)
end
def KL(K:av)(a:Addr)(xs:ag):Prop :=
 ∃(o:Obj) (b:aN) (n:Nat),K.lookup a=some o/\o.cls=.type "list" /\ o.dict=none/\o.data=.seq b n/\b.size<=sizeLine/\Vals xs b.toList
def DO(p:Addr)(cs:az)(as:aS)(xs:ag)(ep:Nat)(h:Heap):Prop :=
 ∃(zs:List (aa×Addr×Value)) (o:Obj) (es:Array DictEntry),zs.map (·.1)=cs/\zs.map (·.2.1)=as/\Vals xs (zs.map (·.2.2))/\h.get? p=some o/\o.ExactDict/\o.data=.dict es ep /\
  es.toList=zs.map (λz=>⟨reduceHash (Builtin.Tuple.tupleHashOf (z.1.map hashInt)),.ref z.2.1,z.2.2⟩)/\cs.Nodup/\cs.length<=sizeLine/\(p==sysModules)=false
abbrev eH(H:Hp)(p:Addr)(n:Nd):Prop:=match n with
 |.l xs=>H p=some (.lst xs)
 |.d b as xs a=>H p=some (.ext (DO p b as xs a))
variable {H H' H1 H2:Hp}
theorem eH.ne{p:Addr}{n:Nd}(h:eH H p n):H p≠none:=by
 cases n with
 |l xs=>intro z;rw[show H p=some (.lst xs) from h]at z;cases z
 |d b as xs a=>intro z;rw[show H p=some (.ext (DO p b as xs a)) from h]at z;cases z
theorem eH.at{p:Addr}{n:Nd}(e:∀o,H p=some o->H' p=some o)(h:eH H p n):eH H' p n:=by
 cases n with
 |l xs=>exact e _ h
 |d b as xs a=>exact e _ h
theorem eH.same{p:Addr}{n:Nd}(e:aL H H')(h:eH H p n):eH H' p n:=h.at (e p)
theorem eH.some{H:Hp}{p:Addr}{n:Nd}(h:eH H p n):∃o,H p=some o/\(∀xs,o≠.tup xs)/\(∀a u,o≠.kr a u):=by
 cases n with
 |l xs=>exact⟨_,h,λ_ z=>(nomatch z),λ_ _ z=>(nomatch z)⟩
 |d c as xs b=>exact⟨_,h,λ_ z=>(nomatch z),λ_ _ z=>(nomatch z)⟩
def nd(K:av)(R A:aj)(a:Addr->Option bB)(H:Hp):jf:=λq p n f=>match f with
 |.ow=>eH H p n/\a p=some q
 |.fz=>eH H p n/\R p
 |.al=>eH H p n/\A p
 |.sc=>match n with
  |.l xs=>(∃o,H p=some (.kr o (.lst xs)))\/KL K p xs
  |.d _ _ _ _=>False
variable {A F G R R' R1:Addr->Prop}{K:av}{τ τ' τt:Addr->Option bB}
theorem nd.BJ{q:bB}{p:Addr}{n:Nd}(h:nd K R A τ H q p n .sc):∃xs,n=.l xs/\((∃o,H p=some (.kr o (.lst xs)))\/KL K p xs):=by
 cases n with
 |l xs=>exact⟨xs,rfl,h⟩
 |d _ _ _ _=>exact h.elim
theorem nd.sq{q:bB}{p:Addr}{f:Fl}(h:nd K R A τ H q p (.l xs) f):dY K H p xs:=by
 cases f with
 |ow=>exact dY.of h.1
 |fz=>exact dY.of h.1
 |al=>exact dY.of h.1
 |sc=>exact h.elim (λh=>.inl (.inr h)) .inr
theorem nd.lst{K:av}{R A:aj}{τ:Addr->Option bB}{H:Hp}{q:bB}{p:Addr}{xs:ag}{f:Fl}(h:nd K R A τ H q p (.l xs) f)(a:vf f=false):H p=some (.lst xs):=by
 cases f with
 |ow=>exact h.1
 |fz=>exact h.1
 |al=>exact h.1
 |sc=>cases a
variable {ep k1 k2 n1 t':Nat}
theorem nd.dat{q:bB}{p:Addr}{cs:az}{as:aS}{f:Fl}(h:nd K R A τ H q p (.d cs as xs ep) f):H p=some (.ext (DO p cs as xs ep)):=by
 cases f with
 |ow=>exact h.1
 |fz=>exact h.1
 |al=>exact h.1
 |sc=>exact h.elim
theorem Rd.same{a:Addr}{u:HO}(e:aL H H')(h:Rd H a u):Rd H' a u:=h.elim (λh=>.inl (e _ _ h)) λ⟨o,h⟩=>.inr ⟨o,e _ _ h⟩
theorem a_.same{K:av}{H H':Hp}{a:Addr}{xs:ag}(e:aL H H')(h:a_ K H a xs):a_ K H' a xs:=h.elim (λh=>.inl (Rd.same e h)) .inr
theorem nd.same{K:av}{R A:aj}{τ:Addr->Option bB}{H H':Hp}{q:bB}{p:Addr}{n:Nd}{f:Fl}(e:aL H H')(h:nd K R A τ H q p n f):nd K R A τ H' q p n f:=by
 cases f with
 |ow=>exact⟨h.1.same e,h.2⟩
 |fz=>exact⟨h.1.same e,h.2⟩
 |al=>exact⟨h.1.same e,h.2⟩
 |sc=>cases n with
  |l xs=>exact h.elim (λ⟨o,h⟩=>.inl ⟨o,e _ _ h⟩) .inr
  |d _ _ _ _=>exact h.elim
theorem Rd.there{a:Addr}{u:HO}(h:Rd H a u):H a≠none:=by
 rcases h with h|⟨o,h⟩<;>(rw[h];simp)
theorem aL.ne(e:aL H H'){a:Addr}(h:H a≠none):H' a≠none:=by
 cases q:H a with
 |none=>exact absurd q h
 |some o=>rw[e a o q];simp
structure SI(X:Cx)(F R:aj)(τ:Addr->Option bB)(ρ:br)(σ:St)(H:Hp):Prop where
 len:ρ.length=σ.length
 rep:∀(i:Nat) (d:D),ρ[i]?=some (some d)->∃v,σ[i]?=some (some v)/\Rep (a_ X.K H) (nd X.K R (λ_=>False) τ H) [i] v d
 rt:∀p,R p->τ p=none
 rh:∀p,R p->H p≠none
 rf:∀p,R p->F p\/X.H₀ p=none
 th:∀p q,τ p=some q->H p≠none
 t0:∀p q,τ p=some q->X.H₀ p=none
 same:aL X.H₀ H
variable {X:Cx}{ρ:br}{σ:L2.St}
theorem SI.go(S:SI X F R τ ρ σ H)(e:aL H H'):SI X F R τ ρ σ H' :=
 ⟨S.len,λi d h=>let ⟨v,h1,h2⟩:=S.rep i d h;⟨v,h1,h2.imp (λ_ _ h=>a_.same e h) λ_ _ _ _ h=>nd.same e h⟩,S.rt,λp h=>aL.ne e (S.rh p h),S.rf,λp q h=>aL.ne e (S.th p q h),S.t0,S.same.trans e⟩
def kL(G:aj)(τ:Addr->Option bB)(fv:aK)(p:Addr):Prop:=G p/\∀c i,τ p=some (c++[i])->i∈fv
variable {caps fv fv' is:aK}
theorem kL.mono{p:Addr}(h:kL G τ fv p)(hs:∀i∈fv,i∈fv'):kL G τ fv' p:=⟨h.1,λc i e=>hs i (h.2 c i e)⟩
def gP(X:Cx)(F:aj)(p:Addr):Prop:=F p\/X.H₀ p=none
def cu(K:av)(G R:aj)(τ:Addr->Option bB)(fv:aK)(H H':Hp)(v:V)(d:D):Prop :=
 ∃τt:Addr->Option bB,(∀p q,τt p=some q->H p=none)/\Rep (a_ K H') (nd K R (kL G τ fv) τt H') [] v d
def cP(K:av)(G R:aj)(τ:Addr->Option bB)(fv:aK)(H H':Hp)(vs:ag)(ds:af):Prop :=
 ∃τt:Addr->Option bB,(∀p q,τt p=some q->H p=none)/\aE (a_ K H') (nd K R (kL G τ fv) τt H') [] 0 vs ds
section
variable {K:av}{G R:aj}{τ:Addr->Option bB}{fv fv':aK}{H H1 H2:Hp}{v:V}{d:D}{vs:ag}{ds:af}
theorem cu.go(h:cu K G R τ fv H H1 v d)(e:aL H1 H2):cu K G R τ fv H H2 v d :=
 let ⟨τt,h1,h2⟩:=h;⟨τt,h1,h2.imp (λ_ _ h=>a_.same e h) λ_ _ _ _ h=>nd.same e h⟩
theorem nd.mono{A':Addr->Prop}{τ:Addr->Option bB}{q:bB}{p:Addr}{xs:Nd}{f:Fl}(h:nd K R A τ H q p xs f)(hR:R p->R' p)(b:A p->A' p)(a:τ p=some q->τ' p=some q'):nd K R' A' τ' H q' p xs f:=by
 cases f with
 |ow=>exact⟨h.1,a h.2⟩
 |fz=>exact⟨h.1,hR h.2⟩
 |al=>exact⟨h.1,b h.2⟩
 |sc=>exact h
theorem cu.mono(h:cu K G R τ fv H H1 v d)(hs:∀i∈fv,i∈fv'):cu K G R τ fv' H H1 v d :=
 let ⟨τt,h1,h2⟩:=h;⟨τt,h1,h2.imp (λ_ _ h=>h) λ_ _ _ _ h=>h.mono id (λh=>h.mono hs) id⟩
theorem cP.mono(h:cP K G R τ fv H H1 vs ds)(hs:∀i∈fv,i∈fv'):cP K G R τ fv' H H1 vs ds :=
 let ⟨τt,h1,h2⟩:=h;⟨τt,h1,h2.imp (λ_ _ h=>h) λ_ _ _ _ h=>h.mono id (λh=>h.mono hs) id⟩
theorem cu.old{a:Hp}(h:cu K G R τ fv H H1 v d)(e:aL a H):cu K G R τ fv a H1 v d :=
 let ⟨τt,h1,h2⟩:=h;⟨τt,λp q z=>e.free (h1 p q z),h2⟩
theorem cu.int{i:Int}:cu K G R τ fv H H1 (.int i) (.int i):=⟨λ_=>none,λ_ _ h=>by simp at h,.int i⟩
theorem cu.bl{b:Bool}:cu K G R τ fv H H1 (.bl b) (.bl b):=⟨λ_=>none,λ_ _ h=>by simp at h,.bl b⟩
theorem cu.cq:cu K G R τ fv H H1 .cq .cq:=⟨λ_=>none,λ_ _ h=>by simp at h,.cq⟩
theorem cu.isInt{i:Int}(h:cu K G R τ fv H H1 v (.int i)):v=.int i:=by obtain⟨_,_,h⟩:=h;cases h;rfl
theorem cu.zZ{i:Bool}(h:cu K G R τ fv H H1 v (.bl i)):v=.bl i:=by obtain⟨_,_,h⟩:=h;cases h;rfl
noncomputable def r_:bB->bB
 |[]=>[]
 |[n]=>[n+1]
 |a::b::r=>a::r_ (b::r)
theorem uo(c:bB)(n:Nat):r_ (c++[n])=c++[n+1]:=by
 induction c with
 |nil=>rfl
 |cons a c e =>
  cases c with
  |nil=>rfl
  |cons b c=>show a::r_ (b::c++[n])=_;rw[e];rfl
theorem aE.shift{T:mZ}{N N':jf}(a:∀c n p xs f,N (c++[n]) p xs f->N' (c++[n+1]) p xs f):∀{n:Nat} {vs:ag} {ds:af},aE T N [] n vs ds->aE T N' [] (n+1) vs ds
 |_,_,_,.nil=>.nil
 |n,_,_,.cons h t=>.cons (h.imp (q:=[n]) (q':=[n+1]) (λ_ _ h=>h) λc p xs f h=>a c n p xs f h) (aE.shift a t)
theorem cP.nil:cP K G R τ fv H H1 [] []:=⟨λ_=>none,λ_ _ h=>by simp at h,.nil⟩
open Classical in
theorem cP.cons(s:aL H H1)(j:aL H1 H2)(h:cu K G R τ fv H H1 v d)(t:cP K G R τ fv H1 H2 vs ds):cP K G R τ fv H H2 (v::vs) (d::ds):=by
 obtain⟨a,r,m⟩:=h;obtain⟨g,o,l⟩:=t;refine⟨λp=>if H1 p=none then(g p).map r_ else(a p).map (· ++ [0]),λp q i=>?_,.cons (m.imp (q':=[0]) (λ_ _ h=>a_.same j h) λc p xs f h=>?_) (aE.shift (λc n p xs f h=>?_) l)⟩
 ·by_cases b:H1 p=none
  ·exact s.free b
  ·simp only[b,if_false]at i;cases q1:a p with
   |none=>rw[q1]at i;simp at i
   |some k=>exact r p k q1
 ·have e:nd K R (kL G τ fv) a H2 (c++[]) p xs f:=nd.same j h;cases f with
  |ow =>
   have b:H1 p≠none:=h.1.ne;refine⟨e.1,?_⟩;simp only[b,if_false];rw[h.2];simp
  |fz=>exact e
  |al=>exact e
  |sc=>exact e
 ·cases f with
  |ow =>
   have b:H1 p=none:=o p _ h.2;refine⟨h.1,?_⟩;simp only[b,if_true];rw[h.2];simp[uo]
  |fz=>exact h
  |al=>exact h
  |sc=>exact h
end
def tD(X:Cx)(F:aj)(Φ:aV)(c:CE):TE:=λσ H Q=>∃R τ ρ d,SI X F R τ ρ σ H/\bG Φ c ρ=ok d/\∀v H',aL H H'->cu X.K (gP X F) R τ (iq c) H H' v d->Q v H'
def tU(X:Cx)(F:aj)(Φ:aV)(cs:aF):TA:=λσ H Q=>∃R τ ρ ds,SI X F R τ ρ σ H/\cJ Φ cs ρ=ok ds/\∀vs H',aL H H'->cP X.K (gP X F) R τ (d4 cs) H H' vs ds->Q vs H'
def gy(X:Cx)(F:aj)(Φ:aV)(c:CE):TT:=λσ H Q=>∃R τ ρ b,SI X F R τ ρ σ H/\vY Φ c ρ=ok b/\∀H',aL H H'->Q b H'
theorem PE.imp{e:Expr}{t t':TE}(h:PE X e t)(a:∀σ H Q,t' σ H Q->t σ H Q):PE X e t':=λpins s σ H Q I hw=>h pins s σ H Q I (a σ H Q hw)
theorem PT.imp{e:Expr}{t t':TT}(h:PT X e t)(a:∀σ H Q,t' σ H Q->t σ H Q):PT X e t':=λpins s σ H Q I hw=>h pins s σ H Q I (a σ H Q hw)
theorem PW.imp{e:Expr}{t t':TT}(h:PW X e t)(b:∀σ H Q,t' σ H Q->t σ H Q):PW X e t':=λa pins s σ H Q I hw=>h a pins s σ H Q I (b σ H Q hw)
theorem PA.imp{es:aq}{t t':TA}(h:PA X es t)(b:∀σ H Q,t' σ H Q->t σ H Q):PA X es t':=λa pins s σ H Q I hw=>h a pins s σ H Q I (b σ H Q hw)
variable {st:Stmt}
theorem PS.imp{t t':TS}(h:PS X st t)(a:∀D σ H,t' D σ H->t D σ H):PS X st t':=λpins s σ H D I hw=>h pins s σ H D I (a D σ H hw)
theorem oo.imp{st:aX}{t t':TS}(h:oo X st t)(a:∀D σ H,t' D σ H->t D σ H):oo X st t':=λpins s σ H D I hw=>h pins s σ H D I (a D σ H hw)
theorem pL:∀(as bs:af),fh as bs=true ↔ as.length=bs.length/\∀(j:Nat) (a b:D),as[j]?=some a->bs[j]?=some b->mU a b=true
 |[],[]=>by simp[fh]
 |[],b::bs=>by simp[fh]
 |a::as,[]=>by simp[fh]
 |a::as,b::bs=>by
  rw[fh,Bool.and_eq_true,pL as bs];constructor
  ·rintro ⟨g,f,e⟩;refine⟨by simp[f],λj x y d c=>?_⟩;cases j with
   |zero=>simp at d c;subst d c;exact g
   |succ j=>exact e j x y (by simpa using d) (by simpa using c)
  ·rintro ⟨f,e⟩;exact⟨e 0 a b rfl rfl,by simpa using f,λj x y d c=>e (j+1) x y (by simpa using d) (by simpa using c)⟩
def Rq(as bs:af)(j:Nat):Bool:=match as[j]?,bs[j]? with
 |some a,some b=>mU a b
 |_,_=>false
theorem kH(as bs:af):((List.range (min as.length bs.length)).all (Rq as bs)&&as.length==bs.length)=fh as bs:=by
 rw[Bool.eq_iff_iff,pL,Bool.and_eq_true,List.all_eq_true,beq_iff_eq];constructor
 ·rintro ⟨f,e⟩;refine⟨e,λj a b c d=>?_⟩;have g:j<as.length:=by
   by_cases h:j<as.length
   ·exact h
   ·rw[List.getElem?_eq_none (by left)]at c;cases c
  have:=f j (by rw[List.mem_range];left);unfold Rq at this;rw[c,d]at this;exact this
 ·rintro ⟨e,f⟩;refine⟨λj g=>?_,e⟩;rw[List.mem_range]at g;unfold Rq;have c:as[j]?=some as[j]:=aas (by left);have d:bs[j]?=some bs[j]:=aas (by left);rw[c,d];exact f j _ _ c d
section
variable {X:Cx}{pins:ao}{σ:St}{H:Hp}{s:Shared}{N N':jf}
theorem fL{n:Nat}(h:fI n (.tup ds)=true):∃m,n=m+1/\∀d∈ds,fI m d=true:=by
 cases n with
 |zero=>cases h
 |succ m=>exact⟨m,rfl,List.all_eq_true.mp h⟩
theorem fM{n:Nat}{f:Fl}(h:fI n (.lst f ds)=true):∃m,n=m+1/\∀d∈ds,fI m d=true:=by
 cases n with
 |zero=>cases h
 |succ m=>exact⟨m,rfl,List.all_eq_true.mp h⟩
theorem yB(I:Inv X pins σ H s){p:Addr}(h:dY X.K H p xs)(h':a_ X.K H p ys):False:=by
 obtain⟨c,_,b,_⟩:=I.list h;obtain⟨a,_,pt,_⟩:=I.tuple h';exact SeqAt.ne_of_list_tuple b.isList pt rfl
theorem BG(I:Inv X pins σ H s)(x:∀q p xs f,N q p (.l xs) f->dY X.K H p xs)(z:∀q p xs f,N' q p (.l xs) f->dY X.K H p xs):
  ∀(n:Nat) {k k':bB} {v:V} {d d':D},Rep (a_ X.K H) N k v d->Rep (a_ X.K H) N' k' v d'->fI n d=true->fI n d'=true->mU d d'=true:=by
 intro n;induction n with
 |zero =>
  intro k k' v d d' h c e g;cases h with
  |cq=>cases c;rfl
  |bl b=>cases c;exact abX b
  |int i=>cases c;exact abX i
  |tup _ _=>obtain⟨m,t,_⟩:=fL e;left
  |lst _ _=>obtain⟨m,t,_⟩:=fM e;left
  |cg _ _=>cases e
 |succ n B =>
  have sub:∀{q q':bB} {xs:ag} {ds ds':af},aE (a_ X.K H) N q 0 xs ds->aE (a_ X.K H) N' q' 0 xs ds'->(∀d∈ds,fI n d=true)->(∀d∈ds',fI n d=true)->fh ds ds'=true:=by
   intro q q' xs ds ds' r o e g;rw[pL];refine⟨by rw[<- r.length,<- o.length],λj a b w u=>?_⟩;obtain⟨J,C,r1⟩:=r.get w;obtain⟨E,y,r2⟩:=o.get u;rw[C]at y;cases y;exact B r1 r2 (e a (aaz w)) (g b (aaz u))
  intro k k' v d d' h c e g;cases h with
  |cq=>cases c;rfl
  |bl b=>cases c;exact abX b
  |int i=>cases c;exact abX i
  |tup h r =>
   obtain⟨m,t,e⟩:=fL e;obtain rfl:n=m:=by left
   cases c with
   |tup c o =>
    obtain⟨m,t,g⟩:=fL g;obtain rfl:n=m:=by left
    obtain rfl:=I.qG h c;exact sub r o e g
   |lst c o=>exact(yB I (z _ _ _ _ c) h).elim
   |cg _ _=>cases g
  |lst h r =>
   obtain⟨m,t,e⟩:=fM e;obtain rfl:n=m:=by left
   cases c with
   |tup c o=>exact(yB I (x _ _ _ _ h) c).elim
   |lst c o =>
    obtain⟨m,t,g⟩:=fM g;obtain rfl:n=m:=by left
    obtain rfl:=I.lr (x _ _ _ _ h) (z _ _ _ _ c);exact sub r o e g
   |cg _ _=>cases g
  |cg _ _=>cases e
structure Alike(A:aG)(s:Shared)(u u':Value)(b:Bool):Prop where
 eq:SeqAt.EqAt A s u u' b
 rc:SeqAt.RcAt A s u u' b
 ne:SeqAt.RcNeAt A s u u' (!b)
theorem alike(I:Inv X pins σ H s)(hN:∀q p xs f,N q p (.l xs) f->dY X.K H p xs)(P:∀q p xs f,N' q p (.l xs) f->dY X.K H p xs):
  ∀(n:Nat) (A:aG) {k k':bB} {v Z:V} {u u':Value} {d d':D},Rep (a_ X.K H) N k v d->Rep (a_ X.K H) N' k' Z d'->fI n d=true->fI n d'=true->RelV v u->RelV Z u'->A.units+n<cLine ->
   Alike A s u u' (mU d d'):=by
 intro n;induction n with
 |zero =>
  intro A k k' v Z u u' d d' h g E o r e hu;cases h with
  |tup _ _=>obtain⟨m,y,_⟩:=fL E;left
  |lst _ _=>obtain⟨m,y,_⟩:=fM E;left
  |cg _ _=>cases E
  |cq =>
   cases r;cases g with
   |tup _ _=>obtain⟨m,y,_⟩:=fL o;left
   |lst _ _=>obtain⟨m,y,_⟩:=fM o;left
   |cg _ _=>cases o
   |cq=>cases e;exact⟨abI _,SeqAt.RcAt.none_none,SeqAt.RcNeAt.none_none⟩
   |bl b=>cases e;exact⟨ab2 b,SeqAt.RcAt.none_bool b,SeqAt.RcNeAt.none_bool b⟩
   |int b=>obtain⟨t,rfl⟩:=e;exact⟨ab7 b t,SeqAt.RcAt.none_int b t,SeqAt.RcNeAt.none_int b t⟩
  |bl a =>
   cases r;cases g with
   |tup _ _=>obtain⟨m,y,_⟩:=fL o;left
   |lst _ _=>obtain⟨m,y,_⟩:=fM o;left
   |cg _ _=>cases o
   |cq=>cases e;exact⟨ab4 a,SeqAt.RcAt.bool_none a,SeqAt.RcNeAt.bool_none a⟩
   |bl b=>cases e;exact⟨ab5 a b,SeqAt.RcAt.bool_bool a b,SeqAt.RcNeAt.bool_bool a b⟩
   |int b=>obtain⟨t,rfl⟩:=e;exact⟨ab8 a b t,SeqAt.RcAt.bool_int a b t,SeqAt.RcNeAt.bool_int a b t⟩
  |int a =>
   obtain⟨t',rfl⟩:=r;cases g with
   |tup _ _=>obtain⟨m,y,_⟩:=fL o;left
   |lst _ _=>obtain⟨m,y,_⟩:=fM o;left
   |cg _ _=>cases o
   |cq=>cases e;exact⟨ab9 a t',SeqAt.RcAt.int_none a t',SeqAt.RcNeAt.int_none a t'⟩
   |bl b=>cases e;exact⟨ab_ a t' b,SeqAt.RcAt.int_bool a t' b,SeqAt.RcNeAt.int_bool a t' b⟩
   |int b=>obtain⟨t,rfl⟩:=e;exact⟨abL a t' b t,SeqAt.RcAt.int_int a t' b t,SeqAt.RcNeAt.int_int a t' b t⟩
 |succ n ih =>
  intro A k k' v Z u u' d d' h g E o r e hu;have c:A.units<cLine:=by left
  have VO:A.in1.units+n<cLine:=by show A.units+1+n<cLine;left
  have sub:∀{q q':bB} {xs xs':ag} {ds ds':af} {w its':au},aE (a_ X.K H) N q 0 xs ds->aE (a_ X.K H) N' q' 0 xs' ds'->(∀d∈ds,fI n d=true)->(∀d∈ds',fI n d=true)->Vals xs w->Vals xs' its' ->
    ∀(j:Nat) (h1:j<w.toArray.size) (h2:j<its'.toArray.size),SeqAt.EqAt A.in1 s w.toArray[j] its'.toArray[j] (Rq ds ds' j):=by
   intro q q' xs xs' ds ds' w its' B z hd GC J M j h1 h2;have L:ds.length=w.length:=by rw[<- B.length,J.length]
   have Q:ds'.length=its'.length:=by rw[<- z.length,M.length]
   simp only[List.size_toArray]at h1 h2;have ea:ds[j]?=some ds[j]:=aas (by left);have eb:ds'[j]?=some ds'[j]:=aas (by left);obtain⟨w1,g1,p1⟩:=B.get ea;obtain⟨w2,g2,p2⟩:=z.get eb;obtain⟨u1,k1,z1⟩:=J.get g1;obtain⟨u2,k2,z2⟩:=M.get g2;have:=(ih A.in1 p1 p2 (hd _ (abh _)) (GC _ (abh _)) z1 z2 VO).eq;unfold Rq;rw[ea,eb];rw[List.getElem?_eq_getElem h1]at k1;rw[List.getElem?_eq_getElem h2]at k2;cases k1;cases k2;simpa using this
  cases h with
  |cq =>
   cases r;cases g with
   |cg _ _=>cases o
   |cq=>cases e;exact⟨abI _,SeqAt.RcAt.none_none,SeqAt.RcNeAt.none_none⟩
   |bl b=>cases e;exact⟨ab2 b,SeqAt.RcAt.none_bool b,SeqAt.RcNeAt.none_bool b⟩
   |int b=>obtain⟨t,rfl⟩:=e;exact⟨ab7 b t,SeqAt.RcAt.none_int b t,SeqAt.RcNeAt.none_int b t⟩
   |tup g O=>cases e;obtain⟨w,_,pt,_⟩:=I.tuple g;exact⟨SeqAt.EqAt.none_tuple pt c,SeqAt.RcAt.none_tuple pt c,SeqAt.RcNeAt.none_tuple pt c⟩
   |lst g O=>cases e;obtain⟨w,_,pt,_⟩:=I.list (P _ _ _ _ g);exact⟨SeqAt.EqAt.none_list pt.isList c,SeqAt.RcAt.none_list pt.isList c,SeqAt.RcNeAt.none_list pt.isList c⟩
  |bl a =>
   cases r;cases g with
   |cg _ _=>cases o
   |cq=>cases e;exact⟨ab4 a,SeqAt.RcAt.bool_none a,SeqAt.RcNeAt.bool_none a⟩
   |bl b=>cases e;exact⟨ab5 a b,SeqAt.RcAt.bool_bool a b,SeqAt.RcNeAt.bool_bool a b⟩
   |int b=>obtain⟨t,rfl⟩:=e;exact⟨ab8 a b t,SeqAt.RcAt.bool_int a b t,SeqAt.RcNeAt.bool_int a b t⟩
   |tup g O=>cases e;obtain⟨w,_,pt,_⟩:=I.tuple g;exact⟨SeqAt.EqAt.bool_tuple a pt c,SeqAt.RcAt.bool_tuple a pt c,SeqAt.RcNeAt.bool_tuple a pt c⟩
   |lst g O=>cases e;obtain⟨w,_,pt,_⟩:=I.list (P _ _ _ _ g);exact⟨SeqAt.EqAt.bool_list a pt.isList c,SeqAt.RcAt.bool_list a pt.isList c,SeqAt.RcNeAt.bool_list a pt.isList c⟩
  |int a =>
   obtain⟨t',rfl⟩:=r;cases g with
   |cg _ _=>cases o
   |cq=>cases e;exact⟨ab9 a t',SeqAt.RcAt.int_none a t',SeqAt.RcNeAt.int_none a t'⟩
   |bl b=>cases e;exact⟨ab_ a t' b,SeqAt.RcAt.int_bool a t' b,SeqAt.RcNeAt.int_bool a t' b⟩
   |int b=>obtain⟨t,rfl⟩:=e;exact⟨abL a t' b t,SeqAt.RcAt.int_int a t' b t,SeqAt.RcNeAt.int_int a t' b t⟩
   |tup g O=>cases e;obtain⟨w,_,pt,_⟩:=I.tuple g;exact⟨SeqAt.EqAt.int_tuple a t' pt c,SeqAt.RcAt.int_tuple a t' pt c,SeqAt.RcNeAt.int_tuple a t' pt c⟩
   |lst g O=>cases e;obtain⟨w,_,pt,_⟩:=I.list (P _ _ _ _ g);exact⟨SeqAt.EqAt.int_list a t' pt.isList c,SeqAt.RcAt.int_list a t' pt.isList c,SeqAt.RcNeAt.int_list a t' pt.isList c⟩
  | @tup _ p xs ds h B =>
   cases r;obtain⟨w,J,pt,_⟩:=I.tuple h;have pt:s.heap.IsTuple p w.toArray:=pt;cases g with
   |cg _ _=>cases o
   |cq=>cases e;exact⟨SeqAt.EqAt.tuple_none pt c,SeqAt.RcAt.tuple_none pt c,SeqAt.RcNeAt.tuple_none pt c⟩
   |bl b=>cases e;exact⟨SeqAt.EqAt.tuple_bool b pt c,SeqAt.RcAt.tuple_bool b pt c,SeqAt.RcNeAt.tuple_bool b pt c⟩
   |int b=>obtain⟨t,rfl⟩:=e;exact⟨SeqAt.EqAt.tuple_int b t pt c,SeqAt.RcAt.tuple_int b t pt c,SeqAt.RcNeAt.tuple_int b t pt c⟩
   |lst g O=>cases e;obtain⟨its',_,i,_⟩:=I.list (P _ _ _ _ g);exact⟨SeqAt.EqAt.tuple_list pt i.isList c,SeqAt.RcAt.tuple_list pt i.isList c,SeqAt.RcNeAt.tuple_list pt i.isList c⟩
   | @tup _ C xs' ds' g z =>
    cases e;obtain⟨m,y,IG⟩:=fL E;obtain rfl:n=m:=by left
    obtain⟨m,y,sT⟩:=fL o;obtain rfl:n=m:=by left
    obtain⟨its',M,SE,_⟩:=I.tuple g;have SE:s.heap.IsTuple C its'.toArray:=SE;have x:=sub B z IG sT J M;have L:ds.length=w.toArray.size:=by rw[List.size_toArray,<- B.length,J.length]
    have Q:ds'.length=its'.toArray.size:=by rw[List.size_toArray,<- z.length,M.length]
    have rc:SeqAt.RcAt A s (.ref p) (.ref C) (mU (.tup ds) (.tup ds')):=by
     have:=SeqAt.RcAt.tuples pt SE c x;rw[<- L,<- Q,kH]at this;exact this
    refine⟨?_,rc,?_⟩
    ·by_cases W:p=C
     ·subst W;rw[BG I hN P (n+1) (Rep.tup h B) (Rep.tup g z) E o];exact abI _
     ·exact SeqAt.EqAt.of_refs W rc
    ·have:=SeqAt.RcNeAt.tuples pt SE c x;rw[<- L,<- Q,kH]at this;exact this
  | @lst _ p xs f ds h B =>
   cases r;obtain⟨w,J,i,_⟩:=I.list (hN _ _ _ _ h);have i:=i.isList;cases g with
   |cg _ _=>cases o
   |cq=>cases e;exact⟨SeqAt.EqAt.list_none i c,SeqAt.RcAt.list_none i c,SeqAt.RcNeAt.list_none i c⟩
   |bl b=>cases e;exact⟨SeqAt.EqAt.list_bool b i c,SeqAt.RcAt.list_bool b i c,SeqAt.RcNeAt.list_bool b i c⟩
   |int b=>obtain⟨t,rfl⟩:=e;exact⟨SeqAt.EqAt.list_int b t i c,SeqAt.RcAt.list_int b t i c,SeqAt.RcNeAt.list_int b t i c⟩
   |tup g O=>cases e;obtain⟨its',_,pt,_⟩:=I.tuple g;exact⟨SeqAt.EqAt.list_tuple i pt c,SeqAt.RcAt.list_tuple i pt c,SeqAt.RcNeAt.list_tuple i pt c⟩
   | @lst _ C xs' f' ds' g z =>
    cases e;obtain⟨m,y,IG⟩:=fM E;obtain rfl:n=m:=by left
    obtain⟨m,y,sT⟩:=fM o;obtain rfl:n=m:=by left
    obtain⟨its',M,S,_⟩:=I.list (P _ _ _ _ g);have S:=S.isList;have x:=sub B z IG sT J M;have L:ds.length=w.toArray.size:=by rw[List.size_toArray,<- B.length,J.length]
    have Q:ds'.length=its'.toArray.size:=by rw[List.size_toArray,<- z.length,M.length]
    have two:SeqAt.RcAt A s (.ref p) (.ref C) (mU (.lst f ds) (.lst f' ds'))/\SeqAt.RcNeAt A s (.ref p) (.ref C) (!mU (.lst f ds) (.lst f' ds')):=by
     show SeqAt.RcAt A s (.ref p) (.ref C) (fh ds ds')/\SeqAt.RcNeAt A s (.ref p) (.ref C) (!fh ds ds');rw[<- kH];by_cases Y:ds.length=ds'.length
     ·have e1:(ds.length==ds'.length)=true:=by simp[Y]
      rw[e1,Bool.and_true,<- Y,Nat.min_self];have U:w.toArray.size=its'.toArray.size:=by rw[<- L,<- Q,Y]
      refine⟨?_,?_⟩
      ·have:=SeqAt.RcAt.lists i S U c x;rw[<- L]at this;exact this
      ·have:=SeqAt.RcNeAt.lists i S U c x;rw[<- L]at this;exact this
     ·have e1:(ds.length==ds'.length)=false:=by simp[Y]
      rw[e1,Bool.and_false];have U:(w.toArray.size != its'.toArray.size)=true:=by rw[<- L,<- Q];simp[Y]
      exact⟨SeqAt.RcAt.lists_lengths i S U c,SeqAt.RcNeAt.lists_lengths i S U c⟩
    refine⟨?_,two.1,two.2⟩;by_cases W:p=C
    ·subst W;rw[BG I hN P (n+1) (Rep.lst h B) (Rep.lst g z) E o];exact abI _
    ·exact SeqAt.EqAt.of_refs W two.1
  |cg _ _=>cases E
end
structure Px where
 pe:Nat->Scope->ak->Expr->Option (aq)
 pi:Nat->Scope->ak->Expr->Option (aq)
 pm:Nat->Scope->ak->Stmt->Option (Expr×aq)
 p2:Nat->Scope->ak->Stmt->Option (Expr×aq):=λ_ _ _ _=>none
structure Sx where
 sc:Scope
 N:ak
 fn:Nat->Option Str
 bl:ak
 cs:List (Str×GK)
 px:Px
noncomputable def PC:HR->Operator
 |.add=>.Add|.sub=>.Sub|.mul=>.Mult|.fdiv=>.FloorDiv|.mod=>.Mod|.pow=>.Pow|.shl=>.LShift
noncomputable def Va:A1->CmpOp
 |.eq=>.Eq|.ne=>.NotEq|.lt=>.Lt|.le=>.LtE|.gt=>.Gt|.ge=>.GtE|.IB=>.In
noncomputable def tyName:Ty->String
 |.int=>"int" |.bool=>"bool" |.list=>"list" |.tuple=>"tuple"
noncomputable def tO:Bf->String
 |.len=>"len" |.abs=>"abs" |.list1=>"list" |.tuple1=>"tuple" |.eI=>"sum" |.all1=>"all" |.iD=>"sorted"
noncomputable def Jv(sc:Scope)(x:Str):Bool:=decide (sc.names.lookup x=some .local)||decide (sc.names.lookup x=some .cell)||decide (sc.names.lookup x=some .free)
noncomputable def ja(sc:Scope)(x:Str):Bool:=decide (sc.names.lookup x=some .globalImplicit)
noncomputable def oZ(x:Str):Bool:=!(x==("__debug__" : Str))&&!(x==("__classdict__" : Str))&&decide (x≠("__name__" : Str))
noncomputable def qV:Expr->Bool
 |.Set _ _ _=>false
 |_=>true
noncomputable def uE(sc outer:Scope):Scope :=
 { sc with names:=sc.names.map λ(n,k)=>if (k==.free&&outer.kind==.function&&outer.names.lookup n==some .cell)then(n,.cell)else(n,k) }
noncomputable def cv:Expr->ak
 |.Name x _=>[x]
 |.Tuple a _ _=>a.filterMap λe=>match e with|.Name x _=>some x|_=>none
 |_=>[]
noncomputable def gO(S:Sx)(caps:aK):ak:=caps.filterMap λi=>S.N[i]?
def Sx.inner(S:Sx)(target:Expr)(caps:aK)(sc:Scope):Sx:=⟨uE sc S.sc,cv target++gO S caps,S.fn,S.bl,S.cs,S.px⟩
noncomputable def jx:Expr->Bool
 |.Tuple _ _ _=>true
 |_=>false
noncomputable def isNm(e:Expr):Bool:=decide (e.ctorIdx=23)
theorem nU{e:Expr}(h:isNm e=true):∃x p,e=.Name x p:=Expr.Name.elim (motive_1:=λe=>∃x p,e=.Name x p) e (aab h) λx p=>⟨x,p,rfl⟩
noncomputable def prE:Expr->Bool
 |.Call ..=>true
 |.BinOp ..=>true
 |.Subscript ..=>true
 |.Compare ..=>true
 |.Dict ..=>true
 |_=>false
noncomputable def SK:Expr->Bool
 |.Call ..=>true
 |.Name ..=>true
 |_=>false
theorem aM{a b:Bool}(h:(a&&b)=true):a=true/\b=true:=by
 cases a<;>cases b<;>first|exact⟨rfl,rfl⟩|cases h
noncomputable def bP{b:Type}(o:Option b)(f:b->Bool):Bool:=match o with
 |some a=>f a
 |none=>false
theorem bO{b:Type}{o:Option b}{f:b->Bool}(h:bP o f=true):∃a,o=some a/\f a=true:=by
 cases o with
 |some a=>exact⟨a,rfl,h⟩
 |none=>cases h
theorem dI{a:Type}{c:Prop}[Decidable c]{f:c->Option a}{x:a}(h:(if h:c then f h else none)=some x):∃k:c,f k=some x:=by
 by_cases k:c
 ·rw[dif_pos k]at h;exact⟨k,h⟩
 ·rw[dif_neg k]at h;cases h
theorem bT{d c:Type}{o:Option d}{f:d->Option c}{b:c}(h:o.bind f=some b):∃a,o=some a/\f a=some b:=Option.bind_eq_some_iff.mp h
theorem gT{a:Type}{c:Prop}[Decidable c]{o:Option a}{b:a}(h:(if c then o else none)=some b):c/\o=some b:=by
 by_cases k:c
 ·rw[if_pos k]at h;exact⟨k,h⟩
 ·rw[if_neg k]at h;cases h
noncomputable def vC(e:Expr):Option Const:=if h:e.ctorIdx=19 then Expr.Constant.elim (motive_1:=λ_=>Option Const) e h (λc _ _=>some c)else none
theorem A7{e:Expr}{c:Const}(h:vC e=some c):∃j p,e=.Constant c j p:=by
 obtain⟨k,h⟩:=dI h;exact Expr.Constant.elim (motive_1:=λe=>∀k:e.ctorIdx=19,Expr.Constant.elim (motive_1:=λ_=>Option Const) e k (λc _ _=>some c)=some c->∃j p,e=.Constant c j p) e k (λ_ _ _ _ h=>by cases h;exact⟨_,_,rfl⟩) k h
noncomputable def CO:Const->Bool
 |.none=>true
 |_=>false
theorem zW{c:Const}(h:CO c=true):c=.none:=by cases c<;>first|rfl|cases h
noncomputable def Iz(b:Bool):Const->Bool
 |.bool c=>decide (b=c)
 |_=>false
theorem CQ{b:Bool}{c:Const}(h:Iz b c=true):c=.bool b:=by cases c<;>first | (cases h;done)|rw[of_decide_eq_true h]
noncomputable def CP(b:Int):Const->Bool
 |.int c=>decide (b=c)
 |_=>false
theorem zX{b:Int}{c:Const}(h:CP b c=true):c=.int b:=by cases c<;>first | (cases h;done)|rw[of_decide_eq_true h]
noncomputable def Lm(b:Str):Const->Bool
 |_=>false
theorem NC{b:Str}{c:Const}(h:Lm b c=true):c=.str b:=by cases c<;>first | (cases h;done)|rw[of_decide_eq_true h]
noncomputable def Nm(e:Expr):Option Str:=if h:e.ctorIdx=23 then Expr.Name.elim (motive_1:=λ_=>Option Str) e h (λx _=>some x)else none
theorem l0{e:Expr}{x:Str}(h:Nm e=some x):∃p,e=.Name x p:=by
 obtain⟨k,h⟩:=dI h;exact Expr.Name.elim (motive_1:=λe=>∀k:e.ctorIdx=23,Expr.Name.elim (motive_1:=λ_=>Option Str) e k (λx _=>some x)=some x->∃p,e=.Name x p) e k (λ_ _ _ h=>by cases h;exact⟨_,rfl⟩) k h
noncomputable def Ou(e:Expr):Option (Expr×Operator×Expr):=if h:e.ctorIdx=2 then Expr.BinOp.elim (motive_1:=λ_=>Option (Expr×Operator×Expr)) e h (λl o r _=>some (l,o,r))else none
theorem EW{e l r:Expr}{o:Operator}(h:Ou e=some (l,o,r)):∃p,e=.BinOp l o r p:=by
 obtain⟨k,h⟩:=dI h;exact Expr.BinOp.elim (motive_1:=λe=>∀k:e.ctorIdx=2,Expr.BinOp.elim (motive_1:=λ_=>Option (Expr×Operator×Expr)) e k (λl o r _=>some (l,o,r))=some (l,o,r)->∃p,e=.BinOp l o r p) e k (λ_ _ _ _ _ h=>by cases h;exact⟨_,rfl⟩) k h
noncomputable def T1(e:Expr):Option (UnaryOp×Expr):=if h:e.ctorIdx=3 then Expr.UnaryOp.elim (motive_1:=λ_=>Option (UnaryOp×Expr)) e h (λo e _=>some (o,e))else none
theorem A4{e x:Expr}{o:UnaryOp}(h:T1 e=some (o,x)):∃p,e=.UnaryOp o x p:=by
 obtain⟨k,h⟩:=dI h;exact Expr.UnaryOp.elim (motive_1:=λe=>∀k:e.ctorIdx=3,Expr.UnaryOp.elim (motive_1:=λ_=>Option (UnaryOp×Expr)) e k (λo e _=>some (o,e))=some (o,x)->∃p,e=.UnaryOp o x p) e k (λ_ _ _ _ h=>by cases h;exact⟨_,rfl⟩) k h
noncomputable def vBool(e:Expr):Option (BoolOp×aq):=if h:e.ctorIdx=0 then Expr.BoolOp.elim (motive_1:=λ_=>Option (BoolOp×aq)) e h (λo vs _=>some (o,vs))else none
theorem ub{e:Expr}{o:BoolOp}{vs:aq}(h:vBool e=some (o,vs)):∃p,e=.BoolOp o vs p:=by
 obtain⟨k,h⟩:=dI h;exact Expr.BoolOp.elim (motive_1:=λe=>∀k:e.ctorIdx=0,Expr.BoolOp.elim (motive_1:=λ_=>Option (BoolOp×aq)) e k (λo vs _=>some (o,vs))=some (o,vs)->∃p,e=.BoolOp o vs p) e k (λ_ _ _ _ h=>by cases h;exact⟨_,rfl⟩) k h
noncomputable def XW(e:Expr):Option (Expr×Expr×Expr):=if h:e.ctorIdx=5 then Expr.IfExp.elim (motive_1:=λ_=>Option (Expr×Expr×Expr)) e h (λt x y _=>some (t,x,y))else none
theorem JA{e t x y:Expr}(h:XW e=some (t,x,y)):∃p,e=.IfExp t x y p:=by
 obtain⟨k,h⟩:=dI h;exact Expr.IfExp.elim (motive_1:=λe=>∀k:e.ctorIdx=5,Expr.IfExp.elim (motive_1:=λ_=>Option (Expr×Expr×Expr)) e k (λt x y _=>some (t,x,y))=some (t,x,y)->∃p,e=.IfExp t x y p) e k (λ_ _ _ _ _ h=>by cases h;exact⟨_,rfl⟩) k h
noncomputable def one{a:Type}:List a->Option a
 |[]=>none
 |x::xs=>match xs with
  |[]=>some x
  |_::_=>none
theorem ck{a:Type}{l:List a}{x:a}(h:one l=some x):l=[x]:=by
 cases l with
 |nil=>cases h
 |cons y ys=>cases ys with
  |nil=>cases h;rfl
  |cons _ _=>cases h
def two{a:Type}:List a->Option (a×a)
 |[]=>none
 |x::xs=>(one xs).map λy=>(x,y)
theorem jh{a:Type}{l:List a}{x y:a}(h:two l=some (x,y)):l=[x,y]:=by
 cases l with
 |nil=>cases h
 |cons z b=>cases b with
  |nil=>cases h
  |cons w c=>cases c with
   |nil=>cases h;rfl
   |cons _ _=>cases h
noncomputable def T4{a:Type}:List a->Option (a×List a)
 |[]=>none
 |x::xs=>some (x,xs)
theorem A_{a:Type}{l xs:List a}{x:a}(h:T4 l=some (x,xs)):l=x::xs:=by
 cases l with
 |nil=>cases h
 |cons y ys=>cases h;rfl
noncomputable def JB(e:Expr):Option (Expr×List CmpOp×aq):=if h:e.ctorIdx=15 then Expr.Compare.elim (motive_1:=λ_=>Option (Expr×List CmpOp×aq)) e h (λl b a _=>some (l,b,a))else none
theorem xG{e l:Expr}{a:List CmpOp}{rs:aq}(h:JB e=some (l,a,rs)):∃p,e=.Compare l a rs p:=by
 obtain⟨k,h⟩:=dI h;exact Expr.Compare.elim (motive_1:=λe=>∀k:e.ctorIdx=15,Expr.Compare.elim (motive_1:=λ_=>Option (Expr×List CmpOp×aq)) e k (λl a rs _=>some (l,a,rs))=some (l,a,rs)->∃p,e=.Compare l a rs p) e k (λ_ _ _ _ _ h=>by cases h;exact⟨_,rfl⟩) k h
noncomputable def A6(e:Expr):Option (Expr×aq×List Keyword):=if h:e.ctorIdx=16 then Expr.Call.elim (motive_1:=λ_=>Option (Expr×aq×List Keyword)) e h (λf as a _=>some (f,as,a))else none
variable {args as elts:aq}
theorem zB{e f:Expr}{ks:List Keyword}(h:A6 e=some (f,as,ks)):∃p,e=.Call f as ks p:=by
 obtain⟨k,h⟩:=dI h;exact Expr.Call.elim (motive_1:=λe=>∀k:e.ctorIdx=16,Expr.Call.elim (motive_1:=λ_=>Option (Expr×aq×List Keyword)) e k (λf as ks _=>some (f,as,ks))=some (f,as,ks)->∃p,e=.Call f as ks p) e k (λ_ _ _ _ _ h=>by cases h;exact⟨_,rfl⟩) k h
def fG(e:Expr):Option (Str×aq):=(A6 e).bind λz=>if z.2.2.isEmpty=true then(Nm z.1).bind λx=>some (x,z.2.1)else none
theorem F8{a:Type}{l:List a}(h:l.isEmpty=true):l=[]:=List.isEmpty_iff.mp h
theorem cT{e:Expr}{x:Str}(h:fG e=some (x,as)):∃p a,e=.Call (.Name x p) as [] a:=by
 obtain⟨⟨f,i,g⟩,b,h⟩:=bT h;obtain⟨d,h⟩:=gT h;obtain⟨y,c,h⟩:=bT h;cases h;obtain⟨a,rfl⟩:=zB b;obtain⟨p,rfl⟩:=l0 c;obtain rfl:=F8 d;exact⟨p,a,rfl⟩
noncomputable def t_(e:Expr):Option (Expr×Expr):=if h:e.ctorIdx=21 then Expr.Subscript.elim (motive_1:=λ_=>Option (Expr×Expr)) e h (λa b _=>some (a,b))else none
theorem jK{e a b:Expr}(h:t_ e=some (a,b)):∃p,e=.Subscript a b p:=by
 obtain⟨k,h⟩:=dI h;exact Expr.Subscript.elim (motive_1:=λe=>∀k:e.ctorIdx=21,Expr.Subscript.elim (motive_1:=λ_=>Option (Expr×Expr)) e k (λa b _=>some (a,b))=some (a,b)->∃p,e=.Subscript a b p) e k (λ_ _ _ _ h=>by cases h;exact⟨_,rfl⟩) k h
noncomputable def zA(e:Expr):Option (aq):=if h:e.ctorIdx=25 then Expr.Tuple.elim (motive_1:=λ_=>Option (aq)) e h (λa _ _=>some a)else none
theorem jJ{e:Expr}{es:aq}(h:zA e=some es):∃n p,e=.Tuple es n p:=by
 obtain⟨k,h⟩:=dI h;exact Expr.Tuple.elim (motive_1:=λe=>∀k:e.ctorIdx=25,Expr.Tuple.elim (motive_1:=λ_=>Option (aq)) e k (λes _ _=>some es)=some es->∃n p,e=.Tuple es n p) e k (λ_ _ _ _ h=>by cases h;exact⟨_,_,rfl⟩) k h
noncomputable def Jz(e:Expr):Option (aq):=if h:e.ctorIdx=24 then Expr.List.elim (motive_1:=λ_=>Option (aq)) e h (λa _=>some a)else none
theorem xF{e:Expr}{es:aq}(h:Jz e=some es):∃p,e=.List es p:=by
 obtain⟨k,h⟩:=dI h;exact Expr.List.elim (motive_1:=λe=>∀k:e.ctorIdx=24,Expr.List.elim (motive_1:=λ_=>Option (aq)) e k (λes _=>some es)=some es->∃p,e=.List es p) e k (λ_ _ _ h=>by cases h;exact⟨_,rfl⟩) k h
noncomputable def HV(e:Expr):Option (Expr×List Comprehension×Scope):=if h:e.ctorIdx=8 then Expr.ListComp.elim (motive_1:=λ_=>Option (Expr×List Comprehension×Scope)) e h (λe b a _=>some (e,b,a))else none
theorem A5{e x:Expr}{gs:List Comprehension}{sc:Scope}(h:HV e=some (x,gs,sc)):∃p,e=.ListComp x gs sc p:=by
 obtain⟨k,h⟩:=dI h;exact Expr.ListComp.elim (motive_1:=λe=>∀k:e.ctorIdx=8,Expr.ListComp.elim (motive_1:=λ_=>Option (Expr×List Comprehension×Scope)) e k (λe gs sc _=>some (e,gs,sc))=some (x,gs,sc)->∃p,e=.ListComp x gs sc p) e k (λ_ _ _ _ _ h=>by cases h;exact⟨_,rfl⟩) k h
theorem kn{a:Bool}(h:(!a)=true):a=false:=by cases a<;>first|rfl|cases h
def tJ(S:Sx)(n:Nat)(t:Tg)(caps:aK)(target:Expr)(sc:Scope):Bool :=
 decide (sc.kind=.function)&&sc.names.all (λ(x,k)=>decide (k≠.cell)&&(decide (k≠.local)||decide (sc.names.lookup x=some .local))&&(decide (k≠.free)||decide (S.sc.names.lookup x=some .cell)||decide (S.sc.names.lookup x=some .free))) &&
 decide (n=(cv target).length)&&(cv target).all (λx=>decide (sc.names.lookup x=some .local))&&decide (cv target++gO S caps).Nodup &&
 caps.all (λi=>match S.N[i]? with|some x=>decide (sc.names.lookup x=some .free)|none=>false) &&
 (match t with
  |.nm i=>decide (i=0)&&isNm target
  |.tp is=>bP (zA target) λa=>decide (is=List.range a.length)&&a.all isNm)
mutual
noncomputable def cw(S:Sx):CE->Expr->Bool
 |.cm p es,e0=>prE e0&&bP (S.px.pe p S.sc S.bl e0) λxs=>b_ S es xs
 |.cq,e0=>bP (vC e0) λc=>CO c
 |.bl b,e0=>bP (vC e0) λc=>Iz b c
 |.int i,e0=>bP (vC e0) λc=>CP i c
 |.v i,e0=>bP (Nm e0) λx=>decide (S.N[i]?=some x)&&Jv S.sc x&&oZ x
 |.glo x i,e0=>bP (Nm e0) λy=>decide (y=x)&&ja S.sc x&&decide ((x,GK.i i)∈S.cs)&&!(x==("__debug__" : Str))
 |.glt x zs,e0=>bP (Nm e0) λy=>decide (y=x)&&ja S.sc x&&decide ((x,GK.t zs)∈S.cs)&&!(x==("__debug__" : Str))
 |.bin op a b,e0=>bP (Ou e0) λz=>decide (z.2.1=PC op)&&cw S a z.1&&cw S b z.2.2
 |.neg a,e0=>bP (T1 e0) λz=>decide (z.1=.USub)&&cw S a z.2
 |.not a,e0=>bP (T1 e0) λz=>decide (z.1=.Not)&&cw S a z.2
 |.and es,e0=>bP (vBool e0) λz=>decide (z.1=.And)&&b_ S es z.2
 |.or es,e0=>bP (vBool e0) λz=>decide (z.1=.Or)&&b_ S es z.2
 |.ite c a b,e0=>bP (XW e0) λz=>cw S c z.1&&cw S a z.2.1&&cw S b z.2.2
 |.cmp op a b,e0=>bP (JB e0) λz=>decide (z.2.1=[Va op])&&cw S a z.1&&bP (one z.2.2) λr=>cw S b r&&qV r
 |.qZ a t,e0=>bP (fG e0) λz=>decide (z.1=("isinstance" : Str))&&ja S.sc z.1&&decide (z.1∈S.bl)&&bP (two z.2) λy=>cw S a y.1&&bP (Nm y.2) λx=>decide (x=(tyName t:Str))&&ja S.sc x&&decide (x∈S.bl)
 |.call f es,e0=>bP (fG e0) λz=>decide (S.fn f=some z.1)&&ja S.sc z.1&&oZ z.1&&bP (T4 z.2) λy=>b_ S es (y.1::y.2)
 |.bf f es,e0=>bP (fG e0) λz=>decide (z.1=(tO f:Str))&&ja S.sc z.1&&decide (z.1∈S.bl)&&bP (T4 z.2) λy=>b_ S es (y.1::y.2)
 |.kE a,e0=>bP (fG e0) λz=>decide (z.1=("len" : Str))&&ja S.sc z.1&&decide (z.1∈S.bl)&&bP (one z.2) λy=>bP (fG y) λw=>decide (w.1=("set" : Str))&&ja S.sc w.1&&decide (w.1∈S.bl)&&bP (one w.2) λu=>cw S a u
 |.ix a b,e0=>bP (t_ e0) λz=>cw S a z.1&&cw S b z.2
 |.tup es,e0=>bP (zA e0) λxs=>b_ S es xs&&decide (es.length<=1000)
 |.lst es,e0=>bP (Jz e0) λxs=>b_ S es xs&&decide (es.length<=1000)
 |.comp n t caps ik es bX elt,e0=>bP (HV e0) λz=>bP (one z.2.1) λg=>decide (g.is_async=0)&&tJ S n t caps g.target z.2.2&&qV g.iter&&decide (bX.length<=1)&&b_ (S.inner g.target caps z.2.2) bX g.ifs&&cw (S.inner g.target caps z.2.2) elt z.1 &&
     (match ik with
      |.mO=>bP (fG g.iter) λw=>decide (w.1=("range" : Str))&&ja S.sc w.1&&decide (w.1∈S.bl)&&bP (one w.2) λy=>b_ S es [y]
      |.seq=>b_ S es [g.iter]
      |.cm p=>SK g.iter&&(decide (1100<=p)||jx g.target)&&bP (S.px.pi p S.sc S.bl g.iter) λxs=>b_ S es xs)
noncomputable def b_(S:Sx):aF->aq->Bool
 |[],es=>match es with
  |[]=>true
  |_::_=>false
 |c::cs,es=>match es with
  |[]=>false
  |e::es=>cw S c e&&b_ S cs es
end
def Fw(K:av)(n:Nat)(m:aw):Sp:=λvs H Q _=>∃(F:aj) (ds:af) (r:D),vs.length=n/\aE (a_ K H) (nd K F (λ_=>False) (λ_=>none) H) [] 0 vs ds/\m ds=ok r /\
 ∀v H',aL H H'->(∃τt:Addr->Option bB,(∀p q,τt p=some q->H p=none)/\Rep (a_ K H') (nd K (λp=>F p\/H p=none) (λ_=>False) τt H') [] v r)->Q v H'
structure Nk(X:Cx)(k:Nat)(x:Str)(m:aw):Prop where
 ex:∃(f:Addr) (fd:FuncData) (ps:ak),kh X.prog X.w X.K X.mg X.base AZ k f fd ps (Fw X.K ps.length m)/\X.mg x=some (.ref f)/\PySem.W.keepIn X.K (.ref f)=true/\Binds X.K fd ps []/\∀ds r,m ds=ok r->ds.length=ps.length
noncomputable def kinds:List String:=["NoneType","bool","int","str","list","tuple","dict"]
def Qj:Ty->String->Bool
 |.int,s=>s == "int" ||s == "bool"
 |t,s=>s==tyName t
theorem aL.upd{H:Hp}{p:Addr}{o:HO}(h:H p=none):aL H (upd H p o):=λb u e=>by
 rw[bC (by rintro rfl;rw[h]at e;cases e)];exact e
theorem uU{i j:Int}(h:eu i j=true):IntMulOk i j:=by
 unfold eu at h;simp only[Bool.or_eq_true,Bool.and_eq_true,decide_eq_true_eq]at h;rcases h with (h|h)|⟨c,b⟩
 ·exact .of_left (intBits_le h)
 ·exact .of_right (intBits_le h)
 ·have e:Builtin.Int.intBits i<=9000:=intBits_le c;have d:Builtin.Int.intBits j<=9000:=intBits_le b;unfold IntMulOk;have a:Builtin.Int.intTooBig ((Builtin.Int.intBits i:Int)+(Builtin.Int.intBits j:Int))=false:=by
   unfold Builtin.Int.intTooBig;have:(bitsLine:Int)=134217728:=by decide
   exact aa5 (by left)
  rw[a];simp
section
variable {K:av}{R:aj}{τ τt:Addr->Option bB}{fv:aK}{H H':Hp}
theorem F2:kO X (binaryOp .Add) (λx y H Q=>∃a b xs ys,x=.ref a/\y=.ref b/\a_ X.K H a xs/\a_ X.K H b ys/\xs.length+ys.length<=sizeLine/\(xs=[]->Q (.ref b) H)/\(ys=[]->Q (.ref a) H)/\∀p,H p=none->Q (.ref p) (upd H p (.tup (xs++ys)))):=by
 intro pins s σ H x y v u Q I t r h;obtain⟨a,b,xs,ys,rfl,rfl,l,k,D,q0,q1,q2⟩:=h;cases t;cases r;by_cases f:xs=[]
 ·subst f;obtain⟨L,r1,z,_⟩:=I.tuple l;obtain⟨B,r2,w,_⟩:=I.tuple k;cases r1;obtain⟨⟨J,E,data,q⟩,g,j,n,i⟩:=id z;obtain⟨⟨M,m,data2,o⟩,e,d,C,c⟩:=id w;simp only at j i d c;subst j i d c;exact concat_meets ⟨_,g,rfl⟩ ⟨_,e,rfl⟩ noFill_tuple_add seq_tuple_add abT abR (abM _ _)
   (tuple_addW0 a b [].toArray B.toArray n C E m q o rfl) ⟨g,e,⟨.ref b,H,I,rfl,q0 rfl⟩⟩
 ·exact F1 pins s σ H (.ref a) (.ref b) _ _ Q I rfl rfl ⟨a,b,xs,ys,rfl,rfl,l,k,f,D,q1,λ_=>q2⟩
theorem nd.rB(k k':bB)(p:Addr)(xs:Nd)(f:Fl)(h:nd K R A (λ_=>none) H k p xs f):nd K R A (λ_=>none) H k' p xs f:=by
 cases f with
 |ow=>exact nomatch h.2
 |fz=>exact h
 |al=>exact h
 |sc=>exact h
theorem PM(b:SI X F R τ ρ σ H)(a:∀p q,τt p=some q->H p=none)(k k':bB)(p:Addr)(xs:Nd)(f:Fl)(h:nd K R (kL (gP X F) τ fv) τt H' k p xs f):
  nd K R (kL (gP X F) τ fv) (λ_=>none) H' k' p xs (bt f):=by
 cases f with
 |ow=>exact⟨h.1,.inr (b.same.free (a p _ h.2)),λc i e=>absurd (a p _ h.2) (b.th p _ e)⟩
 |fz=>exact h
 |al=>exact h
 |sc=>exact h
theorem aE.gj{k:bB}{n:Nat}(h:aE (a_ K H') (nd K R (kL (gP X F) τ fv) τt H') k n xs ds)(b:SI X F R τ ρ σ H)(a:∀p q,τt p=some q->H p=none){n':Nat}:
  aE (a_ K H') (nd K R (kL (gP X F) τ fv) (λ_=>none) H') k' n' xs (aA bt ds):=aE.jv (λ_ _ h=>h) (PM b a) h _ _
theorem Rep.gj{k:bB}{v:V}{d:D}(h:Rep (a_ K H') (nd K R (kL (gP X F) τ fv) τt H') k v d)(b:SI X F R τ ρ σ H)(a:∀p q,τt p=some q->H p=none):
  Rep (a_ K H') (nd K R (kL (gP X F) τ fv) (λ_=>none) H') k' v (aO bt d):=Rep.jv (λ_ _ h=>h) (PM b a) h _
theorem cu.sI{p:Addr}(d:H p=none)(e:aL H H')(g:H' p=some (.lst xs))(r:aE (a_ K H') (nd K R (kL G τ fv) (λ_=>none) H') [] 0 xs ds):cu K G R τ fv H H' (.ref p) (.lst .ow ds):=by
 refine⟨λq=>if q=p then some []else none,λq k b=>?_,.lst ⟨g,by simp⟩ (r.imp (λ_ _ h=>h) λc q xs f h=>?_)⟩
 ·by_cases a:q=p
  ·subst a;exact d
  ·simp[a]at b
 ·cases f with
  |ow=>exact nomatch h.2
  |fz=>exact h
  |al=>exact h
  |sc=>exact h
end
theorem Gj(K:av):∀t:Ty,∀s∈kinds,PySem.W.kitOne K (.type s) (.type (tyName t))=some (Qj t s):=by
 intro t s a;simp only[kinds,List.mem_cons,List.not_mem_nil,or_false]at a;cases t<;>rcases a with rfl|rfl|rfl|rfl|rfl|rfl|rfl<;>rfl
structure PX(X:Cx)(sc:Scope)(bl:ak)(k:Nat):Prop where
 sc:X.env.scope=sc
 calm:X.calm=true
 room:gU k X.A
 bl:∀x∈bl,X.mg x=none
theorem PX.gl{sc:Scope}{bl:ak}{k:Nat}(L:PX X sc bl k){x:Str}(h:ja sc x=true):Gl X x:=by
 unfold Gl;show X.env.scope.names.lookup x=some .globalImplicit;rw[L.sc];exact aab h
def m7(X:Cx)(F:aj)(Φ:aV):aF->aq->Prop
 |[],[]=>True
 |c::cs,a::as=>PE X a (tD X F Φ c)/\(∀b,starEach (a::b) X.env=(false,eval a X.env)::starEach b X.env)/\om a/\m7 X F Φ cs as
 |_,_=>False
structure vS(K:av)(H2:Hp)(vs:ag)(xs:af)(H':Hp):Prop where
 n0:∃R0:aj,aE (a_ K H2) (nd K R0 (λ_=>False) (λ_=>none) H2) [] 0 vs (aA bo xs)/\∀p o,R0 p->H2 p=some o->H' p=some o
 tp:∀a ys,a_ K H2 a ys->a_ K H' a ys
structure RV(K:av)(J:It)(H2:Hp)(vs:ag)(xs items:af):Prop where
 go:∀i H' R',vS K H2 vs xs H'->aE (a_ K H') (nd K R' (λ_=>False) (λ_=>none) H') [] 0 vs (aA bo xs)->i<items.length->J.go i H'
 vX:∀i H' R' x ox,vS K H2 vs xs H'->aE (a_ K H') (nd K R' (λ_=>False) (λ_=>none) H') [] 0 vs (aA bo xs)->i<items.length->J.vX i H' x ox->aL H' ox/\∃d,items[i]?=some d/\Rep (a_ K ox) (nd K R' (λ_=>False) (λ_=>none) ox) [] x d
 stop:∀i H' R',vS K H2 vs xs H'->aE (a_ K H') (nd K R' (λ_=>False) (λ_=>none) H') [] 0 vs (aA bo xs)->items.length<=i->J.stop i H'
structure xB(px:Px)(Φ:aV):Prop where
 e:∀(X:Cx) (sc:Scope) (bl:ak) (k:Nat),PX X sc bl k->∀(p:Nat) (e:Expr) (args:aq),px.pe p sc bl e=some args->∀(F:aj) (cs:aF),m7 X F Φ cs args->PE X e (tD X F Φ (.cm p cs))/\PT X e (gy X F Φ (.cm p cs))
 i:∀(X:Cx) (sc:Scope) (bl:ak) (k:Nat),PX X sc bl k->∀(p:Nat) (e:Expr) (args:aq),px.pi p sc bl e=some args->∀(F:aj) (cs:aF) (tg:Expr),(decide (1100<=p)||jx tg)=true->m7 X F Φ cs args ->
  ∀(pins:ao) (s:Shared) (σ:St) (H:Hp) (R:aj) (τ:Addr->Option bB) (ρ:br) (xs:af) (d:D) (items:af),Inv X pins σ H s->SI X F R τ ρ σ H->cJ Φ cs ρ=ok xs->Φ p xs=ok d->oP d=ok items->∀Rr:It->Hp->Prop,
   (∀J H2 vs,aL H H2->cP X.K (gP X F) R τ (d4 cs) H H2 vs xs->RV X.K J H2 vs xs items->Rr J H2) ->
   wpAny (model X.prog X.w) X.A (eval e X.env) (λv s1=>wpAny (model X.prog X.w) X.A (pyIter v) (EF X pins σ tg Rr) X.xe s1) X.xe s
def AX(K:av):GK->Value->Prop
 |.i i,u=>RelV (.int i) u
 |.t zs,u=>∃(a:Addr) (o:Obj) (b:aN) (n:Nat),u=.ref a/\K.lookup a=some o/\o.cls=.type "tuple" /\ o.data=.seq b n/\b.size<=sizeLine/\Vals (zs.map V.int) b.toList
structure Lk(X:Cx)(S:Sx)(k:Nat)(Φ:aV):Prop where
 sc:X.env.scope=S.sc
 N:X.N=S.N
 nd:X.N.Nodup
 calm:X.calm=true
 room:gU k X.A
 bl:∀x∈S.bl,X.mg x=none
 fn:∀f x,S.fn f=some x->Nk X k x (Φ f)
 cs:∀x i,(x,i)∈S.cs->∃u,X.mg x=some u/\AX X.K i u
 pr:xB S.px Φ
variable {S:Sx}{Φ:aV}
theorem Lk.pX{k:Nat}(L:Lk X S k Φ):PX X S.sc S.bl k:=⟨L.sc,L.calm,L.room,L.bl⟩
variable {Q:VK}{p' pos pos':Pos}
section
variable {X:Cx}{S:Sx}{k:Nat}{F:aj}{Φ:aV}
theorem Lk.gl(L:Lk X S k Φ){x:Str}(h:ja S.sc x=true):Gl X x:=by
 unfold Gl;show X.env.scope.names.lookup x=some .globalImplicit;rw[L.sc];exact aab h
theorem Lk.Se(L:Lk X S k Φ){x:Str}(h:Jv S.sc x=true):M7 X.env.scope x:=by
 unfold M7;rw[L.sc];unfold Jv at h;rw[Bool.or_eq_true,Bool.or_eq_true]at h;rcases h with (h|h)|h
 ·exact .inl (aab h)
 ·exact .inr (.inl (aab h))
 ·exact .inr (.inr (aab h))
theorem tD.intro{c:CE}{d:D}(a:SI X F R τ ρ σ H)(e:bG Φ c ρ=ok d)(h:∀v H',aL H H'->cu X.K (gP X F) R τ (iq c) H H' v d->Q v H'):tD X F Φ c σ H Q:=⟨R,τ,ρ,d,a,e,h⟩
theorem Uy(L:Lk X S k Φ){i:Nat}{x:Str}(h:cw S (.v i) (.Name x pos)=true):PE X (.Name x pos) (tD X F Φ (.v i)):=by
 replace h:=aM h;replace h:=And.intro (aM h.1) h.2;obtain⟨⟨r,o⟩,a⟩:=h;unfold oZ at a;simp only[Bool.and_eq_true,Bool.not_eq_true']at a;refine PE.imp (wG (i:=i) (by rw[L.N];exact aab r) (L.Se o) a.1.1 a.1.2) λσ H Q b=>?_;obtain⟨R,τ,ρ,d,g,s,b⟩:=b;obtain⟨u,n,rfl⟩:=BD s
 ·obtain⟨v,l,m⟩:=g.rep i u n;refine⟨v,l,b v H (aL.refl H) ⟨λ_=>none,λ_ _ h=>by simp at h,?_⟩⟩;refine Rep.map (q:=[i]) (q':=[]) (λ_ _ h=>h) (λc p xs f h=>?_) m [] rfl;cases f with
  |ow =>
   refine⟨h.1,.inr (g.t0 p _ h.2),λw j e=>?_⟩;rw[h.2]at e;have t:=aat e;have:=aaV List.getLast? t;simp at this;show _∈[i];simp[this]
  |fz=>exact h
  |al=>exact h.2.elim
  |sc=>exact h
theorem lN{op:HR}{x y d:D}(a:op≠.add/\op≠.mul)(h:cL op x y=ok d):∃i j,x=.int i/\y=.int j:=by
 cases x with
 |int i=>cases y with
  |int j=>exact⟨i,j,rfl,rfl⟩
  |_=>cases op<;>first|exact nk h | (simp at a;done)
 |_=>cases op<;>first|exact nk h | (simp at a;done)
theorem J9(L:Lk X S k Φ){op:HR}{a b:CE}{l r:Expr}(ha:PE X l (tD X F Φ a))(hb:PE X r (tD X F Φ b)):PE X (.BinOp l (PC op) r pos) (tD X F Φ (.bin op a b)):=by
 have two:∀{σ:St} {H:Hp} {Q:VK} {r2:R2},(∃R τ ρ d,SI X F R τ ρ σ H/\bG Φ (.bin op a b) ρ=ok d/\(∀v H',aL H H'->cu X.K (gP X F) R τ (iq (.bin op a b)) H H' v d->Q v H') /\
   ∀x y v u H',cL op x y=ok d->aL H H'->cu X.K (gP X F) R τ (iq (.bin op a b)) H H' v x->cu X.K (gP X F) R τ (iq (.bin op a b)) H H' u y->r2 v u H' Q)->H9 r2 (tD X F Φ a) (tD X F Φ b) σ H Q:=by
  rintro σ H Q r2 ⟨R,τ,ρ,d,w,E,s,hr⟩;obtain⟨x,ex,E⟩:=aD E;obtain⟨y,ey,E⟩:=aD E;refine tD.intro w ex λv H1 e1 r1=>tD.intro (w.go e1) ey λu H2 e2 r2=>?_;exact hr x y v u H2 E (e1.trans e2) ((r1.go e2).mono λi V=>aax _ V) ((r2.old e1).mono λi V=>aan _ V)
 have O:∀{C:Int->Int->Prop} {g:Int->Int->Int},kO X (binaryOp (PC op)) (rI C λi j=>.int (g i j))->(∀x y d,cL op x y=ok d->∃i j,x=.int i/\y=.int j/\C i j/\d=.int (g i j)) ->
   PE X (.BinOp l (PC op) r pos) (tD X F Φ (.bin op a b)):=by
  intro C g ho hd;refine PE.imp (Io ho ha hb) λσ H Q s=>?_;obtain⟨R,τ,ρ,d,w,E,s⟩:=s;refine two ⟨R,τ,ρ,d,w,E,s,λx y v u H' t e P U=>?_⟩;obtain⟨i,j,rfl,rfl,c,rfl⟩:=hd x y d t;exact⟨i,j,P.isInt,U.isInt,c,s _ H' e .int⟩
 cases op with
 |sub =>
  refine O (C:=λ_ _=>True) (g:=λi j=>i - j) (KN λ_ _ _ _ _ _ _ _ q=>sub_int q) λx y d h=>?_;obtain⟨i,j,rfl,rfl⟩:=lN (by simp) h;cases h;exact⟨_,_,rfl,rfl,trivial,rfl⟩
 |mod =>
  refine O (C:=λ_ j=>j≠0) (g:=λi j=>i.fmod j) F0 λx y d h=>?_;obtain⟨i,j,rfl,rfl⟩:=lN (by simp) h;obtain⟨D,h⟩:=p9 h;subst h;exact⟨_,_,rfl,rfl,D,rfl⟩
 |fdiv =>
  refine O (C:=λ_ j=>rG j=true) (g:=λi j=>i.fdiv j) (KN λi j _ _ _ _ _ o q=>?_) λx y d h=>?_
  ·unfold rG at o;rw[Bool.and_eq_true]at o;have D:j≠0:=aab o.1;have h2:j.natAbs<big:=aab o.2;exact floordiv_int D q (.inl (PyProof.noPylong_of_log2 ((Nat.log2_lt (by left)).mpr h2)))
  ·obtain⟨i,j,rfl,rfl⟩:=lN (by simp) h;obtain⟨D,h⟩:=p9 h;subst h;exact⟨_,_,rfl,rfl,D,rfl⟩
 |pow =>
  refine O (C:=λi j=>lg i j=true) (g:=λi j=>i ^ j.toNat) (KN λi j _ _ _ _ _ o q=>?_) λx y d h=>?_
  ·unfold lg at o;simp only[Bool.and_eq_true,decide_eq_true_eq]at o;exact pow_int_small o.1.1 o.1.2 o.2 q
  ·obtain⟨i,j,rfl,rfl⟩:=lN (by simp) h;obtain⟨D,h⟩:=p9 h;subst h;exact⟨_,_,rfl,rfl,D,rfl⟩
 |shl =>
  refine O (C:=λi j=>lg i j=true) (g:=λi j=>i*2 ^ j.toNat) (KN λi j _ _ _ _ _ o q=>?_) λx y d h=>?_
  ·unfold lg at o;simp only[Bool.and_eq_true,decide_eq_true_eq]at o;exact lshift_int_small o.1.1 o.1.2 o.2 q
  ·obtain⟨i,j,rfl,rfl⟩:=lN (by simp) h;obtain⟨D,h⟩:=p9 h;subst h;exact⟨_,_,rfl,rfl,D,rfl⟩
 |mul =>
  have V:kO X (binaryOp .Mult) (rI (λi j=>eu i j=true) λi j=>.int (i*j)):=KN λi j _ _ _ _ _ o q=>mul_int q (uU o);exact O (C:=λi j=>eu i j=true) (g:=λi j=>i*j) V λx y d h=>by
   obtain⟨i,j,rfl,rfl⟩:∃i j,x=.int i/\y=.int j:=by cases x<;>first | (cases h;done) | (cases y<;>first|exact⟨_,_,rfl,rfl⟩ | (cases h;done))
   obtain⟨D,h⟩:=p9 h;subst h;exact⟨_,_,rfl,rfl,D,rfl⟩
 |add =>
  refine PE.imp (Io ((KJ.or KI).or F2) ha hb) λσ H Q s=>?_;obtain⟨R,τ,ρ,d,w,E,s⟩:=s;refine two ⟨R,τ,ρ,d,w,E,s,λx y v u H' t e P U=>?_⟩;have hz:sizeLine=16777216:=abe;have pw:cE=1000000:=rfl;cases x with
  |int i =>
   cases y with
   |int j =>
    cases t;exact .inl (.inl ⟨i,j,P.isInt,U.isInt,s _ H' e .int⟩)
   |_=>cases t
  |lst f a =>
   cases y with
   |lst g b =>
    obtain⟨o,t⟩:=p9 t
    ·subst t;obtain⟨τt,Y,rp⟩:=P;obtain⟨TU,Z,UP⟩:=U;obtain⟨p,xs,rfl,W,J⟩:=rp.rR;cases UP with
     | @lst _ p2 B _ _ NM M =>
      refine .inl (.inr ⟨p,p2,xs,B,rfl,rfl,W.lst o.1,NM.lst o.2.1,by rw[J.length,M.length];left,λp' AO=>?_⟩);have I:aL H' (upd H' p' (.lst (xs++B))):=aL.upd AO;refine s _ _ (e.trans I) (cu.sI (e.free AO) (e.trans I) (aZ) ?_);rw[aW,List.map_append,<- aW,<- aW];exact(aE.tQ nd.rB (n:=0) (m:=0) (J.gj w Y) (M.gj w Z)).imp (λ_ _ h=>a_.same I h) λ_ _ _ _ h=>nd.same I h
   |_=>cases t
  |tup a =>
   cases y with
   |tup b =>
    obtain⟨o,t⟩:=p9 t;subst t;obtain⟨τt,Y,rp⟩:=P;obtain⟨TU,Z,UP⟩:=U;cases rp with
    | @tup _ p xs _ W J =>
     cases UP with
     | @tup _ p2 B _ NM M =>
      have hl:=J.length;have wY:=M.length;refine .inr ⟨p,p2,xs,B,rfl,rfl,W,NM,by rw[hl,wY];left,λz=>?_,λz=>?_,λp' AO=>?_⟩
      ·subst z;cases J;exact s _ H' e ⟨λ_=>none,λ_ _ h=>by simp at h,.tup NM (M.gj w Z)⟩
      ·subst z;cases M;refine s _ H' e ⟨λ_=>none,λ_ _ h=>by simp at h,.tup W ?_⟩;rw[List.append_nil];exact J.gj w Y
      ·have I:aL H' (upd H' p' (.tup (xs++B))):=aL.upd AO;refine s _ _ (e.trans I) ⟨λ_=>none,λ_ _ h=>by simp at h,.tup (a_.of aZ) ?_⟩;rw[aW,List.map_append,<- aW,<- aW];exact(aE.tQ nd.rB (n:=0) (m:=0) (J.gj w Y) (M.gj w Z)).imp (λ_ _ h=>a_.same I h) λ_ _ _ _ h=>nd.same I h
   |_=>cases t
  |_=>cases y<;>cases t
end
section
variable {T T':mZ}{N N':jf}{P:Fl->Bool}
theorem Rep.without(a:∀p xs,T p xs->T' p xs)(b:∀k k' p xs f,P f=false->N k p xs f->N' k' p xs f){k:bB}{v:V}{d:D}(h:Rep T N k v d)(e:aT P d=false)(k':bB):Rep T' N' k' v d:=by
 have:=Rep.gen (g:=id) (P:=P) (N':=N') (C:=λ_ _=>True) (I:=λ_ _=>True) a trivial (λ_ _ e=>e) (λ_ _ _ _ e _=>e) (λk k' p xs f _ e h=>b k k' p xs f e h) h (k':=k') trivial e;rw[eC]at this;exact this
theorem aE.without(a:∀p xs,T p xs->T' p xs)(b:∀k k' p xs f,P f=false->N k p xs f->N' k' p xs f){k:bB}{n:Nat}(h:aE T N k n vs ds)(e:aP P ds=false)(k':bB)(n':Nat):aE T' N' k' n' vs ds:=by
 have:=aE.gen (g:=id) (P:=P) (N':=N') (C:=λ_ _=>True) (I:=λ_ _=>True) a trivial (λ_ _ e=>e) (λ_ _ _ _ e _=>e) (λk k' p xs f _ e h=>b k k' p xs f e h) h (k':=k') (n':=n') trivial trivial e;rw[ff]at this;exact this
theorem Rep.kY(i:∀p xs,T p xs->T' p xs)(j:∀k p xs f,P f=false->N k p xs f->N' k p xs f){k:bB}{v:V}{d:D}(h:Rep T N k v d)(e:aT P d=false):Rep T' N' k v d:=by
 have:=Rep.gen (g:=id) (P:=P) (N':=N') (C:=λa b=>a=b) (I:=λa b=>a=b) i rfl (λ_ _ e=>by rw[e]) (λ_ _ _ _ a b=>by rw[a,b]) (λk k' p xs f c e h=>by subst c;exact j k p xs f e h) h rfl e;rw[eC]at this;exact this
theorem aE.kY(d:∀p xs,T p xs->T' p xs)(i:∀k p xs f,P f=false->N k p xs f->N' k p xs f){k:bB}{n:Nat}(h:aE T N k n vs ds)(e:aP P ds=false):aE T' N' k n vs ds:=by
 have:=aE.gen (g:=id) (P:=P) (N':=N') (C:=λa b=>a=b) (I:=λa b=>a=b) d rfl (λ_ _ e=>by rw[e]) (λ_ _ _ _ a b=>by rw[a,b]) (λk k' p xs f c e h=>by subst c;exact i k p xs f e h) h rfl rfl e;rw[ff]at this;exact this
end
theorem Rep.sN{k:bB}{v:V}{d:D}(h:Rep (a_ K H) (nd K R (λ_=>False) (λ_=>none) H) k v d):Rep (a_ K H) (nd K R (λ_=>False) (λ_=>none) H) k' v d:=by
 have:=Rep.jv (g:=id) (λ_ _ h=>h) nd.rB h k';rw[eC]at this;exact this
def iA(X:Cx)(R:aj)(τ:Addr->Option bB)(H:Hp)(v:V)(d:D):Prop :=
 ∃τt:Addr->Option bB,(∀p q,τt p=some q->τ p=none/\¬ R p/\X.H₀ p=none/\H p≠none)/\Rep (a_ X.K H) (nd X.K R (λ_=>False) τt H) [] v d
section
variable {X:Cx}{F R:aj}{τ:Addr->Option bB}{ρ:br}{σ:St}{H H':Hp}
noncomputable def wg(i:Nat)(τt τ:Addr->Option bB):Addr->Option bB:=λp=>match τt p with|some q=>some (q++[i])|none=>τ p
theorem SI.OZ{i:Nat}{v:V}{d:D}(a:SI X F R τ ρ σ H)(e:∀p q,τt p=some q->τ p=none/\¬ R p/\X.H₀ p=none/\H p≠none)(o:Rep (a_ X.K H) (nd X.K R (λ_=>False) τt H) [] v d)(n:i<ρ.length):SI X F R (wg i τt τ) (ρ.set i (some d)) (σ.set i (some v)) H:=by
 refine⟨by simp[a.len],λj s g=>?_,λp m=>?_,a.rh,a.rf,λp q b=>?_,λp q b=>?_,a.same⟩
 ·by_cases l:j=i
  ·subst l;rw[List.getElem?_set_self n]at g;cases g;refine⟨v,List.getElem?_set_self (by rw[<- a.len];exact n),o.imp (q':=[j]) (λ_ _ h=>h) λc p xs f h=>?_⟩;cases f with
   |ow=>rw[List.append_nil]at h;exact⟨h.1,by simp only[wg,h.2]⟩
   |fz=>exact h
   |al=>exact h
   |sc=>exact h
  ·rw[List.getElem?_set_ne (Ne.symm l)]at g;obtain⟨w,hw,r⟩:=a.rep j s g;refine⟨w,by rw[List.getElem?_set_ne (Ne.symm l)];exact hw,r.imp (λ_ _ h=>h) λc p xs f h=>?_⟩;cases f with
   |ow =>
    refine⟨h.1,?_⟩;cases q:τt p with
    |none=>simp only[wg,q];exact h.2
    |some k=>have:=(e p k q).1;rw[h.2]at this;cases this
   |fz=>exact h
   |al=>exact h
   |sc=>exact h
 ·cases q:τt p with
  |none=>simp only[wg,q];exact a.rt p m
  |some k=>exact absurd m (e p k q).2.1
 ·cases z:τt p with
  |none=>simp only[wg,z]at b;exact a.th p q b
  |some k=>exact(e p k z).2.2.2
 ·cases z:τt p with
  |none=>simp only[wg,z]at b;exact a.t0 p q b
  |some k=>exact(e p k z).2.2.1
theorem SI.set{i:Nat}{v:V}{d:D}(e:SI X F R τ ρ σ H)(r:iA X R τ H v d)(c:i<ρ.length):∃τ',SI X F R τ' (ρ.set i (some d)) (σ.set i (some v)) H:=by
 obtain⟨τt,b,a⟩:=r;exact⟨_,e.OZ b a c⟩
theorem Ae{k:bB}{v:V}{d:D}(h:Rep (a_ X.K H) (nd X.K R (λ_=>False) τ H) k v d)(a:aT cG d=false):iA X R τ H v d :=
 ⟨λ_=>none,λ_ _ h=>by simp at h,Rep.without (P:=cG) (λ_ _ h=>h) (λk k' p xs f b h=>by
  cases f with
  |ow=>cases b
  |fz=>exact h
  |al=>exact h.2.elim
  |sc=>exact h) h a _⟩
open Classical in
theorem SI.move{i:Nat}{d:D}(a:SI X F R τ ρ σ H)(t:ρ[i]?=some (some d)):∃v τ',σ[i]?=some (some v)/\SI X F R τ' (ρ.set i none) σ H/\iA X R τ' H v d:=by
 obtain⟨v,o,m⟩:=a.rep i d t;refine⟨v,λp=>match τ p with|some q=>if q.getLast?=some i then none else some q|none=>none,o,⟨by simp[a.len],λj u e=>?_,λp r=>?_,a.rh,a.rf,λp q b=>?_,λp q b=>?_,a.same⟩,
  λp=>match τ p with|some q=>if q.getLast?=some i then(if H p=none then none else some q.dropLast)else none|none=>none,λp q b=>?_,m.imp (q:=[i]) (q':=[]) (λ_ _ h=>h) λc p xs f h=>?_⟩
 ·by_cases g:j=i
  ·subst g;rw[List.getElem?_set]at e;simp at e
  ·rw[List.getElem?_set_ne (Ne.symm g)]at e;obtain⟨w,hw,n⟩:=a.rep j u e;refine⟨w,hw,n.imp (q:=[j]) (q':=[j]) (λ_ _ h=>h) λc p xs f h=>?_⟩;cases f with
   |ow =>
    refine⟨h.1,?_⟩;simp only[h.2];rw[if_neg (by simp;exact g)]
   |fz=>exact h
   |al=>exact h
   |sc=>exact h
 ·simp only[a.rt p r]
 ·cases z:τ p with
  |none=>simp only[z]at b;cases b
  |some k=>exact a.th p k z
 ·cases z:τ p with
  |none=>simp only[z]at b;cases b
  |some k=>exact a.t0 p k z
 ·cases z:τ p with
  |none=>simp only[z]at b;cases b
  |some k =>
   simp only[z]at b ⊢;by_cases l:k.getLast?=some i
   ·rw[if_pos l];exact⟨rfl,(λhR=>by have:=a.rt p hR;rw[z]at this;cases this),a.t0 p k z,a.th p k z⟩
   ·rw[if_neg l]at b;cases b
 ·cases f with
  |ow =>
   refine⟨h.1,?_⟩;have s:H p≠none:=h.1.ne;simp only[h.2];rw[if_pos (by simp),if_neg s];simp
  |fz=>exact h
  |al=>exact h.2.elim
  |sc=>exact h
theorem yU(is:aK)(ρ:br)(j:Nat)(d:D)(h:(kr is ρ)[j]?=some (some d)):∃a,ρ[j]?=some (some a)/\d=(if j∈is then aO bo a else a):=by
 unfold kr at h;rw[List.getElem?_mapIdx]at h;cases q:ρ[j]? with
 |none=>rw[q]at h;exact nk h
 |some o =>
  rw[q]at h;cases o with
  |none=>simp at h
  |some a =>
   refine⟨a,rfl,?_⟩;by_cases b:j∈is
   ·simp[b]at h ⊢;exact h.symm
   ·simp[b]at h ⊢;exact h.symm
open Classical in
theorem yV(b:SI X F R τ ρ σ H)(es:aL H H'):
  ∃R' τ',(∀p,R p->R' p)/\SI X F R' τ' (kr fv ρ) σ H'/\∀τt:Addr->Option bB,(∀p q,τt p=some q->H p=none)->∀(k k':bB) (p:Addr) (xs:Nd) (f:Fl),nd X.K R (kL (gP X F) τ fv) τt H' k p xs f->nd X.K R' (λ_=>False) (λ_=>none) H' k' p xs (bo f):=by
 have g:=b.go es;have fresh:∀p,H p=none->kL (gP X F) τ fv p:=λp a=>⟨.inr (b.same.free a),λc i e=>absurd a (b.th p _ e)⟩
 refine⟨λp=>R p\/(H' p≠none/\kL (gP X F) τ fv p),λp=>if kL (gP X F) τ fv p then none else τ p,λp h=>.inl h,⟨by simp[kr,b.len],λj x r=>?_,λp a=>?_,λp a=>?_,λp a=>?_,λp q d=>?_,λp q d=>?_,g.same⟩,λτt t k k' p xs f h=>?_⟩
 ·obtain⟨u,s,l⟩:=yU _ _ _ _ r;obtain⟨w,hw,n⟩:=g.rep j u s;refine⟨w,hw,?_⟩;by_cases m:j∈fv
  ·rw[if_pos m]at l;subst l;refine Rep.map (q:=[j]) (q':=[j]) (λ_ _ h=>h) (λc p xs f h=>?_) n [] rfl;cases f with
   |ow =>
    refine⟨h.1,.inr ⟨h.1.ne,.inr (b.t0 p _ h.2),λy v o=>?_⟩⟩;rw[h.2]at o;have:=aaV List.getLast? (aat o);simp at this;subst this;exact m
   |fz=>exact⟨h.1,.inl h.2⟩
   |al=>exact h.2.elim
   |sc=>exact h
  ·rw[if_neg m]at l;subst l;refine n.imp (q:=[j]) (q':=[j]) (λ_ _ h=>h) λc p xs f h=>?_;cases f with
   |ow =>
    refine⟨h.1,?_⟩;show(if kL (gP X F) τ fv p then none else τ p)=some (c++[j]);rw[if_neg (λz=>m (z.2 c j h.2))];exact h.2
   |fz=>exact⟨h.1,.inl h.2⟩
   |al=>exact h.2.elim
   |sc=>exact h
 ·rcases a with a|a
  ·simp only[b.rt p a];split<;>rfl
  ·rw[if_pos a.2]
 ·rcases a with a|a
  ·exact g.rh p a
  ·exact a.1
 ·rcases a with a|a
  ·exact b.rf p a
  ·exact a.2.1
 ·split at d
  ·cases d
  ·exact g.th p q d
 ·split at d
  ·cases d
  ·exact b.t0 p q d
 ·cases f with
  |ow=>exact⟨h.1,.inr ⟨h.1.ne,fresh p (t p _ h.2)⟩⟩
  |fz=>exact⟨h.1,.inl h.2⟩
  |al=>exact⟨h.1,.inr ⟨h.1.ne,h.2⟩⟩
  |sc=>exact h
theorem tj{v:V}{d:D}(g:SI X F R τ ρ σ H)(es:aL H H')(r:cu X.K (gP X F) R τ fv H H' v d):
  ∃R' τ',(∀p,R p->R' p)/\SI X F R' τ' (kr fv ρ) σ H'/\Rep (a_ X.K H') (nd X.K R' (λ_=>False) (λ_=>none) H') [] v (aO bo d):=by
 obtain⟨τt,f,a⟩:=r;obtain⟨R',τ',e,c,b⟩:=yV (fv:=fv) g es;exact⟨R',τ',e,c,Rep.jv (λ_ _ h=>h) (b τt f) a _⟩
theorem vo(f:SI X F R τ ρ σ H)(es:aL H H')(r:cP X.K (gP X F) R τ fv H H' vs ds):
  ∃R' τ',(∀p,R p->R' p)/\SI X F R' τ' (kr fv ρ) σ H'/\aE (a_ X.K H') (nd X.K R' (λ_=>False) (λ_=>none) H') [] 0 vs (aA bo ds):=by
 obtain⟨τt,e,a⟩:=r;obtain⟨R',τ',d,c,b⟩:=yV (fv:=fv) f es;exact⟨R',τ',d,c,aE.jv (λ_ _ h=>h) (b τt e) a _ _⟩
theorem nF{v:V}{d:D}(h:Rep (a_ X.K H) (nd X.K R (λ_=>False) (λ_=>none) H) [] v d):iA X R τ' H v d:=⟨λ_=>none,λ_ _ h=>by simp at h,h⟩
open Classical in
theorem Iw{e:CE}{v:V}{d:D}(c:SI X F R τ ρ σ H)(es:aL H H')(r:cu X.K (gP X F) R τ (iq e) H H' v d):
  ∃R' τ',(∀p,R p->R' p)/\SI X F R' τ' (keep e d ρ).2 σ H'/\iA X R' τ' H' v (keep e d ρ).1:=by
 unfold keep;by_cases b:aT b6 d=true
 ·rw[if_pos b];obtain⟨R',τ',n,m,l⟩:=tj c es r;exact⟨R',τ',n,m,nF l⟩
 ·obtain⟨τt,o,i⟩:=r;rw[if_neg b];refine⟨R,τ,λ_ h=>h,c.go es,λp=>if H' p=none then none else τt p,λp q g=>?_,?_⟩
  ·dsimp only at g;split at g
   ·cases g
   ·rename_i j;have a:=o p q g;refine⟨?_,λhR=>c.rh p hR a,c.same.free a,j⟩;cases z:τ p with
    |none=>rfl
    |some k=>exact absurd a (c.th p k z)
  ·have s:aT b6 d=false:=by simpa using b
   have st:∀{k:bB} {v:V} {d:D},Rep (a_ X.K H') (nd X.K R (kL (gP X F) τ (iq e)) τt H') k v d->aT b6 d=false->Rep (a_ X.K H') (nd X.K R (λ_=>False) (λp=>if H' p=none then none else τt p) H') k v d:=by
    intro k v d h b;exact Rep.kY (P:=b6) (λ_ _ h=>h) (λk p xs f a h=>by
     cases f with
     |ow=>exact⟨h.1,by show(if H' p=none then none else τt p)=_;rw[if_neg (h.1.ne)];exact h.2⟩
     |fz=>exact h
     |al=>cases a
     |sc=>exact h) h b
   exact st i s
open Classical in
def tK(X:Cx)(F:aj)(Φ:aV)(c:CE):TE:=λσ H Q=>∃R τ ρ r,SI X F R τ ρ σ H/\jV Φ c ρ=ok r/\∀v H' R' τ',aL H H'->(∀p,R p->R' p)->SI X F R' τ' r.2 σ H'->iA X R' τ' H' v r.1->Q v H'
end
section
variable {T T':mZ}{N N':jf}
theorem aE.child{q:bB}(a:∀p xs,T p xs->T' p xs)(b:∀c m p xs f,N (c++(m::q)) p xs f->N' (c++(m::q)) p xs f):∀{n:Nat} {vs:ag} {ds:af},aE T N q n vs ds->aE T' N' q n vs ds
 |_,_,_,.nil=>.nil
 |n,_,_,.cons h t=>.cons (Rep.imp (q:=n::q) (q':=n::q) a (λc p xs f h=>b c n p xs f h) h) (aE.child a b t)
theorem aE.xZ{q:bB}{v:V}{d:D}:∀{n:Nat} {vs:ag} {ds:af},aE T N q n vs ds->Rep T N ((n+ds.length)::q) v d->aE T N q n (vs++[v]) (ds++[d])
 |n,_,_,.nil,h=>.cons (by simpa using h) .nil
 |n,_,_,.cons (ds:=ds) h t,h'=>.cons h (aE.xZ t (by
   have e:n+(ds.length+1)=n+1+ds.length:=by left
   rw[List.length_cons,e]at h';exact h'))
theorem aE.setAt{q:bB}{v:V}{d:D}:∀{n j:Nat} {vs:ag} {ds:af},aE T N q n vs ds->Rep T N ((n+j)::q) v d->aE T N q n (vs.set j v) (ds.set j d)
 |_,_,_,_,.nil,_=>by simp;exact .nil
 |_,0,_,_,.cons _ t,h'=>.cons (by simpa using h') t
 |n,j+1,_,_,.cons h t,h'=>.cons h (aE.setAt (j:=j) t (by
   have e:n+(j+1)=n+1+j:=by left
   rw[e]at h';exact h'))
end
variable {d0 d1:D}{n':Nd}
section
variable {X:Cx}{F R:aj}{τ:Addr->Option bB}{ρ:br}{σ:St}{H:Hp}
theorem SI.own{i:Nat}(d:SI X F R τ ρ σ H)(c:ρ[i]?=some (some (.lst .ow ds))):∃p xs,σ[i]?=some (some (.ref p))/\H p=some (.lst xs)/\xs.length=ds.length/\τ p=some [i]/\aE (a_ X.K H) (nd X.K R (λ_=>False) τ H) [i] 0 xs ds:=by
 obtain⟨v,b,a⟩:=d.rep i _ c;cases a with
 |lst h r=>exact⟨_,_,b,h.1,r.length,h.2,r⟩
theorem l7{H:Hp}{p:Addr}{n:Nd}{o:HO}(f:eH H p n){a:Addr}(h:a_ K H a ys):a_ K (upd H p o) a ys:=by
 obtain⟨c,i,g,j⟩:=eH.some f;have b:∀a u,H a=some u->u≠c->a≠p:=λa u e h z=>by subst z;rw[i]at e;cases e;exact h rfl
 rcases h with (h|⟨d,h⟩)|h
 ·exact .inl (.inl (by rw[bC (b a _ h λz=>g _ z.symm)];exact h))
 ·exact .inl (.inr ⟨d,by rw[bC (b a _ h λz=>j _ _ z.symm)];exact h⟩)
 ·exact .inr h
theorem SI.Pl{i m:Nat}{v:V}{d:D}{p:Addr}{n:Nd}{o:HO}(g:SI X F R τ ρ σ H)(O:ρ[i]?=some (some d0))(hv:σ[i]?=some (some (.ref p)))(hp:eH H p n)(l:τ p=some [i])
  (rs:aE (a_ X.K H) (nd X.K R (λ_=>False) τ H) [i] 0 xs ds) (rk:iA X R τ H v d) (yK:eH (upd H p o) p n')
  (mk:∀{N:jf},N [i] p n' .ow->aE (a_ X.K (upd H p o)) N [i] 0 xs' ds'->Rep (a_ X.K (upd H p o)) N [i] (.ref p) d1)
  (hb:∀{N:jf},aE (a_ X.K (upd H p o)) N [i] 0 xs ds->Rep (a_ X.K (upd H p o)) N (m::[i]) v d->aE (a_ X.K (upd H p o)) N [i] 0 xs' ds') :
  ∃τ',SI X F R τ' (ρ.set i (some d1)) σ (upd H p o)/\τ' p=some [i]/\aE (a_ X.K (upd H p o)) (nd X.K R (λ_=>False) τ' (upd H p o)) [i] 0 xs' ds':=by
 obtain⟨τt,b,rp⟩:=rk;have NO:i<ρ.length:=by
  by_cases z:i<ρ.length
  ·exact z
  ·rw[List.getElem?_eq_none (by left)]at O;cases O
 obtain⟨o0,NK,Qz,NJ⟩:=eH.some hp;have E:∀a,R a->a≠p:=λa s e=>by subst e;rw[g.rt _ s]at l;cases l
 have M:∀a q,τt a=some q->a≠p:=λa q e z=>by subst z;rw[(b _ q e).1]at l;cases l
 have I:∀a u,H a=some u->u≠o0->a≠p:=λa u e h z=>by subst z;rw[NK]at e;cases e;exact h rfl
 have keep:∀a,a≠p->(upd H p o) a=H a:=λa h=>bC h;have L:∀a ys,a_ X.K H a ys->a_ X.K (upd H p o) a ys:=λa ys h=>by
  rcases h with (h|⟨C,h⟩)|h
  ·exact .inl (.inl (by rw[keep a (I a _ h λz=>Qz _ z.symm)];exact h))
  ·exact .inl (.inr ⟨C,by rw[keep a (I a _ h λz=>NJ _ _ z.symm)];exact h⟩)
  ·exact .inr h
 have y:∀a (z:Nd),a≠p->eH H a z->eH (upd H p o) a z:=λa z ne h=>h.at λu e=>by rw[keep a ne];exact e
 have Y:∀{B:Addr->Option bB} q q' a (z:Nd),nd X.K R (λ_=>False) B H q a z .sc->∀t,nd X.K R (λ_=>False) t (upd H p o) q' a z .sc:=λq q' a z h t=>by
  obtain⟨ys,rfl,h⟩:=h.BJ;exact h.elim (λ⟨C,w⟩=>.inl ⟨C,by rw[keep a (I a _ w λz=>NJ _ _ z.symm)];exact w⟩) .inr
 have U:∀q a ys f,q≠[i]->nd X.K R (λ_=>False) τ H q a ys f->nd X.K R (λ_=>False) (λa=>match τt a with|some q=>some (q++[m,i])|none=>τ a) (upd H p o) q a ys f:=λq a ys f r h=>by
  cases f with
  |ow =>
   have ne:a≠p:=λz=>by
    subst z;have:=h.2.symm.trans l;exact r (aat this)
   refine⟨y a ys ne h.1,?_⟩;cases z:τt a with
   |none=>simp only[z];exact h.2
   |some k=>have:=(b a k z).1;rw[h.2]at this;cases this
  |fz=>exact⟨y a ys (E a h.2) h.1,h.2⟩
  |al=>exact h.2.elim
  |sc=>exact Y q q a ys h _
 have P:(match τt p with|some q=>some (q++[m,i])|none=>τ p)=some [i]:=by
  cases z:τt p with
  |none=>exact l
  |some k=>exact absurd rfl (M p k z)
 have W:aE (a_ X.K (upd H p o)) (nd X.K R (λ_=>False) (λa=>match τt a with|some q=>some (q++[m,i])|none=>τ a) (upd H p o)) [i] 0 xs' ds':=hb (aE.child L (λc n a ys f h=>U _ a ys f (λz=>by
  have:=aaV List.length z;simp at this) h) rs) (rp.imp (q:=[]) (q':=[m,i]) L λc a ys f h=>by
  cases f with
  |ow =>
   rw[List.append_nil]at h;exact⟨y a ys (M a _ h.2) h.1,by simp only[h.2]⟩
  |fz=>exact⟨y a ys (E a h.2) h.1,h.2⟩
  |al=>exact h.2.elim
  |sc=>exact Y _ _ a ys h _)
 refine⟨λa=>match τt a with|some q=>some (q++[m,i])|none=>τ a,⟨by simp[g.len],λj d' x=>?_,λa s=>?_,λa s=>?_,g.rf,λa q r=>?_,λa q r=>?_,?_⟩,P,W⟩
 ·by_cases J:j=i
  ·subst J;rw[List.getElem?_set_self NO]at x;cases x;exact⟨.ref p,hv,mk ⟨yK,P⟩ W⟩
  ·rw[List.getElem?_set_ne (Ne.symm J)]at x;obtain⟨u,hu,ru⟩:=g.rep j d' x;refine⟨u,hu,ru.imp (q:=[j]) (q':=[j]) L λc a ys f h=>U _ a ys f (λz=>?_) h⟩;have:=aaV List.getLast? z;simp at this;exact J this
 ·cases z:τt a with
  |none=>simp only[z];exact g.rt a s
  |some k=>exact absurd s (b a k z).2.1
 ·rw[keep a (E a s)];exact g.rh a s
 ·by_cases Z:a=p
  ·subst Z;rw[aZ];simp
  ·rw[keep a Z];cases z:τt a with
   |none=>simp only[z]at r;exact g.th a q r
   |some k=>exact(b a k z).2.2.2
 ·cases z:τt a with
  |none=>simp only[z]at r;exact g.t0 a q r
  |some k=>exact(b a k z).2.2.1
 ·intro a u e;have ne:a≠p:=λz=>by subst z;rw[g.t0 _ _ l]at e;cases e
  rw[keep a ne];exact g.same a u e
theorem SI.Pm{i m:Nat}{v:V}{d:D}{p:Addr}{n:Nd}{o:HO}(k:SI X F R τ ρ σ H)(g:ρ[i]?=some (some d0))(c:σ[i]?=some (some (.ref p)))(f:eH H p n)(e:τ p=some [i])
  (rs:aE (a_ X.K H) (nd X.K R (λ_=>False) τ H) [i] 0 xs ds) (b:iA X R τ H v d) (a:eH (upd H p o) p n')
  (mk:∀{N:jf},N [i] p n' .ow->aE (a_ X.K (upd H p o)) N [i] 0 xs' ds'->Rep (a_ X.K (upd H p o)) N [i] (.ref p) d1)
  (j:∀{N:jf},aE (a_ X.K (upd H p o)) N [i] 0 xs ds->Rep (a_ X.K (upd H p o)) N (m::[i]) v d->aE (a_ X.K (upd H p o)) N [i] 0 xs' ds') :
  ∃τ',SI X F R τ' (ρ.set i (some d1)) σ (upd H p o):=(k.Pl g c f e rs b a mk j).imp λ_ h=>h.1
theorem SI.put{i m:Nat}{v:V}{d:D}{g:ag->ag}{p:Addr}(k:SI X F R τ ρ σ H)(f:ρ[i]?=some (some (.lst .ow ds)))(b:σ[i]?=some (some (.ref p)))(e:H p=some (.lst xs))(c:τ p=some [i])
  (rs:aE (a_ X.K H) (nd X.K R (λ_=>False) τ H) [i] 0 xs ds) (a:iA X R τ H v d)
  (j:∀{N:jf},aE (a_ X.K (upd H p (.lst (g xs)))) N [i] 0 xs ds->Rep (a_ X.K (upd H p (.lst (g xs)))) N (m::[i]) v d->aE (a_ X.K (upd H p (.lst (g xs)))) N [i] 0 (g xs) ds') :
  ∃τ',SI X F R τ' (ρ.set i (some (.lst .ow ds'))) σ (upd H p (.lst (g xs))) :=
 k.Pm (n:=.l xs) (n':=.l (g xs)) f b e c rs a aZ (λh r=>.lst h r) j
end
theorem kJ{env:Env}:∀(names:List (Str×NameKind)) (b:List (Str×Addr)),(∀x,(x,NameKind.free)∈names->∃c,env.cells.lookup x=some c) ->
  ∃d,(forIn names b (λ(y:Str×NameKind) (cs:List (Str×Addr))=>do
    let (name,kind):=y
    let mut cs:=cs
    if kind==.free then cs:=(name,<- cellOf env name)::cs
    pure (ForInStep.yield cs)):Sem (List (Str×Addr)))=pure d /\
   (∀x c,d.lookup x=some c->b.lookup x=some c\/(env.cells.lookup x=some c/\(x,NameKind.free)∈names))/\(∀x,((x,NameKind.free)∈names\/(∃c,b.lookup x=some c))->∃c,d.lookup x=some c)
 |[],b,_=>⟨b,rfl,λx c h=>.inl h,λx h=>h.elim (λh=>nomatch h) id⟩
 | (n,kd)::names,b,h=>by
  by_cases i:kd=.free
  ·subst i;obtain⟨c,l⟩:=h n aae;obtain⟨d,e,k,j⟩:=kJ names ((n,c)::b) (λx a=>h x (aac _ a));refine⟨d,?_,λx f a=>?_,λx a=>?_⟩
   ·rw[List.forIn_cons];have o:cellOf env n=pure c:=by unfold cellOf;rw[l]
    simp only[beq_self_eq_true,if_true,o,pure_bind];exact e
   ·rcases k x f a with z|z
    ·by_cases g:x=n
     ·subst g;simp at z;subst z;exact .inr ⟨l,aae⟩
     ·rw[List.lookup_cons]at z;have:(x==n)=false:=by simpa using g
      rw[this]at z;exact .inl z
    ·exact .inr ⟨z.1,aac _ z.2⟩
   ·refine j x ?_;rcases a with a|⟨f,a⟩
    ·rcases List.mem_cons.mp a with z|z
     ·cases z;exact .inr ⟨c,by simp⟩
     ·exact .inl z
    ·by_cases g:x=n
     ·subst g;exact .inr ⟨c,by simp⟩
     ·refine .inr ⟨f,?_⟩;rw[List.lookup_cons];have:(x==n)=false:=by simpa using g
      rw[this];exact a
  ·obtain⟨d,e,k,j⟩:=kJ names b (λx a=>h x (aac _ a));have m:(kd==NameKind.free)=false:=by simpa using i
   refine⟨d,?_,λx f a=>(k x f a).imp id λz=>⟨z.1,aac _ z.2⟩,λx a=>j x ?_⟩
   ·rw[List.forIn_cons];simp only[m,Bool.false_eq_true,if_false,pure_bind];exact e
   ·rcases a with a|a
    ·rcases List.mem_cons.mp a with z|z
     ·cases z;exact absurd rfl i
     ·exact .inl z
    ·exact .inr a
variable {env:Env}
theorem xl{sc:Scope}(h:∀x,(x,NameKind.free)∈sc.names->∃c,env.cells.lookup x=some c):
  ∃a,closureFor sc env=pure a/\(∀x c,a.lookup x=some c->env.cells.lookup x=some c)/\(∀x,(x,NameKind.free)∈sc.names->∃c,a.lookup x=some c):=by
 obtain⟨a,e,f,d⟩:=kJ (env:=env) sc.names [] h;refine⟨a,?_,λx c b=>(f x c b).elim (λz=>by simp at z) (·.1),λx b=>d x (.inl b)⟩;unfold closureFor;simp only[bind_pure];exact e
variable {P prog:aI}{e1 e2 ka iter o target tg:Expr}{w:World}
theorem tF{A:aG}{R:Result->Shared->Prop}{s:Shared}{p:Expr}{l:aq}{scope:Scope}{it q:Value}(I:Nat->Shared->Prop)
  (turn:∀n s,I n s->wpAny (model prog w) A (pyNext it) (λr a=>match r with
   |none=>R (.ok .next) a
   |some v=>wpAny (model prog w) A (letOwnedTupleGo target it v) (λ_ a=>wpAny (model prog w) A (assign target env v) (λ_ d =>
     wpAny (model prog w) A (forIn l true λc r=>if r=true then do let ok <- isTrue c env (eval c env);pure (ForInStep.yield ok)else pure (ForInStep.yield r)) (λok b =>
      if ok=true then wpAny (model prog w) A (eval p env) (λx i =>
       wpAny (model prog w) A (call (.builtin "list.append") [q,x]) (λ_ g=>∃m,m<n/\I m g) (λ_ _=>False) i) (λ_ _=>False) b
      else ∃m,m<n/\I m b) (λ_ _=>False) d) (λ_ _=>False) a) (λ_ _=>False) a) (λ_ _=>False) s)
  (n:Nat) (h:I n s) :
  codeAny (model prog w) A (.compLoop (.ListComp p [⟨target,iter,l,0⟩] scope pos) 0 it q env) R s:=by
 refine codeAny_loop rfl I (λn s y=>?_) n h;show wpAny _ A ((compTurn (.ListComp p [⟨target,iter,l,0⟩] scope pos) 0 it q env).onRaise (λx=>do noteFrame x env;theTreesLotGoes x)) _ _ s;refine wpAny_noted ?_;rw[compTurn_list];refine aaa (ack (aaa (aay (turn n s y) (λr a k=>?_) λ_ _ f=>f.elim)));cases r with
 |none=>exact aad k
 |some v =>
  refine aaa (aay k (λ_ d e=>?_) λ_ _ f=>f.elim);refine aaa (aay e (λ_ d e=>aaa (aay e (λok b j=>?_) λ_ _ f=>f.elim)) λ_ _ f=>f.elim);cases ok with
  |false=>exact aad ⟨rfl,j⟩
  |true =>
   exact aaa (aaa (aay j (λx i u=>aaa (aay u (λ_ g t=>aad (aad ⟨rfl,t⟩)) λ_ _ f=>f.elim)) λ_ _ f=>f.elim))
noncomputable def eM(X:Cx)(N':ak)(scope:Scope)(cl:List (Str×Addr))(C:Addr)(s₀:Shared)(H₀:Hp)(fp:aS):Cx :=
 { X with N:=N',s₀:=s₀,H₀:=H₀,env:=compEnvC scope cl C X.env,outer:=X.stack,stack:=X.stack,ex:=fp,fn:=λ_=>false,pn:=[],xe:=λ_ _=>False }
theorem fZ{env:Env}:∀{names:List (Str×NameKind)} {x:Str} {kd:NameKind},(names.map λ(n,k)=>if (k==NameKind.free&&env.scope.kind==.function&&env.kindOf n==some .cell)then(n,NameKind.cell)else(n,k)).lookup x=some kd ->
  names.lookup x=some kd\/(kd=.cell/\names.lookup x=some .free)
 |[],_,_,h=>by simp at h
 | (n,k)::r,x,kd,h=>by
  rw[List.map_cons]at h;cases a:x==n with
  |true =>
   by_cases b:(k==NameKind.free&&env.scope.kind==.function&&env.kindOf n==some .cell)=true
   ·simp only[b,if_true,List.lookup_cons,a]at h;cases h;simp only[Bool.and_eq_true,beq_iff_eq]at b;refine .inr ⟨rfl,?_⟩;rw[List.lookup_cons,a,b.1.1]
   ·have c:(k==NameKind.free&&env.scope.kind==.function&&env.kindOf n==some .cell)=false:=by simpa using b
    simp only[c,Bool.false_eq_true,if_false,List.lookup_cons,a]at h;cases h;exact .inl (by rw[List.lookup_cons,a])
  |false =>
   have:List.lookup x (r.map λ(n,k)=>if (k==NameKind.free&&env.scope.kind==.function&&env.kindOf n==some .cell)then(n,NameKind.cell)else(n,k))=some kd:=by
    by_cases b:(k==NameKind.free&&env.scope.kind==.function&&env.kindOf n==some .cell)=true
    ·simp only[b,if_true,List.lookup_cons,a]at h;exact h
    ·have c:(k==NameKind.free&&env.scope.kind==.function&&env.kindOf n==some .cell)=false:=by simpa using b
     simp only[c,Bool.false_eq_true,if_false,List.lookup_cons,a]at h;exact h
   rw[List.lookup_cons,a];exact fZ this
theorem dC{env:Env}:∀{names:List (Str×NameKind)} {x:Str},names.lookup x=some .free ->
  (names.map λ(n,k)=>if (k==NameKind.free&&env.scope.kind==.function&&env.kindOf n==some .cell)then(n,NameKind.cell)else(n,k)).lookup x=some .free \/
  (names.map λ(n,k)=>if (k==NameKind.free&&env.scope.kind==.function&&env.kindOf n==some .cell)then(n,NameKind.cell)else(n,k)).lookup x=some .cell
 |[],_,h=>by simp at h
 | (n,k)::r,x,h=>by
  rw[List.map_cons];cases a:x==n with
  |true =>
   rw[List.lookup_cons,a]at h;cases h;by_cases b:(NameKind.free==NameKind.free&&env.scope.kind==.function&&env.kindOf n==some .cell)=true
   ·simp only[b,if_true,List.lookup_cons,a];exact .inr trivial
   ·have c:(NameKind.free==NameKind.free&&env.scope.kind==.function&&env.kindOf n==some .cell)=false:=by simpa using b
    simp only[c,Bool.false_eq_true,if_false,List.lookup_cons,a];exact .inl trivial
  |false =>
   rw[List.lookup_cons,a]at h;by_cases b:(k==NameKind.free&&env.scope.kind==.function&&env.kindOf n==some .cell)=true
   ·simp only[b,if_true,List.lookup_cons,a];exact dC h
   ·have c:(k==NameKind.free&&env.scope.kind==.function&&env.kindOf n==some .cell)=false:=by simpa using b
    simp only[c,Bool.false_eq_true,if_false,List.lookup_cons,a];exact dC h
theorem dQ{names:List (Str×NameKind)}{x:Str}{kd:NameKind}(h:names.lookup x=some kd):(x,kd)∈names:=abd h
structure kX(S:Sx)(n:Nat)(t:Tg)(caps:aK)(target:Expr)(sc:Scope):Prop where
 kind:sc.kind=.function
 Cm:∀y∈sc.names,y.2≠.cell
 loc:∀y∈sc.names,y.2=.local->sc.names.lookup y.1=some .local
 free:∀x,(x,NameKind.free)∈sc.names->S.sc.names.lookup x=some .cell\/S.sc.names.lookup x=some .free
 n:n=(cv target).length
 tl:∀x∈cv target,sc.names.lookup x=some .local
 nd:(cv target++gO S caps).Nodup
 cE:∀i∈caps,∃x,S.N[i]?=some x/\sc.names.lookup x=some .free
 tg:(∃x p,t=.nm 0/\target=.Name x p)\/(∃es k p,t=.tp (List.range es.length)/\target=.Tuple es k p/\es.all isNm=true)
set_option tactic.hygienic true in
theorem rH{n:Nat}{t:Tg}{sc:Scope}(h:tJ S n t caps target sc=true):kX S n t caps target sc:=by
 unfold tJ at h;simp only[Bool.and_eq_true,decide_eq_true_eq,List.all_eq_true,Bool.or_eq_true]at h;obtain⟨⟨⟨⟨⟨⟨B,b⟩,v⟩,u⟩,s⟩,r⟩,f⟩:=h;refine⟨B,λy a=>(b y a).1.1,λy a m=>?_,λx j=>?_,v,u,s,λi q=>?_,?_⟩
 ·rcases(b y a).1.2 with z|z
  ·exact absurd m z
  ·exact z
 ·rcases(b _ j).2 with (z|z)|z
  ·exact absurd rfl z
  ·exact .inl z
  ·exact .inr z
 ·have:=r i q;split at this
  ·rename_i x e;exact⟨x,e,aab this⟩
  ·cases this
 ·cases t with
  |nm i =>
   obtain⟨d,c⟩:=aM f;obtain rfl:i=0:=aab d;obtain⟨x,p,rfl⟩:=nU c;exact .inl ⟨x,p,rfl,rfl⟩
  |tp is =>
   obtain⟨C,l,g⟩:=bO f;obtain⟨k,p,rfl⟩:=jJ l;obtain⟨d,c⟩:=aM g;obtain rfl:is=_:=aab d;exact .inr ⟨C,k,p,rfl,rfl,c⟩
theorem vL{S:Sx}:∀{caps:aK},(∀i∈caps,∃x,S.N[i]?=some x)->(gO S caps).length=caps.length/\∀(j i:Nat),caps[j]?=some i->(gO S caps)[j]?=S.N[i]?
 |[],_=>⟨rfl,λj i h=>by simp at h⟩
 |i::caps,h=>by
  obtain⟨x,b⟩:=h i aae;obtain⟨d,c⟩:=vL (caps:=caps) λj a=>h j (aac _ a);have e:gO S (i::caps)=x::gO S caps:=by unfold gO;rw[List.filterMap_cons,b]
  rw[e];refine⟨by simp[d],λj k a=>?_⟩;cases j with
  |zero=>simp at a;subst a;simp[b]
  |succ j=>simp at a ⊢;exact c j k a
variable {base h' h₁:Heap}{ch fp:aS}
section
variable {X:Cx}{S:Sx}{k:Nat}{Φ:aV}{pins:ao}{σ:St}{H2:Hp}{s₂:Shared}
noncomputable def qh(n:Nat)(caps:aK)(σ:St):St:=List.replicate n none++caps.map λi=>σ[i]?.getD none
noncomputable def fq(a:au)(n:Nat):Obj:={ cls:=.type "list",data:=.seq a.toArray n }
theorem Hk{n:Nat}{t:Tg}{sc:Scope}{cl:List (Str×Addr)}(L:Lk X S k Φ)(j:kX S n t caps target sc)(a:Inv X pins σ H2 s₂)
  (h:∀x c,cl.lookup x=some c->X.env.cells.lookup x=some c) (i:∀x,(x,NameKind.free)∈sc.names->∃c,cl.lookup x=some c) (g:∀b∈fp,pZ X pins H2 b) (r:∀b∈fp,b<s₂.heap.objs.size) :
  (eM X (cv target++gO S caps) sc cl (s₂.heap.objs.size+1) s₂ H2 fp).Ok:=by
 have q:=a.l6;refine⟨a.ok.mod,j.kind,a.ok.glob,a.ok.blt,aci _,λx y c p m=>a.ok.inj x y c (h x c p) (h y c m),λx l=>?_,(λ_ _ z=>by cases z),a.ok.hd,a.ok.frames,.inl rfl,λb d=>⟨?_,λx c e=>(g b d).2.2.2.2.1 x c (h x c e)⟩,a.bs,aar a.ok.Jb a.sz,λb o e d=>?_,λb d z=>?_,a.stack,a.xW⟩
 ·have f:(relabel sc X.env).names.lookup x=some .cell\/(relabel sc X.env).names.lookup x=some .free:=l;rcases f with f|f
  ·rcases fZ f with z|z
   ·exact absurd rfl (j.Cm _ (dQ z))
   ·exact i x (dQ z.2)
  ·rcases fZ f with z|z
   ·exact i x (dQ z)
   ·cases z.1
 ·exact aao (aaE (r b d))
 ·rcases(g b d).2.2.2.1 with z|z
  ·exact a.ok.Ck b o e z
  ·exact absurd (aah (aai e) (aar a.ok.Jb z)) (aaw _)
 ·rcases List.mem_cons.mp (q b z)with w|w
  ·exact(g b d).2.1 w
  ·exact(g b d).2.2.1 w
theorem CT{n:Nat}{t:Tg}{sc:Scope}{cl:List (Str×Addr)}{tk:Nat}(L:Lk X S k Φ)(d:kX S n t caps target sc)(a:Inv X pins σ H2 s₂)
  (j:∀x c,cl.lookup x=some c->X.env.cells.lookup x=some c) (U:∀x,(x,NameKind.free)∈sc.names->∃c,cl.lookup x=some c) (GB:∀b∈fp,pZ X pins H2 b) (LK:∀b∈fp,b<s₂.heap.objs.size)
  (AQ:h₁.Ns (s₂.heap.objs.size+1) λ_=>none) (old:∀b o,s₂.heap.get? b=some o->h₁.get? b=some o) (c_:h₁.get? s₂.heap.objs.size=some (fq [] 0)) :
  Inv (eM X (cv target++gO S caps) sc cl (s₂.heap.objs.size+1) s₂ H2 fp) [(s₂.heap.objs.size,fq [] 0)] (qh n caps σ) H2 { s₂ with heap:=h₁,toks:=tk }:=by
 have Y:∀i∈caps,∃x,S.N[i]?=some x:=λi f=>let ⟨x,e,_⟩:=d.cE i f;⟨x,e⟩;obtain⟨O,M⟩:=vL Y;refine⟨Hk L d a j U GB LK,rfl,a.bare,Un.kept old,⟨_,AQ,λi x v e1 e2 e3=>?_⟩,λx c e=>?_,a.dE.fresh (aci _),λx c e=>a.ku x c (j x c e),λp hp=>?_,a.dE.kept old,?_⟩
 ·unfold qh at e2;have f:n<=i:=by
   by_cases f:i<n
   ·rw[List.getElem?_append_left (by simpa using f),List.getElem?_replicate,if_pos f]at e2;cases e2
   ·left
  have y:(cv target++gO S caps)[i]?=some x:=e1;rw[List.getElem?_append_right (by rw[<- d.n];exact f),<- d.n]at y;rw[List.getElem?_append_right (by simpa using f),List.length_replicate,List.getElem?_map]at e2;cases l:caps[i - n]? with
  |none=>rw[l]at e2;cases e2
  |some g =>
   rw[l]at e2;rw[M _ _ l]at y;obtain⟨x',W,s⟩:=d.cE g (aaz l);rw[W]at y;cases y;have J:σ[g]?=some (some v):=by
    have h:σ[g]?.getD none=some v:=aat e2;cases q:σ[g]? with
    |none=>rw[q]at h;cases h
    |some o=>rw[q]at h;simp at h;rw[h]
   have VM:M7 X.env.scope x:=by
    unfold M7;rw[L.sc];rcases d.free x (dQ s)with z|z
    ·exact .inr (.inl z)
    ·exact .inr (.inr z)
   obtain⟨m,hn,hl⟩:=a.loc;obtain⟨u,r,Z⟩:=hl g x v (by rw[L.N];exact W) J VM;refine⟨u,r,.inr ⟨?_,?_⟩⟩
   ·rcases dC (env:=X.env) s with z|z
    ·exact .inr z
    ·exact .inl z
   ·have I:∃c,X.env.cells.lookup x=some c/\s₂.heap.IsCell c (some u):=by
     rcases Z with ⟨z,_⟩|⟨_,z⟩
     ·have B:X.env.scope.names.lookup x=some .local:=z;rw[L.sc]at B;rcases d.free x (dQ s)with w|w<;>(rw[w]at B;cases B)
     ·exact z
    obtain⟨c,ec,o,C,E⟩:=I;obtain⟨c',V⟩:=U x (dQ s);have:=j x c' V;rw[ec]at this;cases this;exact⟨c,V,o,old _ _ C,E⟩
 ·obtain⟨v,o,C,E⟩:=a.cell x c (j x c e);exact⟨v,o,old _ _ C,E⟩
 ·have AO:p=(s₂.heap.objs.size,fq [] 0):=by simpa [eM]using hp
  subst AO;refine⟨c_,a.dE.fresh (aal _),aao (aaW _),λz=>?_,λv z=>by cases z⟩;rcases List.mem_cons.mp (a.l6 _ z)with w|w
  ·exact absurd w (aav a.lt)
  ·exact a.KS (aal _) w
 ·show(qh n caps σ).length=(cv target++gO S caps).length;unfold qh;rw[List.length_append,List.length_append,List.length_replicate,List.length_map,O,d.n]
end
theorem aE.snoc{T:mZ}{N:jf}{k:bB}:∀{n:Nat} {vs:ag} {ds:af} {v:V} {d:D},aE T N k n vs ds->Rep T N ((n+ds.length)::k) v d->aE T N k n (vs++[v]) (ds++[d])
 |n,_,_,_,_,.nil,h=>.cons h .nil
 |n,_,_,_,_,.cons (ds:=ds) h t,r=>.cons h (aE.snoc t (by
  have e:n+(ds.length+1)=n+1+ds.length:=by left
  rw[List.length_cons,e]at r;exact r))
open Classical in
theorem cP.snoc{K:av}{G R:aj}{τ:Addr->Option bB}{fv:aK}{H H1 H2:Hp}{v:V}{d:D}{vs:ag}{ds:af}(e1:aL H H1)(e2:aL H1 H2)(h:cP K G R τ fv H H1 vs ds)(t:cu K G R τ fv H1 H2 v d):
  cP K G R τ fv H H2 (vs++[v]) (ds++[d]):=by
 obtain⟨b,l,j⟩:=h;obtain⟨a,k,i⟩:=t;refine⟨λp=>if H1 p=none then(a p).map (· ++ [ds.length])else b p,λp q e=>?_,aE.snoc (j.imp (q:=[]) (q':=[]) (λ_ _ h=>a_.same e2 h) λc p xs f h=>?_) ((Nat.zero_add ds.length).symm▸i.imp (q:=[]) (q':=[ds.length]) (λ_ _ h=>h) λc p xs f h=>?_)⟩
 ·dsimp only at e;by_cases g:H1 p=none
  ·exact e1.free g
  ·rw[if_neg g]at e;exact l p q e
 ·have h':=nd.same e2 h;cases f with
  |ow =>
   refine⟨h'.1,?_⟩;show(if H1 p=none then(a p).map (· ++ [ds.length])else b p)=_;rw[if_neg (h.1.ne)];exact h.2
  |fz=>exact h'
  |al=>exact h'
  |sc=>exact h'
 ·cases f with
  |ow =>
   refine⟨h.1,?_⟩;show(if H1 p=none then(a p).map (· ++ [ds.length])else b p)=_;rw[if_pos (k p _ h.2),h.2];simp
  |fz=>exact h
  |al=>exact h
  |sc=>exact h
structure Yl(K:av)(J:It)(R:aj)(H1:Hp)(items:af):Prop where
 go:∀i H',aL H1 H'->i<items.length->J.go i H'
 vX:∀i H' x ox,aL H1 H'->i<items.length->J.vX i H' x ox->aL H' ox/\∃d,items[i]?=some d/\Rep (a_ K ox) (nd K R (λ_=>False) (λ_=>none) ox) [] x d
 stop:∀i H',aL H1 H'->items.length<=i->J.stop i H'
variable {C i1 i2 l1 l2:Addr}{s₂:Shared}
section
variable {X:Cx}{S:Sx}{k:Nat}{F:aj}{Φ:aV}
def l9(X:Cx)(F:aj)(τ:Addr->Option bB)(fv:aK)(H2:Hp)(p:Addr):Prop:=H2 p≠none/\kL (gP X F) τ fv p
theorem wx(a:SI X F R τ ρ σ H)(b:∀p q,τt p=some q->H p=none)(hs:∀i∈fv,i∈fv')(g d:bB)(p:Addr)(xs:Nd)(f:Fl)
  (h:nd X.K R (kL (gP X F) τ fv) τt H2 g p xs f):nd X.K (l9 X F τ fv' H2) (λ_=>False) (λ_=>none) H2 d p xs (bo f):=by
 cases f with
 |ow=>exact⟨h.1,h.1.ne,.inr (a.same.free (b p _ h.2)),λc i e=>absurd (b p _ h.2) (a.th p _ e)⟩
 |fz=>exact⟨h.1,h.1.ne,a.rf p h.2,λc i e=>by rw[a.rt p h.2]at e;cases e⟩
 |al=>exact⟨h.1,h.1.ne,h.2.mono hs⟩
 |sc=>exact h
theorem EN{a:Addr}{q:bB}(c:dY X.K H1 a xs)(rs:aE (a_ X.K H1) (nd X.K R (λ_=>False) (λ_=>none) H1) q 0 xs items):Yl X.K (N8 X.K a) R H1 items where
 go:=λi H' e b=>⟨xs,xs[i]'(by rw[rs.length];exact b),e.seq c,aas _⟩
 vX:=λi H' x l e b y=>by
  obtain⟨rfl,y⟩:=y;obtain⟨d,j,f⟩:=rs.Ai (y xs (e.seq c));refine⟨aL.refl _,d,j,?_⟩;have:=Rep.jv (g:=id) (λ_ _ h=>h) nd.rB f [];rw[eC]at this;exact this.imp (λ_ _ h=>a_.same e h) λ_ _ _ _ h=>nd.same e h
 stop:=λi H' e b=>⟨xs,e.seq c,by rw[rs.length];exact b⟩
theorem Jo{a:Addr}{q:bB}(c:a_ X.K H1 a xs)(rs:aE (a_ X.K H1) (nd X.K R (λ_=>False) (λ_=>none) H1) q 0 xs items):Yl X.K (N7 X.K a) R H1 items where
 go:=λi H' e b=>⟨xs,xs[i]'(by rw[rs.length];exact b),a_.same e c,aas _⟩
 vX:=λi H' x l e b y=>by
  obtain⟨rfl,y⟩:=y;obtain⟨d,j,f⟩:=rs.Ai (y xs (a_.same e c));refine⟨aL.refl _,d,j,?_⟩;have:=Rep.jv (g:=id) (λ_ _ h=>h) nd.rB f [];rw[eC]at this;exact this.imp (λ_ _ h=>a_.same e h) λ_ _ _ _ h=>nd.same e h
 stop:=λi H' e b=>⟨xs,a_.same e c,by rw[rs.length];exact b⟩
theorem Jp{lo:Int}{n:Nat}:Yl X.K (AH lo n) R H1 ((List.range n).map λ(k:Nat)=>D.int (lo+(k:Int))) where
 go:=λi H' e a=>by simpa [AH]using a
 vX:=λi H' x c e a y=>by
  obtain⟨rfl,rfl⟩:=y;have b:i<n:=by simpa using a
  exact⟨aL.refl _,.int (lo+i),by rw[List.getElem?_map,List.getElem?_range b];rfl,.int _⟩
 stop:=λi H' e a=>by simpa [AH]using a
theorem BE{n:Nat}{t:Tg}{sc:Scope}{cl:List (Str×Addr)}(m:SI X F R τ ρ σ H2)(hs:∀i∈caps,i∈fv):
  SI (eM X (cv target++gO S caps) sc cl C s₂ H2 fp) (kL (gP X F) τ fv) (l9 X F τ fv H2) (λ_=>none) (bF n caps ρ) (qh n caps σ) H2:=by
 refine⟨by simp[bF,qh],λi d a=>?_,λ_ _=>rfl,λp h=>h.1,λp h=>.inl h.2,λ_ _ h=>by simp at h,λ_ _ h=>by simp at h,aL.refl _⟩;unfold bF at a;have j:n<=i:=by
  by_cases j:i<n
  ·rw[List.getElem?_append_left (by simpa using j),List.getElem?_replicate,if_pos j]at a;cases a
  ·left
 rw[List.getElem?_append_right (by simpa using j),List.length_replicate,List.getElem?_map]at a;cases l:caps[i - n]? with
 |none=>rw[l]at a;exact nk a
 |some b =>
  rw[l]at a;have g:(ρ[b]?.getD none).map (aO bo)=some d:=aat a;have u:∃d0,ρ[b]?=some (some d0)/\aO bo d0=d:=by
   cases q:ρ[b]? with
   |none=>rw[q]at g;cases g
   |some o =>
    cases o with
    |none=>rw[q]at g;cases g
    |some d0=>rw[q]at g;exact⟨d0,rfl,aat g⟩
  obtain⟨d0,y,rfl⟩:=u;obtain⟨v,s,r⟩:=m.rep b d0 y;refine⟨v,?_,Rep.jv (λ_ _ h=>h) (λB z p xs f h=>?_) ((r.imp (q:=[b]) (q':=[b]) (N':=λq p xs f=>nd X.K R (λ_=>False) τ H2 q p xs f/\(f=.ow->∃c,q=c++[b])) (λ_ _ h=>h) λc p xs f h=>⟨h,λ_=>⟨c,rfl⟩⟩)) [i]⟩
  ·unfold qh;rw[List.getElem?_append_right (by simpa using j),List.length_replicate,List.getElem?_map,l];simp[s]
  ·obtain⟨h,x⟩:=h;cases f with
   |ow =>
    obtain⟨c,rfl⟩:=x rfl;refine⟨h.1,h.1.ne,.inr (m.t0 p _ h.2),λI E e=>?_⟩;rw[h.2]at e;have:=aaV List.getLast? (aat e);simp at this;subst this;exact hs _ (aaz l)
   |fz=>exact⟨h.1,h.1.ne,m.rf p h.2,λc i e=>by rw[m.rt p h.2]at e;cases e⟩
   |al=>exact h.2.elim
   |sc=>exact h
theorem Co:∀{es:aq},es.all isNm=true->∃xs:List (Str×Pos),es=xs.map λx=>Expr.Name x.1 x.2
 |[],_=>⟨[],rfl⟩
 |e::es,h=>by
  rw[List.all_cons,Bool.and_eq_true]at h;obtain⟨xs,rfl⟩:=Co h.2;obtain⟨x,p,rfl⟩:=nU h.1;exact⟨(x,p)::xs,rfl⟩
theorem wk(xs:List (Str×Pos)):(xs.map λx=>Expr.Name x.1 x.2).filterMap (λe=>match e with|.Name x _=>some x|_=>none)=xs.map (·.1):=by
 induction xs with
 |nil=>rfl
 |cons x xs a=>simp[a]
def Dz(i:Nat):Nat->HL
 |0=>L6
 |n+1=>DA (rA i) (Dz (i+1) n)
theorem yp{X:Cx}(a:X.N.Nodup):∀(xs:List (Str×Pos)) (i:Nat),(∀(j:Nat) x,xs[j]?=some x->X.N[i+j]?=some x.1/\X.env.scope.names.lookup x.1=some .local) ->
  N6 X (xs.map λx=>Expr.Name x.1 x.2) (Dz i xs.length)/\(assignEach (xs.map λx=>Expr.Name x.1 x.2) X.env).length=xs.length/\(assignEach (xs.map λx=>Expr.Name x.1 x.2) X.env).findIdx? (·.1)=none
 |[],_,_=>⟨yo,rfl,rfl⟩
 |x::xs,i,h=>by
  obtain⟨f,e,d⟩:=yp a xs (i+1) λj y c=>by
   have:=h (j+1) y (by simpa using c)
   rwa [show i+(j+1)=i+1+j by left]at this
  obtain⟨g,b⟩:=h 0 x rfl;refine⟨uL (sC a g (.inl b) (.inr b)) f rfl,?_,?_⟩
  ·show(_::assignEach _ X.env).length=_;rw[List.length_cons,e];rfl
  ·show(((false,assign (.Name x.1 x.2) X.env)::assignEach (xs.map λx=>Expr.Name x.1 x.2) X.env)).findIdx? (·.1)=none;rw[List.findIdx?_cons];simp[d]
end
section
variable {X:Cx}{F R:aj}{τ:Addr->Option bB}{ρ:br}{σ σ':St}{H:Hp}
theorem SI.O2{i:Nat}{v:V}{d:D}(a:SI X F R τ ρ σ H)(k:Rep (a_ X.K H) (nd X.K R (λ_=>False) (λ_=>none) H) [] v d)(g:i<ρ.length):SI X F R τ (ρ.set i (some d)) (σ.set i (some v)) H:=by
 refine⟨by simp[a.len],λj m b=>?_,a.rt,a.rh,a.rf,a.th,a.t0,a.same⟩;by_cases e:j=i
 ·subst e;rw[List.getElem?_set_self g]at b;cases b;refine⟨v,List.getElem?_set_self (by rw[<- a.len];exact g),k.imp (q':=[j]) (λ_ _ h=>h) λc p xs f h=>?_⟩;cases f with
  |ow=>exact nomatch h.2
  |fz=>exact h
  |al=>exact h
  |sc=>exact h
 ·rw[List.getElem?_set_ne (Ne.symm e)]at b;obtain⟨w,hw,l⟩:=a.rep j m b;exact⟨w,by rw[List.getElem?_set_ne (Ne.symm e)];exact hw,l⟩
theorem SI.sig(a:SI X F R τ ρ σ H)(c:σ'.length=σ.length)(h:∀(i:Nat) d,ρ[i]?=some (some d)->σ'[i]?=σ[i]?):SI X F R τ ρ σ' H :=
 ⟨by rw[c];exact a.len,λi d b=>let ⟨v,hv,r⟩:=a.rep i d b;⟨v,by rw[h i d b];exact hv,r⟩,a.rt,a.rh,a.rf,a.th,a.t0,a.same⟩
theorem oN{Q:St->Hp->Prop}(a:St)(c:Nat):∀{m i:Nat} {vs:ag} {ds:af} {g:bB} {q:Nat} {σ:St} {ρ b:br},i+m=c->aE (a_ X.K H) (nd X.K R (λ_=>False) (λ_=>none) H) g q vs ds->SI X F R τ ρ σ H->fH (List.range' i m) ds ρ=ok b ->
  σ.length=a.length->(∀j,c<=j->σ[j]?=a[j]?)->(∀σ',σ'.length=a.length->(∀j,c<=j->σ'[j]?=a[j]?)->SI X F R τ b σ' H->Q σ' H)->Dz i m vs σ H Q
 |0,_,_,_,_,_,σ,_,_,_,.nil,Si,e,h1,h2,hq=>by
  cases e;exact⟨rfl,hq σ h1 h2 Si⟩
 |0,_,_,_,_,_,_,_,_,_,.cons _ _,_,e,_,_,_=>by cases e
 |m+1,_,_,_,_,_,_,_,_,_,.nil,_,e,_,_,_=>by cases e
 |m+1,i,_,_,_,_,σ,ρ,_,him,.cons (v:=v) (d:=d) h t,Si,e,h1,h2,hq=>by
  change (if _ then _ else _)=_ at e;split at e
  ·rename_i f;have l:=Si.O2 (i:=i) (Rep.sN h) f;refine⟨_,_,rfl,oN a c (by left) t l e (by simpa using h1) (λj k=>?_) hq⟩;rw[List.getElem?_set_ne (by left)];exact h2 j k
  ·cases e
end
section
variable {X:Cx}{S:Sx}{k:Nat}{F:aj}{Φ:aV}
set_option tactic.hygienic true in
theorem JJ{n:Nat}{t:Tg}{sc:Scope}{cl:List (Str×Addr)}(QQ:X.calm=true)(m:kX S n t caps target sc):
  ∃g,PG (eM X (cv target++gO S caps) sc cl C s₂ H2 fp) target g/\∀(u R':aj) (x:V) (d:D) (b:St) (h:Hp) (Q:St->Hp->Prop) (c ρ1:br),
   SI (eM X (cv target++gO S caps) sc cl C s₂ H2 fp) u R' (λ_=>none) c b h->Rep (a_ X.K h) (nd X.K R' (λ_=>False) (λ_=>none) h) [] x d->aT cG d=false->cB t d c=ok ρ1 ->
   (∀f,f.length=b.length->(∀j,n<=j->f[j]?=b[j]?)->SI (eM X (cv target++gO S caps) sc cl C s₂ H2 fp) u R' (λ_=>none) ρ1 f h->Q f h)->g x b h Q:=by
 have J:∀x∈cv target,(relabel sc X.env).names.lookup x=some .local:=λx W=>lookup_relabel_local (m.tl x W);rcases m.tg with ⟨x,p,rfl,rfl⟩|⟨es,q,p,rfl,rfl,Ab⟩
 ·have M:n=1:=m.n;subst M;refine⟨rA 0,sC m.nd rfl (.inl (J x (List.mem_singleton.mpr rfl:x∈[x]))) (.inr (J x (List.mem_singleton.mpr rfl:x∈[x]))),λu R' v d b h Q c ρ1 I z _ e B=>?_⟩;simp only[cB]at e;split at e
  ·rename_i Z;cases e;refine B _ (by simp) (λj s=>?_) (I.O2 z Z);rw[List.getElem?_set_ne (by left)]
  ·cases e
 ·obtain⟨xs,rfl⟩:=Co Ab;have E:cv (.Tuple (xs.map λx=>Expr.Name x.1 x.2) q p)=xs.map (·.1):=wk xs;have M:n=xs.length:=by rw[m.n,E,List.length_map]
  have:=yp (X:=eM X (cv (.Tuple (xs.map λx=>Expr.Name x.1 x.2) q p)++gO S caps) sc cl C s₂ H2 fp) m.nd xs 0 (λj y r=>by
   refine⟨?_,J y.1 (by rw[E];exact List.mem_map.mpr ⟨y,aaz r,rfl⟩)⟩;show(cv (.Tuple (xs.map λx=>Expr.Name x.1 x.2) q p)++gO S caps)[0+j]?=_;have s:j<xs.length:=by
    by_cases s:j<xs.length
    ·exact s
    ·rw[List.getElem?_eq_none (by left)]at r;cases r
   rw[E,Nat.zero_add,List.getElem?_append_left (by simpa using s),List.getElem?_map,r];rfl)
  obtain⟨h1,h2,h3⟩:=this;refine⟨_,wD QQ h1 h2 h3,λu R' v d b h Q c ρ1 I z ho e B=>?_⟩;cases d<;>try (simp[cB]at e;done)
  rename_i ds;simp only[cB]at e;split at e
  ·cases e
  ·cases z with
   | @tup _ a ys _ Y L =>
    rw[List.length_map]at e;have O:fH (List.range' 0 xs.length) ds c=ok ρ1:=by rw[<- List.range_eq_range'];exact e
    refine⟨a,ys,rfl,Y,?_,oN (X:=eM X (cv (.Tuple (xs.map λx=>Expr.Name x.1 x.2) q p)++gO S caps) sc cl C s₂ H2 fp) b n (by left) L I O rfl (λ_ _=>rfl) B⟩;rw[L.length];have:∀(is:aK) (ds:af) (ρ l:br),fH is ds ρ=ok l->ds.length=is.length:=by
     intro is;induction is with
     |nil=>intro ds ρ l e;cases ds with|nil=>rfl|cons _ _=>cases e
     |cons i is U=>intro ds ρ l e;cases ds with
      |nil=>cases e
      |cons d ds =>
       change (if _ then _ else _)=_ at e;split at e
       ·simp[U ds _ _ e]
       ·cases e
    rw[this _ _ _ _ O,List.length_range']
theorem Yh:∀f:Fl,cG (bo f)=false:=by intro f;cases f<;>rfl
mutual
theorem F6:∀d:D,aT cG (aO bo d)=false
 |.cq=>by simp[aO,aT]
 |.bl _=>by simp[aO,aT]
 |.int _=>by simp[aO,aT]
 |.tup ds=>by simp[aO,aT,h_ ds]
 |.lst f ds=>by simp[aO,aT,h_ ds,Yh]
 |.cg f a vs=>by simp[aO,aT,h_ vs,Yh]
theorem h_:∀ds:af,aP cG (aA bo ds)=false
 |[]=>by simp[aA,aP]
 |d::ds=>by simp[aA,aP,F6 d,h_ ds]
end
theorem yJ{h:Heap}{a:Addr}{o:HO}(x:mF H h)(f:H a=none)(c:cQ (upd H a o) h a o):mF (upd H a o) h:=λb u e=>by
 by_cases d:b=a
 ·subst d;rw[aZ]at e;cases e;exact c
 ·rw[bC d]at e;exact(x b u e).oK λ_ q=>q
structure CAt(X X':Cx)(F' R':aj)(n:Nat)(base:br)(σ0:St)(fp:aS)(tn:Nat->Heap->Prop)(H2:Hp)(D:Addr)(items:List DI.D)(bind:DI.D->O br)(test:br->O Bool)(el:br->O DI.D)(all:List DI.D)(m:Nat)(s':Shared):Prop where
 ex:∃(i:Nat) (vs:ag) (aJ:au) (nn:Nat) (σ':St) (H':Hp) (dn rest:List DI.D),m=items.length - i/\i<=items.length/\Inv X' [(D,fq aJ nn)] σ' H' s'/\tn i s'.heap/\(∀b∈fp,H' b=none)/\Vals vs aJ/\aL H2 H' /\
  SI X' F' R' (λ_=>none) base σ' H'/\cP X.K (gP X' F') R' (λ_=>none) [] H2 H' vs dn/\i9 bind test el (items.drop i)=ok rest/\dn++rest=all
end
theorem cP.go(h:cP K G R τ fv H H1 vs ds)(e:aL H1 H2):cP K G R τ fv H H2 vs ds :=
 let ⟨τt,h1,h2⟩:=h;⟨τt,h1,h2.imp (λ_ _ h=>a_.same e h) λ_ _ _ _ h=>nd.same e h⟩
theorem oW:∀{ds:af} {d:D},aP cG ds=false->d∈ds->aT cG d=false
 |[],_,_,h=>nomatch h
 |e::ds,d,h,hm=>by
  rw[aP,Bool.or_eq_false_iff]at h;rcases List.mem_cons.mp hm with rfl|z
  ·exact h.1
  ·exact oW h.2 z
theorem zH{d:D}(h:oP d=ok items):∀d∈items,aT cG d=false:=by
 unfold oP at h;split at h
 ·cases h;exact λd a=>oW (h_ _) a
 ·cases h
theorem wU{b:IK}{xs:af}(h:dN Φ b xs=ok items):∀d∈items,aT cG d=false:=by
 cases b with
 |cm p=>obtain⟨d,_,h⟩:=aD h;exact zH h
 |mO =>
  cases xs with
  |nil=>cases h
  |cons x t=>cases x<;>first | (cases h;done) | (cases t with
   |cons _ _=>cases h
   |nil =>
    obtain⟨_,h⟩:=p9 h;subst h;intro d a;obtain⟨k,_,rfl⟩:=List.mem_map.mp a;rfl)
 |seq =>
  cases xs with
  |nil=>cases h
  |cons x t=>cases x<;>first | (cases h;done) | (cases t with
   |cons _ _=>cases h
   |nil=>cases h;exact λd a=>oW (h_ _) a)
theorem wW{n:Nat}{i:Nat}{d:D}(h:(bF n caps ρ)[i]?=some (some d)):n<=i:=by
 unfold bF at h;by_cases a:i<n
 ·rw[List.getElem?_append_left (by simpa using a),List.getElem?_replicate,if_pos a]at h;cases h
 ·left
variable {c' elt:CE}{bX cs es:aF}
section
variable {X:Cx}{S:Sx}{k:Nat}{F:aj}{Φ:aV}
theorem CF{n:Nat}{t:Tg}{sc:Scope}{cl:List (Str×Addr)}(L:Lk X S k Φ)(a:kX S n t caps target sc):
  Lk (eM X (cv target++gO S caps) sc cl C s₂ H2 fp) (S.inner target caps sc) k Φ:=by
 refine⟨?_,rfl,a.nd,L.calm,L.room,L.bl,λf x h=>⟨(L.fn f x h).ex⟩,L.cs,L.pr⟩;show relabel sc X.env=uE sc S.sc;rw[<- L.sc];rfl
theorem vF(L:Lk X S k Φ){n:Nat}{t:Tg}{ik:IK}{ifs:aq}{sc:Scope}(co:kX S n t caps target sc)(AQ:qV iter=true)
    (hE:∀(B:Cx) (Z:aj),Lk B (S.inner target caps sc) k Φ->PE B ka (tD B Z Φ elt))
    (hC:(bX=[]/\ifs=[])\/∃c e,bX=[c]/\ifs=[e]/\∀(B:Cx) (Z:aj),Lk B (S.inner target caps sc) k Φ->PT B e (gy B Z Φ c))
    (hI:∀(pins:ao) (s:Shared) (σ:St) (H:Hp) (R:aj) (τ:Addr->Option bB) (ρ:br) (xs items:af),Inv X pins σ H s->SI X F R τ ρ σ H->cJ Φ es ρ=ok xs->dN Φ ik xs=ok items->∀Rr:It->Hp->Prop,
      (∀J H2,aL H H2->Yl X.K J (l9 X F τ (caps++d4 es) H2) H2 items->Rr J H2)->wpAny (model X.prog X.w) X.A (eval iter X.env) (λv V=>wpAny (model X.prog X.w) X.A (pyIter v) (EF X pins σ target Rr) X.xe V) X.xe s)
    {use:Option (Value->Sem Unit)} {Post:aB} {pins:ao} {s:Shared} {d:D} {W9:Pos} (I:Inv X pins σ H s) (Si:SI X F R τ ρ σ H) (ev:bG Φ (.comp n t caps ik es bX elt) ρ=ok d)
    (QA:∀(acc C:Addr) (H1:Hp) (V:Shared) (m:bp),V.heap.Ns C m->(C≠X.env.locals/\X.s₀.heap.objs.size<=C/\(∀x c,X.env.cells.lookup x=some c->c≠C)/\(∀p∈X.pn++pins,p.1≠C)/\H1 C=none)->(∀h',Heap.SameBut C V.heap h'->Inv X pins σ H1 { V with heap:=h' })->aL H H1 ->
      cu X.K (gP X F) R τ (iq (.comp n t caps ik es bX elt)) H H1 (.ref acc) d->compPost (model X.prog X.w) X.A X.xe use Post (.ref acc) C (.ok .next) V) :
    wpAny (model X.prog X.w) X.A (comprehension (.ListComp ka [⟨target,iter,ifs,0⟩] sc pos) sc X.env W9 (newList []) false (eval iter X.env) use) Post X.xe s:=by
  obtain⟨xs,cN,ev⟩:=aD ev;obtain⟨items,xf,ev⟩:=aD ev;obtain⟨ds,Mz,ev⟩:=aD ev;simp only[IC]at ev;obtain⟨pw,rfl⟩:=ev;have QE:=wU xf;obtain⟨cl,QP,nr,w4⟩:=xl (env:=X.env) (sc:=sc) (λx hx=>I.ok.has x (by
    show X.env.scope.names.lookup x=some .cell\/X.env.scope.names.lookup x=some .free;rw[L.sc];exact co.free x hx))
  have pv:∀x,foldedSetIterable iter X.env x=pure x:=by intro x;cases iter<;>first|rfl | (cases AQ;done)
  refine wpAny_comprehension_free (use:=use) rfl pv QP co.kind co.loc (aay (hI pins s σ H R τ ρ xs items I Si cN xf (λJ H2=>aL H H2/\Yl X.K J (l9 X F τ (caps++d4 es) H2) H2 items) (λJ H2 e y=>⟨e,y⟩)) (λxv s₁ h₁=>aay h₁ (λVs s₂ h₂=>?_) λ_ _ e=>e) λ_ _ e=>e);obtain⟨it,fp,tn,J,H2,rfl,I2,T,OU,f2,e2,yl⟩:=h₂;have vU:=Si.go e2;have LK:∀b∈fp,b<s₂.heap.objs.size:=λb l=>let ⟨o,ho,_⟩:=T.obj 0 _ OU b l;aai ho;refine aaD (wpAny_newFunctionEnv co.Cm (by intro y hy;simp at hy) (λh₁ sU pq=>?_) co.kind);dsimp only at sU pq ⊢;generalize WE:s₂.heap.push { cls:=.type "list",dict:=none,data:=.seq ([]:au).toArray }=G2 at sU pq ⊢;have Za:G2.objs.size=s₂.heap.objs.size+1:=by rw[<- WE,Heap.size_push]
  have Ti:s₂.heap.objs.size≠s₂.heap.objs.size+1:=aao (aaW _);rw[Za]at sU pq;have old:∀b o,s₂.heap.get? b=some o->h₁.get? b=some o:=λb o e=>pq.extBut b o (aao (aaE (aai e))) (aag _ (WE▸aag _ e));have c_:h₁.get? s₂.heap.objs.size=some (fq [] 0):=pq.extBut _ _ Ti (aag _ (WE▸aam _ rfl))
  let B:=eM X (cv target++gO S caps) sc cl (s₂.heap.objs.size+1) s₂ H2 fp
  let Z:=kL (gP X F) τ (caps++d4 es)
  let R':=l9 X F τ (caps++d4 es) H2
  have L':Lk B (S.inner target caps sc) k Φ:=CF L co;have I4:=λtk=>CT (h₁:=h₁) (tk:=tk) L co I2 nr w4 f2 LK (by simpa using sU) old c_;have S4:SI B Z R' (λ_=>none) (bF n caps ρ) (qh n caps σ) H2:=BE (t:=t) vU (λi hi=>by simp[hi]);obtain⟨g,hg,Aa⟩:=JJ (X:=X) (S:=S) (cl:=cl) (fp:=fp) (s₂:=s₂) (H2:=H2) (C:=s₂.heap.objs.size+1) L.calm co;have WG:s₂.heap.objs.size∉B.fs:=λz=>by
    rcases List.mem_cons.mp (I2.l6 _ z)with w|w
    · exact absurd w (aav I2.lt)
    · exact I2.KS (aal _) w
  have LO:∀x c,cl.lookup x=some c->c≠s₂.heap.objs.size:=λx c e=>by
    obtain⟨v,q⟩:=I2.cell x c (nr x c e);exact aao q.lt
  have GA:∀b∈fp,b≠B.env.locals/\b∉B.fs/\(b∈B.ex\/B.s₀.heap.objs.size<=b)/\(∀x c,B.env.cells.lookup x=some c->c≠b):=λb l =>
    ⟨aao (aaE (LK b l)),λz=>by
      rcases List.mem_cons.mp (I2.l6 b z)with w|w
      · exact(f2 b l).2.1 w
      · exact(f2 b l).2.2.1 w,.inl l,λx c e=>(f2 b l).2.2.2.2.1 x c (nr x c e)⟩
  have QL:∀b∈fp,b≠s₂.heap.objs.size:=λb l=>aao (LK b l);have fin:∀(vs:ag) (O:au) (nn:Nat) (M:St) (H':Hp) (V:Shared),Inv B [(s₂.heap.objs.size,fq O nn)] M H' V->Vals vs O->aL H2 H'->cP X.K (gP B Z) R' (λ_=>none) [] H2 H' vs ds ->
      compPost (model X.prog X.w) X.A X.xe use Post (.ref s₂.heap.objs.size) (s₂.heap.objs.size+1) (.ok .next) V:=by
    intro vs O nn M H' V I1 rv sm FH;obtain⟨m,hn,_⟩:=I1.loc;obtain⟨pD,nD,_,_,_⟩:=I1.pin (s₂.heap.objs.size,fq O nn) (aan _ aae);have bs:=I1.base;have Ir:∀b o,s₂.heap.get? b=some o->b≠s₂.heap.objs.size+1:=λb o e=>aao (aaE (aai e));have neD:∀b o,s₂.heap.get? b=some o->b≠s₂.heap.objs.size:=λb o e=>aao (aai e);have X0:∀b u,H' b=some u->upd H' s₂.heap.objs.size (.lst vs) b=some u:=λb u e=>by rw[bC (fY e nD)];exact e
    have hlen:vs.length<=sizeLine:=by
      obtain⟨_,_,rr⟩:=FH;have hz:sizeLine=16777216:=abe;have hc:cE=1000000:=rfl;rw[rr.length];left
    have IX:∀h',Heap.SameBut (s₂.heap.objs.size+1) V.heap h'->Inv X pins σ (upd H' s₂.heap.objs.size (.lst vs)) { V with heap:=h' }:=λh' CZ=>by
      have un:Un (AW X.stack) fp H2 (upd H' s₂.heap.objs.size (.lst vs)) s₂.heap h' :=
        ⟨λb o e n l hx=>CZ.extBut b o (Ir b o e) (bs.keep b o e n l hx),
         λb o e n l hx=>let ⟨sl,q⟩:=bs.slot b o e n l hx;⟨sl,CZ.extBut b _ (Ir b o e) q⟩,
         λb o e n hx=>by rw[bC (neD b o e)];exact bs.free b o e n hx,
         λb o e hx=>let ⟨o',q⟩:=bs.there b o e hx;⟨o',CZ.extBut b _ (Ir b o e) q⟩,
         λb xs e=>X0 b _ (bs.rT b xs e),λb o u e=>X0 b _ (bs.qr b o u e)⟩
      have V2:mF H' h':=λa o e=>(I1.dE a o e).oK λu q=>CZ.extBut a u (by
        rintro rfl;have hf:H' (s₂.heap.objs.size+1)=none:=I1.free;rw[hf]at e;cases e) q
      have V1:mF (upd H' s₂.heap.objs.size (.lst vs)) h':=yJ V2 nD ⟨hlen,O,nn,rv,CZ.extBut _ _ Ti pD⟩;exact I2.RH (ch:=fp) I1.os un V1 I1.bare λb l=>⟨(f2 b l).2.2.2.1,(f2 b l).2.1,(f2 b l).2.2.2.2.1,(f2 b l).2.2.2.2.2⟩
    have eS:aL H' (upd H' s₂.heap.objs.size (.lst vs)):=aL.upd nD;obtain⟨τt,fr,rs⟩:=FH;have Vf:s₂.heap.objs.size+1≠s₂.heap.objs.size:=Nat.succ_ne_self _;refine QA s₂.heap.objs.size (s₂.heap.objs.size+1) _ V m hn ⟨aav (aaE I2.lt),aco I2.sz,λx c e=>?_,λp hp=>?_,?_⟩ IX ((e2.trans sm).trans eS) ⟨λq=>if q=s₂.heap.objs.size then some []else τt q,λq z hz=>?_,.lst ⟨aZ,by simp⟩ (aE.map (q:=[]) (q':=[]) (λ_ _ h=>a_.same eS h) (λc p ys f h=>?_) rs [] rfl)⟩
    · obtain⟨v,z⟩:=I2.cell x c e
      exact aao (aaE z.lt)
    · exact aao (aaE (aai (I2.pin p hp).1))
    · rw[bC Vf];exact I1.free
    · by_cases wX:q=s₂.heap.objs.size
      · rw[wX];exact e2.free (sm.free nD)
      · simp only[wX,if_false]at hz;exact e2.free (fr q z hz)
    · have h':=nd.same eS h
      have XC:∀p,gP B Z p->kL (gP X F) τ (caps++d4 es) p:=λp hp=>hp.elim id λz=>⟨.inr (vU.same.free z),λc i e=>absurd z (vU.th p _ e)⟩
      cases f with
      |ow =>
        have wX:p≠s₂.heap.objs.size:=by
          intro z;subst z;exact h.1.ne nD
        refine⟨h'.1,?_⟩;show(if p=s₂.heap.objs.size then some []else τt p)=_;rw[if_neg wX];exact h'.2
      |fz=>exact⟨h'.1,h'.2.2⟩
      |al=>exact⟨h'.1,XC p h'.2.1⟩
      |sc=>exact h'
  have Z7:∀(P:ao) (ρ1:br) (b:Bool) (E:St) (H5:Hp) (s6:Shared),i8 Φ bX ρ1=ok b->Inv B P E H5 s6->SI B Z R' (λ_=>none) ρ1 E H5 ->
      wpAny (model X.prog X.w) X.A (forIn ifs true λc r=>if r=true then do let ok <- isTrue c B.env (eval c B.env);pure (ForInStep.yield ok)else pure (ForInStep.yield r)) (λVb s7=>Vb=b/\∃H7,Inv B P E H7 s7/\aL H5 H7) (λ_ _=>False) s6:=by
    intro P ρ1 b E H5 s6 eb I6 S6;rcases hC with ⟨rfl,rfl⟩|⟨c,e,rfl,rfl,hPT⟩
    · rw[i8]at eb;cases eb
      exact wpAny_tests_nil ⟨rfl,H5,I6,aL.refl _⟩
    · rw[i8]at eb
      obtain⟨b',eb',eb⟩:=aD eb;have l:b'=b:=by
        cases b' with
        |true=>rw[if_pos rfl,i8]at eb;cases eb;rfl
        |false=>rw[if_neg (by simp)]at eb;cases eb;rfl
      subst l;refine wpAny_tests_one (aay (hPT B Z L' P s6 E H5 (λZE H7=>ZE=b'/\aL H5 H7) I6 ⟨R',_,ρ1,b',S6,eb',λH7 e7=>⟨rfl,e7⟩⟩) (λZE s7 ⟨H7,I7,l,e7⟩=>⟨l,H7,I7,e7⟩) λ_ _ e=>e)
  have loop:∀tk,codeAny (model X.prog X.w) X.A (.compLoop (.ListComp ka [⟨target,iter,ifs,0⟩] sc pos) 0 (.ref it) (.ref s₂.heap.objs.size) B.env)
      (compPost (model X.prog X.w) X.A X.xe use Post (.ref s₂.heap.objs.size) (s₂.heap.objs.size+1)) { s₂ with heap:=h₁,toks:=tk }:=by
    intro tk;refine tF (CAt X B Z R' n (bF n caps ρ) (qh n caps σ) fp tn H2 s₂.heap.objs.size items (λd=>cB t d (bF n caps ρ)) (λρ'=>i8 Φ bX ρ') (λρ'=>bG Φ elt ρ') ds) ?_ items.length
      ⟨0,[],[],0,qh n caps σ,H2,[],ds,rfl,aaH _,I4 tk,T.keep _ _ _ OU (λb _ o e=>old b o e),λb l=>(f2 b l).1,.nil,aL.refl _,S4,.nil,by rw[List.drop_zero];exact Mz,rfl⟩
    rintro m s' ⟨i,vs,O,nn,M,H',dn,rest,hm,hi,I',qe,fr',rv,sm,gJ,FH,W,U⟩;have L9:∀b∈fp,pZ B [(s₂.heap.objs.size,fq O nn)] H' b:=λb l=>⟨fr' b l,(GA b l).1,(GA b l).2.1,(GA b l).2.2.1,(GA b l).2.2.2,λp hp=>by
      have AO:p=(s₂.heap.objs.size,fq O nn):=by simpa [B,eM]using hp
      rw[AO];exact(QL b l).symm⟩
    by_cases gD:i<items.length
    · refine aay (T.item B rfl rfl rfl L.calm i _ s' M H' (λ_ _=>False) I' L9 qe (yl.go i H' sm gD)) (λr V h4=>?_) λ_ _ e=>e
      obtain⟨u,hr,h4⟩:=h4;subst hr;refine aay h4 (λ_ s5 h5=>?_) λ_ _ e=>e;obtain⟨x,H5,I5,r5,y5,JU,W8⟩:=h5;obtain⟨e5,dd,hd,rd⟩:=yl.vX i H' x H5 sm gD y5;have XJ:=I5.pinned (fp:=fp) (λb l=>⟨W8 b l,(L9 b l).2⟩) (T.obj _ _ JU);have vk:items.drop i=dd::items.drop (i+1):=by
        rw[List.drop_eq_getElem_cons gD];rw[List.getElem?_eq_getElem gD]at hd;cases hd;rfl
      rw[vk,i9]at W;obtain⟨ρ1,eb,W⟩:=aD W;obtain⟨bb,et,W⟩:=aD W;refine aay (hg _ s5 M H5 x u (λE H6=>H6=H5/\E.length=M.length/\(∀j,n<=j->E[j]?=M[j]?)/\SI B Z R' (λ_=>none) ρ1 E H5) XJ r5
        (Aa Z R' x dd M H5 _ (bF n caps ρ) ρ1 (gJ.go e5) rd (QE dd (aaz hd)) eb λE g1 g2 g3=>⟨rfl,g1,g2,g3⟩)) (λ_ s6 h6=>?_) λ_ _ e=>e
      obtain⟨E,H6,I6,rfl,g1,g2,S6⟩:=h6;refine aay (Z7 _ ρ1 bb E H6 s6 et I6 S6) (λVb s7 h7=>?_) λ_ _ e=>e;obtain⟨rfl,H7,I7,e7⟩:=h7;have T5:∀{P:ao} {σ3:St} {Y:Hp} {s8:Shared},Inv B (P++jr fp s5.heap) σ3 Y s8->tn (i+1) s8.heap/\∀b∈fp,Y b=none:=λ{P σ3 Y s8} I8 =>
        ⟨T.keep _ _ _ JU λb l o e=>(I8.pin (b,o) (aan _ (aan _ (iH l e)))).1,λb l=>by
          obtain⟨o,e,_⟩:=T.obj _ _ JU b l;exact(I8.pin (b,o) (aan _ (aan _ (iH l e)))).2.1⟩
      have Jc:∀{Y:Hp},aL H7 Y->SI B Z R' (λ_=>none) (bF n caps ρ) E Y:=λ{Y} e8=>(gJ.go ((e5.trans e7).trans e8)).sig g1 λj d hj=>g2 j (wW hj);cases Vb with
      |false =>
        rw[if_neg (by simp)]at W ⊢;exact⟨items.length - (i+1),by left,i+1,vs,O,nn,E,H7,dn,rest,rfl,gD,I7.k7,(T5 I7).1,(T5 I7).2,rv,(sm.trans e5).trans e7,Jc (aL.refl _),FH.go (e5.trans e7),W,U⟩
      |true =>
        rw[if_pos rfl]at W ⊢;obtain⟨y,ey,W⟩:=aD W;obtain⟨ys,qt,W⟩:=aD W;cases W;refine aay (hE B Z L' _ s7 E H7 (λv Y=>aL H7 Y/\cu X.K (gP B Z) R' (λ_=>none) [] H7 Y v y) I7 ⟨R',_,ρ1,y,S6.go e7,ey,λv Y e8 r8=>⟨e8,?_⟩⟩) (λu8 s8 h8=>?_) λ_ _ e=>e
        · obtain⟨τt,fr,rr⟩:=r8
          exact⟨τt,fr,rr.imp (q:=[]) (q':=[]) (λ_ _ h=>h) λc p ys f h=>h.mono id (λh=>⟨h.1,λ_ _ e=>by cases e⟩) id⟩
        · obtain⟨v8,Y,I8,rv8,e8,r8⟩:=h8
          obtain⟨pD,nD,_,_,_⟩:=I8.pin (s₂.heap.objs.size,fq O nn) (aan _ (aax _ aae));have hlen:O.length<=1000000:=by
            obtain⟨_,_,rr⟩:=FH;have h1:dn.length<=ds.length:=by rw[<- U,List.length_append];left
            have hc:cE=1000000:=rfl;rw[<- rv.length,rr.length];left
          have hz:sizeLine=16777216:=abe;refine abA abN ⟨_,pD,rfl⟩ PySem.F.entry_list_append (PySem.F.args_list_append_2 _ _) (PySem.list_append s₂.heap.objs.size O.toArray nn u8 (by rw[List.size_toArray];left)) ⟨pD,?_⟩;have q:=PySem.IsL.update pD (λx=>x.push u8);have Qy:O.toArray.push u8=(O++[u8]).toArray:=by simp
          rw[Qy]at q;obtain⟨SV,q'⟩:∃SV,(s8.heap.update s₂.heap.objs.size (Obj.mapSeq λx=>x.push u8)).get? s₂.heap.objs.size=some (fq (O++[u8]) SV):=⟨_,q⟩
          have I8d:Inv B (jr fp s5.heap) E Y s8:=I8.jR λp hp=>I8.pin p (aan _ (aan _ hp));have ZI:Inv B (jr fp s5.heap) E Y { s8 with heap:=s8.heap.update s₂.heap.objs.size (Obj.mapSeq λx=>x.push u8),toks:=s8.toks } :=
            I8d.turned (it:=s₂.heap.objs.size) (λb o l e=>(aaJ s8.heap (Obj.mapSeq λx=>x.push u8) (abP l)).trans e) nD Ti (.inr (aal _)) LO λp hp=>by
              have AO:p∈jr fp s5.heap:=by simpa [B,eM]using hp
              exact QL p.1 (qU AO).1
          have kp:=T5 (P:=[]) (by rw[List.nil_append];exact ZI);refine⟨items.length - (i+1),by left,i+1,vs++[v8],O++[u8],SV,E,Y,dn++[y],ys,rfl,gD,ZI.jR (λp hp=>?_),kp.1,kp.2,rv.append (.cons rv8 .nil),((sm.trans e5).trans e7).trans e8,Jc e8,cP.snoc ((sm.trans e5).trans e7) e8 (FH.go (e5.trans e7)) r8,qt,by rw[List.append_assoc];exact U⟩;have AO:p=(s₂.heap.objs.size,fq (O++[u8]) SV):=by simpa using hp
          rw[AO];exact⟨q',nD,Ti,WG,λv z=>by cases z⟩
    · refine aay (T.done B rfl rfl rfl L.calm i _ s' M H' (λ_ _=>False) I' L9 qe (yl.stop i H' sm (by left))) (λr V h1=>?_) λ_ _ e=>e
      obtain⟨hr,I1⟩:=h1;subst hr;have V9:items.drop i=[]:=List.drop_eq_nil_of_le (by left);rw[V9,i9]at W;cases W;rw[List.append_nil]at U;subst U;exact fin vs O nn M H' V I1 rv sm FH
  have key:=λtk=>codeAny_compStart_list (loop tk) (T.self X.A 0 _ _ _ (T.keep _ _ _ OU λb _ o e=>old b o e) (loop tk));rw[Za];exact key _
theorem FA(L:Lk X S k Φ){n:Nat}{t:Tg}{j:IK}{a:aq}{sc:Scope}(z:kX S n t caps target sc)(O:qV iter=true)
  (u:∀(b:Cx) (h:aj),Lk b (S.inner target caps sc) k Φ->PE b ka (tD b h Φ elt))
  (x:(bX=[]/\a=[])\/∃c e,bX=[c]/\a=[e]/\∀(b:Cx) (h:aj),Lk b (S.inner target caps sc) k Φ->PT b e (gy b h Φ c))
  (r:∀(pins:ao) (s:Shared) (σ:St) (H:Hp) (R:aj) (τ:Addr->Option bB) (ρ:br) (xs items:af),Inv X pins σ H s->SI X F R τ ρ σ H->cJ Φ es ρ=ok xs->dN Φ j xs=ok items->∀l:It->Hp->Prop,
   (∀J H2,aL H H2->Yl X.K J (l9 X F τ (caps++d4 es) H2) H2 items->l J H2)->wpAny (model X.prog X.w) X.A (eval iter X.env) (λv i=>wpAny (model X.prog X.w) X.A (pyIter v) (EF X pins σ target l) X.xe i) X.xe s) :
  PE X (.ListComp ka [⟨target,iter,a,0⟩] sc pos) (tD X F Φ (.comp n t caps j es bX elt)):=by
 intro pins s σ H Q I f;obtain⟨R,τ,ρ,d,B,y,f⟩:=f;rw[eval_ListComp];refine vF L z O u x r (use:=none) (Post:=EP X pins σ Q) I B y λg C H1 i m q _ E sm p=>?_;exact⟨m,q,λh' M=>⟨.ref g,H1,E h' M,rfl,f _ _ sm p⟩⟩
end
section
variable {X:Cx}{pins:ao}{s:Shared}{σ:L2.St}{H:Hp}
theorem vd{A:aG}{E:aB}{l:Addr}{items:aN}{Q:aB}{s:Shared}(a:s.heap.IsList l items)
  (h:∀s₂:Shared,s₂={ s with heap:=s.heap.push { cls:=.type "list_iterator",data:=.fields #[.ref l,.int 0 0] } }->s₂.heap.IsListIter s.heap.objs.size l 0/\s₂.heap.IsList l items->(∀b∈[s.heap.objs.size,l],b<s₂.heap.objs.size)->l≠s.heap.objs.size->Q (.ref s.heap.objs.size) s₂) :
  wpAny (model prog w) A (pyIter (.ref l)) Q E s:=by
 have c:l<s.heap.objs.size:=by obtain⟨_,e,_⟩:=a;exact aai e
 refine wpAny_pyIter_list a (h _ rfl ⟨⟨_,aam _ rfl,rfl,rfl⟩,a.push _⟩ (λb g=>?_) (aao c));have f:(s.heap.push { cls:=.type "list_iterator",data:=.fields #[.ref l,.int 0 0] }).objs.size=s.heap.objs.size+1:=Heap.size_push ..;have d:b=s.heap.objs.size\/b=l:=by simpa using g
 show b<_;rw[f];rcases d with e|e
 ·rw[e];exact aaW _
 ·rw[e];exact aaE c
theorem vb{a:Obj}{s:Shared}(d:∀b o,b∉[s.heap.objs.size]->(s.heap.push a).get? b=some o->h'.get? b=some o):∀b o,s.heap.get? b=some o->h'.get? b=some o:=λb o e =>
 d b o (λc=>absurd ((by simpa using c:b=s.heap.objs.size)▸aai e) (aaw _)) (aag _ e)
theorem eV{h:Heap}{a:Addr}{b:aN}(p:PlainL h a b):h.IsList a b:=let ⟨o,n,h1,h2,_,h4⟩:=p;⟨o,h1,h2,n,h4⟩
theorem jq(a:Nat->Int)(ns:aa)(b:∀i,a i=ns.getD i 0):∀k,k<=ns.length->preSum a k=(ns.take k).sum
 |0,_=>by simp[preSum]
 |k+1,h=>by
  have c:k<ns.length:=by left
  rw[preSum,jq a ns b k (by left),b k,List.take_add_one,List.sum_append];simp[List.getD,c]
theorem Az(t:X.calm=true):gx X (.builtin "sum") (λxs H Q=>∃(p:Addr) (ns:aa),xs=[.ref p]/\dY X.K H p (ns.map V.int)/\Q (.int ns.sum) H):=by
 intro pins s σ H xs E Q I r h;obtain⟨p,ns,rfl,l,q⟩:=h;obtain⟨u,rfl,b⟩:=r.one;cases b;obtain⟨a,d,k,f⟩:=I.list l;have hlen:a.length=ns.length:=by have:=d.length;simpa using this.symm
 refine call_sum_walkG (vd (eV k) λs₂ e st B y=>?_);subst e;refine⟨_,_,_,_,_,_,λi=>ns.getD i 0,rfl,Walks.list (A:=X.A.in1) (I.ok.hd t) _ p y a.toArray,st,B,λi v x=>?_,λh' j t' n=>?_⟩
 ·have c:a[i]?=some v:=by simpa using x
  have J:i<a.length:=by
   by_cases z:i<a.length
   ·exact z
   ·rw[List.getElem?_eq_none (by left)]at c;cases c
  have m:(ns.map V.int)[i]?=some (.int (ns.getD i 0)):=by
   rw[List.getElem?_map,List.getElem?_eq_getElem (by left)];simp[List.getD,show i<ns.length by left]
  obtain⟨u,g,b⟩:=d.get m;rw[c]at g;cases g;exact b
 ·refine⟨.int ns.sum,H,I.kept (t':=j) (vb n),⟨t',?_⟩,q⟩;have f:preSum (λi=>ns.getD i 0) a.toArray.size=ns.sum:=by
   rw[List.size_toArray,hlen,jq _ ns (λ_=>rfl) _ (Nat.le_refl _),List.take_length]
  rw[f]
theorem range_all{c:Type}(l:List c)(f:c->Bool)(d:Nat->Bool)(h:∀i a,l[i]?=some a->d i=f a):(List.range l.length).all d=l.all f:=by
 rw[Bool.eq_iff_iff,List.all_eq_true,List.all_eq_true];constructor
 ·intro z a g;obtain⟨i,b,e⟩:=List.mem_iff_getElem.mp g;have:=z i (List.mem_range.mpr b);rw[h i a (by rw[List.getElem?_eq_getElem b,e])]at this;exact this
 ·intro z i b;have b:=List.mem_range.mp b;rw[h i l[i] (List.getElem?_eq_getElem b)];exact z _ (abh b)
theorem AA(t:X.calm=true):gx X (.builtin "all") (λxs H Q=>∃(p:Addr) (bs:List Bool),xs=[.ref p]/\dY X.K H p (bs.map V.bl)/\Q (.bl (bs.all id)) H):=by
 intro pins s σ H xs E Q I r h;obtain⟨p,bs,rfl,l,q⟩:=h;obtain⟨u,rfl,c⟩:=r.one;cases c;obtain⟨b,f,k,L⟩:=I.list l;have hlen:b.length=bs.length:=by have:=f.length;simpa using this.symm
 refine call_all_walk (vd (eV k) λs₂ e st U B=>?_);subst e;refine⟨_,_,_,_,_,_,λi=>bs.getD i false,rfl,Walks.list (A:=X.A.in1) (I.ok.hd t) _ p B b.toArray,st,λi v J O W y x=>?_,λh' j n=>?_⟩
 ·have d:b[i]?=some v:=by simpa using y
  have M:i<b.length:=by
   by_cases z:i<b.length
   ·exact z
   ·rw[List.getElem?_eq_none (by left)]at d;cases d
  have m:(bs.map V.bl)[i]?=some (.bl (bs.getD i false)):=by
   rw[List.getElem?_map,List.getElem?_eq_getElem (by left)];simp[List.getD,show i<bs.length by left]
  obtain⟨u,g,c⟩:=f.get m;rw[d]at g;cases g;cases c;exact aa9 x
 ·refine⟨.bl (bs.all id),H,I.kept (t':=j) (vb n),?_,q⟩;show Value.bool _=Value.bool _;rw[List.size_toArray,hlen,range_all bs id _ λi a e=>by simp[List.getD,e]]
end
variable {ns:aa}
section
variable {prog:aI}{w:World}{A:aG}{E:aB}{s:Shared}
theorem pP{l:Addr}{vs:au}{Q:au->Shared->Prop}{o:Obj}{n:Nat}(c:s.heap.get? l=some o)(e:o.cls=.type "tuple")(d:o.data=.seq vs.toArray n)
  (h:Q vs { s with heap:=(s.heap.push (seqObj "list" #[] 0)).update s.heap.objs.size (Obj.mapSeq (· ++ vs.toArray)) }) (hsz:vs.length<=sizeLine):wpAny (model prog w) A (collect (.ref l)) Q E s:=by
 unfold collect;refine aaa (wpAny_runValue (aa7 entry_proto_collect' ?_));show wpAny _ _ (newList [] >>= λz=>again (.builtin "list.__iadd__" ⟨[z,.ref l],[]⟩)) _ _ s;refine aaa (acm (aad ⟨Code.quiet_builtin _ (by decide +kernel),aa7 entry_list_iadd' ?_⟩));have b:(s.heap.push (seqObj "list" #[] 0)).get? l=some o:=aag _ c;have a:(s.heap.push (seqObj "list" #[] 0)).get? s.heap.objs.size=some (seqObj "list" #[] 0):=aam _ rfl;show wpAny _ _ (Builtin.List.listExtendWith (.ref s.heap.objs.size) (.ref l) (.ref s.heap.objs.size)) _ _ ({ s with heap:=s.heap.push (seqObj "list" #[] 0) }:Shared);unfold Builtin.List.listExtendWith;refine aaa (wpAny_typeOf (T:="tuple") ⟨o,b,e⟩ ?_);rw[aaR (by rw[show(Value.type "tuple" == Value.type "tuple")=true from rfl,Bool.or_true])];refine aaa (listItems_at b d (aaa (listItems_at a rfl ?_)));rw[if_neg (by simp)];refine aaa (listUpdate_at a rfl ?_ (aaH _) (by
  show(#[]++vs.toArray).size<=sizeLine+1;rw[Array.size_append,List.size_toArray];exact aco (by simpa using hsz)))
 refine aad ?_;show wpAny (model prog w) A (load s.heap.objs.size >>= λo=>match o.data with
   |.seq xs _=>pure xs.toList
   |_=>unsupported "internal:collect") Q E ({ s with heap:=(s.heap.push (seqObj "list" #[] 0)).update s.heap.objs.size (Obj.mapSeq (· ++ vs.toArray)) }:Shared)
 refine aaa (wpAny_load (get?_update_seq a _) ?_);show wpAny _ _ (pure ((#[]:aN)++vs.toArray).toList) Q E _;rw[show((#[]:aN)++vs.toArray).toList=vs by simp];exact aad h
theorem qf{l:Addr}{vs:au}{Q:aB}{o:Obj}{n:Nat}(d:s.heap.get? l=some o)(f:o.cls=.type "tuple")(e:o.data=.seq vs.toArray n)(g:IntsAre vs ns)(b:vs.length<64)
  (h:∀(out:aN) (a:aa),IntsAre out.toList a->a.Perm ns->a.Pairwise (· <= ·)->Q (.ref (s.heap.objs.size+1)) { s with heap:=sortedAll s.heap vs out }):wpAny (model prog w) A (call (.builtin "sorted") [.ref l]) Q E s:=by
 refine Calls.call_function_entry kind_sorted plain_sorted entry_sorted (args_sorted1 _) ?_;unfold Builtin.«sorted»;have c:vs.length<=sizeLine:=by rw[sizeLine_eq];left
 refine aaa (m:=checkCount "sorted" 1 1 _) (aad (aaa (pP d f e (aaa (acm ?_)) c)));have e1:((s.heap.push (seqObj "list" #[] 0)).update s.heap.objs.size (Obj.mapSeq (· ++ vs.toArray))).objs.size=s.heap.objs.size+1:=by rw[Heap.size_update,size_push']
 have e2:(((s.heap.push (seqObj "list" #[] 0)).update s.heap.objs.size (Obj.mapSeq (· ++ vs.toArray))).push (seqObj "list" vs.toArray 0)).get? (s.heap.objs.size+1)=some (seqObj "list" vs.toArray 0):=by
  rw[<- e1];exact aam _ rfl
 show wpAny _ _ _ _ _ ({ s with heap:=((s.heap.push (seqObj "list" #[] 0)).update s.heap.objs.size (Obj.mapSeq (· ++ vs.toArray))).push (seqObj "list" vs.toArray 0) }:Shared);rw[e1];refine aaa (aaF (aaI slot_list_sort ⟨_,e2,rfl⟩ entry_list_sort (list_sort_tree e2 g b λout a a1 a2 a3=>⟨_,rfl,aad ⟨_,rfl,h out a a1 a2 a3⟩⟩) (args_list_sort _)))
end
theorem sortI_perm(ns:aa):(sortI ns).Perm ns:=aaB ..
theorem BB(ns:aa):(sortI ns).Pairwise (· <= ·):=by
 have:=List.pairwise_mergeSort (le:=λa b:Int=>decide (a<=b)) (by intro a b c;simp;left) (by intro a b;simp;left) ns;unfold sortI;simpa using this
theorem eF:∀{vs:au} {ns:aa},Vals (ns.map V.int) vs->IntsAre vs ns
 |_,[],h=>by cases h;exact .nil
 |_,n::ns,h=>by
  cases h with
  |cons r t=>obtain⟨a,rfl⟩:=r;exact .cons n a (eF t)
theorem tL:gx X (.builtin "sorted") (λxs H Q=>∃(p:Addr) (ns:aa),xs=[.ref p]/\(dY X.K H p (ns.map V.int)\/a_ X.K H p (ns.map V.int))/\ns.length<64/\∀l,H l=none->Q (.ref l) (upd H l (.lst ((sortI ns).map V.int)))):=by
 intro pins s σ H xs M Q I r h;obtain⟨p,ns,rfl,d,m,q⟩:=h;obtain⟨u,rfl,t⟩:=r.one;cases t;have fin:∀(vs:au) (out:aN) (a:aa),IntsAre out.toList a->a.Perm ns->a.Pairwise (· <= ·)->EP X pins σ Q (.ref (s.heap.objs.size+1)) { s with heap:=sortedAll s.heap vs out }:=by
  intro vs out a i g f;obtain rfl:a=sortI ns:=PySem.W.ksm_same (g.trans (sortI_perm ns).symm) f (BB ns);obtain⟨e,E⟩:=sortedAll_at s.heap vs out;have B:H (s.heap.objs.size+1)=none:=I.dE.fresh (aci _);refine⟨.ref (s.heap.objs.size+1),upd H (s.heap.objs.size+1) (.lst ((sortI ns).map V.int)),I.laid (t':=s.toks) (λb u z=>sortedAll_old z) (aci _) ⟨?_,out.toList,e,lZ i,by simpa using E⟩,rfl,q _ B⟩;rw[List.length_map,(sortI_perm ns).length_eq,sizeLine_eq];left
 rcases d with d|d
 ·obtain⟨j,c,v,x⟩:=I.list d;have k:j.length<64:=by rw[<- c.length];simpa using m
  exact sorted_ints (eV v) (eF c) k λout a i g f=>fin j out a i g f
 ·obtain⟨j,c,⟨o,y,L,n,J⟩,x⟩:=I.tuple d;have k:j.length<64:=by rw[<- c.length];simpa using m
  exact qf y L J (eF c) k λout a i g f=>fin j out a i g f
theorem Bc:isSubtype (.type "tuple") (.type "set")=pure false:=by rw[isSubtype_type];kernel_rfl
theorem uc:isSubtype (.type "tuple") (.type "frozenset")=pure false:=by rw[isSubtype_type];kernel_rfl
noncomputable abbrev m_(a:Bool):Obj:={ cls:=.type "set",dict:=none,data:=.set #[] 0 (.fresh 0 0 a) }
noncomputable abbrev dist(ns:aa):aa:=firstMet (λi=>ns.getD i 0) ns.length
section
variable {prog:aI}{w:World}{A:aG}{E:aB}{s:Shared}
theorem wu{l:Addr}{d:au}{Q:aB}(hh:A.handled=none)(hl:s.heap.IsTuple l d.toArray)(M:IntsAre d ns)(u:d.length+1<scanBound)
  (h:∀(h':Heap) (tk:Nat),h'.SetOf (intKind prog w) s.heap.objs.size (λk=>(dist ns).any (· == k)) (dist ns).length->(∀b o,b<s.heap.objs.size->s.heap.get? b=some o->h'.get? b=some o)->Q (.ref s.heap.objs.size) { s with heap:=h',toks:=tk }) :
  wpAny (model prog w) A (call (.type "set") [.ref l]) Q E s:=by
 have B:d.length=ns.length:=M.length;obtain⟨c,tl,k1⟩:=F.called_set.mro;have k2:=F.called_set.made;have k3:=F.called_set.sub;have k4:=F.called_set.notType;have k5:=F.called_set.canCreate;have k6:=F.typeCall_set_1 (.ref l);refine wpAny_call (codeAny_of_tree (show wpAny _ _ (callAny (.type "set") _) _ _ _ from aad ⟨Code.quiet_builtin _ (by decide +kernel),aa7 F.entry_type_call ?_⟩));rw[Around.under_plain (weight_type_call_type "set" [.ref l] []) rfl]
 repeat (any_goals (first|assumption|wp_step))
 refine abK (code_set_new_1 (.ref l) (E:=E) (Q₁:=λz f=>∃a:Bool,z=.ref s.heap.objs.size/\f={ s with heap:=s.heap.push (m_ a) }) λa=>⟨a,rfl,rfl⟩) λr f p=>?_;cases r with
 |error e=>exact p
 |ok fl =>
  cases fl with
  |next=>exact p.elim
  |brk=>exact p.elim
  |cont=>exact p.elim
  |ret z =>
   obtain⟨a,rfl,rfl⟩:=p;have O:(s.heap.push (m_ a)).get? s.heap.objs.size=some (m_ a):=aam _ rfl;have g2:Shared.TypeIs { s with heap:=s.heap.push (m_ a) } (.ref s.heap.objs.size) "set":=⟨_,O,rfl⟩
   have g3:=F.called_set.init.lookup;have g4:=F.called_set.init.bind (.ref s.heap.objs.size)
   repeat (any_goals (first|assumption|wp_step))
   refine abK (codeAny_call_builtin (R:=wants (λr s₂=>r=.none/\∃h' tk,s₂={ s with heap:=h',toks:=tk }/\h'.SetOf (intKind prog w) s.heap.objs.size (λk=>(dist ns).any (· == k)) (dist ns).length/\∀b o,b<s.heap.objs.size->s.heap.get? b=some o->h'.get? b=some o) E) F.called_set.init.plain F.entry_set_init (check_set_init_1 g2 ?_)) λn s₂ j=>?_
   ·obtain⟨ot,U,V,L,W⟩:=hl;obtain⟨oc,od,odt,Ew⟩:=ot;simp only at V W;subst V;subst W;have u1:(s.heap.push (m_ a)).get? l=some { cls:=.type "tuple",dict:=od,data:=.seq d.toArray L,slots:=Ew }:=aag _ U;have u2:=Bc;have u3:=uc;have u4:(Value.type "tuple" == Value.type "dict")=false:=by decide
    have u5:(s.heap.push (m_ a)).IsTuple l d.toArray:=⟨_,u1,rfl,L,rfl⟩
    unfold Builtin.«set.__init__» noKeywords Builtin.Frozenset.updateFrom;generalize I:pyIter=PI
    wp_walk
    subst I;refine wpAny_pyIter_tuple u5 (aaa (wpAny_runValue ?_));have J:l<s.heap.objs.size:=aai U;have u7:A.in1.in1.in1.handled=none:=by simp[hh]
    have y:(s.heap.push (m_ a)).objs.size=s.heap.objs.size+1:=Heap.size_push ..;have u8:l≠(s.heap.push (m_ a)).objs.size:=by rw[y];exact aao (aaE J)
    have u9:s.heap.objs.size∉[(s.heap.push (m_ a)).objs.size,l]:=by
     rw[y];intro m;simp at m;exact absurd m (aav J)
    have Z:∀(i:Nat) (v:Value),d.toArray[i]?=some v->∃t,v=.int ((λi=>ns.getD i 0) i) t:=λi v hv=>M.int_at i v (by simpa using hv);refine codeAny_set_update_loopS ((Walks.tuple u7 _ l u8 d.toArray).toS) s.heap.objs.size u9 (λi=>ns.getD i 0) Z (by rw[List.size_toArray];exact u) (d.toArray.size - 0) 0 _ (by left) (aaH _) ⟨⟨_,aam _ rfl,rfl,rfl⟩,u5.push _⟩ ?hS0 ?hR
    case hS0 =>
     have Y:((s.heap.push (m_ a)).push { cls:=.type "tuple_iterator",data:=.fields #[.ref l,.int 0 0] }).get? s.heap.objs.size=some (m_ a):=aag _ O;exact SetOf_congr ((setObjOf_fresh (knd:=intKind prog w) a).setOf Y (by unfold scanBound;left)) (λ_=>rfl) rfl
    case hR =>
     intro s' q g;obtain⟨h',g',d',x,U6⟩:=s';cases (show g'=s.gens from q.gens);cases (show d'=s.drawn from q.drawn);cases (show U6=s.os from q.os);have g:h'.SetOf (intKind prog w) s.heap.objs.size (λk=>(dist ns).any (· == k)) (dist ns).length:=by
      have e:d.toArray.size=ns.length:=by rw[List.size_toArray,B]
      rw[e]at g;exact g
     refine aad (show wpAny _ _ (ret Value.none) _ _ _ from aad ⟨rfl,h',x,rfl,g,λb o u e=>q.heap b o (λm=>?_) (aag _ (aag _ e))⟩);rcases List.mem_cons.mp m with m|m
     ·exact aao u m
     ·have m:b=(s.heap.push (m_ a)).objs.size:=by simpa using m
      rw[y]at m;exact aao (aaE u) m
   ·cases n with
    |error e=>exact j
    |ok Rj =>
     cases Rj with
     |ret r =>
      obtain⟨rfl,h',tk,rfl,g,LH⟩:=j
      repeat (any_goals (first|assumption|wp_step))
      exact h _ _ g LH
     |next=>exact j.elim
     |brk=>exact j.elim
     |cont=>exact j.elim
end
theorem DY(ns:aa):dist ns=tx ns:=by
 unfold dist firstMet tx;have e:(List.range ns.length).map (λi=>ns.getD i 0)=ns:=by
  refine acx (by simp) λi a b=>?_;simp at a;simp[a]
 rw[e];rfl
def rLs(K:av):ag->Hp->VK->Prop:=λxs H Q=>∃(p:Addr) (ns:aa),xs=[.ref p]/\a_ K H p (ns.map V.int)/\ns.length<4000/\Q (.int (tx ns).length) H
theorem boot_set:bootBuiltins ("set" : Str)=some (.type "set"):=by decide +kernel
theorem FR{e:Expr}{t:TA}{p:Pos}(v:X.calm=true)(V:Gl X ("len" : Str))(W:X.mg ("len" : Str)=none)(c:Gl X ("set" : Str))(Y:X.mg ("set" : Str)=none)(x:PA X [e] t)
  (j:∀es,starEach (e::es) X.env=(false,eval e X.env)::starEach es X.env):PE X (.Call (.Name ("len" : Str) p) [.Call (.Name ("set" : Str) p') [e] [] pos'] [] pos) (OM (rLs X.K) t):=by
 intro pins s σ H Q I h;refine aaQ (eE I V W PySem.boot_len ?_ (by decide) (by decide));refine PyProof.Rows.callWith_builtin1 ?_ rfl rfl;show wpAny _ _ (spliced ((false,eval (.Call (.Name ("set" : Str) p') [e] [] pos') X.env)::[])) _ _ s;refine abm ?_;refine aaQ (eE I c Y boot_set ?_ (by decide) (by decide));refine aau (dt (x pos' pins s σ H _ I h) λZ s1 O=>?_) (j _) rfl;obtain⟨vs,H1,d,r1,q1⟩:=O;obtain⟨a,ns,rfl,n,hl,q⟩:=q1;obtain⟨u,rfl,k⟩:=r1.one;cases k;obtain⟨U,f,m,hz⟩:=d.tuple n;have r:U.length=ns.length:=by rw[<- f.length];simp
 refine wu (d.ok.hd v) m (eF f) (by unfold scanBound;left) λh' i g l=>abu ?_;rw[DY]at g;obtain⟨o,es,ep,tb,M,L,J,_,_,E,B,y⟩:=g;refine call_len_set M L J B (by unfold scanBound at E;omega) ?_;exact⟨.int (tx ns).length,H1,d.kept (t':=i+1+1) λb u z=>l b u (aai z) z,⟨_,by rw[y]⟩,q⟩
section
variable {X:Cx}{S:Sx}{k:Nat}{F:aj}{Φ:aV}
theorem Lk.X2(L:Lk X S k Φ):X.A.units+40<cLine:=by have:=L.room.units;left
def Sw(K:av)(neg:Bool):R2:=λv u H Q=>∃(d d':D) (N N':jf) (k k':bB),Rep (a_ K H) N k v d/\Rep (a_ K H) N' k' u d'/\(∀q p xs f,N q p (.l xs) f->dY K H p xs)/\(∀q p xs f,N' q p (.l xs) f->dY K H p xs)/\fI 40 d=true/\fI 40 d'=true /\
 Q (.bl (if neg then !mU d d' else mU d d')) H
theorem KH(g:X.A.units+40<cLine):kO X (compareOp .Eq) (Sw X.K false):=by
 intro pins s σ H x y v u Q I b a h;obtain⟨d,i,N,j,k,k',r1,r2,n1,f,e,c,q⟩:=h;exact(alike I n1 f 40 X.A r1 r2 e c b a g).rc X.prog X.w X.xe _ ⟨.bl _,H,I,rfl,q⟩
theorem KG(g:X.A.units+40<cLine):kO X (compareOp .NotEq) (Sw X.K true):=by
 intro pins s σ H x y v u Q I b a h;obtain⟨d,i,N,j,k,k',r1,r2,n1,f,e,c,q⟩:=h;exact(alike I n1 f 40 X.A r1 r2 e c b a g).ne X.prog X.w X.xe _ ⟨.bl _,H,I,rfl,q⟩
theorem BP{N':jf}{k:bB}{v a:V}{d d':D}(h:Rep T N k v d)(h':Rep T' N' k' a d')(f:i7 d=true)(b:i7 d'=true):jB v=true/\GX v a=mU d d':=by
 cases h<;>first | (cases f;done) | (cases h'<;>first | (cases b;done)|exact⟨rfl,rfl⟩)
theorem qN{k:bB}{v:V}{d:D}(h:Rep T N k v d)(f:i7 d=true):jB v=true:=by
 cases h<;>first | (cases f;done)|rfl
theorem sv{T T':mZ}{N N':jf}{k':bB}{v:V}{d:D}(a:Rep T' N' k' v d)(f:i7 d=true):∀{k:bB} {n:Nat} {xs:ag} {ds:af},aE T N k n xs ds->ds.all i7=true->xs.all jB=true/\S8 v xs=inD d ds
 |_,_,_,_,.nil,_=>⟨rfl,rfl⟩
 |_,_,_,_,.cons h t,fs=>by
  rw[List.all_cons,Bool.and_eq_true]at fs;obtain⟨c,b⟩:=sv a f t fs.2;obtain⟨g,e⟩:=BP h a fs.1 f;refine⟨by rw[List.all_cons,g,c];rfl,?_⟩;unfold S8 at b ⊢;rw[List.any_cons,e,b];rfl
def Kh(K:av)(op:A1):R2:=match op with
 |.eq=>Sw K false
 |.ne=>Sw K true
 |.lt=>BS λi j=>.bl (decide (i<j))
 |.le=>BS λi j=>.bl (decide (i<=j))
 |.gt=>BS λi j=>.bl (decide (j<i))
 |.ge=>BS λi j=>.bl (decide (j<=i))
 |.IB=>UX K false
theorem Cf(L:Lk X S k Φ)(op:A1):kO X (compareOp (Va op)) (Kh X.K op):=by
 cases op with
 |eq=>exact KH L.X2
 |ne=>exact KG L.X2
 |lt=>exact Pw
 |le=>exact Py
 |gt=>exact Pz
 |ge=>exact PB
 |IB=>exact zP
theorem Cn{op:CmpOp}{r:Expr}(h:qV r=true):behindInMarks op r=false:=by
 cases r<;>first|rfl | (cases h;done)
theorem n8{op:A1}{x y d:D}(a:op=.lt\/op=.le\/op=.gt\/op=.ge)(h:fi op x y=ok d):∃i j,x=.int i/\y=.int j:=by
 cases x with
 |int i=>cases y with
  |int j=>exact⟨i,j,rfl,rfl⟩
  |_=>rcases a with rfl|rfl|rfl|rfl<;>exact nk h
 |_=>rcases a with rfl|rfl|rfl|rfl<;>exact nk h
theorem vH{op:A1}{a b:CE}(m:tD X F Φ (.cmp op a b) σ H Q):H9 (Kh X.K op) (tD X F Φ a) (tD X F Φ b) σ H Q:=by
 obtain⟨R,τ,ρ,d,E,c,m⟩:=m;obtain⟨x,U,c⟩:=aD c;obtain⟨y,O,c⟩:=aD c;refine tD.intro E U λv H1 e1 r1=>tD.intro (E.go e1) O λu H2 e2 r2=>?_;have e:=e1.trans e2;have L:=r1.go e2;have M:=r2;obtain⟨J,W,n⟩:=L;obtain⟨I,V,s⟩:=M;have sq:∀{A:aj} {τ:Addr->Option bB} (q:bB) (p:Addr) (xs:ag) (f:Fl),nd X.K R A τ H2 q p (.l xs) f->dY X.K H2 p xs:=λq p xs f h=>h.sq;cases op with
 |eq =>
  obtain⟨g,c⟩:=p9 c
  ·subst c;rw[Bool.and_eq_true]at g;exact⟨x,y,_,_,_,_,n,s,sq,sq,g.1,g.2,m _ H2 e .bl⟩
 |ne =>
  obtain⟨g,c⟩:=p9 c
  ·subst c;rw[Bool.and_eq_true]at g;exact⟨x,y,_,_,_,_,n,s,sq,sq,g.1,g.2,m _ H2 e .bl⟩
 |lt=>obtain⟨i,j,rfl,rfl⟩:=n8 (by simp) c;cases c;exact⟨_,_,(r1.go e2).isInt,r2.isInt,m _ H2 e .bl⟩
 |le=>obtain⟨i,j,rfl,rfl⟩:=n8 (by simp) c;cases c;exact⟨_,_,(r1.go e2).isInt,r2.isInt,m _ H2 e .bl⟩
 |gt=>obtain⟨i,j,rfl,rfl⟩:=n8 (by simp) c;cases c;exact⟨_,_,(r1.go e2).isInt,r2.isInt,m _ H2 e .bl⟩
 |ge=>obtain⟨i,j,rfl,rfl⟩:=n8 (by simp) c;cases c;exact⟨_,_,(r1.go e2).isInt,r2.isInt,m _ H2 e .bl⟩
 |IB =>
  simp only[fi]at c;split at c
  ·rename_i ds t;split at c
   ·rename_i g;rw[Bool.and_eq_true]at g;cases c;cases s with
    |tup h r=>cases t;obtain⟨B,z⟩:=sv n g.1 r g.2;exact⟨_,_,rfl,.inr h,qN n g.1,B,by rw[z];exact m _ H2 e .bl⟩
    |lst h r=>cases t;obtain⟨B,z⟩:=sv n g.1 r g.2;exact⟨_,_,rfl,.inl h.sq,qN n g.1,B,by rw[z];exact m _ H2 e .bl⟩
    |_=>cases t
   ·cases c
  ·cases c
theorem Br{c:CE}{Q:Bool->Hp->Prop}(h:gy X F Φ c σ H Q):tB (tD X F Φ c) σ H Q:=by
 obtain⟨R,τ,ρ,b,j,a,g⟩:=h;unfold vY at a;obtain⟨d,i,f⟩:=aD a;refine tD.intro j i λv H' e r=>?_;cases d<;>simp[iC]at f;cases f;exact⟨_,r.zZ,g H' e⟩
theorem cO{c:CE}{e:Expr}(h:PE X e (tD X F Φ c))(he:∀whole,isTrue e X.env whole=(do let v <- whole;standAt e.pos;holding [v] (truthy v))):PT X e (gy X F Φ c) :=
 PT.imp (Kl h he) λ_ _ _ h=>Br h
theorem zD{op:A1}{a b:CE}{Q:Bool->Hp->Prop}(h:gy X F Φ (.cmp op a b) σ H Q):HZ (H9 (Kh X.K op) (tD X F Φ a) (tD X F Φ b)) σ H Q :=
 vH (Br h)
theorem dictAt{pins:ao}{s:Shared}{p:Addr}{cs:az}{as:aS}(I:Inv X pins σ H s)(h:H p=some (.ext (DO p cs as xs ep))):∃o,s.heap.get? p=some o/\o.cls=.type "dict":=by
 obtain⟨⟨c,o,es,_,_,_,b,a,_⟩,_⟩:=(show cQ H s.heap p (.ext (DO p cs as xs ep)) from I.dE p _ h)
 exact⟨o,b,a.1⟩
theorem K9(L:Lk X S k Φ)(t:Ty):gx X (.builtin "isinstance") (λxs H Q=>∃(x:V) (d:D) (N:jf) (k:bB),xs=[x,.ty (tyName t)]/\Rep (a_ X.K H) N k x d/\(∀q p xs f,N q p (.l xs) f->dY X.K H p xs)/\(∀q p cs as xs ep f,N q p (.d cs as xs ep) f->H p=some (.ext (DO p cs as xs ep)))/\Q (.bl (dO t d)) H):=by
 intro pins s σ H xs O Q I r h;obtain⟨x,d,N,k,rfl,B,J,v,q⟩:=h;obtain⟨u,y,rfl,a,E⟩:=vals2 r;cases (show y=Value.type (tyName t) from E);have c:=Gj X.K t;have fin:∀b:Bool,b=dO t d->∀m,EP X pins σ Q (.bool b) { s with toks:=m }:=λb e m=>⟨.bl b,H,I.tok m,rfl,by rw[e];exact q⟩
 cases B with
 |cq=>cases a;exact abn PySem.W.kitx_none I.Ey True.intro (c "NoneType" (by simp[kinds])) (λz=>nomatch z) (fin _ (by cases t<;>rfl))
 |bl b=>cases a;exact abn PySem.W.kitx_bool I.Ey True.intro (c "bool" (by simp[kinds])) (λz=>nomatch z) (fin _ (by cases t<;>rfl))
 |int i=>obtain⟨t',rfl⟩:=a;exact abn PySem.W.kitx_int I.Ey True.intro (c "int" (by simp[kinds])) (λz=>nomatch z) (fin _ (by cases t<;>rfl))
 |tup h _ =>
  cases a;obtain⟨M,_,⟨o,j,g,_⟩,_⟩:=I.tuple h;exact abn PySem.W.kitx_tuple I.Ey ⟨o,j,g⟩ (c "tuple" (by simp[kinds])) (λz=>nomatch z) (fin _ (by cases t<;>rfl))
 |lst h _ =>
  cases a;obtain⟨M,_,⟨o,n,j,g,_⟩,_⟩:=I.list (J _ _ _ _ h);exact abn PySem.W.kitx_list I.Ey ⟨o,j,g⟩ (c "list" (by simp[kinds])) (λz=>nomatch z) (fin _ (by cases t<;>rfl))
 |cg h _ _ =>
  cases a;obtain⟨o,j,g⟩:∃o,s.heap.get? _=some o/\o.cls=.type "dict":=dictAt I (v _ _ _ _ _ _ _ h);exact abn PySem.W.kitx_dict I.Ey ⟨o,j,g⟩ (c "dict" (by simp[kinds])) (λz=>nomatch z) (fin _ (by cases t<;>rfl))
theorem Hq(t:Ty):bootBuiltins (tyName t:Str)=some (.type (tyName t)):=by
 cases t<;>decide +kernel
theorem qF(t:Ty):(tyName t:Str) ≠ "__name__" /\ ((tyName t:Str)==("__debug__" : Str))=false:=by
 cases t<;>decide +kernel
theorem J8(L:Lk X S k Φ){a:CE}{t:Ty}{e:Expr}{p:Pos}(m:ja S.sc ("isinstance" : Str)=true)(u:("isinstance" : Str)∈S.bl)(l:ja S.sc (tyName t:Str)=true)(y:(tyName t:Str)∈S.bl)
  (n:PE X e (tD X F Φ a)) (g:∀es,starEach (e::es) X.env=(false,eval e X.env)::starEach es X.env):PE X (.Call (.Name ("isinstance" : Str) p) [e,.Name (tyName t:Str) p'] [] pos) (tD X F Φ (.qZ a t)):=by
 have r:PE X (.Name (tyName t:Str) p') (tC (.ty (tyName t))):=FV (L.gl l) (L.bl _ y) (Hq t) rfl (qF t).1 (qF t).2;refine PE.imp (fe (K9 L t) (L.gl m) (L.bl _ u) PyProof.Rows.boot_isinstance (cH n (cH r ej) (g _)) (he:=g _)) λσ H Q b=>?_;obtain⟨R,τ,ρ,d,z,c,b⟩:=b;obtain⟨x,s,c⟩:=aD c;cases c;refine tD.intro z s λv H1 e1 r1=>?_;obtain⟨i,B,j⟩:=r1;exact⟨v,x,_,_,rfl,j,λq p xs f h=>h.sq,λq p cs as xs ep f h=>h.dat,b _ H1 e1 .bl⟩
theorem Le:@DI.AN=@L2.AN:=rfl
set_option tactic.hygienic true in
theorem O3(L:Lk X S k Φ){a b:CE}{e i:Expr}(V:PE X e (tD X F Φ a))(U:PE X i (tD X F Φ b))(M:om i):PE X (.Subscript e i pos) (tD X F Φ (.ix a b)):=by
 refine PE.imp (B9 (Gn.or Ld) V U M) λσ H Q s=>?_;obtain⟨R,τ,ρ,d,B,c,s⟩:=s;obtain⟨x,Y,c⟩:=aD c;obtain⟨y,W,c⟩:=aD c;refine tD.intro B Y λv H1 e1 r1=>tD.intro (B.go e1) W λu H2 e2 r2=>?_;have Z:=e1.trans e2;have I:=(r1.go e2).mono (fv':=iq (.ix a b)) λj O=>aax _ O;have item:∀{q:bB} {xs:ag} {ds:af} {τt:Addr->Option bB} {j:Int},(∀p q,τt p=some q->H p=none)->aE (a_ X.K H2) (nd X.K R (kL (gP X F) τ (iq (.ix a b))) τt H2) q 0 xs ds->vP ds j=ok d->∃w,L2.N5 xs j=some w/\Q w H2:=by
  intro q xs ds τt j n g h;unfold vP at h;split at h
  ·rename_i d' l;cases h;cases r:DI.AN ds.length j with
   |none=>rw[r]at l;cases l
   |some m =>
    rw[r]at l;obtain⟨w,hw,J⟩:=g.get (show ds[m]?=some d' from l);refine⟨w,?_,s w H2 Z ⟨λ_=>none,λ_ _ h=>by simp at h,J.gj B n⟩⟩;unfold L2.N5;rw[<- Le,g.length,r];exact hw
  ·cases h
 cases y with
 |int j =>
  obtain⟨τt,n,E⟩:=I;cases r2.isInt;cases x with
  |tup ds =>
   cases E with
   | @tup _ p xs _ h g=>obtain⟨w,z,t⟩:=item n g c;exact .inr ⟨p,xs,j,w,rfl,rfl,h,z,t⟩
  |lst f ds =>
   cases E with
   | @lst _ p xs _ _ h g=>obtain⟨w,z,t⟩:=item n g c;exact .inl ⟨p,xs,j,w,rfl,rfl,h.sq,z,t⟩
  |_=>exact nk c
 |_=>cases x<;>cases c
theorem pJ:∀(cs:aF) {ρ:br} {ds:af},cJ Φ cs ρ=ok ds->ds.length=cs.length
 |[],_,_,h=>by cases h;rfl
 |c::cs,_,_,h=>by
  obtain⟨x,_,h⟩:=aD h;obtain⟨xs,a,h⟩:=aD h;cases h;simp[pJ cs a]
theorem J3{es:aq}{n:Nat}(h:PA X es (tU X F Φ cs))(l:cs.length<=1000):PE X (.Tuple es n pos) (tD X F Φ (.tup cs)):=by
 refine PE.imp (Kt h) λσ H Q a=>?_;obtain⟨R,τ,ρ,d,i,b,a⟩:=a;obtain⟨ds,e,b⟩:=aD b;cases b;refine⟨R,τ,ρ,ds,i,e,λvs H1 e1 r1=>?_⟩;obtain⟨τt,g,c⟩:=r1;have j:sizeLine=16777216:=abe;refine⟨by rw[c.length,pJ cs e];left,λp f=>?_⟩;have es:aL H1 (upd H1 p (.tup vs)):=aL.upd f;exact a _ _ (e1.trans es) ⟨τt,g,.tup (a_.of aZ) (c.imp (λ_ _ h=>a_.same es h) λ_ _ _ _ h=>nd.same es h)⟩
theorem J6{es:aq}(h:PA X es (tU X F Φ cs))(r:cs.length<=1000):PE X (.List es pos) (tD X F Φ (.lst cs)):=by
 refine PE.imp (B8 h) λσ H Q a=>?_;obtain⟨R,τ,ρ,d,m,g,a⟩:=a;obtain⟨ds,j,g⟩:=aD g;cases g;refine⟨R,τ,ρ,ds,m,j,λvs H1 e1 r1=>?_⟩;obtain⟨τt,l,i⟩:=r1;have n:sizeLine=16777216:=abe;refine⟨by rw[i.length,pJ cs j];left,λp e=>?_⟩;have es:aL H1 (upd H1 p (.lst vs)):=aL.upd e;refine a _ _ (e1.trans es) ⟨λq=>if q=p then some []else τt q,λq z a=>?_,.lst ⟨aZ,by simp⟩ (i.imp (λ_ _ h=>a_.same es h) λc q xs f h=>?_)⟩
 ·by_cases b:q=p
  ·subst b;exact e1.free e
  ·simp only[b,if_false]at a;exact l q z a
 ·have h':=nd.same es h;cases f with
  |ow =>
   have b:q≠p:=by
    intro z;subst z;exact h.1.ne e
   exact⟨h'.1,by simp only[b,if_false];exact h'.2⟩
  |fz=>exact h'
  |al=>exact h'
  |sc=>exact h'
theorem FC(L:Lk X S k Φ){f:Nat}{x:Str}{y:Expr}{ys:aq}{p:Pos}(U:S.fn f=some x)(O:ja S.sc x=true)(n:oZ x=true)(W:PA X (y::ys) (tU X F Φ cs))
  (u:∀es,starEach (y::es) X.env=(false,eval y X.env)::starEach es X.env) (hpl:∀pos,(backTo pos (starEach ys X.env)).any (·.1)=false):PE X (.Call (.Name x p) (y::ys) [] pos) (tD X F Φ (.call f cs)):=by
 obtain⟨a,fd,ps,Fo,I,M,V,J⟩:=(L.fn f x U).ex;unfold oZ at n;simp only[Bool.and_eq_true,Bool.not_eq_true']at n;refine PE.imp (FU Fo L.room (L.gl O) I M V .nil (Pu (X:=X)) W n.1.1 (u _) (hpl _)) λσ H Q m=>?_;obtain⟨R,τ,ρ,d,j,g,m⟩:=m;obtain⟨xs,Z,g⟩:=aD g;obtain⟨r,t,g⟩:=aD g;cases g;refine⟨R,τ,ρ,xs,j,Z,λvs H1 e1 r1=>?_⟩;obtain⟨τt,Y,s⟩:=r1;have fresh:∀p,H p=none->kL (gP X F) τ (d4 cs) p:=λp b=>⟨.inr (j.same.free b),λc i e=>absurd b (j.th p _ e)⟩
 have hR:∀p,R p->kL (gP X F) τ (d4 cs) p:=λp b=>⟨j.rf p b,λc i e=>by rw[j.rt p b]at e;cases e⟩
 rw[List.append_nil];refine⟨kL (gP X F) τ (d4 cs),aA bo xs,r,by rw[s.length,<- J _ _ t,aW,List.length_map],aE.jv (λ_ _ h=>h) (λk k' p xs f h=>?_) s _ _,t,λv H2 e2 B=>?_⟩
 ·cases f with
  |ow=>exact⟨h.1,fresh p (Y p _ h.2)⟩
  |fz=>exact⟨h.1,hR p h.2⟩
  |al=>exact h
  |sc=>exact h
 ·obtain⟨l,NX,E⟩:=B;refine m v H2 (e1.trans e2) ⟨l,λp q h=>e1.free (NX p q h),Rep.map (q:=[]) (q':=[]) (λ_ _ h=>h) (λc p xs f h=>?_) E [] rfl⟩;cases f with
  |ow=>exact h
  |fz=>exact⟨h.1,h.2.elim id λz=>fresh p (e1.free z)⟩
  |al=>exact h.2.elim
  |sc=>exact h
def Yg(K:av)(f:Bf):ag->Hp->VK->Prop:=match f with
 |.len=>λxs H Q=>∃p ys,xs=[.ref p]/\(dY K H p ys\/a_ K H p ys)/\Q (.int ys.length) H
 |.abs=>λxs H Q=>∃i,xs=[.int i]/\Q (.int (if i<0 then -i else i)) H
 |.list1=>λxs H Q=>∃p ys,xs=[.ref p]/\(dY K H p ys\/a_ K H p ys)/\∀l,H l=none->Q (.ref l) (upd H l (.lst ys))
 |.tuple1=>λxs H Q=>∃p ys,xs=[.ref p]/\((dY K H p ys/\∀l,H l=none->Q (.ref l) (upd H l (.tup ys)))\/(a_ K H p ys/\Q (.ref p) H))
 |.eI=>λxs H Q=>∃(p:Addr) (ns:aa),xs=[.ref p]/\dY K H p (ns.map V.int)/\Q (.int ns.sum) H
 |.all1=>λxs H Q=>∃(p:Addr) (bs:List Bool),xs=[.ref p]/\dY K H p (bs.map V.bl)/\Q (.bl (bs.all id)) H
 |.iD=>λxs H Q=>∃(p:Addr) (ns:aa),xs=[.ref p]/\(dY K H p (ns.map V.int)\/a_ K H p (ns.map V.int))/\ns.length<64/\∀l,H l=none->Q (.ref l) (upd H l (.lst ((sortI ns).map V.int)))
theorem aE.one{k:bB}{n:Nat}{d:D}(h:aE T N k n vs [d]):∃v,vs=[v]/\Rep T N (n::k) v d:=by
 cases h with
 |cons h t=>cases t;exact⟨_,rfl,h⟩
theorem aE.two{k:bB}{n:Nat}{d e:D}(h:aE T N k n vs [d,e]):∃v w,vs=[v,w]/\Rep T N (n::k) v d/\Rep T N ((n+1)::k) w e:=by
 cases h with
 |cons h t=>obtain⟨w,rfl,h'⟩:=t.one;exact⟨_,_,rfl,h,h'⟩
theorem aE.ints1{k:bB}{n:Nat}{i:Int}(h:aE T N k n vs [.int i]):vs=[.int i]:=by
 obtain⟨v,rfl,z⟩:=h.one;cases z;rfl
theorem aE.ints2{k:bB}{n:Nat}{i j:Int}(h:aE T N k n vs [.int i,.int j]):vs=[.int i,.int j]:=by
 obtain⟨v,w,rfl,z,a⟩:=h.two;cases z;cases a;rfl
noncomputable def Bf.one:Bf->Bool
 |_=>true
theorem M4{f:Bf}{xs:af}{d:D}(a:f.one=true)(h:oe f xs=ok d):∃x,xs=[x]:=by
 cases xs with
 |nil=>cases f<;>exact nk h
 |cons x xs=>cases xs with
  |nil=>exact⟨x,rfl⟩
  |cons y ys=>cases f<;>first | (cases a;done) | (cases x<;>exact nk h)
theorem aE.ofInts{T:mZ}{N:jf}{k:bB}:∀{ns:aa} {n:Nat} {vs:ag},aE T N k n vs (ns.map D.int)->vs=ns.map V.int
 |[],_,_,h=>by cases h;rfl
 |i::ns,_,_,h=>by
  cases h with
  |cons h t=>cases h;rw[aE.ofInts t];rfl
theorem aE.Iq{T:mZ}{N:jf}{k:bB}:∀{ns:List Bool} {n:Nat} {vs:ag},aE T N k n vs (ns.map D.bl)->vs=ns.map V.bl
 |[],_,_,h=>by cases h;rfl
 |i::ns,_,_,h=>by
  cases h with
  |cons h t=>cases h;rw[aE.Iq t];rfl
theorem ib{T:mZ}{N:jf}{k:bB}:∀(ns:aa) {n:Nat},aE T N k n (ns.map V.int) (ns.map D.int)
 |[],_=>.nil
 |i::ns,_=>.cons (.int i) (ib ns)
set_option tactic.hygienic true in
theorem Hr{f:Bf}(g:tD X F Φ (.bf f cs) σ H Q):OM (Yg X.K f) (tU X F Φ cs) σ H Q:=by
 obtain⟨R,τ,ρ,d,n,a,g⟩:=g;obtain⟨xs,t,a⟩:=aD a;refine⟨R,τ,ρ,xs,n,t,λvs H1 e1 r1=>?_⟩;obtain⟨τt,s,m⟩:=r1;cases f with
 |len =>
  obtain⟨x,rfl⟩:=M4 rfl a;obtain⟨v,rfl,c⟩:=m.one;cases x with
  |tup ds=>cases a;obtain⟨_,_,rfl,h,r⟩:=c.Ju;exact⟨_,_,rfl,.inr h,by rw[r.length];exact g _ H1 e1 .int⟩
  |lst f ds=>cases a;obtain⟨_,_,rfl,h,r⟩:=c.rR;exact⟨_,_,rfl,.inl h.sq,by rw[r.length];exact g _ H1 e1 .int⟩
  |_=>exact nk a
 |abs =>
  obtain⟨x,rfl⟩:=M4 rfl a;cases x with
  |int i=>cases a;cases m.ints1;exact⟨_,rfl,g _ H1 e1 .int⟩
  |_=>exact nk a
 |list1 =>
  obtain⟨x,rfl⟩:=M4 rfl a;obtain⟨v,rfl,c⟩:=m.one;cases x with
  |tup ds =>
   cases a;obtain⟨_,_,rfl,h,r⟩:=c.Ju;refine⟨_,_,rfl,.inr h,λl b=>?_⟩;exact g _ _ (e1.trans (aL.upd b)) (cu.sI (e1.free b) (e1.trans (aL.upd b)) aZ ((r.gj n s).imp (λ_ _ h=>a_.same (aL.upd b) h) λ_ _ _ _ h=>nd.same (aL.upd b) h))
  |lst f ds =>
   cases a;obtain⟨_,_,rfl,h,r⟩:=c.rR;refine⟨_,_,rfl,.inl h.sq,λl b=>?_⟩;exact g _ _ (e1.trans (aL.upd b)) (cu.sI (e1.free b) (e1.trans (aL.upd b)) aZ ((r.gj n s).imp (λ_ _ h=>a_.same (aL.upd b) h) λ_ _ _ _ h=>nd.same (aL.upd b) h))
  |_=>exact nk a
 |tuple1 =>
  obtain⟨x,rfl⟩:=M4 rfl a;obtain⟨v,rfl,c⟩:=m.one;cases x with
  |lst f ds =>
   cases a;obtain⟨_,_,rfl,h,r⟩:=c.rR;refine⟨_,_,rfl,.inl ⟨h.sq,λl b=>?_⟩⟩;exact g _ _ (e1.trans (aL.upd b)) ⟨λ_=>none,λ_ _ h=>by simp at h,.tup (a_.of aZ) ((r.gj n s).imp (λ_ _ h=>a_.same (aL.upd b) h) λ_ _ _ _ h=>nd.same (aL.upd b) h)⟩
  |_=>exact nk a
 |eI =>
  obtain⟨x,rfl⟩:=M4 rfl a;obtain⟨v,rfl,c⟩:=m.one;cases x with
  |lst f ds =>
   have a:(match intsOf ds with|some ns=>ok (.int ns.sum)|none=>none)=ok d:=a;cases j:intsOf ds with
   |none=>rw[j]at a;cases a
   |some ns =>
    rw[j]at a;cases a;cases dT j;cases c with
    |lst h r=>cases r.ofInts;exact⟨_,ns,rfl,h.sq,g _ H1 e1 .int⟩
  |_=>exact nk a
 |all1 =>
  obtain⟨x,rfl⟩:=M4 rfl a;obtain⟨v,rfl,c⟩:=m.one;cases x with
  |lst f ds =>
   have a:(match jE ds with|some bs=>ok (.bl (bs.all id))|none=>none)=ok d:=a;cases j:jE ds with
   |none=>rw[j]at a;cases a
   |some ns =>
    rw[j]at a;cases a;cases vM j;cases c with
    |lst h r=>cases r.Iq;exact⟨_,ns,rfl,h.sq,g _ H1 e1 .bl⟩
  |_=>exact nk a
 |iD =>
  obtain⟨x,rfl⟩:=M4 rfl a;obtain⟨v,rfl,c⟩:=m.one;have fin:∀ds,um ds=ok d->∃ns:aa,ds=ns.map D.int/\ns.length<64/\∀l,H1 l=none->Q (.ref l) (upd H1 l (.lst ((sortI ns).map V.int))):=by
   intro ds e;unfold um at e;split at e
   ·rename_i ns j;split at e
    ·rename_i p;cases e;refine⟨ns,dT j,p,λl b=>g _ _ (e1.trans (aL.upd b)) (cu.sI (e1.free b) (e1.trans (aL.upd b)) aZ (ib _))⟩
    ·cases e
   ·cases e
  cases x with
  |tup ds =>
   obtain⟨ns,rfl,p,q⟩:=fin ds a;cases c with
   |tup h r=>cases r.ofInts;exact⟨_,ns,rfl,.inr h,p,q⟩
  |_=>exact nk a
theorem O4(L:Lk X S k Φ){f:Bf}{y:Expr}{ys:aq}{p:Pos}(b:ja S.sc (tO f:Str)=true)(c:(tO f:Str)∈S.bl)(d:PA X (y::ys) (tU X F Φ cs))
  (a:∀es,starEach (y::es) X.env=(false,eval y X.env)::starEach es X.env) (hpl:∀pos,(backTo pos (starEach ys X.env)).any (·.1)=false):PE X (.Call (.Name (tO f:Str) p) (y::ys) [] pos) (tD X F Φ (.bf f cs)):=by
 refine PE.imp (t:=OM (Yg X.K f) (tU X F Φ cs)) ?_ λσ H Q e=>Hr e;cases f with
 |len=>exact fe tN (L.gl b) (L.bl _ c) PySem.boot_len d (he:=a _) (hpl:=hpl _)
 |abs=>exact fe Ef (L.gl b) (L.bl _ c) (by decide +kernel) d (he:=a _) (hpl:=hpl _)
 |list1=>exact qR tM (L.gl b) (L.bl _ c) (by decide +kernel) d (he:=a _) (hpl:=hpl _)
 |tuple1=>exact qR qx (L.gl b) (L.bl _ c) (by decide +kernel) d (he:=a _) (hpl:=hpl _)
 |eI=>exact fe (Az L.calm) (L.gl b) (L.bl _ c) (by decide +kernel) d (he:=a _) (hpl:=hpl _)
 |iD=>exact fe tL (L.gl b) (L.bl _ c) (by decide +kernel) d (he:=a _) (hpl:=hpl _)
 |all1=>exact fe (AA L.calm) (L.gl b) (L.bl _ c) (by decide +kernel) d (he:=a _) (hpl:=hpl _)
set_option tactic.hygienic true in
theorem Fz(L:Lk X S k Φ){a:CE}{e:Expr}{p:Pos}(n:ja S.sc ("len" : Str)=true)(t:("len" : Str)∈S.bl)(m:ja S.sc ("set" : Str)=true)(u:("set" : Str)∈S.bl)
  (q:PE X e (tD X F Φ a)) (f:∀es,starEach (e::es) X.env=(false,eval e X.env)::starEach es X.env):PE X (.Call (.Name ("len" : Str) p) [.Call (.Name ("set" : Str) p') [e] [] pos'] [] pos) (tD X F Φ (.kE a)):=by
 refine PE.imp (FR L.calm (L.gl n) (L.bl _ t) (L.gl m) (L.bl _ u) (cH q ej (f _)) f) λσ H Q c=>?_;obtain⟨R,τ,ρ,d,y,b,c⟩:=c;obtain⟨x,s,b⟩:=aD b;refine tD.intro y s λv H1 e1 r1=>?_;obtain⟨g,z,i⟩:=r1;cases x with
 |tup ds =>
  simp only[yy]at b;split at b
  ·rename_i ns j;split at b
   ·rename_i l;cases b;cases dT j;cases i with
    |tup h r=>cases r.ofInts;exact⟨_,ns,rfl,h,l,c _ H1 e1 .int⟩
   ·cases b
  ·cases b
 |_=>exact nk b
theorem J4{a:CE}{e:Expr}(h:PE X e (tD X F Φ a)):PE X (.UnaryOp .Not e pos) (tD X F Φ (.not a)):=by
 refine PE.imp (Kv h) λσ H Q f=>?_;obtain⟨R,τ,ρ,d,j,g,f⟩:=f;obtain⟨b,c,g⟩:=aD g;obtain⟨x,i,c⟩:=aD c;cases g;refine tD.intro j i λv H1 e1 r1=>?_;cases x<;>simp[iC]at c;cases c;exact⟨_,r1.zZ,f _ H1 e1 .bl⟩
theorem JS{a:CE}{e:Expr}(h:PT X e (gy X F Φ a)):PT X (.UnaryOp .Not e pos) (gy X F Φ (.not a)):=by
 refine PT.imp (Km h) λσ H Q g=>?_;obtain⟨R,τ,ρ,b,m,f,g⟩:=g;unfold vY at f;obtain⟨d,i,f⟩:=aD f;obtain⟨c,j,i⟩:=aD i;cases i;have l:b=!c:=by
  have e2:ok (!c)=ok b:=f;exact(Except.ok.inj (aat e2)).symm
 subst l;exact⟨R,τ,ρ,c,m,j,λH' e=>g H' e⟩
theorem J7{c a b:CE}{t x y:Expr}(l:PT X t (gy X F Φ c))(n:PE X x (tD X F Φ a))(m:PE X y (tD X F Φ b)):PE X (.IfExp t x y pos) (tD X F Φ (.ite c a b)):=by
 refine PE.imp (B_ l n m) λσ H Q f=>?_;obtain⟨R,τ,ρ,d,j,g,f⟩:=f;obtain⟨w,p,g⟩:=aD g;refine⟨R,τ,ρ,w,j,p,λH1 e1=>?_⟩;cases w with
 |true=>exact tD.intro (j.go e1) g λv H' e r=>f v H' (e1.trans e) ((r.old e1).mono λi h=>by simp[iq,h])
 |false=>exact tD.intro (j.go e1) g λv H' e r=>f v H' (e1.trans e) ((r.old e1).mono λi h=>by simp[iq,h])
theorem JT{c a b:CE}{t x y:Expr}(p:PT X t (gy X F Φ c))(r:PT X x (gy X F Φ a))(q:PT X y (gy X F Φ b)):PT X (.IfExp t x y pos) (gy X F Φ (.ite c a b)):=by
 intro pins s σ H Q I g;obtain⟨R,τ,ρ,d,i,f,g⟩:=g;unfold vY at f;obtain⟨j,z,m⟩:=aD f;obtain⟨w,u,f⟩:=aD z;refine isTrue_IfExp (dt (p pins s σ H (λh H1=>h=w/\aL H H1) I ⟨R,τ,ρ,w,i,u,λH1 e1=>⟨rfl,e1⟩⟩) λh l v=>?_);obtain⟨H1,n,hw,e1⟩:=v;subst hw;cases h with
 |true=>exact r pins l σ H1 Q n ⟨R,τ,ρ,d,i.go e1,by unfold vY;rw[show bG Φ a ρ=ok j from f];exact m,λH' e=>g H' (e1.trans e)⟩
 |false=>exact q pins l σ H1 Q n ⟨R,τ,ρ,d,i.go e1,by unfold vY;rw[show bG Φ b ρ=ok j from f];exact m,λH' e=>g H' (e1.trans e)⟩
theorem J5{a:CE}{e:Expr}(h:PE X e (tD X F Φ a)):PE X (.UnaryOp .USub e pos) (tD X F Φ (.neg a)):=by
 refine PE.imp (Pq JE h) λσ H Q c=>?_;obtain⟨R,τ,ρ,d,g,b,c⟩:=c;obtain⟨x,f,b⟩:=aD b;refine tD.intro g f λv H1 e1 r1=>?_;cases x<;>simp[F9]at b;cases b;exact⟨_,r1.isInt,c _ H1 e1 .int⟩
theorem HH{c:CE}(e:tD X F Φ (.and [c]) σ H Q):tD X F Φ c σ H Q:=by
 obtain⟨R,τ,ρ,d,h,f,e⟩:=e;obtain⟨b,a,f⟩:=aD f;obtain⟨x,g,a⟩:=aD a;cases f;refine tD.intro h g λv H1 e1 r1=>?_;cases x<;>simp[iC]at a;cases a;rw[r1.zZ];exact e _ H1 e1 .bl
theorem KC{c:CE}(e:tD X F Φ (.or [c]) σ H Q):tD X F Φ c σ H Q:=by
 obtain⟨R,τ,ρ,d,h,f,e⟩:=e;obtain⟨b,a,f⟩:=aD f;obtain⟨x,g,a⟩:=aD a;cases f;refine tD.intro h g λv H1 e1 r1=>?_;cases x<;>simp[iC]at a;cases a;rw[r1.zZ];exact e _ H1 e1 .bl
theorem En{c:CE}{Q:Bool->Hp->Prop}(e:gy X F Φ (.and [c]) σ H Q):gy X F Φ c σ H Q:=by
 obtain⟨R,τ,ρ,d,h,a,e⟩:=e;unfold vY at a;obtain⟨b,f,a⟩:=aD a;obtain⟨x,g,f⟩:=aD f;cases f;cases a;exact⟨R,τ,ρ,_,h,g,e⟩
theorem FX{c:CE}{Q:Bool->Hp->Prop}(e:gy X F Φ (.or [c]) σ H Q):gy X F Φ c σ H Q:=by
 obtain⟨R,τ,ρ,d,h,a,e⟩:=e;unfold vY at a;obtain⟨b,f,a⟩:=aD a;obtain⟨x,g,f⟩:=aD f;cases f;cases a;exact⟨R,τ,ρ,_,h,g,e⟩
theorem Eo{c:CE}(f:tD X F Φ (.and (c::c'::cs)) σ H Q):Ia (tD X F Φ c) (tD X F Φ (.and (c'::cs))) σ H Q:=by
 obtain⟨R,τ,ρ,d,h,a,f⟩:=f;obtain⟨b,g,a⟩:=aD a;obtain⟨x,l,g⟩:=aD g;refine tD.intro h l λv H1 e1 r1=>?_;cases x<;>simp[iC]at g;cases g;refine⟨_,r1.zZ,?_⟩;cases b with
 |true =>
  rw[if_pos rfl]at a ⊢;exact tD.intro (h.go e1) a λv H' e r=>f v H' (e1.trans e) ((r.old e1).mono λi j=>aan _ j)
 |false =>
  rw[if_neg (by simp)]at a ⊢;cases a;exact f _ H1 e1 .bl
theorem FY{c:CE}(f:tD X F Φ (.or (c::c'::cs)) σ H Q):OH (tD X F Φ c) (tD X F Φ (.or (c'::cs))) σ H Q:=by
 obtain⟨R,τ,ρ,d,h,a,f⟩:=f;obtain⟨b,g,a⟩:=aD a;obtain⟨x,l,g⟩:=aD g;refine tD.intro h l λv H1 e1 r1=>?_;cases x<;>simp[iC]at g;cases g;refine⟨_,r1.zZ,?_⟩;cases b with
 |false =>
  rw[if_neg (by simp)]at a ⊢;exact tD.intro (h.go e1) a λv H' e r=>f v H' (e1.trans e) ((r.old e1).mono λi j=>aan _ j)
 |true =>
  rw[if_pos rfl]at a ⊢;cases a;exact f _ H1 e1 .bl
theorem AE{c:CE}{Q:Bool->Hp->Prop}(f:gy X F Φ (.and (c::c'::cs)) σ H Q):ON (gy X F Φ c) (gy X F Φ (.and (c'::cs))) σ H Q:=by
 obtain⟨R,τ,ρ,d,h,a,f⟩:=f;unfold vY at a;obtain⟨x,i,g⟩:=aD a;obtain⟨b,j,a⟩:=aD i;refine⟨R,τ,ρ,b,h,j,λH1 e1=>?_⟩;cases b with
 |true =>
  rw[if_pos rfl]at a ⊢;exact⟨R,τ,ρ,d,h.go e1,by unfold vY;rw[show bG Φ (.and (c'::cs)) ρ=ok x from a];exact g,λH' e=>f H' (e1.trans e)⟩
 |false =>
  rw[if_neg (by simp)]at a ⊢;cases a;cases g;exact f H1 e1
theorem Cd{c:CE}{Q:Bool->Hp->Prop}(f:gy X F Φ (.or (c::c'::cs)) σ H Q):X4 (gy X F Φ c) (gy X F Φ (.or (c'::cs))) σ H Q:=by
 obtain⟨R,τ,ρ,d,h,a,f⟩:=f;unfold vY at a;obtain⟨x,i,g⟩:=aD a;obtain⟨b,j,a⟩:=aD i;refine⟨R,τ,ρ,b,h,j,λH1 e1=>?_⟩;cases b with
 |false =>
  rw[if_neg (by simp)]at a ⊢;exact⟨R,τ,ρ,d,h.go e1,by unfold vY;rw[show bG Φ (.or (c'::cs)) ρ=ok x from a];exact g,λH' e=>f H' (e1.trans e)⟩
 |true =>
  rw[if_pos rfl]at a ⊢;cases a;cases g;exact f H1 e1
theorem jL{Q:ag->Hp->Prop}(a:tU X F Φ [] σ H Q):JL σ H Q:=by
 obtain⟨R,τ,ρ,d,c,b,a⟩:=a;cases b;exact a _ H (aL.refl H) .nil
theorem fW{c:CE}{Q:ag->Hp->Prop}(b:tU X F Φ (c::cs) σ H Q):Bs (tD X F Φ c) (tU X F Φ cs) σ H Q:=by
 obtain⟨R,τ,ρ,d,f,a,b⟩:=b;obtain⟨x,g,a⟩:=aD a;obtain⟨xs,h,a⟩:=aD a;cases a;refine tD.intro f g λv H1 e1 r1=>⟨R,τ,ρ,xs,f.go e1,h,λvs H2 e2 r2=>b _ H2 (e1.trans e2) (cP.cons e1 e2 (r1.mono λi e=>aax _ e) (r2.mono λi e=>aan _ e))⟩
theorem cK{c:CE}{e:Expr}(h:cw S c e=true)(es:aq)(env:Env):starEach (e::es) env=(false,eval e env)::starEach es env:=by
 cases e<;>first|rfl | (cases c<;>exact(aaf h).elim)
theorem xn:∀{cs:aF} {es:aq},b_ S cs es=true->∀(pos:Pos) (env:Env),(backTo pos (starEach es env)).any (·.1)=false
 |[],[],_,_,_=>rfl
 |[],_::_,h,_,_=>by exact(aaf h).elim
 |_::_,[],h,_,_=>by exact(aaf h).elim
 |c::cs,e::es,h,pos,env=>by
  replace h:=aM h;rw[cK h.1];have:=xn h.2 pos env;unfold backTo at this ⊢;simp only[List.map_cons,List.any_cons,Bool.false_or];exact this
theorem rJ{c:CE}{e:Expr}(h:cw S c e=true):om e:=by
 intro o i;cases e<;>first|rfl | (cases c<;>exact(aaf h).elim)
theorem BH{j:Nat}:PE X (.Constant .none j pos) (tD X F Φ .cq):=PE.imp Kw λσ H Q c=>by obtain⟨R,τ,ρ,d,e,b,a⟩:=c;cases b;exact a _ H (aL.refl H) .cq
theorem Ig{b:Bool}{j:Nat}:PE X (.Constant (.bool b) j pos) (tD X F Φ (.bl b)):=PE.imp Pt λσ H Q e=>by obtain⟨R,τ,ρ,d,f,c,a⟩:=e;cases c;exact a _ H (aL.refl H) .bl
theorem BI{i:Int}{j:Nat}:PE X (.Constant (.int i) j pos) (tD X F Φ (.int i)):=PE.imp Kx λσ H Q c=>by obtain⟨R,τ,ρ,d,e,b,a⟩:=c;cases b;exact a _ H (aL.refl H) .int
theorem Li(L:Lk X S k Φ){y:Expr}{p q:Pos}(j:ja S.sc ("range" : Str)=true)(i:("range" : Str)∈S.bl)(h:PA X [y] (tU X F Φ es))(a:b_ S es [y]=true)
  (pins:ao) (s:Shared) (σ:St) (H:Hp) (R:aj) (τ:Addr->Option bB) (ρ:br) (xs items:af) (I:Inv X pins σ H s) (m:SI X F R τ ρ σ H) (l:cJ Φ es ρ=ok xs) (b:dN Φ .mO xs=ok items) (d:It->Hp->Prop)
  (hR:∀J H2,aL H H2->Yl X.K J (l9 X F τ (caps++d4 es) H2) H2 items->d J H2) :
  wpAny (model X.prog X.w) X.A (eval (.Call (.Name ("range" : Str) p) [y] [] q) X.env) (λv e=>wpAny (model X.prog X.w) X.A (pyIter v) (EF X pins σ target d) X.xe e) X.xe s:=by
 match es,a with
 |[c],a =>
  replace a:=aM a;refine qQ (L.gl j) (L.bl _ i) h (cK a.1 _ _) pins s σ H d I ⟨R,τ,ρ,xs,m,l,λvs H1 e1 f=>?_⟩;obtain⟨τt,u,g⟩:=f;obtain⟨n,rfl⟩:∃n,xs=[.int n]:=by
   cases xs with
   |nil=>cases b
   |cons x t=>cases x<;>first | (cases b;done) | (cases t with|nil=>exact⟨_,rfl⟩|cons _ _=>cases b)
  cases g.ints1
  ·obtain⟨⟨B,z⟩,b⟩:=p9 b;subst b;have r:(cE:Int)=1000000:=rfl;refine⟨n,rfl,by left,by left,hR _ H1 e1 ?_⟩;have:=Jp (X:=X) (lo:=0) (n:=n.toNat) (R:=l9 X F τ (caps++d4 [c]) H1) (H1:=H1);simpa using this
 |[],a=>exact(aaf a).elim
 |_::_::_,a=>exact(aaf (aM a).2).elim
theorem Lh(L:Lk X S k Φ){c:CE}{y:Expr}(r:PE X y (tD X F Φ c))
  (pins:ao) (s:Shared) (σ:St) (H:Hp) (R:aj) (τ:Addr->Option bB) (ρ:br) (xs items:af) (I:Inv X pins σ H s) (d:SI X F R τ ρ σ H) (b:cJ Φ [c] ρ=ok xs) (g:dN Φ .seq xs=ok items) (e:It->Hp->Prop)
  (hR:∀J H2,aL H H2->Yl X.K J (l9 X F τ (caps++d4 [c]) H2) H2 items->e J H2) :
  wpAny (model X.prog X.w) X.A (eval y X.env) (λv z=>wpAny (model X.prog X.w) X.A (pyIter v) (EF X pins σ target e) X.xe z) X.xe s:=by
 obtain⟨x,t,b⟩:=aD b;obtain⟨xs',E,b⟩:=aD b;cases E;cases b;have u:∀i∈iq c,i∈caps++d4 [c]:=λi B=>aan _ (aax _ B);cases x with
 |tup ds =>
  cases g;refine B4 r pins s σ H e I (tD.intro d t λv H1 e1 j=>?_);obtain⟨τt,n,m⟩:=j;cases m with
  | @tup _ p ys _ a l=>exact⟨p,rfl,⟨ys,a⟩,hR _ H1 e1 (Jo (q:=[]) a (aE.jv (λ_ _ h=>h) (wx d n u) l _ _))⟩
 |lst f ds =>
  cases g;refine yn r pins s σ H e I (tD.intro d t λv H1 e1 j=>?_);obtain⟨τt,n,m⟩:=j;cases m with
  | @lst _ p ys _ _ a l=>exact⟨p,rfl,⟨ys,a.sq⟩,hR _ H1 e1 (EN (q:=[]) a.sq (aE.jv (λ_ _ h=>h) (wx d n u) l _ _))⟩
 |_=>cases g
theorem Ob{xs:af}{J:It}(j:SI X F R τ ρ σ H)(hs:∀i∈fv,i∈fv')(r:cP X.K (gP X F) R τ fv H H2 vs xs)(y:RV X.K J H2 vs xs items):
  Yl X.K J (l9 X F τ fv' H2) H2 items:=by
 obtain⟨τt,g,c⟩:=r;have a:∀H',aL H2 H'->aE (a_ X.K H') (nd X.K (l9 X F τ fv' H2) (λ_=>False) (λ_=>none) H') [] 0 vs (aA bo xs):=λH' e =>
  (aE.jv (T':=a_ X.K H2) (λ_ _ h=>h) (wx j g hs) c [] 0).imp (λ_ _ h=>a_.same e h) λ_ _ _ _ h=>nd.same e h
 have st:∀H',aL H2 H'->vS X.K H2 vs xs H':=λH' e=>⟨⟨_,a H2 (aL.refl H2),λp o _ h=>e p o h⟩,λ_ _ h=>a_.same e h⟩
 exact⟨λi H' e b=>y.go i H' _ (st H' e) (a H' e) b,λi H' x d e b f=>y.vX i H' _ x d (st H' e) (a H' e) b f,λi H' e b=>y.stop i H' _ (st H' e) (a H' e) b⟩
theorem Ll(L:Lk X S k Φ){p:Nat}{y:Expr}(h:S.px.pi p S.sc S.bl y=some args)(g:(decide (1100<=p)||jx target)=true)(hs:m7 X F Φ es args)
  (pins:ao) (s:Shared) (σ:St) (H:Hp) (R:aj) (τ:Addr->Option bB) (ρ:br) (xs items:af) (I:Inv X pins σ H s) (b:SI X F R τ ρ σ H) (n:cJ Φ es ρ=ok xs) (e:dN Φ (.cm p) xs=ok items) (a:It->Hp->Prop)
  (hR:∀J H2,aL H H2->Yl X.K J (l9 X F τ (caps++d4 es) H2) H2 items->a J H2) :
  wpAny (model X.prog X.w) X.A (eval y X.env) (λv f=>wpAny (model X.prog X.w) X.A (pyIter v) (EF X pins σ target a) X.xe f) X.xe s:=by
 obtain⟨d,m,l⟩:=aD (show bd (Φ p xs) oP=ok items from e);exact L.pr.i X _ _ k L.pX p y args h F es target g hs pins s σ H R τ ρ xs d items I b n m l a λJ H2 vs e2 r c=>hR J H2 e2 (Ob b (λi j=>by simp[j]) r c)
theorem vD{g:Sx}{a:aq}(i:bX.length<=1)(f:b_ g bX a=true)
  (h:∀(b:Cx) (d:aj),Lk b g k Φ->∀(j:Nat) (c:CE) (e:Expr),bX[j]?=some c->a[j]?=some e->PE b e (tD b d Φ c)/\PT b e (gy b d Φ c)) :
  (bX=[]/\a=[])\/∃c e,bX=[c]/\a=[e]/\∀(b:Cx) (d:aj),Lk b g k Φ->PT b e (gy b d Φ c):=by
 cases bX with
 |nil=>cases a with
  |nil=>exact .inl ⟨rfl,rfl⟩
  |cons _ _=>exact(aaf f).elim
 |cons c cs=>cases cs with
  |cons _ _=>simp at i
  |nil=>cases a with
   |nil=>exact(aaf f).elim
   |cons e a=>cases a with
    |cons _ _=>exact(aaf (aM f).2).elim
    |nil=>exact .inr ⟨c,e,rfl,rfl,λb d l=>(h b d l 0 c e rfl rfl).2⟩
def RC(S:Sx)(a:IK)(es:aF)(target iter:Expr):Bool:=match a with
 |.mO=>bP (fG iter) λw=>decide (w.1=("range" : Str))&&ja S.sc w.1&&decide (w.1∈S.bl)&&bP (one w.2) λy=>b_ S es [y]
 |.seq=>b_ S es [iter]
 |.cm p=>SK iter&&(decide (1100<=p)||jx target)&&bP (S.px.pi p S.sc S.bl iter) λxs=>b_ S es xs
theorem CN(L:Lk X S k Φ){d:IK}(M:∀l,b_ S es l=true->PA X l (tU X F Φ es))
  (i:∀l,b_ S es l=true->∀(j:Nat) (c:CE) (e:Expr),es[j]?=some c->l[j]?=some e->PE X e (tD X F Φ c)/\PT X e (gy X F Φ c)) (f:∀l,b_ S es l=true->m7 X F Φ es l) (a:RC S d es target iter=true) :
  ∀(pins:ao) (s:Shared) (σ:St) (H:Hp) (R:aj) (τ:Addr->Option bB) (ρ:br) (xs items:af),Inv X pins σ H s->SI X F R τ ρ σ H->cJ Φ es ρ=ok xs->dN Φ d xs=ok items->∀(h:It->Hp->Prop),
   (∀J H2,aL H H2->Yl X.K J (l9 X F τ (caps++d4 es) H2) H2 items->h J H2) ->
   wpAny (model X.prog X.w) X.A (eval iter X.env) (λv m=>wpAny (model X.prog X.w) X.A (pyIter v) (EF X pins σ target h) X.xe m) X.xe s:=by
 cases d with
 |mO =>
  obtain⟨⟨x,as⟩,n,a⟩:=bO a;obtain⟨p,O,rfl⟩:=cT n;obtain⟨z,g⟩:=aM a;obtain⟨B,t⟩:=aM z;obtain⟨E,u⟩:=aM B;obtain rfl:x=_:=aab E;obtain⟨y,q,b⟩:=bO g;obtain rfl:as=[y]:=ck q;exact Li L u (aab t) (M _ b) b
 |seq =>
  have I:=i _ a;cases es with
  |nil=>exact(aaf a).elim
  |cons c cs=>cases cs with
   |cons _ _=>exact(aaf (aM a).2).elim
   |nil=>exact Lh L (I 0 c _ rfl rfl).1
 |cm p =>
  obtain⟨a,g⟩:=aM a;obtain⟨xs,r,b⟩:=bO g;exact Ll L r (aM a).2 (f _ b)
mutual
theorem bE:∀(c:CE) (X:Cx) (S:Sx) (F:aj) (L:Lk X S k Φ) (e:Expr),cw S c e=true->PE X e (tD X F Φ c)/\PT X e (gy X F Φ c)
 |.cm p cs,X,S,F,L,e,h=>by
  obtain⟨args,ha,hb⟩:=bO (aM h).2;exact L.pr.e X _ _ k L.pX p e args ha F cs (jP cs X S F L args hb)
 |.cq,X,S,F,L,e,h=>by
  obtain⟨c,m,q⟩:=bO h;obtain⟨j,p,rfl⟩:=A7 m;obtain rfl:=zW q;exact⟨BH,cO BH λ_=>rfl⟩
 |.bl b,X,S,F,L,e,h=>by
  obtain⟨c,m,q⟩:=bO h;obtain⟨j,p,rfl⟩:=A7 m;obtain rfl:=CQ q;exact⟨Ig,cO Ig λ_=>rfl⟩
 |.int i,X,S,F,L,e,h=>by
  obtain⟨c,m,q⟩:=bO h;obtain⟨j,p,rfl⟩:=A7 m;obtain rfl:=zX q;exact⟨BI,cO BI λ_=>rfl⟩
 |.v i,X,S,F,L,e,h=>by
  obtain⟨x,m,h'⟩:=bO h;obtain⟨p,rfl⟩:=l0 m;have:=Uy (F:=F) L h;exact⟨this,cO this λ_=>rfl⟩
 |.glo x i,X,S,F,L,e,h=>by
  obtain⟨y,m,q⟩:=bO h;obtain⟨pos,rfl⟩:=l0 m;obtain⟨B,J⟩:=aM q;obtain⟨I,E⟩:=aM B;obtain⟨O,s⟩:=aM I;obtain rfl:=aab O;obtain⟨u,hm,r⟩:=L.cs _ _ (aab E);have this:PE X (.Name y pos) (tD X F Φ (.glo y i)):=PE.imp (yq (v:=.int i) (L.gl s) hm r (kn J)) λσ H Q W=>by obtain⟨R,τ,ρ,d,Si,M,hq⟩:=W;cases M;exact hq _ H (aL.refl H) .int
  exact⟨this,cO this λ_=>rfl⟩
 |.glt x zs,X,S,F,L,e,h=>by
  obtain⟨y,m,q⟩:=bO h;obtain⟨pos,rfl⟩:=l0 m;obtain⟨B,J⟩:=aM q;obtain⟨I,E⟩:=aM B;obtain⟨O,s⟩:=aM I;obtain rfl:=aab O;obtain⟨u,hm,a,o,aJ,n,rfl,q1,q2,q3,q4,q5⟩:=L.cs _ _ (aab E);have this:PE X (.Name y pos) (tD X F Φ (.glt y zs)):=PE.imp (yq (v:=.ref a) (L.gl s) hm rfl (kn J)) λσ H Q W=>by
   obtain⟨R,τ,ρ,d,Si,M,hq⟩:=W;cases M;exact hq _ H (aL.refl H) ⟨λ_=>none,λ_ _ h=>by simp at h,.tup (.inr ⟨o,aJ,n,q1,q2,q3,q4,q5⟩) (ib zs)⟩
  exact⟨this,cO this λ_=>rfl⟩
 |.bin op a b,X,S,F,L,e,h=>by
  obtain⟨⟨l,o,r⟩,m,q⟩:=bO h;obtain⟨pos,rfl⟩:=EW m;obtain⟨B,E⟩:=aM q;obtain⟨I,s⟩:=aM B;obtain rfl:o=PC op:=aab I;have:=J9 (F:=F) (pos:=pos) L (op:=op) (bE a X S F L _ s).1 (bE b X S F L _ E).1;exact⟨this,cO this λ_=>rfl⟩
 |.neg a,X,S,F,L,e,h=>by
  obtain⟨⟨o,x⟩,m,q⟩:=bO h;obtain⟨pos,rfl⟩:=A4 m;obtain⟨B,s⟩:=aM q;obtain rfl:o=.USub:=aab B;have:=J5 (F:=F) (Φ:=Φ) (pos:=pos) (bE a X S F L _ s).1;exact⟨this,cO this λ_=>rfl⟩
 |.not a,X,S,F,L,e,h=>by
  obtain⟨⟨o,x⟩,m,q⟩:=bO h;obtain⟨pos,rfl⟩:=A4 m;obtain⟨B,s⟩:=aM q;obtain rfl:o=.Not:=aab B;exact⟨J4 (bE a X S F L _ s).1,JS (bE a X S F L _ s).2⟩
 |.and cs,X,S,F,L,e,h=>by
  obtain⟨⟨o,vs⟩,m,q⟩:=bO h;obtain⟨pos,rfl⟩:=ub m;obtain⟨B,s⟩:=aM q;obtain rfl:o=.And:=aab B;exact⟨(l8 cs X S F L vs s pos).1,(l8 cs X S F L vs s pos).2.pt⟩
 |.or cs,X,S,F,L,e,h=>by
  obtain⟨⟨o,vs⟩,m,q⟩:=bO h;obtain⟨pos,rfl⟩:=ub m;obtain⟨B,s⟩:=aM q;obtain rfl:o=.Or:=aab B;exact⟨(oM cs X S F L vs s pos).1,(oM cs X S F L vs s pos).2.pt⟩
 |.ite c a b,X,S,F,L,e,h=>by
  obtain⟨⟨t,x,y⟩,m,q⟩:=bO h;obtain⟨pos,rfl⟩:=JA m;obtain⟨B,E⟩:=aM q;obtain⟨h0,s⟩:=aM B;exact⟨J7 (bE c X S F L _ h0).2 (bE a X S F L _ s).1 (bE b X S F L _ E).1,JT (bE c X S F L _ h0).2 (bE a X S F L _ s).2 (bE b X S F L _ E).2⟩
 |.cmp op a b,X,S,F,L,e,h=>by
  obtain⟨⟨l,os,rs⟩,m,q⟩:=bO h;obtain⟨pos,rfl⟩:=xG m;obtain⟨B,E⟩:=aM q;obtain⟨I,s⟩:=aM B;obtain⟨r,hr,WU⟩:=bO E;obtain⟨Q7,J⟩:=aM WU;obtain rfl:os=[Va op]:=aab I;obtain rfl:rs=[r]:=ck hr;exact⟨PE.imp (yr (Cf L op) (bE a X S F L _ s).1 (bE b X S F L _ Q7).1 (Cn J)) λ_ _ _ I=>vH I,PT.imp (yj (Cf L op) (bE a X S F L _ s).1 (bE b X S F L _ Q7).1 (Cn J)) λ_ _ _ I=>zD I⟩
 |.qZ a t,X,S,F,L,e,h=>by
  obtain⟨⟨f,as⟩,m,q⟩:=bO h;obtain⟨p,pos,rfl⟩:=cT m;obtain⟨B,h5⟩:=aM q;obtain⟨I,E⟩:=aM B;obtain⟨O,s⟩:=aM I;obtain rfl:f=_:=aab O;obtain⟨⟨e,g⟩,hw,GL⟩:=bO h5;obtain rfl:as=[e,g]:=jh hw;obtain⟨Q1,h6⟩:=aM GL;obtain⟨x,hn,LX⟩:=bO h6;obtain⟨p',rfl⟩:∃p,g=.Name x p:=l0 hn;obtain⟨LW,U⟩:=aM LX;obtain⟨LV,J⟩:=aM LW;obtain rfl:=aab LV;have:=J8 (F:=F) (p:=p) (p':=p') (pos:=pos) L s (aab E) J (aab U) (bE a X S F L _ Q1).1 (λes=>cK Q1 es _);exact⟨this,cO this λ_=>rfl⟩
 |.call f cs,X,S,F,L,e,h=>by
  obtain⟨⟨x,as⟩,m,q⟩:=bO h;obtain⟨p,pos,rfl⟩:=cT m;obtain⟨B,U⟩:=aM q;obtain⟨I,J⟩:=aM B;obtain⟨s,E⟩:=aM I;obtain⟨⟨y,ys⟩,Z,V⟩:=bO U;obtain rfl:as=y::ys:=A_ Z;cases cs with
  |nil=>exact(aaf V).elim
  |cons c I0 =>
   have Q5:=aM V;have:=FC (F:=F) (p:=p) (pos:=pos) L (aab s) E J (fX (c::I0) X S F L (y::ys) V) (λes=>cK Q5.1 es _) (λpos=>xn Q5.2 pos _);exact⟨this,cO this λ_=>rfl⟩
 |.bf f cs,X,S,F,L,e,h=>by
  obtain⟨⟨x,as⟩,m,q⟩:=bO h;obtain⟨p,pos,rfl⟩:=cT m;obtain⟨B,U⟩:=aM q;obtain⟨I,J⟩:=aM B;obtain⟨O,E⟩:=aM I;obtain rfl:x=_:=aab O;obtain⟨⟨y,ys⟩,Z,V⟩:=bO U;obtain rfl:as=y::ys:=A_ Z;cases cs with
  |nil=>exact(aaf V).elim
  |cons c I0 =>
   have Q5:=aM V;have:=O4 (F:=F) (p:=p) (pos:=pos) L E (aab J) (fX (c::I0) X S F L (y::ys) V) (λes=>cK Q5.1 es _) (λpos=>xn Q5.2 pos _);exact⟨this,cO this λ_=>rfl⟩
 |.kE a,X,S,F,L,e,h=>by
  obtain⟨⟨x,as⟩,m,q⟩:=bO h;obtain⟨p,pos,rfl⟩:=cT m;obtain⟨B,U⟩:=aM q;obtain⟨I,E⟩:=aM B;obtain⟨O,s⟩:=aM I;obtain rfl:x=_:=aab O;obtain⟨y,Z,V⟩:=bO U;obtain rfl:as=[y]:=ck Z;obtain⟨⟨z,bs⟩,hw,h4_3⟩:=bO V;obtain⟨p',pos',rfl⟩:=cT hw;obtain⟨WN,h5⟩:=aM h4_3;obtain⟨WM,h6⟩:=aM WN;obtain⟨WL,J⟩:=aM WM;obtain rfl:z=_:=aab WL;obtain⟨u,VN,GL⟩:=bO h5;obtain rfl:bs=[u]:=ck VN;have:=Fz (F:=F) (p:=p) (p':=p') (pos:=pos) (pos':=pos') L s (aab E) J (aab h6) (bE a X S F L _ GL).1 (λes=>cK GL es _);exact⟨this,cO this λ_=>rfl⟩
 |.ix a b,X,S,F,L,e,h=>by
  obtain⟨⟨l,r⟩,m,q⟩:=bO h;obtain⟨pos,rfl⟩:=jK m;obtain⟨s,E⟩:=aM q;have:=O3 (F:=F) (pos:=pos) L (bE a X S F L _ s).1 (bE b X S F L _ E).1 (rJ E);exact⟨this,cO this λ_=>rfl⟩
 |.tup cs,X,S,F,L,e,h=>by
  obtain⟨es,m,q⟩:=bO h;obtain⟨n,pos,rfl⟩:=jJ m;obtain⟨s,E⟩:=aM q;have:=J3 (F:=F) (n:=n) (pos:=pos) (fX cs X S F L es s) (aab E);exact⟨this,cO this λ_=>rfl⟩
 |.lst cs,X,S,F,L,e,h=>by
  obtain⟨es,m,q⟩:=bO h;obtain⟨pos,rfl⟩:=xF m;obtain⟨s,E⟩:=aM q;have:=J6 (F:=F) (pos:=pos) (fX cs X S F L es s) (aab E);exact⟨this,cO this λ_=>rfl⟩
 |.comp n t caps ik es bX elt,X,S,F,L,e,h=>by
  obtain⟨⟨ka,gens,sc⟩,m,q⟩:=bO h;obtain⟨pos,rfl⟩:=A5 m;obtain⟨⟨target,iter,Y,a⟩,hg,B⟩:=bO q;obtain rfl:gens=_:=ck hg;obtain⟨I,h6⟩:=aM B;obtain⟨O,h5⟩:=aM I;obtain⟨h_5,U⟩:=aM O;obtain⟨h_6,J⟩:=aM h_5;obtain⟨h_7,E⟩:=aM h_6;obtain⟨h_8,s⟩:=aM h_7;obtain rfl:a=0:=aab h_8;have wZ:=λ(X':Cx) (F':aj) (L':Lk X' (S.inner target caps sc) k Φ)=>jl bX X' _ F' L' Y U;have this:PE X (.ListComp ka [⟨target,iter,Y,0⟩] sc pos) (tD X F Φ (.comp n t caps ik es bX elt)) :=
   FA L (rH s) E (λX' F' L'=>(bE elt X' _ F' L' ka h5).1) (vD (aab J) U wZ) (CN L (λl=>fX es X S F L l) (λl=>jl es X S F L l) (λl=>jP es X S F L l) h6)
  exact⟨this,cO this λ_=>rfl⟩
theorem jl:∀(cs:aF) (X:Cx) (S:Sx) (F:aj) (L:Lk X S k Φ) (es:aq),b_ S cs es=true->∀(j:Nat) (c:CE) (e:Expr),cs[j]?=some c->es[j]?=some e->PE X e (tD X F Φ c)/\PT X e (gy X F Φ c)
 |[],X,S,F,L,_,_=>λj c e h _=>by simp at h
 |_::_,X,S,F,L,[],h=>by exact(aaf h).elim
 |c::cs,X,S,F,L,e::es,h=>λj c' e' hc he=>by
  replace h:=aM h;cases j with
  |zero=>simp at hc he;subst hc he;exact bE c X S F L e h.1
  |succ j=>exact jl cs X S F L es h.2 j c' e' (by simpa using hc) (by simpa using he)
theorem jP:∀(cs:aF) (X:Cx) (S:Sx) (F:aj) (L:Lk X S k Φ) (es:aq),b_ S cs es=true->m7 X F Φ cs es
 |[],X,S,F,L,[],_=>trivial
 |[],X,S,F,L,_::_,h=>by exact(aaf h).elim
 |_::_,X,S,F,L,[],h=>by exact(aaf h).elim
 |c::cs,X,S,F,L,e::es,h=>by
  replace h:=aM h;exact⟨(bE c X S F L e h.1).1,λl=>cK h.1 l _,rJ h.1,jP cs X S F L es h.2⟩
theorem fX:∀(cs:aF) (X:Cx) (S:Sx) (F:aj) (L:Lk X S k Φ) (es:aq),b_ S cs es=true->PA X es (tU X F Φ cs)
 |[],X,S,F,L,[],_=>PA.imp ej λ_ _ _ h=>jL h
 |[],X,S,F,L,_::_,h=>by exact(aaf h).elim
 |_::_,X,S,F,L,[],h=>by exact(aaf h).elim
 |c::cs,X,S,F,L,e::es,h=>by
  replace h:=aM h;exact PA.imp (cH (bE c X S F L e h.1).1 (fX cs X S F L es h.2) (cK h.1 es _)) λ_ _ _ h=>fW h
theorem l8:∀(cs:aF) (X:Cx) (S:Sx) (F:aj) (L:Lk X S k Φ) (es:aq),b_ S cs es=true->∀pos,PE X (.BoolOp .And es pos) (tD X F Φ (.and cs))/\PW X (.BoolOp .And es pos) (gy X F Φ (.and cs))
 |[],X,S,F,L,_,_,pos=>⟨λ_ _ _ _ _ _ ⟨_,_,_,_,_,M,_⟩=>(by cases M),λ_ _ _ _ _ _ _ W=>by obtain⟨_,_,_,_,_,M,_⟩:=W;cases M⟩
 |[c],X,S,F,L,[e],h,pos=>by
  replace h:=aM h;exact⟨PE.imp (B7 (bE c X S F L e h.1).1) λ_ _ _ h=>HH h,PW.imp (FN (bE c X S F L e h.1).2) λ_ _ _ h=>En h⟩
 |[_],X,S,F,L,[],h,_=>by exact(aaf h).elim
 |[_],X,S,F,L,_::_::_,h,_=>by exact(aaf (aM h).2).elim
 |_::_::_,X,S,F,L,[],h,_=>by exact(aaf h).elim
 |_::_::_,X,S,F,L,[_],h,_=>by exact(aaf (aM h).2).elim
 |c::c'::cs,X,S,F,L,e::e'::es,h,pos=>by
  replace h:=aM h;have r:=l8 (c'::cs) X S F L (e'::es) h.2 pos;exact⟨PE.imp (Ky (bE c X S F L e h.1).1 r.1) λ_ _ _ h=>Eo h,PW.imp (Kk (bE c X S F L e h.1).2 r.2) λ_ _ _ h=>AE h⟩
theorem oM:∀(cs:aF) (X:Cx) (S:Sx) (F:aj) (L:Lk X S k Φ) (es:aq),b_ S cs es=true->∀pos,PE X (.BoolOp .Or es pos) (tD X F Φ (.or cs))/\PW X (.BoolOp .Or es pos) (gy X F Φ (.or cs))
 |[],X,S,F,L,_,_,pos=>⟨λ_ _ _ _ _ _ ⟨_,_,_,_,_,M,_⟩=>(by cases M),λ_ _ _ _ _ _ _ W=>by obtain⟨_,_,_,_,_,M,_⟩:=W;cases M⟩
 |[c],X,S,F,L,[e],h,pos=>by
  replace h:=aM h;exact⟨PE.imp (B7 (bE c X S F L e h.1).1) λ_ _ _ h=>KC h,PW.imp (Kj (bE c X S F L e h.1).2) λ_ _ _ h=>FX h⟩
 |[_],X,S,F,L,[],h,_=>by exact(aaf h).elim
 |[_],X,S,F,L,_::_::_,h,_=>by exact(aaf (aM h).2).elim
 |_::_::_,X,S,F,L,[],h,_=>by exact(aaf h).elim
 |_::_::_,X,S,F,L,[_],h,_=>by exact(aaf (aM h).2).elim
 |c::c'::cs,X,S,F,L,e::e'::es,h,pos=>by
  replace h:=aM h;have r:=oM (c'::cs) X S F L (e'::es) h.2 pos;exact⟨PE.imp (Pr (bE c X S F L e h.1).1 r.1) λ_ _ _ h=>FY h,PW.imp (Pk (bE c X S F L e h.1).2 r.2) λ_ _ _ h=>Cd h⟩
end
theorem jk(L:Lk X S k Φ)(c:CE)(e:Expr)(h:cw S c e=true):PE X e (tD X F Φ c)/\PT X e (gy X F Φ c):=bE c X S F L e h
theorem k9(L:Lk X S k Φ)(cs:aF)(es:aq)(h:b_ S cs es=true):m7 X F Φ cs es:=jP cs X S F L es h
theorem xY(L:Lk X S k Φ)(cs:aF)(es:aq)(h:b_ S cs es=true):PA X es (tU X F Φ cs):=fX cs X S F L es h
end
section
variable {X:Cx}{S:Sx}{k:Nat}{F:aj}{Φ:aV}
set_option tactic.hygienic true in
theorem rY(L:Lk X S k Φ)(c:CE)(e:Expr)(h:cw S c e=true):PE X e (tK X F Φ c):=by
 by_cases f:∃i,c=.v i
 ·obtain⟨i,rfl⟩:=f;obtain⟨x,y,E⟩:=bO h;obtain⟨p,rfl⟩:=l0 y;obtain⟨B,g⟩:=aM E;obtain⟨m,l⟩:=aM B;unfold oZ at g;simp only[Bool.and_eq_true,Bool.not_eq_true']at g;refine PE.imp (wG (i:=i) (by rw[L.N];exact aab m) (L.Se l) g.1.1 g.1.2) λσ H Q a=>?_;obtain⟨R,τ,ρ,r,j,b,a⟩:=a;simp only[jV]at b;split at b
  ·rename_i d n;split at b
   ·cases b;obtain⟨v,τ',f,I,t⟩:=j.move n;exact⟨v,f,a v H R τ' (aL.refl H) (λ_ h=>h) I t⟩
   ·rename_i z;cases b;obtain⟨v,f,s⟩:=j.rep i d n;exact⟨v,f,a v H R τ (aL.refl H) (λ_ h=>h) j (Ae s (by simpa using z))⟩
  ·cases b
 ·refine PE.imp (jk (F:=F) L c e h).1 λσ H Q a=>?_;obtain⟨R,τ,ρ,r,j,b,a⟩:=a;have O:bd (bG Φ c ρ) (λd=>ok (keep c d ρ))=ok r:=by
   cases c<;>first|exact b|exact absurd ⟨_,rfl⟩ f
  obtain⟨d,M,J⟩:=aD O;cases J;refine tD.intro j M λv H' q u=>?_;obtain⟨R',τ',m,l,g⟩:=Iw j q u;exact a v H' R' τ' q m l g
end
structure Kp(R:aj)(H:Hp)(R':aj)(H':Hp):Prop where
 r:∀p,R p->R' p
 l:∀p (o:HO),R p->H p=some o->H' p=some o
 t:∀p xs,H p=some (.tup xs)->H' p=some (.tup xs)
 z:∀p o u,H p=some (.kr o u)->H' p=some (.kr o u)
theorem Kp.refl(R:aj)(H:Hp):Kp R H R H:=⟨λ_ h=>h,λ_ _ _ h=>h,λ_ _ h=>h,λ_ _ _ h=>h⟩
theorem Kp.of(e:aL H H')(h:∀p,R p->R' p):Kp R H R' H':=⟨h,λp xs _ h=>e _ _ h,λp xs h=>e _ _ h,λp o u h=>e _ _ h⟩
theorem Kp.trans{R2:Addr->Prop}(a:Kp R H R1 H1)(b:Kp R1 H1 R2 H2):Kp R H R2 H2 :=
 ⟨λp h=>b.r p (a.r p h),λp xs h e=>b.l p xs (a.r p h) (a.l p xs h e),λp xs h=>b.t p xs (a.t p xs h),λp o u h=>b.z p o u (a.z p o u h)⟩
theorem Kp.Sr(a:Kp R H R' H'){p:Addr}(h:a_ K H p xs):a_ K H' p xs:=by
 rcases h with (h|⟨o,h⟩)|h
 ·exact .inl (.inl (a.t p xs h))
 ·exact .inl (.inr ⟨o,a.z p o _ h⟩)
 ·exact .inr h
theorem Kp.nd{K:av}{R R':aj}{H H':Hp}(a:Kp R H R' H'){q:bB}{p:Addr}{xs:Nd}{f:Fl}(h:DI.nd K R (λ_=>False) (λ_=>none) H q p xs f):DI.nd K R' (λ_=>False) (λ_=>none) H' q p xs f:=by
 cases f with
 |ow=>exact nomatch h.2
 |fz=>exact⟨h.1.at λo e=>a.l p o h.2 e,a.r p h.2⟩
 |al=>exact h.2.elim
 |sc =>
  obtain⟨ys,rfl,h⟩:=h.BJ;exact h.elim (λ⟨o,h⟩=>.inl ⟨o,a.z p o _ h⟩) .inr
theorem Kp.rep(a:Kp R H R' H'){k:bB}{v:V}{d:D}(h:Rep (a_ K H) (DI.nd K R (λ_=>False) (λ_=>none) H) k v d):Rep (a_ K H') (DI.nd K R' (λ_=>False) (λ_=>none) H') k v d :=
 h.imp (λ_ _ h=>a.Sr h) λ_ _ _ _ h=>a.nd h
theorem Kp.UQ(a:Kp R H R' H'){k:bB}{n:Nat}{v:ag}{d:af}(h:aE (a_ K H) (DI.nd K R (λ_=>False) (λ_=>none) H) k n v d):aE (a_ K H') (DI.nd K R' (λ_=>False) (λ_=>none) H') k n v d :=
 h.imp (λ_ _ h=>a.Sr h) λ_ _ _ _ h=>a.nd h
def Es(X:Cx)(F:aj)(H':Hp)(v:V)(d:D):Prop:=∃τt:Addr->Option bB,(∀p q,τt p=some q->X.H₀ p=none)/\Rep (a_ X.K H') (nd X.K (gP X F) (λ_=>False) τt H') [] v d
theorem iA.ret{v:V}{d:D}(c:SI X F R τ ρ σ H)(h:iA X R τ H v d):Es X F H v d:=by
 obtain⟨τt,b,a⟩:=h;exact⟨τt,λp q e=>(b p q e).2.2.1,a.imp (λ_ _ h=>h) λ_ _ _ _ h=>h.mono (λh=>c.rf _ h) id id⟩
def m8(X:Cx)(F:aj)(D:Ends)(R:aj)(H:Hp):Fo×br->Prop
 | (.nx,ρ')=>∀a H' R' τ',SI X F R' τ' ρ' a H'->Kp R H R' H'->D.nx a H'
 | (.rt d,_)=>∀v H',aL X.H₀ H'->Es X F H' v d->D.rt v H'
def lW(X:Cx)(F:aj)(Φ:aV)(c:CS):TS:=λD σ H=>∃R τ ρ r,SI X F R τ ρ σ H/\mT Φ c ρ=ok r/\m8 X F D R H r
def qc(X:Cx)(F:aj)(Φ:aV)(cs:ai):TS:=λD σ H=>∃R τ ρ r,SI X F R τ ρ σ H/\b8 Φ cs ρ=ok r/\m8 X F D R H r
noncomputable def K5(sc:Scope)(x:Str):Bool:=decide (sc.names.lookup x=some .local)||decide (sc.names.lookup x=some .cell)
def my(S:Sx)(i:Nat):Expr->Bool
 |.Name x _=>decide (S.N[i]?=some x)&&K5 S.sc x
 |_=>false
def SY:Expr->Bool
 |.Name x _=>oZ x
 |_=>true
def D5(S:Sx):aK->aq->Bool
 |[],es=>match es with
  |[]=>true
  |_::_=>false
 |i::is,es=>match es with
  |[]=>false
  |e::es=>my S i e&&D5 S is es
def tG(S:Sx):Tg->Expr->Bool
 |.nm i,e=>my S i e
 |.tp is,e=>bP (zA e) λes=>D5 S is es
noncomputable def jy(e:Expr):Bool:=decide (e.ctorIdx=8)
noncomputable def isTup:Expr->Bool
 |.Tuple _ _ _=>true
 |_=>false
noncomputable def Uu(S:Sx)(tg v:Expr):Bool:=match tg,v with
 |.Name x p,.ListComp _ _ sc pos=>(S.sc.names.lookup x==some .local)&&(p.line==pos.line)&&!(sc.names.any λ(n,k)=>n==x&&(k==.local||k==.cell))
 |_,_=>false
noncomputable def Jy(e:Expr):Option (Str×Pos):=if h:e.ctorIdx=23 then Expr.Name.elim (motive_1:=λ_=>Option (Str×Pos)) e h (λx p=>some (x,p))else none
theorem xE{e:Expr}{x:Str}{p:Pos}(h:Jy e=some (x,p)):e=.Name x p:=by
 obtain⟨k,h⟩:=dI h;exact Expr.Name.elim (motive_1:=λe=>∀k:e.ctorIdx=23,Expr.Name.elim (motive_1:=λ_=>Option (Str×Pos)) e k (λx p=>some (x,p))=some (x,p)->e=.Name x p) e k (λ_ _ _ h=>by cases h;rfl) k h
def D4(S:Sx)(i j:Nat)(tg v:Expr):Bool :=
 bP (zA tg) λa=>bP (two a) λt=>bP (Jy t.1) λx=>bP (Jy t.2) λy=>bP (zA v) λvs=>bP (two vs) λw =>
  decide (S.N[i]?=some x.1)&&decide (S.N[j]?=some y.1)&&decide (i≠j)&&decide (S.sc.names.lookup x.1=some .local)&&decide (S.sc.names.lookup y.1=some .local)&&decide (x.1≠y.1) &&
   decide (x.2.line=y.2.line)&&!([w.1,w.2].all (foldedForSure 8))&&!([w.1,w.2].all (constantsAlone 8))&&decide (([w.1,w.2].any λe=>match e with|.Starred ..=>true|_=>false)=false)
def RD(S:Sx)(it:CI)(e:Expr):Bool:=match it with
 |.mO a=>bP (fG e) λw=>decide (w.1=("range" : Str))&&ja S.sc w.1&&decide (w.1∈S.bl)&&bP (one w.2) λy=>cw S a y
 |.seq a=>cw S a e&&qV e
 |.Ks p es=>SK e&&bP (S.px.pi p S.sc S.bl e) λxs=>b_ S es xs
noncomputable def Ci:CI->Bool
 |.Ks p _=>decide (1100<=p)
 |_=>true
noncomputable def A8(s:Stmt):Option (aq×Expr):=if h:s.ctorIdx=5 then Stmt.Assign.elim (motive_2:=λ_=>Option (aq×Expr)) s h (λa v _=>some (a,v))else none
theorem nA{s:Stmt}{ts:aq}{v:Expr}(h:A8 s=some (ts,v)):∃p,s=.Assign ts v p:=by
 obtain⟨k,h⟩:=dI h;exact Stmt.Assign.elim (motive_2:=λs=>∀k:s.ctorIdx=5,Stmt.Assign.elim (motive_2:=λ_=>Option (aq×Expr)) s k (λts v _=>some (ts,v))=some (ts,v)->∃p,s=.Assign ts v p) s k (λ_ _ _ _ h=>by cases h;exact⟨_,rfl⟩) k h
noncomputable def Om(s:Stmt):Option (Option Expr):=if h:s.ctorIdx=3 then Stmt.Return.elim (motive_2:=λ_=>Option (Option Expr)) s h (λv _=>some v)else none
theorem ES{s:Stmt}{v:Option Expr}(h:Om s=some v):∃p,s=.Return v p:=by
 obtain⟨k,h⟩:=dI h;exact Stmt.Return.elim (motive_2:=λs=>∀k:s.ctorIdx=3,Stmt.Return.elim (motive_2:=λ_=>Option (Option Expr)) s k (λv _=>some v)=some v->∃p,s=.Return v p) s k (λ_ _ _ h=>by cases h;exact⟨_,rfl⟩) k h
noncomputable def Sf(s:Stmt):Option Expr:=if h:s.ctorIdx=24 then Stmt.Expr.elim (motive_2:=λ_=>Option Expr) s h (λv _=>some v)else none
theorem v9{s:Stmt}{v:Expr}(h:Sf s=some v):∃p,s=.Expr v p:=by
 obtain⟨k,h⟩:=dI h;exact Stmt.Expr.elim (motive_2:=λs=>∀k:s.ctorIdx=24,Stmt.Expr.elim (motive_2:=λ_=>Option Expr) s k (λv _=>some v)=some v->∃p,s=.Expr v p) s k (λ_ _ _ h=>by cases h;exact⟨_,rfl⟩) k h
noncomputable def EX(s:Stmt):Option (Expr×Operator×Expr):=if h:s.ctorIdx=7 then Stmt.AugAssign.elim (motive_2:=λ_=>Option (Expr×Operator×Expr)) s h (λo p v _=>some (o,p,v))else none
theorem xH{s:Stmt}{v:Expr}{p:Operator}(h:EX s=some (o,p,v)):∃q,s=.AugAssign o p v q:=by
 obtain⟨k,h⟩:=dI h;exact Stmt.AugAssign.elim (motive_2:=λs=>∀k:s.ctorIdx=7,Stmt.AugAssign.elim (motive_2:=λ_=>Option (Expr×Operator×Expr)) s k (λo p v _=>some (o,p,v))=some (o,p,v)->∃q,s=.AugAssign o p v q) s k (λ_ _ _ _ _ h=>by cases h;exact⟨_,rfl⟩) k h
noncomputable def Oo(s:Stmt):Option (Expr×aX×aX):=if h:s.ctorIdx=12 then Stmt.If.elim (motive_2:=λ_=>Option (Expr×aX×aX)) s h (λt x y _=>some (t,x,y))else none
theorem ET{s:Stmt}{t:Expr}{x y:aX}(h:Oo s=some (t,x,y)):∃q,s=.If t x y q:=by
 obtain⟨k,h⟩:=dI h;exact Stmt.If.elim (motive_2:=λs=>∀k:s.ctorIdx=12,Stmt.If.elim (motive_2:=λ_=>Option (Expr×aX×aX)) s k (λt x y _=>some (t,x,y))=some (t,x,y)->∃q,s=.If t x y q) s k (λ_ _ _ _ _ h=>by cases h;exact⟨_,rfl⟩) k h
noncomputable def Ol(s:Stmt):Option (Expr×aX×aX):=if h:s.ctorIdx=11 then Stmt.While.elim (motive_2:=λ_=>Option (Expr×aX×aX)) s h (λt x y _=>some (t,x,y))else none
theorem ER{s:Stmt}{t:Expr}{x y:aX}(h:Ol s=some (t,x,y)):∃q,s=.While t x y q:=by
 obtain⟨k,h⟩:=dI h;exact Stmt.While.elim (motive_2:=λs=>∀k:s.ctorIdx=11,Stmt.While.elim (motive_2:=λ_=>Option (Expr×aX×aX)) s k (λt x y _=>some (t,x,y))=some (t,x,y)->∃q,s=.While t x y q) s k (λ_ _ _ _ _ h=>by cases h;exact⟨_,rfl⟩) k h
noncomputable def Oq(s:Stmt):Option (Expr×Expr×aX×aX):=if h:s.ctorIdx=9 then Stmt.For.elim (motive_2:=λ_=>Option (Expr×Expr×aX×aX)) s h (λtg a x y _=>some (tg,a,x,y))else none
theorem EU{s:Stmt}{it:Expr}{x y:aX}(h:Oq s=some (tg,it,x,y)):∃q,s=.For tg it x y q:=by
 obtain⟨k,h⟩:=dI h;exact Stmt.For.elim (motive_2:=λs=>∀k:s.ctorIdx=9,Stmt.For.elim (motive_2:=λ_=>Option (Expr×Expr×aX×aX)) s k (λtg it x y _=>some (tg,it,x,y))=some (tg,it,x,y)->∃q,s=.For tg it x y q) s k (λ_ _ _ _ _ _ h=>by cases h;exact⟨_,rfl⟩) k h
noncomputable def xI(e:Expr):Option (Expr×Str×Pos):=if h:e.ctorIdx=20 then Expr.Attribute.elim (motive_1:=λ_=>Option (Expr×Str×Pos)) e h (λo a p=>some (o,a,p))else none
theorem oF{e:Expr}{a:Str}{p:Pos}(h:xI e=some (o,a,p)):e=.Attribute o a p:=by
 obtain⟨k,h⟩:=dI h;exact Expr.Attribute.elim (motive_1:=λe=>∀k:e.ctorIdx=20,Expr.Attribute.elim (motive_1:=λ_=>Option (Expr×Str×Pos)) e k (λo a p=>some (o,a,p))=some (o,a,p)->e=.Attribute o a p) e k (λ_ _ _ _ h=>by cases h;rfl) k h
noncomputable def rS(e:Expr):Option (Expr×aq×List Keyword×Pos):=if h:e.ctorIdx=16 then Expr.Call.elim (motive_1:=λ_=>Option (Expr×aq×List Keyword×Pos)) e h (λf as a p=>some (f,as,a,p))else none
theorem l3{e f:Expr}{ks:List Keyword}{p:Pos}(h:rS e=some (f,as,ks,p)):e=.Call f as ks p:=by
 obtain⟨k,h⟩:=dI h;exact Expr.Call.elim (motive_1:=λe=>∀k:e.ctorIdx=16,Expr.Call.elim (motive_1:=λ_=>Option (Expr×aq×List Keyword×Pos)) e k (λf as ks p=>some (f,as,ks,p))=some (f,as,ks,p)->e=.Call f as ks p) e k (λ_ _ _ _ _ h=>by cases h;rfl) k h
noncomputable def isNil{a:Type}:List a->Bool
 |[]=>true
 |_::_=>false
theorem lA{a:Type}{l:List a}(h:isNil l=true):l=[]:=by cases l<;>first|rfl|cases h
noncomputable def Gr:Stmt->Bool
 |.Raise _ _ _=>true
 |_=>false
noncomputable def Ln(s:Stmt):Bool:=decide (s.ctorIdx=25)
theorem ND{s:Stmt}(h:Ln s=true):∃p,s=.Pass p:=Stmt.Pass.elim (motive_2:=λs=>∃p,s=.Pass p) s (aab h) λp=>⟨p,rfl⟩
noncomputable def Ql(s:Stmt):Bool:=decide (s.ctorIdx=26)
theorem Qk{s:Stmt}(h:Ql s=true):∃p,s=.Break p:=Stmt.Break.elim (motive_2:=λs=>∃p,s=.Break p) s (aab h) λp=>⟨p,rfl⟩
noncomputable def VA(s:Stmt):Bool:=decide (s.ctorIdx=27)
theorem S7{s:Stmt}(h:VA s=true):∃p,s=.Continue p:=Stmt.Continue.elim (motive_2:=λs=>∃p,s=.Continue p) s (aab h) λp=>⟨p,rfl⟩
theorem zf{i:Nat}{e:Expr}(h:my S i e=true):∃x p,e=.Name x p:=by
 cases e<;>first|exact⟨_,_,rfl⟩|exact(aaf h).elim
theorem zY{e:Expr}(h:jy e=true):∃x g a p,e=.ListComp x g a p:=Expr.ListComp.elim (motive_1:=λe=>∃x g a p,e=.ListComp x g a p) e (aab h) λ_ _ _ _=>⟨_,_,_,_,rfl⟩
mutual
noncomputable def RB(S:Sx):CS->Stmt->Bool
 |.asg t e,s0=>bP (A8 s0) λz=>bP (one z.1) λtg=>cw S e z.2&&tG S t tg&&!(isTup z.2&&isTup tg)&&(!jy z.2||isNm tg)
 |.par i j a b,s0=>bP (A8 s0) λz=>bP (one z.1) λtg=>cw S (.tup [a,b]) z.2&&D4 S i j tg z.2
 |.ret e,s0=>bP (Om s0) λz=>bP z λv=>cw S e v
 |.rs _,s0=>Gr s0
 |.mut p i es,s0=>bP (S.px.pm p S.sc S.bl s0) λz=>my S i z.1&&SY z.1&&b_ S es z.2
 |.mu2 p i k e,s0=>bP (S.px.p2 p S.sc S.bl s0) λz=>my S i z.1&&SY z.1&&b_ S [k,e] z.2
 |.unp is e,s0=>bP (A8 s0) λz=>bP (one z.1) λtg=>cw S e z.2&&tG S (.tp is) tg&&!(isTup z.2&&isTup tg)&&!jy z.2
 |.app i e,s0=>bP (Sf s0) λc=>bP (rS c) λz=>isNil z.2.2.1&&bP (xI z.1) λa=>decide (a.2.1=("append" : Str))&&my S i a.1&&SY a.1&&(a.2.2.endLine==z.2.2.2.line)&&bP (one z.2.1) λv=>cw S e v
 |.aug i op e,s0=>bP (EX s0) λz=>my S i z.1&&SY z.1&&decide (z.2.1=if op then .Add else .Sub)&&cw S e z.2.2
 |.ex e,s0=>bP (Sf s0) λv=>cw S e v&&!jy v
 |.ifs c a b,s0=>bP (Oo s0) λz=>cw S c z.1&&lL S a z.2.1&&lL S b z.2.2
 |.Js c b,s0=>bP (Ol s0) λz=>isNil z.2.2&&cw S c z.1&&lL S b z.2.1
 |.fr t it b,s0=>bP (Oq s0) λz=>isNil z.2.2.2&&tG S t z.1&&RD S it z.2.1&&(jx z.1||Ci it)&&lL S b z.2.2.1
noncomputable def lL(S:Sx):ai->aX->Bool
 |[],ss=>match ss with
  |[]=>true
  |_::_=>false
 |c::cs,ss=>match ss with
  |[]=>false
  |s::ss=>RB S c s&&lL S cs ss
end
structure Ni(px:Px)(Φ:aV):Prop where
 m:∀(X:Cx) (sc:Scope) (bl:ak) (k:Nat),PX X sc bl k->X.N.Nodup->(∀x,X.fn x=true)->∀(p:Nat) (st:Stmt) (x:Str) (pos:Pos) (args:aq),px.pm p sc bl st=some (.Name x pos,args)->∀(i:Nat),X.N[i]?=some x->L2.Loc X.env.scope x->PE X (.Name x pos) (uf i) ->
  ∀(F:aj) (cs:aF),m7 X F Φ cs args->PS X st (lW X F Φ (.mut p i cs))
 m2:∀(X:Cx) (sc:Scope) (bl:ak) (k:Nat),PX X sc bl k->X.N.Nodup->(∀x,X.fn x=true)->∀(p:Nat) (st:Stmt) (x:Str) (pos:Pos) (args:aq),px.p2 p sc bl st=some (.Name x pos,args)->∀(i:Nat),X.N[i]?=some x->L2.Loc X.env.scope x->PE X (.Name x pos) (uf i) ->
  ∀(F:aj) (c1 c2:CE),m7 X F Φ [c1,c2] args->PS X st (lW X F Φ (.mu2 p i c1 c2))
structure pY(X:Cx)(S:Sx)(k:Nat)(Φ:aV):Prop extends Lk X S k Φ where
 DE:∀x,X.fn x=true
 px:PassesOwn (model X.prog X.w) X.A X.env X.xe
 fk:S.sc.kind=.function
 pm:Ni S.px Φ
section
variable {X:Cx}{S:Sx}{k:Nat}{F:aj}{Φ:aV}
theorem pY.loc(L:pY X S k Φ){x:Str}(h:K5 S.sc x=true):L2.Loc X.env.scope x:=by
 unfold L2.Loc;rw[L.sc];unfold K5 at h;rw[Bool.or_eq_true]at h;exact h.imp aab aab
theorem Ib(L:pY X S k Φ){x:Str}{p:Pos}{l:Nat}{elt:Expr}{gens:List Comprehension}{sc:Scope}:swapsWith (.ListComp elt gens sc pos) (some (.Name x p)) l X.env=pure (Uu S (.Name x p) (.ListComp elt gens sc pos)):=by
 have b:X.env.blockKind=.function:=by unfold Env.blockKind;rw[L.sc,L.fk];rfl
 have a:(X.env.kindOf x==some .local)=(S.sc.names.lookup x==some .local):=by
  unfold Env.kindOf;rw[L.sc]
 unfold swapsWith Uu;simp only[b,a];rfl
theorem pQ{c:CE}{e:Expr}(h:cw S c e=true)(a:jy e=false)(t:Option Expr)(l:Nat)(env:Env):swapsWith e t l env=pure false:=by
 cases e<;>first|rfl | (cases a;done) | (cases c<;>exact(aaf h).elim)
def Tp:aK->HL
 |[]=>L6
 |i::is=>DA (rA i) (Tp is)
theorem B5(L:pY X S k Φ){i:Nat}{e:Expr}(h:my S i e=true):PG X e (rA i):=by
 cases e<;>try (exact(aaf h).elim;done)
 replace h:=aM h;exact sC L.nd (by rw[L.N];exact aab h.1) (L.loc h.2) (.inl (L.DE _))
theorem F7{i:Nat}{e:Expr}(h:my S i e=true)(es:aq)(env:Env):assignEach (e::es) env=(false,assign e env)::assignEach es env:=by
 cases e<;>first|rfl | (exact(aaf h).elim;done)
theorem wF(L:pY X S k Φ):∀{is:aK} {es:aq},D5 S is es=true->N6 X es (Tp is)/\(assignEach es X.env).length=is.length/\(assignEach es X.env).findIdx? (·.1)=none
 |[],[],_=>⟨yo,rfl,rfl⟩
 |[],_::_,h=>by exact(aaf h).elim
 |_::_,[],h=>by exact(aaf h).elim
 |i::is,e::es,h=>by
  replace h:=aM h;obtain⟨d,c,b⟩:=wF L h.2;have a:=F7 h.1 es X.env;refine⟨uL (B5 L h.1) d (by rw[a];rfl),by rw[a];simp[c],?_⟩;rw[a,List.findIdx?_cons];simp[b]
theorem uq{H:Hp}{R:aj}{Q:St->Hp->Prop}:∀{is:aK} {vs:ag} {ds:af} {c:bB} {n:Nat} {σ:St} {τ:Addr->Option bB} {ρ b:br},aE (a_ X.K H) (nd X.K R (λ_=>False) (λ_=>none) H) c n vs ds->SI X F R τ ρ σ H->fH is ds ρ=ok b ->
  (∀a τ',SI X F R τ' b a H->Q a H)->Tp is vs σ H Q
 |[],_,_,_,_,σ,τ,_,_,.nil,Si,e,hq=>by
  cases e;exact⟨rfl,hq σ τ Si⟩
 |[],_,_,_,_,_,_,_,_,.cons _ _,_,e,_=>by cases e
 |_::_,_,_,_,_,_,_,_,_,.nil,_,e,_=>by cases e
 |i::is,_,_,_,_,σ,τ,ρ,_,.cons (v:=v) (d:=d) h t,Si,e,hq=>by
  change (if _ then _ else _)=_ at e;split at e
  ·rename_i f;obtain⟨τ',g⟩:=Si.set (i:=i) (nF (τ':=τ) (Rep.sN h)) f;exact⟨_,_,rfl,uq t g e hq⟩
  ·cases e
noncomputable def Bm(n:Nat)(τt:Addr->Option bB):Addr->Option bB:=λp=>match τt p with|some q=>if q.getLast?=some n then some q.dropLast else none|none=>none
noncomputable def Bl(n:Nat)(τt:Addr->Option bB):Addr->Option bB:=λp=>match τt p with|some q=>if q.getLast?=some n then none else some q|none=>none
theorem Fg{n:Nat}{p:Addr}{q:bB}(h:Bm n τt p=some q):τt p=some (q++[n]):=by
 unfold Bm at h;cases e:τt p with
 |none=>rw[e]at h;cases h
 |some k =>
  rw[e]at h;by_cases c:k.getLast?=some n
  ·simp only[c,if_true]at h;cases h;obtain⟨ys,rfl⟩:=List.getLast?_eq_some_iff.mp c;simp
  ·simp only[c,if_false]at h;cases h
theorem Ff{n:Nat}{p:Addr}{q:bB}(h:Bl n τt p=some q):τt p=some q/\q.getLast?≠some n:=by
 unfold Bl at h;cases e:τt p with
 |none=>rw[e]at h;cases h
 |some k =>
  rw[e]at h;by_cases c:k.getLast?=some n
  ·simp only[c,if_true]at h;cases h
  ·simp only[c,if_false]at h;cases h;exact⟨rfl,c⟩
theorem qL{H:Hp}{R:aj}{τt:Addr->Option bB}{n:Nat}:∀{vs:ag} {ds:af} {m:Nat},n<m->aE (a_ X.K H) (nd X.K R (λ_=>False) τt H) [] m vs ds->aE (a_ X.K H) (nd X.K R (λ_=>False) (Bl n τt) H) [] m vs ds
 |_,_,_,_,.nil=>.nil
 |_,_,m,hm,.cons h t=>.cons (h.imp (q':=[m]) (λ_ _ h=>h) λc p xs f h=>by
   cases f with
   |ow =>
    refine⟨h.1,?_⟩;have e:=h.2;unfold Bl;rw[e];have:(c++[m]).getLast?≠some n:=by rw[List.getLast?_append];simp;left
    simp only[this,if_false]
   |fz=>exact h
   |al=>exact h
   |sc=>exact h) (qL (by left) t)
theorem qI{H:Hp}{R:aj}{Q:St->Hp->Prop}:∀{is:aK} {vs:ag} {ds:af} {n:Nat} {σ:St} {τ τt:Addr->Option bB} {ρ b:br},(∀p q,τt p=some q->τ p=none/\¬ R p/\X.H₀ p=none/\H p≠none)->aE (a_ X.K H) (nd X.K R (λ_=>False) τt H) [] n vs ds->SI X F R τ ρ σ H->fH is ds ρ=ok b ->
  (∀a τ',SI X F R τ' b a H->Q a H)->Tp is vs σ H Q
 |[],_,_,_,σ,τ,_,_,_,_,.nil,Si,e,hq=>by
  cases e;exact⟨rfl,hq σ τ Si⟩
 |[],_,_,_,_,_,_,_,_,_,.cons _ _,_,e,_=>by cases e
 |_::_,_,_,_,_,_,_,_,_,_,.nil,_,e,_=>by cases e
 |i::is,_,_,n,σ,τ,τt,ρ,_,ht,.cons (v:=v) (d:=d) h t,Si,e,hq=>by
  change (if _ then _ else _)=_ at e;split at e
  ·rename_i l;have r:=Si.OZ (i:=i) (τt:=Bm n τt) (λp q g=>ht p _ (Fg g)) (h.imp (q':=[]) (λ_ _ h=>h) λc p xs f h=>by
    cases f with
    |ow =>
     refine⟨h.1,?_⟩;have e:=h.2;unfold Bm;rw[e,List.append_nil];simp
    |fz=>exact h
    |al=>exact h
    |sc=>exact h) l
   refine⟨_,_,rfl,qI (τt:=Bl n τt) (λp q g=>?_) (qL (aaW n) t) r e hq⟩;obtain⟨j,m⟩:=Ff g;obtain⟨u,s⟩:=ht p q j;refine⟨?_,s⟩;unfold wg Bm;rw[j];simp only[m,if_false];exact u
  ·cases e
set_option tactic.hygienic true in
theorem JD(L:pY X S k Φ)(h:tG S (.tp is) tg=true):∃g,PG X tg g/\∀(v:V) (σ:St) (H:Hp) (Q:St->Hp->Prop) (R:aj) (τ:Addr->Option bB) (ρ a:br) (d:D),SI X F R τ ρ σ H->iA X R τ H v d->EZ is d ρ=ok a ->
  (∀b τ',SI X F R τ' a b H->Q b H)->g v σ H Q:=by
 obtain⟨es,m,s⟩:=bO h;obtain⟨nn,z,rfl⟩:=jJ m;obtain⟨x,u,t⟩:=wF L s;refine⟨_,wD L.calm x u t,λv σ H Q R τ ρ a d y j e q=>?_⟩;cases d<;>first|exact nk e | (cases e;done)|skip
 rename_i ds;have e:fH is ds ρ=ok a:=e;obtain⟨τt,n,f⟩:=j;cases f with
 | @tup _ p xs _ r c =>
  refine⟨p,xs,rfl,r,?_,qI n c y e q⟩;rw[c.length];have:∀(is:aK) (ds:af) (ρ a:br),fH is ds ρ=ok a->ds.length=is.length:=by
   intro is;induction is with
   |nil=>intro ds ρ a e;cases ds with|nil=>rfl|cons _ _=>cases e
   |cons i is l=>intro ds ρ a e;cases ds with
    |nil=>cases e
    |cons d ds =>
     change (if _ then _ else _)=_ at e;split at e
     ·rw[List.length_cons,List.length_cons,l ds _ _ e]
     ·cases e
  exact this _ _ _ _ e
set_option tactic.hygienic true in
theorem Bk(L:pY X S k Φ){t:Tg}(h:tG S t tg=true):∃g,PG X tg g/\∀(v:V) (σ:St) (H:Hp) (Q:St->Hp->Prop) (R:aj) (τ:Addr->Option bB) (ρ a:br) (d:D),SI X F R τ ρ σ H->iA X R τ H v d->cB t d ρ=ok a ->
  (∀b τ',SI X F R τ' a b H->Q b H)->g v σ H Q:=by
 cases t with
 |nm i =>
  refine⟨rA i,B5 L h,λv σ H Q R τ ρ a d l c e j=>?_⟩;simp only[cB]at e;split at e
  ·rename_i y;cases e;obtain⟨τ',M⟩:=l.set c y;exact j _ τ' M
  ·cases e
 |tp is =>
  obtain⟨es,s,B⟩:=bO h;obtain⟨nn,O,rfl⟩:=jJ s;obtain⟨J,I,E⟩:=wF L B;refine⟨_,wD L.calm J I E,λv σ H Q R τ ρ a d l c e j=>?_⟩;cases d<;>try (simp[cB]at e;done)
  rename_i ds;simp only[cB]at e;split at e
  ·cases e
  ·rename_i x;obtain⟨τt,U,q⟩:=c;cases q with
   | @tup _ p xs _ u m =>
    have n:aE (a_ X.K H) (nd X.K R (λ_=>False) (λ_=>none) H) [] 0 xs ds:=aE.without (P:=cG) (λ_ _ h=>h) (λk k' p xs f z h=>by
     cases f with
     |ow=>cases z
     |fz=>exact h
     |al=>exact h.2.elim
     |sc=>exact h) m (by simpa using x) _ _
    refine⟨p,xs,rfl,u,?_,uq n l e j⟩;rw[m.length];have:∀(is:aK) (ds:af) (ρ a:br),fH is ds ρ=ok a->ds.length=is.length:=by
     intro is;induction is with
     |nil=>intro ds ρ a e;cases ds with|nil=>rfl|cons _ _=>cases e
     |cons i is r=>intro ds ρ a e;cases ds with
      |nil=>cases e
      |cons d ds =>
       change (if _ then _ else _)=_ at e;split at e
       ·simp[r ds _ _ e]
       ·cases e
    exact this _ _ _ _ e
end
section
variable {X:Cx}{S:Sx}{k:Nat}{F:aj}{Φ:aV}
theorem Bx(L:pY X S k Φ){t:Tg}{e:CE}{v:Expr}(he:cw S e v=true)(d:tG S t tg=true)(s:(isTup v&&isTup tg)=false)(B:swapsWithSole [tg] v pos.line X.env=pure false):PS X (.Assign [tg] v pos) (lW X F Φ (.asg t e)):=by
 obtain⟨g,u,I⟩:=Bk (F:=F) L d;have j:(∃x p,tg=.Name x p)\/∃es n p,tg=.Tuple es n p:=by
  cases t with
  |nm i=>cases tg<;>first|exact .inl ⟨_,_,rfl⟩|exact(aaf d).elim
  |tp is=>cases tg<;>first|exact .inr ⟨_,_,_,rfl⟩|exact(aaf d).elim
 have each:(assignEach [tg] X.env).map (·.2)=[assign tg X.env]:=by
  rcases j with ⟨x,p,rfl⟩|⟨es,n,p,rfl⟩<;>rfl
 have hw:swappedStores [tg] v X.env=pure none:=by
  rcases j with ⟨x,p,rfl⟩|⟨es,n,p,rfl⟩
  ·first|rfl | (cases v<;>rfl)
  ·cases v<;>first|rfl|exact absurd s (by simp[isTup])
 refine PS.imp (BZ (rY (F:=F) L.toLk e v he) u B hw each) λD σ H f=>?_;obtain⟨R,τ,ρ,r,z,a,f⟩:=f;obtain⟨r1,l,a⟩:=aD a;obtain⟨c,h,a⟩:=aD a;cases a;exact⟨R,τ,ρ,r1,z,l,λv H' R' τ' es hR y q=>I v σ H' _ R' τ' r1.2 c r1.1 y q h λb m E=>f b H' R' m E (Kp.of es hR)⟩
theorem JV(L:pY X S k Φ){e:CE}{v:Expr}(he:cw S e v=true)(h:tG S (.tp is) tg=true)(q:(isTup v&&isTup tg)=false)(x:swapsWithSole [tg] v pos.line X.env=pure false):PS X (.Assign [tg] v pos) (lW X F Φ (.unp is e)):=by
 obtain⟨g,s,z⟩:=JD (F:=F) L h;have i:∃es n p,tg=.Tuple es n p:=by
  cases tg<;>first|exact⟨_,_,_,rfl⟩|exact(aaf h).elim
 have each:(assignEach [tg] X.env).map (·.2)=[assign tg X.env]:=by
  obtain⟨es,n,p,rfl⟩:=i;rfl
 have hw:swappedStores [tg] v X.env=pure none:=by
  obtain⟨es,n,p,rfl⟩:=i;cases v<;>first|rfl|exact absurd q (by simp[isTup])
 refine PS.imp (BZ (rY (F:=F) L.toLk e v he) s x hw each) λD σ H d=>?_;obtain⟨R,τ,ρ,r,u,a,d⟩:=d;obtain⟨r1,j,a⟩:=aD a;obtain⟨c,f,a⟩:=aD a;cases a;exact⟨R,τ,ρ,r1,u,j,λv H' R' τ' es hR t m=>z v σ H' _ R' τ' r1.2 c r1.1 t m f λb l y=>d b H' R' l y (Kp.of es hR)⟩
theorem Ft(L:pY X S k Φ){i n:Nat}{t:Tg}{E:IK}{x:Str}{p OX:Pos}{gens:List Comprehension}{sc:Scope}
  (he:cw S (.comp n t caps E es bX elt) (.ListComp ka gens sc pos)=true) (hn:my S i (.Name x p)=true) (Qs:swapsWith (.ListComp ka gens sc pos) (some (.Name x p)) OX.line X.env=pure true) :
  PS X (.Assign [.Name x p] (.ListComp ka gens sc pos) OX) (lW X F Φ (.asg (.nm i) (.comp n t caps E es bX elt))):=by
 intro pins s σ H D I g;obtain⟨R,τ,ρ,r,Si,J,g⟩:=g;obtain⟨r1,B,J⟩:=aD J;obtain⟨ρ',j,J⟩:=aD J;cases J;have B:bd (bG Φ (.comp n t caps E es bX elt) ρ) (λd=>ok (keep (.comp n t caps E es bX elt) d ρ))=ok r1:=B;obtain⟨d,ed,B⟩:=aD B;cases B;have hg:=B5 L hn;rw[exec_Assign_Name_used _ _ _ _ Qs];refine aaa (ack (aaa ?_));obtain⟨⟨e0,g0,s0⟩,Y,Lu⟩:=bO he;cases Y;obtain⟨⟨target,iter,u,a⟩,Wm,c⟩:=bO Lu;obtain rfl:gens=_:=ck Wm;obtain⟨c,h6⟩:=aM c;obtain⟨c,h5⟩:=aM c;obtain⟨c,h4⟩:=aM c;obtain⟨c,h3⟩:=aM c;obtain⟨c,h2⟩:=aM c;obtain⟨c,h1⟩:=aM c;obtain rfl:a=0:=aab c;have hC:=vD (aab h3) h4 (λ(X':Cx) (F':aj) (L':Lk X' (S.inner target caps sc) k Φ)=>jl bX X' _ F' L' u h4);have W:wpAny (model X.prog X.w) X.A (comprehension (.ListComp ka [⟨target,iter,u,0⟩] sc pos) sc X.env (firstIterPos [⟨target,iter,u,0⟩] pos) (newList []) false (eval iter X.env) (some (assign (.Name x p) X.env))) (λ_ O=>SP X pins D .next O) X.xe s:=by
  refine vF (F:=F) (k:=k) L.toLk (rH h1) h2 (λX' F' L'=>(jk (F:=F') L' elt ka h5).1) hC ?_ (use:=some (assign (.Name x p) X.env)) (Post:=λ_ O=>SP X pins D .next O) I Si ed ?_
  ·exact CN L.toLk (λl=>xY (F:=F) L.toLk es l) (λl=>jl es X S F L.toLk l) (λl=>k9 L.toLk es l) h6
  ·intro f C H1 M m AQ hc IX sm rt;obtain⟨c1,c2,c3,c4,c5⟩:=hc;obtain⟨R',τ',hR,gJ,rk⟩:=Iw (e:=.comp n t caps E es bX elt) Si sm rt;have I1:Inv X pins σ H1 M:=IX M.heap (.refl ..);obtain⟨U,esC,epC,hoC,Y1,Z⟩:=AQ;have cfs:C∉X.fs:=λz=>by
    obtain⟨_,o,ho,_⟩:=I1.ok.nu.mem z;exact absurd (aah (aai ho) c2) (aaw _)
   have I2:Inv X ((C,U)::pins) σ H1 M:=I1.jR λq g=>by
    rcases List.mem_cons.mp g with rfl|g
    ·exact⟨hoC,c5,c1,cfs,λv z=>by rw[Y1]at z;cases z⟩
    ·exact I1.pin q (aan _ g)
   simp only[cB]at j;split at j
   ·rename_i hi;cases j;obtain⟨V,vU⟩:=gJ.set rk hi;show wpAny _ _ (assign (.Name x p) X.env (.ref f)) _ _ _;refine aay (hg ((C,U)::pins) M σ H1 (.ref f) (.ref f) (λy H'=>y=σ.set i (some (.ref f))/\H'=H1) I2 rfl ⟨rfl,rfl⟩) (λ_ s2 h2=>?_) λ_ _ z=>z;obtain⟨y,H',I3,rfl,rfl⟩:=h2;have hC3:=(I3.pin (C,U) (aan _ aae)).1;refine⟨m,⟨U,esC,epC,hC3,Y1,Z⟩,λh' CZ=>?_⟩;have I4:Inv X pins (σ.set i (some (.ref f))) H' s2:=I3.jR λq g=>I3.pin q (aan _ (aac _ g));have I5:=I4.turned (t':=s2.toks) (h':=h') (it:=C) (λb o hb e=>(CZ.2 b hb).trans e) c5 c1 (.inr c2) c3 c4;exact⟨_,H',I5,g _ H' R' V vU (Kp.of sm hR)⟩
   ·cases j
 exact aaa (aay W (λ_ O h=>aad (aad h)) λ_ _ z=>z)
theorem JW(L:pY X S k Φ){e:CE}{v:Expr}(he:cw S e v=true):PS X (.Return (some v) pos) (lW X F Φ (.ret e)):=by
 refine PS.imp (Kn (rY (F:=F) L.toLk e v he)) λD σ H a=>?_;obtain⟨R,τ,ρ,r,g,b,a⟩:=a;obtain⟨r1,d,b⟩:=aD b;cases b;exact⟨R,τ,ρ,r1,g,d,λv H' R' τ' es hR c f=>a v H' c.same (f.ret c)⟩
theorem OW(L:pY X S k Φ){e:CE}{v:Expr}(he:cw S e v=true)(g:jy v=false):PS X (.Expr v pos) (lW X F Φ (.ex e)):=by
 refine PS.imp (nH (jk (F:=F) L.toLk e v he).1 (pQ he g _ _ _)) λD σ H a=>?_;obtain⟨R,τ,ρ,r,c,b,a⟩:=a;obtain⟨d,f,b⟩:=aD b;cases b;exact tD.intro c f λv H' es i=>a σ H' R τ (c.go es) (Kp.of es λ_ h=>h)
theorem m8.from{D:Ends}{r:Fo×br}(h:m8 X F D R H r)(c:Kp R H R1 H1):m8 X F D R1 H1 r:=by
 obtain⟨e,b⟩:=r;cases e with
 |nx=>exact λa H' R' τ' f k2=>h a H' R' τ' f (c.trans k2)
 |rt d=>exact h
theorem OV(L:pY X S k Φ){c:CE}{a b:ai}{t:Expr}{x y:aX}(g:cw S c t=true)(j:oo X x (qc X F Φ a))(i:oo X y (qc X F Φ b)):PS X (.If t x y pos) (lW X F Φ (.ifs c a b)):=by
 refine PS.imp (Pn (jk (F:=F) L.toLk c t g).2 j i) λD σ H e=>?_;obtain⟨R,τ,ρ,r,f,d,e⟩:=e;obtain⟨w,l,d⟩:=aD d;refine⟨R,τ,ρ,w,f,l,λH1 e1=>?_⟩;cases w with
 |true=>rw[if_pos rfl]at d ⊢;exact⟨R,τ,ρ,r,f.go e1,d,e.from (Kp.of e1 λ_ h=>h)⟩
 |false=>rw[if_neg (by simp)]at d ⊢;exact⟨R,τ,ρ,r,f.go e1,d,e.from (Kp.of e1 λ_ h=>h)⟩
theorem Bw(L:pY X S k Φ){c:CE}{b:ai}{t:Expr}{x:aX}(v:cw S c t=true)(y:oo X x (qc X F Φ b)):PS X (.While t x [] pos) (lW X F Φ (.Js c b)):=by
 refine PS.imp (BW L.px (jk (F:=F) L.toLk c t v).2 y) λD σ H j=>?_;obtain⟨R,τ,ρ,r,J,E,j⟩:=j;obtain⟨n,u⟩:=mj E;refine⟨λm a H'=>∃R' τ' e,SI X F R' τ' e a H'/\Kp R H R' H'/\dk m _ e=ok r,⟨n,R,τ,ρ,J,Kp.refl R H,u⟩,?_⟩;rintro m l H1 ⟨R1,f,i,p,k1,e1⟩;cases m with
 |zero=>simp[dk]at e1
 |succ m =>
  rw[dk]at e1;obtain⟨st,es,e1⟩:=aD e1;obtain⟨w,B,es⟩:=aD es;refine⟨R1,f,i,w,p,B,λH2 e2=>?_⟩;cases w with
  |false =>
   rw[if_neg (by simp)]at es ⊢;cases es;cases e1;exact j l H2 R1 f (p.go e2) (k1.trans (Kp.of e2 λ_ h=>h))
  |true =>
   rw[if_pos rfl]at es ⊢;obtain⟨⟨q,g⟩,I,es⟩:=aD es;refine⟨λa H'=>∃R' τ' e,SI X F R' τ' e a H'/\Kp R H R' H'/\dk m _ e=ok r,λa H' h=>⟨m,aaW m,h⟩,R1,f,i,(q,g),p.go e2,I,?_⟩;have k2:Kp R H R1 H2:=k1.trans (Kp.of e2 λ_ h=>h);cases q with
   |nx=>cases es;exact λa H' R' τ' z s=>⟨R',τ',g,z,k2.trans s,e1⟩
   |rt d=>cases es;cases e1;exact j
def lU(X:Cx)(F:aj)(Φ:aV)(t:Tg)(b:ai)(R1:aj)(H1:Hp)(r:Fo×br)(items:List DI.D)(i:Nat)(σ:St)(H:Hp):Prop :=
 ∃R' τ' a,SI X F R' τ' a σ H/\Kp R1 H1 R' H/\d9 (λd ρ=>cB t d ρ) (λρ=>b8 Φ b ρ) (items.drop i) a=ok r
theorem pF{g:TG}{t:Tg}{b:ai}{D:Ends}{r:Fo×br}{items:List DI.D}{q:bB}
  (Y:∀(v:V) (σ:St) (H:Hp) (Q:St->Hp->Prop) (R:aj) (τ:Addr->Option bB) (ρ a:br) (d:DI.D),SI X F R τ ρ σ H->iA X R τ H v d->cB t d ρ=ok a->(∀c τ',SI X F R τ' a c H->Q c H)->g v σ H Q)
  (rs:aE (a_ X.K H1) (nd X.K R1 (λ_=>False) (λ_=>none) H1) q 0 xs items) (L:m8 X F D R1 H1 r) (i:Nat) (x:V) (σ:St) (H:Hp) (J:xs[i]?=some x) (h:lU X F Φ t b R1 H1 r items i σ H) :
  g x σ H λp H2=>qc X F Φ b { D with nx:=lU X F Φ t b R1 H1 r items (i+1),ct:=lU X F Φ t b R1 H1 r items (i+1),bk:=D.nx } p H2:=by
 obtain⟨R',τ',a,O,s,e⟩:=h;obtain⟨d,m,E⟩:=rs.Ai J;have l:i<items.length:=by
  by_cases l:i<items.length
  ·exact l
  ·rw[List.getElem?_eq_none (by left)]at m;cases m
 have z:items.drop i=d::items.drop (i+1):=by
  rw[List.drop_eq_getElem_cons l];rw[List.getElem?_eq_getElem l]at m;cases m;rfl
 rw[z,d9]at e;obtain⟨j,e1,e⟩:=aD e;obtain⟨⟨u,f⟩,e2,e⟩:=aD e;refine Y x σ H _ R' τ' a j d O (nF (Rep.sN (s.rep E))) e1 λc B M=>⟨R',B,j,(u,f),M,e2,?_⟩
 cases u with
 |nx=>exact λy Z U n W I=>⟨U,n,f,W,s.trans I,e⟩
 |rt d=>cases e;exact L
theorem nY{t:Tg}{b:ai}{D:Ends}{r:Fo×br}{items:List DI.D}{n:Nat}(f:n=items.length)(e:m8 X F D R1 H1 r)(σ:St)(H:Hp)(h:lU X F Φ t b R1 H1 r items n σ H):D.nx σ H:=by
 obtain⟨R',τ',c,g,d,a⟩:=h;subst f;rw[List.drop_length,d9]at a;cases a;exact e σ H R' τ' g d
theorem yT(ρ:br):kr [] ρ=ρ:=by
 unfold kr;apply abv;intro i;rw[List.getElem?_mapIdx];cases ρ[i]? with
 |none=>rfl
 |some o=>simp
theorem yW{v:V}{d:DI.D}(b:SI X F R τ ρ σ H)(es:aL H H')(r:cu X.K (gP X F) R τ fv H H' v d):
  ∃R' τ',(∀p,R p->R' p)/\SI X F R' τ' (if aT b6 d then kr fv ρ else ρ) σ H'/\Rep (a_ X.K H') (nd X.K R' (λ_=>False) (λ_=>none) H') [] v (aO bo d):=by
 by_cases a:aT b6 d=true
 ·rw[if_pos a];exact tj b es r
 ·rw[if_neg a];have e:cu X.K (gP X F) R τ [] H H' v d:=by
   obtain⟨τt,i,c⟩:=r;exact⟨τt,i,Rep.kY (P:=b6) (λ_ _ h=>h) (λk p xs f g h=>by
    cases f with
    |ow=>exact h
    |fz=>exact h
    |al=>cases g
    |sc=>exact h) c (by simpa using a)⟩
  have:=tj b es e;rw[yT]at this;exact this
theorem DC{ds:List DI.D}(b:SI X F R τ ρ σ H)(es:aL H H')(r:cP X.K (gP X F) R τ fv H H' vs ds):
  ∃R' τ',(∀p,R p->R' p)/\SI X F R' τ' (if aP b6 ds then kr fv ρ else ρ) σ H'/\aE (a_ X.K H') (nd X.K R' (λ_=>False) (λ_=>none) H') [] 0 vs (aA bo ds):=by
 by_cases a:aP b6 ds=true
 ·rw[if_pos a];exact vo b es r
 ·rw[if_neg a];have d:cP X.K (gP X F) R τ [] H H' vs ds:=by
   obtain⟨τt,g,c⟩:=r;exact⟨τt,g,aE.kY (P:=b6) (λ_ _ h=>h) (λk p xs f e h=>by
    cases f with
    |ow=>exact h
    |fz=>exact h
    |al=>cases e
    |sc=>exact h) c (by simpa using a)⟩
  have:=vo b es d;rw[yT]at this;exact this
def Z2(X:Cx)(F:aj)(Φ:aV)(p:Nat)(cs:aF):TI:=λσ H a=>∃R τ ρ xs d items,SI X F R τ ρ σ H/\cJ Φ cs ρ=ok xs/\Φ p xs=ok d/\oP d=ok items /\
 ∀J H2 vs,aL H H2->cP X.K (gP X F) R τ (d4 cs) H H2 vs xs->RV X.K J H2 vs xs items->a J H2
theorem Fs(L:pY X S k Φ){t:Tg}{p:Nat}{b:ai}{x:aX}(ht:tG S t tg=true)(hi:S.px.pi p S.sc S.bl iter=some args)(hc:b_ S cs args=true)(Ly:SK iter=true)(U:(decide (1100<=p)||jx tg)=true)(hb:oo X x (qc X F Φ b)):PS X (.For tg iter x [] pos) (lW X F Φ (.fr t (.Ks p cs) b)):=by
 obtain⟨g,hg,Aa⟩:=Bk (F:=F) L ht;have pv:∀y,foldedSetIterable iter X.env y=pure y:=by
  intro y;cases iter<;>first|rfl | (cases Ly;done)
 have pi:PI X tg iter (Z2 X F Φ p cs):=λpins s σ H Rr I ⟨R,τ,ρ,xs,d,items,z,Z,Y,e,hR⟩ =>
  L.pr.i X _ _ k L.toLk.pX p iter args hi F cs tg U (k9 L.toLk cs args hc) pins s σ H R τ ρ xs d items I z Z Y e Rr hR
 refine PS.imp (sA L.px L.calm pi hg hb pv) λD σ H V=>?_;obtain⟨R,τ,ρ,r,z,ev,V⟩:=V;obtain⟨⟨items,ρ1⟩,e,ef⟩:=aD ev;obtain⟨xs,Z,e⟩:=aD e;obtain⟨d,Y,e⟩:=aD e;obtain⟨Vt,W,e⟩:=aD e;cases e;refine⟨R,τ,ρ,xs,d,items,z,Z,Y,W,λJ H2 vs e2 FH O=>?_⟩;obtain⟨R',τ',hR,gJ,rs⟩:=DC z e2 FH;have z9:=V.from (Kp.of e2 hR);refine⟨λi m c H'=>m=items.length - i/\i<=items.length/\lU X F Φ t b R' H2 r items i c H',⟨_,rfl,aaH _,R',τ',_,gJ,Kp.refl R' H2,by rw[List.drop_zero];exact ef⟩,?_⟩;rintro i m f H1 ⟨rfl,NO,hf⟩;obtain⟨R1,E,M,vV,k1,e1⟩:=id hf;have Kb:=k1.UQ rs;have Uw:vS X.K H2 vs xs H1:=⟨⟨R',rs,k1.l⟩,λa ys h=>k1.Sr h⟩
 by_cases u:i<items.length
 ·refine .inr ⟨O.go i H1 R1 Uw Kb u,λc H'=>lU X F Φ t b R' H2 r items (i+1) c H',λc H' h=>⟨items.length - (i+1),by left,rfl,u,h⟩,λv H3 hy=>?_⟩;obtain⟨e3,dd,hd,rd⟩:=O.vX i H1 R1 v H3 Uw Kb u hy;have vk:items.drop i=dd::items.drop (i+1):=by
   rw[List.drop_eq_getElem_cons u];rw[List.getElem?_eq_getElem u]at hd;cases hd;rfl
  rw[vk,d9]at e1;obtain⟨q,eb,e1⟩:=aD e1;obtain⟨⟨fo,j⟩,e4,e1⟩:=aD e1;have k3:Kp R' H2 R1 H3:=k1.trans (Kp.of e3 λ_ h=>h);refine Aa v f H3 _ R1 E M q dd (vV.go e3) (nF rd) eb λc vZ Er=>⟨R1,vZ,q,(fo,j),Er,e4,?_⟩
  cases fo with
  |nx=>exact λσ3 H4 R3 B M9 k4=>⟨R3,B,j,M9,k3.trans k4,e1⟩
  |rt d=>cases e1;exact z9
 ·exact .inl ⟨O.stop i H1 R1 Uw Kb (by left),nY (n:=i) (by left) z9 f H1 hf⟩
theorem aE.ints{T:mZ}{N:jf}:∀(is:aa) {k:bB} {n:Nat},aE T N k n (is.map V.int) (is.map DI.D.int)
 |[],_,_=>.nil
 |i::is,_,_=>.cons (.int i) (aE.ints is)
set_option tactic.hygienic true in
theorem JY(L:pY X S k Φ){t:Tg}{it:CI}{b:ai}{x:aX}(ht:tG S t tg=true)(B:RD S it iter=true)(V6:(jx tg||Ci it)=true)(Y:oo X x (qc X F Φ b)):PS X (.For tg iter x [] pos) (lW X F Φ (.fr t it b)):=by
 obtain⟨g,hg,Aa⟩:=Bk (F:=F) L ht;have pv:∀y,foldedSetIterable iter X.env y=pure y:=by
  intro y;cases iter<;>first|rfl | (cases it<;>first|exact(aaf B).elim|exact(aaf (aM B).2).elim)
 have mO:∀{lo:Int} {n:Nat} {D:Ends} {R:aj} {τ:Addr->Option bB} {ρ:br} {σ:St} {H H1:Hp} {r:Fo×br},SI X F R τ ρ σ H->aL H H1->m8 X F D R H r ->
   d9 (λd ρ=>cB t d ρ) (λρ=>b8 Φ b ρ) ((List.range n).map λ(k:Nat)=>DI.D.int (lo+(k:Int))) ρ=ok r ->
   ∃W:Nat->Nat->L2.St->Hp->Prop,(∃m,W 0 m σ H1)/\∀i m σ H,W i m σ H ->
    ((AH lo n).stop i H/\D.nx σ H)\/((AH lo n).go i H/\∃N:L2.St->Hp->Prop,(∀c H',N c H'->∃m',m'<m/\W (i+1) m' c H')/\∀x H',(AH lo n).vX i H x H'->g x σ H' λσ2 H2=>qc X F Φ b { D with nx:=N,ct:=N,bk:=D.nx } σ2 H2):=by
  intro lo n D R τ ρ σ H H1 r l e1 z E;have q:aE (a_ X.K H1) (nd X.K R (λ_=>False) (λ_=>none) H1) [] 0 ((List.range n).map λ(k:Nat)=>V.int (lo+(k:Int))) ((List.range n).map λ(k:Nat)=>DI.D.int (lo+(k:Int))):=by
   have:=aE.ints (T:=a_ X.K H1) (N:=nd X.K R (λ_=>False) (λ_=>none) H1) ((List.range n).map λ(k:Nat)=>lo+(k:Int)) (k:=[]) (n:=0);rw[List.map_map,List.map_map]at this;exact this
  have u:=z.from (Kp.of e1 (R':=R) λ_ h=>h);refine Ak (lU X F Φ t b R H1 r _) ⟨R,τ,ρ,l.go e1,Kp.refl R H1,by rw[List.drop_zero];exact E⟩ (λi c H' hin h=>?_) (λc H' h=>nY (by simp) u c H' h);exact pF Aa q u i (.int (lo+i)) c H' (by rw[List.getElem?_map,List.getElem?_range hin];rfl) h
 intro pins s σ H D I VX;cases it with
 |Ks p cs =>
  obtain⟨Ly,hz⟩:=aM B;obtain⟨args,ha,NF⟩:=bO hz;exact Fs L ht ha NF Ly (by rw[Bool.or_comm];exact V6) Y pins s σ H D I VX
 |mO a =>
  obtain⟨R,τ,ρ,r,l,U,z⟩:=VX;obtain⟨⟨items,ρ1⟩,j,E⟩:=aD U;obtain⟨⟨y,as⟩,hv,hz⟩:=bO B;obtain⟨p,Lo,rfl⟩:=cT hv;obtain⟨YJ,NF⟩:=aM hz;obtain⟨hz3,h2⟩:=aM YJ;obtain⟨hz4,h1⟩:=aM hz3;obtain rfl:y=_:=aab hz4;obtain⟨e,hu,h3⟩:=bO NF;obtain rfl:as=[e]:=ck hu;have pa:PA X [e] (tU X F Φ [a]):=PA.imp (cH (jk (F:=F) L.toLk a e h3).1 ej (cK h3 _ _)) λ_ _ _ h=>by
   have:=fW h;obtain⟨R,τ,ρ,d,l,U,z⟩:=this;exact⟨R,τ,ρ,d,l,U,λv H' e r=>jL (z v H' e r)⟩
  refine sA L.px L.calm (qQ (L.gl h1) (L.bl _ (aab h2)) pa (cK h3 _ _)) hg Y pv pins s σ H D I ?_;obtain⟨d,Z,j⟩:=aD j;cases d<;>try (simp at j;done)
  rename_i n;simp at j;obtain⟨⟨c1,c2⟩,rfl,rfl⟩:=j;have pw:(cE:Int)=1000000:=rfl;refine⟨R,τ,ρ,[.int n],l,by show bd (bG Φ a ρ) _=_;rw[Z];rfl,λvs H1 e1 J=>?_⟩;obtain⟨τt,fr,q⟩:=J;cases q.ints1
  ·refine⟨n,rfl,by left,by left,?_⟩;refine mO (lo:=0) l e1 z ?_;simpa using E
 |seq a =>
  obtain⟨R,τ,ρ,r,l,U,z⟩:=VX;obtain⟨⟨items,ρ1⟩,j,E⟩:=aD U;replace B:=aM B;obtain⟨d,Z,j⟩:=aD j;have pe:=(jk (F:=F) L.toLk a iter B.1).1;cases d<;>try (simp at j;done)
  ·rename_i ds;simp at j;obtain⟨rfl,rfl⟩:=j;refine sA L.px L.calm (B4 pe) hg Y pv pins s σ H D I (tD.intro l Z λv H1 e1 J=>?_);obtain⟨R',τ',hR,gJ,M⟩:=yW l e1 J;rw[aO]at M;cases M with
   | @tup _ p xs _ O q =>
    have u:=z.from (Kp.of e1 hR);refine⟨p,rfl,⟨xs,O⟩,GR (xs:=xs) (lU X F Φ t b R' H1 r (aA bo ds)) ⟨R',τ',_,gJ,Kp.refl R' H1,by rw[List.drop_zero];exact E⟩ (λi c H' _ h=>?_) (λi x c H' hx h=>pF Aa q u i x c H' hx h) (λc H' h=>nY (q.length) u c H' h)⟩;obtain⟨R2,τ2,ρ2,_,kp,_⟩:=h;exact kp.Sr O
  ·rename_i f ds;simp at j;obtain⟨rfl,rfl⟩:=j;refine sA L.px L.calm (yn pe) hg Y pv pins s σ H D I (tD.intro l Z λv H1 e1 J=>?_);obtain⟨R',τ',hR,gJ,M⟩:=yW l e1 J;rw[aO]at M;obtain⟨p,xs,rfl,O,q⟩:=M.rR;have u:=z.from (Kp.of e1 hR);refine⟨p,rfl,⟨xs,O.sq⟩,DD (xs:=xs) (lU X F Φ t b R' H1 r (aA bo ds)) ⟨R',τ',_,gJ,Kp.refl R' H1,by rw[List.drop_zero];exact E⟩ (λi c H' _ h=>?_) (λi x c H' hx h=>pF Aa q u i x c H' hx h) (λc H' h=>nY (q.length) u c H' h)⟩;obtain⟨R2,τ2,ρ2,_,kp,_⟩:=h;exact(kp.nd O).sq
theorem o9{b:br}{p:Addr}{q:bB}{n:Nd}{o:HO}(h:SI X F R' τ' b σ H1)(es:aL H H1)(hR:∀p,R p->R' p)(f:eH H1 p n)(c:τ' p=some q):Kp R H R' (upd H1 p o):=by
 obtain⟨m,d,i,j⟩:=eH.some f;exact⟨hR,λa u g e=>by
  have ne:a≠p:=λz=>by subst z;rw[h.rt _ (hR _ g)]at c;cases c
  rw[bC ne];exact es _ _ e,λa l e=>by
  have e1:=es _ _ e;have ne:a≠p:=λz=>by subst z;rw[d]at e1;cases e1;exact i _ rfl
  rw[bC ne];exact e1,λa o u e=>by
  have e1:=es _ _ e;have ne:a≠p:=λz=>by subst z;rw[d]at e1;cases e1;exact j _ _ rfl
  rw[bC ne];exact e1⟩
theorem iA.go{v:V}{d:DI.D}(h:iA X R τ H v d)(e:aL H H'):iA X R τ H' v d :=
 let ⟨τt,h1,h2⟩:=h;⟨τt,λp q z=>let ⟨a,b,c,d⟩:=h1 p q z;⟨a,b,c,aL.ne e d⟩,h2.imp (λ_ _ h=>a_.same e h) λ_ _ _ _ h=>nd.same e h⟩
set_option tactic.hygienic true in
theorem SX(L:pY X S k Φ){i:Nat}(h:my S i o=true)(d:∀x p,o=.Name x p->oZ x=true):∃x p,o=.Name x p/\X.N[i]?=some x/\L2.Loc X.env.scope x/\PE X o (uf i):=by
 cases o<;>try (exact(aaf h).elim;done)
 rename_i x p;have a:=d x p rfl;replace h:=aM h;unfold oZ at a;simp only[Bool.and_eq_true,Bool.not_eq_true']at a;have c:X.N[i]?=some x:=by rw[L.N];exact aab h.1
 have b:=L.loc h.2;exact⟨x,p,rfl,c,b,wG c (b.imp id .inl) a.1.1 a.1.2⟩
theorem GV{e:CE}{r:DI.D×br}{i:Nat}{ds:List DI.D}(h:jV Φ e ρ=ok r)(a:r.2[i]?=some (some (.lst .ow ds))):ρ[i]?=some (some (.lst .ow ds)):=by
 by_cases g:∃j,e=.v j
 ·obtain⟨j,rfl⟩:=g;simp only[jV]at h;split at h
  ·split at h
   ·cases h;by_cases c:i=j
    ·subst c;rw[List.getElem?_set]at a;simp at a
    ·rw[List.getElem?_set_ne (Ne.symm c)]at a;exact a
   ·cases h;exact a
  ·cases h
 ·have h':bd (bG Φ e ρ) (λd=>ok (keep e d ρ))=ok r:=by
   cases e<;>first|exact h|exact absurd ⟨_,rfl⟩ g
  obtain⟨d,_,m⟩:=aD h';cases m;unfold keep at a;split at a
  ·obtain⟨n,l,b⟩:=yU _ _ _ _ a;split at b
   ·cases n<;>simp[aO]at b;rename_i f ds';cases f<;>simp[bo]at b
   ·rw[b];exact l
  ·exact a
set_option tactic.hygienic true in
theorem J0(L:pY X S k Φ){i:Nat}{e:CE}{x:Str}{v:Expr}{p B u:Pos}(hn:my S i (.Name x p)=true)(Z:oZ x=true)(he:cw S e v=true)(O:(B.endLine==u.line)=true):PS X (.Expr (.Call (.Attribute (.Name x p) ("append" : Str) B) [v] [] u) pos) (lW X F Φ (.app i e)):=by
 obtain⟨_,_,z,hN,hl,Y⟩:=SX L hn (λy q e=>by cases e;exact Z);cases z;refine PS.imp (nH (Ca abS abN PySem.F.type_list_append qW Y (cH (rY (F:=F) L.toLk e v he) ej (cK he _ _)) (hfew:=by rw[cK he];rfl) (hline:=O) (hs:=cK he _ _))) λD σ H j=>?_;obtain⟨R,τ,ρ,r,E,b,j⟩:=j;obtain⟨r1,t,b⟩:=aD b;split at b
 ·rename_i ds c;split at b
  ·rename_i hc;cases b;have c:=FW c;obtain⟨a,xs,h,ha,VJ,VQ,_⟩:=E.own (GV t c);refine⟨.ref a,h,⟨rfl,_,dY.of ha⟩,R,τ,ρ,r1,E,t,λw H1 R1 M es hR f W=>?_⟩;obtain⟨a1,HS,I,s,VI,J,Kb⟩:=f.own c;rw[h]at I;cases I;have hz:sizeLine=16777216:=abe;have pw:cE=1000000:=rfl;refine⟨a,HS,w,rfl,rfl,s,by left,?_⟩;obtain⟨d,U⟩:=f.put (m:=ds.length) (g:=λys=>ys++[w]) c h s J Kb W λV r=>aE.xZ V (by simpa using r);exact j σ _ R1 d U (o9 (n:=.l _) f es hR s J)
  ·cases b
 ·cases b
theorem JZ(L:pY X S k Φ){i:Nat}{b:Bool}{e:CE}{x:Str}{v:Expr}{p:Pos}(I:my S i (.Name x p)=true)(E:oZ x=true)(he:cw S e v=true):PS X (.AugAssign (.Name x p) (if b then .Add else .Sub) v pos) (lW X F Φ (.aug i b e)):=by
 obtain⟨_,_,z,O,J,V⟩:=SX L I (λy q e=>by cases e;exact E);cases z;have B:Sb X (if b then .Add else .Sub) (VB λy z=>if b then y+z else y - z):=by
  cases b
  ·exact Lp
  ·exact Lr
 refine PS.imp (BY L.nd O J (jk (F:=F) L.toLk e v he).1 B (.inl (L.DE _))) λD σ H g=>?_;obtain⟨R,τ,ρ,r,l,c,g⟩:=g;obtain⟨n,en,c⟩:=aD c;obtain⟨d,U,en⟩:=aD en;have en:=Gu en;subst en;split at c
 ·rename_i a j;cases c;obtain⟨w,hw,t⟩:=l.rep i _ j;cases t;have M:i<ρ.length:=by
   by_cases z:i<ρ.length
   ·exact z
   ·rw[List.getElem?_eq_none (by left)]at j;cases j
  refine⟨_,hw,tD.intro l U λu H1 e1 s=>?_⟩;cases s.isInt;refine⟨_,_,rfl,rfl,?_⟩;obtain⟨f,m⟩:=(l.go e1).set (i:=i) (v:=.int (if b then a+n else a - n)) (d:=.int (if b then a+n else a - n)) ⟨λ_=>none,λ_ _ h=>by simp at h,.int _⟩ M;exact g _ H1 R f m (Kp.of e1 λ_ h=>h)
 ·cases c
end
section
variable {X:Cx}{S:Sx}{k:Nat}{F:aj}{Φ:aV}
theorem Kq(x:Str)(p:Pos):(Expr.Name x p).pos=p:=rfl
theorem wm{x y:Str}{px c pt s:Pos}{i:Nat}{a b:Expr}(n:env.scope.kind=.function)(l:env.scope.names.lookup x=some .local)(j:env.scope.names.lookup y=some .local)(f:x≠y)(m:px.line=c.line)
  (r:[a,b].all (foldedForSure 8)=false) (q:[a,b].all (constantsAlone 8)=false) (d:([a,b].any λe=>match e with|.Starred ..=>true|_=>false)=false) :
  swappedStores [.Tuple [.Name x px,.Name y c] i pt] (.Tuple [a,b] k2 s) env=pure (some [x,y]):=by
 have p:env.blockKind=.function:=by unfold Env.blockKind;rw[n];rfl
 have h:env.kindOf x=some .local:=l;have g:env.kindOf y=some .local:=j;have e1:([x,y].eraseDups.length != [x,y].length)=false:=by
  have:¬ (y==x)=true:=by simp;exact λz=>f z.symm
  have h':(y==x)=false:=by simpa using this
  simp[List.eraseDups_cons,List.filter,h',f]
 unfold swappedStores;simp only[p,d,List.filterMap_cons,List.filterMap_nil,h,g,m,Kq,List.head?_cons,Option.map_some,Option.getD_some,r,q];simp only[beq_self_eq_true,Bool.and_self,if_true];rw[if_neg (by simp)];refine(acw ?_).trans ?_
 ·intro z;exact aaf (d.symm.trans z)
 rw[if_neg (by
  rw[e1];simp),if_neg Bool.false_ne_true,if_neg Bool.false_ne_true]
theorem oS{b:bB}{v:V}{d:DI.D}(h:Rep (a_ X.K H) (nd X.K R A τ H) b v d)(a:aT anyF d=false):iA X R' τ' H v d :=
 ⟨λ_=>none,λ_ _ h=>by simp at h,Rep.without (P:=anyF) (λ_ _ h=>h) (λk k' p xs f a h=>by cases a) h a _⟩
theorem JX(L:pY X S k Φ){i j:Nat}{a b:CE}{v:Expr}(he:cw S (.tup [a,b]) v=true)(hp:D4 S i j tg v=true):PS X (.Assign [tg] v pos) (lW X F Φ (.par i j a b)):=by
 obtain⟨ts,Lw,q1⟩:=bO hp;obtain⟨kt,pt,rfl⟩:=jJ Lw;obtain⟨⟨t1,t2⟩,u,q2⟩:=bO q1;obtain rfl:ts=[t1,t2]:=jh u;obtain⟨⟨x,px⟩,t,q3⟩:=bO q2;obtain rfl:t1=_:=xE t;obtain⟨⟨y,py⟩,s,q4⟩:=bO q3;obtain rfl:t2=_:=xE s;obtain⟨vs,q,q5⟩:=bO q4;obtain⟨k2,Nu,rfl⟩:=jJ q;obtain⟨⟨ea,Z⟩,p,q6⟩:=bO q5;obtain rfl:vs=[ea,Z]:=jh p
 ·obtain⟨q7,Y⟩:=aM q6;obtain⟨q8,B⟩:=aM q7;obtain⟨q9,E⟩:=aM q8;obtain⟨U1,I⟩:=aM q9;obtain⟨n,J⟩:=aM U1;obtain⟨m,d⟩:=aM n;obtain⟨l,e⟩:=aM m;obtain⟨g,M⟩:=aM l;obtain⟨U,O⟩:=aM g;replace U:S.N[i]?=some x:=aab U;replace O:S.N[j]?=some y:=aab O;replace M:=aab M;replace e:=aab e;replace d:=aab d;replace J:=aab J;replace I:=aab I;replace E:=kn E;replace B:=kn B;replace Y:=aab Y;replace he:=aM he;have pa:=xY (F:=F) L.toLk [a,b] [ea,Z] he.1;refine PS.imp (Ko L.calm L.nd (by rw[L.N];exact U) (by rw[L.N];exact O) M (by rw[L.sc];exact e) (by rw[L.sc];exact d) pa (wm (by rw[L.sc];exact L.fk) (by rw[L.sc];exact e) (by rw[L.sc];exact d) J I E B Y)) λD σ H z=>?_;obtain⟨R,τ,ρ,r,Si,c,z⟩:=z;obtain⟨d1,W,c⟩:=aD c;obtain⟨d2,V,c⟩:=aD c;simp only[IC]at c;obtain⟨⟨f1,f2,l1,l2⟩,rfl⟩:=c;refine⟨R,τ,ρ,[d1,d2],Si,by show bd (bG Φ a ρ) _=_;rw[W];show bd (bd (bG Φ b ρ) _) _=_;rw[V];rfl,λvs H1 e1 rv=>?_⟩;obtain⟨τt,fr,rs⟩:=rv;obtain⟨v1,v2,rfl,r1,r2⟩:=rs.two
  ·obtain⟨τ1,S1⟩:=(Si.go e1).set (i:=i) (oS r1 f1) l1;obtain⟨f,S2⟩:=S1.set (i:=j) (oS r2 f2) (by simpa using l2);exact⟨v1,v2,rfl,z _ H1 R f S2 (Kp.of e1 λ_ h=>h)⟩
theorem zR{b c:Type}(f:b->c):∀(a:List b) (m:Nat),(a.map f).eraseIdx m=(a.eraseIdx m).map f
 |[],_=>rfl
 |_::_,0=>rfl
 |x::a,m+1=>by
  show f x::(a.map f).eraseIdx m=f x::(a.eraseIdx m).map f;rw[zR f a m]
theorem aE.Rv{T:mZ}{N:jf}:∀{k:bB} {n:Nat} {vs:ag} {ds:af},aE T N k n vs ds->aE T N k n vs.dropLast ds.dropLast
 |_,_,_,_,.nil=>.nil
 |_,_,_,_,.cons _ .nil=>.nil
 |_,_,_,_,.cons h (.cons h' t)=>.cons h (aE.Rv (.cons h' t))
mutual
theorem J1(L:pY X S k Φ):∀(c:CS) (st:Stmt),RB S c st=true->PS X st (lW X F Φ c)
 |.asg t e,st,h=>by
  obtain⟨⟨O,v⟩,n,q1⟩:=bO h;obtain⟨pos,rfl⟩:=nA n;obtain⟨tg,u,q2⟩:=bO q1;obtain rfl:O=[tg]:=ck u;obtain⟨q3,s⟩:=aM q2;obtain⟨E,l⟩:=aM q3;obtain⟨f,g⟩:=aM E;have f:cw S e v=true:=f;replace l:(isTup v&&isTup tg)=false:=kn l;cases Z:jy v with
  |false=>exact Bx L f g l (pQ f Z _ _ _)
  |true =>
   have s:(!jy v||isNm tg)=true:=s;rw[Z]at s;obtain⟨x,p,rfl⟩:=nU s;obtain⟨ka,gens,sc,Oj,rfl⟩:=zY Z;cases e<;>try (exact(aaf f).elim)
   cases t with
   |tp is=>exact(aaf g).elim
   |nm i =>
    cases hb:Uu S (.Name x p) (.ListComp ka gens sc Oj)with
    |true=>exact Ft L f g (by rw[Ib L,hb])
    |false=>exact Bx L f g l (by
      show swapsWith (.ListComp ka gens sc Oj) (some (.Name x p)) pos.line X.env=_;rw[Ib L,hb])
 |.par i j a b,st,h=>by
  obtain⟨⟨O,v⟩,n,q1⟩:=bO h;obtain⟨pos,rfl⟩:=nA n;obtain⟨tg,u,q2⟩:=bO q1;obtain rfl:O=[tg]:=ck u;exact JX L (aM q2).1 (aM q2).2
 |.ret e,st,h=>by
  obtain⟨z,n,q1⟩:=bO h;obtain⟨pos,rfl⟩:=ES n;obtain⟨v,u,q2⟩:=bO q1;obtain rfl:z=some v:=u;exact JW L q2
 |.rs c,st,h=>λ_ _ _ _ _ _ b7=>by obtain⟨R,τ,ρ,r,V,B,I⟩:=b7;cases B
 |.ex e,st,h=>by
  obtain⟨v,n,q1⟩:=bO h;obtain⟨pos,rfl⟩:=v9 n;exact OW L (aM q1).1 (kn (aM q1).2)
 |.mut p i es,st,h=>by
  obtain⟨⟨o,args⟩,ha,q1⟩:=bO h;obtain⟨q2,l⟩:=aM q1;obtain⟨f,g⟩:=aM q2;obtain⟨x,U,rfl,hN,Y,W⟩:=SX L f (λy q e=>by cases e;exact g);exact L.pm.m X _ _ k L.toLk.pX L.nd L.DE p st x U args ha i hN Y W F es (k9 L.toLk es args l)
 |.mu2 p i k e,st,h=>by
  obtain⟨⟨o,args⟩,ha,q1⟩:=bO h;obtain⟨q2,l⟩:=aM q1;obtain⟨f,g⟩:=aM q2;obtain⟨x,U,rfl,hN,Y,W⟩:=SX L f (λy q e=>by cases e;exact g);exact L.pm.m2 X _ _ _ L.toLk.pX L.nd L.DE p st x U args ha i hN Y W F k e (k9 L.toLk [k,e] args l)
 |.unp is e,st,h=>by
  obtain⟨⟨O,v⟩,n,q1⟩:=bO h;obtain⟨pos,rfl⟩:=nA n;obtain⟨tg,u,q2⟩:=bO q1;obtain rfl:O=[tg]:=ck u;obtain⟨q3,s⟩:=aM q2;obtain⟨E,l⟩:=aM q3;obtain⟨f,g⟩:=aM E;have f:cw S e v=true:=f;replace l:(isTup v&&isTup tg)=false:=kn l;exact JV L f g l (pQ f (kn s) _ _ _)
 |.app i e,st,h=>by
  obtain⟨c,n,q1⟩:=bO h;obtain⟨pos,rfl⟩:=v9 n;obtain⟨⟨fn,as,ks,p2⟩,u,q2⟩:=bO q1;obtain rfl:c=_:=l3 u;obtain⟨q3,E⟩:=aM q2;obtain rfl:ks=[]:=lA q3;obtain⟨⟨o,a,p1⟩,v3,q5⟩:=bO E;obtain rfl:fn=_:=oF v3;obtain⟨q6,q7⟩:=aM q5;obtain⟨v,v4,s⟩:=bO q7;obtain rfl:as=[v]:=ck v4;obtain⟨q8,h5⟩:=aM q6;obtain⟨q9,g⟩:=aM q8;obtain⟨U1,f⟩:=aM q9;obtain rfl:a=_:=aab U1;obtain⟨x,p,rfl⟩:∃x p,o=.Name x p:=zf f;exact J0 L f g s h5
 |.aug i op e,st,h=>by
  obtain⟨⟨o,p,v⟩,n,q1⟩:=bO h;obtain⟨pos,rfl⟩:=xH n;obtain⟨q2,s⟩:=aM q1;obtain⟨q3,l⟩:=aM q2;obtain⟨f,g⟩:=aM q3;obtain rfl:p=_:=aab l;obtain⟨x,U,rfl⟩:∃x p,o=.Name x p:=zf f;exact JZ L f g s
 |.ifs c a b,st,h=>by
  obtain⟨⟨t,x,y⟩,n,q1⟩:=bO h;obtain⟨pos,rfl⟩:=ET n;obtain⟨q2,l⟩:=aM q1;obtain⟨f,g⟩:=aM q2;exact OV L f (jO L a _ g) (jO L b _ l)
 |.Js c b,st,h=>by
  obtain⟨⟨t,x,y⟩,n,q1⟩:=bO h;obtain⟨pos,rfl⟩:=ER n;obtain⟨q2,l⟩:=aM q1;obtain⟨f,g⟩:=aM q2;obtain rfl:y=[]:=lA f;exact Bw L g (jO L b _ l)
 |.fr t it b,st,h=>by
  obtain⟨⟨tg,iter,x,y⟩,n,q1⟩:=bO h;obtain⟨pos,rfl⟩:=EU n;obtain⟨q2,h5⟩:=aM q1;obtain⟨q3,s⟩:=aM q2;obtain⟨E,l⟩:=aM q3;obtain⟨f,g⟩:=aM E;obtain rfl:y=[]:=lA f;exact JY L g l s (jO L b _ h5)
theorem jO(L:pY X S k Φ):∀(cs:ai) (M:aX),lL S cs M=true->oo X M (qc X F Φ cs)
 |[],[],_=>oo.imp FO λD σ H b7=>by obtain⟨R,τ,ρ,r,V,B,I⟩:=b7;cases B;exact I σ H R τ V (Kp.refl R H)
 |[],_::_,h=>by exact(aaf h).elim
 |_::_,[],h=>by exact(aaf h).elim
 |c::cs,st::M,h=>by
  replace h:=aM h;have f:PS X st (lW X F Φ c):=J1 L c st h.1;have g:oo X M (qc X F Φ cs):=jO L cs M h.2;refine oo.imp (BV f g) λD σ H I=>?_;obtain⟨R,τ,ρ,r,V,B,I⟩:=I;obtain⟨⟨fo,J⟩,e1,B⟩:=aD B;refine⟨R,τ,ρ,(fo,J),V,e1,?_⟩;cases fo with
  |nx=>exact λσ' H' R' τ' gJ kp=>⟨R',τ',J,r,gJ,B,I.from kp⟩
  |rt d=>cases B;exact I
end
end
variable {mg:Str->Option Value}{ps:ak}{qual:Str}
theorem vq{x:Str}{f:Addr}{b:FuncData}{k:Nat}{N bl:ak}{cs:List (Str×GK)}{px:Px}{n:Nat->Option Str}{m:aw}{body:ai}
  (Fu:HP K x qual st f b) (j:j7 N ps (bU st)) (LN:lL ⟨bU st,N,n,bl,cs,px⟩ body (dG st)=true) (Ly:xB px Φ) (VZ:Ni px Φ)
  (GD:∀y∈bl,mg y=none) (V:∀y i,(y,i)∈cs->∃u,mg y=some u/\AX K i u)
  (Y:∀g y,n g=some y->∃(f:Addr) (b:FuncData) (ps:ak),kh P w K mg base AZ k f b ps (Fw K ps.length (Φ g))/\mg y=some (.ref f)/\PySem.W.keepIn K (.ref f)=true/\Binds K b ps []/\∀ds r,Φ g ds=ok r->ds.length=ps.length)
  (hm:∀ds r,m ds=ok r->ds.length=ps.length/\sr Φ N.length body ds=ok r):kh P w K mg base AZ (k+1) f b ps (Fw K ps.length m):=by
 refine Fu.ok (N:=N) j (λvs H Q E ⟨_,_,_,h,_⟩=>h) λkv A outer s H vs Q E hr EA=>?_;obtain⟨F,ds,r,hl,t,er,I⟩:=EA;obtain⟨Wt,e⟩:=hm ds r er
 let X:=(xj AZ P w K mg base N qual (bU st) f kv A outer s H E).PF
 have L:pY X ⟨bU st,N,n,bl,cs,px⟩ k Φ:=⟨⟨rfl,rfl,j.nd,rfl,hr,GD,λg y h=>⟨Y g y h⟩,V,Ly⟩,λ_=>rfl,PassesOwn.never,j.kind,VZ⟩
 refine⟨qc X F Φ body,jO L body _ LN,?_⟩;unfold sr at e;obtain⟨⟨J,l⟩,eb,e⟩:=aD e;have hpl:ps.length<=N.length:=by have:=aaV List.length j.pre;rw[List.length_take]at this;left
 have O:vs.length=ds.length:=t.length;refine⟨λp=>F p/\H p≠none,λ_=>none,_,(J,l),⟨?_,λi d a=>?_,λ_ _=>rfl,λp h=>h.2,λp h=>.inl h.1,λ_ _ h=>by simp at h,λ_ _ h=>by simp at h,aL.refl H⟩,eb,?_⟩
 ·unfold L2.start;simp[O]
 ·have M:i<ds.length:=by
   by_cases B:i<ds.length
   ·exact B
   ·rw[List.getElem?_append_right (by simpa using B)]at a;rw[List.getElem?_replicate]at a;split at a<;>simp at a
  rw[List.getElem?_append_left (by simpa using M),List.getElem?_map]at a;have hd:ds[i]?=some d:=by
   cases q:ds[i]? with
   |none=>rw[q]at a;cases a
   |some z=>rw[q]at a;simp at a;rw[a]
  obtain⟨v,hv,Z⟩:=t.get hd;refine⟨v,?_,Z.imp (q:=[0+i]) (q':=[i]) (λ_ _ h=>h) λc p xs f h=>?_⟩
  ·unfold L2.start;rw[List.getElem?_append_left (by rw[List.length_map,O];exact M),List.getElem?_map,hv];rfl
  ·cases f with
   |ow=>exact nomatch h.2
   |fz=>exact⟨h.1,h.2,h.1.ne⟩
   |al=>exact h.2.elim
   |sc=>exact h
 ·cases J with
  |nx =>
   cases e;exact λU H' R' τ' gJ kp=>I .cq H' gJ.same ⟨λ_=>none,λ_ _ h=>by simp at h,.cq⟩
  |rt d =>
   cases e;exact λv H' es rr=>I v H' es rr
structure Ent(P:aI)(w:World)(K:av)(mg:bp)(base:Heap)(k:Nat)(y:Str)(m:aw):Prop where
 ex:∃(f:Addr) (fd:FuncData) (ps:ak),kh P w K mg base AZ k f fd ps (Fw K ps.length m)/\mg y=some (.ref f)/\PySem.W.keepIn K (.ref f)=true/\Binds K fd ps []/\∀ds r,m ds=ok r->ds.length=ps.length
theorem Ent.up{k k':Nat}{y:Str}{m:aw}(h:Ent P w K mg base k y m)(a:k<=k'):Ent P w K mg base k' y m:=by
 obtain⟨f,d,ps,c,b⟩:=h.ex;exact⟨f,d,ps,c.mono a,b⟩
theorem ent{x:Str}{f:Addr}{a:FuncData}{k:Nat}{N bl:ak}{cs:List (Str×GK)}{px:Px}{d:Nat->Option Str}{m:aw}{body:ai}
  (c:HP K x qual st f a) (hmg:mg x=some (.ref f)) (l:Binds K a ps []) (p:j7 N ps (bU st)) (s:lL ⟨bU st,N,d,bl,cs,px⟩ body (dG st)=true) (q:xB px Φ) (n:Ni px Φ) (t:∀y∈bl,mg y=none) (e:∀y i,(y,i)∈cs->∃u,mg y=some u/\AX K i u)
  (j:∀g y,d g=some y->Ent P w K mg base k y (Φ g)) (b:∀ds r,m ds=ok r->ds.length=ps.length/\sr Φ N.length body ds=ok r):Ent P w K mg base (k+1) x m :=
 ⟨f,a,ps,vq c p s q n t e (λg y h=>(j g y h).ex) b,hmg,c.kp,l,λds r h=>(b ds r h).1⟩
def dP{b:Type}(P:b->Prop):List b->Prop
 |[]=>True
 |a::l=>P a/\dP P l
theorem dP.mem{b:Type}{P:b->Prop}:∀{l:List b},dP P l->∀a∈l,P a
 |[],_,_,h=>by cases h
 |_::_,h,_,hm=>(List.mem_cons.mp hm).elim (λe=>e▸h.1) (dP.mem h.2 _)
theorem dP.tab{c:Type}{P:Nat->c->Prop}:∀{l:List (Nat×c)},dP (λp=>P p.1 p.2) l->∀g y,l.lookup g=some y->P g y
 |[],_,_,_,h=>by cases h
 | (k,b)::l,h,g,y,e=>by
  rw[List.lookup_cons]at e;cases a:g==k with
  |true=>rw[a]at e;cases e;rw[eq_of_beq a];exact h.1
  |false=>rw[a]at e;exact dP.tab h.2 g y e
theorem dP.two{b a:Type}{P:b->a->Prop}{l:List (b×a)}(h:dP (λp=>P p.1 p.2) l)(y:b)(i:a)(c:(y,i)∈l):P y i:=dP.mem h _ c
theorem Qa{b:Type}{l:List b}(h:l.length=1):∃a,l=[a]:=List.length_eq_one_iff.mp h
theorem P_{c:Type}{l:List c}(h:l.length=2):∃a b,l=[a,b]:=by
 cases l with
 |nil=>cases h
 |cons a l=>obtain⟨b,rfl⟩:=Qa (Nat.succ.inj h);exact⟨a,b,rfl⟩
theorem P9{d:Type}{l:List d}(h:l.length=3):∃a b c,l=[a,b,c]:=by
 cases l with
 |nil=>cases h
 |cons a l=>obtain⟨b,c,rfl⟩:=P_ (Nat.succ.inj h);exact⟨a,b,c,rfl⟩
theorem Vl{e:Type}{l:List e}(h:l.length=4):∃a b c d,l=[a,b,c,d]:=by
 cases l with
 |nil=>cases h
 |cons a l=>obtain⟨b,c,d,rfl⟩:=P9 (Nat.succ.inj h);exact⟨a,b,c,d,rfl⟩
noncomputable def pj:af->Option (aa)
 |[]=>some []
 |.int i::ds=>(pj ds).map (i :: ·)
 |_::_=>none
theorem ph:∀ns:aa,pj (ns.map D.int)=some ns
 |[]=>rfl
 |n::ns=>by simp[pj,ph ns]
theorem uQ:∀{ds:af} {ns:aa},pj ds=some ns->ds=ns.map D.int
 |[],ns,h=>by simp[pj]at h;subst h;rfl
 |d::ds,ns,h=>by
  cases d<;>simp[pj]at h;obtain⟨b,a,rfl⟩:=h;rw[uQ a];rfl
def sO:aw
 |[.lst .sc ds]=>match pj ds with
  |some ns=>if ns.length<=63 then ok (.bl true)else none
  |none=>none
 |_=>none
theorem Ge(h:ns.length<=63):sO [.lst .sc (ns.map D.int)]=ok (.bl true):=by
 simp[sO,ph,h]
set_option tactic.hygienic true in
theorem CD{n:Nat}{b:ai}(h:∀ns:aa,ns.length<=63->sr Φ n b [.lst .sc (ns.map D.int)]=ok (.bl true)):∀ds r,sO ds=ok r->ds.length=1/\sr Φ n b ds=ok r:=by
 intro ds r e
 match ds,e with
 |[.lst .sc ds],e =>
  simp only[sO]at e;split at e
  ·rename_i ns c;split at e
   ·rename_i a;cases e;obtain rfl:=uQ c;exact⟨rfl,h ns a⟩
   ·cases e
  ·cases e
theorem K8(K:av)(H:Hp)(a:Addr)(ns:aa)(m:aw)(c:m [.lst .sc (ns.map D.int)]=ok (.bl true))(e:HM H)(d:dY K H a (ns.map V.int)):Fw K 1 m [.ref a] H (λv _=>v=.bl true) λ_ _ _=>False:=by
 refine⟨λ_=>True,_,.bl true,rfl,.cons (.lst ?_ (aE.ints ns)) .nil,c,λv H' _ f=>by obtain⟨τt,_,b⟩:=f;cases b;rfl⟩;rcases d with (h|h)|h
 ·rcases e a with z|⟨o,xs,z⟩
  ·rw[h]at z;cases z
  ·rw[h]at z;cases z
 ·exact .inl h
 ·exact .inr h
section
variable {X:Cx}{pins:ao}{σ:St}{H:Hp}{s:Shared}{h':Heap}
theorem E_(I:Inv X pins σ H s)(a:∀b∈ch,pZ X pins H b)(k:∀b u,b∉ch->s.heap.get? b=some u->h'.get? b=some u):Inv X pins σ H { s with heap:=h',toks:=t' }:=by
 have h:∀b u,H b=some u->b∉ch:=λb u e z=>by rw[(a b z).1]at e;cases e
 refine I.step (g':=s.gens) (d':=s.drawn) (ch:=ch) (λb d=>⟨(a b d).2.2.2.1,(a b d).2.1,(a b d).2.2.2.2.1,(a b d).2.2.2.2.2⟩) (λb o _ _ c e _=>k b o c e) (λb o _ _ c e _=>⟨o.slots,k b o c e⟩) (λ_ _ _ _ n=>n)
  (λb o c e=>⟨o,k b o c e⟩) (λ_ _ e=>e) (λ_ _ _ e=>e) (λm g=>?_) (λb u e=>?_) I.bare
 ·obtain⟨o,es,ep,f,r⟩:=g;exact⟨o,es,ep,k _ o (λz=>(a _ z).2.1 rfl) f,r⟩
 ·exact(I.dE b u e).oK λv=>k b v (h b u e)
theorem Fb{T:Addr}{o:HO}(I:Inv X pins σ H s)(a:∀b∈ch,pZ X pins H b)(k:∀b u,b∉ch->s.heap.get? b=some u->h'.get? b=some u)(h:s.heap.objs.size<=T)(f:cQ (upd H T o) h' T o):
  Inv X pins σ (upd H T o) { s with heap:=h',toks:=t' }:=by
 have l:∀b u,H b=some u->b∉ch:=λb u e z=>by rw[(a b z).1]at e;cases e
 have g:H T=none:=I.dE.fresh h;have ne:∀b (u:Obj),s.heap.get? b=some u->b≠T:=λb u e z=>absurd (aai e) (by rw[z];exact Nat.not_lt.mpr h);have up:∀b u,H b=some u->upd H T o b=some u:=λb u e=>by rw[bC (fY e g)];exact e
 refine I.step (g':=s.gens) (d':=s.drawn) (ch:=ch) (λb d=>⟨(a b d).2.2.2.1,(a b d).2.1,(a b d).2.2.2.2.1,(a b d).2.2.2.2.2⟩) (λb o _ _ c e _=>k b o c e) (λb o _ _ c e _=>⟨o.slots,k b o c e⟩) (λb u _ e n=>by rw[bC (ne b u e)];exact n)
  (λb o c e=>⟨o,k b o c e⟩) (λ_ _ e=>up _ _ e) (λ_ _ _ e=>up _ _ e) (λm j=>?_) (yJ (λb u e=>?_) g f) I.bare
 ·obtain⟨o,es,ep,i,r⟩:=j;exact⟨o,es,ep,k _ o (λz=>(a _ z).2.1 rfl) i,r⟩
 ·exact(I.dE b u e).oK λv=>k b v (l b u e)
end
def XI(K:av)(a b:Addr):It :=
  ⟨λi H=>∃xs ys x y,dY K H a xs/\dY K H b ys/\xs[i]?=some x/\ys[i]?=some y,
   λi H v H'=>∃T x y,(∀xs,dY K H a xs->xs[i]?=some x)/\(∀ys,dY K H b ys->ys[i]?=some y)/\H T=none/\v=.ref T/\H'=upd H T (.tup [x,y]),
   λi H=>∃xs ys,dY K H a xs/\dY K H b ys/\(xs.length<=i\/ys.length<=i)⟩
theorem xM{h:Heap}{T:Addr}{x y:V}{u v:Value}(b:RelV x u)(a:RelV y v)(e:h.get? T=some { cls:=.type "tuple",data:=.seq #[u,v] }):cQ H h T (.tup [x,y]) :=
 ⟨by rw[sizeLine_eq];simp,[u,v],.cons b (.cons a .nil),⟨_,e,rfl,_,rfl⟩⟩
theorem dq{h:Heap}{a b:Addr}{o u:Obj}(e:h.get? a=some o)(c:h.get? b=some u)(d:o.cls≠u.cls):a≠b:=λz=>by
 subst z;rw[e]at c;cases c;exact d rfl
theorem Bb{tp:Pos}{a b z TI TO:Addr}(Y:TI≠TO)(L0:i1≠i2):
  Turn P w K (.Tuple elts n1 tp) (XI K a b) [z,TI,TO,i1,i2] z (λi h=>IsZip h z TI TO .none/\IsPair h TI (.ref i1) (.ref i2)/\(∃x y,IsPair h TO x y)/\h.IsListIter i1 a i/\h.IsListIter i2 b i):=by
 have apart:∀{h:Heap} {x y:Value} {xs ys:aN} {i:Nat},IsZip h z TI TO .none->IsPair h TI (.ref i1) (.ref i2)->IsPair h TO x y->h.IsListIter i1 a i->h.IsListIter i2 b i->h.IsList a xs->h.IsList b ys->ZipApart z TI TO i1 i2 a b:=by
  intro h x y xs ys i d j g l1 l2 ha hb;obtain⟨t,e1,r,_⟩:=l1;obtain⟨o2,e2,n,_⟩:=l2;obtain⟨oa,L,O,_⟩:=ha;obtain⟨ob,J,M,_⟩:=hb;exact⟨dq j d (by simp),dq g d (by simp),dq e1 d (by rw[r];simp),dq e2 d (by rw[n];simp),Y,dq j e1 (by rw[r];simp),dq j e2 (by rw[n];simp),dq g e1 (by rw[r];simp),dq g e2 (by rw[n];simp),L0,
   dq L d (by rw[O];simp),dq L g (by rw[O];simp),dq L e1 (by rw[O,r];simp),dq L e2 (by rw[O,n];simp),dq J d (by rw[M];simp),dq J g (by rw[M];simp),dq J e1 (by rw[M,r];simp),dq J e2 (by rw[M,n];simp)⟩
 refine⟨by simp,λi h st c f=>?_,λi h h' st k=>?_,?_,?_,λA i s Q E st hQ=>wpAny_pyIter_zip st.1 hQ⟩
 ·obtain⟨d,j,⟨x,y,g⟩,⟨t,e1,_,d1⟩,⟨o2,e2,_,d2⟩⟩:=st;simp only[List.mem_cons,List.not_mem_nil,or_false]at f;rcases f with rfl|rfl|rfl|rfl|rfl
  ·exact⟨_,d,λv q=>by cases q⟩
  ·exact⟨_,j,λv q=>by cases q⟩
  ·exact⟨_,g,λv q=>by cases q⟩
  ·exact⟨t,e1,λv q=>by rw[d1]at q;cases q⟩
  ·exact⟨o2,e2,λv q=>by rw[d2]at q;cases q⟩
 ·obtain⟨d,j,⟨x,y,g⟩,l1,l2⟩:=st;exact⟨k z (by simp) _ d,k TI (by simp) _ j,⟨x,y,k TO (by simp) _ g⟩,l1.at λo e=>k i1 (by simp) o e,l2.at λo e=>k i2 (by simp) o e⟩
 ·intro X Z hw hK f i pins s σ H E I B st W;subst Z hw hK;obtain⟨xs,ys,x,y,q1,q2,ex,ey⟩:=W;obtain⟨d,j,⟨x0,y0,g⟩,l1,l2⟩:=st;obtain⟨aJ,U,p,_⟩:=I.list q1;obtain⟨m,AK,p',_⟩:=I.list q2;obtain⟨u,hu,ru⟩:=U.get ex;obtain⟨u',CW,V⟩:=AK.get ey;have D:=apart d j g l1 l2 p.isList p'.isList;refine wpAny_pyNext_zip_item D d j g l1 l2 p.isList p'.isList (x:=u) (y:=u') (by simpa using hu) (by simpa using CW) λh1 z1 t a1 b1 t1 So k1=>⟨_,rfl,?_⟩
  refine wpAny_letOwnedTupleGo_zip z1 λh2 z2 l=>?_;have ZX:s.heap.objs.size≠z:=aav (aai d);have kk:∀c o,c∉[z,TI,TO,i1,i2]->s.heap.get? c=some o->h2.get? c=some o:=λc o f e=>by
   simp only[List.mem_cons,List.not_mem_nil,or_false,not_or]at f;exact l.extBut c o f.1 (k1 c o f.1 f.2.2.1 f.2.2.2.1 f.2.2.2.2 e)
  have hT:h2.get? s.heap.objs.size=some { cls:=.type "tuple",data:=.seq #[u,u'] }:=l.extBut _ _ ZX t1;have hn:H s.heap.objs.size=none:=I.dE.fresh (aal _);refine⟨.ref s.heap.objs.size,upd H s.heap.objs.size (.tup [x,y]),Fb (s:=s) (h':=h2) (t':=s.toks) I B kk (aal _) (xM ru V hT),rfl,⟨_,x,y,λzs d=>by rw[I.lr d q1];exact ex,λzs d=>by rw[I.lr d q2];exact ey,hn,rfl,rfl⟩,⟨z2,l.extBut _ _ D.TIz (k1 _ _ D.TIz D.TITO D.TIi1 D.TIi2 j),⟨_,_,l.extBut _ _ D.TOz t⟩,a1.extBut l.extBut D.i1z,b1.extBut l.extBut D.i2z⟩,λc f=>?_⟩;rw[bC]
  ·exact(B c f).1
  ·intro z;subst z;simp only[List.mem_cons,List.not_mem_nil,or_false]at f;rcases f with e|e|e|e|e
   ·exact absurd (aai d) (by rw[<- e];exact aaw _)
   ·exact absurd (aai j) (by rw[<- e];exact aaw _)
   ·exact absurd (aai g) (by rw[<- e];exact aaw _)
   ·obtain⟨_,w,_⟩:=l1;exact absurd (aai w) (by rw[<- e];exact aaw _)
   ·obtain⟨_,w,_⟩:=l2;exact absurd (aai w) (by rw[<- e];exact aaw _)
 ·intro X Z hw hK f i pins s σ H E I B st W;subst Z hw hK;obtain⟨xs,ys,q1,q2,hl⟩:=W;obtain⟨d,j,⟨x0,y0,g⟩,l1,l2⟩:=st;obtain⟨aJ,U,p,_⟩:=I.list q1;obtain⟨m,AK,p',_⟩:=I.list q2;have e1:=U.length;have e2:=AK.length;refine wpAny_pyNext_zip_end (I.ok.hd f) (apart d j g l1 l2 p.isList p'.isList) d j g l1 l2 p.isList p'.isList (by simp;left) λh1 k1=>⟨rfl,E_ (t':=s.toks) I B λc o f e=>?_⟩
  simp only[List.mem_cons,List.not_mem_nil,or_false,not_or]at f;exact k1 c o f.1 f.2.2.1 f.2.2.2.1 f.2.2.2.2 e
variable {ta:TA}
theorem Kr{j p:Pos}(y:Gl X "zip")(x:X.mg "zip" = none)(B:PA X [e1,e2] ta)(hs:∀es,starEach (e1::es) X.env=(false,eval e1 X.env)::starEach es X.env)(J:∀es,starEach (e2::es) X.env=(false,eval e2 X.env)::starEach es X.env):
  PI X (.Tuple elts n1 j) (.Call (.Name "zip" p) [e1,e2] [] pos) (λσ H R=>ta σ H λvs H1=>∃a b,vs=[.ref a,.ref b]/\(∃xs,dY X.K H1 a xs)/\(∃ys,dY X.K H1 b ys)/\R (XI X.K a b) H1):=by
 intro pins s σ H R I h;refine Call_ (eE I y x boot_zip (aau (dt (B pos pins s σ H _ I h) λL c E=>?_) (hs _) (by rw[J];rfl)));obtain⟨vs,H1,d,r1,q1⟩:=E;obtain⟨a,b,e,⟨xs,q1⟩,⟨ys,q2⟩,q⟩:=q1;subst e;obtain⟨u,v,rfl,m,l⟩:=vals2 r1;cases m;cases l;obtain⟨M,_,r,_⟩:=d.list q1;obtain⟨g,_,n,_⟩:=d.list q2;refine call_zip_2 r.isList n.isList λh' z t o l1 l2 sz k=>wpAny_pyIter_zip z ?_;refine⟨c.heap.objs.size+4,[c.heap.objs.size+4,c.heap.objs.size+2,c.heap.objs.size+3,c.heap.objs.size,c.heap.objs.size+1],_,_,H1,rfl,d.kept (t':=c.toks) k,Bb (aao (aaW _)) (aao (aaW _)),⟨z,t,⟨_,_,o⟩,l1,l2⟩,λb i=>?_,q⟩;have f:c.heap.objs.size<=b:=by
  simp only[List.mem_cons,List.not_mem_nil,or_false]at i;rcases i with rfl|rfl|rfl|rfl|rfl<;>first|exact Nat.le_add_right .. |exact aal _
 exact d.GQ f (d.dE.fresh f)
def pR(sc:Scope)(bl:ak)(e:Expr):Option (aq):=(fG e).bind λz=>(two z.2).bind λ_=>if z.1=("zip" : Str)/\ja sc z.1=true/\z.1∈bl then some z.2 else none
theorem rK{sc:Scope}{bl:ak}{e:Expr}(h:pR sc bl e=some args):∃p pos a b,e=.Call (.Name ("zip" : Str) p) [a,b] [] pos/\args=[a,b]/\ja sc ("zip" : Str)=true/\("zip" : Str)∈bl:=by
 obtain⟨⟨x,as⟩,c,h⟩:=bT h;obtain⟨⟨a,b⟩,hw,h⟩:=bT h;obtain⟨d,h⟩:=gT h;cases h;obtain⟨rfl,g,f⟩:=d;obtain⟨p,pos,rfl⟩:=cT c;obtain rfl:=jh hw;exact⟨p,pos,a,b,rfl,rfl,g,f⟩
theorem mi{a b:Expr}(h:m7 X F Φ cs [a,b]):(∃c d,cs=[c,d]/\PE X a (tD X F Φ c)/\PE X b (tD X F Φ d))/\PA X [a,b] (tU X F Φ cs)/\(∀es,starEach (a::es) X.env=(false,eval a X.env)::starEach es X.env)/\(∀es,starEach (b::es) X.env=(false,eval b X.env)::starEach es X.env):=by
 match cs,h with
 |[c,d],h =>
  obtain⟨i,g,_,f,e,_,_⟩:=h;exact⟨⟨c,d,rfl,i,f⟩,PA.imp (cH i (PA.imp (cH f (PA.imp ej λ_ _ _ h=>jL h) (e _)) λ_ _ _ h=>fW h) (g _)) λ_ _ _ h=>fW h,g,e⟩
 |[],h=>exact h.elim
 |[_],h=>exact h.2.2.2.elim
 |_::_::_::_,h=>exact h.2.2.2.2.2.2.elim
theorem Rep.X3{k:bB}{v:V}{d:D}(e:aL H H')(h:Rep (a_ K H) (nd K R (λ_=>False) (λ_=>none) H) k v d):Rep (a_ K H') (nd K R (λ_=>False) (λ_=>none) H') k' v d :=
 (Rep.sN h (k':=k')).imp (λ_ _ h=>a_.same e h) λ_ _ _ _ h=>nd.same e h
theorem EM{p q:Addr}{f g:Fl}{a b:af}:RV K (XI K p q) H2 [.ref p,.ref q] [.lst f a,.lst g b] (aA bo (List.zipWith (λx y=>.tup [x,y]) a b)):=by
 have len:(aA bo (List.zipWith (λx y=>D.tup [x,y]) a b)).length=min a.length b.length:=by rw[aW];simp
 have two:∀{H':Hp} {R':aj},aE (a_ K H') (nd K R' (λ_=>False) (λ_=>none) H') [] 0 [.ref p,.ref q] (aA bo [.lst f a,.lst g b]) ->
   ∃xs ys,dY K H' p xs/\dY K H' q ys/\aE (a_ K H') (nd K R' (λ_=>False) (λ_=>none) H') [0] 0 xs (aA bo a)/\aE (a_ K H') (nd K R' (λ_=>False) (λ_=>none) H') [1] 0 ys (aA bo b):=by
  intro H' R' h;rw[aA,aO,aA,aO,aA]at h;cases h with
  |cons h t=>cases t with
   |cons h' t=>cases h with
    |lst h r=>cases h' with
     |lst h' j=>exact⟨_,_,h.sq,h'.sq,r,j⟩
 refine⟨λi H' R' _ h e=>?_,λi H' R' x E _ h e m=>?_,λi H' R' _ h e=>?_⟩
 ·obtain⟨xs,ys,d,c,r1,r2⟩:=two h;rw[len]at e;have l1:=r1.length;have l2:=r2.length;rw[aW,List.length_map]at l1 l2;exact⟨xs,ys,xs[i]'(by left),ys[i]'(by left),d,c,aas _,aas _⟩
 ·obtain⟨xs,ys,d,c,r1,r2⟩:=two h;obtain⟨T,u,v,z,s,n,rfl,rfl⟩:=m;obtain⟨d1,e1,l⟩:=r1.Ai (z xs d);obtain⟨B,e2,k⟩:=r2.Ai (s ys c);have es:aL H' (upd H' T (.tup [u,v])):=aL.upd n;refine⟨es,.tup [d1,B],?_,.tup (a_.of aZ) (.cons (l.X3 es) (.cons (k.X3 es) .nil))⟩;rw[aW,List.getElem?_map]at e1 e2 ⊢;obtain⟨J,q1,rfl⟩:=Option.map_eq_some_iff.mp e1;obtain⟨I,q2,rfl⟩:=Option.map_eq_some_iff.mp e2;rw[List.getElem?_zipWith,q1,q2];simp[aO,aA]
 ·obtain⟨xs,ys,d,c,r1,r2⟩:=two h;rw[len]at e;have l1:=r1.length;have l2:=r2.length;rw[aW,List.length_map]at l1 l2;exact⟨xs,ys,d,c,by left⟩
theorem Jn{n:Nat}(h:Φ n=t4){sc:Scope}{bl:ak}{k:Nat}(L:PX X sc bl k){e:Expr}(he:pR sc bl e=some args)(y:jx tg=true)(hs:m7 X F Φ cs args)
  {pins:ao} {s:Shared} {xs:af} {d:D} (I:Inv X pins σ H s) (O:SI X F R τ ρ σ H) (M:cJ Φ cs ρ=ok xs) (c:Φ n xs=ok d) (E:oP d=ok items) (i:It->Hp->Prop)
  (hR:∀J H2 vs,aL H H2->cP X.K (gP X F) R τ (d4 cs) H H2 vs xs->RV X.K J H2 vs xs items->i J H2) :
  wpAny (model X.prog X.w) X.A (eval e X.env) (λv f=>wpAny (model X.prog X.w) X.A (pyIter v) (EF X pins σ tg i) X.xe f) X.xe s:=by
 obtain⟨p,pos,a,b,rfl,rfl,B,z⟩:=rK he;cases tg<;>try (cases y;done)
 obtain⟨_,t,f,l⟩:=mi hs;refine Kr (L.gl B) (L.bl _ z) t f l pins s σ H i I ⟨R,τ,ρ,xs,O,M,λvs H1 e1 j=>?_⟩;have g:=j;obtain⟨τt,U,r⟩:=j;rw[h]at c;unfold t4 at c;split at c
 ·cases c;cases E;obtain⟨v,w,rfl,q,m⟩:=r.two;cases q with
  |lst x _=>cases m with
   |lst u _=>exact⟨_,_,rfl,⟨_,x.sq⟩,⟨_,u.sq⟩,hR _ H1 _ e1 g EM⟩
 ·cases c
def rb(xs:af):O D:=match xs with
 |[]=>none
 |x::xs=>match x with
  |.int a=>match xs with
   |[]=>none
   |y::ys=>match y with
    |.int b=>match ys with
     |[]=>if eu a b then ok (.int (a*b))else none
     |_::_=>none
    |_=>none
  |_=>none
theorem vh{x y d:D}(h:rb [x,y]=ok d):∃a b,x=.int a/\y=.int b/\eu a b=true/\d=.int (a*b):=by
 cases x<;>first|exact nk h | (cases h;done) | (cases y<;>first|exact nk h | (cases h;done)|skip)
 obtain⟨e,c⟩:=p9 h;exact⟨_,_,rfl,rfl,e,c.symm⟩
def n_(_:Scope)(_:ak)(st:Stmt):Option (Expr×aq):=match EX st with
 |some z=>if z.2.1=.Mult then some (z.1,[z.2.2])else none
 |none=>none
theorem xr{sc:Scope}{bl:ak}(h:n_ sc bl st=some (o,args)):∃v pos,st=.AugAssign o .Mult v pos/\args=[v]:=by
 unfold n_ at h;cases a:EX st with
 |none=>rw[a]at h;exact nk h
 |some z =>
  obtain⟨c,p,v⟩:=z;rw[a]at h;obtain⟨pos,rfl⟩:=xH a;replace h:(if p=.Mult then some (c,[v])else none)=some (o,args):=h;by_cases b:p=.Mult
  ·rw[if_pos b]at h;subst b;cases h;exact⟨v,pos,rfl,rfl⟩
  ·rw[if_neg b]at h;cases h
theorem Lq:Sb X .Mult (λx y H Q=>∃i j,x=.int i/\y=.int j/\eu i j=true/\Q (.int (i*j)) H):=by
 intro pins s σ H x y v u Q I r1 r2 h;obtain⟨i,j,e1,e2,a,q⟩:=h;subst e1;subst e2;obtain⟨t,rfl⟩:=r1;obtain⟨t',rfl⟩:=r2;exact imul_int ⟨.int _,H,I.tok _,⟨_,rfl⟩,q⟩ (uU a)
theorem Gv{n:Nat}(p:Φ n=rb){sc:Scope}{bl:ak}{k:Nat}(L:PX X sc bl k)(Y:X.N.Nodup)(J:∀x,X.fn x=true){x:Str}(he:n_ sc bl st=some (.Name x pos,args))
  {i:Nat} (W:X.N[i]?=some x) (V:L2.Loc X.env.scope x) (pe:PE X (.Name x pos) (uf i)) (hs:m7 X F Φ cs args):PS X st (lW X F Φ (.mut n i cs)):=by
 obtain⟨v,pos',rfl,rfl⟩:=xr he;cases cs with
 |nil=>exact hs.elim
 |cons c cs=>cases cs with
  |cons _ _=>exact hs.2.2.2.elim
  |nil =>
   refine PS.imp (BY Y W V hs.1 Lq (.inl (J _))) λD σ H q=>?_;obtain⟨R,τ,ρ,r,E,e,q⟩:=q;obtain⟨xs,B,e⟩:=aD e;obtain⟨y,Z,B⟩:=aD B;cases B;have m:∃a b,y=.int b/\ρ[i]?=some (some (.int a))/\eu a b=true/\r=(.nx,ρ.set i (some (.int (a*b)))):=by
    have e:sJ Φ n i (lz [c] [y] ρ)=ok r:=e;unfold sJ at e;split at e
    ·rename_i d0 f;obtain⟨d',g,t⟩:=aD e;rw[p]at g;unfold lz at g f t;split at g
     ·rename_i j;obtain⟨a,b,e1,e2,_,_⟩:=vh (y:=aO bo y) g;cases y<;>first | (cases e2;done) | (cases j;done)
     ·rename_i j;obtain⟨a,b,rfl,rfl,s,rfl⟩:=vh g;rw[if_neg j]at f;rw[if_neg j]at t;cases t;exact⟨a,b,rfl,f,s,rfl⟩
    ·cases e
   obtain⟨a,b,rfl,f,s,rfl⟩:=m;obtain⟨w,hw,U⟩:=E.rep i _ f;cases U;have O:i<ρ.length:=by
    by_cases z:i<ρ.length
    ·exact z
    ·rw[List.getElem?_eq_none (by left)]at f;cases f
   refine⟨_,hw,tD.intro E Z λu H1 e1 M=>?_⟩;cases M.isInt;refine⟨_,_,rfl,rfl,s,?_⟩;obtain⟨l,I⟩:=(E.go e1).set (i:=i) (v:=.int (a*b)) (d:=.int (a*b)) ⟨λ_=>none,λ_ _ h=>by simp at h,.int _⟩ O;exact q _ H1 R l I (Kp.of e1 λ_ h=>h)
section
variable {X:Cx}
end
def eO(f:Str)(sc:Scope)(bl:ak)(e:Expr):Option (aq):=(fG e).bind λz=>(one z.2).bind λ_=>if z.1=f/\ja sc z.1=true/\z.1∈bl then some z.2 else none
theorem jW{f:Str}{sc:Scope}{bl:ak}{e:Expr}(h:eO f sc bl e=some args):∃p pos a,e=.Call (.Name f p) [a] [] pos/\args=[a]/\ja sc f=true/\f∈bl:=by
 obtain⟨⟨x,as⟩,b,h⟩:=bT h;obtain⟨a,hw,h⟩:=bT h;obtain⟨c,h⟩:=gT h;cases h;obtain⟨rfl,g,d⟩:=c;obtain⟨p,pos,rfl⟩:=cT b;obtain rfl:=ck hw;exact⟨_,_,_,rfl,rfl,g,d⟩
section
variable {prog:aI}{w:World}{A:aG}{E:aB}{s:Shared}
def tS(h:Heap)(vs:au)(nss:az):Prop:=vs.length=nss.length/\∀(i:Nat) (ns:aa),nss[i]?=some ns->∃t a,vs[i]?=some (.ref t)/\IsTup h t a.toArray/\IntsAre a ns/\ns≠[]
theorem u0{fin:Bool}{Q:Bool->Shared->Prop}:∀{d f:au} {ns c:aa} (i:Nat),IntsAre d ns->IntsAre f c->fin=decide (d.length<f.length)->Q (HT.lexLt ns c) s->PySem.W.KatLex prog w A true fin Q (d.zip f) i s
 |_,_,_,_,i,.nil,.nil,hf,h=>by subst hf;exact h
 |_,_,_,_,i,.nil,.cons _ _ _,hf,h=>by subst hf;exact h
 |_,_,_,_,i,.cons _ _ _,.nil,hf,h=>by subst hf;exact h
 |_,_,_,_,i,.cons (ns:=ns) a t h1,.cons (ns:=c) b u h2,hf,h=>by
  rw[HT.dM]at h;refine PySem.W.kat_cons (wpAny_eqBool_int (PySem.W.kat_go (λe=>?_) λe=>?_))
  ·have e:a=b:=by simpa using e
   rw[if_pos e]at h;exact PySem.W.kat_yes (u0 (i+1) h1 h2 (by rw[hf];simp) h)
  ·have e:¬ a=b:=by simpa using e
   rw[if_neg e]at h;refine PySem.W.kat_no ?_;rw[Bool.true_and];cases i==0 with
   |true=>exact oneLt_int h
   |false=>exact PySem.W.kat_one _ _ (lt_int h)
theorem tS.mono{h:Heap}{vs:au}{nss:az}(k:∀b o,h.get? b=some o->h'.get? b=some o)(t:tS h vs nss):tS h' vs nss :=
 ⟨t.1,λi ns e=>let ⟨a,aJ,e1,⟨o,ho,r⟩,e3⟩:=t.2 i ns e;⟨a,aJ,e1,⟨o,k _ _ ho,r⟩,e3⟩⟩
end
noncomputable def eJ(ns:aa):D:=.tup (ns.map D.int)
theorem aE.RT{T:mZ}{N:jf}{q:bB}:∀{n:Nat} {vs ws:ag} {ds es:af},aE T N q n vs ds->aE T N q (n+ds.length) ws es->aE T N q n (vs++ws) (ds++es)
 |_,_,_,_,_,.nil,h=>h
 |n,_,_,_,_,.cons (ds:=ds) h t,h'=>.cons h (aE.RT t (by
   rw[List.length_cons,Nat.add_comm ds.length 1,<- Nat.add_assoc]at h';exact h'))
theorem jM{p a:Addr}{o:HO}(b:H p=some (.lst xs))(h:a_ K H a ys):a_ K (upd H p o) a ys:=by
 rcases h with (h|⟨c,h⟩)|h
 ·exact .inl (.inl (by rw[bC (λz=>by subst z;rw[b]at h;cases h)];exact h))
 ·exact .inl (.inr ⟨c,by rw[bC (λz=>by subst z;rw[b]at h;cases h)];exact h⟩)
 ·exact .inr h
set_option tactic.hygienic true in
theorem yu{n i:Nat}{xs:af}{r:Fo×br}(ev:sJ Φ n i (lz cs xs ρ)=ok r)(c:aP b6 xs=false):∃d a,ρ[i]?=some (some d)/\Φ n (d::xs)=ok a/\r=(.nx,ρ.set i (some a)):=by
 unfold lz at ev;rw[if_neg (by rw[c];exact Bool.false_ne_true)]at ev;unfold sJ at ev;split at ev
 ·rename_i d b;obtain⟨a,f,e⟩:=aD ev;cases e;exact⟨d,a,b,f,rfl⟩
 ·cases ev
set_option tactic.hygienic true in
theorem Cp{n i:Nat}{xs:af}{r:Fo×br}(ev:sJ Φ n i (lz cs xs ρ)=ok r)(b:aP b6 xs=true):∃d a,Φ n (d::aA bo xs)=ok a:=by
 unfold lz at ev;rw[if_pos b]at ev;unfold sJ at ev;split at ev
 ·rename_i d e;obtain⟨a,c,f⟩:=aD ev;exact⟨d,a,c⟩
 ·cases ev
def Cc:D->Option (af)
 |.lst f ds=>if cG f then some ds else none
 |_=>none
set_option tactic.hygienic true in
theorem wH{d:D}(h:Cc d=some ds):d=.lst .ow ds:=by
 cases d<;>first|exact nk h | (cases h;done)|skip
 rename_i f es;have h:(if cG f then some es else none)=some ds:=h;cases f<;>first | (cases h;rfl) | (cases h;done)
def Al(xs:af):O D:=match two xs with
 |some z=>match Cc z.1 with
  |some ds=>match Cc z.2 with
   |some es=>if aP anyF es=false/\ds.length+es.length<=cE then ok (.lst .ow (ds++es))else none
   |none=>none
  |none=>none
 |none=>none
theorem yY{x y d:D}(h:Al [x,y]=ok d):∃ds es,x=.lst .ow ds/\y=.lst .ow es/\aP anyF es=false/\ds.length+es.length<=cE/\d=.lst .ow (ds++es):=by
 have h:(match Cc x with|some ds=>(match Cc y with|some es=>if aP anyF es=false/\ds.length+es.length<=cE then ok (.lst .ow (ds++es))else none|none=>none)|none=>none)=ok d:=h;cases a:Cc x with
 |none=>rw[a]at h;exact nk h
 |some ds=>cases b:Cc y with
  |none=>rw[a,b]at h;cases h
  |some es =>
   rw[a,b]at h;obtain⟨⟨f,e⟩,c⟩:=p9 h;exact⟨ds,es,wH a,wH b,f,e,c.symm⟩
def ua(m:Str)(st:Stmt):Option (Expr×aq):=(Sf st).bind λc=>(rS c).bind λz=>(xI z.1).bind λy=>if y.2.1=m/\z.2.2.1.isEmpty=true/\(y.2.2.endLine==z.2.2.2.line)=true then some (y.1,z.2.1)else none
theorem oE{m:Str}(h:ua m st=some (o,as)):∃d b pos,st=.Expr (.Call (.Attribute o m d) as [] b) pos/\(d.endLine==b.line)=true:=by
 obtain⟨c,j,h⟩:=bT h;obtain⟨⟨f,n,l,b⟩,i,h⟩:=bT h;obtain⟨⟨k,a,d⟩,g,h⟩:=bT h;obtain⟨e,h⟩:=gT h;cases h;obtain⟨pos,rfl⟩:=v9 j;obtain rfl:=l3 i;obtain rfl:=oF g;obtain rfl:=F8 e.2.1;obtain rfl:=e.1;exact⟨d,b,pos,rfl,e.2.2⟩
def Eb(_:Scope)(_:ak)(st:Stmt):Option (Expr×aq):=(ua ("extend" : Str) st).bind λz=>(one z.2).bind λ_=>some z
set_option tactic.hygienic true in
theorem Mx{n:Nat}(e:Φ n=Al){sc:Scope}{bl:ak}{k:Nat}(L:PX X sc bl k)(hN:X.N.Nodup)(tW:∀x,X.fn x=true){x:Str}(he:Eb sc bl st=some (.Name x pos,args))
  {i:Nat} (hi:X.N[i]?=some x) (hl:L2.Loc X.env.scope x) (pe:PE X (.Name x pos) (uf i)) (hs:m7 X F Φ cs args):PS X st (lW X F Φ (.mut n i cs)):=by
 obtain⟨⟨o,as⟩,h1,he⟩:=bT he;obtain⟨v,h2,he⟩:=bT he;cases he;obtain rfl:=ck h2;obtain⟨p1,p2,pos',rfl,Z⟩:=oE h1;cases cs with
 |nil=>exact hs.elim
 |cons c cs=>cases cs with
  |cons _ _=>exact hs.2.2.2.elim
  |nil =>
   refine PS.imp (nH (Ca abS PySem.F.slot_list_extend PySem.F.type_list_extend zQ pe (cH hs.1 ej (hs.2.1 _)) (hfew:=by rw[hs.2.1];rfl) (hline:=Z) (hs:=hs.2.1 _))) λD σ H I=>?_;obtain⟨R,τ,ρ,r,O,p,I⟩:=I;obtain⟨xs,M,p⟩:=aD p;obtain⟨y,ey,M⟩:=aD M;cases M;have z:∃ds es,y=.lst .ow es/\ρ[i]?=some (some (.lst .ow ds))/\aP anyF es=false/\ds.length+es.length<=cE/\r=(.nx,ρ.set i (some (.lst .ow (ds++es)))):=by
    cases B:aP b6 [y]with
    |true =>
     obtain⟨d,d',h⟩:=Cp p B;rw[e]at h;obtain⟨ds,es,_,j,_⟩:=yY h;cases y<;>first|exact nk j | (cases j;done)|skip
     rename_i f IU;cases f<;>cases j
    |false =>
     obtain⟨d,d',h,h',rfl⟩:=yu p B;rw[e]at h';obtain⟨ds,es,rfl,rfl,j,h4,rfl⟩:=yY h';exact⟨ds,es,rfl,h,j,h4,rfl⟩
   obtain⟨ds,es,rfl,J,hf,hc,rfl⟩:=z;obtain⟨a,xs,E,ha,VJ,VQ,_⟩:=O.own J;refine⟨.ref a,E,⟨rfl,_,dY.of ha⟩,tD.intro O ey λu H1 e1 ru=>?_⟩;have t:=O.go e1;obtain⟨a1,HS,W,q,VI,Y,Kb⟩:=t.own J;rw[E]at W;cases W;obtain⟨τt,fr,rp⟩:=ru;obtain⟨b,U,rfl,hb,V⟩:=rp.rR;have B:sizeLine=16777216:=abe;have pw:cE=1000000:=rfl;have hzl:=V.length;refine⟨a,b,HS,U,rfl,rfl,q,hb.1,by left,?_⟩;obtain⟨s,vU⟩:=t.put (m:=0) (g:=λys=>ys++U) (v:=.int 0) (d:=.int 0) J E q Y Kb ⟨λ_=>none,λ_ _ h=>by simp at h,.int 0⟩ λrs _=>aE.RT rs (V.without (P:=anyF) (λ_ _ h=>jM q h) (λ_ _ _ _ _ h=>by cases h) hf _ _);exact I σ _ R s vU (o9 (n:=.l _) t e1 (λ_ h=>h) q Y)
noncomputable def qE(J:Nat)(d:D):Nat->af->af
 |_,[]=>[]
 |n,x::xs=>(if n=J then d else x)::qE J d (n+1) xs
theorem aE.qE{T T':mZ}{N N':jf}{q:bB}{J:Nat}{d:D}(b:∀p xs,T p xs->T' p xs)(g:∀c m p xs f,m≠J->N (c++(m::q)) p xs f->N' (c++(m::q)) p xs f):∀{n:Nat} {vs:ag} {ds:af},aE T N q n vs ds->(∀k v,vs[k]?=some v->n+k=J->Rep T' N' (J::q) v d)->aE T' N' q n vs (DI.qE J d n ds)
 |_,_,_,.nil,_=>.nil
 |n,_,_,.cons (d:=x) h t,hj=>by
  refine .cons ?_ (aE.qE b g t λk v e z=>hj (k+1) v e (by left));by_cases a:n=J
  ·rw[if_pos a];subst a;exact hj 0 _ rfl rfl
  ·rw[if_neg a];exact h.imp (q:=n::q) (q':=n::q) b λc p xs f h=>g c n p xs f a h
section
variable {X:Cx}{F R:aj}{τ:Addr->Option bB}{ρ:br}{σ:St}{H:Hp}
theorem SI.S3{p a:Addr}{q q0:bB}{n:Nd}{f:Fl}{o:HO}(j:SI X F R τ ρ σ H)(i:H p=some (.lst xs))(c:τ p=some q0)(g:q≠q0)(h:nd X.K R (λ_=>False) τ H q a n f):nd X.K R (λ_=>False) τ (upd H p o) q a n f:=by
 have b:∀{a:Addr} {z:Nd},a≠p->eH H a z->eH (upd H p o) a z:=λne h=>h.at λu e=>by rw[bC ne];exact e
 cases f with
 |ow=>exact⟨b (λz=>by subst z;exact g (aat (h.2.symm.trans c))) h.1,h.2⟩
 |fz=>exact⟨b (λz=>by subst z;rw[j.rt _ h.2]at c;cases c) h.1,h.2⟩
 |al=>exact h.2.elim
 |sc =>
  obtain⟨ys,rfl,h⟩:=h.BJ;exact h.elim (λ⟨d,w⟩=>.inl ⟨d,by rw[bC (λz=>by subst z;rw[i]at w;cases w)];exact w⟩) .inr
theorem SI.clr{i j:Nat}{p:Addr}(b:SI X F R τ ρ σ H)(r:ρ[i]?=some (some d0))(l:H p=some (.lst xs))(k:τ p=some [j,i])
  {v:V} (s:σ[i]?=some (some v)) (t:Rep (a_ X.K (upd H p (.lst ys))) (nd X.K R (λ_=>False) τ (upd H p (.lst ys))) [i] v d1):SI X F R τ (ρ.set i (some d1)) σ (upd H p (.lst ys)):=by
 have E:i<ρ.length:=by
  by_cases z:i<ρ.length
  ·exact z
  ·rw[List.getElem?_eq_none (by left)]at r;cases r
 have there:∀a,H a≠none->upd H p (.lst ys) a≠none:=λa h=>by
  by_cases z:a=p
  ·rw[z,aZ];simp
  ·rw[bC z];exact h
 refine⟨by simp[b.len],λm d g=>?_,b.rt,λa x=>there a (b.rh a x),b.rf,λa q e=>there a (b.th a q e),b.t0,λa u e=>?_⟩
 ·by_cases z:m=i
  ·subst z;rw[List.getElem?_set_self E]at g;cases g;exact⟨v,s,t⟩
  ·rw[List.getElem?_set_ne (Ne.symm z)]at g;obtain⟨v,B,y⟩:=b.rep m d g;refine⟨v,B,y.imp (q:=[m]) (q':=[m]) (λ_ _ h=>jM l h) λc a n f h=>b.S3 l k (λe=>?_) h⟩;have:=aaV List.getLast? e;simp at this;exact z this
 ·rw[bC (λz=>by subst z;rw[b.t0 _ _ k]at e;cases e)];exact b.same a u e
end
abbrev tR(h:Heap)(z TI TO a:Addr)(f:Bool):Prop :=
 h.get? z=some { cls:=.type "zip",dict:=none,data:=.fields #[rawInt a,.bool f,.bool false,.ref TI,.ref TO],slots:=#[] }
variable {oa:Obj}
section
variable {prog:aI}{w:World}{A:aG}{E:aB}{s:Shared}
theorem A2{a:Addr}{o:Obj}{Q:Option Obj->Shared->Prop}(b:s.heap.get? a=some o)(h:Q (some o) s):wpAny (model prog w) A (loadIfAlive a) Q E s:=by
 have h':Q (s.heap.get? a) s:=by rw[b];exact h
 exact λ_ _ _=>h'
theorem xC{z TI TO a:Addr}{f:Bool}{Q:Bool->Shared->Prop}(hz:tR s.heap z TI TO a f)(e:s.heap.get? a=some oa)(c:∀h',tR h' z TI TO a true->Heap.SameBut z s.heap h'->Q false { s with heap:=h' }):
  wpAny (model prog w) A (Builtin.SmallTypes.ownedTupleIsFree (.ref z)) Q E s:=by
 unfold Builtin.SmallTypes.ownedTupleIsFree;refine aaa (abF hz rfl (x:=rawInt a) rfl ?_);show wpAny _ _ (loadIfAlive ((a:Int).toNat) >>= _) _ _ _;rw[Int.toNat_natCast];refine aaa (A2 e ?_);simp only[Option.isNone_some,Bool.false_eq_true,if_false];refine aaa (abF hz rfl (x:=.bool f) rfl ?_);cases f with
 |true =>
  rw[if_neg (show ¬ ((Value.bool true != Value.bool true)=true) from Bool.false_ne_true)];exact aad (c s.heap hz (Heap.SameBut.refl _ _))
 |false =>
  rw[if_pos (show(Value.bool false != Value.bool true)=true from rfl)];exact aaa (wpAny_setField_rec hz (by simp) λb g d=>aad (c b g d))
theorem tZ{z TI TO a:Addr}{f:Bool}{xs ys:aN}{x y:Value}{Q:aB}(D:ZipApart z TI TO i1 i2 l1 l2)
  (hz:tR s.heap z TI TO a f) (q:s.heap.get? a=some oa) (U:IsPair s.heap TI (.ref i1) (.ref i2))
  (u:s.heap.IsListIter i1 l1 k1) (t:s.heap.IsListIter i2 l2 k2) (V:s.heap.IsList l1 xs) (k:s.heap.IsList l2 ys) (n:xs[k1]?=some x) (m:ys[k2]?=some y)
  (r:∀h',tR h' z TI TO a true->h'.IsListIter i1 l1 (k1+1)->h'.IsListIter i2 l2 (k2+1)->IsPair h' s.heap.objs.size x y->h'.objs.size=s.heap.objs.size+1 ->
   (∀c o,c≠z->c≠i1->c≠i2->s.heap.get? c=some o->h'.get? c=some o)->Q (.ref s.heap.objs.size) { s with heap:=h' }) :
  wpAny (model prog w) A (Builtin.«zip.__next__» ⟨[.ref z],[]⟩) (λfin l=>∃v,fin=.done (.ret v)/\Q v l) E s:=by
 show wpAny _ _ (field (.ref z) 2 >>= _) _ _ _;refine aaa (abF hz rfl (x:=.bool false) rfl ?_);show wpAny _ _ (field (.ref z) 3 >>= _) _ _ _;refine aaa (abF hz rfl (x:=.ref TI) rfl ?_);refine aaa (wpAny_seqItems U rfl ?_);show wpAny _ _ (Builtin.SmallTypes.ownedTupleIsFree (.ref z) >>= _) _ _ _;refine aaa (xC hz q λh₁ O g=>?_);simp only[Bool.false_eq_true,if_false];refine aaa ?_;rw[<- Array.forIn_toList];simp only[List.forIn_cons,List.forIn_nil];refine aaa (aaa (aaF ?_));show wpAny _ _ (Builtin.SmallTypes.nextOf (.ref i1) >>= _) _ _ _;refine aaa (abV (u.extBut g.extBut D.i1z) (V.extBut g.extBut D.l1z) n λj M h=>aad ?_);refine aad ?_;refine aaa (aaa (aaF ?_));show wpAny _ _ (Builtin.SmallTypes.nextOf (.ref i2) >>= _) _ _ _;refine aaa (abV ((t.extBut g.extBut D.i2z).extBut h.extBut D.i12.symm) ((k.extBut g.extBut D.l2z).extBut h.extBut D.l2i1) m λb L i=>aad ?_);refine aad ?_;refine aad ?_;have d:b.objs.size=s.heap.objs.size:=by rw[i.1,h.1,g.1]
 refine aaa (wpAny_newTuple ?_ (by show 2<=_;rw[sizeLine_eq];decide));refine aad ⟨_,rfl,?_⟩;show Q (.ref b.objs.size) _;have W:∀{c o},b.get? c=some o->c≠b.objs.size:=λe=>aao (aai e);have p:∀c o,c≠z->c≠i1->c≠i2->s.heap.get? c=some o->(b.push { cls:=.type "tuple",data:=.seq #[x,y] }).get? c=some o:=λc o J I B e=>aag _ (i.extBut _ _ B (h.extBut _ _ I (g.extBut _ _ J e)));rw[d];refine r _ (aag _ (i.extBut _ _ D.i2z.symm (h.extBut _ _ D.i1z.symm O))) ((M.extBut i.extBut D.i12).at λo e=>aag _ e) (L.at λo e=>aag _ e) ?_ (by rw[Heap.size_push,d]) p;rw[<- d];exact aam _ rfl
theorem v5{z TI TO a:Addr}{f:Bool}{xs ys:aN}{Q:Fin->Shared->Prop}(n:A.handled=none)(D:ZipApart z TI TO i1 i2 l1 l2)
  (hz:tR s.heap z TI TO a f) (I:s.heap.get? a=some oa) (L:IsPair s.heap TI (.ref i1) (.ref i2))
  (q:s.heap.IsListIter i1 l1 k1) (J:s.heap.IsListIter i2 l2 k2) (t:s.heap.IsList l1 xs) (u:s.heap.IsList l2 ys) (v:xs[k1]?=none\/ys[k2]?=none)
  (p:∀h' e,(∀c o,c≠z->c≠i1->c≠i2->s.heap.get? c=some o->h'.get? c=some o)->(∃o,h'.get? e=some o/\o.cls=.type "StopIteration")->E (.ref e) { s with heap:=h' }) :
  wpAny (model prog w) A (Builtin.«zip.__next__» ⟨[.ref z],[]⟩) Q E s:=by
 show wpAny _ _ (field (.ref z) 2 >>= _) _ _ _;refine aaa (abF hz rfl (x:=.bool false) rfl ?_);show wpAny _ _ (field (.ref z) 3 >>= _) _ _ _;refine aaa (abF hz rfl (x:=.ref TI) rfl ?_);refine aaa (wpAny_seqItems L rfl ?_);show wpAny _ _ (Builtin.SmallTypes.ownedTupleIsFree (.ref z) >>= _) _ _ _;refine aaa (xC hz I λh₁ O d=>?_);simp only[Bool.false_eq_true,if_false];refine aaa ?_;rw[<- Array.forIn_toList];simp only[List.forIn_cons,List.forIn_nil];refine aaa (aaa (aaF ?_));show wpAny _ _ (Builtin.SmallTypes.nextOf (.ref i1) >>= _) _ _ _;cases j:xs[k1]? with
 |none =>
  refine aaa (wpAny_nextOf_list_end n (q.extBut d.extBut D.i1z) (t.extBut d.extBut D.l1z) j λb e g k=>?_);exact p b e (λc o m l r x=>g _ _ l (d.extBut _ _ m x)) k
 |some x =>
  have B:ys[k2]?=none:=by rcases v with h|h;rw[j]at h;cases h;exact h
  refine aaa (abV (q.extBut d.extBut D.i1z) (t.extBut d.extBut D.l1z) j λb M g=>aad ?_);refine aad ?_;refine aaa (aaa (aaF ?_));show wpAny _ _ (Builtin.SmallTypes.nextOf (.ref i2) >>= _) _ _ _;refine aaa (wpAny_nextOf_list_end n ((J.extBut d.extBut D.i2z).extBut g.extBut D.i12.symm) ((u.extBut d.extBut D.l2z).extBut g.extBut D.l2i1) B λi e y k=>?_);exact p i e (λc o m l r x=>y _ _ r (g.extBut _ _ l (d.extBut _ _ m x))) k
theorem oy{z TI TO a:Addr}{f:Bool}{xs ys:aN}{x y:Value}{Q:Option Value->Shared->Prop}(D:ZipApart z TI TO i1 i2 l1 l2)
  (hz:tR s.heap z TI TO a f) (h:s.heap.get? a=some oa) (l:IsPair s.heap TI (.ref i1) (.ref i2))
  (k:s.heap.IsListIter i1 l1 k1) (j:s.heap.IsListIter i2 l2 k2) (m:s.heap.IsList l1 xs) (d:s.heap.IsList l2 ys) (g:xs[k1]?=some x) (e:ys[k2]?=some y)
  (i:∀h',tR h' z TI TO a true->h'.IsListIter i1 l1 (k1+1)->h'.IsListIter i2 l2 (k2+1)->IsPair h' s.heap.objs.size x y->h'.objs.size=s.heap.objs.size+1 ->
   (∀c o,c≠z->c≠i1->c≠i2->s.heap.get? c=some o->h'.get? c=some o)->Q (some (.ref s.heap.objs.size)) { s with heap:=h' }) :
  wpAny (model prog w) A (pyNext (.ref z)) Q E s:=by
 have b:s.TypeIs (.ref z) "zip":=⟨_,hz,rfl⟩
 unfold pyNext;exact aaa (abC (aaS (name:=Str.ofString "__next__") b abw
  (aaI abw b PySem.F.entry_zip_next
   (tZ D hz h l k j m d g e λh' a1 a2 a3 a4 a5 a6=>aad (i h' a1 a2 a3 a4 a5 a6)) (PySem.F.args_zip_next_1 _))))
theorem p_{z TI TO a:Addr}{f:Bool}{xs ys:aN}{Q:Option Value->Shared->Prop}(k:A.handled=none)(D:ZipApart z TI TO i1 i2 l1 l2)
  (hz:tR s.heap z TI TO a f) (n:s.heap.get? a=some oa) (t:IsPair s.heap TI (.ref i1) (.ref i2))
  (r:s.heap.IsListIter i1 l1 k1) (q:s.heap.IsListIter i2 l2 k2) (u:s.heap.IsList l1 xs) (g:s.heap.IsList l2 ys) (h:xs[k1]?=none\/ys[k2]?=none)
  (p:∀h',(∀c o,c≠z->c≠i1->c≠i2->s.heap.get? c=some o->h'.get? c=some o)->Q none { s with heap:=h' }):wpAny (model prog w) A (pyNext (.ref z)) Q E s:=by
 have d:s.TypeIs (.ref z) "zip":=⟨_,hz,rfl⟩
 unfold pyNext;refine aaa (abC (aaS (name:=Str.ofString "__next__") d abw
  (aaI abw d PySem.F.entry_zip_next (v5 k D hz n t r q u g h λh' e j l=>?_) (PySem.F.args_zip_next_1 _))))
 obtain⟨o,i,m⟩:=l;refine aaa (wpAny_isInstance (T:="StopIteration") (b:=true) ⟨o,i,m⟩ isSubtype_stop ?_);exact aad (p _ j)
end
theorem Jl:typeLookup (.type "zip") "__len__" = pure none:=by rw[typeLookup_type,builtinLookup_eq_fast];kernel_rfl
theorem Oa:typeLookup (.type "zip") "__length_hint__" = pure none:=by rw[typeLookup_type,builtinLookup_eq_fast];kernel_rfl
section
variable {prog:aI}{w:World}{A:aG}{E:aB}{s:Shared}
theorem EJ{z:Addr}(b:s.TypeIs (.ref z) "zip"){Q:Bool->Shared->Prop}(h:Q true s):wpAny (model prog w) A (Builtin.List.listLengthHint (.ref z)) Q E s:=by
 unfold Builtin.List.listLengthHint;refine aaa (wpAny_specialOf b Jl ?_);refine wpAny_ite_split (λa=>absurd a (by decide)) (λ_=>?_);refine wpAny_ite_split (λa=>absurd a (by decide)) (λ_=>?_);refine aaa (wpAny_specialOf b Oa ?_);exact aad h
end
structure Zl(h:Heap)(z TI TO i1 i2 l1 l2 S:Addr)(xs ys:aN)(i:Nat):Prop where
 st:(IsZip h z TI TO .none/\∃a b,IsPair h TO a b)\/∃a f oa,tR h z TI TO a f/\h.get? a=some oa/\S<a
 ti:IsPair h TI (.ref i1) (.ref i2)
 w1:h.IsListIter i1 l1 i
 w2:h.IsListIter i2 l2 i
 q1:h.IsList l1 xs
 q2:h.IsList l2 ys
structure Below(z TI TO i1 i2 l1 l2 S:Addr):Prop where
 D:ZipApart z TI TO i1 i2 l1 l2
 z:z<S
 TI:TI<S
 TO:TO<S
 i1:i1<S
 i2:i2<S
 l1:l1<S
 l2:l2<S
section
variable {prog:aI}{w:World}{A:aG}{E:aB}{s:Shared}{z TI TO i1 i2 l1 l2 S:Addr}{xs ys:aN}{i:Nat}
theorem Zl.keep{h:Heap}(B:Below z TI TO i1 i2 l1 l2 S)(Z:Zl h z TI TO i1 i2 l1 l2 S xs ys i)(c:∀b o,b≠S->h.get? b=some o->h'.get? b=some o):Zl h' z TI TO i1 i2 l1 l2 S xs ys i:=by
 have n:∀{b},b<S->b≠S:=λh=>aao h;refine⟨?_,c _ _ (n B.TI) Z.ti,Z.w1.at λo e=>c _ o (n B.i1) e,Z.w2.at λo e=>c _ o (n B.i2) e,Z.q1.at λo e=>c _ o (n B.l1) e,Z.q2.at λo e=>c _ o (n B.l2) e⟩;rcases Z.st with ⟨g,a,b,d⟩|⟨a,f,oa,g,d,j⟩
 ·exact .inl ⟨c _ _ (n B.z) g,a,b,c _ _ (n B.TO) d⟩
 ·exact .inr ⟨a,f,oa,c _ _ (n B.z) g,c _ _ (aav j) d,j⟩
theorem EH{x y:Value}{Q:Option Value->Shared->Prop}(B:Below z TI TO i1 i2 l1 l2 S)(Z:Zl s.heap z TI TO i1 i2 l1 l2 S xs ys i)(t:S<s.heap.objs.size)(p:xs[i]?=some x)(m:ys[i]?=some y)
  (r:∀h',Zl h' z TI TO i1 i2 l1 l2 S xs ys (i+1)->IsPair h' s.heap.objs.size x y->h'.objs.size=s.heap.objs.size+1->(∀c o,c≠z->c≠TO->c≠i1->c≠i2->s.heap.get? c=some o->h'.get? c=some o)->Q (some (.ref s.heap.objs.size)) { s with heap:=h' }) :
  wpAny (model prog w) A (pyNext (.ref z)) Q E s:=by
 have D:=B.D;rcases Z.st with ⟨j,a,b,J⟩|⟨a,f,oa,j,q,d⟩
 ·refine wpAny_pyNext_zip_item D j Z.ti J Z.w1 Z.w2 Z.q1 Z.q2 p m λh' g L a1 k t1 l k1=>r h' ?_ t1 l k1;exact⟨.inr ⟨s.heap.objs.size,false,_,g,t1,t⟩,k1 _ _ D.TIz D.TITO D.TIi1 D.TIi2 Z.ti,a1,k,Z.q1.at λo e=>k1 _ o D.l1z D.l1TO D.l1i1 D.l1i2 e,Z.q2.at λo e=>k1 _ o D.l2z D.l2TO D.l2i1 D.l2i2 e⟩
 ·refine oy D j q Z.ti Z.w1 Z.w2 Z.q1 Z.q2 p m λh' g a1 k t1 l k1=>r h' ?_ t1 l λc o I _ v u e=>k1 c o I v u e;have n:∀{b},b<S->a≠b:=λh=>aav (abi h d);exact⟨.inr ⟨a,true,oa,g,k1 _ _ (n B.z) (n B.i1) (n B.i2) q,d⟩,k1 _ _ D.TIz D.TIi1 D.TIi2 Z.ti,a1,k,Z.q1.at λo e=>k1 _ o D.l1z D.l1i1 D.l1i2 e,Z.q2.at λo e=>k1 _ o D.l2z D.l2i1 D.l2i2 e⟩
theorem EK{Q:Option Value->Shared->Prop}(h:A.handled=none)(B:Below z TI TO i1 i2 l1 l2 S)(Z:Zl s.heap z TI TO i1 i2 l1 l2 S xs ys i)(g:xs[i]?=none\/ys[i]?=none)
  (j:∀h',(∀c o,c≠z->c≠TO->c≠i1->c≠i2->s.heap.get? c=some o->h'.get? c=some o)->Q none { s with heap:=h' }):wpAny (model prog w) A (pyNext (.ref z)) Q E s:=by
 have D:=B.D;rcases Z.st with ⟨d,a,b,r⟩|⟨a,f,oa,d,l,m⟩
 ·exact wpAny_pyNext_zip_end h D d Z.ti r Z.w1 Z.w2 Z.q1 Z.q2 g j
 ·exact p_ h D d l Z.ti Z.w1 Z.w2 Z.q1 Z.q2 g λh' k=>j h' λc o q _ p n e=>k c o q p n e
end
structure RU(xs ys:aN)(lo:Addr)(h:Heap)(as:aS):Prop where
 above:∀a∈as,lo<a
 nd:as.Nodup
 pairs:∀(j:Nat) (a:Addr),as[j]?=some a->∃x y,xs[j]?=some x/\ys[j]?=some y/\IsPair h a x y
section
variable {prog:aI}{w:World}{A:aG}{s:Shared}{R:Result->Shared->Prop}{z TI TO i1 i2 l1 l2 S:Addr}{xs ys:aN}
theorem EG(hh:A.handled=none)(B:Below z TI TO i1 i2 l1 l2 S)(hn:min xs.size ys.size<=sizeLine)(res:Value) 
  (hR:∀h' tk d c as,(∀b o,b≠S->b≠z->b≠TO->b≠i1->b≠i2->h₁.get? b=some o->h'.get? b=some o)->h'.get? S=some { cls:=.type "list",dict:=none,data:=.seq d c,slots:=#[] }->as.length=min xs.size ys.size->RU xs ys S h' as ->
   d.toList=as.map Value.ref->R (.ok (.ret res)) { s with heap:=h',toks:=tk }) :
  ∀(k i:Nat) (h:Heap) (tk c:Nat) (d:aN) (as:aS),min xs.size ys.size - i=k->i<=min xs.size ys.size->Zl h z TI TO i1 i2 l1 l2 S xs ys i->(∀b o,b≠S->b≠z->b≠TO->b≠i1->b≠i2->h₁.get? b=some o->h.get? b=some o) ->
   h.get? S=some { cls:=.type "list",dict:=none,data:=.seq d c,slots:=#[] }->d.toList=as.map Value.ref->as.length=i->RU xs ys S h as ->
   codeAny (model prog w) A (.builtin "list.extend.loop" ⟨[.ref S,.ref z,res],[]⟩) R { s with heap:=h,toks:=tk }:=by
 have Y:S≠z:=aav B.z;have nO:S≠TO:=aav B.TO;have n1:S≠i1:=aav B.i1;have n2:S≠i2:=aav B.i2;have X1:∀{a:Addr},S<a->a≠z/\a≠TO/\a≠i1/\a≠i2:=λh=>⟨aav (abi B.z h),aav (abi B.TO h),aav (abi B.i1 h),aav (abi B.i2 h)⟩
 intro k;induction k with
 |zero =>
  intro i h tk c d as hk hi Z V E J v g;refine aa7 PySem.F.entry_extend_loop ?_;rw[Around.under_plainId PySem.F.plain_extend_loop _];show wpAny _ A.in1 (pyNext (.ref z) >>= _) _ _ _;have vj:xs[i]?=none\/ys[i]?=none:=by
   rcases Nat.le_total xs.size ys.size with q|q
   ·exact .inl (Array.getElem?_eq_none (by left))
   ·exact .inr (Array.getElem?_eq_none (by left))
  refine aaa (EK (s:={ s with heap:=h,toks:=tk }) (A:=A.in1) hh B Z vj λh' M=>?_);refine aad (hR h' tk d c as (λb o I u t r p e=>M b o u t r p (V b o I u t r p e)) (M S _ Y nO n1 n2 E) (by left) ⟨g.above,g.nd,λj a f=>?_⟩ J);obtain⟨x,y,e1,e2,O⟩:=g.pairs j a f;obtain⟨a1,a2,a3,a4⟩:=X1 (g.above a (aaz f));exact⟨x,y,e1,e2,M a _ a1 a2 a3 a4 O⟩
 |succ k ih =>
  intro i h tk c d as hk hi Z V E J v g;have gD:i<min xs.size ys.size:=by left
  have hx:xs[i]?=some (xs[i]'(by left)):=aa4 _;have hy:ys[i]?=some (ys[i]'(by left)):=aa4 _;have n:d.size=i:=by rw[<- Array.length_toList,J,List.length_map,v]
  have U:S<h.objs.size:=aai E;refine aa7 PySem.F.entry_extend_loop ?_;rw[Around.under_plainId PySem.F.plain_extend_loop _];show wpAny _ A.in1 (pyNext (.ref z) >>= _) _ _ _;refine aaa (EH (s:={ s with heap:=h,toks:=tk }) B Z U hx hy λh' Z' ht hz L=>?_);dsimp only at ht hz L ⊢;have W:=L S _ Y nO n1 n2 E;have up:∀b o,b≠S->h'.get? b=some o->(h'.update S (Obj.mapSeq (·.push (Value.ref h.objs.size)))).get? b=some o:=λb o l e=>(aaJ _ _ (abP l)).trans e;show wpAny _ A.in1 (updateSeq S (·.push (Value.ref h.objs.size)) >>= _) _ _ _;refine aaa ?_;refine ab6 W rfl (aad ⟨acn PySem.F.plain_extend_loop _,ih (i+1) _ tk _ (d.push (Value.ref h.objs.size)) (as++[h.objs.size]) (by left) gD (Z'.keep B up)
   (λb o I u t r p e=>up b o I (L b o u t r p (V b o I u t r p e))) (aaP _ W rfl) (by rw[Array.toList_push,J,List.map_append];rfl) (by rw[List.length_append,v];rfl) ⟨?_,?_,?_⟩⟩) (by rw[n];left) (by show(d.push (Value.ref h.objs.size)).size<=sizeLine+1;rw[Array.size_push,n];left)
  ·intro a m;rcases List.mem_append.mp m with m|m
   ·exact g.above a m
   ·rw[List.mem_singleton.mp m];exact U
  ·refine List.nodup_append.mpr ⟨g.nd,List.nodup_cons.mpr ⟨acy,aaA⟩,λa m b l e=>?_⟩;rw[List.mem_singleton.mp l]at e;subst e;obtain⟨j,f⟩:=List.mem_iff_getElem?.mp m;obtain⟨_,_,_,_,e⟩:=g.pairs j _ f;exact absurd (aai e) (aaw _)
  ·intro j b f;rcases Nat.lt_trichotomy j as.length with q|q|q
   ·rw[List.getElem?_append_left q]at f;obtain⟨x',y',e1,e2,O⟩:=g.pairs j b f;have l:=g.above b (aaz f);obtain⟨a1,a2,a3,a4⟩:=X1 l;exact⟨x',y',e1,e2,up b _ (aav l) (L b _ a1 a2 a3 a4 O)⟩
   ·subst q;have l:h.objs.size=b:=by simpa using f
    subst l;exact⟨_,_,by rw[v];exact hx,by rw[v];exact hy,up _ _ (aav U) ht⟩
   ·have QD:(as++[h.objs.size])[j]?=none:=List.getElem?_eq_none (by rw[List.length_append,List.length_singleton];left);rw[QD]at f;exact nk f
theorem zx(y:A.handled=none)(B:Below z TI TO i1 i2 l1 l2 S)(v:min xs.size ys.size<=sizeLine)(Z:Zl s.heap z TI TO i1 i2 l1 l2 S xs ys 0)(r:IsZip s.heap z TI TO .none)(res:Value)(d:Nat)(p:s.heap.get? S=some { cls:=.type "list",data:=.seq #[] d })
  (hR:∀h' t g c as,(∀b o,b≠S->b≠z->b≠TO->b≠i1->b≠i2->s.heap.get? b=some o->h'.get? b=some o)->h'.get? S=some { cls:=.type "list",dict:=none,data:=.seq g c,slots:=#[] }->as.length=min xs.size ys.size->RU xs ys S h' as ->
   g.toList=as.map Value.ref->R (.ok (.ret res)) { s with heap:=h',toks:=t }) :
  wpAny (model prog w) A.in1 (Builtin.List.listExtendWith (.ref S) (.ref z) res)
   (λfin h=>match fin with|.done f=>R (.ok f) h|.again c'=>c'.quiet=true/\codeAny (model prog w) A c' R h) (λe h=>R (.error e) h) s:=by
 have i:S≠z:=aav B.z;have n:s.TypeIs (.ref z) "zip":=⟨_,r,rfl⟩
 unfold Builtin.List.listExtendWith;refine aaa (wpAny_typeOf (T:="zip") n ?_);have k:Builtin.List.listSameRef (.ref S) (.ref z)=false:=by simp[Builtin.List.listSameRef,i]
 have J:(Value.type "zip" == Value.type "list")=false:=by decide
 have I:(Value.type "zip" == Value.type "tuple")=false:=by decide
 simp only[k,J,I,Bool.or_false,Bool.false_eq_true,if_false];refine aaa (wpAny_pyIter_zip r ?_);refine aaa (aaF (EJ n ?_));refine wpAny_ite_split (λ_=>?_) (λu=>absurd rfl u);refine aaa (acu ?_);refine aaa ?_;show wpAny _ _ (updateSeq S (·.push .none) >>= λ_=>updateSeq S (·.pop)) _ _ _;refine aaa (ab6 p rfl ?_);have l:=aaP (Obj.mapSeq (·.push Value.none)) p rfl;refine ab6 (hz:=by seq_fits) l rfl ?_;have L:=aaP (Obj.mapSeq (·.pop)) l rfl;have q:∀b o,b≠S->s.heap.get? b=some o->((s.heap.update S (Obj.mapSeq (·.push Value.none))).update S (Obj.mapSeq (·.pop))).get? b=some o:=λb o m e=>(aaJ _ _ (abP m)).trans ((aaJ _ _ (abP m)).trans e);refine aad ⟨acn PySem.F.plain_extend_loop _,?_⟩;exact EG y B v res (s:=s) (h₁:=s.heap) hR (min xs.size ys.size) 0 _ s.toks _ #[] [] (Nat.sub_zero _) (aaH _) (Z.keep B q) (λb o k _ _ _ _ e=>q b o k e) L rfl rfl ⟨(λ_ E=>nomatch E),aaA,λj a x=>by simp at x⟩
theorem EI(q:A.handled=none)(B:Below z TI TO i1 i2 l1 l2 S)(m:min xs.size ys.size<=sizeLine)(Z:Zl s.heap z TI TO i1 i2 l1 l2 S xs ys 0)(I:IsZip s.heap z TI TO .none)(h:s.heap.get? S=some { cls:=.type "list",data:=.seq #[] })
  (hR:∀h' g a c as,(∀b o,b≠S->b≠z->b≠TO->b≠i1->b≠i2->s.heap.get? b=some o->h'.get? b=some o)->h'.get? S=some { cls:=.type "list",dict:=none,data:=.seq a c,slots:=#[] }->as.length=min xs.size ys.size->RU xs ys S h' as ->
   a.toList=as.map Value.ref->R (.ok (.ret .none)) { s with heap:=h',toks:=g }) :
  wpAny (model prog w) A.in1 (Builtin.«list.__init__» ⟨[.ref S,.ref z],[]⟩)
   (λfin d=>match fin with|.done f=>R (.ok f) d|.again c'=>c'.quiet=true/\codeAny (model prog w) A c' R d) (λe d=>R (.error e) d) s:=by
 show wpAny _ _ (do let old <- Builtin.List.listItems (.ref S);Builtin.List.listUpdate (.ref S) (λ_=>#[]);letGo old.toList.reverse;Builtin.List.listExtendWith (.ref S) (.ref z) .none) _ _ s;refine aaa ?_;unfold Builtin.List.listItems;refine aaa (wpAny_seqItems h rfl (aad ?_));show wpAny _ _ (updateSeq S (λ_=>#[]) >>= λ_=>letGo (#[]:aN).toList.reverse >>= λ_=>Builtin.List.listExtendWith (.ref S) (.ref z) .none) _ _ s;refine aaa (ab6 h rfl ?_);have k:=aaP (Obj.mapSeq (λ_=>(#[]:aN))) h rfl;have i:∀b o,b≠S->s.heap.get? b=some o->(s.heap.update S (Obj.mapSeq (λ_=>(#[]:aN)))).get? b=some o :=
  λb o r e=>(aaJ _ _ (abP r)).trans e
 refine aaa (wpAny_letGo ?_);refine zx q B m (Z.keep B i) (i _ _ (aao B.z) I) .none _ k λh' g a c as p l n t E=>?_;exact hR h' g a c as (λb o j y x v u e=>p b o j y x v u (i b o j e)) l n t E
end
section
variable {prog:aI}{w:World}{A:aG}{E:aB}{s:Shared}{z TI TO i1 i2 l1 l2:Addr}{xs ys:aN}
theorem EL{Q:aB}(t:A.handled=none)(D:ZipApart z TI TO i1 i2 l1 l2)(p:min xs.size ys.size<=sizeLine)(hz:IsZip s.heap z TI TO .none)(m:IsPair s.heap TI (.ref i1) (.ref i2)){a b:Value}(l:IsPair s.heap TO a b)(k:s.heap.IsListIter i1 l1 0)(h:s.heap.IsListIter i2 l2 0)(q1:s.heap.IsList l1 xs)(q2:s.heap.IsList l2 ys)
  (u:∀h' i d c as,(∀b o,b≠z->b≠TO->b≠i1->b≠i2->s.heap.get? b=some o->h'.get? b=some o)->h'.get? s.heap.objs.size=some { cls:=.type "list",dict:=none,data:=.seq d c,slots:=#[] }->as.length=min xs.size ys.size->RU xs ys s.heap.objs.size h' as ->
   d.toList=as.map Value.ref->Q (.ref s.heap.objs.size) { s with heap:=h',toks:=i }) :
  wpAny (model prog w) A (call (.type "list") [.ref z]) Q E s:=by
 refine callType_codes (Q₁:=λg f=>g=.ref s.heap.objs.size/\f={ s with heap:=s.heap.push { cls:=.type "list",data:=.seq #[] } }) PySem.F.called_list (PySem.F.typeCall_list_1 _) PySem.F.entry_list_init
  (code_list_new _ ⟨rfl,rfl⟩) λg f h₁=>?_
 obtain⟨rfl,rfl⟩:=h₁;have j:(s.heap.push { cls:=.type "list",data:=.seq #[] }).get? s.heap.objs.size=some { cls:=.type "list",data:=.seq #[] }:=aam _ rfl;have up:∀b o,s.heap.get? b=some o->(s.heap.push { cls:=.type "list",data:=.seq #[] }).get? b=some o:=λb o e=>aag _ e;have B:Below z TI TO i1 i2 l1 l2 s.heap.objs.size:=⟨D,aai hz,aai m,aai l,(by obtain⟨_,e,_⟩:=k;exact aai e),(by obtain⟨_,e,_⟩:=h;exact aai e),(by obtain⟨_,e,_⟩:=q1;exact aai e),(by obtain⟨_,e,_⟩:=q2;exact aai e)⟩
 refine⟨⟨_,j,rfl⟩,PySem.F.args_list_init_2 _ _,EI (A:=A.in1) t B p ⟨.inl ⟨up _ _ hz,a,b,up _ _ l⟩,up _ _ m,k.at λo e=>up _ o e,h.at λo e=>up _ o e,q1.at λo e=>up _ o e,q2.at λo e=>up _ o e⟩ (up _ _ hz) j λh' i d c as r n q v J=>?_⟩;exact⟨rfl,u h' i d c as (λb o h I y x e=>r b o (aao (aai e)) h I y x (up b o e)) n q v J⟩
end
theorem Inv.Qe{pins:ao}{s:Shared}(I:Inv X pins σ H s)(k:∀b u,s.heap.get? b=some u->h'.get? b=some u)(up:∀b u,H b=some u->H' b=some u)
  (a:∀b u,H' b=some u->H b=some u\/(s.heap.objs.size<=b/\cQ H' h' b u)):Inv X pins σ H' { s with heap:=h',toks:=t' }:=by
 refine I.step (g':=s.gens) (d':=s.drawn) (ch:=[]) (λb f=>nomatch f) (λb o _ _ _ e _=>k b o e) (λb o _ _ _ e _=>⟨o.slots,k b o e⟩) (λb u _ e n=>?_)
  (λb o _ e=>⟨o,k b o e⟩) (λ_ _ e=>up _ _ e) (λ_ _ _ e=>up _ _ e) (λm d=>?_) (λb u e=>?_) I.bare
 ·cases q:H' b with
  |none=>rfl
  |some v =>
   rcases a b v q with z|⟨z,_⟩
   ·rw[n]at z;exact nk z
   ·exact absurd (aai e) (Nat.not_lt.mpr z)
 ·obtain⟨o,es,ep,c,r⟩:=d;exact⟨o,es,ep,k _ o c,r⟩
 ·rcases a b u e with e|⟨_,e⟩
  ·exact(I.dE b u e).oK (k b)
  ·exact e
def qm(H:Hp):List (Addr×V×V)->Hp
 |[]=>H
 |q::r=>upd (qm H r) q.1 (.tup [q.2.1,q.2.2])
theorem lu{H:Hp}{b:Addr}{u:HO}(e:H b=some u):∀{r:List (Addr×V×V)},(∀q∈r,H q.1=none)->qm H r b=some u
 |[],_=>e
 |q::r,h=>by
  have c:b≠q.1:=λz=>by rw[z,h q List.mem_cons_self]at e;cases e
  show upd (qm H r) q.1 _ b=_;rw[bC c];exact lu e λq a=>h q (aac _ a)
theorem yG{H:Hp}:∀{r:List (Addr×V×V)},(r.map (·.1)).Nodup->∀q∈r,qm H r q.1=some (.tup [q.2.1,q.2.2])
 |[],_,_,h=>nomatch h
 |q'::r,hn,q,h=>by
  show upd (qm H r) q'.1 _ q.1=_;have a:=List.nodup_cons.mp hn;rcases List.mem_cons.mp h with rfl|h
  ·exact aZ
  ·have:q.1≠q'.1:=λz=>a.1 (by show q'.1∈_;rw[<- z];exact aaq h);rw[bC this];exact yG a.2 q h
theorem va{H:Hp}{b:Addr}{u:HO}:∀{r:List (Addr×V×V)},qm H r b=some u->H b=some u\/∃q∈r,q.1=b/\u=.tup [q.2.1,q.2.2]
 |[],e=>.inl e
 |q::r,e=>by
  replace e:upd (qm H r) q.1 (.tup [q.2.1,q.2.2]) b=some u:=e;by_cases z:b=q.1
  ·subst z;rw[aZ]at e;cases e;exact .inr ⟨q,aae,rfl,rfl⟩
  ·rw[bC z]at e;rcases va e with h|⟨q',c,a⟩
   ·exact .inl h
   ·exact .inr ⟨q',aac _ c,a⟩
def tLZ(K:av)(ta:TA):TE:=λσ H Q=>ta σ H λvs H1=>∃a b xs ys,vs=[.ref a,.ref b]/\dY K H1 a xs/\dY K H1 b ys /\
 ∀(l:Addr) (r:List (Addr×V×V)),H1 l=none->(∀q∈r,H1 q.1=none)->(r.map (·.1)).Nodup->l∉r.map (·.1)->r.map (·.2)=xs.zip ys->Q (.ref l) (upd (qm H1 r) l (.lst (r.map λq=>V.ref q.1)))
theorem FQ{p:Pos}(hc:X.calm=true)(LI:Gl X "list")(QF:X.mg "list" = none)(hg:Gl X "zip")(M:X.mg "zip" = none)(ha:PA X [e1,e2] ta)(hs:∀es,starEach (e1::es) X.env=(false,eval e1 X.env)::starEach es X.env)(NH:∀es,starEach (e2::es) X.env=(false,eval e2 X.env)::starEach es X.env):
  PE X (.Call (.Name "list" p') [.Call (.Name "zip" p) [e1,e2] [] pos] [] pos') (tLZ X.K ta):=by
 intro pins s σ H Q I h;refine aaQ (eE I LI QF boot_list ?_);refine aau ?_;show wpAny _ _ (spliced ((false,eval (.Call (.Name "zip" p) [e1,e2] [] pos) X.env)::backTo pos' (starEach [] X.env))) _ _ s;refine abm ?_;refine Call_ (eE I hg M boot_zip (aau (dt (ha pos pins s σ H _ I h) λus d b7=>?_) (hs _) (by rw[NH];rfl)));obtain⟨vs,H1,l,r1,q1⟩:=b7;obtain⟨a,b,xs,ys,e,q1,q2,g⟩:=q1;subst e;obtain⟨u,v,rfl,ru,rv⟩:=vals2 r1;cases ru;cases rv;obtain⟨aJ,rx,J,YJ⟩:=l.list q1;obtain⟨f,ry,E,NF⟩:=l.list q2;refine call_zip_2 J.isList E.isList λh' z t o l1 l2 sz k=>abu ?_;have AS:h'.IsList a aJ.toArray:=J.isList.at λo e=>k _ o e;have wY:h'.IsList b f.toArray:=E.isList.at λo e=>k _ o e;have cls:∀{x y:Addr} {o u:Obj},h'.get? x=some o->h'.get? y=some u->o.cls≠u.cls->x≠y:=λh1 h2 h3=>dq h1 h2 h3;have al:@LT.lt Nat _ a d.heap.objs.size:=by obtain⟨_,e,_⟩:=J.isList;exact aai e
 have bl:@LT.lt Nat _ b d.heap.objs.size:=by obtain⟨_,e,_⟩:=E.isList;exact aai e
 have D:ZipApart (d.heap.objs.size+4) (d.heap.objs.size+2) (d.heap.objs.size+3) d.heap.objs.size (d.heap.objs.size+1) a b:=by
  constructor<;>first|exact aao (by left)|exact aav (by left)
 have lx:=rx.length;have ly:=ry.length;have hn:min aJ.toArray.size f.toArray.size<=sizeLine:=by simp;left
 refine EL (s:={ d with heap:=h' }) (l.ok.hd hc) D hn z t o l1 l2 AS wY λW tk Y c as O U hl i c_=>?_;dsimp only at O U i ⊢;have hlen:as.length=(xs.zip ys).length:=by rw[hl,List.length_zip];simp;left
 have keep:∀b o,d.heap.get? b=some o->W.get? b=some o:=λb o e=>by
  have:@LT.lt Nat _ b d.heap.objs.size:=aai e;exact O b o (aao (by left)) (aao (by left)) (aao (by left)) (aao (by left)) (k b o e)
 have fresh:∀c,d.heap.objs.size<=c->H1 c=none:=λc h=>l.dE.fresh h;have hS5:h'.objs.size=d.heap.objs.size+5:=sz
 let r:List (Addr×V×V):=as.zip (xs.zip ys)
 have r1:r.map (·.1)=as:=List.map_fst_zip (by left);have r2:r.map (·.2)=xs.zip ys:=List.map_snd_zip (by left);have m:∀c∈as,@LT.lt Nat _ h'.objs.size c:=i.above;have Z:∀q∈r,H1 q.1=none:=λq g=>fresh _ (by have:=m q.1 (by rw[<- r1];exact aaq g);left);have yL:H1 h'.objs.size=none:=fresh _ (by left);have LF:h'.objs.size∉r.map (·.1):=by rw[r1];exact λz=>absurd (m _ z) (aaw _)
 have EC:(r.map (·.1)).Nodup:=by rw[r1];exact i.nd
 have C7:(as.map V.ref)=r.map λq=>V.ref q.1:=by rw[<- r1,List.map_map];rfl
 refine⟨.ref h'.objs.size,upd (qm H1 r) h'.objs.size (.lst (r.map λq=>V.ref q.1)),?_,rfl,g _ r yL Z EC LF r2⟩;refine Inv.Qe (s:=d) (t':=tk) l keep (λb u e=>?_) λb u e=>?_
 ·rw[bC λz=>by rw[z,yL]at e;cases e];exact lu e Z
 ·by_cases zb:b=h'.objs.size
  ·subst zb;rw[aZ]at e;cases e;refine .inr ⟨by left,?_,Y.toList,c,?_,by rw[Array.toArray_toList];exact U⟩
   ·rw[<- C7,List.length_map,hlen,List.length_zip];left
   ·rw[<- C7,c_];clear c_ C7 i hl hlen r1 m EC r r2 Z LF U O keep;induction as with
    |nil=>exact .nil
    |cons a as ih=>exact .cons rfl ih
  ·rw[bC zb]at e;rcases va e with e|⟨q,g,rfl,rfl⟩
   ·exact .inl e
   ·have M:q.1∈as:=by rw[<- r1];exact aaq g
    refine .inr ⟨by have:=m _ M;left,?_⟩;obtain⟨j,hj⟩:=List.mem_iff_getElem?.mp g;have Wi:as[j]?=some q.1/\(xs.zip ys)[j]?=some q.2:=by
     have:=List.getElem?_zip_eq_some.mp hj;exact this
    obtain⟨x,y,ex,ey,hp⟩:=i.pairs j q.1 Wi.1;obtain⟨e1,e2⟩:xs[j]?=some q.2.1/\ys[j]?=some q.2.2:=List.getElem?_zip_eq_some.mp Wi.2;obtain⟨u1,VO,B⟩:=rx.get e1;obtain⟨u2,L,n⟩:=ry.get e2;rw[List.getElem?_toArray,VO]at ex;rw[List.getElem?_toArray,L]at ey;cases ex;cases ey;exact xM B n hp
noncomputable def pairD(x y:D):D:=.tup [x,y]
def P2(xs:af):O D:=match two xs with
 |some z=>match z.1 with
  |.lst _ a=>match z.2 with
   |.lst _ b=>ok (.lst .ow (aA bt (List.zipWith pairD a b)))
   |_=>none
  |_=>none
 |none=>none
theorem K1{x y d:D}(h:P2 [x,y]=ok d):∃f a g b,x=.lst f a/\y=.lst g b/\d=.lst .ow (aA bt (List.zipWith pairD a b)):=by
 cases x<;>first|exact nk h | (cases h;done)|skip
 cases y<;>first|exact nk h | (cases h;done)|skip
 cases h;exact⟨_,_,_,_,rfl,rfl,rfl⟩
def D8(sc:Scope)(bl:ak)(e:Expr):Option (aq):=(fG e).bind λz=>(one z.2).bind λi=>if z.1=("list" : Str)/\ja sc z.1=true/\z.1∈bl then pR sc bl i else none
theorem D7{sc:Scope}{bl:ak}{e:Expr}(h:D8 sc bl e=some args):∃p pos i,e=.Call (.Name ("list" : Str) p) [i] [] pos/\ja sc ("list" : Str)=true/\("list" : Str)∈bl/\pR sc bl i=some args:=by
 obtain⟨⟨x,as⟩,c,h⟩:=bT h;obtain⟨a,hw,h⟩:=bT h;obtain⟨d,b⟩:=gT h;obtain⟨rfl,g,f⟩:=d;obtain⟨p,pos,rfl⟩:=cT c;obtain rfl:=ck hw;exact⟨p,pos,a,rfl,g,f,b⟩
theorem uC{T:mZ}{N:jf}(c:∀k k' p xs f,N k p xs f->N k' p xs f):∀{r:List (Addr×V×V)} {xs ys:ag} {a b:af} {k1 k2 k:bB} {n1 d n:Nat},aE T N k1 n1 xs a->aE T N k2 d ys b->r.map (·.2)=xs.zip ys->(∀q∈r,T q.1 [q.2.1,q.2.2])->aE T N k n (r.map λq=>V.ref q.1) (List.zipWith pairD a b)
 |[],xs,ys,a,b,_,_,_,_,_,_,r1,r2,e,_=>by
  have l1:=r1.length;have l2:=r2.length;have l:=aaV List.length e;rw[List.length_zip]at l;have:List.zipWith pairD a b=[]:=List.eq_nil_of_length_eq_zero (by rw[List.length_zipWith];simp at l;left);rw[this];exact .nil
 |q::r,xs,ys,a,b,k1,k2,k,n1,d,n,r1,r2,e,ht=>by
  cases r1 with
  |nil=>cases e
  |cons t t1=>cases r2 with
   |nil=>cases e
   |cons s t2 =>
    have e1:q.2=(_,_):=(abD e).1;have e2:=(abD e).2;refine .cons (.tup (ht q aae) ?_) (uC c t1 t2 e2 λq m=>ht q (aac _ m));rw[e1];have j:=Rep.jv (T':=T) (N':=N) (g:=id) (λ_ _ h=>h) c t (0::n::k);have i:=Rep.jv (T':=T) (N':=N) (g:=id) (λ_ _ h=>h) c s (1::n::k);rw[eC]at j i;exact .cons j (.cons i .nil)
theorem dS(g:Fl->Fl):∀a b:af,aA g (List.zipWith pairD a b)=List.zipWith pairD (aA g a) (aA g b)
 |[],_=>by cases ‹af› <;> rfl
 |_::_,[]=>rfl
 |x::a,y::b=>by
  show aO g (pairD x y)::aA g (List.zipWith pairD a b)=_;rw[dS g a b];rfl
theorem P1{n:Nat}(t:Φ n=P2){sc:Scope}{bl:ak}{k:Nat}(L:PX X sc bl k){e:Expr}(he:D8 sc bl e=some args)(hs:m7 X F Φ cs args):PE X e (tD X F Φ (.cm n cs))/\PT X e (gy X F Φ (.cm n cs)):=by
 obtain⟨p,pos,i,rfl,h1,h2,u⟩:=D7 he;obtain⟨p',pos',a,b,rfl,rfl,h3,h4⟩:=rK u;obtain⟨⟨c,d,rfl,_,_⟩,pa,U,O⟩:=mi hs;have this:PE X (.Call (.Name ("list" : Str) p) [.Call (.Name ("zip" : Str) p') [a,b] [] pos'] [] pos) (tD X F Φ (.cm n [c,d])):=by
  refine PE.imp (FQ L.calm (L.gl h1) (L.bl _ h2) (L.gl h3) (L.bl _ h4) pa U O) λσ H Q m=>?_;obtain⟨R,τ,ρ,d',E,j,m⟩:=m;obtain⟨xs,cN,j⟩:=aD j;rw[t]at j;refine⟨R,τ,ρ,xs,E,cN,λvs H1 e1 r1=>?_⟩;obtain⟨τt,J,Z⟩:=r1;have s:∃x y,xs=[x,y]:=by
   unfold P2 at j;cases hw:two xs with
   |none=>rw[hw]at j;exact nk j
   |some z=>exact⟨z.1,z.2,jh hw⟩
  obtain⟨x,y,rfl⟩:=s;obtain⟨f,da,g,db,rfl,rfl,rfl⟩:=K1 j;obtain⟨v,w,rfl,Y,W⟩:=Z.two;cases Y with
  |lst hx ax=>cases W with
   |lst hy ay =>
    refine⟨_,_,_,_,rfl,hx.sq,hy.sq,λl r s I hn LF u=>m _ _ ?_ ?_⟩
    ·intro b o e;have B:=e1 b o e;rw[bC λz=>by rw[z,s]at B;cases B];exact lu B I
    ·have sm:aL H1 (upd (qm H1 r) l (.lst (r.map λq=>V.ref q.1))):=λb o e=>by
      rw[bC λz=>by rw[z,s]at e;cases e];exact lu e I
     refine cu.sI (e1.free s) (e1.trans sm) aZ ?_;rw[dS];refine uC nd.rB ((ax.gj E J (k':=[]) (n':=0)).imp (λ_ _ h=>a_.same sm h) λ_ _ _ _ h=>nd.same sm h) ((ay.gj E J (k':=[]) (n':=0)).imp (λ_ _ h=>a_.same sm h) λ_ _ _ _ h=>nd.same sm h) u λq m=>?_;have M:q.1≠l:=λz=>LF (by rw[<- z];exact aaq m);exact a_.of (by rw[bC M];exact yG hn q m)
 exact⟨this,cO this λ_=>rfl⟩
noncomputable def i_(n:Int):aa:=(List.range n.toNat).map λ(k:Nat)=>(k:Int)
def P6(xs:af):O D:=match one xs with
 |some x=>match x with
  |.int n=>if n<=cE /\ -cE<=n then ok (.lst .ow ((i_ n).map D.int))else none
  |_=>none
 |none=>none
set_option tactic.hygienic true in
theorem K4{xs:af}{d:D}(h:P6 xs=ok d):∃n:Int,xs=[.int n]/\n<=cE /\ -cE<=n/\d=.lst .ow ((i_ n).map D.int):=by
 unfold P6 at h;cases hw:one xs with
 |none=>rw[hw]at h;exact nk h
 |some x =>
  obtain rfl:=ck hw;rw[hw]at h;cases x<;>first|exact nk h | (cases h;done)|skip
  rename_i n;obtain⟨⟨c,b⟩,a⟩:=p9 h;exact⟨n,rfl,c,b,a.symm⟩
def zg(sc:Scope)(bl:ak)(e:Expr):Option (aq):=match fG e with
 |some z=>match one z.2 with
  |some i=>if z.1=("list" : Str)/\ja sc z.1=true/\z.1∈bl then eO ("range" : Str) sc bl i else none
  |none=>none
 |none=>none
theorem D9{sc:Scope}{bl:ak}{e:Expr}(h:zg sc bl e=some args):∃p pos i,e=.Call (.Name ("list" : Str) p) [i] [] pos/\ja sc ("list" : Str)=true/\("list" : Str)∈bl/\eO ("range" : Str) sc bl i=some args:=by
 unfold zg at h;cases d:fG e with
 |none=>rw[d]at h;exact nk h
 |some z =>
  obtain⟨x,as⟩:=z;rw[d]at h;obtain⟨p,pos,rfl⟩:=cT d;have b:(match one as with|some i=>if x=("list" : Str)/\ja sc x=true/\x∈bl then eO ("range" : Str) sc bl i else none|none=>none)=some args:=h;clear h;cases hw:one as with
  |none=>rw[hw]at b;exact nk b
  |some a =>
   rw[hw]at b;have c:(if x=("list" : Str)/\ja sc x=true/\x∈bl then eO ("range" : Str) sc bl a else none)=some args:=b;clear b;obtain rfl:=ck hw;by_cases f:x=("list" : Str)/\ja sc x=true/\x∈bl
   ·rw[if_pos f]at c;obtain⟨rfl,g,b⟩:=f;exact⟨_,_,_,rfl,g,b,c⟩
   ·rw[if_neg f]at c;cases c
def tLR(ta:TA):TE:=λσ H Q=>ta σ H λvs H1=>∃n:Int,vs=[.int n]/\n<=cE /\ -cE<=n/\∀l,H1 l=none->Q (.ref l) (upd H1 l (.lst ((i_ n).map V.int)))
theorem oD:∀{ns:aa} {a:au},a.length=ns.length->(∀(i:Nat) (u:Value),a[i]?=some u->∃t,u=.int (ns.getD i 0) t)->Vals (ns.map V.int) a
 |[],[],_,_=>.nil
 |[],_::_,h,_=>by simp at h
 |_::_,[],h,_=>by simp at h
 |n::ns,u::a,h,hu=>.cons (hu 0 u rfl) (oD (by simpa using h) λi v b=>hu (i+1) v b)
theorem zO{p:Pos}(L:X.calm=true)(Y:Gl X "list")(W:X.mg "list" = none)(J:Gl X "range")(z:X.mg "range" = none)(M:PA X [e1] ta)(hs:starEach [e1] X.env=[(false,eval e1 X.env)]):
  PE X (.Call (.Name "list" p') [.Call (.Name "range" p) [e1] [] pos] [] pos') (tLR ta):=by
 intro pins s σ H Q I h;refine aaQ (eE I Y W boot_list ?_);refine aau ?_;show wpAny _ _ (spliced ((false,eval (.Call (.Name "range" p) [e1] [] pos) X.env)::backTo pos' (starEach [] X.env))) _ _ s;refine abm ?_;refine Call_ (eE I J z boot_range (aau (dt (M pos pins s σ H _ I h) λZ a U=>?_) hs rfl));obtain⟨vs,H1,f,r1,q1⟩:=U;obtain⟨n,e,n1,q,y⟩:=q1;subst e;have v:n<=1000000:=n1;have m:-1000000<=n:=q;cases r1 with
 |cons r l =>
  cases l;obtain⟨t,rfl⟩:=r;refine call_range_1 (abu ?_);have e2:Builtin.Range.rangeSize 0 n 1=((n.toNat:Nat):Int):=by rw[rangeSize_one];split<;>left
  refine call_list_range (f.ok.hd L) (IsRange.new ..) (small_one (by left) (by left) (by left) (by left)) e2 (by left) λh' k d c' B O g=>?_;have keep:∀b o,a.heap.get? b=some o->h'.get? b=some o:=λb o e=>B b o (aag _ e);have c:d.size=n.toNat:=g.1;refine⟨.ref _,upd H1 _ (.lst ((i_ n).map V.int)),f.laid (t':=k) keep ?_ ⟨?_,d.toList,c',?_,?_⟩,rfl,y _ (f.dE.fresh ?_)⟩
  ·show a.heap.objs.size<=(a.heap.push _).objs.size;simp[Heap.push]
  ·rw[sizeLine_eq];simp[i_];left
  ·refine oD (by simp[i_,c]) λi u x=>?_;have j:d[i]?=some u:=by simpa using x
   have E:i<n.toNat:=by rw[<- c];exact(Array.getElem?_eq_some_iff.mp j).1
   obtain⟨t,rfl⟩:=g.2 i u j;refine⟨t,?_⟩;have:(i_ n).getD i 0=(i:Int):=by unfold i_;simp[List.getD,E]
   rw[this];congr 1;left
  ·rw[Array.toArray_toList];exact O
  ·show a.heap.objs.size<=(a.heap.push _).objs.size;simp[Heap.push]
theorem P5{n:Nat}(j:Φ n=P6){sc:Scope}{bl:ak}{k:Nat}(L:PX X sc bl k){e:Expr}(he:zg sc bl e=some args)(hs:m7 X F Φ cs args):PE X e (tD X F Φ (.cm n cs))/\PT X e (gy X F Φ (.cm n cs)):=by
 obtain⟨p,pos,i,rfl,M,J,B⟩:=D9 he;obtain⟨p',pos',a,rfl,rfl,I,E⟩:=jW B;cases cs with
 |nil=>exact hs.elim
 |cons c cs=>cases cs with
  |cons _ _=>exact hs.2.2.2.elim
  |nil =>
   have u:PA X [a] (tU X F Φ [c]):=PA.imp (cH hs.1 (PA.imp ej λ_ _ _ h=>jL h) (hs.2.1 _)) λ_ _ _ h=>fW h;have this:PE X (.Call (.Name ("list" : Str) p) [.Call (.Name ("range" : Str) p') [a] [] pos'] [] pos) (tD X F Φ (.cm n [c])):=by
    refine PE.imp (zO L.calm (L.gl M) (L.bl _ J) (L.gl I) (L.bl _ E) u (hs.2.1 _)) λσ H Q q=>?_;obtain⟨R,τ,ρ,d,U,g,q⟩:=q;obtain⟨xs,O,g⟩:=aD g;rw[j]at g;obtain⟨m,rfl,y,x,rfl⟩:=K4 g;refine⟨R,τ,ρ,_,U,O,λvs H1 e1 r1=>?_⟩;obtain⟨τt,V,t⟩:=r1;obtain⟨v,rfl,s⟩:=t.one;cases s;refine⟨m,rfl,y,x,λl r=>q _ _ ?_ ?_⟩
    ·intro b o e;have f:=e1 b o e;rw[bC λz=>by rw[z,r]at f;cases f];exact f
    ·refine cu.sI (e1.free r) (λb o e=>?_) aZ (ib _);have f:=e1 b o e;rw[bC λz=>by rw[z,r]at f;cases f];exact f
   exact⟨this,cO this λ_=>rfl⟩
theorem aE.DT{T:mZ}{N:jf}{k:bB}:∀(j:Nat) {n:Nat} {vs:ag} {ds:af},aE T N k n vs ds->aE T N k (n+j) (vs.drop j) (ds.drop j)
 |0,_,_,_,h=>h
 |j+1,_,_,_,.nil=>.nil
 |j+1,n,_,_,.cons h t=>by
  rw[show n+(j+1)=n+1+j by left];exact aE.DT j t
theorem aE.Bn{T:mZ}{N:jf}{k:bB}:∀(j:Nat) {n:Nat} {vs:ag} {ds:af},aE T N k n vs ds->aE T N k n (vs.take j) (ds.take j)
 |0,_,_,_,_=>by rw[List.take_zero,List.take_zero];exact .nil
 |j+1,_,_,_,.nil=>.nil
 |j+1,n,_,_,.cons h t=>.cons h (aE.Bn j t)
noncomputable def qu{a:Type}(b:Bool)(k:Nat)(xs:List a):List a:=if b then xs.drop k else xs.take k
def Pc(K:av)(b:Bool):V->Option Int->Option Int->Hp->VK->Prop:=λx c d H Q=>∃(a:Addr) (xs:ag) (k:Nat),x=.ref a/\dY K H a xs/\c=(if b then some (k:Int)else none)/\d=(if b then none else some (k:Int))/\k<=xs.length/\∀p,H p=none->Q (.ref p) (upd H p (.lst (qu b k xs)))
theorem r9(b:Bool):XF X (Pc X.K b):=by
 intro pins s σ H x v y u B J z Q I g p l j h;obtain⟨a,xs,k,rfl,n,rfl,rfl,E,q⟩:=h;cases g;obtain⟨c,r,t,d⟩:=I.list n;have f:=eV t;have hlen:c.length=xs.length:=r.length.symm;refine⟨"list",_,slot_list_getitem.lookup,f.typeIs,wpAny_getItem_list_slice f p l j .none (by simp) ?_ (by rw[List.size_toArray,hlen];exact d)⟩;have e:slicePick c.toArray (if b then some (k:Int)else none) (if b then none else some (k:Int)) none=(qu b k c).toArray:=by
  cases b with
  |true=>exact slicePick_from c.toArray k (by simp;left)
  |false=>exact slicePick_upto c.toArray k (by simp;left)
 have i:Vals (qu b k xs) (qu b k c):=by
  cases b with
  |true=>exact r.drop k
  |false=>exact r.take k
 have m:(qu b k xs).length<=xs.length:=by
  cases b with
  |true=>show(xs.drop k).length<=_;rw[List.length_drop];left
  |false=>show(xs.take k).length<=_;rw[List.length_take];left
 rw[e];exact⟨.ref s.heap.objs.size,_,I.K6 (t':=s.toks) i (aar m d),rfl,q _ I.fresh⟩
def cutD(b:Bool)(xs:af):O D:=match two xs with
 |some z=>match z.1 with
  |.lst _ ds=>match z.2 with
   |.int k=>if 0<=k/\k<=ds.length then ok (.lst .ow (aA bt (qu b k.toNat ds)))else none
   |_=>none
  |_=>none
 |none=>none
set_option tactic.hygienic true in
theorem Hj{b:Bool}{x y d:D}(h:cutD b [x,y]=ok d):∃(f:Fl) (ds:af) (k:Nat),x=.lst f ds/\y=.int k/\k<=ds.length/\d=.lst .ow (aA bt (qu b k ds)):=by
 cases x<;>first|exact nk h | (cases h;done) | (cases y<;>first|exact nk h | (cases h;done)|skip)
 obtain⟨⟨c,e⟩,a⟩:=p9 h;rename_i f ds k;exact⟨f,ds,k.toNat,rfl,by rw[Int.toNat_of_nonneg c],by left,a.symm⟩
noncomputable def Ot(b:Bool)(e:Expr):Option Expr:=match e with
 |.Slice a c st _=>match st with
  |none=>match b with
   |true=>match c with
    |none=>a
    |some _=>none
   |false=>match a with
    |none=>c
    |some _=>none
  |some _=>none
 |_=>none
set_option tactic.hygienic true in
theorem EV{b:Bool}{e k:Expr}(h:Ot b e=some k):∃p,e=.Slice (if b then some k else none) (if b then none else some k) none p:=by
 cases e<;>first|exact nk h | (cases h;done)|skip
 rename_i a c st p;cases st with
 |some _=>cases h
 |none=>cases b with
  |true=>cases c with
   |some _=>cases h
   |none=>cases h;exact⟨p,rfl⟩
  |false=>cases a with
   |some _=>cases h
   |none=>cases h;exact⟨p,rfl⟩
def xw(b:Bool)(_:Scope)(_:ak)(e:Expr):Option (aq):=(t_ e).bind λz=>(Ot b z.2).bind λk=>some [z.1,k]
theorem Aw{b:Bool}{sc:Scope}{bl:ak}{e:Expr}(h:xw b sc bl e=some args):∃a k p pos,e=.Subscript a (.Slice (if b then some k else none) (if b then none else some k) none p) pos/\args=[a,k]:=by
 obtain⟨⟨a,s⟩,c,h⟩:=bT h;obtain⟨k,hw,h⟩:=bT h;cases h;obtain⟨pos,rfl⟩:=jK c;obtain⟨p,rfl⟩:=EV hw;exact⟨a,k,p,pos,rfl,rfl⟩
theorem MS{b:Bool}{n:Nat}(M:Φ n=cutD b){sc:Scope}{bl:ak}{k:Nat}(L:PX X sc bl k){e:Expr}(he:xw b sc bl e=some args)(hs:m7 X F Φ cs args):PE X e (tD X F Φ (.cm n cs))/\PT X e (gy X F Φ (.cm n cs)):=by
 obtain⟨a,m,p,pos,rfl,rfl⟩:=Aw he;cases cs with
 |nil=>exact hs.elim
 |cons c cs=>cases cs with
  |nil=>exact hs.2.2.2.elim
  |cons c' cs=>cases cs with
   |cons _ _=>exact hs.2.2.2.2.2.2.elim
   |nil =>
    obtain⟨h1,_,_,Z,_,_,_⟩:=hs;have this:PE X (.Subscript a (.Slice (if b then some m else none) (if b then none else some m) none p) pos) (tD X F Φ (.cm n [c,c'])):=by
     have go:∀{z B:TO},PO X (if b then some m else none) z->PO X (if b then none else some m) B->(∀(H1:Hp) (R:aj) (τ:Addr->Option bB) (ρ:br) (k:Nat) (σ:St) (Q:Option Int->Option Int->Hp->Prop),SI X F R τ ρ σ H1->bG Φ c' ρ=ok (.int k)->(∀H2,aL H1 H2->Q (if b then some (k:Int)else none) (if b then none else some (k:Int)) H2)->z σ H1 λl H2=>B σ H2 λu Y=>Q l u Y)->PE X (.Subscript a (.Slice (if b then some m else none) (if b then none else some m) none p) pos) (tD X F Φ (.cm n [c,c'])):=by
      intro z B pl pu hh;refine PE.imp (uM (r9 b) h1 pl pu) λσ H Q O=>?_;obtain⟨R,τ,ρ,d,g,t,O⟩:=O;obtain⟨xs,s,t⟩:=aD t;obtain⟨x,ex,s⟩:=aD s;obtain⟨ys,J,s⟩:=aD s;cases s;obtain⟨y,ey,J⟩:=aD J;cases J;rw[M]at t;obtain⟨f,ds,j,rfl,rfl,hj,rfl⟩:=Hj t;refine tD.intro g ex λv H1 e1 r1=>hh H1 R τ ρ j σ (λl u Y=>Pc X.K b v l u Y Q) (g.go e1) ey λH2 e2=>?_;have r2:=(r1.go e2).mono (fv':=iq (.cm n [c,c'])) λi hi=>aax _ hi;obtain⟨τt,fr,rp⟩:=r2;obtain⟨q,xs,rfl,hn,E⟩:=rp.rR;have W:=e1.trans e2;refine⟨q,xs,j,rfl,hn.sq,rfl,rfl,by rw[E.length];exact hj,λl r=>O _ _ (W.trans (aL.upd r)) (cu.sI (W.free r) (W.trans (aL.upd r)) aZ ?_)⟩;have I:∃n',aE (a_ X.K H2) (nd X.K R (kL (gP X F) τ (iq (.cm n [c,c']))) τt H2) [] n' (qu b j xs) (qu b j ds):=by
       cases b with
       |true=>exact⟨_,E.DT j⟩
       |false=>exact⟨_,E.Bn j⟩
      obtain⟨n',I⟩:=I;exact(I.gj g fr).imp (λ_ _ h=>a_.same (aL.upd r) h) λ_ _ _ _ h=>nd.same (aL.upd r) h
     cases b with
     |true =>
      refine go (nI Z) ym λH1 R τ ρ k σ Q g V U=>tD.intro g V λv H2 e2 r2=>?_;cases r2.isInt;exact⟨k,rfl,U H2 e2⟩
     |false =>
      refine go ym (nI Z) λH1 R τ ρ k σ Q g V U=>tD.intro g V λv H2 e2 r2=>?_;cases r2.isInt;exact⟨k,rfl,U H2 e2⟩
    exact⟨this,cO this λ_=>by cases b<;>rfl⟩
section
open PySem.SeqAt
open PySem.AutoSeq1 (wpAny_loadPart')
open PySem.MeetsSeq PySem.MeetsSeq2 PySem.MeetsSeq3
theorem BR(A:aG)(s:Shared)(a:Int)(t:Tok)(c:Int)(u:Tok)(prog:aI)(w:World)(E:aB)(Q:aB)(h:Q (.bool (decide (a ≥ c))) s):wpAny (model prog w) A (richCompare .GtE (.int a t) (.int c u)) Q E s :=
 (PyProof.Rows.ge_int h:wpAny (model prog w) A (compareOp .GtE (.int a t) (.int c u)) Q E s)
theorem Gg{vs ws:au}{b:aa}{m n:Nat}(f:IntsAre vs ns)(e:IntsAre ws b)(hz:vs.zip ws=[])(d:ns.length+n=b.length+m):(!HT.lexLt ns b)=decide (m ≥ n):=by
 cases f with
 |nil=>cases e with
  |nil=>simp only[List.length_nil]at d;exact(abg (by left)).symm
  |cons c u h=>simp only[List.length_nil,List.length_cons]at d;exact(aa5 (by left)).symm
 |cons a t h=>cases e with
  |nil=>simp only[List.length_nil,List.length_cons]at d;exact(abg (by left)).symm
  |cons c u h=>rw[List.zip_cons_cons]at hz;cases hz
theorem qb(l b:Addr)(items m:aN)(n Z:Nat)(dd V:Option Addr)(Y W:Array (Option Value))(ns z:aa)(O:IntsAre items.toList ns)(M:IntsAre m.toList z):
  Meets (Builtin.«tuple.__ge__» ⟨[.ref l,.ref b],[]⟩) (λ_ R s=>s.heap.get? l=some { cls:=.type "tuple",dict:=dd,data:=.seq items n,slots:=Y }/\s.heap.get? b=some { cls:=.type "tuple",dict:=V,data:=.seq m Z,slots:=W }/\R (.ok (.ret (.bool (!HT.lexLt ns z)))) s) :=
 .of_wp λprog w A R s h=>by
  obtain⟨B,g,d,r,v⟩:=s;obtain⟨hl,hb,h⟩:=h;have f2:=AutoSeq1.sub_tuple_tuple;have z1:items.size=ns.length:=by rw[<- O.length];simp
  have z2:m.size=z.length:=by rw[<- M.length];simp
  wp_walk using wpAny_loadPart' hl,wpAny_loadPart' hb,wpAny_forIn_list _ (λrest b I=>b.1=none/\I=⟨B,g,d,r,v⟩/\∃(vs ws:au) (i p:aa),rest=vs.zip ws/\IntsAre vs i/\IntsAre ws p/\i.length+m.size=p.length+items.size/\R (.ok (.ret (.bool (!HT.lexLt i p)))) ⟨B,g,d,r,v⟩) _
  case turn =>
   rintro ⟨y,x⟩ rest b I ⟨E,rfl,vs,ws,i,p,f,J,L,hlen,hR⟩;cases J with
   |nil=>rw[List.zip_nil_left]at f;cases f
   |cons a t k=>cases L with
    |nil=>rw[List.zip_nil_right]at f;cases f
    |cons c u j =>
     rw[List.zip_cons_cons]at f;injection f with VH C2
     injection VH with hy hx
     subst hy hx;rw[HT.dM]at hR;simp only[List.length_cons]at hlen;obtain⟨e,he,U⟩:=HT.vt A.in1 ⟨B,g,d,r,v⟩ a t c u;refine aaa (he prog w _ _ ?_);cases e with
     |true =>
      rw[if_pos (U.mp rfl)]at hR
      wp_walk
      exact⟨rfl,rfl,_,_,_,_,C2,k,j,by left,hR⟩
     |false =>
      have C5:¬ a=c:=λq=>absurd (U.mpr q) aaf;rw[if_neg C5,show(!decide (a<c))=decide (a ≥ c) by by_cases q:a<c<;>simp[q]<;>left]at hR;have VU:=BR A.in1 ⟨B,g,d,r,v⟩ a t c u prog w
      wp_walk using VU
      exact⟨_,rfl,by simpa using hR⟩
  case fin =>
   rintro ⟨b1,b2⟩ I ⟨E,rfl,vs,ws,i,p,f,J,L,hlen,hR⟩;simp only at E;subst E;rw[Gg J L f.symm hlen]at hR
   wp_walk
   exact⟨_,rfl,by simpa [Builtin.Tuple.tupleCompareSizes]using hR⟩
  case h=>exact⟨rfl,rfl,items.toList,m.toList,ns,z,rfl,O,M,by left,h⟩
end
def Pb(K:av):R2:=λx y H Q=>∃a b ns c,x=.ref a/\y=.ref b/\a_ K H a (ns.map V.int)/\a_ K H b (c.map V.int)/\Q (.bl (!HT.lexLt ns c)) H
theorem Ce(B:X.A.units<cLine):kO X (compareOp .GtE) (Pb X.K):=by
 intro pins s σ H x y v u Q I r p h;obtain⟨a,b,ns,e,rfl,rfl,J,E,q⟩:=h;cases r;cases p;obtain⟨O,r1,⟨⟨M,L,data,m⟩,g,j,n,i⟩,_⟩:=I.tuple J;obtain⟨t,r2,⟨⟨U,k,data2,l⟩,f,d,z,c⟩,_⟩:=I.tuple E;simp only at j i d c;subst j i d c;exact richCompare_meets_room (op:=.GtE) ⟨_,g,rfl⟩ ⟨_,f,rfl⟩ PySem.F.slot_tuple_ge PySem.F.entry_tuple_ge (PySem.F.args_tuple_ge_2 _ _) (qb a b O.toArray t.toArray n z L k m l ns e (intsAre_of r1) (intsAre_of r2))
  ⟨g,f,show Value.bool (!HT.lexLt ns e)≠Value.notImplemented/\EP X pins σ Q (.bool (!HT.lexLt ns e)) s from⟨(λx=>nomatch x),⟨.bl _,H,I,rfl,q⟩⟩⟩ B
def NU(xs:af):O D:=match two xs with
 |some z=>match z.1 with
  |.tup a=>match z.2 with
   |.tup b=>match intsOf a with
    |some ns=>match intsOf b with
     |some c=>ok (.bl (!HT.lexLt ns c))
     |none=>none
    |none=>none
   |_=>none
  |_=>none
 |none=>none
set_option tactic.hygienic true in
theorem L4{x y d:D}(h:NU [x,y]=ok d):∃ns c:aa,x=.tup (ns.map D.int)/\y=.tup (c.map D.int)/\d=.bl (!HT.lexLt ns c):=by
 cases x<;>first|exact nk h | (cases h;done) | (cases y<;>first|exact nk h | (cases h;done)|skip)
 rename_i a b;have h:(match intsOf a with|some ns=>(match intsOf b with|some c=>ok (D.bl (!HT.lexLt ns c))|none=>none)|none=>none)=ok d:=h;cases e:intsOf a with
 |none=>rw[e]at h;exact nk h
 |some ns=>cases f:intsOf b with
  |none=>rw[e,f]at h;cases h
  |some c =>
   rw[e,f]at h;cases h;exact⟨ns,c,by rw[dT e],by rw[dT f],rfl⟩
def Ea(_:Scope)(_:ak)(e:Expr):Option (aq):=(JB e).bind λz=>(one z.2.2).bind λr=>if z.2.1=[.GtE]then some [z.1,r]else none
theorem D_{sc:Scope}{bl:ak}{e:Expr}(h:Ea sc bl e=some args):∃l r p,e=.Compare l [.GtE] [r] p/\args=[l,r]:=by
 obtain⟨⟨l,d,c⟩,a,h⟩:=bT h;obtain⟨r,hw,h⟩:=bT h;obtain⟨b,h⟩:=gT h;cases h;obtain rfl:=b;obtain⟨p,rfl⟩:=xG a;obtain rfl:=ck hw;exact⟨l,r,p,rfl,rfl⟩
theorem Rg{n:Nat}(m:Φ n=NU){sc:Scope}{bl:ak}{k:Nat}(L:PX X sc bl k){e:Expr}(he:Ea sc bl e=some args)(hs:m7 X F Φ cs args):PE X e (tD X F Φ (.cm n cs))/\PT X e (gy X F Φ (.cm n cs)):=by
 obtain⟨l,r,p,rfl,rfl⟩:=D_ he;have q:X.A.units<cLine:=by have:=L.room.units;left
 cases cs with
 |nil=>exact hs.elim
 |cons c cs=>cases cs with
  |nil=>exact hs.2.2.2.elim
  |cons c' cs=>cases cs with
   |cons _ _=>exact hs.2.2.2.2.2.2.elim
   |nil =>
    obtain⟨t,_,_,s,_,_,_⟩:=hs;have h:∀{σ:St} {H:Hp} {R:aj} {τ:Addr->Option bB} {ρ:br} {d:D} {Q:VK},SI X F R τ ρ σ H->bG Φ (.cm n [c,c']) ρ=ok d->(∀b H2,d=.bl b->aL H H2->Q (.bl b) H2)->H9 (Pb X.K) (tD X F Φ c) (tD X F Φ c') σ H Q:=by
     intro σ H R τ ρ d Q g f a;obtain⟨xs,i,f⟩:=aD f;obtain⟨x,O,i⟩:=aD i;obtain⟨ys,j,i⟩:=aD i;cases i;obtain⟨y,M,j⟩:=aD j;cases j;rw[m]at f;obtain⟨ns,J,rfl,rfl,rfl⟩:=L4 f;refine tD.intro g O λv H1 e1 r1=>tD.intro (g.go e1) M λu H2 e2 r2=>?_;obtain⟨_,_,I⟩:=r1.go e2;obtain⟨_,_,E⟩:=r2;cases I with
     |tup t1 B=>cases E with
      |tup t2 z =>
       cases B.ofInts;cases z.ofInts;exact⟨_,_,ns,J,rfl,rfl,t1,t2,a _ H2 rfl (e1.trans e2)⟩
    refine⟨PE.imp (yr (Ce q) t s (Cj _)) λσ H Q a=>?_,PT.imp (yj (Ce q) t s (Cj _)) λσ H Q a=>?_⟩
    ·obtain⟨R,τ,ρ,d,g,f,a⟩:=a;exact h g f λb H2 e es=>a _ H2 es (by subst e;exact .bl)
    ·obtain⟨R,τ,ρ,b,g,f,a⟩:=a;obtain⟨d,V,U⟩:=aD f;refine h g V λW H2 e es=>?_;subst e;cases U;exact⟨_,rfl,a H2 es⟩
end DI
end
section
namespace DI
open PySem PySem.Spec PyProof.Rows L2 PySem.W
noncomputable def de{b:Type}(lt:Nat->Nat->Bool):KasT b->b
 |.ret a=>a
 |.ask i j k=>de lt (k (lt i j))
theorem ir{b c:Type}(lt:Nat->Nat->Bool)(f:b->KasT c):∀t:KasT b,de lt (t.bind f)=de lt (f (de lt t))
 |.ret a=>rfl
 |.ask i j k=>ir lt f (k (lt i j))
section
def ki{a:Type}(n:Nat)(lt:Nat->Nat->Bool):KasT a->Prop
 |.ret _=>True
 |.ask i j k=>i<n/\j<n/\ki n lt (k (lt i j))
end
theorem zq{c:Type}{b:Nat->Nat->(Bool->Shared->Prop)->Shared->Prop}{lt:Nat->Nat->Bool}{s:Shared}{n:Nat}(d:∀i j C,i<n->j<n->C (lt i j) s->b i j C s){Q:c->Shared->Prop}:
  ∀(t:KasT c),ki n lt t->Q (de lt t) s->t.kasWp b Q s
 |.ret a,_,h=>h
 |.ask i j k,⟨h1,h2,h3⟩,h=>d i j _ h1 h2 (zq d (k (lt i j)) h3 h)
theorem fU{a b:Type}{lt:Nat->Nat->Bool}{n:Nat}{f:a->KasT b}:∀{t:KasT a},ki n lt t->ki n lt (f (de lt t))->ki n lt (t.bind f)
 |.ret _,_,h=>h
 |.ask i j k,⟨h1,h2,h3⟩,h=>⟨h1,h2,fU h3 h⟩
structure Ord(lt:Nat->Nat->Bool)(n:Nat):Prop where
 tr:∀a b c,a<n->b<n->c<n->lt a b=true->lt b c=true->lt a c=true
 as:∀a b,a<n->b<n->lt a b=true->lt b a=false
 Sk:∀a b,a<n->b<n->a≠b->lt a b=true\/lt b a=true
structure Arr(p:Array Nat)(n:Nat):Prop where
 sz:p.size=n
 pm:p.toList.Perm (List.range n)
section
variable {lt:Nat->Nat->Bool}{n:Nat}{p:Array Nat}
theorem Arr.bd(h:Arr p n){i:Nat}(c:i<n):p.getD i 0<n:=by
 have a:i<p.size:=by rw[h.sz];exact c
 have:p.getD i 0=p[i]:=by simp[Array.getD,a]
 rw[this];have b:p[i]∈p.toList:=Array.getElem_mem_toList a;exact List.mem_range.mp (h.pm.mem_iff.mp b)
theorem Arr.inj(h:Arr p n){i j:Nat}(b:i<n)(a:j<n)(e:p.getD i 0=p.getD j 0):i=j:=by
 have f:i<p.toList.length:=by rw[Array.length_toList,h.sz];exact b
 have g:j<p.toList.length:=by rw[Array.length_toList,h.sz];exact a
 have nd:p.toList.Nodup:=h.pm.nodup_iff.mpr List.nodup_range;have d:p.getD i 0=p.toList[i]:=by simp[Array.getD,show i<p.size by rw[h.sz];exact b]
 have c:p.getD j 0=p.toList[j]:=by simp[Array.getD,show j<p.size by rw[h.sz];exact a]
 rw[d,c]at e;exact(acv nd).mp e
def Up(lt:Nat->Nat->Bool)(p:Array Nat)(k:Nat):Prop:=∀i j,i<j->j<k->lt (p.getD i 0) (p.getD j 0)=true
def Dn(lt:Nat->Nat->Bool)(p:Array Nat)(k:Nat):Prop:=∀i j,i<j->j<k->lt (p.getD j 0) (p.getD i 0)=true
theorem Up.snoc(O:Ord lt n)(h:Arr p n){k:Nat}(c:k<n)(g:1<=k)(u:Up lt p k)(a:lt (p.getD (k - 1) 0) (p.getD k 0)=true):Up lt p (k+1):=λi j b f=>by
 by_cases e:j=k
 ·subst e;by_cases d:i=j - 1
  ·subst d;exact a
  ·exact O.tr _ _ _ (h.bd (by left)) (h.bd (by left)) (h.bd c) (u i (j - 1) (by left) (by left)) a
 ·exact u i j b (by left)
theorem Dn.snoc(O:Ord lt n)(h:Arr p n){k:Nat}(c:k<n)(g:1<=k)(u:Dn lt p k)(a:lt (p.getD k 0) (p.getD (k - 1) 0)=true):Dn lt p (k+1):=λi j b f=>by
 by_cases e:j=k
 ·subst e;by_cases d:i=j - 1
  ·subst d;exact a
  ·exact O.tr _ _ _ (h.bd c) (h.bd (by left)) (h.bd (by left)) a (u i (j - 1) (by left) (by left))
 ·exact u i j b (by left)
theorem tP(O:Ord lt n)(h:Arr p n):∀(f k:Nat),1<=k->k+f<=n->Up lt p k->ki n lt (kas_asc p f k)/\k<=de lt (kas_asc p f k)/\de lt (kas_asc p f k)<=k+f/\Up lt p (de lt (kas_asc p f k))
 |0,k,_,_,u=>⟨trivial,aal _,aal _,u⟩
 |f+1,k,h1,hf,u=>by
  have a1:p.getD k 0<n:=h.bd (by left);have a2:p.getD (k - 1) 0<n:=h.bd (by left);cases c:lt (p.getD k 0) (p.getD (k - 1) 0)with
  |true =>
   have e:de lt (kas_asc p (f+1) k)=k:=by
    show de lt (if lt (p.getD k 0) (p.getD (k - 1) 0)=true then .ret k else kas_asc p f (k+1))=k;rw[c];rfl
   refine⟨⟨a1,a2,?_⟩,by rw[e];exact aal _,by rw[e];left,by rw[e];exact u⟩;show ki n lt (if lt (p.getD k 0) (p.getD (k - 1) 0)=true then .ret k else kas_asc p f (k+1));rw[c];trivial
  |false =>
   have e:de lt (kas_asc p (f+1) k)=de lt (kas_asc p f (k+1)):=by
    show de lt (if lt (p.getD k 0) (p.getD (k - 1) 0)=true then .ret k else kas_asc p f (k+1))=_;rw[c];rfl
   have a:lt (p.getD (k - 1) 0) (p.getD k 0)=true:=by
    rcases O.Sk _ _ a2 a1 (λz=>absurd (h.inj (by left) (by left) z) (by left))with z|z
    ·exact z
    ·rw[c]at z;cases z
   obtain⟨d,i,g,b⟩:=tP O h f (k+1) (by left) (by left) (u.snoc O h (by left) h1 a);refine⟨⟨a1,a2,?_⟩,by rw[e];left,by rw[e];left,by rw[e];exact b⟩;show ki n lt (if lt (p.getD k 0) (p.getD (k - 1) 0)=true then .ret k else kas_asc p f (k+1));rw[c];exact d
theorem y7(O:Ord lt n)(h:Arr p n):∀(f k:Nat),1<=k->k+f<=n->Dn lt p k->ki n lt (kas_desc f p k 0)/\∃m,de lt (kas_desc f p k 0)=(p,m,0)/\k<=m/\m<=k+f/\Dn lt p m
 |0,k,_,_,u=>⟨trivial,k,rfl,aal _,aal _,u⟩
 |f+1,k,h1,hf,u=>by
  have a1:p.getD k 0<n:=h.bd (by left);have a2:p.getD (k - 1) 0<n:=h.bd (by left);cases c:lt (p.getD k 0) (p.getD (k - 1) 0)with
  |true =>
   obtain⟨i,m,g,l,j,b⟩:=y7 O h f (k+1) (by left) (by left) (u.snoc O h (by left) h1 c);have e:kas_desc (f+1) p k 0=.ask (p.getD k 0) (p.getD (k - 1) 0) λc=>if c=true then(if (0:Nat)>0 then kas_desc f (kas_rev p (k - (0+1)) k) (k+1) 0 else kas_desc f p (k+1) 0)else .ask (p.getD (k - 1) 0) (p.getD k 0) λd=>if d=true then .ret (p,k,0)else kas_desc f p (k+1) (0+1):=rfl
   rw[e];refine⟨⟨a1,a2,?_⟩,m,?_,by left,by left,b⟩
   ·rw[c];exact i
   ·show de lt (if lt (p.getD k 0) (p.getD (k - 1) 0)=true then _ else _)=_;rw[c];exact g
  |false =>
   have a:lt (p.getD (k - 1) 0) (p.getD k 0)=true:=by
    rcases O.Sk _ _ a2 a1 (λz=>absurd (h.inj (by left) (by left) z) (by left))with z|z
    ·exact z
    ·rw[c]at z;cases z
   have e:kas_desc (f+1) p k 0=.ask (p.getD k 0) (p.getD (k - 1) 0) λc=>if c=true then(if (0:Nat)>0 then kas_desc f (kas_rev p (k - (0+1)) k) (k+1) 0 else kas_desc f p (k+1) 0)else .ask (p.getD (k - 1) 0) (p.getD k 0) λd=>if d=true then .ret (p,k,0)else kas_desc f p (k+1) (0+1):=rfl
   rw[e];refine⟨⟨a1,a2,?_⟩,k,?_,aal _,by left,u⟩
   ·rw[c];exact⟨a2,a1,by rw[a];trivial⟩
   ·show de lt (if lt (p.getD k 0) (p.getD (k - 1) 0)=true then _ else _)=_;rw[c];show de lt (if lt (p.getD (k - 1) 0) (p.getD k 0)=true then _ else _)=_;rw[a];rfl
theorem nV{p q:Array Nat}{i j:Nat}(h:p[i]?=q[j]?):p.getD i 0=q.getD j 0:=by
 rw[Array.getD_eq_getD_getElem?,Array.getD_eq_getD_getElem?,h]
theorem Kc(h:Arr p n){m:Nat}(b:m<=n):Arr (kas_rev p 0 m) n/\(Dn lt p m->Up lt (kas_rev p 0 m) m):=by
 have a:(kas_rev p 0 m).size=p.size:=mirror_size _ _ _ _;refine⟨⟨by rw[a];exact h.sz,?_⟩,λu i j e d=>?_⟩
 ·have:=(mirror_perm p 0 m ((m - 0) / 2)).toList;exact this.trans h.pm
 ·have g:∀k,k<m->(kas_rev p 0 m).getD k 0=p.getD (m - 1 - k) 0:=λk c=>by
   refine nV ?_;rw[show kas_rev p 0 m=mirror p 0 m ((m - 0) / 2) from rfl,getElem?_mirror_all (by rw[h.sz];exact b),if_pos ⟨Nat.zero_le _,c⟩];congr 1;left
  rw[g i (by left),g j d];exact u (m - 1 - j) (m - 1 - i) (by left) (by left)
theorem Bo(O:Ord lt n)(h:Arr p n){m:Nat}(a:1<=m)(b:m<=n)(u:Dn lt p m):ki n lt (kas_tail3 m n p)/\∃r,de lt (kas_tail3 m n p)=r/\Arr r.2 n/\1<=r.1/\r.1<=n/\Up lt r.2 r.1:=by
 obtain⟨a1,a2⟩:=Kc (lt:=lt) h b;obtain⟨e,d,f,c⟩:=tP O a1 (n - m) m a (by left) (a2 u);unfold kas_tail3;refine⟨fU e trivial,_,rfl,?_⟩;rw[ir];exact⟨a1,aar a d,by show de lt _<=n;left,c⟩
theorem D1(O:Ord lt n)(h:Arr p n)(E:2<=n):ki n lt (kas_count n p)/\∃r,de lt (kas_count n p)=r/\Arr r.2 n/\1<=r.1/\r.1<=n/\Up lt r.2 r.1:=by
 obtain⟨D,u,H,q⟩:=tP O h (n - 1) 1 (aal _) (by left) (λi j _ _=>by left);generalize d:de lt (kas_asc p (n - 1) 1)=k at *;have g:∀t:KasT (Nat×Array Nat),t=(if (k==n)=true then .ret (k,p)else if k>1 then .ask (p.getD 0 0) (p.getD (k - 1) 0) λc=>if c=true then .ret (k,p)else kas_descPart k n (kas_rev p 0 k)else kas_descPart k n p) ->
   ki n lt t/\∃r,de lt t=r/\Arr r.2 n/\1<=r.1/\r.1<=n/\Up lt r.2 r.1:=by
  intro t a;by_cases e:k=n
  ·rw[if_pos (by simpa using e)]at a;subst a;exact⟨trivial,(k,p),rfl,h,u,by show k<=n;left,q⟩
  ·rw[if_neg (by simpa using e)]at a;by_cases s:k>1
   ·rw[if_pos s]at a;subst a;have b:lt (p.getD 0 0) (p.getD (k - 1) 0)=true:=q 0 (k - 1) (by left) (by left);refine⟨⟨h.bd (by left),h.bd (by left),by rw[b];trivial⟩,(k,p),?_,h,u,by left,q⟩;show de lt (if lt (p.getD 0 0) (p.getD (k - 1) 0)=true then _ else _)=_;rw[b];rfl
   ·rw[if_neg s]at a;have l:k=1:=by left
    subst l;subst a;have b:lt (p.getD 1 0) (p.getD 0 0)=true:=by
     have a1:p.getD 1 0<n:=h.bd (by left);have a0:p.getD 0 0<n:=h.bd (by left);cases c:lt (p.getD 1 0) (p.getD 0 0)with
     |true=>rfl
     |false =>
      exfalso;obtain⟨f,x⟩:∃f,n - 1=f+1:=⟨n - 2,by left⟩
      rw[x]at d;have y:de lt (kas_asc p (f+1) 1)=de lt (kas_asc p f 2):=by
       show de lt (if lt (p.getD 1 0) (p.getD (1 - 1) 0)=true then .ret 1 else kas_asc p f 2)=_;rw[show(1 - 1:Nat)=0 from rfl,c];rfl
      rw[y]at d;have u2:Up lt p 2:=λi j v w=>by
       have:i=0/\j=1:=by left
       obtain⟨rfl,rfl⟩:=this;rcases O.Sk _ _ a0 a1 (λz=>absurd (h.inj (by left) (by left) z) (by left))with z|z
       ·exact z
       ·rw[c]at z;cases z
      obtain⟨_,o,_,_⟩:=tP O h f 2 (by left) (by left) u2;left
    have A:Dn lt p 2:=λi j v w=>by
     have:i=0/\j=1:=by left
     obtain⟨rfl,rfl⟩:=this;exact b
    obtain⟨C,m,o,G,F,B⟩:=y7 O h (n - 2) 2 (by left) (by left) A;obtain⟨t1,r,t2,t3⟩:=Bo O h (m:=m) (by left) (by left) B;unfold kas_descPart;refine⟨fU C ?_,r,?_,t3⟩
    ·rw[show(1+1:Nat)=2 from rfl,show n - 2=n - 2 from rfl,o];exact t1
    ·rw[ir,show(1+1:Nat)=2 from rfl,o];exact t2
 have e:=g _ rfl;refine⟨?_,?_⟩
 ·unfold kas_count;exact fU D (by rw[d];exact e.1)
 ·unfold kas_count;rw[ir,d];exact e.2
theorem Arr.or(O:Ord lt n)(h:Arr p n){i j:Nat}(b:i<n)(a:j<n)(e:i≠j)(c:lt (p.getD i 0) (p.getD j 0)=false):lt (p.getD j 0) (p.getD i 0)=true:=by
 rcases O.Sk _ _ (h.bd b) (h.bd a) (λz=>e (h.inj b a z))with z|z
 ·rw[c]at z;cases z
 ·exact z
theorem oT(O:Ord lt n)(h:Arr p n){k:Nat}(d:k<n)(u:Up lt p k):∀(f l r:Nat),l<=r->r<=k->r - l<=f->(∀i,i<l->lt (p.getD i 0) (p.getD k 0)=true)->(∀i,r<=i->i<k->lt (p.getD k 0) (p.getD i 0)=true) ->
  ki n lt (kas_place p k f l r)/\∃m,de lt (kas_place p k f l r)=m/\m<=k/\(∀i,i<m->lt (p.getD i 0) (p.getD k 0)=true)/\∀i,m<=i->i<k->lt (p.getD k 0) (p.getD i 0)=true
 |0,l,r,hl,hr,hf,a,b=>by
  have:l=r:=by left
  subst this;exact⟨trivial,l,rfl,hr,a,b⟩
 |f+1,l,r,hl,hr,hf,a,b=>by
  have e:kas_place p k (f+1) l r=if l ≥ r then .ret l else .ask (p.getD k 0) (p.getD ((l+r) / 2) 0) λc=>if c=true then kas_place p k f l ((l+r) / 2)else kas_place p k f ((l+r) / 2+1) r:=rfl
  rw[e];by_cases w:l ≥ r
  ·rw[if_pos w];have:l=r:=by left
   subst this;exact⟨trivial,l,rfl,hr,a,b⟩
  ·rw[if_neg w];have x:l<=(l+r) / 2/\(l+r) / 2<r:=by left
   generalize (l+r) / 2=m at *;have j:p.getD k 0<n:=h.bd d;have g:p.getD m 0<n:=h.bd (by left);cases c:lt (p.getD k 0) (p.getD m 0)with
   |true =>
    obtain⟨t,o,s,q⟩:=oT O h d u f l m x.1 (by left) (by left) a λi A y=>by
     by_cases e:i=m
     ·subst e;exact c
     ·exact O.tr _ _ _ j g (h.bd (by left)) c (u m i (by left) y)
    refine⟨⟨j,g,by rw[c];exact t⟩,o,?_,q⟩;show de lt (if lt (p.getD k 0) (p.getD m 0)=true then _ else _)=_;rw[c];exact s
   |false =>
    have v:=h.or O d (by left) (by left) c;obtain⟨t,o,s,q⟩:=oT O h d u f (m+1) r (by left) hr (by left) (λi z=>by
     by_cases e:i=m
     ·subst e;exact v
     ·exact O.tr _ _ _ (h.bd (by left)) g j (u i m (by left) (by left)) v) b
    refine⟨⟨j,g,by rw[c];exact t⟩,o,?_,q⟩;show de lt (if lt (p.getD k 0) (p.getD m 0)=true then _ else _)=_;rw[c];exact s
theorem AD(h:Arr p n){k m:Nat}(v:k<n)(w:m<=k)(u:Up lt p k)(a:∀i,i<m->lt (p.getD i 0) (p.getD k 0)=true)(b:∀i,m<=i->i<k->lt (p.getD k 0) (p.getD i 0)=true):
  Arr (bubble p k (k - m)) n/\Up lt (bubble p k (k - m)) (k+1):=by
 have s:(bubble p k (k - m)).size=p.size:=bubble_size _ _ _;refine⟨⟨by rw[s];exact h.sz,(bubble_perm p k (k - m)).toList.trans h.pm⟩,λi j r x=>?_⟩;have g:∀t,(bubble p k (k - m)).getD t 0=if t=m then p.getD k 0 else if m<t/\t<=k then p.getD (t - 1) 0 else p.getD t 0:=λt=>by
  have e:=getElem?_bubble (xs:=p) (src:=k) (by rw[h.sz];exact v) (k - m) (Nat.sub_le _ _) t;rw[show k - (k - m)=m by left]at e;by_cases q:t=m
  ·rw[if_pos q]at e ⊢;exact nV e
  ·rw[if_neg q]at e ⊢;by_cases o:m<t/\t<=k
   ·rw[if_pos o]at e ⊢;exact nV e
   ·rw[if_neg o]at e ⊢;exact nV e
 rw[g i,g j];by_cases l:i=m
 ·rw[if_pos l,if_neg (by left),if_pos (by left)];exact b (j - 1) (by left) (by left)
 ·rw[if_neg l];by_cases f:m<i/\i<=k
  ·rw[if_pos f,if_neg (by left),if_pos (by left)];exact u (i - 1) (j - 1) (by left) (by left)
  ·rw[if_neg f];by_cases d:j=m
   ·rw[if_pos d];exact a i (by left)
   ·rw[if_neg d];by_cases c:m<j/\j<=k
    ·rw[if_pos c];by_cases e:i=j - 1
     ·left
     ·exact u i (j - 1) (by left) (by left)
    ·rw[if_neg c];exact u i j r (by left)
end
theorem Eh{lt:Nat->Nat->Bool}{n:Nat}(O:Ord lt n):∀(f:Nat) {p:Array Nat} {k:Nat},Arr p n->k+f=n->Up lt p k->ki n lt (kas_bin f p k)/\Arr (de lt (kas_bin f p k)) n/\Up lt (de lt (kas_bin f p k)) n
 |0,p,k,h,hk,u=>⟨trivial,h,by rw[<- hk];exact u⟩
 |f+1,p,k,h,hk,u=>by
  obtain⟨a1,m,a2,a3,a4,a5⟩:=oT O h (k:=k) (by left) u k 0 k (aaH _) (aal _) (aal _) (λi j=>by left) (λi q o=>by left);obtain⟨g,d⟩:=AD h (by left) a3 u a4 a5;obtain⟨c,b,a⟩:=Eh O f g (by left) d;have e:kas_bin (f+1) p k=(kas_place p k k 0 k).bind λl=>kas_bin f (bubble p k (k - l)) (k+1):=rfl;rw[e];refine⟨fU a1 (by rw[a2];exact c),?_⟩;rw[ir,a2];exact⟨b,a⟩
theorem Fx{lt:Nat->Nat->Bool}{n:Nat}(O:Ord lt n)(c:2<=n):ki n lt (kas_sort n)/\Arr (de lt (kas_sort n)) n/\Up lt (de lt (kas_sort n)) n:=by
 have d:Arr (List.toArray (List.range n)) n:=⟨by simp,by simp⟩
 obtain⟨a1,r,a2,a3,a4,a5,a6⟩:=D1 O d c;unfold kas_sort;have b:∀t,t=(if r.1<n then kas_bin (n - max r.1 1) r.2 (max r.1 1)else .ret r.2)->ki n lt t/\Arr (de lt t) n/\Up lt (de lt t) n:=by
  intro t a;by_cases h:r.1<n
  ·rw[if_pos h]at a;subst a;rw[show max r.1 1=r.1 by left];exact Eh O _ a3 (by left) a6
  ·rw[if_neg h]at a;subst a;have:r.1=n:=by left
   exact⟨trivial,a3,by rw[this]at a6;exact a6⟩
 have e:=b _ rfl;refine⟨fU a1 (by rw[a2];exact e.1),?_⟩;rw[ir,a2];exact e.2
end DI
end
section
namespace DI
open PySem PySem.Spec PyProof.Rows L2
def qy(h:Heap)(vs:au)(nss:az):Prop:=vs.length=nss.length/\∀(i:Nat) (ns:aa),nss[i]?=some ns->∃t a,vs[i]?=some (.ref t)/\IsTup h t a.toArray/\IntsAre a ns
variable {cs nss:az}{h':Heap}{vs:au}
theorem qy.mono{h:Heap}(k:∀b o,h.get? b=some o->h'.get? b=some o)(t:qy h vs nss):qy h' vs nss :=
 ⟨t.1,λi c e=>let ⟨a,aJ,e1,⟨o,ho,r⟩,e3⟩:=t.2 i c e;⟨a,aJ,e1,⟨o,k _ _ ho,r⟩,e3⟩⟩
theorem qy.mem{h:Heap}(t:qy h vs nss){v:Value}(f:v∈vs):∃a b e,v=.ref a/\IsTup h a b.toArray/\IntsAre b e:=by
 obtain⟨i,c⟩:=List.mem_iff_getElem?.mp f;have g:i<nss.length:=by rw[<- t.1];exact(List.getElem?_eq_some_iff.mp c).1
 obtain⟨a,b,d,k,j⟩:=t.2 i _ (aas g);rw[c]at d;cases d;exact⟨a,b,_,rfl,k,j⟩
section
variable {prog:aI}{w:World}{A:aG}{E:aB}{s:Shared}
theorem pH:∀{vs:au} {nss:az} {Q:List (Option Value)->Shared->Prop},qy s.heap vs nss->(∀fs:List (Option Value),fs.length=vs.length->(∀f∈fs,∀v,f=some v->∃n t,v=.int n t)->Q fs s)->wpAny (model prog w) A (vs.mapM firstOfTuple') Q E s
 |[],_,_,_,h=>by rw[List.mapM_nil];exact aad (h [] rfl λ_ h=>nomatch h)
 |v::vs,[],_,t,_=>by have:=t.1;simp at this
 |v::vs,ns::nss,Q,t,h=>by
  obtain⟨a,r,e,⟨o,d,l,n,k⟩,g⟩:=t.2 0 ns rfl;cases e;rw[List.mapM_cons];refine aaa ?_;rw[PySem.W.kas_first_eq];refine aaa (PySem.W.Looks.here (show PySem.W.Looks (model prog w) s.heap (typeOf (.ref a)) o.cls from(PySem.W.Looks.ld d).andThen .now) ?_);rw[l,if_neg (by first|decide|simp)];refine aaa (listItems_at d k (aad ?_));refine aaa (pH (vs:=vs) (nss:=nss) ⟨by simpa using t.1,λi j e=>t.2 (i+1) j e⟩ λfs p m=>aad (h _ (by simp[p]) λf c v b=>?_));rcases List.mem_cons.mp c with rfl|c
  ·cases g with
   |nil=>simp at b
   |cons u q g=>simp at b;exact⟨_,_,b.symm⟩
  ·exact m f c v b
def Jj(κ:SortKind):Prop:=κ=tuples' true\/κ=general'\/κ=oneType'
theorem kind_any{Q:SortKind->Shared->Prop}(t:qy s.heap vs nss)(P:vs≠[])(h:∀B,Jj B->Q B s):wpAny (model prog w) A (keyKind' vs.toArray) Q E s:=by
 obtain⟨e,d,rfl⟩:∃e d,vs=e::d:=by
  cases vs with
  |nil=>exact absurd rfl P
  |cons e d=>exact⟨e,d,rfl⟩
 rw[kat_kind_eq,List.mapM_toArray,map_eq_pure_bind];refine aaa (aaa (pH t λfs C D=>aad ?_));by_cases j:(fs.toArray.all λx=>x.isSome)=true
 ·rw[if_pos j];refine aaa (acu ?_);obtain⟨c,I,N⟩:∃c:au,fs=c.map some/\∀v∈c,∃n t,v=.int n t:=by
   clear h C t;induction fs with
   |nil=>exact⟨[],rfl,λ_ h=>nomatch h⟩
   |cons f fs G =>
    simp only[List.all_toArray,List.all_cons,Bool.and_eq_true]at j;obtain⟨c,L,K⟩:=G (λf q=>D f (aac _ q)) (by simpa using j.2);cases f with
    |none=>simp at j
    |some v =>
     exact⟨v::c,by rw[L];rfl,λu l=>by
      rcases List.mem_cons.mp l with rfl|l
      ·exact D _ aae _ rfl
      ·exact K u l⟩
  subst I;obtain⟨i,g,rfl⟩:∃i g,c=i::g:=by
   cases c with
   |nil=>simp at C
   |cons a b=>exact⟨a,b,rfl⟩
  have p:(((i::g).map some).toArray.filterMap id)=(i::g).toArray:=by simp
  rw[p,oneTypeOnly'_eq,List.mapM_toArray,map_eq_pure_bind];refine aaa (aaa (aaa (PySem.W.kas_mapM (r:=Value.type "int") _ (λv k O m=>by
   obtain⟨n,t,rfl⟩:=N v k;exact(PySem.W.Looks.of_pure (M:=model prog w) rfl).here m) (aad ?_))))
  have z:((List.map (λ_=>Value.type "int") (i::g)).toArray.all λx=>x==Value.type "int")=true:=by
   simp only[List.all_toArray,List.all_map,List.all_eq_true];intro _ _;show(Value.type "int" == Value.type "int")=true;decide
  have y:(List.map (λ_=>Value.type "int") (i::g)).toArray[0]?=some (Value.type "int"):=by simp
  rw[y];simp only[z,if_true];exact aad (aad (h _ (.inl rfl)))
 ·rw[if_neg j];by_cases F:((fs.toArray[0]?.bind id).isSome)=true
  ·rw[if_pos F];exact aad (h _ (.inr (.inl rfl)))
  ·rw[if_neg F];rw[oneTypeOnly'_eq,List.mapM_toArray,map_eq_pure_bind];refine aaa (aaa (aaa (PySem.W.kas_mapM (r:=Value.type "tuple") _ (λv k O m=>by
    obtain⟨a,S,R,rfl,⟨o,H,J,_⟩,_⟩:=t.mem k;refine PySem.W.Looks.here (show PySem.W.Looks (model prog w) s.heap (typeOf (.ref a)) o.cls from(PySem.W.Looks.ld H).andThen .now) ?_;rw[J];exact m) (aad ?_))))
   have z:((List.map (λ_=>Value.type "tuple") (e::d)).toArray.all λx=>x==Value.type "tuple")=true:=by
    simp only[List.all_toArray,List.all_map,List.all_eq_true];intro _ _;show(Value.type "tuple" == Value.type "tuple")=true;decide
   have y:(List.map (λ_=>Value.type "tuple") (e::d)).toArray[0]?=some (Value.type "tuple"):=by simp
   rw[y];simp only[z,if_true];exact aad (aad (h _ (.inr (.inr rfl))))
theorem K2{κ:SortKind}(B:Jj κ)(m:A.units<cLine){a b:Addr}{q r:au}{ns g:aa}{Q:Bool->Shared->Prop}(l:IsTup s.heap a q.toArray)(k:IsTup s.heap b r.toArray)(j:IntsAre q ns)(i:IntsAre r g)(h:Q (HT.lexLt ns g) s):
  wpAny (model prog w) A (keyLt' κ (.ref a) (.ref b)) Q E s:=by
 rcases B with rfl|rfl|rfl
 ·obtain⟨o,c,_,n,f⟩:=l;obtain⟨H,z,_,I,G⟩:=k;exact PySem.W.kat_lt c f z G (u0 0 j i (by simp) h)
 ·exact PySem.W.kat_one _ _ (HT.wN l k (by simpa using j) (by simpa using i) m h)
 ·show wpAny (model prog w) A (oneLt' true (.ref a) (.ref b)) Q E s;rw[oneLt'_eq];simp only[if_true];refine aaa (wpAny_cRoomFor m ?_);obtain⟨⟨D,C,data,v⟩,c,p,n,f⟩:=id l;obtain⟨⟨J,t,data2,u⟩,x,e,y,d⟩:=id k;simp only at p f e d;subst p f e d;refine aaa (wpAny_callSpecialIfBound?_slot (name:=Str.ofString "__lt__") ⟨_,c,rfl⟩ abY (abA abY ⟨_,c,rfl⟩ PySem.F.entry_tuple_lt (PySem.F.args_tuple_lt_2 _ _) (HT.kj a b _ _ n y C t v u ns g (by simpa using j) (by simpa using i)) ⟨c,x,?_⟩));exact aa9 h
end
def kg(h:Heap)(d:Addr)(es:Array DictEntry)(ep:Nat):Prop:=∃o,h.get? d=some o/\o.ExactDict/\o.data=.dict es ep
variable {Q:Value->Shared->Prop}
section
variable {prog:aI}{w:World}{A:aG}{E:aB}{s:Shared}{d it:Addr}{es:Array DictEntry}{ep i:Nat}
theorem kg.typeIs(h:kg s.heap d es ep):s.TypeIs (.ref d) "dict":=let ⟨o,ho,hx,_⟩:=h;⟨o,ho,hx.1⟩
theorem Hh(f:(d==sysModules)=false)(c:kg s.heap d es ep)
  (g:Q (.ref s.heap.objs.size) { s with heap:=s.heap.push { cls:=.type "dict_keyiterator",data:=.fields #[.ref d,.int 0 0,.int es.size 0,.int ep 0] } }):wpAny (model prog w) A (pyIter (.ref d)) Q E s:=by
 have a:=c.typeIs;obtain⟨o,b,h,e⟩:=c;refine wpAny_pyIter_slot a PySem.F.slot_dict_iter (aaI PySem.F.slot_dict_iter a PySem.F.entry_dict_iter ?_ (PySem.F.args_dict_iter_1 _));unfold Builtin.«dict.__iter__» Builtin.Dict.dictSlotNone;refine aaa (aaa (abZ a (aad ?_)));show wpAny _ _ (Builtin.Dict.showsAll d >>= _) _ _ s;unfold Builtin.Dict.showsAll;rw[if_neg (by rw[f];exact Bool.false_ne_true)];refine aaa (aad (aaa (aa_ b e (aaa (abp b e ?_)))));exact aaa (aaD (aad ⟨_,rfl,"dict_keyiterator",_,⟨_,aam _ rfl,rfl⟩,PySem.F.slot_dict_keyiterator_next.lookup,g⟩))
theorem Hg{Q:Option Value->Shared->Prop}(a:s.heap.IsKeyIter it d i es.size ep)(h:kg s.heap d es ep)(l:i<es.size)
  (k:∀h',h'.IsKeyIter it d (i+1) es.size ep->Heap.SameBut it s.heap h'->Q (some es[i].key) { s with heap:=h' }):wpAny (model prog w) A (pyNext (.ref it)) Q E s:=by
 obtain⟨o,c,j,b⟩:=id a;obtain⟨m,g,n,f⟩:=h;unfold pyNext;refine aaa (abC (aaS (name:=Str.ofString "__next__") a.typeIs aaT (aaI aaT a.typeIs PySem.F.entry_dict_keyiterator_next ?_ (PySem.F.args_dict_keyiterator_next_1 _))));refine aaa (aad (aaa (aaa ?_)))
 first|refine aaa (abb a.typeIs (aad ?_))|refine aaa (abj a.typeIs (aad ?_))
 refine aaa (acg c b ?_);simp only[show Builtin.Dict_items.ownsTuple "dict_keyiterator" = false by decide,abq,acC];show wpAny _ _ (if (Value.ref d==Value.none)=true then _ else _) _ _ s;rw[if_neg (show ¬ ((Value.ref d==Value.none)=true) from Bool.false_ne_true)];refine aaa (aad (aaa (aa_ g f ?_)));rw[if_neg (by simp)];refine aaa (aad (aaa (abp g f ?_)));rw[if_neg (by simp)];refine aad ?_;simp only[show ¬ ((i:Int)<0) from by left,if_false,Int.toNat_natCast,Array.getElem?_eq_getElem l];refine aaa ?_
 first|refine aaa (abb a.typeIs (aad ?_))|refine aaa (abj a.typeIs (aad ?_))
 refine aaa (wpAny_isOneOf_keyiter a.typeIs ?_);show wpAny _ _ (setField (.ref it) 1 (rawInt ((i:Int)+1)) >>= _) _ _ s;refine aaa (ach c b (by simp) ?_);have e:(s.heap.update it (Obj.mapFields (·.setIfInBounds 1 (rawInt ((i:Int)+1))))).IsKeyIter it d (i+1) es.size ep :=
  ⟨_,aaP _ c (Obj.isFreed_of_fields (Obj.data_mapFields b _)),(Obj.cls_mapFields ..).trans j,by rw[Obj.data_mapFields b];simp[rawInt]⟩
 refine aaa (aaF (aaa (wpAny_isOneOf_keyiter (s:={ s with heap:=s.heap.update it (Obj.mapFields (·.setIfInBounds 1 (rawInt ((i:Int)+1)))) }) e.typeIs ?_)));show wpAny _ _ (pure es[i].key) _ _ _;exact aad (aad ⟨_,rfl,aad (k _ e (aaU ..))⟩)
theorem MQ{Q:Option Value->Shared->Prop}(k:A.handled=none)(c:s.heap.IsKeyIter it d i es.size ep)(j:kg s.heap d es ep)(n:es.size<=i)
  (l:∀h',Heap.ExtBut it s.heap h'->Q none { s with heap:=h' }):wpAny (model prog w) A (pyNext (.ref it)) Q E s:=by
 obtain⟨o,e,q,f⟩:=id c;obtain⟨p,h,r,g⟩:=j;unfold pyNext;refine aaa (abC (aaS (name:=Str.ofString "__next__") c.typeIs aaT (aaI aaT c.typeIs PySem.F.entry_dict_keyiterator_next ?_ (PySem.F.args_dict_keyiterator_next_1 _))));refine aaa (aad (aaa (aaa ?_)))
 first|refine aaa (abb c.typeIs (aad ?_))|refine aaa (abj c.typeIs (aad ?_))
 refine aaa (acg e f ?_);simp only[show Builtin.Dict_items.ownsTuple "dict_keyiterator" = false by decide,abq,acC];show wpAny _ _ (if (Value.ref d==Value.none)=true then _ else _) _ _ s;rw[if_neg (show ¬ ((Value.ref d==Value.none)=true) from Bool.false_ne_true)];refine aaa (aad (aaa (aa_ h g ?_)));rw[if_neg (by simp)];refine aaa (aad (aaa (abp h g ?_)));rw[if_neg (by simp)];refine aad ?_;simp only[show ¬ ((i:Int)<0) from by left,if_false,Int.toNat_natCast,Array.getElem?_eq_none n];refine aaa ?_
 first|refine aaa (abb c.typeIs (aad ?_))|refine aaa (abj c.typeIs (aad ?_))
 show wpAny _ _ (setField (.ref it) 0 .none >>= _) _ _ s;refine aaa (ach e f (by simp) ?_);show wpAny _ _ (newExc (.type "StopIteration") [] >>= _) _ _ _;refine aaa ?_;simp only[newExc,newTuple];refine aaa (aaD ?_ (by size_fits));refine aaa (m:=firstArgMember _ _) (wpAny_of_eq (a:=Value.none) (by first|rfl | (simp only[firstArgMember];rfl)) ?_);refine aaD ?_ (by size_fits);simp only[raiseNew];refine aaa (wpAny_handled ?_);rw[show A.in1.handled=none from k];refine aaa (aad (wpAny_throw ?_));refine aaa (wpAny_isInstance (T:="StopIteration") (b:=true) ⟨_,aam _ rfl,rfl⟩ isSubtype_stop ?_);exact aad (l _ (((aaU ..).extBut.push _).push _))
end
theorem wR:∀a b c:aa,HT.lexLt a b=true->HT.lexLt b c=true->HT.lexLt a c=true
 |[],[],_,h,_=>by rw[HT.ko]at h;cases h
 |[],_::_,[],_,h=>by rw[HT.dj]at h;cases h
 |[],_::_,_::_,_,_=>rfl
 |_::_,[],_,h,_=>by rw[HT.dj]at h;cases h
 |_::_,_::_,[],_,h=>by rw[HT.dj]at h;cases h
 |x::a,y::b,z::c,h1,h2=>by
  rw[HT.dM]at *;by_cases e:x=y
  ·subst e;rw[if_pos rfl]at h1;by_cases d:x=z
   ·subst d;rw[if_pos rfl]at h2 ⊢;exact wR a b c h1 h2
   ·rw[if_neg d]at h2 ⊢;exact h2
  ·rw[if_neg e]at h1;have f:x<y:=aab h1;by_cases d:y=z
   ·subst d;rw[if_neg (by left)];exact abg f
   ·rw[if_neg d]at h2;have g:y<z:=aab h2;rw[if_neg (by left)];exact abg (by left)
theorem o7:∀a b:aa,HT.lexLt a b=true->HT.lexLt b a=false
 |[],[],_=>rfl
 |[],_::_,_=>rfl
 |_::_,[],h=>by rw[HT.dj]at h;cases h
 |x::a,y::b,h=>by
  rw[HT.dM]at *;by_cases e:x=y
  ·subst e;rw[if_pos rfl]at h ⊢;exact o7 a b h
  ·rw[if_neg e]at h;have l:x<y:=aab h;rw[if_neg (by left)];exact aa5 (by left)
theorem nP:∀a b:aa,a≠b->HT.lexLt a b=true\/HT.lexLt b a=true
 |[],[],h=>absurd rfl h
 |[],_::_,_=>.inl rfl
 |_::_,[],_=>.inr rfl
 |x::a,y::b,h=>by
  rw[HT.dM,HT.dM];by_cases e:x=y
  ·subst e;rw[if_pos rfl,if_pos rfl];exact nP a b λz=>h (by rw[z])
  ·rw[if_neg e,if_neg (Ne.symm e)];rcases Int.lt_or_gt_of_ne e with l|l
   ·exact .inl (abg l)
   ·exact .inr (abg l)
def bK(nss:az):az:=nss.mergeSort λa b=>!HT.lexLt b a
def qA(nss:az):Prop:=nss.Pairwise λa b=>HT.lexLt a b=true
theorem yg:∀{l m:az},qA l->qA m->l.Perm m->l=m
 |[],m,_,_,p=>(List.perm_nil.mp p.symm).symm
 |a::l,[],_,_,p=>by have:=p.length_eq;simp at this
 |a::l,b::m,h1,h2,p=>by
  have e:a=b:=by
   have d:a∈b::m:=p.mem_iff.mp aae;have c:b∈a::l:=p.mem_iff.mpr aae;rcases List.mem_cons.mp d with e|d
   ·exact e
   ·rcases List.mem_cons.mp c with e|c
    ·exact e.symm
    ·have g:=(List.pairwise_cons.mp h2).1 a d;have f:=(List.pairwise_cons.mp h1).1 b c;rw[o7 _ _ g]at f;cases f
  subst e;rw[yg (List.pairwise_cons.mp h1).2 (List.pairwise_cons.mp h2).2 (List.perm_cons a |>.mp p)]
theorem iE(h:nss.Nodup):qA (bK nss):=by
 have p:(bK nss).Perm nss:=aaB _ _;have nd:(bK nss).Nodup:=p.nodup_iff.mpr h;have i:(bK nss).Pairwise λa b=>(!HT.lexLt b a)=true:=List.pairwise_mergeSort (λa b c d f=>by
  cases e:HT.lexLt c a with
  |false=>rfl
  |true =>
   exfalso;by_cases g:b=c
   ·subst g;rw[e]at d;cases d
   ·rcases nP b c g with l|l
    ·rw[wR _ _ _ l e]at d;cases d
    ·rw[l]at f;cases f) (λa b=>by
  cases e:HT.lexLt b a with
  |false=>rfl
  |true=>rw[o7 _ _ e];rfl) nss
 exact(i.and nd).imp λ{a b} ⟨d,f⟩=>by
  rcases nP a b f with l|l
  ·exact l
  ·rw[l]at d;cases d
theorem Bz{l:az}(h:nss.Nodup)(a:qA l)(p:l.Perm nss):l=bK nss:=yg a (iE h) (p.trans (aaB _ _).symm)
def ltN(nss:az)(i j:Nat):Bool:=HT.lexLt (nss.getD i []) (nss.getD j [])
theorem KA(h:nss.Nodup):Ord (ltN nss) nss.length :=
 ⟨λa b c _ _ _ j i=>wR _ _ _ j i,λa b _ _ h=>o7 _ _ h,λa b g f d=>nP _ _ λe=>d (by
  have l:nss.getD a []=nss[a]:=by simp[g]
  have k:nss.getD b []=nss[b]:=by simp[f]
  rw[l,k]at e;exact(acv h).mp e)⟩
theorem qH(h:nss.Nodup){p:Array Nat}(d:Arr p nss.length)(g:Up (ltN nss) p nss.length):(p.toList.map λi=>nss.getD i [])=bK nss:=by
 refine Bz h ?_ ?_
 ·refine List.pairwise_iff_getElem.mpr λi j c a f=>?_;simp only[List.length_map,Array.length_toList]at c a;have:=g i j f (by rw[<- d.sz];exact a);unfold ltN at this;have e:∀k (b:k<p.size),p.getD k 0=p[k]:=λk b=>by simp[Array.getD,b]
  rw[e i c,e j a]at this;simpa using this
 ·have e:nss=(List.range nss.length).map λi=>nss.getD i []:=by
   refine acx (by simp) λi l m=>?_;simp[l]
  refine(d.pm.map λi=>nss.getD i []).trans ?_;rw[<- e]
variable {ep:Nat}
section
variable {prog:aI}{w:World}{A:aG}{E:aB}{s:Shared}
theorem By{a:Addr}{n:Nat}{P:PySem.Fin->Shared->Prop}(V:A.units<cLine)(m:s.heap.get? a=some (seqObj "list" vs.toArray n))(O:vs.length<64)(I:nss.Nodup)
  (k:qy (((s.heap.update a (Obj.mapSeq λ_=>#[])).push (seqObj "tuple" vs.toArray 0)).push (seqObj "list" #[] 0)) vs nss)
  (h:∀p:Array Nat,Arr p vs.length->(p.toList.map λi=>nss.getD i [])=bK nss->P (.done (.ret .none)) { s with heap:=sortedHeap s.heap a vs (List.toArray (p.toList.map λi=>vs.getD i Value.none)) }) :
  wpAny (model prog w) A (Builtin.«list.sort» ⟨[.ref a],[]⟩) P E s:=by
 rw[list_sort_plain];have ha:a<s.heap.objs.size:=aai m;have d:vs.toArray.size=vs.length:=by simp
 have o:vs.length<=sizeLine:=by rw[sizeLine_eq];left
 have t:=k.1;refine aaa (listItems_at m rfl (aaa (listUpdate_at m rfl ?_ (by rw[d];exact o) (aaH _))));obtain⟨f,N⟩:∃f,(s.heap.update a (Obj.mapSeq λ_=>#[])).get? a=some (seqObj "list" #[] f):=⟨_,get?_update_seq m (λ_=>#[])⟩
 refine aaa (seqEpoch_at N rfl (aaa (wpAny_newTuple (aaa (acm (aaF ?_) (aaH _))) (by simpa using o))));have M:(((s.heap.update a (Obj.mapSeq λ_=>#[])).push (seqObj "tuple" vs.toArray 0)).push (seqObj "list" #[] 0)).get? a=some (seqObj "list" #[] f):=aag _ (aag _ N);show wpAny (model prog w) A _ P E ({ s with heap:=((s.heap.update a (Obj.mapSeq λ_=>#[])).push (seqObj "tuple" vs.toArray 0)).push (seqObj "list" #[] 0) }:Shared);dsimp only;have fin:∀(b:SortSt) (p:Array Nat),Arr p vs.length->(p.toList.map λi=>nss.getD i [])=bK nss->(arrOf b).map (·.2)=List.toArray (p.toList.map λi=>vs.getD i Value.none)->failedOf b=none->wpAny (model prog w) A (do
   let touched:=(<- seqEpoch a) != f
   Builtin.List.listUpdate (.ref a) λ_=>(arrOf b).map (·.2)
   if let some e:=failedOf b then rule "list.sort.comparison-raised";throw e
   if touched then rule "list.sort.modified";raiseError "ValueError" "list modified during sort"
   ret .none) P E ({ s with heap:=((s.heap.update a (Obj.mapSeq λ_=>#[])).push (seqObj "tuple" vs.toArray 0)).push (seqObj "list" #[] 0) }:Shared):=by
  intro b p l q F D;refine aaa (seqEpoch_at M rfl ?_);rw[F];refine aaa (listUpdate_at M rfl ?_ (aaH _) (by rw[List.size_toArray,List.length_map,Array.length_toList,l.sz];exact aco o));rw[D];simp only[bne_self_eq_false,Bool.false_eq_true,if_false];exact aad (h p l q)
 by_cases c:vs.toArray.size<2
 ·rw[if_pos c,if_pos c];refine aaa (aad ?_);rw[StateT.run_pure];refine aaa (aad ?_);rw[d]at c;have H:Arr (List.toArray (List.range vs.length)) vs.length:=⟨by simp,by simp⟩
  refine fin (SortSt.mk' general' (vs.toArray.zip vs.toArray) #[] 7 none) (List.toArray (List.range vs.length)) H ?_ ?_ rfl
  ·rw[t]at H ⊢;exact qH I H λi j jA u=>by left
  ·apply Array.toList_inj.mp;show(Array.map (·.2) (vs.toArray.zip vs.toArray)).toList=_;rw[Array.toList_map,show(vs.toArray.zip vs.toArray)=pairsOf vs from rfl,pairsOf_toList,List.map_snd_zip (Nat.le_refl _)];refine acx (by simp) λi h1 c=>?_;simp[h1]
 ·rw[if_neg c,if_neg c];rw[d]at c;refine aaa (kind_any k (λz=>by rw[z]at c;simp at c) λJ Y=>?_);have ok:=Fx (KA I) (by rw[<- t];left);refine aaa (aay (PySem.W.kat_run (ks:=vs) (vs:=vs) (κ:=J) (Q:=λb g=>g=({ s with heap:=((s.heap.update a (Obj.mapSeq λ_=>#[])).push (seqObj "tuple" vs.toArray 0)).push (seqObj "list" #[] 0) }:Shared)/\∃p,Arr p vs.length/\(p.toList.map λi=>nss.getD i [])=bK nss/\(arrOf b).map (·.2)=List.toArray (p.toList.map λi=>vs.getD i Value.none)/\failedOf b=none)
   (G:=λp g=>g=({ s with heap:=((s.heap.update a (Obj.mapSeq λ_=>#[])).push (seqObj "tuple" vs.toArray 0)).push (seqObj "list" #[] 0) }:Shared)/\Arr p vs.length/\(p.toList.map λi=>nss.getD i [])=bK nss) rfl (by left) O (λp b g X v Z B=>⟨B.1,p,B.2.1,B.2.2,PySem.W.kat_snds rfl v,Z⟩) ?_) (λr g ⟨e,p,l,q,F,D⟩=>?_) λ_ _ e=>e)
  rotate_left
  ·subst e;exact fin r.2 p l q F D
  ·rw[t];refine zq (lt:=ltN nss) (n:=nss.length) (λi j C K u hC=>?_) _ ok.1 ⟨rfl,ok.2.1,qH I ok.2.1 ok.2.2⟩;obtain⟨x,aJ,f,U,T⟩:=k.2 i _ (aas K);obtain⟨y,Gm,e2,S,R⟩:=k.2 j _ (aas u);unfold PySem.W.kas_ask;rw[show vs.getD i Value.none=.ref x by simp[f],show vs.getD j Value.none=.ref y by simp[e2]];refine K2 Y V U S T R ?_;have e3:nss.getD i []=nss[i]:=by simp[K]
   have e4:nss.getD j []=nss[j]:=by simp[u]
   have L:C (HT.lexLt (nss.getD i []) (nss.getD j [])) _:=hC;rw[e3,e4]at L;exact L
theorem DW{es:Array DictEntry}(m:A.handled=none)(I d:Addr)(p:d≠I):Walks prog w A I [I,d] [I] es.size (λi v=>∃e,es[i]?=some e/\v=e.key) (λi h=>h.IsKeyIter I d i es.size ep/\kg h d es ep) where
 sub:=λb c=>by simp at c;simp[c]
 frame:=λ_ _ _ a g=>⟨a.1.at λo e=>g I (by simp) o e,let ⟨o,ho,r⟩:=a.2;⟨o,g d (by simp) o ho,r⟩⟩
 item:=λi s Q E j a f=>Hg a.1 a.2 j λh' l k=>f _ h' s.toks ⟨es[i],aa4 j,rfl⟩ ⟨l,let ⟨o,ho,r⟩:=a.2;⟨o,k.extBut d o p ho,r⟩⟩ λb o c e=>k.extBut b o (λh=>c (by simp[h])) e
 done:=λs Q E a f=>MQ m a.1 a.2 (aal _) λh' n=>f h' s.toks λb o c e=>n b o (λh=>c (by simp[h])) e
 self:=λ_ _ _ _ a f=>wpAny_pyIter_keyiter a.1 f
theorem MP{d:Addr}{es:Array DictEntry}(lo:(d==sysModules)=false):PySem.W.KdlSrc prog w "dict" d d es.size (λi v=>∃e,es[i]?=some e/\v=e.key) (λh=>kg h d es ep) where
 type:=λ_ a=>a.typeIs
 there:=λ_ a=>let ⟨_,ho,_⟩:=a;⟨aai ho,aai ho⟩
 keep:=λ_ _ a c=>let ⟨o,ho,r⟩:=a;⟨o,c d (.inl rfl) o ho,r⟩
 notList:=by decide
 notTuple:=by decide
 hint:=λ_ _ _ _ a b=>PySem.W.kdl_hint_dict a.typeIs b
 iter:=λ_ _ f a=>⟨_,_,(λ_ _ b=>Hh lo a b),DW f _ d (let ⟨_,ho,_⟩:=a;aao (aai ho)),⟨⟨_,aam _ rfl,rfl,rfl⟩,let ⟨o,ho,r⟩:=a;⟨o,aag _ ho,r⟩⟩⟩
theorem uk{d:Addr}{es:Array DictEntry}(G:A.handled=none)(K:A.units+2<cLine)(lo:(d==sysModules)=false)(D:kg s.heap d es ep)(v:es.size<64)(J:nss.Nodup)(z:qy s.heap (es.toList.map (·.key)) nss)
  (h:∀(S:Addr) (h':Heap) (tk e:Nat) (p:Array Nat),s.heap.get? S=none->(∀b o,s.heap.get? b=some o->h'.get? b=some o)->Arr p es.size->(p.toList.map λi=>nss.getD i [])=bK nss ->
   h'.get? S=some (seqObj "list" (List.toArray (p.toList.map λi=>(es.toList.map (·.key)).getD i Value.none)) e)->Q (.ref S) { s with heap:=h',toks:=tk }) :
  wpAny (model prog w) A (call (.builtin "sorted") [.ref d]) Q E s:=by
 refine Calls.call_function_entry kind_sorted plain_sorted entry_sorted (args_sorted1 _) ?_;unfold Builtin.«sorted»;have r:es.size<=sizeLine:=by rw[sizeLine_eq];left
 refine aaa (m:=checkCount "sorted" 1 1 _) (aad (aaa (PySem.W.kdu_collect (A:=A.in1) (MP lo) G D r λa tk c f k=>?_)));have I:c.toList=es.toList.map (·.key):=by
  refine abv λi=>?_;rw[List.getElem?_map,Array.getElem?_toList,Array.getElem?_toList];by_cases F:i<es.size
  ·have u:i<c.size:=by rw[k.1];exact F
   obtain⟨e,j,y⟩:=k.2 i c[i] (aa4 u);rw[Array.getElem?_eq_getElem u,j,y];rfl
  ·rw[Array.getElem?_eq_none (by rw[k.1];left),Array.getElem?_eq_none (by left)];rfl
 rw[I];generalize H:es.toList.map (·.key)=vs at *;have n:vs.length=es.size:=by rw[<- H];simp
 refine aaa (acm ?_ (by rw[n];exact r));show wpAny _ _ _ _ _ ({ s with heap:=a.push (seqObj "list" vs.toArray 0),toks:=tk }:Shared);have l:(a.push (seqObj "list" vs.toArray 0)).get? a.objs.size=some (seqObj "list" vs.toArray 0):=aam _ rfl;have x:∀b o,s.heap.get? b=some o->((((a.push (seqObj "list" vs.toArray 0)).update a.objs.size (Obj.mapSeq λ_=>#[])).push (seqObj "tuple" vs.toArray 0)).push (seqObj "list" #[] 0)).get? b=some o:=λb o e=>by
  refine aag _ (aag _ ?_);rw[Heap.get?_update_other _ _ (Nat.ne_of_gt (Heap.lt_size (f b o e)))];exact aag _ (f b o e)
 have g:s.heap.get? a.objs.size=none:=by
  cases q:s.heap.get? a.objs.size with
  |none=>rfl
  |some o=>exact absurd (aai (f _ o q)) (aaw _)
 refine aaa (aaF (aaI slot_list_sort ⟨_,l,rfl⟩ entry_list_sort (By (s:={ s with heap:=a.push (seqObj "list" vs.toArray 0),toks:=tk }) (nss:=nss) (show A.in1.in1.units<cLine by show A.units+1+1<cLine;left) l (by rw[n];exact v) J (z.mono x) λp C B=>⟨_,rfl,?_⟩) (args_list_sort _)));obtain⟨e,j⟩:=sortedHeap_at (out:=List.toArray (p.toList.map λi=>vs.getD i Value.none)) l;refine aad ⟨_,rfl,h a.objs.size _ tk e p g (λb o e=>?_) (by rw[<- n];exact C) B j⟩;have t:=aai (f b o e);rw[sortedHeap_old (Nat.ne_of_lt t) (by rw[size_push'];exact Nat.lt_succ_of_lt t)];exact aag _ (f b o e)
end
section
variable {α β:Type}
noncomputable def bY:az->List α->aa->Option α
 |c'::cs,v::vs,c=>if c'=c then some v else bY cs vs c
 |_,_,_=>none
noncomputable def setC:az->List α->aa->α->List α
 |c'::cs,v'::vs,c,v=>(if c'=c then v else v')::setC cs vs c v
 |_,_,_,_=>[]
noncomputable def aY(cs:az)(c:aa):az:=if c∈cs then cs else cs++[c]
noncomputable def mE(cs:az)(as:List α)(c:aa)(a:α):List α:=if c∈cs then as else as++[a]
def bM(cs:az)(vs:List α)(c:aa)(v:α):List α:=if c∈cs then setC cs vs c v else vs++[v]
end
section
variable {zs:List (aa×Addr×Value)}{c:aa}
theorem j4:∀(zs:List (aa×Addr×Value)) (c:aa),(atKey zs c).map (·.2)=bY (zs.map (·.1)) (zs.map (·.2.2)) c
 |[],_=>rfl
 |z::zs,c=>by
  have a:=j4 zs c;unfold atKey at a ⊢;rw[List.find?_cons];show _=if z.1=c then some z.2.2 else bY (zs.map (·.1)) (zs.map (·.2.2)) c
  by_cases e:z.1=c
  ·rw[decide_eq_true e,if_pos e];rfl
  ·rw[decide_eq_false e,if_neg e];exact a
theorem dX:∀(zs:List (aa×Addr×Value)) (c:aa),(atKey zs c).isSome=true ↔ c∈zs.map (·.1)
 |[],c=>by simp[atKey]
 |z::zs,c=>by
  have a:=dX zs c;unfold atKey at a ⊢;rw[List.find?_cons,List.map_cons,List.mem_cons];by_cases e:z.1=c
  ·rw[decide_eq_true e];simp[e]
  ·rw[decide_eq_false e];rw[a];exact⟨.inr,λh=>h.resolve_left λz=>e z.symm⟩
theorem gz(a:Addr)(v:Value):(storedH zs c a v).map (·.1)=aY (zs.map (·.1)) c:=by
 unfold storedH aY;by_cases h:c∈zs.map (·.1)
 ·rw[if_pos ((dX zs c).mpr h),if_pos h,List.map_map];refine aak λz _=>?_;show(putAt c v z).1=z.1;unfold putAt;split<;>rfl
 ·rw[if_neg (λz=>h ((dX zs c).mp z)),if_neg h,List.map_append];rfl
theorem mN(a:Addr)(v:Value):(storedH zs c a v).map (·.2.1)=mE (zs.map (·.1)) (zs.map (·.2.1)) c a:=by
 unfold storedH mE;by_cases h:c∈zs.map (·.1)
 ·rw[if_pos ((dX zs c).mpr h),if_pos h,List.map_map];refine aak λz _=>?_;show(putAt c v z).2.1=z.2.1;unfold putAt;split<;>rfl
 ·rw[if_neg (λz=>h ((dX zs c).mp z)),if_neg h,List.map_append];rfl
theorem uG(v:Value):∀zs:List (aa×Addr×Value),(zs.map (putAt c v)).map (·.2.2)=setC (zs.map (·.1)) (zs.map (·.2.2)) c v
 |[]=>rfl
 |z::zs=>by
  show(putAt c v z).2.2::((zs.map (putAt c v)).map (·.2.2))=(if z.1=c then v else z.2.2)::setC (zs.map (·.1)) (zs.map (·.2.2)) c v;rw[uG v zs];unfold putAt;by_cases e:z.1=c
  ·rw[if_pos e,if_pos e]
  ·rw[if_neg e,if_neg e]
theorem mM(a:Addr)(v:Value):(storedH zs c a v).map (·.2.2)=bM (zs.map (·.1)) (zs.map (·.2.2)) c v:=by
 unfold storedH bM;by_cases h:c∈zs.map (·.1)
 ·rw[if_pos ((dX zs c).mpr h),if_pos h];exact uG v zs
 ·rw[if_neg (λz=>h ((dX zs c).mp z)),if_neg h,List.map_append];rfl
end
theorem t5{c:aa}{v:V}{u:Value}(r:RelV v u):∀{cs:az} {xs:ag} {a:au},Vals xs a->Vals (setC cs xs c v) (setC cs a c u)
 |[],_,_,h=>by cases h<;>exact .nil
 |c'::cs,_,_,h=>by
  cases h with
  |nil=>exact .nil
  |cons h t =>
   refine .cons ?_ (t5 r t);show RelV (if c'=c then v else _) (if c'=c then u else _);by_cases e:c'=c
   ·rw[if_pos e,if_pos e];exact r
   ·rw[if_neg e,if_neg e];exact h
theorem qC{v:V}{u:Value}(r:RelV v u):∀{xs:ag} {a:au},Vals xs a->Vals (xs++[v]) (a++[u])
 |_,_,.nil=>.cons r .nil
 |_,_,.cons h t=>.cons h (qC r t)
theorem t8{xs:ag}{a:au}(h:Vals xs a){c:aa}{v:V}{u:Value}(r:RelV v u):Vals (bM cs xs c v) (bM cs a c u):=by
 unfold bM;by_cases e:c∈cs
 ·rw[if_pos e,if_pos e];exact t5 r h
 ·rw[if_neg e,if_neg e];exact qC r h
theorem k0:∀{cs:az} {xs:ag} {a:au} (_:Vals xs a) (c:aa),AG (bY cs xs c) (bY cs a c)
 |[],_,_,_,_=>by cases ‹Vals _ _› <;> exact True.intro
 |c'::cs,_,_,h,c=>by
  cases h with
  |nil=>exact True.intro
  |cons h t =>
   show AG (if c'=c then some _ else _) (if c'=c then some _ else _);by_cases e:c'=c
   ·rw[if_pos e,if_pos e];exact h
   ·rw[if_neg e,if_neg e];exact k0 t c
variable {pos pos':Pos}
section
variable {X:Cx}{pins:ao}{σ:St}{H:Hp}{s:Shared}{p b:Addr}{cs:az}{as:aS}{xs:ag}{ep:Nat}{c:aa}{A:aG}{E:aB}
theorem items_int:∀{c:aa} {a:au},Vals (c.map V.int) a->ItemsAre (intKind X.prog X.w) c a
 |[],_,h=>by cases h;exact .nil
 |i::c,_,h=>by
  cases h with
  |cons h t =>
   obtain⟨d,rfl⟩:=h;exact .cons (by simp[intKind,Value.isInt]) (items_int t)
theorem pb(I:Inv X pins σ H s)(h:a_ X.K H b (c.map V.int)):(tupleKind (intKind X.prog X.w)).is s.heap c b:=by
 obtain⟨g,a,⟨o,f,e,n,d⟩,_⟩:=I.tuple h;exact⟨o,g.toArray,n,f,e,d,by simpa using items_int a⟩
theorem n6(I:Inv X pins σ H s)(h:H p=some (.ext (DO p cs as xs ep)))(k:dZ (a_ X.K H) as cs):
  ∃(zs:List (aa×Addr×Value)) (o:Obj) (es:Array DictEntry),zs.map (·.1)=cs/\zs.map (·.2.1)=as/\Vals xs (zs.map (·.2.2))/\s.heap.get? p=some o/\o.ExactDict/\o.data=.dict es ep /\
   s.heap.DictOfH (tupleKind (intKind X.prog X.w)) p zs/\es.toList=zs.map (entryOfKey (tupleKind (intKind X.prog X.w)))/\cs.length<=sizeLine/\(p==sysModules)=false:=by
 obtain⟨⟨zs,o,es,a,l,t,e,d,i,g,q,r,n⟩,_⟩:=(show cQ H s.heap p (.ext (DO p cs as xs ep)) from I.dE p _ h)
 refine⟨zs,o,es,a,l,t,e,d,i,⟨o,es,ep,e,d,i,g,λz m=>?_,by rw[a];exact q⟩,g,r,n⟩;obtain⟨j,f⟩:=List.mem_iff_getElem?.mp m;exact pb I (k.tup j z.2.1 z.1 (by rw[<- l,List.getElem?_map,f];rfl) (by rw[<- a,List.getElem?_map,f];rfl))
theorem dict_cls(I:Inv X pins σ H s)(h:H p=some (.ext (DO p cs as xs ep))):s.TypeIs (.ref p) "dict" /\ ∀b,Value.ref p=.ref b->∃a,s.heap.get? b=some a/\a.dict=none:=by
 obtain⟨⟨f,o,g,k,j,i,e,d,_⟩,_⟩:=(show cQ H s.heap p (.ext (DO p cs as xs ep)) from I.dE p _ h)
 exact⟨⟨o,e,d.1⟩,λb q=>by cases q;exact⟨o,e,d.2.1⟩⟩
theorem xi{v:V}{r:Value}{Q:Unit->Shared->Prop}(y:A.units+1<cLine)(I:Inv X pins σ H s)(h:H p=some (.ext (DO p cs as xs ep)))(k:dZ (a_ X.K H) as cs)(j:a_ X.K H b (c.map V.int))(m:RelV v r)(gD:cs.length<sizeLine)
  (C:∀f l,Inv X pins σ (upd H p (.ext (DO p (aY cs c) (mE cs as c b) (bM cs xs c v) f))) l->Q () l) :
  wpAny (model X.prog X.w) A (setItem (.ref p) (.ref b) r) Q E s:=by
 obtain⟨e,o,es,d,S,R,ho,hx,hd,T,_,i,B⟩:=n6 I h k;have u:e.length<=sizeLine:=by rw[<- d,List.length_map]at i;exact i
 refine wpAny_setItem_heap (hsz:=u) (abO y) (pb I j) T λh' U Z=>?_;obtain⟨q,Y,f,g,J,G,F,_,D⟩:=U;refine C f _ (I.write (x:=p) (by rw[h];exact True.intro) (λb q j z=>(Z.2 b j).trans z) ⟨q,g⟩ ⟨⟨storedH e c b r,q,Y,?_,?_,?_,g,J,G,F,?_,?_,B⟩,⟨q,g⟩,?_⟩)
 ·rw[gz,d]
 ·rw[mN,d,S]
 ·rw[mM,d];exact t8 R m
 ·rw[<- d,<- gz (zs:=e) (c:=c) b r];exact D
 ·unfold aY;split
  ·exact i
  ·rw[List.length_append,List.length_singleton];left
 ·rintro h1 WY ⟨W,n,a,P,O,N,M,L⟩ t;exact⟨W,n,a,P,O,N,t _ M,L⟩
theorem FT:PE X (.Dict [] [] pos) (λ_ H Q=>∀p,H p=none->Q (.ref p) (upd H p (.ext (DO p [] [] [] 0)))):=λpins s σ H Q I h=>by
 have n:sysModules<s.heap.objs.size:=abi (by decide) (show mainGlobals<s.heap.objs.size from(I.mod.glob.keeps I.bk).lt);refine wpAny_Dict_empty ⟨.ref s.heap.objs.size,_,I.laid (a:=s.heap.objs.size) (o:=.ext (DO s.heap.objs.size [] [] [] 0)) (t':=s.toks) (λ_ _ q=>aag _ q) (aal _) ?_,rfl,h _ (I.dE.fresh (aal _))⟩;have e:(s.heap.push { cls:=.type "dict",data:=.dict #[] }).get? s.heap.objs.size=some { cls:=.type "dict",data:=.dict #[] }:=aam _ rfl;refine⟨⟨[],_,#[],rfl,rfl,.nil,e,⟨rfl,rfl,rfl⟩,rfl,rfl,aaA,aaH _,beq_eq_false_iff_ne.mpr (abP (aao n))⟩,⟨_,e⟩,?_⟩;rintro t u ⟨r,f,d,m,l,k,j,i⟩ g;exact⟨r,f,d,m,l,k,g _ j,i⟩
end
variable {N:jf}{T:mZ}{k':bB}
theorem nE{N':jf}{k:bB}{v:V}{d:D}(h:Rep T N k v d)(b:aT anyF d=false):Rep T N' k' v d:=by
 have:=Rep.gen (T':=T) (N':=N') (g:=id) (P:=anyF) (C:=λ_ _=>True) (I:=λ_ _=>True) (λ_ _ h=>h) trivial (λ_ _ e=>e) (λ_ _ _ _ e _=>e) (λk k' p c f _ a _=>nomatch a) h (k':=k') trivial b;rw[eC]at this;exact this
theorem oR{T:mZ}{N:jf}:∀{cs:az} {k:bB} {n:Nat} {xs:ag} {ds:af} (_:aE T N k n xs ds) (c:aa),(bY cs xs c=none/\bY cs ds c=none)\/∃v d k',bY cs xs c=some v/\bY cs ds c=some d/\Rep T N k' v d/\d∈ds
 |[],_,_,_,_,_,_=>by cases ‹aE _ _ _ _ _ _› <;> exact .inl ⟨rfl,rfl⟩
 |g::cs,_,_,_,_,r,c=>by
  cases r with
  |nil=>exact .inl ⟨rfl,rfl⟩
  | @cons _ _ v d vs ds h t =>
   by_cases e:g=c
   ·exact .inr ⟨v,d,_,aaR e,aaR e,h,aae⟩
   ·have f:∀{b:Type} (a:b) (l:List b),bY (g::cs) (a::l) c=bY cs l c:=λa l=>acw e;rw[f,f];rcases oR (cs:=cs) t c with h|⟨i,q,k',p,o,m,j⟩
    ·exact .inl h
    ·exact .inr ⟨i,q,k',p,o,m,aac _ j⟩
theorem uD{T:mZ}{N:jf}{c:aa}{v:V}{d:D}(a:∀k,Rep T N k v d):∀{cs:az} {k:bB} {n:Nat} {xs:ag} {ds:af},aE T N k n xs ds->aE T N k n (setC cs xs c v) (setC cs ds c d)
 |[],_,_,_,_,r=>by cases r<;>exact .nil
 |c'::cs,_,_,_,_,r=>by
  cases r with
  |nil=>exact .nil
  |cons h t =>
   refine .cons ?_ (uD a t);show Rep _ _ _ (if c'=c then v else _) (if c'=c then d else _);by_cases e:c'=c
   ·rw[if_pos e,if_pos e];exact a _
   ·rw[if_neg e,if_neg e];exact h
theorem qK{T:mZ}{N:jf}{v:V}{d:D}(a:∀k,Rep T N k v d):∀{k:bB} {n:Nat} {xs:ag} {ds:af},aE T N k n xs ds->aE T N k n (xs++[v]) (ds++[d])
 |_,_,_,_,.nil=>.cons (a _) .nil
 |_,_,_,_,.cons h t=>.cons h (qK a t)
variable {ds xs:af}
theorem BO{c:aa}{v:V}{d:D}(a:∀k,Rep T N k v d){k:bB}{n:Nat}{xs:ag}(r:aE T N k n xs ds):aE T N k n (bM cs xs c v) (bM cs ds c d):=by
 unfold bM;by_cases e:c∈cs
 ·rw[if_pos e,if_pos e];exact uD a r
 ·rw[if_neg e,if_neg e];exact qK a r
variable {as:aS}
theorem o_(k:dZ T as cs){b:Addr}{c:aa}(i:T b (c.map V.int)):dZ T (mE cs as c b) (aY cs c):=by
 unfold mE aY;by_cases e:c∈cs
 ·rw[if_pos e,if_pos e];exact k
 ·rw[if_neg e,if_neg e];refine⟨by rw[List.length_append,List.length_append,k.len];rfl,λj a l d f=>?_⟩;by_cases h:j<as.length
  ·rw[List.getElem?_append_left h]at d;rw[List.getElem?_append_left (by rw[<- k.len];exact h)]at f;exact k.tup j a l d f
  ·rw[List.getElem?_append_right (by left)]at d;rw[List.getElem?_append_right (by rw[<- k.len];left),<- k.len]at f;cases g:j - as.length with
   |zero =>
    rw[g]at d f;cases d;cases f;exact i
   |succ m=>rw[g]at d;cases d
variable {F R:Addr->Prop}{H:Hp}{K:av}{τ:Addr->Option bB}
theorem cu.newD{G:Addr->Prop}{fv:aK}{d:Hp}{p:Addr}(f:H p=none)(g:d p=some (.ext (DO p [] [] [] 0))):cu K G R τ fv H d (.ref p) (.cg .ow [] []):=by
 refine⟨λq=>if q=p then some []else none,λq k e=>?_,.cg (ep:=0) (as:=[]) (xs:=[]) ⟨g,by simp⟩ ⟨rfl,λj a c h=>by simp at h⟩ .nil⟩;by_cases b:q=p
 ·subst b;exact f
 ·simp[b]at e
noncomputable def DV(xs:af):O D:=match xs with
 |[]=>ok (.cg .ow [] [])
 |_::_=>none
noncomputable def tI(_:Scope)(_:ak)(e:Expr):Option (aq):=match e with
 |.Dict [] [] _=>some []
 |_=>none
variable {X:Cx}{args:aq}{Φ:aV}
theorem Hf{n:Nat}(b:Φ n=DV){sc:Scope}{bl:ak}{k:Nat}(L:PX X sc bl k){e:Expr}(he:tI sc bl e=some args){cs:aF}(hs:m7 X F Φ cs args):PE X e (tD X F Φ (.cm n cs))/\PT X e (gy X F Φ (.cm n cs)):=by
 have g:∃pos,e=.Dict [] [] pos/\args=[]:=by
  unfold tI at he;split at he
  ·cases he;exact⟨_,rfl,rfl⟩
  ·cases he
 obtain⟨pos,rfl,rfl⟩:=g;cases cs with
 |cons _ _=>exact hs.elim
 |nil =>
  have this:PE X (.Dict [] [] pos) (tD X F Φ (.cm n [])):=by
   refine PE.imp (FT (X:=X) (pos:=pos)) λh H Q c p f=>?_;obtain⟨R,τ,i,d,j,a,c⟩:=c;have a:Φ n []=ok d:=a;rw[b]at a;cases a;exact c _ _ (aL.upd f) (cu.newD f aZ)
  exact⟨this,cO this λ_=>rfl⟩
noncomputable def three{d:Type}:List d->Option (d×d×d)
 |[a,b,c]=>some (a,b,c)
 |_=>none
theorem Bi{e:Type}{l:List e}{z:e×e×e}(h:three l=some z):l=[z.1,z.2.1,z.2.2]:=by
 rcases l with _|⟨a,_|⟨b,_|⟨c,_|⟨d,l⟩⟩⟩⟩<;>cases h;rfl
noncomputable def gg:D->Option (az×af)
 |.cg _ cs vs=>some (cs,vs)
 |_=>none
def keyOf:D->Option (aa)
 |.tup a=>intsOf a
 |_=>none
theorem lI{d:D}{z:az×af}(h:gg d=some z):∃f,d=.cg f z.1 z.2:=by
 cases d<;>first | (cases h;done) | (cases h;exact⟨_,rfl⟩)
theorem pd{d:D}{c:aa}(h:keyOf d=some c):d=.tup (c.map D.int):=by
 cases d<;>first | (cases h;done)|skip
 rw[dT (show intsOf _=some c from h)]
def DX(xs:af):O D:=match two xs with
 |some z=>match gg z.1 with
  |some d=>match keyOf z.2 with
   |some c=>match bY d.1 d.2 c with
    |some v=>if aT anyF v=false then ok v else none
    |none=>none
   |none=>none
  |none=>none
 |none=>none
theorem Hi{r:D}(h:DX xs=ok r):∃f cs vs c,xs=[.cg f cs vs,.tup (c.map D.int)]/\bY cs vs c=some r/\aT anyF r=false:=by
 unfold DX at h;cases g:two xs with
 |none=>rw[g]at h;cases h
 |some z =>
  rw[g]at h;have h:(match gg z.1 with|some d=>(match keyOf z.2 with|some c=>(match bY d.1 d.2 c with|some v=>if aT anyF v=false then ok v else none|none=>none)|none=>none)|none=>none)=ok r:=h;cases e:gg z.1 with
  |none=>rw[e]at h;cases h
  |some d =>
   rw[e]at h;have h:(match keyOf z.2 with|some c=>(match bY d.1 d.2 c with|some v=>if aT anyF v=false then ok v else none|none=>none)|none=>none)=ok r:=h;cases b:keyOf z.2 with
   |none=>rw[b]at h;cases h
   |some c =>
    rw[b]at h;have h:(match bY d.1 d.2 c with|some v=>if aT anyF v=false then ok v else none|none=>none)=ok r:=h;cases a:bY d.1 d.2 c with
    |none=>rw[a]at h;cases h
    |some v =>
     rw[a]at h;obtain⟨i,rfl⟩:=p9 (show(if aT anyF v=false then ok v else none)=ok r from h);obtain⟨f,j⟩:=lI e;exact⟨f,d.1,d.2,c,by rw[jh g,j,pd b],a,i⟩
def UW(K:av):R2:=λx y H Q=>∃p b cs as xs ep c v,x=.ref p/\y=.ref b/\H p=some (.ext (DO p cs as xs ep))/\dZ (a_ K H) as cs/\a_ K H b (c.map V.int)/\bY cs xs c=some v/\Q v H
theorem Gp(m:X.A.units+1<cLine):HN X (UW X.K):=by
 intro value slice pins s f H x y v u Q I k j h n;obtain⟨p,b,cs,as,xs,ep,c,w,rfl,rfl,t,z,C,B,q⟩:=h;cases k;cases j;obtain⟨g,o,U,E,V,D,O,M,S,d,_,P,L⟩:=n6 I t z;have e:=k0 (cs:=cs) D c;rw[B]at e;obtain⟨u,J,l⟩:=AG.some_of e;have:(atKey g c).map (·.2)=some u:=by rw[j4,E];exact J
 obtain⟨a,G,rfl⟩:=Option.map_eq_some_iff.mp this;exact abt (x:=a.2) d.typeIs PySem.F.slot_dict_getitem.lookup
  (wpAny_getItem_heap (Q:=λr i=>r=a.2/\EP X pins f Q r i) (abO m) (pb I C) d G ⟨rfl,w,H,I.tok _,l,q⟩) n
def mz(_:Scope)(_:ak)(e:Expr):Option (aq):=match t_ e with
 |some z=>some [z.1,z.2]
 |none=>none
theorem MR{n:Nat}(i:Φ n=DX){sc:Scope}{bl:ak}{k:Nat}(L:PX X sc bl k){e:Expr}(he:mz sc bl e=some args){cs:aF}(hs:m7 X F Φ cs args):PE X e (tD X F Φ (.cm n cs))/\PT X e (gy X F Φ (.cm n cs)):=by
 unfold mz at he;cases l:t_ e with
 |none=>rw[l]at he;cases he
 |some z =>
  rw[l]at he;cases he;obtain⟨pos,rfl⟩:=jK l;obtain⟨⟨s,r,rfl,E,D⟩,_⟩:=mi hs;have this:PE X (.Subscript z.1 z.2 pos) (tD X F Φ (.cm n [s,r])):=by
   refine PE.imp (B9 (Gp (IF L.room)) E D hs.2.2.2.2.2.1) λσ H Q j=>?_;obtain⟨R,τ,ρ,d,t,g,j⟩:=j;obtain⟨xs,b,g⟩:=aD g;rw[i]at g;obtain⟨f,cs,vs,c,rfl,o,O⟩:=Hi g;obtain⟨x,V,b⟩:=aD b;obtain⟨ys,C,b⟩:=aD b;obtain⟨y,U,W⟩:=aD C;cases W;cases b;refine tD.intro t V λv H1 q r1=>tD.intro (t.go q) U λu Z a r2=>?_;obtain⟨B,f1,q1⟩:=r1;obtain⟨A,f2,q2⟩:=r2;cases q1 with
   |cg J M I=>cases q2 with
    |tup G Y =>
     cases Y.ofInts;rcases oR I c with ⟨_,m⟩|⟨w,d',k',S,p,P,_⟩
     ·rw[o]at m;cases m
     ·rw[o]at p;cases p;refine⟨_,_,_,_,_,_,c,w,rfl,rfl,a _ _ J.dat,M.imp λ_ _ h=>a_.same a h,G,S,j w Z (q.trans a) ⟨λ_=>none,λ_ _ h=>by simp at h,?_⟩⟩;exact(nE (N':=nd X.K R (kL (gP X F) τ (iq (.cm n [s,r]))) (λ_=>none) H1) (k':=[]) P O).imp (λ_ _ h=>a_.same a h) λ_ _ _ _ h=>nd.same a h
  exact⟨this,cO this λ_=>rfl⟩
def ZA(xs:af):O D:=match three xs with
 |some z=>match gg z.1 with
  |some d=>match keyOf z.2.1 with
   |some c=>if aP anyF d.2=false/\aT anyF z.2.2=false then ok ((bY d.1 d.2 c).getD z.2.2)else none
   |none=>none
  |none=>none
 |none=>none
def vz(xs:af):O D:=match three xs with
 |some z=>match z.1 with
  |.cg f cs vs=>match keyOf z.2.2 with
   |some c=>if cG f=true/\aT anyF z.2.1=false/\cs.length<cE then ok (.cg .ow (aY cs c) (bM cs vs c z.2.1))else none
   |none=>none
  |_=>none
 |none=>none
set_option tactic.hygienic true in
theorem vy{d:D}{r:D}(h:vz (d::xs)=ok r):∃cs vs c x,d=.cg .ow cs vs/\xs=[x,.tup (c.map D.int)]/\aT anyF x=false/\cs.length<cE/\r=.cg .ow (aY cs c) (bM cs vs c x):=by
 unfold vz at h;cases b:three (d::xs)with
 |none=>rw[b]at h;cases h
 |some z =>
  rw[b]at h;have j:=Bi b;obtain⟨k,x,y⟩:=z;obtain⟨rfl,rfl⟩:d=k/\xs=[x,y]:=abD j;cases d<;>first | (cases h;done)|skip
  rename_i f cs vs;have h:(match keyOf y with|some c=>if cG f=true/\aT anyF x=false/\cs.length<cE then ok (D.cg .ow (aY cs c) (bM cs vs c x))else none|none=>none)=ok r:=h;cases a:keyOf y with
  |none=>rw[a]at h;cases h
  |some c =>
   rw[a]at h;obtain⟨⟨i,e,g⟩,rfl⟩:=p9 (show(if cG f=true/\aT anyF x=false/\cs.length<cE then ok (D.cg .ow (aY cs c) (bM cs vs c x))else none)=ok r from h);cases f<;>first | (cases i;done)|exact⟨cs,vs,c,x,rfl,by rw[pd a],e,g,rfl⟩
def tH(_:Scope)(_:ak)(a:Stmt):Option (Expr×aq):=(A8 a).bind λz=>(one z.1).bind λt=>(t_ t).bind λy=>some (y.1,[z.2,y.2])
variable {o value:Expr}{st:Stmt}
theorem xu{sc:Scope}{bl:ak}(h:tH sc bl st=some (o,args)):∃v i pos' pos,st=.Assign [.Subscript o i pos'] v pos/\args=[v,i]:=by
 obtain⟨⟨d,v⟩,c,h⟩:=bT h;obtain⟨t,b,h⟩:=bT h;obtain⟨⟨e,i⟩,a,h⟩:=bT h;cases h;obtain rfl:=ck b;obtain⟨pos,rfl⟩:=nA c;obtain⟨pos',rfl⟩:=jK a;exact⟨v,i,pos',pos,rfl,rfl⟩
mutual
theorem any_map(g:Fl->Fl):∀d:D,aT anyF (aO g d)=aT anyF d
 |.cq=>rfl
 |.bl _=>rfl
 |.int _=>rfl
 |.tup ds=>vR g ds
 |.lst _ ds=>rfl
 |.cg _ _ ds=>rfl
theorem vR(g:Fl->Fl):∀ds:af,aP anyF (aA g ds)=aP anyF ds
 |[]=>rfl
 |d::ds=>by show(aT _ _||aP _ _)=(aT _ d||aP _ ds);rw[any_map g d,vR g ds]
end
mutual
theorem xy:∀d:D,aT anyF d=false->aT b6 d=false
 |.cq,_=>rfl
 |.bl _,_=>rfl
 |.int _,_=>rfl
 |.tup ds,h=>zt ds h
 |.lst _ ds,h=>nomatch h
 |.cg _ _ ds,h=>nomatch h
theorem zt:∀ds:af,aP anyF ds=false->aP b6 ds=false
 |[],_=>rfl
 |d::ds,h=>by
  have h:=KD h;show(aT _ d||aP _ ds)=false;rw[xy d h.1,zt ds h.2];rfl
end
theorem any_ints:∀c:aa,aP anyF (c.map D.int)=false
 |[]=>rfl
 |i::c=>any_ints c
theorem JO{i:Expr}{l:Nat}{env:Env}:swapsWith value (some (.Subscript o i pos')) l env=pure false:=by
 unfold swapsWith;cases value<;>rfl
theorem BX{x:Str}{l:Pos}{i:Expr}{j to k:TE}(C:X.A.units+1<cLine)(B:PE X value j)(E:PE X (.Name x l) to)(L:PE X i k):
  PS X (.Assign [.Subscript (.Name x l) i pos'] value pos) (λD a H=>j a H λv g=>to a g λo f=>k a f λy d=>∃q b cs as xs ep c,o=.ref q/\y=.ref b/\d q=some (.ext (DO q cs as xs ep))/\dZ (a_ X.K d) as cs/\a_ X.K d b (c.map V.int)/\cs.length<sizeLine /\
   ∀e,D.nx a (upd d q (.ext (DO q (aY cs c) (mE cs as c b) (bM cs xs c v) e)))):=by
 intro pins s a H D I h;refine wpAny_Assign_Subscript (dt (B pins s a H _ I h) λr n ⟨v,g,I1,w,q1⟩=>dt (E pins n a g _ I1 q1) λu m ⟨o,f,Z,t,q2⟩=>dt (L pins m a f _ Z q2) λz s3 U=>?_) JO;obtain⟨y,d,Y,p,q,b,cs,as,xs,ep,c,S,P,M,J,O,G,q3⟩:=U;subst S P;obtain rfl:u=Value.ref q:=t;obtain rfl:z=Value.ref b:=p;exact xi C Y M J O w G λe s4 W=>⟨a,_,W,q3 e⟩
variable {ρ:br}{σ:L2.St}
theorem SI.Kz{i:Nat}(d:SI X F R τ ρ σ H)(c:ρ[i]?=some (some (.cg .ow cs ds))):
  ∃p as xs ep,σ[i]?=some (some (.ref p))/\H p=some (.ext (DO p cs as xs ep))/\τ p=some [i]/\dZ (a_ X.K H) as cs/\aE (a_ X.K H) (nd X.K R (λ_=>False) τ H) [i] 0 xs ds:=by
 obtain⟨v,b,a⟩:=d.rep i _ c;cases a with
 |cg h k r=>exact⟨_,_,_,_,b,h.1,h.2,k,r⟩
theorem He{n:Nat}(q:Φ n=vz){sc:Scope}{bl:ak}{k:Nat}(L:PX X sc bl k)(hN:X.N.Nodup)(tW:∀x,X.fn x=true){x:Str}(he:tH sc bl st=some (.Name x pos,args))
  {i:Nat} (hi:X.N[i]?=some x) (hl:L2.Loc X.env.scope x) (pe:PE X (.Name x pos) (uf i)) {cs:aF} (hs:m7 X F Φ cs args):PS X st (lW X F Φ (.mut n i cs)):=by
 obtain⟨v,ix,p1,p2,rfl,rfl⟩:=xu he;obtain⟨⟨c1,c2,rfl,h1,h2⟩,_⟩:=mi hs;refine PS.imp (BX (IF L.room) h1 pe h2) λD σ H O=>?_;obtain⟨R,τ,ρ,r,C,A,O⟩:=O;obtain⟨xs,t,A⟩:=aD A;obtain⟨y,ey,t⟩:=aD t;obtain⟨ys,qt,t⟩:=aD t;cases t;obtain⟨a,ek,Rm⟩:=aD qt;cases Rm;have J:∃cs vs c,a=.tup (c.map DI.D.int)/\ρ[i]?=some (some (.cg .ow cs vs))/\aT anyF y=false/\cs.length<cE/\r=(.nx,ρ.set i (some (.cg .ow (aY cs c) (bM cs vs c y)))):=by
  cases s:aP b6 [y,a]with
  |true =>
   obtain⟨d,d',h⟩:=Cp A s;rw[q]at h;obtain⟨cs,vs,c,U,_,j,g,_⟩:=vy h;have B:aO bo y=U/\aO bo a=.tup (c.map DI.D.int):=by
    have:=abD j;exact⟨this.1,(abD this.2).1⟩
   have a1:aT b6 y=false:=xy y (by rw[<- any_map bo y,B.1];exact g);have a2:aT b6 a=false:=xy a (by rw[<- any_map bo a,B.2];exact any_ints c);have:aP b6 [y,a]=false:=by show(aT b6 y||(aT b6 a||false))=false;rw[a1,a2];rfl
   rw[this]at s;cases s
  |false =>
   obtain⟨d,d',h,h',rfl⟩:=yu A s;rw[q]at h';obtain⟨cs,vs,c,U,rfl,j,g,B,rfl⟩:=vy h';cases j;exact⟨cs,vs,c,rfl,h,g,B,rfl⟩
 obtain⟨cs,vs,c,rfl,P,S,hc,rfl⟩:=J;obtain⟨p,as,l,ep,M,hd,W,Y,I⟩:=C.Kz P;refine tD.intro C ey λu H1 j ru=>⟨.ref p,M,tD.intro (C.go j) ek λw H2 g kB=>?_⟩
 obtain⟨τ1,f1,q1⟩:=ru;obtain⟨τ2,f2,q2⟩:=kB;cases q2 with
 | @tup _ b _ _ Z Qx =>
  cases Qx.ofInts;have f:=j.trans g;have G:=C.go f;have e:=f _ _ hd;have pw:cE=1000000:=rfl;have s:sizeLine=16777216:=abe;refine⟨p,b,cs,as,l,ep,c,rfl,rfl,e,Y.imp λ_ _ h=>a_.same f h,Z,by left,λV=>?_⟩;have z:eH H2 p (.d cs as l ep):=e;have rk:iA X R τ H2 u y:=oS ((nE (N':=nd X.K R (λ_=>False) τ H1) (k':=[]) q1 S).imp (λ_ _ h=>a_.same g h) λ_ _ _ _ h=>nd.same g h) S;obtain⟨p',ZF,Nl,ab3,YN,GC,YQ,LH,tV⟩:=G.Kz P;rw[M]at YN;cases YN;rw[e]at GC;obtain⟨E,M9⟩:=G.Pm (m:=0) (n':=.d (aY cs c) (mE cs as c b) (bM cs l c u) V) (o:=.ext (DO p (aY cs c) (mE cs as c b) (bM cs l c u) V)) (d1:=.cg .ow (aY cs c) (bM cs vs c y)) (xs':=bM cs l c u) (ds':=bM cs vs c y) P M z W (I.imp (λ_ _ h=>a_.same f h) λ_ _ _ _ h=>nd.same f h) rk aZ
   (λhN r=>.cg hN (o_ ((Y.imp λ_ _ h=>a_.same f h).imp λ_ _ h=>l7 z h) (l7 z Z)) r) (λI r=>BO (λk=>nE r S) I)
  exact O σ _ R E M9 (o9 G f (λ_ h=>h) z W)
theorem Inv.Qd{pins:ao}{s:Shared}{t':Nat}{a:Addr}{o:HO}(I:Inv X pins σ H s)(k:∀b u,s.heap.get? b=some u->h'.get? b=some u)(g:s.heap.get? a=none)(c:cQ (upd H a o) h' a o):
  H a=none/\Inv X pins σ (upd H a o) { s with heap:=h',toks:=t' }:=by
 have f:H a=none:=by
  cases q:H a with
  |none=>rfl
  |some u =>
   obtain⟨z,d⟩:=mP (I.dE a u q);rw[g]at d;exact nk d
 have up:∀b u,H b=some u->upd H a o b=some u:=λb u e=>by rw[bC (fY e f)];exact e
 refine⟨f,I.step (g':=s.gens) (d':=s.drawn) (ch:=[]) (λb j=>nomatch j) (λb o _ _ _ e _=>k b o e) (λb o _ _ _ e _=>⟨o.slots,k b o e⟩) (λb u _ e n=>?_)
  (λb o _ e=>⟨o,k b o e⟩) (λ_ _ e=>up _ _ e) (λ_ _ _ e=>up _ _ e) (λm i=>?_) (λb u e=>?_) I.bare⟩
 ·rw[bC λz=>by rw[z,g]at e;cases e];exact n
 ·obtain⟨o,l,ep,h,r⟩:=i;exact⟨o,l,ep,k _ o h,r⟩
 ·by_cases z:b=a
  ·subst z;rw[aZ]at e;cases e;exact c
  ·rw[bC z]at e;exact(I.dE b u e).oK (k b)
section
variable {X:Cx}{pins:ao}{σ:St}{H:Hp}{s:Shared}{d:Addr}{cs:az}{as:aS}{xs:ag}{ep:Nat}
theorem Ke(I:Inv X pins σ H s)(h:H d=some (.ext (DO d cs as xs ep))):∃a:Array DictEntry,kg s.heap d a ep/\a.size=as.length/\a.toList.map (·.key)=as.map Value.ref/\cs.Nodup/\as.length=cs.length/\(d==sysModules)=false:=by
 obtain⟨⟨l,o,a,k,b,n,g,e,j,c,i,m,f⟩,_⟩:=(show cQ H s.heap d (.ext (DO d cs as xs ep)) from I.dE d _ h)
 refine⟨a,⟨o,g,e,j⟩,?_,?_,i,?_,f⟩
 ·rw[<- Array.length_toList,c,<- b,List.length_map,List.length_map]
 ·rw[c,<- b,List.map_map,List.map_map];rfl
 ·rw[<- k,<- b,List.length_map,List.length_map]
end
def Xq(xs:af):O D:=match one xs with
 |some d=>match gg d with
  |some z=>ok (.lst .ow (z.1.map eJ))
  |none=>none
 |none=>none
theorem gB(g:Fl->Fl):∀cs:az,aA g (cs.map eJ)=cs.map eJ
 |[]=>rfl
 |c::cs=>by
  show aO g (eJ c)::aA g (cs.map eJ)=_;rw[gB g cs];have:∀c:aa,aA g (c.map D.int)=c.map D.int:=λc=>by
   induction c with
   |nil=>rfl
   |cons i c a=>show D.int i::aA g (c.map D.int)=_;rw[a];rfl
  show D.tup (aA g (c.map D.int))::_=_;rw[this];rfl
theorem FJ{k:bB}{a:Addr}{c:aa}(h:T a (c.map V.int)):Rep T N k (.ref a) (eJ c):=.tup h (aE.ints c)
theorem xx(hc:X.calm=true)(O:X.A.units+2<cLine):gx X (.builtin "sorted") (λxs H Q=>∃(d:Addr) (cs:az) (as:aS) (v:ag) (ep:Nat),xs=[.ref d]/\H d=some (.ext (DO d cs as v ep))/\dZ (a_ X.K H) as cs/\cs.length<64 /\
  ∀(l:Addr) (bs:aS),H l=none->dZ (a_ X.K H) bs (bK cs)->Q (.ref l) (upd H l (.lst (bs.map V.ref)))):=by
 intro pins s σ H xs us Q I r h;obtain⟨d,cs,as,v,ep,rfl,Z,x,z,q⟩:=h;obtain⟨u,rfl,D⟩:=r.one;cases D;obtain⟨es,C3,M,w,V8,hlen,y⟩:=Ke I Z;have P:qy s.heap (es.toList.map (·.key)) cs:=by
  rw[w];refine⟨by rw[List.length_map,hlen],λi G e=>?_⟩;have f:i<as.length:=by rw[hlen];exact(List.getElem?_eq_some_iff.mp e).1
  obtain⟨Gm,E,J,_⟩:=I.tuple (x.tup i as[i] G (aas f) e);exact⟨as[i],Gm,by rw[List.getElem?_map,List.getElem?_eq_getElem f];rfl,J,eF E⟩
 refine uk (I.ok.hd hc) O y C3 (by rw[M,hlen];exact z) V8 P λS h' C e p hS NN k W m=>?_;rw[w]at m;have V0:(p.toList.map λi=>(as.map Value.ref).getD i Value.none)=(p.toList.map λi=>as.getD i 0).map Value.ref:=by
  rw[List.map_map];refine aak λi f=>?_;have g:i<as.length:=by
   have:=List.mem_range.mp (k.pm.mem_iff.mp f);left
  simp[g]
 rw[V0]at m;have Wv:dZ (a_ X.K H) (p.toList.map λi=>as.getD i 0) (bK cs):=by
  rw[<- W];refine⟨by simp,λj a c b t=>?_⟩;rw[List.getElem?_map]at b t;cases n:p.toList[j]? with
  |none=>rw[n]at b;exact nk b
  |some i =>
   rw[n]at b t;have g:i<as.length:=by
    have:=List.mem_range.mp (k.pm.mem_iff.mp (aaz n));left
   cases b;cases t;exact x.tup i _ _ (by simp[g]) (by simp[show i<cs.length by left])
 have B:∀l:aS,Vals (l.map V.ref) (l.map Value.ref):=λl=>by
  induction l with
  |nil=>exact .nil
  |cons a l L=>exact .cons rfl L
 have U:sizeLine=16777216:=abe;obtain⟨Y,I'⟩:=Inv.Qd (t':=C) (o:=.lst ((p.toList.map λi=>as.getD i 0).map V.ref)) I NN hS ⟨by rw[List.length_map,List.length_map,Array.length_toList,k.sz];left,_,e,B _,m⟩;exact⟨.ref S,_,I',rfl,q S _ Y Wv⟩
def pN(xs:af):O D:=match one xs with
 |some d=>match gg d with
  |some z=>if z.1.length<64 then ok (.lst .ow ((bK z.1).map eJ))else none
  |none=>none
 |none=>none
theorem Ar{r:D}(h:pN xs=ok r):∃f cs vs,xs=[.cg f cs vs]/\cs.length<64/\r=.lst .ow ((bK cs).map eJ):=by
 unfold pN at h;cases b:one xs with
 |none=>rw[b]at h;exact nk h
 |some d =>
  rw[b]at h;have h:(match gg d with|some z=>if z.1.length<64 then ok (D.lst .ow ((bK z.1).map eJ))else none|none=>none)=ok r:=h;cases a:gg d with
  |none=>rw[a]at h;exact nk h
  |some z =>
   rw[a]at h;obtain⟨c,rfl⟩:=p9 (show(if z.1.length<64 then ok (D.lst .ow ((bK z.1).map eJ))else none)=ok r from h);obtain⟨f,e⟩:=lI a;exact⟨f,z.1,z.2,by rw[ck b,e],c,rfl⟩
theorem qM{T:mZ}{N:jf}:∀{bs:aS} {cs:az} {k:bB} {n:Nat},dZ T bs cs->aE T N k n (bs.map V.ref) (cs.map eJ)
 |[],[],_,_,_=>.nil
 |[],_::_,_,_,h=>by have:=h.len;simp at this
 |_::_,[],_,_,h=>by have:=h.len;simp at this
 |b::bs,c::cs,_,_,h=>.cons (FJ (h.tup 0 b c rfl rfl)) (qM ⟨by have:=h.len;simpa using this,λj a f e d=>h.tup (j+1) a f e d⟩)
theorem DS{n:Nat}(i:Φ n=pN){sc:Scope}{bl:ak}{k:Nat}(L:PX X sc bl k){e:Expr}(he:eO ("sorted" : Str) sc bl e=some args){cs:aF}(hs:m7 X F Φ cs args):PE X e (tD X F Φ (.cm n cs))/\PT X e (gy X F Φ (.cm n cs)):=by
 obtain⟨p,pos,a,rfl,rfl,C,B⟩:=jW he;cases cs with
 |nil=>exact hs.elim
 |cons c cs=>cases cs with
  |cons _ _=>exact hs.2.2.2.elim
  |nil =>
   have t:PA X [a] (tU X F Φ [c]):=PA.imp (cH hs.1 (PA.imp ej λ_ _ _ h=>jL h) (hs.2.1 _)) λ_ _ _ h=>fW h;have w:X.A.units+2<cLine:=aap (aca (by decide:2<=64) _) L.room.units;have this:PE X (.Call (.Name ("sorted" : Str) p) [a] [] pos) (tD X F Φ (.cm n [c])):=by
    refine PE.imp (fe (xx L.calm w) (L.gl C) (L.bl _ B) (by decide +kernel) t (he:=hs.2.1 _)) λσ H Q j=>?_;obtain⟨R,τ,ρ,d,G,g,j⟩:=j;obtain⟨xs,D,g⟩:=aD g;rw[i]at g;obtain⟨f,u,vs,rfl,y,rfl⟩:=Ar g;refine⟨R,τ,ρ,_,G,D,λI O m r1=>?_⟩;obtain⟨q,M,s⟩:=r1;obtain⟨v,rfl,r⟩:=s.one;cases r with
    |cg x z J =>
     refine⟨_,u,_,_,_,rfl,x.dat,z,y,λl bs b E=>j _ _ (m.trans (aL.upd b)) (cu.sI (m.free b) (m.trans (aL.upd b)) aZ ?_)⟩;exact qM (E.imp λ_ _ h=>a_.same (aL.upd b) h)
   exact⟨this,cO this λ_=>rfl⟩
section
variable {prog:aI}{w:World}{A:aG}{E:aB}{s:Shared}
def AI(prog:aI)(w:World)(h:Heap)(k:aa)(a:Addr):Prop:=∃(o:Obj) (items:aN) (n:Nat) (b:Addr) (i:Int) (t:Tok) (c:aa),h.get? a=some o/\o.cls=.type "tuple" /\ o.data=.seq items n/\items.toList=[.ref b,.int i t]/\k=i::c/\IsTupleKey (intKind prog w) h c b
theorem AI.inj{h:Heap}{a:Addr}{x y:aa}(k:AI prog w h x a)(j:AI prog w h y a):x=y:=by
 obtain⟨o,G,n,b,i,t,g,q,_,p,m,rfl,l⟩:=k;obtain⟨f,c,B,D,C,z,v,u,_,e,d,rfl,r⟩:=j;obtain rfl:o=f:=aat (q.symm.trans u);rw[p]at e;cases e;rw[m]at d;cases d;rw[l.inj r]
theorem AI.keeps{h h':Heap}{k:aa}{a d:Addr}{o:Obj}{es:Array DictEntry}{ep:Nat}(x:AI prog w h k a)(g:h.get? d=some o)(j:o.data=.dict es ep)(hs:Heap.SameBut d h h'):AI prog w h' k a:=by
 obtain⟨f,r,n,b,i,t,c,l,q,e,p,rfl,m⟩:=x;have u:a≠d:=by
  rintro rfl;obtain rfl:f=o:=aat (l.symm.trans g);rw[j]at e;exact nomatch e
 exact⟨f,r,n,b,i,t,c,(hs.2 a u).trans l,q,e,p,rfl,m.keeps g j hs⟩
end
section
variable {prog:aI}{w:World}{K:Type}[DecidableEq K]{knd:HeapKind prog w K}{A:aG}{E:aB}{s:Shared}
theorem ur{d a:Addr}{xs:List (K×Addr×Value)}{k:K}{v:Value}(q:knd.room A)(m:knd.is s.heap k a)(u:s.heap.DictOfH knd d xs)
  (B:∀p,atKey xs k=some p->Q p.2 { s with toks:=s.toks+knd.draws k })
  (l:atKey xs k=none->∀h',h'.DictOfH knd d (storedH xs k a v)->Heap.SameBut d s.heap h'->Q v { s with heap:=h',toks:=s.toks+knd.draws k })
  (hsz:xs.length<=sizeLine):wpAny (model prog w) A (dictSetDefault d (.ref a) v) Q E s:=by
 obtain⟨o,D,ep,f,z,c,h,t,i⟩:=u;unfold dictSetDefault
 try with_reducible refine aaF ?_
 refine aaa (knd.pyHash q m ?_);refine aaa (wpAny_dictFind_heap (s:={ s with toks:=s.toks+knd.draws k }) q m f c h t i ?_ ?_)
 ·intro g;have C:k∉xs.map (·.1):=not_mem_keys_of_get g;have l:=l (atKey_none_of_get g);refine aaa (acu (aaa (wpAny_updateDictKeys (hz:=by have e:=size_of_entries h;left) (s:={ s with toks:=s.toks+knd.draws k }) f c (aad (l _ ⟨_,_,ep+1,aaP _ f (Obj.isFreed_of_dict (Obj.data_mapDictKeys c _)),
   z.mapDictKeys _,Obj.data_mapDictKeys c _,?_,?_,?_⟩ (aaU ..))))))
  ·rw[storedH_new (atKey_none_of_get g)];simp[h,entryOfKey]
  ·rw[storedH_new (atKey_none_of_get g)];intro x b;rcases List.mem_append.mp b with b|b
   ·exact knd.keeps (t x b) f c (aaU ..)
   ·simp only[List.mem_singleton]at b;subst b;exact knd.keeps m f c (aaU ..)
  ·rw[storedH_new (atKey_none_of_get g)];rw[List.map_append,List.nodup_append];refine⟨i,by simp,?_⟩;intro x b y n;simp only[List.map_cons,List.map_nil,List.mem_singleton]at n;subst n;exact λe=>C (e▸b)
 ·intro j p r;refine aaa (aa_ (s:={ s with toks:=s.toks+knd.draws k }) f c ?_);rw[entry_at h j,r];exact aaa (acu (aad (B p (atKey_of_get i r))))
theorem se(d a:Addr)(h:(d==sysModules)=false)(v:Value):
  MeetsIn prog w (Builtin.«dict.setdefault» ⟨[.ref d,.ref a,v],[]⟩) (λA R s=>knd.room A.in1/\∃k xs,knd.is s.heap k a/\s.heap.DictOfH knd d xs/\xs.length<=sizeLine /\
   (∀p,atKey xs k=some p->R (.ok (.ret p.2)) { s with toks:=s.toks+knd.draws k }) /\
   (atKey xs k=none->∀h',h'.DictOfH knd d (storedH xs k a v)->Heap.SameBut d s.heap h'->R (.ok (.ret v)) { s with heap:=h',toks:=s.toks+knd.draws k })) :=
 .of_wp λA R s l=>by
  obtain⟨e,k,xs,n,b,c,j,i⟩:=l;unfold Builtin.«dict.setdefault»;refine aaa ?_;unfold Builtin.Dict.keyAndDefault;refine aaa (abZ b.typeIs ?_);show wpAny _ _ (pure (d,Value.ref a,some v)) _ _ s;refine aad ?_;show wpAny _ _ (if (d==sysModules)=true then _ else(dictSetDefault d (.ref a) v >>= _)) _ _ s;rw[if_neg (by rw[h];exact Bool.false_ne_true)];exact aaa (ur e n b (λp f=>aad ⟨p.2,rfl,j p f⟩) (λg h' m q=>aad ⟨v,rfl,i g h' m q⟩) c)
end
section
variable {X:Cx}{pins:ao}{σ:St}{H:Hp}{s:Shared}{p b:Addr}{cs:az}{as:aS}{xs:ag}{ep:Nat}{c:aa}{A:aG}{E:aB}
end
theorem CV{A:aG}{k:Nat}(a:gU k A):A.units+2<cLine:=aap (aca (by decide:2<=64) _) a.units
noncomputable def oU:Fl->Bool
 |.fz=>false
 |_=>true
theorem Kd{A A':Addr->Prop}{τ':Addr->Option bB}{k:bB}{v:V}{d:D}(h:Rep (a_ K H) (nd K R A τ H) k v d)(b:aT oU d=false):Rep (a_ K H) (nd K R A' τ' H) k' v d:=by
 have:=Rep.gen (T':=a_ K H) (N':=nd K R A' τ' H) (g:=id) (P:=oU) (C:=λ_ _=>True) (I:=λ_ _=>True) (λ_ _ h=>h) trivial (λ_ _ e=>e) (λ_ _ _ _ e _=>e) (λk k' p xs f _ a h=>by
  cases f<;>first | (cases a;done)|exact h) h (k':=k') trivial b
 rw[eC]at this;exact this
def l_:az->af->aa->D->Option (af)
 |[],vs,_,d=>if vs.length=0 then some [.lst .ow [d]]else none
 |c'::cs,vs,c,d=>match vs with
  |[]=>none
  |v::vs=>if c'=c then(match Cc v with
    |some a=>if a.length<cE then some (.lst .ow (a++[d])::vs)else none
    |none=>none)else(l_ cs vs c d).map (v :: ·)
theorem yP{a:Type}{c:aa}:∀{cs:az} {xs:List a},c∉cs->bY cs xs c=none
 |[],_,_=>by unfold bY;rfl
 |c'::cs,[],_=>rfl
 |c'::cs,x::xs,h=>by
  show(if c'=c then some x else bY cs xs c)=none;rw[if_neg (λe:c'=c=>h (e▸List.mem_cons_self)),yP λz=>h (List.mem_cons_of_mem _ z)]
theorem xK{d:D}:∀{vs:af} {j n m:Nat},qE (j+m) d (n+m) vs=qE j d n vs
 |[],_,_,_=>rfl
 |v::vs,j,n,m=>by
  show(if n+m=j+m then d else v)::qE (j+m) d (n+m+1) vs=(if n=j then d else v)::qE j d (n+1) vs;rw[show n+m+1=n+1+m by left,xK];by_cases e:n=j
  ·rw[if_pos e,if_pos (by left)]
  ·rw[if_neg e,if_neg (by left)]
theorem A9{d:D}:∀{vs:af} {j n:Nat},j<n->qE j d n vs=vs
 |[],_,_,_=>rfl
 |v::vs,j,n,h=>by
  show(if n=j then d else v)::qE j d (n+1) vs=_;rw[if_neg (by left),A9 (by left)]
theorem sf{c:aa}{d:D}:∀{cs:az} {vs ws:af},l_ cs vs c d=some ws->(c∉cs/\cs.length=vs.length/\ws=vs++[.lst .ow [d]])\/∃j a,vs[j]?=some (.lst .ow a)/\a.length<cE/\c∈cs/\(∀(xs:ag),xs.length=vs.length->bY cs xs c=xs[j]?)/\ws=qE j (.lst .ow (a++[d])) 0 vs
 |[],vs,ws,h=>by
  unfold l_ at h;by_cases g:vs.length=0
  ·rw[if_pos g]at h;cases h;obtain rfl:=List.length_eq_zero_iff.mp g;exact .inl ⟨by simp,rfl,rfl⟩
  ·rw[if_neg g]at h;exact nk h
 |c'::cs,[],ws,h=>nk h
 |c'::cs,v::vs,ws,h=>by
  have h:(if c'=c then(match Cc v with|some a=>if a.length<cE then some (D.lst .ow (a++[d])::vs)else none|none=>none)else(l_ cs vs c d).map (v :: ·))=some ws:=h;by_cases e:c'=c
  ·rw[if_pos e]at h;cases b:Cc v with
   |none=>rw[b]at h;exact nk h
   |some a =>
    rw[b]at h;have h:(if a.length<cE then some (D.lst .ow (a++[d])::vs)else none)=some ws:=h;by_cases i:a.length<cE
    ·rw[if_pos i]at h;cases h;refine .inr ⟨0,a,by rw[wH b];rfl,i,e▸aae,λxs f=>?_,?_⟩
     ·cases xs with
      |nil=>cases f
      |cons x xs=>exact aaR e
     ·show _=(if 0=0 then _ else v)::qE 0 _ 1 vs;rw[if_pos rfl,A9 (by left)]
    ·rw[if_neg i]at h;exact nk h
  ·rw[if_neg e]at h;obtain⟨p,b,rfl⟩:=Option.map_eq_some_iff.mp h;rcases sf b with ⟨l,k,rfl⟩|⟨j,a,l,k,n,m,rfl⟩
   ·exact .inl ⟨λz=>(List.mem_cons.mp z).elim (λq=>e q.symm) l,by rw[List.length_cons,List.length_cons,k],rfl⟩
   ·refine .inr ⟨j+1,a,l,k,aac _ n,λxs f=>?_,?_⟩
    ·cases xs with
     |nil=>cases f
     |cons x xs =>
      show(if c'=c then some x else bY cs xs c)=_;rw[if_neg e,m xs (Nat.succ.inj f)];rfl
    ·show _=(if 0=j+1 then _ else v)::qE (j+1) _ (0+1) vs;rw[if_neg (by left),xK]
def XU(e:Expr):Option (Expr×Expr):=(rS e).bind λz=>(xI z.1).bind λy=>(two z.2.1).bind λw=>(Jz w.2).bind λl =>
 if y.2.1=("setdefault" : Str)/\z.2.2.1.isEmpty=true/\(y.2.2.endLine==z.2.2.2.line)=true/\l.isEmpty=true then some (y.1,w.1)else none
theorem Jx{e k:Expr}(h:XU e=some (o,k)):∃d c i,e=.Call (.Attribute o ("setdefault" : Str) d) [k,.List [] i] [] c/\(d.endLine==c.line)=true:=by
 obtain⟨⟨f,as,s,c⟩,p,h⟩:=bT h;obtain⟨⟨q,r,d⟩,n,h⟩:=bT h;obtain⟨⟨a,b⟩,m,h⟩:=bT h;obtain⟨l,j,h⟩:=bT h;obtain⟨g,h⟩:=gT h;cases h;obtain rfl:=l3 p;obtain rfl:=oF n;obtain rfl:=jh m;obtain⟨i,rfl⟩:=xF j;obtain rfl:=F8 g.2.1;obtain rfl:=F8 g.2.2.2;obtain rfl:=g.1;exact⟨d,c,i,rfl,g.2.2.1⟩
def xp(_:Scope)(_:ak)(st:Stmt):Option (Expr×aq):=(ua ("append" : Str) st).bind λz=>(one z.2).bind λe=>(XU z.1).bind λy=>some (y.1,[y.2,e])
theorem Au{sc:Scope}{bl:ak}(h:xp sc bl st=some (o,args)):∃k e f d c a g pos,args=[k,e]/\st=.Expr (.Call (.Attribute (.Call (.Attribute o ("setdefault" : Str) f) [k,.List [] g] [] d) ("append" : Str) c) [e] [] a) pos/\(f.endLine==d.line)=true/\(c.endLine==a.line)=true:=by
 obtain⟨⟨b,as⟩,n,h⟩:=bT h;obtain⟨e,m,h⟩:=bT h;obtain⟨⟨p,k⟩,l,h⟩:=bT h;cases h;obtain rfl:=ck m;obtain⟨f,d,g,rfl,j⟩:=Jx l;obtain⟨c,a,pos,rfl,i⟩:=oE n;exact⟨k,e,f,d,c,a,g,pos,rfl,rfl,j,i⟩
variable {kd:D}
set_option tactic.hygienic true in
theorem KW{n i:Nat}{d:D}{r:Fo×br}(h:Cq Φ n i ρ kd d=ok r):∃x a,ρ[i]?=some (some x)/\aT anyF kd=false/\aT anyF d=false/\Φ n [x,kd,d]=ok a/\r=(.nx,ρ.set i (some a)):=by
 unfold Cq at h;split at h
 ·rename_i x c;split at h
  ·rename_i b;obtain⟨a,f,e⟩:=aD h;cases e;exact⟨x,a,c,b.1,b.2,f,rfl⟩
  ·cases h
 ·cases h
section
variable {X:Cx}{F R:aj}{τ:Addr->Option bB}{ρ:br}{σ:St}{H:Hp}
theorem SI.drop(i:Nat)(S:SI X F R τ ρ σ H):SI X F R τ (ρ.set i none) σ H:=by
 refine⟨by simp[S.len],λj d a=>?_,S.rt,S.rh,S.rf,S.th,S.t0,S.same⟩;have b:i≠j:=by
  rintro rfl;by_cases h:i<ρ.length
  ·rw[List.getElem?_set_self h]at a;cases a
  ·rw[List.getElem?_eq_none (by rw[List.length_set];left)]at a;cases a
 rw[List.getElem?_set_ne b]at a;exact S.rep j d a
end
section
variable {X:Cx}{pins:ao}{σ:St}{H:Hp}{s:Shared}{p b:Addr}{cs:az}{as:aS}{xs:ag}{ep:Nat}{c:aa}{A:aG}{E:aB}
theorem DU{r:Value}{v:V}{t:Nat}{zs:List (aa×Addr×Value)}(I:Inv X pins σ H s)(h:H p=some (.ext (DO p cs as xs ep)))(d:zs.map (·.1)=cs)(O:zs.map (·.2.1)=as)(M:Vals xs (zs.map (·.2.2)))(W:cs.length<sizeLine)(hs:(p==sysModules)=false)(i:RelV v r)
  (P:h'.DictOfH (tupleKind (intKind X.prog X.w)) p (storedH zs c b r)) (g:Heap.SameBut p s.heap h'):∃e,Inv X pins σ (upd H p (.ext (DO p (aY cs c) (mE cs as c b) (bM cs xs c v) e))) { s with heap:=h',toks:=t }:=by
 obtain⟨q,U,e,f,y,u,n,_,m⟩:=P;refine⟨e,I.write (x:=p) (by rw[h];exact True.intro) (λb q l z=>(g.2 b l).trans z) ⟨q,f⟩ ⟨⟨storedH zs c b r,q,U,?_,?_,?_,f,y,u,n,?_,?_,hs⟩,⟨q,f⟩,?_⟩⟩
 ·rw[gz,d]
 ·rw[mN,d,O]
 ·rw[mM,d];exact t8 M i
 ·rw[<- d,<- gz (zs:=zs) (c:=c) b r];exact m
 ·unfold aY;split
  ·left
  ·rw[List.length_append,List.length_singleton];left
 ·rintro Y Z ⟨S,j,a,L,J,G,C,B⟩ k;exact⟨S,j,a,L,J,G,k _ C,B⟩
theorem Aq{z:V}{r:Value}(Z:A.units+2<cLine)(I:Inv X pins σ H s)(h:H p=some (.ext (DO p cs as xs ep)))(k:dZ (a_ X.K H) as cs)(J:a_ X.K H b (c.map V.int))(x:RelV z r)(O:cs.length<sizeLine)
  (M:∀v i d,bY cs xs c=some v->Inv X pins σ H d->RelV v i->Q i d)
  (L:c∉cs->∀g d,Inv X pins σ (upd H p (.ext (DO p (aY cs c) (mE cs as c b) (bM cs xs c z) g))) d->Q r d) :
  wpAny (model X.prog X.w) A (call (.builtin "dict.setdefault") [.ref p,.ref b,r]) Q E s:=by
 obtain⟨a,o,es,f,P,m,ho,Y,hd,n,_,l,j⟩:=n6 I h k;have y:a.length<=sizeLine:=by rw[<- f,List.length_map]at l;exact l
 refine call_meetsIn PySem.F.slot_dict_setdefault n.typeIs PySem.F.entry_dict_setdefault (PySem.F.args_dict_setdefault_3 _ _ _) (se (knd:=tupleKind (intKind X.prog X.w)) p b j r) ⟨abO (by left),c,a,pb I J,n,y,λq B=>?_,λC h' S u=>?_⟩
 ·have e:=k0 (cs:=cs) m c;have:(atKey a c).map (·.2)=bY cs (a.map (·.2.2)) c:=by rw[j4,f]
  rw[B]at this;rw[<- this]at e;cases q2:bY cs xs c with
  |none=>rw[q2]at e;exact e.elim
  |some v=>rw[q2]at e;exact M v _ _ q2 (I.tok _) e
 ·have U:c∉cs:=λG=>by
   have:=(dX a c).mpr (by rw[f];exact G);rw[C]at this;cases this
  obtain⟨g,W⟩:=DU (t:=s.toks+(tupleKind (intKind X.prog X.w)).draws c) I h f P m O j x S u;exact L U g _ W
end
theorem Ku{x:Str}{p E f:Pos}{a b:Expr}{w:TE}{y:TA}(U:X.A.units+2<cLine)(W:PE X (.Name x p) w)(ha:PA X [a,b] y)(C:∀e,starEach (a::e) X.env=(false,eval a X.env)::starEach e X.env)(B:∀e,starEach (b::e) X.env=(false,eval b X.env)::starEach e X.env)(Z:(E.endLine==f.line)=true):
  PE X (.Call (.Attribute (.Name x p) ("setdefault" : Str) E) [a,b] [] f) (λσ H Q=>w σ H λv g=>∃q cs as xs ep,v=.ref q/\g q=some (.ext (DO q cs as xs ep))/\y σ g λt d=>∃k c z,t=[.ref k,z]/\d q=some (.ext (DO q cs as xs ep))/\dZ (a_ X.K d) as cs/\a_ X.K d k (c.map V.int)/\cs.length<sizeLine/\(∀u,bY cs xs c=some u->Q u d)/\(c∉cs->∀l,Q z (upd d q (.ext (DO q (aY cs c) (mE cs as c k) (bM cs xs c z) l))))):=by
 intro pins s σ H Q I h;refine wpAny_Call_method rfl (by rw[C,B];rfl) Z PySem.F.plainAttrs_dict PySem.F.slot_dict_setdefault PySem.F.type_dict_setdefault (dt (W pins s σ H _ I h) λu i n=>?_);obtain⟨v,g,L,O,q,cs,as,xs,ep,ex,hd,q1⟩:=n;subst ex;obtain rfl:u=Value.ref q:=O;obtain⟨t1,t2⟩:=dict_cls L hd;refine⟨t1,t2,?_⟩;have G:=ha f pins i σ g _ L q1;rw[C]at G ⊢;refine abU (by show(false||(backTo f (starEach [b] X.env)).any (·.1))=false;rw[B];rfl) (Calls.evalArgs_plain ?_);refine dt G λus s3 n=>?_;obtain⟨t,d,I2,r2,k,c,z,ey,m,hk,hb,gD,q2,q3⟩:=n;subst ey;obtain⟨w1,w2,rfl,j,J⟩:=vals2 r2;cases j;exact Aq U I2 m hk hb J gD (λv w' M S r P=>⟨v,d,r,P,q2 v S⟩) λY l M r=>⟨z,_,r,J,q3 Y l⟩
theorem xN{k:bB}{v:V}{d:D}{c:aa}(a:keyOf d=some c)(r:Rep T N k v d):∃b,v=.ref b/\T b (c.map V.int):=by
 rw[pd a]at r;obtain⟨b,xs,rfl,e,r1⟩:=r.Ju;cases r1.ofInts;exact⟨b,rfl,e⟩
def xg(xs:af):O D:=match two xs with
 |some z=>match gg z.1 with
  |some d=>match keyOf z.2 with
   |some c=>match bY d.1 d.2 c with
    |some v=>if aT oU v=false then ok v else none
    |none=>none
   |none=>none
  |none=>none
 |none=>none
theorem Ha{r:D}(h:xg xs=ok r):∃f cs vs c kd,xs=[.cg f cs vs,kd]/\keyOf kd=some c/\bY cs vs c=some r/\aT oU r=false:=by
 unfold xg at h;cases g:two xs with
 |none=>rw[g]at h;cases h
 |some z =>
  rw[g]at h;have h:(match gg z.1 with|some d=>(match keyOf z.2 with|some c=>(match bY d.1 d.2 c with|some v=>if aT oU v=false then ok v else none|none=>none)|none=>none)|none=>none)=ok r:=h;cases e:gg z.1 with
  |none=>rw[e]at h;cases h
  |some d =>
   rw[e]at h;have h:(match keyOf z.2 with|some c=>(match bY d.1 d.2 c with|some v=>if aT oU v=false then ok v else none|none=>none)|none=>none)=ok r:=h;cases b:keyOf z.2 with
   |none=>rw[b]at h;cases h
   |some c =>
    rw[b]at h;have h:(match bY d.1 d.2 c with|some v=>if aT oU v=false then ok v else none|none=>none)=ok r:=h;cases a:bY d.1 d.2 c with
    |none=>rw[a]at h;cases h
    |some v =>
     rw[a]at h;obtain⟨i,rfl⟩:=p9 (show(if aT oU v=false then ok v else none)=ok r from h);obtain⟨f,j⟩:=lI e;exact⟨f,d.1,d.2,c,z.2,by rw[jh g,j],b,a,i⟩
def Kg(K:av):R2:=λx y H Q=>∃p b cs as xs ep c v,x=.ref p/\y=.ref b/\H p=some (.ext (DO p cs as xs ep))/\dZ (a_ K H) as cs/\a_ K H b (c.map V.int)/\bY cs xs c=some v/\Q v H
theorem CM(M:X.A.units+2<cLine):HN X (Kg X.K):=by
 intro value slice pins s σ H x y v u Q I j i h l;obtain⟨p,b,cs,as,xs,ep,c,w,rfl,rfl,m,n,z,t,q⟩:=h;cases j;cases i;obtain⟨f,o,U,C,V,B,O,L,S,d,_,P,J⟩:=n6 I m n;have e:=k0 (cs:=cs) B c;rw[t]at e;obtain⟨u,G,k⟩:=AG.some_of e;have:(atKey f c).map (·.2)=some u:=by rw[j4,C];exact G
 obtain⟨a,E,rfl⟩:=Option.map_eq_some_iff.mp this;exact abt (x:=a.2) d.typeIs PySem.F.slot_dict_getitem.lookup
  (wpAny_getItem_heap (knd:=tupleKind (intKind X.prog X.w)) (Q:=λr g=>r=a.2/\EP X pins σ Q r g) (abO (by left)) (pb I z) d E ⟨rfl,w,H,I.tok _,k,q⟩) l
theorem MI{n:Nat}(j:Φ n=xg){sc:Scope}{bl:ak}{k:Nat}(L:PX X sc bl k){e:Expr}(he:mz sc bl e=some args){cs:aF}(hs:m7 X F Φ cs args):PE X e (tD X F Φ (.cm n cs))/\PT X e (gy X F Φ (.cm n cs)):=by
 unfold mz at he;cases p:t_ e with
 |none=>rw[p]at he;cases he
 |some z =>
  rw[p]at he;cases he;obtain⟨pos,rfl⟩:=jK p;obtain⟨⟨B,A,rfl,M,J⟩,_⟩:=mi hs;have this:PE X (.Subscript z.1 z.2 pos) (tD X F Φ (.cm n [B,A])):=by
   refine PE.imp (B9 (CM (CV L.room)) M J hs.2.2.2.2.2.1) λσ H Q l=>?_;obtain⟨R,τ,ρ,d,C,i,l⟩:=l;obtain⟨xs,g,i⟩:=aD i;rw[j]at i;obtain⟨f,cs,vs,c,kd,rfl,m,r,U⟩:=Ha i;obtain⟨x,ex,g⟩:=aD g;obtain⟨ys,I,g⟩:=aD g;obtain⟨y,Z,Rm⟩:=aD I;cases Rm;cases g;refine tD.intro C ex λv H1 t r1=>tD.intro (C.go t) Z λu H2 a r2=>?_;obtain⟨G,f1,q1⟩:=r1;obtain⟨E,f2,q2⟩:=r2;obtain⟨b,rfl,V⟩:=xN m q2;cases q1 with
   |cg P S O =>
    rcases oR O c with ⟨_,q⟩|⟨w,d',k',Y,s,W,_⟩
    ·rw[r]at q;cases q
    ·rw[r]at s;cases s;refine⟨_,b,_,_,_,_,c,w,rfl,rfl,a _ _ P.dat,S.imp λ_ _ h=>a_.same a h,V,Y,l w H2 (t.trans a) ⟨λ_=>none,λ_ _ h=>by simp at h,?_⟩⟩;exact(Kd (A':=kL (gP X F) τ (iq (.cm n [B,A]))) (τ':=λ_=>none) (k':=[]) W U).imp (λ_ _ h=>a_.same a h) λ_ _ _ _ h=>nd.same a h
  exact⟨this,cO this λ_=>rfl⟩
def we(xs:af):O D:=match three xs with
 |some z=>match z.1 with
  |.cg f cs vs=>match keyOf z.2.1 with
   |some c=>match l_ cs vs c z.2.2 with
    |some a=>if cG f=true/\cs.length<cE then ok (.cg .ow (aY cs c) a)else none
    |none=>none
   |none=>none
  |_=>none
 |none=>none
set_option tactic.hygienic true in
theorem Fc{x d r:D}(h:we [x,kd,d]=ok r):∃cs vs c a,x=.cg .ow cs vs/\keyOf kd=some c/\l_ cs vs c d=some a/\cs.length<cE/\r=.cg .ow (aY cs c) a:=by
 cases x<;>first|exact nk h | (cases h;done)|skip
 rename_i f cs vs;replace h:(match keyOf kd with|some c=>(match l_ cs vs c d with|some a=>if cG f=true/\cs.length<cE then ok (D.cg .ow (aY cs c) a)else none|none=>none)|none=>none)=ok r:=h;cases e:keyOf kd with
 |none=>rw[e]at h;exact nk h
 |some c =>
  rw[e]at h;replace h:(match l_ cs vs c d with|some a=>if cG f=true/\cs.length<cE then ok (D.cg .ow (aY cs c) a)else none|none=>none)=ok r:=h;cases b:l_ cs vs c d with
  |none=>rw[b]at h;exact nk h
  |some a =>
   rw[b]at h;obtain⟨⟨i,g⟩,rfl⟩:=p9 (show(if cG f=true/\cs.length<cE then ok (D.cg .ow (aY cs c) a)else none)=ok r from h);cases f<;>first | (cases i;done)|exact⟨cs,vs,c,a,rfl,rfl,b,g,rfl⟩
section
variable {X:Cx}{F R:aj}{τ:Addr->Option bB}{ρ:br}{σ:St}{H:Hp}
theorem SI.Xx{i j:Nat}{vs gs:af}{d:D}{u:V}{p q:Addr}{xs:ag}(l:SI X F R τ ρ σ H)(C:ρ[i]?=some (some (.cg .ow cs vs)))(A:σ[i]?=some (some (.ref q)))(B:H q=some (.ext (DO q cs as xs ep)))(r:τ q=some [i])(E:dZ (a_ X.K H) as cs)
  (rs:aE (a_ X.K H) (nd X.K R (λ_=>False) τ H) [i] 0 xs vs) (v:xs[j]?=some (.ref p)) (G:vs[j]?=some (.lst .ow gs)) {k:bB} (y:Rep (a_ X.K H) N k u d) (I:aT anyF d=false) :
  ∃e,H p=some (.lst e)/\e.length=gs.length/\τ p=some [j,i]/\SI X F R τ (ρ.set i (some (.cg .ow cs (qE j (.lst .ow (gs++[d])) 0 vs)))) σ (upd H p (.lst (e++[u]))):=by
 obtain⟨w,hw,t⟩:=rs.get G;rw[Nat.zero_add]at t;rw[v]at hw;cases hw;cases t with
 | @lst _ _ e _ _ b s =>
 refine⟨e,b.1,s.length,b.2,l.clr C b.1 b.2 A (.cg (as:=as) (ep:=ep) (xs:=xs) (l.S3 (n:=.d cs as xs ep) (f:=.ow) b.1 b.2 (λz=>?_) ⟨B,r⟩) (E.imp λ_ _ h=>jM b.1 h) (aE.qE (λ_ _ h=>jM b.1 h) (λc m a n f g h=>l.S3 b.1 b.2 (λz=>?_) h) rs λm w x g=>?_))⟩
 ·have:=aaV List.length z;simp at this
 ·have:=aaV List.reverse z;simp at this;exact g this.1
 ·rw[Nat.zero_add]at g;subst g;rw[v]at x;cases x;refine .lst ⟨aZ,b.2⟩ (aE.xZ (aE.child (λ_ _ h=>jM b.1 h) (λc n a J f h=>l.S3 b.1 b.2 (λz=>?_) h) s) ((nE (N':=nd X.K R (λ_=>False) τ (upd H p (.lst (e++[u])))) y I).imp (q:=(0+gs.length)::[m,i]) (λ_ _ h=>jM b.1 h) λ_ _ _ _ h=>h))
  ·have:=aaV List.length z;simp at this
end
theorem JG{n:Nat}(hΦ:Φ n=we){sc:Scope}{bl:ak}{k:Nat}(L:PX X sc bl k)(hN:X.N.Nodup)(tW:∀x,X.fn x=true){x:Str}(he:xp sc bl st=some (.Name x pos,args))
  {i:Nat} (hi:X.N[i]?=some x) (hl:L2.Loc X.env.scope x) (pe:PE X (.Name x pos) (uf i)) {c1 c2:CE} (hs:m7 X F Φ [c1,c2] args):PS X st (lW X F Φ (.mu2 n i c1 c2)):=by
 obtain⟨ke,ve,p1,p2,p3,p4,pl,pos',rfl,rfl,AS,wY⟩:=Au he;obtain⟨⟨a1,a2,e0,h1,h2⟩,_,s1,s2⟩:=mi hs;cases e0;refine PS.imp (nH (Ca abS abN PySem.F.type_list_append qW (Ku (CV L.room) pe (cH h1 (cH (B8 ej) ej) (s1 _)) s1 (λ_=>rfl) AS) (cH h2 ej (s2 _)) (hfew:=by rw[s2];rfl) (hline:=wY) (hs:=s2 _))) λD σ H hq=>?_;obtain⟨R,τ,ρ,r,A,J,hq⟩:=hq;obtain⟨kd,ekd,J⟩:=aD J;obtain⟨d,ed,J⟩:=aD J;obtain⟨x0,x',E,hfk,hfd,Ez,rfl⟩:=KW J;rw[hΦ]at Ez;obtain⟨cs,vs,c,Y,rfl,hkc,YS,pw,rfl⟩:=Fc Ez;obtain⟨q,as,xs,ep,hv,G,ht,hk,t⟩:=A.Kz E;have hc0:cE=1000000:=rfl;have Lu:sizeLine=16777216:=abe;have NO:i<ρ.length:=by
  by_cases z:i<ρ.length
  ·exact z
  ·rw[List.getElem?_eq_none (by left)]at E;cases E
 have fin:∀{f:Hp} {τ':Addr->Option bB} {ρ1:br} {B:az} {Xw:aS} {S:ag} {Zh:Nat} {vs1 gs:List DI.D} {j:Nat} {u:V},SI X F R τ' ρ1 σ f->Kp R H R f->ρ1[i]?=some (some (.cg .ow B vs1))->ρ1.set i none=ρ.set i none->vs1[j]?=some (.lst .ow gs)->gs.length<cE->B=aY cs c->Y=qE j (.lst .ow (gs++[d])) 0 vs1 ->
   f q=some (.ext (DO q B Xw S Zh))->τ' q=some [i]->dZ (a_ X.K f) Xw B->aE (a_ X.K f) (nd X.K R (λ_=>False) τ' f) [i] 0 S vs1->S[j]?=some u->Sg X.K "list" u f/\Bs (tD X F Φ c2) JL σ f λxs H2=>yi u xs H2 λ_ H3=>D.nx σ H3:=by
  intro f τ' ρ1 B Xw S Zh vs1 gs j u gJ kp IG Qu hj hg ek ew GC YQ LH tV YL;have ZG:=gJ.drop i;rw[Qu]at ZG;obtain⟨w,hw,kB⟩:=tV.get hj;rw[YL]at hw;cases hw;obtain⟨l,zs,rfl,M,rz⟩:=kB.rR;refine⟨⟨rfl,_,dY.of M.1⟩,tD.intro ZG ed λy H3 g r3=>?_⟩;obtain⟨W,f3,q3⟩:=r3;obtain⟨ZW,I,g5,g6,ZH⟩:=(gJ.go g).Xx IG hv (g _ _ GC) YQ (LH.imp λ_ _ h=>a_.same g h) (tV.imp (λ_ _ h=>a_.same g h) λ_ _ _ _ h=>nd.same g h) YL hj q3 hfd;refine⟨l,ZW,y,rfl,rfl,I,by left,?_⟩;have er:ρ1.set i (some (.cg .ow B (qE j (.lst .ow (gs++[d])) 0 vs1)))=ρ.set i (some (.cg .ow (aY cs c) Y)):=by
   rw[ek,<- ew];have:=aaV (λz:br=>z.set i (some (.cg .ow (aY cs c) Y))) Qu;simpa using this
  rw[er]at ZH;exact hq σ _ R τ' ZH (kp.trans (o9 (n:=.l _) (gJ.go g) g (λ_ h=>h) I g6))
 refine⟨.ref q,hv,q,cs,as,xs,ep,rfl,G,tD.intro A ekd λu p e1 ru=>⟨by simp,λl M=>?_⟩⟩;obtain⟨τ1,f1,r1⟩:=ru;obtain⟨b,rfl,hb⟩:=xN hkc r1;have e2:aL p (upd p l (.lst [])):=aL.upd M;have e:=e1.trans e2;have Z:=A.go e;have P:=hk.imp λ_ _ h=>a_.same e h;have Wx:a_ X.K (upd p l (.lst [])) b (c.map V.int):=a_.same e2 hb;have Eu:aE (a_ X.K (upd p l (.lst []))) (nd X.K R (λ_=>False) τ (upd p l (.lst []))) [i] 0 xs vs:=t.imp (λ_ _ h=>a_.same e h) λ_ _ _ _ h=>nd.same e h;refine⟨b,c,.ref l,rfl,e _ _ G,P,Wx,by left,λw hw=>?_,λhn lH=>?_⟩
 ·rcases sf YS with ⟨U,_,_⟩|⟨j,gs,g1,g2,g3,I,g5⟩
  ·rw[yP U]at hw;exact nk hw
  ·rw[I xs t.length]at hw;exact fin Z (Kp.of e λ_ h=>h) E rfl g1 g2 (by unfold aY;rw[if_pos g3]) g5 (e _ _ G) ht P Eu hw
 ·rcases sf YS with ⟨U,hlen,hws⟩|⟨j,gs,g1,g2,g3,I,g5⟩
  ·have s:H l=none:=e1.free M;have hlq:l≠q:=λz=>by rw[z,G]at s;cases s
   have rk:iA X R τ (upd p l (.lst [])) (.ref l) (.lst .ow []):=⟨λa=>if a=l then some []else none,λa z hz=>by
    by_cases ha:a=l
    ·subst ha;refine⟨?_,λhr=>A.rh a hr s,?_,by rw[aZ];simp⟩
     ·cases VQ:τ a with
      |none=>rfl
      |some z=>exact absurd s (A.th a z VQ)
     ·cases O:X.H₀ a with
      |none=>rfl
      |some o=>rw[A.same a o O]at s;cases s
    ·simp[ha]at hz,.lst ⟨aZ,by simp⟩ .nil⟩
   have C:eH (upd p l (.lst [])) q (.d cs as xs ep):=e _ _ G;have ekc:aY cs c=cs++[c]:=by unfold aY;rw[if_neg U]
   have Zg:bM cs xs c (.ref l)=xs++[.ref l]:=by unfold bM;rw[if_neg U]
   obtain⟨W,M9,ht3,rs3⟩:=Z.Pl (m:=vs.length) (n':=.d (aY cs c) (mE cs as c b) (bM cs xs c (.ref l)) lH) (o:=.ext (DO q (aY cs c) (mE cs as c b) (bM cs xs c (.ref l)) lH)) (d1:=.cg .ow (aY cs c) (vs++[.lst .ow []])) (xs':=bM cs xs c (.ref l)) (ds':=vs++[.lst .ow []]) E hv C ht Eu rk aZ
    (λhN r=>.cg hN (o_ (P.imp λ_ _ h=>l7 C h) (l7 C Wx)) r) (λt r=>by have h:=aE.xZ t (by simpa using r);rw[<- Zg]at h;exact h)
   refine fin (vs1:=vs++[.lst .ow []]) (gs:=[]) (j:=vs.length) M9 (o9 Z e (λ_ h=>h) C ht) (by rw[List.getElem?_set_self NO]) (by simp) (by simp) (by simp;left) rfl ?_ aZ ht3 (o_ (P.imp λ_ _ h=>l7 C h) (l7 C Wx)) rs3 (by rw[Zg,List.getElem?_append_right (by rw[t.length];exact Nat.le_refl _),t.length];simp);rw[hws];have:∀(vs:List DI.D) (n:Nat),qE (n+vs.length) (.lst .ow [d]) n (vs++[.lst .ow []])=vs++[.lst .ow [d]]:=λvs=>by
    induction vs with
    |nil=>intro n;show(if n=n+0 then _ else _)::qE _ _ _ []=_;rw[if_pos (by left)];rfl
    |cons v vs ih =>
     intro n;show(if n=n+(vs.length+1)then _ else v)::qE (n+(vs.length+1)) _ (n+1) (vs++[.lst .ow []])=_;rw[if_neg (by left),show n+(vs.length+1)=n+1+vs.length by left,ih];rfl
   have O:=this vs 0;rw[Nat.zero_add]at O;exact O.symm
  ·exact absurd g3 hn
end DI
end
section
namespace DI
open PySem PySem.Spec PyProof.Rows L2
open AutoSeq1 (wpAny_loadPart')
section
variable {prog:aI}{w:World}{A:aG}{E:aB}{s:Shared}
theorem qv{R:au->Shared->Prop}{r:Addr}{a b c:Int}{t u v:Tok}{n:Nat}(J:A.handled=none)(H:IsRange s.heap r a b c t u v)(G:Builtin.Range.small a b c=true)(I:Builtin.Range.rangeSize a b c=n)(hlen:n<=2 ^ 24)
  (h:∀(h':Heap) (tk:Nat) (p:aN),(∀b o,s.heap.get? b=some o->h'.get? b=some o)->ItemsOf (λi v=>∃t,v=.int (a+i*c) t) p n->R p.toList { s with heap:=h',toks:=tk }):wpAny (model prog w) A (collect (.ref r)) R E s:=by
 unfold collect;refine aaa (wpAny_runValue (aa7 entry_proto_collect' ?_));rw[Around.under_plainId PySem.F.plain_proto_collect _];show wpAny _ A.in1 (newList [] >>= λl=>again (.builtin "list.__iadd__" ⟨[l,.ref r],[]⟩)) _ _ s;refine aaa (aaD ?_);refine aad ⟨acn PySem.F.plain_list_iadd _,aa7 entry_list_iadd' ?_⟩;rw[Around.under_plainId PySem.F.plain_list_iadd _];have L:(s.heap.push { cls:=.type "list",data:=.seq ([]:au).toArray }).get? s.heap.objs.size=some { cls:=.type "list",data:=.seq #[] }:=aam _ rfl;show wpAny _ A.in1 (Builtin.List.listExtendWith (.ref s.heap.objs.size) (.ref r) (.ref s.heap.objs.size)) _ _ _;have B:=wpAny_extend_range (prog:=prog) (w:=w) (A:=A) (s:={ s with heap:=s.heap.push { cls:=.type "list",data:=.seq ([]:au).toArray } })
  (R:=λ(q:Result) (z:Shared)=>∃(h':Heap) (tk:Nat) (d:aN) (m:Nat),q=.ok (.ret (.ref s.heap.objs.size))/\z={ s with heap:=h',toks:=tk } /\
   (∀b o,s.heap.get? b=some o->h'.get? b=some o)/\h'.get? s.heap.objs.size=some { cls:=.type "list",dict:=none,data:=.seq d m,slots:=#[] }/\ItemsOf (λi v=>∃t,v=.int (a+i*c) t) d n)
  J (aag _ H) G I hlen s.heap.objs.size (.ref s.heap.objs.size) 0 L
  (λh' tk d m j g k=>⟨h',tk,d,m,rfl,rfl,λb o e=>j b o (aao (aai e)) (aag _ e),g,k⟩)
 refine aay B (λfin z x=>?_) λe z x=>?_
 ·cases fin with
  |done f =>
   obtain⟨h',tk,d,m,e,rfl,j,g,k⟩:=x;cases e;show wpAny _ A (load s.heap.objs.size >>= _) _ _ _;refine aaa (wpAny_load g ?_);exact aad (h h' tk d j k)
  |again D =>
   refine⟨x.1,abK x.2 λq C y=>?_⟩;obtain⟨h',tk,d,m,rfl,rfl,j,g,k⟩:=y;show wpAny _ A (load s.heap.objs.size >>= _) _ _ _;refine aaa (wpAny_load g ?_);exact aad (h h' tk d j k)
 ·obtain⟨_,_,_,_,K,_⟩:=x;cases K
theorem mx{Q₁:aB}{r:Addr}{a b c:Int}{t u v:Tok}{n:Nat}(p:A.handled=none)(f:IsRange s.heap r a b c t u v)(j:Builtin.Range.small a b c=true)(k:Builtin.Range.rangeSize a b c=n)(hlen:n<=2 ^ 24)
  (h:∀(h':Heap) (tk:Nat) (d:aN),(∀b o,s.heap.get? b=some o->h'.get? b=some o)->ItemsOf (λi v=>∃t,v=.int (a+i*c) t) d n->Q₁ (.ref h'.objs.size) { s with heap:=h'.push { cls:=.type "tuple",data:=.seq d },toks:=tk }) :
  codeAny (model prog w) A (.call (.builtin "tuple.__new__") ⟨[.type "tuple",.ref r],[]⟩) (wants Q₁ E) s:=by
 refine codeAny_of_tree ?_;show wpAny _ A.in1 (do checkBuiltinCall "tuple.__new__" ⟨[.type "tuple",.ref r],[]⟩;again (.builtin "tuple.__new__" ⟨[.type "tuple",.ref r],[]⟩)) _ _ s;refine aaa (wpAny_of_eq (PySem.F.newCall_tuple_1 _) (aad ⟨acn PySem.F.plain_tuple_new _,aa7 PySem.F.entry_tuple_new ?_⟩));rw[Around.under_plainId PySem.F.plain_tuple_new _];have y:=sub_tuple_self;have x:=init_tuple_lookup;have l:=madeHere_tuple;have q:s.TypeIs (.ref r) "range":=⟨_,f,rfl⟩
 wp_walk using wpAny_typeOf q,qv (A:=A.in1) (n:=n) p f j k hlen
 intro h' tk d m g;show wpAny _ _ (Builtin.Tuple.tupleExact d.toList.toArray >>= λv=>ret v) _ _ _;unfold Builtin.Tuple.tupleExact;refine aaa (aaD ?_ (by show d.toList.toArray.size<=sizeLine;simp only[Array.toArray_toList];rw[g.1,sizeLine_eq];exact hlen));refine aad ?_;have e:d.toList.toArray=d:=by simp
 rw[e];exact h h' tk d m g
theorem mB{Q:aB}{r:Addr}{a b c:Int}{t u v:Tok}{n:Nat}(m:A.handled=none)(j:IsRange s.heap r a b c t u v)(h:Builtin.Range.small a b c=true)(k:Builtin.Range.rangeSize a b c=n)(hlen:n<=2 ^ 24)
  (p:∀(h':Heap) (tk:Nat) (g:aN),(∀b o,s.heap.get? b=some o->h'.get? b=some o)->ItemsOf (λi v=>∃t,v=.int (a+i*c) t) g n->Q (.ref h'.objs.size) { s with heap:=h'.push { cls:=.type "tuple",data:=.seq g },toks:=tk }) :
  wpAny (model prog w) A (call (.type "tuple") [.ref r]) Q E s:=by
 refine callType_codes (Q₁:=λf d=>d.TypeIs f "tuple" /\ Q f d) PySem.F.called_tuple (PySem.F.typeCall_tuple_1 _) PySem.F.entry_object_init
  (mx m j h k hlen λh' tk g l q=>⟨⟨_,aam _ rfl,rfl⟩,p h' tk g l q⟩) λf d e=>?_
 exact⟨e.1,PySem.F.args_object_init_2 f _,object_init_meets PySem.F.called_tuple.init.lookup PySem.F.called_tuple.made (by decide) prog w A.in1 _ d ⟨e.1,rfl,e.2⟩⟩
end
def OB(xs:af):O D:=match one xs with
 |some x=>match x with
  |.int n=>if n<=cE /\ -cE<=n then ok (.tup ((i_ n).map D.int))else none
  |_=>none
 |none=>none
set_option tactic.hygienic true in
theorem JH{xs:af}{d:D}(h:OB xs=ok d):∃n:Int,xs=[.int n]/\n<=cE /\ -cE<=n/\d=.tup ((i_ n).map D.int):=by
 unfold OB at h;cases hw:one xs with
 |none=>rw[hw]at h;exact nk h
 |some x =>
  obtain rfl:=ck hw;rw[hw]at h;cases x<;>first|exact nk h | (cases h;done)|skip
  rename_i n;obtain⟨⟨c,b⟩,a⟩:=p9 h;exact⟨n,rfl,c,b,a.symm⟩
def zd(sc:Scope)(bl:ak)(e:Expr):Option (aq):=match fG e with
 |some z=>match one z.2 with
  |some i=>if z.1=("tuple" : Str)/\ja sc z.1=true/\z.1∈bl then eO ("range" : Str) sc bl i else none
  |none=>none
 |none=>none
variable {args:aq}
theorem D2{sc:Scope}{bl:ak}{e:Expr}(h:zd sc bl e=some args):∃p c i,e=.Call (.Name ("tuple" : Str) p) [i] [] c/\ja sc ("tuple" : Str)=true/\("tuple" : Str)∈bl/\eO ("range" : Str) sc bl i=some args:=by
 unfold zd at h;cases f:fG e with
 |none=>rw[f]at h;exact nk h
 |some z =>
  obtain⟨x,as⟩:=z;rw[f]at h;obtain⟨p,c,rfl⟩:=cT f;have b:(match one as with|some i=>if x=("tuple" : Str)/\ja sc x=true/\x∈bl then eO ("range" : Str) sc bl i else none|none=>none)=some args:=h;clear h;cases hw:one as with
  |none=>rw[hw]at b;exact nk b
  |some a =>
   rw[hw]at b;have d:(if x=("tuple" : Str)/\ja sc x=true/\x∈bl then eO ("range" : Str) sc bl a else none)=some args:=b;clear b;obtain rfl:=ck hw;by_cases g:x=("tuple" : Str)/\ja sc x=true/\x∈bl
   ·rw[if_pos g]at d;obtain⟨rfl,j,b⟩:=g;exact⟨_,_,_,rfl,j,b,d⟩
   ·rw[if_neg g]at d;cases d
def tTR(d:TA):TE:=λb H Q=>d b H λc a=>∃n:Int,c=[.int n]/\n<=cE /\ -cE<=n/\∀l,a l=none->Q (.ref l) (upd a l (.tup ((i_ n).map V.int)))
variable {X:Cx}
theorem zN{g:Expr}{m:TA}{p pos p' pos':Pos}(N:X.calm=true)(U:Gl X "tuple")(T:X.mg "tuple" = none)(M:Gl X "range")(K:X.mg "range" = none)(O:PA X [g] m)(hs:starEach [g] X.env=[(false,eval g X.env)]):
  PE X (.Call (.Name "tuple" p') [.Call (.Name "range" p) [g] [] pos] [] pos') (tTR m):=by
 intro pins s z H Q I h;refine aaQ (eE I U T (show bootBuiltins "tuple" = some (.type "tuple") by decide +kernel) ?_);refine aau ?_;show wpAny _ _ (spliced ((false,eval (.Call (.Name "range" p) [g] [] pos) X.env)::backTo pos' (starEach [] X.env))) _ _ s;refine abm ?_;refine Call_ (eE I M K boot_range (aau (dt (O pos pins s z H _ I h) λZ j S=>?_) hs rfl));obtain⟨Y,W,l,r1,q1⟩:=S;obtain⟨n,e,F,D,J⟩:=q1;subst e;have E:n<=1000000:=F;have C:-1000000<=n:=D;cases r1 with
 |cons r B =>
  cases B;obtain⟨t,rfl⟩:=r;refine call_range_1 (abu ?_);have R:Builtin.Range.rangeSize 0 n 1=((n.toNat:Nat):Int):=by rw[rangeSize_one];split<;>left
  refine mB (l.ok.hd N) (IsRange.new ..) (small_one (by left) (by left) (by left) (by left)) R (by left) λw A k q x=>?_;have keep:∀b o,j.heap.get? b=some o->w.get? b=some o:=λb o e=>q b o (aag _ e);have d:k.size=n.toNat:=x.1;have f:j.heap.objs.size<=w.objs.size:=by
   have P:=aai (q _ _ (IsRange.new (h:=j.heap) (a:=0) (b:=n) (c:=1) (t:=_) (u:=_) (v:=_)));exact aa6 P
  refine⟨.ref _,upd W _ (.tup ((i_ n).map V.int)),l.laid (t':=A) (λb o e=>aag _ (keep b o e)) f ⟨?_,k.toList,?_,?_⟩,rfl,J _ (l.dE.fresh f)⟩
  ·rw[sizeLine_eq];simp[i_];left
  ·refine oD (by simp[i_,d]) λi u G=>?_;have y:k[i]?=some u:=by simpa using G
   have L:i<n.toNat:=by rw[<- d];exact(Array.getElem?_eq_some_iff.mp y).1
   obtain⟨t,rfl⟩:=x.2 i u y;refine⟨t,?_⟩;have:(i_ n).getD i 0=(i:Int):=by unfold i_;simp[List.getD,L]
   rw[this];congr 1;left
  ·exact⟨_,aam _ rfl,rfl,_,by rw[Array.toArray_toList]⟩
theorem OA{Φ:aV}{n:Nat}(g:Φ n=OB){sc:Scope}{bl:ak}{k:Nat}(L:PX X sc bl k){e:Expr}(he:zd sc bl e=some args){F:aj}{cs:aF}(hs:m7 X F Φ cs args):PE X e (tD X F Φ (.cm n cs))/\PT X e (gy X F Φ (.cm n cs)):=by
 obtain⟨p,f,i,rfl,E,D,A⟩:=D2 he;obtain⟨w,pos',a,rfl,rfl,C,B⟩:=jW A;cases cs with
 |nil=>exact hs.elim
 |cons c cs=>cases cs with
  |cons _ _=>exact hs.2.2.2.elim
  |nil =>
   have u:PA X [a] (tU X F Φ [c]):=PA.imp (cH hs.1 (PA.imp ej λ_ _ _ h=>jL h) (hs.2.1 _)) λ_ _ _ h=>fW h;have this:PE X (.Call (.Name ("tuple" : Str) p) [.Call (.Name ("range" : Str) w) [a] [] pos'] [] f) (tD X F Φ (.cm n [c])):=by
    refine PE.imp (zN L.calm (L.gl E) (L.bl _ D) (L.gl C) (L.bl _ B) u (hs.2.1 _)) λK H Q j=>?_;obtain⟨R,q,r,d,J,b,j⟩:=j;obtain⟨M,I,b⟩:=aD b;rw[g]at b;obtain⟨m,rfl,y,x,rfl⟩:=JH b;refine⟨R,q,r,_,J,I,λN P G r1=>?_⟩;obtain⟨o,O,t⟩:=r1;obtain⟨v,rfl,s⟩:=t.one;cases s;refine⟨m,rfl,y,x,λl z=>j _ _ (G.trans (aL.upd z)) ⟨λ_=>none,λ_ _ h=>by simp at h,.tup (a_.of aZ) (ib _)⟩⟩
   exact⟨this,cO this λ_=>rfl⟩
end DI
end
section
namespace DI
open PySem (Str)
section
variable {α β:Type}
@[simp]theorem cZ(a:α)(f:α->O β):bd (ok a) f=f a:=rfl
@[simp]theorem TF(c:Nat)(f:α->O β):bd (some (.error c)) f=some (.error c):=rfl
noncomputable def Jf(f:α->O β)(x:O α):O β:=bd x f
@[simp]theorem Xy(f:α->O β)(a:α):Jf f (ok a)=f a:=rfl
@[simp]theorem TK(f:α->O β)(c:Nat):Jf f (some (.error c))=some (.error c):=rfl
end
def RM(op:HR)(x y:O D):O D:=bd x λx=>bd y λy=>cL op x y
@[simp]theorem TC(op:HR)(x y:D):RM op (ok x) (ok y)=cL op x y:=rfl
def RA(op:A1)(x y:O D):O D:=bd x λx=>bd y λy=>fi op x y
@[simp]theorem Tx(op:A1)(x y:D):RA op (ok x) (ok y)=fi op x y:=rfl
def YF(x y:O D):O D:=bd x λx=>bd y λy=>mq x y
@[simp]theorem Vr(x y:D):YF (ok x) (ok y)=mq x y:=rfl
def PH(x:O D):O D:=bd (bd x iC) λb=>ok (.bl (!b))
@[simp]theorem SR(b:Bool):PH (ok (.bl b))=ok (.bl (!b)):=rfl
@[simp]theorem Oz(b:Bool):iC (.bl b)=ok b:=rfl
def ud(x:O D):O Bool:=bd x iC
@[simp]theorem Sh(b:Bool):ud (ok (.bl b))=ok b:=rfl
@[simp]theorem Oy(c:Nat):ud (some (.error c))=some (.error c):=rfl
def YG(t:Ty)(x:O D):O D:=bd x λx=>ok (.bl (dO t x))
@[simp]theorem Vz(t:Ty)(x:D):YG t (ok x)=ok (.bl (dO t x)):=rfl
def Eg(m:aw)(xs:O (af)):O D:=bd xs λxs=>bd (m (aA bo xs)) λr=>ok (aO iK r)
def W7(x:O D):O D:=bd x λr=>ok (aO iK r)
@[simp]theorem W6(r:D):W7 (ok r)=ok (aO iK r):=rfl
@[simp]theorem Tq(c:Nat):W7 (some (.error c))=some (.error c):=rfl
@[simp]theorem RF(m:aw)(xs:af):Eg m (ok xs)=W7 (m (aA bo xs)):=rfl
@[simp]theorem N4(m:aw)(c:Nat):Eg m (some (.error c))=some (.error c):=rfl
noncomputable def y9(x:O D)(xs:O (af)):O (af):=bd x λx=>bd xs λxs=>ok (x::xs)
@[simp]theorem Rz(x:D)(xs:af):y9 (ok x) (ok xs)=ok (x::xs):=rfl
@[simp]theorem N0(c:Nat)(xs:O (af)):y9 (some (.error c)) xs=some (.error c):=rfl
@[simp]theorem MT(x:D)(c:Nat):y9 (ok x) (some (.error c))=some (.error c):=rfl
noncomputable def Lg(x:O Bool)(a b:O D):O D:=bd x λk=>if k then a else b
@[simp]theorem Vw(a b:O D):Lg (ok true) a b=a:=rfl
@[simp]theorem Vx(a b:O D):Lg (ok false) a b=b:=rfl
def HI(x y:O D):O D:=bd (bd x iC) λc=>if c then y else ok (.bl false)
@[simp]theorem Xz(y:O D):HI (ok (.bl true)) y=y:=rfl
@[simp]theorem XA(y:O D):HI (ok (.bl false)) y=ok (.bl false):=rfl
@[simp]theorem XB(a b:Bool):HI (ok (.bl a)) (ok (.bl b))=ok (.bl (a&&b)):=by cases a<;>rfl
def SM(x y:O D):O D:=bd (bd x iC) λc=>if c then ok (.bl true)else y
@[simp]theorem Yi(y:O D):SM (ok (.bl true)) y=ok (.bl true):=rfl
@[simp]theorem Yj(y:O D):SM (ok (.bl false)) y=y:=rfl
@[simp]theorem Yk(a b:Bool):SM (ok (.bl a)) (ok (.bl b))=ok (.bl (a||b)):=by cases a<;>rfl
def CJ(x:O D):O D:=bd (bd x iC) λc=>ok (.bl c)
@[simp]theorem Qc(c:Bool):CJ (ok (.bl c))=ok (.bl c):=rfl
@[simp]theorem OY(d:D):x6 (some (some d))=ok (aO bt d):=rfl
section
variable (Φ:aV)(ρ:br)
@[simp]theorem Zp:bG Φ .cq ρ=ok .cq:=rfl
@[simp]theorem ace(b:Bool):bG Φ (.bl b) ρ=ok (.bl b):=rfl
@[simp]theorem IY(i:Int):bG Φ (.int i) ρ=ok (.int i):=rfl
@[simp]theorem Zw(x:Str)(i:Int):bG Φ (.glo x i) ρ=ok (.int i):=rfl
@[simp]theorem Zv(x:Str)(zs:aa):bG Φ (.glt x zs) ρ=ok (.tup (zs.map D.int)):=rfl
@[simp]theorem e_v(i:Nat):bG Φ (.v i) ρ=x6 ρ[i]?:=rfl
@[simp]theorem Zy(op:HR)(a b:CE):bG Φ (.bin op a b) ρ=RM op (bG Φ a ρ) (bG Φ b ρ):=rfl
@[simp]theorem Zx(op:A1)(a b:CE):bG Φ (.cmp op a b) ρ=RA op (bG Φ a ρ) (bG Φ b ρ):=rfl
@[simp]theorem Zr(a:CE):bG Φ (.neg a) ρ=Jf F9 (bG Φ a ρ):=rfl
@[simp]theorem Zo(a:CE):bG Φ (.not a) ρ=PH (bG Φ a ρ):=rfl
@[simp]theorem Zu(a:CE)(t:Ty):bG Φ (.qZ a t) ρ=YG t (bG Φ a ρ):=rfl
@[simp]theorem Zt(c a b:CE):bG Φ (.ite c a b) ρ=Lg (ud (bG Φ c ρ)) (bG Φ a ρ) (bG Φ b ρ):=rfl
@[simp]theorem Xk(f:Nat)(es:aF):bG Φ (.call f es) ρ=Eg (Φ f) (cJ Φ es ρ):=rfl
@[simp]theorem acf(f:Bf)(es:aF):bG Φ (.bf f es) ρ=Jf (oe f) (cJ Φ es ρ):=rfl
@[simp]theorem Zk(f:Nat)(es:aF):bG Φ (.cm f es) ρ=Jf (Φ f) (cJ Φ es ρ):=rfl
@[simp]theorem acd(a b:CE):bG Φ (.ix a b) ρ=YF (bG Φ a ρ) (bG Φ b ρ):=rfl
@[simp]theorem Xi(a:CE):bG Φ (.kE a) ρ=Jf yy (bG Φ a ρ):=rfl
@[simp]theorem Zj(es:aF):bG Φ (.tup es) ρ=Jf (λa=>ok (.tup a)) (cJ Φ es ρ):=rfl
@[simp]theorem Zs(es:aF):bG Φ (.lst es) ρ=Jf (λa=>ok (.lst .ow a)) (cJ Φ es ρ):=rfl
@[simp]theorem Zz(es:aF):bG Φ (.and es) ρ=rF Φ es ρ:=rfl
@[simp]theorem acb(es:aF):bG Φ (.or es) ρ=Am Φ es ρ:=rfl
@[simp]theorem Xm(e:CE):rF Φ [e] ρ=CJ (bG Φ e ρ):=rfl
@[simp]theorem Xl(e a:CE)(es:aF):rF Φ (e::a::es) ρ=HI (bG Φ e ρ) (rF Φ (a::es) ρ):=rfl
@[simp]theorem Zn(e:CE):Am Φ [e] ρ=CJ (bG Φ e ρ):=rfl
@[simp]theorem Zm(e a:CE)(es:aF):Am Φ (e::a::es) ρ=SM (bG Φ e ρ) (Am Φ (a::es) ρ):=rfl
@[simp]theorem Zq:cJ Φ [] ρ=ok []:=rfl
@[simp]theorem Xj(e:CE)(es:aF):cJ Φ (e::es) ρ=y9 (bG Φ e ρ) (cJ Φ es ρ):=rfl
@[simp]theorem e_T(e:CE):vY Φ e ρ=ud (bG Φ e ρ):=rfl
theorem Xp(e:CE):bd (bG Φ e ρ) iC=ud (bG Φ e ρ):=rfl
@[simp]theorem Xo:i8 Φ [] ρ=ok true:=rfl
@[simp]theorem Xn(e:CE):i8 Φ [e] ρ=ud (bG Φ e ρ):=by
 rw[i8,Xp];cases h:ud (bG Φ e ρ)with
 |none=>rfl
 |some r=>cases r with
  |error c=>rfl
  |ok b=>cases b<;>simp[i8,bd,ok]
end
def nv(is:aK):Nat->br->br
 |_,[]=>[]
 |n,d::ρ=>(if n∈is then d.map (aO bo)else d)::nv is (n+1) ρ
theorem IT(is:aK):∀(ρ:br) (n:Nat),ρ.mapIdx (λi d=>if i+n∈is then d.map (aO bo)else d)=nv is n ρ
 |[],_=>rfl
 |d::ρ,n=>by
  rw[List.mapIdx_cons,nv,<- IT is ρ (n+1)];simp only[Nat.zero_add,Nat.add_assoc,Nat.add_comm 1 n]
theorem w_(is:aK)(ρ:br):kr is ρ=nv is 0 ρ:=by rw[<- IT];rfl
@[simp]theorem Rh(is:aK)(n:Nat):nv is n []=[]:=rfl
@[simp]theorem NV(is:aK)(n:Nat)(d:aH)(ρ:br):nv is n (d::ρ)=(if n∈is then d.map (aO bo)else d)::nv is (n+1) ρ:=rfl
def c9(e:CE)(ρ:br)(x:O D):O (D×br):=bd x λd=>ok (keep e d ρ)
variable {ρ ρ1:br}
@[simp]theorem vc{e:CE}{d:D}(h:aT b6 d=false):c9 e ρ (ok d)=ok (d,ρ):=by
 show ok (keep e d ρ)=_;rw[keep,h];rfl
@[simp]theorem Qf{e:CE}{d:D}(h:aT b6 d=true):c9 e ρ (ok d)=ok (aO bo d,nv (iq e) 0 ρ):=by
 show ok (keep e d ρ)=_;rw[keep,h,<- w_];rfl
@[simp]theorem NA(e:CE)(ρ:br)(c:Nat):c9 e ρ (some (.error c))=some (.error c):=rfl
def Cr(i:Nat)(ρ:br)(o:Option (aH)):O (D×br):=match o with
 |some (some d)=>if aT cG d then ok (d,ρ.set i none)else ok (d,ρ)
 |_=>none
@[simp]theorem PR{i:Nat}{d:D}(h:aT cG d=true):Cr i ρ (some (some d))=ok (d,ρ.set i none):=aaR h
@[simp]theorem PU{i:Nat}{d:D}(h:aT cG d=false):Cr i ρ (some (some d))=ok (d,ρ):=acw (by rw[h];exact aaf)
@[simp]theorem k_v(Φ:aV)(i:Nat)(ρ:br):jV Φ (.v i) ρ=Cr i ρ ρ[i]?:=rfl
noncomputable def isV:CE->Bool
 |.v _=>true
 |_=>false
@[simp]theorem YB(Φ:aV)(ρ:br)(op:HR)(a b:CE):jV Φ (.bin op a b) ρ=c9 (.bin op a b) ρ (bG Φ (.bin op a b) ρ):=rfl
@[simp]theorem YA(Φ:aV)(ρ:br)(op:A1)(a b:CE):jV Φ (.cmp op a b) ρ=c9 (.cmp op a b) ρ (bG Φ (.cmp op a b) ρ):=rfl
@[simp]theorem Vq(Φ:aV)(ρ:br)(f:Nat)(es:aF):jV Φ (.call f es) ρ=c9 (.call f es) ρ (bG Φ (.call f es) ρ):=rfl
@[simp]theorem aa3(Φ:aV)(ρ:br)(f:Bf)(es:aF):jV Φ (.bf f es) ρ=c9 (.bf f es) ρ (bG Φ (.bf f es) ρ):=rfl
@[simp]theorem Yt(Φ:aV)(ρ:br)(f:Nat)(es:aF):jV Φ (.cm f es) ρ=c9 (.cm f es) ρ (bG Φ (.cm f es) ρ):=rfl
@[simp]theorem aa1(Φ:aV)(ρ:br)(a b:CE):jV Φ (.ix a b) ρ=c9 (.ix a b) ρ (bG Φ (.ix a b) ρ):=rfl
@[simp]theorem Ys(Φ:aV)(ρ:br)(es:aF):jV Φ (.tup es) ρ=c9 (.tup es) ρ (bG Φ (.tup es) ρ):=rfl
@[simp]theorem Yx(Φ:aV)(ρ:br)(es:aF):jV Φ (.lst es) ρ=c9 (.lst es) ρ (bG Φ (.lst es) ρ):=rfl
@[simp]theorem Iy(Φ:aV)(ρ:br)(i:Int):jV Φ (.int i) ρ=c9 (.int i) ρ (bG Φ (.int i) ρ):=rfl
@[simp]theorem aa2(Φ:aV)(ρ:br)(i:Bool):jV Φ (.bl i) ρ=c9 (.bl i) ρ (bG Φ (.bl i) ρ):=rfl
@[simp]theorem Yv(Φ:aV)(ρ:br): jV Φ (.cq) ρ=c9 (.cq) ρ (bG Φ (.cq) ρ):=rfl
@[simp]theorem Yw(Φ:aV)(ρ:br)(a:CE):jV Φ (.neg a) ρ=c9 (.neg a) ρ (bG Φ (.neg a) ρ):=rfl
@[simp]theorem Yu(Φ:aV)(ρ:br)(a:CE):jV Φ (.not a) ρ=c9 (.not a) ρ (bG Φ (.not a) ρ):=rfl
@[simp]theorem YC(Φ:aV)(ρ:br)(es:aF):jV Φ (.and es) ρ=c9 (.and es) ρ (bG Φ (.and es) ρ):=rfl
@[simp]theorem aa0(Φ:aV)(ρ:br)(es:aF):jV Φ (.or es) ρ=c9 (.or es) ρ (bG Φ (.or es) ρ):=rfl
@[simp]theorem Yy(Φ:aV)(ρ:br)(a b c:CE):jV Φ (.ite a b c) ρ=c9 (.ite a b c) ρ (bG Φ (.ite a b c) ρ):=rfl
@[simp]theorem Vp(Φ:aV)(ρ:br)(n:Nat)(t:Tg)(caps:aK)(b:IK)(es c:aF)(a:CE):jV Φ (.comp n t caps b es c a) ρ=c9 (.comp n t caps b es c a) ρ (bG Φ (.comp n t caps b es c a) ρ):=rfl
@[simp]theorem Yz(Φ:aV)(ρ:br)(a:CE)(t:Ty):jV Φ (.qZ a t) ρ=c9 (.qZ a t) ρ (bG Φ (.qZ a t) ρ):=rfl
@[simp]theorem Vo(Φ:aV)(ρ:br)(a:CE):jV Φ (.kE a) ρ=c9 (.kE a) ρ (bG Φ (.kE a) ρ):=rfl
theorem AM(Φ:aV)(e:CE)(ρ:br)(h:isV e=false):jV Φ e ρ=c9 e ρ (bG Φ e ρ):=by cases e<;>first|rfl|cases h
@[simp]theorem Nr(ρ:br):fH [] [] ρ=ok ρ:=rfl
variable {ds xs:af}{is:aK}
@[simp]theorem J2{i:Nat}{d:D}(h:i<ρ.length):fH (i::is) (d::ds) ρ=fH is ds (ρ.set i (some d)):=aaR h
@[simp]theorem Su{i:Nat}{d:D}(h:i<ρ.length):cB (.nm i) d ρ=ok (ρ.set i (some d)):=aaR h
@[simp]theorem Ss(h:aP cG ds=false):cB (.tp is) (.tup ds) ρ=fH is ds ρ:=acw (by rw[h];exact aaf)
def M6(i:Nat)(r:O (D×br)):O (Fo×br):=bd r λr=>bd (cB (.nm i) r.1 r.2) λa=>ok (.nx,a)
@[simp]theorem zr{i:Nat}{d:D}(h:i<ρ.length):M6 i (ok (d,ρ))=ok (.nx,ρ.set i (some d)):=by
 show bd (cB (.nm i) d ρ) _=_;rw[cB,if_pos h];rfl
@[simp]theorem RR(i:Nat)(c:Nat):M6 i (some (.error c))=some (.error c):=rfl
def RQ(is:aK)(r:O (D×br)):O (Fo×br):=bd r λr=>bd (cB (.tp is) r.1 r.2) λa=>ok (.nx,a)
@[simp]theorem TJ(h:aP cG ds=false):RQ is (ok (.tup ds,ρ))=bd (fH is ds ρ) λa=>ok (.nx,a):=by
 show bd (cB (.tp is) (.tup ds) ρ) _=_;rw[cB,h];rfl
noncomputable def retS(r:O (D×br)):O (Fo×br):=bd r λr=>ok (.rt r.1,r.2)
@[simp]theorem Sv(d:D)(ρ:br):retS (ok (d,ρ))=ok (.rt d,ρ):=rfl
@[simp]theorem O8(c:Nat):retS (some (.error c))=some (.error c):=rfl
noncomputable def Xd(ρ:br)(x:O D):O (Fo×br):=bd x λ_=>ok (.nx,ρ)
@[simp]theorem Xc(ρ:br)(d:D):Xd ρ (ok d)=ok (.nx,ρ):=rfl
@[simp]theorem Tu(ρ:br)(c:Nat):Xd ρ (some (.error c))=some (.error c):=rfl
noncomputable def xO(Φ:aV)(a:ai)(r:O (Fo×br)):O (Fo×br):=bd r λr=>match r with
 | (.nx,ρ')=>b8 Φ a ρ'
 |r=>ok r
@[simp]theorem hZ(Φ:aV)(a:ai)(ρ:br):xO Φ a (ok (.nx,ρ))=b8 Φ a ρ:=rfl
@[simp]theorem OE(Φ:aV)(a:ai)(d:D)(ρ:br):xO Φ a (ok (.rt d,ρ))=ok (.rt d,ρ):=rfl
@[simp]theorem Nn(Φ:aV)(a:ai)(c:Nat):xO Φ a (some (.error c))=some (.error c):=rfl
noncomputable def Gq(Φ:aV)(a b:ai)(ρ:br)(x:O Bool):O (Fo×br):=bd x λk=>if k then b8 Φ a ρ else b8 Φ b ρ
@[simp]theorem Vu(Φ:aV)(a b:ai)(ρ:br):Gq Φ a b ρ (ok true)=b8 Φ a ρ:=rfl
@[simp]theorem Vv(Φ:aV)(a b:ai)(ρ:br):Gq Φ a b ρ (ok false)=b8 Φ b ρ:=rfl
@[simp]theorem Qi(Φ:aV)(a b:ai)(ρ:br)(c:Nat):Gq Φ a b ρ (some (.error c))=some (.error c):=rfl
def RS(i:Nat)(r:O (D×br)):O (Fo×br):=bd r λr=>match Cb r.2[i]? with
  |some ds=>if ds.length<cE then ok (.nx,r.2.set i (some (.lst .ow (ds++[r.1]))))else none
  |none=>none
@[simp]theorem HG{i:Nat}{d:D}(h:ρ[i]?=some (some (.lst .ow ds)))(a:ds.length<cE):RS i (ok (d,ρ))=ok (.nx,ρ.set i (some (.lst .ow (ds++[d])))):=by
 show(match Cb ρ[i]? with|some ds=>_|none=>_)=_;rw[h];exact aaR a
section
variable (Φ:aV)(ρ:br)
@[simp]theorem XR:b8 Φ [] ρ=ok (.nx,ρ):=rfl
@[simp]theorem dB(s:CS)(a:ai):b8 Φ (s::a) ρ=xO Φ a (mT Φ s ρ):=rfl
@[simp]theorem HU(i:Nat)(e:CE):mT Φ (.asg (.nm i) e) ρ=M6 i (jV Φ e ρ):=rfl
@[simp]theorem TY(is:aK)(e:CE):mT Φ (.asg (.tp is) e) ρ=RQ is (jV Φ e ρ):=rfl
@[simp]theorem Oc(e:CE):mT Φ (.ret e) ρ=retS (jV Φ e ρ):=rfl
theorem qB(c:CE)(b:ai):mT Φ (.Js c b) ρ=fV (λρ=>bd (vY Φ c ρ) λk=>if k then bd (b8 Φ b ρ) λr=>match r with
   | (.nx,ρ')=>ok (.inl ρ')
   | (.rt d,ρ')=>ok (.inr (.rt d,ρ'))
  else ok (.inr (.nx,ρ))) ρ:=rfl
theorem Od(i j:Nat)(a b:CE):mT Φ (.par i j a b) ρ=bd (bG Φ a ρ) λx=>bd (bG Φ b ρ) λy=>if aT anyF x=false/\aT anyF y=false/\i<ρ.length/\j<ρ.length then ok (.nx,(ρ.set i (some x)).set j (some y))else none:=rfl
@[simp]theorem ZY(c:Nat):mT Φ (.rs c) ρ=some (.error c):=rfl
@[simp]theorem TX(e:CE):mT Φ (.ex e) ρ=Xd ρ (bG Φ e ρ):=rfl
@[simp]theorem Of(c:CE)(a b:ai):mT Φ (.ifs c a b) ρ=Gq Φ a b ρ (ud (bG Φ c ρ)):=rfl
def Ow(is:aK)(r:O (D×br)):O (Fo×br):=bd r λr=>bd (EZ is r.1 r.2) λa=>ok (.nx,a)
@[simp]theorem XQ(is:aK)(e:CE):mT Φ (.unp is e) ρ=Ow is (jV Φ e ρ):=rfl
@[simp]theorem Oh(i:Nat)(e:CE):mT Φ (.app i e) ρ=RS i (jV Φ e ρ):=rfl
end
noncomputable def mk(Φ:aV)(ar n:Nat)(b:ai):aw:=λds=>if ds.length=ar then sr Φ n b ds else none
noncomputable def pM(r:O (Fo×br)):O D:=bd r λr=>match r.1 with
 |.nx=>ok .cq
 |.rt d=>ok d
@[simp]theorem Tw(ρ:br):pM (ok (.nx,ρ))=ok .cq:=rfl
@[simp]theorem Tv(d:D)(ρ:br):pM (ok (.rt d,ρ))=ok d:=rfl
@[simp]theorem Ro(c:Nat):pM (some (.error c))=some (.error c):=rfl
variable {ar:Nat}{Φ:aV}
theorem mk_eq{n:Nat}{b:ai}(h:ds.length=ar):mk Φ ar n b ds=pM (b8 Φ b (ds.map some++List.replicate (n - ds.length) none)):=aaR h
theorem wK{n:Nat}{b:ai}(ds:af)(r:D)(h:mk Φ ar n b ds=ok r):ds.length=ar/\sr Φ n b ds=ok r:=by
 unfold mk at h;split at h
 ·rename_i a;exact⟨a,h⟩
 ·cases h
theorem IQ(i:Nat):iq (.v i)=[i]:=ab0 rfl
theorem Int.beq_eq_decide_eq(i j:Int):(i==j)=decide (i=j):=rfl
section
variable (g:Fl->Fl)(p:Fl->Bool)
@[simp]theorem Gd(b:Bool):aO g (.bl b)=.bl b:=rfl
@[simp]theorem CB(b:Int):aO g (.int b)=.int b:=rfl
@[simp]theorem PY:aO g .cq=.cq:=rfl
@[simp]theorem Cz(ds:af):aO g (.tup ds)=.tup (aA g ds):=rfl
@[simp]theorem PZ(f:Fl)(ds:af):aO g (.lst f ds)=.lst (g f) (aA g ds):=rfl
@[simp]theorem P0(f:Fl)(ks:az)(vs:af):aO g (.cg f ks vs)=.cg (g f) ks (aA g vs):=rfl
@[simp]theorem Nx:aA g []=[]:=rfl
@[simp]theorem o5(d:D)(ds:af):aA g (d::ds)=aO g d::aA g ds:=rfl
@[simp]theorem Nz(a b:af):aA g (a++b)=aA g a++aA g b:=by simp only[aW,List.map_append]
@[simp]theorem Ny(ds:af):(aA g ds).length=ds.length:=by rw[aW,List.length_map]
theorem dv{a:Type}{e:a->D}(h:∀x,aO g (e x)=e x)(xs:List a):aA g (xs.map e)=xs.map e:=by
 rw[aW,List.map_map];exact aak λx _=>h x
theorem cW{a:Type}{e:a->D}(h:∀x,aT p (e x)=false):∀xs:List a,aP p (xs.map e)=false
 |[]=>by rw[List.map_nil,aP]
 |x::xs=>by rw[List.map_cons,aP,h x,cW h xs];rfl
@[simp]theorem GJ(b:Bool):aT p (.bl b)=false:=ab0 rfl
@[simp]theorem pz(b:Int):aT p (.int b)=false:=ab0 rfl
@[simp]theorem QU:aT p .cq=false:=ab0 rfl
@[simp]theorem Di(ds:af):aT p (.tup ds)=aP p ds:=ab0 rfl
@[simp]theorem Dj(f:Fl)(ds:af):aT p (.lst f ds)=(p f||aP p ds):=ab0 rfl
@[simp]theorem QV(f:Fl)(ks:az)(vs:af):aT p (.cg f ks vs)=(p f||aP p vs):=ab0 rfl
@[simp]theorem NQ:aP p []=false:=ab0 rfl
@[simp]theorem LQ(d:D)(ds:af):aP p (d::ds)=(aT p d||aP p ds):=ab0 rfl
@[simp]theorem Ag:∀a b:af,aP p (a++b)=(aP p a||aP p b)
 |[],b=>by simp
 |d::a,b=>by simp[Ag a b,Bool.or_assoc]
@[simp]theorem iI(ns:aa):aA g (ns.map D.int)=ns.map D.int:=dv g (CB g) ns
@[simp]theorem w6(ns:aa):aP p (ns.map D.int)=false:=cW p (pz p) ns
@[simp]theorem zT(ns:List Bool):aA g (ns.map D.bl)=ns.map D.bl:=dv g (Gd g) ns
@[simp]theorem Af(ns:List Bool):aP p (ns.map D.bl)=false:=cW p (GJ p) ns
@[simp]theorem NB(t:Ty)(d:D):dO t (aO g d)=dO t d:=by cases d<;>cases t<;>rfl
end
@[simp]theorem Me:bt .ow=.al:=rfl
@[simp]theorem Mf:bt .fz=.fz:=rfl
@[simp]theorem Mg:bt .al=.al:=rfl
@[simp]theorem Md:bt .sc=.sc:=rfl
@[simp]theorem Ma:bo .ow=.fz:=rfl
@[simp]theorem Mb:bo .fz=.fz:=rfl
@[simp]theorem Mc:bo .al=.fz:=rfl
@[simp]theorem L_:bo .sc=.sc:=rfl
@[simp]theorem Mt:iK .ow=.ow:=rfl
@[simp]theorem Mu:iK .fz=.al:=rfl
@[simp]theorem Mv:iK .al=.al:=rfl
@[simp]theorem Ms:iK .sc=.sc:=rfl
@[simp]theorem Mp:b6 .ow=false:=rfl
@[simp]theorem Mq:b6 .fz=false:=rfl
@[simp]theorem Mr:b6 .al=true:=rfl
@[simp]theorem Mo:b6 .sc=false:=rfl
@[simp]theorem Ml:cG .ow=true:=rfl
@[simp]theorem Mm:cG .fz=false:=rfl
@[simp]theorem Mn:cG .al=false:=rfl
@[simp]theorem Mk:cG .sc=false:=rfl
@[simp]theorem Mh:vf .ow=false:=rfl
@[simp]theorem Mi:vf .fz=false:=rfl
@[simp]theorem Mj:vf .al=false:=rfl
noncomputable def ah(ns:aa):af:=ns.map D.int
noncomputable def lM(ns:List Bool):af:=ns.map D.bl
@[simp]theorem q_(ns:aa):(ah ns).length=ns.length:=aaO ..
@[simp]theorem RL(ns:List Bool):(lM ns).length=ns.length:=aaO ..
@[simp]theorem z5:ah []=[]:=rfl
@[simp]theorem wV(n:Int)(ns:aa):ah (n::ns)=.int n::ah ns:=rfl
@[simp]theorem Ls(ns:aa)(n:Int):ah ns++[.int n]=ah (ns++[n]):=by simp[ah]
@[simp]theorem ra(ns:aa)(i:Nat):(ah ns)[i]?=ns[i]?.map D.int:=List.getElem?_map ..
@[simp]theorem di(g:Fl->Fl)(ns:aa):aA g (ah ns)=ah ns:=iI g ns
@[simp]theorem IH(p:Fl->Bool)(ns:aa):aP p (ah ns)=false:=w6 p ns
@[simp]theorem KZ(g:Fl->Fl)(ns:List Bool):aA g (lM ns)=lM ns:=zT g ns
@[simp]theorem LR(p:Fl->Bool)(ns:List Bool):aP p (lM ns)=false:=Af p ns
@[simp]theorem ZD(i j:Int):cL .add (.int i) (.int j)=ok (.int (i+j)):=rfl
@[simp]theorem ZC(i j:Int):cL .sub (.int i) (.int j)=ok (.int (i - j)):=rfl
theorem dW{i j:Int}(h:eu i j=true):cL .mul (.int i) (.int j)=ok (.int (i*j)):=aaR h
theorem kK{i j:Int}(h:rG j=true):cL .fdiv (.int i) (.int j)=ok (.int (i.fdiv j)):=aaR h
@[simp]theorem RO{i j:Int}(h:j≠0):cL .mod (.int i) (.int j)=ok (.int (i.fmod j)):=aaR h
theorem RN{i j:Int}(h:lg i j=true):cL .shl (.int i) (.int j)=ok (.int (i*2 ^ j.toNat)):=aaR h
theorem Jd{i j:Int}(h:lg i j=true):cL .pow (.int i) (.int j)=ok (.int (i ^ j.toNat)):=aaR h
@[simp]theorem Yp(i:Int):F9 (.int i)=ok (.int (-i)):=rfl
theorem mulOk_of{i j:Int}(h:i.natAbs<2 ^ 9000)(h':j.natAbs<2 ^ 9000):eu i j=true:=by
 simp only[eu,big,h,h',decide_true,Bool.and_self,Bool.or_true]
theorem mm{n:Nat}(h:n<2 ^ 64):n<2 ^ 9000:=aah h (aaj (by decide) (by decide))
theorem sL{i:Int}(j:Int)(h:i.natAbs<2 ^ 64):eu i j=true:=by simp only[eu,h,decide_true,Bool.true_or]
theorem yv{j:Int}(i:Int)(h:j.natAbs<2 ^ 64):eu i j=true:=by simp only[eu,h,decide_true,Bool.true_or,Bool.or_true]
theorem gf{j:Int}(a:j≠0)(h:j.natAbs<2 ^ 9000):rG j=true:=by
 simp only[rG,big,h,decide_true,Bool.and_true,decide_eq_true_eq];exact a
@[simp]theorem Ht{i j:Int}(h:j.natAbs<2 ^ 64):cL .mul (.int i) (.int j)=ok (.int (i*j)):=dW (yv i h)
@[simp]theorem TH{i j:Int}(h:i.natAbs<2 ^ 64):cL .mul (.int i) (.int j)=ok (.int (i*j)):=dW (sL j h)
@[simp]theorem RP{i j:Int}(a:j≠0)(h:j.natAbs<2 ^ 64):cL .fdiv (.int i) (.int j)=ok (.int (i.fdiv j)):=kK (gf a (mm h))
theorem RK{a b:D}(d:fI 40 a=true)(c:fI 40 b=true):fi .eq a b=ok (.bl (mU a b)):=by
 show(if fI 40 a&&fI 40 b then _ else _)=_;rw[d,c];rfl
theorem Xs{a b:D}(d:fI 40 a=true)(c:fI 40 b=true):fi .ne a b=ok (.bl (!mU a b)):=by
 show(if fI 40 a&&fI 40 b then _ else _)=_;rw[d,c];rfl
@[simp]theorem iG(n:Nat)(i:Int):fI n (.int i)=true:=by cases n<;>rfl
@[simp]theorem Vd(n:Nat)(i:Bool):fI n (.bl i)=true:=by cases n<;>rfl
@[simp]theorem SO(n:Nat):fI n .cq=true:=by cases n<;>rfl
@[simp]theorem yt(n:Nat)(ds:af):fI (n+1) (.tup ds)=ds.all (fI n):=rfl
@[simp]theorem F4(n:Nat)(f:Fl)(ds:af):fI (n+1) (.lst f ds)=ds.all (fI n):=rfl
@[simp]theorem U0(i j:Int):fi .eq (.int i) (.int j)=ok (.bl (decide (i=j))):=by rw[RK (iG _ _) (iG _ _)];show ok (D.bl (i==j))=_;rw[Int.beq_eq_decide_eq]
@[simp]theorem UZ(i j:Int):fi .ne (.int i) (.int j)=ok (.bl (!decide (i=j))):=by rw[Xs (iG _ _) (iG _ _)];show ok (D.bl (!(i==j)))=_;rw[Int.beq_eq_decide_eq]
@[simp]theorem aaK(i j:Int):fi .lt (.int i) (.int j)=ok (.bl (decide (i<j))):=rfl
@[simp]theorem aaL(i j:Int):fi .le (.int i) (.int j)=ok (.bl (decide (i<=j))):=rfl
@[simp]theorem aaM(i j:Int):fi .gt (.int i) (.int j)=ok (.bl (decide (j<i))):=rfl
@[simp]theorem aaN(i j:Int):fi .ge (.int i) (.int j)=ok (.bl (decide (j<=i))):=rfl
@[simp]theorem YH(ds:af)(i:Int):mq (.tup ds) (.int i)=vP ds i:=rfl
@[simp]theorem YI(f:Fl)(ds:af)(i:Int):mq (.lst f ds) (.int i)=vP ds i:=rfl
theorem mD{n:Nat}{d:D}(h:ds[n]?=some d):vP ds (n:Int)=ok (aO bt d):=by
 have a:n<ds.length:=(List.getElem?_eq_some_iff.mp h).1;have e:AN ds.length (n:Int)=some n:=by unfold AN;rw[if_pos (by left),if_pos (by left)];rfl
 unfold vP;rw[e,Option.bind_some,h]
theorem at_of{i:Int}{d:D}(a:0<=i)(h:ds[i.toNat]?=some d):vP ds i=ok (aO bt d):=by
 have:=mD h
 rwa [show((i.toNat:Nat):Int)=i by left]at this
@[simp]theorem acr(d:D)(ds:af):vP (d::ds) 0=ok (aO bt d):=mD (n:=0) rfl
@[simp]theorem acq(a d:D)(ds:af):vP (a::d::ds) 1=ok (aO bt d):=mD (n:=1) rfl
@[simp]theorem acp(a b d:D)(ds:af):vP (a::b::d::ds) 2=ok (aO bt d):=mD (n:=2) rfl
@[simp]theorem Ts(ds:af):oe .len [.tup ds]=ok (.int ds.length):=rfl
@[simp]theorem Tt(f:Fl)(ds:af):oe .len [.lst f ds]=ok (.int ds.length):=rfl
@[simp]theorem Ze(i:Int):oe .abs [.int i]=ok (.int i.natAbs):=by
 show ok (D.int (if i<0 then -i else i))=_;congr 2;split<;>left
@[simp]theorem Rl(f:Fl)(ds:af):oe .list1 [.lst f ds]=ok (.lst .ow (aA bt ds)):=rfl
@[simp]theorem Rk(ds:af):oe .list1 [.tup ds]=ok (.lst .ow (aA bt ds)):=rfl
@[simp]theorem Tr(f:Fl)(ds:af):oe .tuple1 [.lst f ds]=ok (.tup (aA bt ds)):=rfl
@[simp]theorem DG(f:Fl)(ns:aa):oe .eI [.lst f (ah ns)]=ok (.int ns.sum):=by
 show(match intsOf (ns.map D.int)with|some ns=>_|none=>_)=_;rw[bQ]
@[simp]theorem Zd(f:Fl)(bs:List Bool):oe .all1 [.lst f (lM bs)]=ok (.bl (bs.all id)):=by
 show(match jE (bs.map D.bl)with|some ns=>_|none=>_)=_;rw[mC]
variable {ns ws:aa}
@[simp]theorem GS(h:ns.length<64):oe .iD [.tup (ah ns)]=ok (.lst .ow (ah (sortI ns))):=by
 show um _=_;unfold um ah;rw[bQ];exact aaR h
@[simp]theorem Mw(h:ns.length<4000):yy (.tup (ah ns))=ok (.int (tx ns).length):=by
 show(match intsOf (ns.map D.int)with|some ns=>_|none=>_)=_;rw[bQ];exact aaR h
@[simp]theorem nZ(i j:Int):mU (.int i) (.int j)=decide (i=j):=by show(i==j)=_;rw[Int.beq_eq_decide_eq]
@[simp]theorem Xg(i j:Bool):mU (.bl i) (.bl j)=(i==j):=rfl
@[simp]theorem GZ(a b:af):mU (.tup a) (.tup b)=fh a b:=rfl
@[simp]theorem G3(f g:Fl)(a b:af):mU (.lst f a) (.lst g b)=fh a b:=rfl
@[simp]theorem DJ:fh [] []=true:=rfl
@[simp]theorem mw(a b:D)(as bs:af):fh (a::as) (b::bs)=(mU a b&&fh as bs):=rfl
theorem pK:∀{as bs:af},fh as bs=true->as.length=bs.length
 |[],[],_=>rfl
 |[],_::_,h=>(aaf h).elim
 |_::_,[],h=>(aaf h).elim
 |a::as,b::bs,h=>by
  replace h:(_&&_)=true:=h;rw[Bool.and_eq_true]at h;rw[List.length_cons,List.length_cons,pK h.2]
theorem lG{b:Type}{e:b->D}[DecidableEq b](h:∀x y,mU (e x) (e y)=decide (x=y)):∀xs a:List b,fh (xs.map e) (a.map e)=decide (xs=a)
 |[],[]=>by simp
 |[],y::a=>by
  cases z:fh ([].map e) ((y::a).map e)with
  |true=>have:=pK z;simp at this
  |false=>simp
 |x::xs,[]=>by
  cases z:fh ((x::xs).map e) ([].map e)with
  |true=>have:=pK z;simp at this
  |false=>simp
 |x::xs,y::a=>by
  rw[List.map_cons,List.map_cons,mw,h,lG h xs a];by_cases d:x=y<;>by_cases c:xs=a<;>simp[d,c]
theorem sF{a:Type}{e:a->D}{n:Nat}(h:∀x,fI n (e x)=true)(xs:List a):(xs.map e).all (fI n)=true:=by
 rw[List.all_map];exact List.all_eq_true.mpr λx _=>h x
theorem bH{bind:D->O br}{test:br->O Bool}{el:br->O D}{a:Type}{e:a->D}{g:a->D}:∀{xs:List a},(∀x∈xs,∃ρ,bind (e x)=ok ρ/\test ρ=ok true/\el ρ=ok (g x))->i9 bind test el (xs.map e)=ok (xs.map g)
 |[],_=>rfl
 |x::xs,h=>by
  obtain⟨ρ,i,f,d⟩:=h x (aae ..);have b:=bH (xs:=xs) λy c=>h y (aac _ c);rw[List.map_cons,i9,i,cZ,f,cZ,if_pos rfl,d,cZ,b];rfl
theorem jD{bind:D->O br}{test:br->O Bool}{el:br->O D}{a:Type}{e:a->D}{g:a->D}{t:a->Bool}:∀{xs:List a},(∀x∈xs,∃ρ,bind (e x)=ok ρ/\test ρ=ok (t x)/\(t x=true->el ρ=ok (g x)))->i9 bind test el (xs.map e)=ok ((xs.filter t).map g)
 |[],_=>rfl
 |x::xs,h=>by
  obtain⟨ρ,j,i,f⟩:=h x (aae ..);have b:=jD (xs:=xs) λy c=>h y (aac _ c);rw[List.map_cons,i9,j,cZ,i,cZ,List.filter_cons];cases d:t x with
  |true=>rw[if_pos rfl,f d,cZ,b,if_pos rfl];rfl
  |false=>rw[if_neg Bool.false_ne_true,b,if_neg Bool.false_ne_true]
section
variable {Φ:aV}{n:Nat}{t:Tg}{caps:aK}{ik:IK}{es bX:aF}{elt:CE}{ρ:br}{xs items ds:af}
theorem bW(f:cJ Φ es ρ=ok xs)(e:dN Φ ik xs=ok items)
  (c:i9 (λd=>cB t d (bF n caps ρ)) (λa=>i8 Φ bX a) (λa=>bG Φ elt a) items=ok ds) (b:ds.length<=cE):bG Φ (.comp n t caps ik es bX elt) ρ=ok (.lst .ow (aA iK ds)):=by
 show bd (cJ Φ es ρ) _=_;rw[f,cZ,e,cZ,c,cZ,if_pos b]
end
theorem nS(Φ:aV)(ds:af):dN Φ .seq [.tup ds]=ok (aA bo ds):=rfl
theorem cA(Φ:aV)(f:Fl)(ds:af):dN Φ .seq [.lst f ds]=ok (aA bo ds):=rfl
theorem sQ(Φ:aV){n:Int}(a:0<=n)(h:n<=1000000):dN Φ .mO [.int n]=ok ((List.range n.toNat).map λ(k:Nat)=>D.int (k:Int)):=by
 show(if n<=(cE:Int) /\ -(cE:Int)<=n then _ else _)=_;have:(cE:Int)=1000000:=rfl;rw[if_pos (by left)]
theorem bL{n:Nat}(h:n<=1000000):n<=cE:=h
theorem fb{t:Tg}{it:CI}{b:ai}{items:af}{r:O (Fo×br)}(h:cC Φ it ρ=ok (items,ρ1))(h':d9 (λd ρ=>cB t d ρ) (λρ=>b8 Φ b ρ) items ρ1=r):mT Φ (.fr t it b) ρ=r:=by
 show bd (cC Φ it ρ) _=_;rw[h];exact h'
theorem nX(bind:D->br->O br)(body:br->O (Fo×br))(ρ:br):d9 bind body [] ρ=ok (.nx,ρ):=rfl
theorem cS{bind:D->br->O br}{body:br->O (Fo×br)}{x:D}{ρ2:br}{r:O (Fo×br)}(c:bind x ρ=ok ρ1)(b:body ρ1=ok (.nx,ρ2))(a:d9 bind body xs ρ2=r):d9 bind body (x::xs) ρ=r:=by
 rw[d9,c,cZ,b];exact a
theorem Lj{a:CE}{n:Int}(h:bG Φ a ρ=ok (.int n))(c:0<=n)(b:n<=1000000):cC Φ (.mO a) ρ=ok ((List.range n.toNat).map λ(k:Nat)=>D.int (k:Int),ρ):=by
 show bd (bG Φ a ρ) _=_;rw[h];show(if n<=(cE:Int) /\ -(cE:Int)<=n then _ else _)=_;have:(cE:Int)=1000000:=rfl;rw[if_pos (by left)]
theorem Vy{a:CE}(h:bG Φ a ρ=ok (.tup ds)):cC Φ (.seq a) ρ=ok (aA bo ds,if aP b6 ds then nv (iq a) 0 ρ else ρ):=by
 show bd (bG Φ a ρ) _=_;rw[h,<- w_];show ok (_,if aT b6 (.tup ds)then _ else _)=_;rw[Di]
theorem pf{a:CE}{f:Fl}(h:bG Φ a ρ=ok (.lst f ds)):cC Φ (.seq a) ρ=ok (aA bo ds,if (b6 f||aP b6 ds)then nv (iq a) 0 ρ else ρ):=by
 show bd (bG Φ a ρ) _=_;rw[h,<- w_];show ok (_,if aT b6 (.lst f ds)then _ else _)=_;rw[Dj]
noncomputable def gd(t b:Int):Int:=if b<0 then -(Int.gcd t b:Int)else(Int.gcd t b:Int)
def KQ(t b:Int):Int:=t.fdiv (gd t b)
def KR(t b:Int):Int:=b.fdiv (gd t b)
theorem yQ{t b:Int}(h:b≠0):0<Int.gcd t b:=Int.gcd_pos_of_ne_zero_right t h
theorem kI{t b:Int}(h:b≠0):gd t b≠0:=by
 have:=yQ (t:=t) h;unfold gd;split<;>left
theorem L5{t b:Int}(h:b≠0):Int.gcd t b<=b.natAbs:=aba (by left) (Nat.gcd_dvd_right _ _)
theorem Hb{t b:Int}(h:b≠0):(gd t b).natAbs<=b.natAbs:=by
 have:=L5 (t:=t) h;unfold gd;split<;>left
theorem oV{t b:Int}(h:b≠0):∃i g:Int,t=gd t b*i/\b=gd t b*g/\KQ t b=i/\KR t b=g/\1<=g/\Int.gcd i g=1:=by
 have o:=yQ (t:=t) h;obtain⟨t1,j⟩:(Int.gcd t b:Int)∣t:=Int.gcd_dvd_left ..;obtain⟨a,k⟩:(Int.gcd t b:Int)∣b:=Int.gcd_dvd_right ..;have n:Int.gcd t1 a=1:=by
  have e:Int.gcd ((Int.gcd t b:Int)*t1) ((Int.gcd t b:Int)*a)=Int.gcd t b*Int.gcd t1 a:=by
   rw[Int.gcd_mul_left];simp
  rw[<- j,<- k]at e;have:Int.gcd t b*1=Int.gcd t b*Int.gcd t1 a:=by rw[Nat.mul_one];exact e
  exact(Nat.eq_of_mul_eq_mul_left o this).symm
 by_cases m:b<0
 ·have c:gd t b = -(Int.gcd t b:Int):=by simp[gd,m]
  have f:t=gd t b*(-t1):=by rw[c,Int.neg_mul_neg];exact j
  have d:b=gd t b*(-a):=by rw[c,Int.neg_mul_neg];exact k
  refine⟨-t1,-a,f,d,?_,?_,?_,by rw[Int.gcd_neg,Int.neg_gcd];exact n⟩
  ·unfold KQ
   conv=>lhs;arg 1;rw[f]
   exact abk _ (kI h)
  ·unfold KR
   conv=>lhs;arg 1;rw[d]
   exact abk _ (kI h)
  ·have:a<0:=by
    by_cases l:a<0
    ·exact l
    ·have:0<=(Int.gcd t b:Int)*a:=Int.mul_nonneg (by left) (by left);left
   left
 ·have c:gd t b=(Int.gcd t b:Int):=by simp[gd,m]
  have f:t=gd t b*t1:=by rw[c];exact j
  have d:b=gd t b*a:=by rw[c];exact k
  refine⟨t1,a,f,d,?_,?_,?_,n⟩
  ·unfold KQ
   conv=>lhs;arg 1;rw[f]
   exact abk _ (kI h)
  ·unfold KR
   conv=>lhs;arg 1;rw[d]
   exact abk _ (kI h)
  ·have:0<a:=by
    by_cases l:0<a
    ·exact l
    ·have:(Int.gcd t b:Int)*a<=0:=Int.mul_nonpos_of_nonneg_of_nonpos (by left) (by left);left
   left
noncomputable def qD(q:Rat):D:=.tup [.int q.num,.int q.den]
@[simp]theorem CA(g:Fl->Fl)(q:Rat):aO g (qD q)=qD q:=by unfold qD;simp
@[simp]theorem w9(g:Fl->Bool)(q:Rat):aT g (qD q)=false:=by unfold qD;simp
noncomputable def bj(qs:aC):af:=qs.map qD
@[simp]theorem Sz(qs:aC):(bj qs).length=qs.length:=aaO ..
@[simp]theorem FL:bj []=[]:=rfl
@[simp]theorem Pf(q:Rat)(qs:aC):bj (q::qs)=qD q::bj qs:=rfl
@[simp]theorem Pe(qs:aC)(q:Rat):bj qs++[qD q]=bj (qs++[q]):=by simp[bj]
@[simp]theorem SA(qs:aC)(i:Nat):(bj qs)[i]?=qs[i]?.map qD:=List.getElem?_map ..
@[simp]theorem Sy(qs:aC)(i:Nat)(q:Rat):(bj qs).set i (qD q)=bj (qs.set i q):=by unfold bj;rw[List.map_set]
@[simp]theorem PV(g:Fl->Fl)(qs:aC):aA g (bj qs)=bj qs:=dv g (CA g) qs
@[simp]theorem QT(g:Fl->Bool)(qs:aC):aP g (bj qs)=false:=cW g (w9 g) qs
theorem Cg(n:Nat)(q:Rat):fI (n+1) (qD q)=true:=by
 unfold qD;rw[yt,List.all_cons,List.all_cons,iG,iG];rfl
theorem IW(p q:Rat):mU (qD p) (qD q)=decide (p=q):=by
 unfold qD;rw[GZ,mw,mw,DJ,nZ,nZ,Bool.and_true];by_cases h:p=q
 ·subst h;simp
 ·rw[decide_eq_false h];cases b:decide (p.num=q.num)with
  |false=>rfl
  |true =>
   cases a:decide ((p.den:Int)=(q.den:Int))with
   |false=>rfl
   |true =>
    refine absurd (Rat.ext (by simpa using b) ?_) h;have:(p.den:Int)=q.den:=by simpa using a
    left
@[simp]theorem YE(q:Rat):mq (qD q) (.int 0)=ok (.int q.num):=by unfold qD;simp
@[simp]theorem YD(q:Rat):mq (qD q) (.int 1)=ok (.int q.den):=by unfold qD;simp
theorem tm{t b:Int}(f:b≠0):t.fdiv (gd t b)=(Rat.divInt t b).num/\b.fdiv (gd t b)=((Rat.divInt t b).den:Int):=by
 obtain⟨a,c,p,o,l,k,q,j⟩:=oV (t:=t) f;have h:=kI (t:=t) f;have e:Rat.divInt t b=Rat.divInt a c:=by
  generalize gd t b=d at *;rw[p,o];exact Rat.divInt_mul_left h
 obtain⟨n,rfl⟩:∃n:Nat,c=(n:Int):=⟨c.toNat,by left⟩
 have i:a.natAbs.Coprime n:=by
  have:Nat.gcd a.natAbs n=1:=by simpa [Int.gcd]using j
  exact this
 have g:n≠0:=by left
 have m:Rat.divInt a (n:Int)=⟨a,n,g,i⟩:=Rat.mk_eq_divInt.symm;rw[e,m];exact⟨l,k⟩
theorem kC(q:Rat):(q.den:Int)≠0:=by have:=q.den_pos;left
theorem Ph(q:Rat):(1:Int)<=q.den:=by have:=q.den_pos;left
theorem eh(q:Rat):Rat.divInt q.num q.den=q:=Rat.num_divInt_den q
theorem nG{t b:Int}(a:b≠0):(Rat.divInt t b).num.natAbs<=t.natAbs/\(Rat.divInt t b).den<=b.natAbs:=by
 obtain⟨d,c,l,k,i,h,n,m⟩:=oV (t:=t) a;obtain⟨f,j⟩:=tm (t:=t) a;have e:1<=(gd t b).natAbs:=by have:=kI (t:=t) a;left
 rw[show t.fdiv (gd t b)=d from i]at f;rw[show b.fdiv (gd t b)=c from h]at j;refine⟨?_,?_⟩
 ·rw[<- f];have:t.natAbs=(gd t b).natAbs*d.natAbs:=by rw[<- Int.natAbs_mul,<- l]
  rw[this];exact Nat.le_mul_of_pos_left _ e
 ·have g:(Rat.divInt t b).den=c.natAbs:=by left
  rw[g];have:b.natAbs=(gd t b).natAbs*c.natAbs:=by rw[<- Int.natAbs_mul,<- k]
  rw[this];exact Nat.le_mul_of_pos_left _ e
theorem Ij(p q:Rat):p+q=Rat.divInt (p.num*q.den+q.num*p.den) (p.den*q.den):=by
 conv=>lhs;rw[<- eh p,<- eh q]
 exact Rat.divInt_add_divInt _ _ (kC p) (kC q)
theorem Pg(p q:Rat):p - q=Rat.divInt (p.num*q.den - q.num*p.den) (p.den*q.den):=by
 conv=>lhs;rw[<- eh p,<- eh q]
 exact Rat.divInt_sub_divInt _ _ (kC p) (kC q)
theorem Ii(p q:Rat):p*q=Rat.divInt (p.num*q.num) (p.den*q.den):=by
 conv=>lhs;rw[<- eh p,<- eh q]
 exact Rat.divInt_mul_divInt _ _
theorem Pj(p q:Rat):p / q=Rat.divInt (p.num*q.den) (p.den*q.num):=by
 rw[Rat.div_def]
 conv=>lhs;rw[<- eh p,<- eh q,Rat.inv_divInt]
 exact Rat.divInt_mul_divInt _ _
def Sm(k:Nat)(q:Rat):Prop:=q.num.natAbs<2 ^ k/\q.den<2 ^ k
theorem Sm.mono{k l:Nat}{q:Rat}(h:Sm k q)(a:k<=l):Sm l q :=
 ⟨aah h.1 (aaj (by decide) a),aah h.2 (aaj (by decide) a)⟩
theorem bu{a b k l:Nat}(h:a<2 ^ k)(h':b<2 ^ l):a*b<2 ^ (k+l):=by
 rw[Nat.pow_add];exact Nat.mul_lt_mul'' h h'
theorem HK(a b:Int):(a+b).natAbs<=a.natAbs+b.natAbs:=acs a b
theorem zu(a b:Int):(a - b).natAbs<=a.natAbs+b.natAbs:=by rw[Int.sub_eq_add_neg];exact Int.natAbs_neg b▸acs a (-b)
section
variable {k l:Nat}{p q:Rat}
theorem Sm.den(h:Sm k p)(h':Sm l q):((p.den:Int)*q.den).natAbs<2 ^ (k+l):=by
 rw[Int.natAbs_mul];exact bu (by simpa using h.2) (by simpa using h'.2)
theorem Sm.add(h:Sm k p)(h':Sm l q):Sm (k+l+1) (p+q):=by
 have a:(p.den:Int)*q.den≠0:=abJ (kC p) (kC q);obtain⟨c,b⟩:=nG (t:=p.num*q.den+q.num*p.den) a;rw[<- Ij]at c b;have g:(p.num*q.den).natAbs<2 ^ (k+l):=by rw[Int.natAbs_mul];exact bu h.1 (by simpa using h'.2)
 have f:(q.num*p.den).natAbs<2 ^ (k+l):=by rw[Int.natAbs_mul,Nat.add_comm];exact bu h'.1 (by simpa using h.2)
 have:=HK (p.num*q.den) (q.num*p.den);have e:2 ^ (k+l+1)=2 ^ (k+l)*2:=Nat.pow_succ ..;have d:=h.den h';exact⟨by left,by left⟩
theorem Sm.sub(h:Sm k p)(h':Sm l q):Sm (k+l+1) (p - q):=by
 have a:(p.den:Int)*q.den≠0:=abJ (kC p) (kC q);obtain⟨c,b⟩:=nG (t:=p.num*q.den - q.num*p.den) a;rw[<- Pg]at c b;have g:(p.num*q.den).natAbs<2 ^ (k+l):=by rw[Int.natAbs_mul];exact bu h.1 (by simpa using h'.2)
 have f:(q.num*p.den).natAbs<2 ^ (k+l):=by rw[Int.natAbs_mul,Nat.add_comm];exact bu h'.1 (by simpa using h.2)
 have:=zu (p.num*q.den) (q.num*p.den);have e:2 ^ (k+l+1)=2 ^ (k+l)*2:=Nat.pow_succ ..;have d:=h.den h';exact⟨by left,by left⟩
theorem Sm.mul(h:Sm k p)(h':Sm l q):Sm (k+l) (p*q):=by
 have a:(p.den:Int)*q.den≠0:=abJ (kC p) (kC q);obtain⟨c,b⟩:=nG (t:=p.num*q.num) a;rw[<- Ii]at c b;have e:(p.num*q.num).natAbs<2 ^ (k+l):=by rw[Int.natAbs_mul];exact bu h.1 h'.1
 have d:=h.den h';exact⟨by left,by left⟩
theorem Ki(h:q≠0):q.num≠0:=λz=>h (by rw[<- eh q,z];simp)
theorem Sm.big(h:Sm k p)(a:k<=9000):p.num.natAbs<2 ^ 9000/\(p.den:Int).natAbs<2 ^ 9000:=by
 have:=h.mono a;exact⟨this.1,by simpa using this.2⟩
end
theorem zF{t b:Int}{k:Nat}(a:b≠0)(d:t.natAbs<2 ^ k)(c:b.natAbs<2 ^ k):Sm k (Rat.divInt t b):=by
 obtain⟨f,e⟩:=nG (t:=t) a;exact⟨by left,by left⟩
def d_(d:D):Bool:=dO .int d&&!dO .bool d
def eP(m:aw):Prop:=∀d,m [d]=ok (.bl (d_ d))
noncomputable def iP:ai:=[.ret (.and [(.qZ (.v 0) .int),(.not (.qZ (.v 0) .bool))])]
theorem wA(Φ:aV):eP (mk Φ 1 1 iP):=by
 intro d;simp[mk_eq,iP,d_]
theorem pG(a:Int){b:Int}(h:b≠0):(a.fmod b).natAbs<b.natAbs:=by
 rcases Int.lt_or_gt_of_ne h with c|c
 ·have e:=Int.neg_fmod_neg a b;have f:=abW (-a) (show 0 < -b by left);have d:=acj (-a) (show 0 < -b by left);left
 ·have f:=abW a c;have d:=acj a c;left
theorem Dy(a b:Int):Int.gcd b (a.fmod b)=Int.gcd a b:=by
 rw[Int.fmod_def,Int.gcd_sub_mul_left_right,Int.gcd_comm]
def bR(m:aw):Prop:=∀a b:Int,m [.int a,.int b]=ok (.int (Int.gcd a b))
noncomputable def A3:CS:=.Js (.cmp .ne (.v 1) (.int 0)) [.asg (.nm 2) (.bin .mod (.v 0) (.v 1)),.asg (.nm 0) (.v 1),.asg (.nm 1) (.v 2)]
def dw:ai:=[A3,.ret (.bf .abs [(.v 0)])]
theorem Hm(Φ:aV):∀(n:Nat) (a b:Int) (r:aH),b.natAbs<=n->∃(g:Int) (d:aH),mT Φ A3 [some (.int a),some (.int b),r]=ok (.nx,[some (.int g),some (.int 0),d])/\g.natAbs=Int.gcd a b:=by
 intro n;induction n with
 |zero =>
  intro a b r h;have c:b=0:=by left
  subst c;refine⟨a,r,?_,by simp⟩;rw[A3,qB];exact iB (by simp)
 |succ n f =>
  intro a b r h;by_cases c:b=0
  ·subst c;refine⟨a,r,?_,by simp⟩;rw[A3,qB];exact iB (by simp)
  ·have j:=pG a c;obtain⟨g,d,e,i⟩:=f b (a.fmod b) (some (.int (a.fmod b))) (by left);refine⟨g,d,?_,by rw[i,Dy]⟩;rw[A3,qB]at e ⊢;rw[<- e];exact oB (by simp[c])
theorem me(Φ:aV):bR (mk Φ 2 3 dw):=by
 intro a b;obtain⟨g,d,e,f⟩:=Hm Φ b.natAbs a b none (aal _);have c:(g.natAbs:Int)=(Int.gcd a b:Int):=by left
 simp[mk_eq,dw,e,c]
def j6(m:aw):Prop:=∀t b:Int,b≠0->b.natAbs<2 ^ 9000->m [.int t,.int b]=ok (qD (Rat.divInt t b))
def cY(m:aw):Prop:=j6 m/\∀t:Int,m [.int t,.int 0]=some (.error 0)
noncomputable def cX:ai:=[.ifs (.cmp .eq (.v 1) (.int 0)) [.rs 0] [],.asg (.nm 2) (.call 1 [(.v 0),(.v 1)]),.ifs (.cmp .lt (.v 1) (.int 0)) [.asg (.nm 2) (.neg (.v 2))] [],.ret (.tup [(.bin .fdiv (.v 0) (.v 2)),(.bin .fdiv (.v 1) (.v 2))])]
theorem n5{t b:Int}(a:b≠0)(h:b.natAbs<2 ^ 9000)(x:Int):cL .fdiv (.int x) (.int (gd t b))=ok (.int (x.fdiv (gd t b))) :=
 kK (gf (kI a) (aap (Hb a) h))
theorem ql(Φ:aV)(d:bR (Φ 1)):cY (mk Φ 2 3 cX):=by
 refine⟨λt b a h=>?_,λt=>by simp[mk_eq,cX]⟩;obtain⟨j,i⟩:=tm (t:=t) a;unfold bR at d;have g:=n5 (t:=t) a h t;have f:=n5 (t:=t) a h b;rw[qD,<- j,<- i];by_cases c:b<0
 ·have e:-(Int.gcd t b:Int)=gd t b:=by simp[gd,c]
  simp[mk_eq,cX,a,d,c,e,g,f]
 ·have e:(Int.gcd t b:Int)=gd t b:=by simp[gd,c]
  simp[mk_eq,cX,a,d,c,e,g,f]
noncomputable def dU:D->Bool
 |.tup [.int a,.int b]=>decide (1<=b)&&decide (Int.gcd a b=1)
 |_=>false
theorem yX(q:Rat):dU (qD q)=true:=by
 have b:=Ph q;have a:Int.gcd q.num q.den=1:=by
  have:=q.reduced;simpa [Int.gcd]using this
 simp[qD,dU,b,a]
def eZ(m:aw):Prop:=∀d,m [d]=ok (.bl (dU d))
noncomputable def cf:ai:=[.ifs (.or [(.not (.qZ (.v 0) .tuple)),(.cmp .ne (.bf .len [(.v 0)]) (.int 2))]) [.ret (.bl false)] [],.ifs (.or [(.not (.call 0 [(.ix (.v 0) (.int 0))])),(.not (.call 0 [(.ix (.v 0) (.int 1))]))]) [.ret (.bl false)] [],.ret (.and [(.cmp .ge (.ix (.v 0) (.int 1)) (.int 1)),(.cmp .eq (.call 1 [(.ix (.v 0) (.int 0)),(.ix (.v 0) (.int 1))]) (.int 1))])]
theorem mL(g:Fl->Fl)(d:D):d_ (aO g d)=d_ d:=by simp[d_]
theorem oA{d:D}(h:d_ d=true):∃i,d=.int i:=by
 cases d<;>simp[d_,dO]at h ⊢
theorem rC{x y:D}(h:d_ x=false\/d_ y=false):dU (.tup [x,y])=false:=by
 cases x<;>cases y<;>simp[d_,dO]at h<;>rfl
theorem Aj(h:ds.length≠2):dU (.tup ds)=false:=by
 unfold dU;split
 ·rename_i e;cases e;simp at h
 ·rfl
theorem qk(Φ:aV)(f:eP (Φ 0))(i:bR (Φ 1)):eZ (mk Φ 1 1 cf):=by
 intro d;unfold eP at f;unfold bR at i;cases d with
 |tup ds =>
  by_cases g:ds.length=2
  ·match ds,g with
   |[x,y],_ =>
    by_cases c:d_ x=true
    ·by_cases e:d_ y=true
     ·obtain⟨a,rfl⟩:=oA c;obtain⟨b,rfl⟩:=oA e;simp[mk_eq,cf,f,i,c,e,dO,dU];by_cases h:a.gcd b=1
      ·simp[h]
      ·simp[h];left
     ·simp[mk_eq,cf,f,c,e,dO,mL,rC (.inr (by simpa using e))]
    ·simp[mk_eq,cf,f,c,dO,mL,rC (.inl (by simpa using c))]
  ·have j:¬ (ds.length:Int)=2:=by left
   simp[mk_eq,cf,dO,j,Aj g]
 |_=>simp[mk_eq,cf,dO,dU]
def pV(m:aw):Prop:=∀p q,Sm 4000 p->Sm 4000 q->m [qD p,qD q]=ok (qD (p+q))
def eY(m:aw):Prop:=∀p q,Sm 4000 p->Sm 4000 q->m [qD p,qD q]=ok (qD (p*q))
def R_(m:aw):Prop:=(∀p q,Sm 4000 p->Sm 4000 q->q≠0->m [qD p,qD q]=ok (qD (p / q)))/\∀p,Sm 4000 p->m [qD p,qD 0]=some (.error 0)
noncomputable def zm(f:Nat):ai:=[.ret (.call f [(.bin .add (.bin .mul (.ix (.v 0) (.int 0)) (.ix (.v 1) (.int 1))) (.bin .mul (.ix (.v 1) (.int 0)) (.ix (.v 0) (.int 1)))),(.bin .mul (.ix (.v 0) (.int 1)) (.ix (.v 1) (.int 1)))])]
noncomputable def jZ(f:Nat):ai:=[.ret (.call f [(.bin .mul (.ix (.v 0) (.int 0)) (.ix (.v 1) (.int 0))),(.bin .mul (.ix (.v 0) (.int 1)) (.ix (.v 1) (.int 1)))])]
noncomputable def Em(f:Nat):ai:=[.ret (.call f [(.bin .mul (.ix (.v 0) (.int 0)) (.ix (.v 1) (.int 1))),(.bin .mul (.ix (.v 0) (.int 1)) (.ix (.v 1) (.int 0)))])]
section
variable (Φ:aV){f:Nat}(h2:j6 (Φ f))
theorem Ry{p q:Rat}(b:Sm 4000 p)(a:Sm 4000 q):(p.den:Int)*q.den≠0/\((p.den:Int)*q.den).natAbs<2 ^ 9000 :=
 ⟨abJ (kC p) (kC q),aah (b.den a) (aaj (by decide) (by decide))⟩
theorem F_{p q:Rat}(g:Sm 4000 p)(e:Sm 4000 q):cL .mul (.int p.num) (.int q.den)=ok (.int (p.num*q.den))/\cL .mul (.int p.num) (.int q.num)=ok (.int (p.num*q.num))/\cL .mul (.int p.den) (.int q.den)=ok (.int (p.den*q.den))/\cL .mul (.int p.den) (.int q.num)=ok (.int (p.den*q.num)):=by
 obtain⟨a,b⟩:=g.big (by decide);obtain⟨c,d⟩:=e.big (by decide);exact⟨dW (mulOk_of a d),dW (mulOk_of a c),dW (mulOk_of b d),dW (mulOk_of b c)⟩
include h2
theorem O5:pV (mk Φ 2 2 (zm f)):=by
 intro p q h g;obtain⟨a,b,c,d⟩:=F_ h g;obtain⟨i,m,l,j⟩:=F_ g h;obtain⟨n,k⟩:=Ry h g;have e:=h2 (p.num*q.den+q.num*p.den) _ n k;rw[<- Ij]at e;simp[mk_eq,zm,a,i,c,e]
theorem yb:eY (mk Φ 2 2 (jZ f)):=by
 intro p q h g;obtain⟨a,b,c,d⟩:=F_ h g;obtain⟨n,k⟩:=Ry h g;have e:=h2 (p.num*q.num) _ n k;rw[<- Ii]at e;simp[mk_eq,jZ,b,c,e]
omit h2 in
theorem s_by(h2:cY (Φ f)):R_ (mk Φ 2 2 (Em f)):=by
 refine⟨λp q g h i=>?_,λp g=>?_⟩
 ·obtain⟨a,b,c,d⟩:=F_ g h;have n:(p.den:Int)*q.num≠0:=abJ (kC p) (Ki i);have k:((p.den:Int)*q.num).natAbs<2 ^ 9000:=by
   rw[Int.natAbs_mul];exact aah (bu (by simpa using g.2) h.1) (aaj (by decide) (by decide))
  have e:=h2.1 (p.num*q.den) _ n k;rw[<- Pj]at e;simp[mk_eq,Em,a,d,e]
 ·have e:=h2.2 p.num;simp[mk_eq,Em,e]
end
theorem vE{bind:D->O br}{test:br->O Bool}{el:br->O D}{g:D->D}(h:∀x∈xs,∃ρ,bind x=ok ρ/\test ρ=ok true/\el ρ=ok (g x)):i9 bind test el xs=ok (xs.map g):=by
 have:=bH (bind:=bind) (test:=test) (el:=el) (e:=λd=>d) (g:=g) (xs:=xs) h
 rwa [List.map_id']at this
theorem kG(g:Fl->Fl)(d:D):dU (aO g d)=dU d:=by
 cases d with
 |tup ds =>
  match ds with
  |[]=>simp
  |[_]=>simp[dU]
  |[x,y]=>cases x<;>cases y<;>simp[dU]
  |_::_::_::_=>simp[dU]
 |_=>simp[dU]
def kc(d:D)(n:Int):Bool:=match d with
 |.lst _ ds=>decide ((ds.length:Int)=n)&&ds.all dU
 |_=>false
def qw(d:D):Prop:=match d with
 |.lst _ ds=>ds.length<=1000000
 |.tup ds=>ds.length<64
 |_=>True
def ny(m:aw):Prop:=∀d n,qw d->m [d,.int n]=ok (.bl (kc d n))
noncomputable def cy:ai:=[.ifs (.or [(.not (.qZ (.v 0) .list)),(.cmp .ne (.bf .len [(.v 0)]) (.v 1))]) [.ret (.bl false)] [],.ret (.bf .all1 [(.comp 1 (.nm 0) [] .seq [(.v 0)] [] (.call 3 [(.v 0)]))])]
theorem nh(Φ:aV)(b:eZ (Φ 3)):ny (mk Φ 2 2 cy):=by
 intro d n e;unfold eZ at b;cases d with
 |lst f ds =>
  by_cases a:(ds.length:Int)=n
  ·have c:bG Φ (.comp 1 (.nm 0) [] .seq [(.v 0)] [] (.call 3 [(.v 0)])) [some (.lst f ds),some (.int n)]=ok (.lst .ow (lM (ds.map dU))):=by
    rw[bW (xs:=[.lst (bt f) (aA bt ds)]) (by simp) (cA ..) (vE (g:=λd=>.bl (dU d)) λx _=>⟨[some x],by simp[bF],by simp,by simp[b,kG]⟩) (by simp;exact bL e)];simp[aW,Function.comp_def,kG,lM]
   simp[mk_eq,cy,dO,a,c,kc]
  ·simp[mk_eq,cy,dO,a,kc]
 |_=>simp[mk_eq,cy,dO,kc]
theorem pU(f:Fl)(qs:aC)(n:Int):kc (.lst f (bj qs)) n=decide ((qs.length:Int)=n):=by
 unfold kc;have:(bj qs).all dU=true:=by unfold bj;rw[List.all_map];exact List.all_eq_true.mpr λq _=>yX q
 simp[this]
noncomputable def bI(qs:aC):Nat:=qs.foldl (λb q=>Nat.lcm b q.den) 1
theorem CG(b:Nat)(q:Rat):(b:Int).fdiv (Int.gcd b q.den)*q.den=(Nat.lcm b q.den:Nat):=by
 have c:0<Nat.gcd b q.den:=Nat.gcd_pos_of_pos_right _ q.den_pos;have e:Int.gcd (b:Int) (q.den:Int)=Nat.gcd b q.den:=by simp[Int.gcd]
 rw[e,Int.fdiv_eq_ediv_of_nonneg _ (by left)];have:((b:Int) / (Nat.gcd b q.den:Nat))=((b / Nat.gcd b q.den:Nat):Int):=(Int.natCast_ediv ..).symm;rw[this,Nat.lcm];have a:Nat.gcd b q.den∣b:=Nat.gcd_dvd_left ..;rw[Nat.mul_comm b,Nat.mul_div_assoc _ a,Nat.mul_comm];exact(Int.natCast_mul ..).symm
theorem lcm_pos{b:Nat}(a:0<b)(q:Rat):0<Nat.lcm b q.den:=Nat.lcm_pos a q.den_pos
theorem yF:∀(qs:aC) (b k j:Nat),0<b->b<2 ^ j->(∀q∈qs,Sm k q)->0<qs.foldl (λb q=>Nat.lcm b q.den) b/\qs.foldl (λb q=>Nat.lcm b q.den) b<2 ^ (j+k*qs.length)/\b∣qs.foldl (λb q=>Nat.lcm b q.den) b/\∀q∈qs,q.den∣qs.foldl (λb q=>Nat.lcm b q.den) b
 |[],b,k,j,h0,h1,_=>⟨h0,by simpa using h1,Nat.dvd_refl _,λq c=>nomatch c⟩
 |q::qs,b,k,j,h0,h1,hs=>by
  have c:=hs q aae;have f:Nat.lcm b q.den<2 ^ (j+k):=aap (Nat.lcm_le_mul h0 q.den_pos) (bu h1 c.2);obtain⟨i,h,d,g⟩:=yF qs (Nat.lcm b q.den) k (j+k) (lcm_pos h0 q) f λp a=>hs p (aac _ a);have e:j+k*(q::qs).length=j+k+k*qs.length:=by rw[List.length_cons,Nat.mul_succ];left
  refine⟨i,by rw[e];exact h,Nat.dvd_trans (Nat.dvd_lcm_left ..) d,λp a=>?_⟩;rcases List.mem_cons.mp a with rfl|a
  ·exact Nat.dvd_trans (Nat.dvd_lcm_right ..) d
  ·exact g p a
structure tY(k:Nat)(qs:aC):Prop where
 sm:∀q∈qs,Sm k q
 pI:k*qs.length<=3000
 len:qs.length<=1000
variable {qs:aC}
theorem tY.lcm{k:Nat}(h:tY k qs):0<bI qs/\bI qs<2 ^ (1+k*qs.length)/\∀q∈qs,q.den∣bI qs:=by
 obtain⟨c,b,_,a⟩:=yF qs 1 k 1 (by decide) (by decide) h.sm;exact⟨c,b,a⟩
theorem wO{n j:Nat}(h:n<2 ^ j)(a:j<=9000):n<2 ^ 9000:=aah h (aaj (by decide) a)
def fu(m:aw):Prop:=∀f qs k,tY k qs->m [.lst f (bj qs)]=ok (.int (bI qs))
noncomputable def cx:ai:=[.asg (.nm 1) (.bin .mul (.bin .fdiv (.v 1) (.call 1 [(.v 1),(.ix (.v 2) (.int 1))])) (.ix (.v 2) (.int 1)))]
def cV:ai:=[.asg (.nm 1) (.int 1),.fr (.nm 2) (.seq (.v 0)) cx,.ret (.v 1)]
theorem zj(Φ:aV)(c:bR (Φ 1))(x:aH):∀(qs:aC) (b k j:Nat) (z:aH),0<b->b<2 ^ j->j+k*qs.length<=8000->(∀q∈qs,Sm k q) ->
  ∃a,d9 (λd ρ=>cB (.nm 2) d ρ) (λρ=>b8 Φ cx ρ) (bj qs) [x,some (.int b),z]=ok (.nx,[x,some (.int (qs.foldl (λb q=>Nat.lcm b q.den) b:Nat)),a])
 |[],b,k,j,z,_,_,_,_=>⟨z,rfl⟩
 |q::qs,b,k,j,z,h0,hb,hj,hs=>by
  have f:=hs q aae;have m:Nat.lcm b q.den<2 ^ (j+k):=aap (Nat.lcm_le_mul h0 q.den_pos) (bu hb f.2);have e:j+k*(q::qs).length=j+k+k*qs.length:=by rw[List.length_cons,Nat.mul_succ];left
  obtain⟨a,h⟩:=zj Φ c x qs (Nat.lcm b q.den) k (j+k) (some (qD q)) (lcm_pos h0 q) m (by left) λp i=>hs p (aac _ i);have t:0<Nat.gcd b q.den:=Nat.gcd_pos_of_pos_right _ q.den_pos;have n:Int.gcd (b:Int) (q.den:Int)=Nat.gcd b q.den:=by simp[Int.gcd]
  have s:Nat.gcd b q.den<=b:=aba h0 (Nat.gcd_dvd_left ..);have g:b<2 ^ 9000:=wO hb (by left);have r:cL .fdiv (.int b) (.int (Nat.gcd b q.den:Nat))=ok (.int ((b:Int).fdiv (Nat.gcd b q.den:Nat))):=kK (gf (by left) (by simpa using Nat.lt_of_le_of_lt s g));have l:((b:Int).fdiv (Nat.gcd b q.den:Nat)).natAbs<=b:=by
   rw[Int.fdiv_eq_ediv_of_nonneg _ (by left),<- Int.natCast_ediv];simp;exact Nat.div_le_self ..
  have o:cL .mul (.int ((b:Int).fdiv (Nat.gcd b q.den:Nat))) (.int q.den)=ok (.int (Nat.lcm b q.den:Nat)):=by
   have:=CG b q;rw[n]at this;rw[dW (mulOk_of (Nat.lt_of_le_of_lt l g) (f.big (by
    rw[e]at hj;have:k<=j+k+k*qs.length:=by left
    left)).2),this]
  unfold bR at c;refine⟨a,cS (ρ1:=[x,some (.int b),some (qD q)]) (by simp) (ρ2:=[x,some (.int (Nat.lcm b q.den:Nat)),some (qD q)]) ?_ h⟩;simp[cx,c,r,o]
theorem nc(Φ:aV)(j:bR (Φ 1)):fu (mk Φ 1 3 cV):=by
 intro f qs k h;have a:cC Φ (.seq (.v 0)) [some (.lst f (bj qs)),some (.int 1),none]=ok (bj qs,if (b6 (bt f)||false)then[some (.lst (bo f) (bj qs)),some (.int 1),none]else[some (.lst f (bj qs)),some (.int 1),none]):=by
  rw[pf (f:=bt f) (ds:=bj qs) (by simp)];simp[show iq (.v 0)=[0] from rfl]
 have l:=h.pI;have g:∀x:aH,∃c,d9 (λd ρ=>cB (.nm 2) d ρ) (λρ=>b8 Φ cx ρ) (bj qs) [x,some (.int (1:Nat)),none]=ok (.nx,[x,some (.int (bI qs)),c]):=λx=>zj Φ j x qs 1 k 1 none (by decide) (by decide) (by left) h.sm;cases i:(b6 (bt f)||false)with
 |true =>
  rw[i]at a;obtain⟨c,e⟩:=g (some (.lst (bo f) (bj qs)));have:=fb (t:=.nm 2) (b:=cx) a e;simp[mk_eq,cV,this]
 |false =>
  rw[i]at a;obtain⟨c,e⟩:=g (some (.lst f (bj qs)));have:=fb (t:=.nm 2) (b:=cx) a e;simp[mk_eq,cV,this]
noncomputable def bw(b:Nat)(q:Rat):Int:=q.num*(b:Int).fdiv q.den
theorem Ih(q:Rat):(q.num:Rat)=q*(q.den:Rat):=by
 have h:(q.den:Rat)≠0:=by
  have:=q.den_pos;intro z;have:((q.den:Int):Rat)=0:=by rw[Rat.intCast_natCast];exact z
  rw[Rat.intCast_eq_zero_iff]at this;left
 have e:q=(q.num:Rat) / (q.den:Rat):=by
  conv=>lhs;rw[<- eh q,Rat.divInt_eq_div,Rat.intCast_natCast]
 grind
theorem ji{b:Nat}{q:Rat}(h:q.den∣b):((bw b q:Int):Rat)=q*(b:Rat):=by
 obtain⟨c,rfl⟩:=h;have a:(q.den:Int)≠0:=kC q;unfold bw;rw[Int.natCast_mul,Int.mul_fdiv_cancel_left _ a,Rat.intCast_mul,Ih,Rat.natCast_mul,Rat.intCast_natCast];grind
theorem oH{b:Nat}:∀{qs:aC},(∀q∈qs,q.den∣b)->(((qs.map (bw b)).sum:Int):Rat)=qs.sum*(b:Rat)
 |[],_=>by simp
 |q::qs,h=>by
  rw[List.map_cons,List.sum_cons,List.sum_cons,Rat.intCast_add,ji (h q List.mem_cons_self),oH λp a=>h p (List.mem_cons_of_mem _ a)];grind
def jF(m:aw):Prop:=∀f qs k (b:Nat),tY k qs->b<2 ^ 8000->m [.lst f (bj qs),.int b]=ok (.lst .ow (ah (qs.map (bw b))))
noncomputable def gG:ai:=[.ret (.comp 1 (.nm 0) [1] .seq [(.v 0)] [] (.bin .mul (.ix (.v 0) (.int 0)) (.bin .fdiv (.v 1) (.ix (.v 0) (.int 1)))))]
theorem Fy{k:Nat}(h:tY k qs){q:Rat}(a:q∈qs):Sm 3000 q:=by
 refine(h.sm q a).mono ?_;have c:=h.pI;have b:0<qs.length:=List.length_pos_of_mem a;have:k*1<=k*qs.length:=abH _ b;left
theorem uy(Φ:aV):jF (mk Φ 2 2 gG):=by
 intro f qs k b a e;have c:bG Φ (.comp 1 (.nm 0) [1] .seq [(.v 0)] [] (.bin .mul (.ix (.v 0) (.int 0)) (.bin .fdiv (.v 1) (.ix (.v 0) (.int 1))))) [some (.lst f (bj qs)),some (.int b)]=ok (.lst .ow (ah (qs.map (bw b)))):=by
  rw[bW (xs:=[.lst (bt f) (bj qs)]) (items:=bj qs) (ds:=qs.map λq=>.int (bw b q)) (by simp) (by rw[cA];simp) (bH λq d=>?_) (by have:=a.len;simp;exact bL (by left))]
  ·have:(qs.map λq=>D.int (bw b q))=ah (qs.map (bw b)):=by simp[ah]
   rw[this,di]
  ·refine⟨[some (qD q),some (.int b)],by simp[bF],by simp,?_⟩;have h:=Fy a d;obtain⟨j,i⟩:=h.big (by decide);have m:cL .fdiv (.int b) (.int q.den)=ok (.int ((b:Int).fdiv q.den)):=kK (gf (kC q) i);have l:cL .mul (.int q.num) (.int ((b:Int).fdiv q.den))=ok (.int (q.num*(b:Int).fdiv q.den)):=by
    refine dW (mulOk_of j ?_);rw[Int.fdiv_eq_ediv_of_nonneg _ (by left),<- Int.natCast_ediv];have:=Nat.div_le_self b q.den;have g:=wO e (by decide);rw[Int.natAbs_natCast];exact aap this g
   simp[m,l,bw]
 simp[mk_eq,gG,c]
def kN(m:aw):Prop:=∀f qs k,tY k qs->m [.lst f (bj qs)]=ok (.tup [.int (bI qs),.lst .ow (ah (qs.map (bw (bI qs))))])
noncomputable def iO:ai:=[.asg (.nm 1) (.call 9 [(.v 0)]),.ret (.tup [(.v 1),(.call 10 [(.v 0),(.v 1)])])]
theorem tY.Gi{k:Nat}(h:tY k qs):bI qs<2 ^ 8000:=aah h.lcm.2.1 (aaj (by decide) (by have:=h.pI;left))
theorem wz(Φ:aV)(b:fu (Φ 9))(e:jF (Φ 10)):kN (mk Φ 1 2 iO):=by
 intro f qs k a;have d:=λf=>b f qs k a;have c:=λf=>e f qs k (bI qs) a a.Gi;simp[mk_eq,iO,d,c]
def fS(m:aw):Prop:=∀f qs k,tY k qs->m [.lst f (bj qs)]=ok (qD qs.sum)
noncomputable def fR:ai:=[.asg (.nm 1) (.call 41 [(.v 0)]),.ret (.call 2 [(.bf .eI [(.ix (.v 1) (.int 1))]),(.ix (.v 1) (.int 0))])]
theorem nB{b:Nat}(c:0<b)(h:∀q∈qs,q.den∣b):Rat.divInt (qs.map (bw b)).sum b=qs.sum:=by
 have a:((b:Nat):Rat)≠0:=by
  intro z;have:((b:Int):Rat)=0:=by rw[Rat.intCast_natCast];exact z
  rw[Rat.intCast_eq_zero_iff]at this;left
 rw[Rat.divInt_eq_div,oH h,Rat.intCast_natCast];grind
theorem sj(Φ:aV)(c:cY (Φ 2))(h:kN (Φ 41)):fS (mk Φ 1 2 fR):=by
 intro f qs k a;have g:=λf=>h f qs k a;obtain⟨e,i,d⟩:=a.lcm;have b:=c.1 (qs.map (bw (bI qs))).sum (bI qs) (by left) (by have:=wO a.Gi (by decide);simpa using this);rw[nB e d]at b;simp[mk_eq,fR,g,b]
noncomputable def cD(n:Int):D->Bool
 |.int i=>decide (0<=i)&&decide (i<n)
 |_=>false
theorem mS(g:Fl->Fl)(n:Int)(d:D):cD n (aO g d)=cD n d:=by
 cases d<;>simp[cD]
theorem gC{n:Int}:∀{ds:af},ds.all (cD n)=true->∃ns:aa,ds=ah ns
 |[],_=>⟨[],rfl⟩
 |d::ds,h=>by
  simp only[List.all_cons,Bool.and_eq_true]at h;obtain⟨ns,rfl⟩:=gC h.2;cases d with
  |int i=>exact⟨i::ns,rfl⟩
  |_=>simp[cD]at h
def numsOf(ds:af):aa:=(intsOf ds).getD []
theorem gA(ns:aa):numsOf (ah ns)=ns:=by unfold numsOf ah;rw[bQ];rfl
def cR(d:D)(n:Int):Bool:=match d with
 |.tup ds=>ds.all (cD n)&&decide ((tx (numsOf ds)).length=ds.length)
 |_=>false
def uZ(d:D)(n:Int):Bool:=cR d n&&(match d with
 |.tup ds=>decide (numsOf ds=sortI (numsOf ds))
 |_=>false)
def iT(m:aw):Prop:=∀d n,qw d->m [d,.int n]=ok (.bl (cR d n))
noncomputable def dy:ai:=[.ifs (.not (.qZ (.v 0) .tuple)) [.ret (.bl false)] [],.ifs (.not (.bf .all1 [(.comp 1 (.nm 0) [1] .seq [(.v 0)] [] (.and [(.call 0 [(.v 0)]),(.cmp .ge (.v 0) (.int 0)),(.cmp .lt (.v 0) (.v 1))]))])) [.ret (.bl false)] [],.ret (.cmp .eq (.kE (.v 0)) (.bf .len [(.v 0)]))]
theorem so(Φ:aV)(b:eP (Φ 0)):iT (mk Φ 2 2 dy):=by
 intro d n j;unfold eP at b;cases d with
 |tup ds =>
  have h:ds.length<64:=j;have c:bG Φ (.comp 1 (.nm 0) [1] .seq [(.v 0)] [] (.and [(.call 0 [(.v 0)]),(.cmp .ge (.v 0) (.int 0)),(.cmp .lt (.v 0) (.v 1))])) [some (.tup ds),some (.int n)]=ok (.lst .ow (lM (ds.map (cD n)))):=by
   rw[bW (xs:=[.tup (aA bt ds)]) (by simp) (nS ..) (vE (g:=λd=>.bl (cD n d)) λx _=>⟨[some x,some (.int n)],by simp[bF],by simp,?_⟩) (by simp;exact bL (by left))]
   ·simp[aW,Function.comp_def,mS,lM]
   ·cases x with
    |int i =>
     simp[b,d_,dO,cD]
    |_=>simp[b,d_,dO,cD]
  cases a:ds.all (cD n)with
  |true =>
   obtain⟨ns,rfl⟩:=gC a;have f:ns.length<4000:=by simp at h;left
   have e:(List.all (List.map (cD n) (ah ns)) id)=true:=by rw[List.all_map];exact a
   simp[mk_eq,dy,dO,c,e,Mw f,cR,a,gA];simp[Int.natCast_inj]
  |false =>
   have e:(List.all (List.map (cD n) ds) id)=false:=by rw[List.all_map];exact a
   simp only[mk_eq,dy,List.length_cons,List.length_nil];simp[dO,c,e,cR,a]
 |_=>simp[mk_eq,dy,dO,cR]
def vW(m:aw):Prop:=∀d n,qw d->m [d,.int n]=ok (.bl (uZ d n))
noncomputable def iw:ai:=[.ret (.and [(.call 43 [(.v 0),(.v 1)]),(.cmp .eq (.bf .list1 [(.v 0)]) (.bf .iD [(.v 0)]))])]
theorem uP(n:Nat)(f:Fl)(ns:aa):fI (n+1) (.lst f (ah ns))=true:=sF (iG n) ns
theorem An(ns a:aa):fh (ah ns) (ah a)=decide (ns=a):=lG (λx y=>nZ x y) ns a
theorem lB(g:Fl->Fl)(d:D)(n:Int):cR (aO g d) n=cR d n:=by
 cases d with
 |tup ds =>
  cases h:ds.all (cD n)with
  |true =>
   obtain⟨ns,rfl⟩:=gC h;simp
  |false =>
   have a:(aA g ds).all (cD n)=false:=by
    rw[aW,List.all_map,show(cD n∘aO g)=cD n from funext λd=>mS g n d];exact h
   simp[cR,h,a]
 |_=>simp[cR]
theorem jX{g:Fl->Fl}{d:D}(h:qw d):qw (aO g d):=by
 cases d<;>simp_all [qw]
theorem BN(Φ:aV)(i:iT (Φ 43)):vW (mk Φ 2 2 iw):=by
 intro d n c;have a:=i (aO bo (aO bt d)) n (jX (jX c));rw[lB,lB]at a;cases d with
 |tup ds =>
  have g:ds.length<64:=c;simp only[Cz]at a;cases b:cR (.tup ds) n with
  |true =>
   have e:=b;simp only[cR,Bool.and_eq_true]at e;obtain⟨ns,rfl⟩:=gC e.1;have f:ns.length<64:=by simpa using g
   have h:fi .eq (.lst .ow (ah ns)) (.lst .ow (ah (sortI ns)))=ok (.bl (decide (ns=sortI ns))):=by
    rw[RK (uP 39 _ _) (uP 39 _ _),G3,An]
   rw[b]at a;simp at a;simp[mk_eq,iw,a,GS f,h,uZ,b,gA]
  |false =>
   rw[b]at a;simp[mk_eq,iw,a,uZ,b]
 |_=>(simp at a;simp[mk_eq,iw,a,uZ,cR])
def ou(n:Nat)(l:aa):Prop:=l.Pairwise (· < ·)/\∀h∈l,0<=h/\h<(n:Int)
theorem tu:∀(l m:aa),(∀x∈l,x∉m)->l.Nodup->l.foldl (λ(m:aa) (k:Int)=>if m.any (· == k)then m else m++[k]) m=m++l
 |[],m,_,_=>by simp
 |x::l,m,h,hn=>by
  have b:m.any (· == x)=false:=by
   rw[List.any_eq_false];intro y a z;have:y=x:=by simpa using z
   exact h x aae (this▸a)
  rw[List.foldl_cons,b,if_neg Bool.false_ne_true,tu l (m++[x])]
  ·simp
  ·intro y a z;rcases List.mem_append.mp z with z|z
   ·exact h y (aac _ a) z
   ·have:y=x:=by simpa using z
    subst this;exact(List.nodup_cons.mp hn).1 a
  ·exact(List.nodup_cons.mp hn).2
theorem ou.nodup{n:Nat}{l:aa}(h:ou n l):l.Nodup:=h.1.imp λz=>by left
theorem BA{l:aa}(h:l.Pairwise (· < ·)):sortI l=l:=by
 unfold sortI;apply List.mergeSort_of_pairwise;exact h.imp λz=>by simp;left
theorem ou.uZ{n:Nat}{l:aa}(h:ou n l):uZ (.tup (ah l)) n=true:=by
 have c:(ah l).all (cD n)=true:=by
  unfold ah;rw[List.all_map,List.all_eq_true];intro x a;have:=h.2 x a;simp[cD,this.1,this.2]
 have b:tx l=l:=by
  have:=tu l [] (by simp) h.nodup;rw[List.nil_append]at this;exact this
 simp[DI.uZ,cR,c,gA,b,BA h.1]
def gK(c:Nat)(p:D->Int->Bool)(m:aw):Prop:=∀d n,qw d->m [d,.int n]=if p d n then ok .cq else some (.error c)
noncomputable def iR(f c:Nat):ai:=[.ifs (.not (.call f [(.v 0),(.v 1)])) [.rs c] []]
theorem rP(g:Fl->Fl)(d:D)(n:Int):kc (aO g d) n=kc d n:=by
 cases d<;>simp[kc];rw[aW,List.all_map,show(dU∘aO g)=dU from funext λd=>kG g d]
theorem yc(Φ:aV){f c:Nat}{p:D->Int->Bool}(b:∀g d n,p (aO g d) n=p d n)(h:∀d n,qw d->Φ f [d,.int n]=ok (.bl (p d n))):gK c p (mk Φ 2 2 (iR f c)):=by
 intro d n i;have a:=h (aO bo (aO bt d)) n (jX (jX i));rw[b,b]at a;cases e:p d n with
 |true=>rw[e]at a;simp[mk_eq,iR,a]
 |false=>rw[e]at a;simp[mk_eq,iR,a]
noncomputable def gh(ns:aa)(k:Int):Int :=
 let c:=if k<ns.length then ns.getD k.toNat 0 else 0
 if (10:Int) ^ 18<=c then(c - 10 ^ 18).fmod (10 ^ 60)else
  let n:=(c*48271+k*69621+11).fmod 2147483629
  let n:=(n*n).fmod 2147483587
  n*2147483563+(n*n).fmod 2147483563
def xA(m:aw):Prop:=∀(ns:aa) (k:Int),0<=k->m [.lst .sc (ah ns),.int k]=ok (.int (gh ns k))
noncomputable def ft:ai:=[.asg (.nm 2) (.int 0),.ifs (.cmp .lt (.v 1) (.bf .len [(.v 0)])) [.asg (.nm 2) (.ix (.v 0) (.v 1))] [],.ifs (.cmp .ge (.v 2) (.bin .pow (.int 10) (.int 18))) [.ret (.bin .mod (.bin .sub (.v 2) (.bin .pow (.int 10) (.int 18))) (.bin .pow (.int 10) (.int 60)))] [],.asg (.nm 3) (.bin .mod (.bin .add (.bin .add (.bin .mul (.v 2) (.int 48271)) (.bin .mul (.v 1) (.int 69621))) (.int 11)) (.int 2147483629)),.asg (.nm 3) (.bin .mod (.bin .mul (.v 3) (.v 3)) (.int 2147483587)),.ret (.bin .add (.bin .mul (.v 3) (.int 2147483563)) (.bin .mod (.bin .mul (.v 3) (.v 3)) (.int 2147483563)))]
theorem iL(a:Int){b:Int}(h:0<b):0<=a.fmod b/\a.fmod b<b:=⟨abW a h,acj a h⟩
theorem Ax(Φ:aV)(x:D)(k c:Int)(l:dO .list x=true)(o:aH):pM (b8 Φ (ft.drop 2) [some x,some (.int k),some (.int c),o])=ok (.int (if (10:Int) ^ 18<=c then(c - 10 ^ 18).fmod (10 ^ 60)else
  let n:=(c*48271+k*69621+11).fmod 2147483629
  let n:=(n*n).fmod 2147483587
  n*2147483563+(n*n).fmod 2147483563)):=by
 have d:cL .pow (.int 10) (.int 18)=ok (.int (10 ^ 18)):=Jd (by decide);have e:cL .pow (.int 10) (.int 60)=ok (.int (10 ^ 60)):=Jd (by decide);by_cases h:(10:Int) ^ 18<=c
 ·have a:(1000000000000000000:Int)<=c:=h;simp[ft,d,e,a]
 ·have a:¬ (1000000000000000000:Int)<=c:=h;obtain⟨a1,a2⟩:=iL (c*48271+k*69621+11) (b:=2147483629) (by decide);generalize i:(c*48271+k*69621+11).fmod 2147483629=n at *;obtain⟨a3,a4⟩:=iL (n*n) (b:=2147483587) (by decide);have g:cL .mul (.int n) (.int n)=ok (.int (n*n)):=dW (sL _ (by left));generalize j:(n*n).fmod 2147483587=m at *;have f:cL .mul (.int m) (.int m)=ok (.int (m*m)):=dW (sL _ (by left));simp[ft,d,a,i,g,j,f]
theorem J_(Φ:aV):xA (mk Φ 2 4 ft):=by
 intro ns k b;have:=λc=>Ax Φ (.lst .sc (ah ns)) k c rfl none;by_cases h:k<ns.length
 ·have f:vP (ah ns) k=ok (.int (ns.getD k.toNat 0)):=by
   have a:k.toNat<ns.length:=by left
   rw[at_of b (d:=.int (ns.getD k.toNat 0)) (by rw[ra,List.getElem?_eq_getElem a,Option.map_some,List.getD_eq_getElem?_getD,List.getElem?_eq_getElem a];rfl)];simp
  have e:pM (b8 Φ ft ([some (D.lst Fl.sc (ah ns)),some (D.int k)]++[none,none]))=pM (b8 Φ (ft.drop 2) [some (.lst .sc (ah ns)),some (.int k),some (.int (ns.getD k.toNat 0)),none]):=by
   rw[ft,dB,HU];simp only[Iy,IY,vc,pz];simp only[List.cons_append,List.nil_append,zr,List.length_cons,List.length_nil,Nat.reduceAdd,Nat.reduceLT,hZ,List.set_cons_succ,List.set_cons_zero];rw[dB,Of];simp[h,f]
  rw[mk_eq (ar:=2) (ds:=[_,_]) rfl];refine(show _=_ from e).trans ?_;rw[this,gh,if_pos h]
 ·have e:pM (b8 Φ ft ([some (D.lst Fl.sc (ah ns)),some (D.int k)]++[none,none]))=pM (b8 Φ (ft.drop 2) [some (.lst .sc (ah ns)),some (.int k),some (.int 0),none]):=by
   rw[ft,dB,HU];simp only[Iy,IY,vc,pz];simp only[List.cons_append,List.nil_append,zr,List.length_cons,List.length_nil,Nat.reduceAdd,Nat.reduceLT,hZ,List.set_cons_succ,List.set_cons_zero];rw[dB,Of];simp[h]
  rw[mk_eq (ar:=2) (ds:=[_,_]) rfl];refine(show _=_ from e).trans ?_;rw[this,gh,if_neg h]
noncomputable def kZ:CS:=.Js (.cmp .gt (.v 3) (.int 0)) [.par 2 3 (.v 3) (.bin .mod (.v 2) (.v 3))]
def lQ:ai:=[.asg (.nm 2) (.bf .abs [(.v 0)]),.asg (.nm 3) (.bf .abs [(.v 1)]),kZ,.ifs (.cmp .lt (.v 1) (.int 0)) [.asg (.nm 2) (.bin .sub (.int 0) (.v 2))] [],.ret (.tup [(.bin .fdiv (.v 0) (.v 2)),(.bin .fdiv (.v 1) (.v 2))])]
theorem wQ(Φ:aV)(x y:aH):∀(n:Nat) (a b:Nat),b<=n->mT Φ kZ [x,y,some (.int a),some (.int b)]=ok (.nx,[x,y,some (.int (Nat.gcd a b)),some (.int 0)]):=by
 intro n;induction n with
 |zero =>
  intro a b h;have c:b=0:=by left
  subst c;rw[kZ,qB];exact iB (by simp)
 |succ n f =>
  intro a b h;by_cases c:b=0
  ·subst c;rw[kZ,qB];exact iB (by simp)
  ·have k:=Nat.mod_lt a (show 0<b by left);have e:=f b (a % b) (by left);have j:Nat.gcd b (a % b)=Nat.gcd a b:=by rw[Nat.gcd_comm a b,Nat.gcd_rec b a,Nat.gcd_comm]
   rw[j]at e;rw[kZ,qB]at e ⊢;rw[<- e];have d:0<b:=by left
   have i:((a:Int)).fmod (b:Int)=((a % b:Nat):Int):=by
    rw[Int.fmod_eq_emod_of_nonneg _ (by left)];exact(Int.natCast_emod a b).symm
   have g:mT Φ (.par 2 3 (.v 3) (.bin .mod (.v 2) (.v 3))) [x,y,some (.int a),some (.int b)]=ok (.nx,[x,y,some (.int b),some (.int ((a % b:Nat):Int))]):=by
    rw[Od];simp[c,i]
   exact oB (by simp[d,g])
theorem FE(Φ:aV):j6 (mk Φ 2 4 lQ):=by
 intro t b c h;obtain⟨k,j⟩:=tm (t:=t) c;have i:=n5 (t:=t) c h t;have g:=n5 (t:=t) c h b;have e:=wQ Φ (some (.int t)) (some (.int b)) b.natAbs t.natAbs b.natAbs (aal _);rw[qD,<- k,<- j];by_cases a:b<0
 ·have f:0 - (Nat.gcd t.natAbs b.natAbs:Int)=gd t b:=by simp[gd,a,Int.gcd]
  have d:-(Nat.gcd t.natAbs b.natAbs:Int)=gd t b:=by simp[gd,a,Int.gcd]
  simp[mk_eq,lQ,e,a,d,i,g]
 ·have f:(Nat.gcd t.natAbs b.natAbs:Int)=gd t b:=by simp[gd,a,Int.gcd]
  simp[mk_eq,lQ,e,a,f,i,g]
noncomputable def fm(qs:aC)(h:Int):Rat:=qs.getD h.toNat 0
theorem oj{h:Int}(c:0<=h)(b:h<qs.length):qs[h.toNat]?=some (fm qs h)/\fm qs h∈qs:=by
 have a:h.toNat<qs.length:=by left
 have e:qs[h.toNat]?=some (fm qs h):=by
  unfold fm;rw[List.getD_eq_getElem?_getD,List.getElem?_eq_getElem a];rfl
 exact⟨e,aaz e⟩
theorem GY(a qs:aC):fh (bj a) (bj qs)=decide (a=qs):=lG IW a qs
theorem qO{q:Rat}(h:0<q):0<q.num:=by
 have:=(Rat.lt_iff 0 q).mp h;simpa using this
noncomputable def U2(p:Rat×Rat):D:=.tup [qD p.1,qD p.2]
theorem Jm(hz:Φ 1000=t4)(f g:Fl)(a qs:aC):dN Φ (.cm 1000) [.lst f (bj a),.lst g (bj qs)]=ok ((a.zip qs).map U2):=by
 show bd (Φ 1000 _) oP=_;rw[hz];show ok (aA bo (List.zipWith (λx y=>D.tup [x,y]) (bj a) (bj qs)))=_;congr 1;unfold bj;rw[List.zipWith_map,aW,List.map_zipWith,List.zip,List.map_zipWith];simp[U2]
theorem ou.len{n:Nat}{l:aa}(h:ou n l):l.length<=n:=by
 have d:(l.map Int.toNat).Nodup:=by
  unfold List.Nodup;rw[List.pairwise_map];refine h.1.imp_of_mem λg f z e=>?_;have:=h.2 _ g;have:=h.2 _ f;left
 have c:(l.map Int.toNat) ⊆ List.range n:=λx b=>by
  obtain⟨y,a,rfl⟩:=List.mem_map.mp b;have:=h.2 y a;rw[List.mem_range];left
 have:=d.length_le_of_subset c;simpa using this
theorem ou.cE{n:Nat}{l:aa}(h:ou n l)(a:n<=12):qw (.tup (ah l)):=by
 have:=h.len;show(ah l).length<64;simp;left
theorem x5{t b:Int}{k:Nat}(d:b≠0)(c:t.natAbs<2 ^ k)(a:b.natAbs<2 ^ k):Sm k (Rat.divInt t b):=zF d c a
theorem xh{t b:Int}(c:0<t)(d:0<b):0<Rat.divInt t b:=by
 rw[Rat.divInt_eq_div];have f:(0:Rat)<(t:Rat):=by
  have:=Rat.intCast_lt_intCast (a:=0) (b:=t);simpa using this.mpr c
 have e:(0:Rat)<(b:Rat):=by
  have:=Rat.intCast_lt_intCast (a:=0) (b:=b);simpa using this.mpr d
 rw[Rat.div_def];exact abG f (Rat.inv_pos.mpr e)
theorem Sm.neg{k:Nat}{q:Rat}(h:Sm k q):Sm k (-q):=⟨by simpa using h.1,h.2⟩
theorem Sm.zero(k:Nat)(h:1<=k):Sm k 0:=by
 have:Sm 1 (0:Rat):=by constructor<;>decide
 exact this.mono h
theorem Sm.sum{k:Nat}:∀{qs:aC},(∀q∈qs,Sm k q)->Sm (1+(k+1)*qs.length) qs.sum
 |[],_=>Sm.zero _ (by simp)
 |q::qs,h=>by
  have c:=h q aae;have b:=Sm.sum (qs:=qs) λp a=>h p (aac _ a);rw[List.sum_cons];refine(c.add b).mono ?_;rw[List.length_cons,Nat.mul_succ];left
noncomputable def bh(l:aa)(f:Int->Rat):Rat:=(l.map f).sum
@[simp]theorem ug(f:Int->Rat):bh [] f=0:=rfl
theorem l5(h:Int)(l:aa)(f:Int->Rat):bh (h::l) f=f h+bh l f:=rfl
theorem kA{l:aa}{f g:Int->Rat}(h:∀x∈l,f x=g x):bh l f=bh l g:=by
 unfold bh;rw[List.map_congr_left h]
theorem uh(c:Rat)(l:aa)(f:Int->Rat):bh l (λh=>c*f h)=c*bh l f:=by
 induction l with
 |nil=>simp[Rat.mul_zero]
 |cons h l a=>rw[l5,l5,a];grind
abbrev Row:=Rat×aa
abbrev ae:=List Row
def rD(r:Row):D:=.tup [qD r.1,.tup (ah r.2)]
@[simp]theorem K0(g:Fl->Fl)(r:Row):aO g (rD r)=rD r:=by unfold rD;simp
@[simp]theorem LS(g:Fl->Bool)(r:Row):aT g (rD r)=false:=by unfold rD;simp
noncomputable def bg(rs:ae):af:=rs.map rD
@[simp]theorem iF(rs:ae):(bg rs).length=rs.length:=aaO ..
@[simp]theorem bZ(g:Fl->Fl)(rs:ae):aA g (bg rs)=bg rs:=dv g (K0 g) rs
@[simp]theorem fg(g:Fl->Bool)(rs:ae):aP g (bg rs)=false:=cW g (LS g) rs
theorem DK(a b:aa):fh (ah a) (ah b)=decide (a=b):=lG (λx y=>by show(x==y)=_;rfl) a b
def bV(n:Nat)(rs:ae):D:=.tup [.int n,.lst .fz (bg rs)]
def XM(rs:ae):Prop:=∃W:Nat,0<W/\W<2 ^ 250/\∀r∈rs,r.1.den∣W
def Rw(n:Nat)(l:aa):Prop:=l.Nodup/\l.length<=n/\∀h∈l,0<=h/\h<(n:Int)
theorem ou.rw{n:Nat}{l:aa}(h:ou n l):Rw n l:=⟨h.nodup,h.len,h.2⟩
noncomputable def cc(rs:ae):aC:=rs.map (·.1)
structure Dp(P:aa->Prop)(k n:Nat)(rs:ae):Prop where
 n1:1<=n
 n2:n<=12
 fin:XM rs
 len:rs.length<=1000
 lot:∀r∈rs,P r.2
 pos:∀r∈rs,0<r.1
 sm:∀r∈rs,Sm k r.1
 one:(rs.map (·.1)).sum=1
 rise:qA (rs.map (·.2))
 sl:∃j,tY j (cc rs)
abbrev Dr(k n:Nat)(rs:ae):Prop:=Dp (ou n) k n rs
theorem Dp.imp{P Q:aa->Prop}{k n:Nat}{rs:ae}(I:Dp P k n rs)(h:∀r∈rs,P r.2->Q r.2):Dp Q k n rs:=⟨I.n1,I.n2,I.fin,I.len,λr a=>h r a (I.lot r a),I.pos,I.sm,I.one,I.rise,I.sl⟩
section
variable {P:aa->Prop}{k n:Nat}{rs:ae}(I:Dp P k n rs)
include I
omit I in
theorem u_{W:Nat}:∀(qs:aC) (b:Nat),b∣W->(∀q∈qs,q.den∣W)->qs.foldl (λb q=>Nat.lcm b q.den) b∣W
 |[],_,h,_=>h
 |q::qs,b,h,hq=>u_ qs _ (Nat.lcm_dvd h (hq q aae)) λp a=>hq p (aac _ a)
theorem Dp.bot:0<bI (cc rs)/\bI (cc rs)<2 ^ 250/\∀q∈cc rs,q.den∣bI (cc rs):=by
 obtain⟨_,s⟩:=I.sl;obtain⟨a,b,c⟩:=s.lcm;obtain⟨W,f,e,d⟩:=I.fin;have:bI (cc rs)∣W:=u_ _ 1 (acA _) λq h=>by
  obtain⟨r,g,rfl⟩:=List.mem_map.mp h;exact d r g
 exact⟨a,aap (aba f this) e,c⟩
omit I in
theorem dJ:∀{l:aC} {q:Rat},(∀x∈l,0<x)->q∈l->0<=l.sum/\q<=l.sum
 |x::l,q,h,b=>by
  have d:0<=l.sum:=by
   cases l with
   |nil=>exact acB
   |cons y l=>exact(dJ (q:=y) (λx a=>h x (aac _ a)) aae).1
  have c:=h x aae;rw[List.sum_cons];refine⟨by grind,?_⟩;rcases List.mem_cons.mp b with rfl|b
  ·grind
  ·have:=(dJ (λx a=>h x (aac _ a)) b).2;grind
theorem Dp.le1{r:Row}(c:r∈rs):r.1<=1:=by
 rw[<- I.one];exact(dJ (λx a=>by obtain⟨s,b,rfl⟩:=List.mem_map.mp a;exact I.pos s b) (aaq c)).2
theorem Dp.top{r:Row}(d:r∈rs):(bw (bI (cc rs)) r.1).natAbs<2 ^ 250:=by
 obtain⟨a,b,c⟩:=I.bot;have e:=ji (c r.1 (aaq d));have i:=I.le1 d;have j:=I.pos r d;generalize bw (bI (cc rs)) r.1=t at *;generalize bI (cc rs)=B at *;have f:(0:Rat)<(B:Rat):=by exact_mod_cast a
 have t0:(0:Rat)<((t:Int):Rat):=by rw[e];exact abG j f
 have t1:((t:Int):Rat)<=((B:Int):Rat):=by
  rw[e,Rat.intCast_natCast];have:=abr i (abx f)
  rwa [Rat.one_mul]at this
 have h:0<t:=by exact_mod_cast t0
 have g:t<=(B:Int):=by exact_mod_cast t1
 left
end
def pW(m:aw):Prop:=∀(r:Row) (n:Nat),n<=12->Rw n r.2->0<r.1->m [rD r,.int n]=ok (.bl true)
noncomputable def lR:ai:=[.ifs (.or [(.not (.qZ (.v 0) .tuple)),(.cmp .ne (.bf .len [(.v 0)]) (.int 2))]) [.ret (.bl false)] [],.ifs (.not (.call 43 [(.ix (.v 0) (.int 1)),(.v 1)])) [.ret (.bl false)] [],.ret (.and [(.call 3 [(.ix (.v 0) (.int 0))]),(.cmp .gt (.ix (.ix (.v 0) (.int 0)) (.int 0)) (.int 0))])]
theorem Rw.LB{n:Nat}{l:aa}(h:Rw n l):cR (.tup (ah l)) n=true:=by
 have c:(ah l).all (cD n)=true:=by
  unfold ah;rw[List.all_map,List.all_eq_true];intro x a;have:=h.2.2 x a;simp[cD,this.1,this.2]
 have b:tx l=l:=by
  have:=tu l [] (by simp) h.1;rw[List.nil_append]at this;exact this
 simp[cR,c,gA,b]
theorem Rw.cE{n:Nat}{l:aa}(h:Rw n l)(a:n<=12):qw (.tup (ah l)):=by
 have:=h.2.1;show(ah l).length<64;simp;left
theorem BM(Φ:aV)(f:eZ (Φ 3))(i:iT (Φ 43)):pW (mk Φ 2 2 lR):=by
 intro r n e a d;have c:=i (.tup (ah r.2)) n (a.cE e);rw[a.LB]at c;have b:=f (qD r.1);rw[yX]at b;have j:=qO d;have h:rD r=.tup [qD r.1,.tup (ah r.2)]:=rfl;have g:qD r.1=.tup [.int r.1.num,.int r.1.den]:=rfl;simp[mk_eq,lR,h,dO,c,b];simp[g,j]
theorem FI(c:Φ 1022=NU){a b:aa}(h:HT.lexLt a b=true):Φ 1022 [.tup (ah a),.tup (ah b)]=ok (.bl false):=by
 rw[c];show(match intsOf (ah a)with|some ns=>(match intsOf (ah b)with|some ms=>ok (D.bl (!HT.lexLt ns ms))|none=>none)|none=>none)=_;unfold ah;rw[bQ,bQ];show ok (D.bl (!HT.lexLt a b))=_;rw[h];rfl
def m6(m:aw):Prop:=∀(rs:ae),1<=rs.length->qA (rs.map (·.2))->m [.lst .fz (bg rs)]=ok (.bl true)
noncomputable def Fh:ai:=[.ifs (.cm 1022 [(.ix (.v 1) (.int 1)),(.ix (.v 2) (.int 1))]) [.ret (.bl false)] []]
def gI:ai:=[.fr (.tp [1,2]) (.Ks 1000 [(.v 0),(.cm 1020 [(.v 0),(.int 1)])]) Fh,.ret (.bl true)]
theorem yf(Φ:aV)(i:Φ 1022=NU)(a:aH):∀(rs:ae) (r:Row) (c b:aH),qA ((r::rs).map (·.2)) ->
  ∃f g,d9 (λd ρ=>cB (.tp [1,2]) d ρ) (λρ=>b8 Φ Fh ρ) (List.zipWith (λx y=>D.tup [x,y]) (bg (r::rs)) (bg rs)) [a,c,b]=ok (.nx,[a,f,g])
 |[],r,c,b,_=>⟨c,b,rfl⟩
 |s::rs,r,c,b,h=>by
  have j:=List.pairwise_cons.mp h;obtain⟨f,g,k⟩:=yf Φ i a rs s (some (rD r)) (some (rD s)) j.2;have l:=j.1 s.2 (by simp);have e:=FI i l;refine⟨f,g,cS (ρ1:=[a,some (rD r),some (rD s)]) (by simp) (ρ2:=[a,some (rD r),some (rD s)]) ?_ k⟩;have m:∀r:Row,rD r=.tup [qD r.1,.tup (ah r.2)]:=λ_=>rfl;simp[Fh,m,e]
theorem uA(Φ:aV)(g:Φ 1000=t4)(n:Φ 1020=cutD true)(f:Φ 1022=NU):m6 (mk Φ 1 3 gI):=by
 intro a j h;obtain⟨r,a,rfl⟩:∃r d,a=r::d:=by
  cases a with
  |nil=>simp at j
  |cons r a=>exact⟨r,a,rfl⟩
 obtain⟨p,o,e⟩:=yf Φ f (some (.lst .fz (bg (r::a)))) a r none none h;have m:Φ 1020 [.lst .fz (bg (r::a)),.int 1]=ok (.lst .ow (bg a)):=by
  rw[n];show(if (0:Int)<=1/\(1:Int)<=((bg (r::a)).length:Nat)then ok (D.lst .ow (aA bt (qu true (1:Int).toNat (bg (r::a)))))else none)=_;rw[if_pos ⟨by decide,by simp;left⟩];show ok (D.lst .ow (aA bt (bg a)))=_;simp
 have l:Φ 1000 [.lst .fz (bg (r::a)),.lst .ow (bg a)]=ok (.lst .ow (List.zipWith (λx y=>D.tup [x,y]) (bg (r::a)) (bg a))):=by rw[g];rfl
 have k:aA bo (List.zipWith (λx y=>D.tup [x,y]) (bg (r::a)) (bg a))=List.zipWith (λx y=>D.tup [x,y]) (bg (r::a)) (bg a):=by
  have:=dS bo (bg (r::a)) (bg a);rw[bZ,bZ]at this;exact this
 have c:cC Φ (.Ks 1000 [(.v 0),(.cm 1020 [(.v 0),(.int 1)])]) [some (.lst .fz (bg (r::a))),none,none]=ok (List.zipWith (λx y=>D.tup [x,y]) (bg (r::a)) (bg a),[some (.lst .fz (bg (r::a))),none,none]):=by
  show bd (cJ Φ [(.v 0),(.cm 1020 [(.v 0),(.int 1)])] [some (.lst .fz (bg (r::a))),none,none]) _=_;have:cJ Φ [(.v 0),(.cm 1020 [(.v 0),(.int 1)])] [some (.lst .fz (bg (r::a))),none,none]=ok [.lst .fz (bg (r::a)),.lst .ow (bg a)]:=by simp[m]
  rw[this,cZ,l,cZ];show ok (aA bo (List.zipWith (λx y=>D.tup [x,y]) (bg (r::a)) (bg a)),if aP b6 [D.lst .fz (bg (r::a)),.lst .ow (bg a)]then _ else _)=_;rw[k];simp
 have i:=fb (Φ:=Φ) (t:=.tp [1,2]) (b:=Fh) c e;simp[mk_eq,gI,i]
def o6(rs:ae):af:=rs.map λr=>.tup (ah r.2)
@[simp]theorem o4(g:Fl->Fl)(rs:ae):aA g (o6 rs)=o6 rs:=dv g (λr=>by simp) rs
@[simp]theorem LP(g:Fl->Bool)(rs:ae):aP g (o6 rs)=false:=cW g (λr=>by simp) rs
def lV(b:Nat)(rs:ae):af:=rs.map λr=>.tup [.int (bw b r.1),.tup (ah r.2)]
@[simp]theorem o3(g:Fl->Fl)(b:Nat)(rs:ae):aA g (lV b rs)=lV b rs:=dv g (λr=>by simp) rs
@[simp]theorem QS(g:Fl->Bool)(b:Nat)(rs:ae):aP g (lV b rs)=false:=cW g (λr=>by simp) rs
noncomputable def G9:CE:=.comp 2 (.tp [0,1]) [] .seq [(.v 0)] [] (.v 0)
noncomputable def G6:CE:=.comp 2 (.tp [0,1]) [] .seq [(.v 0)] [] (.v 1)
theorem RE(Φ:aV){rs:ae}(h:rs.length<=1000)(r:br):bG Φ G9 (some (.lst .fz (bg rs))::r)=ok (.lst .ow (bj (cc rs))):=by
 unfold G9;rw[bW (xs:=[.lst .fz (bg rs)]) (items:=bg rs) (ds:=rs.map λr=>qD r.1) (by simp) (by rw[cA];simp) (bH λr a=>?_) (by simp;exact bL (by left))]
 ·simp[bj,cc,aW]
 ·exact⟨[some (qD r.1),some (.tup (ah r.2))],by simp[bF,rD],by simp,by simp⟩
theorem P7(Φ:aV){rs:ae}(h:rs.length<=1000)(r:br):bG Φ G6 (some (.lst .fz (bg rs))::r)=ok (.lst .ow (o6 rs)):=by
 unfold G6;rw[bW (xs:=[.lst .fz (bg rs)]) (items:=bg rs) (ds:=rs.map λr=>.tup (ah r.2)) (by simp) (by rw[cA];simp) (bH λr a=>?_) (by simp;exact bL (by left))]
 ·exact aaV (λx=>ok (D.lst .ow x)) (o4 iK rs)
 ·exact⟨[some (qD r.1),some (.tup (ah r.2))],by simp[bF,rD],by simp,by simp⟩
def iy(m:aw):Prop:=∀(rs:ae) k,tY k (cc rs)->m [.lst .fz (bg rs)]=ok (.tup [.int (bI (cc rs)),.lst .ow (lV (bI (cc rs)) rs)])
def jY:ai:=[.asg (.nm 1) G9,.asg (.nm 2) G6,.asg (.nm 3) (.call 9 [(.v 1)]),.ret (.tup [(.v 3),(.cm 1040 [(.call 10 [(.v 1),(.v 3)]),(.v 2)])])]
theorem zJ(Φ:aV)(e:fu (Φ 9))(n:jF (Φ 10))(m:Φ 1040=P2):iy (mk Φ 1 4 jY):=by
 intro a k c;have d:a.length<=1000:=by have:=c.len;simpa [cc]using this
 have l:=RE Φ d;have j:=P7 Φ d;have i:=λf=>e f (cc a) k c;have h:=λf=>n f (cc a) k (bI (cc a)) c c.Gi;generalize bI (cc a)=b at *;have g:Φ 1040 [.lst .ow (ah ((cc a).map (bw b))),.lst .al (o6 a)]=ok (.lst .ow (lV b a)):=by
  rw[m];show ok (D.lst .ow (aA bt (List.zipWith pairD (ah ((cc a).map (bw b))) (o6 a))))=_;rw[dS,di,o4];unfold cc ah o6 lV;rw[List.map_map,List.map_map,List.zipWith_map,List.zipWith_self];rfl
 simp[mk_eq,jY,AM Φ G9 _ rfl,AM Φ G6 _ rfl,l,j,i,h,g]
noncomputable def MB:CE:=.comp 2 (.tp [0,1]) [] .seq [(.ix (.v 1) (.int 1))] [] (.v 0)
def kz(m:aw):Prop:=∀(rs:ae) k,tY k (cc rs)->(cc rs).sum=1->m [.lst .fz (bg rs)]=ok (.bl true)
def eW:ai:=[.asg (.nm 1) (.call 14 [(.v 0)]),.ret (.cmp .eq (.bf .eI [MB]) (.ix (.v 1) (.int 0)))]
theorem Bh{b:Nat}(h:∀q∈qs,q.den∣b)(a:qs.sum=1):(qs.map (bw b)).sum=(b:Int):=by
 have:=oH h;rw[a,Rat.one_mul,<- Rat.intCast_natCast]at this;exact Rat.intCast_inj.mp this
theorem qi(Φ:aV)(m:iy (Φ 14)):kz (mk Φ 1 2 eW):=by
 intro a k c f;have o:a.length<=1000:=by have:=c.len;simpa [cc]using this
 have l:=m a k c;have e:=c.lcm;have j:=Bh e.2.2 f;generalize bI (cc a)=b at *;have i:∀d,bG Φ MB [d,some (.tup [.int b,.lst .ow (lV b a)])]=ok (.lst .ow (ah ((cc a).map (bw b)))):=λd=>by
  unfold MB;rw[bW (xs:=[.lst .al (lV b a)]) (items:=lV b a) (ds:=a.map λr=>.int (bw b r.1)) (by simp) (by rw[cA];simp) (bH λr n=>?_) (by simp;exact bL (by left))]
  ·simp[ah,cc,aW]
  ·exact⟨[some (.int (bw b r.1)),some (.tup (ah r.2))],by simp[bF],by simp,by simp⟩
 have h:oe .eI [.lst .ow (ah ((cc a).map (bw b)))]=ok (.int b):=by
  show(match intsOf (ah ((cc a).map (bw b)))with|some ns=>ok (D.int ns.sum)|none=>none)=_;unfold ah;rw[bQ];show ok (D.int ((cc a).map (bw b)).sum)=_;rw[j]
 have g:fi .eq (.int (b:Int)) (.int (b:Int))=ok (.bl true):=by
  show(if fI 40 (.int (b:Int))&&fI 40 (.int (b:Int))then ok (D.bl ((b:Int)==(b:Int)))else none)=_;simp[fI]
 simp[mk_eq,eW,l,i,h,g]
noncomputable def nC:ai:=[.ifs (.not (.call 12 [(.v 3),(.v 1)])) [.ret (.bl false)] []]
def iQ:ai:=[.ifs (.or [(.not (.qZ (.v 0) .tuple)),(.cmp .ne (.bf .len [(.v 0)]) (.int 2))]) [.ret (.bl false)] [],.asg (.nm 1) (.ix (.v 0) (.int 0)),.asg (.nm 2) (.ix (.v 0) (.int 1)),.ifs (.or [(.not (.call 0 [(.v 1)])),(.cmp .lt (.v 1) (.int 1)),(.cmp .gt (.v 1) (.glo "MOST_HOUSES" 12))]) [.ret (.bl false)] [],.ifs (.not (.qZ (.v 2) .list)) [.ret (.bl false)] [],.fr (.nm 3) (.seq (.v 2)) nC,.ret (.and [(.call 44 [(.v 2)]),(.call 15 [(.v 2)])])]
def R8(m:aw):Prop:=∀k n a,Dr k n a->m [bV n a]=ok (.bl true)
def Ji(m:aw):Prop:=∀k n a,Dp (Rw n) k n a->m [bV n a]=ok (.bl true)
theorem pO(Φ:aV)(j:pW (Φ 12)){n:Nat}(g:n<=12)(b a:aH):∀(rs:ae) (c:aH),(∀r∈rs,Rw n r.2/\0<r.1)->∃f,d9 (λd ρ=>cB (.nm 3) d ρ) (λρ=>b8 Φ nC ρ) (bg rs) [b,some (.int n),a,c]=ok (.nx,[b,some (.int n),a,f])
 |[],c,_=>⟨c,rfl⟩
 |r::rs,c,h=>by
  obtain⟨f,k⟩:=pO Φ j g b a rs (some (rD r)) λs l=>h s (aac _ l);have i:=h r aae;have e:=j r n g i.1 i.2;refine⟨f,cS (ρ1:=[b,some (.int n),a,some (rD r)]) (by simp) (ρ2:=[b,some (.int n),a,some (rD r)]) ?_ k⟩;simp[nC,e]
theorem Dp.some{P:aa->Prop}{k n:Nat}{rs:ae}(I:Dp P k n rs):1<=rs.length:=by
 cases rs with
 |nil=>have:=I.one;simp at this
 |cons r rs=>simp
theorem wB(Φ:aV)(m:eP (Φ 0))(z:pW (Φ 12))(e:kz (Φ 15))(d:m6 (Φ 44)):Ji (mk Φ 1 4 iQ):=by
 intro k n a I;have A:=I.n1;have j:=I.n2;obtain⟨l,i⟩:=I.sl;have s:=e a l i I.one;have q:=d a I.some I.rise;have p:Φ 0 [.int (n:Int)]=ok (.bl true):=by rw[m];rfl
 obtain⟨B,o⟩:=pO Φ z j (some (bV n a)) (some (.lst .fz (bg a))) a none λr g=>⟨I.lot r g,I.pos r g⟩
 have c:cC Φ (.seq (.v 2)) [some (bV n a),some (.int n),some (.lst .fz (bg a)),none]=ok (bg a,[some (bV n a),some (.int n),some (.lst .fz (bg a)),none]):=by
  rw[pf (f:=.fz) (ds:=bg a) (by simp)];simp
 have h:=fb (Φ:=Φ) (t:=.nm 3) (b:=nC) c o;have w:fi .lt (.int (n:Int)) (.int 1)=ok (.bl false):=by
  show ok (D.bl (decide ((n:Int)<1)))=_;rw[decide_eq_false (by left)]
 have u:fi .gt (.int (n:Int)) (.int 12)=ok (.bl false):=by
  show ok (D.bl (decide ((12:Int)<n)))=_;rw[decide_eq_false (by left)]
 have x:∀ds,dO .tuple (.tup ds)=true:=λ_=>rfl;have y:∀f ds,dO .list (.lst f ds)=true:=λ_ _=>rfl;unfold bV at h ⊢;simp[mk_eq,iQ,x,y,p,w,u,h,q,s]
noncomputable def MH:CE:=.comp 2 (.tp [0,1]) [0] .seq [(.ix (.v 0) (.int 1))] [] (.call 11 [(.v 1),(.ix (.v 2) (.int 0))])
def fP:ai:=[.ret (.and [(.call 45 [(.v 0)]),(.bf .all1 [MH])])]
theorem sg(Φ:aV)(b:vW (Φ 11))(m:Ji (Φ 45)):R8 (mk Φ 1 1 fP):=by
 intro k n a I;have l:=m k n a (I.imp λ_ _ h=>h.rw);have j:bG Φ MH [some (bV n a)]=ok (.lst .ow (lM (a.map λ_=>true))):=by
  unfold MH;rw[bW (xs:=[.lst .fz (bg a)]) (items:=bg a) (ds:=a.map λ_=>.bl true) (by simp[bV]) (by rw[cA];simp) (bH λr g=>?_) (by simp;exact bL (by have:=I.len;left))]
  ·simp[lM,aW]
  ·have c:=I.lot r g;have e:=b (.tup (ah r.2)) n (c.cE I.n2);rw[c.uZ]at e;exact⟨[some (qD r.1),some (.tup (ah r.2)),some (bV n a)],by simp[bF,rD,bV],by simp,by simp[bV,e]⟩
 have i:oe .all1 [.lst .ow (lM (a.map λ_=>true))]=ok (.bl true):=by
  show(match jE (lM (a.map λ_=>true))with|some bs=>ok (D.bl (bs.all id))|none=>none)=_;unfold lM;rw[mC];show ok (D.bl ((a.map λ_=>true).all id))=_;congr 2;simp
 have f:aO bo (bV n a)=bV n a:=by simp[bV]
 have d:aO bt (bV n a)=bV n a:=by simp[bV]
 simp[mk_eq,fP,f,d,l,j,i]
def cF(m:aw):Prop:=∀k n a,Dr k n a->m [bV n a]=ok .cq
noncomputable def dH:ai:=[.ifs (.not (.call 16 [(.v 0)])) [.rs 1] []]
theorem ng(Φ:aV)(b:R8 (Φ 16)):cF (mk Φ 1 1 dH):=by
 intro k n a I;have e:=b k n a I;have d:aO bo (bV n a)=bV n a:=by simp[bV]
 have c:aO bt (bV n a)=bV n a:=by simp[bV]
 simp[mk_eq,dH,d,c,e]
noncomputable def dF(ws xs:aC):aC:=(ws.zip xs).map λp=>p.1*p.2
noncomputable def kb(ts:aa)(h:Int):Int:=ts.getD h.toNat 0
def sumZ(a:aa)(ts:aa):Int:=(a.map (kb ts)).sum
theorem HF{ts:aa}{h:Int}(b:0<=h)(c:h<ts.length):vP (ah ts) h=ok (.int (kb ts h)):=by
 have a:h.toNat<ts.length:=by left
 have:=at_of (ds:=ah ts) (d:=.int (kb ts h)) b (by
  rw[ra,List.getElem?_eq_getElem a];show some (D.int ts[h.toNat])=_;unfold kb;simp[a])
 simpa using this
noncomputable def MC:CE:=.comp 2 (.tp [0,1]) [] (.cm 1000) [(.v 1),(.v 2)] [] (.call 6 [(.v 0),(.v 1)])
noncomputable def MF:CE:=.comp 1 (.nm 0) [2] .seq [(.v 1)] [] (.ix (.v 1) (.v 0))
def MG:CE:=.comp 2 (.tp [0,1]) [4] .seq [(.ix (.v 0) (.int 1))] [] (.bf .eI [MF])
def eX:ai:=[.asg (.nm 3) (.call 41 [MC]),.asg (.nm 4) (.ix (.v 3) (.int 1)),.ret (.tup [(.ix (.v 3) (.int 0)),MG])]
structure Gs(j n:Nat)(ws xs:aC):Prop where
 l1:ws.length=n
 l2:xs.length=n
 s1:∀q∈ws,Sm j q
 s2:∀q∈xs,Sm j q
 jj:j<=100
theorem Gs.Ic{j n:Nat}{ws xs:aC}(G:Gs j n ws xs)(c:n<=12):tY (j+j) (dF ws xs):=by
 have d:(dF ws xs).length=n:=by unfold dF;rw[List.length_map,List.length_zip,G.l1,G.l2,Nat.min_self]
 have e:=G.jj;refine⟨λq a=>?_,?_,by left⟩
 ·obtain⟨p,b,rfl⟩:=List.mem_map.mp a;have m:=aaC b;exact(G.s1 _ m.1).mul (G.s2 _ m.2)
 ·rw[d];have:(j+j)*n<=200*12:=aaY (by left) c;left
theorem Gs.at{j n:Nat}{ws xs:aC}(G:Gs j n ws xs){h:Int}(b:0<=h)(a:h<n):fm (dF ws xs) h=fm ws h*fm xs h:=by
 obtain⟨d,_⟩:=oj (qs:=ws) b (by rw[G.l1];exact a);obtain⟨c,_⟩:=oj (qs:=xs) b (by rw[G.l2];exact a);unfold fm at *;unfold dF;rw[List.getD_eq_getElem?_getD,List.getElem?_map,List.zip,List.getElem?_zipWith,d,c];rfl
def dm(rs:ae)(P:aC):aa:=rs.map λr=>sumZ r.2 (P.map (bw (bI P)))
def gS(m:aw):Prop:=∀k n a f g ws xs j,Dr k n a->Gs j n ws xs->m [bV n a,.lst f (bj ws),.lst g (bj xs)]=ok (.tup [.int (bI (dF ws xs)),.lst .ow (ah (dm a (dF ws xs)))])
theorem qj(Φ:aV)(F:eY (Φ 6))(H:kN (Φ 41))(s:Φ 1000=t4):gS (mk Φ 3 5 eX):=by
 intro k n i f g ws xs j I G;have A:=I.n2;have y:=G.Ic A;have x:∀a b c,bG Φ MC [a,some (.lst f (bj ws)),some (.lst g (bj xs)),b,c]=ok (.lst .ow (bj (dF ws xs))):=λa b c=>by
  unfold MC;rw[bW (xs:=[.lst (bt f) (bj ws),.lst (bt g) (bj xs)]) (by simp) (Jm s ..) (ds:=(ws.zip xs).map λp=>qD (p.1*p.2)) (bH λp z=>?_) (by simp;exact bL (by have:=G.l1;left))]
  ·simp[dF,bj,aW]
  ·have m:=aaC z;have J:=G.jj;have e:=F p.1 p.2 ((G.s1 _ m.1).mono (by left)) ((G.s2 _ m.2).mono (by left));exact⟨[some (qD p.1),some (qD p.2)],by simp[bF,U2],by simp,by simp[e]⟩
 have w:=λf=>H f (dF ws xs) (j+j) y;have E:(dF ws xs).length=n:=by unfold dF;rw[List.length_map,List.length_zip,G.l1,G.l2,Nat.min_self]
 unfold dm;generalize K:bI (dF ws xs)=b at *;generalize C:(dF ws xs).map (bw b)=d at *;have l:d.length=n:=by rw[<- C,List.length_map,E]
 have v:∀(r:Row),r∈i->bG Φ MF [some (qD r.1),some (.tup (ah r.2)),some (.lst .fz (ah d))]=ok (.lst .ow (ah (r.2.map (kb d)))):=λr o=>by
  have q:=I.lot r o;unfold MF;rw[bW (xs:=[.tup (ah r.2)]) (items:=r.2.map D.int) (ds:=r.2.map λh=>.int (kb d h)) (by simp) (by rw[nS,di];rfl) (bH λh B=>?_) (by simp;exact bL (by have:=q.len;left))]
  ·simp[ah,aW]
  ·obtain⟨a,b⟩:=q.2 h B;have e:=HF (ts:=d) a (by rw[l];exact b);exact⟨[some (.int h),some (.lst .fz (ah d))],by simp[bF],by simp,by simp[e]⟩
 have u:∀(r:Row),oe .eI [.lst .ow (ah (r.2.map (kb d)))]=ok (.int (sumZ r.2 d)):=λr=>by
  show(match intsOf (ah (r.2.map (kb d)))with|some ns=>ok (D.int ns.sum)|none=>none)=_;unfold ah;rw[bQ];rfl
 have t:∀a b c,bG Φ MG [some (bV n i),a,b,c,some (.lst .fz (ah d))]=ok (.lst .ow (ah (i.map λr=>sumZ r.2 d))):=λa b c=>by
  unfold MG;rw[bW (xs:=[.lst .fz (bg i)]) (items:=bg i) (ds:=i.map λr=>.int (sumZ r.2 d)) (by simp[bV]) (by rw[cA];simp) (bH λr o=>?_) (by simp;exact bL (by have:=I.len;left))]
  ·simp[ah,aW]
  ·exact⟨[some (qD r.1),some (.tup (ah r.2)),some (.lst .fz (ah d))],by simp[bF,rD],by simp,by simp[v r o,u]⟩
 simp[mk_eq,eX,x,w,t,iq]
theorem fN{i j:Int}(h:i.natAbs<2 ^ 9000)(h':j.natAbs<2 ^ 9000):eu i j=true:=by simp only[eu,big,h,h',decide_true,Bool.and_self,Bool.or_true]
noncomputable def Ap:CE:=.comp 2 (.tp [0,1]) [] (.cm 1000) [(.ix (.v 2) (.int 1)),(.ix (.v 1) (.int 1))] [] (.bin .mul (.ix (.v 0) (.int 0)) (.v 1))
def j0:ai:=[.asg (.nm 2) (.call 14 [(.v 0)]),.asg (.nm 3) (.bf .eI [Ap]),.ret (.call 2 [(.v 3),(.bin .mul (.ix (.v 2) (.int 0)) (.ix (.v 1) (.int 0)))])]
def fJ(b:Nat)(rs:ae)(gs:aa):Int:=((rs.zip gs).map λp=>bw b p.1.1*p.2).sum
def rQ(m:aw):Prop:=∀{P:aa->Prop} k n rs gs (a:Nat),Dp P k n rs->gs.length=rs.length->0<a->a<2 ^ 8000->(∀g∈gs,g.natAbs<2 ^ 9000)->m [.lst .fz (bg rs),.tup [.int a,.lst .fz (ah gs)]]=ok (qD (Rat.divInt (fJ (bI (cc rs)) rs gs) ((bI (cc rs):Int)*a)))
theorem zK(Φ:aV)(E:cY (Φ 2))(H:iy (Φ 14))(q:Φ 1000=t4):rQ (mk Φ 2 4 j0):=by
 intro P k n c d f I J K g F;obtain⟨w,o⟩:=I.sl;have G:=H c w o;obtain⟨L,h,_⟩:=I.bot;have A:=λr B=>I.top (r:=r) B;generalize bI (cc c)=b at *;have z:dN Φ (.cm 1000) [.lst .al (lV b c),.lst .fz (ah d)]=ok ((c.zip d).map λp=>.tup [.tup [.int (bw b p.1.1),.tup (ah p.1.2)],.int p.2]):=by
  show bd (Φ 1000 _) oP=_;rw[q];show ok (aA bo (List.zipWith (λx y=>D.tup [x,y]) (lV b c) (ah d)))=_;have:=dS bo (lV b c) (ah d);rw[o3,di]at this;refine aaV ok (Eq.trans this ?_);unfold lV ah;rw[List.zipWith_map,List.zip,List.map_zipWith];rfl
 have v:∀a l,bG Φ Ap [a,some (.tup [.int f,.lst .fz (ah d)]),some (.tup [.int b,.lst .ow (lV b c)]),l]=ok (.lst .ow (ah ((c.zip d).map λp=>bw b p.1.1*p.2))):=λa l=>by
  unfold Ap;rw[bW (xs:=[.lst .al (lV b c),.lst .fz (ah d)]) (by simp) z (ds:=(c.zip d).map λp=>.int (bw b p.1.1*p.2)) (bH λp C=>?_) (by simp;exact bL (by have:=I.len;left))]
  ·simp[ah,aW]
  ·have m:=aaC C;have e:=dW (fN (aah (A p.1 m.1) (aaj (by decide) (by decide))) (F p.2 m.2));exact⟨[some (.tup [.int (bw b p.1.1),.tup (ah p.1.2)]),some (.int p.2)],by simp[bF],by simp,by simp[e]⟩
 have u:oe .eI [.lst .ow (ah ((c.zip d).map λp=>bw b p.1.1*p.2))]=ok (.int (fJ b c d)):=by
  show(match intsOf (ah ((c.zip d).map λp=>bw b p.1.1*p.2))with|some ns=>ok (D.int ns.sum)|none=>none)=_;unfold ah;rw[bQ];rfl
 have t:=dW (fN (i:=(b:Int)) (j:=(f:Int)) (by rw[Int.natAbs_natCast];exact aah h (aaj (by decide) (by decide))) (by rw[Int.natAbs_natCast];exact aah g (aaj (by decide) (by decide))));have s:=E.1 (fJ b c d) ((b:Int)*f) (by
  have:(0:Int)<(b:Int)*f:=Int.mul_pos (by left) (by left);left) (by
  rw[Int.natAbs_mul,Int.natAbs_natCast,Int.natAbs_natCast];exact aah (bu h g) (aaj (by decide) (by decide)))
 simp[mk_eq,j0,G,v,u,t,s]
def eB(rs:ae)(ws xs:aC):Rat:=(rs.map λr=>r.1*bh r.2 λh=>fm ws h*fm xs h).sum
theorem Fe{b:Nat}{P:aC}(a:∀q∈P,q.den∣b){h:Int}(d:0<=h)(c:h<P.length):((kb (P.map (bw b)) h:Int):Rat)=fm P h*(b:Rat):=by
 obtain⟨g,m⟩:=oj (qs:=P) d c;have f:h.toNat<P.length:=by left
 have e:kb (P.map (bw b)) h=bw b (fm P h):=by
  unfold kb;rw[List.getD_eq_getElem?_getD,List.getElem?_map,g];rfl
 rw[e,ji (a _ m)]
theorem oI{b:Nat}{P:aC}(c:∀q∈P,q.den∣b):∀(a:aa),(∀h∈a,0<=h/\h<(P.length:Int))->((sumZ a (P.map (bw b)):Int):Rat)=(bh a λh=>fm P h)*(b:Rat)
 |[],_=>by simp[sumZ,bh,Rat.zero_mul]
 |h::a,hh=>by
  have f:=oI c a λx g=>hh x (aac _ g);have d:=hh h aae;have e:sumZ (h::a) (P.map (bw b))=kb (P.map (bw b)) h+sumZ a (P.map (bw b)):=rfl;rw[e,Rat.intCast_add,Fe c d.1 d.2,f,l5];grind
theorem rV{b c:Nat}{P:aC}(d:∀q∈P,q.den∣c):∀(rs:ae),(∀r∈rs,r.1.den∣b)->(∀r∈rs,∀h∈r.2,0<=h/\h<(P.length:Int)) ->
  ((fJ b rs (rs.map λr=>sumZ r.2 (P.map (bw c))):Int):Rat)=(rs.map λr=>r.1*bh r.2 λh=>fm P h).sum*((b:Rat)*(c:Rat))
 |[],_,_=>by simp[fJ,Rat.zero_mul]
 |r::rs,hb,hl=>by
  have f:=rV d rs (λs a=>hb s (aac _ a)) λs a=>hl s (aac _ a);have e:fJ b (r::rs) ((r::rs).map λr=>sumZ r.2 (P.map (bw c)))=bw b r.1*sumZ r.2 (P.map (bw c))+fJ b rs (rs.map λr=>sumZ r.2 (P.map (bw c))):=rfl;rw[e,Rat.intCast_add,Rat.intCast_mul,ji (hb r List.mem_cons_self),oI d r.2 (hl r List.mem_cons_self),f,List.map_cons,List.sum_cons];grind
def kM(m:aw):Prop:=∀f qs j,1<=qs.length->qs.length<=12->tY j qs->m [.lst f (bj qs)]=ok (qD qs.sum)
noncomputable def iN:ai:=[.ifs (.or [(.not (.qZ (.v 0) .list)),(.cmp .lt (.bf .len [(.v 0)]) (.int 1)),(.cmp .gt (.bf .len [(.v 0)]) (.glo "MOST_HOUSES" 12))]) [.rs 4] [],.ex (.call 47 [(.v 0),(.bf .len [(.v 0)])]),.ret (.call 42 [(.v 0)])]
theorem wy(Φ:aV)(h:fS (Φ 42))(i:gK 4 kc (Φ 47)):kM (mk Φ 1 1 iN):=by
 intro f qs j l k c;have a:=λf=>i (.lst f (bj qs)) qs.length (by show(bj qs).length<=1000000;simp;left);simp only[pU,decide_true,if_true]at a;have d:=λf=>h f qs j c;have b:∀f ds,dO .list (.lst f ds)=true:=λ_ _=>rfl;have g:fi .lt (.int (qs.length:Int)) (.int 1)=ok (.bl false):=by
  show ok (D.bl (decide ((qs.length:Int)<1)))=_;rw[decide_eq_false (by left)]
 have e:fi .gt (.int (qs.length:Int)) (.int 12)=ok (.bl false):=by
  show ok (D.bl (decide ((12:Int)<qs.length)))=_;rw[decide_eq_false (by left)]
 simp[mk_eq,iN,b,g,e,a,d]
theorem oz{p i:Nat}{es:aF}{d d':D}(e:cJ Φ es ρ=ok xs)(c:aP b6 xs=false)(b:ρ[i]?=some (some d))(a:Φ p (d::xs)=ok d'):mT Φ (.mut p i es) ρ=ok (.nx,ρ.set i (some d')):=by
 show bd (cJ Φ es ρ) (λxs=>sJ Φ p i (lz es xs ρ))=_;rw[e,cZ];unfold lz;rw[c,if_neg Bool.false_ne_true];unfold sJ;rw[b];show bd (Φ p (d::xs)) _=_;rw[a];rfl
theorem rq(c:aa):∀(cs:az) (ws:aa),bY cs (ah ws) c=(bY cs ws c).map D.int
 |[],_=>by cases ‹aa› <;> rfl
 |_::_,[]=>rfl
 |c'::cs,w::ws=>by
  show(if c'=c then some (D.int w)else bY cs (ah ws) c)=Option.map D.int (if c'=c then some w else bY cs ws c);by_cases e:c'=c
  ·rw[if_pos e,if_pos e];rfl
  ·rw[if_neg e,if_neg e];exact rq c cs ws
theorem qJ(c:aa)(v:Int):∀(cs:az) (ws:aa),setC cs (ah ws) c (.int v)=ah (setC cs ws c v)
 |[],_=>by cases ‹aa› <;> rfl
 |_::_,[]=>rfl
 |c'::cs,w::ws=>by
  show(if c'=c then D.int v else D.int w)::setC cs (ah ws) c (.int v)=D.int (if c'=c then v else w)::ah (setC cs ws c v);rw[qJ c v cs ws];by_cases e:c'=c
  ·rw[if_pos e,if_pos e]
  ·rw[if_neg e,if_neg e]
theorem v7(cs:az)(ws:aa)(c:aa)(v:Int):bM cs (ah ws) c (.int v)=ah (bM cs ws c v):=by
 unfold bM;by_cases e:c∈cs
 ·rw[if_pos e,if_pos e];exact qJ c v cs ws
 ·rw[if_neg e,if_neg e];simp
def eK(cs:az)(ws:aa)(c:aa):Int:=(bY cs ws c).getD 0
theorem pC{a:Type}{c:aa}:∀{cs:az} (ws:List a),c∉cs->bY cs ws c=none
 |[],_,_=>by cases ‹List a› <;> rfl
 |_::_,[],_=>rfl
 |c'::cs,w::ws,h=>by
  show(if c'=c then some w else bY cs ws c)=none;rw[if_neg λe=>h (by rw[e];exact List.mem_cons_self)];exact pC ws λz=>h (aac _ z)
theorem nW{a:Type}{c:aa}:∀{cs:az} {ws:List a},cs.length=ws.length->c∈cs->∃w,bY cs ws c=some w/\w∈ws
 |[],_,_,h=>nomatch h
 |_::_,[],hl,_=>by simp at hl
 |c'::cs,w::ws,hl,h=>by
  by_cases e:c'=c
  ·exact⟨w,aaR e,aae⟩
  ·have d:c∈cs:=(List.mem_cons.mp h).resolve_left λz=>e z.symm;obtain⟨b,g,f⟩:=nW (cs:=cs) (ws:=ws) (by simpa using hl) d;exact⟨b,(acw e).trans g,aac _ f⟩
theorem uX:∀{cs:az} {ws:aa},cs.Nodup->cs.length=ws.length->cs.map (eK cs ws)=ws
 |[],[],_,_=>rfl
 |[],_::_,_,h=>by simp at h
 |_::_,[],_,h=>by simp at h
 |c::cs,w::ws,hn,hl=>by
  have a:=List.nodup_cons.mp hn;have b:=uX (cs:=cs) (ws:=ws) a.2 (by simpa using hl);rw[List.map_cons];have f:eK (c::cs) (w::ws) c=w:=by
   show(if c=c then some w else bY cs ws c).getD 0=w;rw[if_pos rfl];rfl
  have e:cs.map (eK (c::cs) (w::ws))=cs.map (eK cs ws):=aak λx d=>by
   show(if c=x then some w else bY cs ws x).getD 0=_;rw[if_neg (show ¬ c=x from λz=>a.1 (by rw[z];exact d))];rfl
  rw[f,e,b]
theorem uu{c:aa}{v:Int}:∀{cs:az} {ws:aa},cs.Nodup->cs.length=ws.length->c∈cs->(setC cs ws c v).sum=ws.sum - eK cs ws c+v/\(setC cs ws c v).length=ws.length
 |[],_,_,_,h=>nomatch h
 |_::_,[],_,h,_=>by simp at h
 |a::cs,w::ws,hn,b,h=>by
  have i:=List.nodup_cons.mp hn;have j:cs.length=ws.length:=by simpa using b
  have l:setC (a::cs) (w::ws) c v=(if a=c then v else w)::setC cs ws c v:=rfl;by_cases e:a=c
  ·have q:∀{cs:az} {ws:aa},cs.length=ws.length->c∉cs->setC cs ws c v=ws:=λ{cs}=>by
    induction cs with
    |nil=>intro ws b _;cases ws with|nil=>rfl|cons _ _=>simp at b
    |cons d cs m =>
     intro ws b k;cases ws with
     |nil=>simp at b
     |cons w ws =>
      show(if d=c then v else w)::setC cs ws c v=_;rw[if_neg λz=>k (by rw[z];exact List.mem_cons_self),m (by simpa using b) λz=>k (List.mem_cons_of_mem _ z)]
   have f:c∉cs:=e▸i.1;rw[l,if_pos e,q j f];have g:eK (a::cs) (w::ws) c=w:=by
    show(if a=c then some w else bY cs ws c).getD 0=w;rw[if_pos e];rfl
   rw[g];refine⟨?_,rfl⟩;rw[List.sum_cons,List.sum_cons];left
  ·have p:c∈cs:=(List.mem_cons.mp h).resolve_left λz=>e z.symm;obtain⟨o,n⟩:=uu (v:=v) i.2 j p;have g:eK (a::cs) (w::ws) c=eK cs ws c:=by
    show(if a=c then some w else bY cs ws c).getD 0=_;rw[if_neg e];rfl
   rw[l,if_neg e,g];refine⟨?_,by rw[List.length_cons,List.length_cons,n]⟩;rw[List.sum_cons,List.sum_cons,o];left
theorem oO{c:aa}{v:Int}:∀{cs:az} {ws:aa} {x:Int},x∈setC cs ws c v->x∈ws\/x=v
 |[],_,_,h=>by cases ‹aa› <;> exact nomatch h
 |_::_,[],_,h=>nomatch h
 |c'::cs,w::ws,x,h=>by
  have h:x∈(if c'=c then v else w)::setC cs ws c v:=h;rcases List.mem_cons.mp h with e|h
  ·by_cases q:c'=c
   ·rw[if_pos q]at e;exact .inr e
   ·rw[if_neg q]at e;rw[e];exact .inl aae
  ·rcases oO h with h|h
   ·exact .inl (aac _ h)
   ·exact .inr h
structure Tab(P:aa->Prop)(j:Nat)(cs:az)(ws:aa):Prop where
 nd:cs.Nodup
 ln:cs.length=ws.length
 pI:cs.length<=j
 lot:∀c∈cs,P c
 pos:∀w∈ws,1<=w
 sum:ws.sum<=7*j
 ne:1<=j->cs≠[]
variable {cs:az}
theorem Tab.get{n:aa->Prop}{j:Nat}(T:Tab n j cs ws)(c:aa):0<=eK cs ws c:=by
 by_cases h:c∈cs
 ·obtain⟨w,e,m⟩:=nW T.ln h;unfold eK;rw[e];have:=T.pos w m;show 0<=w;left
 ·unfold eK;rw[pC ws h];exact Int.le_refl _
theorem Tab.put{n:aa->Prop}{j:Nat}(T:Tab n j cs ws){c:aa}(m:n c){i:Int}(u:1<=i)(t:i<=7):Tab n (j+1) (aY cs c) (bM cs ws c (eK cs ws c+i)):=by
 have r:=T.get c;have s:=T.pI;have q:=T.sum;by_cases h:c∈cs
 ·obtain⟨k,g⟩:=uu (v:=eK cs ws c+i) T.nd T.ln h;unfold aY bM;rw[if_pos h,if_pos h];refine⟨T.nd,by rw[g];exact T.ln,by left,T.lot,λw hw=>?_,by rw[k];left,λ_ z=>by rw[z]at h;cases h⟩;rcases oO hw with hw|rfl
  ·exact T.pos w hw
  ·left
 ·have l:eK cs ws c=0:=by unfold eK;rw[pC ws h];rfl
  unfold aY bM;rw[if_neg h,if_neg h,l];refine⟨?_,by rw[List.length_append,List.length_append,T.ln];rfl,by rw[List.length_append,List.length_singleton];left,λd f=>?_,λw hw=>?_,by rw[List.sum_append];simp;left,λ_ z=>by simp at z⟩
  ·refine List.nodup_append.mpr ⟨T.nd,List.nodup_cons.mpr ⟨acy,aaA⟩,λa p b o e=>?_⟩;rw[List.mem_singleton.mp o]at e;exact h (e▸p)
  ·rcases List.mem_append.mp f with f|f
   ·exact T.lot d f
   ·rw[List.mem_singleton.mp f];exact m
  ·rcases List.mem_append.mp hw with hw|hw
   ·exact T.pos w hw
   ·rw[List.mem_singleton.mp hw];left
def j9(cs:az)(ws:aa):ae:=(bK cs).map λc=>(Rat.divInt (eK cs ws c) ws.sum,c)
theorem xV(W:Int)(b:W≠0):∀a:aa,(a.map λx=>Rat.divInt x W).sum=Rat.divInt a.sum W
 |[]=>by simp
 |x::a=>by
  rw[List.map_cons,List.sum_cons,xV W b a,List.sum_cons,Rat.divInt_eq_div,Rat.divInt_eq_div,Rat.divInt_eq_div,Rat.intCast_add];grind
theorem B6{a b:aC}(h:a.Perm b):a.sum=b.sum:=by
 induction h with
 |nil=>rfl
 |cons x _ c=>rw[List.sum_cons,List.sum_cons,c]
 |swap x y l=>rw[List.sum_cons,List.sum_cons,List.sum_cons,List.sum_cons];grind
 |trans _ _ e d=>rw[e,d]
theorem Vj(n:Nat)(t:Nat->Bool):ou n (((List.range n).filter t).map λ(k:Nat)=>(k:Int)):=by
 refine⟨?_,λh b=>?_⟩
 ·rw[List.pairwise_map];refine(List.Pairwise.filter _ List.pairwise_lt_range).imp λz=>?_;left
 ·obtain⟨k,a,rfl⟩:=List.mem_map.mp b;have:=List.mem_range.mp (List.mem_filter.mp a).1;left
theorem iM{t b:Int}(c:b≠0):(Rat.divInt t b).den∣b.natAbs:=by
 obtain⟨h,a,m,g,k,e,j,i⟩:=oV (t:=t) c;obtain⟨l,f⟩:=tm (t:=t) c;rw[show b.fdiv (gd t b)=a from e]at f;have d:(Rat.divInt t b).den=a.natAbs:=by left
 have:b.natAbs=(gd t b).natAbs*a.natAbs:=by rw[<- Int.natAbs_mul,<- g]
 rw[d,this];exact Nat.dvd_mul_left ..
end DI
end
section
namespace DI
open PySem PySem.Spec PyProof.Rows L2
def Df(K:av)(x:Str)(a:Stmt):Prop:=∃f b,HP K x x a f b/\PySem.W.nsIn K mainGlobals x=some (some (.ref f))
variable {K:av}{st:Stmt}
theorem dmk{x:Str}{f:Addr}{oc:Value}{g i:Option Addr}{d:Array (Option Value)}{kV h e b ct:Value}(a:PySem.W.nsIn K mainGlobals x=some (some (.ref f)))(l:K.lookup f=some ⟨oc,g,.func (PySem.W.fnOf x x (gF st) (dG st) (bU st) .none kV h e i b ct),d⟩)(c:PySem.W.codeIn K b x=true)(k:PySem.W.keepIn K (.ref f)=true):Df K x st:=⟨f,_,L7 l c k,a⟩
noncomputable def Zc(N P:ak)(sc:Scope):Bool:=decide (sc.kind=.function)&&(!sc.isCoroutine&&(!sc.isGenerator&&(decide N.Nodup&&(decide (N.take P.length=P)&&(P.all (λx=>decide (sc.names.lookup x=some .local\/sc.names.lookup x=some .cell))&&sc.names.all λy=>decide (y.2≠.free))))))
variable {N:ak}
theorem IS{P:ak}{sc:Scope}(h:Zc N P sc=true):j7 N P sc:=by
 obtain⟨j,h⟩:=aM h;obtain⟨i,h⟩:=aM h;obtain⟨g,h⟩:=aM h;obtain⟨f,h⟩:=aM h;obtain⟨e,h⟩:=aM h;obtain⟨d,c⟩:=aM h;exact⟨aab j,kn i,kn g,aab f,aab e,λx b=>aab (List.all_eq_true.mp d x b),λy a=>aab (List.all_eq_true.mp c y a)⟩
def Tz(st:Stmt)(N c:ak)(a:List (Nat×Str))(bl:ak)(cs:List (Str×GK))(px:Px)(b:ai):Bool:=Zc N c (bU st)&&lL ⟨bU st,N,λn=>List.lookup n a,bl,cs,px⟩ b (dG st)
theorem u1{b:Type}{P:List b->Prop}(h:∀a,P [a])(c:List b)(e:c.length=1):P c:=by obtain⟨a,rfl⟩:=Qa e;exact h a
theorem u2{c:Type}{P:List c->Prop}(h:∀a b,P [a,b])(d:List c)(e:d.length=2):P d:=by obtain⟨a,b,rfl⟩:=P_ e;exact h a b
theorem u3{d:Type}{P:List d->Prop}(h:∀a b c,P [a,b,c])(f:List d)(e:f.length=3):P f:=by obtain⟨a,b,c,rfl⟩:=P9 e;exact h a b c
theorem u4{f:Type}{P:List f->Prop}(h:∀a b c d,P [a,b,c,d])(g:List f)(e:g.length=4):P g:=by obtain⟨a,b,c,d,rfl⟩:=Vl e;exact h a b c d
theorem u5{g:Type}{P:List g->Prop}(h:∀a b c d e,P [a,b,c,d,e])(f:List g)(e:f.length=5):P f:=by
 match f,e with
 |[a,b,c,d,e],_=>exact h a b c d e
variable {P:aI}{base:Heap}{mg:Str->Option Value}{w:World}
theorem Ent.u{k k':Nat}{y:Str}{m:aw}(h:Ent P w K mg base k y m)(a:k<=k':=by decide):Ent P w K mg base k' y m:=h.up a
theorem en{h:Heap}(X:K.In h)(G:h.Ns mainGlobals mg)⦃x:Str⦄⦃st:Stmt⦄⦃N c bl:ak⦄⦃n:List (Nat×Str)⦄⦃cs:List (Str×GK)⦄⦃px:Px⦄⦃b:ai⦄(k:Nat)(Φ:aV)(m:aw)(d:Df K x st)(B:Tz st N c n bl cs px b=true)
  (o:xB px Φ/\Ni px Φ) (H:dP (λy=>mg y=none) bl) (s:dP (λp:Str×GK=>∃u,mg p.1=some u/\AX K p.2 u) cs)
  (A:dP (λp:Nat×Str=>Ent P w K mg base k p.2 (Φ p.1)) n) (z:∀j r,m j=ok r->j.length=c.length/\sr Φ N.length b j=ok r) (C:∀(kV l t:Value) (F:Option Addr) (v ct:Value) (e:au),e.length=c.length->bindArgs (PySem.W.fnOf x x (gF st) (dG st) (bU st) .none kV l t F v ct) ⟨e,[]⟩=pure (c.zip e):=by first|exact λ_ _ _ _ _ _=>u1 λ_=>rfl|exact λ_ _ _ _ _ _=>u2 λ_ _=>rfl|exact λ_ _ _ _ _ _=>u3 λ_ _ _=>rfl|exact λ_ _ _ _ _ _=>u4 λ_ _ _ _=>rfl|exact λ_ _ _ _ _ _=>u5 λ_ _ _ _ _=>rfl):Ent P w K mg base (k+1) x m:=by
 obtain⟨f,I,q,a⟩:=d;obtain⟨E,D⟩:=aM B;exact ent q (abE X G a) (q.binds C) (IS E) D o.1 o.2 (dP.mem H) (dP.two (P:=λy i=>∃u,mg y=some u/\AX K i u) s) (dP.tab (P:=λg y=>Ent P w K mg base k y (Φ g)) A) z
noncomputable def xm(PT F:aV)(i:Nat)(m:aw):aV:=λn=>bif Nat.ble 1000 n then PT n else bif Nat.beq n i then m else F n
theorem VF{d:Type}{Q:Nat->Prop}(p:Nat){k:Nat}{a b c:d}(h:(if p=k then a else b)=c)(g:a=c->Q k)(f:b=c->Q p):Q p:=by
 by_cases e:p=k
 ·subst e;rw[if_pos rfl]at h;exact g h
 ·rw[if_neg e]at h;exact f h
variable {F:Addr->Prop}{X Z:Cx}{cs:aF}{Φ:aV}
theorem CU{d:Type}{e:Expr}{p k:Nat}{a b c:d}(h:(if p=k then a else b)=c)(g:a=c->PE Z e (tD Z F Φ (.cm k cs))/\L2.PT Z e (gy Z F Φ (.cm k cs)))(f:b=c->PE Z e (tD Z F Φ (.cm p cs))/\L2.PT Z e (gy Z F Φ (.cm p cs))):PE Z e (tD Z F Φ (.cm p cs))/\L2.PT Z e (gy Z F Φ (.cm p cs)):=VF (Q:=λp=>PE Z e (tD Z F Φ (.cm p cs))/\L2.PT Z e (gy Z F Φ (.cm p cs))) p h g f
theorem VE{d:Type}{i p k:Nat}{a b c:d}(h:(if p=k then a else b)=c)(f:a=c->PS Z st (lW Z F Φ (.mut k i cs)))(e:b=c->PS Z st (lW Z F Φ (.mut p i cs))):PS Z st (lW Z F Φ (.mut p i cs)):=VF (Q:=λp=>PS Z st (lW Z F Φ (.mut p i cs))) p h f e
theorem VD{f:Type}{e d:CE}{i p k:Nat}{a b c:f}(h:(if p=k then a else b)=c)(j:a=c->PS Z st (lW Z F Φ (.mu2 k i e d)))(g:b=c->PS Z st (lW Z F Φ (.mu2 p i e d))):PS Z st (lW Z F Φ (.mu2 p i e d)):=VF (Q:=λp=>PS Z st (lW Z F Φ (.mu2 p i e d))) p h j g
theorem fc:True:=trivial
theorem dP.nn{K:av}{h:Heap}{mg:bp}(X:K.In h)(G:h.Ns mainGlobals mg):∀{l:ak},dP (λy=>PySem.W.nsIn K mainGlobals y=some none) l->dP (λy=>mg y=none) l
 |[],_=>trivial
 |_::_,z=>⟨PySem.W.mg_none_of X G z.1,dP.nn X G z.2⟩
theorem en7{P:aI}{w:World}{K:av}{h base:Heap}{mg:bp}{bl:ak}{cs:List (Str×GK)}{px:Px}{PT:aV}(X:K.In h)(G:h.Ns mainGlobals mg)(z:∀F i m,xB px (xm PT F i m)/\Ni px (xm PT F i m))(D:dP (λy=>mg y=none) bl)(t:dP (λp:Str×GK=>∃u,mg p.1=some u/\AX K p.2 u) cs)
  ⦃x:Str⦄ ⦃st:Stmt⦄ (k:Nat) (Φ:aV) (d:Df K x st) (N:ak) (a:Nat) (n:List (Nat×Str)) (b:ai)
  (A:dP (λp:Nat×Str=>Ent P w K mg base k p.2 (Φ p.1)) n) (B:Tz st N (N.take a) n bl cs px b=true:=by decide +kernel) (e:∃F i m,Φ=xm PT F i m:=by exact⟨_,_,_,rfl⟩) (o:(N.take a).length=a:=by rfl) (C:∀(kV c g:Value) (l:Option Addr) (j ct:Value) (f:au),f.length=a->bindArgs (PySem.W.fnOf x x (gF st) (dG st) (bU st) .none kV c g l j ct) ⟨f,[]⟩=pure ((N.take a).zip f):=by first|exact λ_ _ _ _ _ _=>u1 λ_=>rfl|exact λ_ _ _ _ _ _=>u2 λ_ _=>rfl|exact λ_ _ _ _ _ _=>u3 λ_ _ _=>rfl|exact λ_ _ _ _ _ _=>u4 λ_ _ _ _=>rfl|exact λ_ _ _ _ _ _=>u5 λ_ _ _ _ _=>rfl):Ent P w K mg base (k+1) x (mk Φ a N.length b):=by
 obtain⟨F,i,m,e⟩:=e;exact en X G k Φ _ d B (e▸z F i m) D t A (λs r q=>⟨(wK s r q).1.trans o.symm,(wK s r q).2⟩) (λkV c g l j ct f v=>C kV c g l j ct f (v.trans o))
theorem enL{x:Str}{a bl:ak}{d:List (Nat×Str)}{cs:List (Str×GK)}{px:Px}{b:ai}{f:Addr}{j:FuncData}(k:Nat)(Φ:aV)(m:aw)(z:HP K x x st f j)(q:Tz st N a d bl cs px b=true)
  (e:xB px Φ/\Ni px Φ) (v:dP (λy=>mg y=none) bl) (l:dP (λp:Str×GK=>∃u,mg p.1=some u/\AX K p.2 u) cs)
  (o:dP (λp:Nat×Str=>Ent P w K mg base k p.2 (Φ p.1)) d) (n:∀c r,m c=ok r->c.length=a.length/\sr Φ N.length b c=ok r):kh P w K mg base AZ (k+1) f j a (Fw K a.length m):=by
 obtain⟨t,s⟩:=aM q;exact vq z (IS t) s e.1 e.2 (dP.mem v) (dP.two (P:=λy i=>∃u,mg y=some u/\AX K i u) l) (λg y h=>(dP.tab (P:=λg y=>Ent P w K mg base k y (Φ g)) o g y h).ex) n
section
variable {prog:aI}{w:World}{A:aG}{E:aB}{s:Shared}{d it:Addr}{es:Array DictEntry}{ep i:Nat}
end
section
variable {X:Cx}{pins:ao}{σ:St}{H:Hp}{s:Shared}{d:Addr}{cs:az}{as:aS}{xs:ag}{ep:Nat}
theorem O_(I:Inv X pins σ H s)(h:H d=some (.ext (DO d cs as xs ep))):∃a:Array DictEntry,kg s.heap d a ep/\a.size=as.length/\a.toList.map (·.key)=as.map Value.ref/\Vals xs (a.toList.map (·.val))/\as.length=cs.length/\(d==sysModules)=false:=by
 obtain⟨⟨l,o,a,k,c,j,g,e,i,b,m,n,f⟩,_⟩:=(show cQ H s.heap d (.ext (DO d cs as xs ep)) from I.dE d _ h)
 refine⟨a,⟨o,g,e,i⟩,?_,?_,?_,?_,f⟩
 ·rw[<- Array.length_toList,b,<- c,List.length_map,List.length_map]
 ·rw[b,<- c,List.map_map,List.map_map];rfl
 ·rw[b,List.map_map];exact j
 ·rw[<- k,<- c,List.length_map,List.length_map]
end
section
variable {X:Cx}{pins:ao}{σ:St}{H:Hp}{s:Shared}{p b:Addr}{c:aa}{A:aG}{E:aB}
end
variable {Q:Value->Shared->Prop}
section
variable {prog:aI}{w:World}{A:aG}{E:aB}{s:Shared}{d it:Addr}{es:Array DictEntry}{ep i:Nat}
theorem DR(d:Addr)(b:(d==sysModules)=false):MeetsIn prog w (Builtin.«dict.values» ⟨[.ref d],[]⟩) (λ_ R s=>(∃es ep,kg s.heap d es ep)/\R (.ok (.ret (.ref s.heap.objs.size))) { s with heap:=s.heap.push { cls:=.type "dict_values",data:=.fields #[.ref d] } }) :=
 .of_wp λA R s c=>by
  obtain⟨⟨_,_,a⟩,h⟩:=c;refine aaa ?_;unfold Builtin.Dict.noArgs;refine aaa (abZ a.typeIs ?_);show wpAny _ _ (pure d) _ _ s;refine aad ?_;show wpAny _ _ (Builtin.Dict.showsAll d >>= _) _ _ s;unfold Builtin.Dict.showsAll;rw[if_neg (by rw[b];exact Bool.false_ne_true)];exact aaa (aad (aaa (aaD (aad ⟨_,rfl,h⟩))))
theorem Hd{v:Addr}(a:s.heap.IsValuesView v d)(g:kg s.heap d es ep)
  (j:Q (.ref s.heap.objs.size) { s with heap:=s.heap.push { cls:=.type "dict_valueiterator",data:=.fields #[.ref d,.int 0 0,.int es.size 0,.int ep 0] } }):wpAny (model prog w) A (pyIter (.ref v)) Q E s:=by
 obtain⟨k,b,h,c⟩:=id a;obtain⟨o,e,l,f⟩:=g;refine wpAny_pyIter_slot a.typeIs F.slot_dict_values_iter (aaI F.slot_dict_values_iter a.typeIs F.entry_dict_values_iter ?_ (F.args_dict_values_iter_1 _));unfold Builtin.«dict_values.__iter__»;refine aaa (aad (aaa ?_));unfold Builtin.Dict_items.dictOf;refine aaa (abF b c (x:=.ref d) rfl (aad (aaa ?_)));unfold Builtin.Dict_items.newIterator;refine aaa (aa_ e f (aaa (abp e f ?_)));simp only[show Builtin.Dict_items.ownsTuple "dict_valueiterator" = false by decide,abq,acC];refine aaD (aad ⟨_,rfl,"dict_valueiterator",_,⟨_,aam _ rfl,rfl⟩,F.slot_dict_valueiterator_next.lookup,?_⟩);simpa [rawInt]using j
theorem Hc{Q:Option Value->Shared->Prop}(a:s.heap.IsValIter it d i es.size ep)(j:kg s.heap d es ep)(m:i<es.size)
  (l:∀f,f.IsValIter it d (i+1) es.size ep->Heap.SameBut it s.heap f->Q (some es[i].val) { s with heap:=f }):wpAny (model prog w) A (pyNext (.ref it)) Q E s:=by
 obtain⟨o,e,k,b⟩:=id a;obtain⟨n,h,p,g⟩:=j;unfold pyNext;refine aaa (abC (aaS (name:=Str.ofString "__next__") a.typeIs aa8 (aaI aa8 a.typeIs F.entry_dict_valueiterator_next ?_ (F.args_dict_valueiterator_next_1 _))));refine aaa (aad (aaa (aaa ?_)))
 first|refine aaa (abc a.typeIs (aad ?_))|refine aaa (abl a.typeIs (aad ?_))
 refine aaa (acg e b ?_);simp only[show Builtin.Dict_items.ownsTuple "dict_valueiterator" = false by decide,abq,acC];show wpAny _ _ (if (Value.ref d==Value.none)=true then _ else _) _ _ s;rw[if_neg (show ¬ ((Value.ref d==Value.none)=true) from Bool.false_ne_true)];refine aaa (aad (aaa (aa_ h g ?_)));rw[if_neg (by simp)];refine aaa (aad (aaa (abp h g ?_)));rw[if_neg (by simp)];refine aad ?_;simp only[show ¬ ((i:Int)<0) from by left,if_false,Int.toNat_natCast,Array.getElem?_eq_getElem m];refine aaa ?_
 first|refine aaa (abc a.typeIs (aad ?_))|refine aaa (abl a.typeIs (aad ?_))
 refine aaa (ab1 a.typeIs ?_);show wpAny _ _ (setField (.ref it) 1 (rawInt ((i:Int)+1)) >>= _) _ _ s;refine aaa (ach e b (by simp) ?_);have c:(s.heap.update it (Obj.mapFields (·.setIfInBounds 1 (rawInt ((i:Int)+1))))).IsValIter it d (i+1) es.size ep :=
  ⟨_,aaP _ e (Obj.isFreed_of_fields (Obj.data_mapFields b _)),(Obj.cls_mapFields ..).trans k,by rw[Obj.data_mapFields b];simp[rawInt]⟩
 refine aaa (aaF ?_);refine aaa (ab1 (s:={ s with heap:=s.heap.update it (Obj.mapFields (·.setIfInBounds 1 (rawInt ((i:Int)+1)))) }) c.typeIs ?_);refine aaa (ab1 (s:={ s with heap:=s.heap.update it (Obj.mapFields (·.setIfInBounds 1 (rawInt ((i:Int)+1)))) }) c.typeIs ?_);show wpAny _ _ (pure es[i].val) _ _ _;exact aad (aad ⟨_,rfl,aad (l _ c (aaU ..))⟩)
theorem MN{Q:Option Value->Shared->Prop}(l:A.handled=none)(c:s.heap.IsValIter it d i es.size ep)(k:kg s.heap d es ep)(p:es.size<=i)
  (n:∀g,Heap.ExtBut it s.heap g->Q none { s with heap:=g }):wpAny (model prog w) A (pyNext (.ref it)) Q E s:=by
 obtain⟨o,e,r,f⟩:=id c;obtain⟨q,j,t,h⟩:=k;unfold pyNext;refine aaa (abC (aaS (name:=Str.ofString "__next__") c.typeIs aa8 (aaI aa8 c.typeIs F.entry_dict_valueiterator_next ?_ (F.args_dict_valueiterator_next_1 _))));refine aaa (aad (aaa (aaa ?_)))
 first|refine aaa (abc c.typeIs (aad ?_))|refine aaa (abl c.typeIs (aad ?_))
 refine aaa (acg e f ?_);simp only[show Builtin.Dict_items.ownsTuple "dict_valueiterator" = false by decide,abq,acC];show wpAny _ _ (if (Value.ref d==Value.none)=true then _ else _) _ _ s;rw[if_neg (show ¬ ((Value.ref d==Value.none)=true) from Bool.false_ne_true)];refine aaa (aad (aaa (aa_ j h ?_)));rw[if_neg (by simp)];refine aaa (aad (aaa (abp j h ?_)));rw[if_neg (by simp)];refine aad ?_;simp only[show ¬ ((i:Int)<0) from by left,if_false,Int.toNat_natCast,Array.getElem?_eq_none p];refine aaa ?_
 first|refine aaa (abc c.typeIs (aad ?_))|refine aaa (abl c.typeIs (aad ?_))
 show wpAny _ _ (setField (.ref it) 0 .none >>= _) _ _ s;refine aaa (ach e f (by simp) ?_);show wpAny _ _ (newExc (.type "StopIteration") [] >>= _) _ _ _;refine aaa ?_;simp only[newExc,newTuple];refine aaa (aaD ?_ (by size_fits));refine aaa (m:=firstArgMember _ _) (wpAny_of_eq (a:=Value.none) (by first|rfl | (simp only[firstArgMember];rfl)) ?_);refine aaD ?_ (by size_fits);simp only[raiseNew];refine aaa (wpAny_handled ?_);rw[show A.in1.handled=none from l];refine aaa (aad (wpAny_throw ?_));refine aaa (wpAny_isInstance (T:="StopIteration") (b:=true) ⟨_,aam _ rfl,rfl⟩ isSubtype_stop ?_);exact aad (n _ (((aaU ..).extBut.push _).push _))
theorem DQ(m:A.handled=none)(I d:Addr)(p:d≠I):Walks prog w A I [I,d] [I] es.size (λi v=>∃e,es[i]?=some e/\v=e.val) (λi h=>h.IsValIter I d i es.size ep/\kg h d es ep) where
 sub:=λb a=>by simp at a;simp[a]
 frame:=λ_ _ _ st g=>⟨st.1.at λo e=>g I (by simp) o e,let ⟨o,ho,r⟩:=st.2;⟨o,g d (by simp) o ho,r⟩⟩
 item:=λi s Q E j st c=>Hc st.1 st.2 j λf l k=>c _ f s.toks ⟨es[i],aa4 j,rfl⟩ ⟨l,let ⟨o,ho,r⟩:=st.2;⟨o,k.extBut d o p ho,r⟩⟩ λb o a e=>k.extBut b o (λh=>a (by simp[h])) e
 done:=λs Q E st c=>MN m st.1 st.2 (aal _) λf n=>c f s.toks λb o a e=>n b o (λh=>a (by simp[h])) e
 self:=λ_ _ _ _ st c=>wpAny_pyIter_valiter st.1 c
theorem MM{v:Addr}{ns:aa}(D:A.handled=none)(y:s.heap.IsValuesView v d)(f:kg s.heap d es ep)(n:Vals (ns.map V.int) (es.toList.map (·.val)))
  (h:∀l q a,(∀b o,s.heap.get? b=some o->l.get? b=some o)->Q (.int ns.sum a) { s with heap:=l,toks:=q }):wpAny (model prog w) A (call (.builtin "sum") [.ref v]) Q E s:=by
 have hlen:es.size=ns.length:=by
  have:=n.length;simpa using this.symm
 have m:d<s.heap.objs.size:=let ⟨_,ho,_⟩:=f;aai ho;refine call_sum_walkAnyS (Hd y f ⟨s.heap.objs.size,_,_,_,es.size,_,_,λi=>ns.getD i 0,rfl,(DQ (A:=A.in1) (es:=es) (ep:=ep) D _ d (aao m)).toS,⟨⟨_,aam _ rfl,rfl,rfl⟩,let ⟨o,ho,r⟩:=f;⟨o,aag _ ho,r⟩⟩,λb j=>?_,λi v G=>?_,λc a p=>?_⟩)
 ·show b<(s.heap.push _).objs.size;rw[size_push'];rcases List.mem_cons.mp j with e|j
  ·rw[e];exact aaW _
  ·rw[List.mem_singleton.mp j];exact aaE m
 ·obtain⟨e,g,rfl⟩:=G;have I:i<es.size:=by
   by_cases z:i<es.size
   ·exact z
   ·rw[Array.getElem?_eq_none (by left)]at g;cases g
  have B:(ns.map V.int)[i]?=some (.int (ns.getD i 0)):=by
   rw[List.getElem?_map,List.getElem?_eq_getElem (by left)];simp[List.getD,show i<ns.length by left]
  obtain⟨u,k,t⟩:=n.get B;rw[List.getElem?_map,Array.getElem?_toList,g]at k;cases k;exact t
 ·have C:∀b o,s.heap.get? b=some o->c.heap.get? b=some o:=λb o e =>
   p.heap b o (λH=>absurd (aai e) (by rw[List.mem_singleton.mp H];exact aaw _)) (aag _ e)
  rw[Moved.eq_with p];have x:preSum (λi=>ns.getD i 0) es.size=ns.sum:=by
   rw[hlen,jq _ ns (λ_=>rfl) _ (Nat.le_refl _),List.take_length]
  rw[x];exact h c.heap c.toks a C
end
def n9(_:Scope)(_:ak)(e:Expr):Option (aq):=match ua ("values" : Str) (.Expr e ⟨0,0,0,0⟩)with
 |some z=>if isNm z.1=true/\isNil z.2=true then some [z.1]else none
 |none=>none
variable {args:aq}
theorem xo{sc:Scope}{bl:ak}{e:Expr}(h:n9 sc bl e=some args):∃x p c b,e=.Call (.Attribute (.Name x p) ("values" : Str) c) [] [] b/\args=[.Name x p]/\(c.endLine==b.line)=true:=by
 unfold n9 at h;cases d:ua ("values" : Str) (.Expr e ⟨0,0,0,0⟩)with
 |none=>rw[d]at h;exact nk h
 |some z =>
  obtain⟨o,as⟩:=z;rw[d]at h;by_cases a:isNm o=true/\isNil as=true
  ·have h:(if isNm o=true/\isNil as=true then some [o]else none)=some args:=h;rw[if_pos a]at h;cases h;obtain⟨c,b,f,i,g⟩:=oE d;cases i;obtain⟨x,p,rfl⟩:=nU a.1;obtain rfl:=lA a.2;exact⟨_,_,_,_,rfl,rfl,g⟩
  ·have h:(if isNm o=true/\isNil as=true then some [o]else none)=some args:=h;rw[if_neg a]at h;exact nk h
def ze(sc:Scope)(bl:ak)(e:Expr):Option (aq):=match eO ("sum" : Str) sc bl e with
 |some as=>match one as with
  |some i=>n9 sc bl i
  |none=>none
 |none=>none
theorem D3{sc:Scope}{bl:ak}{e:Expr}(h:ze sc bl e=some args):∃q b x p d c,e=.Call (.Name ("sum" : Str) q) [.Call (.Attribute (.Name x p) ("values" : Str) d) [] [] c] [] b/\args=[.Name x p]/\(d.endLine==c.line)=true/\ja sc ("sum" : Str)=true/\("sum" : Str)∈bl:=by
 unfold ze at h;cases f:eO ("sum" : Str) sc bl e with
 |none=>rw[f]at h;exact nk h
 |some as =>
  rw[f]at h;obtain⟨q,b,a,rfl,rfl,j,i⟩:=jW f;obtain⟨x,p,d,c,rfl,rfl,g⟩:=xo (show n9 sc bl a=some args from h);exact⟨q,b,x,p,d,c,rfl,rfl,g,j,i⟩
def Nq(xs:af):O D:=match one xs with
 |some d=>match gg d with
  |some z=>match intsOf z.2 with
   |some a=>ok (.int a.sum)
   |none=>none
  |none=>none
 |none=>none
theorem JP{xs:af}{r:D}(h:Nq xs=ok r):∃f cs,∃a:aa,xs=[.cg f cs (a.map D.int)]/\r=.int a.sum:=by
 unfold Nq at h;cases g:one xs with
 |none=>rw[g]at h;exact nk h
 |some d =>
  rw[g]at h;have h:(match gg d with|some z=>(match intsOf z.2 with|some a=>ok (D.int a.sum)|none=>none)|none=>none)=ok r:=h;cases c:gg d with
  |none=>rw[c]at h;exact nk h
  |some z =>
   rw[c]at h;have h:(match intsOf z.2 with|some a=>ok (D.int a.sum)|none=>none)=ok r:=h;cases b:intsOf z.2 with
   |none=>rw[b]at h;exact nk h
   |some a =>
    rw[b]at h;cases h;obtain⟨f,e⟩:=lI c;exact⟨f,z.1,a,by rw[ck g,e,dT b],rfl⟩
def VW(v d:Addr)(h:Heap):Prop:=h.IsValuesView v d
theorem FP{x:Str}{p l g:Pos}{k:TE}(z:PE X (.Name x p) k)(A:(l.endLine==g.line)=true):PE X (.Call (.Attribute (.Name x p) ("values" : Str) l) [] [] g) (λf H Q=>k f H λu e=>∃d cs as j i,u=.ref d/\e d=some (.ext (DO d cs as j i))/\∀v,e v=none->Q (.ref v) (upd e v (.ext (VW v d)))):=by
 intro pins s f H Q I h;refine wpAny_Call_method rfl rfl A PySem.F.plainAttrs_dict PySem.F.slot_dict_values PySem.F.type_dict_values (dt (z pins s f H _ I h) λu b G=>?_);obtain⟨v,e,c,t,d,cs,as,j,i,D,n,q⟩:=G;subst D;cases t;obtain⟨E,J,O,L,M,hlen,r⟩:=O_ c n;obtain⟨t1,t2⟩:=dict_cls c n;refine⟨t1,t2,?_⟩;show wpAny _ _ (callWith g (.builtin "dict.values") [.ref d] [] []) _ _ b;refine method_meetsIn PySem.F.slot_dict_values PySem.F.entry_dict_values rfl (PySem.evalArgs_none ⟨rfl,t1,PySem.F.args_dict_values_1 _,_,DR d r,⟨E,i,J⟩,?_⟩);have m:(b.heap.push { cls:=.type "dict_values",data:=.fields #[.ref d] }).get? b.heap.objs.size=some { cls:=.type "dict_values",data:=.fields #[.ref d] }:=aam _ rfl;refine⟨.ref b.heap.objs.size,_,c.laid (a:=b.heap.objs.size) (o:=.ext (VW b.heap.objs.size d)) (t':=b.toks) (λ_ _ q=>aag _ q) (aal _) ⟨⟨_,m,rfl,rfl⟩,⟨_,m⟩,?_⟩,rfl,q _ (c.dE.fresh (aal _))⟩;rintro R S ⟨o,C,B⟩ y;exact⟨o,y _ C,B⟩
theorem Ay(m:X.calm=true):gx X (.builtin "sum") (λb H Q=>∃v d cs as e,∃a:aa,b=[.ref v]/\H v=some (.ext (VW v d))/\H d=some (.ext (DO d cs as (a.map V.int) e))/\Q (.int a.sum) H):=by
 intro pins s p H b y Q I r h;obtain⟨v,d,cs,as,e,a,rfl,j,l,q⟩:=h;obtain⟨u,rfl,i⟩:=r.one;cases i;obtain⟨B,o,z,x,f,hlen,t⟩:=O_ I l;obtain⟨n,_⟩:=(show cQ H s.heap v (.ext (VW v d)) from I.dE v _ j)
 refine MM (I.ok.hd m) n o f λA g c k=>⟨.int a.sum,H,I.kept (t':=g) k,⟨c,rfl⟩,q⟩
theorem OR{n:Nat}(g:Φ n=Nq){sc:Scope}{bl:ak}{k:Nat}(L:PX X sc bl k){e:Expr}(he:ze sc bl e=some args)(hs:m7 X F Φ cs args):PE X e (tD X F Φ (.cm n cs))/\PT X e (gy X F Φ (.cm n cs)):=by
 obtain⟨q,b,x,p,A,z,rfl,rfl,D,G,E⟩:=D3 he;cases cs with
 |nil=>exact hs.elim
 |cons c cs=>cases cs with
  |cons _ _=>exact hs.2.2.2.elim
  |nil =>
   have this:PE X (.Call (.Name ("sum" : Str) q) [.Call (.Attribute (.Name x p) ("values" : Str) A) [] [] z] [] b) (tD X F Φ (.cm n [c])):=by
    refine PE.imp (fe (Ay L.calm) (L.gl G) (L.bl _ E) (by decide +kernel) (cH (FP hs.1 D) ej)) λT H Q i=>?_;obtain⟨R,S,U,d,M,a,i⟩:=i;obtain⟨W,j,a⟩:=aD a;rw[g]at a;obtain⟨f,l,B,rfl,rfl⟩:=JP a;obtain⟨y,I,j⟩:=aD j;cases j;refine tD.intro M I λu H1 J r1=>?_;obtain⟨t,f1,q1⟩:=r1;cases q1 with
    | @cg _ s _ as V r _ _ O Y C =>
     cases C.ofInts;have o:=O.dat;refine⟨s,l,as,_,r,rfl,o,λv m=>⟨v,s,l,as,r,B,rfl,aZ,?_,i _ _ (J.trans (aL.upd m)) ⟨λ_=>none,λ_ _ h=>by simp at h,.int _⟩⟩⟩;exact aL.upd m _ _ o
   exact⟨this,cO this λ_=>rfl⟩
end DI
end
section
namespace DI
open PySem (Str)
structure M_(most:Nat)(qs:aC)(B:Nat):Prop where
 n1:1<=qs.length
 n2:qs.length<=most
 b1:1<=B
 b2:B<=9
 q0:∀q∈qs,0<=q
 q1:∀q∈qs,q<=1
 qd:∀q∈qs,q.den∣B
 su:∃s:Int,qs.sum=(s:Rat)
variable {qs:aC}
theorem M_.le{m k B:Nat}(h:M_ m qs B)(a:m<=k):M_ k qs B:=⟨h.n1,aar h.n2 a,h.b1,h.b2,h.q0,h.q1,h.qd,h.su⟩
theorem KP{q:Rat}(h:q<=1):q.num<=(q.den:Int):=by
 have b:(q.num:Rat)<=(q.den:Rat):=by
  rw[Ih];have a:(0:Rat)<=(q.den:Rat):=by exact_mod_cast aaH _
  have:=abr h a
  rwa [Rat.one_mul]at this
 exact_mod_cast b
theorem PD{q:Rat}(h:0<=q):0<=q.num:=Rat.num_nonneg.mpr h
theorem M_.sm{m B:Nat}(h:M_ m qs B){q:Rat}(a:q∈qs):Sm 4 q:=by
 have d:=KP (h.q1 q a);have c:=PD (h.q0 q a);have b:=aba (by have:=h.b1;left) (h.qd q a);have:=h.b2;constructor<;>simp<;>left
theorem M_.Ic{m B:Nat}(h:M_ m qs B)(b:m<=12):tY 4 qs:=⟨λ_ a=>h.sm a,by have:=h.n2;left,by have:=h.n2;left⟩
theorem pE{b:Type}(f:aa->b)(k:aa):∀a:az,bY a (a.map f) k=if k∈a then some (f k)else none
 |[]=>rfl
 |j::a=>by
  show(if j=k then some (f j)else bY a (a.map f) k)=_;rw[pE f k a];by_cases e:j=k
  ·subst e;simp
  ·rw[if_neg e];have:k∈j::a ↔ k∈a:=by rw[List.mem_cons];exact⟨λh=>h.resolve_left λz=>e z.symm,.inr⟩
   simp only[this]
theorem uv{b:Type}(f:aa->b)(k:aa)(v:b):∀a:az,setC a (a.map f) k v=a.map λj=>if j=k then v else f j
 |[]=>rfl
 |j::a=>by
  show(if j=k then v else f j)::setC a (a.map f) k v=_;rw[uv f k v a,List.map_cons]
theorem zy{a:Type}(f:aa->a)(k:aa)(v:a)(ks:az):bM ks (ks.map f) k v=(aY ks k).map λj=>if j=k then v else f j:=by
 unfold bM aY;by_cases h:k∈ks
 ·rw[if_pos h,if_pos h,uv]
 ·rw[if_neg h,if_neg h,List.map_append];congr 1
  ·refine aak λj b=>?_;rw[if_neg (show ¬ j=k from λz=>h (z▸b))]
  ·simp
variable {cs ks:az}
theorem qY{c k:aa}:k∈aY ks c ↔ k∈ks\/k=c:=by
 unfold aY;split
 ·rename_i h;exact⟨.inl,λz=>z.elim id λe=>e▸h⟩
 ·simp
theorem CK(h:ks.Nodup)(c:aa):(aY ks c).Nodup:=by
 unfold aY;split
 ·exact h
 ·rename_i d;rw[List.nodup_append];exact⟨h,by simp,λa f b e=>by rw[List.mem_singleton.mp e];exact λz=>d (z▸f)⟩
theorem zV(ks:az)(c:aa):(aY ks c).length<=ks.length+1:=by
 unfold aY;split<;>simp
structure AJ(Φ:aV):Prop where
 Dv:Φ 1030=DV
 IP:Φ 1032=DX
 IM:Φ 1033=vz
 Rb:Φ 1035=pN
variable {Φ:aV}
theorem MO(P:AJ Φ)(a:cs.length<64)(ws:aa)(c:aa)(v:Int):Φ 1033 [.cg .ow cs (ah ws),.int v,.tup (ah c)]=ok (.cg .ow (aY cs c) (ah (bM cs ws c v))):=by
 rw[P.IM];show(match intsOf (c.map D.int)with|some c=>if cG .ow=true/\aT anyF (.int v)=false/\cs.length<cE then ok (D.cg .ow (aY cs c) (bM cs (ah ws) c (.int v)))else none|none=>none)=_;rw[bQ];show(if cG .ow=true/\aT anyF (.int v)=false/\cs.length<cE then ok (D.cg .ow (aY cs c) (bM cs (ah ws) c (.int v)))else none)=_;rw[if_pos ⟨rfl,rfl,by show _<1000000;left⟩,v7]
variable {ws:aa}
theorem Rx(P:AJ Φ)(f:Fl)(a:cs.length=ws.length){c:aa}(h:c∈cs):Φ 1032 [.cg f cs (ah ws),.tup (ah c)]=ok (.int (eK cs ws c)):=by
 obtain⟨w,e,_⟩:=nW a h;rw[P.IP];show(match intsOf (c.map D.int)with|some c=>(match bY cs (ah ws) c with|some v=>if aT anyF v=false then ok v else none|none=>none)|none=>none)=_;rw[bQ];show(match bY cs (ah ws) c with|some v=>if aT anyF v=false then ok v else none|none=>none)=_;rw[rq,e];unfold eK;rw[e];rfl
theorem Bd(P:AJ Φ)(f:Fl)(vs:af)(h:ks.length<64):Φ 1035 [.cg f ks vs]=ok (.lst .ow ((bK ks).map eJ)):=by
 rw[P.Rb];show(if ks.length<64 then ok (D.lst .ow ((bK ks).map eJ))else none)=_;rw[if_pos h]
abbrev Dw:=Nat×ae
noncomputable def fK(a:Int)(l:aa):aa:=l.map λh=>a+h
def aQ:Int->List Dw->List (ae)
 |_,[]=>[]
 |a,d::Ds=>(d.2.map λr=>(r.1,fK a r.2))::aQ (a+d.1) Ds
noncomputable def bJ(c rows:ae):ae:=c.flatMap λm=>rows.map λr=>(m.1*r.1,m.2++r.2)
def jd:ae->List (ae)->ae
 |c,[]=>c
 |c,rs::LL=>jd (bJ c rs) LL
theorem eN{c rows:ae}{z:Row}:z∈bJ c rows ↔ ∃m∈c,∃r∈rows,z=(m.1*r.1,m.2++r.2):=by
 unfold bJ;rw[List.mem_flatMap];constructor
 ·rintro ⟨m,b,h⟩;obtain⟨r,a,rfl⟩:=List.mem_map.mp h;exact⟨m,b,r,a,rfl⟩
 ·rintro ⟨m,b,r,a,rfl⟩;exact⟨m,b,aaq a⟩
theorem iu(c rows:ae):(bJ c rows).length=c.length*rows.length:=by
 unfold bJ;induction c with
 |nil=>simp
 |cons m c a=>rw[List.flatMap_cons,List.length_append,List.length_map,a,List.length_cons,Nat.add_mul];left
def Jk(a:Int)(l:aa):Prop:=∀h∈l,0<=h/\h<a
def TR(a b:Int)(l:aa):Prop:=∀h∈l,a<=h/\h<b
theorem uj{a b:Int}:∀{l d r c:aa},Jk a l->Jk a d->TR a b r->TR a b c->l++r=d++c->l=d/\r=c
 |[],[],_,_,_,_,_,_,e=>⟨rfl,e⟩
 |[],y::d,r,c,_,h2,h3,_,e=>by
  exfalso;have f:y∈r:=by rw[show r=y::d++c from e];simp
  have:=h3 y f;have:=h2 y aae;left
 |x::l,[],r,c,h1,_,_,h4,e=>by
  exfalso;have f:x∈c:=by rw[<- show x::l++r=c from e];simp
  have:=h4 x f;have:=h1 x aae;left
 |x::l,y::d,r,c,h1,h2,h3,h4,e=>by
  obtain⟨m,k⟩:=abD (show x::(l++r)=y::(d++c) from e);obtain⟨j,i⟩:=uj (λh g=>h1 h (aac _ g)) (λh g=>h2 h (aac _ g)) h3 h4 k;exact⟨by rw[m,j],i⟩
theorem D0{a b:Int}{c rows:ae}(u:(c.map (·.2)).Nodup)(t:(rows.map (·.2)).Nodup)(i:∀m∈c,Jk a m.2)(j:∀r∈rows,TR a b r.2):((bJ c rows).map (·.2)).Nodup:=by
 induction c with
 |nil=>exact aaA
 |cons m c d =>
  obtain⟨o,n⟩:=List.nodup_cons.mp u;have d:=d n λx g=>i x (aac _ g);have e:(bJ (m::c) rows).map (·.2)=(rows.map λr=>m.2++r.2)++(bJ c rows).map (·.2):=by
   unfold bJ;rw[List.flatMap_cons,List.map_append,List.map_map];rfl
  rw[e,List.nodup_append];refine⟨?_,d,λx g y s=>?_⟩
  ·have:(rows.map λr=>m.2++r.2)=(rows.map (·.2)).map (m.2 ++ ·):=by rw[List.map_map];rfl
   rw[this];exact t.map (f:=(m.2 ++ ·)) λx y (h:x≠y) e=>h (List.append_cancel_left e)
  ·rintro rfl;obtain⟨r,B,rfl⟩:=List.mem_map.mp g;obtain⟨z,q,C⟩:=List.mem_map.mp s;obtain⟨p,k,l,A,rfl⟩:=eN.mp q;have w:=i m aae;obtain⟨v,_⟩:=uj w (i p (aac _ k)) (j r B) (j l A) C.symm;exact o (by show m.2∈c.map (·.2);rw[v];exact aaq k)
inductive Lay:Int->Int->List (ae)->Prop
 |nil (a:Int):Lay a a []
 |cons {a b c:Int} {rs:ae} {LL:List (ae)} (tX:a<=b) (nd:(rs.map (·.2)).Nodup) (ab:∀r∈rs,TR a b r.2) (t:Lay b c LL):Lay a c (rs::LL)
theorem Lay.skip{a b c:Int}{LL:List (ae)}(h:Lay a c LL)(j:0<=a)(i:b<=a):(LL=[])\/Lay b c LL:=by
 cases h with
 |nil=>exact .inl rfl
 |cons g nd f t=>exact .inr (.cons (by left) nd (λr e x d=>by have:=f r e x d;left) t)
theorem Ed{a b:Int}{LL:List (ae)}(L:Lay a b LL):∀{c:ae},0<=a->(c.map (·.2)).Nodup->(∀m∈c,Jk a m.2)->((jd c LL).map (·.2)).Nodup/\∀m∈jd c LL,Jk b m.2:=by
 induction L with
 |nil a=>intro c _ g f;exact⟨g,f⟩
 | @cons a b d p LL o nd i t j =>
  intro c q g f;refine j (by left) (D0 g nd f i) λm n=>?_;obtain⟨x,k,r,l,rfl⟩:=eN.mp n;intro h e;rcases List.mem_append.mp e with e|e
  ·have:=f x k h e;left
  ·have:=i r l h e;left
def Ip:Nat->List (ae)->Prop
 |_,[]=>True
 |c,rs::LL=>c*rs.length<=1000/\Ip (c*rs.length) LL
def vT(k l:Nat)(rs:ae):Prop:=∀r∈rs,Sm k r.1/\r.2.length<=l
theorem vB{k l i j:Nat}{c rows:ae}(d:vT k l c)(a:vT i j rows):vT (k+i) (l+j) (bJ c rows):=λz f=>by
 obtain⟨m,b,r,e,rfl⟩:=eN.mp f;exact⟨(d m b).1.mul (a r e).1,by have:=(d m b).2;have:=(a r e).2;simp;left⟩
theorem Ec{i j:Nat}{LL:List (ae)}:∀{k l:Nat} {c:ae},vT k l c->(∀a∈LL,vT i j a)->vT (k+LL.length*i) (l+LL.length*j) (jd c LL):=by
 induction LL with
 |nil=>intro k l c h _;simpa [jd]using h
 |cons a LL d =>
  intro k l c h b;have:=d (vB h (b a aae)) λx e=>b x (aac _ e);rw[List.length_cons,show k+(LL.length+1)*i=k+i+LL.length*i by rw[Nat.add_mul];left,show l+(LL.length+1)*j=l+j+LL.length*j by rw[Nat.add_mul];left];exact this
theorem fj:∀(a:Int) (Ds:List Dw),(aQ a Ds).length=Ds.length
 |_,[]=>rfl
 |a,d::Ds=>by rw[aQ,List.length_cons,fj,List.length_cons]
theorem vN{a:Int}{Ds:List Dw}{rs:ae}(h:rs∈aQ a Ds):∃d∈Ds,∃b,rs=d.2.map λr=>(r.1,fK b r.2):=by
 induction Ds generalizing a with
 |nil=>cases h
 |cons d Ds c =>
  rcases List.mem_cons.mp h with rfl|h
  ·exact⟨d,aae,a,rfl⟩
  ·obtain⟨e,f,b,g⟩:=c h;exact⟨e,aac _ f,b,g⟩
noncomputable def cp(Ds:List Dw):Int:=(Ds.map λd=>(d.1:Int)).sum
theorem ya{a:Int}{l m:aa}(h:fK a l=fK a m):l=m:=by
 unfold fK at h;exact List.map_inj_right (λx y e=>by left) |>.mp h
theorem zk:∀{a:Int} {Ds:List Dw},(∀d∈Ds,(d.2.map (·.2)).Nodup/\∀r∈d.2,Jk d.1 r.2)->Lay a (a+cp Ds) (aQ a Ds)
 |a,[],_=>by rw[show a+cp []=a by simp[cp]];exact Lay.nil a
 |a,d::Ds,h=>by
  obtain⟨n,m⟩:=h d aae;have g:=zk (a:=a+d.1) (Ds:=Ds) λe l=>h e (aac _ l);have e:a+cp (d::Ds)=a+d.1+cp Ds:=by simp[cp];left
  rw[e];refine .cons (b:=a+d.1) (by left) ?_ (λr k=>?_) g
  ·rw[List.map_map];have:((λx:Row=>x.2)∘λr:Row=>(r.1,fK a r.2))=fK a∘(·.2):=rfl;rw[this,<- List.map_map];exact n.map (f:=fK a) λx y (c:x≠y) e=>c (ya e)
  ·obtain⟨s,j,rfl⟩:=List.mem_map.mp k;intro x c;obtain⟨y,i,rfl⟩:=List.mem_map.mp c;have:=m s j y i;left
variable {ρ:br}
theorem Og{i:Nat}{op:Bool}{e:CE}{a b:Int}(h:bG Φ e ρ=ok (.int b))(c:ρ[i]?=some (some (.int a))):mT Φ (.aug i op e) ρ=ok (.nx,ρ.set i (some (.int (if op then a+b else a - b)))):=by
 show bd (bd (bG Φ e ρ) intD) _=_;rw[h];show(match ρ[i]? with|some (some (.int a))=>_|_=>none)=_;rw[c]
def cj(f:Fl)(d:Dw):D:=.tup [.int d.1,.lst f (bg d.2)]
def aU(f:Fl)(Ds:List Dw):af:=Ds.map (cj f)
theorem b9(g:Fl->Fl)(f:Fl)(d:Dw):aO g (cj f d)=cj (g f) d:=by
 show D.tup [.int d.1,.lst (g f) (aA g (bg d.2))]=_;rw[bZ];rfl
theorem bz(g:Fl->Fl)(f:Fl):∀a:List Dw,aA g (aU f a)=aU (g f) a
 |[]=>rfl
 |d::a=>by
  show aO g (cj f d)::aA g (aU f a)=_;rw[b9,bz g f a];rfl
theorem tq(f:Fl)(Ds:List Dw):(aU f Ds).length=Ds.length:=aaO ..
theorem jU(p:Fl->Bool)(f:Fl)(d:Dw):aT p (cj f d)=p f:=by
 show(false||((p f||aP p (bg d.2))||false))=_;rw[fg];simp
theorem il{p:Fl->Bool}{f:Fl}(h:p f=false):∀a:List Dw,aP p (aU f a)=false
 |[]=>rfl
 |d::a=>by
  show(aT p (cj f d)||aP p (aU f a))=false;rw[jU,h,il h a];rfl
noncomputable def Fm:ai:=[.ex (.call 17 [(.v 1)])]
def HA:ai:=[.ifs (.not (.qZ (.v 0) .list)) [.rs 1] [],.fr (.nm 1) (.seq (.v 0)) Fm,.ifs (.or [(.cmp .lt (.bf .len [(.v 0)]) (.int 1)),(.cmp .gt (.bf .len [(.v 0)]) (.glo "MOST_LAYERS" 4))]) [.rs 10] []]
def R9(m:aw):Prop:=∀a:List Dw,1<=a.length->a.length<=4->(∀d∈a,∃k,Dr k d.1 d.2)->m [.lst .fz (aU .fz a)]=ok .cq
theorem zc(Φ:aV)(f:cF (Φ 17))(a:aH):∀(Ds:List Dw) (b:aH),(∀d∈Ds,∃k,Dr k d.1 d.2)->∃c,d9 (λd ρ=>cB (.nm 1) d ρ) (λρ=>b8 Φ Fm ρ) (aU .fz Ds) [a,b]=ok (.nx,[a,c])
 |[],b,_=>⟨b,rfl⟩
 |d::Ds,b,h=>by
  obtain⟨k,j⟩:=h d aae;have e:=f k d.1 d.2 j;have l:Φ 17 [cj .fz d]=ok .cq:=e;obtain⟨c,g⟩:=zc Φ f a Ds (some (cj .fz d)) λx i=>h x (aac _ i);refine⟨c,cS (ρ1:=[a,some (cj .fz d)]) (by simp) (ρ2:=[a,some (cj .fz d)]) ?_ g⟩;simp[Fm,b9,l]
theorem UI(Φ:aV)(g:cF (Φ 17)):R9 (mk Φ 1 2 HA):=by
 intro a m l i;obtain⟨e,j⟩:=zc Φ g (some (.lst .fz (aU .fz a))) a none i;have d:=tq .fz a;have c:cC Φ (.seq (.v 0)) [some (.lst .fz (aU .fz a)),none]=ok (aU .fz a,[some (.lst .fz (aU .fz a)),none]):=by
  rw[pf (f:=.fz) (ds:=aU .fz a) (by simp[bz]),bz,il (by rfl)];rfl
 have h:=fb (Φ:=Φ) (t:=.nm 1) (b:=Fm) c j;have e:¬ ((aU .fz a).length:Int)<1:=by rw[d];left
 have k:¬ (4:Int)<((aU .fz a).length:Int):=by rw[d];left
 generalize aU .fz a=X at *;simp[mk_eq,HA,dO,h,e,k]
noncomputable def lJ(Ds:List Dw):Int->aa->Int
 |c,[]=>c
 |c,g::gs=>lJ Ds (c*((Ds.getD g.toNat (0,[])).2.length:Int)) gs
noncomputable def Fn:ai:=[.mut 1010 2 [(.bf .len [(.ix (.ix (.v 0) (.v 3)) (.int 1))])]]
def HD:ai:=[.asg (.nm 2) (.int 1),.fr (.nm 3) (.seq (.v 1)) Fn,.ret (.v 2)]
def Ng(m:aw):Prop:=∀(Ds:List Dw) (gs:aa),(∀d∈Ds,d.2.length<=1000)->(∀g∈gs,0<=g/\g<(Ds.length:Int))->m [.lst .fz (aU .fz Ds),.tup (ah gs)]=ok (.int (lJ Ds 1 gs))
theorem MJ{Ds:List Dw}{g:Int}(b:0<=g)(c:g<(Ds.length:Int)):vP (aU .fz Ds) g=ok (cj .fz (Ds.getD g.toNat (0,[]))):=by
 have a:g.toNat<Ds.length:=by left
 have:=at_of (ds:=aU .fz Ds) (i:=g) (d:=cj .fz (Ds.getD g.toNat (0,[]))) b (by
  unfold aU;rw[List.getElem?_map,List.getElem?_eq_getElem a];simp[a])
 rw[this,b9];rfl
theorem getD_mem{Ds:List Dw}{g:Int}(c:0<=g)(b:g<(Ds.length:Int)):Ds.getD g.toNat (0,[])∈Ds:=by
 have a:g.toNat<Ds.length:=by left
 have:Ds.getD g.toNat (0,[])=Ds[g.toNat]:=by simp[a]
 rw[this];exact abh a
theorem zi(Φ:aV)(j:Φ 1010=rb){Ds:List Dw}(k:∀d∈Ds,d.2.length<=1000)(a:aH):∀(gs:aa) (c:Int) (b:aH),(∀g∈gs,0<=g/\g<(Ds.length:Int)) ->
  ∃e,d9 (λd ρ=>cB (.nm 3) d ρ) (λρ=>b8 Φ Fn ρ) (ah gs) [some (.lst .fz (aU .fz Ds)),a,some (.int c),b]=ok (.nx,[some (.lst .fz (aU .fz Ds)),a,some (.int (lJ Ds c gs)),e])
 |[],c,b,_=>⟨b,rfl⟩
 |g::gs,c,b,h=>by
  obtain⟨m,l⟩:=h g aae;have r:=MJ m l;have t:=k _ (getD_mem m l);obtain⟨e,n⟩:=zi Φ j k a gs (c*((Ds.getD g.toNat (0,[])).2.length:Int)) (some (.int g)) λx o=>h x (aac _ o);have en:lJ Ds c (g::gs)=lJ Ds (c*((Ds.getD g.toNat (0,[])).2.length:Int)) gs:=rfl;rw[en,wV];generalize Ds.getD g.toNat (0,[])=d at *;have s:rb [.int c,.int (d.2.length:Int)]=ok (.int (c*(d.2.length:Int))):=aaR (yv c (by rw[Int.natAbs_natCast];left));have q:cj .fz d=.tup [.int d.1,.lst .fz (bg d.2)]:=rfl;have f:=oz (Φ:=Φ) (p:=1010) (i:=2) (es:=[(.bf .len [(.ix (.ix (.v 0) (.v 3)) (.int 1))])]) (ρ:=[some (.lst .fz (aU .fz Ds)),a,some (.int c),some (.int g)]) (xs:=[.int d.2.length]) (by simp[bz,r,q]) (by simp) rfl (by rw[j];exact s);simp only[List.set]at f;refine⟨e,cS (ρ1:=[some (.lst .fz (aU .fz Ds)),a,some (.int c),some (.int g)]) (by simp) (ρ2:=[some (.lst .fz (aU .fz Ds)),a,some (.int (c*(d.2.length:Int))),some (.int g)]) ?_ n⟩;rw[Fn,dB,f];rfl
theorem UL(Φ:aV)(e:Φ 1010=rb):Ng (mk Φ 2 4 HD):=by
 intro d a h f;obtain⟨j,i⟩:=zi Φ e h (some (.tup (ah a))) a 1 none f;have c:cC Φ (.seq (.v 1)) [some (.lst .fz (aU .fz d)),some (.tup (ah a)),some (.int 1),none]=ok (ah a,[some (.lst .fz (aU .fz d)),some (.tup (ah a)),some (.int 1),none]):=by
  rw[Vy (ds:=ah a) (by simp)];simp
 have g:=fb (Φ:=Φ) (t:=.nm 3) (b:=Fn) c i;generalize aU .fz d=X at *;simp[mk_eq,HD,g]
noncomputable def y6:CE:=.comp 1 (.nm 0) [] .seq [(.v 1)] [] (.ix (.v 0) (.int 0))
noncomputable def DN:CE:=.comp 2 (.tp [0,1]) [1] .seq [(.ix (.v 0) (.int 1))] [] (.call 99 [(.v 2),(.v 1)])
def HE:ai:=[.ifs (.cmp .gt (.bf .eI [y6]) (.glo "MOST_HOUSES" 12)) [.rs 10] [],.ifs (.cmp .gt (.bf .eI [DN]) (.glo "MOST_CHOICES" 500)) [.rs 10] []]
def vG(Ds:List Dw)(gs:ae):Int:=(gs.map λr=>lJ Ds 1 r.2).sum
def TN(Ds:List Dw)(gs:ae):Prop:=∀r∈gs,∀g∈r.2,0<=g/\g<(Ds.length:Int)
theorem Ee(Φ:aV){Ds:List Dw}(b:Ds.length<=1000)(f:Fl)(a:aH)(r:br):bG Φ y6 (a::some (.lst f (aU f Ds))::r)=ok (.lst .ow (ah (Ds.map λd=>(d.1:Int)))):=by
 unfold y6;rw[bW (xs:=[.lst (bt f) (aU (bt f) Ds)]) (items:=Ds.map (cj (bo (bt f)))) (ds:=Ds.map λd=>.int d.1) (by simp[bz]) (by rw[cA,bz];rfl) (bH λd c=>⟨[some (cj (bo (bt f)) d)],by simp[bF],by simp,?_⟩) (by simp;exact bL (by left))]
 ·simp[aW,ah]
 ·rw[show cj (bo (bt f)) d=.tup [.int d.1,.lst (bo (bt f)) (bg d.2)] from rfl];simp
variable {gs:ae}
theorem MX(Φ:aV)(c:Ng (Φ 99)){n:Nat}{Ds:List Dw}(g:gs.length<=1000)(f:∀d∈Ds,d.2.length<=1000)(G:TN Ds gs):bG Φ DN [some (bV n gs),some (.lst .fz (aU .fz Ds))]=ok (.lst .ow (ah (gs.map λr=>lJ Ds 1 r.2))):=by
 unfold DN;have a:cJ Φ [(.ix (.v 0) (.int 1))] [some (bV n gs),some (.lst .fz (aU .fz Ds))]=ok [.lst .fz (bg gs)]:=by
  rw[show bV n gs=.tup [.int n,.lst .fz (bg gs)] from rfl];simp
 rw[bW (xs:=[.lst .fz (bg gs)]) (items:=bg gs) (ds:=gs.map λr=>.int (lJ Ds 1 r.2)) a (by rw[cA];simp) (bH λr b=>⟨[some (qD r.1),some (.tup (ah r.2)),some (.lst .fz (aU .fz Ds))],by simp[bF,rD,bz],by simp,?_⟩) (by simp;exact bL (by left))]
 ·simp[aW,ah]
 ·have e:=c Ds r.2 f (G r b);simp[bz,e]
def Nh(m:aw):Prop:=∀(n:Nat) (gs:ae) (Ds:List Dw),gs.length<=1000->Ds.length<=1000->(∀d∈Ds,d.2.length<=1000)->TN Ds gs->cp Ds<=12->vG Ds gs<=500->m [bV n gs,.lst .fz (aU .fz Ds)]=ok .cq
theorem UM(Φ:aV)(l:Ng (Φ 99)):Nh (mk Φ 2 2 HE):=by
 intro n gs a e f m G o k;have h:=Ee Φ f .fz (some (bV n gs)) [];have g:=MX Φ l (n:=n) e m G;have c:oe .eI [.lst .ow (ah (a.map λd=>(d.1:Int)))]=ok (.int (cp a)):=DG _ _;have b:oe .eI [.lst .ow (ah (gs.map λr=>lJ a 1 r.2))]=ok (.int (vG a gs)):=DG _ _;have j:¬ (12:Int)<cp a:=by left
 have i:¬ (500:Int)<vG a gs:=by left
 generalize bV n gs=Y at *;generalize aU .fz a=X at *;simp[mk_eq,HE,h,g,c,b,j,i]
noncomputable def Ao:CE:=.comp 2 (.tp [0,1]) [1] .seq [(.ix (.v 3) (.int 1))] [] (.tup [(.v 0),(.bf .tuple1 [(.comp 1 (.nm 0) [2] .seq [(.v 1)] [] (.bin .add (.v 1) (.v 0)))])])
def Fi:ai:=[.app 2 Ao,.aug 1 true (.ix (.v 3) (.int 0))]
def Hs:ai:=[.asg (.nm 1) (.int 0),.asg (.nm 2) (.lst []),.fr (.nm 3) (.seq (.v 0)) Fi,.ret (.v 2)]
def bS(f:Fl)(LL:List (ae)):af:=LL.map λa=>.lst f (bg a)
theorem dR(g:Fl->Fl)(f:Fl):∀a:List (ae),aA g (bS f a)=bS (g f) a
 |[]=>rfl
 |rs::a=>by
  show D.lst (g f) (aA g (bg rs))::aA g (bS f a)=_;rw[bZ,dR g f a];rfl
theorem mr{p:Fl->Bool}{f:Fl}(h:p f=false):∀a:List (ae),aP p (bS f a)=false
 |[]=>rfl
 |rs::a=>by
  show((p f||aP p (bg rs))||aP p (bS f a))=false;rw[h,fg,mr h a];rfl
theorem ye(f:Fl)(LL:List (ae)):(bS f LL).length=LL.length:=aaO ..
theorem O9(Φ:aV){d:Dw}(j:d.2.length<=1000)(g:∀r∈d.2,r.2.length<=1000)(a:Int)(c b:aH):bG Φ Ao [c,some (.int a),b,some (cj .fz d)]=ok (.lst .ow (bg (d.2.map λr=>(r.1,fK a r.2)))):=by
 unfold Ao;have e:cJ Φ [(.ix (.v 3) (.int 1))] [c,some (.int a),b,some (cj .fz d)]=ok [.lst .fz (bg d.2)]:=by
  rw[show cj .fz d=.tup [.int d.1,.lst .fz (bg d.2)] from rfl];simp
 rw[bW (xs:=[.lst .fz (bg d.2)]) (items:=bg d.2) (ds:=bg (d.2.map λr=>(r.1,fK a r.2))) e (by rw[cA];simp) ?_ (by rw[iF,List.length_map];exact bL (by left))]
 ·rw[bZ]
 ·unfold bg;rw[List.map_map];refine bH λr f=>⟨[some (qD r.1),some (.tup (ah r.2)),some (.int a)],by simp[bF,rD],by simp,?_⟩
  have i:bG Φ (.comp 1 (.nm 0) [2] .seq [(.v 1)] [] (.bin .add (.v 1) (.v 0))) [some (qD r.1),some (.tup (ah r.2)),some (.int a)]=ok (.lst .ow (ah (fK a r.2))):=by
   rw[bW (xs:=[.tup (ah r.2)]) (items:=r.2.map D.int) (ds:=r.2.map λh=>.int (a+h)) (by simp) (by rw[nS];simp;rfl) (bH λh _=>⟨[some (.int h),some (.int a)],by simp[bF],by simp,by simp⟩) (by simp;exact bL (by have:=g r f;left))];simp[aW,ah,fK]
  simp[i];rfl
theorem yh(Φ:aV)(c:aH):∀(Ds:List Dw) (a:Int) (LL:List (ae)) (f:aH),LL.length+Ds.length<=1000->(∀d∈Ds,d.2.length<=1000/\∀r∈d.2,r.2.length<=1000) ->
  ∃g h,d9 (λd ρ=>cB (.nm 3) d ρ) (λρ=>b8 Φ Fi ρ) (aU .fz Ds) [c,some (.int a),some (.lst .ow (bS .ow LL)),f]=ok (.nx,[c,g,some (.lst .ow (bS .ow (LL++aQ a Ds))),h])
 |[],a,LL,f,_,_=>⟨some (.int a),f,by simp[aQ,aU,nX]⟩
 |d::Ds,a,LL,f,hl,hd=>by
  rw[List.length_cons]at hl;obtain⟨p,o⟩:=hd d aae;have u:=O9 Φ p o a c (some (.lst .ow (bS .ow LL)));obtain⟨g,h,l⟩:=yh Φ c Ds (a+d.1) (LL++[d.2.map λr=>(r.1,fK a r.2)]) (some (cj .fz d)) (by simp;left) λx m=>hd x (aac _ m);have t:bS .ow (LL++[d.2.map λr=>(r.1,fK a r.2)])=bS .ow LL++[.lst .ow (bg (d.2.map λr=>(r.1,fK a r.2)))]:=by unfold bS;rw[List.map_append];rfl
  have s:LL++aQ a (d::Ds)=LL++[d.2.map λr=>(r.1,fK a r.2)]++aQ (a+d.1) Ds:=by simp[aQ]
  have n:(bS .ow LL).length<cE:=by rw[ye];show _<1000000;left
  rw[s];refine⟨g,h,cS (ρ1:=[c,some (.int a),some (.lst .ow (bS .ow LL)),some (cj .fz d)]) (by simp) (ρ2:=[c,some (.int (a+d.1)),some (.lst .ow (bS .ow (LL++[d.2.map λr=>(r.1,fK a r.2)]))),some (cj .fz d)]) ?_ l⟩;rw[t];have q:mq (cj .fz d) (.int 0)=ok (.int d.1):=by rw[show cj .fz d=.tup [.int d.1,.lst .fz (bg d.2)] from rfl];simp
  have hR:aP b6 (bg (d.2.map λr=>(r.1,fK a r.2)))=false:=fg _ _;generalize bg (d.2.map λr=>(r.1,fK a r.2))=R at *;generalize bS .ow LL=Y at *;have j:=Og (Φ:=Φ) (i:=1) (op:=true) (e:=(.ix (.v 3) (.int 0))) (ρ:=[c,some (.int a),some (.lst .ow (Y++[.lst .ow R])),some (cj .fz d)]) (a:=a) (b:=d.1) (by simp[b9,q]) rfl;simp only[List.set,if_true]at j;rw[Fi,dB];have k:mT Φ (.app 2 Ao) [c,some (.int a),some (.lst .ow Y),some (cj .fz d)]=ok (.nx,[c,some (.int a),some (.lst .ow (Y++[.lst .ow R])),some (cj .fz d)]):=by
   rw[Oh,AM Φ Ao _ rfl,u];have:c9 Ao [c,some (.int a),some (.lst .ow Y),some (cj .fz d)] (ok (.lst .ow R))=ok (.lst .ow R,[c,some (.int a),some (.lst .ow Y),some (cj .fz d)]):=by simp[hR]
   rw[this,HG rfl n];rfl
  rw[k,hZ,dB,j];rfl
def RZ(m:aw):Prop:=∀a:List Dw,a.length<=1000->(∀d∈a,d.2.length<=1000/\∀r∈d.2,r.2.length<=1000)->m [.lst .fz (aU .fz a)]=ok (.lst .ow (bS .ow (aQ 0 a)))
theorem UA(Φ:aV):RZ (mk Φ 1 4 Hs):=by
 intro a g h;obtain⟨k,j,e⟩:=yh Φ (some (.lst .fz (aU .fz a))) a 0 [] none (by simpa using g) h;rw[List.nil_append]at e;have c:cC Φ (.seq (.v 0)) [some (.lst .fz (aU .fz a)),some (.int 0),some (.lst .ow (bS .ow [])),none]=ok (aU .fz a,[some (.lst .fz (aU .fz a)),some (.int 0),some (.lst .ow (bS .ow [])),none]):=by
  rw[pf (f:=.fz) (ds:=aU .fz a) (by simp[bz]),bz,il (by rfl)];rfl
 have d:=fb (Φ:=Φ) (t:=.nm 3) (b:=Fi) c e;have i:bS .ow []=[]:=rfl;rw[i]at d;generalize aU .fz a=X at *;generalize bS .ow (aQ 0 a)=Y at *;simp[mk_eq,Hs,d,cG]
theorem z6(a b:aa):ah a++ah b=ah (a++b):=by simp[ah]
theorem M5{a b:aa}(h:a.length+b.length<=1000000):cL .add (.tup (ah a)) (.tup (ah b))=ok (.tup (ah (a++b))):=by
 show(if (ah a).length+(ah b).length<=cE then ok (D.tup (aA bt (ah a++ah b)))else none)=_;rw[if_pos (by rw[q_,q_];exact h),z6,di]
theorem Qh(r:Row):mq (rD r) (.int 0)=ok (qD r.1):=by unfold rD;simp
theorem Qg(r:Row):mq (rD r) (.int 1)=ok (.tup (ah r.2)):=by unfold rD;simp
noncomputable def vv:CE:=.comp 1 (.nm 0) [5] .seq [(.v 3)] [] (.tup [(.call 6 [(.ix (.v 1) (.int 0)),(.ix (.v 0) (.int 0))]),(.bin .add (.ix (.v 1) (.int 1)) (.ix (.v 0) (.int 1)))])
def xT:ai:=[.mut 1013 4 [vv]]
def xS:ai:=[.asg (.nm 4) (.lst []),.fr (.nm 5) (.seq (.v 2)) xT,.asg (.nm 2) (.v 4)]
def HB:ai:=[.asg (.nm 2) (.lst [(.tup [(.v 0),(.tup [])])]),.fr (.nm 3) (.seq (.v 1)) xS,.ret (.v 2)]
noncomputable def xk(m:Row)(rows:ae):ae:=rows.map λr=>(m.1*r.1,m.2++r.2)
theorem MW(Φ:aV)(h:eY (Φ 6)){k i l j:Nat}{m:Row}{rows:ae}(e:Sm k m.1/\m.2.length<=l)(d:vT i j rows)(f:k<=4000)(g:i<=4000)(x:l+j<=1000)(w:rows.length<=1000)(t s q p:aH):bG Φ vv [t,s,q,some (.lst .fz (bg rows)),p,some (rD m)]=ok (.lst .ow (bg (xk m rows))):=by
 unfold vv;rw[bW (xs:=[.lst .fz (bg rows)]) (items:=bg rows) (ds:=bg (xk m rows)) (by simp) (by rw[cA];simp) ?_ (by unfold xk;rw[iF,List.length_map];exact bL (by left))]
 ·rw[bZ]
 ·unfold bg xk;rw[List.map_map];refine bH λr u=>⟨[some (rD r),some (rD m)],by simp[bF],by simp,?_⟩
  obtain⟨c,v⟩:=d r u;have o:=h m.1 r.1 (e.1.mono f) (c.mono g);have n:=M5 (a:=m.2) (b:=r.2) (by left);simp[Qh,Qg,o,n];rfl
theorem vJ(Φ:aV)(u:eY (Φ 6))(n:Φ 1013=Al){k i l j:Nat}{rows:ae}(q:vT i j rows)(s:k<=4000)(t:i<=4000)(v:l+j<=1000)(r:rows.length<=1000)(e c b:aH):∀(C a:ae) (f:aH),vT k l C->a.length+C.length*rows.length<=1000000 ->
  ∃g,d9 (λd ρ=>cB (.nm 5) d ρ) (λρ=>b8 Φ xT ρ) (bg C) [e,c,b,some (.lst .fz (bg rows)),some (.lst .ow (bg a)),f]=ok (.nx,[e,c,b,some (.lst .fz (bg rows)),some (.lst .ow (bg (a++bJ C rows))),g])
 |[],a,f,_,_=>⟨f,by simp[bJ,bg,nX]⟩
 |m::C,a,f,hC,hn=>by
  rw[List.length_cons,Nat.add_mul]at hn;have B:=MW Φ u (hC m aae) q s t v r e c b (some (.lst .ow (bg a)));have o:(xk m rows).length=rows.length:=aaO ..;obtain⟨g,w⟩:=vJ Φ u n q s t v r e c b C (a++xk m rows) (some (rD m)) (λx y=>hC x (aac _ y)) (by rw[List.length_append,o];left);have A:a++bJ (m::C) rows=a++xk m rows++bJ C rows:=by unfold bJ xk;rw[List.flatMap_cons,List.append_assoc]
  have z:Φ 1013 [.lst .ow (bg a),.lst .ow (bg (xk m rows))]=ok (.lst .ow (bg (a++xk m rows))):=by
   rw[n];show(if aP anyF (bg (xk m rows))=false/\(bg a).length+(bg (xk m rows)).length<=cE then ok (D.lst .ow (bg a++bg (xk m rows)))else none)=_;rw[if_pos ⟨fg _ _,by rw[iF,iF,o];show _<=1000000;left⟩];unfold bg;rw[List.map_append]
  have h:=oz (Φ:=Φ) (p:=1013) (i:=4) (es:=[vv]) (ρ:=[e,c,b,some (.lst .fz (bg rows)),some (.lst .ow (bg a)),some (rD m)]) (xs:=[.lst .ow (bg (xk m rows))]) (by
   show bd (bG Φ vv _) _=_;rw[B];rfl) (by simp) rfl z
  simp only[List.set]at h;rw[A];refine⟨g,cS (ρ1:=[e,c,b,some (.lst .fz (bg rows)),some (.lst .ow (bg a)),some (rD m)]) (by simp) (ρ2:=[e,c,b,some (.lst .fz (bg rows)),some (.lst .ow (bg (a++xk m rows))),some (rD m)]) ?_ w⟩;rw[xT,dB,h];rfl
theorem vI(Φ:aV)(q:eY (Φ 6))(n:Φ 1013=Al){i j:Nat}(o:i<=4000)(e c:aH):∀(LL:List (ae)) (k l:Nat) (C:ae) (h g a:aH),vT k l C->(∀rs∈LL,vT i j rs/\rs.length<=1000)->k+LL.length*i<=4000->l+LL.length*j<=1000->Ip C.length LL ->
  ∃I G H,d9 (λd ρ=>cB (.nm 3) d ρ) (λρ=>b8 Φ xS ρ) (bS .fz LL) [e,c,some (.lst .ow (bg C)),h,g,a]=ok (.nx,[e,c,some (.lst .ow (bg (jd C LL))),I,G,H])
 |[],k,l,C,h,g,a,_,_,_,_,_=>⟨h,g,a,rfl⟩
 |rows::LL,k,l,C,h,g,a,hC,hL,hk,hl,ho=>by
  rw[List.length_cons,Nat.add_mul,Nat.one_mul]at hk hl;obtain⟨r,A⟩:=hL rows aae;obtain⟨J,w⟩:=ho;obtain⟨u,s⟩:=vJ Φ q n (k:=k) (l:=l) r (by left) o (by left) A e c (some (.lst .fz (bg C))) C [] a hC (by simp;left);rw[List.nil_append]at s;obtain⟨E,D,B,y⟩:=vI Φ q n o e c LL (k+i) (l+j) (bJ C rows) (some (.lst .fz (bg rows))) none u (vB hC r) (λx z=>hL x (aac _ z)) (by left) (by left) (by rw[iu];exact w);have m:cC Φ (.seq (.v 2)) [e,c,some (.lst .ow (bg C)),some (.lst .fz (bg rows)),some (.lst .ow (bg [])),a]=ok (bg C,[e,c,some (.lst .fz (bg C)),some (.lst .fz (bg rows)),some (.lst .ow (bg [])),a]):=by
   rw[pf (f:=.al) (ds:=bg C) (by simp)];simp[nv,IQ]
  have p:=fb (Φ:=Φ) (t:=.nm 5) (b:=xT) m s;refine⟨E,D,B,?_⟩;show d9 _ _ (.lst .fz (bg rows)::bS .fz LL) _=_;refine cS (ρ1:=[e,c,some (.lst .ow (bg C)),some (.lst .fz (bg rows)),g,a]) (by simp) (ρ2:=[e,c,some (.lst .ow (bg (bJ C rows))),some (.lst .fz (bg rows)),none,u]) ?_ y;have F:bg []=[]:=rfl;rw[F]at p;generalize bg (bJ C rows)=X at *;simp[xS,p,cG]
def Nc(m:aw):Prop:=∀(q:Rat) (LL:List (ae)) (k i j:Nat),Sm k q->(∀rs∈LL,vT i j rs/\rs.length<=1000)->i<=4000->k+LL.length*i<=4000->LL.length*j<=1000->Ip 1 LL->m [qD q,.lst .fz (bS .fz LL)]=ok (.lst .ow (bg (jd [(q,[])] LL)))
theorem UJ(Φ:aV)(p:eY (Φ 6))(e:Φ 1013=Al):Nc (mk Φ 2 6 HB):=by
 intro q a k i j h o n m w l;obtain⟨z,y,x,s⟩:=vI Φ p e n (some (qD q)) (some (.lst .fz (bS .fz a))) a k 0 [(q,[])] none none none (λr g=>by rw[List.mem_singleton.mp g];exact⟨h,aal _⟩) o m (by left) l;have c:cC Φ (.seq (.v 1)) [some (qD q),some (.lst .fz (bS .fz a)),some (.lst .ow (bg [(q,[])])),none,none,none]=ok (bS .fz a,[some (qD q),some (.lst .fz (bS .fz a)),some (.lst .ow (bg [(q,[])])),none,none,none]):=by
  rw[pf (f:=.fz) (ds:=bS .fz a) (by simp[dR]),dR,mr (by rfl)];rfl
 have d:=fb (Φ:=Φ) (t:=.nm 3) (b:=xS) c s;have u:bg [(q,[])]=[.tup [qD q,.tup []]]:=rfl;rw[u]at d;generalize bS .fz a=X at *;generalize bg (jd [(q,[])] a)=Y at *;simp[mk_eq,HB,d,cG]
theorem Oe{p i:Nat}{k e:CE}{kd d x d':D}(h:bG Φ k ρ=ok kd)(g:bG Φ e (ρ.set i none)=ok d)(f:ρ[i]?=some (some x))(c:aT anyF kd=false)(b:aT anyF d=false)(a:Φ p [x,kd,d]=ok d'):mT Φ (.mu2 p i k e) ρ=ok (.nx,ρ.set i (some d')):=by
 show bd (bG Φ k ρ) (λkd=>bd (bG Φ e (ρ.set i none)) λd=>Cq Φ p i ρ kd d)=_;rw[h,cZ,g,cZ];unfold Cq;rw[f];show(if aT anyF kd=false/\aT anyF d=false then bd (Φ p [x,kd,d]) λd'=>ok (Fo.nx,ρ.set i (some d'))else none)=_;rw[if_pos ⟨c,b⟩,a];rfl
noncomputable def jm(g:aa->aC)(c:aa)(q:Rat):aa->aC:=λk=>if k=c then g k++[q]else g k
theorem ux(g:aa->aC)(c:aa)(q:Rat)(d:(g c).length<cE):∀ks:az,ks.Nodup->(c∉ks->g c=[])->l_ ks (ks.map λk=>.lst .ow (bj (g k))) c (qD q)=some ((aY ks c).map λk=>.lst .ow (bj (jm g c q k)))
 |[],_,h0=>by
  have e:aY [] c=[c]:=by unfold aY;rw[if_neg (by simp)];rfl
  have b:jm g c q c=[q]:=by unfold jm;rw[if_pos rfl,h0 (by simp)];rfl
  rw[e,List.map_cons,b];rfl
 |k::ks,hn,h0=>by
  obtain⟨i,h⟩:=List.nodup_cons.mp hn;show(if k=c then(match Cc (.lst .ow (bj (g k)))with|some gs=>if gs.length<cE then some (.lst .ow (gs++[qD q])::ks.map λk=>.lst .ow (bj (g k)))else none|none=>none)else(l_ ks (ks.map λk=>.lst .ow (bj (g k))) c (qD q)).map (D.lst .ow (bj (g k)) :: ·))=_;by_cases e:k=c
  ·subst e;rw[if_pos rfl];show(if (bj (g k)).length<cE then some (D.lst .ow (bj (g k)++[qD q])::ks.map λk=>.lst .ow (bj (g k)))else none)=_;rw[if_pos (by simpa using d)];have a:aY (k::ks) k=k::ks:=by unfold aY;rw[if_pos List.mem_cons_self]
   rw[a,List.map_cons];congr 2
   ·unfold jm;rw[if_pos rfl];simp[bj]
   ·refine aak λj f=>?_;unfold jm;rw[if_neg λz:j=k=>i (z▸f)]
  ·rw[if_neg e,ux g c q d ks h λz=>h0 λm=>(List.mem_cons.mp m).elim (λw=>e w.symm) z];have a:aY (k::ks) c=k::aY ks c:=by
    unfold aY;by_cases m:c∈ks
    ·rw[if_pos m,if_pos (List.mem_cons_of_mem _ m)]
    ·rw[if_neg m,if_neg λz=>(List.mem_cons.mp z).elim (λw=>e w.symm) m];rfl
   rw[a,List.map_cons];have b:jm g c q k=g k:=by unfold jm;rw[if_neg e]
   rw[b];rfl
def Jq(f:Fl)(ks:az)(g:aa->aC):D:=.cg f ks (ks.map λk=>.lst f (bj (g k)))
theorem sM(m:Fl->Fl)(f:Fl)(ks:az)(g:aa->aC):aO m (Jq f ks g)=Jq (m f) ks g:=by
 show D.cg (m f) ks (aA m (ks.map λk=>.lst f (bj (g k))))=_;rw[aW,List.map_map];congr 1;exact aak λk _=>by show aO m (.lst f (bj (g k)))=_;simp
theorem GF(m:Fl->Bool)(f:Fl)(ks:az)(g:aa->aC)(h:m f=false):aT m (Jq f ks g)=false:=by
 show(m f||aP m (ks.map λk=>.lst f (bj (g k))))=_;rw[h,cW m (λk=>by simp[h])];rfl
theorem nQ(a:aa):keyOf (.tup (ah a))=some a:=bQ a
theorem Ox(a:Φ 1201=we)(b:ks.Nodup)(e:ks.length<1000)(g:aa->aC)(c:aa)(q:Rat)(f:(g c).length<1000)(d:c∉ks->g c=[]):Φ 1201 [Jq .ow ks g,.tup (ah c),qD q]=ok (Jq .ow (aY ks c) (jm g c q)):=by
 rw[a];show(match keyOf (.tup (ah c))with|some c=>(match l_ ks (ks.map λk=>.lst .ow (bj (g k))) c (qD q)with|some ws=>if cG .ow=true/\ks.length<cE then ok (D.cg .ow (aY ks c) ws)else none|none=>none)|none=>none)=_;rw[nQ];show(match l_ ks (ks.map λk=>.lst .ow (bj (g k))) c (qD q)with|some ws=>if cG .ow=true/\ks.length<cE then ok (D.cg .ow (aY ks c) ws)else none|none=>none)=_;rw[ux g _ q (by show _<1000000;left) ks b d];exact aaR ⟨rfl,by show _<1000000;left⟩
theorem Ru(a:Φ 1039=xg)(g:aa->aC)(c:aa)(b:c∈ks):Φ 1039 [Jq .fz ks g,.tup (ah c)]=ok (.lst .fz (bj (g c))):=by
 rw[a];show(match keyOf (.tup (ah c))with|some c=>(match bY ks (ks.map λk=>D.lst .fz (bj (g k))) c with|some v=>if aT oU v=false then ok v else none|none=>none)|none=>none)=_;rw[nQ];show(match bY ks (ks.map λk=>D.lst .fz (bj (g k))) c with|some v=>if aT oU v=false then ok v else none|none=>none)=_;rw[pE (λk=>D.lst .fz (bj (g k))),if_pos b];exact aaR (by simp[oU])
def cU(rows:ae):az:=rows.foldl (λks r=>aY ks r.2) []
noncomputable def df(rows:ae)(l:aa):aC:=(rows.filter λr=>decide (r.2=l)).map (·.1)
theorem mn(rows:ae)(r:Row):cU (rows++[r])=aY (cU rows) r.2:=by unfold cU;rw[List.foldl_append];rfl
theorem qP(rows:ae)(r:Row):df (rows++[r])=jm (df rows) r.2 r.1:=by
 funext l;unfold df jm;rw[List.filter_append,List.map_append];by_cases h:r.2=l
 ·rw[if_pos h.symm,List.filter_cons_of_pos (by simpa using h)];rfl
 ·rw[if_neg λz=>h z.symm,List.filter_cons_of_neg (by simpa using h)];simp
theorem fO:∀(rows:ae) (ks:az),ks.Nodup->(rows.foldl (λks r=>aY ks r.2) ks).Nodup/\(∀l,l∈rows.foldl (λks r=>aY ks r.2) ks ↔ l∈ks\/l∈rows.map (·.2))/\(rows.foldl (λks r=>aY ks r.2) ks).length<=ks.length+rows.length
 |[],ks,h=>⟨h,by simp,by simp⟩
 |r::rows,ks,h=>by
  obtain⟨c,b,a⟩:=fO rows (aY ks r.2) (CK h r.2);refine⟨c,λl=>?_,?_⟩
  ·show l∈rows.foldl _ (aY ks r.2) ↔ _;rw[b l,qY,List.map_cons,List.mem_cons,or_assoc]
  ·have:=zV ks r.2;rw[List.length_cons];exact aar a (by left)
theorem Gk(rows:ae):(cU rows).Nodup:=(fO rows [] aaA).1
theorem CL(rows:ae)(l:aa):l∈cU rows ↔ l∈rows.map (·.2):=by
 have:=(fO rows [] aaA).2.1 l;simpa [cU]using this
theorem ia(rows:ae):(cU rows).length<=rows.length:=by simpa [cU]using (fO rows [] List.nodup_nil).2.2
theorem B1{rows:ae}{l:aa}(h:l∉cU rows):df rows l=[]:=by
 unfold df;rw[List.map_eq_nil_iff,List.filter_eq_nil_iff];intro r a e;exact h ((CL rows l).mpr (by rw[<- of_decide_eq_true e];exact aaq a))
theorem B2(rows:ae)(l:aa):(df rows l).length<=rows.length:=by unfold df;rw[List.length_map];exact aby ..
noncomputable def xQ:ai:=[.mu2 1201 3 (.v 7) (.v 6)]
def j8(f:Fl)(rows:ae):D:=Jq f (cU rows) (df rows)
theorem vw(Φ:aV)(q:Φ 1201=we)(g f c b a:aH):∀(rs pr:ae) (l j:aH),pr.length+rs.length<1000 ->
  ∃m n,d9 (λd ρ=>cB (.tp [6,7]) d ρ) (λρ=>b8 Φ xQ ρ) (bg rs) [g,f,c,some (j8 .ow pr),b,a,l,j]=ok (.nx,[g,f,c,some (j8 .ow (pr++rs)),b,a,m,n])
 |[],pr,l,j,_=>⟨l,j,by simp[bg,nX]⟩
 |r::rs,pr,l,j,hl=>by
  rw[List.length_cons]at hl;obtain⟨m,n,s⟩:=vw Φ q g f c b a rs (pr++[r]) (some (qD r.1)) (some (.tup (ah r.2))) (by simp;left);rw[List.append_assoc,List.singleton_append]at s;have t:=Ox q (Gk pr) (by have:=ia pr;left) (df pr) r.2 r.1 (by have:=B2 pr r.2;left) λh=>B1 h;rw[<- mn,<- qP]at t;have o:=Oe (Φ:=Φ) (p:=1201) (i:=3) (k:=.v 7) (e:=.v 6) (ρ:=[g,f,c,some (j8 .ow pr),b,a,some (qD r.1),some (.tup (ah r.2))]) (kd:=.tup (ah r.2)) (d:=qD r.1) (by simp) (by simp) rfl (by simp) (by simp) t;simp only[List.set]at o;refine⟨m,n,cS (ρ1:=[g,f,c,some (j8 .ow pr),b,a,some (qD r.1),some (.tup (ah r.2))]) (by simp[rD]) (ρ2:=[g,f,c,some (j8 .ow (pr++[r])),b,a,some (qD r.1),some (.tup (ah r.2))]) ?_ s⟩;rw[xQ,dB,o];rfl
noncomputable def mV:CE:=.comp 1 (.nm 0) [2] .seq [(.v 5)] [] (.ix (.v 1) (.v 0))
def xR:ai:=[.fr (.tp [6,7]) (.seq (.call 101 [(.v 4),mV])) xQ]
noncomputable def bN(LL:List (ae))(gs:aa):List (ae):=gs.map λg=>LL.getD g.toNat []
theorem MK(Φ:aV){LL:List (ae)}{gs:aa}(c:∀g∈gs,0<=g/\g<(LL.length:Int))(a:gs.length<=1000)(n m l k:aH)(r:br):bG Φ mV (n::m::some (.lst .ow (bS .ow LL))::l::k::some (.tup (ah gs))::r)=ok (.lst .ow (bS .al (bN LL gs))):=by
 unfold mV;have h:bS .fz (bN LL gs)=gs.map λg=>D.lst .fz (bg (LL.getD g.toNat [])):=by unfold bS bN;rw[List.map_map];rfl
 rw[bW (xs:=[.tup (ah gs)]) (items:=gs.map D.int) (ds:=bS .fz (bN LL gs)) (by simp) (by rw[nS];simp;rfl) ?_ (by unfold bN;rw[ye,List.length_map];exact bL (by left))]
 ·rw[dR];rfl
 ·rw[h];refine bH λg o=>⟨[some (.int g),some (.lst .fz (bS .fz LL))],by simp[bF,dR],by simp,?_⟩
  obtain⟨f,p⟩:=c g o;have a:g.toNat<LL.length:=by left
  have j:=at_of (ds:=bS .fz LL) (i:=g) (d:=.lst .fz (bg (LL.getD g.toNat []))) f (by unfold bS;rw[List.getElem?_map,List.getElem?_eq_getElem a];simp[a]);generalize e:bS .fz LL=X at *;have b:aA bt X=X:=by rw[<- e,dR];rfl
  simp[b,j]
def allR(LL:List (ae))(gs:ae):ae:=gs.flatMap λr=>jd [(r.1,[])] (bN LL r.2)
structure RX(LL:List (ae))(gs:ae):Prop where
 ix:∀r∈gs,∀g∈r.2,0<=g/\g<(LL.length:Int)
 sm:∀r∈gs,Sm 8 r.1/\r.2.length<=12
 oc:∀r∈gs,Ip 1 (bN LL r.2)
 ly:∀rs∈LL,vT 8 12 rs/\rs.length<=1000
 ln:(allR LL gs).length<64
theorem RX.tail{LL:List (ae)}{r:Row}(W:RX LL (r::gs)):RX LL gs:=⟨λx a=>W.ix x (aac _ a),λx a=>W.sm x (aac _ a),λx a=>W.oc x (aac _ a),W.ly,by
 have:=W.ln;unfold allR at *;rw[List.flatMap_cons,List.length_append]at this;left⟩
theorem js{LL:List (ae)}{gs:aa}(b:∀g∈gs,0<=g/\g<(LL.length:Int)){rs:ae}(h:rs∈bN LL gs):rs∈LL:=by
 obtain⟨g,c,rfl⟩:=List.mem_map.mp h;obtain⟨e,d⟩:=b g c;have a:g.toNat<LL.length:=by left
 have:LL.getD g.toNat []=LL[g.toNat]:=by simp[a]
 rw[this];exact abh a
theorem vx(Φ:aV)(q:Nc (Φ 101))(l:Φ 1201=we){LL:List (ae)}(f e:aH):∀(gs pr:ae) (h g c a:aH),RX LL gs->pr.length+(allR LL gs).length<1000 ->
  ∃J N L M,d9 (λd ρ=>cB (.tp [4,5]) d ρ) (λρ=>b8 Φ xR ρ) (bg gs) [f,e,some (.lst .ow (bS .ow LL)),some (j8 .ow pr),h,g,c,a]=ok (.nx,[f,e,some (.lst .ow (bS .ow LL)),some (j8 .ow (pr++allR LL gs)),J,N,L,M])
 |[],pr,h,g,c,a,_,_=>⟨h,g,c,a,by simp[bg,nX,allR]⟩
 |r::gs,pr,h,g,c,a,W,hl=>by
  have m:allR LL (r::gs)=jd [(r.1,[])] (bN LL r.2)++allR LL gs:=by unfold allR;rw[List.flatMap_cons]
  rw[m,List.length_append]at hl;have p:=W.ix r aae;obtain⟨s,O⟩:=W.sm r aae;have I:=MK Φ p (by left) f e (some (j8 .ow pr)) (some (qD r.1)) [c,a];have k:(bN LL r.2).length=r.2.length:=aaO ..;have H:=q r.1 (bN LL r.2) 8 8 12 s (λu y=>W.ly u (js p y)) (by decide) (by rw[k];left) (by rw[k];left) (W.oc r aae);obtain⟨o,n,G⟩:=vw Φ l f e (some (.lst .ow (bS .ow LL))) (some (qD r.1)) (some (.tup (ah r.2))) (jd [(r.1,[])] (bN LL r.2)) pr c a (by left);obtain⟨F,E,C,B,z⟩:=vx Φ q l f e gs (pr++jd [(r.1,[])] (bN LL r.2)) (some (qD r.1)) (some (.tup (ah r.2))) o n W.tail (by rw[List.length_append];left);rw[m,<- List.append_assoc];generalize jd [(r.1,[])] (bN LL r.2)=Z at *;have K:bG Φ (.call 101 [(.v 4),mV]) [f,e,some (.lst .ow (bS .ow LL)),some (j8 .ow pr),some (qD r.1),some (.tup (ah r.2)),c,a]=ok (.lst .ow (bg Z)):=by
   show bd (cJ Φ [(.v 4),mV] _) _=_;have:cJ Φ [(.v 4),mV] [f,e,some (.lst .ow (bS .ow LL)),some (j8 .ow pr),some (qD r.1),some (.tup (ah r.2)),c,a]=ok [qD r.1,.lst .ow (bS .al (bN LL r.2))]:=by
    show bd (bG Φ (.v 4) _) (λx=>bd (bd (bG Φ mV _) λx=>bd (ok []) λi=>ok (x::i)) λi=>ok (x::i))=_;rw[I];simp
   rw[this,cZ];have w:aA bo [qD r.1,.lst .ow (bS .al (bN LL r.2))]=[qD r.1,.lst .fz (bS .fz (bN LL r.2))]:=by
    rw[o5,o5,CA];show[qD r.1,D.lst .fz (aA bo (bS .al (bN LL r.2)))]=_;rw[dR];rfl
   rw[w,H]
   first|rfl|simp
  have j:cC Φ (.seq (.call 101 [(.v 4),mV])) [f,e,some (.lst .ow (bS .ow LL)),some (j8 .ow pr),some (qD r.1),some (.tup (ah r.2)),c,a]=ok (bg Z,[f,e,some (.lst .ow (bS .ow LL)),some (j8 .ow pr),some (qD r.1),some (.tup (ah r.2)),c,a]):=by
   rw[pf K];simp
  have A:=fb (Φ:=Φ) (t:=.tp [6,7]) (b:=xQ) j G;refine⟨F,E,C,B,cS (ρ1:=[f,e,some (.lst .ow (bS .ow LL)),some (j8 .ow pr),some (qD r.1),some (.tup (ah r.2)),c,a]) (by simp[rD]) (ρ2:=[f,e,some (.lst .ow (bS .ow LL)),some (j8 .ow (pr++Z)),some (qD r.1),some (.tup (ah r.2)),o,n]) ?_ z⟩;rw[xR,dB,A];rfl
noncomputable def DM:CE:=.comp 1 (.nm 0) [3] .seq [(.cm 1035 [(.v 3)])] [] (.tup [(.call 42 [(.cm 1039 [(.v 1),(.v 0)])]),(.v 0)])
def Hz:ai:=[.asg (.nm 2) (.call 100 [(.v 1)]),.asg (.nm 3) (.cm 1030 []),.fr (.tp [4,5]) (.seq (.ix (.v 0) (.int 1))) xR,.ret (.tup [(.bf .eI [y6]),DM])]
def bq(rows:ae):ae:=(bK (cU rows)).map λl=>((df rows l).sum,l)
theorem ML(Φ:aV)(P:AJ Φ)(s:fS (Φ 42))(d:Φ 1039=xg){rows:ae}(u:rows.length<64)(hs:∀l,∃k,tY k (df rows l))(q p o:aH)(r:br):bG Φ DM (q::p::o::some (j8 .ow rows)::r)=ok (.lst .ow (bg (bq rows))):=by
 have c:(bK (cU rows)).Perm (cU rows):=aaB _ _;have v:=ia rows;unfold DM;rw[bW (xs:=[.lst .ow ((bK (cU rows)).map eJ)]) (items:=(bK (cU rows)).map eJ) (ds:=bg (bq rows)) ?_ (by rw[cA,gB]) ?_ (by
  rw[iF];unfold bq;rw[List.length_map];exact bL (by have:=c.length_eq;left))]
 ·rw[bZ]
 ·have n:∀f,Φ 1035 [j8 f rows]=ok (.lst .ow ((bK (cU rows)).map eJ)):=λf=>Bd P f _ (by left);have a:aO bt (j8 .ow rows)=j8 .al rows:=sM _ _ _ _;generalize w:j8 .ow rows=X at *;simp[a,n]
 ·unfold bg bq;rw[List.map_map];refine bH λl h=>?_;have i:l∈cU rows:=c.mem_iff.mp h;have m:=Ru d (df rows) l i;obtain⟨k,t⟩:=hs l;have j:=s .fz (df rows l) k t;have a:aO bt (eJ l)=.tup (ah l):=by show D.tup (aA bt (l.map D.int))=_;rw[iI];rfl
  have g:aO bo (j8 .ow rows)=j8 .fz rows:=sM _ _ _ _;have e:aO bt (j8 .fz rows)=j8 .fz rows:=sM _ _ _ _;refine⟨[some (eJ l),some (j8 .fz rows)],by simp[bF,g],by simp,?_⟩;have b:Φ 1039 [j8 .fz rows,.tup (ah l)]=ok (.lst .fz (bj (df rows l))):=m;simp[a,e,b,j];rfl
def Nb(m:aw):Prop:=∀(n:Nat) (gs:ae) (Ds:List Dw),RX (aQ 0 Ds) gs->Ds.length<=1000->(∀d∈Ds,d.2.length<=1000/\∀r∈d.2,r.2.length<=1000)->(∀l,∃k,tY k (df (allR (aQ 0 Ds) gs) l))->m [bV n gs,.lst .fz (aU .fz Ds)]=ok (.tup [.int (cp Ds),.lst .ow (bg (bq (allR (aQ 0 Ds) gs)))])
theorem UH(Φ:aV)(P:AJ Φ)(D:fS (Φ 42))(B:RZ (Φ 100))(F:Nc (Φ 101))(k:Φ 1039=xg)(r:Φ 1201=we):Nb (mk Φ 2 8 Hz):=by
 intro n gs a W e E w;have z:=B a e E;have H:=W.ln;have y:Φ 1030 []=ok (j8 .ow []):=by rw[P.Dv];rfl
 obtain⟨j,i,h,g,f⟩:=vx Φ F r (LL:=aQ 0 a) (some (bV n gs)) (some (.lst .fz (aU .fz a))) gs [] none none none none W (by simp;left);rw[List.nil_append]at f;have C:bG Φ (.ix (.v 0) (.int 1)) [some (bV n gs),some (.lst .fz (aU .fz a)),some (.lst .ow (bS .ow (aQ 0 a))),some (j8 .ow []),none,none,none,none]=ok (.lst .fz (bg gs)):=by
  rw[show bV n gs=.tup [.int n,.lst .fz (bg gs)] from rfl];simp
 have c:cC Φ (.seq (.ix (.v 0) (.int 1))) [some (bV n gs),some (.lst .fz (aU .fz a)),some (.lst .ow (bS .ow (aQ 0 a))),some (j8 .ow []),none,none,none,none]=ok (bg gs,[some (bV n gs),some (.lst .fz (aU .fz a)),some (.lst .ow (bS .ow (aQ 0 a))),some (j8 .ow []),none,none,none,none]):=by
  rw[pf C];simp
 have x:=fb (Φ:=Φ) (t:=.tp [4,5]) (b:=xR) c f;have u:=Ee Φ e .fz (some (bV n gs)) [some (.lst .ow (bS .ow (aQ 0 a))),some (j8 .ow (allR (aQ 0 a) gs)),j,i,h,g];have s:=ML Φ P D k (by left) w (some (bV n gs)) (some (.lst .fz (aU .fz a))) (some (.lst .ow (bS .ow (aQ 0 a)))) [j,i,h,g];have l:oe .eI [.lst .ow (ah (a.map λd=>(d.1:Int)))]=ok (.int (cp a)):=DG _ _;have o:aT b6 (j8 .ow [])=false:=GF _ _ _ _ rfl;have m:aP b6 (bS .ow (aQ 0 a))=false:=mr (by rfl) _;have q:aA iK (bS .ow (aQ 0 a))=bS .ow (aQ 0 a):=by rw[dR];rfl
 have p:aA bt (aU .fz a)=aU .fz a:=by rw[bz];rfl
 have G:aA bo (aU .fz a)=aU .fz a:=by rw[bz];rfl
 generalize allR (aQ 0 a) gs=A at *;generalize bS .ow (aQ 0 a)=R at *;generalize aU .fz a=X at *;generalize ah (a.map λd=>(d.1:Int))=Y at *;generalize bV n gs=Z at *;generalize j8 .ow []=J at *;generalize j8 .ow A=I at *;simp[mk_eq,Hz,z,y,p,G,q,o,m,x,u,s,l]
theorem Gh(l:aa):HT.lexLt l l=false:=by
 cases q:HT.lexLt l l with
 |false=>rfl
 |true=>rw[o7 _ _ q]at q;cases q
theorem jo{l:az}(h:qA l):l.Nodup:=List.Pairwise.imp (λ{a b} x e=>by subst e;rw[Gh]at x;cases x) h
noncomputable def uI:Int->List Dw->Int
 |c,[]=>c
 |c,d::Ds=>uI (c*(d.2.length:Int)) Ds
theorem za:∀(Ds a:List Dw) (c:Int),lJ (a++Ds) c ((List.range' a.length Ds.length).map λ(k:Nat)=>(k:Int))=uI c Ds
 |[],a,c=>rfl
 |d::Ds,a,c=>by
  rw[List.length_cons,List.range'_succ,List.map_cons,lJ,uI];have e:(a++d::Ds).getD ((a.length:Int)).toNat (0,[])=d:=by simp
  rw[e];have b:=za Ds (a++[d]) (c*(d.2.length:Int));rw[List.append_assoc,List.singleton_append,List.length_append,List.length_singleton]at b;exact b
structure Nj(Ds:List Dw):Prop where
 l1:1<=Ds.length
 l4:Ds.length<=2
 dr:∀d∈Ds,Dr 8 d.1 d.2
 pI:∀d∈Ds,d.2.length<=6
 UN:cp Ds<=12
 Xt:uI 1 Ds<=500
theorem KO:∀{LL:List (ae)} {c:Nat},(∀rs∈LL,rs.length<=6)->c*6 ^ LL.length<=1000->Ip c LL
 |[],_,_,_=>trivial
 |rs::LL,c,h,hc=>by
  rw[List.length_cons,Nat.pow_succ]at hc;have b:=h rs aae;have f:1<=6 ^ LL.length:=Nat.one_le_pow _ _ (by decide);have d:c*rs.length<=c*6:=abH _ b;have g:c*rs.length*6 ^ LL.length<=c*6*6 ^ LL.length:=aaG _ d;have e:c*(6 ^ LL.length*6)=c*6*6 ^ LL.length:=by rw[Nat.mul_comm (6 ^ LL.length) 6,Nat.mul_assoc]
  refine⟨?_,KO (λx a=>h x (aac _ a)) (by left)⟩;have:c*6<=c*6*6 ^ LL.length:=Nat.le_mul_of_pos_right _ f;left
theorem pS:∀{LL:List (ae)} {C:ae},(∀rs∈LL,rs.length<=6)->(jd C LL).length<=C.length*6 ^ LL.length
 |[],_,_=>by simp[jd]
 |rs::LL,C,h=>by
  have a:=pS (LL:=LL) (C:=bJ C rs) λx b=>h x (aac _ b);rw[iu]at a;refine aar a ?_;rw[List.length_cons,Nat.pow_succ,Nat.mul_comm (6 ^ LL.length) 6,<- Nat.mul_assoc];exact aaG _ (abH _ (h rs aae))
theorem uK(LL:List (ae)):bN LL (i_ (LL.length:Int))=LL:=by
 unfold bN i_;rw[Int.toNat_natCast,List.map_map];refine abv λi=>?_;rw[List.getElem?_map];by_cases h:i<LL.length
 ·rw[List.getElem?_range h,List.getElem?_eq_getElem h];show some (LL.getD ((i:Int)).toNat [])=_;simp[h]
 ·rw[List.getElem?_eq_none (by simp;left),List.getElem?_eq_none (by left)];rfl
theorem uH{rows:ae}(h:(rows.map (·.2)).Nodup)(l:aa):(df rows l).length<=1:=by
 induction rows with
 |nil=>simp[df]
 |cons r rows a =>
  obtain⟨d,c⟩:=List.nodup_cons.mp h;have a:=a c;unfold df at *;rw[List.filter_cons];split
  ·rename_i e;have e:=aab e;have:rows.filter (λr=>decide (r.2=l))=[]:=by
    rw[List.filter_eq_nil_iff];intro x b z;exact d (by show r.2∈rows.map (·.2);rw[e,<- of_decide_eq_true z];exact aaq b)
   rw[this];simp
  ·exact a
def lq(Ds:List Dw):ae:=jd [(1,[])] (aQ 0 Ds)
section
variable {Ds:List Dw}(K:Nj Ds)
include K
theorem Nj.Ej:∀a∈aQ 0 Ds,vT 8 12 a/\a.length<=6:=λa f=>by
 obtain⟨d,e,b,rfl⟩:=vN f;have I:=K.dr d e;refine⟨λr g=>?_,by rw[List.length_map];exact K.pI d e⟩;obtain⟨s,c,rfl⟩:=List.mem_map.mp g;refine⟨I.sm s c,?_⟩;have:=(I.lot s c).len;have:=I.n2;show(fK b s.2).length<=12;unfold fK;rw[List.length_map];left
theorem Nj.nd:((lq Ds).map (·.2)).Nodup/\∀m∈lq Ds,Jk (cp Ds) m.2:=by
 have:=zk (a:=0) (Ds:=Ds) λd b=>⟨jo (K.dr d b).rise,λr e=>((K.dr d b).lot r e).2⟩
 rw[Int.zero_add]at this;exact Ed this (c:=[(1,[])]) (Int.le_refl _) (by simp) λm f=>by rw[List.mem_singleton.mp f];exact λ_ h=>nomatch h
theorem Nj.len:(lq Ds).length<=36:=by
 have h:=pS (LL:=aQ 0 Ds) (C:=[(1,[])]) λa b=>(K.Ej a b).2;rw[fj,List.length_singleton,Nat.one_mul]at h;exact aar h (aaj (by decide) K.l4)
theorem Nj.sm:vT 30 48 (lq Ds):=λr a=>by
 have h:=Ec (k:=1) (l:=0) (i:=8) (j:=12) (c:=[((1:Rat),[])]) (LL:=aQ 0 Ds) (λr a=>by rw[List.mem_singleton.mp a];exact⟨by constructor<;>decide,aal _⟩) (λb d=>(K.Ej b d).1) r a;rw[fj]at h;have:=K.l4;exact⟨h.1.mono (by left),by left⟩
end
noncomputable def MD:CE:=.tup [(.bf .len [(.v 0)]),(.lst [(.tup [(.tup [(.int 1),(.int 1)]),(.cm 1046 [(.bf .len [(.v 0)])])])])]
def Hu:ai:=[.ex (.call 96 [(.v 0)]),.asg (.nm 1) MD,.ex (.call 98 [(.v 1),(.v 0)]),.ret (.call 102 [(.v 1),(.v 0)])]
def R4(m:aw):Prop:=∀a,Nj a->m [.lst .fz (aU .fz a)]=ok (.tup [.int (cp a),.lst .ow (bg (bq (lq a)))])
theorem UB(Φ:aV)(j:R9 (Φ 96))(F:Nh (Φ 98))(J:Nb (Φ 102))(I:Φ 1046=OB):R4 (mk Φ 1 2 Hu):=by
 intro a K;have x:=K.l1;have w:=K.l4;have E:=j a x (by left) λd e=>⟨8,K.dr d e⟩
 have i:i_ (a.length:Int)=(List.range' 0 a.length).map λ(k:Nat)=>(k:Int):=by unfold i_;rw[Int.toNat_natCast,List.range_eq_range']
 have p:∀g∈i_ (a.length:Int),0<=g/\g<(a.length:Int):=λg c=>by
  obtain⟨k,A,rfl⟩:=List.mem_map.mp c;have:=List.mem_range.mp A;left
 have hlen:(i_ (a.length:Int)).length=a.length:=by unfold i_;simp
 have n:allR (aQ 0 a) [(1,i_ (a.length:Int))]=lq a:=by
  unfold allR lq;rw[List.flatMap_cons,List.flatMap_nil,List.append_nil];have:=uK (aQ 0 a);rw[fj]at this;show jd [(1,[])] (bN (aQ 0 a) (i_ (a.length:Int)))=_;rw[this]
 have G:Sm 8 (1:Rat):=Sm.mono (k:=1) (by constructor<;>decide) (by decide);have o:=F a.length [(1,i_ (a.length:Int))] a (by simp) (by left) (λd e=>by have:=K.pI d e;left) (λr b g c=>by rw[List.mem_singleton.mp b]at c;exact p g c) K.UN (by
  unfold vG;rw[List.map_singleton,List.sum_singleton];show lJ a 1 (i_ (a.length:Int))<=500;rw[i];have:=za a [] 1;rw[List.nil_append,List.length_nil]at this;rw[this];exact K.Xt)
 have H:Ip 1 (aQ 0 a):=KO (λf h=>(K.Ej f h).2) (by
  rw[fj,Nat.one_mul];exact aar (aaj (by decide) w) (by decide))
 have m:=J a.length [(1,i_ (a.length:Int))] a ⟨λr b g c=>by rw[List.mem_singleton.mp b]at c;rw[fj];exact p g c,λr b=>by rw[List.mem_singleton.mp b];exact⟨G,by show(i_ (a.length:Int)).length<=12;left⟩,λr b=>by
   rw[List.mem_singleton.mp b];have:=uK (aQ 0 a);rw[fj]at this;show Ip 1 (bN (aQ 0 a) (i_ (a.length:Int)));rw[this];exact H,λf h=>⟨(K.Ej f h).1,by have:=(K.Ej f h).2;left⟩,by rw[n];have:=K.len;left⟩ (by left) (λd e=>⟨by have:=K.pI d e;left,λr b=>by have:=((K.dr d e).lot r b).len;have:=(K.dr d e).n2;left⟩) (λl=>by
   rw[n];have M:=uH K.nd.1 l;refine⟨30,λq y=>?_,by left,by left⟩;obtain⟨r,b,rfl⟩:=List.mem_map.mp y;exact(K.sm r (List.mem_filter.mp b).1).1)
 rw[n]at m;have C:bV a.length [(1,i_ (a.length:Int))]=.tup [.int a.length,.lst .fz [.tup [qD 1,.tup (ah (i_ (a.length:Int)))]]]:=rfl;rw[C]at o m;have B:Φ 1046 [.int (a.length:Int)]=ok (.tup (ah (i_ (a.length:Int)))):=by
  rw[I];show(if (a.length:Int)<=(cE:Int) /\ -(cE:Int)<=(a.length:Int)then ok (D.tup ((i_ (a.length:Int)).map D.int))else none)=_;have:(cE:Int)=1000000:=rfl;rw[if_pos (by left)];rfl
 have s:D.tup [.int 1,.int 1]=qD 1:=rfl;have z:=tq .fz a;have v:aA bt (aU .fz a)=aU .fz a:=by rw[bz];rfl
 have L:aA bo (aU .fz a)=aU .fz a:=by rw[bz];rfl
 generalize aU .fz a=X at *;have u:aA iK (bg (bq (lq a)))=bg (bq (lq a)):=bZ _ _;have t:aP b6 (bg (bq (lq a)))=false:=fg _ _;generalize bg (bq (lq a))=Y at *;generalize i_ (a.length:Int)=U at *;simp[mk_eq,Hu,AM Φ MD _ rfl,MD,v,L,u,t,E,z,B,s,o,m]
structure Tn(P:aa->Prop)(j:Nat)(cs:az)(ws:aa):Prop where
 nd:cs.Nodup
 ln:cs.length=ws.length
 pI:cs.length<=j
 lot:∀c∈cs,P c
 pos:∀w∈ws,1<=w/\w<=9
 ne:1<=j->cs≠[]
theorem uw{a:Type}{c:aa}{v:a}:∀{cs:az} {ws:List a},cs.length=ws.length->(setC cs ws c v).length=ws.length
 |[],[],_=>rfl
 |[],_::_,h=>by simp at h
 |_::_,[],h=>by simp at h
 |c'::cs,w::ws,h=>by
  show((if c'=c then v else w)::setC cs ws c v).length=_;rw[List.length_cons,uw (by simpa using h),List.length_cons]
theorem Tn.put{P:aa->Prop}{j:Nat}(T:Tn P j cs ws){c:aa}(g:P c){i:Int}(o:1<=i)(n:i<=9):Tn P (j+1) (aY cs c) (bM cs ws c i):=by
 have m:=T.pI;by_cases h:c∈cs
 ·unfold aY bM;rw[if_pos h,if_pos h];refine⟨T.nd,by rw[uw T.ln];exact T.ln,by left,T.lot,λw hw=>?_,λ_ z=>by rw[z]at h;cases h⟩;rcases oO hw with hw|rfl
  ·exact T.pos w hw
  ·left
 ·unfold aY bM;rw[if_neg h,if_neg h];refine⟨?_,by rw[List.length_append,List.length_append,T.ln];rfl,by rw[List.length_append,List.length_singleton];left,λd f=>?_,λw hw=>?_,λ_ z=>by simp at z⟩
  ·refine List.nodup_append.mpr ⟨T.nd,List.nodup_cons.mpr ⟨acy,aaA⟩,λa l b k e=>?_⟩;rw[List.mem_singleton.mp k]at e;exact h (e▸l)
  ·rcases List.mem_append.mp f with f|f
   ·exact T.lot d f
   ·rw[List.mem_singleton.mp f];exact g
  ·rcases List.mem_append.mp hw with hw|hw
   ·exact T.pos w hw
   ·rw[List.mem_singleton.mp hw];left
theorem OS:∀{l:aa},(∀x∈l,1<=x/\x<=9)->0<=l.sum/\l.sum<=9*l.length/\∀x∈l,x<=l.sum
 |[],_=>⟨Int.le_refl _,by simp,λ_ h=>nomatch h⟩
 |a::l,h=>by
  obtain⟨e,d,c⟩:=OS λx b=>h x (aac _ b);have f:=h a aae;rw[List.sum_cons,List.length_cons];refine⟨by left,by left,λx b=>?_⟩;rcases List.mem_cons.mp b with rfl|b
  ·left
  ·have:=c x b;left
theorem Tn.dr{P:aa->Prop}{n j:Nat}(T:Tn P j cs ws)(s:1<=j)(D:j<=5)(l:1<=n)(k:n<=12):Dp P 6 n (j9 cs ws)/\(j9 cs ws).length=cs.length/\1<=ws.sum/\ws.sum<=45:=by
 have f:(bK cs).Perm cs:=aaB _ _;have g:(j9 cs ws).length=cs.length:=by unfold j9;rw[List.length_map];exact f.length_eq
 have C:=T.pI;have y:=T.ln;obtain⟨B,A,i⟩:=OS T.pos;have d:∀c∈bK cs,1<=eK cs ws c/\eK cs ws c<=ws.sum:=λc a=>by
  obtain⟨w,e,m⟩:=nW T.ln (f.mem_iff.mp a);unfold eK;rw[e];exact⟨(T.pos w m).1,i w m⟩
 have p:1<=ws.sum:=by
  obtain⟨c,a⟩:=List.exists_mem_of_ne_nil cs (T.ne s);have:=d c (f.mem_iff.mpr a);left
 have v:ws.sum<=45:=by left
 have h:∀r∈j9 cs ws,Sm 6 r.1:=λr b=>by
  obtain⟨c,a,rfl⟩:=List.mem_map.mp b;have:=d c a;exact x5 (by left) (by show _<64;left) (by show _<64;left)
 refine⟨⟨l,k,⟨ws.sum.natAbs,by left,?_,λr b=>?_⟩,by rw[g];left,λr b=>?_,λr b=>?_,h,?_,?_,6,⟨λq o=>?_,by unfold cc;rw[List.length_map,g];left,by unfold cc;rw[List.length_map,g];left⟩⟩,g,p,v⟩
 ·have:(46:Nat)<2 ^ 250:=by decide
  left
 ·obtain⟨c,a,rfl⟩:=List.mem_map.mp b;exact iM (by left)
 ·obtain⟨c,a,rfl⟩:=List.mem_map.mp b;exact T.lot c (f.mem_iff.mp a)
 ·obtain⟨c,a,rfl⟩:=List.mem_map.mp b;exact xh (by have:=d c a;left) (by left)
 ·have e:(j9 cs ws).map (·.1)=(bK cs).map λc=>Rat.divInt (eK cs ws c) ws.sum:=by
   unfold j9;rw[List.map_map];rfl
  rw[e];have u:((bK cs).map λc=>Rat.divInt (eK cs ws c) ws.sum).sum=(cs.map λc=>Rat.divInt (eK cs ws c) ws.sum).sum:=B6 (f.map _);have t:(cs.map λc=>Rat.divInt (eK cs ws c) ws.sum)=(cs.map (eK cs ws)).map λx=>Rat.divInt x ws.sum:=by rw[List.map_map];rfl
  rw[u,t,uX T.nd T.ln,xV _ (by left),Rat.divInt_eq_div];have z:((ws.sum:Int):Rat)≠0:=λz=>by rw[Rat.intCast_eq_zero_iff]at z;left
  grind
 ·have e:(j9 cs ws).map (·.2)=bK cs:=by
   unfold j9;rw[List.map_map];exact(aak λ_ _=>rfl).trans (List.map_id _)
  rw[e];exact iE T.nd
 ·obtain⟨r,b,rfl⟩:=List.mem_map.mp o;exact h r b
noncomputable def y4:CE:=.comp 1 (.nm 0) [0] .mO [(.v 2)] [(.cmp .eq (.bin .mod (.bin .fdiv (.v 1) (.bin .shl (.int 1) (.v 0))) (.int 2)) (.int 1))] (.v 0)
def Fj:ai:=[.asg (.nm 6) (.bf .tuple1 [y4]),.asg (.nm 0) (.bin .fdiv (.v 0) (.bin .shl (.int 1) (.v 2))),.mut 1033 4 [(.bin .add (.int 1) (.bin .mod (.v 0) (.int 9))),(.v 6)],.asg (.nm 0) (.bin .fdiv (.v 0) (.int 9))]
noncomputable def DL:CE:=.comp 1 (.nm 0) [7,4] .seq [(.cm 1035 [(.v 4)])] [] (.tup [(.call 201 [(.cm 1032 [(.v 2),(.v 0)]),(.v 1)]),(.v 0)])
def Hw:ai:=[.asg (.nm 2) (.bin .add (.int 1) (.bin .mod (.v 0) (.v 1))),.asg (.nm 3) (.bin .add (.int 1) (.bin .mod (.bin .fdiv (.v 0) (.v 1)) (.int 5))),.asg (.nm 0) (.bin .fdiv (.v 0) (.bin .mul (.int 5) (.v 1))),.asg (.nm 4) (.cm 1030 []),.fr (.nm 5) (.mO (.v 3)) Fj,.asg (.nm 7) (.cm 1038 [(.v 4)]),.ret (.tup [(.v 2),DL])]
theorem El{k:Nat}(a:k<=12):cL .shl (.int 1) (.int (k:Int))=ok (.int ((2 ^ k:Nat):Int)):=by
 rw[RN (by
  unfold lg;simp only[Bool.and_eq_true,decide_eq_true_eq];exact⟨⟨by left,by left⟩,by decide⟩),Int.toNat_natCast,Int.one_mul]
 simp
theorem Je(N:Int){k:Nat}(a:k<=12):cL .fdiv (.int N) (.int ((2 ^ k:Nat):Int))=ok (.int (N.fdiv ((2 ^ k:Nat):Int))):=by
 have c:1<=2 ^ k:=Nat.one_le_two_pow;have b:2 ^ k<=2 ^ 12:=aaj (by decide) a;refine kK (gf (by left) (mm ?_));rw[Int.natAbs_natCast];have:(2:Nat) ^ 12<2 ^ 64:=by decide
 left
theorem K7(Φ:aV){n:Nat}(f:n<=12)(N:Int)(e:aH)(r:br):∃a,ou n a/\bG Φ y4 (some (.int N)::e::some (.int n)::r)=ok (.lst .ow (ah a)):=by
 refine⟨_,Vj n λ(k:Nat)=>decide ((N.fdiv ((2 ^ k:Nat):Int)).fmod 2=1),?_⟩;unfold y4;rw[bW (xs:=[.int n]) (ds:=((List.range n).filter λ(k:Nat)=>decide ((N.fdiv ((2 ^ k:Nat):Int)).fmod 2=1)).map λ(k:Nat)=>D.int (k:Int)) (by simp) (sQ Φ (by left) (by left)) ?_ ?_]
 ·simp[aW,ah]
 ·rw[Int.toNat_natCast];refine jD λk b=>⟨[some (.int k),some (.int N)],by simp[bF],?_,λ_=>by simp⟩
  have g:=List.mem_range.mp b;have d:=El (k:=k) (by left);have c:=Je N (k:=k) (by left);generalize (N.fdiv ((2 ^ k:Nat):Int))=M at *;generalize ((2 ^ k:Nat):Int)=W at *;simp[d,c]
 ·have:=aby (λ(k:Nat)=>decide ((N.fdiv ((2 ^ k:Nat):Int)).fmod 2=1)) (List.range n);simp only[List.length_map,List.length_range]at this ⊢;exact bL (by left)
theorem yD(Φ:aV)(P:AJ Φ){n:Nat}(h:n<=12)(f e c:aH):∀(ks:af) (j:Nat) (N:Int) (cs:az) (ws:aa) (l g:aH),Tn (ou n) j cs ws->j+ks.length<=5 ->
  ∃o m q F E,d9 (λd ρ=>cB (.nm 5) d ρ) (λρ=>b8 Φ Fj ρ) ks [some (.int N),f,some (.int n),e,some (.cg .ow cs (ah ws)),l,g,c]=ok (.nx,[q,f,some (.int n),e,some (.cg .ow o (ah m)),F,E,c])/\Tn (ou n) (j+ks.length) o m
 |[],j,N,cs,ws,l,g,T,_=>⟨cs,ws,some (.int N),l,g,rfl,T⟩
 |k::ks,j,N,cs,ws,l,g,T,hj=>by
  rw[List.length_cons]at hj;obtain⟨a,u,z⟩:=K7 Φ h N f [e,some (.cg .ow cs (ah ws)),some k,g,c];have y:=El h;have x:=Je N h;generalize N.fdiv ((2 ^ n:Nat):Int)=M at *;obtain⟨a1,a2⟩:=iL M (b:=9) (by decide);have G:=T.pI;have w:=MO P (cs:=cs) (by left) ws a (1+M.fmod 9);have D:=T.put u (i:=1+M.fmod 9) (by left) (by left);obtain⟨o,m,C,B,A,t,r⟩:=yD Φ P h f e c ks (j+1) (M.fdiv 9) _ _ (some k) (some (.tup (ah a))) D (by left);have s:=oz (Φ:=Φ) (p:=1033) (i:=4) (es:=[(.bin .add (.int 1) (.bin .mod (.v 0) (.int 9))),(.v 6)]) (ρ:=[some (.int M),f,some (.int n),e,some (.cg .ow cs (ah ws)),some k,some (.tup (ah a)),c]) (xs:=[.int (1+M.fmod 9),.tup (ah a)]) (by simp) (by simp) rfl w;simp only[List.set]at s;refine⟨o,m,C,B,A,cS (ρ1:=[some (.int N),f,some (.int n),e,some (.cg .ow cs (ah ws)),some k,g,c]) (by simp) (ρ2:=[some (.int (M.fdiv 9)),f,some (.int n),e,some (.cg .ow (aY cs a) (ah (bM cs ws a (1+M.fmod 9)))),some k,some (.tup (ah a)),c]) ?_ t,by rw[List.length_cons,show j+(ks.length+1)=j+1+ks.length by left];exact r⟩;generalize ((2 ^ n:Nat):Int)=W at *;simp[Fj,AM Φ y4 _ rfl,z,y,x,s]
theorem Uv(a:Φ 1038=Nq)(f:Fl)(cs:az)(ws:aa):Φ 1038 [.cg f cs (ah ws)]=ok (.int ws.sum):=by
 rw[a];show(match intsOf (ws.map D.int)with|some ns=>ok (D.int ns.sum)|none=>none)=_;rw[bQ]
def R6(m:aw):Prop:=∀(N:Int) (p:Nat),1<=p->p<=12->∃d:Dw,m [.int N,.int p]=ok (cj .ow d)/\Dr 6 d.1 d.2/\d.2.length<=5/\1<=d.2.length/\d.1<=p/\(d.1:Int)=1+N.fmod p/\∃W:Nat,0<W/\W<=45/\∀r∈d.2,r.1.den∣W
theorem UD(Φ:aV)(P:AJ Φ)(M:j6 (Φ 201))(L:Φ 1038=Nq):R6 (mk Φ 2 8 Hw):=by
 intro N p W V;obtain⟨q,Z⟩:=iL N (b:=(p:Int)) (by left);obtain⟨n,j⟩:∃n:Nat,1+N.fmod p=(n:Int):=⟨(1+N.fmod p).toNat,by left⟩
 obtain⟨Y,X⟩:=iL (N.fdiv p) (b:=5) (by decide);obtain⟨k,A⟩:∃k:Nat,1+(N.fdiv p).fmod 5=(k:Int):=⟨(1+(N.fdiv p).fmod 5).toNat,by left⟩
 have K:Tn (ou n) 0 [] []:=⟨aaA,rfl,aal _,(λ_ h=>nomatch h),(λ_ h=>nomatch h),λh=>by left⟩
 obtain⟨cs,ws,J,I,H,F,T⟩:=yD Φ P (n:=n) (by left) (some (.int p)) (some (.int k)) none ((List.range k).map λ(i:Nat)=>D.int (i:Int)) 0 (N.fdiv (5*p)) [] [] none none K (by simp;left);rw[List.length_map,List.length_range,Nat.zero_add]at T;obtain⟨O,z,U,TZ⟩:=T.dr (n:=n) (by left) (by left) (by left) (by left);have Q:=T.ne (by left);have C:1<=cs.length:=List.length_pos_iff.mpr Q;have l:=T.pI;have y:cL .mod (.int N) (.int p)=ok (.int (N.fmod p)):=RO (by left);have B:cL .fdiv (.int N) (.int p)=ok (.int (N.fdiv p)):=kK (gf (by left) (mm (by left)));have g:cL .fdiv (.int N) (.int (5*(p:Int)))=ok (.int (N.fdiv (5*p))):=kK (gf (by left) (mm (by left)));have d:cL .mul (.int 5) (.int (p:Int))=ok (.int (5*(p:Int))):=Ht (by left);have s:Φ 1030 []=ok (.cg .ow [] (ah [])):=by rw[P.Dv];rfl
 have e:cC Φ (.mO (.v 3)) [some (.int (N.fdiv (5*p))),some (.int p),some (.int n),some (.int k),some (.cg .ow [] (ah [])),none,none,none]=ok ((List.range k).map λ(i:Nat)=>D.int (i:Int),[some (.int (N.fdiv (5*p))),some (.int p),some (.int n),some (.int k),some (.cg .ow [] (ah [])),none,none,none]):=by
  rw[Lj (n:=k) (by simp) (by left) (by left),Int.toNat_natCast]
 have m:=fb (Φ:=Φ) (t:=.nm 5) (b:=Fj) e F;have x:(bK cs).Perm cs:=aaB _ _;have a:=λf=>Uv L f cs ws;have E:bG Φ DL [J,some (.int p),some (.int n),some (.int k),some (.cg .ow cs (ah ws)),I,H,some (.int ws.sum)]=ok (.lst .ow (bg (j9 cs ws))):=by
  unfold DL;rw[bW (xs:=[.lst .ow ((bK cs).map eJ)]) (items:=(bK cs).map eJ) (ds:=bg (j9 cs ws)) (by simp[Bd P _ _ (show cs.length<64 by left)]) (by rw[cA,gB]) ?_ (by rw[iF,z];exact bL (by left))]
  ·rw[bZ]
  ·unfold bg j9;rw[List.map_map];refine bH λc o=>?_;have S:c∈cs:=x.mem_iff.mp o;have G:=λf=>Rx P f T.ln S;have q:=M (eK cs ws c) ws.sum (by left) (mm (by left));have u:aO bt (eJ c)=.tup (ah c):=by show D.tup (aA bt (c.map D.int))=_;rw[iI];rfl
   refine⟨[some (eJ c),some (.int ws.sum),some (.cg .fz cs (ah ws))],by simp[bF],by simp,?_⟩;simp[u,G,q];rfl
 refine⟨(n,j9 cs ws),?_,O,by show(j9 cs ws).length<=5;left,by show 1<=(j9 cs ws).length;left,by show n<=p;left,j.symm,ws.sum.natAbs,by left,by left,λr w=>by
  obtain⟨c,o,rfl⟩:=List.mem_map.mp (show r∈(bK cs).map _ from w);exact iM (by left)⟩
 simp only[z5]at m s;generalize j9 cs ws=R at *;show _=ok (D.tup [.int n,.lst .ow (bg R)]);simp[mk_eq,Hw,y,j,B,A,d,g,s,m,a,E]
end DI
end
section
namespace DI
open PySem PySem.Spec PyProof.Rows L2
noncomputable def bA{a:Type}(i j:Nat)(xs:List a):List a:=(xs.drop i).take (j - i)
theorem DZ{xs:ag}{i j:Nat}(c:i<=j)(a:j<=xs.length):As xs (some (i:Int)) (some (j:Int))=bA i j xs:=by
 have e:∀(k d:Nat),k<=xs.length->HT.uB xs.length d (some (k:Int))=k:=λk d b=>by
  rw[HT.FG];left
 unfold As bA;rw[e i 0 (by left),e j _ a]
def uV(xs:af):O D:=match three xs with
 |some z=>match z.1 with
  |.lst _ a=>match z.2.1 with
   |.int i=>match z.2.2 with
    |.int j=>if 0<=i/\i<=j/\j<=a.length then ok (.lst .ow (aA bt (bA i.toNat j.toNat a)))else none
    |_=>none
   |_=>none
  |_=>none
 |none=>none
set_option tactic.hygienic true in
theorem Ga{x y z d:D}(h:uV [x,y,z]=ok d):∃(f:Fl) (ds:af) (i j:Nat),x=.lst f ds/\y=.int i/\z=.int j/\i<=j/\j<=ds.length/\d=.lst .ow (aA bt (bA i j ds)):=by
 cases x<;>first|exact nk h | (cases h;done)|skip
 cases y<;>first|exact nk h | (cases h;done)|skip
 cases z<;>first|exact nk h | (cases h;done)|skip
 obtain⟨⟨b,e,c⟩,a⟩:=p9 h;rename_i f ds i j;exact⟨f,ds,i.toNat,j.toNat,rfl,by rw[Int.toNat_of_nonneg b],by rw[Int.toNat_of_nonneg (by left)],by left,by left,a.symm⟩
noncomputable def XT(e:Expr):Option (Option Expr×Option Expr×Option Expr):=match e with
 |.Slice b c a _=>some (b,c,a)
 |_=>none
theorem Jw{e:Expr}{lo b a:Option Expr}(h:XT e=some (lo,b,a)):∃p,e=.Slice lo b a p:=by
 cases e<;>first|exact nk h | (cases h;done) | (cases h;exact⟨_,rfl⟩)
def xq(_:Scope)(_:ak)(e:Expr):Option (aq):=(t_ e).bind λz=>(XT z.2).bind λs=>s.1.bind λi=>s.2.1.bind λj=>if s.2.2.isNone=true then some [z.1,i,j]else none
variable {args:aq}
theorem Av{sc:Scope}{bl:ak}{e:Expr}(h:xq sc bl e=some args):∃a i j p b,e=.Subscript a (.Slice (some i) (some j) none p) b/\args=[a,i,j]:=by
 obtain⟨⟨a,s⟩,g,h⟩:=bT h;obtain⟨⟨f,l,c⟩,hw,h⟩:=bT h;obtain⟨i,d,h⟩:=bT h;obtain⟨j,k,h⟩:=bT h;obtain⟨m,h⟩:=gT h;cases h;obtain⟨b,rfl⟩:=jK g;obtain⟨p,rfl⟩:=Jw hw;obtain rfl:f=some i:=d;obtain rfl:l=some j:=k;obtain rfl:c=none:=Option.isNone_iff_eq_none.mp m;exact⟨a,i,j,p,b,rfl,rfl⟩
theorem KY{Φ:aV}{n:Nat}(A:Φ n=uV){X:Cx}{sc:Scope}{bl:ak}{k:Nat}(L:PX X sc bl k){e:Expr}(he:xq sc bl e=some args){F:aj}{cs:aF}(hs:m7 X F Φ cs args):PE X e (tD X F Φ (.cm n cs))/\PT X e (gy X F Φ (.cm n cs)):=by
 obtain⟨a,U,T,p,t,rfl,rfl⟩:=Av he;cases cs with
 |nil=>exact hs.elim
 |cons c cs=>cases cs with
  |nil=>exact hs.2.2.2.elim
  |cons N cs=>cases cs with
   |nil=>exact hs.2.2.2.2.2.2.elim
   |cons o cs=>cases cs with
    |cons _ _=>exact hs.2.2.2.2.2.2.2.2.2.elim
    |nil =>
     obtain⟨h1,_,_,Z,_,_,Y,_,_,_⟩:=hs;have this:PE X (.Subscript a (.Slice (some U) (some T) none p) t) (tD X F Φ (.cm n [c,N,o])):=by
      refine PE.imp (uM L2.r9 h1 (nI Z) (nI Y)) λσ H Q B=>?_;obtain⟨R,τ,ρ,d,s,r,B⟩:=B;obtain⟨J,m,r⟩:=aD r;obtain⟨x,ex,m⟩:=aD m;obtain⟨ys,b,m⟩:=aD m;cases m;obtain⟨y,ey,b⟩:=aD b;obtain⟨zs,I,b⟩:=aD b;cases b;obtain⟨z,ez,I⟩:=aD I;cases I;rw[A]at r;obtain⟨f,ds,i,j,rfl,rfl,rfl,C,W,rfl⟩:=Ga r;refine tD.intro s ex λv H1 G r1=>tD.intro (s.go G) ey λu H2 E r2=>?_;cases r2.isInt;refine⟨_,rfl,tD.intro (s.go (G.trans E)) ez λw H3 M r3=>?_⟩;cases r3.isInt;have S:=(r1.go (E.trans M)).mono (fv':=iq (.cm n [c,N,o])) λi C=>aax _ C;obtain⟨O,fr,P⟩:=S;obtain⟨q,J,rfl,V,K⟩:=P.rR;have D:=G.trans (E.trans M);refine⟨_,rfl,q,J,rfl,V.sq,λl g=>?_⟩;rw[DZ C (by rw[K.length];exact W)];refine B _ _ (D.trans (aL.upd g)) (cu.sI (D.free g) (D.trans (aL.upd g)) aZ ?_);exact(((K.DT i).Bn (j - i)).gj s fr).imp (λ_ _ h=>a_.same (aL.upd g) h) λ_ _ _ _ h=>nd.same (aL.upd g) h
     exact⟨this,cO this λ_=>rfl⟩
end DI
end
section
namespace DI
open PySem (Str)
theorem xD(Φ:aV):∀(a b:ai) (ρ d:br),b8 Φ a ρ=ok (.nx,d)->b8 Φ (a++b) ρ=b8 Φ b d
 |[],b,ρ,d,h=>by cases h;rfl
 |s::a,b,ρ,d,h=>by
  rw[dB]at h;rw[List.cons_append,dB];cases e:mT Φ s ρ with
  |none=>rw[e]at h;cases h
  |some r=>cases r with
   |error c=>rw[e]at h;cases h
   |ok r =>
    obtain⟨g,f⟩:=r;rw[e]at h;cases g with
    |nx=>exact xD Φ a b f d h
    |_=>cases h
theorem j5{B:Nat}:∀(l:aa),(∀z∈l,z.natAbs<=B)->l.sum.natAbs<=l.length*B
 |[],_=>by simp
 |z::l,h=>by
  have b:=j5 l λx a=>h x (aac _ a);have c:=h z aae;have d:=acs z l.sum;rw[List.sum_cons,List.length_cons,Nat.succ_mul];left
def m9(b:Nat)(rs:ae)(gs:aa):Int:=((rs.zip gs).map λp=>bw b p.1.1*p.2*p.2).sum
def jN(b a:Nat)(rs:ae)(gs:aa):Rat:=Rat.divInt ((b:Int)*m9 b rs gs - fJ b rs gs*fJ b rs gs) ((b:Int)*a*((b:Int)*a))
noncomputable def MA:CE:=.comp 2 (.tp [0,1]) [] (.cm 1000) [(.ix (.v 2) (.int 1)),(.ix (.v 1) (.int 1))] [] (.bin .mul (.bin .mul (.ix (.v 0) (.int 0)) (.v 1)) (.v 1))
def gH:ai:=[.asg (.nm 2) (.call 14 [(.v 0)]),.asg (.nm 3) (.bf .eI [Ap]),.asg (.nm 4) (.bf .eI [MA]),.asg (.nm 5) (.bin .mul (.ix (.v 2) (.int 0)) (.ix (.v 1) (.int 0))),.ret (.call 2 [(.bin .sub (.bin .mul (.ix (.v 2) (.int 0)) (.v 4)) (.bin .mul (.v 3) (.v 3))),(.bin .mul (.v 5) (.v 5))])]
def m5(m:aw):Prop:=∀{P:aa->Prop} k n rs gs (a:Nat),Dp P k n rs->gs.length=rs.length->0<a->a<2 ^ 2000->(∀g∈gs,g.natAbs<2 ^ 2000)->m [.lst .fz (bg rs),.tup [.int a,.lst .fz (ah gs)]]=ok (qD (jN (bI (cc rs)) a rs gs))
theorem uz(Φ:aV)(S:cY (Φ 2))(X:iy (Φ 14))(G:Φ 1000=t4):m5 (mk Φ 2 6 gH):=by
 intro P k n c d f I Z g0 w j;obtain⟨Q,E⟩:=I.sl;have V:=X c Q E;obtain⟨b0,C,_⟩:=I.bot;have s:=λr R=>I.top (r:=r) R;have hlen:=I.len;generalize bI (cc c)=b at *;have i:dN Φ (.cm 1000) [.lst .al (lV b c),.lst .fz (ah d)]=ok ((c.zip d).map λp=>.tup [.tup [.int (bw b p.1.1),.tup (ah p.1.2)],.int p.2]):=by
  show bd (Φ 1000 _) oP=_;rw[G];show ok (aA bo (List.zipWith (λx y=>D.tup [x,y]) (lV b c) (ah d)))=_;have:=dS bo (lV b c) (ah d);rw[o3,di]at this;refine aaV ok (Eq.trans this ?_);unfold lV ah;rw[List.zipWith_map,List.zip,List.map_zipWith];rfl
 have up:∀{a:Nat} {x:Int},x.natAbs<2 ^ a->(h:a<=9000:=by decide)->x.natAbs<2 ^ 9000:=λh T=>aah h (aaj (by decide) T);have pr:∀p∈c.zip d,(bw b p.1.1*p.2).natAbs<2 ^ 2250:=λp g=>by
  have m:=aaC g;rw[Int.natAbs_mul,show(2250:Nat)=250+2000 from rfl];exact bu (s p.1 m.1) (j p.2 m.2)
 have O:∀r,bG Φ Ap (some (.lst .fz (bg c))::some (.tup [.int f,.lst .fz (ah d)])::some (.tup [.int b,.lst .ow (lV b c)])::r)=ok (.lst .ow (ah ((c.zip d).map λp=>bw b p.1.1*p.2))):=λr=>by
  unfold Ap;rw[bW (xs:=[.lst .al (lV b c),.lst .fz (ah d)]) (by simp) i (ds:=(c.zip d).map λp=>.int (bw b p.1.1*p.2)) (bH λp g=>?_) (by simp;exact bL (by left))]
  ·simp[ah,aW]
  ·have m:=aaC g;have e:=dW (fN (up (s p.1 m.1)) (up (j p.2 m.2)));exact⟨[some (.tup [.int (bw b p.1.1),.tup (ah p.1.2)]),some (.int p.2)],by simp[bF],by simp,by simp[e]⟩
 have q:∀r,bG Φ MA (some (.lst .fz (bg c))::some (.tup [.int f,.lst .fz (ah d)])::some (.tup [.int b,.lst .ow (lV b c)])::r)=ok (.lst .ow (ah ((c.zip d).map λp=>bw b p.1.1*p.2*p.2))):=λr=>by
  unfold MA;rw[bW (xs:=[.lst .al (lV b c),.lst .fz (ah d)]) (by simp) i (ds:=(c.zip d).map λp=>.int (bw b p.1.1*p.2*p.2)) (bH λp g=>?_) (by simp;exact bL (by left))]
  ·simp[ah,aW]
  ·have m:=aaC g;have e:=dW (fN (up (s p.1 m.1)) (up (j p.2 m.2)));have W:cL .mul (.int (bw b p.1.1*p.2)) (.int p.2)=ok (.int (bw b p.1.1*p.2*p.2)):=dW (fN (aah (pr p g) (aaj (by decide) (by decide))) (aah (j p.2 m.2) (aaj (by decide) (by decide))));exact⟨[some (.tup [.int (bw b p.1.1),.tup (ah p.1.2)]),some (.int p.2)],by simp[bF],by simp,by simp[e,W]⟩
 have u:∀l:aa,oe .eI [.lst .ow (ah l)]=ok (.int l.sum):=λl=>by
  show(match intsOf (ah l)with|some ns=>ok (D.int ns.sum)|none=>none)=_;unfold ah;rw[bQ]
 have M:oe .eI [.lst .ow (ah ((c.zip d).map λp=>bw b p.1.1*p.2))]=ok (.int (fJ b c d)):=u _;have N:oe .eI [.lst .ow (ah ((c.zip d).map λp=>bw b p.1.1*p.2*p.2))]=ok (.int (m9 b c d)):=u _;have t:(fJ b c d).natAbs<2 ^ 2300:=by
  have h:=j5 (B:=2 ^ 2250) ((c.zip d).map λp=>bw b p.1.1*p.2) λz i=>by
   obtain⟨p,g,rfl⟩:=List.mem_map.mp i;exact aa6 (pr p g)
  have i:((c.zip d).map λp=>bw b p.1.1*p.2).length<=1000:=by simp;left
  refine aap (aar h (aaG _ i)) ?_;rw[show(2300:Nat)=50+2250 from rfl,Nat.pow_add];exact abz (by decide) (acz _)
 have F:(m9 b c d).natAbs<2 ^ 4300:=by
  have h:=j5 (B:=2 ^ 4250) ((c.zip d).map λp=>bw b p.1.1*p.2*p.2) λz i=>by
   obtain⟨p,g,rfl⟩:=List.mem_map.mp i;rw[Int.natAbs_mul,show(4250:Nat)=2250+2000 from rfl];exact aa6 (bu (pr p g) (j p.2 (aaC g).2))
  have i:((c.zip d).map λp=>bw b p.1.1*p.2*p.2).length<=1000:=by simp;left
  refine aap (aar h (aaG _ i)) ?_;rw[show(4300:Nat)=50+4250 from rfl,Nat.pow_add];exact abz (by decide) (acz _)
 have A:((b:Int)).natAbs<2 ^ 250:=by rw[Int.natAbs_natCast];exact C
 have U:((f:Int)).natAbs<2 ^ 2000:=by rw[Int.natAbs_natCast];exact w
 have L:=dW (fN (up A) (up U));have K:=dW (fN (up A) (up F));have J:cL .mul (.int (fJ b c d)) (.int (fJ b c d))=ok (.int (fJ b c d*fJ b c d)):=dW (fN (aah t (aaj (by decide) (by decide))) (aah t (aaj (by decide) (by decide))));have o:((b:Int)*f).natAbs<2 ^ 2250:=by
  rw[Int.natAbs_mul,Int.natAbs_natCast,Int.natAbs_natCast,show(2250:Nat)=250+2000 from rfl];exact bu C w
 have H:cL .mul (.int ((b:Int)*f)) (.int ((b:Int)*f))=ok (.int ((b:Int)*f*((b:Int)*f))):=dW (fN (aah o (aaj (by decide) (by decide))) (aah o (aaj (by decide) (by decide))));have v:=S.1 ((b:Int)*m9 b c d - fJ b c d*fJ b c d) ((b:Int)*f*((b:Int)*f)) (by
  have:(0:Int)<(b:Int)*f:=Int.mul_pos (by left) (by left);have:=Int.mul_pos this this;left) (by
  rw[Int.natAbs_mul];exact aah (bu o o) (aaj (by decide) (by decide)))
 change _=ok (qD (jN b f c d))at v;generalize jN b f c d=Y at *;simp[mk_eq,gH,V,O,q,M,N,L,K,J,H,v]
def bD(rs:ae)(ws xs:aC):Rat:=jN (bI (cc rs)) (bI (dF ws xs)) rs (dm rs (dF ws xs))
def iz(m:aw):Prop:=∀k n c f g b a j,Dr k n c->Gs j n b a->j<=50->m [bV n c,.lst f (bj b),.lst g (bj a)]=ok (qD (bD c b a))
noncomputable def j3:ai:=[.ex (.call 17 [(.v 0)]),.ex (.call 46 [(.v 1),(.ix (.v 0) (.int 0))]),.ex (.call 47 [(.v 2),(.ix (.v 0) (.int 0))]),.ret (.call 50 [(.ix (.v 0) (.int 1)),(.call 48 [(.v 0),(.v 1),(.v 2)])])]
variable {J W:Nat}{ws xs:aC}
theorem rn{k n j:Nat}{rs:ae}(I:Dr k n rs)(G:Gs j n ws xs)(A:j<=J):bI (dF ws xs)<2 ^ (26*J+5)/\∀g∈dm rs (dF ws xs),g.natAbs<2 ^ (26*J+5):=by
 have i:=I.n2;have d:=G.Ic i;obtain⟨D,x,C⟩:=d.lcm;have p:(dF ws xs).length=n:=by unfold dF;rw[List.length_map,List.length_zip,G.l1,G.l2,Nat.min_self]
 have t:bI (dF ws xs)<2 ^ (24*J+1):=aah x (aaj (by decide) (by
  rw[p];have:(j+j)*n<=(2*J)*12:=aaY (by left) i;left))
 refine⟨aah t (aaj (by decide) (by left)),λg o=>?_⟩;unfold dm at o;obtain⟨r,f,rfl⟩:=List.mem_map.mp o;have u:∀z∈r.2.map (kb ((dF ws xs).map (bw (bI (dF ws xs))))),z.natAbs<=2 ^ (2*J+(24*J+1)):=λz c=>by
  obtain⟨h,v,rfl⟩:=List.mem_map.mp c;obtain⟨a,b⟩:=(I.lot r f).2 h v;obtain⟨g,m⟩:=oj (qs:=dF ws xs) a (by rw[p];exact b);have e:kb ((dF ws xs).map (bw (bI (dF ws xs)))) h=bw (bI (dF ws xs)) (fm (dF ws xs) h):=by
   unfold kb;rw[List.getD_eq_getElem?_getD,List.getElem?_map,g];rfl
  rw[e];have s:=(d.sm _ m).mono (l:=2*J) (by left);generalize fm (dF ws xs) h=q at *;unfold bw;rw[Int.natAbs_mul];have w:((bI (dF ws xs):Int).fdiv q.den).natAbs<=bI (dF ws xs):=by
   rw[Int.fdiv_eq_ediv_of_nonneg _ (by left)];have:=Int.natAbs_ediv_le_natAbs (bI (dF ws xs):Int) (q.den:Int);simpa using this
  have:=bu s.1 (aap w t);exact aa6 this
 have h:=j5 (B:=2 ^ (2*J+(24*J+1))) _ u;have y:=(I.lot r f).len;have c:(r.2.map (kb ((dF ws xs).map (bw (bI (dF ws xs)))))).length<=12:=by rw[List.length_map];left
 refine aap (aar h (aaG _ c)) ?_;rw[show 26*J+5=4+(2*J+(24*J+1)) by left,Nat.pow_add 2 4];refine abz ?_ (acz _);decide
theorem Ah{k n j:Nat}{rs:ae}(I:Dr k n rs)(G:Gs j n ws xs)(a:j<=50):bI (dF ws xs)<2 ^ 1305/\∀g∈dm rs (dF ws xs),g.natAbs<2 ^ 1305:=rn (J:=50) I G a
theorem vn{k n j:Nat}{rs:ae}(I:Dr k n rs)(G:Gs j n ws xs)(c:j<=50):bI (dF ws xs)<2 ^ 2000/\∀g∈dm rs (dF ws xs),g.natAbs<2 ^ 2000:=by
 obtain⟨a,b⟩:=Ah I G c;exact⟨aah a (aaj (by decide) (by decide)),λg d=>aah (b g d) (aaj (by decide) (by decide))⟩
theorem zL(Φ:aV)(l:cF (Φ 17))(A:gK 3 kc (Φ 46))(C:gK 4 kc (Φ 47))(B:gS (Φ 48))(b:m5 (Φ 50)):iz (mk Φ 3 3 j3):=by
 intro k n a f g ws xs j I G v;have u:=I.n2;have s:=G.l1;have r:=G.l2;have y:=l k n a I;have e:=λf=>A (.lst f (bj ws)) n (by show(bj ws).length<=1000000;simp;left);have d:=λf=>C (.lst f (bj xs)) n (by show(bj xs).length<=1000000;simp;left);simp only[pU,s,decide_true,if_true]at e;simp only[pU,r,decide_true,if_true]at d;have x:=λf g=>B k n a f g ws xs j I G;have t:=G.Ic u;obtain⟨z,E,D⟩:=t.lcm;obtain⟨o,m⟩:=vn I G v;have w:=b k n a (dm a (dF ws xs)) (bI (dF ws xs)) I (by simp[dm]) z o m;have q:aO bo (bV n a)=bV n a:=by simp[bV]
 have p:aO bt (bV n a)=bV n a:=by simp[bV]
 have c:bV n a=.tup [.int n,.lst .fz (bg a)]:=rfl;have i:mq (bV n a) (.int 0)=ok (.int n):=by rw[c];simp
 have h:mq (bV n a) (.int 1)=ok (.lst .fz (bg a)):=by rw[c];simp
 simp[mk_eq,j3,q,p,i,h,y,e,d,x,w];rfl
def gQ(ws xs:aC)(r:Row):Rat:=bh r.2 λh=>fm ws h*fm xs h
noncomputable def Fv(rs:ae)(ws xs:aC):Rat:=(rs.map λr=>r.1*(gQ ws xs r*gQ ws xs r)).sum
theorem xX{b c:Nat}{P:aC}(d:∀q∈P,q.den∣c):∀(rs:ae),(∀r∈rs,r.1.den∣b)->(∀r∈rs,∀h∈r.2,0<=h/\h<(P.length:Int)) ->
  ((m9 b rs (rs.map λr=>sumZ r.2 (P.map (bw c))):Int):Rat)=(rs.map λr=>r.1*((bh r.2 λh=>fm P h)*bh r.2 λh=>fm P h)).sum*((b:Rat)*((c:Rat)*(c:Rat)))
 |[],_,_=>by simp[m9,Rat.zero_mul]
 |r::rs,hb,hl=>by
  have f:=xX d rs (λs a=>hb s (aac _ a)) λs a=>hl s (aac _ a);have e:m9 b (r::rs) ((r::rs).map λr=>sumZ r.2 (P.map (bw c)))=bw b r.1*sumZ r.2 (P.map (bw c))*sumZ r.2 (P.map (bw c))+m9 b rs (rs.map λr=>sumZ r.2 (P.map (bw c))):=rfl;rw[e,Rat.intCast_add,Rat.intCast_mul,Rat.intCast_mul,ji (hb r List.mem_cons_self),oI d r.2 (hl r List.mem_cons_self),f,List.map_cons,List.sum_cons];grind
theorem dK{k n j:Nat}{rs:ae}(I:Dr k n rs)(G:Gs j n ws xs):bD rs ws xs=Fv rs ws xs - eB rs ws xs*eB rs ws xs:=by
 have l:=G.Ic I.n2;obtain⟨A,_,i⟩:=l.lcm;obtain⟨B,_,v⟩:=I.bot;have o:(dF ws xs).length=n:=by unfold dF;rw[List.length_map,List.length_zip,G.l1,G.l2,Nat.min_self]
 have e:∀r∈rs,∀h∈r.2,0<=h/\h<((dF ws xs).length:Int):=λr a h d=>by rw[o];exact(I.lot r a).2 h d
 have f:∀r∈rs,r.1.den∣bI (cc rs):=λr a=>v _ (aaq a);have t:=rV (b:=bI (cc rs)) i rs f e;have q:=xX (b:=bI (cc rs)) i rs f e;have g:∀r∈rs,(bh r.2 λh=>fm (dF ws xs) h)=gQ ws xs r:=λr a=>kA λh d=>G.at ((I.lot r a).2 h d).1 ((I.lot r a).2 h d).2;have u:(rs.map λr=>r.1*bh r.2 λh=>fm (dF ws xs) h)=rs.map λr=>r.1*bh r.2 λh=>fm ws h*fm xs h:=aak λr a=>by rw[g r a];rfl
 have p:(rs.map λr=>r.1*((bh r.2 λh=>fm (dF ws xs) h)*bh r.2 λh=>fm (dF ws xs) h))=rs.map λr=>r.1*(gQ ws xs r*gQ ws xs r):=aak λr a=>by rw[g r a]
 rw[u]at t;rw[p]at q;unfold bD dm jN;generalize fJ (bI (cc rs)) rs _=T at *;generalize m9 (bI (cc rs)) rs _=Q at *;change ((T:Int):Rat)=eB rs ws xs*_ at t;change ((Q:Int):Rat)=Fv rs ws xs*_ at q;generalize eB rs ws xs=m at *;generalize Fv rs ws xs=s at *;generalize bI (cc rs)=b at *;generalize bI (dF ws xs)=c at *;rw[Rat.divInt_eq_div];simp only[Rat.intCast_sub,Rat.intCast_mul,Rat.intCast_natCast,t,q];have w:(b:Rat)≠0:=λz=>by
  have:((b:Int):Rat)=0:=by rw[Rat.intCast_natCast];exact z
  rw[Rat.intCast_eq_zero_iff]at this;left
 have C:(c:Rat)≠0:=λz=>by
  have:((c:Int):Rat)=0:=by rw[Rat.intCast_natCast];exact z
  rw[Rat.intCast_eq_zero_iff]at this;left
 generalize (b:Rat)=x at *;generalize (c:Rat)=y at *;grind
noncomputable def dA(g h:Int)(r:Row):Bool:=decide (g∈r.2)&&decide (h∈r.2)
def aR(rs:ae)(g h:Int):Rat:=(cc (rs.filter (dA g h))).sum
theorem vg(h:Int):∀a:aa,inD (.int h) (ah a)=decide (h∈a)
 |[]=>rfl
 |x::xs=>by
  show(mU (.int x) (.int h)||inD (.int h) (ah xs))=_;rw[nZ,vg h xs];by_cases e:h=x<;>simp[e,eq_comm]
theorem rE:∀a:aa,(ah a).all i7=true
 |[]=>rfl
 |x::xs=>by show(i7 (.int x)&&(ah xs).all i7)=true;rw[rE xs];rfl
theorem RJ(h:Int)(ns:aa):fi .IB (.int h) (.tup (ah ns))=ok (.bl (decide (h∈ns))):=by
 show(if i7 (.int h)&&(ah ns).all i7 then ok (D.bl (inD (.int h) (ah ns)))else none)=_;rw[rE,vg];rfl
noncomputable def G7:CE:=.comp 2 (.tp [0,1]) [1,2] .seq [(.ix (.v 0) (.int 1))] [(.and [(.cmp .IB (.v 2) (.v 1)),(.cmp .IB (.v 3) (.v 1))])] (.v 0)
def oi:ai:=[.asg (.nm 3) G7,.ret (.call 2 [(.bf .eI [(.v 3)]),(.ix (.v 0) (.int 0))])]
def zw(m:aw):Prop:=∀k n rs (g h:Int),Dr k n rs->m [.tup [.int (bI (cc rs)),.lst .fz (lV (bI (cc rs)) rs)],.int g,.int h]=ok (qD (aR rs g h))
theorem FF(Φ:aV)(t:cY (Φ 2)):zw (mk Φ 3 4 oi):=by
 intro k n c g h I;obtain⟨w,v,u⟩:=I.bot;have d:=nB (b:=bI (cc c)) (qs:=cc (c.filter (dA g h))) w λq o=>by
  obtain⟨r,i,rfl⟩:=List.mem_map.mp o;exact u _ (aaq ((List.mem_filter.mp i).1))
 generalize bI (cc c)=b at *;have m:∀a,bG Φ G7 [some (.tup [.int b,.lst .fz (lV b c)]),some (.int g),some (.int h),a]=ok (.lst .ow (ah ((cc (c.filter (dA g h))).map (bw b)))):=λa=>by
  unfold G7;rw[bW (xs:=[.lst .fz (lV b c)]) (items:=c.map λr=>.tup [.int (bw b r.1),.tup (ah r.2)]) (ds:=(c.filter (dA g h)).map λr=>.int (bw b r.1)) (by simp) (by rw[cA,o3];rfl) (jD λr i=>⟨[some (.int (bw b r.1)),some (.tup (ah r.2)),some (.int g),some (.int h)],by simp[bF],by
   by_cases s:g∈r.2<;>by_cases p:h∈r.2<;>simp[RJ,dA,s,p],λ_=>by simp⟩) ?_]
  ·simp[ah,aW,cc]
  ·have:=aby (dA g h) c;have:=I.len;rw[List.length_map];exact bL (by left)
 have l:oe .eI [.lst .ow (ah ((cc (c.filter (dA g h))).map (bw b)))]=ok (.int ((cc (c.filter (dA g h))).map (bw b)).sum):=by
  show(match intsOf (ah ((cc (c.filter (dA g h))).map (bw b)))with|some ns=>ok (D.int ns.sum)|none=>none)=_;unfold ah;rw[bQ]
 have e:=t.1 ((cc (c.filter (dA g h))).map (bw b)).sum b (by left) (by
  rw[Int.natAbs_natCast];exact aah v (aaj (by decide) (by decide)))
 rw[d]at e;have j:∀f,oe .eI [.lst f (ah ((cc (c.filter (dA g h))).map (bw b)))]=ok (.int ((cc (c.filter (dA g h))).map (bw b)).sum):=λf=>l;simp[mk_eq,oi,AM Φ G7 _ rfl,m,j,e];rfl
def gM(n:Nat)(rs:ae):aC:=(List.range n).map λ(k:Nat)=>aR rs k k
noncomputable def G5:CE:=.comp 1 (.nm 0) [1] .mO [(.ix (.v 0) (.int 0))] [] (.call 19 [(.v 1),(.v 0),(.v 0)])
def lO:ai:=[.ex (.call 17 [(.v 0)]),.asg (.nm 1) (.call 14 [(.ix (.v 0) (.int 1))]),.ret G5]
def lT(m:aw):Prop:=∀k n a,Dr k n a->m [bV n a]=ok (.lst .ow (bj (gM n a)))
theorem BK(Φ:aV)(r:iy (Φ 14))(j:cF (Φ 17))(c:zw (Φ 19)):lT (mk Φ 1 2 lO):=by
 intro k n a I;have q:=j k n a I;obtain⟨m,i⟩:=I.sl;have p:=r a m i;have s:=I.n2;have d:aO bt (bV n a)=bV n a:=by simp[bV]
 have l:aO bo (bV n a)=bV n a:=by simp[bV]
 have f:bV n a=.tup [.int n,.lst .fz (bg a)]:=rfl;have h:mq (bV n a) (.int 0)=ok (.int n):=by rw[f];simp
 have g:mq (bV n a) (.int 1)=ok (.lst .fz (bg a)):=by rw[f];simp
 have o:bG Φ G5 [some (bV n a),some (.tup [.int (bI (cc a)),.lst .ow (lV (bI (cc a)) a)])]=ok (.lst .ow (bj (gM n a))):=by
  unfold G5;rw[bW (xs:=[.int n]) (ds:=(List.range n).map λ(k:Nat)=>qD (aR a k k)) (by simp[d,h]) (sQ Φ (by left) (by left)) (bH λb t=>?_) (by simp;exact bL (by left))]
  ·simp[bj,gM,aW]
  ·have e:=c k n a b b I;exact⟨[some (.int b),some (.tup [.int (bI (cc a)),.lst .fz (lV (bI (cc a)) a)])],by simp[bF],by simp,by simp[e]⟩
 simp[mk_eq,lO,AM Φ G5 _ rfl,l,d,g,q,p,o]
theorem qT{rs:ae}(e:∀r∈rs,r.1.den∣W)(f:0<W)(g h:Int):(aR rs g h).den∣W:=by
 have a:=nB (b:=W) (qs:=cc (rs.filter (dA g h))) f λq d=>by
  obtain⟨r,c,rfl⟩:=List.mem_map.mp d;exact e _ ((List.mem_filter.mp c).1)
 unfold aR;rw[<- a];have:=iM (t:=((cc (rs.filter (dA g h))).map (bw W)).sum) (b:=(W:Int)) (by left);simpa using this
theorem gL(p:Row->Bool):∀(rs:ae),(∀r∈rs,0<r.1)->0<=(cc (rs.filter p)).sum/\(cc (rs.filter p)).sum<=(cc rs).sum
 |[],_=>by simp[cc,Rat.le_refl]
 |r::rs,h=>by
  obtain⟨a,b⟩:=gL p rs λx d=>h x (aac _ d);have g:=h r aae;have e:(cc (r::rs)).sum=r.1+(cc rs).sum:=rfl;rw[e];cases c:p r with
  |true =>
   rw[List.filter_cons_of_pos c];have f:(cc (r::rs.filter p)).sum=r.1+(cc (rs.filter p)).sum:=rfl;rw[f];constructor<;>grind
  |false =>
   rw[List.filter_cons_of_neg (by simp[c])];constructor<;>grind
theorem uN{k n:Nat}{rs:ae}(I:Dr k n rs)(g h:Int):0<=aR rs g h/\aR rs g h<=1:=by
 have:=gL (dA g h) rs I.pos;have e:(cc rs).sum=1:=I.one;rw[e]at this;exact this
theorem k_{q:Rat}{k:Nat}(c:0<=q)(b:q<=1)(a:q.den<2 ^ k):Sm k q:=by
 refine⟨?_,a⟩;have e:=eh q;have f:=q.den_pos;have d:0<=q.num:=Rat.num_nonneg.mpr c;have:q.num<=q.den:=by
  have:=b;rw[Rat.le_iff]at this;simpa using this
 left
theorem BF{k n:Nat}{rs:ae}(I:Dr k n rs)(g h:Int):Sm 250 (aR rs g h):=by
 obtain⟨a,f,e⟩:=I.bot;obtain⟨c,b⟩:=uN I g h;have:=qT (rs:=rs) (W:=bI (cc rs)) (λr d=>e _ (aaq d)) a g h;exact k_ c b (aap (aba a this) f)
theorem nM{n:Nat}{rs:ae}{q:Rat}(h:q∈gM n rs):∃k:Nat,k<n/\q=aR rs k k:=by
 unfold gM at h;obtain⟨k,a,rfl⟩:=List.mem_map.mp h;exact⟨k,List.mem_range.mp a,rfl⟩
@[simp]theorem x_(n:Nat)(rs:ae):(gM n rs).length=n:=by simp[gM]
theorem la{n k:Nat}(rs:ae)(h:k<n):(gM n rs)[k]?=some (aR rs k k):=by simp[gM,h]
noncomputable def yd(q:Rat):D:=if 0<q then qD (1 / q)else .cq
noncomputable def G4:CE:=.comp 1 (.nm 0) [] .seq [(.call 20 [(.v 0)])] [] (.ite (.cmp .gt (.ix (.v 0) (.int 0)) (.int 0)) (.call 7 [(.glt "ONE" [1,1]),(.v 0)]) .cq)
def og:ai:=[.ret G4]
def tT(m:aw):Prop:=∀k n a,Dr k n a->m [bV n a]=ok (.lst .ow ((gM n a).map yd))
theorem uR(q:Rat):0<q.num ↔ 0<q:=by rw[Rat.lt_iff];simp
@[simp]theorem Gb(g:Fl->Fl)(q:Rat):aO g (yd q)=yd q:=by
 unfold yd;split
 ·simp
 ·rfl
@[simp]theorem GI(g:Fl->Bool)(q:Rat):aT g (yd q)=false:=by
 unfold yd;split
 ·simp
 ·rfl
@[simp]theorem zS(g:Fl->Fl)(qs:aC):aA g (qs.map yd)=qs.map yd:=dv g (λq=>Gb g q) qs
@[simp]theorem NP(g:Fl->Bool)(qs:aC):aP g (qs.map yd)=false:=cW g (λq=>GI g q) qs
theorem Ux:Sm 1 (1:Rat):=by constructor<;>decide
theorem FD(Φ:aV)(l:R_ (Φ 7))(o:lT (Φ 20)):tT (mk Φ 1 1 og):=by
 intro k n a I;have r:=I.n2;have m:=o k n a I;have g:aO bo (bV n a)=bV n a:=by simp[bV]
 have f:aO bt (bV n a)=bV n a:=by simp[bV]
 have p:D.tup ([1,1].map D.int)=qD 1:=rfl;have d:D.tup [.int 1,.int 1]=qD 1:=rfl;have h:bG Φ G4 [some (bV n a)]=ok (.lst .ow ((gM n a).map yd)):=by
  unfold G4;rw[bW (xs:=[.lst .ow (bj (gM n a))]) (items:=(gM n a).map qD) (ds:=(gM n a).map yd) (by simp[g,f,m]) (by rw[cA];simp;rfl) (bH λq i=>⟨[some (qD q)],by simp[bF],by simp,?_⟩) (by simp;exact bL (by left))]
  ·rw[zS]
  ·obtain⟨j,_,rfl⟩:=nM i;have s:=BF I j j;generalize aR a j j=q at *;have c:fi .gt (.int q.num) (.int 0)=ok (.bl (decide (0<q))):=by
    show ok (D.bl (decide ((0:Int)<q.num)))=_;rw[decide_eq_decide.mpr (uR q)]
   unfold yd;by_cases b:0<q
   ·have e:=l.1 1 q (Ux.mono (by decide)) (s.mono (by decide)) (by grind);simp[c,b,d,e]
   ·simp[c,b]
 simp[mk_eq,og,AM Φ G4 _ rfl,h]
noncomputable def HC:ai:=[.ifs (.or [(.not (.qZ (.v 0) .list)),(.cmp .ne (.bf .len [(.v 0)]) (.v 1))]) [.rs 9] [],.fr (.nm 2) (.seq (.v 0)) [.ex (.call 17 [(.v 2)])]]
def Nf(m:aw):Prop:=∀a:List Dw,(∀d∈a,∃k,Dr k d.1 d.2)->m [.lst .fz (aU .fz a),.int a.length]=ok .cq
theorem zh(Φ:aV)(g:cF (Φ 17))(b a:aH):∀(Ds:List Dw) (c:aH),(∀d∈Ds,∃k,Dr k d.1 d.2)->∃f,d9 (λd e=>cB (.nm 2) d e) (λe=>b8 Φ [.ex (.call 17 [(.v 2)])] e) (aU .fz Ds) [b,a,c]=ok (.nx,[b,a,f])
 |[],c,_=>⟨c,rfl⟩
 |d::Ds,c,h=>by
  obtain⟨k,l⟩:=h d aae;have m:Φ 17 [cj .fz d]=ok .cq:=g k d.1 d.2 l;obtain⟨f,i⟩:=zh Φ g b a Ds (some (cj .fz d)) λx j=>h x (aac _ j);refine⟨f,cS (ρ1:=[b,a,some (cj .fz d)]) (by simp) (ρ2:=[b,a,some (cj .fz d)]) ?_ i⟩;simp[b9,m]
theorem UK(Φ:aV)(g:cF (Φ 17)):Nf (mk Φ 2 3 HC):=by
 intro a j;obtain⟨l,k⟩:=zh Φ g (some (.lst .fz (aU .fz a))) (some (.int a.length)) a none j;have h:=tq .fz a;have c:cC Φ (.seq (.v 0)) [some (.lst .fz (aU .fz a)),some (.int a.length),none]=ok (aU .fz a,[some (.lst .fz (aU .fz a)),some (.int a.length),none]):=by
  rw[pf (f:=.fz) (ds:=aU .fz a) (by simp[bz]),bz,il (by rfl)];rfl
 have i:=fb (Φ:=Φ) (t:=.nm 2) (b:=[.ex (.call 17 [(.v 2)])]) c k;have e:∀f d,dO .list (.lst f d)=true:=λ_ _=>rfl;generalize aU .fz a=X at *;simp[mk_eq,HC,e,i,h]
theorem Ei:∀{a:Int} {Ds:List Dw} {i:Nat} {d:Dw},Ds[i]?=some d->(aQ a Ds)[i]?=some (d.2.map λr=>(r.1,fK (a+cp (Ds.take i)) r.2))
 |a,d::Ds,0,e,h=>by cases h;simp[aQ,cp]
 |a,d::Ds,i+1,e,h=>by
  have b:=Ei (a:=a+d.1) (Ds:=Ds) (i:=i) h;have:a+cp ((d::Ds).take (i+1))=a+d.1+cp (Ds.take i):=by simp[cp];left
  rw[this];exact b
theorem pT{Ds:List Dw}{g:Int}(d:0<=g)(c:g<(Ds.length:Int)):(aQ 0 Ds).getD g.toNat []=(Ds.getD g.toNat (0,[])).2.map λr=>(r.1,fK (cp (Ds.take g.toNat)) r.2):=by
 have b:g.toNat<Ds.length:=by left
 have:=Ei (a:=0) (aas b);rw[List.getD_eq_getElem?_getD,this,Int.zero_add];simp[b]
theorem y_{Ds:List Dw}:∀{gs:aa} {C:ae},(∀g∈gs,0<=g/\g<(Ds.length:Int))->lJ Ds (C.length:Int) gs=((jd C (bN (aQ 0 Ds) gs)).length:Int)
 |[],_,_=>rfl
 |g::gs,C,h=>by
  obtain⟨c,b⟩:=h g aae;have a:=y_ (Ds:=Ds) (gs:=gs) (C:=bJ C ((aQ 0 Ds).getD g.toNat [])) λx d=>h x (aac _ d);rw[iu,pT c b,List.length_map,Int.natCast_mul]at a;show lJ Ds ((C.length:Int)*((Ds.getD g.toNat (0,[])).2.length:Int)) gs=((jd (bJ C ((aQ 0 Ds).getD g.toNat [])) (bN (aQ 0 Ds) gs)).length:Int)
  rw[a,pT c b]
theorem lK{Ds:List Dw}:∀{gs:ae},TN Ds gs->vG Ds gs=((allR (aQ 0 Ds) gs).length:Int)
 |[],_=>rfl
 |r::gs,h=>by
  have a:=lK (Ds:=Ds) (gs:=gs) λx b=>h x (aac _ b);have e:=y_ (Ds:=Ds) (gs:=r.2) (C:=[(r.1,[])]) (h r aae);unfold vG allR at *;rw[List.map_cons,List.sum_cons,a,List.flatMap_cons,List.length_append,Int.natCast_add,<- e];rfl
theorem rX{Ds:List Dw}{i j:Nat}(h:i<=j):cp (Ds.take i)<=cp (Ds.take j):=by
 induction Ds generalizing i j with
 |nil=>simp
 |cons d Ds a =>
  cases i with
  |zero =>
   have:∀l:List Dw,0<=cp l:=λl=>by
    induction l with
    |nil=>simp[cp]
    |cons d l a=>simp[cp]at *;left
   have:=this ((d::Ds).take j);simpa [cp]using this
  |succ i=>cases j with
   |zero=>left
   |succ j =>
    have:=a (i:=i) (j:=j) (by left);simp[cp]at *;left
theorem oJ{Ds:List Dw}{i:Nat}{d:Dw}(h:Ds[i]?=some d):cp (Ds.take (i+1))=cp (Ds.take i)+d.1:=by
 have:Ds.take (i+1)=Ds.take i++[d]:=by rw[List.take_add_one,h];rfl
 rw[this];simp[cp]
theorem uJ{Ds:List Dw}(m:∀d∈Ds,(d.2.map (·.2)).Nodup/\∀r∈d.2,Jk d.1 r.2):∀{gs:aa} {j:Nat},gs.Pairwise (· < ·)->(∀g∈gs,(j:Int)<=g/\g<(Ds.length:Int))->∃c,Lay (cp (Ds.take j)) c (bN (aQ 0 Ds) gs)
 |[],j,_,_=>⟨_,.nil _⟩
 |g::gs,j,hp,h=>by
  obtain⟨E,A⟩:=h g aae;obtain⟨o,n⟩:=List.pairwise_cons.mp hp;have l:g.toNat<Ds.length:=by left
  have z:=aas l;obtain⟨q,p⟩:=m _ (abh l);have D:=oJ z;have w:=rX (Ds:=Ds) (i:=j) (j:=g.toNat) (by left);obtain⟨c,t⟩:=uJ m (gs:=gs) (j:=g.toNat+1) n λx k=>⟨by have:=o x k;left,(h x (aac _ k)).2⟩
  refine⟨c,?_⟩;show Lay _ c ((aQ 0 Ds).getD g.toNat []::bN (aQ 0 Ds) gs);rw[pT (by left) A];have B:Ds.getD g.toNat (0,[])=Ds[g.toNat]:=by simp[l]
  rw[B];generalize cp (Ds.take g.toNat)=a at *;refine .cons (b:=cp (Ds.take (g.toNat+1))) (by left) ?_ (λr v=>?_) t
  ·rw[List.map_map];have:((λx:Row=>x.2)∘λr:Row=>(r.1,fK a r.2))=fK a∘(·.2):=rfl;rw[this,<- List.map_map];exact q.map (f:=fK a) λx y (k:x≠y) e=>k (ya e)
  ·obtain⟨s,C,rfl⟩:=List.mem_map.mp v;intro x k;obtain⟨y,u,rfl⟩:=List.mem_map.mp k;have:=p s C y u;left
structure AF(n:Nat)(gs:ae)(Ds:List Dw):Prop where
 nD:Ds.length=n
 n4:n<=2
 dg:Dr 8 n gs
 g5:gs.length<=4
 dr:∀d∈Ds,Dr 8 d.1 d.2/\d.2.length<=6/\1<=d.2.length/\d.1<=3
theorem B3(a b:ae)(l:aa):df (a++b) l=df a l++df b l:=by unfold df;rw[List.filter_append,List.map_append]
section
variable {n:Nat}{gs:ae}{Ds:List Dw}(K:AF n gs Ds)
include K
theorem AF.NT:TN Ds gs:=λr a g b=>by rw[K.nD];exact(K.dg.lot r a).2 g b
theorem AF.Ej:∀a∈aQ 0 Ds,vT 8 12 a/\a.length<=6:=λa e=>by
 obtain⟨d,g,b,rfl⟩:=vN e;obtain⟨I,h,_,_⟩:=K.dr d g;refine⟨λr f=>?_,by rw[List.length_map];exact h⟩;obtain⟨s,c,rfl⟩:=List.mem_map.mp f;refine⟨I.sm s c,?_⟩;have:=(I.lot s c).len;have:=I.n2;show(fK b s.2).length<=12;unfold fK;rw[List.length_map];left
theorem AF.ix:∀r∈gs,∀g∈r.2,0<=g/\g<((aQ 0 Ds).length:Int):=λr a g b=>by rw[fj];exact K.NT r a g b
theorem AF.rl:∀r∈gs,r.2.length<=2:=λr a=>by have:=(K.dg.lot r a).len;have:=K.n4;left
theorem AF.oc:∀r∈gs,Ip 1 (bN (aQ 0 Ds) r.2):=λr a=>KO (λb c=>(K.Ej b (js (K.ix r a) c)).2) (by
 have:(bN (aQ 0 Ds) r.2).length=r.2.length:=aaO ..;rw[this,Nat.one_mul];exact aar (aaj (by decide) (K.rl r a)) (by decide))
theorem AF.one:∀r∈gs,((jd [(r.1,[])] (bN (aQ 0 Ds) r.2)).map (·.2)).Nodup/\vT 30 48 (jd [(r.1,[])] (bN (aQ 0 Ds) r.2))/\(jd [(r.1,[])] (bN (aQ 0 Ds) r.2)).length<=36:=λr a=>by
 have f:(bN (aQ 0 Ds) r.2).length=r.2.length:=aaO ..;have rl:=K.rl r a;refine⟨?_,?_,?_⟩
 ·obtain⟨c,L⟩:=uJ (Ds:=Ds) (λd o=>⟨jo (K.dr d o).1.rise,λr a=>((K.dr d o).1.lot r a).2⟩) (gs:=r.2) (j:=0) (K.dg.lot r a).1 λg u=>K.NT r a g u;exact(Ed L (c:=[(r.1,[])]) (by simp[cp]) (by simp) λm t=>by rw[List.mem_singleton.mp t];exact λ_ h=>nomatch h).1
 ·intro x p;have h:=Ec (k:=8) (l:=0) (i:=8) (j:=12) (c:=[(r.1,[])]) (LL:=bN (aQ 0 Ds) r.2) (λs q=>by rw[List.mem_singleton.mp q];exact⟨K.dg.sm r a,aal _⟩) (λb e=>(K.Ej b (js (K.ix r a) e)).1) x p;rw[f]at h;exact⟨h.1.mono (by left),by left⟩
 ·have h:=pS (LL:=bN (aQ 0 Ds) r.2) (C:=[(r.1,[])]) λb e=>(K.Ej b (js (K.ix r a) e)).2;rw[f,List.length_singleton,Nat.one_mul]at h;exact aar h (aaj (by decide) rl)
theorem AF.prt(l:aa):tY 30 (df (allR (aQ 0 Ds) gs) l):=by
 have go:∀a:ae,(∀r∈a,r∈gs)->(df (allR (aQ 0 Ds) a) l).length<=a.length/\∀q∈df (allR (aQ 0 Ds) a) l,Sm 30 q:=λa=>by
  induction a with
  |nil=>intro _;exact⟨aal _,λ_ h=>nomatch h⟩
  |cons r a i =>
   intro d;obtain⟨m,j⟩:=i λx c=>d x (aac _ c);obtain⟨g,f,_⟩:=K.one r (d r aae);have e:allR (aQ 0 Ds) (r::a)=jd [(r.1,[])] (bN (aQ 0 Ds) r.2)++allR (aQ 0 Ds) a:=by unfold allR;rw[List.flatMap_cons]
   rw[e,B3];have:=uH g l;refine⟨by rw[List.length_append,List.length_cons];left,λq b=>?_⟩;rcases List.mem_append.mp b with b|b
   ·obtain⟨x,c,rfl⟩:=List.mem_map.mp b;exact(f x (List.mem_filter.mp c).1).1
   ·exact j q b
 obtain⟨o,k⟩:=go gs λ_ h=>h;have:=K.g5;exact⟨k,by left,by left⟩
theorem AF.UN:cp Ds<=12:=by
 have h:∀l:List Dw,(∀d∈l,d.1<=3)->cp l<=3*(l.length:Int):=λl=>by
  induction l with
  |nil=>intro _;simp[cp]
  |cons d l b =>
   intro a;have i:=b λx c=>a x (aac _ c);have:=a d aae;simp[cp]at *;left
 have:=h Ds λd a=>(K.dr d a).2.2.2;have:=K.n4;have:=K.nD;left
end
noncomputable def Ek:ai:=[.ex (.call 17 [(.v 0)]),.ex (.call 97 [(.v 1),(.ix (.v 0) (.int 0))]),.ex (.call 98 [(.v 0),(.v 1)]),.ret (.call 102 [(.v 0),(.v 1)])]
def RY(m:aw):Prop:=∀n b a,AF n b a->vG a b<64->m [bV n b,.lst .fz (aU .fz a)]=ok (.tup [.int (cp a),.lst .ow (bg (bq (allR (aQ 0 a) b)))])
variable {A gs:ae}
theorem Jr(Φ:aV)(h:cF (Φ 17))(k:Nf (Φ 97)){n:Nat}{Ds:List Dw}(K:AF n gs Ds):mT Φ (.ex (.call 17 [(.v 0)])) [some (bV n gs),some (.lst .fz (aU .fz Ds))]=ok (.nx,[some (bV n gs),some (.lst .fz (aU .fz Ds))])/\mT Φ (.ex (.call 97 [(.v 1),(.ix (.v 0) (.int 0))])) [some (bV n gs),some (.lst .fz (aU .fz Ds))]=ok (.nx,[some (bV n gs),some (.lst .fz (aU .fz Ds))])/\cJ Φ [(.v 0),(.v 1)] [some (bV n gs),some (.lst .fz (aU .fz Ds))]=ok [bV n gs,.lst .fz (aU .fz Ds)]/\aA bo [bV n gs,.lst .fz (aU .fz Ds)]=[bV n gs,.lst .fz (aU .fz Ds)]:=by
 have j:=h 8 n gs K.dg;have e:=k Ds λd i=>⟨8,(K.dr d i).1⟩
 rw[K.nD]at e;have a:aO bt (bV n gs)=bV n gs:=by simp[bV]
 have c:aO bo (bV n gs)=bV n gs:=by simp[bV]
 have g:mq (bV n gs) (.int 0)=ok (.int n):=by simp[bV]
 have b:aA bt (aU .fz Ds)=aU .fz Ds:=by rw[bz];rfl
 have f:aA bo (aU .fz Ds)=aU .fz Ds:=by rw[bz];rfl
 generalize aU .fz Ds=X at *;generalize bV n gs=Y at *;exact⟨by simp[a,c,j],by simp[a,b,f,g,e],by simp[a,b],by simp[c,f]⟩
theorem Uz(Φ:aV)(o:cF (Φ 17))(y:Nf (Φ 97))(z:Nh (Φ 98))(B:Nb (Φ 102)):RY (mk Φ 2 2 Ek):=by
 intro n gs a K F;have C:=K.nD;have s:=K.n4;have G:=K.g5;obtain⟨m,k,h,f⟩:=Jr Φ o y K;have u:=z n gs a (by left) (by left) (λd b=>by have:=(K.dr d b).2.1;left) K.NT K.UN (by left);have E:=lK K.NT;have t:=B n gs a ⟨K.ix,λr c=>⟨K.dg.sm r c,by have:=K.rl r c;left⟩,K.oc,λe g=>⟨(K.Ej e g).1,by have:=(K.Ej e g).2;left⟩,by left⟩ (by left) (λd b=>⟨by have:=(K.dr d b).2.1;left,λr c=>by have:=((K.dr d b).1.lot r c).len;have:=(K.dr d b).1.n2;left⟩) λl=>⟨30,K.prt l⟩
 have p:aP b6 (bg (bq (allR (aQ 0 a) gs)))=false:=fg _ _;have q:aA iK (bg (bq (allR (aQ 0 a) gs)))=bg (bq (allR (aQ 0 a) gs)):=bZ _ _;generalize bg (bq (allR (aQ 0 a) gs))=R at *;generalize aU .fz a=X at *;generalize bV n gs=Y at *;rw[mk_eq (show[Y,D.lst .fz X].length=2 from rfl)];show pM (b8 Φ Ek [some Y,some (.lst .fz X)])=_;have x:bG Φ (.call 98 [(.v 0),(.v 1)]) [some Y,some (.lst .fz X)]=ok .cq:=by
  show bd (cJ Φ [(.v 0),(.v 1)] _) _=_;rw[h,cZ,f,u];rfl
 have w:bG Φ (.call 102 [(.v 0),(.v 1)]) [some Y,some (.lst .fz X)]=ok (.tup [.int (cp a),.lst .ow R]):=by
  show bd (cJ Φ [(.v 0),(.v 1)] _) _=_;rw[h,cZ,f,t];simp[q]
 rw[Ek,dB,m,hZ,dB,k,hZ,dB];have j:mT Φ (.ex (.call 98 [(.v 0),(.v 1)])) [some Y,some (.lst .fz X)]=ok (.nx,[some Y,some (.lst .fz X)]):=by rw[TX,x];rfl
 rw[j,hZ,dB];have i:mT Φ (.ret (.call 102 [(.v 0),(.v 1)])) [some Y,some (.lst .fz X)]=ok (.rt (.tup [.int (cp a),.lst .ow R]),[some Y,some (.lst .fz X)]):=by
  rw[Oc,AM Φ (.call 102 [(.v 0),(.v 1)]) _ rfl,w];simp[p]
 rw[i];rfl
section
variable {α:Type}
theorem wt(f g:α->Rat):∀l:List α,(l.map λx=>f x+g x).sum=(l.map f).sum+(l.map g).sum
 |[]=>by show(0:Rat)=0+0;grind
 |x::l=>by rw[List.map_cons,List.map_cons,List.map_cons,List.sum_cons,List.sum_cons,List.sum_cons,wt f g l];grind
theorem wo(c:Rat)(f:α->Rat):∀l:List α,(l.map λx=>c*f x).sum=c*(l.map f).sum
 |[]=>by show(0:Rat)=c*0;grind
 |x::l=>by rw[List.map_cons,List.map_cons,List.sum_cons,List.sum_cons,wo c f l];grind
theorem rZ{f:α->Rat}:∀{l:List α},(∀x∈l,f x=0)->(l.map f).sum=0
 |[],_=>rfl
 |x::l,h=>by rw[List.map_cons,List.sum_cons,h x List.mem_cons_self,rZ λy a=>h y (List.mem_cons_of_mem _ a)];grind
theorem Ie{f:α->Rat}:∀{l:List α},(∀x∈l,0<=f x)->0<=(l.map f).sum
 |[],_=>acB
 |x::l,h=>by
  rw[List.map_cons,List.sum_cons];have c:=h x aae;have b:=Ie λy a=>h y (aac _ a);grind
theorem wq{a:Type}[DecidableEq a](y:a)(F:a->Rat):∀{cs:List a},cs.Nodup->(cs.map λc=>if y=c then F c else 0).sum=if y∈cs then F y else 0
 |[],_=>by simp
 |c::cs,h=>by
  obtain⟨d,b⟩:=List.nodup_cons.mp h;rw[List.map_cons,List.sum_cons,wq y F b];by_cases e:y=c
  ·subst e;rw[if_pos rfl,if_neg d,if_pos List.mem_cons_self];grind
  ·rw[if_neg e];by_cases m:y∈cs
   ·rw[if_pos m,if_pos (List.mem_cons_of_mem _ m)];grind
   ·rw[if_neg m,if_neg λz=>(List.mem_cons.mp z).elim e m];grind
theorem sy{a:Type}[DecidableEq a](s:α->a)(f:α->Rat)(F:a->Rat){cs:List a}(b:cs.Nodup):∀(l:List α),(∀x∈l,s x∈cs)->(cs.map λc=>F c*(l.map λx=>if s x=c then f x else 0).sum).sum=(l.map λx=>F (s x)*f x).sum
 |[],_=>by
  rw[List.map_nil,List.sum_nil];exact rZ λc _=>by simp
 |x::l,h=>by
  have d:=sy s f F b l λy g=>h y (aac _ g);rw[List.map_cons,List.sum_cons,<- d];have i:(cs.map λc=>F c*((x::l).map λx=>if s x=c then f x else 0).sum).sum=(cs.map λc=>(if s x=c then F c*f x else 0)+F c*(l.map λx=>if s x=c then f x else 0).sum).sum:=by
   congr 1;refine aak λc _=>?_;rw[List.map_cons,List.sum_cons];by_cases e:s x=c
   ·rw[if_pos e,if_pos e];grind
   ·rw[if_neg e,if_neg e];grind
  rw[i,wt,wq (s x) (λc=>F c*f x) b,if_pos (h x List.mem_cons_self)]
end
noncomputable def mo(rs:ae)(F:aa->Rat):Rat:=(rs.map λr=>r.1*F r.2).sum
@[simp]theorem wJ(F:aa->Rat):mo [] F=0:=rfl
theorem jS(r:Row)(rs:ae)(F:aa->Rat):mo (r::rs) F=r.1*F r.2+mo rs F:=rfl
theorem Ct(a b:ae)(F:aa->Rat):mo (a++b) F=mo a F+mo b F:=by unfold mo;rw[List.map_append,List.sum_append]
theorem ll{rs:ae}{F G:aa->Rat}(h:∀r∈rs,F r.2=G r.2):mo rs F=mo rs G:=by
 unfold mo;congr 1;exact aak λr a=>by rw[h r a]
theorem jt(rs:ae)(F G:aa->Rat):mo rs (λl=>F l+G l)=mo rs F+mo rs G:=by
 unfold mo;rw[<- wt];congr 1;exact aak λr _=>by grind
theorem gN(c:Rat)(rs:ae)(F:aa->Rat):mo rs (λl=>c*F l)=c*mo rs F:=by
 unfold mo;rw[<- wo];congr 1;exact aak λr _=>by grind
theorem kD(rs:ae):mo rs (λ_=>1)=(rs.map (·.1)).sum:=by unfold mo;congr 1;exact aak λr _=>by grind
theorem Cs(p:Rat)(q:aa)(F:aa->Rat):∀B:ae,mo (B.map λr=>(p*r.1,q++r.2)) F=p*mo B λl=>F (q++l)
 |[]=>by show(0:Rat)=p*0;grind
 |r::B=>by rw[List.map_cons,jS,jS,Cs p q F B];grind
theorem lj(B:ae)(F:aa->Rat):∀c:ae,mo (bJ c B) F=mo c λq=>mo B λl=>F (q++l)
 |[]=>rfl
 |m::c=>by
  have e:bJ (m::c) B=(B.map λr=>(m.1*r.1,m.2++r.2))++bJ c B:=by unfold bJ;rw[List.flatMap_cons]
  rw[e,Ct,Cs,lj B F c,jS]
theorem ui(a b:aa)(f:Int->Rat):bh (a++b) f=bh a f+bh b f:=by unfold bh;rw[List.map_append,List.sum_append]
def eQ(f:Int->Rat)(rs:ae):Rat:=mo rs λl=>bh l f
def vQ(f:Int->Rat)(rs:ae):Rat:=(mo rs λl=>bh l f*bh l f) - eQ f rs*eQ f rs
theorem I9(f:Int->Rat):∀(LL:List (ae)) (c:ae) (s m v:Rat),(∀a∈LL,(mo a λ_=>1)=1)->(mo c λ_=>1)=s->(mo c λl=>bh l f)=s*m->(mo c λl=>bh l f*bh l f)=s*(m*m+v) ->
  (mo (jd c LL) λ_=>1)=s/\(mo (jd c LL) λl=>bh l f)=s*(m+(LL.map (eQ f)).sum) /\
  (mo (jd c LL) λl=>bh l f*bh l f)=s*((m+(LL.map (eQ f)).sum)*(m+(LL.map (eQ f)).sum)+(v+(LL.map (vQ f)).sum))
 |[],c,s,m,v,_,h0,h1,h2=>by
  refine⟨h0,?_,?_⟩
  ·show(mo c λl=>bh l f)=s*(m+0);grind
  ·show(mo c λl=>bh l f*bh l f)=s*((m+0)*(m+0)+(v+0));grind
 |B::LL,c,s,m,v,hm,h0,h1,h2=>by
  have b:=hm B aae;have k:(mo (bJ c B) λ_=>1)=s:=by rw[lj,b];exact h0
  have a1:∀q:aa,(mo B λl=>bh (q++l) f)=bh q f+eQ f B:=λq=>by
   have:(λl=>bh (q++l) f)=λl=>bh q f*(λ_=>(1:Rat)) l+bh l f:=by funext l;rw[ui];grind
   rw[this,jt,gN,b];unfold eQ;grind
  have j:(mo (bJ c B) λl=>bh l f)=s*(m+eQ f B):=by
   rw[lj];have:(λq=>mo B λl=>bh (q++l) f)=λq=>bh q f+eQ f B*(λ_=>(1:Rat)) q:=by funext q;rw[a1];grind
   rw[this,jt,gN,h1,h0];grind
  have i:(mo (bJ c B) λl=>bh l f*bh l f)=s*((m+eQ f B)*(m+eQ f B)+(v+vQ f B)):=by
   rw[lj];have:(λq=>mo B λl=>bh (q++l) f*bh (q++l) f)=λq=>bh q f*bh q f+(2*eQ f B*bh q f+(mo B λl=>bh l f*bh l f)*(λ_=>(1:Rat)) q):=by
    funext q;have:(λl=>bh (q++l) f*bh (q++l) f)=λl=>(bh q f*bh q f)*(λ_=>(1:Rat)) l+(2*bh q f*bh l f+bh l f*bh l f):=by funext l;rw[ui];grind
    rw[this,jt,gN,b,jt,gN];unfold eQ;grind
   rw[this,jt,jt,gN,gN,h2,h1,h0];unfold vQ;grind
  obtain⟨g,e,d⟩:=I9 f LL (bJ c B) s (m+eQ f B) (v+vQ f B) (λa h=>hm a (aac _ h)) k j i;refine⟨g,?_,?_⟩
  ·rw[show jd c (B::LL)=jd (bJ c B) LL from rfl,e,List.map_cons,List.sum_cons];grind
  ·rw[show jd c (B::LL)=jd (bJ c B) LL from rfl,d,List.map_cons,List.sum_cons,List.map_cons,List.sum_cons];grind
theorem nL{b:Type}(g:b->ae)(F:aa->Rat):∀l:List b,mo (l.flatMap g) F=(l.map λa=>mo (g a) F).sum
 |[]=>rfl
 |a::l=>by rw[List.flatMap_cons,Ct,nL g F l,List.map_cons,List.sum_cons]
theorem Ep(f:Int->Rat){LL:List (ae)}(e:∀c∈LL,(mo c λ_=>1)=1)(i:∀r∈gs,∀g∈r.2,0<=g/\g<(LL.length:Int)):
  (mo (allR LL gs) λ_=>1)=(mo gs λ_=>1)/\eQ f (allR LL gs)=eQ (λg=>eQ f (LL.getD g.toNat [])) gs /\
  (mo (allR LL gs) λl=>bh l f*bh l f)=(mo gs λl=>bh l (λg=>eQ f (LL.getD g.toNat []))*bh l (λg=>eQ f (LL.getD g.toNat [])))+eQ (λg=>vQ f (LL.getD g.toNat [])) gs:=by
 have a:∀r∈gs,_:=λr b=>I9 f (bN LL r.2) [(r.1,[])] r.1 0 0 (λc h=>e c (js (i r b) h)) (by rw[jS,wJ];grind) (by rw[jS,wJ];show r.1*bh [] f+0=_;rw[ug];grind) (by rw[jS,wJ];show r.1*(bh [] f*bh [] f)+0=_;rw[ug];grind);have d:∀(h:ae->Rat) (l:aa),((bN LL l).map h).sum=bh l λg=>h (LL.getD g.toNat []):=λh l=>by unfold bN bh;rw[List.map_map];rfl
 unfold allR;refine⟨?_,?_,?_⟩
 ·rw[nL,kD];congr 1;exact aak λr b=>by rw[(a r b).1]
 ·unfold eQ;rw[nL];unfold mo;congr 1;exact aak λr b=>by
   have:=(a r b).2.1;unfold mo at this;rw[this,d];unfold eQ mo;grind
 ·rw[nL];unfold eQ;rw[<- jt];unfold mo;congr 1;exact aak λr b=>by
   have:=(a r b).2.2;unfold mo at this;rw[this,d,d];unfold eQ mo;grind
theorem yk(rows:ae)(l:aa):(df rows l).sum=(rows.map λr=>if r.2=l then r.1 else 0).sum:=by
 unfold df;induction rows with
 |nil=>rfl
 |cons r rows a =>
  rw[List.filter_cons,List.map_cons,List.sum_cons,<- a];by_cases h:r.2=l
  ·rw[if_pos h,if_pos (by simpa using h),List.map_cons,List.sum_cons]
  ·rw[if_neg h,if_neg (by simpa using h)];grind
theorem sD(rows:ae)(F:aa->Rat):mo (bq rows) F=mo rows F:=by
 obtain⟨d,b,_⟩:=fO rows [] aaA;have a:(bK (cU rows)).Perm (cU rows):=aaB _ _;have f:(bK (cU rows)).Nodup:=(a.nodup_iff).mpr d;have r:=sy (λr:Row=>r.2) (λr:Row=>r.1) F f rows λx e=>(a.mem_iff).mpr ((b _).mpr (.inr (aaq e)));unfold mo bq;rw[List.map_map];have g:(bK (cU rows)).map ((λr:Row=>r.1*F r.2)∘λl=>((df rows l).sum,l))=(bK (cU rows)).map λc=>F c*(rows.map λx=>if x.2=c then x.1 else 0).sum:=aak λl _=>by
  show(df rows l).sum*F l=_;rw[yk];grind
 rw[g,r];congr 1;exact aak λx _=>by grind
theorem Gf{l:aa}(h:ou 2 l):l=[]\/l=[0]\/l=[1]\/l=[0,1]:=by
 obtain⟨p,b⟩:=h
 match l,p,b with
 |[],_,_=>exact .inl rfl
 |[x],_,b =>
  have:=b x (by simp);have:x=0\/x=1:=by left
  rcases this with rfl|rfl
  ·exact .inr (.inl rfl)
  ·exact .inr (.inr (.inl rfl))
 |[x,y],p,b =>
  have e:=b x (by simp);have k:=b y (by simp);have d:x<y:=(List.pairwise_cons.mp p).1 y (by simp);have g:x=0:=by left
  have f:y=1:=by left
  subst g;subst f;exact .inr (.inr (.inr rfl))
 |x::y::z::l,p,b =>
  have e:=b x (by simp);have d:=b z (by simp);obtain⟨c,a⟩:=List.pairwise_cons.mp p;have j:x<y:=c y (by simp);have i:y<z:=(List.pairwise_cons.mp a).1 z (by simp);left
theorem rW(L:aa->Nat):∀(a cs:az),a.Nodup->(∀l∈a,l∈cs)->(a.map L).sum<=(cs.map L).sum
 |[],_,_,_=>aaH _
 |l::a,cs,hn,hs=>by
  obtain⟨f,e⟩:=List.nodup_cons.mp hn;have d:=hs l aae;have g:=rW L a (cs.erase l) e λx b=>(List.mem_erase_of_ne λ(z:x=l)=>f (z▸b)).mpr (hs x (aac _ b));have c:=((List.perm_cons_erase d).map L).sum_nat;rw[c,List.map_cons,List.sum_cons,List.map_cons,List.sum_cons];left
section
variable {gs A B:ae}
theorem Pp{l:aa}(h:ou 2 l)(p:Rat){z:Row}(hz:z∈jd [(p,[])] (bN [A,B] l)):∃a b:Row,(a=(1,[])\/a∈A)/\(b=(1,[])\/b∈B)/\z=(p*a.1*b.1,a.2++b.2):=by
 rcases Gf h with rfl|rfl|rfl|rfl
 ·have:z=(p,[]):=by simpa [bN,jd]using hz
  exact⟨_,_,.inl rfl,.inl rfl,by rw[this];simp⟩
 ·obtain⟨m,d,r,c,rfl⟩:=eN.mp (show z∈bJ [(p,[])] A from hz);rw[List.mem_singleton.mp d];exact⟨r,_,.inr c,.inl rfl,by simp⟩
 ·obtain⟨m,d,r,c,rfl⟩:=eN.mp (show z∈bJ [(p,[])] B from hz);rw[List.mem_singleton.mp d];exact⟨_,r,.inl rfl,.inr c,by simp⟩
 ·obtain⟨m,d,r,c,rfl⟩:=eN.mp (show z∈bJ (bJ [(p,[])] A) B from hz);obtain⟨g,e,r2,f,rfl⟩:=eN.mp d;rw[List.mem_singleton.mp e];exact⟨r2,r,.inr f,.inr c,by simp⟩
theorem all2(d:∀r∈gs,ou 2 r.2){z:Row}(hz:z∈allR [A,B] gs):∃r∈gs,∃a b:Row,(a=(1,[])\/a∈A)/\(b=(1,[])\/b∈B)/\z=(r.1*a.1*b.1,a.2++b.2):=by
 unfold allR at hz;obtain⟨r,c,hz⟩:=List.mem_flatMap.mp hz;obtain⟨a,b,h⟩:=Pp (d r c) r.1 hz;exact⟨r,c,a,b,h⟩
theorem P8(c:∀r∈gs,ou 2 r.2)(f:(gs.map (·.2)).Nodup)(i:A.length<=6)(g:B.length<=6):(allR [A,B] gs).length<64:=by
 let L:aa->Nat:=λl=>(jd [((1:Rat),[])] (bN [A,B] l)).length
 have d:∀(p:Rat) (l:aa),ou 2 l->(jd [(p,[])] (bN [A,B] l)).length=L l:=λp l b=>by
  rcases Gf b with rfl|rfl|rfl|rfl<;>simp[L,bN,jd,iu]
 have e:(allR [A,B] gs).length=((gs.map (·.2)).map L).sum:=by
  unfold allR;rw[List.length_flatMap,List.map_map];congr 1;exact aak λr a=>d r.1 r.2 (c r a)
 have h:=rW L (gs.map (·.2)) [[],[0],[1],[0,1]] f λl b=>by
  obtain⟨r,a,rfl⟩:=List.mem_map.mp b;rcases Gf (c r a)with h|h|h|h<;>rw[h]<;>simp
 have j:([[],[0],[1],[0,1]].map L).sum=1+(A.length+(B.length+A.length*B.length)):=by simp[L,bN,jd,iu]
 rw[e];have:A.length*B.length<=6*6:=aaY i g;left
end
theorem gE{p q:Rat}{a b:Nat}(h:p.den∣a)(h':q.den∣b):(p*q).den∣a*b:=Nat.dvd_trans (by rw[Rat.den_mul];exact Nat.div_dvd_of_dvd (Nat.gcd_dvd_right _ _)) (Nat.mul_dvd_mul h h')
theorem jC:∀{qs:aC},(∀q∈qs,q.den∣W)->0<W->qs.sum.den∣W:=λ{qs} h c=>by
 have a:=nB (b:=W) (qs:=qs) c h;rw[<- a];have:=iM (t:=(qs.map (bw W)).sum) (b:=(W:Int)) (by left);simpa using this
structure mW(d:Dw)(W:Nat):Prop where
 dr:Dr 8 d.1 d.2
 pI:d.2.length<=6
 n3:d.1<=3
 w0:0<W
 w8:W<2 ^ 8
 wd:∀r∈d.2,r.1.den∣W
theorem mW.one{d:Dw}{W:Nat}(T:mW d W):1<=d.2.length:=by
 have h:=T.dr.one;cases e:d.2 with
 |nil=>rw[e]at h;exact absurd h (by decide)
 |cons r a=>simp
theorem uO(rows:ae):(bq rows).length=(cU rows).length:=by unfold bq;rw[List.length_map];exact(aaB _ _).length_eq
theorem lp{rows:ae}{r:Row}(h:r∈bq rows):r.2∈rows.map (·.2)/\r.1=(df rows r.2).sum:=by
 unfold bq at h;obtain⟨l,b,rfl⟩:=List.mem_map.mp h;obtain⟨_,a,_⟩:=fO rows [] aaA;have:=((aaB _ _:(bK (cU rows)).Perm (cU rows)).mem_iff).mp b;exact⟨((a l).mp this).resolve_left (by simp),rfl⟩
section
variable {gs:ae}{d e:Dw}{Wg Wd We:Nat}(Tg:mW (2,gs) Wg)(Td:mW d Wd)(Te:mW e We)
include Tg Td Te
theorem XS:AF 2 gs [d,e]/\vG [d,e] gs<64:=by
 have c:=jo Tg.dr.rise;have K:AF 2 gs [d,e]:=⟨rfl,aal _,Tg.dr,by
  have h:=rW (λ_=>1) (gs.map (·.2)) [[],[0],[1],[0,1]] c λl f=>by
   obtain⟨r,b,rfl⟩:=List.mem_map.mp f;rcases Gf (Tg.dr.lot r b)with h|h|h|h<;>rw[h]<;>simp
  have e:((gs.map (·.2)).map λ_=>1).sum=gs.length:=by rw[List.map_map];simp[Function.comp_def,List.map_const']
  rw[e]at h;simpa using h,λx a=>by
  rcases List.mem_cons.mp a with rfl|a
  ·exact⟨Td.dr,Td.pI,Td.one,Td.n3⟩
  ·rw[List.mem_singleton.mp a];exact⟨Te.dr,Te.pI,Te.one,Te.n3⟩⟩
 refine⟨K,?_⟩;rw[lK K.NT];have:=P8 (A:=d.2.map λr=>(r.1,fK 0 r.2)) (B:=e.2.map λr=>(r.1,fK (0+d.1) r.2)) (gs:=gs) (λr b=>Tg.dr.lot r b) c (by simp;exact Td.pI) (by simp;exact Te.pI);have:(allR (aQ 0 [d,e]) gs).length<64:=this;left
theorem Cu:Dr 24 (d.1+e.1) (bq (allR (aQ 0 [d,e]) gs))/\0<Wg*Wd*We/\Wg*Wd*We<2 ^ 24/\∀r∈bq (allR (aQ 0 [d,e]) gs),r.1.den∣Wg*Wd*We:=by
 obtain⟨K,C⟩:=XS Tg Td Te;rw[lK K.NT]at C;have C:(allR (aQ 0 [d,e]) gs).length<64:=by left
 have Y:=Td.n3;have X:=Te.n3;have Z:=Td.dr.n1
 let A:ae:=d.2.map λr=>(r.1,fK 0 r.2)
 let B:ae:=e.2.map λr=>(r.1,fK (0+d.1) r.2)
 have V:aQ 0 [d,e]=[A,B]:=rfl;rw[V]at *;have p:0<Wg*Wd*We:=Nat.mul_pos (Nat.mul_pos Tg.w0 Td.w0) Te.w0;have G:Wg*Wd*We<2 ^ 24:=bu (k:=16) (l:=8) (bu (k:=8) (l:=8) Tg.w8 Td.w8) Te.w8;have N:∀z∈allR [A,B] gs,ou (d.1+e.1) z.2/\0<z.1/\z.1.den∣Wg*Wd*We:=λz S=>by
  obtain⟨r,c,a,b,E,D,rfl⟩:=all2 (λr c=>Tg.dr.lot r c) S;have a1:a.2.Pairwise (· < ·)/\(∀h∈a.2,0<=h/\h<(d.1:Int))/\0<a.1/\a.1.den∣Wd:=by
   rcases E with rfl|E
   ·exact⟨List.Pairwise.nil,(λ_ h=>by cases h),by decide,acA _⟩
   ·obtain⟨s,i,rfl⟩:=List.mem_map.mp E;have n:=Td.dr.lot s i;have U:fK 0 s.2=s.2:=by unfold fK;simp
    show(fK 0 s.2).Pairwise (· < ·)/\(∀h∈fK 0 s.2,_)/\_;rw[U];exact⟨n.1,n.2,Td.dr.pos s i,Td.wd s i⟩
  have o:b.2.Pairwise (· < ·)/\(∀h∈b.2,(d.1:Int)<=h/\h<((d.1+e.1:Nat):Int))/\0<b.1/\b.1.den∣We:=by
   rcases D with rfl|D
   ·exact⟨List.Pairwise.nil,(λ_ h=>by cases h),by decide,acA _⟩
   ·obtain⟨s,i,rfl⟩:=List.mem_map.mp D;have n:=Te.dr.lot s i;refine⟨?_,λh j=>?_,Te.dr.pos s i,Te.wd s i⟩
    ·show(fK (0+d.1) s.2).Pairwise (· < ·);unfold fK;rw[List.pairwise_map];exact n.1.imp λh=>by omega
    ·obtain⟨y,v,rfl⟩:=List.mem_map.mp (show h∈s.2.map _ from j);have:=n.2 y v;left
  refine⟨⟨?_,λh j=>?_⟩,?_,gE (gE (Tg.wd r c) a1.2.2.2) o.2.2.2⟩
  ·rw[List.pairwise_append];refine⟨a1.1,o.1,λx f y v=>?_⟩;have:=a1.2.1 x f;have:=o.2.1 y v;omega
  ·rcases List.mem_append.mp j with j|j
   ·have:=a1.2.1 h j;left
   ·have:=o.2.1 h j;left
  ·exact abG (abG (Tg.dr.pos r c) a1.2.2.1) o.2.2.1
 have hlen:(bq (allR [A,B] gs)).length<64:=by rw[uO];exact aap (ia _) C
 have I:∀l,∀q∈df (allR [A,B] gs) l,0<q/\q.den∣Wg*Wd*We:=λl q m=>by
  obtain⟨x,f,rfl⟩:=List.mem_map.mp m;exact(N x (List.mem_filter.mp f).1).2
 have H:∀r∈bq (allR [A,B] gs),0<r.1:=λr c=>by
  obtain⟨R,t⟩:=lp c;obtain⟨x,f,F⟩:=List.mem_map.mp R;rw[t];have m:x.1∈df (allR [A,B] gs) r.2:=aaq (List.mem_filter.mpr ⟨f,by simpa using F⟩);have:=(dJ (λq h=>(I _ q h).1) m).2;have:=(I _ _ m).1;grind
 have L:∀r∈bq (allR [A,B] gs),r.1.den∣Wg*Wd*We:=λr c=>by
  obtain⟨_,t⟩:=lp c;rw[t];exact jC (λq h=>(I _ q h).2) p
 have O:((bq (allR [A,B] gs)).map (·.1)).sum=1:=by
  have Q:∀M∈[A,B],(mo M λ_=>1)=1:=λM u=>by
   rw[kD];rcases List.mem_cons.mp u with rfl|u
   ·rw[List.map_map];exact Td.dr.one
   ·rw[List.mem_singleton.mp u,List.map_map];exact Te.dr.one
  rw[<- kD,sD,(Ep (λ_=>0) Q λr c g T=>(Tg.dr.lot r c).2 g T).1,kD];exact Tg.dr.one
 have w:∀r∈bq (allR [A,B] gs),r.1<=1:=λr c=>by
  rw[<- O];exact(dJ (λx f=>by obtain⟨s,i,rfl⟩:=List.mem_map.mp f;exact H s i) (aaq c)).2
 have P:∀r∈bq (allR [A,B] gs),Sm 24 r.1:=λr c=>k_ (abx (H r c)) (w r c) (aap (aba p (L r c)) G);refine⟨⟨by left,by left,⟨_,p,aah G (aaj (by decide) (by decide)),L⟩,by left,λr c=>?_,H,P,O,?_,24,⟨λq m=>?_,by unfold cc;rw[List.length_map];left,by unfold cc;rw[List.length_map];left⟩⟩,p,G,L⟩
 ·obtain⟨x,f,F⟩:=List.mem_map.mp (lp c).1;rw[<- F];exact(N x f).1
 ·have:(bq (allR [A,B] gs)).map (·.2)=bK (cU (allR [A,B] gs)):=by
   unfold bq;rw[List.map_map];exact(aak λ_ _=>rfl).trans (List.map_id _)
  rw[this];exact iE (fO _ [] aaA).1
 ·obtain⟨r,c,rfl⟩:=List.mem_map.mp m;exact P r c
theorem Cv:Dr 24 (d.1+e.1) (bq (allR (aQ 0 [d,e]) gs)):=(Cu Tg Td Te).1
end
noncomputable def dl(h x:Int):Rat:=if x=h then 1 else 0
theorem Fq{l:aa}(a:l.Nodup)(h:Int):bh l (dl h)=if h∈l then 1 else 0:=by
 have:=wq h (λ_=>1) a;rw[<- this];unfold bh dl;congr 1;exact aak λx _=>by
  by_cases e:x=h
  ·rw[if_pos e,if_pos e.symm]
  ·rw[if_neg e,if_neg λz=>e z.symm]
theorem nJ{k n:Nat}{rs:ae}(I:Dr k n rs)(h:Int):eQ (dl h) rs=aR rs h h:=by
 unfold eQ;have a:=ll (rs:=rs) (F:=λl=>bh l (dl h)) (G:=λl=>if h∈l then 1 else 0) λr c=>Fq (I.lot r c).nodup h;rw[a];unfold aR cc mo;clear a I;induction rs with
 |nil=>rfl
 |cons r rs b =>
  rw[List.map_cons,List.sum_cons,b,List.filter_cons];show r.1*(if h∈r.2 then 1 else 0)+_=_;by_cases m:h∈r.2
  ·rw[if_pos m,if_pos (by simp[dA,m]),List.map_cons,List.sum_cons];grind
  ·rw[if_neg m,if_neg (by simp[dA,m])];grind
theorem yw{b:Type}(rs:ae)(F:b->Rat)(G:b->aa->Rat):∀a:List b,mo rs (λl=>(a.map λc=>F c*G c l).sum)=(a.map λc=>F c*mo rs (G c)).sum
 |[]=>by
  show mo rs (λ_=>0)=0;have:(λ_:aa=>(0:Rat))=λl=>0*(λ_=>(1:Rat)) l:=by funext l;grind
  rw[this,gN];grind
 |c::a=>by
  have:(λl=>((c::a).map λc=>F c*G c l).sum)=λl=>F c*G c l+(a.map λc=>F c*G c l).sum:=rfl;rw[this,jt,gN,yw rs F G a];rfl
noncomputable def dz(n:Nat):aa:=(List.range n).map λ(k:Nat)=>(k:Int)
theorem JC(n:Nat):(dz n).Nodup:=(List.nodup_range).map (f:=λ(k:Nat)=>(k:Int)) λx y (h:x≠y) e=>h (Int.ofNat.inj e)
theorem xJ{n:Nat}{x:Int}(b:0<=x)(a:x<n):x∈dz n:=List.mem_map.mpr ⟨x.toNat,List.mem_range.mpr (by left),by left⟩
theorem yx{k n:Nat}{rs:ae}(I:Dr k n rs)(f:Int->Rat):eQ f rs=((dz n).map λc=>f c*aR rs c c).sum:=by
 have e:∀r∈rs,bh r.2 f=((dz n).map λc=>f c*bh r.2 (dl c)).sum:=λr b=>by
  have:=sy (λx:Int=>x) (λ_:Int=>(1:Rat)) f (JC n) r.2 λx a=>xJ ((I.lot r b).2 x a).1 ((I.lot r b).2 x a).2;unfold bh dl;rw[this];congr 1;exact aak λx _=>by grind
 have d:=ll (rs:=rs) (F:=λl=>bh l f) (G:=λl=>((dz n).map λc=>f c*bh l (dl c)).sum) e;show mo rs (λl=>bh l f)=_;rw[d,yw rs f (λc l=>bh l (dl c)) (dz n)];congr 1;exact aak λc _=>by rw[<- nJ I c];rfl
theorem gc{k n:Nat}{rs:ae}(I:Dr k n rs){f g:Int->Rat}(h:∀x,0<=x->x<(n:Int)->f x=g x):eQ f rs=eQ g rs/\vQ f rs=vQ g rs:=by
 have e:∀r∈rs,bh r.2 f=bh r.2 g:=λr a=>kA λx b=>h x ((I.lot r a).2 x b).1 ((I.lot r a).2 x b).2;have c:eQ f rs=eQ g rs:=ll e;refine⟨c,?_⟩;unfold vQ;rw[c];congr 1;exact ll λr a=>by rw[e r a]
theorem DP{rs:ae}(c:Rat)(f:Int->Rat):eQ (λx=>c*f x) rs=c*eQ f rs/\vQ (λx=>c*f x) rs=c*c*vQ f rs:=by
 have e:(λl=>bh l λx=>c*f x)=λl=>c*bh l f:=by funext l;exact uh c l f
 have a:eQ (λx=>c*f x) rs=c*eQ f rs:=by unfold eQ;rw[e,gN]
 refine⟨a,?_⟩;unfold vQ;rw[a];have b:(λl=>bh l (λx=>c*f x)*bh l λx=>c*f x)=λl=>c*c*(bh l f*bh l f):=by funext l;rw[uh];grind
 rw[b,gN];grind
theorem IZ(a:Int)(f:Int->Rat)(rs:ae):eQ f (rs.map λr=>(r.1,fK a r.2))=eQ (λx=>f (a+x)) rs/\vQ f (rs.map λr=>(r.1,fK a r.2))=vQ (λx=>f (a+x)) rs:=by
 have e:∀l,bh (fK a l) f=bh l λx=>f (a+x):=λl=>by unfold bh fK;rw[List.map_map];rfl
 have b:eQ f (rs.map λr=>(r.1,fK a r.2))=eQ (λx=>f (a+x)) rs:=by
  unfold eQ mo;rw[List.map_map];congr 1;exact aak λr _=>by show r.1*bh (fK a r.2) f=_;rw[e]
 refine⟨b,?_⟩;unfold vQ;rw[b];congr 1;unfold mo;rw[List.map_map];congr 1;exact aak λr _=>by show r.1*(bh (fK a r.2) f*bh (fK a r.2) f)=_;rw[e]
section
variable {gs:ae}{d e:Dw}{Wg Wd We:Nat}(Tg:mW (2,gs) Wg)(Td:mW d Wd)(Te:mW e We)
include Tg Td Te
noncomputable def tw(a b:Rat)(g:Int):Rat:=if g=0 then a else b
omit Td Te in
theorem HW(a b:Rat):eQ (tw a b) gs=a*aR gs 0 0+b*aR gs 1 1:=by
 rw[yx (n:=2) Tg.dr];show tw a b 0*aR gs 0 0+(tw a b 1*aR gs 1 1+0)=_;rw[show tw a b 0=a from rfl,show tw a b 1=b from rfl];grind
theorem wa(f:Int->Rat):eQ f (bq (allR (aQ 0 [d,e]) gs))=eQ (tw (eQ f d.2) (eQ (λx=>f (d.1+x)) e.2)) gs /\
  vQ f (bq (allR (aQ 0 [d,e]) gs))=vQ (tw (eQ f d.2) (eQ (λx=>f (d.1+x)) e.2)) gs+eQ (tw (vQ f d.2) (vQ (λx=>f (d.1+x)) e.2)) gs:=by
 have p:∀c∈aQ 0 [d,e],(mo c λ_=>1)=1:=λc h=>by
  rw[kD];rcases List.mem_cons.mp h with rfl|h
  ·rw[List.map_map];exact Td.dr.one
  ·rw[List.mem_singleton.mp (show c∈[e.2.map λr=>(r.1,fK (0+d.1) r.2)] from h),List.map_map];exact Te.dr.one
 obtain⟨_,a1,a2⟩:=Ep f p (gs:=gs) λr q g s=>(Tg.dr.lot r q).2 g s;obtain⟨k,j⟩:=IZ 0 f d.2;obtain⟨q1,q2⟩:=IZ (0+d.1) f e.2;have z:(λx=>f (0+x))=f:=by funext x;rw[Int.zero_add]
 rw[z]at k j;rw[Int.zero_add]at q1 q2;have l:∀g,0<=g->g<((2:Nat):Int)->eQ f ((aQ 0 [d,e]).getD g.toNat [])=tw (eQ f d.2) (eQ (λx=>f (d.1+x)) e.2) g/\vQ f ((aQ 0 [d,e]).getD g.toNat [])=tw (vQ f d.2) (vQ (λx=>f (d.1+x)) e.2) g:=λg b a=>by
  have:g=0\/g=1:=by left
  rcases this with rfl|rfl
  ·exact⟨k,j⟩
  ·exact⟨by rw[show(aQ 0 [d,e]).getD (1:Int).toNat []=e.2.map λr=>(r.1,fK (0+d.1) r.2) from rfl,Int.zero_add];exact q1,by rw[show(aQ 0 [d,e]).getD (1:Int).toNat []=e.2.map λr=>(r.1,fK (0+d.1) r.2) from rfl,Int.zero_add];exact q2⟩
 obtain⟨i,o⟩:=gc (n:=2) Tg.dr (f:=λg=>eQ f ((aQ 0 [d,e]).getD g.toNat [])) λg b a=>(l g b a).1;obtain⟨u,_⟩:=gc (n:=2) Tg.dr (f:=λg=>vQ f ((aQ 0 [d,e]).getD g.toNat [])) λg b a=>(l g b a).2;have m:eQ f (bq (allR (aQ 0 [d,e]) gs))=eQ f (allR (aQ 0 [d,e]) gs):=sD _ _;have t:vQ f (bq (allR (aQ 0 [d,e]) gs))=vQ f (allR (aQ 0 [d,e]) gs):=by unfold vQ;rw[m,sD]
 refine⟨by rw[m,a1,i],?_⟩;rw[t];unfold vQ at o ⊢;rw[a2,a1,u,i];rw[i]at o;unfold vQ at *;grind
theorem oG(h:Int)(i:0<=h)(g:h<((d.1+e.1:Nat):Int)):aR (bq (allR (aQ 0 [d,e]) gs)) h h=if h<d.1 then aR gs 0 0*aR d.2 h h else aR gs 1 1*aR e.2 (h - d.1) (h - d.1):=by
 have I:=Cv Tg Td Te;rw[<- nJ I h,(wa Tg Td Te (dl h)).1,HW Tg,nJ Td.dr h];have c:(λx=>dl h (d.1+x))=dl (h - d.1):=by
  funext x;unfold dl;by_cases z:x=h - d.1
  ·rw[if_pos z,if_pos (by left)]
  ·rw[if_neg z,if_neg (by left)]
 rw[c,nJ Te.dr];have a:∀{k n:Nat} {rs:ae} (I:Dr k n rs) (x:Int),(x<0\/(n:Int)<=x)->aR rs x x=0:=λ{k n rs} I x f=>by
  unfold aR;have:rs.filter (dA x x)=[]:=by
   rw[List.filter_eq_nil_iff];intro r b z;have:=(I.lot r b).2 x (by simpa [dA]using z);left
  rw[this];rfl
 by_cases z:h<d.1
 ·rw[if_pos z,a Te.dr (h - d.1) (.inl (by left))];grind
 ·rw[if_neg z,a Td.dr h (.inr (by left))];grind
end
theorem Ov(qs:aC):(dz qs.length).map (fm qs)=qs:=by
 unfold dz;rw[List.map_map];refine abv λi=>?_;rw[List.getElem?_map];by_cases h:i<qs.length
 ·rw[List.getElem?_range h,List.getElem?_eq_getElem h];show some (fm qs (i:Int))=_;unfold fm;simp[h]
 ·rw[List.getElem?_eq_none (by simp;left),List.getElem?_eq_none (by left)];rfl
def jQ(n:Nat)(rs:ae):aC:=(gM n rs).map λq=>1 / q
@[simp]theorem lb(n:Nat)(rs:ae):(jQ n rs).length=n:=by simp[jQ]
theorem mh{n:Nat}{rs:ae}{h:Int}(c:0<=h)(b:h<(n:Int)):fm (jQ n rs) h=1 / aR rs h h:=by
 have a:h.toNat<n:=by left
 have e:=la rs a;unfold fm jQ;rw[List.getD_eq_getElem?_getD,List.getElem?_map,e];show 1 / aR rs (h.toNat:Int) (h.toNat:Int)=_;rw[show((h.toNat:Nat):Int)=h by left]
def gR(n:Nat)(rs:ae)(xs:aC)(h:Int):Rat:=fm (jQ n rs) h*fm xs h
theorem yR{k n:Nat}{rs:ae}(I:Dr k n rs)(hs:∀h:Int,0<=h->h<(n:Int)->0<aR rs h h)(b:xs.length=n):eQ (gR n rs xs) rs=xs.sum:=by
 rw[yx I];have:(dz n).map (λc=>gR n rs xs c*aR rs c c)=xs:=by
  have e:=Ov xs;rw[b]at e;refine Eq.trans (aak λc d=>?_) e;obtain⟨j,a,rfl⟩:=List.mem_map.mp d;have a:=List.mem_range.mp a;have p:=hs j (by left) (by left);unfold gR;rw[mh (by left) (by left)];generalize aR rs (j:Int) (j:Int)=s at *;have:s≠0:=λz=>by rw[z]at p;exact absurd p (by decide)
  grind
 rw[this]
section
variable {gs:ae}{d e:Dw}{Wg Wd We:Nat}(Tg:mW (2,gs) Wg)(Td:mW d Wd)(Te:mW e We)
include Tg Td Te
theorem JF(i:∀h:Int,0<=h->h<((2:Nat):Int)->0<aR gs h h)(j:∀h:Int,0<=h->h<(d.1:Int)->0<aR d.2 h h)(he:∀h:Int,0<=h->h<(e.1:Int)->0<aR e.2 h h)
  {c zs:aC} (p:c.length=d.1) (hz:zs.length=e.1) (x:∀h:Int,0<=h->h<(d.1:Int)->fm xs h=fm c h) (u:∀h:Int,0<=h->h<(e.1:Int)->fm xs (d.1+h)=fm zs h) :
  vQ (gR (d.1+e.1) (bq (allR (aQ 0 [d,e]) gs)) xs) (bq (allR (aQ 0 [d,e]) gs))=vQ (gR 2 gs [c.sum,zs.sum]) gs+(vQ (gR d.1 d.2 c) d.2*(1 / aR gs 0 0)+vQ (gR e.1 e.2 zs) e.2*(1 / aR gs 1 1)):=by
 have l:=i 0 (by decide) (by decide);have k:=i 1 (by decide) (by decide);have B:aR gs 0 0≠0:=λz=>by rw[z]at l;exact absurd l (by decide)
 have y:aR gs 1 1≠0:=λz=>by rw[z]at k;exact absurd k (by decide)
 rw[(wa Tg Td Te _).2];have t:∀h:Int,0<=h->h<(d.1:Int)->gR (d.1+e.1) (bq (allR (aQ 0 [d,e]) gs)) xs h=(1 / aR gs 0 0)*gR d.1 d.2 c h:=λh a b=>by
  unfold gR;rw[mh a (by left),mh a b,oG Tg Td Te h a (by left),if_pos b,x h a b];have:=j h a b;generalize aR d.2 h h=s at *;have:s≠0:=λz=>by rw[z]at this;exact absurd this (by decide)
  grind
 have r:∀h:Int,0<=h->h<(e.1:Int)->gR (d.1+e.1) (bq (allR (aQ 0 [d,e]) gs)) xs (d.1+h)=(1 / aR gs 1 1)*gR e.1 e.2 zs h:=λh a b=>by
  unfold gR;rw[mh (by left) (by left),mh a b,oG Tg Td Te (d.1+h) (by left) (by left),if_neg (by left),u h a b,show(d.1:Int)+h - d.1=h by left];have:=he h a b;generalize aR e.2 h h=s at *;have:s≠0:=λz=>by rw[z]at this;exact absurd this (by decide)
  grind
 obtain⟨a1,a2⟩:=gc Td.dr t;obtain⟨w,v⟩:=gc Te.dr (f:=λh=>gR (d.1+e.1) (bq (allR (aQ 0 [d,e]) gs)) xs (d.1+h)) r;obtain⟨o,m⟩:=DP (rs:=d.2) (1 / aR gs 0 0) (gR d.1 d.2 c);obtain⟨q1,q2⟩:=DP (rs:=e.2) (1 / aR gs 1 1) (gR e.1 e.2 zs);rw[a1,a2,w,v,o,m,q1,q2,yR Td.dr j p,yR Te.dr he hz,HW Tg];have q:=(gc (n:=2) Tg.dr (f:=tw (1 / aR gs 0 0*c.sum) (1 / aR gs 1 1*zs.sum)) (g:=gR 2 gs [c.sum,zs.sum]) λg a b=>by
  have:g=0\/g=1:=by left
  unfold gR;rw[mh a b];rcases this with rfl|rfl
  ·rfl
  ·rfl).2
 rw[q];grind
end
noncomputable def HY(f:Fl)(ks:az)(S:aa->Rat):D:=.cg f ks (ks.map λk=>qD (S k))
theorem nN(g:Fl->Fl)(f:Fl)(ks:az)(S:aa->Rat):aO g (HY f ks S)=HY (g f) ks S:=by
 show D.cg (g f) ks (aA g (ks.map λk=>qD (S k)))=_;rw[dv g λk=>by simp];rfl
theorem GH(g:Fl->Bool)(f:Fl)(ks:az)(S:aa->Rat):aT g (HY f ks S)=g f:=by
 show(g f||aP g (ks.map λk=>qD (S k)))=_;rw[cW g λk=>by simp,Bool.or_false]
variable {ks:az}{Φ:aV}
theorem HX(P:AJ Φ)(f:Fl)(S:aa->Rat){c:aa}(a:c∈ks):Φ 1032 [HY f ks S,.tup (ah c)]=ok (qD (S c)):=by
 rw[P.IP];show(match keyOf (.tup (ah c))with|some c=>(match bY ks (ks.map λk=>qD (S k)) c with|some v=>if aT anyF v=false then ok v else none|none=>none)|none=>none)=_;rw[nQ];show(match bY ks (ks.map λk=>qD (S k)) c with|some v=>if aT anyF v=false then ok v else none|none=>none)=_;rw[pE (λk=>qD (S k)),if_pos a];exact aaR (w9 _ _)
theorem Fd(P:AJ Φ)(a:ks.length<900000)(S:aa->Rat)(c:aa)(v:Rat):Φ 1033 [HY .ow ks S,qD v,.tup (ah c)]=ok (HY .ow (aY ks c) λk=>if k=c then v else S k):=by
 rw[P.IM];show(match keyOf (.tup (ah c))with|some c'=>if cG .ow=true/\aT anyF (qD v)=false/\ks.length<cE then ok (D.cg .ow (aY ks c') (bM ks (ks.map λk=>qD (S k)) c' (qD v)))else none|none=>none)=_;rw[nQ];show(if cG .ow=true/\aT anyF (qD v)=false/\ks.length<cE then ok (D.cg .ow (aY ks c) (bM ks (ks.map λk=>qD (S k)) c (qD v)))else none)=_;rw[if_pos ⟨rfl,w9 _ _,by show _<1000000;left⟩,zy (λk=>qD (S k))];unfold HY;congr 2;refine aak λk _=>?_;show(if k=c then qD v else qD (S k))=qD (if k=c then v else S k);split<;>rfl
def zG(pr:ae)(l:aa):Rat:=(df pr l).sum
def jb(f:Fl)(pr:ae):D:=HY f (cU pr) (zG pr)
theorem BC(pr:ae)(r:Row):zG (pr++[r])=λk=>if k=r.2 then zG pr r.2+r.1 else zG pr k:=by
 funext k;unfold zG;rw[qP];unfold jm;by_cases h:k=r.2
 ·rw[if_pos h,if_pos h,h,List.sum_append,List.sum_singleton]
 ·rw[if_neg h,if_neg h]
noncomputable def G8:CE:=.comp 1 (.nm 0) [5] .seq [(.cm 1035 [(.v 5)])] [] (.tup [(.cm 1032 [(.v 1),(.v 0)]),(.v 0)])
theorem Be(P:AJ Φ){pr:ae}(c:pr.length<1000)(r:Row)(b:r.2∉pr.map (·.2)):Φ 1033 [jb .ow pr,qD r.1,.tup (ah r.2)]=ok (jb .ow (pr++[r])):=by
 have d:=ia pr;unfold jb;rw[Fd P (by left),mn,BC];have z:zG pr r.2=0:=by
  unfold zG df;have:pr.filter (λx=>decide (x.2=r.2))=[]:=by
   rw[List.filter_eq_nil_iff];intro x a e;exact b (aab e▸aaq a)
  rw[this];rfl
 rw[z,Rat.zero_add]
theorem Bg{pr:ae}{r:Row}(h:r∈pr)(e:(pr.map (·.2)).Nodup):zG pr r.2=r.1:=by
 unfold zG;rw[yk];induction pr with
 |nil=>cases h
 |cons x pr c =>
  obtain⟨a,b⟩:=List.nodup_cons.mp e;rw[List.map_cons,List.sum_cons];rcases List.mem_cons.mp h with rfl|h
  ·rw[if_pos rfl,rZ λy d=>if_neg λz=>a (List.mem_map.mpr ⟨y,d,z⟩)];grind
  ·rw[if_neg λz=>a (List.mem_map.mpr ⟨r,h,z.symm⟩),c h b];grind
theorem Rp(Φ:aV)(P:AJ Φ)(c:A.length<64)(n m k j i:aH)(r:br):bG Φ G8 (n::m::k::j::i::some (jb .ow A)::r)=ok (.lst .ow (bg (bq A))):=by
 have b:(bK (cU A)).Perm (cU A):=aaB _ _;have o:=ia A;unfold G8;rw[bW (xs:=[.lst .ow ((bK (cU A)).map eJ)]) (items:=(bK (cU A)).map eJ) (ds:=bg (bq A)) ?_ (by rw[cA,gB]) ?_ (by
  rw[iF];unfold bq;rw[List.length_map];exact bL (by have:=b.length_eq;left))]
 ·rw[bZ]
 ·have t1:∀f,Φ 1035 [jb f A]=ok (.lst .ow ((bK (cU A)).map eJ)):=λf=>Bd P f _ (by left);have a:aO bt (jb .ow A)=jb .al A:=nN _ _ _ _;generalize jb .ow A=TT at *;simp[a,t1]
 ·unfold bg bq;rw[List.map_map];refine bH λl c=>?_;have g:l∈cU A:=b.mem_iff.mp c;have h:Φ 1032 [jb .fz A,.tup (ah l)]=ok (qD (zG A l)):=HX P .fz (zG A) g;have a:aO bt (eJ l)=.tup (ah l):=by show D.tup (aA bt (l.map D.int))=_;rw[iI];rfl
  have e:aO bo (jb .ow A)=jb .fz A:=nN _ _ _ _;have d:aO bt (jb .fz A)=jb .fz A:=nN _ _ _ _;refine⟨[some (eJ l),some (jb .fz A)],by simp[bF,e],by simp,?_⟩;simp[a,d,h];rfl
noncomputable def kl:Rat:=⟨2,3,by decide,by decide⟩
noncomputable def jc(rs:ae):Rat:=(rs.map λr=>r.1).sum
def cM(ev:aa)(rs:ae):ae:=(rs.filter λr=>decide (r.2≠ev)).map λr=>(r.1*kl,r.2)
theorem tf(ev:aa)(a b:ae):cM ev (a++b)=cM ev a++cM ev b:=by unfold cM;rw[List.filter_append,List.map_append]
variable {ev:aa}
theorem s9{rs:ae}{z:Row}(h:z∈cM ev rs):∃r∈rs,r.2≠ev/\z=(r.1*kl,r.2):=by
 unfold cM at h;obtain⟨r,a,rfl⟩:=List.mem_map.mp h;obtain⟨c,b⟩:=List.mem_filter.mp a;exact⟨r,c,aab b,rfl⟩
theorem lE{rs:ae}{l:aa}(h:l∈(cM ev rs).map (·.2)):l∈rs.map (·.2)/\l≠ev:=by
 obtain⟨z,a,rfl⟩:=List.mem_map.mp h;obtain⟨r,b,c,rfl⟩:=s9 a;exact⟨List.mem_map.mpr ⟨r,b,rfl⟩,c⟩
theorem s_(ev:aa)(rs:ae):(cM ev rs).length<=rs.length:=by unfold cM;rw[List.length_map];exact aby _ _
theorem DB{rs:ae}(h:(rs.map (·.2)).Nodup):((cM ev rs).map (·.2)).Nodup:=by
 induction rs with
 |nil=>exact aaA
 |cons r rs a =>
  obtain⟨c,b⟩:=List.nodup_cons.mp h;have e:cM ev (r::rs)=cM ev [r]++cM ev rs:=tf ev [r] rs;rw[e];by_cases z:r.2=ev
  ·have:cM ev [r]=[]:=by simp[cM,z]
   rw[this];exact a b
  ·have:cM ev [r]=[(r.1*kl,r.2)]:=by simp[cM,z]
   rw[this];exact List.nodup_cons.mpr ⟨λm=>c (lE m).1,a b⟩
noncomputable def Bq:ai:=[.ifs (.cmp .ne (.v 8) (.v 4)) [.mut 1033 5 [(.call 203 [(.v 7),(.tup [(.int 2),(.int 3)])]),(.v 8)],.asg (.nm 6) (.call 202 [(.v 6),(.cm 1032 [(.v 5),(.v 8)])])] []]
theorem yS(Φ:aV)(P:AJ Φ)(G:pV (Φ 202))(F:eY (Φ 203)){ev:aa}{all:ae}(t:(all.map (·.2)).Nodup)(I:all.length<=100)(y:∀r∈all,Sm 6 r.1)(hs:∀a b,all=a++b->Sm 30 (jc (cM ev a)))(j h g c:aH):
  ∀(rs pr:ae) (x w:aH),all=pr++rs->∃Y C,d9 (λd s=>cB (.tp [7,8]) d s) (λs=>b8 Φ Bq s) (bg rs) [j,h,g,c,some (.tup (ah ev)),some (jb .ow (cM ev pr)),some (qD (jc (cM ev pr))),x,w] =
   ok (.nx,[j,h,g,c,some (.tup (ah ev)),some (jb .ow (cM ev all)),some (qD (jc (cM ev all))),Y,C])
 |[],pr,x,w,e=>⟨x,w,by rw[e,List.append_nil];rfl⟩
 |r::rs,pr,x,w,e=>by
  obtain⟨L,K,n⟩:=yS Φ P G F t I y hs j h g c rs (pr++[r]) (some (qD r.1)) (some (.tup (ah r.2))) (by rw[e];simp);rw[tf]at n;have H:r∈all:=by rw[e];simp
  have k:fi .ne (.tup (ah r.2)) (.tup (ah ev))=ok (.bl (!decide (r.2=ev))):=by
   show(if fI 40 _&&fI 40 _ then ok (D.bl (!mU (.tup (ah r.2)) (.tup (ah ev))))else none)=_;have o:∀l:aa,fI 40 (.tup (ah l))=true:=λl=>by rw[yt];exact sF (λ_=>rfl) l
   rw[o,o];show ok (D.bl (!fh (ah r.2) (ah ev)))=_;rw[DK]
  have tl:(pr++r::rs).length=pr.length+rs.length+1:=by simp;left
  have R:pr.length<1000:=by rw[e]at I;left
  by_cases z:r.2=ev
  ·have u:cM ev [r]=[]:=by simp[cM,z]
   rw[u,List.append_nil]at n;refine⟨L,K,cS (ρ1:=[j,h,g,c,some (.tup (ah ev)),some (jb .ow (cM ev pr)),some (qD (jc (cM ev pr))),some (qD r.1),some (.tup (ah r.2))]) (by simp[rD]) (ρ2:=[j,h,g,c,some (.tup (ah ev)),some (jb .ow (cM ev pr)),some (qD (jc (cM ev pr))),some (qD r.1),some (.tup (ah r.2))]) ?_ n⟩;have k:fi .ne (.tup (ah r.2)) (.tup (ah ev))=ok (.bl false):=by rw[k];simp[z]
   generalize jb .ow (cM ev pr)=T at *;simp[Bq,k]
  ·have u:cM ev [r]=[(r.1*kl,r.2)]:=by simp[cM,z]
   have Z:r.2∉(cM ev pr).map (·.2):=λm=>by
    have m:=(lE m).1;rw[e,List.map_append,List.map_cons,List.nodup_append]at t;exact t.2.2 _ m _ aae rfl
   have X:=Be P (pr:=cM ev pr) (aap (s_ ev pr) R) (r.1*kl,r.2) Z;have O:=hs pr (r::rs) e;have s2:=hs (pr++[r]) rs (by rw[e];simp);have M:((cM ev (pr++[r])).map (·.2)).Nodup:=DB (by
    have:=t;rw[e,show pr++r::rs=(pr++[r])++rs by simp,List.map_append]at this;exact(List.nodup_append.mp this).1)
   rw[tf,u]at M;have sm:jc (cM ev pr++[(r.1*kl,r.2)])=jc (cM ev pr)+r.1*kl:=by unfold jc;rw[List.map_append,List.sum_append];simp;grind
   rw[u,sm]at n;have N:Sm 6 kl:=by constructor<;>decide
   have t1:=F r.1 kl ((y r H).mono (by decide)) (N.mono (by decide));have B:qD kl=.tup [.int 2,.int 3]:=rfl;rw[B]at t1;have t2:=G (jc (cM ev pr)) (r.1*kl) (O.mono (by decide)) (((y r H).mul N).mono (by decide));have S:r.2∈cU (cM ev pr++[(r.1*kl,r.2)]):=by rw[mn];exact qY.mpr (.inr rfl)
   have V:∀f,Φ 1032 [jb f (cM ev pr++[(r.1*kl,r.2)]),.tup (ah r.2)]=ok (qD (r.1*kl)):=λf=>by
    have:=HX P f (zG (cM ev pr++[(r.1*kl,r.2)])) S;rw[Bg (r:=(r.1*kl,r.2)) (by simp) M]at this;exact this
   have k:fi .ne (.tup (ah r.2)) (.tup (ah ev))=ok (.bl true):=by rw[k];simp[z]
   have E:=oz (Φ:=Φ) (p:=1033) (i:=5) (es:=[(.call 203 [(.v 7),(.tup [(.int 2),(.int 3)])]),(.v 8)]) (ρ:=[j,h,g,c,some (.tup (ah ev)),some (jb .ow (cM ev pr)),some (qD (jc (cM ev pr))),some (qD r.1),some (.tup (ah r.2))]) (xs:=[qD (r.1*kl),.tup (ah r.2)]) (by simp[t1]) (by simp) rfl X;simp only[List.set]at E;have Q:aO bt (jb .ow (cM ev pr++[(r.1*kl,r.2)]))=jb .al (cM ev pr++[(r.1*kl,r.2)]):=nN _ _ _ _;refine⟨L,K,cS (ρ1:=[j,h,g,c,some (.tup (ah ev)),some (jb .ow (cM ev pr)),some (qD (jc (cM ev pr))),some (qD r.1),some (.tup (ah r.2))]) (by simp[rD]) (ρ2:=[j,h,g,c,some (.tup (ah ev)),some (jb .ow (cM ev pr++[(r.1*kl,r.2)])),some (qD (jc (cM ev pr)+r.1*kl)),some (qD r.1),some (.tup (ah r.2))]) ?_ n⟩;have U:=V .al;generalize jb .ow (cM ev pr++[(r.1*kl,r.2)])=T at *;generalize jb .al (cM ev pr++[(r.1*kl,r.2)])=T2 at *;generalize jb .ow (cM ev pr)=T3 at *;generalize jc (cM ev pr)=q at *;generalize r.1*kl=p at *;simp[Bq,k,E,Q,U,t2]
theorem JQ(ev:aa)(rs:ae):jc (cM ev rs)=(cc (rs.filter λr=>decide (r.2≠ev))).sum*kl:=by
 unfold jc cM cc;rw[List.map_map];have:=wo kl (λr:Row=>r.1) (rs.filter λr=>decide (r.2≠ev));rw[Rat.mul_comm,<- this];congr 1;exact aak λr _=>by show r.1*kl=_;grind
theorem BU:0<kl/\kl<1:=by constructor<;>decide +kernel
theorem Bv{rs:ae}(e:∀r∈rs,0<r.1)(g:(cc rs).sum<=1):0<=jc (cM ev rs)/\jc (cM ev rs)<1:=by
 obtain⟨a,b⟩:=gL (λr=>decide (r.2≠ev)) rs e;rw[JQ];obtain⟨c,d⟩:=BU;generalize (cc (rs.filter λr=>decide (r.2≠ev))).sum=s at *;have f:s<=1:=Rat.le_trans b g;have i:0<=s*kl:=Rat.mul_nonneg a (abx c);have h:s*kl<=1*kl:=abr f (abx c);rw[Rat.one_mul]at h;exact⟨i,by grind⟩
theorem Bu{rs:ae}(e:0<W)(d:∀r∈rs,r.1.den∣W):(jc (cM ev rs)).den∣W*3:=by
 refine jC (λq c=>?_) (by left);obtain⟨z,a,rfl⟩:=List.mem_map.mp c;obtain⟨r,b,_,rfl⟩:=s9 a;exact gE (d r b) (Nat.dvd_refl 3)
theorem lh(d:(A.map (·.2)).Nodup){z:Row}(h:z∈bq A):z∈A:=by
 obtain⟨c,b⟩:=lp h;obtain⟨r,a,e⟩:=List.mem_map.mp c;have:=Bg a d;unfold zG at this;have f:z=r:=Prod.ext (by rw[b,<- e];exact this) e.symm;rw[f];exact a
theorem EY(n:Nat):ou n (dz n):=by
 refine⟨?_,λh b=>?_⟩
 ·unfold dz;rw[List.pairwise_map];exact(List.pairwise_lt_range).imp λh=>by left
 ·obtain⟨k,a,rfl⟩:=List.mem_map.mp b;have:=List.mem_range.mp a;left
def lF(n:Nat)(rs:ae):ae:=cM (dz n) rs++[(1 - jc (cM (dz n) rs),dz n)]
theorem L8{n:Nat}{rs:ae}(I:Dr 6 n rs)(D:rs.length<=5)(u:n<=3)(p:0<W)(G:W<=45)(j:∀r∈rs,r.1.den∣W):mW (n,bq (lF n rs)) (W*3)/\(∃r∈bq (lF n rs),r.2=dz n)/\((lF n rs).map (·.2)).Nodup/\(lF n rs).length<=6:=by
 have y:=jo I.rise;obtain⟨F,E⟩:=Bv (ev:=dz n) I.pos (by show(rs.map (·.1)).sum<=1;rw[I.one];exact acB);have t:=Bu (ev:=dz n) p j;have nd:((lF n rs).map (·.2)).Nodup:=by
  unfold lF;rw[List.map_append,List.nodup_append];refine⟨DB y,by simp,λa C b m e=>?_⟩;rw[List.map_singleton,List.mem_singleton]at m;exact(lE C).2 (e.trans m)
 have l:(lF n rs).length<=6:=by
  unfold lF;rw[List.length_append,List.length_singleton];have:=s_ (dz n) rs;left
 have d:∀z∈lF n rs,ou n z.2/\0<z.1/\z.1.den∣W*3:=λz c=>by
  unfold lF at c;rcases List.mem_append.mp c with c|c
  ·obtain⟨r,g,_,rfl⟩:=s9 c;exact⟨I.lot r g,abG (I.pos r g) BU.1,gE (j r g) (Nat.dvd_refl 3)⟩
  ·rw[List.mem_singleton.mp c];refine⟨EY n,by show 0<1 - jc (cM (dz n) rs);grind,?_⟩;have:=jC (W:=W*3) (qs:=[1,-jc (cM (dz n) rs)]) (λq h=>by
    rcases List.mem_cons.mp h with rfl|h
    ·exact acA _
    ·rw[List.mem_singleton.mp h,Rat.neg_den];exact t) (by left)
   have e:[1,-jc (cM (dz n) rs)].sum=1 - jc (cM (dz n) rs):=by
    rw[List.sum_cons,List.sum_singleton];grind
   rw[e]at this;exact this
 have one:((bq (lF n rs)).map (·.1)).sum=1:=by
  rw[<- kD,sD,kD];unfold lF;rw[List.map_append,List.sum_append];show jc (cM (dz n) rs)+([1 - jc (cM (dz n) rs)]:aC).sum=1;rw[List.sum_singleton];grind
 have i:(bq (lF n rs)).length<=6:=by rw[uO];exact aar (ia _) l
 have f:∀z∈bq (lF n rs),0<z.1:=λz c=>(d z (lh nd c)).2.1;have o:∀z∈bq (lF n rs),Sm 8 z.1:=λz c=>by
  refine k_ (abx (f z c)) ?_ (aap (aba (by left) (d z (lh nd c)).2.2) (by show _<256;left));rw[<- one];exact(dJ (λx v=>by obtain⟨s,w,rfl⟩:=List.mem_map.mp v;exact f s w) (aaq c)).2
 have k:W*3<2 ^ 8:=by show _<256;left
 refine⟨⟨⟨I.n1,I.n2,⟨W*3,by left,aah k (aaj (by decide) (by decide)),λz c=>(d z (lh nd c)).2.2⟩,aar i (by decide),λz c=>(d z (lh nd c)).1,f,o,one,?_,8,⟨λq h=>?_,by unfold cc;rw[List.length_map];exact aar (abH 8 i) (by decide),by unfold cc;rw[List.length_map];exact aar i (by decide)⟩⟩,i,u,by left,k,λz c=>(d z (lh nd c)).2.2⟩,?_,nd,l⟩
 ·have:(bq (lF n rs)).map (·.2)=bK (cU (lF n rs)):=by
   unfold bq;rw[List.map_map];exact(aak λ_ _=>rfl).trans (List.map_id _)
  rw[this];exact iE (fO _ [] aaA).1
 ·obtain⟨r,g,rfl⟩:=List.mem_map.mp h;exact o r g
 ·have B:dz n∈cU (lF n rs):=((fO (lF n rs) [] aaA).2.1 _).mpr (.inr (by unfold lF;simp));exact⟨((df (lF n rs) (dz n)).sum,dz n),List.mem_map.mpr ⟨dz n,((aaB _ _:(bK (cU (lF n rs))).Perm (cU (lF n rs))).mem_iff).mpr B,rfl⟩,rfl⟩
def Hx:ai:=[.unp [2,3] (.call 212 [(.v 0),(.v 1)]),.asg (.nm 4) (.bf .tuple1 [(.cm 1041 [(.v 2)])]),.asg (.nm 5) (.cm 1030 []),.asg (.nm 6) (.tup [(.int 0),(.int 1)]),.fr (.tp [7,8]) (.seq (.v 3)) Bq,.mut 1033 5 [(.call 201 [(.bin .sub (.ix (.v 6) (.int 1)) (.ix (.v 6) (.int 0))),(.ix (.v 6) (.int 1))]),(.v 4)],.ret (.tup [(.v 2),G8])]
def R7(m:aw):Prop:=∀(N:Int) (p:Nat),1<=p->p<=3->∃(d:Dw) (W:Nat),m [.int N,.int p]=ok (cj .ow d)/\mW d W/\(d.1:Int)=1+N.fmod p/\∃r∈d.2,r.2=dz d.1
theorem UE(Φ:aV)(P:AJ Φ)(Dq:j6 (Φ 201))(U:pV (Φ 202))(K:eY (Φ 203))(WX:R6 (Φ 212))(Q_:Φ 1041=P6):R7 (mk Φ 2 9 Hx):=by
 intro N p M p3;obtain⟨⟨n,c⟩,e1,I,o,_,R,V6,W,w,TZ,g⟩:=WX N p M (by left);have I:Dr 6 n c:=I;have o:c.length<=5:=o;have g:∀r∈c,r.1.den∣W:=g;obtain⟨T,Wq,nd,Y⟩:=L8 I o (by show n<=3;have:n<=p:=R;left) w TZ g;refine⟨(n,bq (lF n c)),W*3,?_,T,V6,Wq⟩;have n1:1<=n:=I.n1;have n3:n<=3:=T.n3;have X:=jo I.rise;have x:∀a b,c=a++b->Sm 30 (jc (cM (dz n) a)):=λa b e=>by
  have V:∀r∈a,0<r.1:=λr d=>I.pos r (by show r∈c;rw[e];exact aax _ d);have h1:(cc a).sum<=1:=by
   have:(cc c).sum=1:=I.one;rw[e]at this;unfold cc at this ⊢;rw[List.map_append,List.sum_append]at this;have hb:=Ie (f:=λr:Row=>r.1) (l:=b) λr d=>abx (I.pos r (by show r∈c;rw[e];exact aan _ d));grind
  obtain⟨b1,E⟩:=Bv (ev:=dz n) V h1;have F:=Bu (ev:=dz n) (rs:=a) w λr d=>g r (by show r∈c;rw[e];exact aax _ d);exact(k_ (k:=8) b1 (abx E) (aap (aba (by left) F) (by show _<256;left))).mono (by decide)
 obtain⟨C,B,u⟩:=yS Φ P U K (ev:=dz n) X (by left) I.sm x (some (.int N)) (some (.int p)) (some (.int n)) (some (.lst .fz (bg c))) c [] none none rfl;have e2:Φ 1041 [.int (n:Int)]=ok (.lst .ow (ah (dz n))):=by
  rw[Q_];show(if (n:Int)<=cE /\ -cE<=(n:Int)then ok (D.lst .ow ((i_ n).map D.int))else none)=_;rw[if_pos ⟨by show(n:Int)<=1000000;left,by show -1000000<=(n:Int);left⟩];unfold i_ ah dz;rw[Int.toNat_natCast]
 have e3:Φ 1030 []=ok (jb .ow []):=by rw[P.Dv];rfl
 have H:jc (cM (dz n) [])=0:=rfl;have f0:cM (dz n) []=[]:=rfl;rw[H,f0]at u;have q0:qD 0=.tup [.int 0,.int 1]:=rfl;rw[q0]at u;have S:aA bt (ah (dz n))=ah (dz n):=di _ _;have E:=(Bv (ev:=dz n) I.pos (by show(c.map (·.1)).sum<=1;rw[I.one];exact acB)).2;have G:=x c [] (by simp);have fr:∀q:Rat,Sm 30 q->Φ 201 [.int ((q.den:Int) - q.num),.int (q.den:Int)]=ok (qD (1 - q)):=λq s=>by
  have:=Dq ((q.den:Int) - q.num) q.den (by have:=q.den_pos;left) (by rw[Int.natAbs_natCast];exact aah s.2 (aaj (by decide) (by decide)));rw[this];congr 2;rw[Rat.divInt_eq_div];have hd:((q.den:Int):Rat)≠0:=λz=>by rw[Rat.intCast_eq_zero_iff]at z;have:=q.den_pos;left
  have y:q*((q.den:Int):Rat)=(q.num:Rat):=by
   have h:=eh q;rw[Rat.divInt_eq_div]at h;generalize ((q.den:Int):Rat)=b at *;generalize (q.num:Rat)=a at *;grind
  rw[Rat.intCast_sub,<- y];generalize ((q.den:Int):Rat)=b at *;grind
 have f1:=fr _ G;have L:qD (jc (cM (dz n) c))=.tup [.int (jc (cM (dz n) c)).num,.int (jc (cM (dz n) c)).den]:=rfl;have f2:=Be P (pr:=cM (dz n) c) (aap (s_ _ c) (by left)) (1 - jc (cM (dz n) c),dz n) (λz=>(lE z).2 rfl);have j:=oz (Φ:=Φ) (p:=1033) (i:=5) (es:=[(.call 201 [(.bin .sub (.ix (.v 6) (.int 1)) (.ix (.v 6) (.int 0))),(.ix (.v 6) (.int 1))]),(.v 4)]) (ρ:=[some (.int N),some (.int p),some (.int n),some (.lst .fz (bg c)),some (.tup (ah (dz n))),some (jb .ow (cM (dz n) c)),some (qD (jc (cM (dz n) c))),C,B]) (xs:=[qD (1 - jc (cM (dz n) c)),.tup (ah (dz n))]) (by rw[L];simp[f1]) (by simp) rfl f2;simp only[List.set]at j;have er:=Rp Φ P (A:=lF n c) (by left) (some (.int N)) (some (.int p)) (some (.int n)) (some (.lst .fz (bg c))) (some (.tup (ah (dz n)))) [some (qD (jc (cM (dz n) c))),C,B];have m:cC Φ (.seq (.v 3)) [some (.int N),some (.int p),some (.int n),some (.lst .ow (bg c)),some (.tup (ah (dz n))),some (jb .ow []),some (.tup [.int 0,.int 1]),none,none]=ok (bg c,[some (.int N),some (.int p),some (.int n),some (.lst .fz (bg c)),some (.tup (ah (dz n))),some (jb .ow []),some (.tup [.int 0,.int 1]),none,none]):=by
  rw[pf (f:=.al) (ds:=bg c) (by simp)];simp[nv,IQ]
 have Z:=fb (Φ:=Φ) (t:=.tp [7,8]) (b:=Bq) m u;have O:aT b6 (jb .ow [])=false:=GH _ _ _ _;have NY:Φ 212 [.int N,.int (p:Int)]=ok (.tup [.int (n:Int),.lst .ow (bg c)]):=e1;show _=ok (D.tup [D.int (n:Int),D.lst .ow (bg (bq (lF n c)))]);have eA:cM (dz n) c++[(1 - jc (cM (dz n) c),dz n)]=lF n c:=rfl;rw[eA]at j;generalize jb .ow (lF n c)=TA at *;generalize jb .ow (cM (dz n) c)=TB at *;generalize jb .ow []=T0 at *;generalize bq (lF n c)=OUT at *;generalize y:qD (jc (cM (dz n) c))=Q at *;simp[mk_eq,Hx,AM Φ G8 _ rfl,Ow,EZ,NY,e2,S,e3,O,Z,j,er]
theorem uW{k n j:Nat}{rs:ae}(I:Dr k n rs)(G:Gs j n ws xs):Rat.divInt (fJ (bI (cc rs)) rs (dm rs (dF ws xs))) ((bI (cc rs):Int)*(bI (dF ws xs):Int))=eB rs ws xs:=by
 have l:=G.Ic I.n2;obtain⟨q,w,p⟩:=l.lcm;have m:(dF ws xs).length=n:=by unfold dF;rw[List.length_map,List.length_zip,G.l1,G.l2,Nat.min_self]
 obtain⟨u,y,s⟩:=I.bot;have t:=rV (b:=bI (cc rs)) (c:=bI (dF ws xs)) p rs (λr a=>s _ (aaq a)) λr a h d=>by rw[m];exact(I.lot r a).2 h d
 have o:(rs.map λr=>r.1*bh r.2 λh=>fm (dF ws xs) h).sum=eB rs ws xs:=by
  unfold eB;congr 1;refine aak λr a=>?_;rw[kA λh d=>G.at ((I.lot r a).2 h d).1 ((I.lot r a).2 h d).2]
 rw[o]at t;rw[Rat.divInt_eq_div,show fJ (bI (cc rs)) rs (dm rs (dF ws xs))=fJ (bI (cc rs)) rs (rs.map λr=>sumZ r.2 ((dF ws xs).map (bw (bI (dF ws xs))))) from rfl,t,Rat.intCast_mul,Rat.intCast_natCast,Rat.intCast_natCast];have z:∀{x:Nat},0<x->(x:Rat)≠0:=λ{x} v e=>by
  have:((x:Int):Rat)=0:=by rw[Rat.intCast_natCast];exact e
  rw[Rat.intCast_eq_zero_iff]at this;left
 have i:=z u;have g:=z q;generalize ((bI (cc rs):Nat):Rat)=B at *;generalize ((bI (dF ws xs):Nat):Rat)=C at *;have f:B*C≠0:=by
  intro h;rcases Rat.mul_eq_zero.mp h with h|h
  ·exact i h
  ·exact g h
 rw[Rat.mul_div_cancel f]
def iS(m:aw):Prop:=∀k n a f g ws xs j,Dr k n a->Gs j n ws xs->j<=50->m [bV n a,.lst f (bj ws),.lst g (bj xs)]=ok (qD (eB a ws xs))
noncomputable def fQ:ai:=[.ex (.call 17 [(.v 0)]),.ex (.call 46 [(.v 1),(.ix (.v 0) (.int 0))]),.ex (.call 47 [(.v 2),(.ix (.v 0) (.int 0))]),.ret (.call 49 [(.ix (.v 0) (.int 1)),(.call 48 [(.v 0),(.v 1),(.v 2)])])]
theorem si(Φ:aV)(q:cF (Φ 17))(C:gK 3 kc (Φ 46))(E:gK 4 kc (Φ 47))(D:gS (Φ 48))(d:rQ (Φ 49)):iS (mk Φ 3 3 fQ):=by
 intro k n a f g ws xs j I G w;have v:=I.n2;have u:=G.l1;have t:=G.l2;have z:=q k n a I;have m:=λf=>C (.lst f (bj ws)) n (by show(bj ws).length<=1000000;simp;left);have l:=λf=>E (.lst f (bj xs)) n (by show(bj xs).length<=1000000;simp;left);simp only[pU,u,decide_true,if_true]at m;simp only[pU,t,decide_true,if_true]at l;have y:=λf g=>D k n a f g ws xs j I G;have e:=G.Ic v;obtain⟨B,K,H⟩:=e.lcm;have c:=e.Gi;have i:=d k n a (dm a (dF ws xs)) (bI (dF ws xs)) I (by simp[dm]) B c λg x=>aah ((vn I G w).2 g x) (aaj (by decide) (by decide));have F:(dF ws xs).length=n:=by unfold dF;rw[List.length_map,List.length_zip,G.l1,G.l2,Nat.min_self]
 obtain⟨N,M,L⟩:=I.bot;have b:=uW I G;rw[b]at i;have s:aO bo (bV n a)=bV n a:=by simp[bV]
 have r:aO bt (bV n a)=bV n a:=by simp[bV]
 have h:bV n a=.tup [.int n,.lst .fz (bg a)]:=rfl;have p:mq (bV n a) (.int 0)=ok (.int n):=by rw[h];simp
 have o:mq (bV n a) (.int 1)=ok (.lst .fz (bg a)):=by rw[h];simp
 simp[mk_eq,fQ,s,r,p,o,z,m,l,y,i]
theorem JI{b:Nat}{rs:ae}{gs:aa}{A B:Nat}(f:∀r∈rs,(bw b r.1).natAbs<=A)(d:∀g∈gs,g.natAbs<=B):(fJ b rs gs).natAbs<=rs.length*(A*B)/\(m9 b rs gs).natAbs<=rs.length*(A*B*B):=by
 have e:(rs.zip gs).length<=rs.length:=by rw[List.length_zip];exact Nat.min_le_left _ _
 constructor
 ·unfold fJ;refine aar (j5 (B:=A*B) _ λz c=>?_) (by rw[List.length_map];exact aaG _ e);obtain⟨p,a,rfl⟩:=List.mem_map.mp c;rw[Int.natAbs_mul];exact aaY (f _ (aaC a).1) (d _ (aaC a).2)
 ·unfold m9;refine aar (j5 (B:=A*B*B) _ λz c=>?_) (by rw[List.length_map];exact aaG _ e);obtain⟨p,a,rfl⟩:=List.mem_map.mp c;rw[Int.natAbs_mul,Int.natAbs_mul];exact aaY (aaY (f _ (aaC a).1) (d _ (aaC a).2)) (d _ (aaC a).2)
theorem wI{k n j:Nat}{rs:ae}(I:Dr k n rs)(G:Gs j n ws xs)(m:j<=J):Sm (2*(260+(26*J+5))+1) (eB rs ws xs)/\Sm (2*(260+(26*J+5))+1) (bD rs ws xs):=by
 obtain⟨q,p⟩:=rn (J:=J) I G m;generalize 26*J+5=a at *;obtain⟨t,_,_⟩:=(G.Ic I.n2).lcm;obtain⟨w,i,_⟩:=I.bot;obtain⟨t1,t2⟩:=JI (b:=bI (cc rs)) (rs:=rs) (gs:=dm rs (dF ws xs)) (A:=2 ^ 250) (B:=2 ^ a) (λr l=>aa6 (I.top l)) λg o=>aa6 (p g o);have h:rs.length<=2 ^ 10:=aar I.len (by decide);rw[<- uW I G];unfold bD jN;generalize fJ (bI (cc rs)) rs (dm rs (dF ws xs))=T at *;generalize m9 (bI (cc rs)) rs (dm rs (dF ws xs))=S at *;generalize bI (cc rs)=b at *;generalize bI (dF ws xs)=c at *;have d:T.natAbs<=2 ^ (10+(250+a)):=aar t1 (by
  rw[Nat.pow_add 2 10,Nat.pow_add 2 250];exact aaG _ h)
 have s:S.natAbs<=2 ^ (10+(250+a+a)):=aar t2 (by
  rw[Nat.pow_add 2 10,Nat.pow_add 2 (250+a),Nat.pow_add 2 250];exact aaG _ h)
 have e:b*c<2 ^ (250+a):=bu i q;have f:(b:Int)*(c:Int)≠0:=λz=>by
  rcases Int.mul_eq_zero.mp z with z|z<;>left
 constructor
 ·refine x5 f (aap d (abB (by decide) (by left))) ?_;rw[Int.natAbs_mul,Int.natAbs_natCast,Int.natAbs_natCast];exact abi e (abB (by decide) (by left))
 ·refine x5 (λz=>by rcases Int.mul_eq_zero.mp z with z|z<;>exact f z) ?_ ?_
  ·refine aap (zu _ _) ?_;rw[Int.natAbs_mul,Int.natAbs_mul,Int.natAbs_natCast];have a1:b*S.natAbs<=2 ^ 250*2 ^ (10+(250+a+a)):=aaY (aa6 i) s;have a2:T.natAbs*T.natAbs<=2 ^ (10+(250+a))*2 ^ (10+(250+a)):=aaY d d;rw[<- Nat.pow_add]at a1 a2;have a3:(2:Nat) ^ (250+(10+(250+a+a)))<2 ^ (2*(260+a)):=abB (by decide) (by left);have a4:(2:Nat) ^ (2*(260+a)+1)=2 ^ (2*(260+a))*2:=Nat.pow_succ _ _;have a5:10+(250+a)+(10+(250+a))=2*(260+a):=by left
   rw[a5]at a2;rw[a4];generalize (2:Nat) ^ (2*(260+a))=u at *;generalize (2:Nat) ^ (250+(10+(250+a+a)))=v at *;left
  ·rw[Int.natAbs_mul,Int.natAbs_mul,Int.natAbs_natCast,Int.natAbs_natCast];have:=bu e e;exact abi this (abB (by decide) (by left))
theorem Iu{k n j:Nat}{rs:ae}(I:Dr k n rs)(G:Gs j n ws xs)(a:j<=50):Sm 3200 (eB rs ws xs)/\Sm 3200 (bD rs ws xs):=⟨(wI I G a).1.mono (by decide),(wI I G a).2.mono (by decide)⟩
theorem nK{k n j:Nat}{rs:ae}(I:Dr k n rs)(G:Gs j n ws xs)(a:j<=24):Sm 1800 (bD rs ws xs):=(wI I G a).2.mono (by decide)
def Na(m:aw):Prop:=∀N:Int,∃q:Rat,m [.int N]=ok (qD q)/\Sm 5 q
noncomputable def Hy:ai:=[.asg (.nm 1) (.bin .add (.int 1) (.bin .mod (.v 0) (.int 7))),.ret (.call 201 [(.bin .sub (.bin .mod (.bin .fdiv (.v 0) (.int 7)) (.int 39)) (.int 19)),(.v 1)])]
theorem UG(Φ:aV)(a:j6 (Φ 201)):Na (mk Φ 1 2 Hy):=by
 intro n;obtain⟨a1,a2⟩:=iL n (b:=7) (by decide);obtain⟨a3,a4⟩:=iL (n.fdiv 7) (b:=39) (by decide);have e:=a ((n.fdiv 7).fmod 39 - 19) (1+n.fmod 7) (by left) (mm (by left));have sq:Sm 5 (Rat.divInt ((n.fdiv 7).fmod 39 - 19) (1+n.fmod 7)):=x5 (by left) (by left) (by left);exact⟨_,by simp[mk_eq,Hy,e],sq⟩
def Jh(m:aw):Prop:=∀(ns:aa) (k:Int) (n:Nat),0<=k->n<=12->∃a:aC,m [.lst .sc (ah ns),.int k,.int n]=ok (.lst .ow (bj a))/\a.length=n/\∀q∈a,Sm 5 q
noncomputable def xP:ai:=[.app 3 (.call 255 [(.v 4)]),.asg (.nm 4) (.bin .fdiv (.v 4) (.int 273))]
def zo:ai:=[.asg (.nm 3) (.lst []),.asg (.nm 4) (.call 200 [(.v 0),(.v 1)]),.fr (.nm 5) (.mO (.v 2)) xP,.ret (.v 3)]
theorem vp(Φ:aV)(m:Na (Φ 255))(g f c:aH):∀(ks:af) (a:aC) (n:Int) (w:aH),a.length+ks.length<=1000->(∀q∈a,Sm 5 q) ->
  ∃(qs:aC) (n' j:aH),d9 (λd i=>cB (.nm 5) d i) (λi=>b8 Φ xP i) ks [g,f,c,some (.lst .ow (bj a)),some (.int n),w]=ok (.nx,[g,f,c,some (.lst .ow (bj qs)),n',j])/\qs.length=a.length+ks.length/\∀q∈qs,Sm 5 q
 |[],a,n,w,_,hs=>⟨a,some (.int n),w,rfl,rfl,hs⟩
 |k::ks,a,n,w,h,hs=>by
  simp only[List.length_cons]at h;obtain⟨q,e,sq⟩:=m n;obtain⟨qs,n',j,r,l,s⟩:=vp Φ m g f c ks (a++[q]) (n.fdiv 273) (some k) (by simp;left) (λp b=>by
   rcases List.mem_append.mp b with b|b
   ·exact hs p b
   ·have:p=q:=by simpa using b
    subst this;exact sq)
  have o:a.length<cE:=by show _<1000000;left
  refine⟨qs,n',j,cS (ρ1:=[g,f,c,some (.lst .ow (bj a)),some (.int n),some k]) (by simp) (ρ2:=[g,f,c,some (.lst .ow (bj (a++[q]))),some (.int (n.fdiv 273)),some k]) ?_ r,by rw[l];simp;left,s⟩;simp[xP,e,o]
theorem O7(Φ:aV)(m:xA (Φ 200))(j:Na (Φ 255)):Jh (mk Φ 3 6 zo):=by
 intro c k n g q;have e:=m c k g;have d:=Lj (Φ:=Φ) (a:=.v 2) (ρ:=[some (.lst .sc (ah c)),some (.int k),some (.int n),some (.lst .ow []),some (.int (gh c k)),none]) (n:=n) (by simp) (by left) (by left);obtain⟨f,p,o,i,l,s⟩:=vp Φ j (some (.lst .sc (ah c))) (some (.int k)) (some (.int n)) ((List.range (n:Int).toNat).map λ(k:Nat)=>D.int (k:Int)) [] (gh c k) none (by simp;left) (by simp);have h:=fb (t:=.nm 5) (b:=xP) d i;refine⟨f,?_,by simpa using l,s⟩;generalize gh c k=N at *;simp[mk_eq,zo,e,h]
theorem IV(p q:Rat):fi .eq (qD p) (qD q)=ok (.bl (decide (p=q))):=by
 show(if fI 40 (qD p)&&fI 40 (qD q)then ok (D.bl (mU (qD p) (qD q)))else none)=_;rw[Cg,Cg,IW];rfl
theorem dh{a:Type}{i j:Nat}{xs:List a}(c:i<=j)(b:j<=xs.length):(bA i j xs).length=j - i:=by unfold bA;simp;left
theorem Cy{a b:Type}(f:a->b)(i j:Nat)(xs:List a):bA i j (xs.map f)=(bA i j xs).map f:=by unfold bA;rw[<- List.map_drop,List.map_take]
theorem cI{a:Type}{i j:Nat}{xs:List a}{x:a}(h:x∈bA i j xs):x∈xs:=List.mem_of_mem_drop (List.mem_of_mem_take h)
theorem jT{i j:Nat}(c:i<=j)(b:j<=xs.length){h:Int}(d:0<=h)(a:h<((j - i:Nat):Int)):fm (bA i j xs) h=fm xs (i+h):=by
 unfold fm bA;rw[List.getD_eq_getElem?_getD,List.getD_eq_getElem?_getD,List.getElem?_take_of_lt (by left),List.getElem?_drop,show((i:Int)+h).toNat=i+h.toNat by left]
theorem Cw(a:Φ 1024=uV)(f:Fl){i j:Nat}(c:i<=j)(b:j<=xs.length):Φ 1024 [.lst f (bj xs),.int i,.int j]=ok (.lst .ow (bj (bA i j xs))):=by
 rw[a];show(if (0:Int)<=(i:Int)/\(i:Int)<=(j:Int)/\(j:Int)<=((bj xs).length:Int)then ok (D.lst .ow (aA bt (bA (i:Int).toNat (j:Int).toNat (bj xs))))else none)=_;rw[if_pos ⟨by left,by left,by simp;left⟩,Int.toNat_natCast,Int.toNat_natCast];unfold bj;rw[Cy];rw[dv bt (λq=>by simp)]
noncomputable def Bp:ai:=[.asg (.nm 5) (.call 202 [(.v 5),(.call 51 [(.v 7),(.cm 1024 [(.v 1),(.v 8),(.v 9)]),(.cm 1024 [(.v 2),(.v 8),(.v 9)])])]),.asg (.nm 6) (.call 202 [(.v 6),(.call 65 [(.v 7),(.cm 1024 [(.v 1),(.v 8),(.v 9)]),(.cm 1024 [(.v 2),(.v 8),(.v 9)])])])]
theorem yA(Φ:aV)(E:iS (Φ 51))(F:iz (Φ 65))(c:pV (Φ 202))(e:Φ 1024=uV){d:Dw}{i j:Nat}(T:mW d W)(b:i<=j)(g:j - i=d.1)(hw:j<=ws.length)(f:j<=xs.length)(r:∀q∈ws,Sm 5 q)(o:∀q∈xs,Sm 5 q){p q:Rat}(w:Sm 3200 p)(a:Sm 3200 q)(n m l:aH):
  b8 Φ Bp [n,some (.lst .fz (bj ws)),some (.lst .fz (bj xs)),m,l,some (qD p),some (qD q),some (cj .fz d),some (.int i),some (.int j)] =
   ok (.nx,[n,some (.lst .fz (bj ws)),some (.lst .fz (bj xs)),m,l,some (qD (p+eB d.2 (bA i j ws) (bA i j xs))),some (qD (q+bD d.2 (bA i j ws) (bA i j xs))),some (cj .fz d),some (.int i),some (.int j)]):=by
 have D:=Cw e .fz b hw;have C:=Cw e .fz b f;have G:Gs 5 d.1 (bA i j ws) (bA i j xs):=⟨by rw[dh b hw];exact g,by rw[dh b f];exact g,λq a=>r q (cI a),λq a=>o q (cI a),by decide⟩
 have k:=E 8 d.1 d.2 .fz .fz _ _ 5 T.dr G (by decide);have h:=F 8 d.1 d.2 .fz .fz _ _ 5 T.dr G (by decide);obtain⟨t,s⟩:=Iu T.dr G (by decide);have z:=c p _ (w.mono (by decide)) (t.mono (by decide));have y:=c q _ (a.mono (by decide)) (s.mono (by decide));have x:bV d.1 d.2=cj .fz d:=rfl;rw[x]at k h;have v:aO bt (cj .fz d)=cj .fz d:=b9 _ _ _;have u:aO bo (cj .fz d)=cj .fz d:=b9 _ _ _;generalize eB d.2 (bA i j ws) (bA i j xs)=A at *;generalize bD d.2 (bA i j ws) (bA i j xs)=B at *;generalize cj .fz d=Y at *;simp[Bp,D,C,v,u,k,h,z,y]
theorem sE:mW (2,[(1,[0,1])]) 1:=by
 refine⟨⟨by decide,by decide,⟨1,by decide,Nat.one_lt_two_pow (by decide),λr a=>by rw[List.mem_singleton.mp a];decide⟩,by decide,λr a=>?_,λr a=>by rw[List.mem_singleton.mp a];decide,λr a=>by rw[List.mem_singleton.mp a];constructor<;>decide,by decide +kernel,?_,8,⟨λq b=>?_,by decide,by decide⟩⟩,by decide,by decide,by decide,by decide,λr a=>by rw[List.mem_singleton.mp a];decide⟩
 ·rw[List.mem_singleton.mp a];refine⟨by decide,λh c=>?_⟩;have:h=0\/h=1:=by simpa using c
  show 0<=h/\h<2;left
 ·show qA [[0,1]];simp[qA]
 ·rw[List.mem_singleton.mp b];constructor<;>decide
section
variable {d e:Dw}{Wd We:Nat}(Td:mW d Wd)(Te:mW e We)
include Td Te
theorem Vi:Nj [d,e]:=by
 have c:=Td.n3;have b:=Te.n3;refine⟨by simp,by simp,λx a=>?_,λx a=>?_,?_,?_⟩
 ·rcases List.mem_cons.mp a with rfl|a
  ·exact Td.dr
  ·rw[List.mem_singleton.mp a];exact Te.dr
 ·rcases List.mem_cons.mp a with rfl|a
  ·exact Td.pI
  ·rw[List.mem_singleton.mp a];exact Te.pI
 ·simp[cp];left
 ·have:d.2.length*e.2.length<=6*6:=aaY Td.pI Te.pI;simp[uI];left
omit Td Te in
theorem wM:lq [d,e]=allR (aQ 0 [d,e]) [(1,[0,1])]:=by
 unfold lq allR;simp[bN,aQ]
theorem P4(hw:ws.length=d.1+e.1)(r:xs.length=d.1+e.1)(n:∀q∈ws,Sm 5 q)(m:∀q∈xs,Sm 5 q):
  eB (bq (lq [d,e])) ws xs=eB d.2 (bA 0 d.1 ws) (bA 0 d.1 xs)+eB e.2 (bA d.1 (d.1+e.1) ws) (bA d.1 (d.1+e.1) xs) /\
  bD (bq (lq [d,e])) ws xs=bD d.2 (bA 0 d.1 ws) (bA 0 d.1 xs)+bD e.2 (bA d.1 (d.1+e.1) ws) (bA d.1 (d.1+e.1) xs):=by
 have I:=Cv sE Td Te;rw[<- wM (d:=d) (e:=e)]at I;have G:Gs 5 (d.1+e.1) ws xs:=⟨hw,r,n,m,by decide⟩
 have u:Gs 5 d.1 (bA 0 d.1 ws) (bA 0 d.1 xs):=⟨by rw[dh (by left) (by left)];left,by rw[dh (by left) (by left)];left,λq i=>n q (cI i),λq i=>m q (cI i),by decide⟩
 have t:Gs 5 e.1 (bA d.1 (d.1+e.1) ws) (bA d.1 (d.1+e.1) xs):=⟨by rw[dh (by left) (by left)];left,by rw[dh (by left) (by left)];left,λq i=>n q (cI i),λq i=>m q (cI i),by decide⟩
 rw[dK I G,dK Td.dr u,dK Te.dr t];obtain⟨a1,a2⟩:=wa sE Td Te λh=>fm ws h*fm xs h;rw[<- wM (d:=d) (e:=e)]at a1 a2;obtain⟨p,o⟩:=gc Td.dr (f:=λh=>fm ws h*fm xs h) (g:=λh=>fm (bA 0 d.1 ws) h*fm (bA 0 d.1 xs) h) λh j l=>by
  rw[jT (by left) (by left) j (by left),jT (by left) (by left) j (by left),show((0:Nat):Int)+h=h by left]
 obtain⟨q1,q2⟩:=gc Te.dr (f:=λh=>fm ws (d.1+h)*fm xs (d.1+h)) (g:=λh=>fm (bA d.1 (d.1+e.1) ws) h*fm (bA d.1 (d.1+e.1) xs) h) λh j l=>by
  rw[jT (by left) (by left) j (by left),jT (by left) (by left) j (by left)]
 rw[p,q1]at a1 a2;rw[o,q2]at a2;have c:∀a b:Rat,eQ (tw a b) [(1,[0,1])]=a+b/\vQ (tw a b) [(1,[0,1])]=0:=λa b=>by
  have s:bh [0,1] (tw a b)=a+b:=by
   show tw a b 0+(tw a b 1+0)=_;rw[show tw a b 0=a from rfl,show tw a b 1=b from rfl];grind
  have l:eQ (tw a b) [(1,[0,1])]=a+b:=by
   show(1:Rat)*bh [0,1] (tw a b)+0=_;rw[s];grind
  refine⟨l,?_⟩;unfold vQ;rw[l];show((1:Rat)*(bh [0,1] (tw a b)*bh [0,1] (tw a b))+0) - _=_;rw[s];grind
 rw[(c _ _).1]at a1;rw[(c _ _).2,(c _ _).1]at a2;refine⟨a1,?_⟩;have z:∀(rs:ae) (k zs:aC),Fv rs k zs - eB rs k zs*eB rs k zs=vQ (λh=>fm k h*fm zs h) rs:=λ_ _ _=>rfl;rw[z,z,z,a2];grind
end
noncomputable def ME:CE:=.lst [(.tup [(.ix (.v 0) (.int 0)),(.int 0),(.v 3)]),(.tup [(.ix (.v 0) (.int 1)),(.v 3),(.bf .len [(.v 2)])])]
def Hv:ai:=[.asg (.nm 3) (.ix (.ix (.v 0) (.int 0)) (.int 0)),.asg (.nm 4) (.call 103 [(.v 0)]),.asg (.nm 5) (.tup [(.int 0),(.int 1)]),.asg (.nm 6) (.tup [(.int 0),(.int 1)]),.fr (.tp [7,8,9]) (.seq ME) Bp,.ret (.and [(.cmp .eq (.call 51 [(.v 4),(.v 1),(.v 2)]) (.v 5)),(.cmp .eq (.call 65 [(.v 4),(.v 1),(.v 2)]) (.v 6))])]
def R5(m:aw):Prop:=∀(d e:Dw) (b a:Nat) (ws xs:aC),mW d b->mW e a->ws.length=d.1+e.1->xs.length=d.1+e.1->(∀q∈ws,Sm 5 q)->(∀q∈xs,Sm 5 q)->m [.lst .fz (aU .fz [d,e]),.lst .fz (bj ws),.lst .fz (bj xs)]=ok (.bl true)
theorem UC(Φ:aV)(r:iS (Φ 51))(s:iz (Φ 65))(W2:R4 (Φ 103))(z:pV (Φ 202))(C:Φ 1024=uV):R5 (mk Φ 3 10 Hv):=by
 intro d e Wd We ws xs g h hw l c a;have u:Sm 3200 (0:Rat):=(show Sm 1 (0:Rat) by constructor<;>decide).mono (by decide);have G0:Gs 5 d.1 (bA 0 d.1 ws) (bA 0 d.1 xs):=⟨by rw[dh (by left) (by left)];left,by rw[dh (by left) (by left)];left,λq m=>c q (cI m),λq m=>a q (cI m),by decide⟩
 obtain⟨L,K⟩:=Iu g.dr G0 (by decide);obtain⟨S,Q⟩:=P4 g h hw l c a;have o:=W2 [d,e] (Vi g h);have I:=Cv sE g h;rw[<- wM (d:=d) (e:=e)]at I;have G:Gs 5 (d.1+e.1) ws xs:=⟨hw,l,c,a,by decide⟩
 have E:=r 24 (d.1+e.1) (bq (lq [d,e])) .fz .fz ws xs 5 I G (by decide);have D:=s 24 (d.1+e.1) (bq (lq [d,e])) .fz .fz ws xs 5 I G (by decide);have H:cp [d,e]=((d.1+e.1:Nat):Int):=by simp[cp]
 rw[H]at o;have u1:=λp=>yA Φ r s z C g (i:=0) (j:=d.1) (by left) (by left) (by left) (by left) c a u u (some (.lst .fz (aU .fz [d,e]))) (some (.int d.1)) p;rw[Rat.zero_add,Rat.zero_add]at u1;have u2:=λp=>yA Φ r s z C h (i:=d.1) (j:=d.1+e.1) (by left) (by left) (by left) (by left) c a L K (some (.lst .fz (aU .fz [d,e]))) (some (.int d.1)) p;rw[<- S,<- Q]at u2;have q0:qD 0=.tup [.int 0,.int 1]:=rfl;rw[q0]at u1;have Z:aU .fz [d,e]=[cj .fz d,cj .fz e]:=rfl;have Y:bV (d.1+e.1) (bq (lq [d,e]))=.tup [.int ((d.1+e.1:Nat):Int),.lst .fz (bg (bq (lq [d,e])))]:=rfl;rw[Y]at E D;have F:mq (cj .fz d) (.int 0)=ok (.int d.1):=by show mq (.tup [.int d.1,.lst .fz (bg d.2)]) (.int 0)=_;simp
 have y:aO bt (cj .fz d)=cj .fz d:=b9 _ _ _;have x:aO bo (cj .fz d)=cj .fz d:=b9 _ _ _;have w:aO bt (cj .fz e)=cj .fz e:=b9 _ _ _;have v:aO bo (cj .fz e)=cj .fz e:=b9 _ _ _;have P:aT b6 (cj .fz d)=false:=jU _ _ _;have O:aT b6 (cj .fz e)=false:=jU _ _ _;have WA:aT cG (cj .fz d)=false:=jU _ _ _;have Wz:aT cG (cj .fz e)=false:=jU _ _ _;simp only[Z]at o u1 u2 ⊢;have VJ:(xs.length:Int)=((d.1+e.1:Nat):Int):=by rw[l]
 have r1:aA bt (bg (bq (lq [d,e])))=bg (bq (lq [d,e])):=bZ _ _;have r2:aA bo (bg (bq (lq [d,e])))=bg (bq (lq [d,e])):=bZ _ _;have r3:aA iK (bg (bq (lq [d,e])))=bg (bq (lq [d,e])):=bZ _ _;have M:aP b6 (bg (bq (lq [d,e])))=false:=fg _ _;generalize bg (bq (lq [d,e]))=R at *;generalize eB (bq (lq [d,e])) ws xs=A at *;generalize bD (bq (lq [d,e])) ws xs=B at *;generalize eB d.2 (bA 0 d.1 ws) (bA 0 d.1 xs)=A0 at *;generalize bD d.2 (bA 0 d.1 ws) (bA 0 d.1 xs)=B0 at *;generalize cj .fz d=U at *;generalize cj .fz e=V at *;generalize hN:((d.1+e.1:Nat):Int)=N at *;have X:d9 (λd k=>cB (.tp [7,8,9]) d k) (λk=>b8 Φ Bp k) [.tup [U,.int 0,.int d.1],.tup [V,.int d.1,.int N]] [some (.lst .fz [U,V]),some (.lst .fz (bj ws)),some (.lst .fz (bj xs)),some (.int d.1),some (.tup [.int N,.lst .ow R]),some (.tup [.int 0,.int 1]),some (.tup [.int 0,.int 1]),none,none,none] =
   ok (.nx,[some (.lst .fz [U,V]),some (.lst .fz (bj ws)),some (.lst .fz (bj xs)),some (.int d.1),some (.tup [.int N,.lst .ow R]),some (qD A),some (qD B),some V,some (.int d.1),some (.int N)]):=by
  refine cS (ρ1:=[some (.lst .fz [U,V]),some (.lst .fz (bj ws)),some (.lst .fz (bj xs)),some (.int d.1),some (.tup [.int N,.lst .ow R]),some (.tup [.int 0,.int 1]),some (.tup [.int 0,.int 1]),some U,some (.int 0),some (.int d.1)]) (by simp[WA]) (by exact u1 _) ?_;refine cS (ρ1:=[some (.lst .fz [U,V]),some (.lst .fz (bj ws)),some (.lst .fz (bj xs)),some (.int d.1),some (.tup [.int N,.lst .ow R]),some (qD A0),some (qD B0),some V,some (.int d.1),some (.int N)]) (by simp[Wz]) (by exact u2 _) ?_;rfl
 have n:cC Φ (.seq ME) [some (.lst .fz [U,V]),some (.lst .fz (bj ws)),some (.lst .fz (bj xs)),some (.int d.1),some (.tup [.int N,.lst .ow R]),some (.tup [.int 0,.int 1]),some (.tup [.int 0,.int 1]),none,none,none]=ok ([.tup [U,.int 0,.int d.1],.tup [V,.int d.1,.int N]],[some (.lst .fz [U,V]),some (.lst .fz (bj ws)),some (.lst .fz (bj xs)),some (.int d.1),some (.tup [.int N,.lst .ow R]),some (.tup [.int 0,.int 1]),some (.tup [.int 0,.int 1]),none,none,none]):=by
  rw[pf (f:=.ow) (ds:=[.tup [U,.int 0,.int d.1],.tup [V,.int d.1,.int N]]) (by unfold ME;simp[y,w,VJ])];simp[x,v,P,O]
 have T:=fb (Φ:=Φ) (t:=.tp [7,8,9]) (b:=Bp) n X;simp[mk_eq,Hv,y,x,w,v,F,o,r1,r2,r3,M,T,E,D,IV]
theorem IA{p:Rat}(h:0<p):(1 / p).num=p.den/\((1 / p).den:Int)=p.num:=by
 have k:0<p.num:=qO h;have l:=p.den_pos
 let q:Rat:=⟨p.den,p.num.natAbs,by left,by
  have:=p.reduced;rw[Int.natAbs_natCast];exact Nat.Coprime.symm this⟩
 have e:1 / p=q:=by
  have d:=eh p;have c:=eh q;rw[Rat.divInt_eq_div]at d c;have g:((q.den:Int):Rat)=(p.num:Rat):=by
   show(((p.num.natAbs:Nat):Int):Rat)=_;rw[show((p.num.natAbs:Nat):Int)=p.num by left]
  have f:((q.num:Int):Rat)=((p.den:Int):Rat):=rfl;rw[g,f]at c;have j:(p.num:Rat)≠0:=λz=>by rw[Rat.intCast_eq_zero_iff]at z;left
  have i:((p.den:Int):Rat)≠0:=λz=>by rw[Rat.intCast_eq_zero_iff]at z;left
  rw[<- d,<- c];generalize (p.num:Rat)=a at *;generalize ((p.den:Int):Rat)=b at *;grind
 rw[e];exact⟨rfl,by show((p.num.natAbs:Nat):Int)=_;left⟩
theorem Qm{p:Rat}(h:0<p):D.tup [.int p.den,.int p.num]=qD (1 / p):=by
 obtain⟨a,b⟩:=IA h;show _=D.tup [.int (1 / p).num,.int (1 / p).den];rw[a,b]
theorem pg{p:Rat}{k:Nat}(h:0<p)(s:Sm k p):Sm k (1 / p):=by
 obtain⟨a,b⟩:=IA h;have:=s.1;have:=s.2;exact⟨by rw[a,Int.natAbs_natCast];left,by left⟩
theorem jn{k n:Nat}{rs:ae}(I:Dr k n rs)(he:∃r∈rs,r.2=dz n){h:Int}(g:0<=h)(f:h<(n:Int)):0<aR rs h h:=by
 obtain⟨r,a,e⟩:=he;unfold aR;have d:r∈rs.filter (dA h h):=List.mem_filter.mpr ⟨a,by
  have:h∈r.2:=by rw[e];exact xJ g f
  simp[dA,this]⟩
 have:=(dJ (l:=cc (rs.filter (dA h h))) (q:=r.1) (λx b=>by
  obtain⟨s,c,rfl⟩:=List.mem_map.mp b;exact I.pos s (List.mem_filter.mp c).1) (aaq d)).2
 have:=I.pos r a;grind
theorem x9{k n j:Nat}{rs:ae}(I:Dr k n rs)(a:0<W)(b:W<2 ^ j)(c:∀r∈rs,r.1.den∣W)(h:Int):Sm j (aR rs h h):=by
 obtain⟨e,d⟩:=uN I h h;exact k_ e d (aap (aba a (qT c a h h)) b)
theorem wC{k n:Nat}{rs:ae}(I:Dr k n rs)(hs:∀h:Int,0<=h->h<(n:Int)->0<aR rs h h):(gM n rs).map yd=bj (jQ n rs):=by
 unfold bj jQ;rw[List.map_map];refine aak λq a=>?_;obtain⟨x,b,rfl⟩:=nM a;unfold yd;rw[if_pos (hs x (by left) (by left))];rfl
theorem oQ{k n j:Nat}{rs:ae}(I:Dr k n rs)(d:0<W)(b:W<2 ^ j)(c:∀r∈rs,r.1.den∣W)(hs:∀h:Int,0<=h->h<(n:Int)->0<aR rs h h):∀q∈jQ n rs,Sm j q:=λq a=>by
 unfold jQ at a;obtain⟨s,e,rfl⟩:=List.mem_map.mp a;obtain⟨x,f,rfl⟩:=nM e;exact pg (hs x (by left) (by left)) (x9 I d b c _)
theorem xU{qs:aC}(d:qs.length<=3)(hs:∀q∈qs,Sm 5 q):Sm 24 qs.sum:=by
 match qs,d,hs with
 |[],_,_=>exact(show Sm 1 (0:Rat) by constructor<;>decide).mono (by decide)
 |[a],_,hs=>rw[List.sum_singleton];exact(hs a (by simp)).mono (by decide)
 |[a,b],_,hs =>
  rw[List.sum_cons,List.sum_singleton];exact((hs a (by simp)).add (hs b (by simp))).mono (by decide)
 |[a,b,c],_,hs =>
  rw[List.sum_cons,List.sum_cons,List.sum_singleton];exact((hs a (by simp)).add ((hs b (by simp)).add (hs c (by simp)))).mono (by decide)
noncomputable def y2:CE:=.comp 1 (.nm 0) [4,9] .seq [(.call 20 [(.ix (.v 1) (.v 9))])] [] (.call 203 [(.ix (.v 1) (.v 2)),(.v 0)])
def ue:ai:=[.asg (.nm 10) (.cm 1024 [(.v 2),(.v 8),(.bin .add (.v 8) (.ix (.ix (.v 1) (.v 9)) (.int 0)))]),.asg (.nm 8) (.bin .add (.v 8) (.ix (.ix (.v 1) (.v 9)) (.int 0))),.asg (.nm 5) (.bin .add (.v 5) y2),.app 6 (.call 52 [(.v 10)]),.asg (.nm 11) (.call 65 [(.ix (.v 1) (.v 9)),(.call 53 [(.ix (.v 1) (.v 9))]),(.v 10)]),.asg (.nm 7) (.call 202 [(.v 7),(.call 203 [(.v 11),(.tup [(.ix (.ix (.v 4) (.v 9)) (.int 1)),(.ix (.ix (.v 4) (.v 9)) (.int 0))])])])]
theorem yC(Φ:aV)(IJ:lT (Φ 20))(To:kM (Φ 52))(NS:tT (Φ 53))(AV:iz (Φ 65))(j_:pV (Φ 202))(C:eY (Φ 203))(i6:Φ 1024=uV){y:Dw}{i j g:Nat}(T:mW y W)(hy:∃r∈y.2,r.2=dz y.1){Ds:List Dw}(hg:Ds[g]?=some y){sh du su:aC}{π b:Rat}(VS:sh[g]?=some π)(p:0<π)(o:Sm 8 π)(jA:j=i+y.1)(I:j<=xs.length)(V:∀q∈xs,Sm 5 q)(hdu:du.length<=10)(hsu:su.length<=10)(u:Sm 1900 b)(x w c e:aH):
  b8 Φ ue [x,some (.lst .fz (aU .fz Ds)),some (.lst .fz (bj xs)),w,some (.lst .ow (bj sh)),some (.lst .ow (bj du)),some (.lst .ow (bj su)),some (qD b),some (.int i),some (.int g),c,e] =
   ok (.nx,[x,some (.lst .fz (aU .fz Ds)),some (.lst .fz (bj xs)),w,some (.lst .ow (bj sh)),some (.lst .ow (bj (du++(gM y.1 y.2).map λs=>π*s))),some (.lst .ow (bj (su++[(bA i j xs).sum]))),some (qD (b+bD y.2 (jQ y.1 y.2) (bA i j xs)*(1 / π))),some (.int j),some (.int g),some (.lst .ow (bj (bA i j xs))),some (qD (bD y.2 (jQ y.1 y.2) (bA i j xs)))]):=by
 have a:∀h:Int,0<=h->h<(y.1:Int)->0<aR y.2 h h:=λh h0 h1=>jn T.dr hy h0 h1;have y3:=T.n3;have y1:=T.dr.n1;have X:(bA i j xs).length=y.1:=by rw[dh (by left) I];left
 have E:∀q∈bA i j xs,Sm 5 q:=λq t=>V q (cI t);have e1:∀f,Φ 1024 [.lst f (bj xs),.int (i:Int),.int (j:Int)]=ok (.lst .ow (bj (bA i j xs))):=λf=>Cw i6 f (by left) I;have M:=IJ 8 y.1 y.2 T.dr;have v:=NS 8 y.1 y.2 T.dr;rw[wC T.dr a]at v;have G:Gs 8 y.1 (jQ y.1 y.2) (bA i j xs):=⟨lb _ _,X,oQ T.dr T.w0 T.w8 T.wd a,λq t=>(E q t).mono (by decide),by decide⟩
 have K:=AV 8 y.1 y.2 .fz .fz _ _ 8 T.dr G (by decide);have B:=nK T.dr G (by decide);have e5:=λf=>To f (bA i j xs) 5 (by left) (by left) ⟨E,by left,by left⟩;have e6:=C (bD y.2 (jQ y.1 y.2) (bA i j xs)) (1 / π) (B.mono (by decide)) ((pg p o).mono (by decide));have e7:=j_ b (bD y.2 (jQ y.1 y.2) (bA i j xs)*(1 / π)) (u.mono (by decide)) ((B.mul (pg p o)).mono (by decide));have eD:bV y.1 y.2=cj .fz y:=rfl;rw[eD]at M v K;have Wj:∀f,vP (aU f Ds) (g:Int)=ok (cj (bt f) y):=λf=>by
  have:=mD (ds:=aU f Ds) (n:=g) (d:=cj f y) (by unfold aU;rw[List.getElem?_map,hg];rfl);rw[this,b9]
 have R:vP (bj sh) (g:Int)=ok (qD π):=by
  have:=mD (ds:=bj sh) (n:=g) (d:=qD π) (by unfold bj;rw[List.getElem?_map,VS];rfl);rw[this];simp
 have S:mq (cj .fz y) (.int 0)=ok (.int y.1):=by show mq (.tup [.int y.1,.lst .fz (bg y.2)]) (.int 0)=_;simp
 have m1:aO bt (cj .fz y)=cj .fz y:=b9 _ _ _;have H:aO bo (cj .fz y)=cj .fz y:=b9 _ _ _;have F:aA bt (aU .fz Ds)=aU .fz Ds:=by rw[bz];rfl
 have z:=Wj .fz;have U:bt .fz=.fz:=rfl;rw[U]at z;have m:mq (qD π) (.int 0)=ok (.int π.num):=by show mq (.tup [.int π.num,.int π.den]) (.int 0)=_;simp
 have l:mq (qD π) (.int 1)=ok (.int π.den):=by show mq (.tup [.int π.num,.int π.den]) (.int 1)=_;simp
 have hi:=Qm p;have EB:∀s∈gM y.1 y.2,Sm 8 s:=λs a=>by
  obtain⟨k,_,rfl⟩:=nM a;exact x9 T.dr T.w0 T.w8 T.wd _
 have el:∀Q P O N c e,bG Φ y2 [x,some (.lst .fz (aU .fz Ds)),some (.lst .fz (bj xs)),w,some (.lst .ow (bj sh)),Q,P,O,N,some (.int g),c,e]=ok (.lst .ow (bj ((gM y.1 y.2).map λs=>π*s))):=λQ P O N c e=>by
  unfold y2;rw[bW (xs:=[.lst .ow (bj (gM y.1 y.2))]) (items:=bj (gM y.1 y.2)) (ds:=(gM y.1 y.2).map λs=>qD (π*s)) (by simp[F,z,H,M]) (by rw[cA];simp) ?_ (by rw[List.length_map,x_];exact bL (by left))]
  ·have:((gM y.1 y.2).map λs=>qD (π*s))=bj ((gM y.1 y.2).map λs=>π*s):=by unfold bj;rw[List.map_map];rfl
   rw[this];simp
  ·rw[show bj (gM y.1 y.2)=(gM y.1 y.2).map qD from rfl];refine bH λs a=>⟨[some (qD s),some (.lst .fz (bj sh)),some (.int g)],by simp[bF],by simp,?_⟩
   have:=C π s (o.mono (by decide)) ((EB s a).mono (by decide));simp[R,this]
 have hc:su.length<cE:=by show _<1000000;left
 have ci:((i:Int)+(y.1:Int))=(j:Int):=by left
 have ba:cL .add (.lst .al (bj du)) (.lst .ow (bj ((gM y.1 y.2).map λs=>π*s)))=ok (.lst .ow (bj (du++(gM y.1 y.2).map λs=>π*s))):=by
  show(if vf .al=false/\vf .ow=false/\(bj du).length+(bj ((gM y.1 y.2).map λs=>π*s)).length<=cE then ok (D.lst .ow (aA bt (bj du++bj ((gM y.1 y.2).map λs=>π*s))))else none)=_;rw[if_pos ⟨rfl,rfl,by simp;show _<=1000000;left⟩,show bj du++bj ((gM y.1 y.2).map λs=>π*s)=bj (du++(gM y.1 y.2).map λs=>π*s) by unfold bj;rw[List.map_append]];simp
 generalize aU .fz Ds=L at *;generalize cj .fz y=Y at *;generalize (gM y.1 y.2).map (λs=>π*s)=SS at *;generalize bD y.2 (jQ y.1 y.2) (bA i j xs)=SP at *;generalize bA i j xs=Z at *;simp[ue,AM Φ y2 _ rfl,F,z,m1,H,S,ci,e1,el,ba,e5,hc,v,K,R,m,l,hi,e6,e7]
theorem PL(f g:Fl)(a:aC):fi .ne (.lst f (bj a)) (.lst g (bj a))=ok (.bl false):=by
 show(if fI 40 (.lst f (bj a))&&fI 40 (.lst g (bj a))then ok (D.bl (!fh (bj a) (bj a)))else none)=_;have o:∀f,fI 40 (.lst f (bj a))=true:=λf=>by rw[F4];exact sF (Cg 38) a
 rw[o,o,GY];simp
section
variable {gs:ae}{d e:Dw}{Wg Wd We:Nat}(Tg:mW (2,gs) Wg)(Td:mW d Wd)(Te:mW e We)(hg:∃r∈gs,r.2=dz 2)(hd:∃r∈d.2,r.2=dz d.1)(he:∃r∈e.2,r.2=dz e.1)
include Tg Td Te hg hd he
theorem Jt(h:Int)(a:0<=h)(b:h<((d.1+e.1:Nat):Int)):0<aR (bq (allR (aQ 0 [d,e]) gs)) h h:=by
 rw[oG Tg Td Te h a b];have f:=jn (n:=2) Tg.dr hg (h:=0) (by decide) (by decide);have c:=jn (n:=2) Tg.dr hg (h:=1) (by decide) (by decide);split
 ·rename_i z;exact abG f (jn Td.dr hd a z)
 ·rename_i z;exact abG c (jn Te.dr he (by left) (by left))
omit hg hd he in
theorem Oi:gM (d.1+e.1) (bq (allR (aQ 0 [d,e]) gs))=((gM d.1 d.2).map λs=>aR gs 0 0*s)++(gM e.1 e.2).map λs=>aR gs 1 1*s:=by
 refine abv λi=>?_;by_cases h:i<d.1
 ·rw[la _ (by left),List.getElem?_append_left (by simp;exact h),List.getElem?_map,la _ h,oG Tg Td Te i (by left) (by left),if_pos (by left)];rfl
 ·by_cases a:i<d.1+e.1
  ·rw[la _ a,List.getElem?_append_right (by simp;left),List.getElem?_map,List.length_map,x_,la _ (by left),oG Tg Td Te i (by left) (by left),if_neg (by left)];show _=some (aR gs 1 1*aR e.2 ((i - d.1:Nat):Int) ((i - d.1:Nat):Int));rw[show((i - d.1:Nat):Int)=(i:Int) - d.1 by left]
  ·rw[List.getElem?_eq_none (by simp;left),List.getElem?_eq_none (by simp;left)]
end
def lP:ai:=[.asg (.nm 3) (.call 104 [(.v 0),(.v 1)]),.asg (.nm 4) (.call 20 [(.v 0)]),.asg (.nm 5) (.lst []),.asg (.nm 6) (.lst []),.asg (.nm 7) (.tup [(.int 0),(.int 1)]),.asg (.nm 8) (.int 0),.fr (.nm 9) (.mO (.int 2)) ue,.ifs (.cmp .ne (.call 20 [(.v 3)]) (.v 5)) [.ret (.bl false)] [],.asg (.nm 11) (.call 202 [(.call 65 [(.v 0),(.call 53 [(.v 0)]),(.v 6)]),(.v 7)]),.ret (.cmp .eq (.call 65 [(.v 3),(.call 53 [(.v 3)]),(.v 2)]) (.v 11))]
def Jg(m:aw):Prop:=∀(gs:ae) (d e:Dw) (a c b:Nat) (xs:aC),mW (2,gs) a->mW d c->mW e b->(∃r∈gs,r.2=dz 2)->(∃r∈d.2,r.2=dz d.1)->(∃r∈e.2,r.2=dz e.1)->xs.length=d.1+e.1->(∀q∈xs,Sm 5 q)->m [bV 2 gs,.lst .fz (aU .fz [d,e]),.lst .fz (bj xs)]=ok (.bl true)
theorem O6(Φ:aV)(B:lT (Φ 20))(To:kM (Φ 52))(z:tT (Φ 53))(C:iz (Φ 65))(WZ:RY (Φ 104))(H:pV (Φ 202))(qq:eY (Φ 203))(i6:Φ 1024=uV):Jg (mk Φ 3 12 lP):=by
 intro gs d e Wg Wd We xs Tg c a hg P O hx p;have d3:=c.n3;have e3:=a.n3;obtain⟨K,hc⟩:=XS Tg c a;have e1:=WZ 2 gs [d,e] K hc;obtain⟨I,w0,Z3,wd⟩:=Cu Tg c a;have sn:cp [d,e]=((d.1+e.1:Nat):Int):=by simp[cp]
 rw[sn]at e1;have e2:=B 8 2 gs Tg.dr;have u:∀h:Int,0<=h->h<((2:Nat):Int)->0<aR gs h h:=λh l r=>jn (n:=2) Tg.dr hg l r;have dp:∀h:Int,0<=h->h<(d.1:Int)->0<aR d.2 h h:=λh l r=>jn c.dr P l r;have ep:∀h:Int,0<=h->h<(e.1:Int)->0<aR e.2 h h:=λh l r=>jn a.dr O l r;have X:=Jt Tg c a hg P O;have p0:=u 0 (by decide) (by decide);have p1:=u 1 (by decide) (by decide);have q0:Sm 8 (aR gs 0 0):=x9 Tg.dr Tg.w0 Tg.w8 Tg.wd 0;have q1:Sm 8 (aR gs 1 1):=x9 Tg.dr Tg.w0 Tg.w8 Tg.wd 1;have es:gM 2 gs=[aR gs 0 0,aR gs 1 1]:=rfl;have Yr:(bA 0 d.1 xs).length=d.1:=by rw[dh (by left) (by left)];left
 have Yq:(bA d.1 (d.1+e.1) xs).length=e.1:=by rw[dh (by left) (by left)];left
 have G0:Gs 8 d.1 (jQ d.1 d.2) (bA 0 d.1 xs):=⟨lb _ _,Yr,oQ c.dr c.w0 c.w8 c.wd dp,λq f=>(p q (cI f)).mono (by decide),by decide⟩
 have G1:Gs 8 e.1 (jQ e.1 e.2) (bA d.1 (d.1+e.1) xs):=⟨lb _ _,Yq,oQ a.dr a.w0 a.w8 a.wd ep,λq f=>(p q (cI f)).mono (by decide),by decide⟩
 have s0:=nK c.dr G0 (by decide);have s1:=nK a.dr G1 (by decide);have o0:Sm 1808 (bD d.2 (jQ d.1 d.2) (bA 0 d.1 xs)*(1 / aR gs 0 0)):=s0.mul (pg p0 q0);have o1:Sm 1808 (bD e.2 (jQ e.1 e.2) (bA d.1 (d.1+e.1) xs)*(1 / aR gs 1 1)):=s1.mul (pg p1 q1);have z0:Sm 1900 (0:Rat):=(show Sm 1 (0:Rat) by constructor<;>decide).mono (by decide);have u1:=λS T U=>yC Φ B To z C H qq i6 c P (Ds:=[d,e]) (g:=0) rfl (sh:=gM 2 gs) (π:=aR gs 0 0) (by rw[es];rfl) p0 q0 (i:=0) (j:=d.1) (by left) (by left) p (du:=[]) (su:=[]) (by decide) (by decide) z0 (some (bV 2 gs)) S T U;rw[Rat.zero_add,List.nil_append,List.nil_append]at u1;have u2:=λS T U=>yC Φ B To z C H qq i6 a O (Ds:=[d,e]) (g:=1) rfl (sh:=gM 2 gs) (π:=aR gs 1 1) (by rw[es];rfl) p1 q1 (i:=d.1) (j:=d.1+e.1) rfl (by left) p (du:=(gM d.1 d.2).map λs=>aR gs 0 0*s) (su:=[(bA 0 d.1 xs).sum]) (by simp;left) (by simp) (o0.mono (by decide)) (some (bV 2 gs)) S T U;rw[<- Oi Tg c a]at u2;have e4:=B 24 (d.1+e.1) _ I;have e5:=z 8 2 gs Tg.dr;rw[wC (n:=2) Tg.dr u]at e5;have Q:=z 24 (d.1+e.1) _ I;rw[wC I X]at Q;have V:Gs 24 2 (jQ 2 gs) [(bA 0 d.1 xs).sum,(bA d.1 (d.1+e.1) xs).sum]:=⟨lb _ _,rfl,λq f=>(oQ (n:=2) Tg.dr Tg.w0 Tg.w8 Tg.wd u q f).mono (by decide),λq f=>by
  have:q=(bA 0 d.1 xs).sum\/q=(bA d.1 (d.1+e.1) xs).sum:=by simpa using f
  rcases this with rfl|rfl
  ·exact xU (by left) λq f=>p q (cI f)
  ·exact xU (by left) λq f=>p q (cI f),by decide⟩
 have GW:Gs 24 (d.1+e.1) (jQ (d.1+e.1) (bq (allR (aQ 0 [d,e]) gs))) xs:=⟨lb _ _,hx,oQ I w0 Z3 wd X,λq f=>(p q f).mono (by decide),by decide⟩
 have e7:=C 8 2 gs .fz .fz _ _ 24 Tg.dr V (by decide);have e8:=C 24 (d.1+e.1) _ .fz .fz _ _ 24 I GW (by decide);have sG:=nK (n:=2) Tg.dr V (by decide);have e9:=H (bD gs (jQ 2 gs) [(bA 0 d.1 xs).sum,(bA d.1 (d.1+e.1) xs).sum]) (bD d.2 (jQ d.1 d.2) (bA 0 d.1 xs)*(1 / aR gs 0 0)+bD e.2 (jQ e.1 e.2) (bA d.1 (d.1+e.1) xs)*(1 / aR gs 1 1)) (sG.mono (by decide)) ((o0.add o1).mono (by decide));have G:bD (bq (allR (aQ 0 [d,e]) gs)) (jQ (d.1+e.1) (bq (allR (aQ 0 [d,e]) gs))) xs=bD gs (jQ 2 gs) [(bA 0 d.1 xs).sum,(bA d.1 (d.1+e.1) xs).sum]+(bD d.2 (jQ d.1 d.2) (bA 0 d.1 xs)*(1 / aR gs 0 0)+bD e.2 (jQ e.1 e.2) (bA d.1 (d.1+e.1) xs)*(1 / aR gs 1 1)):=by
  rw[dK I GW,dK (n:=2) Tg.dr V,dK c.dr G0,dK a.dr G1];exact JF Tg c a u dp ep Yr Yq (λh l r=>by rw[jT (by left) (by left) l (by left),show((0:Nat):Int)+h=h by left]) λh l r=>by rw[jT (by left) (by left) l (by omega)]
 rw[<- G]at e9;have eR:bV (d.1+e.1) (bq (allR (aQ 0 [d,e]) gs))=.tup [.int ((d.1+e.1:Nat):Int),.lst .fz (bg (bq (allR (aQ 0 [d,e]) gs)))]:=rfl;rw[eR]at e4 Q e8;have r1:aA bt (bg (bq (allR (aQ 0 [d,e]) gs)))=bg (bq (allR (aQ 0 [d,e]) gs)):=bZ _ _;have r2:aA bo (bg (bq (allR (aQ 0 [d,e]) gs)))=bg (bq (allR (aQ 0 [d,e]) gs)):=bZ _ _;have r3:aA iK (bg (bq (allR (aQ 0 [d,e]) gs)))=bg (bq (allR (aQ 0 [d,e]) gs)):=bZ _ _;have Z:aP b6 (bg (bq (allR (aQ 0 [d,e]) gs)))=false:=fg _ _;have m1:aO bt (bV 2 gs)=bV 2 gs:=by simp[bV]
 have m2:aO bo (bV 2 gs)=bV 2 gs:=by simp[bV]
 have mX:aA bt (aU .fz [d,e])=aU .fz [d,e]:=by rw[bz];rfl
 have Ex:aA bo (aU .fz [d,e])=aU .fz [d,e]:=by rw[bz];rfl
 generalize gM (d.1+e.1) (bq (allR (aQ 0 [d,e]) gs))=w at *;generalize bD (bq (allR (aQ 0 [d,e]) gs)) (jQ (d.1+e.1) (bq (allR (aQ 0 [d,e]) gs))) xs=SW at *;generalize jQ (d.1+e.1) (bq (allR (aQ 0 [d,e]) gs))=RW at *;generalize bg (bq (allR (aQ 0 [d,e]) gs))=R at *;generalize bD gs (jQ 2 gs) [(bA 0 d.1 xs).sum,(bA d.1 (d.1+e.1) xs).sum]=SG at *;generalize bD d.2 (jQ d.1 d.2) (bA 0 d.1 xs)=S0 at *;generalize bD e.2 (jQ e.1 e.2) (bA d.1 (d.1+e.1) xs)=x at *;generalize jQ 2 gs=RG at *;generalize (gM d.1 d.2).map (λs=>aR gs 0 0*s)=SD at *;generalize gM 2 gs=o at *;generalize bA 0 d.1 xs=m at *;generalize bA d.1 (d.1+e.1) xs=k at *;generalize S0*(1 / aR gs 0 0)=v at *;generalize x*(1 / aR gs 1 1)=y at *;generalize bV 2 gs=Y at *;generalize aU .fz [d,e]=L at *;generalize ((d.1+e.1:Nat):Int)=N at *;have qz:qD 0=.tup [.int 0,.int 1]:=rfl;rw[qz]at u1;have F:[m.sum]++[k.sum]=[m.sum,k.sum]:=rfl;rw[F]at u2;have i0:((0:Nat):Int)=0:=rfl;have i1:((1:Nat):Int)=1:=rfl;rw[i0]at u1;rw[i1]at u2;rw[FL]at u1;have el:d9 (λd E=>cB (.nm 9) d E) (λE=>b8 Φ ue E) [.int 0,.int 1] [some Y,some (.lst .fz L),some (.lst .fz (bj xs)),some (.tup [.int N,.lst .ow R]),some (.lst .ow (bj o)),some (.lst .ow []),some (.lst .ow []),some (.tup [.int 0,.int 1]),some (.int 0),none,none,none] =
   ok (.nx,[some Y,some (.lst .fz L),some (.lst .fz (bj xs)),some (.tup [.int N,.lst .ow R]),some (.lst .ow (bj o)),some (.lst .ow (bj w)),some (.lst .ow (bj [m.sum,k.sum])),some (qD (v+y)),some (.int N),some (.int 1),some (.lst .ow (bj k)),some (qD x)]):=by
  refine cS (ρ1:=[some Y,some (.lst .fz L),some (.lst .fz (bj xs)),some (.tup [.int N,.lst .ow R]),some (.lst .ow (bj o)),some (.lst .ow []),some (.lst .ow []),some (.tup [.int 0,.int 1]),some (.int 0),some (.int 0),none,none]) (by simp) (by exact u1 _ _ _) ?_;refine cS (ρ1:=[some Y,some (.lst .fz L),some (.lst .fz (bj xs)),some (.tup [.int N,.lst .ow R]),some (.lst .ow (bj o)),some (.lst .ow (bj SD)),some (.lst .ow (bj [m.sum])),some (qD v),some (.int d.1),some (.int 1),some (.lst .ow (bj m)),some (qD S0)]) (by simp) (by exact u2 _ _ _) ?_;rfl
 have M:cC Φ (.mO (.int 2)) [some Y,some (.lst .fz L),some (.lst .fz (bj xs)),some (.tup [.int N,.lst .ow R]),some (.lst .ow (bj o)),some (.lst .ow []),some (.lst .ow []),some (.tup [.int 0,.int 1]),some (.int 0),none,none,none]=ok ([.int 0,.int 1],[some Y,some (.lst .fz L),some (.lst .fz (bj xs)),some (.tup [.int N,.lst .ow R]),some (.lst .ow (bj o)),some (.lst .ow []),some (.lst .ow []),some (.tup [.int 0,.int 1]),some (.int 0),none,none,none]):=by
  rw[Lj (n:=2) (by simp) (by decide) (by decide)];rfl
 have hf:=fb (Φ:=Φ) (t:=.nm 9) (b:=ue) M el;have b1:b8 Φ (lP.take 7) [some Y,some (.lst .fz L),some (.lst .fz (bj xs)),none,none,none,none,none,none,none,none,none]=ok (.nx,[some Y,some (.lst .fz L),some (.lst .fz (bj xs)),some (.tup [.int N,.lst .ow R]),some (.lst .ow (bj o)),some (.lst .ow (bj w)),some (.lst .ow (bj [m.sum,k.sum])),some (qD (v+y)),some (.int N),some (.int 1),some (.lst .ow (bj k)),some (qD x)]):=by
  simp[lP,m1,m2,mX,Ex,e1,e2,r1,r2,r3,Z,hf]
 have b2:b8 Φ (lP.drop 7) [some Y,some (.lst .fz L),some (.lst .fz (bj xs)),some (.tup [.int N,.lst .ow R]),some (.lst .ow (bj o)),some (.lst .ow (bj w)),some (.lst .ow (bj [m.sum,k.sum])),some (qD (v+y)),some (.int N),some (.int 1),some (.lst .ow (bj k)),some (qD x)]=ok (.rt (.bl true),[some Y,some (.lst .fz L),some (.lst .fz (bj xs)),some (.tup [.int N,.lst .ow R]),some (.lst .ow (bj o)),some (.lst .ow (bj w)),some (.lst .ow (bj [m.sum,k.sum])),some (qD (v+y)),some (.int N),some (.int 1),some (.lst .ow (bj k)),some (qD SW)]):=by
  generalize hZZ:[m.sum,k.sum]=ZZ at *;simp[lP,m1,m2,r1,r2,r3,Z,e4,PL,e5,e7,e9,Q,e8,IV]
 rw[mk_eq (show[Y,D.lst .fz L,D.lst .fz (bj xs)].length=3 from rfl)];show pM (b8 Φ (lP.take 7++lP.drop 7) [some Y,some (.lst .fz L),some (.lst .fz (bj xs)),none,none,none,none,none,none,none,none,none])=_;rw[xD Φ _ _ _ _ b1,b2];rfl
noncomputable def G_:CE:=.comp 1 (.nm 0) [0] .mO [(.int 2)] [] (.call 279 [(.call 200 [(.v 1),(.v 0)]),(.int 3)])
def oh:ai:=[.asg (.nm 1) G_,.asg (.nm 2) (.call 279 [(.bin .add (.bin .mul (.int 2) (.call 200 [(.v 0),(.int 2)])) (.int 1)),(.int 2)]),.asg (.nm 3) (.bin .add (.ix (.ix (.v 1) (.int 0)) (.int 0)) (.ix (.ix (.v 1) (.int 1)) (.int 0))),.asg (.nm 4) (.call 256 [(.v 0),(.int 3),(.v 3)]),.ifs (.not (.call 280 [(.v 1),(.call 256 [(.v 0),(.int 4),(.v 3)]),(.v 4)])) [.ret (.bl false)] [],.ret (.call 281 [(.v 2),(.v 1),(.v 4)])]
structure TV(Φ:aV):Prop where
 Dt:xA (Φ 200)
 Q8:Jh (Φ 256)
 LY:R7 (Φ 279)
 WW:R5 (Φ 280)
 WV:Jg (Φ 281)
theorem Qb(Φ:aV)(Q:TV Φ)(ns:aa):mk Φ 1 5 oh [.lst .sc (ah ns)]=ok (.bl true):=by
 obtain⟨d,l,a1,b,_,H⟩:=Q.LY (gh ns 0) 3 (by decide) (by decide);obtain⟨e,j,a2,a,_,F⟩:=Q.LY (gh ns 1) 3 (by decide) (by decide);obtain⟨⟨n,gs⟩,Wg,a3,Tg,z,E⟩:=Q.LY (2*gh ns 2+1) 2 (by decide) (by decide);have r:n=2:=by
  have h1:(n:Int)=1+(2*gh ns 2+1).fmod ((2:Nat):Int):=z;have h2:(2*gh ns 2+1).fmod ((2:Nat):Int)=1:=by
   rw[Int.fmod_eq_emod_of_nonneg _ (by decide)];left
  left
 subst r;have d3:=b.n3;have e3:=a.n3;obtain⟨xs,b1,i,f⟩:=Q.Q8 ns 3 (d.1+e.1) (by decide) (by left);obtain⟨ws,Z,w,m⟩:=Q.Q8 ns 4 (d.1+e.1) (by decide) (by left);have Y:=Q.WW d e l j ws xs b a w i m f;have X:=Q.WV gs d e Wg l j xs Tg b a E H F i f;have R:=Q.Dt ns 0 (by decide);have P:=Q.Dt ns 1 (by decide);have O:=Q.Dt ns 2 (by decide);have s:∀x:Int,cL .mul (.int 2) (.int x)=ok (.int (2*x)):=λx=>dW (by unfold eu;simp);have S:bG Φ G_ [some (.lst .sc (ah ns)),none,none,none,none]=ok (.lst .ow (aU .ow [d,e])):=by
  unfold G_;rw[bW (xs:=[.int 2]) (items:=[0,1].map λ(k:Nat)=>D.int (k:Int)) (ds:=[0,1].map λ(k:Nat)=>if k=0 then cj .ow d else cj .ow e) (by simp) ?_ (bH λk B=>?_) (by show 2<=cE;decide)]
  ·show ok (D.lst .ow (aA iK [cj .ow d,cj .ow e]))=_;rw[show[cj .ow d,cj .ow e]=aU .ow [d,e] from rfl,bz];rfl
  ·exact sQ Φ (n:=2) (by decide) (by decide)
  ·refine⟨[some (.int (k:Int)),some (.lst .sc (ah ns))],by simp[bF],by simp,?_⟩;have:k=0\/k=1:=by simpa using B
   have g:∀y:Dw,aO iK (cj .ow y)=cj .ow y:=λy=>b9 _ _ _;have a1:Φ 279 [.int (gh ns 0),.int 3]=ok (cj .ow d):=a1;have a2:Φ 279 [.int (gh ns 1),.int 3]=ok (cj .ow e):=a2;rcases this with rfl|rfl
   ·simp[R,a1,g]
   ·simp[P,a2,g]
 have t:aA bt (aU .ow [d,e])=[cj .al d,cj .al e]:=by rw[bz];rfl
 have Ex:aA bo [cj .al d,cj .al e]=aU .fz [d,e]:=by rw[show[cj .al d,cj .al e]=aU .al [d,e] from rfl,bz];rfl
 have o:aP b6 (aU .ow [d,e])=false:=il (by rfl) _;have c:∀y:Dw,mq (cj .al y) (.int 0)=ok (.int y.1):=λy=>by show mq (.tup [.int y.1,.lst .al (bg y.2)]) (.int 0)=_;simp
 have h:∀y:Dw,aO bt (cj .al y)=cj .al y:=λy=>b9 _ _ _;have a3:Φ 279 [.int (2*gh ns 2+1),.int 2]=ok (cj .ow (2,gs)):=a3;have M:aO iK (cj .ow (2,gs))=cj .ow (2,gs):=b9 _ _ _;have K:aO bo (aO bt (cj .ow (2,gs)))=bV 2 gs:=by rw[b9,b9];rfl
 have I:aT b6 (cj .ow (2,gs))=false:=jU _ _ _;have T:(d.1:Int)+(e.1:Int)=((d.1+e.1:Nat):Int):=by simp
 generalize ((d.1+e.1:Nat):Int)=N at *;generalize aU .fz [d,e]=L at *;generalize aU .ow [d,e]=L2 at *;generalize cj .ow (2,gs)=G at *;generalize bV 2 gs=G2 at *;generalize gh ns 2=C at *;have u:=c d;have v:=c e;have p:=h d;have q:=h e;generalize cj .al d=U at *;generalize cj .al e=V at *;simp[mk_eq,oh,AM Φ G_ _ rfl,S,o,O,s,a3,M,I,t,p,q,u,v,T,b1,Z,Ex,Y,K,X]
end DI
end
namespace PySem.W.Fast
def tw4147196735770442167:=0
def tw3966415345473119722:=0
def tw3412022167722787239:=0
def tw1823905202920178114:=0
def tw12141009743741659247:=0
def tw16746903745582518902:=0
def tw9169406993184833735:=0
def tw15469740872068138189:=0
def tw11794980521311842977:=0
def tw9977019832431592260:=0
def tw1104864500362298595:=0
def tw5354140507586269472:=0
def tw15588176392261287715:=0
def tw7598122944384189392:=0
def tw3103247543373438428:=0
def tw8423213551108156191:=0
def tw6134918464014650564:=0
def tw17981433604325364566:=0
def tw3895586607362000239:=0
def tw9679693356957243938:=0
def tw6503027671095584345:=0
def tw909726216027626139:=0
def tw11078737898444685706:=0
def tw285906300910716770:=0
def tw16377456912921842530:=0
def tw13036533053013105117:=0
def tw16122932440939699116:=0
def tw12582821378830782394:=0
def tw15090351788721417590:=0
def tw7022306121952769393:=0
def tw16900291156901716461:=0
def tw17462190182970828052:=0
def tw4741111670958430233:=0
def tw3594369025689024494:=0
def tw6893617100205809494:=0
def tw9223724628286151873:=0
def tw17245299871061987169:=0
def tw10566770926062857963:=0
def tw11082289330279571844:=0
def tw8456891230583133413:=0
def tw2690337511631818239:=0
def tw2334276034833263816:=0
def tw936389852245695199:=0
def tw3555803822396216842:=0
def tw9444459959292631880:=0
def tw12669979738157263201:=0
def tw1287094035106888831:=0
def tw11929413850755516744:=0
def tw18215574748457642643:=0
def tw16721291619345149331:=0
def tw11557494313724426611:=0
def tw1326437565784893305:=0
def tw17347837935883167789:=0
def tw11786289127344637836:=0
def tw1217225530181201936:=0
def tw4057771428497658228:=0
def tw808669910954805530:=0
def tw13670393284698615684:=0
def tw8694948188029928944:=0
def tw9665666571672254323:=0
def tw6103505241786001470:=0
def tw1920389148815224320:=0
def tw5346707312041549367:=0
def tw4435319485083871345:=0
def tw5700363737630472823:=0
def tw3671541354590202771:=0
def tw1823717609268827684:=0
def tw14065414931508252446:=0
def tw16425108788457549645:=0
def tw11662266650901599445:=0
def tw3911002545625321942:=0
def tw5144491927901186134:=0
def tw2300357692996513117:=0
def tw10623235208523028819:=0
def tw6540390994353143603:=0
def tw15452528312933585063:=0
def tw3645944616809898726:=0
def tw10380373868169530772:=0
def tw11889115209804502925:=0
def tw6988463888819120336:=0
def tw11645053662675981208:=0
def tw9813941145611792424:=0
def tw12793373438076015851:=0
def tw10428496489526096236:=0
def tw14061125265960834233:=0
def tw15753546214102537208:=0
def tw8211512908483486588:=0
def tw14992063888733857270:=0
def tw3167172334612877113:=0
def tw15879976337649116389:=0
def tw5951904486765199664:=0
def tw6880638211574973843:=0
def tw1038967554280861697:=0
def tw9925443741877972238:=0
def tw3217772390986589806:=0
def tw16139763605290460348:=0
def tw3584901541130287314:=0
def tw4466791803352211982:=0
def tw17337529568833421000:=0
def tw3754997556904630028:=0
def tw2876686860137618189:=0
def tw5569908863193484437:=0
def tw3914760624366186072:=0
def tw8994910068605016510:=0
def tw16764502716540887561:=0
def tw18395634306519875343:=0
def tw15773246171144479757:=0
def tw7209543460422297855:=0
def tw1937430326378320854:=0
def tw6711523541653513547:=0
def tw9441199671232201358:=0
def tw18289180444413616398:=0
def tw18376940581610457873:=0
def tw1779587696103591090:=0
def tw16594635531939843820:=0
def tw17824886757267819314:=0
def tw7971385263429983625:=0
def tw5676622525153376432:=0
def tw5967642856832668063:=0
def tw9091434553687854132:=0
def tw9634117887247748953:=0
def tw2254050592555501796:=0
def tw11704043813897314601:=0
def tw2456021834573589521:=0
def tw7959828765858529725:=0
def tw1616527913034420607:=0
def tw3692528470020197625:=0
def tw330572828644055567:=0
def tw16290564504394320563:=0
def tw2598590761339851639:=0
def tw5663955729242418996:=0
def tw10470247369964182207:=0
def tw6064989559582055347:=0
def tw12881141193043093448:=0
def tw3621067091542647508:=0
def tw2419928094154640419:=0
def tw5234229583909972922:=0
def tw2439886991763713135:=0
def tw13248551906752472870:=0
def tw2162984285805983199:=0
def tw2000799893823887391:=0
def tw10217934557787387346:=0
def tw18020628049018946096:=0
def tw16374575500558198462:=0
def tw6840507830054220334:=0
def tw17672157433894624685:=0
def tw13104634530984116122:=0
def tw13810621296610910412:=0
def tw10067465557064982868:=0
def tw3151764988132368743:=0
def tw12488580479895604115:=0
def tw2860964274911058127:=0
def tw2989413469844122619:=0
def tw15625928380953884555:=0
def tw14102302911503346281:=0
def tw4644989581414756063:=0
def tw5040907229155826361:=0
def tw303963607708234405:=0
def tw13849899422942819622:=0
def tw10176338203123523001:=0
def tw12296035583472760441:=0
def tw14402378876023189606:=0
def tw7302105751656721626:=0
def tw12926902250585657266:=0
def tw10125081161046446242:=0
def tw12673398769938993069:=0
def tw497571219504620180:=0
def tw2738892868603917866:=0
def tw6295909992902449994:=0
def tw7627332744257070094:=0
def tw695910036028972653:=0
def tw412470643560740051:=0
end PySem.W.Fast
namespace Asm
open PySem PySem.Spec PyProof.Rows L2 DI
noncomputable def top(i:Nat):Stmt:=PySem.Challenge.pw_sharesample_k93_whole_spreads_of_layers.main.body.getD i (.Pass ⟨0,0,0,0⟩)
def px:Px:=⟨λn a bl e=>if n=1020 then xw true a bl e else if n=1022 then Ea a bl e else if n=1024 then xq a bl e else if n=1030 then tI a bl e else if n=1032 then mz a bl e else if n=1035 then eO "sorted" a bl e else if n=1038 then ze a bl e else if n=1039 then mz a bl e else if n=1040 then D8 a bl e else if n=1041 then zg a bl e else if n=1046 then zd a bl e else none,λn a bl e=>if n=1000 then pR a bl e else none,λn a bl e=>if n=1010 then n_ a bl e else if n=1013 then Eb a bl e else if n=1033 then tH a bl e else none,λn a bl e=>if n=1201 then xp a bl e else none⟩
def PT:aV
 |1000=>t4
 |1010=>rb
 |1013=>Al
 |1020=>(cutD true)
 |1022=>NU
 |1024=>uV
 |1030=>DV
 |1032=>DX
 |1033=>vz
 |1035=>pN
 |1038=>Nq
 |1039=>xg
 |1040=>P2
 |1041=>P6
 |1046=>OB
 |1201=>we
 |_=>λ_=>none
theorem pr(F:aV)(i:Nat)(m:aw):xB px (xm PT F i m)/\Ni px (xm PT F i m):=⟨⟨(λX l bl k L p e args a F q b=>CU a (λa=>MS rfl L a b) λa=>CU a (λa=>Rg rfl L a b) λa=>CU a (λa=>KY rfl L a b) λa=>CU a (λa=>Hf rfl L a b) λa=>CU a (λa=>MR rfl L a b) λa=>CU a (λa=>DS rfl L a b) λa=>CU a (λa=>OR rfl L a b) λa=>CU a (λa=>MI rfl L a b) λa=>CU a (λa=>P1 rfl L a b) λa=>CU a (λa=>P5 rfl L a b) λa=>CU a (λa=>OA rfl L a b) λa=>nomatch a),(λX l bl k L p e args a F q E t b pins s B H R A C D d items I y w v u z hR=>by
  dsimp only[px]at a;by_cases o:p=1000
  ·subst o;rw[if_pos rfl]at a;exact Jn rfl L a t b I y w v u z hR
  rw[if_neg o]at a;clear o;cases a)⟩,⟨(λX l bl k L j c p r x n args a i h g f F q b=>VE a (λa=>Gv rfl L j c a h g f b) λa=>VE a (λa=>Mx rfl L j c a h g f b) λa=>VE a (λa=>He rfl L j c a h g f b) λa=>nomatch a),(λX l bl k L j c p r x n args a i h g f F J G b=>VD a (λa=>JG rfl L j c a h g f b) λa=>nomatch a)⟩⟩
noncomputable def xt(F:aV)(i a b:Nat)(c:ai):aV:=xm PT F i (mk F a b c)
noncomputable def BL:ak:=["abs","all","bool","int","isinstance","len","list","range","set","sorted","sum","tuple","zip"]
noncomputable def CC:List (Str×GK):=[("MOST_CHOICES",GK.i 500),("MOST_HOUSES",GK.i 12),("MOST_LAYERS",GK.i 4),("ONE",GK.t [1,1])]
noncomputable def kT:aV:=xm PT PT 0 λ_=>none
noncomputable def kS:aV:=xt kT 200 2 4 (ft)
noncomputable def gm:aV:=xt kS 201 2 4 (lQ)
noncomputable def fA:aV:=xt gm 255 1 2 (Hy)
noncomputable def mJ:aV:=xt fA 256 3 6 (zo)
noncomputable def gZ:aV:=xt mJ 202 2 2 (zm 201)
noncomputable def mI:aV:=xt gZ 212 2 8 (Hw)
noncomputable def kR:aV:=xt mI 203 2 2 (jZ 201)
noncomputable def kU:aV:=xt kR 279 2 9 (Hx)
noncomputable def i5:aV:=xt kU 0 1 1 (iP)
noncomputable def eU:aV:=xt i5 43 2 2 (dy)
noncomputable def hJ:aV:=xt eU 1 2 3 (dw)
noncomputable def p6:aV:=xt hJ 3 1 1 (cf)
noncomputable def jI:aV:=xt p6 12 2 2 (lR)
noncomputable def fC:aV:=xt jI 44 1 3 (gI)
noncomputable def jG:aV:=xt fC 9 1 3 (cV)
noncomputable def gk:aV:=xt jG 10 2 2 (gG)
noncomputable def gW:aV:=xt gk 14 1 4 (jY)
noncomputable def kW:aV:=xt gW 15 1 2 (eW)
noncomputable def p7:aV:=xt kW 45 1 4 (iQ)
noncomputable def iX:aV:=xt p7 11 2 2 (iw)
noncomputable def fE:aV:=xt iX 16 1 1 (fP)
noncomputable def fF:aV:=xt fE 17 1 1 (dH)
noncomputable def fD:aV:=xt fF 40 2 2 (cy)
noncomputable def eG:aV:=xt fD 46 2 2 (iR 40 3)
noncomputable def e_:aV:=xt eG 47 2 2 (iR 40 4)
noncomputable def i4:aV:=xt e_ 2 2 3 (cX)
noncomputable def kQ:aV:=xt i4 6 2 2 (jZ 2)
noncomputable def gY:aV:=xt kQ 41 1 2 (iO)
noncomputable def jH:aV:=xt gY 48 3 5 (eX)
noncomputable def gn:aV:=xt jH 50 2 6 (gH)
noncomputable def g_:aV:=xt gn 65 3 3 (j3)
noncomputable def iU:aV:=xt g_ 19 3 4 (oi)
noncomputable def mK:aV:=xt iU 20 1 2 (lO)
noncomputable def fw:aV:=xt mK 7 2 2 (Em 2)
noncomputable def iZ:aV:=xt fw 53 1 1 (og)
noncomputable def kP:aV:=xt iZ 42 1 2 (fR)
noncomputable def fB:aV:=xt kP 52 1 1 (iN)
noncomputable def gw:aV:=xt fB 99 2 4 (HD)
noncomputable def gv:aV:=xt gw 98 2 2 (HE)
noncomputable def hU:aV:=xt gv 97 2 3 (HC)
noncomputable def gX:aV:=xt hU 101 2 6 (HB)
noncomputable def gq:aV:=xt gX 100 1 4 (Hs)
noncomputable def p5:aV:=xt gq 102 2 8 (Hz)
noncomputable def iW:aV:=xt p5 104 2 2 (Ek)
noncomputable def mG:aV:=xt iW 281 3 12 (lP)
noncomputable def iY:aV:=xt mG 49 2 4 (j0)
noncomputable def gu:aV:=xt iY 51 3 3 (fQ)
noncomputable def mH:aV:=xt gu 96 1 2 (HA)
noncomputable def iV:aV:=xt mH 103 1 2 (Hu)
noncomputable def Et:aV:=xt iV 280 3 10 (Hv)
def OP:=J_ kT
def Bt:=FE kS
def Um:=UG gm Bt
def Ul:=O7 fA OP Um
def JN:=O5 mJ (f:=201) Bt
def Uo:=UD gZ ⟨rfl,rfl,rfl,rfl⟩ Bt rfl
def OO:=yb mI (f:=201) Bt
def Uk:=UE kR ⟨rfl,rfl,rfl,rfl⟩ Bt JN OO Uo rfl
def t0:=wA kU
def X9:=so i5 t0
def t1:=me eU
def t3:=qk hJ t0 t1
def t12:=BM p6 t3 X9
def t44:=uA jI rfl rfl rfl
def t9:=nc fC t1
def Yd:=uy jG
def Sn:=zJ gk t9 Yd rfl
def t15:=qi gW Sn
def t45:=wB kW t0 t12 t15 t44
def t11:=BN p7 X9
def t16:=sg iX t11 t45
def Np:=ng fE t16
def Yb:=nh fF t3
theorem X8:gK 3 kc (eG 46):=yc fD (f:=40) rP Yb
theorem Uh:gK 4 kc (e_ 47):=yc eG (f:=40) rP Yb
def t2:=ql e_ t1
def t6:=yb i4 (f:=2) t2.1
def Ya:=wz kQ t9 Yd
def X7:=qj gY t6 Ya rfl
def t50:=@uz jH t2 Sn rfl
def X6:=zL gn Np X8 Uh X7 t50
def t19:=FF g_ t2
def Yc:=BK iU Sn Np t19
def t7:=s_by mK (f:=2) t2
def t53:=FD fw t7 Yc
def X_:=sj iZ t2 Ya
def t52:=wy kP X_ Uh
def t99:=UL fB rfl
def X5:=UM gw t99
def t97:=UK gv Np
def Us:=UJ hU t6 rfl
def Ut:=UA gX
def OQ:=UH gq ⟨rfl,rfl,rfl,rfl⟩ X_ Ut Us rfl rfl
def Uq:=Uz p5 Np t97 X5 OQ
def Ui:=O6 iW Yc t52 t53 X6 Uq JN OO rfl
def t49:=@zK mG t2 Sn rfl
def t51:=si iY Np X8 Uh X7 t49
def t96:=UI gu Np
def Ur:=UB mH t96 X5 OQ rfl
def Uj:=UC iV t51 X6 Ur JN rfl
theorem zU:∀a:aa,(mk Et 1 5 (oh)) [.lst .sc (ah a)]=ok (.bl true):=Qb Et ⟨OP,Ul,Uk,Uj,Ui⟩
theorem MV:Tz (top 68) ["_law_script","_law_drawings","_law_groups_here","_law_many","_law_worths"] ["_law_script"] [(200,"_law_cell"),(256,"_law_fractions"),(279,"_law_full"),(280,"_law_layers"),(281,"_law_groups")] BL CC px (oh)=true:=by decide +kernel
theorem all_mk{l:PySem.W.OpenLaw}{w:World}{K:av}{h:Heap}{mg:bp}{fa t3:Addr}{j:Option Addr}{Z_:Nat}{Z8:Array (Option Value)}{OD OC:Tok}{XZ XY XX:Value}(X:K.In h)(G:h.Ns mainGlobals mg)(k:mg "law" = some (.ref fa))
  (a0:Df K "_law_cell" (top 58))
  (a1:Df K "_law_frac" (top 59))
  (a2:Df K "_law_fraction" (top 63))
  (a3:Df K "_law_fractions" (top 64))
  (a4:Df K "_law_add" (top 60))
  (a5:Df K "_law_drawing" (top 62))
  (a6:Df K "_law_mul" (top 61))
  (a7:Df K "_law_full" (top 65))
  (a8:Df K "is_whole" (top 9))
  (a9:Df K "are_houses" (top 22))
  (a10:Df K "common_divisor" (top 10))
  (a11:Df K "is_fraction" (top 12))
  (a12:Df K "is_row" (top 24))
  (a13:Df K "rows_rise" (top 25))
  (a14:Df K "common_bottom" (top 16))
  (a15:Df K "tops_over" (top 17))
  (a16:Df K "weighed_lots" (top 26))
  (a17:Df K "sums_to_one" (top 27))
  (a18:Df K "is_drawn" (top 28))
  (a19:Df K "is_lot" (top 23))
  (a20:Df K "is_drawing" (top 29))
  (a21:Df K "check_drawing" (top 30))
  (a22:Df K "are_fractions" (top 13))
  (a23:Df K "check_weights" (top 47))
  (a24:Df K "check_worths" (top 48))
  (a25:Df K "fraction_of" (top 11))
  (a26:Df K "frac_times" (top 14))
  (a27:Df K "over_one" (top 18))
  (a28:Df K "lot_guesses" (top 49))
  (a29:Df K "spread_of" (top 51))
  (a30:Df K "guess_spread" (top 56))
  (a31:Df K "joint_share" (top 31))
  (a32:Df K "lot_shares" (top 32))
  (a33:Df K "frac_by" (top 15))
  (a34:Df K "right_weights" (top 54))
  (a35:Df K "frac_total" (top 19))
  (a36:Df K "whole_of" (top 53))
  (a37:Df K "count_choices" (top 39))
  (a38:Df K "check_bounds" (top 38))
  (a39:Df K "check_groups" (top 37))
  (a40:Df K "chosen_rows" (top 41))
  (a41:Df K "rows_behind" (top 40))
  (a42:Df K "drawn_within" (top 42))
  (a43:Df K "within" (top 44))
  (a44:Df K "_law_groups" (top 67))
  (a45:Df K "mean_of" (top 50))
  (a46:Df K "guess_mean" (top 52))
  (a47:Df K "check_layers" (top 36))
  (a48:Df K "layered" (top 43))
  (a49:Df K "_law_layers" (top 66))
  (a50:Df K "law" (top 68))
  (z:dP (λy=>PySem.W.nsIn K mainGlobals y=some none) BL)
  (q0:PySem.W.nsIn K mainGlobals "MOST_CHOICES" = some (some XZ)) (r0:RelV (.int 500) XZ)
  (q1:PySem.W.nsIn K mainGlobals "MOST_HOUSES" = some (some XY)) (r1:RelV (.int 12) XY)
  (q2:PySem.W.nsIn K mainGlobals "MOST_LAYERS" = some (some XX)) (r2:RelV (.int 4) XX)
  (q3:PySem.W.nsIn K mainGlobals "ONE" = some (some (.ref t3))) (r3:K.lookup t3=some ⟨.type "tuple",j,.seq #[.int 1 OD,.int 1 OC] Z_,Z8⟩) :
  ∃m:FuncData,(∀(s:Shared) (v:Value),BindsTo s m ⟨[v],[]⟩ [("_law_script",v)])/\∀base:Heap,K.In base->base.Ns mainGlobals mg->kh l.prog w K mg base AZ 52 fa m ["_law_script"] (Fw K 1 sO):=by
 obtain⟨f,m,Fu,a⟩:=a50;have e:=k.symm.trans (abE X G a);cases e;obtain⟨oc,od,kV,dc,pm,an,cd,ct,sl,rfl,_,_⟩:=id Fu.ex;have Y:=dP.nn X G z;have x0:∃u,mg "MOST_CHOICES" = some u/\AX K (GK.i 500) u:=⟨_,abE X G q0,r0⟩
 have x1:∃u,mg "MOST_HOUSES" = some u/\AX K (GK.i 12) u:=⟨_,abE X G q1,r1⟩
 have x2:∃u,mg "MOST_LAYERS" = some u/\AX K (GK.i 4) u:=⟨_,abE X G q2,r2⟩
 have x3:∃u,mg "ONE" = some u/\AX K (GK.t [1,1]) u:=⟨_,abE X G q3,t3,_,_,_,rfl,r3,rfl,rfl,by rw[sizeLine_eq];simp,(.cons ⟨_,rfl⟩ (.cons ⟨_,rfl⟩ .nil))⟩
 refine⟨PySem.W.fnOf "law" "law" (gF (top 68)) (dG (top 68)) (bU (top 68)) .none kV dc pm an cd ct,λs v=>.of_eq rfl,λbase _ _=>?_⟩;have N:=@en7 l.prog w K h base mg BL CC px PT X G pr Y ⟨x0,x1,x2,x3,fc⟩;have E0:=N 1 kT a0 ["_law_script","_law_k","_law_cell_here","_law_number"] 2 [] (ft) fc;have d:=N 2 kS a1 ["_law_top","_law_bottom","_law_one","_law_other"] 2 [] (lQ) fc;have E2:=N 3 gm a2 ["_law_number","_law_bottom"] 1 [(201,"_law_frac")] (Hy) ⟨d.u,fc⟩;have E3:=N 4 fA a3 ["_law_script","_law_at","_law_many","_law_found","_law_number","_law_k"] 3 [(200,"_law_cell"),(255,"_law_fraction")] (zo) ⟨E0.u,E2.u,fc⟩;have H:=N 5 mJ a4 ["_law_one","_law_other"] 2 [(201,"_law_frac")] (zm 201) ⟨d.u,fc⟩;have E5:=N 6 gZ a5 ["_law_number","_law_most","_law_many","_law_count","_law_weights","_law_k","_law_lot","_law_whole"] 2 [(201,"_law_frac")] (Hw) ⟨d.u,fc⟩;have E6:=N 7 mI a6 ["_law_one","_law_other"] 2 [(201,"_law_frac")] (jZ 201) ⟨d.u,fc⟩;have E7:=N 8 kR a7 ["_law_number","_law_most","_law_many","_law_rows","_law_every","_law_chances","_law_less","_law_chance","_law_lot"] 2 [(201,"_law_frac"),(202,"_law_add"),(203,"_law_mul"),(212,"_law_drawing")] (Hx) ⟨d.u,H.u,E6.u,E5.u,fc⟩;have p:=N 9 kU a8 ["thing"] 1 [] (iP) fc;have E9:=N 10 i5 a9 ["thing","many"] 2 [(0,"is_whole")] (dy) ⟨p.u,fc⟩;have n:=N 11 eU a10 ["one","other","rest"] 2 [] (dw) fc;have ZV:=N 12 hJ a11 ["thing"] 1 [(0,"is_whole"),(1,"common_divisor")] (cf) ⟨p.u,n.u,fc⟩;have Z:=N 13 p6 a12 ["thing","many"] 2 [(3,"is_fraction"),(43,"are_houses")] (lR) ⟨ZV.u,E9.u,fc⟩;have V:=N 14 jI a13 ["rows","ahead","behind"] 1 [] (gI) fc;have ZU:=N 15 fC a14 ["some","bottom","part"] 1 [(1,"common_divisor")] (cV) ⟨n.u,fc⟩;have ZT:=N 16 jG a15 ["some","bottom"] 2 [] (gG) fc;have g:=N 17 gk a16 ["rows","chances","lots","bottom"] 1 [(9,"common_bottom"),(10,"tops_over")] (jY) ⟨ZU.u,ZT.u,fc⟩;have U:=N 18 gW a17 ["rows","weighed"] 1 [(14,"weighed_lots")] (eW) ⟨g.u,fc⟩;have T:=N 19 kW a18 ["thing","many","rows","row"] 1 [(0,"is_whole"),(12,"is_row"),(15,"sums_to_one"),(44,"rows_rise")] (iQ) ⟨p.u,Z.u,U.u,V.u,fc⟩;have S:=N 20 p7 a19 ["thing","many"] 2 [(43,"are_houses")] (iw) ⟨E9.u,fc⟩;have R:=N 21 iX a20 ["thing"] 1 [(11,"is_lot"),(45,"is_drawn")] (fP) ⟨S.u,T.u,fc⟩;have b:=N 22 fE a21 ["thing"] 1 [(16,"is_drawing")] (dH) ⟨R.u,fc⟩;have ZS:=N 23 fF a22 ["thing","many"] 2 [(3,"is_fraction")] (cy) ⟨ZV.u,fc⟩;have ZR:=N 24 fD a23 ["thing","many"] 2 [(40,"are_fractions")] (iR 40 3) ⟨ZS.u,fc⟩;have o:=N 25 eG a24 ["thing","many"] 2 [(40,"are_fractions")] (iR 40 4) ⟨ZS.u,fc⟩;have c:=N 26 e_ a25 ["top","bottom","divisor"] 2 [(1,"common_divisor")] (cX) ⟨n.u,fc⟩;have ZQ:=N 27 i4 a26 ["one","other"] 2 [(2,"fraction_of")] (jZ 2) ⟨c.u,fc⟩;have ZP:=N 28 kQ a27 ["some","bottom"] 1 [(9,"common_bottom"),(10,"tops_over")] (iO) ⟨ZU.u,ZT.u,fc⟩;have ZO:=N 29 gY a28 ["drawing","weights","worths","parts","tops"] 3 [(6,"frac_times"),(41,"over_one")] (eX) ⟨ZQ.u,ZP.u,fc⟩;have Q:=N 30 jH a29 ["rows","guesses","weighed","total","squares","bottom"] 2 [(2,"fraction_of"),(14,"weighed_lots")] (gH) ⟨c.u,g.u,fc⟩;have ZN:=N 31 gn a30 ["drawing","weights","worths"] 3 [(17,"check_drawing"),(46,"check_weights"),(47,"check_worths"),(48,"lot_guesses"),(50,"spread_of")] (j3) ⟨b.u,ZR.u,o.u,ZO.u,Q.u,fc⟩;have P:=N 32 g_ a31 ["weighed","one","other","having"] 3 [(2,"fraction_of")] (oi) ⟨c.u,fc⟩;have ZM:=N 33 iU a32 ["drawing","weighed"] 1 [(14,"weighed_lots"),(17,"check_drawing"),(19,"joint_share")] (lO) ⟨g.u,b.u,P.u,fc⟩;have O:=N 34 mK a33 ["one","other"] 2 [(2,"fraction_of")] (Em 2) ⟨c.u,fc⟩;have M:=N 35 fw a34 ["drawing"] 1 [(7,"frac_by"),(20,"lot_shares")] (og) ⟨O.u,ZM.u,fc⟩;have ZL:=N 36 iZ a35 ["some","tops"] 1 [(2,"fraction_of"),(41,"over_one")] (fR) ⟨c.u,ZP.u,fc⟩;have L:=N 37 kP a36 ["worths"] 1 [(42,"frac_total"),(47,"check_worths")] (iN) ⟨ZL.u,o.u,fc⟩;have J:=N 38 fB a37 ["inner","groups","count","group"] 2 [] (HD) fc;have ZK:=N 39 gw a38 ["drawing","inner"] 2 [(99,"count_choices")] (HE) ⟨J.u,fc⟩;have I:=N 40 gv a39 ["thing","many","drawing"] 2 [(17,"check_drawing")] (HC) ⟨b.u,fc⟩;have F:=N 41 hU a40 ["chance","layers","chosen","rows","longer","made"] 2 [(6,"frac_times")] (HB) ⟨ZQ.u,fc⟩;have E:=N 42 gX a41 ["inner","ahead","told","drawing"] 1 [] (Hs) fc;have ZJ:=N 43 gq a42 ["drawing","inner","layers","ways","chance","groups","part","lot"] 2 [(42,"frac_total"),(100,"rows_behind"),(101,"chosen_rows")] (Hz) ⟨ZL.u,E.u,F.u,fc⟩;have D:=N 44 p5 a43 ["drawing","inner"] 2 [(17,"check_drawing"),(97,"check_groups"),(98,"check_bounds"),(102,"drawn_within")] (Ek) ⟨b.u,I.u,ZK.u,ZJ.u,fc⟩;have C:=N 45 iW a44 ["_law_groups_here","_law_inner","_law_worths","_law_whole","_law_shares","_law_due","_law_sums","_law_own","_law_low","_law_group","_law_some","_law_spread"] 3 [(20,"lot_shares"),(52,"whole_of"),(53,"right_weights"),(65,"guess_spread"),(104,"within"),(202,"_law_add"),(203,"_law_mul")] (lP) ⟨ZM.u,L.u,M.u,ZN.u,D.u,H.u,E6.u,fc⟩;have B:=N 46 mG a45 ["rows","guesses","weighed","total"] 2 [(2,"fraction_of"),(14,"weighed_lots")] (j0) ⟨c.u,g.u,fc⟩;have A:=N 47 iY a46 ["drawing","weights","worths"] 3 [(17,"check_drawing"),(46,"check_weights"),(47,"check_worths"),(48,"lot_guesses"),(49,"mean_of")] (fQ) ⟨b.u,ZR.u,o.u,ZO.u,B.u,fc⟩;have x:=N 48 gu a47 ["thing","drawing"] 1 [(17,"check_drawing")] (HA) ⟨b.u,fc⟩;have r:=N 49 mH a48 ["drawings","everyone"] 1 [(96,"check_layers"),(98,"check_bounds"),(102,"drawn_within")] (Hu) ⟨x.u,ZK.u,ZJ.u,fc⟩;have q:=N 50 iV a49 ["_law_drawings","_law_weights","_law_worths","_law_many","_law_both","_law_mean","_law_spread","_law_drawing_here","_law_low","_law_high"] 3 [(51,"guess_mean"),(65,"guess_spread"),(103,"layered"),(202,"_law_add")] (Hv) ⟨A.u,ZN.u,r.u,H.u,fc⟩;exact enL 51 Et sO Fu MV (pr _ _ _) Y ⟨x0,x1,x2,x3,fc⟩ ⟨E0.u,E3.u,E7.u,q.u,C.u,fc⟩ (CD λns _=>(wK _ _ (zU ns)).2)
theorem walk{l:PySem.W.OpenLaw}{q:aI}{loose:ak}{r:(bp)->Heap->Prop}{c:World->Heap->Prop}{d:DefRec}{K:Params->av}(i:l.most=some 63)(t:d.params.defaults=[])
  (m:∀(w:World) (h:Heap),c w h->(K w.params).In h)
  (F:∀(w:World) (mg:bp) (fa:Addr) (h:Heap),(K w.params).In h->h.Ns mainGlobals mg->mg d.name=some (.ref fa) ->
   ∃b:FuncData,(∀(s:Shared) (u:Value),BindsTo s b ⟨[u],[]⟩ [("_law_script",u)])/\∀base:Heap,(K w.params).In base->base.Ns mainGlobals mg->kh l.prog w (K w.params) mg base AZ 52 fa b ["_law_script"] (Fw (K w.params) 1 sO)) :
  PySem.W.WalkO q loose r c l.row.toRowW d [] (λf e=>PySem.call f e) :=
 L2.EO (n:=63) (k:=52) (x:="_law_script") (CX:=λ_=>AZ) (sp:=λw=>Fw (K w.params) 1 sO) i (by decide) t ⟨rfl,by decide,by decide⟩ m F (λw H a g j p o=>K8 (K w.params) H a g sO (Ge j) p o) λ_ _ _ _ _ z=>z
end Asm
end
open PySem PySem.W PyProof.Rows
set_option maxRecDepth 100000 in
set_option maxHeartbeats 0 in
theorem PySem.Challenge.cw_sharesample_k93_whole_spreads_of_layers_holds : PySem.Challenge.rw_sharesample_k93_whole_spreads_of_layers.Holds := by
 w_on;o_law;k_head;(case hw=>w_witness2)
 k_fill
 refine Asm.walk (l:=PySem.Challenge.rw_sharesample_k93_whole_spreads_of_layers) rfl rfl (fun w h Y=>PySem.W.kIn_of Y) ?F
 case F =>
  intro w mg fa h KX G hmg
  refine' Asm.all_mk KX G hmg ?a0 ?a1 ?a2 ?a3 ?a4 ?a5 ?a6 ?a7 ?a8 ?a9 ?a10 ?a11 ?a12 ?a13 ?a14 ?a15 ?a16 ?a17 ?a18 ?a19 ?a20 ?a21 ?a22 ?a23 ?a24 ?a25 ?a26 ?a27 ?a28 ?a29 ?a30 ?a31 ?a32 ?a33 ?a34 ?a35 ?a36 ?a37 ?a38 ?a39 ?a40 ?a41 ?a42 ?a43 ?a44 ?a45 ?a46 ?a47 ?a48 ?a49 ?a50 ?zz ?q0 ?r0 ?q1 ?r1 ?q2 ?r2 ?q3 ?r3
  case a0 | a1 | a2 | a3 | a4 | a5 | a6 | a7 | a8 | a9 | a10 | a11 | a12 | a13 | a14 | a15 | a16 | a17 | a18 | a19 | a20 | a21 | a22 | a23 | a24 | a25 | a26 | a27 | a28 | a29 | a30 | a31 | a32 | a33 | a34 | a35 | a36 | a37 | a38 | a39 | a40 | a41 | a42 | a43 | a44 | a45 | a46 | a47 | a48 | a49 | a50 =>
   refine' DI.dmk ?x ?y ?z ?w
   case x | y | z | w=>k_is
  (case zz=>refine' ⟨?_,?_,?_,?_,?_,?_,?_,?_,?_,?_,?_,?_,?_,trivial⟩ <;> show PySem.W.nsIn _ _ _ = some none <;> k_is)
  (case q0=>k_is);(case r0=>exact ⟨_,rfl⟩)
  (case q1=>k_is);(case r1=>exact ⟨_,rfl⟩)
  (case q2=>k_is);(case r2=>exact ⟨_,rfl⟩)
  (case q3=>k_is);(case r3=>k_is)
